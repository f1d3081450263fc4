import PyProof.Rows.All
import KE.IntBitsLaws
import KE.KDictOf
import KE.KDictSum
import KE.KIntText
import KE.KSortTup
import KE.LcSums
import KE.RegKIsAll
import KE.KNestM
import KE.KPairComp
import Lean
import PySem.Challenge.RW_stonelay_k54_thoughts_refused
open PySem renaming wpAny_bind→ZB,Value→X8,Shared→X7,wpAny_pure→XS,mainGlobals→XO,FuncData→XD,sizeLine→Xq,model→Xn,Program→Xm,Paired→Xl,wpAny→Xk,boot_len→W2,World→WZ,starEach→WY,Around→WR,wpAny_holding→Wz,mem_of_lookup→Wu,SetTable→Wt,foldedSetIterable→Wq,compareOp→Wj,wpAny_loadPart'→Wa,PyData→V7,wpAny_mono→VU,wpAny_truthy_bool→VT,wpAny_loadPart_at→VR,tupleKind→VQ,codeAny_builtin→VJ,wpAny_newObj_type→VD,cLine→VA,relabel→Vl,Scope→Vi,Spec→Ve,sysModules→Vd,bootBuiltins→U4,wpAny_call_entry→UZ,wpAny_rule→UW,Builtin→UR,builtinLookup_eq_fast→UQ,wpAny_passesOwn→UN,binaryOp→UJ,plainId_quiet→UC,storedH→Ux,GenState→Ut,rawInt→Ul,wpAny_execs_nil→Ue,codeAny→T8,wpAny_dictEntries→T5,sizeLine_eq→T0,codeAny_call_builtin→TX,codeAny_mono→TN,wpAny_forIn_list→TJ,behindInMarks→Tx,typeLookup_type→Ts,backTo→Tr,entryOfKey→Tq,assignEach→Tp,wpAny_Call_Name_kw→Tn,swapsWith→Th,sliceBounds→Tg,wpAny_pyIter_list→S7,wpAny_pyIter_enum→S5,wpAny_setState_of→S4,ofAClassStatement→S2,wpAny_isTrue_Compare1→SV,wpAny_execs_cons→SL,wpAny_standAt→SG,comprehension→SD,wpAny_attempt→SC,NameKind→Sx,letOwnedTupleGo→Sq,wpAny_specialOf→So,wpAny_setEntries_of→Si,wpAny_typeOf→Sg,cellsFrom→Sc,pyNext→Sb,compEnvC→Sa,call_meets→R9,firstArgMember→R6,wpAny_setField→R4,setSearchFrom→RG,wpAny_comprehension_free→RD,DictEntry→Rv,pickOrder→Ru,checkBuiltinCall→Rt,wpAny_isInstance→Rp,wpAny_askSetting→Rn,wpAny_callSpecial?_slot→Rf,Result→Rb,closureFor→QQ,seqIndex_neg→Qr,wpAny_getItem_list_neg→P6,wpAny_notOrdered_dict→PJ,seqIndex_of→Pw,wpAny_of_eq→Pu,storedH_new→Ps,unsupported→Pr,hashByValue→Pq,intText?→Po,newFunctionEnv→Pn,isSubtype_type→Pm,wpAny_newFunctionEnv→Pk,holding→Pb,callerA→O9,Model→O2,dictSetHashed→OY,wpAny_newList→OV,builtinsNs→OU,typeLookup→OT,atKey→ON,BindsTo→OM,OsState→OL,valueAt→OK,ReadsAll→OJ,noteFrame→OF,pushCells→OE,again→OD,wpAny_throw→OC,Keyword→OB,Drawn→Oz,bindL→Oy,bindC→Ox,assign→Ow,pyIter→Ov,IntMulOk→Ou,getAttr?→Ot,entryFor→Os,CmpOp→Oq
open List renaming length_map→Y1,mem_filter→X9,mem_of_getElem?→X6,getElem?_eq_some_iff→X5,length_append→X0,getElem?_eq_getElem→XX,mem_cons_self→XU,mem_cons_of_mem→XR,mem_append→XQ,mem_map→XM,mem_cons→XG,length_take→XF,filter_sublist→XA,take_length→Xz,size_toArray→Xx,map_cons→Xu,getD_eq_getElem?_getD→Xp,getElem?_map→Xo,length_cons→Xj,map_append→Xh,length_filter_le→Xg,mem_append_left→Xf,append_nil→Xd,take_add_one→Xc,map_congr_left→Xa,mem_append_right→W7,perm_ext_iff_of_nodup→W6,take_append_drop→W4,append_assoc→W3,filter_append→WX,nodup_append→WW,drop_eq_getElem_cons→WP,replicate→WN,length_range→WI,all_eq_true→WG,any_eq_true→WF,nodup_cons→WB,range→Wy,countP_cons→Wx,mem_singleton→Wv,filter_cons→Wr,mem_range→Wo,take_of_length_le→Wm,mem_flatten→Wi,map_map→Wg,pairwise_map→We,filter_eq_nil_iff→Wd,sublist_flatten_of_mem→Wb,filter_congr→V8,mem_of_mem_take→V6,countP_eq_length_filter→V1,flatten_append→VW,flatten_cons→VS,length_eq_zero_iff→VP,filter_filter→VO,foldl_cons→VL,getElem?_append_left→VF,nodup_nil→Vw,getElem?_append_right→Vt,eraseIdx_eq_take_drop_succ→Vs,pairwise_iff_getElem→Vq,mem_filterMap→Vm,countP_congr→Vf,filterMap_cons→Va,replicate_succ→U9,getElem?_range→U8,flatMap_append→U6,length_drop→U2,mem_flatMap→UX,ne_nil_of_mem→UT,isEmpty_eq_false_iff→UP,length_nil→UM,range_succ→UK,foldl_append→UH,flatMap_cons→UG,getElem?_of_mem→UD,sublist_append_left→UA,take_succ_cons→Uw,countP_eq_zero→Uv,filter_eq_self→Uu,getElem_mem→Uo,length_pos_of_mem→Ug,find?_cons→Ud,map→T1,pairwise_append→TV,any_map→TL,exists_mem_of_ne_nil→TH,getElem_of_mem→TD,reverse_append→TB,length_erase_of_mem→Tt,getElem?_drop→Tl,length_mapIdx→Ti,take_sublist→S6,ext_getElem?→SZ,getElem?_set_self→SY,drop_eq_nil_of_le→SX,perm_append_comm→SR,getElem?_eq_none→SQ,lookup_cons→SK,any_cons→SF,map_id→Sw,getElem?_set_ne→Sv,reverse_reverse→Sr,pairwise_cons→RZ,length_eraseIdx_of_lt→RS,getElem?_zip_eq_some→RR,extract_eq_take_drop→RQ,lookup→RN,drop_sublist→RK,reverse_perm→RJ,all_cons→RI,getElem?_take_of_lt→RE,ext_getElem→Rs,cons_append→Rr,not_mem_nil→Rq,nil_sublist→Rm,mapIdx_cons→Rl,getElem?_cons_succ→Rh,map_nil→Qb,of_mem_zip→PQ,countP_nil→PN,length_replicate→PL,length_singleton→PK,mem_iff_getElem?→PH,pairwise_reverse→PB,mem_of_mem_erase→Pz,drop_drop→Pl,mem_of_mem_drop→Ph,getElem?_mapIdx→Pe,map_eq_nil_iff→O6,countP_pos_iff→O5,map_take→OW,Nodup→OQ,map_set→OG
open Array renaming length_toList→X4,getElem?_toList→XB,getElem?_eq_none→WM,toList_append→WC,getElem?_eq_some_iff→V9,getElem?_eq_getElem→Vp,size_map→Vh,toList_reverse→Vg,getElem?_setIfInBounds→Vb,toList_map→UY,size_reverse→UU,perm_iff_toList_perm→US,getElem_toList→UE,size_extract→Uh,size_setIfInBounds→Tu,toList_push→S1,getElem?_extract→SW,forIn_toList→R1,toList_setIfInBounds→RT,getElem?_replicate→Rz,getElem?_reverse→PX,toList_extract→Pg,toList_filter→O7,toList_modify→O3
open Nat renaming le_trans→XZ,le_refl→XV,lt_of_le_of_lt→Xw,lt_of_lt_of_le→Xs,ne_of_lt→Xe,zero_le→WT,lt_succ_of_lt→Wl,le_succ→VX,lt_irrefl→VM,zero_add→VI,succ_ne_self→U1,le_add_right→U0,lt_or_ge→Uj,pow_succ→Ui,not_lt_zero→Ub,le_succ_of_le→T6,pow_le_pow_right→TU,le_of_lt→TR,ne_of_gt→TQ,lt_trans→TM,lt_of_lt_of_eq→Tj,sub_self→Tc,succ_pos→Tb,lt_succ_self→SJ,mod_lt→R8,add_sub_cancel→R0,lt_trichotomy→RL,add_sub_cancel_left→Rc,add_zero→P9,one_le_iff_ne_zero→PV,add_le_add_right→Pj,pow_lt_pow_right→Pf
open PySem.Heap renaming get?_push_of_some→XY,lt_size→XE,get?_push_size→W5,get?_update_self→WD,SameBut→Wh,get?_update_other→VG,size_push→UV,get?_none_of_le→UF,get?_update_ne→Sh,HeldW→OO,FlyingW→OI
open PySem.W renaming Frag→XW,nsIn→XN,kitOne→XJ,mg_none_of→WK,excIn→WH,mg_of→Wp,findIn→Wf,mroIn→Wc,hashAt→Vy,isClsIn→UO,fnOf→UI,keepIn→TZ,hideAll_get→TF,codeIn→Ta,looks_findIn→Ss,looks_mroIn→Sk,methodObj→RM,cellsFrom_some→P8,OpenLaw→PP,WalkO→O0
open Bool renaming false_ne_true→XT,eq_false_iff→XC,eq_iff_iff→W1,not_eq_true'→WJ,false_eq_true→Ww,and_eq_true→Ws,and_eq_true_iff→VN,and_true→Sy,and_false→R7,and_comm→RF,false_and→Pp,or_false→OZ
open PySem.SetTable renaming bits→XI,below→Xy,insertAt→Xi,turns→W9,runEnd→VC,leap→Vk,grown→Ur,sizeAbove→Tk,Probe→R5,advance→Ro,fill→OX
open PyProof.Rows renaming wpS_bind→XH,wpS_pure→Xv,arrOf→Xr,Keyed→Xb,boot_isinstance→WS,SortSt→WQ,pendingOf→WO,wpS_forRange→V4,boot_sorted→VY,callWith_type1→VB,wpS_mono→Us,pairsOf_toList→Uq,seqObj→Uk,boot_any→T9,SortKind→T2,wpS_modify→To,AllBare→Te,failedOf→Td,boot_int→SO,boot_max→SN,boot_min→SM,wpS_get→SH,reverseSlice'→Sz,mem_zip_self→Sf,listItems_at→RO,wpS_lift→Rx,envOfC→Ra,subscriptTail_builtinR→P7,boot_dict→PU,boot_sum→Py,boot_abs→Px,IntsAre→Pa,pairsOf→O8,getElem?_mirror_all→O4,IsTup→OA
open PySem.PassesOwn renaming never→WV
open Classical renaming byContradiction→WU
open PySem.PyData renaming eqv→WL,depthAll→UL,canLayAll0→T7,canLay0→TY,bool→Tf
open PySem.F renaming plainAttrs_list→WE,slot_list_append→V0,type_list_append→VZ,slot_list_extend→Uz,type_list_extend→Uy,typeOf_object_class→T3,slot_dict_get→SU,excBase_ValueError→RU,slot_dict_update→RA,args_dict_get_3→Rj,plainAttrs_dict→Ri,plain_list_iadd→Re,entry_dict_get→P0,slot_set_iter→PF,plain_set_new→PD
open PySem.Value renaming ref→WA,int→Vo,builtin→Tv
open PySem.Heap.SameBut renaming update→Wn
open PySem.Around renaming under_plainId→V5
open Int renaming le_of_lt→V3,zero_add→VH,toNat_natCast→VE,le_trans→Vx,le_refl→U3,neg_le_neg→S8,toNat_of_nonneg→Sl,add_zero→Se,natAbs_natCast→RY,fdiv_eq_ediv_of_nonneg→RW,natCast_add→PM,not_lt→OP,mul_comm→OH
open ForInStep renaming yield→V2
open Or renaming inl→Vz,inr→QR
open PySem.SetTable.below renaming go→Vv
open List.Sublist renaming length_le→Vu
open Ne renaming symm→Vr
open False renaming elim→Vn
open Option renaming isSome_iff_exists→Vj,map_eq_some_iff→Uf,map_some→Uc,getD_some→TK
open PySem.Obj renaming mapSeq→Vc,mapFields→Ua,data_mapDictKeys→TW,isFreed_of_dict→Sj
open List.Perm renaming length_eq→U7,append_left→SS
open PyProof.Rows.F renaming plain_set_update_loop→U5,entry_set_update_loop→Tz
open PySem.Builtin.List renaming listTooLong→UB,listExtendWith→Sd,listSameRef→Ry
open PySem.Builtin.Dict renaming updateFrom→Um,entriesForEmpty→Sm,addKeywords→RC,selfAndRest→RB,pairItems→PZ,mergeDict→PY,quietEq→Pi
open PySem.SetTable.probe renaming go→T4
open PySem.NameKind renaming cell→Tw
open PySem.Shared renaming TypeIs→SA
open PySem.Calls renaming evalArgs_plain→Su,spliced_cons→R3,Name_function_global→RX,call_function_entry→RP,callWith_builtin→P1
open True renaming intro→QP
open Sum renaming inl→Pd,inr→Pc
open PUnit renaming unit→OR
set_option Elab.async false
set_option linter.all false
set_option maxRecDepth 100000
theorem bw {c:Prop}{h:Decidable c}(n:¬c){α:Sort _}{t e:α}:ite c t e=e:=if_neg n
theorem br {c:Prop}{h:Decidable c}(n:c){α:Sort _}{t e:α}:ite c t e=t:=if_pos n
theorem bu {p:Prop}[Decidable p](h:p):decide p=true:=decide_eq_true h
theorem bf {p:Prop}[Decidable p]:(decide p=true)=p:=decide_eq_true_eq
theorem bg {p:Prop}[Decidable p](h:¬p):decide p=false:=decide_eq_false h
theorem bh {p:Prop}[Decidable p](h:decide p=true):p:=of_decide_eq_true h
namespace zbw
open PySem PySem.W
noncomputable def sel:List Nat->Nat->List Stmt->List Stmt
 | _,_,[]=>[]
 | ns,i,x::xs=>match ns.contains i with
  | true=>sel ns (i+1) xs
  | false=>x::sel ns (i+1) xs
theorem ziw {r:OpenRow}{q:Xm}{H:Hook}{d:DefRec}{kwd:List (PySem.Str×Expr)}{N:Nat}(left:LeftO r.prog q [] (λs=>xlAt q [] s&&recOk (RowW.records r.toRowW) s) (Hook.obs H) (Hook.val H) N)
  (hdef:defOf q r.name=some (d,kwd)) (hp:r.prog.theDef r.name=some (d.params,d.body,d.scope)) (hk:kwWritten? d.params.kwonlyargs d.params.kw_defaults=some kwd) (hwr:(!r.writes || r.records.isEmpty)=true)
  (k1:r.wellSaid=true) (ok:(chainsOk q&&opensWell r.prog&&(frees r.toRowW&&r.within.isEmpty))=true) (hb:r.prog.bare) (hw:r.toRowW.promised)
  (call:WalkO q [] (XL q []) (Hook.says H) r.toRowW d kwd λf vs=>PySem.call f vs):r.Holds :=
 holds_open (q:=q) (loose:=[]) (Xt:=λs=>xlAt q [] s&&recOk (RowW.records r.toRowW) s) (XP:=XL q []) (Yf:=Hook.obs H) (Ya:=Hook.val H) (YP:=Hook.says H) (N:=N) left (Hook.of H) (Hook.keeps H) (λs e=>xl_of s (VN.mp e).1) XL.keeps hdef hp hk
  (λs e=>recFacts_of (VN.mp e).2) hwr k1 ok hb hw call
noncomputable def top (i:Nat):Stmt:=PySem.Challenge.pw_stonelay_k54_thoughts_refused.main.body.getD i (.Pass ⟨0,0,0,0⟩)
noncomputable def Jz (s:Stmt):Arguments:=match s with
 | .FunctionDef _ a _ _ _ _ _ _ _ _=>a
 | _=>{ posonlyargs:=[],args:=[],vararg:=none,kwonlyargs:=[],kw_defaults:=[],kwarg:=none,defaults:=[] }
noncomputable def yK (s:Stmt):List Stmt:=match s with
 | .FunctionDef _ _ b _ _ _ _ _ _ _=>b
 | _=>[]
noncomputable def zp (s:Stmt):Vi:=match s with
 | .FunctionDef _ _ _ _ _ _ sc _ _ _=>sc
 | _=>{ kind:=.function,names:=[],isGenerator:=false,isCoroutine:=false }
def HD (K:XW)(x:Str)(i:Nat):Prop:=∃(f:Addr) (oc:X8) (od an:Option Addr) (sl:Array (Option X8)) (kV dc pm cd ct:X8),XN K XO x=some (some (.ref f))/\K.lookup f=some ⟨oc,od,.func (UI x x (Jz (top i)) (yK (top i)) (zp (top i)) .none kV dc pm an cd ct),sl⟩/\Ta K cd x=true/\TZ K (.ref f)=true
def xH:List X8:=[.type "ValueError",.type "Exception",.type "BaseException",.type "object"]
structure Facts (K:XW):Prop where
 Qy:HD K "closed" 14
 xJ:HD K "open_cells" 15
 Qz:HD K "around" 16
 JA:HD K "number_at" 17
 Zh:HD K "cells_of" 18
 Yt:HD K "sign_at" 19
 zbd:HD K "parts" 21
 QA:HD K "joined" 22
 zhh:HD K "far" 23
 xK:HD K "numbers_of" 24
 xM:HD K "bare_wrong" 25
 jV:HD K "closed_around" 26
 yh:HD K "part_layings" 29
 Zi:HD K "needs_at" 30
 Yu:HD K "may_fit" 31
 yL:HD K "part_counts" 32
 Yv:HD K "counted" 33
 Yw:HD K "choices" 35
 QB:HD K "poured" 36
 yM:HD K "near_counts" 38
 zbe:HD K "count" 39
 xN:HD K "all_poured" 40
 zbf:HD K "dealt" 41
 Zj:HD K "asked_by" 44
 Zk:HD K "known_of" 45
 yN:HD K "still_asked" 46
 QC:HD K "gained" 47
 Yx:HD K "settled" 48
 Zl:HD K "thoughts" 51
 JB:HD K "all_steps" 52
 yO:HD K "place_lists" 53
 xO:HD K "first_step" 54
 yP:HD K "_law_cell_at" 56
 JC:HD K "_law_cells" 58
 Zm:HD K "_law_near" 59
 JD:HD K "_law_board" 60
 yQ:HD K "_law_outcome" 61
 JE:HD K "_law_apart" 62
 yR:HD K "_law_rows_of" 63
 zhi:HD K "law" 64
 xP:XN K XO "ValueError"=some none
 zhj:XN K XO "abs"=some none
 zhk:XN K XO "any"=some none
 zdZ:XN K XO "dict"=some none
 JF:XN K XO "enumerate"=some none
 zhl:XN K XO "int"=some none
 xQ:XN K XO "isinstance"=some none
 zhm:XN K XO "len"=some none
 zd0:XN K XO "list"=some none
 zhn:XN K XO "max"=some none
 zho:XN K XO "min"=some none
 zbg:XN K XO "range"=some none
 zhp:XN K XO "set"=some none
 QD:XN K XO "sorted"=some none
 zhq:XN K XO "str"=some none
 zhr:XN K XO "sum"=some none
 zhs:∃t,XN K XO "ALL"=some (some (.str "all" t))
 yS:∃t,XN K XO "CLOSED_SIGN"=some (some (.str "?" t))
 yi:∃t,XN K XO "MOST_OF_PART"=some (some (.int 14 t))
 yT:∃t,XN K XO "MOST_THINGS"=some (some (.int 30 t))
 yj:∃t,XN K XO "NO_CELL_SIGN"=some (some (.str "#" t))
 cls:∃jai jaj jad jaa jac jab jah jaf jae jag:Addr,XN K XO "StoneError"=some (some (.ref jai))/\XN K XO "TooGreat"=some (some (.ref jaj))/\XN K XO "NoLaying"=some (some (.ref jad))/\XN K XO "NoBoard"=some (some (.ref jaa))/\XN K XO "NoCount"=some (some (.ref jac))/\XN K XO "NoCell"=some (some (.ref jab))/\XN K XO "NoText"=some (some (.ref jah))/\XN K XO "NoRow"=some (some (.ref jaf))/\XN K XO "NoNumber"=some (some (.ref jae))/\XN K XO "NoTable"=some (some (.ref jag))/\WH K jai xH "ValueError.__new__"=true/\WH K jaj xH "ValueError.__new__"=true/\WH K jad xH "ValueError.__new__"=true/\WH K jaa xH "ValueError.__new__"=true/\WH K jac xH "ValueError.__new__"=true/\WH K jab xH "ValueError.__new__"=true/\WH K jah xH "ValueError.__new__"=true/\WH K jaf xH "ValueError.__new__"=true/\WH K jae xH "ValueError.__new__"=true/\WH K jag xH "ValueError.__new__"=true/\Wf K (.ref jaj) "__getattribute__"=some (some (.builtin "BaseException.__getattribute__"))/\Wf K (.ref jaj) "__getattr__"=some none/\Wf K (.ref jaj) "__class__"=some (some (.builtin "object.__class__"))/\Wc K jaj (.type "BaseException")=some true/\Wc K jaj (.type "object")=some true/\UO K jaj=true/\Wc K jaj (.ref jai)=some true/\XJ K (.ref jaj) (.ref jaj)=some true/\XJ K (.ref jaj) (.ref jad)=some false/\XJ K (.ref jaj) (.ref jaa)=some false/\XJ K (.ref jaj) (.ref jac)=some false/\XJ K (.ref jaj) (.ref jab)=some false/\XJ K (.ref jaj) (.ref jah)=some false/\XJ K (.ref jaj) (.ref jaf)=some false/\XJ K (.ref jaj) (.ref jae)=some false/\XJ K (.ref jaj) (.ref jag)=some false/\XJ K (.ref jaj) (.type "ValueError")=some true/\Wf K (.ref jad) "__getattribute__"=some (some (.builtin "BaseException.__getattribute__"))/\Wf K (.ref jad) "__getattr__"=some none/\Wf K (.ref jad) "__class__"=some (some (.builtin "object.__class__"))/\Wc K jad (.type "BaseException")=some true/\Wc K jad (.type "object")=some true/\UO K jad=true/\Wc K jad (.ref jai)=some true/\XJ K (.ref jad) (.ref jaj)=some false/\XJ K (.ref jad) (.ref jad)=some true/\XJ K (.ref jad) (.ref jaa)=some false/\XJ K (.ref jad) (.ref jac)=some false/\XJ K (.ref jad) (.ref jab)=some false/\XJ K (.ref jad) (.ref jah)=some false/\XJ K (.ref jad) (.ref jaf)=some false/\XJ K (.ref jad) (.ref jae)=some false/\XJ K (.ref jad) (.ref jag)=some false/\XJ K (.ref jad) (.type "ValueError")=some true
end zbw
noncomputable def zbw.view:PySem.Program:={ PySem.Challenge.rw_stonelay_k54_thoughts_refused.prog with main:={ PySem.Challenge.rw_stonelay_k54_thoughts_refused.prog.main with body:=zbw.sel [0,11,20,27,34,37,42,49,55] 0 PySem.Challenge.rw_stonelay_k54_thoughts_refused.prog.main.body } }
namespace zbw
open PySem PySem.W
theorem left4 {E:Option Shared}{β γ δ ε α:Type}{O:Shared->β×γ×δ×ε}{g:β×γ×δ×ε}{Y:Shared->α}{y:α}(a:E.map (λs=>(O s).1)=some g.1)(b:E.map (λs=>((O s).2.1,(O s).2.2.1))=some (g.2.1,g.2.2.1))(c:E.map (λs=>(O s).2.2.2)=some g.2.2.2)(d:E.map Y=some y):E.map (λs=>(O s,Y s))=some (g,y):=by
 cases E with
 | none=>cases a
 | some s=>exact congrArg some (Prod.ext (Prod.ext (Option.some.inj a) (Prod.ext (congrArg (·.1) (Option.some.inj b)) (Prod.ext (congrArg (·.2) (Option.some.inj b)) (Option.some.inj c)))) (Option.some.inj d))
noncomputable abbrev OS:=openSeen view [] (importedModules PySem.Challenge.rw_stonelay_k54_thoughts_refused.row.prog.main.body) (λs=>xlAt view [] s&&recOk (RowW.records PySem.Challenge.rw_stonelay_k54_thoughts_refused.row.toRowW) s) true
noncomputable abbrev GG:=openGood view []
set_option maxRecDepth 100000
set_option maxHeartbeats 0
theorem sa (w:World):(openEnds treeTable PySem.Challenge.rw_stonelay_k54_thoughts_refused.row.prog w 6928).map (λs=>(OS s).1)=some GG.1:=by kernel_rfl
theorem sb (w:World):(openEnds treeTable PySem.Challenge.rw_stonelay_k54_thoughts_refused.row.prog w 6928).map (λs=>((OS s).2.1,(OS s).2.2.1))=some (GG.2.1,GG.2.2.1):=by kernel_rfl
theorem sc (w:World):(openEnds treeTable PySem.Challenge.rw_stonelay_k54_thoughts_refused.row.prog w 6928).map (λs=>(OS s).2.2.2)=some GG.2.2.2:=by kernel_rfl
end zbw
local macro_rules | `(tactic| o_head $H)=>`(tactic| (refine' zbw.ziw (q:=zbw.view) (H:=$H) (N:=6928) (λw=>zbw.left4 (O:=zbw.OS) (zbw.sa w) (zbw.sb w) (zbw.sc w) (by kernel_rfl)) (by rfl) (by rfl) (by rfl) (by rfl) (by first | assumption | decide+kernel) (by decide+kernel) ⟨rfl,rfl,rfl,rfl,rfl,by decide+kernel⟩ ?_ ?_))
open PySem PySem.W PyProof.Rows in
set_option maxRecDepth 100000 in
set_option maxHeartbeats 0 in
theorem zbw.look:PySem.Challenge.rw_stonelay_k54_thoughts_refused.wellSaid=true:=by kernel_rfl
open PySem PySem.W PyProof.Rows in
set_option maxRecDepth 100000 in
set_option maxHeartbeats 0 in
theorem zbw.early (h:∀{q:Xm} {XP:(Str->Option X8)->Heap->Prop} {YP:WZ->Heap->Prop} {d:DefRec} {K:Params->XW},d.params.defaults=[]->(∀(w:WZ) (h:Heap),YP w h->(K w.params).In h)->d.name="law"->(∀w:WZ,zbw.Facts (K w.params))->O0 q [] XP YP PySem.Challenge.rw_stonelay_k54_thoughts_refused.row.toRowW d [] (λf vs=>PySem.call f vs)):PySem.Challenge.rw_stonelay_k54_thoughts_refused.Holds:=by
 w_on;refine holds_law zbw.look λsaid=>?_;k_head;w_witness2;k_fill;refine h rfl (λw h Y=>PySem.W.kIn_of Y) rfl λw=>?_;constructor;all_goals first | k_is | exact⟨_,_,_,_,_,_,_,_,_,_,by k_is,by k_is,by k_is,by k_is⟩ | exact⟨_,by k_is⟩ | exact⟨_,_,_,_,_,_,_,_,_,_,by k_is,by k_is,by k_is,by k_is,by k_is,by k_is,by k_is,by k_is,by k_is,by k_is,by k_exc,by k_exc,by k_exc,by k_exc,by k_exc,by k_exc,by k_exc,by k_exc,by k_exc,by k_exc,by k_is,by k_is,by k_is,by k_is,by k_is,by k_is,by k_is,by kit_is,by kit_is,by kit_is,by kit_is,by kit_is,by kit_is,by kit_is,by kit_is,by kit_is,by kit_is,by k_is,by k_is,by k_is,by k_is,by k_is,by k_is,by k_is,by kit_is,by kit_is,by kit_is,by kit_is,by kit_is,by kit_is,by kit_is,by kit_is,by kit_is,by kit_is⟩
noncomputable section
abbrev AD:=List PySem.Str
abbrev  AA:=Nat×Nat
abbrev AB:=List AA
namespace L2
open PySem PySem.Spec PyProof.Rows
abbrev Key:=Sum Int Str
def zc9:Key->X8->Bool
 | .inl k,v=>Value.isInt k v
 | .inr x,v=>Value.isStrOf x v
def zog (w:WZ):Key->Int
 | .inl k=>hashInt k
 | .inr x=>hashStr w x
theorem qX:∀{k:Key} {v:X8},zc9 k v=true->(∃i t,k=Pd i/\v=Vo i t)\/(∃x t,k=Pc x/\v=Value.str x t)
 | .inl i,v,h=>by
  obtain⟨t,e⟩:=Value.isInt_shape (k:=i) (v:=v) h;exact .inl ⟨i,t,rfl,e⟩
 | .inr x,v,h=>by
  obtain⟨t,e⟩:=Value.isStrOf_shape (x:=x) (v:=v) h;exact .inr ⟨x,t,rfl,e⟩
def zaj (i:Int)(t:Tok):zc9 (.inl i) (.int i t)=true:=by simp[zc9,Value.isInt]
def zix (x:Str)(t:Tok):zc9 (.inr x) (.str x t)=true:=by simp[zc9,Value.isStrOf]
def zoh (a b:Int):decide ((Pd a:Key)=Pd b)=(a==b):=by
 by_cases e:a=b
 .subst e;simp
 .have h:¬ (Pd a:Key)=Pd b:=λq=>e (Sum.inl.inj q);rw[bg h];exact(beq_eq_false_iff_ne.mpr e).symm
def zoi (a b:Str):decide ((Pc a:Key)=Pc b)=decide (a=b):=by
 by_cases e:a=b
 .subst e;simp
 .have h:¬ (Pc a:Key)=Pc b:=λq=>e (Sum.inr.inj q);rw[bg h,bg e]
def zoj (a:Int)(b:Str):decide ((Pd a:Key)=Pc b)=false:=bg (λq=>nomatch q)
def zok (a:Str)(b:Int):decide ((Pc a:Key)=Pd b)=false:=bg (λq=>nomatch q)
def zJ (prog:Xm)(w:WZ):PySem.KeyKind prog w Key where
 is:=zc9
 hash:=zog w
 inj:=λv a b ha hb=>by
  rcases qX ha with ⟨i,t,rfl,rfl⟩ | ⟨x,t,rfl,rfl⟩
  .rcases qX hb with ⟨j,u,rfl,e⟩ | ⟨y,u,rfl,e⟩
   .injection e with e1 _;rw[e1]
   .exact nomatch e
  .rcases qX hb with ⟨j,u,rfl,e⟩ | ⟨y,u,rfl,e⟩
   .exact nomatch e
   .injection e with e1 _;rw[e1]
 byValue:=λk v h=>by
  rcases qX h with ⟨i,t,rfl,rfl⟩ | ⟨x,t,rfl,rfl⟩<;>rfl
 pyHash:=λhv h=>by
  rcases qX hv with ⟨i,t,rfl,rfl⟩ | ⟨x,t,rfl,rfl⟩
  .exact wpAny_pyHash_int h
  .exact wpAny_pyHash_str h
 eqBool:=λhu hv h=>by
  rcases qX hu with ⟨i,t,rfl,rfl⟩ | ⟨x,t,rfl,rfl⟩
  .rcases qX hv with ⟨j,u,rfl,rfl⟩ | ⟨y,u,rfl,rfl⟩
   .rw[zoh] at h;exact wpAny_eqBool_int h
   .rw[zoj] at h;exact SeqAt.EqAt.int_str i t y u _ _ _ _ h
  .rcases qX hv with ⟨j,u,rfl,rfl⟩ | ⟨y,u,rfl,rfl⟩
   .rw[zok] at h;exact SeqAt.EqAt.str_int x t j u _ _ _ _ h
   .rw[zoi] at h;exact wpAny_eqBool_str h
 «strs»:=λk x t v h=>by
  rcases qX h with ⟨i,u,rfl,e⟩ | ⟨y,u,rfl,e⟩
  .exact nomatch e
  .injection e with e1 _
   subst e1;cases v<;>rfl
def zeM (prog:Xm)(w:WZ)(i:Int)(t:Tok):(zJ prog w).is (.inl i) (.int i t)=true:=zaj i t
def zeN (prog:Xm)(w:WZ)(x:Str)(t:Tok):(zJ prog w).is (.inr x) (.str x t)=true:=zix x t
inductive V where
 | non | bl (b:Bool) | int (i:Int) | str (x:Str) | byt (b:Array UInt8) | flt (b:UInt64) | ref (a:Addr) | ty (n:String)
 deriving DecidableEq
abbrev AE:=List V
def RelV:V->X8->Prop
 | .non,u=>u=Value.none
 | .bl b,u=>u=Value.bool b
 | .int i,u=>∃t,u=Vo i t
 | .str x,u=>∃t,u=Value.str x t
 | .byt b,u=>∃t,u=Value.bytes b t
 | .flt b,u=>∃t,u=Value.float b t
 | .ref a,u=>u=WA a
 | .ty n,u=>u=Value.type n
abbrev Vals:AE->List X8->Prop:=Xl RelV
theorem Vals.length {xs:AE}{us:List X8}(r:Vals xs us):xs.length=us.length:=Paired.length r
theorem Vals.get:∀{xs:AE} {us:List X8} {i:Nat} {x:V},Vals xs us->xs[i]?=some x->∃u,us[i]?=some u/\RelV x u
 | _,_,_,_,.nil,e=>by simp at e
 | _,_,0,_,.cons r _,e=>by simp at e;subst e;exact⟨_,rfl,r⟩
 | _,_,i+1,x,.cons _ t,e=>by
  obtain⟨u,h1,h2⟩:=Vals.get (i:=i) (x:=x) t (by simpa using e);exact⟨u,by simpa using h1,h2⟩
theorem Vals.set {x:V}{u:X8}(r:RelV x u):∀{xs:AE} {us:List X8} (i:Nat),Vals xs us->Vals (xs.set i x) (us.set i u)
 | _,_,_,.nil=>.nil
 | _,_,0,.cons _ t=>.cons r t
 | _,_,i+1,.cons q t=>.cons q (Vals.set r i t)
theorem Vals.append:∀{xs ys:AE} {us ws:List X8},Vals xs us->Vals ys ws->Vals (xs++ys) (us++ws)
 | _,_,_,_,.nil,s=>s
 | _,_,_,_,.cons r t,s=>.cons r (Vals.append t s)
theorem Vals.take:∀{xs:AE} {us:List X8} (n:Nat),Vals xs us->Vals (xs.take n) (us.take n)
 | _,_,0,_=>.nil
 | _,_,_+1,.nil=>.nil
 | _,_,n+1,.cons r t=>.cons r (Vals.take n t)
theorem Vals.drop:∀{xs:AE} {us:List X8} (n:Nat),Vals xs us->Vals (xs.drop n) (us.drop n)
 | _,_,0,r=>r
 | _,_,_+1,.nil=>.nil
 | _,_,n+1,.cons _ t=>Vals.drop n t
def zeO:Option V->Option X8->Prop
 | some v,some u=>RelV v u
 | none,none=>True
 | _,_=>False
def KV {κ:Type}:List (κ × V)->List (κ × X8)->Prop:=Xl λ(p:κ × V) (q:κ × X8)=>p.1=q.1/\RelV p.2 q.2
def kV:Key->V
 | .inl i=>.int i
 | .inr x=>.str x
inductive HO where
  | lst (xs:AE)
  | tup (xs:AE)
  | dK (kvs:List (Key×V)) | dT (kvs:List (List Key×V))
  | set (S:Int->Bool) (n:Nat)
  | ins (C dx:Addr) (fs:List (Str×V))
  | own (x:Addr)
  | xd (fs:List (Str×V))
  | met (f x:Addr)
  | rng (lo hi:Int)
  | frz (o:Obj) (u:HO)
  | tbl (ps:Array X8)
  | ext (φ:Heap->Prop)
abbrev Hp:=Addr->Option HO
def upd (H:Hp)(a:Addr)(o:HO):Hp:=λb=>if b=a then some o else H b
def zb {H:Hp}{a:Addr}{o:HO}:upd H a o a=some o:=by unfold upd;rw[br rfl]
def zf {H:Hp}{a b:Addr}{o:HO}(h:b≠a):upd H a o b=H b:=by unfold upd;rw[bw h]
def zeP {H:Hp}{a b:Addr}{o u:HO}(h:H a=some o)(h':H b=some u)(d:o≠u):a≠b:=by
 intro e;subst e;rw[h] at h';exact d (Option.some.inj h')
def zg {H:Hp}{a b:Addr}{o:HO}(h:H a=some o)(h':H b=none):a≠b:=by
 intro e;subst e;rw[h] at h';cases h'
section
variable (P:Xm)(w:WZ)
def jt (H:Hp)(h:Heap)(a:Addr):HO->Prop
 | .lst xs=>xs.length<=Xq/\∃(its:List X8) (n:Nat),Vals xs its/\h.get? a=some { cls:=.type "list",data:=.seq its.toArray n }
 | .tup xs=>xs.length<=Xq/\∃its:List X8,Vals xs its/\OA h a its.toArray
 | .dK kvs=>kvs.length<=Xq/\(a==Vd)=false/\∃vs,KV kvs vs/\h.DictOf (zJ P w) a vs
 | .dT kvs=>kvs.length<=Xq/\(a==Vd)=false/\∃xs:List (List Key×Addr×X8),
   Xl (λ(p:List Key×V) (q:List Key×Addr×X8)=>p.1=q.1/\H q.2.1=some (.tup (p.1.map kV))/\RelV p.2 q.2.2) kvs xs /\
   ∃o es ep,h.get? a=some o/\o.ExactDict/\o.data=.dict es ep/\es.toList=xs.map (Tq (VQ (zJ P w)))/\(xs.map (·.1)).Nodup
 | .set S n=>h.SetOf (intKind P w) a S n
 | .ins C dx fs=>H dx=some (.own a)/\fs.length<=1000/\dx≠a/\h.get? a=some (PySem.W.instObj C dx) /\
   ∃mA,h.Ns1 dx mA/\(∀f,zeO (fs.lookup f) (mA f))/\PySem.Within mA (fs.map (·.1))
 | .own _=>∃o,h.get? a=some o
 | .xd fs=>∃mA,h.Ns1 a mA/\∀f,zeO (fs.lookup f) (mA f)
 | .rng lo hi=>∃t u v,h.get? a=some { cls:=.type "range",data:=.fields #[.int lo t,.int hi u,.int 1 v] }
 | .frz o u=>h.get? a=some o/\jt H h a u
 | .tbl ps=>h.get? a=some { cls:=.none,data:=.fields ps }
 | .met f x=>h.get? a=some (RM (.ref f) (.ref x))
 | .ext φ=>φ h/\(∃o,h.get? a=some o)/\∀h1 h2:Heap,φ h1->(∀o,h1.get? a=some o->h2.get? a=some o)->φ h2
def HOk (H:Hp)(h:Heap):Prop:=∀a o,H a=some o->jt P w H h a o
end
section
variable {P:Xm}{w:WZ}{H H':Hp}{h h':Heap}{a:Addr}{o:HO}
theorem jt.lt (x:jt P w H h a o):a<h.objs.size:=by
 cases o with
 | lst xs=>obtain⟨_,_,_,_,e⟩:=x;exact XE e
 | tup xs=>obtain⟨_,_,_,p⟩:=x;exact p.lt
 | dK kvs=>obtain⟨_,_,_,_,o,_,_,e,_⟩:=x;exact XE e
 | dT kvs=>obtain⟨_,_,_,_,o,_,_,e,_⟩:=x;exact XE e
 | set S n=>obtain⟨o,_,_,_,e,_⟩:=x;exact XE e
 | ins C dx fs=>obtain⟨_,_,_,e,_⟩:=x;exact XE e
 | own y=>obtain⟨_,e⟩:=x;exact XE e
 | xd fs=>obtain⟨_,⟨_,_,_,e,_⟩,_⟩:=x;exact XE e
 | rng lo hi=>obtain⟨_,_,_,e⟩:=x;exact XE e
 | frz ob u=>obtain⟨e,_⟩:=x;exact XE e
 | tbl ps=>exact XE (show h.get? a=some _ from x)
 | met f y=>exact XE (show h.get? a=some _ from x)
 | ext φ=>obtain⟨_,⟨_,e⟩,_⟩:=x;exact XE e
theorem Paired.mapP {α β:Type}{F G:α->β->Prop}:∀{l₁:List α} {l₂:List β},Xl F l₁ l₂->(∀a b,F a b->G a b)->Xl G l₁ l₂
 | _,_,.nil,_=>.nil
 | _,_,.cons r t,f=>.cons (f _ _ r) (Paired.mapP t f)
def Paired.imp' {α β:Type}{F G:α->β->Prop}(f:∀a b,F a b->G a b){l₁:List α}{l₂:List β}(r:Xl F l₁ l₂):Xl G l₁ l₂:=Paired.mapP r f
def jt.stay (x:jt P w H h a o)(k:∀b u,(b=a\/H b=some (.own a))->h.get? b=some u->h'.get? b=some u)
  (ho:∀b,H b=some (.own a)->H' b=some (.own a)) (ht:∀b xs,H b=some (.tup xs)->H' b=some (.tup xs)):jt P w H' h' a o:=by
 induction o with
 | lst xs=>obtain⟨z,its,n,r,e⟩:=x;exact⟨z,its,n,r,k _ _ (.inl rfl) e⟩
 | tup xs=>obtain⟨z,its,r,ob,e,c⟩:=x;exact⟨z,its,r,ob,k _ _ (.inl rfl) e,c⟩
 | dK kvs=>obtain⟨z,y,vs,r,ob,es,ep,e,c⟩:=x;exact⟨z,y,vs,r,ob,es,ep,k _ _ (.inl rfl) e,c⟩
 | dT kvs =>
  obtain⟨z,y,xs,r,ob,es,ep,e,c⟩:=x;exact⟨z,y,xs,Paired.mapP r λp q z=>⟨z.1,ht _ _ z.2.1,z.2.2⟩,ob,es,ep,k _ _ (.inl rfl) e,c⟩
 | set S n=>obtain⟨ob,es,ep,t,e,c⟩:=x;exact⟨ob,es,ep,t,k _ _ (.inl rfl) e,c⟩
 | ins C dx fs =>
  obtain⟨d,z,ne,e,mA,⟨od,es,ep,e2,c⟩,r⟩:=x;exact⟨ho _ d,z,ne,k _ _ (.inl rfl) e,mA,⟨od,es,ep,k _ _ (.inr d) e2,c⟩,r⟩
 | own y=>obtain⟨ob,e⟩:=x;exact⟨ob,k _ _ (.inl rfl) e⟩
 | xd fs=>obtain⟨mA,⟨od,es,ep,e,c⟩,r⟩:=x;exact⟨mA,⟨od,es,ep,k _ _ (.inl rfl) e,c⟩,r⟩
 | rng lo hi=>obtain⟨t,u,v,e⟩:=x;exact⟨t,u,v,k _ _ (.inl rfl) e⟩
 | frz ob u ih=>obtain⟨e,q⟩:=x;exact⟨k _ _ (.inl rfl) e,ih q⟩
 | tbl ps =>
  have e:h.get? a=some { cls:=.none,data:=.fields ps }:=x;show h'.get? a=some { cls:=.none,data:=.fields ps };exact k a _ (.inl rfl) e
 | met f y =>
  have e:h.get? a=some (RM (.ref f) (.ref y)):=x;show h'.get? a=some (RM (.ref f) (.ref y));exact k a _ (.inl rfl) e
 | ext φ=>obtain⟨p,⟨o,e⟩,st⟩:=x;exact⟨st _ _ p λo q=>k _ _ (.inl rfl) q,⟨o,k _ _ (.inl rfl) e⟩,st⟩
theorem HOk.lt (x:HOk P w H h)(e:H a=some o):a<h.objs.size:=(x a o e).lt
def HOk.fresh (x:HOk P w H h)(e:h.objs.size<=a):H a=none:=by
 cases q:H a with
 | none=>rfl
 | some u=>exact absurd (Xs (x.lt q) e) (VM _)
def HOk.kept (x:HOk P w H h)(k:∀b u,h.get? b=some u->h'.get? b=some u):HOk P w H h':=λa o e =>
 (x a o e).stay (λb u _ q=>k b u q) (λ_ q=>q) λ_ _ q=>q
def HOk.laid (x:HOk P w H h)(k:∀b u,h.get? b=some u->h'.get? b=some u)(hp:h.objs.size<=a)(new:jt P w (upd H a o) h' a o):HOk P w (upd H a o) h':=λb u e=>by
 have hn:=x.fresh hp;by_cases hb:b=a
 .subst hb;rw[zb] at e;cases e;exact new
 .rw[zf hb] at e;exact(x b u e).stay (λc v _ q=>k c v q) (λc q=>by rw[zf (zg q hn)];exact q) λc xs q=>by rw[zf (zg q hn)];exact q
end
def Rd (H:Hp)(a:Addr)(u:HO):Prop:=H a=some u\/∃o,H a=some (.frz o u)
def Rd.ok {P:Xm}{w:WZ}{H:Hp}{h:Heap}{a:Addr}{u:HO}(r:Rd H a u)(x:HOk P w H h):jt P w H h a u:=by
 rcases r with r | ⟨o,r⟩
 .exact x a u r
 .obtain⟨_,q⟩:=x a _ r;exact q
def Mut:Option HO->Prop
 | some (.lst _)=>True
 | some (.dK _)=>True
 | some (.dT _)=>True
 | some (.set _ _)=>True
 | some (.ins _ _ _)=>True
 | some (.ext _)=>True
 | _=>False
section
variable {P:Xm}{w:WZ}{H:Hp}{h h':Heap}{x e:Addr}{o':HO}
def HOk.write (ok:HOk P w H h)(mu:Mut (H x))(he:e=x\/H e=some (.own x))(k:∀b u,b≠e->h.get? b=some u->h'.get? b=some u)(heo:∃u,h'.get? e=some u)
  (new:jt P w (upd H x o') h' x o'):HOk P w (upd H x o') h':=λb u q=>by
 have nown:∀c y,H c=some (.own y)->c≠x:=λc y r z=>by subst z;rw[r] at mu;exact mu
 have ntup:∀c xs,H c=some (.tup xs)->c≠x:=λc xs r z=>by subst z;rw[r] at mu;exact mu
 by_cases hb:b=x
 .subst hb;rw[zb] at q;cases q;exact new
 .rw[zf hb] at q;by_cases hbe:b=e
  .have q':H b=some (.own x):=by
    rcases he with z | z
    .exact absurd (hbe.trans z) hb
    .rw[hbe];exact z
   rw[q] at q';cases q';obtain⟨v,hv⟩:=heo;exact⟨v,by rw[hbe];exact hv⟩
  .refine(ok b u q).stay (λc v hc r=>k c v ?_ r) (λc r=>by rw[zf (nown c b r)];exact r) λc xs r=>by rw[zf (ntup c xs r)];exact r
   rcases hc with rfl | hc
   .exact hbe
   .rintro rfl;rcases he with z | z
    .exact nown c b hc z
    .rw[hc] at z;cases z;exact hb rfl
end
structure Un (fs ex:List Addr)(H H':Hp)(h h':Heap):Prop where
 keep:∀b o,h.get? b=some o->H b=none->b ∉ fs->b ∉ ex->h'.get? b=some o
 slot:∀b o,h.get? b=some o->H b=none->b∈fs->b ∉ ex->∃sl,h'.get? b=some { o with slots:=sl }
 free:∀b o,h.get? b=some o->H b=none->b ∉ ex->H' b=none
 there:∀b o,h.get? b=some o->b ∉ ex->∃o',h'.get? b=some o'
 tups:∀b xs,H b=some (.tup xs)->H' b=some (.tup xs)
 frzs:∀b o u,H b=some (.frz o u)->H' b=some (.frz o u)
 tbls:∀b ps,H b=some (.tbl ps)->∃more,H' b=some (.tbl (ps++more))
section
variable {fs fs' ex ex':List Addr}{H H1 H2:Hp}{h h1 h2 h':Heap}{a x e:Addr}{o:HO}
def Un.any (u:Un fs ex H H1 h h1){b:Addr}{ob:Obj}(q:h.get? b=some ob)(n:H b=none)(hx:b ∉ ex):∃sl,h1.get? b=some { ob with slots:=sl }:=by
 by_cases hb:b∈fs
 .exact u.slot b ob q n hb hx
 .exact⟨ob.slots,u.keep b ob q n hb hx⟩
def Un.kept (k:∀b u,h.get? b=some u->h'.get? b=some u):Un fs ex H H h h' :=
 ⟨λb ob q _ _ _=>k b ob q,λb ob q _ _ _=>⟨ob.slots,k b ob q⟩,λ_ _ _ n _=>n,λb ob q _=>⟨ob,k b ob q⟩,λ_ _ q=>q,λ_ _ _ q=>q,λ_ ps q=>⟨#[],by rw[q];simp⟩⟩
def Un.refl:Un fs ex H H h h:=Un.kept λ_ _ q=>q
def Un.laid (k:∀b u,h.get? b=some u->h'.get? b=some u)(hp:h.objs.size<=a)(hn:H a=none):Un fs ex H (upd H a o) h h' where
 keep:=λb u q _ _ _=>k b u q
 slot:=λb u q _ _ _=>⟨u.slots,k b u q⟩
 free:=λb u q n _=>by rw[zf (Xe (Xs (XE q) hp))];exact n
 there:=λb u q _=>⟨u,k b u q⟩
 tups:=λb xs q=>by rw[zf (zg q hn)];exact q
 frzs:=λb u xs q=>by rw[zf (zg q hn)];exact q
 tbls:=λb ps q=>⟨#[],by rw[zf (zg q hn),q];simp⟩
def Un.write (mu:Mut (H x))(he:e=x\/H e=some (.own x))(k:∀b u,b≠e->h.get? b=some u->h'.get? b=some u)(heo:∃u,h'.get? e=some u):Un fs ex H (upd H x o) h h':=by
 have hx:∀b,H b=none->b≠x:=λb n z=>by subst z;rw[n] at mu;exact mu
 have hb:∀b,H b=none->b≠e:=λb n z=>by
  subst z;rcases he with r | r
  .exact hx b n r
  .rw[n] at r;cases r
 have hm:∀b u,H b=some u->¬ Mut (some u)->b≠x:=λb u q nm z=>by subst z;rw[q] at mu;exact nm mu
 refine⟨λb u q n _ _=>k b u (hb b n) q,λb u q n _ _=>⟨u.slots,k b u (hb b n) q⟩,λb u q n _=>by rw[zf (hx b n)];exact n,λb u q _=>?_,
  λb xs q=>by rw[zf (hm b _ q λz=>z)];exact q,λb u xs q=>by rw[zf (hm b _ q λz=>z)];exact q,λb ps q=>⟨#[],by rw[zf (hm b _ q λz=>z),q];simp⟩⟩
 by_cases hbe:b=e
 .subst hbe;exact heo
 .exact⟨u,k b u hbe q⟩
end
def trk (h:Heap)(H:Hp):List Addr:=(Wy h.objs.size).filter λa=>(H a).isSome
def zd1 (h:Heap)(H:Hp):Heap:=PySem.W.hideAll h (trk h H)
def ziy (h:Heap)(H:Hp):(zd1 h H).objs.size=h.objs.size:=PySem.W.hideAll_size _ _
def zjK {h:Heap}{H:Hp}{b:Addr}{o:Obj}(e:h.get? b=some o)(n:H b=none):(zd1 h H).get? b=some o :=
 TF _ e λhm=>by
  have q:(H b).isSome=true:=(X9.mp hm).2;rw[n] at q;simp at q
def zl7 {h:Heap}{H:Hp}{b:Addr}{o:Obj}(e:(zd1 h H).get? b=some o):h.get? b=some o/\H b=none:=by
 have e':h.get? b=some o:=PySem.W.of_hideAll (trk h H) e;refine⟨e',?_⟩;cases q:H b with
 | none=>rfl
 | some x =>
  have hm:b∈trk h H:=X9.mpr ⟨Wo.mpr (XE e'),by simp[q]⟩;have z:(zd1 h H).get? b=none:=PySem.W.hideAll_none (trk h H) hm;rw[z] at e;cases e
structure Mod (K:XW)(mg:Str->Option X8)(base:Heap):Prop where
 kin:K.In base
 glob:base.Ns XO mg
 blt:∃mb,base.Ns OU mb/\∀x:Str,x ≠ "__name__"->mb x=U4 x
 nolimit:base.NoLimit
structure Cx where
 prog:Xm
 w:WZ
 K:XW
 mg:Str->Option X8
 base:Heap
 A:WR
 N:AD
 s₀:X7
 H₀:Hp
 env:Env
 outer:List Env
 stack:List Env
 ex:List Addr
 fn:Str->Bool
 calm:Bool
 pn:List (Addr×Obj)
 xe:X8->X7->Prop
def frs (l:List Env):List Addr:=l.filterMap (·.frame)
abbrev Cx.fs (X:Cx):List Addr:=frs X.outer
def Vis (sc:Vi)(x:Str):Prop:=sc.names.lookup x=some .local\/sc.names.lookup x=some .cell\/sc.names.lookup x=some .free
def Loc (sc:Vi)(x:Str):Prop:=sc.names.lookup x=some .local\/sc.names.lookup x=some .cell
def Look (env:Env)(h:Heap)(m:Str->Option X8)(x:Str)(u:X8):Prop :=
 (env.kindOf x=some .local/\m x=some u)\/((env.kindOf x=some .cell\/env.kindOf x=some .free)/\∃c,env.cells.lookup x=some c/\h.IsCell c (some u))
structure Cx.Ok (X:Cx):Prop where
 mod:Mod X.K X.mg X.base
 kind:X.env.scope.kind=.function
 glob:X.env.globals=XO
 blt:X.env.builtins=OU
 above:X.s₀.heap.objs.size<=X.env.locals
 inj:∀x y c,X.env.cells.lookup x=some c->X.env.cells.lookup y=some c->x=y
 has:∀x,(X.env.kindOf x=some .cell\/X.env.kindOf x=some .free)->∃c,X.env.cells.lookup x=some c
 cab:∀x c,X.fn x=true->X.env.cells.lookup x=some c->X.s₀.heap.objs.size<=c
 hd:X.calm=true->X.A.handled=none
 frames:X.A.frames=some X.stack
 stk:X.stack=X.outer\/(X.stack=X.env::X.outer/\X.env.frame=some X.env.locals)
 exf:∀b∈X.ex,b≠X.env.locals/\∀x c,X.env.cells.lookup x=some c->c≠b
 bs:∀b o,X.base.get? b=some o->X.s₀.heap.get? b=some o/\X.H₀ b=none
 bsz:X.base.objs.size<=X.s₀.heap.objs.size
 noex:∀b o,X.base.get? b=some o->b ∉ X.ex
 exfs:∀b∈X.ex,b ∉ X.fs
 funs:X.s₀.heap.FunFrames X.base X.outer
 frf:∀b∈X.fs,X.H₀ b=none
structure Inv (X:Cx)(bQ:List (Addr×Obj))(σ:List (Option V))(H:Hp)(s:X7):Prop where
 ok:X.Ok
 os:s.os=X.s₀.os
 bare:Te s.gens
 base:Un X.fs X.ex X.H₀ H X.s₀.heap s.heap
 loc:∃m,s.heap.Ns X.env.locals m/\∀(i:Nat) (x:Str) (v:V),X.N[i]?=some x->σ[i]?=some (some v)->Vis X.env.scope x->∃u,RelV v u/\Look X.env s.heap m x u
 cell:∀x c,X.env.cells.lookup x=some c->∃v,s.heap.IsCell c v
 free:H X.env.locals=none
 zU:∀x c,X.env.cells.lookup x=some c->H c=none
 pin:∀p∈X.pn++bQ,s.heap.get? p.1=some p.2/\H p.1=none/\p.1≠X.env.locals/\p.1 ∉ X.fs/\∀v,p.2.data ≠ .cell v
 hok:HOk X.prog X.w H s.heap
 len:σ.length=X.N.length
section
variable {X:Cx}{bQ:List (Addr×Obj)}{σ:List (Option V)}{H H':Hp}{s:X7}{h':Heap}
def Cx.Ok.nofr (ok:X.Ok){b:Addr}{o:Obj}(e:X.base.get? b=some o):b ∉ X.fs:=λhb=>by
 have:=(ok.funs.mem hb).1;rw[e] at this;cases this
theorem Inv.bs (I:Inv X bQ σ H s):∀b o,X.base.get? b=some o->s.heap.get? b=some o/\H b=none:=λb o e =>
 ⟨I.base.keep b o (I.ok.bs b o e).1 (I.ok.bs b o e).2 (I.ok.nofr e) (I.ok.noex b o e),I.base.free b o (I.ok.bs b o e).1 (I.ok.bs b o e).2 (I.ok.noex b o e)⟩
def Inv.bk (I:Inv X bQ σ H s):∀b o,X.base.get? b=some o->s.heap.get? b=some o:=λb o e=>(I.bs b o e).1
theorem Inv.mod (I:Inv X bQ σ H s):Mod X.K X.mg X.base:=I.ok.mod
def Inv.kIn (I:Inv X bQ σ H s):X.K.In s.heap:=I.ok.mod.kin.keeps I.bk
theorem Inv.lt (I:Inv X bQ σ H s):X.env.locals<s.heap.objs.size:=let ⟨_,hn,_⟩:=I.loc;hn.lt
def Inv.sz (I:Inv X bQ σ H s):X.s₀.heap.objs.size<=s.heap.objs.size:=XZ I.ok.above (TR I.lt)
def Inv.nofs (I:Inv X bQ σ H s){a:Addr}(h:s.heap.objs.size<=a):a ∉ X.fs:=λhb=>by
 obtain⟨_,o,ho,_⟩:=I.ok.funs.mem hb;exact absurd (Xs (XE ho) (XZ I.sz h)) (VM _)
def Inv.cne (I:Inv X bQ σ H s):∀x c,X.env.cells.lookup x=some c->c≠X.env.locals:=λx c e z=>by
 obtain⟨v,o,ho,hd⟩:=I.cell x c e;obtain⟨m,⟨o',es,ep,ho',hd',_⟩,_⟩:=I.loc;rw[z,ho'] at ho;cases ho;rw[hd'] at hd;cases hd
theorem Inv.funs (I:Inv X bQ σ H s):s.heap.FunFrames X.base X.outer:=by
 have all:∀(l:List Env),(∀b∈frs l,b∈X.fs)->X.s₀.heap.FunFrames X.base l->s.heap.FunFrames X.base l:=by
  intro l;induction l with
  | nil=>intro _ _;trivial
  | cons env r ih =>
   intro hs hl;obtain⟨hk,⟨L,o,hf,hn,ho,hd⟩,hr⟩:=hl;have hL:L∈X.fs:=hs L (by unfold frs;rw[Va,hf];exact XU);obtain⟨sl,e⟩:=I.base.slot L o ho (I.ok.frf L hL) hL λz=>I.ok.exfs L z hL;exact⟨hk,⟨L,_,hf,hn,e,hd⟩,ih (λb hb=>hs b (by unfold frs;rw[Va,hf];exact XR _ hb)) hr⟩
 exact all X.outer (λ_ hb=>hb) I.ok.funs
theorem Inv.stack (I:Inv X bQ σ H s):s.heap.FunFrames X.base X.stack:=by
 rcases I.ok.stk with e | ⟨e,hf⟩
 .rw[e];exact I.funs
 .rw[e];obtain⟨m,hn,_⟩:=I.loc;refine .cons (by rw[I.ok.kind];decide) hf hn ?_ I.funs;exact UF (XZ I.ok.bsz I.ok.above)
def Inv.stkSub (I:Inv X bQ σ H s):∀b∈frs X.stack,b∈X.env.locals::X.fs:=λb hb=>by
 rcases I.ok.stk with e | ⟨e,hf⟩
 .rw[e] at hb;exact XR _ hb
 .rw[e] at hb;unfold frs at hb;rw[Va,hf] at hb;exact hb
def Inv.stkFree (I:Inv X bQ σ H s):∀b∈frs X.stack,H b=none:=λb hb=>by
 rcases XG.mp (I.stkSub b hb) with e | hb
 .rw[e];exact I.free
 .obtain⟨_,o,ho,_⟩:=I.ok.funs.mem hb;exact I.base.free b o ho (I.ok.frf b hb) λz=>I.ok.exfs b z hb
def Inv.step {g':Array Ut}{t':Nat}{d':Oz}{ch:List Addr}(I:Inv X bQ σ H s)
  (hch:∀b∈ch,(b∈X.ex\/X.s₀.heap.objs.size<=b)/\b≠X.env.locals/\(∀x c,X.env.cells.lookup x=some c->c≠b)/\∀p∈X.pn++bQ,p.1≠b)
  (keep:∀b o,b≠X.env.locals->b ∉ X.fs->b ∉ ch->s.heap.get? b=some o->H b=none->h'.get? b=some o)
  (slot:∀b o,b≠X.env.locals->b∈X.fs->b ∉ ch->s.heap.get? b=some o->H b=none->∃sl,h'.get? b=some { o with slots:=sl }) (free:∀b o,b ∉ ch->s.heap.get? b=some o->H b=none->H' b=none)
  (there:∀b o,b ∉ ch->s.heap.get? b=some o->∃o',h'.get? b=some o')
  (tups:∀b xs,H b=some (.tup xs)->H' b=some (.tup xs)) (frzs:∀b o u,H b=some (.frz o u)->H' b=some (.frz o u)) (tbls:∀b ps,H b=some (.tbl ps)->∃more,H' b=some (.tbl (ps++more)))
  (ns:∀m,s.heap.Ns X.env.locals m->h'.Ns X.env.locals m) (hok:HOk X.prog X.w H' h') (hg:Te g') :
  Inv X bQ σ H' { s with heap:=h',gens:=g',drawn:=d',toks:=t' }:=by
 have neL:∀b o,X.s₀.heap.get? b=some o->b≠X.env.locals:=λb o e=>Xe (Xs (XE e) I.ok.above);have neC:∀b o,X.s₀.heap.get? b=some o->b ∉ X.ex->b ∉ ch:=λb o e hx hb=>by
  rcases(hch b hb).1 with z | z
  .exact hx z
  .exact absurd (Xs (XE e) z) (VM _)
 have cellK:∀x c,X.env.cells.lookup x=some c->∀v,s.heap.IsCell c v->h'.IsCell c v:=λx c e v ⟨o,ho,hd⟩=>by
  have nch:c ∉ ch:=λz=>(hch c z).2.2.1 x c e rfl;by_cases hc:c∈X.fs
  .obtain⟨sl,q⟩:=slot c o (I.cne x c e) hc nch ho (I.zU x c e);exact⟨_,q,hd⟩
  .exact⟨o,keep c o (I.cne x c e) hc nch ho (I.zU x c e),hd⟩
 refine⟨I.ok,I.os,hg,⟨λb o e n hb hx=>?_,λb o e n hb hx=>?_,λb o e n hx=>?_,λb o e hx=>?_,λb xs e=>tups b xs (I.base.tups b xs e),λb o xs e=>frzs b o xs (I.base.frzs b o xs e),λb ps e=>?_⟩,?_,λx c e=>?_,?_,λx c e=>?_,λp hp=>?_,hok,I.len⟩
 .exact keep b o (neL b o e) hb (neC b o e hx) (I.base.keep b o e n hb hx) (I.base.free b o e n hx)
 .obtain⟨sl,e1⟩:=I.base.slot b o e n hb hx;obtain⟨sl',e2⟩:=slot b _ (neL b o e) hb (neC b o e hx) e1 (I.base.free b o e n hx);exact⟨sl',e2⟩
 .obtain⟨o',e1⟩:=I.base.there b o e hx;exact free b o' (neC b o e hx) e1 (I.base.free b o e n hx)
 .obtain⟨o',e1⟩:=I.base.there b o e hx;exact there b o' (neC b o e hx) e1
 .obtain⟨m1,e1⟩:=I.base.tbls b ps e;obtain⟨m2,e2⟩:=tbls b _ e1;exact⟨m1++m2,by rw[e2,Array.append_assoc]⟩
 .obtain⟨m,hn,hl⟩:=I.loc;refine⟨m,ns m hn,λi x v e1 e2 e3=>?_⟩;obtain⟨u,r,l⟩:=hl i x v e1 e2 e3;refine⟨u,r,?_⟩;rcases l with l | ⟨k,c,e,z⟩
  .exact .inl l
  .exact .inr ⟨k,c,e,cellK x c e _ z⟩
 .obtain⟨v,z⟩:=I.cell x c e;exact⟨v,cellK x c e v z⟩
 .obtain⟨m,⟨o,_,_,ho,_⟩,_⟩:=I.loc;exact free _ o (λz=>(hch _ z).2.1 rfl) ho I.free
 .obtain⟨v,o,ho,hd⟩:=I.cell x c e;exact free c o (λz=>(hch c z).2.2.1 x c e rfl) ho (I.zU x c e)
 .obtain⟨e,n,ne,nf,d⟩:=I.pin p hp;have nch:p.1 ∉ ch:=λz=>(hch p.1 z).2.2.2 p hp rfl;exact⟨keep p.1 p.2 ne nf nch e n,free p.1 p.2 nch e n,ne,nf,d⟩
def Inv.un {t':Nat}(I:Inv X bQ σ H s)(u:Un X.fs [] H H' s.heap h')(hok:HOk X.prog X.w H' h'):Inv X bQ σ H' { s with heap:=h',toks:=t' }:=by
 obtain⟨m,⟨o,es,ep,ho,r⟩,_⟩:=id I.loc;obtain⟨sl,hL⟩:=u.any ho I.free (by simp);exact I.step (g':=s.gens) (d':=s.drawn) (ch:=[]) (λ_ z=>nomatch z) (λb o _ hb _ e n=>u.keep b o e n hb (by simp)) (λb o _ hb _ e n=>u.slot b o e n hb (by simp)) (λb o _ e n=>u.free b o e n (by simp)) (λb o _ e=>u.there b o e (by simp)) u.tups u.frzs u.tbls (λm' hm=>by
  obtain⟨o',es',ep',ho',r'⟩:=hm;rw[ho] at ho';cases ho';exact⟨_,es',ep',hL,r'⟩) hok I.bare
def Inv.call {g':Array Ut}{t':Nat}{d':Oz}{ch:List Addr}(I:Inv X bQ σ H s)(u:Un (frs X.stack) ch H H' s.heap h')(hok:HOk X.prog X.w H' h')(hg:Te g')
  (hch:∀b∈ch,(b∈X.ex\/X.s₀.heap.objs.size<=b)/\b≠X.env.locals/\(∀x c,X.env.cells.lookup x=some c->c≠b)/\∀p∈X.pn++bQ,p.1≠b) :
  Inv X bQ σ H' { s with heap:=h',gens:=g',drawn:=d',toks:=t' }:=by
 obtain⟨m,⟨o,es,ep,ho,r⟩,_⟩:=id I.loc;obtain⟨sl,hL⟩:=u.any ho I.free λz=>(hch _ z).2.1 rfl;exact I.step (ch:=ch) hch (λb o hL hb hc e n=>u.keep b o e n (λz=>(XG.mp (I.stkSub b z)).elim hL hb) hc) (λb o _ _ hc e n=>u.any e n hc) (λb o hc e n=>u.free b o e n hc) (λb o hc e=>u.there b o e hc) u.tups u.frzs u.tbls (λm' hm=>by
  obtain⟨o',es',ep',ho',r'⟩:=hm;rw[ho] at ho';cases ho';exact⟨_,es',ep',hL,r'⟩) hok hg
def Inv.turned {t':Nat}{it:Addr}(I:Inv X bQ σ H s)(k:∀b o,b≠it->s.heap.get? b=some o->h'.get? b=some o)(hn:H it=none)(hL:it≠X.env.locals)
  (h1:it∈X.ex\/X.s₀.heap.objs.size<=it) (h2:∀x c,X.env.cells.lookup x=some c->c≠it) (h3:∀p∈X.pn++bQ,p.1≠it):Inv X bQ σ H { s with heap:=h',toks:=t' }:=by
 have nit:∀b u,H b=some u->b≠it:=λb u e z=>by rw[z,hn] at e;cases e
 refine I.step (g':=s.gens) (d':=s.drawn) (ch:=[it]) (λb hb=>?_) (λb o _ _ hc e _=>k b o (λz=>hc (by simp[z])) e) (λb o _ _ hc e _=>⟨o.slots,k b o (λz=>hc (by simp[z])) e⟩) (λ_ _ _ _ n=>n)
  (λb o hc e=>⟨o,k b o (λz=>hc (by simp[z])) e⟩) (λ_ _ e=>e) (λ_ _ _ e=>e) (λb ps e=>⟨#[],by rw[e];simp⟩) (λm hm=>?_) (λb u e=>?_) I.bare
 .have e:b=it:=by simpa using hb
  subst e;exact⟨h1,hL,h2,h3⟩
 .obtain⟨o,es,ep,ho,r⟩:=hm;exact⟨o,es,ep,k _ o (Vr hL) ho,r⟩
 .refine(I.hok b u e).stay (λc v hc q=>k c v ?_ q) (λ_ q=>q) λ_ _ q=>q;rcases hc with z | z
  .rw[z];exact nit b u e
  .exact nit c _ z
def Inv.tok (I:Inv X bQ σ H s)(t:Nat):Inv X bQ σ H { s with toks:=t }:=I.un (h':=s.heap) (t':=t) Un.refl I.hok
theorem Inv.kept {t':Nat}(I:Inv X bQ σ H s)(k:∀b u,s.heap.get? b=some u->h'.get? b=some u):Inv X bQ σ H { s with heap:=h',toks:=t' }:=I.un (Un.kept k) (I.hok.kept k)
theorem Inv.laid {a:Addr}{o:HO}{t':Nat}(I:Inv X bQ σ H s)(k:∀b u,s.heap.get? b=some u->h'.get? b=some u)(hp:s.heap.objs.size<=a)(new:jt X.prog X.w (upd H a o) h' a o) :
  Inv X bQ σ (upd H a o) { s with heap:=h',toks:=t' }:=I.un (Un.laid k hp (I.hok.fresh hp)) (I.hok.laid k hp new)
theorem Inv.write {x e:Addr}{o:HO}{t':Nat}(I:Inv X bQ σ H s)(mu:Mut (H x))(he:e=x\/H e=some (.own x))(k:∀b u,b≠e->s.heap.get? b=some u->h'.get? b=some u)(heo:∃u,h'.get? e=some u)
  (new:jt X.prog X.w (upd H x o) h' x o):Inv X bQ σ (upd H x o) { s with heap:=h',toks:=t' }:=I.un (Un.write mu he k heo) (I.hok.write mu he k heo new)
def Inv.pins_of {pins':List (Addr×Obj)}(I:Inv X bQ σ H s)(h:∀p∈pins',s.heap.get? p.1=some p.2/\H p.1=none/\p.1≠X.env.locals/\p.1 ∉ X.fs/\∀v,p.2.data ≠ .cell v):Inv X pins' σ H s :=
 ⟨I.ok,I.os,I.bare,I.base,I.loc,I.cell,I.free,I.zU,λp hp=>(XQ.mp hp).elim (λz=>I.pin p (Xf _ z)) (h p),I.hok,I.len⟩
def zbx {N:AD}(hN:N.Nodup){i j:Nat}{x:Str}(a:N[i]?=some x)(b:N[j]?=some x):i=j:=by
 obtain⟨h1,e1⟩:=X5.mp a;obtain⟨h2,e2⟩:=X5.mp b;exact(List.getElem_inj hN).mp (e1.trans e2.symm)
def zda {M:O2}{A:WR}{E:X8->X7->Prop}{i:Nat}{x:Str}{v:V}{u:X8}{Q:Unit->X7->Prop}(I:Inv X bQ σ H s)(hN:X.N.Nodup)(hi:X.N[i]?=some x)(hx:Loc X.env.scope x)(r:RelV v u)
  (h:∀s',Inv X bQ (σ.set i (some v)) H s'->(∃a,Wh a s.heap s'.heap/\(a=X.env.locals\/X.env.cells.lookup x=some a))->Q () s') (hf:X.fn x=true\/X.env.scope.names.lookup x=some .local:=by first | exact .inl rfl | exact .inr rfl | assumption):Xk M A (storeName X.env x u) Q E s:=by
 obtain⟨m,hn,hl⟩:=id I.loc;have hcls:(X.env.scope.kind == .class || (X.env.scope.kind == .module&&X.env.locals != X.env.globals))=false:=by rw[I.ok.kind];rfl
 have hiσ:i < σ.length:=by rw[I.len];exact(X5.mp hi).1
 have cne:=I.cne;have tracked:∀{a:Addr} {h':Heap},(∃o,s.heap.get? a=some o/\H a=none)->Wh a s.heap h'->HOk X.prog X.w H h':=λ{a h'} ha hs b ob e=>by
  obtain⟨_,_,hfree⟩:=ha;refine(I.hok b ob e).stay (λc w' hc q=>(hs.2 c ?_).trans q) (λ_ q=>q) λ_ _ q=>q;rintro rfl;rcases hc with rfl | hc
  .rw[hfree] at e;cases e
  .rw[hfree] at hc;cases hc
 rcases hx with hk | hk
 .refine wpAny_storeName_local hk hn (λh' hn' hs=>?_) hcls;obtain⟨oL,_,_,hoL,_⟩:=id hn;refine h _ ⟨I.ok,I.os,I.bare,⟨λb o e n hb hx=>?_,λb o e n hb hx=>?_,I.base.free,λb o e hx=>?_,I.base.tups,I.base.frzs,I.base.tbls⟩,⟨_,hn',λj y v' e1 e2 e3=>?_⟩,λy c e=>?_,I.free,I.zU,λp hp=>?_,tracked ⟨oL,hoL,I.free⟩ hs,by simpa using I.len⟩ ⟨_,hs,.inl rfl⟩
  .exact(hs.2 b (Xe (Xs (XE e) I.ok.above))).trans (I.base.keep b o e n hb hx)
  .obtain⟨sl,e1⟩:=I.base.slot b o e n hb hx;exact⟨sl,(hs.2 b (Xe (Xs (XE e) I.ok.above))).trans e1⟩
  .obtain⟨o',e1⟩:=I.base.there b o e hx;exact⟨o',(hs.2 b (Xe (Xs (XE e) I.ok.above))).trans e1⟩
  .by_cases hj:j=i
   .subst hj;rw[hi] at e1;cases e1;rw[SY hiσ] at e2;cases e2;exact⟨u,r,.inl ⟨hk,by simp⟩⟩
   .rw[Sv (Vr hj)] at e2;obtain⟨u',r',q⟩:=hl j y v' e1 e2 e3;refine⟨u',r',?_⟩;rcases q with ⟨k,e⟩ | ⟨k,c,e,z⟩
    .refine .inl ⟨k,?_⟩;have:y≠x:=λe=>hj (zbx hN e1 (e ▸ hi));simp[this,e]
    .exact .inr ⟨k,c,e,z.sameBut hs (cne y c e)⟩
  .obtain⟨w',z⟩:=I.cell y c e;exact⟨w',z.sameBut hs (cne y c e)⟩
  .obtain⟨e,n,ne,nf,d⟩:=I.pin p hp;exact⟨(hs.2 p.1 ne).trans e,n,ne,nf,d⟩
 .have hfn:X.fn x=true:=by
   rcases hf with z | z
   .exact z
   .rw[z] at hk;cases hk
  obtain⟨c,hc⟩:=I.ok.has x (.inl hk);obtain⟨w',z⟩:=I.cell x c hc;refine wpAny_storeName_cell I.ok.kind hk hc z (λh' hc' hs=>?_);obtain⟨oc,hoc,hocd⟩:=id z;refine h { s with heap:=h' } ⟨I.ok,I.os,I.bare,⟨λb o e n hb hx=>?_,λb o e n hb hx=>?_,I.base.free,λb o e hx=>?_,I.base.tups,I.base.frzs,I.base.tbls⟩,⟨m,hn.sameBut hs (Vr (cne x c hc)),λj y v' e1 e2 e3=>?_⟩,λy c' e=>?_,I.free,I.zU,λp hp=>?_,tracked ⟨oc,hoc,I.zU x c hc⟩ hs,by simpa using I.len⟩ ⟨c,hs,.inr hc⟩
  .exact(hs.2 b (Xe (Xs (XE e) (I.ok.cab x c hfn hc)))).trans (I.base.keep b o e n hb hx)
  .obtain⟨sl,e1⟩:=I.base.slot b o e n hb hx;exact⟨sl,(hs.2 b (Xe (Xs (XE e) (I.ok.cab x c hfn hc)))).trans e1⟩
  .obtain⟨o',e1⟩:=I.base.there b o e hx;exact⟨o',(hs.2 b (Xe (Xs (XE e) (I.ok.cab x c hfn hc)))).trans e1⟩
  .by_cases hj:j=i
   .subst hj;rw[hi] at e1;cases e1;rw[SY hiσ] at e2;cases e2;exact⟨u,r,.inr ⟨.inl hk,c,hc,hc'⟩⟩
   .rw[Sv (Vr hj)] at e2;obtain⟨u',r',q⟩:=hl j y v' e1 e2 e3;refine⟨u',r',?_⟩;rcases q with q | ⟨k,c',e,z'⟩
    .exact .inl q
    .refine .inr ⟨k,c',e,z'.sameBut hs ?_⟩;rintro rfl;exact hj (zbx hN e1 (I.ok.inj _ _ _ e hc ▸ hi))
  .by_cases hcc:c'=c
   .subst hcc;exact⟨_,hc'⟩
   .obtain⟨w2,z2⟩:=I.cell y c' e;exact⟨w2,z2.sameBut hs hcc⟩
  .obtain⟨e,n,ne,nf,d⟩:=I.pin p hp;refine⟨(hs.2 p.1 ?_).trans e,n,ne,nf,d⟩;intro q;rw[q,hoc] at e;have q':oc=p.2:=Option.some.inj e;exact d w' (by rw[<- q'];exact hocd)
def zby {M:O2}{A:WR}{E:X8->X7->Prop}{i:Nat}{x:Str}{v:V}{u:X8}{Q:Unit->X7->Prop}(I:Inv X bQ σ H s)(hN:X.N.Nodup)(hi:X.N[i]?=some x)(hx:Loc X.env.scope x)(r:RelV v u)
  (h:∀s',Inv X bQ (σ.set i (some v)) H s'->Q () s') (hf:X.fn x=true\/X.env.scope.names.lookup x=some .local:=by first | exact .inl rfl | exact .inr rfl | assumption):Xk M A (storeName X.env x u) Q E s :=
 zda I hN hi hx r (λs' I' _=>h s' I') hf
def Inv.call' {s':X7}{ch:List Addr}(I:Inv X bQ σ H s)(ho:s'.os=s.os)(u:Un (frs X.stack) ch H H' s.heap s'.heap)(hok:HOk X.prog X.w H' s'.heap)(hg:Te s'.gens)
  (hch:∀b∈ch,(b∈X.ex\/X.s₀.heap.objs.size<=b)/\b≠X.env.locals/\(∀x c,X.env.cells.lookup x=some c->c≠b)/\∀p∈X.pn++bQ,p.1≠b):Inv X bQ σ H' s':=by
 obtain⟨h',g',d',t',o'⟩:=s';have e:o'=s.os:=ho;subst e;exact I.call (g':=g') (t':=t') (d':=d') u hok hg hch
end
abbrev XK:=X8->Option Addr->Hp->Prop
abbrev St:=List (Option V)
abbrev VK:=V->Hp->Prop
abbrev TE:=St->Hp->VK->Prop
abbrev TT:=St->Hp->(Bool->Hp->Prop)->Prop
abbrev TA:=St->Hp->(AE->Hp->Prop)->Prop
structure Ends where
 nx:St->Hp->Prop
 rt:VK
 bk:St->Hp->Prop:=λ_ _=>False
 ct:St->Hp->Prop:=λ_ _=>False
abbrev TS:=Ends->St->Hp->Prop
def EP (X:Cx)(bQ:List (Addr×Obj))(σ:St)(Q:VK)(u:X8)(s':X7):Prop:=∃v H',Inv X bQ σ H' s'/\RelV v u/\Q v H'
def TP (X:Cx)(bQ:List (Addr×Obj))(σ:St)(Q:Bool->Hp->Prop)(b:Bool)(s':X7):Prop:=∃H',Inv X bQ σ H' s'/\Q b H'
def AP (X:Cx)(bQ:List (Addr×Obj))(σ:St)(Q:AE->Hp->Prop)(us:List X8)(s':X7):Prop:=∃vs H',Inv X bQ σ H' s'/\Vals vs us/\Q vs H'
def SP (X:Cx)(bQ:List (Addr×Obj))(D:Ends)(f:Flow)(s':X7):Prop :=
 match f with
 | .next=>∃ σ' H',Inv X bQ σ' H' s'/\D.nx σ' H'
 | .brk=>∃ σ' H',Inv X bQ σ' H' s'/\D.bk σ' H'
 | .cont=>∃ σ' H',Inv X bQ σ' H' s'/\D.ct σ' H'
 | .ret u=>∃v σ' H',Inv X bQ σ' H' s'/\RelV v u/\D.rt v H'
def PE (X:Cx)(e:Expr)(t:TE):Prop :=
 ∀(bQ:List (Addr×Obj)) (s:X7) (σ:St) (H:Hp) (Q:VK),Inv X bQ σ H s->t σ H Q->Xk (Xn X.prog X.w) X.A (eval e X.env) (EP X bQ σ Q) X.xe s
def PT (X:Cx)(e:Expr)(t:TT):Prop :=
 ∀(bQ:List (Addr×Obj)) (s:X7) (σ:St) (H:Hp) (Q:Bool->Hp->Prop),Inv X bQ σ H s->t σ H Q->Xk (Xn X.prog X.w) X.A (isTrue e X.env (eval e X.env)) (TP X bQ σ Q) X.xe s
def PW (X:Cx)(e:Expr)(t:TT):Prop :=
 ∀(whole:Sem X8) (bQ:List (Addr×Obj)) (s:X7) (σ:St) (H:Hp) (Q:Bool->Hp->Prop),Inv X bQ σ H s->t σ H Q->Xk (Xn X.prog X.w) X.A (isTrue e X.env whole) (TP X bQ σ Q) X.xe s
def PW.pt {X:Cx}{e:Expr}{t:TT}(h:PW X e t):PT X e t:=h _
def PA (X:Cx)(es:List Expr)(t:TA):Prop :=
 ∀(pos:Pos) (bQ:List (Addr×Obj)) (s:X7) (σ:St) (H:Hp) (Q:AE->Hp->Prop),Inv X bQ σ H s->t σ H Q->Xk (Xn X.prog X.w) X.A (spliced (Tr pos (WY es X.env))) (AP X bQ σ Q) X.xe s
def PS (X:Cx)(st:Stmt)(t:TS):Prop :=
 ∀(bQ:List (Addr×Obj)) (s:X7) (σ:St) (H:Hp) (D:Ends),Inv X bQ σ H s->t D σ H->Xk (Xn X.prog X.w) X.A (exec st X.env) (SP X bQ D) X.xe s
def PSs (X:Cx)(st:List Stmt)(t:TS):Prop :=
 ∀(bQ:List (Addr×Obj)) (s:X7) (σ:St) (H:Hp) (D:Ends),Inv X bQ σ H s->t D σ H->Xk (Xn X.prog X.w) X.A (execs st X.env) (SP X bQ D) X.xe s
def thn {α:Type}{t:Sem α}{Q Q':α->X7->Prop}{M:O2}{A:WR}{E:X8->X7->Prop}{s:X7}(h:Xk M A t Q E s)(hQ:∀a s,Q a s->Q' a s):Xk M A t Q' E s:=VU h hQ λ_ _ x=>x
section
variable {X:Cx}
def zpM (i:Nat):TE:=fun σ H Q=>∃v,σ[i]?=some (some v)/\Q v H
def tC (v:V):TE:=λ_ H Q=>Q v H
def zol {i:Nat}{x:Str}{pos:Pos}(hN:X.N[i]?=some x)(hv:Vis X.env.scope x)(hd:(x==("__debug__":Str))=false:=by decide)(hcd:(x==("__classdict__":Str))=false:=by decide):PE X (.Name x pos) (zpM i):=by
 intro bQ s σ H Q I h;obtain⟨v,e,h⟩:=h;obtain⟨m,hn,hl⟩:=I.loc;obtain⟨u,r,l⟩:=hl i x v hN e hv;have fin:EP X bQ σ Q u s:=⟨v,H,I,r,h⟩;rcases l with ⟨hk,hm⟩ | ⟨hk,c,hc,hcell⟩
 .exact wpAny_Name (wpAny_loadName_local I.ok.kind hk hn hm fin) hd
 .rcases hk with hk | hk
  .exact wpAny_Name (wpAny_loadName_cell I.ok.kind hk hc hcell fin) hd
  .exact wpAny_Name (wpAny_loadName_free I.ok.kind hk hc hcell fin hcd) hd
def zj {i j pos}:PE X (.Constant (.int i) j pos) (tC (.int i)):=λ_ _ _ H _ I h=>wpAny_Constant_int ⟨.int i,H,I.tok _,⟨_,rfl⟩,h⟩
def zeQ {b j pos}:PE X (.Constant (.bool b) j pos) (tC (.bl b)):=λ_ _ _ H _ I h=>Constant_bool ⟨.bl b,H,I,rfl,h⟩
def zd2 {j pos}:PE X (.Constant .none j pos) (tC .non):=λ_ _ _ H _ I h=>Constant_none ⟨.non,H,I,rfl,h⟩
def zZ {x j pos}:PE X (.Constant (.str x) j pos) (tC (.str x)):=λ_ _ _ H _ I h=>Calls.Constant_str ⟨.str x,H,I.tok _,⟨_,rfl⟩,h⟩
def Gl (X:Cx)(x:Str):Prop:=X.env.kindOf x=some .globalImplicit
def QE {E:X8->X7->Prop}{bQ:List (Addr×Obj)}{s:X7}{σ:St}{H:Hp}{x:Str}{u:X8}{pos:Pos}{Q:X8->X7->Prop}(I:Inv X bQ σ H s)(hg:Gl X x)(hm:X.mg x=some u)(h:Q u s)
  (hd:(x==("__debug__":Str))=false:=by decide):Xk (Xn X.prog X.w) X.A (eval (.Name x pos) X.env) Q E s :=
 RX I.ok.kind hg (Calls.loadGlobal_global (by rw[I.ok.glob];exact I.mod.glob.keeps I.bk) hm h) hd
def Qf {E:X8->X7->Prop}{bQ:List (Addr×Obj)}{s:X7}{σ:St}{H:Hp}{x:Str}{u:X8}{pos:Pos}{Q:X8->X7->Prop}(I:Inv X bQ σ H s)(hg:Gl X x)(hm:X.mg x=none)(hv:U4 x=some u)(h:Q u s)
  (hn:x ≠ "__name__":=by decide) (hd:(x==("__debug__":Str))=false:=by decide):Xk (Xn X.prog X.w) X.A (eval (.Name x pos) X.env) Q E s:=by
 obtain⟨mb,h1,h2⟩:=I.mod.blt;exact RX I.ok.kind hg (Calls.loadGlobal_builtin (by rw[I.ok.glob];exact I.mod.glob.keeps I.bk) hm (by rw[I.ok.blt];exact h1.keeps I.bk) ((h2 x hn).trans hv) h) hd
def yU {x:Str}{v:V}{u:X8}{pos:Pos}(hg:Gl X x)(hm:X.mg x=some u)(r:RelV v u)(hd:(x==("__debug__":Str))=false:=by decide):PE X (.Name x pos) (tC v) :=
 λ_ _ _ H _ I h=>QE I hg hm ⟨v,H,I,r,h⟩ hd
def zl8 {x:Str}{v:V}{u:X8}{pos:Pos}(hg:Gl X x)(hm:X.mg x=none)(hv:U4 x=some u)(r:RelV v u)(hn:x ≠ "__name__":=by decide)(hd:(x==("__debug__":Str))=false:=by decide):PE X (.Name x pos) (tC v) :=
 λ_ _ _ H _ I h=>Qf I hg hm hv ⟨v,H,I,r,h⟩ hn hd
variable {a b:Expr}{ta tb:TE}{pos:Pos}
def PC (X:Cx)(op:Oq)(a b:Expr)(t:TE):Prop :=
 ∀(bQ:List (Addr×Obj)) (s:X7) (σ:St) (H:Hp) (Q:VK),Inv X bQ σ H s->t σ H Q ->
  Xk (Xn X.prog X.w) X.A (eval a X.env) (λv s₁=>Xk (Xn X.prog X.w) X.A (eval b X.env) (λu s₂=>Xk (Xn X.prog X.w) X.A (Wj op v u) (EP X bQ σ Q) X.xe s₂) X.xe s₁) X.xe s
def tB (t:TE):TT:=fun σ H Q=>t σ H λx H1=>∃c,x=.bl c/\Q c H1
def zom {op:Oq}{t:TE}(h:PC X op a b t)(h1:Tx op b=false:=by first | exact nobehind _ (by decide) (by decide) | rfl):PT X (.Compare a [op] [b] pos) (tB t):=by
 intro bQ s σ H Q I hw;refine SV (thn (h bQ s σ H _ I hw) λv s1 h1=>thn h1 λu s2 h2=>thn h2 λc s3 ⟨x,H1,I1,r1,q1⟩=>?_) h1;obtain⟨d,rfl,q⟩:=q1;cases r1;exact VT ⟨H1,I1,q⟩
variable {tA tB':TT}{rest:List Expr}
def zqJ (t u:TT):TT:=fun σ H Q=>t σ H λc H1=>if c=true then u σ H1 Q else Q false H1
def tOr (t u:TT):TT:=fun σ H Q=>t σ H λc H1=>if c=true then Q true H1 else u σ H1 Q
def zqK (t:TT):TT:=fun σ H Q=>t σ H λc H1=>Q (!c) H1
def zl9 (ha:PT X a tA):PW X (.BoolOp .And [a] pos) tA:=by
 intro wh bQ s σ H Q I h;refine isTrue_and (thn (ha bQ s σ H Q I h) λc s1 e=>?_);cases c with
 | true=>exact isTrue_and_nil e
 | false=>exact e
def zon (ha:PT X a tA):PW X (.BoolOp .Or [a] pos) tA:=by
 intro wh bQ s σ H Q I h;refine isTrue_or (thn (ha bQ s σ H Q I h) λc s1 e=>?_);cases c with
 | false=>exact isTrue_or_nil e
 | true=>exact e
def zoo (ha:PT X a tA)(hb:PW X (.BoolOp .And (b::rest) pos) tB'):PW X (.BoolOp .And (a::b::rest) pos) (zqJ tA tB'):=by
 intro wh bQ s σ H Q I h;refine isTrue_and (thn (ha bQ s σ H _ I h) λc s1 ⟨H1,I1,q1⟩=>?_);cases c with
 | true=>exact hb wh bQ s1 σ H1 Q I1 q1
 | false=>exact⟨H1,I1,q1⟩
def zpN (ha:PT X a tA)(hb:PW X (.BoolOp .Or (b::rest) pos) tB'):PW X (.BoolOp .Or (a::b::rest) pos) (tOr tA tB'):=by
 intro wh bQ s σ H Q I h;refine isTrue_or (thn (ha bQ s σ H _ I h) λc s1 ⟨H1,I1,q1⟩=>?_);cases c with
 | true=>exact⟨H1,I1,q1⟩
 | false=>exact hb wh bQ s1 σ H1 Q I1 q1
def zgh (ha:PT X a tA):PT X (.UnaryOp .Not a pos) (zqK tA):=by
 intro bQ s σ H Q I h;exact isTrue_not (ha bQ s σ H (λc H1=>Q (!c) H1) I h)
def zpO (ta tb:TE):TE:=fun σ H Q=>ta σ H λx H1=>∃c,x=.bl c/\if c=true then tb σ H1 Q else Q (.bl false) H1
def zpP (ta:TE):TE:=fun σ H Q=>ta σ H λx H1=>∃c,x=.bl c/\Q (.bl (!c)) H1
def zop {op}{t:TE}(h:PE X a t):PE X (.BoolOp op [a] pos) t:=λbQ s σ H Q I hw=>BoolOp_one (h bQ s σ H Q I hw)
def zjL (ha:PE X a ta)(hb:PE X (.BoolOp .And (b::rest) pos) tb):PE X (.BoolOp .And (a::b::rest) pos) (zpO ta tb):=by
 intro bQ s σ H Q I h;refine BoolOp_and (thn (ha bQ s σ H _ I h) λv s1 ⟨x,H1,I1,r1,q1⟩=>?_);obtain⟨c,rfl,q1⟩:=q1;cases r1;refine VT ?_;cases c with
 | true=>exact hb bQ s1 σ H1 Q I1 q1
 | false=>exact⟨.bl false,H1,I1,rfl,q1⟩
def zoq (ha:PE X a ta):PE X (.UnaryOp .Not a pos) (zpP ta):=by
 intro bQ s σ H Q I h;refine UnaryOp_ (thn (ha bQ s σ H _ I h) λv s1 ⟨x,H1,I1,r1,q1⟩=>?_);obtain⟨c,rfl,q1⟩:=q1;cases r1;exact not_of (VT ⟨.bl (!c),H1,I1,rfl,q1⟩)
def tIf (t:TT)(ta tb:TE):TE:=fun σ H Q=>t σ H λc H1=>if c=true then ta σ H1 Q else tb σ H1 Q
def zjM {c:Expr}(hc:PT X c tA)(ha:PE X a ta)(hb:PE X b tb):PE X (.IfExp c a b pos) (tIf tA ta tb):=by
 intro bQ s σ H Q I h;refine wpAny_IfExp (thn (hc bQ s σ H _ I h) λd s1 ⟨H1,I1,q1⟩=>?_);cases d with
 | true=>exact ha bQ s1 σ H1 Q I1 q1
 | false=>exact hb bQ s1 σ H1 Q I1 q1
end
def SqL (K:XW)(H:Hp)(a:Addr)(xs:AE):Prop :=
 Rd H a (.lst xs) \/
  ∃(o:Obj) (its:Array X8) (n:Nat),K.lookup a=some o/\o.cls=.type "list"/\o.dict=none/\o.data=.seq its n/\its.size<=Xq/\Vals xs its.toList
def SqT (K:XW)(H:Hp)(a:Addr)(xs:AE):Prop :=
 Rd H a (.tup xs) \/
  ∃(o:Obj) (its:Array X8) (n:Nat),K.lookup a=some o/\o.cls=.type "tuple"/\o.data=.seq its n/\its.size<=Xq/\Vals xs its.toList
def zqL:X8->Option V
 | .none=>some .non
 | .bool b=>some (.bl b)
 | .int i _=>some (.int i)
 | .str x _=>some (.str x)
 | .bytes b _=>some (.byt b)
 | .float b _=>some (.flt b)
 | .ref a=>some (.ref a)
 | .type n=>some (.ty n)
 | _=>none
def RelV.abs {x:V}{u:X8}(r:RelV x u):zqL u=some x:=by
 cases x with
 | non=>cases r;rfl
 | bl _=>cases r;rfl
 | int _=>obtain⟨t,rfl⟩:=r;rfl
 | str _=>obtain⟨t,rfl⟩:=r;rfl
 | byt _=>obtain⟨t,rfl⟩:=r;rfl
 | flt _=>obtain⟨t,rfl⟩:=r;rfl
 | ref _=>cases r;rfl
 | ty _=>cases r;rfl
theorem RelV.inj {x y:V}{u:X8}(r:RelV x u)(q:RelV y u):x=y:=Option.some.inj (r.abs.symm.trans q.abs)
theorem Vals.inj:∀{xs ys:AE} {us:List X8},Vals xs us->Vals ys us->xs=ys
 | _,_,_,.nil,.nil=>rfl
 | _,_,_,.cons r t,.cons r' t'=>by rw[r.inj r',Vals.inj t t']
section
variable {X:Cx}{bQ:List (Addr×Obj)}{σ:St}{H:Hp}{s:X7}{a:Addr}{xs ys:AE}
def SqL.of {K:XW}(h:H a=some (.lst xs)):SqL K H a xs:=.inl (.inl h)
def SqT.of {K:XW}(h:H a=some (.tup xs)):SqT K H a xs:=.inl (.inl h)
def Inv.list (I:Inv X bQ σ H s)(h:SqL X.K H a xs):∃its:List X8,Vals xs its/\PlainL s.heap a its.toArray/\xs.length<=Xq:=by
 rcases h with h | ⟨o,its,n,hk,hc,hd,hs,hz,r⟩
 .obtain⟨z,its,n,r,e⟩:=h.ok I.hok;exact⟨its,r,⟨_,n,e,rfl,rfl,rfl⟩,z⟩
 .refine⟨its.toList,r,⟨o,n,I.kIn a o hk,hc,hd,by simpa using hs⟩,?_⟩;have e:=r.length;simp only[X4] at e;lia
def Inv.tuple (I:Inv X bQ σ H s)(h:SqT X.K H a xs):∃its:List X8,Vals xs its/\OA s.heap a its.toArray/\xs.length<=Xq:=by
 rcases h with h | ⟨o,its,n,hk,hc,hs,hz,r⟩
 .obtain⟨z,its,r,p⟩:=h.ok I.hok;exact⟨its,r,p,z⟩
 .refine⟨its.toList,r,⟨o,I.kIn a o hk,hc,n,by simpa using hs⟩,?_⟩;have e:=r.length;simp only[X4] at e;lia
def Inv.list_inj (I:Inv X bQ σ H s)(h:SqL X.K H a xs)(h':SqL X.K H a ys):xs=ys:=by
 obtain⟨its,r,⟨o,n,e,_,_,d⟩,_⟩:=I.list h;obtain⟨its',r',⟨o',n',e',_,_,d'⟩,_⟩:=I.list h';rw[e] at e';cases e';rw[d] at d';injection d' with d1 _
 have:its=its':=by simpa using congrArg Array.toList d1
 subst this;exact r.inj r'
end
abbrev Cx.wish (X:Cx)(E:X8->X7->Prop):Cx:={ X with xe:=E }
abbrev Cx.nox (X:Cx):Cx:=X.wish λ_ _=>False
theorem Cx.Ok.wish {X:Cx}(ok:X.Ok)(E:X8->X7->Prop):(X.wish E).Ok :=
 ⟨ok.mod,ok.kind,ok.glob,ok.blt,ok.above,ok.inj,ok.has,ok.cab,ok.hd,ok.frames,ok.stk,ok.exf,ok.bs,ok.bsz,ok.noex,ok.exfs,ok.funs,ok.frf⟩
def Cx.Ok.unwish {X:Cx}{E:X8->X7->Prop}(ok:(X.wish E).Ok):X.Ok :=
 ⟨ok.mod,ok.kind,ok.glob,ok.blt,ok.above,ok.inj,ok.has,ok.cab,ok.hd,ok.frames,ok.stk,ok.exf,ok.bs,ok.bsz,ok.noex,ok.exfs,ok.funs,ok.frf⟩
section
variable {X:Cx}{bQ:List (Addr×Obj)}{σ:St}{H:Hp}{s:X7}{E:X8->X7->Prop}
theorem Inv.wish (I:Inv X bQ σ H s)(E:X8->X7->Prop):Inv (X.wish E) bQ σ H s:=⟨I.ok.wish E,I.os,I.bare,I.base,I.loc,I.cell,I.free,I.zU,I.pin,I.hok,I.len⟩
theorem Inv.unwish (I:Inv (X.wish E) bQ σ H s):Inv X bQ σ H s:=⟨I.ok.unwish,I.os,I.bare,I.base,I.loc,I.cell,I.free,I.zU,I.pin,I.hok,I.len⟩
theorem SP.unwish {D:Ends}{f:Flow}{s':X7}(h:SP (X.wish E) bQ D f s'):SP X bQ D f s':=by
 cases f with
 | next=>obtain⟨σ',H',I,q⟩:=h;exact⟨σ',H',I.unwish,q⟩
 | brk=>obtain⟨σ',H',I,q⟩:=h;exact⟨σ',H',I.unwish,q⟩
 | cont=>obtain⟨σ',H',I,q⟩:=h;exact⟨σ',H',I.unwish,q⟩
 | ret u=>obtain⟨v,σ',H',I,r,q⟩:=h;exact⟨v,σ',H',I.unwish,r,q⟩
theorem PSs.nox {st:List Stmt}{t:TS}(h:PSs X.nox st t):PSs X st t:=λbQ s σ H D I hw =>
 VU (h bQ s σ H D (I.wish _) hw) (λ_ _ q=>q.unwish) λ_ _ z=>Vn z
end
section
variable {X:Cx}{st:Stmt}{rest:List Stmt}{t u:TS}{e:Expr}{te:TE}{pos:Pos}
def zpQ:TS:=λD σ H=>D.nx σ H
def zqM (t u:TS):TS:=λD σ H=>t { D with nx:=u D } σ H
def qf:PSs X [] zpQ:=λ_ _ σ H _ I h=>Ue ⟨σ,H,I,h⟩
def ze (h1:PS X st t)(h2:PSs X rest u):PSs X (st::rest) (zqM t u):=by
 intro bQ s σ H D I h;refine SL (thn (h1 bQ s σ H { D with nx:=u D } I h) λf s1 q=>?_);cases f with
 | next =>
  obtain⟨σ',H',I',q⟩:=q;exact h2 bQ s1 σ' H' D I' q
 | ret v=>exact q
 | brk=>exact q
 | cont=>exact q
def zh (h1:PS X st t):PSs X [st] t:=by
 intro bQ s σ H D I h;refine SL (thn (h1 bQ s σ H D I h) λf s1 q=>?_);cases f with
 | next=>exact Ue q
 | ret v=>exact q
 | brk=>exact q
 | cont=>exact q
def Inv.quiet {bQ:List (Addr×Obj)}{σ:St}{H:Hp}{s:X7}(I:Inv X bQ σ H s):interactive X.env=false:=by simp[interactive,I.ok.kind]
def zpR (te:TE):TS:=λD σ H=>te σ H λ_ H1=>D.nx σ H1
def jW (he:PE X e te)(hs:Th e none pos.line X.env=pure false:=by rfl):PS X (.Expr e pos) (zpR te):=by
 intro bQ s σ H D I h;exact wpAny_Expr_any (thn (he bQ s σ H _ I h) λv s1 ⟨x,H1,I1,r1,q1⟩=>⟨σ,H1,I1,q1⟩) I.quiet hs
def zqN (te:TE):TS:=λD σ H=>te σ H D.rt
def zG (he:PE X e te):PS X (.Return (some e) pos) (zqN te):=by
 intro bQ s σ H D I h;exact wpAny_Return_some (thn (he bQ s σ H _ I h) λv s1 ⟨x,H1,I1,r1,q1⟩=>⟨x,σ,H1,I1,r1,q1⟩)
def zqO (c:TT)(t u:TS):TS:=λD σ H=>c σ H λb H1=>if b=true then t D σ H1 else u D σ H1
def je {c:Expr}{a b:List Stmt}{tc:TT}(hc:PT X c tc)(ha:PSs X a t)(hb:PSs X b u):PS X (.If c a b pos) (zqO tc t u):=by
 intro bQ s σ H D I h;refine wpAny_If (thn (hc bQ s σ H _ I h) λd s1 ⟨H1,I1,q1⟩=>?_);cases d with
 | true=>exact ha bQ s1 σ H1 D I1 q1
 | false=>exact hb bQ s1 σ H1 D I1 q1
end
abbrev TG:=V->St->Hp->(St->Hp->Prop)->Prop
abbrev TGs:=AE->St->Hp->(St->Hp->Prop)->Prop
def PG (X:Cx)(target:Expr)(t:TG):Prop :=
 ∀(bQ:List (Addr×Obj)) (s:X7) (σ:St) (H:Hp) (v:V) (u:X8) (Q:St->Hp->Prop),Inv X bQ σ H s->RelV v u->t v σ H Q ->
  Xk (Xn X.prog X.w) X.A (Ow target X.env u) (λ_ s'=>∃ σ' H',Inv X bQ σ' H' s'/\Q σ' H') X.xe s
def PGs (X:Cx)(ts:List Expr)(t:TGs):Prop :=
 ∀(bQ:List (Addr×Obj)) (s:X7) (σ:St) (H:Hp) (vs:AE) (us:List X8) (Q:St->Hp->Prop),Inv X bQ σ H s->Vals vs us->t vs σ H Q ->
  Xk (Xn X.prog X.w) X.A (assignInOrder ((Tp ts X.env).map (·.2)) us) (λ_ s'=>∃ σ' H',Inv X bQ σ' H' s'/\Q σ' H') X.xe s
abbrev zjN:=V->V->V->Hp->(Hp->Prop)->Prop
def zor (X:Cx)(t:zjN):Prop :=
 ∀(bQ:List (Addr×Obj)) (s:X7) (σ:St) (H:Hp) (o i v:V) (ov iv u:X8) (Q:Hp->Prop),Inv X bQ σ H s->RelV o ov->RelV i iv->RelV v u->t o i v H Q ->
  Xk (Xn X.prog X.w) X.A (setItem ov iv u) (λ_ s'=>∃H',Inv X bQ σ H' s'/\Q H') X.xe s
abbrev TIp:=V->V->Hp->VK->Prop
def PIp (X:Cx)(op:Operator)(t:TIp):Prop :=
 ∀(bQ:List (Addr×Obj)) (s:X7) (σ:St) (H:Hp) (x y:V) (v u:X8) (Q:VK),Inv X bQ σ H s->RelV x v->RelV y u->t x y H Q ->
  Xk (Xn X.prog X.w) X.A (inplaceOp op v u) (EP X bQ σ Q) X.xe s
section
variable {X:Cx}{pos:Pos}
def jN (i:Nat):TG:=λv σ H Q=>Q (σ.set i (some v)) H
def zht {i:Nat}{x:Str}(hN:X.N.Nodup)(hi:X.N[i]?=some x)(hx:Loc X.env.scope x)(hf:X.fn x=true\/X.env.scope.names.lookup x=some .local:=by first | exact .inl rfl | exact .inr rfl | assumption):PG X (.Name x pos) (jN i):=by
 intro bQ s σ H v u Q I r h;exact wpAny_assign_Name (zby I hN hi hx r (λs' I'=>⟨_,H,I',h⟩) hf)
def zqP:TGs:=λvs σ H Q=>vs=[]/\Q σ H
def zpS (t:TG)(u:TGs):TGs:=λvs σ H Q=>∃v r,vs=v::r/\t v σ H fun σ' H'=>u r σ' H' Q
def jX:PGs X [] zqP:=by
 intro bQ s σ H vs us Q I r h;obtain⟨e,h⟩:=h;subst e;cases r;exact assignInOrder_nil ⟨σ,H,I,h⟩
def zP {e:Expr}{es:List Expr}{t:TG}{u:TGs}(h1:PG X e t)(h2:PGs X es u)
  (hs:(Tp (e::es) X.env).map (·.2)=Ow e X.env::(Tp es X.env).map (·.2):=by rfl):PGs X (e::es) (zpS t u):=by
 intro bQ s σ H vs us Q I r h;obtain⟨v,vr,e1,h⟩:=h;subst e1;cases r with
 | cons r rr =>
  rw[hs];refine assignInOrder_cons (thn (h1 bQ s σ H _ _ _ I r h) λ_ s1 ⟨σ1,H1,I1,q1⟩=>?_);exact h2 bQ s1 σ1 H1 _ _ Q I1 rr q1
def zpT (K:XW)(n:Nat)(t:TGs):TG:=λv σ H Q=>∃a xs,v=.ref a/\SqT K H a xs/\xs.length=n/\t xs σ H Q
def Je {es:List Expr}{k:Nat}{t:TGs}{n:Nat}(hc:X.calm=true)(h:PGs X es t)
  (hn:(Tp es X.env).length=n:=by rfl) (hst:(Tp es X.env).findIdx? (·.1)=none:=by rfl):PG X (.Tuple es k pos) (zpT X.K n t):=by
 intro bQ s σ H v u Q I r hw;obtain⟨a,xs,e1,hq,hl,hw⟩:=hw;subst e1;cases r;obtain⟨its,rv,ht,hz⟩:=I.tuple hq;refine assign_Tuple_tuple (I.ok.hd hc) ht (by simp[hn,<- hl,rv.length]) hst λh' hx=>?_;have I1:Inv X bQ σ H { s with heap:=h' }:=I.kept (t':=s.toks) λb o e=>hx b o (Xe (XE e)) e;exact h bQ _ σ H xs _ Q I1 (by simpa using rv) hw
def zqQ (to ti:TE)(t:zjN):TG:=λv σ H Q=>to σ H λo H1=>ti σ H1 λi H2=>t o i v H2 λH3=>Q σ H3
def zbz {o i:Expr}{to ti:TE}{t:zjN}(ho:PE X o to)(hi:PE X i ti)(hs:zor X t)
  (ha:∀v,Ow (.Subscript o i pos) X.env v=(do
   let ov <- Pb [v] (eval o X.env)
   let iv <- Pb [v,ov] (eval i X.env)
   standAt pos
   Pb [v,ov,iv] (setItem ov iv v)
   release [v,ov,iv] []):=by intro _;rfl):PG X (.Subscript o i pos) (zqQ to ti t):=by
 intro bQ s σ H v u Q I r h;rw[ha];refine ZB (Wz (thn (ho bQ s σ H _ I h) λov s1 ⟨x,H1,I1,r1,q1⟩=>?_));refine ZB (Wz (thn (hi bQ s1 σ H1 _ I1 q1) λiv s2 ⟨y,H2,I2,r2,q2⟩=>?_));refine ZB (SG (ZB (Wz (thn (hs bQ s2 σ H2 x y v ov iv u _ I2 r1 r2 r q2) λ_ s3 ⟨H3,I3,q3⟩=>?_))));exact wpAny_release ⟨σ,H3,I3,q3⟩
def zgi (te:TE)(g:TG):TS:=λD σ H=>te σ H λx H1=>g x σ H1 D.nx
def Qg {tg e:Expr}{te:TE}{g:TG}(he:PE X e te)(hg:PG X tg g)(hs:swapsWithSole [tg] e pos.line X.env=pure false:=by rfl)(hw:swappedStores [tg] e X.env=pure none:=by rfl)
  (h1:(Tp [tg] X.env).map (·.2)=[Ow tg X.env]:=by rfl):PS X (.Assign [tg] e pos) (zgi te g):=by
 intro bQ s σ H D I h;refine wpAny_Assign_stores (thn (he bQ s σ H _ I h) λv s1 ⟨x,H1,I1,r1,q1⟩=>?_) hs hw;rw[h1];exact thn (hg bQ s1 σ H1 x v _ I1 r1 q1) λ_ s2 q=>q
def qH {i:Nat}{x:Str}{e:Expr}{te:TE}{pos':Pos}(hN:X.N.Nodup)(hi:X.N[i]?=some x)(hx:Loc X.env.scope x)(he:PE X e te)(hs:Th e (some (.Name x pos')) pos.line X.env=pure false:=by rfl)(hf:X.fn x=true\/X.env.scope.names.lookup x=some .local:=by first | exact .inl rfl | exact .inr rfl | assumption) :
  PS X (.Assign [.Name x pos'] e pos) (zgi te (jN i)):=by
 intro bQ s σ H D I h;refine wpAny_Assign_Name (thn (he bQ s σ H _ I h) λv s1 ⟨y,H1,I1,r1,q1⟩=>?_) hs;exact zby I1 hN hi hx r1 (λs2 I2=>⟨_,H1,I2,q1⟩) hf
def zpU (to ti te:TE)(tget:V->V->Hp->VK->Prop)(tip:TIp)(tset:zjN):TS:=λD σ H=>to σ H λo H1=>ti σ H1 λi H2=>tget o i H2 λx H3=>te σ H3 λy H4=>tip x y H4 λz H5=>tset o i z H5 λH6=>D.nx σ H6
def zpV (X:Cx)(t:V->V->Hp->VK->Prop):Prop :=
 ∀(bQ:List (Addr×Obj)) (s:X7) (σ:St) (H:Hp) (o i:V) (ov iv:X8) (Q:VK),Inv X bQ σ H s->RelV o ov->RelV i iv->t o i H Q ->
  Xk (Xn X.prog X.w) X.A (getItem ov iv) (EP X bQ σ Q) X.xe s
def zhu {o i e:Expr}{to ti te:TE}{tget:V->V->Hp->VK->Prop}{tip:TIp}{tset:zjN}{op:Operator}{tpos:Pos}(ho:PE X o to)(hi:PE X i ti)(hg:zpV X tget)(he:PE X e te)(hp:PIp X op tip)(hs:zor X tset)
  (ha:∀ov iv new,augStore i ov iv new=(do Pb [new,ov,iv] (setItem ov iv new);release [new,ov,iv] [];pure .next):=by intros;rfl):PS X (.AugAssign (.Subscript o i tpos) op e pos) (zpU to ti te tget tip tset):=by
 intro bQ s σ H D I h;refine wpAny_AugAssign_SubscriptAny (thn (ho bQ s σ H _ I h) λov s1 ⟨x1,H1,I1,r1,q1⟩=>?_) ha;refine thn (hi bQ s1 σ H1 _ I1 q1) λiv s2 ⟨x2,H2,I2,r2,q2⟩=>?_;refine thn (hg bQ s2 σ H2 x1 x2 ov iv _ I2 r1 r2 q2) λold s3 ⟨x3,H3,I3,r3,q3⟩=>?_;refine thn (he bQ s3 σ H3 _ I3 q3) λv s4 ⟨x4,H4,I4,r4,q4⟩=>?_;refine thn (hp bQ s4 σ H4 x3 x4 old v _ I4 r3 r4 q4) λnew s5 ⟨x5,H5,I5,r5,q5⟩=>?_;exact thn (hs bQ s5 σ H5 x1 x2 x5 ov iv new _ I5 r1 r2 r5 q5) λ_ s6 ⟨H6,I6,q6⟩=>⟨σ,H6,I6,q6⟩
def ipI (f:Int->Int->Int):TIp:=λx y H Q=>∃i j,x=.int i/\y=.int j/\Q (.int (f i j)) H
def zjO:PIp X .Add (ipI λi j=>i+j):=by
 intro bQ s σ H x y v u Q I r1 r2 h;obtain⟨i,j,e1,e2,q⟩:=h;subst e1;subst e2;obtain⟨t,rfl⟩:=r1;obtain⟨t',rfl⟩:=r2;exact iadd_int ⟨.int _,H,I.tok _,⟨_,rfl⟩,q⟩
end
section
variable {X:Cx}{pos:Pos}
def zos (c:TT)(tb:TS):TS:=λD σ H=>∃W:Nat->St->Hp->Prop,(∃m,W m σ H)/\∀m σ H,W m σ H ->
 c σ H λb H1=>if b=true then ∃N:St->Hp->Prop,(∀ σ' H',N σ' H'->∃m',m'<m/\W m' σ' H')/\tb { D with nx:=N,ct:=N,bk:=D.nx } σ H1 else D.nx σ H1
def zjP {c:Expr}{body:List Stmt}{tc:TT}{tb:TS}(hp:PassesOwn (Xn X.prog X.w) X.A X.env X.xe)(hc:PT X c tc)(hb:PSs X body tb):PS X (.While c body [] pos) (zos tc tb):=by
 intro bQ s σ H D I h;obtain⟨W,⟨m0,w0⟩,turn⟩:=h;refine wpAny_While (codeAny_whileLoop (λn s'=>∃ σ' H',Inv X bQ σ' H' s'/\W n σ' H') ?_ m0 ⟨σ,H,I,w0⟩);rintro n s1 ⟨σ1,H1,I1,w1⟩;refine UN hp (thn (hc bQ s1 σ1 H1 _ I1 (turn n σ1 H1 w1)) λb s2 ⟨H2,I2,q2⟩=>?_);cases b with
 | true =>
  obtain⟨N,hN,q2⟩:=q2;rw[br rfl];refine UN hp (thn (hb bQ s2 σ1 H2 _ I2 q2) λf s3 q3=>?_);cases f with
  | next =>
   obtain⟨σ3,H3,I3,n3⟩:=q3;obtain⟨m',hm,w3⟩:=hN σ3 H3 n3;exact⟨m',hm,σ3,H3,I3,w3⟩
  | cont =>
   obtain⟨σ3,H3,I3,n3⟩:=q3;obtain⟨m',hm,w3⟩:=hN σ3 H3 n3;exact⟨m',hm,σ3,H3,I3,w3⟩
  | brk=>exact q3
  | ret v=>exact q3
 | false =>
  rw[bw XT];exact Ue ⟨σ1,H2,I2,q2⟩
end
structure It where
 go:Nat->Hp->Prop
 yld:Nat->Hp->V->Hp->Prop
 stop:Nat->Hp->Prop
def Qh (X:Cx)(bQ:List (Addr×Obj))(H:Hp)(b:Addr):Prop :=
 H b=none/\b≠X.env.locals/\b ∉ X.fs/\(b∈X.ex\/X.s₀.heap.objs.size<=b)/\(∀x c,X.env.cells.lookup x=some c->c≠b)/\∀p∈X.pn++bQ,p.1≠b
def Inv.fpOk {X:Cx}{bQ:List (Addr×Obj)}{σ:St}{H H':Hp}{s:X7}{b:Addr}(I:Inv X bQ σ H s)(hb:s.heap.objs.size<=b)(hn:H' b=none):Qh X bQ H' b:=by
 refine⟨hn,TQ (Xs I.lt hb),I.nofs hb,.inr (XZ I.sz hb),λx c e z=>?_,λp hp z=>?_⟩
 .obtain⟨v,q⟩:=I.cell x c e;exact absurd (Xs q.lt (by rw[z];exact hb)) (VM _)
 .exact absurd (Xs (XE (I.pin p hp).1) (by rw[z];exact hb)) (VM _)
structure Turn (P:Xm)(w:WZ)(K:XW)(tg:Expr)(J:It)(fp:List Addr)(it:Addr)(tn:Nat->Heap->Prop):Prop where
 mem:it∈fp
 obj:∀i h,tn i h->∀b∈fp,∃o,h.get? b=some o/\∀v,o.data ≠ .cell v
 keep:∀i h h',tn i h->(∀b∈fp,∀o,h.get? b=some o->h'.get? b=some o)->tn i h'
 item:∀(X:Cx),X.prog=P->X.w=w->X.K=K->X.calm=true->∀(i:Nat) (bQ:List (Addr×Obj)) (s:X7) (σ:St) (H:Hp) (E:X8->X7->Prop),Inv X bQ σ H s->(∀b∈fp,Qh X bQ H b)->tn i s.heap->J.go i H ->
  Xk (Xn P w) X.A (Sb (.ref it)) (λr s1=>∃u,r=some u /\
   Xk (Xn P w) X.A (Sq tg (.ref it) u) (λ_ s2=>∃x H',Inv X bQ σ H' s2/\RelV x u/\J.yld i H x H'/\tn (i+1) s2.heap/\∀b∈fp,H' b=none) E s1) E s
 done:∀(X:Cx),X.prog=P->X.w=w->X.K=K->X.calm=true->∀(i:Nat) (bQ:List (Addr×Obj)) (s:X7) (σ:St) (H:Hp) (E:X8->X7->Prop),Inv X bQ σ H s->(∀b∈fp,Qh X bQ H b)->tn i s.heap->J.stop i H ->
  Xk (Xn P w) X.A (Sb (.ref it)) (λr s1=>r=none/\Inv X bQ σ H s1) E s
 self:∀(A:WR) (i:Nat) (s:X7) (Q:X8->X7->Prop) (E:X8->X7->Prop),tn i s.heap->Q (.ref it) s->Xk (Xn P w) A (Ov (.ref it)) Q E s
abbrev TI:=St->Hp->(It->Hp->Prop)->Prop
def PIE (X:Cx)(bQ:List (Addr×Obj))(σ:St)(tg:Expr)(R:It->Hp->Prop)(itv:X8)(s2:X7):Prop :=
 ∃(it:Addr) (fp:List Addr) (tn:Nat->Heap->Prop) (J:It) (H':Hp),itv=.ref it/\Inv X bQ σ H' s2/\Turn X.prog X.w X.K tg J fp it tn/\tn 0 s2.heap/\(∀b∈fp,Qh X bQ H' b)/\R J H'
def PI (X:Cx)(tg iter:Expr)(wi:TI):Prop :=
 ∀(bQ:List (Addr×Obj)) (s:X7) (σ:St) (H:Hp) (R:It->Hp->Prop),Inv X bQ σ H s->wi σ H R ->
  Xk (Xn X.prog X.w) X.A (eval iter X.env) (λv s1=>Xk (Xn X.prog X.w) X.A (Ov v) (PIE X bQ σ tg R) X.xe s1) X.xe s
def znF {M:O2}{A:WR}{E:X8->X7->Prop}{s:X7}{tg:Expr}{it:Addr}{u:X8}{o:Obj}{n:String}{vs:Array X8}{Q:Unit->X7->Prop}(ho:s.heap.get? it=some o)(hc:o.cls=.type n)(hd:o.data=.fields vs)
    (hn:["enumerate","zip","dict_itemiterator","dict_reverseitemiterator","odict_iterator","itertools.zip_longest","itertools.pairwise"].contains n=false) (hQ:Q () s):Xk M A (Sq tg (.ref it) u) Q E s:=by
  unfold Sq;cases tg<;>first
    | exact XS hQ
    | (cases u<;>first
        | exact XS hQ
        | (refine ZB (wpAny_load ho ?_)
           rw[hc,hd]
           show Xk M A (if (["enumerate","zip","dict_itemiterator","dict_reverseitemiterator","odict_iterator","itertools.zip_longest","itertools.pairwise"].contains n&&vs[0]?==some (Ul _))=true then _ else _) Q E s
           rw[bw (by intro h;rw[hn,Pp] at h;cases h)]
           exact XS hQ))
def Itl (K:XW)(a:Addr):It :=
 ⟨λi H=>∃xs x,SqL K H a xs/\xs[i]?=some x,λi H x H'=>H'=H/\∀xs,SqL K H a xs->xs[i]?=some x,λi H=>∃xs,SqL K H a xs/\xs.length<=i⟩
def Itr (lo:Int)(n:Nat):It:=⟨λi _=>i<n,λi H x H'=>H'=H/\x=.int (lo+i),λi _=>n<=i⟩
def ziz {P:Xm}{w:WZ}{K:XW}{tg:Expr}(a it:Addr):Turn P w K tg (Itl K a) [it] it (λi h=>h.IsListIter it a i) where
 mem:=by simp
 obj:=λi h st b hb=>by
  have e:b=it:=by simpa using hb
  subst e;obtain⟨o,e,c,d⟩:=st;exact⟨o,e,λv z=>by rw[d] at z;cases z⟩
 keep:=λi h h' st k=>st.at λo e=>k it (by simp) o e
 item:=by
  intro X hP hw hK hc i bQ s σ H E I hf st hg;subst hP hw hK;obtain⟨xs,x,hq,hx⟩:=hg;obtain⟨its,rv,p,hz⟩:=I.list hq;obtain⟨u,hu,ru⟩:=rv.get hx;obtain⟨f0,f1,f2,f3,f4,f5⟩:=hf it (by simp);refine wpAny_pyNext_list_item st p.isList (x:=u) (by simpa using hu) λh' st' sb=>?_;have I1:Inv X bQ σ H { s with heap:=h' }:=I.turned (t':=s.toks) (λb o hb e=>(sb.2 b hb).trans e) f0 f1 f3 f4 f5;obtain⟨o,e,c,d⟩:=id st';exact⟨u,rfl,znF (s:={ s with heap:=h' }) e c d (by decide) ⟨x,H,I1,ru,⟨rfl,λys hy=>by rw[I.list_inj hy hq];exact hx⟩,st',λb hb=>(hf b hb).1⟩⟩
 done:=by
  intro X hP hw hK hc i bQ s σ H E I hf st hg;subst hP hw hK;obtain⟨xs,hq,hx⟩:=hg;obtain⟨its,rv,p,hz⟩:=I.list hq;obtain⟨f0,f1,f2,f3,f4,f5⟩:=hf it (by simp);have hl:=rv.length;exact wpAny_pyNext_list_end (I.ok.hd hc) st p.isList (by simp;lia) λh' eb=>⟨rfl,I.turned (t':=s.toks) (λb o hb e=>eb b o hb e) f0 f1 f3 f4 f5⟩
 self:=λ_ _ _ _ _ st h=>wpAny_pyIter_listiter st h
def zgj {P:Xm}{w:WZ}{K:XW}{tg:Expr}(it:Addr)(lo:Int)(n:Nat):Turn P w K tg (Itr lo n) [it] it (λi h=>IsRangeIter h it (lo+(i:Nat)*1) ((n:Int)-(i:Nat)) 1) where
 mem:=by simp
 obj:=λi h st b hb=>by
  have e:b=it:=by simpa using hb
  subst e;exact⟨_,st,λv z=>by
   have z':Data.fields _=Data.cell v:=z;cases z'⟩
 keep:=λi h h' st k=>k it (by simp) _ st
 item:=by
  intro X hP hw hK hc i bQ s σ H E I hf st hg;subst hP hw hK;obtain⟨f0,f1,f2,f3,f4,f5⟩:=hf it (by simp);have W:=Walks.range (prog:=X.prog) (w:=X.w) (I.ok.hd hc) it lo 1 n;refine W.item i s _ _ hg st λv h' tk hv st' kk=>?_;obtain⟨t,rfl⟩:=hv;have I1:Inv X bQ σ H { s with heap:=h',toks:=tk }:=I.turned (λb o hb e=>kk b o (by simpa using hb) e) f0 f1 f3 f4 f5;refine⟨_,rfl,znF (s:={ s with heap:=h',toks:=tk }) (n:="range_iterator") st' rfl rfl (by decide) ⟨.int (lo+i),H,I1,⟨t,?_⟩,⟨rfl,rfl⟩,st',λb hb=>(hf b hb).1⟩⟩;rw[Int.mul_one]
 done:=by
  intro X hP hw hK hc i bQ s σ H E I hf st hg;subst hP hw hK;obtain⟨f0,f1,f2,f3,f4,f5⟩:=hf it (by simp);exact wpAny_pyNext_range_end (I.ok.hd hc) st (by have:n<=i:=hg;lia) λh' eb=>⟨rfl,I.turned (t':=s.toks) (λb o hb e=>eb b o hb e) f0 f1 f3 f4 f5⟩
 self:=λ_ _ _ _ _ st h=>wpAny_pyIter_rangeiter st h
section
variable {X:Cx}{tg:Expr}
def znG (K:XW)(tl:TE):TI:=fun σ H R=>tl σ H λx H1=>∃a,x=.ref a/\(∃xs,SqL K H1 a xs)/\R (Itl K a) H1
def zH {l:Expr}{tl:TE}(hl:PE X l tl):PI X tg l (znG X.K tl):=by
 intro bQ s σ H R I h;refine thn (hl bQ s σ H _ I h) λv s1 ⟨x,H1,I1,r1,q1⟩=>?_;obtain⟨a,e,⟨xs,hq⟩,q⟩:=q1;subst e;cases r1;obtain⟨its,rv,p,hz⟩:=I1.list hq;refine S7 p.isList ?_;refine⟨s1.heap.objs.size,[s1.heap.objs.size],_,_,H1,rfl,I1.kept (t':=s1.toks) λb o e=>XY _ e,ziz a _,⟨_,W5 _ rfl,rfl,rfl⟩,λb hb=>?_,q⟩;have e:b=s1.heap.objs.size:=by simpa using hb
 subst e;exact I1.fpOk (XV _) (I1.hok.fresh (XV _))
def zeR {bQ:List (Addr×Obj)}{σ:St}{H:Hp}{s:X7}{R:It->Hp->Prop}{E:X8->X7->Prop}{lo hi:Int}{t u v:Tok}{tk:Nat}(I:Inv X bQ σ H s)(h1:-(2^62)<=lo)(h2:lo<2^62)(h3:-(2^62)<=hi)(h4:hi<2^62)
  (q:R (Itr lo (hi-lo).toNat) H):Xk (Xn X.prog X.w) X.A (Ov (.ref s.heap.objs.size)) (PIE X bQ σ tg R) E { s with heap:=s.heap.push { cls:=.type "range",data:=.fields #[.int lo t,.int hi u,.int 1 v] },toks:=tk }:=by
 refine wpAny_pyIter_range (IsRange.new ..) (small_one h1 h2 h3 h4) ?_;have I1:Inv X bQ σ H { s with heap:=s.heap.push { cls:=.type "range",data:=.fields #[.int lo t,.int hi u,.int 1 v] },toks:=tk }:=I.kept λb o e=>XY _ e;refine⟨(s.heap.push { cls:=.type "range",data:=.fields #[.int lo t,.int hi u,.int 1 v] }).objs.size,[(s.heap.push { cls:=.type "range",data:=.fields #[.int lo t,.int hi u,.int 1 v] }).objs.size],_,_,H,rfl,
  I1.kept (t':=tk) λb o e=>XY _ e,zgj _ lo (hi-lo).toNat,?_,λb hb=>?_,q⟩
 .have e1:lo+((0:Nat):Int)*1=lo:=by simp
  have e2:(((hi-lo).toNat:Nat):Int)-((0:Nat):Int)=Builtin.Range.rangeSize lo hi 1:=by rw[rangeSize_one];split<;>lia
  show IsRangeIter _ _ (lo+((0:Nat):Int)*1) ((((hi-lo).toNat:Nat):Int)-((0:Nat):Int)) 1;rw[e1,e2];exact W5 _ rfl
 .have e:b=(s.heap.push { cls:=.type "range",data:=.fields #[.int lo t,.int hi u,.int 1 v] }).objs.size:=by simpa using hb
  subst e;exact I1.fpOk (XV _) (I1.hok.fresh (XV _))
def znH (ta:TA):TI:=fun σ H R=>ta σ H λvs H1=>∃j:Int,vs=[.int j]/\-(2^62)<=j/\j<2^62/\R (Itr 0 j.toNat) H1
def zpW (ta:TA):TI:=fun σ H R=>ta σ H λvs H1=>∃i j:Int,vs=[.int i,.int j]/\(-(2^62)<=i/\i<2^62/\-(2^62)<=j/\j<2^62)/\R (Itr i (j-i).toNat) H1
def ziA {a:Expr}{ta:TA}{p pos:Pos}(hg:Gl X "range")(hm:X.mg "range"=none)(ha:PA X [a] ta)(hs:WY [a] X.env=[(false,eval a X.env)]:=by rfl):PI X tg (.Call (.Name "range" p) [a] [] pos) (znH ta):=by
 intro bQ s σ H R I h;refine Call_ (Qf I hg hm boot_range (VB (thn (ha pos bQ s σ H _ I h) λus s1 ⟨vs,H1,I1,r1,q1⟩=>?_) hs rfl));obtain⟨j,e,q1,q2,q⟩:=q1;subst e;cases r1 with
 | cons r rr =>
  cases rr;obtain⟨t,rfl⟩:=r;exact call_range_1 (zeR I1 (by lia) (by lia) q1 q2 (by simpa using q))
def zak {a b:Expr}{ta:TA}{p pos:Pos}(hg:Gl X "range")(hm:X.mg "range"=none)(ha:PA X [a,b] ta)(hs:WY [a,b] X.env=[(false,eval a X.env),(false,eval b X.env)]:=by rfl)(hs2:WY [b] X.env=[(false,eval b X.env)]:=by rfl) :
  PI X tg (.Call (.Name "range" p) [a,b] [] pos) (zpW ta):=by
 intro bQ s σ H R I h;refine Call_ (Qf I hg hm boot_range (VB (thn (ha pos bQ s σ H _ I h) λus s1 ⟨vs,H1,I1,r1,q1⟩=>?_) (by rw[hs,hs2]) (by rw[hs2];rfl)));obtain⟨i,j,e,⟨q1,q2,q3,q4⟩,q⟩:=q1;subst e;cases r1 with
 | cons r rr =>
  cases rr with
  | cons r' rr =>
   cases rr;obtain⟨t,rfl⟩:=r;obtain⟨t',rfl⟩:=r';exact call_range_2 (zeR I1 q1 q2 q3 q4 q)
def zqR (wi:TI)(g:TG)(tb:TS):TS:=λD σ H=>wi σ H λJ H1=>∃W:Nat->Nat->St->Hp->Prop,(∃m,W 0 m σ H1)/\∀i m σ H,W i m σ H ->
 (J.stop i H/\D.nx σ H)\/(J.go i H/\∃N:St->Hp->Prop,(∀ σ' H',N σ' H'->∃m',m'<m/\W (i+1) m' σ' H')/\∀x H',J.yld i H x H'->g x σ H' fun σ2 H2=>tb { D with nx:=N,ct:=N,bk:=D.nx } σ2 H2)
def zbA (fp:List Addr)(h:Heap):List (Addr×Obj):=fp.filterMap λb=>(h.get? b).map λo=>(b,o)
def Zn {fp:List Addr}{h:Heap}{b:Addr}{o:Obj}(hb:b∈fp)(e:h.get? b=some o):(b,o)∈zbA fp h:=Vm.mpr ⟨b,hb,by rw[e];rfl⟩
def ziB {fp:List Addr}{h:Heap}{p:Addr×Obj}(hp:p∈zbA fp h):p.1∈fp/\h.get? p.1=some p.2:=by
 obtain⟨b,hb,e⟩:=Vm.mp hp;cases q:h.get? b with
 | none=>rw[q] at e;cases e
 | some o =>
  rw[q] at e;have e':(b,o)=p:=Option.some.inj e;subst e';exact⟨hb,q⟩
def Inv.pinned {bQ:List (Addr×Obj)}{σ:St}{H:Hp}{s:X7}{fp:List Addr}(I:Inv X bQ σ H s)(hf:∀b∈fp,Qh X bQ H b)(ho:∀b∈fp,∃o,s.heap.get? b=some o/\∀v,o.data ≠ .cell v):Inv X (bQ++zbA fp s.heap) σ H s :=
 I.pins_of λp hp=>(XQ.mp hp).elim (λz=>I.pin p (W7 _ z)) λz=>by
  obtain⟨hb,e⟩:=ziB z;obtain⟨f0,f1,f2,_⟩:=hf p.1 hb;obtain⟨o,e',d⟩:=ho p.1 hb;rw[e] at e';cases e';exact⟨e,f0,f1,f2,d⟩
def Inv.unpinned {bQ pl:List (Addr×Obj)}{σ:St}{H:Hp}{s:X7}(I:Inv X (bQ++pl) σ H s):Inv X bQ σ H s:=I.pins_of λp hp=>I.pin p (W7 _ (Xf _ hp))
def qI {iter:Expr}{body:List Stmt}{wi:TI}{g:TG}{tb:TS}{pos:Pos}(hp:PassesOwn (Xn X.prog X.w) X.A X.env X.xe)(hc:X.calm=true)(hi:PI X tg iter wi)(hg:PG X tg g)(hb:PSs X body tb)
  (hs:∀x,Wq iter X.env x=pure x:=by intro _;rfl):PS X (.For tg iter body [] pos) (zqR wi g tb):=by
 intro bQ s σ H D I h;refine wpAny_For (thn (hi bQ s σ H _ I h) λv s1 h1=>thn h1 λitv s2 h2=>?_) hs;obtain⟨it,fp,tn,J,H2,e,I2,T,st2,f2,W,⟨m0,w0⟩,turn⟩:=h2;subst e;have stat:∀{H':Hp},(∀b∈fp,H' b=none)->∀b∈fp,Qh X bQ H' b:=λhn b hb=>⟨hn b hb,(f2 b hb).2⟩;refine codeAny_forLoop_any (λn s'=>∃i σ' H',Inv X bQ σ' H' s'/\tn i s'.heap/\(∀b∈fp,H' b=none)/\W i n σ' H') ?_ m0 ⟨0,σ,H2,I2,st2,λb hb=>(f2 b hb).1,w0⟩;rintro n s3 ⟨i,σ3,H3,I3,st3,fr3,w3⟩;rcases turn i n σ3 H3 w3 with ⟨stop,qn⟩ | ⟨go,N,hN,step⟩
 .refine UN hp (thn (T.done X rfl rfl rfl hc i bQ s3 σ3 H3 X.xe I3 (stat fr3) st3 stop) λr s4 ⟨hr,I4⟩=>?_);subst hr;exact Ue ⟨σ3,H3,I4,qn⟩
 .refine UN hp (thn (T.item X rfl rfl rfl hc i bQ s3 σ3 H3 X.xe I3 (stat fr3) st3 go) λr s4 ⟨u,hr,h4⟩=>?_);subst hr;refine UN hp (thn h4 λ_ s5 ⟨x,H5,I5,r5,y5,st5,fr5⟩=>?_);have I5':=I5.pinned (stat fr5) (T.obj _ _ st5);refine UN hp (thn (hg _ s5 σ3 H5 x u _ I5' r5 (step x H5 y5)) λ_ s6 ⟨σ6,H6,I6,q6⟩=>?_);refine UN hp (thn (hb _ s6 σ6 H6 _ I6 q6) λf s7 q7=>?_);have OD:∀{σ7:St} {H7:Hp},Inv X (bQ++zbA fp s5.heap) σ7 H7 s7->N σ7 H7->∃m,m<n/\∃i σ' H',Inv X bQ σ' H' s7/\tn i s7.heap/\(∀b∈fp,H' b=none)/\W i m σ' H':=λ{σ7 H7} I7 n7=>by
   obtain⟨m',hm,w7⟩:=hN σ7 H7 n7;refine⟨m',hm,i+1,σ7,H7,I7.unpinned,T.keep _ _ _ st5 λb hb o e=>(I7.pin (b,o) (W7 _ (W7 _ (Zn hb e)))).1,λb hb=>?_,w7⟩;obtain⟨o,e,d⟩:=T.obj _ _ st5 b hb;exact(I7.pin (b,o) (W7 _ (W7 _ (Zn hb e)))).2.1
  cases f with
  | next=>obtain⟨σ7,H7,I7,n7⟩:=q7;exact OD I7 n7
  | cont=>obtain⟨σ7,H7,I7,n7⟩:=q7;exact OD I7 n7
  | brk=>obtain⟨σ7,H7,I7,q7⟩:=q7;exact⟨σ7,H7,I7.unpinned,q7⟩
  | ret v=>obtain⟨x7,σ7,H7,I7,r7,q7⟩:=q7;exact⟨x7,σ7,H7,I7.unpinned,r7,q7⟩
end
def xw {K:XW}{a:Addr}{xs:AE}{g:TG}{tb:TS}{D:Ends}{σ:St}{H:Hp}(Pv:Nat->St->Hp->Prop)(h0:Pv 0 σ H)(hl:∀i σ H,i<=xs.length->Pv i σ H->SqL K H a xs)
  (hs:∀i x σ H,xs[i]?=some x->Pv i σ H->g x σ H fun σ2 H2=>tb { D with nx:=Pv (i+1),ct:=Pv (i+1),bk:=D.nx } σ2 H2) (hd:∀ σ H,Pv xs.length σ H->D.nx σ H) :
  ∃W:Nat->Nat->St->Hp->Prop,(∃m,W 0 m σ H)/\∀i m σ H,W i m σ H ->
   ((Itl K a).stop i H/\D.nx σ H)\/((Itl K a).go i H/\∃N:St->Hp->Prop,(∀ σ' H',N σ' H'->∃m',m'<m/\W (i+1) m' σ' H')/\∀x H',(Itl K a).yld i H x H'->g x σ H' fun σ2 H2=>tb { D with nx:=N,ct:=N,bk:=D.nx } σ2 H2):=by
 refine⟨λi m σ H=>m=xs.length-i/\i<=xs.length/\Pv i σ H,⟨xs.length,by simp,WT _,h0⟩,?_⟩;rintro i m σ H ⟨rfl,hi,p⟩;have q:=hl i σ H hi p;by_cases hlt:i<xs.length
 .refine .inr ⟨⟨xs,xs[i],q,by simp[hlt]⟩,Pv (i+1),fun σ' H' p'=>⟨xs.length-(i+1),by lia,rfl,hlt,p'⟩,λx H' y=>?_⟩;obtain⟨e,y⟩:=y;subst e;exact hs i x σ _ (y xs q) p
 .have e:i=xs.length:=by lia
  subst e;exact .inl ⟨⟨xs,q,XV _⟩,hd σ H p⟩
def qV {lo:Int}{n:Nat}{g:TG}{tb:TS}{D:Ends}{σ:St}{H:Hp}(Pv:Nat->St->Hp->Prop)(h0:Pv 0 σ H)
  (hs:∀i σ H,i<n->Pv i σ H->g (.int (lo+i)) σ H fun σ2 H2=>tb { D with nx:=Pv (i+1),ct:=Pv (i+1),bk:=D.nx } σ2 H2) (hd:∀ σ H,Pv n σ H->D.nx σ H) :
  ∃W:Nat->Nat->St->Hp->Prop,(∃m,W 0 m σ H)/\∀i m σ H,W i m σ H ->
   ((Itr lo n).stop i H/\D.nx σ H)\/((Itr lo n).go i H/\∃N:St->Hp->Prop,(∀ σ' H',N σ' H'->∃m',m'<m/\W (i+1) m' σ' H')/\∀x H',(Itr lo n).yld i H x H'->g x σ H' fun σ2 H2=>tb { D with nx:=N,ct:=N,bk:=D.nx } σ2 H2):=by
 refine⟨λi m σ H=>m=n-i/\i<=n/\Pv i σ H,⟨n,by simp,WT _,h0⟩,?_⟩;rintro i m σ H ⟨rfl,hi,p⟩;by_cases hlt:i<n
 .refine .inr ⟨hlt,Pv (i+1),fun σ' H' p'=>⟨n-(i+1),by lia,rfl,hlt,p'⟩,λx H' y=>?_⟩;obtain⟨e,y⟩:=y;subst e y;exact hs i σ _ hlt p
 .have e:i=n:=by lia
  subst e;exact .inl ⟨XV _,hd σ H p⟩
abbrev R2:=V->V->Hp->VK->Prop
def OpR (X:Cx)(f:X8->X8->Sem X8)(r:R2):Prop :=
 ∀(bQ:List (Addr×Obj)) (s:X7) (σ:St) (H:Hp) (x y:V) (v u:X8) (Q:VK),Inv X bQ σ H s->RelV x v->RelV y u->r x y H Q ->
  Xk (Xn X.prog X.w) X.A (f v u) (EP X bQ σ Q) X.xe s
def jj (X:Cx)(f:X8)(r:AE->Hp->VK->Prop):Prop :=
 ∀(bQ:List (Addr×Obj)) (s:X7) (σ:St) (H:Hp) (xs:AE) (us:List X8) (Q:VK),Inv X bQ σ H s->Vals xs us->r xs H Q ->
  Xk (Xn X.prog X.w) X.A (call f us) (EP X bQ σ Q) X.xe s
def zqS (X:Cx)(r:V->Hp->(Bool->Hp->Prop)->Prop):Prop :=
 ∀(bQ:List (Addr×Obj)) (s:X7) (σ:St) (H:Hp) (x:V) (v:X8) (Q:Bool->Hp->Prop),Inv X bQ σ H s->RelV x v->r x H Q ->
  Xk (Xn X.prog X.w) X.A (truthy v) (TP X bQ σ Q) X.xe s
def tOp (r:R2)(ta tb:TE):TE:=fun σ H Q=>ta σ H λx H1=>tb σ H1 λy H2=>r x y H2 Q
def rI (C:Int->Int->Prop)(g:Int->Int->V):R2:=λx y H Q=>∃i j,x=.int i/\y=.int j/\C i j/\Q (g i j) H
def rI0 (g:Int->Int->V):R2:=λx y H Q=>∃i j,x=.int i/\y=.int j/\Q (g i j) H
section
variable {X:Cx}{a b c:Expr}{ta tb tc:TE}{pos:Pos}
def zot (ha:PE X a ta)(hb:PE X b tb){bQ:List (Addr×Obj)}{s:X7}{σ:St}{H:Hp}{R:V->V->Hp->Prop}(I:Inv X bQ σ H s)
  (h:ta σ H λx H1=>tb σ H1 λy H2=>R x y H2) {Q:X8->X7->Prop} {f:X8->X8->Sem X8}
  (hf:∀v u s2 x y H2,Inv X bQ σ H2 s2->RelV x v->RelV y u->R x y H2->Xk (Xn X.prog X.w) X.A (f v u) Q X.xe s2) :
  Xk (Xn X.prog X.w) X.A (eval a X.env) (λv s₁=>Xk (Xn X.prog X.w) X.A (eval b X.env) (λu s₂=>Xk (Xn X.prog X.w) X.A (f v u) Q X.xe s₂) X.xe s₁) X.xe s:=by
 refine thn (ha bQ s σ H _ I h) λv s1 ⟨x,H1,I1,r1,q1⟩=>?_;refine thn (hb bQ s1 σ H1 _ I1 q1) λu s2 ⟨y,H2,I2,r2,q2⟩=>?_;exact hf v u s2 x y H2 I2 r1 r2 q2
def zL {op:Operator}{r:R2}(ho:OpR X (UJ op) r)(ha:PE X a ta)(hb:PE X b tb):PE X (.BinOp a op b pos) (tOp r ta tb):=by
 intro bQ s σ H Q I h;exact wpAny_BinOp (zot ha hb I h λv u s2 x y H2 I2 rx ry q=>ho bQ s2 σ H2 x y v u Q I2 rx ry q)
def opI {f:X8->X8->Sem X8}{C:Int->Int->Prop}{g:Int->Int->Int}
  (rule:∀(i j:Int) (t u:Tok) (s:X7) (Q:X8->X7->Prop) (E:X8->X7->Prop),C i j->Q (.int (g i j) s.toks) { s with toks:=s.toks+1 }->Xk (Xn X.prog X.w) X.A (f (.int i t) (.int j u)) Q E s) :
  OpR X f (rI C λi j=>.int (g i j)):=by
 intro bQ s σ H x y v u Q I rx ry h;obtain⟨i,j,rfl,rfl,hc,q⟩:=h;obtain⟨t,rfl⟩:=rx;obtain⟨t',rfl⟩:=ry;exact rule i j t t' s _ _ hc ⟨.int (g i j),H,I.tok _,⟨_,rfl⟩,q⟩
def zpX {f:X8->X8->Sem X8}{g:Int->Int->Int}
  (rule:∀(i j:Int) (t u:Tok) (s:X7) (Q:X8->X7->Prop) (E:X8->X7->Prop),Q (.int (g i j) s.toks) { s with toks:=s.toks+1 }->Xk (Xn X.prog X.w) X.A (f (.int i t) (.int j u)) Q E s) :
  OpR X f (rI0 λi j=>.int (g i j)):=by
 intro bQ s σ H x y v u Q I rx ry h;obtain⟨i,j,rfl,rfl,q⟩:=h;obtain⟨t,rfl⟩:=rx;obtain⟨t',rfl⟩:=ry;exact rule i j t t' s _ _ ⟨.int (g i j),H,I.tok _,⟨_,rfl⟩,q⟩
def zou {f:X8->X8->Sem X8}{g:Int->Int->Bool}
  (rule:∀(i j:Int) (t u:Tok) (s:X7) (Q:X8->X7->Prop) (E:X8->X7->Prop),Q (.bool (g i j)) s->Xk (Xn X.prog X.w) X.A (f (.int i t) (.int j u)) Q E s) :
  OpR X f (rI0 λi j=>.bl (g i j)):=by
 intro bQ s σ H x y v u Q I rx ry h;obtain⟨i,j,rfl,rfl,q⟩:=h;obtain⟨t,rfl⟩:=rx;obtain⟨t',rfl⟩:=ry;exact rule i j t t' s _ _ ⟨.bl (g i j),H,I,rfl,q⟩
def zgk (k:Nat):(0:Int)<=2^k:=by
 rw[two_pow_cast];exact Int.natCast_nonneg _
def zov:OpR X (UJ .Add) (rI0 λi j=>.int (i+j)):=zpX λ_ _ _ _ _ _ _ q=>add_int q
def JP:OpR X (UJ .Sub) (rI0 λi j=>.int (i-j)):=zpX λ_ _ _ _ _ _ _ q=>sub_int q
def zow:OpR X (UJ .Mod) (rI (λ_ j=>0<j) λi j=>.int (i%j)):=opI λi j _ _ _ _ _ hc q=>by
 have h1:(0:Int)<j:=hc;exact mod_int' (by lia) (by rw[Int.fmod_eq_emod_of_nonneg i (by lia)];exact q)
def zox:OpR X (UJ .RShift) (rI (λ_ j=>0<=j) λi j=>.int (i/2^j.toNat)):=opI λi j _ _ _ _ _ hc q =>
 rshift_int hc (by rw[RW i (zgk _)];exact q)
end
def zpY:V->V->Bool
 | .non,.non=>true | .non,.int _=>true | .int _,.non=>true | .non,.bl _=>true | .bl _,.non=>true | .non,.str _=>true | .str _,.non=>true
 | .int _,.int _=>true | .bl _,.bl _=>true | .str _,.str _=>true | .byt _,.byt _=>true
 | .int _,.str _=>true | .str _,.int _=>true | .bl _,.str _=>true | .str _,.bl _=>true
 | _,_=>false
def rEq:R2:=λx y H Q=>zpY x y=true/\Q (.bl (decide (x=y))) H
def rNe:R2:=λx y H Q=>zpY x y=true/\Q (.bl (!decide (x=y))) H
def zd3 {i j:Int}:decide (V.int i=V.int j)=(i==j):=by
 rw[W1];simp
def zjQ {i j:Bool}:decide (V.bl i=V.bl j)=(i==j):=by
 rw[W1];simp
def zhv {i j:Str}:decide (V.str i=V.str j)=(i==j):=by
 rw[W1];simp
def zhw {i j:Array UInt8}:decide (V.byt i=V.byt j)=(i.toList==j.toList):=by
 rw[W1];cases i;cases j;simp
section
variable {X:Cx}{a b c:Expr}{ta tb tc:TE}{pos:Pos}
def qj {bQ:List (Addr×Obj)}{σ:St}{H:Hp}{s:X7}{Q:VK}{k k':Bool}(I:Inv X bQ σ H s)(q:Q (.bl k) H)(e:k=k'):EP X bQ σ Q (.bool k') s:=by
 subst e;exact⟨.bl k,H,I,rfl,q⟩
def YX:OpR X (Wj .Eq) rEq:=by
 intro bQ s σ H x y v u Q I rx ry h;obtain⟨hs,q⟩:=h;cases x with
 | non =>
  cases rx;cases y with
  | non=>cases ry;exact PySem.EqNone.eq_none_none (qj I q (by simp))
  | bl j=>cases ry;exact PySem.EqNone.eq_none_bool (qj I q (by simp))
  | int j=>obtain⟨t',rfl⟩:=ry;exact PySem.EqNone.eq_none_int (qj I q (by simp))
  | str j=>obtain⟨t',rfl⟩:=ry;exact PySem.EqNone.eq_none_str (qj I q (by simp))
  | _=>exact absurd (show false=true from hs) XT
 | bl i =>
  cases rx;cases y with
  | non=>cases ry;exact PySem.EqNone.eq_bool_none (qj I q (by simp))
  | bl j=>cases ry;exact eq_bool (qj I q zjQ)
  | str j=>obtain⟨t',rfl⟩:=ry;exact PySem.EqMixed.eq_bool_str (qj I q (by simp))
  | _=>exact absurd (show false=true from hs) XT
 | int i =>
  obtain⟨t,rfl⟩:=rx;cases y with
  | non=>cases ry;exact PySem.EqNone.eq_int_none (qj I q (by simp))
  | int j=>obtain⟨t',rfl⟩:=ry;exact eq_int (qj I q zd3)
  | str j=>obtain⟨t',rfl⟩:=ry;exact PySem.EqMixed.eq_int_str (qj I q (by simp))
  | _=>exact absurd (show false=true from hs) XT
 | str i =>
  obtain⟨t,rfl⟩:=rx;cases y with
  | non=>cases ry;exact PySem.EqNone.eq_str_none (qj I q (by simp))
  | bl j=>cases ry;exact PySem.EqMixed.eq_str_bool (qj I q (by simp))
  | int j=>obtain⟨t',rfl⟩:=ry;exact PySem.EqMixed.eq_str_int (qj I q (by simp))
  | str j=>obtain⟨t',rfl⟩:=ry;exact eq_str (qj I q zhv)
  | _=>exact absurd (show false=true from hs) XT
 | byt i =>
  obtain⟨t,rfl⟩:=rx;cases y with
  | byt j=>obtain⟨t',rfl⟩:=ry;exact PySem.W.eq_bytes (qj I q zhw)
  | _=>exact absurd (show false=true from hs) XT
 | _=>cases y<;>exact absurd (show false=true from hs) XT
def zeS:OpR X (Wj .NotEq) rNe:=by
 intro bQ s σ H x y v u Q I rx ry h;obtain⟨hs,q⟩:=h;cases x with
 | non =>
  cases rx;cases y with
  | non=>cases ry;exact PySem.EqNone.ne_none_none (qj I q (by simp))
  | bl j=>cases ry;exact PySem.EqNone.ne_none_bool (qj I q (by simp))
  | int j=>obtain⟨t',rfl⟩:=ry;exact PySem.EqNone.ne_none_int (qj I q (by simp))
  | str j=>obtain⟨t',rfl⟩:=ry;exact PySem.EqNone.ne_none_str (qj I q (by simp))
  | _=>exact absurd (show false=true from hs) XT
 | bl i =>
  cases rx;cases y with
  | non=>cases ry;exact PySem.EqNone.ne_bool_none (qj I q (by simp))
  | bl j=>cases ry;exact ne_bool (qj I q (congrArg not zjQ))
  | str j=>obtain⟨t',rfl⟩:=ry;exact PySem.EqMixed.ne_bool_str (qj I q (by simp))
  | _=>exact absurd (show false=true from hs) XT
 | int i =>
  obtain⟨t,rfl⟩:=rx;cases y with
  | non=>cases ry;exact PySem.EqNone.ne_int_none (qj I q (by simp))
  | int j=>obtain⟨t',rfl⟩:=ry;exact ne_int (qj I q (congrArg not zd3))
  | str j=>obtain⟨t',rfl⟩:=ry;exact PySem.EqMixed.ne_int_str (qj I q (by simp))
  | _=>exact absurd (show false=true from hs) XT
 | str i =>
  obtain⟨t,rfl⟩:=rx;cases y with
  | non=>cases ry;exact PySem.EqNone.ne_str_none (qj I q (by simp))
  | bl j=>cases ry;exact PySem.EqMixed.ne_str_bool (qj I q (by simp))
  | int j=>obtain⟨t',rfl⟩:=ry;exact PySem.EqMixed.ne_str_int (qj I q (by simp))
  | str j=>obtain⟨t',rfl⟩:=ry;exact ne_str (qj I q (congrArg not zhv))
  | _=>exact absurd (show false=true from hs) XT
 | byt i =>
  obtain⟨t,rfl⟩:=rx;cases y with
  | byt j=>obtain⟨t',rfl⟩:=ry;exact PySem.W.ne_bytes (qj I q (congrArg not zhw))
  | _=>exact absurd (show false=true from hs) XT
 | _=>cases y<;>exact absurd (show false=true from hs) XT
def zjR:OpR X (Wj .Lt) (rI0 λi j=>.bl (decide (i<j))):=zou λ_ _ _ _ _ _ _ q=>lt_int q
def zpZ:OpR X (Wj .LtE) (rI0 λi j=>.bl (decide (i<=j))):=zou λ_ _ _ _ _ _ _ q=>le_int q
def znI:OpR X (Wj .Gt) (rI0 λi j=>.bl (decide (j<i))):=zou λ_ _ _ _ _ _ _ q=>gt_int q
def zoy:OpR X (Wj .Is) (λx y H Q=>y=.non/\Q (.bl (decide (x=.non))) H):=by
 intro bQ s σ H x y v u Q I rx ry h;obtain⟨rfl,q⟩:=h;cases ry;refine is_none_gen (qj I q ?_);cases x<;>first
  | (cases rx;rfl)
  | (obtain⟨t,rfl⟩:=rx;rfl)
def zma:OpR X (Wj .IsNot) (λx y H Q=>y=.non/\Q (.bl (!decide (x=.non))) H):=by
 intro bQ s σ H x y v u Q I rx ry h;obtain⟨rfl,q⟩:=h;cases ry;refine isnot_none_gen (qj I q ?_);cases x<;>first
  | (cases rx;rfl)
  | (obtain⟨t,rfl⟩:=rx;rfl)
def zY (b:Expr){op:Oq}(h:op ≠ .In:=by decide)(h2:op ≠ .NotIn:=by decide):Tx op b=false:=by
 have e1:(op==CmpOp.In)=false:=by cases op<;>first | rfl | exact absurd rfl h
 have e2:(op==CmpOp.NotIn)=false:=by cases op<;>first | rfl | exact absurd rfl h2
 cases b<;>simp[Tx,e1,e2]
def xR {op:Oq}{r:R2}(ho:OpR X (Wj op) r)(ha:PE X a ta)(hb:PE X b tb)(hm:Tx op b=false):PE X (.Compare a [op] [b] pos) (tOp r ta tb):=by
 intro bQ s σ H Q I h;exact wpAny_Compare1 (zot ha hb I h λv u s2 x y H2 I2 rx ry q=>ho bQ s2 σ H2 x y v u Q I2 rx ry q) hm
def znJ (t:TE):TT:=fun σ H Q=>t σ H λx H'=>∃k,x=.bl k/\Q k H'
def yV {op:Oq}{r:R2}(ho:OpR X (Wj op) r)(ha:PE X a ta)(hb:PE X b tb)(hm:Tx op b=false):PT X (.Compare a [op] [b] pos) (znJ (tOp r ta tb)):=by
 intro bQ s σ H Q I h;refine SV (thn (ha bQ s σ H _ I h) λv s1 ⟨x,H1,I1,r1,q1⟩=>thn (hb bQ s1 σ H1 _ I1 q1) λu s2 ⟨y,H2,I2,r2,q2⟩ =>
  thn (ho bQ s2 σ H2 x y v u _ I2 r1 r2 q2) λc s3 ⟨z,H3,I3,r3,k,e,q3⟩=>?_) hm
 subst e;cases r3;exact VT ⟨H3,I3,q3⟩
def zoz (r r':R2)(ta tb tc:TE):TE:=fun σ H Q=>ta σ H λx H1=>tb σ H1 λy H2=>r x y H2 λz H3=>∃k,z=.bl k /\
 (if k=true then tc σ H3 λw' H4=>r' y w' H4 Q else Q (.bl false) H3)
def zeT {op op':Oq}{r r':R2}(ho:OpR X (Wj op) r)(ho':OpR X (Wj op') r')(ha:PE X a ta)(hb:PE X b tb)(hc:PE X c tc)
  (hm:lastMarks [op,op'] [b,c]=false:=by with_unfolding_all rfl):PT X (.Compare a [op,op'] [b,c] pos) (znJ (zoz r r' ta tb tc)):=by
 intro bQ s σ H Q I h;refine isTrue_chain (thn (ha bQ s σ H _ I h) λv s1 ⟨x,H1,I1,r1,q1⟩=>test_link (thn (hb bQ s1 σ H1 _ I1 q1) λu s2 ⟨y,H2,I2,r2,q2⟩ =>
  thn (ho bQ s2 σ H2 x y v u _ I2 r1 r2 q2) λd s3 ⟨z,H3,I3,r3,k,e,q3⟩=>?_)) hm
 subst e;cases r3;refine VT ?_;cases k with
 | false =>
  obtain⟨k',e',q'⟩:=q3;cases e';exact ite_ff ⟨H3,I3,q'⟩
 | true =>
  refine ite_tt (test_last (thn (hc bQ s3 σ H3 _ I3 q3) λw' s4 ⟨z',H4,I4,r4,q4⟩=>thn (ho' bQ s4 σ H4 y z' u w' _ I4 r2 r4 q4) λd' s5 ⟨z2,H5,I5,r5,k2,e2,q5⟩=>?_));subst e2;cases r5;exact VT ⟨H5,I5,q5⟩
def zoA (K:XW)(x:V)(H:Hp)(k:Bool):Prop :=
 match x with
 | .non=>k=false
 | .bl b=>k=b
 | .int i=>k=(i != 0)
 | .str y=>y.length<=Xq/\k=((y.length:Int) != 0)
 | .byt y=>y.size<=Xq/\k=((y.size:Int) != 0)
 | .ref p=>(∃xs,SqL K H p xs/\k=!xs.isEmpty)\/(∃xs,SqT K H p xs/\k=!xs.isEmpty)\/∃kvs,H p=some (.dK kvs)/\k=!kvs.isEmpty
 | _=>False
def zgl {κ:Type}{kvs:List (κ × V)}{vs:List (κ × X8)}(r:KV kvs vs):(!vs.isEmpty)=!kvs.isEmpty:=by
 cases r<;>rfl
def zbB {xs:AE}{its:List X8}(r:Vals xs its):(!its.toArray.isEmpty)=!xs.isEmpty:=by
 cases r<;>simp
def Z1:(Xq:Nat)<2^63:=by rw[T0];decide
def zoB:zqS X (λx H Q=>∃k,zoA X.K x H k/\Q k H):=by
 intro bQ s σ H x v Q I rx h;obtain⟨k,e,q⟩:=h;have hl:=Z1;have hs:Xq=16777216:=T0;cases x with
 | non =>
  cases rx;have e':k=false:=e;subst e';exact truthy_none ⟨H,I,q⟩
 | bl b =>
  cases rx;have e':k=b:=e;subst e';exact VT ⟨H,I,q⟩
 | int i =>
  obtain⟨t,rfl⟩:=rx;have e':k=(i != 0):=e;subst e';exact PySem.P.truthy_int ⟨H,I,q⟩
 | str y =>
  obtain⟨t,rfl⟩:=rx;obtain⟨hy,e'⟩:y.length<=Xq/\k=((y.length:Int) != 0):=e;subst e';exact PySem.P.truthy_str (by lia) ⟨H,I.tok _,q⟩
 | byt y =>
  obtain⟨t,rfl⟩:=rx;obtain⟨hy,e'⟩:y.size<=Xq/\k=((y.size:Int) != 0):=e;subst e';exact PySem.W.truthy_bytes (by lia) ⟨H,I.tok _,q⟩
 | ref p =>
  cases rx;have e':(∃xs,SqL X.K H p xs/\k=!xs.isEmpty)\/(∃xs,SqT X.K H p xs/\k=!xs.isEmpty)\/∃kvs,H p=some (.dK kvs)/\k=!kvs.isEmpty:=e;rcases e' with ⟨xs,hx,e'⟩ | ⟨xs,hx,e'⟩ | ⟨kvs,hx,e'⟩
  .subst e';obtain⟨its,r,pl,hz⟩:=I.list hx;have hlen:=r.length;exact wpAny_truthy_list pl.isList (by simp only[Xx];lia) ⟨H,I.tok _,by rw[zbB r];exact q⟩
  .subst e';obtain⟨its,r,pl,hz⟩:=I.tuple hx;have hlen:=r.length;exact truthy_tuple pl (by simp only[Xx];lia) ⟨H,I.tok _,by rw[zbB r];exact q⟩
  .subst e';obtain⟨hz,hS,vs,r,m⟩:kvs.length<=Xq/\(p==Vd)=false/\∃vs,KV kvs vs/\s.heap.DictOf (zJ X.prog X.w) p vs:=I.hok p _ hx;have hlen:kvs.length=vs.length:=Paired.length r;exact wpAny_truthy_dict hS m (by lia) ⟨H,I.tok _,by rw[zgl r];exact q⟩
 | _=>exact(show False from e).elim
def zbC (ha:PE X a ta)(he:∀whole,isTrue a X.env whole=(do let v <- whole;standAt a.pos;Pb [v] (truthy v))) :
  PT X a (fun σ H Q=>ta σ H λx H'=>∃k,zoA X.K x H' k/\Q k H'):=by
 intro bQ s σ H Q I h;exact isTrue_plain (thn (ha bQ s σ H _ I h) λv s1 ⟨x,H1,I1,r1,q1⟩=>zoB bQ s1 σ H1 x v Q I1 r1 q1) (he _)
def zgm:OpR X (UJ .Add) (λx y H Q=>∃i j,x=.str i/\y=.str j/\i.length+j.length<=Xq/\Q (.str (i++j)) H):=by
 intro bQ s σ H x y v u Q I rx ry h;obtain⟨i,j,rfl,rfl,hz,q⟩:=h;obtain⟨t,rfl⟩:=rx;obtain⟨t',rfl⟩:=ry;exact add_str (λt' tk=>⟨.str (i++j),H,I.tok _,⟨_,rfl⟩,q⟩) hz
def vals1 {x:V}{us:List X8}(r:Vals [x] us):∃u,us=[u]/\RelV x u:=by
 cases r with
 | cons r1 r2=>cases r2;exact⟨_,rfl,r1⟩
def vals2 {x y:V}{us:List X8}(r:Vals [x,y] us):∃u w',us=[u,w']/\RelV x u/\RelV y w':=by
 cases r with
 | cons r1 r2 =>
  cases r2 with
  | cons r3 r4=>cases r4;exact⟨_,_,rfl,r1,r3⟩
def zeU:jj X (.builtin "abs") (λxs H Q=>∃i,xs=[.int i]/\Q (.int (if i<0 then -i else i)) H):=by
 intro bQ s σ H xs us Q I r h;obtain⟨i,rfl,q⟩:=h;obtain⟨u,rfl,t,rfl⟩:=vals1 r;exact call_abs_int λu tk=>⟨.int (if i<0 then -i else i),H,I.tok _,⟨_,rfl⟩,q⟩
def zdb (hc:X.calm=true):jj X (.builtin "max") (λxs H Q=>∃i j,xs=[.int i,.int j]/\Q (.int (if j>i then j else i)) H):=by
 intro bQ s σ H xs us Q I r h;obtain⟨i,j,rfl,q⟩:=h;obtain⟨u,w',rfl,⟨t,rfl⟩,⟨t',rfl⟩⟩:=vals2 r;refine max_two_ints (I.ok.hd hc) λh' tk k=>⟨_,H,I.kept k,?_,q⟩;by_cases hj:j>i
 .rw[br hj,br hj];exact⟨_,rfl⟩
 .rw[bw hj,bw hj];exact⟨_,rfl⟩
def zdc (hc:X.calm=true):jj X (.builtin "min") (λxs H Q=>∃i j,xs=[.int i,.int j]/\Q (.int (if j<i then j else i)) H):=by
 intro bQ s σ H xs us Q I r h;obtain⟨i,j,rfl,q⟩:=h;obtain⟨u,w',rfl,⟨t,rfl⟩,⟨t',rfl⟩⟩:=vals2 r;refine min_two_ints (I.ok.hd hc) λh' tk k=>⟨_,H,I.kept k,?_,q⟩;by_cases hj:j<i
 .rw[br hj,br hj];exact⟨_,rfl⟩
 .rw[bw hj,bw hj];exact⟨_,rfl⟩
def zdd:jj X (.type "int") (λxs H Q=>(∃i,xs=[.int i]/\Q (.int i) H)\/∃k,xs=[.bl k]/\Q (.int (if k then 1 else 0)) H):=by
 intro bQ s σ H xs us Q I r h;rcases h with ⟨i,rfl,q⟩ | ⟨k,rfl,q⟩
 .obtain⟨u,rfl,t,rfl⟩:=vals1 r;exact call_int_int ⟨.int i,H,I,⟨_,rfl⟩,q⟩
 .obtain⟨u,rfl,r1⟩:=vals1 r;cases r1;exact call_int_bool ⟨.int (if k then 1 else 0),H,I.tok _,⟨_,rfl⟩,q⟩
def zd4:jj X (.type "str") (λxs H Q=>∃i,xs=[.int i]/\i.natAbs.log2<1920/\Q (.str (toString i)) H):=by
 intro bQ s σ H xs us Q I r h;obtain⟨i,rfl,hz,q⟩:=h;obtain⟨u,rfl,t,rfl⟩:=vals1 r;exact PySem.P.str_of_int hz ⟨.str _,H,I.tok _,⟨_,rfl⟩,q⟩
end
structure Jx (k:Nat)(A:WR):Prop where
 hd:A.handled=none
 dp:A.depth+3*k+5<recursionLimit
 un:A.units+16*k+200<VA
def Jx.mono {j k:Nat}{A:WR}(r:Jx k A)(h:j<=k):Jx j A:=⟨r.hd,by have:=r.dp;lia,by have:=r.un;lia⟩
theorem Jx.deeper {k:Nat}{A:WR}(r:Jx (k+1) A)(env:Env):Jx k (A.deeper env) :=
 ⟨r.hd,by have:=r.dp;show A.depth+1+3*k+5<_;lia,by have:=r.un;show A.units+3+16*k+200<_;lia⟩
theorem Jx.depth {k:Nat}{A:WR}(r:Jx k A):A.depth<recursionLimit:=by have:=r.dp;lia
theorem Jx.units {k:Nat}{A:WR}(r:Jx k A):A.units+64<VA:=by have:=r.un;lia
def zjS:TA:=λ_ H Q=>Q [] H
def zde (ta:TE)(tr:TA):TA:=fun σ H Q=>ta σ H λx H1=>tr σ H1 λxs H2=>Q (x::xs) H2
section
variable {X:Cx}{e:Expr}{es:List Expr}{te:TE}{t:TA}{pos:Pos}
def zd:PA X [] zjS:=λ_ _ _ _ H Q I h=>Calls.spliced_nil ⟨[],H,I,.nil,h⟩
def za (ha:PE X e te)(hr:PA X es t)(hs:WY (e::es) X.env=(false,eval e X.env)::WY es X.env:=by rfl):PA X (e::es) (zde te t):=by
 intro pos bQ s σ H Q I h;rw[hs];show Xk _ _ (spliced ((false,eval e X.env)::Tr pos (WY es X.env))) _ _ s;refine R3 (thn (ha bQ s σ H _ I h) λu s1 ⟨x,H1,I1,r1,q1⟩=>?_);exact thn (hr pos bQ s1 σ H1 _ I1 q1) λus s2 ⟨xs,H2,I2,r2,q2⟩=>⟨x::xs,H2,I2,.cons r1 r2,q2⟩
def zqT (t:TA):TE:=fun σ H Q=>t σ H λxs H1=>xs.length<=Xq/\∀p,H1 p=none->Q (.ref p) (upd H1 p (.tup xs))
def zqU (t:TA):TE:=fun σ H Q=>t σ H λxs H1=>xs.length<=Xq/\∀p,H1 p=none->Q (.ref p) (upd H1 p (.lst xs))
def qp {x1}(h:PA X es t):PE X (.Tuple es x1 pos) (zqT t):=by
 intro bQ s σ H Q I hq;refine wpAny_Tuple_spliced (thn (h pos bQ s σ H _ I hq) λus s1 ⟨xs,H1,I1,r,z,q⟩=>⟨by rw[<- r.length];exact z,?_⟩);have hf:H1 s1.heap.objs.size=none:=I1.hok.fresh (XV _);refine⟨.ref s1.heap.objs.size,upd H1 s1.heap.objs.size (.tup xs),I1.laid (t':=s1.toks) (λb u e=>XY _ e) (XV _) ?_,rfl,q _ hf⟩;exact⟨z,us,r,⟨_,W5 _ rfl,rfl,_,rfl⟩⟩
def zI (h:PA X es t):PE X (.List es pos) (zqU t):=by
 intro bQ s σ H Q I hq;refine wpAny_List_spliced (thn (h pos bQ s σ H _ I hq) λus s1 ⟨xs,H1,I1,r,z,q⟩=>⟨by rw[<- r.length];exact z,?_⟩);have hf:H1 s1.heap.objs.size=none:=I1.hok.fresh (XV _);refine⟨.ref s1.heap.objs.size,upd H1 s1.heap.objs.size (.lst xs),I1.laid (t':=s1.toks) (λb u e=>XY _ e) (XV _) ?_,rfl,q _ hf⟩;exact⟨z,us,0,r,W5 _ rfl⟩
end
abbrev Sp:=AE->Hp->VK->XK->Prop
abbrev CXT:=List Env->Hp->X7->XK->X8->X7->Prop
structure zmb (P:Xm)(w:WZ)(K:XW)(mg:Str->Option X8)(base:Heap)(A:WR)(outer:List Env)(s:X7)(H:Hp):Prop where
 frames:A.frames=some outer
 mod:Mod K mg base
 bs:∀b o,base.get? b=some o->s.heap.get? b=some o/\H b=none
 bsz:base.objs.size<=s.heap.objs.size
 funs:s.heap.FunFrames base outer
 frf:∀b∈frs outer,H b=none
 hok:HOk P w H s.heap
 bare:Te s.gens
def CE (outer:List Env)(P:Xm)(w:WZ)(H:Hp)(s:X7)(Q:VK)(u:X8)(s':X7):Prop :=
 ∃v H',s'.os=s.os/\Te s'.gens/\Un (frs outer) [] H H' s.heap s'.heap/\HOk P w H' s'.heap/\RelV v u/\Q v H'
def CR (CX:CXT)(outer:List Env)(P:Xm)(w:WZ)(H:Hp)(s:X7)(Q:VK)(E:XK)(r:Rb)(s':X7):Prop :=
 match r with
 | .ok (.ret u)=>CE outer P w H s Q u s'
 | .ok _=>False
 | .error e=>CX outer H s E e s'
structure qa (P:Xm)(w:WZ)(K:XW)(mg:Str->Option X8)(base:Heap)(CX:CXT)(k:Nat)(f:Addr)(fd:XD)(ps:AD)(sp:Sp):Prop where
 len:∀vs H Q E,sp vs H Q E->vs.length=ps.length
 run:∀(A:WR) (outer:List Env) (s:X7) (H:Hp) (args:Args) (us:List X8) (vs:AE) (Q:VK) (E:XK),Jx k A->zmb P w K mg base A outer s H->OM s fd args (ps.zip us)->Vals vs us->sp vs H Q E ->
  T8 (Xn P w) A (.call (.ref f) args) (CR CX outer P w H s Q E) s
section
variable {X:Cx}{bQ:List (Addr×Obj)}{σ:St}{H:Hp}{s s':X7}
def Inv.env0 (I:Inv X bQ σ H s):zmb X.prog X.w X.K X.mg X.base X.A X.stack s H :=
 ⟨I.ok.frames,I.ok.mod,I.bs,XZ I.ok.bsz I.sz,I.stack,I.stkFree,I.hok,I.bare⟩
def Inv.after {Q:VK}{u:X8}(I:Inv X bQ σ H s)(h:CE X.stack X.prog X.w H s Q u s'):EP X bQ σ Q u s':=by
 obtain⟨v,H',os,bare,un,hok,r,q⟩:=h;obtain⟨hh,g,d,t,os'⟩:=s';obtain rfl:os'=s.os:=os;exact⟨v,H',I.call (h':=hh) (g':=g) (d':=d) (t':=t) (ch:=[]) un hok bare (λb z=>absurd z (by simp)),r,q⟩
end
def zhx (sp:Sp)(dvs:AE)(E:XK)(t:TA):TE:=fun σ H Q=>t σ H λvs H1=>sp (vs++dvs) H1 Q E
def Binds (K:XW)(fd:XD)(ps:AD)(ds:List X8):Prop :=
 ∀(s:X7) (us:List X8),K.In s.heap->(us++ds).length=ps.length->OM s fd ⟨us,[]⟩ (ps.zip (us++ds))
def Binds.all {K:XW}{fd:XD}{ps:AD}(h:∀us:List X8,us.length=ps.length->bindArgs fd ⟨us,[]⟩=pure (ps.zip us)):Binds K fd ps []:=λs us _ hl=>by
 rw[Xd] at hl ⊢;exact .of_eq (h us hl)
def Passes (CX:CXT)(X:Cx)(E:XK):Prop:=∀(bQ:List (Addr×Obj)) (σ:St) (H:Hp) (s:X7) (e:X8) (s':X7),Inv X bQ σ H s->CX X.stack H s E e s'->X.xe e s'
section
variable {X:Cx}{CX:CXT}{k:Nat}{f C:Addr}{fd:XD}{ps:AD}{sp:Sp}{dvs:AE}{ds:List X8}{E:XK}{x m:Str}{p pos apos:Pos}{e o:Expr}{es:List Expr}{ta:TE}{t:TA}
def zoC {bQ:List (Addr×Obj)}{σ:St}{H:Hp}{s:X7}{Q:VK}{us:List X8}{vs:AE}(F:qa X.prog X.w X.K X.mg X.base CX k f fd ps sp)(hr:Jx k X.A)(hb:Binds X.K fd ps ds)(hd:Vals dvs ds)(hx:Passes CX X E)
  (I:Inv X bQ σ H s) (r:Vals vs us) (h:sp (vs++dvs) H Q E):Xk (Xn X.prog X.w) X.A (call (.ref f) us) (EP X bQ σ Q) X.xe s:=by
 have r2:Vals (vs++dvs) (us++ds):=r.append hd;have hl:(us++ds).length=ps.length:=by rw[<- r2.length];exact F.len _ _ _ _ h
 refine wpAny_call (TN (F.run X.A X.stack s H ⟨us,[]⟩ (us++ds) (vs++dvs) Q E hr I.env0 (hb s us I.kIn hl) r2 h) λr s' hq=>?_);cases r with
 | error e=>exact hx bQ σ H s e s' I hq
 | ok fl =>
  cases fl with
  | ret u=>exact I.after hq
  | next=>exact Vn hq
  | brk=>exact Vn hq
  | cont=>exact Vn hq
def zbh (F:qa X.prog X.w X.K X.mg X.base CX k f fd ps sp)(hr:Jx k X.A)(hg:Gl X x)(hm:X.mg x=some (.ref f))(hk:TZ X.K (.ref f)=true)(hb:Binds X.K fd ps ds)(hd:Vals dvs ds)(hx:Passes CX X E)
  (ha:PA X (e::es) t) (hdb:(x==("__debug__":Str))=false:=by decide) (he:WY (e::es) X.env=(false,eval e X.env)::WY es X.env:=by rfl) (hpl:(Tr pos (WY es X.env)).any (·.1)=false:=by rfl) :
  PE X (.Call (.Name x p) (e::es) [] pos) (zhx sp dvs E t):=by
 intro bQ s σ H Q I h;refine Tn (QE I hg hm ?_ hdb);refine PySem.W.callWith_K (h₀:=X.base) I.ok.mod.kin hk (thn (ha pos bQ s σ H _ I h) λus s1 ⟨vs,H1,I1,r,q⟩=>⟨I1.kIn,?_⟩) he hpl;exact zoC F hr hb hd hx I1 r q
end
structure zB (N P:AD)(sc:Vi):Prop where
 kind:sc.kind=.function
 co:sc.isCoroutine=false
 gen:sc.isGenerator=false
 nd:N.Nodup
 pre:N.take P.length=P
 par:∀x∈P,sc.names.lookup x=some .local\/sc.names.lookup x=some .cell
 nofree:∀y∈sc.names,y.2 ≠ .free
def bz {N P:AD}{sc:Vi}(k:sc.kind=.function)(a:sc.isCoroutine=false)(b:sc.isGenerator=false)(p:N.take P.length=P)(h:(N.Nodup)/\(∀x∈P,sc.names.lookup x=some .local\/sc.names.lookup x=some .cell)/\∀y∈sc.names,y.2 ≠ .free):zB N P sc:=⟨k,a,b,h.1,p,h.2.1,h.2.2⟩
theorem zdf {kindOf:Str->Option Sx}{x:Str}:∀{binds:List (Str×X8)} {m:Str->Option X8},(∀v,(x,v) ∉ binds)->Oy kindOf binds m x=m x
 | [],_,_=>rfl
 | (n,v)::r,m,h=>by
  unfold Oy;rw[zdf λw hw=>h w (XR _ hw)];split
  .have:x≠n:=by rintro rfl;exact h v XU
   simp[this]
  .rfl
theorem zdg {kindOf:Str->Option Sx}{x:Str}:∀{binds:List (Str×X8)} {m:Str->Option X8},(∀v,(x,v) ∉ binds)->Ox kindOf binds m x=m x
 | [],_,_=>rfl
 | (n,v)::r,m,h=>by
  unfold Ox;rw[zdg λw hw=>h w (XR _ hw)];split
  .rfl
  .have:x≠n:=by rintro rfl;exact h v XU
   simp[this]
theorem zdh {kindOf:Str->Option Sx}{x:Str}{v:X8}:∀{P:AD} {vs:List X8} {i:Nat} {m:Str->Option X8},P.Nodup->P[i]?=some x->vs[i]?=some v->kindOf x=some .local ->
  Oy kindOf (P.zip vs) m x=some v
 | [],_,_,_,_,h,_,_=>by simp at h
 | _::_,[],_,_,_,_,h,_=>by simp at h
 | p::P,w::vs,0,m,nd,h1,h2,hk=>by
  simp at h1 h2;subst h1;subst h2;show Oy kindOf ((p,w)::P.zip vs) m p=_;unfold Oy;rw[zdf λv hv=>(WB.mp nd).1 (PQ hv).1,br hk];simp
 | p::P,w::vs,i+1,m,nd,h1,h2,hk=>by
  show Oy kindOf ((p,w)::P.zip vs) m x=_;unfold Oy;exact zdh (i:=i) (WB.mp nd).2 (by simpa using h1) (by simpa using h2) hk
theorem zdi {kindOf:Str->Option Sx}{x:Str}{v:X8}:∀{P:AD} {vs:List X8} {i:Nat} {m:Str->Option X8},P.Nodup->P[i]?=some x->vs[i]?=some v->kindOf x≠some .local ->
  Ox kindOf (P.zip vs) m x=some v
 | [],_,_,_,_,h,_,_=>by simp at h
 | _::_,[],_,_,_,_,h,_=>by simp at h
 | p::P,w::vs,0,m,nd,h1,h2,hk=>by
  simp at h1 h2;subst h1;subst h2;show Ox kindOf ((p,w)::P.zip vs) m p=_;unfold Ox;rw[zdg λv hv=>(WB.mp nd).1 (PQ hv).1,bw hk];simp
 | p::P,w::vs,i+1,m,nd,h1,h2,hk=>by
  show Ox kindOf ((p,w)::P.zip vs) m x=_;unfold Ox;exact zdi (i:=i) (WB.mp nd).2 (by simpa using h1) (by simpa using h2) hk
def start (N:AD)(vs:AE):St:=vs.map some++WN (N.length-vs.length) none
def zeV (CX:CXT)(P:Xm)(w:WZ)(K:XW)(mg:Str->Option X8)(base:Heap)(N:AD)(qual:Str)(scope:Vi)(f:Addr)(cd:X8)(A:WR)(outer:List Env)(s:X7)(H:Hp)(E:XK):Cx where
 prog:=P
 w:=w
 K:=K
 mg:=mg
 base:=base
 A:=A.deeper (Ra qual scope s.heap.objs.size f cd)
 N:=N
 s₀:=s
 H₀:=H
 env:=Ra qual scope s.heap.objs.size f cd
 outer:=outer
 stack:=Ra qual scope s.heap.objs.size f cd::outer
 ex:=[]
 calm:=true
 fn:=λ_=>true
 pn:=[]
 xe:=λe s'=>Xk (Xn P w) (A.deeper (Ra qual scope s.heap.objs.size f cd)) (leaving (Ra qual scope s.heap.objs.size f cd) e) (λ_ s''=>CX outer H s E e s'') (λe' s''=>CX outer H s E e' s'') s'
def zeW {sc:Vi}{n:Nat}{x:Str}(h:sc.names.lookup x=some .cell):∃c,(Sc n sc.names []).lookup x=some c:=by
 have q:=P8 sc.names n [] (.inl h);exact Vj.mp q
def ziC {CX:CXT}{P:Xm}{w:WZ}{K:XW}{mg:Str->Option X8}{base:Heap}{N ps:AD}{qual:Str}{scope:Vi}{f:Addr}{cd:X8}{A:WR}{outer:List Env}{s s1:X7}{H:Hp}{E:XK}{us:List X8}{vs:AE}
  (S:zB N ps scope) (hd:A.handled=none) (e0:zmb P w K mg base A outer s H) (hl:vs.length=ps.length) (r:Vals vs us)
  (x:InCallC s s.heap.objs.size (Oy (Ra qual scope s.heap.objs.size f cd).kindOf (ps.zip us) λ_=>none) (Sc (s.heap.objs.size+1) scope.names []) (Ox (Ra qual scope s.heap.objs.size f cd).kindOf (ps.zip us) λ_=>none) s1) :
  Inv (zeV CX P w K mg base N qual scope f cd A outer s H E) [] (start N vs) H s1:=by
 have hpl:ps.length<=N.length:=by have:=congrArg List.length S.pre;rw[XF] at this;lia
 obtain⟨h1,tk,rfl,hk⟩:=x.done;have noA:∀b:Addr,b ∉ (zeV CX P w K mg base N qual scope f cd A outer s H E).ex:=λb z=>absurd (show b∈([]:List Addr) from z) (by simp);refine⟨⟨e0.mod,S.kind,rfl,rfl,XV _,λy z c h1 h2=>?_,λy hy=>?_,λy c _ h=>?_,λ_=>hd,Around.frames_deeper e0.frames,.inr ⟨rfl,rfl⟩,λb z=>absurd z (noA b),e0.bs,e0.bsz,λb _ _=>noA b,λb z=>absurd z (noA b),e0.funs,e0.frf⟩,
  rfl,e0.bare,Un.kept hk,⟨_,x.toInCall.ns,λi y v h1 h2 h3=>?_⟩,λy c h=>⟨_,x.cell y c h⟩,e0.hok.fresh (XV _),λy c h=>?_,λp hp=>absurd (show p∈([]:List (Addr×Obj)) from hp) (by simp),e0.hok.kept hk,?_⟩
 .exact name_of_addr x.apart (Wu h1) (Wu h2)
 .have hy:scope.names.lookup y=some .cell\/scope.names.lookup y=some .free:=hy;rcases hy with hy | hy
  .exact zeW hy
  .exact absurd rfl (S.nofree _ (Wu hy))
 .exact TR (x.above y c (Wu h))
 .have hi:i<vs.length:=by
   unfold start at h2;by_cases hi:i<vs.length
   .exact hi
   .rw[Vt (by simpa using hi)] at h2;rw[List.getElem?_replicate] at h2;split at h2<;>cases h2
  have ha:vs[i]?=some v:=by
   unfold start at h2;rw[VF (by simpa using hi),Xo] at h2;cases e:vs[i]? with
   | none=>rw[e] at h2;cases h2
   | some a=>rw[e] at h2;cases h2;rfl
  obtain⟨u,hu,rv⟩:=r.get ha;have hp:ps[i]?=some y:=by
   rw[<- S.pre,RE (by lia)];exact h1
  have ndP:ps.Nodup:=by rw[<- S.pre];exact S.nd.sublist (S6 _ _)
  refine⟨u,rv,?_⟩;rcases S.par y (X6 hp) with k | k
  .exact .inl ⟨k,zdh ndP hp hu k⟩
  .obtain⟨c,e⟩:=zeW (n:=s.heap.objs.size+1) k;refine .inr ⟨.inl k,c,e,?_⟩;have q:=x.cell y c e;rw[zdi ndP hp hu (by show scope.names.lookup y≠_;rw[k];decide)] at q;exact q
 .exact e0.hok.fresh (TR (x.above y c (Wu h)))
 .unfold start;show _=N.length;rw[X0,Y1,PL];lia
def znK {CX:CXT}{P:Xm}{w:WZ}{K:XW}{mg:Str->Option X8}{base:Heap}{k:Nat}{f:Addr}{name qual:Str}{params:Arguments}{body:List Stmt}{scope:Vi}{dV kV doc pm cdv ct oc:X8}{an od:Option Addr}
  {osl:Array (Option X8)} {N ps:AD} {sp:Sp} (lk:K.lookup f=some ⟨oc,od,.func (UI name qual params body scope dV kV doc pm an cdv ct),osl⟩) (hcd:Ta K cdv qual=true) (S:zB N ps scope)
  (len:∀vs H Q E,sp vs H Q E->vs.length=ps.length)
  (hbody:∀(A:WR) (outer:List Env) (s:X7) (H:Hp) (vs:AE) (Q:VK) (E:XK),Jx k (A.deeper (Ra qual scope s.heap.objs.size f cdv))->sp vs H Q E ->
   ∃t,PSs (zeV CX P w K mg base N qual scope f cdv A outer s H E) body t/\t { nx:=λ_ H'=>Q .non H',rt:=Q } (start N vs) H) :
  qa P w K mg base CX (k+1) f (UI name qual params body scope dV kV doc pm an cdv ct) ps sp:=by
 refine⟨len,λA outer s H args us vs Q E hr e0 hb r hsp=>?_⟩;have hl:=len _ _ _ _ hsp;have KX:K.In s.heap:=e0.mod.kin.keeps λb o e=>(e0.bs b o e).1;have lim:s.heap.NoLimit:=e0.mod.nolimit.keeps λb o e=>(e0.bs b o e).1;have hkind:∀y∈ps.zip us,scope.names.lookup y.1=some .local\/(scope.names.lookup y.1=some .cell/\((Sc (s.heap.objs.size+1) scope.names []).lookup y.1).isSome=true):=λ⟨n,v⟩ hy=>by
  rcases S.par n (PQ hy).1 with q | q
  .exact .inl q
  .exact .inr ⟨q,P8 _ _ _ (.inl q)⟩
 refine codeAny_call_function hr.depth (KX _ _ lk) rfl S.co S.gen rfl (PySem.W.codeRec_of KX hcd) (hb _ _ _ _ ?_);refine wpAny_newFunctionEnv_cells S.kind hkind λenv he s1 x=>?_;subst he;refine⟨lim.keeps x.toInCall.keep,codeAny_func ?_⟩;obtain⟨t,ht,hq⟩:=hbody A outer s H vs Q E (hr.deeper _) hsp;have I:Inv (zeV CX P w K mg base N qual scope f cdv A outer s H E) [] (start N vs) H s1:=ziC S hr.hd e0 hl r x;refine VU (ht [] s1 (start N vs) H _ I hq) (λfl s' hs=>?_) λe s' hs=>hs;have fin:∀{σ':St} {H':Hp} {v:V} {u:X8},Inv (zeV CX P w K mg base N qual scope f cdv A outer s H E) [] σ' H' s'->RelV v u->Q v H'->CE outer P w H s Q u s' :=
  λ{σ' H' v u} J rv q=>⟨v,H',J.os,J.bare,J.base,J.hok,rv,q⟩
 cases fl with
 | ret u =>
  obtain⟨v,σ',H',J,rv,q⟩:=hs;exact fin J rv q
 | next =>
  obtain⟨σ',H',J,q⟩:=hs;exact fin (v:=V.non) (u:=Value.none) J rfl q
 | brk =>
  obtain⟨_,_,_,q⟩:=hs;exact Vn q
 | cont =>
  obtain⟨_,_,_,q⟩:=hs;exact Vn q
section
variable {X:Cx}{x:Str}{p pos:Pos}{e:Expr}{es:List Expr}{t:TA}{id T:String}{r:AE->Hp->VK->Prop}
def tCB (r:AE->Hp->VK->Prop)(t:TA):TE:=fun σ H Q=>t σ H λvs H1=>r vs H1 Q
def QF (hc:jj X (.builtin id) r)(hg:Gl X x)(hm:X.mg x=none)(hv:U4 x=some (.builtin id))(ha:PA X (e::es) t)(hn:x ≠ "__name__":=by decide)(hdb:(x==("__debug__":Str))=false:=by decide)
  (he:WY (e::es) X.env=(false,eval e X.env)::WY es X.env:=by rfl) (hpl:(Tr pos (WY es X.env)).any (·.1)=false:=by rfl):PE X (.Call (.Name x p) (e::es) [] pos) (tCB r t):=by
 intro bQ s σ H Q I h;refine Tn (Qf I hg hm hv ?_ hn hdb);exact PyProof.Rows.callWith_builtin1 (thn (ha pos bQ s σ H _ I h) λus s1 ⟨vs,H1,I1,r1,q1⟩=>hc bQ s1 σ H1 vs us Q I1 r1 q1) he hpl
def ziD (hc:jj X (.type T) r)(hg:Gl X x)(hm:X.mg x=none)(hv:U4 x=some (.type T))(ha:PA X (e::es) t)(hn:x ≠ "__name__":=by decide)(hdb:(x==("__debug__":Str))=false:=by decide)
  (he:WY (e::es) X.env=(false,eval e X.env)::WY es X.env:=by rfl) (hpl:(Tr pos (WY es X.env)).any (·.1)=false:=by rfl):PE X (.Call (.Name x p) (e::es) [] pos) (tCB r t):=by
 intro bQ s σ H Q I h;refine Tn (Qf I hg hm hv ?_ hn hdb);exact VB (thn (ha pos bQ s σ H _ I h) λus s1 ⟨vs,H1,I1,r1,q1⟩=>hc bQ s1 σ H1 vs us Q I1 r1 q1) he hpl
end
end L2
namespace HT
open PySem PyProof.Rows
section
variable {prog:Xm}{w:WZ}{A:WR}{E:X8->X7->Prop}{s:X7}
def sIx (n d:Nat):Option Int->Nat
 | none=>d
 | some v=>if v<0 then (v+(n:Int)).toNat else min v.toNat n
def zmc (n d k:Nat):sIx n d (some (k:Int))=min k n:=by
 show (if (k:Int)<0 then ((k:Int)+(n:Int)).toNat else min (k:Int).toNat n)=min k n;rw[bw (by lia),VE]
end
end HT
namespace L2
open PySem PySem.Spec PyProof.Rows
abbrev TO:=St->Hp->(Option Int->Hp->Prop)->Prop
def PO (X:Cx)(e:Option Expr)(t:TO):Prop :=
 ∀(bQ:List (Addr×Obj)) (s:X7) (σ:St) (H:Hp) (Q:Option Int->Hp->Prop),Inv X bQ σ H s->t σ H Q ->
  Xk (Xn X.prog X.w) X.A (evalPart e X.env) (λu s'=>∃o H',Inv X bQ σ H' s'/\IsPart u o/\Q o H') X.xe s
def zmd:TO:=λ_ H Q=>Q none H
def zp0 (t:TE):TO:=fun σ H Q=>t σ H λx H1=>∃i,x=.int i/\Q (some i) H1
section
variable {X:Cx}{e:Expr}{te:TE}{lo hi:Option Expr}{tl th:TO}{pos p2:Pos}
def zme:PO X none zmd:=by
 intro bQ s σ H Q I h;rw[evalPart_none];exact XS ⟨none,H,I,.none,h⟩
def zmf (h:PE X e te):PO X (some e) (zp0 te):=by
 intro bQ s σ H Q I hw;rw[evalPart_some];refine thn (h bQ s σ H _ I hw) λu s1 ⟨x,H1,I1,r1,q1⟩=>?_;obtain⟨i,rfl,q⟩:=q1;obtain⟨t,rfl⟩:=r1;exact⟨some i,H1,I1,.int i t,q⟩
def SlR (X:Cx)(r:V->Option Int->Option Int->Hp->VK->Prop):Prop :=
 ∀(bQ:List (Addr×Obj)) (s:X7) (σ:St) (H:Hp) (x:V) (v vl vu:X8) (lo hi:Option Int) (sl:Addr) (Q:VK),Inv X bQ σ H s->RelV x v->s.heap.IsSliceOf sl vl vu .none->IsPart vl lo->IsPart vu hi->r x lo hi H Q ->
  ∃T id,OT (.type T) "__getitem__"=pure (some (.builtin id))/\s.TypeIs v T/\Xk (Xn X.prog X.w) X.A (getItem v (.ref sl)) (EP X bQ σ Q) X.xe s
def tSl (r:V->Option Int->Option Int->Hp->VK->Prop)(te:TE)(tl th:TO):TE:=fun σ H Q=>te σ H λx H1=>tl σ H1 λl H2=>th σ H2 λu H3=>r x l u H3 Q
def zjT {r:V->Option Int->Option Int->Hp->VK->Prop}(hr:SlR X r)(he:PE X e te)(hl:PO X lo tl)(hu:PO X hi th):PE X (.Subscript e (.Slice lo hi none p2) pos) (tSl r te tl th):=by
 intro bQ s σ H Q I h;refine Subscript_ (thn (he bQ s σ H _ I h) λv s1 ⟨x,H1,I1,r1,q1⟩=>?_);refine wpAny_Slice (thn (hl bQ s1 σ H1 _ I1 q1) λvl s2 ⟨l,H2,I2,pl,q2⟩=>thn (hu bQ s2 σ H2 _ I2 q2) λvu s3 ⟨u,H3,I3,pu,q3⟩=>?_);rw[evalPart_none];refine XS ?_;have I4:Inv X bQ σ H3 { s3 with heap:=s3.heap.push { cls:=.type "slice",data:=.fields #[vl,vu,.none] } }:=I3.kept (t':=s3.toks) λb ob q=>XY _ q;obtain⟨T,id,hT,ht,hg⟩:=hr bQ { s3 with heap:=s3.heap.push { cls:=.type "slice",data:=.fields #[vl,vu,.none] } } σ H3 x v vl vu l u s3.heap.objs.size Q I4 r1 (Heap.IsSliceOf.new ..) pl pu q3;show Xk (Xn X.prog X.w) X.A (subscriptTail e (.Slice lo hi none p2) v (.ref s3.heap.objs.size)) (EP X bQ σ Q) X.xe { s3 with heap:=s3.heap.push { cls:=.type "slice",data:=.fields #[vl,vu,.none] } };exact tail_any (ops:=[.ref s3.heap.objs.size,v]) ht hT hg (by with_unfolding_all rfl)
def ziE (xs:AE)(lo hi:Option Int):AE:=(xs.drop (HT.sIx xs.length 0 lo)).take (HT.sIx xs.length xs.length hi-HT.sIx xs.length 0 lo)
def zeX (xs:AE)(lo hi:Option Int):(ziE xs lo hi).length<=xs.length:=by
 unfold ziE;rw[XF,U2];lia
end
def ixN (n:Nat)(i:Int):Option Nat:=if 0<=i then (if i<n then some i.toNat else none) else if -(n:Int)<=i then some (i+n).toNat else none
def atI {α:Type}(xs:List α)(i:Int):Option α:=(ixN xs.length i).bind λj=>xs[j]?
def zd5 {n:Nat}{i:Int}{j:Nat}(h:ixN n i=some j):seqIndex? i n=some j/\j<n/\-(n:Int)<=i/\i<n:=by
 unfold ixN at h;by_cases h0:0<=i
 .rw[br h0] at h;by_cases h1:i<n
  .rw[br h1] at h;have e:i.toNat=j:=Option.some.inj h;exact⟨by rw[Pw h0 h1,e],by lia,by lia,h1⟩
  .rw[bw h1] at h;cases h
 .rw[bw h0] at h;by_cases h1:-(n:Int)<=i
  .rw[br h1] at h;have e:(i+n).toNat=j:=Option.some.inj h;exact⟨by rw[Qr (by lia) h1,e],by lia,h1,by lia⟩
  .rw[bw h1] at h;cases h
def zbi {α:Type}{xs:List α}{i:Int}{v:α}(h:atI xs i=some v):∃j,seqIndex? i xs.length=some j/\xs[j]?=some v/\j<xs.length/\-(xs.length:Int)<=i/\i<xs.length:=by
 unfold atI at h;cases e:ixN xs.length i with
 | none=>rw[e] at h;cases h
 | some j =>
  rw[e] at h;obtain⟨h1,h2,h3,h4⟩:=zd5 e;exact⟨j,h1,h,h2,h3,h4⟩
def qK {α:Type}{xs:List α}{j:Nat}{v:α}(h:xs[j]?=some v):atI xs (j:Int)=some v:=by
 have hj:j<xs.length:=(X5.mp h).1;have e:ixN xs.length (j:Int)=some j:=by
  unfold ixN;rw[br (by lia),br (by lia)];simp
 unfold atI;rw[e];exact h
def zmg (b:Expr):Prop:=∀o i,subscripted b false o i=operate [o,i] (getItem o i)
def IxR (X:Cx)(r:R2):Prop :=
 ∀(value slice:Expr) (bQ:List (Addr×Obj)) (s:X7) (σ:St) (H:Hp) (x y:V) (v u:X8) (Q:VK),Inv X bQ σ H s->RelV x v->RelV y u->r x y H Q ->
  subscripted slice false v u=operate [v,u] (getItem v u)->Xk (Xn X.prog X.w) X.A (subscriptTail value slice v u) (EP X bQ σ Q) X.xe s
def MtR (X:Cx)(id:String)(r:V->AE->Hp->VK->Prop):Prop :=
 ∀(bQ:List (Addr×Obj)) (s:X7) (σ:St) (H:Hp) (x:V) (xs:AE) (v:X8) (us:List X8) (Q:VK),Inv X bQ σ H s->RelV x v->Vals xs us->r x xs H Q ->
  Xk (Xn X.prog X.w) X.A (call (.builtin id) (v::us)) (EP X bQ σ Q) X.xe s
section
variable {X:Cx}{a b:Expr}{ta tb:TE}{pos:Pos}
def zE {r:R2}(hr:IxR X r)(ha:PE X a ta)(hb:PE X b tb)(hs:zmg b):PE X (.Subscript a b pos) (tOp r ta tb):=by
 intro bQ s σ H Q I h;exact Subscript_ (zot ha hb I h λv u s2 x y H2 I2 rx ry q=>hr a b bQ s2 σ H2 x y v u Q I2 rx ry q (hs _ _))
def zp1 (K:XW):R2:=λx y H Q=>∃p xs i v,x=.ref p/\y=.int i/\SqL K H p xs/\atI xs i=some v/\Q v H
def zp2 (K:XW):R2:=λx y H Q=>∃p xs i v,x=.ref p/\y=.int i/\SqT K H p xs/\atI xs i=some v/\Q v H
def zqV:R2:=λx y H Q=>∃z i c,x=.str z/\y=.int i/\z.length<=Xq/\atI z.cps.toList i=some c/\Q (.str ⟨#[c]⟩) H
def xT:IxR X (zp1 X.K):=by
 intro value slice bQ s σ H x y v u Q I rx ry h hs;obtain⟨p,xs,i,z,rfl,rfl,hq,he,q⟩:=h;cases rx;obtain⟨t,rfl⟩:=ry;obtain⟨its,r,pl,hz⟩:=I.list hq;obtain⟨j,h1,h2,h3,h4,h5⟩:=zbi he;obtain⟨w,ew,rw'⟩:=r.get h2;have hl:=r.length;have hn:=Z1;have fin:EP X bQ σ Q w s:=⟨z,H,I,rw',q⟩;by_cases h0:0<=i
 .have hj:i.toNat=j:=by
   rw[Pw h0 h5] at h1;exact Option.some.inj h1
  exact item_listR pl.isList h0 (by lia) (by rw[hj];simpa using ew) fin hs
 .have hj:(i+(its.toArray.size:Int)).toNat=j:=by
   rw[Qr (by lia) h4] at h1;rw[Xx,<- hl];exact Option.some.inj h1
  exact P7 (x:=w) pl.isList.typeIs slot_list_getitem.lookup
   (P6 (Q:=λr s'=>r=w/\EP X bQ σ Q r s') pl.isList (by lia) (by rw[Xx]<;>lia) (by lia) (by rw[hj];simpa using ew) ⟨rfl,fin⟩) hs
def qO:IxR X (zp2 X.K):=by
 intro value slice bQ s σ H x y v u Q I rx ry h hs;obtain⟨p,xs,i,z,rfl,rfl,hq,he,q⟩:=h;cases rx;obtain⟨t,rfl⟩:=ry;obtain⟨its,r,pl,hz⟩:=I.tuple hq;obtain⟨j,h1,h2,h3,h4,h5⟩:=zbi he;obtain⟨w,ew,rw'⟩:=r.get h2;have hl:=r.length;have hn:=Z1;have fin:EP X bQ σ Q w s:=⟨z,H,I,rw',q⟩;exact P7 (x:=w) pl.typeIs slot_tuple_getitem.lookup
  (getItem_tuple (j:=j) (Q:=λr s'=>r=w/\EP X bQ σ Q r s') pl (by lia) (by lia) (by rw[Xx,<- hl];exact h1) (by simpa using ew) ⟨rfl,fin⟩) hs
def zoD:IxR X zqV:=by
 intro value slice bQ s σ H x y v u Q I rx ry h hs;obtain⟨z,i,c,rfl,rfl,hz,he,q⟩:=h;obtain⟨t,rfl⟩:=rx;obtain⟨t',rfl⟩:=ry;obtain⟨j,h1,h2,h3,h4,h5⟩:=zbi he;have hl:z.cps.toList.length=z.length:=by simp[Str.length]
 rw[hl] at h1 h4 h5;have hn:=Z1;exact tail_any (typeIs_str s z t) slot_str_getitem.lookup (getItem_str (c:=c) (by
  have e1:decide (i < -(2^63:Int))=false:=bg (by lia);have e2:decide (i >= 2^63)=false:=bg (by lia);rw[e1,e2,OZ]) (by rw[h1];simpa using h2) ⟨.str ⟨#[c]⟩,H,I.tok _,⟨_,rfl⟩,q⟩) hs
def zgn (its:List X8)(n j:Nat)(u:X8):Vc (·.setIfInBounds j u) { cls:=.type "list",data:=.seq its.toArray n }={ cls:=.type "list",data:=.seq (its.set j u).toArray n }:=by
 simp[Vc]
theorem Inv.lst {bQ:List (Addr×Obj)}{σ:St}{H:Hp}{s:X7}{p:Addr}{xs:AE}(I:Inv X bQ σ H s)(h:H p=some (.lst xs)) :
  ∃(its:List X8) (n:Nat),Vals xs its/\s.heap.get? p=some { cls:=.type "list",data:=.seq its.toArray n }/\xs.length<=Xq:=by
 obtain⟨z,its,n,r,e⟩:=I.hok p _ h;exact⟨its,n,r,e,z⟩
def Inv.lstUpd {bQ:List (Addr×Obj)}{σ:St}{H:Hp}{s:X7}{p:Addr}{xs ys:AE}{its its':List X8}{n n':Nat}{f:Obj->Obj}(I:Inv X bQ σ H s)(h:H p=some (.lst xs))
  (ho:s.heap.get? p=some { cls:=.type "list",data:=.seq its.toArray n }) (hf:f { cls:=.type "list",data:=.seq its.toArray n }={ cls:=.type "list",data:=.seq its'.toArray n' }) (r:Vals ys its') (hz:ys.length<=Xq) (t:Nat) :
  Inv X bQ σ (upd H p (.lst ys)) { s with heap:=s.heap.update p f,toks:=t }:=by
 have e:(s.heap.update p f).get? p=some { cls:=.type "list",data:=.seq its'.toArray n' }:=by
  rw[WD f ho (by rw[hf]<;>rfl),hf]
 refine I.write (x:=p) (e:=p) (by rw[h];trivial) (.inl rfl) (λb u hb q=>(VG _ _ (Vr hb)).trans q) ⟨_,e⟩ ?_;exact⟨hz,its',n',r,e⟩
def zp3:V->V->V->Hp->(Hp->Prop)->Prop:=λo i v H Q=>∃p xs k j,o=.ref p/\i=.int k/\H p=some (.lst xs)/\ixN xs.length k=some j/\Q (upd H p (.lst (xs.set j v)))
def set_list:zor X zp3:=by
 intro bQ s σ H o i v ov iv u Q I ro ri rv h;obtain⟨p,xs,k,j,rfl,rfl,hp,hj,q⟩:=h;cases ro;obtain⟨t,rfl⟩:=ri;obtain⟨its,n,r,ho,hz⟩:=I.lst hp;obtain⟨h1,h2,h3,h4⟩:=zd5 hj;have hl:=r.length;have hn:=Z1;have I':Inv X bQ σ (upd H p (.lst (xs.set j v))) { s with heap:=s.heap.update p (Vc (·.setIfInBounds j u)) } :=
  I.lstUpd hp ho (zgn its n j u) (r.set rv j) (by rw[List.length_set];exact hz) s.toks
 by_cases h0:0<=k
 .have hk:k.toNat=j:=by
   rw[Pw h0 h4] at h1;exact Option.some.inj h1
  exact PySem.W.ki_setAt ho h0 (by lia) (by rw[Xx,<- hl];exact h4) (by rw[hk];exact⟨_,I',q⟩)
 .have hk:(k+(its.toArray.size:Int)).toNat=j:=by
   rw[Qr (by lia) h3] at h1;rw[Xx,<- hl];exact Option.some.inj h1
  exact PySem.W.ki_setBack ho (by lia) (by rw[Xx,<- hl];exact h3) (by lia) (by rw[hk];exact⟨_,I',q⟩)
def zd6 (lo hi:Option Int)(n:Nat):(Tg lo hi none n).1=((HT.sIx n 0 lo:Nat):Int)/\(Tg lo hi none n).2.1=((HT.sIx n n hi:Nat):Int)/\(Tg lo hi none n).2.2=1:=by
 refine⟨?_,?_,rfl⟩
 .cases lo with
  | none=>simp[Tg,HT.sIx]
  | some i =>
   simp only[Tg,HT.sIx,Option.getD_none,show (1:Int)>0 by decide,if_true];by_cases h:i<0
   .simp only[h,if_true]<;>lia
   .simp only[h,if_false]<;>lia
 .cases hi with
  | none=>simp[Tg,HT.sIx]
  | some i =>
   simp only[Tg,HT.sIx,Option.getD_none,show (1:Int)>0 by decide,if_true];by_cases h:i<0
   .simp only[h,if_true]<;>lia
   .simp only[h,if_false]<;>lia
def zcO (its:List X8)(lo hi:Option Int):slicePick its.toArray lo hi none=((its.drop (HT.sIx its.length 0 lo)).take (HT.sIx its.length its.length hi-HT.sIx its.length 0 lo)).toArray:=by
 obtain⟨h1,h2,h3⟩:=zd6 lo hi its.toArray.size;unfold slicePick;rw[h1,h2,h3];simp only[sliceRange_one,pick_run,Xx]<;>rfl
def zqW (K:XW):V->Option Int->Option Int->Hp->VK->Prop:=λx lo hi H Q=>∃a xs,x=.ref a/\SqL K H a xs/\∀p,H p=none->Q (.ref p) (upd H p (.lst (ziE xs lo hi)))
def zmh:SlR X (zqW X.K):=by
 intro bQ s σ H x v vl vu lo hi sl Q I rx hs pl pu h;obtain⟨a,xs,rfl,hx,q⟩:=h;cases rx;obtain⟨its,r,ht,hz⟩:=I.list hx;have hlen:=r.length;refine⟨"list",_,slot_list_getitem.lookup,ht.isList.typeIs,?_⟩;refine wpAny_getItem_list_slice ht.isList hs pl pu .none (by simp) ?_ (by rw[Xx]<;>lia);rw[zcO,<- hlen];refine⟨.ref s.heap.objs.size,_,I.laid (t':=s.toks) (o:=.lst (ziE xs lo hi)) (λb ob q=>XY _ q) (XV _) ?_,rfl,q _ (I.hok.fresh (XV _))⟩;exact⟨XZ (zeX xs lo hi) hz,_,0,(r.drop (HT.sIx xs.length 0 lo)).take (HT.sIx xs.length xs.length hi-HT.sIx xs.length 0 lo),W5 _ rfl⟩
def QG:V->Bool
 | .non=>true
 | .bl _=>true
 | .int _=>true
 | .str _=>true
 | _=>false
def eqV:V->V->Bool
 | .non,.non=>true
 | .bl a,.bl b=>a==b
 | .bl a,.int b=>(if a then 1 else 0)==b
 | .int a,.bl b=>a==(if b then 1 else 0)
 | .int a,.int b=>a==b
 | .str a,.str b=>a==b
 | _,_=>false
def zoE {A:WR}{s:X7}{y x:V}{u v:X8}(ry:RelV y u)(rx:RelV x v)(fy:QG y=true)(fx:QG x=true):SeqAt.EqAt A s u v (eqV y x):=by
 cases y with
 | non =>
  cases ry;cases x with
  | non=>cases rx;exact SeqAt.EqAt.same _
  | bl b=>cases rx;exact SeqAt.EqAt.none_bool b
  | int b=>obtain⟨t,rfl⟩:=rx;exact SeqAt.EqAt.none_int b t
  | str b=>obtain⟨t,rfl⟩:=rx;exact SeqAt.EqAt.none_str b t
  | _=>exact absurd (show false=true from fx) XT
 | bl a =>
  cases ry;cases x with
  | non=>cases rx;exact SeqAt.EqAt.bool_none a
  | bl b=>cases rx;exact SeqAt.EqAt.bool_bool a b
  | int b=>obtain⟨t,rfl⟩:=rx;exact SeqAt.EqAt.bool_int a b t
  | str b=>obtain⟨t,rfl⟩:=rx;exact SeqAt.EqAt.bool_str a b t
  | _=>exact absurd (show false=true from fx) XT
 | int a =>
  obtain⟨t',rfl⟩:=ry;cases x with
  | non=>cases rx;exact SeqAt.EqAt.int_none a t'
  | bl b=>cases rx;exact SeqAt.EqAt.int_bool a t' b
  | int b=>obtain⟨t,rfl⟩:=rx;exact SeqAt.EqAt.int_int a t' b t
  | str b=>obtain⟨t,rfl⟩:=rx;exact SeqAt.EqAt.int_str a t' b t
  | _=>exact absurd (show false=true from fx) XT
 | str a =>
  obtain⟨t',rfl⟩:=ry;cases x with
  | non=>cases rx;exact SeqAt.EqAt.str_none a t'
  | bl b=>cases rx;exact SeqAt.EqAt.str_bool a t' b
  | int b=>obtain⟨t,rfl⟩:=rx;exact SeqAt.EqAt.str_int a t' b t
  | str b=>obtain⟨t,rfl⟩:=rx;exact SeqAt.EqAt.str_str a t' b t
  | _=>exact absurd (show false=true from fx) XT
 | _=>exact absurd (show false=true from fy) XT
def eqU (x:V)(u:X8):Bool:=match u with
 | .none=>eqV .non x
 | .bool b=>eqV (.bl b) x
 | .int i _=>eqV (.int i) x
 | .str z _=>eqV (.str z) x
 | _=>false
def zjU {x y:V}{u:X8}(r:RelV y u)(f:QG y=true):eqU x u=eqV y x:=by
 cases y with
 | non=>cases r;rfl
 | bl b=>cases r;rfl
 | int i=>obtain⟨t,rfl⟩:=r;rfl
 | str z=>obtain⟨t,rfl⟩:=r;rfl
 | _=>exact absurd (show false=true from f) XT
theorem zd7 {x:V}:∀{xs:AE} {us:List X8},Vals xs us->xs.all QG=true->us.any (eqU x)=xs.any λy=>eqV y x
 | _,_,.nil,_=>rfl
 | y::xs,u::us,.cons r t,f=>by
  rw[RI,Ws] at f;rw[SF,SF,zjU r f.1,zd7 t f.2]
theorem zbD {A:WR}{s:X7}{x:V}{v:X8}(rx:RelV x v)(fx:QG x=true):∀{xs:AE} {us:List X8},Vals xs us->xs.all QG=true->∀u∈us,SeqAt.EqAt A s u v (eqU x u)
 | _,_,.nil,_=>λu hu=>by cases hu
 | y::xs,u::us,.cons r t,f=>λu' hu=>by
  rw[RI,Ws] at f;rcases XG.mp hu with rfl | hu
  .rw[zjU r f.1];exact zoE r rx f.1 fx
  .exact zbD rx fx t f.2 u' hu
def inV (x:V)(xs:AE):Bool:=xs.any λy=>eqV y x
def rIn (K:XW)(neg:Bool):R2:=λx y H Q=>∃p xs,y=.ref p/\(SqL K H p xs\/SqT K H p xs)/\QG x=true/\xs.all QG=true/\Q (.bl (if neg then !inV x xs else inV x xs)) H
def zdj:OpR X (Wj .In) (rIn X.K false):=by
 intro bQ s σ H x y v u Q I rx ry h;obtain⟨p,xs,rfl,hq,fx,fs,q⟩:=h;cases ry;rcases hq with hq | hq
 .obtain⟨its,r,pl,hz⟩:=I.list hq;refine SeqAt.in_listAt (eqU x) pl.isList (λw hw=>zbD rx fx r fs w (by simpa using hw)) ⟨.bl _,H,I,rfl,?_⟩;rw[show its.toArray.any (eqU x)=its.any (eqU x) by simp,zd7 r fs];exact q
 .obtain⟨its,r,pl,hz⟩:=I.tuple hq;refine SeqAt.in_tupleAt (eqU x) pl (λw hw=>zbD rx fx r fs w (by simpa using hw)) ⟨.bl _,H,I,rfl,?_⟩;rw[show its.toArray.any (eqU x)=its.any (eqU x) by simp,zd7 r fs];exact q
def qk:jj X (.builtin "len") (λxs H Q=>∃p ys,xs=[.ref p]/\(SqL X.K H p ys\/SqT X.K H p ys)/\Q (.int ys.length) H):=by
 intro bQ s σ H xs us Q I r h;obtain⟨p,ys,rfl,hq,q⟩:=h;obtain⟨u,rfl,rx⟩:=vals1 r;cases rx;have hn:=Z1;rcases hq with hq | hq
 .obtain⟨its,r',pl,hz⟩:=I.list hq;have hlen:=r'.length;exact Calls.call_len_list pl.isList (by simp only[Xx]<;>lia) ⟨.int ys.length,H,I.tok _,⟨s.toks+1,by rw[Xx,hlen]⟩,q⟩
 .obtain⟨its,r',pl,hz⟩:=I.tuple hq;have hlen:=r'.length;exact len_tuple pl (by simp only[Xx]<;>lia) ⟨.int ys.length,H,I.tok _,⟨s.toks+1,by rw[Xx,hlen]⟩,q⟩
def zd8:jj X (.builtin "len") (λxs H Q=>∃z,xs=[.str z]/\z.length<=Xq/\Q (.int z.length) H):=by
 intro bQ s σ H xs us Q I r h;obtain⟨z,rfl,hz,q⟩:=h;obtain⟨u,rfl,t,rfl⟩:=vals1 r;have hn:=Z1;exact len_str (by lia) ⟨.int z.length,H,I.tok _,⟨_,rfl⟩,q⟩
def zd9:jj X (.type "list") (λxs H Q=>∃p ys,xs=[.ref p]/\(SqL X.K H p ys\/SqT X.K H p ys)/\∀l,H l=none->Q (.ref l) (upd H l (.lst ys))):=by
 intro bQ s σ H xs us Q I r h;obtain⟨p,ys,rfl,hq,q⟩:=h;obtain⟨u,rfl,rx⟩:=vals1 r;cases rx;have fin:∀(its:List X8),Vals ys its->ys.length<=Xq->∀(h':Heap) (c':Nat),(∀b o',s.heap.get? b=some o'->h'.get? b=some o') ->
   h'.get? s.heap.objs.size=some { cls:=.type "list",dict:=none,data:=.seq its.toArray c',slots:=#[] }->EP X bQ σ Q (.ref s.heap.objs.size) { s with heap:=h' }:=λits r' hz h' c' kp e =>
  ⟨.ref s.heap.objs.size,_,I.laid (t':=s.toks) kp (XV _) (show jt X.prog X.w _ h' _ (.lst ys) from ⟨hz,its,c',r',e⟩),rfl,q _ (I.hok.fresh (XV _))⟩
 rcases hq with hq | hq
 .obtain⟨its,r',pl,hz⟩:=I.list hq;have hlen:=r'.length;obtain⟨o,ho,hc,n,hd⟩:=pl.isList;exact call_list_seq p (.inl rfl) ho hc hd (λh' c' kp e=>fin its r' hz h' c' kp e) (by simp only[Xx]<;>lia)
 .obtain⟨its,r',pl,hz⟩:=I.tuple hq;have hlen:=r'.length;obtain⟨o,ho,hc,n,hd⟩:=pl;exact call_list_seq p (.inr rfl) ho hc hd (λh' c' kp e=>fin its r' hz h' c' kp e) (by simp only[Xx]<;>lia)
def tyV (K:XW)(T:String)(x:V)(H:Hp):Prop:=match x with
 | .str _=>T="str"
 | .int _=>T="int"
 | .ref p=>(T="list"/\∃xs,SqL K H p xs)\/(T="tuple"/\∃o,K.lookup p=some o/\o.cls=.type "tuple"/\o.dict=none) \/
   (T="dict"/\((∃kvs,H p=some (.dK kvs))\/∃kvs,H p=some (.dT kvs)))\/(T="set"/\∃S n,H p=some (.set S n))
 | _=>False
def zoF {bQ:List (Addr×Obj)}{σ:St}{H:Hp}{s:X7}{T:String}{x:V}{v:X8}(I:Inv X bQ σ H s)(r:RelV x v)(ty:tyV X.K T x H) :
  s.TypeIs v T/\∀a,v=.ref a->∃ob,s.heap.get? a=some ob/\ob.dict=none:=by
 cases x with
 | str z =>
  obtain⟨t,rfl⟩:=r;cases (show T="str" from ty);exact⟨typeIs_str s z t,λ_ e=>nomatch e⟩
 | int i =>
  obtain⟨t,rfl⟩:=r;cases (show T="int" from ty);exact⟨typeIs_int s i t,λ_ e=>nomatch e⟩
 | ref p =>
  cases r;rcases ty with ⟨rfl,xs,hq⟩ | ⟨rfl,o,hk,hc,hd⟩ | ⟨rfl,hk⟩ | ⟨rfl,S,n,hk⟩
  .obtain⟨its,_,pl,_⟩:=I.list hq;refine⟨pl.isList.typeIs,λa e=>?_⟩;cases e;obtain⟨o,n,e,c,hd,_⟩:=pl;exact⟨o,e,hd⟩
  .refine⟨⟨o,I.kIn p o hk,hc⟩,λa e=>?_⟩;cases e;exact⟨o,I.kIn _ o hk,hd⟩
  .have z:∃o,s.heap.get? p=some o/\o.ExactDict:=by
    rcases hk with ⟨kvs,hk⟩ | ⟨kvs,hk⟩
    .obtain⟨_,_,_,_,o,_,_,e,ex,_⟩:=I.hok p _ hk;exact⟨o,e,ex⟩
    .obtain⟨_,_,_,_,o,_,_,e,ex,_⟩:=I.hok p _ hk;exact⟨o,e,ex⟩
   obtain⟨o,e,ex⟩:=z;refine⟨⟨o,e,ex.1⟩,λa e2=>?_⟩;cases e2;exact⟨o,e,ex.2.1⟩
  .obtain⟨o,_,_,_,e,ex,_⟩:=I.hok p _ hk;refine⟨⟨o,e,ex.1⟩,λa e2=>?_⟩;cases e2;exact⟨o,e,ex.2.1⟩
 | _=>exact Vn ty
def tBM (K:XW)(T:String)(r:V->AE->Hp->VK->Prop)(to:TE)(t:TA):TE:=fun σ H Q=>to σ H λx H1=>tyV K T x H1/\t σ H1 λxs H2=>r x xs H2 Q
variable {o e:Expr}{es:List Expr}{to:TE}{t:TA}{name:Str}{apos cpos:Pos}{T id:String}{r:V->AE->Hp->VK->Prop}
def JW (pa:PlainAttrs T)(slot:Slot T name id)(hty:typeOf (.builtin id)=pure (.type "method_descriptor"))(hm:MtR X id r)(ho:PE X o to)(ha:PA X (e::es) t)
  (hbase:attributeBase o name X.env (eval o X.env)=eval o X.env:=by rfl)
  (hfew:((Tr cpos (WY (e::es) X.env)).all (λx=>!x.1)&&(backToKw cpos (keywordEach [] X.env)).all (λx=>x.1.isSome)
   && decide ((e::es).length+([]:List OB).length+(if ([]:List OB).isEmpty then 0 else 1)<30))=true:=by rfl)
  (hline:(apos.endLine==cpos.line)=true:=by rfl) (hs:WY (e::es) X.env=(false,eval e X.env)::WY es X.env:=by rfl) (hplain:(Tr cpos (WY es X.env)).any (·.1)=false:=by rfl) :
  PE X (.Call (.Attribute o name apos) (e::es) [] cpos) (tBM X.K T r to t):=by
 intro bQ s σ H Q I h;refine wpAny_Call_method_late hbase hfew hline rfl (thn (ho bQ s σ H _ I h) λv s1 ⟨x,H1,I1,r1,ty,q1⟩=>?_);obtain⟨h1,h2⟩:=zoF I1 r1 ty;refine⟨T,id,pa,slot,hty,h1,h2,?_⟩;have hA:=ha cpos bQ s1 σ H1 _ I1 q1;rw[hs] at hA ⊢;refine P1 (by show (false || (Tr cpos (WY es X.env)).any (·.1))=false;rw[hplain]<;>rfl) (Su ?_);exact thn hA λus s2 ⟨vs,H2,I2,r2,q2⟩=>hm bQ s2 σ H2 x vs v us Q I2 r1 r2 q2
/- xs.append(e),list.index on a module's tuple .. are MtR facts of 06m -/
end
def MtM (X:Cx)(id:String)(r:V->AE->Hp->VK->Prop):Prop :=
 ∀(bQ:List (Addr×Obj)) (s:X7) (σ:St) (H:Hp) (x:V) (xs:AE) (v:X8) (us:List X8) (Q:VK),Inv X bQ σ H s->RelV x v->Vals xs us->r x xs H Q ->
  Xk (Xn X.prog X.w) X.A (call (.builtin id) (v::us)) (EP X bQ σ Q) X.xe s
theorem Vals.one:∀{x:V} {us:List X8},Vals [x] us->∃u,us=[u]/\RelV x u
 | _,_,.cons r .nil=>⟨_,rfl,r⟩
theorem Vals.eraseIdx:∀{xs:AE} {us:List X8} (i:Nat),Vals xs us->Vals (xs.eraseIdx i) (us.eraseIdx i)
 | _,_,_,.nil=>.nil
 | _,_,0,.cons _ t=>t
 | _,_,i+1,.cons r t=>.cons r (Vals.eraseIdx i t)
theorem Vals.rep {xs:AE}{us:List X8}(h:Vals xs us):∀k:Nat,Vals (WN k xs).flatten (WN k us).flatten
 | 0=>.nil
 | k+1=>by
  rw[U9,U9,VS,VS];exact Vals.append h (Vals.rep h k)
theorem zdk {α:Type}:∀(l:List α) (i:Nat),(l.eraseIdx i).length<=l.length
 | [],_=>XV _
 | _::_,0=>VX _
 | _::r,i+1=>Nat.succ_le_succ (zdk r i)
theorem foldl_rep (its:List X8):∀(k:Nat) (acc:List X8),
  List.foldl (λx1 x2=>x1++x2) acc.toArray (WN k its.toArray)=(acc++(WN k its).flatten).toArray
 | 0,acc=>by simp
 | k+1,acc=>by
  have e:acc.toArray++its.toArray=(acc++its).toArray:=by simp
  have e2:(acc++its)++(WN k its).flatten=acc++(WN (k+1) its).flatten:=by
   rw[U9,VS,W3]
  rw[<- e2,<- foldl_rep its k (acc++its),<- e,U9,VL]
section
variable {X:Cx}{bQ:List (Addr×Obj)}{σ:St}{H:Hp}{s:X7}{l b:Addr}{xs ys zs:AE}
def Inv.lset {its its':List X8}{n:Nat}{f:Array X8->Array X8}{t':Nat}(I:Inv X bQ σ H s)(hH:H l=some (.lst xs))
  (e:s.heap.get? l=some { cls:=.type "list",data:=.seq its.toArray n }) (hf:f its.toArray=its'.toArray) (hv:Vals ys its') (hz:ys.length<=Xq) :
  Inv X bQ σ (upd H l (.lst ys)) { s with heap:=s.heap.update l (Vc f),toks:=t' }:=by
 have q:=PySem.IsL.update e f;rw[hf] at q;refine I.write (x:=l) (e:=l) (by rw[hH];exact trivial) (.inl rfl) (λb' u hb hu=>(VG s.heap (Vc f) (Vr hb)).trans hu) ⟨_,q⟩ ?_;exact⟨hz,its',_,hv,q⟩
def Inv.lnew {its:List X8}{t':Nat}(I:Inv X bQ σ H s)(hv:Vals ys its)(hz:ys.length<=Xq) :
  Inv X bQ σ (upd H s.heap.objs.size (.lst ys)) { s with heap:=s.heap.push { cls:=.type "list",data:=.seq its.toArray },toks:=t' } :=
 I.laid (λ_ _ q=>XY _ q) (XV _) ⟨hz,its,0,hv,W5 _ rfl⟩
theorem Inv.fresh (I:Inv X bQ σ H s):H s.heap.objs.size=none:=I.hok.fresh (XV _)
def Inv.lstM (I:Inv X bQ σ H s)(hH:H l=some (.lst xs)):xs.length<=Xq/\∃(its:List X8) (n:Nat),Vals xs its/\xs.length=its.length/\s.heap.get? l=some { cls:=.type "list",data:=.seq its.toArray n }:=by
 obtain⟨z,its,n,r,e⟩:=I.hok l _ hH;exact⟨z,its,n,r,r.length,e⟩
def zeY {n:Nat}(h:n<=Xq):UB n=false:=by
 unfold UB;exact bg (by lia)
end
section
variable {X:Cx}
def zmi:V->AE->Hp->VK->Prop:=λx vs H Q=>∃l xs y,x=.ref l/\vs=[y]/\H l=some (.lst xs)/\xs.length<Xq/\Q .non (upd H l (.lst (xs++[y])))
def Yy:MtM X "list.append" zmi:=by
 intro bQ s σ H x vs v us Q I rx rv h;obtain⟨l,xs,y,rfl,rfl,hH,hz,q⟩:=h;cases rx;obtain⟨u,rfl,ru⟩:=rv.one;obtain⟨z,its,n,r,hl,e⟩:=I.lstM hH;refine R9 F.slot_list_append ⟨_,e,rfl⟩ F.entry_list_append (F.args_list_append_2 _ _) (PySem.list_append l its.toArray n u (by rw[Xx];lia)) ⟨e,?_⟩;refine⟨.non,_,I.lset (its':=its++[u]) hH e (by simp) (r.append (.cons ru .nil)) ?_,rfl,q⟩;rw[X0,PK];lia
def zmj:V->AE->Hp->VK->Prop:=λx vs H Q=>∃l b xs zs,x=.ref l/\vs=[.ref b]/\H l=some (.lst xs)/\H b=some (.lst zs)/\xs.length+zs.length<=Xq/\Q .non (upd H l (.lst (xs++zs)))
def Yz:MtM X "list.extend" zmj:=by
 intro bQ s σ H x vs v us Q I rx rv h;obtain⟨l,b,xs,zs,rfl,rfl,hH,hB,hz,q⟩:=h;cases rx;obtain⟨u,rfl,ru⟩:=rv.one;cases ru;obtain⟨z,its,n,r,hl,e⟩:=I.lstM hH;obtain⟨z2,its2,n2,r2,hl2,e2⟩:=I.lstM hB;have hsz:its.toArray.size+its2.toArray.size<=Xq:=by rw[Xx,Xx];lia
 have hlong:¬ (!its.toArray.isEmpty&&UB (its.toArray.size+its2.toArray.size))=true:=by
  rw[zeY hsz,R7];exact XT
 refine R9 F.slot_list_extend ⟨_,e,rfl⟩ F.entry_list_extend (F.args_list_extend_2 _ _)
  (AutoSeq1.list_extend_list_list_0 l its.toArray n b its2.toArray n2 hlong (by rw[Xx];lia) (by lia)) ⟨e,e2,?_⟩
 refine⟨.non,_,I.lset (its':=its++its2) hH e (by simp) (r.append r2) ?_,rfl,q⟩;rw[X0];lia
def zoG:V->AE->Hp->VK->Prop:=λx vs H Q=>∃l xs i k y,x=.ref l/\vs=[.int i]/\H l=some (.lst xs)/\-(2^63)<=i/\i<2^63/\seqIndex? i xs.length=some k/\xs[k]?=some y/\Q y (upd H l (.lst (xs.eraseIdx k)))
def zjV:MtM X "list.pop" zoG:=by
 intro bQ s σ H x vs v us Q I rx rv h;obtain⟨l,xs,i,k,y,rfl,rfl,hH,h1,h2,hk,hy,q⟩:=h;cases rx;obtain⟨u,rfl,ru⟩:=rv.one;obtain⟨t,rfl⟩:=ru;obtain⟨z,its,n,r,hl,e⟩:=I.lstM hH;obtain⟨w,hw,rw'⟩:=r.get hy;refine R9 F.slot_list_pop ⟨_,e,rfl⟩ F.entry_list_pop (F.args_list_pop_2 _ _)
  (MeetsSeq.list_pop_at l its.toArray n i t k w (fitsIndex_both h1 h2) (by rw[Xx,<- hl];exact hk) (by rw[<- XB];exact hw) (by rw[Xx];lia)) ⟨e,?_⟩
 refine⟨y,_,I.lset (its':=its.eraseIdx k) hH e ?_ (r.eraseIdx k) ?_,rw',q⟩
 .show its.toArray.eraseIdxIfInBounds k=(its.eraseIdx k).toArray;rw[List.eraseIdxIfInBounds_toArray]
 .have:=zdk xs k;lia
def zqX:R2:=λx y H Q=>∃l b xs zs,x=.ref l/\y=.ref b/\H l=some (.lst xs)/\H b=some (.lst zs)/\xs.length+zs.length<=Xq/\∀p,H p=none->Q (.ref p) (upd H p (.lst (xs++zs)))
def Zo:OpR X (UJ .Add) zqX:=by
 intro bQ s σ H x y v u Q I rx ry h;obtain⟨l,b,xs,zs,rfl,rfl,hH,hB,hz,q⟩:=h;cases rx;cases ry;obtain⟨z,its,n,r,hl,e⟩:=I.lstM hH;obtain⟨z2,its2,n2,r2,hl2,e2⟩:=I.lstM hB;refine PySem.P.add_list e e2 ?_ (by rw[Xx,Xx];lia);have ea:its.toArray++its2.toArray=(its++its2).toArray:=by simp
 rw[ea];exact⟨.ref _,_,I.lnew (t':=s.toks) (r.append r2) (by rw[X0];lia),rfl,q _ I.fresh⟩
def zqY:R2:=λx y H Q=>∃l k xs,x=.ref l/\y=.int k/\H l=some (.lst xs)/\-(2^63)<=k/\k<2^63/\xs.length*k.toNat<=Xq /\
 ∀p,H p=none->Q (.ref p) (upd H p (.lst (WN k.toNat xs).flatten))
def len_rep {α:Type}(xs:List α)(k:Nat):(WN k xs).flatten.length=k*xs.length:=by
 induction k with
 | zero=>simp
 | succ k ih=>rw[U9,VS,X0,ih,Nat.succ_mul,Nat.add_comm]
def zjW:OpR X (UJ .Mult) zqY:=by
 intro bQ s σ H x y v u Q I rx ry h;obtain⟨l,k,xs,rfl,rfl,hH,h1,h2,hz,q⟩:=h;cases rx;obtain⟨t,rfl⟩:=ry;obtain⟨z,its,n,r,hl,e⟩:=I.lstM hH;have hlen:its.toArray.size*k.toNat<=Xq:=by rw[Xx,<- hl];exact hz
 have hcap:¬ its.toArray.size*k.toNat>(2^63-1)/8:=by
  have:(Xq:Nat)<=(2^63-1)/8:=by decide
  lia
 have hfit:¬ (!Builtin.List.listFitsIndex k)=true:=by
  rw[fitsIndex_both h1 h2];exact XT
 have hlong:¬ UB (its.toArray.size*k.toNat)=true:=by
  rw[zeY hlen];exact XT
 have hnew:List.foldl (λx1 x2=>x1++x2) #[] (WN (if its.toArray.isEmpty=true then 0 else k.toNat) its.toArray)=(WN k.toNat its).flatten.toArray:=by
  have f0:∀m:Nat,List.foldl (λx1 x2=>x1++x2) #[] (WN m its.toArray)=(WN m its).flatten.toArray:=λm=>by
   have:=foldl_rep its m [];rw[List.nil_append] at this;exact this
  rw[f0];cases its with
  | nil=>simp
  | cons a r'=>rw[bw (by simp)]
 refine wpAny_binaryOp_repeat_ref (T:="list") (U:="int") (by decide) ⟨_,e,rfl⟩ (λs'=>typeIs_int s' k t) noFill_list_mul F.fills_int_mul F.slot_int_rmul repeat_list F.slot_int_index.lookup
  (R9 F.slot_int_rmul (typeIs_int s k t) F.entry_int_rmul (F.args_int_rmul_2 _ _) (int___rmul___int_list k t l its.toArray n)
   ⟨e,rfl,⟨_,e,rfl⟩,R9 F.slot_list_mul ⟨_,e,rfl⟩ F.entry_list_mul (F.args_list_mul_2 _ _) (AutoListH.list___mul___list_int_3 l its.toArray n k t hfit hcap hlong) ⟨e,?_⟩⟩)
 rw[hnew];exact⟨.ref _,_,I.lnew (t':=s.toks) (r.rep k.toNat) (by rw[len_rep,Nat.mul_comm];exact hz),rfl,q _ I.fresh⟩
end
end L2
namespace Att
open PySem PySem.W PySem.Calls PyProof.Rows
def za5 {P:Params}{h:Heap}:∀(ns:List Int) (vs:List X8),WellAll P h vs (ns.map WData.int)->Pa vs ns:=by
 intro ns;induction ns with
 | nil =>
  intro vs w;rw[Qb] at w;cases w;exact .nil
 | cons n ns ih =>
  intro vs w;rw[Xu] at w;cases w with
  | cons a b =>
   cases a;exact .cons _ _ (ih _ b)
def ziF {l:OpenLaw}{n:Nat}(hn:l.most=some n){P:Params}{h:Heap}{args:List WData}{vals:List X8}
  (hpre:l.row.toRowW.claim.pre args=true) (hwl:WellAll P h vals args) :
  ∃a vs ns,vals=[WA a]/\args=[WData.list (ns.map WData.int)]/\h.get? a=some { cls:=.type "list",data:=.seq vs.toArray }/\Pa vs ns/\ns.length<=n:=by
 have hsh:WShape.hasAll [] args [.list .int]=true:=(pre_splitW hpre).1;have hc:l.pre.holds [] { args:=args }=true:=(pre_splitW hpre).2;obtain⟨d,r,rfl,h1,h2⟩:=hasAllW_cons hsh;obtain rfl:=hasAllW_nil h2;obtain⟨xs,rfl,h3⟩:=hasW_list h1;obtain⟨ns,rfl⟩:=items_int h3;have hlen:ns.length<=n:=by
  unfold OpenLaw.pre at hc;have h4:(WTm.not (.lt (.lit (.int (n:Int))) (.len (.arg 0)))).holds [] { args:=[.list (ns.map .int)] }=true:=by
   have h4:=(holds_andW hc).1;rw[hn] at h4;exact h4
  have h5:=condW_of h4 (w_not (w_lt w_lit (w_len_list (w_arg rfl))));rw[Y1] at h5;refine Nat.le_of_not_lt λq=>?_;have q':(n:Int)<((ns.length:Nat):Int):=by lia
  first
   | (rw[bu q'] at h5;exact absurd h5 (by decide))
   | (simp at h5;lia)
 cases hwl with
 | cons w1 w2 =>
  cases w2;cases w1 with
  | list ho hall=>exact⟨_,_,ns,rfl,rfl,ho,za5 ns _ hall,hlen⟩
def ziG (l:OpenLaw)(args:List WData):l.row.toRowW.claim.post args (.bool true) args=true :=
 postW_of (r:=l.row.toRowW) (X:=(true==true))
  (show WShape.has [] (.bool true) .bool=true by first | rfl | decide | simp[WShape.has,WShape.arms,WShape.armsAll])
  (show (WTm.eq .res (.lit (.bool true))).value [] { args:=args,res:=some (.bool true),after:=args }=some (.bool (true==true)) from w_eq_bool (w_res rfl) w_lit) rfl
def zeZ {l:OpenLaw}{n:Nat}{q:Xm}{loose:AD}{XP:(Str->Option X8)->Heap->Prop}{YP:WZ->Heap->Prop}{d:DefRec}
  (hn:l.most=some n) (hdf:d.params.defaults=[])
  (call:∀(w:WZ) (s₀ s₁:X7) (mg mb:Str->Option X8) (fa:Addr) (o:Obj) (pm cd doc:X8) (a:Addr) (vs:List X8) (ns:List Int),
   Ground q loose [] XP w s₀ mg mb s₁.heap->YP w s₁.heap ->
   s₁.heap.get? fa=some o->o.data=.func (docDef d.name d.params d.body d.scope pm cd doc)->s₁.heap.CodeRec cd d.name->mg d.name=some (.ref fa) ->
   s₁.heap.get? a=some { cls:=.type "list",data:=.seq vs.toArray }->Pa vs ns->ns.length<=n->s₁.gens=#[] ->
   T8 (Xn l.prog w) O9 (.call (.ref fa) ⟨[.ref a],[]⟩) (λr s'=>r=.ok (.ret (.bool true))/\OldK s₁.heap s'.heap/\s'.os=s₁.os/\Te s'.gens) s₁) :
  WalkO q loose XP YP l.row.toRowW d [] (λf vs=>PySem.call f vs):=by
 intro w s₀ s₁ mg mb G Y fa o pm cd doc dV kV ho hd hcd hD hmg hg args vals as hpre hlay hrd hwl hlo;obtain rfl:dV=.none:=Dflts.none hD hdf;obtain rfl:kV=.none:=Dflts.noKw hD;obtain⟨a,vs,ns,rfl,rfl,hobj,hints,hlen⟩:=ziF hn hpre hwl;refine enter_call (TN (call w s₀ s₁ mg mb fa o pm cd doc a vs ns G Y ho (fd_plain hd) hcd hmg hobj hints hlen hg) λr s' hq=>?_);obtain⟨rfl,h2,h3,h4⟩:=hq;exact⟨.inl ⟨.bool true,.bool true,[],rfl,λ_=>rfl,.bool true,ziG l _,λ_=>⟨List.Pairwise.nil,λ_ hm=>(nomatch hm)⟩⟩,h2,h3,h4⟩
end Att
namespace L2
open PySem PySem.Spec PyProof.Rows
theorem zdl:∀{vs:List X8} {ns:List Int},Pa vs ns->Vals (ns.map V.int) vs
 | _,_,.nil=>.nil
 | _,_,.cons n t h=>.cons ⟨t,rfl⟩ (zdl h)
def zoH (H:Hp):Prop:=∀b,H b=none\/∃o xs,H b=some (.frz o (.lst xs))
def zjX {P:Xm}{w:WZ}{K:XW}{mg mb:Str->Option X8}{CX:CXT}{k:Nat}{fa a:Addr}{fd:XD}{x:Str}{sp:Sp}{s₁:X7}{vs:List X8}{ns:List Int}
  (KX:K.In s₁.heap) (hns:s₁.heap.Ns XO mg) (hb:s₁.heap.Ns OU mb) (hbb:∀x:Str,x ≠ "__name__"->mb x=U4 x) (hlim:s₁.heap.NoLimit) (hg:s₁.gens=#[])
  (ha:s₁.heap.get? a=some { cls:=.type "list",data:=.seq vs.toArray }) (hi:Pa vs ns) (hl:ns.length<=Xq) (hr:Jx k O9)
  (F:∀base:Heap,K.In base->base.Ns XO mg->qa P w K mg base CX k fa fd [x] sp) (hbind:∀(s:X7) (u:X8),OM s fd ⟨[u],[]⟩ [(x,u)])
  (hsp:∀H:Hp,zoH H->SqL K H a (ns.map V.int)->sp [.ref a] H (λv _=>v=.bl true) λ_ _ _=>False)
  (hCX:∀H e s',CX [] H s₁ (λ_ _ _=>False) e s'->False) :
  T8 (Xn P w) O9 (.call (.ref fa) ⟨[.ref a],[]⟩) (λr s'=>r=.ok (.ret (.bool true))/\OldK s₁.heap s'.heap/\s'.os=s₁.os/\Te s'.gens) s₁:=by
 have rv:=zdl hi;have lenV:=hi.length;have core:∀H:Hp,zoH H->SqL K H a (ns.map V.int)->HOk P w H s₁.heap->(∀b,H b≠none->b=a)->(H a≠none->K.lookup a=none) ->
   T8 (Xn P w) O9 (.call (.ref fa) ⟨[.ref a],[]⟩) (λr s'=>r=.ok (.ret (.bool true))/\OldK s₁.heap s'.heap/\s'.os=s₁.os/\Te s'.gens) s₁:=by
  intro H hO hS hok hA hK;have base_of:∀{b:Addr} {o:Obj},s₁.heap.get? b=some o->H b=none->(zd1 s₁.heap H).get? b=some o:=λe n=>zjK e n;have noA:∀{b:Addr} {o:Obj} {es:Array Rv} {ep:Nat},s₁.heap.get? b=some o->o.data=.dict es ep->H b=none:=λ{b o es ep} e d=>by
   cases q:H b with
   | none=>rfl
   | some u =>
    have e':b=a:=hA b (by rw[q];simp);subst e';rw[ha] at e;cases e;have d':Data.seq vs.toArray _=Data.dict es ep:=d;cases d'
  have nsK:∀{b:Addr} {m:Str->Option X8},s₁.heap.Ns b m->(zd1 s₁.heap H).Ns b m:=λ{b m} ⟨o,es,ep,e,d,r⟩=>⟨o,es,ep,base_of e (noA e d),d,r⟩;have hKb:K.In (zd1 s₁.heap H):=λb o e=>base_of (KX b o e) (by
   cases q:H b with
   | none=>rfl
   | some u =>
    have e':b=a:=hA b (by rw[q];simp);subst e';rw[hK (by rw[q];simp)] at e;cases e)
  have hM:Mod K mg (zd1 s₁.heap H):=⟨hKb,nsK hns,⟨mb,nsK hb,hbb⟩,let ⟨mc,h1,h2⟩:=hlim;⟨mc,nsK h1,h2⟩⟩;have e0:zmb P w K mg (zd1 s₁.heap H) O9 [] s₁ H:=⟨rfl,hM,λb o e=>zl7 e,Nat.le_of_eq (ziy _ _),trivial,λb hb=>absurd (show b∈([]:List Addr) from hb) (by simp),hok,.of_eq hg⟩;refine TN ((F _ hKb (nsK hns)).run O9 [] s₁ H ⟨[.ref a],[]⟩ [.ref a] [.ref a] _ _ hr e0 (hbind s₁ (.ref a)) (.cons rfl .nil) (hsp H hO hS)) λr s' h=>?_;cases r with
  | error e=>exact(hCX H e s' h).elim
  | ok fl =>
   cases fl with
   | next=>exact Vn h
   | brk=>exact Vn h
   | cont=>exact Vn h
   | ret u =>
    obtain⟨v,H',os,bare,un,hok',r',q⟩:=h;have q':v=.bl true:=q;subst q';obtain rfl:u=Value.bool true:=r';refine⟨rfl,OldK.of_keep λb o e=>?_,os,bare⟩;cases q:H b with
    | none=>exact un.keep b o e q (by intro z;exact absurd (show b∈([]:List Addr) from z) (by simp)) (by simp)
    | some u =>
     rcases hO b with z | ⟨ob,xs,z⟩
     .rw[q] at z;cases z
     .have z2:=un.frzs b ob _ z;obtain⟨e1,_⟩:=hok b _ z;obtain⟨e2,_⟩:=hok' b _ z2;rw[e] at e1;cases e1;exact e2
 cases hk:K.lookup a with
 | some o =>
  have e:=KX a o hk;rw[ha] at e;cases e;refine core (λ_=>none) (λ_=>.inl rfl) (.inr ⟨_,vs.toArray,_,hk,rfl,rfl,rfl,by rw[Xx,lenV];exact hl,by simpa using rv⟩) (λb u z=>by have z':(none:Option HO)=some u:=z;cases z') (λb z=>absurd rfl z) λz=>absurd rfl z
 | none =>
  refine core (λb=>if b=a then some (.frz { cls:=.type "list",data:=.seq vs.toArray } (.lst (ns.map V.int))) else none) (λb=>?_) (.inl (.inr ⟨{ cls:=.type "list",data:=.seq vs.toArray },br rfl⟩)) (λb u z=>?_) (λb z=>?_) λ_=>hk
  .by_cases hb:b=a
   .exact .inr ⟨_,_,br hb⟩
   .exact .inl (bw hb)
  .by_cases hb:b=a
   .have z':=(br hb).symm.trans z;cases z';subst hb;exact⟨ha,by rw[Y1];exact hl,vs,_,rv,ha⟩
   .have z':=(bw hb).symm.trans z;cases z'
  .by_cases hb:b=a
   .exact hb
   .exact absurd (bw hb) z
def zhy {l:PP}{n k:Nat}{q:Xm}{loose:AD}{XP:(Str->Option X8)->Heap->Prop}{YP:WZ->Heap->Prop}{d:DefRec}{K:Params->XW}{CX:WZ->CXT}{sp:WZ->Sp}{x:Str}
  (hn:l.most=some n) (hn2:n<=Xq) (hdf:d.params.defaults=[]) (hr:Jx k O9)
  (hY:∀(w:WZ) (h:Heap),YP w h->(K w.params).In h)
  (F:∀(w:WZ) (mg:Str->Option X8) (fa:Addr) (h:Heap),(K w.params).In h->h.Ns XO mg->mg d.name=some (.ref fa) ->
   ∃fd:XD,(∀(s:X7) (u:X8),OM s fd ⟨[u],[]⟩ [(x,u)]) /\
    ∀base:Heap,(K w.params).In base->base.Ns XO mg->qa l.prog w (K w.params) mg base (CX w) k fa fd [x] (sp w))
  (hsp:∀(w:WZ) (H:Hp) (a:Addr) (ns:List Int),ns.length<=n->zoH H->SqL (K w.params) H a (ns.map V.int)->sp w [.ref a] H (λv _=>v=.bl true) λ_ _ _=>False)
  (hCX:∀(w:WZ) (H:Hp) (s:X7) (e:X8) (s':X7),CX w [] H s (λ_ _ _=>False) e s'->False) :
  O0 q loose XP YP l.row.toRowW d [] (λf vs=>PySem.call f vs):=by
 refine Att.zeZ hn hdf λw s₀ s₁ mg mb fa o pm cd doc a vs ns G Y ho hd hcd hmg hobj hints hlen hg=>?_;have KX:=hY w _ Y;obtain⟨fd,hb,hF⟩:=F w mg fa _ KX G.T.g hmg;exact zjX KX G.T.g G.T.b G.T.builtins G.T.nolimit hg hobj hints (XZ hlen hn2) hr hF hb (λH hO hS=>hsp w H a ns hlen hO hS) λH e s'=>hCX w H s₁ e s'
end L2
/- THE LAST THEOREM (shape;LID,My.* are yours):
   My.Adr: a structure of the addresses that your layer names (classes,functions);My.Txt K t: a structure (Prop) of the equations over K;
   My.txt_mk:{K} {implicit addresses ..} (e1:nsIn K XO "law"=some (some (.ref f))) (e2:K.lookup f=some ⟨oc,od,.func (fnOf "law" "law" params body scope dV kV doc pm an cdv ct),sl⟩) (e3:codeIn K cdv "law"=true) ..:∃t,My.Txt K t
set_option maxRecDepth 100000 in
set_option maxHeartbeats 0 in
theorem PySem.Challenge.cw_LID_holds : PySem.Challenge.rw_LID.Holds := by
 w_on;o_law;k_head;(case hw=>w_witness2);k_fill;refine L2.zhy (l:=PySem.Challenge.rw_LID) (n:=63) (k:=40) (x:="script") (CX:=λw=>..) (sp:=λ_=>My.zqZ) rfl (by decide) rfl ⟨rfl,by decide,by decide⟩ (λw h Y=>PySem.W.kIn_of Y) ?F ?S ?C
 case F =>
  intro w mg fa h KX G hmg
  have T:∃t,My.Txt (L2.KOf KX) t:=by
   dsimp only[L2.KOf]                          -- K must stand as «<heap const> w.params» for k_is;refine' My.txt_mk ?e1 ?e2 ?e3 ..;(case e1=>PySem.W.k_is)                    -- in the order: a name->its address->its object->its parts;(case e2=>PySem.W.k_is);..
  obtain⟨t,T⟩:=T
  have e0:=hmg.symm.trans (Wp KX G T.law)
  cases e0                                       -- fa is the law's own address
  exact⟨_,λs u=>.of_eq rfl,λbase kb nb=>My.law_fn T kb nb⟩     -- if «.of_eq rfl» comes too early: refine' ⟨_,?b,λbase kb nb=>My.law_fn T kb nb⟩;exact λs u=>.of_eq rfl
 case S=>exact λw H a ns hl hO hS=>..
 case C=>exact ..
(the tactic k_is has no namespace: write k_is) -/
namespace L2
open PySem PySem.Spec PyProof.Rows
def Jz (s:Stmt):Arguments:=match s with
 | .FunctionDef _ a _ _ _ _ _ _ _ _=>a
 | _=>{ posonlyargs:=[],args:=[],vararg:=none,kwonlyargs:=[],kw_defaults:=[],kwarg:=none,defaults:=[] }
def yK (s:Stmt):List Stmt:=match s with
 | .FunctionDef _ _ b _ _ _ _ _ _ _=>b
 | _=>[]
def zp (s:Stmt):Vi:=match s with
 | .FunctionDef _ _ _ _ _ _ sc _ _ _=>sc
 | _=>{ kind:=.function,names:=[],isGenerator:=false,isCoroutine:=false }
abbrev CX0:CXT:=λ_ _ _ _ _ _=>False
abbrev E0:XK:=λ_ _ _=>False
def zp4 {X:Cx}:Passes CX0 X E0:=λ_ _ _ _ _ _ _ h=>h.elim
structure Fun (K:XW)(x qual:Str)(st:Stmt)(f:Addr)(fd:XD):Prop where
 ex:∃(oc:X8) (od:Option Addr) (kV doc pm:X8) (an:Option Addr) (cdv ct:X8) (osl:Array (Option X8)),
  fd=UI x qual (Jz st) (yK st) (zp st) .none kV doc pm an cdv ct/\K.lookup f=some ⟨oc,od,.func fd,osl⟩/\Ta K cdv qual=true
 kp:TZ K (.ref f)=true
section
variable {P:Xm}{w:WZ}{K:XW}{mg:Str->Option X8}{base:Heap}
theorem cxK {CX P w K mg base N q sc f cd A o s H E}:(zeV CX P w K mg base N q sc f cd A o s H E).K=K:=rfl
theorem cxP {CX P w K mg base N q sc f cd A o s H E}:(zeV CX P w K mg base N q sc f cd A o s H E).prog=P:=rfl
theorem cxW {CX P w K mg base N q sc f cd A o s H E}:(zeV CX P w K mg base N q sc f cd A o s H E).w=w:=rfl
def Fun.ok {x qual:Str}{st:Stmt}{f:Addr}{fd:XD}{N ps:AD}{k:Nat}{sp:Sp}(F:Fun K x qual st f fd)(S:zB N ps (zp st))(len:∀vs H Q E,sp vs H Q E->vs.length=ps.length)
  (hbody:∀(cdv:X8) (A:WR) (outer:List Env) (s:X7) (H:Hp) (vs:AE) (Q:VK) (E:XK),Jx k (A.deeper (Ra qual (zp st) s.heap.objs.size f cdv))->sp vs H Q E ->
   ∃t,PSs (zeV CX0 P w K mg base N qual (zp st) f cdv A outer s H E).nox (yK st) t/\t { nx:=λ_ H'=>Q .non H',rt:=Q } (start N vs) H):qa P w K mg base CX0 (k+1) f fd ps sp:=by
 obtain⟨oc,od,kV,doc,pm,an,cdv,ct,osl,rfl,lk,hcd⟩:=F.ex;refine znK lk hcd S len λA outer s H vs Q E hr hsp=>?_;obtain⟨t,h,q⟩:=hbody cdv A outer s H vs Q E hr hsp;exact⟨t,h.nox,q⟩
def Fun.binds {x qual:Str}{st:Stmt}{f:Addr}{fd:XD}{ps:AD}(F:Fun K x qual st f fd)
  (h:∀(kV doc pm:X8) (an:Option Addr) (cdv ct:X8) (us:List X8),us.length=ps.length->bindArgs (UI x qual (Jz st) (yK st) (zp st) .none kV doc pm an cdv ct) ⟨us,[]⟩=pure (ps.zip us)):Binds K fd ps []:=by
 obtain⟨oc,od,kV,doc,pm,an,cdv,ct,osl,rfl,lk,hcd⟩:=F.ex;exact .all (h kV doc pm an cdv ct)
def zjY {x qual:Str}{st:Stmt}{f:Addr}{oc:X8}{od an:Option Addr}{osl:Array (Option X8)}{kV doc pm cdv ct:X8}(l:K.lookup f=some ⟨oc,od,.func (UI x qual (Jz st) (yK st) (zp st) .none kV doc pm an cdv ct),osl⟩)
  (c:Ta K cdv qual=true) (k:TZ K (.ref f)=true):Fun K x qual st f (UI x qual (Jz st) (yK st) (zp st) .none kV doc pm an cdv ct):=⟨⟨oc,od,kV,doc,pm,an,cdv,ct,osl,rfl,l,c⟩,k⟩
end
section
variable {X:Cx}
def pv (i:Nat){x:Str}{pos:Pos}(hN:X.N[i]?=some x:=by rfl)(hv:Vis X.env.scope x:=by first | exact Vz rfl | exact QR (Vz rfl) | exact QR (QR rfl))(hd:(x==("__debug__":Str))=false:=by decide)
  (hcd:(x==("__classdict__":Str))=false:=by decide):PE X (.Name x pos) (zpM i):=zol hN hv hd hcd
end
def zcP {A B:Prop}(h:B):if false=true then A else B:=by
 rw[bw XT];exact h
def za6 {A B:Prop}(h:A):if true=true then A else B:=by
 rw[br rfl];exact h
def zmk {c A B:Prop} [Decidable c](h1:c->A)(h2:¬ c->B):if c then A else B:=by
 by_cases h:c
 .rw[br h];exact h1 h
 .rw[bw h];exact h2 h
def zo (H H':Hp):Prop:=∀b o,H b=some o->H' b=some o
def zo.refl (H:Hp):zo H H:=λ_ _ h=>h
def zo.trans {H H1 H2:Hp}(a:zo H H1)(b:zo H1 H2):zo H H2:=λc o h=>b c o (a c o h)
def zo.free {H H':Hp}(e:zo H H'){l:Addr}(h:H' l=Option.none):H l=Option.none:=by
 cases q:H l with
 | none=>rfl
 | some o =>
  rw[e l o q] at h;cases h
def zo.seq {K:XW}{H H':Hp}{a:Addr}{xs:AE}(e:zo H H')(h:SqL K H a xs):SqL K H' a xs:=by
 rcases h with (h | ⟨o,h⟩) | h
 .exact .inl (.inl (e _ _ h))
 .exact .inl (.inr ⟨o,e _ _ h⟩)
 .exact .inr h
end L2
set_option maxHeartbeats 4000000
namespace L2
open PySem PySem.Spec PyProof.Rows
section
variable {X:Cx}
def zbj:OpR X (UJ .Mult) (rI Ou λi j=>.int (i*j)):=opI λ_ _ _ _ _ _ _ hc q=>mul_int q hc
def zaK (_ j:Int):Prop:=0<j/\j.natAbs.log2<9000
def zjZ:OpR X (UJ .FloorDiv) (rI zaK λi j=>.int (i/j)):=opI λi j _ _ _ _ _ hc q=>by
 have h1:(0:Int)<j:=hc.1;exact floordiv_int (by lia) (by rw[RW i (by lia)];exact q) (.inl (PyProof.noPylong_of_log2 hc.2))
def zaK.small {i j:Int}(h:0<j)(h':j<1073741824):zaK i j:=by
 refine⟨h,?_⟩;have h0:j.natAbs≠0:=by lia
 have:j.natAbs.log2<30:=(Nat.log2_lt h0).mpr (by lia);lia
def zq0 {i j:Int}(h1:-(2^64)<j)(h2:j<2^64):Ou i j:=IntMulOk.of_right (intBits_le_64 h1 h2)
def mulL {i j:Int}(h1:-(2^64)<i)(h2:i<2^64):Ou i j:=IntMulOk.of_left (intBits_le_64 h1 h2)
def zp5 {i j:Int}(h1:i.natAbs<2^8000)(h2:j.natAbs<2^8000):Ou i j:=IntMulOk.of_le (m:=8000) (n:=8000) (intBits_le_iff.mpr h1) (intBits_le_iff.mpr h2) (by decide)
end
def ju {b:Bool}{A B:Prop}(e:b=true)(h:A):if b=true then A else B:=by
 rw[br e];exact h
def jd {b:Bool}{A B:Prop}(e:b=false)(h:B):if b=true then A else B:=by
 subst e;exact zcP h
structure zm (K:XW)(mg:Str->Option X8)(x:Str)(st:Stmt)(ps:AD)(f:Addr)(fd:XD):Prop where
 F:Fun K x x st f fd
 g:mg x=some (.ref f)
 b:Binds K fd ps []
def zgo {α:Type}{xs:List α}{i:Int}{v:α}(h:0<=i)(e:xs[i.toNat]?=some v):atI xs i=some v:=by
 have:=qK e;rwa [Sl h] at this
def zq1 (t u:TS):TS:=λD σ H=>∃M:St->Hp->Prop,t { D with nx:=M } σ H/\∀ σ' H',M σ' H'->u D σ' H'
def QH {X:Cx}{st:Stmt}{rest:List Stmt}{t u:TS}(h1:PS X st t)(h2:PSs X rest u):PSs X (st::rest) (zq1 t u):=by
 intro bQ s σ H D I h;obtain⟨M,h3,h4⟩:=h;refine SL (thn (h1 bQ s σ H _ I h3) λf s1 q=>?_);cases f with
 | next =>
  obtain⟨σ1,H1,I1,q1⟩:=q;exact h2 bQ s1 σ1 H1 D I1 (h4 σ1 H1 q1)
 | brk=>exact q
 | cont=>exact q
 | ret v=>exact q
def zc {H:Hp}{l:Addr}{o:HO}(h:H l=none):zo H (upd H l o):=λb u e=>by rw[zf (zg e h)];exact e
mutual
inductive Rdv (K:XW)(H:Hp):V->V7->Prop
 | non:Rdv K H .non .none
 | bl (b:Bool):Rdv K H (.bl b) (.bool b)
 | int (i:Int):Rdv K H (.int i) (.int i)
 | str (x:Str):Rdv K H (.str x) (.str x)
 | lst {a:Addr} {xs:AE} {ds:List V7}:SqL K H a xs->JQ K H xs ds->Rdv K H (.ref a) (.list ds)
 | tup {a:Addr} {xs:AE} {ds:List V7}:SqT K H a xs->JQ K H xs ds->Rdv K H (.ref a) (.tuple ds)
inductive JQ (K:XW)(H:Hp):AE->List V7->Prop
 | nil:JQ K H [] []
 | cons {x:V} {d:V7} {xs:AE} {ds:List V7}:Rdv K H x d->JQ K H xs ds->JQ K H (x::xs) (d::ds)
end
section
variable {X:Cx}{bQ:List (Addr×Obj)}{σ:St}{H:Hp}{s:X7}
def ziH {a:Addr}{xs:AE}{ds:List V7}(I:Inv X bQ σ H s)(hq:SqL X.K H a xs)(h:∀us,Vals xs us->∃as,OJ s.heap us ds as):∀u,RelV (.ref a) u->∃as,Reads s.heap u (.list ds) as:=by
 intro u r;cases r;obtain⟨its,rv,p,hz⟩:=I.list hq;obtain⟨as,ra⟩:=h _ rv;obtain⟨o,ho,hc,n,hd⟩:=p.isList;exact⟨_,.list ho hc hd (by simpa using ra)⟩
def ziI {a:Addr}{xs:AE}{ds:List V7}(I:Inv X bQ σ H s)(hq:SqT X.K H a xs)(h:∀us,Vals xs us->∃as,OJ s.heap us ds as):∀u,RelV (.ref a) u->∃as,Reads s.heap u (.tuple ds) as:=by
 intro u r;cases r;obtain⟨its,rv,p,hz⟩:=I.tuple hq;obtain⟨as,ra⟩:=h _ rv;obtain⟨o,ho,hc,n,hd⟩:=p;exact⟨_,.tuple ho hc hd (by simpa using ra)⟩
def zgp {v:V}{vs:AE}{d:V7}{ds:List V7}(h:∀u,RelV v u->∃as,Reads s.heap u d as)(t:∀us,Vals vs us->∃as,OJ s.heap us ds as):∀us,Vals (v::vs) us->∃as,OJ s.heap us (d::ds) as:=by
 intro us r;cases r with
 | cons r1 r2 =>
  obtain⟨as,ra⟩:=h _ r1;obtain⟨bs,rb⟩:=t _ r2;exact⟨_,.cons ra rb⟩
def Rdv.reads (I:Inv X bQ σ H s){v:V}{d:V7}{u:X8}(h:Rdv X.K H v d):RelV v u->∃as,Reads s.heap u d as :=
 Rdv.rec (motive_1:=λv d _=>∀u,RelV v u->∃as,Reads s.heap u d as) (motive_2:=λvs ds _=>∀us,Vals vs us->∃as,OJ s.heap us ds as)
  (λu r=>by cases r;exact⟨_,.none⟩) (λb u r=>by cases r;exact⟨_,.bool b⟩) (λi u r=>by obtain⟨t,rfl⟩:=r;exact⟨_,.int i t⟩) (λx u r=>by obtain⟨t,rfl⟩:=r;exact⟨_,.str x t⟩)
  (λhq _ h=>ziH I hq h) (λhq _ h=>ziI I hq h) (λus r=>by cases r;exact⟨_,.nil⟩) (λ_ _ h t=>zgp h t) h u
structure zml (x y:V7):Prop where
 l1:x.canLay0=true
 l2:y.canLay0=true
 dp:x.depth<=64
def zmm (K:XW)(neg:Bool):R2:=λx y H Q=>∃dx dy,Rdv K H x dx/\Rdv K H y dy/\zml dx dy/\Q (.bl (if neg then !PyData.eqv dx dy else WL dx dy)) H
def Qi (hu:X.A.units+64<VA):OpR X (Wj .Eq) (zmm X.K false):=by
 intro bQ s σ H x y v u Q I rx ry h;obtain⟨dx,dy,hx,hy,c,q⟩:=h;obtain⟨as,ra⟩:=hx.reads I rx;obtain⟨bs,rb⟩:=hy.reads I ry;have:=c.dp;exact SeqAt.compareEq_reads ra rb c.l1 c.l2 (by lia) ⟨.bl _,H,I,rfl,q⟩
def yC (hu:X.A.units+64<VA):OpR X (Wj .NotEq) (zmm X.K true):=by
 intro bQ s σ H x y v u Q I rx ry h;obtain⟨dx,dy,hx,hy,c,q⟩:=h;obtain⟨as,ra⟩:=hx.reads I rx;obtain⟨bs,rb⟩:=hy.reads I ry;have:=c.dp;exact SeqAt.compareNe_reads ra rb c.l1 c.l2 (by lia) ⟨.bl _,H,I,rfl,q⟩
def zmn (K:XW)(neg:Bool):R2:=λx y H Q=>∃d ds,Rdv K H x d/\Rdv K H y (.list ds)/\d.canLay0=true/\T7 ds=true/\d.depth<=60/\Q (.bl (if neg then !ds.any (λz=>WL z d) else ds.any λz=>WL z d)) H
def zbE (hu:X.A.units+64<VA):OpR X (Wj .In) (zmn X.K false):=by
 intro bQ s σ H x y v u Q I rx ry h;obtain⟨d,ds,hx,hy,c1,c2,c3,q⟩:=h;obtain⟨as,ra⟩:=hx.reads I rx;obtain⟨bs,rb⟩:=hy.reads I ry;exact SeqAt.in_list_reads rb ra c2 c1 (by lia) ⟨.bl _,H,I,rfl,q⟩
def zcQ (hu:X.A.units+64<VA):OpR X (Wj .NotIn) (zmn X.K true):=by
 intro bQ s σ H x y v u Q I rx ry h;obtain⟨d,ds,hx,hy,c1,c2,c3,q⟩:=h;obtain⟨as,ra⟩:=hx.reads I rx;obtain⟨bs,rb⟩:=hy.reads I ry;exact SeqAt.notIn_list_reads rb ra c2 c1 (by lia) ⟨.bl _,H,I,rfl,q⟩
end
def qU (X:Cx)(N:AD)(scope:Vi)(cl:List (Str×Addr))(C:Addr)(fp:List Addr)(bQ:List (Addr×Obj))(s:X7)(H:Hp):Cx where
 prog:=X.prog
 w:=X.w
 K:=X.K
 mg:=X.mg
 base:=X.base
 A:=X.A
 N:=N
 s₀:=s
 H₀:=H
 env:=Sa scope cl C X.env
 outer:=X.stack
 stack:=X.stack
 ex:=fp
 fn:=λ_=>false
 calm:=X.calm
 pn:=X.pn++bQ
 xe:=λ_ _=>False
def pull (src:List (Option Nat))(σ:St):St:=src.map λo=>match o with
 | some j=>(σ[j]?).getD none
 | none=>none
structure jM (X:Cx)(N:AD)(src:List (Option Nat))(scope:Vi)(cl:List (Str×Addr)):Prop where
 kind:scope.kind=.function
 nocell:∀y∈scope.names,y.2 ≠ .cell
 names:∀y∈scope.names,y.2=.local->scope.names.lookup y.1=some .local
 clos:QQ scope X.env=pure cl
 sub:∀x c,cl.lookup x=some c->X.env.cells.lookup x=some c
 has:∀x,((Vl scope X.env).names.lookup x=some .cell\/(Vl scope X.env).names.lookup x=some .free)->∃c,cl.lookup x=some c
 len:src.length=N.length
 pulls:∀(i j:Nat) (x:Str),N[i]?=some x->src[i]?=some (some j)->X.N[j]?=some x/\(X.env.kindOf x=some .cell\/X.env.kindOf x=some .free)/\((Vl scope X.env).names.lookup x=some .cell\/(Vl scope X.env).names.lookup x=some .free)
def zcR {scope:Vi}{env:Env}(nf:∀y∈scope.names,y.2 ≠ .free):(Vl scope env).names=scope.names:=by
 show scope.names.map _=scope.names;refine map_eq_self λx hx=>?_;obtain⟨n,k⟩:=x;have:(k==NameKind.free)=false:=by simpa using nf _ hx
 simp[this]
def jM.plain {X:Cx}{N:AD}{src:List (Option Nat)}{scope:Vi}(kind:scope.kind=.function)(nocell:∀y∈scope.names,y.2 ≠ .cell)(nofree:∀y∈scope.names,y.2 ≠ .free)
  (names:∀y∈scope.names,y.2=.local->scope.names.lookup y.1=some .local) (len:src.length=N.length) (none:∀o∈src,o=none):jM X N src scope [] where
 kind:=kind
 nocell:=nocell
 names:=names
 clos:=closureFor_none nofree
 sub:=λx c h=>nomatch h
 has:=λx h=>by
  rw[zcR nofree] at h;rcases h with h | h
  .exact absurd rfl (nocell _ (Wu h))
  .exact absurd rfl (nofree _ (Wu h))
 len:=len
 pulls:=λi j x _ h=>by
  have:=none _ (X6 h);cases this
def YT (X:Cx)(ifs:List Expr)(t:TT):Prop :=
 ∀(bQ:List (Addr×Obj)) (s:X7) (σ:St) (H:Hp) (Q:Bool->Hp->Prop),Inv X bQ σ H s->t σ H Q ->
  Xk (Xn X.prog X.w) X.A (forIn ifs true λc r=>if r=true then do let ok <- isTrue c X.env (eval c X.env);pure (V2 ok) else pure (V2 r)) (TP X bQ σ Q) X.xe s
def zj0:TT:=λ_ H Q=>Q true H
def qc {X:Cx}:YT X [] zj0:=λ_ _ _ H _ I h=>wpAny_tests_nil ⟨H,I,h⟩
def qq {X:Cx}{c:Expr}{t:TT}(h:PT X c t):YT X [c] t:=λbQ s σ H Q I hq=>wpAny_tests_one (h bQ s σ H Q I hq)
def yk (J:It)(g:TG)(tc:TT)(te:TE)(Q:VK)(D:Addr)(σ0:St)(H0:Hp):Prop :=
 ∃W:Nat->Nat->St->Hp->Prop,(∃m,W 0 m σ0 H0)/\∀i m σ' H',W i m σ' H' ->
  (J.stop i H'/\Q (.ref D) H')\/(J.go i H'/\∃N:St->Hp->Prop,(∀ σ'' H'',N σ'' H''->∃m',m'<m/\W (i+1) m' σ'' H'') /\
   ∀x H2,J.yld i H' x H2->g x σ' H2 fun σ2 H3=>tc σ2 H3 λb H4=>if b=true then te σ2 H4 λy H5=>∃ys,H5 D=some (.lst ys)/\ys.length<Xq/\N σ2 (upd H5 D (.lst (ys++[y]))) else N σ2 H4)
def ZX (wi:TI)(src:List (Option Nat))(g:TG)(tc:TT)(te:TE):TE:=fun σ H Q=>wi σ H λJ H1=>∀D,H1 D=none->yk J g tc te Q D (pull src σ) (upd H1 D (.lst []))
def Un.but {fs ex:List Addr}{H H1:Hp}{h h1 h2:Heap}{C:Addr}(u:Un fs ex H H1 h h1)(hC:h.objs.size<=C)(sb:Wh C h1 h2):Un fs ex H H1 h h2:=by
 have ne:∀b o,h.get? b=some o->b≠C:=λb o e=>Xe (Xs (XE e) hC);refine⟨λb o e n hb hx=>(sb.2 b (ne b o e)).trans (u.keep b o e n hb hx),λb o e n hb hx=>?_,u.free,λb o e hx=>?_,u.tups,u.frzs,u.tbls⟩
 .obtain⟨sl,q⟩:=u.slot b o e n hb hx;exact⟨sl,(sb.2 b (ne b o e)).trans q⟩
 .obtain⟨o',q⟩:=u.there b o e hx;exact⟨o',(sb.2 b (ne b o e)).trans q⟩
def HOk.but {P:Xm}{w:WZ}{H:Hp}{h h':Heap}{C:Addr}(ok:HOk P w H h)(hn:H C=none)(sb:Wh C h h'):HOk P w H h':=λb ob e=>by
 refine(ok b ob e).stay (λc w' hc q=>(sb.2 c ?_).trans q) (λ_ q=>q) λ_ _ q=>q;rintro rfl;rcases hc with rfl | hc
 .rw[hn] at e;cases e
 .rw[hn] at hc;cases hc
section
variable {X:Cx}{tg iter elt:Expr}{ifs:List Expr}{scope:Vi}{pos:Pos}{N:AD}{src:List (Option Nat)}{cl:List (Str×Addr)}{wi:TI}{g:TG}{tc:TT}{te:TE}
def zbF {bQ:List (Addr×Obj)}{σ:St}{H:Hp}{s:X7}{fp:List Addr}{h1:Heap}{C:Addr}{tk:Nat}(ok:jM X N src scope cl)(I:Inv X bQ σ H s)(hf:∀b∈fp,Qh X bQ H b)(ho:∀b∈fp,∃o,s.heap.get? b=some o)
  (hC:C=s.heap.objs.size+1) (k:∀b u,s.heap.get? b=some u->h1.get? b=some u) (hD:h1.get? s.heap.objs.size=some { cls:=.type "list",data:=.seq #[] }) {m:Str->Option X8} (hn:h1.Ns C m) :
  Inv (qU X N scope cl C fp bQ s H) [] (pull src σ) (upd H s.heap.objs.size (.lst [])) { s with heap:=h1,toks:=tk }:=by
 have lt:∀b o,s.heap.get? b=some o->b<s.heap.objs.size:=λb o e=>XE e;have nC:∀b o,s.heap.get? b=some o->b≠C:=λb o e=>by rw[hC];exact Xe (Wl (lt b o e))
 have nD:∀b o,s.heap.get? b=some o->b≠s.heap.objs.size:=λb o e=>Xe (lt b o e);have fr:∀b,s.heap.objs.size<=b->H b=none:=λb hb=>I.hok.fresh hb;have nst:∀b,b≠X.env.locals->b ∉ X.fs->b ∉ frs X.stack:=λb h1 h2 z=>(XG.mp (I.stkSub b z)).elim h1 h2;have sub:=ok.sub;refine⟨⟨I.ok.mod,ok.kind,I.ok.glob,I.ok.blt,by rw[show (qU X N scope cl C fp bQ s H).env.locals=C from rfl,hC];exact VX _,λx y c e1 e2=>I.ok.inj x y c (sub x c e1) (sub y c e2),ok.has,(λx c z _=>nomatch z),I.ok.hd,I.ok.frames,.inl rfl,λb hb=>?_,I.bs,XZ I.ok.bsz I.sz,λb o e hb=>?_,λb hb hz=>?_,I.stack,I.stkFree⟩,
  rfl,I.bare,Un.laid k (XV _) (fr _ (XV _)),⟨m,hn,λi x v e1 e2 e3=>?_⟩,λx c e=>?_,?_,λx c e=>?_,λp hp=>?_,I.hok.laid k (XV _) ⟨WT _,[],0,.nil,hD⟩,?_⟩
 .obtain⟨o,e⟩:=ho b hb;exact⟨nC b o e,λx c z=>(hf b hb).2.2.2.2.1 x c (sub x c z)⟩
 .rcases(hf b hb).2.2.2.1 with z | z
  .exact I.ok.noex b o e z
  .exact absurd (Xs (XE (I.ok.bs b o e).1) z) (VM _)
 .exact nst b (hf b hb).2.1 (hf b hb).2.2.1 hz
 .have hi:i<src.length:=by
   have:=(X5.mp e2).1;unfold pull at this;rw[Y1] at this;exact this
  unfold pull at e2;rw[Xo,XX hi] at e2;cases q:src[i] with
  | none=>rw[q] at e2;cases e2
  | some j =>
   rw[q] at e2;have e2':(σ[j]?).getD none=some v:=Option.some.inj e2;have e4:σ[j]?=some (some v):=by
    cases z:σ[j]? with
    | none=>rw[z] at e2';cases e2'
    | some o=>rw[z] at e2';exact congrArg some e2'
   obtain⟨p1,p2,p3⟩:=ok.pulls i j x e1 (by rw[XX hi,q]);obtain⟨m',hn',hl⟩:=I.loc;obtain⟨u,r,l⟩:=hl j x v p1 e4 (by
    rcases p2 with z | z
    .exact .inr (.inl z)
    .exact .inr (.inr z))
   refine⟨u,r,.inr ⟨p3,?_⟩⟩;obtain⟨c,hc⟩:=ok.has x p3;refine⟨c,hc,?_⟩;rcases l with ⟨z,_⟩ | ⟨_,c',hc',o,ho',hd'⟩
   .rcases p2 with y | y<;>rw[z] at y<;>cases y
   .rw[sub x c hc] at hc';cases hc';exact⟨o,k _ o ho',hd'⟩
 .obtain⟨v,o,e1,e2⟩:=I.cell x c (sub x c e);exact⟨v,o,k c o e1,e2⟩
 .show upd H s.heap.objs.size (.lst []) C=none;rw[hC,zf (U1 _)];exact fr _ (VX _)
 .show upd H s.heap.objs.size (.lst []) c=none;obtain⟨v,o,e1,e2⟩:=I.cell x c (sub x c e);rw[zf (nD c o e1)];exact I.zU x c (sub x c e)
 .have hp':p∈X.pn++bQ:=by
   have:p∈(X.pn++bQ)++[]:=hp;simpa using this
  obtain⟨e1,e2,e3,e4,e5⟩:=I.pin p hp';refine⟨k _ _ e1,?_,nC _ _ e1,nst _ e3 e4,e5⟩;show upd H s.heap.objs.size (.lst []) p.1=none;rw[zf (nD _ _ e1)];exact e2
 .unfold pull;rw[Y1];exact ok.len
def ziJ {Y:Cx}{D it:Addr}{fp:List Addr}{tn:Nat->Heap->Prop}{J:It}{σ0:St}{H0:Hp}{s:X7}{Q:VK}{R:Rb->X7->Prop}(hcalm:Y.calm=true)(hx:∀{x s},Y.xe x s->notedBy (Xn Y.prog Y.w) Y.A Y.env (λx s=>R (.error x) s) x s)(T:Turn Y.prog Y.w Y.K tg J fp it tn)(hg:PG Y tg g)(hc:YT Y ifs tc)(he:PE Y elt te)
  (q:yk J g tc te Q D σ0 H0) (stat:∀{H':Hp},(∀b∈fp,H' b=none)->∀b∈fp,Qh Y [] H' b) (I0:Inv Y [] σ0 H0 s) (st0:tn 0 s.heap) (fr0:∀b∈fp,H0 b=none)
  (fin:∀f σ H s',Inv Y [] σ H s'->Q (.ref D) H->R (.ok f) s'):T8 (Xn Y.prog Y.w) Y.A (.compStart (.ListComp elt [⟨tg,iter,ifs,0⟩] scope pos) 0 (.ref it) (.ref D) Y.env) R s:=by
 obtain⟨W,⟨m0,w0⟩,turn⟩:=q;have loop:T8 (Xn Y.prog Y.w) Y.A (.compLoop (.ListComp elt [⟨tg,iter,ifs,0⟩] scope pos) 0 (.ref it) (.ref D) Y.env) R s:=by
  refine codeAny_loop rfl (λn s'=>∃i σ' H',Inv Y [] σ' H' s'/\tn i s'.heap/\(∀b∈fp,H' b=none)/\W i n σ' H') ?_ m0 ⟨0,_,_,I0,st0,fr0,w0⟩;rintro n s3 ⟨i,σ3,H3,I3,st3,fr3,w3⟩;show Xk _ Y.A ((compTurn (.ListComp elt [⟨tg,iter,ifs,0⟩] scope pos) 0 (.ref it) (.ref D) Y.env).onRaise (λx=>do OF x Y.env;theTreesLotGoes x)) _ _ s3;refine wpAny_noted ?_;rw[compTurn_list];rcases turn i n σ3 H3 w3 with ⟨stop,qn⟩ | ⟨go,N',hN,step⟩
  .refine ZB (SG (ZB (thn (T.done Y rfl rfl rfl hcalm i [] s3 σ3 H3 _ I3 (stat fr3) st3 stop) λr s4 ⟨hr,I4⟩=>?_)));subst hr;exact XS (fin _ _ _ _ I4 qn)
  .refine ZB (SG (ZB (thn (T.item Y rfl rfl rfl hcalm i [] s3 σ3 H3 _ I3 (stat fr3) st3 go) λr s4 ⟨u,hr,h4⟩=>?_)));subst hr;dsimp only;refine ZB (thn h4 λ_ s5 ⟨x,H5,I5,r5,y5,st5,fr5⟩=>?_);have I5':=I5.pinned (stat fr5) (T.obj _ _ st5);refine ZB (VU (hg _ s5 σ3 H5 x u _ I5' r5 (step x H5 y5)) (λ_ s6 ⟨σ6,H6,I6,q6⟩=>?_) λ_ _ z=>hx z);have OD:∀{s7:X7} {σ7:St} {H7:Hp},Inv Y ([]++zbA fp s5.heap) σ7 H7 s7->N' σ7 H7->∃m,m<n/\∃i σ' H',Inv Y [] σ' H' s7/\tn i s7.heap/\(∀b∈fp,H' b=none)/\W i m σ' H':=λ{s7 σ7 H7} I7 n7=>by
    obtain⟨m',hm,w7⟩:=hN σ7 H7 n7;refine⟨m',hm,i+1,σ7,H7,I7.unpinned,T.keep _ _ _ st5 λb hb o e=>(I7.pin (b,o) (W7 _ (W7 _ (Zn hb e)))).1,λb hb=>?_,w7⟩;obtain⟨o,e,d⟩:=T.obj _ _ st5 b hb;exact(I7.pin (b,o) (W7 _ (W7 _ (Zn hb e)))).2.1
   refine ZB (VU (hc _ s6 σ6 H6 _ I6 q6) (λb s7 ⟨H7,I7,q7⟩=>?_) λ_ _ z=>hx z);cases b with
   | false =>
    rw[bw XT] at q7;exact XS ⟨rfl,OD I7 q7⟩
   | true =>
    rw[br rfl] at q7;refine ZB (ZB (VU (he _ s7 σ6 H7 _ I7 q7) (λy s8 ⟨v8,H8,I8,r8,ys,hys,hlen,q8⟩=>?_) λ_ _ z=>hx z));refine ZB (VU (Yy (X:=Y) _ s8 σ6 H8 (.ref D) [v8] (.ref D) [y] (λ_ H9=>N' σ6 H9) I8 rfl (.cons r8 .nil) ⟨_,ys,v8,rfl,rfl,hys,hlen,q8⟩) (λ_ s9 ⟨v9,H9,I9,_,q9⟩=>?_) λ_ _ z=>hx z);exact XS (XS ⟨rfl,OD I9 q9⟩)
 exact codeAny_compStart_list loop (T.self _ 0 _ _ _ st0 loop)
abbrev cY (X:Cx)(N:AD)(scope:Vi)(cl:List (Str×Addr))(C:Addr)(fp:List Addr)(bQ:List (Addr×Obj))(s:X7)(H:Hp)(fn:Str->Bool)(xe:X8->X7->Prop):Cx:={ qU X N scope cl C fp bQ s H with fn:=fn,xe:=xe }
def zmo (X:Cx)(N:AD)(scope:Vi)(bQ:List (Addr×Obj))(σ:St)(use:Option (X8->Sem Unit))(R:X8->X7->Prop)(Q:VK):Prop:=∀{cl fp s2 H2 C H3 s4 f fn xe σ3},C=s2.heap.objs.size+1->Inv X bQ σ H2 s2->(∀b∈fp,Qh X bQ H2 b)->Inv (cY X N scope cl C fp bQ s2 H2 fn xe) [] σ3 H3 s4->Q (.ref s2.heap.objs.size) H3->compPost (Xn X.prog X.w) X.A X.xe use R (.ref s2.heap.objs.size) C (.ok f) s4
def zj1 {bQ:List (Addr×Obj)}{σ:St}{Q:VK}:zmo X N scope bQ σ none (EP X bQ σ Q) Q:=by
 intro cl fp s2 H2 C H3 s4 f fn xe σ3 hC I2 f2 I4 qn;obtain⟨m,hm,_⟩:=I4.loc;refine⟨m,hm,λh' sb=>⟨.ref s2.heap.objs.size,H3,?_,rfl,qn⟩⟩;exact I2.call' (s':={ s4 with heap:=h' }) (ch:=fp) I4.os (Un.but I4.base (by rw[hC];exact VX _) sb) (HOk.but I4.hok I4.free sb) I4.bare λb hb=>⟨(f2 b hb).2.2.2.1,(f2 b hb).2.1,(f2 b hb).2.2.2.2.1,(f2 b hb).2.2.2.2.2⟩
def zbG {bQ:List (Addr×Obj)}{σ:St}{H2:Hp}{s2:X7}{R:Rb->X7->Prop}{Q:VK}{it C:Addr}{fp:List Addr}{tn:Nat->Heap->Prop}{J:It}{h₁:Heap}{tk:Nat}{fn:Str->Bool}{xe:X8->X7->Prop}{σ0:St}(hC:C=s2.heap.objs.size+1)(hcalm:X.calm=true)
  (hx:∀{x s},xe x s->notedBy (Xn X.prog X.w) X.A (Sa scope cl C X.env) (λx s=>R (.error x) s) x s) (hg:PG (cY X N scope cl C fp bQ s2 H2 fn xe) tg g) (hc:YT (cY X N scope cl C fp bQ s2 H2 fn xe) ifs tc) (he:PE (cY X N scope cl C fp bQ s2 H2 fn xe) elt te) (I2:Inv X bQ σ H2 s2) (T:Turn X.prog X.w X.K tg J fp it tn) (st2:tn 0 s2.heap) (f2:∀b∈fp,Qh X bQ H2 b)
  (q2:yk J g tc te Q s2.heap.objs.size σ0 (upd H2 s2.heap.objs.size (.lst []))) (k:∀b u,s2.heap.get? b=some u->h₁.get? b=some u) (own:∀x c,cl.lookup x=some c->X.env.cells.lookup x=some c\/C<=c)
  (I0:(∀b∈fp,∃o,s2.heap.get? b=some o)->Inv (cY X N scope cl C fp bQ s2 H2 fn xe) [] σ0 (upd H2 s2.heap.objs.size (.lst [])) { s2 with heap:=h₁,toks:=tk }) (fin:∀f σ H s4,Inv (cY X N scope cl C fp bQ s2 H2 fn xe) [] σ H s4->Q (.ref s2.heap.objs.size) H->R (.ok f) s4) :
  T8 (Xn X.prog X.w) X.A (.compStart (.ListComp elt [⟨tg,iter,ifs,0⟩] scope pos) 0 (.ref it) (.ref s2.heap.objs.size) (Sa scope cl C X.env)) R { s2 with heap:=h₁,toks:=tk }:=by
 have ho:∀b∈fp,∃o,s2.heap.get? b=some o:=λb hb=>let ⟨o,e,_⟩:=T.obj 0 _ st2 b hb;⟨o,e⟩
 have lt:∀b∈fp,b<s2.heap.objs.size:=λb hb=>let ⟨_,e⟩:=ho b hb;XE e
 refine ziJ (Y:=cY X N scope cl C fp bQ s2 H2 fn xe) hcalm hx T hg hc he q2 (λ{H'} hn b hb=>⟨hn b hb,?_,λz=>(XG.mp (I2.stkSub b z)).elim (f2 b hb).2.1 (f2 b hb).2.2.1,.inl hb,λx c z=>?_,λp hp=>?_⟩) (I0 ho) (T.keep 0 _ _ st2 λb _ o e=>k b o e) (λb hb=>?_) fin
 .show b≠C;rw[hC];exact Xe (Wl (lt b hb))
 .rcases own x c z with z | z
  .exact(f2 b hb).2.2.2.2.1 x c z
  .rw[hC] at z;exact TQ (Xs (Wl (lt b hb)) z)
 .have hp':p∈X.pn++bQ:=by
   have:p∈(X.pn++bQ)++[]:=hp;simpa using this
  exact(f2 b hb).2.2.2.2.2 p hp'
 .rw[zf (Xe (lt b hb))];exact(f2 b hb).1
def zj2 {h h₁:Heap}(sb:Wh (h.push { cls:=.type "list",dict:=none,data:=.seq ([]:List X8).toArray }).objs.size ((h.push { cls:=.type "list",dict:=none,data:=.seq ([]:List X8).toArray }).push { cls:=.type "dict",data:=.dict #[] }) h₁):(h.push { cls:=.type "list",dict:=none,data:=.seq ([]:List X8).toArray }).objs.size=h.objs.size+1/\(∀b u,h.get? b=some u->h₁.get? b=some u)/\h₁.get? h.objs.size=some { cls:=.type "list",data:=.seq #[] }:=by
 generalize hP:h.push { cls:=.type "list",dict:=none,data:=.seq ([]:List X8).toArray }=P2 at sb ⊢;have hC:P2.objs.size=h.objs.size+1:=by rw[<- hP,UV]
 exact⟨hC,λb u e=>(sb.2 b (by rw[hC];exact Xe (Wl (XE e)))).trans (XY _ (hP ▸ XY _ e)),(sb.2 _ (by rw[hC];exact(U1 _).symm)).trans (XY _ (hP ▸ W5 _ rfl))⟩
section
variable {bQ:List (Addr×Obj)}{σ:St}{H:Hp}{s:X7}{use:Option (X8->Sem Unit)}{R:X8->X7->Prop}{Q:VK}{p2:Pos}
def ze0 (ok:jM X N src scope cl)(hcalm:X.calm=true)(hi:PI X tg iter wi)
  (hg:∀C fp bQ s H,PG (qU X N scope cl C fp bQ s H) tg g) (hc:∀C fp bQ s H,YT (qU X N scope cl C fp bQ s H) ifs tc) (he:∀C fp bQ s H,PE (qU X N scope cl C fp bQ s H) elt te)
  (hs:∀x,Wq iter X.env x=pure x) (I:Inv X bQ σ H s) (h:ZX wi src g tc te σ H Q) (fin:zmo X N scope bQ σ use R Q):Xk (Xn X.prog X.w) X.A (SD (.ListComp elt [⟨tg,iter,ifs,0⟩] scope pos) scope X.env p2 (newList []) false (eval iter X.env) use) R X.xe s:=by
 refine RD (use:=use) rfl hs ok.clos ok.kind ok.names (thn (hi bQ s σ H _ I h) λxv s1 h1=>thn h1 λitv s2 h2=>?_);obtain⟨it,fp,tn,J,H2,e,I2,T,st2,f2,q2⟩:=h2;subst e;refine VD (Pk ok.nocell (by intro y hy;simp at hy) (λh₁ hns₁ hsb₁=>?_) ok.kind);dsimp only at hns₁ hsb₁ ⊢;obtain⟨hC,k,hD⟩:=zj2 hsb₁;exact zbG hC hcalm (λz=>z.elim) (hg _ _ _ _ _) (hc _ _ _ _ _) (he _ _ _ _ _) I2 T st2 f2 (q2 _ (I2.hok.fresh (XV _))) k (λx c z=>.inl (ok.sub x c z)) (λho=>zbF ok I2 f2 ho hC k hD hns₁) λ_ _ _ _ I4 qn=>fin hC I2 f2 I4 qn
end
def zmp (ok:jM X N src scope cl)(hcalm:X.calm=true)(hi:PI X tg iter wi)
  (hg:∀C fp bQ s H,PG (qU X N scope cl C fp bQ s H) tg g) (hc:∀C fp bQ s H,YT (qU X N scope cl C fp bQ s H) ifs tc) (he:∀C fp bQ s H,PE (qU X N scope cl C fp bQ s H) elt te)
  (hs:∀x,Wq iter X.env x=pure x:=by intro _;rfl):PE X (.ListComp elt [⟨tg,iter,ifs,0⟩] scope pos) (ZX wi src g tc te):=λ_ _ _ _ _ I h=>ze0 ok hcalm hi hg hc he hs I h zj1
end
section
variable {K:XW}{src:List (Option Nat)}{g:TG}{tc:TT}{te:TE}{Q:VK}{σ:St}{H:Hp}{D:Addr}
def qE {a:Addr}{xs:AE}(Pv:Nat->St->Hp->Prop)(h0:Pv 0 σ H)(hl:∀i σ H,i<=xs.length->Pv i σ H->SqL K H a xs)
  (hs:∀i x σ H,xs[i]?=some x->Pv i σ H->g x σ H fun σ2 H3=>tc σ2 H3 λb H4=>if b=true then te σ2 H4 λy H5=>∃ys,H5 D=some (.lst ys)/\ys.length<Xq/\Pv (i+1) σ2 (upd H5 D (.lst (ys++[y]))) else Pv (i+1) σ2 H4)
  (hd:∀ σ H,Pv xs.length σ H->Q (.ref D) H):yk (Itl K a) g tc te Q D σ H:=by
 refine⟨λi m σ H=>m=xs.length-i/\i<=xs.length/\Pv i σ H,⟨xs.length,by simp,WT _,h0⟩,?_⟩;rintro i m σ H ⟨rfl,hi,p⟩;have q:=hl i σ H hi p;by_cases hlt:i<xs.length
 .refine .inr ⟨⟨xs,xs[i],q,by simp[hlt]⟩,Pv (i+1),fun σ' H' p'=>⟨xs.length-(i+1),by lia,rfl,hlt,p'⟩,λx H' y=>?_⟩;obtain⟨e,y⟩:=y;subst e;exact hs i x σ _ (y xs q) p
 .have e:i=xs.length:=by lia
  subst e;exact .inl ⟨⟨xs,q,XV _⟩,hd σ H p⟩
def Qj {lo:Int}{n:Nat}(Pv:Nat->St->Hp->Prop)(h0:Pv 0 σ H)
  (hs:∀i σ H,i<n->Pv i σ H->g (.int (lo+i)) σ H fun σ2 H3=>tc σ2 H3 λb H4=>if b=true then te σ2 H4 λy H5=>∃ys,H5 D=some (.lst ys)/\ys.length<Xq/\Pv (i+1) σ2 (upd H5 D (.lst (ys++[y]))) else Pv (i+1) σ2 H4)
  (hd:∀ σ H,Pv n σ H->Q (.ref D) H):yk (Itr lo n) g tc te Q D σ H:=by
 refine⟨λi m σ H=>m=n-i/\i<=n/\Pv i σ H,⟨n,by simp,WT _,h0⟩,?_⟩;rintro i m σ H ⟨rfl,hi,p⟩;by_cases hlt:i<n
 .refine .inr ⟨hlt,Pv (i+1),fun σ' H' p'=>⟨n-(i+1),by lia,rfl,hlt,p'⟩,λx H' y=>?_⟩;obtain⟨e,y⟩:=y;subst e y;exact hs i σ _ hlt p
 .have e:i=n:=by lia
  subst e;exact .inl ⟨XV _,hd σ H p⟩
end
section
variable {X:Cx}{K:XW}
def JX {a:Expr}{ta:TE}(hK:X.K=K)(ha:PE X a ta)(he:∀whole,isTrue a X.env whole=(do let v <- whole;standAt a.pos;Pb [v] (truthy v))) :
  PT X a (fun σ H Q=>ta σ H λx H'=>∃k,zoA K x H' k/\Q k H'):=by
 subst hK;exact zbC ha he
def zmq (hK:X.K=K):IxR X (zp2 K):=by
 subst hK;exact qO
def ze1 (hK:X.K=K)(hu:X.A.units+64<VA):OpR X (Wj .Eq) (zmm K false):=by
 subst hK;exact Qi hu
def zaL (hK:X.K=K)(hu:X.A.units+64<VA):OpR X (Wj .NotEq) (zmm K true):=by
 subst hK;exact yC hu
def jC (hK:X.K=K)(hu:X.A.units+64<VA):OpR X (Wj .In) (zmn K false):=by
 subst hK;exact zbE hu
def Z3 (hK:X.K=K)(hu:X.A.units+64<VA):OpR X (Wj .NotIn) (zmn K true):=by
 subst hK;exact zcQ hu
def zhz {es:List Expr}{k:Nat}{t:TGs}{n:Nat}{pos:Pos}(hK:X.K=K)(hc:X.calm=true)(h:PGs X es t)
  (hn:(Tp es X.env).length=n:=by rfl) (hst:(Tp es X.env).findIdx? (·.1)=none:=by rfl):PG X (.Tuple es k pos) (zpT K n t):=by
 subst hK;exact Je hc h hn hst
end
section
variable {fs ch:List Addr}{H:Hp}{h h':Heap}{a:Addr}{o:HO}
def Un.laidX (k:∀b u,b ∉ ch->h.get? b=some u->h'.get? b=some u)(hp:h.objs.size<=a)(hn:H a=none):Un fs ch H (upd H a o) h h' where
 keep:=λb u q _ _ hx=>k b u hx q
 slot:=λb u q _ _ hx=>⟨u.slots,k b u hx q⟩
 free:=λb u q n _=>by rw[zf (Xe (Xs (XE q) hp))];exact n
 there:=λb u q hx=>⟨u,k b u hx q⟩
 tups:=λb xs q=>by rw[zf (zg q hn)];exact q
 frzs:=λb u xs q=>by rw[zf (zg q hn)];exact q
 tbls:=λb ps q=>⟨#[],by rw[zf (zg q hn),q];simp⟩
def Un.keptX (k:∀b u,b ∉ ch->h.get? b=some u->h'.get? b=some u):Un fs ch H H h h' :=
 ⟨λb ob q _ _ hx=>k b ob hx q,λb ob q _ _ hx=>⟨ob.slots,k b ob hx q⟩,λ_ _ _ n _=>n,λb ob q hx=>⟨ob,k b ob hx q⟩,λ_ _ q=>q,λ_ _ _ q=>q,λ_ ps q=>⟨#[],by rw[q];simp⟩⟩
def HOk.keptX {P:Xm}{w:WZ}(x:HOk P w H h)(k:∀b u,b ∉ ch->h.get? b=some u->h'.get? b=some u)(hch:∀b∈ch,H b=none):HOk P w H h':=λb u e=>by
 refine(x b u e).stay (λc v hc q=>k c v (λz=>?_) q) (λ_ q=>q) λ_ _ q=>q;have n:=hch c z;rcases hc with rfl | hc
 .rw[n] at e;cases e
 .rw[n] at hc;cases hc
def HOk.laidX {P:Xm}{w:WZ}(x:HOk P w H h)(k:∀b u,b ∉ ch->h.get? b=some u->h'.get? b=some u)(hch:∀b∈ch,H b=none)(hp:h.objs.size<=a)(new:jt P w (upd H a o) h' a o):HOk P w (upd H a o) h':=λb u e=>by
 have hn:=x.fresh hp;by_cases hb:b=a
 .subst hb;rw[zb] at e;cases e;exact new
 .rw[zf hb] at e;refine(x b u e).stay (λc v hc q=>k c v (λz=>?_) q) (λc q=>by rw[zf (zg q hn)];exact q) λc xs q=>by rw[zf (zg q hn)];exact q
  have n:=hch c z;rcases hc with rfl | hc
  .rw[n] at e;cases e
  .rw[n] at hc;cases hc
end
section
variable {X:Cx}{bQ:List (Addr×Obj)}{s:X7}{σ:St}{H:Hp}{E:X8->X7->Prop}{fp wr FP:List Addr}{elts:List Expr}{k:Nat}{pos:Pos}{e:Addr}{n i:Nat}{Pt:Nat->Array X8->Prop}{Sn:Nat->Heap->Prop}{Mid:Nat->Addr->Heap->Prop}{J:It}{tn:Nat->Heap->Prop}
def zj3 (I:Inv X bQ σ H s)(hf:∀b∈fp,Qh X bQ H b)(ho:∀b∈fp,∃o,s.heap.get? b=some o)(hwr:∀b∈wr,b∈fp)(W:WalksT X.prog X.w X.A e FP wr n Pt Sn Mid)(hi:i<n)(st:Sn i s.heap)
  (y:∀T vals,H T=none->Pt i vals->∃vs,Vals vs vals.toList/\vs.length<=Xq/\J.yld i H (.ref T) (upd H T (.tup vs))) (nx:∀h'',Sn (i+1) h''->tn (i+1) h'') :
  Xk (Xn X.prog X.w) X.A (Sb (.ref e)) (λr s1=>∃u,r=some u /\
   Xk (Xn X.prog X.w) X.A (Sq (.Tuple elts k pos) (.ref e) u) (λ_ s2=>∃x H',Inv X bQ σ H' s2/\RelV x u/\J.yld i H x H'/\tn (i+1) s2.heap/\∀b∈fp,H' b=none) E s1) E s:=by
 refine W.item i s _ E hi st λT vals h' tk hP hT0 hT hm kk=>⟨.ref T,rfl,?_⟩;have hn:H T=none:=I.hok.fresh hT0;obtain⟨vs,hv,hl,hy⟩:=y T vals hn hP;refine W.go elts k pos i T { s with heap:=h',toks:=tk } _ E hm λh'' st'' kk2=>?_;have k2:∀b o,b ∉ wr->s.heap.get? b=some o->h''.get? b=some o:=λb o hb e=>kk2 b o hb (kk b o hb e);have hTup:OA h'' T vals:=by
  obtain⟨o,e1,c,m,d⟩:=hT;exact⟨o,kk2 T o (W.apart i T _ hm) e1,c,m,d⟩
 have hch:∀b∈wr,H b=none:=λb hb=>(hf b (hwr b hb)).1;refine⟨.ref T,upd H T (.tup vs),?_,rfl,hy,nx _ st'',λb hb=>?_⟩
 .exact I.call' (s':={ s with heap:=h'',toks:=tk }) (ch:=wr) rfl (Un.laidX k2 hT0 hn) (HOk.laidX I.hok k2 hch hT0 ⟨hl,vals.toList,hv,by simpa using hTup⟩) I.bare λb hb=>let f:=hf b (hwr b hb);⟨f.2.2.2.1,f.2.1,f.2.2.2.2.1,f.2.2.2.2.2⟩
 .obtain⟨o,e1⟩:=ho b hb;rw[zf (Xe (Xs (XE e1) hT0))];exact(hf b hb).1
def zj4 (I:Inv X bQ σ H s)(hf:∀b∈fp,Qh X bQ H b)(hwr:∀b∈wr,b∈fp)(W:WalksT X.prog X.w X.A e FP wr n Pt Sn Mid)(st:Sn n s.heap) :
  Xk (Xn X.prog X.w) X.A (Sb (.ref e)) (λr s1=>r=none/\Inv X bQ σ H s1) E s :=
 W.done s _ E st λh' tk kk=>⟨rfl,I.call' (s':={ s with heap:=h',toks:=tk }) (ch:=wr) rfl (Un.keptX kk) (HOk.keptX I.hok kk λb hb=>(hf b (hwr b hb)).1) I.bare λb hb=>let f:=hf b (hwr b hb);⟨f.2.2.2.1,f.2.1,f.2.2.2.2.1,f.2.2.2.2.2⟩⟩
end
def QI {h:Heap}{b:Addr}{o:Obj}{vs:Array X8}(e:h.get? b=some o)(d:o.data=.fields vs):∃o,h.get? b=some o/\∀v,o.data ≠ .cell v:=⟨o,e,λv z=>by rw[d] at z;cases z⟩
def Ite (K:XW)(l:Addr):It:=⟨λi H=>∃xs,SqL K H l xs/\i<xs.length,λi H x H'=>∃T,x=.ref T/\H T=none/\∀xs,SqL K H l xs->∃v,xs[i]?=some v/\H'=upd H T (.tup [.int i,v]),λi H=>∃xs,SqL K H l xs/\i=xs.length⟩
def ziK {P:Xm}{w:WZ}{K:XW}{elts:List Expr}{k:Nat}{pos:Pos}(e it l:Addr)(hei:e≠it)(hle:l≠e)(hli:l≠it) :
  Turn P w K (.Tuple elts k pos) (Ite K l) [e,it] e (λi h=>(∃old,IsEnum h e it i old)/\h.IsListIter it l i) where
 mem:=by simp
 obj:=λi h st b hb=>by
  obtain⟨⟨old,he⟩,o,e2,c,d⟩:=st;rcases XG.mp hb with rfl | hb
  .exact QI he rfl
  .have z:b=it:=by simpa using hb
   subst z;exact QI e2 d
 keep:=λi h h' st kk=>by
  obtain⟨⟨old,he⟩,o,e2,r⟩:=st;exact⟨⟨old,kk e (by simp) _ he⟩,o,kk it (by simp) o e2,r⟩
 item:=by
  intro X hP hw hK hc i bQ s σ H E I hf st hg;subst hP hw hK;obtain⟨xs,hq,hlt⟩:=hg;obtain⟨its,rv,p,hz⟩:=I.list hq;have hl:=rv.length;obtain⟨⟨old,he⟩,o2,e2,c2,d2⟩:=id st;refine zj3 (wr:=[e,it]) (J:=Ite X.K l) (tn:=λi h=>(∃old,IsEnum h e it i old)/\h.IsListIter it l i) I hf (λb hb=>?_) (λb hb=>hb) (WalksT.enumerate (I.ok.hd hc) e it l hei hle hli its.toArray) (by simp;lia) ⟨st.1,st.2,p.isList⟩ (λT vals hn hp=>?_) λh'' q=>⟨q.1,q.2.1⟩
  .rcases XG.mp hb with rfl | hb
   .exact⟨_,he⟩
   .have z:b=it:=by simpa using hb
    subst z;exact⟨_,e2⟩
  .obtain⟨t,x,hx,rfl⟩:=hp;have hx':its[i]?=some x:=by simpa using hx
   obtain⟨u,hu,ru⟩:=rv.get (i:=i) (x:=xs[i]) (by rw[XX hlt]);rw[hu] at hx';cases hx';exact⟨[.int i,xs[i]],.cons ⟨t,rfl⟩ (.cons ru .nil),(by show 2<=Xq;decide),T,rfl,hn,λys hy=>⟨xs[i],by rw[I.list_inj hy hq,XX hlt],rfl⟩⟩
 done:=by
  intro X hP hw hK hc i bQ s σ H E I hf st hg;subst hP hw hK;obtain⟨xs,hq,rfl⟩:=hg;obtain⟨its,rv,p,hz⟩:=I.list hq;have hl:its.toArray.size=xs.length:=by simp[rv.length]
  refine zj4 (fp:=[e,it]) (wr:=[e,it]) I hf (λb hb=>hb) (WalksT.enumerate (I.ok.hd hc) e it l hei hle hli its.toArray) ?_;rw[hl];exact⟨st.1,st.2,p.isList⟩
 self:=λA i s Q E st h=>by
  obtain⟨⟨old,he⟩,_⟩:=st;exact S5 he h
def zmr (x:Str):It:=⟨λi _=>i<x.cps.size,λi H v H'=>∃T c,v=.ref T/\H T=none/\x.cps[i]?=some c/\H'=upd H T (.tup [.int i,.str ⟨#[c]⟩]),λi _=>i=x.cps.size⟩
def zbH {P:Xm}{w:WZ}{K:XW}{elts:List Expr}{k:Nat}{pos:Pos}(e it:Addr)(x:Str)(t:Tok)(n:String)(hei:e≠it)
  (D:∀A:WR,A.handled=none->Draws P w A it [it] x.cps.size (λi v=>∃c u,x.cps[i]?=some c/\v=.str ⟨#[c]⟩ u) (λi h=>h.IsStrIter it n x t i)) :
  Turn P w K (.Tuple elts k pos) (zmr x) [e,it] e (λi h=>(∃old,IsEnum h e it i old)/\h.IsStrIter it n x t i) where
 mem:=by simp
 obj:=λi h st b hb=>by
  obtain⟨⟨old,he⟩,o,e2,c,d⟩:=st;rcases XG.mp hb with rfl | hb
  .exact QI he rfl
  .have z:b=it:=by simpa using hb
   subst z;exact QI e2 d
 keep:=λi h h' st kk=>by
  obtain⟨⟨old,he⟩,o,e2,r⟩:=st;exact⟨⟨old,kk e (by simp) _ he⟩,o,kk it (by simp) o e2,r⟩
 item:=by
  intro X hP hw hK hc i bQ s σ H E I hf st hg;subst hP hw hK;obtain⟨⟨old,he⟩,o2,e2,c2,d2⟩:=id st;refine zj3 (wr:=[e,it]) (J:=zmr x) (tn:=λi h=>(∃old,IsEnum h e it i old)/\h.IsStrIter it n x t i) I hf (λb hb=>?_) (λb hb=>hb) (WalksT.enumerateD (D X.A.in1 (I.ok.hd hc)) e hei (by simpa using hei) (by simp)) hg st (λT vals hn hp=>?_) λh'' q=>q
  .rcases XG.mp hb with rfl | hb
   .exact⟨_,he⟩
   .have z:b=it:=by simpa using hb
    subst z;exact⟨_,e2⟩
  .obtain⟨t',v,⟨c,u,hx,rfl⟩,rfl⟩:=hp;exact⟨[.int i,.str ⟨#[c]⟩],.cons ⟨t',rfl⟩ (.cons ⟨u,rfl⟩ .nil),(by show 2<=Xq;decide),T,c,rfl,hn,hx,rfl⟩
 done:=by
  intro X hP hw hK hc i bQ s σ H E I hf st hg;subst hP hw hK;have z:i=x.cps.size:=hg;subst z;exact zj4 (fp:=[e,it]) (wr:=[e,it]) I hf (λb hb=>hb) (WalksT.enumerateD (D X.A.in1 (I.ok.hd hc)) e hei (by simpa using hei) (by simp)) st
 self:=λA i s Q E st h=>by
  obtain⟨⟨old,he⟩,_⟩:=st;exact S5 he h
section
variable {X:Cx}{elts:List Expr}{k:Nat}{tpos:Pos}
def zoI (K:XW)(ta:TA):TI:=fun σ H R=>ta σ H λvs H1=>∃l,vs=[.ref l]/\(∃xs,SqL K H1 l xs)/\R (Ite K l) H1
def JY {a:Expr}{ta:TA}{p pos:Pos}(hg:Gl X "enumerate")(hm:X.mg "enumerate"=none)(ha:PA X [a] ta)(hs:WY [a] X.env=[(false,eval a X.env)]:=by rfl):PI X (.Tuple elts k tpos) (.Call (.Name "enumerate" p) [a] [] pos) (zoI X.K ta):=by
 intro bQ s σ H R I h;refine Call_ (Qf I hg hm boot_enumerate (VB (thn (ha pos bQ s σ H _ I h) λus s1 ⟨vs,H1,I1,r1,q1⟩=>?_) hs rfl));obtain⟨l,rfl,⟨xs,hq⟩,q⟩:=q1;obtain⟨u,rfl,ru⟩:=vals1 r1;cases ru;obtain⟨its,rv,pl,hz⟩:=I1.list hq;obtain⟨ol,hol,_⟩:=pl.isList;have hlt:=XE hol;refine call_enumerate_list pl.isList λh' he hit hsz kk=>?_;have I2:Inv X bQ σ H1 { s1 with heap:=h' }:=I1.kept (t':=s1.toks) kk;refine S5 he ?_;refine⟨s1.heap.objs.size+1,[s1.heap.objs.size+1,s1.heap.objs.size],_,_,H1,rfl,I2,ziK (s1.heap.objs.size+1) s1.heap.objs.size l (U1 _) (Xe (Wl hlt)) (Xe hlt),⟨⟨_,he⟩,hit⟩,λb hb=>?_,q⟩;have hb':s1.heap.objs.size<=b:=by
  rcases XG.mp hb with e | hb
  .rw[e];exact VX _
  .have e:b=s1.heap.objs.size:=by simpa using hb
   rw[e];exact XV _
 exact I1.fpOk hb' (I1.hok.fresh hb')
def zoJ (ta:TA):TI:=fun σ H R=>ta σ H λvs H1=>∃z,vs=[.str z]/\R (zmr z) H1
def zj5 {a:Expr}{ta:TA}{p pos:Pos}(hg:Gl X "enumerate")(hm:X.mg "enumerate"=none)(ha:PA X [a] ta)(hs:WY [a] X.env=[(false,eval a X.env)]:=by rfl):PI X (.Tuple elts k tpos) (.Call (.Name "enumerate" p) [a] [] pos) (zoJ ta):=by
 intro bQ s σ H R I h;refine Call_ (Qf I hg hm boot_enumerate (VB (thn (ha pos bQ s σ H _ I h) λus s1 ⟨vs,H1,I1,r1,q1⟩=>?_) hs rfl));obtain⟨z,rfl,q⟩:=q1;obtain⟨u,rfl,t,rfl⟩:=vals1 r1;refine call_enumerate_str λh' he hit hsz kk=>?_;have I2:Inv X bQ σ H1 { s1 with heap:=h' }:=I1.kept (t':=s1.toks) kk;refine S5 he ?_;have fpk:∀b ∈ [s1.heap.objs.size+1,s1.heap.objs.size],Qh X bQ H1 b:=λb hb=>by
  have hb':s1.heap.objs.size<=b:=by
   rcases XG.mp hb with e | hb
   .rw[e];exact VX _
   .have e:b=s1.heap.objs.size:=by simpa using hb
    rw[e];exact XV _
  exact I1.fpOk hb' (I1.hok.fresh hb')
 unfold strIterType at hit;by_cases ha:z.cps.all (· < 128)=true
 .rw[br ha] at hit;exact⟨s1.heap.objs.size+1,[s1.heap.objs.size+1,s1.heap.objs.size],_,_,H1,rfl,I2,zbH (s1.heap.objs.size+1) s1.heap.objs.size z t "str_ascii_iterator" (U1 _) (λA hA=>Draws.strAscii hA _ z t),⟨⟨_,he⟩,hit⟩,fpk,q⟩
 .rw[bw ha] at hit;exact⟨s1.heap.objs.size+1,[s1.heap.objs.size+1,s1.heap.objs.size],_,_,H1,rfl,I2,zbH (s1.heap.objs.size+1) s1.heap.objs.size z t "str_iterator" (U1 _) (λA hA=>Draws.strWide hA _ z t),⟨⟨_,he⟩,hit⟩,fpk,q⟩
def zea:jj X (.type "int") (λxs H Q=>∃x n,xs=[.str x]/\Po x=some n/\x.length<=640/\Q (.int n) H):=by
 intro bQ s σ H xs us Q I r h;obtain⟨x,n,rfl,hn,hl,q⟩:=h;obtain⟨u,rfl,t,rfl⟩:=vals1 r;exact PySem.W.KIN.call_text hn hl ⟨.int n,H,I.tok _,⟨_,rfl⟩,q⟩
end
def JZ {K:XW}{l:Addr}{xs:AE}{g:TG}{tb:TS}{D:Ends}{σ:St}{H:Hp}(Pv:Nat->St->Hp->Prop)(h0:Pv 0 σ H)(hl:∀i σ H,i<=xs.length->Pv i σ H->SqL K H l xs)
  (hs:∀i x T σ H,xs[i]?=some x->H T=none->Pv i σ H->g (.ref T) σ (upd H T (.tup [.int i,x])) fun σ2 H2=>tb { D with nx:=Pv (i+1),ct:=Pv (i+1),bk:=D.nx } σ2 H2) (hd:∀ σ H,Pv xs.length σ H->D.nx σ H) :
  ∃W:Nat->Nat->St->Hp->Prop,(∃m,W 0 m σ H)/\∀i m σ H,W i m σ H ->
   ((Ite K l).stop i H/\D.nx σ H)\/((Ite K l).go i H/\∃N:St->Hp->Prop,(∀ σ' H',N σ' H'->∃m',m'<m/\W (i+1) m' σ' H')/\∀x H',(Ite K l).yld i H x H'->g x σ H' fun σ2 H2=>tb { D with nx:=N,ct:=N,bk:=D.nx } σ2 H2):=by
 refine⟨λi m σ H=>m=xs.length-i/\i<=xs.length/\Pv i σ H,⟨xs.length,by simp,WT _,h0⟩,?_⟩;rintro i m σ H ⟨rfl,hi,p⟩;have q:=hl i σ H hi p;by_cases hlt:i<xs.length
 .refine .inr ⟨⟨xs,q,hlt⟩,Pv (i+1),fun σ' H' p'=>⟨xs.length-(i+1),by lia,rfl,hlt,p'⟩,λx H' y=>?_⟩;obtain⟨T,rfl,hT,y⟩:=y;obtain⟨v,hv,rfl⟩:=y xs q;exact hs i v T σ H hv hT p
 .have e:i=xs.length:=by lia
  subst e;exact .inl ⟨⟨xs,q,rfl⟩,hd σ H p⟩
def zgq {g:TG}{tc:TT}{te:TE}{Q:VK}{σ:St}{H:Hp}{D:Addr}{x:Str}(Pv:Nat->St->Hp->Prop)(h0:Pv 0 σ H)
  (hs:∀i c T σ H,x.cps[i]?=some c->H T=none->Pv i σ H->g (.ref T) σ (upd H T (.tup [.int i,.str ⟨#[c]⟩])) fun σ2 H3=>tc σ2 H3 λb H4=>if b=true then te σ2 H4 λy H5=>∃ys,H5 D=some (.lst ys)/\ys.length<Xq/\Pv (i+1) σ2 (upd H5 D (.lst (ys++[y]))) else Pv (i+1) σ2 H4)
  (hd:∀ σ H,Pv x.cps.size σ H->Q (.ref D) H):yk (zmr x) g tc te Q D σ H:=by
 refine⟨λi m σ H=>m=x.cps.size-i/\i<=x.cps.size/\Pv i σ H,⟨x.cps.size,by simp,WT _,h0⟩,?_⟩;rintro i m σ H ⟨rfl,hi,p⟩;by_cases hlt:i<x.cps.size
 .refine .inr ⟨hlt,Pv (i+1),fun σ' H' p'=>⟨x.cps.size-(i+1),by lia,rfl,hlt,p'⟩,λv H' y=>?_⟩;obtain⟨T,c,rfl,hT,hc,rfl⟩:=y;exact hs i c T σ H hc hT p
 .have e:i=x.cps.size:=by lia
  subst e;exact .inl ⟨rfl,hd σ H p⟩
def QJ (look:Str->Option Addr):List (Str×Sx)->List (Str×Addr)->List (Str×Addr)
 | [],acc=>acc
 | (n,k)::r,acc=>if k == .free then (match look n with
  | some c=>QJ look r ((n,c)::acc)
  | none=>QJ look r acc) else QJ look r acc
theorem Z4 {look:Str->Option Addr}:∀(names:List (Str×Sx)) (acc:List (Str×Addr)) (p:Str×Addr),p∈QJ look names acc->p∈acc\/look p.1=some p.2
 | [],acc,p,h=>.inl h
 | (n,k)::r,acc,p,h=>by
  unfold QJ at h;split at h
  .cases e:look n with
   | none =>
    rw[e] at h;exact Z4 r acc p h
   | some c =>
    rw[e] at h;rcases Z4 r _ p h with h | h
    .rcases XG.mp h with h | h
     .subst h;exact .inr e
     .exact .inl h
    .exact .inr h
  .exact Z4 r acc p h
def J0 {x n:Str}{c:Addr}{acc:List (Str×Addr)}(h:(acc.lookup x).isSome=true\/x=n):(RN x ((n,c)::acc)).isSome=true:=by
 rw[SK];cases e:x==n with
 | true=>rfl
 | false =>
  rcases h with h | h
  .exact h
  .subst h;simp at e
def ze2 {look:Str->Option Addr}{x:Str}(names:List (Str×Sx))(acc:List (Str×Addr))(h:(acc.lookup x).isSome=true\/((x,NameKind.free)∈names/\(look x).isSome=true)):((QJ look names acc).lookup x).isSome=true:=by
 induction names generalizing acc with
 | nil =>
  rcases h with h | h
  .exact h
  .cases h.1
 | cons y r ih =>
  obtain⟨n,k⟩:=y;unfold QJ;split
  .rename_i hk;cases e:look n with
   | none =>
    refine ih acc ?_;rcases h with h | ⟨h,h2⟩
    .exact .inl h
    .rcases XG.mp h with h | h
     .cases h;rw[e] at h2;cases h2
     .exact .inr ⟨h,h2⟩
   | some c =>
    refine ih _ ?_;rcases h with h | ⟨h,h2⟩
    .exact .inl (J0 (.inl h))
    .rcases XG.mp h with h | h
     .cases h;exact .inl (J0 (.inr rfl))
     .exact .inr ⟨h,h2⟩
  .rename_i hk;refine ih acc ?_;rcases h with h | ⟨h,h2⟩
   .exact .inl h
   .rcases XG.mp h with h | h
    .cases h;exact absurd rfl hk
    .exact .inr ⟨h,h2⟩
def ZY {scope:Vi}{env:Env}(h:∀y∈scope.names,y.2=.free->(env.cells.lookup y.1).isSome=true):QQ scope env=pure (QJ (λx=>env.cells.lookup x) scope.names []):=by
 have go:∀(names:List (Str×Sx)) (acc:List (Str×Addr)),(∀y∈names,y.2=.free->(env.cells.lookup y.1).isSome=true) ->
   (forIn names acc λx cs=>(match x with
    | (name,kind)=>if (kind == .free)=true then do let a <- cellOf env name;pure (V2 ((name,a)::cs)) else pure (V2 cs):Sem (ForInStep (List (Str×Addr)))))=(pure (QJ (λx=>env.cells.lookup x) names acc):Sem _):=by
  intro names;induction names with
  | nil=>intro acc _;rfl
  | cons y r ih =>
   intro acc hy;obtain⟨n,k⟩:=y;have hr:∀y∈r,y.2=.free->(env.cells.lookup y.1).isSome=true:=λy hm=>hy y (XR _ hm);rw[List.forIn_cons];unfold QJ;by_cases hk:(k==NameKind.free)=true
   .have hk':k=.free:=by simpa using hk
    have hs:=hy (n,k) XU hk';obtain⟨c,hc⟩:=Vj.mp hs;have hc':RN n env.cells=some c:=hc;have e1:cellOf env n=pure c:=by
     unfold cellOf;rw[hc']
    simp only[hk,if_true,e1,hc',pure_bind];exact ih _ hr
   .simp only[hk,Ww,if_false,pure_bind];exact ih _ hr
 simp only[QQ];exact Eq.trans (congrArg (λm:Sem (List (Str×Addr))=>m >>= λcs=>pure cs) (go scope.names [] h)) rfl
def JG {scope:Vi}{env:Env}{x:Str}{k:Sx}(h:(x,k)∈(Vl scope env).names)(hk:k=.cell\/k=.free):(x,Tw)∈scope.names\/(x,NameKind.free)∈scope.names:=by
 obtain⟨y,hy,e⟩:=XM.mp h;obtain⟨n,k0⟩:=y;by_cases c:(k0==NameKind.free&&env.scope.kind == .function&&env.kindOf n==some .cell)=true
 .have e':(if (k0==NameKind.free&&env.scope.kind == .function&&env.kindOf n==some .cell)=true then (n,Tw) else (n,k0))=(x,k):=e;rw[br c] at e';cases e';have c1:k0=.free:=by
   have:=(VN.mp (VN.mp c).1).1;simpa using this
  subst c1;exact .inr hy
 .have e':(if (k0==NameKind.free&&env.scope.kind == .function&&env.kindOf n==some .cell)=true then (n,Tw) else (n,k0))=(x,k):=e;rw[bw c] at e';cases e';rcases hk with rfl | rfl
  .exact .inl hy
  .exact .inr hy
open PySem PySem.Spec PyProof.Rows PySem.W
section
variable {α β:Type}{R:α->β->Prop}{us us':List α}{cs cs':List β}{i:Nat}{v:α}{c:β}
def zbI (h:Xl R us cs)(k:Xl R us' cs'):Xl R (us++us') (cs++cs'):=by
 induction h with
 | nil=>exact k
 | cons q _ ih=>exact .cons q ih
def YY (h:Xl R us cs)(e:us[i]?=some v):∃c,cs[i]?=some c/\R v c:=by
 induction h generalizing i with
 | nil=>cases e
 | cons q _ ih =>
  cases i with
  | zero =>
   cases e;exact⟨_,rfl,q⟩
  | succ i=>exact ih (i:=i) e
def zj6 (h:Xl R us cs)(e:v∈us):∃c∈cs,R v c:=by
 induction h with
 | nil=>cases e
 | cons q _ ih =>
  rcases XG.mp e with rfl | e
  .exact⟨_,XU,q⟩
  .obtain⟨c,h,r⟩:=ih e;exact⟨c,XR _ h,r⟩
end
def yw (H:Hp):AE->List (Int×Int)->Prop:=Xl λv p=>∃a,v=V.ref a/\H a=some (.tup [.int p.1,.int p.2])
def lt2 (p q:Int×Int):Bool:=if p.1=q.1 then decide (p.2<q.2) else decide (p.1<q.1)
structure zv (h:Heap)(v:X8)(p:Int×Int):Prop where
 ex:∃a o n t u,v=.ref a/\h.get? a=some o/\o.cls=.type "tuple"/\o.data=.seq #[.int p.1 t,.int p.2 u] n
section
variable {X:Cx}{bQ:List (Addr×Obj)}{σ:St}{H:Hp}{s:X7}
def yw.pairs (I:Inv X bQ σ H s){us:AE}{ps:List (Int×Int)}{its:List X8}(hp:yw H us ps)(r:Vals us its):Xl (zv s.heap) its ps:=by
 induction hp generalizing its with
 | nil =>
  cases r;exact .nil
 | cons q _ ih =>
  obtain⟨a,e,h⟩:=q;subst e;cases r with
  | cons r1 r2 =>
   cases r1;refine .cons ?_ (ih r2);obtain⟨items,rv,tp,_⟩:=I.tuple (SqT.of h);obtain⟨u1,u2,rfl,⟨t1,rfl⟩,⟨t2,rfl⟩⟩:=vals2 rv;obtain⟨ob,e1,c1,n,d1⟩:=tp;exact⟨a,ob,n,t1,t2,rfl,e1,c1,d1⟩
end
theorem Zp {h h':Heap}(k:∀b o,h.get? b=some o->h'.get? b=some o):∀{its:List X8} {ps:List (Int×Int)},Xl (zv h) its ps->Xl (zv h') its ps
 | _,_,.nil=>.nil
 | _,_,.cons ⟨a,o,n,t,u,e,e1,r⟩ tl=>.cons ⟨a,o,n,t,u,e,k _ _ e1,r⟩ (Zp k tl)
theorem Zq {h:Heap}:∀{its:List X8} {ps:List (Int×Int)},Xl (zv h) its ps->∃fs:List X8,KatTups h its fs/\fs.length=its.length/\∀v∈fs,∃x t,v=Vo x t
 | _,_,.nil=>⟨[],.nil,rfl,λ_ z=>nomatch z⟩
 | _,_,.cons ⟨a,o,n,t,u,e,e1,c,d⟩ tl=>by
  obtain⟨fs,k,l,q⟩:=Zq tl;subst e;refine⟨.int _ t::fs,KatTups.cons e1 c d rfl k,by simp[l],λv hv=>?_⟩;rcases XG.mp hv with rfl | hv
  .exact⟨_,t,rfl⟩
  .exact q v hv
section
variable {prog:Xm}{w:WZ}{A:WR}{E:X8->X7->Prop}{s:X7}
def zhA {v v':X8}{p q:Int×Int}{C:Bool->X7->Prop}(hv:zv s.heap v p)(hv':zv s.heap v' q)(h:C (lt2 p q) s):Xk (Xn prog w) A (keyLt' (tuples' true) v v') C E s:=by
 obtain⟨a,o,n,t,u,rfl,e1,c1,d1⟩:=hv;obtain⟨a',o',n',t',u',rfl,e1',c1',d1'⟩:=hv';refine kat_lt e1 d1 e1' d1' ?_;show KatLex prog w A true _ C [(Vo p.1 t,Vo q.1 t'),(Vo p.2 u,Vo q.2 u')] 0 s;unfold lt2 at h;refine kat_cons (SeqAt.EqAt.int_int _ _ _ _ prog w _ _ (kat_go (λee=>kat_yes ?_) λee=>kat_no ?_))
 .have e:p.1=q.1:=by simpa using ee
  rw[br e] at h;refine kat_cons (SeqAt.EqAt.int_int _ _ _ _ prog w _ _ (kat_go (λe2=>kat_yes (kat_nil ?_)) λe2=>kat_no ?_))
  .have e3:p.2=q.2:=by simpa using e2
   have e4:decide (p.2<q.2)=false:=bg (by lia);rw[e4] at h;exact h
  .exact kat_one _ _ (lt_int h)
 .have e:¬ p.1=q.1:=by simpa using ee
  rw[bw e] at h;exact oneLt_int h
end
section
variable {X:Cx}
def ze3:zpV X (zp1 X.K):=by
 intro bQ s σ H x y v u Q I rx ry h;obtain⟨p,xs,i,z,rfl,rfl,hq,he,q⟩:=h;cases rx;obtain⟨t,rfl⟩:=ry;obtain⟨its,r,pl,hz⟩:=I.list hq;obtain⟨j,h1,h2,h3,h4,h5⟩:=zbi he;obtain⟨w,ew,rw'⟩:=r.get h2;have hl:=r.length;have hn:=Z1;have fin:EP X bQ σ Q w s:=⟨z,H,I,rw',q⟩;by_cases h0:0<=i
 .have hj:i.toNat=j:=by
   rw[Pw h0 h5] at h1;exact Option.some.inj h1
  exact wpAny_getItem_list pl.isList h0 (by lia) (by rw[hj];simpa using ew) fin
 .have hj:(i+(its.toArray.size:Int)).toNat=j:=by
   rw[Qr (by lia) h4] at h1;rw[Xx,<- hl];exact Option.some.inj h1
  exact P6 pl.isList (by lia) (by rw[Xx]<;>lia) (by lia) (by rw[hj];simpa using ew) fin
theorem ze4:∀{ns:List Int} {its:List X8},Vals (ns.map V.int) its->Pa its ns
 | [],_,r=>by cases r;exact .nil
 | n::ns,_,r=>by
  cases r with
  | cons r1 r2 =>
   obtain⟨t,rfl⟩:=r1;exact .cons n t (ze4 r2)
def ze5 (hc:X.calm=true):jj X (.builtin "sum") (λxs H Q=>∃(l:Addr) (ns:List Int),xs=[.ref l]/\SqL X.K H l (ns.map V.int)/\Q (.int ns.sum) H):=by
 intro bQ s σ H xs us Q I r h;obtain⟨l,ns,rfl,hq,q⟩:=h;obtain⟨u,rfl,ru⟩:=vals1 r;cases ru;obtain⟨its,rv,pl,hz⟩:=I.list hq;have hi:Pa its ns:=ze4 rv;obtain⟨ys,ey⟩:=hi.allInts.items;refine sum_intListG (I.ok.hd hc) (xs:=ys) (ey ▸ pl.isList) λh' tk t' hk=>?_;have f1:ns=ys.toList.map (·.1):=by
  rw[<- nums_intItems,<- ey];exact(show numsOf its.toArray.toList=ns from hi.numsOf).symm
 have f2:preSum (numAt ys) ys.size=ns.sum:=by
  rw[f1,preSum_eq,Wm (by simp)]
 rw[f2];exact⟨.int _,H,I.kept hk,⟨_,rfl⟩,q⟩
def ziL {bs:List Bool}{its:List X8}(r:Vals (bs.map V.bl) its){i:Nat}{v:X8}(e:its[i]?=some v):∃b,bs[i]?=some b/\v=.bool b:=by
 have hl:=r.length;rw[Y1] at hl;have hi:i<bs.length:=by
  have:=(X5.mp e).1;lia
 obtain⟨u,hu,ru⟩:=r.get (i:=i) (x:=.bl bs[i]) (by rw[Xo,XX hi];rfl);rw[hu] at e;cases e;exact⟨bs[i],XX hi,ru⟩
def zbJ (hc:X.calm=true):jj X (.builtin "any") (λxs H Q=>∃(l:Addr) (bs:List Bool),xs=[.ref l]/\SqL X.K H l (bs.map V.bl)/\Q (.bl (bs.any id)) H):=by
 intro bQ s σ H xs us Q I r h;obtain⟨l,bs,rfl,hq,q⟩:=h;obtain⟨u,rfl,ru⟩:=vals1 r;cases ru;obtain⟨its,rv,pl,hz⟩:=I.list hq;have hl:=pl.isList;have hlt:l<s.heap.objs.size:=let ⟨_,he,_⟩:=hl;XE he
 have hln:=rv.length;rw[Y1] at hln;refine call_any_walk (S7 hl ?_);refine⟨s.heap.objs.size,[s.heap.objs.size,l],[s.heap.objs.size],its.toArray.size,_,_,λi=>(bs[i]?).getD false,rfl,Walks.list (A:=X.A.in1) (I.ok.hd hc) _ l (Xe hlt) its.toArray,
  ⟨⟨_,W5 _ rfl,rfl,rfl⟩,hl.push _⟩,λi v s' Q' E' hP hQ=>?_,λh' tk hk=>?_⟩
 .obtain⟨b,eb,rfl⟩:=ziL rv (i:=i) (v:=v) (by simpa using hP);simp only[eb,TK] at hQ;exact VT hQ
 .have e:((Wy its.toArray.size).any λi=>(bs[i]?).getD false)=bs.any id:=by
   rw[Xx,<- hln];exact LSm.range_any bs
  rw[e];exact⟨.bl _,H,I.kept (LSm.kept_iter hk),rfl,q⟩
end
mutual
inductive Rdn (N:Addr->Prop)(H:Hp):V->V7->Prop
 | non:Rdn N H .non .none
 | bl (b:Bool):Rdn N H (.bl b) (.bool b)
 | int (i:Int):Rdn N H (.int i) (.int i)
 | str (x:Str):Rdn N H (.str x) (.str x)
 | lst {a:Addr} {xs:AE} {ds:List V7}:N a->H a=some (.lst xs)->zq N H xs ds->Rdn N H (.ref a) (.list ds)
 | tup {a:Addr} {xs:AE} {ds:List V7}:H a=some (.tup xs)->zq N H xs ds->Rdn N H (.ref a) (.tuple ds)
inductive zq (N:Addr->Prop)(H:Hp):AE->List V7->Prop
 | nil:zq N H [] []
 | cons {x:V} {d:V7} {xs:AE} {ds:List V7}:Rdn N H x d->zq N H xs ds->zq N H (x::xs) (d::ds)
end
section
variable {K:XW}{N N':Addr->Prop}{H H':Hp}
def Rdn.rdv {v:V}{d:V7}(h:Rdn N H v d):Rdv K H v d :=
 Rdn.rec (motive_1:=λv d _=>Rdv K H v d) (motive_2:=λvs ds _=>JQ K H vs ds) .non .bl .int .str (λ_ h _ t=>.lst (SqL.of h) t) (λh _ t=>.tup (SqT.of h) t) .nil (λ_ _ a t=>.cons a t) h
def zq.rdv {vs:AE}{ds:List V7}(h:zq N H vs ds):JQ K H vs ds :=
 zq.rec (motive_1:=λv d _=>Rdv K H v d) (motive_2:=λvs ds _=>JQ K H vs ds) .non .bl .int .str (λ_ h _ t=>.lst (SqL.of h) t) (λh _ t=>.tup (SqT.of h) t) .nil (λ_ _ a t=>.cons a t) h
def Rdn.mono (s:zo H H')(i:∀a,N a->N' a){v:V}{d:V7}(h:Rdn N H v d):Rdn N' H' v d :=
 Rdn.rec (motive_1:=λv d _=>Rdn N' H' v d) (motive_2:=λvs ds _=>zq N' H' vs ds) .non .bl .int .str (λn h _ t=>.lst (i _ n) (s _ _ h) t) (λh _ t=>.tup (s _ _ h) t) .nil (λ_ _ a t=>.cons a t) h
def zq.mono (s:zo H H')(i:∀a,N a->N' a){vs:AE}{ds:List V7}(h:zq N H vs ds):zq N' H' vs ds :=
 zq.rec (motive_1:=λv d _=>Rdn N' H' v d) (motive_2:=λvs ds _=>zq N' H' vs ds) .non .bl .int .str (λn h _ t=>.lst (i _ n) (s _ _ h) t) (λh _ t=>.tup (s _ _ h) t) .nil (λ_ _ a t=>.cons a t) h
def zq.into {D:Addr}{o:HO}{old:AE}(hD:H D=some (.lst old))(i:∀a,N a->a≠D){vs:AE}{ds:List V7}(h:zq N H vs ds):zq N (upd H D o) vs ds :=
 zq.rec (motive_1:=λv d _=>Rdn N (upd H D o) v d) (motive_2:=λvs ds _=>zq N (upd H D o) vs ds) .non .bl .int .str (λn h _ t=>.lst n (by rw[zf (i _ n)];exact h) t) (λh _ t=>.tup (by rw[zf (zeP h hD (by intro z;cases z))];exact h) t) .nil (λ_ _ a t=>.cons a t) h
def Rdn.keep (s:zo H H'){v:V}{d:V7}(h:Rdn N H v d):Rdn N H' v d:=h.mono s λ_ n=>n
def zq.keep (s:zo H H'){vs:AE}{ds:List V7}(h:zq N H vs ds):zq N H' vs ds:=h.mono s λ_ n=>n
def zq.append {vs ws:AE}{ds es:List V7}(h:zq N H vs ds)(k:zq N H ws es):zq N H (vs++ws) (ds++es) :=
 zq.rec (motive_1:=λ_ _ _=>True) (motive_2:=λvs ds _=>zq N H (vs++ws) (ds++es))
  trivial (λ_=>trivial) (λ_=>trivial) (λ_=>trivial) (λ_ _ _ _=>trivial) (λ_ _ _=>trivial) k (λa _ _ t=>.cons a t) h
def zq.snoc {vs:AE}{ds:List V7}{v:V}{d:V7}(h:zq N H vs ds)(k:Rdn N H v d):zq N H (vs++[v]) (ds++[d]):=h.append (.cons k .nil)
def zq.paired {vs:AE}{ds:List V7}(h:zq N H vs ds):Xl (Rdn N H) vs ds :=
 zq.rec (motive_1:=λ_ _ _=>True) (motive_2:=λvs ds _=>Xl (Rdn N H) vs ds)
  trivial (λ_=>trivial) (λ_=>trivial) (λ_=>trivial) (λ_ _ _ _=>trivial) (λ_ _ _=>trivial) .nil (λa _ _ t=>.cons a t) h
theorem zq.length {vs:AE}{ds:List V7}(h:zq N H vs ds):vs.length=ds.length:=Paired.length h.paired
def zq.get {vs:AE}{ds:List V7}{i:Nat}{v:V}(h:zq N H vs ds)(e:vs[i]?=some v):∃d,ds[i]?=some d/\Rdn N H v d:=YY h.paired e
end
section
variable {K:XW}{g:TG}{tc:TT}{te:TE}{Q:VK}{σ0:St}{H1:Hp}{D:Addr}
def zms (N:Addr->Prop)(inv:St->Prop)(H:Hp)(o:Option V7)(Y:St->V->Hp->Prop):Prop:=∀d y σ2 H5,o=some d->inv σ2->zo H H5->Rdn N H5 y d->Y σ2 y H5
def zoK (inv:St->Prop)(H:Hp)(o:Option V7)(Z:St->Hp->Prop):Prop:=∀ σ2 H4,o=none->inv σ2->zo H H4->Z σ2 H4
def z9 {a:Addr}{xs:AE}(N:Addr->Prop)(outs:List (Option V7))(inv:St->Prop)(hD:H1 D=none)(hN:∀a,N a->a≠D)(h0:inv σ0)(hlen:outs.length=xs.length)(hz:xs.length<=100000)
  (hl:SqL K H1 a xs)
  (hs:∀(i:Nat) (x:V) (o:Option V7) (σ:St) (H:Hp),xs[i]?=some x->outs[i]?=some o->zo H1 H->H D≠none->inv σ->∀Y Z,zms N inv H o Y->zoK inv H o Z ->
   g x σ H fun σ2 H3=>tc σ2 H3 λb H4=>if b=true then te σ2 H4 λy H5=>Y σ2 y H5 else Z σ2 H4)
  (hd:∀ys H',zo H1 H'->H' D=some (.lst ys)->zq N H' ys (outs.filterMap id)->Q (.ref D) H'):yk (Itl K a) g tc te Q D σ0 (upd H1 D (.lst [])):=by
 refine qE (K:=K) (a:=a) (xs:=xs) (λi σ H'=>inv σ/\zo H1 H'/\∃ys,H' D=some (.lst ys)/\ys.length<=i/\zq N H' ys ((outs.take i).filterMap id)) ⟨h0,zc hD,[],zb,XV _,.nil⟩ (λi σ H' _ ⟨_,s,_⟩=>s.seq hl) ?_ ?_
 .rintro i x σ H hx ⟨hi,s,ys,hy,yl,hr⟩;have hil:i<xs.length:=(X5.mp hx).1;obtain⟨o,ho⟩:∃o,outs[i]?=some o:=⟨outs[i]'(by lia),XX (by lia)⟩;have step:(outs.take (i+1)).filterMap id=(outs.take i).filterMap id++o.toList:=by
   rw[Xc,ho,List.filterMap_append];cases o<;>rfl
  refine hs i x o σ H hx ho s (by rw[hy];exact λz=>nomatch z) hi _ _ (λd y σ2 H5 e hi2 s5 hr5=>?_) (fun σ2 H4 e hi2 s4=>?_)
  .subst e;refine⟨ys,s5 _ _ hy,Xw yl (Xs hil (XZ hz (by decide))),hi2,λb ob e=>?_,ys++[y],zb,?_,?_⟩
   .rw[zf (zg e hD)];exact s5 _ _ (s _ _ e)
   .rw[X0];exact Pj yl 1
   .rw[step];exact zq.into (s5 _ _ hy) hN (zq.snoc (hr.keep s5) hr5)
  .subst e;refine⟨hi2,s.trans s4,ys,s4 _ _ hy,T6 yl,?_⟩;rw[step];simpa using hr.keep s4
 .rintro σ H ⟨_,s,ys,hy,_,hr⟩;rw[<- hlen,Xz] at hr;exact hd ys H s hy hr
def zgr {a:Addr}{xs:AE}(Pv:Nat->St->Hp->Prop){H:Hp}(h0:Pv 0 σ0 H)(hl:∀i σ H,i<=xs.length->Pv i σ H->SqL K H a xs)
  (hs:∀i x T σ H,xs[i]?=some x->H T=none->Pv i σ H->g (.ref T) σ (upd H T (.tup [.int i,x])) fun σ2 H3=>tc σ2 H3 λb H4=>if b=true then te σ2 H4 λy H5=>∃ys,H5 D=some (.lst ys)/\ys.length<Xq/\Pv (i+1) σ2 (upd H5 D (.lst (ys++[y]))) else Pv (i+1) σ2 H4)
  (hd:∀ σ H,Pv xs.length σ H->Q (.ref D) H):yk (Ite K a) g tc te Q D σ0 H:=by
 refine⟨λi m σ H=>m=xs.length-i/\i<=xs.length/\Pv i σ H,⟨xs.length,by simp,WT _,h0⟩,?_⟩;rintro i m σ H ⟨rfl,hi,p⟩;have q:=hl i σ H hi p;by_cases hlt:i<xs.length
 .refine .inr ⟨⟨xs,q,hlt⟩,Pv (i+1),fun σ' H' p'=>⟨xs.length-(i+1),by lia,rfl,hlt,p'⟩,λx H' y=>?_⟩;obtain⟨T,rfl,hT,y⟩:=y;obtain⟨v,hv,rfl⟩:=y xs q;exact hs i v T σ H hv hT p
 .have e:i=xs.length:=by lia
  subst e;exact .inl ⟨⟨xs,q,rfl⟩,hd σ H p⟩
def xU {i:Nat}{v:V}{σ:St}{H:Hp}{A B:St->Hp->Prop}(h:A (σ.set i (some v)) H):jN i v σ H fun σ2 H3=>zj0 σ2 H3 λb H4=>if b=true then A σ2 H4 else B σ2 H4:=by
 show if true=true then A (σ.set i (some v)) H else B (σ.set i (some v)) H
 exact za6 h
end
def xH:List X8:=[.type "ValueError",.type "Exception",.type "BaseException",.type "object"]
structure Fly (P:Xm)(w:WZ)(outer:List Env)(H:Hp)(s:X7)(e C:Addr)(a0:X8)(B:Heap)(H':Hp)(s':X7):Prop where
 fly:OI B outer e (.ref C) a0 s'.heap
 os:s'.os=s.os
 bare:Te s'.gens
 un:Un (frs outer) [] H H' s.heap s'.heap
 ok:HOk P w H' B
 kB:∀b o,s.heap.get? b=some o->H b=none->b ∉ frs outer->B.get? b=some o
 tB:∀b o,s.heap.get? b=some o->b ∉ frs outer->∃o',B.get? b=some o'
 new:s.heap.get? e=none
 free:H' e=none
def CXE (P:Xm)(w:WZ):CXT:=λouter H s E x s'=>∃(e C:Addr) (a0:X8) (B:Heap) (H':Hp),x=.ref e/\Fly P w outer H s e C a0 B H' s'/\E (.ref C) none H'
theorem zj7 {P:Xm}{w:WZ}{H:Hp}{h:Heap}{a:Addr}:∀{o:HO},jt P w H h a o->∃ob,h.get? a=some ob
 | .lst _,x=>by obtain⟨_,_,_,_,q⟩:=x;exact⟨_,q⟩
 | .tup _,x=>by obtain⟨_,_,_,ob,q,_⟩:=x;exact⟨ob,q⟩
 | .dK _,x=>by obtain⟨_,_,_,_,ob,_,_,q,_⟩:=x;exact⟨ob,q⟩
 | .dT _,x=>by obtain⟨_,_,_,_,ob,_,_,q,_⟩:=x;exact⟨ob,q⟩
 | .set _ _,x=>by obtain⟨ob,_,_,_,q,_⟩:=x;exact⟨ob,q⟩
 | .ins _ _ _,x=>by obtain⟨_,_,_,q,_⟩:=x;exact⟨_,q⟩
 | .own _,x=>x
 | .xd _,x=>by obtain⟨_,⟨ob,_,_,q,_⟩,_⟩:=x;exact⟨ob,q⟩
 | .met _ _,x=>⟨_,x⟩
 | .rng _ _,x=>by obtain⟨_,_,_,q⟩:=x;exact⟨_,q⟩
 | .frz _ _,x=>⟨_,x.1⟩
 | .tbl _,x=>⟨_,x⟩
 | .ext _,x=>x.2.1
section
variable {X:Cx}{bQ:List (Addr×Obj)}{σ:St}{H H':Hp}{s s':X7}{e C:Addr}{a0:X8}{B h2:Heap}
def Inv.notLoc (I:Inv X bQ σ H s){b:Addr}{o:Obj}(q:X.s₀.heap.get? b=some o):b≠X.env.locals:=λz=>VM _ (Xs (z ▸ XE q) I.ok.above)
def Inv.notStk (I:Inv X bQ σ H s){b:Addr}{o:Obj}(q:X.s₀.heap.get? b=some o)(hb:b ∉ X.fs):b ∉ frs X.stack:=λz=>by
 rcases XG.mp (I.stkSub b z) with r | r
 .exact I.notLoc q r
 .exact hb r
def Inv.flies (I:Inv X bQ σ H s)(hex:X.ex=[])(F:OI B X.outer e (.ref C) a0 h2)(up:s'.heap.UpToSlots h2)(os:s'.os=s.os)(bare:Te s'.gens)(un:Un (frs X.stack) [] H H' s.heap s'.heap)(ok:HOk X.prog X.w H' B)
  (kB:∀b o,s.heap.get? b=some o->H b=none->b ∉ frs X.stack->B.get? b=some o) (tB:∀b o,s.heap.get? b=some o->b ∉ frs X.stack->∃o',B.get? b=some o') (new:s.heap.get? e=none) (free:H' e=none) :
  Fly X.prog X.w X.outer X.H₀ X.s₀ e C a0 B H' { s' with heap:=h2 }:=by
 have nx:∀b,b ∉ X.ex:=λb z=>by rw[hex] at z;cases z
 have keep:∀b o,X.s₀.heap.get? b=some o->X.H₀ b=none->b ∉ X.fs->B.get? b=some o:=λb o q n hb =>
  kB b o (I.base.keep b o q n hb (nx b)) (I.base.free b o q n (nx b)) (I.notStk q hb)
 have there:∀b o,X.s₀.heap.get? b=some o->b ∉ X.fs->∃o',B.get? b=some o':=λb o q hb=>by
  obtain⟨o',q'⟩:=I.base.there b o q (nx b);exact tB b o' q' (I.notStk q hb)
 have slot:∀b o,X.s₀.heap.get? b=some o->b∈X.fs->∃sl,h2.get? b=some { o with slots:=sl }:=λb o q hb=>by
  obtain⟨_,o1,q1,nf⟩:=I.ok.funs.mem hb;rw[q] at q1;cases q1;obtain⟨sl,q2⟩:=I.base.slot b o q (I.ok.frf b hb) hb (nx b);obtain⟨sl2,q3⟩:=un.any q2 (I.base.free b o q (I.ok.frf b hb) (nx b)) (λz=>nomatch z);obtain⟨sl3,q4⟩:=up b _ q3 nf;exact⟨sl3,q4⟩
 refine⟨F,os.trans I.os,bare,⟨λb o q n hb _=>F.1 b o (keep b o q n hb),λb o q _ hb _=>slot b o q hb,λb o q n _=>?_,λb o q _=>?_,λb xs q=>un.tups b xs (I.base.tups b xs q),λb o u q=>un.frzs b o u (I.base.frzs b o u q),λb ps q=>?_⟩,ok,keep,there,?_,free⟩
 .obtain⟨o',q'⟩:=I.base.there b o q (nx b);exact un.free b o' q' (I.base.free b o q n (nx b)) λz=>nomatch z
 .by_cases hb:b∈X.fs
  .obtain⟨sl,r⟩:=slot b o q hb;exact⟨_,r⟩
  .obtain⟨o',r⟩:=there b o q hb;exact⟨o',F.1 b o' r⟩
 .obtain⟨m1,r1⟩:=I.base.tbls b ps q;obtain⟨m2,r2⟩:=un.tbls b _ r1;exact⟨m1++m2,by rw[r2,Array.append_assoc]⟩
 .cases q:X.s₀.heap.get? e with
  | none=>rfl
  | some o =>
   obtain⟨o',q'⟩:=I.base.there e o q (nx e);rw[new] at q';cases q'
structure jB (X:Cx)(E:XK):Prop where
 stk:X.stack=X.env::X.outer
 fr:X.env.frame=some X.env.locals
 ex:X.ex=[]
 xe:X.xe=λx s'=>Xk (Xn X.prog X.w) X.A (leaving X.env x) (λ_ s''=>CXE X.prog X.w X.outer X.H₀ X.s₀ E x s'') (λx' s''=>CXE X.prog X.w X.outer X.H₀ X.s₀ E x' s'') s'
def qy {P:Xm}{w:WZ}{K:XW}{mg:Str->Option X8}{base:Heap}{N:AD}{qual:Str}{scope:Vi}{f:Addr}{cd:X8}{A:WR}{outer:List Env}{s:X7}{H:Hp}{E:XK} :
  jB (zeV (CXE P w) P w K mg base N qual scope f cd A outer s H E) E:=⟨rfl,rfl,rfl,rfl⟩
def zoL {l:List Env}:∀env∈l,∀a,env.frame=some a->a∈frs l:=λenv he a hf=>Vm.mpr ⟨env,he,hf⟩
def jB.made {E:XK}(L:jB X E)(I:Inv X bQ σ H s){h1:Heap}{vs:List X8}(hx:Heap.MadeExcOf s.heap h1 e (.ref C) vs)(hE:E (.ref C) none H):X.xe (.ref e) { s with heap:=h1 }:=by
 rw[L.xe];have hs:=I.stack;have nb:∀a o,H a=some o->a ∉ frs X.stack:=λa o q z=>by
  rw[I.stkFree a z] at q;cases q
 have own:∀a b,H b=some (.own a)->b ∉ frs X.stack:=λa b q=>nb b _ q;have fresh:H e=none:=by
  cases q:H e with
  | none=>rfl
  | some o =>
   obtain⟨o',q'⟩:∃o',s.heap.get? e=some o':=by
    exact zj7 (I.hok e o q)
   rw[hx.new] at q';cases q'
 refine wpAny_leaves_madeW (base:=PySem.W.hideAll s.heap (frs X.stack)) (L:=X.env.locals) (by rw[I.ok.frames,L.stk]) L.fr (λb o q=>PySem.W.of_hideAll _ q) (PySem.W.funFrames_hide (by rw[<- L.stk];exact hs) (by rw[<- L.stk];exact zoL)) hx λh' t x1 x2 x3 x4=>?_;refine⟨e,C,_,_,H,rfl,I.flies (s':={ s with heap:=h1 }) L.ex x1 x4 rfl I.bare (Un.kept hx.keeps) ?_ (λb o q _ hb=>TF _ q hb) (λb o q hb=>⟨o,TF _ q hb⟩) hx.new fresh,hE⟩;exact λa o q=>(I.hok a o q).stay (λb u hb r=>TF _ r (by
  rcases hb with hb | hb
  .rw[hb];exact nb a o q
  .exact own a b hb)) (λ_ r=>r) λ_ _ r=>r
def jB.passes {E:XK}(L:jB X E):Passes (CXE X.prog X.w) X E:=by
 intro bQ σ H s x s' I h;obtain⟨e,C,a0,B,H',rfl,F,hE⟩:=h;rw[L.xe];have ff:=F.fly;rw[L.stk] at ff;refine wpAny_leaves_onW (by rw[I.ok.frames,L.stk]) L.fr ff λh2 x1 x2=>?_;exact⟨e,C,a0,B,H',rfl,I.flies L.ex x1 x2 F.os F.bare F.un F.ok F.kB F.tB F.new F.free,hE⟩
def jB.own {E:XK}(L:jB X E):PassesOwn (Xn X.prog X.w) X.A X.env X.xe:=by
 rw[L.xe];exact PassesOwn.leaving
end
structure ql (K:XW)(mg:Str->Option X8)(x:Str)(C:Addr):Prop where
 g:mg x=some (.ref C)
 q:WH K C xH "ValueError.__new__"=true
structure znL (h:Heap)(C:Addr)(bm:List X8):Prop where
 ex:∃N nm qn bs hdct sn sub ab col dd k0 k1 k2 k3 k5 mN,h.get? C=some (excClassObj nm qn C N bs bm hdct sn sub ab col dd k0 k1 k2 k3 k5 "ValueError.__new__")/\h.Ns N mN/\mN "__init__"=none
 tl:OwnTail h xH bm
def znM {K:XW}{h:Heap}{C:Addr}(kin:K.In h)(hq:WH K C xH "ValueError.__new__"=true):∃bm,znL h C bm:=by
 unfold WH at hq;split at hq
 .rename_i dd cd sl look;split at hq
  .rename_i C' bm k0 k1 k2 k3 n k5 em es;simp only[Ws,beq_iff_eq,WJ] at hq;obtain⟨⟨⟨⟨⟨rfl,rfl⟩,nodel⟩,tailok⟩,nsok⟩,noinit⟩:=hq;obtain⟨nm,bs,mro,ns,qn,hd,sn,sub,ab,col,del⟩:=cd;dsimp only at em nodel nsok noinit;subst em nodel;have esl:sl=#[k0,k1,k2,k3,some (.builtin "ValueError.__new__"),k5]:=by
    obtain⟨l⟩:=sl;simp only at es;rw[es]
   subst esl;exact⟨bm,⟨ns,nm,qn,bs,hd,sn,sub,ab,col,dd,k0,k1,k2,k3,k5,_,kin _ _ look,.of_isNs (PySem.W.isNs_of_in kin nsok),PySem.W.nsMap_none_of_in kin nsok noinit⟩,PySem.W.tail_of_in kin tailok⟩
  .cases hq
 .cases hq
section
variable {X:Cx}
def zoM (E:XK)(C:Addr)(t:TA):TS:=λ_ σ H=>t σ H λvs H1=>vs.length<=Xq/\E (.ref C) none H1
def QK {x:Str}{C:Addr}{np cpos pos:Pos}{e0:Expr}{rest:List Expr}{t:TA}{E:XK}(L:jB X E)(O:ql X.K X.mg x C)(hg:Gl X x)(hc:X.calm=true)(ha:PA X (e0::rest) t)
  (he:WY (e0::rest) X.env=(false,eval e0 X.env)::WY rest X.env:=by rfl) (hp:(Tr cpos (WY rest X.env)).any (·.1)=false:=by rfl) (hdb:(x==("__debug__":Str))=false:=by decide) :
  PS X (.Raise (some (.Call (.Name x np) (e0::rest) [] cpos)) none pos) (zoM E C t):=by
 intro bQ s σ H D I h;obtain⟨bm,⟨N,nm,qn,bs,hdct,sn,sub,ab,col,dd,k0,k1,k2,k3,k5,mN,hC,hN,hni⟩,T⟩:=znM I.ok.mod.kin O.q;refine wpAny_Raise_call_subU (C:=C) (nm:=nm) (q:=qn) (N:=N) (bs:=bs) (bm:=bm) (hdct:=hdct) (sn:=sn) (sub:=sub) (ab:=ab) (col:=col) (dd:=dd) (k0:=k0) (k1:=k1) (k2:=k2) (k3:=k3) (k5:=k5)
  RU (by decide) RU (mN:=mN) (T.hasType PySem.F.excBase_ValueError.hasBase) (I.ok.hd hc) (by rw[he];show (false || (Tr cpos (WY rest X.env)).any (·.1))=false;rw[hp];rfl) hni (QE I hg O.g ⟨rfl,?_⟩ hdb)
 have a:=ha cpos bQ s σ H _ I h;rw[he] at a ⊢;refine Su (thn a λus s2 ⟨vs,H1,I1,r,hz,q⟩=>?_);exact⟨rfl,by rw[<- r.length];exact hz,I1.bk _ _ hC,hN.keeps I1.bk,T.keeps I1.bk,λh' e hx=>L.made I1 hx q⟩
def markX (X:Cx)(e:Addr):Cx:={ X with A:=X.A.mark (some (.ref e)),calm:=false,xe:=λ_ _=>False }
variable {bQ:List (Addr×Obj)}{σ:St}{H:Hp}{s:X7}
def Cx.Ok.mark (ok:X.Ok)(e:Addr):(markX X e).Ok :=
 ⟨ok.mod,ok.kind,ok.glob,ok.blt,ok.above,ok.inj,ok.has,ok.cab,(λz=>nomatch z),ok.frames,ok.stk,ok.exf,ok.bs,ok.bsz,ok.noex,ok.exfs,ok.funs,ok.frf⟩
theorem Inv.mark (I:Inv X bQ σ H s)(e:Addr):Inv (markX X e) bQ σ H s:=⟨I.ok.mark e,I.os,I.bare,I.base,I.loc,I.cell,I.free,I.zU,I.pin,I.hok,I.len⟩
def Inv.unmark {e:Addr}(I:Inv (markX X e) bQ σ H s)(ok:X.Ok):Inv X bQ σ H s:=⟨ok,I.os,I.bare,I.base,I.loc,I.cell,I.free,I.zU,I.pin,I.hok,I.len⟩
def zoN (e C:Addr)(h:Heap):Prop:=∃ob vs,h.get? e=some ob/\ob.cls=.ref C/\ob.data=.fields vs
def exO (e C:Addr):HO:=.ext (zoN e C)
def Inv.nameGoes {M:O2}{A:WR}{E:X8->X7->Prop}{j:Nat}{n:Str}{pos:Pos}{Q:Unit->X7->Prop}(I:Inv X bQ σ H s)(hN:X.N.Nodup)(hj:X.N[j]?=some n)(hl:X.env.scope.names.lookup n=some .local)
  (h:∀s',Inv X bQ (σ.set j none) H s'->Q () s'):Xk M A (do bindName X.env n .none;unbindBehindTheSuite X.env n pos) Q E s:=by
 obtain⟨m,hn,hlk⟩:=id I.loc;refine wpAny_nameGoes_keeps hl hn (by rw[I.ok.kind];rfl) λh' v hn' sb=>h _ ?_;have other:∀b o,b≠X.env.locals->s.heap.get? b=some o->h'.get? b=some o:=λb o hb q=>(sb.2 b hb).trans q;obtain⟨oL,_,_,hoL,_⟩:=id hn;have low:∀b o,X.s₀.heap.get? b=some o->b≠X.env.locals:=λb o q=>I.notLoc q;refine⟨I.ok,I.os,I.bare,⟨λb o q n hb hx=>other b o (low b o q) (I.base.keep b o q n hb hx),λb o q n hb hx=>?_,I.base.free,λb o q hx=>?_,I.base.tups,I.base.frzs,I.base.tbls⟩,⟨_,hn',λi y v' e1 e2 e3=>?_⟩,λy c q=>?_,I.free,I.zU,λp hp=>?_,λb ob q=>?_,by simpa using I.len⟩
 .obtain⟨sl,r⟩:=I.base.slot b o q n hb hx;exact⟨sl,other b _ (low b o q) r⟩
 .obtain⟨o',r⟩:=I.base.there b o q hx;exact⟨o',other b _ (low b o q) r⟩
 .by_cases hij:i=j
  .subst hij;have hiσ:i < σ.length:=by rw[I.len];exact(X5.mp hj).1
   rw[SY hiσ] at e2;cases e2
  .rw[Sv (Vr hij)] at e2;obtain⟨u',r',z⟩:=hlk i y v' e1 e2 e3;refine⟨u',r',?_⟩;rcases z with ⟨k,q⟩ | ⟨k,c,q,z⟩
   .refine .inl ⟨k,?_⟩;have ny:y≠n:=λq=>hij (zbx hN e1 (q ▸ hj));simp[ny,q]
   .exact .inr ⟨k,c,q,z.sameBut sb (I.cne y c q)⟩
 .obtain⟨w',z⟩:=I.cell y c q;exact⟨w',z.sameBut sb (I.cne y c q)⟩
 .obtain⟨q,n',ne,nf,d⟩:=I.pin p hp;exact⟨other p.1 _ ne q,n',ne,nf,d⟩
 .refine(I.hok b ob q).stay (λc w' hc r=>other c w' ?_ r) (λ_ r=>r) λ_ _ r=>r;rintro rfl;rcases hc with rfl | hc
  .rw[I.free] at q;cases q
  .rw[I.free] at hc;cases hc
def Fly.caught {H1 H':Hp}{s1 s':X7}{e C:Addr}{a0:X8}{B h:Heap}(I:Inv X bQ σ H1 s1)(F:Fly X.prog X.w X.stack H1 s1 e C a0 B H' s')(fl:OI B X.stack e (.ref C) a0 h)(up:s'.heap.UpToSlots h) :
  Inv X bQ σ (upd H' e (exO e C)) { s' with heap:=h }:=by
 have ne:∀b o,s1.heap.get? b=some o->b≠e:=λb o q z=>by
  rw[z,F.new] at q;cases q
 have nt:∀b u,H' b=some u->b≠e:=λb u q=>zg q F.free;have slot:∀b o,s1.heap.get? b=some o->H1 b=none->b∈frs X.stack->∃sl,h.get? b=some { o with slots:=sl }:=λb o q n hb=>by
  obtain⟨_,o1,q1,nf⟩:=I.stack.mem hb;rw[q] at q1;cases q1;obtain⟨sl,q2⟩:=F.un.slot b o q n hb (λz=>nomatch z);obtain⟨sl2,q3⟩:=up b _ q2 nf;exact⟨sl2,q3⟩
 refine I.call' (ch:=[]) F.os ⟨λb o q n hb _=>fl.1 b o (F.kB b o q n hb),λb o q n hb _=>slot b o q n hb,λb o q n _=>?_,λb o q _=>?_,λb xs q=>?_,λb o u q=>?_,λb ps q=>?_⟩ (λb ob q=>?_) F.bare λb z=>nomatch z
 .rw[zf (ne b o q)];exact F.un.free b o q n λz=>nomatch z
 .by_cases hb:b∈frs X.stack
  .obtain⟨sl,r⟩:=slot b o q (I.stkFree b hb) hb;exact⟨_,r⟩
  .obtain⟨o',r⟩:=F.tB b o q hb;exact⟨o',fl.1 b o' r⟩
 .have r:=F.un.tups b xs q;rw[zf (nt b _ r)];exact r
 .have r:=F.un.frzs b o u q;rw[zf (nt b _ r)];exact r
 .obtain⟨m,r⟩:=F.un.tbls b ps q;exact⟨m,by rw[zf (nt b _ r)];exact r⟩
 .by_cases hb:b=e
  .subst hb;rw[zb] at q;cases q;obtain⟨oe,vs,q1,q2,q3,_⟩:=fl.first;exact⟨⟨oe,vs,q1,q2,q3⟩,⟨oe,q1⟩,λg1 g2 ⟨o1,v1,r1,r2,r3⟩ k=>⟨o1,v1,k _ r1,r2,r3⟩⟩
  .rw[zf hb] at q;refine(F.ok b ob q).stay (λc u _ r=>fl.1 c u r) (λc r=>?_) λc xs r=>?_
   .rw[zf (nt c _ r)];exact r
   .rw[zf (nt c _ r)];exact r
def zmt {M:O2}{A:WR}{E:X8->X7->Prop}{s:X7}{S e C:Addr}{bm:List X8}{oe:Obj}{Q:Bool->X7->Prop}(O:znL s.heap S bm)(he:s.heap.get? e=some oe)(hcls:oe.cls=.ref C)
  (hL:PySem.W.Looks M s.heap (isSubtype (.ref C) (.ref S)) true) (hq:Q true s):Xk M A (excMatches (.ref e) (.ref S)) Q E s:=by
 obtain⟨⟨N,nm,qn,bs,hdct,sn,sub,ab,col,dd,k0,k1,k2,k3,k5,mN,hS,hN,hni⟩,T⟩:=O;have hb:=T.hasType PySem.F.excBase_ValueError.hasBase;obtain⟨h,g,d,t,os⟩:=s;have hcB:(WA S::bm).contains (.type "BaseException")=true:=by rw[List.contains_cons,hb,Bool.or_true]
 have f:=tc_notTuple;unfold excMatches;repeat (first | (with_reducible refine VR he ?_;rw[hcls]) | with_reducible refine VR hS ?_ | (with_reducible refine wpAny_isSubtype_exc hS ?_;rw[hcB]) | wp_step)
 refine hL A _ E _ (λ_ _ q=>q) ?_;rw[br rfl];exact XS (XS (XS hq))
end
def Fun.okX {P:Xm}{w:WZ}{K:XW}{mg:Str->Option X8}{base:Heap}{x qual:Str}{st:Stmt}{f:Addr}{fd:XD}{N ps:AD}{k:Nat}{sp:Sp}(F:Fun K x qual st f fd)(S:zB N ps (zp st))(len:∀vs H Q E,sp vs H Q E->vs.length=ps.length)
  (hbody:∀(cdv:X8) (A:WR) (outer:List Env) (s:X7) (H:Hp) (vs:AE) (Q:VK) (E:XK),Jx k (A.deeper (Ra qual (zp st) s.heap.objs.size f cdv))->sp vs H Q E ->
   ∃t,PSs (zeV (CXE P w) P w K mg base N qual (zp st) f cdv A outer s H E) (yK st) t/\t { nx:=λ_ H'=>Q .non H',rt:=Q } (start N vs) H):qa P w K mg base (CXE P w) (k+1) f fd ps sp:=by
 obtain⟨oc,od,kV,doc,pm,an,cdv,ct,osl,rfl,lk,hcd⟩:=F.ex;exact znK lk hcd S len λA outer s H vs Q E hr hsp=>hbody cdv A outer s H vs Q E hr hsp
structure Z5 (K:XW)(C:Addr):Prop where
 ga:Wf K (.ref C) "__getattribute__"=some (some (.builtin "BaseException.__getattribute__"))
 gh:Wf K (.ref C) "__getattr__"=some none
 cl:Wf K (.ref C) "__class__"=some (some (.builtin "object.__class__"))
 mb:Wc K C (.type "BaseException")=some true
 mo:Wc K C (.type "object")=some true
 ci:UO K C=true
section
variable {prog:Xm}{w:WZ}{A:WR}{E:X8->X7->Prop}{K:XW}{e C:Addr}
def zcS {R:Rb->X7->Prop}{h:Heap}{g:Array Ut}{d:Oz}{t:Nat}{os:OL}(F:Z5 K C)(kin:K.In h){o:Obj}(hx:h.get? e=some o)(hc:o.cls=.ref C)(hq:R (.ok (.ret (.ref C))) ⟨h,g,d,t,os⟩) :
  T8 (Xn prog w) A (.call (.builtin "getset_descriptor.__get__") ⟨[.builtin "object.__class__",.ref e,.ref C],[]⟩) R ⟨h,g,d,t,os⟩:=by
 have hT5:(⟨h,g,d,t,os⟩:X7).TypeIs (.builtin "object.__class__") "getset_descriptor":=T3;have lo:=Sk (M:=Xn prog w) kin F.mo;rw[<- PySem.F.owner_object_class] at lo;refine TX PySem.F.slot_gs_get.plain PySem.F.entry_gs_get (PySem.F.slot_gs_get.check _ _ _ _ _ _ _ _ hT5 (PySem.F.args_gs_get _ _ _) ?_);repeat (any_goals (first | assumption | (with_reducible refine VR hx ?_;rw[hc]) | wp_step))
 refine lo _ _ _ _ (λ_ _ z=>z) ?_;repeat (any_goals (first | assumption | wp_step))
 refine⟨Code.quiet_builtin _ (by decide+kernel),VJ PySem.F.entry_object_class ?_⟩;repeat (any_goals (first | assumption | (with_reducible refine VR hx ?_;rw[hc]) | wp_step))
def za7 {tk:Tok}{Q:Fin->X7->Prop}{h:Heap}{g:Array Ut}{d:Oz}{t:Nat}{os:OL}(F:Z5 K C)(kin:K.In h){o:Obj}(hx:h.get? e=some o)(hc:o.cls=.ref C)(hq:Q (.done (.ret (.ref C))) ⟨h,g,d,t,os⟩) :
  Xk (Xn prog w) A (UR.«object.__getattribute__» ⟨[.ref e,.str "__class__" tk],[]⟩) Q E ⟨h,g,d,t,os⟩:=by
 have hT5:(⟨h,g,d,t,os⟩:X7).TypeIs (.builtin "object.__class__") "getset_descriptor":=T3;have f5:=T3;have f6:=PySem.F.slot_gs_get.lookup;have f7:=PySem.F.slot_gs_set.lookup;have lc:=Ss (M:=Xn prog w) kin F.cl;repeat (any_goals (first | assumption | (with_reducible refine VR hx ?_;rw[hc]) | wp_step))
 refine lc _ _ _ _ (λ_ _ z=>z) ?_;repeat (any_goals (first | assumption | (with_reducible refine VR hx ?_;rw[hc]) | wp_step))
 refine zcS F kin hx hc ?_;repeat (any_goals (first | assumption | wp_step))
def zeb {M:O2}{nameV:X8}{Q:Unit->X7->Prop}{h:Heap}{g:Array Ut}{d:Oz}{t:Nat}{os:OL}(F:Z5 K C)(kin:K.In h){o:Obj}(hx:h.get? e=some o)(hc:o.cls=.ref C)(hq:Q () ⟨h,g,d,t,os⟩) :
  Xk M A (Rt "BaseException.__getattribute__" ⟨[.ref e,nameV],[]⟩) Q E ⟨h,g,d,t,os⟩:=by
 have kd:builtinKind "BaseException.__getattribute__"=some .slot:=by decide+kernel
 have sp:splitId "BaseException.__getattribute__"=some ("BaseException","__getattribute__"):=by decide+kernel
 have ha:=PySem.F.args_bexc_ga (.ref e) nameV;have lb:=Sk (M:=M) kin F.mb;simp only[Rt,kd,sp];refine ZB ?_;unfold isInstance;repeat (first | (with_reducible refine VR hx ?_;rw[hc]) | wp_step)
 refine lb _ _ _ _ (λ_ _ z=>z) ?_;repeat (any_goals (first | assumption | wp_step))
def zbK {tk:Tok}{R:Rb->X7->Prop}{h:Heap}{g:Array Ut}{d:Oz}{t:Nat}{os:OL}(F:Z5 K C)(kin:K.In h){o:Obj}(hx:h.get? e=some o)(hc:o.cls=.ref C)(hq:R (.ok (.ret (.ref C))) ⟨h,g,d,t,os⟩) :
  T8 (Xn prog w) A (.call (.builtin "BaseException.__getattribute__") ⟨[.ref e,.str "__class__" tk],[]⟩) R ⟨h,g,d,t,os⟩ :=
 TX PySem.F.attr_ValueError.ga.plain PySem.F.entry_bexc_ga (zeb F kin hx hc (za7 F kin hx hc hq))
def zbL {Q:Option X8->X7->Prop}{h:Heap}{g:Array Ut}{d:Oz}{t:Nat}{os:OL}(F:Z5 K C)(kin:K.In h){o:Obj}(hx:h.get? e=some o)(hc:o.cls=.ref C)(hq:Q (some (.ref C)) ⟨h,g,d,t+1,os⟩) :
  Xk (Xn prog w) A (Ot (.ref e) "__class__") Q E ⟨h,g,d,t,os⟩:=by
 have f3:=PySem.F.attr_ValueError.ga.bind (.ref e);have hx2:(Tv "BaseException.__getattribute__" == Tv "object.__getattribute__")=false:=by decide+kernel
 have hx1:(onTheHeap (WA C)&&Tv "BaseException.__getattribute__" == Tv "object.__getattribute__")=false:=by rw[hx2];rfl
 have l1:=Ss (M:=Xn prog w) kin F.ga;have l2:=Ss (M:=Xn prog w) kin F.gh;unfold Ot getAttrBy? getAttrBy;repeat (any_goals (first | assumption | (with_reducible refine VR hx ?_;rw[hc]) | wp_step))
 refine l1 _ _ _ _ (λ_ _ z=>z) ?_;repeat (any_goals (first | assumption | (with_reducible refine VR hx ?_;rw[hc]) | wp_step))
 refine l2 _ _ _ _ (λ_ _ z=>z) ?_;repeat (any_goals (first | assumption | (with_reducible refine VR hx ?_;rw[hc]) | wp_step))
 refine zbK F kin hx hc ?_;repeat (any_goals (first | assumption | wp_step))
def zj8 (F:Z5 K C):PySem.W.KitX K (.ref e) (.ref C) (zoN e C) where
 ty:=λM h _ p=>by
  obtain⟨ob,vs,q1,q2,_⟩:=p;exact q2 ▸ (PySem.W.Looks.ld q1).andThen .now
 it:=λM h kin _=>by
  have ci:=F.ci;unfold UO PySem.W.clsIn at ci;split at ci
  .rename_i c1 d1 cd1 sl1 lk;intro A1 Q1 E1 s1 k q;unfold isType loadHead;exact ZB (wpAny_loadPart (k _ _ (kin _ _ lk)) (XS q))
  .cases ci
 ne:=λh tp dd its n sl kin htp=>by
  refine XC.mpr λq=>?_;have ec:C=tp:=Value.ref.inj (beq_iff_eq.mp q);subst ec;have ci:=F.ci;unfold UO PySem.W.clsIn at ci;split at ci
  .rename_i c1 d1 cd1 sl1 lk;have z:=(kin _ _ lk).symm.trans htp;cases z
  .cases ci
 ca:=λ{prog w A E Q s} kin p k=>by
  obtain⟨ob,vs,q1,q2,_⟩:=p;obtain⟨h,g,d,t,os⟩:=s;exact zbL F kin q1 q2 k
def zj9:V->X8
 | .ref D=>.ref D
 | .ty n=>.type n
 | _=>.none
def qu {X:Cx}(hK:X.K=K):jj X (.builtin "isinstance") (λxs H Q=>∃e C c b,xs=[.ref e,c]/\H e=some (exO e C)/\Z5 K C/\((∃D,c=.ref D)\/∃n,c=.ty n)/\XJ K (.ref C) (zj9 c)=some b/\Q (.bl b) H):=by
 intro bQ s σ H xs us Q I r h;obtain⟨e,C,c,b,rfl,he,F,hc,hk,q⟩:=h;obtain⟨u,u2,rfl,rx,ru⟩:=vals2 r;cases rx;have p:zoN e C s.heap:=(I.hok e _ he).1;have kin:=I.kIn;rw[hK] at kin;have e2:u2=zj9 c:=by
  rcases hc with ⟨D,rfl⟩ | ⟨n,rfl⟩
  .cases ru;rfl
  .cases ru;rfl
 subst e2;exact PySem.W.kia_one (zj8 F) kin p hk (λz=>nomatch z) λtk=>⟨.bl b,H,I.tok tk,rfl,q⟩
end
section
variable {X:Cx}{tg iter elt:Expr}{ifs:List Expr}{scope:Vi}{pos:Pos}{N:AD}{src:List (Option Nat)}{cl:List (Str×Addr)}{wi:TI}{g:TG}{tc:TT}{te:TE}
def znN {bQ:List (Addr×Obj)}{σ:St}{D:Ends}{i:Nat}{x:Str}{xpos:Pos}(hN:X.N.Nodup)(hix:X.N[i]?=some x)(hlx:X.env.scope.names.lookup x=some .local):zmo X N scope bQ σ (some (Ow (.Name x xpos) X.env)) (λ_ s''=>∃ σ' H',Inv X bQ σ' H' s''/\D.nx σ' H') λv H'=>jN i v σ H' D.nx:=by
 intro cl fp s2 H2 C H3 s4 f fn xe σ3 hC I2 f2 I4 qn;obtain⟨m,hm,_⟩:=I4.loc;have ltC:s2.heap.objs.size<C:=by rw[hC];exact SJ _
 have IX:Inv X bQ σ H3 s4:=I2.call' (s':=s4) (ch:=fp) I4.os I4.base I4.hok I4.bare λb hb=>⟨(f2 b hb).2.2.2.1,(f2 b hb).2.1,(f2 b hb).2.2.2.2.1,(f2 b hb).2.2.2.2.2⟩;have ne:∀b o,s2.heap.get? b=some o->b≠C:=λb o e=>Xe (TM (XE e) ltC);have cellLt:∀y c,X.env.cells.lookup y=some c->c≠C:=λy c e=>by
  obtain⟨_,o,e1,_⟩:=I2.cell y c e;exact ne c o e1
 have locNe:X.env.locals≠C:=Xe (TM I2.lt ltC);refine wpAny_assign_Name (zda IX hN hix (.inl hlx) (v:=.ref s2.heap.objs.size) rfl (λs5 I5 ⟨a5,sb5,ha5⟩=>?_) (.inr hlx));have na:a5≠C:=ha5.elim (λz=>by rw[z];exact locNe) (cellLt _ _);exact⟨m,hm.sameBut sb5 (Vr na),λh' sb=>⟨_,H3,I5.turned (t':=s5.toks) (it:=C) (λb o hb e=>(sb.2 b hb).trans e) I4.free (Vr locNe) (.inr (XZ I2.sz (TR ltC))) cellLt λp hp=>ne _ _ (I2.pin p hp).1,qn⟩⟩
def ze6 {bQ:List (Addr×Obj)}{s:X7}{x:Str}{xpos spos:Pos}{D:Ends}(hsw:Th (.ListComp elt [⟨tg,iter,ifs,0⟩] scope pos) (some (.Name x xpos)) spos.line X.env=pure true)
  (h:Xk (Xn X.prog X.w) X.A (SD (.ListComp elt [⟨tg,iter,ifs,0⟩] scope pos) scope X.env (firstIterPos [⟨tg,iter,ifs,0⟩] pos) (newList []) false (eval iter X.env) (some (Ow (.Name x xpos) X.env))) (λ_ s''=>∃ σ' H',Inv X bQ σ' H' s''/\D.nx σ' H') X.xe s):Xk (Xn X.prog X.w) X.A (exec (.Assign [.Name x xpos] (.ListComp elt [⟨tg,iter,ifs,0⟩] scope pos) spos) X.env) (SP X bQ D) X.xe s:=by
 rw[exec_Assign_Name_used _ _ _ _ hsw];refine ZB (SG (ZB ?_));unfold evalThenUse;exact ZB (VU h (λ_ s'' ⟨σ',H',I',q'⟩=>XS (XS ⟨σ',H',I',q'⟩)) λ_ _ z=>z)
def zmu {i:Nat}{x:Str}{xpos spos:Pos}(hN:X.N.Nodup)(hix:X.N[i]?=some x)(hlx:X.env.scope.names.lookup x=some .local)(ok:jM X N src scope cl)(hcalm:X.calm=true)(hi:PI X tg iter wi)
  (hg:∀C fp bQ s H,PG (qU X N scope cl C fp bQ s H) tg g) (hc:∀C fp bQ s H,YT (qU X N scope cl C fp bQ s H) ifs tc) (he:∀C fp bQ s H,PE (qU X N scope cl C fp bQ s H) elt te)
  (hs:∀x,Wq iter X.env x=pure x:=by intro _;rfl) (hsw:Th (.ListComp elt [⟨tg,iter,ifs,0⟩] scope pos) (some (.Name x xpos)) spos.line X.env=pure true:=by rfl) :
  PS X (.Assign [.Name x xpos] (.ListComp elt [⟨tg,iter,ifs,0⟩] scope pos) spos) (zgi (ZX wi src g tc te) (jN i)):=λ_ _ _ _ _ I h=>ze6 hsw (ze0 ok hcalm hi hg hc he hs I h (znN hN hix hlx))
end
def jM.byRfl {X:Cx}{N:AD}{src:List (Option Nat)}{scope:Vi}(kind:scope.kind=.function)(nocell:∀y∈scope.names,y.2 ≠ .cell)(names:∀y∈scope.names,y.2=.local->scope.names.lookup y.1=some .local)
  (hs:(scope.names.all λy=>y.2 != .free || (X.env.cells.lookup y.1).isSome)=true) (len:src.length=N.length)
  (pc:((N.zip src).all λq=>match q.2 with | none=>true | some j=>X.N[j]?==some q.1&&X.env.kindOf q.1==some .cell&&(Vl scope X.env).names.lookup q.1==some .cell)=true):jM X N src scope (QJ (λx=>X.env.cells.lookup x) scope.names []):=by
 have hs':∀y∈scope.names,y.2=.free->(X.env.cells.lookup y.1).isSome=true:=λy hy e=>by
  have z:=WG.mp hs y hy;rw[e] at z;simpa using z
 refine⟨kind,nocell,names,ZY hs',λx c h=>?_,λx h=>?_,len,λi j x h1 h2=>?_⟩
 .rcases Z4 _ _ _ (Wu h) with z | z
  .cases z
  .exact z
 .refine Vj.mp (ze2 _ _ (.inr ?_));have hm:(x,Tw)∈scope.names\/(x,NameKind.free)∈scope.names:=by
   rcases h with h | h
   .exact JG (Wu h) (.inl rfl)
   .exact JG (Wu h) (.inr rfl)
  rcases hm with hm | hm
  .exact absurd rfl (nocell _ hm)
  .exact⟨hm,hs' _ hm rfl⟩
 .have hm:(x,some j)∈N.zip src:=X6 (i:=i) (by rw[RR];exact⟨h1,h2⟩);have z:=WG.mp pc _ hm;simp only[Ws,beq_iff_eq] at z;exact⟨z.1.1,.inl z.1.2,.inl z.2⟩
structure jY (X:Cx)(N:AD)(src:List (Option Nat))(scope:Vi)(cl:List (Str×Addr))(y:Str):Prop where
 kind:scope.kind=.function
 one:∀n acc,Sc n scope.names acc=(y,n)::acc
 push:∀h,OE h scope.names=h.push { cls:=.type "cell",data:=.cell none }
 names:∀y∈scope.names,y.2=.local->scope.names.lookup y.1=some .local
 clos:QQ scope X.env=pure cl
 sub:∀x c,cl.lookup x=some c->X.env.cells.lookup x=some c
 has:∀x,((Vl scope X.env).names.lookup x=some .cell\/(Vl scope X.env).names.lookup x=some .free)->x=y\/∃c,cl.lookup x=some c
 len:src.length=N.length
 pulls:∀(i j:Nat) (x:Str),N[i]?=some x->src[i]?=some (some j)->X.N[j]?=some x/\(X.env.kindOf x=some .cell\/X.env.kindOf x=some .free)/\((Vl scope X.env).names.lookup x=some .cell\/(Vl scope X.env).names.lookup x=some .free)
 pny:∀(i j:Nat) (x:Str),N[i]?=some x->src[i]?=some (some j)->x≠y
def jY.has1 {X:Cx}{N:AD}{src:List (Option Nat)}{scope:Vi}{cl:List (Str×Addr)}{y:Str}{C:Addr}(ok:jY X N src scope cl y)(x:Str)(h:(Vl scope X.env).names.lookup x=some .cell\/(Vl scope X.env).names.lookup x=some .free):∃c,RN x ((y,C)::cl)=some c:=by
 rw[SK];cases q:x==y with
 | true=>exact⟨_,rfl⟩
 | false =>
  rcases ok.has x h with z | z
  .rw[z] at q;simp at q
  .exact z
def jY.byRfl {X:Cx}{N:AD}{src:List (Option Nat)}{scope:Vi}{y:Str}(kind:scope.kind=.function)(one:∀n acc,Sc n scope.names acc=(y,n)::acc)(push:∀h,OE h scope.names=h.push { cls:=.type "cell",data:=.cell none })
  (only:∀z∈scope.names,z.2=.cell->z.1=y) (names:∀y∈scope.names,y.2=.local->scope.names.lookup y.1=some .local)
  (hs:(scope.names.all λy=>y.2 != .free || (X.env.cells.lookup y.1).isSome)=true) (len:src.length=N.length)
  (pc:((N.zip src).all λq=>match q.2 with | none=>true | some j=>X.N[j]?==some q.1&&X.env.kindOf q.1==some .cell&&(Vl scope X.env).names.lookup q.1==some .cell&&q.1 != y)=true):jY X N src scope (QJ (λx=>X.env.cells.lookup x) scope.names []) y:=by
 have hs':∀y∈scope.names,y.2=.free->(X.env.cells.lookup y.1).isSome=true:=λy hy e=>by
  have z:=WG.mp hs y hy;rw[e] at z;simpa using z
 have pk:∀(i j:Nat) (x:Str),N[i]?=some x->src[i]?=some (some j)->(X.N[j]?=some x/\X.env.kindOf x=some .cell/\(Vl scope X.env).names.lookup x=some .cell)/\x≠y:=λi j x h1 h2=>by
  have hm:(x,some j)∈N.zip src:=X6 (i:=i) (by rw[RR];exact⟨h1,h2⟩);have z:=WG.mp pc _ hm;simp only[Ws,beq_iff_eq,bne_iff_ne] at z;exact⟨⟨z.1.1.1,z.1.1.2,z.1.2⟩,z.2⟩
 refine⟨kind,one,push,names,ZY hs',λx c h=>?_,λx h=>?_,len,λi j x h1 h2=>⟨(pk i j x h1 h2).1.1,.inl (pk i j x h1 h2).1.2.1,.inl (pk i j x h1 h2).1.2.2⟩,λi j x h1 h2=>(pk i j x h1 h2).2⟩
 .rcases Z4 _ _ _ (Wu h) with z | z
  .cases z
  .exact z
 .have hm:(x,Tw)∈scope.names\/(x,NameKind.free)∈scope.names:=by
   rcases h with h | h
   .exact JG (Wu h) (.inl rfl)
   .exact JG (Wu h) (.inr rfl)
  rcases hm with hm | hm
  .exact .inl (only _ hm rfl)
  .exact .inr (Vj.mp (ze2 _ _ (.inr ⟨hm,hs' _ hm rfl⟩)))
def qY (X:Cx)(N:AD)(scope:Vi)(cl:List (Str×Addr))(y:Str)(C:Addr)(fp:List Addr)(bQ:List (Addr×Obj))(s:X7)(H:Hp):Cx :=
 { qU X N scope ((y,C+1)::cl) C fp bQ s H with fn:=λx=>decide (x=y) }
def zmv {M:O2}{A:WR}{E:X8->X7->Prop}{s:X7}{scope:Vi}{globals:Addr}{cl:List (Str×Addr)}{qual:Str}{env:Env}{y:Str}{Q:Env->X7->Prop}(one:∀n acc,Sc n scope.names acc=(y,n)::acc)(push:∀h,OE h scope.names=h.push { cls:=.type "cell",data:=.cell none })
  (hQ:Q (newEnv scope s.heap.objs.size globals ((y,s.heap.objs.size+1)::cl) qual none .none (some env) OU) { s with heap:=(s.heap.push { cls:=.type "dict",data:=.dict #[] }).push { cls:=.type "cell",data:=.cell none } }) :
  Xk M A (Pn scope globals cl [] qual none .none (some env)) Q E s:=by
 simp only[Pn,Option.isSome_some,if_true];refine ZB (wpAny_alloc ?_);refine ZB (wpAny_layCells _ (λname kind cells=>by cases hkc:kind==Tw<;>simp[hkc]) _ _ _ _ ?_);rw[push,one,show ({ s with heap:=s.heap.push { cls:=.type "dict",data:=.dict #[] } }:X7).heap.objs.size=s.heap.objs.size+1 from UV ..];exact ZB (XS (XS hQ))
section
variable {X:Cx}{tg iter elt:Expr}{ifs:List Expr}{scope:Vi}{pos:Pos}{N:AD}{src:List (Option Nat)}{cl:List (Str×Addr)}{wi:TI}{g:TG}{tc:TT}{te:TE}{y:Str}
def ze7 {bQ:List (Addr×Obj)}{σ:St}{H:Hp}{s:X7}{fp:List Addr}{h1:Heap}{C:Addr}{tk:Nat}(ok:jY X N src scope cl y)(I:Inv X bQ σ H s)(hf:∀b∈fp,Qh X bQ H b)(ho:∀b∈fp,∃o,s.heap.get? b=some o)
  (hC:C=s.heap.objs.size+1) (k:∀b u,s.heap.get? b=some u->h1.get? b=some u) (hD:h1.get? s.heap.objs.size=some { cls:=.type "list",data:=.seq #[] }) {m:Str->Option X8} (hn:h1.Ns C m) (hcc:h1.IsCell (C+1) none) :
  Inv (qY X N scope cl y C fp bQ s H) [] (pull src σ) (upd H s.heap.objs.size (.lst [])) { s with heap:=h1,toks:=tk }:=by
 have lt:∀b o,s.heap.get? b=some o->b<s.heap.objs.size:=λb o e=>XE e;have nC:∀b o,s.heap.get? b=some o->b≠C:=λb o e=>by rw[hC];exact Xe (Wl (lt b o e))
 have nD:∀b o,s.heap.get? b=some o->b≠s.heap.objs.size:=λb o e=>Xe (lt b o e);have fr:∀b,s.heap.objs.size<=b->H b=none:=λb hb=>I.hok.fresh hb;have nst:∀b,b≠X.env.locals->b ∉ X.fs->b ∉ frs X.stack:=λb h1 h2 z=>(XG.mp (I.stkSub b z)).elim h1 h2;have nC1:∀b o,s.heap.get? b=some o->b≠C+1:=λb o e=>by rw[hC];exact Xe (Wl (Wl (lt b o e)))
 have own:∀x c,RN x ((y,C+1)::cl)=some c->(x=y/\c=C+1)\/(x≠y/\X.env.cells.lookup x=some c):=λx c e=>by
  rw[SK] at e;cases q:x==y with
  | true =>
   rw[q] at e;exact .inl ⟨by simpa using q,(Option.some.inj e).symm⟩
  | false =>
   rw[q] at e;exact .inr ⟨by simpa using q,ok.sub x c e⟩
 have oldc:∀x c,X.env.cells.lookup x=some c->c≠C+1:=λx c e=>by
  obtain⟨_,o,e1,_⟩:=I.cell x c e;exact nC1 c o e1
 refine⟨⟨I.ok.mod,ok.kind,I.ok.glob,I.ok.blt,by rw[show (qY X N scope cl y C fp bQ s H).env.locals=C from rfl,hC];exact VX _,?inj,ok.has1,?cab,I.ok.hd,I.ok.frames,.inl rfl,λb hb=>?_,I.bs,XZ I.ok.bsz I.sz,λb o e hb=>?_,λb hb hz=>?_,I.stack,I.stkFree⟩,
  rfl,I.bare,Un.laid k (XV _) (fr _ (XV _)),⟨m,hn,λi x v e1 e2 e3=>?_⟩,λx c e=>?_,?_,λx c e=>?_,λp hp=>?_,I.hok.laid k (XV _) ⟨WT _,[],0,.nil,hD⟩,?_⟩
 case inj =>
  intro x x' c e1 e2
  rcases own x c e1 with ⟨a1,a2⟩ | ⟨a1,a2⟩
  .rcases own x' c e2 with ⟨b1,b2⟩ | ⟨b1,b2⟩
   .rw[a1,b1]
   .exact absurd a2 (oldc x' c b2)
  .rcases own x' c e2 with ⟨b1,b2⟩ | ⟨b1,b2⟩
   .exact absurd b2 (oldc x c a2)
   .exact I.ok.inj x x' c a2 b2
 case cab =>
  intro x c z e
  have zy:x=y:=bh z
  rcases own x c e with ⟨_,a2⟩ | ⟨a1,_⟩
  .rw[a2,hC];exact T6 (VX _)
  .exact absurd zy a1
 .obtain⟨o,e⟩:=ho b hb;refine⟨nC b o e,λx c z=>?_⟩;rcases own x c z with ⟨_,a2⟩ | ⟨_,a2⟩
  .rw[a2];exact Vr (nC1 b o e)
  .exact(hf b hb).2.2.2.2.1 x c a2
 .rcases(hf b hb).2.2.2.1 with z | z
  .exact I.ok.noex b o e z
  .exact absurd (Xs (XE (I.ok.bs b o e).1) z) (VM _)
 .exact nst b (hf b hb).2.1 (hf b hb).2.2.1 hz
 .have hi:i<src.length:=by
   have:=(X5.mp e2).1;unfold pull at this;rw[Y1] at this;exact this
  unfold pull at e2;rw[Xo,XX hi] at e2;cases q:src[i] with
  | none=>rw[q] at e2;cases e2
  | some j =>
   rw[q] at e2;have e2':(σ[j]?).getD none=some v:=Option.some.inj e2;have e4:σ[j]?=some (some v):=by
    cases z:σ[j]? with
    | none=>rw[z] at e2';cases e2'
    | some o=>rw[z] at e2';exact congrArg some e2'
   obtain⟨p1,p2,p3⟩:=ok.pulls i j x e1 (by rw[XX hi,q]);obtain⟨m',hn',hl⟩:=I.loc;obtain⟨u,r,l⟩:=hl j x v p1 e4 (by
    rcases p2 with z | z
    .exact .inr (.inl z)
    .exact .inr (.inr z))
   refine⟨u,r,.inr ⟨p3,?_⟩⟩;obtain⟨c,hc⟩:=ok.has1 x p3;refine⟨c,hc,?_⟩;rcases l with ⟨z,_⟩ | ⟨_,c',hc',o,ho',hd'⟩
   .rcases p2 with y | y<;>rw[z] at y<;>cases y
   .rcases own x c hc with ⟨a1,_⟩ | ⟨_,a2⟩
    .exact absurd a1 (ok.pny i j x e1 (by rw[XX hi,q]))
    .rw[a2] at hc';cases hc';exact⟨o,k _ o ho',hd'⟩
 .rcases own x c e with ⟨_,a2⟩ | ⟨_,a2⟩
  .rw[a2];exact⟨_,hcc⟩
  .obtain⟨v,o,e1,e2⟩:=I.cell x c a2;exact⟨v,o,k c o e1,e2⟩
 .show upd H s.heap.objs.size (.lst []) C=none;rw[hC,zf (U1 _)];exact fr _ (VX _)
 .show upd H s.heap.objs.size (.lst []) c=none;rcases own x c e with ⟨_,a2⟩ | ⟨_,a2⟩
  .rw[a2,hC,zf (TQ (Wl (SJ _)))];exact fr _ (T6 (VX _))
  .obtain⟨v,o,e1,e2⟩:=I.cell x c a2;rw[zf (nD c o e1)];exact I.zU x c a2
 .have hp':p∈X.pn++bQ:=by
   have:p∈(X.pn++bQ)++[]:=hp;simpa using this
  obtain⟨e1,e2,e3,e4,e5⟩:=I.pin p hp';refine⟨k _ _ e1,?_,nC _ _ e1,nst _ e3 e4,e5⟩;show upd H s.heap.objs.size (.lst []) p.1=none;rw[zf (nD _ _ e1)];exact e2
 .unfold pull;rw[Y1];exact ok.len
section
variable {bQ:List (Addr×Obj)}{σ:St}{H:Hp}{s:X7}{use:Option (X8->Sem Unit)}{R:X8->X7->Prop}{Q:VK}{p2:Pos}
def zdm (ok:jY X N src scope cl y)(hcalm:X.calm=true)(hi:PI X tg iter wi)
  (hg:∀C fp bQ s H,PG (qY X N scope cl y C fp bQ s H) tg g) (hc:∀C fp bQ s H,YT (qY X N scope cl y C fp bQ s H) ifs tc) (he:∀C fp bQ s H,PE (qY X N scope cl y C fp bQ s H) elt te)
  (hs:∀x,Wq iter X.env x=pure x) (I:Inv X bQ σ H s) (h:ZX wi src g tc te σ H Q) (fin:zmo X N scope bQ σ use R Q):Xk (Xn X.prog X.w) X.A (SD (.ListComp elt [⟨tg,iter,ifs,0⟩] scope pos) scope X.env p2 (newList []) false (eval iter X.env) use) R X.xe s:=by
 refine RD (use:=use) rfl hs ok.clos ok.kind ok.names (thn (hi bQ s σ H _ I h) λxv s1 h1=>thn h1 λitv s2 h2=>?_);obtain⟨it,fp,tn,J,H2,e,I2,T,st2,f2,q2⟩:=h2;subst e;refine VD (zmv ok.one ok.push ?_);generalize hP:s2.heap.push { cls:=.type "list",dict:=none,data:=.seq ([]:List X8).toArray }=P2;have hC:P2.objs.size=s2.heap.objs.size+1:=by rw[<- hP,UV]
 have sz1:(P2.push { cls:=.type "dict",data:=.dict #[] }).objs.size=P2.objs.size+1:=UV ..;refine zbG hC hcalm (λz=>z.elim) (hg _ _ _ _ _) (hc _ _ _ _ _) (he _ _ _ _ _) I2 T st2 f2 (q2 _ (I2.hok.fresh (XV _))) (λb u e=>?_) (λx c z=>?_) (λho=>ze7 (tk:=s2.toks) ok I2 f2 ho hC (λb u e=>?_) ?_ ((Heap.Ns.new P2 _).push _) ?_) λ_ _ _ _ I4 qn=>fin hC I2 f2 I4 qn
 .exact XY _ (XY _ (hP ▸ XY _ e))
 .show _\/P2.objs.size<=c;have z:RN x ((y,P2.objs.size+1)::cl)=some c:=z;rw[SK] at z;cases q:x==y with
  | true =>
   rw[q] at z;rw[<- Option.some.inj z];exact .inr (VX _)
  | false =>
   rw[q] at z;exact .inl (ok.sub x c z)
 .exact XY _ (XY _ (hP ▸ XY _ e))
 .exact XY _ (XY _ (hP ▸ W5 _ rfl))
 .rw[<- sz1];exact⟨_,W5 _ rfl,rfl⟩
end
def zka (ok:jY X N src scope cl y)(hcalm:X.calm=true)(hi:PI X tg iter wi)
  (hg:∀C fp bQ s H,PG (qY X N scope cl y C fp bQ s H) tg g) (hc:∀C fp bQ s H,YT (qY X N scope cl y C fp bQ s H) ifs tc) (he:∀C fp bQ s H,PE (qY X N scope cl y C fp bQ s H) elt te)
  (hs:∀x,Wq iter X.env x=pure x:=by intro _;rfl):PE X (.ListComp elt [⟨tg,iter,ifs,0⟩] scope pos) (ZX wi src g tc te):=λ_ _ _ _ _ I h=>zdm ok hcalm hi hg hc he hs I h zj1
end
section
variable {X:Cx}{K:XW}
def zdn (hK:X.K=K)(hc:X.calm=true):jj X (.builtin "any") (λxs H Q=>∃(l:Addr) (bs:List Bool),xs=[.ref l]/\SqL K H l (bs.map V.bl)/\Q (.bl (bs.any id)) H):=by
 subst hK;exact zbJ hc
def zbM {tg l:Expr}{tl:TE}(hK:X.K=K)(hl:PE X l tl):PI X tg l (znG K tl):=by
 subst hK;exact zH hl
end
def EF:XK:=λ_ _ _=>False
def zp6 {X:Cx}:Passes (CXE X.prog X.w) X EF:=by
 intro bQ σ H s x s' I h;obtain⟨e,C,a0,B,H',rfl,F,hE⟩:=h;exact hE.elim
section
variable {X:Cx}
def zp7 (K:XW)(S:Addr)(j:Nat)(sp:Sp)(ta:TA)(ts:TS):TS:=λD σ H=>ta σ H λvs H1=>sp vs H1 (λ_ H2=>D.nx σ H2)
 (λc _ H2=>∃C,c=.ref C/\Wc K C (.ref S)=some true/\∀e,H2 e=none ->
  ts { nx:=fun σ3 H3=>D.nx (σ3.set j none) H3,rt:=D.rt,bk:=fun σ3 H3=>D.bk (σ3.set j none) H3,ct:=fun σ3 H3=>D.ct (σ3.set j none) H3 } (σ.set j (some (.ref e))) (upd H2 e (exO e C)))
def zmw {k j:Nat}{n f xS:Str}{fA S:Addr}{fd:XD}{ps:AD}{sp:Sp}{ta:TA}{ts:TS}{e0:Expr}{es:List Expr}{fp cp ap sp0 hp pos:Pos}{b0:Stmt}{suite:List Stmt}
  (hst:X.stack=X.env::X.outer) (hfr:X.env.frame=some X.env.locals) (F:qa X.prog X.w X.K X.mg X.base (CXE X.prog X.w) k fA fd ps sp) (hr:Jx k X.A) (hg:Gl X f) (hm:X.mg f=some (.ref fA)) (hk:TZ X.K (.ref fA)=true) (hb:Binds X.K fd ps [])
  (hN:X.N.Nodup) (hj:X.N[j]?=some n) (hl:X.env.scope.names.lookup n=some .local) (gS:Gl X xS) (O:ql X.K X.mg xS S)
  (ha:PA X.nox (e0::es) ta) (hs:∀e,PSs (markX X e) (b0::suite) ts)
  (he:WY (e0::es) X.env=(false,eval e0 X.env)::WY es X.env:=by rfl) (hpl:(Tr cp (WY es X.env)).any (·.1)=false:=by rfl) (hdb:(f==("__debug__":Str))=false:=by decide) (hdS:(xS==("__debug__":Str))=false:=by decide)
  (hsw:Th (.Call (.Name f fp) (e0::es) [] cp) none ap.line X.env=pure false:=by rfl) :
  PS X (.Try [.Expr (.Call (.Name f fp) (e0::es) [] cp) ap] [.ExceptHandler (some (.Name xS sp0)) (some n) (b0::suite) hp] [] [] pos) (zp7 X.K S j sp ta ts):=by
 intro bQ s σ H D I h;refine wpAny_Try_except (SL ?_);refine wpAny_Expr_any (Tn (QE I hg hm ?_ hdb)) I.quiet hsw;refine PySem.W.callWith_K (h₀:=X.base) I.ok.mod.kin hk (VU (ha cp bQ s σ H _ (I.wish _) h) (λus s1 ⟨vs,H1,I1',r,q⟩=>⟨I1'.kIn,?_⟩) λ_ _ z=>Vn z) he hpl;have I1:Inv X bQ σ H1 s1:=I1'.unwish;have hlen:us.length=ps.length:=by rw[<- r.length];exact F.len _ _ _ _ q
 have bt:=hb s1 us I1.kIn (by rw[Xd];exact hlen);rw[Xd] at bt;refine wpAny_call (TN (F.run X.A X.stack s1 H1 ⟨us,[]⟩ us vs _ _ hr I1.env0 bt r q) λres s' hq=>?_);cases res with
 | ok fl =>
  cases fl with
  | ret u =>
   obtain⟨v,H2,I2,rv,q2⟩:=I1.after hq;exact Ue (Ue ⟨_,H2,I2,q2⟩)
  | next=>exact Vn hq
  | brk=>exact Vn hq
  | cont=>exact Vn hq
 | error y =>
  obtain⟨e,C,a0,B,H',rfl,Fl,C',ec,hmr,hsu⟩:=hq;cases ec;have ff:=Fl.fly;rw[hst] at ff;refine wpAny_looks_onW (by rw[I1.ok.frames,hst]) hfr ff λh4 zp8 up4=>?_;refine wpAny_landsW zp8 λh5 zoO up5=>?_;have up:=up4.trans up5;have I5:=Fl.caught I1 (h:=h5) (by rw[hst];exact zoO) up;refine wpAny_handleBy_cons (codeAny_handlers_test (QE (X:=markX X e) (I5.mark e) gS O.g ?_ hdS)) (by intro z;cases z);obtain⟨bm,OS⟩:=znM I5.kIn O.q;obtain⟨oe,vs5,q1,q2,q3,_⟩:=zoO.first;refine zmt OS q1 q2 (Sk I5.kIn hmr) (codeAny_handlers_suite_as ?_);refine lands_againW zoO λh6 zq2 up6=>?_;have I6:=Fl.caught I1 (h:=h6) (by rw[hst];exact zq2) (up.trans up6);refine zby (X:=markX X e) (I6.mark e) hN hj (.inl hl) (v:=.ref e) rfl (λs7 I7=>?_) (.inr hl);refine VU (hs e bQ s7 _ _ _ I7 (hsu e Fl.free)) (λfl s8 q8=>?_) λ_ _ z=>z.elim;cases fl with
  | next =>
   obtain⟨σ8,H8,I8,q8⟩:=q8;exact(I8.unmark I.ok).nameGoes hN hj hl λs9 I9=>⟨_,H8,I9,q8⟩
  | brk =>
   obtain⟨σ8,H8,I8,q8⟩:=q8;exact(I8.unmark I.ok).nameGoes hN hj hl λs9 I9=>⟨_,H8,I9,q8⟩
  | cont =>
   obtain⟨σ8,H8,I8,q8⟩:=q8;exact(I8.unmark I.ok).nameGoes hN hj hl λs9 I9=>⟨_,H8,I9,q8⟩
  | ret u =>
   obtain⟨v8,σ8,H8,I8,r8,q8⟩:=q8;exact(I8.unmark I.ok).nameGoes hN hj hl λs9 I9=>⟨v8,_,H8,I9,r8,q8⟩
end
def zgs {α:Type}(d:α)(xs:List α):((Wy xs.length).map λi=>xs.getD i d)=xs:=by
 refine Rs (by simp) λi h1 h2=>?_;simp[h2]
def zhB (p:Int×Int):lt2 p p=false:=by
 unfold lt2;rw[br rfl,bg (by lia)]
def zbk {p q:Int×Int}(h:p≠q):lt2 q p=!lt2 p q:=by
 unfold lt2;obtain⟨a,b⟩:=p;obtain⟨c,d⟩:=q;simp only;by_cases e:a=c
 .subst e;rw[br rfl,br rfl];have hb:b≠d:=λz=>h (by rw[z]);by_cases l:b<d
  .rw[bu l,bg (by lia)];rfl
  .rw[bg l,bu (by lia)];rfl
 .rw[bw e,bw (λz=>e z.symm)];by_cases l:a<c
  .rw[bu l,bg (by lia)];rfl
  .rw[bg l,bu (by lia)];rfl
def zgt {p q r:Int×Int}(h1:lt2 p q=true)(h2:lt2 q r=true):lt2 p r=true:=by
 unfold lt2 at *
 obtain⟨a,b⟩:=p;obtain⟨c,d⟩:=q;obtain⟨e,f⟩:=r;simp only at *
 by_cases e1:a=c
 .subst e1;rw[br rfl,bf] at h1;by_cases e2:a=e
  .subst e2;rw[br rfl,bf] at h2 ⊢;lia
  .rw[bw e2] at h2 ⊢;exact h2
 .rw[bw e1,bf] at h1;by_cases e2:c=e
  .subst e2;rw[bw e1,bf];exact h1
  .rw[bw e2,bf] at h2;rw[bw (by lia),bf];lia
def Up2 (ps:List (Int×Int)):Prop:=ps.Pairwise λp q=>lt2 p q=true
end L2
namespace PySem.SeqAt
open L2 AutoSeq1 MeetsSeq MeetsSeq2 MeetsSeq3
def Qk (A:WR)(s:X7)(y x:X8)(b:Bool):Prop:=∀(prog:Xm) (w:WZ) (E:X8->X7->Prop) (Q:X8->X7->Prop),Q (.bool b) s->Xk (Xn prog w) A (richCompare .Lt y x) Q E s
def Qk.int_int {A:WR}{s:X7}(a:Int)(t:Tok)(b:Int)(u:Tok):Qk A s (.int a t) (.int b u) (decide (a<b)):=λprog w E Q h=>wpAny_lt_int h
def zgu (l b:Addr)(x y x2 y2:Int)(t u t2 u2:Tok)(n n2:Nat)(dd dd2:Option Addr)(sl sl2:Array (Option X8)) :
  Meets (UR.«tuple.__lt__» ⟨[.ref l,.ref b],[]⟩)
   (λ_ R s=>s.heap.get? l=some { cls:=.type "tuple",dict:=dd,data:=.seq #[.int x t,.int y u] n,slots:=sl }/\s.heap.get? b=some { cls:=.type "tuple",dict:=dd2,data:=.seq #[.int x2 t2,.int y2 u2] n2,slots:=sl2 } /\
    R (.ok (.ret (.bool (lt2 (x,y) (x2,y2))))) s) :=
 .of_wp λprog w A R s h=>by
  obtain⟨hp1,g1,d1,tk1,os1⟩:=s;obtain⟨hL,hB,h⟩:=h;have fT:=sub_tuple_tuple;wp_walk using Wa hL,Wa hB;refine EqAt.int_int x t x2 t2 prog w _ _ ?_;unfold lt2 at h;by_cases e:x=x2
  .have e':(x==x2)=true:=by simpa using e
   rw[e'];rw[br e] at h;wp_walk;refine EqAt.int_int y u y2 u2 prog w _ _ ?_;by_cases e2:y=y2
   .have e2':(y==y2)=true:=by simpa using e2
    rw[e2'];rw[bg (by show ¬ y<y2;lia)] at h;wp_walk;exact⟨_,rfl,h⟩
   .have e2':(y==y2)=false:=by simpa using e2
    rw[e2'];simp only[Bool.not_false,if_true];refine ZB (UW (ZB (Qk.int_int y u y2 u2 prog w _ _ ?_)));wp_walk;exact⟨_,rfl,h⟩
  .have e':(x==x2)=false:=by simpa using e
   rw[e'];rw[bw e] at h;simp only[Bool.not_false,if_true];refine ZB (UW (ZB (Qk.int_int x t x2 t2 prog w _ _ ?_)));wp_walk;exact⟨_,rfl,h⟩
def Qk.pairs {A:WR}{s:X7}{v v':X8}{p q:Int×Int}(hv:zv s.heap v p)(hv':zv s.heap v' q)(hu:A.units<VA):Qk A s v v' (lt2 p q):=λprog w E Q h=>by
 obtain⟨a,⟨cls,dd,data,sl⟩,n,t,u,rfl,e1,c1,d1⟩:=hv;obtain⟨a',⟨cls2,dd2,data2,sl2⟩,n',t',u',rfl,e1',c1',d1'⟩:=hv';simp only at c1 d1 c1' d1';subst c1 d1 c1' d1';exact richCompare_meets_room (op:=.Lt) ⟨_,e1,rfl⟩ ⟨_,e1',rfl⟩ F.slot_tuple_lt F.entry_tuple_lt (F.args_tuple_lt_2 _ _) (zgu a a' p.1 p.2 q.1 q.2 t u t' u' n n' dd dd2 sl sl2)
  ⟨e1,e1',show Value.bool (lt2 p q)≠Value.notImplemented/\Q (.bool (lt2 p q)) s from ⟨(λx=>nomatch x),h⟩⟩ hu
def YZ {h:Heap}{v:X8}{p:Int×Int}(hv:zv h v p):∃as,Reads h v (.tuple [.int p.1,.int p.2]) as:=by
 obtain⟨a,o,n,t,u,rfl,e1,c1,d1⟩:=hv;exact⟨_,.tuple e1 c1 d1 (.cons (.int _ _) (.cons (.int _ _) .nil))⟩
def ziM (p q:Int×Int):WL (.tuple [.int p.1,.int p.2]) (.tuple [.int q.1,.int q.2])=decide (p=q):=by
 obtain⟨a,b⟩:=p;obtain⟨c,d⟩:=q;show ((a==c)&&((b==d)&&true))=_;by_cases h1:a=c
 .by_cases h2:b=d
  .subst h1 h2;simp
  .simp[h2]
 .simp[h1]
end PySem.SeqAt
namespace L2
open PySem PySem.Spec PyProof.Rows PySem.W PySem.SeqAt
open PySem PySem.Spec PyProof.Rows
section
variable {κ:Type} [DecidableEq κ]
def jf (kvs:List (κ × V))(k:κ):Option V:=(kvs.find? λkv=>decide (kv.1=k)).map (·.2)
def putK (kvs:List (κ × V))(k:κ)(v:V):List (κ × V) :=
 if (kvs.any λkv=>decide (kv.1=k))=true then kvs.map (λkv=>if kv.1=k then (kv.1,v) else kv) else kvs++[(k,v)]
def jv {p:κ × V}{r:List (κ × V)}{k:κ}(e:p.1=k):jf (p::r) k=some p.2:=by simp[jf,Ud,e]
def jw {p:κ × V}{r:List (κ × V)}{k:κ}(e:¬ p.1=k):jf (p::r) k=jf r k:=by simp[jf,Ud,e]
theorem QL (k:κ):∀kvs:List (κ × V),(kvs.any λkv=>decide (kv.1=k))=(jf kvs k).isSome
 | []=>rfl
 | p::r=>by
  rw[SF];by_cases e:p.1=k
  .simp only[jv e,bu e,Bool.true_or,Option.isSome_some]
  .rw[jw e,bg e,Bool.false_or];exact QL k r
theorem ze8 (k j:κ)(y:V):∀kvs:List (κ × V),jf (kvs.map λkv=>if kv.1=k then (kv.1,y) else kv) j=(jf kvs j).map λx=>if j=k then y else x
 | []=>rfl
 | p::r=>by
  have ih:=ze8 k j y r;rw[Xu];by_cases h:p.1=k
  .rw[br h];by_cases e:p.1=j
   .rw[jv (p:=(p.1,y)) e,jv e,Uc,br (e.symm.trans h)]
   .rw[jw (p:=(p.1,y)) e,jw e,ih]
  .rw[bw h];by_cases e:p.1=j
   .rw[jv (p:=p) e,jv e,Uc,bw (λz=>h (e.trans z))]
   .rw[jw (p:=p) e,jw e,ih]
theorem zdo (k j:κ)(y:V):∀kvs:List (κ × V),jf kvs k=none->jf (kvs++[(k,y)]) j=if j=k then some y else jf kvs j
 | [],_=>by
  by_cases e:k=j
  .rw[br e.symm];exact jv (p:=(k,y)) e
  .rw[bw (λz=>e z.symm)];exact jw (p:=(k,y)) e
 | p::r,hn=>by
  rw[Rr];have hk:¬ p.1=k:=λz=>by rw[jv z] at hn;cases hn
  rw[jw hk] at hn;have ih:=zdo k j y r hn;by_cases e:p.1=j
  .rw[jv e,jv e,bw (λz=>hk (e.trans z))]
  .rw[jw e,jw e,ih]
def ze9 (kvs:List (κ × V))(k j:κ)(y:V):jf (putK kvs k y) j=if j=k then some y else jf kvs j:=by
 unfold putK;by_cases a:(kvs.any λkv=>decide (kv.1=k))=true
 .rw[br a,ze8];rw[QL] at a;by_cases e:j=k
  .obtain⟨x,hx⟩:=Vj.mp a;rw[br e,e,hx,Uc,br rfl]
  .rw[bw e];cases jf kvs j with
   | none=>rfl
   | some x=>rw[Uc,bw e]
 .rw[bw a];refine zdo k j y kvs ?_;rw[QL] at a;cases q:jf kvs k with
  | none=>rfl
  | some x=>rw[q] at a;exact(a rfl).elim
def Z6 (kvs:List (κ × V))(k:κ)(v:V):(putK kvs k v).length<=kvs.length+1:=by
 unfold putK;split
 .rw[Y1];lia
 .rw[X0,Xj,UM];lia
def zeO.isSome_eq {o:Option V}{u:Option X8}(r:zeO o u):o.isSome=u.isSome:=by
 cases o with
 | none=>cases u with
  | none=>rfl
  | some _=>exact(show False from r).elim
 | some _=>cases u with
  | none=>exact(show False from r).elim
  | some _=>rfl
theorem zeO.getD {o:Option V}{u:Option X8}{d:V}{d':X8}(r:zeO o u)(rd:RelV d d'):RelV (o.getD d) (u.getD d'):=by
 cases o with
 | none=>cases u with
  | none=>exact rd
  | some _=>exact(show False from r).elim
 | some _=>cases u with
  | none=>exact(show False from r).elim
  | some _=>exact r
def KV.val {kvs:List (κ × V)}{vs:List (κ × X8)}(r:KV kvs vs)(k:κ):zeO (jf kvs k) (OK vs k):=by
 unfold KV at r;induction r with
 | nil=>exact QP
 | @cons p q ps qs h t ih =>
  obtain⟨h1,h2⟩:=h;by_cases e:p.1=k
  .have e':q.1=k:=h1.symm.trans e;have b:OK (q::qs) k=some q.2:=by simp[OK,Ud,e']
   rw[jv e,b];exact h2
  .have e':¬ q.1=k:=λz=>e (h1.trans z);have b:OK (q::qs) k=OK qs k:=by simp[OK,Ud,e']
   rw[jw e,b];exact ih
theorem KV.any {kvs:List (κ × V)}{vs:List (κ × X8)}(r:KV kvs vs)(k:κ):(kvs.any λkv=>decide (kv.1=k))=vs.any λkv=>decide (kv.1=k):=by
 unfold KV at r;induction r with
 | nil=>rfl
 | cons h t ih=>rw[SF,SF,ih,h.1]
def KV.repl {kvs:List (κ × V)}{vs:List (κ × X8)}(r:KV kvs vs)(k:κ){y:V}{u:X8}(ry:RelV y u) :
  KV (kvs.map λkv=>if kv.1=k then (kv.1,y) else kv) (vs.map λkv=>if kv.1=k then (kv.1,u) else kv):=by
 unfold KV at r ⊢;induction r with
 | nil=>exact .nil
 | @cons p q ps qs h t ih =>
  rw[Xu,Xu];refine .cons ?_ ih;obtain⟨h1,h2⟩:=h;by_cases e:p.1=k
  .rw[br e,br (h1.symm.trans e)];exact⟨h1,ry⟩
  .rw[bw e,bw (λz=>e (h1.trans z))];exact⟨h1,h2⟩
def KV.put {kvs:List (κ × V)}{vs:List (κ × X8)}(r:KV kvs vs)(k:κ){y:V}{u:X8}(ry:RelV y u):KV (putK kvs k y) (stored vs k u):=by
 unfold putK stored;rw[r.any k];by_cases e:(vs.any λkv=>decide (kv.1=k))=true
 .rw[br e,br e];exact r.repl k ry
 .rw[bw e,bw e];exact Paired.snoc r ⟨rfl,ry⟩
end
def zhC {P:Xm}{w:WZ}{k:Key}{u:X8}(r:RelV (kV k) u):(zJ P w).is k u=true:=by
 cases k with
 | inl i=>obtain⟨t,e⟩:=(show ∃t,u=Vo i t from r);subst e;exact zeM P w i t
 | inr x=>obtain⟨t,e⟩:=(show ∃t,u=Value.str x t from r);subst e;exact zeN P w x t
theorem zdp {P:Xm}{w:WZ}:∀{ks:List Key} {us:List X8},Vals (ks.map kV) us->ItemsAre (zJ P w) ks us
 | [],_,r=>by rw[Qb] at r;cases r;exact .nil
 | k::ks,_,r=>by
  rw[Xu] at r;cases r with
  | cons h t=>exact .cons (zhC h) (zdp t)
abbrev KT (H:Hp):List (List Key×V)->List (List Key×Addr×X8)->Prop:=Xl λp q=>p.1=q.1/\H q.2.1=some (.tup (p.1.map kV))/\RelV p.2 q.2.2
def KT.val {H:Hp}{kvs:List (List Key×V)}{xs:List (List Key×Addr×X8)}(r:KT H kvs xs)(k:List Key):zeO (jf kvs k) ((ON xs k).map (·.2)):=by
 induction r with
 | nil=>exact QP
 | @cons p q ps qs h t ih =>
  obtain⟨h1,_,h2⟩:=h;by_cases e:p.1=k
  .have e':q.1=k:=h1.symm.trans e;have b:ON (q::qs) k=some q.2:=by simp[ON,Ud,e']
   rw[jv e,b];exact h2
  .have e':¬ q.1=k:=λz=>e (h1.trans z);have b:ON (q::qs) k=ON qs k:=by simp[ON,Ud,e']
   rw[jw e,b];exact ih
def KT.repl {H:Hp}{kvs:List (List Key×V)}{xs:List (List Key×Addr×X8)}(r:KT H kvs xs)(k:List Key){y:V}{u:X8}(ry:RelV y u) :
  KT H (kvs.map λkv=>if kv.1=k then (kv.1,y) else kv) (xs.map (putAt k u)):=by
 induction r with
 | nil=>exact .nil
 | @cons p q ps qs h t ih =>
  rw[Xu,Xu];refine .cons ?_ ih;obtain⟨h1,h2,h3⟩:=h;unfold putAt;by_cases e:p.1=k
  .rw[br e,br (h1.symm.trans e)];exact⟨h1,h2,ry⟩
  .rw[bw e,bw (λz=>e (h1.trans z))];exact⟨h1,h2,h3⟩
def KT.put {H:Hp}{kvs:List (List Key×V)}{xs:List (List Key×Addr×X8)}(r:KT H kvs xs)(k:List Key){b:Addr}{y:V}{u:X8}(hb:H b=some (.tup (k.map kV)))(ry:RelV y u) :
  KT H (putK kvs k y) (Ux xs k b u):=by
 have e:(kvs.any λkv=>decide (kv.1=k))=(ON xs k).isSome:=by
  rw[QL,(r.val k).isSome_eq,Option.isSome_map]
 unfold putK Ux;rw[e];by_cases q:(ON xs k).isSome=true
 .rw[br q,br q];exact r.repl k ry
 .rw[bw q,bw q];exact Paired.snoc r ⟨rfl,hb,ry⟩
def KT.keeps {H H':Hp}{kvs:List (List Key×V)}{xs:List (List Key×Addr×X8)}(r:KT H kvs xs)(ht:∀b ys,H b=some (.tup ys)->H' b=some (.tup ys)):KT H' kvs xs :=
 Paired.mapP r λ_ _ z=>⟨z.1,ht _ _ z.2.1,z.2.2⟩
section
variable {P:Xm}{w:WZ}{H:Hp}{h:Heap}{a:Addr}
def znO {u:HO}(ok:HOk P w H h)(e:Rd H a u):jt P w H h a u:=e.ok ok
def zhD {kvs:List (Key×V)}(ok:HOk P w H h)(e:Rd H a (.dK kvs)):kvs.length<=Xq/\(a==Vd)=false/\∃vs,KV kvs vs/\h.DictOf (zJ P w) a vs :=
 show jt P w H h a (.dK kvs) from znO ok e
def zp9 {kvs:List (Key×V)}(ok:HOk P w H h)(e:H a=some (.dK kvs)):kvs.length<=Xq/\(a==Vd)=false/\∃vs,KV kvs vs/\h.DictOf (zJ P w) a vs:=zhD ok (.inl e)
def zec {ks:List Key}(ok:HOk P w H h)(e:H a=some (.tup (ks.map kV))):(VQ (zJ P w)).is h ks a:=by
 obtain⟨_,its,r,o,h1,h2,n,h3⟩:=(show jt P w H h a (.tup (ks.map kV)) from ok a _ e);exact⟨o,its.toArray,n,h1,h2,h3,by simpa using zdp r⟩
def zhE {kvs:List (List Key×V)}(ok:HOk P w H h)(e:Rd H a (.dT kvs)):kvs.length<=Xq/\(a==Vd)=false /\
  ∃xs,KT H kvs xs/\h.DictOfH (VQ (zJ P w)) a xs:=by
 obtain⟨z,y,xs,r,o,es,ep,h1,h2,h3,h4,h5⟩:=(show jt P w H h a (.dT kvs) from znO ok e);refine⟨z,y,xs,r,o,es,ep,h1,h2,h3,h4,λx hx=>?_,h5⟩;have all:∀{l:List (List Key×V)} {m:List (List Key×Addr×X8)},KT H l m->∀x∈m,(VQ (zJ P w)).is h x.1 x.2.1:=by
  intro l m q;induction q with
  | nil=>intro x hx;exact nomatch hx
  | @cons p q ps qs hq t ih =>
   intro x hx;rcases XG.mp hx with e | hx
   .subst e;exact zec ok (by rw[<- hq.1];exact hq.2.1)
   .exact ih x hx
 exact all r x hx
def znP {kvs:List (List Key×V)}(ok:HOk P w H h)(e:H a=some (.dT kvs)):kvs.length<=Xq/\(a==Vd)=false /\
  ∃xs,KT H kvs xs/\h.DictOfH (VQ (zJ P w)) a xs:=zhE ok (.inl e)
end
def zbN (H:Hp)(a:Addr)(y:V)(r:Option V):Prop :=
 (∃kvs k,Rd H a (.dK kvs)/\y=kV k/\r=jf kvs k)\/∃kvs k b,Rd H a (.dT kvs)/\y=.ref b/\H b=some (.tup (k.map kV))/\r=jf kvs k
theorem zbN.k {H:Hp}{a:Addr}{kvs:List (Key×V)}{k:Key}(e:H a=some (.dK kvs)):zbN H a (kV k) (jf kvs k):=.inl ⟨kvs,k,.inl e,rfl,rfl⟩
def zbN.t {H:Hp}{a b:Addr}{kvs:List (List Key×V)}{k:List Key}(e:H a=some (.dT kvs))(eb:H b=some (.tup (k.map kV))):zbN H a (.ref b) (jf kvs k):=.inr ⟨kvs,k,b,.inl e,rfl,eb,rfl⟩
section
variable {X:Cx}{bQ:List (Addr×Obj)}{σ:St}{H:Hp}{s:X7}{a:Addr}{y v:V}{u r:X8}{o:Option V}{A:WR}{E:X8->X7->Prop}
def Inv.big (I:Inv X bQ σ H s):Vd<s.heap.objs.size:=by
 have h:XO<s.heap.objs.size:=(I.mod.glob.keeps I.bk).lt;exact TM (by decide) h
def zmx {Q:X8->X7->Prop}(hu:A.units+1<VA)(I:Inv X bQ σ H s)(g:zbN H a y o)(ry:RelV y u)(h:∀s',Inv X bQ σ H s'->Q (.bool (!o.isSome)) s') :
  Xk (Xn X.prog X.w) A (Wj .NotIn u (.ref a)) Q E s:=by
 rcases g with ⟨kvs,k,e,ey,l⟩ | ⟨kvs,k,b,e,ey,eb,l⟩
 .subst ey;obtain⟨z,hd,vs,rel,dd⟩:=zhD I.hok e;refine wpAny_notIn_of (zhC ry) hd dd.mapOf ?_;rw[<- (rel.val k).isSome_eq,<- l];exact h _ (I.tok _)
 .subst ey;cases (show u=WA b from ry);obtain⟨z,hd,xs,rel,dd⟩:=zhE I.hok e;refine wpAny_notIn_heap (tupleKind_room_in1 hu) (zec I.hok eb) hd dd ?_;have q:=(rel.val k).isSome_eq;rw[Option.isSome_map] at q;rw[<- q,<- l];exact h _ (I.tok _)
def zhF {h':Heap}{t':Nat}{ob:HO}(I:Inv X bQ σ H s)(mu:Mut (H a))(hs:Wh a s.heap h')(he:∃q,h'.get? a=some q)(new:jt X.prog X.w (upd H a ob) h' a ob) :
  Inv X bQ σ (upd H a ob) { s with heap:=h',toks:=t' } :=
 I.write (x:=a) (e:=a) mu (.inl rfl) (λb q hb z=>(hs.2 b hb).trans z) he new
def zoP {P:Xm}{w:WZ}{H':Hp}{h':Heap}{kvs:List (Key×V)}{vs:List (Key×X8)}(z:kvs.length<=Xq)(hd:(a==Vd)=false)(rel:KV kvs vs)(dd:h'.DictOf (zJ P w) a vs) :
  jt P w H' h' a (.dK kvs):=⟨z,hd,vs,rel,dd⟩
end
def zmy (ty td:TE):TE:=fun σ H Q=>ty σ H λy H1=>td σ H1 λx H2=>∃a o,x=.ref a/\zbN H2 a y o/\Q (.bl (!o.isSome)) H2
section
variable {X:Cx}{o i e value:Expr}{pos pos' tpos:Pos}{td ty tv:TE}
def ziN (hu:X.A.units+1<VA)(hi:PE X i ty)(ho:PE X o td):PC X .NotIn i o (zmy ty td):=by
 intro bQ s σ H Q I h;refine thn (hi bQ s σ H _ I h) λiv s1 ⟨y,H1,I1,ry,q1⟩=>thn (ho bQ s1 σ H1 _ I1 q1) λu s2 ⟨x,H2,I2,rx,a,ov,ex,g,q2⟩=>?_;subst ex;obtain rfl:u=WA a:=rx;exact zmx hu I2 g ry λs3 I3=>⟨.bl (!ov.isSome),H2,I3,rfl,q2⟩
end
def zkb {P:Xm}{w:WZ}{H:Hp}(h:Heap)(hb:Vd<h.objs.size):jt P w H (h.push { cls:=.type "dict",data:=.dict #[] }) h.objs.size (.dK []) :=
 ⟨WT _,beq_eq_false_iff_ne.mpr (Vr (Xe hb)),[],.nil,Heap.DictOf.new h⟩
def zgv:List (TE×TE)->St->Hp->(List (V×V)->Hp->Prop)->Prop
 | [],_,H,Q=>Q [] H
 | (tk,tv)::r,σ,H,Q=>tk σ H λx H1=>tv σ H1 λy H2=>zgv r σ H2 λps H3=>Q ((x,y)::ps) H3
abbrev VV:List (V×V)->List (X8×X8)->Prop:=Xl λp q=>RelV p.1 q.1/\RelV p.2 q.2
def PPs (X:Cx)(pos:Pos)(keys:List (Option Expr))(values:List Expr)(trs:List (TE×TE)):Prop :=
 ∀(bQ:List (Addr×Obj)) (s:X7) (σ:St) (H:Hp) (Q:List (V×V)->Hp->Prop),Inv X bQ σ H s->zgv trs σ H Q ->
  Xk (Xn X.prog X.w) X.A (evalPairs (pairTrees keys values X.env pos)) (λvs s'=>∃ps H',Inv X bQ σ H' s'/\VV ps vs/\Q ps H') X.xe s
def zmz {X:Cx}{pos:Pos}:PPs X pos [] [] []:=λbQ s σ H Q I h=>pairTrees_nil_walk ⟨[],H,I,.nil,h⟩
def zfa {X:Cx}{pos:Pos}{k v:Expr}{ks:List (Option Expr)}{vs:List Expr}{tk tv:TE}{trs:List (TE×TE)}(hk:PE X k tk)(hv:PE X v tv)(hr:PPs X pos ks vs trs) :
  PPs X pos (some k::ks) (v::vs) ((tk,tv)::trs):=λbQ s σ H Q I h =>
 pairTrees_cons_walk (thn (hk bQ s σ H _ I h) λu s1 ⟨x,H1,I1,rx,q1⟩=>thn (hv bQ s1 σ H1 _ I1 q1) λw2 s2 ⟨y,H2,I2,ry,q2⟩ =>
  thn (hr bQ s2 σ H2 _ I2 q2) λws s3 ⟨ps,H3,I3,rel,q3⟩=>⟨(x,y)::ps,H3,I3,.cons ⟨rx,ry⟩ rel,q3⟩)
def Zr (kvs more:List (Key×V)):List (Key×V):=more.foldl (λacc kv=>putK acc kv.1 kv.2) kvs
def KV.merge:∀{more:List (Key×V)} {rs:List (Key×X8)} {kvs:List (Key×V)} {vs:List (Key×X8)},KV more rs->KV kvs vs->KV (Zr kvs more) (merged vs rs):=by
 intro more rs kvs vs r;unfold KV at r;induction r generalizing kvs vs with
 | nil=>intro q;exact q
 | @cons p q ps qs h t ih =>
  intro r0;have e:KV (putK kvs p.1 p.2) (stored vs q.1 q.2):=by
   have:=r0.put p.1 h.2;rw[<- h.1];exact this
  exact ih e
theorem Y0:∀(more kvs:List (Key×V)),(Zr kvs more).length<=kvs.length+more.length
 | [],kvs=>by show kvs.length<=kvs.length+0;lia
 | p::r,kvs=>by
  have h1:=Y0 r (putK kvs p.1 p.2);have h2:=Z6 kvs p.1 p.2;show (Zr (putK kvs p.1 p.2) r).length<=_;rw[Xj];lia
theorem zbO {P:Xm}{w:WZ}:∀{kvs:List (Key×V)} {ws:List (X8×X8)},VV (kvs.map λkv=>(kV kv.1,kv.2)) ws->∃rs,Carries (zJ P w) ws rs/\KV kvs rs
 | [],_,r=>by rw[Qb] at r;cases r;exact⟨[],QP,.nil⟩
 | p::kvs,_,r=>by
  rw[Xu] at r;cases r with
  | @cons a b as bs h t =>
   obtain⟨rs,c,q⟩:=zbO (P:=P) (w:=w) t;obtain⟨b1,b2⟩:=b;exact⟨(p.1,b2)::rs,⟨zhC h.1,rfl,c⟩,.cons ⟨rfl,h.2⟩ q⟩
def zqa (trs:List (TE×TE)):TE:=fun σ H Q=>∀p,H p=none->zgv trs σ (upd H p (.dK [])) λps H2=>H2 p=some (.dK [])/\∃kvs:List (Key×V),ps=kvs.map (λkv=>(kV kv.1,kv.2))/\kvs.length<=15/\Q (.ref p) (upd H2 p (.dK (Zr [] kvs)))
def zmA {X:Cx}{pos:Pos}{keys:List (Option Expr)}{values:List Expr}{trs:List (TE×TE)}(h:PPs X pos keys values trs)(hall:keys.all (·.isSome)=true)(hl:keys.length=values.length)(h0:keys ≠ [])
  (h15:keys.length<=15):PE X (.Dict keys values pos) (zqa trs):=by
 intro bQ s σ H Q I q;have hn:=I.hok.fresh (XV s.heap.objs.size);have I1:=I.laid (a:=s.heap.objs.size) (o:=.dK []) (h':=s.heap.push { cls:=.type "dict",data:=.dict #[] }) (t':=s.toks) (λ_ _ q=>XY _ q) (XV _) (zkb s.heap I.big);refine wpAny_Dict_walk (knd:=zJ X.prog X.w) hall hl h0 h15 (thn (h bQ _ σ _ _ I1 (q _ hn)) λws s2 ⟨ps,H2,I2,rel,e,kvs,ep,lk,q2⟩=>?_);subst ep;obtain⟨rs,c,rk⟩:=zbO (P:=X.prog) (w:=X.w) rel;obtain⟨z,hd,vs0,r0,dd⟩:=zp9 I2.hok e;cases r0;refine⟨rs,c,dd,λh' dd' hs=>⟨.ref s.heap.objs.size,_,?_,rfl,q2⟩⟩;have hz:(Zr [] kvs).length<=Xq:=by
  have h1:=Y0 kvs [];rw[UM] at h1;rw[T0];lia
 have he:∃q,h'.get? s.heap.objs.size=some q:=let ⟨q,_,_,hq,_⟩:=dd';⟨q,hq⟩
 exact zhF I2 (by rw[e];exact QP) hs he (zoP hz hd (rk.merge .nil) dd')
structure M2 (X:Cx)(o:Expr)(m:Str)(apos:Pos)(e f:Expr)(cpos:Pos):Prop where
 base:attributeBase o m X.env (eval o X.env)=eval o X.env
 few:((Tr cpos (WY [e,f] X.env)).all (λx=>!x.1)&&(backToKw cpos (keywordEach [] X.env)).all (λx=>x.1.isSome)
  && decide (([e,f]:List Expr).length+([]:List OB).length+(if ([]:List OB).isEmpty then 0 else 1)<30))=true
 line:(apos.endLine==cpos.line)=true
 trees:Tr cpos (WY [e,f] X.env)=[(false,eval e X.env),(false,eval f X.env)]
def IsD (H:Hp)(a:Addr):Prop:=(∃kvs,Rd H a (.dK kvs))\/∃kvs,Rd H a (.dT kvs)
def zoQ {X:Cx}{bQ:List (Addr×Obj)}{σ:St}{H:Hp}{s:X7}{a:Addr}(I:Inv X bQ σ H s)(d:IsD H a) :
  s.TypeIs (.ref a) "dict"/\(∀b,WA a=.ref b->∃ob,s.heap.get? b=some ob/\ob.dict=none)/\(a==Vd)=false:=by
 rcases d with ⟨kvs,e⟩ | ⟨kvs,e⟩
 .obtain⟨_,hd,vs,_,dd⟩:=zhD I.hok e;refine⟨dd.typeIs,λb q=>?_,hd⟩;cases q;obtain⟨ob,_,_,h1,h2,_⟩:=dd;exact⟨ob,h1,h2.2.1⟩
 .obtain⟨_,hd,xs,_,dd⟩:=zhE I.hok e;refine⟨dd.typeIs,λb q=>?_,hd⟩;cases q;obtain⟨ob,_,_,h1,h2,_⟩:=dd;exact⟨ob,h1,h2.2.1⟩
section
variable {X:Cx}{bQ:List (Addr×Obj)}{σ:St}{H:Hp}{s:X7}{a:Addr}{y d:V}{u r:X8}{o:Option V}{A:WR}{E:X8->X7->Prop}
def zoR {Q:X8->X7->Prop}(hu:A.units+1<VA)(I:Inv X bQ σ H s)(g:zbN H a y o)(ry:RelV y u)(rd:RelV d r)(h:∀w' s',Inv X bQ σ H s'->RelV (o.getD d) w'->Q w' s') :
  Xk (Xn X.prog X.w) A (call (.builtin "dict.get") [.ref a,u,r]) Q E s:=by
 rcases g with ⟨kvs,k,e,ey,l⟩ | ⟨kvs,k,b,e,ey,eb,l⟩
 .subst ey;obtain⟨z,hd,vs,rel,dd⟩:=zhD I.hok e;refine call_meetsIn SU dd.typeIs P0 (Rj _ _ _) (meets_dict_get_default (zJ X.prog X.w) a (zhC ry) hd r) ⟨_,dd.mapOf,h _ _ (I.tok _) ?_⟩;rw[l];exact(rel.val k).getD rd
 .subst ey;cases (show u=WA b from ry);obtain⟨z,hd,xs,rel,dd⟩:=zhE I.hok e;refine call_meetsIn SU dd.typeIs P0 (Rj _ _ _) (meetsH_dict_get_default (VQ (zJ X.prog X.w)) a b hd r) ⟨tupleKind_room_in1 hu,k,xs,zec I.hok eb,dd,h _ _ (I.tok _) ?_⟩;rw[l];exact(rel.val k).getD rd
end
def zoS (td ty tx:TE):TE:=fun σ H Q=>td σ H λx H1=>∃a,x=.ref a/\IsD H1 a/\ty σ H1 λy H2=>tx σ H2 λz H3=>∃o,zbN H3 a y o/\Q (o.getD z) H3
section
variable {X:Cx}{o e f:Expr}{apos cpos:Pos}{td ty tx:TE}
def zfb (hu:X.A.units+1<VA)(ho:PE X o td)(he:PE X e ty)(hf:PE X f tx)(m:M2 X o "get" apos e f cpos):PE X (.Call (.Attribute o "get" apos) [e,f] [] cpos) (zoS td ty tx):=by
 intro bQ s σ H Q I h;refine wpAny_Call_method m.base m.few m.line Ri SU PySem.F.type_dict_get (thn (ho bQ s σ H _ I h) λu s1 ⟨x,H1,I1,rx,a,ex,d,q1⟩=>?_);subst ex;obtain rfl:u=WA a:=rx;obtain⟨t1,t2,_⟩:=zoQ I1 d;refine⟨t1,t2,?_⟩;rw[m.trees];refine P1 rfl (Su (R3 (thn (he bQ s1 σ H1 _ I1 q1) λiv s2 ⟨y,H2,I2,ry,q2⟩ =>
  R3 (thn (hf bQ s2 σ H2 _ I2 q2) λfv s3 ⟨z,H3,I3,rz,ov,g,q3⟩=>Calls.spliced_nil ?_))))
 exact zoR hu I3 g ry rz λw' s4 I4 rw'=>⟨_,H3,I4,rw',q3⟩
end
def ziO:OT (.type "list") "keys"=pure none:=by rw[Ts,UQ];kernel_rfl
def ziP:OT (.type "list") "__getattr__"=pure none:=by rw[Ts,UQ];kernel_rfl
def zbP:isSubtype (.type "AttributeError") (.type "AttributeError")=pure true:=by rw[Pm];kernel_rfl
def zkc (args:List X8):ownMembersOf (.type "AttributeError") args=#[unsetMember,unsetMember]:=rfl
def zgw:((Manifest.find? "AttributeError").elim false λt=>t.mro.contains "StopIteration" || t.mro.contains "SystemExit")=false:=by decide+kernel
section
variable {prog:Xm}{w:WZ}{A:WR}{E:X8->X7->Prop}{h:Heap}{g:Array Ut}{d:Oz}{t:Nat}{os:OL}{a:Addr}{its:Array X8}{n:Nat}
def zkd {tk:Tok}{Q:Fin->X7->Prop}(hx:h.get? a=some { cls:=.type "list",dict:=none,data:=.seq its n,slots:=#[] })(hh:A.handled=none)
  (he:∀h' t' e,(∀b o',h.get? b=some o'->h'.get? b=some o')->(⟨h',g,d,t',os⟩:X7).TypeIs (.ref e) "AttributeError"->E (.ref e) ⟨h',g,d,t',os⟩) :
  Xk (Xn prog w) A (UR.«object.__getattribute__» ⟨[.ref a,.str "keys" tk],[]⟩) Q E ⟨h,g,d,t,os⟩:=by
 have hT:(⟨h,g,d,t,os⟩:X7).TypeIs (.ref a) "list":=⟨_,hx,rfl⟩;have f4:=ziO;have f5:=zbP;repeat (any_goals (first | assumption | wp_step))
 unfold raiseAttrError;refine ZB (wpAny_mkStr (ZB ?_) (by decide+kernel));unfold newExc newTuple;refine ZB (VD ?_);refine ZB (m:=R6 _ _) (Pu (a:=Value.none) (by simp only[R6,zgw];rfl) ?_);rw[zkc];refine VD ?_;refine ZB (wpAny_mkText ?_);refine ZB ?_;unfold noteAttr lacksNameAndObj;repeat (any_goals (first | assumption | wp_step))
 unfold raiseNew;refine ZB (wpAny_handled ?_);rw[hh];refine ZB (XS (OC ?_));dsimp only;refine he _ _ _ (λb o' hb=>?_) ?_
 .rw[(Wn ..).2 b (Xe ?_)]
  .exact XY _ (XY _ hb)
  .rw[UV];exact Wl (XE hb)
 .refine⟨_,WD _ (W5 _ rfl) rfl,rfl⟩
def zmB {tk:Tok}{R:Rb->X7->Prop}(hx:h.get? a=some { cls:=.type "list",dict:=none,data:=.seq its n,slots:=#[] })(hh:A.handled=none)
  (he:∀h' t' e,(∀b o',h.get? b=some o'->h'.get? b=some o')->(⟨h',g,d,t',os⟩:X7).TypeIs (.ref e) "AttributeError"->R (.error (.ref e)) ⟨h',g,d,t',os⟩) :
  T8 (Xn prog w) A (.call (.builtin "list.__getattribute__") ⟨[.ref a,.str "keys" tk],[]⟩) R ⟨h,g,d,t,os⟩ :=
 TX PySem.F.slot_list_getattribute.plain PySem.F.entry_list_ga (PySem.F.slot_list_getattribute.check _ _ _ _ _ _ _ _ (show (⟨h,g,d,t,os⟩:X7).TypeIs (.ref a) "list" from ⟨_,hx,rfl⟩) (PySem.F.args_list_getattribute_2 _ _) (zkd hx (by simp[hh]) he))
def zqb {tk:Tok}{Q:X8->X7->Prop}(hx:h.get? a=some { cls:=.type "list",dict:=none,data:=.seq its n,slots:=#[] })(hh:A.handled=none)
  (he:∀h' t' e,(∀b o',h.get? b=some o'->h'.get? b=some o')->(⟨h',g,d,t',os⟩:X7).TypeIs (.ref e) "AttributeError"->E (.ref e) ⟨h',g,d,t',os⟩) :
  Xk (Xn prog w) A (getAttrBy (.ref a) (.str "keys" tk) false) Q E ⟨h,g,d,t,os⟩:=by
 have hT:(⟨h,g,d,t,os⟩:X7).TypeIs (.ref a) "list":=⟨_,hx,rfl⟩;have f2:=PySem.F.slot_list_getattribute.lookup;have f3:=PySem.F.slot_list_getattribute.bind (.ref a);have f4:=ziP;have f5:=zbP;repeat (any_goals (first | assumption | wp_step))
 refine zmB hx (by simp[hh]) λh' t' e kp hE=>?_;repeat (any_goals (first | assumption | wp_step))
 exact he _ _ _ kp hE
def zmC {Q:Option X8->X7->Prop}(hx:h.get? a=some { cls:=.type "list",dict:=none,data:=.seq its n,slots:=#[] })(hh:A.handled=none)
  (hq:∀h' t',(∀b o',h.get? b=some o'->h'.get? b=some o')->Q none ⟨h',g,d,t',os⟩) :
  Xk (Xn prog w) A (Ot (.ref a) "keys") Q E ⟨h,g,d,t,os⟩:=by
 have f5:=zbP;unfold Ot getAttrBy?;refine ZB (wpAny_mkText (ZB (SC ?_)));refine zqb (t:=t+1) hx hh λh' t' e kp hE=>?_;repeat (any_goals (first | assumption | wp_step))
 exact hq _ _ kp
def QM:Os table "dict.update.loop"=some UR.«dict.update.loop»:=entryFor_of_tree (by kernel_rfl)
def xV:plainId "dict.update.loop"=true:=by decide+kernel
end
section
variable {prog:Xm}{w:WZ}{A:WR}{R:Rb->X7->Prop}{I:Addr}{fp wr:List Addr}{G:Array Ut->Array Ut->Prop}{n:Nat}{P:Nat->X8->Prop}{St:Nat->X7->Prop}
abbrev KQ:=List Key×Addr×X8
def putAll (ks:List KQ):List KQ:=ks.foldl (λacc q=>Ux acc q.1 q.2.1 q.2.2) []
def putAll_snoc (ks:List KQ)(q:KQ):putAll (ks++[q])=Ux (putAll ks) q.1 q.2.1 q.2.2:=by
 unfold putAll;rw[UH];rfl
def zaM (xs:List KQ)(k:List Key)(a:Addr)(v:X8):(Ux xs k a v).length<=xs.length+1:=by
 unfold Ux;split
 .rw[Y1];lia
 .rw[X0];exact XV _
def zbQ (ks:List KQ):(putAll ks).length<=ks.length:=by
 suffices h:∀(ks acc:List KQ),(ks.foldl (λacc q=>Ux acc q.1 q.2.1 q.2.2) acc).length<=acc.length+ks.length by
  have:=h ks [];simpa[putAll] using this
 intro ks;induction ks with
 | nil=>intro acc;exact XV _
 | cons q r ih =>
  intro acc;have h1:=ih (Ux acc q.1 q.2.1 q.2.2);have h2:=zaM acc q.1 q.2.1 q.2.2;rw[VL,Xj];lia
def zed {A:WR}{E:X8->X7->Prop}{s:X7}{ta:Addr}{x y:X8}{Q:List X8->X7->Prop}(h:OA s.heap ta #[x,y])(q:Q [x,y] s):Xk (Xn prog w) A (PZ (.ref ta)) Q E s:=by
 obtain⟨o,h1,h2,n,h3⟩:=h;have hT:s.TypeIs (.ref ta) "tuple":=⟨o,h1,h2⟩;unfold PZ;repeat (any_goals (first | assumption | wp_step))
 rw[h3];exact XS (XS q)
end
section
variable {prog:Xm}{w:WZ}{A:WR}{R:Rb->X7->Prop}{I:Addr}{fp wr:List Addr}{G:Array Ut->Array Ut->Prop}{n:Nat}{P:Nat->X8->Prop}{St:Nat->X7->Prop}
theorem zaN (T:List Key->Addr->Prop):∀(js acc:List KQ),(∀x∈acc,T x.1 x.2.1)->(∀x∈js,T x.1 x.2.1)->∀x∈js.foldl (λacc q=>Ux acc q.1 q.2.1 q.2.2) acc,T x.1 x.2.1
 | [],_,ha,_=>ha
 | q::r,acc,ha,hj=>by
  rw[VL];refine zaN T r _ (λx hx=>?_) λx hx=>hj x (XR _ hx);unfold Ux at hx;split at hx
  .obtain⟨y,hy,rfl⟩:=XM.mp hx;have:=ha y hy;unfold putAt;split
   .exact this
   .exact this
  .rcases XQ.mp hx with hx | hx
   .exact ha x hx
   .have e:x=(q.1,q.2.1,q.2.2):=by simpa using hx
    subst e;exact hj q XU
def zgx {h0:Heap}(W:WalksS prog w A.in1 I fp wr G n P St)(D:Addr)(hDf:D ∉ fp)(hD0:h0.get? D=none)(hw0:∀b∈wr,h0.get? b=none)(ks:List KQ)(hlen:ks.length=n)(hb:n<=Xq)(hu:A.units+1<VA)
  (hks:∀q∈ks,(VQ (zJ prog w)).is h0 q.1 q.2.1) (hP:∀i v,P i v->∃ta q,v=.ref ta/\ks[i]?=some q/\OA h0 ta #[.ref q.2.1,q.2.2]) :
  ∀(k i:Nat) (s:X7),n-i=k->i<=n->St i s->(∀b o,h0.get? b=some o->s.heap.get? b=some o)->s.heap.DictOfH (VQ (zJ prog w)) D (putAll (ks.take i)) ->
   (∀s',Moved (D::wr) G s s'->s'.heap.DictOfH (VQ (zJ prog w)) D (putAll ks)->R (.ok (.ret .none)) s') ->
   T8 (Xn prog w) A (.builtin "dict.update.loop" ⟨[.ref D,.ref I,Ul (i:Int),.none],[]⟩) R s:=by
 have hDw:D ∉ wr:=λh=>hDf (W.sub _ h);have more:∀b∈wr,b∈D::wr:=λb hb=>XR _ hb;have tup_up:∀{h:Heap} {ta:Addr} {xs:Array X8},(∀b o,h0.get? b=some o->h.get? b=some o)->OA h0 ta xs->OA h ta xs:=λkp ⟨o,h1,h2,m,h3⟩=>⟨o,kp _ _ h1,h2,m,h3⟩;have key_up:∀{h:Heap} {ka:Addr} {q:List Key},(∀b o,h0.get? b=some o->h.get? b=some o)->(VQ (zJ prog w)).is h0 q ka->(VQ (zJ prog w)).is h q ka:=λkp ⟨o,xs,m,h1,h2⟩=>⟨o,xs,m,kp _ _ h1,h2⟩;have dict_to:∀{s s':X7} {xs:List KQ},Moved wr G s s'->(∀b o,h0.get? b=some o->s'.heap.get? b=some o)->(∀x∈xs,(VQ (zJ prog w)).is h0 x.1 x.2.1)->s.heap.DictOfH (VQ (zJ prog w)) D xs->s'.heap.DictOfH (VQ (zJ prog w)) D xs :=
  λhm kp hk ⟨o,es,ep,e1,e2,e3,e4,_,e6⟩=>⟨o,es,ep,hm.heap D _ hDw e1,e2,e3,e4,λx hx=>key_up kp (hk x hx),e6⟩
 have keep_to:∀{s s':X7},Moved wr G s s'->(∀b o,h0.get? b=some o->s.heap.get? b=some o)->∀b o,h0.get? b=some o->s'.heap.get? b=some o:=λhm kp b o e =>
  hm.heap b o (λhb=>by
   rw[hw0 b hb] at e;cases e) (kp b o e)
 have keys0:∀i,∀x∈putAll (ks.take i),(VQ (zJ prog w)).is h0 x.1 x.2.1:=λi=>zaN (λa b=>(VQ (zJ prog w)).is h0 a b) _ [] (λx hx=>nomatch hx) λx hx=>hks x (V6 hx);intro k;induction k with
 | zero =>
  intro i s hk hi hst kp hS hR;have hin:i=n:=by lia
  subst hin;refine VJ QM ?_;rw[V5 xV _];show Xk _ A.in1 (Sb (.ref I) >>= _) _ _ s;refine ZB (W.done s _ _ hst λs' hm=>?_);show Xk _ A.in1 (RC D [] >>= λ_=>ret Value.none) _ _ s';refine ZB (XS (XS (hR s' (hm.mono more) ?_)));have:=dict_to hm (keep_to hm kp) (keys0 _) hS;rw[<- hlen,Xz] at this;exact this
 | succ k ih =>
  intro i s hk hi hst kp hS hR;have hlt:i<n:=by lia
  refine VJ QM ?_;rw[V5 xV _];show Xk _ A.in1 (Sb (.ref I) >>= _) _ _ s;refine ZB (W.item i s _ _ hlt hst λv s' hPv hst' hm=>?_);obtain⟨ta,q,rfl,hq,ht⟩:=hP i v hPv;have kp':=keep_to hm kp;have hS':=dict_to hm kp' (keys0 _) hS;have l1:=zbQ (ks.take i);have l2:(ks.take i).length<=n:=by
   rw[XF];lia
  have tk:ks.take (i+1)=ks.take i++[q]:=by
   rw[Xc,hq];rfl
  refine ZB (Wz (ZB (wpAny_tryCatch (zed (tup_up kp' ht) ?_))));refine Wz (wpAny_dictSet_heap (show A.in1.units<VA from hu) (key_up kp' (hks q (X6 hq))) hS' (λh' hd' hs'=>?_) (by lia));have kp2:∀b o,h0.get? b=some o->h'.get? b=some o:=λb o e=>by
   rw[hs'.2 b (λz=>by
    rw[z,hD0] at e;cases e)]
   exact kp' b o e
  have d2:h'.DictOfH (VQ (zJ prog w)) D (putAll (ks.take (i+1))):=by
   rw[tk,putAll_snoc];exact hd'
  refine XS ⟨UC xV _,?_⟩;show T8 _ A (.builtin "dict.update.loop" ⟨[.ref D,.ref I,Ul ((i:Int)+1),.none],[]⟩) R _;rw[show ((i:Int)+1)=((i+1:Nat):Int) by lia];refine ih (i+1) _ (by lia) hlt (W.frame _ s' _ _ hst' (U0 _ _) λb hb o e=>?_) kp2 d2 λs'' hm'' hS''=>?_
  .rw[hs'.2 b (λz=>hDf (by rw[<- z];exact hb))];exact e
  .refine hR s'' (Moved.trans W.gtrans ((hm.mono more).then_heap (U0 _ _) λb o hb e=>?_) hm'') hS'';rw[hs'.2 b (λz=>hb (by rw[z];exact XU))];exact e
end
def zqc (H:Hp)(v:V)(kv:List Key×V):Prop:=∃a b,v=V.ref a/\H a=some (.tup [.ref b,kv.2])/\H b=some (.tup (kv.1.map kV))
def j6 (H:Hp):AE->List (List Key×V)->Prop:=Xl (zqc H)
def j6.mono {H H':Hp}(s:zo H H'){vs:AE}{kvs:List (List Key×V)}(hp:j6 H vs kvs):j6 H' vs kvs:=by
 induction hp with
 | nil=>exact .nil
 | cons q _ ih =>
  obtain⟨a,b,e,h1,h2⟩:=q;exact .cons ⟨a,b,e,s _ _ h1,s _ _ h2⟩ ih
def zfc (kvs:List (List Key×V)):List (List Key×V):=kvs.foldl (λacc kv=>putK acc kv.1 kv.2) []
def KT.puts {H:Hp}{kvs:List (List Key×V)}{ks:List KQ}{acc:List (List Key×V)}{xs:List KQ}(hp:KT H kvs ks)(r:KT H acc xs):KT H (kvs.foldl (λacc kv=>putK acc kv.1 kv.2) acc) (ks.foldl (λacc q=>Ux acc q.1 q.2.1 q.2.2) xs):=by
 induction hp generalizing acc xs with
 | nil=>exact r
 | cons q _ ih =>
  obtain⟨h1,h2,h3⟩:=q;rw[VL,VL];refine ih ?_;rw[<- h1];exact r.put _ h2 h3
def zmD {P:Xm}{w:WZ}{H:Hp}{h:Heap}(ok:HOk P w H h){kvs:List (List Key×V)}{ks:List KQ}(hp:KT H kvs ks):∀x∈ks,(VQ (zJ P w)).is h x.1 x.2.1:=by
 induction hp with
 | nil=>exact λx hx=>nomatch hx
 | cons q _ ih =>
  intro x hx;rcases XG.mp hx with e | hx
  .subst e;exact zec ok (by rw[<- q.1];exact q.2.1)
  .exact ih x hx
def zmE {P:Xm}{w:WZ}{H:Hp}{h:Heap}(ok:HOk P w H h){vs:AE}{kvs:List (List Key×V)}{its:List X8}(hp:j6 H vs kvs)(hv:Vals vs its):∃ks:List KQ,KT H kvs ks/\ks.length=its.length/\(∀(i:Nat) (v:X8),its[i]?=some v->∃(ta:Addr) (q:KQ),v=WA ta/\ks[i]?=some q/\OA h ta #[.ref q.2.1,q.2.2]):=by
 induction hp generalizing its with
 | nil =>
  cases hv;exact⟨[],.nil,rfl,λi v e=>by simp at e⟩
 | @cons x kv xs ys q _ ih =>
  obtain⟨a,b,e,h1,h2⟩:=q;cases hv with
  | cons rv rs =>
  obtain⟨ks,k1,k2,k3⟩:=ih rs;subst e;cases rv;obtain⟨_,xs,r,tp⟩:=(show jt P w H h a (.tup [.ref b,kv.2]) from ok a _ h1);obtain⟨u,u2,rfl,ru,ru2⟩:=vals2 r;cases ru;refine⟨(kv.1,b,u2)::ks,.cons ⟨rfl,h2,ru2⟩ k1,by rw[Xj,Xj,k2],λi v e=>?_⟩;cases i with
  | zero =>
   have e':WA a=v:=by simpa using e
   exact⟨a,_,e'.symm,rfl,tp⟩
  | succ i =>
   obtain⟨ta,q,h1,h2,h3⟩:=k3 i v (by simpa using e);exact⟨ta,q,h1,by simpa using h2,h3⟩
section
variable {X:Cx}
set_option maxHeartbeats 8000000 in
theorem ZZ (hu:X.A.units+64<VA)(hh:X.A.handled=none):jj X (.type "dict") (λxs H Q=>∃l us kvs,xs=[.ref l]/\H l=some (.lst us)/\j6 H us kvs/\∀d,H d=none->Q (.ref d) (upd H d (.dT (zfc kvs)))):=by
 intro bQ s σ H xs us' Q I r h;obtain⟨l,us,kvs,rfl,hl,hp,q⟩:=h;obtain⟨u,rfl,ru⟩:=vals1 r;cases ru;obtain⟨hz,its,n,rv,e⟩:=(show jt X.prog X.w H s.heap l (.lst us) from I.hok l _ hl);obtain⟨ks,hkt,hkl,hraw⟩:=zmE I.hok hp rv;have big:=I.big;have hil:its.length<=Xq:=by
  rw[<- rv.length];exact hz
 have hks:=zmD I.hok hkt;refine callType_codes (Q₁:=λobj s₁=>obj=.ref s.heap.objs.size/\s₁={ s with heap:=s.heap.push { cls:=.type "dict",data:=.dict #[] } }) PySem.F.kt_called_dict (PySem.F.kt_typeCall_dict_1 _) PySem.F.entry_dict_init (kt_code_dict_new _ ⟨rfl,rfl⟩) ?_;rintro obj s₁ ⟨rfl,rfl⟩;have hnew:(s.heap.push { cls:=.type "dict",data:=.dict #[] }).DictOfH (VQ (zJ X.prog X.w)) s.heap.objs.size []:=Heap.DictOfH.new s.heap;have e1:(s.heap.push { cls:=.type "dict",data:=.dict #[] }).get? l=some { cls:=.type "list",dict:=none,data:=.seq its.toArray n,slots:=#[] }:=XY _ e;refine⟨hnew.typeIs,PySem.F.args_dict_init_2 _ _,?_⟩;unfold UR.«dict.__init__»;refine ZB ?_;unfold RB;refine ZB (PJ hnew.typeIs ?_);show Xk _ _ (pure (s.heap.objs.size,[WA l])) _ _ _;refine XS ?_;show Xk _ _ (Um "dict.__init__" s.heap.objs.size (.ref l) [] .none) _ _ _;unfold Um;have hT:SA { s with heap:=s.heap.push { cls:=.type "dict",data:=.dict #[] } } (.ref l) "list":=⟨_,e1,rfl⟩;refine ZB (Sg hT ?_);rw[br (by decide)];refine ZB (zmC e1 (by simp[hh]) λh2 t2 kp=>?_);rw[br (show (none:Option X8).isNone=true from rfl)];have kp0:∀b o',s.heap.get? b=some o'->h2.get? b=some o':=λb o' z=>kp b o' (XY _ z);have hl2:h2.IsList l its.toArray:=⟨_,kp _ _ e1,rfl,n,rfl⟩;refine ZB (UW (ZB (S7 hl2 ?_)));have hls:l<s.heap.objs.size:=XE e;have hDl:s.heap.objs.size<h2.objs.size:=by
  obtain⟨o,_,_,ho,_⟩:=hnew;exact XE (kp _ _ ho)
 have hneI:l≠h2.objs.size:=Xe (TM hls hDl);have hDf:s.heap.objs.size ∉ [h2.objs.size,l]:=by
  simp only[XG,Rq,or_false,not_or];exact⟨Xe hDl,TQ hls⟩
 refine XS ⟨UC xV _,?_⟩;have hd2:(h2.push { cls:=.type "list_iterator",data:=.fields #[.ref l,.int 0 0] }).DictOfH (VQ (zJ X.prog X.w)) s.heap.objs.size []:=by
  obtain⟨o,es,ep,ho,h3,h4,h5,_,h6⟩:=hnew;exact⟨o,es,ep,XY _ (kp _ _ ho),h3,h4,h5,(λx hx=>nomatch hx),h6⟩
 refine zgx (h0:=s.heap) ((Walks.list (by simp[hh]) h2.objs.size l hneI its.toArray).toS) s.heap.objs.size hDf (UF (XV _)) (λb hb=>?_) ks (by rw[hkl];simp) (by simpa using hil) (by show X.A.units+1+1<VA;lia) hks (λi v hv=>hraw i v (by rw[<- hv];simp)) _ 0 _ rfl (WT _)
  ⟨⟨_,W5 _ rfl,rfl,rfl⟩,hl2.push _⟩ (λb o z=>XY _ (kp0 b o z)) hd2 ?_
 .have e:b=h2.objs.size:=by simpa using hb
  rw[e];exact UF (TR hDl)
 .intro s' hm hS';obtain⟨h',g',d',tk',os'⟩:=s';have eg:g'=s.gens:=hm.gens;have ed:d'=s.drawn:=hm.drawn;have eo:os'=s.os:=hm.os;subst eg;subst ed;subst eo;have kp3:∀b o',s.heap.get? b=some o'->h'.get? b=some o':=λb o' z=>by
   have lt:=XE z;refine hm.heap b o' (λhb=>?_) (XY _ (kp0 b o' z));rcases XG.mp hb with e | hb
   .exact VM _ (e ▸ lt)
   .have e:b=h2.objs.size:=by simpa using hb
    rw[e] at lt;exact VM _ (TM lt hDl)
  obtain⟨o,es,ep,ho,h3,h4,h5,_,h6⟩:=hS';have hkk:KT H (zfc kvs) (putAll ks):=KT.puts hkt .nil;have hfresh:H s.heap.objs.size=none:=I.hok.fresh (XV _);refine⟨rfl,.ref s.heap.objs.size,_,I.laid (a:=s.heap.objs.size) (o:=.dT (zfc kvs)) (t':=tk') kp3 (XV _) ⟨?_,beq_eq_false_iff_ne.mpr (Vr (Xe big)),_,KT.keeps hkk λb ys hb=>?_,o,es,ep,ho,h3,h4,h5,h6⟩,rfl,q _ hfresh⟩
  .rw[Paired.length hkk];exact XZ (zbQ ks) (by rw[hkl];exact hil)
  .rw[zf (zg hb hfresh)];exact hb
end
def u1 {A:PySem.Around}(h:A.units+64<PySem.cLine):A.units+1<PySem.cLine:=by lia
theorem j6.into {H:Hp}(z:Addr)(o:HO){old:AE}(hz:H z=some (.lst old)):∀{vs:AE} {kvs:List (List Key×V)},j6 H vs kvs->j6 (upd H z o) vs kvs
 | _,_,.nil=>.nil
 | _,_,.cons ⟨a,b,e,h1,h2⟩ t=>.cons ⟨a,b,e,by rw[zf (zeP h1 hz (by intro y;cases y))];exact h1,by rw[zf (zeP h2 hz (by intro y;cases y))];exact h2⟩ (j6.into z o hz t)
theorem j6.snoc {H:Hp}{vs:AE}{kvs:List (List Key×V)}{v:V}{kv:List Key×V}(h:j6 H vs kvs)(x:zqc H v kv):j6 H (vs++[v]) (kvs++[kv]):=Paired.snoc h x
theorem j6.length {H:Hp}{vs:AE}{kvs:List (List Key×V)}(h:j6 H vs kvs):vs.length=kvs.length:=Paired.length h
section
variable {prog:Xm}{w:WZ}{A:WR}{E:X8->X7->Prop}{s:X7}{d o a:Addr}{xs ys:List KQ}{k:List Key}{v:X8}
abbrev tk2 (prog:Xm)(w:WZ):HeapKind prog w (List Key):=VQ (zJ prog w)
def zgy {Q:Unit->X7->Prop}(hu:A.units<VA)(hkey:(tk2 prog w).is s.heap k a)(hm:s.heap.DictOfH (tk2 prog w) d xs)(hsz:xs.length<=Xq)
  (hQ:∀h',h'.DictOfH (tk2 prog w) d (Ux xs k a v)->Wh d s.heap h'->Q () { s with heap:=h' }):Xk (Xn prog w) A (OY d (.ref a) ((tk2 prog w).hash k) v) Q E s:=by
 obtain⟨ob,es,ep,ho,hc,hd,he,his,hn⟩:=hm;unfold OY;refine Wz (ZB (wpAny_dictFind_heap (knd:=tk2 prog w) hu hkey ho hd he his hn (λhno=>?_) λj p hj=>?_))
 .have hnot:=not_mem_keys_of_get hno;have en:=atKey_none_of_get hno;refine ZB (UW (wpAny_updateDictKeys (hz:=by have e:=size_of_entries he;lia) ho hd (hQ _ ⟨_,_,ep+1,WD _ ho (Sj (TW hd _)),hc.mapDictKeys _,TW hd _,?_,?_,?_⟩ (Wn ..))))
  .rw[Ps en];simp[he,Tq]
  .rw[Ps en];intro x hx;rcases XQ.mp hx with hx | hx
   .exact(tk2 prog w).keeps (his x hx) ho hd (Wn ..)
   .have e:x=(k,a,v):=by simpa using hx
    subst e;exact(tk2 prog w).keeps hkey ho hd (Wn ..)
  .rw[Ps en,Xh,WW];refine⟨hn,by simp,λx hx y hy e=>hnot ?_⟩;have e2:y=k:=by simpa using hy
   rw[<- e2,<- e];exact hx
 .have es1:=storedH_old (atKey_of_get hn hj) a v;refine ZB (UW (ZB (wpAny_updateDict ho hd (wpAny_point (hQ _ ⟨_,_,ep,WD _ ho (Sj (Obj.data_mapDict hd _)),hc.mapDict _,Obj.data_mapDict hd _,?_,?_,?_⟩ (Wn ..))))))
  .rw[es1];have z:=modify_map_putAt (Tq (tk2 prog w)) (λe:Rv=>{ e with val:=v }) k v (λ_ _=>rfl) hn hj;rw[<- he] at z;obtain⟨l⟩:=es;simpa using z
  .rw[es1];intro x hx;obtain⟨y,hy,rfl⟩:=XM.mp hx;unfold putAt;split<;>exact(tk2 prog w).keeps (his y hy) ho hd (Wn ..)
  .rw[es1,keys_map_putAt];exact hn
def HN (prog:Xm)(w:WZ)(ys:List KQ):Prop:=(ys.map λq=>(tk2 prog w).hash q.1).Nodup
def zgz:OT (.type "tuple") "__eq__"=pure (some (.builtin "tuple.__eq__")):=by rw[Ts,UQ];kernel_rfl
def zfd {Q:Bool->X7->Prop}(hkey:(tk2 prog w).is s.heap k a)(q:Q false s):Xk (Xn prog w) A (Pi (.ref a)) Q E s:=by
 obtain⟨ob,its,n,h1,h2,_⟩:=hkey;have hT:s.TypeIs (.ref a) "tuple":=⟨ob,h1,h2⟩;unfold Pi;refine ZB (So hT zgz (XS ?_));rw[show (some (Tv "tuple.__eq__")==some (Tv "object.__eq__"))=false by decide+kernel];exact q
def ziQ {ys:List KQ}{es:Array Rv}(he:es.toList=ys.map (Tq (tk2 prog w)))(hN:HN prog w ys)(x:Int):¬ (es.filter (λe=>e.hash==x)).size>1:=by
 have h1:(es.filter (λe=>e.hash==x)).size=(es.toList.filter (λe=>e.hash==x)).length:=by
  rw[<- O7,X4]
 rw[h1,he];unfold HN at hN;clear h1 he;induction ys with
 | nil=>simp
 | cons q r ih =>
  rw[Xu,WB] at hN;rw[Xu,Wr];split
  .rename_i hq;have e1:(tk2 prog w).hash q.1=x:=by simpa[Tq] using hq
   have:(r.map (Tq (tk2 prog w))).filter (λe=>e.hash==x)=[]:=by
    rw[Wd];intro e hm hx;obtain⟨y,hy,rfl⟩:=XM.mp hm;have e2:(tk2 prog w).hash y.1=x:=by simpa[Tq] using hx
    exact hN.1 (XM.mpr ⟨y,hy,by rw[e1,e2]⟩)
   rw[this];simp
  .exact ih hN.2
def ziR {id:String}{ob:Obj}{es:Array Rv}{ep:Nat}{Q:Array Rv->X7->Prop}(ho:s.heap.get? d=some ob)(hd:ob.data=.dict es ep)(he:es.toList=ys.map (Tq (tk2 prog w)))(hk:∀x∈ys,(tk2 prog w).is s.heap x.1 x.2.1)(hN:HN prog w ys)(h:Q es s) :
  Xk (Xn prog w) A (Sm id d) Q E s:=by
 unfold Sm;refine ZB (T5 ho hd (ZB ?_));rw[<- R1];refine TJ _ (λrest _ s'=>s'=s/\∀e∈rest,e∈es.toList) _ ?_ ?_ _ _ ⟨rfl,λe he=>he⟩
 .rintro x rest b s' ⟨rfl,hr⟩;have hx:=hr x XU;rw[he] at hx;obtain⟨y,hy,rfl⟩:=XM.mp hx;refine ZB (zfd (hk y hy) ?_);rw[br (show (!false)=true from rfl),bw (ziQ he hN _)];exact XS ⟨rfl,λe he=>hr e (XR _ he)⟩
 .rintro b s' ⟨rfl,_⟩;exact XS h
def Jf (xs ys:List KQ):List KQ:=ys.foldl (λacc q=>Ux acc q.1 q.2.1 q.2.2) xs
def zfe (xs ys:List KQ)(q:KQ):Jf xs (ys++[q])=Ux (Jf xs ys) q.1 q.2.1 q.2.2:=by
 unfold Jf;rw[UH];rfl
theorem zbR (xs:List KQ):∀ys:List KQ,∀acc:List KQ,(Jf acc ys).length<=acc.length+ys.length
 | [],acc=>XV _
 | q::r,acc=>by
  have h1:=zbR xs r (Ux acc q.1 q.2.1 q.2.2);have h2:=zaM acc q.1 q.2.1 q.2.2;rw[Xj];show (Jf (Ux acc q.1 q.2.1 q.2.2) r).length<=_;lia
theorem QN:∀(ys acc:List KQ),((acc++ys).map (·.1)).Nodup->Jf acc ys=acc++ys
 | [],acc,_=>(Xd acc).symm
 | q::r,acc,h=>by
  have hno:ON acc q.1=none:=by
   unfold ON;rw[List.find?_eq_none.mpr]
   .rfl
   .intro x hx hk;rw[Xh,Xu,WW] at h;exact h.2.2 x.1 (XM.mpr ⟨x,hx,rfl⟩) q.1 XU (bh hk)
  show Jf (Ux acc q.1 q.2.1 q.2.2) r=_;rw[Ps hno,show ((q.1,q.2.1,q.2.2):KQ)=q from rfl,QN r (acc++[q]) (by simpa using h)];simp
def zmF {nm:String}{Q:Unit->X7->Prop}(hu:A.units<VA)(hdo:d≠o)(hoS:(o==Vd)=false)(hd:s.heap.DictOfH (tk2 prog w) d xs)(ho:s.heap.DictOfH (tk2 prog w) o ys)(hN:HN prog w ys)(hsz:xs.length+ys.length<=Xq)
  (hQ:∀h',h'.DictOfH (tk2 prog w) d (Jf xs ys)->Wh d s.heap h'->Q () { s with heap:=h' }):Xk (Xn prog w) A (PY nm d o) Q E s:=by
 obtain⟨od,esd,epd,hod,hcd,hdd,hed,hkd,hnd⟩:=id hd;obtain⟨oo,eso,epo,hoo,hco,hdo',heo,hko,hno⟩:=id ho;have hlen:ys.length=eso.size:=(size_of_entries heo).symm;unfold PY;rw[bw (show ¬ (d==o)=true by simpa using hdo)];unfold Builtin.Dict.showsAll;rw[bw (show ¬ (o==Vd)=true by rw[hoS];exact XT)];refine ZB (XS (ZB (T5 hoo hdo' ?_)));have loop:Xk (Xn prog w) A (do
   let epoch <- dictEpoch o
   let l <- dictEntries o
   forIn [:l.size] OR λi (_:PUnit)=>(do
     let l' <- dictEntries o
     match l'[i]? with
      | some e=>do
       Pb [e.key,e.val] (OY d e.key e.hash e.val)
       let ep' <- dictEpoch o
       if (ep' != epoch)=true then do
         (Pr (toString nm++toString ":source-changed-during-callback"):Sem PUnit)
         pure (V2 OR)
        else pure (V2 OR)
      | _=>do
       (Pr "internal:dict-merge":Sem PUnit)
       pure (V2 OR):Sem (ForInStep PUnit))
   pure ()) Q E s:=by
  refine ZB (wpAny_dictEpoch hoo hdo' (ZB (T5 hoo hdo' (ZB ?_))));rw[Std.Legacy.Range.forIn_eq_forIn_range'];simp only[Std.Legacy.Range.size,Nat.sub_zero,R0,Nat.div_one];refine TJ _ (λrest _ s'=>∃h' i,s'={ s with heap:=h' }/\rest=List.range' i (eso.size-i)/\i<=eso.size/\h'.DictOfH (tk2 prog w) d (Jf xs (ys.take i))/\Wh d s.heap h') _ ?_ ?_ _ _ ⟨s.heap,0,rfl,by simp,WT _,hd,Heap.SameBut.refl _ _⟩
  .rintro x rest b s' ⟨h',i,rfl,hr,hi,hd',hs'⟩;have hlt:i<eso.size:=by
    rcases Uj i eso.size with h | h
    .exact h
    .rw[Nat.sub_eq_zero_of_le h] at hr;simp at hr
   obtain⟨rfl,hrest⟩:x=i/\rest=List.range' (i+1) (eso.size-(i+1)):=by
    rw[show eso.size-i=(eso.size-(i+1))+1 by lia,List.range'_succ] at hr;injection hr with h1 h2
    exact⟨h1,h2⟩
   have hoo':h'.get? o=some oo:=(hs'.2 o (Vr hdo)).trans hoo;obtain⟨q,hq⟩:∃q,ys[x]?=some q:=⟨_,XX (by lia)⟩;refine ZB (T5 hoo' hdo' ?_);rw[entry_at heo x,hq];have hkq:=hko q (X6 hq);have hkq':(tk2 prog w).is h' q.1 q.2.1:=(tk2 prog w).keeps hkq hod hdd hs';have l1:=zbR xs (ys.take x) xs;have l2:(ys.take x).length<=ys.length:=by
    rw[XF];lia
   refine ZB (Wz (zgy (s:={ s with heap:=h' }) hu hkq' hd' (by lia) λh'' hd'' hs''=>?_));have hoo'':h''.get? o=some oo:=(hs''.2 o (Vr hdo)).trans hoo';refine ZB (wpAny_dictEpoch hoo'' hdo' ?_);rw[bw (by simp)];refine XS ⟨h'',x+1,rfl,hrest,hlt,?_,hs'.trans hs''⟩;rw[Xc,hq];show h''.DictOfH (tk2 prog w) d (Jf xs (ys.take x++[q]));rw[zfe];exact hd''
  .rintro b s' ⟨h',i,rfl,hr,hi,hd',hs'⟩;have hin:i=eso.size:=by
    rcases Uj i eso.size with h | h
    .rw[show eso.size-i=(eso.size-(i+1))+1 by lia,List.range'_succ] at hr;exact nomatch hr
    .exact Nat.le_antisymm hi h
   rw[hin,<- hlen,Xz] at hd';exact XS (hQ h' hd' hs')
 dsimp only;split
 .refine ZB (T5 hod hdd ?_);split
  .rename_i zff;have hx0:xs=[]:=by
    have h0:esd=#[]:=Array.isEmpty_iff.mp zff;rw[h0] at hed;exact O6.mp hed.symm
   subst hx0;rw[QN ys [] (by simpa using hno)] at hQ;refine ZB (ziR hoo hdo' heo hko hN ?_);split
   .refine ZB (wpAny_updateDictKeysTo hod hdd (XS (hQ _ ⟨_,_,epd+1,WD _ hod (Sj (TW hdd _)),hcd.mapDictKeys _,TW hdd _,heo,λx hx=>(tk2 prog w).keeps (hko x hx) hod hdd (Wn ..),hno⟩ (Wn ..))) (by
     simp only[UM,VI] at hsz;lia))
   .rename_i hne;have h0:eso=#[]:=Array.isEmpty_iff.mp (by simpa using hne);have hy0:ys=[]:=by
     rw[h0] at heo;exact O6.mp heo.symm
    subst hy0;exact XS (hQ _ hd (Heap.SameBut.refl _ _))
  .exact loop
 .exact loop
end
def HH (i j:Nat):Int:=reduceHash (Builtin.Tuple.tupleHashOf [hashInt (i:Int),hashInt (j:Int)])
def xW (prog:Xm)(w:WZ)(i j:Nat):(tk2 prog w).hash [.inl ((i:Nat):Int),.inl ((j:Nat):Int)]=HH i j:=by
 show tupleKeyHash (zJ prog w) [.inl ((i:Nat):Int),.inl ((j:Nat):Int)]=HH i j;unfold tupleKeyHash HH;rw[Xu,Xu,Qb];have e:∀n:Nat,(zJ prog w).hash (.inl ((n:Nat):Int))=hashInt ((n:Nat):Int):=λn=>by
  show zog w (.inl ((n:Nat):Int))=_;unfold zog;with_reducible rfl
 rw[e,e]
def zoT:(Wy 64).all λn=>(Wy 64).all λm=>decide (HH (n/8) (n%8)=HH (m/8) (m%8))==decide (n=m):=by decide+kernel
def zfg {i j i' j':Nat}(h1:i<8)(h2:j<8)(h3:i'<8)(h4:j'<8)(e:HH i j=HH i' j'):i=i'/\j=j':=by
 have h:=zoT;rw[WG] at h;have a:=h (8*i+j) (Wo.mpr (by lia));rw[WG] at a;have b:=a (8*i'+j') (Wo.mpr (by lia));rw[show (8*i+j)/8=i by lia,show (8*i+j)%8=j by lia,show (8*i'+j')/8=i' by lia,show (8*i'+j')%8=j' by lia,bu e] at b;have c:decide (8*i+j=8*i'+j')=true:=by simpa using b
 have d:=bh c;lia
def Small (ks:List (List Key)):Prop:=∀k∈ks,∃i j:Nat,i<8/\j<8/\k=[.inl ((i:Nat):Int),.inl ((j:Nat):Int)]
theorem znQ {prog:Xm}{w:WZ}:∀{ys:List KQ},Small (ys.map (·.1))->(ys.map (·.1)).Nodup->HN prog w ys
 | [],_,_=>Vw
 | q::r,hs,hn=>by
  rw[Xu,WB] at hn;unfold HN;rw[Xu,WB];refine⟨λhm=>?_,znQ (λk hk=>hs k (XR _ hk)) hn.2⟩;obtain⟨y,hy,e⟩:=XM.mp hm;obtain⟨i,j,h1,h2,e1⟩:=hs q.1 XU;obtain⟨i',j',h3,h4,e2⟩:=hs y.1 (XR _ (XM.mpr ⟨y,hy,rfl⟩));rw[e1,e2,xW,xW] at e;obtain⟨a,b⟩:=zfg h3 h4 h1 h2 e;refine hn.1 (XM.mpr ⟨y,hy,?_⟩);rw[e1,e2,a,b]
theorem KT.keys {H:Hp}:∀{kvs:List (List Key×V)} {xs:List KQ},KT H kvs xs->xs.map (·.1)=kvs.map (·.1)
 | _,_,.nil=>rfl
 | _,_,.cons ⟨h1,_,_⟩ t=>by rw[Xu,Xu,KT.keys t,h1]
def zke {P:Xm}{w:WZ}{H:Hp}{kvs:List (List Key×V)}{xs:List KQ}(r:KT H kvs xs)(hs:Small (kvs.map (·.1)))(hn:(xs.map (·.1)).Nodup):HN P w xs:=znQ (by rw[r.keys];exact hs) hn
def Ql (kvs more:List (List Key×V)):List (List Key×V):=more.foldl (λacc kv=>putK acc kv.1 kv.2) kvs
theorem zbS:∀(more kvs:List (List Key×V)),(Ql kvs more).length<=kvs.length+more.length
 | [],kvs=>XV _
 | kv::r,kvs=>by
  have h1:=zbS r (putK kvs kv.1 kv.2);have h2:=Z6 kvs kv.1 kv.2;show (Ql (putK kvs kv.1 kv.2) r).length<=_;rw[Xj];lia
section
variable {X:Cx}
def zgA (hu:X.A.units+64<VA):MtR X "dict.update" (λx vs H Q=>∃d o kvs more,x=.ref d/\vs=[.ref o]/\d≠o/\H d=some (.dT kvs)/\H o=some (.dT more)/\Small (more.map (·.1))/\kvs.length+more.length<=Xq/\Q .non (upd H d (.dT (Ql kvs more)))):=by
 intro bQ s σ H x vs v us Q I rx rv h;obtain⟨d,o,kvs,more,rfl,rfl,hdo,hd,ho,hsm,hsz,q⟩:=h;cases rx;obtain⟨u,rfl,ru⟩:=vals1 rv;cases ru;obtain⟨hz,hS,ks,hkt,dd⟩:=znP I.hok hd;obtain⟨hz2,hS2,ks2,hkt2,dd2⟩:=znP I.hok ho;have hN:HN X.prog X.w ks2:=by
  obtain⟨_,_,_,_,_,_,_,_,hn⟩:=dd2;exact zke hkt2 hsm hn
 refine UZ RA dd.typeIs PySem.F.entry_dict_update ?_ (PySem.F.args_dict_update_2 _ _);unfold UR.«dict.update»;refine ZB ?_;unfold RB;refine ZB (PJ dd.typeIs ?_);show Xk _ _ (pure (d,[WA o])) _ _ s;refine XS ?_;show Xk _ _ (Um "dict.update" d (.ref o) [] .none) _ _ s;unfold Um;refine ZB (Sg dd2.typeIs ?_);rw[bw (by decide)];refine ZB ?_;unfold Builtin.Dict.merge;refine ZB ?_;unfold Builtin.Dict.readDirectly;refine ZB (Rp dd2.typeIs isSubtype_dict_dict ?_);simp only[Bool.not_true,Ww,if_false];refine ZB (So dd2.typeIs PySem.F.slot_dict_iter.lookup (XS ?_));simp only[beq_self_eq_true,if_true];refine ZB (XS ?_);have l1:ks.length=kvs.length:=(Paired.length hkt).symm;have l2:ks2.length=more.length:=(Paired.length hkt2).symm;refine zmF (by show X.A.units+1<VA;lia) hdo hS2 dd dd2 hN (by lia) λh' hd' hs'=>?_;show Xk _ _ (RC d [] >>= _) _ _ _;refine ZB (XS (XS ⟨_,rfl,?_⟩));obtain⟨ob,es,ep,hob,h3,h4,h5,_,h6⟩:=hd';have hkk:KT H (Ql kvs more) (Jf ks ks2):=KT.puts hkt2 hkt;have hl:=zbS more kvs;refine⟨.non,_,zhF (t':=s.toks) (ob:=.dT (Ql kvs more)) I (by rw[hd];exact QP) hs' ⟨ob,hob⟩ ⟨by lia,hS,_,hkk.keeps λc ys ec=>?_,ob,es,ep,hob,h3,h4,h5,h6⟩,rfl,q⟩;rw[zf (zeP ec hd (λz=>nomatch z))];exact ec
end
section
variable {X:Cx}
def vals3 {x y z:V}{us:List X8}(r:Vals [x,y,z] us):∃u v w',us=[u,v,w']/\RelV x u/\RelV y v/\RelV z w':=by
 cases r with
 | cons r1 r2 =>
  obtain⟨v,w',rfl,h1,h2⟩:=vals2 r2;exact⟨_,v,w',rfl,r1,h1,h2⟩
def mx3 (i j k:Int):Int:=if j>i then (if k>j then k else j) else (if k>i then k else i)
def mn3 (i j k:Int):Int:=if j<i then (if k<j then k else j) else (if k<i then k else i)
def ziS (hc:X.calm=true):jj X (.builtin "max") (λxs H Q=>∃i j k,xs=[.int i,.int j,.int k]/\Q (.int (mx3 i j k)) H):=by
 intro bQ s σ H xs us Q I r h;obtain⟨i,j,k,rfl,q⟩:=h;obtain⟨u,v,w',rfl,⟨t,rfl⟩,⟨t',rfl⟩,⟨t'',rfl⟩⟩:=vals3 r;refine max_three_ints (I.ok.hd hc) λh' tk kp=>⟨_,H,I.kept kp,?_,q⟩;unfold mx3;split<;>split<;>exact⟨_,rfl⟩
def ziT (hc:X.calm=true):jj X (.builtin "min") (λxs H Q=>∃i j k,xs=[.int i,.int j,.int k]/\Q (.int (mn3 i j k)) H):=by
 intro bQ s σ H xs us Q I r h;obtain⟨i,j,k,rfl,q⟩:=h;obtain⟨u,v,w',rfl,⟨t,rfl⟩,⟨t',rfl⟩,⟨t'',rfl⟩⟩:=vals3 r;refine min_three_ints (I.ok.hd hc) λh' tk kp=>⟨_,H,I.kept kp,?_,q⟩;unfold mn3;split<;>split<;>exact⟨_,rfl⟩
end
section
variable {X:Cx}{tg iter elt:Expr}{ifs:List Expr}{scope:Vi}{pos:Pos}{N:AD}{src:List (Option Nat)}{cl:List (Str×Addr)}{wi:TI}{g:TG}{tc:TT}{te:TE}
def zkf {y:Str}{i:Nat}{x:Str}{xpos spos:Pos}(hN:X.N.Nodup)(hix:X.N[i]?=some x)(hlx:X.env.scope.names.lookup x=some .local)(ok:jY X N src scope cl y)(hcalm:X.calm=true)(hi:PI X tg iter wi)
  (hg:∀C fp bQ s H,PG (qY X N scope cl y C fp bQ s H) tg g) (hc:∀C fp bQ s H,YT (qY X N scope cl y C fp bQ s H) ifs tc) (he:∀C fp bQ s H,PE (qY X N scope cl y C fp bQ s H) elt te)
  (hs:∀x,Wq iter X.env x=pure x:=by intro _;rfl) (hsw:Th (.ListComp elt [⟨tg,iter,ifs,0⟩] scope pos) (some (.Name x xpos)) spos.line X.env=pure true:=by rfl) :
  PS X (.Assign [.Name x xpos] (.ListComp elt [⟨tg,iter,ifs,0⟩] scope pos) spos) (zgi (ZX wi src g tc te) (jN i)):=λ_ _ _ _ _ I h=>ze6 hsw (zdm ok hcalm hi hg hc he hs I h (znN hN hix hlx))
end
open PySem
namespace ST
def run (mask i:Nat):List Nat:=(Wy (VC mask i+1-i)).map (i + ·)
def walk (mask:Nat):Nat->Nat->Nat->List Nat
 | 0,_,_=>[]
 | f+1,i,p=>run mask i++walk mask f (Vk mask i p).1 (Vk mask i p).2
def zmG (mask i:Nat):1<=(run mask i).length/\(run mask i).length<=10:=by
 unfold run VC;rw[Y1,WI];split<;>lia
theorem zbT (mask:Nat):∀f i p,(walk mask f i p).length<=10*f
 | 0,_,_=>XV _
 | f+1,i,p=>by
  rw[walk,X0];have:=(zmG mask i).2;have:=zbT mask f (Vk mask i p).1 (Vk mask i p).2;lia
def steps (t:Wt):Nat->R5->R5
 | 0,p=>p
 | n+1,p=>steps t n (t.advance p)
theorem zal (t:Wt):∀n m p,steps t (n+m) p=steps t m (steps t n p)
 | 0,m,p=>by rw[VI];rfl
 | n+1,m,p=>by
  rw[show n+1+m=(n+m)+1 from by lia];exact zal t n m (t.advance p)
theorem zam (t:Wt)(i pt:Nat)(dm:Option Nat):∀(d r j:Nat),d<=r->steps t d { j:=j,more:=r,i:=i,perturb:=pt,dummy:=dm }={ j:=j+d,more:=r-d,i:=i,perturb:=pt,dummy:=dm }
 | 0,r,j,_=>rfl
 | d+1,r,j,h=>by
  have e:t.advance { j:=j,more:=r,i:=i,perturb:=pt,dummy:=dm }={ j:=j+1,more:=r-1,i:=i,perturb:=pt,dummy:=dm }:=by
   unfold Ro;rw[br (by show r>0;lia)]
  show steps t d (t.advance _)=_;rw[e,zam t i pt dm d (r-1) (j+1) (by lia)];congr 1<;>lia
def YA (mask i pt:Nat)(dm:Option Nat):R5:={ j:=i,more:=VC mask i-i,i:=i,perturb:=pt,dummy:=dm }
def zan (mask i:Nat):i<=VC mask i:=by
 unfold VC;split<;>lia
def zgB (t:Wt)(i pt:Nat)(dm:Option Nat):steps t (run t.mask i).length (YA t.mask i pt dm)=YA t.mask (Vk t.mask i pt).1 (Vk t.mask i pt).2 dm:=by
 have hl:(run t.mask i).length=(VC t.mask i-i)+1:=by
  unfold run;rw[Y1,WI];have:=zan t.mask i;lia
 rw[hl,zal];unfold YA;rw[zam t i pt dm _ _ _ (XV _),Tc];rw[steps,steps];unfold Ro;rw[bw (by show ¬ 0>0;lia)]
theorem Jg (t:Wt):∀(f i pt:Nat) (dm:Option Nat) (n:Nat) (j:Nat),(walk t.mask f i pt)[n]?=some j->(steps t n (YA t.mask i pt dm)).j=j
 | 0,_,_,_,_,_,h=>by simp[walk] at h
 | f+1,i,pt,dm,n,j,h=>by
  rw[walk] at h;by_cases hn:n<(run t.mask i).length
  .rw[VF hn] at h;unfold run at h;rw[Xo,U8 (by unfold run at hn;simpa using hn)] at h;have hl:(run t.mask i).length=(VC t.mask i-i)+1:=by
    unfold run;rw[Y1,WI];have:=zan t.mask i;lia
   unfold YA;rw[zam t i pt dm n _ _ (by lia)];exact Option.some.inj h
  .rw[Vt (by lia)] at h;have e:n=(run t.mask i).length+(n-(run t.mask i).length):=by lia
   rw[e,zal,zgB];exact Jg t f _ _ dm _ j h
theorem zee (t:Wt)(Vy:Nat->Int)(h:Int):∀(n F:Nat) (p:R5),(∀k,k<n->∃i,t.slot (steps t k p).j=.live i/\(Vy i==h)=false)->n<=F->T4 t Vy h F p=T4 t Vy h (F-n) (steps t n p)
 | 0,F,p,_,_=>rfl
 | n+1,F,p,hk,hF=>by
  obtain⟨F',rfl⟩:∃F',F=F'+1:=⟨F-1,by lia⟩;obtain⟨i,h1,h2⟩:=hk 0 (by lia);have h1':t.slot p.j=.live i:=h1;rw[T4,h1'];show (if (Vy i==h)=true then _ else _)=_;rw[bw (by rw[h2];decide),zee t Vy h n F' (t.advance p) (λk hk'=>hk (k+1) (by lia)) (by lia),Nat.add_sub_add_right];rfl
def Up (xs:Array Nat):Prop:=∀i j,i<j->j<xs.size->xs.getD i 0<xs.getD j 0
def zkg {xs:Array Nat}(U:Up xs)(j:Nat):∀(f lo hi:Nat),hi-lo<=f->lo<=hi->hi<=xs.size->(∀i,i<lo->xs.getD i 0<j)->(∀i,hi<=i->i<xs.size->j<=xs.getD i 0) ->
  Vv xs j f lo hi<=xs.size/\(∀i,i<Vv xs j f lo hi->xs.getD i 0<j)/\(∀i,Vv xs j f lo hi<=i->i<xs.size->j<=xs.getD i 0):=by
 intro f;induction f with
 | zero =>
  intro lo hi hf hl hs h1 h2;have:lo=hi:=by lia
  subst this;exact⟨hs,h1,h2⟩
 | succ f ih =>
  intro lo hi hf hl hs h1 h2;by_cases hlt:lo<hi
  .have hm:(lo+hi)/2<hi:=by lia
   have hm2:lo<=(lo+hi)/2:=by lia
   have hms:(lo+hi)/2<xs.size:=by lia
   have e:xs.getD ((lo+hi)/2) j=xs.getD ((lo+hi)/2) 0:=by
    simp[Array.getD,hms]
   have e2:Vv xs j (f+1) lo hi=if xs.getD ((lo+hi)/2) 0<j then Vv xs j f ((lo+hi)/2+1) hi else Vv xs j f lo ((lo+hi)/2):=by
    rw[Vv,br hlt];show (if xs.getD ((lo+hi)/2) j<j then _ else _)=_;rw[e]
   by_cases hx:xs.getD ((lo+hi)/2) 0<j
   .rw[e2,br hx];refine ih ((lo+hi)/2+1) hi (by lia) (by lia) hs (λi hi'=>?_) h2;by_cases he:i=(lo+hi)/2
    .rw[he];exact hx
    .exact TM (U i ((lo+hi)/2) (by lia) hms) hx
   .rw[e2,bw hx];refine ih lo ((lo+hi)/2) (by lia) (by lia) (by lia) h1 (λi hi' hi2=>?_);by_cases he:i=(lo+hi)/2
    .rw[he];lia
    .have:=U ((lo+hi)/2) i (by lia) hi2;lia
  .rw[Vv,bw hlt];have:lo=hi:=by lia
   subst this;exact⟨hs,h1,h2⟩
def J1 {xs:Array Nat}(U:Up xs)(j:Nat):Xy xs j<=xs.size/\(∀i,i<Xy xs j->xs.getD i 0<j)/\(∀i,Xy xs j<=i->i<xs.size->j<=xs.getD i 0) :=
 zkg U j xs.size 0 xs.size (by lia) (WT _) (XV _) (λ_ h=>absurd h (Ub _)) (λi h1 h2=>absurd h2 (by lia))
def Jh {xs:Array Nat}{i:Nat}(h:i<xs.size):xs[i]?=some (xs.getD i 0):=by
 simp[Array.getD,h]
def J2 {t:Wt}(U:Up t.place){i:Nat}(hi:i<t.place.size):t.slot (t.place.getD i 0)=.live i:=by
 have b:=J1 U (t.place.getD i 0);have e:Xy t.place (t.place.getD i 0)=i:=by
  rcases RL (Xy t.place (t.place.getD i 0)) i with h | h | h
  .have h1:=b.2.2 _ (XV _) (by lia);have h2:=U _ i h hi;lia
  .exact h
  .have:=b.2.1 i h;lia
 unfold SetTable.slot;simp only[e,Jh hi];rw[br (by simp)]
def slot_of {t:Wt}(U:Up t.place)(hd:t.dummies=#[])(j:Nat):(∃i,i<t.place.size/\t.place.getD i 0=j/\t.slot j=.live i)\/(t.slot j=.empty/\∀i,i<t.place.size->t.place.getD i 0≠j):=by
 by_cases h:∃i,i<t.place.size/\t.place.getD i 0=j
 .obtain⟨i,hi,rfl⟩:=h;exact .inl ⟨i,hi,rfl,J2 U hi⟩
 .have hn:∀i,i<t.place.size->t.place.getD i 0≠j:=λi hi e=>h ⟨i,hi,e⟩;refine .inr ⟨?_,hn⟩;unfold SetTable.slot;have h1:¬ ((t.place[Xy t.place j]?==some j)=true):=λz=>by
   have z':t.place[Xy t.place j]?=some j:=by simpa using z
   have hl:Xy t.place j<t.place.size:=by
    rcases Uj (Xy t.place j) t.place.size with q | q
    .exact q
    .rw[WM q] at z';cases z'
   rw[Jh hl] at z';exact hn _ hl (Option.some.inj z')
  simp only[];rw[bw h1,hd];rfl
def Reach (t:Wt)(h:Int)(j:Nat):Prop:=∃n:Nat,(walk t.mask (W9 t.mask) (XI h%(t.mask+1)) (XI h))[n]?=some j/\∀k:Nat,k<n->∀j',(walk t.mask (W9 t.mask) (XI h%(t.mask+1)) (XI h))[k]?=some j'->∃i,i<t.place.size/\t.place.getD i 0=j'
def QO (t:Wt)(h:Int):t.probeStart h=YA t.mask (XI h%(t.mask+1)) (XI h) none:=rfl
theorem zfh (t:Wt):∀n p,(steps t n p).dummy=p.dummy
 | 0,_=>rfl
 | n+1,p=>by
  rw[steps,zfh t n];unfold Ro;split<;>rfl
def zfi {t:Wt}(U:Up t.place)(Vy:Nat->Int){h:Int}{i:Nat}(hi:i<t.place.size)(eh:Vy i=h)(one:∀i',i'<t.place.size->Vy i'=h->i'=i)(R:Reach t h (t.place.getD i 0)):∃nx,t.probe Vy h (t.probeStart h)=some (.candidate (t.place.getD i 0) i nx):=by
 obtain⟨n,hn,hk⟩:=R;have hlen:=(X5.mp hn).1;have wl:=zbT t.mask (W9 t.mask) (XI h%(t.mask+1)) (XI h);have key:∀m:Nat,m<=n->(∀k,k<m->∃i',t.slot (steps t k (t.probeStart h)).j=.live i'/\(Vy i'==h)=false)\/∃m',m'<m/\(∀k,k<m'->∃i',t.slot (steps t k (t.probeStart h)).j=.live i'/\(Vy i'==h)=false)/\t.slot (steps t m' (t.probeStart h)).j=.live i/\(steps t m' (t.probeStart h)).j=t.place.getD i 0:=λm=>by
  induction m with
  | zero=>exact λ_=>.inl λk hk=>absurd hk (Ub _)
  | succ m ih =>
   intro hm;rcases ih (by lia) with h1 | ⟨m',a,b⟩
   .have hw:∃j',(walk t.mask (W9 t.mask) (XI h%(t.mask+1)) (XI h))[m]?=some j':=⟨_,XX (by lia)⟩;obtain⟨j',hj'⟩:=hw;obtain⟨i',hi',ei'⟩:=hk m (by lia) j' hj';have ej:(steps t m (t.probeStart h)).j=j':=by
     rw[QO];exact Jg t _ _ _ none m j' hj'
    have sl:t.slot (steps t m (t.probeStart h)).j=.live i':=by
     rw[ej,<- ei'];exact J2 U hi'
    by_cases he:Vy i'=h
    .have:=one i' hi' he;subst this;exact .inr ⟨m,by lia,h1,sl,by rw[ej,ei']⟩
    .refine .inl λk hk'=>?_;by_cases hkm:k=m
     .subst hkm;exact⟨i',sl,by simpa using he⟩
     .exact h1 k (by lia)
   .exact .inr ⟨m',by lia,b⟩
 have fin:∀m:Nat,m<10*W9 t.mask->(∀k,k<m->∃i',t.slot (steps t k (t.probeStart h)).j=.live i'/\(Vy i'==h)=false)->t.slot (steps t m (t.probeStart h)).j=.live i->(steps t m (t.probeStart h)).j=t.place.getD i 0->∃nx,t.probe Vy h (t.probeStart h)=some (.candidate (t.place.getD i 0) i nx):=λm hm hp sl ej=>by
  unfold SetTable.probe;rw[zee t Vy h m _ _ hp (by lia)];obtain⟨F',hF⟩:∃F',10*W9 t.mask-m=F'+1:=⟨10*W9 t.mask-m-1,by lia⟩;rw[hF,T4,sl];simp only[];rw[br (by simpa using eh),ej];exact⟨_,rfl⟩
 rcases key n (XV _) with h1 | ⟨m',a,b,c,d⟩
 .have ej:(steps t n (t.probeStart h)).j=t.place.getD i 0:=by
   rw[QO];exact Jg t _ _ _ none n _ hn
  exact fin n (by lia) h1 (by rw[ej];exact J2 U hi) ej
 .exact fin m' (by lia) b c d
def zef {t:Wt}(U:Up t.place)(hd:t.dummies=#[])(Vy:Nat->Int){h:Int}(no:∀i,i<t.place.size->Vy i≠h){e:Nat}(he:∀i,i<t.place.size->t.place.getD i 0≠e)(hw:e∈walk t.mask (W9 t.mask) (XI h%(t.mask+1)) (XI h)) :
  ∃j,t.probe Vy h (t.probeStart h)=some (.empty j none)/\t.slot j=.empty/\Reach t h j/\j∈walk t.mask (W9 t.mask) (XI h%(t.mask+1)) (XI h):=by
 obtain⟨N,hN⟩:=PH.mp hw;have hlen:=(X5.mp hN).1;have wl:=zbT t.mask (W9 t.mask) (XI h%(t.mask+1)) (XI h);have key:∀m:Nat,m<=N+1->(∀k:Nat,k<m->∀j',(walk t.mask (W9 t.mask) (XI h%(t.mask+1)) (XI h))[k]?=some j'->∃i,i<t.place.size/\t.place.getD i 0=j')\/∃m' j:Nat,m'<m/\(walk t.mask (W9 t.mask) (XI h%(t.mask+1)) (XI h))[m']?=some j/\t.slot j=.empty/\(∀k:Nat,k<m'->∀j',(walk t.mask (W9 t.mask) (XI h%(t.mask+1)) (XI h))[k]?=some j'->∃i,i<t.place.size/\t.place.getD i 0=j'):=λm=>by
  induction m with
  | zero=>exact λ_=>.inl λk hk=>absurd hk (Ub _)
  | succ m ih =>
   intro hm;rcases ih (by lia) with h1 | ⟨m',j,a,b⟩
   .obtain⟨j',hj'⟩:∃j',(walk t.mask (W9 t.mask) (XI h%(t.mask+1)) (XI h))[m]?=some j':=⟨_,XX (by lia)⟩;rcases slot_of U hd j' with ⟨i,hi,ei,_⟩ | ⟨se,_⟩
    .refine .inl λk hk' j2 hj2=>?_;by_cases hkm:k=m
     .subst hkm;rw[hj'] at hj2;exact⟨i,hi,by rw[ei];exact Option.some.inj hj2⟩
     .exact h1 k (by lia) j2 hj2
    .exact .inr ⟨m,j',by lia,hj',se,h1⟩
   .exact .inr ⟨m',j,by lia,b⟩
 rcases key (N+1) (XV _) with h1 | ⟨m',j,a,b,c,d⟩
 .obtain⟨i,hi,ei⟩:=h1 N (by lia) e hN;exact absurd ei (he i hi)
 .refine⟨j,?_,c,⟨m',b,d⟩,X6 b⟩;have ej:(steps t m' (t.probeStart h)).j=j:=by
   rw[QO];exact Jg t _ _ _ none m' j b
  have hp:∀k,k<m'->∃i',t.slot (steps t k (t.probeStart h)).j=.live i'/\(Vy i'==h)=false:=λk hk=>by
   obtain⟨j',hj'⟩:∃j',(walk t.mask (W9 t.mask) (XI h%(t.mask+1)) (XI h))[k]?=some j':=⟨_,XX (by lia)⟩;obtain⟨i,hi,ei⟩:=d k hk j' hj';refine⟨i,?_,by simpa using no i hi⟩;have:(steps t k (t.probeStart h)).j=j':=by
    rw[QO];exact Jg t _ _ _ none k j' hj'
   rw[this,<- ei];exact J2 U hi
  unfold SetTable.probe;rw[zee t Vy h m' _ _ hp (by lia)];obtain⟨F',hF⟩:∃F',10*W9 t.mask-m'=F'+1:=⟨10*W9 t.mask-m'-1,by lia⟩;rw[hF,T4,ej,c];simp only[zfh];rfl
def orb (m:Nat):Nat->Nat->Nat
 | 0,i=>i
 | n+1,i=>orb m n ((i*5+1)%m)
def ziU (m:Nat):Nat->Nat->List Nat
 | 0,_=>[]
 | n+1,i=>i::ziU m n ((i*5+1)%m)
theorem zbU (m:Nat):∀(n i e:Nat),e∈ziU m n i->∃k,k<n/\orb m k i=e
 | 0,_,_,h=>nomatch h
 | n+1,i,e,h=>by
  rcases XG.mp h with rfl | h
  .exact⟨0,Tb _,rfl⟩
  .obtain⟨k,hk,q⟩:=zbU m n _ e h;exact⟨k+1,by lia,q⟩
theorem zbl (m:Nat):∀a b i,orb m (a+b) i=orb m b (orb m a i)
 | 0,b,i=>by rw[VI];rfl
 | a+1,b,i=>by
  rw[show a+1+b=(a+b)+1 from by lia];exact zbl m a b _
def full {m:Nat}(h1:∀e,e<m->e∈ziU m m 0)(h2:orb m m 0=0){i e:Nat}(hi:i<m)(he:e<m):∃k,k<m+1/\orb m k i=e:=by
 obtain⟨a,ha,ea⟩:=zbU m m 0 i (h1 i hi);obtain⟨b,hb,eb⟩:=zbU m m 0 e (h1 e he);rcases Uj b a with q | q
 .refine⟨m-a+b,by lia,?_⟩;rw[<- ea,<- zbl,show a+(m-a+b)=m+b from by lia,zbl,h2,eb]
 .refine⟨b-a,by lia,?_⟩;rw[<- ea,<- zbl,show a+(b-a)=b from by lia,eb]
def znR:(∀e,e<8->e∈ziU 8 8 0)/\orb 8 8 0=0:=by decide+kernel
def zkh:(∀e,e<32->e∈ziU 32 32 0)/\orb 32 32 0=0:=by decide+kernel
def zhG:(∀e,e<128->e∈ziU 128 128 0)/\orb 128 128 0=0:=by decide+kernel
def J3 (mask:Nat):Nat->Nat->Nat->AA
 | 0,i,p=>(i,p)
 | n+1,i,p=>J3 mask n (Vk mask i p).1 (Vk mask i p).2
theorem zdq (mask:Nat):∀a b i p,J3 mask (a+b) i p=J3 mask b (J3 mask a i p).1 (J3 mask a i p).2
 | 0,b,i,p=>by rw[VI];rfl
 | a+1,b,i,p=>by
  rw[show a+1+b=(a+b)+1 from by lia];exact zdq mask a b _ _
theorem zhH (mask:Nat):∀n i p,(J3 mask n i p).2=p/32^n
 | 0,i,p=>by rw[Nat.pow_zero,Nat.div_one];rfl
 | n+1,i,p=>by
  rw[J3,zhH mask n];show p/32/32^n=_;rw[Nat.div_div_eq_div_mul,Ui,Nat.mul_comm]
theorem zfj (mask:Nat):∀n i p,i<mask+1->(J3 mask n i p).1<mask+1
 | 0,i,p,h=>h
 | n+1,i,p,h=>zfj mask n _ _ (R8 _ (Tb _))
theorem zdr (mask:Nat):∀n i,(J3 mask n i 0).1=orb (mask+1) n i
 | 0,_=>rfl
 | n+1,i=>by
  have e1:(Vk mask i 0).1=(i*5+1)%(mask+1):=rfl;have e2:(Vk mask i 0).2=0:=rfl;rw[J3,e1,e2];exact zdr mask n _
theorem head_mem (mask:Nat):∀(f n i p:Nat),n<f->(J3 mask n i p).1∈walk mask f i p
 | 0,_,_,_,h=>absurd h (Ub _)
 | f+1,0,i,p,_=>by
  rw[walk];refine Xf _ ?_;unfold run;refine XM.mpr ⟨0,Wo.mpr ?_,by rfl⟩;have:=zan mask i;lia
 | f+1,n+1,i,p,h=>by
  rw[walk];exact W7 _ (head_mem mask f n _ _ (by lia))
def zfk {mask:Nat}(hm:mask=7\/mask=31\/mask=127)(h:Int){e:Nat}(he:e<mask+1):e∈walk mask (W9 mask) (XI h%(mask+1)) (XI h):=by
 have hb:XI h<2^64:=by
  unfold XI;have h1:=Int.emod_nonneg h (show (2^64:Int)≠0 by decide);have h2:=Int.emod_lt_of_pos h (show (0:Int)<2^64 by decide);lia
 have hp:(J3 mask 13 (XI h%(mask+1)) (XI h)).2=0:=by
  rw[zhH];exact Nat.div_eq_of_lt (TM hb (by decide))
 have hi:=zfj mask 13 (XI h%(mask+1)) (XI h) (R8 _ (Tb _));obtain⟨k,hk,ek⟩:∃k,k<mask+1+1/\orb (mask+1) k (J3 mask 13 (XI h%(mask+1)) (XI h)).1=e:=by
  rcases hm with rfl | rfl | rfl
  .exact full znR.1 znR.2 hi he
  .exact full zkh.1 zkh.2 hi he
  .exact full zhG.1 zhG.2 hi he
 have hh:=head_mem mask (W9 mask) (13+k) (XI h%(mask+1)) (XI h) (by unfold W9;lia);rw[zdq,hp,zdr,ek] at hh;exact hh
def Z7 {α:Type}(xs:Array α){p:Nat}(x:α):(Xi xs p x).toList=xs.toList.take p++x::xs.toList.drop p:=by
 unfold Xi;simp;rw[Wm (by rw[U2,X4];lia)]
def zki {α:Type}(xs:Array α){p:Nat}(hp:p<=xs.size)(x:α)(i:Nat):(Xi xs p x)[i]?=if i<p then xs[i]? else if i=p then some x else xs[i-1]?:=by
 have hl:(xs.toList.take p).length=p:=by
  rw[XF,X4];lia
 rw[<- XB,Z7];by_cases h1:i<p
 .rw[br h1,VF (by lia),RE h1,XB]
 .rw[bw h1,Vt (by lia),hl];by_cases h2:i=p
  .rw[br h2,h2,Tc];rfl
  .rw[bw h2,show i-p=(i-p-1)+1 from by lia,Rh,Tl,XB];congr 1;lia
def jx {α:Type}(xs:Array α){p:Nat}(hp:p<=xs.size)(x:α):(Xi xs p x).size=xs.size+1:=by
 rw[<- X4,Z7,X0,Xj,XF,U2,X4];lia
def J4 (xs:Array Nat){p:Nat}(hp:p<=xs.size)(x i:Nat)(hi:i<xs.size+1):(Xi xs p x).getD i 0=if i<p then xs.getD i 0 else if i=p then x else xs.getD (i-1) 0:=by
 have h:=zki xs hp x i;rw[Jh (by rw[jx xs hp x];exact hi)] at h;by_cases h1:i<p
 .rw[br h1] at h ⊢;rw[Jh (by lia)] at h;exact Option.some.inj h
 .rw[bw h1] at h ⊢;by_cases h2:i=p
  .rw[br h2] at h ⊢;exact Option.some.inj h
  .rw[bw h2] at h ⊢;rw[Jh (by lia)] at h;exact Option.some.inj h
def zkj {t:Wt}(U:Up t.place)(hd:t.dummies=#[]){j:Nat}(he:∀i,i<t.place.size->t.place.getD i 0≠j):(t.put j).2=Xy t.place j/\(t.put j).1={ t with place:=Xi t.place (Xy t.place j) j }/\Up (Xi t.place (Xy t.place j) j):=by
 have b:=J1 U j;refine⟨rfl,?_,λa c hac hc=>?_⟩
 .unfold SetTable.put;simp only[hd];rfl
 .rw[jx _ b.1] at hc;rw[J4 _ b.1 _ _ (by lia),J4 _ b.1 _ _ hc];have lo:∀i,i<Xy t.place j->t.place.getD i 0<j:=b.2.1;have hi:∀i,Xy t.place j<=i->i<t.place.size->j<t.place.getD i 0:=λi h1 h2=>by
   have:=b.2.2 i h1 h2;have:=he i h2;lia
  by_cases a1:a<Xy t.place j
  .rw[br a1];by_cases c1:c<Xy t.place j
   .rw[br c1];exact U a c hac (by lia)
   .rw[bw c1];by_cases c2:c=Xy t.place j
    .rw[br c2];exact lo a a1
    .rw[bw c2];have h1:=lo a a1;have h2:=hi (c-1) (by lia) (by lia);lia
  .have c1:¬ c<Xy t.place j:=by lia
   have c2:¬ c=Xy t.place j:=by lia
   rw[bw a1,bw c1,bw c2];by_cases a2:a=Xy t.place j
   .rw[br a2];exact hi (c-1) (by lia) (by lia)
   .rw[bw a2];exact U (a-1) (c-1) (by lia) (by lia)
def Reach.more {t t':Wt}(hm:t'.mask=t.mask)(hp:∀i,i<t.place.size->∃i',i'<t'.place.size/\t'.place.getD i' 0=t.place.getD i 0){h:Int}{j:Nat}(R:Reach t h j):Reach t' h j:=by
 obtain⟨n,h1,h2⟩:=R;unfold Reach;rw[hm];refine⟨n,h1,λk hk j' hj'=>?_⟩;obtain⟨i,hi,ei⟩:=h2 k hk j' hj';obtain⟨i',hi',ei'⟩:=hp i hi;exact⟨i',hi',ei'.trans ei⟩
def zkk {t:Wt}(U:Up t.place)(j:Nat):∀i,i<t.place.size->∃i',i'<(Xi t.place (Xy t.place j) j).size/\(Xi t.place (Xy t.place j) j).getD i' 0=t.place.getD i 0:=λi hi=>by
 have b:=J1 U j;by_cases h:i<Xy t.place j
 .refine⟨i,by rw[jx _ b.1];lia,?_⟩;rw[J4 _ b.1 _ _ (by lia),br h]
 .refine⟨i+1,by rw[jx _ b.1];lia,?_⟩;rw[J4 _ b.1 _ _ (by lia),bw (by lia),bw (by lia),R0]
theorem zhI (mask:Nat)(owner:Array (Option Nat)):∀(f i p:Nat),SetTable.layClean.free mask owner f i p=(walk mask f i p).find? λj=>(owner.getD j (some 0)).isNone
 | 0,_,_=>rfl
 | f+1,i,p=>by
  rw[SetTable.layClean.free,walk,List.find?_append];unfold run;rw[List.find?_map];have e:((λj=>(owner.getD j (some 0)).isNone)∘λx=>i+x)=λk=>(owner.getD (i+k) (some 0)).isNone:=rfl;rw[e];cases h:(Wy (VC mask i+1-i)).find? λk=>(owner.getD (i+k) (some 0)).isNone with
  | some k=>rfl
  | none =>
   simp only[Option.map_none,Option.none_or];exact zhI mask owner f _ _
structure Own (mask:Nat)(hs:List Int)(owner:Array (Option Nat))(k:Nat):Prop where
 sz:owner.size=mask+1
 few:(owner.toList.countP λo=>o.isNone)+k=mask+1
 at_:∀i,i<k->∃j:Nat,owner[j]?=some (some i)/\∃n:Nat,(walk mask (W9 mask) (XI (hs.getD i 0)%(mask+1)) (XI (hs.getD i 0)))[n]?=some j/\∀m:Nat,m<n->∀j':Nat,(walk mask (W9 mask) (XI (hs.getD i 0)%(mask+1)) (XI (hs.getD i 0)))[m]?=some j'->∃o,owner[j']?=some (some o)
 lt:∀j i:Nat,owner[j]?=some (some i)->i<k
 inj:∀j j' i:Nat,owner[j]?=some (some i)->owner[j']?=some (some i)->j=j'
def Own.nil (mask:Nat)(hs:List Int):Own mask hs (Array.replicate (mask+1) none) 0:=by
 refine⟨by simp,by rw[Array.toList_replicate,List.countP_replicate];rfl,λi h=>absurd h (Ub _),λj i h=>?_,λj j' i h=>?_⟩
 .rw[Rz] at h;split at h<;>cases h
 .rw[Rz] at h;split at h<;>cases h
def count_set {l:List (Option Nat)}:∀{j:Nat} (k:Nat),l[j]?=some none->(l.set j (some k)).countP (λo=>o.isNone)+1=l.countP λo=>o.isNone:=by
 induction l with
 | nil=>exact λ_ h=>by simp at h
 | cons o r ih =>
  intro j k h;cases j with
  | zero =>
   have:o=none:=by simpa using h
   subst this;simp[Wx]
  | succ j =>
   have:=ih k (by simpa using h);rw[List.set_cons_succ,Wx,Wx];lia
def ziV {l:List (Option Nat)}(h:0<l.countP λo=>o.isNone):∃j:Nat,l[j]?=some none:=by
 obtain⟨o,ho,hn⟩:=O5.mp h;obtain⟨j,hj⟩:=PH.mp ho;refine⟨j,?_⟩;rw[hj];cases o with
 | none=>rfl
 | some _=>cases hn
def getD_none {owner:Array (Option Nat)}{j:Nat}:(owner.getD j (some 0)).isNone=true↔owner[j]?=some none:=by
 by_cases h:j<owner.size
 .have e:owner[j]?=some (owner.getD j (some 0)):=by simp[Array.getD,h]
  rw[e];cases owner.getD j (some 0)<;>simp
 .have e:owner.getD j (some 0)=some 0:=by simp[Array.getD,h]
  rw[e,WM (by lia)];simp
theorem zeg (mask:Nat):∀(f i p:Nat),i<mask+1->∀j∈walk mask f i p,j<mask+1
 | 0,_,_,_,_,h=>nomatch h
 | f+1,i,p,hi,j,h=>by
  rw[walk] at h;rcases XQ.mp h with h | h
  .unfold run at h;obtain⟨k,hk,rfl⟩:=XM.mp h;have hk':=Wo.mp hk;have:VC mask i<=mask:=by
    unfold VC;split<;>lia
   lia
  .exact zeg mask f _ _ (R8 _ (Tb _)) j h
def Own.step {mask:Nat}(hm:mask=7\/mask=31\/mask=127){hs:List Int}{owner:Array (Option Nat)}{k:Nat}(O:Own mask hs owner k)(hk:k<mask+1):∃j,SetTable.layClean.free mask owner (W9 mask) (XI (hs.getD k 0)%(mask+1)) (XI (hs.getD k 0))=some j/\Own mask hs (owner.setIfInBounds j (some k)) (k+1):=by
 obtain⟨e,he⟩:=ziV (l:=owner.toList) (by have:=O.few;lia);rw[XB] at he;have hel:e<owner.size:=by
  rcases Uj e owner.size with q | q
  .exact q
  .rw[WM q] at he;cases he
 have hw:=zfk hm (hs.getD k 0) (e:=e) (by have:=O.sz;lia);rw[zhI];cases hf:(walk mask (W9 mask) (XI (hs.getD k 0)%(mask+1)) (XI (hs.getD k 0))).find? λj=>(owner.getD j (some 0)).isNone with
 | none =>
  have:=List.find?_eq_none.mp hf e hw;exact absurd (getD_none.mpr he) this
 | some j =>
  refine⟨j,rfl,?_⟩;have hj:owner[j]?=some none:=getD_none.mp (List.find?_some (p:=λj=>(owner.getD j (some 0)).isNone) hf);have hjl:j<owner.size:=by
   rcases Uj j owner.size with q | q
   .exact q
   .rw[WM q] at hj;cases hj
  have get:∀i:Nat,(owner.setIfInBounds j (some k))[i]?=if j=i then some (some k) else owner[i]?:=λi=>by
   rw[Vb];by_cases h:j=i
   .rw[br h,br h];simp[hjl]
   .rw[bw h,bw h]
  have keep:∀(i o:Nat),owner[i]?=some (some o)->(owner.setIfInBounds j (some k))[i]?=some (some o):=λi o h=>by
   rw[get,bw (λz=>by rw[<- z,hj] at h;cases h)];exact h
  refine⟨by rw[Tu];exact O.sz,?_,λi hi=>?_,λj' i h=>?_,λj1 j2 i h1 h2=>?_⟩
  .rw[RT];have:=count_set (l:=owner.toList) (j:=j) k (by rw[XB];exact hj);have:=O.few;lia
  .by_cases hik:i=k
   .subst hik;refine⟨j,by rw[get,br rfl],?_⟩;obtain⟨_,as,bs,hab,hn⟩:=List.find?_eq_some_iff_append.mp hf;refine⟨as.length,by rw[hab];simp,λm hm' j' hj'=>?_⟩;rw[hab,VF hm'] at hj';have hmem:=X6 hj';have hnn:=hn j' hmem;have hjw:j'∈walk mask (W9 mask) (XI (hs.getD i 0)%(mask+1)) (XI (hs.getD i 0)):=by
     rw[hab];exact Xf _ hmem
    cases ho:owner[j']? with
    | none =>
     have:=zeg mask (W9 mask) _ _ (R8 _ (Tb _)) j' hjw;rw[V9.mpr ⟨by rw[O.sz];exact this,rfl⟩] at ho;cases ho
    | some o =>
     cases o with
     | none =>
      rw[getD_none.mpr ho] at hnn;cases hnn
     | some o=>exact⟨o,keep j' o ho⟩
   .obtain⟨j0,a,n,b,c⟩:=O.at_ i (by lia);refine⟨j0,keep _ _ a,n,b,λm hm' j' hj'=>?_⟩;obtain⟨o,ho⟩:=c m hm' j' hj';exact⟨o,keep _ _ ho⟩
  .rw[get] at h;split at h
   .have:k=i:=by simpa using h
    lia
   .have:=O.lt j' i h;lia
  .rw[get] at h1 h2;split at h1<;>split at h2
   .lia
   .have:k=i:=by simpa using h1
    have:=O.lt j2 i h2;lia
   .have:k=i:=by simpa using h2
    have:=O.lt j1 i h1;lia
   .exact O.inj j1 j2 i h1 h2
theorem zfl {mask:Nat}(hm:mask=7\/mask=31\/mask=127)(hs:List Int)(hl:hs.length<=mask+1):∀(l done:List Int) (owner:Array (Option Nat)),hs=done++l->Own mask hs owner done.length ->
  ∃owner',l.foldl (λ(acc:Option (Array (Option Nat)×Nat)) h=>do
   let (owner,k) <- acc
   let j <- SetTable.layClean.free mask owner (W9 mask) (XI h%(mask+1)) (XI h)
   pure (owner.setIfInBounds j (some k),k+1)) (some (owner,done.length))=some (owner',hs.length)/\Own mask hs owner' hs.length
 | [],done,owner,e,O=>by
  rw[Xd] at e;subst e;exact⟨owner,rfl,O⟩
 | h::r,done,owner,e,O=>by
  have hd:hs.getD done.length 0=h:=by
   rw[e];simp[List.getD]
  have hlen:done.length<mask+1:=by
   have:hs.length=done.length+(r.length+1):=by rw[e,X0,Xj]
   lia
  obtain⟨j,hj,O'⟩:=O.step hm hlen;rw[hd] at hj;obtain⟨owner',h1,h2⟩:=zfl hm hs hl r (done++[h]) (owner.setIfInBounds j (some done.length)) (by rw[e,W3];rfl) (by rw[X0];exact O');refine⟨owner',?_,h2⟩;rw[X0] at h1;rw[VL];have e1:(do
   let (owner,k) <- (some (owner,done.length):Option (Array (Option Nat)×Nat))
   let j <- SetTable.layClean.free mask owner (W9 mask) (XI h%(mask+1)) (XI h)
   pure (owner.setIfInBounds j (some k),k+1))=some (owner.setIfInBounds j (some done.length),done.length+1):=by
   show (SetTable.layClean.free mask owner (W9 mask) (XI h%(mask+1)) (XI h)).bind _=_;rw[hj];rfl
  rw[e1];exact h1
def zoU {mask:Nat}(hm:mask=7\/mask=31\/mask=127)(hashes:Array Int)(hl:hashes.size<=mask+1):∃owner,SetTable.layClean mask hashes=some owner/\Own mask hashes.toList owner hashes.size:=by
 obtain⟨owner,h1,h2⟩:=zfl hm hashes.toList (by rw[X4];exact hl) hashes.toList [] _ rfl (Own.nil mask _);rw[X4] at h1 h2;refine⟨owner,?_,h2⟩;unfold SetTable.layClean;rw[<- Array.foldl_toList];exact congrArg (Option.map (·.1)) h1
def qL (mask:Nat)(owner:Array (Option Nat)):AB:=(Wy (mask+1)).filterMap λj=>(owner.getD j none).map (j,·)
def Ji {mask:Nat}{owner:Array (Option Nat)}(sz:owner.size=mask+1){j i:Nat}:(j,i)∈qL mask owner↔owner[j]?=some (some i):=by
 unfold qL;rw[Vm];constructor
 .rintro⟨a,ha,h⟩;have hl:a<owner.size:=by rw[sz];exact Wo.mp ha
  have e:owner[a]?=some (owner.getD a none):=by simp[Array.getD,hl]
  cases ho:owner.getD a none with
  | none =>
   rw[ho] at h;cases h
  | some b =>
   rw[ho] at h;have hb:(a,b)=(j,i):=Option.some.inj h;cases hb;rw[e,ho]
 .intro h;have hl:j<owner.size:=by
   rcases Uj j owner.size with q | q
   .exact q
   .rw[WM q] at h;cases h
  have e:owner[j]?=some (owner.getD j none):=by simp[Array.getD,hl]
  refine⟨j,Wo.mpr (by rw[<- sz];exact hl),?_⟩;rw[e] at h;rw[Option.some.inj h];rfl
def zhJ (mask:Nat)(owner:Array (Option Nat)):(qL mask owner).Pairwise λa b=>a.1<b.1:=by
 unfold qL;rw[List.pairwise_filterMap];refine List.pairwise_lt_range.imp λ{a b} hab x hx y hy=>?_;cases h1:owner.getD a none with
 | none=>rw[h1] at hx;cases hx
 | some p =>
  cases h2:owner.getD b none with
  | none=>rw[h2] at hy;cases hy
  | some q =>
   rw[h1] at hx;rw[h2] at hy;have e1:(a,p)=x:=Option.some.inj hx;have e2:(b,q)=y:=Option.some.inj hy;rw[<- e1,<- e2];exact hab
def ziW {mask:Nat}{hs:List Int}{owner:Array (Option Nat)}{k:Nat}(O:Own mask hs owner k):((qL mask owner).map (·.2)).Perm (Wy k):=by
 have nd:((qL mask owner).map (·.2)).Nodup:=by
  refine We.mpr ((zhJ mask owner).imp_of_mem λ{a b} ha hb hab e=>?_);obtain⟨a1,a2⟩:=a;obtain⟨b1,b2⟩:=b;have e':a2=b2:=e;subst e';have:=O.inj a1 b1 a2 ((Ji O.sz).mp ha) ((Ji O.sz).mp hb);have hab':a1<b1:=hab;lia
 refine(W6 nd List.nodup_range).mpr λi=>?_;rw[Wo,XM];constructor
 .rintro⟨⟨j,i'⟩,hm,rfl⟩;exact O.lt j _ ((Ji O.sz).mp hm)
 .intro hi;obtain⟨j,hj,_⟩:=O.at_ i hi;exact⟨(j,i),(Ji O.sz).mpr hj,rfl⟩
def zmH {mask:Nat}(hm:mask=7\/mask=31\/mask=127)(finger moves:Nat)(led plain:Bool)(hashes:Array Int)(hl:hashes.size<=mask+1):∃place order,SetTable.laid mask finger moves led plain hashes=some ({ mask:=mask,place:=place,dummies:=#[],finger:=finger,led:=led,moves:=moves,plain:=plain },order) /\
  Up place/\place.size=hashes.size/\order.size=hashes.size/\order.toList.Perm (Wy hashes.size)/\(∀i,i<place.size->place.getD i 0<mask+1) /\
  ∀i,i<place.size->Reach { mask:=mask,place:=place,dummies:=#[],finger:=finger,led:=led,moves:=moves,plain:=plain } (hashes.toList.getD (order.getD i 0) 0) (place.getD i 0):=by
 obtain⟨owner,h1,O⟩:=zoU hm hashes hl;have perm:=ziW O;have up:=zhJ mask owner;have ll:(qL mask owner).length=hashes.size:=by
  have:=perm.length_eq;rw[Y1,WI] at this;exact this
 have pg:∀i (h:i<(qL mask owner).length),((qL mask owner).map (·.1)).toArray.getD i 0=((qL mask owner)[i]).1:=λi h=>by
  simp[Array.getD,h]
 have og:∀i (h:i<(qL mask owner).length),((qL mask owner).map (·.2)).toArray.getD i 0=((qL mask owner)[i]).2:=λi h=>by
  simp[Array.getD,h]
 refine⟨((qL mask owner).map (·.1)).toArray,((qL mask owner).map (·.2)).toArray,?_,λi j hij hj=>?_,by simp[ll],by simp[ll],perm,λi hi=>?_,λi hi=>?_⟩
 .unfold SetTable.laid;rw[h1];rfl
 .have hj':j<(qL mask owner).length:=by simpa using hj
  rw[pg i (by lia),pg j hj'];exact Vq.mp up i j (by lia) hj' hij
 .have hi':i<(qL mask owner).length:=by simpa using hi
  rw[pg i hi'];have hmem:=Uo hi';have:=(Ji O.sz (j:=(qL mask owner)[i].1) (i:=(qL mask owner)[i].2)).mp hmem;rw[<- O.sz];rcases Uj (qL mask owner)[i].1 owner.size with q | q
  .exact q
  .rw[WM q] at this;cases this
 .have hi':i<(qL mask owner).length:=by simpa using hi
  rw[pg i hi',og i hi'];have hmem:=Uo hi';have ho:=(Ji O.sz (j:=(qL mask owner)[i].1) (i:=(qL mask owner)[i].2)).mp hmem;obtain⟨j0,a,n,b,c⟩:=O.at_ _ (O.lt _ _ ho);have ej:=O.inj _ _ _ a ho;rw[ej] at b;refine⟨n,b,λk hk j' hj'=>?_⟩;obtain⟨o,hoo⟩:=c k hk j' hj';obtain⟨x,hx,ex⟩:=TD ((Ji O.sz).mpr hoo);refine⟨x,by simpa using hx,?_⟩;show ((qL mask owner).map (·.1)).toArray.getD x 0=j';rw[pg x hx,ex]
structure Good (t:Wt)(hs:Array Int):Prop where
 mask:t.mask=7\/t.mask=31\/t.mask=127
 sz:t.place.size=hs.size
 dum:t.dummies=#[]
 up:Up t.place
 le:∀i,i<t.place.size->t.place.getD i 0<t.mask+1
 room:t.place.size*5<t.mask*3
 reach:∀i,i<t.place.size->Reach t (hs.toList.getD i 0) (t.place.getD i 0)
def Good.free {t:Wt}{hs:Array Int}(G:Good t hs):∃e,e<t.mask+1/\∀i,i<t.place.size->t.place.getD i 0≠e:=by
 refine WU λhn=>?_;have all:∀e,e<t.mask+1->∃i,i<t.place.size/\t.place.getD i 0=e:=λe he=>WU λh2=>hn ⟨e,he,λi hi z=>h2 ⟨i,hi,z⟩⟩;have hr:=G.room;have id_:∀e,e<t.mask+1->∃i,i<t.place.size/\e<=i:=λe=>by
  induction e with
  | zero=>exact λh=>let ⟨i,hi,_⟩:=all 0 h;⟨i,hi,WT _⟩
  | succ e ih =>
   intro h;obtain⟨i,hi,hei⟩:=all (e+1) h;obtain⟨i0,hi0,hei0⟩:=all e (by lia);have cnt:∀d,d<=e+1->∃i,i<t.place.size/\t.place.getD i 0=d/\d<=i:=λd=>by
    induction d with
    | zero=>exact λ_=>let ⟨i,hi,he⟩:=all 0 (by lia);⟨i,hi,he,WT _⟩
    | succ d ihd =>
     intro hd;obtain⟨a,ha,ea,la⟩:=ihd (by lia);obtain⟨b,hb,eb⟩:=all (d+1) (by lia);have:a<b:=by
      rcases RL a b with q | q | q
      .exact q
      .subst q;lia
      .have:=G.up b a q ha;lia
     exact⟨b,hb,eb,by lia⟩
   obtain⟨x,hx,_,lx⟩:=cnt (e+1) (XV _);exact⟨x,hx,lx⟩
 obtain⟨i,hi,le⟩:=id_ t.mask (by lia);lia
def Good.found {t:Wt}{hs:Array Int}(G:Good t hs)(Vy:Nat->Int)(hh:∀i,i<hs.size->Vy i=hs.toList.getD i 0)(nd:hs.toList.Nodup){i:Nat}(hi:i<hs.size):∃nx,t.probe Vy (hs.toList.getD i 0) (t.probeStart (hs.toList.getD i 0))=some (.candidate (t.place.getD i 0) i nx):=by
 have gd:∀k (h:k<hs.size),hs.toList.getD k 0=hs.toList[k]'(by rw[X4];exact h):=λk h=>by
  rw[Xp,XX (by rw[X4];exact h)];rfl
 refine zfi G.up Vy (by rw[G.sz];exact hi) (hh i hi) (λi' hi' e=>?_) (G.reach i (by rw[G.sz];exact hi));rw[G.sz] at hi';rw[hh i' hi',gd i' hi',gd i hi] at e;exact(List.getElem_inj nd).mp e
def Good.missed {t:Wt}{hs:Array Int}(G:Good t hs)(Vy:Nat->Int)(hh:∀i,i<hs.size->Vy i=hs.toList.getD i 0){h:Int}(no:h ∉ hs.toList):∃j,t.probe Vy h (t.probeStart h)=some (.empty j none)/\j<t.mask+1/\(∀i,i<t.place.size->t.place.getD i 0≠j)/\Reach t h j:=by
 obtain⟨e,he,hn⟩:=G.free;have no':∀i,i<t.place.size->Vy i≠h:=λi hi z=>by
  rw[G.sz] at hi;rw[hh i hi,Xp,XX (by rw[X4];exact hi)] at z;have z':hs.toList[i]'(by rw[X4];exact hi)=h:=z;exact no (z' ▸ Uo _)
 obtain⟨j,h1,h2,h3,h4⟩:=zef G.up G.dum Vy (h:=h) no' hn (zfk G.mask h he);refine⟨j,h1,zeg _ _ _ _ (R8 _ (Tb _)) j h4,λi hi z=>?_,h3⟩;rw[<- z,J2 G.up hi] at h2;cases h2
theorem Good.put {t:Wt}{hs:Array Int}(G:Good t hs){h:Int}{j:Nat}(hj:j<t.mask+1)(he:∀i,i<t.place.size->t.place.getD i 0≠j)(R:Reach t h j)(room:(t.place.size+1)*5<t.mask*3):Good (t.put j).1 (Xi hs (t.put j).2 h):=by
 obtain⟨e2,e1,U⟩:=zkj G.up G.dum he;have b:=J1 G.up j;rw[e2,e1];have bs:Xy t.place j<=hs.size:=by rw[<- G.sz];exact b.1
 have hget:∀i,(Xi hs (Xy t.place j) h).toList.getD i 0=if i<Xy t.place j then hs.toList.getD i 0 else if i=Xy t.place j then h else hs.toList.getD (i-1) 0:=λi=>by
  rw[Xp,XB,zki hs bs];split
  .rw[Xp,XB]
  .split
   .rfl
   .rw[Xp,XB]
 have more:∀{h':Int} {j':Nat},Reach t h' j'->Reach { t with place:=Xi t.place (Xy t.place j) j } h' j':=λR'=>Reach.more (t:=t) (t':={ t with place:=Xi t.place (Xy t.place j) j }) rfl (zkk G.up j) R';refine⟨G.mask,?_,G.dum,U,λi hi=>?_,?_,λi hi=>?_⟩
 .show (Xi t.place _ j).size=_;rw[jx _ b.1,jx _ bs,G.sz]
 .have hi':i<t.place.size+1:=by
   have:=hi;rw[show ({ t with place:=Xi t.place (Xy t.place j) j }:Wt).place=Xi t.place (Xy t.place j) j from rfl,jx _ b.1] at this;exact this
  show (Xi t.place _ j).getD i 0<t.mask+1;rw[J4 _ b.1 _ _ hi'];split
  .exact G.le i (by lia)
  .split
   .exact hj
   .exact G.le (i-1) (by lia)
 .show (Xi t.place _ j).size*5<t.mask*3;rw[jx _ b.1];exact room
 .have hi':i<t.place.size+1:=by
   have:=hi;rw[show ({ t with place:=Xi t.place (Xy t.place j) j }:Wt).place=Xi t.place (Xy t.place j) j from rfl,jx _ b.1] at this;exact this
  show Reach _ _ ((Xi t.place _ j).getD i 0);rw[hget,J4 _ b.1 _ _ hi'];by_cases h1:i<Xy t.place j
  .rw[br h1,br h1];exact more (G.reach i (by lia))
  .rw[bw h1,bw h1];by_cases h2:i=Xy t.place j
   .rw[br h2,br h2];exact more R
   .rw[bw h2,bw h2];exact more (G.reach (i-1) (by lia))
def zgC (t:Wt)(hs:Array Int)(hn:hs.size=5\/hs.size=19):∃t' order,t.relaid hs (Ur hs.size)=some (t',order)/\order.size=hs.size/\order.toList.Perm (Wy hs.size)/\t'.led=t.led/\t'.plain=t.plain/\t'.place.size=hs.size/\Good t' (order.map λi=>hs.toList.getD i 0):=by
 have key:∀mask,(mask=7\/mask=31\/mask=127)->hs.size<=mask+1->hs.size*5<mask*3->Tk (Ur hs.size)-1=mask->∃t' order,t.relaid hs (Ur hs.size)=some (t',order)/\order.size=hs.size/\order.toList.Perm (Wy hs.size)/\t'.led=t.led/\t'.plain=t.plain/\t'.place.size=hs.size/\Good t' (order.map λi=>hs.toList.getD i 0):=λmask hm hl hr em=>by
  obtain⟨place,order,h1,h2,h3,h4,h5,h6,h7⟩:=zmH hm t.finger (t.movedTo mask) t.led t.plain hs hl;refine⟨{ mask:=mask,place:=place,dummies:=#[],finger:=t.finger,led:=t.led,moves:=t.movedTo mask,plain:=t.plain },order,?_,h4,h5,rfl,rfl,h3,hm,?_,rfl,h2,h6,?_,λi hi=>?_⟩
  .unfold SetTable.relaid;rw[em];exact h1
  .show place.size=_;rw[Vh,h3,h4]
  .show place.size*5<mask*3;rw[h3];exact hr
  .have hi':i<order.size:=by
    have:i<place.size:=hi;lia
   have e:(order.map λi=>hs.toList.getD i 0).toList.getD i 0=hs.toList.getD (order.getD i 0) 0:=by
    rw[Xp,XB,Array.getElem?_map,Jh hi'];rfl
   rw[e];exact h7 i hi
 rcases hn with e | e
 .exact key 31 (.inr (.inl rfl)) (by lia) (by lia) (by rw[e];decide+kernel)
 .exact key 127 (.inr (.inr rfl)) (by lia) (by lia) (by rw[e];decide+kernel)
end ST
namespace ST
def qm (es:Array (Int×X8))(ep:Nat)(t:Wt):Obj:={ cls:=.type "set",dict:=none,data:=.set es ep t }
def kP (p:Int×Int):List Key:=[.inl p.1,.inl p.2]
def InB (p:Int×Int):Prop:=(0<=p.1/\p.1<8)/\(0<=p.2/\p.2<8)
def hP (prog:Xm)(w:WZ)(p:Int×Int):Int:=(tk2 prog w).hash (kP p)
section
variable {prog:Xm}{w:WZ}{A:WR}{E:X8->X7->Prop}{s:X7}{a:Addr}{es:Array (Int×X8)}{ep:Nat}{t:Wt}
def zoV {p q:Int×Int}(hp:InB p)(hq:InB q)(e:hP prog w p=hP prog w q):p=q:=by
 obtain⟨p1,p2⟩:=p;obtain⟨q1,q2⟩:=q;obtain⟨⟨a1,a2⟩,a3,a4⟩:=hp;obtain⟨⟨b1,b2⟩,b3,b4⟩:=hq;simp only at a1 a2 a3 a4 b1 b2 b3 b4;obtain⟨i,rfl⟩:∃i:Nat,p1=i:=⟨p1.toNat,by lia⟩;obtain⟨j,rfl⟩:∃i:Nat,p2=i:=⟨p2.toNat,by lia⟩;obtain⟨k,rfl⟩:∃i:Nat,q1=i:=⟨q1.toNat,by lia⟩;obtain⟨l,rfl⟩:∃i:Nat,q2=i:=⟨q2.toNat,by lia⟩;unfold hP kP at e;rw[xW,xW] at e;obtain⟨c,d⟩:=zfg (by lia) (by lia) (by lia) (by lia) e;rw[c,d]
def Jj {h:Heap}{x:Addr}{p:Int×Int}(h1:zv h (.ref x) p):(tk2 prog w).is h (kP p) x:=by
 obtain⟨b,o,n,t,u,e,e1,e2,e3⟩:=h1;cases e;exact⟨o,#[.int p.1 t,.int p.2 u],n,e1,e2,e3,.cons (zaj p.1 t) (.cons (zaj p.2 u) .nil)⟩
theorem Good.fits {hs:Array Int}(G:Good t hs):t.fits hs.size=true:=by
 have h1:=G.sz;have h2:=G.room;unfold SetTable.fits OX;rw[G.dum,h1];simp;lia
def Good.odd {hs:Array Int}(G:Good t hs):t.gaveWay=false:=by
 unfold SetTable.gaveWay;rcases G.mask with e | e | e<;>rw[e]<;>rfl
def xx {Q:Array (Int×X8)×Nat×Wt->X7->Prop}(ho:s.heap.get? a=some (qm es ep t))(G:Good t (es.map (·.1)))(q:Q (es,ep,t) s):Xk (Xn prog w) A (setState a) Q E s:=by
 refine S4 ho rfl ?_ q;have:=G.fits;rwa [Vh] at this
def zeh (i:Nat)(hi:i<(es.map (·.1)).size):(es[i]?.map (·.1)).getD 0=(es.map (·.1)).toList.getD i 0:=by
 rw[Xp,XB,Array.getElem?_map]
def zcT {n:Nat}{h:Int}{x:X8}{Q:SetFound->X7->Prop}(ho:s.heap.get? a=some (qm es ep t))(G:Good t (es.map (·.1)))(no:h ∉ (es.map (·.1)).toList)
  (hQ:∀j,j<t.mask+1->(∀i,i<t.place.size->t.place.getD i 0≠j)->Reach t h j->Q (.free j false) s):Xk (Xn prog w) A (RG a x h true (n+1) none) Q E s:=by
 obtain⟨j,e,h1,h2,h3⟩:=G.missed (λi=>(es[i]?.map (·.1)).getD 0) zeh no;rw[RG];refine ZB (xx ho G ?_);dsimp only;rw[G.odd,bw XT];generalize hm:t.probe _ h _=m;have em:m=some (.empty j none):=hm.symm.trans e;subst em;exact XS (hQ j h1 h2 h3)
def zds {d:Nat}{x:Addr}{p:Int×Int}{Q:Bool->X7->Prop}(hx:zv s.heap (.ref x) p)(q:Q false s):Xk (Xn prog w) A (S2 8 (.ref x)) Q E s:=by
 obtain⟨b,o,n,t,u,e,e1,e2,e3⟩:=hx;cases e;have hT:s.TypeIs (.ref x) "tuple":=⟨o,e1,e2⟩;unfold S2;refine ZB (Sg hT ?_);dsimp only;rw[br (by decide)];refine ZB (XS ?_);rw[bw (by decide)];refine ZB (wpAny_seqItems e1 e3 ?_);dsimp only;refine ZB ?_;rw[<- R1];refine TJ _ (λrest r s'=>r.1=none/\s'=s/\∀v∈rest,∃i t,v=Vo i t) _ ?_ ?_ _ _ ⟨rfl,rfl,λv hv=>?_⟩
 .rintro v rest r s' ⟨hr,rfl,hall⟩;obtain⟨i,t,rfl⟩:=hall v XU;rw[show S2 7 (Vo i t)=pure false by unfold S2;rfl];refine ZB (XS ?_);rw[bw XT];exact XS ⟨rfl,rfl,λu hu'=>hall u (XR _ hu')⟩
 .rintro⟨r1,r2⟩ s' ⟨hr,rfl,_⟩;simp only at hr;subst hr;exact XS q
 .simp at hv;rcases hv with rfl | rfl
  .exact⟨_,_,rfl⟩
  .exact⟨_,_,rfl⟩
def zkl {x:Addr}{p:Int×Int}{l:List X8}{Q:Bool->X7->Prop}(hx:zv s.heap (.ref x) p)(hl:∀v∈l,∃b q,v=.ref b/\zv s.heap (.ref b) q)(q:Q false s):Xk (Xn prog w) A (searchCouldBeSeen (.ref x) l) Q E s:=by
 unfold searchCouldBeSeen;refine ZB ?_;refine TJ _ (λrest r s'=>r.1=none/\s'=s/\∀v∈rest,∃b q,v=.ref b/\zv s.heap (.ref b) q) _ ?_ ?_ _ _ ⟨rfl,rfl,hl⟩
 .rintro v rest r s' ⟨hr,rfl,hall⟩;obtain⟨b,q',rfl,hb⟩:=hall v XU;dsimp only;split
  .exact XS ⟨rfl,rfl,λu hu'=>hall u (XR _ hu')⟩
  .refine ZB ((tk2 prog w).quiet (Jj hx) ?_);rw[bw (by decide)];refine ZB ((tk2 prog w).quiet (Jj hb) ?_);rw[bw (by decide)];refine ZB (zds (d:=0) hx ?_);rw[bw XT];refine ZB (zds (d:=0) hb ?_);rw[bw XT];exact XS ⟨rfl,rfl,λu hu'=>hall u (XR _ hu')⟩
 .rintro⟨r1,r2⟩ s' ⟨hr,rfl,_⟩;simp only at hr;subst hr;exact XS q
def zkm {x:Addr}{p:Int×Int}{Q:Bool->X7->Prop}(hx:zv s.heap (.ref x) p)(q:Q true s):Xk (Xn prog w) A (Pq 8 (.ref x)) Q E s:=by
 obtain⟨b,o,n,t,u,e,e1,e2,e3⟩:=hx;cases e;have hT:s.TypeIs (.ref x) "tuple":=⟨o,e1,e2⟩;unfold Pq;refine ZB (So hT PySem.F.slot_tuple_hash.lookup ?_);dsimp only;refine ZB (wpAny_seqItems e1 e3 ?_);dsimp only[Option.getD];refine ZB ?_;rw[<- R1];refine TJ _ (λrest r s'=>r.1=none/\s'=s/\∀v∈rest,∃i t,v=Vo i t) _ ?_ ?_ _ _ ⟨rfl,rfl,λv hv=>?_⟩
 .rintro v rest r s' ⟨hr,rfl,hall⟩;obtain⟨i,t,rfl⟩:=hall v XU;rw[show Pq 7 (Vo i t)=pure true by unfold Pq;rfl];refine ZB (XS ?_);rw[bw (by decide)];exact XS ⟨rfl,rfl,λu hu'=>hall u (XR _ hu')⟩
 .rintro⟨r1,r2⟩ s' ⟨hr,rfl,_⟩;simp only at hr;subst hr;exact XS q
 .simp at hv;rcases hv with rfl | rfl
  .exact⟨_,_,rfl⟩
  .exact⟨_,_,rfl⟩
def zei {n:Nat}{h:Int}{x b:Addr}{p:Int×Int}{i:Nat}{Q:SetFound->X7->Prop}(hu:A.units<VA)(ho:s.heap.get? a=some (qm es ep t))(G:Good t (es.map (·.1)))(nd:(es.map (·.1)).toList.Nodup)
  (all:∀e∈es.toList,∃b q,e.2=WA b/\zv s.heap (.ref b) q) (hi:es[i]?=some (h,.ref b)) (hx:zv s.heap (.ref x) p) (hb:zv s.heap (.ref b) p)
  (hQ:Q (.there none) s):Xk (Xn prog w) A (RG a (.ref x) h true (n+1) none) Q E s:=by
 have hlt:i<(es.map (·.1)).size:=by
  rw[Vh];exact(V9.mp hi).1
 have eh:(es.map (·.1)).toList.getD i 0=h:=by
  rw[<- zeh i hlt,hi];rfl
 obtain⟨nx,e⟩:=G.found (λi=>(es[i]?.map (·.1)).getD 0) zeh nd hlt;rw[eh] at e;rw[RG];refine ZB (xx ho G ?_);dsimp only;rw[G.odd,bw XT];generalize hm:t.probe _ h _=m;have em:m=some (.candidate (t.place.getD i 0) i nx):=hm.symm.trans e;subst em;dsimp only;have seen:∀v∈(es.filter (·.1==h)).toList.map (·.2),∃b q,v=WA b/\zv s.heap (.ref b) q:=λv hv=>by
  obtain⟨e,he,rfl⟩:=XM.mp hv;rw[O7] at he;exact all e (X9.mp he).1
 rw[hi];cases hl:t.led with
 | true =>
  rw[bw (by decide)];refine ZB (Wz ((tk2 prog w).eqBool hu (Jj hb) (Jj hx) ?_));refine ZB (xx ho G ?_);dsimp only;rw[bu rfl,br (by decide)];exact XS hQ
 | false =>
  rw[br (by decide)];refine ZB (zkl hx seen ?_);rw[bw XT];refine ZB (Wz ((tk2 prog w).eqBool hu (Jj hb) (Jj hx) ?_));refine ZB (xx ho G ?_);dsimp only;rw[bu rfl,br (by decide)];exact XS hQ
end
end ST
namespace ST
def zbV (f:Int×Int->Int)(q:Addr×(Int×Int)):Int×X8:=(f q.2,WA q.1)
structure zcU (f:Int×Int->Int)(led:Bool)(h:Heap)(a:Addr)(ks:List (Addr×(Int×Int))):Prop where
 ex:∃es ep t,h.get? a=some (qm es ep t)/\es.toList=ks.map (zbV f)/\Good t (es.map (·.1))/\t.led=led/\t.plain=true
 nd:(ks.map (·.2)).Nodup
 cells:∀q∈ks,zv h (.ref q.1) q.2
 inb:∀q∈ks,InB q.2
def zv.up {h h':Heap}{x:Addr}{p:Int×Int}(H:zv h (.ref x) p){a:Addr}(hs:Wh a h h'){o:Obj}(ho:h.get? a=some o)(hc:o.cls=.type "set"):zv h' (.ref x) p:=by
 obtain⟨b,o',n,t,u,e,e1,e2,e3⟩:=H;cases e;refine⟨x,o',n,t,u,rfl,?_,e2,e3⟩;rw[hs.2 x λz=>?_]
 .exact e1
 .subst z;rw[ho] at e1;cases e1;rw[hc] at e2;exact absurd e2 (by decide)
section
variable {prog:Xm}{w:WZ}{A:WR}{E:X8->X7->Prop}{s:X7}{a:Addr}{es:Array (Int×X8)}{ep:Nat}{t:Wt}{ks:List (Addr×(Int×Int))}{f:Int×Int->Int}{led:Bool}
def Zs (he:es.toList=ks.map (zbV f)):(es.map (·.1)).toList=ks.map λq=>f q.2:=by
 rw[UY,he,Wg];rfl
def ziX (inj:∀p q,InB p->InB q->f p=f q->p=q)(nd:(ks.map (·.2)).Nodup)(inb:∀q∈ks,InB q.2):(ks.map λq=>f q.2).Nodup:=by
 rw[OQ,We] at nd ⊢;refine nd.imp_of_mem λ{x y} hx hy h e=>h (inj _ _ (inb x hx) (inb y hy) e)
def zfm {es':Array (Int×X8)}{t':Wt}{Q:Unit->X7->Prop}(ho:s.heap.get? a=some (qm es ep t))(hz:es'.size<=64)
  (q:∀h',Wh a s.heap h'->h'.get? a=some (qm es' (ep+1) t')->Q () { s with heap:=h' }):Xk (Xn prog w) A (storeSet a es' t') Q E s:=by
 refine wpAny_storeSet_of (o:=qm es ep t) ho rfl (q _ (Wn ..) ?_) (XZ hz (by rw[T0];decide));have:=WD (Obj.putSet es' t') ho (by rw[putSet_of es' t' (o:=qm es ep t) rfl];rfl);rw[putSet_of es' t' (o:=qm es ep t) rfl] at this;exact this
theorem zfn {α:Type}(d:α)(xs:Array α):∀(l:List Nat),(∀i∈l,i<xs.size)->l.filterMap (λi=>xs[i]?)=l.map λi=>xs.toList.getD i d
 | [],_=>rfl
 | i::l,h=>by
  have hi:=h i XU;rw[Va,Xu,Vp hi];dsimp only;rw[zfn d xs l λj hj=>h j (XR _ hj)];congr 1;rw[Xp,XB,Vp hi];rfl
def zej {n:Nat}(hn:n=5\/n=19):¬ Tk (Ur n)>Xq:=by
 rw[T0];rcases hn with rfl | rfl
 .rw[show Tk (Ur 5)=32 by decide+kernel];lia
 .rw[show Tk (Ur 19)=128 by decide+kernel];lia
def zkn {Q:Unit->X7->Prop}(ho:s.heap.get? a=some (qm es ep t))(hf:t.fits es.size=true)(hn:es.size=5\/es.size=19)(he:es.toList=ks.map (zbV f))
  (q:∀(h':Heap) (es':Array (Int×X8)) (t':Wt) (ks':List (Addr×(Int×Int))),Wh a s.heap h'->h'.get? a=some (qm es' (ep+1) t')->es'.toList=ks'.map (zbV f)->ks'.Perm ks->Good t' (es'.map (·.1))->t'.led=t.led->t'.plain=t.plain->Q () { s with heap:=h' }):Xk (Xn prog w) A (setRelay a (Ur es.size)) Q E s:=by
 have hsz:(es.map (·.1)).size=es.size:=Vh ..;obtain⟨t',order,e1,e2,e3,e4,e5,e6,e7⟩:=zgC t (es.map (·.1)) (by rw[hsz];exact hn);rw[hsz] at e1 e2 e3 e6;have hlt:∀i∈order.toList,i<es.size:=λi hi=>Wo.mp (e3.mem_iff.mp hi);have hkl:ks.length=es.size:=by
  rw[<- X4,he,Y1]
 have d0:Addr×(Int×Int):=(0,(0,0));have el:(order.filterMap (es[·]?)).toList=(order.toList.map λi=>ks.getD i d0).map (zbV f):=by
  rw[Array.toList_filterMap,zfn (zbV f d0) es order.toList hlt,Wg];refine Xa λi hi=>?_;have h1:=hlt i hi;show es.toList.getD i _=zbV f (ks.getD i d0);rw[he,Xp,Xo,Xp,XX (by lia),Uc,TK,TK]
 have es_:(order.filterMap (es[·]?)).size=es.size:=by
  rw[<- X4,el,Y1,Y1,X4,e2]
 unfold setRelay;refine ZB (S4 (o:=qm es ep t) ho rfl hf ?_);dsimp only;rw[bw (zej hn),e1];refine ZB ?_;show Xk (Xn prog w) A (do
  let es':=order.filterMap (es[·]?)
  if es'.size != es.size then Pr "internal:set-table-lost-an-element"
  pure (es',t')) _ _ _
 dsimp only;rw[es_,bw (by simp)];refine XS ?_;dsimp only;refine zfm ho (by rw[es_];lia) λh' h1 h2=>q h' _ t' _ h1 h2 el ?_ ?_ e4 e5
 .have:=e3.map λi=>ks.getD i d0;rw[<- hkl,zgs] at this;exact this
 .have eh:(order.filterMap (es[·]?)).map (·.1)=order.map λi=>(es.map (·.1)).toList.getD i 0:=by
   apply Array.toList_inj.mp;rw[Zs el,UY,Wg];refine Xa λi hi=>?_;have h1:=hlt i hi;show f (ks.getD i d0).2=_;rw[Zs he,Xp,Xp,Xo,XX (by lia),Uc,TK,TK]
  rw[eh];exact e7
def zko {n:Nat}{x:Addr}{p:Int×Int}{Q:Bool->X7->Prop}(inj:∀p q,InB p->InB q->f p=f q->p=q)(hu:A.units<VA)(S:zcU f led s.heap a ks)(hx:zv s.heap (.ref x) p)(hb:InB p)(hn:p ∉ ks.map (·.2)->ks.length<63)
  (q:∀(b:Bool) (h':Heap) (ks':List (Addr×(Int×Int))),Wh a s.heap h'->zcU f led h' a ks'->(∀c,c∈ks'.map (·.2)↔c∈ks.map (·.2)\/c=p)->(∀c∈ks',c∈ks\/c=(x,p))->Q b { s with heap:=h' }) :
  Xk (Xn prog w) A (setAddHashedIn a (.ref x) (f p) (n+1)) Q E s:=by
 obtain⟨⟨es,ep,t,ho,he,G,hl,hp⟩,nd,hc,inb⟩:=S;have hkl:ks.length=es.size:=by
  rw[<- X4,he,Y1]
 generalize hh:f p=h;rw[setAddHashedIn];refine ZB (xx ho G ?_);dsimp only;rw[show byScan (.ref x) es=false by simp[byScan,Value.scannable],bw XT];by_cases hm:p∈ks.map (·.2)
 .obtain⟨⟨b,p'⟩,hk,e⟩:=XM.mp hm;simp only at e;subst e;obtain⟨i,hi,ei⟩:=TD hk;have eg:es[i]?=some (h,.ref b):=by
   rw[<- XB,he,Xo,XX hi,ei,<- hh];rfl
  unfold setSearch;refine ZB (zei (n:=99999) hu ho G (by rw[Zs he];exact ziX inj nd inb) (λe hm'=>?_) eg hx (hc _ hk) ?_)
  .rw[he] at hm';obtain⟨c,h1,rfl⟩:=XM.mp hm';exact⟨c.1,c.2,rfl,hc c h1⟩
  .refine XS (q false s.heap ks (Heap.SameBut.refl _ _) ⟨⟨es,ep,t,ho,he,G,hl,hp⟩,nd,hc,inb⟩ (λc=>⟨.inl,λz=>z.elim id λz=>z ▸ hm⟩) λc h1=>.inl h1)
 .have hlen:=hn hm;have no:h ∉ (es.map (·.1)).toList:=λz=>by
   rw[Zs he,<- hh] at z;obtain⟨c,h1,h2⟩:=XM.mp z;exact hm (XM.mpr ⟨c,h1,inj _ _ (inb c h1) hb h2⟩)
  unfold setSearch;refine ZB (zcT (n:=99999) ho G no λj h1 h2 h3=>?_);dsimp only;refine ZB (xx ho G ?_);obtain⟨f1,f2,f3⟩:=zkj G.up G.dum h2;have hsz:t.place.size=es.size:=by rw[G.sz,Vh]
  have bs:Xy t.place j<=es.size:=by
   rw[<- hsz];exact(J1 G.up j).1
  generalize hpos:Xy t.place j=pos at f1 f2 f3 bs;have ep1:(t.put j).1.plain=true:=by rw[f2];exact hp
  have el1:(t.put j).1.led=led:=by rw[f2];exact hl
  have hks:∃ks1,ks1=ks.take pos++(x,p)::ks.drop pos:=⟨_,rfl⟩;obtain⟨ks1,hks⟩:=hks;have he1:(Xi es pos (h,WA x)).toList=ks1.map (zbV f):=by
   rw[Z7,he,hks,Xh,Xu,OW,List.map_drop];simp only[zbV,hh]
  have hsz1:(Xi es pos (h,WA x)).size=es.size+1:=jx _ bs _;have pm:ks1.Perm ((x,p)::ks):=by
   rw[hks];refine List.perm_middle.trans (List.Perm.cons _ ?_);rw[W4]
  have fits1:(t.put j).1.fits (Xi es pos (h,WA x)).size=true:=by
   have hr:=G.room;have bp:pos<=t.place.size:=by rw[hsz];exact bs
   rw[hsz1,f2];unfold SetTable.fits OX;simp only[G.dum,jx _ bp,hsz];rcases G.mask with e | e | e<;>simp[e]<;>rw[hsz,e] at hr<;>lia
  have fin:∀(h':Heap) (ks':List (Addr×(Int×Int))) (es':Array (Int×X8)) (ep':Nat) (t':Wt),Wh a s.heap h'->h'.get? a=some (qm es' ep' t')->es'.toList=ks'.map (zbV f)->ks'.Perm ((x,p)::ks)->Good t' (es'.map (·.1))->t'.led=led->t'.plain=true->Q true { s with heap:=h' }:=by
   intro h' ks' es' ep' t' hs hg hel hpm hG hle hpl;have mem:∀c,c∈ks'↔c=(x,p)\/c∈ks:=λc=>by rw[hpm.mem_iff,XG]
   refine q true h' ks' hs ⟨⟨es',ep',t',hg,hel,hG,hle,hpl⟩,?_,λc hc'=>?_,λc hc'=>?_⟩ (λc=>?_) λc hc'=>(mem c).mp hc' |>.symm
   .rw[(hpm.map (·.2)).nodup_iff,Xu,WB];exact⟨hm,nd⟩
   .rcases(mem c).mp hc' with rfl | z
    .exact zv.up hx hs ho rfl
    .exact zv.up (hc c z) hs ho rfl
   .rcases(mem c).mp hc' with rfl | z
    .exact hb
    .exact inb c z
   .rw[(hpm.map (·.2)).mem_iff,Xu,XG];exact Or.comm
  have eT:t.put j=((t.put j).1,pos):=by rw[<- f1]
  have fl:(t.put j).1.tooFull=decide ((es.size+1)*5 >= t.mask*3):=by
   have bp:pos<=t.place.size:=by rw[hsz];exact bs
   rw[f2];unfold SetTable.tooFull OX;simp only[G.dum,jx _ bp,hsz];rfl
  have gd:¬ (es.size+1)*5 >= t.mask*3->Good (t.put j).1 ((Xi es pos (h,WA x)).map (·.1)):=λhr=>by
   have:=G.put (h:=h) h1 h2 h3 (by rw[hsz];lia);rw[f1] at this;have e:(Xi es pos (h,WA x)).map (·.1)=Xi (es.map (·.1)) pos h:=by
    apply Array.toList_inj.mp;rw[UY,Z7,Z7,UY,Xh,Xu,OW,List.map_drop]
   rw[e];exact this
  have hroom:=G.room;have hmask:=G.mask;rw[hsz] at hroom;dsimp only;rw[eT];dsimp only;generalize t.put j=T at ep1 el1 fits1 fl gd;obtain⟨t1,p1⟩:=T;dsimp only at ep1 el1 fits1 fl gd ⊢;rw[ep1,br rfl];refine ZB (zkm hx ?_);rw[br rfl];refine ZB (zfm ho (by rw[hsz1];lia) λh' hs hg=>?_);by_cases full:(es.size+1)*5 >= t.mask*3
  .rw[fl,bu full,br (by decide)];rw[<- hsz1];refine ZB (zkn (s:={ s with heap:=h' }) hg fits1 (by rw[hsz1];rcases hmask with e | e | e<;>rw[e] at full hroom<;>lia) he1 λh2' es' t' ks' hs' hg' hel hpm hG hle hpl=>?_);exact XS (fin h2' ks' es' _ t' (hs.trans hs') hg' hel (hpm.trans pm) hG (hle.trans el1) (hpl.trans ep1))
  .rw[fl,bg full,bw (by decide)];exact XS (fin h' ks1 _ _ t1 hs hg he1 pm (gd full) el1 ep1)
def zkp {x:Addr}{p:Int×Int}{Q:Bool->X7->Prop}(hu:A.units<VA)(S:zcU (hP prog w) led s.heap a ks)(hx:zv s.heap (.ref x) p)(hb:InB p)(hn:p ∉ ks.map (·.2)->ks.length<63)
  (q:∀(b:Bool) (h':Heap) (ks':List (Addr×(Int×Int))),Wh a s.heap h'->zcU (hP prog w) led h' a ks'->(∀c,c∈ks'.map (·.2)↔c∈ks.map (·.2)\/c=p)->(∀c∈ks',c∈ks\/c=(x,p))->Q b { s with heap:=h',toks:=s.toks+3 }) :
  Xk (Xn prog w) A (setAdd a (.ref x)) Q E s:=by
 unfold setAdd;refine Wz (ZB ((tk2 prog w).pyHash hu (Jj hx) ?_));show Xk (Xn prog w) A (setAddHashed a (.ref x) (hP prog w p)) Q E { s with toks:=s.toks+3 };unfold setAddHashed;refine Wz ?_;exact zko (n:=99999) (s:={ s with toks:=s.toks+3 }) (λp q h1 h2 h3=>zoV h1 h2 h3) hu S hx hb hn q
end
end ST
namespace ST
theorem zhK {α:Type}(next:Nat->Nat):∀(fuel k:Nat) (left:List α) (out:Array α),left.length=fuel->(pickOrder.go next fuel k left out).toList.Perm (out.toList++left)
 | 0,k,left,out,h=>by
  rw[VP.mp h,Xd];exact List.Perm.refl _
 | fuel+1,k,left,out,h=>by
  have hl:next k%left.length<left.length:=R8 _ (by lia)
  rw[pickOrder.go,XX hl];dsimp only;refine(zhK next fuel (k+1) _ _ (by rw[RS hl];lia)).trans ?_;rw[S1,W3];refine SS _ ?_;have e:left=left.take (next k%left.length)++left[next k%left.length]::left.drop (next k%left.length+1):=by
   rw[<- WP hl,W4]
  rw[Vs];have e2:=@List.perm_middle _ left[next k%left.length] (left.take (next k%left.length)) (left.drop (next k%left.length+1));rw[<- e] at e2;exact e2.symm
def ziY {α:Type}(next:Nat->Nat)(xs:Array α):(Ru next xs).toList.Perm xs.toList:=by
 have h:=zhK next xs.size 0 xs.toList #[] (by simp)
 rw[show (#[]:Array α).toList++xs.toList=xs.toList from rfl] at h;exact h
def j7:Slot "set_iterator" "__next__" "set_iterator.__next__" :=
 .of (owner:="set_iterator") (n:="__next__") (by rw[Ts,UQ];kernel_rfl) (by decide+kernel) (by decide+kernel) (by decide+kernel) (.inl (by decide+kernel)) (by rw[Pm];kernel_rfl)
def QS:Os table "set_iterator.__next__"=some UR.«set_iterator.__next__»:=entryFor_of_tree (by kernel_rfl)
def zbW:Manifest.owners.lookup (String.ofList ['r','o','t','a','r','e','t','i','_','t','e','s'].reverse)=some Manifest.sig_set_iterator:=by kernel_rfl
def zaO (a:X8):argsOk "set_iterator.__next__" ⟨[a],[]⟩:=by
 unfold argsOk;rw[signature?_of (id:="set_iterator.__next__") (n:=['_','_','t','x','e','n','_','_']) (o:=['r','o','t','a','r','e','t','i','_','t','e','s']) (by kernel_rfl) zbW];kernel_rfl
def zek:Os table "set.__iter__"=some UR.«frozenset.__iter__»:=entryFor_alias (id':="frozenset.__iter__") (by kernel_rfl) rfl (by decide+kernel) (by kernel_rfl)
def zbX (slot i:Nat)(a:Addr)(n ep:Nat):Obj:={ cls:=.type "set_iterator",data:=.fields #[Ul slot,Ul i,.ref a,Ul n,Ul ep] }
def slotAt (byText:Bool)(t:Wt)(i:Nat):Nat:=if byText then 0 else if i=0 then 0 else t.place.getD (i-1) 0+1
def J5 (w:WZ)(a:Addr)(ep:Nat)(es:Array (Int×X8)):Array (Int×X8):=if w.params.followText "set-order" then Ru (w.params.setOrder a ep) es else es
def QT (w:WZ)(a:Addr)(ep:Nat)(es:Array (Int×X8)):(J5 w a ep es).toList.Perm es.toList:=by
 unfold J5;split
 .exact ziY _ _
 .exact List.Perm.refl _
section
variable {prog:Xm}{w:WZ}{A:WR}{E:X8->X7->Prop}{s:X7}{a:Addr}{es:Array (Int×X8)}{ep:Nat}{t:Wt}
def zel {Q:Bool->X7->Prop}(q:Q (w.params.followText "set-order") s):Xk (Xn prog w) A setsByText Q E s:=by
 unfold setsByText;exact ZB (Rn (XS q))
def below_at {t:Wt}(U:Up t.place){i:Nat}(hi:i<=t.place.size):Xy t.place (slotAt false t i)=i:=by
 obtain⟨b1,b2,b3⟩:=J1 U (slotAt false t i);unfold slotAt at *
 simp only[Ww,if_false] at *
 by_cases h0:i=0
 .subst h0;rw[br rfl] at *
  rcases Nat.eq_zero_or_pos (Xy t.place 0) with e | e
  .exact e
  .have:=b2 0 e;lia
 .rw[bw h0] at *
  rcases RL (Xy t.place (t.place.getD (i-1) 0+1)) i with e | e | e
  .have:=b3 (i-1) (by lia) (by lia);lia
  .exact e
  .have h1:=b2 i e;have h2:=U (i-1) i (by lia) (by lia);lia
def zhL {i:Nat}{Q:Option (X8×Nat)->X7->Prop}(ho:s.heap.get? a=some (qm es ep t))(G:Good t (es.map (·.1)))(hl:t.led=!w.params.followText "set-order")(hp:t.plain=true)(hi:i<=es.size)
  (q1:∀v,(J5 w a ep es)[i]?.map (·.2)=some v->Q (some (v,slotAt (w.params.followText "set-order") t (i+1))) s) (q2:i=es.size->Q none s) :
  Xk (Xn prog w) A (setNext a (slotAt (w.params.followText "set-order") t i) i ep) Q E s:=by
 have hsz:t.place.size=es.size:=by rw[G.sz,Vh]
 have hos:(J5 w a ep es).size=es.size:=by
  rw[<- X4,(QT w a ep es).length_eq,X4]
 unfold setNext;refine ZB (xx ho G ?_);dsimp only;refine ZB (zel ?_);cases hb:w.params.followText "set-order" with
 | true =>
  rw[br rfl];rw[hb] at q1;rw[bw (by simp)];unfold setWalk;refine ZB (ZB (xx ho G ?_));dsimp only;refine ZB (zel ?_);rw[hb,br rfl];refine ZB (Rn (XS (XS ?_)));have eo:J5 w a ep es=Ru (w.params.setOrder a ep) es:=by
   unfold J5;rw[hb,br rfl]
  rw[eo] at q1 hos;show Q (Option.map _ (Ru (w.params.setOrder a ep) es)[i]?) s;by_cases h:i<es.size
  .have e:(Ru (w.params.setOrder a ep) es)[i]?=some (Ru (w.params.setOrder a ep) es)[i]:=Vp (by lia);rw[e] at q1 ⊢;exact q1 _ rfl
  .rw[WM (by lia)];exact q2 (by lia)
 | false =>
  rw[bw XT];rw[hb] at q1 hl;have eo:J5 w a ep es=es:=by
   unfold J5;rw[hb,bw XT]
  rw[eo] at q1;split
  .rename_i h;exact absurd h (by show ¬ ((!t.plain&&decide (es.size>1))=true);rw[hp];exact XT)
  refine ZB ?_;show Xk _ _ (if (!t.led && !es.isEmpty)=true then Pr "set:maker-not-led" else pure ()) _ _ _;rw[hl,bw (by simp)];refine XS ?_;rw[below_at G.up (by lia)];by_cases h:i<es.size
  .have e:es[i]?=some es[i]:=Vp h;have e2:t.place[i]?=some (t.place.getD i 0):=Jh (by lia);rw[e] at q1 ⊢;rw[e2];refine XS (q1 _ rfl)
  .rw[WM (by lia)];exact XS (q2 (by lia))
end
end ST
namespace ST
def zdu:Slot "set_iterator" "__iter__" "set_iterator.__iter__" :=
 .of (owner:="set_iterator") (n:="__iter__") (by rw[Ts,UQ];kernel_rfl) (by decide+kernel) (by decide+kernel) (by decide+kernel) (.inl (by decide+kernel)) (by rw[Pm];kernel_rfl)
def zgD:Os table "set_iterator.__iter__"=some UR.«dict_keyiterator.__iter__»:=entryFor_alias (id':="dict_keyiterator.__iter__") (by kernel_rfl) rfl (by decide+kernel) (by kernel_rfl)
def ziZ (a:X8):argsOk "set_iterator.__iter__" ⟨[a],[]⟩:=by
 unfold argsOk;rw[signature?_of (id:="set_iterator.__iter__") (n:=['_','_','r','e','t','i','_','_']) (o:=['r','o','t','a','r','e','t','i','_','t','e','s']) (by kernel_rfl) zbW];kernel_rfl
section
variable {prog:Xm}{w:WZ}{A:WR}{E:X8->X7->Prop}{s:X7}{a I:Addr}{es:Array (Int×X8)}{ep:Nat}{t:Wt}
def zgE {slot i a n ep:Nat}(x y:Nat):Ua (·.setIfInBounds 1 (Ul y)) (Ua (·.setIfInBounds 0 (Ul x)) (zbX slot i a n ep))=zbX x y a n ep:=rfl
def zmI {i:Nat}{Q:Option X8->X7->Prop}(hI:s.heap.get? I=some (zbX (slotAt (w.params.followText "set-order") t i) i a es.size ep))(ho:s.heap.get? a=some (qm es ep t))(G:Good t (es.map (·.1)))(hl:t.led=!w.params.followText "set-order")(hp:t.plain=true)(hi:i<es.size)
  (q:∀v h',(J5 w a ep es)[i]?.map (·.2)=some v->h'.get? I=some (zbX (slotAt (w.params.followText "set-order") t (i+1)) (i+1) a es.size ep)->Wh I s.heap h'->Q (some v) { s with heap:=h' }) :
  Xk (Xn prog w) A (Sb (.ref I)) Q E s:=by
 have hT:s.TypeIs (.ref I) "set_iterator":=⟨_,hI,rfl⟩;unfold Sb;refine ZB (SC (Rf (name:=Str.ofString "__next__") hT j7 (UZ j7 hT QS ?_ (zaO _))));unfold UR.«set_iterator.__next__»;refine ZB (XS ?_);refine ZB (wpAny_fieldsOf hI rfl ?_);dsimp only[Ul];refine ZB (Si (o:=qm es ep t) ho rfl ?_ ?_)
 .have:=G.fits;rwa [Vh] at this
 rw[bw (by simp)];show Xk _ _ (setNext a (slotAt (w.params.followText "set-order") t i) i ep >>= _) _ _ _;refine ZB (zhL ho G hl hp (TR hi) (λv hv=>?_) λz=>absurd z (by lia));dsimp only;refine ZB (R4 hI rfl (by simp[zbX]) ?_);have h1:=WD (Ua (·.setIfInBounds 0 (Ul ((slotAt (w.params.followText "set-order") t (i+1):Nat):Int)))) hI rfl;refine ZB (R4 h1 rfl (by simp[zbX,Ua]) ?_);have h2:=WD (Ua (·.setIfInBounds 1 (Ul ((i:Int)+1)))) h1 rfl;refine XS ⟨_,rfl,XS (q v _ hv ?_ ((Wn ..).trans (Wn ..)))⟩;rw[show ((i:Int)+1)=((i+1:Nat):Int) by lia] at h2 ⊢;rw[zgE] at h2;exact h2
def zoW {Q:Option X8->X7->Prop}(hh:A.handled=none)(hI:s.heap.get? I=some (zbX (slotAt (w.params.followText "set-order") t es.size) es.size a es.size ep))(ho:s.heap.get? a=some (qm es ep t))(G:Good t (es.map (·.1)))(hl:t.led=!w.params.followText "set-order")(hp:t.plain=true)
  (q:∀h',Heap.ExtBut I s.heap h'->Q none { s with heap:=h' }):Xk (Xn prog w) A (Sb (.ref I)) Q E s:=by
 have hT:s.TypeIs (.ref I) "set_iterator":=⟨_,hI,rfl⟩;unfold Sb;refine ZB (SC (Rf (name:=Str.ofString "__next__") hT j7 (UZ j7 hT QS ?_ (zaO _))));unfold UR.«set_iterator.__next__»;refine ZB (XS ?_);refine ZB (wpAny_fieldsOf hI rfl ?_);dsimp only[Ul];refine ZB (Si (o:=qm es ep t) ho rfl ?_ ?_)
 .have:=G.fits;rwa [Vh] at this
 rw[bw (by simp)];show Xk _ _ (setNext a (slotAt (w.params.followText "set-order") t es.size) es.size ep >>= _) _ _ _;refine ZB (zhL ho G hl hp (XV _) (λv hv=>?_) λ_=>?_)
 .have hos:(J5 w a ep es).size=es.size:=by
   rw[<- X4,(QT w a ep es).length_eq,X4]
  rw[WM (by lia)] at hv;cases hv
 dsimp only;refine ZB (R4 hI rfl (by simp[zbX]) ?_);refine ZB ?_;simp only[newExc,newTuple];refine ZB (VD ?_ (by size_fits));refine ZB (m:=R6 _ _) (Pu (a:=Value.none) (by first | rfl | (simp only[R6];rfl)) ?_);refine VD ?_ (by size_fits);simp only[raiseNew];refine ZB (wpAny_handled ?_);rw[show A.in1.handled=none from hh];refine ZB (XS (OC ?_));refine ZB (Rp (T:="StopIteration") (b:=true) ⟨_,W5 _ rfl,rfl⟩ isSubtype_stop ?_);exact XS (q _ (((Wn ..).extBut.push _).push _))
def zmJ {slot i n:Nat}{Q:X8->X7->Prop}(hI:s.heap.get? I=some (zbX slot i a n ep))(q:Q (.ref I) s):Xk (Xn prog w) A (Ov (.ref I)) Q E s:=by
 have hT:s.TypeIs (.ref I) "set_iterator":=⟨_,hI,rfl⟩;refine wpAny_pyIter_slot hT zdu (UZ zdu hT zgD ?_ (ziZ _));exact XS ⟨_,rfl,"set_iterator",_,hT,j7.lookup,q⟩
def walks (hh:A.handled=none)(hne:a≠I)(G:Good t (es.map (·.1)))(hl:t.led=!w.params.followText "set-order")(hp:t.plain=true) :
  Walks prog w A I [I,a] [I] es.size (λi v=>(J5 w a ep es)[i]?.map (·.2)=some v) (λi h=>h.get? I=some (zbX (slotAt (w.params.followText "set-order") t i) i a es.size ep)/\h.get? a=some (qm es ep t)) where
 sub:=λb hb=>by simp at hb;simp[hb]
 frame:=λ_ _ _ st hk=>⟨hk I (by simp) _ st.1,hk a (by simp) _ st.2⟩
 item:=λi s Q E hi st hQ=>zmI st.1 st.2 G hl hp hi λv h' hv h1 hs=>hQ v h' s.toks hv ⟨h1,(hs.2 a hne).trans st.2⟩ λb o hb e=>(hs.2 b λz=>hb (by simp[z])).trans e
 done:=λs Q E st hQ=>zoW hh st.1 st.2 G hl hp λh' he=>hQ h' s.toks λb o hb e=>he b o (λz=>hb (by simp[z])) e
 self:=λ_ _ _ _ st hQ=>zmJ st.1 hQ
def zfo:splitId "set.__len__"=some ("set","__len__"):=by decide+kernel
def zfp {Q:List X8->X7->Prop}(hh:A.handled=none)(ho:s.heap.get? a=some (qm es ep t))(G:Good t (es.map (·.1)))(hl:t.led=!w.params.followText "set-order")(hp:t.plain=true)(hn:es.size<=64)
  (q:∀vs h' tk,vs.Perm (es.toList.map (·.2))->(∀b o,s.heap.get? b=some o->h'.get? b=some o)->s.heap.objs.size<=h'.objs.size->Q vs { s with heap:=h',toks:=tk }):Xk (Xn prog w) A (collect (.ref a)) Q E s:=by
 have hlt:a<s.heap.objs.size:=XE ho;unfold collect;refine ZB (wpAny_runValue (VJ PySem.F.entry_proto_collect ?_));rw[V5 PySem.F.plain_proto_collect _];show Xk _ A.in1 (newList [] >>= λl=>OD (.builtin "list.__iadd__" ⟨[l,.ref a],[]⟩)) _ _ s;refine ZB (VD ?_);refine XS ⟨UC Re _,VJ PySem.F.entry_list_iadd ?_⟩;rw[V5 Re _];show Xk _ A.in1 (Sd (.ref s.heap.objs.size) (.ref a) (.ref s.heap.objs.size)) _ _ _;generalize hL:(s.heap.push { cls:=.type "list",data:=.seq ([]:List X8).toArray })=h1;have ho1:h1.get? a=some (qm es ep t):=by rw[<- hL];exact XY _ ho
 have hS1:h1.get? s.heap.objs.size=some { cls:=.type "list",data:=.seq #[] }:=by rw[<- hL];exact W5 _ rfl
 have kp1:∀b o,s.heap.get? b=some o->h1.get? b=some o:=λb o e=>by rw[<- hL];exact XY _ e
 have z1:h1.objs.size=s.heap.objs.size+1:=by rw[<- hL];exact UV ..
 have hT:SA { s with heap:=h1 } (.ref a) "set":=⟨_,ho1,rfl⟩;have h1':Ry (.ref s.heap.objs.size) (.ref a)=false:=by
  simp[Ry];exact TQ hlt
 unfold Sd;refine ZB (Sg hT ?_);rw[bw (by rw[h1'];decide)];have hf:t.fits es.size=true:=by
  have:=G.fits;rwa [Vh] at this
 refine ZB (wpAny_pyIter_slot hT PF (UZ PF hT zek ?_ (PySem.F.args_set_iter_1 _)));unfold UR.«frozenset.__iter__» Builtin.Frozenset.slot0 slotArgs;simp only[List.isEmpty_nil,Bool.not_true,Ww,↓reduceIte,bind_assoc,UM,bne_self_eq_false];unfold Builtin.Frozenset.addrOf Builtin.Frozenset.sizeOf;refine ZB (XS ?_);dsimp only;refine ZB (XS ?_);refine ZB (ZB (Si (s:={ s with heap:=h1 }) (o:=qm es ep t) ho1 rfl hf (XS ?_)));unfold setDrawn;refine ZB (ZB (S4 (s:={ s with heap:=h1 }) (o:=qm es ep t) ho1 rfl hf ?_));dsimp only;refine ZB (zel (XS ?_));split
 .rename_i h;exact absurd h (by show ¬ ((!w.params.followText "set-order" && (!t.plain&&decide (es.size>1)))=true);rw[hp];simp)
 refine ZB (XS ?_);unfold setEpoch;refine ZB (ZB (S4 (s:={ s with heap:=h1 }) (o:=qm es ep t) ho1 rfl hf (XS ?_)));unfold newFields;refine ZB (VD ?_);generalize hI:h1.push { cls:=.type "set_iterator",data:=.fields (List.toArray [Ul 0,Ul 0,WA a,Ul ((es.size:Nat):Int),Ul ((ep:Nat):Int)]) }=h2;have ho2:h2.get? a=some (qm es ep t):=by rw[<- hI];exact XY _ ho1
 have hS2:h2.get? s.heap.objs.size=some { cls:=.type "list",data:=.seq #[] }:=by rw[<- hI];exact XY _ hS1
 have kp2:∀b o,s.heap.get? b=some o->h2.get? b=some o:=λb o e=>by rw[<- hI];exact XY _ (kp1 b o e)
 have hI2:h2.get? h1.objs.size=some (zbX 0 0 a es.size ep):=by rw[<- hI];exact W5 _ rfl
 have hTI:SA { s with heap:=h2 } (.ref h1.objs.size) "set_iterator":=⟨_,hI2,rfl⟩;have hT2:SA { s with heap:=h2 } (.ref a) "set":=⟨_,ho2,rfl⟩;refine XS ⟨_,rfl,"set_iterator",_,hTI,j7.lookup,?_⟩;refine ZB (Wz ?_);unfold Builtin.List.listLengthHint;refine ZB (So hT2 PySem.F.slot_set_len.lookup ?_);dsimp only;rw[zfo];dsimp only;refine ZB (Rp (b:=true) hT2 sub_set_self ?_);rw[bw (by decide)];show Xk _ _ (typeOf (WA a) >>= _) _ _ _;refine ZB (Sg hT2 ?_);show Xk _ _ (pure false) _ _ _;refine XS ?_;show Xk _ A.in1 (rule "list.extend.makes-room" >>= λ_=>Builtin.List.listTouch (.ref s.heap.objs.size) >>= λ_=>OD (.builtin "list.extend.loop" ⟨[.ref s.heap.objs.size,.ref h1.objs.size,.ref s.heap.objs.size],[]⟩)) _ _ _;refine ZB (UW (ZB ?_));show Xk _ A.in1 (updateSeq s.heap.objs.size (·.push .none) >>= λ_=>updateSeq s.heap.objs.size (·.pop)) _ _ _;refine ZB (wpAny_updateSeq hS2 rfl ?_);have hS3:=WD (Vc (·.push Value.none)) hS2 rfl;refine wpAny_updateSeq hS3 rfl ?_;have hS4:=WD (Vc (·.pop)) hS3 rfl;have oth:∀b o,b≠s.heap.objs.size->h2.get? b=some o->((h2.update s.heap.objs.size (Vc (·.push Value.none))).update s.heap.objs.size (Vc (·.pop))).get? b=some o :=
  λb o hb e=>(VG _ _ (Vr hb)).trans ((VG _ _ (Vr hb)).trans e)
 generalize (h2.update s.heap.objs.size (Vc (·.push Value.none))).update s.heap.objs.size (Vc (·.pop))=h4 at hS4 oth;have hne:a≠h1.objs.size:=by
  rw[z1];exact Xe (Wl hlt)
 have hSf:s.heap.objs.size ∉ [h1.objs.size,a]:=by
  rw[z1];simp only[XG,Rq,or_false,not_or];exact⟨Xe (SJ _),TQ hlt⟩
 have sl0:slotAt (w.params.followText "set-order") t 0=0:=by
  unfold slotAt;split<;>rfl
 have hos:(J5 w a ep es).size=es.size:=by
  rw[<- X4,(QT w a ep es).length_eq,X4]
 refine XS ⟨UC PySem.F.plain_extend_loop _,codeAny_extend_loopS ((walks (A:=A.in1) (prog:=prog) (ep:=ep) hh hne G hl hp).toS) (XZ hn (by rw[T0];decide)) _ hSf _ es.size 0 _ _ _ rfl (WT _)
  ⟨by rw[sl0];exact oth _ _ (by rw[z1];exact U1 _) hI2,oth _ _ (Xe hlt) ho2⟩ hS4 (ItemsOf.nil _) λs' acc' c' hm hS' hacc=>?_⟩
 show Xk _ A (load s.heap.objs.size >>= _) _ _ s';refine ZB (wpAny_load hS' ?_);obtain⟨h',g',d',tk',os'⟩:=s';have eg:g'=s.gens:=hm.gens;have ed:d'=s.drawn:=hm.drawn;have eo:os'=s.os:=hm.os;subst eg;subst ed;subst eo;refine XS (q _ _ _ ?_ (λb o e=>?_) (TR (XE hS')))
 .have e:acc'.toList=(J5 w a ep es).toList.map (·.2):=by
   refine SZ λi=>?_;rw[XB,Xo,XB];by_cases hi:i<es.size
   .have hi':i<acc'.size:=by rw[hacc.1];exact hi
    have e1:acc'[i]?=some acc'[i]:=Vp hi';rw[e1];exact(hacc.2 i _ e1).symm
   .rw[WM (by rw[hacc.1];lia),WM (by lia)];rfl
  rw[e];exact(QT w a ep es).map _
 .have hb:b<s.heap.objs.size:=XE e;refine hm.heap b o (λz=>?_) (oth b o (Xe hb) (kp2 b o e));rcases XG.mp z with z | z
  .exact VM _ (z ▸ hb)
  .have z':b=h1.objs.size:=by simpa using z
   rw[z',z1] at hb;exact absurd hb (Nat.not_lt.mpr (VX _))
end
end ST
open PySem PySem.Spec PyProof.Rows PySem.W
namespace ST
def zfq (prog:Xm)(w:WZ)(d:Addr)(ks:List (Addr×(Int×Int))):HO:=.ext λh=>∃es ep t,h.get? d=some (qm es ep t)/\es.toList=ks.map (zbV (hP prog w))/\Good t (es.map (·.1))/\t.led=(!w.params.followText "set-order")/\t.plain=true
section
variable {prog:Xm}{w:WZ}{A:WR}{R:Rb->X7->Prop}{I:Addr}{fp wr:List Addr}{G:Array Ut->Array Ut->Prop}{n:Nat}{P:Nat->X8->Prop}{St:Nat->X7->Prop}{led:Bool}
def zkq {h0:Heap}(W:WalksS prog w A.in1 I fp wr G n P St)(D:Addr)(hDf:D ∉ fp)(hD0:h0.get? D=none)(hw0:∀b∈wr,h0.get? b=none)(ps:List (Int×Int))(hlen:ps.length=n)(hu:A.units+1<VA)
  (T:Addr->Int×Int->Prop) (hT:∀x p,T x p->zv h0 (.ref x) p) (hP':∀i v,P i v->∃x p,v=.ref x/\ps[i]?=some p/\T x p) (hb:∀p∈ps,InB p) (few:∀l:List (Int×Int),l.Nodup->(∀c∈l,c∈ps)->l.length<=63) :
  ∀(k i:Nat) (s:X7) (ks:List (Addr×(Int×Int))),n-i=k->i<=n->St i s->(∀b o,h0.get? b=some o->s.heap.get? b=some o)->zcU (hP prog w) led s.heap D ks->(∀c,c∈ks.map (·.2)↔c∈ps.take i)->(∀q∈ks,T q.1 q.2) ->
   (∀s' ks',Moved (D::wr) G s s'->zcU (hP prog w) led s'.heap D ks'->(∀c,c∈ks'.map (·.2)↔c∈ps)->(∀q∈ks',T q.1 q.2)->R (.ok (.ret .none)) s') ->
   T8 (Xn prog w) A (.builtin "set.update.loop" ⟨[.ref D,.ref I],[]⟩) R s:=by
 have hDw:D ∉ wr:=λh=>hDf (W.sub _ h);have more:∀b∈wr,b∈D::wr:=λb hb=>XR _ hb;have pair_up:∀{h:Heap} {x:Addr} {p:Int×Int},(∀b o,h0.get? b=some o->h.get? b=some o)->T x p->zv h (.ref x) p:=λkp hx=>by
  obtain⟨b,o,m,t,u,e,e1,e2,e3⟩:=hT _ _ hx;exact⟨b,o,m,t,u,e,kp _ _ e1,e2,e3⟩
 have keep_to:∀{s s':X7},Moved wr G s s'->(∀b o,h0.get? b=some o->s.heap.get? b=some o)->∀b o,h0.get? b=some o->s'.heap.get? b=some o:=λhm kp b o e =>
  hm.heap b o (λhb=>by
   rw[hw0 b hb] at e;cases e) (kp b o e)
 have set_to:∀{s s':X7} {ks:List (Addr×(Int×Int))},Moved wr G s s'->(∀b o,h0.get? b=some o->s'.heap.get? b=some o)->(∀q∈ks,T q.1 q.2)->zcU (hP prog w) led s.heap D ks->zcU (hP prog w) led s'.heap D ks :=
  λhm kp hk ⟨⟨es,ep,t,e1,e2⟩,e3,_,e5⟩=>⟨⟨es,ep,t,hm.heap D _ hDw e1,e2⟩,e3,λq hq=>pair_up kp (hk q hq),e5⟩
 intro k;induction k with
 | zero =>
  intro i s ks hk hi hst kp hS hm' hTk hR;have hin:i=n:=by lia
  subst hin;refine VJ Tz ?_;rw[V5 U5 _];show Xk _ A.in1 (Sb (.ref I) >>= _) _ _ s;refine ZB (W.done s _ _ hst λs' hm=>?_);refine XS (hR s' ks (hm.mono more) (set_to hm (keep_to hm kp) hTk hS) (λc=>?_) hTk);rw[hm' c,<- hlen,Xz]
 | succ k ih =>
  intro i s ks hk hi hst kp hS hm' hTk hR;have hlt:i<n:=by lia
  refine VJ Tz ?_;rw[V5 U5 _];show Xk _ A.in1 (Sb (.ref I) >>= _) _ _ s;refine ZB (W.item i s _ _ hlt hst λv s' hPv hst' hm=>?_);obtain⟨x,p,rfl,hq,hx⟩:=hP' i v hPv;have kp':=keep_to hm kp;have hS':=set_to hm kp' hTk hS;have hpm:p∈ps:=X6 hq;have tk:ps.take (i+1)=ps.take i++[p]:=by
   rw[Xc,hq];rfl
  refine ZB (Wz (zkp (show A.in1.units<VA from hu) hS' (pair_up kp' hx) (hb p hpm) (λhno=>?_) λb h' ks' hs' hS2 hmem zqd=>?_))
  .have:=few (p::ks.map (·.2)) (WB.mpr ⟨hno,hS'.nd⟩) λc hc=>by
    rcases XG.mp hc with rfl | hc
    .exact hpm
    .exact V6 ((hm' c).mp hc)
   rw[Xj,Y1] at this;lia
  have kp2:∀b o,h0.get? b=some o->h'.get? b=some o:=λb o e=>by
   rw[hs'.2 b (λz=>by
    rw[z,hD0] at e;cases e)]
   exact kp' b o e
  refine XS ⟨UC U5 _,?_⟩;refine ih (i+1) _ ks' (by lia) hlt (W.frame _ s' _ _ hst' (U0 _ _) λb hb o e=>?_) kp2 hS2 (λc=>?_) (λq hq'=>?_) λs'' ks'' hm'' hS'' hc'' hT''=>?_
  .rw[hs'.2 b (λz=>hDf (by rw[<- z];exact hb))];exact e
  .rw[hmem c,hm' c,tk,XQ,Wv]
  .rcases zqd q hq' with z | z
   .exact hTk q z
   .rw[z];exact hx
  .refine hR s'' ks'' (Moved.trans W.gtrans ((hm.mono more).then_heap (U0 _ _) λb o hb e=>?_) hm'') hS'' hc'' hT'';rw[hs'.2 b (λz=>hb (by rw[z];exact XU))];exact e
end
section
variable {prog:Xm}{w:WZ}{A:WR}{E:X8->X7->Prop}{s:X7}
def zmK (a:X8){Q₁:X8->X7->Prop}(h:Q₁ (.ref s.heap.objs.size) { s with heap:=s.heap.push (qm #[] 0 (.fresh 0 0 (!w.params.followText "set-order"))) }) :
  T8 (Xn prog w) A (.call (.builtin "set.__new__") ⟨[.type "set",a],[]⟩) (wants Q₁ E) s:=by
 refine codeAny_of_tree ?_;show Xk _ A.in1 (do Rt "set.__new__" ⟨[.type "set",a],[]⟩;OD (.builtin "set.__new__" ⟨[.type "set",a],[]⟩)) _ _ s;refine ZB (Pu (PySem.F.newCall_set_1 a) (XS ⟨UC PD _,VJ PySem.F.entry_set_new ?_⟩));rw[V5 PD _];unfold UR.«set.__new__» Builtin.Frozenset.newClass;have hsub:=sub_set_self;obtain⟨hp,g,d,tk,os⟩:=s;dsimp only;wp_walk;refine Rn (XS ?_);dsimp only;simp only[newObj];refine ZB (wpAny_alloc (XS ?_));exact XS h
def zgF (led:Bool):Good (.fresh 0 0 led) #[]:=⟨.inl rfl,rfl,rfl,λi j _ h=>absurd h (by simp[SetTable.fresh]),λi h=>absurd h (by simp[SetTable.fresh]),by simp[SetTable.fresh],λi h=>absurd h (by simp[SetTable.fresh])⟩
end
end ST
namespace ST
section
variable {prog:Xm}{w:WZ}{A:WR}{E:X8->X7->Prop}{s:X7}
set_option maxHeartbeats 8000000 in
theorem zkr {l:Addr}{its:Array X8}{ps:List (Int×Int)}{T:Addr->Int×Int->Prop}{Q:X8->X7->Prop}(hh:A.handled=none)(hu:A.units+64<VA)(hl:s.heap.IsList l its)(hlen:ps.length=its.size)
  (hT:∀x p,T x p->zv s.heap (.ref x) p) (hP':∀(i:Nat) (v:X8),its[i]?=some v->∃x p,v=WA x/\ps[i]?=some p/\T x p) (hb:∀p∈ps,InB p) (few:∀l:List (Int×Int),l.Nodup->(∀c∈l,c∈ps)->l.length<=63)
  (h:∀(h':Heap) (tk:Nat) (ks:List (Addr×(Int×Int))),(∀b o,s.heap.get? b=some o->h'.get? b=some o)->zcU (hP prog w) (!w.params.followText "set-order") h' s.heap.objs.size ks->(∀c,c∈ks.map (·.2)↔c∈ps)->(∀q∈ks,T q.1 q.2)->Q (.ref s.heap.objs.size) { s with heap:=h',toks:=tk }) :
  Xk (Xn prog w) A (call (.type "set") [.ref l]) Q E s:=by
 obtain⟨c,tl,hmro⟩:=PySem.F.called_set.mro;have hmade:=PySem.F.called_set.made;have hsub:=PySem.F.called_set.sub;refine wpAny_call (codeAny_of_tree ?_);show Xk _ _ (callAny (.type "set") _) _ _ _;refine XS ⟨Code.quiet_builtin _ (by decide+kernel),VJ PySem.F.entry_type_call ?_⟩;rw[Around.under_plain (weight_type_call_type "set" [.ref l] []) rfl];have h1:=PySem.F.called_set.notType;have h2:=PySem.F.called_set.canCreate;have hct:=PySem.F.typeCall_set_1 (.ref l);repeat (any_goals (first | assumption | wp_step))
 refine TN (zmK (.ref l) (E:=E) (Q₁:=λobj s₁=>obj=.ref s.heap.objs.size/\s₁={ s with heap:=s.heap.push (qm #[] 0 (.fresh 0 0 (!w.params.followText "set-order"))) }) ⟨rfl,rfl⟩) λr s₁ hr=>?_;cases r with
 | error e=>exact hr
 | ok fl =>
  cases fl with
  | ret obj =>
   obtain⟨rfl,rfl⟩:=hr;generalize hled:(!w.params.followText "set-order")=led at h ⊢;have hS:(s.heap.push (qm #[] 0 (.fresh 0 0 led))).get? s.heap.objs.size=some (qm #[] 0 (.fresh 0 0 led)):=W5 _ rfl;have hTy:SA { s with heap:=s.heap.push (qm #[] 0 (.fresh 0 0 led)) } (.ref s.heap.objs.size) "set":=⟨_,hS,rfl⟩;have hli:=PySem.F.called_set.init.lookup;have hbi:=PySem.F.called_set.init.bind (.ref s.heap.objs.size);repeat (any_goals (first | assumption | wp_step))
   refine TN (TX (R:=wants (λr s₂=>r=.none/\∃h' tk ks,s₂={ s with heap:=h',toks:=tk }/\zcU (hP prog w) led h' s.heap.objs.size ks/\(∀c,c∈ks.map (·.2)↔c∈ps)/\(∀q∈ks,T q.1 q.2) /\
     (∀b o,s.heap.get? b=some o->h'.get? b=some o)) E) PySem.F.called_set.init.plain PySem.F.entry_set_init (check_set_init_1 hTy ?_)) λr₂ s₂ hr₂=>?_
   .obtain⟨ol,hol,hcl,nl,hdl⟩:=hl;obtain⟨ocls,odict,odata,oslots⟩:=ol;simp only at hcl hdl;subst hcl;subst hdl;have hol':(s.heap.push (qm #[] 0 (.fresh 0 0 led))).get? l=some { cls:=.type "list",dict:=odict,data:=.seq its nl,slots:=oslots }:=XY _ hol;have hsls:=PySem.F.sub_list_set;have hslf:=PySem.F.sub_list_frozenset;have hne:(Value.type "list" == Value.type "dict")=false:=by decide
    have hl1:(s.heap.push (qm #[] 0 (.fresh 0 0 led))).IsList l its:=⟨_,hol',rfl,nl,rfl⟩;unfold UR.«set.__init__» noKeywords Builtin.Frozenset.updateFrom;generalize hG:s.heap.push (qm #[] 0 (.fresh 0 0 led))=G at hS hTy hol' hl1 ⊢;unfold qm at hS;generalize hPI:Ov=PI;wp_walk;subst hPI;subst hG;refine S7 hl1 ?_;refine ZB (wpAny_runValue ?_);have hlS:l<s.heap.objs.size:=XE hol;have zS:(s.heap.push (qm #[] 0 (.fresh 0 0 led))).objs.size=s.heap.objs.size+1:=UV ..;have hneI:l≠(s.heap.push (qm #[] 0 (.fresh 0 0 led))).objs.size:=by
     rw[zS];exact Xe (Wl hlS)
    have hSf:s.heap.objs.size ∉ [(s.heap.push (qm #[] 0 (.fresh 0 0 led))).objs.size,l]:=by
     rw[zS];simp only[XG,Rq,or_false,not_or];exact⟨Xe (SJ _),TQ hlS⟩
    refine zkq (h0:=s.heap) (led:=led) ((Walks.list (by simp[hh]) (s.heap.push (qm #[] 0 (.fresh 0 0 led))).objs.size l hneI its).toS) s.heap.objs.size hSf (UF (XV _)) (λb hb=>?_) ps hlen (by show A.units+1+1+1<VA;lia) T hT hP' hb few (its.size-0) 0 _ [] rfl (WT _)
     ⟨⟨_,W5 _ rfl,rfl,rfl⟩,(hl1.push _)⟩ (λb o z=>XY _ (XY _ z)) ⟨⟨#[],0,.fresh 0 0 led,XY _ hS,rfl,(by rw[Array.map_empty];exact zgF led),rfl,rfl⟩,Vw,(λq z=>nomatch z),(λq z=>nomatch z)⟩ (λc=>by simp) (λq z=>nomatch z) ?_
    .have e:b=(s.heap.push (qm #[] 0 (.fresh 0 0 led))).objs.size:=by simpa using hb
     rw[e,zS];exact UF (VX _)
    .intro s' ks hm hS' hm' hT';obtain⟨h',g',d',tk',os'⟩:=s';have eg:g'=s.gens:=hm.gens;have ed:d'=s.drawn:=hm.drawn;have eo:os'=s.os:=hm.os;subst eg;subst ed;subst eo;show Xk _ _ _ _ _ _;refine XS ?_;show Xk _ _ (ret Value.none) _ _ _;refine XS ⟨rfl,h',tk',ks,rfl,hS',hm',hT',λb o e=>?_⟩;have lt:=XE e;refine hm.heap b o (λz=>?_) (XY _ (XY _ e));rcases XG.mp z with z | z
     .exact VM _ (z ▸ lt)
     .have z':b=(s.heap.push (qm #[] 0 (.fresh 0 0 led))).objs.size:=by simpa using z
      rw[z',zS] at lt;exact absurd lt (Nat.not_lt.mpr (VX _))
   .cases r₂ with
    | error e=>exact hr₂
    | ok fl₂ =>
     cases fl₂ with
     | ret r =>
      obtain⟨rfl,h',tk,ks,rfl,hS',hm',hT',hk'⟩:=hr₂;repeat (any_goals (first | assumption | wp_step))
      exact h _ _ _ hk' hS' hm' hT'
     | _=>exact hr₂.elim
  | _=>exact hr.elim
end
end ST
namespace ST
def zbY {α β:Type}(f:α->β){l l':List β}(h:l.Perm l'):∀ks:List α,l'=ks.map f->∃js:List α,js.Perm ks/\l=js.map f:=by
 induction h with
 | nil=>exact λks e=>⟨ks,List.Perm.refl _,e⟩
 | cons x h ih =>
  intro ks e;cases ks with
  | nil=>simp at e
  | cons k ks =>
   rw[Xu] at e;injection e with e1 e2
   obtain⟨js,h1,h2⟩:=ih ks e2;exact⟨k::js,h1.cons k,by rw[Xu,e1,h2]⟩
 | swap x y l =>
  intro ks e;match ks,e with
  | [],e=>simp at e
  | [k],e=>simp at e
  | k1::k2::ks,e =>
   rw[Xu,Xu] at e;injection e with e1 e2
   injection e2 with e2 e3
   exact⟨k2::k1::ks,List.Perm.swap k1 k2 ks,by rw[Xu,Xu,e1,e2,e3]⟩
 | trans h1 h2 ih1 ih2 =>
  intro ks e;obtain⟨js,a,b⟩:=ih2 ks e;obtain⟨is,c,d⟩:=ih1 js b;exact⟨is,c.trans a,d⟩
section
variable {X:Cx}
def zi0 (hu:X.A.units+64<VA)(hh:X.A.handled=none):jj X (.type "set") (λxs H Q=>∃l us ps,xs=[.ref l]/\SqL X.K H l us/\yw H us ps/\(∀p∈ps,InB p)/\(∀l:List (Int×Int),l.Nodup->(∀c∈l,c∈ps)->l.length<=63) /\
  ∀d ks,H d=none->(∀q∈ks,H q.1=some (.tup [.int q.2.1,.int q.2.2]))->(ks.map (·.2)).Nodup->(∀c,c∈ks.map (·.2)↔c∈ps)->Q (.ref d) (upd H d (zfq X.prog X.w d ks))):=by
 intro bQ s σ H xs us' Q I r h;obtain⟨l,us,ps,rfl,hq,ht,hb,few,q⟩:=h;obtain⟨u,rfl,ru⟩:=vals1 r;cases ru;obtain⟨its,rv,pl,hz⟩:=I.list hq;have hp:=yw.pairs I ht rv;have hlp:its.length=ps.length:=Paired.length hp;have tw:∀{us:AE} {ps:List (Int×Int)} {its:List X8},yw H us ps->Vals us its->∀(i:Nat) (v:X8),its[i]?=some v->∃x p,v=WA x/\ps[i]?=some p/\H x=some (.tup [.int p.1,.int p.2]):=by
  intro us ps its h1;induction h1 generalizing its with
  | nil =>
   intro r i v e;cases r;simp at e
  | cons a t ih =>
   intro r i v e;obtain⟨x,rfl,hx⟩:=a;cases r with
   | cons r1 r2 =>
    cases r1;cases i with
    | zero =>
     simp at e;exact⟨x,_,e.symm,rfl,hx⟩
    | succ i =>
     obtain⟨y,p,h1,h2,h3⟩:=ih r2 i v (by simpa using e);exact⟨y,p,h1,by simpa using h2,h3⟩
 refine zkr (T:=λx p=>H x=some (.tup [.int p.1,.int p.2])) hh hu pl.isList (by simp[hlp]) (λx p hx=>?_) (λi v e=>tw ht rv i v (by simpa using e)) hb few λh' tk ks kk hS hm hT=>?_
 .obtain⟨items,rv',tp,_⟩:=I.tuple (SqT.of hx);obtain⟨u1,u2,rfl,⟨t1,rfl⟩,⟨t2,rfl⟩⟩:=vals2 rv';obtain⟨ob,e1,c1,n,d1⟩:=tp;exact⟨x,ob,n,t1,t2,rfl,e1,c1,d1⟩
 .have hD:H s.heap.objs.size=none:=I.hok.fresh (XV _);obtain⟨es,ep,t,ho,rest⟩:=hS.ex;refine⟨.ref s.heap.objs.size,upd H s.heap.objs.size (zfq X.prog X.w s.heap.objs.size ks),I.laid (t':=tk) kk (XV _) ⟨⟨es,ep,t,ho,rest⟩,⟨_,ho⟩,λh1 h2 ⟨es,ep,t,ho,rest⟩ k=>⟨es,ep,t,k _ ho,rest⟩⟩,rfl,q _ _ hD hT hS.nd hm⟩
end
end ST
namespace GS
section
variable {prog:Xm}{w:WZ}{A:WR}{E:X8->X7->Prop}{s:X7}{rk:Xb->Int}{κ:T2}{a0:Array Xb}
def Rk (rk:Xb->Int)(xs:Array Xb)(i:Nat):Int:=match xs[i]? with
 | some p=>rk p
 | none=>0
def Jk {xs ys:Array Xb}{i j:Nat}(h:xs[i]?=ys[j]?):Rk rk xs i=Rk rk ys j:=by
 unfold Rk;rw[h]
def Up (rk:Xb->Int)(xs:Array Xb)(lo hi:Nat):Prop:=∀i j,lo<=i->i<=j->j<hi->Rk rk xs i<=Rk rk xs j
def Tells (prog:Xm)(w:WZ)(A:WR)(s:X7)(κ:T2)(rk:Xb->Int)(a0:Array Xb):Prop :=
 ∀x∈a0.toList,∀y∈a0.toList,∀C:Bool->X7->Prop,C (decide (rk x<rk y)) s->Xk (Xn prog w) A (keyLt' κ x.1 y.1) C (λ_ _=>False) s
structure Ok (κ:T2)(a0:Array Xb)(st:WQ):Prop where
 perm:(Xr st).Perm a0
 kind:kindOf st=κ
 good:Td st=none
theorem Ok.size {st:WQ}(h:Ok κ a0 st):(Xr st).size=a0.size:=h.perm.size_eq
def Ok.at {st:WQ}(h:Ok κ a0 st){i:Nat}(hi:i<a0.size):∃x,(Xr st)[i]?=some x/\x∈a0.toList/\Rk rk (Xr st) i=rk x:=by
 have hi':i<(Xr st).size:=by rw[h.size];exact hi
 have e:(Xr st)[i]?=some (Xr st)[i]:=getElem?_pos _ i hi';refine⟨(Xr st)[i],e,(US.mp h.perm).mem_iff.mp (by simp),?_⟩;unfold Rk;rw[e]
def zks {st:WQ}{x y:Xb}{Q:Option Bool->WQ->Prop}(T:Tells prog w A s κ rk a0)(hk:kindOf st=κ)(hx:x∈a0.toList)(hy:y∈a0.toList)(h:Q (some (decide (rk x<rk y))) st):wpS (Xn prog w) A E s (lt' x y) Q st:=by
 rw[lt'_eq];refine XH (SH ?_);rw[hk];refine XH (Rx (SC (VU (T x hx y hy (λb s'=>s'=s/\b=decide (rk x<rk y)) ⟨rfl,rfl⟩) (λb s' hb=>⟨hb.1,?_⟩) λ_ _ hF=>hF.elim)));rw[hb.2];exact Xv h
def qP {st:WQ}{xs:Array Xb}{i:Nat}{x:Xb}{Q:Xb->WQ->Prop}(e:xs[i]?=some x)(h:Q x st):wpS (Xn prog w) A E s (elem' xs i) Q st:=by
 rw[elem'_eq,e];exact Xv h
def zbZ {st:WQ}{i j:Nat}{Q:Option Bool->WQ->Prop}(T:Tells prog w A s κ rk a0)(O:Ok κ a0 st)(hi:i<a0.size)(hj:j<a0.size)(h:Q (some (decide (Rk rk (Xr st) i<Rk rk (Xr st) j))) st):wpS (Xn prog w) A E s (ltAt' i j) Q st:=by
 obtain⟨x,e1,m1,r1⟩:=O.at (rk:=rk) hi;obtain⟨y,e2,m2,r2⟩:=O.at (rk:=rk) hj;rw[r1,r2] at h;rw[ltAt'_eq];refine XH (SH ?_);exact XH (qP e1 (XH (qP e2 (zks T O.kind m1 m2 h))))
structure Step (κ:T2)(a0:Array Xb)(lo:Nat)(st st':WQ):Prop where
 ok:Ok κ a0 st'
 pend:WO st'=WO st
 low:∀i:Nat,i<lo->(Xr st')[i]?=(Xr st)[i]?
def Step.refl {lo:Nat}{st:WQ}(O:Ok κ a0 st):Step κ a0 lo st st:=⟨O,rfl,λ_ _=>rfl⟩
def zao {xs:Array Xb}{i j:Nat}(hj:j<=xs.size)(k:Nat):Rk rk (mirror xs i j ((j-i)/2)) k=if i<=k/\k<j then Rk rk xs (i+j-1-k) else Rk rk xs k:=by
 have e:=O4 (i:=i) hj k;by_cases h1:i<=k/\k<j
 .rw[br h1] at e ⊢;exact Jk e
 .rw[bw h1] at e ⊢;exact Jk e
def jD {xs:Array Xb}{i j:Nat}(hj:j<=xs.size)(heq:∀k,i<=k->k<j->Rk rk xs k=Rk rk xs (j-1))(k:Nat):Rk rk (mirror xs i j ((j-i)/2)) k=Rk rk xs k:=by
 rw[zao hj];split
 .rw[heq _ (by lia) (by lia),heq k (by lia) (by lia)]
 .rfl
theorem Step.mirror {lo i j:Nat}{st st':WQ}(x:Step κ a0 lo st st')(hi:lo<=i)(hj:j<=a0.size):Step κ a0 lo st (setArr st' (mirror (Xr st') i j ((j-i)/2))):=by
 refine⟨⟨(mirror_perm _ _ _ _).trans x.ok.perm,x.ok.kind,x.ok.good⟩,x.pend,λk hk=>?_⟩;show (PyProof.Rows.mirror (Xr st') i j ((j-i)/2))[k]?=_;rw[O4 (by rw[x.ok.size];exact hj),bw (by lia)];exact x.low k hk
def zhM {st:WQ}{i j:Nat}{Q:Unit->WQ->Prop}(h:Q () (setArr st (mirror (Xr st) i j ((j-i)/2)))):wpS (Xn prog w) A E s (Sz i j) Q st:=by
 rw[reverseSlice'_eq];exact To h
def up1 (lo a nrem:Nat):StateT WQ Sem AscSt :=
 forIn [a:nrem] ((none,a):AscSt) λ_ c=>do
  let x <- ltAt' (lo+c.snd) (lo+c.snd-1)
  match x with
  | some b=>if b=true then pure (ForInStep.done (none,c.snd)) else pure (V2 (none,c.snd+1))
  | _=>pure (ForInStep.done (some none,c.snd))
def zkt (lo n nrem:Nat):StateT WQ Sem (Option Nat):=do
 Sz lo (lo+n)
 let c <- up1 lo n nrem
 match c.fst with
 | some r=>pure r
 | none=>pure (some c.snd)
def zhN (lo n nrem:Nat):StateT WQ Sem DescSt :=
 forIn [n:nrem] ((none,n,0):DescSt) λ_ c=>do
  let x <- ltAt' (lo+c.snd.fst) (lo+c.snd.fst-1)
  match x with
  | some b =>
   if b=true then
    if c.snd.snd>0 then do
     Sz (lo+c.snd.fst-(c.snd.snd+1)) (lo+c.snd.fst)
     pure (V2 (none,c.snd.fst+1,0))
    else pure (V2 (none,c.snd.fst+1,0))
   else do
    let x <- ltAt' (lo+c.snd.fst-1) (lo+c.snd.fst)
    match x with
    | some b =>
     if b=true then pure (ForInStep.done (none,c.snd.fst,c.snd.snd))
     else pure (V2 (none,c.snd.fst+1,c.snd.snd+1))
    | _=>pure (ForInStep.done (some none,c.snd.fst,c.snd.snd))
  | _=>pure (ForInStep.done (some none,c.snd.fst,c.snd.snd))
def part2 (lo n nrem:Nat):StateT WQ Sem (Option Nat):=do
 liftM (rule "list.sort.descending-run")
 let c <- zhN lo (n+1) nrem
 match c.fst with
 | some r=>pure r
 | none =>
  if c.snd.snd>0 then do
   Sz (lo+c.snd.fst-(c.snd.snd+1)) (lo+c.snd.fst)
   zkt lo c.snd.fst nrem
  else zkt lo c.snd.fst nrem
theorem run_eq (lo nrem:Nat):countRun' lo nrem=(do
  let c <- up1 lo 1 nrem
  match c.fst with
  | some r=>pure r
  | none =>
   if (c.snd==nrem)=true then pure (some c.snd)
   else if c.snd>1 then do
    let x <- ltAt' lo (lo+c.snd-1)
    match x with
    | some b=>if b=true then pure (some c.snd) else do
      Sz lo (lo+c.snd)
      part2 lo c.snd nrem
    | _=>pure none
   else part2 lo c.snd nrem):=by
 rw[countRun'_eq];unfold part2 zkt zhN up1;refine bind_congr λc=>?_;obtain⟨r,n⟩:=c;cases r with
 | some r=>rfl
 | none =>
  dsimp only;split
  .rfl
  .split
   .refine bind_congr λx=>?_;cases x with
    | none=>rfl
    | some b =>
     dsimp only;split
     .rfl
     .refine bind_congr λ_=>bind_congr λ_=>bind_congr λc2=>?_;obtain⟨r2,n2,q2⟩:=c2;cases r2 with
      | some r2=>rfl
      | none =>
       dsimp only;split
       .refine bind_congr λ_=>bind_congr λ_=>bind_congr λc3=>?_;obtain⟨r3,n3⟩:=c3;cases r3<;>rfl
       .refine bind_congr λ_=>bind_congr λc3=>?_;obtain⟨r3,n3⟩:=c3;cases r3<;>rfl
   .refine bind_congr λ_=>bind_congr λc2=>?_;obtain⟨r2,n2,q2⟩:=c2;cases r2 with
    | some r2=>rfl
    | none =>
     dsimp only;split
     .refine bind_congr λ_=>bind_congr λ_=>bind_congr λc3=>?_;obtain⟨r3,n3⟩:=c3;cases r3<;>rfl
     .refine bind_congr λ_=>bind_congr λc3=>?_;obtain⟨r3,n3⟩:=c3;cases r3<;>rfl
end
end GS
namespace GS
section
variable {prog:Xm}{w:WZ}{A:WR}{E:X8->X7->Prop}{s:X7}{rk:Xb->Int}{κ:T2}{a0:Array Xb}
def Down (rk:Xb->Int)(xs:Array Xb)(lo n:Nat):Prop:=∀i j,i<=j->j<n->Rk rk xs (lo+j)<=Rk rk xs (lo+i)
def znS {st:WQ}{lo a nrem:Nat}{Q:AscSt->WQ->Prop}(T:Tells prog w A s κ rk a0)(O:Ok κ a0 st)(hn:lo+nrem<=a0.size)(ha:1<=a)(han:a<=nrem)(hs:Up rk (Xr st) lo (lo+a))
  (h:∀n,a<=n->n<=nrem->Up rk (Xr st) lo (lo+n)->(n=nrem\/Rk rk (Xr st) (lo+n)<Rk rk (Xr st) (lo+n-1))->Q (none,n) st):wpS (Xn prog w) A E s (up1 lo a nrem) Q st:=by
 unfold up1;refine V4 (I:=λx c st'=>st'=st/\c=(none,x)/\Up rk (Xr st) lo (lo+x)) ?step ?fin ⟨rfl,rfl,hs⟩
 case fin =>
  rintro c st' ⟨rfl,rfl,hs'⟩
  rw[show max a nrem=nrem by lia] at hs' ⊢
  exact h nrem han (XV _) hs' (.inl rfl)
 case step =>
  rintro x c st' hax hxn ⟨rfl,rfl,hs'⟩
  dsimp only
  refine XH (zbZ T O (by lia) (by lia) ?_)
  by_cases hless:Rk rk (Xr st') (lo+x)<Rk rk (Xr st') (lo+x-1)
  .simp only[hless,decide_true,if_true];exact Xv (h x hax (by lia) hs' (.inr hless))
  .simp only[hless,decide_false,Ww,if_false];refine Xv ⟨rfl,rfl,λi j hi hij hj=>?_⟩;by_cases hjx:j<lo+x
   .exact hs' i j hi hij hjx
   .obtain rfl:j=lo+x:=by lia
    by_cases hi':i=lo+x
    .subst hi';exact U3 _
    .exact Vx (hs' i (lo+x-1) hi (by lia) (by lia)) (OP.mp hless)
def zku {st0 st:WQ}{lo n nrem:Nat}{Q:Option Nat->WQ->Prop}(T:Tells prog w A s κ rk a0)(S:Step κ a0 lo st0 st)(hn:lo+nrem<=a0.size)(h1:1<=n)(hnn:n<=nrem)(hs:Down rk (Xr st) lo n)
  (h:∀m st',Step κ a0 lo st0 st'->1<=m->m<=nrem->Up rk (Xr st') lo (lo+m)->Q (some m) st'):wpS (Xn prog w) A E s (zkt lo n nrem) Q st:=by
 unfold zkt;refine XH (zhM ?_);have S':=S.mirror (i:=lo) (j:=lo+n) (XV _) (by lia);refine XH (znS T S'.ok hn h1 hnn ?_ λm hm1 hm2 hsm _=>Xv (h m _ S' (by lia) hm2 hsm));intro i j hi hij hj;have hsz:lo+n<=(Xr st).size:=by
  rw[S.ok.size];lia
 show Rk rk (mirror (Xr st) lo (lo+n) ((lo+n-lo)/2)) i<=Rk rk (mirror (Xr st) lo (lo+n) ((lo+n-lo)/2)) j;rw[zao hsz,zao hsz,br (by lia),br (by lia)];have:=hs (lo+n-1-j) (lo+n-1-i) (by lia) (by lia);rw[show lo+(lo+n-1-j)=lo+(lo+n)-1-j by lia,show lo+(lo+n-1-i)=lo+(lo+n)-1-i by lia] at this;exact this
def zmL {st0 st:WQ}{lo n nrem:Nat}{Q:DescSt->WQ->Prop}(T:Tells prog w A s κ rk a0)(S:Step κ a0 lo st0 st)(hn:lo+nrem<=a0.size)(h1:1<=n)(hnn:n<=nrem)(hs:Down rk (Xr st) lo n)
  (h:∀m q st',Step κ a0 lo st0 st'->n<=m->m<=nrem->Down rk (Xr st') lo m->q+1<=m->(∀i,m-(q+1)<=i->i<m->Rk rk (Xr st') (lo+i)=Rk rk (Xr st') (lo+(m-1)))->Q (none,m,q) st'):wpS (Xn prog w) A E s (zhN lo n nrem) Q st:=by
 unfold zhN;refine V4 (I:=λx c st'=>∃q,c=(none,x,q)/\Step κ a0 lo st0 st'/\Down rk (Xr st') lo x/\q+1<=x /\
   (∀i,x-(q+1)<=i->i<x->Rk rk (Xr st') (lo+i)=Rk rk (Xr st') (lo+(x-1)))) ?step ?fin ⟨0,rfl,S,hs,by lia,λi h1 h2=>by congr 1;lia⟩
 case fin =>
  rintro c st' ⟨q,rfl,S',hs',hq,he⟩
  rw[show max n nrem=nrem by lia] at hs' hq he ⊢
  exact h nrem q st' S' hnn (XV _) hs' hq he
 case step =>
  rintro x c st' hax hxn ⟨q,rfl,S',hs',hq,he⟩
  dsimp only
  have hsz:lo+x<=(Xr st').size:=by
   rw[S'.ok.size];lia
  refine XH (zbZ T S'.ok (by lia) (by lia) ?_)
  by_cases hless:Rk rk (Xr st') (lo+x)<Rk rk (Xr st') (lo+x-1)
  .simp only[hless,decide_true,if_true];have step1:∀xs:Array Xb,(∀k,Rk rk xs k=Rk rk (Xr st') k)->Down rk xs lo (x+1):=by
    intro xs hk i j hij hj;rw[hk,hk];by_cases hjx:j<x
    .exact hs' i j hij hjx
    .obtain rfl:j=x:=by lia
     by_cases hi':i=j
     .subst hi';exact U3 _
     .have a1:=hs' i (j-1) (by lia) (by lia);rw[show lo+(j-1)=lo+j-1 by lia] at a1;exact Vx (V3 hless) a1
   by_cases hq0:q>0
   .rw[br hq0];refine XH (zhM (Xv ⟨0,rfl,S'.mirror (by lia) (by lia),step1 _ (jD hsz λk k1 k2=>?_),by lia,λi h1 h2=>by congr 1;lia⟩));have a1:=he (k-lo) (by lia) (by lia);rw[show lo+(k-lo)=k by lia,show lo+(x-1)=lo+x-1 by lia] at a1;exact a1
   .rw[bw hq0];exact Xv ⟨0,rfl,S',step1 _ (λ_=>rfl),by lia,λi h1 h2=>by congr 1;lia⟩
  .simp only[hless,decide_false,Ww,if_false];refine XH (zbZ T S'.ok (by lia) (by lia) ?_);by_cases hmore:Rk rk (Xr st') (lo+x-1)<Rk rk (Xr st') (lo+x)
   .simp only[hmore,decide_true,if_true];exact Xv (h x q st' S' hax (by lia) hs' hq he)
   .simp only[hmore,decide_false,Ww,if_false];have heqx:Rk rk (Xr st') (lo+x)=Rk rk (Xr st') (lo+(x-1)):=by
     rw[show lo+(x-1)=lo+x-1 by lia];lia
    refine Xv ⟨q+1,rfl,S',λi j hij hj=>?_,by lia,λi h1 h2=>?_⟩
    .by_cases hjx:j<x
     .exact hs' i j hij hjx
     .obtain rfl:j=x:=by lia
      by_cases hi':i=j
      .subst hi';exact U3 _
      .rw[heqx];exact hs' i (j-1) (by lia) (by lia)
    .rw[show x+1-1=x by lia];by_cases hix:i=x
     .subst hix;rfl
     .rw[heqx];exact he i (by lia) (by lia)
def zhO {st0 st:WQ}{lo n nrem:Nat}{Q:Option Nat->WQ->Prop}(T:Tells prog w A s κ rk a0)(S:Step κ a0 lo st0 st)(hn:lo+nrem<=a0.size)(hnn:n+1<=nrem)(hs:Down rk (Xr st) lo (n+1))
  (h:∀m st',Step κ a0 lo st0 st'->1<=m->m<=nrem->Up rk (Xr st') lo (lo+m)->Q (some m) st'):wpS (Xn prog w) A E s (part2 lo n nrem) Q st:=by
 unfold part2;refine XH (Rx (UW ⟨rfl,?_⟩));refine XH (zmL T S hn (by lia) hnn hs λm q st' S' hm1 hm2 hs' hq he=>?_);dsimp only;have hsz:lo+m<=(Xr st').size:=by
  rw[S'.ok.size];lia
 by_cases hq0:q>0
 .rw[br hq0];refine XH (zhM (zku T (S'.mirror (by lia) (by lia)) hn (by lia) hm2 ?_ h));intro i j hij hj;show Rk rk (mirror (Xr st') _ _ _) (lo+j)<=Rk rk (mirror (Xr st') _ _ _) (lo+i);have same:∀k,lo+m-(q+1)<=k->k<lo+m->Rk rk (Xr st') k=Rk rk (Xr st') (lo+m-1):=λk k1 k2=>by
   have a1:=he (k-lo) (by lia) (by lia);rw[show lo+(k-lo)=k by lia,show lo+(m-1)=lo+m-1 by lia] at a1;exact a1
  rw[jD hsz same,jD hsz same];exact hs' i j hij hj
 .rw[bw hq0];exact zku T S' hn (by lia) hm2 hs' h
def zqe {st:WQ}{lo nrem:Nat}{Q:Option Nat->WQ->Prop}(T:Tells prog w A s κ rk a0)(O:Ok κ a0 st)(hn:lo+nrem<=a0.size)(h1:1<=nrem)
  (h:∀m st',Step κ a0 lo st st'->1<=m->m<=nrem->Up rk (Xr st') lo (lo+m)->Q (some m) st'):wpS (Xn prog w) A E s (countRun' lo nrem) Q st:=by
 have S:=Step.refl (lo:=lo) O;rw[run_eq];refine XH (znS T O hn (XV 1) h1 (λi j hi hij hj=>by
  obtain rfl:i=j:=by lia
  exact U3 _) λn hn1 hn2 hsn hor=>?_)
 dsimp only;by_cases hnn:n=nrem
 .rw[br (by simpa using hnn)];exact Xv (h n st S hn1 hn2 hsn)
 .rw[bw (by simpa using hnn)];have hlt:Rk rk (Xr st) (lo+n)<Rk rk (Xr st) (lo+n-1):=hor.resolve_left hnn;have hsz:lo+n<=(Xr st).size:=by
   rw[O.size];lia
  by_cases hgt:n>1
  .rw[br hgt];refine XH (zbZ T O (by lia) (by lia) ?_);by_cases hrose:Rk rk (Xr st) lo<Rk rk (Xr st) (lo+n-1)
   .simp only[hrose,decide_true,if_true];exact Xv (h n st S hn1 hn2 hsn)
   .simp only[hrose,decide_false,Ww,if_false];have hall:∀k,lo<=k->k<lo+n->Rk rk (Xr st) k=Rk rk (Xr st) (lo+n-1):=by
     intro k k1 k2;have a1:=hsn lo k (XV _) k1 k2;have a2:=hsn k (lo+n-1) k1 (by lia) (by lia);lia
    refine XH (zhM (zhO T (S.mirror (XV _) (by lia)) hn (by lia) ?_ h));intro i j hij hj;show Rk rk (mirror (Xr st) _ _ _) (lo+j)<=Rk rk (mirror (Xr st) _ _ _) (lo+i);rw[jD hsz hall,jD hsz hall];by_cases hjn:j<n
    .rw[hall (lo+i) (by lia) (by lia),hall (lo+j) (by lia) (by lia)];exact U3 _
    .obtain rfl:j=n:=by lia
     by_cases hi':i=j
     .subst hi';exact U3 _
     .rw[hall (lo+i) (by lia) (by lia)];exact V3 hlt
  .rw[bw hgt];obtain rfl:n=1:=by lia
   refine zhO T S hn (by lia) ?_ h;intro i j hij hj;by_cases hi':i=j
   .subst hi';exact U3 _
   .obtain rfl:i=0:=by lia
    obtain rfl:j=1:=by lia
    rw[R0] at hlt;exact V3 hlt
def zdv {xs:Array Xb}{src d:Nat}(hs:src<xs.size)(hd:d<=src)(k:Nat):Rk rk (bubble xs src d) k=if k=src-d then Rk rk xs src else if src-d<k/\k<=src then Rk rk xs (k-1) else Rk rk xs k:=by
 have e:=getElem?_bubble hs d hd k;by_cases h1:k=src-d
 .rw[br h1] at e ⊢;exact Jk e
 .rw[bw h1] at e ⊢;by_cases h2:src-d<k/\k<=src
  .rw[br h2] at e ⊢;exact Jk e
  .rw[bw h2] at e ⊢;exact Jk e
def zqf {st:WQ}{lo n ok:Nat}{Q:Bool->WQ->Prop}(T:Tells prog w A s κ rk a0)(O:Ok κ a0 st)(hn:lo+n<=a0.size)(hok:ok<=n)(hs:Up rk (Xr st) lo (lo+ok))
  (h:∀st',Step κ a0 lo st st'->Up rk (Xr st') lo (lo+n)->Q true st'):wpS (Xn prog w) A E s (binarySort' lo n ok) Q st:=by
 rw[binarySort'_eq];refine XH (Us (V4 (I:=λk c st'=>c=(none,())/\Step κ a0 lo st st'/\Up rk (Xr st') lo (lo+min k n))
  (Q:=λc st'=>c=(none,())/\Step κ a0 lo st st'/\Up rk (Xr st') lo (lo+n)) ?step ?fin ?init) ?post)
 case post =>
  rintro c st' ⟨rfl,S',hs'⟩
  exact Xv (h st' S' hs')
 case init =>
  refine⟨rfl,Step.refl O,λi j hi hij hj=>?_⟩
  by_cases h1:ok=0
  .obtain rfl:i=j:=by lia
   exact U3 _
  .exact hs i j hi hij (by lia)
 case fin =>
  rintro c st' ⟨hc,S',hs'⟩
  refine⟨hc,S',?_⟩
  rwa [show min (max (max ok 1) n) n=n by lia] at hs'
 case step =>
  rintro k c st' hak hkn ⟨rfl,S',hs'⟩
  rw[show min k n=k by lia] at hs'
  have O':=S'.ok
  have hk:lo+k<a0.size:=by lia
  refine XH (Us (V4 (I:=λx c st''=>st''=st'/\∃l r,c=(none,l,r)/\l<=r/\r<=k/\r-l<=k-x /\
    (∀i,i<l->Rk rk (Xr st') (lo+i)<=Rk rk (Xr st') (lo+k))/\(∀i,r<=i->i<k->Rk rk (Xr st') (lo+k)<Rk rk (Xr st') (lo+i)))
   (Q:=λc st''=>st''=st'/\∃l r,c=(none,l,r)/\l<=k /\
    (∀i,i<l->Rk rk (Xr st') (lo+i)<=Rk rk (Xr st') (lo+k))/\(∀i,l<=i->i<k->Rk rk (Xr st') (lo+k)<Rk rk (Xr st') (lo+i))) ?istep ?ifin ?iinit) ?ipost)
  case iinit=>exact⟨rfl,0,k,rfl,by lia,by lia,by lia,λi hi=>by lia,λi h1 h2=>by lia⟩
  case ifin =>
   rintro c st'' ⟨rfl,l,r,rfl,hlr,hrk,hm,hlo,hhi⟩
   obtain rfl:l=r:=by lia
   exact⟨rfl,l,l,rfl,hrk,hlo,hhi⟩
  case istep =>
   rintro x c st'' _ hxk ⟨rfl,l,r,rfl,hlr,hrk,hm,hlo,hhi⟩
   dsimp only
   by_cases hge:l >= r
   .rw[br hge];obtain rfl:l=r:=by lia
    exact Xv ⟨rfl,l,l,rfl,hrk,hlo,hhi⟩
   .rw[bw hge];refine XH (zbZ T O' hk (by lia) ?_);by_cases hless:Rk rk (Xr st'') (lo+k)<Rk rk (Xr st'') (lo+(l+r)/2)
    .simp only[hless,decide_true,if_true];refine Xv ⟨rfl,l,(l+r)/2,rfl,by lia,by lia,by lia,hlo,λi h1 h2=>?_⟩;exact Int.lt_of_lt_of_le hless (hs' _ _ (by lia) (by lia) (by lia))
    .simp only[hless,decide_false,Ww,if_false];refine Xv ⟨rfl,(l+r)/2+1,r,rfl,by lia,by lia,by lia,λi h1=>?_,hhi⟩;exact Vx (hs' (lo+i) (lo+(l+r)/2) (by lia) (by lia) (by lia)) (OP.mp hless)
  case ipost =>
   rintro c st'' ⟨rfl,l,r,rfl,hlk,hlo,hhi⟩
   show wpS _ _ _ _ (do moveDown' (lo+k) (lo+l);pure (V2 (none,()))) _ _
   rw[moveDown'_eq]
   have hks:lo+k<(Xr st'').size:=by
    rw[O'.size];exact hk
   refine XH (To (Xv ⟨rfl,⟨⟨(bubble_perm _ _ _).trans O'.perm,O'.kind,O'.good⟩,S'.pend,λi hi=>?_⟩,?_⟩))
   .show (bubble (Xr st'') (lo+k) (lo+k-(lo+l)))[i]?=_;rw[getElem?_bubble hks _ (by lia),bw (by lia),bw (by lia)];exact S'.low i hi
   .rw[show min (k+1) n=k+1 by lia];intro i j hi hij hj;show Rk rk (bubble (Xr st'') (lo+k) (lo+k-(lo+l))) i<=Rk rk (bubble (Xr st'') (lo+k) (lo+k-(lo+l))) j;rw[zdv hks (by lia),zdv hks (by lia),show lo+k-(lo+k-(lo+l))=lo+l by lia];have up:∀a b,lo<=a->a<=b->b<lo+k->Rk rk (Xr st'') a<=Rk rk (Xr st'') b:=hs';have low:∀a,lo<=a->a<lo+l->Rk rk (Xr st'') a<=Rk rk (Xr st'') (lo+k):=λa a1 a2=>by
     have:=hlo (a-lo) (by lia);rwa [show lo+(a-lo)=a by lia] at this
    have high:∀a,lo+l<=a->a<lo+k->Rk rk (Xr st'') (lo+k)<Rk rk (Xr st'') a:=λa a1 a2=>by
     have:=hhi (a-lo) (by lia) (by lia);rwa [show lo+(a-lo)=a by lia] at this
    repeat' split
    all_goals first
     | (exfalso;lia)
     | exact U3 _
     | exact low _ (by lia) (by lia)
     | exact V3 (high _ (by lia) (by lia))
     | exact up _ _ (by lia) (by lia) (by lia)
end
end GS
namespace GS
def gallop':Bool->Xb->Array Xb->Nat->Nat->Nat->StateT WQ Sem (Option Nat):=sortPriv% PySem.Builtin.gallop
def mergeLo':Array Xb->Array Xb->StateT WQ Sem (Array Xb):=sortPriv% PySem.Builtin.mergeLo
def mergeHi':Array Xb->Array Xb->StateT WQ Sem (Array Xb):=sortPriv% PySem.Builtin.mergeHi
section
variable {prog:Xm}{w:WZ}{A:WR}{E:X8->X7->Prop}{s:X7}{rk:Xb->Int}{κ:T2}{a0:Array Xb}
def bey (rk:Xb->Int)(left:Bool)(key x:Xb):Bool:=if left then decide (rk x<rk key) else !decide (rk key<rk x)
def zfr {st:WQ}{left:Bool}{key:Xb}{arr:Array Xb}{base n hint:Nat}{Q:Option Nat->WQ->Prop}(T:Tells prog w A s κ rk a0)(hk:kindOf st=κ)(hkey:key∈a0.toList)(b:Nat->Bool)
  (he:∀i,i<n->∃x,arr[base+i]?=some x/\x∈a0.toList/\b i=bey rk left key x) (mono:∀i j,i<=j->j<n->b j=true->b i=true) (hh:hint<n)
  (h:∀k,k<=n->(∀i,i<k->b i=true)->(∀i,k<=i->i<n->b i=false)->Q (some k) st):wpS (Xn prog w) A E s (gallop' left key arr base n hint) Q st:=by
 have one:∀{i:Nat} {Q':Option Bool->WQ->Prop},i<n->Q' (some (b i)) st->wpS (Xn prog w) A E s (do
   let x <- elem' arr (base+i)
   if left=true then lt' x key
    else do
     let r <- lt' key x
     pure (Option.map (λx=>!x) r)) Q' st:=by
  intro i Q' hi hq;obtain⟨x,e1,e2,e3⟩:=he i hi;refine XH (qP e1 ?_);unfold bey at e3;cases left with
  | true =>
   rw[br rfl] at e3 ⊢;rw[e3] at hq;exact zks T hk e2 hkey hq
  | false =>
   rw[bw XT] at e3 ⊢;rw[e3] at hq;exact XH (zks T hk hkey e2 (Xv hq))
 have last:∀{f:Nat->Option (Option Nat)×AA->StateT WQ Sem (ForInStep (Option (Option Nat)×AA))} {g:Option (Option Nat)×AA->StateT WQ Sem (Option Nat)},
   (∀x l r (R:ForInStep (Option (Option Nat)×AA)->WQ->Prop),l >= r->R (.done (none,l,r)) st->wpS (Xn prog w) A E s (f x (none,l,r)) R st) ->
   (∀x l r (R:ForInStep (Option (Option Nat)×AA)->WQ->Prop),l<r->r<=n->R (.yield (if b (l+(r-l)/2)=true then (none,l+(r-l)/2+1,r) else (none,l,l+(r-l)/2))) st->wpS (Xn prog w) A E s (f x (none,l,r)) R st) ->
   (∀l r,Q (some r) st->wpS (Xn prog w) A E s (g (none,l,r)) Q st) ->
   ∀(lo hi:Nat),lo<=hi->hi<=n->(∀i,i<lo->b i=true)->(∀i,hi<=i->i<n->b i=false)->wpS (Xn prog w) A E s (forIn [:n] ((none,lo,hi):Option (Option Nat)×AA) f >>= g) Q st:=by
  intro f g f1 f2 g1 lo hi h1 h2 h3 h4;refine XH (Us (V4 (I:=λx c st'=>st'=st/\∃l r,c=(none,l,r)/\l<=r/\r<=n/\r-l<=n-x/\(∀i,i<l->b i=true)/\(∀i,r<=i->i<n->b i=false))
   (Q:=λc st'=>st'=st/\∃l,c=(none,l,l)/\l<=n/\(∀i,i<l->b i=true)/\(∀i,l<=i->i<n->b i=false)) ?step ?fin ⟨rfl,lo,hi,rfl,h1,h2,by lia,h3,h4⟩) ?post)
  case fin =>
   rintro c st' ⟨rfl,l,r,rfl,a1,a2,a3,a4,a5⟩
   obtain rfl:l=r:=by lia
   exact⟨rfl,l,rfl,a2,a4,a5⟩
  case post =>
   rintro c st' ⟨rfl,l,rfl,a2,a4,a5⟩
   exact g1 l l (h l a2 a4 a5)
  case step =>
   rintro x c st' _ hx ⟨rfl,l,r,rfl,a1,a2,a3,a4,a5⟩
   by_cases hge:l >= r
   .obtain rfl:l=r:=by lia
    exact f1 x l l _ hge ⟨rfl,l,rfl,a2,a4,a5⟩
   .refine f2 x l r _ (by lia) a2 ?_;cases hb:b (l+(r-l)/2) with
    | true =>
     rw[br rfl];exact⟨rfl,l+(r-l)/2+1,r,rfl,by lia,a2,by lia,λi hi=>mono i _ (by lia) (by lia) hb,a5⟩
    | false =>
     rw[bw XT];refine⟨rfl,l,l+(r-l)/2,rfl,by lia,by lia,by lia,a4,λi i1 i2=>?_⟩;cases hbi:b i with
     | false=>rfl
     | true =>
      have:=mono _ i i1 i2 hbi;rw[hb] at this;cases this
 refine XH (one hh ?_);dsimp only;cases hb:b hint with
 | true =>
  rw[br rfl];refine XH (Us (V4 (I:=λx c st'=>st'=st/\∃l o,c=(none,l,o)/\l<o/\hint+l<n/\b (hint+l)=true/\x+1<=o)
   (Q:=λc st'=>st'=st/\∃l o,c=(none,l,o)/\l<o/\hint+l<n/\b (hint+l)=true/\(o >= n-hint\/(hint+o<n/\b (hint+o)=false))) ?step ?fin ⟨rfl,0,1,rfl,by lia,hh,hb,by lia⟩) ?post)
  case fin =>
   rintro c st' ⟨rfl,l,o,rfl,a1,a2,a3,a4⟩
   exact⟨rfl,l,o,rfl,a1,a2,a3,.inl (by lia)⟩
  case step =>
   rintro x c st' _ hx ⟨rfl,l,o,rfl,a1,a2,a3,a4⟩
   dsimp only
   by_cases hge:o >= n-hint
   .rw[br hge];exact Xv ⟨rfl,l,o,rfl,a1,a2,a3,.inl hge⟩
   .rw[bw hge];refine XH (one (by lia) ?_);dsimp only;cases hbo:b (hint+o) with
    | false =>
     rw[br (by decide)];exact Xv ⟨rfl,l,o,rfl,a1,a2,a3,.inr ⟨by lia,hbo⟩⟩
    | true =>
     rw[bw (by decide)];exact Xv ⟨rfl,o,2*o+1,rfl,by lia,by lia,hbo,by lia⟩
  case post =>
   rintro c st' ⟨rfl,l,o,rfl,a1,a2,a3,a4⟩
   refine last (λx l r R hge hR=>?_) (λx l r R hlt hr hR=>?_) (λl r hq=>Xv hq) (hint+l+1) (hint+min o (n-hint)) (by lia) (by lia) (λi hi=>mono i (hint+l) (by lia) a2 a3) λi i1 i2=>?_
   .dsimp only;rw[br hge];exact Xv hR
   .dsimp only;rw[bw (by lia)];refine XH (one (by lia) ?_);dsimp only;cases hbm:b (l+(r-l)/2) with
    | true =>
     rw[hbm,br rfl] at hR;rw[br rfl];exact Xv hR
    | false =>
     rw[hbm,bw XT] at hR;rw[bw XT];exact Xv hR
   .rcases a4 with a4 | ⟨a4,a5⟩
    .lia
    .cases hbi:b i with
     | false=>rfl
     | true =>
      have:=mono _ i (show hint+o<=i by lia) i2 hbi;rw[a5] at this;cases this
 | false =>
  rw[bw XT];refine XH (Us (V4 (I:=λx c st'=>st'=st/\∃l o,c=(none,l,o)/\l<o/\l<=hint/\b (hint-l)=false/\x+1<=o)
   (Q:=λc st'=>st'=st/\∃l o,c=(none,l,o)/\l<o/\l<=hint/\b (hint-l)=false/\(o >= hint+1\/(o<=hint/\b (hint-o)=true))) ?step ?fin ⟨rfl,0,1,rfl,by lia,by lia,hb,by lia⟩) ?post)
  case fin =>
   rintro c st' ⟨rfl,l,o,rfl,a1,a2,a3,a4⟩
   exact⟨rfl,l,o,rfl,a1,a2,a3,.inl (by lia)⟩
  case step =>
   rintro x c st' _ hx ⟨rfl,l,o,rfl,a1,a2,a3,a4⟩
   dsimp only
   by_cases hge:o >= hint+1
   .rw[br hge];exact Xv ⟨rfl,l,o,rfl,a1,a2,a3,.inl hge⟩
   .rw[bw hge];refine XH (one (by lia) ?_);dsimp only;cases hbo:b (hint-o) with
    | true =>
     rw[br rfl];exact Xv ⟨rfl,l,o,rfl,a1,a2,a3,.inr ⟨by lia,hbo⟩⟩
    | false =>
     rw[bw (by decide)];exact Xv ⟨rfl,o,2*o+1,rfl,by lia,by lia,hbo,by lia⟩
  case post =>
   rintro c st' ⟨rfl,l,o,rfl,a1,a2,a3,a4⟩
   refine last (λx l r R hge hR=>?_) (λx l r R hlt hr hR=>?_) (λl r hq=>Xv hq) (hint+1-min o (hint+1)) (hint-l) (by lia) (by lia) (λi hi=>?_) λi i1 i2=>?_
   .dsimp only;rw[br hge];exact Xv hR
   .dsimp only;rw[bw (by lia)];refine XH (one (by lia) ?_);dsimp only;cases hbm:b (l+(r-l)/2) with
    | true =>
     rw[hbm,br rfl] at hR;rw[br rfl];exact Xv hR
    | false =>
     rw[hbm,bw XT] at hR;rw[bw XT];exact Xv hR
   .rcases a4 with a4 | ⟨a4,a5⟩
    .lia
    .exact mono i (hint-o) (by lia) (by lia) a5
   .cases hbi:b i with
    | false=>rfl
    | true =>
     have:=mono _ i i1 i2 hbi;rw[a3] at this;cases this
end
end GS
namespace GS
structure MI (rk:Xb->Int)(aL bL:List Xb)(ia ib:Nat)(oL:List Xb):Prop where
 perm:oL.Perm (aL.take ia++bL.take ib)
 srt:oL.Pairwise λx y=>rk x<=rk y
 la:∀x∈oL,∀y∈aL.drop ia,rk x<=rk y
 lb:∀x∈oL,∀y∈bL.drop ib,rk x<=rk y
section
variable {rk:Xb->Int}{aL bL oL:List Xb}{ia ib:Nat}
def MI.swap (M:MI rk aL bL ia ib oL):MI rk bL aL ib ia oL:=⟨M.perm.trans SR,M.srt,M.lb,M.la⟩
def zi1 (l:List Xb)(i k:Nat):l.take (i+k)=l.take i++(l.drop i).take k:=by
 rw[List.take_add]
def MI.takeA (M:MI rk aL bL ia ib oL)(sa:aL.Pairwise λx y=>rk x<=rk y)(k:Nat)(h:∀x∈(aL.drop ia).take k,∀y∈bL.drop ib,rk x<=rk y):MI rk aL bL (ia+k) ib (oL++(aL.drop ia).take k):=by
 have sd:(aL.drop ia).Pairwise λx y=>rk x<=rk y:=sa.sublist (RK _ _);have e2:(aL.drop ia).drop k=aL.drop (ia+k):=Pl;refine⟨?_,?_,λx hx y hy=>?_,λx hx y hy=>?_⟩
 .rw[zi1,W3];refine(M.perm.append_right _).trans ?_;rw[W3];exact SS _ SR
 .rw[TV];exact⟨M.srt,sd.sublist (S6 _ _),λx hx y hy=>M.la x hx y (V6 hy)⟩
 .rw[<- e2] at hy;rcases XQ.mp hx with hx | hx
  .exact M.la x hx y (Ph hy)
  .have:=sd;rw[<- W4 k (aL.drop ia),TV] at this;exact this.2.2 x hx y hy
 .rcases XQ.mp hx with hx | hx
  .exact M.lb x hx y hy
  .exact h x hx y hy
def MI.takeB (M:MI rk aL bL ia ib oL)(sb:bL.Pairwise λx y=>rk x<=rk y)(k:Nat)(h:∀x∈(bL.drop ib).take k,∀y∈aL.drop ia,rk x<=rk y):MI rk aL bL ia (ib+k) (oL++(bL.drop ib).take k):=(M.swap.takeA sb k h).swap
def Mg (rk:Xb->Int)(aL bL oL:List Xb):Prop:=oL.Perm (aL++bL)/\oL.Pairwise λx y=>rk x<=rk y
def MI.all (M:MI rk aL bL ia ib oL)(ha:aL.length<=ia)(hb:bL.length<=ib):Mg rk aL bL oL:=by
 have:=M.perm;rw[Wm ha,Wm hb] at this;exact⟨this,M.srt⟩
def MI.doneB (M:MI rk aL bL ia ib oL)(sa:aL.Pairwise λx y=>rk x<=rk y)(hb:bL.length<=ib):Mg rk aL bL (oL++aL.drop ia):=by
 have:=M.takeA sa (aL.drop ia).length (λx _ y hy=>by
  rw[SX hb] at hy;cases hy)
 rw[Xz] at this;exact this.all (by rw[U2];lia) hb
def MI.lastA (M:MI rk aL bL ia ib oL)(sa:aL.Pairwise λx y=>rk x<=rk y)(sb:bL.Pairwise λx y=>rk x<=rk y)(h:∀x∈bL,∀y∈aL.drop ia,rk x<=rk y):Mg rk aL bL (oL++bL.drop ib++aL.drop ia):=by
 have M2:=M.takeB sb (bL.drop ib).length (λx hx y hy=>h x (Ph (V6 hx)) y hy);rw[Xz] at M2;exact M2.doneB sa (by rw[U2];lia)
def ext_toList (a:Array Xb)(i j:Nat)(hj:i<=j):(a.extract i j).toList=(a.toList.drop i).take (j-i):=by
 rw[Pg,RQ]
def QU (a:Array Xb)(i:Nat):(a.extract i a.size).toList=a.toList.drop i:=by
 rw[Pg,RQ,Wm];rw[U2,X4];exact XV _
def zkv {a:Array Xb}{i:Nat}{x:Xb}(h:a[i]?=some x):(a.toList.drop i).take 1=[x]:=by
 have hi:i<a.toList.length:=by
  rw[X4];exact(V9.mp h).1
 rw[WP hi,Uw,List.take_zero];have:a.toList[i]?=some x:=by rw[XB];exact h
 rw[XX hi] at this;rw[Option.some.inj this]
end
section
variable {prog:Xm}{w:WZ}{A:WR}{E:X8->X7->Prop}{s:X7}{rk:Xb->Int}{κ:T2}{a0:Array Xb}
structure Kept (st st':WQ):Prop where
 arr:Xr st'=Xr st
 kind:kindOf st'=kindOf st
 pend:WO st'=WO st
 bad:Td st'=Td st
def setG':Nat->StateT WQ Sem Unit:=sortPriv% PySem.Builtin.setMinGallop
def Kept.refl (st:WQ):Kept st st:=⟨rfl,rfl,rfl,rfl⟩
def zem {st0 st:WQ}{g:Nat}{Q:Unit->WQ->Prop}(k:Kept st0 st)(h:∀st',Kept st0 st'->Q () st'):wpS (Xn prog w) A E s (setG' g) Q st:=by
 have e:setG' g=modify λc=>SortSt.mk' (kindOf c) (Xr c) (WO c) g (Td c):=rfl;rw[e];exact To (h _ ⟨k.arr,k.kind,k.pend,k.bad⟩)
def qv {α:Type}{c:Prop} [Decidable c]{x y:StateT WQ Sem α}{Q:α->WQ->Prop}{st:WQ}(h1:c->wpS (Xn prog w) A E s x Q st)(h2:¬ c->wpS (Xn prog w) A E s y Q st):wpS (Xn prog w) A E s (if c then x else y) Q st:=by
 by_cases hc:c
 .rw[br hc];exact h1 hc
 .rw[bw hc];exact h2 hc
def jc {a:Array Xb}{i:Nat}(h:i<a.size):∃x,a[i]?=some x/\x∈a.toList:=⟨a[i],getElem?_pos a i h,by simp⟩
def JH {a:Array Xb}(sa:a.toList.Pairwise λx y=>rk x<=rk y){i:Nat}{x:Xb}(e:a[i]?=some x):∀y∈a.toList.drop i,rk x<=rk y:=by
 have hi:i<a.toList.length:=by
  rw[X4];exact(V9.mp e).1
 have e':a.toList[i]?=some x:=by rw[XB];exact e
 rw[XX hi] at e';have ex:=Option.some.inj e';have sd:=sa.sublist (RK i a.toList);rw[WP hi,ex,RZ] at sd;rw[WP hi,ex];intro y hy;rcases XG.mp hy with rfl | hy
 .exact U3 _
 .exact sd.1 y hy
def Z8 {a b out:Array Xb}{ia ib:Nat}(M:MI rk a.toList b.toList ia ib out.toList)(sa:a.toList.Pairwise λx y=>rk x<=rk y)(hb:b.size<=ib):Mg rk a.toList b.toList (out++a.extract ia a.size++b.extract ib b.size).toList:=by
 rw[WC,WC,QU,QU,SX (as:=b.toList) (by rw[X4];exact hb),Xd];exact M.doneB sa (by rw[X4];exact hb)
def Z9 {a b out:Array Xb}{ia ib:Nat}(M:MI rk a.toList b.toList ia ib out.toList)(sa:a.toList.Pairwise λx y=>rk x<=rk y)(sb:b.toList.Pairwise λx y=>rk x<=rk y)(hl:∀x∈b.toList,∀y,a[a.size-1]?=some y->rk x<=rk y)(ha:ia+1=a.size):Mg rk a.toList b.toList (out++b.extract ib b.size++a.extract ia a.size).toList:=by
 rw[WC,WC,QU,QU];refine M.lastA sa sb λx hx y hy=>?_;have hi:ia<a.toList.length:=by rw[X4];lia
 rw[WP hi,SX (by rw[X4];lia)] at hy;have ey:y=a.toList[ia]:=by simpa using hy
 refine hl x hx y ?_;rw[show a.size-1=ia by lia,<- XB,XX hi,ey]
def zi2 (out:Array Xb)(x:Xb):(out.push x).toList=out.toList++[x]:=S1 ..
def MI.oneB {a b out:Array Xb}{ia ib:Nat}{x:Xb}(M:MI rk a.toList b.toList ia ib out.toList)(sb:b.toList.Pairwise λx y=>rk x<=rk y)(e:b[ib]?=some x)(h:∀y∈a.toList.drop ia,rk x<=rk y):MI rk a.toList b.toList ia (ib+1) (out.push x).toList:=by
 rw[zi2,<- zkv e];refine M.takeB sb 1 λz hz y hy=>?_;rw[zkv e] at hz;have ez:z=x:=by simpa using hz
 rw[ez];exact h y hy
def MI.oneA {a b out:Array Xb}{ia ib:Nat}{x:Xb}(M:MI rk a.toList b.toList ia ib out.toList)(sa:a.toList.Pairwise λx y=>rk x<=rk y)(e:a[ia]?=some x)(h:∀y∈b.toList.drop ib,rk x<=rk y):MI rk a.toList b.toList (ia+1) ib (out.push x).toList:=(MI.oneB M.swap sa e h).swap
def MI.someA {a b out:Array Xb}{ia ib k:Nat}{y:Xb}(M:MI rk a.toList b.toList ia ib out.toList)(sa:a.toList.Pairwise λx y=>rk x<=rk y)(sb:b.toList.Pairwise λx y=>rk x<=rk y)(e:b[ib]?=some y)(h:∀i x,i<k->a[ia+i]?=some x->rk x<=rk y):MI rk a.toList b.toList (ia+k) ib (out++a.extract ia (ia+k)).toList:=by
 rw[WC,ext_toList _ _ _ (U0 _ _),Rc];refine M.takeA sa k λx hx z hz=>Vx ?_ (JH sb e z hz);obtain⟨i,hi,ex⟩:=TD hx;have hik:i<k:=by
  rw[XF] at hi;lia
 refine h i x hik ?_;have:((a.toList.drop ia).take k)[i]?=some x:=by rw[XX hi,ex]
 rw[List.getElem?_take,br hik,Tl,XB] at this;exact this
def MI.someB {a b out:Array Xb}{ia ib k:Nat}{y:Xb}(M:MI rk a.toList b.toList ia ib out.toList)(sa:a.toList.Pairwise λx y=>rk x<=rk y)(sb:b.toList.Pairwise λx y=>rk x<=rk y)(e:a[ia]?=some y)(h:∀i x,i<k->b[ib+i]?=some x->rk x<=rk y):MI rk a.toList b.toList ia (ib+k) (out++b.extract ib (ib+k)).toList:=(MI.someA M.swap sb sa e h).swap
end
end GS
namespace GS
section
variable {prog:Xm}{w:WZ}{A:WR}{E:X8->X7->Prop}{s:X7}{rk:Xb->Int}{κ:T2}{a0:Array Xb}
def zap {st:WQ}{key:Xb}{a:Array Xb}{base n hint:Nat}{Q:Option Nat->WQ->Prop}(T:Tells prog w A s κ rk a0)(hk:kindOf st=κ)(hkey:key∈a0.toList)(ma:∀x∈a.toList,x∈a0.toList)(up:∀i j x y,base<=i->i<=j->j<base+n->a[i]?=some x->a[j]?=some y->rk x<=rk y)(hn:base+n<=a.size)(hh:hint<n)
  (h:∀k,k<=n->(∀i x,i<k->a[base+i]?=some x->rk x<=rk key)->(∀i x,k<=i->i<n->a[base+i]?=some x->rk key<rk x)->Q (some k) st):wpS (Xn prog w) A E s (gallop' false key a base n hint) Q st:=by
 have he:∀i,i<n->∃x,a[base+i]?=some x/\x∈a.toList:=λi hi=>jc (by lia);refine zfr T hk hkey (λi=>match a[base+i]? with | some x=>bey rk false key x | none=>false) (λi hi=>?_) (λi j hij hj hb=>?_) hh λk hk1 h1 h2=>h k hk1 (λi x hi e=>?_) λi x hi1 hi2 e=>?_
 .obtain⟨x,e,m⟩:=he i hi;refine⟨x,e,ma x m,?_⟩;try dsimp only
  rw[e]
 .obtain⟨x,ex,_⟩:=he i (by lia);obtain⟨y,ey,_⟩:=he j hj;try dsimp only at hb ⊢
  rw[ey] at hb;rw[ex];have:=up (base+i) (base+j) x y (by lia) (by lia) (by lia) ex ey;unfold bey at hb ⊢;simp only[Ww,if_false,WJ,decide_eq_false_iff_not] at hb ⊢;lia
 .have:=h1 i hi;try dsimp only at this
  rw[e] at this;unfold bey at this;simp only[Ww,if_false,WJ,decide_eq_false_iff_not] at this;lia
 .have:=h2 i hi1 hi2;try dsimp only at this
  rw[e] at this;unfold bey at this;simp only[Ww,if_false,Bool.not_eq_false',bf] at this;exact this
def zaq {st:WQ}{key:Xb}{a:Array Xb}{base n hint:Nat}{Q:Option Nat->WQ->Prop}(T:Tells prog w A s κ rk a0)(hk:kindOf st=κ)(hkey:key∈a0.toList)(ma:∀x∈a.toList,x∈a0.toList)(up:∀i j x y,base<=i->i<=j->j<base+n->a[i]?=some x->a[j]?=some y->rk x<=rk y)(hn:base+n<=a.size)(hh:hint<n)
  (h:∀k,k<=n->(∀i x,i<k->a[base+i]?=some x->rk x<rk key)->(∀i x,k<=i->i<n->a[base+i]?=some x->rk key<=rk x)->Q (some k) st):wpS (Xn prog w) A E s (gallop' true key a base n hint) Q st:=by
 have he:∀i,i<n->∃x,a[base+i]?=some x/\x∈a.toList:=λi hi=>jc (by lia);refine zfr T hk hkey (λi=>match a[base+i]? with | some x=>bey rk true key x | none=>false) (λi hi=>?_) (λi j hij hj hb=>?_) hh λk hk1 h1 h2=>h k hk1 (λi x hi e=>?_) λi x hi1 hi2 e=>?_
 .obtain⟨x,e,m⟩:=he i hi;refine⟨x,e,ma x m,?_⟩;try dsimp only
  rw[e]
 .obtain⟨x,ex,_⟩:=he i (by lia);obtain⟨y,ey,_⟩:=he j hj;try dsimp only at hb ⊢
  rw[ey] at hb;rw[ex];have:=up (base+i) (base+j) x y (by lia) (by lia) (by lia) ex ey;unfold bey at hb ⊢;simp only[if_true,bf] at hb ⊢;lia
 .have:=h1 i hi;try dsimp only at this
  rw[e] at this;unfold bey at this;simp only[if_true,bf] at this;exact this
 .have:=h2 i hi1 hi2;try dsimp only at this
  rw[e] at this;unfold bey at this;simp only[if_true,decide_eq_false_iff_not] at this;lia
def jO {a:Array Xb}(sa:a.toList.Pairwise λx y=>rk x<=rk y){i j:Nat}{x y:Xb}(hij:i<=j)(ex:a[i]?=some x)(ey:a[j]?=some y):rk x<=rk y:=by
 refine JH sa ex y ?_;have hj:j<a.toList.length:=by
  rw[X4];exact(V9.mp ey).1
 refine X6 (i:=j-i) ?_;rw[Tl,XB,show i+(j-i)=j by lia];exact ey
set_option maxHeartbeats 8000000 in
theorem via {P:Prop}(h:∀G:Prop,(P->G)->G):P:=h P id
structure Key (P:Prop):Prop where
 get:P
def cut {P R:Prop}(k:P)(h:Key P->R):R:=h ⟨k⟩
def zi3 {st0:WQ}{a b:Array Xb}{Q:Array Xb->WQ->Prop}(T:Tells prog w A s κ rk a0)(hk:kindOf st0=κ)(ma:∀x∈a.toList,x∈a0.toList)(mb:∀x∈b.toList,x∈a0.toList)(sa:a.toList.Pairwise λx y=>rk x<=rk y)(sb:b.toList.Pairwise λx y=>rk x<=rk y)
  (ha:0<a.size) (hb:0<b.size) (h0:∀x y,b[0]?=some x->y∈a.toList->rk x<=rk y) (hl':∀x∈b.toList,∀y,a[a.size-1]?=some y->rk x<rk y)
  (h:∀out st',Kept st0 st'->Mg rk a.toList b.toList out.toList->Q out st'):wpS (Xn prog w) A E s (mergeLo' a b) Q st0:=by
 have hl:∀x∈b.toList,∀y,a[a.size-1]?=some y->rk x<=rk y:=λx hx y hy=>V3 (hl' x hx y hy);refine XH (Rx (UW ⟨rfl,?_⟩));obtain⟨b0,eb0,_⟩:=jc hb;refine XH (qP eb0 ?_);have M0:MI rk a.toList b.toList 0 0 (#[]:Array Xb).toList:=⟨by simp,List.Pairwise.nil,(λx hx=>nomatch hx),(λx hx=>nomatch hx)⟩;have M1:MI rk a.toList b.toList 0 1 (#[b0]:Array Xb).toList:=MI.oneB M0 sb eb0 λy hy=>h0 b0 y eb0 (by simpa using hy);dsimp -zeta only;refine qv (λhc=>Xv (h _ _ (Kept.refl _) (Z8 M1 sa (by rw[show 1=b.size by simpa using hc];exact XV _)))) λhc=>?_;refine qv (λhc2=>Xv (h _ _ (Kept.refl _) (Z9 M1 sa sb hl (by simpa using hc2)))) λhc2=>?_;have hb2:1<b.size:=by
  have:¬ 1=b.size:=by simpa using hc
  lia
 have ha2:0+1<a.size:=by
  have:¬ 0+1=a.size:=by simpa using hc2
  lia
 refine XH (SH ?_);refine XH (Us (V4 (I:=λx c st'=>∃out ia ib mg,c=(none,out,ia,ib,mg)/\MI rk a.toList b.toList ia ib out.toList/\ia+1<a.size/\ib<b.size/\x+1<=ia+ib/\Kept st0 st')
  (Q:=λc st'=>∃res,c.1=some res/\Mg rk a.toList b.toList res.toList/\Kept st0 st') ?step ?fin ⟨_,0,1,_,rfl,M1,ha2,hb2,by lia,Kept.refl _⟩) ?post)
 case fin =>
  rintro c st' ⟨out,ia,ib,mg,rfl,M,h1,h2,h3,k⟩
  lia
 case post =>
  rintro⟨c1,c2⟩ st' ⟨res,e,hM,k⟩
  dsimp only at e ⊢
  subst e
  exact Xv (h _ _ k hM)
 case step =>
  intro x0 c st1 _ hx0 hI
  refine via λG hG=>?_
  obtain⟨out,ia,ib,mg,rfl,M,h1,h2,h3,k1⟩:=hI
  refine hG ?_
  clear hG
  have hk1:kindOf st1=κ:=k1.kind.trans hk
  dsimp -zeta only
  refine XH (Us (V4 (I:=λx c st'=>st'=st1/\∃out ia ib ac bc,c=(none,out,ia,ib,ac,bc)/\MI rk a.toList b.toList ia ib out.toList/\ia+1<a.size/\ib<b.size/\x0+1+x<=ia+ib)
   (Q:=λc st'=>st'=st1/\((∃res,c.1=some res/\Mg rk a.toList b.toList res.toList)\/∃out ia ib ac bc,c=(none,out,ia,ib,ac,bc)/\MI rk a.toList b.toList ia ib out.toList/\ia+1<a.size/\ib<b.size/\x0+2<=ia+ib)) ?step1 ?fin1 ⟨rfl,_,_,_,_,_,rfl,M,h1,h2,by lia⟩) ?post1)
  case fin1 =>
   rintro c st' ⟨rfl,out,ia,ib,ac,bc,rfl,M,h1,h2,h3⟩
   exact⟨rfl,.inr ⟨out,ia,ib,ac,bc,rfl,M,h1,h2,by lia⟩⟩
  case step1 =>
   intro x c st' _ hx hI
   refine via λG hG=>?_
   obtain⟨rfl,out,ia,ib,ac,bc,rfl,M,h1,h2,h3⟩:=hI
   obtain⟨y,ey,my⟩:=jc h2
   obtain⟨z,ez,mz⟩:=jc (a:=a) (i:=ia) (by lia)
   refine hG ?_
   clear hG
   dsimp -zeta only
   refine XH (qP ey (XH (qP ez (XH (zks T hk1 (mb y my) (ma z mz) ?_)))))
   dsimp -zeta only
   refine qv (λhlt=>?_) λhlt=>?_
   .have hlt':rk y<rk z:=bh hlt;have M2:=MI.oneB M sb ey λv hv=>Vx (V3 hlt') (JH sa ez v hv);refine XH (qP ey ?_);refine qv (λhe=>Xv ⟨rfl,.inl ⟨_,rfl,Z8 M2 sa (by rw[show ib+1=b.size by simpa using he];exact XV _)⟩⟩) λhe=>?_;have hb3:ib+1<b.size:=by
     have:¬ ib+1=b.size:=by simpa using he
     lia
    exact qv (λ_=>Xv ⟨rfl,.inr ⟨_,_,_,_,_,rfl,M2,h1,hb3,by lia⟩⟩) λ_=>Xv ⟨rfl,_,_,_,_,_,rfl,M2,h1,hb3,by lia⟩
   .have hlt':¬ rk y<rk z:=λq=>hlt (bu q);have M2:=MI.oneA M sa ez λv hv=>Vx (OP.mp hlt') (JH sb ey v hv);refine XH (qP ez ?_);refine qv (λhe=>Xv ⟨rfl,.inl ⟨_,rfl,Z9 M2 sa sb hl (by simpa using he)⟩⟩) λhe=>?_;have ha3:ia+1+1<a.size:=by
     have:¬ ia+1+1=a.size:=by simpa using he
     lia
    exact qv (λ_=>Xv ⟨rfl,.inr ⟨_,_,_,_,_,rfl,M2,ha3,h2,by lia⟩⟩) λ_=>Xv ⟨rfl,_,_,_,_,_,rfl,M2,ha3,h2,by lia⟩
  case post1 =>
   intro c st' hI
   refine via λG hG=>?_
   rcases hI with ⟨rfl,hc1 | ⟨out,ia,ib,ac,bc,rfl,M,h1,h2,h3⟩⟩
   all_goals (refine hG ?_;clear hG)
   .obtain⟨res,e,hM⟩:=hc1;obtain⟨c1,c2⟩:=c;dsimp only at e ⊢;subst e;exact Xv ⟨res,rfl,hM,k1⟩
   dsimp -zeta only
   refine XH (Rx (UW ⟨rfl,?_⟩))
   refine XH (Us (V4 (I:=λx c st2=>∃out ia ib mg ac bc,c=(none,out,ia,ib,mg,ac,bc)/\MI rk a.toList b.toList ia ib out.toList/\ia+1<a.size/\ib<b.size/\x0+2<=ia+ib/\Kept st0 st2)
    (Q:=λc st2=>(∃res,c.1=some res/\Mg rk a.toList b.toList res.toList/\Kept st0 st2)\/∃out ia ib mg ac bc,c=(none,out,ia,ib,mg,ac,bc)/\MI rk a.toList b.toList ia ib out.toList/\ia+1<a.size/\ib<b.size/\x0+2<=ia+ib/\Kept st0 st2) ?step2 ?fin2 ⟨_,_,_,_,_,_,rfl,M,h1,h2,h3,k1⟩) ?post2)
   case fin2 =>
    rintro c st2 hc
    exact .inr hc
   case post2 =>
    rintro c st2 (⟨res,e,hM,k2⟩ | ⟨out,ia,ib,mg,ac,bc,rfl,M,h1,h2,h3,k2⟩)
    .obtain⟨c1,c2⟩:=c;dsimp only at e ⊢;subst e;exact Xv ⟨res,rfl,hM,k2⟩
    .dsimp -zeta only;exact XH (zem k2 λst3 k3=>Xv ⟨_,_,_,_,rfl,M,h1,h2,by lia,k3⟩)
   case step2 =>
    intro x c st2 _ hx hI
    refine via λG hG=>?_
    obtain⟨out,ia,ib,mg,ac,bc,rfl,M,h1,h2,h3,k2⟩:=hI
    obtain⟨y,ey,my⟩:=jc h2
    refine hG ?_
    clear hG
    dsimp -zeta only
    refine' cut ?key1 λkey=>qv (λhmg=>?a1) λhmg=>?b1
    case a1 =>
     generalize mg-1=mg1
     revert mg1
     exact key.get
    case b1=>exact key.get mg
    intro mg1
    dsimp -zeta only
    refine XH (zem k2 λst3 k3=>?_)
    have hk3:kindOf st3=κ:=k3.kind.trans hk
    refine XH (qP ey (XH (zap T hk3 (mb y my) ma (λi j u v _ hij _ eu ev=>jO sa hij eu ev) (by lia) (by lia) λk hk4 g1 g2=>?_)))
    dsimp -zeta only
    refine' cut ?key2 λkey=>qv (λhk0=>?a2) λhk0=>?b2
    case a2 =>
     have M2:=MI.someA M sa sb ey g1
     refine qv (λhe=>Xv (.inl ⟨_,rfl,Z9 M2 sa sb hl (by simpa using he),k3⟩)) λhe=>?_
     have ne1:¬ ia+k+1=a.size:=by simpa using he
     have kl:ia+k<a.size:=by
      refine Nat.lt_of_not_le λhge=>?_;obtain⟨v,ev,mv⟩:=jc (a:=a) (i:=a.size-1) (by lia);have q1:=g1 (a.size-1-ia) v (by lia) (by rw[show ia+(a.size-1-ia)=a.size-1 by lia];exact ev);have q2:=hl' y my v ev;lia
     refine qv (λhe2=>absurd (show ia+k=a.size by simpa using he2) (by lia)) λhe2=>?_
     have h1':ia+k+1<a.size:=by lia
     have h3':x0+2<=ia+k+ib:=by lia
     have g2':∀z,a[ia+k]?=some z->rk y<=rk z:=λz ez=>V3 (g2 k z (XV _) (by lia) ez)
     generalize out++a.extract ia (ia+k)=zen at M2 ⊢
     generalize ia+k=ia1 at M2 h1' h3' g2' ⊢
     revert g2';revert h3';revert h1';revert M2;revert ia1;revert zen
     exact key.get
    case b2=>exact key.get out ia M h1 h3 λz ez=>V3 (g2 0 z (by lia) (by lia) (by simpa using ez))
    intro zen ia1 M2 h1' h3' g2'
    refine via λG hG=>?_
    obtain⟨z,ez,mz⟩:=jc (a:=a) (i:=ia1) (by lia)
    refine hG ?_
    clear hG
    have M3:=MI.oneB M2 sb ey λv hv=>Vx (g2' z ez) (JH sa ez v hv)
    refine XH (qP ey ?_)
    refine qv (λhe=>Xv (.inl ⟨_,rfl,Z8 M3 sa (by rw[show ib+1=b.size by simpa using he];exact XV _),k3⟩)) λhe=>?_
    have hb3:ib+1<b.size:=by
     have:¬ ib+1=b.size:=by simpa using he
     lia
    refine XH (qP ez (XH (zaq T hk3 (ma z mz) mb (λi j u v _ hij _ eu ev=>jO sb hij eu ev) (by lia) (by lia) λk' hk5 g3 g4=>?_)))
    dsimp -zeta only
    refine' cut ?key3 λkey=>qv (λhk0'=>?a3) λhk0'=>?b3
    case a3 =>
     have M4:=MI.someB M3 sa sb ez λi u hi eu=>V3 (g3 i u hi eu)
     refine qv (λhe=>Xv (.inl ⟨_,rfl,Z8 M4 sa (by rw[show ib+1+k'=b.size by simpa using he];exact XV _),k3⟩)) λhe=>?_
     have hb4:ib+1+k'<b.size:=by
      have:¬ ib+1+k'=b.size:=by simpa using he
      lia
     have g4':∀v,b[ib+1+k']?=some v->rk z<=rk v:=λv ev=>g4 k' v (XV _) (by lia) ev
     have h3'':x0+2<=ia1+(ib+1+k'):=by lia
     generalize zen.push y++b.extract (ib+1) (ib+1+k')=zkw at M4 ⊢
     generalize ib+1+k'=ib1 at M4 hb4 g4' h3'' ⊢
     revert h3'';revert g4';revert hb4;revert M4;revert ib1;revert zkw
     exact key.get
    case b3=>exact key.get (zen.push y) (ib+1) M3 hb3 (λv ev=>g4 0 v (by lia) (by lia) (by simpa using ev)) (by lia)
    intro zkw ib1 M4 hb4 g4' h3''
    refine via λG hG=>?_
    obtain⟨v,ev,mv⟩:=jc (a:=b) (i:=ib1) hb4
    refine hG ?_
    clear hG
    have M5:=MI.oneA M4 sa ez λu hu=>Vx (g4' v ev) (JH sb ev u hu)
    refine XH (qP ez ?_)
    refine qv (λhe=>Xv (.inl ⟨_,rfl,Z9 M5 sa sb hl (by simpa using he),k3⟩)) λhe=>?_
    have ha3:ia1+1+1<a.size:=by
     have:¬ ia1+1+1=a.size:=by simpa using he
     lia
    exact qv (λ_=>Xv (.inr ⟨_,_,_,_,_,_,rfl,M5,ha3,hb4,by lia,k3⟩)) λ_=>Xv ⟨_,_,_,_,_,_,rfl,M5,ha3,hb4,by lia,k3⟩
end
end GS
namespace GS
def neg (rk:Xb->Int):Xb->Int:=λx=>- rk x
def zbm {a:Array Xb}{j:Nat}(h:j<a.size):a.reverse[j]?=a[a.size-1-j]?:=by
 rw[PX h]
def Hi (rk:Xb->Int)(a b:Array Xb)(na nb:Nat)(out:Array Xb):Prop:=MI (neg rk) a.reverse.toList b.reverse.toList (a.size-na) (b.size-nb) out.toList
section
variable {rk:Xb->Int}{a b out:Array Xb}{na nb:Nat}
def Zt (sa:a.toList.Pairwise λx y=>rk x<=rk y):a.reverse.toList.Pairwise λx y=>neg rk x<=neg rk y:=by
 rw[Vg,PB];exact sa.imp λh=>S8 h
def zb0 {i:Nat}{x:Xb}(h1:1<=i)(h2:i<=a.size)(e:a[i-1]?=some x):a.reverse[a.size-i]?=some x:=by
 rw[zbm (by lia),show a.size-1-(a.size-i)=i-1 by lia];exact e
theorem Hi.oneA {x y:Xb}(M:Hi rk a b na nb out)(sa:a.toList.Pairwise λx y=>rk x<=rk y)(sb:b.toList.Pairwise λx y=>rk x<=rk y)(h1:1<=na)(h2:na<=a.size)(h3:1<=nb)(h4:nb<=b.size)(ex:a[na-1]?=some x)(ey:b[nb-1]?=some y)(h:rk y<=rk x):Hi rk a b (na-1) nb (out.push x):=by
 have:=MI.oneA (rk:=neg rk) M (Zt sa) (zb0 h1 h2 ex) λv hv=>Vx (S8 h) (JH (Zt sb) (zb0 h3 h4 ey) v hv);unfold Hi;rw[show a.size-(na-1)=a.size-na+1 by lia];exact this
theorem Hi.oneB {x y:Xb}(M:Hi rk a b na nb out)(sa:a.toList.Pairwise λx y=>rk x<=rk y)(sb:b.toList.Pairwise λx y=>rk x<=rk y)(h1:1<=na)(h2:na<=a.size)(h3:1<=nb)(h4:nb<=b.size)(ex:a[na-1]?=some x)(ey:b[nb-1]?=some y)(h:rk x<=rk y):Hi rk a b na (nb-1) (out.push y):=by
 have:=MI.oneB (rk:=neg rk) M (Zt sb) (zb0 h3 h4 ey) λv hv=>Vx (S8 h) (JH (Zt sa) (zb0 h1 h2 ex) v hv);unfold Hi;rw[show b.size-(nb-1)=b.size-nb+1 by lia];exact this
def zmM {i j:Nat}(h1:i<=j)(h2:j<=a.size):(a.extract i j).reverse=a.reverse.extract (a.size-j) (a.size-j+(j-i)):=by
 apply Array.ext_getElem?;intro k;by_cases hk:k<j-i
 .rw[PX (by rw[Uh];lia),SW,SW,Uh];rw[br (by lia),br (by rw[UU];lia),zbm (by lia)];congr 1;lia
 .rw[WM (by rw[UU,Uh];lia),WM (by rw[Uh,UU];lia)]
theorem Hi.someA {i:Nat}{y:Xb}(M:Hi rk a b na nb out)(sa:a.toList.Pairwise λx y=>rk x<=rk y)(sb:b.toList.Pairwise λx y=>rk x<=rk y)(h1:i<=na)(h2:na<=a.size)(h3:1<=nb)(h4:nb<=b.size)(ey:b[nb-1]?=some y)(h:∀j x,i<=j->j<na->a[j]?=some x->rk y<=rk x):Hi rk a b i nb (out++(a.extract i na).reverse):=by
 have:=MI.someA (rk:=neg rk) (k:=na-i) M (Zt sa) (Zt sb) (zb0 h3 h4 ey) λj x hj ex=>S8 (h (na-1-j) x (by lia) (by lia) (by
  rw[zbm (by lia)] at ex;rw[<- ex];congr 1;lia))
 unfold Hi;rw[zmM h1 h2,show a.size-i=a.size-na+(na-i) by lia];exact this
def Hi.someB {i:Nat}{y:Xb}(M:Hi rk a b na nb out)(sa:a.toList.Pairwise λx y=>rk x<=rk y)(sb:b.toList.Pairwise λx y=>rk x<=rk y)(h1:i<=nb)(h2:nb<=b.size)(h3:1<=na)(h4:na<=a.size)(ey:a[na-1]?=some y)(h:∀j x,i<=j->j<nb->b[j]?=some x->rk y<=rk x):Hi rk a b na i (out++(b.extract i nb).reverse):=(Hi.someA (a:=b) (b:=a) M.swap sb sa h1 h2 h3 h4 ey h).swap
def zkx {oL:List Xb}(h:Mg (neg rk) b.reverse.toList a.reverse.toList oL):Mg rk a.toList b.toList oL.reverse:=by
 obtain⟨p,q⟩:=h;rw[Vg,Vg] at p;refine⟨?_,?_⟩
 .refine(RJ _).trans (p.trans (SR.trans ?_));exact List.Perm.append (RJ _) (RJ _)
 .rw[PB];refine q.imp λ{x y} h=>?_;have h':- rk x<=- rk y:=h;lia
def zbn {i:Nat}(h:i<=a.size):(a.reverse.extract (a.size-i) a.reverse.size).toList.reverse=(a.extract 0 i).toList:=by
 rw[QU,Vg,ext_toList _ _ _ (WT _),List.drop_zero,Nat.sub_zero];have:=List.reverse_take (l:=a.toList) (i:=i);rw[X4] at this;rw[<- this,Sr]
def Hi.done (M:Hi rk a b 0 nb out)(sb:b.toList.Pairwise λx y=>rk x<=rk y)(h:nb<=b.size):Mg rk a.toList b.toList (a.extract 0 0++b.extract 0 nb++out.reverse).toList:=by
 have h1:=Z8 (rk:=neg rk) (a:=b.reverse) (b:=a.reverse) M.swap (Zt sb) (by rw[UU];lia);have h2:=zkx h1;rw[WC,WC,TB,TB,zbn h] at h2;have e0:=zbn (a:=a) (i:=0) (WT _);rw[e0] at h2;rw[WC,WC,Vg,W3];exact h2
def Hi.first (M:Hi rk a b na 1 out)(sa:a.toList.Pairwise λx y=>rk x<=rk y)(sb:b.toList.Pairwise λx y=>rk x<=rk y)(hb:0<b.size)(h:na<=a.size)(h0:∀x y,b[0]?=some x->y∈a.toList->rk x<rk y):Mg rk a.toList b.toList (b.extract 0 1++a.extract 0 na++out.reverse).toList:=by
 have h1:=Z9 (rk:=neg rk) (a:=b.reverse) (b:=a.reverse) M.swap (Zt sb) (Zt sa) (λx hx y ey=>by
  rw[UU,zbm (by lia),show b.size-1-(b.size-1)=0 by lia] at ey;have hx':x∈a.toList:=by simpa using hx
  exact S8 (V3 (h0 y x ey hx'))) (by rw[UU];lia)
 have h2:=zkx h1;rw[WC,WC,TB,TB,zbn h,zbn (by lia)] at h2;rw[WC,WC,Vg,W3];exact h2
end
section
variable {prog:Xm}{w:WZ}{A:WR}{E:X8->X7->Prop}{s:X7}{rk:Xb->Int}{κ:T2}{a0:Array Xb}
set_option maxHeartbeats 8000000 in
theorem zi4 {st0:WQ}{a b:Array Xb}{Q:Array Xb->WQ->Prop}(T:Tells prog w A s κ rk a0)(hk:kindOf st0=κ)(ma:∀x∈a.toList,x∈a0.toList)(mb:∀x∈b.toList,x∈a0.toList)(sa:a.toList.Pairwise λx y=>rk x<=rk y)(sb:b.toList.Pairwise λx y=>rk x<=rk y)
  (ha:0<a.size) (hb:0<b.size) (h0:∀x y,b[0]?=some x->y∈a.toList->rk x<rk y) (hl:∀x∈b.toList,∀y,a[a.size-1]?=some y->rk x<rk y)
  (h:∀out st',Kept st0 st'->Mg rk a.toList b.toList out.toList->Q out st'):wpS (Xn prog w) A E s (mergeHi' a b) Q st0:=by
 refine XH (Rx (UW ⟨rfl,?_⟩));obtain⟨z0,ez0,_⟩:=jc (a:=a) (i:=a.size-1) (by lia);obtain⟨y0,ey0,my0⟩:=jc (a:=b) (i:=b.size-1) (by lia);refine XH (qP ez0 ?_);have M0:Hi rk a b a.size b.size #[]:=by
  unfold Hi;rw[Tc,Tc];exact⟨by simp,List.Pairwise.nil,(λx hx=>nomatch hx),(λx hx=>nomatch hx)⟩
 have M1:Hi rk a b (a.size-1) b.size #[z0]:=M0.oneA sa sb (by lia) (XV _) (by lia) (XV _) ez0 ey0 (V3 (hl y0 my0 z0 ez0));dsimp -zeta only;refine qv (λhc=>Xv (h _ _ (Kept.refl _) ?_)) λhc=>?_
 .have e:a.size-1=0:=by simpa using hc
  rw[e] at M1 ⊢;exact M1.done sb (XV _)
 refine qv (λhc2=>Xv (h _ _ (Kept.refl _) ?_)) λhc2=>?_
 .have e:b.size=1:=by simpa using hc2
  rw[e] at M1 ⊢;exact M1.first sa sb hb (by lia) h0
 have ha2:1<=a.size-1:=by
  have:¬ a.size-1=0:=by simpa using hc
  lia
 have hb2:1<b.size:=by
  have:¬ b.size=1:=by simpa using hc2
  lia
 refine XH (SH ?_);refine XH (Us (V4 (I:=λx c st'=>∃na nb out mg,c=(none,na,nb,out,mg)/\Hi rk a b na nb out/\1<=na/\na<a.size/\1<nb/\nb<=b.size/\na+nb+x+1<=a.size+b.size/\Kept st0 st')
  (Q:=λc st'=>∃res,c.1=some res/\Mg rk a.toList b.toList res.toList/\Kept st0 st') ?step ?fin ⟨_,_,_,_,rfl,M1,ha2,by lia,hb2,XV _,by lia,Kept.refl _⟩) ?post)
 case fin =>
  rintro c st' ⟨na,nb,out,mg,rfl,M,h1,h2,h3,h4,h5,k⟩
  lia
 case post =>
  rintro⟨c1,c2⟩ st' ⟨res,e,hM,k⟩
  dsimp only at e ⊢
  subst e
  exact Xv (h _ _ k hM)
 case step =>
  intro x0 c st1 _ hx0 hI
  refine via λG hG=>?_
  obtain⟨na,nb,out,mg,rfl,M,h1,h2,h3,h4,h5,k1⟩:=hI
  refine hG ?_
  clear hG
  have hk1:kindOf st1=κ:=k1.kind.trans hk
  dsimp -zeta only
  refine XH (Us (V4 (I:=λx c st'=>st'=st1/\∃na nb out ac bc,c=(none,na,nb,out,ac,bc)/\Hi rk a b na nb out/\1<=na/\na<a.size/\1<nb/\nb<=b.size/\na+nb+x0+1+x<=a.size+b.size)
   (Q:=λc st'=>st'=st1/\((∃res,c.1=some res/\Mg rk a.toList b.toList res.toList)\/∃na nb out ac bc,c=(none,na,nb,out,ac,bc)/\Hi rk a b na nb out/\1<=na/\na<a.size/\1<nb/\nb<=b.size/\na+nb+x0+2<=a.size+b.size)) ?step1 ?fin1 ⟨rfl,_,_,_,_,_,rfl,M,h1,h2,h3,h4,by lia⟩) ?post1)
  case fin1 =>
   rintro c st' ⟨rfl,na,nb,out,ac,bc,rfl,M,h1,h2,h3,h4,h5⟩
   exact⟨rfl,.inr ⟨na,nb,out,ac,bc,rfl,M,h1,h2,h3,h4,by lia⟩⟩
  case step1 =>
   intro x c st' _ hx hI
   refine via λG hG=>?_
   obtain⟨rfl,na,nb,out,ac,bc,rfl,M,h1,h2,h3,h4,h5⟩:=hI
   obtain⟨y,ey,my⟩:=jc (a:=b) (i:=nb-1) (by lia)
   obtain⟨z,ez,mz⟩:=jc (a:=a) (i:=na-1) (by lia)
   refine hG ?_
   clear hG
   dsimp -zeta only
   refine XH (qP ey (XH (qP ez (XH (zks T hk1 (mb y my) (ma z mz) ?_)))))
   dsimp -zeta only
   refine qv (λhlt=>?_) λhlt=>?_
   .have hlt':rk y<rk z:=bh hlt;have M2:=M.oneA sa sb h1 (by lia) (by lia) h4 ez ey (V3 hlt');refine XH (qP ez ?_);refine qv (λhe=>Xv ⟨rfl,.inl ⟨_,rfl,?_⟩⟩) λhe=>?_
    .have e:na-1=0:=by simpa using he
     rw[e] at M2 ⊢;exact M2.done sb h4
    have hn:1<=na-1:=by
     have:¬ na-1=0:=by simpa using he
     lia
    exact qv (λ_=>Xv ⟨rfl,.inr ⟨_,_,_,_,_,rfl,M2,hn,by lia,h3,h4,by lia⟩⟩) λ_=>Xv ⟨rfl,_,_,_,_,_,rfl,M2,hn,by lia,h3,h4,by lia⟩
   .have hlt':¬ rk y<rk z:=λq=>hlt (bu q);have M2:=M.oneB sa sb h1 (by lia) (by lia) h4 ez ey (OP.mp hlt');refine XH (qP ey ?_);refine qv (λhe=>Xv ⟨rfl,.inl ⟨_,rfl,?_⟩⟩) λhe=>?_
    .have e:nb-1=1:=by simpa using he
     rw[e] at M2 ⊢;exact M2.first sa sb hb (by lia) h0
    have hn:1<nb-1:=by
     have:¬ nb-1=1:=by simpa using he
     lia
    exact qv (λ_=>Xv ⟨rfl,.inr ⟨_,_,_,_,_,rfl,M2,h1,h2,hn,by lia,by lia⟩⟩) λ_=>Xv ⟨rfl,_,_,_,_,_,rfl,M2,h1,h2,hn,by lia,by lia⟩
  case post1 =>
   intro c st' hI
   refine via λG hG=>?_
   rcases hI with ⟨rfl,hc1 | ⟨na,nb,out,ac,bc,rfl,M,h1,h2,h3,h4,h5⟩⟩
   all_goals (refine hG ?_;clear hG)
   .obtain⟨res,e,hM⟩:=hc1;obtain⟨c1,c2⟩:=c;dsimp only at e ⊢;subst e;exact Xv ⟨res,rfl,hM,k1⟩
   dsimp -zeta only
   refine XH (Rx (UW ⟨rfl,?_⟩))
   refine XH (Us (V4 (I:=λx c st2=>∃na nb out mg ac bc,c=(none,na,nb,out,mg,ac,bc)/\Hi rk a b na nb out/\1<=na/\na<a.size/\1<nb/\nb<=b.size/\na+nb+x0+2<=a.size+b.size/\Kept st0 st2)
    (Q:=λc st2=>(∃res,c.1=some res/\Mg rk a.toList b.toList res.toList/\Kept st0 st2)\/∃na nb out mg ac bc,c=(none,na,nb,out,mg,ac,bc)/\Hi rk a b na nb out/\1<=na/\na<a.size/\1<nb/\nb<=b.size/\na+nb+x0+2<=a.size+b.size/\Kept st0 st2) ?step2 ?fin2 ⟨_,_,_,_,_,_,rfl,M,h1,h2,h3,h4,h5,k1⟩) ?post2)
   case fin2 =>
    rintro c st2 hc
    exact .inr hc
   case post2 =>
    rintro c st2 (⟨res,e,hM,k2⟩ | ⟨na,nb,out,mg,ac,bc,rfl,M,h1,h2,h3,h4,h5,k2⟩)
    .obtain⟨c1,c2⟩:=c;dsimp only at e ⊢;subst e;exact Xv ⟨res,rfl,hM,k2⟩
    .dsimp -zeta only;exact XH (zem k2 λst3 k3=>Xv ⟨_,_,_,_,rfl,M,h1,h2,h3,h4,by lia,k3⟩)
   case step2 =>
    intro x c st2 _ hx hI
    refine via λG hG=>?_
    obtain⟨na,nb,out,mg,ac,bc,rfl,M,h1,h2,h3,h4,h5,k2⟩:=hI
    obtain⟨y,ey,my⟩:=jc (a:=b) (i:=nb-1) (by lia)
    refine hG ?_
    clear hG
    dsimp -zeta only
    refine' cut ?key1 λkey=>qv (λhmg=>?a1) λhmg=>?b1
    case a1 =>
     generalize mg-1=mg1
     revert mg1
     exact key.get
    case b1=>exact key.get mg
    intro mg1
    dsimp -zeta only
    refine XH (zem k2 λst3 k3=>?_)
    have hk3:kindOf st3=κ:=k3.kind.trans hk
    refine XH (qP ey (XH (zap T hk3 (mb y my) ma (λi j u v _ hij _ eu ev=>jO sa hij eu ev) (by lia) (by lia) λk hk4 g1 g2=>?_)))
    dsimp -zeta only
    refine' cut ?key2 λkey=>qv (λhk0=>?a2) λhk0=>?b2
    case a2 =>
     have M2:=M.someA sa sb (i:=k) (by lia) (by lia) (by lia) h4 ey λj u hj1 hj2 eu=>V3 (g2 j u hj1 hj2 (by simpa using eu))
     refine qv (λhe=>Xv (.inl ⟨_,rfl,(by
      have e:k=0:=by simpa using he
      rw[e] at M2 ⊢;exact M2.done sb h4),k3⟩)) λhe=>?_
     have h1':1<=k:=by
      have:¬ k=0:=by simpa using he
      lia
     have h2':k<a.size:=by lia
     have h5':k+nb+x0+2<=a.size+b.size:=by lia
     have g1':∀z,a[k-1]?=some z->rk z<=rk y:=λz ez=>g1 (k-1) z (by lia) (by simpa using ez)
     generalize out++(a.extract k na).reverse=zen at M2 ⊢
     generalize na-k=kk
     generalize k=na1 at M2 h1' h2' h5' g1' ⊢
     revert g1';revert h5';revert h2';revert h1';revert M2;revert na1;revert kk;revert zen
     exact key.get
    case b2=>exact key.get out (na-k) na M h1 h2 h5 λz ez=>g1 (na-1) z (by lia) (by simpa using ez)
    intro zen kk na1 M2 h1' h2' h5' g1'
    refine via λG hG=>?_
    obtain⟨z,ez,mz⟩:=jc (a:=a) (i:=na1-1) (by lia)
    refine hG ?_
    clear hG
    have M3:=M2.oneB sa sb h1' (by lia) (by lia) h4 ez ey (g1' z ez)
    refine XH (qP ey ?_)
    refine qv (λhe=>Xv (.inl ⟨_,rfl,(by
     have e:nb-1=1:=by simpa using he
     rw[e] at M3 ⊢;exact M3.first sa sb hb (by lia) h0),k3⟩)) λhe=>?_
    have hn:1<nb-1:=by
     have:¬ nb-1=1:=by simpa using he
     lia
    refine XH (qP ez (XH (zaq T hk3 (ma z mz) mb (λi j u v _ hij _ eu ev=>jO sb hij eu ev) (by lia) (by lia) λk' hk5 g3 g4=>?_)))
    dsimp -zeta only
    refine' cut ?key3 λkey=>qv (λhk0'=>?a3) λhk0'=>?b3
    case a3 =>
     have M4:=M3.someB sa sb (i:=k') (by lia) (by lia) h1' (by lia) ez λj u hj1 hj2 eu=>g4 j u hj1 hj2 (by simpa using eu)
     refine qv (λhe=>Xv (.inl ⟨_,rfl,(by
      have e:k'=1:=by simpa using he
      rw[e] at M4 ⊢;exact M4.first sa sb hb (by lia) h0),k3⟩)) λhe=>?_
     have k1':1<=k':=by
      refine PV.mpr λhz=>?_;obtain⟨v,ev,mv⟩:=jc (a:=b) (i:=0) hb;have q1:=g4 0 v (by lia) (by lia) (by simpa using ev);have q2:=h0 v z ev mz;lia
     refine qv (λhe2=>absurd (show k'=0 by simpa using he2) (by lia)) λhe2=>?_
     have hn':1<k':=by
      have:¬ k'=1:=by simpa using he
      lia
     have hb':k'<=b.size:=by lia
     have h5'':na1+k'+x0+2<=a.size+b.size:=by lia
     have g3':∀v,b[k'-1]?=some v->rk v<=rk z:=λv ev=>V3 (g3 (k'-1) v (by lia) (by simpa using ev))
     generalize zen.push y++(b.extract k' (nb-1)).reverse=zkw at M4 ⊢
     generalize nb-1-k'=kk'
     generalize k'=nb1 at M4 hn' hb' h5'' g3' ⊢
     revert g3';revert h5'';revert hb';revert hn';revert M4;revert nb1;revert kk';revert zkw
     exact key.get
    case b3=>exact key.get (zen.push y) (nb-1-k') (nb-1) M3 hn (by lia) (by lia) λv ev=>V3 (g3 (nb-1-1) v (by lia) (by simpa using ev))
    intro zkw kk' nb1 M4 hn' hb' h5'' g3'
    obtain⟨v,ev,mv⟩:=jc (a:=b) (i:=nb1-1) (by lia)
    have M5:=M4.oneA sa sb h1' (by lia) (by lia) hb' ez ev (g3' v ev)
    refine XH (qP ez ?_)
    refine qv (λhe=>Xv (.inl ⟨_,rfl,(by
     have e:na1-1=0:=by simpa using he
     rw[e] at M5 ⊢;exact M5.done sb hb'),k3⟩)) λhe=>?_
    have hn2:1<=na1-1:=by
     have:¬ na1-1=0:=by simpa using he
     lia
    exact qv (λ_=>Xv (.inr ⟨_,_,_,_,_,_,rfl,M5,hn2,by lia,hn',hb',by lia,k3⟩)) λ_=>Xv ⟨_,_,_,_,_,_,rfl,M5,hn2,by lia,hn',hb',by lia,k3⟩
end
end GS
namespace GS
theorem zdw (sa:Nat):∀(l:List Xb) (j:Nat) (arr:Array Xb),((l.zipIdx j).foldl (λa (p:Xb×Nat)=>a.setIfInBounds (sa+p.2) p.1) arr).size=arr.size
 | [],_,_=>rfl
 | x::l,j,arr=>by
  rw[List.zipIdx_cons,VL,zdw sa l (j+1)];exact Tu
def zmN (sa:Nat):∀(l:List Xb) (j:Nat) (arr:Array Xb) (i:Nat),sa+j+l.length<=arr.size->((l.zipIdx j).foldl (λa (p:Xb×Nat)=>a.setIfInBounds (sa+p.2) p.1) arr)[i]?=if sa+j<=i/\i<sa+j+l.length then l[i-(sa+j)]? else arr[i]?:=by
 intro l;induction l with
 | nil =>
  intro j arr i h;rw[bw (by simp only[UM];lia)];rfl
 | cons x l ih =>
  intro j arr i h;rw[Xj] at h;rw[List.zipIdx_cons,VL,ih (j+1) _ i (by rw[Tu];lia),Xj];by_cases h1:sa+(j+1)<=i/\i<sa+(j+1)+l.length
  .rw[br h1,br (by lia),show i-(sa+j)=(i-(sa+(j+1)))+1 by lia,Rh]
  .rw[bw h1];by_cases h2:i=sa+j
   .subst h2;rw[br (by lia),Tc,List.getElem?_cons_zero];show (arr.setIfInBounds (sa+j) x)[sa+j]?=some x;rw[Vb,br rfl,br (by lia)]
   .rw[bw (by lia)];show (arr.setIfInBounds (sa+j) x)[i]?=arr[i]?;rw[Vb,bw (λe=>h2 e.symm)]
section
variable {prog:Xm}{w:WZ}{A:WR}{E:X8->X7->Prop}{s:X7}{rk:Xb->Int}{κ:T2}{a0:Array Xb}
def yD {xs:Array Xb}{lo hi:Nat}(u:Up rk xs lo hi){i j:Nat}{x y:Xb}(h1:lo<=i)(h2:i<=j)(h3:j<hi)(ex:xs[i]?=some x)(ey:xs[j]?=some y):rk x<=rk y:=by
 have:=u i j h1 h2 h3;unfold Rk at this;rw[ex,ey] at this;exact this
def znT {xs:Array Xb}{lo hi:Nat}(hz:hi<=xs.size)(h:∀i j x y,lo<=i->i<=j->j<hi->xs[i]?=some x->xs[j]?=some y->rk x<=rk y):Up rk xs lo hi:=λi j h1 h2 h3=>by
 obtain⟨x,ex,_⟩:=jc (a:=xs) (i:=i) (by lia);obtain⟨y,ey,_⟩:=jc (a:=xs) (i:=j) (by lia);unfold Rk;rw[ex,ey];exact h i j x y h1 h2 h3 ex ey
def zhP {xs:Array Xb}{i:Nat}{x:Xb}(e:xs[i]?=some x):x∈xs.toList:=X6 (by rw[XB];exact e)
def ext_get {xs:Array Xb}{i j k:Nat}(h1:i<=j)(h2:j<=xs.size)(hk:k<j-i):(xs.extract i j)[k]?=xs[i+k]?:=by
 rw[SW,br (by lia)]
def QV {xs:Array Xb}{i j:Nat}(h2:j<=xs.size):(xs.extract i j).size=j-i:=by
 rw[Uh];lia
def zky {xs:Array Xb}{lo hi i j:Nat}(u:Up rk xs lo hi)(h1:lo<=i)(h2:j<=hi)(h3:j<=xs.size):(xs.extract i j).toList.Pairwise λx y=>rk x<=rk y:=by
 rw[Vq];intro m n hm hn hmn;rw[X4,QV h3] at hm hn;have em:=ext_get (xs:=xs) (i:=i) (j:=j) (k:=m) (by lia) h3 hm;have en:=ext_get (xs:=xs) (i:=i) (j:=j) (k:=n) (by lia) h3 hn;refine yD u (i:=i+m) (j:=i+n) (by lia) (by lia) (by lia) ?_ ?_
 .rw[<- em,UE];exact getElem?_pos _ _ _
 .rw[<- en,UE];exact getElem?_pos _ _ _
def ext_mem {xs:Array Xb}{i j:Nat}{x:Xb}(h3:j<=xs.size)(h:x∈(xs.extract i j).toList):∃k,i<=k/\k<j/\xs[k]?=some x:=by
 obtain⟨k,hk,e⟩:=TD h;rw[X4,QV h3] at hk;refine⟨i+k,by lia,by lia,?_⟩;rw[<- ext_get (xs:=xs) (i:=i) (j:=j) (by lia) h3 hk,<- e,UE];exact getElem?_pos _ _ _
def zqg {st st1:WQ}{Q:PUnit->WQ->Prop}(h:∀st2,st2=st1->Q ⟨⟩ st2):wpS (Xn prog w) A E s (set st1:StateT WQ Sem PUnit) Q st:=by
 unfold wpS;rw[StateT.run_set];exact XS ⟨rfl,h _ rfl⟩
set_option maxHeartbeats 8000000 in
theorem zi5 {st:WQ}{i sa na p1 nb p2:Nat}{Q:Bool->WQ->Prop}(T:Tells prog w A s κ rk a0)(O:Ok κ a0 st)(e1:(WO st)[i]?=some (sa,na,p1))(e2:(WO st)[i+1]?=some (sa+na,nb,p2))(hna:1<=na)(hnb:1<=nb)(hz:sa+na+nb<=a0.size)(u1:Up rk (Xr st) sa (sa+na))(u2:Up rk (Xr st) (sa+na) (sa+na+nb))
  (h:∀st',Ok κ a0 st'->WO st'=((WO st).setIfInBounds i (sa,na+nb,p1)).eraseIdxIfInBounds (i+1)->Up rk (Xr st') sa (sa+na+nb)->(∀j:Nat,(j<sa\/sa+na+nb<=j)->(Xr st')[j]?=(Xr st)[j]?)->Q true st'):wpS (Xn prog w) A E s (mergeAt' i) Q st:=by
 have hsz:=O.size;have mX:∀x∈(Xr st).toList,x∈a0.toList:=λx hx=>(US.mp O.perm).mem_iff.mp hx;obtain⟨b0,eb0,mb0⟩:=jc (a:=Xr st) (i:=sa+na) (by lia);refine XH (SH ?_);rw[e1,e2];dsimp only;refine XH (zqg λst1 hst=>?_);have k1:kindOf st1=κ:=by rw[hst];exact O.kind
 have ea:Xr st1=Xr st:=by rw[hst]
 have ep:WO st1=((WO st).setIfInBounds i (sa,na+nb,p1)).eraseIdxIfInBounds (i+1):=by rw[hst]
 have ef:Td st1=none:=by rw[hst];exact O.good
 have O1:Ok κ a0 st1:=⟨by rw[ea];exact O.perm,k1,ef⟩;refine XH (qP eb0 (XH (zap T k1 (mX b0 mb0) mX (λp q u v h1 h2 h3 eu ev=>yD u1 h1 h2 h3 eu ev) (by show sa+na<=(Xr st).size;lia) (by lia) λk hk g1 g2=>?_)));dsimp only;refine qv (λhc=>Xv (h st1 O1 ep (znT (by rw[ea];lia) λp q u v h1 h2 h3 eu ev=>?_) λj _=>by rw[ea])) λhc=>?_
 .have ek:k=na:=by
   have:na-k=0:=by simpa using hc
   lia
  rw[ea] at eu ev;by_cases c1:q<sa+na
  .exact yD u1 h1 h2 c1 eu ev
  .by_cases c2:p<sa+na
   .have q1:=g1 (p-sa) u (by lia) (by rw[show sa+(p-sa)=p by lia];exact eu);have q2:=yD u2 (XV _) (by lia) h3 eb0 ev;lia
   .exact yD u2 (by lia) h2 h3 eu ev
 have hkn:k<na:=by
  have:¬ na-k=0:=by simpa using hc
  lia
 obtain⟨al,eal,mal⟩:=jc (a:=Xr st) (i:=sa+k+(na-k)-1) (by lia);have eal':(Xr st)[sa+na-1]?=some al:=by
  rw[<- eal];congr 1;lia
 refine XH (qP eal (XH (zaq T k1 (mX al mal) mX (λp q u v h1 h2 h3 eu ev=>yD u2 h1 h2 h3 eu ev) (by show sa+na+nb<=(Xr st).size;lia) (by lia) λk' hk' g3 g4=>?_)));dsimp only;have b0a:rk b0<rk al:=g2 (na-1) al (by lia) (by lia) (by rw[show sa+(na-1)=sa+na-1 by lia];exact eal');have k'1:1<=k':=by
  refine PV.mpr λhz0=>?_;have:=g4 0 b0 (by lia) (by lia) (by simpa using eb0);lia
 refine qv (λhc=>absurd (show k'=0 by simpa using hc) (by lia)) λ_=>?_;have X3:sa+na<=(Xr st).size:=by lia
 have Y3:sa+na+k'<=(Xr st).size:=by lia
 have xs:=zky (i:=sa+k) (j:=sa+na) u1 (by lia) (XV _) X3;have ys:=zky (i:=sa+na) (j:=sa+na+k') u2 (XV _) (by lia) Y3;have xm:∀x∈((Xr st).extract (sa+k) (sa+na)).toList,x∈a0.toList:=λx hx=>by
  obtain⟨j,_,_,ej⟩:=ext_mem X3 hx;exact mX x (zhP ej)
 have ym:∀x∈((Xr st).extract (sa+na) (sa+na+k')).toList,x∈a0.toList:=λx hx=>by
  obtain⟨j,_,_,ej⟩:=ext_mem Y3 hx;exact mX x (zhP ej)
 have xz:((Xr st).extract (sa+k) (sa+na)).size=na-k:=by
  rw[QV X3];lia
 have yz:((Xr st).extract (sa+na) (sa+na+k')).size=k':=by
  rw[QV Y3];lia
 have first:∀x y,((Xr st).extract (sa+na) (sa+na+k'))[0]?=some x->y∈((Xr st).extract (sa+k) (sa+na)).toList->rk x<rk y:=λx y ex my=>by
  rw[ext_get (by lia) Y3 (by lia),P9,eb0] at ex;cases ex;obtain⟨j,j1,j2,ej⟩:=ext_mem X3 my;exact g2 (j-sa) y (by lia) (by lia) (by rw[show sa+(j-sa)=j by lia];exact ej)
 have last:∀x∈((Xr st).extract (sa+na) (sa+na+k')).toList,∀y,((Xr st).extract (sa+k) (sa+na))[((Xr st).extract (sa+k) (sa+na)).size-1]?=some y->rk x<rk y:=λx mx y ey=>by
  rw[xz,ext_get (by lia) X3 (by lia),show sa+k+(na-k-1)=sa+na-1 by lia,eal'] at ey;cases ey;obtain⟨j,j1,j2,ej⟩:=ext_mem Y3 mx;exact g3 (j-(sa+na)) x (by lia) (by rw[show sa+na+(j-(sa+na))=j by lia];exact ej)
 have tail:∀(merged:Array Xb) (st2:WQ),Kept st1 st2->Mg rk ((Xr st).extract (sa+k) (sa+na)).toList ((Xr st).extract (sa+na) (sa+na+k')).toList merged.toList ->
   Q true (setArr st2 (merged.toList.zipIdx.foldl (λa (p:Xb×Nat)=>a.setIfInBounds (sa+k+p.2) p.1) (Xr st2))):=λmerged st2 K2 hM=>by
  have ea2:Xr st2=Xr st:=K2.arr.trans ea;have ml:merged.toList.length=na-k+k':=by
   rw[hM.1.length_eq,X0,X4,X4,xz,yz]
  have at_:∀j:Nat,(merged.toList.zipIdx.foldl (λa (p:Xb×Nat)=>a.setIfInBounds (sa+k+p.2) p.1) (Xr st2))[j]?=if sa+k<=j/\j<sa+na+k' then merged.toList[j-(sa+k)]? else (Xr st)[j]?:=λj=>by
   have:=zmN (sa+k) merged.toList 0 (Xr st2) j (by rw[ea2,ml];lia);rw[this,ea2,P9,ml];by_cases c:sa+k<=j/\j<sa+na+k'
   .rw[br c,br (by lia)]
   .rw[bw c,bw (by lia)]
  have zA:=zdw (sa+k) merged.toList 0 (Xr st2);generalize hN:merged.toList.zipIdx.foldl (λa (p:Xb×Nat)=>a.setIfInBounds (sa+k+p.2) p.1) (Xr st2)=N at at_ zA ⊢;have zN:N.size=a0.size:=by
   rw[zA,ea2,hsz]
  have nl:N.toList=(Xr st).toList.take (sa+k)++merged.toList++(Xr st).toList.drop (sa+na+k'):=by
   refine SZ λj=>?_;rw[XB,at_ j];by_cases c1:j<sa+k
   .rw[bw (by lia),W3,VF (by rw[XF,X4];lia),List.getElem?_take,br c1,XB]
   .rw[W3,Vt (by rw[XF,X4];lia),XF,X4,show min (sa+k) (Xr st).size=sa+k by lia];by_cases c2:j<sa+na+k'
    .rw[br ⟨by lia,c2⟩,VF (by rw[ml];lia)]
    .rw[bw (by lia),Vt (by rw[ml];lia),Tl,XB,ml];congr 1;lia
  have ol:(Xr st).toList=(Xr st).toList.take (sa+k)++(((Xr st).extract (sa+k) (sa+na)).toList++((Xr st).extract (sa+na) (sa+na+k')).toList)++(Xr st).toList.drop (sa+na+k'):=by
   rw[ext_toList _ _ _ (by lia),ext_toList _ _ _ (by lia)];have d1:(Xr st).toList.drop (sa+na)=((Xr st).toList.drop (sa+k)).drop (na-k):=by
    rw[Pl];congr 1;lia
   have d2:(Xr st).toList.drop (sa+na+k')=((Xr st).toList.drop (sa+na)).drop k':=by
    rw[Pl]
   rw[d2,show sa+na+k'-(sa+na)=k' by lia,W3,W3,W4,d1,show sa+na-(sa+k)=na-k by lia,W4,W4]
  refine h _ ⟨?_,K2.kind.trans k1,K2.bad.trans ef⟩ (K2.pend.trans ep) (znT (by show _<=N.size;lia) λp q u v h1 h2 h3 eu ev=>?_) λj hj=>?_
  .refine Array.Perm.trans ?_ O.perm;rw[US];show N.toList.Perm _;have pm:=List.Perm.append_right ((Xr st).toList.drop (sa+na+k')) (SS ((Xr st).toList.take (sa+k)) hM.1);rw[<- ol,<- nl] at pm;exact pm
  .have eu':N[p]?=some u:=eu;have ev':N[q]?=some v:=ev;rw[at_] at eu' ev';have mid:∀{j:Nat} {x:Xb},sa+k<=j->j<sa+na+k'->merged.toList[j-(sa+k)]?=some x->(∃m,sa+k<=m/\m<sa+na/\(Xr st)[m]?=some x)\/∃m,sa+na<=m/\m<sa+na+k'/\(Xr st)[m]?=some x:=λ_ _ e=>by
    rcases XQ.mp (hM.1.mem_iff.mp (X6 e)) with z | z
    .exact .inl (ext_mem X3 z)
    .exact .inr (ext_mem Y3 z)
   by_cases c1:p<sa+k
   .rw[bw (by lia)] at eu';by_cases c2:q<sa+k
    .rw[bw (by lia)] at ev';exact yD u1 h1 h2 (by lia) eu' ev'
    .have low:∀{m:Nat} {x:Xb},sa+na<=m->m<sa+na+nb->(Xr st)[m]?=some x->rk u<=rk x:=λm1 m2 em=>by
      have q1:=g1 (p-sa) u (by lia) (by rw[show sa+(p-sa)=p by lia];exact eu');exact Vx q1 (yD u2 (XV _) m1 m2 eb0 em)
     by_cases c3:q<sa+na+k'
     .rw[br ⟨by lia,c3⟩] at ev';rcases mid (by lia) c3 ev' with ⟨m,m1,m2,em⟩ | ⟨m,m1,m2,em⟩
      .exact yD u1 h1 (by lia) m2 eu' em
      .exact low m1 (by lia) em
     .rw[bw (by lia)] at ev';exact low (by lia) h3 ev'
   .by_cases c4:p<sa+na+k'
    .rw[br ⟨by lia,c4⟩] at eu';by_cases c3:q<sa+na+k'
     .rw[br ⟨by lia,c3⟩] at ev';by_cases epq:p=q
      .subst epq;rw[eu'] at ev';cases ev';exact U3 _
      .have sp:=hM.2;rw[Vq] at sp;obtain⟨a1,a2⟩:=X5.mp eu';obtain⟨b1,b2⟩:=X5.mp ev';have:=sp _ _ a1 b1 (by lia);rw[a2,b2] at this;exact this
     .rw[bw (by lia)] at ev';have q4:=g4 (q-(sa+na)) v (by lia) (by lia) (by rw[show sa+na+(q-(sa+na))=q by lia];exact ev');rcases mid (by lia) c4 eu' with ⟨m,m1,m2,em⟩ | ⟨m,m1,m2,em⟩
      .exact Vx (yD u1 (by lia) (by lia) (by lia) em eal') q4
      .exact yD u2 m1 (by lia) h3 em ev'
    .rw[bw (by lia)] at eu' ev';exact yD u2 (by lia) h2 h3 eu' ev'
  .show N[j]?=_;rw[at_,bw (by lia)]
 refine qv (λ_=>?_) λ_=>?_
 .refine XH (zi3 T k1 xm ym xs ys (Tj (show 0<na-k by lia) xz.symm) (Tj (show 0<k' by lia) yz.symm) (λx y ex my=>V3 (first x y ex my)) last λout st2 K2 hM=>?_);refine XH (To (XH (SH ?_)));rw[show (Td st2).isNone=true by rw[K2.bad,ef];rfl];exact Xv (tail out st2 K2 hM)
 .refine XH (zi4 T k1 xm ym xs ys (Tj (show 0<na-k by lia) xz.symm) (Tj (show 0<k' by lia) yz.symm) first last λout st2 K2 hM=>?_);refine XH (To (XH (SH ?_)));rw[show (Td st2).isNone=true by rw[K2.bad,ef];rfl];exact Xv (tail out st2 K2 hM)
end
end GS
namespace GS
def Y4:List (Nat×AA)->Nat->Nat->Prop
 | [],s,e=>s=e
 | r::l,s,e=>r.1=s/\1<=r.2.1/\Y4 l (s+r.2.1) e
theorem yp:∀{l1 l2:List (Nat×AA)} {s e:Nat},Y4 (l1++l2) s e ↔ ∃m,Y4 l1 s m/\Y4 l2 m e
 | [],l2,s,e=>⟨λh=>⟨s,rfl,h⟩,λ⟨m,h1,h2⟩=>by
  have e:s=m:=h1;subst e;exact h2⟩
 | r::l1,l2,s,e=>by
  constructor
  .rintro⟨h1,h2,h3⟩;obtain⟨m,h4,h5⟩:=yp.mp h3;exact⟨m,⟨h1,h2,h4⟩,h5⟩
  .rintro⟨m,⟨h1,h2,h3⟩,h4⟩;exact⟨h1,h2,yp.mpr ⟨m,h3,h4⟩⟩
theorem Yb:∀{l:List (Nat×AA)} {s e:Nat},Y4 l s e->s<=e/\l.length+s<=e/\∀r∈l,s<=r.1/\r.1+r.2.1<=e
 | [],s,e,h=>by
  have e':s=e:=h;subst e';exact⟨XV _,by simp,λr hr=>nomatch hr⟩
 | r::l,s,e,⟨h1,h2,h3⟩=>by
  obtain⟨a1,a2,a3⟩:=Yb h3;refine⟨by lia,by rw[Xj];lia,λq hq=>?_⟩;rcases XG.mp hq with rfl | hq
  .lia
  .have:=a3 q hq;lia
section
variable {prog:Xm}{w:WZ}{A:WR}{E:X8->X7->Prop}{s:X7}{rk:Xb->Int}{κ:T2}{a0:Array Xb}
structure PI (rk:Xb->Int)(κ:T2)(a0:Array Xb)(lo:Nat)(st:WQ):Prop where
 ok:Ok κ a0 st
 til:Y4 (WO st).toList 0 lo
 up:∀r∈(WO st).toList,Up rk (Xr st) r.1 (r.1+r.2.1)
def zbo {xs ys:Array Xb}{lo hi:Nat}(u:Up rk xs lo hi)(h:∀j:Nat,lo<=j->j<hi->ys[j]?=xs[j]?):Up rk ys lo hi:=λi j h1 h2 h3=>by
 rw[Jk (h i h1 (by lia)),Jk (h j (by lia) h3)];exact u i j h1 h2 h3
def zoX {p:List (Nat×AA)}{i:Nat}(h:i+1<p.length):∃l1 r1 r2 l2,p=l1++r1::r2::l2/\l1.length=i/\p[i]?=some r1/\p[i+1]?=some r2:=by
 refine⟨p.take i,p[i],p[i+1],p.drop (i+2),?_,by rw[XF];lia,XX (by lia),XX h⟩;rw[<- WP h,<- WP (by lia),W4]
def zfs {st:WQ}{lo i:Nat}{Q:Bool->WQ->Prop}(T:Tells prog w A s κ rk a0)(P:PI rk κ a0 lo st)(hi:i+1<(WO st).size)(hlo:lo<=a0.size)
  (h:∀st',PI rk κ a0 lo st'->(WO st').size+1=(WO st).size->(∀j:Nat,lo<=j->(Xr st')[j]?=(Xr st)[j]?)->Q true st'):wpS (Xn prog w) A E s (mergeAt' i) Q st:=by
 obtain⟨l1,⟨sa,na,p1⟩,⟨sb,nb,p2⟩,l2,ep,el,e1,e2⟩:=zoX (p:=(WO st).toList) (i:=i) (by rw[X4];exact hi);have til:=P.til;rw[ep] at til;obtain⟨m,t1,⟨a1,a2,a3,a4,a5⟩⟩:=yp.mp til;dsimp only at a1 a2 a3 a4 a5;subst a1;subst a3;rw[XB] at e1 e2;have u1:=P.up (sa,na,p1) (by rw[ep];simp);have u2:=P.up (sa+na,nb,p2) (by rw[ep];simp);dsimp only at u1 u2;obtain⟨b1,b2,b3⟩:=Yb a5;obtain⟨c1,c2,c3⟩:=Yb t1;refine zi5 T P.ok e1 e2 a2 a4 (by lia) u1 u2 λst' O' ep' up' out'=>?_;have el':(WO st').toList=l1++(sa,na+nb,p1)::l2:=by
  rw[ep',Array.toList_eraseIdxIfInBounds,RT,ep,<- el];rw[List.set_append_right _ _ (XV _),Tc,List.set_cons_zero,List.eraseIdx_append_of_length_le (by lia),show l1.length+1-l1.length=1 by lia];rfl
 refine h st' ⟨O',?_,λr hr=>?_⟩ ?_ λj hj=>out' j (by lia)
 .rw[el'];exact yp.mpr ⟨sa,t1,rfl,by show 1<=na+nb;lia,by rw[show sa+(na+nb)=sa+na+nb by lia];exact a5⟩
 .rw[el'] at hr;rcases XQ.mp hr with hr | hr
  .have:=c3 r hr;exact zbo (P.up r (by rw[ep];exact Xf _ hr)) λj h1 h2=>out' j (by lia)
  .rcases XG.mp hr with rfl | hr
   .show Up rk (Xr st') sa (sa+(na+nb));rw[show sa+(na+nb)=sa+na+nb by lia];exact up'
   .have:=b3 r hr;exact zbo (P.up r (by rw[ep];simp[hr])) λj h1 h2=>out' j (by lia)
 .rw[<- X4,el',<- X4,ep];simp only[X0,Xj];lia
def PI.step {lo lo':Nat}{st st':WQ}(P:PI rk κ a0 lo st)(S:Step κ a0 lo' st st')(h:lo<=lo'):PI rk κ a0 lo st':=by
 refine⟨S.ok,by rw[S.pend];exact P.til,λr hr=>?_⟩;rw[S.pend] at hr;have:=(Yb P.til).2.2 r hr;exact zbo (P.up r hr) λj h1 h2=>S.low j (by lia)
theorem zaP (pw:Nat):∀{l:List (Nat×AA)} {k s e:Nat},Y4 l s e->Y4 (l.modify k λr=>(r.1,r.2.1,pw)) s e
 | [],k,s,e,h=>by
  cases k<;>exact h
 | r::l,0,s,e,⟨h1,h2,h3⟩=>⟨h1,h2,h3⟩
 | r::l,k+1,s,e,⟨h1,h2,h3⟩=>⟨h1,h2,zaP pw h3⟩
theorem zdx {pw:Nat}:∀{l:List (Nat×AA)} {k:Nat} {r:Nat×AA},r∈l.modify k (λr=>(r.1,r.2.1,pw))->∃q∈l,q.1=r.1/\q.2.1=r.2.1
 | [],k,r,h=>by
  cases k<;>cases h
 | q::l,0,r,h=>by
  rcases XG.mp h with rfl | h
  .exact⟨q,XU,rfl,rfl⟩
  .exact⟨r,XR _ h,rfl,rfl⟩
 | q::l,k+1,r,h=>by
  rcases XG.mp h with rfl | h
  .exact⟨r,XU,rfl,rfl⟩
  .obtain⟨q',h1,h2⟩:=zdx h;exact⟨q',XR _ h1,h2⟩
def ite_le (c:Prop) [Decidable c](n:Nat):(if c then n-1 else n)<=n:=by
 split<;>lia
def zoY {st:WQ}{Q:Unit->WQ->Prop}(T:Tells prog w A s κ rk a0)(O:Ok κ a0 st)(hp:WO st=#[])(h:∀st',Ok κ a0 st'->Up rk (Xr st') 0 a0.size->Q () st'):wpS (Xn prog w) A E s sortRuns' Q st:=by
 rw[sortRuns'_eq];refine XH (SH ?_);dsimp only;rw[O.size];generalize minRun' a0.size a0.size 0=mr;refine XH (Us (V4 (I:=λx c st'=>∃lo,c=(none,lo)/\PI rk κ a0 lo st'/\lo<=a0.size/\x<=lo)
  (Q:=λc st'=>c=(none,a0.size)/\PI rk κ a0 a0.size st') ?step ?fin ⟨0,rfl,⟨O,by rw[hp];rfl,λr hr=>by rw[hp] at hr;cases hr⟩,WT _,XV _⟩) ?post)
 case fin =>
  rintro c st' ⟨lo,rfl,P,h1,h2⟩
  obtain rfl:lo=a0.size:=by lia
  exact⟨rfl,P⟩
 case step =>
  rintro x c st1 _ hx ⟨lo,rfl,P,h1,h2⟩
  dsimp only
  refine qv (λhge=>?_) λhge=>?_
  .obtain rfl:lo=a0.size:=by lia
   exact Xv ⟨rfl,P⟩
  refine XH (zqe T P.ok (by lia) (by lia) λm st2 S m1 m2 hu=>?_)
  dsimp only
  have P2:=P.step S (XV _)
  refine qv (λhmr=>?_) λhmr=>?_
  refine XH (Rx (UW ⟨rfl,?_⟩))
  refine XH (zqf T S.ok (by lia) (by lia) hu λst3 S3 hu3=>?_)
  rw[bw (by decide)]
  have P3:=P2.step S3 (XV _)
  have n1:1<=min (a0.size-lo) mr:=by lia
  have n2:lo+min (a0.size-lo) mr<=a0.size:=by lia
  clear P2 S3
  generalize min (a0.size-lo) mr=n at hu3 n1 n2 ⊢
  rotate_left
  have P3:=P2
  have hu3:=hu
  have n1:=m1
  have n2:lo+m<=a0.size:=by lia
  clear P2
  generalize m=n at hu3 n1 n2 ⊢
  generalize st2=st3 at P3 hu3 ⊢
  rotate_left
  all_goals
   refine XH (SH ?_)
   have fin:∀st4,PI rk κ a0 lo st4->Up rk (Xr st4) lo (lo+n)->PI rk κ a0 (lo+n) (setPending st4 ((WO st4).push (lo,n,0))):=λst4 P4 u4=>by
    refine⟨⟨P4.ok.perm,P4.ok.kind,P4.ok.good⟩,?_,λr hr=>?_⟩
    .show Y4 ((WO st4).push (lo,n,0)).toList 0 (lo+n);rw[S1];exact yp.mpr ⟨lo,P4.til,rfl,n1,rfl⟩
    .have hr':r∈((WO st4).push (lo,n,0)).toList:=hr;rw[S1] at hr';rcases XQ.mp hr' with hr' | hr'
     .exact P4.up r hr'
     .have er:r=(lo,n,0):=by simpa using hr'
      subst er;exact u4
   cases hbk:(WO st3).back? with
   | none =>
    dsimp only;exact XH (To (Xv ⟨lo+n,rfl,fin st3 P3 hu3,n2,by lia⟩))
   | some r =>
    obtain⟨s1,k1,q1⟩:=r;dsimp only;generalize power' a0.size (2*s1+k1) (2*s1+k1+k1+n) a0.size=pw;refine XH (Us (V4 (I:=λ_ c st4=>c=(none,())/\PI rk κ a0 lo st4/\Up rk (Xr st4) lo (lo+n)) (Q:=λc st4=>c=(none,())/\PI rk κ a0 lo st4/\Up rk (Xr st4) lo (lo+n)) ?_ (λ_ _ hh=>hh) ⟨rfl,P3,hu3⟩) ?_)
    .rintro y c st4 _ _ ⟨rfl,P4,u4⟩;refine XH (SH ?_);by_cases hz:(WO st4).size>1
     .rw[br hz,getElem?_pos (WO st4) ((WO st4).size-2) (by lia)];generalize (WO st4)[(WO st4).size-2]'(by lia)=r2;obtain⟨r2a,r2b,r2c⟩:=r2;dsimp only;refine qv (λ_=>Xv ⟨rfl,P4,u4⟩) λ_=>?_;refine XH (zfs T P4 (by lia) h1 λst5 P5 _ zq3=>?_);rw[bw (by decide)];exact Xv ⟨rfl,P5,zbo u4 λj j1 _=>zq3 j j1⟩
     .rw[bw hz];exact Xv ⟨rfl,P4,u4⟩
    .rintro c st4 ⟨rfl,P4,u4⟩;dsimp only;refine XH (To (XH (To (Xv ⟨lo+n,rfl,fin _ ⟨⟨P4.ok.perm,P4.ok.kind,P4.ok.good⟩,?_,λr hr=>?_⟩ u4,n2,by lia⟩))))
     .show Y4 ((WO st4).modify ((WO st4).size-1) λr=>(r.1,r.2.1,pw)).toList 0 lo;rw[O3];exact zaP pw P4.til
     .have hr':r∈((WO st4).modify ((WO st4).size-1) λr=>(r.1,r.2.1,pw)).toList:=hr;rw[O3] at hr';obtain⟨q,hq,e1,e2⟩:=zdx hr';have:=P4.up q hq;rw[e1,e2] at this;exact this
 case post =>
  rintro c st1 ⟨rfl,P⟩
  dsimp only
  have len0:=(Yb P.til).2.1
  rw[X4] at len0
  refine XH (Us (V4 (I:=λx c st2=>c=(none,())/\PI rk κ a0 a0.size st2/\((WO st2).size+x<=a0.size\/(WO st2).size<=1)) (Q:=λc st2=>c=(none,())/\PI rk κ a0 a0.size st2/\(WO st2).size<=1) ?step2 ?fin2 ⟨rfl,P,.inl (by lia)⟩) ?post2)
  case fin2 =>
   rintro c st2 ⟨rfl,P2,hz⟩
   exact⟨rfl,P2,by lia⟩
  case step2 =>
   rintro x c st2 _ hx ⟨rfl,P2,hz⟩
   refine XH (SH ?_)
   refine qv (λh1=>Xv ⟨rfl,P2,h1⟩) λh1=>?_
   refine XH (zfs T P2 ?_ (XV _) λst3 P3 z3 _=>?_)
   .exact Xw (Pj (ite_le _ _) 1) (show (WO st2).size-2+1<(WO st2).size by lia)
   .rw[bw (by decide)];exact Xv ⟨rfl,P3,by lia⟩
  case post2 =>
   rintro c st2 ⟨rfl,P2,hz⟩
   dsimp only
   refine Xv (h st2 P2.ok ?_)
   have til:=P2.til
   have up:=P2.up
   have zl:(WO st2).toList.length<=1:=by rw[X4];exact hz
   cases hl:(WO st2).toList with
   | nil =>
    rw[hl] at til;have e:0=a0.size:=til;exact λi j _ _ h3=>absurd h3 (by lia)
   | cons r l =>
    rw[hl] at til zl up;obtain rfl:l=[]:=VP.mp (by rw[Xj] at zl;lia);obtain⟨t1,t2,t3⟩:=til;have t3':0+r.2.1=a0.size:=t3;have u:=up r XU;rw[t1,t3'] at u;exact u
end
end GS
namespace GS
structure Wk {K:Type}(lt:K->K->Bool):Prop where
 tot:∀x y,lt x y=true->lt y x=false
 tr:∀x y z,lt y x=false->lt z y=false->lt z x=false
def rkK {K:Type}(lt:K->K->Bool)(ks:List K)(k:K):Int:=((ks.countP λq=>lt q k:Nat):Int)
theorem count_le {K:Type}{p q:K->Bool}:∀{ks:List K},(∀x∈ks,p x=true->q x=true)->ks.countP p<=ks.countP q
 | [],_=>XV _
 | x::ks,h=>by
  have ih:=count_le (ks:=ks) λy hy=>h y (XR _ hy);rw[Wx,Wx];have hx:=h x XU;by_cases c:p x=true
  .rw[br c,br (hx c)];lia
  .rw[bw c];lia
def zkz {K:Type}{p q:K->Bool}{ks:List K}(h:∀x∈ks,p x=true->q x=true)(hq:∃x∈ks,p x=false/\q x=true):ks.countP p<ks.countP q:=by
 obtain⟨y,hy,h1,h2⟩:=hq;induction ks with
 | nil=>cases hy
 | cons x ks ih =>
  rw[Wx,Wx];have hx:=h x XU;rcases XG.mp hy with rfl | hy
  .have ih:=count_le (ks:=ks) λy hy=>h y (XR _ hy);rw[h1,h2,bw XT,br rfl];lia
  .have ih:=ih (λy hy=>h y (XR _ hy)) hy;by_cases c:p x=true
   .rw[br c,br (hx c)];lia
   .rw[bw c];lia
def Wk.rank {K:Type}{lt:K->K->Bool}(W:Wk lt){ks:List K}{x y:K}(hx:x∈ks):lt x y=decide (rkK lt ks x<rkK lt ks y):=by
 unfold rkK;cases h:lt x y with
 | true =>
  refine(bu ?_).symm;have:=zkz (ks:=ks) (p:=λq=>lt q x) (q:=λq=>lt q y) (λq _ hq=>?_) ⟨x,hx,?_,h⟩
  .lia
  .cases hc:lt q y with
   | true=>rfl
   | false =>
    have:=W.tr x y q (W.tot x y h) hc;have hq':lt q x=true:=hq;rw[this] at hq';cases hq'
  .cases hc:lt x x with
   | false=>rfl
   | true=>exact hc.symm.trans (W.tot x x hc)
 | false =>
  refine(bg ?_).symm;have:=count_le (ks:=ks) (p:=λq=>lt q y) (q:=λq=>lt q x) λq _ hq=>by
   cases hc:lt q x with
   | true=>rfl
   | false =>
    have:=W.tr y x q h hc;have hq':lt q y=true:=hq;rw[this] at hq';cases hq'
  lia
section
variable {prog:Xm}{w:WZ}{A:WR}{E:X8->X7->Prop}{s:X7}
def zdy {a:Addr}{vs:List X8}{n:Nat}{P:PySem.Fin->X7->Prop}(ho:s.heap.get? a=some (Uk "list" vs.toArray n))(hz:vs.length<=Xq)(r:X8->Int)
  (hk:2<=vs.length->∀s':X7,(∀b o,b≠a->s.heap.get? b=some o->s'.heap.get? b=some o)->Xk (Xn prog w) A (keyKind' vs.toArray) (fun κ s2=>s2=s'/\Tells prog w A s' κ (λp=>r p.1) (O8 vs)) (λ_ _=>False) s')
  (h:∀(ws:List X8) (h':Heap) (c:Nat),ws.Perm vs->ws.Pairwise (λx y=>r x<=r y)->(∀b o,b≠a->s.heap.get? b=some o->h'.get? b=some o)->h'.get? a=some (Uk "list" ws.toArray c)->P (.done (.ret .none)) { s with heap:=h' }) :
  Xk (Xn prog w) A (UR.«list.sort» ⟨[.ref a],[]⟩) P E s:=by
 have lta:a<s.heap.objs.size:=XE ho;have hu1:=get?_update_seq ho λ_=>(#[]:Array X8);generalize hX:s.heap.update a (Vc λ_=>(#[]:Array X8))=X1 at hu1;have zX:X1.objs.size=s.heap.objs.size:=by rw[<- hX,Heap.size_update]
 have kX:∀b o,b≠a->s.heap.get? b=some o->X1.get? b=some o:=λb o hb e=>by
  rw[<- hX,Sh _ _ _ _ hb];exact e
 obtain⟨e1,hu⟩:∃e1,X1.get? a=some (Uk "list" #[] e1):=⟨_,hu1⟩;generalize hY:(X1.push (Uk "tuple" vs.toArray 0)).push (Uk "list" #[] 0)=Y;have hYa:Y.get? a=some (Uk "list" #[] e1):=by
  rw[<- hY];exact XY _ (XY _ hu)
 have kY:∀b o,b≠a->s.heap.get? b=some o->Y.get? b=some o:=λb o hb e=>by
  rw[<- hY];exact XY _ (XY _ (kX b o hb e))
 have last:∀(st:WQ),(((Xr st).map (·.2)).toList.Perm vs)->(((Xr st).map (·.2)).toList.Pairwise λx y=>r x<=r y)->Td st=none ->
   Xk (Xn prog w) A (do
    let touched:=(<- seqEpoch a) != e1
    Builtin.List.listUpdate (.ref a) λ_=>(Xr st).map (·.2)
    if let some e:=Td st then rule "list.sort.comparison-raised";throw e
    if touched then rule "list.sort.modified";raiseError "ValueError" "list modified during sort"
    ret .none) P E { s with heap:=Y }:=by
  intro st hp hs hf;generalize ew:(Xr st).map (·.2)=wsA at hp hs;rw[hf];have hlen:wsA.size=vs.length:=by rw[<- X4,hp.length_eq]
  have hu2:=get?_update_seq hYa λ_=>wsA;refine ZB (seqEpoch_at hYa rfl (ZB (listUpdate_at hYa rfl ?_ (WT _) (by rw[hlen];lia))));simp only[bne_self_eq_false,Ww,if_false];refine XS (h wsA.toList _ _ hp hs (λb o hb e=>?_) hu2);rw[Sh _ _ _ _ hb];exact kY b o hb e
 rw[list_sort_plain];refine ZB (listItems_at ho rfl (ZB (listUpdate_at ho rfl ?_ (by rw[Xx];exact hz) (WT _))));rw[hX];refine ZB (seqEpoch_at hu rfl (ZB (wpAny_newTuple (ZB (OV ?_ (WT _))) hz)));show Xk (Xn prog w) A _ P E { s with heap:=(X1.push (Uk "tuple" vs.toArray 0)).push (Uk "list" #[] 0) };rw[hY];refine Wz ?_;dsimp only;have e2:((O8 vs).map (·.2)).toList=vs:=by
  rw[UY,Uq];exact List.map_snd_zip (XV _)
 by_cases c2:vs.toArray.size<2
 .have c2':vs.length<2:=by rw[Xx] at c2;exact c2
  rw[br c2,br c2];refine ZB (XS ?_);rw[StateT.run_pure];refine ZB (XS ?_);refine last (SortSt.mk' general' (O8 vs) #[] 7 none) (by show ((O8 vs).map (·.2)).toList.Perm vs;rw[e2]) (by
   show ((O8 vs).map (·.2)).toList.Pairwise _;rw[e2,Vq];intro i j hi hj hij;lia) rfl
 .have c2':2<=vs.length:=by rw[Xx] at c2;lia
  rw[bw c2,bw c2];refine ZB (VU (hk c2' { s with heap:=Y } kY) (fun κ s2 ⟨e3,T⟩=>?_) λ_ _ x=>x.elim);subst e3;have run:=zoY (E:=E) (st:=SortSt.mk' κ (O8 vs) #[] 7 none) (Q:=λ_ st'=>(((Xr st').map (·.2)).toList.Perm vs)/\(((Xr st').map (·.2)).toList.Pairwise λx y=>r x<=r y)/\Td st'=none) T ⟨Array.Perm.refl _,rfl,rfl⟩ rfl λst' O hu=>?_
  .unfold wpS at run;refine ZB (VU run ?_ λ_ _ z=>z);rintro⟨⟨⟩,st'⟩ s' ⟨rfl,hp,hs,hf⟩;exact last st' hp hs hf
  .have pm:=US.mp O.perm;have same:∀p∈(Xr st').toList,p.1=p.2:=λp hp=>by
    have:=pm.mem_iff.mp hp;rw[Uq] at this;exact(Sf this).1
   refine⟨?_,?_,O.good⟩
   .have:=pm.map (·.2);rw[UY];rw[Uq,List.map_snd_zip (XV _)] at this;exact this
   .rw[UY,We,Vq];intro i j hi hj hij;have zs:=O.size;rw[X4] at hi hj;have u:=yD hu (i:=i) (j:=j) (WT _) (by lia) (by lia) (getElem?_pos _ i hi) (getElem?_pos _ j hj);have s1:=same (Xr st')[i] (by simp);have s2:=same (Xr st')[j] (by simp);rw[UE,UE,<- s1,<- s2];exact u
def zi6 {l:Addr}{vs:List X8}{Q:X8->X7->Prop}(hl:s.heap.IsList l vs.toArray)(hz:vs.length<=Xq)(r:X8->Int)
  (hk:2<=vs.length->∀s':X7,(∀b o,s.heap.get? b=some o->s'.heap.get? b=some o)->Xk (Xn prog w) A.in1.in1 (keyKind' vs.toArray) (fun κ s2=>s2=s'/\Tells prog w A.in1.in1 s' κ (λp=>r p.1) (O8 vs)) (λ_ _=>False) s')
  (h:∀(ws:List X8) (h':Heap) (c:Nat),ws.Perm vs->ws.Pairwise (λx y=>r x<=r y)->(∀b o,s.heap.get? b=some o->h'.get? b=some o)->h'.get? (s.heap.objs.size+1)=some (Uk "list" ws.toArray c)->Q (.ref (s.heap.objs.size+1)) { s with heap:=h' }) :
  Xk (Xn prog w) A (call (.builtin "sorted") [.ref l]) Q E s:=by
 generalize hX:(s.heap.push (Uk "list" #[] 0)).update s.heap.objs.size (Vc (·++vs.toArray))=X1;have zX:X1.objs.size=s.heap.objs.size+1:=by rw[<- hX,Heap.size_update,UV]
 have kX:∀b o,s.heap.get? b=some o->X1.get? b=some o:=λb o e=>by
  have lt:=XE e;rw[<- hX,Sh _ _ _ _ (Xe lt)];exact XY _ e
 apply RP kind_sorted plain_sorted entry_sorted (args_sorted1 _);unfold UR.«sorted»;refine ZB (m:=checkCount "sorted" 1 1 _) (XS (ZB (collect_list hl ?_ hz)));rw[hX];refine ZB (OV ?_ hz);show Xk _ _ _ _ _ { s with heap:=X1.push (Uk "list" vs.toArray 0) };have hoL:(X1.push (Uk "list" vs.toArray 0)).get? (s.heap.objs.size+1)=some (Uk "list" vs.toArray 0):=by
  rw[<- zX];exact W5 _ rfl
 have kL:∀b o,s.heap.get? b=some o->(X1.push (Uk "list" vs.toArray 0)).get? b=some o:=λb o e=>XY _ (kX b o e);have ne:∀b o,s.heap.get? b=some o->b≠s.heap.objs.size+1:=λb o e=>Xe (Wl (XE e));rw[zX];refine ZB (Wz (UZ slot_list_sort ⟨_,hoL,rfl⟩ entry_list_sort (zdy (s:={ s with heap:=X1.push (Uk "list" vs.toArray 0) }) hoL hz r (λc s' k=>hk c s' λb o e=>k b o (ne b o e) (kL b o e)) ?_) (args_list_sort _)));intro ws h' c hp hs kk ha;exact⟨_,rfl,XS ⟨_,rfl,h ws h' c hp hs (λb o e=>kk b o (ne b o e) (kL b o e)) ha⟩⟩
end
def zb1 {α β:Type}{R:α->β->Prop}{xs:List α}{ys:List β}(hp:Xl R xs ys):(∀p∈xs.zip ys,R p.1 p.2)/\(xs.zip ys).map (·.1)=xs/\(xs.zip ys).map (·.2)=ys:=by
 induction hp with
 | nil=>exact⟨(λp h=>nomatch h),rfl,rfl⟩
 | cons h _ ih =>
  obtain⟨a,b,c⟩:=ih;refine⟨λp hp=>?_,by rw[List.zip_cons_cons,Xu,b],by rw[List.zip_cons_cons,Xu,c]⟩;rcases XG.mp hp with rfl | hp
  .exact h
  .exact a p hp
theorem zdz {α β:Type}{R:α->β->Prop}:∀{zs:List (α × β)},(∀p∈zs,R p.1 p.2)->Xl R (zs.map (·.1)) (zs.map (·.2))
 | [],_=>.nil
 | p::zs,h=>.cons (h p XU) (zdz λq hq=>h q (XR _ hq))
end GS
namespace GS
theorem Jl {α β:Type}{R:α->β->Prop}:∀{xs:List α} {ys:List β},Xl R xs ys->∀x∈xs,∃y∈ys,R x y
 | _,_,.nil,x,h=>nomatch h
 | _,_,.cons h t,x,hx=>by
  rcases XG.mp hx with rfl | hx
  .exact⟨_,XU,h⟩
  .obtain⟨y,h1,h2⟩:=Jl t x hx;exact⟨y,XR _ h1,h2⟩
def Tri {K:Type}(RV:V->K->Prop)(RH:X8->K->Prop)(t:V×X8×K):Prop:=RelV t.1 t.2.1/\RV t.1 t.2.2/\RH t.2.1 t.2.2
def zoZ {K:Type}{RV:V->K->Prop}{RH:X8->K->Prop}{us:AE}{its:List X8}{ks:List K}(h1:Vals us its):Xl RV us ks->Xl RH its ks->∃T:List (V×X8×K),(∀t∈T,Tri RV RH t)/\T.map (·.1)=us/\T.map (·.2.1)=its/\T.map (·.2.2)=ks:=by
 induction h1 generalizing ks with
 | nil =>
  intro h2 h3;cases h2;exact⟨[],(λt h=>nomatch h),rfl,rfl,rfl⟩
 | @cons u i us its r1 t1 ih =>
  intro h2 h3;cases h2 with
  | @cons _ k _ ks r2 t2 =>
   cases h3 with
   | cons r3 t3 =>
    obtain⟨T,h1,h2,h3,h4⟩:=ih t2 t3;refine⟨(u,i,k)::T,λt ht=>?_,by rw[Xu,h2],by rw[Xu,h3],by rw[Xu,h4]⟩;rcases XG.mp ht with rfl | ht
    .exact⟨r1,r2,r3⟩
    .exact h1 t ht
theorem zft {K:Type}{RV:V->K->Prop}{RH:X8->K->Prop}:∀{T:List (V×X8×K)},(∀t∈T,Tri RV RH t)->Vals (T.map (·.1)) (T.map (·.2.1))/\Xl RV (T.map (·.1)) (T.map (·.2.2))
 | [],_=>⟨.nil,.nil⟩
 | t::T,h=>by
  obtain⟨h1,h2⟩:=zft λx hx=>h x (XR _ hx);obtain⟨a,b,c⟩:=h t XU;exact⟨.cons a h1,.cons b h2⟩
section
variable {X:Cx}{bQ:List (Addr×Obj)}{σ:St}{H:Hp}{s:X7}{K:Type}
def zdA {lt:K->K->Bool}(W:Wk lt){RV:V->K->Prop}{RH:Heap->X8->K->Prop}(fn:∀h v k k',RH h v k->RH h v k'->k=k')(kp:∀h h' v k,(∀b o,h.get? b=some o->h'.get? b=some o)->RH h v k->RH h' v k)
  {l:Addr} {us:AE} {its:List X8} {ks:List K} {Q:VK} (I:Inv X bQ σ H s) (hl:s.heap.IsList l its.toArray) (hz:us.length<=1000000) (rv:Vals us its) (hv:Xl RV us ks) (hp:Xl (RH s.heap) its ks)
  (kind:∀s':X7,Xl (RH s'.heap) its ks->2<=its.length->Xk (Xn X.prog X.w) X.A.in1.in1 (keyKind' its.toArray) (fun κ s2=>s2=s'/\∀v v' k k',RH s'.heap v k->RH s'.heap v' k'->∀C:Bool->X7->Prop,C (lt k k') s'->Xk (Xn X.prog X.w) X.A.in1.in1 (keyLt' κ v v') C (λ_ _=>False) s') (λ_ _=>False) s')
  (q:∀d us' ks',H d=none->Xl RV us' ks'->ks'.Perm ks->ks'.Pairwise (λx y=>lt y x=false)->(us'.Perm us)->Q (.ref d) (upd H d (.lst us'))) :
  Xk (Xn X.prog X.w) X.A (call (.builtin "sorted") [.ref l]) (EP X bQ σ Q) X.xe s:=by
 classical
 have hil:=rv.length;obtain⟨T,hT,e1,e2,e3⟩:=zoZ rv hv hp;let r:X8->Int:=λv=>if h:∃k,RH s.heap v k then rkK lt ks h.choose else 0
 have rk_:∀{v:X8} {k:K},RH s.heap v k->r v=rkK lt ks k:=λ{v k} h=>by
  have hx:∃k,RH s.heap v k:=⟨k,h⟩;show (if h:∃k,RH s.heap v k then rkK lt ks h.choose else 0)=_;rw[dif_pos hx,fn _ _ _ _ hx.choose_spec h]
 have z1:its.length<=Xq:=by
  rw[<- hil,T0];lia
 refine zi6 (vs:=its) hl z1 r (λh2 s' kk=>?_) λws h' c hpm hs kk ha=>?_
 .have hp':Xl (RH s'.heap) its ks:=by
   obtain⟨a,b,c⟩:=zb1 hp;have:=zdz (R:=RH s'.heap) (zs:=its.zip ks) λp hp=>kp _ _ _ _ kk (a p hp);rw[b,c] at this;exact this
  refine VU (kind s' hp' h2) (fun κ s2 ⟨e,hc⟩=>⟨e,λx hx y hy C hC=>?_⟩) λ_ _ z=>z;have mx:x.1∈its:=by
   rw[Uq] at hx;exact(Sf hx).2
  have my:y.1∈its:=by
   rw[Uq] at hy;exact(Sf hy).2
  obtain⟨k,k1,k2⟩:=Jl hp x.1 mx;obtain⟨k',k1',k2'⟩:=Jl hp y.1 my;refine hc x.1 y.1 k k' (kp _ _ _ _ kk k2) (kp _ _ _ _ kk k2') C ?_;have hC':C (decide (r x.1<r y.1)) s':=hC;rw[rk_ k2,rk_ k2',<- W.rank k1] at hC';exact hC'
 .obtain⟨T',hT',eT⟩:=ST.zbY (λt:V×X8×K=>t.2.1) hpm T e2.symm;have hTr:∀t∈T',Tri RV (RH s.heap) t:=λt ht=>hT t (hT'.mem_iff.mp ht);obtain⟨rv',hv'⟩:=zft hTr;rw[<- eT] at rv';have hD:H (s.heap.objs.size+1)=none:=I.hok.fresh (VX _);refine⟨.ref (s.heap.objs.size+1),upd H (s.heap.objs.size+1) (.lst (T'.map (·.1))),I.laid (t':=s.toks) kk (VX _) ⟨?_,ws,c,rv',ha⟩,rfl,q _ _ _ hD hv' (by rw[<- e3];exact hT'.map _) ?_ (by rw[<- e1];exact hT'.map _)⟩
  .rw[rv'.length,hpm.length_eq];exact z1
  .rw[eT,We] at hs;rw[We];refine hs.imp_of_mem λ{x y} hx hy h=>?_;obtain⟨_,_,h1⟩:=hTr x hx;obtain⟨_,_,h2⟩:=hTr y hy;rw[rk_ h1,rk_ h2] at h;have my:y.2.2∈ks:=by
    rw[<- e3];exact XM.mpr ⟨y,hT'.mem_iff.mp hy,rfl⟩
   rw[W.rank my];exact bg (by lia)
end
def zkA:Wk lt2:=by
 refine⟨λx y h=>?_,λx y z h1 h2=>?_⟩
 .cases e:lt2 y x with
  | false=>rfl
  | true =>
   have:=zgt h e;rw[zhB] at this;cases this
 .cases e:lt2 z x with
  | false=>rfl
  | true =>
   by_cases exy:x=y
   .subst exy;rw[e] at h2;exact h2
   .have h3:lt2 x y=true:=by
     have:=zbk (p:=x) (q:=y) exy;rw[h1] at this;cases hh:lt2 x y with
     | true=>rfl
     | false =>
      rw[hh] at this;cases this
    have:=zgt e h3;rw[this] at h2;exact h2
def zeo {h:Heap}{v:X8}{p q:Int×Int}(h1:zv h v p)(h2:zv h v q):p=q:=by
 obtain⟨a,o,n,t,u,e,e1,c1,d1⟩:=h1;obtain⟨a',o',n',t',u',e',e1',c1',d1'⟩:=h2;subst e;cases e';rw[e1] at e1';cases e1';rw[d1] at d1';obtain⟨p1,p2⟩:=p;obtain⟨q1,q2⟩:=q;injection d1' with d1' _
 have e2:[Vo p1 t,Vo p2 u]=[Vo q1 t',Vo q2 u']:=congrArg Array.toList d1';injection e2 with e3 e4
 injection e4 with e4 _
 injection e3 with e3 _
 injection e4 with e4 _
 rw[e3,e4]
section
variable {X:Cx}
def yW:jj X (.builtin "sorted") (λxs H Q=>∃l us ps,xs=[.ref l]/\SqL X.K H l us/\yw H us ps/\us.length<=1000000 /\
  ∀d us' ps',H d=none->yw H us' ps'->ps'.Perm ps->ps'.Pairwise (λp q=>lt2 q p=false)->Q (.ref d) (upd H d (.lst us'))):=by
 intro bQ s σ H xs us' Q I r h;obtain⟨l,us,ps,rfl,hq,ht,hz,q⟩:=h;obtain⟨u,rfl,ru⟩:=vals1 r;cases ru;obtain⟨its,rv,pl,_⟩:=I.list hq;have hp:=yw.pairs I ht rv;refine zdA zkA (RH:=zv) (λh v k k'=>zeo) (λh h' v k kk ⟨a,o,n,t,u,e,e1,r⟩=>⟨a,o,n,t,u,e,kk _ _ e1,r⟩) I pl.isList hz rv ht hp (λs' hp' h2=>?_) λd us' ks' hd h1 h2 h3 _=>q d us' ks' hd h1 h2 h3;obtain⟨fs,hk,hfl,hint⟩:=Zq hp';refine kat_kind (T:=.type "int") hk (by lia) (λv hv=>?_) (by decide) ⟨rfl,λv v' k k' h1 h2 C hC=>?_⟩
 .obtain⟨x,t,rfl⟩:=hint v hv;exact Looks.of_pure rfl
 .exact zhA h1 h2 hC
end
end GS
end L2
namespace PySem.SeqAt
open L2 AutoSeq1 MeetsSeq MeetsSeq2 MeetsSeq3
end PySem.SeqAt
namespace L2
open PySem PySem.Spec PyProof.Rows PySem.W PySem.SeqAt
end L2
namespace PySem.SeqAt
open L2 AutoSeq1 MeetsSeq MeetsSeq2 MeetsSeq3
def ltL:List (Int×Int)->List (Int×Int)->Bool
 | _,[]=>false
 | [],_::_=>true
 | p::r,q::t=>if p=q then ltL r t else lt2 p q
def zep (ps:List (Int×Int)):ltL ps []=false:=by cases ps<;>rfl
theorem zhQ:∀ps:List (Int×Int),ltL ps ps=false
 | []=>rfl
 | p::r=>by
  unfold ltL;rw[br rfl];exact zhQ r
theorem zhR:∀{ps qs:List (Int×Int)},ps≠qs->ltL qs ps=!ltL ps qs
 | [],[],h=>absurd rfl h
 | [],q::t,_=>rfl
 | p::r,[],_=>rfl
 | p::r,q::t,h=>by
  unfold ltL;by_cases e:p=q
  .subst e;rw[br rfl,br rfl];exact zhR λz=>h (by rw[z])
  .rw[bw e,bw (Vr e)];exact zbk e
theorem zgG:∀{ps qs ss:List (Int×Int)},ltL ps qs=true->ltL qs ss=true->ltL ps ss=true
 | ps,[],_,h,_=>by
  rw[zep] at h;cases h
 | _,_::_,[],_,h=>by
  rw[zep] at h;cases h
 | [],_::_,_::_,_,_=>rfl
 | p::r,q::t,x::y,h1,h2=>by
  unfold ltL at *
  by_cases e1:p=q
  .subst e1;rw[br rfl] at h1;by_cases e2:p=x
   .rw[br e2] at h2 ⊢;exact zgG h1 h2
   .rw[bw e2] at h2 ⊢;exact h2
  .rw[bw e1] at h1;by_cases e2:q=x
   .subst e2;rw[bw e1];exact h1
   .rw[bw e2] at h2;have h3:=zgt h1 h2;rw[bw]
    .exact h3
    .intro e;subst e;rw[zhB] at h3;cases h3
def zgH {A:WR}{s:X7}{v v':X8}{p q:Int×Int}(h1:zv s.heap v p)(h2:zv s.heap v' q)(hu:A.units+10<VA):EqAt A s v v' (decide (p=q)):=by
 obtain⟨as,ra⟩:=YZ h1;obtain⟨bs,rb⟩:=YZ h2;have:=eqAt_reads _ _ A s _ _ as bs ra rb rfl rfl (by show A.units+min 1 1<VA;lia);rw[ziM] at this;exact this
def J6 {h:Heap}{xs:Array X8}{ps:List (Int×Int)}(hp:Xl (zv h) xs.toList ps){i:Nat}(hi:i<xs.size):∃p r,ps.drop i=p::r/\ps.drop (i+1)=r/\zv h xs[i] p:=by
 have hl:xs.toList.length=ps.length:=Paired.length hp;rw[X4] at hl;have h2:i<ps.length:=by lia
 obtain⟨a,b,c⟩:=GS.zb1 hp;refine⟨ps[i],ps.drop (i+1),WP h2,rfl,?_⟩;have hz:i<(xs.toList.zip ps).length:=by
  rw[List.length_zip,X4];lia
 have:=a _ (Uo hz);rw[List.getElem_zip] at this;simpa using this
def zi7 (l b:Addr)(items items2:Array X8)(n n2:Nat)(dd dd2:Option Addr)(sl sl2:Array (Option X8))(ps qs:List (Int×Int))(k:Nat) :
  ∀i:Nat,items.size-i=k->i<=items.size->i<=items2.size->Meets (UR.«list.__eq__.loop» ⟨[.ref l,.ref b,Ul i,Ul 0],[]⟩)
   (λA R s=>s.heap.get? l=some { cls:=.type "list",dict:=dd,data:=.seq items n,slots:=sl }/\s.heap.get? b=some { cls:=.type "list",dict:=dd2,data:=.seq items2 n2,slots:=sl2 } /\
    Xl (zv s.heap) items.toList ps/\Xl (zv s.heap) items2.toList qs/\A.units+20<VA /\
    R (.ok (.ret (.bool (ltL (ps.drop i) (qs.drop i))))) s):=by
 induction k with
 | zero =>
  intro i hk h1 h2 prog w A R s h;obtain⟨hp,g,d,tk,os⟩:=s;obtain⟨hl,hb,hp1,hp2,hu,h⟩:=h;have l1:items.toList.length=ps.length:=Paired.length hp1;have l2:items2.toList.length=qs.length:=Paired.length hp2;rw[X4] at l1 l2;wp_walk using Wa hl,Wa hb;have hi1:items[((i:Nat):Int).toNat]?=none:=by simp;lia
  rw[hi1];have hd:ps.drop i=[]:=by simp;lia
  have e:ltL (ps.drop i) (qs.drop i)=decide (items.size<items2.size):=by
   rw[hd];by_cases hq:i<qs.length
   .rw[WP hq];exact(bu (by lia)).symm
   .rw[List.drop_of_length_le (by lia)];exact(bg (by lia)).symm
  rw[e] at h;wp_walk using Wa hl,Wa hb;exact h
 | succ k ih =>
  intro i hk h1 h2 prog w A R s h;obtain⟨hp,g,d,tk,os⟩:=s;obtain⟨hl,hb,hp1,hp2,hu,h⟩:=h;have l1:items.toList.length=ps.length:=Paired.length hp1;have l2:items2.toList.length=qs.length:=Paired.length hp2;rw[X4] at l1 l2;wp_walk using Wa hl,Wa hb;have hlt:i<items.size:=by lia
  have hi1:items[((i:Nat):Int).toNat]?=some items[i]:=by simp[hlt]
  by_cases hlt2:i<items2.size
  .have hi2:items2[((i:Nat):Int).toNat]?=some items2[i]:=by simp[hlt2]
   have hc:((i:Int)+1)=((i+1:Nat):Int):=by push_cast;rfl
   obtain⟨p,r,ep,er,rp⟩:=J6 hp1 hlt;obtain⟨q,t,eq,et,rq⟩:=J6 hp2 hlt2;rw[hi1,hi2];refine ZB (zgH rp rq (by show A.units+1+10<VA;lia) prog w _ _ ?_);rw[ep,eq] at h;unfold ltL at h;by_cases e:p=q
   .rw[br e] at h;rw[bu e];wp_walk;rw[hc];exact⟨UC plain_eq_loop _,VJ entry_eq_loop (by
     rw[V5 plain_eq_loop _];exact ih (i+1) (by lia) (by lia) (by lia) prog w A R _ ⟨hl,hb,hp1,hp2,hu,by rw[er,et];exact h⟩)⟩
   .rw[bw e] at h;rw[bg e];simp only[Ww,if_false];refine ZB (RO hl rfl (ZB (RO hb rfl ?_)));rw[hi1,hi2];exact ZB (Qk.pairs rp rq (by show A.units+1<VA;lia) prog w _ _ (XS h))
  .have hi2:items2[((i:Nat):Int).toNat]?=none:=by simp;lia
   rw[hi1,hi2];have hd:qs.drop i=[]:=by simp;lia
   rw[hd,zep,show false=decide (items.size<items2.size) from (bg (by lia)).symm] at h;wp_walk using Wa hl,Wa hb;exact h
def zgI (l b:Addr)(items items2:Array X8)(n n2:Nat)(dd dd2:Option Addr)(sl sl2:Array (Option X8))(ps qs:List (Int×Int)) :
  Meets (UR.«list.__lt__» ⟨[.ref l,.ref b],[]⟩)
   (λA R s=>s.heap.get? l=some { cls:=.type "list",dict:=dd,data:=.seq items n,slots:=sl }/\s.heap.get? b=some { cls:=.type "list",dict:=dd2,data:=.seq items2 n2,slots:=sl2 } /\
    Xl (zv s.heap) items.toList ps/\Xl (zv s.heap) items2.toList qs/\A.units+20<VA/\R (.ok (.ret (.bool (ltL ps qs)))) s):=by
 intro prog w A R s h;obtain⟨hp1,g1,d1,tk1,os1⟩:=s;obtain⟨hL,hB,hp,hq,hu,h⟩:=h;have fL:=sub_list_list;wp_walk using Wa hL,Wa hB;exact⟨UC plain_eq_loop _,VJ entry_eq_loop (by
  rw[V5 plain_eq_loop _];exact zi7 l b items items2 n n2 dd dd2 sl sl2 ps qs _ 0 rfl (WT _) (WT _) prog w A R _ ⟨hL,hB,hp,hq,hu,by simpa using h⟩)⟩
structure ListPairs (h:Heap)(v:X8)(ps:List (Int×Int)):Prop where
 ex:∃a o xs n,v=.ref a/\h.get? a=some o/\o.cls=.type "list"/\o.data=.seq xs n/\Xl (zv h) xs.toList ps
def zkB {prog:Xm}{w:WZ}{A:WR}{E:X8->X7->Prop}{s:X7}{v v':X8}{ps qs:List (Int×Int)}{C:Bool->X7->Prop}(hv:ListPairs s.heap v ps)(hv':ListPairs s.heap v' qs)(hu:A.units+30<VA)(h:C (ltL ps qs) s) :
  Xk (Xn prog w) A (PyProof.Rows.keyLt' PyProof.Rows.oneType' v v') C E s:=by
 obtain⟨a,⟨cls,dd,data,sl⟩,xs,n,rfl,e1,c1,d1,p1⟩:=hv;obtain⟨a',⟨cls2,dd2,data2,sl2⟩,xs',n',rfl,e1',c1',d1',p1'⟩:=hv';simp only at c1 d1 c1' d1';subst c1 d1 c1' d1';rw[PyProof.Rows.keyLt'_oneType,PyProof.Rows.oneLt'_eq];simp only[if_true];refine ZB (wpAny_cRoomFor (by lia) ?_);refine ZB (wpAny_callSpecialIfBound?_slot (T:="list") ⟨_,e1,rfl⟩ F.slot_list_lt ?_);refine R9 F.slot_list_lt ⟨_,e1,rfl⟩ F.entry_list_lt (F.args_list_lt_2 _ _) (zgI a a' xs xs' n n' dd dd2 sl sl2 ps qs) ⟨e1,e1',p1,p1',(by lia),?_⟩;exact VT h
end PySem.SeqAt
namespace L2
open PySem PySem.Spec PyProof.Rows PySem.W PySem.SeqAt
namespace GS
def zo0:Wk ltL:=by
 refine⟨λx y h=>?_,λx y z h1 h2=>?_⟩
 .cases e:ltL y x with
  | false=>rfl
  | true =>
   have:=zgG h e;rw[zhQ] at this;cases this
 .cases e:ltL z x with
  | false=>rfl
  | true =>
   by_cases exy:x=y
   .subst exy;rw[e] at h2;exact h2
   .have h3:ltL x y=true:=by
     have:=zhR (ps:=x) (qs:=y) exy;rw[h1] at this;cases hh:ltL x y with
     | true=>rfl
     | false =>
      rw[hh] at this;cases this
    have:=zgG e h3;rw[this] at h2;exact h2
def LstAt (H:Hp)(v:V)(ps:List (Int×Int)):Prop:=∃a ws,v=V.ref a/\H a=some (.lst ws)/\yw H ws ps
def zi8 {h:Heap}{vs:List X8}{ps qs:List (Int×Int)}(hp:Xl (zv h) vs ps):Xl (zv h) vs qs->ps=qs:=by
 induction hp generalizing qs with
 | nil =>
  intro hq;cases hq;rfl
 | cons a _ ih =>
  intro hq;cases hq with
  | cons b u=>rw[zeo a b,ih u]
def zkC {h:Heap}{v:X8}{ps qs:List (Int×Int)}(h1:ListPairs h v ps)(h2:ListPairs h v qs):ps=qs:=by
 obtain⟨a,o,xs,n,e,e1,c1,d1,p1⟩:=h1;obtain⟨a',o',xs',n',e',e1',c1',d1',p1'⟩:=h2;subst e;cases e';rw[e1] at e1';cases e1';rw[d1] at d1';injection d1' with d1' _
 subst d1';exact zi8 p1 p1'
def Zp {h h':Heap}(k:∀b o,h.get? b=some o->h'.get? b=some o){vs:List X8}{ps:List (Int×Int)}(hp:Xl (zv h) vs ps):Xl (zv h') vs ps:=by
 induction hp with
 | nil=>exact .nil
 | cons q _ ih =>
  obtain⟨a,o,n,t,u,e,e1,r⟩:=q;exact .cons ⟨a,o,n,t,u,e,k _ _ e1,r⟩ ih
section
variable {X:Cx}{bQ:List (Addr×Obj)}{σ:St}{H:Hp}{s:X7}
def zgJ (I:Inv X bQ σ H s){us:AE}{ks:List (List (Int×Int))}{its:List X8}(hp:Xl (LstAt H) us ks)(r:Vals us its):Xl (ListPairs s.heap) its ks:=by
 induction hp generalizing its with
 | nil =>
  cases r;exact .nil
 | cons q _ ih =>
  obtain⟨a,ws,e,h,ht⟩:=q;subst e;cases r with
  | cons r1 r2 =>
   cases r1;refine .cons ?_ (ih r2);obtain⟨z,its,n,rv,hl,e⟩:=I.lstM h;exact⟨a,_,its.toArray,n,rfl,e,rfl,rfl,by rw[List.toList_toArray];exact yw.pairs I ht rv⟩
end
def zgK {h:Heap}{its:List X8}{ks:List (List (Int×Int))}(hp:Xl (ListPairs h) its ks):∀v∈its,∃a o,v=WA a/\h.get? a=some o/\o.cls=.type "list":=by
 induction hp with
 | nil=>exact λv hv=>nomatch hv
 | cons q _ ih =>
  intro v hv;rcases XG.mp hv with rfl | hv
  .obtain⟨a,o,xs,n,e,e1,c,_⟩:=q;exact⟨a,o,e,e1,c⟩
  .exact ih v hv
section
variable {X:Cx}
def Y5 (hu:X.A.units+64<VA):jj X (.builtin "sorted") (λxs H Q=>∃l us ks,xs=[.ref l]/\SqL X.K H l us/\Xl (LstAt H) us ks/\us.length<=1000000 /\
  ∀d us' ks',H d=none->Xl (LstAt H) us' ks'->ks'.Perm ks->ks'.Pairwise (λp q=>ltL q p=false)->us'.Perm us->Q (.ref d) (upd H d (.lst us'))):=by
 intro bQ s σ H xs us' Q I r h;obtain⟨l,us,ks,rfl,hq,ht,hz,q⟩:=h;obtain⟨u,rfl,ru⟩:=vals1 r;cases ru;obtain⟨its,rv,pl,_⟩:=I.list hq;have hp:=zgJ I ht rv;refine zdA zo0 (RH:=ListPairs) (λh v k k'=>zkC) (λh h' v k kk ⟨a,o,xs,n,e,e1,c,d,r⟩=>⟨a,o,xs,n,e,kk _ _ e1,c,d,Zp kk r⟩) I pl.isList hz rv ht hp (λs' hp' h2=>?_) λd us' ks' hd h1 h2 h3 h4=>q d us' ks' hd h1 h2 h3 h4;refine kas_kind (T:=.type "list") h2 (λv hv=>?_) (by decide) (by decide) ⟨rfl,λv v' k k' h1 h2 C hC=>?_⟩
 .obtain⟨a,o,rfl,e1,c1⟩:=zgK hp' v hv;exact c1 ▸ (Looks.ld e1).andThen .now
 .exact zkB h1 h2 (by show X.A.units+1+1+30<VA;lia) hC
end
end GS
open PySem PySem.Spec PyProof.Rows
def HasDef (K:XW)(x:Str)(st:Stmt):Prop:=∃(f:Addr) (oc:X8) (od an:Option Addr) (sl:Array (Option X8)) (kV dc pm cd ct:X8),XN K XO x=some (some (.ref f))/\K.lookup f=some ⟨oc,od,.func (UI x x (Jz st) (yK st) (zp st) .none kV dc pm an cd ct),sl⟩/\Ta K cd x=true/\TZ K (.ref f)=true
def HasDef.at {K:XW}{h:Heap}{mg:Str->Option X8}{x:Str}{st:Stmt}{ps:AD}(H:HasDef K x st)(X:K.In h)(G:h.Ns XO mg)
  (hb:∀(kV doc pm:X8) (an:Option Addr) (cdv ct:X8) (us:List X8),us.length=ps.length->bindArgs (UI x x (Jz st) (yK st) (zp st) .none kV doc pm an cdv ct) ⟨us,[]⟩=pure (ps.zip us)):∃f fd,zm K mg x st ps f fd:=by
 obtain⟨f,oc,od,an,sl,kV,dc,pm,cd,ct,a,l,c,k⟩:=H;have F:=zjY (st:=st) l c k;exact⟨f,_,F,Wp X G a,F.binds hb⟩
open PySem PySem.W
def us0 {P:List X8->Prop}(h:P []):∀us:List X8,us.length=0->P us:=by
 intro us e;cases us with
 | nil=>exact h
 | cons a t=>cases e
def usS {n:Nat}{P:List X8->Prop}(h:∀a t,t.length=n->P (a::t)):∀us:List X8,us.length=n+1->P us:=by
 intro us e;cases us with
 | nil=>cases e
 | cons a t=>exact h a t (Nat.succ.inj e)
def us1 {P:List X8->Prop}(h:∀a,P [a]):∀us:List X8,us.length=1->P us:=usS λa=>us0 (h a)
def us2 {P:List X8->Prop}(h:∀a b,P [a,b]):∀us:List X8,us.length=2->P us:=usS λa=>us1 (h a)
def us3 {P:List X8->Prop}(h:∀a b c,P [a,b,c]):∀us:List X8,us.length=3->P us:=usS λa=>us2 (h a)
def us4 {P:List X8->Prop}(h:∀a b c d,P [a,b,c,d]):∀us:List X8,us.length=4->P us:=usS λa=>us3 (h a)
open PySem PySem.Spec PyProof.Rows PySem.W
namespace ST
variable {X:Cx}
def zcV (hh:X.A.handled=none):jj X (.builtin "sorted") (λxs H Q=>∃l ks,xs=[.ref l]/\H l=some (zfq X.prog X.w l ks)/\(∀q∈ks,H q.1=some (.tup [.int q.2.1,.int q.2.2]))/\(ks.map (·.2)).Nodup/\ks.length<64 /\
  ∀d us' ps',H d=none->yw H us' ps'->ps'.Perm (ks.map (·.2))->Up2 ps'->Q (.ref d) (upd H d (.lst us'))):=by
 intro bQ s σ H xs us' Q I r h;obtain⟨l,ks,rfl,hl,hT,hnd,h64,q⟩:=h;obtain⟨u,rfl,ru⟩:=vals1 r;cases ru;obtain⟨⟨es,ep,t,ho,he,G,hled,hpl⟩,_,_⟩:=(show jt X.prog X.w H s.heap l (zfq X.prog X.w l ks) from I.hok l _ hl);have hkl:ks.length=es.size:=by
  rw[<- X4,he,Y1]
 apply RP kind_sorted plain_sorted entry_sorted (args_sorted1 _);unfold UR.«sorted»;refine ZB (m:=checkCount "sorted" 1 1 _) (XS (ZB (zfp (by simp[hh]) ho G hled hpl (by lia) λits h1 tk hpm kk1 zle=>?_)));have hvs:es.toList.map (·.2)=ks.map λq=>WA q.1:=by
  rw[he,Wg];rfl
 rw[hvs] at hpm;obtain⟨js,hjp,hj⟩:=zbY (λq:Addr×(Int×Int)=>WA q.1) hpm ks rfl;have hTj:∀q∈js,H q.1=some (.tup [.int q.2.1,.int q.2.2]):=λq hq=>hT q (hjp.mem_iff.mp hq);have hndj:(js.map (·.2)).Nodup:=(hjp.map (·.2)).nodup_iff.mpr hnd;have hjl:js.length=ks.length:=hjp.length_eq;have hil:its.length=js.length:=by rw[hj,Y1]
 have rv:∀{js:List (Addr×(Int×Int))},Vals (js.map λq=>V.ref q.1) (js.map λq=>WA q.1):=λ{js}=>by
  induction js with
  | nil=>exact .nil
  | cons a t ih=>exact .cons rfl ih
 have ht:∀{js:List (Addr×(Int×Int))},(∀q∈js,H q.1=some (.tup [.int q.2.1,.int q.2.2]))->yw H (js.map λq=>V.ref q.1) (js.map (·.2)):=λ{js}=>by
  induction js with
  | nil=>exact λ_=>.nil
  | cons a t ih=>exact λh=>.cons ⟨a.1,rfl,h a XU⟩ (ih λq hq=>h q (XR _ hq))
 have hp0:Xl (zv s.heap) its (js.map (·.2)):=by
  rw[hj];exact yw.pairs I (ht hTj) rv
 generalize hps:js.map (·.2)=ps at hp0 hndj;have hlp:its.length=ps.length:=Paired.length hp0;have W:=GS.zkA;have ip:∀q:Addr×(Int×Int),H q.1=some (.tup [.int q.2.1,.int q.2.2])->zv s.heap (.ref q.1) q.2:=λq hq=>by
  have:=yw.pairs I (.cons ⟨q.1,rfl,hq⟩ .nil:yw H [V.ref q.1] [q.2]) (.cons rfl .nil:Vals [V.ref q.1] [WA q.1]);cases this with
  | cons h _=>exact h
 classical
 let r:X8->Int:=λv=>if h:∃k,zv s.heap v k then GS.rkK lt2 ps h.choose else 0
 have rk_:∀{v:X8} {k:Int×Int},zv s.heap v k->r v=GS.rkK lt2 ps k:=λ{v k} h=>by
  have hx:∃k,zv s.heap v k:=⟨k,h⟩;show (if h:∃k,zv s.heap v k then GS.rkK lt2 ps h.choose else 0)=_;rw[dif_pos hx,GS.zeo hx.choose_spec h]
 have small:its.length<=Xq:=by rw[T0];lia
 refine ZB (OV ?_ small);have hoL:(h1.push (Uk "list" its.toArray 0)).get? h1.objs.size=some (Uk "list" its.toArray 0):=W5 _ rfl;have kL:∀b o,s.heap.get? b=some o->(h1.push (Uk "list" its.toArray 0)).get? b=some o:=λb o e=>XY _ (kk1 b o e);have ne:∀b o,s.heap.get? b=some o->b≠h1.objs.size:=λb o e=>Xe (XE (kk1 b o e));show Xk _ _ _ _ _ { s with heap:=h1.push (Uk "list" its.toArray 0),toks:=tk };refine ZB (Wz (UZ slot_list_sort ⟨_,hoL,rfl⟩ entry_list_sort (GS.zdy (s:={ s with heap:=h1.push (Uk "list" its.toArray 0),toks:=tk }) hoL small r (λh2 s' kk=>?_) ?_) (args_list_sort _)))
 .have hp':=Zp (λb o e=>kk b o (ne b o e) (kL b o e)) hp0;obtain⟨fs,hk,hfl,hint⟩:=Zq hp';refine kat_kind (T:=.type "int") hk (by lia) (λv hv=>?_) (by decide) ⟨rfl,λx hx y hy C hC=>?_⟩
  .obtain⟨x,t,rfl⟩:=hint v hv;exact Looks.of_pure rfl
  .have mx:x.1∈its:=by
    rw[Uq] at hx;exact(Sf hx).2
   have my:y.1∈its:=by
    rw[Uq] at hy;exact(Sf hy).2
   obtain⟨k,k1,k2⟩:=GS.Jl hp0 x.1 mx;obtain⟨k',k1',k2'⟩:=GS.Jl hp0 y.1 my;have kp:∀{v:X8} {k:Int×Int},zv s.heap v k->zv s'.heap v k:=λ{v k} ⟨a,o,n,t,u,e,e1,r⟩=>⟨a,o,n,t,u,e,kk _ _ (ne _ _ e1) (kL _ _ e1),r⟩;have hC':C (decide (r x.1<r y.1)) s':=hC;rw[rk_ k2,rk_ k2',<- W.rank k1] at hC';exact zhA (kp k2) (kp k2') hC'
 .intro ws h' c hpm' hs kk ha;obtain⟨js',hjp',ej⟩:=zbY (λq:Addr×(Int×Int)=>WA q.1) hpm' js hj;have hD:H h1.objs.size=none:=I.hok.fresh zle;have hT':∀q∈js',H q.1=some (.tup [.int q.2.1,.int q.2.2]):=λq hq=>hTj q (hjp'.mem_iff.mp hq);have rv':Vals (js'.map λq=>V.ref q.1) ws:=by
   rw[ej];exact rv
  have nd':(js'.map (·.2)).Nodup:=(hjp'.map (·.2)).nodup_iff.mpr (by rw[hps];exact hndj);have hup:Up2 (js'.map (·.2)):=by
   unfold Up2;unfold OQ at nd';rw[We] at nd' ⊢;rw[ej,We] at hs;refine(hs.and nd').imp_of_mem λ{x y} hx hy ⟨h1,h2⟩=>?_;rw[rk_ (ip x (hT' x hx)),rk_ (ip y (hT' y hy))] at h1;have my:y.2∈ps:=by
    rw[<- hps];exact XM.mpr ⟨y,hjp'.mem_iff.mp hy,rfl⟩
   have e1:lt2 y.2 x.2=false:=by
    rw[W.rank my];exact bg (by lia)
   have e2:=zbk h2;rw[e1] at e2;cases hh:lt2 x.2 y.2 with
   | true=>rfl
   | false =>
    rw[hh] at e2;cases e2
  refine⟨_,rfl,XS ⟨_,rfl,.ref h1.objs.size,upd H h1.objs.size (.lst (js'.map λq=>V.ref q.1)),I.laid (t':=tk) (λb o e=>kk b o (ne b o e) (kL b o e)) zle ⟨?_,_,c,rv',ha⟩,rfl,q _ _ _ hD (ht hT') ((hjp'.trans hjp).map _) hup⟩⟩;rw[rv'.length,hpm'.length_eq];exact small
end ST
inductive Rd1 (σ:St)(i:Nat)(Q:VK)(H:Hp):Prop
 | mk (v:V) (h:σ[i]?=some (some v)) (q:Q v H):Rd1 σ i Q H
def tVS (i:Nat):TE:=fun σ H Q=>Rd1 σ i Q H
section
variable {X:Cx}
def pvS (i:Nat){x:Str}{pos:Pos}(hN:X.N[i]?=some x:=by rfl)(hv:Vis X.env.scope x:=by first | exact Vz rfl | exact QR (Vz rfl) | exact QR (QR rfl))(hd:(x==("__debug__":Str))=false:=by decide)
  (hcd:(x==("__classdict__":Str))=false:=by decide):PE X (.Name x pos) (tVS i):=by
 intro bQ s σ H Q I h;obtain⟨v,e,q⟩:=h;exact pv i hN hv hd hcd bQ s σ H Q I ⟨v,e,q⟩
def OpR.imp {f:X8->X8->Sem X8}{r r':R2}(h:OpR X f r)(k:∀x y H Q,r' x y H Q->r x y H Q):OpR X f r':=λbQ s σ H x y v u Q I rx ry z=>h bQ s σ H x y v u Q I rx ry (k x y H Q z)
def IxR.imp {r r':R2}(h:IxR X r)(k:∀x y H Q,r' x y H Q->r x y H Q):IxR X r':=λvalue slice bQ s σ H x y v u Q I rx ry z hs=>h value slice bQ s σ H x y v u Q I rx ry (k x y H Q z) hs
inductive SI0 (g:Int->Int->V)(x y:V)(H:Hp)(Q:VK):Prop
 | mk (i j:Int) (hx:x=.int i) (hy:y=.int j) (q:Q (g i j) H):SI0 g x y H Q
inductive SI (C:Int->Int->Prop)(g:Int->Int->V)(x y:V)(H:Hp)(Q:VK):Prop
 | mk (i j:Int) (hx:x=.int i) (hy:y=.int j) (hc:C i j) (q:Q (g i j) H):SI C g x y H Q
def OpR.s0 {f:X8->X8->Sem X8}{g:Int->Int->V}(h:OpR X f (rI0 g)):OpR X f (SI0 g):=h.imp λ_ _ _ _ ⟨i,j,a,b,q⟩=>⟨i,j,a,b,q⟩
def OpR.s1 {f:X8->X8->Sem X8}{C:Int->Int->Prop}{g:Int->Int->V}(h:OpR X f (rI C g)):OpR X f (SI C g):=h.imp λ_ _ _ _ ⟨i,j,a,b,c,q⟩=>⟨i,j,a,b,c,q⟩
def jZ:OpR X (UJ .Add) (SI0 λi j=>.int (i+j)):=zov.s0
def YB:OpR X (UJ .Sub) (SI0 λi j=>.int (i-j)):=JP.s0
def Zu:OpR X (UJ .Mod) (SI (λ_ j=>0<j) λi j=>.int (i%j)):=zow.s1
def YC:OpR X (UJ .FloorDiv) (SI zaK λi j=>.int (i/j)):=zjZ.s1
def zeq:OpR X (UJ .RShift) (SI (λ_ j=>0<=j) λi j=>.int (i/2^j.toNat)):=zox.s1
def zgL:OpR X (Wj .Lt) (SI0 λi j=>.bl (decide (i<j))):=zjR.s0
def zer:OpR X (Wj .LtE) (SI0 λi j=>.bl (decide (i<=j))):=zpZ.s0
def zes:OpR X (Wj .Gt) (SI0 λi j=>.bl (decide (j<i))):=znI.s0
inductive zo1 (K:XW)(x y:V)(H:Hp)(Q:VK):Prop
 | mk (p:Addr) (xs:AE) (i:Int) (v:V) (hx:x=.ref p) (hy:y=.int i) (hq:SqL K H p xs) (he:atI xs i=some v) (q:Q v H):zo1 K x y H Q
inductive zo2 (K:XW)(x y:V)(H:Hp)(Q:VK):Prop
 | mk (p:Addr) (xs:AE) (i:Int) (v:V) (hx:x=.ref p) (hy:y=.int i) (hq:SqT K H p xs) (he:atI xs i=some v) (q:Q v H):zo2 K x y H Q
inductive zqh (x y:V)(H:Hp)(Q:VK):Prop
 | mk (z:Str) (i:Int) (c:Nat) (hx:x=.str z) (hy:y=.int i) (hl:z.length<=Xq) (he:atI z.cps.toList i=some c) (q:Q (.str ⟨#[c]⟩) H):zqh x y H Q
def qC:IxR X (zo1 X.K):=xT.imp λ_ _ _ _ ⟨p,xs,i,v,a,b,c,d,q⟩=>⟨p,xs,i,v,a,b,c,d,q⟩
def qA:IxR X (zo2 X.K):=qO.imp λ_ _ _ _ ⟨p,xs,i,v,a,b,c,d,q⟩=>⟨p,xs,i,v,a,b,c,d,q⟩
def zhS:IxR X zqh:=zoD.imp λ_ _ _ _ ⟨z,i,c,a,b,d,e,q⟩=>⟨z,i,c,a,b,d,e,q⟩
def zar {K:XW}(hK:X.K=K):IxR X (zo1 K):=hK ▸ qC
def zkD {K:XW}(hK:X.K=K):IxR X (zo2 K):=hK ▸ qA
inductive SB (x:V)(Q:Bool->Hp->Prop)(H:Hp):Prop
 | mk (k:Bool) (h:x=.bl k) (q:Q k H):SB x Q H
def zo3 (t:TE):TT:=fun σ H Q=>t σ H λx H'=>SB x Q H'
def zV {op:Oq}{r:R2}{a b:Expr}{ta tb:TE}{pos:Pos}(ho:OpR X (Wj op) r)(ha:PE X a ta)(hb:PE X b tb)(hm:Tx op b=false):PT X (.Compare a [op] [b] pos) (zo3 (tOp r ta tb)):=by
 intro bQ s σ H Q I h;refine SV (thn (ha bQ s σ H _ I h) λv s1 ⟨x,H1,I1,r1,q1⟩=>thn (hb bQ s1 σ H1 _ I1 q1) λu s2 ⟨y,H2,I2,r2,q2⟩=>thn (ho bQ s2 σ H2 x y v u _ I2 r1 r2 q2) λc s3 ⟨z,H3,I3,r3,q3⟩=>?_) hm;obtain⟨k,rfl,q⟩:=q3;cases r3;exact VT ⟨H3,I3,q⟩
inductive zqi (K:XW)(xs:AE)(H:Hp)(Q:VK):Prop
 | mk (p:Addr) (ys:AE) (hx:xs=[.ref p]) (hq:SqL K H p ys\/SqT K H p ys) (q:Q (.int ys.length) H):zqi K xs H Q
def zO:jj X (.builtin "len") (zqi X.K):=λbQ s σ H xs us Q I r ⟨p,ys,a,b,q⟩=>qk bQ s σ H xs us Q I r ⟨p,ys,a,b,q⟩
inductive zqj (x:V)(vs:AE)(H:Hp)(Q:VK):Prop
 | mk (l:Addr) (xs:AE) (y:V) (hx:x=.ref l) (hv:vs=[y]) (hl:H l=some (.lst xs)) (hz:xs.length<Xq) (q:Q .non (upd H l (.lst (xs++[y])))):zqj x vs H Q
def Jm:MtM X "list.append" zqj:=λbQ s σ H x xs v us Q I rx rv ⟨l,ys,y,a,b,c,d,q⟩=>Yy bQ s σ H x xs v us Q I rx rv ⟨l,ys,y,a,b,c,d,q⟩
end
section
variable {X:Cx}{k k0:Nat}{f:Addr}{fd:XD}{ps:AD}{sp:Sp}{x:Str}{st:Stmt}{p pos:Pos}{e:Expr}{es:List Expr}{t:TA}
def pc0 (F:qa X.prog X.w X.K X.mg X.base CX0 k f fd ps sp)(hr:Jx k0 X.A)(D:zm X.K X.mg x st ps f fd)(ha:PA X (e::es) t)(hk:k<=k0:=by decide)(hg:Gl X x:=by rfl)
  (hdb:(x==("__debug__":Str))=false:=by decide) (he:WY (e::es) X.env=(false,eval e X.env)::WY es X.env:=by rfl) (hpl:(Tr pos (WY es X.env)).any (·.1)=false:=by rfl) :
  PE X (.Call (.Name x p) (e::es) [] pos) (zhx sp [] E0 t):=zbh F (hr.mono hk) hg D.g D.F.kp D.b .nil zp4 ha hdb he hpl
def pcX (F:qa X.prog X.w X.K X.mg X.base (CXE X.prog X.w) k f fd ps sp)(hr:Jx k0 X.A)(D:zm X.K X.mg x st ps f fd)(ha:PA X (e::es) t)(hk:k<=k0:=by decide)(hg:Gl X x:=by rfl)
  (hdb:(x==("__debug__":Str))=false:=by decide) (he:WY (e::es) X.env=(false,eval e X.env)::WY es X.env:=by rfl) (hpl:(Tr pos (WY es X.env)).any (·.1)=false:=by rfl) :
  PE X (.Call (.Name x p) (e::es) [] pos) (zhx sp [] EF t):=zbh F (hr.mono hk) hg D.g D.F.kp D.b .nil zp6 ha hdb he hpl
def pcL {E:XK}(L:jB X E)(F:qa X.prog X.w X.K X.mg X.base (CXE X.prog X.w) k f fd ps sp)(hr:Jx k0 X.A)(D:zm X.K X.mg x st ps f fd)(ha:PA X (e::es) t)(hk:k<=k0:=by decide)(hg:Gl X x:=by rfl)
  (hdb:(x==("__debug__":Str))=false:=by decide) (he:WY (e::es) X.env=(false,eval e X.env)::WY es X.env:=by rfl) (hpl:(Tr pos (WY es X.env)).any (·.1)=false:=by rfl) :
  PE X (.Call (.Name x p) (e::es) [] pos) (zhx sp [] E t):=zbh F (hr.mono hk) hg D.g D.F.kp D.b .nil (jB.passes L) ha hdb he hpl
end
def Jy:0<=Xq:=by decide
def sz_1:1<=Xq:=by decide
def jP:2<=Xq:=by decide
def zet:3<=Xq:=by decide
def zq4:4<=Xq:=by decide
def zq5:6<=Xq:=by decide
section
variable {M:O2}{A:WR}{E:X8->X7->Prop}{env:Env}{s:X7}
def zqk (M:O2)(A:WR)(E:X8->X7->Prop)(Q:X8->X7->Prop)(acc:X8)(ce:Env)(r:Rb)(s':X7):Prop :=
 ∃m,s'.heap.Ns ce.locals m/\∀h' m',h'.Ns ce.locals m'->Wh ce.locals s'.heap h'->match r with
  | .ok _=>Q acc { s' with heap:=h' }
  | .error x=>Xk M A (passOn "comprehension.variables-let-go" x ce:Sem X8) (λ_ _=>False) E { s' with heap:=h' }
def zmO {e:Expr}{scope:Vi}{pos:Pos}{nacc fst:Sem X8}{g:Comprehension}{gs:List Comprehension}{cl:List (Str×Addr)}{Q:X8->X7->Prop}
  (hc:clausesOf e=g::gs) (hs:∀x,Wq g.iter env x=pure x) (hcl:QQ scope env=pure cl)
  (hk:scope.kind=.function) (hn:∀x∈scope.names,x.2=.local->scope.names.lookup x.1=some .local)
  (h:Xk M A fst (λx s1=>Xk M A (Ov x) (λit s2=>Xk M A nacc (λacc s3 =>
   Xk M A (Pn scope env.globals cl [] env.qual none .none (some env)) (λce s4 =>
    T8 M A (.compStart e 0 it acc { ce with scope:=Vl scope env }) (zqk M A E Q acc { ce with scope:=Vl scope env }) s4) E s3) E s2) E s1) E s) :
  Xk M A (SD e scope env pos nacc false fst none) Q E s:=by
 unfold SD;rw[hcl,hc];refine ZB (VU h (λx s1 h1=>?_) λ_ _ z=>z);refine ZB (SG (ZB (Pu (hs x) (ZB (Wz ?_)))));refine VU h1 (λit s2 h2=>?_) λ_ _ z=>z;refine wpAny_standIf (ZB (VU h2 (λacc s3 h3=>?_) λ_ _ z=>z));refine ZB (XS (ZB (VU h3 (λce s4 h4=>?_) λ_ _ z=>z)));dsimp only;have own:∀x∈(scope.names.filter λy=>(y.2 == .local || y.2 == .cell)&&y.1 != (".0":Str)).reverse,x.2=.local->Env.kindOf { ce with scope:=Vl scope env } x.1=some .local :=
  λx hx hl=>lookup_relabel_local (hn x (X9.mp (List.mem_reverse.mp hx)).1 hl)
 refine Wz (ZB (SC (Wz (wpAny_run (TN h4 λr s5 hr=>?_)))));obtain⟨m,hm,hr⟩:=hr;cases r with
 | ok f=>exact ZB (Wz (wpAny_comp_letGo (cenv:={ ce with scope:=Vl scope env }) hk _ s5 m own hm λh' m' hn sb=>XS (hr h' m' hn sb)))
 | error x=>exact ZB (Wz (wpAny_comp_letGo (cenv:={ ce with scope:=Vl scope env }) hk _ s5 m own hm λh' m' hn sb=>VU (hr h' m' hn sb) (λ_ _ z=>z.elim) λ_ _ z=>z))
end
def zi9 (x:X8)(scope:Vi)(cl:List (Str×Addr))(C:Addr)(env:Env):OF x (Sa scope cl C env)=OF x env:=rfl
def zfu {o:Obj}{ts:Array X8}{x:X8}(hd:o.data=.fields ts)(h3:ts[3]?=some x):Ua (·.setIfInBounds 3 x) o=o:=by
 obtain⟨c,d,dat,sl⟩:=o;have hd':dat=.fields ts:=hd;subst hd';show (⟨c,d,.fields (ts.setIfInBounds 3 x),sl⟩:Obj)=⟨c,d,.fields ts,sl⟩;have:ts.setIfInBounds 3 x=ts:=by
  refine Array.ext_getElem? λi=>?_;rw[Vb];split
  .rename_i z;subst z;rw[br (V9.mp h3).1,h3]
  .rfl
 rw[this]
section
variable {M:O2}{A:WR}{Ex:X8->X7->Prop}{s:X7}
def zgM {base:Heap}{l:List Env}{e L:Addr}{cls a0:X8}{Q:Unit->X7->Prop}(R:OO base l e cls a0 L s.heap)
  (h:∀h',OO base l e cls a0 L h'->(∀b,h'.get? b=s.heap.get? b)->Q () { s with heap:=h' }):Xk M A (setFlight (.ref e) (some L)) Q Ex s:=by
 obtain⟨k1,k2,k3,oe,vs,T,oT,ts,he,hc,hd,h1,hn,hTe,hT,hdT,h3⟩:=R;have hsz:3<ts.size:=(V9.mp h3).1;unfold setFlight;refine ZB (wpAny_field he hd h1 ?_);rw[br (show (WA T != Value.none)=true from by simp)];refine R4 hT hdT hsz ?_;have same:∀b,(s.heap.update T (Ua (·.setIfInBounds 3 (Ul L)))).get? b=s.heap.get? b:=λb=>by
  by_cases hb:b=T
  .subst hb;rw[WD _ hT (Obj.isFreed_of_fields (Obj.data_mapFields hdT _)),hT,zfu hdT h3]
  .exact VG _ _ (Vr hb)
 refine h _ ⟨λb o q=>(same b).trans (k1 b o q),k2,k3.of_keeps λb o q _=>⟨o,(same b).trans q,rfl⟩,oe,vs,T,oT,ts,(same e).trans he,hc,hd,h1,hn,hTe,(same T).trans hT,hdT,h3⟩ same
end
theorem zkE {h h' B B':Heap}{C:Addr}(hs:∀b,b≠C->h'.get? b=h.get? b)(bs:∀b,b≠C->B'.get? b=B.get? b):∀{l:List Env},C ∉ frs l->h.FunFrames B l->h'.FunFrames B' l
 | [],_,_=>trivial
 | env::r,nf,⟨k,⟨L,o,e,n,q,d⟩,t⟩=>by
  have nL:L≠C:=λz=>nf (Vm.mpr ⟨env,XU,by rw[e,z]⟩);exact⟨k,⟨L,o,e,(bs L nL).trans n,(hs L nL).trans q,d⟩,zkE hs bs (λz=>nf (by
   obtain⟨v,hv,ev⟩:=Vm.mp z;exact Vm.mpr ⟨v,XR _ hv,ev⟩)) t⟩
section
variable {X:Cx}{bQ ps:List (Addr×Obj)}{σ σ1:St}{H H' H1 H2:Hp}{s s1 s2 s':X7}{e C Cc:Addr}{a0:X8}{B:Heap}{E:XK}
def jB.held (L:jB X E)(J:Inv X bQ σ H s)(R:OO B X.stack e (.ref C) a0 X.env.locals s'.heap)(os:s'.os=s.os)(bare:Te s'.gens)(un:Un (frs X.stack) [] H H' s.heap s'.heap)(ok:HOk X.prog X.w H' B)
  (kB:∀b o,s.heap.get? b=some o->H b=none->b ∉ frs X.stack->B.get? b=some o) (tB:∀b o,s.heap.get? b=some o->b ∉ frs X.stack->∃o',B.get? b=some o') (new:s.heap.get? e=none) (free:H' e=none) (hE:E (.ref C) none H') :
  X.xe (.ref e) s':=by
 rw[L.xe];show Xk _ _ (leaving X.env (.ref e)) _ _ s';unfold leaving;refine ZB (wpAny_noteFrame_againW L.fr R.2.2.2 ?_);refine wpAny_landsW R λh4 f4 up=>?_;obtain⟨g1,g2,g3,g4⟩:=f4;rw[L.stk] at g3;exact⟨e,C,a0,B,H',rfl,J.flies L.ex ⟨g1,g2,g3.2.2,g4⟩ up os bare un ok kB tB new free,hE⟩
def Inv.stkIn (I:Inv X bQ σ H s){b:Addr}(hb:b∈frs X.stack):b<s.heap.objs.size:=by
 rcases XG.mp (I.stkSub b hb) with r | r
 .rw[r];exact I.lt
 .obtain⟨_,o,q,_⟩:=I.ok.funs.mem r;obtain⟨o',q'⟩:=I.base.there b o q λz=>I.ok.exfs b z r;exact XE q'
variable {N:AD}{scope:Vi}{cl:List (Str×Addr)}{fp:List Addr}{x acc:X8}{Q:X8->X7->Prop}{E':X8->X7->Prop}
def zkF (L:jB X E)(I2:Inv X bQ σ H2 s2)(f2:∀b∈fp,Qh X bQ H2 b)(hC:s2.heap.objs.size<=C)(I1:Inv (qU X N scope cl C fp bQ s2 H2) ps σ1 H1 s1)(h:CXE X.prog X.w X.stack H1 s1 E x s') :
  Xk (Xn X.prog X.w) X.A (OF x (Sa scope cl C X.env)) (λ_ s''=>zqk (Xn X.prog X.w) X.A X.xe Q acc (Sa scope cl C X.env) (.error x) s'') E' s':=by
 obtain⟨e,Cc,a0,B,H',rfl,F,hE⟩:=h;have ff:=F.fly;rw[zi9];rw[L.stk] at ff;refine wpAny_looks_onW (by rw[I2.ok.frames,L.stk]) L.fr ff λh' hh up=>?_;rw[<- L.stk] at hh;obtain⟨m,⟨o1,es,ep,ho,hd,hk,hf⟩,_⟩:=I1.loc;have ho:s1.heap.get? C=some o1:=ho;have nst:C ∉ frs X.stack:=λz=>VM _ (Xs (I2.stkIn z) hC);have fC:H1 C=none:=I1.free;have oC:B.get? C=some o1:=F.kB C o1 ho fC nst;have eC:e≠C:=by
  rintro rfl;rw[F.new] at ho;cases ho
 obtain⟨k1,k2,k3,oe,vs,T,oT,ts,he,hc,hdd,h1,hn,hTe,hT,hdT,h3⟩:=hh;have TC:T≠C:=by
  rintro rfl;rw[hn] at oC;cases oC
 refine⟨m,⟨o1,es,ep,k1 C o1 oC,hd,hk,hf⟩,λh'' m' hn' sb=>?_⟩;obtain⟨o2,es2,ep2,q2,d2,_,_⟩:=hn';have q2:h''.get? C=some o2:=q2;have sb:Wh C h' h'':=sb;have fr2:o2.isFreed=false:=(Heap.get?_some_iff.mp q2).2;have gB:(B.update C λ_=>o2).get? C=some o2:=WD (λ_=>o2) oC fr2;have nB:∀b,b≠C->(B.update C λ_=>o2).get? b=B.get? b:=λb hb=>VG _ _ (Vr hb);have gS:(s1.heap.update C λ_=>o2).get? C=some o2:=WD (λ_=>o2) ho fr2;have nS:∀b,b≠C->(s1.heap.update C λ_=>o2).get? b=s1.heap.get? b:=λb hb=>VG _ _ (Vr hb);have hh2:OO (B.update C λ_=>o2) X.stack e (.ref Cc) a0 X.env.locals h'':=by
  refine⟨λb o q=>?_,(nB e eC).trans k2,zkE sb.2 nB nst k3,oe,vs,T,oT,ts,(sb.2 e eC).trans he,hc,hdd,h1,(nB T TC).trans hn,hTe,(sb.2 T TC).trans hT,hdT,h3⟩;by_cases hb:b=C
  .rw[hb] at q ⊢;rw[gB] at q;rw[q2,q]
  .exact(sb.2 b hb).trans (k1 b o ((nB b hb).symm.trans q))
 show Xk _ _ (PySem.passOn "comprehension.variables-let-go" (.ref e) (Sa scope cl C X.env):Sem X8) _ _ _;unfold PySem.passOn;refine ZB (wpAny_field ((sb.2 e eC).trans he) hdd h1 ?_);rw[bw (show ¬ ((WA T==Value.none)=true) from by simp)];have fl:(Sa scope cl C X.env).frame=some X.env.locals:=L.fr;rw[fl];refine ZB (zgM hh2 λh3' hh3 same=>OC ?_);have same:∀b,h3'.get? b=h''.get? b:=same;have J:Inv X bQ σ H1 { s1 with heap:=s1.heap.update C λ_=>o2 }:=I2.call' (s':={ s1 with heap:=s1.heap.update C λ_=>o2 }) (ch:=fp) I1.os (Un.but I1.base hC (.update ..)) (HOk.but I1.hok fC (.update ..)) I1.bare λb hb=>⟨(f2 b hb).2.2.2.1,(f2 b hb).2.1,(f2 b hb).2.2.2.2.1,(f2 b hb).2.2.2.2.2⟩;have H'C:H' C=none:=F.un.free C o1 ho fC λz=>nomatch z
 have inB:∀b o,b≠C->B.get? b=some o->h3'.get? b=some o:=λb o hb q=>(same b).trans ((sb.2 b hb).trans (k1 b o q));have inF:∀b,b∈frs X.stack->∀(o:Obj) sl,s'.heap.get? b=some { o with slots:=sl }->∃sl',h3'.get? b=some { o with slots:=sl' }:=λb hb o sl q=>by
  obtain⟨_,o',q',nf⟩:=F.fly.2.2.1.mem hb;rw[q] at q';cases q';obtain⟨sl2,q3⟩:=up b _ q nf;exact⟨sl2,(same b).trans ((sb.2 b λz=>nst (z ▸ hb)).trans q3)⟩
 refine L.held (s':={ s' with heap:=h3' }) J hh3 F.os F.bare ⟨λb o q n hb _=>?_,λb o q n hb _=>?_,λb o q n _=>?_,λb o q _=>?_,F.un.tups,F.un.frzs,F.un.tbls⟩ (HOk.but F.ok H'C (.update ..)) (λb o q n hb=>?_) (λb o q hb=>?_) ((nS e eC).trans F.new) F.free hE
 .by_cases z:b=C
  .rw[z] at q ⊢;have q:(s1.heap.update C λ_=>o2).get? C=some o:=q;rw[gS] at q;exact(same C).trans (q2.trans q)
  .exact inB b o z (F.kB b o ((nS b z).symm.trans q) n hb)
 .have z:b≠C:=λz=>nst (z ▸ hb);obtain⟨sl,q1⟩:=F.un.slot b o ((nS b z).symm.trans q) n hb λz=>nomatch z
  exact inF b hb o sl q1
 .by_cases z:b=C
  .rw[z];exact H'C
  .exact F.un.free b o ((nS b z).symm.trans q) n λz=>nomatch z
 .by_cases z:b=C
  .rw[z];exact⟨o2,(same C).trans q2⟩
  .by_cases hb:b∈frs X.stack
   .obtain⟨_,o',q',nf⟩:=F.fly.2.2.1.mem hb;obtain⟨sl,q3⟩:=inF b hb o' o'.slots q';exact⟨_,q3⟩
   .obtain⟨o',q'⟩:=F.tB b o ((nS b z).symm.trans q) hb;exact⟨o',inB b o' z q'⟩
 .by_cases z:b=C
  .rw[z] at q ⊢;have q:(s1.heap.update C λ_=>o2).get? C=some o:=q;rw[gS] at q;exact gB.trans q
  .exact(nB b z).trans (F.kB b o ((nS b z).symm.trans q) n hb)
 .by_cases z:b=C
  .rw[z];exact⟨o2,gB⟩
  .obtain⟨o',q'⟩:=F.tB b o ((nS b z).symm.trans q) hb;exact⟨o',(nB b z).trans q'⟩
end
def zo4 (X:Cx)(N:AD)(scope:Vi)(cl:List (Str×Addr))(C:Addr)(fp:List Addr)(bQ:List (Addr×Obj))(s:X7)(H:Hp)(E:XK)(x:X8)(s':X7):Prop :=
 ∃(ps:List (Addr×Obj)) (σ1:St) (H1:Hp) (s1:X7),Inv (qU X N scope cl C fp bQ s H) ps σ1 H1 s1/\CXE X.prog X.w X.stack H1 s1 E x s'
abbrev Qm (X:Cx)(N:AD)(scope:Vi)(cl:List (Str×Addr))(C:Addr)(fp:List Addr)(bQ:List (Addr×Obj))(s:X7)(H:Hp)(E:XK):Cx:=(qU X N scope cl C fp bQ s H).wish (zo4 X N scope cl C fp bQ s H E)
def zeu {X:Cx}{N:AD}{scope:Vi}{cl:List (Str×Addr)}{C:Addr}{fp:List Addr}{bQ:List (Addr×Obj)}{s:X7}{H:Hp}{E:XK}:Passes (CXE X.prog X.w) (Qm X N scope cl C fp bQ s H E) E :=
 λps σ1 H1 s1 x s' I1 z=>⟨ps,σ1,H1,s1,I1.unwish,z⟩
section
variable {X:Cx}{tg iter elt:Expr}{ifs:List Expr}{scope:Vi}{pos:Pos}{N:AD}{src:List (Option Nat)}{cl:List (Str×Addr)}{wi:TI}{g:TG}{tc:TT}{te:TE}
def zkG {E:XK}(L:jB X E)(ok:jM X N src scope cl)(hcalm:X.calm=true)(hi:PI X tg iter wi)
  (hg:∀C fp bQ s H,PG (Qm X N scope cl C fp bQ s H E) tg g) (hc:∀C fp bQ s H,YT (Qm X N scope cl C fp bQ s H E) ifs tc) (he:∀C fp bQ s H,PE (Qm X N scope cl C fp bQ s H E) elt te)
  (hs:∀x,Wq iter X.env x=pure x:=by intro _;rfl):PE X (.ListComp elt [⟨tg,iter,ifs,0⟩] scope pos) (ZX wi src g tc te):=by
 intro bQ s σ H Q I h;rw[eval_ListComp];refine zmO rfl hs ok.clos ok.kind ok.names (thn (hi bQ s σ H _ I h) λxv s1 h1=>thn h1 λitv s2 h2=>?_);obtain⟨it,fp,tn,J,H2,e,I2,T,st2,f2,q2⟩:=h2;subst e;refine VD (Pk ok.nocell (by intro y hy;simp at hy) (λh₁ hns₁ hsb₁=>?_) ok.kind);dsimp only at hns₁ hsb₁ ⊢;obtain⟨hC,k,hD⟩:=zj2 hsb₁;exact zbG hC hcalm (λ⟨ps,σ1,H1,s1,I1,z⟩=>zkF L I2 f2 (by rw[hC];exact VX _) I1 z) (hg _ _ _ _ _) (hc _ _ _ _ _) (he _ _ _ _ _) I2 T st2 f2 (q2 _ (I2.hok.fresh (XV _))) k (λx c z=>.inl (ok.sub x c z)) (λho=>(zbF ok I2 f2 ho hC k hD hns₁).wish _) λf _ _ _ I4 qn=>let ⟨m,hm,g⟩:=zj1 (f:=f) hC I2 f2 I4 qn;⟨m,hm,λh' _ _ sb=>g h' sb⟩
end
section
variable {X:Cx}{tg iter elt:Expr}{ifs:List Expr}{scope:Vi}{pos:Pos}{N:AD}{src:List (Option Nat)}{cl:List (Str×Addr)}{wi:TI}{g:TG}{tc:TT}{te:TE}
def cP (a:scope.kind=.function:=by rfl)(b:∀y∈scope.names,y.2 ≠ .cell:=by decide+kernel)(c:∀y∈scope.names,y.2 ≠ .free:=by decide+kernel)(d:∀y∈scope.names,y.2=.local->scope.names.lookup y.1=some .local:=by decide+kernel)(e:src.length=N.length:=by rfl)(f:∀o∈src,o=none:=by decide):jM X N src scope []:=jM.plain a b c d e f
def cR (a:scope.kind=.function:=by rfl)(b:∀y∈scope.names,y.2 ≠ .cell:=by decide+kernel)(c:∀y∈scope.names,y.2=.local->scope.names.lookup y.1=some .local:=by decide+kernel)(d:(scope.names.all λy=>y.2 != .free || (X.env.cells.lookup y.1).isSome)=true:=by kernel_rfl)(e:src.length=N.length:=by rfl)
  (f:((N.zip src).all λq=>match q.2 with | none=>true | some j=>X.N[j]?==some q.1&&X.env.kindOf q.1==some .cell&&(Vl scope X.env).names.lookup q.1==some .cell)=true:=by kernel_rfl):jM X N src scope (QJ (λx=>X.env.cells.lookup x) scope.names []):=jM.byRfl a b c d e f
def c1 {y:Str}(a:scope.kind=.function:=by rfl)(a1:∀n acc,Sc n scope.names acc=(y,n)::acc:=by intro _ _;rfl)(a2:∀h,OE h scope.names=h.push { cls:=.type "cell",data:=.cell none }:=by intro _;rfl)(b:∀z∈scope.names,z.2=.cell->z.1=y:=by decide+kernel)(c:∀y∈scope.names,y.2=.local->scope.names.lookup y.1=some .local:=by decide+kernel)
  (d:(scope.names.all λy=>y.2 != .free || (X.env.cells.lookup y.1).isSome)=true:=by kernel_rfl) (e:src.length=N.length:=by rfl) (f:((N.zip src).all λq=>match q.2 with | none=>true | some j=>X.N[j]?==some q.1&&X.env.kindOf q.1==some .cell&&(Vl scope X.env).names.lookup q.1==some .cell&&q.1 != y)=true:=by kernel_rfl):jY X N src scope (QJ (λx=>X.env.cells.lookup x) scope.names []) y:=jY.byRfl a a1 a2 b c d e f
def pgN (i:Nat){x:Str}(h:decide X.N.Nodup=true:=by kernel_rfl)(hi:X.N[i]?=some x:=by rfl)(hx:Loc X.env.scope x:=by first | exact Vz rfl | exact QR rfl)(hf:X.fn x=true\/X.env.scope.names.lookup x=some .local:=by first | exact .inl rfl | exact .inr rfl):PG X (.Name x pos) (jN i):=zht (bh h) hi hx hf
def pgq (i:Nat){x:Str}(h:X.N.Nodup)(hi:X.N[i]?=some x:=by rfl)(hx:Loc X.env.scope x:=by first | exact Vz rfl | exact QR rfl)(hf:X.fn x=true\/X.env.scope.names.lookup x=some .local:=by first | exact .inl rfl | exact .inr rfl):PG X (.Name x pos) (jN i):=zht h hi hx hf
def jo (i:Nat){x:Str}{e:Expr}{te:TE}{pos':Pos}(hN:X.N.Nodup)(he:PE X e te)(hi:X.N[i]?=some x:=by rfl)(hx:Loc X.env.scope x:=by first | exact Vz rfl | exact QR rfl)(hs:Th e (some (.Name x pos')) pos.line X.env=pure false:=by rfl)(hf:X.fn x=true\/X.env.scope.names.lookup x=some .local:=by first | exact .inl rfl | exact .inr rfl):PS X (.Assign [.Name x pos'] e pos) (zgi te (jN i)):=qH hN hi hx he hs hf
def pcm (N:AD)(src:List (Option Nat))(ok:jM X N src scope cl)(hi:PI X tg iter wi)(hg:∀{C fp bQ s H},PG (qU X N scope cl C fp bQ s H) tg g)(hc:∀{C fp bQ s H},YT (qU X N scope cl C fp bQ s H) ifs tc)(he:∀{C fp bQ s H},PE (qU X N scope cl C fp bQ s H) elt te)
  (hcalm:X.calm=true:=by rfl) (hs:∀x,Wq iter X.env x=pure x:=by intro _;rfl):PE X (.ListComp elt [⟨tg,iter,ifs,0⟩] scope pos) (ZX wi src g tc te):=zmp ok hcalm hi (λ_ _ _ _ _=>hg) (λ_ _ _ _ _=>hc) (λ_ _ _ _ _=>he) hs
def zq6 {y:Str}(N:AD)(src:List (Option Nat))(ok:jY X N src scope cl y)(hi:PI X tg iter wi)(hg:∀{C fp bQ s H},PG (qY X N scope cl y C fp bQ s H) tg g)(hc:∀{C fp bQ s H},YT (qY X N scope cl y C fp bQ s H) ifs tc)(he:∀{C fp bQ s H},PE (qY X N scope cl y C fp bQ s H) elt te)
  (hcalm:X.calm=true:=by rfl) (hs:∀x,Wq iter X.env x=pure x:=by intro _;rfl):PE X (.ListComp elt [⟨tg,iter,ifs,0⟩] scope pos) (ZX wi src g tc te):=zka ok hcalm hi (λ_ _ _ _ _=>hg) (λ_ _ _ _ _=>hc) (λ_ _ _ _ _=>he) hs
def zq7 {E:XK}(L:jB X E)(N:AD)(src:List (Option Nat))(ok:jM X N src scope cl)(hi:PI X tg iter wi)(hg:∀{C fp bQ s H},PG (Qm X N scope cl C fp bQ s H E) tg g)(hc:∀{C fp bQ s H},YT (Qm X N scope cl C fp bQ s H E) ifs tc)(he:∀{C fp bQ s H},PE (Qm X N scope cl C fp bQ s H E) elt te)
  (hcalm:X.calm=true:=by rfl) (hs:∀x,Wq iter X.env x=pure x:=by intro _;rfl):PE X (.ListComp elt [⟨tg,iter,ifs,0⟩] scope pos) (ZX wi src g tc te):=zkG L ok hcalm hi (λ_ _ _ _ _=>hg) (λ_ _ _ _ _=>hc) (λ_ _ _ _ _=>he) hs
def psC (i:Nat){x:Str}{xpos spos:Pos}(hN:X.N.Nodup)(N:AD)(src:List (Option Nat))(ok:jM X N src scope cl)(hi:PI X tg iter wi)(hg:∀{C fp bQ s H},PG (qU X N scope cl C fp bQ s H) tg g)(hc:∀{C fp bQ s H},YT (qU X N scope cl C fp bQ s H) ifs tc)(he:∀{C fp bQ s H},PE (qU X N scope cl C fp bQ s H) elt te)
  (hix:X.N[i]?=some x:=by rfl) (hlx:X.env.scope.names.lookup x=some .local:=by rfl) (hcalm:X.calm=true:=by rfl) (hs:∀x,Wq iter X.env x=pure x:=by intro _;rfl) (hsw:Th (.ListComp elt [⟨tg,iter,ifs,0⟩] scope pos) (some (.Name x xpos)) spos.line X.env=pure true:=by rfl) :
  PS X (.Assign [.Name x xpos] (.ListComp elt [⟨tg,iter,ifs,0⟩] scope pos) spos) (zgi (ZX wi src g tc te) (jN i)):=zmu hN hix hlx ok hcalm hi (λ_ _ _ _ _=>hg) (λ_ _ _ _ _=>hc) (λ_ _ _ _ _=>he) hs hsw
def zq8 (i:Nat){x y:Str}{xpos spos:Pos}(hN:X.N.Nodup)(N:AD)(src:List (Option Nat))(ok:jY X N src scope cl y)(hi:PI X tg iter wi)(hg:∀{C fp bQ s H},PG (qY X N scope cl y C fp bQ s H) tg g)(hc:∀{C fp bQ s H},YT (qY X N scope cl y C fp bQ s H) ifs tc)(he:∀{C fp bQ s H},PE (qY X N scope cl y C fp bQ s H) elt te)
  (hix:X.N[i]?=some x:=by rfl) (hlx:X.env.scope.names.lookup x=some .local:=by rfl) (hcalm:X.calm=true:=by rfl) (hs:∀x,Wq iter X.env x=pure x:=by intro _;rfl) (hsw:Th (.ListComp elt [⟨tg,iter,ifs,0⟩] scope pos) (some (.Name x xpos)) spos.line X.env=pure true:=by rfl) :
  PS X (.Assign [.Name x xpos] (.ListComp elt [⟨tg,iter,ifs,0⟩] scope pos) spos) (zgi (ZX wi src g tc te) (jN i)):=zkf hN hix hlx ok hcalm hi (λ_ _ _ _ _=>hg) (λ_ _ _ _ _=>hc) (λ_ _ _ _ _=>he) hs hsw
end
section
variable {X:Cx}{e:Expr}{te:TE}{x:Str}{p pos:Pos}{id T:String}{r:AE->Hp->VK->Prop}
def pb1 (hc:jj X (.builtin id) r)(hm:X.mg x=none)(hv:U4 x=some (.builtin id))(he:PE X e te)(hg:Gl X x:=by rfl)(hn:x ≠ "__name__":=by decide)(hdb:(x==("__debug__":Str))=false:=by decide)(h1:WY [e] X.env=(false,eval e X.env)::WY [] X.env:=by rfl):PE X (.Call (.Name x p) [e] [] pos) (tCB r (zde te zjS)):=QF hc hg hm hv (za he zd h1) hn hdb h1 rfl
def pb2 {e2:Expr}{t2:TE}(hc:jj X (.builtin id) r)(hm:X.mg x=none)(hv:U4 x=some (.builtin id))(he:PE X e te)(h2:PE X e2 t2)(hg:Gl X x:=by rfl)(hn:x ≠ "__name__":=by decide)(hdb:(x==("__debug__":Str))=false:=by decide)(h1:WY [e,e2] X.env=(false,eval e X.env)::WY [e2] X.env:=by rfl)(h3:WY [e2] X.env=(false,eval e2 X.env)::WY [] X.env:=by rfl):PE X (.Call (.Name x p) [e,e2] [] pos) (tCB r (zde te (zde t2 zjS))):=QF hc hg hm hv (za he (za h2 zd h3) h1) hn hdb h1 (by rw[h3];rfl)
def pt1 (hc:jj X (.type T) r)(hm:X.mg x=none)(hv:U4 x=some (.type T))(he:PE X e te)(hg:Gl X x:=by rfl)(hn:x ≠ "__name__":=by decide)(hdb:(x==("__debug__":Str))=false:=by decide)(h1:WY [e] X.env=(false,eval e X.env)::WY [] X.env:=by rfl):PE X (.Call (.Name x p) [e] [] pos) (tCB r (zde te zjS)):=ziD hc hg hm hv (za he zd h1) hn hdb h1 rfl
def pgx {K:XW}{C:Addr}(O:ql K X.mg x C)(hg:Gl X x:=by rfl)(hd:(x==("__debug__":Str))=false:=by decide):PE X (.Name x pos) (tC (.ref C)):=yU hg O.g rfl hd
def prg {tg:Expr}(hb:X.mg "range"=none)(he:PE X e te)(hg:Gl X "range":=by rfl)(h1:WY [e] X.env=(false,eval e X.env)::WY [] X.env:=by rfl):PI X tg (.Call (.Name "range" p) [e] [] pos) (znH (zde te zjS)):=ziA hg hb (za he zd h1) h1
end
end L2
namespace Cells
def zQ (p:Nat->Bool)(i:Nat):Nat->List Nat->AB
 | _,[]=>[]
 | j,c::r=>(if p c=true then [(i,j)] else [])++zQ p i (j+1) r
def zw (p:Nat->Bool):Nat->List (List Nat)->AB
 | _,[]=>[]
 | i,t::r=>zQ p i 0 t++zw p (i+1) r
theorem Zv (p:Nat->Bool)(i:Nat):∀(j:Nat) (a b:List Nat),zQ p i j (a++b)=zQ p i j a++zQ p i (j+a.length) b
 | j,[],b=>by simp[zQ]
 | j,c::a,b=>by
  simp only[Rr,zQ,Zv p i (j+1) a b,Xj,W3];rw[show j+1+a.length=j+(a.length+1) by lia]
theorem Zw (p:Nat->Bool):∀(i:Nat) (a b:List (List Nat)),zw p i (a++b)=zw p i a++zw p (i+a.length) b
 | i,[],b=>by simp[zw]
 | i,t::a,b=>by
  simp only[Rr,zw,Zw p (i+1) a b,Xj,W3];rw[show i+1+a.length=i+(a.length+1) by lia]
def Qn {p:Nat->Bool}{i j c:Nat}{t:List Nat}(h:t[j]?=some c):zQ p i 0 (t.take (j+1))=zQ p i 0 (t.take j)++(if p c=true then [(i,j)] else []):=by
 rw[Xc,h,Zv];have hl:(t.take j).length=j:=by
  have:=(X5.mp h).1;rw[XF];lia
 simp[zQ,hl]
def Qo {p:Nat->Bool}{i:Nat}{t:List Nat}{rs:List (List Nat)}(h:rs[i]?=some t):zw p 0 (rs.take (i+1))=zw p 0 (rs.take i)++zQ p i 0 t:=by
 rw[Xc,h,Zw];have hl:(rs.take i).length=i:=by
  have:=(X5.mp h).1;rw[XF];lia
 simp[zw,hl]
theorem jJ (p:Nat->Bool)(i:Nat):∀(j:Nat) (t:List Nat),(zQ p i j t).length<=t.length
 | j,[]=>by simp[zQ]
 | j,c::r=>by
  have:=jJ p i (j+1) r;simp only[zQ,X0,Xj];split<;>simp<;>lia
theorem qB (p:Nat->Bool):∀(i:Nat) (rs:List (List Nat)),(∀t∈rs,t.length<=8)->(zw p i rs).length<=8*rs.length
 | i,[],_=>by simp[zw]
 | i,t::r,h=>by
  have h1:=jJ p i 0 t;have h2:=qB p (i+1) r λu hu=>h u (XR _ hu);have h3:=h t XU;simp only[zw,X0,Xj];lia
theorem Jc {p:Nat->Bool}{i:Nat}:∀{j:Nat} {t:List Nat} {x:AA},x∈zQ p i j t->∃m c,x=(i,j+m)/\t[m]?=some c/\p c=true
 | j,[],x,h=>by simp[zQ] at h
 | j,c::r,x,h=>by
  simp only[zQ,XQ] at h;rcases h with h | h
  .split at h
   .rename_i hp;have:x=(i,j):=by simpa using h
    exact⟨0,c,this,rfl,hp⟩
   .cases h
  .obtain⟨m,c',e,h1,h2⟩:=Jc h;exact⟨m+1,c',by rw[e,show j+1+m=j+(m+1) by lia],by simpa using h1,h2⟩
def jK {p:Nat->Bool}{i:Nat}{rs:List (List Nat)}{x:AA}(h:x∈zw p i rs):∃k j t c,x=(i+k,j)/\rs[k]?=some t/\t[j]?=some c/\p c=true:=by
 induction rs generalizing i with
 | nil=>simp[zw] at h
 | cons t r ih =>
  simp only[zw,XQ] at h;rcases h with h | h
  .obtain⟨m,c,e,h1,h2⟩:=Jc h;exact⟨0,m,t,c,by simpa using e,rfl,h1,h2⟩
  .obtain⟨k,j,u,c,e,h1,h2,h3⟩:=ih h;exact⟨k+1,j,u,c,by rw[e,show i+1+k=i+(k+1) by lia],by simpa using h1,h2,h3⟩
def sgn (rs:List (List Nat))(x:AA):Nat:=(rs.getD x.1 []).getD x.2 0
theorem QW {p q:Nat->Bool}{i:Nat}(f:AA->Bool):∀(j:Nat) (t:List Nat),(∀m c,t[m]?=some c->f (i,j+m)=q c)->(zQ p i j t).filter f=zQ (λc=>p c&&q c) i j t
 | j,[],_=>by simp[zQ]
 | j,c::r,h=>by
  have ih:=QW (p:=p) (q:=q) (i:=i) f (j+1) r λm c' hm=>by
   have:=h (m+1) c' (by simpa using hm);rw[show j+1+m=j+(m+1) by lia];exact this
  have h0:=h 0 c rfl;simp only[zQ,WX,ih];congr 1;simp only[P9] at h0;by_cases hp:p c=true
  .by_cases hq:q c=true
   .simp[hp,hq,h0]
   .simp[hp,hq,h0]
  .simp[hp]
theorem QX {p q:Nat->Bool}(f:AA->Bool):∀(i:Nat) (rs:List (List Nat)),(∀k t m c,rs[k]?=some t->t[m]?=some c->f (i+k,m)=q c)->(zw p i rs).filter f=zw (λc=>p c&&q c) i rs
 | i,[],_=>by simp[zw]
 | i,t::r,h=>by
  have ih:=QX (p:=p) (q:=q) f (i+1) r λk u m c hk hm=>by
   have:=h (k+1) u m c (by simpa using hk) hm;rw[show i+1+k=i+(k+1) by lia];exact this
  simp only[zw,WX,ih];rw[QW (p:=p) (q:=q) f 0 t λm c hm=>by simpa using h 0 t m c rfl hm]
def zb2 {rs:List (List Nat)}{i j:Nat}{t:List Nat}{c:Nat}(h:rs[i]?=some t)(h2:t[j]?=some c):sgn rs (i,j)=c:=by
 unfold sgn;simp[List.getD,h,h2]
def all_filter {p q:Nat->Bool}(rs:List (List Nat)):(zw p 0 rs).filter (λx=>q (sgn rs x))=zw (λc=>p c&&q c) 0 rs :=
 QX _ 0 rs λk t m c hk hm=>by rw[show 0+k=k by lia,zb2 hk hm]
def Yc {p q:Nat->Bool}(h:∀c,p c=q c)(i:Nat)(rs:List (List Nat)):zw p i rs=zw q i rs:=by
 rw[show p=q from funext h]
def near (x y:AA):Bool:=decide ((if (x.1:Int)-(y.1:Int)<0 then -((x.1:Int)-(y.1:Int)) else (x.1:Int)-(y.1:Int))<2)&&(decide ((if (x.2:Int)-(y.2:Int)<0 then -((x.2:Int)-(y.2:Int)) else (x.2:Int)-(y.2:Int))<2) && !decide (x=y))
def jQ (x y:AA):near x y=true↔(x.1<=y.1+1/\y.1<=x.1+1)/\(x.2<=y.2+1/\y.2<=x.2+1)/\¬ x=y:=by
 unfold near;rw[Ws,Ws,decide_eq_true_iff,decide_eq_true_iff,WJ,decide_eq_false_iff_not];constructor
 .rintro⟨h1,h2,h3⟩;refine⟨?_,?_,h3⟩
  .split at h1<;>lia
  .split at h2<;>lia
 .rintro⟨h1,h2,h3⟩;refine⟨?_,?_,h3⟩
  .split<;>lia
  .split<;>lia
def lex (a b:AA):Prop:=a.1<b.1\/(a.1=b.1/\a.2<b.2)
theorem zdB (p:Nat->Bool)(i:Nat):∀(j:Nat) (t:List Nat),(zQ p i j t).Pairwise lex
 | j,[]=>by simp[zQ]
 | j,c::r=>by
  simp only[zQ];rw[TV];refine⟨?_,zdB p i (j+1) r,λa ha b hb=>?_⟩
  .split<;>simp
  .split at ha
   .have e:a=(i,j):=by simpa using ha
    obtain⟨m,c',e',_,_⟩:=Jc hb;subst e e';exact .inr ⟨rfl,by show j<j+1+m;lia⟩
   .cases ha
theorem qW (p:Nat->Bool):∀(i:Nat) (rs:List (List Nat)),(zw p i rs).Pairwise lex
 | i,[]=>by simp[zw]
 | i,t::r=>by
  simp only[zw];rw[TV];refine⟨zdB p i 0 t,qW p (i+1) r,λa ha b hb=>?_⟩;obtain⟨m,c,e,_,_⟩:=Jc ha;obtain⟨k,j,u,c',e',_,_,_⟩:=jK hb;subst e e';exact .inl (by show i<i+1+k;lia)
def zkH {p:Nat->Bool}{f:AA->Bool}{n:Nat}{rs:List (List Nat)}(h:∀r c,r<n->f (r,c)=false):(zw p 0 (rs.take n)).filter f=[]:=by
 rw[Wd];intro x hx;obtain⟨k,j,t,c,e,hk,_,_⟩:=jK hx;have hkl:k<n:=by
  have:=(X5.mp hk).1;rw[XF] at this;lia
 subst e;rw[h _ _ (by lia)];exact XT
def zja {p:Nat->Bool}{f:AA->Bool}{n:Nat}{rs:List (List Nat)}(h:∀r c,n<=r->f (r,c)=false):(zw p 0 (rs.take n)).filter f=(zw p 0 rs).filter f:=by
 by_cases hn:n<=rs.length
 .have e:=W4 n rs;have e2:zw p 0 rs=zw p 0 (rs.take n)++zw p (0+(rs.take n).length) (rs.drop n):=by rw[<- Zw,e]
  rw[e2,WX];have z:(zw p (0+(rs.take n).length) (rs.drop n)).filter f=[]:=by
   rw[Wd];intro x hx;obtain⟨k,j,t,c,e,hk,_,_⟩:=jK hx;subst e;rw[XF,h _ _ (by lia)];exact XT
  rw[z,Xd]
 .rw[Wm (by lia)]
def zkI {p:Nat->Bool}{f:AA->Bool}{i n:Nat}{t:List Nat}(h:∀c,c<n->f (i,c)=false):(zQ p i 0 (t.take n)).filter f=[]:=by
 rw[Wd];intro x hx;obtain⟨m,c,e,hm,_⟩:=Jc hx;have hml:m<n:=by
  have:=(X5.mp hm).1;rw[XF] at this;lia
 subst e;rw[h _ (by lia)];exact XT
def zjb {p:Nat->Bool}{f:AA->Bool}{i n:Nat}{t:List Nat}(h:∀c,n<=c->f (i,c)=false):(zQ p i 0 (t.take n)).filter f=(zQ p i 0 t).filter f:=by
 by_cases hn:n<=t.length
 .have e:=W4 n t;have e2:zQ p i 0 t=zQ p i 0 (t.take n)++zQ p i (0+(t.take n).length) (t.drop n):=by rw[<- Zv,e]
  rw[e2,WX];have z:(zQ p i (0+(t.take n).length) (t.drop n)).filter f=[]:=by
   rw[Wd];intro x hx;obtain⟨m,c,e,hm,_⟩:=Jc hx;subst e;rw[XF,h _ (by lia)];exact XT
  rw[z,Xd]
 .rw[Wm (by lia)]
end Cells
namespace Parts
abbrev C:=AA
structure Good (cl:C->List C)(done:List C)(gs:List (List C)):Prop where
 ne:∀g∈gs,g ≠ []
 nd:gs.flatten.Nodup
 from_:∀x∈gs.flatten,∃o∈done,x∈cl o
 cov:∀o∈done,cl o ≠ []->∃g∈gs,∀x∈cl o,x∈g
 con:∀g∈gs,∀S:C->Prop,(∀o∈done,(∃x∈cl o,S x)->∀x∈cl o,S x)->(∃x∈g,S x)->∀x∈g,S x
 srt:∀g∈gs,g.Pairwise Cells.lex
def Good.start (cl:C->List C):Good cl [] []:=⟨(λ_ h=>nomatch h),Vw,(λ_ h=>nomatch h),(λ_ h=>nomatch h),(λ_ h=>nomatch h),(λ_ h=>nomatch h)⟩
def Good.skip {cl:C->List C}{done:List C}{gs:List (List C)}(G:Good cl done gs){o:C}(h:cl o=[]):Good cl (done++[o]) gs:=by
 refine⟨G.ne,G.nd,λx hx=>?_,λp hp hn=>?_,λg hg S hS=>G.con g hg S λp hp=>hS p (Xf _ hp),G.srt⟩
 .obtain⟨p,hp,hx⟩:=G.from_ x hx;exact⟨p,Xf _ hp,hx⟩
 .rcases XQ.mp hp with hp | hp
  .exact G.cov p hp hn
  .have e:p=o:=by simpa using hp
   subst e;exact absurd h hn
def zas {gs:List (List C)}(nd:gs.flatten.Nodup):∀{g g':List C} {x:C},g∈gs->g'∈gs->x∈g->x∈g'->g=g':=by
 induction gs with
 | nil=>intro g g' x h;cases h
 | cons a r ih =>
  rw[VS,WW] at nd;obtain⟨_,h2,h3⟩:=nd;intro g g' x hg hg' hx hx';rcases XG.mp hg with e1 | g1
  .rcases XG.mp hg' with e2 | g2
   .rw[e1,e2]
   .exact absurd rfl (h3 x (e1 ▸ hx) x (Wi.mpr ⟨g',g2,hx'⟩))
  .rcases XG.mp hg' with e2 | g2
   .exact absurd rfl (h3 x (e2 ▸ hx') x (Wi.mpr ⟨g,g1,hx⟩))
   .exact ih h2 g1 g2 hx hx'
theorem qQ (p:List C->Bool):∀gs:List (List C),(gs.filter p).flatten.Sublist gs.flatten
 | []=>List.Sublist.refl _
 | a::r=>by
  rw[Wr,VS];split
  .rw[VS];exact List.Sublist.append (List.Sublist.refl _) (qQ p r)
  .exact List.Sublist.trans (qQ p r) (List.sublist_append_right _ _)
def meets (g0 g:List C):Bool:=!(g.filter λc=>g0.any λx=>decide (x=c)).isEmpty
def J7 {g0 g:List C}:meets g0 g=true ↔ ∃x∈g,x∈g0:=by
 unfold meets;rw[WJ,UP];constructor
 .intro h;obtain⟨x,hx⟩:=TH _ h;rw[X9,WF] at hx;obtain⟨h1,y,h2,h3⟩:=hx;have e:y=x:=bh h3;subst e;exact⟨y,h1,h2⟩
 .rintro⟨x,h1,h2⟩ hn;have:x∈g.filter λc=>g0.any λx=>decide (x=c):=X9.mpr ⟨h1,WF.mpr ⟨x,h2,bu rfl⟩⟩;rw[hn] at this;cases this
def whole (w:List C):List (List C)->List C
 | []=>w
 | g::r=>whole (w++g.filter λc=>!(w.any λx=>decide (x=c))) r
def QY (w:List C)(c:C):(w.any λx=>decide (x=c))=true↔c∈w:=by
 rw[WF];constructor
 .rintro⟨x,h1,h2⟩;have e:x=c:=bh h2;subst e;exact h1
 .intro h;exact⟨c,h,bu rfl⟩
theorem zat {x:C}:∀{w:List C} {ms:List (List C)},x∈whole w ms↔x∈w\/∃m∈ms,x∈m
 | w,[]=>by simp[whole]
 | w,g::r=>by
  rw[whole,zat,XQ,X9];constructor
  .rintro((h | ⟨h,_⟩) | ⟨m,hm,h⟩)
   .exact .inl h
   .exact .inr ⟨g,XU,h⟩
   .exact .inr ⟨m,XR _ hm,h⟩
  .rintro(h | ⟨m,hm,h⟩)
   .exact .inl (.inl h)
   .rcases XG.mp hm with rfl | hm
    .by_cases hw:x∈w
     .exact .inl (.inl hw)
     .refine .inl (.inr ⟨h,?_⟩);rw[WJ,XC];exact λz=>hw ((QY w x).mp z)
    .exact .inr ⟨m,hm,h⟩
theorem Yd:∀{w:List C} {ms:List (List C)},w.Nodup->(∀m∈ms,m.Nodup)->(whole w ms).Nodup
 | w,[],h,_=>h
 | w,g::r,h,hm=>by
  rw[whole];refine Yd ?_ λm hm'=>hm m (XR _ hm');rw[WW];refine⟨h,(hm g XU).sublist XA,λa ha b hb e=>?_⟩;subst e;have hb2:=(X9.mp hb).2;rw[(QY w a).mpr ha] at hb2;cases hb2
def Good.step {cl:C->List C}{done:List C}{gs:List (List C)}(G:Good cl done gs){o:C}(h:cl o ≠ [])(hn:(cl o).Nodup){rest:List (List C)}{w:List C}(hr:rest=gs.filter λg=>!((gs.filter (meets (cl o))).any λm=>decide (m=g)))
  (hw:w.Perm (whole (cl o) (gs.filter (meets (cl o))))) (hs:w.Pairwise Cells.lex):Good cl (done++[o]) (rest++[w]):=by
 have mr:∀g,g∈rest↔g∈gs/\¬ ∃x∈g,x∈cl o:=λg=>by
  rw[hr,X9,WJ,XC];constructor
  .rintro⟨h1,h2⟩;exact⟨h1,λh3=>h2 (WF.mpr ⟨g,X9.mpr ⟨h1,J7.mpr h3⟩,bu rfl⟩)⟩
  .rintro⟨h1,h2⟩;refine⟨h1,λh3=>?_⟩;obtain⟨m,hm,e⟩:=WF.mp h3;have e':m=g:=bh e;subst e';exact h2 (J7.mp (X9.mp hm).2)
 have mw:∀x,x∈w↔x∈cl o\/∃g∈gs,(∃y∈g,y∈cl o)/\x∈g:=λx=>by
  rw[hw.mem_iff,zat];constructor
  .rintro(h1 | ⟨m,hm,h1⟩)
   .exact .inl h1
   .obtain⟨h2,h3⟩:=X9.mp hm;exact .inr ⟨m,h2,J7.mp h3,h1⟩
  .rintro(h1 | ⟨g,h2,h3,h1⟩)
   .exact .inl h1
   .exact .inr ⟨g,X9.mpr ⟨h2,J7.mpr h3⟩,h1⟩
 have gn:∀g∈gs,g.Nodup:=λg hg=>G.nd.sublist (Wb hg);have wn:w.Nodup:=hw.nodup_iff.mpr (Yd hn λm hm=>gn m (X9.mp hm).1);refine⟨λg hg=>?_,?_,λx hx=>?_,λp hp hne=>?_,λg hg S hS=>?_,λg hg=>?_⟩
 .rcases XQ.mp hg with hg | hg
  .exact G.ne g ((mr g).mp hg).1
  .have e:g=w:=by simpa using hg
   subst e;obtain⟨x,hx⟩:=TH _ h;exact UT ((mw x).mpr (.inl hx))
 .rw[VW,WW];refine⟨G.nd.sublist (by rw[hr];exact qQ _ gs),by simpa using wn,λa ha b hb e=>?_⟩;subst e;have hb':a∈w:=by simpa using hb
  obtain⟨g,hg,hx⟩:=Wi.mp ha;obtain⟨g1,g2⟩:=(mr g).mp hg;rcases(mw a).mp hb' with h1 | ⟨m,m1,m2,m3⟩
  .exact g2 ⟨a,hx,h1⟩
  .have e:=zas G.nd g1 m1 hx m3;subst e;exact g2 m2
 .rw[VW] at hx;rcases XQ.mp hx with hx | hx
  .obtain⟨g,hg,hx⟩:=Wi.mp hx;obtain⟨p,hp,hx⟩:=G.from_ x (Wi.mpr ⟨g,((mr g).mp hg).1,hx⟩);exact⟨p,Xf _ hp,hx⟩
  .have hx':x∈w:=by simpa using hx
   rcases(mw x).mp hx' with h1 | ⟨g,g1,_,g3⟩
   .exact⟨o,by simp,h1⟩
   .obtain⟨p,hp,hx⟩:=G.from_ x (Wi.mpr ⟨g,g1,g3⟩);exact⟨p,Xf _ hp,hx⟩
 .rcases XQ.mp hp with hp | hp
  .obtain⟨g,hg,hx⟩:=G.cov p hp hne;by_cases hm:∃x∈g,x∈cl o
   .exact⟨w,by simp,λx hx'=>(mw x).mpr (.inr ⟨g,hg,hm,hx x hx'⟩)⟩
   .exact⟨g,Xf _ ((mr g).mpr ⟨hg,hm⟩),hx⟩
  .have e:p=o:=by simpa using hp
   subst e;exact⟨w,by simp,λx hx=>(mw x).mpr (.inl hx)⟩
 .have hS':∀p∈done,(∃x∈cl p,S x)->∀x∈cl p,S x:=λp hp=>hS p (Xf _ hp);rcases XQ.mp hg with hg | hg
  .exact G.con g ((mr g).mp hg).1 S hS'
  .have e:g=w:=by simpa using hg
   subst e;rintro⟨x,hx,sx⟩;have all0:∀y∈cl o,S y:=by
    refine hS o (by simp) ?_;rcases(mw x).mp hx with h1 | ⟨m,m1,⟨y,y1,y2⟩,m3⟩
    .exact⟨x,h1,sx⟩
    .exact⟨y,y2,G.con m m1 S hS' ⟨x,m3,sx⟩ y y1⟩
   intro z hz;rcases(mw z).mp hz with h1 | ⟨m,m1,⟨y,y1,y2⟩,m3⟩
   .exact all0 z h1
   .exact G.con m m1 S hS' ⟨y,y1,all0 y y2⟩ z m3
 .rcases XQ.mp hg with hg | hg
  .exact G.srt g ((mr g).mp hg).1
  .have e:g=w:=by simpa using hg
   subst e;exact hs
def Good.perm {cl:C->List C}{done:List C}{gs gs':List (List C)}(G:Good cl done gs)(h:gs'.Perm gs):Good cl done gs':=by
 refine⟨λg hg=>G.ne g (h.mem_iff.mp hg),h.flatten.nodup_iff.mpr G.nd,λx hx=>G.from_ x (h.flatten.mem_iff.mp hx),λo ho hn=>?_,λg hg=>G.con g (h.mem_iff.mp hg),λg hg=>G.srt g (h.mem_iff.mp hg)⟩;obtain⟨g,hg,hx⟩:=G.cov o ho hn;exact⟨g,h.mem_iff.mpr hg,hx⟩
theorem QZ:∀{gs:List (List C)},(∀g∈gs,g ≠ [])->gs.length<=gs.flatten.length
 | [],_=>XV _
 | g::r,h=>by
  have ih:=QZ (gs:=r) λx hx=>h x (XR _ hx);have:1<=g.length:=List.length_pos_iff.mpr (h g XU);rw[VS,X0,Xj];lia
theorem j8:∀{a b:List C},a.Nodup->(∀x∈a,x∈b)->a.length<=b.length
 | [],_,_,_=>WT _
 | x::r,b,h,s=>by
  obtain⟨h1,h2⟩:=WB.mp h;have hx:=s x XU;have ih:=j8 (a:=r) (b:=b.erase x) h2 λy hy=>(List.mem_erase_of_ne (λ(e:y=x)=>h1 (by rw[<- e];exact hy))).mpr (s y (XR _ hy));rw[Tt hx] at ih;have:=Ug hx;rw[Xj];lia
end Parts
namespace Subs
variable {α:Type}
def step (S:List (List α))(c:α):List (List α):=S++S.map (·++[c])
def subs (cs:List α):List (List α):=cs.foldl step [[]]
def pick:List α->Nat->List α
 | [],_=>[]
 | c::r,b=>(if b%2=1 then [c] else [])++pick r (b/2)
def zjc (cs:List α)(c:α):subs (cs++[c])=step (subs cs) c:=by
 unfold subs;rw[UH];rfl
theorem zhT:∀(cs:List α) (c:α) (b:Nat),b<2^cs.length->pick (cs++[c]) b=pick cs b
 | [],c,b,h=>by
  have:b=0:=by
   simp at h;lia
  subst this;rfl
 | d::r,c,b,h=>by
  show _++pick (r++[c]) (b/2)=_++pick r (b/2);rw[zhT r c (b/2) (by
   rw[Xj,Ui] at h;lia)]
theorem zhU:∀(cs:List α) (c:α) (b:Nat),b<2^cs.length->pick (cs++[c]) (2^cs.length+b)=pick cs b++[c]
 | [],c,b,h=>by
  have:b=0:=by
   simp at h;lia
  subst this;rfl
 | d::r,c,b,h=>by
  rw[Xj,Ui] at h;show (if (2^(r.length+1)+b)%2=1 then [d] else [])++pick (r++[c]) ((2^(r.length+1)+b)/2)=((if b%2=1 then [d] else [])++pick r (b/2))++[c];have e1:(2^(r.length+1)+b)%2=b%2:=by
   rw[Ui];lia
  have e2:(2^(r.length+1)+b)/2=2^r.length+b/2:=by
   rw[Ui];lia
  rw[e1,e2,zhU r c (b/2) (by lia),W3]
def zdC (cs:List α):subs cs=(Wy (2^cs.length)).map (pick cs):=by
 rw[<- Sr cs];induction cs.reverse with
 | nil=>rfl
 | cons c r ih =>
  rw[List.reverse_cons,zjc,ih,X0,PK,Ui,Nat.mul_two,List.range_add,Xh,Wg];unfold step;rw[Wg];congr 1
  .refine Xa λb hb=>?_;exact(zhT _ _ _ (Wo.mp hb)).symm
  .refine Xa λb hb=>?_;exact(zhU _ _ _ (Wo.mp hb)).symm
end Subs
namespace Grow
variable {α β:Type}
def cnt (near:β->α->Bool)(o:β)(p:List α):Nat:=(p.filter (near o)).length
def zb3 (near:β->α->Bool)(num:β->Int)(rest:List α)(o:β)(p:List α):Bool:=decide (num o-((cnt near o rest:Nat):Int)<=((cnt near o p:Nat):Int))&&decide (((cnt near o p:Nat):Int)<=num o)
def chk (near:β->α->Bool)(num:β->Int)(O:List β)(c:α)(rest:List α)(p:List α):Bool:=(O.filter λo=>near o c).all λo=>zb3 near num rest o p
def grow (near:β->α->Bool)(num:β->Int)(O:List β):List (List α)->List α->List (List α)
 | F,[]=>F
 | F,c::rest=>grow near num O ((Subs.step F c).filter (chk near num O c rest)) rest
def good (near:β->α->Bool)(num:β->Int)(O:List β)(done rest:List α)(p:List α):Bool:=(O.filter λo=>done.any (near o)).all λo=>zb3 near num rest o p
def cnt_cons (near:β->α->Bool)(o:β)(c:α)(r:List α):cnt near o (c::r)=cnt near o r+if near o c=true then 1 else 0:=by
 unfold cnt;rw[Wr];split<;>rfl
def zfv (near:β->α->Bool)(o:β)(p:List α)(c:α):cnt near o (p++[c])=cnt near o p+if near o c=true then 1 else 0:=by
 unfold cnt;rw[WX,X0];congr 1;rw[Wr];split<;>rfl
def j3 {near:β->α->Bool}{num:β->Int}{rest:List α}{o:β}{p:List α}:zb3 near num rest o p=true↔num o-((cnt near o rest:Nat):Int)<=((cnt near o p:Nat):Int)/\((cnt near o p:Nat):Int)<=num o:=by
 unfold zb3;rw[Ws,bf,bf]
def zhV {near:β->α->Bool}{num:β->Int}{O:List β}{c:α}{rest p:List α}:chk near num O c rest p=true ↔ ∀o∈O,near o c=true->zb3 near num rest o p=true:=by
 unfold chk;rw[WG];exact⟨λh o ho hn=>h o (X9.mpr ⟨ho,hn⟩),λh o ho=>h o (X9.mp ho).1 (X9.mp ho).2⟩
def Ye {near:β->α->Bool}{num:β->Int}{O:List β}{done rest p:List α}:good near num O done rest p=true ↔ ∀o∈O,done.any (near o)=true->zb3 near num rest o p=true:=by
 unfold good;rw[WG];exact⟨λh o ho hn=>h o (X9.mpr ⟨ho,hn⟩),λh o ho=>h o (X9.mp ho).1 (X9.mp ho).2⟩
def J8 (near:β->α->Bool)(o:β)(done:List α)(c:α):(done++[c]).any (near o)=true↔done.any (near o)=true\/near o c=true:=by
 rw[List.any_append,Bool.or_eq_true];simp
def zmP (near:β->α->Bool)(num:β->Int)(O:List β)(done rest:List α)(c:α)(p:List α):(good near num O done (c::rest) p&&chk near num O c rest p)=good near num O (done++[c]) rest p:=by
 rw[W1,Ws,Ye,zhV,Ye];constructor
 .rintro⟨h1,h2⟩ o ho hn;by_cases hc:near o c=true
  .exact h2 o ho hc
  .have:=h1 o ho (((J8 near o done c).mp hn).resolve_right hc);rw[j3,cnt_cons,bw hc] at this;exact j3.mpr this
 .intro h;refine⟨λo ho hn=>?_,λo ho hc=>h o ho ((J8 near o done c).mpr (.inr hc))⟩;have:=j3.mp (h o ho ((J8 near o done c).mpr (.inl hn)));rw[j3,cnt_cons];split<;>lia
def zmQ (near:β->α->Bool)(num:β->Int)(O:List β)(done rest:List α)(c:α)(p:List α):(good near num O done (c::rest) p&&chk near num O c rest (p++[c]))=good near num O (done++[c]) rest (p++[c]):=by
 rw[W1,Ws,Ye,zhV,Ye];constructor
 .rintro⟨h1,h2⟩ o ho hn;by_cases hc:near o c=true
  .exact h2 o ho hc
  .have:=h1 o ho (((J8 near o done c).mp hn).resolve_right hc);rw[j3,cnt_cons,bw hc] at this;rw[j3,zfv,bw hc];exact this
 .intro h;refine⟨λo ho hn=>?_,λo ho hc=>h o ho ((J8 near o done c).mpr (.inr hc))⟩;have:=j3.mp (h o ho ((J8 near o done c).mpr (.inl hn)));rw[zfv] at this;rw[j3,cnt_cons];split at this<;>rename_i hc
  .rw[br hc];lia
  .rw[bw hc];lia
def zjd (near:β->α->Bool)(num:β->Int)(O:List β)(done rest:List α)(c:α)(S:List (List α)):(Subs.step (S.filter (good near num O done (c::rest))) c).filter (chk near num O c rest)=(Subs.step S c).filter (good near num O (done++[c]) rest):=by
 unfold Subs.step;rw[WX,WX];congr 1
 .rw[VO];refine V8 λp _=>?_;rw[<- zmP,RF]
 .rw[List.filter_map,List.filter_map,VO];congr 1;refine V8 λp _=>?_;show (chk near num O c rest (p++[c])&&good near num O done (c::rest) p)=good near num O (done++[c]) rest (p++[c]);rw[<- zmQ,RF]
theorem zdD (near:β->α->Bool)(num:β->Int)(O:List β):∀(rest done:List α) (S:List (List α)),grow near num O (S.filter (good near num O done rest)) rest=(rest.foldl Subs.step S).filter (good near num O (done++rest) [])
 | [],done,S=>by
  rw[Xd];rfl
 | c::r,done,S=>by
  show grow near num O ((Subs.step (S.filter (good near num O done (c::r))) c).filter (chk near num O c r)) r=_;rw[zjd,zdD near num O r (done++[c]) (Subs.step S c),W3];rfl
def fits (near:β->α->Bool)(num:β->Int)(O:List β)(part:List α)(p:List α):Bool:=(O.filter λo=>part.any (near o)).all λo=>decide (((cnt near o p:Nat):Int)=num o)
def zmR (near:β->α->Bool)(num:β->Int)(O:List β)(part:List α):grow near num O [[]] part=(Subs.subs part).filter (fits near num O part):=by
 have h:=zdD near num O part [] [[]];have e:([[]]:List (List α)).filter (good near num O [] part)=[[]]:=by
  have:good near num O [] part []=true:=Ye.mpr λo _ hn=>by simp at hn
  rw[Wr,br this];rfl
 rw[e] at h;rw[h];show (Subs.subs part).filter _=_;refine V8 λp _=>?_;rw[List.nil_append];unfold good fits;congr 1;funext o;rw[W1,j3,bf];show num o-((0:Nat):Int)<=_/\_↔_;lia
end Grow
namespace Cnt
variable {α:Type}
def Jo (g:Nat)(ks:List (List α)):List Int:=(Wy (g+1)).map λn=>((ks.countP λk=>decide (k.length=n):Nat):Int)
def Q0 (g:Nat)(ks:List (List α)):(Jo g ks).length=g+1:=by
 unfold Jo;rw[Y1,WI]
def zkJ (g:Nat):Jo g ([]:List (List α))=WN (g+1) 0:=by
 unfold Jo;refine List.eq_replicate_iff.mpr ⟨by rw[Y1,WI],λb hb=>?_⟩;obtain⟨n,_,rfl⟩:=XM.mp hb;rfl
def zb4 {g n:Nat}(ks:List (List α))(h:n<=g):(Jo g ks)[n]?=some ((ks.countP λk=>decide (k.length=n):Nat):Int):=by
 unfold Jo;rw[Xo,U8 (by lia)];rfl
def zje {g:Nat}(ks:List (List α)){k:List α}(h:k.length<=g):Jo g (ks++[k])=(Jo g ks).set k.length (((ks.countP λx=>decide (x.length=k.length):Nat):Int)+1):=by
 refine SZ λn=>?_;rw[List.getElem?_set];by_cases hn:n<=g
 .rw[zb4 _ hn,zb4 _ hn,Q0,List.countP_append];by_cases e:k.length=n
  .rw[br e,br (by lia)];subst e;simp
  .rw[bw e];simp[e]
 .have e1:∀xs:List (List α),(Jo g xs)[n]?=none:=λxs=>SQ (by rw[Q0];lia);rw[e1,e1,Q0,bw (by lia)]
def zjf {g:Nat}{as bs:List (List α)}(h:as.Perm bs):Jo g as=Jo g bs:=by
 unfold Jo;refine Xa λn _=>?_;rw[h.countP_eq]
end Cnt
namespace Pour
def S (h:Nat->Int):Nat->Int
 | 0=>0
 | n+1=>S h n+h n
def F (xs:List Int)(i:Nat):Int:=(xs[i]?).getD 0
def hk (xs ys:List Int)(k i:Nat):Int:=if i<=k then F xs i*F ys (k-i) else 0
def YU (xs ys:List Int):List Int:=(Wy (xs.length+ys.length-1)).map λk=>S (hk xs ys k) xs.length
def part (xs ys:List Int)(i j k:Nat):Int:=S (hk xs ys k) i+(if i<=k/\k-i<j then F xs i*F ys (k-i) else 0)
def st (xs ys:List Int)(i j:Nat):List Int:=(Wy (xs.length+ys.length-1)).map (part xs ys i j)
def zb5 {xs:List Int}{i:Nat}(h:xs.length<=i):F xs i=0:=by
 unfold F;rw[SQ h];rfl
def zmS {xs:List Int}{i:Nat}{x:Int}(h:xs[i]?=some x):F xs i=x:=by
 unfold F;rw[h];rfl
theorem Zx {f g:Nat->Int}:∀n,(∀i,i<n->f i=g i)->S f n=S g n
 | 0,_=>rfl
 | n+1,h=>by
  show S f n+f n=S g n+g n;rw[Zx n λi hi=>h i (by lia),h n (by lia)]
theorem zkK {f:Nat->Int}{n:Nat}:∀m,(∀i,n<=i->i<n+m->f i=0)->S f (n+m)=S f n
 | 0,_=>rfl
 | m+1,h=>by
  show S f (n+m)+f (n+m)=S f n;rw[zkK m λi h1 h2=>h i h1 (by lia),h (n+m) (by lia) (by lia),Se]
def zmT {f:Nat->Int}{n m:Nat}(hm:n<=m)(h:∀i,n<=i->i<m->f i=0):S f m=S f n:=by
 obtain⟨d,rfl⟩:∃d,m=n+d:=⟨m-n,by lia⟩;exact zkK d h
def zo5 (xs ys:List Int)(k:Nat):S (hk xs ys k) xs.length=S (λi=>F xs i*F ys (k-i)) (k+1):=by
 have e1:S (λi=>F xs i*F ys (k-i)) (k+1)=S (hk xs ys k) (k+1):=Zx _ λi hi=>by
  unfold hk;rw[br (by lia)]
 rw[e1];by_cases c:xs.length<=k+1
 .refine(zmT c λi h1 _=>?_).symm;unfold hk;rw[zb5 h1];split<;>simp
 .refine zmT (by lia) λi h1 _=>?_;unfold hk;rw[bw (by lia)]
def zgN (xs ys:List Int)(i j:Nat):(st xs ys i j).length=xs.length+ys.length-1:=by
 unfold st;rw[Y1,WI]
def zgO {xs ys:List Int}{i j k:Nat}(h:k<xs.length+ys.length-1):(st xs ys i j)[k]?=some (part xs ys i j k):=by
 unfold st;rw[Xo,U8 h];rfl
def zkL (xs ys:List Int):st xs ys 0 0=WN (xs.length+ys.length-1) 0:=by
 unfold st;have e:∀k,part xs ys 0 0 k=0:=λk=>by
  unfold part;rw[bw (by lia)];rfl
 refine(Xa (g:=λ_=>(0:Int)) λk _=>e k).trans ?_;rw[List.map_const',WI]
def zkM (xs ys:List Int)(i k:Nat):part xs ys i ys.length k=part xs ys (i+1) 0 k:=by
 unfold part;rw[bw (show ¬ (i+1<=k/\k-(i+1)<0) by lia),Se];show _=S (hk xs ys k) i+hk xs ys k i;congr 1;unfold hk;by_cases c:i<=k
 .by_cases d:k-i<ys.length
  .rw[br ⟨c,d⟩,br c]
  .rw[bw (λz=>d z.2),br c,zb5 (show ys.length<=k-i by lia),Int.mul_zero]
 .rw[bw (λz=>c z.1),bw c]
def zo6 (xs ys:List Int)(i:Nat):st xs ys i ys.length=st xs ys (i+1) 0:=by
 unfold st;exact Xa λk _=>zkM xs ys i k
def zmU {xs ys:List Int}{i j:Nat}{x y:Int}(hx:xs[i]?=some x)(hy:ys[j]?=some y):(st xs ys i j).set (i+j) (part xs ys i j (i+j)+x*y)=st xs ys i (j+1):=by
 have hi:i<xs.length:=(X5.mp hx).1;have hj:j<ys.length:=(X5.mp hy).1;apply SZ;intro k;rw[List.getElem?_set];by_cases c:k<xs.length+ys.length-1
 .rw[zgO c,zgO c];by_cases e:i+j=k
  .subst e;rw[br rfl,br (by rw[zgN];exact c)];congr 1;unfold part;rw[bw (by lia),br (by lia),Se,zmS hx,Rc,zmS hy]
  .rw[bw e];congr 1;unfold part;congr 1;by_cases d:i<=k/\k-i<j
   .rw[br d,br (by lia)]
   .rw[bw d,bw (by lia)]
 .have n1:∀j',(st xs ys i j')[k]?=none:=λj'=>SQ (by rw[zgN];lia);rw[n1,n1];by_cases e:i+j=k
  .lia
  .rw[bw e]
def zo7 (xs ys:List Int):st xs ys xs.length 0=YU xs ys:=by
 unfold st YU;refine Xa λk _=>?_;unfold part;rw[bw (by lia),Se]
end Pour
namespace Choose
def ch:Nat->Nat->Nat
 | _,0=>1
 | 0,_+1=>0
 | n+1,k+1=>ch n k+ch n (k+1)
def YD (n:Nat):ch n 0=1:=by cases n<;>rfl
theorem zau:∀(n k:Nat),n<k->ch n k=0
 | 0,0,h=>absurd h (by lia)
 | 0,k+1,_=>rfl
 | n+1,0,h=>absurd h (by lia)
 | n+1,k+1,h=>by
  show ch n k+ch n (k+1)=0;rw[zau n k (by lia),zau n (k+1) (by lia)]
theorem zbp:∀n k:Nat,(k+1)*ch n (k+1)+k*ch n k=n*ch n k
 | 0,0=>rfl
 | 0,k+1=>by
  show (k+1+1)*0+(k+1)*0=0*0;simp
 | n+1,0=>by
  have h:=zbp n 0;rw[YD] at h ⊢;show (0+1)*(ch n 0+ch n (0+1))+0*1=(n+1)*1;rw[YD];lia
 | n+1,j+1=>by
  have h1:=zbp n (j+1);have h2:=zbp n j;show (j+1+1)*(ch n (j+1)+ch n (j+1+1))+(j+1)*(ch n j+ch n (j+1))=(n+1)*(ch n j+ch n (j+1));generalize ch n (j+1+1)=C2 at *
  generalize ch n (j+1)=C1 at *
  generalize ch n j=C0 at *
  simp only[Nat.add_mul,Nat.mul_add,Nat.one_mul] at *
  lia
def zmV {n k:Nat}(h:k<n):(ch n k:Int)*((n:Int)-k)/((k:Int)+1)=ch n (k+1):=by
 have e:=zbp n k;have e2:(ch n k:Int)*((n:Int)-k)=(ch n (k+1):Int)*((k:Int)+1):=by
  have:((k+1)*ch n (k+1)+k*ch n k:Int)=(n*ch n k:Int):=by exact_mod_cast e
  rw[Int.mul_sub,OH (ch n k:Int) n,<- this,OH (ch n (k+1):Int) ((k:Int)+1),OH (ch n k:Int) (k:Int)];lia
 rw[e2];exact Int.mul_ediv_cancel _ (by lia)
def zql (n:Nat):∀k,ch n k<=2^n:=by
 induction n with
 | zero =>
  intro k;cases k with
  | zero=>decide
  | succ k =>
   show (0:Nat)<=2^0;decide
 | succ n ih =>
  intro k;cases k with
  | zero =>
   rw[YD];exact Nat.one_le_two_pow
  | succ k =>
   show ch n k+ch n (k+1)<=2^(n+1);rw[Ui];have:=ih k;have:=ih (k+1);lia
end Choose
namespace Tally
open Subs
variable {α:Type}
theorem Q2:∀(B:List α) (S0:List (List α)),B.foldl step S0=(subs B).flatMap λb=>S0.map (·++b)
 | [],S0=>by simp[subs]
 | c::r,S0=>by
  have e:subs (c::r)=(subs r).flatMap λb=>[b,c::b]:=by
   show r.foldl step (step [[]] c)=_;rw[Q2 r];rfl
  show r.foldl step (step S0 c)=_;rw[Q2 r,e,List.flatMap_assoc];congr 1;funext b;show (S0++S0.map (·++[c])).map (·++b)=S0.map (·++b)++(S0.map (·++(c::b))++[]);rw[Xh,Xd,Wg];congr 1;refine Xa λx _=>?_;show x++[c]++b=_;rw[W3];rfl
def zav (c:α)(r:List α):subs (c::r)=(subs r).flatMap λb=>[b,c::b]:=by
 show r.foldl step (step [[]] c)=_;rw[Q2 r];rfl
def zfw (A B:List α):subs (A++B)=(subs B).flatMap λb=>(subs A).map (·++b):=by
 unfold subs;rw[UH];exact Q2 B _
theorem zdE (c:α)(p:List α->Bool):∀L:List (List α),(L.flatMap λb=>[b,c::b]).countP p=L.countP p+L.countP λS=>p (c::S)
 | []=>rfl
 | b::L=>by
  have ih:=zdE c p L;rw[UG,List.countP_append,ih,Wx (l:=L),Wx (l:=L),Wx,Wx,PN];lia
def count_cons (c:α)(r:List α)(p:List α->Bool):(subs (c::r)).countP p=(subs r).countP p+(subs r).countP λS=>p (c::S):=by
 rw[zav,zdE]
def Inv (p:List α->Bool):Prop:=∀a b,a.Perm b->p a=p b
theorem Inv.cons {p:List α->Bool}(h:Inv p)(c:α):Inv λS=>p (c::S):=λ_ _ e=>h _ _ (e.cons c)
def zgP {cs ds:List α}(e:cs.Perm ds):∀{p:List α->Bool},Inv p->(subs cs).countP p=(subs ds).countP p:=by
 induction e with
 | nil=>intro p _;rfl
 | cons c _ ih =>
  intro p h;rw[count_cons,count_cons,ih h,ih (h.cons c)]
 | swap x y l =>
  intro p h;rw[count_cons,count_cons,count_cons,count_cons,count_cons,count_cons];have:(subs l).countP (λS=>p (y::x::S))=(subs l).countP λS=>p (x::y::S):=Vf λS _=>by rw[h _ _ (List.Perm.swap x y S)]
  lia
 | trans _ _ i1 i2 =>
  intro p h;exact(i1 h).trans (i2 h)
def T (cs:List α)(p:List α->Bool)(k:Nat):Nat:=(subs cs).countP λS=>decide (S.length=k)&&p S
def zo8 {cs ds:List α}(e:cs.Perm ds){p:List α->Bool}(h:Inv p)(k:Nat):T cs p k=T ds p k:=zgP e λa b e=>by rw[h a b e,e.length_eq]
def zmW {cs:List α}{p q:List α->Bool}(h:∀S∈subs cs,p S=q S)(k:Nat):T cs p k=T cs q k:=Vf λS hS=>by rw[h S hS]
theorem znU (f g:Nat->Int):∀n,Pour.S (λi=>f i+g i) n=Pour.S f n+Pour.S g n
 | 0=>rfl
 | n+1=>by
  show Pour.S (λi=>f i+g i) n+(f n+g n)=Pour.S f n+f n+(Pour.S g n+g n);rw[znU f g n];lia
theorem zkN:∀n,Pour.S (λ_=>0) n=0
 | 0=>rfl
 | n+1=>by
  show Pour.S (λ_=>0) n+0=0;rw[zkN n];rfl
theorem zfx (j:Nat)(x:Int):∀n,Pour.S (λi=>if i=j then x else 0) n=if j<n then x else 0
 | 0=>rfl
 | n+1=>by
  show Pour.S (λi=>if i=j then x else 0) n+(if n=j then x else 0)=_;rw[zfx j x n];by_cases h:n=j
  .rw[bw (by lia),br h,br (by lia),VH]
  .rw[bw h,Se];by_cases h2:j<n
   .rw[br h2,br (by lia)]
   .rw[bw h2,bw (by lia)]
def zfy (q:List α->Bool)(f:Nat->Nat)(k:Nat):∀L:List (List α),(((L.map λb=>if (q b&&decide (b.length<=k))=true then f (k-b.length) else 0).sum:Nat):Int)=Pour.S (λi=>(f i:Int)*((L.countP λb=>decide (b.length=k-i)&&q b:Nat):Int)) (k+1):=by
 intro L;induction L with
 | nil =>
  have:Pour.S (λi=>(f i:Int)*((([]:List (List α)).countP λb=>decide (b.length=k-i)&&q b:Nat):Int)) (k+1)=Pour.S (λ_=>0) (k+1):=Pour.Zx _ λi _=>by
   show (f i:Int)*0=0;lia
  rw[this,zkN];rfl
 | cons b L ih =>
  rw[Xu,List.sum_cons,PM,ih];have e:Pour.S (λi=>(f i:Int)*(((b::L).countP λb=>decide (b.length=k-i)&&q b:Nat):Int)) (k+1)=Pour.S (λi=>(f i:Int)*((L.countP λb=>decide (b.length=k-i)&&q b:Nat):Int)+if i=k-b.length then (if (q b&&decide (b.length<=k))=true then (f (k-b.length):Int) else 0) else 0) (k+1):=Pour.Zx _ λi hi=>by
   rw[Wx];by_cases hq:q b=true
   .by_cases hb:b.length<=k
    .by_cases hik:i=k-b.length
     .have h1:b.length=k-i:=by lia
      have h2:k-i<=k:=by lia
      simp only[hq,h1,h2,decide_true,Sy,if_true,br hik];rw[show k-(k-i)=i by lia,br rfl,PM,Int.mul_add];lia
     .have h1:¬b.length=k-i:=by lia
      simp only[hq,h1,decide_false,Sy,bw hik];simp
    .have h1:¬b.length=k-i:=by lia
     simp[hq,h1,hb]
   .have hq':q b=false:=XC.mpr hq;simp[hq']
  rw[e,znU,zfx,br (show k-b.length<k+1 by lia),Int.add_comm];congr 1;split<;>rfl
def znV {A B:List α}{P pA pB:List α->Bool}(h:∀a∈subs A,∀b∈subs B,P (a++b)=(pA a&&pB b))(k:Nat):(T (A++B) P k:Int)=Pour.S (λi=>(T A pA i:Int)*(T B pB (k-i):Int)) (k+1):=by
 unfold T;rw[zfw,List.countP_flatMap];have e:(subs B).map (List.countP (λS=>decide (S.length=k)&&P S)∘λb=>(subs A).map (·++b))=(subs B).map λb=>if (pB b&&decide (b.length<=k))=true then (T A pA) (k-b.length) else 0:=by
  refine Xa λb hb=>?_;show List.countP _ ((subs A).map (·++b))=_;rw[List.countP_map];by_cases hq:(pB b&&decide (b.length<=k))=true
  .rw[br hq];obtain⟨h1,h2⟩:=VN.mp hq;have h2:=bh h2;refine Vf λa ha=>?_;show (decide ((a++b).length=k)&&P (a++b))=true↔(decide (a.length=k-b.length)&&pA a)=true;rw[h a ha b hb,h1,Sy,X0,show (decide (a.length+b.length=k))=decide (a.length=k-b.length) from decide_eq_decide.mpr (by lia)]
  .rw[bw hq];refine Uv.mpr λa ha hh=>hq ?_;have hh:(decide ((a++b).length=k)&&P (a++b))=true:=hh;rw[h a ha b hb] at hh;obtain⟨h1,h2⟩:=VN.mp hh;have h1:=bh h1;rw[X0] at h1;rw[(VN.mp h2).2,bu (by lia)];rfl
 rw[e,zfy];rfl
def YE {cs S:List α}(h:S∈subs cs):S.Sublist cs:=by
 revert S;induction cs with
 | nil=>intro S h;simp[subs] at h;subst h;exact List.Sublist.refl _
 | cons c r ih =>
  intro S h;rw[zav] at h;obtain⟨b,hb,h⟩:=UX.mp h;have:=ih hb;simp at h;rcases h with rfl | rfl
  .exact this.cons c
  .exact this.cons_cons c
def zmX {cs:List α}:∀{S:List α},S.Sublist cs->S∈subs cs:=by
 induction cs with
 | nil=>intro S h;cases h;simp[subs]
 | cons c r ih =>
  intro S h;rw[zav];cases h with
  | cons _ h=>exact UX.mpr ⟨S,ih h,by simp⟩
  | cons_cons _ h=>exact UX.mpr ⟨_,ih h,by simp⟩
def zfz {cs:List α}{p:List α->Bool}{k:Nat}(h:cs.length<k):T cs p k=0:=by
 refine Uv.mpr λS hS hh=>?_;have h1:=bh (VN.mp hh).1;have h2:=(YE hS).length_le;lia
def tl (cs:List α)(p:List α->Bool):List Int:=(Wy (cs.length+1)).map λk=>(T cs p k:Int)
def Yg (cs:List α)(p:List α->Bool):(tl cs p).length=cs.length+1:=by
 unfold tl;rw[Y1,WI]
def zmY (cs:List α)(p:List α->Bool)(i:Nat):Pour.F (tl cs p) i=(T cs p i:Int):=by
 by_cases h:i<cs.length+1
 .refine Pour.zmS ?_;unfold tl;rw[Xo,U8 h];rfl
 .rw[Pour.zb5 (by rw[Yg];lia),zfz (by lia)];rfl
def zmZ {A B:List α}{P pA pB:List α->Bool}(h:∀a∈subs A,∀b∈subs B,P (a++b)=(pA a&&pB b)):Pour.YU (tl A pA) (tl B pB)=tl (A++B) P:=by
 unfold Pour.YU;rw[Yg,Yg];show _=(Wy ((A++B).length+1)).map λk=>(T (A++B) P k:Int);rw[X0,show A.length+1+(B.length+1)-1=A.length+B.length+1 by lia];refine Xa λk _=>?_;have e:=Pour.zo5 (tl A pA) (tl B pB) k;rw[Yg] at e;rw[e,znV h];exact Pour.Zx _ λi _=>by rw[zmY,zmY]
def zkO {cs:List α}{p q:List α->Bool}(h:∀S∈subs cs,p S=q S):tl cs p=tl cs q:=by
 unfold tl;refine Xa λk _=>by rw[zmW h]
theorem zhW:∀(cs:List α) (k:Nat),T cs (λ_=>true) k=Choose.ch cs.length k
 | [],0=>rfl
 | [],k+1=>rfl
 | c::r,0=>by
  have e:=zhW r 0;unfold T at e ⊢;rw[count_cons,e,Choose.YD,Choose.YD];have:(subs r).countP (λS=>decide ((c::S).length=0)&&true)=0:=Uv.mpr λS _ hh=>by simp at hh
  rw[this]
 | c::r,k+1=>by
  have e1:=zhW r k;have e2:=zhW r (k+1);unfold T at e1 e2 ⊢;rw[count_cons,e2];have:(subs r).countP (λS=>decide ((c::S).length=k+1)&&true)=(subs r).countP λS=>decide (S.length=k)&&true:=Vf λS _=>by
   rw[Xj,show decide (S.length+1=k+1)=decide (S.length=k) from decide_eq_decide.mpr (by lia)]
  rw[this,e1];show _=Choose.ch r.length k+Choose.ch r.length (k+1);lia
variable {α:Type}
structure Loc (U:List α)(p:List α->Bool)(g:List α):Prop where
 l:∀a b,(∀c∈a,c∈U/\c ∉ g)->p (a++b)=p b
 r:∀a b,(∀c∈b,c∈U/\c ∉ g)->p (a++b)=p a
def Zy (fit:List α->List α->Bool)(gs:List (List α))(S:List α):Bool:=gs.all λg=>fit g S
def zkP (fit:List α->List α->Bool)(as bs:List (List α))(S:List α):Zy fit (as++bs) S=(Zy fit as S&&Zy fit bs S):=List.all_append
def zgQ {fit:List α->List α->Bool}{gs:List (List α)}{S S':List α}(h:∀g∈gs,fit g S=fit g S'):Zy fit gs S=Zy fit gs S':=by
 unfold Zy;induction gs with
 | nil=>rfl
 | cons g r ih =>
  rw[RI,RI,h g XU,ih λx hx=>h x (XR _ hx)]
def zgR {U:List α}{fit:List α->List α->Bool}{done:List (List α)}{g:List α}{q:List α->Bool}(nd:(done.flatten++g).Nodup)(hU:∀c∈done.flatten++g,c∈U)(hd:∀x∈done,Loc U (fit x) x)(hg:Loc U q g) :
  Pour.YU (tl done.flatten (Zy fit done)) (tl g q)=tl (done.flatten++g) λS=>Zy fit done S&&q S:=by
 obtain⟨_,_,n3⟩:=WW.mp nd;refine zmZ λa ha b hb=>?_;have sa:=(YE ha).subset;have sb:=(YE hb).subset;rw[hg.l a b λc hc=>⟨hU c (Xf _ (sa hc)),λh=>n3 c (sa hc) c h rfl⟩];congr 1;exact zgQ λx hx=>(hd x hx).r a b λc hc=>⟨hU c (W7 _ (sb hc)),λh=>n3 c (Wi.mpr ⟨x,hx,h⟩) c (sb hc) rfl⟩
def zm0 {U:List α}{fit:List α->List α->Bool}:∀(gs done:List (List α)),(done++gs).flatten.Nodup->(∀c∈(done++gs).flatten,c∈U)->(∀g∈done++gs,Loc U (fit g) g)->(gs.map λg=>tl g (fit g)).foldl Pour.YU (tl done.flatten (Zy fit done))=tl (done++gs).flatten (Zy fit (done++gs)):=by
 intro gs;induction gs with
 | nil =>
  intro done _ _ _;rw[Xd];rfl
 | cons g r ih =>
  intro done nd hU hL;have e:done++g::r=(done++[g])++r:=by rw[W3];rfl
  rw[e] at nd hU hL ⊢;have e2:(done++[g]).flatten=done.flatten++g:=by rw[VW];simp
  have nd2:(done.flatten++g).Nodup:=by
   rw[VW,e2] at nd;exact(WW.mp nd).1
  have ih:=ih (done++[g]) nd hU hL;rw[<- ih,Xu,VL,e2];congr 1;rw[zgR nd2 (λc hc=>hU c (by rw[VW,e2];exact Xf _ hc)) (λx hx=>hL x (by simp[hx])) (hL g (by simp))];refine zkO λS _=>?_;rw[zkP];congr 1;show fit g S=(fit g S&&true);rw[Sy]
def zkQ {U:List α}{fit:List α->List α->Bool}{gs:List (List α)}(nd:gs.flatten.Nodup)(hU:∀c∈gs.flatten,c∈U)(hL:∀g∈gs,Loc U (fit g) g):(gs.map λg=>tl g (fit g)).foldl Pour.YU [1]=tl gs.flatten (Zy fit gs):=zm0 gs [] nd hU hL
def chZ (n:Nat)(k:Int):Int:=if k<0 then 0 else (Choose.ch n k.toNat:Nat)
def dl (xs:List Int)(m:Nat)(s:Int):Int:=Pour.S (λk=>Pour.F xs k*chZ m (s-(k:Nat))) xs.length
def zo9 (g:Nat->Int){a b:Nat}(ha:∀i,a<=i->g i=0)(hb:∀i,b<=i->g i=0):Pour.S g a=Pour.S g b:=by
 by_cases h:a<=b
 .exact(Pour.zmT h λi h1 _=>ha i h1).symm
 .exact Pour.zmT (by lia) λi h1 _=>hb i h1
def zqm {A far:List α}{P pA:List α->Bool}(h:∀a∈subs A,∀b∈subs far,P (a++b)=pA a)(s:Nat):dl (tl A pA) far.length (s:Nat)=(T (A++far) P s:Int):=by
 rw[znV (pB:=λ_=>true) (λa ha b hb=>by rw[h a ha b hb,Sy]) s];unfold dl;rw[Yg];rw[zo9 (λk=>Pour.F (tl A pA) k*chZ far.length ((s:Int)-(k:Nat))) (a:=A.length+1) (b:=s+1) (λi hi=>by rw[zmY,zfz (by lia)];simp) (λi hi=>by
  unfold chZ;rw[br (by lia),Int.mul_zero])]
 refine Pour.Zx _ λi hi=>?_;show Pour.F (tl A pA) i*chZ far.length ((s:Int)-(i:Nat))=_;rw[zmY,zhW];unfold chZ;rw[bw (by lia),show ((s:Int)-(i:Nat)).toNat=s-i by lia]
def zm1 {cs:List α}{p:List α->Bool}(h:∀S∈subs cs,p S=false)(k:Nat):T cs p k=0:=Uv.mpr λS hS hh=>by
 rw[h S hS,R7] at hh;cases hh
def zm2 (cs:List α)(p:List α->Bool):Cnt.Jo cs.length ((subs cs).filter p)=tl cs p:=by
 unfold Cnt.Jo tl T;refine Xa λk _=>?_;rw[List.countP_filter]
def zkR {β:Type}(g:Nat)(f:List α->List β)(hf:∀k,(f k).length=k.length)(ks:List (List α)):Cnt.Jo g (ks.map f)=Cnt.Jo g ks:=by
 unfold Cnt.Jo;refine Xa λn _=>?_;rw[List.countP_map];congr 1;refine Vf λk _=>?_;show decide ((f k).length=n)=true↔_;rw[hf]
variable {α β:Type}
end Tally
namespace Two
def ext (cl st:AB)(c:AA)(S:AB):List AB:=(if c∈st then [] else [S])++(if c∈cl then [] else [S++[c]])
def cho (cl st:AB)(cs:AB):List AB:=cs.foldl (λL c=>L.flatMap (ext cl st c)) [[]]
def zfA (cl st cs:AB)(c:AA):cho cl st (cs++[c])=(cho cl st cs).flatMap (ext cl st c):=by
 unfold cho;rw[UH];rfl
def zhX {cl st:AB}{c:AA}{S U:AB}:U∈ext cl st c S↔(c ∉ st/\U=S)\/(c ∉ cl/\U=S++[c]):=by
 unfold ext;rw[XQ];constructor
 .rintro(h | h)
  .split at h
   .cases h
   .exact .inl ⟨by assumption,by simpa using h⟩
  .split at h
   .cases h
   .exact .inr ⟨by assumption,by simpa using h⟩
 .rintro(⟨h,rfl⟩ | ⟨h,rfl⟩)
  .left;rw[bw h];exact XU
  .right;rw[bw h];exact XU
def snocInd {P:AB->Prop}(h0:P [])(h1:∀cs c,P cs->P (cs++[c])):∀cs,P cs:=by
 intro cs;have h:∀ds:AB,P ds.reverse:=λds=>by
  induction ds with
  | nil=>exact h0
  | cons c r ih =>
   rw[List.reverse_cons];exact h1 _ _ ih
 have:=h cs.reverse;rw[Sr] at this;exact this
def zpa {cl st:AB}:∀{cs S:AB},S∈cho cl st cs->S.Sublist cs/\(∀c∈cs,c∈st->c∈S)/\∀c∈S,c ∉ cl:=by
 refine λ{cs}=>snocInd (P:=λcs=>∀{S:AB},S∈cho cl st cs->S.Sublist cs/\(∀c∈cs,c∈st->c∈S)/\∀c∈S,c ∉ cl) ?_ ?_ cs
 .intro S h;have:S=[]:=by simpa[cho] using h
  subst this;exact⟨List.Sublist.refl _,(λ_ h=>nomatch h),(λ_ h=>nomatch h)⟩
 .intro cs c ih S h;rw[zfA] at h;obtain⟨U,hU,hS⟩:=UX.mp h;obtain⟨a,b,d⟩:=ih hU;rcases zhX.mp hS with ⟨h1,rfl⟩ | ⟨h1,rfl⟩
  .refine⟨a.trans (UA _ _),λx hx hs=>?_,d⟩;rcases XQ.mp hx with hx | hx
   .exact b x hx hs
   .have:x=c:=by simpa using hx
    exact absurd (this ▸ hs) h1
  .refine⟨a.append (List.Sublist.refl _),λx hx hs=>?_,λx hx=>?_⟩
   .rcases XQ.mp hx with hx | hx
    .exact Xf _ (b x hx hs)
    .exact W7 _ hx
   .rcases XQ.mp hx with hx | hx
    .exact d x hx
    .have:x=c:=by simpa using hx
     exact this ▸ h1
def zkS {cl st:AB}(p:AA->Bool):∀cs:AB,(∀c∈cs,c∈st->p c=true)->(∀c∈cs,c∈cl->p c=false)->cs.filter p∈cho cl st cs:=by
 refine snocInd (λ_ _=>by simp[cho]) λcs c ih h1 h2=>?_;rw[zfA,WX];refine UX.mpr ⟨_,ih (λx hx=>h1 x (Xf _ hx)) (λx hx=>h2 x (Xf _ hx)),zhX.mpr ?_⟩;have hc:c∈cs++[c]:=W7 _ XU;by_cases hp:p c=true
 .refine .inr ⟨λz=>?_,by simp[hp]⟩;rw[h2 c hc z] at hp;cases hp
 .refine .inl ⟨λz=>hp (h1 c hc z),by simp[hp]⟩
def cnt (A S:AB):Nat:=(A.filter λc=>decide (c∈S)).length
def zT {l:AB}(p:AA->Bool)(h:l.Nodup):(l.filter p).Nodup:=List.Sublist.nodup XA h
def zkT {A S:AB}(hA:A.Nodup)(hS:S.Nodup):cnt A S=cnt S A:=by
 unfold cnt;refine U7 ((W6 (zT _ hA) (zT _ hS)).mpr λx=>?_);simp only[X9,bf];exact And.comm
def zew {l X:AB}(hl:l.Nodup)(hX:X.Nodup)(h:∀x∈X,x∈l):cnt l X=X.length:=by
 rw[zkT hl hX];unfold cnt;rw[Uu.mpr λx hx=>bu (h x hx)]
def zaw {l X Y:AB}(h:∀x∈l,x∈X↔x∈Y):cnt l X=cnt l Y:=by
 unfold cnt;congr 1;refine V8 λx hx=>?_;rw[decide_eq_decide];exact h x hx
theorem zb6 (q:AA->Bool)(S:AB):∀A:AB,cnt A S=cnt (A.filter q) S+cnt (A.filter λc=>!q c) S
 | []=>rfl
 | c::r=>by
  have ih:=zb6 q S r;simp only[cnt,VO] at ih ⊢;by_cases h1:q c=true<;>by_cases h2:c∈S<;>simp[Wr,h1,h2]<;>lia
def zgS (A S:AB):cnt A S<=A.length:=Xg _ _
def zb7 {A S:AB}(h:cnt A S=0):∀c∈A,c ∉ S:=λc hc hS=>by
 have:c∈A.filter λc=>decide (c∈S):=X9.mpr ⟨hc,bu hS⟩;rw[VP.mp h] at this;cases this
def zb8 {A S:AB}(h:cnt A S=A.length):∀c∈A,c∈S:=λc hc=>by
 have h1:A.filter (λc=>decide (c∈S))=A:=(XA).eq_of_length h;have:=Uu.mp h1 c hc;exact bh this
def pick {l:AB}(hl:l.Nodup){k:Nat}(hk:k<=l.length):∃X:AB,X.Nodup/\(∀x∈X,x∈l)/\X.length=k :=
 ⟨l.take k,(S6 k l).nodup hl,λx hx=>V6 hx,by rw[XF];lia⟩
def zax {l:AB}(hl:l.Nodup){c:AA}(hc:c∈l){k:Nat}(h1:1<=k)(hk:k<=l.length):∃X:AB,X.Nodup/\(∀x∈X,x∈l)/\X.length=k/\c∈X:=by
 have he:=Tt hc;obtain⟨X,a,b,d⟩:=pick (hl.erase c) (k:=k-1) (by lia);refine⟨c::X,WB.mpr ⟨λz=>?_,a⟩,λx hx=>?_,by rw[Xj];lia,XU⟩
 .exact(hl.mem_erase_iff.mp (b c z)).1 rfl
 .rcases XG.mp hx with rfl | hx
  .exact hc
  .exact Pz (b x hx)
def Zz {l:AB}(hl:l.Nodup){c:AA}(hc:c∈l){k:Nat}(hk:k<l.length):∃X:AB,X.Nodup/\(∀x∈X,x∈l)/\X.length=k/\c ∉ X:=by
 have he:=Tt hc;obtain⟨X,a,b,d⟩:=pick (hl.erase c) (k:=k) (by lia);exact⟨X,a,λx hx=>Pz (b x hx),d,λz=>(hl.mem_erase_iff.mp (b c z)).1 rfl⟩
structure In (cl st cs A B:AB):Prop where
 nd:cs.Nodup
 na:A.Nodup
 nb:B.Nodup
 a:∀c∈A,c∈cs/\c ∉ st/\c ∉ cl
 b:∀c∈B,c∈cs/\c ∉ st/\c ∉ cl
 ap:∀c∈cl,c ∉ st
def both (A B:AB):AB:=A.filter λc=>decide (c∈B)
def alone (A B:AB):AB:=A.filter λc=>!decide (c∈B)
structure Fit (cl st cs A B:AB)(a b:Int)(S:AB):Prop where
 ch:S∈cho cl st cs
 fa:(cnt A S:Int)=a
 fb:(cnt B S:Int)=b
def zjg {A B:AB}(hA:A.Nodup)(hB:B.Nodup)(S:AB):cnt (both B A) S=cnt (both A B) S:=by
 unfold cnt both;refine U7 ((W6 (zT _ (zT _ hB)) (zT _ (zT _ hA))).mpr λx=>?_);simp only[X9,bf];exact⟨λh=>⟨⟨h.1.2,h.1.1⟩,h.2⟩,λh=>⟨⟨h.1.2,h.1.1⟩,h.2⟩⟩
def zhY {A B:AB}(hA:A.Nodup)(hB:B.Nodup)(S:AB):cnt A S=cnt (both A B) S+cnt (alone A B) S/\cnt B S=cnt (both A B) S+cnt (alone B A) S:=by
 refine⟨zb6 _ S A,?_⟩;rw[<- zjg hA hB];exact zb6 _ S B
def Fit.k {cl st cs A B S:AB}{a b:Int}(I:In cl st cs A B)(h:Fit cl st cs A B a b S):(cnt (both A B) S:Int)<=(both A B).length/\(cnt (alone A B) S:Int)=a-cnt (both A B) S/\(cnt (alone B A) S:Int)=b-cnt (both A B) S/\cnt (alone A B) S<=(alone A B).length/\cnt (alone B A) S<=(alone B A).length:=by
 have t:=zhY I.na I.nb S;have h1:=h.fa;have h2:=h.fb;have h3:=zgS (both A B) S;exact⟨by lia,by lia,by lia,zgS _ _,zgS _ _⟩
def Fit.mk' {cl st cs A B X Y Z W:AB}{a b:Int}{k:Nat}(I:In cl st cs A B)(hX:X.Nodup)(hY:Y.Nodup)(hZ:Z.Nodup)(sX:∀x∈X,x∈both A B)(sY:∀x∈Y,x∈alone A B)(sZ:∀x∈Z,x∈alone B A)(sW:∀x∈W,x ∉ A/\x ∉ B/\x ∉ cl)
  (lX:X.length=k) (lY:(Y.length:Int)=a-k) (lZ:(Z.length:Int)=b-k):∃S,Fit cl st cs A B a b S/\∀c∈cs,c ∉ st->(c∈S↔c∈X\/c∈Y\/c∈Z\/c∈W):=by
 have mA:∀{x:AA},x∈both A B->x∈A/\x∈B:=λh=>⟨(X9.mp h).1,bh (X9.mp h).2⟩;have m1:∀{x:AA} {A B:AB},x∈alone A B->x∈A/\x ∉ B:=λ{x A B} h=>⟨(X9.mp h).1,by
  have:=(X9.mp h).2;simpa using this⟩
 have mem:∀c∈cs,c ∉ st->(c∈cs.filter (λc=>decide (c∈st\/c∈X\/c∈Y\/c∈Z\/c∈W))↔c∈X\/c∈Y\/c∈Z\/c∈W):=λc hc hs=>by
  rw[X9,bf];exact⟨λh=>h.2.resolve_left hs,λh=>⟨hc,.inr h⟩⟩
 have cB:cnt (both A B) (cs.filter (λc=>decide (c∈st\/c∈X\/c∈Y\/c∈Z\/c∈W)))=X.length:=by
  rw[<- zew (zT _ I.na) hX sX];refine zaw λx hx=>?_;obtain⟨h1,h2⟩:=mA hx;rw[mem x (I.a x h1).1 (I.a x h1).2.1];refine⟨λh=>?_,.inl⟩;rcases h with h | h | h | h
  .exact h
  .exact absurd h2 (m1 (sY x h)).2
  .exact absurd h1 (m1 (sZ x h)).2
  .exact absurd h1 (sW x h).1
 have cA:cnt (alone A B) (cs.filter (λc=>decide (c∈st\/c∈X\/c∈Y\/c∈Z\/c∈W)))=Y.length:=by
  rw[<- zew (zT _ I.na) hY sY];refine zaw λx hx=>?_;obtain⟨h1,h2⟩:=m1 hx;rw[mem x (I.a x h1).1 (I.a x h1).2.1];refine⟨λh=>?_,λh=>.inr (.inl h)⟩;rcases h with h | h | h | h
  .exact absurd (mA (sX x h)).2 h2
  .exact h
  .exact absurd (m1 (sZ x h)).1 h2
  .exact absurd h1 (sW x h).1
 have cC:cnt (alone B A) (cs.filter (λc=>decide (c∈st\/c∈X\/c∈Y\/c∈Z\/c∈W)))=Z.length:=by
  rw[<- zew (zT _ I.nb) hZ sZ];refine zaw λx hx=>?_;obtain⟨h1,h2⟩:=m1 hx;rw[mem x (I.b x h1).1 (I.b x h1).2.1];refine⟨λh=>?_,λh=>.inr (.inr (.inl h))⟩;rcases h with h | h | h | h
  .exact absurd (mA (sX x h)).1 h2
  .exact absurd (m1 (sY x h)).1 h2
  .exact h
  .exact absurd h1 (sW x h).2.1
 have t:=zhY I.na I.nb (cs.filter (λc=>decide (c∈st\/c∈X\/c∈Y\/c∈Z\/c∈W)));refine⟨_,⟨zkS _ cs (λc _ h=>bu (.inl h)) (λc hc h=>bg ?_),by lia,by lia⟩,mem⟩;rintro(z | z | z | z | z)
 .exact I.ap c h z
 .exact(I.a c (mA (sX c z)).1).2.2 h
 .exact(I.a c (m1 (sY c z)).1).2.2 h
 .exact(I.b c (m1 (sZ c z)).1).2.2 h
 .exact(sW c z).2.2 h
structure Ends (A B:AB)(a b lo hi:Int):Prop where
 l0:0<=lo
 l1:a-(alone A B).length<=lo
 l2:b-(alone B A).length<=lo
 l:lo=0\/lo=a-(alone A B).length\/lo=b-(alone B A).length
 h0:hi<=(both A B).length
 h1:hi<=a
 h2:hi<=b
 h:hi=(both A B).length\/hi=a\/hi=b
section
variable {cl st cs A B:AB}{a b lo hi:Int}
def Fit.ends {S:AB}(I:In cl st cs A B)(E:Ends A B a b lo hi)(h:Fit cl st cs A B a b S):lo<=cnt (both A B) S/\(cnt (both A B) S:Int)<=hi:=by
 obtain⟨k1,k2,k3,k4,k5⟩:=h.k I;have e1:=E.l;have e2:=E.h;lia
def ZA (I:In cl st cs A B):(both A B).Nodup:=zT _ I.na
def zb9 (I:In cl st cs A B):(alone A B).Nodup:=zT _ I.na
def Qp (I:In cl st cs A B):(alone B A).Nodup:=zT _ I.nb
def fits (I:In cl st cs A B)(E:Ends A B a b lo hi)(h:lo<=hi){W:AB}(sW:∀x∈W,x ∉ A/\x ∉ B/\x ∉ cl):∃S,Fit cl st cs A B a b S/\∀c∈cs,c ∉ st->c ∉ A->c ∉ B->(c∈S↔c∈W):=by
 have e0:=E.l0;have e1:=E.l1;have e2:=E.l2;have e3:=E.h0;have e4:=E.h1;have e5:=E.h2;obtain⟨X,x1,x2,x3⟩:=pick (ZA I) (k:=lo.toNat) (by lia);obtain⟨Y,y1,y2,y3⟩:=pick (zb9 I) (k:=(a-lo).toNat) (by lia);obtain⟨Z,z1,z2,z3⟩:=pick (Qp I) (k:=(b-lo).toNat) (by lia);obtain⟨S,f,m⟩:=Fit.mk' (a:=a) (b:=b) (k:=lo.toNat) I x1 y1 z1 x2 y2 z2 sW x3 (by lia) (by lia);refine⟨S,f,λc hc hs hA hB=>?_⟩;rw[m c hc hs];refine⟨λq=>?_,λq=>.inr (.inr (.inr q))⟩;rcases q with q | q | q | q
 .exact absurd (X9.mp (x2 c q)).1 hA
 .exact absurd (X9.mp (y2 c q)).1 hA
 .exact absurd (X9.mp (z2 c q)).1 hB
 .exact q
def zm3 (I:In cl st cs A B)(E:Ends A B a b lo hi):(∃S,Fit cl st cs A B a b S)↔lo<=hi:=by
 constructor
 .rintro⟨S,f⟩;have:=f.ends I E;lia
 .intro h;obtain⟨S,f,_⟩:=fits I E h (W:=[]) (λ_ h=>nomatch h);exact⟨S,f⟩
def Qq:∀x∈([]:AB),x ∉ A/\x ∉ B/\x ∉ cl:=λ_ h=>nomatch h
def zjh (I:In cl st cs A B)(E:Ends A B a b lo hi)(h:lo<=hi){c:AA}(hc:c∈cs)(hs:c ∉ st)(hl:c ∉ cl):(∀S,Fit cl st cs A B a b S->c ∉ S)↔(c∈both A B/\hi=0)\/(c∈alone A B/\a-lo=0)\/(c∈alone B A/\b-lo=0):=by
 have e0:=E.l0;have e1:=E.l1;have e2:=E.l2;have e3:=E.h0;have e4:=E.h1;have e5:=E.h2;constructor
 .intro all;by_cases hA:c∈A
  .by_cases hB:c∈B
   .have mc:c∈both A B:=X9.mpr ⟨hA,bu hB⟩;refine .inl ⟨mc,WU λhn=>?_⟩;obtain⟨X,x1,x2,x3,x4⟩:=zax (ZA I) mc (k:=hi.toNat) (by lia) (by lia);obtain⟨Y,y1,y2,y3⟩:=pick (zb9 I) (k:=(a-hi).toNat) (by lia);obtain⟨Z,z1,z2,z3⟩:=pick (Qp I) (k:=(b-hi).toNat) (by lia);obtain⟨S,f,m⟩:=Fit.mk' (a:=a) (b:=b) (k:=hi.toNat) (W:=[]) I x1 y1 z1 x2 y2 z2 Qq x3 (by lia) (by lia);exact all S f ((m c hc hs).mpr (.inl x4))
   .have mc:c∈alone A B:=X9.mpr ⟨hA,by simpa using hB⟩;refine .inr (.inl ⟨mc,WU λhn=>?_⟩);obtain⟨X,x1,x2,x3⟩:=pick (ZA I) (k:=lo.toNat) (by lia);obtain⟨Y,y1,y2,y3,y4⟩:=zax (zb9 I) mc (k:=(a-lo).toNat) (by lia) (by lia);obtain⟨Z,z1,z2,z3⟩:=pick (Qp I) (k:=(b-lo).toNat) (by lia);obtain⟨S,f,m⟩:=Fit.mk' (a:=a) (b:=b) (k:=lo.toNat) (W:=[]) I x1 y1 z1 x2 y2 z2 Qq x3 (by lia) (by lia);exact all S f ((m c hc hs).mpr (.inr (.inl y4)))
  .by_cases hB:c∈B
   .have mc:c∈alone B A:=X9.mpr ⟨hB,by simpa using hA⟩;refine .inr (.inr ⟨mc,WU λhn=>?_⟩);obtain⟨X,x1,x2,x3⟩:=pick (ZA I) (k:=lo.toNat) (by lia);obtain⟨Y,y1,y2,y3⟩:=pick (zb9 I) (k:=(a-lo).toNat) (by lia);obtain⟨Z,z1,z2,z3,z4⟩:=zax (Qp I) mc (k:=(b-lo).toNat) (by lia) (by lia);obtain⟨S,f,m⟩:=Fit.mk' (a:=a) (b:=b) (k:=lo.toNat) (W:=[]) I x1 y1 z1 x2 y2 z2 Qq x3 (by lia) (by lia);exact all S f ((m c hc hs).mpr (.inr (.inr (.inl z4))))
   .obtain⟨S,f,m⟩:=fits I E h (W:=[c]) (λx hx=>by
     have:x=c:=by simpa using hx
     subst this;exact⟨hA,hB,hl⟩)
    exact absurd ((m c hc hs hA hB).mpr XU) (all S f)
 .rintro(⟨m,z⟩ | ⟨m,z⟩ | ⟨m,z⟩) S f
  .have:=f.ends I E;exact zb7 (by lia) c m
  .have:=f.ends I E;obtain⟨k1,k2,k3,k4,k5⟩:=f.k I;exact zb7 (by lia) c m
  .have:=f.ends I E;obtain⟨k1,k2,k3,k4,k5⟩:=f.k I;exact zb7 (by lia) c m
def zji (I:In cl st cs A B)(E:Ends A B a b lo hi)(h:lo<=hi){c:AA}(hc:c∈cs)(hs:c ∉ st)(hl:c ∉ cl):(∀S,Fit cl st cs A B a b S->c∈S)↔(c∈both A B/\lo=(both A B).length)\/(c∈alone A B/\a-hi=(alone A B).length)\/(c∈alone B A/\b-hi=(alone B A).length):=by
 have e0:=E.l0;have e1:=E.l1;have e2:=E.l2;have e3:=E.h0;have e4:=E.h1;have e5:=E.h2;have ne:∀{X Y:AB} {A' B':AB},(∀x∈X,x∈Y)->c ∉ Y->c ∉ X:=λh1 h2 h3=>h2 (h1 c h3);constructor
 .intro all;by_cases hA:c∈A
  .by_cases hB:c∈B
   .have mc:c∈both A B:=X9.mpr ⟨hA,bu hB⟩;have n1:c ∉ alone A B:=λz=>by simpa[hB] using (X9.mp z).2
    have n2:c ∉ alone B A:=λz=>by simpa[hA] using (X9.mp z).2
    refine .inl ⟨mc,WU λhn=>?_⟩;obtain⟨X,x1,x2,x3,x4⟩:=Zz (ZA I) mc (k:=lo.toNat) (by lia);obtain⟨Y,y1,y2,y3⟩:=pick (zb9 I) (k:=(a-lo).toNat) (by lia);obtain⟨Z,z1,z2,z3⟩:=pick (Qp I) (k:=(b-lo).toNat) (by lia);obtain⟨S,f,m⟩:=Fit.mk' (a:=a) (b:=b) (k:=lo.toNat) (W:=[]) I x1 y1 z1 x2 y2 z2 Qq x3 (by lia) (by lia);rcases(m c hc hs).mp (all S f) with q | q | q | q
    .exact x4 q
    .exact n1 (y2 c q)
    .exact n2 (z2 c q)
    .cases q
   .have mc:c∈alone A B:=X9.mpr ⟨hA,by simpa using hB⟩;have n1:c ∉ both A B:=λz=>hB (bh (X9.mp z).2);have n2:c ∉ alone B A:=λz=>hB (X9.mp z).1;refine .inr (.inl ⟨mc,WU λhn=>?_⟩);obtain⟨X,x1,x2,x3⟩:=pick (ZA I) (k:=hi.toNat) (by lia);obtain⟨Y,y1,y2,y3,y4⟩:=Zz (zb9 I) mc (k:=(a-hi).toNat) (by lia);obtain⟨Z,z1,z2,z3⟩:=pick (Qp I) (k:=(b-hi).toNat) (by lia);obtain⟨S,f,m⟩:=Fit.mk' (a:=a) (b:=b) (k:=hi.toNat) (W:=[]) I x1 y1 z1 x2 y2 z2 Qq x3 (by lia) (by lia);rcases(m c hc hs).mp (all S f) with q | q | q | q
    .exact n1 (x2 c q)
    .exact y4 q
    .exact n2 (z2 c q)
    .cases q
  .by_cases hB:c∈B
   .have mc:c∈alone B A:=X9.mpr ⟨hB,by simpa using hA⟩;have n1:c ∉ both A B:=λz=>hA (X9.mp z).1;have n2:c ∉ alone A B:=λz=>hA (X9.mp z).1;refine .inr (.inr ⟨mc,WU λhn=>?_⟩);obtain⟨X,x1,x2,x3⟩:=pick (ZA I) (k:=hi.toNat) (by lia);obtain⟨Y,y1,y2,y3⟩:=pick (zb9 I) (k:=(a-hi).toNat) (by lia);obtain⟨Z,z1,z2,z3,z4⟩:=Zz (Qp I) mc (k:=(b-hi).toNat) (by lia);obtain⟨S,f,m⟩:=Fit.mk' (a:=a) (b:=b) (k:=hi.toNat) (W:=[]) I x1 y1 z1 x2 y2 z2 Qq x3 (by lia) (by lia);rcases(m c hc hs).mp (all S f) with q | q | q | q
    .exact n1 (x2 c q)
    .exact n2 (y2 c q)
    .exact z4 q
    .cases q
   .obtain⟨S,f,m⟩:=fits I E h (W:=[]) Qq;exact nomatch (m c hc hs hA hB).mp (all S f)
 .rintro(⟨m,z⟩ | ⟨m,z⟩ | ⟨m,z⟩) S f
  .have:=f.ends I E;obtain⟨k1,k2,k3,k4,k5⟩:=f.k I;exact zb8 (by lia) c m
  .have:=f.ends I E;obtain⟨k1,k2,k3,k4,k5⟩:=f.k I;exact zb8 (by lia) c m
  .have:=f.ends I E;obtain⟨k1,k2,k3,k4,k5⟩:=f.k I;exact zb8 (by lia) c m
end
end Two
namespace K54
open PySem L2
variable {P:Xm}{w:WZ}{K:XW}{mg:Str->Option X8}{base:Heap}{f:Addr}{fd:XD}
abbrev top (i:Nat):Stmt:=zbw.top i
abbrev J9:Stmt:=top 14
abbrev qZ:Stmt:=top 15
abbrev jR:Stmt:=top 16
abbrev j9:Stmt:=top 17
abbrev qR:Stmt:=top 18
abbrev qN:Stmt:=top 19
abbrev zbq:Stmt:=top 21
abbrev Yh:Stmt:=top 22
abbrev zhZ:Stmt:=top 23
abbrev xX:Stmt:=top 24
abbrev xY:Stmt:=top 25
abbrev qJ:Stmt:=top 26
abbrev yq:Stmt:=top 29
abbrev ZC:Stmt:=top 30
abbrev YF:Stmt:=top 31
abbrev yX:Stmt:=top 32
abbrev YG:Stmt:=top 33
abbrev YH:Stmt:=top 35
abbrev Q3:Stmt:=top 36
abbrev yY:Stmt:=top 38
abbrev zbr:Stmt:=top 39
abbrev xZ:Stmt:=top 40
abbrev zbs:Stmt:=top 41
abbrev ZD:Stmt:=top 44
abbrev ZE:Stmt:=top 45
abbrev yZ:Stmt:=top 46
abbrev Q4:Stmt:=top 47
abbrev Za:Stmt:=top 48
abbrev Jp:Stmt:=top 51
abbrev JI:Stmt:=top 52
abbrev xg:Stmt:=top 53
abbrev x6:Stmt:=top 54
abbrev xh:Stmt:=top 56
abbrev yc:Stmt:=top 58
abbrev yE:Stmt:=top 59
abbrev JJ:Stmt:=top 60
abbrev xj:Stmt:=top 61
abbrev JK:Stmt:=top 62
abbrev xo:Stmt:=top 63
abbrev zdF:Stmt:=top 64
structure Txt (mg:Str->Option X8):Prop where
 zex:mg "ValueError"=none
 znW:mg "abs"=none
 zh0:mg "any"=none
 zkU:mg "dict"=none
 jE:mg "enumerate"=none
 zkV:mg "int"=none
 qw:mg "isinstance"=none
 jk:mg "len"=none
 zpb:mg "list"=none
 zkW:mg "max"=none
 zkX:mg "min"=none
 qT:mg "range"=none
 zqn:mg "set"=none
 Jq:mg "sorted"=none
 zqo:mg "str"=none
 znX:mg "sum"=none
 znY:∃t,mg "ALL"=some (.str "all" t)
 JR:∃t,mg "CLOSED_SIGN"=some (.str "?" t)
 zca:∃t,mg "MOST_OF_PART"=some (.int 14 t)
 zcW:∃t,mg "MOST_THINGS"=some (.int 30 t)
 Yi:∃t,mg "NO_CELL_SIGN"=some (.str "#" t)
structure Prog (K:XW)(mg:Str->Option X8):Prop where
 closed:∃(f:Addr) (fd:XD),zm K mg "closed" J9 ["board"] f fd
 open_cells:∃(f:Addr) (fd:XD),zm K mg "open_cells" qZ ["board"] f fd
 around:∃(f:Addr) (fd:XD),zm K mg "around" jR ["board","cell"] f fd
 number_at:∃(f:Addr) (fd:XD),zm K mg "number_at" j9 ["board","cell"] f fd
 cells_of:∃(f:Addr) (fd:XD),zm K mg "cells_of" qR ["board"] f fd
 sign_at:∃(f:Addr) (fd:XD),zm K mg "sign_at" qN ["board","cell"] f fd
 parts:∃(f:Addr) (fd:XD),zm K mg "parts" zbq ["board"] f fd
 joined:∃(f:Addr) (fd:XD),zm K mg "joined" Yh ["groups","cells"] f fd
 far:∃(f:Addr) (fd:XD),zm K mg "far" zhZ ["board"] f fd
 numbers_of:∃(f:Addr) (fd:XD),zm K mg "numbers_of" xX ["board","part"] f fd
 bare_wrong:∃(f:Addr) (fd:XD),zm K mg "bare_wrong" xY ["board"] f fd
 closed_around:∃(f:Addr) (fd:XD),zm K mg "closed_around" qJ ["board","cell"] f fd
 part_layings:∃(f:Addr) (fd:XD),zm K mg "part_layings" yq ["board","part"] f fd
 needs_at:∃(f:Addr) (fd:XD),zm K mg "needs_at" ZC ["told","cell","rest"] f fd
 may_fit:∃(f:Addr) (fd:XD),zm K mg "may_fit" YF ["needs","pick"] f fd
 part_counts:∃(f:Addr) (fd:XD),zm K mg "part_counts" yX ["board","part"] f fd
 counted:∃(f:Addr) (fd:XD),zm K mg "counted" YG ["found","greatest"] f fd
 choices:∃(f:Addr) (fd:XD),zm K mg "choices" YH ["n","k"] f fd
 poured:∃(f:Addr) (fd:XD),zm K mg "poured" Q3 ["one","other"] f fd
 near_counts:∃(f:Addr) (fd:XD),zm K mg "near_counts" yY ["board"] f fd
 count:∃(f:Addr) (fd:XD),zm K mg "count" zbr ["board"] f fd
 all_poured:∃(f:Addr) (fd:XD),zm K mg "all_poured" xZ ["lists"] f fd
 dealt:∃(f:Addr) (fd:XD),zm K mg "dealt" zbs ["counts","cells","stones"] f fd
 asked_by:∃(f:Addr) (fd:XD),zm K mg "asked_by" ZD ["board","thing"] f fd
 known_of:∃(f:Addr) (fd:XD),zm K mg "known_of" ZE ["finding"] f fd
 still_asked:∃(f:Addr) (fd:XD),zm K mg "still_asked" yZ ["asked","known"] f fd
 gained:∃(f:Addr) (fd:XD),zm K mg "gained" Q4 ["asked"] f fd
 settled:∃(f:Addr) (fd:XD),zm K mg "settled" Za ["regions"] f fd
 thoughts:∃(f:Addr) (fd:XD),zm K mg "thoughts" Jp ["board"] f fd
 all_steps:∃(f:Addr) (fd:XD),zm K mg "all_steps" JI ["board","things"] f fd
 place_lists:∃(f:Addr) (fd:XD),zm K mg "place_lists" xg ["asked"] f fd
 first_step:∃(f:Addr) (fd:XD),zm K mg "first_step" x6 ["things","asked","lists","finding"] f fd
 law_cell_at:∃(f:Addr) (fd:XD),zm K mg "_law_cell_at" xh ["_law_script","_law_k"] f fd
 law_cells:∃(f:Addr) (fd:XD),zm K mg "_law_cells" yc ["_law_rows","_law_signs"] f fd
 law_near:∃(f:Addr) (fd:XD),zm K mg "_law_near" yE ["_law_one","_law_other"] f fd
 law_board:∃(f:Addr) (fd:XD),zm K mg "_law_board" JJ ["_law_marks"] f fd
 law_outcome:∃(f:Addr) (fd:XD),zm K mg "_law_outcome" xj ["_law_board_here"] f fd
 law_apart:∃(f:Addr) (fd:XD),zm K mg "_law_apart" JK ["_law_cell","_law_gone"] f fd
 law_rows_of:∃(f:Addr) (fd:XD),zm K mg "_law_rows_of" xo ["_law_cell","_law_many"] f fd
def zkY (K:XW):Sp:=λvs H Q _=>∃(a:Addr) (ns:List Int) (k:Int),vs=[.ref a,.int k]/\SqL K H a (ns.map V.int)/\0<=k/\∀z:Int,Q (.int z) H
structure Row (signs:List Nat)(n:Nat)(t:Str):Prop where
 len:t.cps.size=n
 mem:∀c∈t.cps.toList,c∈signs
structure Rows (signs:List Nat)(rs:AD):Prop where
 lo:1<=rs.length
 hi:rs.length<=8
 ex:∃n,1<=n/\n<=8/\∀t∈rs,Row signs n t
def bd:Str:="?012345678#"
def zcb:zB ["_law_script","_law_k"] ["_law_script","_law_k"] (zp xh):=bz rfl rfl rfl rfl (by decide+kernel)
def zcc (T:Txt mg)(D:zm K mg "_law_cell_at" xh ["_law_script","_law_k"] f fd):qa P w K mg base CX0 1 f fd ["_law_script","_law_k"] (zkY K):=by
 refine D.F.ok zcb (λvs H Q E h=>?_) (λcdv A outer s H vs Q E hr h=>?_)
 .obtain⟨a,ns,i,rfl,_⟩:=h;rfl
 .obtain⟨a,ns,i,rfl,hS,hi,k⟩:=h;refine⟨_,(ze (je (zV zgL (pvS 1) (pb1 zO T.jk W2 (pvS 0)) (zY _)) (zh (zG (zE qC (pvS 0) (pvS 1) (λ_ _=>rfl)))) qf) (@zh _ _ _ (@zG _ _ _ _ zj))),?_⟩;(try dsimp only[cxK,cxP,cxW]);refine⟨_,rfl,_,rfl,a,_,rfl,.inl hS,_,_,rfl,rfl,_,rfl,?_⟩;refine zmk (λc=>?_) (λc=>?_)
  .have c':i<((ns.map V.int).length:Nat):=bh c;rw[Y1] at c';have hl:i.toNat<ns.length:=by lia
   refine⟨_,rfl,_,rfl,a,_,i,.int ns[i.toNat],rfl,rfl,hS,zgo hi (by rw[Xo,XX hl];rfl),?_⟩;exact k _
  .exact k 0
structure qF (H:Hp)(p l:Addr)(rs:AD)(n:Int):Prop where
 tp:H p=some (.tup [.ref l,.int n])
 rw:H l=some (.lst (rs.map V.str))
def qF.mono {H H':Hp}{p l:Addr}{rs:AD}{n:Int}(b:qF H p l rs n)(s:zo H H'):qF H' p l rs n:=⟨s _ _ b.tp,s _ _ b.rw⟩
def codes (rs:AD):List (List Nat):=rs.map λt=>t.cps.toList
def jy {rs:AD}{i:Nat}{t:Str}(h:rs[i]?=some t):(codes rs)[i]?=some t.cps.toList:=by
 unfold codes;rw[Xo,h];rfl
def YI {rs:AD}{i:Nat}{u:List Nat}(h:(codes rs)[i]?=some u):∃t,rs[i]?=some t/\u=t.cps.toList:=by
 unfold codes at h;rw[Xo] at h;cases e:rs[i]? with
 | none =>
  rw[e] at h;cases h
 | some t =>
  rw[e] at h;cases h;exact⟨t,rfl,rfl⟩
def jz (rs:AD):(codes rs).length=rs.length:=by
 unfold codes;rw[Y1]
def Rows.short {s:List Nat}{rs:AD}(R:Rows s rs):∀u∈codes rs,u.length<=8:=λu hu=>by
 obtain⟨t,ht,rfl⟩:=XM.mp hu;obtain⟨n,_,h8,q⟩:=R.ex;have:=(q t ht).len;rw[X4];lia
def Rows.tlen {s:List Nat}{rs:AD}{i:Nat}{t:Str}(R:Rows s rs)(h:rs[i]?=some t):t.length<=Xq:=by
 obtain⟨n,_,h8,q⟩:=R.ex;have e:t.length=n:=(q t (X6 h)).len;rw[e];exact XZ h8 (by decide)
def yg (H:Hp)(v:V)(c:AA):Prop:=∃a,v=V.ref a/\H a=some (.tup [.int (c.1:Nat),.int (c.2:Nat)])
def Cel (H:Hp):AE->AB->Prop:=Xl (yg H)
def Cel.mono {H H':Hp}(s:zo H H'){vs:AE}{cs:AB}(hp:Cel H vs cs):Cel H' vs cs:=by
 induction hp with
 | nil=>exact .nil
 | cons q _ ih =>
  obtain⟨a,e,h⟩:=q;exact .cons ⟨a,e,s _ _ h⟩ ih
theorem Cel.snoc {H:Hp}{vs:AE}{cs:AB}{v:V}{c:AA}(h:Cel H vs cs)(x:yg H v c):Cel H (vs++[v]) (cs++[c]):=Paired.snoc h x
def Cel.append {H:Hp}{vs ws:AE}{cs ds:AB}(h:Cel H vs cs)(k:Cel H ws ds):Cel H (vs++ws) (cs++ds):=zbI h k
def Cel.into {H:Hp}(z:Addr)(o:HO){old:AE}(hz:H z=some (.lst old)){vs:AE}{cs:AB}(hp:Cel H vs cs):Cel (upd H z o) vs cs:=by
 induction hp with
 | nil=>exact .nil
 | cons q _ ih =>
  obtain⟨a,e,h⟩:=q;exact .cons ⟨a,e,by rw[zf (zeP h hz (by intro y;cases y))];exact h⟩ ih
theorem Cel.length {H:Hp}{vs:AE}{cs:AB}(h:Cel H vs cs):vs.length=cs.length:=Paired.length h
theorem Cel.get {H:Hp}:∀{vs:AE} {cs:AB} {i:Nat} {v:V},Cel H vs cs->vs[i]?=some v->∃c,cs[i]?=some c/\yg H v c
 | _,_,_,_,.nil,e=>by simp at e
 | _,_,0,_,.cons r _,e=>by
  simp at e;subst e;exact⟨_,rfl,r⟩
 | _,_,i+1,v,.cons _ t,e=>by
  obtain⟨c,h1,h2⟩:=Cel.get (i:=i) (v:=v) t (by simpa using e);exact⟨c,by simpa using h1,h2⟩
def zk (c:AA):V7:=.tuple [.int (c.1:Nat),.int (c.2:Nat)]
def yg.rdv {K:XW}{H:Hp}{v:V}{c:AA}(h:yg H v c):Rdv K H v (zk c):=by
 obtain⟨a,rfl,h⟩:=h;exact .tup (SqT.of h) (.cons (.int _) (.cons (.int _) .nil))
def zdG (c d:AA):zml (zk c) (zk d):=⟨rfl,rfl,by show max 0 (max 0 0)+1<=64;decide⟩
def zay (c d:AA):WL (zk c) (zk d)=decide (c=d):=by
 obtain⟨a,b⟩:=c;obtain⟨x,y⟩:=d;show ((((a:Nat):Int)==((x:Nat):Int))&&((((b:Nat):Int)==((y:Nat):Int))&&true))=decide ((a,b)=(x,y));by_cases h1:a=x
 .by_cases h2:b=y
  .subst h1 h2;simp
  .have:¬ ((b:Int)=(y:Int)):=by lia
   simp[h2,this]
 .have:¬ ((a:Int)=(x:Int)):=by lia
  simp[h1,this]
def zcd (c k:Nat):(V.str ⟨#[c]⟩=V.str ⟨#[k]⟩)=(c=k):=by
 apply propext;constructor
 .intro h;have h2:(⟨#[c]⟩:Str)=⟨#[k]⟩:=V.str.inj h;have h3:(#[c]:Array Nat)=#[k]:=congrArg Str.cps h2;simpa using h3
 .rintro rfl;rfl
def xW:("#":Str)=⟨#[35]⟩:=by decide+kernel
def zgT:("?":Str)=⟨#[63]⟩:=by decide+kernel
def qh (c:Nat):Bool:=!decide (c=35)
def yx (c:Nat):Bool:=decide (c=63)
def Zb (c:Nat):Bool:=qh c && !decide (c=63)
def zpc:Sp:=λvs H Q _=>∃(p l c:Addr) (rs:AD) (n:Int) (i j:Nat) (t:Str) (k:Nat),vs=[.ref p,.ref c]/\qF H p l rs n/\H c=some (.tup [.int (i:Nat),.int (j:Nat)])/\rs[i]?=some t/\t.cps.toList[j]?=some k/\t.length<=Xq/\Q (.str ⟨#[k]⟩) H
def zey (p:Nat->Bool):Sp:=λvs H Q _=>∃(a l:Addr) (rs:AD) (n:Int),vs=[.ref a]/\qF H a l rs n/\Rows bd.cps.toList rs /\
 ∀(d:Addr) (ws:AE) (H':Hp),H d=none->H' d=some (.lst ws)->Cel H' ws (Cells.zw p 0 (codes rs))->zo H H'->Q (.ref d) H'
def zkZ:Sp:=λvs H Q _=>∃(p l c:Addr) (rs:AD) (n:Int) (i j:Nat) (t:Str) (k:Nat),vs=[.ref p,.ref c]/\qF H p l rs n/\H c=some (.tup [.int (i:Nat),.int (j:Nat)])/\rs[i]?=some t/\t.cps.toList[j]?=some k/\t.length<=Xq/\48<=k/\k<=56/\Q (.int ((k:Int)-48)) H
def int_sign {k:Nat}(h1:48<=k)(h2:k<=56):Po ⟨#[k]⟩=some ((k:Int)-48):=by
 have:∀k∈Wy 57,48<=k->Po ⟨#[k]⟩=some ((k:Int)-48):=by decide+kernel
 exact this k (Wo.mpr (by lia)) h1
def zgU:zB ["board","cell"] ["board","cell"] (zp qN):=bz rfl rfl rfl rfl (by decide+kernel)
def ZF (D:zm K mg "sign_at" qN ["board","cell"] f fd):qa P w K mg base CX0 1 f fd ["board","cell"] zpc:=by
 refine D.F.ok zgU (λvs H Q E h=>?_) (λcdv A outer s H vs Q E hr h=>?_)
 .obtain⟨p,l,c,rs,n,i,j,t,k,rfl,_⟩:=h;rfl
 .obtain⟨p,l,c,rs,n,i,j,t,k,rfl,b,hc,hi,hj,hl,q⟩:=h;refine⟨_,(zh (zG (zE zhS (zE qC (zE qA (pvS 0) zj (λ_ _=>rfl)) (zE qA (pvS 1) zj (λ_ _=>rfl)) (λ_ _=>rfl)) (zE qA (pvS 1) zj (λ_ _=>rfl)) (λ_ _=>rfl)))),?_⟩;(try dsimp only[cxK,cxP,cxW]);exact⟨_,rfl,p,_,0,_,rfl,rfl,SqT.of b.tp,rfl,_,rfl,c,_,0,_,rfl,rfl,SqT.of hc,rfl,l,_,_,_,rfl,rfl,SqL.of b.rw,qK (v:=V.str t) (by rw[Xo,hi];rfl),_,rfl,c,_,1,_,rfl,rfl,SqT.of hc,rfl,t,_,k,rfl,rfl,hl,qK hj,q⟩
def JL:zB ["board","found","row","text"] ["board"] (zp qR):=bz rfl rfl rfl rfl (by decide+kernel)
def zaQ (T:Txt mg)(D:zm K mg "cells_of" qR ["board"] f fd):qa P w K mg base CX0 1 f fd ["board"] (zey qh):=by
 refine D.F.ok JL (λvs H Q E h=>?_) (λcdv A outer s H vs Q E hr h=>?_)
 .obtain⟨a,l,rs,n,rfl,_⟩:=h;rfl
 .obtain⟨a,l,rs,n,rfl,b,R,q⟩:=h;refine⟨_,(@ze _ _ _ _ _ (@qH _ _ 1 _ _ _ _ JL.nd rfl (Vz rfl) (@zI _ _ _ _ zd) (by rfl) (.inr rfl)) (ze (qI WV rfl (JY (by rfl) T.jE (za (zE qA (pvS 0) zj (λ_ _=>rfl)) zd)) (Je rfl (zP (pgq 2 JL.nd) (zP (pgq 3 JL.nd) jX))) (zh (jW (JW WE Uz Uy Yz (pvS 1) (za (pcm ["column","sign","row"] [none,none,some 2] cR (zj5 (by rfl) T.jE (za (pvS 3) zd)) (zhz (n:=2) (K:=K) (by rfl) rfl (zP (pgN 0) (zP (pgN 1) jX))) (qq (zV zeS (pvS 1) (yU (v:=.str "#") (by rfl) T.Yi.choose_spec (by exact⟨_,rfl⟩)) (zY _))) (qp (za (pvS 2) (za (pvS 0) zd)))) zd))))) (zh (zG (pvS 1))))),?_⟩;(try dsimp only[cxK,cxP,cxW]);refine⟨Jy,λd hd=>?_⟩;have s0:zo H (upd H d (.lst [])):=zc hd;refine⟨_,rfl,a,_,0,_,rfl,rfl,SqT.of (b.mono s0).tp,rfl,l,rfl,⟨_,SqL.of (b.mono s0).rw⟩,?_⟩;refine JZ (K:=K) (l:=l) (xs:=rs.map V.str) (λi σ H'=>∃(v2 v3:Option V) (ws:AE),σ=[some (.ref a),some (.ref d),v2,v3]/\zo H H'/\H' d=some (.lst ws)/\Cel H' ws (Cells.zw qh 0 ((codes rs).take i)))
   ⟨_,_,[],rfl,s0,zb,.nil⟩ (λi σ H' _ ⟨_,_,_,_,s1,_⟩=>SqL.of (b.mono s1).rw) ?_ ?_
  .rintro i x tt σ H1 hx htt ⟨v2,v3,ws,rfl,s1,hd1,hc1⟩;rw[Xo] at hx;cases e:rs[i]? with
   | none =>
    rw[e] at hx;cases hx
   | some t =>
    rw[e] at hx;cases hx;have hil:i<rs.length:=(X5.mp e).1;have st:zo H1 (upd H1 tt (.tup [.int (i:Nat),.str t])):=zc htt;refine⟨tt,_,rfl,SqT.of zb,rfl,_,_,rfl,_,_,rfl,rfl,?_⟩;have hd2:upd H1 tt (.tup [.int (i:Nat),.str t]) d=some (.lst ws):=st _ _ hd1;refine⟨_,rfl,.inl ⟨rfl,_,SqL.of hd2⟩,_,rfl,t,rfl,λz hz=>?_⟩;refine zgq (x:=t) (λj σ H'=>∃(u0 u1:Option V) (ys:AE),σ=[u0,u1,some (.int (i:Nat))]/\zo (upd H1 tt (.tup [.int (i:Nat),.str t])) H'/\H' z=some (.lst ys)/\Cel H' ys (Cells.zQ qh i 0 (t.cps.toList.take j)))
     ⟨_,_,[],rfl,zc hz,zb,.nil⟩ ?_ ?_
    .rintro j c t2 σ H2 hc ht2 ⟨u0,u1,ys,rfl,s2,hz2,hc2⟩;refine⟨t2,_,rfl,SqT.of zb,rfl,_,_,rfl,_,_,rfl,rfl,?_⟩;refine⟨_,rfl,rfl,_,rfl,?_⟩;have hc':t.cps.toList[j]?=some c:=by rw[XB];exact hc
     have s3:zo H2 (upd H2 t2 (.tup [.int (j:Nat),.str ⟨#[c]⟩])):=zc ht2;have step:=Cells.Qn (p:=qh) (i:=i) hc';have ed:(!decide (V.str ⟨#[c]⟩=V.str "#"))=qh c:=by
      rw[xW];simp only[zcd];rfl
     rw[ed];by_cases hp:qh c=true
     .rw[hp] at step;refine ju hp ?_;refine⟨_,rfl,_,rfl,jP,λt3 ht3=>?_⟩;have nz3:z≠t3:=zg (s3 _ _ hz2) ht3;have s4:zo (upd H2 t2 (.tup [.int (j:Nat),.str ⟨#[c]⟩])) (upd (upd H2 t2 (.tup [.int (j:Nat),.str ⟨#[c]⟩])) t3 (.tup [.int (i:Nat),.int (j:Nat)])):=zc ht3;have hlen:ys.length<=8:=by
       rw[hc2.length];refine XZ (Cells.jJ _ _ _ _) ?_;have:=R.short _ (X6 (jy e));rw[XF];lia
      refine⟨ys,s4 _ _ (s3 _ _ hz2),Xw hlen (by decide),some (.int (j:Nat)),some (.str ⟨#[c]⟩),ys++[.ref t3],rfl,λb' o e'=>?_,zb,?_⟩
      .have hb:b'≠z:=λy=>by
        subst y;rw[hz] at e';cases e'
       rw[zf hb];exact s4 _ _ (s3 _ _ (s2 _ _ e'))
      .rw[step];have keep:∀x o,x≠z->upd (upd H2 t2 (.tup [.int (j:Nat),.str ⟨#[c]⟩])) t3 (.tup [.int (i:Nat),.int (j:Nat)]) x=some o->upd (upd (upd H2 t2 (.tup [.int (j:Nat),.str ⟨#[c]⟩])) t3 (.tup [.int (i:Nat),.int (j:Nat)])) z (.lst (ys++[.ref t3])) x=some o:=λx o hx e'=>by
        rw[zf hx];exact e'
       refine Cel.snoc ?_ ⟨t3,rfl,keep _ _ nz3.symm zb⟩;exact Cel.into z (.lst (ys++[.ref t3])) (s4 _ _ (s3 _ _ hz2)) (Cel.mono s4 (Cel.mono s3 hc2))
     .have hp':qh c=false:=by simpa using hp
      rw[hp'] at step;refine jd hp' ?_;refine⟨some (.int (j:Nat)),some (.str ⟨#[c]⟩),ys,rfl,s2.trans s3,s3 _ _ hz2,?_⟩;rw[step];simpa using Cel.mono s3 hc2
    .rintro σ H2 ⟨u0,u1,ys,rfl,s2,hz2,hc2⟩;have hne:d≠z:=zg hd2 hz;have hd3:H2 d=some (.lst ws):=s2 _ _ hd2;have full:t.cps.toList.take t.cps.size=t.cps.toList:=by
      rw[<- X4,Xz]
     rw[full] at hc2;have step:=Cells.Qo (p:=qh) (jy e);have l1:ws.length<=64:=by
      rw[hc1.length];refine XZ (Cells.qB _ _ _ λu hu=>R.short u (V6 hu)) ?_;have:=R.hi;rw[XF,jz];lia
     have l2:ys.length<=8:=by
      rw[hc2.length];exact XZ (Cells.jJ _ _ _ _) (R.short _ (X6 (jy e)))
     refine⟨d,z,ws,ys,rfl,rfl,hd3,hz2,XZ (Nat.add_le_add l1 l2) (by decide),?_⟩;refine⟨_,_,ws++ys,rfl,λb' o e'=>?_,zb,?_⟩
     .have hb:b'≠d:=λy=>by
       subst y;rw[hd] at e';cases e'
      rw[zf hb];exact s2 _ _ (st _ _ (s1 _ _ e'))
     .rw[step];exact Cel.into d _ hd3 (Cel.append (Cel.mono s2 (Cel.mono st hc1)) hc2)
  .rintro σ H1 ⟨v2,v3,ws,rfl,s1,hd1,hc1⟩;rw[Y1,<- jz,Xz] at hc1;exact⟨_,rfl,q d ws H1 hd hd1 hc1 s1⟩
def zm4 (c:Nat):(qh c&&decide (c=63))=yx c:=by
 unfold qh yx;by_cases h:c=63
 .subst h;rfl
 .simp[h]
def zjj:zB ["board"] ["board"] (zp J9):=bz rfl rfl rfl rfl (by decide+kernel)
def zdH {f1 f2:Addr}{fd1 fd2:XD}(T:Txt mg)(D:zm K mg "closed" J9 ["board"] f fd)(zC:zm K mg "cells_of" qR ["board"] f1 fd1)(zu:zm K mg "sign_at" qN ["board","cell"] f2 fd2) :
  qa P w K mg base CX0 2 f fd ["board"] (zey yx):=by
 refine D.F.ok zjj (λvs H Q E h=>?_) (λcdv A outer s H vs Q E hr h=>?_)
 .obtain⟨a,l,rs,n,rfl,_⟩:=h;rfl
 .obtain⟨a,l,rs,n,rfl,b,R,q⟩:=h;refine⟨_,(zh (zG (pcm ["cell","board"] [none,some 0] cR (zH (pc0 (zaQ T zC) hr zC (za (pvS 0) zd))) (pgN 0) (qq (zV YX (pc0 (ZF zu) hr zu (za (pvS 1) (za (pvS 0) zd))) (yU (v:=.str "?") (by rfl) T.JR.choose_spec (by exact⟨_,rfl⟩)) (zY _))) (pvS 0)))),?_⟩;(try dsimp only[cxK,cxP,cxW]);refine⟨_,rfl,a,l,rs,n,rfl,b,R,λd ws H1 hd hd1 hc1 s1=>⟨d,rfl,⟨_,SqL.of hd1⟩,λz hz=>?_⟩⟩;have nz:d≠z:=zg hd1 hz;refine qE (K:=K) (a:=d) (xs:=ws) (λi σ H'=>∃(u0:Option V) (ys:AE),σ=[u0,some (.ref a)]/\zo H1 H'/\H' z=some (.lst ys)/\Cel H' ys (((Cells.zw qh 0 (codes rs)).take i).filter λx=>decide (Cells.sgn (codes rs) x=63)))
   ⟨_,[],rfl,zc hz,zb,.nil⟩ (λi σ H' _ ⟨_,_,_,s2,_⟩=>SqL.of (s2 _ _ hd1)) ?_ ?_
  .rintro i x σ H2 hx ⟨u0,ys,rfl,s2,hz2,hc2⟩;obtain⟨c,hci,ca,rfl,hca⟩:=Cel.get (Cel.mono s2 hc1) hx;obtain⟨k0,j,u,k,ec,hk0,hj,hpc⟩:=Cells.jK (X6 hci);obtain⟨t,ht,rfl⟩:=YI hk0;rw[VI] at ec;subst ec;refine⟨_,rfl,_,rfl,a,l,ca,rs,n,k0,j,t,k,rfl,(b.mono s1).mono s2,hca,ht,hj,R.tlen ht,rfl,_,rfl,?_⟩;have es:Cells.sgn (codes rs) (k0,j)=k:=Cells.zb2 hk0 hj;have step:((Cells.zw qh 0 (codes rs)).take (i+1)).filter (λx=>decide (Cells.sgn (codes rs) x=63))=((Cells.zw qh 0 (codes rs)).take i).filter (λx=>decide (Cells.sgn (codes rs) x=63))++(if decide (k=63)=true then [(k0,j)] else []):=by
    rw[Xc,hci,WX];congr 1;show List.filter _ [(k0,j)]=_;rw[Wr];try dsimp only
    rw[es];split<;>rfl
   have ed:decide (V.str ⟨#[k]⟩=V.str "?")=decide (k=63):=by
    rw[zgT];simp only[zcd]
   rw[ed];by_cases hp:decide (k=63)=true
   .rw[br hp] at step;refine ju hp ?_;have hlen:ys.length<=64:=by
     rw[hc2.length];refine XZ (Xg _ _) ?_;rw[XF];have h1:=Cells.qB qh 0 (codes rs) R.short;have h2:=R.hi;rw[jz] at h1;lia
    refine⟨_,rfl,ys,hz2,Xw hlen (by decide),_,ys++[.ref ca],rfl,λb' o e'=>?_,zb,?_⟩
    .have hb:b'≠z:=λy=>by
      subst y;rw[hz] at e';cases e'
     rw[zf hb];exact s2 _ _ e'
    .rw[step];exact Cel.into z _ hz2 (Cel.snoc hc2 ⟨ca,rfl,hca⟩)
   .rw[bw hp] at step;refine jd (by simpa using hp) ?_;refine⟨_,ys,rfl,s2,hz2,?_⟩;rw[step];simpa using hc2
  .rintro σ H2 ⟨u0,ys,rfl,s2,hz2,hc2⟩;rw[hc1.length,Xz,Cells.all_filter (p:=qh) (q:=λk=>decide (k=63)) (codes rs)] at hc2;have hz0:H z=none:=s1.free hz;exact q z ys H2 hz0 hz2 (by rw[Cells.Yc (q:=yx) zm4] at hc2;exact hc2) (s1.trans s2)
def zcX:zB ["board"] ["board"] (zp qZ):=bz rfl rfl rfl rfl (by decide+kernel)
def jS {f1 f2:Addr}{fd1 fd2:XD}(T:Txt mg)(D:zm K mg "open_cells" qZ ["board"] f fd)(zC:zm K mg "cells_of" qR ["board"] f1 fd1)(zu:zm K mg "sign_at" qN ["board","cell"] f2 fd2) :
  qa P w K mg base CX0 2 f fd ["board"] (zey Zb):=by
 refine D.F.ok zcX (λvs H Q E h=>?_) (λcdv A outer s H vs Q E hr h=>?_)
 .obtain⟨a,l,rs,n,rfl,_⟩:=h;rfl
 .obtain⟨a,l,rs,n,rfl,b,R,q⟩:=h;refine⟨_,(zh (zG (pcm ["cell","board"] [none,some 0] cR (zH (pc0 (zaQ T zC) hr zC (za (pvS 0) zd))) (pgN 0) (qq (zV zeS (pc0 (ZF zu) hr zu (za (pvS 1) (za (pvS 0) zd))) (yU (v:=.str "?") (by rfl) T.JR.choose_spec (by exact⟨_,rfl⟩)) (zY _))) (pvS 0)))),?_⟩;(try dsimp only[cxK,cxP,cxW]);refine⟨_,rfl,a,l,rs,n,rfl,b,R,λd ws H1 hd hd1 hc1 s1=>⟨d,rfl,⟨_,SqL.of hd1⟩,λz hz=>?_⟩⟩;have nz:d≠z:=zg hd1 hz;refine qE (K:=K) (a:=d) (xs:=ws) (λi σ H'=>∃(u0:Option V) (ys:AE),σ=[u0,some (.ref a)]/\zo H1 H'/\H' z=some (.lst ys)/\Cel H' ys (((Cells.zw qh 0 (codes rs)).take i).filter λx=>!decide (Cells.sgn (codes rs) x=63)))
   ⟨_,[],rfl,zc hz,zb,.nil⟩ (λi σ H' _ ⟨_,_,_,s2,_⟩=>SqL.of (s2 _ _ hd1)) ?_ ?_
  .rintro i x σ H2 hx ⟨u0,ys,rfl,s2,hz2,hc2⟩;obtain⟨c,hci,ca,rfl,hca⟩:=Cel.get (Cel.mono s2 hc1) hx;obtain⟨k0,j,u,k,ec,hk0,hj,hpc⟩:=Cells.jK (X6 hci);obtain⟨t,ht,rfl⟩:=YI hk0;rw[VI] at ec;subst ec;refine⟨_,rfl,_,rfl,a,l,ca,rs,n,k0,j,t,k,rfl,(b.mono s1).mono s2,hca,ht,hj,R.tlen ht,rfl,_,rfl,?_⟩;have es:Cells.sgn (codes rs) (k0,j)=k:=Cells.zb2 hk0 hj;have step:((Cells.zw qh 0 (codes rs)).take (i+1)).filter (λx=>!decide (Cells.sgn (codes rs) x=63))=((Cells.zw qh 0 (codes rs)).take i).filter (λx=>!decide (Cells.sgn (codes rs) x=63))++(if (!decide (k=63))=true then [(k0,j)] else []):=by
    rw[Xc,hci,WX];congr 1;show List.filter _ [(k0,j)]=_;rw[Wr];try dsimp only
    rw[es];split<;>rfl
   have ed:(!decide (V.str ⟨#[k]⟩=V.str "?"))=(!decide (k=63)):=by
    rw[zgT];simp only[zcd]
   rw[ed];by_cases hp:(!decide (k=63))=true
   .rw[br hp] at step;refine ju hp ?_;have hlen:ys.length<=64:=by
     rw[hc2.length];refine XZ (Xg _ _) ?_;rw[XF];have h1:=Cells.qB qh 0 (codes rs) R.short;have h2:=R.hi;rw[jz] at h1;lia
    refine⟨_,rfl,ys,hz2,Xw hlen (by decide),_,ys++[.ref ca],rfl,λb' o e'=>?_,zb,?_⟩
    .have hb:b'≠z:=λy=>by
      subst y;rw[hz] at e';cases e'
     rw[zf hb];exact s2 _ _ e'
    .rw[step];exact Cel.into z _ hz2 (Cel.snoc hc2 ⟨ca,rfl,hca⟩)
   .rw[bw hp] at step;refine jd (by simpa using hp) ?_;refine⟨_,ys,rfl,s2,hz2,?_⟩;rw[step];simpa using hc2
  .rintro σ H2 ⟨u0,ys,rfl,s2,hz2,hc2⟩;rw[hc1.length,Xz,Cells.all_filter (p:=qh) (q:=λk=>(!decide (k=63))) (codes rs)] at hc2;have hz0:H z=none:=s1.free hz;exact q z ys H2 hz0 hz2 hc2 (s1.trans s2)
def zez:zB ["board","cell"] ["board","cell"] (zp j9):=bz rfl rfl rfl rfl (by decide+kernel)
def ZG {f1:Addr}{fd1:XD}(T:Txt mg)(D:zm K mg "number_at" j9 ["board","cell"] f fd)(zu:zm K mg "sign_at" qN ["board","cell"] f1 fd1):qa P w K mg base CX0 2 f fd ["board","cell"] zkZ:=by
 refine D.F.ok zez (λvs H Q E h=>?_) (λcdv A outer s H vs Q E hr h=>?_)
 .obtain⟨p,l,c,rs,n,i,j,t,k,rfl,_⟩:=h;rfl
 .obtain⟨p,l,c,rs,n,i,j,t,k,rfl,b,hc,hi,hj,hl,k1,k2,q⟩:=h;refine⟨_,(zh (zG (pt1 zea T.zkV SO (pc0 (ZF zu) hr zu (za (pvS 0) (za (pvS 1) zd)))))),?_⟩;(try dsimp only[cxK,cxP,cxW]);exact⟨_,rfl,_,rfl,p,l,c,rs,n,i,j,t,k,rfl,b,hc,hi,hj,hl,⟨#[k]⟩,_,rfl,int_sign k1 k2,(by show 1<=640;decide),q⟩
def zaz {k:Nat}(h:k∈bd.cps.toList)(hp:Zb k=true):48<=k/\k<=56:=by
 have:∀k∈bd.cps.toList,Zb k=true->48<=k/\k<=56:=by decide+kernel
 exact this k h hp
def Rows.openAt {rs:AD}(R:Rows bd.cps.toList rs){p:Nat->Bool}{c:AA}(h:c∈Cells.zw p 0 (codes rs)):∃t k,rs[c.1]?=some t/\t.cps.toList[c.2]?=some k/\p k=true/\k∈bd.cps.toList/\t.length<=Xq:=by
 obtain⟨k0,j,u,k,ec,hk0,hj,hpc⟩:=Cells.jK h;obtain⟨t,ht,rfl⟩:=YI hk0;rw[VI] at ec;subst ec;obtain⟨n,_,_,q⟩:=R.ex;exact⟨t,k,ht,hj,hpc,(q t (X6 ht)).mem k (X6 hj),R.tlen ht⟩
def zF (rs:AD)(y:AA):AB:=(Cells.zw qh 0 (codes rs)).filter λx=>Cells.near x y
def zk0:Sp:=λvs H Q _=>∃(p l ca:Addr) (rs:AD) (n:Int) (i j:Nat),vs=[.ref p,.ref ca]/\qF H p l rs n/\Rows bd.cps.toList rs/\H ca=some (.tup [.int (i:Nat),.int (j:Nat)])/\i<64/\j<64 /\
 ∀(d:Addr) (ws:AE) (H':Hp),H d=none->H' d=some (.lst ws)->Cel H' ws (zF rs (i,j))->zo H H'->Q (.ref d) H'
def zfB (i:Nat):(if (0:Int)>(i:Int)-1 then (0:Int) else (i:Int)-1)=((i-1:Nat):Int):=by
 split<;>lia
def zfC (i m:Nat):(if ((m:Nat):Int)<(i:Int)+2 then ((m:Nat):Int) else (i:Int)+2)=((min (i+2) m:Nat):Int):=by
 split<;>lia
def zfD {f:AA->Bool}{l:AB}{x:AA}(a:Bool):(l++(if a=true then [x] else [])).filter f=l.filter f++(if (a&&f x)=true then [x] else []):=by
 rw[WX];congr 1;by_cases h:a=true
 .by_cases h2:f x=true
  .simp[h,h2]
  .simp[h,h2]
 .simp[h]
def Zc:zB ["board","cell","rows","found","row","column"] ["board","cell"] (zp jR):=bz rfl rfl rfl rfl (by decide+kernel)
def YJ (T:Txt mg)(D:zm K mg "around" jR ["board","cell"] f fd):qa P w K mg base CX0 1 f fd ["board","cell"] zk0:=by
 refine D.F.ok Zc (λvs H Q E h=>?_) (λcdv A outer s H vs Q E hr h=>?_)
 .obtain⟨p,l,ca,rs,n,i,j,rfl,_⟩:=h;rfl
 .obtain⟨p,l,ca,rs,n,i,j,rfl,b,R,hca,hi64,hj64,q⟩:=h;refine⟨_,(ze (jo 2 Zc.nd (zE qA (pvS 0) zj (λ_ _=>rfl))) (@ze _ _ _ _ _ (@qH _ _ 3 _ _ _ _ Zc.nd rfl (Vz rfl) (@zI _ _ _ _ zd) (by rfl) (.inr rfl)) (ze (qI WV rfl (zak (by rfl) T.qT (za (pb2 (zdb rfl) T.zkW SN (zL YB (zE qA (pvS 1) zj (λ_ _=>rfl)) zj) zj) (za (pb2 (zdc rfl) T.zkX SM (zL jZ (zE qA (pvS 1) zj (λ_ _=>rfl)) zj) (pb1 zO T.jk W2 (pvS 2))) zd))) (pgq 4 Zc.nd) (zh (qI WV rfl (zak (by rfl) T.qT (za (pb2 (zdb rfl) T.zkW SN (zL YB (zE qA (pvS 1) zj (λ_ _=>rfl)) zj) zj) (za (pb2 (zdc rfl) T.zkX SM (zL jZ (zE qA (pvS 1) zj (λ_ _=>rfl)) zj) (pb1 zd8 T.jk W2 (zE qC (pvS 2) (pvS 4) (λ_ _=>rfl)))) zd))) (pgq 5 Zc.nd) (zh (je (PW.pt (zoo (zV zeS (zE zhS (zE qC (pvS 2) (pvS 4) (λ_ _=>rfl)) (pvS 5) (λ_ _=>rfl)) (yU (v:=.str "#") (by rfl) T.Yi.choose_spec (by exact⟨_,rfl⟩)) (zY _)) (zl9 (zV (yC hr.units) (qp (za (pvS 4) (za (pvS 5) zd))) (pvS 1) (zY _))))) (zh (jW (JW WE V0 VZ Jm (pvS 3) (za (qp (za (pvS 4) (za (pvS 5) zd))) zd)))) qf))))) (zh (zG (pvS 3)))))),?_⟩;(try dsimp only[cxK,cxP,cxW]);refine⟨_,rfl,p,_,0,_,rfl,rfl,SqT.of b.tp,rfl,?_⟩;refine⟨Jy,λd hd=>?_⟩;have s0:zo H (upd H d (.lst [])):=zc hd;have r8:=R.hi;refine⟨_,rfl,ca,_,0,_,rfl,rfl,SqT.of (s0 _ _ hca),rfl,_,_,rfl,rfl,_,_,rfl,_,rfl,ca,_,0,_,rfl,rfl,SqT.of (s0 _ _ hca),rfl,_,_,rfl,rfl,_,rfl,l,_,rfl,.inl (SqL.of (b.mono s0).rw),_,_,rfl,((i-1:Nat):Int),((min (i+2) rs.length:Nat):Int),?_,⟨by lia,by lia,by lia,by lia⟩,?_⟩
  .show [V.int (if (0:Int)>(i:Int)-1 then (0:Int) else (i:Int)-1),V.int (if (((rs.map V.str).length:Nat):Int)<(i:Int)+2 then (((rs.map V.str).length:Nat):Int) else (i:Int)+2)]=_;rw[Y1,zfB,zfC]
  refine qV (lo:=((i-1:Nat):Int)) (λk σ H'=>∃(v4 v5:Option V) (ws:AE),σ=[some (.ref p),some (.ref ca),some (.ref l),some (.ref d),v4,v5]/\zo H H'/\H' d=some (.lst ws)/\Cel H' ws ((Cells.zw qh 0 ((codes rs).take (i-1+k))).filter λx=>Cells.near x (i,j)))
   ⟨_,_,[],rfl,s0,zb,?_⟩ ?_ ?_
  .rw[Cells.zkH]
   .exact .nil
   .intro r c hr';rw[XC,ne_eq,Cells.jQ];rintro⟨⟨_,h2⟩,_⟩;dsimp only at h2;lia
  .rintro k σ H1 hk ⟨v4,v5,ws,rfl,s1,hd1,hc1⟩;have hrl:i-1+k<rs.length:=by lia
   have ecast:((i-1:Nat):Int)+(k:Nat)=((i-1+k:Nat):Int):=by lia
   rw[ecast];generalize hr0:i-1+k=r at *
   obtain⟨t,ht⟩:∃t,rs[r]?=some t:=⟨_,XX hrl⟩;have htl:t.length<=Xq:=R.tlen ht;have ht8:t.cps.toList.length<=8:=R.short _ (X6 (jy ht));have hat:atI (rs.map V.str) ((r:Nat):Int)=some (V.str t):=qK (by rw[Xo,ht];rfl);refine⟨_,rfl,ca,_,1,_,rfl,rfl,SqT.of (s1 _ _ hca),rfl,_,_,rfl,rfl,_,_,rfl,_,rfl,ca,_,1,_,rfl,rfl,SqT.of (s1 _ _ hca),rfl,_,_,rfl,rfl,_,rfl,_,rfl,l,_,_,_,rfl,rfl,SqL.of (b.mono s1).rw,hat,t,rfl,htl,_,_,rfl,((j-1:Nat):Int),((min (j+2) t.cps.size:Nat):Int),?_,⟨by lia,by lia,by lia,?_⟩,?_⟩
   .show [V.int (if (0:Int)>(j:Int)-1 then (0:Int) else (j:Int)-1),V.int (if ((t.cps.size:Nat):Int)<(j:Int)+2 then ((t.cps.size:Nat):Int) else (j:Int)+2)]=_;rw[zfB,zfC]
   .lia
   have hsz:t.cps.toList.length=t.cps.size:=X4;refine qV (lo:=((j-1:Nat):Int)) (λm σ H'=>∃(v5:Option V) (ws:AE),σ=[some (.ref p),some (.ref ca),some (.ref l),some (.ref d),some (.int (r:Nat)),v5]/\zo H H'/\H' d=some (.lst ws)/\Cel H' ws ((Cells.zw qh 0 ((codes rs).take r)).filter (λx=>Cells.near x (i,j))++(Cells.zQ qh r 0 (t.cps.toList.take (j-1+m))).filter λx=>Cells.near x (i,j)))
    ⟨_,ws,rfl,s1,hd1,?_⟩ ?_ ?_
   .rw[Cells.zkI (t:=t.cps.toList),Xd]
    .exact hc1
    .intro c hc';rw[XC,ne_eq,Cells.jQ];rintro⟨_,⟨_,h2⟩,_⟩;dsimp only at h2;lia
   .rintro m σ H2 hm ⟨v5,ws2,rfl,s2,hd2,hc2⟩;have hcl:j-1+m<t.cps.size:=by lia
    have ecast2:((j-1:Nat):Int)+(m:Nat)=((j-1+m:Nat):Int):=by lia
    rw[ecast2];generalize hc0:j-1+m=c at *
    have hc0':j-1+(m+1)=c+1:=by lia
    obtain⟨k0,hk0⟩:∃k0,t.cps.toList[c]?=some k0:=⟨_,XX (by lia)⟩;have step:=Cells.Qn (p:=qh) (i:=r) hk0;have step2:(Cells.zQ qh r 0 (t.cps.toList.take (c+1))).filter (λx=>Cells.near x (i,j))=(Cells.zQ qh r 0 (t.cps.toList.take c)).filter (λx=>Cells.near x (i,j))++(if (qh k0&&Cells.near (r,c) (i,j))=true then [(r,c)] else []):=by
     rw[step,zfD]
    have nr:Cells.near (r,c) (i,j)=!decide ((r,c)=(i,j)):=by
     rw[W1,Cells.jQ];simp only[WJ,decide_eq_false_iff_not];constructor
     .exact λh=>h.2.2
     .intro h;refine⟨⟨?_,?_⟩,⟨?_,?_⟩,h⟩<;>(try dsimp only)<;>lia
    refine⟨_,rfl,_,rfl,l,_,_,_,rfl,rfl,SqL.of (b.mono s2).rw,hat,_,rfl,t,_,k0,rfl,rfl,htl,qK hk0,rfl,_,rfl,?_⟩;have ed:(!decide (V.str ⟨#[k0]⟩=V.str "#"))=qh k0:=by
     rw[xW];simp only[zcd];rfl
    rw[ed];by_cases hp:qh k0=true
    .refine ju hp ?_;refine⟨_,rfl,_,rfl,jP,λtp htp=>?_⟩;have s3:zo H2 (upd H2 tp (.tup [.int (r:Nat),.int (c:Nat)])):=zc htp;have hca3:=s3 _ _ (s2 _ _ hca);refine⟨_,rfl,_,_,yg.rdv (c:=(r,c)) ⟨tp,rfl,zb⟩,yg.rdv (c:=(i,j)) ⟨ca,rfl,hca3⟩,zdG _ _,_,rfl,?_⟩;have ee:(if true=true then !PyData.eqv (zk (r,c)) (zk (i,j)) else WL (zk (r,c)) (zk (i,j)))=Cells.near (r,c) (i,j):=by
      rw[zay,nr];rfl
     rw[ee];rw[hp,Bool.true_and] at step2;by_cases hn:Cells.near (r,c) (i,j)=true
     .refine ju hn ?_;rw[br hn] at step2;have hd3:=s3 _ _ hd2;refine⟨_,rfl,.inl ⟨rfl,_,SqL.of hd3⟩,_,rfl,_,rfl,jP,λtq htq=>?_⟩;have s4:zo (upd H2 tp (.tup [.int (r:Nat),.int (c:Nat)])) (upd (upd H2 tp (.tup [.int (r:Nat),.int (c:Nat)])) tq (.tup [.int (r:Nat),.int (c:Nat)])):=zc htq;have hlen:ws2.length<=128:=by
       rw[hc2.length,X0];have h1:=Xg (λx=>Cells.near x (i,j)) (Cells.zw qh 0 ((codes rs).take r));have h2:=Xg (λx=>Cells.near x (i,j)) (Cells.zQ qh r 0 (t.cps.toList.take c));have h3:=Cells.qB qh 0 ((codes rs).take r) λu hu=>R.short u (V6 hu);have h4:=Cells.jJ qh r 0 (t.cps.toList.take c);rw[XF,jz] at h3;rw[XF] at h4;lia
      refine⟨d,_,_,rfl,rfl,s4 _ _ hd3,Xw hlen (by decide),?_⟩;refine⟨_,ws2++[.ref tq],rfl,λb' o e'=>?_,zb,?_⟩
      .rw[zf (zg e' hd)];exact s4 _ _ (s3 _ _ (s2 _ _ e'))
      .rw[hc0',step2,<- W3];exact Cel.into d _ (s4 _ _ hd3) (Cel.snoc (Cel.mono s4 (Cel.mono s3 hc2)) ⟨tq,rfl,zb⟩)
     .have hn':Cells.near (r,c) (i,j)=false:=by simpa using hn
      refine jd hn' ?_;rw[bw hn,Xd] at step2;refine⟨_,ws2,rfl,s2.trans s3,s3 _ _ hd2,?_⟩;rw[hc0',step2];exact Cel.mono s3 hc2
    .have hp':qh k0=false:=by simpa using hp
     refine jd hp' ?_;refine zcP ?_;rw[hp',Pp,bw XT,Xd] at step2;refine⟨_,ws2,rfl,s2,hd2,?_⟩;rw[hc0',step2];exact hc2
   .rintro σ H2 ⟨v5,ws2,rfl,s2,hd2,hc2⟩;refine⟨_,_,ws2,rfl,s2,hd2,?_⟩;have full:(Cells.zQ qh r 0 (t.cps.toList.take (j-1+(((min (j+2) t.cps.size:Nat):Int)-((j-1:Nat):Int)).toNat))).filter (λx=>Cells.near x (i,j))=(Cells.zQ qh r 0 t.cps.toList).filter λx=>Cells.near x (i,j):=by
     by_cases hbig:t.cps.size<=j-1+(((min (j+2) t.cps.size:Nat):Int)-((j-1:Nat):Int)).toNat
     .rw[Wm (by lia)]
     .refine Cells.zjb λc hc'=>?_;rw[XC,ne_eq,Cells.jQ];rintro⟨_,⟨h2,_⟩,_⟩;dsimp only at h2;lia
    rw[full] at hc2;have e1:i-1+(k+1)=r+1:=by lia
    rw[e1,Cells.Qo (jy ht),WX];exact hc2
  .rintro σ H1 ⟨v4,v5,ws,rfl,s1,hd1,hc1⟩;have full:(Cells.zw qh 0 ((codes rs).take (i-1+(((min (i+2) rs.length:Nat):Int)-((i-1:Nat):Int)).toNat))).filter (λx=>Cells.near x (i,j))=zF rs (i,j):=by
    by_cases hbig:rs.length<=i-1+(((min (i+2) rs.length:Nat):Int)-((i-1:Nat):Int)).toNat
    .rw[Wm (by rw[jz];lia)];rfl
    .refine Cells.zja λr c hr'=>?_;rw[XC,ne_eq,Cells.jQ];rintro⟨⟨h2,_⟩,_⟩;dsimp only at h2;lia
   rw[full] at hc1;exact⟨_,rfl,q d ws H1 hd hd1 hc1 s1⟩
def yg.rdn {N:Addr->Prop}{H:Hp}{v:V}{c:AA}(h:yg H v c):Rdn N H v (zk c):=by
 obtain⟨a,rfl,h⟩:=h;exact .tup h (.cons (.int _) (.cons (.int _) .nil))
theorem Cel.rdn {N:Addr->Prop}{H:Hp}{vs:AE}{cs:AB}(hp:Cel H vs cs):zq N H vs (cs.map zk):=by
 induction hp with
 | nil=>exact .nil
 | cons h _ ih =>
  exact .cons (yg.rdn h) ih
def Rdn.celR {N:Addr->Prop}{H:Hp}{v:V}{c:AA}(h:Rdn N H v (zk c)):yg H v c:=by
 cases h with
 | tup h t =>
  cases t with
  | cons a t =>
   cases a;cases t with
   | cons b t =>
    cases b;cases t;exact⟨_,rfl,h⟩
theorem zq.cel {N:Addr->Prop}{H:Hp}:∀{cs:AB} {vs:AE},zq N H vs (cs.map zk)->Cel H vs cs
 | [],_,h=>by cases h;exact .nil
 | c::r,_,h=>by
  cases h with
  | cons a t=>exact .cons (Rdn.celR a) (zq.cel t)
theorem zq.bools {N:Addr->Prop}{H:Hp}:∀{bs:List Bool} {vs:AE},zq N H vs (bs.map Tf)->vs=bs.map V.bl
 | [],_,h=>by cases h;rfl
 | b::r,_,h=>by
  cases h with
  | cons a t =>
   cases a;rw[zq.bools t];rfl
theorem zR {α:Type}(p:α->Bool)(g:α->V7):∀cs:List α,(cs.map λx=>if p x=true then some (g x) else none).filterMap id=(cs.filter p).map g
 | []=>rfl
 | c::r=>by
  rw[Xu,Va,Wr];by_cases h:p c=true
  .rw[br h,br h];show g c::_=g c::_;rw[zR p g r]
  .rw[bw h,bw h];exact zR p g r
theorem Zd {α:Type}(g:α->V7):∀cs:List α,(cs.map λx=>some (g x)).filterMap id=cs.map g
 | []=>rfl
 | c::r=>by
  rw[Xu,Va];show g c::_=g c::_;rw[Zd g r]
def jg {α β:Type}{g:α->β}{cs:List α}{i:Nat}{c:α}{o:β}(h:cs[i]?=some c)(ho:(cs.map g)[i]?=some o):o=g c:=by
 rw[Xo,h] at ho;exact(Option.some.inj ho).symm
def clA (rs:AD)(c:AA):AB:=(zF rs c).filter λx=>decide (Cells.sgn (codes rs) x=63)
def zx (rs:AD):AB:=Cells.zw yx 0 (codes rs)
def zK (rs:AD):AB:=Cells.zw Zb 0 (codes rs)
def za8 (rs:AD):AB:=(zx rs).filter λc=>!((zK rs).map λo=>(zF rs o).any λz=>decide (z=c)).any id
def Z0 (rs:AD):AB:=((zK rs).filter λo=>(clA rs o).isEmpty).filter λo=>!decide (Cells.sgn (codes rs) o=48)
def jA {p:Nat->Bool}{rs:AD}(R:Rows bd.cps.toList rs):(Cells.zw p 0 (codes rs)).length<=64:=by
 have h1:=Cells.qB p 0 (codes rs) R.short;have h2:=R.hi;rw[jz] at h1;lia
def JS {rs:AD}(R:Rows bd.cps.toList rs)(c:AA):(zF rs c).length<=64:=XZ (Xg _ _) (jA R)
def zW {p:Nat->Bool}{rs:AD}{c:AA}(h:c∈Cells.zw p 0 (codes rs)):∃t k,rs[c.1]?=some t/\t.cps.toList[c.2]?=some k/\p k=true/\Cells.sgn (codes rs) c=k:=by
 obtain⟨k0,j,u,k,ec,hk0,hj,hpc⟩:=Cells.jK h;obtain⟨t,ht,rfl⟩:=YI hk0;rw[VI] at ec;subst ec;exact⟨t,k,ht,hj,hpc,Cells.zb2 hk0 hj⟩
def j4 {rs:AD}{c:AA}{t:Str}{k:Nat}(R:Rows bd.cps.toList rs)(h1:rs[c.1]?=some t)(h2:t.cps.toList[c.2]?=some k):c.1<64/\c.2<64:=by
 have a:=(X5.mp h1).1;have b:=(X5.mp h2).1;have e:=R.hi;have f:=R.short _ (X6 (jy h1));lia
def zh1 {rs:AD}{i j:Nat}{t:Str}{k:Nat}(R:Rows bd.cps.toList rs)(h1:rs[i]?=some t)(h2:t.cps.toList[j]?=some k):k∈bd.cps.toList:=by
 obtain⟨n,_,_,h⟩:=R.ex;exact(h t (X6 h1)).mem k (X6 h2)
def znZ:Sp:=λvs H Q _=>∃(p l ca:Addr) (rs:AD) (n:Int) (c:AA),vs=[.ref p,.ref ca]/\qF H p l rs n/\Rows bd.cps.toList rs/\H ca=some (.tup [.int (c.1:Nat),.int (c.2:Nat)])/\c.1<64/\c.2<64 /\
 ∀(d:Addr) (ws:AE) (H':Hp),H d=none->H' d=some (.lst ws)->Cel H' ws (clA rs c)->zo H H'->Q (.ref d) H'
def zn0 (g:AD->AB):Sp:=λvs H Q _=>∃(a l:Addr) (rs:AD) (n:Int),vs=[.ref a]/\qF H a l rs n/\Rows bd.cps.toList rs /\
 ∀(d:Addr) (ws:AE) (H':Hp),H d=none->H' d=some (.lst ws)->Cel H' ws (g rs)->zo H H'->Q (.ref d) H'
def zaA:zB ["board","cell"] ["board","cell"] (zp qJ):=bz rfl rfl rfl rfl (by decide+kernel)
def jL {f1 f2:Addr}{fd1 fd2:XD}(T:Txt mg)(D:zm K mg "closed_around" qJ ["board","cell"] f fd)(zM:zm K mg "around" jR ["board","cell"] f1 fd1)(zu:zm K mg "sign_at" qN ["board","cell"] f2 fd2) :
  qa P w K mg base CX0 2 f fd ["board","cell"] znZ:=by
 refine D.F.ok zaA (λvs H Q E h=>?_) (λcdv A outer s H vs Q E hr h=>?_)
 .obtain⟨p,l,ca,rs,n,c,rfl,_⟩:=h;rfl
 .obtain⟨p,l,ca,rs,n,c,rfl,b,R,hca,ci,cj,q⟩:=h;refine⟨_,(zh (zG (pcm ["place","board"] [none,some 0] cR (zH (pc0 (YJ T zM) hr zM (za (pvS 0) (za (pvS 1) zd)))) (pgN 0) (qq (zV YX (pc0 (ZF zu) hr zu (za (pvS 1) (za (pvS 0) zd))) (yU (v:=.str "?") (by rfl) T.JR.choose_spec (by exact⟨_,rfl⟩)) (zY _))) (pvS 0)))),?_⟩;(try dsimp only[cxK,cxP,cxW]);refine⟨_,rfl,_,rfl,p,l,ca,rs,n,c.1,c.2,rfl,b,R,hca,ci,cj,λd ws H1 hd hd1 hc1 s1=>⟨d,rfl,⟨_,SqL.of hd1⟩,λz hz=>?_⟩⟩;refine z9 (K:=K) (a:=d) (xs:=ws) (λa=>a≠z) ((zF rs c).map λx=>if decide (Cells.sgn (codes rs) x=63)=true then some (zk x) else none) (fun σ=>∃u0,σ=[u0,some (.ref p)]) hz (λ_ h=>h) ⟨_,rfl⟩ (by rw[Y1];exact hc1.length.symm) (by rw[hc1.length];exact XZ (JS R c) (by decide)) (SqL.of hd1) ?_ ?_
  .rintro k x o σ H2 hx ho s2 _ ⟨u0,rfl⟩ Y Z yes no;obtain⟨y,hy,r1⟩:=Cel.get hc1 hx;have eo:=jg hy ho;obtain⟨t,sg,ht,hj,_,es⟩:=zW (X9.mp (X6 hy)).1;obtain⟨ya,rfl,hya⟩:=r1;refine⟨_,rfl,_,rfl,p,l,ya,rs,n,y.1,y.2,t,sg,rfl,(b.mono s1).mono s2,s2 _ _ hya,ht,hj,R.tlen ht,rfl,_,rfl,?_⟩;have ed:decide (V.str ⟨#[sg]⟩=V.str "?")=decide (sg=63):=by
    rw[zgT];simp only[zcd]
   rw[ed];rw[es] at eo;by_cases hp:sg=63
   .rw[bu hp];rw[br (bu hp)] at eo;exact za6 ⟨_,rfl,yes _ _ _ _ eo ⟨_,rfl⟩ (zo.refl _) (yg.rdn ⟨ya,rfl,s2 _ _ hya⟩)⟩
   .rw[bg hp];rw[bw (by rw[bg hp];exact XT)] at eo;exact zcP (no _ _ eo ⟨_,rfl⟩ (zo.refl _))
  .rintro ys H2 s2 hz2 hr2;rw[zR] at hr2;exact q z ys H2 (s1.free hz) hz2 (zq.cel hr2) (s1.trans s2)
def YV (cs:AB):T7 (cs.map zk)=true:=by
 induction cs with
 | nil=>rfl
 | cons c r ih =>
  show (TY (zk c)&&T7 (r.map zk))=true;rw[ih];rfl
def zce (cs:AB):UL (cs.map zk)<=1:=by
 induction cs with
 | nil=>exact WT _
 | cons c r ih =>
  show max (PyData.depth (zk c)) (UL (r.map zk))<=1;have:PyData.depth (zk c)=1:=rfl;lia
def zcf (cs ds:AB):zml (.list (cs.map zk)) (.list (ds.map zk)):=⟨YV cs,YV ds,by
 show UL (cs.map zk)+1<=64;have:=zce cs;lia⟩
def xy (cs:AB)(c:AA):(cs.map zk).any (λz=>WL z (zk c))=cs.any λz=>decide (z=c):=by
 rw[TL];congr 1;funext z;exact zay z c
def eq_nil (cs:AB):WL (.list (cs.map zk)) (.list [])=cs.isEmpty:=by
 cases cs<;>rfl
def zk1:zB ["board","told"] ["board"] (zp zhZ):=bz rfl rfl rfl rfl (by decide+kernel)
def zpd {f1 f2 f3 f4 f5:Addr}{fd1 fd2 fd3 fd4 fd5:XD}(T:Txt mg)(D:zm K mg "far" zhZ ["board"] f fd)(zM:zm K mg "around" jR ["board","cell"] f1 fd1)(zu:zm K mg "sign_at" qN ["board","cell"] f2 fd2)
  (zC:zm K mg "cells_of" qR ["board"] f3 fd3) (yr:zm K mg "closed" J9 ["board"] f4 fd4) (zD:zm K mg "open_cells" qZ ["board"] f5 fd5):qa P w K mg base CX0 3 f fd ["board"] (zn0 za8):=by
 refine D.F.ok zk1 (λvs H Q E h=>?_) (λcdv A outer s H vs Q E hr h=>?_)
 .obtain⟨a,l,rs,n,rfl,_⟩:=h;rfl
 .obtain⟨a,l,rs,n,rfl,b,R,q⟩:=h;refine⟨_,(ze (jo 1 zk1.nd (pcm ["cell","board"] [none,some 0] cR (zH (pc0 (jS T zD zC zu) hr zD (za (pvS 0) zd))) (pgN 0) qc (pc0 (YJ T zM) hr zM (za (pvS 1) (za (pvS 0) zd))))) (zh (zG (zq6 ["cell","told"] [none,some 1] (c1 (y:="cell")) (zH (pc0 (zdH T yr zC zu) hr yr (za (pvS 0) zd))) (pgN 0) (qq (zgh (JX (K:=K) (by rfl) (pb1 (zdn (K:=K) (by rfl) (by rfl)) T.zh0 T9 (pcm ["near","cell"] [none,some 0] cR (zbM (K:=K) (by rfl) (pvS 1)) (pgN 0) qc (xR (jC (K:=K) (by rfl) hr.units) (pvS 1) (pvS 0) (by rfl)))) (λ_=>rfl)))) (pvS 0))))),?_⟩;(try dsimp only[cxK,cxP,cxW]);refine⟨_,rfl,a,l,rs,n,rfl,b,R,λd ws H1 hd hd1 hc1 s1=>⟨d,rfl,⟨_,SqL.of hd1⟩,λz hz=>?_⟩⟩;have b1:=b.mono s1;refine z9 (K:=K) (a:=d) (xs:=ws) (λa=>a≠z) ((zK rs).map λo=>some (.list ((zF rs o).map zk))) (fun σ=>∃u0,σ=[u0,some (.ref a)]) hz (λ_ h=>h) ⟨_,rfl⟩ (by rw[Y1];exact hc1.length.symm) (by rw[hc1.length];exact XZ (jA R) (by decide)) (SqL.of hd1) ?_ ?_
  .rintro k x o σ H2 hx ho s2 hzn ⟨u0,rfl⟩ Y Z yes no;obtain⟨y,hy,r1⟩:=Cel.get hc1 hx;have eo:=jg hy ho;obtain⟨t,sg,ht,hj,_,es⟩:=zW (X6 hy);obtain⟨ya,rfl,hya⟩:=r1;obtain⟨l1,l2⟩:=j4 R ht hj;refine xU ⟨_,rfl,_,rfl,a,l,ya,rs,n,y.1,y.2,rfl,b1.mono s2,R,s2 _ _ hya,l1,l2,λd2 ws2 H3 hd2 hd3 hc2 s3=>?_⟩;refine yes _ _ _ _ eo ⟨_,rfl⟩ s3 (.lst (λe=>hzn (e ▸ hd2)) hd3 (Cel.rdn hc2))
  .rintro ys H2 s2 hz2 hr2;rw[Zd] at hr2;have b2:=b1.mono s2;refine⟨_,rfl,a,l,rs,n,rfl,b2,R,λd3 ws3 H3 hd3 hd4 hc3 s3=>⟨d3,rfl,⟨_,SqL.of hd4⟩,λz3 hz3=>?_⟩⟩;have hz4:=s3 _ _ hz2;have hr3:=hr2.keep s3;refine z9 (K:=K) (a:=d3) (xs:=ws3) (λa=>a≠z3) ((zx rs).map λc=>if (!((zK rs).map λo=>(zF rs o).any λz=>decide (z=c)).any id)=true then some (zk c) else none) (fun σ=>∃u0,σ=[u0,some (.ref z)]) hz3 (λ_ h=>h) ⟨_,rfl⟩ (by rw[Y1];exact hc3.length.symm) (by rw[hc3.length];exact XZ (jA R) (by decide)) (SqL.of hd4) ?_ ?_
   .rintro k x o σ H4 hx ho s4 _ ⟨u0,rfl⟩ Y Z yes no;obtain⟨y,hy,r1⟩:=Cel.get hc3 hx;have eo:=jg hy ho;have r2:yg H4 x y:=by
     obtain⟨ya,e,hya⟩:=r1;exact⟨ya,e,s4 _ _ hya⟩
    refine⟨_,rfl,z,rfl,⟨_,SqL.of (s4 _ _ hz4)⟩,λz5 hz5=>?_⟩;have hyl:ys.length=(zK rs).length:=by rw[hr2.length,Y1]
    refine z9 (K:=K) (a:=z) (xs:=ys) (λa=>a≠z5) ((zK rs).map λo=>some (.bool ((zF rs o).any λz=>decide (z=y)))) (fun σ=>∃u0,σ=[u0,some x]) hz5 (λ_ h=>h) ⟨_,rfl⟩ (by rw[Y1];exact hyl.symm) (by rw[hyl];exact XZ (jA R) (by decide)) (SqL.of (s4 _ _ hz4)) ?_ ?_
    .rintro m v o2 σ H5 hv ho2 s5 _ ⟨u1,rfl⟩ Y2 Z2 yes2 no2;obtain⟨dv,hdv,rv⟩:=hr3.get hv;rw[Xo] at hdv;cases eoc:(zK rs)[m]? with
     | none=>rw[eoc] at hdv;cases hdv
     | some oc =>
      rw[eoc] at hdv;cases hdv;have eo2:=jg eoc ho2;have r3:yg H5 x y:=by
       obtain⟨ya,e,hya⟩:=r2;exact⟨ya,e,s5 _ _ hya⟩
      refine xU ⟨_,rfl,_,rfl,zk y,(zF rs oc).map zk,r3.rdv,(((rv.keep s4).keep s5).rdv),rfl,YV _,(by show 1<=60;decide),?_⟩;have ei:(if false=true then !((zF rs oc).map zk).any (λz=>WL z (zk y)) else ((zF rs oc).map zk).any λz=>WL z (zk y))=(zF rs oc).any λz=>decide (z=y):=xy _ _;rw[ei];exact yes2 _ _ _ _ eo2 ⟨_,rfl⟩ (zo.refl _) (.bl _)
    .rintro ys5 H5 s5 hz6 hr5;rw[Zd,show ((zK rs).map λo=>Tf ((zF rs o).any λz=>decide (z=y)))=((zK rs).map λo=>(zF rs o).any λz=>decide (z=y)).map Tf by rw[Wg];rfl] at hr5;rw[zq.bools hr5] at hz6;refine⟨z5,_,rfl,SqL.of hz6,_,rfl,?_⟩;by_cases hp:(!((zK rs).map λo=>(zF rs o).any λz=>decide (z=y)).any id)=true
     .rw[br hp] at eo;refine ju hp ⟨_,rfl,yes _ _ _ _ eo ⟨_,rfl⟩ s5 (yg.rdn ?_)⟩;obtain⟨ya,e,hya⟩:=r2;exact⟨ya,e,s5 _ _ hya⟩
     .rw[bw hp] at eo;exact jd (by simpa using hp) (no _ _ eo ⟨_,rfl⟩ s5)
   .rintro ys4 H4 s4 hz6 hr4;rw[zR] at hr4;exact q z3 ys4 H4 (s1.free (s2.free (s3.free hz3))) hz6 (zq.cel hr4) (((s1.trans s2).trans s3).trans s4)
def Y6:zB ["board","bare"] ["board"] (zp xY):=bz rfl rfl rfl rfl (by decide+kernel)
def zcY {f1 f2 f3 f4 f5 f6:Addr}{fd1 fd2 fd3 fd4 fd5 fd6:XD}(T:Txt mg)(D:zm K mg "bare_wrong" xY ["board"] f fd)(zM:zm K mg "around" jR ["board","cell"] f1 fd1)(zu:zm K mg "sign_at" qN ["board","cell"] f2 fd2)
  (zC:zm K mg "cells_of" qR ["board"] f3 fd3) (zz:zm K mg "closed_around" qJ ["board","cell"] f4 fd4) (zD:zm K mg "open_cells" qZ ["board"] f5 fd5) (qo:zm K mg "number_at" j9 ["board","cell"] f6 fd6):qa P w K mg base CX0 3 f fd ["board"] (zn0 Z0):=by
 refine D.F.ok Y6 (λvs H Q E h=>?_) (λcdv A outer s H vs Q E hr h=>?_)
 .obtain⟨a,l,rs,n,rfl,_⟩:=h;rfl
 .obtain⟨a,l,rs,n,rfl,b,R,q⟩:=h;refine⟨_,(ze (psC 1 Y6.nd ["cell","board"] [none,some 0] cR (zH (pc0 (jS T zD zC zu) hr zD (za (pvS 0) zd))) (pgN 0) (qq (zV (ze1 (K:=K) (by rfl) hr.units) (pc0 (jL T zz zM zu) hr zz (za (pvS 1) (za (pvS 0) zd))) (@zI _ _ _ _ zd) (zY _))) (pvS 0)) (zh (zG (pcm ["cell","board"] [none,some 0] cR (zH (pvS 1)) (pgN 0) (qq (zV zeS (pc0 (ZG T qo zu) hr qo (za (pvS 1) (za (pvS 0) zd))) zj (zY _))) (pvS 0))))),?_⟩;(try dsimp only[cxK,cxP,cxW]);refine⟨_,rfl,a,l,rs,n,rfl,b,R,λd ws H1 hd hd1 hc1 s1=>⟨d,rfl,⟨_,SqL.of hd1⟩,λz hz=>?_⟩⟩;have b1:=b.mono s1;refine z9 (K:=K) (a:=d) (xs:=ws) (λa=>a≠z) ((zK rs).map λo=>if (clA rs o).isEmpty=true then some (zk o) else none) (fun σ=>∃u0,σ=[u0,some (.ref a)]) hz (λ_ h=>h) ⟨_,rfl⟩ (by rw[Y1];exact hc1.length.symm) (by rw[hc1.length];exact XZ (jA R) (by decide)) (SqL.of hd1) ?_ ?_
  .rintro k x o σ H2 hx ho s2 hzn ⟨u0,rfl⟩ Y Z yes no;obtain⟨y,hy,r1⟩:=Cel.get hc1 hx;have eo:=jg hy ho;obtain⟨t,sg,ht,hj,_,es⟩:=zW (X6 hy);obtain⟨ya,rfl,hya⟩:=r1;obtain⟨l1,l2⟩:=j4 R ht hj;refine⟨_,rfl,_,rfl,a,l,ya,rs,n,y,rfl,b1.mono s2,R,s2 _ _ hya,l1,l2,λd2 ws2 H3 hd2 hd3 hc2 s3=>⟨Jy,λe he=>?_⟩⟩;have s4:=zc (o:=.lst []) he;refine⟨.list ((clA rs y).map zk),.list [],.lst (SqL.of (s4 _ _ hd3)) (zq.rdv (N:=λ_=>True) (Cel.rdn (Cel.mono s4 hc2))),.lst (SqL.of zb) .nil,zcf _ [],_,rfl,?_⟩;have ee:(if false=true then !PyData.eqv (.list ((clA rs y).map zk)) (.list []) else WL (.list ((clA rs y).map zk)) (.list []))=(clA rs y).isEmpty:=eq_nil _;rw[ee];by_cases hp:(clA rs y).isEmpty=true
   .rw[br hp] at eo;exact ju hp ⟨_,rfl,yes _ _ _ _ eo ⟨_,rfl⟩ (s3.trans s4) (yg.rdn ⟨ya,rfl,s4 _ _ (s3 _ _ (s2 _ _ hya))⟩)⟩
   .rw[bw hp] at eo;exact jd (by simpa using hp) (no _ _ eo ⟨_,rfl⟩ (s3.trans s4))
  .rintro ys H2 s2 hz2 hr2;rw[zR] at hr2;have hc2:=zq.cel hr2;have b2:=b1.mono s2;refine⟨_,rfl,z,rfl,⟨_,SqL.of hz2⟩,λz3 hz3=>?_⟩;refine z9 (K:=K) (a:=z) (xs:=ys) (λa=>a≠z3) (((zK rs).filter λo=>(clA rs o).isEmpty).map λo=>if (!decide (Cells.sgn (codes rs) o=48))=true then some (zk o) else none) (fun σ=>∃u0,σ=[u0,some (.ref a)]) hz3 (λ_ h=>h) ⟨_,rfl⟩ (by rw[Y1];exact hc2.length.symm) (by rw[hc2.length];exact XZ (Xg _ _) (XZ (jA R) (by decide))) (SqL.of hz2) ?_ ?_
   .rintro k x o σ H4 hx ho s4 _ ⟨u0,rfl⟩ Y Z yes no;obtain⟨y,hy,r1⟩:=Cel.get hc2 hx;have eo:=jg hy ho;obtain⟨t,sg,ht,hj,hpo,es⟩:=zW (X9.mp (X6 hy)).1;obtain⟨ya,rfl,hya⟩:=r1;obtain⟨k1,k2⟩:=zaz (zh1 R ht hj) hpo;refine⟨_,rfl,_,rfl,a,l,ya,rs,n,y.1,y.2,t,sg,rfl,b2.mono s4,s4 _ _ hya,ht,hj,R.tlen ht,k1,k2,rfl,_,rfl,?_⟩;have ed:(!decide (V.int ((sg:Int)-48)=V.int 0))=!decide (Cells.sgn (codes rs) y=48):=by
     rw[es,zd3];congr 1;by_cases h:sg=48
     .rw[bu h,h];rfl
     .rw[bg h];simp only[beq_eq_false_iff_ne,ne_eq];lia
    rw[ed];by_cases hp:(!decide (Cells.sgn (codes rs) y=48))=true
    .rw[br hp] at eo;exact ju hp ⟨_,rfl,yes _ _ _ _ eo ⟨_,rfl⟩ (zo.refl _) (yg.rdn ⟨ya,rfl,s4 _ _ hya⟩)⟩
    .rw[bw hp] at eo;exact jd (by simpa using hp) (no _ _ eo ⟨_,rfl⟩ (zo.refl _))
   .rintro ys4 H4 s4 hz6 hr4;rw[zR] at hr4;exact q z3 ys4 H4 (s1.free (s2.free hz3)) hz6 (zq.cel hr4) ((s1.trans s2).trans s4)
def zk2 {K:XW}{H:Hp}{vs:AE}{cs:AB}(hp:Cel H vs cs):JQ K H vs (cs.map zk):=by
 induction hp with
 | nil=>exact .nil
 | cons h _ ih =>
  exact .cons (yg.rdv h) ih
def toI (c:AA):Int×Int:=(((c.1:Nat):Int),((c.2:Nat):Int))
def ofI (p:Int×Int):AA:=(p.1.toNat,p.2.toNat)
def zh2 (c:AA):ofI (toI c)=c:=rfl
def zm5 {c d:AA}(h:toI c=toI d):c=d:=by rw[<- zh2 c,h,zh2]
def zh3 {c d:AA}:lt2 (toI c) (toI d)=true↔Cells.lex c d:=by
 obtain⟨a,b⟩:=c;obtain⟨x,y⟩:=d;unfold lt2 Cells.lex;show (if ((a:Nat):Int)=((x:Nat):Int) then decide (((b:Nat):Int)<((y:Nat):Int)) else decide (((a:Nat):Int)<((x:Nat):Int)))=true↔a<x\/(a=x/\b<y);by_cases e:a=x
 .rw[br (by lia),bf];lia
 .rw[bw (by lia),bf];lia
def Cel.tup2 {H:Hp}{vs:AE}{cs:AB}(hp:Cel H vs cs):yw H vs (cs.map toI):=by
 induction hp with
 | nil=>exact .nil
 | cons q _ ih =>
  obtain⟨a,e,h⟩:=q;exact .cons ⟨a,e,h⟩ ih
theorem jn {H:Hp}:∀{cs:AB} {vs:AE},yw H vs (cs.map toI)->Cel H vs cs
 | [],_,.nil=>.nil
 | _::_,_,.cons ⟨a,e,h⟩ t=>.cons ⟨a,e,h⟩ (jn t)
def Q5 {ps:List (Int×Int)}{cs:AB}(h:ps.Perm (cs.map toI)):∃ds:AB,ps=ds.map toI/\ds.Perm cs:=by
 refine⟨ps.map ofI,?_,?_⟩
 .rw[Wg];refine(Sw ps).symm.trans (Xa λp hp=>?_);obtain⟨c,_,rfl⟩:=XM.mp (h.mem_iff.mp hp);rfl
 .have:=h.map ofI;rw[Wg] at this;have e:cs.map (ofI∘toI)=cs:=(Xa λc _=>zh2 c).trans (Sw cs);rwa [e] at this
def zpe {cs:AB}(h:Up2 (cs.map toI)):cs.Pairwise Cells.lex:=by
 unfold Up2 at h;rw[We] at h;exact h.imp λz=>zh3.mp z
def qi {cs:AB}(h:cs.Pairwise Cells.lex):cs.Nodup:=h.imp λ{a b} z e=>by
 subst e;unfold Cells.lex at z;lia
def zjk (H:Hp)(v:V)(g:AB):Prop:=∃a us,v=V.ref a/\H a=some (.lst us)/\Cel H us g
def xA (H:Hp):AE->List AB->Prop:=Xl (zjk H)
theorem zjk.mono {H H':Hp}{v:V}{g:AB}(s:zo H H')(h:zjk H v g):zjk H' v g:=by
 obtain⟨a,us,e,h1,h2⟩:=h;exact⟨a,us,e,s _ _ h1,h2.mono s⟩
theorem xA.mono {H H':Hp}(s:zo H H'){vs:AE}{gs:List AB}(hp:xA H vs gs):xA H' vs gs:=by
 induction hp with
 | nil=>exact .nil
 | cons h _ ih =>
  exact .cons (h.mono s) ih
theorem xA.get {H:Hp}:∀{vs:AE} {gs:List AB} {i:Nat} {v:V},xA H vs gs->vs[i]?=some v->∃g,gs[i]?=some g/\zjk H v g
 | _,_,_,_,.nil,e=>by simp at e
 | _,_,0,_,.cons r _,e=>by
  simp at e;subst e;exact⟨_,rfl,r⟩
 | _,_,i+1,v,.cons _ t,e=>by
  obtain⟨c,h1,h2⟩:=xA.get (i:=i) (v:=v) t (by simpa using e);exact⟨c,by simpa using h1,h2⟩
theorem xA.length {H:Hp}{vs:AE}{gs:List AB}(h:xA H vs gs):vs.length=gs.length:=Paired.length h
theorem xA.snoc {H:Hp}{vs:AE}{gs:List AB}{v:V}{g:AB}(h:xA H vs gs)(x:zjk H v g):xA H (vs++[v]) (gs++[g]):=Paired.snoc h x
def lD (g:AB):V7:=.list (g.map zk)
theorem zdI {p q:Nat->Bool}(h:∀c,p c=true->q c=false)(i:Nat):∀(j:Nat) (t:List Nat),(Cells.zQ p i j t).length+(Cells.zQ q i j t).length<=t.length
 | _,[]=>XV _
 | j,c::r=>by
  have ih:=zdI h i (j+1) r;rw[Cells.zQ,Cells.zQ,X0,X0,Xj];by_cases hp:p c=true
  .rw[br hp,bw (by rw[h c hp];exact XT)];simp only[Xj,UM];lia
  .rw[bw hp];split<;>simp only[Xj,UM]<;>lia
theorem zdJ {p q:Nat->Bool}(h:∀c,p c=true->q c=false):∀(i:Nat) (rs:List (List Nat)),(∀t∈rs,t.length<=8)->(Cells.zw p i rs).length+(Cells.zw q i rs).length<=8*rs.length
 | _,[],_=>XV _
 | i,t::r,ht=>by
  have ih:=zdJ h (i+1) r λu hu=>ht u (XR _ hu);have h1:=zdI h i 0 t;have h2:=ht t XU;rw[Cells.zw,Cells.zw,X0,X0,Xj];lia
def zdK {rs:AD}(R:Rows bd.cps.toList rs):(zK rs).length+(zx rs).length<=64:=by
 have:=zdJ (p:=Zb) (q:=yx) (λc hc=>by
  unfold Zb at hc;rw[Ws,WJ] at hc;exact hc.2) 0 (codes rs) R.short
 have h2:=R.hi;rw[jz] at this;unfold zK zx;lia
theorem Q6 {p:Nat->Bool}{i:Nat}:∀{j m:Nat} {t:List Nat} {c:Nat},t[m]?=some c->p c=true->(i,j+m)∈Cells.zQ p i j t
 | j,m,[],c,h,_=>by simp at h
 | j,0,d::r,c,h,hp=>by
  have e:d=c:=by simpa using h
  subst e;rw[Cells.zQ,br hp];exact Xf _ XU
 | j,m+1,d::r,c,h,hp=>by
  rw[Cells.zQ];refine W7 _ ?_;have:=Q6 (i:=i) (j:=j+1) (m:=m) (t:=r) (c:=c) (by simpa using h) hp;rwa [show j+1+m=j+(m+1) by lia] at this
theorem x8 {p:Nat->Bool}:∀{i m:Nat} {rs:List (List Nat)} {t:List Nat} {j c:Nat},rs[m]?=some t->t[j]?=some c->p c=true->(i+m,j)∈Cells.zw p i rs
 | i,m,[],t,j,c,h,_,_=>by simp at h
 | i,0,d::r,t,j,c,h,hj,hp=>by
  have e:d=t:=by simpa using h
  subst e;rw[Cells.zw];refine Xf _ ?_;have:=Q6 (i:=i) (j:=0) hj hp;rwa [show 0+j=j by lia] at this
 | i,m+1,d::r,t,j,c,h,hj,hp=>by
  rw[Cells.zw];refine W7 _ ?_;have:=x8 (i:=i+1) (m:=m) (rs:=r) (t:=t) (j:=j) (c:=c) (by simpa using h) hj hp;rwa [show i+1+m=i+(m+1) by lia] at this
def zaB (rs:AD)(c:AA):(clA rs c).Nodup:=((qi (Cells.qW _ 0 (codes rs))).sublist XA).sublist XA
def Jr {rs:AD}{c x:AA}(h:x∈clA rs c):x∈zx rs:=by
 unfold clA at h;obtain⟨h1,h2⟩:=X9.mp h;obtain⟨t,k,ht,hj,_,es⟩:=zW (X9.mp h1).1;have e63:k=63:=by
  have:=bh h2;lia
 subst e63;have:=x8 (p:=yx) (i:=0) (jy ht) hj (by decide);rwa [VI] at this
def heads (gs:List AB):List (Int×Int):=gs.map λg=>toI (g.headD (0,0))
def head_mem {g:AB}(h:g ≠ []):g.headD (0,0)∈g:=by
 cases g with
 | nil=>exact absurd rfl h
 | cons a r=>exact XU
theorem zaR:∀{gs:List AB},(∀g∈gs,g ≠ [])->gs.flatten.Nodup->(heads gs).Nodup
 | [],_,_=>Vw
 | g::r,h,nd=>by
  rw[VS,WW] at nd;obtain⟨_,h2,h3⟩:=nd;unfold heads;rw[Xu,WB];refine⟨λhm=>?_,zaR (λx hx=>h x (XR _ hx)) h2⟩;obtain⟨g2,hg2,e⟩:=XM.mp hm;have e':=zm5 e;have m1:=head_mem (h g XU);have m2:=head_mem (h g2 (XR _ hg2));rw[e'] at m2;exact h3 _ m1 _ (Wi.mpr ⟨g2,hg2,m2⟩) rfl
def Js (rs:AD)(part:AB):AB:=(zK rs).filter λo=>((zF rs o).map λz=>part.any λx=>decide (x=z)).any id
def zpf:Sp:=λvs H Q _=>∃(a l pa:Addr) (rs:AD) (n:Int) (ps:AE) (part:AB),vs=[.ref a,.ref pa]/\qF H a l rs n/\Rows bd.cps.toList rs/\H pa=some (.lst ps)/\Cel H ps part /\
 ∀(d:Addr) (ws:AE) (H':Hp),H d=none->H' d=some (.lst ws)->Cel H' ws (Js rs part)->zo H H'->Q (.ref d) H'
def zcZ:zB ["board","part"] ["board","part"] (zp xX):=bz rfl rfl rfl rfl (by decide+kernel)
def zc0 {f1 f2 f3 f5:Addr}{fd1 fd2 fd3 fd5:XD}(T:Txt mg)(D:zm K mg "numbers_of" xX ["board","part"] f fd)(zM:zm K mg "around" jR ["board","cell"] f1 fd1)(zu:zm K mg "sign_at" qN ["board","cell"] f2 fd2)
  (zC:zm K mg "cells_of" qR ["board"] f3 fd3) (zD:zm K mg "open_cells" qZ ["board"] f5 fd5):qa P w K mg base CX0 3 f fd ["board","part"] zpf:=by
 refine D.F.ok zcZ (λvs H Q E h=>?_) (λcdv A outer s H vs Q E hr h=>?_)
 .obtain⟨a,l,pa,rs,n,ps,part,rfl,_⟩:=h;rfl
 .obtain⟨a,l,pa,rs,n,ps,part,rfl,b,R,hpa,hpt,q⟩:=h;refine⟨_,(zh (zG (pcm ["cell","part","board"] [none,some 1,some 0] cR (zH (pc0 (jS T zD zC zu) hr zD (za (pvS 0) zd))) (pgN 0) (qq (JX (K:=K) (by rfl) (pb1 (zdn (K:=K) (by rfl) (by rfl)) T.zh0 T9 (pcm ["place","part"] [none,some 1] cR (zbM (K:=K) (by rfl) (pc0 (YJ T zM) hr zM (za (pvS 2) (za (pvS 0) zd)))) (pgN 0) qc (xR (jC (K:=K) (by rfl) hr.units) (pvS 0) (pvS 1) (by rfl)))) (λ_=>rfl))) (pvS 0)))),?_⟩;(try dsimp only[cxK,cxP,cxW]);refine⟨_,rfl,a,l,rs,n,rfl,b,R,λd ws H1 hd hd1 hc1 s1=>⟨d,rfl,⟨_,SqL.of hd1⟩,λz hz=>?_⟩⟩;have b1:=b.mono s1;refine z9 (K:=K) (a:=d) (xs:=ws) (λa=>a≠z) ((zK rs).map λo=>if (((zF rs o).map λz=>part.any λx=>decide (x=z)).any id)=true then some (zk o) else none) (fun σ=>∃u0,σ=[u0,some (.ref pa),some (.ref a)]) hz (λ_ h=>h) ⟨_,rfl⟩ (by rw[Y1];exact hc1.length.symm) (by rw[hc1.length];exact XZ (jA R) (by decide)) (SqL.of hd1) ?_ ?_
  .rintro k x o σ H2 hx ho s2 hzn ⟨u0,rfl⟩ Y Z yes no;obtain⟨y,hy,r1⟩:=Cel.get hc1 hx;have eo:=jg hy ho;obtain⟨t,sg,ht,hj,_,es⟩:=zW (X6 hy);obtain⟨ya,rfl,hya⟩:=r1;obtain⟨l1,l2⟩:=j4 R ht hj;refine⟨_,rfl,_,rfl,a,l,ya,rs,n,y.1,y.2,rfl,b1.mono s2,R,s2 _ _ hya,l1,l2,λd2 ws2 H3 hd2 hd3 hc2 s3=>⟨d2,rfl,⟨_,SqL.of hd3⟩,λz5 hz5=>?_⟩⟩;refine z9 (K:=K) (a:=d2) (xs:=ws2) (λa=>a≠z5) ((zF rs y).map λc=>some (.bool (part.any λx=>decide (x=c)))) (fun σ=>∃u0,σ=[u0,some (.ref pa)]) hz5 (λ_ h=>h) ⟨_,rfl⟩ (by rw[Y1];exact hc2.length.symm) (by rw[hc2.length];exact XZ (JS R y) (by decide)) (SqL.of hd3) ?_ ?_
   .rintro m v o2 σ H5 hv ho2 s5 _ ⟨u1,rfl⟩ Y2 Z2 yes2 no2;obtain⟨c,hc,rc⟩:=Cel.get (Cel.mono s5 hc2) hv;have eo2:=jg hc ho2;have sA:=((s1.trans s2).trans s3).trans s5;refine xU ⟨_,rfl,_,rfl,zk c,part.map zk,rc.rdv,.lst (SqL.of (sA _ _ hpa)) (zq.rdv (N:=λ_=>True) (Cel.rdn (Cel.mono sA hpt))),rfl,YV _,(by show 1<=60;decide),?_⟩;have ei:(if false=true then !(part.map zk).any (λz=>WL z (zk c)) else (part.map zk).any λz=>WL z (zk c))=part.any λz=>decide (z=c):=xy _ _;rw[ei];exact yes2 _ _ _ _ eo2 ⟨_,rfl⟩ (zo.refl _) (.bl _)
   .rintro ys5 H5 s5 hz6 hr5;rw[Zd,show ((zF rs y).map λc=>Tf (part.any λx=>decide (x=c)))=((zF rs y).map λc=>part.any λx=>decide (x=c)).map Tf by rw[Wg];rfl] at hr5;rw[zq.bools hr5] at hz6;refine⟨z5,_,rfl,SqL.of hz6,_,rfl,?_⟩;by_cases hp:(((zF rs y).map λz=>part.any λx=>decide (x=z)).any id)=true
    .rw[br hp] at eo;exact ju hp ⟨_,rfl,yes _ _ _ _ eo ⟨_,rfl⟩ (s3.trans s5) (yg.rdn ⟨ya,rfl,s5 _ _ (s3 _ _ (s2 _ _ hya))⟩)⟩
    .rw[bw hp] at eo;exact jd (by simpa using hp) (no _ _ eo ⟨_,rfl⟩ (s3.trans s5))
  .rintro ys H2 s2 hz2 hr2;rw[zR] at hr2;exact q z ys H2 (s1.free hz) hz2 (zq.cel hr2) (s1.trans s2)
def zm6 {a b:AB}(p:a.Perm b)(ha:a.Pairwise Cells.lex)(hb:b.Pairwise Cells.lex):a=b:=p.eq_of_pairwise (λx y _ _ h1 h2=>by
 unfold Cells.lex at h1 h2;lia) ha hb
def zgV {cl:AA->AB}{done:AB}{gs:List AB}{o:AA}(G:Parts.Good cl done gs)(h:cl o ≠ [])(hn:(cl o).Nodup){w:AB}(hs:w.Pairwise Cells.lex)(hw:∀x,x∈w↔x∈cl o\/∃g∈gs,Parts.meets (cl o) g=true/\x∈g):Parts.Good cl (done++[o]) ((gs.filter λg=>!Parts.meets (cl o) g)++[w]):=by
 refine G.step h hn ?_ ?_ hs
 .refine V8 λg hg=>?_;congr 1;rw[W1,WF];constructor
  .exact λz=>⟨g,X9.mpr ⟨hg,z⟩,bu rfl⟩
  .rintro⟨m,hm,e⟩;have e':m=g:=bh e;subst e';exact(X9.mp hm).2
 .refine(W6 (qi hs) (Parts.Yd hn λm hm=>G.nd.sublist (Wb (X9.mp hm).1))).mpr λx=>?_;rw[hw,Parts.zat];constructor
  .rintro(z | ⟨g,h1,h2,h3⟩)
   .exact .inl z
   .exact .inr ⟨g,X9.mpr ⟨h1,h2⟩,h3⟩
  .rintro(z | ⟨g,h1,h3⟩)
   .exact .inl z
   .exact .inr ⟨g,(X9.mp h1).1,(X9.mp h1).2,h3⟩
def zjl (cs g:AB):(cs.map λc=>g.any λz=>decide (z=c)).any id=Parts.meets cs g:=by
 rw[W1,Parts.J7,TL,WF];constructor
 .rintro⟨c,h1,h2⟩;have h2':(g.any λz=>decide (z=c))=true:=h2;obtain⟨z,h3,h4⟩:=WF.mp h2';have e:z=c:=bh h4;subst e;exact⟨z,h3,h1⟩
 .rintro⟨x,h1,h2⟩;refine⟨x,h2,?_⟩;show (g.any λz=>decide (z=x))=true;exact WF.mpr ⟨x,h1,bu rfl⟩
def JM (p:AB->Bool):AE->List AB->AE
 | v::vs,g::gs=>if p g=true then v::JM p vs gs else JM p vs gs
 | _,_=>[]
theorem Ze (p:AB->Bool):∀(vs:AE) (gs:List AB),(JM p vs gs).Sublist vs
 | [],_=>Rm _
 | _::_,[]=>Rm _
 | v::vs,g::gs=>by
  rw[JM];split
  .exact(Ze p vs gs).cons_cons v
  .exact(Ze p vs gs).cons v
theorem Qs {H:Hp}(p:AB->Bool):∀{vs:AE} {gs:List AB},xA H vs gs->xA H (JM p vs gs) (gs.filter p)
 | _,_,.nil=>.nil
 | _,_,.cons (a:=v) (b:=g) h t=>by
  rw[JM,Wr];by_cases hp:p g=true
  .rw[br hp,br hp];exact .cons h (Qs p t)
  .rw[bw hp,bw hp];exact Qs p t
def zgW (p:AB->Bool){vs:AE}{gs:List AB}{i:Nat}{v:V}{g:AB}(h1:vs[i]?=some v)(h2:gs[i]?=some g):JM p (vs.take (i+1)) (gs.take (i+1))=JM p (vs.take i) (gs.take i)++if p g=true then [v] else []:=by
 induction vs generalizing gs i with
 | nil=>cases h1
 | cons w vs ih =>
  cases gs with
  | nil=>cases h2
  | cons k gs =>
   cases i with
   | zero =>
    cases h1;cases h2;simp[JM]
   | succ i =>
    rw[Uw,Uw,Uw,Uw,JM,JM,ih h1 h2];split<;>rfl
def zeA {m:List (Int×Int)}{l:AB}(h:∀c∈m,c∈l.map toI):m=(m.map ofI).map toI:=by
 rw[Wg];refine(Sw m).symm.trans (Xa λc hc=>?_);obtain⟨x,_,rfl⟩:=XM.mp (h c hc);rfl
def zk3:Sp:=λvs H Q _=>∃(ga ca:Addr) (ws us:AE) (gs:List AB) (cs B:AB),vs=[.ref ga,.ref ca]/\H ga=some (.lst ws)/\xA H ws gs/\H ca=some (.lst us)/\Cel H us cs/\cs.Nodup/\gs.flatten.Nodup/\(∀x∈cs,x∈B)/\(∀x∈gs.flatten,x∈B)/\(∀x∈B,x.1<8/\x.2<8)/\B.length<=63/\gs.length<=63 /\
 (cs=[]->∀H',zo H H'->Q (.ref ga) H') /\
 (cs ≠ []->∀(d wa:Addr) (va:AE) (w:AB) (H':Hp),H d=none->H wa=none->H' d=some (.lst (va++[.ref wa]))->va.Sublist ws->xA H' (va++[.ref wa]) ((gs.filter λg=>!Parts.meets cs g)++[w])->w.Pairwise Cells.lex->(∀x,x∈w↔x∈cs\/∃g∈gs,Parts.meets cs g=true/\x∈g)->zo H H'->Q (.ref d) H')
def YK:zB ["groups","cells","apart","together","group"] ["groups","cells"] (zp Yh):=bz rfl rfl rfl rfl (by decide+kernel)
def zjm (T:Txt mg)(D:zm K mg "joined" Yh ["groups","cells"] f fd):qa P w K mg base CX0 1 f fd ["groups","cells"] zk3:=by
 refine D.F.ok YK (λvs H Q E h=>?_) (λcdv A outer s H vs Q E hr h=>?_)
 .obtain⟨ga,ca,ws,us,gs,cs,B,rfl,_⟩:=h;rfl
 .obtain⟨ga,ca,ws,us,gs,cs,B,rfl,hga,hG,hca,hC,cnd,gnd,cB,gB,B8,B63,g63,q1,q2⟩:=h;have cl63:cs.length<=63:=XZ (Parts.j8 cnd cB) B63;have fl63:gs.flatten.length<=63:=XZ (Parts.j8 gnd gB) B63;refine⟨_,(ze (je (zV (Qi hr.units) (pvS 1) (@zI _ _ _ _ zd) (zY _)) (zh (zG (pvS 0))) qf) (@ze _ _ _ _ _ (@qH _ _ 2 _ _ _ _ YK.nd rfl (Vz rfl) (@zI _ _ _ _ zd) (by rfl) (.inr rfl)) (ze (jo 3 YK.nd (pt1 zd9 T.zpb PyProof.Rows.boot_list (pvS 1))) (ze (qI WV rfl (zH (pvS 0)) (pgq 4 YK.nd) (zh (je (zbC (pb1 (zbJ rfl) T.zh0 T9 (pcm ["cell","group"] [none,some 4] cR (zH (pvS 1)) (pgN 0) qc (xR (jC (K:=K) (by rfl) hr.units) (pvS 0) (pvS 1) (by rfl)))) (λ_=>rfl)) (zh (jW (JW WE Uz Uy Yz (pvS 3) (za (pvS 4) zd)))) (zh (jW (JW WE V0 VZ Jm (pvS 2) (za (pvS 4) zd))))))) (zh (zG (zL Zo (pvS 2) (zI (za (pb1 (ST.zcV hr.hd) T.Jq VY (pt1 (ST.zi0 hr.units hr.hd) T.zqn PyProof.Rows.boot_set (pvS 3))) zd))))))))),?_⟩;(try dsimp only[cxK,cxP,cxW]);refine⟨_,rfl,Jy,λe he=>?_⟩;have s1:zo H (upd H e (.lst [])):=zc he;refine⟨lD cs,.list [],.lst (SqL.of (s1 _ _ hca)) (zk2 (hC.mono s1)),.lst (SqL.of zb) .nil,zcf _ [],_,rfl,?_⟩;have en:(if false=true then !PyData.eqv (lD cs) (.list []) else WL (lD cs) (.list []))=cs.isEmpty:=by
   show WL _ _=_;exact eq_nil cs
  rw[en];by_cases zff:cs=[]
  .rw[show cs.isEmpty=true by rw[zff];rfl];exact za6 ⟨_,rfl,q1 zff _ s1⟩
  rw[show cs.isEmpty=false by rw[UP];exact zff];refine zcP ?_;generalize upd H e (.lst [])=H1 at *
  refine⟨Jy,λap hap=>?_⟩;have s2:=s1.trans (zc (o:=.lst []) hap);have ha2:upd H1 ap (.lst []) ap=some (.lst []):=zb;have hap0:=s1.free hap;generalize upd H1 ap (.lst [])=H2 at *
  refine⟨_,rfl,ca,_,rfl,.inl (SqL.of (s2 _ _ hca)),λtg htg=>?_⟩;have z3:=zc (o:=.lst us) htg;have s3:=s2.trans z3;have ha3:=z3 _ _ ha2;have ht3:upd H2 tg (.lst us) tg=some (.lst us):=zb;have htg0:=s2.free htg;have nat:ap≠tg:=zg ha2 htg;generalize upd H2 tg (.lst us)=H3 at *
  refine⟨_,rfl,ga,rfl,⟨_,SqL.of (s3 _ _ hga)⟩,?_⟩;refine xw (K:=K) (a:=ga) (xs:=ws) (λi σ H'=>∃(ut:AE) (v4:Option V),σ=[some (.ref ga),some (.ref ca),some (.ref ap),some (.ref tg),v4]/\zo H H'/\H' ap=some (.lst (JM (λg=>!Parts.meets cs g) (ws.take i) (gs.take i)))/\H' tg=some (.lst ut)/\Cel H ut (cs++((gs.take i).filter (Parts.meets cs)).flatten))
   ⟨us,_,rfl,s3,ha3,ht3,by simpa using hC⟩ (λi σ H' _ ⟨_,_,_,z,_⟩=>SqL.of (z _ _ hga)) ?_ ?_
  .rintro i x σ H4 hx ⟨ut,v4,rfl,s4,ha4,ht4,hct⟩;obtain⟨g,hg,gad,ug,rfl,hgad,hcg⟩:=xA.get hG hx;have gm:=X6 hg;have tk:(gs.take (i+1)).filter (Parts.meets cs)=(gs.take i).filter (Parts.meets cs)++if Parts.meets cs g=true then [g] else []:=by
    rw[Xc,hg,WX];congr 1;show [g].filter _=_;rw[Wr];rfl
   have pk:=zgW (λg=>!Parts.meets cs g) hx hg;refine⟨_,rfl,ca,rfl,⟨_,SqL.of (s4 _ _ hca)⟩,λz hz=>?_⟩;refine z9 (K:=K) (a:=ca) (xs:=us) (λa=>a≠z) (cs.map λc=>some (.bool (g.any λz=>decide (z=c)))) (fun σ=>∃u0,σ=[u0,some (.ref gad)]) hz (λ_ h=>h) ⟨_,rfl⟩ (by rw[Y1];exact hC.length.symm) (by rw[hC.length];exact XZ cl63 (by decide)) (SqL.of (s4 _ _ hca)) ?_ ?_
   .rintro m v o σ H5 hv ho s5 _ ⟨u1,rfl⟩ Y Z yes no;have s05:=s4.trans s5;obtain⟨c,hc,rc⟩:=Cel.get (hC.mono s05) hv;have eo:=jg hc ho;refine xU ⟨_,rfl,_,rfl,zk c,g.map zk,rc.rdv,.lst (SqL.of (s05 _ _ hgad)) (zk2 (hcg.mono s05)),rfl,YV _,(by show 1<=60;decide),?_⟩;have ei:(if false=true then !(g.map zk).any (λz=>WL z (zk c)) else (g.map zk).any λz=>WL z (zk c))=g.any λz=>decide (z=c):=xy _ _;rw[ei];exact yes _ _ _ _ eo ⟨_,rfl⟩ (zo.refl _) (.bl _)
   .rintro ys H5 s5 hz5 hr5;rw[Zd,show (cs.map λc=>Tf (g.any λz=>decide (z=c)))=(cs.map λc=>g.any λz=>decide (z=c)).map Tf by rw[Wg];rfl] at hr5;rw[zq.bools hr5] at hz5;refine⟨z,_,rfl,SqL.of hz5,_,rfl,?_⟩;rw[zjl];have s05:=s4.trans s5;have ha5:=s5 _ _ ha4;have ht5:=s5 _ _ ht4;have gsub:∀(q:AB->Bool) (j:Nat),(((gs.take j).filter q).flatten).length<=63:=λq j=>by
     refine XZ (Vu ?_) fl63;refine List.Sublist.trans (Parts.qQ q (gs.take j)) ?_;have e2:gs=gs.take j++gs.drop j:=(W4 j gs).symm;conv=>rhs;rw[e2,VW]
     exact UA _ _
    by_cases hp:Parts.meets cs g=true
    .refine ju hp ?_;refine⟨_,rfl,.inl ⟨rfl,_,SqL.of ht5⟩,_,rfl,tg,gad,ut,ug,rfl,rfl,ht5,s05 _ _ hgad,?_,?_⟩
     .rw[hct.length,hcg.length,X0];have a1:=gsub (Parts.meets cs) i;have a2:g.length<=63:=XZ (Vu (Wb gm)) fl63;exact XZ (show _<=200 by lia) (by decide)
     .refine⟨ut++ug,_,rfl,λb o eb=>?_,?_,zb,?_⟩
      .rw[zf (zg eb htg0)];exact s05 _ _ eb
      .rw[zf nat,pk,hp];simpa using ha5
      .rw[tk,br hp,VW,<- W3];simpa using Cel.append hct hcg
    .have hp2:=XC.mpr hp;refine jd hp2 ?_;refine⟨_,rfl,.inl ⟨rfl,_,SqL.of ha5⟩,_,rfl,ap,_,_,rfl,rfl,ha5,?_,?_⟩
     .refine Xw (Vu ((Ze _ _ _).trans (S6 _ _))) ?_;rw[hG.length];exact Xw g63 (by decide)
     .refine⟨ut,_,rfl,λb o eb=>?_,?_,?_,?_⟩
      .rw[zf (zg eb hap0)];exact s05 _ _ eb
      .rw[zb,pk,hp2];rfl
      .rw[zf (Vr nat)];exact ht5
      .rw[tk,bw hp,Xd];exact hct
  .rintro σ H4 ⟨ut,v4,rfl,s4,ha4,ht4,hct⟩;rw[Xz,hG.length,Xz] at ha4;rw[hG.length,Xz] at hct;generalize hl:cs++(gs.filter (Parts.meets cs)).flatten=l at hct;have lB:∀x∈l,x∈B:=λx hx=>by
    rw[<- hl] at hx;rcases XQ.mp hx with hx | hx
    .exact cB x hx
    .exact gB x ((Parts.qQ _ gs).subset hx)
   refine⟨_,rfl,_,rfl,tg,ut,_,rfl,SqL.of ht4,Cel.tup2 (hct.mono s4),(λp hp=>?_),(λm hm hs=>?_),λds ks hds hT hnd hmem=>?_⟩
   .obtain⟨x,hx,rfl⟩:=XM.mp hp;have:=B8 x (lB x hx);unfold ST.InB toI;show (0<=((x.1:Nat):Int)/\((x.1:Nat):Int)<8)/\(0<=((x.2:Nat):Int)/\((x.2:Nat):Int)<8);lia
   .have h1:=zeA hs;have h2:(m.map ofI).Nodup:=by
     rw[h1] at hm;unfold OQ at hm ⊢;rw[We] at hm;exact hm.imp λz e=>z (by rw[e])
    have h3:=Parts.j8 (b:=B) h2 λx hx=>by
     obtain⟨c,hc,rfl⟩:=XM.mp hx;obtain⟨y,hy,rfl⟩:=XM.mp (hs c hc);exact lB y hy
    rw[Y1] at h3;lia
   have z5:=zc (o:=ST.zfq P w ds ks) hds;have hks:∀c∈ks.map (·.2),c∈l.map toI:=λc hc=>(hmem c).mp hc;have kl:ks.length<=63:=by
    have h1:=zeA hks;have h2:((ks.map (·.2)).map ofI).Nodup:=by
     rw[h1] at hnd;unfold OQ at hnd ⊢;rw[We] at hnd;exact hnd.imp λz e=>z (by rw[e])
    have h3:=Parts.j8 (b:=B) h2 λx hx=>by
     obtain⟨c,hc,rfl⟩:=XM.mp hx;obtain⟨y,hy,rfl⟩:=XM.mp (hks c hc);exact lB y hy
    rw[Y1,Y1] at h3;lia
   have hds5:upd H4 ds (ST.zfq P w ds ks) ds=some (ST.zfq P w ds ks):=zb;have s5:=s4.trans z5;have ha5:=z5 _ _ ha4;have hT5:∀q∈ks,upd H4 ds (ST.zfq P w ds ks) q.1=some (.tup [.int q.2.1,.int q.2.2]):=λq hq=>z5 _ _ (hT q hq);refine⟨ds,ks,rfl,hds5,hT5,hnd,(by lia),λwa us' ps' hwa ht zdL hup=>?_⟩;rw[zeA hks] at zdL;obtain⟨wc,rfl,zgX⟩:=Q5 zdL;have z6:=zc (o:=.lst us') hwa;refine⟨sz_1,λp1 hp1=>?_⟩;have z7:=zc (o:=.lst [V.ref wa]) hp1;have z67:=z6.trans z7;refine⟨ap,p1,_,[.ref wa],rfl,rfl,z67 _ _ ha5,zb,?_,λk2 hk2=>?_⟩
   .have a1:(JM (λg=>!Parts.meets cs g) ws gs).length<=63:=XZ (Vu (Ze _ _ _)) (by rw[hG.length];exact g63);exact XZ (show _+1<=200 by lia) (by decide)
   .have z8:=zc (o:=.lst (JM (λg=>!Parts.meets cs g) ws gs++[.ref wa])) hk2;have s8:=s5.trans (z67.trans z8);refine q2 zff k2 wa _ wc _ ((s5.trans z67).free hk2) (s5.free hwa) zb (Ze _ _ _) ?_ (zpe hup) (λx=>?_) s8
    .exact xA.snoc ((Qs _ hG).mono s8) ⟨wa,us',rfl,z8 _ _ (z7 _ _ zb),Cel.mono (z67.trans z8) (jn ht)⟩
    .rw[zgX.mem_iff,XM];have hx:(∃a,a∈ks.map (·.2)/\ofI a=x)↔x∈l:=by
      constructor
      .rintro⟨c,hc,rfl⟩;obtain⟨y,hy,rfl⟩:=XM.mp (hks c hc);exact hy
      .intro h;exact⟨toI x,(hmem _).mpr (XM.mpr ⟨x,h,rfl⟩),rfl⟩
     rw[hx,<- hl,XQ,Wi];constructor
     .rintro(h | ⟨g,h1,h2⟩)
      .exact .inl h
      .exact .inr ⟨g,(X9.mp h1).1,(X9.mp h1).2,h2⟩
     .rintro(h | ⟨g,h1,h2,h3⟩)
      .exact .inl h
      .exact .inr ⟨g,X9.mpr ⟨h1,h2⟩,h3⟩
def zm7:Sp:=λvs H Q _=>∃(p l:Addr) (rs:AD) (n:Int),vs=[.ref p]/\qF H p l rs n/\Rows bd.cps.toList rs /\
 ∀(d:Addr) (ws:AE) (gs:List AB) (H':Hp),H d=none->H' d=some (.lst ws)->xA H' ws gs->ws.Nodup->(∀v∈ws,∃a,v=V.ref a/\H a=none/\a≠d)->Parts.Good (clA rs) (zK rs) gs->Up2 (heads gs)->zo H H'->Q (.ref d) H'
def zgY {rs:AD}(R:Rows bd.cps.toList rs){x:AA}(h:x∈zx rs):x.1<8/\x.2<8:=by
 obtain⟨t,k,ht,hj,_,_⟩:=zW h;have a:=(X5.mp ht).1;have b:=(X5.mp hj).1;have e:=R.hi;have g:=R.short _ (X6 (jy ht));lia
theorem xA.some {H:Hp}{ws:AE}{gs:List AB}(h:xA H ws gs):∀v∈ws,∃a us,v=V.ref a/\H a=some (.lst us):=by
 intro v hv;obtain⟨_,_,a,us,e,h1,_⟩:=zj6 h hv;exact⟨a,us,e,h1⟩
def zk4 {H:Hp}{ws:AE}{gs:List AB}(h:xA H ws gs):Xl (GS.LstAt H) ws (gs.map (T1 toI)):=by
 induction h with
 | nil=>exact .nil
 | cons r _ ih =>
  obtain⟨a,us,e,h1,h2⟩:=r;exact .cons ⟨a,us,e,h1,h2.tup2⟩ ih
def zk5 {H:Hp}:∀{gs:List AB} {ws:AE},Xl (GS.LstAt H) ws (gs.map (T1 toI))->xA H ws gs:=by
 intro gs;induction gs with
 | nil =>
  intro ws h;cases h;exact .nil
 | cons g r ih =>
  intro ws h;cases h with
  | cons q t =>
   obtain⟨a,us,e,h1,h2⟩:=q;exact .cons ⟨a,us,e,h1,jn h2⟩ (ih t)
def zfE {ks:List (List (Int×Int))}{gs:List AB}(h:ks.Perm (gs.map (T1 toI))):∃ds:List AB,ks=ds.map (T1 toI)/\ds.Perm gs:=by
 have oo:∀g:AB,(g.map toI).map ofI=g:=λg=>by
  rw[Wg];exact(Xa λc _=>zh2 c).trans (Sw g)
 refine⟨ks.map (T1 ofI),?_,?_⟩
 .rw[Wg];refine(Sw ks).symm.trans (Xa λp hp=>?_);obtain⟨c,_,rfl⟩:=XM.mp (h.mem_iff.mp hp);show c.map toI=((c.map toI).map ofI).map toI;rw[oo]
 .have:=h.map (T1 ofI);rw[Wg] at this;have e:gs.map (T1 ofI∘T1 toI)=gs:=(Xa λc _=>oo c).trans (Sw gs);rwa [e] at this
def zk6 {gs:List AB}(h:(gs.map (T1 toI)).Pairwise (λp q=>PySem.SeqAt.ltL q p=false))(ne:∀g∈gs,g ≠ [])(nd:(heads gs).Nodup):Up2 (heads gs):=by
 induction gs with
 | nil=>exact List.Pairwise.nil
 | cons g r ih =>
  rw[Xu,RZ] at h;have nd':toI (g.headD (0,0)) ∉ heads r/\(heads r).Nodup:=WB.mp nd;refine RZ.mpr ⟨λp hp=>?_,ih h.2 (λx hx=>ne x (XR _ hx)) nd'.2⟩;obtain⟨g2,hg2,rfl⟩:=XM.mp hp;have a:=h.1 _ (XM.mpr ⟨g2,hg2,rfl⟩);have hne:toI (g.headD (0,0))≠toI (g2.headD (0,0)):=λe=>nd'.1 (e ▸ hp);have n1:=ne g XU;have n2:=ne g2 (XR _ hg2);cases g with
  | nil=>exact absurd rfl n1
  | cons x xs =>
   cases g2 with
   | nil=>exact absurd rfl n2
   | cons y ys =>
    have hne':toI x≠toI y:=hne;show lt2 (toI x) (toI y)=true;have a':(if toI y=toI x then PySem.SeqAt.ltL (ys.map toI) (xs.map toI) else lt2 (toI y) (toI x))=false:=a;rw[bw (Vr hne')] at a';have:=zbk hne';rw[a'] at this;cases hh:lt2 (toI x) (toI y) with
    | true=>rfl
    | false =>
     rw[hh] at this;cases this
def Q7:zB ["board","found","cell"] ["board"] (zp zbq):=bz rfl rfl rfl rfl (by decide+kernel)
def zk7 {f1 f2 f3 f4 f5 f6:Addr}{fd1 fd2 fd3 fd4 fd5 fd6:XD}(T:Txt mg)(D:zm K mg "parts" zbq ["board"] f fd)(zM:zm K mg "around" jR ["board","cell"] f1 fd1)(zu:zm K mg "sign_at" qN ["board","cell"] f2 fd2)
  (zC:zm K mg "cells_of" qR ["board"] f3 fd3) (zD:zm K mg "open_cells" qZ ["board"] f4 fd4) (zz:zm K mg "closed_around" qJ ["board","cell"] f5 fd5) (Q8:zm K mg "joined" Yh ["groups","cells"] f6 fd6):qa P w K mg base CX0 3 f fd ["board"] zm7:=by
 refine D.F.ok Q7 (λvs H Q E h=>?_) (λcdv A outer s H vs Q E hr h=>?_)
 .obtain⟨p,l,rs,n,rfl,_⟩:=h;rfl
 .obtain⟨p,l,rs,n,rfl,b,R,q⟩:=h;refine⟨_,(@ze _ _ _ _ _ (@qH _ _ 1 _ _ _ _ Q7.nd rfl (Vz rfl) (@zI _ _ _ _ zd) (by rfl) (.inr rfl)) (ze (qI WV rfl (zH (pc0 (jS T zD zC zu) hr zD (za (pvS 0) zd))) (pgq 2 Q7.nd) (zh (jo 1 Q7.nd (pc0 (zjm T Q8) hr Q8 (za (pvS 1) (za (pc0 (jL T zz zM zu) hr zz (za (pvS 0) (za (pvS 2) zd))) zd)))))) (zh (zG (pb1 (GS.Y5 hr.units) T.Jq VY (pvS 1)))))),?_⟩;(try dsimp only[cxK,cxP,cxW]);refine⟨Jy,λk0 hk0=>?_⟩;have s0:zo H (upd H k0 (.lst [])):=zc hk0;have hk00:upd H k0 (.lst []) k0=some (.lst []):=zb;generalize upd H k0 (.lst [])=H0 at *
  refine⟨_,rfl,p,l,rs,n,rfl,b.mono s0,R,λdc wc H1 hdc zqp hcc s1=>⟨dc,rfl,⟨_,SqL.of zqp⟩,?_⟩⟩;have s01:=s0.trans s1;have b1:=b.mono s01;have hcc:Cel H1 wc (zK rs):=hcc;have o64:=zdK R;refine xw (K:=K) (a:=dc) (xs:=wc) (λi σ H'=>∃(k:Addr) (ws:AE) (gs:List AB) (v2:Option V),σ=[some (.ref p),some (.ref k),v2]/\zo H1 H'/\H' k=some (.lst ws)/\xA H' ws gs/\ws.Nodup/\(∀v∈ws,∃a,v=V.ref a/\H a=none)/\Parts.Good (clA rs) ((zK rs).take i) gs)
   ⟨k0,[],[],_,rfl,zo.refl _,s1 _ _ hk00,.nil,Vw,(λv h=>nomatch h),Parts.Good.start _⟩ (λi σ H' _ ⟨_,_,_,_,_,z,_⟩=>SqL.of (z _ _ zqp)) ?_ ?_
  .rintro i x σ H2 hx ⟨k,ws,gs,v2,rfl,s2,hk,hG,wnd,wnew,G⟩;obtain⟨c,hc,ca,rfl,hca⟩:=Cel.get (Cel.mono s2 hcc) hx;have cm:=X6 hc;obtain⟨t,sg,ht,hj,_,es⟩:=zW cm;obtain⟨l1,l2⟩:=j4 R ht hj;have tk:(zK rs).take (i+1)=(zK rs).take i++[c]:=by
    rw[Xc,hc];rfl
   have lshut:(zx rs).length<=63:=by
    have:=Ug cm;lia
   have gB:∀x∈gs.flatten,x∈zx rs:=λx hx=>by
    obtain⟨o,_,h2⟩:=G.from_ x hx;exact Jr h2
   refine⟨_,rfl,_,rfl,_,rfl,p,l,ca,rs,n,c,rfl,(b1.mono s2),R,hca,l1,l2,λd ws1 H3 hd hd3 hc3 s3=>?_⟩;have s03:=s01.trans (s2.trans s3);refine⟨k,d,ws,ws1,gs,clA rs c,zx rs,rfl,s3 _ _ hk,hG.mono s3,hd3,hc3,zaB rs c,G.nd,(λx hx=>Jr hx),gB,(λx hx=>zgY R hx),lshut,XZ (Parts.QZ G.ne) (XZ (Parts.j8 G.nd gB) lshut),(λzff H' s'=>?_),λhne d2 wa va wc2 H' hd2 hwa hd2' hsub hG' zq9 hmem s'=>?_⟩
   .refine⟨k,ws,gs,_,rfl,s2.trans (s3.trans s'),s' _ _ (s3 _ _ hk),(hG.mono s3).mono s',wnd,wnew,?_⟩;rw[tk];exact G.skip zff
   .refine⟨d2,_,_,_,rfl,s2.trans (s3.trans s'),hd2',hG',?_,(λv hv=>?_),?_⟩
    .rw[WW];refine⟨wnd.sublist hsub,by simp,λa ha b hb e=>?_⟩;have hb':b=V.ref wa:=by simpa using hb
     subst e;obtain⟨a',us',e1,e2⟩:=xA.some (hG.mono s3) a (hsub.subset ha);rw[hb'] at e1;injection e1 with e1
     rw[<- e1,hwa] at e2;cases e2
    .rcases XQ.mp hv with hv | hv
     .exact wnew v (hsub.subset hv)
     .have hb':v=V.ref wa:=by simpa using hv
      exact⟨wa,hb',s03.free hwa⟩
    .rw[tk];exact zgV G hne (zaB rs c) zq9 hmem
  .rintro σ H2 ⟨k,ws,gs,v2,rfl,s2,hk,hG,wnd,wnew,G⟩;rw[hcc.length,Xz] at G;have gsh:∀x∈gs.flatten,x∈zx rs:=λx hx=>by
    obtain⟨o,_,h2⟩:=G.from_ x hx;exact Jr h2
   have wl:gs.length<=63:=by
    cases gs with
    | nil=>exact WT _
    | cons g r =>
     have m1:=head_mem (G.ne g XU);obtain⟨o,ho,_⟩:=G.from_ _ (Wi.mpr ⟨g,XU,m1⟩);have:=Ug ho;have h3:=XZ (Parts.QZ G.ne) (Parts.j8 (b:=zx rs) G.nd gsh);lia
   refine⟨_,rfl,k,ws,_,rfl,SqL.of hk,zk4 hG,(by rw[hG.length];lia),λd us' ks' hd hl zdL zqq pw=>?_⟩;have s3:=zc (o:=.lst us') hd;obtain⟨ds,rfl,pg⟩:=zfE zdL;have G':=G.perm pg;refine q d us' ds _ ((s01.trans s2).free hd) zb ((zk5 hl).mono s3) (pw.nodup_iff.mpr wnd) (λv hv=>?_) G' (zk6 zqq G'.ne (zaR G'.ne G'.nd)) ((s01.trans s2).trans s3);have hv':=pw.mem_iff.mp hv;obtain⟨a,e1,e2⟩:=wnew v hv';obtain⟨a',us',e3,e4⟩:=xA.some hG v hv';refine⟨a,e1,e2,λz=>?_⟩;rw[e1] at e3;injection e3 with e3
   rw[<- e3,z,hd] at e4;cases e4
def PR (H:Hp)(v:V)(p:Int×Int):Prop:=∃a,v=V.ref a/\H a=some (.tup [.int p.1,.int p.2])
def PR.mono {H H':Hp}(s:zo H H'){v:V}{p:Int×Int}(h:PR H v p):PR H' v p:=let ⟨a,e,h⟩:=h;⟨a,e,s _ _ h⟩
def zaC {H H':Hp}(s:zo H H'){us:AE}{ps:List (Int×Int)}(hp:yw H us ps):yw H' us ps:=by
 induction hp with
 | nil=>exact .nil
 | cons h _ ih =>
  exact .cons (PR.mono s h) ih
def zfF {H:Hp}{us:AE}{ps:List (Int×Int)}(h:yw H us ps):us.length=ps.length:=Paired.length h
def zcg {H:Hp}{a z:Addr}{o o':HO}(h:H a=some o)(hz:H z=some o')(hne:o≠o'):a≠z:=λe=>by
 subst e;rw[h] at hz;exact hne (Option.some.inj hz)
def zm8 {H:Hp}{z:Addr}{ys ys':AE}(hz:H z=some (.lst ys)){v:V}{p:Int×Int}(h:PR H v p):PR (upd H z (.lst ys')) v p:=by
 obtain⟨a,e,h⟩:=h;refine⟨a,e,?_⟩;rw[zf (zcg h hz (λz=>nomatch z))];exact h
def zaD {H:Hp}{z:Addr}{ys ys':AE}(hz:H z=some (.lst ys)){us:AE}{ps:List (Int×Int)}(hp:yw H us ps):yw (upd H z (.lst ys')) us ps:=by
 induction hp with
 | nil=>exact .nil
 | cons h _ ih =>
  exact .cons (zm8 hz h) ih
def jT (N:Addr->Prop)(H:Hp):AE->List (List (Int×Int))->Prop:=Xl λv k=>∃a ws,v=V.ref a/\N a/\H a=some (.lst ws)/\yw H ws k
def jF {N:Addr->Prop}{H H':Hp}(s:zo H H'){us:AE}{ks:List (List (Int×Int))}(hp:jT N H us ks):jT N H' us ks:=by
 induction hp with
 | nil=>exact .nil
 | cons q _ ih =>
  obtain⟨a,ws,e,n,h,t⟩:=q;exact .cons ⟨a,ws,e,n,s _ _ h,zaC s t⟩ ih
def zch {N M:Addr->Prop}{H:Hp}(w:∀a,N a->M a){us:AE}{ks:List (List (Int×Int))}(hp:jT N H us ks):jT M H us ks:=by
 induction hp with
 | nil=>exact .nil
 | cons q _ ih =>
  obtain⟨a,ws,e,n,h,t⟩:=q;exact .cons ⟨a,ws,e,w a n,h,t⟩ ih
def zci {N:Addr->Prop}{H:Hp}{z:Addr}{ys ys':AE}(hz:H z=some (.lst ys))(w:∀a,N a->a≠z){us:AE}{ks:List (List (Int×Int))}(hp:jT N H us ks):jT N (upd H z (.lst ys')) us ks:=by
 induction hp with
 | nil=>exact .nil
 | cons q _ ih =>
  obtain⟨a,ws,e,n,h,t⟩:=q;exact .cons ⟨a,ws,e,n,by rw[zf (w a n)];exact h,zaD hz t⟩ ih
def zaE {N:Addr->Prop}{H:Hp}{us:AE}{ks:List (List (Int×Int))}{us':AE}{ks':List (List (Int×Int))}(h:jT N H us ks)(k:jT N H us' ks'):jT N H (us++us') (ks++ks'):=zbI h k
def yd {N:Addr->Prop}{H:Hp}{us:AE}{ks:List (List (Int×Int))}(h:jT N H us ks):us.length=ks.length:=Paired.length h
def zcj {N:Addr->Prop}{H:Hp}{us:AE}{ks:List (List (Int×Int))}{i:Nat}{v:V}(h:jT N H us ks)(e:us[i]?=some v):∃k a ws,ks[i]?=some k/\v=V.ref a/\N a/\H a=some (.lst ws)/\yw H ws k:=by
 obtain⟨k,h1,a,ws,h2⟩:=YY h e;exact⟨k,a,ws,h1,h2⟩
def zjn {N:Addr->Prop}{H:Hp}{us:AE}{ks:List (List (Int×Int))}(hp:jT N H us ks):Xl (GS.LstAt H) us ks:=by
 induction hp with
 | nil=>exact .nil
 | cons q _ ih =>
  obtain⟨a,ws,e,_,h,t⟩:=q;exact .cons ⟨a,ws,e,h,t⟩ ih
def zk8 {N:Addr->Prop}{H:Hp}{us:AE}{ks:List (List (Int×Int))}(hp:Xl (GS.LstAt H) us ks)(n:∀v∈us,∃a,v=V.ref a/\N a):jT N H us ks:=by
 induction hp with
 | nil=>exact .nil
 | cons q _ ih =>
  obtain⟨a,ws,e,h,t⟩:=q;obtain⟨b,e2,n2⟩:=n _ XU;subst e;cases e2;exact .cons ⟨_,ws,rfl,n2,h,t⟩ (ih λv hv=>n v (XR _ hv))
def YL {N:Addr->Prop}{H:Hp}{us:AE}{ks:List (List (Int×Int))}{v:V}(h:jT N H us ks)(e:v∈us):∃a ws,v=V.ref a/\N a/\H a=some (.lst ws):=by
 obtain⟨k,_,a,ws,h1,h2,h3,_⟩:=zj6 h e;exact⟨a,ws,h1,h2,h3⟩
def zk9 {H:Hp}{us:AE}{ps:List (Int×Int)}{us':AE}{ps':List (Int×Int)}(h:yw H us ps)(k:yw H us' ps'):yw H (us++us') (ps++ps'):=zbI h k
def nearF (rs:AD)(c x:AA):Bool:=(zF rs c).any λz=>decide (z=x)
def jq (rs:AD)(c:AA):Int:=((Cells.sgn (codes rs) c:Nat):Int)-48
def zjo (rs:AD)(c:AA):(zF rs c).Nodup:=(qi (Cells.qW _ 0 (codes rs))).sublist XA
def zla {rs:AD}{o:AA}{q:AB}(hq:q.Nodup):((zF rs o).filter λx=>q.any λz=>decide (z=x)).length=Grow.cnt (nearF rs) o q:=by
 unfold Grow.cnt;refine U7 ((W6 ((zjo rs o).sublist XA) (hq.sublist XA)).mpr λx=>?_);rw[X9,X9];unfold nearF;rw[WF,WF];constructor
 .rintro⟨h1,y,hy,e⟩;have e2:y=x:=bh e;subst e2;exact⟨hy,y,h1,bu rfl⟩
 .rintro⟨h1,y,hy,e⟩;have e2:y=x:=bh e;subst e2;exact⟨hy,y,h1,bu rfl⟩
def zfG (H:Hp)(rs:AD)(v:V)(o:AA):Prop:=∃a na wn,v=V.ref a/\H a=some (.tup [.int (jq rs o),.ref na])/\H na=some (.lst wn)/\Cel H wn (zF rs o)
def zfH (H:Hp)(rs:AD)(rest:AB)(v:V)(o:AA):Prop:=∃a na wn,v=V.ref a/\H a=some (.tup [.int (jq rs o-((Grow.cnt (nearF rs) o rest:Nat):Int)),.int (jq rs o),.ref na])/\H na=some (.lst wn)/\Cel H wn (zF rs o)
def zjp {H H':Hp}(s:zo H H'){rs:AD}{vs:AE}{cs:AB}(hp:Xl (zfG H rs) vs cs):Xl (zfG H' rs) vs cs:=by
 induction hp with
 | nil=>exact .nil
 | cons q _ ih =>
  obtain⟨a,na,wn,e,h1,h3,h4⟩:=q;exact .cons ⟨a,na,wn,e,s _ _ h1,s _ _ h3,h4.mono s⟩ ih
def zaF {H H':Hp}(s:zo H H'){rs:AD}{rest:AB}{vs:AE}{cs:AB}(hp:Xl (zfH H rs rest) vs cs):Xl (zfH H' rs rest) vs cs:=by
 induction hp with
 | nil=>exact .nil
 | cons q _ ih =>
  obtain⟨a,na,wn,e,h1,h3,h4⟩:=q;exact .cons ⟨a,na,wn,e,s _ _ h1,s _ _ h3,h4.mono s⟩ ih
def J6 {α β:Type}{R:α->β->Prop}{vs:List α}{cs:List β}{i:Nat}{v:α}(h:Xl R vs cs)(e:vs[i]?=some v):∃c,cs[i]?=some c/\R v c:=YY h e
def zgZ {α β:Type}{R:α->β->Prop}{us:List α}{cs:List β}{us':List α}{cs':List β}(h:Xl R us cs)(k:Xl R us' cs'):Xl R (us++us') (cs++cs'):=zbI h k
def zdM (H H':Hp)(rs:AD)(rest:AB)(v:V)(o:AA):Prop:=∃a na wn,v=V.ref a/\H' a=some (.tup [.int (jq rs o-((Grow.cnt (nearF rs) o rest:Nat):Int)),.int (jq rs o),.ref na])/\H na=some (.lst wn)/\Cel H wn (zF rs o)
def zg0 {H H1 H2:Hp}(s:zo H1 H2){rs:AD}{rest:AB}{vs:AE}{cs:AB}(hp:Xl (zdM H H1 rs rest) vs cs):Xl (zdM H H2 rs rest) vs cs:=by
 induction hp with
 | nil=>exact .nil
 | cons q _ ih =>
  obtain⟨a,na,wn,e,h1,h3,h4⟩:=q;exact .cons ⟨a,na,wn,e,s _ _ h1,h3,h4⟩ ih
theorem zck {H H1:Hp}{z:Addr}{ys ys':AE}(hz:H1 z=some (.lst ys)){rs:AD}{rest:AB}:∀{vs:AE} {cs:AB},Xl (zdM H H1 rs rest) vs cs->Xl (zdM H (upd H1 z (.lst ys')) rs rest) vs cs
 | _,_,.nil=>.nil
 | _,_,.cons ⟨a,na,wn,e,h1,h3,h4⟩ t=>.cons ⟨a,na,wn,e,by
   have ne:a≠z:=λe=>by
    subst e;rw[h1] at hz;cases hz
   rw[zf ne];exact h1,h3,h4⟩ (zck hz t)
def zg1 {H H1:Hp}(s:zo H H1){rs:AD}{rest:AB}{vs:AE}{cs:AB}(hp:Xl (zdM H H1 rs rest) vs cs):Xl (zfH H1 rs rest) vs cs:=by
 induction hp with
 | nil=>exact .nil
 | cons q _ ih =>
  obtain⟨a,na,wn,e,h1,h3,h4⟩:=q;exact .cons ⟨a,na,wn,e,h1,s _ _ h3,h4.mono s⟩ ih
def zm9:Sp:=λvs H Q _=>∃(ta ca ra:Addr) (ut ur:AE) (rs:AD) (O rest:AB) (c:AA),vs=[.ref ta,.ref ca,.ref ra]/\H ta=some (.lst ut)/\Xl (zfG H rs) ut O/\O.length<=64/\Rows bd.cps.toList rs/\H ca=some (.tup [.int (c.1:Nat),.int (c.2:Nat)])/\H ra=some (.lst ur)/\Cel H ur rest/\rest.Nodup /\
 ∀(d:Addr) (uw:AE) (H':Hp),H' d=some (.lst uw)->Xl (zfH H' rs rest) uw (O.filter λo=>nearF rs o c)->zo H H'->Q (.ref d) H'
def zqr:Sp:=λvs H Q _=>∃(na pa:Addr) (un up:AE) (rs:AD) (rest O q:AB),vs=[.ref na,.ref pa]/\H na=some (.lst un)/\Xl (zfH H rs rest) un O/\H pa=some (.lst up)/\Cel H up q/\q.length<=64 /\
 ∀H':Hp,zo H H'->Q (.bl (O.all λo=>Grow.zb3 (nearF rs) (jq rs) rest o q)) H'
def xB:zB ["told","cell","rest","needs","number","near","left"] ["told","cell","rest"] (zp ZC):=bz rfl rfl rfl rfl (by decide+kernel)
def zfI (T:Txt mg)(D:zm K mg "needs_at" ZC ["told","cell","rest"] f fd):qa P w K mg base CX0 1 f fd ["told","cell","rest"] zm9:=by
 refine D.F.ok xB (λvs H Q E h=>?_) (λcdv A outer s H vs Q E hr h=>?_)
 .obtain⟨ta,ca,ra,ut,ur,rs,O,rest,c,rfl,_⟩:=h;rfl
 .obtain⟨ta,ca,ra,ut,ur,rs,O,rest,c,rfl,hta,hT,ol,R,hca,hra,hcr,rnd,q⟩:=h;refine⟨_,(@ze _ _ _ _ _ (@qH _ _ 3 _ _ _ _ xB.nd rfl (Vz rfl) (@zI _ _ _ _ zd) (by rfl) (.inr rfl)) (ze (qI WV rfl (zH (pvS 0)) (Je rfl (zP (pgq 4 xB.nd) (zP (pgq 5 xB.nd) jX))) (zh (je (zV (zbE hr.units) (pvS 1) (pvS 5) (by rfl)) (ze (jo 6 xB.nd (pb1 zO T.jk W2 (pcm ["place","rest"] [none,some 2] cR (zH (pvS 5)) (pgN 0) (qq (zV (jC (K:=K) (by rfl) hr.units) (pvS 0) (pvS 1) (by rfl))) (pvS 0)))) (zh (jW (JW WE V0 VZ Jm (pvS 3) (za (qp (za (zL YB (pvS 4) (pvS 6)) (za (pvS 4) (za (pvS 5) zd)))) zd))))) qf))) (zh (zG (pvS 3))))),?_⟩;(try dsimp only[cxK,cxP,cxW]);refine⟨Jy,λd hd=>?_⟩;have s0:=zc (o:=.lst []) hd;refine⟨_,rfl,ta,rfl,⟨_,SqL.of (s0 _ _ hta)⟩,?_⟩;refine xw (K:=K) (a:=ta) (xs:=ut) (λi σ H'=>∃(uw:AE) (v4 v5 v6:Option V),σ=[some (.ref ta),some (.ref ca),some (.ref ra),some (.ref d),v4,v5,v6]/\zo H H'/\H' d=some (.lst uw)/\Xl (zdM H H' rs rest) uw ((O.take i).filter λo=>nearF rs o c))
   ⟨[],_,_,_,rfl,s0,zb,.nil⟩ (λi σ H' _ ⟨_,_,_,_,_,z,_⟩=>SqL.of (z _ _ hta)) ?_ ?_
  .rintro i x σ H1 hx ⟨uw,v4,v5,v6,rfl,s1,hd1,hN⟩;obtain⟨o,ho,a,na,wn,rfl,ha0,hna0,hcn0⟩:=J6 hT hx;have ha:=s1 _ _ ha0;have hna:=s1 _ _ hna0;have hcn:=hcn0.mono s1;have tk:O.take (i+1)=O.take i++[o]:=by
    rw[Xc,ho];rfl
   refine⟨a,_,rfl,SqT.of ha,rfl,_,_,rfl,_,_,rfl,rfl,?_⟩;refine⟨_,rfl,_,rfl,zk c,(zF rs o).map zk,yg.rdv ⟨ca,rfl,s1 _ _ hca⟩,.lst (SqL.of hna) (zk2 hcn),rfl,YV _,(by show 1<=60;decide),_,rfl,?_⟩;have ei:(if false=true then !((zF rs o).map zk).any (λz=>WL z (zk c)) else ((zF rs o).map zk).any λz=>WL z (zk c))=nearF rs o c:=xy _ _;rw[ei,tk,WX];by_cases hp:nearF rs o c=true
   .have ef:[o].filter (λo=>nearF rs o c)=[o]:=by
     rw[Wr,br hp];rfl
    rw[ef];refine ju hp ⟨_,rfl,na,rfl,⟨_,SqL.of hna⟩,λz hz=>?_⟩;refine z9 (K:=K) (a:=na) (xs:=wn) (λa=>a≠z) ((zF rs o).map λx=>if (rest.any λz=>decide (z=x))=true then some (zk x) else none) (fun σ=>∃u0,σ=[u0,some (.ref ra)]) hz (λ_ h=>h) ⟨_,rfl⟩ (by rw[Y1];exact hcn.length.symm) (by rw[hcn.length];exact XZ (JS R o) (by decide)) (SqL.of hna) ?_ ?_
    .rintro m v u σ H2 hv hu s2 _ ⟨u1,rfl⟩ Y Z yes no;obtain⟨e,he,rc⟩:=Cel.get (hcn.mono s2) hv;have eo:=jg he hu;refine⟨_,rfl,_,rfl,zk e,rest.map zk,rc.rdv,.lst (SqL.of (s2 _ _ (s1 _ _ hra))) (zk2 ((hcr.mono s1).mono s2)),rfl,YV _,(by show 1<=60;decide),_,rfl,?_⟩;have ei:(if false=true then !(rest.map zk).any (λz=>WL z (zk e)) else (rest.map zk).any λz=>WL z (zk e))=rest.any λz=>decide (z=e):=xy _ _;rw[ei];by_cases hp:(rest.any λz=>decide (z=e))=true
     .rw[br hp] at eo;exact ju hp ⟨_,rfl,yes _ _ _ _ eo ⟨_,rfl⟩ (zo.refl _) rc.rdn⟩
     .rw[bw hp] at eo;exact jd (XC.mpr hp) (no _ _ eo ⟨_,rfl⟩ (zo.refl _))
    rintro ys H2 s2 hz2 hr2;have er:((zF rs o).map λx=>if (rest.any λz=>decide (z=x))=true then some (zk x) else none).filterMap id=((zF rs o).filter λx=>rest.any λz=>decide (z=x)).map zk:=zR _ _ _;rw[er] at hr2;have yl:ys.length=Grow.cnt (nearF rs) o rest:=(zq.cel hr2).length.trans (zla rnd);have hd2:=s2 _ _ hd1;refine⟨z,ys,rfl,.inl (SqL.of hz2),?_⟩;rw[yl];refine⟨_,rfl,.inl ⟨rfl,_,SqL.of hd2⟩,_,rfl,_,rfl,_,_,rfl,rfl,_,rfl,_,rfl,zet,λtt htt=>?_⟩;have z3:=zc (o:=.tup [.int (jq rs o-((Grow.cnt (nearF rs) o rest:Nat):Int)),.int (jq rs o),.ref na]) htt;have s23:=s2.trans z3;have uwl:uw.length<=64:=by
     rw[Paired.length hN];refine XZ (Xg _ _) ?_;rw[XF];lia
    have hd3:=z3 _ _ hd2;refine⟨d,uw,_,rfl,rfl,hd3,Xw uwl (by decide),uw++[.ref tt],_,_,_,rfl,λb e' h'=>?_,zb,zgZ (zck hd3 (zg0 s23 hN)) (.cons ⟨tt,na,wn,rfl,?_,hna0,hcn0⟩ .nil)⟩
    .rw[zf (zg h' hd)];exact s23 _ _ (s1 _ _ h')
    .have ne:tt≠d:=λe=>by
      subst e;rw[hd2] at htt;cases htt
     rw[zf ne,zb]
   .have ef:[o].filter (λo=>nearF rs o c)=[]:=by
     rw[Wr,bw hp];rfl
    rw[ef,Xd];exact jd (XC.mpr hp) ⟨uw,_,_,_,rfl,s1,hd1,hN⟩
  .rintro σ H1 ⟨uw,v4,v5,v6,rfl,s1,hd1,hN⟩;rw[Paired.length hT,Xz] at hN;exact⟨_,rfl,q d uw H1 hd1 (zg1 s1 hN) s1⟩
def ZH:zB ["needs","pick","least","most","near"] ["needs","pick"] (zp YF):=bz rfl rfl rfl rfl (by decide+kernel)
def zg2 (T:Txt mg)(D:zm K mg "may_fit" YF ["needs","pick"] f fd):qa P w K mg base CX0 1 f fd ["needs","pick"] zqr:=by
 refine D.F.ok ZH (λvs H Q E h=>?_) (λcdv A outer s H vs Q E hr h=>?_)
 .obtain⟨na,pa,un,up,rs,rest,O,p,rfl,_⟩:=h;rfl
 .obtain⟨na,pa,un,up,rs,rest,O,p,rfl,hna,hN,hpa,hcp,pl,q⟩:=h;refine⟨_,(ze (qI WV rfl (zH (pvS 0)) (Je rfl (zP (pgq 2 ZH.nd) (zP (pgq 3 ZH.nd) (zP (pgq 4 ZH.nd) jX)))) (zh (je (zgh (zeT zer zer (pvS 2) (pb1 zO T.jk W2 (pcm ["cell","near"] [none,some 4] cR (zH (pvS 1)) (pgN 0) (qq (zV (jC (K:=K) (by rfl) hr.units) (pvS 0) (pvS 1) (by rfl))) (pvS 0))) (pvS 3))) (@zh _ _ _ (@zG _ _ _ _ zeQ)) qf))) (@zh _ _ _ (@zG _ _ _ _ zeQ))),?_⟩;(try dsimp only[cxK,cxP,cxW]);refine⟨_,rfl,na,rfl,⟨_,SqL.of hna⟩,?_⟩;refine xw (K:=K) (a:=na) (xs:=un) (λi σ H'=>∃(v2 v3 v4:Option V),σ=[some (.ref na),some (.ref pa),v2,v3,v4]/\zo H H'/\∀o∈O.take i,Grow.zb3 (nearF rs) (jq rs) rest o p=true)
   ⟨_,_,_,rfl,zo.refl _,λo ho=>by simp at ho⟩ (λi σ H' _ ⟨_,_,_,_,z,_⟩=>SqL.of (z _ _ hna)) ?_ ?_
  .rintro i x σ H1 hx ⟨v2,v3,v4,rfl,s1,hall⟩;obtain⟨o,ho,a,ra,wn,rfl,ha,hra,hcn⟩:=J6 (zaF s1 hN) hx;refine⟨a,_,rfl,SqT.of ha,rfl,_,_,rfl,_,_,rfl,_,_,rfl,rfl,?_⟩;refine⟨_,rfl,_,rfl,pa,rfl,⟨_,SqL.of (s1 _ _ hpa)⟩,λz hz=>?_⟩;refine z9 (K:=K) (a:=pa) (xs:=up) (λa=>a≠z) (p.map λx=>if nearF rs o x=true then some (zk x) else none) (fun σ=>∃u0,σ=[u0,some (.ref ra)]) hz (λ_ h=>h) ⟨_,rfl⟩ (by rw[Y1];exact hcp.length.symm) (by rw[hcp.length];exact XZ pl (by decide)) (SqL.of (s1 _ _ hpa)) ?_ ?_
   .rintro m v u σ H2 hv hu s2 _ ⟨u1,rfl⟩ Y Z yes no;obtain⟨e,he,rc⟩:=Cel.get ((hcp.mono s1).mono s2) hv;have eo:=jg he hu;refine⟨_,rfl,_,rfl,zk e,(zF rs o).map zk,rc.rdv,.lst (SqL.of (s2 _ _ hra)) (zk2 (hcn.mono s2)),rfl,YV _,(by show 1<=60;decide),_,rfl,?_⟩;have ei:(if false=true then !((zF rs o).map zk).any (λz=>WL z (zk e)) else ((zF rs o).map zk).any λz=>WL z (zk e))=nearF rs o e:=xy _ _;rw[ei];by_cases hp:nearF rs o e=true
    .rw[br hp] at eo;exact ju hp ⟨_,rfl,yes _ _ _ _ eo ⟨_,rfl⟩ (zo.refl _) rc.rdn⟩
    .rw[bw hp] at eo;exact jd (XC.mpr hp) (no _ _ eo ⟨_,rfl⟩ (zo.refl _))
   rintro ys H2 s2 hz2 hr2;have er:(p.map λx=>if nearF rs o x=true then some (zk x) else none).filterMap id=(p.filter (nearF rs o)).map zk:=zR _ _ _;rw[er] at hr2;have yl:ys.length=Grow.cnt (nearF rs) o p:=(zq.cel hr2).length;refine⟨z,ys,rfl,.inl (SqL.of hz2),?_⟩;rw[yl];have om:=X6 ho;have tk:O.take (i+1)=O.take i++[o]:=by
    rw[Xc,ho];rfl
   have bad:Grow.zb3 (nearF rs) (jq rs) rest o p=false->Q (.bl false) H2:=λe=>by
    have e2:(O.all λo=>Grow.zb3 (nearF rs) (jq rs) rest o p)=false:=XC.mpr λz=>by
     have:=WG.mp z o om;rw[e] at this;cases this
    rw[e2] at q;exact q _ (s1.trans s2)
   refine⟨_,_,rfl,rfl,_,rfl,?_⟩;by_cases h1:jq rs o-((Grow.cnt (nearF rs) o rest:Nat):Int)<=((Grow.cnt (nearF rs) o p:Nat):Int)
   .rw[bu h1];refine za6 ⟨_,rfl,_,_,rfl,rfl,_,rfl,?_⟩;by_cases h2:((Grow.cnt (nearF rs) o p:Nat):Int)<=jq rs o
    .rw[bu h2];refine zcP ⟨_,_,_,rfl,s1.trans s2,λo' ho'=>?_⟩;rw[tk] at ho';rcases XQ.mp ho' with ho' | ho'
     .exact hall o' ho'
     .have e:o'=o:=by simpa using ho'
      rw[e];exact Grow.j3.mpr ⟨h1,h2⟩
    .rw[bg h2];exact za6 (bad (XC.mpr λz=>h2 (Grow.j3.mp z).2))
   .rw[bg h1];refine zcP ⟨_,rfl,?_⟩;exact za6 (bad (XC.mpr λz=>h1 (Grow.j3.mp z).1))
  .rintro σ H1 ⟨v2,v3,v4,rfl,s1,hall⟩;rw[Paired.length hN,Xz] at hall;have e:(O.all λo=>Grow.zb3 (nearF rs) (jq rs) rest o p)=true:=WG.mpr hall;rw[e] at q;exact q H1 s1
def toL (q:AB):List (Int×Int):=q.map toI
def zra (CG:Addr):Sp:=λvs H Q E=>∃(a l pa:Addr) (rs:AD) (n:Int) (ups:AE) (part:AB),vs=[.ref a,.ref pa]/\qF H a l rs n/\Rows bd.cps.toList rs/\H pa=some (.lst ups)/\Cel H ups part/\part.Nodup/\part.length<=64/\(14<part.length->∀H',zo H H'->E (.ref CG) none H')/\(part.length<=14 ->
 ∀(d:Addr) (ws:AE) (ks:List (List (Int×Int))) (H':Hp),H d=none->H' d=some (.lst ws)->jT (λa=>H a=none/\a≠d) H' ws ks->ws.Nodup->ks.Perm (((Subs.subs part).filter (Grow.fits (nearF rs) (jq rs) (Js rs part) part)).map toL)->ks.Pairwise (λp q=>PySem.SeqAt.ltL q p=false)->zo H H'->Q (.ref d) H')
def jr (rs:AD)(part:AB):Nat->List AB
 | 0=>[[]]
 | i+1=>match part[i]? with
  | some c=>(Subs.step (jr rs part i) c).filter (Grow.chk (nearF rs) (jq rs) (Js rs part) c (part.drop (i+1)))
  | none=>jr rs part i
def zcl {rs:AD}{part:AB}{i:Nat}{c:AA}(h:part[i]?=some c):jr rs part (i+1)=(Subs.step (jr rs part i) c).filter (Grow.chk (nearF rs) (jq rs) (Js rs part) c (part.drop (i+1))):=by
 show (match part[i]? with | some c=>_ | none=>_)=_;rw[h]
theorem zcm {rs:AD}{part:AB}:∀(k i:Nat),part.length-i=k->i<=part.length->Grow.grow (nearF rs) (jq rs) (Js rs part) (jr rs part i) (part.drop i)=jr rs part part.length
 | 0,i,h,hi=>by
  have e:i=part.length:=by lia
  subst e;rw[List.drop_length];rfl
 | k+1,i,h,hi=>by
  have hl:i<part.length:=by lia
  rw[WP hl];show Grow.grow _ _ _ ((Subs.step (jr rs part i) part[i]).filter _) (part.drop (i+1))=_;rw[<- zcl (XX hl)];exact zcm k (i+1) (by lia) (by lia)
def zdN (rs:AD)(part:AB):jr rs part part.length=(Subs.subs part).filter (Grow.fits (nearF rs) (jq rs) (Js rs part) part):=by
 rw[<- Grow.zmR];exact(zcm (rs:=rs) (part:=part) part.length 0 (by lia) (WT _)).symm
theorem YM (rs:AD)(part:AB):∀i,(jr rs part i).length<=2^i
 | 0=>XV _
 | i+1=>by
  have ih:=YM rs part i;show (match part[i]? with | some c=>_ | none=>_:List AB).length<=_;rw[Ui];split
  .refine XZ (Xg _ _) ?_;unfold Subs.step;rw[X0,Y1];lia
  .lia
theorem zcn (rs:AD)(part:AB):∀i,∀q∈jr rs part i,q.length<=i
 | 0,q,h=>by
  have e:q=[]:=by simpa[jr] using h
  rw[e];exact XV _
 | i+1,q,h=>by
  have ih:=zcn rs part i;cases e:part[i]? with
  | none =>
   have e2:jr rs part (i+1)=jr rs part i:=by
    show (match part[i]? with | some c=>_ | none=>_)=_;rw[e]
   rw[e2] at h;exact T6 (ih q h)
  | some c =>
   rw[zcl e] at h;have h:=(X9.mp h).1;rcases XQ.mp h with h | h
   .exact T6 (ih q h)
   .obtain⟨p,hp,rfl⟩:=XM.mp h;rw[X0];exact Nat.succ_le_succ (ih p hp)
def tD2 (rs:AD)(c:AA):V7:=.tuple [.int (jq rs c),.list ((zF rs c).map zk)]
def zlb {N:Addr->Prop}{H:Hp}{rs:AD}{v:V}{c:AA}(h:Rdn N H v (tD2 rs c)):zfG H rs v c:=by
 unfold tD2 at h;generalize ed:(zF rs c).map zk=ds at h;cases h with
 | tup h t =>
  cases t with
  | cons b t =>
   cases b;cases t with
   | cons d t =>
    cases t;cases d with
    | lst n h1 h2 =>
     subst ed;exact⟨_,_,_,rfl,h,h1,zq.cel h2⟩
theorem zdO {N:Addr->Prop}{H:Hp}{rs:AD}:∀{cs:AB} {vs:AE},zq N H vs (cs.map (tD2 rs))->Xl (zfG H rs) vs cs
 | [],_,.nil=>.nil
 | _::_,_,.cons h t=>.cons (zlb h) (zdO t)
def ZI {σ:St}{H:Hp}{A B:Hp->Prop}(h:A H):zj0 σ H λb H4=>if b=true then A H4 else B H4:=by
 show if true=true then A H else B H
 rw[br rfl];exact h
def zlc {F:List AB}{j:Nat}{k:List (Int×Int)}(h:(F.map toL)[j]?=some k):∃q,F[j]?=some q/\k=toL q:=by
 rw[Xo] at h;cases e:F[j]? with
 | none=>rw[e] at h;cases h
 | some q =>
  rw[e] at h;cases h;exact⟨q,rfl,rfl⟩
def zld (xs:AE)(i:Nat)(hi:i<xs.length):ziE xs (some (((i:Nat):Int)+1)) none=xs.drop (i+1):=by
 have e:HT.sIx xs.length 0 (some (((i:Nat):Int)+1))=i+1:=by
  have:=HT.zmc xs.length 0 (i+1);rw[PM] at this;rw[show (((i:Nat):Int)+1)=((i:Nat):Int)+((1:Nat):Int) from rfl,this];lia
 unfold ziE;rw[e];show (xs.drop (i+1)).take (xs.length-(i+1))=_;rw[Wm (by rw[U2];lia)]
theorem zfJ {H:Hp}:∀{us:AE} {cs:AB} (i:Nat),Cel H us cs->Cel H (us.drop i) (cs.drop i)
 | _,_,0,h=>h
 | _,_,i+1,.nil=>.nil
 | _,_,i+1,.cons _ t=>zfJ i t
def qx:zB ["board","part","told","found","place","cell","needs","grown"] ["board","part"] (zp yq):=bz rfl rfl rfl rfl (by decide+kernel)
def za9 {jaj:Addr}(T:Txt mg)(Z:Prog K mg)(jat:ql K mg "TooGreat" jaj){f:Addr}{fd:XD}(D:zm K mg "part_layings" yq ["board","part"] f fd):qa P w K mg base (CXE P w) 4 f fd ["board","part"] (zra jaj):=by
 obtain⟨Q9,YN,zM⟩:=Z.around;obtain⟨YO,ZJ,zu⟩:=Z.sign_at;obtain⟨ZK,JN,zC⟩:=Z.cells_of;obtain⟨ZL,JT,zD⟩:=Z.open_cells;obtain⟨Yj,ZM,qo⟩:=Z.number_at;obtain⟨zeB,zc1,ZN⟩:=Z.numbers_of;obtain⟨zg3,zfK,Qt⟩:=Z.needs_at;obtain⟨zjq,zg4,zaG⟩:=Z.may_fit;refine D.F.okX qx (λvs H Q E h=>?_) (λcdv A outer s H vs Q E hr h=>?_)
 .obtain⟨a,l,pa,rs,n,ups,part,rfl,_⟩:=h;rfl
 .obtain⟨a,l,pa,rs,n,ups,part,rfl,b,R,hpa,hcp,pnd,p64,qg,q⟩:=h;have ul:=hcp.length;refine⟨_,(ze (je (zV zes (pb1 zO T.jk W2 (pvS 1)) (yU (v:=.int 14) (by rfl) T.zca.choose_spec (by exact⟨_,rfl⟩)) (zY _)) (zh (QK qy jat (by rfl) rfl (@za _ _ _ _ _ zZ zd rfl))) qf) (ze (psC 2 qx.nd ["cell","board"] [none,some 0] cR (zH (pc0 (zc0 T ZN zM zu zC zD) hr ZN (za (pvS 0) (za (pvS 1) zd)))) (pgN 0) qc (qp (za (pc0 (ZG T qo zu) hr qo (za (pvS 1) (za (pvS 0) zd))) (za (pc0 (YJ T zM) hr zM (za (pvS 1) (za (pvS 0) zd))) zd)))) (@ze _ _ _ _ _ (@qH _ _ 3 _ _ _ _ qx.nd rfl (Vz rfl) (@zI _ _ _ _ (@za _ _ _ _ _ (@zI _ _ _ _ zd) zd rfl)) (by rfl) (.inr rfl)) (ze (qI (jB.own qy) rfl (JY (by rfl) T.jE (za (pvS 1) zd)) (Je rfl (zP (pgq 4 qx.nd) (zP (pgq 5 qx.nd) jX))) (ze (jo 6 qx.nd (pc0 (zfI T Qt) hr Qt (za (pvS 2) (za (pvS 5) (za (zjT zmh (pvS 1) (zmf (zL jZ (pvS 4) zj)) zme) zd))))) (ze (jo 7 qx.nd (zL Zo (pvS 3) (pcm ["pick","cell"] [none,some 5] cR (zH (pvS 3)) (pgN 0) qc (zL Zo (pvS 0) (zI (za (pvS 1) zd)))))) (zh (psC 3 qx.nd ["pick","needs"] [none,some 6] cR (zH (pvS 7)) (pgN 0) (qq (JX (K:=K) (by rfl) (pc0 (zg2 T zaG) hr zaG (za (pvS 1) (za (pvS 0) zd))) (λ_=>rfl))) (pvS 0)))))) (zh (zG (pb1 (GS.Y5 hr.units) T.Jq VY (pvS 3)))))))),?_⟩;(try dsimp only[cxK,cxP,cxW]);refine⟨_,rfl,pa,ups,rfl,.inl (SqL.of hpa),_,_,rfl,rfl,_,rfl,?_⟩;by_cases h14:14<part.length
  .exact ju (bu (by lia)) ⟨sz_1,qg h14 H (zo.refl _)⟩
  have pl:part.length<=14:=by lia
  have q:=q pl;refine jd (bg (by lia)) ?_;refine⟨_,rfl,_,rfl,a,l,pa,rs,n,ups,part,rfl,b,R,hpa,hcp,λd ws H1 hd hd1 hc1 s1=>⟨d,rfl,⟨_,SqL.of hd1⟩,λz hz=>?_⟩⟩;have b1:=b.mono s1;have nl:(Js rs part).length<=64:=XZ (Xg _ _) (jA (p:=Zb) R);refine z9 (K:=K) (a:=d) (xs:=ws) (λa=>a≠z) ((Js rs part).map λc=>some (tD2 rs c)) (fun σ=>∃u0,σ=[u0,some (.ref a)]) hz (λ_ h=>h) ⟨_,rfl⟩ (by rw[Y1];exact hc1.length.symm) (by rw[hc1.length];exact XZ nl (by decide)) (SqL.of hd1) ?_ ?_
  .rintro k x o σ H2 hx ho s2 hzn ⟨u0,rfl⟩ Y Z yes no;obtain⟨y,hy,r1⟩:=Cel.get hc1 hx;have eo:=jg hy ho;have yo:y∈zK rs:=(X9.mp (X6 hy)).1;obtain⟨t,sg,ht,hj,hop,es⟩:=zW yo;obtain⟨ya,rfl,hya⟩:=r1;obtain⟨l1,l2⟩:=j4 R ht hj;obtain⟨o1,o2⟩:=zaz (zh1 R ht hj) hop;have b2:=b1.mono s2;have hya2:=s2 _ _ hya;refine xU ⟨_,rfl,_,rfl,a,l,ya,rs,n,y.1,y.2,t,sg,rfl,b2,hya2,ht,hj,R.tlen ht,o1,o2,_,rfl,_,rfl,a,l,ya,rs,n,y.1,y.2,rfl,b2,R,hya2,l1,l2,λd2 ws2 H3 hd2 hd3 hc2 s3=>⟨jP,λtt htt=>?_⟩⟩;have s4:=zc (o:=.tup [.int (((sg:Nat):Int)-48),.ref d2]) htt;have en:jq rs y=((sg:Nat):Int)-48:=by
    unfold jq;rw[es]
   refine yes _ _ _ _ eo ⟨_,rfl⟩ (s3.trans s4) (.tup zb (.cons ?_ (.cons (.lst (λe=>hzn (e ▸ hd2)) (s4 _ _ hd3) (Cel.rdn (hc2.mono s4))) .nil)));rw[en];exact .int _
  rintro ut H2 s2 hz2 hr2;rw[Zd] at hr2;have hT:=zdO hr2;have s02:=s1.trans s2;refine⟨Jy,λe0 he0=>⟨sz_1,λf0 hf0=>?_⟩⟩;have y1:=zc (o:=.lst []) he0;have y2:=zc (o:=.lst [.ref e0]) hf0;have y12:=y1.trans y2;have hL0:jT (λa=>H2 a=none) (upd (upd H2 e0 (.lst [])) f0 (.lst [.ref e0])) [.ref e0] ([[]]:List (List (Int×Int))):=.cons ⟨e0,[],rfl,he0,y2 _ _ zb,.nil⟩ .nil;have hf3:upd (upd H2 e0 (.lst [])) f0 (.lst [.ref e0]) f0=some (.lst [.ref e0]):=zb;generalize upd (upd H2 e0 (.lst [])) f0 (.lst [.ref e0])=H3 at *
  have hpa2:=s02 _ _ hpa;refine⟨_,rfl,pa,rfl,⟨_,SqL.of (y12 _ _ hpa2)⟩,?_⟩;refine JZ (K:=K) (l:=pa) (xs:=ups) (λi σ H'=>∃(fa:Addr) (fs:AE) (v4 v5 v6 v7:Option V),σ=[some (.ref a),some (.ref pa),some (.ref z),some (.ref fa),v4,v5,v6,v7]/\zo H2 H'/\H' fa=some (.lst fs)/\jT (λa=>H2 a=none) H' fs ((jr rs part i).map toL)/\fs.Nodup)
   ⟨f0,_,_,_,_,_,rfl,y12,hf3,hL0,by simp⟩ (λi σ H' _ ⟨_,_,_,_,_,_,_,y,_⟩=>SqL.of (y _ _ hpa2)) ?_ ?_
  .rintro i x tt σ H4 hx htt ⟨fa,fs,v4,v5,v6,v7,rfl,s4,hfa,hL,hnd⟩;obtain⟨c,hc,ca,rfl,hca⟩:=Cel.get ((hcp.mono s02).mono s4) hx;have il:=(X5.mp hx).1;have z5:=zc (o:=.tup [.int (i:Nat),.ref ca]) htt;refine⟨tt,_,rfl,SqT.of zb,rfl,_,_,rfl,_,_,rfl,rfl,?_⟩;have s5:=s4.trans z5;have hca5:=z5 _ _ hca;have hfa5:=z5 _ _ hfa;have hL5:=jF z5 hL;generalize upd H4 tt (.tup [.int (i:Nat),.ref ca])=H5 at *
   refine⟨_,rfl,_,rfl,_,rfl,_,rfl,_,_,rfl,rfl,_,rfl,pa,ups,rfl,SqL.of (s5 _ _ hpa2),λx1 hx1=>?_⟩;have e1:=zld ups i il;rw[e1] at *
   have z6:=zc (o:=.lst (ups.drop (i+1))) hx1;have s6:=s5.trans z6;refine⟨z,ca,x1,ut,ups.drop (i+1),rs,Js rs part,part.drop (i+1),c,rfl,s6 _ _ hz2,zjp s6 hT,nl,R,z6 _ _ hca5,zb,zfJ _ ((hcp.mono s02).mono s6),pnd.sublist (RK _ _),λnd un H6 zrb hN s7=>?_⟩;have s56:=z6.trans s7;have s26:=s5.trans s56;have hfa6:=s56 _ _ hfa5;have hL6:=jF s56 hL5;have zpg:=s56 _ _ hca5;have i14:i<=13:=by lia
   have fl:fs.length<=8192:=by
    rw[yd hL,Y1];exact XZ (YM rs part i) (TU (by decide) i14)
   have dp:=zcn rs part i;have eG:=zcl (rs:=rs) hc;have gl:=YM rs part i;generalize jr rs part i=F at *
   refine⟨_,rfl,_,rfl,fa,rfl,⟨_,SqL.of hfa6⟩,λy hy=>?_⟩;refine qE (K:=K) (a:=fa) (xs:=fs) (λj σ' H'=>∃(u0:Option V) (ys:AE),σ'=[u0,some (.ref ca)]/\zo H6 H'/\H' y=some (.lst ys)/\jT (λa=>H6 a=none/\a≠y) H' ys (((F.take j).map (·++[c])).map toL)/\ys.Nodup)
    ⟨_,[],rfl,zc hy,zb,.nil,Vw⟩ (λj σ' H' _ ⟨_,_,_,z,_⟩=>SqL.of (z _ _ hfa6)) ?_ ?_
   .rintro j v σ' H7 hv ⟨u0,ys,rfl,s8,hy7,hL7,nd7⟩;obtain⟨k,a1,w1,hk,rfl,an,ha1,t1⟩:=zcj hL6 hv;obtain⟨q1,hq1,rfl⟩:=zlc hk;have kd:=dp q1 (X6 hq1);have wl:w1.length=q1.length:=(zfF t1).trans (Y1 _);have tj:((F.take (j+1)).map (·++[c])).map toL=((F.take j).map (·++[c])).map toL++[toL q1++[toI c]]:=by
     rw[Xc,hq1,Xh,Xh];simp[toL]
    rw[tj];unfold jN;refine ZI ?_;refine⟨_,rfl,_,rfl,sz_1,λt2 ht2=>?_⟩;have y5:=zc (o:=.lst [.ref ca]) ht2;refine⟨a1,t2,w1,[.ref ca],rfl,rfl,y5 _ _ (s8 _ _ ha1),zb,XZ (show w1.length+1<=100 by lia) (by decide),λt3 ht3=>?_⟩;have y6:=zc (o:=.lst (w1++[.ref ca])) ht3;have y56:=y5.trans y6;have h6:upd (upd H7 t2 (.lst [.ref ca])) t3 (.lst (w1++[.ref ca])) t3=some (.lst (w1++[.ref ca])):=zb;have tz:t3≠y:=λe=>by
     subst e;rw[y5 _ _ hy7] at ht3;cases ht3
    have n4:=y5.free ht3;have n3:=s8.free n4;have c1:yw (upd (upd H7 t2 (.lst [.ref ca])) t3 (.lst (w1++[.ref ca]))) [.ref ca] [toI c]:=.cons ⟨ca,rfl,y56 _ _ (s8 _ _ zpg)⟩ .nil;have tw6:=zk9 (zaC (s8.trans y56) t1) c1;generalize upd (upd H7 t2 (.lst [.ref ca])) t3 (.lst (w1++[.ref ca]))=H8 at *
    have hy8:=y56 _ _ hy7;have yl:ys.length<=8192:=by
     rw[yd hL7,Y1,Y1,XF];have:=yd hL;rw[Y1] at this;lia
    refine⟨ys,hy8,Xw yl (by decide),_,ys++[.ref t3],rfl,λb' o e=>?_,zb,zaE (zci hy8 (λa h=>h.2) (jF y56 hL7)) (.cons ⟨t3,w1++[.ref ca],rfl,⟨n3,tz⟩,by rw[zf tz];exact h6,zaD hy8 tw6⟩ .nil),?_⟩
    .rw[zf (zg e hy)];exact y56 _ _ (s8 _ _ e)
    .refine WW.mpr ⟨nd7,by simp,λu hu u' hu' e=>?_⟩;obtain⟨b',wb,rfl,_,hb⟩:=YL hL7 hu;have e2:u'=.ref t3:=by simpa using hu'
     rw[e2] at e;cases e;rw[hb] at n4;cases n4
   rintro σ' H7 ⟨u0,ys,rfl,s8,hy7,hL7,nd7⟩;have fsl:fs.length=F.length:=(yd hL).trans (Y1 _);rw[fsl,Xz] at hL7;have yl:ys.length<=8192:=by
    rw[yd hL7,Y1,Y1];lia
   refine⟨fa,y,fs,ys,rfl,rfl,s8 _ _ hfa6,hy7,XZ (Nat.add_le_add fl yl) (by decide),λg hg=>?_⟩;have y9:=zc (o:=.lst (fs++ys)) hg;have s27:=s26.trans s8;have s28:=s27.trans y9;have hg8:upd H7 g (.lst (fs++ys)) g=some (.lst (fs++ys)):=zb;have hLg:jT (λa=>H2 a=none) (upd H7 g (.lst (fs++ys))) (fs++ys) ((Subs.step F c).map toL):=by
    unfold Subs.step;rw[Xh];exact zaE (jF (s8.trans y9) hL6) (jF y9 (zch (λa h=>s26.free h.1) hL7))
   have gnd:(fs++ys).Nodup:=by
    refine WW.mpr ⟨hnd,nd7,λu hu u' hu' e=>?_⟩;obtain⟨b',wb,rfl,_,hb⟩:=YL hL6 hu;obtain⟨b2,wb2,rfl,hb2,_⟩:=YL hL7 hu';cases e;rw[hb] at hb2;cases hb2.1
   have hnd8:=(s8.trans y9) _ _ zrb;have hN8:=zaF (s8.trans y9) hN;have gll:(fs++ys).length<=16384:=by
    rw[X0];lia
   have dps:∀q∈Subs.step F c,q.length<=64:=λq hq=>by
    rcases XQ.mp hq with hq | hq
    .have:=dp q hq;lia
    .obtain⟨p',hp',rfl⟩:=XM.mp hq;have:=dp p' hp';rw[X0];show p'.length+1<=64;lia
   generalize fs++ys=gs at *
   generalize Subs.step F c=S at *
   generalize upd H7 g (.lst gs)=H8 at *
   refine⟨_,rfl,g,rfl,⟨_,SqL.of hg8⟩,λy2 hy2=>?_⟩;refine qE (K:=K) (a:=g) (xs:=gs) (λj σ' H'=>∃(u0:Option V) (ys:AE),σ'=[u0,some (.ref nd)]/\zo H8 H'/\H' y2=some (.lst ys)/\jT (λa=>H2 a=none/\a≠y2) H' ys (((S.take j).filter (Grow.chk (nearF rs) (jq rs) (Js rs part) c (part.drop (i+1)))).map toL)/\ys.Sublist (gs.take j))
    ⟨_,[],rfl,zc hy2,zb,.nil,List.Sublist.slnil⟩ (λj σ' H' _ ⟨_,_,_,z,_⟩=>SqL.of (z _ _ hg8)) ?_ ?_
   .rintro j v σ' H9 hv ⟨u0,ys,rfl,s9,hz9,hL9,sb9⟩;obtain⟨k,a1,w1,hk,rfl,an,ha1,t1⟩:=zcj hLg hv;obtain⟨q1,hq1,rfl⟩:=zlc hk;have tf:gs.take (j+1)=gs.take j++[.ref a1]:=by
     rw[Xc,hv];rfl
    refine⟨_,rfl,_,rfl,nd,a1,un,w1,rs,part.drop (i+1),_,q1,rfl,s9 _ _ hnd8,zaF s9 hN8,s9 _ _ ha1,(jn t1).mono s9,dps q1 (X6 hq1),λH10 s10=>⟨_,rfl,?_⟩⟩;rw[tf];have hz10:=s10 _ _ hz9;show if Grow.chk (nearF rs) (jq rs) (Js rs part) c (part.drop (i+1)) q1=true then _ else _
    by_cases hlt:Grow.chk (nearF rs) (jq rs) (Js rs part) c (part.drop (i+1)) q1=true
    .have e1:((S.take (j+1)).filter (Grow.chk (nearF rs) (jq rs) (Js rs part) c (part.drop (i+1)))).map toL=((S.take j).filter (Grow.chk (nearF rs) (jq rs) (Js rs part) c (part.drop (i+1)))).map toL++[toL q1]:=by
      rw[Xc,hq1,WX,Xh];simp[hlt]
     rw[e1];have az:a1≠y2:=zg ha1 hy2;have yl:ys.length<=16384:=by
      have:=sb9.length_le;rw[XF] at this;lia
     refine ju hlt ⟨_,rfl,ys,hz10,Xw yl (by decide),_,ys++[.ref a1],rfl,λb' o e=>?_,zb,zaE (zci hz10 (λa h=>h.2) (jF s10 hL9)) (.cons ⟨a1,w1,rfl,⟨an,az⟩,by rw[zf az];exact s10 _ _ (s9 _ _ ha1),zaD hz10 (zaC (s9.trans s10) t1)⟩ .nil),List.Sublist.append sb9 (List.Sublist.refl _)⟩;rw[zf (zg e hy2)];exact s10 _ _ (s9 _ _ e)
    .have e1:((S.take (j+1)).filter (Grow.chk (nearF rs) (jq rs) (Js rs part) c (part.drop (i+1)))).map toL=((S.take j).filter (Grow.chk (nearF rs) (jq rs) (Js rs part) c (part.drop (i+1)))).map toL:=by
      rw[Xc,hq1,WX,Xh];simp[hlt]
     rw[e1];exact jd (XC.mpr hlt) ⟨_,ys,rfl,s9.trans s10,hz10,jF s10 hL9,sb9.trans (UA _ _)⟩
   .rintro σ' H9 ⟨u0,ys,rfl,s9,hz9,hL9,sb9⟩;have gsl:gs.length=S.length:=(yd hLg).trans (Y1 _);rw[gsl,Xz,<- eG] at hL9;rw[gsl,<- gsl,Xz] at sb9;exact⟨y2,ys,_,_,_,_,rfl,s28.trans s9,hz9,zch (λa h=>h.1) hL9,gnd.sublist sb9⟩
  .rintro σ H4 ⟨fa,fs,v4,v5,v6,v7,rfl,s4,hfa,hL,hnd⟩;have gl:=YM rs part part.length;rw[ul,zdN] at hL;rw[zdN] at gl;have fl:fs.length<=16384:=by
    rw[yd hL,Y1];exact XZ gl (TU (by decide) pl)
   refine⟨_,rfl,fa,fs,_,rfl,SqL.of hfa,zjn hL,by lia,λd' us' ks' hd' hp' zdL hpw hup=>?_⟩;have y5:=zc (o:=.lst us') hd';have s04:=s02.trans s4;refine q d' us' ks' _ (s04.free hd') zb (jF y5 (zk8 hp' λv hv=>?_)) (hup.nodup_iff.mpr hnd) zdL hpw (s04.trans y5);obtain⟨a1,wa,e,na,ha⟩:=YL hL (hup.mem_iff.mp hv);exact⟨a1,e,s02.free na,zg ha hd'⟩
abbrev iL (xs:List Int):AE:=xs.map V.int
def ints_get {xs:List Int}{i:Nat}{v:V}(h:(iL xs)[i]?=some v):∃x,xs[i]?=some x/\v=.int x:=by
 rw[Xo] at h;cases e:xs[i]? with
 | none=>rw[e] at h;cases h
 | some x =>
  rw[e] at h;cases h;exact⟨x,rfl,rfl⟩
def zh4 {xs:List Int}{i:Nat}{x:Int}(h:xs[i]?=some x):(iL xs)[i]?=some (.int x):=by
 rw[Xo,h];rfl
def zlf {n:Nat}{k:Int}(h0:0<=k)(h1:k<n):ixN n k=some k.toNat:=by
 unfold ixN;rw[br h0,br h1]
def zna (xs:List Int)(z:Int):iL (xs++[z])=iL xs++[.int z]:=by
 show T1 V.int (xs++[z])=_;rw[Xh];rfl
def zeC (rs:AD)(part:AB):List (List (Int×Int)):=((Subs.subs part).filter (Grow.fits (nearF rs) (jq rs) (Js rs part) part)).map toL
def zqs:Sp:=λvs H Q _=>∃(fa:Addr) (us:AE) (ks:List (List (Int×Int))) (N:Addr->Prop) (g:Nat),vs=[.ref fa,.int (g:Nat)]/\H fa=some (.lst us)/\jT N H us ks/\(∀k∈ks,k.length<=g)/\g<=64 /\
 ∀(d:Addr) (H':Hp),H d=none->H' d=some (.lst (iL (Cnt.Jo g ks)))->zo H H'->Q (.ref d) H'
def zrc (CG:Addr):Sp:=λvs H Q E=>∃(a l pa:Addr) (rs:AD) (n:Int) (ups:AE) (part:AB),vs=[.ref a,.ref pa]/\qF H a l rs n/\Rows bd.cps.toList rs/\H pa=some (.lst ups)/\Cel H ups part/\part.Nodup/\part.length<=64/\(14<part.length->∀H',zo H H'->E (.ref CG) none H')/\(part.length<=14 ->
 ∀(d:Addr) (H':Hp),H d=none->H' d=some (.lst (iL (Cnt.Jo part.length (zeC rs part))))->zo H H'->Q (.ref d) H')
def zfL (n:Nat):(WN n [V.int 0]).flatten=iL (WN n 0):=by
 induction n with
 | zero=>rfl
 | succ n ih =>
  rw[U9,VS,ih];rfl
theorem zfM {α:Type}:∀(cs:List α) (b:Nat),(Subs.pick cs b).length<=cs.length
 | [],_=>WT _
 | c::r,b=>by
  have:=zfM r (b/2);show ((if b%2=1 then [c] else [])++Subs.pick r (b/2)).length<=r.length+1;rw[X0];split
  .show 1+_<=_;lia
  .show 0+_<=_;lia
def zlg {α:Type}{cs q:List α}(h:q∈Subs.subs cs):q.length<=cs.length:=by
 rw[Subs.zdC] at h;obtain⟨b,_,rfl⟩:=XM.mp h;exact zfM cs b
def zlh {rs:AD}{part:AB}{k:List (Int×Int)}(h:k∈zeC rs part):k.length<=part.length:=by
 obtain⟨q1,h1,rfl⟩:=XM.mp h;show (q1.map toI).length<=_;rw[Y1];exact zlg (X9.mp h1).1
def Qu:zB ["found","greatest","counts","laying"] ["found","greatest"] (zp YG):=bz rfl rfl rfl rfl (by decide+kernel)
def zg5 (T:Txt mg)(D:zm K mg "counted" YG ["found","greatest"] f fd):qa P w K mg base CX0 1 f fd ["found","greatest"] zqs:=by
 refine D.F.ok Qu (λvs H Q E h=>?_) (λcdv A outer s H vs Q E hr h=>?_)
 .obtain⟨fa,us,ks,N,g,rfl,_⟩:=h;rfl
 .obtain⟨fa,us,ks,N,g,rfl,hfa,hL,hk,g64,q⟩:=h;refine⟨_,(@ze _ _ _ _ _ (@qH _ _ 2 _ _ _ _ Qu.nd rfl (Vz rfl) (@zL _ _ _ _ _ _ _ _ zjW (@zI _ _ _ _ (@za _ _ _ _ _ zj zd rfl)) (zL jZ (pvS 1) zj)) (by rfl) (.inr rfl)) (ze (qI WV rfl (zH (pvS 0)) (pgq 3 Qu.nd) (zh (zhu (pvS 2) (pb1 zO T.jk W2 (pvS 3)) ze3 zj zjO set_list))) (zh (zG (pvS 2))))),?_⟩;(try dsimp only[cxK,cxP,cxW]);refine⟨sz_1,λl0 hl0=>?_⟩;have s0:zo H (upd H l0 (.lst [.int 0])):=zc hl0;refine⟨_,rfl,_,_,rfl,rfl,l0,_,_,rfl,rfl,zb,by lia,by lia,?_,λp hp=>?_⟩
  .exact XZ (show 1*((g:Int)+1).toNat<=120 by lia) (by decide)
  rw[show ((g:Int)+1).toNat=g+1 by lia,zfL,<- Cnt.zkJ (α:=Int×Int)];have s1:=s0.trans (zc (o:=.lst (iL (Cnt.Jo g ([]:List (List (Int×Int)))))) hp);have hp0:H p=none:=s0.free hp;refine⟨_,rfl,fa,rfl,⟨_,SqL.of (s1 _ _ hfa)⟩,?_⟩;refine xw (K:=K) (a:=fa) (xs:=us) (λi σ H'=>∃v3,σ=[some (.ref fa),some (.int (g:Nat)),some (.ref p),v3]/\zo H H'/\H' p=some (.lst (iL (Cnt.Jo g (ks.take i)))))
   ⟨_,rfl,s1,zb⟩ (λi σ H' _ ⟨_,_,y,_⟩=>SqL.of (y _ _ hfa)) ?_ ?_
  .rintro i v σ H1 hv ⟨v3,rfl,s2,hp2⟩;obtain⟨k,a1,wa,hk1,rfl,_,ha1,t1⟩:=zcj hL hv;have kl:=hk k (X6 hk1);have wl:=zfF t1;refine⟨_,rfl,_,rfl,a1,wa,rfl,.inl (SqL.of (s2 _ _ ha1)),p,_,_,_,rfl,rfl,SqL.of hp2,zgo (by lia) (zh4 (Cnt.zb4 (n:=wa.length) _ (by lia))),_,_,rfl,rfl,p,_,_,_,rfl,rfl,hp2,zlf (by lia) (by rw[Y1,Cnt.Q0];lia),?_⟩;refine⟨_,rfl,λc o e=>?_,?_⟩
   .rw[zf (zg e hp0)];exact s2 _ _ e
   .rw[zb,Xc,hk1];show _=some (HO.lst (iL (Cnt.Jo g (ks.take i++[k]))));rw[Cnt.zje _ kl,wl];show some (HO.lst ((T1 V.int _).set _ (V.int _)))=_;rw[<- OG];rfl
  .rintro σ H1 ⟨v3,rfl,s2,hp2⟩;rw[yd hL,Xz] at hp2;exact⟨_,rfl,q p H1 hp0 hp2 s2⟩
def zco:zB ["board","part"] ["board","part"] (zp yX):=bz rfl rfl rfl rfl (by decide+kernel)
def zcp {jaj:Addr}(T:Txt mg)(Z:Prog K mg)(jat:ql K mg "TooGreat" jaj){f:Addr}{fd:XD}(D:zm K mg "part_counts" yX ["board","part"] f fd):qa P w K mg base (CXE P w) 5 f fd ["board","part"] (zrc jaj):=by
 obtain⟨zcq,zba,Jt⟩:=Z.part_layings;obtain⟨zjr,zg6,zaH⟩:=Z.counted;refine D.F.okX zco (λvs H Q E h=>?_) (λcdv A outer s H vs Q E hr h=>?_)
 .obtain⟨a,l,pa,rs,n,ups,part,rfl,_⟩:=h;rfl
 .obtain⟨a,l,pa,rs,n,ups,part,rfl,b,R,hpa,hcp,pnd,p64,qg,q⟩:=h;refine⟨_,(zh (zG (pc0 (zg5 T zaH) hr zaH (za (pcL qy (za9 T Z jat Jt) hr Jt (za (pvS 0) (za (pvS 1) zd))) (za (pb1 zO T.jk W2 (pvS 1)) zd))))),?_⟩;(try dsimp only[cxK,cxP,cxW]);refine⟨_,rfl,_,rfl,a,l,pa,rs,n,ups,part,rfl,b,R,hpa,hcp,pnd,p64,qg,λpl d ws ks H1 hd hd1 hL _ hpm _ s1=>?_⟩;refine⟨_,rfl,pa,ups,rfl,.inl (SqL.of (s1 _ _ hpa)),d,ws,ks,_,ups.length,rfl,hd1,hL,λk hk=>?_,?_,λe H2 he he2 s2=>?_⟩
  .rw[hcp.length];exact zlh (hpm.mem_iff.mp hk)
  .rw[hcp.length];lia
  .rw[hcp.length,Cnt.zjf hpm] at he2;exact q pl e H2 (s1.free he) he2 (s1.trans s2)
def Yk (rs:AD)(g S:AB):Bool:=Grow.fits (nearF rs) (jq rs) (Js rs g) g S
def zaI {rs:AD}{o x:AA}:nearF rs o x=true↔x∈zF rs o:=Parts.QY _ _
def zph {rs:AD}{x:AA}(h:x∈zx rs):Cells.sgn (codes rs) x=63:=by
 obtain⟨t,k,ht,hj,hk,es⟩:=zW h;have:k=63:=by
  unfold yx at hk;simpa using hk
 rw[es,this]
def yt {rs:AD}{o x:AA}(hx:x∈zx rs):nearF rs o x=true↔x∈clA rs o:=by
 rw[zaI];constructor
 .exact λh=>X9.mpr ⟨h,bu (zph hx)⟩
 .exact λh=>(X9.mp h).1
def zeD {rs:AD}{g:AB}{o:AA}:o∈Js rs g↔o∈zK rs/\∃x∈g,nearF rs o x=true:=by
 unfold Js;rw[X9,TL,WF];refine and_congr_right λ_=>?_;constructor
 .rintro⟨z,hz,h⟩;have h':(g.any λx=>decide (x=z))=true:=h;exact⟨z,(Parts.QY _ _).mp h',zaI.mpr hz⟩
 .rintro⟨x,hx,h⟩;exact⟨x,zaI.mp h,(Parts.QY _ _).mpr hx⟩
section
variable {rs:AD}{gs:List AB}(G:Parts.Good (clA rs) (zK rs) gs)
include G
def ZO:∀c∈gs.flatten,c∈zx rs:=λc hc=>by
 obtain⟨o,_,h⟩:=G.from_ c hc;exact Jr h
def znb {g:AB}(hg:g∈gs){o x:AA}(ho:o∈Js rs g)(hx:x∈zx rs)(hn:nearF rs o x=true):x∈g:=by
 obtain⟨h1,y,hy,h2⟩:=zeD.mp ho;have hys:=ZO G y (Wi.mpr ⟨g,hg,hy⟩);have hyc:=(yt hys).mp h2;obtain⟨g',hg',hall⟩:=G.cov o h1 (UT hyc);have e:=Parts.zas G.nd hg' hg (hall y hyc) hy;rw[<- e];exact hall x ((yt hx).mp hn)
def zh5 {g:AB}(hg:g∈gs){o:AA}(ho:o∈Js rs g){a:AB}(h:∀c∈a,c∈zx rs/\c ∉ g):Grow.cnt (nearF rs) o a=0:=by
 unfold Grow.cnt;rw[VP,Wd];intro c hc hn;exact(h c hc).2 (znb G hg ho (h c hc).1 hn)
def zh6 {g:AB}(hg:g∈gs):Tally.Loc (zx rs) (Yk rs g) g:=by
 have key:∀S S':AB,(∀o∈Js rs g,Grow.cnt (nearF rs) o S=Grow.cnt (nearF rs) o S')->Yk rs g S=Yk rs g S':=λS S' h=>by
  unfold Yk Grow.fits;rw[W1,WG,WG];constructor
  .intro k o ho;have:=k o ho;rwa [h o (X9.mp ho).1] at this
  .intro k o ho;have:=k o ho;rwa [<- h o (X9.mp ho).1] at this
 have app:∀(o:AA) (a b:AB),Grow.cnt (nearF rs) o (a++b)=Grow.cnt (nearF rs) o a+Grow.cnt (nearF rs) o b:=λo a b=>by
  unfold Grow.cnt;rw[WX,X0]
 refine⟨λa b h=>key _ _ λo ho=>?_,λa b h=>key _ _ λo ho=>?_⟩
 .rw[app,zh5 G hg ho h,VI]
 .rw[app,zh5 G hg ho h,P9]
def zli:(gs.map λg=>Tally.tl g (Yk rs g)).foldl Pour.YU [1]=Tally.tl gs.flatten (Tally.Zy (Yk rs) gs):=Tally.zkQ G.nd (ZO G) λg hg=>zh6 G hg
def zjs (i:Nat):((gs.take i).map λg=>Tally.tl g (Yk rs g)).foldl Pour.YU [1]=Tally.tl (gs.take i).flatten (Tally.Zy (Yk rs) (gs.take i)):=by
 have sub:(gs.take i).flatten.Sublist gs.flatten:=by
  have e:gs.flatten=(gs.take i).flatten++(gs.drop i).flatten:=by rw[<- VW,W4]
  rw[e];exact UA _ _
 exact Tally.zkQ (G.nd.sublist sub) (λc hc=>ZO G c (sub.subset hc)) λg hg=>zh6 G (V6 hg)
def zaa (R:Rows bd.cps.toList rs):gs.flatten.length<=64:=by
 have h1:=Parts.j8 G.nd (ZO G);have h2:=zdK R;lia
end
def zjt (rs:AD)(part:AB):Cnt.Jo part.length (zeC rs part)=Tally.tl part (Yk rs part):=by
 unfold zeC;rw[Tally.zkR part.length toL (λk=>Y1 _)];exact Tally.zm2 part _
def zju (xs:List Int):Prop:=∀z∈xs,z.natAbs<2^8000
def znc {cs:AB}{p:AB->Bool}{k:Nat}(h:cs.length<=64):Tally.T cs p k<=2^64:=by
 refine XZ List.countP_le_length ?_;rw[Subs.zdC,Y1,WI];exact TU (by decide) h
def zg7 {cs:AB}{p:AB->Bool}(h:cs.length<=64):zju (Tally.tl cs p):=λz hz=>by
 unfold Tally.tl at hz;obtain⟨k,_,rfl⟩:=XM.mp hz;rw[RY];exact Xw (znc h) (Pf (by decide) (by decide))
def Zf (rs:AD)(S:AB):Bool:=((zK rs).filter λo=>!(clA rs o).isEmpty).all λo=>decide (((Grow.cnt (nearF rs) o S:Nat):Int)=jq rs o)
def x9 {rs:AD}{S:AB}:Zf rs S=true ↔ ∀o∈zK rs,clA rs o ≠ []->((Grow.cnt (nearF rs) o S:Nat):Int)=jq rs o:=by
 unfold Zf;rw[WG];constructor
 .intro h o ho hc;exact bh (h o (X9.mpr ⟨ho,by rw[WJ];exact UP.mpr hc⟩))
 .intro h o ho;obtain⟨h1,h2⟩:=X9.mp ho;rw[WJ] at h2;exact bu (h o h1 (UP.mp h2))
def zjv {rs:AD}{gs:List AB}(G:Parts.Good (clA rs) (zK rs) gs)(S:AB):Tally.Zy (Yk rs) gs S=Zf rs S:=by
 rw[W1,x9];unfold Tally.Zy Yk Grow.fits;rw[WG];constructor
 .intro h o ho hc;obtain⟨x,hx⟩:=TH _ hc;obtain⟨g,hg,hall⟩:=G.cov o ho hc;have hn:nearF rs o x=true:=(yt (Jr hx)).mpr hx;have:=h g hg;rw[WG] at this;exact bh (this o (X9.mpr ⟨zeD.mpr ⟨ho,x,hall x hx,hn⟩,WF.mpr ⟨x,hall x hx,hn⟩⟩))
 .intro h g hg;rw[WG];intro o ho;obtain⟨h1,x,hx,hn⟩:=zeD.mp (X9.mp ho).1;have hxs:=ZO G x (Wi.mpr ⟨g,hg,hx⟩);exact bu (h o h1 (UT ((yt hxs).mp hn)))
def zlj {rs:AD}{gs:List AB}(G:Parts.Good (clA rs) (zK rs) gs){c:AA}:c∈gs.flatten↔c∈zx rs/\∃o∈zK rs,nearF rs o c=true:=by
 constructor
 .intro h;obtain⟨o,ho,hc⟩:=G.from_ c h;have hs:=Jr hc;exact⟨hs,o,ho,(yt hs).mpr hc⟩
 .rintro⟨hs,o,ho,hn⟩;have hc:=(yt hs).mp hn;obtain⟨g,hg,hall⟩:=G.cov o ho (UT hc);exact Wi.mpr ⟨g,hg,hall c hc⟩
def Ju (rs:AD)(S:AB):Bool:=(zK rs).all λo=>decide (((Grow.cnt (nearF rs) o S:Nat):Int)=jq rs o)
def Jv {rs:AD}{S:AB}:Ju rs S=true ↔ ∀o∈zK rs,((Grow.cnt (nearF rs) o S:Nat):Int)=jq rs o:=by
 unfold Ju;rw[WG];exact⟨λh o ho=>bh (h o ho),λh o ho=>bu (h o ho)⟩
def zg8 (rs:AD):Tally.Inv (Ju rs):=λa b e=>by
 rw[W1,Jv,Jv];have:∀o,Grow.cnt (nearF rs) o a=Grow.cnt (nearF rs) o b:=λo=>(e.filter _).length_eq;constructor
 .intro h o ho;rw[<- this o];exact h o ho
 .intro h o ho;rw[this o];exact h o ho
def zlk {rs:AD}:(Z0 rs).isEmpty=true ↔ ∀o∈zK rs,clA rs o=[]->jq rs o=0:=by
 rw[List.isEmpty_iff];unfold Z0 jq;rw[Wd];constructor
 .intro h o ho hc;have:=h o (X9.mpr ⟨ho,by rw[hc];rfl⟩);rw[WJ,Bool.not_eq_false] at this;rw[bh this];rfl
 .intro h o ho;obtain⟨h1,h2⟩:=X9.mp ho;have:=h o h1 (List.isEmpty_iff.mp h2);rw[WJ,Bool.not_eq_false];exact bu (by lia)
def zll {rs:AD}{S:AB}(hS:∀c∈S,c∈zx rs):Ju rs S=((Z0 rs).isEmpty&&Zf rs S):=by
 have z:∀o,clA rs o=[]->Grow.cnt (nearF rs) o S=0:=λo ho=>by
  unfold Grow.cnt;rw[VP,Wd];intro c hc hn;have:=(yt (hS c hc)).mp hn;rw[ho] at this;cases this
 rw[W1,Ws,Jv,zlk,x9];constructor
 .intro h;refine⟨λo ho hc=>?_,λo ho _=>h o ho⟩;rw[<- h o ho,z o hc];rfl
 .rintro⟨h1,h2⟩ o ho;by_cases hc:clA rs o=[]
  .rw[z o hc,h1 o ho hc];rfl
  .exact h2 o ho hc
def zh7 {rs:AD}{c o:AA}(hc:c∈za8 rs)(ho:o∈zK rs):nearF rs o c=false:=by
 unfold za8 at hc;have h:=(X9.mp hc).2;rw[WJ,TL,List.any_eq_false] at h;exact XC.mpr (h o ho)
def zlm {rs:AD}{a b:AB}(hb:∀c∈b,c∈za8 rs):Zf rs (a++b)=Zf rs a:=by
 have e:∀o∈zK rs,Grow.cnt (nearF rs) o (a++b)=Grow.cnt (nearF rs) o a:=λo ho=>by
  unfold Grow.cnt;rw[WX,X0];have:b.filter (nearF rs o)=[]:=Wd.mpr λc hc hn=>by
   rw[zh7 (hb c hc) ho] at hn;cases hn
  rw[this];rfl
 rw[W1,x9,x9];constructor
 .intro h o ho hc;rw[<- e o ho];exact h o ho hc
 .intro h o ho hc;rw[e o ho];exact h o ho hc
def zfN {rs:AD}{c:AA}(h:c∈za8 rs):c∈zx rs:=(X9.mp h).1
def jG (rs:AD):(zx rs).Nodup:=qi (Cells.qW _ 0 (codes rs))
def zjw (rs:AD):(za8 rs).Nodup:=(jG rs).sublist XA
section
variable {rs:AD}{gs:List AB}(G:Parts.Good (clA rs) (zK rs) gs)
include G
def zh8 {c:AA}:c∈za8 rs↔c∈zx rs/\c ∉ gs.flatten:=by
 rw[zlj G];constructor
 .intro h;refine⟨zfN h,?_⟩;rintro⟨_,o,ho,hn⟩;rw[zh7 h ho] at hn;cases hn
 .rintro⟨h1,h2⟩;unfold za8;refine X9.mpr ⟨h1,?_⟩;rw[WJ,TL,List.any_eq_false];intro o ho hn;exact h2 ⟨h1,o,ho,hn⟩
def zdP:(zx rs).Perm (gs.flatten++za8 rs):=by
 refine(W6 (jG rs) (WW.mpr ⟨G.nd,zjw rs,λa ha b hb e=>?_⟩)).mpr λc=>?_
 .subst e;exact((zh8 G).mp hb).2 ha
 .rw[XQ,zh8 G];constructor
  .intro h;by_cases hc:c∈gs.flatten
   .exact .inl hc
   .exact .inr ⟨h,hc⟩
  .rintro(h | h)
   .exact ZO G c h
   .exact h.1
def count_is (s:Nat):(if (Z0 rs).isEmpty=true then Tally.dl (Tally.tl gs.flatten (Tally.Zy (Yk rs) gs)) (za8 rs).length ((s:Nat):Int) else 0)=((Tally.T (zx rs) (Ju rs) s:Nat):Int):=by
 rw[Tally.zo8 (zdP G) (zg8 rs)];have key:∀a∈Subs.subs gs.flatten,∀b∈Subs.subs (za8 rs),Ju rs (a++b)=((Z0 rs).isEmpty&&Tally.Zy (Yk rs) gs a):=λa ha b hb=>by
  have sa:=(Tally.YE ha).subset;have sb:=(Tally.YE hb).subset;rw[zll λc hc=>(XQ.mp hc).elim (λh=>ZO G c (sa h)) λh=>zfN (sb h),zlm λc hc=>sb hc,zjv G]
 cases hb:(Z0 rs).isEmpty with
 | true =>
  rw[br rfl];refine Tally.zqm (λa ha b hb'=>?_) s;rw[key a ha b hb',hb,Bool.true_and]
 | false =>
  rw[bw (by decide),Tally.zm1 λS hS=>?_]
  .rfl
  .rw[Tally.zfw] at hS;obtain⟨b,hb',hS⟩:=UX.mp hS;obtain⟨a,ha,rfl⟩:=XM.mp hS;rw[key a ha b hb',hb,Pp]
end
def zpi (K:XW):Sp:=λvs H Q _=>∃(a b:Addr) (xs ys:List Int),vs=[.ref a,.ref b]/\SqL K H a (iL xs)/\SqL K H b (iL ys)/\1<=xs.length/\xs.length<=70/\1<=ys.length/\ys.length<=70/\zju xs/\zju ys /\
 ∀(l:Addr) (H':Hp),H l=none->H' l=some (.lst (iL (Pour.YU xs ys)))->zo H H'->Q (.ref l) H'
def zaS (H:Hp):AE->List (List Int)->Prop:=Xl λv xs=>∃a,v=V.ref a/\H a=some (.lst (iL xs))
def zg9 {H H':Hp}(s:zo H H'){us:AE}{xss:List (List Int)}(hp:zaS H us xss):zaS H' us xss:=by
 induction hp with
 | nil=>exact .nil
 | cons q _ ih =>
  obtain⟨a,e,h⟩:=q;exact .cons ⟨a,e,s _ _ h⟩ ih
def zdQ {H:Hp}{us:AE}{xss:List (List Int)}(h:zaS H us xss):us.length=xss.length:=Paired.length h
def zln {H:Hp}{us:AE}{xss:List (List Int)}{i:Nat}{v:V}(h:zaS H us xss)(e:us[i]?=some v):∃xs a,xss[i]?=some xs/\v=V.ref a/\H a=some (.lst (iL xs)):=by
 obtain⟨S,h1,a,h2⟩:=YY h e;exact⟨S,a,h1,h2⟩
structure zlo (xss:List (List Int)):Prop where
 one:∀xs∈xss,1<=xs.length/\xs.length<=70/\zju xs
 acc:∀i,1<=((xss.take i).foldl Pour.YU [1]).length/\((xss.take i).foldl Pour.YU [1]).length<=70/\zju ((xss.take i).foldl Pour.YU [1])
def zpj:Sp:=λvs H Q _=>∃(la:Addr) (us:AE) (xss:List (List Int)),vs=[.ref la]/\H la=some (.lst us)/\zaS H us xss/\zlo xss /\
 ∀(d:Addr) (H':Hp),H d=none->H' d=some (.lst (iL (xss.foldl Pour.YU [1])))->zo H H'->Q (.ref d) H'
def tls (rs:AD)(gs:List AB):List (List Int):=gs.map λg=>Tally.tl g (Yk rs g)
def zpk {rs:AD}(R:Rows bd.cps.toList rs){gs:List AB}(G:Parts.Good (clA rs) (zK rs) gs):zlo (tls rs gs):=by
 have n64:=zaa G R;refine⟨λxs hx=>?_,λi=>?_⟩
 .obtain⟨g,hg,rfl⟩:=XM.mp hx;have gl:g.length<=64:=XZ (Vu (Wb hg)) n64;rw[Tally.Yg];exact⟨by lia,by lia,zg7 gl⟩
 .unfold tls;rw[<- OW,zjs G i];have tl64:(gs.take i).flatten.length<=64:=by
   have e:gs.flatten=(gs.take i).flatten++(gs.drop i).flatten:=by rw[<- VW,W4]
   rw[e,X0] at n64;lia
  rw[Tally.Yg];exact⟨by lia,by lia,zg7 tl64⟩
def zpl (CG:Addr):Sp:=λvs H Q E=>∃(p l:Addr) (rs:AD) (n:Int),vs=[.ref p]/\qF H p l rs n/\Rows bd.cps.toList rs/\(∀gs,Parts.Good (clA rs) (zK rs) gs->(∃g∈gs,14<g.length)->∀H',zo H H'->E (.ref CG) none H') /\
 ∀(d:Addr) (gs:List AB) (H':Hp),H d=none->(∀g∈gs,g.length<=14)->Parts.Good (clA rs) (zK rs) gs->Up2 (heads gs)->H' d=some (.lst (iL (Tally.tl gs.flatten (Tally.Zy (Yk rs) gs))))->zo H H'->Q (.ref d) H'
def Jd:zB ["one","other","counts","i","many","j","more"] ["one","other"] (zp Q3):=bz rfl rfl rfl rfl (by decide+kernel)
def zjx (T:Txt mg)(D:zm K mg "poured" Q3 ["one","other"] f fd):qa P w K mg base CX0 1 f fd ["one","other"] (zpi K):=by
 refine D.F.ok Jd (λvs H Q E h=>?_) (λcdv A outer s H vs Q E hr h=>?_)
 .obtain⟨a,b,xs,ys,rfl,_⟩:=h;rfl
 .obtain⟨a,b,xs,ys,rfl,ha,hb,x1,x2,y1,y2,bx,bY,q⟩:=h;refine⟨_,(@ze _ _ _ _ _ (@qH _ _ 2 _ _ _ _ Jd.nd rfl (Vz rfl) (@zL _ _ _ _ _ _ _ _ zjW (@zI _ _ _ _ (@za _ _ _ _ _ zj zd rfl)) (zL YB (zL jZ (pb1 zO T.jk W2 (pvS 0)) (pb1 zO T.jk W2 (pvS 1))) zj)) (by rfl) (.inr rfl)) (ze (qI WV rfl (JY (by rfl) T.jE (za (pvS 0) zd)) (Je rfl (zP (pgq 3 Jd.nd) (zP (pgq 4 Jd.nd) jX))) (zh (qI WV rfl (JY (by rfl) T.jE (za (pvS 1) zd)) (Je rfl (zP (pgq 5 Jd.nd) (zP (pgq 6 Jd.nd) jX))) (zh (zhu (pvS 2) (zL jZ (pvS 3) (pvS 5)) ze3 (zL zbj (pvS 4) (pvS 6)) zjO set_list))))) (zh (zG (pvS 2))))),?_⟩;(try dsimp only[cxK,cxP,cxW]);refine⟨sz_1,λl0 hl0=>?_⟩;have s0:zo H (upd H l0 (.lst [.int 0])):=zc hl0;refine⟨_,rfl,a,_,rfl,.inl (s0.seq ha),_,rfl,b,_,rfl,.inl (s0.seq hb),_,_,rfl,rfl,_,_,rfl,rfl,l0,_,_,rfl,rfl,zb,?_,?_,?_,λp hp=>?_⟩
  .rw[Y1,Y1];lia
  .rw[Y1,Y1];lia
  .rw[Y1,Y1];exact XZ (show 1*((xs.length:Int)+(ys.length:Int)-1).toNat<=140 by lia) (by decide)
  have en:(((iL xs).length:Nat)+((iL ys).length:Nat)-1:Int).toNat=xs.length+ys.length-1:=by
   rw[Y1,Y1];lia
  rw[en,zfL,<- Pour.zkL];have s1:zo H (upd (upd H l0 (.lst [.int 0])) p (.lst (iL (Pour.st xs ys 0 0)))):=s0.trans (zc hp);have hp0:H p=none:=s0.free hp;refine⟨_,rfl,a,rfl,⟨_,s1.seq ha⟩,?_⟩;refine JZ (K:=K) (l:=a) (xs:=iL xs) (λi σ H'=>∃v3 v4 v5 v6,σ=[some (.ref a),some (.ref b),some (.ref p),v3,v4,v5,v6]/\zo H H'/\H' p=some (.lst (iL (Pour.st xs ys i 0))))
   ⟨_,_,_,_,rfl,s1,zb⟩ (λi σ H' _ ⟨_,_,_,_,_,s,_⟩=>s.seq ha) ?_ ?_
  .rintro i v t σ H1 hv ht ⟨v3,v4,v5,v6,rfl,s2,hp2⟩;obtain⟨x,hx,rfl⟩:=ints_get hv;have st:zo H1 (upd H1 t (.tup [.int (i:Nat),.int x])):=zc ht;refine⟨t,_,rfl,SqT.of zb,rfl,_,_,rfl,_,_,rfl,rfl,?_⟩;refine⟨_,rfl,b,rfl,⟨_,(s2.trans st).seq hb⟩,?_⟩;refine JZ (K:=K) (l:=b) (xs:=iL ys) (λj σ H'=>∃v5 v6,σ=[some (.ref a),some (.ref b),some (.ref p),some (.int (i:Nat)),some (.int x),v5,v6]/\zo H H'/\H' p=some (.lst (iL (Pour.st xs ys i j))))
    ⟨_,_,rfl,s2.trans st,st _ _ hp2⟩ (λj σ H' _ ⟨_,_,_,s,_⟩=>s.seq hb) ?_ ?_
   .rintro j v t2 σ H2 hv2 ht2 ⟨v5,v6,rfl,s3,hp3⟩;obtain⟨y,hy,rfl⟩:=ints_get hv2;have st2:zo H2 (upd H2 t2 (.tup [.int (j:Nat),.int y])):=zc ht2;have hp4:=st2 _ _ hp3;have hi:i<xs.length:=(X5.mp hx).1;have hj:j<ys.length:=(X5.mp hy).1;have en2:((i:Int)+(j:Int)).toNat=i+j:=by lia
    refine⟨t2,_,rfl,SqT.of zb,rfl,_,_,rfl,_,_,rfl,rfl,?_⟩;refine⟨_,rfl,_,rfl,_,rfl,_,_,rfl,rfl,p,_,_,_,rfl,rfl,SqL.of hp4,zgo (by lia) (by rw[en2];exact zh4 (Pour.zgO (by lia))),?_⟩;refine⟨_,rfl,_,rfl,_,_,rfl,rfl,zp5 (bx _ (X6 hx)) (bY _ (X6 hy)),_,_,rfl,rfl,p,_,_,_,rfl,rfl,hp4,zlf (by lia) (by rw[Y1,Pour.zgN];lia),?_⟩;refine⟨_,_,rfl,λc o e=>?_,?_⟩
    .have hc:c≠p:=λz=>by
      subst z;rw[hp0] at e;cases e
     rw[zf hc];exact st2 _ _ (s3 _ _ e)
    .rw[zb,en2,<- Pour.zmU hx hy];show some (HO.lst ((T1 V.int _).set _ (V.int _)))=_;rw[<- OG]
   .rintro σ H2 ⟨v5,v6,rfl,s3,hp3⟩;rw[Y1,Pour.zo6] at hp3;exact⟨_,_,_,_,rfl,s3,hp3⟩
  .rintro σ H1 ⟨v3,v4,v5,v6,rfl,s2,hp2⟩;rw[Y1,Pour.zo7] at hp2;exact⟨_,rfl,q p H1 hp0 hp2 s2⟩
def xq:zB ["lists","counts","others"] ["lists"] (zp xZ):=bz rfl rfl rfl rfl (by decide+kernel)
def zc2 (T:Txt mg)(Z:Prog K mg)(D:zm K mg "all_poured" xZ ["lists"] f fd):qa P w K mg base CX0 2 f fd ["lists"] zpj:=by
 obtain⟨zqt,zpH,zfO⟩:=Z.poured;refine D.F.ok xq (λvs H Q E h=>?_) (λcdv A outer s H vs Q E hr h=>?_)
 .obtain⟨la,us,xss,rfl,_⟩:=h;rfl
 .obtain⟨la,us,xss,rfl,hla,hx,ok,q⟩:=h;refine⟨_,(@ze _ _ _ _ _ (@qH _ _ 1 _ _ _ _ xq.nd rfl (Vz rfl) (@zI _ _ _ _ (@za _ _ _ _ _ zj zd rfl)) (by rfl) (.inr rfl)) (ze (qI WV rfl (zH (pvS 0)) (pgq 2 xq.nd) (zh (jo 1 xq.nd (pc0 (zjx T zfO) hr zfO (za (pvS 1) (za (pvS 2) zd)))))) (zh (zG (pvS 1))))),?_⟩;(try dsimp only[cxK,cxP,cxW]);refine⟨sz_1,λc0 hc0=>?_⟩;have s0:zo H (upd H c0 (.lst [.int 1])):=zc hc0;refine⟨_,rfl,la,rfl,⟨_,SqL.of (s0 _ _ hla)⟩,?_⟩;refine xw (K:=K) (a:=la) (xs:=us) (λi σ H'=>∃(c:Addr) (v2:Option V),σ=[some (.ref la),some (.ref c),v2]/\zo H H'/\H c=none/\H' c=some (.lst (iL ((xss.take i).foldl Pour.YU [1]))))
   ⟨c0,_,rfl,s0,hc0,zb⟩ (λi σ H' _ ⟨_,_,_,y,_⟩=>SqL.of (y _ _ hla)) ?_ ?_
  .rintro i v σ H1 hv ⟨c,v2,rfl,s1,hc,hc1⟩;obtain⟨xs,a1,hxs,rfl,ha1⟩:=zln hx hv;obtain⟨o1,o2,o3⟩:=ok.one xs (X6 hxs);obtain⟨p1,p2,p3⟩:=ok.acc i;refine⟨_,rfl,_,rfl,c,a1,_,xs,rfl,SqL.of hc1,SqL.of (s1 _ _ ha1),p1,p2,o1,o2,p3,o3,λd H2 hd hd2 s2=>?_⟩;refine⟨d,_,rfl,s1.trans s2,s1.free hd,?_⟩;rw[hd2,Xc,hxs,UH];rfl
  .rintro σ H1 ⟨c,v2,rfl,s1,hc,hc1⟩;rw[zdQ hx,Xz] at hc1;exact⟨_,rfl,q c H1 hc hc1 s1⟩
def zcr:zB ["board"] ["board"] (zp yY):=bz rfl rfl rfl rfl (by decide+kernel)
def zcs {jaj:Addr}(T:Txt mg)(Z:Prog K mg)(jat:ql K mg "TooGreat" jaj)(D:zm K mg "near_counts" yY ["board"] f fd):qa P w K mg base (CXE P w) 6 f fd ["board"] (zpl jaj):=by
 obtain⟨Q9,YN,zM⟩:=Z.around;obtain⟨YO,ZJ,zu⟩:=Z.sign_at;obtain⟨ZK,JN,zC⟩:=Z.cells_of;obtain⟨ZL,JT,zD⟩:=Z.open_cells;obtain⟨Yj,ZM,qo⟩:=Z.number_at;obtain⟨zeB,zc1,ZN⟩:=Z.numbers_of;obtain⟨zg3,zfK,Qt⟩:=Z.needs_at;obtain⟨zjq,zg4,zaG⟩:=Z.may_fit;obtain⟨zcq,zba,Jt⟩:=Z.part_layings;obtain⟨zjr,zg6,zaH⟩:=Z.counted;obtain⟨zlX,zlp,xr⟩:=Z.part_counts;obtain⟨xG,yF,zz⟩:=Z.closed_around;obtain⟨zqu,zpI,Q8⟩:=Z.joined;obtain⟨zqG,zqv,zh9⟩:=Z.parts;obtain⟨znd,zlY,zab⟩:=Z.all_poured;refine D.F.okX zcr (λvs H Q E h=>?_) (λcdv A outer s H vs Q E hr h=>?_)
 .obtain⟨p,l,rs,n,rfl,_⟩:=h;rfl
 .obtain⟨p,l,rs,n,rfl,b,R,qg,q⟩:=h;refine⟨_,(zh (zG (pc0 (zc2 T Z zab) hr zab (za (zq7 qy ["part","board"] [none,some 0] cR (zH (pc0 (zk7 T zh9 zM zu zC zD zz Q8) hr zh9 (za (pvS 0) zd))) (pgN 0) qc (zbh (zcp T Z jat xr) (hr.mono (by decide)) (by rfl) xr.g xr.F.kp xr.b .nil zeu (za (pvS 1) (za (pvS 0) zd)))) zd)))),?_⟩;(try dsimp only[cxK,cxP,cxW]);refine⟨_,rfl,p,l,rs,n,rfl,b,R,λd ws gs H1 hd hd1 hG _ _ G up s1=>⟨d,rfl,⟨_,SqL.of hd1⟩,λz hz=>?_⟩⟩;have g64:gs.length<=64:=XZ (Parts.QZ G.ne) (zaa G R);refine qE (K:=K) (a:=d) (xs:=ws) (λj σ' H'=>∃(u0:Option V) (ys:AE),σ'=[u0,some (.ref p)]/\zo H1 H'/\H' z=some (.lst ys)/\(∀v∈ys,∀a,v=V.ref a->a≠z)/\(∀g∈gs.take j,g.length<=14)/\zaS H' ys (tls rs (gs.take j)))
   ⟨_,[],rfl,zc hz,zb,(λ_ h=>nomatch h),(λ_ h=>nomatch h),.nil⟩ (λj σ' H' _ ⟨_,_,_,y,_⟩=>SqL.of (y _ _ hd1)) ?_ ?_
  .rintro j v σ' H2 hv ⟨u0,ys,rfl,s2,hz2,nz,n14,hy2⟩;obtain⟨g,hg,ga,ug,rfl,hga,hcg⟩:=xA.get (hG.mono s2) hv;have gm:=X6 hg;have il:=(X5.mp hg).1;have g64':g.length<=64:=XZ (Vu (Wb gm)) (zaa G R);unfold jN;refine ZI ?_;refine⟨_,rfl,_,rfl,p,l,ga,rs,n,ug,g,rfl,(b.mono s1).mono s2,R,hga,hcg,qi (G.srt g gm),g64',λg14 H3 s3=>qg gs G ⟨g,gm,g14⟩ H3 ((s1.trans s2).trans s3),λg14 e H3 he he3 s3=>?_⟩;rw[zjt] at he3;have ez:e≠z:=λy=>by
    subst y;rw[hz2] at he;cases he
   refine⟨_,s3 _ _ hz2,?_,_,ys++[.ref e],rfl,λb o e'=>?_,zb,λv hv a ea=>?_,λg' hg'=>?_,?_⟩
   .rw[zdQ hy2];unfold tls;rw[Y1,XF];exact Xw (show _<=64 by lia) (by decide)
   .rw[zf (zg e' hz)];exact s3 _ _ (s2 _ _ e')
   .rcases XQ.mp hv with hv | hv
    .exact nz v hv a ea
    .have:v=V.ref e:=by simpa using hv
     rw[this] at ea;cases ea;exact ez
   .rw[Xc,hg] at hg';rcases XQ.mp hg' with y | y
    .exact n14 g' y
    .have y:g'=g:=by simpa using y
     rw[y];exact g14
   .have t1:tls rs (gs.take (j+1))=tls rs (gs.take j)++[Tally.tl g (Yk rs g)]:=by
     unfold tls;rw[Xc,hg,Xh];rfl
    rw[t1];have into:∀{us:AE} {xss:List (List Int)},zaS H3 us xss->(∀v∈us,∀a,v=V.ref a->a≠z)->zaS (upd H3 z (.lst (ys++[.ref e]))) us xss:=by
     intro us xss h;induction h with
     | nil=>exact λ_=>.nil
     | cons h t ih =>
      intro nz;obtain⟨a,rfl,ha⟩:=h;exact .cons ⟨a,rfl,by rw[zf (nz _ XU a rfl)];exact ha⟩ (ih λv hv=>nz v (XR _ hv))
    exact Paired.snoc (into (zg9 s3 hy2) nz) ⟨e,rfl,by rw[zf ez];exact he3⟩
  rintro σ' H2 ⟨u0,ys,rfl,s2,hz2,_,n14,hy2⟩;rw[hG.length,Xz] at hy2 n14;refine⟨z,ys,tls rs gs,rfl,hz2,hy2,zpk R G,λe H3 he he3 s3=>?_⟩;have s12:=s1.trans s2;rw[show (tls rs gs).foldl Pour.YU [1]=Tally.tl gs.flatten (Tally.Zy (Yk rs) gs) from zli G] at he3;exact q e gs H3 (s12.free he) n14 G up he3 (s12.trans s3)
def chV (n k:Int):Int:=if 0<=k/\k<=n then ((Choose.ch n.toNat k.toNat:Nat):Int) else 0
def zne (m:Nat)(k:Int):chV (m:Nat) k=Tally.chZ m k:=by
 unfold chV Tally.chZ;rw[VE];by_cases h0:k<0
 .rw[bw (by lia),br h0]
 .rw[bw h0];by_cases h1:k<=(m:Int)
  .rw[br ⟨by lia,h1⟩]
  .rw[bw (by lia),Choose.zau m k.toNat (by lia)];rfl
def znf {n k:Int}(h:n<=64):(chV n k).natAbs<2^8000:=by
 have h1:(2:Nat)^64<2^8000:=Pf (by decide) (by decide);have hz:(0:Nat)<2^8000:=Xw (WT _) h1;unfold chV;split
 .rw[RY];exact Xw (XZ (Choose.zql _ _) (TU (by decide) (show n.toNat<=64 by lia))) h1
 .exact hz
def dlV (xs:List Int)(m st:Int):Int:=Pour.S (λk=>Pour.F xs k*chV m (st-(k:Nat))) xs.length
def zng (xs:List Int)(m:Nat)(st:Int):dlV xs (m:Nat) st=Tally.dl xs m st:=by
 unfold dlV Tally.dl;exact Pour.Zx _ λi _=>by rw[zne]
theorem zn1 (h:Nat->Int):∀n,((Wy n).map h).sum=Pour.S h n
 | 0=>rfl
 | n+1=>by
  rw[UK,Xh,List.sum_append,zn1 h n];show _+(h n+0)=Pour.S h n+h n;lia
def zrd:Sp:=λvs H Q _=>∃(n k:Int),vs=[.int n,.int k]/\n<=64/\Q (.int (chV n k)) H
def znh:Sp:=λvs H Q _=>∃(c:Addr) (xs:List Int) (m st:Int),vs=[.ref c,.int m,.int st]/\H c=some (.lst (iL xs))/\zju xs/\xs.length<=150/\m<=64/\∀H',zo H H'->Q (.int (dlV xs m st)) H'
def zct (rs:AD)(n:Int):Int:=((Tally.T (zx rs) (Ju rs) n.toNat:Nat):Int)
def zia (CG:Addr):Sp:=λvs H Q E=>∃(p l:Addr) (rs:AD) (n:Int),vs=[.ref p]/\qF H p l rs n/\Rows bd.cps.toList rs/\(∀gs,Parts.Good (clA rs) (zK rs) gs->(∃g∈gs,14<g.length)->∀H',zo H H'->E (.ref CG) none H')/\0<=n/\∀gs,Parts.Good (clA rs) (zK rs) gs->(∀g∈gs,g.length<=14)->∀H',zo H H'->Q (.int (zct rs n)) H'
def ZP:zB ["n","k","found","step"] ["n","k"] (zp YH):=bz rfl rfl rfl rfl (by decide+kernel)
def zha (T:Txt mg)(D:zm K mg "choices" YH ["n","k"] f fd):qa P w K mg base CX0 1 f fd ["n","k"] zrd:=by
 refine D.F.ok ZP (λvs H Q E h=>?_) (λcdv A outer s H vs Q E hr h=>?_)
 .obtain⟨n,k,rfl,_⟩:=h;rfl
 .obtain⟨n,k,rfl,n1,q⟩:=h;refine⟨_,(ze (je (zgh (zeT zer zer zj (pvS 1) (pvS 0))) (@zh _ _ _ (@zG _ _ _ _ zj)) qf) (@ze _ _ _ _ _ (@qH _ _ 2 _ _ _ _ ZP.nd rfl (Vz rfl) zj (by rfl) (.inr rfl)) (ze (qI WV rfl (prg T.qT (pvS 1)) (pgq 3 ZP.nd) (zh (jo 2 ZP.nd (zL YC (zL zbj (pvS 2) (zL YB (pvS 0) (pvS 3))) (zL jZ (pvS 3) zj))))) (zh (zG (pvS 2)))))),?_⟩;(try dsimp only[cxK,cxP,cxW]);refine⟨_,rfl,_,_,rfl,rfl,_,rfl,?_⟩;unfold chV at q;refine zmk (λc=>?_) (λc=>?_)
  .have k0:(0:Int)<=k:=bh c;refine⟨_,rfl,_,_,rfl,rfl,_,rfl,?_⟩;by_cases c:k<=n
   .rw[br ⟨k0,c⟩] at q;rw[bu c];refine zcP ?_;refine⟨_,rfl,k,rfl,by lia,by lia,?_⟩;refine qV (lo:=0) (n:=k.toNat) (λi σ H'=>∃v,σ=[some (.int n),some (.int k),some (.int (Choose.ch n.toNat i)),v]/\H'=H) ⟨_,by rw[Choose.YD];rfl,rfl⟩ ?_ ?_
    .rintro i σ H' hi ⟨v,rfl,rfl⟩;refine⟨_,rfl,_,rfl,_,rfl,_,_,rfl,rfl,_,_,rfl,rfl,zq0 (by lia) (by lia),_,rfl,_,_,rfl,rfl,_,_,rfl,rfl,zaK.small (by lia) (by lia),?_⟩;refine⟨some (.int (0+(i:Int))),?_,rfl⟩;have e:=Choose.zmV (n:=n.toNat) (k:=i) (by lia);have e1:((n.toNat:Nat):Int)=n:=Sl (by lia);rw[e1] at e;have e2:(Choose.ch n.toNat i:Int)*(n-(0+(i:Int)))/(0+(i:Int)+1)=Choose.ch n.toNat (i+1):=by
      rw[VH];exact e
     show [_,_,some (V.int ((Choose.ch n.toNat i:Int)*(n-(0+(i:Int)))/(0+(i:Int)+1))),_]=_;rw[e2]
    .rintro σ H' ⟨v,rfl,rfl⟩;exact⟨_,rfl,q⟩
   .rw[bw (λh=>c h.2)] at q;rw[bg c];exact za6 q
  .have k0:¬ (0:Int)<=k:=λz=>c (bu z);rw[bw (λh=>k0 h.1)] at q;exact⟨_,rfl,za6 q⟩
def zlq:zB ["counts","cells","stones"] ["counts","cells","stones"] (zp zbs):=bz rfl rfl rfl rfl (by decide+kernel)
def zlr (T:Txt mg)(Z:Prog K mg)(D:zm K mg "dealt" zbs ["counts","cells","stones"] f fd):qa P w K mg base CX0 2 f fd ["counts","cells","stones"] znh:=by
 obtain⟨zpJ,zpm,zdR⟩:=Z.choices;refine D.F.ok zlq (λvs H Q E h=>?_) (λcdv A outer s H vs Q E hr h=>?_)
 .obtain⟨c,xs,m,st,rfl,_⟩:=h;rfl
 .obtain⟨c,xs,m,st,rfl,hc,bx,xl,m1,q⟩:=h;refine⟨_,(zh (zG (pb1 (ze5 rfl) T.znX Py (pcm ["k","many","cells","stones"] [none,none,some 1,some 2] cR (JY (by rfl) T.jE (za (pvS 0) zd)) (zhz (n:=2) (K:=K) (by rfl) rfl (zP (pgN 0) (zP (pgN 1) jX))) qc (zL zbj (pvS 1) (pc0 (zha T zdR) hr zdR (za (pvS 2) (za (zL YB (pvS 3) (pvS 0)) zd)))))))),?_⟩;(try dsimp only[cxK,cxP,cxW]);refine⟨_,rfl,c,rfl,⟨_,SqL.of hc⟩,λz hz=>?_⟩;refine zgr (K:=K) (a:=c) (xs:=iL xs) (λi σ H'=>(∃u0 u1,σ=[u0,u1,some (.int m),some (.int st)])/\zo H H'/\H' z=some (.lst (iL ((Wy i).map λk=>Pour.F xs k*chV m (st-(k:Nat)))))) ⟨⟨_,_,rfl⟩,zc hz,zb⟩ (λi σ H' _ ⟨_,s3,_⟩=>SqL.of (s3 _ _ hc)) ?_ ?_
  .rintro i x tt σ H3 hx htt ⟨⟨u0,u1,rfl⟩,s3,hz3⟩;obtain⟨y,hy,rfl⟩:=ints_get hx;have il:=(X5.mp hy).1;have s4:=zc (o:=.tup [.int ((i:Nat):Int),.int y]) htt;refine⟨tt,_,rfl,SqT.of zb,rfl,_,_,rfl,_,_,rfl,rfl,?_⟩;unfold zj0;refine za6 ⟨_,rfl,_,rfl,_,rfl,_,rfl,_,_,rfl,rfl,m,_,rfl,m1,_,_,rfl,rfl,zp5 (bx y (X6 hy)) (znf m1),_,s4 _ _ hz3,?_,⟨_,_,rfl⟩,λb' o e'=>?_,?_⟩
   .rw[Y1,Y1,WI];exact Xs (show i<150 by lia) (by decide)
   .rw[zf (zg e' hz)];exact s4 _ _ (s3 _ _ e')
   .rw[zb,UK,Xh];show _=some (HO.lst (iL (_++[Pour.F xs i*chV m (st-(i:Nat))])));rw[zna,Pour.zmS hy]
  .rintro σ H3 ⟨_,s3,hz3⟩;refine⟨z,_,rfl,SqL.of hz3,?_⟩;rw[Y1,zn1];exact q _ s3
def zfP:zB ["board","near"] ["board"] (zp zbr):=bz rfl rfl rfl rfl (by decide+kernel)
def zls {jaj:Addr}(T:Txt mg)(Z:Prog K mg)(jat:ql K mg "TooGreat" jaj)(D:zm K mg "count" zbr ["board"] f fd):qa P w K mg base (CXE P w) 7 f fd ["board"] (zia jaj):=by
 obtain⟨Q9,YN,zM⟩:=Z.around;obtain⟨YO,ZJ,zu⟩:=Z.sign_at;obtain⟨ZK,JN,zC⟩:=Z.cells_of;obtain⟨zlt,zjy,yr⟩:=Z.closed;obtain⟨ZL,JT,zD⟩:=Z.open_cells;obtain⟨Yj,ZM,qo⟩:=Z.number_at;obtain⟨xG,yF,zz⟩:=Z.closed_around;obtain⟨zrr,zre,zn2⟩:=Z.far;obtain⟨zni,zlZ,zac⟩:=Z.bare_wrong;obtain⟨zl0,zlu,Y8⟩:=Z.near_counts;obtain⟨zqH,zqw,zib⟩:=Z.dealt;refine D.F.okX zfP (λvs H Q E h=>?_) (λcdv A outer s H vs Q E hr h=>?_)
 .obtain⟨p,l,rs,n,rfl,_⟩:=h;rfl
 .obtain⟨p,l,rs,n,rfl,b,R,qg,n0,q⟩:=h;refine⟨_,(ze (jo 1 zfP.nd (pcL qy (zcs T Z jat Y8) hr Y8 (za (pvS 0) zd))) (ze (je (zV (yC hr.units) (pc0 (zcY T zac zM zu zC zz zD qo) hr zac (za (pvS 0) zd)) (@zI _ _ _ _ zd) (zY _)) (@zh _ _ _ (@zG _ _ _ _ zj)) qf) (zh (zG (pc0 (zlr T Z zib) hr zib (za (pvS 1) (za (pb1 zO T.jk W2 (pc0 (zpd T zn2 zM zu zC yr zD) hr zn2 (za (pvS 0) zd))) (za (zE qA (pvS 0) zj (λ_ _=>rfl)) zd)))))))),?_⟩;(try dsimp only[cxK,cxP,cxW]);refine⟨_,rfl,p,l,rs,n,rfl,b,R,qg,λd1 gs H1 hd1 n14 G up zrf s1=>?_⟩;have q:=q gs G n14;refine⟨_,rfl,p,l,rs,n,rfl,b.mono s1,R,λd2 w2 H2 hd2 zrg hc2 s2=>⟨Jy,λe he=>?_⟩⟩;have s3:=zc (o:=.lst []) he;have ci:=count_is G n.toNat;rw[Sl n0] at ci;unfold zct at q;rw[<- ci] at q;refine⟨.list ((Z0 rs).map zk),.list [],.lst (SqL.of (s3 _ _ zrg)) (zq.rdv (N:=λ_=>True) (Cel.rdn (Cel.mono s3 hc2))),.lst (SqL.of zb) .nil,zcf _ [],_,rfl,?_⟩;have ee:(if true=true then !PyData.eqv (.list ((Z0 rs).map zk)) (.list []) else WL (.list ((Z0 rs).map zk)) (.list []))=!(Z0 rs).isEmpty:=by
   show (!PyData.eqv _ _)=_;rw[eq_nil]
  rw[ee];have s13:=(s1.trans s2).trans s3;have hd13:=s3 _ _ (s2 _ _ zrf);generalize upd H2 e (.lst [])=H3 at *
  cases hb:(Z0 rs).isEmpty with
  | false =>
   rw[hb,bw XT] at q;exact za6 (q _ s13)
  | true =>
   rw[hb,br rfl] at q;refine zcP ?_;have b3:=b.mono s13;refine⟨_,rfl,_,rfl,p,l,rs,n,rfl,b3,R,λd4 ws4 H4 _ hd4 hc4 s4=>⟨d4,_,rfl,.inl (SqL.of hd4),?_⟩⟩;have hl:=hc4.length;have h64:(za8 rs).length<=64:=XZ (Xg _ _) (jA (p:=yx) R);have g64:=zaa G R;refine⟨_,rfl,p,_,1,_,rfl,rfl,SqT.of (b3.mono s4).tp,rfl,d1,_,(ws4.length:Nat),n,rfl,s4 _ _ hd13,zg7 g64,by rw[Tally.Yg];lia,by lia,λH' s'=>?_⟩;rw[hl,zng];exact q _ ((s13.trans s4).trans s')
abbrev KV1:=List (List Key×V)
def Zg (c:AA):List Key:=[.inl ((c.1:Nat):Int),.inl ((c.2:Nat):Int)]
def zlv {c d:AA}(h:Zg c=Zg d):c=d:=by
 unfold Zg at h;obtain⟨a,b⟩:=c;obtain⟨x,y⟩:=d;simp only[List.cons.injEq,Sum.inl.injEq,and_true] at h;obtain⟨h1,h2⟩:=h;have e1:a=x:=by lia
 have e2:b=y:=by lia
 rw[e1,e2]
def zlw {kvs:KV1}{k:List Key}{v:V}(h:jf kvs k=some v):(k,v)∈kvs:=by
 unfold jf at h;cases e:kvs.find? (λkv=>decide (kv.1=k)) with
 | none =>
  rw[e] at h;cases h
 | some kv =>
  rw[e] at h;have h1:kv.2=v:=by simpa using h
  have h2:kv.1=k:=bh (show decide (kv.1=k)=true from List.find?_some (p:=λ(kv:List Key×V)=>decide (kv.1=k)) e);have h3:=List.mem_of_find?_eq_some e;rw[<- h1,<- h2];exact h3
def zfQ (kvs:KV1)(k:List Key)(v:V):(k∈kvs.map (·.1)/\(putK kvs k v).map (·.1)=kvs.map (·.1))\/(¬ k∈kvs.map (·.1)/\(putK kvs k v).map (·.1)=kvs.map (·.1)++[k]):=by
 unfold putK;by_cases h:(kvs.any λkv=>decide (kv.1=k))=true
 .refine .inl ⟨?_,?_⟩
  .obtain⟨kv,h1,h2⟩:=WF.mp h;exact XM.mpr ⟨kv,h1,bh h2⟩
  .rw[br h,Wg];refine Xa λkv _=>?_;show (if kv.1=k then (kv.1,v) else kv).1=kv.1;split<;>rfl
 .refine .inr ⟨λhm=>?_,?_⟩
  .obtain⟨kv,h1,h2⟩:=XM.mp hm;exact h (WF.mpr ⟨kv,h1,bu h2⟩)
  .rw[bw h,Xh];rfl
def zpn {kvs:KV1}(k:List Key)(v:V)(h:(kvs.map (·.1)).Nodup):((putK kvs k v).map (·.1)).Nodup:=by
 rcases zfQ kvs k v with ⟨_,e⟩ | ⟨hn,e⟩
 .rw[e];exact h
 .rw[e,WW];refine⟨h,by simp,λa ha b hb z=>hn ?_⟩;have eb:b=k:=by simpa using hb
  rw[<- eb,<- z];exact ha
theorem zic:∀(ps acc:KV1),(acc.map (·.1)).Nodup->((ps.foldl (λacc kv=>putK acc kv.1 kv.2) acc).map (·.1)).Nodup
 | [],_,h=>h
 | p::r,acc,h=>zic r _ (zpn p.1 p.2 h)
theorem zdS:∀(ps acc:KV1) (k:List Key),k∈(ps.foldl (λacc kv=>putK acc kv.1 kv.2) acc).map (·.1)->k∈acc.map (·.1)\/k∈ps.map (·.1)
 | [],_,_,h=>.inl h
 | p::r,acc,k,h=>by
  rcases zdS r _ k h with h | h
  .rcases zfQ acc p.1 p.2 with ⟨_,e⟩ | ⟨_,e⟩
   .rw[e] at h;exact .inl h
   .rw[e] at h;rcases XQ.mp h with h | h
    .exact .inl h
    .exact .inr (by
      have:k=p.1:=by simpa using h
      rw[this];exact XU)
  .exact .inr (XR _ h)
theorem zfR:∀(ps acc:KV1),(ps.foldl (λacc kv=>putK acc kv.1 kv.2) acc).length<=acc.length+ps.length
 | [],_=>XV _
 | p::r,acc=>by
  have h1:=zfR r (putK acc p.1 p.2);have h2:=Z6 acc p.1 p.2;rw[VL,Xj];lia
theorem zdT:∀(b a:KV1) (k:List Key),(b.map (·.1)).Nodup->jf (Ql a b) k=(jf b k).or (jf a k)
 | [],a,k,_=>rfl
 | kv::r,a,k,hn=>by
  rw[Xu,WB] at hn;show jf (Ql (putK a kv.1 kv.2) r) k=_;rw[zdT r _ k hn.2,ze9];by_cases e:kv.1=k
  .rw[jv e,br e.symm];have:jf r k=none:=by
    cases hr:jf r k with
    | none=>rfl
    | some v=>exact absurd (XM.mpr ⟨(k,v),zlw hr,by rw[e]⟩) hn.1
   rw[this];rfl
  .rw[jw e,bw (λz=>e z.symm)]
def JO (cs:AB)(v:V):KV1:=zfc (cs.map λc=>(Zg c,v))
theorem zcu (v:V)(x:AA):∀(cs:AB) (acc:KV1),jf ((cs.map λc=>(Zg c,v)).foldl (λacc kv=>putK acc kv.1 kv.2) acc) (Zg x)=if x∈cs then some v else jf acc (Zg x)
 | [],acc=>by simp
 | c::r,acc=>by
  rw[Xu,VL,zcu v x r,ze9];by_cases h:x∈r
  .rw[br h,br (XR _ h)]
  .rw[bw h];by_cases e:x=c
   .subst e;rw[br rfl,br XU]
   .rw[bw (λz=>e (zlv z)),bw (λz=>by rcases XG.mp z with z | z;exact e z;exact h z)]
def zfS {cs:AB}{v:V}(h:∀c∈cs,c.1<8/\c.2<8):L2.Small ((JO cs v).map (·.1)):=λk hk=>by
 rcases zdS _ [] k hk with h1 | h1
 .exact nomatch h1
 .rw[Wg] at h1;obtain⟨c,hc,rfl⟩:=XM.mp h1;exact⟨c.1,c.2,(h c hc).1,(h c hc).2,rfl⟩
def zdU (cs:AB)(v:V):(JO cs v).length<=cs.length:=by
 have:=zfR (cs.map λc=>(Zg c,v)) [];rw[Y1] at this;unfold JO zfc;simpa using this
structure j5 (H:Hp)(fa fc fs:Addr)(us ws:AE)(cl st:AB):Prop where
 tp:H fa=some (.tup [.ref fc,.ref fs])
 h1:H fc=some (.lst us)
 h2:H fs=some (.lst ws)
 c1:Cel H us cl
 c2:Cel H ws st
theorem j5.mono {H H':Hp}{fa fc fs:Addr}{us ws:AE}{cl st:AB}(x:j5 H fa fc fs us ws cl st)(s:zo H H'):j5 H' fa fc fs us ws cl st:=⟨s _ _ x.tp,s _ _ x.h1,s _ _ x.h2,x.c1.mono s,x.c2.mono s⟩
structure zqx (cl st:AB):Prop where
 b1:∀c∈cl,c.1<8/\c.2<8
 b2:∀c∈st,c.1<8/\c.2<8
 l1:cl.length<=64
 l2:st.length<=64
def zid (kvs:KV1)(cl st:AB):Prop:=∀c,jf kvs (Zg c)=if c∈st then some (V.int 1) else if c∈cl then some (V.int 0) else none
def zie:Sp:=λvs H Q _=>∃(fa fc fs:Addr) (us ws:AE) (cl st:AB),vs=[.ref fa]/\j5 H fa fc fs us ws cl st/\zqx cl st /\
 ∀(d:Addr) (kvs:KV1) (H':Hp),H d=none->H' d=some (.dT kvs)->zid kvs cl st->zo H H'->Q (.ref d) H'
def zad (st cs:AB):List Int:=cs.map λc=>if c∈st then 1 else 0
def zU (cl st cs:AB):AB:=cs.filter λc=>!(decide (c∈st) || decide (c∈cl))
def zif:Sp:=λvs H Q _=>∃(t la kd:Addr) (a0:Int) (us:AE) (cs cl st:AB) (kvs:KV1),vs=[.ref t,.ref kd]/\H t=some (.tup [.int a0,.ref la])/\H la=some (.lst us)/\Cel H us cs/\cs.length<=64/\H kd=some (.dT kvs)/\zid kvs cl st /\
 ∀(r l2:Addr) (ws:AE) (H':Hp),H r=none->H l2=none->H' r=some (.tup [.int (a0-(zad st cs).sum),.ref l2])->H' l2=some (.lst ws)->Cel H' ws (zU cl st cs)->zo H H'->Q (.ref r) H'
def zaT:zB ["finding","known"] ["finding"] (zp ZE):=bz rfl rfl rfl rfl (by decide+kernel)
def zfT (T:Txt mg)(D:zm K mg "known_of" ZE ["finding"] f fd):qa P w K mg base CX0 1 f fd ["finding"] zie:=by
 refine D.F.ok zaT (λvs H Q E h=>?_) (λcdv A outer s H vs Q E hr h=>?_)
 .obtain⟨fa,fc,fs,us,ws,cl,st,rfl,_⟩:=h;rfl
 .obtain⟨fa,fc,fs,us,ws,cl,st,rfl,X,Fi,q⟩:=h;refine⟨_,(ze (jo 1 zaT.nd (pt1 (ZZ hr.units hr.hd) T.zkU PU (pcm ["cell"] [none] cP (zH (zE qO (pv 0) zj (λ_ _=>rfl))) (pgN 0) qc (qp (za (pv 0) (@za _ _ _ _ _ zj zd rfl)))))) (ze (jW (JW Ri RA PySem.F.type_dict_update (zgA hr.units) (pv 1) (za (pt1 (ZZ hr.units hr.hd) T.zkU PU (pcm ["cell"] [none] cP (zH (zE qO (pv 0) zj (λ_ _=>rfl))) (pgN 0) qc (qp (za (pv 0) (@za _ _ _ _ _ zj zd rfl))))) zd))) (zh (zG (pv 1))))),?_⟩;(try dsimp only[cxK,cxP,cxW]);refine⟨_,rfl,fa,_,0,_,rfl,rfl,SqT.of X.tp,rfl,fc,rfl,⟨_,SqL.of X.h1⟩,λy hy=>?_⟩;have l1:=Fi.l1;have l2:=Fi.l2;refine qE (K:=K) (a:=fc) (xs:=us) (λi σ H'=>(∃u0,σ=[u0])/\zo H H'/\∃ys,H' y=some (.lst ys)/\j6 H' ys ((cl.take i).map λc=>(Zg c,V.int 0))) ⟨⟨_,rfl⟩,zc hy,[],zb,.nil⟩ (λi σ H' _ ⟨_,s6,_⟩=>SqL.of (s6 _ _ X.h1)) ?_ ?_
  .rintro i x σ H6 hx ⟨⟨u0,rfl⟩,s6,ys,hy6,hp6⟩;obtain⟨c,hci,ca,rfl,hca⟩:=Cel.get (Cel.mono s6 X.c1) hx;refine xU ⟨_,rfl,jP,λp hp=>?_⟩;have s7:=zc (o:=.tup [.ref ca,.int 0]) hp;have hlen:ys.length<=64:=by
    rw[hp6.length,Y1,XF];lia
   refine⟨ys,s7 _ _ hy6,Xw hlen (by decide),⟨_,rfl⟩,λb' o e'=>?_,ys++[.ref p],zb,?_⟩
   .rw[zf (zg e' hy)];exact s7 _ _ (s6 _ _ e')
   .rw[Xc,hci,Xh];exact j6.into y _ (s7 _ _ hy6) (j6.snoc (hp6.mono s7) ⟨p,ca,rfl,zb,s7 _ _ hca⟩)
  rintro σ H1 ⟨_,s1,ys,hy1,hp1⟩;rw[X.c1.length,Xz] at hp1;refine⟨y,ys,_,rfl,hy1,hp1,λd hd=>?_⟩;have z2:=zc (o:=.dT (JO cl (.int 0))) hd;have hd2:upd H1 d (.dT (JO cl (.int 0))) d=some (.dT (JO cl (.int 0))):=zb;have s2:=s1.trans z2;have X2:=X.mono s2;have fd0:=s1.free hd;show _;refine⟨_,rfl,.inr (.inr (.inl ⟨rfl,.inr ⟨_,zb⟩⟩)),_,rfl,fa,_,1,_,rfl,rfl,SqT.of X2.tp,rfl,fs,rfl,⟨_,SqL.of X2.h2⟩,λy2 hy2=>?_⟩;refine qE (K:=K) (a:=fs) (xs:=ws) (λi σ H'=>(∃u0,σ=[u0])/\zo (upd H1 d (.dT (JO cl (.int 0)))) H'/\∃ys,H' y2=some (.lst ys)/\j6 H' ys ((st.take i).map λc=>(Zg c,V.int 1))) ⟨⟨_,rfl⟩,zc hy2,[],zb,.nil⟩ (λi σ H' _ ⟨_,s6,_⟩=>SqL.of (s6 _ _ X2.h2)) ?_ ?_
  .rintro i x σ H6 hx ⟨⟨u0,rfl⟩,s6,ys,hy6,hp6⟩;obtain⟨c,hci,ca,rfl,hca⟩:=Cel.get (Cel.mono s6 X2.c2) hx;refine xU ⟨_,rfl,jP,λp hp=>?_⟩;have s7:=zc (o:=.tup [.ref ca,.int 1]) hp;have hlen:ys.length<=64:=by
    rw[hp6.length,Y1,XF];lia
   refine⟨ys,s7 _ _ hy6,Xw hlen (by decide),⟨_,rfl⟩,λb' o e'=>?_,ys++[.ref p],zb,?_⟩
   .rw[zf (zg e' hy2)];exact s7 _ _ (s6 _ _ e')
   .rw[Xc,hci,Xh];exact j6.into y2 _ (s7 _ _ hy6) (j6.snoc (hp6.mono s7) ⟨p,ca,rfl,zb,s7 _ _ hca⟩)
  rintro σ H3 ⟨_,s3,ys2,hy3,hp3⟩;rw[X.c2.length,Xz] at hp3;refine⟨y2,ys2,_,rfl,hy3,hp3,λd2 hd2'=>?_⟩;have z4:=zc (o:=.dT (JO st (.int 1))) hd2';have ne:d≠d2:=zg (s3 _ _ hd2) hd2';have hd4:=z4 _ _ (s3 _ _ hd2);refine⟨d,d2,JO cl (.int 0),JO st (.int 1),rfl,rfl,ne,hd4,zb,zfS Fi.b2,?_,_,rfl,?_⟩
  .have a1:=zdU cl (.int 0);have a2:=zdU st (.int 1);exact XZ (show _<=128 by lia) (by decide)
  .refine q d _ _ fd0 zb (λc=>?_) λb o e=>?_
   .rw[zdT (JO st (.int 1)) (JO cl (.int 0)) (Zg c) (zic _ [] Vw)];have e1:jf (JO st (.int 1)) (Zg c)=if c∈st then some (V.int 1) else none:=zcu _ c st []
    have e2:jf (JO cl (.int 0)) (Zg c)=if c∈cl then some (V.int 0) else none:=zcu _ c cl []
    rw[e1,e2];by_cases h1:c∈st
    .rw[br h1,br h1];rfl
    .rw[bw h1,bw h1];rfl
   .rw[zf (zg e fd0)];exact z4 _ _ (s3 _ _ (s2 _ _ e))
def Yl:zB ["asked","known","lying"] ["asked","known"] (zp yZ):=bz rfl rfl rfl rfl (by decide+kernel)
def zcv (T:Txt mg)(D:zm K mg "still_asked" yZ ["asked","known"] f fd):qa P w K mg base CX0 1 f fd ["asked","known"] zif:=by
 refine D.F.ok Yl (λvs H Q E h=>?_) (λcdv A outer s H vs Q E hr h=>?_)
 .obtain⟨t,la,kd,a0,us,cs,cl,st,kvs,rfl,_⟩:=h;rfl
 .obtain⟨t,la,kd,a0,us,cs,cl,st,kvs,rfl,ht,hla,hcs,c64,hkd,hK,q⟩:=h;refine⟨_,(ze (jo 2 Yl.nd (pb1 (ze5 rfl) T.znX Py (pcm ["cell","known"] [none,some 1] cR (zH (zE qO (pv 0) zj (λ_ _=>rfl))) (pgN 0) qc (zfb (u1 hr.units) (pv 1) (pv 0) zj ⟨rfl,rfl,rfl,rfl⟩)))) (zh (zG (qp (za (zL JP (zE qO (pv 0) zj (λ_ _=>rfl)) (pv 2)) (za (pcm ["cell","known"] [none,some 1] cR (zH (zE qO (pv 0) zj (λ_ _=>rfl))) (pgN 0) (qq (zom (ziN (u1 hr.units) (pv 0) (pv 1)))) (pv 0)) zd)))))),?_⟩;(try dsimp only[cxK,cxP,cxW]);refine⟨_,rfl,t,_,1,_,rfl,rfl,SqT.of ht,rfl,la,rfl,⟨_,SqL.of hla⟩,λy hy=>?_⟩;refine qE (K:=K) (a:=la) (xs:=us) (λi σ H'=>(∃u0,σ=[u0,some (.ref kd)])/\zo H H'/\H' y=some (.lst ((zad st (cs.take i)).map V.int))) ⟨⟨_,rfl⟩,zc hy,zb⟩ (λi σ H' _ ⟨_,s6,_⟩=>SqL.of (s6 _ _ hla)) ?_ ?_
  .rintro i x σ H6 hx ⟨⟨u0,rfl⟩,s6,hy6⟩;obtain⟨c,hci,ca,rfl,hca⟩:=Cel.get (Cel.mono s6 hcs) hx;refine xU ⟨_,rfl,kd,rfl,.inr ⟨kvs,.inl (s6 _ _ hkd)⟩,_,rfl,jf kvs (Zg c),zbN.t (k:=Zg c) (s6 _ _ hkd) hca,?_⟩;have eg:(jf kvs (Zg c)).getD (V.int 0)=V.int (if c∈st then 1 else 0):=by
    rw[hK c];by_cases h1:c∈st
    .rw[br h1,br h1];rfl
    .rw[bw h1,bw h1];by_cases h2:c∈cl
     .rw[br h2];rfl
     .rw[bw h2];rfl
   rw[eg];refine⟨_,hy6,?_,⟨_,rfl⟩,λb' o e'=>?_,?_⟩
   .unfold zad;rw[Y1,Y1,XF];exact Xw (show _<=64 by lia) (by decide)
   .rw[zf (zg e' hy)];exact s6 _ _ e'
   .rw[zb,Xc,hci];unfold zad;rw[Xh,Xh];rfl
  rintro σ H1 ⟨_,s1,hy1⟩;rw[hcs.length,Xz] at hy1;refine⟨y,_,rfl,SqL.of hy1,?_⟩;refine⟨_,rfl,t,_,0,_,rfl,rfl,SqT.of (s1 _ _ ht),rfl,_,rfl,_,_,rfl,rfl,_,rfl,t,_,1,_,rfl,rfl,SqT.of (s1 _ _ ht),rfl,la,rfl,⟨_,SqL.of (s1 _ _ hla)⟩,λz hz=>?_⟩;refine z9 (K:=K) (a:=la) (xs:=us) (λa=>a≠z) (cs.map λc=>if (!(decide (c∈st) || decide (c∈cl)))=true then some (zk c) else none) (fun σ=>∃u0,σ=[u0,some (.ref kd)]) hz (λ_ h=>h) ⟨_,rfl⟩ (by rw[Y1];exact hcs.length.symm) (by rw[hcs.length];exact XZ c64 (by decide)) (SqL.of (s1 _ _ hla)) ?_ ?_
  .rintro k x o σ H2 hx ho s2 _ ⟨u0,rfl⟩ Y Z yes no;obtain⟨c,hc,r1⟩:=Cel.get (Cel.mono (s1.trans s2) hcs) hx;have eo:=jg hc ho;obtain⟨ca,rfl,hca⟩:=r1;refine⟨_,rfl,_,rfl,kd,jf kvs (Zg c),rfl,zbN.t (k:=Zg c) (s2 _ _ (s1 _ _ hkd)) hca,_,rfl,?_⟩;have ei:(!(jf kvs (Zg c)).isSome)=!(decide (c∈st) || decide (c∈cl)):=by
    rw[hK c];by_cases h1:c∈st
    .rw[br h1,bu h1];rfl
    .rw[bw h1,bg h1];by_cases h2:c∈cl
     .rw[br h2,bu h2];rfl
     .rw[bw h2,bg h2];rfl
   rw[ei];by_cases hp:(!(decide (c∈st) || decide (c∈cl)))=true
   .rw[br hp] at eo;exact ju hp ⟨_,rfl,yes _ _ _ _ eo ⟨_,rfl⟩ (zo.refl _) (yg.rdn ⟨ca,rfl,hca⟩)⟩
   .rw[bw hp] at eo;exact jd (XC.mpr hp) (no _ _ eo ⟨_,rfl⟩ (zo.refl _))
  .rintro ys H2 s2 hz2 hr2;rw[zR] at hr2;have hc2:Cel H2 ys (zU cl st cs):=zq.cel hr2;refine⟨jP,λr hr3=>?_⟩;have z3:=zc (o:=.tup [.int (a0-(zad st cs).sum),.ref z]) hr3;exact q r z ys _ ((s1.trans s2).free hr3) (s1.free hz) zb (z3 _ _ hz2) (hc2.mono z3) ((s1.trans s2).trans z3)
def zbb (H:Hp)(v:V):Option AA->Prop
 | none=>v=V.str "all"
 | some c=>yg H v c
theorem zbb.mono {H H':Hp}{v:V}(s:zo H H'):∀{th:Option AA},zbb H v th->zbb H' v th
 | none,h=>h
 | some _,⟨a,e,h⟩=>⟨a,e,s _ _ h⟩
def zlx (rs:AD)(n:Int):Option AA->Int
 | none=>n
 | some c=>((Cells.sgn (codes rs) c:Nat):Int)-48
def znj (rs:AD):Option AA->AB
 | none=>zx rs
 | some c=>clA rs c
def zig:Sp:=λvs H Q _=>∃(p l:Addr) (rs:AD) (n:Int) (v:V) (th:Option AA),vs=[.ref p,v]/\qF H p l rs n/\Rows bd.cps.toList rs/\zbb H v th/\(∀c,th=some c->c∈zK rs) /\
 ∀(t l2:Addr) (us:AE) (H':Hp),H t=none->H l2=none->H' t=some (.tup [.int (zlx rs n th),.ref l2])->H' l2=some (.lst us)->Cel H' us (znj rs th)->zo H H'->Q (.ref t) H'
abbrev Rg:=AB×Int×Int
def RgR (H:Hp)(v:V)(g:Rg):Prop:=∃t l us,v=V.ref t/\H t=some (.tup [.ref l,.int g.2.1,.int g.2.2])/\H l=some (.lst us)/\Cel H us g.1
def zfU (H:Hp):AE->List Rg->Prop:=Xl (RgR H)
theorem zfU.get {H:Hp}:∀{vs:AE} {gs:List Rg} {i:Nat} {v:V},zfU H vs gs->vs[i]?=some v->∃g,gs[i]?=some g/\RgR H v g
 | _,_,_,_,.nil,e=>by simp at e
 | _,_,0,_,.cons r _,e=>by
  simp at e;subst e;exact⟨_,rfl,r⟩
 | _,_,i+1,v,.cons _ t,e=>by
  obtain⟨c,h1,h2⟩:=zfU.get (i:=i) (v:=v) t (by simpa using e);exact⟨c,by simpa using h1,h2⟩
def qd (gs:List Rg):AB:=gs.flatMap λg=>if g.2.2=0 then g.1 else []
def qe (gs:List Rg):AB:=gs.flatMap λg=>if g.2.1=((g.1.length:Nat):Int) then g.1 else []
theorem zcw (p:Rg->Bool):∀gs:List Rg,(gs.flatMap λg=>if p g=true then g.1 else []).Sublist (gs.flatMap λg=>g.1)
 | []=>List.Sublist.refl _
 | g::r=>by
  rw[UG,UG];refine List.Sublist.append ?_ (zcw p r);split
  .exact List.Sublist.refl _
  .exact Rm _
def yG (gs:List Rg):(qd gs).Sublist (gs.flatMap λg=>g.1):=by
 have:=zcw (λg=>decide (g.2.2=0)) gs;simpa[qd] using this
def yH (gs:List Rg):(qe gs).Sublist (gs.flatMap λg=>g.1):=by
 have:=zcw (λg=>decide (g.2.1=((g.1.length:Nat):Int))) gs;simpa[qe] using this
def zdV {α:Type}(f:Rg->List α){gs:List Rg}{i:Nat}{g:Rg}(h:gs[i]?=some g):(gs.take (i+1)).flatMap f=(gs.take i).flatMap f++f g:=by
 rw[Xc,h,U6];simp
def zjz:Sp:=λvs H Q _=>∃(r:Addr) (us:AE) (gs:List Rg),vs=[.ref r]/\H r=some (.lst us)/\zfU H us gs/\(gs.flatMap λg=>g.1).Nodup/\(gs.flatMap λg=>g.1).length<64 /\
 ∀(t d1 d2:Addr) (w1 w2:AE) (c1 c2:AB) (H':Hp),H t=none->H d1=none->H d2=none->d1≠d2->H' t=some (.tup [.ref d1,.ref d2])->H' d1=some (.lst w1)->H' d2=some (.lst w2)->Cel H' w1 c1->Cel H' w2 c2 ->
  c1.Perm (qd gs)->c2.Perm (qe gs)->c1.Pairwise Cells.lex->c2.Pairwise Cells.lex->zo H H'->Q (.ref t) H'
def zeE {cs:AB}(nd:cs.Nodup)(h:(cs.map toI).Pairwise λp q=>lt2 q p=false):cs.Pairwise Cells.lex:=by
 rw[We] at h;refine(h.and nd).imp λ{c d} ⟨a,ne⟩=>?_;have b:¬ Cells.lex d c:=λz=>by
  rw[zh3.mpr z] at a;cases a
 have e:¬ (c.1=d.1/\c.2=d.2):=λz=>ne (Prod.ext z.1 z.2);unfold Cells.lex at *
 lia
def zfV:zB ["board","thing"] ["board","thing"] (zp ZD):=bz rfl rfl rfl rfl (by decide+kernel)
def zfW {f1 f2 f3 f4 f5 f6:Addr}{fd1 fd2 fd3 fd4 fd5 fd6:XD}(T:Txt mg)(D:zm K mg "asked_by" ZD ["board","thing"] f fd)(zM:zm K mg "around" jR ["board","cell"] f1 fd1)(zu:zm K mg "sign_at" qN ["board","cell"] f2 fd2)(zC:zm K mg "cells_of" qR ["board"] f3 fd3)
  (yr:zm K mg "closed" J9 ["board"] f4 fd4) (qo:zm K mg "number_at" j9 ["board","cell"] f5 fd5) (zz:zm K mg "closed_around" qJ ["board","cell"] f6 fd6):qa P w K mg base CX0 3 f fd ["board","thing"] zig:=by
 refine D.F.ok zfV (λvs H Q E h=>?_) (λcdv A outer s H vs Q E hr h=>?_)
 .obtain⟨p,l,rs,n,v,th,rfl,_⟩:=h;rfl
 .obtain⟨p,l,rs,n,v,th,rfl,b,R,hth,hop,q⟩:=h;refine⟨_,(ze (je (yV (Qi hr.units) (pv 1) (yU (v:=.str "all") (by rfl) T.znY.choose_spec (by exact⟨_,rfl⟩)) (zY _)) (zh (zG (qp (za (zE qO (pv 0) zj (λ_ _=>rfl)) (za (pc0 (zdH T yr zC zu) hr yr (za (pv 0) zd)) zd))))) qf) (zh (zG (qp (za (pc0 (ZG T qo zu) hr qo (za (pv 0) (za (pv 1) zd))) (za (pc0 (jL T zz zM zu) hr zz (za (pv 0) (za (pv 1) zd))) zd)))))),?_⟩;(try dsimp only[cxK,cxP,cxW]);cases th with
  | none =>
   have ev:v=V.str "all":=hth;subst ev;refine⟨_,rfl,.str "all",.str "all",.str _,.str _,⟨by decide+kernel,by decide+kernel,by decide+kernel⟩,_,rfl,ju (by decide+kernel) ?_⟩;refine⟨_,rfl,p,_,1,_,rfl,rfl,SqT.of b.tp,rfl,_,rfl,p,l,rs,n,rfl,b,R,λd ws H1 hd hd1 hc1 s1=>⟨jP,λt ht=>?_⟩⟩;have z2:=zc (o:=.tup [.int n,.ref d]) ht;exact q t d ws _ (s1.free ht) hd zb (z2 _ _ hd1) (hc1.mono z2) (s1.trans z2)
  | some c =>
   obtain⟨ca,rfl,hca⟩:=hth;have hc:=hop c rfl;obtain⟨t0,k,ht0,hk,hpo,hkin,tln⟩:=R.openAt hc;obtain⟨k1,k2⟩:=zaz hkin hpo;obtain⟨s1',s2'⟩:=j4 R ht0 hk;have es:Cells.sgn (codes rs) c=k:=Cells.zb2 (jy ht0) hk;refine⟨_,rfl,zk c,.str "all",yg.rdv ⟨ca,rfl,hca⟩,.str _,⟨rfl,by decide+kernel,by show max 0 (max 0 0)+1<=64;decide⟩,_,rfl,jd rfl ?_⟩;refine⟨_,rfl,_,rfl,p,l,ca,rs,n,c.1,c.2,t0,k,rfl,b,hca,ht0,hk,tln,k1,k2,_,rfl,_,rfl,p,l,ca,rs,n,c,rfl,b,R,hca,s1',s2',λd ws H1 hd hd1 hc1 s1=>⟨jP,λt ht=>?_⟩⟩;have z2:=zc (o:=.tup [.int ((k:Int)-48),.ref d]) ht;refine q t d ws _ (s1.free ht) hd ?_ (z2 _ _ hd1) (hc1.mono z2) (s1.trans z2);rw[zb];show some (HO.tup [.int ((k:Int)-48),.ref d])=some (.tup [.int (((Cells.sgn (codes rs) c:Nat):Int)-48),.ref d]);rw[es]
def yI:zB ["regions","clears","stones","cells","least","most"] ["regions"] (zp Za):=bz rfl rfl rfl rfl (by decide+kernel)
def zhb (T:Txt mg)(D:zm K mg "settled" Za ["regions"] f fd):qa P w K mg base CX0 1 f fd ["regions"] zjz:=by
 refine D.F.ok yI (λvs H Q E h=>?_) (λcdv A outer s H vs Q E hr h=>?_)
 .obtain⟨r,us,gs,rfl,_⟩:=h;rfl
 .obtain⟨r,us,gs,rfl,hr0,hgs,hnd,h64,q⟩:=h;have lc:∀i,(qd (gs.take i)).length<64:=λi=>Xw (XZ (yG (gs.take i)).length_le (by
   have:gs=gs.take i++gs.drop i:=(W4 i gs).symm;conv=>rhs;rw[this,U6,X0]
   exact U0 _ _)) h64
  have ls:∀i,(qe (gs.take i)).length<64:=λi=>Xw (XZ (yH (gs.take i)).length_le (by
   have:gs=gs.take i++gs.drop i:=(W4 i gs).symm;conv=>rhs;rw[this,U6,X0]
   exact U0 _ _)) h64
  have lg:∀{g:Rg},g∈gs->g.1.length<64:=λ{g} hg=>Xw (by
   obtain⟨i,hi⟩:=UD hg;obtain⟨hl,e⟩:=X5.mp hi;have e1:gs=gs.take i++g::gs.drop (i+1):=by
    rw[<- e,List.getElem_cons_drop,W4]
   rw[e1,U6,UG,X0,X0];lia) h64
  refine⟨_,(@ze _ _ _ _ _ (@qH _ _ 1 _ _ _ _ yI.nd rfl (Vz rfl) (@zI _ _ _ _ zd) (by rfl) (.inr rfl)) (@ze _ _ _ _ _ (@qH _ _ 2 _ _ _ _ yI.nd rfl (Vz rfl) (@zI _ _ _ _ zd) (by rfl) (.inr rfl)) (ze (qI WV rfl (zH (pv 0)) (Je rfl (zP (pgq 3 yI.nd) (zP (pgq 4 yI.nd) (zP (pgq 5 yI.nd) jX)))) (QH (je (yV YX (pv 5) zj (zY _)) (zh (jW (JW WE Uz Uy Yz (pv 1) (za (pv 3) zd)))) qf) (zh (je (yV YX (pv 4) (pb1 qk T.jk W2 (pv 3)) (zY _)) (zh (jW (JW WE Uz Uy Yz (pv 2) (za (pv 3) zd)))) qf)))) (zh (zG (qp (za (pb1 GS.yW T.Jq VY (pv 1)) (za (pb1 GS.yW T.Jq VY (pv 2)) zd)))))))),?_⟩;(try dsimp only[cxK,cxP,cxW]);refine⟨Jy,λd1 hd1=>⟨Jy,λd2 hd2=>?_⟩⟩;have z1:=zc (o:=.lst []) hd1;have z2:=zc (o:=.lst []) hd2;have n12:d1≠d2:=zg (show upd H d1 (.lst []) d1=some (.lst []) from zb) hd2;have f2:=z1.free hd2;have s0:=z1.trans z2;refine⟨_,rfl,r,rfl,⟨_,SqL.of (s0 _ _ hr0)⟩,?_⟩;refine xw (K:=K) (a:=r) (xs:=us) (λi σ H'=>∃(v3 v4 v5:Option V) (w1 w2:AE),σ=[some (.ref r),some (.ref d1),some (.ref d2),v3,v4,v5]/\zo H H'/\H' d1=some (.lst w1)/\H' d2=some (.lst w2)/\Cel H' w1 (qd (gs.take i))/\Cel H' w2 (qe (gs.take i)))
   ⟨_,_,_,[],[],rfl,s0,z2 _ _ zb,zb,.nil,.nil⟩ (λi σ H' _ ⟨_,_,_,_,_,_,s',_⟩=>SqL.of (s' _ _ hr0)) ?_ ?_
  .rintro i x σ H1 hx ⟨v3,v4,v5,w1,w2,rfl,s1,h1,h2,hc1,hc2⟩;obtain⟨g,hg,t,l,ws,rfl,ht0,hl0,hcl0⟩:=zfU.get hgs hx;have ht:=s1 _ _ ht0;have hl:=s1 _ _ hl0;have hcl:=hcl0.mono s1;have nl1:l≠d1:=zg hl0 hd1;have nl2:l≠d2:=zg hl0 f2;have gm:=X6 hg;have g64:=lg gm;have e1:qd (gs.take (i+1))=qd (gs.take i)++(if g.2.2=0 then g.1 else []):=zdV _ hg;have e2:qe (gs.take (i+1))=qe (gs.take i)++(if g.2.1=((g.1.length:Nat):Int) then g.1 else []):=zdV _ hg;have c1l:=lc i;have c2l:=ls i;refine⟨t,_,rfl,SqT.of ht,rfl,_,_,rfl,_,_,rfl,_,_,rfl,rfl,?_⟩;refine⟨fun σ' H'=>∃(w1':AE),σ'=[some (.ref r),some (.ref d1),some (.ref d2),some (.ref l),some (.int g.2.1),some (.int g.2.2)]/\zo H H'/\H' d1=some (.lst w1')/\H' d2=some (.lst w2)/\Cel H' w1' (qd (gs.take (i+1)))/\Cel H' w2 (qe (gs.take i))/\H' l=some (.lst ws)/\Cel H' ws g.1,?_,?_⟩
   .refine⟨_,rfl,rfl,_,rfl,zmk (λhp=>?_) (λhp=>?_)⟩
    .have hp':g.2.2=0:=V.int.inj (bh hp);rw[br hp'] at e1;refine⟨_,rfl,.inl ⟨rfl,_,SqL.of h1⟩,_,rfl,d1,l,w1,ws,rfl,rfl,h1,hl,?_,w1++ws,rfl,λb o e=>?_,zb,?_,?_,Cel.into d1 _ h1 hc2,?_,Cel.into d1 _ h1 hcl⟩
     .rw[hc1.length,hcl.length];exact XZ (show _<=200 by lia) (by decide)
     .rw[zf (zg e hd1)];exact s1 _ _ e
     .rw[zf (Vr n12)];exact h2
     .rw[e1];exact Cel.into d1 _ h1 (Cel.append hc1 hcl)
     .rw[zf nl1];exact hl
    .have hp':¬ g.2.2=0:=λz=>hp (bu (by rw[z]));rw[bw hp',Xd] at e1;exact⟨w1,rfl,s1,h1,h2,by rw[e1];exact hc1,hc2,hl,hcl⟩
   .rintro σ' H2 ⟨w1',rfl,s2,h1',h2',hc1',hc2',hl',hcl'⟩;refine⟨_,rfl,_,rfl,l,_,rfl,.inl (SqL.of hl'),rfl,_,rfl,zmk (λhp=>?_) (λhp=>?_)⟩
    .have hp':g.2.1=((g.1.length:Nat):Int):=by
      have:=V.int.inj (bh hp);rw[hcl'.length] at this;exact this
     rw[br hp'] at e2;refine⟨_,rfl,.inl ⟨rfl,_,SqL.of h2'⟩,_,rfl,d2,l,w2,ws,rfl,rfl,h2',hl',?_,_,_,_,w1',w2++ws,rfl,λb o e=>?_,?_,zb,Cel.into d2 _ h2' hc1',?_⟩
     .rw[hc2'.length,hcl'.length];exact XZ (show _<=200 by lia) (by decide)
     .rw[zf (zg e f2)];exact s2 _ _ e
     .rw[zf n12];exact h1'
     .rw[e2];exact Cel.into d2 _ h2' (Cel.append hc2' hcl')
    .have hp':¬ g.2.1=((g.1.length:Nat):Int):=λz=>hp (bu (by rw[z,hcl'.length]));rw[bw hp',Xd] at e2;exact⟨_,_,_,w1',w2,rfl,s2,h1',h2',hc1',by rw[e2];exact hc2'⟩
  .rintro σ H1 ⟨v3,v4,v5,w1,w2,rfl,s1,h1,h2,hc1,hc2⟩;have gl:us.length=gs.length:=Paired.length hgs;rw[gl,Xz] at hc1 hc2;have n1:(qd gs).Nodup:=hnd.sublist (yG gs);have n2:(qe gs).Nodup:=hnd.sublist (yH gs);have m1:(qd gs).length<64:=Xw (yG gs).length_le h64;have m2:(qe gs).length<64:=Xw (yH gs).length_le h64;refine⟨_,rfl,d1,w1,_,rfl,SqL.of h1,Cel.tup2 hc1,(by rw[hc1.length];lia),λa1 u1 p1 ha1 ht1 zpo zrh=>?_⟩;obtain⟨q1,rfl,hp1⟩:=Q5 zpo;have z3:=zc (o:=.lst u1) ha1;refine⟨_,rfl,d2,w2,_,rfl,SqL.of (z3 _ _ h2),Cel.tup2 (hc2.mono z3),(by rw[hc2.length];lia),λa2 u2 p2 ha2 ht2 zgX hup2=>?_⟩;obtain⟨q2,rfl,hp2⟩:=Q5 zgX;have z4:=zc (o:=.lst u2) ha2;have na:a1≠a2:=zg (show upd H1 a1 (.lst u1) a1=some (.lst u1) from zb) ha2;refine⟨jP,λt ht=>?_⟩;have z5:=zc (o:=.tup [.ref a1,.ref a2]) ht;have s35:=(s1.trans z3).trans z4;exact q t a1 a2 u1 u2 q1 q2 _ (s35.free ht) (s1.free ha1) ((s1.trans z3).free ha2) na zb (z5 _ _ (z4 _ _ zb)) (z5 _ _ zb) (Cel.mono ((z3.trans z4).trans z5) (jn ht1)) (Cel.mono (z4.trans z5) (jn ht2)) hp1 hp2 (zeE (hp1.nodup_iff.mpr n1) zrh) (zeE (hp2.nodup_iff.mpr n2) hup2) (s35.trans z5)
def ZQ (A B:AB)(a b:Int):Int:=mx3 0 (a-((Two.alone A B).length:Nat)) (b-((Two.alone B A).length:Nat))
def ZR (A B:AB)(a b:Int):Int:=mn3 ((Two.both A B).length:Nat) a b
def zhc (A B:AB)(a b:Int):List Rg:=[(Two.both A B,ZQ A B a b,ZR A B a b),(Two.alone A B,a-ZR A B a b,a-ZQ A B a b),(Two.alone B A,b-ZR A B a b,b-ZQ A B a b)]
abbrev Ak:=Int×AB
def AkV (H:Hp)(v:V)(k:Ak):Prop:=∃(t l:Addr) (us:AE),v=V.ref t/\H t=some (.tup [.int k.1,.ref l])/\H l=some (.lst us)/\Cel H us k.2
def ak1 (ks:List Ak):Ak:=ks.getD 0 (0,[])
def ak2 (ks:List Ak):Ak:=ks.getD 1 (0,[])
def gsU (ks:List Ak):List Rg:=zhc (ak1 ks).2 (ak2 ks).2 (ak1 ks).1 (ak2 ks).1
def zpp (ks:List Ak):Prop:=ZQ (ak1 ks).2 (ak2 ks).2 (ak1 ks).1 (ak2 ks).1<=ZR (ak1 ks).2 (ak2 ks).2 (ak1 ks).1 (ak2 ks).1
def zdW (C:Addr):Sp:=λvs H Q E=>∃(la:Addr) (ls:AE) (ks:List Ak),vs=[.ref la]/\H la=some (.lst ls)/\Xl (AkV H) ls ks/\(ks.length=1\/ks.length=2)/\(∀k∈ks,k.2.Nodup/\k.2.length<=20) /\
 (zpp ks->∀(t d1 d2:Addr) (w1 w2:AE) (c1 c2:AB) (H':Hp),H d1=none->H d2=none->d1≠d2->H' t=some (.tup [.ref d1,.ref d2])->H' d1=some (.lst w1)->H' d2=some (.lst w2)->Cel H' w1 c1->Cel H' w2 c2->c1.Perm (qd (gsU ks))->c2.Perm (qe (gsU ks))->c1.Pairwise Cells.lex->c2.Pairwise Cells.lex->zo H H'->Q (.ref t) H') /\
 (¬ zpp ks->∀H',zo H H'->E (.ref C) none H')
def znk (A B:AB):(A.filter λc=>!decide (c∈Two.both A B))=Two.alone A B:=by
 unfold Two.alone Two.both;refine V8 λx hx=>?_;congr 1;rw[decide_eq_decide,X9,bf];exact⟨λh=>h.2,λh=>⟨hx,h⟩⟩
def zly (A B:AB):(B.filter λc=>!decide (c∈Two.both A B))=Two.alone B A:=by
 unfold Two.alone Two.both;refine V8 λx hx=>?_;congr 1;rw[decide_eq_decide,X9,bf];exact⟨λh=>h.1,λh=>⟨h,hx⟩⟩
def zih (cs:AB)(c:AA):(cs.any λz=>decide (z=c))=decide (c∈cs):=by
 rw[W1,WF,bf];constructor
 .rintro⟨x,h1,h2⟩;have e:x=c:=bh h2;rw[<- e];exact h1
 .intro h;exact⟨c,h,bu rfl⟩
def zc3 {K:XW}{H:Hp}{vs:AE}{cs:AB}(hp:Cel H vs cs):JQ K H vs (cs.map zk):=by
 induction hp with
 | nil=>exact .nil
 | cons h _ ih=>exact .cons (yg.rdv h) ih
def zn3 (g:AB)(c:AA):(if false=true then !(g.map zk).any (λz=>WL z (zk c)) else (g.map zk).any λz=>WL z (zk c))=decide (c∈g):=(xy _ _).trans (zih _ _)
def zfX (g:AB)(c:AA):(if true=true then !(g.map zk).any (λz=>WL z (zk c)) else (g.map zk).any λz=>WL z (zk c))=!decide (c∈g):=congrArg (λb=>!b) ((xy _ _).trans (zih _ _))
def zri {A:Hp->Addr->Prop}{G:Hp->Addr->Prop}{R:Prop}(k:∀H t,A H t->G H t)(h:(∀H t,A H t->G H t)->R):R:=h k
section
variable {P:Xm}{w:WZ}{K:XW}{mg:Str->Option X8}{base:Heap}{f:Addr}{fd:XD}{jad:Addr}
def yf:zB ["asked","one","other","both","one_alone","other_alone","least","most"] ["asked"] (zp Q4):=bz rfl rfl rfl rfl (by decide+kernel)
def zjA {f1:Addr}{fd1:XD}(T:Txt mg)(jan:ql K mg "NoLaying" jad)(D:zm K mg "gained" Q4 ["asked"] f fd)(YQ:zm K mg "settled" Za ["regions"] f1 fd1):qa P w K mg base (CXE P w) 2 f fd ["asked"] (zdW jad):=by
 refine D.F.okX yf (λvs H Q E h=>?_) (λcdv A outer s H vs Q E hr h=>?_)
 .obtain⟨la,ls,ks,rfl,_⟩:=h;rfl
 .obtain⟨la,ls,ks,rfl,hla0,hP,hk2,hkn,q0,e0⟩:=h;refine⟨_,(ze (jo 1 yf.nd (zE xT (pv 0) zj (λ_ _=>rfl))) (ze (jo 2 yf.nd (zjM (yV YX (pb1 qk T.jk W2 (pv 0)) zj (zY _)) (zE xT (pv 0) zj (λ_ _=>rfl)) (@qp _ _ _ _ _ (@za _ _ _ _ _ zj (@za _ _ _ _ _ (@zI _ _ _ _ zd) zd rfl) rfl)))) (ze (jo 3 yf.nd (pcm ["cell","other"] [none,some 2] cR (zH (zE qO (pv 1) zj (λ_ _=>rfl))) (pgN 0) (qq (yV (jC (K:=K) (by rfl) hr.units) (pv 0) (zE (zmq (K:=K) (by rfl)) (pv 1) zj (λ_ _=>rfl)) (by rfl))) (pv 0))) (ze (psC 4 yf.nd ["cell","both"] [none,some 3] cR (zH (zE qO (pv 1) zj (λ_ _=>rfl))) (pgN 0) (qq (yV (Z3 (K:=K) (by rfl) hr.units) (pv 0) (pv 1) (by rfl))) (pv 0)) (ze (psC 5 yf.nd ["cell","both"] [none,some 3] cR (zH (zE qO (pv 2) zj (λ_ _=>rfl))) (pgN 0) (qq (yV (Z3 (K:=K) (by rfl) hr.units) (pv 0) (pv 1) (by rfl))) (pv 0)) (ze (jo 6 yf.nd (QF (ziS rfl) (by rfl) T.zkW SN (@za _ _ _ _ _ zj (za (zL JP (zE qO (pv 1) zj (λ_ _=>rfl)) (pb1 qk T.jk W2 (pv 4))) (za (zL JP (zE qO (pv 2) zj (λ_ _=>rfl)) (pb1 qk T.jk W2 (pv 5))) zd)) rfl))) (ze (jo 7 yf.nd (QF (ziT rfl) (by rfl) T.zkX SM (za (pb1 qk T.jk W2 (pv 3)) (za (zE qO (pv 1) zj (λ_ _=>rfl)) (za (zE qO (pv 2) zj (λ_ _=>rfl)) zd))))) (ze (je (yV znI (pv 6) (pv 7) (zY _)) (zh (QK qy jan (by rfl) rfl (@za _ _ _ _ _ zZ zd rfl))) qf) (zh (zG (pc0 (zhb T YQ) hr YQ (za (zI (za (qp (za (pv 3) (za (pv 6) (za (pv 7) zd)))) (za (qp (za (pv 4) (za (zL JP (zE qO (pv 1) zj (λ_ _=>rfl)) (pv 7)) (za (zL JP (zE qO (pv 1) zj (λ_ _=>rfl)) (pv 6)) zd)))) (za (qp (za (pv 5) (za (zL JP (zE qO (pv 2) zj (λ_ _=>rfl)) (pv 7)) (za (zL JP (zE qO (pv 2) zj (λ_ _=>rfl)) (pv 6)) zd)))) zd)))) zd)))))))))))),?_⟩;(try dsimp only[cxK,cxP,cxW]);refine GS.via λGG hGG=>?_;obtain⟨t1,l1,us,a,A,ht10,hl10,hA0,nA,lA,hrest⟩:∃(t1 l1:Addr) (us:AE) (a:Int) (A:AB),H t1=some (.tup [.int a,.ref l1])/\H l1=some (.lst us)/\Cel H us A/\A.Nodup/\A.length<=20/\((ls=[.ref t1]/\ks=[(a,A)])\/∃(t2 l2:Addr) (ws:AE) (b:Int) (B:AB),ls=[.ref t1,.ref t2]/\ks=[(a,A),(b,B)]/\H t2=some (.tup [.int b,.ref l2])/\H l2=some (.lst ws)/\Cel H ws B/\B.Nodup/\B.length<=20):=by
   cases hP with
   | nil=>rcases hk2 with h | h<;>cases h
   | cons x xs =>
    obtain⟨t1,l1,us,rfl,h1,h2,h3⟩:=x;have n1:=hkn _ XU;refine⟨t1,l1,us,_,_,h1,h2,h3,n1.1,n1.2,?_⟩;cases xs with
    | nil=>exact .inl ⟨rfl,rfl⟩
    | cons y ys =>
     obtain⟨t2,l2,ws,rfl,g1,g2,g3⟩:=y;cases ys with
     | nil =>
      have n2:=hkn _ (XR _ XU);exact .inr ⟨t2,l2,ws,_,_,rfl,rfl,g1,g2,g3,n2.1,n2.2⟩
     | cons z zs =>
      rcases hk2 with h | h<;>simp at h
  refine hGG ?_;clear hGG GG;have hone:atI ls 0=some (.ref t1):=by
   rcases hrest with ⟨rfl,_⟩ | ⟨_,_,_,_,_,rfl,_⟩<;>rfl
  refine⟨_,rfl,la,_,_,.ref t1,rfl,rfl,SqL.of hla0,hone,?_⟩;refine' zri (A:=λ(H:Hp) (t2:Addr)=>∃(l2:Addr) (b:Int) (ws:AE) (B:AB),H t1=some (.tup [.int a,.ref l1])/\H l1=some (.lst us)/\Cel H us A/\H t2=some (.tup [.int b,.ref l2])/\H l2=some (.lst ws)/\Cel H ws B/\B.Nodup/\B.length<=20/\(ZQ A B a b<=ZR A B a b->∀(t d1 d2:Addr) (w1 w2:AE) (c1 c2:AB) (H':Hp),H d1=none->H d2=none->d1≠d2->H' t=some (.tup [.ref d1,.ref d2])->H' d1=some (.lst w1)->H' d2=some (.lst w2)->Cel H' w1 c1->Cel H' w2 c2->c1.Perm (qd (zhc A B a b))->c2.Perm (qe (zhc A B a b))->c1.Pairwise Cells.lex->c2.Pairwise Cells.lex->zo H H'->Q (.ref t) H')/\(ZR A B a b<ZQ A B a b->∀H',zo H H'->E (.ref jad) none H')) ?rest (λkey=>?tail)
  case tail =>
   have hr2:=hrest
   rcases hr2 with ⟨els,eks⟩ | ⟨t2,l2,ws,b,B,els,eks,ht2,hl2,hB,nB,lB⟩
   .have hla1:H la=some (.lst [.ref t1]):=by rw[<- els];exact hla0
    have q1:=q0;have x1:=e0;rw[eks] at q1 x1;refine⟨_,rfl,la,_,rfl,.inl (SqL.of hla1),rfl,_,rfl,jd (by show decide (V.int ((1:Nat):Int)=V.int 2)=false;decide) ⟨Jy,λe1 he1=>⟨jP,λt2 ht2=>?_⟩⟩⟩;have z1:=zc (o:=.lst []) he1;have z2:=zc (o:=.tup [.int 0,.ref e1]) ht2;have s2:=z1.trans z2;have he2:upd (upd H e1 (.lst [])) t2 (.tup [.int 0,.ref e1]) e1=some (.lst []):=z2 _ _ zb;have ht2':upd (upd H e1 (.lst [])) t2 (.tup [.int 0,.ref e1]) t2=some (.tup [.int 0,.ref e1]):=zb;clear z1 z2;revert s2 he2 ht2';generalize upd (upd H e1 (.lst [])) t2 (.tup [.int 0,.ref e1])=H2;intro s2 he2 ht2';exact key H2 t2 ⟨e1,0,[],[],s2 _ _ ht10,s2 _ _ hl10,hA0.mono s2,ht2',he2,.nil,Vw,by decide,λh t d1 d2 w1 w2 c1 c2 H' f1 f2 f3 g1 g2 g3 g4 g5 g6 g7 g8 g9 s'=>q1 h t d1 d2 w1 w2 c1 c2 H' (s2.free f1) (s2.free f2) f3 g1 g2 g3 g4 g5 g6 g7 g8 g9 (s2.trans s'),λh H' s'=>x1 (λz=>absurd z (Int.not_le.mpr h)) H' (s2.trans s')⟩
   .have hla1:H la=some (.lst [.ref t1,.ref t2]):=by rw[<- els];exact hla0
    have q1:=q0;have x1:=e0;rw[eks] at q1 x1;refine⟨_,rfl,la,_,rfl,.inl (SqL.of hla1),rfl,_,rfl,ju (by show decide (V.int ((2:Nat):Int)=V.int 2)=true;decide) ⟨_,rfl,la,_,_,.ref t2,rfl,rfl,SqL.of hla1,rfl,?_⟩⟩;exact key H t2 ⟨l2,b,ws,B,ht10,hl10,hA0,ht2,hl2,hB,nB,lB,q1,λh H' s'=>x1 (λz=>absurd z (Int.not_le.mpr h)) H' s'⟩
  intro H t2 hh;refine GS.via λGG hGG=>?_;obtain⟨l2,b,ws,B,ht1,hl1,hA,ht2,hl2,hB,nB,lB,q,e⟩:=hh;refine hGG ?_;clear hGG GG;refine⟨_,rfl,t1,_,1,_,rfl,rfl,SqT.of ht1,rfl,l1,rfl,⟨_,SqL.of hl1⟩,λz hz=>?_⟩;refine z9 (K:=K) (a:=l1) (xs:=us) (λa=>a≠z) (A.map λc=>if decide (c∈B)=true then some (zk c) else none) (fun σ=>∃u0,σ=[u0,some (.ref t2)]) hz (λ_ h=>h) ⟨_,rfl⟩ (by rw[Y1];exact hA.length.symm) (by rw[hA.length];exact XZ lA (by decide)) (SqL.of hl1) ?_ ?_
  .rintro k x o σ H4 hx ho s4 _ ⟨u0,rfl⟩ Y Z yes no;obtain⟨c,hc,rc⟩:=Cel.get (Cel.mono s4 hA) hx;have eo:=jg hc ho;refine⟨_,rfl,_,rfl,t2,_,1,_,rfl,rfl,SqT.of (s4 _ _ ht2),rfl,zk c,B.map zk,rc.rdv,.lst (SqL.of (s4 _ _ hl2)) (zc3 (hB.mono s4)),rfl,YV _,(by show 1<=60;decide),_,rfl,?_⟩;rw[zn3];by_cases hp:decide (c∈B)=true
   .rw[br hp] at eo;exact ju hp ⟨_,rfl,yes _ _ _ _ eo ⟨_,rfl⟩ (zo.refl _) rc.rdn⟩
   .rw[bw hp] at eo;exact jd (XC.mpr hp) (no _ _ eo ⟨_,rfl⟩ (zo.refl _))
  rintro yb H3 s3 hz3 hr3;rw[zR] at hr3;have hcb:Cel H3 yb (Two.both A B):=zq.cel hr3;refine⟨_,rfl,t1,_,1,_,rfl,rfl,SqT.of (s3 _ _ ht1),rfl,l1,rfl,⟨_,SqL.of (s3 _ _ hl1)⟩,λo1 ho1=>?_⟩;refine z9 (K:=K) (a:=l1) (xs:=us) (λa=>a≠o1) (A.map λc=>if (!decide (c∈Two.both A B))=true then some (zk c) else none) (fun σ=>∃u0,σ=[u0,some (.ref z)]) ho1 (λ_ h=>h) ⟨_,rfl⟩ (by rw[Y1];exact hA.length.symm) (by rw[hA.length];exact XZ lA (by decide)) (SqL.of (s3 _ _ hl1)) ?_ ?_
  .rintro k x o σ H4 hx ho s4 _ ⟨u0,rfl⟩ Y Z yes no;obtain⟨c,hc,rc⟩:=Cel.get (Cel.mono (s3.trans s4) hA) hx;have eo:=jg hc ho;refine⟨_,rfl,_,rfl,zk c,(Two.both A B).map zk,rc.rdv,.lst (SqL.of (s4 _ _ hz3)) (zc3 (hcb.mono s4)),rfl,YV _,(by show 1<=60;decide),_,rfl,?_⟩;rw[zfX];by_cases hp:(!decide (c∈Two.both A B))=true
   .rw[br hp] at eo;exact ju hp ⟨_,rfl,yes _ _ _ _ eo ⟨_,rfl⟩ (zo.refl _) rc.rdn⟩
   .rw[bw hp] at eo;exact jd (XC.mpr hp) (no _ _ eo ⟨_,rfl⟩ (zo.refl _))
  rintro yo H4 s4 ho4 hr4;rw[zR,znk] at hr4;have hco:Cel H4 yo (Two.alone A B):=zq.cel hr4;have s24:=s3.trans s4;refine⟨_,rfl,t2,_,1,_,rfl,rfl,SqT.of (s24 _ _ ht2),rfl,l2,rfl,⟨_,SqL.of (s24 _ _ hl2)⟩,λo2 ho2=>?_⟩;refine z9 (K:=K) (a:=l2) (xs:=ws) (λa=>a≠o2) (B.map λc=>if (!decide (c∈Two.both A B))=true then some (zk c) else none) (fun σ=>∃u0,σ=[u0,some (.ref z)]) ho2 (λ_ h=>h) ⟨_,rfl⟩ (by rw[Y1];exact hB.length.symm) (by rw[hB.length];exact XZ lB (by decide)) (SqL.of (s24 _ _ hl2)) ?_ ?_
  .rintro k x o σ H5 hx ho s5 _ ⟨u0,rfl⟩ Y Z yes no;obtain⟨c,hc,rc⟩:=Cel.get (Cel.mono (s24.trans s5) hB) hx;have eo:=jg hc ho;refine⟨_,rfl,_,rfl,zk c,(Two.both A B).map zk,rc.rdv,.lst (SqL.of (s5 _ _ (s4 _ _ hz3))) (zc3 (hcb.mono (s4.trans s5))),rfl,YV _,(by show 1<=60;decide),_,rfl,?_⟩;rw[zfX];by_cases hp:(!decide (c∈Two.both A B))=true
   .rw[br hp] at eo;exact ju hp ⟨_,rfl,yes _ _ _ _ eo ⟨_,rfl⟩ (zo.refl _) rc.rdn⟩
   .rw[bw hp] at eo;exact jd (XC.mpr hp) (no _ _ eo ⟨_,rfl⟩ (zo.refl _))
  rintro y2 H5 s5 ho5 hr5;rw[zR,zly] at hr5;have hc2:Cel H5 y2 (Two.alone B A):=zq.cel hr5;have s25:=s24.trans s5;have ho15:=s5 _ _ ho4;have hz5:=s5 _ _ (s4 _ _ hz3);have hcb5:=hcb.mono (s4.trans s5);have ht25:=s25 _ _ ht2;have ht15:=s25 _ _ ht1;have hco5:=hco.mono s5;refine⟨_,rfl,t1,_,0,_,rfl,rfl,SqT.of ht15,rfl,_,rfl,o1,_,rfl,.inl (SqL.of ho15),_,_,rfl,rfl,_,rfl,t2,_,0,_,rfl,rfl,SqT.of ht25,rfl,_,rfl,o2,_,rfl,.inl (SqL.of ho5),_,_,rfl,rfl,_,_,_,rfl,?_⟩;refine⟨_,rfl,z,_,rfl,.inl (SqL.of hz5),_,rfl,t1,_,0,_,rfl,rfl,SqT.of ht15,rfl,_,rfl,t2,_,0,_,rfl,rfl,SqT.of ht25,rfl,_,_,_,rfl,?_⟩;refine⟨_,rfl,_,rfl,_,_,rfl,rfl,_,rfl,?_⟩;have eL:mx3 0 (a-((yo.length:Nat):Int)) (b-((y2.length:Nat):Int))=ZQ A B a b:=by
   unfold ZQ;rw[hco5.length,hc2.length]
  have eM:mn3 ((yb.length:Nat):Int) a b=ZR A B a b:=by
   unfold ZR;rw[hcb5.length]
  rw[eL,eM];by_cases hg:ZQ A B a b<=ZR A B a b
  .refine jd (bg (by lia)) ?_;have q':=q hg;unfold zhc at q';generalize ZQ A B a b=lo at *
   generalize ZR A B a b=hi at *
   refine⟨_,rfl,_,rfl,_,rfl,zet,λr1 hr1=>?_⟩;have y1:=zc (o:=.tup [.ref z,.int lo,.int hi]) hr1;have x1:upd H5 r1 (.tup [.ref z,.int lo,.int hi]) r1=some (.tup [.ref z,.int lo,.int hi]):=zb;refine⟨_,rfl,_,rfl,t1,_,0,_,rfl,rfl,SqT.of (y1 _ _ ht15),rfl,_,rfl,_,_,rfl,rfl,_,rfl,t1,_,0,_,rfl,rfl,SqT.of (y1 _ _ ht15),rfl,_,rfl,_,_,rfl,rfl,zet,λr2 hr2=>?_⟩;have y22:=zc (o:=.tup [.ref o1,.int (a-hi),.int (a-lo)]) hr2;have y12:=y1.trans y22;refine⟨_,rfl,_,rfl,t2,_,0,_,rfl,rfl,SqT.of (y12 _ _ ht25),rfl,_,rfl,_,_,rfl,rfl,_,rfl,t2,_,0,_,rfl,rfl,SqT.of (y12 _ _ ht25),rfl,_,rfl,_,_,rfl,rfl,zet,λr3 hr3=>⟨zet,λrl hrl=>?_⟩⟩;have y3:=zc (o:=.tup [.ref o2,.int (b-hi),.int (b-lo)]) hr3;have y4:=zc (o:=.lst [.ref r1,.ref r2,.ref r3]) hrl;have y34:=y3.trans y4;have y14:=y12.trans y34;have mB:∀{x:AA},x∈Two.both A B->x∈A/\x∈B:=λh=>⟨(X9.mp h).1,bh (X9.mp h).2⟩;have mA:∀{x:AA} {A B:AB},x∈Two.alone A B->x∈A/\x ∉ B:=λ{x A B} h=>⟨(X9.mp h).1,by
    have:=(X9.mp h).2;simpa using this⟩
   have l1':(Two.both A B).length<=20:=XZ (Xg _ _) lA;have l2':(Two.alone A B).length<=20:=XZ (Xg _ _) lA;have l3':(Two.alone B A).length<=20:=XZ (Xg _ _) lB;refine⟨rl,_,[(Two.both A B,lo,hi),(Two.alone A B,a-hi,a-lo),(Two.alone B A,b-hi,b-lo)],rfl,zb,.cons ⟨r1,z,yb,rfl,y34 _ _ (y22 _ _ x1),y14 _ _ hz5,hcb5.mono y14⟩ (.cons ⟨r2,o1,yo,rfl,y34 _ _ zb,y14 _ _ ho15,hco5.mono y14⟩ (.cons ⟨r3,o2,y2,rfl,y4 _ _ zb,y14 _ _ ho5,hc2.mono y14⟩ .nil)),?_,?_,λt d1 d2 w1 w2 c1 c2 H6 ht hd1 hd2 hne h1 h2 h3 k1 k2 p1 p2 x1' x2' s6=>?_⟩
   .show (Two.both A B++(Two.alone A B++(Two.alone B A++[]))).Nodup;rw[Xd,WW,WW];refine⟨Two.zT _ nA,⟨Two.zT _ nA,Two.zT _ nB,λx hx y hy e=>?_⟩,λx hx y hy e=>?_⟩
    .subst e;exact(mA hx).2 (mA hy).1
    .subst e;rcases XQ.mp hy with hy | hy
     .exact(mA hy).2 (mB hx).2
     .exact(mA hy).2 (mB hx).1
   .show (Two.both A B++(Two.alone A B++(Two.alone B A++[]))).length<64;rw[Xd,X0,X0];lia
   .have sA:=s25.trans y14;exact q' t d1 d2 w1 w2 c1 c2 H6 (sA.free hd1) (sA.free hd2) hne h1 h2 h3 k1 k2 p1 p2 x1' x2' (sA.trans s6)
  .exact ju (bu (by lia)) ⟨by decide,e (by lia) _ s25⟩
end
def yu (cl st:AB)(k:Ak):Ak:=(k.1-(zad st k.2).sum,zU cl st k.2)
structure Ym (cl st:AB)(k1 k2:Ak)(p:AA->Bool):Prop where
 no:∀c∈cl,p c=false
 ye:∀c∈st,p c=true
 c1:((k1.2.countP p:Nat):Int)=k1.1
 c2:((k2.2.countP p:Nat):Int)=k2.1
def Det (b:Bool)(cl st:AB)(k1 k2:Ak)(c:AA):Prop:=∀p,Ym cl st k1 k2 p->p c=b
def gsP (cl st:AB)(k1 k2:Ak):List Rg:=zhc (zU cl st k1.2) (zU cl st k2.2) (yu cl st k1).1 (yu cl st k2).1
theorem zaJ {cl st:AB}{p:AA->Bool}(no:∀c∈cl,p c=false)(ye:∀c∈st,p c=true):∀cs:AB,((cs.countP p:Nat):Int)=(zad st cs).sum+(((zU cl st cs).countP p:Nat):Int)
 | []=>rfl
 | c::r=>by
  have ih:=zaJ no ye r;have el:(zad st (c::r)).sum=(if c∈st then 1 else 0)+(zad st r).sum:=by
   show (((c::r).map _).sum:Int)=_;rw[Xu,List.sum_cons];rfl
  have ef:zU cl st (c::r)=if (!(decide (c∈st) || decide (c∈cl)))=true then c::zU cl st r else zU cl st r:=by
   unfold zU;rw[Wr]
  rw[Wx,el,ef];by_cases h1:c∈st
  .rw[ye c h1,br h1,bu h1];show ((r.countP p+1:Nat):Int)=1+(zad st r).sum+(((zU cl st r).countP p:Nat):Int);lia
  .rw[bw h1,bg h1];by_cases h2:c∈cl
   .rw[no c h2,bu h2];show ((r.countP p+0:Nat):Int)=0+(zad st r).sum+(((zU cl st r).countP p:Nat):Int);lia
   .rw[bg h2];show ((r.countP p+(if p c=true then 1 else 0):Nat):Int)=0+(zad st r).sum+(((c::zU cl st r).countP p:Nat):Int);rw[Wx];lia
def zcx (A B:AB)(a b:Int):Two.Ends A B a b (ZQ A B a b) (ZR A B a b):=by
 unfold ZQ ZR mx3 mn3;refine⟨?_,?_,?_,?_,?_,?_,?_,?_⟩;all_goals
  repeat' split
  all_goals lia
def Jw {cl st cs:AB}{c:AA}:c∈zU cl st cs↔c∈cs/\c ∉ st/\c ∉ cl:=by
 unfold zU;rw[X9];simp
def znl {A B:AB}{a b:Int}{c:AA}:c∈qd (zhc A B a b)↔(c∈Two.both A B/\ZR A B a b=0)\/(c∈Two.alone A B/\a-ZQ A B a b=0)\/(c∈Two.alone B A/\b-ZQ A B a b=0):=by
 show c∈(if ZR A B a b=0 then Two.both A B else [])++((if a-ZQ A B a b=0 then Two.alone A B else [])++((if b-ZQ A B a b=0 then Two.alone B A else [])++[]))↔_;have e:∀(q:Prop) [Decidable q] (l:AB),c∈(if q then l else [])↔c∈l/\q:=λq _ l=>by
  by_cases h:q<;>simp[h]
 rw[Xd,XQ,XQ,e,e,e]
def znm {A B:AB}{a b:Int}{c:AA}:c∈qe (zhc A B a b)↔(c∈Two.both A B/\ZQ A B a b=(Two.both A B).length)\/(c∈Two.alone A B/\a-ZR A B a b=(Two.alone A B).length)\/(c∈Two.alone B A/\b-ZR A B a b=(Two.alone B A).length):=by
 show c∈(if ZQ A B a b=_ then Two.both A B else [])++((if a-ZR A B a b=_ then Two.alone A B else [])++((if b-ZR A B a b=_ then Two.alone B A else [])++[]))↔_;have e:∀(q:Prop) [Decidable q] (l:AB),c∈(if q then l else [])↔c∈l/\q:=λq _ l=>by
  by_cases h:q<;>simp[h]
 rw[Xd,XQ,XQ,e,e,e]
structure InA (cs cl st:AB)(k1 k2:Ak):Prop where
 nd:cs.Nodup
 n1:k1.2.Nodup
 n2:k2.2.Nodup
 s1:∀c∈k1.2,c∈cs
 s2:∀c∈k2.2,c∈cs
 ap:∀c∈cl,c ∉ st
section
variable {cs cl st:AB}{k1 k2:Ak}
def InA.two (I:InA cs cl st k1 k2):Two.In cl st cs (zU cl st k1.2) (zU cl st k2.2) :=
 ⟨I.nd,I.n1.sublist XA,I.n2.sublist XA,λc h=>let z:=Jw.mp h;⟨I.s1 c z.1,z.2⟩,λc h=>let z:=Jw.mp h;⟨I.s2 c z.1,z.2⟩,I.ap⟩
def Ym.to (I:InA cs cl st k1 k2){p:AA->Bool}(h:Ym cl st k1 k2 p):Two.Fit cl st cs (zU cl st k1.2) (zU cl st k2.2) (yu cl st k1).1 (yu cl st k2).1 (cs.filter p):=by
 have key:∀k:Ak,(∀c∈k.2,c∈cs)->((k.2.countP p:Nat):Int)=k.1->((Two.cnt (zU cl st k.2) (cs.filter p):Nat):Int)=(yu cl st k).1:=λk hk e=>by
  have:=zaJ h.no h.ye k.2;have e2:Two.cnt (zU cl st k.2) (cs.filter p)=(zU cl st k.2).countP p:=by
   unfold Two.cnt;rw[V1];congr 1;refine V8 λc hc=>?_;rw[W1,bf,X9];exact⟨λz=>z.2,λz=>⟨hk c (Jw.mp hc).1,z⟩⟩
  rw[e2];show _=k.1-(zad st k.2).sum;lia
 exact⟨Two.zkS p cs (λc _ z=>h.ye c z) (λc _ z=>h.no c z),key k1 I.s1 h.c1,key k2 I.s2 h.c2⟩
def Ym.of (I:InA cs cl st k1 k2){S:AB}(h:Two.Fit cl st cs (zU cl st k1.2) (zU cl st k2.2) (yu cl st k1).1 (yu cl st k2).1 S):Ym cl st k1 k2 λc=>decide (c∈S) || decide (c∈st):=by
 obtain⟨h1,h2,h3⟩:=Two.zpa h.ch;have no:∀c∈cl,(decide (c∈S) || decide (c∈st))=false:=λc hc=>by
  rw[bg λz=>h3 c z hc,bg (I.ap c hc)];rfl
 have ye:∀c∈st,(decide (c∈S) || decide (c∈st))=true:=λc hc=>by
  rw[bu hc,Bool.or_true]
 have key:∀k:Ak,((Two.cnt (zU cl st k.2) S:Nat):Int)=(yu cl st k).1->((k.2.countP (λc=>decide (c∈S) || decide (c∈st)):Nat):Int)=k.1:=λk e=>by
  have e2:Two.cnt (zU cl st k.2) S=(zU cl st k.2).countP λc=>decide (c∈S) || decide (c∈st):=by
   unfold Two.cnt;rw[V1];congr 1;refine V8 λc hc=>?_;rw[bg (Jw.mp hc).2.1,OZ]
  have:=zaJ no ye k.2;rw[e2] at e;have e:_=k.1-(zad st k.2).sum:=e;lia
 exact⟨no,ye,key k1 h.fa,key k2 h.fb⟩
def zeF (I:InA cs cl st k1 k2){p:AA->Bool}(h:Ym cl st k1 k2 p):ZQ (zU cl st k1.2) (zU cl st k2.2) (yu cl st k1).1 (yu cl st k2).1<=ZR (zU cl st k1.2) (zU cl st k2.2) (yu cl st k1).1 (yu cl st k2).1 :=
 (Two.zm3 I.two (zcx _ _ _ _)).mp ⟨_,h.to I⟩
def YR {c:AA}(I:InA cs cl st k1 k2)(h:c∈(gsP cl st k1 k2).flatMap λg=>g.1):(c∈k1.2\/c∈k2.2)/\c ∉ st/\c ∉ cl:=by
 have h':c∈Two.both (zU cl st k1.2) (zU cl st k2.2)++(Two.alone (zU cl st k1.2) (zU cl st k2.2)++(Two.alone (zU cl st k2.2) (zU cl st k1.2)++[])):=h;rw[Xd,XQ,XQ] at h';rcases h' with h | h | h
 .have z:=Jw.mp (X9.mp h).1;exact⟨.inl z.1,z.2⟩
 .have z:=Jw.mp (X9.mp h).1;exact⟨.inl z.1,z.2⟩
 .have z:=Jw.mp (X9.mp h).1;exact⟨.inr z.1,z.2⟩
def zcy (I:InA cs cl st k1 k2){p:AA->Bool}(h:Ym cl st k1 k2 p){c:AA}:c∈qd (gsP cl st k1 k2)↔(c∈k1.2\/c∈k2.2)/\c ∉ st/\c ∉ cl/\Det false cl st k1 k2 c:=by
 have key:(c∈k1.2\/c∈k2.2)->c ∉ st->c ∉ cl->(c∈qd (gsP cl st k1 k2)↔Det false cl st k1 k2 c):=λhc hs hl=>by
  have hcs:c∈cs:=hc.elim (I.s1 c) (I.s2 c);unfold gsP;rw[znl,<- Two.zjh I.two (zcx _ _ _ _) (zeF I h) hcs hs hl];constructor
  .intro z q hq;have:=z _ (hq.to I);rw[X9] at this;exact XC.mpr λe=>this ⟨hcs,e⟩
  .intro z S hS hm;have:=z _ (Ym.of I hS);rw[bu hm] at this;cases this
 constructor
 .intro z;obtain⟨a,b,d⟩:=YR I ((yG _).subset z);exact⟨a,b,d,(key a b d).mp z⟩
 .rintro⟨a,b,d,e⟩;exact(key a b d).mpr e
def zcz (I:InA cs cl st k1 k2){p:AA->Bool}(h:Ym cl st k1 k2 p){c:AA}:c∈qe (gsP cl st k1 k2)↔(c∈k1.2\/c∈k2.2)/\c ∉ st/\c ∉ cl/\Det true cl st k1 k2 c:=by
 have key:(c∈k1.2\/c∈k2.2)->c ∉ st->c ∉ cl->(c∈qe (gsP cl st k1 k2)↔Det true cl st k1 k2 c):=λhc hs hl=>by
  have hcs:c∈cs:=hc.elim (I.s1 c) (I.s2 c);unfold gsP;rw[znm,<- Two.zji I.two (zcx _ _ _ _) (zeF I h) hcs hs hl];constructor
  .intro z q hq;exact(X9.mp (z _ (hq.to I))).2
  .intro z S hS;have:=z _ (Ym.of I hS);rw[bg hs,OZ] at this;exact bh this
 constructor
 .intro z;obtain⟨a,b,d⟩:=YR I ((yH _).subset z);exact⟨a,b,d,(key a b d).mp z⟩
 .rintro⟨a,b,d,e⟩;exact(key a b d).mpr e
end
abbrev K0:Ak:=(0,[])
structure xC (As:List Ak)(L:AA->Bool)(cl st:AB):Prop where
 no:∀c∈cl,L c=false
 ye:∀c∈st,L c=true
 ct:∀k∈As,((k.2.countP L:Nat):Int)=k.1
def xC.fit {As:List Ak}{L:AA->Bool}{cl st:AB}(h:xC As L cl st){k1 k2:Ak}(h1:k1∈As)(h2:k2∈As\/k2=K0):Ym cl st k1 k2 L :=
 ⟨h.no,h.ye,h.ct k1 h1,h2.elim (h.ct k2) λe=>by rw[e];rfl⟩
def xC.ap {As:List Ak}{L:AA->Bool}{cl st:AB}(h:xC As L cl st):∀c∈cl,c ∉ st:=λc hc hs=>by
 have:=h.ye c hs;rw[h.no c hc] at this;cases this
def Y9 (cl st:AB)(k1 k2:Ak):Prop:=∀c b,(c∈k1.2\/c∈k2.2)->c ∉ cl->c ∉ st->¬ Det b cl st k1 k2 c
def zcA (As:List Ak)(cl st:AB):Prop:=∀k1∈As,∀k2,(k2∈As\/k2=K0)->Y9 cl st k1 k2
def zcB (As:List Ak)(L:AA->Bool)(cl st:AB):Prop:=∀cl' st',xC As L cl' st'->zcA As cl' st'->(∀c∈cl,c∈cl')/\∀c∈st,c∈st'
def zfY (As:List Ak)(L:AA->Bool):zcB As L [] []:=λ_ _ _ _=>⟨(λ_ h=>nomatch h),λ_ h=>nomatch h⟩
def zjB {As:List Ak}{L:AA->Bool}{cs cl st c1 c2:AB}{k1 k2:Ak}(h:xC As L cl st)(m:zcB As L cl st)(h1:k1∈As)(h2:k2∈As\/k2=K0)(I:InA cs cl st k1 k2)
  (e1:∀c∈c1,c∈qd (gsP cl st k1 k2)) (e2:∀c∈c2,c∈qe (gsP cl st k1 k2)):xC As L (cl++c1) (st++c2)/\zcB As L (cl++c1) (st++c2):=by
 have f:=h.fit h1 h2;have d1:∀c∈c1,(c∈k1.2\/c∈k2.2)/\c ∉ st/\c ∉ cl/\Det false cl st k1 k2 c:=λc hc=>(zcy I f).mp (e1 c hc);have d2:∀c∈c2,(c∈k1.2\/c∈k2.2)/\c ∉ st/\c ∉ cl/\Det true cl st k1 k2 c:=λc hc=>(zcz I f).mp (e2 c hc);refine⟨⟨λc hc=>?_,λc hc=>?_,h.ct⟩,λcl' st' t' c'=>?_⟩
 .exact(XQ.mp hc).elim (h.no c) λz=>(d1 c z).2.2.2 _ f
 .exact(XQ.mp hc).elim (h.ye c) λz=>(d2 c z).2.2.2 _ f
 .obtain⟨m1,m2⟩:=m cl' st' t' c';have up:∀p,Ym cl' st' k1 k2 p->Ym cl st k1 k2 p:=λp q=>⟨λc z=>q.no c (m1 c z),λc z=>q.ye c (m2 c z),q.c1,q.c2⟩;refine⟨λc hc=>(XQ.mp hc).elim (m1 c) λz=>?_,λc hc=>(XQ.mp hc).elim (m2 c) λz=>?_⟩
  .obtain⟨a,_,_,b⟩:=d1 c z;by_cases hz:c∈cl'
   .exact hz
   .refine absurd (λp q=>b p (up p q)) (c' k1 h1 k2 h2 c false a hz λy=>?_);have:=t'.ye c y;rw[b _ f] at this;cases this
  .obtain⟨a,_,_,b⟩:=d2 c z;by_cases hz:c∈st'
   .exact hz
   .refine absurd (λp q=>b p (up p q)) (c' k1 h1 k2 h2 c true a (λy=>?_) hz);have:=t'.no c y;rw[b _ f] at this;cases this
def zii {As:List Ak}{L:AA->Bool}{cs cl st:AB}{k1 k2:Ak}(h:xC As L cl st)(h1:k1∈As)(h2:k2∈As\/k2=K0)(I:InA cs cl st k1 k2)(e1:qd (gsP cl st k1 k2)=[])(e2:qe (gsP cl st k1 k2)=[]):Y9 cl st k1 k2:=λc b hc hl hs hd=>by
 have f:=h.fit h1 h2;cases b with
 | false =>
  have:=(zcy I f).mpr ⟨hc,hs,hl,hd⟩;rw[e1] at this;cases this
 | true =>
  have:=(zcz I f).mpr ⟨hc,hs,hl,hd⟩;rw[e2] at this;cases this
def zlz {As:List Ak}{L:AA->Bool}{cl st:AB}{k1 k2:Ak}(h:xC As L cl st)(h1:k1∈As)(h2:k2∈As)(z1:Y9 cl st k1 K0)(z2:Y9 cl st k2 K0)(ap:∀c∈k1.2,c ∉ k2.2):Y9 cl st k1 k2:=λc b hc hl hs hd=>by
 have mix:∀(k k':Ak),k∈As->k'∈As->(∀c∈k.2,c ∉ k'.2)->∀p,Ym cl st k K0 p->∃q:AA->Bool,(∀c∈k.2,q c=p c)/\(∀c∈cl,q c=false)/\(∀c∈st,q c=true)/\((k.2.countP q:Nat):Int)=k.1/\((k'.2.countP q:Nat):Int)=k'.1:=λk k' hk hk' a p f=>by
  refine⟨λc=>if c∈k.2 then p c else L c,λc z=>br z,λc z=>?_,λc z=>?_,?_,?_⟩
  .show (if c∈k.2 then p c else L c)=false;rw[f.no c z,h.no c z];exact ite_self _
  .show (if c∈k.2 then p c else L c)=true;rw[f.ye c z,h.ye c z];exact ite_self _
  .rw[<- f.c1];congr 1;exact Vf λc z=>by rw[br z]
  .rw[<- h.ct k' hk'];congr 1;exact Vf λc z=>by rw[bw λy=>a c y z]
 rcases hc with hc | hc
 .refine z1 c b (.inl hc) hl hs λp f=>?_;obtain⟨q,e,q1,q2,q3,q4⟩:=mix k1 k2 h1 h2 ap p f;rw[<- e c hc];exact hd q ⟨q1,q2,q3,q4⟩
 .refine z2 c b (.inl hc) hl hs λp f=>?_;obtain⟨q,e,q1,q2,q3,q4⟩:=mix k2 k1 h2 h1 (λc y z=>ap c z y) p f;rw[<- e c hc];exact hd q ⟨q1,q2,q4,q3⟩
abbrev nlI (t:List Nat):List Int:=t.map λx=>((x:Nat):Int)
def PlR (N:Addr->Prop)(H:Hp)(v:V)(t:List Nat):Prop:=∃a,v=V.ref a/\N a/\H a=some (.lst (iL (nlI t)))
abbrev NT:Addr->Prop:=λ_=>True
section
variable {N:Addr->Prop}{H H':Hp}{us:AE}{ts:List (List Nat)}{z:Addr}{ys ys':AE}
def xD (s:zo H H')(h:Xl (PlR N H) us ts):Xl (PlR N H') us ts:=Paired.imp' (λ_ _ ⟨a,e,n,h⟩=>⟨a,e,n,s _ _ h⟩) h
def zij (h:Xl (PlR N H) us ts):Xl (PlR NT H) us ts:=Paired.imp' (λ_ _ ⟨a,e,_,h⟩=>⟨a,e,trivial,h⟩) h
def zfZ (h:Xl (PlR (· ≠ z) H) us ts):Xl (PlR (· ≠ z) (upd H z (.lst ys'))) us ts:=Paired.imp' (λ_ _ ⟨a,e,n,h⟩=>⟨a,e,n,by rw[zf n];exact h⟩) h
def zcC {ks:List Ak}(s:zo H H')(h:Xl (AkV H) us ks):Xl (AkV H') us ks:=Paired.imp' (λ_ _ ⟨t,l,ws,e,h1,h2,h3⟩=>⟨t,l,ws,e,s _ _ h1,s _ _ h2,h3.mono s⟩) h
def zlA {ks:List Ak}(h:Xl (AkV H) us ks){i:Nat}{k:Ak}(e:ks[i]?=some k):∃v,us[i]?=some v/\AkV H v k:=by
 have l:=Paired.length h;have i1:=(X5.mp e).1;obtain⟨v,hv⟩:∃v,us[i]?=some v:=⟨_,XX (by lia)⟩;obtain⟨k',hk,r⟩:=YY h hv;rw[e] at hk;cases hk;exact⟨v,hv,r⟩
def take_snoc {α:Type}{l:List α}{i:Nat}{x:α}(h:l[i]?=some x):l.take (i+1)=l.take i++[x]:=by
 rw[Xc,h];rfl
end
def zae (ks:List Ak)(i j:Nat):Bool:=((ks.getD i (0,[])).2).any λc=>decide (c∈(ks.getD j (0,[])).2)
def zf0 (ks:List Ak)(i m:Nat):List (List Nat):=((Wy m).filter λj=>zae ks i (i+1+j)).map λj=>[i,i+1+j]
def Ja (ks:List Ak)(i:Nat):List (List Nat):=(Wy i).flatMap λi=>zf0 ks i (ks.length-(i+1))
def Yn (ks:List Ak):List (List Nat):=(Wy ks.length).map (λi=>[i])++Ja ks ks.length
def zlB (ks:List Ak)(i m:Nat):(zf0 ks i m).length<=m:=by
 unfold zf0;rw[Y1];have:=Xg (λj=>zae ks i (i+1+j)) (Wy m);rwa [WI] at this
theorem pairs_len (ks:List Ak):∀i,(Ja ks i).length<=i*ks.length
 | 0=>WT _
 | i+1=>by
  unfold Ja;rw[UK,U6,X0];have a:=pairs_len ks i;unfold Ja at a;have b:=zlB ks i (ks.length-(i+1));rw[UG,List.flatMap_nil,Xd,Nat.succ_mul];lia
def zpq (ks:List Ak)(h:ks.length<=32):(Yn ks).length<=1056:=by
 unfold Yn;rw[X0,Y1,WI];have a:=pairs_len ks ks.length;have b:ks.length*ks.length<=32*32:=Nat.mul_le_mul h h;lia
def zik:Sp:=λvs H Q _=>∃(la:Addr) (ls:AE) (ks:List Ak),vs=[.ref la]/\H la=some (.lst ls)/\Xl (AkV H) ls ks/\ks.length<=32/\(∀k∈ks,k.2.length<=64) /\
 ∀(d:Addr) (us:AE) (H':Hp),H' d=some (.lst us)->Xl (PlR NT H') us (Yn ks)->zo H H'->Q (.ref d) H'
def jh:zB ["asked","singles","pairs","place","one","other"] ["asked"] (zp xg):=bz rfl rfl rfl rfl (by decide+kernel)
def zcD (T:Txt mg){f:Addr}{fd:XD}(D:zm K mg "place_lists" xg ["asked"] f fd):qa P w K mg base CX0 1 f fd ["asked"] zik:=by
 refine D.F.ok jh (λvs H Q E h=>?_) (λcdv A outer s H vs Q E hr h=>?_)
 .obtain⟨la,ls,ks,rfl,_⟩:=h;rfl
 .obtain⟨la,ls,ks,rfl,hla,hA,k32,k64,q⟩:=h;refine⟨_,(ze (psC 1 jh.nd ["place"] [none] cP (prg T.qT (pb1 zO T.jk W2 (pvS 0))) (pgN 0) qc (zI (za (pvS 0) zd))) (@ze _ _ _ _ _ (@qH _ _ 2 _ _ _ _ jh.nd rfl (Vz rfl) (@zI _ _ _ _ zd) (by rfl) (.inr rfl)) (ze (qI WV rfl (JY (by rfl) T.jE (za (pvS 0) zd)) (Je rfl (zP (pgq 3 jh.nd) (zP (pgq 4 jh.nd) jX))) (zh (qI WV rfl (zak (by rfl) T.qT (za (zL jZ (pvS 3) zj) (za (pb1 zO T.jk W2 (pvS 0)) zd))) (pgq 5 jh.nd) (zh (je (zbC (pb1 (zbJ rfl) T.zh0 T9 (pcm ["cell","asked","other"] [none,some 0,some 5] cR (zH (zE qA (pvS 4) zj (λ_ _=>rfl))) (pgN 0) qc (xR (jC (K:=K) (by rfl) hr.units) (pvS 0) (zE (zkD (K:=K) (by rfl)) (zE (zar (K:=K) (by rfl)) (pvS 1) (pvS 2) (λ_ _=>rfl)) zj (λ_ _=>rfl)) (by rfl)))) (λ_=>rfl)) (zh (jW (JW WE V0 VZ Jm (pvS 2) (za (zI (za (pvS 3) (za (pvS 5) zd))) zd)))) qf))))) (zh (zG (zL Zo (pvS 1) (pvS 2))))))),?_⟩;(try dsimp only[cxK,cxP,cxW]);have ll:ls.length=ks.length:=Paired.length hA;refine⟨_,rfl,la,_,rfl,.inl (SqL.of hla),_,rfl,by lia,by lia,λsg hsg=>?_⟩;rw[show (((ls.length:Nat):Int)).toNat=ls.length by lia];refine Qj (lo:=0) (n:=ls.length) (λi σ' H'=>∃(u0:Option V) (ys:AE),σ'=[u0]/\zo H H'/\H' sg=some (.lst ys)/\Xl (PlR (· ≠ sg) H') ys ((Wy i).map λi=>[i])) ⟨none,[],rfl,zc hsg,zb,.nil⟩ ?_ ?_
  .rintro i σ' H1 hi ⟨u0,ys,rfl,s1,hs1,hP⟩;rw[VH];unfold jN;refine ZI ?_;refine⟨_,rfl,sz_1,λx hx=>?_⟩;have y2:=zc (o:=.lst [V.int (i:Nat)]) hx;have nx:x≠sg:=λe=>by
    rw[e,hs1] at hx;cases hx
   have yl:ys.length=i:=by rw[Paired.length hP,Y1,WI]
   refine⟨ys,y2 _ _ hs1,Xs (show ys.length<100 by lia) (by decide),_,ys++[.ref x],rfl,λb o e=>?_,zb,?_⟩
   .rw[zf (zg e hsg)];exact y2 _ _ (s1 _ _ e)
   .rw[UK,Xh];refine Paired.snoc (zfZ (xD y2 hP)) ⟨x,rfl,nx,?_⟩;rw[zf nx];exact zb
  rintro σ' H1 ⟨u0,ys,rfl,s1,hs1,hS⟩;refine⟨Jy,λpz hpz=>?_⟩;have y2:=zc (o:=.lst []) hpz;refine⟨_,rfl,la,rfl,⟨_,SqL.of (y2 _ _ (s1 _ _ hla))⟩,?_⟩;refine JZ (K:=K) (l:=la) (xs:=ls) (λi σ H'=>∃(w3 w4 w5:Option V) (zs:AE),σ=[some (.ref la),some (.ref sg),some (.ref pz),w3,w4,w5]/\zo H1 H'/\H' pz=some (.lst zs)/\Xl (PlR (· ≠ pz) H') zs (Ja ks i))
   ⟨_,_,_,[],rfl,y2,zb,.nil⟩ (λi σ H' _ ⟨_,_,_,_,_,s',_⟩=>SqL.of (s' _ _ (s1 _ _ hla))) ?_ ?_
  .rintro i x tt σ H2 hx htt ⟨w3,w4,w5,zs,rfl,s2,hz2,hZ⟩;obtain⟨k1,hk1,t1,l1,u1,rfl,ht1,hl1,hc1⟩:=YY hA hx;have i1:i<ls.length:=(X5.mp hx).1;have y3:=zc (o:=.tup [.int (i:Nat),.ref t1]) htt;have s3:=s2.trans y3;have hz3:=y3 _ _ hz2;have hZ3:=xD y3 hZ;refine⟨tt,_,rfl,SqT.of zb,rfl,_,_,rfl,_,_,rfl,rfl,?_⟩;generalize upd H2 tt (.tup [.int (i:Nat),.ref t1])=H3 at *
   refine⟨_,rfl,_,_,rfl,rfl,_,rfl,la,_,rfl,.inl (SqL.of (s3 _ _ (s1 _ _ hla))),((i+1:Nat):Int),((ls.length:Nat):Int),rfl,⟨by lia,by lia,by lia,by lia⟩,?_⟩;rw[show (((ls.length:Nat):Int)-((i+1:Nat):Int)).toNat=ls.length-(i+1) by lia];refine qV (lo:=((i+1:Nat):Int)) (n:=ls.length-(i+1)) (λm σ H'=>∃(w5:Option V) (zs:AE),σ=[some (.ref la),some (.ref sg),some (.ref pz),some (.int (i:Nat)),some (.ref t1),w5]/\zo H1 H'/\H' pz=some (.lst zs)/\Xl (PlR (· ≠ pz) H') zs (Ja ks i++zf0 ks i m))
    ⟨_,zs,rfl,s3,hz3,by show Xl _ zs (Ja ks i++[]);rw[Xd];exact hZ3⟩ ?_ ?_
   .rintro m σ H4 hm ⟨w5,zs,rfl,s4,hz4,hZ⟩;obtain⟨j,hj,hjl⟩:∃j:Nat,((i+1:Nat):Int)+((m:Nat):Int)=((j:Nat):Int)/\j=i+1+m:=⟨i+1+m,by lia,rfl⟩;rw[hj];have jl:j<ls.length:=by lia
    obtain⟨k2,hk2⟩:∃k,ks[j]?=some k:=⟨_,XX (by lia)⟩;obtain⟨v2,hv2,t2,l2,u2,rfl,ht2,hl2,hc2⟩:=zlA hA hk2;have s14:=s1.trans s4;refine⟨_,rfl,t1,_,1,_,rfl,rfl,SqT.of (s14 _ _ ht1),rfl,l1,rfl,⟨_,SqL.of (s14 _ _ hl1)⟩,λz hz=>?_⟩;have l64:=k64 k1 (X6 hk1);refine qE (K:=K) (a:=l1) (xs:=u1) (λr σ' H'=>∃(u0:Option V),σ'=[u0,some (.ref la),some (.int (j:Nat))]/\zo H4 H'/\H' z=some (.lst (((k1.2.take r).map λc=>decide (c∈k2.2)).map V.bl))) ⟨_,rfl,zc hz,zb⟩ (λr σ' H' _ ⟨_,_,s',_⟩=>SqL.of (s' _ _ (s14 _ _ hl1))) ?_ ?_
    .rintro r v σ' H5 hv ⟨u0,rfl,s5,hz5⟩;have s15:=s14.trans s5;obtain⟨c,hc,rc⟩:=Cel.get (Cel.mono s15 hc1) hv;unfold jN;refine ZI ?_;refine⟨_,rfl,_,rfl,_,rfl,la,_,_,_,rfl,rfl,SqL.of (s15 _ _ hla),qK hv2,t2,_,1,_,rfl,rfl,SqT.of (s15 _ _ ht2),rfl,zk c,k2.2.map zk,rc.rdv,.lst (SqL.of (s15 _ _ hl2)) (zc3 (hc2.mono s15)),rfl,YV _,(by show 1<=60;decide),?_⟩;rw[zn3];refine⟨_,hz5,?_,_,rfl,λb o e=>?_,?_⟩
     .rw[Y1,Y1,XF];exact Xs (show min r k1.2.length<100 by lia) (by decide)
     .rw[zf (zg e hz)];exact s5 _ _ e
     .rw[zb,take_snoc hc,Xh,Xh];rfl
    rintro σ' H5 ⟨u0,rfl,s5,hz5⟩;rw[hc1.length,Xz] at hz5;have em:((k1.2.map λc=>decide (c∈k2.2)).any id)=zae ks i j:=by
     unfold zae;rw[Xp,Xp,hk1,hk2,TL];rfl
    refine⟨z,_,rfl,SqL.of hz5,_,rfl,?_⟩;rw[em];have e1:zf0 ks i (m+1)=zf0 ks i m++if zae ks i j=true then [[i,j]] else []:=by
     unfold zf0;rw[UK,WX,Xh,Wr,<- hjl];split
     .rw[List.filter_nil,Xu,<- hjl];rfl
     .rfl
    rw[e1];have hz45:=s5 _ _ hz4;by_cases hm:zae ks i j=true
    .refine ju hm ?_;refine⟨_,rfl,.inl ⟨rfl,_,SqL.of hz45⟩,_,rfl,_,rfl,jP,λx hx=>?_⟩;have y6:=zc (o:=.lst [V.int (i:Nat),.int (j:Nat)]) hx;have nx:x≠pz:=λe=>by
      rw[e,hz45] at hx;cases hx
     have zl:zs.length<=2000:=by
      have a:=Paired.length hZ;have b:=zlB ks i m;have c:=pairs_len ks i;have d:i*ks.length<=32*32:=Nat.mul_le_mul (by lia) k32;rw[X0] at a;lia
     refine⟨pz,_,_,rfl,rfl,y6 _ _ hz45,Xw zl (by decide),some (.int (j:Nat)),zs++[.ref x],rfl,λb o e=>?_,zb,?_⟩
     .rw[zf (zg e hpz)];exact y6 _ _ (s5 _ _ (s4 _ _ e))
     .rw[br hm,<- W3];refine Paired.snoc (zfZ (xD (s5.trans y6) hZ)) ⟨x,rfl,nx,?_⟩;rw[zf nx];exact zb
    .refine jd (XC.mpr hm) ?_;rw[bw hm,Xd];exact⟨some (.int (j:Nat)),zs,rfl,s4.trans s5,hz45,xD s5 hZ⟩
   .rintro σ H4 ⟨w5,zs,rfl,s4,hz4,hZ⟩;refine⟨_,_,_,zs,rfl,s4,hz4,?_⟩;unfold Ja at *
    rw[UK,U6,UG,List.flatMap_nil,Xd];rw[ll] at hZ;exact hZ
  .rintro σ H2 ⟨w3,w4,w5,zs,rfl,s2,hz2,hZ⟩;rw[ll] at hZ;have hS2:=xD s2 hS;have yl:ys.length<=32:=by rw[Paired.length hS,Y1,WI];lia
   have zl:zs.length<=1056:=by
    have:=zpq ks k32;unfold Yn at this;rw[X0] at this;rw[Paired.length hZ];lia
   refine⟨_,rfl,_,rfl,sg,pz,_,_,rfl,rfl,s2 _ _ hs1,hz2,XZ (show ys.length+zs.length<=2000 by lia) (by decide),λd hd=>?_⟩;have y5:=zc (o:=.lst (ys++zs)) hd;refine q d _ _ zb ?_ (s1.trans (s2.trans y5));unfold Yn;rw[<- ll];exact zbI (zij (xD y5 hS2)) (zij (xD y5 (by rw[ll];exact hZ)))
def pk1 (ks:List Ak)(t:List Nat):Ak:=ks.getD (t.getD 0 0) K0
def pk2 (ks:List Ak)(t:List Nat):Ak:=match t with
 | [_,j]=>ks.getD j K0
 | _=>K0
def Emp (cl st:AB)(ks:List Ak)(t:List Nat):Prop:=qd (gsP cl st (pk1 ks t) (pk2 ks t))=[]/\qe (gsP cl st (pk1 ks t) (pk2 ks t))=[]
def Qv {ks:List Ak}{t:List Nat}:t∈Yn ks↔(∃i,i<ks.length/\t=[i])\/∃i j,i<j/\j<ks.length/\zae ks i j=true/\t=[i,j]:=by
 unfold Yn Ja zf0;rw[XQ,XM,UX];constructor
 .rintro(⟨i,hi,e⟩ | ⟨i,hi,h⟩)
  .exact .inl ⟨i,Wo.mp hi,e.symm⟩
  .obtain⟨m,hm,e⟩:=XM.mp h;obtain⟨h1,h2⟩:=X9.mp hm;have:=Wo.mp h1;exact .inr ⟨i,i+1+m,by lia,by lia,h2,e.symm⟩
 .rintro(⟨i,hi,e⟩ | ⟨i,j,hij,hj,hm,e⟩)
  .exact .inl ⟨i,Wo.mpr hi,e.symm⟩
  .refine .inr ⟨i,Wo.mpr (by lia),XM.mpr ⟨j-(i+1),X9.mpr ⟨Wo.mpr (by lia),?_⟩,?_⟩⟩
   .rw[show i+1+(j-(i+1))=j by lia];exact hm
   .rw[show i+1+(j-(i+1))=j by lia,e]
structure zjC (cs:AB)(ks:List Ak):Prop where
 nd:cs.Nodup
 n:∀k∈ks,k.2.Nodup/\k.2.length<=20/\∀c∈k.2,c∈cs
 l:ks.length<=32
def getD_mem {ks:List Ak}{i:Nat}(h:i<ks.length):ks.getD i K0∈ks/\ks[i]?=some (ks.getD i K0):=by
 have e:ks[i]?=some (ks.getD i K0):=by
  rw[Xp,XX h];rfl
 exact⟨X6 e,e⟩
def zjC.two {cs:AB}{ks:List Ak}(X:zjC cs ks){cl st:AB}(ap:∀c∈cl,c ∉ st){k1 k2:Ak}(h1:k1∈ks)(h2:k2∈ks\/k2=K0):InA cs cl st k1 k2:=by
 have a:=X.n k1 h1;rcases h2 with h2 | rfl
 .have b:=X.n k2 h2;exact⟨X.nd,a.1,b.1,a.2.2,b.2.2,ap⟩
 .exact⟨X.nd,a.1,Vw,a.2.2,(λ_ h=>nomatch h),ap⟩
def zil {ks:List Ak}{t:List Nat}(h:t∈Yn ks):pk1 ks t∈ks/\(pk2 ks t∈ks\/pk2 ks t=K0):=by
 rcases Qv.mp h with ⟨i,hi,rfl⟩ | ⟨i,j,hij,hj,_,rfl⟩
 .exact⟨(getD_mem hi).1,.inr rfl⟩
 .exact⟨(getD_mem (show i<ks.length by lia)).1,.inl (getD_mem hj).1⟩
def AkN (N:Addr->Prop)(H:Hp)(v:V)(k:Ak):Prop:=∃(t l:Addr) (us:AE),v=V.ref t/\N t/\N l/\H t=some (.tup [.int k.1,.ref l])/\H l=some (.lst us)/\Cel H us k.2
def zn4 {N:Addr->Prop}{H:Hp}{us:AE}{ks:List Ak}(h:Xl (AkN N H) us ks):Xl (AkV H) us ks:=Paired.imp' (λ_ _ ⟨t,l,ws,e,_,_,h1,h2,h3⟩=>⟨t,l,ws,e,h1,h2,h3⟩) h
def Cel.one {H H':Hp}{d:Addr}{xs:AE}(s:∀b o,b≠d->H b=some o->H' b=some o)(hd:H d=some (.lst xs)){vs:AE}{cs:AB}(hp:Cel H vs cs):Cel H' vs cs:=by
 induction hp with
 | nil=>exact .nil
 | cons q _ ih =>
  obtain⟨a,e,h⟩:=q;exact .cons ⟨a,e,s a _ (λz=>by rw[z,hd] at h;cases h) h⟩ ih
def zf1 {y:Addr}{H H':Hp}{old:AE}(hy:H y=some (.lst old))(s:∀b o,b≠y->H b=some o->H' b=some o){us:AE}{ks:List Ak}(h:Xl (AkN (· ≠ y) H) us ks):Xl (AkN (· ≠ y) H') us ks :=
 Paired.imp' (λ_ _ ⟨t,l,ws,e,n1,n2,h1,h2,h3⟩=>⟨t,l,ws,e,n1,n2,s _ _ n1 h1,s _ _ n2 h2,Cel.one s hy h3⟩) h
theorem znn:∀c1 c2:AB,WL (.tuple [.list (c1.map zk),.list (c2.map zk)]) (.tuple [.list [],.list []])=decide (c1=[]/\c2=[])
 | [],[]=>by decide+kernel
 | [],c::r=>rfl
 | c::r,d=>rfl
def nd3 {H:Hp}{tl d1 d2:Addr}{o1 o2:HO}(h1:H d1=some o1)(h2:H d2=some o2)(h:H tl=none)(n:d1≠d2):[tl,d1,d2].Nodup:=by
 have a:tl≠d1:=λe=>by
  rw[e,h1] at h;cases h
 have b:tl≠d2:=λe=>by
  rw[e,h2] at h;cases h
 simp[a,b,n]
structure zim (H:Hp)(th la pl fa fc fs:Addr)(ths ls us u w':AE)(tgs:List (Option AA))(ks:List Ak)(cl st:AB):Prop where
 h1:H th=some (.lst ths)
 t:Xl (zbb H) ths tgs
 h2:H la=some (.lst ls)
 k:Xl (AkV H) ls ks
 h3:H pl=some (.lst us)
 p:Xl (PlR NT H) us (Yn ks)
 f:j5 H fa fc fs u w' cl st
 fi:zqx cl st
 l:tgs.length=ks.length
def zin (C:Addr):Sp:=λvs H Q E=>∃(th la pl fa fc fs:Addr) (ths ls us u w':AE) (tgs:List (Option AA)) (ks:List Ak) (cs cl st:AB) (L:AA->Bool),vs=[.ref th,.ref la,.ref pl,.ref fa]/\zim H th la pl fa fc fs ths ls us u w' tgs ks cl st/\zjC cs ks/\xC ks L cl st /\
 ((∀t∈Yn ks,Emp cl st ks t)->∀H',zo H H'->Q .non H') /\
 ∀(i:Nat) (t:List Nat) (c1 c2:AB) (r tl d1 d2:Addr) (tv w1 w2:AE) (H':Hp),(Yn ks)[i]?=some t->(∀j,j<i->∀t',(Yn ks)[j]?=some t'->Emp cl st ks t')->c1.Perm (qd (gsP cl st (pk1 ks t) (pk2 ks t)))->c2.Perm (qe (gsP cl st (pk1 ks t) (pk2 ks t)))->c1.Pairwise Cells.lex->c2.Pairwise Cells.lex->¬ (c1=[]/\c2=[])->H d1=none->H d2=none->H tl=none->[tl,d1,d2].Nodup ->
  H' r=some (.tup [.ref tl,.ref d1,.ref d2])->H' tl=some (.lst tv)->Xl (zbb H') tv (t.map λi=>tgs.getD i none)->H' d1=some (.lst w1)->H' d2=some (.lst w2)->Cel H' w1 c1->Cel H' w2 c2->zo H H'->Q (.ref r) H'
section
variable {P:Xm}{w:WZ}{K:XW}{mg:Str->Option X8}{base:Heap}{f:Addr}{fd:XD}{jad:Addr}
def jU:zB ["things","asked","lists","finding","known","left","places","told"] ["things","asked","lists","finding"] (zp x6):=bz rfl rfl rfl rfl (by decide+kernel)
def zc4 (T:Txt mg)(Z:Prog K mg)(jan:ql K mg "NoLaying" jad){f:Addr}{fd:XD}(D:zm K mg "first_step" x6 ["things","asked","lists","finding"] f fd):qa P w K mg base (CXE P w) 3 f fd ["things","asked","lists","finding"] (zin jad):=by
 obtain⟨zpr,zn5,zcE⟩:=Z.known_of;obtain⟨zl1,zlC,Qa⟩:=Z.still_asked;obtain⟨zpK,zps,YQ⟩:=Z.settled;obtain⟨zqy,zpL,zf2⟩:=Z.gained;have  zhd:qa P w K mg base CX0 1 _ _ ["finding"] zie:=zfT T zcE;have  zc5:qa P w K mg base CX0 1 _ _ ["asked","known"] zif:=zcv T Qa;have  zlD:qa P w K mg base (CXE P w) 2 _ _ ["asked"] (zdW jad):=zjA T jan zf2 YQ;refine D.F.okX jU (λvs H Q E h=>?_) (λcdv A outer s H vs Q E hr h=>?_)
 .obtain⟨th,la,pl,fa,fc,fs,ths,ls,us,u,w',tgs,ks,cs,cl,st,L,rfl,_⟩:=h;rfl
 .obtain⟨th,la,pl,fa,fc,fs,ths,ls,us,u,w',tgs,ks,cs,cl,st,L,rfl,X,A',tr,qn,qs⟩:=h;refine⟨_,(ze (jo 4 jU.nd (pc0 zhd hr zcE (za (pvS 3) zd))) (ze (jo 5 jU.nd (pcm ["some","known"] [none,some 4] cR (zH (pvS 1)) (pgN 0) qc (pc0 zc5 hr Qa (za (pvS 0) (za (pvS 1) zd))))) (ze (qI (jB.own qy) rfl (zH (pvS 2)) (pgq 6 jU.nd) (ze (jo 7 jU.nd (pcL qy zlD hr zf2 (za (pcm ["place","left"] [none,some 5] cR (zH (pvS 6)) (pgN 0) qc (zE (zar (K:=K) (by rfl)) (pvS 1) (pvS 0) (λ_ _=>rfl))) zd))) (zh (je (zV (yC hr.units) (pvS 7) (@qp _ _ _ _ _ (@za _ _ _ _ _ (@zI _ _ _ _ zd) (@za _ _ _ _ _ (@zI _ _ _ _ zd) zd rfl) rfl)) (zY _)) (zh (zG (qp (za (pcm ["place","things"] [none,some 0] cR (zH (pvS 6)) (pgN 0) qc (zE (zar (K:=K) (by rfl)) (pvS 1) (pvS 0) (λ_ _=>rfl))) (za (zE qA (pvS 7) zj (λ_ _=>rfl)) (za (zE qA (pvS 7) zj (λ_ _=>rfl)) zd)))))) qf)))) (@zh _ _ _ (@zG _ _ _ _ zd2))))),?_⟩;(try dsimp only[cxK,cxP,cxW]);refine⟨_,rfl,fa,fc,fs,u,w',cl,st,rfl,X.f,X.fi,λkd kvs H1 hkd zrj hK s1=>?_⟩;refine⟨_,rfl,la,rfl,⟨_,SqL.of (s1 _ _ X.h2)⟩,λy hy=>?_⟩;refine qE (K:=K) (a:=la) (xs:=ls) (λi σ H'=>(∃u0,σ=[u0,some (.ref kd)])/\zo H1 H'/\∃ys,H' y=some (.lst ys)/\Xl (AkN (· ≠ y) H') ys ((ks.take i).map (yu cl st))) ⟨⟨_,rfl⟩,zc hy,[],zb,.nil⟩ (λi σ H' _ ⟨_,s',_⟩=>SqL.of (s' _ _ (s1 _ _ X.h2))) ?_ ?_
  .rintro i x σ H2 hx ⟨⟨u0,rfl⟩,s2,ys,hy2,hP⟩;have s12:=s1.trans s2;obtain⟨k,hk,t,l,us3,rfl,ht,hl,hc⟩:=YY X.k hx;have kn:=A'.n k (X6 hk);refine xU ⟨_,rfl,_,rfl,t,l,kd,k.1,us3,k.2,cl,st,kvs,rfl,s12 _ _ ht,s12 _ _ hl,hc.mono s12,XZ kn.2.1 (by decide),s2 _ _ zrj,hK,λr l2 ws2 H4 hr4 hl0 hr4' hl2 hc4 s4=>?_⟩;have hy4:=s4 _ _ hy2;have nry:r≠y:=zcg hr4' hy4 (by intro q;cases q);have nly:l2≠y:=λz=>by
    rw[z,hy2] at hl0;cases hl0
   have ysl:ys.length<=32:=by
    rw[Paired.length hP,Y1,XF];have:=A'.l;lia
   refine⟨ys,hy4,Xw ysl (by decide),⟨_,rfl⟩,λb o e'=>?_,ys++[.ref r],zb,?_⟩
   .rw[zf (zg e' hy)];exact s4 _ _ (s2 _ _ e')
   .rw[take_snoc hk,Xh];have kk:∀b o,b≠y->H4 b=some o->upd H4 y (.lst (ys++[.ref r])) b=some o:=λb o nb e=>by
     rw[zf nb];exact e
    exact Paired.snoc (zf1 hy2 (λb o nb e=>by rw[zf nb];exact s4 _ _ e) hP) ⟨r,l2,ws2,rfl,nry,nly,kk _ _ nry hr4',kk _ _ nly hl2,Cel.into y _ hy4 hc4⟩
  rintro σ H2 ⟨_,s2,ys,hy2,hP⟩;rw[Paired.length X.k,Xz] at hP;have hV:=zn4 hP;have s12:=s1.trans s2;refine⟨_,rfl,pl,rfl,⟨_,SqL.of (s12 _ _ X.h3)⟩,?_⟩;refine xw (K:=K) (a:=pl) (xs:=us) (λi σ H'=>∃(w6 w7:Option V),σ=[some (.ref th),some (.ref la),some (.ref pl),some (.ref fa),some (.ref kd),some (.ref y),w6,w7]/\zo H2 H'/\∀j,j<i->∀t',(Yn ks)[j]?=some t'->Emp cl st ks t')
   ⟨_,_,rfl,zo.refl _,λj hj=>by lia⟩ (λi σ H' _ ⟨_,_,_,s',_⟩=>SqL.of (s' _ _ (s12 _ _ X.h3))) ?_ ?_
  .rintro i x σ H3 hx ⟨w6,w7,rfl,s3,hE⟩;obtain⟨t,ht,ta,rfl,_,hta⟩:=YY X.p hx;have s13:=s12.trans s3;have hta3:=s13 _ _ hta;have tm:=X6 ht;have tb:∀j∈t,j<ks.length:=λj hj=>by
    rcases Qv.mp tm with ⟨i,hi,rfl⟩ | ⟨i,j',hij,hj',_,rfl⟩
    .rw[Wv.mp hj];exact hi
    .rcases XG.mp hj with rfl | hj
     .lia
     .rw[Wv.mp hj];exact hj'
   have tl2:t.length=1\/t.length=2:=by
    rcases Qv.mp tm with ⟨i,hi,rfl⟩ | ⟨i,j',hij,hj',_,rfl⟩
    .exact .inl rfl
    .exact .inr rfl
   refine⟨_,rfl,ta,rfl,⟨_,SqL.of hta3⟩,λg hg=>?_⟩;refine qE (K:=K) (a:=ta) (xs:=iL (nlI t)) (λr σ' H'=>∃(u0:Option V) (gv:AE),σ'=[u0,some (.ref y)]/\zo H3 H'/\H' g=some (.lst gv)/\Xl (AkV H3) gv ((t.take r).map λi=>yu cl st (ks.getD i K0))) ⟨_,[],rfl,zc hg,zb,.nil⟩ (λr σ' H' _ ⟨_,_,_,s',_⟩=>SqL.of (s' _ _ hta3)) ?_ ?_
   .rintro r v σ' H4 hv ⟨u0,gv,rfl,s4,hg4,hG⟩;obtain⟨x0,hx0,rfl⟩:=ints_get hv;rw[Xo] at hx0;obtain⟨j,hj,rfl⟩:=Uf.mp hx0;have jm:=tb j (X6 hj);have ek:(ks.map (yu cl st))[j]?=some (yu cl st (ks.getD j K0)):=by
     rw[Xo,(getD_mem jm).2];rfl
    obtain⟨v2,hv2,r2⟩:=zlA (zcC s3 hV) ek;unfold jN;refine ZI ?_;have r1:r<t.length:=(X5.mp hj).1;refine⟨_,rfl,_,rfl,y,_,_,_,rfl,rfl,SqL.of (s4 _ _ (s3 _ _ hy2)),qK hv2,_,hg4,?_,_,gv++[v2],rfl,λb o e=>?_,zb,?_⟩
    .rw[Paired.length hG,Y1,XF];exact Xs (show min r t.length<100 by lia) (by decide)
    .rw[zf (zg e hg)];exact s4 _ _ e
    .rw[take_snoc hj,Xh];exact Paired.snoc hG r2
   rintro σ' H4 ⟨u0,gv,rfl,s4,hg4,hG⟩;rw[Y1,Y1,Xz] at hG;have s14:=s13.trans s4;have eg:gsU (t.map λi=>yu cl st (ks.getD i K0))=gsP cl st (pk1 ks t) (pk2 ks t):=by
    rcases Qv.mp tm with ⟨i,hi,rfl⟩ | ⟨i,j',hij,hj',_,rfl⟩
    .rfl
    .rfl
   obtain⟨m1,m2⟩:=zil tm;have I:=A'.two tr.ap m1 m2;have fit:zpp (t.map λi=>yu cl st (ks.getD i K0)):=by
    have:=zeF I (tr.fit m1 m2);rcases Qv.mp tm with ⟨i,hi,rfl⟩ | ⟨i,j',hij,hj',_,rfl⟩
    .exact this
    .exact this
   refine⟨g,gv,t.map λi=>yu cl st (ks.getD i K0),rfl,hg4,zcC s4 hG,by rw[Y1];exact tl2,λk hk=>?_,λ_ tt d1 d2 w1 w2 c1 c2 H5 f1 f2 f12 k1 k2 k3 g1 g2 p1 p2 x1 x2 s5=>?_,λhn=>absurd fit hn⟩
   .obtain⟨j,hj,rfl⟩:=XM.mp hk;have kn:=A'.n _ (getD_mem (tb j hj)).1;exact⟨kn.1.sublist XA,XZ (Xg _ _) kn.2.1⟩
   rw[eg] at p1 p2;refine⟨_,rfl,Jy,λe1 he1=>⟨Jy,λe2 he2=>⟨jP,λe3 he3=>?_⟩⟩⟩;have y1:=zc (o:=.lst []) he1;have y2:=zc (o:=.lst []) he2;have y3:=zc (o:=.tup [.ref e1,.ref e2]) he3;have y13:=y1.trans (y2.trans y3);have s56:=s5.trans y13;refine⟨.tuple [.list (c1.map zk),.list (c2.map zk)],.tuple [.list [],.list []],.tup (SqT.of (y13 _ _ k1)) (.cons (.lst (SqL.of (y13 _ _ k2)) (zc3 (g1.mono y13))) (.cons (.lst (SqL.of (y13 _ _ k3)) (zc3 (g2.mono y13))) .nil)),.tup (SqT.of zb) (.cons (.lst (SqL.of (y3 _ _ (y2 _ _ zb))) .nil) (.cons (.lst (SqL.of (y3 _ _ zb)) .nil) .nil)),⟨?_,rfl,?_⟩,_,rfl,?_⟩
   .show (T7 (c1.map zk)&&(T7 (c2.map zk)&&true))=true;rw[YV,YV];rfl
   .show max (UL (c1.map zk)+1) (max (UL (c2.map zk)+1) 0)+1<=64;have a:=zce c1;have b:=zce c2;lia
   rw[br rfl,znn];by_cases he:c1=[]/\c2=[]
   .refine jd (by rw[bu he];rfl) ?_;refine⟨_,_,rfl,s3.trans (s4.trans s56),λj hj t' ht'=>?_⟩;by_cases ji:j<i
    .exact hE j ji t' ht'
    .have:j=i:=by lia
     subst this;rw[ht] at ht';cases ht';rw[he.1] at p1;rw[he.2] at p2;exact⟨p1.symm.eq_nil,p2.symm.eq_nil⟩
   .refine ju (by rw[bg he];rfl) ?_;generalize upd (upd (upd H5 e1 (.lst [])) e2 (.lst [])) e3 (.tup [.ref e1,.ref e2])=H6 at *
    have s16:=s13.trans (s4.trans s56);have hta6:=s16 _ _ hta;refine⟨_,rfl,ta,rfl,⟨_,SqL.of hta6⟩,λtl htl=>?_⟩;have tl2':tgs.length=ks.length:=X.l;refine qE (K:=K) (a:=ta) (xs:=iL (nlI t)) (λr σ' H'=>∃(u0:Option V) (tv:AE),σ'=[u0,some (.ref th)]/\zo H6 H'/\H' tl=some (.lst tv)/\Xl (zbb H6) tv ((t.take r).map λi=>tgs.getD i none)) ⟨_,[],rfl,zc htl,zb,.nil⟩ (λr σ' H' _ ⟨_,_,_,s',_⟩=>SqL.of (s' _ _ hta6)) ?_ ?_
    .rintro r v σ' H7 hv ⟨u0,tv,rfl,s7,ht7,hT⟩;obtain⟨x0,hx0,rfl⟩:=ints_get hv;rw[Xo] at hx0;obtain⟨j,hj,rfl⟩:=Uf.mp hx0;have jm:=tb j (X6 hj);have tht:ths.length=tgs.length:=Paired.length X.t;obtain⟨v2,hv2⟩:∃v,ths[j]?=some v:=⟨_,XX (by lia)⟩;obtain⟨tg,htg,r2⟩:=YY X.t hv2;unfold jN;refine ZI ?_;have r1:r<t.length:=(X5.mp hj).1;refine⟨_,rfl,_,rfl,th,_,_,_,rfl,rfl,SqL.of (s7 _ _ (s16 _ _ X.h1)),qK hv2,_,ht7,?_,_,tv++[v2],rfl,λb o e=>?_,zb,?_⟩
     .rw[Paired.length hT,Y1,XF];exact Xs (show min r t.length<100 by lia) (by decide)
     .rw[zf (zg e htl)];exact s7 _ _ e
     .rw[take_snoc hj,Xh];refine Paired.snoc hT ?_;have:tgs.getD j none=tg:=by
       rw[Xp,htg];rfl
      show zbb H6 v2 (tgs.getD j none);rw[this];exact r2.mono s16
    rintro σ' H7 ⟨u0,tv,rfl,s7,ht7,hT⟩;rw[Y1,Y1,Xz] at hT;have y67:=y13.trans s7;refine⟨_,rfl,tt,_,0,_,rfl,rfl,SqT.of (y67 _ _ k1),rfl,_,rfl,tt,_,1,_,rfl,rfl,SqT.of (y67 _ _ k1),rfl,zet,λr hr'=>?_⟩;have y8:=zc (o:=.tup [.ref tl,.ref d1,.ref d2]) hr';have y68:=y67.trans y8;exact qs i t c1 c2 r tl d1 d2 tv w1 w2 _ ht hE p1 p2 x1 x2 he (s14.free f1) (s14.free f2) (s16.free htl) (nd3 (y13 _ _ k2) (y13 _ _ k3) htl f12) zb (y8 _ _ ht7) (Paired.imp' (λ_ _ h=>zbb.mono (s7.trans y8) h) hT) (y68 _ _ k2) (y68 _ _ k3) (g1.mono y68) (g2.mono y68) (s16.trans (s7.trans y8))
  .rintro σ H3 ⟨w6,w7,rfl,s3,hE⟩;refine qn (λt ht=>?_) H3 (s12.trans s3);obtain⟨j,hj⟩:=UD ht;exact hE j (by rw[Paired.length X.p];exact(X5.mp hj).1) t hj
end
def Ym.turn {cl st:AB}{k1 k2:Ak}{p:AA->Bool}(h:Ym cl st k1 k2 p):Ym cl st k2 k1 p:=⟨h.no,h.ye,h.c2,h.c1⟩
theorem Y9.turn {cl st:AB}{k1 k2:Ak}(h:Y9 cl st k1 k2):Y9 cl st k2 k1:=λc b hc hl hs hd=>h c b hc.symm hl hs λp f=>hd p f.turn
def zjD {cs cl st:AB}{ks:List Ak}{L:AA->Bool}(X:zjC cs ks)(tr:xC ks L cl st)(h:∀t∈Yn ks,Emp cl st ks t):zcA ks cl st:=by
 have one:∀k∈ks,Y9 cl st k K0:=λk hk=>by
  obtain⟨i,hi⟩:=UD hk;have il:=(X5.mp hi).1;have e:ks.getD i K0=k:=by
   rw[Xp,hi];rfl
  have:=h [i] (Qv.mpr (.inl ⟨i,il,rfl⟩));obtain⟨a,b⟩:qd (gsP cl st (ks.getD i K0) K0)=[]/\qe (gsP cl st (ks.getD i K0) K0)=[]:=this;rw[e] at a b;exact zii tr hk (.inr rfl) (X.two tr.ap hk (.inr rfl)) a b
 have two:∀i j,i<j->j<ks.length->Y9 cl st (ks.getD i K0) (ks.getD j K0):=λi j hij hj=>by
  have mi:=(getD_mem (ks:=ks) (show i<ks.length by lia)).1;have mj:=(getD_mem (ks:=ks) hj).1;by_cases hm:zae ks i j=true
  .have:=h [i,j] (Qv.mpr (.inr ⟨i,j,hij,hj,hm,rfl⟩));exact zii tr mi (.inl mj) (X.two tr.ap mi (.inl mj)) this.1 this.2
  .refine zlz tr mi mj (one _ mi) (one _ mj) λc hc hd=>hm ?_;unfold zae;exact WF.mpr ⟨c,hc,bu hd⟩
 intro k1 h1 k2 h2;rcases h2 with h2 | rfl
 .obtain⟨i,hi⟩:=UD h1;obtain⟨j,hj⟩:=UD h2;have il:=(X5.mp hi).1;have jl:=(X5.mp hj).1;have ei:ks.getD i K0=k1:=by
   rw[Xp,hi];rfl
  have ej:ks.getD j K0=k2:=by
   rw[Xp,hj];rfl
  by_cases e:i=j
  .subst e;rw[hi] at hj;cases hj;intro c b hc hl hs hd;exact one k1 h1 c b (.inl (hc.elim id id)) hl hs λp f=>hd p ⟨f.no,f.ye,f.c1,f.c1⟩
  .by_cases l:i<j
   .have:=two i j l jl;rwa [ei,ej] at this
   .have:=two j i (by lia) il;rw[ei,ej] at this;exact this.turn
 .exact one k1 h1
def xC.congr {As:List Ak}{L:AA->Bool}{cl st cl' st':AB}(h:xC As L cl st)(a:∀c∈cl',c∈cl)(b:∀c∈st',c∈st):xC As L cl' st':=⟨λc z=>h.no c (a c z),λc z=>h.ye c (b c z),h.ct⟩
def zcB.congr {As:List Ak}{L:AA->Bool}{cl st cl' st':AB}(h:zcB As L cl st)(a:∀c∈cl',c∈cl)(b:∀c∈st',c∈st):zcB As L cl' st':=λx y t c=>let z:=h x y t c;⟨λc m=>z.1 c (a c m),λc m=>z.2 c (b c m)⟩
def qz (rs:AD)(n:Int)(tgs:List (Option AA)):List Ak:=tgs.map λtg=>(zlx rs n tg,znj rs tg)
def Yo (rs:AD):(zx rs).Pairwise Cells.lex:=Cells.qW _ 0 (codes rs)
def zno {rs:AD}{tg:Option AA}:(znj rs tg).Sublist (zx rs):=by
 cases tg with
 | none=>exact List.Sublist.refl _
 | some c =>
  show (clA rs c).Sublist (zx rs);unfold clA zF zx;have e:(Cells.zw qh 0 (codes rs)).filter (λx=>decide (Cells.sgn (codes rs) x=63))=Cells.zw yx 0 (codes rs):=by
   rw[Cells.all_filter (p:=qh) (q:=λk=>decide (k=63)) (codes rs)];refine Cells.Yc (λk=>?_) 0 _;unfold yx qh;by_cases h:k=63
   .subst h;rfl
   .rw[bg h,R7]
  rw[<- e,VO];have e2:(λx=>decide (Cells.sgn (codes rs) x=63)&&Cells.near x c)=λx=>Cells.near x c&&decide (Cells.sgn (codes rs) x=63):=by
   funext x;exact RF _ _
  rw[e2,<- VO];exact XA
def znp {rs:AD}{n:Int}{tgs:List (Option AA)}(l:tgs.length<=32)(s20:(zx rs).length<=20):zjC (zx rs) (qz rs n tgs):=by
 refine⟨jG rs,λk hk=>?_,by unfold qz;rw[Y1];exact l⟩;obtain⟨tg,_,rfl⟩:=XM.mp hk;have s:=zno (rs:=rs) (tg:=tg);exact⟨(jG rs).sublist s,XZ s.length_le s20,λc hc=>s.subset hc⟩
def zlE (H:Hp)(sa:Addr)(ks:List Ak)(cl st:AB)(v:V):Prop:=(v=.non/\∀t∈Yn ks,Emp cl st ks t)\/∃(t:List Nat) (c1 c2:AB) (r tl d1 d2:Addr) (w1 w2:AE),v=.ref r/\t∈Yn ks/\c1.Perm (qd (gsP cl st (pk1 ks t) (pk2 ks t)))/\c2.Perm (qe (gsP cl st (pk1 ks t) (pk2 ks t)))/\c1.Pairwise Cells.lex/\c2.Pairwise Cells.lex/\¬ (c1=[]/\c2=[])/\H r=some (.tup [.ref tl,.ref d1,.ref d2])/\H d1=some (.lst w1)/\H d2=some (.lst w2)/\Cel H w1 c1/\Cel H w2 c2/\d1≠sa/\d2≠sa
structure Way (cs:AB)(ks:List Ak)(L:AA->Bool)(cl st:AB):Prop where
 tr:xC ks L cl st
 le:zcB ks L cl st
 x1:cl.Pairwise Cells.lex
 x2:st.Pairwise Cells.lex
 s1:∀c∈cl,c∈cs
 s2:∀c∈st,c∈cs
def Way.len {cs cl st:AB}{ks:List Ak}{L:AA->Bool}(W:Way cs ks L cl st)(nd:cs.Nodup)(h:cs.length<=20):cl.length+st.length<=20:=by
 have n:(cl++st).Nodup:=WW.mpr ⟨qi W.x1,qi W.x2,λa ha b hb e=>by
  subst e;exact W.tr.ap a ha hb⟩
 have:=((W6 n (nd.sublist (XA (p:=λx=>decide (x∈cl++st))))).mpr λx=>by
  rw[X9,bf];exact⟨λz=>⟨(XQ.mp z).elim (W.s1 x) (W.s2 x),z⟩,λz=>z.2⟩).length_eq
 rw[X0] at this;have:=Xg (λx=>decide (x∈cl++st)) cs;lia
def Way.next {cs cl st c1 c2 q1 q2:AB}{ks:List Ak}{L:AA->Bool}(W:Way cs ks L cl st)(X:zjC cs ks){t:List Nat}(ht:t∈Yn ks)(p1:c1.Perm (qd (gsP cl st (pk1 ks t) (pk2 ks t))))(p2:c2.Perm (qe (gsP cl st (pk1 ks t) (pk2 ks t))))(x1:c1.Pairwise Cells.lex)(x2:c2.Pairwise Cells.lex)(e1:q1.Perm (cl++c1))(e2:q2.Perm (st++c2))
  (u1:(q1.map toI).Pairwise λp q=>lt2 q p=false) (u2:(q2.map toI).Pairwise λp q=>lt2 q p=false):Way cs ks L q1 q2:=by
 obtain⟨m1,m2⟩:=zil ht;have I:=X.two W.tr.ap m1 m2;have g1:∀c∈c1,(c∈(pk1 ks t).2\/c∈(pk2 ks t).2)/\c ∉ st/\c ∉ cl:=λc hc=>YR I ((yG _).subset (p1.mem_iff.mp hc));have g2:∀c∈c2,(c∈(pk1 ks t).2\/c∈(pk2 ks t).2)/\c ∉ st/\c ∉ cl:=λc hc=>YR I ((yH _).subset (p2.mem_iff.mp hc));have inn:∀c,(c∈(pk1 ks t).2\/c∈(pk2 ks t).2)->c∈cs:=λc hc=>hc.elim (I.s1 c) (I.s2 c);obtain⟨a,b⟩:=zjB W.tr W.le m1 m2 I (λc hc=>p1.mem_iff.mp hc) (λc hc=>p2.mem_iff.mp hc);have n1:(cl++c1).Nodup:=WW.mpr ⟨qi W.x1,qi x1,λc hc d hd e=>by
  subst e;exact(g1 c hd).2.2 hc⟩
 have n2:(st++c2).Nodup:=WW.mpr ⟨qi W.x2,qi x2,λc hc d hd e=>by
  subst e;exact(g2 c hd).2.1 hc⟩
 exact⟨a.congr (λc z=>e1.mem_iff.mp z) (λc z=>e2.mem_iff.mp z),b.congr (λc z=>e1.mem_iff.mp z) (λc z=>e2.mem_iff.mp z),zeE (e1.nodup_iff.mpr n1) u1,zeE (e2.nodup_iff.mpr n2) u2,
  λc hc=>(XQ.mp (e1.mem_iff.mp hc)).elim (W.s1 c) λz=>inn c (g1 c z).1,λc hc=>(XQ.mp (e2.mem_iff.mp hc)).elim (W.s2 c) λz=>inn c (g2 c z).1⟩
def zrk {R:Prop}{G:V->Hp->Prop}(A:V->Hp->Prop)(h:(∀v H,A v H->G v H)->R)(k:∀v H,A v H->G v H):R:=h k
def zlF (C:Addr):Sp:=λvs H Q E=>∃(p l th:Addr) (rs:AD) (n:Int) (ths:AE) (tgs:List (Option AA)) (L:AA->Bool),vs=[.ref p,.ref th]/\qF H p l rs n/\Rows bd.cps.toList rs/\H th=some (.lst ths)/\Xl (zbb H) ths tgs/\tgs.length<=32/\(∀c,some c∈tgs->c∈zK rs)/\(zx rs).length<=20/\xC (qz rs n tgs) L [] [] /\
 ∀(t sa fa fc fs:Addr) (sv us ws:AE) (cl st:AB) (H':Hp),H' t=some (.tup [.ref sa,.ref fa])->H' sa=some (.lst sv)->j5 H' fa fc fs us ws cl st->Way (zx rs) (qz rs n tgs) L cl st->zcA (qz rs n tgs) cl st->zo H H'->Q (.ref t) H'
def zaU {rs:AD}(R:Rows bd.cps.toList rs){c:AA}(h:c∈zx rs):c.1<8/\c.2<8:=by
 obtain⟨t,k,ht,hk,_,_⟩:=zW h;have a:=R.hi;obtain⟨m,_,m8,hr8⟩:=R.ex;have e:=(hr8 t (X6 ht)).len;have b:=(X5.mp ht).1;have d:=(X5.mp hk).1;rw[X4] at d;lia
section
variable {P:Xm}{w:WZ}{K:XW}{mg:Str->Option X8}{base:Heap}{f:Addr}{fd:XD}{jad:Addr}
def ja:zB ["board","things","asked","lists","steps","finding","step"] ["board","things"] (zp JI):=bz rfl rfl rfl rfl (by decide+kernel)
def zeG (T:Txt mg)(Z:Prog K mg)(jan:ql K mg "NoLaying" jad){f:Addr}{fd:XD}(D:zm K mg "all_steps" JI ["board","things"] f fd):qa P w K mg base (CXE P w) 4 f fd ["board","things"] (zlF jad):=by
 obtain⟨Q9,YN,zM⟩:=Z.around;obtain⟨YO,ZJ,zu⟩:=Z.sign_at;obtain⟨ZK,JN,zC⟩:=Z.cells_of;obtain⟨zlt,zjy,yr⟩:=Z.closed;obtain⟨Yj,ZM,qo⟩:=Z.number_at;obtain⟨xG,yF,zz⟩:=Z.closed_around;obtain⟨zpt,zn6,zcF⟩:=Z.asked_by;obtain⟨zl2,zlG,Qc⟩:=Z.place_lists;obtain⟨znq,zl3,ZS⟩:=Z.first_step;have  zhe:qa P w K mg base CX0 3 _ _ ["board","thing"] zig:=zfW T zcF zM zu zC yr qo zz;have  zc6:qa P w K mg base CX0 1 _ _ ["asked"] zik:=zcD T Qc;have  zaf:qa P w K mg base (CXE P w) 3 _ _ ["things","asked","lists","finding"] (zin jad):=zc4 T Z jan ZS;refine D.F.okX ja (λvs H Q E h=>?_) (λcdv A outer s H vs Q E hr h=>?_)
 .obtain⟨p,l,th,rs,n,ths,tgs,L,rfl,_⟩:=h;rfl
 .obtain⟨p,l,th,rs,n,ths,tgs,L,rfl,B,R,hth,hT,t32,hop,s20,tr0,q⟩:=h;refine⟨_,(ze (psC 2 ja.nd ["thing","board"] [none,some 0] cR (zH (pvS 1)) (pgN 0) qc (pc0 zhe hr zcF (za (pvS 1) (za (pvS 0) zd)))) (ze (jo 3 ja.nd (pc0 zc6 hr Qc (za (pvS 2) zd))) (@ze _ _ _ _ _ (@qH _ _ 4 _ _ _ _ ja.nd rfl (Vz rfl) (@zI _ _ _ _ zd) (by rfl) (.inr rfl)) (@ze _ _ _ _ _ (@qH _ _ 5 _ _ _ _ ja.nd rfl (Vz rfl) (@qp _ _ _ _ _ (@za _ _ _ _ _ (@zI _ _ _ _ zd) (@za _ _ _ _ _ (@zI _ _ _ _ zd) zd rfl) rfl)) (by rfl) (.inr rfl)) (ze (jo 6 ja.nd (pcL qy zaf hr ZS (za (pvS 1) (za (pvS 2) (za (pvS 3) (za (pvS 5) zd)))))) (ze (zjP (jB.own qy) (zV zma (pvS 6) zd2 (zY _)) (ze (jW (JW WE V0 VZ Jm (pvS 4) (za (pvS 6) zd))) (ze (jo 5 ja.nd (qp (za (pb1 GS.yW T.Jq VY (zL Zo (zE qA (pvS 5) zj (λ_ _=>rfl)) (zE qA (pvS 6) zj (λ_ _=>rfl)))) (za (pb1 GS.yW T.Jq VY (zL Zo (zE qA (pvS 5) zj (λ_ _=>rfl)) (zE qA (pvS 6) zj (λ_ _=>rfl)))) zd)))) (zh (jo 6 ja.nd (pcL qy zaf hr ZS (za (pvS 1) (za (pvS 2) (za (pvS 3) (za (pvS 5) zd)))))))))) (zh (zG (qp (za (pvS 4) (za (pvS 5) zd))))))))))),?_⟩;(try dsimp only[cxK,cxP,cxW]);have X:=znp (n:=n) t32 s20;have kl:(qz rs n tgs).length=tgs.length:=by
   unfold qz;rw[Y1]
  refine⟨_,rfl,th,rfl,⟨_,SqL.of hth⟩,λla hla=>?_⟩;refine qE (K:=K) (a:=th) (xs:=ths) (λi σ H'=>∃(u0:Option V) (ys:AE),σ=[u0,some (.ref p)]/\zo H H'/\H' la=some (.lst ys)/\Xl (AkN (· ≠ la) H') ys (qz rs n (tgs.take i))) ⟨_,[],rfl,zc hla,zb,.nil⟩ (λi σ H' _ ⟨_,_,_,s',_⟩=>SqL.of (s' _ _ hth)) ?_ ?_
  .rintro i x σ H2 hx ⟨u0,ys,rfl,s2,hy2,hP⟩;obtain⟨tg,hti,ht0⟩:=YY hT hx;have ho:∀c,tg=some c->c∈zK rs:=λc e=>hop c (by rw[<- e];exact X6 hti);unfold jN;refine ZI ?_;refine⟨_,rfl,_,rfl,p,l,rs,n,x,tg,rfl,B.mono s2,R,ht0.mono s2,ho,λt l2 us3 H3 f1 f2 ht3 hl3 zrl s3=>?_⟩;have hy3:=s3 _ _ hy2;have n1:t≠la:=zcg ht3 hy3 (by intro q;cases q);have n2:l2≠la:=λz=>by
    rw[z,hy2] at f2;cases f2
   have yl:ys.length<=32:=by
    rw[Paired.length hP];unfold qz;rw[Y1,XF];lia
   refine⟨ys,hy3,Xw yl (by decide),_,ys++[.ref t],rfl,λb o e'=>?_,zb,?_⟩
   .rw[zf (zg e' hla)];exact s3 _ _ (s2 _ _ e')
   .unfold qz at *
    rw[take_snoc hti,Xh];refine Paired.snoc (zf1 hy2 (λb o nb e=>by rw[zf nb];exact s3 _ _ e) hP) ⟨t,l2,us3,rfl,n1,n2,?_,?_,Cel.into la _ hy3 zrl⟩
    .rw[zf n1];exact ht3
    .rw[zf n2];exact hl3
  rintro σ H2 ⟨u0,ys,rfl,s2,hla2,hP⟩;rw[Paired.length hT,Xz] at hP;have hV:=zn4 hP;have k64:∀k∈qz rs n tgs,k.2.length<=64:=λk hk=>XZ (X.n k hk).2.1 (by decide);refine⟨_,rfl,la,ys,qz rs n tgs,rfl,hla2,hV,by lia,k64,λpl us H3 zrm hpl s3=>?_⟩;refine⟨Jy,λsa hsa=>⟨Jy,λfc0 zpu=>⟨Jy,λfs0 zpv=>⟨jP,λfa0 zrn=>?_⟩⟩⟩⟩;have y1:=zc (o:=.lst []) hsa;have y2:=zc (o:=.lst []) zpu;have y3:=zc (o:=.lst []) zpv;have y4:=zc (o:=.tup [.ref fc0,.ref fs0]) zrn;have s04:=s2.trans (s3.trans (y1.trans (y2.trans (y3.trans y4))));have n1:fc0≠sa:=λe=>by
   rw[e,zb] at zpu;cases zpu
  have n2:fs0≠sa:=λe=>by
   rw[e,y2 _ _ zb] at zpv;cases zpv
  have F0:j5 (upd (upd (upd (upd H3 sa (.lst [])) fc0 (.lst [])) fs0 (.lst [])) fa0 (.tup [.ref fc0,.ref fs0])) fa0 fc0 fs0 [] [] [] []:=⟨zb,y4 _ _ (y3 _ _ zb),y4 _ _ zb,.nil,.nil⟩;have hsa4:(upd (upd (upd (upd H3 sa (.lst [])) fc0 (.lst [])) fs0 (.lst [])) fa0 (.tup [.ref fc0,.ref fs0])) sa=some (.lst []):=y4 _ _ (y3 _ _ (y2 _ _ zb));have s34:zo H3 (upd (upd (upd (upd H3 sa (.lst [])) fc0 (.lst [])) fs0 (.lst [])) fa0 (.tup [.ref fc0,.ref fs0])):=y1.trans (y2.trans (y3.trans y4));generalize upd (upd (upd (upd H3 sa (.lst [])) fc0 (.lst [])) fs0 (.lst [])) fa0 (.tup [.ref fc0,.ref fs0])=H4 at *
  have first:∀(Hc:Hp) (fa fc fs:Addr) (u w':AE) (cl st:AB),zo H3 Hc->j5 Hc fa fc fs u w' cl st->Way (zx rs) (qz rs n tgs) L cl st->zim Hc th la pl fa fc fs ths ys us u w' tgs (qz rs n tgs) cl st:=by
   intro Hc fa fc fs u w' cl st sc F W;have s0c:=s2.trans (s3.trans sc);have s2c:=s3.trans sc;have wl:=W.len X.nd s20;exact⟨s0c _ _ hth,Paired.imp' (λ_ _ h=>zbb.mono s0c h) hT,s2c _ _ hla2,zcC s2c hV,sc _ _ zrm,xD sc hpl,F,⟨λc hc=>zaU R (W.s1 c hc),λc hc=>zaU R (W.s2 c hc),by lia,by lia⟩,kl.symm⟩
  have nsa:∀{Hc:Hp} {sv:AE} {d:Addr},Hc sa=some (.lst sv)->Hc d=none->d≠sa:=λh f e=>by
   rw[e,h] at f;cases f
  have W0:Way (zx rs) (qz rs n tgs) L [] []:=⟨tr0,zfY _ _,.nil,.nil,(λ_ h=>nomatch h),λ_ h=>nomatch h⟩;refine' zrk (λv H5=>zlE H5 sa (qz rs n tgs) [] [] v/\zo H4 H5) (λgo=>?gTail) ?gRest
  case gTail =>
   refine⟨_,rfl,_,rfl,_,rfl,_,rfl,th,la,pl,fa0,fc0,fs0,ths,ys,us,[],[],tgs,qz rs n tgs,zx rs,[],[],L,rfl,first H4 fa0 fc0 fs0 [] [] [] [] s34 F0 W0,X,tr0,?gN,λi t c1 c2 r tl d1 d2 tv w1 w2 H' ht _ p1 p2 x1 x2 he f1 f2 _ _ hr' _ _ hd1 hd2 g1 g2 s'=>?gS⟩
   case gS =>
    have hv:zlE H' sa (qz rs n tgs) [] [] (.ref r):=.inr ⟨t,c1,c2,r,tl,d1,d2,w1,w2,rfl,X6 ht,p1,p2,x1,x2,he,hr',hd1,hd2,g1,g2,nsa hsa4 f1,nsa hsa4 f2⟩
    clear hr'
    revert hv
    generalize V.ref r=v
    intro hv
    exact go v H' ⟨hv,s'⟩
   case gN=>exact λhE H' s'=>go _ _ ⟨.inl ⟨rfl,hE⟩,s'⟩
  rintro v H5 ⟨hv,s45⟩;refine⟨λm σ H'=>∃(fa fc fs:Addr) (sv u w':AE) (cl st:AB) (v:V),m=20-(cl.length+st.length)/\σ=[some (.ref p),some (.ref th),some (.ref la),some (.ref pl),some (.ref sa),some (.ref fa),some v]/\zo H3 H'/\H' sa=some (.lst sv)/\sv.length<=cl.length+st.length/\j5 H' fa fc fs u w' cl st/\fc≠sa/\fs≠sa/\Way (zx rs) (qz rs n tgs) L cl st/\zlE H' sa (qz rs n tgs) cl st v,⟨_,fa0,fc0,fs0,[],[],[],[],[],v,rfl,rfl,s34.trans s45,s45 _ _ hsa4,XV _,F0.mono s45,n1,n2,W0,hv⟩,?_⟩;intro m σ H6 hh;refine GS.via λGG hGG=>?_;obtain⟨fa,fc,fs,sv,u,w',cl,st,v,rfl,rfl,s6,hsa6,svl,F,nc,ns,W,hv⟩:=hh;have wl:=W.len X.nd s20;rcases hv with ⟨rfl,hE⟩ | ⟨t,c1,c2,r,tl,d1,d2,w1,w2,rfl,ht,p1,p2,x1,x2,he,hr6,hd1,hd2,g1,g2,e1,e2⟩
  .refine hGG ⟨_,rfl,rfl,_,rfl,?_⟩;refine jd (by decide) ?_;refine⟨_,rfl,_,rfl,jP,λtt htt=>?_⟩;have y:=zc (o:=.tup [.ref sa,.ref fa]) htt;exact q tt sa fa fc fs sv u w' cl st _ zb (y _ _ hsa6) (F.mono y) W (zjD X W.tr hE) (s2.trans (s3.trans (s6.trans y)))
  .refine hGG ⟨_,rfl,rfl,_,rfl,?_⟩;refine ju (by rw[bg (λz=>nomatch z)];rfl) ?_;refine⟨_,fun σ' H' h=>h,?_⟩;have l20:(20:Nat)<=Xq:=by decide
   have hr7:upd H6 sa (.lst (sv++[.ref r])) r=some (.tup [.ref tl,.ref d1,.ref d2]):=by
    rw[zf (zcg hr6 hsa6 (by intro q;cases q))];exact hr6
   refine⟨_,rfl,.inl ⟨rfl,_,SqL.of hsa6⟩,_,rfl,sa,_,_,rfl,rfl,hsa6,Xw (show sv.length<=20 by lia) (by decide),?_⟩;have F7:j5 (upd H6 sa (.lst (sv++[.ref r]))) fa fc fs u w' cl st:=⟨by rw[zf (zcg F.tp hsa6 (by intro q;cases q))];exact F.tp,by rw[zf nc];exact F.h1,by rw[zf ns];exact F.h2,Cel.into sa _ hsa6 F.c1,Cel.into sa _ hsa6 F.c2⟩;have hd17:upd H6 sa (.lst (sv++[.ref r])) d1=some (.lst w1):=by rw[zf e1];exact hd1
   have hd27:upd H6 sa (.lst (sv++[.ref r])) d2=some (.lst w2):=by rw[zf e2];exact hd2
   have g17:=Cel.into sa (HO.lst (sv++[.ref r])) hsa6 g1;have g27:=Cel.into sa (HO.lst (sv++[.ref r])) hsa6 g2;have s7:zo H3 (upd H6 sa (.lst (sv++[.ref r]))):=λb o e=>by
    rw[zf (zg e hsa)];exact s6 _ _ e
   have hsa7:upd H6 sa (.lst (sv++[.ref r])) sa=some (.lst (sv++[.ref r])):=zb;generalize upd H6 sa (.lst (sv++[.ref r]))=H7 at *
   have I:=X.two W.tr.ap (zil ht).1 (zil ht).2;have cs20:∀c:AB,c.Pairwise Cells.lex->(∀x∈c,x∈zx rs)->c.length<=20:=λc x h=>by
    have:=((W6 (qi x) ((jG rs).sublist (XA (p:=λx=>decide (x∈c))))).mpr λx=>by
     rw[X9,bf];exact⟨λz=>⟨h x z,z⟩,λz=>z.2⟩).length_eq
    have:=Xg (λx=>decide (x∈c)) (zx rs);lia
   have m1:c1.length<=20:=cs20 c1 x1 λc hc=>(YR I ((yG _).subset (p1.mem_iff.mp hc))).1.elim (I.s1 c) (I.s2 c);have m2:c2.length<=20:=cs20 c2 x2 λc hc=>(YR I ((yH _).subset (p2.mem_iff.mp hc))).1.elim (I.s1 c) (I.s2 c);have a1:=F7.c1.length;have a2:=F7.c2.length;have a3:=g17.length;have a4:=g27.length;refine⟨_,rfl,fa,_,0,_,rfl,rfl,SqT.of F7.tp,rfl,_,rfl,r,_,1,_,rfl,rfl,SqT.of hr7,rfl,fc,d1,_,_,rfl,rfl,F7.h1,hd17,XZ (show u.length+w1.length<=100 by lia) (by decide),λx hx=>?_⟩;have y1:=zc (o:=.lst (u++w1)) hx;refine⟨x,_,_,rfl,SqL.of zb,Cel.tup2 ((F7.c1.append g17).mono y1),by rw[X0];lia,λfc' u1 z1 hfc' ht1 pm1 up1=>?_⟩;obtain⟨q1,rfl,hp1⟩:=Q5 pm1;have y2:=zc (o:=.lst u1) hfc';have y12:=y1.trans y2;refine⟨_,rfl,fa,_,1,_,rfl,rfl,SqT.of (y12 _ _ F7.tp),rfl,_,rfl,r,_,2,_,rfl,rfl,SqT.of (y12 _ _ hr7),rfl,fs,d2,_,_,rfl,rfl,y12 _ _ F7.h2,y12 _ _ hd27,XZ (show w'.length+w2.length<=100 by lia) (by decide),λx' hx'=>?_⟩;have y3:=zc (o:=.lst (w'++w2)) hx';have y13:=y12.trans y3;refine⟨x',_,_,rfl,SqL.of zb,Cel.tup2 ((F7.c2.append g27).mono y13),by rw[X0];lia,λfs' u2 z2 hfs' ht2 pm2 up2=>?_⟩;obtain⟨q2,rfl,hp2⟩:=Q5 pm2;have y4:=zc (o:=.lst u2) hfs';have y14:=y13.trans y4;refine⟨jP,λfa' hfa'=>?_⟩;have y5:=zc (o:=.tup [.ref fc',.ref fs']) hfa';have y15:=y14.trans y5;have hfc1:=(y3.trans (y4.trans y5)) _ _ (zb (H:=upd H7 x (.lst (u++w1))) (a:=fc') (o:=.lst u1));have F8:j5 _ fa' fc' fs' u1 u2 q1 q2:=⟨zb,hfc1,y5 _ _ zb,Cel.mono (y2.trans (y3.trans (y4.trans y5))) (jn ht1),Cel.mono (y4.trans y5) (jn ht2)⟩;have nc':fc'≠sa:=nsa (y1 _ _ hsa7) hfc';have ns':fs'≠sa:=nsa (y13 _ _ hsa7) hfs';have W8:=W.next X ht p1 p2 x1 x2 hp1 hp2 up1 up2;have hsa8:=y15 _ _ hsa7;have s8:=s7.trans y15;generalize upd (upd (upd (upd (upd H7 x (.lst (u++w1))) fc' (.lst u1)) x' (.lst (w'++w2))) fs' (.lst u2)) fa' (.tup [.ref fc',.ref fs'])=H8 at *
   have k1:=hp1.length_eq;have k2:=hp2.length_eq;rw[X0] at k1 k2;have k3:1<=c1.length+c2.length:=by
    by_cases z:c1.length+c2.length=0
    .exact absurd ⟨VP.mp (by lia),VP.mp (by lia)⟩ he
    .lia
   have wl8:=W8.len X.nd s20;refine⟨_,rfl,_,rfl,_,rfl,_,rfl,th,la,pl,fa',fc',fs',ths,ys,us,u1,u2,tgs,qz rs n tgs,zx rs,q1,q2,L,rfl,first H8 fa' fc' fs' u1 u2 q1 q2 s8 F8 W8,X,W8.tr,λhE H9 s9=>?_,λi t' c1' c2' r' tl' d1' d2' tv' w1' w2' H9 ht' _ p1' p2' x1' x2' he' f1 f2 _ _ hr' _ _ hd1' hd2' g1' g2' s9=>?_⟩
   .exact⟨_,by lia,fa',fc',fs',sv++[.ref r],u1,u2,q1,q2,.non,rfl,rfl,s8.trans s9,s9 _ _ hsa8,by rw[X0];show sv.length+1<=_;lia,F8.mono s9,nc',ns',W8,.inl ⟨rfl,hE⟩⟩
   .exact⟨_,by lia,fa',fc',fs',sv++[.ref r],u1,u2,q1,q2,.ref r',rfl,rfl,s8.trans s9,s9 _ _ hsa8,by rw[X0];show sv.length+1<=_;lia,F8.mono s9,nc',ns',W8,.inr ⟨t',c1',c2',r',tl',d1',d2',w1',w2',rfl,X6 ht',p1',p2',x1',x2',he',hr',hd1',hd2',g1',g2',nsa hsa8 f1,nsa hsa8 f2⟩⟩
end
def nbC (rs:AD):AB:=(zK rs).filter λo=>!(clA rs o).isEmpty
def zaV (rs:AD):List (Option AA):=(nbC rs).map some++[none]
structure Lay (rs:AD)(n:Int)(L:AA->Bool):Prop where
 a:(((zx rs).countP L:Nat):Int)=n
 o:∀o∈zK rs,(((clA rs o).countP L:Nat):Int)=jq rs o
def Lay.tr {rs:AD}{n:Int}{L:AA->Bool}(h:Lay rs n L):xC (qz rs n (zaV rs)) L [] []:=by
 refine⟨(λ_ z=>nomatch z),(λ_ z=>nomatch z),λk hk=>?_⟩;obtain⟨tg,ht,rfl⟩:=XM.mp hk;rcases XQ.mp ht with ht | ht
 .obtain⟨o,ho,rfl⟩:=XM.mp ht;exact h.o o (X9.mp ho).1
 .rw[Wv.mp ht];exact h.a
def Lay.count {rs:AD}{n:Int}{L:AA->Bool}(h:Lay rs n L):zct rs n≠0:=by
 have ha:=h.a;have hl:((zx rs).filter L).length=n.toNat:=by
  rw[<- V1];lia
 have hw:Ju rs ((zx rs).filter L)=true:=Jv.mpr λo ho=>by
  rw[<- h.o o ho];congr 1;unfold Grow.cnt;rw[VO,V1];refine U7 ((W6 ((jG rs).sublist XA) ((zaB rs o).sublist XA)).mpr λc=>?_);rw[X9,X9,Ws];constructor
  .rintro⟨a,b,d⟩;exact⟨(yt a).mp b,d⟩
  .rintro⟨a,d⟩;have z:=Jr a;exact⟨z,(yt z).mpr a,d⟩
 unfold zct Tally.T;have:0<(Subs.subs (zx rs)).countP λS=>decide (S.length=n.toNat)&&Ju rs S:=O5.mpr ⟨_,Tally.zmX XA,by rw[hw,bu hl];rfl⟩;lia
def Qw (CG CN:Addr):Sp:=λvs H Q E=>∃(p l:Addr) (rs:AD) (n:Int),vs=[.ref p]/\qF H p l rs n/\Rows bd.cps.toList rs/\0<=n /\
 (30<(nbC rs).length->∀H',zo H H'->E (.ref CG) none H') /\
 ((nbC rs).length<=30->(∀gs,Parts.Good (clA rs) (zK rs) gs->(∃g∈gs,14<g.length)->∀H',zo H H'->E (.ref CG) none H')/\∀gs,Parts.Good (clA rs) (zK rs) gs->(∀g∈gs,g.length<=14) ->
  (zct rs n=0->∀H',zo H H'->E (.ref CN) none H') /\
  (zct rs n≠0->∃L,Lay rs n L/\(zx rs).length<=20/\∀(t sa fa fc fs:Addr) (sv us ws:AE) (cl st:AB) (H':Hp),H' t=some (.tup [.ref sa,.ref fa])->H' sa=some (.lst sv)->j5 H' fa fc fs us ws cl st->Way (zx rs) (qz rs n (zaV rs)) L cl st->zcA (qz rs n (zaV rs)) cl st->zo H H'->Q (.ref t) H'))
def zlH {H:Hp}{vs:AE}{cs:AB}(h:Cel H vs cs):Xl (zbb H) vs (cs.map some):=by
 induction h with
 | nil=>exact .nil
 | cons r _ ih=>exact .cons r ih
section
variable {P:Xm}{w:WZ}{K:XW}{mg:Str->Option X8}{base:Heap}{f:Addr}{fd:XD}{jad jaj:Addr}
def zaW:zB ["board","cells"] ["board"] (zp Jp):=bz rfl rfl rfl rfl (by decide+kernel)
def zaX (T:Txt mg)(Z:Prog K mg)(jan:ql K mg "NoLaying" jad)(jat:ql K mg "TooGreat" jaj){f:Addr}{fd:XD}(D:zm K mg "thoughts" Jp ["board"] f fd):qa P w K mg base (CXE P w) 8 f fd ["board"] (Qw jaj jad):=by
 obtain⟨Q9,YN,zM⟩:=Z.around;obtain⟨YO,ZJ,zu⟩:=Z.sign_at;obtain⟨ZK,JN,zC⟩:=Z.cells_of;obtain⟨ZL,JT,zD⟩:=Z.open_cells;obtain⟨xG,yF,zz⟩:=Z.closed_around;obtain⟨zqI,zqz,zio⟩:=Z.count;obtain⟨zn7,znr,zaY⟩:=Z.all_steps;have  zbc:qa P w K mg base CX0 2 _ _ ["board","cell"] znZ:=jL T zz zM zu;have  zeH:qa P w K mg base CX0 2 _ _ ["board"] (zey Zb):=jS T zD zC zu;have  zns:qa P w K mg base (CXE P w) 7 _ _ ["board"] (zia jaj):=zls T Z jat zio;have  zf3:qa P w K mg base (CXE P w) 4 _ _ ["board","things"] (zlF jad):=zeG T Z jan zaY;refine D.F.okX zaW (λvs H Q E h=>?_) (λcdv A outer s H vs Q E hr h=>?_)
 .obtain⟨p,l,rs,n,rfl,_⟩:=h;rfl
 .obtain⟨p,l,rs,n,rfl,B,R,n0,e1,e2⟩:=h;refine⟨_,(ze (psC 1 zaW.nd ["cell","board"] [none,some 0] cR (zH (pc0 zeH hr zD (za (pvS 0) zd))) (pgN 0) (qq (zV (zaL (K:=K) (by rfl) hr.units) (pc0 zbc hr zz (za (pvS 1) (za (pvS 0) zd))) (@zI _ _ _ _ zd) (zY _))) (pvS 0)) (ze (je (zV zes (pb1 zO T.jk W2 (pvS 1)) (yU (v:=.int 30) (by rfl) T.zcW.choose_spec (by exact⟨_,rfl⟩)) (zY _)) (zh (QK qy jat (by rfl) rfl (@za _ _ _ _ _ zZ zd rfl))) qf) (ze (je (zV YX (pcL qy zns hr zio (za (pvS 0) zd)) zj (zY _)) (zh (QK qy jan (by rfl) rfl (@za _ _ _ _ _ zZ zd rfl))) qf) (zh (zG (pcL qy zf3 hr zaY (za (pvS 0) (za (zL Zo (pvS 1) (zI (za (yU (v:=.str "all") (by rfl) T.znY.choose_spec (by exact⟨_,rfl⟩)) zd))) zd)))))))),?_⟩;(try dsimp only[cxK,cxP,cxW]);refine⟨_,rfl,p,l,rs,n,rfl,B,R,λd ws H1 hd hd1 hc1 s1=>⟨d,rfl,⟨_,SqL.of hd1⟩,λz hz=>?_⟩⟩;have b1:=B.mono s1;refine z9 (K:=K) (a:=d) (xs:=ws) (λa=>a≠z) ((zK rs).map λo=>if (!(clA rs o).isEmpty)=true then some (zk o) else none) (fun σ=>∃u0,σ=[u0,some (.ref p)]) hz (λ_ h=>h) ⟨_,rfl⟩ (by rw[Y1];exact hc1.length.symm) (by rw[hc1.length];exact XZ (jA R) (by decide)) (SqL.of hd1) ?_ ?_
  .rintro k x o σ H2 hx ho s2 hzn ⟨u0,rfl⟩ Y Z yes no;obtain⟨y,hy,r1⟩:=Cel.get hc1 hx;have eo:=jg hy ho;obtain⟨t,sg,ht,hj,_,es⟩:=zW (X6 hy);obtain⟨ya,rfl,hya⟩:=r1;obtain⟨l1,l2⟩:=j4 R ht hj;refine⟨_,rfl,_,rfl,p,l,ya,rs,n,y,rfl,b1.mono s2,R,s2 _ _ hya,l1,l2,λd2 ws2 H3 hd2 hd3 hc2 s3=>⟨Jy,λe he=>?_⟩⟩;have s4:=zc (o:=.lst []) he;refine⟨.list ((clA rs y).map zk),.list [],.lst (SqL.of (s4 _ _ hd3)) (zc3 (hc2.mono s4)),.lst (SqL.of zb) .nil,zcf _ [],_,rfl,?_⟩;have ee:(if true=true then !PyData.eqv (.list ((clA rs y).map zk)) (.list []) else WL (.list ((clA rs y).map zk)) (.list []))=!(clA rs y).isEmpty:=congrArg (λb=>!b) (eq_nil _);rw[ee];by_cases hp:(!(clA rs y).isEmpty)=true
   .rw[br hp] at eo;exact ju hp ⟨_,rfl,yes _ _ _ _ eo ⟨_,rfl⟩ (s3.trans s4) (yg.rdn ⟨ya,rfl,s4 _ _ (s3 _ _ (s2 _ _ hya))⟩)⟩
   .rw[bw hp] at eo;exact jd (XC.mpr hp) (no _ _ eo ⟨_,rfl⟩ (s3.trans s4))
  rintro ys H2 s2 hz2 hr2;rw[zR] at hr2;have hc2:Cel H2 ys (nbC rs):=zq.cel hr2;have s12:=s1.trans s2;have B2:=B.mono s12;have yl:ys.length=(nbC rs).length:=hc2.length;refine⟨_,rfl,z,_,rfl,.inl (SqL.of hz2),_,_,rfl,rfl,_,rfl,?_⟩;by_cases h30:30<(nbC rs).length
  .exact ju (bu (by lia)) ⟨by decide,e1 h30 _ s12⟩
  .refine jd (bg (by lia)) ?_;obtain⟨eb,e2⟩:=e2 (by lia);refine⟨_,rfl,p,l,rs,n,rfl,B2,R,λgs G h H' s'=>eb gs G h H' (s12.trans s'),n0,λgs G a14 H3 s3=>?_⟩;obtain⟨ez,ok⟩:=e2 gs G a14;have s13:=s12.trans s3;refine⟨rfl,_,rfl,?_⟩;by_cases h0:zct rs n=0
   .exact ju (bu (congrArg V.int h0)) ⟨by decide,ez h0 _ s13⟩
   .refine jd (bg λe=>h0 (V.int.inj e)) ?_;obtain⟨L,hL,s20,q⟩:=ok h0;refine⟨_,rfl,_,rfl,sz_1,λx hx=>?_⟩;have y4:=zc (o:=.lst [V.str "all"]) hx;refine⟨z,x,_,_,rfl,rfl,y4 _ _ (s3 _ _ hz2),zb,XZ (show ys.length+1<=40 by lia) (by decide),λth hth=>?_⟩;have y5:=zc (o:=.lst (ys++[V.str "all"])) hth;have s25:=s3.trans (y4.trans y5);have s15:=s12.trans s25;refine⟨p,l,th,rs,n,ys++[V.str "all"],zaV rs,L,rfl,B.mono s15,R,zb,Paired.snoc (zlH (hc2.mono s25)) rfl,?_,λc hc=>?_,s20,hL.tr,λt sa fa fc fs sv us ws' cl st H' k1 k2 k3 k4 k5 s'=>q t sa fa fc fs sv us ws' cl st H' k1 k2 k3 k4 k5 (s15.trans s')⟩
    .unfold zaV;rw[X0,Y1];show (nbC rs).length+1<=32;lia
    .rcases XQ.mp hc with hc | hc
     .obtain⟨o,ho,e⟩:=XM.mp hc;cases e;exact(X9.mp ho).1
     .cases Wv.mp hc
end
def pZ (zs:List Nat)(k:Nat):Bool:=decide (k∈zs)
def zdX (k c:Nat):eqV (V.str ⟨#[c]⟩) (V.str ⟨#[k]⟩)=decide (c=k):=by
 have e0:eqV (V.str ⟨#[c]⟩) (V.str ⟨#[k]⟩)=((⟨#[c]⟩:Str)==(⟨#[k]⟩:Str)):=rfl;rw[e0,W1,beq_iff_eq,bf];constructor
 .intro h;have h3:(#[c]:Array Nat)=#[k]:=congrArg Str.cps h;simpa using h3
 .rintro rfl;rfl
def zlI (k:Nat)(zs:List Nat):inV (V.str ⟨#[k]⟩) (zs.map λc=>V.str ⟨#[c]⟩)=pZ zs k:=by
 unfold inV pZ;rw[TL,W1,WF,bf];constructor
 .rintro⟨c,hc,h⟩;have e:c=k:=bh ((zdX k c).symm.trans h);rw[<- e];exact hc
 .intro h;exact⟨k,h,(zdX k k).trans (bu rfl)⟩
def zhf (zs:List Nat):(zs.map λc=>V.str ⟨#[c]⟩).all QG=true:=by
 rw[WG];intro v hv;obtain⟨c,_,rfl⟩:=XM.mp hv;rfl
def zn8 (H H':Hp)(d:Addr):Prop:=∀b o,b≠d->H b=some o->H' b=some o
def zro (H:Hp)(v:V)(t:List Nat):Prop:=∃a,v=V.ref a/\H a=some (.lst (t.map λc=>V.str ⟨#[c]⟩))
def yy (H:Hp):AE->List (List Nat)->Prop:=Xl (zro H)
theorem yy.mono {H H':Hp}(s:zo H H'):∀{vs:AE} {gs:List (List Nat)},yy H vs gs->yy H' vs gs
 | _,_,.nil=>.nil
 | _,_,.cons ⟨a,e,h⟩ t=>.cons ⟨a,e,s _ _ h⟩ (yy.mono s t)
theorem yy.keep {H H':Hp}{d:Addr}(k:∀b o,b≠d->H b=some o->H' b=some o):∀{vs:AE} {gs:List (List Nat)},yy H vs gs->(∀v∈vs,v≠V.ref d)->yy H' vs gs
 | _,_,.nil,_=>.nil
 | _,_,.cons ⟨a,e,h⟩ t,hn=>.cons ⟨a,e,k a _ (λz=>hn _ XU (by rw[e,z])) h⟩ (yy.keep k t λv hv=>hn v (XR _ hv))
theorem zbt {H:Hp}:∀{vs:AE} {gs:List (List Nat)} {i:Nat} {t:List Nat},yy H vs gs->gs[i]?=some t->∃a,vs[i]?=some (V.ref a)/\H a=some (.lst (t.map λc=>V.str ⟨#[c]⟩))
 | _,_,_,_,.nil,e=>by simp at e
 | _,_,0,_,.cons ⟨a,r,h⟩ _,e=>by
  simp at e;subst e;exact⟨a,by rw[r];rfl,h⟩
 | _,_,i+1,t,.cons _ q,e=>by
  obtain⟨c,h1,h2⟩:=zbt (i:=i) (t:=t) q (by simpa using e);exact⟨c,by simpa using h1,h2⟩
def zf4:Sp:=λvs H Q _=>∃(l sg:Addr) (us:AE) (gs:List (List Nat)) (zs:List Nat),vs=[.ref l,.ref sg]/\H l=some (.lst us)/\yy H us gs/\gs.length<=8/\(∀t∈gs,t.length<=8)/\H sg=some (.lst (zs.map λc=>V.str ⟨#[c]⟩)) /\
 ∀(d:Addr) (ws:AE) (H':Hp),H d=none->H' d=some (.lst ws)->Cel H' ws (Cells.zw (pZ zs) 0 gs)->zo H H'->Q (.ref d) H'
def Jb:zB ["_law_rows","_law_signs","_law_found","_law_row","_law_column"] ["_law_rows","_law_signs"] (zp yc):=bz rfl rfl rfl rfl (by decide+kernel)
def ZT (T:Txt mg)(D:zm K mg "_law_cells" yc ["_law_rows","_law_signs"] f fd):qa P w K mg base CX0 1 f fd ["_law_rows","_law_signs"] zf4:=by
 refine D.F.ok Jb (λvs H Q E h=>?_) (λcdv A outer s H vs Q E hr h=>?_)
 .obtain⟨l,sg,us,gs,zs,rfl,_⟩:=h;rfl
 .obtain⟨l,sg,us,gs,zs,rfl,hl,hG,g8,t8,hsg,q⟩:=h;have ul:us.length=gs.length:=Paired.length hG;refine⟨_,(@ze _ _ _ _ _ (@qH _ _ 2 _ _ _ _ Jb.nd rfl (Vz rfl) (@zI _ _ _ _ zd) (by rfl) (.inr rfl)) (ze (qI WV rfl (prg T.qT (pb1 qk T.jk W2 (pv 0))) (pgq 3 Jb.nd) (zh (qI WV rfl (prg T.qT (pb1 qk T.jk W2 (zE xT (pv 0) (pv 3) (λ_ _=>rfl)))) (pgq 4 Jb.nd) (zh (je (yV zdj (zE xT (zE xT (pv 0) (pv 3) (λ_ _=>rfl)) (pv 4) (λ_ _=>rfl)) (pv 1) (by rfl)) (zh (jW (JW WE V0 VZ Yy (pv 2) (za (qp (za (pv 3) (za (pv 4) zd))) zd)))) qf))))) (zh (zG (pv 2))))),?_⟩;(try dsimp only[cxK,cxP,cxW]);refine⟨Jy,λd hd=>?_⟩;have s0:zo H (upd H d (.lst [])):=zc hd;refine⟨_,rfl,l,_,rfl,.inl (SqL.of (s0 _ _ hl)),_,rfl,by lia,by lia,?_⟩;rw[VE,ul];refine qV (lo:=0) (n:=gs.length) (λi σ H'=>∃(v3 v4:Option V) (ws:AE),σ=[some (.ref l),some (.ref sg),some (.ref d),v3,v4]/\zo H H'/\H' d=some (.lst ws)/\Cel H' ws (Cells.zw (pZ zs) 0 (gs.take i))) ⟨_,_,[],rfl,s0,zb,.nil⟩ ?_ ?_
  .rintro i σ H1 hi ⟨v3,v4,ws,rfl,s1,hd1,hc1⟩;obtain⟨t,ht⟩:∃t,gs[i]?=some t:=⟨_,XX hi⟩;have tl:=t8 t (X6 ht);obtain⟨ra,hv,hra0⟩:=zbt hG ht;have hat:atI us (0+(i:Int))=some (.ref ra):=by
    rw[VH];exact qK hv
   refine⟨_,rfl,_,rfl,l,_,_,_,rfl,rfl,SqL.of (s1 _ _ hl),hat,?_⟩;have hra:=s1 _ _ hra0;have nra:ra≠d:=zg hra0 hd;have zl:(t.map λc=>V.str ⟨#[c]⟩).length=t.length:=Y1 _;refine⟨ra,_,rfl,.inl (SqL.of hra),_,rfl,by rw[zl];lia,by rw[zl];lia,?_⟩;rw[VE,zl];refine qV (lo:=0) (n:=t.length) (λj σ H'=>∃(v4:Option V) (ws:AE),σ=[some (.ref l),some (.ref sg),some (.ref d),some (.int (0+(i:Int))),v4]/\zo H H'/\zn8 H1 H' d/\H' d=some (.lst ws)/\Cel H' ws (Cells.zw (pZ zs) 0 (gs.take i)++Cells.zQ (pZ zs) i 0 (t.take j))) ⟨_,ws,rfl,s1,λb o _ e=>e,hd1,by rw[List.take_zero];rw[show Cells.zQ (pZ zs) i 0 []=[] from rfl,Xd];exact hc1⟩ ?_ ?_
   .rintro j σ H2 hj ⟨v4,ws2,rfl,s2,s12,hd2,hc2⟩;obtain⟨k,hk⟩:∃k,t[j]?=some k:=⟨_,XX hj⟩;have st:=Cells.Qn (p:=pZ zs) (i:=i) hk;refine⟨_,rfl,_,rfl,l,_,_,_,rfl,rfl,SqL.of (s2 _ _ hl),hat,_,rfl,ra,_,_,V.str ⟨#[k]⟩,rfl,rfl,SqL.of (s12 _ _ nra hra),(by rw[VH];exact qK (by rw[Xo,hk];rfl)),_,rfl,sg,_,rfl,.inl (SqL.of (s2 _ _ hsg)),rfl,zhf zs,_,rfl,?_⟩;have ein:(if false=true then !inV (V.str ⟨#[k]⟩) (zs.map λc=>V.str ⟨#[c]⟩) else inV (V.str ⟨#[k]⟩) (zs.map λc=>V.str ⟨#[c]⟩))=pZ zs k:=zlI k zs;rw[ein];have hlen:ws2.length<=200:=by
     rw[hc2.length,X0];have a1:=Cells.jJ (pZ zs) i 0 (t.take j);have a2:=Cells.qB (pZ zs) 0 (gs.take i) λu hu=>t8 u (V6 hu);rw[XF] at a1 a2;lia
    by_cases hp:pZ zs k=true
    .rw[br hp] at st;refine ju hp ⟨_,rfl,.inl ⟨rfl,_,SqL.of hd2⟩,_,rfl,_,rfl,jP,λtq htq=>?_⟩;have s3:=zc (o:=.tup [.int (0+(i:Int)),.int (0+(j:Int))]) htq;refine⟨d,_,_,rfl,rfl,s3 _ _ hd2,Xw hlen (by decide),_,ws2++[.ref tq],rfl,λb o e=>?_,λb o nb e=>?_,zb,?_⟩
     .rw[zf (zg e hd)];exact s3 _ _ (s2 _ _ e)
     .rw[zf nb];exact s3 _ _ (s12 b o nb e)
     .rw[st,<- W3];refine Cel.into d _ (s3 _ _ hd2) (Cel.snoc (Cel.mono s3 hc2) ⟨tq,rfl,?_⟩);rw[zb,VH,VH]
    .rw[bw hp,Xd] at st;refine jd (XC.mpr hp) ⟨_,ws2,rfl,s2,s12,hd2,?_⟩;rw[st];exact hc2
   .rintro σ H2 ⟨v4,ws2,rfl,s2,_,hd2,hc2⟩;refine⟨_,_,ws2,rfl,s2,hd2,?_⟩;rw[Cells.Qo ht];rw[Xz] at hc2;exact hc2
  .rintro σ H1 ⟨v3,v4,ws,rfl,s1,hd1,hc1⟩;rw[Xz] at hc1;exact⟨_,rfl,q d ws H1 hd hd1 hc1 s1⟩
def znt:Sp:=λvs H Q _=>∃(a b:Addr) (c d:AA),vs=[.ref a,.ref b]/\H a=some (.tup [.int (c.1:Nat),.int (c.2:Nat)])/\H b=some (.tup [.int (d.1:Nat),.int (d.2:Nat)])/\Q (.bl (Cells.near c d)) H
def zqA (i j:Nat):decide ((if ((i:Nat):Int)-((j:Nat):Int)<0 then -(((i:Nat):Int)-((j:Nat):Int)) else ((i:Nat):Int)-((j:Nat):Int))<2)=decide (i<=j+1/\j<=i+1):=by
 rw[decide_eq_decide];split<;>lia
def zf5:zB ["_law_one","_law_other"] ["_law_one","_law_other"] (zp yE):=bz rfl rfl rfl rfl (by decide+kernel)
def zaZ (T:Txt mg)(D:zm K mg "_law_near" yE ["_law_one","_law_other"] f fd):qa P w K mg base CX0 1 f fd ["_law_one","_law_other"] znt:=by
 refine D.F.ok zf5 (λvs H Q E h=>?_) (λcdv A outer s H vs Q E hr h=>?_)
 .obtain⟨a,b,c,d,rfl,_⟩:=h;rfl
 .obtain⟨a,b,c,d,rfl,ha,hb,q⟩:=h;refine⟨_,(zh (zG (zjL (xR (yC hr.units) (pv 0) (pv 1) (zY _)) (zjL (xR zjR (pb1 zeU T.znW Px (zL JP (zE qO (pv 0) zj (λ_ _=>rfl)) (zE qO (pv 1) zj (λ_ _=>rfl)))) zj (zY _)) (zop (xR zjR (pb1 zeU T.znW Px (zL JP (zE qO (pv 0) zj (λ_ _=>rfl)) (zE qO (pv 1) zj (λ_ _=>rfl)))) zj (zY _))))))),?_⟩;(try dsimp only[cxK,cxP,cxW]);have nf:∀x:Bool,(x=true↔Cells.near c d=true)->Cells.near c d=x:=λx h=>W1.mpr h.symm;have ni:=Cells.jQ (x:=c) (y:=d);refine⟨_,rfl,_,rfl,zk c,zk d,yg.rdv ⟨a,rfl,ha⟩,yg.rdv ⟨b,rfl,hb⟩,zdG c d,?_⟩;have e1:(if true=true then !PyData.eqv (zk c) (zk d) else WL (zk c) (zk d))=!decide (c=d):=by
   show (!PyData.eqv _ _)=_;rw[zay]
  rw[e1];refine⟨_,rfl,?_⟩;by_cases hcd:c=d
  .rw[bu hcd];refine zcP ?_;have:Cells.near c d=false:=by
    rw[XC,ne_eq,ni];exact λh=>h.2.2 hcd
   rw[this] at q;exact q
  .rw[bg hcd];refine za6 ?_;refine⟨_,rfl,a,_,0,_,rfl,rfl,SqT.of ha,rfl,_,rfl,b,_,0,_,rfl,rfl,SqT.of hb,rfl,_,_,rfl,rfl,_,rfl,_,_,rfl,rfl,?_⟩;refine⟨decide (c.1<=d.1+1/\d.1<=c.1+1),congrArg V.bl (zqA c.1 d.1),?_⟩;by_cases h1:c.1<=d.1+1/\d.1<=c.1+1
   .rw[bu h1];refine za6 ⟨_,rfl,a,_,1,_,rfl,rfl,SqT.of ha,rfl,_,rfl,b,_,1,_,rfl,rfl,SqT.of hb,rfl,_,_,rfl,rfl,_,rfl,_,_,rfl,rfl,?_⟩;have:Cells.near c d=decide (c.2<=d.2+1/\d.2<=c.2+1):=by
     rw[W1,ni,bf];exact⟨λh=>h.2.1,λh=>⟨h1,h,hcd⟩⟩
    show Q (V.bl (decide ((if ((c.2:Nat):Int)-((d.2:Nat):Int)<0 then -(((c.2:Nat):Int)-((d.2:Nat):Int)) else ((c.2:Nat):Int)-((d.2:Nat):Int))<2))) H;rw[zqA,<- this];exact q
   .rw[bg h1];refine zcP ?_;have:Cells.near c d=false:=by
     rw[XC,ne_eq,ni];exact λh=>h1 h.1
    rw[this] at q;exact q
def fData (c1 c2:AB):V7:=.tuple [.list (c1.map zk),.list (c2.map zk)]
def zdY (c1 c2:AB):zml (fData c1 c2) (fData c1 c2):=by
 have h1:TY (fData c1 c2)=true:=by
  show (TY (.list (c1.map zk))&&(TY (.list (c2.map zk))&&true))=true;rw[show TY (.list (c1.map zk))=true from YV c1,show TY (.list (c2.map zk))=true from YV c2];rfl
 refine⟨h1,h1,?_⟩;show max (UL (c1.map zk)+1) (max (UL (c2.map zk)+1) 0)+1<=64;have a:=zce c1;have b:=zce c2;lia
def j5.rdv {K:XW}{H:Hp}{fa fc fs:Addr}{us ws:AE}{cl st:AB}(x:j5 H fa fc fs us ws cl st):Rdv K H (.ref fa) (fData cl st):=.tup (SqT.of x.tp) (.cons (.lst (SqL.of x.h1) (zc3 x.c1)) (.cons (.lst (SqL.of x.h2) (zc3 x.c2)) .nil))
def zpw:("o":Str)=⟨#[111]⟩:=by decide+kernel
def znu:("c":Str)=⟨#[99]⟩:=by decide+kernel
def zpx:(".":Str)=⟨#[46]⟩:=by decide+kernel
def marks:List Nat:=[35,111,99,46]
def qb (k:Nat):Bool:=decide (k=111) || decide (k=99)
structure Yp (gs:List (List Nat)):Prop where
 lo:1<=gs.length
 hi:gs.length<=8
 ex:∃n,1<=n/\n<=8/\∀t∈gs,t.length=n/\∀k∈t,k∈marks
def Yp.t8 {gs:List (List Nat)}(M:Yp gs):∀t∈gs,t.length<=8:=λt ht=>by
 obtain⟨n,_,h8,h⟩:=M.ex;rw[(h t ht).1];exact h8
def dlt (c x:AA):AA:=(x.1+1-c.1,x.2+1-c.2)
def ziq:AB:=[(0,0),(0,1),(0,2),(1,0),(1,2),(2,0),(2,1),(2,2)]
def zlJ {a b:Nat}(ha:a<3)(hb:b<3)(h:¬ (a=1/\b=1)):(a,b)∈ziq:=by
 have key:∀a b:Fin 3,¬ (a=1/\b=1)->(a.1,b.1)∈ziq:=by decide
 exact key ⟨a,ha⟩ ⟨b,hb⟩ λz=>h ⟨congrArg Fin.val z.1,congrArg Fin.val z.2⟩
def zag {p:Nat->Bool}(gs:List (List Nat))(c:AA):((Cells.zw p 0 gs).filter λx=>Cells.near x c).length<=8:=by
 have nd:=(qi (Cells.qW p 0 gs)).sublist (XA (p:=λx=>Cells.near x c));have hn:∀x∈(Cells.zw p 0 gs).filter (λx=>Cells.near x c),(x.1<=c.1+1/\c.1<=x.1+1)/\(x.2<=c.2+1/\c.2<=x.2+1)/\¬ x=c:=λx hx=>(Cells.jQ x c).mp (X9.mp hx).2;generalize (Cells.zw p 0 gs).filter (λx=>Cells.near x c)=L at *
 have nm:(L.map (dlt c)).Nodup:=by
  refine We.mpr (nd.imp_of_mem λ{a b} ha hb hl e=>hl ?_);obtain⟨a1,a2,_⟩:=hn a ha;obtain⟨b1,b2,_⟩:=hn b hb;have e1:a.1+1-c.1=b.1+1-c.1:=congrArg Prod.fst e;have e2:a.2+1-c.2=b.2+1-c.2:=congrArg Prod.snd e;exact Prod.ext (by lia) (by lia)
 have i8:∀y∈L.map (dlt c),y∈ziq:=λy hy=>by
  obtain⟨x,hx,rfl⟩:=XM.mp hy;obtain⟨a,b,h⟩:=hn x hx;exact zlJ (by lia) (by lia) λz=>h (Prod.ext (by lia) (by lia))
 have:=((W6 nm ((by decide:ziq.Nodup).sublist (XA (p:=λy=>decide (y∈L.map (dlt c)))))).mpr λy=>by
  rw[X9,bf];exact⟨λz=>⟨i8 y z,z⟩,λz=>z.2⟩).length_eq
 rw[Y1] at this;rw[this];exact Xg _ _
def zrp:∀d:Nat,d<9->((toString (d:Int):String):Str)=⟨#[48+d]⟩/\48+d∈bd.cps.toList/\yx (48+d)=false:=by decide+kernel
def stM (gs:List (List Nat)):AB:=Cells.zw (pZ [111]) 0 gs
def nrM (gs:List (List Nat))(i j:Nat):AB:=(stM gs).filter λx=>Cells.near x (i,j)
def YW (gs:List (List Nat))(i j k:Nat):Nat:=if k=46 then 48+(nrM gs i j).length else if qb k=true then 63 else k
def zf6 (gs:List (List Nat))(i:Nat)(t:List Nat):List Nat:=t.mapIdx (YW gs i)
def xE (gs:List (List Nat)):List (List Nat):=gs.mapIdx (zf6 gs)
def za0 {α β:Type}(f:Nat->α->β){t:List α}{j:Nat}{k:α}(h:t[j]?=some k):(t.take (j+1)).mapIdx f=(t.take j).mapIdx f++[f j k]:=by
 obtain⟨hl,e⟩:=X5.mp h;rw[Xc,h,List.mapIdx_append];simp only[Option.toList_some,Rl,List.mapIdx_nil,XF];rw[VI,Nat.min_eq_left (by lia)]
theorem ZU {p q:Nat->Bool}{f:Nat->Nat->Nat}(i:Nat)(hf:∀m c,p (f m c)=q c):∀(j m:Nat) (t:List Nat),Cells.zQ p i j (t.mapIdx λa=>f (a+m))=Cells.zQ q i j t
 | _,_,[]=>rfl
 | j,m,c::r=>by
  rw[Rl,Cells.zQ,Cells.zQ,hf];have:=ZU i hf (j+1) (m+1) r;have e:(λa=>f (a+(m+1)))=λa=>f (a+1+m):=by
   funext a;congr 1;lia
  rw[e] at this;rw[this]
theorem ZV {p q:Nat->Bool}{f:Nat->List Nat->List Nat}(hf:∀m i t,Cells.zQ p i 0 (f m t)=Cells.zQ q i 0 t):∀(i m:Nat) (gs:List (List Nat)),Cells.zw p i (gs.mapIdx λa=>f (a+m))=Cells.zw q i gs
 | _,_,[]=>rfl
 | i,m,t::r=>by
  rw[Rl,Cells.zw,Cells.zw,hf];have:=ZV hf (i+1) (m+1) r;have e:(λa=>f (a+(m+1)))=λa=>f (a+1+m):=by
   funext a;congr 1;lia
  rw[e] at this;rw[this]
def zjE (gs:List (List Nat))(i j k:Nat):yx (YW gs i j k)=(qb k || decide (k=63)):=by
 unfold YW;have h8:(nrM gs i j).length<=8:=zag gs (i,j);by_cases h1:k=46
 .rw[br h1,h1];show decide (48+(nrM gs i j).length=63)=false;exact bg (by lia)
 .rw[bw h1];by_cases h2:qb k=true
  .rw[br h2,h2];rfl
  .rw[bw h2,XC.mpr h2];rfl
def zcG {gs:List (List Nat)}:Cells.zw yx 0 (xE gs)=Cells.zw (λk=>qb k || decide (k=63)) 0 gs:=by
 have h:=ZV (p:=yx) (q:=λk=>qb k || decide (k=63)) (f:=zf6 gs) (λm i t=>ZU (f:=YW gs m) i (λa c=>zjE gs m a c) 0 0 t) 0 0 gs;exact h
def Yp.rows {gs:List (List Nat)}{rs:AD}(M:Yp gs)(h:codes rs=xE gs):Rows bd.cps.toList rs:=by
 have hl:rs.length=gs.length:=by
  have e:(codes rs).length=(xE gs).length:=by rw[h]
  rw[jz] at e;unfold xE at e;rw[Ti] at e;exact e
 obtain⟨n,n1,n8,hn⟩:=M.ex;refine⟨by rw[hl];exact M.lo,by rw[hl];exact M.hi,n,n1,n8,λt ht=>?_⟩;have hm:t.cps.toList∈xE gs:=by
  rw[<- h];exact List.mem_map_of_mem ht
 unfold xE at hm;obtain⟨i,hi,e⟩:=List.mem_mapIdx.mp hm;have hg:=hn gs[i] (Uo hi);refine⟨?_,λk hk=>?_⟩
 .have e2:t.cps.toList.length=n:=by
   rw[<- e];unfold zf6;rw[Ti,hg.1]
  rw[X4] at e2;exact e2
 .rw[<- e] at hk;unfold zf6 at hk;obtain⟨j,hj,e3⟩:=List.mem_mapIdx.mp hk;have hx:=hg.2 _ (Uo hj);have h8:(nrM gs i j).length<=8:=zag gs (i,j);rw[<- e3];unfold YW;split
  .have:∀d:Nat,d<9->48+d∈bd.cps.toList:=by decide+kernel
   exact this _ (by lia)
  .split
   .decide+kernel
   .rename_i a b;have:∀k∈marks,k≠46->qb k≠true->k∈bd.cps.toList:=by decide+kernel
    exact this _ hx a b
def zf7:Sp:=λvs H Q _=>∃(d:Addr) (us:AE) (gs:List (List Nat)),vs=[.ref d]/\H d=some (.lst us)/\yy H us gs/\Yp gs /\
 ∀(p l:Addr) (rs:AD) (H':Hp),H p=none->H l=none->qF H' p l rs ((stM gs).length:Nat)->codes rs=xE gs->zo H H'->Q (.ref p) H'
def zpy:∀k∈marks,k≠46->(jf (Zr [] [(.inr "o",V.str "?"),(.inr "c",V.str "?")]) (.inr ⟨#[k]⟩)).getD (V.str ⟨#[k]⟩)=V.str ⟨#[if qb k=true then 63 else k]⟩:=by
 intro k hk h;have hm:k=35\/k=111\/k=99\/k=46:=by simpa[marks] using hk
 rcases hm with rfl | rfl | rfl | rfl
 .rfl
 .rfl
 .rfl
 .exact absurd rfl h
def zpz:∀d:Nat,d<9->(jf (Zr [] [(.inr "o",V.str "?"),(.inr "c",V.str "?")]) (.inr ⟨#[48+d]⟩)).getD (V.str ⟨#[48+d]⟩)=V.str ⟨#[48+d]⟩:=by
 intro d hd;have hm:d=0\/d=1\/d=2\/d=3\/d=4\/d=5\/d=6\/d=7\/d=8:=by lia
 rcases hm with rfl | rfl | rfl | rfl | rfl | rfl | rfl | rfl | rfl<;>rfl
def qM:zB ["_law_marks","_law_stones","_law_rows","_law_row","_law_text","_law_column","_law_sign"] ["_law_marks"] (zp JJ):=bz rfl rfl rfl rfl (by decide+kernel)
def zeI {f1 f2:Addr}{fd1 fd2:XD}(T:Txt mg)(D:zm K mg "_law_board" JJ ["_law_marks"] f fd)(jH:zm K mg "_law_near" yE ["_law_one","_law_other"] f1 fd1)(qD:zm K mg "_law_cells" yc ["_law_rows","_law_signs"] f2 fd2):qa P w K mg base CX0 2 f fd ["_law_marks"] zf7:=by
 refine D.F.ok qM (λvs H Q E h=>?_) (λcdv A outer s H vs Q E hr h=>?_)
 .obtain⟨d,us,gs,rfl,_⟩:=h;rfl
 .obtain⟨d,us,gs,rfl,hd,hM,M,q⟩:=h;refine⟨_,(ze (jo 1 qM.nd (pc0 (ZT T qD) hr qD (za (pv 0) (@za _ _ _ _ _ (@zI _ _ _ _ (@za _ _ _ _ _ zZ zd rfl)) zd rfl)))) (@ze _ _ _ _ _ (@qH _ _ 2 _ _ _ _ qM.nd rfl (Vz rfl) (@zI _ _ _ _ zd) (by rfl) (.inr rfl)) (ze (qI WV rfl (prg T.qT (pb1 qk T.jk W2 (pv 0))) (pgq 3 qM.nd) (@ze _ _ _ _ _ (@qH _ _ 4 _ _ _ _ qM.nd rfl (Vz rfl) zZ (by rfl) (.inr rfl)) (ze (qI WV rfl (prg T.qT (pb1 qk T.jk W2 (zE xT (pv 0) (pv 3) (λ_ _=>rfl)))) (pgq 5 qM.nd) (ze (jo 6 qM.nd (zE xT (zE xT (pv 0) (pv 3) (λ_ _=>rfl)) (pv 5) (λ_ _=>rfl))) (QH (je (yV YX (pv 6) zZ (zY _)) (zh (jo 6 qM.nd (pt1 zd4 T.zqo PyProof.Rows.boot_str (pb1 qk T.jk W2 (pcm ["_law_one","_law_row","_law_column"] [none,some 3,some 5] cR (zH (pv 1)) (pgN 0) (qq (JX (K:=K) (by rfl) (pc0 (zaZ T jH) hr jH (za (pv 0) (za (qp (za (pv 1) (za (pv 2) zd))) zd))) (λ_=>rfl))) (pv 0)))))) qf) (zh (jo 4 qM.nd (zL zgm (pv 4) (zfb (u1 hr.units) (zmA (zfa zZ zZ (zfa zZ zZ zmz)) rfl rfl (by simp) (by decide)) (pv 6) (pv 6) ⟨rfl,rfl,rfl,rfl⟩))))))) (zh (jW (JW WE V0 VZ Yy (pv 2) (za (pv 4) zd))))))) (zh (zG (qp (za (pv 2) (za (pb1 qk T.jk W2 (pv 1)) zd)))))))),?_⟩;(try dsimp only[cxK,cxP,cxW]);have ul:us.length=gs.length:=Paired.length hM;have g8:=M.hi;refine⟨_,rfl,sz_1,λsg hsg=>?_⟩;have z1:=zc (o:=.lst [V.str "o"]) hsg;refine⟨d,sg,us,gs,[111],rfl,z1 _ _ hd,hM.mono z1,M.hi,M.t8,by rw[zb,zpw];rfl,λsa sv H2 hsa zpA hc2 s2=>?_⟩;have hcs:Cel H2 sv (stM gs):=hc2;have s02:=z1.trans s2;refine⟨Jy,λl hl=>?_⟩;have z3:=zc (o:=.lst []) hl;have s03:=s02.trans z3;have hl3:upd H2 l (.lst []) l=some (.lst []):=zb;have hsa3:=z3 _ _ zpA;have hcs3:=hcs.mono z3;have lfree:=s02.free hl;generalize upd H2 l (.lst [])=H3 at *
  refine⟨_,rfl,d,_,rfl,.inl (SqL.of (s03 _ _ hd)),_,rfl,by lia,by lia,?_⟩;rw[VE,ul];refine qV (lo:=0) (n:=gs.length) (λi σ H'=>∃(v3 v4 v5 v6:Option V) (rs:AD),σ=[some (.ref d),some (.ref sa),some (.ref l),v3,v4,v5,v6]/\zo H H'/\zn8 H3 H' l/\H' l=some (.lst (rs.map V.str))/\codes rs=(gs.take i).mapIdx (zf6 gs)) ⟨_,_,_,_,[],rfl,s03,λ_ _ _ e=>e,hl3,rfl⟩ ?_ ?_
  .rintro i σ H4 hi ⟨v3,v4,v5,v6,rs,rfl,s4,s34,hl4,er⟩;obtain⟨t,ht⟩:∃t,gs[i]?=some t:=⟨_,XX hi⟩;have tl:=M.t8 t (X6 ht);obtain⟨ra,hra,hra0⟩:=zbt (hM.mono s4) ht;have hat:atI us (0+(i:Int))=some (V.ref ra):=by
    rw[VH];exact qK hra
   have nsa:sa≠l:=zg zpA hl;have hsa4:=s34 _ _ nsa hsa3;have hcs4:Cel H4 sv (stM gs):=Cel.one s34 hl3 hcs3;have zl:(t.map λc=>V.str ⟨#[c]⟩).length=t.length:=Y1 _;refine⟨_,rfl,_,rfl,d,_,_,_,rfl,rfl,SqL.of (s4 _ _ hd),hat,ra,_,rfl,.inl (SqL.of hra0),_,rfl,by rw[zl];lia,by rw[zl];lia,?_⟩;rw[VE,zl];refine qV (lo:=0) (n:=t.length) (λj σ H'=>∃(v5 v6:Option V) (tx:Str),σ=[some (.ref d),some (.ref sa),some (.ref l),some (.int (0+(i:Int))),some (.str tx),v5,v6]/\zo H4 H'/\tx.cps.toList=(t.take j).mapIdx (YW gs i)) ⟨_,_,_,rfl,zo.refl _,rfl⟩ ?_ ?_
   .rintro j σ H5 hj ⟨v5,v6,tx,rfl,s5,et⟩;obtain⟨k,hk⟩:∃k,t[j]?=some k:=⟨_,XX hj⟩;obtain⟨n,n1,n8,hn⟩:=M.ex;have km:=(hn t (X6 ht)).2 k (X6 hk);have txl:tx.length=j:=by
     rw[<- show tx.cps.toList.length=tx.length from X4,et,Ti,XF];lia
    have s45:=s4.trans s5;refine⟨_,rfl,_,rfl,d,_,_,_,rfl,rfl,SqL.of (s45 _ _ hd),hat,_,rfl,ra,_,_,V.str ⟨#[k]⟩,rfl,rfl,SqL.of (s5 _ _ hra0),(by rw[VH];exact qK (by rw[Xo,hk];rfl)),?_⟩;have fin:∀(c:Nat) (H6:Hp) (v6:V),zo H5 H6->c=YW gs i j k->∃(v5 v6':Option V) (tx':Str),[some (V.ref d),some (V.ref sa),some (V.ref l),some (V.int (0+(i:Int))),some (V.str (tx++⟨#[c]⟩)),some (V.int (0+(j:Int))),some v6]=[some (V.ref d),some (V.ref sa),some (V.ref l),some (V.int (0+(i:Int))),some (V.str tx'),v5,v6']/\zo H4 H6/\tx'.cps.toList=(t.take (j+1)).mapIdx (YW gs i):=λc H6 v6 s6 ec=>by
     refine⟨_,_,_,rfl,s5.trans s6,?_⟩;rw[za0 _ hk,<- et,<- ec];show (tx.cps++#[c]).toList=_;rw[WC]
    refine⟨fun σ' H'=>∃c:Nat,σ'=[some (.ref d),some (.ref sa),some (.ref l),some (.int (0+(i:Int))),some (.str tx),some (.int (0+(j:Int))),some (.str ⟨#[c]⟩)]/\zo H5 H'/\(jf (Zr [] [(.inr "o",V.str "?"),(.inr "c",V.str "?")]) (.inr ⟨#[c]⟩)).getD (V.str ⟨#[c]⟩)=V.str ⟨#[YW gs i j k]⟩,?_,?_⟩
    .by_cases h46:k=46
     .have hsa5:=s5 _ _ hsa4;have hcs5:=hcs4.mono s5;have n8':(nrM gs i j).length<=8:=zag gs (i,j);refine⟨_,rfl,rfl,_,rfl,ju (by rw[h46];decide+kernel) ?_⟩;refine⟨_,rfl,sa,rfl,⟨_,SqL.of hsa5⟩,λz hz=>?_⟩;refine z9 (K:=K) (a:=sa) (xs:=sv) (λa=>a≠z) ((stM gs).map λx=>if Cells.near x (i,j)=true then some (zk x) else none) (fun σ=>∃u0,σ=[u0,some (.int (0+(i:Int))),some (.int (0+(j:Int)))]) hz (λ_ h=>h) ⟨_,rfl⟩ (by rw[Y1];exact hcs5.length.symm) (by rw[hcs5.length];exact XZ (show (stM gs).length<=64 from XZ (Cells.qB (pZ [111]) 0 gs M.t8) (by lia)) (by decide)) (SqL.of hsa5) ?_ ?_
      .rintro m x o σ H6 hx ho s6 _ ⟨u0,rfl⟩ Y Z yes no;obtain⟨y,hy,ya,rfl,hya⟩:=Cel.get (Cel.mono s6 hcs5) hx;have eo:=jg hy ho;refine⟨_,rfl,_,rfl,_,rfl,jP,λtq htq=>?_⟩;have z7:=zc (o:=.tup [V.int (0+(i:Int)),V.int (0+(j:Int))]) htq;refine⟨ya,tq,y,(i,j),rfl,z7 _ _ hya,by rw[zb,VH,VH],_,rfl,?_⟩;by_cases hp:Cells.near y (i,j)=true
       .rw[br hp] at eo;exact ju hp ⟨_,rfl,yes _ _ _ _ eo ⟨_,rfl⟩ z7 (yg.rdn ⟨ya,rfl,z7 _ _ hya⟩)⟩
       .rw[bw hp] at eo;exact jd (XC.mpr hp) (no _ _ eo ⟨_,rfl⟩ z7)
      .rintro ys H6 s6 hz6 hr6;rw[zR] at hr6;have yl:ys.length=(nrM gs i j).length:=(zq.cel hr6).length;have y9:ys.length<9:=by lia
       obtain⟨d1,d2,d3⟩:=zrp ys.length y9;have hlog:((ys.length:Nat):Int).natAbs.log2<1920:=by
        rw[RY];have:∀d:Nat,d<9->d.log2<1920:=by decide+kernel
        exact this _ y9
       refine⟨z,_,rfl,.inl (SqL.of hz6),_,rfl,hlog,48+ys.length,?_,s6,?_⟩
       .rw[<- d1];rfl
       .rw[zpz _ y9,yl];unfold YW;rw[br h46]
     .refine⟨_,rfl,rfl,_,rfl,jd ?_ ⟨k,rfl,zo.refl _,?_⟩⟩
      .have:∀k∈marks,k≠46->decide (V.str ⟨#[k]⟩=V.str ".")=false:=by decide+kernel
       exact this k km h46
      .rw[zpy k km h46];unfold YW;rw[bw h46]
    .rintro _ H6 ⟨c,rfl,s6,hg⟩;refine⟨_,rfl,λdp hdp=>?_⟩;have z7:=zc (o:=.dK []) hdp;have hup:zo H6 (upd (upd H6 dp (.dK [])) dp (.dK (Zr [] [(.inr "o",V.str "?"),(.inr "c",V.str "?")]))):=λb o e=>by
      rw[zf (zg e hdp)];exact z7 _ _ e
     refine⟨zb,[(.inr "o",V.str "?"),(.inr "c",V.str "?")],rfl,by decide,dp,rfl,.inl ⟨_,.inl zb⟩,_,rfl,_,rfl,_,zbN.k (k:=.inr ⟨#[c]⟩) zb,tx,⟨#[YW gs i j k]⟩,rfl,hg,?_,fin _ _ _ (s6.trans hup) rfl⟩;rw[txl];exact XZ (show j+1<=20 by lia) (by decide)
   .rintro σ H5 ⟨v5,v6,tx,rfl,s5,et⟩;rw[Xz] at et;have hl5:=s5 _ _ hl4;have rl:rs.length<=8:=by
     have:(codes rs).length=((gs.take i).mapIdx (zf6 gs)).length:=by rw[er]
     rw[jz,Ti,XF] at this;lia
    refine⟨_,rfl,.inl ⟨rfl,_,SqL.of hl5⟩,_,rfl,l,_,_,rfl,rfl,hl5,?_,?_⟩
    .rw[Y1];exact Xw rl (by decide)
    refine⟨_,_,_,_,rs++[tx],rfl,λb o e=>?_,λb o nb e=>?_,?_,?_⟩
    .rw[zf (zg e lfree)];exact s5 _ _ (s4 _ _ e)
    .rw[zf nb];exact s5 _ _ (s34 _ _ nb e)
    .rw[zb,Xh];rfl
    .rw[za0 _ ht,<- er];unfold codes;rw[Xh];show _++[tx.cps.toList]=_;rw[et];rfl
  .rintro σ H4 ⟨v3,v4,v5,v6,rs,rfl,s4,s34,hl4,er⟩;rw[Xz] at er;have nsa:sa≠l:=zg zpA hl;have hsa4:=s34 _ _ nsa hsa3;refine⟨_,rfl,_,rfl,sa,_,rfl,.inl (SqL.of hsa4),jP,λp hp=>?_⟩;have z5:=zc (o:=.tup [V.ref l,V.int ((sv.length:Nat):Int)]) hp;refine q p l rs _ (s4.free hp) lfree ⟨?_,z5 _ _ hl4⟩ er (s4.trans z5);rw[zb,hcs3.length]
abbrev Fn:=AA->Nat
def rwF (f:Fn)(w i:Nat):List Nat:=(Wy w).map λj=>f (i,j)
def grF (f:Fn)(h w:Nat):List (List Nat):=(Wy h).map (rwF f w)
def upF (f:Fn)(c:AA)(k:Nat):Fn:=λx=>if x=c then k else f x
def zlK {f:Fn}{w i j:Nat}(hj:j<w):(rwF f w i)[j]?=some (f (i,j)):=by
 unfold rwF;rw[Xo,U8 hj];rfl
def zhg {f:Fn}{h w i:Nat}(hi:i<h):(grF f h w)[i]?=some (rwF f w i):=by
 unfold grF;rw[Xo,U8 hi];rfl
def ZW (f:Fn)(w i:Nat):(rwF f w i).length=w:=by
 unfold rwF;rw[Y1,WI]
def Yq (f:Fn)(h w:Nat):(grF f h w).length=h:=by
 unfold grF;rw[Y1,WI]
def zpB {f:Fn}{h w i j k:Nat}:(grF f h w).set i ((rwF f w i).set j k)=grF (upF f (i,j) k) h w:=by
 refine Rs (by simp[grF]) λa h1 h2=>?_;simp only[grF,List.getElem_set,List.getElem_map,List.getElem_range];split
 .rename_i e;subst e;refine Rs (by simp[rwF]) λb h3 h4=>?_;simp only[rwF,List.getElem_set,List.getElem_map,List.getElem_range];unfold upF;split
  .rename_i e;subst e;rw[br rfl]
  .rename_i e;rw[bw λz=>e (by cases z;rfl)]
 .rename_i e;unfold rwF;refine Xa λb _=>?_;unfold upF;rw[bw λz=>e (by cases z;rfl)]
def Yr {p:Nat->Bool}{f:Fn}{h w:Nat}{x:AA}:x∈Cells.zw p 0 (grF f h w)↔x.1<h/\x.2<w/\p (f x)=true:=by
 constructor
 .intro hx;obtain⟨k,j,t,c,rfl,ht,hj,hp⟩:=Cells.jK hx;have hk:=(X5.mp ht).1;rw[Yq] at hk;rw[zhg hk] at ht;cases ht;have hw:=(X5.mp hj).1;rw[ZW] at hw;rw[zlK hw] at hj;cases hj;rw[VI];exact⟨hk,hw,hp⟩
 .rintro⟨h1,h2,hp⟩;have:=x8 (p:=p) (i:=0) (zhg (f:=f) (w:=w) h1) (zlK h2) hp;rw[VI] at this;exact this
def zah {a b:AB}(ha:a.Pairwise Cells.lex)(hb:b.Pairwise Cells.lex)(h:∀x,x∈a↔x∈b):a=b:=zm6 ((W6 (qi ha) (qi hb)).mpr h) ha hb
def zcH {p q:Nat->Bool}{f g:Fn}{h w:Nat}(e:∀x,x.1<h->x.2<w->p (f x)=q (g x)):Cells.zw p 0 (grF f h w)=Cells.zw q 0 (grF g h w) :=
 zah (Cells.qW _ 0 _) (Cells.qW _ 0 _) λx=>by
  rw[Yr,Yr];exact⟨λ⟨a,b,c⟩=>⟨a,b,(e x a b).symm.trans c⟩,λ⟨a,b,c⟩=>⟨a,b,(e x a b).trans c⟩⟩
def zcI {f:Fn}{h w:Nat}(h1:1<=h)(h8:h<=8)(w1:1<=w)(w8:w<=8)(hf:∀x,f x∈marks):Yp (grF f h w):=by
 refine⟨by rw[Yq];exact h1,by rw[Yq];exact h8,w,w1,w8,λt ht=>?_⟩;obtain⟨i,_,rfl⟩:=XM.mp ht;refine⟨ZW _ _ _,λk hk=>?_⟩;obtain⟨j,_,rfl⟩:=XM.mp hk;exact hf _
def qG:AB:=[(1,1),(1,4),(4,1),(4,4)]
def f0:Fn:=λx=>if x∈qG then 99 else 46
def zcJ (o:AA):Bool:=!(qG.filter λs=>Cells.near o s).isEmpty
def xF:AB:=(Cells.zw (pZ [46]) 0 (grF f0 8 8)).filter zcJ
def fB (b:Fn)(rm:AB):Fn:=λx=>if x∈qG then b x else if x∈xF/\x ∉ rm then 35 else 46
def fA (b:Fn)(done:AB):Fn:=λx=>if x∈done then b x else 46
def zc7 (b:Fn):Prop:=∀x,b x=99\/b x=111
def zlL:qG.Nodup:=by decide
def znv:xF.length=32:=by decide+kernel
def zlM:∀x∈xF,x ∉ qG:=by decide+kernel
def zjF:∀c∈qG,(xF.filter λo=>!Cells.near c o).length=24/\∀o∈xF,Cells.near c o=true->qG.filter (λs=>Cells.near s o)=[c]:=by decide+kernel
def zlN:xF.Nodup:=(qi (Cells.qW _ 0 _)).sublist XA
def zbu {x:AA}:x∈xF↔x.1<8/\x.2<8/\x ∉ qG/\zcJ x=true:=by
 unfold xF;rw[X9,Yr];have e:pZ [46] (f0 x)=true↔x ∉ qG:=by
  unfold f0;by_cases h:x∈qG
  .rw[br h];exact⟨(λz=>nomatch z),λz=>absurd h z⟩
  .rw[bw h];exact⟨λ_=>h,λ_=>rfl⟩
 rw[e];exact⟨λ⟨⟨a,b,c⟩,d⟩=>⟨a,b,c,d⟩,λ⟨a,b,c,d⟩=>⟨⟨a,b,c⟩,d⟩⟩
def znw {b:Fn}{c:AA}{k:Nat}{done:AB}(hc:c ∉ done):upF (fA b done) c k=fA (upF b c k) (done++[c]):=by
 funext x;unfold upF fA;by_cases h:x=c
 .subst h;rw[br rfl,br (W7 _ XU)];exact(br rfl).symm
 .rw[bw h];by_cases h2:x∈done
  .rw[br h2,br (Xf _ h2)];exact(bw h).symm
  .rw[bw h2,bw];rw[XQ,Wv];exact λz=>z.elim h2 h
def zpC {b:Fn}:fA b qG=fB b xF:=by
 funext x;unfold fA fB;rw[bw (c:=x∈xF/\x ∉ xF) λz=>z.2 z.1]
def zf8 {α:Type}{l:List α}{k:Nat}{c:α}(nd:l.Nodup)(hk:l[k]?=some c):c ∉ l.eraseIdx k:=by
 rw[Vs];obtain⟨hl,e⟩:=X5.mp hk;have e2:l=l.take k++(c::l.drop (k+1)):=by rw[<- e,<- WP hl,W4]
 rw[e2] at nd;obtain⟨_,h2,h3⟩:=WW.mp nd;intro z;rcases XQ.mp z with z | z
 .exact h3 c z c XU rfl
 .exact(WB.mp h2).1 z
def mem_erase {α:Type}{l:List α}{k:Nat}{c x:α}(hk:l[k]?=some c)(hx:x∈l)(n:x≠c):x∈l.eraseIdx k:=by
 rw[Vs];obtain⟨hl,e⟩:=X5.mp hk;have e2:l=l.take k++(c::l.drop (k+1)):=by rw[<- e,<- WP hl,W4]
 rw[e2] at hx;rcases XQ.mp hx with z | z
 .exact Xf _ z
 .rcases XG.mp z with z | z
  .exact absurd z n
  .exact W7 _ z
def znx {b:Fn}{rm:AB}{k:Nat}{c:AA}(s:rm.Sublist xF)(hk:rm[k]?=some c):upF (fB b rm) c 35=fB b (rm.eraseIdx k):=by
 have cr:=s.subset (X6 hk);have ne:=zf8 (zlN.sublist s) hk;funext x;unfold upF fB;by_cases h:x=c
 .subst h;rw[br rfl,bw (zlM x cr),br ⟨cr,ne⟩]
 .rw[bw h];have e:(x∈xF/\x ∉ rm)↔(x∈xF/\x ∉ rm.eraseIdx k):=⟨λz=>⟨z.1,λy=>z.2 (List.mem_of_mem_eraseIdx y)⟩,λz=>⟨z.1,λy=>z.2 (mem_erase hk y h)⟩⟩;simp only[e]
def zf9 {b:Fn}(hb:zc7 b)(rm:AB)(x:AA):fB b rm x∈marks:=by
 unfold fB;split
 .rcases hb x with h | h<;>rw[h]<;>decide
 .split<;>decide
def zlO (rs:AD)(c:AA):clA rs c=(zx rs).filter λx=>Cells.near x c:=by
 unfold clA zF zx;rw[VO];have e:Cells.zw yx 0 (codes rs)=(Cells.zw qh 0 (codes rs)).filter λx=>yx (Cells.sgn (codes rs) x):=by
  rw[Cells.all_filter];refine Cells.Yc (λc=>?_) 0 _;unfold yx qh;by_cases h:c=63
  .subst h;rfl
  .rw[bg h,R7]
 rw[e,VO];refine V8 λx _=>?_;rw[RF];rfl
def zpD {gs:List (List Nat)}{i j:Nat}{t:List Nat}{c:Nat}(h:(xE gs)[i]?=some t)(hj:t[j]?=some c):∃u k,gs[i]?=some u/\u[j]?=some k/\c=YW gs i j k:=by
 unfold xE at h;rw[Pe] at h;obtain⟨u,hu,rfl⟩:=Uf.mp h;unfold zf6 at hj;rw[Pe] at hj;obtain⟨k,hk,rfl⟩:=Uf.mp hj;exact⟨u,k,hu,hk,rfl⟩
def zny {gs:List (List Nat)}{rs:AD}(h:codes rs=xE gs){c:AA}(hc:c∈stM gs):c∈zx rs:=by
 unfold zx;rw[h,zcG];obtain⟨i,j,t,k,rfl,ht,hk,hp⟩:=Cells.jK hc;have e:k=111:=Wv.mp (bh hp);exact x8 ht hk (by rw[e];rfl)
def zlP (gs:List (List Nat)):(stM gs).Nodup:=qi (Cells.qW _ 0 gs)
def Yp.lay {gs:List (List Nat)}{rs:AD}(M:Yp gs)(h:codes rs=xE gs):Lay rs ((stM gs).length:Nat) λc=>decide (c∈stM gs):=by
 have key:∀p:AA->Bool,((zx rs).filter p).countP (λc=>decide (c∈stM gs))=((stM gs).filter p).length:=λp=>by
  rw[V1,VO];refine U7 ((W6 ((jG rs).sublist XA) ((zlP gs).sublist XA)).mpr λc=>?_);rw[X9,X9,Ws,bf];exact⟨λz=>z.2,λz=>⟨zny h z.1,z⟩⟩
 refine⟨?_,λo ho=>?_⟩
 .have:=key λ_=>true;rw[Uu.mpr λ_ _=>rfl,Uu.mpr λ_ _=>rfl] at this;rw[this]
 .rw[zlO,key];obtain⟨t,c,ht,hk,hp,es⟩:=zW ho;obtain⟨u,k,hu,hk2,ec⟩:=zpD (h ▸ jy ht) hk;obtain⟨n,_,_,hn⟩:=M.ex;have km:=(hn u (X6 hu)).2 k (X6 hk2);have k46:k=46:=by
   have hm:k=35\/k=111\/k=99\/k=46:=by simpa[marks] using km
   rcases hm with rfl | rfl | rfl | rfl
   .rw[ec] at hp;cases hp
   .rw[ec] at hp;cases hp
   .rw[ec] at hp;cases hp
   .rfl
  unfold jq;rw[es,ec,k46];show (((stM gs).filter λx=>Cells.near x (o.1,o.2)).length:Int)=(((48+(nrM gs o.1 o.2).length:Nat)):Int)-48;unfold nrM;lia
def zga (k:Nat):Bool:=decide (k=46) || (!qb k&&Zb k)
def zjG (gs:List (List Nat))(i j k:Nat):Zb (YW gs i j k)=zga k:=by
 unfold YW zga;have h8:(nrM gs i j).length<=8:=zag gs (i,j);by_cases h1:k=46
 .rw[br h1,bu h1,Bool.true_or];show (!decide (48+(nrM gs i j).length=35) && !decide (48+(nrM gs i j).length=63))=true;rw[bg (by lia),bg (by lia)];rfl
 .rw[bw h1,bg h1,Bool.false_or];by_cases h2:qb k=true
  .rw[br h2,h2];rfl
  .rw[bw h2,XC.mpr h2];rfl
def zcK {gs:List (List Nat)}:Cells.zw Zb 0 (xE gs)=Cells.zw zga 0 gs:=ZV (p:=Zb) (q:=zga) (f:=zf6 gs) (λm i t=>ZU (f:=YW gs m) i (λa c=>zjG gs m a c) 0 0 t) 0 0 gs
def zjH (x y:AA):Cells.near x y=Cells.near y x:=by
 rw[W1,Cells.jQ,Cells.jQ];exact⟨λ⟨a,b,c⟩=>⟨⟨a.2,a.1⟩,⟨b.2,b.1⟩,λe=>c e.symm⟩,λ⟨a,b,c⟩=>⟨⟨a.2,a.1⟩,⟨b.2,b.1⟩,λe=>c e.symm⟩⟩
def za1 {rs:AD}(h:(zx rs).length<=14){gs:List AB}(G:Parts.Good (clA rs) (zK rs) gs):∀g∈gs,g.length<=14:=λg hg=>by
 have a:=(Wb hg).length_le;have b:=(zdP G).length_eq;rw[X0] at b;lia
def zcL (rs:AD):Prop:=∀c∈zx rs,∃o∈zK rs,clA rs o=[c]
section
variable {rs:AD}{n:Int}{L:AA->Bool}
def zcL.det (A:zcL rs)(hL:Lay rs n L){S:AB}(hS:S.Sublist (zx rs))(hw:Ju rs S=true):S=(zx rs).filter L:=by
 refine zah ((Yo rs).sublist hS) ((Yo rs).sublist XA) λc=>?_;rw[X9];have key:∀c∈zx rs,(c∈S↔L c=true):=λc hc=>by
  obtain⟨o,ho,e⟩:=A c hc;have h1:=Jv.mp hw o ho;have h2:=hL.o o ho;rw[e,Wx,PN,VI] at h2;unfold Grow.cnt at h1;constructor
  .intro z;have:c∈S.filter (nearF rs o):=X9.mpr ⟨z,(yt hc).mpr (by rw[e];exact XU)⟩;have:=Ug this;refine WU λy=>?_;rw[bw y] at h2;lia
  .intro y;rw[br y] at h2;obtain⟨x,hx⟩:=List.exists_mem_of_length_pos (l:=S.filter (nearF rs o)) (by lia);obtain⟨x1,x2⟩:=X9.mp hx;have:=(yt (hS.subset x1)).mp x2;rw[e,Wv] at this;rw[<- this];exact x1
 exact⟨λz=>⟨hS.subset z,(key c (hS.subset z)).mp z⟩,λz=>(key c z.1).mpr z.2⟩
def zcL.none (A:zcL rs)(hL:Lay rs n L){m:Int}(hm:n<m):zct rs m=0:=by
 unfold zct Tally.T;have h0:((Subs.subs (zx rs)).countP λS=>decide (S.length=m.toNat)&&Ju rs S)=0:=by
  rw[Uv];intro S hS z;rw[Ws,bf] at z;have e:=A.det hL (Tally.YE hS) z.2;have a:=hL.a;rw[V1,<- e] at a;lia
 rw[h0];rfl
def zcL.find (A:zcL rs)(hL:Lay rs n L){cl st:AB}(Y:Way (zx rs) (qz rs n (zaV rs)) L cl st)(C:zcA (qz rs n (zaV rs)) cl st):cl=(zx rs).filter (λc=>!L c)/\st=(zx rs).filter L:=by
 have key:∀c∈zx rs,c∈cl\/c∈st:=λc hc=>by
  obtain⟨o,ho,e⟩:=A c hc;have hn:o∈nbC rs:=X9.mpr ⟨ho,by rw[e];rfl⟩;have hk:(zlx rs n (some o),znj rs (some o))∈qz rs n (zaV rs):=XM.mpr ⟨some o,Xf _ (XM.mpr ⟨o,hn,rfl⟩),rfl⟩;refine WU λz=>?_;refine C _ hk K0 (.inr rfl) c (L c) (.inl (by show c∈clA rs o;rw[e];exact XU)) (λy=>z (.inl y)) (λy=>z (.inr y)) λp f=>?_;have h1:=f.c1;have h2:=Y.tr.ct _ hk;have h1:(((clA rs o).countP p:Nat):Int)=zlx rs n (some o):=h1;have h2:(((clA rs o).countP L:Nat):Int)=zlx rs n (some o):=h2;rw[e,Wx,PN] at h1 h2;cases hp:p c<;>cases hl:L c<;>rw[hp] at h1<;>rw[hl] at h2<;>simp at h1 h2<;>first | rfl | lia
 constructor
 .refine zah Y.x1 ((Yo rs).sublist XA) λc=>?_;rw[X9,WJ];exact⟨λz=>⟨Y.s1 c z,Y.tr.no c z⟩,λz=>(key c z.1).elim id λy=>by
   have:=Y.tr.ye c y;rw[z.2] at this;cases this⟩
 .refine zah Y.x2 ((Yo rs).sublist XA) λc=>?_;rw[X9];exact⟨λz=>⟨Y.s2 c z,Y.tr.ye c z⟩,λz=>(key c z.1).elim (λy=>by
   have:=Y.tr.no c y;rw[z.2] at this;cases this) id⟩
end
section
variable {b:Fn}{rm:AB}{rs:AD}
def zai (hb:zc7 b)(h:codes rs=xE (grF (fB b rm) 8 8)):zx rs=qG:=by
 unfold zx;rw[h,zcG,zcH (q:=qb) (g:=f0)]
 .decide+kernel
 .intro x _ _;unfold fB f0;by_cases hx:x∈qG
  .rw[br hx,br hx];rcases hb x with e | e<;>rw[e]<;>rfl
  .rw[bw hx,bw hx];split<;>rfl
def zir (hb:zc7 b)(h:codes rs=xE (grF (fB b rm) 8 8)){x:AA}:x∈zK rs↔x.1<8/\x.2<8/\x ∉ qG/\(x∈xF->x∈rm):=by
 unfold zK;rw[h,zcK,Yr];have e:zga (fB b rm x)=true↔x ∉ qG/\(x∈xF->x∈rm):=by
  unfold fB;by_cases hx:x∈qG
  .rw[br hx];refine⟨λz=>?_,λz=>absurd hx z.1⟩;rcases hb x with e | e<;>rw[e] at z<;>cases z
  .rw[bw hx];by_cases hr:x∈xF/\x ∉ rm
   .rw[br hr];exact⟨(λz=>nomatch z),λz=>absurd (z.2 hr.1) hr.2⟩
   .rw[bw hr];exact⟨λ_=>⟨hx,λy=>WU λz=>hr ⟨y,z⟩⟩,λ_=>rfl⟩
 rw[e]
def zn9 (hb:zc7 b)(h:codes rs=xE (grF (fB b rm) 8 8))(o:AA):clA rs o=qG.filter λs=>Cells.near s o:=by rw[zlO,zai hb h]
def zoa (hb:zc7 b)(s:rm.Sublist xF)(h:codes rs=xE (grF (fB b rm) 8 8)):(nbC rs).length=rm.length:=by
 refine U7 ((W6 ((qi (Cells.qW _ 0 _)).sublist XA) (zlN.sublist s)).mpr λx=>?_);have e:(!(clA rs x).isEmpty)=zcJ x:=by
  rw[zn9 hb h];unfold zcJ;congr 2;exact V8 λs _=>zjH s x
 rw[X9,e,show x∈Cells.zw Zb 0 (codes rs)↔_ from zir hb h];constructor
 .rintro⟨⟨a,c,d,k⟩,z⟩;exact k (zbu.mpr ⟨a,c,d,z⟩)
 .intro z;obtain⟨a,c,d,k⟩:=zbu.mp (s.subset z);exact⟨⟨a,c,d,λ_=>z⟩,k⟩
def zgb (hb:zc7 b)(s:rm.Sublist xF)(hl:24<rm.length)(h:codes rs=xE (grF (fB b rm) 8 8)):zcL rs:=by
 intro c hc;rw[zai hb h] at hc;obtain⟨h24,ha⟩:=zjF c hc;obtain⟨o,ho,hn⟩:∃o∈rm,Cells.near c o=true:=by
  refine WU λz=>?_;have e:rm.filter (λo=>!Cells.near c o)=rm:=Uu.mpr λo ho=>by
   rw[XC.mpr λy=>z ⟨o,ho,y⟩];rfl
  have:=(s.filter λo=>!Cells.near c o).length_le;rw[e] at this;lia
 obtain⟨a,d,k,_⟩:=zbu.mp (s.subset ho);exact⟨o,(zir hb h).mpr ⟨a,d,k,λ_=>ho⟩,by rw[zn9 hb h];exact ha o (s.subset ho) hn⟩
def zgc (hb:zc7 b)(h:codes rs=xE (grF (fB b rm) 8 8)){k:Nat}(hk:k=99\/k=111){p:AA->Bool}(hp:∀x∈qG,p x=decide (b x=k)):(zx rs).filter p=Cells.zw (pZ [k]) 0 (grF (fB b rm) 8 8):=by
 refine zah ((Yo rs).sublist XA) (Cells.qW _ 0 _) λx=>?_;rw[X9,Yr,zai hb h];have s8:∀x∈qG,x.1<8/\x.2<8:=by decide
 have e:pZ [k] (fB b rm x)=true↔x∈qG/\b x=k:=by
  unfold fB pZ;by_cases hx:x∈qG
  .rw[br hx,bf,Wv];exact⟨λz=>⟨hx,z⟩,λz=>z.2⟩
  .rw[bw hx,bf,Wv];refine⟨λz=>?_,λz=>absurd z.1 hx⟩;split at z<;>lia
 rw[e];constructor
 .rintro⟨z,y⟩;rw[hp x z,bf] at y;exact⟨(s8 x z).1,(s8 x z).2,z,y⟩
 .rintro⟨_,_,z,y⟩;exact⟨z,by rw[hp x z,bf];exact y⟩
end
def zjI {k:Nat}(h:qb k=true):k=111\/k=99:=by
 unfold qb at h;rw[Bool.or_eq_true,bf,bf] at h;exact h
structure Rw (f:Fn)(m:Nat):Prop where
 r0:∀k,qb (f (0,k))=true
 r1:∀k,f (1,k)=46
 r2:∀k,k<m->qb (f (2,k))=true
 r3:∀k,m<=k->f (2,k)=35
 am:∀x,f x∈marks
def jO (f:Fn)(c:AA)(s:Nat){p:Nat->Prop}{x:AA}(h1:x=c->p s)(h2:x≠c->p (f x)):p (upF f c s x):=by
 unfold upF;split
 .exact h1 ‹_›
 .exact h2 ‹_›
def zeJ:∀{s:Nat},qb s=true->s∈marks:=λ{s} h=>by
 rcases zjI h with rfl | rfl<;>decide
def Rw.p0 {f:Fn}{m k s:Nat}(Y:Rw f m)(hs:qb s=true):Rw (upF f (0,k) s) m :=
 ⟨λj=>jO (p:=λy=>qb y=true) f _ _ (λ_=>hs) λ_=>Y.r0 j,λj=>jO (p:=λy=>y=46) f _ _ (λz=>nomatch z) λ_=>Y.r1 j,λj hj=>jO (p:=λy=>qb y=true) f _ _ (λ_=>hs) λ_=>Y.r2 j hj,λj hj=>jO (p:=λy=>y=35) f _ _ (λz=>nomatch z) λ_=>Y.r3 j hj,λx=>jO (p:=λy=>y∈marks) f _ _ (λ_=>zeJ hs) λ_=>Y.am x⟩
def Rw.p2 {f:Fn}{m k s:Nat}(Y:Rw f m)(hs:qb s=true)(hk:k<m):Rw (upF f (2,k) s) m :=
 ⟨λj=>jO (p:=λy=>qb y=true) f _ _ (λ_=>hs) λ_=>Y.r0 j,λj=>jO (p:=λy=>y=46) f _ _ (λz=>nomatch z) λ_=>Y.r1 j,λj hj=>jO (p:=λy=>qb y=true) f _ _ (λ_=>hs) λ_=>Y.r2 j hj,λj hj=>jO (p:=λy=>y=35) f _ _ (λz=>by cases z;lia) λ_=>Y.r3 j hj,λx=>jO (p:=λy=>y∈marks) f _ _ (λ_=>zeJ hs) λ_=>Y.am x⟩
def Rw.grow {f:Fn}{m s:Nat}(Y:Rw f m)(hs:qb s=true):Rw (upF f (2,m) s) (m+1) :=
 ⟨λj=>jO (p:=λy=>qb y=true) f _ _ (λ_=>hs) λ_=>Y.r0 j,λj=>jO (p:=λy=>y=46) f _ _ (λz=>nomatch z) λ_=>Y.r1 j,λj hj=>jO (p:=λy=>qb y=true) f _ _ (λ_=>hs) λz=>Y.r2 j (Nat.lt_of_le_of_ne (Nat.le_of_lt_succ hj) λe=>z (by rw[e])),λj hj=>jO (p:=λy=>y=35) f _ _ (λz=>by cases z;lia) λ_=>Y.r3 j (by lia),λx=>jO (p:=λy=>y∈marks) f _ _ (λ_=>zeJ hs) λ_=>Y.am x⟩
def f1 (m:Nat):Fn:=λx=>if x.1=0 then 99 else if x.1=1 then 46 else if x.2<m then 99 else 35
section
variable {f:Fn}{m:Nat}{rs:AD}
def Rw.shut (Y:Rw f m)(h:codes rs=xE (grF f 3 8)):zx rs=Cells.zw qb 0 (grF (f1 m) 3 8):=by
 unfold zx;rw[h,zcG,zcH (q:=qb) (g:=f1 m)];rintro⟨i,k⟩ hi _;have hi:i<3:=hi;have key:∀c:Nat,qb c=true->(qb c || decide (c=63))=true:=λc z=>by rw[z];rfl
 rcases i with _ | _ | _ | i
 .exact(key _ (Y.r0 k)).trans rfl
 .rw[Y.r1 k];rfl
 .show (qb (f (2,k)) || decide (f (2,k)=63))=qb (if k<m then 99 else 35);by_cases hk:k<m
  .rw[key _ (Y.r2 k hk),br hk];rfl
  .rw[Y.r3 k (by lia),bw hk];rfl
 .lia
def Rw.open_ (Y:Rw f m)(h:codes rs=xE (grF f 3 8)){k:Nat}(hk:k<8):(1,k)∈zK rs:=by
 unfold zK;rw[h,zcK,Yr];exact⟨(by show 1<3;decide),hk,by rw[Y.r1 k];rfl⟩
def Rw.mem (Y:Rw f m)(h:codes rs=xE (grF f 3 8)){x:AA}:x∈zx rs↔x.2<8/\(x.1=0\/(x.1=2/\x.2<m)):=by
 rw[Y.shut h,Yr];obtain⟨i,k⟩:=x;show i<3/\k<8/\qb (if i=0 then 99 else if i=1 then 46 else if k<m then 99 else 35)=true↔k<8/\(i=0\/(i=2/\k<m));rcases i with _ | _ | _ | i
 .exact⟨λz=>⟨z.2.1,.inl rfl⟩,λz=>⟨by decide,z.1,rfl⟩⟩
 .exact⟨(λz=>nomatch z.2.2),λz=>by lia⟩
 .show _/\_/\qb (if k<m then 99 else 35)=true↔_;by_cases hk:k<m
  .rw[br hk];exact⟨λz=>⟨z.2.1,.inr ⟨rfl,hk⟩⟩,λz=>⟨by decide,z.1,rfl⟩⟩
  .rw[bw hk];exact⟨(λz=>nomatch z.2.2),λz=>by lia⟩
 .exact⟨λz=>by lia,λz=>by lia⟩
def Rw.near (Y:Rw f m)(h:codes rs=xE (grF f 3 8)){x:AA}{k:Nat}:x∈clA rs (1,k)↔x∈zx rs/\x.2<=k+1/\k<=x.2+1:=by
 rw[zlO,X9,Cells.jQ];refine⟨λ⟨a,_,c,_⟩=>⟨a,c⟩,λ⟨a,c⟩=>⟨a,?_,c,λe=>?_⟩⟩
 .have:=(Y.mem h).mp a;show x.1<=1+1/\1<=x.1+1;lia
 .have:=(Y.mem h).mp a;rw[e] at this;have:=this.2;lia
def Rw.big (Y:Rw f m)(h:codes rs=xE (grF f 3 8))(m7:6<m)(m8:m<=8){gs:List AB}(G:Parts.Good (clA rs) (zK rs) gs):∃g∈gs,14<g.length:=by
 have pc:∀k,k<8->(0,k)∈zx rs:=λk hk=>(Y.mem h).mpr ⟨hk,.inl rfl⟩;have key:∀k,k<8->∃g∈gs,∀x∈zx rs,x.2<=k->x∈g:=by
  intro k;induction k with
  | zero =>
   intro hk;have hc:(0,0)∈clA rs (1,0):=(Y.near h).mpr ⟨pc 0 hk,by decide,by decide⟩;obtain⟨g,hg,ha⟩:=G.cov _ (Y.open_ h hk) (UT hc);exact⟨g,hg,λx hx h0=>ha x ((Y.near h).mpr ⟨hx,by lia,by lia⟩)⟩
  | succ k ih =>
   intro hk;obtain⟨g,hg,ha⟩:=ih (by lia);have hc:(0,k)∈clA rs (1,k):=(Y.near h).mpr ⟨pc k (by lia),(by show k<=k+1;lia),(by show k<=k+1;lia)⟩;obtain⟨g',hg',ha'⟩:=G.cov _ (Y.open_ h (show k<8 by lia)) (UT hc);have e:=Parts.zas G.nd hg hg' (ha _ (pc k (by lia)) (XV k)) (ha' _ hc);subst e;refine⟨g,hg,λx hx h0=>?_⟩;by_cases z:x.2<=k
   .exact ha x hx z
   .exact ha' x ((Y.near h).mpr ⟨hx,h0,by lia⟩)
 obtain⟨g,hg,ha⟩:=key 7 (by lia);refine⟨g,hg,?_⟩;have gn:=G.nd.sublist (Wb hg);have:=((W6 (gn.sublist (XA (p:=λx=>decide (x∈zx rs)))) (jG rs)).mpr λx=>by
  rw[X9,bf];exact⟨λz=>z.2,λz=>⟨ha x z (by have:=((Y.mem h).mp z).1;lia),z⟩⟩).length_eq
 have a:=Xg (λx=>decide (x∈zx rs)) g;rw[Y.shut h] at this a;have:∀m,6<m->m<=8->14<(Cells.zw qb 0 (grF (f1 m) 3 8)).length:=λm a b=>by
  obtain rfl | rfl:m=7\/m=8:=by lia
  .decide+kernel
  .decide+kernel
 have:=this m m7 m8;lia
def Rw.few (Y:Rw f m)(h:codes rs=xE (grF f 3 8))(m4:4<=m)(m6:m<=6):(zx rs).length<=14:=by
 rw[Y.shut h];obtain rfl | rfl | rfl:m=4\/m=5\/m=6:=by lia
 .decide+kernel
 .decide+kernel
 .decide+kernel
def zqB (h:codes rs=xE (grF f 3 8)):(nbC rs).length<=30:=by
 refine XZ (Xg _ _) ?_;unfold zK;rw[h,zcK];refine XZ (Cells.qB _ 0 _ λt ht=>?_) ?_
 .obtain⟨i,_,rfl⟩:=XM.mp ht;rw[ZW];exact XV _
 .rw[Yq];decide
end
abbrev sg (c:Nat):V:=V.str ⟨#[c]⟩
theorem zis {H:Hp}{ra:Addr}{row:List Nat}:∀{us:AE} {gs:List (List Nat)} {i:Nat},yy H us gs->us.Nodup->us[i]?=some (.ref ra)->yy (upd H ra (.lst (row.map sg))) us (gs.set i row)
 | _,_,_,.nil,_,e=>by simp at e
 | _,_,0,.cons ⟨a,e,h⟩ t,nd,z=>by
  simp at z;subst z;exact .cons ⟨ra,rfl,zb⟩ (yy.keep (d:=ra) (λb o nb hb=>by rw[zf nb];exact hb) t λv hv e=>(WB.mp nd).1 (e ▸ hv))
 | _,_,i+1,.cons ⟨a,e,h⟩ t,nd,z=>by
  have z':=z;simp at z;have n:=WB.mp nd;refine .cons ⟨a,e,?_⟩ (zis t n.2 z);rw[zf λy=>n.1 (by rw[e,y];exact X6 z)];exact h
structure MkF (H0 H:Hp)(d:Addr)(us:AE)(gs:List (List Nat)):Prop where
 d0:H0 d=none
 hd:H d=some (.lst us)
 at_:yy H us gs
 nd:us.Nodup
 fr:∀v∈us,∃a,v=V.ref a/\a≠d/\H0 a=none
 sm:zo H0 H
theorem MkF.mono {H0 H H':Hp}{d:Addr}{us:AE}{gs:List (List Nat)}(M:MkF H0 H d us gs)(s:zo H H'):MkF H0 H' d us gs:=⟨M.d0,s _ _ M.hd,M.at_.mono s,M.nd,M.fr,M.sm.trans s⟩
def MkF.row {H0 H:Hp}{d:Addr}{us:AE}{f:Fn}{h w i:Nat}(M:MkF H0 H d us (grF f h w))(hi:i<h):∃ra,us[i]?=some (.ref ra)/\H ra=some (.lst ((rwF f w i).map sg))/\ra≠d:=by
 obtain⟨a,h1,h2⟩:=zbt M.at_ (zhg hi);obtain⟨a',e,n,_⟩:=M.fr _ (X6 h1);cases e;exact⟨a,h1,h2,n⟩
def MkF.put {H0 H:Hp}{d:Addr}{us:AE}{f:Fn}{h w i j k:Nat}{ra:Addr}(M:MkF H0 H d us (grF f h w))(hv:us[i]?=some (.ref ra)):MkF H0 (upd H ra (.lst (((rwF f w i).map sg).set j (sg k)))) d us (grF (upF f (i,j) k) h w):=by
 obtain⟨a',e,n,a0⟩:=M.fr _ (X6 hv);cases e;refine⟨M.d0,by rw[zf n.symm];exact M.hd,?_,M.nd,M.fr,λb o e=>?_⟩
 .rw[<- zpB,<- OG];exact zis M.at_ M.nd hv
 .rw[zf (zg e a0)];exact M.sm _ _ e
def zbv {H1:Hp}{z:Addr}{s:Str}{Q:VK}(hz:H1 z=none)(q:∀H2,zo H1 H2->H2 z=some (.lst (WN 8 (V.str s)))->Q (.ref z) H2):yk (Itr 0 8) (jN 0) zj0 (tC (V.str s)) Q z [none] (upd H1 z (.lst [])):=by
 refine Qj (lo:=0) (n:=8) (λi σ' H'=>∃u0:Option V,σ'=[u0]/\zo H1 H'/\H' z=some (.lst (WN i (V.str s)))) ⟨_,rfl,zc hz,zb⟩ ?_ ?_
 .rintro i σ' H2 hi ⟨u0,rfl,s2,hz2⟩;unfold jN;refine ZI ?_;refine⟨_,hz2,?_,_,rfl,λb o e=>?_,?_⟩
  .rw[PL];exact Xs (show i<8 by lia) (by decide)
  .rw[zf (zg e hz)];exact s2 _ _ e
  .rw[zb,<- List.replicate_succ']
 .rintro σ' H2 ⟨u0,rfl,s2,hz2⟩;exact q H2 s2 hz2
theorem zit {H:Hp}{v:V}:∀{us:AE} {gs:List (List Nat)},yy H us gs->v∈us->∃a o,v=V.ref a/\H a=some o
 | _,_,.nil,h=>nomatch h
 | _,_,.cons ⟨a,e,h⟩ t,hv=>by
  rcases XG.mp hv with rfl | hv
  .exact⟨a,_,e,h⟩
  .exact zit t hv
def MkF.new {H0 H:Hp}{d x:Addr}{us:AE}{gs:List (List Nat)}(M:MkF H0 H d us gs)(hx:H x=none):∀v∈us,v≠V.ref x:=λv hv e=>by
 obtain⟨a,o,e2,h⟩:=zit M.at_ hv;rw[e] at e2;cases e2;rw[hx] at h;cases h
theorem MkF.snoc {H0 H H3:Hp}{d x:Addr}{us:AE}{gs:List (List Nat)}{t:List Nat}(M:MkF H0 H d us gs)(hx:H x=none)(s:zo H H3)(hx3:H3 x=some (.lst (t.map sg))):MkF H0 (upd H3 d (.lst (us++[.ref x]))) d (us++[.ref x]) (gs++[t]):=by
 have xd:x≠d:=λe=>by
  rw[e,M.hd] at hx;cases hx
 refine⟨M.d0,zb,Paired.snoc (yy.keep (d:=d) (λb o nb e=>by rw[zf nb];exact s _ _ e) M.at_ λv hv e=>?_) ⟨x,rfl,?_⟩,WW.mpr ⟨M.nd,WB.mpr ⟨(λz=>nomatch z),Vw⟩,λa ha b hb e=>?_⟩,λv hv=>?_,λb o e=>?_⟩
 .obtain⟨a,e2,n,_⟩:=M.fr v hv;rw[e] at e2;cases e2;exact n rfl
 .rw[zf xd];exact hx3
 .rw[Wv.mp hb] at e;exact M.new hx a ha e
 .rcases XQ.mp hv with hv | hv
  .exact M.fr v hv
  .exact⟨x,Wv.mp hv,xd,M.sm.free hx⟩
 .rw[zf (zg e M.d0)];exact s _ _ (M.sm _ _ e)
def zlQ (e:Int):∃k,(k=99\/k=111)/\atI [V.str "c",V.str "o"] (e%2)=some (sg k):=by
 obtain h | h:e%2=0\/e%2=1:=by lia
 .rw[h,znu];exact⟨99,.inl rfl,rfl⟩
 .rw[h,zpw];exact⟨111,.inr rfl,rfl⟩
def YS {n j:Nat}(h:j<n):ixN n (j:Nat)=some j:=by
 unfold ixN;rw[br (by lia),VE,br (by lia)]
def zlR {α:Type}{l:List α}{i:Nat}{x:α}(nd:l.Nodup)(h:l[i]?=some x):x ∉ l.take i:=λz=>zf8 nd h (by
 rw[Vs];exact Xf _ z)
theorem zgd {R:V->AA->Prop}:∀{vs:AE} {cs:AB} {k:Nat},Xl R vs cs->Xl R (vs.eraseIdx k) (cs.eraseIdx k)
 | _,_,_,.nil=>.nil
 | _,_,0,.cons _ t=>t
 | _,_,k+1,.cons h t=>.cons h (zgd (k:=k) t)
def ziu:Sp:=λvs H Q _=>∃(c:Int) (g:Nat),vs=[.int c,.int (g:Nat)]/\g<=4/\∀(d:Addr) (us:AE) (b:Fn) (rm:AB) (H':Hp),zc7 b->rm.Sublist xF->rm.length=32-g->MkF H H' d us (grF (fB b rm) 8 8)->Q (.ref d) H'
def znz (f:Fn)(h w:Nat):grF f (h+1) w=grF f h w++[rwF f w h]:=by
 unfold grF;rw[UK,Xh];rfl
def ziv (f:Fn)(h:Nat):∀t∈grF f h 8,t.length<=8:=λt ht=>by
 obtain⟨i,_,rfl⟩:=XM.mp ht;rw[ZW];exact XV _
def sp8:∀x∈qG,x.1<8/\x.2<8:=by decide
def jb:zB ["_law_cell","_law_gone","_law_marks","_law_spots","_law_k","_law_rim","_law_row","_law_column"] ["_law_cell","_law_gone"] (zp JK):=bz rfl rfl rfl rfl (by decide+kernel)
def zeK {f1 f2:Addr}{fd1 fd2:XD}(T:Txt mg)(D:zm K mg "_law_apart" JK ["_law_cell","_law_gone"] f fd)(qD:zm K mg "_law_cells" yc ["_law_rows","_law_signs"] f1 fd1)(jH:zm K mg "_law_near" yE ["_law_one","_law_other"] f2 fd2):qa P w K mg base CX0 2 f fd ["_law_cell","_law_gone"] ziu:=by
 refine D.F.ok jb (λvs H Q E h=>?_) (λcdv A outer s H vs Q E hr h=>?_)
 .obtain⟨c,g,rfl,_⟩:=h;rfl
 .obtain⟨c,g,rfl,g4,q⟩:=h;refine⟨_,(ze (psC 2 jb.nd ["_law_row"] [none] cP (prg T.qT zj) (pgN 0) qc (pcm ["_law_column"] [none] cP (prg T.qT zj) (pgN 0) qc zZ)) (@ze _ _ _ _ _ (@qH _ _ 3 _ _ _ _ jb.nd rfl (QR rfl) (@zI _ _ _ _ (@za _ _ _ _ _ (@qp _ _ _ _ _ (@za _ _ _ _ _ zj (@za _ _ _ _ _ zj zd rfl) rfl)) (@za _ _ _ _ _ (@qp _ _ _ _ _ (@za _ _ _ _ _ zj (@za _ _ _ _ _ zj zd rfl) rfl)) (@za _ _ _ _ _ (@qp _ _ _ _ _ (@za _ _ _ _ _ zj (@za _ _ _ _ _ zj zd rfl) rfl)) (@za _ _ _ _ _ (@qp _ _ _ _ _ (@za _ _ _ _ _ zj (@za _ _ _ _ _ zj zd rfl) rfl)) zd rfl) rfl) rfl) rfl)) (by rfl) (.inl rfl)) (ze (qI WV rfl (prg T.qT zj) (pgq 4 jb.nd) (@zh _ _ _ (@Qg _ _ _ _ _ _ (@zE _ _ _ _ _ _ _ qC (@zI _ _ _ _ (@za _ _ _ _ _ zZ (@za _ _ _ _ _ zZ zd rfl) rfl)) (zL Zu (zL zeq (pvS 0) (pvS 4)) zj) (λ_ _=>rfl)) (zbz (zE qC (pvS 2) (zE qA (zE qC (pvS 3) (pvS 4) (λ_ _=>rfl)) zj (λ_ _=>rfl)) (λ_ _=>rfl)) (zE qA (zE qC (pvS 3) (pvS 4) (λ_ _=>rfl)) zj (λ_ _=>rfl)) set_list) (by rfl) (by rfl) (by rfl)))) (ze (zq8 5 jb.nd ["_law_one","_law_spots"] [none,some 3] (c1 (y:="_law_one")) (zH (pc0 (ZT T qD) hr qD (za (pvS 2) (@za _ _ _ _ _ (@zI _ _ _ _ (@za _ _ _ _ _ zZ zd rfl)) zd rfl)))) (pgN 0) (qq (zV (zaL (K:=K) (by rfl) hr.units) (pcm ["_law_spot","_law_one"] [none,some 0] cR (zbM (K:=K) (by rfl) (pvS 1)) (pgN 0) (qq (JX (K:=K) (by rfl) (pc0 (zaZ T jH) hr jH (za (pvS 1) (za (pvS 0) zd))) (λ_=>rfl))) (pvS 0)) (@zI _ _ _ _ zd) (zY _))) (pvS 0)) (ze (qI WV rfl (prg T.qT (pvS 1)) (pgq 4 jb.nd) (ze (Qg (JW WE PySem.F.slot_list_pop PySem.F.type_list_pop zjV (pvS 5) (za (zL Zu (zL YC (pvS 0) (@zL _ _ _ _ _ _ _ _ jZ zj (@zL _ _ _ _ _ _ _ _ zbj zj (pvS 4)))) (pb1 zO T.jk W2 (pvS 5))) zd)) (Je rfl (zP (pgq 6 jb.nd) (zP (pgq 7 jb.nd) jX)))) (@zh _ _ _ (@Qg _ _ _ _ _ _ zZ (zbz (zE qC (pvS 2) (pvS 6) (λ_ _=>rfl)) (pvS 7) set_list) (by rfl) (by rfl) (by rfl))))) (zh (zG (pvS 2)))))))),?_⟩;(try dsimp only[cxK,cxP,cxW]);refine⟨_,rfl,by decide,by decide,λd hd=>?_⟩;refine Qj (lo:=0) (n:=8) (λi σ' H'=>∃(u0:Option V) (us:AE),σ'=[u0]/\us.length=i/\MkF H H' d us (grF (λ_=>46) i 8)) ⟨_,[],rfl,rfl,⟨hd,zb,.nil,.nil,(λ_ h=>nomatch h),zc hd⟩⟩ ?_ ?_
  .rintro i σ' H1 hi ⟨u0,us,rfl,ul,M⟩;unfold jN;refine ZI ?_;refine⟨_,rfl,by decide,by decide,λx hx=>?_⟩;refine zbv hx λH3 s3 hx3=>⟨us,s3 _ _ M.hd,Xw (show us.length<=8 by lia) (by decide),_,us++[.ref x],rfl,by rw[X0,ul];rfl,?_⟩;rw[znz];refine M.snoc hx s3 ?_;rw[hx3,zpx];rfl
  rintro σ' H1 ⟨u0,us,rfl,ul,M1⟩;refine⟨jP,λa1 h1=>⟨jP,λa2 h2=>⟨jP,λa3 h3=>⟨jP,λa4 h4=>⟨zq4,λsp hsp=>?_⟩⟩⟩⟩⟩;have y2:=zc (o:=.tup [.int 1,.int 4]) h2;have y3:=zc (o:=.tup [.int 4,.int 1]) h3;have y4:=zc (o:=.tup [.int 4,.int 4]) h4;have y5:=zc (o:=.lst [V.ref a1,V.ref a2,V.ref a3,V.ref a4]) hsp;have s14:=((zc (o:=.tup [.int 1,.int 1]) h1).trans y2).trans (y3.trans y4);have nsp:=(M1.mono s14).new hsp;have M2:=M1.mono (s14.trans y5);have vsl:[V.ref a1,V.ref a2,V.ref a3,V.ref a4].length=4:=rfl;have hc2:Cel (upd (upd (upd (upd (upd H1 a1 (.tup [.int 1,.int 1])) a2 (.tup [.int 1,.int 4])) a3 (.tup [.int 4,.int 1])) a4 (.tup [.int 4,.int 4])) sp (.lst [V.ref a1,V.ref a2,V.ref a3,V.ref a4])) [V.ref a1,V.ref a2,V.ref a3,V.ref a4] qG:=.cons ⟨a1,rfl,y5 _ _ (y4 _ _ (y3 _ _ (y2 _ _ zb)))⟩ (.cons ⟨a2,rfl,y5 _ _ (y4 _ _ (y3 _ _ zb))⟩ (.cons ⟨a3,rfl,y5 _ _ (y4 _ _ zb)⟩ (.cons ⟨a4,rfl,y5 _ _ zb⟩ .nil)));have hsp2:upd (upd (upd (upd (upd H1 a1 (.tup [.int 1,.int 1])) a2 (.tup [.int 1,.int 4])) a3 (.tup [.int 4,.int 1])) a4 (.tup [.int 4,.int 4])) sp (.lst [V.ref a1,V.ref a2,V.ref a3,V.ref a4]) sp=some (.lst [V.ref a1,V.ref a2,V.ref a3,V.ref a4]):=zb;generalize upd (upd (upd (upd (upd H1 a1 (.tup [.int 1,.int 1])) a2 (.tup [.int 1,.int 4])) a3 (.tup [.int 4,.int 1])) a4 (.tup [.int 4,.int 4])) sp (.lst [V.ref a1,V.ref a2,V.ref a3,V.ref a4])=H2 at *
  generalize [V.ref a1,V.ref a2,V.ref a3,V.ref a4]=vs at *
  refine⟨_,rfl,by decide,by decide,?_⟩;refine qV (lo:=0) (n:=4) (λi σ H'=>∃(w4:Option V) (b:Fn),σ=[some (.int c),some (.int (g:Nat)),some (.ref d),some (.ref sp),w4,none,none,none]/\zc7 b/\MkF H H' d us (grF (fA b (qG.take i)) 8 8)/\H' sp=some (.lst vs)/\Cel H' vs qG) ⟨_,λ_=>99,rfl,λ_=>.inl rfl,M2,hsp2,hc2⟩ ?_ ?_
  .rintro i σ H3 hi ⟨w4,b,rfl,hb,M,hs3,hc3⟩;obtain⟨v,hv⟩:∃v,vs[i]?=some v:=⟨_,XX (by lia)⟩;obtain⟨x,hx,va,rfl,hva⟩:=Cel.get hc3 hv;obtain⟨x1,x2⟩:=sp8 x (X6 hx);obtain⟨ra,hra,hrow,_⟩:=M.row x1;rw[VH];obtain⟨k,hk,hat⟩:=zlQ (c/2^((i:Int)).toNat);refine⟨jP,λz hz=>⟨_,rfl,_,rfl,_,_,rfl,rfl,(by show (0:Int)<=(i:Int);lia),_,_,rfl,rfl,(by decide),z,_,_,_,rfl,rfl,SqL.of zb,hat,?_⟩⟩;have z3:=zc (o:=.lst [V.str "c",V.str "o"]) hz;have hva2:=z3 _ _ hva;refine⟨_,rfl,_,rfl,_,rfl,sp,_,_,_,rfl,rfl,SqL.of (z3 _ _ hs3),qK hv,va,_,0,_,rfl,rfl,SqT.of hva2,rfl,d,_,_,_,rfl,rfl,SqL.of (z3 _ _ M.hd),qK hra,?_⟩;refine⟨_,rfl,_,rfl,sp,_,_,_,rfl,rfl,SqL.of (z3 _ _ hs3),qK hv,va,_,1,_,rfl,rfl,SqT.of hva2,rfl,ra,_,_,x.2,rfl,rfl,z3 _ _ hrow,?_,?_⟩
   .rw[Y1,ZW];exact YS x2
   have rsp:sp≠ra:=λe=>nsp _ (X6 hra) (by rw[e]);refine⟨_,upF b x k,rfl,λy=>?_,?_,?_,?_⟩
   .exact jO (p:=λy=>y=99\/y=111) b _ _ (λ_=>hk) λ_=>hb y
   .rw[take_snoc hx,<- znw]
    .exact(M.mono z3).put hra
    .exact zlR zlL hx
   .rw[zf rsp];exact z3 _ _ hs3
   .exact Cel.into ra _ (z3 _ _ hrow) (hc3.mono z3)
  rintro σ H3 ⟨w4,b,rfl,hb,M,hs3,hc3⟩;rw[show qG.take 4=qG from rfl,zpC] at M;refine⟨_,rfl,sz_1,λla hla=>?_⟩;have z3:=zc (o:=.lst [V.str "."]) hla;have M3:=M.mono z3;refine⟨d,la,us,_,[46],rfl,M3.hd,M3.at_,by rw[Yq];exact XV _,ziv _ _,by rw[zb,zpx];rfl,λca cv H4 hca zqC hcc s4=>⟨ca,rfl,⟨_,SqL.of zqC⟩,λrmA hrm=>?_⟩⟩;have hc4:=hc3.mono (z3.trans s4);have hs4:=s4 _ _ (z3 _ _ hs3);have M4:=M3.mono s4;have cl8:cv.length<=64:=by
   rw[hcc.length];exact XZ (Cells.qB _ 0 _ (ziv _ _)) (by rw[Yq];decide)
  refine z9 (K:=K) (a:=ca) (xs:=cv) (λa=>a≠rmA) ((Cells.zw (pZ [46]) 0 (grF (fB b xF) 8 8)).map λo=>if zcJ o=true then some (zk o) else none) (fun σ=>∃u0,σ=[u0,some (.ref sp)]) hrm (λ_ h=>h) ⟨_,rfl⟩ (by rw[Y1];exact hcc.length.symm) (XZ cl8 (by decide)) (SqL.of zqC) ?_ ?_
  .rintro k x o σ H5 hx ho s5 hzn ⟨u0,rfl⟩ Y Z yes no;obtain⟨y,hy,ya,rfl,hya⟩:=Cel.get hcc hx;have eo:=jg hy ho;refine⟨_,rfl,sp,rfl,⟨_,SqL.of (s5 _ _ hs4)⟩,λz5 hz5=>?_⟩;refine z9 (K:=K) (a:=sp) (xs:=vs) (λa=>a≠z5) (qG.map λs=>if Cells.near y s=true then some (zk s) else none) (fun σ=>∃u0,σ=[u0,some (.ref ya)]) hz5 (λ_ h=>h) ⟨_,rfl⟩ (by rw[Y1];exact vsl.symm) (by rw[vsl];decide) (SqL.of (s5 _ _ hs4)) ?_ ?_
   .rintro m v o2 σ H6 hv ho2 s6 _ ⟨u1,rfl⟩ Y2 Z2 yes2 no2;obtain⟨s,hs,sa,rfl,hsa⟩:=Cel.get hc4 hv;have eo2:=jg hs ho2;have s46:=s5.trans s6;refine⟨_,rfl,_,rfl,ya,sa,y,s,rfl,s46 _ _ hya,s46 _ _ hsa,_,rfl,?_⟩;by_cases hp:Cells.near y s=true
    .rw[br hp] at eo2;exact ju hp ⟨_,rfl,yes2 _ _ _ _ eo2 ⟨_,rfl⟩ (zo.refl _) (yg.rdn ⟨sa,rfl,s46 _ _ hsa⟩)⟩
    .rw[bw hp] at eo2;exact jd (XC.mpr hp) (no2 _ _ eo2 ⟨_,rfl⟩ (zo.refl _))
   .rintro ys5 H6 s6 hz6 hr6;rw[zR] at hr6;have hc6:Cel H6 ys5 (qG.filter λs=>Cells.near y s):=zq.cel hr6;refine⟨Jy,λe he=>?_⟩;have y7:=zc (o:=.lst []) he;refine⟨.list ((qG.filter λs=>Cells.near y s).map zk),.list [],.lst (SqL.of (y7 _ _ hz6)) (zc3 (hc6.mono y7)),.lst (SqL.of zb) .nil,zcf _ [],_,rfl,?_⟩;have ee:(if true=true then !PyData.eqv (.list ((qG.filter λs=>Cells.near y s).map zk)) (.list []) else WL (.list ((qG.filter λs=>Cells.near y s).map zk)) (.list []))=zcJ y:=congrArg (λb=>!b) (eq_nil _);rw[ee];have s67:=s6.trans y7;by_cases hp:zcJ y=true
    .rw[br hp] at eo;exact ju hp ⟨_,rfl,yes _ _ _ _ eo ⟨_,rfl⟩ s67 (yg.rdn ⟨ya,rfl,s67 _ _ (s5 _ _ hya)⟩)⟩
    .rw[bw hp] at eo;exact jd (XC.mpr hp) (no _ _ eo ⟨_,rfl⟩ s67)
  rintro rv H5 s5 hrm5 hr5;rw[zR] at hr5;have hc5:Cel H5 rv xF:=by
   have e:Cells.zw (pZ [46]) 0 (grF (fB b xF) 8 8)=Cells.zw (pZ [46]) 0 (grF f0 8 8):=zcH λx _ _=>by
    unfold fB f0;by_cases hx:x∈qG
    .rw[br hx,br hx];rcases hb x with e | e<;>rw[e]<;>rfl
    .rw[bw hx,bw hx,bw λz=>z.2 z.1]
   rw[e] at hr5;exact zq.cel hr5
  have nrm:=M4.new hrm;have M5:=M4.mono s5;refine⟨_,rfl,_,rfl,by lia,by lia,?_⟩;rw[VE];refine qV (lo:=0) (n:=g) (λi σ H'=>∃(w4 w6 w7:Option V) (rv:AE) (rm:AB),σ=[some (.int c),some (.int (g:Nat)),some (.ref d),some (.ref sp),w4,some (.ref rmA),w6,w7]/\rm.Sublist xF/\rm.length=32-i/\MkF H H' d us (grF (fB b rm) 8 8)/\H' rmA=some (.lst rv)/\Cel H' rv rm) ⟨_,_,_,rv,xF,rfl,List.Sublist.refl _,znv,M5,hrm5,hc5⟩ ?_ ?_
  .intro i σ H6 hi hh;refine GS.via λGG hGG=>?_;obtain⟨w4,w6,w7,rv,rm,rfl,sl,rl,M6,hrm6,hc6⟩:=hh;refine hGG ?_;have rvl:rv.length=32-i:=by rw[hc6.length,rl]
   obtain⟨n,hn,nl⟩:∃n:Nat,c/(16+9*(0+(i:Int)))%((rv.length:Nat):Int)=((n:Nat):Int)/\n<rv.length:=by
    have a:=Int.emod_nonneg (c/(16+9*(0+(i:Int)))) (show ((rv.length:Nat):Int)≠0 by lia);have b:=Int.emod_lt_of_pos (c/(16+9*(0+(i:Int)))) (show (0:Int)<((rv.length:Nat):Int) by lia);exact⟨(c/(16+9*(0+(i:Int)))%((rv.length:Nat):Int)).toNat,by lia,by lia⟩
   obtain⟨v,hv⟩:∃v,rv[n]?=some v:=⟨_,XX nl⟩;obtain⟨x,hx,va,rfl,hva⟩:=Cel.get hc6 hv;obtain⟨x1,x2,_,_⟩:=zbu.mp (sl.subset (X6 hx));refine⟨_,rfl,.inl ⟨rfl,_,SqL.of hrm6⟩,_,rfl,_,rfl,_,_,rfl,rfl,mulL (by decide) (by decide),_,_,rfl,rfl,_,_,rfl,rfl,zaK.small (by show (0:Int)<16+9*(0+(i:Int));lia) (by show 16+9*(0+(i:Int))<1073741824;lia),?_⟩;refine⟨_,rfl,rmA,_,rfl,.inl (SqL.of hrm6),_,_,rfl,rfl,(by lia),rmA,_,_,n,_,rfl,rfl,hrm6,?_,?_,?_,hv,?_⟩
   .rw[hn];lia
   .rw[hn];lia
   .rw[hn];exact(zd5 (YS nl)).1
   have hva2:upd H6 rmA (.lst (rv.eraseIdx n)) va=some (.tup [.int (x.1:Nat),.int (x.2:Nat)]):=by
    rw[zf λe=>?_]
    .exact hva
    .rw[e,hrm6] at hva;cases hva
   obtain⟨ra,hra,hrow,_⟩:=M6.row x1;have rra:ra≠rmA:=λe=>nrm _ (X6 hra) (by rw[e]);have drm:d≠rmA:=λe=>by
    have:=M4.hd;rw[e,hrm] at this;cases this
   refine⟨va,_,rfl,SqT.of hva2,rfl,_,_,rfl,_,_,rfl,rfl,?_⟩;refine⟨_,rfl,_,rfl,d,_,_,_,rfl,rfl,SqL.of (by rw[zf drm];exact M6.hd),qK hra,_,rfl,ra,_,_,x.2,rfl,rfl,(by rw[zf rra];exact hrow),?_,?_⟩
   .rw[Y1,ZW];exact YS x2
   have M7:MkF H (upd H6 rmA (.lst (rv.eraseIdx n))) d us (grF (fB b rm) 8 8):=⟨M6.d0,by rw[zf drm];exact M6.hd,yy.keep (d:=rmA) (λb o nb e=>by rw[zf nb];exact e) M6.at_ nrm,M6.nd,M6.fr,λb o e=>by
    rw[zf (zg e (M4.sm.free hrm))];exact M6.sm _ _ e⟩
   refine⟨_,_,_,rv.eraseIdx n,rm.eraseIdx n,rfl,(List.eraseIdx_sublist _ _).trans sl,?_,?_,?_,?_⟩
   .rw[RS (by rw[rl];lia),rl];lia
   .rw[<- znx sl hx,show V.str "#"=sg 35 by rw[xW]];exact M7.put hra
   .rw[zf rra.symm];exact zb
   .exact Cel.into ra _ (by rw[zf rra];exact hrow) (Cel.into rmA _ hrm6 (zgd hc6))
  .rintro σ H6 ⟨w4,w6,w7,rv,rm,rfl,sl,rl,M6,hrm6,hc6⟩;exact⟨_,rfl,q d us b rm H6 hb sl rl M6⟩
def fR:Fn:=λx=>if x.1=0 then 99 else if x.1=1 then 46 else 35
def zqD:Rw fR 0:=by
 refine⟨λ_=>rfl,λ_=>rfl,λ_ h=>absurd h (Ub _),λ_ _=>rfl,λx=>?_⟩;unfold fR;split
 .decide
 .split<;>decide
def zqE:grF fR 3 8=[WN 8 99,WN 8 46,WN 8 35]:=rfl
def zge:Sp:=λvs H Q _=>∃(c:Int) (m:Nat),vs=[.int c,.int (m:Nat)]/\m<=8/\∀(d:Addr) (us:AE) (f:Fn) (H':Hp),Rw f m->MkF H H' d us (grF f 3 8)->Q (.ref d) H'
def yv:zB ["_law_cell","_law_many","_law_rows","_law_k"] ["_law_cell","_law_many"] (zp xo):=bz rfl rfl rfl rfl (by decide+kernel)
def zcM (T:Txt mg)(D:zm K mg "_law_rows_of" xo ["_law_cell","_law_many"] f fd):qa P w K mg base CX0 1 f fd ["_law_cell","_law_many"] zge:=by
 refine D.F.ok yv (λvs H Q E h=>?_) (λcdv A outer s H vs Q E hr h=>?_)
 .obtain⟨c,g,rfl,_⟩:=h;rfl
 .obtain⟨c,m,rfl,m8,q⟩:=h;refine⟨_,(ze (jo 2 yv.nd (zI (za (pcm ["_law_column"] [none] cP (prg T.qT zj) (pgN 0) qc zZ) (za (pcm ["_law_column"] [none] cP (prg T.qT zj) (pgN 0) qc zZ) (za (pcm ["_law_column"] [none] cP (prg T.qT zj) (pgN 0) qc zZ) zd))))) (ze (qI WV rfl (prg T.qT (pvS 1)) (pgq 3 yv.nd) (@zh _ _ _ (@Qg _ _ _ _ _ _ zZ (zbz (zE qC (pvS 2) zj (λ_ _=>rfl)) (pvS 3) set_list) (by rfl) (by rfl) (by rfl)))) (ze (qI WV rfl (prg T.qT zj) (pgq 3 yv.nd) (@ze _ _ _ _ _ (@Qg _ _ _ _ _ _ (@zE _ _ _ _ _ _ _ qC (@zI _ _ _ _ (@za _ _ _ _ _ zZ (@za _ _ _ _ _ zZ zd rfl) rfl)) (zL Zu (zL zeq (pvS 0) (pvS 3)) zj) (λ_ _=>rfl)) (zbz (zE qC (pvS 2) zj (λ_ _=>rfl)) (pvS 3) set_list) (by rfl) (by rfl) (by rfl)) (zh (je (zV zgL (pvS 3) (pvS 1) (zY _)) (@zh _ _ _ (@Qg _ _ _ _ _ _ (@zE _ _ _ _ _ _ _ qC (@zI _ _ _ _ (@za _ _ _ _ _ zZ (@za _ _ _ _ _ zZ zd rfl) rfl)) (zL Zu (zL zeq (pvS 0) (zL jZ (pvS 3) zj)) zj) (λ_ _=>rfl)) (zbz (zE qC (pvS 2) zj (λ_ _=>rfl)) (pvS 3) set_list) (by rfl) (by rfl) (by rfl))) qf)))) (zh (zG (pvS 2)))))),?_⟩;(try dsimp only[cxK,cxP,cxW]);refine⟨_,rfl,by decide,by decide,λa1 h1=>zbv h1 λH1 s1 k1=>⟨_,rfl,by decide,by decide,λa2 h2=>zbv h2 λH2 s2 k2=>⟨_,rfl,by decide,by decide,λa3 h3=>zbv h3 λH3 s3 k3=>⟨zet,λd hd=>?_⟩⟩⟩⟩;have y4:=zc (o:=.lst [V.ref a1,V.ref a2,V.ref a3]) hd;have n12:V.ref a1≠V.ref a2:=λe=>by
   cases e;rw[k1] at h2;cases h2
  have n13:V.ref a1≠V.ref a3:=λe=>by
   cases e;rw[s2 _ _ k1] at h3;cases h3
  have n23:V.ref a2≠V.ref a3:=λe=>by
   cases e;rw[k2] at h3;cases h3
  have k13:=s3 _ _ (s2 _ _ k1);have k23:=s3 _ _ k2;have nd:∀a o,H3 a=some o->a≠d:=λa o h e=>by
   rw[e,hd] at h;cases h
  have s03:=s1.trans (s2.trans s3);have M0:MkF H (upd H3 d (.lst [V.ref a1,V.ref a2,V.ref a3])) d [V.ref a1,V.ref a2,V.ref a3] (grF fR 3 8):=by
   rw[znu] at k13;rw[zpx] at k23;rw[xW] at k3;rw[zqE];refine⟨s03.free hd,zb,.cons ⟨a1,rfl,y4 _ _ k13⟩ (.cons ⟨a2,rfl,y4 _ _ k23⟩ (.cons ⟨a3,rfl,y4 _ _ k3⟩ .nil)),by simp[n12,n13,n23],λv hv=>?_,s03.trans y4⟩;rcases XG.mp hv with rfl | hv
   .exact⟨a1,rfl,nd _ _ k13,h1⟩
   .rcases XG.mp hv with rfl | hv
    .exact⟨a2,rfl,nd _ _ k23,s1.free h2⟩
    .exact⟨a3,Wv.mp hv,nd _ _ k3,(s1.trans s2).free h3⟩
  generalize upd H3 d (.lst [V.ref a1,V.ref a2,V.ref a3])=H4 at *
  generalize [V.ref a1,V.ref a2,V.ref a3]=us at *
  refine⟨_,rfl,_,rfl,by lia,by lia,?_⟩;rw[VE];refine qV (lo:=0) (n:=m) (λi σ H'=>∃(w3:Option V) (f:Fn),σ=[some (.int c),some (.int (m:Nat)),some (.ref d),w3]/\Rw f i/\MkF H H' d us (grF f 3 8)) ⟨_,fR,rfl,zqD,M0⟩ ?_ ?_
  .rintro i σ H5 hi ⟨w3,f,rfl,Y,M⟩;rw[VH];obtain⟨ra,hra,hrow,_⟩:=M.row (show 2<3 by decide);refine⟨_,rfl,d,_,2,_,rfl,rfl,SqL.of M.hd,qK (j:=2) hra,_,rfl,ra,_,_,i,rfl,rfl,hrow,?_,?_⟩
   .rw[Y1,ZW];exact YS (by lia)
   refine⟨_,upF f (2,i) 99,rfl,Y.grow rfl,?_⟩;rw[znu];exact M.put hra
  rintro σ H5 ⟨w3,f,rfl,Y,M⟩;refine⟨_,rfl,by decide,by decide,?_⟩;refine qV (lo:=0) (n:=8) (λi σ H'=>∃(w3:Option V) (f:Fn),σ=[some (.int c),some (.int (m:Nat)),some (.ref d),w3]/\Rw f m/\MkF H H' d us (grF f 3 8)) ⟨_,f,rfl,Y,M⟩ ?_ ?_
  .rintro i σ H6 hi ⟨w3,f,rfl,Y,M⟩;rw[VH];obtain⟨k,hk,hat⟩:=zlQ (c/2^((i:Int)).toNat);have sk:qb k=true:=by rcases hk with rfl | rfl<;>rfl
   refine⟨jP,λz hz=>⟨_,rfl,_,rfl,_,_,rfl,rfl,(by show (0:Int)<=(i:Int);lia),_,_,rfl,rfl,(by decide),z,_,_,_,rfl,rfl,SqL.of zb,hat,?_⟩⟩;have N:=M.mono (zc (o:=.lst [V.str "c",V.str "o"]) hz);obtain⟨ra,hra,hrow,_⟩:=N.row (show 0<3 by decide);refine⟨_,rfl,d,_,0,_,rfl,rfl,SqL.of N.hd,qK (j:=0) hra,_,rfl,ra,_,_,i,rfl,rfl,hrow,?_,?_⟩
   .rw[Y1,ZW];exact YS (by lia)
   have M7:=N.put (j:=i) (k:=k) hra;have Y7:=Y.p0 (k:=i) sk;generalize upF f (0,i) k=f7 at *
   generalize upd (upd H6 z (.lst [V.str "c",V.str "o"])) ra (.lst (((rwF f 8 0).map sg).set i (sg k)))=H7 at *
   refine⟨_,rfl,_,rfl,_,_,rfl,rfl,_,rfl,?_⟩;by_cases hm:i<m
   .refine ju (bu (by lia)) ?_;obtain⟨k,hk,hat⟩:=zlQ (c/2^(((i:Int)+8)).toNat);have sk:qb k=true:=by rcases hk with rfl | rfl<;>rfl
    refine⟨jP,λz hz=>⟨_,rfl,_,rfl,_,_,rfl,rfl,_,_,rfl,rfl,(by show (0:Int)<=(i:Int)+8;lia),_,_,rfl,rfl,(by decide),z,_,_,_,rfl,rfl,SqL.of zb,hat,?_⟩⟩;have N:=M7.mono (zc (o:=.lst [V.str "c",V.str "o"]) hz);obtain⟨ra,hra,hrow,_⟩:=N.row (show 2<3 by decide);refine⟨_,rfl,d,_,2,_,rfl,rfl,SqL.of N.hd,qK (j:=2) hra,_,rfl,ra,_,_,i,rfl,rfl,hrow,?_,?_⟩
    .rw[Y1,ZW];exact YS (by lia)
    exact⟨_,upF f7 (2,i) k,rfl,Y7.p2 sk hm,N.put hra⟩
   .exact jd (bg (by lia)) ⟨_,f7,rfl,Y7,M7⟩
  .rintro σ H6 ⟨w3,f,rfl,Y,M⟩;exact⟨_,rfl,q d us f H6 Y M⟩
structure Facts (K:XW)(C SE C1 C2 C3 C4 C5 C6 C7 C8 C9:Addr)(b1 b2:Bool):Prop where
 fd:Z5 K C
 mro:Wc K C (.ref SE)=some true
 k1:XJ K (.ref C) (.ref C1)=some b1
 k2:XJ K (.ref C) (.ref C2)=some b2
 k3:XJ K (.ref C) (.ref C3)=some false
 k4:XJ K (.ref C) (.ref C4)=some false
 k5:XJ K (.ref C) (.ref C5)=some false
 k6:XJ K (.ref C) (.ref C6)=some false
 k7:XJ K (.ref C) (.ref C7)=some false
 k8:XJ K (.ref C) (.ref C8)=some false
 k9:XJ K (.ref C) (.ref C9)=some false
 kv:XJ K (.ref C) (.type "ValueError")=some true
def znA:U4 "ValueError"=some (.type "ValueError"):=by with_unfolding_all rfl
structure zqF (K:XW)(mg:Str->Option X8)(C0 C1 C2 C3 C4 C5 C6 C7 C8 C9:Addr):Prop where
 o0:ql K mg "StoneError" C0
 o1:ql K mg "TooGreat" C1
 o2:ql K mg "NoLaying" C2
 o3:ql K mg "NoBoard" C3
 o4:ql K mg "NoCount" C4
 o5:ql K mg "NoCell" C5
 o6:ql K mg "NoText" C6
 o7:ql K mg "NoRow" C7
 o8:ql K mg "NoNumber" C8
 o9:ql K mg "NoTable" C9
 fg:Facts K C1 C0 C1 C2 C3 C4 C5 C6 C7 C8 C9 true false
 fl:Facts K C2 C0 C1 C2 C3 C4 C5 C6 C7 C8 C9 false true
def Comes (rs:AD)(n:Int)(t:Str):Prop:=(t="great"/\(30<(nbC rs).length\/∀gs,Parts.Good (clA rs) (zK rs) gs->∃g∈gs,14<g.length))\/((nbC rs).length<=30/\(zx rs).length<=14/\((t="laying"/\zct rs n=0)\/(t="told"/\∃L,Lay rs n L)))
def zlS:Sp:=λvs H Q _=>∃(p l:Addr) (rs:AD) (n:Int) (t:Str),vs=[.ref p]/\qF H p l rs n/\Rows bd.cps.toList rs/\0<=n/\Comes rs n t/\∀H',zo H H'->Q (.str t) H'
section
variable {P:Xm}{w:WZ}{K:XW}{mg:Str->Option X8}{base:Heap}{f:Addr}{fd:XD}{jai jaj jad jaa jac jab jah jaf jae jag:Addr}
def zeL {gs:List AB}(h:∃g∈gs,14<g.length)(a:∀g∈gs,g.length<=14):False:=by
 obtain⟨g,hg,l⟩:=h;have:=a g hg;lia
def qS:zB ["_law_board_here","_law_error","e","_law_some"] ["_law_board_here"] (zp xj):=bz rfl rfl rfl rfl (by decide+kernel)
def zcN {f1:Addr}{fd1:XD}(T:Txt mg)(Z:Prog K mg)(U:zqF K mg jai jaj jad jaa jac jab jah jaf jae jag)(D:zm K mg "_law_outcome" xj ["_law_board_here"] f fd)(jI:zm K mg "thoughts" Jp ["board"] f1 fd1):qa P w K mg base CX0 9 f fd ["_law_board_here"] zlS:=by
 obtain⟨jas,jat,jan,jak,jam,jal,jar,jap,jao,jaq,FG,FL⟩:=U;have  Qx:qa P w K mg base (CXE P w) 8 f1 fd1 ["board"] (Qw jaj jad):=zaX T Z jan jat jI;refine D.F.ok qS (λvs H Q E h=>?_) (λcdv A outer s H vs Q E hr h=>?_)
 .obtain⟨p,l,rs,n,t,rfl,_⟩:=h;rfl
 .obtain⟨p,l,rs,n,t,rfl,b,R,n0,cm,qt⟩:=h;refine⟨_,(@ze _ _ _ _ _ (@qH _ _ 1 _ _ _ _ qS.nd rfl (Vz rfl) zd2 (by rfl) (.inr rfl)) (QH (zmw (j:=2) rfl rfl Qx (hr.mono (by decide)) (by rfl) jI.g jI.F.kp jI.b qS.nd rfl rfl (by rfl) jas (za (pvS 0) zd) (λ_=>(zh (jo 1 qS.nd (pvS 2))))) (ze (je (zV zoy (pvS 1) zd2 (zY _)) (@zh _ _ _ (@zG _ _ _ _ zZ)) qf) (ze (jo 3 qS.nd (zI (za (pb2 (qu (K:=K) (by rfl)) T.qw WS (pvS 1) (pgx jak)) (za (pb2 (qu (K:=K) (by rfl)) T.qw WS (pvS 1) (pgx jal)) (za (pb2 (qu (K:=K) (by rfl)) T.qw WS (pvS 1) (pgx jam)) zd))))) (ze (jo 3 qS.nd (zL Zo (pvS 3) (zI (za (pb2 (qu (K:=K) (by rfl)) T.qw WS (pvS 1) (pgx jao)) (za (pb2 (qu (K:=K) (by rfl)) T.qw WS (pvS 1) (pgx jap)) (za (pb2 (qu (K:=K) (by rfl)) T.qw WS (pvS 1) (pgx jaq)) zd)))))) (ze (jo 3 qS.nd (zL Zo (pvS 3) (zI (za (pb2 (qu (K:=K) (by rfl)) T.qw WS (pvS 1) (pgx jar)) (za (zoq (pb2 (qu (K:=K) (by rfl)) T.qw WS (pvS 1) (zl8 (v:=.ty "ValueError") (by rfl) T.zex znA (by rfl)))) zd))))) (ze (je (PW.pt (zpN (@zV _ _ _ _ _ _ _ _ zdj zeQ (pvS 3) (by rfl)) (zon (zV YX (pb2 (qu (K:=K) (by rfl)) T.qw WS (pvS 1) (pgx jat)) (pb2 (qu (K:=K) (by rfl)) T.qw WS (pvS 1) (pgx jan)) (zY _))))) (@zh _ _ _ (@zG _ _ _ _ zZ)) qf) (@zh _ _ _ (@zG _ _ _ _ (@zE _ _ _ _ _ _ _ qC (@zI _ _ _ _ (@za _ _ _ _ _ zZ (@za _ _ _ _ _ zZ zd rfl) rfl)) (pt1 zdd T.zkV SO (pb2 (qu (K:=K) (by rfl)) T.qw WS (pvS 1) (pgx jat))) (λ_ _=>rfl))))))))))),?_⟩;(try dsimp only[cxK,cxP,cxW]);refine⟨fun σ' H'=>(σ'=[some (.ref p),some .non,none,none]/\Q (.str "told") H')\/(∃(e C:Addr) (g:Bool),σ'=[some (.ref p),some (.ref e),none,none]/\H' e=some (exO e C)/\Facts K C jai jaj jad jaa jac jab jah jaf jae jag g (!g)/\∀H2,zo H' H2->Q (.str (if g=true then "great" else "laying")) H2),?_,?_⟩
  .have eg:t="great"->∀(H':Hp) (s1:zo H H') (e:Addr) (hn:H' e=none),(∃(e' C:Addr) (g:Bool),[some (.ref p),some (.ref e),none,none]=[some (.ref p),some (V.ref e'),none,none]/\upd H' e (exO e jaj) e'=some (exO e' C)/\Facts K C jai jaj jad jaa jac jab jah jaf jae jag g (!g)/\∀H2,zo (upd H' e (exO e jaj)) H2->Q (.str (if g=true then "great" else "laying")) H2):=λht H' s1 e hn =>
    ⟨e,jaj,true,rfl,zb,FG,λH2 s2=>ht ▸ qt H2 ((s1.trans (zc hn)).trans s2)⟩
   have el:t="laying"->∀(H':Hp) (s1:zo H H') (e:Addr) (hn:H' e=none),(∃(e' C:Addr) (g:Bool),[some (.ref p),some (.ref e),none,none]=[some (.ref p),some (V.ref e'),none,none]/\upd H' e (exO e jad) e'=some (exO e' C)/\Facts K C jai jaj jad jaa jac jab jah jaf jae jag g (!g)/\∀H2,zo (upd H' e (exO e jad)) H2->Q (.str (if g=true then "great" else "laying")) H2):=λht H' s1 e hn =>
    ⟨e,jad,false,rfl,zb,FL,λH2 s2=>ht ▸ qt H2 ((s1.trans (zc hn)).trans s2)⟩
   have g1:30<(nbC rs).length->t="great":=λz=>cm.elim (λy=>y.1) λy=>absurd y.1 (by lia);have g2:∀gs,Parts.Good (clA rs) (zK rs) gs->(∃g∈gs,14<g.length)->t="great":=λgs G z=>cm.elim (λy=>y.1) λy=>(zeL z (za1 y.2.1 G)).elim;refine⟨_,rfl,p,l,rs,n,rfl,b,R,n0,λz H' s1=>⟨jaj,rfl,FG.mro,λe hn=>⟨_,rfl,.inr (eg (g1 z) H' s1 e hn)⟩⟩,λz30=>⟨λgs G z H' s1=>⟨jaj,rfl,FG.mro,λe hn=>⟨_,rfl,.inr (eg (g2 gs G z) H' s1 e hn)⟩⟩,λgs G a14=>?_⟩⟩;have c2:(zx rs).length<=14/\((t="laying"/\zct rs n=0)\/(t="told"/\∃L,Lay rs n L)):=cm.elim (λy=>y.2.elim (λx=>absurd x (by lia)) λx=>(zeL (x gs G) a14).elim) λy=>y.2;refine⟨λz H' s1=>⟨jad,rfl,FL.mro,λe hn=>⟨_,rfl,.inr (el ?_ H' s1 e hn)⟩⟩,λz=>?_⟩
   .rcases c2.2 with x | ⟨_,L,hL⟩
    .exact x.1
    .exact absurd z hL.count
   .rcases c2.2 with x | ⟨et,L,hL⟩
    .exact absurd x.2 z
    .exact⟨L,hL,XZ c2.1 (by decide),λ_ _ _ _ _ _ _ _ _ _ H' _ _ _ _ _ s1=>.inl ⟨rfl,et ▸ qt H' s1⟩⟩
  .rintro σ' H' (⟨rfl,q⟩ | ⟨e,C,g,rfl,he,F,q⟩)
   .exact⟨_,rfl,rfl,_,rfl,ju rfl q⟩
   .refine⟨_,rfl,rfl,_,rfl,jd rfl ?_⟩;refine⟨_,rfl,e,_,_,_,rfl,he,F.fd,.inl ⟨_,rfl⟩,F.k3,_,rfl,e,_,_,_,rfl,he,F.fd,.inl ⟨_,rfl⟩,F.k5,_,rfl,e,_,_,_,rfl,he,F.fd,.inl ⟨_,rfl⟩,F.k4,zet,λd1 hd1=>?_⟩;have s1:=zc (o:=.lst [.bl false,.bl false,.bl false]) hd1;have he1:=s1 _ _ he;refine⟨_,rfl,_,rfl,e,_,_,_,rfl,he1,F.fd,.inl ⟨_,rfl⟩,F.k8,_,rfl,e,_,_,_,rfl,he1,F.fd,.inl ⟨_,rfl⟩,F.k7,_,rfl,e,_,_,_,rfl,he1,F.fd,.inl ⟨_,rfl⟩,F.k9,zet,λd2 hd2=>⟨d1,d2,_,_,rfl,rfl,zc hd2 _ _ zb,zb,zq5,λd3 hd3=>?_⟩⟩;have s3:=(s1.trans (zc (o:=.lst [.bl false,.bl false,.bl false]) hd2)).trans (zc (o:=.lst ([.bl false,.bl false,.bl false]++[.bl false,.bl false,.bl false])) hd3);have he3:=s3 _ _ he;refine⟨_,rfl,_,rfl,e,_,_,_,rfl,he3,F.fd,.inl ⟨_,rfl⟩,F.k6,_,rfl,e,_,_,_,rfl,he3,F.fd,.inr ⟨_,rfl⟩,F.kv,true,rfl,jP,λd4 hd4=>⟨d3,d4,_,_,rfl,rfl,zc hd4 _ _ zb,zb,(by show 8<=Xq;decide),λd5 hd5=>?_⟩⟩;have s5:=(s3.trans (zc (o:=.lst [.bl false,.bl false]) hd4)).trans (zc (o:=.lst (([.bl false,.bl false,.bl false]++[.bl false,.bl false,.bl false])++[.bl false,.bl false])) hd5);have he5:=s5 _ _ he;refine⟨_,rfl,d5,_,rfl,.inl (SqL.of zb),rfl,rfl,_,rfl,jd rfl ?_⟩;refine⟨_,rfl,e,_,_,_,rfl,he5,F.fd,.inl ⟨_,rfl⟩,F.k1,_,rfl,e,_,_,_,rfl,he5,F.fd,.inl ⟨_,rfl⟩,F.k2,rfl,_,rfl,?_⟩;refine jd (bg λe=>by cases g<;>cases e) ?_;refine⟨jP,λd6 hd6=>⟨_,rfl,e,_,_,_,rfl,zc hd6 _ _ he5,F.fd,.inl ⟨_,rfl⟩,F.k1,.inr ⟨g,rfl,?_⟩⟩⟩;have s6:=s5.trans (zc (o:=.lst [V.str "laying",V.str "great"]) hd6);cases g with
    | true=>exact⟨d6,_,_,_,rfl,rfl,SqL.of zb,rfl,q _ s6⟩
    | false=>exact⟨d6,_,_,_,rfl,rfl,SqL.of zb,rfl,q _ s6⟩
end
def zgf (K:XW):Sp:=λvs H Q _=>∃(a:Addr) (ns:List Int),vs=[.ref a]/\SqL K H a (ns.map V.int)/\ns.length<=63/\∀H',Q (.bl true) H'
section
variable {P:Xm}{w:WZ}{K:XW}{mg:Str->Option X8}{base:Heap}{f:Addr}{fd:XD}{jai jaj jad jaa jac jab jah jaf jae jag:Addr}
def zjJ (g mo:Nat):Str:=if g<2 then "great" else if 0<mo then "laying" else "told"
def zlT {b:Fn}{rm:AB}{rs:AD}{g mo:Nat}(hb:zc7 b)(sl:rm.Sublist xF)(rl:rm.length=32-g)(g4:g<=4)(h:codes rs=xE (grF (fB b rm) 8 8)):Comes rs ((((stM (grF (fB b rm) 8 8)).length:Nat):Int)+(mo:Nat)) (zjJ g mo):=by
 have nb:=zoa hb sl h;have hL:=(zcI (by decide) (by decide) (by decide) (by decide) (zf9 hb rm):Yp (grF (fB b rm) 8 8)).lay h;unfold Comes zjJ;by_cases h2:g<2
 .rw[br h2];exact .inl ⟨rfl,.inl (by lia)⟩
 .rw[bw h2];refine .inr ⟨by lia,by rw[zai hb h];decide,?_⟩;by_cases h0:0<mo
  .rw[br h0];exact .inl ⟨rfl,(zgb hb sl (by lia) h).none hL (by lia)⟩
  .rw[bw h0,show mo=0 by lia];exact .inr ⟨rfl,_,by simpa using hL⟩
def yJ:zB ["_law_script","_law_cell","_law_gone","_law_marks","_law_rows","_law_stones","_law_more","_law_due","_law_finding","_law_many","_law_board_here"] ["_law_script"] (zp zdF):=bz rfl rfl rfl rfl (by decide+kernel)
def znB (T:Txt mg)(Z:Prog K mg)(U:zqF K mg jai jaj jad jaa jac jab jah jaf jae jag){f:Addr}{fd:XD}(D:zm K mg "law" zdF ["_law_script"] f fd):qa P w K mg base CX0 10 f fd ["_law_script"] (zgf K):=by
 obtain⟨zl4,zlU,xu⟩:=Z.law_cell_at;obtain⟨zpE,zob,jH⟩:=Z.law_near;obtain⟨zoc,znC,qD⟩:=Z.law_cells;obtain⟨zod,znD,Ys⟩:=Z.law_board;obtain⟨zl5,zlV,JU⟩:=Z.law_outcome;obtain⟨zoe,znE,za2⟩:=Z.law_apart;obtain⟨zl6,zlW,Qd⟩:=Z.law_rows_of;obtain⟨zpF,zof,jI⟩:=Z.thoughts;have  JV:qa P w K mg base CX0 1 _ _ ["_law_script","_law_k"] (zkY K):=zcc T xu;have  zgg:qa P w K mg base CX0 2 _ _ ["_law_cell","_law_gone"] ziu:=zeK T za2 qD jH;have  zc8:qa P w K mg base CX0 1 _ _ ["_law_cell","_law_many"] zge:=zcM T Qd;have  za3:qa P w K mg base CX0 2 _ _ ["_law_marks"] zf7:=zeI T Ys jH qD;have  za4:qa P w K mg base CX0 1 _ _ ["_law_rows","_law_signs"] zf4:=ZT T qD;have  Qe:qa P w K mg base CX0 9 _ _ ["_law_board_here"] zlS:=zcN T Z U JU jI;have  Qx:qa P w K mg base (CXE P w) 8 _ _ ["board"] (Qw jaj jad):=zaX T Z U.o2 U.o1 jI;refine D.F.ok yJ (λvs H Q E h=>?_) (λcdv A outer s H vs Q E hr h=>?_)
 .obtain⟨a,ns,rfl,_⟩:=h;rfl
 .obtain⟨a,ns,rfl,hS,nl,q⟩:=h;refine⟨_,(ze (jo 1 yJ.nd (pc0 JV hr xu (za (pvS 0) (@za _ _ _ _ _ zj zd rfl)))) (ze (jo 2 yJ.nd (zL Zu (pvS 1) zj)) (ze (jo 3 yJ.nd (pc0 zgg hr za2 (za (pc0 JV hr xu (za (pvS 0) (@za _ _ _ _ _ zj zd rfl))) (za (pvS 2) zd)))) (ze (Qg (pc0 za3 hr Ys (za (pvS 3) zd)) (Je rfl (zP (pgq 4 yJ.nd) (zP (pgq 5 yJ.nd) jX)))) (ze (jo 6 yJ.nd (zL Zu (zL YC (pvS 1) zj) zj)) (@ze _ _ _ _ _ (@qH _ _ 7 _ _ _ _ yJ.nd rfl (Vz rfl) zZ (by rfl) (.inr rfl)) (QH (je (zV zes (pvS 6) zj (zY _)) (@zh _ _ _ (@qH _ _ 7 _ _ _ _ yJ.nd rfl (Vz rfl) zZ (by rfl) (.inr rfl))) qf) (QH (je (zV zgL (pvS 2) zj (zY _)) (@zh _ _ _ (@qH _ _ 7 _ _ _ _ yJ.nd rfl (Vz rfl) zZ (by rfl) (.inr rfl))) qf) (ze (je (zV zeS (pc0 Qe hr JU (za (qp (za (pvS 4) (za (zL jZ (pvS 5) (pvS 6)) zd))) zd)) (pvS 7) (zY _)) (@zh _ _ _ (@zG _ _ _ _ zeQ)) qf) (ze (je (zV YX (pvS 7) zZ (zY _)) (ze (jo 8 yJ.nd (zE qA (pcX Qx hr jI (za (qp (za (pvS 4) (za (pvS 5) zd))) zd)) zj (λ_ _=>rfl))) (zh (je (zV (yC hr.units) (pvS 8) (qp (za (pc0 za4 hr qD (za (pvS 3) (@za _ _ _ _ _ (@zI _ _ _ _ (@za _ _ _ _ _ zZ zd rfl)) zd rfl))) (za (pc0 za4 hr qD (za (pvS 3) (@za _ _ _ _ _ (@zI _ _ _ _ (@za _ _ _ _ _ zZ zd rfl)) zd rfl))) zd))) (zY _)) (@zh _ _ _ (@zG _ _ _ _ zeQ)) qf))) qf) (@ze _ _ _ _ _ (@qH _ _ 9 _ _ _ _ yJ.nd rfl (Vz rfl) (@zL _ _ _ _ _ _ _ _ jZ zj (zL Zu (zL YC (pvS 1) zj) zj)) (by rfl) (.inr rfl)) (ze (jo 10 yJ.nd (pc0 za3 hr Ys (za (pc0 zc8 hr Qd (za (pc0 JV hr xu (za (pvS 0) (@za _ _ _ _ _ zj zd rfl))) (za (pvS 9) zd))) zd))) (zh (zG (xR YX (pc0 Qe hr JU (za (pvS 10) zd)) (@zE _ _ _ _ _ _ _ qC (@zI _ _ _ _ (@za _ _ _ _ _ zZ (@za _ _ _ _ _ zZ zd rfl) rfl)) (pt1 zdd T.zkV SO (xR zes (pvS 9) zj (zY _))) (λ_ _=>rfl)) (zY _)))))))))))))))),?_⟩;(try dsimp only[cxK,cxP,cxW]);refine⟨_,rfl,a,ns,_,rfl,hS,by decide,λc0=>⟨_,rfl,_,_,rfl,rfl,(by decide),?_⟩⟩;obtain⟨g,hg,g4⟩:∃g:Nat,c0%5=((g:Nat):Int)/\g<=4:=⟨(c0%5).toNat,by lia,by lia⟩;rw[hg];refine⟨_,rfl,a,ns,_,rfl,hS,by decide,λc1=>⟨_,rfl,c1,g,rfl,g4,λd us b rm H1 hb sl rl M=>?_⟩⟩;have am:Yp (grF (fB b rm) 8 8):=zcI (by decide) (by decide) (by decide) (by decide) (zf9 hb rm);refine⟨_,rfl,d,us,_,rfl,M.hd,M.at_,am,λp l rs H2 hp hl B ec s2=>⟨p,_,rfl,SqT.of B.tp,rfl,_,_,rfl,_,_,rfl,rfl,?_⟩⟩;refine⟨_,rfl,_,_,rfl,rfl,zaK.small (by decide) (by decide),_,_,rfl,rfl,(by decide),?_⟩;obtain⟨mo,hmo,mo2⟩:∃mo:Nat,c0/5%3=((mo:Nat):Int)/\mo<=2:=⟨(c0/5%3).toNat,by lia,by lia⟩;rw[hmo];have R:=am.rows ec;have cm:=λmo=>zlT (mo:=mo) hb sl rl g4 ec;have hL:=am.lay ec;generalize hn:(((stM (grF (fB b rm) 8 8)).length:Nat):Int)=n at *
  have n0:0<=n:=by lia
  refine⟨fun σ' H'=>σ'=[some (.ref a),some (.int c0),some (.int (g:Nat)),some (.ref d),some (.ref l),some (.int n),some (.int (mo:Nat)),some (.str (if 0<mo then "laying" else "told")),none,none,none]/\H'=H2,?_,?_⟩
  .refine⟨_,rfl,_,_,rfl,rfl,_,rfl,?_⟩;by_cases h0:0<mo
   .exact ju (bu (by lia)) ⟨by rw[br h0];rfl,rfl⟩
   .exact jd (bg (by lia)) ⟨by rw[bw h0];rfl,rfl⟩
  rintro σ' H' ⟨rfl,eH⟩;rw[eH];refine⟨fun σ' H'=>σ'=[some (.ref a),some (.int c0),some (.int (g:Nat)),some (.ref d),some (.ref l),some (.int n),some (.int (mo:Nat)),some (.str (zjJ g mo)),none,none,none]/\H'=H2,?_,?_⟩
  .refine⟨_,rfl,_,_,rfl,rfl,_,rfl,?_⟩;unfold zjJ;by_cases h0:g<2
   .exact ju (bu (by lia)) ⟨by rw[br h0];rfl,rfl⟩
   .exact jd (bg (by lia)) ⟨by rw[bw h0],rfl⟩
  rintro σ' H' ⟨rfl,eH⟩;rw[eH];refine⟨_,rfl,_,rfl,_,rfl,_,_,rfl,rfl,jP,λbp hbp=>?_⟩;have y3:=zc (o:=.tup [.ref l,.int (n+(mo:Nat))]) hbp;refine⟨bp,l,rs,_,_,rfl,⟨zb,y3 _ _ B.rw⟩,R,by lia,cm mo,λH3 s3=>?_⟩;have s13:=s2.trans (y3.trans s3);have s23:=y3.trans s3;refine⟨_,rfl,rfl,_,rfl,jd (by simp) ?_⟩;refine⟨_,rfl,rfl,_,rfl,?_⟩;by_cases ht:zjJ g mo="told"
  case' pos =>
   refine ju (bu (by rw[ht])) ?_
   refine⟨_,rfl,_,rfl,jP,λbq hbq=>?_⟩
   have y4:=zc (o:=.tup [.ref l,.int n]) hbq
   have g2:2<=g:=by
    refine WU λz=>?_;unfold zjJ at ht;rw[br (by lia)] at ht;exact absurd ht (by decide+kernel)
   have nb:=zoa hb sl ec
   have s4:=zai hb ec
   have sm:(zx rs).length<=14:=by rw[s4];decide
   refine⟨bq,l,rs,n,rfl,⟨zb,(s23.trans y4) _ _ B.rw⟩,R,n0,λz=>absurd z (by lia),λ_=>⟨λgs G z=>(zeL z (za1 sm G)).elim,λgs G a14=>⟨λz=>absurd z hL.count,λ_=>⟨_,hL,XZ sm (by decide),λt sa fa fc fs sv us' ws cl st H5 k1 k2 F Y Cl s5=>?_⟩⟩⟩⟩
   refine⟨t,_,1,_,rfl,rfl,SqT.of k1,rfl,?_⟩
   have s15:=s13.trans (y4.trans s5)
   have M5:=M.mono s15
   refine⟨_,rfl,_,rfl,sz_1,λla hla=>?_⟩
   have y6:=zc (o:=.lst [V.str "c"]) hla
   refine⟨d,la,us,_,[99],rfl,y6 _ _ M5.hd,M5.at_.mono y6,by rw[Yq];exact XV _,ziv _ _,by rw[zb,znu];rfl,λca cv H6 hca zpg hcc s6=>⟨_,rfl,sz_1,λlb hlb=>?_⟩⟩
   have y7:=zc (o:=.lst [V.str "o"]) hlb
   have s57:=y6.trans (s6.trans y7)
   refine⟨d,lb,us,_,[111],rfl,s57 _ _ M5.hd,M5.at_.mono s57,by rw[Yq];exact XV _,ziv _ _,by rw[zb,zpw];rfl,λcb dv H7 hcb zrq hcd s7=>⟨jP,λtp htp=>?_⟩⟩
   have y8:=zc (o:=.tup [.ref ca,.ref cb]) htp
   have s68:=y7.trans (s7.trans y8)
   have s58:=(y6.trans s6).trans s68
   obtain⟨e1,e2⟩:=(zgb hb sl (by lia) ec).find hL Y Cl
   have bm:∀x∈qG,(x∈stM (grF (fB b rm) 8 8)↔b x=111):=λx hx=>by
    unfold stM;rw[Yr];have e:fB b rm x=b x:=br hx;rw[e];unfold pZ;rw[bf,Wv];exact⟨λz=>z.2.2,λz=>⟨(sp8 x hx).1,(sp8 x hx).2,z⟩⟩
   have f1:=zgc (k:=99) hb ec (.inl rfl) (p:=λc=>!decide (c∈stM (grF (fB b rm) 8 8))) λx hx=>by
    rw[W1,WJ,decide_eq_false_iff_not,bf,bm x hx];rcases hb x with e | e<;>rw[e]<;>decide
   have f2:=zgc (k:=111) hb ec (.inr rfl) (p:=λc=>decide (c∈stM (grF (fB b rm) 8 8))) λx hx=>by
    rw[W1,bf,bf,bm x hx]
   rw[<- f1,<- e1] at hcc
   rw[<- f2,<- e2] at hcd
   have G1:j5 _ tp ca cb cv dv cl st:=⟨zb,s68 _ _ zpg,y8 _ _ zrq,hcc.mono s68,hcd.mono y8⟩
   refine⟨_,_,(F.mono s58).rdv,G1.rdv,zdY cl st,_,rfl,jd ?_ ?_⟩
   .rw[br rfl,SeqAt.eqv_refl _ (zdY cl st).l1];rfl
   have S9:=s15.trans s58
  case' neg =>
   refine jd (bg λe=>ht (V.str.inj e)) ?_
   have S9:=s13
  all_goals
   refine⟨_,rfl,_,_,rfl,rfl,zaK.small (by decide) (by decide),_,_,rfl,rfl,(by decide),_,_,rfl,rfl,?_⟩
   obtain⟨m,hm,m4,m8⟩:∃m:Nat,4+c0/15%5=((m:Nat):Int)/\4<=m/\m<=8:=⟨(4+c0/15%5).toNat,by lia,by lia,by lia⟩
   rw[hm]
   refine⟨_,rfl,a,ns,_,rfl,(M.sm.trans S9).seq hS,by decide,λc2=>⟨_,rfl,c2,m,rfl,m8,λd' us' f' H' Y' M'=>?_⟩⟩
   have am':Yp (grF f' 3 8):=zcI (by decide) (by decide) (by decide) (by decide) Y'.am
   refine⟨d',us',_,rfl,M'.hd,M'.at_,am',λp' l' rs' H'' _ _ B' ec' s''=>?_⟩
   have cm':Comes rs' ((stM (grF f' 3 8)).length:Nat) (if 6<m then "great" else "told"):=by
    unfold Comes;by_cases h6:6<m
    .rw[br h6];exact .inl ⟨rfl,.inr λgs G=>Y'.big ec' h6 m8 G⟩
    .rw[bw h6];exact .inr ⟨zqB ec',Y'.few ec' m4 (by lia),.inr ⟨rfl,_,am'.lay ec'⟩⟩
   refine⟨_,rfl,p',l',rs',_,_,rfl,B',am'.rows ec',by lia,cm',λHn sn=>⟨jP,λz hz=>⟨_,rfl,_,_,rfl,rfl,.inr ⟨_,rfl,z,_,_,V.str (if 6<m then "great" else "told"),rfl,rfl,SqL.of zb,?_,rfl,?_⟩⟩⟩⟩
   .by_cases h6:6<m
    .rw[br h6,bu (show (6:Int)<(m:Nat) by lia)];rfl
    .rw[bw h6,bg (show ¬ (6:Int)<(m:Nat) by lia)];rfl
   .rw[bu rfl];exact q _
def zpG (T:Txt mg)(jas:ql K mg "StoneError" jai)(jat:ql K mg "TooGreat" jaj)(jan:ql K mg "NoLaying" jad)(jak:ql K mg "NoBoard" jaa)(jam:ql K mg "NoCount" jac)(jal:ql K mg "NoCell" jab)(jar:ql K mg "NoText" jah)(jap:ql K mg "NoRow" jaf)(jao:ql K mg "NoNumber" jae)(jaq:ql K mg "NoTable" jag)(FG:Facts K jaj jai jaj jad jaa jac jab jah jaf jae jag true false)(FL:Facts K jad jai jaj jad jaa jac jab jah jaf jae jag false true)(Z:Prog K mg){f:Addr}{fd:XD}(D:zm K mg "law" zdF ["_law_script"] f fd):qa P w K mg base CX0 10 f fd ["_law_script"] (zgf K) :=
 znB T Z ⟨jas,jat,jan,jak,jam,jal,jar,jap,jao,jaq,FG,FL⟩ D
end
def all_mk {l:PP}{w:WZ}{K:XW}{h:Heap}{mg:Str->Option X8}{fa:Addr}{jaE:Tok}{jaF:Tok}{jaG:Tok}{jaH:Tok}{jaI:Tok}{jai:Addr}{jaj:Addr}{jad:Addr}{jaa:Addr}{jac:Addr}{jab:Addr}{jah:Addr}{jaf:Addr}{jae:Addr}{jag:Addr}(X:K.In h)(G:h.Ns XO mg)(hfa:mg "law"=some (.ref fa))
  (Qy:HasDef K "closed" J9)
  (xJ:HasDef K "open_cells" qZ)
  (Qz:HasDef K "around" jR)
  (JA:HasDef K "number_at" j9)
  (Zh:HasDef K "cells_of" qR)
  (Yt:HasDef K "sign_at" qN)
  (zbd:HasDef K "parts" zbq)
  (QA:HasDef K "joined" Yh)
  (zhh:HasDef K "far" zhZ)
  (xK:HasDef K "numbers_of" xX)
  (xM:HasDef K "bare_wrong" xY)
  (jV:HasDef K "closed_around" qJ)
  (yh:HasDef K "part_layings" yq)
  (Zi:HasDef K "needs_at" ZC)
  (Yu:HasDef K "may_fit" YF)
  (yL:HasDef K "part_counts" yX)
  (Yv:HasDef K "counted" YG)
  (Yw:HasDef K "choices" YH)
  (QB:HasDef K "poured" Q3)
  (yM:HasDef K "near_counts" yY)
  (zbe:HasDef K "count" zbr)
  (xN:HasDef K "all_poured" xZ)
  (zbf:HasDef K "dealt" zbs)
  (Zj:HasDef K "asked_by" ZD)
  (Zk:HasDef K "known_of" ZE)
  (yN:HasDef K "still_asked" yZ)
  (QC:HasDef K "gained" Q4)
  (Yx:HasDef K "settled" Za)
  (Zl:HasDef K "thoughts" Jp)
  (JB:HasDef K "all_steps" JI)
  (yO:HasDef K "place_lists" xg)
  (xO:HasDef K "first_step" x6)
  (yP:HasDef K "_law_cell_at" xh)
  (JC:HasDef K "_law_cells" yc)
  (Zm:HasDef K "_law_near" yE)
  (JD:HasDef K "_law_board" JJ)
  (yQ:HasDef K "_law_outcome" xj)
  (JE:HasDef K "_law_apart" JK)
  (yR:HasDef K "_law_rows_of" xo)
  (zhi:HasDef K "law" zdF)
  (xP:XN K XO "ValueError"=some none)
  (zhj:XN K XO "abs"=some none)
  (zhk:XN K XO "any"=some none)
  (zdZ:XN K XO "dict"=some none)
  (JF:XN K XO "enumerate"=some none)
  (zhl:XN K XO "int"=some none)
  (xQ:XN K XO "isinstance"=some none)
  (zhm:XN K XO "len"=some none)
  (zd0:XN K XO "list"=some none)
  (zhn:XN K XO "max"=some none)
  (zho:XN K XO "min"=some none)
  (zbg:XN K XO "range"=some none)
  (zhp:XN K XO "set"=some none)
  (QD:XN K XO "sorted"=some none)
  (zhq:XN K XO "str"=some none)
  (zhr:XN K XO "sum"=some none)
  (zhs:XN K XO "ALL"=some (some (.str "all" jaE)))
  (yS:XN K XO "CLOSED_SIGN"=some (some (.str "?" jaF)))
  (yi:XN K XO "MOST_OF_PART"=some (some (.int 14 jaG)))
  (yT:XN K XO "MOST_THINGS"=some (some (.int 30 jaH)))
  (yj:XN K XO "NO_CELL_SIGN"=some (some (.str "#" jaI)))
  (jaC:XN K XO "StoneError"=some (some (.ref jai)))
  (jaR:WH K jai xH "ValueError.__new__"=true)
  (jaD:XN K XO "TooGreat"=some (some (.ref jaj)))
  (jaS:WH K jaj xH "ValueError.__new__"=true)
  (jax:XN K XO "NoLaying"=some (some (.ref jad)))
  (jaM:WH K jad xH "ValueError.__new__"=true)
  (jau:XN K XO "NoBoard"=some (some (.ref jaa)))
  (jaJ:WH K jaa xH "ValueError.__new__"=true)
  (jaw:XN K XO "NoCount"=some (some (.ref jac)))
  (jaL:WH K jac xH "ValueError.__new__"=true)
  (jav:XN K XO "NoCell"=some (some (.ref jab)))
  (jaK:WH K jab xH "ValueError.__new__"=true)
  (jaB:XN K XO "NoText"=some (some (.ref jah)))
  (jaQ:WH K jah xH "ValueError.__new__"=true)
  (jaz:XN K XO "NoRow"=some (some (.ref jaf)))
  (jaO:WH K jaf xH "ValueError.__new__"=true)
  (jay:XN K XO "NoNumber"=some (some (.ref jae)))
  (jaN:WH K jae xH "ValueError.__new__"=true)
  (jaA:XN K XO "NoTable"=some (some (.ref jag)))
  (jaP:WH K jag xH "ValueError.__new__"=true)
  (jaT:Wf K (.ref jaj) "__getattribute__"=some (some (.builtin "BaseException.__getattribute__")))
  (jaU:Wf K (.ref jaj) "__getattr__"=some none)
  (ja2:Wf K (.ref jaj) "__class__"=some (some (.builtin "object.__class__")))
  (ja3:Wc K jaj (.type "BaseException")=some true)
  (ja4:Wc K jaj (.type "object")=some true)
  (ja5:UO K jaj=true)
  (ja6:Wc K jaj (.ref jai)=some true)
  (ja7:XJ K (.ref jaj) (.ref jaj)=some true)
  (ja8:XJ K (.ref jaj) (.ref jad)=some false)
  (ja9:XJ K (.ref jaj) (.ref jaa)=some false)
  (jaV:XJ K (.ref jaj) (.ref jac)=some false)
  (jaW:XJ K (.ref jaj) (.ref jab)=some false)
  (jaX:XJ K (.ref jaj) (.ref jah)=some false)
  (jaY:XJ K (.ref jaj) (.ref jaf)=some false)
  (jaZ:XJ K (.ref jaj) (.ref jae)=some false)
  (ja0:XJ K (.ref jaj) (.ref jag)=some false)
  (ja1:XJ K (.ref jaj) (.type "ValueError")=some true)
  (jba:Wf K (.ref jad) "__getattribute__"=some (some (.builtin "BaseException.__getattribute__")))
  (jbb:Wf K (.ref jad) "__getattr__"=some none)
  (jbj:Wf K (.ref jad) "__class__"=some (some (.builtin "object.__class__")))
  (jbk:Wc K jad (.type "BaseException")=some true)
  (jbl:Wc K jad (.type "object")=some true)
  (jbm:UO K jad=true)
  (jbn:Wc K jad (.ref jai)=some true)
  (jbo:XJ K (.ref jad) (.ref jaj)=some false)
  (jbp:XJ K (.ref jad) (.ref jad)=some true)
  (jbq:XJ K (.ref jad) (.ref jaa)=some false)
  (jbc:XJ K (.ref jad) (.ref jac)=some false)
  (jbd:XJ K (.ref jad) (.ref jab)=some false)
  (jbe:XJ K (.ref jad) (.ref jah)=some false)
  (jbf:XJ K (.ref jad) (.ref jaf)=some false)
  (jbg:XJ K (.ref jad) (.ref jae)=some false)
  (jbh:XJ K (.ref jad) (.ref jag)=some false)
  (jbi:XJ K (.ref jad) (.type "ValueError")=some true) :
  ∃fd:XD,(∀(s:X7) (v:X8),OM s fd ⟨[v],[]⟩ [("_law_script",v)])/\∀base:Heap,K.In base->base.Ns XO mg->qa l.prog w K mg base CX0 10 fa fd ["_law_script"] (zgf K):=by
 obtain⟨f,oc,od,an,sl,kV,dc,pm,cd,ct,a,l0,c,k⟩:=zhi;have e:=hfa.symm.trans (Wp X G a);cases e;have T:Txt mg:=⟨WK X G xP,WK X G zhj,WK X G zhk,WK X G zdZ,WK X G JF,WK X G zhl,WK X G xQ,WK X G zhm,WK X G zd0,WK X G zhn,WK X G zho,WK X G zbg,WK X G zhp,WK X G QD,WK X G zhq,WK X G zhr,⟨_,Wp X G zhs⟩,⟨_,Wp X G yS⟩,⟨_,Wp X G yi⟩,⟨_,Wp X G yT⟩,⟨_,Wp X G yj⟩⟩;have Z:Prog K mg:=⟨Qy.at X G (λ_ _ _ _ _ _=>us1 λ_=>rfl),xJ.at X G (λ_ _ _ _ _ _=>us1 λ_=>rfl),Qz.at X G (λ_ _ _ _ _ _=>us2 λ_ _=>rfl),JA.at X G (λ_ _ _ _ _ _=>us2 λ_ _=>rfl),Zh.at X G (λ_ _ _ _ _ _=>us1 λ_=>rfl),Yt.at X G (λ_ _ _ _ _ _=>us2 λ_ _=>rfl),zbd.at X G (λ_ _ _ _ _ _=>us1 λ_=>rfl),QA.at X G (λ_ _ _ _ _ _=>us2 λ_ _=>rfl),zhh.at X G (λ_ _ _ _ _ _=>us1 λ_=>rfl),xK.at X G (λ_ _ _ _ _ _=>us2 λ_ _=>rfl),xM.at X G (λ_ _ _ _ _ _=>us1 λ_=>rfl),jV.at X G (λ_ _ _ _ _ _=>us2 λ_ _=>rfl),yh.at X G (λ_ _ _ _ _ _=>us2 λ_ _=>rfl),Zi.at X G (λ_ _ _ _ _ _=>us3 λ_ _ _=>rfl),Yu.at X G (λ_ _ _ _ _ _=>us2 λ_ _=>rfl),yL.at X G (λ_ _ _ _ _ _=>us2 λ_ _=>rfl),Yv.at X G (λ_ _ _ _ _ _=>us2 λ_ _=>rfl),Yw.at X G (λ_ _ _ _ _ _=>us2 λ_ _=>rfl),QB.at X G (λ_ _ _ _ _ _=>us2 λ_ _=>rfl),yM.at X G (λ_ _ _ _ _ _=>us1 λ_=>rfl),zbe.at X G (λ_ _ _ _ _ _=>us1 λ_=>rfl),xN.at X G (λ_ _ _ _ _ _=>us1 λ_=>rfl),zbf.at X G (λ_ _ _ _ _ _=>us3 λ_ _ _=>rfl),Zj.at X G (λ_ _ _ _ _ _=>us2 λ_ _=>rfl),Zk.at X G (λ_ _ _ _ _ _=>us1 λ_=>rfl),yN.at X G (λ_ _ _ _ _ _=>us2 λ_ _=>rfl),QC.at X G (λ_ _ _ _ _ _=>us1 λ_=>rfl),Yx.at X G (λ_ _ _ _ _ _=>us1 λ_=>rfl),Zl.at X G (λ_ _ _ _ _ _=>us1 λ_=>rfl),JB.at X G (λ_ _ _ _ _ _=>us2 λ_ _=>rfl),yO.at X G (λ_ _ _ _ _ _=>us1 λ_=>rfl),xO.at X G (λ_ _ _ _ _ _=>us4 λ_ _ _ _=>rfl),yP.at X G (λ_ _ _ _ _ _=>us2 λ_ _=>rfl),JC.at X G (λ_ _ _ _ _ _=>us2 λ_ _=>rfl),Zm.at X G (λ_ _ _ _ _ _=>us2 λ_ _=>rfl),JD.at X G (λ_ _ _ _ _ _=>us1 λ_=>rfl),yQ.at X G (λ_ _ _ _ _ _=>us1 λ_=>rfl),JE.at X G (λ_ _ _ _ _ _=>us2 λ_ _=>rfl),yR.at X G (λ_ _ _ _ _ _=>us2 λ_ _=>rfl)⟩;have F:=zjY (st:=zdF) l0 c k;have D:zm K mg "law" zdF ["_law_script"] _ _:=⟨F,Wp X G a,F.binds (ps:=["_law_script"]) (λ_ _ _ _ _ _=>us1 λ_=>rfl)⟩;have jas:ql K mg "StoneError" jai:=⟨Wp X G jaC,jaR⟩;have jat:ql K mg "TooGreat" jaj:=⟨Wp X G jaD,jaS⟩;have jan:ql K mg "NoLaying" jad:=⟨Wp X G jax,jaM⟩;have jak:ql K mg "NoBoard" jaa:=⟨Wp X G jau,jaJ⟩;have jam:ql K mg "NoCount" jac:=⟨Wp X G jaw,jaL⟩;have jal:ql K mg "NoCell" jab:=⟨Wp X G jav,jaK⟩;have jar:ql K mg "NoText" jah:=⟨Wp X G jaB,jaQ⟩;have jap:ql K mg "NoRow" jaf:=⟨Wp X G jaz,jaO⟩;have jao:ql K mg "NoNumber" jae:=⟨Wp X G jay,jaN⟩;have jaq:ql K mg "NoTable" jag:=⟨Wp X G jaA,jaP⟩;have FG:Facts K jaj jai jaj jad jaa jac jab jah jaf jae jag true false:=⟨⟨jaT,jaU,ja2,ja3,ja4,ja5⟩,ja6,ja7,ja8,ja9,jaV,jaW,jaX,jaY,jaZ,ja0,ja1⟩;have FL:Facts K jad jai jaj jad jaa jac jab jah jaf jae jag false true:=⟨⟨jba,jbb,jbj,jbk,jbl,jbm⟩,jbn,jbo,jbp,jbq,jbc,jbd,jbe,jbf,jbg,jbh,jbi⟩;exact⟨_,λs v=>.of_eq rfl,λbase _ _=>zpG T jas jat jan jak jam jal jar jap jao jaq FG FL Z D⟩
def walk {l:PP}{q:Xm}{loose:AD}{XP:(Str->Option X8)->Heap->Prop}{YP:WZ->Heap->Prop}{d:DefRec}{K:Params->XW}(hn:l.most=some 63)(hdf:d.params.defaults=[])
  (hY:∀(w:WZ) (h:Heap),YP w h->(K w.params).In h)
  (F:∀(w:WZ) (mg:Str->Option X8) (fa:Addr) (h:Heap),(K w.params).In h->h.Ns XO mg->mg d.name=some (.ref fa) ->
   ∃fd:XD,(∀(s:X7) (u:X8),OM s fd ⟨[u],[]⟩ [("_law_script",u)])/\∀base:Heap,(K w.params).In base->base.Ns XO mg->qa l.prog w (K w.params) mg base CX0 10 fa fd ["_law_script"] (zgf (K w.params))) :
  O0 q loose XP YP l.row.toRowW d [] (λf vs=>PySem.call f vs) :=
 L2.zhy (n:=63) (k:=10) (x:="_law_script") (CX:=λ_=>CX0) (sp:=λw=>zgf (K w.params)) hn (by decide) hdf ⟨rfl,by decide,by decide⟩ hY F (λ_ _ a ns hl _ hS=>⟨a,ns,rfl,hS,hl,λ_=>rfl⟩) λ_ _ _ _ _ z=>z
end K54
open PySem PySem.W PyProof.Rows
set_option maxRecDepth 100000 in
set_option maxHeartbeats 0 in
theorem PySem.Challenge.cw_stonelay_k54_thoughts_refused_holds : PySem.Challenge.rw_stonelay_k54_thoughts_refused.Holds := by
 refine zbw.early λ{q XP YP d K} hdf hY hn F=>?_;refine K54.walk (l:=PySem.Challenge.rw_stonelay_k54_thoughts_refused) rfl hdf hY λw mg fa h KX G hmg=>?_;rw[hn] at hmg;refine L2.GS.via λGG hGG=>?_;obtain⟨Qy,xJ,Qz,JA,Zh,Yt,zbd,QA,zhh,xK,xM,jV,yh,Zi,Yu,yL,Yv,Yw,QB,yM,zbe,xN,zbf,Zj,Zk,yN,QC,Yx,Zl,JB,yO,xO,yP,JC,Zm,JD,yQ,JE,yR,zhi,xP,zhj,zhk,zdZ,JF,zhl,xQ,zhm,zd0,zhn,zho,zbg,zhp,QD,zhq,zhr,⟨_,zhs⟩,⟨_,yS⟩,⟨_,yi⟩,⟨_,yT⟩,⟨_,yj⟩,⟨_,_,_,_,_,_,_,_,_,_,jaC,jaD,jax,jau,jaw,jav,jaB,jaz,jay,jaA,jaR,jaS,jaM,jaJ,jaL,jaK,jaQ,jaO,jaN,jaP,jaT,jaU,ja2,ja3,ja4,ja5,ja6,ja7,ja8,ja9,jaV,jaW,jaX,jaY,jaZ,ja0,ja1,jba,jbb,jbj,jbk,jbl,jbm,jbn,jbo,jbp,jbq,jbc,jbd,jbe,jbf,jbg,jbh,jbi⟩⟩:=F w;refine hGG ?_;exact K54.all_mk KX G hmg Qy xJ Qz JA Zh Yt zbd QA zhh xK xM jV yh Zi Yu yL Yv Yw QB yM zbe xN zbf Zj Zk yN QC Yx Zl JB yO xO yP JC Zm JD yQ JE yR zhi xP zhj zhk zdZ JF zhl xQ zhm zd0 zhn zho zbg zhp QD zhq zhr zhs yS yi yT yj jaC jaR jaD jaS jax jaM jau jaJ jaw jaL jav jaK jaB jaQ jaz jaO jay jaN jaA jaP jaT jaU ja2 ja3 ja4 ja5 ja6 ja7 ja8 ja9 jaV jaW jaX jaY jaZ ja0 ja1 jba jbb jbj jbk jbl jbm jbn jbo jbp jbq jbc jbd jbe jbf jbg jbh jbi