import PyProof.Rows.All
import KE.IntBitsLaws
import KE.KDictOf
import KE.KDictSum
import KE.KIntText
import KE.KSortTup
import KE.LcSums
import KE.RegKIsAll
import KE.KNestM
import Lean
import PySem.Challenge.RW_stonelay_k40_shares_of_layings
open PySem renaming wpAny_bind→ZB,Value→X9,Shared→X8,wpAny_pure→X6,mainGlobals→XR,sizeLine→Xz,FuncData→Xq,model→Xh,wpAny→Xg,Program→Xd,boot_len→W0,Paired→WV,World→WP,Around→WK,mem_of_lookup→WH,starEach→WA,SetTable→Wr,wpAny_newObj_type→Wq,wpAny_mono→Wn,PyData→We,wpAny_holding→Wd,wpAny_loadPart'→Wb,wpAny_call_entry→V9,compareOp→VW,wpAny_loadPart_at→VT,codeAny_builtin→VQ,tupleKind→VP,wpAny_truthy_bool→VA,wpAny_typeNameOfWhole_keyiter→Vd,Builtin→Vc,Spec→U9,cLine→U1,wpAny_standAt→UZ,rawInt→UW,wpAny_passesOwn→UM,sysModules→UC,wpAny_rule→UB,plainId_quiet→Uz,wpAny_typeNameOf_keyiter→Ux,GenState→Ut,wpAny_callSpecial?_slot→Um,Scope→Uk,relabel→Ui,binaryOp→T9,builtinLookup_eq_fast→T1,sizeLine_eq→TV,firstArgMember→TR,codeAny_call_builtin→TL,codeAny→TJ,bootBuiltins→TH,NameKind→Tp,wpAny_attempt→To,wpAny_comprehension_free→Tk,wpAny_execs_nil→Tf,pyNext→Tb,assignEach→S9,call_meets→S8,wpAny_Call_Name_kw→S4,sliceBounds→SW,backTo→SR,compEnvC→SQ,codeAny_mono→SM,wpAny_setField→SD,wpAny_pyIter_list→Sy,foldedSetIterable→Sx,wpAny_pyIter_enum→Sw,wpAny_dictEntries→Su,wpAny_setState_of→Ss,ofAClassStatement→Sr,codeAny_compStart_list→Si,wpAny_notOrdered_dict→Se,storedH→R5,letOwnedTupleGo→RR,typeLookup_type→RO,wpAny_setEntries_of→RJ,cellsFrom→RA,wpAny_fieldsOf→Ry,again→Rh,wpAny_pyIter_slot→Rb,behindInMarks→QQ,setSearchFrom→Qb,wpAny_newList→P8,DictEntry→PU,pickOrder→PQ,wpAny_execs_cons→PP,checkBuiltinCall→PM,wpAny_isInstance→PJ,wpAny_forIn_list→PF,wpAny_askSetting→PC,seqIndex_neg→Pn,wpAny_typeOf→Pm,wpAny_getItem_list_neg→Pj,theTreesLotGoes→O8,wpAny_specialOf→O7,wpAny_dictEpoch→O6,wpAny_isOneOf_keyiter→O0,seqIndex_of→OQ,subscripted→OP,wpAny_of_eq→OO,hashByValue→ON,intText?→OL,isSubtype_type→OJ,wpAny_newFunctionEnv→OD,getItem→Ov,callerA→Ot,valueAt→Os,assignInOrder→Oi,attributeBase→Og,compTurn_list→Of,wpAny_handled→Oe,builtinsNs→Oa,typeLookup→N9,closureFor→N8,holding→N6,BindsTo→N5,OsState→N4,bindName→N3,ReadsAll→N2,codeAny_loop→N1,Result→NS,swapsWith→NQ,atKey→NP,wpAny_noted→NO,wpAny_throw→NN,Keyword→NL,Drawn→NJ,Model→NI,bindL→NH,bindC→NG,assign→NF,pyIter→NE,getAttr?→ND,entryFor→NC
open List renaming length_map→Y1,getElem?_eq_getElem→X7,mem_of_getElem?→X0,getElem?_eq_some_iff→XY,mem_filter→XV,length_append→XU,mem_cons_of_mem→XT,mem_cons_self→XS,mem_cons→XJ,mem_append→XG,length_take→XE,range→XD,mem_map→XC,getD_eq_getElem?_getD→XB,getElem?_map→XA,take_length→Xw,take_add_one→Xu,length_cons→Xs,mem_append_right→Xr,size_toArray→Xo,map_append→Xj,map_congr_left→Xi,map_cons→Xf,mem_range→Xc,append_nil→Xa,length_range→W8,length_filter_le→W6,filter_append→W3,append_assoc→W2,mem_append_left→WZ,Nodup→WW,countP_cons→WT,map_map→WR,replicate→WN,flatten_cons→WM,all_eq_true→WL,drop_eq_getElem_cons→WB,take_append_drop→Wx,take_of_length_le→Ww,filter_cons→Wv,any_eq_true→Wu,flatten_append→Wt,mem_flatten→Ws,pairwise_map→Wo,filter_sublist→Wc,nodup_append→V7,mem_of_mem_take→V6,getElem?_append_left→V4,filter_eq_nil_iff→VZ,foldl_cons→VX,getElem?_append_right→VR,nodup_cons→VJ,length_drop→VG,sublist_flatten_of_mem→VF,countP_congr→Vy,perm_ext_iff_of_nodup→Vv,replicate_succ→Vt,getElem?_zip_eq_some→Vq,pairwise_iff_getElem→Vp,not_mem_nil→Vn,lookup_cons→Vm,countP_append→Vk,filter_congr→Vb,range_succ→U6,filterMap_cons→U5,countP_eq_zero→U4,getElem?_eq_none→UR,isEmpty_eq_false_iff→UN,length_nil→UL,take_sublist→UG,ext_getElem?→UF,getElem?_range→Uv,take_succ_cons→Uu,map→Ur,length_eq_zero_iff→Ul,filter→Uj,any_map→Uf,mem_singleton→Ue,length_pos_of_mem→Ub,find?_cons→T8,filter_map→T6,perm_append_comm→T0,nodup_nil→TQ,pairwise_append→TK,getElem_mem→Tz,getElem?_eq_none_iff→Tw,exists_mem_of_ne_nil→Tv,getElem_of_mem→Tt,reverse_append→Ts,map_take→Tn,sublist_append_left→Ti,countP_map→Td,mem_filterMap→S5,getElem?_drop→S2,ne_nil_of_mem→SY,countP→SV,foldl_append→Sv,getElem?_set_self→Sk,drop_eq_nil_of_le→Sh,mem_flatMap→R7,any_cons→R3,lookup→RY,map_id→RX,getElem?_set_ne→RW,mem_of_mem_drop→RS,length_set→RQ,nil_append→RP,countP_nil→RM,map_nil→RF,pairwise_cons→Ru,filter_filter→Rt,extract_eq_take_drop→Rl,sublist_append_right→Ri,any_eq_false→Re,drop_sublist→Ra,reverse_perm→QR,all_cons→QP,map_drop→P9,getElem?_take_of_lt→P7,cons_append→PK,map_snd_zip→PB,isEmpty_iff→Pz,getElem?_cons_succ→Pu,of_mem_zip→Pa,length_replicate→O3,length_singleton→O2,mem_iff_getElem?→OZ,countP_replicate→OY,pairwise_reverse→OV,countP_le_length→OT,drop_drop→OI,reverse_reverse→OA,sum_cons→Oc,map_set→NU
open Nat renaming le_trans→X5,le_refl→XW,lt_of_le_of_lt→XF,lt_of_lt_of_le→Xn,ne_of_lt→Xk,zero_le→W5,lt_succ_of_lt→WF,pow_le_pow_right→Wf,lt_irrefl→V8,zero_add→V2,le_succ→VU,succ_ne_self→Vo,ne_of_gt→UH,pow_succ→Ug,le_succ_of_le→TZ,mul_le_mul→TN,add_comm→TF,le_add_right→TB,not_lt_zero→Te,lt_of_lt_of_eq→SZ,add_sub_cancel_left→SS,le_of_lt→SN,mul_comm→SL,sub_self→SK,lt_or_ge→SJ,succ_pos→SH,add_zero→SG,add_le_add→SA,mod_lt→R9,succ_mul→RG,lt_trans→RE,add_sub_cancel→Rv,lt_trichotomy→Rc,le_of_not_lt→PN,lt_succ_self→PL,one_le_iff_ne_zero→Pf,min_eq_left→O4,add_le_add_right→OC,pow_lt_pow_right→Oz,mul_le_mul_right→Oy,add_assoc→Ob,mul_succ→NT
open Array renaming length_toList→X4,getElem?_toList→Xx,getElem?_eq_none→WQ,toList_append→WD,getElem?_eq_getElem→V3,getElem?_eq_some_iff→Vw,size_map→Vh,toList_reverse→Ve,toList_map→UX,size_reverse→UU,perm_iff_toList_perm→UT,getElem_toList→UD,size_extract→Ud,getElem?_setIfInBounds→T4,mem_toList_iff→TM,size_setIfInBounds→Tj,getD→S7,toList_push→Sq,getElem?_extract→Sg,toList_setIfInBounds→Ro,getElem?_replicate→P1,toList_inj→PD,getElem?_reverse→Pg,toList_extract→OB,toList_modify→Om
open PySem.W renaming Frag→X2,nsIn→XQ,kitOne→W9,mg_none_of→WS,excIn→WC,mg_of→Wh,kia_one→VY,findIn→VN,mroIn→VE,hashAt→VD,fnOf→UI,keepIn→TU,hideAll_get→Tu,isClsIn→Tg,codeIn→SF,cellsFrom_some→Sj,looks_findIn→RU,looks_mroIn→RL,KdlKeysView→Rg,methodObj→Rf,instObj→Pb,OpenLaw→O9,lookIn→OM,WalkO→Oj
open PySem.Heap renaming get?_push_of_some→XZ,lt_size→XO,get?_push_size→Xl,get?_update_self→Wi,SameBut→VL,size_push→Vi,get?_none_of_le→UE,get?_update_other→Uc,get?_update_ne→RI,FlyingW→N0
open Bool renaming false_ne_true→XX,eq_false_iff→Xy,false_eq_true→WG,not_eq_true'→WE,eq_iff_iff→Wz,and_eq_true_iff→Wg,and_eq_true→Wa,false_and→Uq,and_true→T2,true_and→Tl,and_assoc→Sz,not_eq_false→So,and_comm→RZ,or_eq_true→RN
open Or renaming inl→XM,inr→UV
open PySem.SetTable renaming bits→XI,below→Xv,insertAt→Xb,turns→W1,runEnd→VI,leap→Vj,grown→Uo,sizeAbove→S1,Probe→Rx,advance→PH,fill→Od
open PyProof.Rows renaming wpS_bind→XH,wpS_pure→Xp,arrOf→Xm,boot_isinstance→W7,Keyed→W4,SortSt→WJ,pendingOf→WI,wpS_forRange→V1,callWith_type1→VS,pairsOf_toList→Vg,seqObj→U2,boot_int→UQ,boot_max→UP,boot_min→UO,boot_sorted→Uw,wpS_mono→Us,boot_dict→Ua,SortKind→TW,mem_zip_self→TD,wpS_modify→S6,failedOf→SO,boot_any→Sc,AllBare→R6,wpS_get→R4,reverseSlice'→R0,assignInOrder_cons→Rw,listItems_at→Rj,boot_divmod→PX,wpS_lift→PV,envOfC→Po,subscriptTail_builtinR→Pk,boot_list→Pd,boot_bool→Pc,entry_list_sort→O5,boot_str→OR,slot_list_sort→OH,args_list_sort→OG,IntsAre→Ou,pairsOf→Oq,getElem?_mirror_all→On,subscriptTail→Oh,plain_sorted→NZ,entry_sorted→NY,args_sorted1→NX,kind_sorted→NM,IsTup→NK
open PySem.PassesOwn renaming never→Xe
open Int renaming toNat_natCast→WY,le_of_lt→V0,gcd→VM,le_trans→VB,toNat_of_nonneg→Vs,emod_lt_of_pos→Vl,emod_nonneg→U7,le_refl→U0,natCast_mul→UK,natCast_add→Tc,natAbs_natCast→SX,neg_le_neg→SC,gcd_dvd_right→Sm,add_zero→RD,zero_add→RC,fmod_eq_emod_of_nonneg→Rr,fdiv_eq_ediv_of_nonneg→Rq,gcd_dvd_left→Py,not_lt→N7,mul_zero→NW,mul_comm→NV
open PySem.PyData renaming eqv→WX,depthAll→Wy,canLayAll0→Wp,canLay0→Vf,str→UA,bool→SU,int→R8
open PySem.Value renaming ref→WU,none→VC,int→Vu,bool→Ta,type→Rz,builtin→Qr,str→NR
open PySem.F renaming plainAttrs_list→WO,slot_list_append→Wl,type_list_append→Wj,slot_dict_keyiterator_next→VH,typeOf_object_class→TX,args_dict_keyiterator_next_1→Tr,entry_dict_keyiterator_next→Th,plainAttrs_str→Sf,slot_str_join→Sb,type_str_join→Sa,excBase_ValueError→Rp,slot_list_extend→PZ,type_list_extend→PY,slot_dict_clear→Pw,plain_list_iadd→Ps,slot_list_count→Pr,type_list_count→Pq,plainAttrs_dict→Pp,slot_dict_keys→Pe,slot_set_iter→OX,plain_set_new→OW,args_list_count_2→Op
open False renaming elim→Wm
open PySem.Around renaming under_plainId→V5
open Option renaming isSome_iff_exists→VV,map_some→T7,getD_some→TC
open PySem.Heap.SameBut renaming update→VO
open PySem.SetTable.below renaming go→Vz
open List.Sublist renaming length_le→Vx
open ForInStep renaming yield→Vr
open PySem.Builtin.Str renaming occurrences→Va
open PySem.Obj renaming mapSeq→U8,mapFields→T3,data_mapDictKeys→RT,isFreed_of_dict→Oo
open PyProof.Rows.F renaming plain_set_update_loop→U3,entry_set_update_loop→Tq
open PySem.NameKind renaming cell→UY
open Ne renaming symm→US
open PySem.Str renaming join→UJ,ofString→Pl
open PySem.Builtin.List renaming listTooLong→Uy,listExtendWith→RB,listSameRef→P0
open True renaming intro→Uh
open PySem.Builtin.Dict_items renaming ownsTuple→T5
open PySem.SetTable.probe renaming go→TY
open PySem.Calls renaming call_function_entry→Tx,Name_function_global→Rs,callWith_builtin→Pi,evalArgs_plain→OE
open List.Perm renaming append_left→Sd,length_eq→Ol
open PySem.Shared renaming TypeIs→R1
open PySem.Builtin.Dict renaming noArgs→RK,updateFrom→Px,pairItems→Ph,showsAll→OU
open PySem.SeqAt.EqAt renaming bool_bool→Rn
open Classical renaming byContradiction→Rm
open PySem.SeqAt renaming list_countAt→P6,eqv_refl→OF
open Sum renaming inl→Ox,inr→Ow
set_option Elab.async false
set_option linter.all false
set_option maxRecDepth 100000
namespace zb3
open PySem PySem.W
noncomputable def sel:List Nat->Nat->List Stmt->List Stmt
 | _,_,[]=>[]
 | ns,i,x::xs=>match ns.contains i with
  | true=>sel ns (i+1) xs
  | false=>x::sel ns (i+1) xs
theorem ziQ {r:OpenRow}{q:Xd}{H:Hook}{d:DefRec}{kwd:List (PySem.Str×Expr)}{N:Nat}(left:LeftO r.prog q [] (fun s=>xlAt q [] s&&recOk (RowW.records r.toRowW) s) (Hook.obs H) (Hook.val H) N)
  (hdef:defOf q r.name=some (d,kwd)) (hp:r.prog.theDef r.name=some (d.params,d.body,d.scope)) (hk:kwWritten? d.params.kwonlyargs d.params.kw_defaults=some kwd) (hwr:(!r.writes || r.records.isEmpty)=true)
  (k1:r.wellSaid=true) (ok:(chainsOk q&&opensWell r.prog&&(frees r.toRowW&&r.within.isEmpty))=true) (hb:r.prog.bare) (hw:r.toRowW.promised)
  (call:WalkO q [] (XL q []) (Hook.says H) r.toRowW d kwd fun f vs=>PySem.call f vs):r.Holds :=
 holds_open (q:=q) (loose:=[]) (Xt:=fun s=>xlAt q [] s&&recOk (RowW.records r.toRowW) s) (XP:=XL q []) (Yf:=Hook.obs H) (Ya:=Hook.val H) (YP:=Hook.says H) (N:=N) left (Hook.of H) (Hook.keeps H) (fun s e=>xl_of s (Wg.mp e).1) XL.keeps hdef hp hk
  (fun s e=>recFacts_of (Wg.mp e).2) hwr k1 ok hb hw call
noncomputable def top (i:Nat):Stmt:=PySem.Challenge.pw_stonelay_k40_shares_of_layings.main.body.getD i (.Pass ⟨0,0,0,0⟩)
noncomputable def JU (s:Stmt):Arguments:=match s with
 | .FunctionDef _ a _ _ _ _ _ _ _ _=>a
 | _=>{ posonlyargs:=[],args:=[],vararg:=none,kwonlyargs:=[],kw_defaults:=[],kwarg:=none,defaults:=[] }
noncomputable def xA (s:Stmt):List Stmt:=match s with
 | .FunctionDef _ _ b _ _ _ _ _ _ _=>b
 | _=>[]
noncomputable def zg (s:Stmt):Uk:=match s with
 | .FunctionDef _ _ _ _ _ _ sc _ _ _=>sc
 | _=>{ kind:=.function,names:=[],isGenerator:=false,isCoroutine:=false }
def HD (K:X2)(x:Str)(i:Nat):Prop:=∃(f:Addr) (oc:X9) (od an:Option Addr) (sl:Array (Option X9)) (kV dc pm cd ct:X9),XQ K XR x=some (some (.ref f))/\K.lookup f=some ⟨oc,od,.func (UI x x (JU (top i)) (xA (top i)) (zg (top i)) .none kV dc pm an cd ct),sl⟩/\SF K cd x=true/\TU K (.ref f)=true
def Jh:List X9:=[.type "ValueError",.type "Exception",.type "BaseException",.type "object"]
structure Facts (K:X2):Prop where
 Q0:HD K "closed" 14
 Ji:HD K "open_cells" 15
 Q2:HD K "around" 16
 JV:HD K "number_at" 17
 ZN:HD K "cells_of" 18
 YV:HD K "sign_at" 19
 zbI:HD K "parts" 21
 Q3:HD K "joined" 22
 zhT:HD K "far" 23
 Jj:HD K "numbers_of" 24
 Jk:HD K "bare_wrong" 25
 yx:HD K "closed_around" 26
 yO:HD K "part_layings" 29
 ZO:HD K "needs_at" 30
 YW:HD K "may_fit" 31
 xB:HD K "part_counts" 32
 YX:HD K "counted" 33
 Jl:HD K "counted_at" 34
 YY:HD K "choices" 36
 Q4:HD K "poured" 37
 xC:HD K "near_counts" 39
 zbJ:HD K "count" 40
 yb:HD K "counts_by_cell" 41
 Jm:HD K "all_poured" 42
 zbK:HD K "dealt" 43
 ZP:HD K "fraction" 45
 jx:HD K "greatest_divisor" 46
 zbL:HD K "share" 48
 Q5:HD K "shares" 49
 Jo:HD K "some_count" 50
 xD:HD K "_law_cell_at" 52
 ZQ:HD K "_law_near" 53
 JW:HD K "_law_signs" 54
 JX:HD K "_law_texts" 55
 YZ:HD K "_law_dug" 56
 JY:HD K "_law_board" 57
 xE:HD K "_law_numbers" 58
 ZR:HD K "_law_fits" 59
 xF:HD K "_law_choices" 60
 xG:HD K "_law_layings" 61
 Jp:HD K "_law_closed" 62
 xH:HD K "_law_divisor" 63
 JZ:HD K "_law_share" 64
 yP:HD K "_law_is_share" 65
 xJ:HD K "_law_outcome" 66
 ZS:HD K "_law_told" 67
 zhU:HD K "law" 68
 Jq:XQ K XR "ValueError"=some none
 zhV:XQ K XR "any"=some none
 zet:XQ K XR "bool"=some none
 zeu:XQ K XR "dict"=some none
 Q6:XQ K XR "divmod"=some none
 J0:XQ K XR "enumerate"=some none
 zhW:XQ K XR "int"=some none
 Jr:XQ K XR "isinstance"=some none
 zhX:XQ K XR "len"=some none
 zew:XQ K XR "list"=some none
 zhY:XQ K XR "max"=some none
 zhZ:XQ K XR "min"=some none
 zbM:XQ K XR "range"=some none
 zh0:XQ K XR "set"=some none
 Q7:XQ K XR "sorted"=some none
 zh1:XQ K XR "str"=some none
 zh2:XQ K XR "sum"=some none
 zbN:XQ K XR "tuple"=some none
 zh3:XQ K XR "zip"=some none
 xK:∃t,XQ K XR "CLOSED_SIGN"=some (some (.str "?" t))
 yQ:∃t,XQ K XR "MOST_OF_PART"=some (some (.int 14 t))
 yR:∃t,XQ K XR "NO_CELL_SIGN"=some (some (.str "#" t))
 cls:∃jai jaj jad jaa jac jab jah jaf jae jag:Addr,XQ K XR "StoneError"=some (some (.ref jai))/\XQ K XR "TooGreat"=some (some (.ref jaj))/\XQ K XR "NoLaying"=some (some (.ref jad))/\XQ K XR "NoBoard"=some (some (.ref jaa))/\XQ K XR "NoCount"=some (some (.ref jac))/\XQ K XR "NoCell"=some (some (.ref jab))/\XQ K XR "NoText"=some (some (.ref jah))/\XQ K XR "NoRow"=some (some (.ref jaf))/\XQ K XR "NoNumber"=some (some (.ref jae))/\XQ K XR "NoTable"=some (some (.ref jag))/\WC K jai Jh "ValueError.__new__"=true/\WC K jaj Jh "ValueError.__new__"=true/\WC K jad Jh "ValueError.__new__"=true/\WC K jaa Jh "ValueError.__new__"=true/\WC K jac Jh "ValueError.__new__"=true/\WC K jab Jh "ValueError.__new__"=true/\WC K jah Jh "ValueError.__new__"=true/\WC K jaf Jh "ValueError.__new__"=true/\WC K jae Jh "ValueError.__new__"=true/\WC K jag Jh "ValueError.__new__"=true/\VN K (.ref jad) "__getattribute__"=some (some (.builtin "BaseException.__getattribute__"))/\VN K (.ref jad) "__getattr__"=some none/\VN K (.ref jad) "__class__"=some (some (.builtin "object.__class__"))/\VE K jad (.type "BaseException")=some true/\VE K jad (.type "object")=some true/\Tg K jad=true/\VE K jad (.ref jai)=some true/\W9 K (.ref jad) (.ref jaj)=some false/\W9 K (.ref jad) (.ref jad)=some true/\W9 K (.ref jad) (.ref jaa)=some false/\W9 K (.ref jad) (.ref jac)=some false/\W9 K (.ref jad) (.ref jab)=some false/\W9 K (.ref jad) (.ref jah)=some false/\W9 K (.ref jad) (.ref jaf)=some false/\W9 K (.ref jad) (.ref jae)=some false/\W9 K (.ref jad) (.ref jag)=some false/\W9 K (.ref jad) (.type "ValueError")=some true
end zb3
noncomputable def zb3.view:PySem.Program:={ PySem.Challenge.rw_stonelay_k40_shares_of_layings.prog with main:={ PySem.Challenge.rw_stonelay_k40_shares_of_layings.prog.main with body:=zb3.sel [0,11,20,27,35,38,44,47,51] 0 PySem.Challenge.rw_stonelay_k40_shares_of_layings.prog.main.body } }
namespace zb3
open PySem PySem.W
abbrev rr:=PySem.Challenge.rw_stonelay_k40_shares_of_layings.row
noncomputable abbrev OS:=openSeen view [] (importedModules rr.prog.main.body) (fun s=>xlAt view [] s&&recOk (RowW.records rr.toRowW) s) true
noncomputable abbrev GG:=openGood view []
noncomputable abbrev EN (w:World):=openEnds treeTable rr.prog w 7278
abbrev ob {β γ:Type}(O:Shared->β)(g:β)(w:World)(f:β->γ):Prop:=(EN w).map (fun s=>f (O s))=some (f g)
set_option maxRecDepth 100000
set_option maxHeartbeats 0
theorem sb w:ob OS GG w (·.2.1):=by kernel_rfl
theorem sc w:ob OS GG w (·.2.2.1):=by kernel_rfl
theorem sd w:ob OS GG w fun x=>(x.2.2.2.1,x.2.2.2.2.1):=by kernel_rfl
theorem se w:ob OS GG w (·.2.2.2.2.2):=by kernel_rfl
theorem sa w:ob OS GG w (·.1):=by kernel_rfl
theorem l5 {w}{α:Type}{Y:Shared->α}{y:α}(h:(EN w).map Y=some y):(EN w).map (fun s=>(OS s,Y s))=some (GG,y):=by
 have a:=sa w;have b:=sb w;have c:=sc w;have d:=sd w;have e:=se w
 unfold ob at a b c d e
 generalize EN w=E at a b c d e h ⊢
 cases E with
 | none=>cases a
 | some s=>exact congrArg some (Prod.ext (Prod.ext (Option.some.inj a) (Prod.ext (Option.some.inj b) (Prod.ext (Option.some.inj c) (Prod.ext (congrArg (·.1) (Option.some.inj d)) (Prod.ext (congrArg (·.2) (Option.some.inj d)) (Option.some.inj e)))))) (Option.some.inj h))
end zb3
local macro_rules | `(tactic| o_head $H)=>`(tactic| (refine' zb3.ziQ (q:=zb3.view) (H:=$H) (N:=7278) (fun _=>zb3.l5 (by kernel_rfl)) (by rfl) (by rfl) (by rfl) (by rfl) (by first | assumption | decide +kernel) (by decide +kernel) ⟨rfl,rfl,rfl,rfl,rfl,by decide +kernel⟩ ?_ ?_))
open PySem PySem.W PyProof.Rows in
set_option maxRecDepth 100000 in
set_option maxHeartbeats 0 in
theorem zb3.look:PySem.Challenge.rw_stonelay_k40_shares_of_layings.wellSaid=true:=by kernel_rfl
open PySem PySem.W PyProof.Rows in
set_option maxRecDepth 100000 in
set_option maxHeartbeats 0 in
theorem zb3.early (h:∀{q:Xd} {XP:(Str->Option X9)->Heap->Prop} {YP:WP->Heap->Prop} {d:DefRec} {K:Params->X2},d.params.defaults=[]->(∀(w:WP) (h:Heap),YP w h->(K w.params).In h)->d.name="law"->(∀w:WP,zb3.Facts (K w.params))->Oj q [] XP YP PySem.Challenge.rw_stonelay_k40_shares_of_layings.row.toRowW d [] (fun f vs=>PySem.call f vs)):PySem.Challenge.rw_stonelay_k40_shares_of_layings.Holds:=by
 w_on;refine holds_law zb3.look fun said=>?_;k_head;w_witness2;k_fill;refine h rfl (fun w h Y=>PySem.W.kIn_of Y) rfl fun w=>?_;constructor;all_goals first | k_is | exact⟨_,_,_,_,_,_,_,_,_,_,by k_is,by k_is,by k_is,by k_is⟩ | exact⟨_,by k_is⟩ | exact⟨_,_,_,_,_,_,_,_,_,_,by k_is,by k_is,by k_is,by k_is,by k_is,by k_is,by k_is,by k_is,by k_is,by k_is,by k_exc,by k_exc,by k_exc,by k_exc,by k_exc,by k_exc,by k_exc,by k_exc,by k_exc,by k_exc,by k_is,by k_is,by k_is,by k_is,by k_is,by k_is,by k_is,by kit_is,by kit_is,by kit_is,by kit_is,by kit_is,by kit_is,by kit_is,by kit_is,by kit_is,by kit_is⟩
noncomputable section
namespace L2
open PySem PySem.Spec PyProof.Rows
abbrev Key:=Sum Int Str
def zdy:Key->X9->Bool
 | .inl k,v=>Value.isInt k v
 | .inr x,v=>Value.isStrOf x v
def zoc (w:WP):Key->Int
 | .inl k=>hashInt k
 | .inr x=>hashStr w x
theorem jh:∀{k:Key} {v:X9},zdy k v=true->(∃i t,k=Ox i/\v=Vu i t)\/(∃x t,k=Ow x/\v=NR x t)
 | .inl i,v,h=>by
  obtain⟨t,e⟩:=Value.isInt_shape (k:=i) (v:=v) h;exact .inl ⟨i,t,rfl,e⟩
 | .inr x,v,h=>by
  obtain⟨t,e⟩:=Value.isStrOf_shape (x:=x) (v:=v) h;exact .inr ⟨x,t,rfl,e⟩
theorem zaR (i:Int)(t:Tok):zdy (.inl i) (.int i t)=true:=by simp[zdy,Value.isInt]
theorem ziR (x:Str)(t:Tok):zdy (.inr x) (.str x t)=true:=by simp[zdy,Value.isStrOf]
theorem zod (a b:Int):decide ((Ox a:Key)=Ox b)=(a==b):=by
 by_cases e:a=b
 ·subst e;simp
 ·have h:¬ (Ox a:Key)=Ox b:=fun q=>e (Sum.inl.inj q);rw[decide_eq_false h];exact(beq_eq_false_iff_ne.mpr e).symm
theorem zoe (a b:Str):decide ((Ow a:Key)=Ow b)=decide (a=b):=by
 by_cases e:a=b
 ·subst e;simp
 ·have h:¬ (Ow a:Key)=Ow b:=fun q=>e (Sum.inr.inj q);rw[decide_eq_false h,decide_eq_false e]
theorem zof (a:Int)(b:Str):decide ((Ox a:Key)=Ow b)=false:=decide_eq_false (fun q=>nomatch q)
theorem zog (a:Str)(b:Int):decide ((Ow a:Key)=Ox b)=false:=decide_eq_false (fun q=>nomatch q)
def zV (prog:Xd)(w:WP):PySem.KeyKind prog w Key where
 is:=zdy
 hash:=zoc w
 inj:=fun v a b ha hb=>by
  rcases jh ha with ⟨i,t,rfl,rfl⟩ | ⟨x,t,rfl,rfl⟩
  ·rcases jh hb with ⟨j,u,rfl,e⟩ | ⟨y,u,rfl,e⟩
   ·injection e with e1 _;rw[e1]
   ·exact nomatch e
  ·rcases jh hb with ⟨j,u,rfl,e⟩ | ⟨y,u,rfl,e⟩
   ·exact nomatch e
   ·injection e with e1 _;rw[e1]
 byValue:=fun k v h=>by
  rcases jh h with ⟨i,t,rfl,rfl⟩ | ⟨x,t,rfl,rfl⟩<;>rfl
 pyHash:=fun hv h=>by
  rcases jh hv with ⟨i,t,rfl,rfl⟩ | ⟨x,t,rfl,rfl⟩
  ·exact wpAny_pyHash_int h
  ·exact wpAny_pyHash_str h
 eqBool:=fun hu hv h=>by
  rcases jh hu with ⟨i,t,rfl,rfl⟩ | ⟨x,t,rfl,rfl⟩
  ·rcases jh hv with ⟨j,u,rfl,rfl⟩ | ⟨y,u,rfl,rfl⟩
   ·rw[zod] at h;exact wpAny_eqBool_int h
   ·rw[zof] at h;exact SeqAt.EqAt.int_str i t y u _ _ _ _ h
  ·rcases jh hv with ⟨j,u,rfl,rfl⟩ | ⟨y,u,rfl,rfl⟩
   ·rw[zog] at h;exact SeqAt.EqAt.str_int x t j u _ _ _ _ h
   ·rw[zoe] at h;exact wpAny_eqBool_str h
 «strs»:=fun k x t v h=>by
  rcases jh h with ⟨i,u,rfl,e⟩ | ⟨y,u,rfl,e⟩
  ·exact nomatch e
  ·injection e with e1 _
   subst e1;cases v<;>rfl
theorem zfo (prog:Xd)(w:WP)(i:Int)(t:Tok):(zV prog w).is (.inl i) (.int i t)=true:=zaR i t
theorem zfp (prog:Xd)(w:WP)(x:Str)(t:Tok):(zV prog w).is (.inr x) (.str x t)=true:=ziR x t
inductive V where
 | non | bl (b:Bool) | int (i:Int) | str (x:Str) | byt (b:Array UInt8) | flt (b:UInt64) | ref (a:Addr) | ty (n:String)
 deriving DecidableEq
def RelV:V->X9->Prop
 | .non,u=>u=VC
 | .bl b,u=>u=Ta b
 | .int i,u=>∃t,u=Vu i t
 | .str x,u=>∃t,u=NR x t
 | .byt b,u=>∃t,u=Value.bytes b t
 | .flt b,u=>∃t,u=Value.float b t
 | .ref a,u=>u=WU a
 | .ty n,u=>u=Rz n
abbrev Vals:List V->List X9->Prop:=WV RelV
theorem Vals.length {xs:List V}{us:List X9}(r:Vals xs us):xs.length=us.length:=Paired.length r
theorem Vals.get:∀{xs:List V} {us:List X9} {i:Nat} {x:V},Vals xs us->xs[i]?=some x->∃u,us[i]?=some u/\RelV x u
 | _,_,_,_,.nil,e=>by simp at e
 | _,_,0,_,.cons r _,e=>by simp at e;subst e;exact⟨_,rfl,r⟩
 | _,_,i+1,x,.cons _ t,e=>by
  obtain⟨u,h1,h2⟩:=Vals.get (i:=i) (x:=x) t (by simpa using e);exact⟨u,by simpa using h1,h2⟩
theorem Vals.set {x:V}{u:X9}(r:RelV x u):∀{xs:List V} {us:List X9} (i:Nat),Vals xs us->Vals (xs.set i x) (us.set i u)
 | _,_,_,.nil=>.nil
 | _,_,0,.cons _ t=>.cons r t
 | _,_,i+1,.cons q t=>.cons q (Vals.set r i t)
theorem Vals.append:∀{xs ys:List V} {us ws:List X9},Vals xs us->Vals ys ws->Vals (xs++ys) (us++ws)
 | _,_,_,_,.nil,s=>s
 | _,_,_,_,.cons r t,s=>.cons r (Vals.append t s)
theorem Vals.take:∀{xs:List V} {us:List X9} (n:Nat),Vals xs us->Vals (xs.take n) (us.take n)
 | _,_,0,_=>.nil
 | _,_,_+1,.nil=>.nil
 | _,_,n+1,.cons r t=>.cons r (Vals.take n t)
theorem Vals.drop:∀{xs:List V} {us:List X9} (n:Nat),Vals xs us->Vals (xs.drop n) (us.drop n)
 | _,_,0,r=>r
 | _,_,_+1,.nil=>.nil
 | _,_,n+1,.cons _ t=>Vals.drop n t
def zb4:Option V->Option X9->Prop
 | some v,some u=>RelV v u
 | none,none=>True
 | _,_=>False
def KV {κ:Type}:List (κ × V)->List (κ × X9)->Prop:=WV fun (p:κ × V) (q:κ × X9)=>p.1=q.1/\RelV p.2 q.2
def kV:Key->V
 | .inl i=>.int i
 | .inr x=>.str x
inductive HO where
  | lst (xs:List V)
  | tup (xs:List V)
  | dK (kvs:List (Key×V)) | dT (kvs:List (List Key×V))
  | set (S:Int->Bool) (n:Nat)
  | ins (C dx:Addr) (fs:List (Str×V))
  | own (x:Addr)
  | xd (fs:List (Str×V))
  | met (f x:Addr)
  | rng (lo hi:Int)
  | frz (o:Obj) (u:HO)
  | tbl (ps:Array X9)
  | ext (φ:Heap->Prop)
abbrev Hp:=Addr->Option HO
def upd (H:Hp)(a:Addr)(o:HO):Hp:=fun b=>if b=a then some o else H b
theorem zc {H:Hp}{a:Addr}{o:HO}:upd H a o a=some o:=by unfold upd;rw[if_pos rfl]
theorem zh {H:Hp}{a b:Addr}{o:HO}(h:b≠a):upd H a o b=H b:=by unfold upd;rw[if_neg h]
theorem zdz {H:Hp}{a b:Addr}{o u:HO}(h:H a=some o)(h':H b=some u)(d:o≠u):a≠b:=by
 intro e;subst e;rw[h] at h';exact d (Option.some.inj h')
theorem zj {H:Hp}{a b:Addr}{o:HO}(h:H a=some o)(h':H b=none):a≠b:=by
 intro e;subst e;rw[h] at h';cases h'
section
variable (P:Xd)(w:WP)
def qM (H:Hp)(h:Heap)(a:Addr):HO->Prop
 | .lst xs=>xs.length<=Xz/\∃(its:List X9) (n:Nat),Vals xs its/\h.get? a=some { cls:=.type "list",data:=.seq its.toArray n }
 | .tup xs=>xs.length<=Xz/\∃its:List X9,Vals xs its/\NK h a its.toArray
 | .dK kvs=>kvs.length<=Xz/\(a==UC)=false/\∃vs,KV kvs vs/\h.DictOf (zV P w) a vs
 | .dT kvs=>kvs.length<=Xz/\(a==UC)=false/\∃xs:List (List Key×Addr×X9),
   WV (fun (p:List Key×V) (q:List Key×Addr×X9)=>p.1=q.1/\H q.2.1=some (.tup (p.1.map kV))/\RelV p.2 q.2.2) kvs xs /\
   ∃o es ep,h.get? a=some o/\o.ExactDict/\o.data=.dict es ep/\es.toList=xs.map (entryOfKey (VP (zV P w)))/\(xs.map (·.1)).Nodup
 | .set S n=>h.SetOf (intKind P w) a S n
 | .ins C dx fs=>H dx=some (.own a)/\fs.length<=1000/\dx≠a/\h.get? a=some (Pb C dx) /\
   ∃mA,h.Ns1 dx mA/\(∀f,zb4 (fs.lookup f) (mA f))/\PySem.Within mA (fs.map (·.1))
 | .own _=>∃o,h.get? a=some o
 | .xd fs=>∃mA,h.Ns1 a mA/\∀f,zb4 (fs.lookup f) (mA f)
 | .rng lo hi=>∃t u v,h.get? a=some { cls:=.type "range",data:=.fields #[.int lo t,.int hi u,.int 1 v] }
 | .frz o u=>h.get? a=some o/\qM H h a u
 | .tbl ps=>h.get? a=some { cls:=.none,data:=.fields ps }
 | .met f x=>h.get? a=some (Rf (.ref f) (.ref x))
 | .ext φ=>φ h/\(∃o,h.get? a=some o)/\∀h1 h2:Heap,φ h1->(∀o,h1.get? a=some o->h2.get? a=some o)->φ h2
def HOk (H:Hp)(h:Heap):Prop:=∀a o,H a=some o->qM P w H h a o
end
section
variable {P:Xd}{w:WP}{H H':Hp}{h h':Heap}{a:Addr}{o:HO}
theorem qM.lt (x:qM P w H h a o):a<h.objs.size:=by
 cases o with
 | lst xs=>obtain⟨_,_,_,_,e⟩:=x;exact XO e
 | tup xs=>obtain⟨_,_,_,p⟩:=x;exact p.lt
 | dK kvs=>obtain⟨_,_,_,_,o,_,_,e,_⟩:=x;exact XO e
 | dT kvs=>obtain⟨_,_,_,_,o,_,_,e,_⟩:=x;exact XO e
 | set S n=>obtain⟨o,_,_,_,e,_⟩:=x;exact XO e
 | ins C dx fs=>obtain⟨_,_,_,e,_⟩:=x;exact XO e
 | own y=>obtain⟨_,e⟩:=x;exact XO e
 | xd fs=>obtain⟨_,⟨_,_,_,e,_⟩,_⟩:=x;exact XO e
 | rng lo hi=>obtain⟨_,_,_,e⟩:=x;exact XO e
 | frz ob u=>obtain⟨e,_⟩:=x;exact XO e
 | tbl ps=>exact XO (show h.get? a=some _ from x)
 | met f y=>exact XO (show h.get? a=some _ from x)
 | ext φ=>obtain⟨_,⟨_,e⟩,_⟩:=x;exact XO e
theorem Paired.mapP {α β:Type}{F G:α->β->Prop}:∀{l₁:List α} {l₂:List β},WV F l₁ l₂->(∀a b,F a b->G a b)->WV G l₁ l₂
 | _,_,.nil,_=>.nil
 | _,_,.cons r t,f=>.cons (f _ _ r) (Paired.mapP t f)
theorem qM.stay (x:qM P w H h a o)(k:∀b u,(b=a\/H b=some (.own a))->h.get? b=some u->h'.get? b=some u)
  (ho:∀b,H b=some (.own a)->H' b=some (.own a)) (ht:∀b xs,H b=some (.tup xs)->H' b=some (.tup xs)):qM P w H' h' a o:=by
 induction o with
 | lst xs=>obtain⟨z,its,n,r,e⟩:=x;exact⟨z,its,n,r,k _ _ (.inl rfl) e⟩
 | tup xs=>obtain⟨z,its,r,ob,e,c⟩:=x;exact⟨z,its,r,ob,k _ _ (.inl rfl) e,c⟩
 | dK kvs=>obtain⟨z,y,vs,r,ob,es,ep,e,c⟩:=x;exact⟨z,y,vs,r,ob,es,ep,k _ _ (.inl rfl) e,c⟩
 | dT kvs =>
  obtain⟨z,y,xs,r,ob,es,ep,e,c⟩:=x;exact⟨z,y,xs,Paired.mapP r fun p q z=>⟨z.1,ht _ _ z.2.1,z.2.2⟩,ob,es,ep,k _ _ (.inl rfl) e,c⟩
 | set S n=>obtain⟨ob,es,ep,t,e,c⟩:=x;exact⟨ob,es,ep,t,k _ _ (.inl rfl) e,c⟩
 | ins C dx fs =>
  obtain⟨d,z,ne,e,mA,⟨od,es,ep,e2,c⟩,r⟩:=x;exact⟨ho _ d,z,ne,k _ _ (.inl rfl) e,mA,⟨od,es,ep,k _ _ (.inr d) e2,c⟩,r⟩
 | own y=>obtain⟨ob,e⟩:=x;exact⟨ob,k _ _ (.inl rfl) e⟩
 | xd fs=>obtain⟨mA,⟨od,es,ep,e,c⟩,r⟩:=x;exact⟨mA,⟨od,es,ep,k _ _ (.inl rfl) e,c⟩,r⟩
 | rng lo hi=>obtain⟨t,u,v,e⟩:=x;exact⟨t,u,v,k _ _ (.inl rfl) e⟩
 | frz ob u ih=>obtain⟨e,q⟩:=x;exact⟨k _ _ (.inl rfl) e,ih q⟩
 | tbl ps =>
  have e:h.get? a=some { cls:=.none,data:=.fields ps }:=x;show h'.get? a=some { cls:=.none,data:=.fields ps };exact k a _ (.inl rfl) e
 | met f y =>
  have e:h.get? a=some (Rf (.ref f) (.ref y)):=x;show h'.get? a=some (Rf (.ref f) (.ref y));exact k a _ (.inl rfl) e
 | ext φ=>obtain⟨p,⟨o,e⟩,st⟩:=x;exact⟨st _ _ p fun o q=>k _ _ (.inl rfl) q,⟨o,k _ _ (.inl rfl) e⟩,st⟩
theorem HOk.lt (x:HOk P w H h)(e:H a=some o):a<h.objs.size:=(x a o e).lt
theorem HOk.fresh (x:HOk P w H h)(e:h.objs.size<=a):H a=none:=by
 cases q:H a with
 | none=>rfl
 | some u=>exact absurd (Xn (x.lt q) e) (V8 _)
theorem HOk.kept (x:HOk P w H h)(k:∀b u,h.get? b=some u->h'.get? b=some u):HOk P w H h':=fun a o e =>
 (x a o e).stay (fun b u _ q=>k b u q) (fun _ q=>q) fun _ _ q=>q
theorem HOk.laid (x:HOk P w H h)(k:∀b u,h.get? b=some u->h'.get? b=some u)(hp:h.objs.size<=a)(new:qM P w (upd H a o) h' a o):HOk P w (upd H a o) h':=fun b u e=>by
 have hn:=x.fresh hp;by_cases hb:b=a
 ·subst hb;rw[zc] at e;cases e;exact new
 ·rw[zh hb] at e;exact(x b u e).stay (fun c v _ q=>k c v q) (fun c q=>by rw[zh (zj q hn)];exact q) fun c xs q=>by rw[zh (zj q hn)];exact q
end
def Rd (H:Hp)(a:Addr)(u:HO):Prop:=H a=some u\/∃o,H a=some (.frz o u)
theorem Rd.ok {P:Xd}{w:WP}{H:Hp}{h:Heap}{a:Addr}{u:HO}(r:Rd H a u)(x:HOk P w H h):qM P w H h a u:=by
 rcases r with r | ⟨o,r⟩
 ·exact x a u r
 ·obtain⟨_,q⟩:=x a _ r;exact q
def Mut:Option HO->Prop
 | some (.lst _)=>True
 | some (.dK _)=>True
 | some (.dT _)=>True
 | some (.set _ _)=>True
 | some (.ins _ _ _)=>True
 | some (.ext _)=>True
 | _=>False
section
variable {P:Xd}{w:WP}{H:Hp}{h h':Heap}{x e:Addr}{o':HO}
theorem HOk.write (ok:HOk P w H h)(mu:Mut (H x))(he:e=x\/H e=some (.own x))(k:∀b u,b≠e->h.get? b=some u->h'.get? b=some u)(heo:∃u,h'.get? e=some u)
  (new:qM P w (upd H x o') h' x o'):HOk P w (upd H x o') h':=fun b u q=>by
 have nown:∀c y,H c=some (.own y)->c≠x:=fun c y r z=>by subst z;rw[r] at mu;exact mu
 have ntup:∀c xs,H c=some (.tup xs)->c≠x:=fun c xs r z=>by subst z;rw[r] at mu;exact mu
 by_cases hb:b=x
 ·subst hb;rw[zc] at q;cases q;exact new
 ·rw[zh hb] at q;by_cases hbe:b=e
  ·have q':H b=some (.own x):=by
    rcases he with z | z
    ·exact absurd (hbe.trans z) hb
    ·rw[hbe];exact z
   rw[q] at q';cases q';obtain⟨v,hv⟩:=heo;exact⟨v,by rw[hbe];exact hv⟩
  ·refine(ok b u q).stay (fun c v hc r=>k c v ?_ r) (fun c r=>by rw[zh (nown c b r)];exact r) fun c xs r=>by rw[zh (ntup c xs r)];exact r
   rcases hc with rfl | hc
   ·exact hbe
   ·rintro rfl;rcases he with z | z
    ·exact nown c b hc z
    ·rw[hc] at z;cases z;exact hb rfl
end
structure Un (fs ex:List Addr)(H H':Hp)(h h':Heap):Prop where
 keep:∀b o,h.get? b=some o->H b=none->b ∉ fs->b ∉ ex->h'.get? b=some o
 slot:∀b o,h.get? b=some o->H b=none->b∈fs->b ∉ ex->∃sl,h'.get? b=some { o with slots:=sl }
 free:∀b o,h.get? b=some o->H b=none->b ∉ ex->H' b=none
 there:∀b o,h.get? b=some o->b ∉ ex->∃o',h'.get? b=some o'
 tups:∀b xs,H b=some (.tup xs)->H' b=some (.tup xs)
 frzs:∀b o u,H b=some (.frz o u)->H' b=some (.frz o u)
 tbls:∀b ps,H b=some (.tbl ps)->∃more,H' b=some (.tbl (ps++more))
section
variable {fs fs' ex ex':List Addr}{H H1 H2:Hp}{h h1 h2 h':Heap}{a x e:Addr}{o:HO}
theorem Un.any (u:Un fs ex H H1 h h1){b:Addr}{ob:Obj}(q:h.get? b=some ob)(n:H b=none)(hx:b ∉ ex):∃sl,h1.get? b=some { ob with slots:=sl }:=by
 by_cases hb:b∈fs
 ·exact u.slot b ob q n hb hx
 ·exact⟨ob.slots,u.keep b ob q n hb hx⟩
theorem Un.kept (k:∀b u,h.get? b=some u->h'.get? b=some u):Un fs ex H H h h' :=
 ⟨fun b ob q _ _ _=>k b ob q,fun b ob q _ _ _=>⟨ob.slots,k b ob q⟩,fun _ _ _ n _=>n,fun b ob q _=>⟨ob,k b ob q⟩,fun _ _ q=>q,fun _ _ _ q=>q,fun _ ps q=>⟨#[],by rw[q];simp⟩⟩
theorem Un.refl:Un fs ex H H h h:=Un.kept fun _ _ q=>q
theorem Un.laid (k:∀b u,h.get? b=some u->h'.get? b=some u)(hp:h.objs.size<=a)(hn:H a=none):Un fs ex H (upd H a o) h h' where
 keep:=fun b u q _ _ _=>k b u q
 slot:=fun b u q _ _ _=>⟨u.slots,k b u q⟩
 free:=fun b u q n _=>by rw[zh (Xk (Xn (XO q) hp))];exact n
 there:=fun b u q _=>⟨u,k b u q⟩
 tups:=fun b xs q=>by rw[zh (zj q hn)];exact q
 frzs:=fun b u xs q=>by rw[zh (zj q hn)];exact q
 tbls:=fun b ps q=>⟨#[],by rw[zh (zj q hn),q];simp⟩
theorem Un.write (mu:Mut (H x))(he:e=x\/H e=some (.own x))(k:∀b u,b≠e->h.get? b=some u->h'.get? b=some u)(heo:∃u,h'.get? e=some u):Un fs ex H (upd H x o) h h':=by
 have hx:∀b,H b=none->b≠x:=fun b n z=>by subst z;rw[n] at mu;exact mu
 have hb:∀b,H b=none->b≠e:=fun b n z=>by
  subst z;rcases he with r | r
  ·exact hx b n r
  ·rw[n] at r;cases r
 have hm:∀b u,H b=some u->¬ Mut (some u)->b≠x:=fun b u q nm z=>by subst z;rw[q] at mu;exact nm mu
 refine⟨fun b u q n _ _=>k b u (hb b n) q,fun b u q n _ _=>⟨u.slots,k b u (hb b n) q⟩,fun b u q n _=>by rw[zh (hx b n)];exact n,fun b u q _=>?_,
  fun b xs q=>by rw[zh (hm b _ q fun z=>z)];exact q,fun b u xs q=>by rw[zh (hm b _ q fun z=>z)];exact q,fun b ps q=>⟨#[],by rw[zh (hm b _ q fun z=>z),q];simp⟩⟩
 by_cases hbe:b=e
 ·subst hbe;exact heo
 ·exact⟨u,k b u hbe q⟩
end
def trk (h:Heap)(H:Hp):List Addr:=(XD h.objs.size).filter fun a=>(H a).isSome
def zex (h:Heap)(H:Hp):Heap:=PySem.W.hideAll h (trk h H)
theorem ziS (h:Heap)(H:Hp):(zex h H).objs.size=h.objs.size:=PySem.W.hideAll_size _ _
theorem zj1 {h:Heap}{H:Hp}{b:Addr}{o:Obj}(e:h.get? b=some o)(n:H b=none):(zex h H).get? b=some o :=
 Tu _ e fun hm=>by
  have q:(H b).isSome=true:=(XV.mp hm).2;rw[n] at q;simp at q
theorem zmv {h:Heap}{H:Hp}{b:Addr}{o:Obj}(e:(zex h H).get? b=some o):h.get? b=some o/\H b=none:=by
 have e':h.get? b=some o:=PySem.W.of_hideAll (trk h H) e;refine⟨e',?_⟩;cases q:H b with
 | none=>rfl
 | some x =>
  have hm:b∈trk h H:=XV.mpr ⟨Xc.mpr (XO e'),by simp[q]⟩;have z:(zex h H).get? b=none:=PySem.W.hideAll_none (trk h H) hm;rw[z] at e;cases e
structure Mod (K:X2)(mg:Str->Option X9)(base:Heap):Prop where
 kin:K.In base
 glob:base.Ns XR mg
 blt:∃mb,base.Ns Oa mb/\∀x:Str,x ≠ "__name__"->mb x=TH x
 nolimit:base.NoLimit
structure Cx where
 prog:Xd
 w:WP
 K:X2
 mg:Str->Option X9
 base:Heap
 A:WK
 N:List Str
 s₀:X8
 H₀:Hp
 env:Env
 outer:List Env
 stack:List Env
 ex:List Addr
 fn:Str->Bool
 calm:Bool
 pn:List (Addr×Obj)
 xe:X9->X8->Prop
def frs (l:List Env):List Addr:=l.filterMap (·.frame)
abbrev Cx.fs (X:Cx):List Addr:=frs X.outer
def Vis (sc:Uk)(x:Str):Prop:=sc.names.lookup x=some .local\/sc.names.lookup x=some .cell\/sc.names.lookup x=some .free
def Loc (sc:Uk)(x:Str):Prop:=sc.names.lookup x=some .local\/sc.names.lookup x=some .cell
def Look (env:Env)(h:Heap)(m:Str->Option X9)(x:Str)(u:X9):Prop :=
 (env.kindOf x=some .local/\m x=some u)\/((env.kindOf x=some .cell\/env.kindOf x=some .free)/\∃c,env.cells.lookup x=some c/\h.IsCell c (some u))
structure Cx.Ok (X:Cx):Prop where
 mod:Mod X.K X.mg X.base
 kind:X.env.scope.kind=.function
 glob:X.env.globals=XR
 blt:X.env.builtins=Oa
 above:X.s₀.heap.objs.size<=X.env.locals
 inj:∀x y c,X.env.cells.lookup x=some c->X.env.cells.lookup y=some c->x=y
 has:∀x,(X.env.kindOf x=some .cell\/X.env.kindOf x=some .free)->∃c,X.env.cells.lookup x=some c
 cab:∀x c,X.fn x=true->X.env.cells.lookup x=some c->X.s₀.heap.objs.size<=c
 hd:X.calm=true->X.A.handled=none
 frames:X.A.frames=some X.stack
 stk:X.stack=X.outer\/(X.stack=X.env::X.outer/\X.env.frame=some X.env.locals)
 exf:∀b∈X.ex,b≠X.env.locals/\∀x c,X.env.cells.lookup x=some c->c≠b
 bs:∀b o,X.base.get? b=some o->X.s₀.heap.get? b=some o/\X.H₀ b=none
 bsz:X.base.objs.size<=X.s₀.heap.objs.size
 noex:∀b o,X.base.get? b=some o->b ∉ X.ex
 exfs:∀b∈X.ex,b ∉ X.fs
 funs:X.s₀.heap.FunFrames X.base X.outer
 frf:∀b∈X.fs,X.H₀ b=none
structure Inv (X:Cx)(pins:List (Addr×Obj))(σ:List (Option V))(H:Hp)(s:X8):Prop where
 ok:X.Ok
 os:s.os=X.s₀.os
 bare:R6 s.gens
 base:Un X.fs X.ex X.H₀ H X.s₀.heap s.heap
 loc:∃m,s.heap.Ns X.env.locals m/\∀(i:Nat) (x:Str) (v:V),X.N[i]?=some x->σ[i]?=some (some v)->Vis X.env.scope x->∃u,RelV v u/\Look X.env s.heap m x u
 cell:∀x c,X.env.cells.lookup x=some c->∃v,s.heap.IsCell c v
 free:H X.env.locals=none
 freeC:∀x c,X.env.cells.lookup x=some c->H c=none
 pin:∀p∈X.pn++pins,s.heap.get? p.1=some p.2/\H p.1=none/\p.1≠X.env.locals/\p.1 ∉ X.fs/\∀v,p.2.data ≠ .cell v
 hok:HOk X.prog X.w H s.heap
 len:σ.length=X.N.length
section
variable {X:Cx}{pins:List (Addr×Obj)}{σ:List (Option V)}{H H':Hp}{s:X8}{h':Heap}
theorem Cx.Ok.nofr (ok:X.Ok){b:Addr}{o:Obj}(e:X.base.get? b=some o):b ∉ X.fs:=fun hb=>by
 have:=(ok.funs.mem hb).1;rw[e] at this;cases this
theorem Inv.bs (I:Inv X pins σ H s):∀b o,X.base.get? b=some o->s.heap.get? b=some o/\H b=none:=fun b o e =>
 ⟨I.base.keep b o (I.ok.bs b o e).1 (I.ok.bs b o e).2 (I.ok.nofr e) (I.ok.noex b o e),I.base.free b o (I.ok.bs b o e).1 (I.ok.bs b o e).2 (I.ok.noex b o e)⟩
theorem Inv.bk (I:Inv X pins σ H s):∀b o,X.base.get? b=some o->s.heap.get? b=some o:=fun b o e=>(I.bs b o e).1
theorem Inv.mod (I:Inv X pins σ H s):Mod X.K X.mg X.base:=I.ok.mod
theorem Inv.kIn (I:Inv X pins σ H s):X.K.In s.heap:=I.ok.mod.kin.keeps I.bk
theorem Inv.lt (I:Inv X pins σ H s):X.env.locals<s.heap.objs.size:=let ⟨_,hn,_⟩:=I.loc;hn.lt
theorem Inv.sz (I:Inv X pins σ H s):X.s₀.heap.objs.size<=s.heap.objs.size:=X5 I.ok.above (SN I.lt)
theorem Inv.nofs (I:Inv X pins σ H s){a:Addr}(h:s.heap.objs.size<=a):a ∉ X.fs:=fun hb=>by
 obtain⟨_,o,ho,_⟩:=I.ok.funs.mem hb;exact absurd (Xn (XO ho) (X5 I.sz h)) (V8 _)
theorem Inv.cne (I:Inv X pins σ H s):∀x c,X.env.cells.lookup x=some c->c≠X.env.locals:=fun x c e z=>by
 obtain⟨v,o,ho,hd⟩:=I.cell x c e;obtain⟨m,⟨o',es,ep,ho',hd',_⟩,_⟩:=I.loc;rw[z,ho'] at ho;cases ho;rw[hd'] at hd;cases hd
theorem Inv.funs (I:Inv X pins σ H s):s.heap.FunFrames X.base X.outer:=by
 have all:∀(l:List Env),(∀b∈frs l,b∈X.fs)->X.s₀.heap.FunFrames X.base l->s.heap.FunFrames X.base l:=by
  intro l;induction l with
  | nil=>intro _ _;trivial
  | cons env r ih =>
   intro hs hl;obtain⟨hk,⟨L,o,hf,hn,ho,hd⟩,hr⟩:=hl;have hL:L∈X.fs:=hs L (by unfold frs;rw[U5,hf];exact XS);obtain⟨sl,e⟩:=I.base.slot L o ho (I.ok.frf L hL) hL fun z=>I.ok.exfs L z hL;exact⟨hk,⟨L,_,hf,hn,e,hd⟩,ih (fun b hb=>hs b (by unfold frs;rw[U5,hf];exact XT _ hb)) hr⟩
 exact all X.outer (fun _ hb=>hb) I.ok.funs
theorem Inv.stack (I:Inv X pins σ H s):s.heap.FunFrames X.base X.stack:=by
 rcases I.ok.stk with e | ⟨e,hf⟩
 ·rw[e];exact I.funs
 ·rw[e];obtain⟨m,hn,_⟩:=I.loc;refine .cons (by rw[I.ok.kind];decide) hf hn ?_ I.funs;exact UE (X5 I.ok.bsz I.ok.above)
theorem Inv.stkSub (I:Inv X pins σ H s):∀b∈frs X.stack,b∈X.env.locals::X.fs:=fun b hb=>by
 rcases I.ok.stk with e | ⟨e,hf⟩
 ·rw[e] at hb;exact XT _ hb
 ·rw[e] at hb;unfold frs at hb;rw[U5,hf] at hb;exact hb
theorem Inv.stkFree (I:Inv X pins σ H s):∀b∈frs X.stack,H b=none:=fun b hb=>by
 rcases XJ.mp (I.stkSub b hb) with e | hb
 ·rw[e];exact I.free
 ·obtain⟨_,o,ho,_⟩:=I.ok.funs.mem hb;exact I.base.free b o ho (I.ok.frf b hb) fun z=>I.ok.exfs b z hb
theorem Inv.step {g':Array Ut}{t':Nat}{d':NJ}{ch:List Addr}(I:Inv X pins σ H s)
  (hch:∀b∈ch,(b∈X.ex\/X.s₀.heap.objs.size<=b)/\b≠X.env.locals/\(∀x c,X.env.cells.lookup x=some c->c≠b)/\∀p∈X.pn++pins,p.1≠b)
  (keep:∀b o,b≠X.env.locals->b ∉ X.fs->b ∉ ch->s.heap.get? b=some o->H b=none->h'.get? b=some o)
  (slot:∀b o,b≠X.env.locals->b∈X.fs->b ∉ ch->s.heap.get? b=some o->H b=none->∃sl,h'.get? b=some { o with slots:=sl }) (free:∀b o,b ∉ ch->s.heap.get? b=some o->H b=none->H' b=none)
  (there:∀b o,b ∉ ch->s.heap.get? b=some o->∃o',h'.get? b=some o')
  (tups:∀b xs,H b=some (.tup xs)->H' b=some (.tup xs)) (frzs:∀b o u,H b=some (.frz o u)->H' b=some (.frz o u)) (tbls:∀b ps,H b=some (.tbl ps)->∃more,H' b=some (.tbl (ps++more)))
  (ns:∀m,s.heap.Ns X.env.locals m->h'.Ns X.env.locals m) (hok:HOk X.prog X.w H' h') (hg:R6 g') :
  Inv X pins σ H' { s with heap:=h',gens:=g',drawn:=d',toks:=t' }:=by
 have neL:∀b o,X.s₀.heap.get? b=some o->b≠X.env.locals:=fun b o e=>Xk (Xn (XO e) I.ok.above);have neC:∀b o,X.s₀.heap.get? b=some o->b ∉ X.ex->b ∉ ch:=fun b o e hx hb=>by
  rcases(hch b hb).1 with z | z
  ·exact hx z
  ·exact absurd (Xn (XO e) z) (V8 _)
 have cellK:∀x c,X.env.cells.lookup x=some c->∀v,s.heap.IsCell c v->h'.IsCell c v:=fun x c e v ⟨o,ho,hd⟩=>by
  have nch:c ∉ ch:=fun z=>(hch c z).2.2.1 x c e rfl;by_cases hc:c∈X.fs
  ·obtain⟨sl,q⟩:=slot c o (I.cne x c e) hc nch ho (I.freeC x c e);exact⟨_,q,hd⟩
  ·exact⟨o,keep c o (I.cne x c e) hc nch ho (I.freeC x c e),hd⟩
 refine⟨I.ok,I.os,hg,⟨fun b o e n hb hx=>?_,fun b o e n hb hx=>?_,fun b o e n hx=>?_,fun b o e hx=>?_,fun b xs e=>tups b xs (I.base.tups b xs e),fun b o xs e=>frzs b o xs (I.base.frzs b o xs e),fun b ps e=>?_⟩,?_,fun x c e=>?_,?_,fun x c e=>?_,fun p hp=>?_,hok,I.len⟩
 ·exact keep b o (neL b o e) hb (neC b o e hx) (I.base.keep b o e n hb hx) (I.base.free b o e n hx)
 ·obtain⟨sl,e1⟩:=I.base.slot b o e n hb hx;obtain⟨sl',e2⟩:=slot b _ (neL b o e) hb (neC b o e hx) e1 (I.base.free b o e n hx);exact⟨sl',e2⟩
 ·obtain⟨o',e1⟩:=I.base.there b o e hx;exact free b o' (neC b o e hx) e1 (I.base.free b o e n hx)
 ·obtain⟨o',e1⟩:=I.base.there b o e hx;exact there b o' (neC b o e hx) e1
 ·obtain⟨m1,e1⟩:=I.base.tbls b ps e;obtain⟨m2,e2⟩:=tbls b _ e1;exact⟨m1++m2,by rw[e2,Array.append_assoc]⟩
 ·obtain⟨m,hn,hl⟩:=I.loc;refine⟨m,ns m hn,fun i x v e1 e2 e3=>?_⟩;obtain⟨u,r,l⟩:=hl i x v e1 e2 e3;refine⟨u,r,?_⟩;rcases l with l | ⟨k,c,e,z⟩
  ·exact .inl l
  ·exact .inr ⟨k,c,e,cellK x c e _ z⟩
 ·obtain⟨v,z⟩:=I.cell x c e;exact⟨v,cellK x c e v z⟩
 ·obtain⟨m,⟨o,_,_,ho,_⟩,_⟩:=I.loc;exact free _ o (fun z=>(hch _ z).2.1 rfl) ho I.free
 ·obtain⟨v,o,ho,hd⟩:=I.cell x c e;exact free c o (fun z=>(hch c z).2.2.1 x c e rfl) ho (I.freeC x c e)
 ·obtain⟨e,n,ne,nf,d⟩:=I.pin p hp;have nch:p.1 ∉ ch:=fun z=>(hch p.1 z).2.2.2 p hp rfl;exact⟨keep p.1 p.2 ne nf nch e n,free p.1 p.2 nch e n,ne,nf,d⟩
theorem Inv.un {t':Nat}(I:Inv X pins σ H s)(u:Un X.fs [] H H' s.heap h')(hok:HOk X.prog X.w H' h'):Inv X pins σ H' { s with heap:=h',toks:=t' }:=by
 obtain⟨m,⟨o,es,ep,ho,r⟩,_⟩:=id I.loc;obtain⟨sl,hL⟩:=u.any ho I.free (by simp);exact I.step (g':=s.gens) (d':=s.drawn) (ch:=[]) (fun _ z=>nomatch z) (fun b o _ hb _ e n=>u.keep b o e n hb (by simp)) (fun b o _ hb _ e n=>u.slot b o e n hb (by simp)) (fun b o _ e n=>u.free b o e n (by simp)) (fun b o _ e=>u.there b o e (by simp)) u.tups u.frzs u.tbls (fun m' hm=>by
  obtain⟨o',es',ep',ho',r'⟩:=hm;rw[ho] at ho';cases ho';exact⟨_,es',ep',hL,r'⟩) hok I.bare
theorem Inv.call {g':Array Ut}{t':Nat}{d':NJ}{ch:List Addr}(I:Inv X pins σ H s)(u:Un (frs X.stack) ch H H' s.heap h')(hok:HOk X.prog X.w H' h')(hg:R6 g')
  (hch:∀b∈ch,(b∈X.ex\/X.s₀.heap.objs.size<=b)/\b≠X.env.locals/\(∀x c,X.env.cells.lookup x=some c->c≠b)/\∀p∈X.pn++pins,p.1≠b) :
  Inv X pins σ H' { s with heap:=h',gens:=g',drawn:=d',toks:=t' }:=by
 obtain⟨m,⟨o,es,ep,ho,r⟩,_⟩:=id I.loc;obtain⟨sl,hL⟩:=u.any ho I.free fun z=>(hch _ z).2.1 rfl;exact I.step (ch:=ch) hch (fun b o hL hb hc e n=>u.keep b o e n (fun z=>(XJ.mp (I.stkSub b z)).elim hL hb) hc) (fun b o _ _ hc e n=>u.any e n hc) (fun b o hc e n=>u.free b o e n hc) (fun b o hc e=>u.there b o e hc) u.tups u.frzs u.tbls (fun m' hm=>by
  obtain⟨o',es',ep',ho',r'⟩:=hm;rw[ho] at ho';cases ho';exact⟨_,es',ep',hL,r'⟩) hok hg
theorem Inv.turned {t':Nat}{it:Addr}(I:Inv X pins σ H s)(k:∀b o,b≠it->s.heap.get? b=some o->h'.get? b=some o)(hn:H it=none)(hL:it≠X.env.locals)
  (h1:it∈X.ex\/X.s₀.heap.objs.size<=it) (h2:∀x c,X.env.cells.lookup x=some c->c≠it) (h3:∀p∈X.pn++pins,p.1≠it):Inv X pins σ H { s with heap:=h',toks:=t' }:=by
 have nit:∀b u,H b=some u->b≠it:=fun b u e z=>by rw[z,hn] at e;cases e
 refine I.step (g':=s.gens) (d':=s.drawn) (ch:=[it]) (fun b hb=>?_) (fun b o _ _ hc e _=>k b o (fun z=>hc (by simp[z])) e) (fun b o _ _ hc e _=>⟨o.slots,k b o (fun z=>hc (by simp[z])) e⟩) (fun _ _ _ _ n=>n)
  (fun b o hc e=>⟨o,k b o (fun z=>hc (by simp[z])) e⟩) (fun _ _ e=>e) (fun _ _ _ e=>e) (fun b ps e=>⟨#[],by rw[e];simp⟩) (fun m hm=>?_) (fun b u e=>?_) I.bare
 ·have e:b=it:=by simpa using hb
  subst e;exact⟨h1,hL,h2,h3⟩
 ·obtain⟨o,es,ep,ho,r⟩:=hm;exact⟨o,es,ep,k _ o (US hL) ho,r⟩
 ·refine(I.hok b u e).stay (fun c v hc q=>k c v ?_ q) (fun _ q=>q) fun _ _ q=>q;rcases hc with z | z
  ·rw[z];exact nit b u e
  ·exact nit c _ z
theorem Inv.tok (I:Inv X pins σ H s)(t:Nat):Inv X pins σ H { s with toks:=t }:=I.un (h':=s.heap) (t':=t) Un.refl I.hok
theorem Inv.kept {t':Nat}(I:Inv X pins σ H s)(k:∀b u,s.heap.get? b=some u->h'.get? b=some u):Inv X pins σ H { s with heap:=h',toks:=t' }:=I.un (Un.kept k) (I.hok.kept k)
theorem Inv.laid {a:Addr}{o:HO}{t':Nat}(I:Inv X pins σ H s)(k:∀b u,s.heap.get? b=some u->h'.get? b=some u)(hp:s.heap.objs.size<=a)(new:qM X.prog X.w (upd H a o) h' a o) :
  Inv X pins σ (upd H a o) { s with heap:=h',toks:=t' }:=I.un (Un.laid k hp (I.hok.fresh hp)) (I.hok.laid k hp new)
theorem Inv.write {x e:Addr}{o:HO}{t':Nat}(I:Inv X pins σ H s)(mu:Mut (H x))(he:e=x\/H e=some (.own x))(k:∀b u,b≠e->s.heap.get? b=some u->h'.get? b=some u)(heo:∃u,h'.get? e=some u)
  (new:qM X.prog X.w (upd H x o) h' x o):Inv X pins σ (upd H x o) { s with heap:=h',toks:=t' }:=I.un (Un.write mu he k heo) (I.hok.write mu he k heo new)
theorem Inv.pins_of {pins':List (Addr×Obj)}(I:Inv X pins σ H s)(h:∀p∈pins',s.heap.get? p.1=some p.2/\H p.1=none/\p.1≠X.env.locals/\p.1 ∉ X.fs/\∀v,p.2.data ≠ .cell v):Inv X pins' σ H s :=
 ⟨I.ok,I.os,I.bare,I.base,I.loc,I.cell,I.free,I.freeC,fun p hp=>(XG.mp hp).elim (fun z=>I.pin p (WZ _ z)) (h p),I.hok,I.len⟩
theorem zb5 {N:List Str}(hN:N.Nodup){i j:Nat}{x:Str}(a:N[i]?=some x)(b:N[j]?=some x):i=j:=by
 obtain⟨h1,e1⟩:=XY.mp a;obtain⟨h2,e2⟩:=XY.mp b;exact(List.getElem_inj hN).mp (e1.trans e2.symm)
theorem zdA {M:NI}{A:WK}{E:X9->X8->Prop}{i:Nat}{x:Str}{v:V}{u:X9}{Q:Unit->X8->Prop}(I:Inv X pins σ H s)(hN:X.N.Nodup)(hi:X.N[i]?=some x)(hx:Loc X.env.scope x)(r:RelV v u)
  (h:∀s',Inv X pins (σ.set i (some v)) H s'->(∃a,VL a s.heap s'.heap/\(a=X.env.locals\/X.env.cells.lookup x=some a))->Q () s') (hf:X.fn x=true\/X.env.scope.names.lookup x=some .local:=by first | exact .inl rfl | exact .inr rfl | assumption):Xg M A (storeName X.env x u) Q E s:=by
 obtain⟨m,hn,hl⟩:=id I.loc;have hcls:(X.env.scope.kind == .class || (X.env.scope.kind == .module&&X.env.locals != X.env.globals))=false:=by rw[I.ok.kind];rfl
 have hiσ:i < σ.length:=by rw[I.len];exact(XY.mp hi).1
 have cne:=I.cne;have tracked:∀{a:Addr} {h':Heap},(∃o,s.heap.get? a=some o/\H a=none)->VL a s.heap h'->HOk X.prog X.w H h':=fun {a h'} ha hs b ob e=>by
  obtain⟨_,_,hfree⟩:=ha;refine(I.hok b ob e).stay (fun c w' hc q=>(hs.2 c ?_).trans q) (fun _ q=>q) fun _ _ q=>q;rintro rfl;rcases hc with rfl | hc
  ·rw[hfree] at e;cases e
  ·rw[hfree] at hc;cases hc
 rcases hx with hk | hk
 ·refine wpAny_storeName_local hk hn (fun h' hn' hs=>?_) hcls;obtain⟨oL,_,_,hoL,_⟩:=id hn;refine h _ ⟨I.ok,I.os,I.bare,⟨fun b o e n hb hx=>?_,fun b o e n hb hx=>?_,I.base.free,fun b o e hx=>?_,I.base.tups,I.base.frzs,I.base.tbls⟩,⟨_,hn',fun j y v' e1 e2 e3=>?_⟩,fun y c e=>?_,I.free,I.freeC,fun p hp=>?_,tracked ⟨oL,hoL,I.free⟩ hs,by simpa using I.len⟩ ⟨_,hs,.inl rfl⟩
  ·exact(hs.2 b (Xk (Xn (XO e) I.ok.above))).trans (I.base.keep b o e n hb hx)
  ·obtain⟨sl,e1⟩:=I.base.slot b o e n hb hx;exact⟨sl,(hs.2 b (Xk (Xn (XO e) I.ok.above))).trans e1⟩
  ·obtain⟨o',e1⟩:=I.base.there b o e hx;exact⟨o',(hs.2 b (Xk (Xn (XO e) I.ok.above))).trans e1⟩
  ·by_cases hj:j=i
   ·subst hj;rw[hi] at e1;cases e1;rw[Sk hiσ] at e2;cases e2;exact⟨u,r,.inl ⟨hk,by simp⟩⟩
   ·rw[RW (US hj)] at e2;obtain⟨u',r',q⟩:=hl j y v' e1 e2 e3;refine⟨u',r',?_⟩;rcases q with ⟨k,e⟩ | ⟨k,c,e,z⟩
    ·refine .inl ⟨k,?_⟩;have:y≠x:=fun e=>hj (zb5 hN e1 (e ▸ hi));simp[this,e]
    ·exact .inr ⟨k,c,e,z.sameBut hs (cne y c e)⟩
  ·obtain⟨w',z⟩:=I.cell y c e;exact⟨w',z.sameBut hs (cne y c e)⟩
  ·obtain⟨e,n,ne,nf,d⟩:=I.pin p hp;exact⟨(hs.2 p.1 ne).trans e,n,ne,nf,d⟩
 ·have hfn:X.fn x=true:=by
   rcases hf with z | z
   ·exact z
   ·rw[z] at hk;cases hk
  obtain⟨c,hc⟩:=I.ok.has x (.inl hk);obtain⟨w',z⟩:=I.cell x c hc;refine wpAny_storeName_cell I.ok.kind hk hc z (fun h' hc' hs=>?_);obtain⟨oc,hoc,hocd⟩:=id z;refine h { s with heap:=h' } ⟨I.ok,I.os,I.bare,⟨fun b o e n hb hx=>?_,fun b o e n hb hx=>?_,I.base.free,fun b o e hx=>?_,I.base.tups,I.base.frzs,I.base.tbls⟩,⟨m,hn.sameBut hs (US (cne x c hc)),fun j y v' e1 e2 e3=>?_⟩,fun y c' e=>?_,I.free,I.freeC,fun p hp=>?_,tracked ⟨oc,hoc,I.freeC x c hc⟩ hs,by simpa using I.len⟩ ⟨c,hs,.inr hc⟩
  ·exact(hs.2 b (Xk (Xn (XO e) (I.ok.cab x c hfn hc)))).trans (I.base.keep b o e n hb hx)
  ·obtain⟨sl,e1⟩:=I.base.slot b o e n hb hx;exact⟨sl,(hs.2 b (Xk (Xn (XO e) (I.ok.cab x c hfn hc)))).trans e1⟩
  ·obtain⟨o',e1⟩:=I.base.there b o e hx;exact⟨o',(hs.2 b (Xk (Xn (XO e) (I.ok.cab x c hfn hc)))).trans e1⟩
  ·by_cases hj:j=i
   ·subst hj;rw[hi] at e1;cases e1;rw[Sk hiσ] at e2;cases e2;exact⟨u,r,.inr ⟨.inl hk,c,hc,hc'⟩⟩
   ·rw[RW (US hj)] at e2;obtain⟨u',r',q⟩:=hl j y v' e1 e2 e3;refine⟨u',r',?_⟩;rcases q with q | ⟨k,c',e,z'⟩
    ·exact .inl q
    ·refine .inr ⟨k,c',e,z'.sameBut hs ?_⟩;rintro rfl;exact hj (zb5 hN e1 (I.ok.inj _ _ _ e hc ▸ hi))
  ·by_cases hcc:c'=c
   ·subst hcc;exact⟨_,hc'⟩
   ·obtain⟨w2,z2⟩:=I.cell y c' e;exact⟨w2,z2.sameBut hs hcc⟩
  ·obtain⟨e,n,ne,nf,d⟩:=I.pin p hp;refine⟨(hs.2 p.1 ?_).trans e,n,ne,nf,d⟩;intro q;rw[q,hoc] at e;have q':oc=p.2:=Option.some.inj e;exact d w' (by rw[<- q'];exact hocd)
theorem Ys {M:NI}{A:WK}{E:X9->X8->Prop}{i:Nat}{x:Str}{v:V}{u:X9}{Q:Unit->X8->Prop}(I:Inv X pins σ H s)(hN:X.N.Nodup)(hi:X.N[i]?=some x)(hx:Loc X.env.scope x)(r:RelV v u)
  (h:∀s',Inv X pins (σ.set i (some v)) H s'->Q () s') (hf:X.fn x=true\/X.env.scope.names.lookup x=some .local:=by first | exact .inl rfl | exact .inr rfl | assumption):Xg M A (storeName X.env x u) Q E s :=
 zdA I hN hi hx r (fun s' I' _=>h s' I') hf
theorem Inv.call' {s':X8}{ch:List Addr}(I:Inv X pins σ H s)(ho:s'.os=s.os)(u:Un (frs X.stack) ch H H' s.heap s'.heap)(hok:HOk X.prog X.w H' s'.heap)(hg:R6 s'.gens)
  (hch:∀b∈ch,(b∈X.ex\/X.s₀.heap.objs.size<=b)/\b≠X.env.locals/\(∀x c,X.env.cells.lookup x=some c->c≠b)/\∀p∈X.pn++pins,p.1≠b):Inv X pins σ H' s':=by
 obtain⟨h',g',d',t',o'⟩:=s';have e:o'=s.os:=ho;subst e;exact I.call (g':=g') (t':=t') (d':=d') u hok hg hch
end
abbrev XK:=X9->Option Addr->Hp->Prop
abbrev St:=List (Option V)
abbrev VK:=V->Hp->Prop
abbrev TE:=St->Hp->VK->Prop
abbrev TT:=St->Hp->(Bool->Hp->Prop)->Prop
abbrev TA:=St->Hp->(List V->Hp->Prop)->Prop
structure Ends where
 nx:St->Hp->Prop
 rt:VK
 bk:St->Hp->Prop:=fun _ _=>False
 ct:St->Hp->Prop:=fun _ _=>False
abbrev TS:=Ends->St->Hp->Prop
def EP (X:Cx)(pins:List (Addr×Obj))(σ:St)(Q:VK)(u:X9)(s':X8):Prop:=∃v H',Inv X pins σ H' s'/\RelV v u/\Q v H'
def TP (X:Cx)(pins:List (Addr×Obj))(σ:St)(Q:Bool->Hp->Prop)(b:Bool)(s':X8):Prop:=∃H',Inv X pins σ H' s'/\Q b H'
def AP (X:Cx)(pins:List (Addr×Obj))(σ:St)(Q:List V->Hp->Prop)(us:List X9)(s':X8):Prop:=∃vs H',Inv X pins σ H' s'/\Vals vs us/\Q vs H'
def SP (X:Cx)(pins:List (Addr×Obj))(D:Ends)(f:Flow)(s':X8):Prop :=
 match f with
 | .next=>∃ σ' H',Inv X pins σ' H' s'/\D.nx σ' H'
 | .brk=>∃ σ' H',Inv X pins σ' H' s'/\D.bk σ' H'
 | .cont=>∃ σ' H',Inv X pins σ' H' s'/\D.ct σ' H'
 | .ret u=>∃v σ' H',Inv X pins σ' H' s'/\RelV v u/\D.rt v H'
def PE (X:Cx)(e:Expr)(t:TE):Prop :=
 ∀(pins:List (Addr×Obj)) (s:X8) (σ:St) (H:Hp) (Q:VK),Inv X pins σ H s->t σ H Q->Xg (Xh X.prog X.w) X.A (eval e X.env) (EP X pins σ Q) X.xe s
def PT (X:Cx)(e:Expr)(t:TT):Prop :=
 ∀(pins:List (Addr×Obj)) (s:X8) (σ:St) (H:Hp) (Q:Bool->Hp->Prop),Inv X pins σ H s->t σ H Q->Xg (Xh X.prog X.w) X.A (isTrue e X.env (eval e X.env)) (TP X pins σ Q) X.xe s
def PW (X:Cx)(e:Expr)(t:TT):Prop :=
 ∀(whole:Sem X9) (pins:List (Addr×Obj)) (s:X8) (σ:St) (H:Hp) (Q:Bool->Hp->Prop),Inv X pins σ H s->t σ H Q->Xg (Xh X.prog X.w) X.A (isTrue e X.env whole) (TP X pins σ Q) X.xe s
theorem PW.pt {X:Cx}{e:Expr}{t:TT}(h:PW X e t):PT X e t:=h _
def PA (X:Cx)(es:List Expr)(t:TA):Prop :=
 ∀(pos:Pos) (pins:List (Addr×Obj)) (s:X8) (σ:St) (H:Hp) (Q:List V->Hp->Prop),Inv X pins σ H s->t σ H Q->Xg (Xh X.prog X.w) X.A (spliced (SR pos (WA es X.env))) (AP X pins σ Q) X.xe s
def PS (X:Cx)(st:Stmt)(t:TS):Prop :=
 ∀(pins:List (Addr×Obj)) (s:X8) (σ:St) (H:Hp) (D:Ends),Inv X pins σ H s->t D σ H->Xg (Xh X.prog X.w) X.A (exec st X.env) (SP X pins D) X.xe s
def PSs (X:Cx)(st:List Stmt)(t:TS):Prop :=
 ∀(pins:List (Addr×Obj)) (s:X8) (σ:St) (H:Hp) (D:Ends),Inv X pins σ H s->t D σ H->Xg (Xh X.prog X.w) X.A (execs st X.env) (SP X pins D) X.xe s
theorem thn {α:Type}{t:Sem α}{Q Q':α->X8->Prop}{M:NI}{A:WK}{E:X9->X8->Prop}{s:X8}(h:Xg M A t Q E s)(hQ:∀a s,Q a s->Q' a s):Xg M A t Q' E s:=Wn h hQ fun _ _ x=>x
section
variable {X:Cx}
def zpJ (i:Nat):TE:=fun σ H Q=>∃v,σ[i]?=some (some v)/\Q v H
def tC (v:V):TE:=fun _ H Q=>Q v H
theorem zoh {i:Nat}{x:Str}{pos:Pos}(hN:X.N[i]?=some x)(hv:Vis X.env.scope x)(hd:(x==("__debug__":Str))=false:=by decide)(hcd:(x==("__classdict__":Str))=false:=by decide):PE X (.Name x pos) (zpJ i):=by
 intro pins s σ H Q I h;obtain⟨v,e,h⟩:=h;obtain⟨m,hn,hl⟩:=I.loc;obtain⟨u,r,l⟩:=hl i x v hN e hv;have fin:EP X pins σ Q u s:=⟨v,H,I,r,h⟩;rcases l with ⟨hk,hm⟩ | ⟨hk,c,hc,hcell⟩
 ·exact wpAny_Name (wpAny_loadName_local I.ok.kind hk hn hm fin) hd
 ·rcases hk with hk | hk
  ·exact wpAny_Name (wpAny_loadName_cell I.ok.kind hk hc hcell fin) hd
  ·exact wpAny_Name (wpAny_loadName_free I.ok.kind hk hc hcell fin hcd) hd
theorem zo {i j pos}:PE X (.Constant (.int i) j pos) (tC (.int i)):=fun _ _ _ H _ I h=>wpAny_Constant_int ⟨.int i,H,I.tok _,⟨_,rfl⟩,h⟩
theorem Qp {b j pos}:PE X (.Constant (.bool b) j pos) (tC (.bl b)):=fun _ _ _ H _ I h=>Constant_bool ⟨.bl b,H,I,rfl,h⟩
theorem zaS {j pos}:PE X (.Constant .none j pos) (tC .non):=fun _ _ _ H _ I h=>Constant_none ⟨.non,H,I,rfl,h⟩
theorem qp {x j pos}:PE X (.Constant (.str x) j pos) (tC (.str x)):=fun _ _ _ H _ I h=>Calls.Constant_str ⟨.str x,H,I.tok _,⟨_,rfl⟩,h⟩
def Gl (X:Cx)(x:Str):Prop:=X.env.kindOf x=some .globalImplicit
theorem Q8 {E:X9->X8->Prop}{pins:List (Addr×Obj)}{s:X8}{σ:St}{H:Hp}{x:Str}{u:X9}{pos:Pos}{Q:X9->X8->Prop}(I:Inv X pins σ H s)(hg:Gl X x)(hm:X.mg x=some u)(h:Q u s)
  (hd:(x==("__debug__":Str))=false:=by decide):Xg (Xh X.prog X.w) X.A (eval (.Name x pos) X.env) Q E s :=
 Rs I.ok.kind hg (Calls.loadGlobal_global (by rw[I.ok.glob];exact I.mod.glob.keeps I.bk) hm h) hd
theorem Yt {E:X9->X8->Prop}{pins:List (Addr×Obj)}{s:X8}{σ:St}{H:Hp}{x:Str}{u:X9}{pos:Pos}{Q:X9->X8->Prop}(I:Inv X pins σ H s)(hg:Gl X x)(hm:X.mg x=none)(hv:TH x=some u)(h:Q u s)
  (hn:x ≠ "__name__":=by decide) (hd:(x==("__debug__":Str))=false:=by decide):Xg (Xh X.prog X.w) X.A (eval (.Name x pos) X.env) Q E s:=by
 obtain⟨mb,h1,h2⟩:=I.mod.blt;exact Rs I.ok.kind hg (Calls.loadGlobal_builtin (by rw[I.ok.glob];exact I.mod.glob.keeps I.bk) hm (by rw[I.ok.blt];exact h1.keeps I.bk) ((h2 x hn).trans hv) h) hd
theorem jy {x:Str}{v:V}{u:X9}{pos:Pos}(hg:Gl X x)(hm:X.mg x=some u)(r:RelV v u)(hd:(x==("__debug__":Str))=false:=by decide):PE X (.Name x pos) (tC v) :=
 fun _ _ _ H _ I h=>Q8 I hg hm ⟨v,H,I,r,h⟩ hd
theorem Y0 {x:Str}{v:V}{u:X9}{pos:Pos}(hg:Gl X x)(hm:X.mg x=none)(hv:TH x=some u)(r:RelV v u)(hn:x ≠ "__name__":=by decide)(hd:(x==("__debug__":Str))=false:=by decide):PE X (.Name x pos) (tC v) :=
 fun _ _ _ H _ I h=>Yt I hg hm hv ⟨v,H,I,r,h⟩ hn hd
variable {a b:Expr}{ta tb:TE}{pos:Pos}
variable {tA tB':TT}{rest:List Expr}
def zqQ (t u:TT):TT:=fun σ H Q=>t σ H fun c H1=>if c=true then u σ H1 Q else Q false H1
def tOr (t u:TT):TT:=fun σ H Q=>t σ H fun c H1=>if c=true then Q true H1 else u σ H1 Q
def zqR (t:TT):TT:=fun σ H Q=>t σ H fun c H1=>Q (!c) H1
theorem zbO (ha:PT X a tA):PW X (.BoolOp .And [a] pos) tA:=by
 intro wh pins s σ H Q I h;refine isTrue_and (thn (ha pins s σ H Q I h) fun c s1 e=>?_);cases c with
 | true=>exact isTrue_and_nil e
 | false=>exact e
theorem zb6 (ha:PT X a tA):PW X (.BoolOp .Or [a] pos) tA:=by
 intro wh pins s σ H Q I h;refine isTrue_or (thn (ha pins s σ H Q I h) fun c s1 e=>?_);cases c with
 | false=>exact isTrue_or_nil e
 | true=>exact e
theorem zey (ha:PT X a tA)(hb:PW X (.BoolOp .And (b::rest) pos) tB'):PW X (.BoolOp .And (a::b::rest) pos) (zqQ tA tB'):=by
 intro wh pins s σ H Q I h;refine isTrue_and (thn (ha pins s σ H _ I h) fun c s1 ⟨H1,I1,q1⟩=>?_);cases c with
 | true=>exact hb wh pins s1 σ H1 Q I1 q1
 | false=>exact⟨H1,I1,q1⟩
theorem zdB (ha:PT X a tA)(hb:PW X (.BoolOp .Or (b::rest) pos) tB'):PW X (.BoolOp .Or (a::b::rest) pos) (tOr tA tB'):=by
 intro wh pins s σ H Q I h;refine isTrue_or (thn (ha pins s σ H _ I h) fun c s1 ⟨H1,I1,q1⟩=>?_);cases c with
 | true=>exact⟨H1,I1,q1⟩
 | false=>exact hb wh pins s1 σ H1 Q I1 q1
theorem Yu (ha:PT X a tA):PT X (.UnaryOp .Not a pos) (zqR tA):=by
 intro pins s σ H Q I h;exact isTrue_not (ha pins s σ H (fun c H1=>Q (!c) H1) I h)
def zpK (ta tb:TE):TE:=fun σ H Q=>ta σ H fun x H1=>∃c,x=.bl c/\if c=true then tb σ H1 Q else Q (.bl false) H1
def zpL (ta:TE):TE:=fun σ H Q=>ta σ H fun x H1=>∃c,x=.bl c/\Q (.bl (!c)) H1
theorem zoi {op}{t:TE}(h:PE X a t):PE X (.BoolOp op [a] pos) t:=fun pins s σ H Q I hw=>BoolOp_one (h pins s σ H Q I hw)
theorem zj2 (ha:PE X a ta)(hb:PE X (.BoolOp .And (b::rest) pos) tb):PE X (.BoolOp .And (a::b::rest) pos) (zpK ta tb):=by
 intro pins s σ H Q I h;refine BoolOp_and (thn (ha pins s σ H _ I h) fun v s1 ⟨x,H1,I1,r1,q1⟩=>?_);obtain⟨c,rfl,q1⟩:=q1;cases r1;refine VA ?_;cases c with
 | true=>exact hb pins s1 σ H1 Q I1 q1
 | false=>exact⟨.bl false,H1,I1,rfl,q1⟩
theorem zj3 (ha:PE X a ta):PE X (.UnaryOp .Not a pos) (zpL ta):=by
 intro pins s σ H Q I h;refine UnaryOp_ (thn (ha pins s σ H _ I h) fun v s1 ⟨x,H1,I1,r1,q1⟩=>?_);obtain⟨c,rfl,q1⟩:=q1;cases r1;exact not_of (VA ⟨.bl (!c),H1,I1,rfl,q1⟩)
end
def SqL (K:X2)(H:Hp)(a:Addr)(xs:List V):Prop :=
 Rd H a (.lst xs) \/
  ∃(o:Obj) (its:Array X9) (n:Nat),K.lookup a=some o/\o.cls=.type "list"/\o.dict=none/\o.data=.seq its n/\its.size<=Xz/\Vals xs its.toList
def SqT (K:X2)(H:Hp)(a:Addr)(xs:List V):Prop :=
 Rd H a (.tup xs) \/
  ∃(o:Obj) (its:Array X9) (n:Nat),K.lookup a=some o/\o.cls=.type "tuple"/\o.data=.seq its n/\its.size<=Xz/\Vals xs its.toList
def zqS:X9->Option V
 | .none=>some .non
 | .bool b=>some (.bl b)
 | .int i _=>some (.int i)
 | .str x _=>some (.str x)
 | .bytes b _=>some (.byt b)
 | .float b _=>some (.flt b)
 | .ref a=>some (.ref a)
 | .type n=>some (.ty n)
 | _=>none
theorem RelV.abs {x:V}{u:X9}(r:RelV x u):zqS u=some x:=by
 cases x with
 | non=>cases r;rfl
 | bl _=>cases r;rfl
 | int _=>obtain⟨t,rfl⟩:=r;rfl
 | str _=>obtain⟨t,rfl⟩:=r;rfl
 | byt _=>obtain⟨t,rfl⟩:=r;rfl
 | flt _=>obtain⟨t,rfl⟩:=r;rfl
 | ref _=>cases r;rfl
 | ty _=>cases r;rfl
theorem RelV.inj {x y:V}{u:X9}(r:RelV x u)(q:RelV y u):x=y:=Option.some.inj (r.abs.symm.trans q.abs)
theorem Vals.inj:∀{xs ys:List V} {us:List X9},Vals xs us->Vals ys us->xs=ys
 | _,_,_,.nil,.nil=>rfl
 | _,_,_,.cons r t,.cons r' t'=>by rw[r.inj r',Vals.inj t t']
section
variable {X:Cx}{pins:List (Addr×Obj)}{σ:St}{H:Hp}{s:X8}{a:Addr}{xs ys:List V}
theorem SqL.of {K:X2}(h:H a=some (.lst xs)):SqL K H a xs:=.inl (.inl h)
theorem SqT.of {K:X2}(h:H a=some (.tup xs)):SqT K H a xs:=.inl (.inl h)
theorem Inv.list (I:Inv X pins σ H s)(h:SqL X.K H a xs):∃its:List X9,Vals xs its/\PlainL s.heap a its.toArray/\xs.length<=Xz:=by
 rcases h with h | ⟨o,its,n,hk,hc,hd,hs,hz,r⟩
 ·obtain⟨z,its,n,r,e⟩:=h.ok I.hok;exact⟨its,r,⟨_,n,e,rfl,rfl,rfl⟩,z⟩
 ·refine⟨its.toList,r,⟨o,n,I.kIn a o hk,hc,hd,by simpa using hs⟩,?_⟩;have e:=r.length;simp only[X4] at e;lia
theorem Inv.tuple (I:Inv X pins σ H s)(h:SqT X.K H a xs):∃its:List X9,Vals xs its/\NK s.heap a its.toArray/\xs.length<=Xz:=by
 rcases h with h | ⟨o,its,n,hk,hc,hs,hz,r⟩
 ·obtain⟨z,its,r,p⟩:=h.ok I.hok;exact⟨its,r,p,z⟩
 ·refine⟨its.toList,r,⟨o,I.kIn a o hk,hc,n,by simpa using hs⟩,?_⟩;have e:=r.length;simp only[X4] at e;lia
theorem Inv.list_inj (I:Inv X pins σ H s)(h:SqL X.K H a xs)(h':SqL X.K H a ys):xs=ys:=by
 obtain⟨its,r,⟨o,n,e,_,_,d⟩,_⟩:=I.list h;obtain⟨its',r',⟨o',n',e',_,_,d'⟩,_⟩:=I.list h';rw[e] at e';cases e';rw[d] at d';injection d' with d1 _
 have:its=its':=by simpa using congrArg Array.toList d1
 subst this;exact r.inj r'
end
abbrev Cx.wish (X:Cx)(E:X9->X8->Prop):Cx:={ X with xe:=E }
abbrev Cx.nox (X:Cx):Cx:=X.wish fun _ _=>False
theorem Cx.Ok.wish {X:Cx}(ok:X.Ok)(E:X9->X8->Prop):(X.wish E).Ok :=
 ⟨ok.mod,ok.kind,ok.glob,ok.blt,ok.above,ok.inj,ok.has,ok.cab,ok.hd,ok.frames,ok.stk,ok.exf,ok.bs,ok.bsz,ok.noex,ok.exfs,ok.funs,ok.frf⟩
theorem Cx.Ok.unwish {X:Cx}{E:X9->X8->Prop}(ok:(X.wish E).Ok):X.Ok :=
 ⟨ok.mod,ok.kind,ok.glob,ok.blt,ok.above,ok.inj,ok.has,ok.cab,ok.hd,ok.frames,ok.stk,ok.exf,ok.bs,ok.bsz,ok.noex,ok.exfs,ok.funs,ok.frf⟩
section
variable {X:Cx}{pins:List (Addr×Obj)}{σ:St}{H:Hp}{s:X8}{E:X9->X8->Prop}
theorem Inv.wish (I:Inv X pins σ H s)(E:X9->X8->Prop):Inv (X.wish E) pins σ H s:=⟨I.ok.wish E,I.os,I.bare,I.base,I.loc,I.cell,I.free,I.freeC,I.pin,I.hok,I.len⟩
theorem Inv.unwish (I:Inv (X.wish E) pins σ H s):Inv X pins σ H s:=⟨I.ok.unwish,I.os,I.bare,I.base,I.loc,I.cell,I.free,I.freeC,I.pin,I.hok,I.len⟩
theorem SP.unwish {D:Ends}{f:Flow}{s':X8}(h:SP (X.wish E) pins D f s'):SP X pins D f s':=by
 cases f with
 | next=>obtain⟨σ',H',I,q⟩:=h;exact⟨σ',H',I.unwish,q⟩
 | brk=>obtain⟨σ',H',I,q⟩:=h;exact⟨σ',H',I.unwish,q⟩
 | cont=>obtain⟨σ',H',I,q⟩:=h;exact⟨σ',H',I.unwish,q⟩
 | ret u=>obtain⟨v,σ',H',I,r,q⟩:=h;exact⟨v,σ',H',I.unwish,r,q⟩
theorem PSs.nox {st:List Stmt}{t:TS}(h:PSs X.nox st t):PSs X st t:=fun pins s σ H D I hw =>
 Wn (h pins s σ H D (I.wish _) hw) (fun _ _ q=>q.unwish) fun _ _ z=>Wm z
end
section
variable {X:Cx}{st:Stmt}{rest:List Stmt}{t u:TS}{e:Expr}{te:TE}{pos:Pos}
def zpM:TS:=fun D σ H=>D.nx σ H
def zqT (t u:TS):TS:=fun D σ H=>t { D with nx:=u D } σ H
theorem zZ:PSs X [] zpM:=fun _ _ σ H _ I h=>Tf ⟨σ,H,I,h⟩
theorem zd (h1:PS X st t)(h2:PSs X rest u):PSs X (st::rest) (zqT t u):=by
 intro pins s σ H D I h;refine PP (thn (h1 pins s σ H { D with nx:=u D } I h) fun f s1 q=>?_);cases f with
 | next =>
  obtain⟨σ',H',I',q⟩:=q;exact h2 pins s1 σ' H' D I' q
 | ret v=>exact q
 | brk=>exact q
 | cont=>exact q
theorem zf (h1:PS X st t):PSs X [st] t:=by
 intro pins s σ H D I h;refine PP (thn (h1 pins s σ H D I h) fun f s1 q=>?_);cases f with
 | next=>exact Tf q
 | ret v=>exact q
 | brk=>exact q
 | cont=>exact q
theorem Inv.quiet {pins:List (Addr×Obj)}{σ:St}{H:Hp}{s:X8}(I:Inv X pins σ H s):interactive X.env=false:=by simp[interactive,I.ok.kind]
def zpN (te:TE):TS:=fun D σ H=>te σ H fun _ H1=>D.nx σ H1
theorem yy (he:PE X e te)(hs:NQ e none pos.line X.env=pure false:=by rfl):PS X (.Expr e pos) (zpN te):=by
 intro pins s σ H D I h;exact wpAny_Expr_any (thn (he pins s σ H _ I h) fun v s1 ⟨x,H1,I1,r1,q1⟩=>⟨σ,H1,I1,q1⟩) I.quiet hs
def zqU (te:TE):TS:=fun D σ H=>te σ H D.rt
theorem zG (he:PE X e te):PS X (.Return (some e) pos) (zqU te):=by
 intro pins s σ H D I h;exact wpAny_Return_some (thn (he pins s σ H _ I h) fun v s1 ⟨x,H1,I1,r1,q1⟩=>⟨x,σ,H1,I1,r1,q1⟩)
def zqV (c:TT)(t u:TS):TS:=fun D σ H=>c σ H fun b H1=>if b=true then t D σ H1 else u D σ H1
theorem qX {c:Expr}{a b:List Stmt}{tc:TT}(hc:PT X c tc)(ha:PSs X a t)(hb:PSs X b u):PS X (.If c a b pos) (zqV tc t u):=by
 intro pins s σ H D I h;refine wpAny_If (thn (hc pins s σ H _ I h) fun d s1 ⟨H1,I1,q1⟩=>?_);cases d with
 | true=>exact ha pins s1 σ H1 D I1 q1
 | false=>exact hb pins s1 σ H1 D I1 q1
def zoj:TS:=fun _ _ _=>False
theorem zj4:PS X st zoj:=fun _ _ _ _ _ _ h=>h.elim
end
abbrev TG:=V->St->Hp->(St->Hp->Prop)->Prop
abbrev TGs:=List V->St->Hp->(St->Hp->Prop)->Prop
def PG (X:Cx)(target:Expr)(t:TG):Prop :=
 ∀(pins:List (Addr×Obj)) (s:X8) (σ:St) (H:Hp) (v:V) (u:X9) (Q:St->Hp->Prop),Inv X pins σ H s->RelV v u->t v σ H Q ->
  Xg (Xh X.prog X.w) X.A (NF target X.env u) (fun _ s'=>∃ σ' H',Inv X pins σ' H' s'/\Q σ' H') X.xe s
def PGs (X:Cx)(ts:List Expr)(t:TGs):Prop :=
 ∀(pins:List (Addr×Obj)) (s:X8) (σ:St) (H:Hp) (vs:List V) (us:List X9) (Q:St->Hp->Prop),Inv X pins σ H s->Vals vs us->t vs σ H Q ->
  Xg (Xh X.prog X.w) X.A (Oi ((S9 ts X.env).map (·.2)) us) (fun _ s'=>∃ σ' H',Inv X pins σ' H' s'/\Q σ' H') X.xe s
abbrev zj5:=V->V->V->Hp->(Hp->Prop)->Prop
def zok (X:Cx)(t:zj5):Prop :=
 ∀(pins:List (Addr×Obj)) (s:X8) (σ:St) (H:Hp) (o i v:V) (ov iv u:X9) (Q:Hp->Prop),Inv X pins σ H s->RelV o ov->RelV i iv->RelV v u->t o i v H Q ->
  Xg (Xh X.prog X.w) X.A (setItem ov iv u) (fun _ s'=>∃H',Inv X pins σ H' s'/\Q H') X.xe s
abbrev TIp:=V->V->Hp->VK->Prop
def PIp (X:Cx)(op:Operator)(t:TIp):Prop :=
 ∀(pins:List (Addr×Obj)) (s:X8) (σ:St) (H:Hp) (x y:V) (v u:X9) (Q:VK),Inv X pins σ H s->RelV x v->RelV y u->t x y H Q ->
  Xg (Xh X.prog X.w) X.A (inplaceOp op v u) (EP X pins σ Q) X.xe s
section
variable {X:Cx}{pos:Pos}
def Jf (i:Nat):TG:=fun v σ H Q=>Q (σ.set i (some v)) H
theorem zm {i:Nat}{x:Str}(hN:X.N.Nodup)(hi:X.N[i]?=some x)(hx:Loc X.env.scope x)(hf:X.fn x=true\/X.env.scope.names.lookup x=some .local:=by first | exact .inl rfl | exact .inr rfl | assumption):PG X (.Name x pos) (Jf i):=by
 intro pins s σ H v u Q I r h;exact wpAny_assign_Name (Ys I hN hi hx r (fun s' I'=>⟨_,H,I',h⟩) hf)
def zqW:TGs:=fun vs σ H Q=>vs=[]/\Q σ H
def zpO (t:TG)(u:TGs):TGs:=fun vs σ H Q=>∃v r,vs=v::r/\t v σ H fun σ' H'=>u r σ' H' Q
theorem yc:PGs X [] zqW:=by
 intro pins s σ H vs us Q I r h;obtain⟨e,h⟩:=h;subst e;cases r;exact assignInOrder_nil ⟨σ,H,I,h⟩
theorem zT {e:Expr}{es:List Expr}{t:TG}{u:TGs}(h1:PG X e t)(h2:PGs X es u)
  (hs:(S9 (e::es) X.env).map (·.2)=NF e X.env::(S9 es X.env).map (·.2):=by rfl):PGs X (e::es) (zpO t u):=by
 intro pins s σ H vs us Q I r h;obtain⟨v,vr,e1,h⟩:=h;subst e1;cases r with
 | cons r rr =>
  rw[hs];refine Rw (thn (h1 pins s σ H _ _ _ I r h) fun _ s1 ⟨σ1,H1,I1,q1⟩=>?_);exact h2 pins s1 σ1 H1 _ _ Q I1 rr q1
def zpP (K:X2)(n:Nat)(t:TGs):TG:=fun v σ H Q=>∃a xs,v=.ref a/\SqT K H a xs/\xs.length=n/\t xs σ H Q
theorem JE {es:List Expr}{k:Nat}{t:TGs}{n:Nat}(hc:X.calm=true)(h:PGs X es t)
  (hn:(S9 es X.env).length=n:=by rfl) (hst:(S9 es X.env).findIdx? (·.1)=none:=by rfl):PG X (.Tuple es k pos) (zpP X.K n t):=by
 intro pins s σ H v u Q I r hw;obtain⟨a,xs,e1,hq,hl,hw⟩:=hw;subst e1;cases r;obtain⟨its,rv,ht,hz⟩:=I.tuple hq;refine assign_Tuple_tuple (I.ok.hd hc) ht (by simp[hn,<- hl,rv.length]) hst fun h' hx=>?_;have I1:Inv X pins σ H { s with heap:=h' }:=I.kept (t':=s.toks) fun b o e=>hx b o (Xk (XO e)) e;exact h pins _ σ H xs _ Q I1 (by simpa using rv) hw
def zqX (to ti:TE)(t:zj5):TG:=fun v σ H Q=>to σ H fun o H1=>ti σ H1 fun i H2=>t o i v H2 fun H3=>Q σ H3
theorem zgP {o i:Expr}{to ti:TE}{t:zj5}(ho:PE X o to)(hi:PE X i ti)(hs:zok X t)
  (ha:∀v,NF (.Subscript o i pos) X.env v=(do
   let ov <- N6 [v] (eval o X.env)
   let iv <- N6 [v,ov] (eval i X.env)
   standAt pos
   N6 [v,ov,iv] (setItem ov iv v)
   release [v,ov,iv] []):=by intro _;rfl):PG X (.Subscript o i pos) (zqX to ti t):=by
 intro pins s σ H v u Q I r h;rw[ha];refine ZB (Wd (thn (ho pins s σ H _ I h) fun ov s1 ⟨x,H1,I1,r1,q1⟩=>?_));refine ZB (Wd (thn (hi pins s1 σ H1 _ I1 q1) fun iv s2 ⟨y,H2,I2,r2,q2⟩=>?_));refine ZB (UZ (ZB (Wd (thn (hs pins s2 σ H2 x y v ov iv u _ I2 r1 r2 r q2) fun _ s3 ⟨H3,I3,q3⟩=>?_))));exact wpAny_release ⟨σ,H3,I3,q3⟩
def zol (te:TE)(g:TG):TS:=fun D σ H=>te σ H fun x H1=>g x σ H1 D.nx
theorem zb7 {tg e:Expr}{te:TE}{g:TG}(he:PE X e te)(hg:PG X tg g)(hs:swapsWithSole [tg] e pos.line X.env=pure false:=by rfl)(hw:swappedStores [tg] e X.env=pure none:=by rfl)
  (h1:(S9 [tg] X.env).map (·.2)=[NF tg X.env]:=by rfl):PS X (.Assign [tg] e pos) (zol te g):=by
 intro pins s σ H D I h;refine wpAny_Assign_stores (thn (he pins s σ H _ I h) fun v s1 ⟨x,H1,I1,r1,q1⟩=>?_) hs hw;rw[h1];exact thn (hg pins s1 σ H1 x v _ I1 r1 q1) fun _ s2 q=>q
theorem zq {i:Nat}{x:Str}{e:Expr}{te:TE}{pos':Pos}(hN:X.N.Nodup)(hi:X.N[i]?=some x)(hx:Loc X.env.scope x)(he:PE X e te)(hs:NQ e (some (.Name x pos')) pos.line X.env=pure false:=by rfl)(hf:X.fn x=true\/X.env.scope.names.lookup x=some .local:=by first | exact .inl rfl | exact .inr rfl | assumption) :
  PS X (.Assign [.Name x pos'] e pos) (zol te (Jf i)):=by
 intro pins s σ H D I h;refine wpAny_Assign_Name (thn (he pins s σ H _ I h) fun v s1 ⟨y,H1,I1,r1,q1⟩=>?_) hs;exact Ys I1 hN hi hx r1 (fun s2 I2=>⟨_,H1,I2,q1⟩) hf
def zqY (i j:Nat)(ta:TA):TS:=fun D σ H=>ta σ H fun vs H1=>∃v w,vs=[v,w]/\D.nx ((σ.set i (some v)).set j (some w)) H1
theorem zom {i j:Nat}{x y:Str}{a b:Expr}{ta:TA}{px py pt:Pos}{kt k2 pt2}(hc:X.calm=true)(hN:X.N.Nodup)(hi:X.N[i]?=some x)(hj:X.N[j]?=some y)(hij:i≠j)
  (hx:X.env.scope.names.lookup x=some .local) (hy:X.env.scope.names.lookup y=some .local) (ha:PA X [a,b] ta)
  (hw:swappedStores [.Tuple [.Name x px,.Name y py] kt pt] (.Tuple [a,b] k2 pt2) X.env=pure (some [x,y]))
  (hs:swapsWithSole [.Tuple [.Name x px,.Name y py] kt pt] (.Tuple [a,b] k2 pt2) pos.line X.env=pure false:=by rfl) :
  PS X (.Assign [.Tuple [.Name x px,.Name y py] kt pt] (.Tuple [a,b] k2 pt2) pos) (zqY i j ta):=by
 intro pins s σ H D I h;rw[exec_Assign_arm];refine ZB (UZ ?_);rw[hs];refine ZB (X6 ?_);rw[if_neg (by decide)];refine ZB (Tuple_ (thn (ha _ pins s σ H _ I h) fun us s1 ⟨vs,H1,I1,r1,q1⟩=>?_));obtain⟨v,w,e1,q1⟩:=q1;subst e1;obtain⟨u1,u2,rfl,rv,rw'⟩:∃u1 u2,us=[u1,u2]/\RelV v u1/\RelV w u2:=by
  cases r1 with
  | cons p q =>
   cases q with
   | cons p' q' =>
    cases q';exact⟨_,_,rfl,p,p'⟩
 refine Wq ?_ (by show 2<=Xz;decide);have I2:Inv X pins σ H1 { s1 with heap:=s1.heap.push { cls:=.type "tuple",data:=.seq [u1,u2].toArray } }:=I1.kept (t':=s1.toks) fun b o e=>XZ _ e;rw[hw];refine ZB (X6 ?_);show Xg (Xh X.prog X.w) X.A (do rule "assign.swapped-stores";let items <- unpackItems (.ref s1.heap.objs.size) 2 none;Oi [fun v=>N3 X.env y v,fun v=>N3 X.env x v] items.reverse;pure Flow.next) _ _ _;refine ZB (UB (ZB (unpackItems_tuple (items:=#[u1,u2]) (I.ok.hd hc) (IsTup.new s1.heap _) fun h' hx'=>?_)));have I3:=I2.kept (h':=h') (t':=s1.toks) fun b o e=>hx' b o (Xk (XO e)) e;show Xg _ _ (Oi [fun v=>N3 X.env y v,fun v=>N3 X.env x v] [u2,u1] >>= fun _=>pure Flow.next) _ _ _;refine ZB (Rw (wpAny_bindName (Ys I3 hN hj (.inl hy) rw' (fun s2 I4=>?_) (.inr hy))));refine Rw (wpAny_bindName (Ys I4 hN hi (.inl hx) rv (fun s3 I5=>assignInOrder_nil (X6 ?_)) (.inr hx)));rw[List.set_comm _ _ (US hij)] at I5;exact⟨_,H1,I5,q1⟩
def zpQ (to ti te:TE)(tget:V->V->Hp->VK->Prop)(tip:TIp)(tset:zj5):TS:=fun D σ H=>to σ H fun o H1=>ti σ H1 fun i H2=>tget o i H2 fun x H3=>te σ H3 fun y H4=>tip x y H4 fun z H5=>tset o i z H5 fun H6=>D.nx σ H6
def zpR (X:Cx)(t:V->V->Hp->VK->Prop):Prop :=
 ∀(pins:List (Addr×Obj)) (s:X8) (σ:St) (H:Hp) (o i:V) (ov iv:X9) (Q:VK),Inv X pins σ H s->RelV o ov->RelV i iv->t o i H Q ->
  Xg (Xh X.prog X.w) X.A (Ov ov iv) (EP X pins σ Q) X.xe s
theorem zh4 {o i e:Expr}{to ti te:TE}{tget:V->V->Hp->VK->Prop}{tip:TIp}{tset:zj5}{op:Operator}{tpos:Pos}(ho:PE X o to)(hi:PE X i ti)(hg:zpR X tget)(he:PE X e te)(hp:PIp X op tip)(hs:zok X tset)
  (ha:∀ov iv new,augStore i ov iv new=(do N6 [new,ov,iv] (setItem ov iv new);release [new,ov,iv] [];pure .next):=by intros;rfl):PS X (.AugAssign (.Subscript o i tpos) op e pos) (zpQ to ti te tget tip tset):=by
 intro pins s σ H D I h;refine wpAny_AugAssign_SubscriptAny (thn (ho pins s σ H _ I h) fun ov s1 ⟨x1,H1,I1,r1,q1⟩=>?_) ha;refine thn (hi pins s1 σ H1 _ I1 q1) fun iv s2 ⟨x2,H2,I2,r2,q2⟩=>?_;refine thn (hg pins s2 σ H2 x1 x2 ov iv _ I2 r1 r2 q2) fun old s3 ⟨x3,H3,I3,r3,q3⟩=>?_;refine thn (he pins s3 σ H3 _ I3 q3) fun v s4 ⟨x4,H4,I4,r4,q4⟩=>?_;refine thn (hp pins s4 σ H4 x3 x4 old v _ I4 r3 r4 q4) fun new s5 ⟨x5,H5,I5,r5,q5⟩=>?_;exact thn (hs pins s5 σ H5 x1 x2 x5 ov iv new _ I5 r1 r2 r5 q5) fun _ s6 ⟨H6,I6,q6⟩=>⟨σ,H6,I6,q6⟩
def ipI (f:Int->Int->Int):TIp:=fun x y H Q=>∃i j,x=.int i/\y=.int j/\Q (.int (f i j)) H
theorem zj6:PIp X .Add (ipI fun i j=>i+j):=by
 intro pins s σ H x y v u Q I r1 r2 h;obtain⟨i,j,e1,e2,q⟩:=h;subst e1;subst e2;obtain⟨t,rfl⟩:=r1;obtain⟨t',rfl⟩:=r2;exact iadd_int ⟨.int _,H,I.tok _,⟨_,rfl⟩,q⟩
end
section
variable {X:Cx}{pos:Pos}
def zon (c:TT)(tb:TS):TS:=fun D σ H=>∃W:Nat->St->Hp->Prop,(∃m,W m σ H)/\∀m σ H,W m σ H ->
 c σ H fun b H1=>if b=true then ∃N:St->Hp->Prop,(∀ σ' H',N σ' H'->∃m',m'<m/\W m' σ' H')/\tb { D with nx:=N,ct:=N,bk:=D.nx } σ H1 else D.nx σ H1
theorem zfq {c:Expr}{body:List Stmt}{tc:TT}{tb:TS}(hp:PassesOwn (Xh X.prog X.w) X.A X.env X.xe)(hc:PT X c tc)(hb:PSs X body tb):PS X (.While c body [] pos) (zon tc tb):=by
 intro pins s σ H D I h;obtain⟨W,⟨m0,w0⟩,turn⟩:=h;refine wpAny_While (codeAny_whileLoop (fun n s'=>∃ σ' H',Inv X pins σ' H' s'/\W n σ' H') ?_ m0 ⟨σ,H,I,w0⟩);rintro n s1 ⟨σ1,H1,I1,w1⟩;refine UM hp (thn (hc pins s1 σ1 H1 _ I1 (turn n σ1 H1 w1)) fun b s2 ⟨H2,I2,q2⟩=>?_);cases b with
 | true =>
  obtain⟨N,hN,q2⟩:=q2;rw[if_pos rfl];refine UM hp (thn (hb pins s2 σ1 H2 _ I2 q2) fun f s3 q3=>?_);cases f with
  | next =>
   obtain⟨σ3,H3,I3,n3⟩:=q3;obtain⟨m',hm,w3⟩:=hN σ3 H3 n3;exact⟨m',hm,σ3,H3,I3,w3⟩
  | cont =>
   obtain⟨σ3,H3,I3,n3⟩:=q3;obtain⟨m',hm,w3⟩:=hN σ3 H3 n3;exact⟨m',hm,σ3,H3,I3,w3⟩
  | brk=>exact q3
  | ret v=>exact q3
 | false =>
  rw[if_neg XX];exact Tf ⟨σ1,H2,I2,q2⟩
end
structure It where
 go:Nat->Hp->Prop
 yld:Nat->Hp->V->Hp->Prop
 stop:Nat->Hp->Prop
def Q9 (X:Cx)(pins:List (Addr×Obj))(H:Hp)(b:Addr):Prop :=
 H b=none/\b≠X.env.locals/\b ∉ X.fs/\(b∈X.ex\/X.s₀.heap.objs.size<=b)/\(∀x c,X.env.cells.lookup x=some c->c≠b)/\∀p∈X.pn++pins,p.1≠b
theorem Inv.fpOk {X:Cx}{pins:List (Addr×Obj)}{σ:St}{H H':Hp}{s:X8}{b:Addr}(I:Inv X pins σ H s)(hb:s.heap.objs.size<=b)(hn:H' b=none):Q9 X pins H' b:=by
 refine⟨hn,UH (Xn I.lt hb),I.nofs hb,.inr (X5 I.sz hb),fun x c e z=>?_,fun p hp z=>?_⟩
 ·obtain⟨v,q⟩:=I.cell x c e;exact absurd (Xn q.lt (by rw[z];exact hb)) (V8 _)
 ·exact absurd (Xn (XO (I.pin p hp).1) (by rw[z];exact hb)) (V8 _)
structure Turn (P:Xd)(w:WP)(K:X2)(tg:Expr)(J:It)(fp:List Addr)(it:Addr)(tn:Nat->Heap->Prop):Prop where
 mem:it∈fp
 obj:∀i h,tn i h->∀b∈fp,∃o,h.get? b=some o/\∀v,o.data ≠ .cell v
 keep:∀i h h',tn i h->(∀b∈fp,∀o,h.get? b=some o->h'.get? b=some o)->tn i h'
 item:∀(X:Cx),X.prog=P->X.w=w->X.K=K->X.calm=true->∀(i:Nat) (pins:List (Addr×Obj)) (s:X8) (σ:St) (H:Hp) (E:X9->X8->Prop),Inv X pins σ H s->(∀b∈fp,Q9 X pins H b)->tn i s.heap->J.go i H ->
  Xg (Xh P w) X.A (Tb (.ref it)) (fun r s1=>∃u,r=some u /\
   Xg (Xh P w) X.A (RR tg (.ref it) u) (fun _ s2=>∃x H',Inv X pins σ H' s2/\RelV x u/\J.yld i H x H'/\tn (i+1) s2.heap/\∀b∈fp,H' b=none) E s1) E s
 done:∀(X:Cx),X.prog=P->X.w=w->X.K=K->X.calm=true->∀(i:Nat) (pins:List (Addr×Obj)) (s:X8) (σ:St) (H:Hp) (E:X9->X8->Prop),Inv X pins σ H s->(∀b∈fp,Q9 X pins H b)->tn i s.heap->J.stop i H ->
  Xg (Xh P w) X.A (Tb (.ref it)) (fun r s1=>r=none/\Inv X pins σ H s1) E s
 self:∀(A:WK) (i:Nat) (s:X8) (Q:X9->X8->Prop) (E:X9->X8->Prop),tn i s.heap->Q (.ref it) s->Xg (Xh P w) A (NE (.ref it)) Q E s
abbrev TI:=St->Hp->(It->Hp->Prop)->Prop
def PIE (X:Cx)(pins:List (Addr×Obj))(σ:St)(tg:Expr)(R:It->Hp->Prop)(itv:X9)(s2:X8):Prop :=
 ∃(it:Addr) (fp:List Addr) (tn:Nat->Heap->Prop) (J:It) (H':Hp),itv=.ref it/\Inv X pins σ H' s2/\Turn X.prog X.w X.K tg J fp it tn/\tn 0 s2.heap/\(∀b∈fp,Q9 X pins H' b)/\R J H'
def PI (X:Cx)(tg iter:Expr)(wi:TI):Prop :=
 ∀(pins:List (Addr×Obj)) (s:X8) (σ:St) (H:Hp) (R:It->Hp->Prop),Inv X pins σ H s->wi σ H R ->
  Xg (Xh X.prog X.w) X.A (eval iter X.env) (fun v s1=>Xg (Xh X.prog X.w) X.A (NE v) (PIE X pins σ tg R) X.xe s1) X.xe s
theorem znJ {M:NI}{A:WK}{E:X9->X8->Prop}{s:X8}{tg:Expr}{it:Addr}{u:X9}{o:Obj}{n:String}{vs:Array X9}{Q:Unit->X8->Prop}(ho:s.heap.get? it=some o)(hc:o.cls=.type n)(hd:o.data=.fields vs)
    (hn:["enumerate","zip","dict_itemiterator","dict_reverseitemiterator","odict_iterator","itertools.zip_longest","itertools.pairwise"].contains n=false) (hQ:Q () s):Xg M A (RR tg (.ref it) u) Q E s:=by
  unfold RR;cases tg<;>first
    | exact X6 hQ
    | (cases u<;>first
        | exact X6 hQ
        | (refine ZB (wpAny_load ho ?_)
           rw[hc,hd]
           show Xg M A (if (["enumerate","zip","dict_itemiterator","dict_reverseitemiterator","odict_iterator","itertools.zip_longest","itertools.pairwise"].contains n&&vs[0]?==some (UW _))=true then _ else _) Q E s
           rw[if_neg (by intro h;rw[hn,Uq] at h;cases h)]
           exact X6 hQ))
def Itl (K:X2)(a:Addr):It :=
 ⟨fun i H=>∃xs x,SqL K H a xs/\xs[i]?=some x,fun i H x H'=>H'=H/\∀xs,SqL K H a xs->xs[i]?=some x,fun i H=>∃xs,SqL K H a xs/\xs.length<=i⟩
def Itr (lo:Int)(n:Nat):It:=⟨fun i _=>i<n,fun i H x H'=>H'=H/\x=.int (lo+i),fun i _=>n<=i⟩
theorem ziT {P:Xd}{w:WP}{K:X2}{tg:Expr}(a it:Addr):Turn P w K tg (Itl K a) [it] it (fun i h=>h.IsListIter it a i) where
 mem:=by simp
 obj:=fun i h st b hb=>by
  have e:b=it:=by simpa using hb
  subst e;obtain⟨o,e,c,d⟩:=st;exact⟨o,e,fun v z=>by rw[d] at z;cases z⟩
 keep:=fun i h h' st k=>st.at fun o e=>k it (by simp) o e
 item:=by
  intro X hP hw hK hc i pins s σ H E I hf st hg;subst hP hw hK;obtain⟨xs,x,hq,hx⟩:=hg;obtain⟨its,rv,p,hz⟩:=I.list hq;obtain⟨u,hu,ru⟩:=rv.get hx;obtain⟨f0,f1,f2,f3,f4,f5⟩:=hf it (by simp);refine wpAny_pyNext_list_item st p.isList (x:=u) (by simpa using hu) fun h' st' sb=>?_;have I1:Inv X pins σ H { s with heap:=h' }:=I.turned (t':=s.toks) (fun b o hb e=>(sb.2 b hb).trans e) f0 f1 f3 f4 f5;obtain⟨o,e,c,d⟩:=id st';exact⟨u,rfl,znJ (s:={ s with heap:=h' }) e c d (by decide) ⟨x,H,I1,ru,⟨rfl,fun ys hy=>by rw[I.list_inj hy hq];exact hx⟩,st',fun b hb=>(hf b hb).1⟩⟩
 done:=by
  intro X hP hw hK hc i pins s σ H E I hf st hg;subst hP hw hK;obtain⟨xs,hq,hx⟩:=hg;obtain⟨its,rv,p,hz⟩:=I.list hq;obtain⟨f0,f1,f2,f3,f4,f5⟩:=hf it (by simp);have hl:=rv.length;exact wpAny_pyNext_list_end (I.ok.hd hc) st p.isList (by simp;lia) fun h' eb=>⟨rfl,I.turned (t':=s.toks) (fun b o hb e=>eb b o hb e) f0 f1 f3 f4 f5⟩
 self:=fun _ _ _ _ _ st h=>wpAny_pyIter_listiter st h
theorem zgQ {P:Xd}{w:WP}{K:X2}{tg:Expr}(it:Addr)(lo:Int)(n:Nat):Turn P w K tg (Itr lo n) [it] it (fun i h=>IsRangeIter h it (lo+(i:Nat)*1) ((n:Int)-(i:Nat)) 1) where
 mem:=by simp
 obj:=fun i h st b hb=>by
  have e:b=it:=by simpa using hb
  subst e;exact⟨_,st,fun v z=>by
   have z':Data.fields _=Data.cell v:=z;cases z'⟩
 keep:=fun i h h' st k=>k it (by simp) _ st
 item:=by
  intro X hP hw hK hc i pins s σ H E I hf st hg;subst hP hw hK;obtain⟨f0,f1,f2,f3,f4,f5⟩:=hf it (by simp);have W:=Walks.range (prog:=X.prog) (w:=X.w) (I.ok.hd hc) it lo 1 n;refine W.item i s _ _ hg st fun v h' tk hv st' kk=>?_;obtain⟨t,rfl⟩:=hv;have I1:Inv X pins σ H { s with heap:=h',toks:=tk }:=I.turned (fun b o hb e=>kk b o (by simpa using hb) e) f0 f1 f3 f4 f5;refine⟨_,rfl,znJ (s:={ s with heap:=h',toks:=tk }) (n:="range_iterator") st' rfl rfl (by decide) ⟨.int (lo+i),H,I1,⟨t,?_⟩,⟨rfl,rfl⟩,st',fun b hb=>(hf b hb).1⟩⟩;rw[Int.mul_one]
 done:=by
  intro X hP hw hK hc i pins s σ H E I hf st hg;subst hP hw hK;obtain⟨f0,f1,f2,f3,f4,f5⟩:=hf it (by simp);exact wpAny_pyNext_range_end (I.ok.hd hc) st (by have:n<=i:=hg;lia) fun h' eb=>⟨rfl,I.turned (t':=s.toks) (fun b o hb e=>eb b o hb e) f0 f1 f3 f4 f5⟩
 self:=fun _ _ _ _ _ st h=>wpAny_pyIter_rangeiter st h
section
variable {X:Cx}{tg:Expr}
def znK (K:X2)(tl:TE):TI:=fun σ H R=>tl σ H fun x H1=>∃a,x=.ref a/\(∃xs,SqL K H1 a xs)/\R (Itl K a) H1
theorem zM {l:Expr}{tl:TE}(hl:PE X l tl):PI X tg l (znK X.K tl):=by
 intro pins s σ H R I h;refine thn (hl pins s σ H _ I h) fun v s1 ⟨x,H1,I1,r1,q1⟩=>?_;obtain⟨a,e,⟨xs,hq⟩,q⟩:=q1;subst e;cases r1;obtain⟨its,rv,p,hz⟩:=I1.list hq;refine Sy p.isList ?_;refine⟨s1.heap.objs.size,[s1.heap.objs.size],_,_,H1,rfl,I1.kept (t':=s1.toks) fun b o e=>XZ _ e,ziT a _,⟨_,Xl _ rfl,rfl,rfl⟩,fun b hb=>?_,q⟩;have e:b=s1.heap.objs.size:=by simpa using hb
 subst e;exact I1.fpOk (XW _) (I1.hok.fresh (XW _))
theorem zfr {pins:List (Addr×Obj)}{σ:St}{H:Hp}{s:X8}{R:It->Hp->Prop}{E:X9->X8->Prop}{lo hi:Int}{t u v:Tok}{tk:Nat}(I:Inv X pins σ H s)(h1:-(2^62)<=lo)(h2:lo<2^62)(h3:-(2^62)<=hi)(h4:hi<2^62)
  (q:R (Itr lo (hi-lo).toNat) H):Xg (Xh X.prog X.w) X.A (NE (.ref s.heap.objs.size)) (PIE X pins σ tg R) E { s with heap:=s.heap.push { cls:=.type "range",data:=.fields #[.int lo t,.int hi u,.int 1 v] },toks:=tk }:=by
 refine wpAny_pyIter_range (IsRange.new ..) (small_one h1 h2 h3 h4) ?_;have I1:Inv X pins σ H { s with heap:=s.heap.push { cls:=.type "range",data:=.fields #[.int lo t,.int hi u,.int 1 v] },toks:=tk }:=I.kept fun b o e=>XZ _ e;refine⟨(s.heap.push { cls:=.type "range",data:=.fields #[.int lo t,.int hi u,.int 1 v] }).objs.size,[(s.heap.push { cls:=.type "range",data:=.fields #[.int lo t,.int hi u,.int 1 v] }).objs.size],_,_,H,rfl,
  I1.kept (t':=tk) fun b o e=>XZ _ e,zgQ _ lo (hi-lo).toNat,?_,fun b hb=>?_,q⟩
 ·have e1:lo+((0:Nat):Int)*1=lo:=by simp
  have e2:(((hi-lo).toNat:Nat):Int)-((0:Nat):Int)=Builtin.Range.rangeSize lo hi 1:=by rw[rangeSize_one];split<;>lia
  show IsRangeIter _ _ (lo+((0:Nat):Int)*1) ((((hi-lo).toNat:Nat):Int)-((0:Nat):Int)) 1;rw[e1,e2];exact Xl _ rfl
 ·have e:b=(s.heap.push { cls:=.type "range",data:=.fields #[.int lo t,.int hi u,.int 1 v] }).objs.size:=by simpa using hb
  subst e;exact I1.fpOk (XW _) (I1.hok.fresh (XW _))
def zpS (ta:TA):TI:=fun σ H R=>ta σ H fun vs H1=>∃j:Int,vs=[.int j]/\-(2^62)<=j/\j<2^62/\R (Itr 0 j.toNat) H1
def zpT (ta:TA):TI:=fun σ H R=>ta σ H fun vs H1=>∃i j:Int,vs=[.int i,.int j]/\(-(2^62)<=i/\i<2^62/\-(2^62)<=j/\j<2^62)/\R (Itr i (j-i).toNat) H1
theorem qI {a:Expr}{ta:TA}{p pos:Pos}(hg:Gl X "range")(hm:X.mg "range"=none)(ha:PA X [a] ta)(hs:WA [a] X.env=[(false,eval a X.env)]:=by rfl):PI X tg (.Call (.Name "range" p) [a] [] pos) (zpS ta):=by
 intro pins s σ H R I h;refine Call_ (Yt I hg hm boot_range (VS (thn (ha pos pins s σ H _ I h) fun us s1 ⟨vs,H1,I1,r1,q1⟩=>?_) hs rfl));obtain⟨j,e,q1,q2,q⟩:=q1;subst e;cases r1 with
 | cons r rr =>
  cases rr;obtain⟨t,rfl⟩:=r;exact call_range_1 (zfr I1 (by lia) (by lia) q1 q2 (by simpa using q))
theorem Y4 {a b:Expr}{ta:TA}{p pos:Pos}(hg:Gl X "range")(hm:X.mg "range"=none)(ha:PA X [a,b] ta)(hs:WA [a,b] X.env=[(false,eval a X.env),(false,eval b X.env)]:=by rfl)(hs2:WA [b] X.env=[(false,eval b X.env)]:=by rfl) :
  PI X tg (.Call (.Name "range" p) [a,b] [] pos) (zpT ta):=by
 intro pins s σ H R I h;refine Call_ (Yt I hg hm boot_range (VS (thn (ha pos pins s σ H _ I h) fun us s1 ⟨vs,H1,I1,r1,q1⟩=>?_) (by rw[hs,hs2]) (by rw[hs2];rfl)));obtain⟨i,j,e,⟨q1,q2,q3,q4⟩,q⟩:=q1;subst e;cases r1 with
 | cons r rr =>
  cases rr with
  | cons r' rr =>
   cases rr;obtain⟨t,rfl⟩:=r;obtain⟨t',rfl⟩:=r';exact call_range_2 (zfr I1 q1 q2 q3 q4 q)
def zqZ (wi:TI)(g:TG)(tb:TS):TS:=fun D σ H=>wi σ H fun J H1=>∃W:Nat->Nat->St->Hp->Prop,(∃m,W 0 m σ H1)/\∀i m σ H,W i m σ H ->
 (J.stop i H/\D.nx σ H)\/(J.go i H/\∃N:St->Hp->Prop,(∀ σ' H',N σ' H'->∃m',m'<m/\W (i+1) m' σ' H')/\∀x H',J.yld i H x H'->g x σ H' fun σ2 H2=>tb { D with nx:=N,ct:=N,bk:=D.nx } σ2 H2)
def QI (fp:List Addr)(h:Heap):List (Addr×Obj):=fp.filterMap fun b=>(h.get? b).map fun o=>(b,o)
theorem jR {fp:List Addr}{h:Heap}{b:Addr}{o:Obj}(hb:b∈fp)(e:h.get? b=some o):(b,o)∈QI fp h:=S5.mpr ⟨b,hb,by rw[e];rfl⟩
theorem ziU {fp:List Addr}{h:Heap}{p:Addr×Obj}(hp:p∈QI fp h):p.1∈fp/\h.get? p.1=some p.2:=by
 obtain⟨b,hb,e⟩:=S5.mp hp;cases q:h.get? b with
 | none=>rw[q] at e;cases e
 | some o =>
  rw[q] at e;have e':(b,o)=p:=Option.some.inj e;subst e';exact⟨hb,q⟩
theorem Inv.pinned {pins:List (Addr×Obj)}{σ:St}{H:Hp}{s:X8}{fp:List Addr}(I:Inv X pins σ H s)(hf:∀b∈fp,Q9 X pins H b)(ho:∀b∈fp,∃o,s.heap.get? b=some o/\∀v,o.data ≠ .cell v):Inv X (pins++QI fp s.heap) σ H s :=
 I.pins_of fun p hp=>(XG.mp hp).elim (fun z=>I.pin p (Xr _ z)) fun z=>by
  obtain⟨hb,e⟩:=ziU z;obtain⟨f0,f1,f2,_⟩:=hf p.1 hb;obtain⟨o,e',d⟩:=ho p.1 hb;rw[e] at e';cases e';exact⟨e,f0,f1,f2,d⟩
theorem Inv.unpinned {pins pl:List (Addr×Obj)}{σ:St}{H:Hp}{s:X8}(I:Inv X (pins++pl) σ H s):Inv X pins σ H s:=I.pins_of fun p hp=>I.pin p (Xr _ (WZ _ hp))
theorem qj {iter:Expr}{body:List Stmt}{wi:TI}{g:TG}{tb:TS}{pos:Pos}(hp:PassesOwn (Xh X.prog X.w) X.A X.env X.xe)(hc:X.calm=true)(hi:PI X tg iter wi)(hg:PG X tg g)(hb:PSs X body tb)
  (hs:∀x,Sx iter X.env x=pure x:=by intro _;rfl):PS X (.For tg iter body [] pos) (zqZ wi g tb):=by
 intro pins s σ H D I h;refine wpAny_For (thn (hi pins s σ H _ I h) fun v s1 h1=>thn h1 fun itv s2 h2=>?_) hs;obtain⟨it,fp,tn,J,H2,e,I2,T,st2,f2,W,⟨m0,w0⟩,turn⟩:=h2;subst e;have stat:∀{H':Hp},(∀b∈fp,H' b=none)->∀b∈fp,Q9 X pins H' b:=fun hn b hb=>⟨hn b hb,(f2 b hb).2⟩;refine codeAny_forLoop_any (fun n s'=>∃i σ' H',Inv X pins σ' H' s'/\tn i s'.heap/\(∀b∈fp,H' b=none)/\W i n σ' H') ?_ m0 ⟨0,σ,H2,I2,st2,fun b hb=>(f2 b hb).1,w0⟩;rintro n s3 ⟨i,σ3,H3,I3,st3,fr3,w3⟩;rcases turn i n σ3 H3 w3 with ⟨stop,qn⟩ | ⟨go,N,hN,step⟩
 ·refine UM hp (thn (T.done X rfl rfl rfl hc i pins s3 σ3 H3 X.xe I3 (stat fr3) st3 stop) fun r s4 ⟨hr,I4⟩=>?_);subst hr;exact Tf ⟨σ3,H3,I4,qn⟩
 ·refine UM hp (thn (T.item X rfl rfl rfl hc i pins s3 σ3 H3 X.xe I3 (stat fr3) st3 go) fun r s4 ⟨u,hr,h4⟩=>?_);subst hr;refine UM hp (thn h4 fun _ s5 ⟨x,H5,I5,r5,y5,st5,fr5⟩=>?_);have I5':=I5.pinned (stat fr5) (T.obj _ _ st5);refine UM hp (thn (hg _ s5 σ3 H5 x u _ I5' r5 (step x H5 y5)) fun _ s6 ⟨σ6,H6,I6,q6⟩=>?_);refine UM hp (thn (hb _ s6 σ6 H6 _ I6 q6) fun f s7 q7=>?_);have Rh:∀{σ7:St} {H7:Hp},Inv X (pins++QI fp s5.heap) σ7 H7 s7->N σ7 H7->∃m,m<n/\∃i σ' H',Inv X pins σ' H' s7/\tn i s7.heap/\(∀b∈fp,H' b=none)/\W i m σ' H':=fun {σ7 H7} I7 n7=>by
   obtain⟨m',hm,w7⟩:=hN σ7 H7 n7;refine⟨m',hm,i+1,σ7,H7,I7.unpinned,T.keep _ _ _ st5 fun b hb o e=>(I7.pin (b,o) (Xr _ (Xr _ (jR hb e)))).1,fun b hb=>?_,w7⟩;obtain⟨o,e,d⟩:=T.obj _ _ st5 b hb;exact(I7.pin (b,o) (Xr _ (Xr _ (jR hb e)))).2.1
  cases f with
  | next=>obtain⟨σ7,H7,I7,n7⟩:=q7;exact Rh I7 n7
  | cont=>obtain⟨σ7,H7,I7,n7⟩:=q7;exact Rh I7 n7
  | brk=>obtain⟨σ7,H7,I7,q7⟩:=q7;exact⟨σ7,H7,I7.unpinned,q7⟩
  | ret v=>obtain⟨x7,σ7,H7,I7,r7,q7⟩:=q7;exact⟨x7,σ7,H7,I7.unpinned,r7,q7⟩
end
theorem jS {K:X2}{a:Addr}{xs:List V}{g:TG}{tb:TS}{D:Ends}{σ:St}{H:Hp}(Pv:Nat->St->Hp->Prop)(h0:Pv 0 σ H)(hl:∀i σ H,i<=xs.length->Pv i σ H->SqL K H a xs)
  (hs:∀i x σ H,xs[i]?=some x->Pv i σ H->g x σ H fun σ2 H2=>tb { D with nx:=Pv (i+1),ct:=Pv (i+1),bk:=D.nx } σ2 H2) (hd:∀ σ H,Pv xs.length σ H->D.nx σ H) :
  ∃W:Nat->Nat->St->Hp->Prop,(∃m,W 0 m σ H)/\∀i m σ H,W i m σ H ->
   ((Itl K a).stop i H/\D.nx σ H)\/((Itl K a).go i H/\∃N:St->Hp->Prop,(∀ σ' H',N σ' H'->∃m',m'<m/\W (i+1) m' σ' H')/\∀x H',(Itl K a).yld i H x H'->g x σ H' fun σ2 H2=>tb { D with nx:=N,ct:=N,bk:=D.nx } σ2 H2):=by
 refine⟨fun i m σ H=>m=xs.length-i/\i<=xs.length/\Pv i σ H,⟨xs.length,by simp,W5 _,h0⟩,?_⟩;rintro i m σ H ⟨rfl,hi,p⟩;have q:=hl i σ H hi p;by_cases hlt:i<xs.length
 ·refine .inr ⟨⟨xs,xs[i],q,by simp[hlt]⟩,Pv (i+1),fun σ' H' p'=>⟨xs.length-(i+1),by lia,rfl,hlt,p'⟩,fun x H' y=>?_⟩;obtain⟨e,y⟩:=y;subst e;exact hs i x σ _ (y xs q) p
 ·have e:i=xs.length:=by lia
  subst e;exact .inl ⟨⟨xs,q,XW _⟩,hd σ H p⟩
theorem qw {lo:Int}{n:Nat}{g:TG}{tb:TS}{D:Ends}{σ:St}{H:Hp}(Pv:Nat->St->Hp->Prop)(h0:Pv 0 σ H)
  (hs:∀i σ H,i<n->Pv i σ H->g (.int (lo+i)) σ H fun σ2 H2=>tb { D with nx:=Pv (i+1),ct:=Pv (i+1),bk:=D.nx } σ2 H2) (hd:∀ σ H,Pv n σ H->D.nx σ H) :
  ∃W:Nat->Nat->St->Hp->Prop,(∃m,W 0 m σ H)/\∀i m σ H,W i m σ H ->
   ((Itr lo n).stop i H/\D.nx σ H)\/((Itr lo n).go i H/\∃N:St->Hp->Prop,(∀ σ' H',N σ' H'->∃m',m'<m/\W (i+1) m' σ' H')/\∀x H',(Itr lo n).yld i H x H'->g x σ H' fun σ2 H2=>tb { D with nx:=N,ct:=N,bk:=D.nx } σ2 H2):=by
 refine⟨fun i m σ H=>m=n-i/\i<=n/\Pv i σ H,⟨n,by simp,W5 _,h0⟩,?_⟩;rintro i m σ H ⟨rfl,hi,p⟩;by_cases hlt:i<n
 ·refine .inr ⟨hlt,Pv (i+1),fun σ' H' p'=>⟨n-(i+1),by lia,rfl,hlt,p'⟩,fun x H' y=>?_⟩;obtain⟨e,y⟩:=y;subst e y;exact hs i σ _ hlt p
 ·have e:i=n:=by lia
  subst e;exact .inl ⟨XW _,hd σ H p⟩
abbrev R2:=V->V->Hp->VK->Prop
def OpR (X:Cx)(f:X9->X9->Sem X9)(r:R2):Prop :=
 ∀(pins:List (Addr×Obj)) (s:X8) (σ:St) (H:Hp) (x y:V) (v u:X9) (Q:VK),Inv X pins σ H s->RelV x v->RelV y u->r x y H Q ->
  Xg (Xh X.prog X.w) X.A (f v u) (EP X pins σ Q) X.xe s
def UnR (X:Cx)(f:X9->Sem X9)(r:V->Hp->VK->Prop):Prop :=
 ∀(pins:List (Addr×Obj)) (s:X8) (σ:St) (H:Hp) (x:V) (v:X9) (Q:VK),Inv X pins σ H s->RelV x v->r x H Q ->
  Xg (Xh X.prog X.w) X.A (f v) (EP X pins σ Q) X.xe s
def jT (X:Cx)(f:X9)(r:List V->Hp->VK->Prop):Prop :=
 ∀(pins:List (Addr×Obj)) (s:X8) (σ:St) (H:Hp) (xs:List V) (us:List X9) (Q:VK),Inv X pins σ H s->Vals xs us->r xs H Q ->
  Xg (Xh X.prog X.w) X.A (call f us) (EP X pins σ Q) X.xe s
def zq0 (X:Cx)(r:V->Hp->(Bool->Hp->Prop)->Prop):Prop :=
 ∀(pins:List (Addr×Obj)) (s:X8) (σ:St) (H:Hp) (x:V) (v:X9) (Q:Bool->Hp->Prop),Inv X pins σ H s->RelV x v->r x H Q ->
  Xg (Xh X.prog X.w) X.A (truthy v) (TP X pins σ Q) X.xe s
def tOp (r:R2)(ta tb:TE):TE:=fun σ H Q=>ta σ H fun x H1=>tb σ H1 fun y H2=>r x y H2 Q
def tUn (r:V->Hp->VK->Prop)(ta:TE):TE:=fun σ H Q=>ta σ H fun x H1=>r x H1 Q
def rI (C:Int->Int->Prop)(g:Int->Int->V):R2:=fun x y H Q=>∃i j,x=.int i/\y=.int j/\C i j/\Q (g i j) H
def rI0 (g:Int->Int->V):R2:=fun x y H Q=>∃i j,x=.int i/\y=.int j/\Q (g i j) H
def rU (g:Int->V):V->Hp->VK->Prop:=fun x H Q=>∃i,x=.int i/\Q (g i) H
section
variable {X:Cx}{a b c:Expr}{ta tb tc:TE}{pos:Pos}
theorem zoo (ha:PE X a ta)(hb:PE X b tb){pins:List (Addr×Obj)}{s:X8}{σ:St}{H:Hp}{R:V->V->Hp->Prop}(I:Inv X pins σ H s)
  (h:ta σ H fun x H1=>tb σ H1 fun y H2=>R x y H2) {Q:X9->X8->Prop} {f:X9->X9->Sem X9}
  (hf:∀v u s2 x y H2,Inv X pins σ H2 s2->RelV x v->RelV y u->R x y H2->Xg (Xh X.prog X.w) X.A (f v u) Q X.xe s2) :
  Xg (Xh X.prog X.w) X.A (eval a X.env) (fun v s₁=>Xg (Xh X.prog X.w) X.A (eval b X.env) (fun u s₂=>Xg (Xh X.prog X.w) X.A (f v u) Q X.xe s₂) X.xe s₁) X.xe s:=by
 refine thn (ha pins s σ H _ I h) fun v s1 ⟨x,H1,I1,r1,q1⟩=>?_;refine thn (hb pins s1 σ H1 _ I1 q1) fun u s2 ⟨y,H2,I2,r2,q2⟩=>?_;exact hf v u s2 x y H2 I2 r1 r2 q2
theorem zz {op:Operator}{r:R2}(ho:OpR X (T9 op) r)(ha:PE X a ta)(hb:PE X b tb):PE X (.BinOp a op b pos) (tOp r ta tb):=by
 intro pins s σ H Q I h;exact wpAny_BinOp (zoo ha hb I h fun v u s2 x y H2 I2 rx ry q=>ho pins s2 σ H2 x y v u Q I2 rx ry q)
theorem zpU {op:UnaryOp}{r:V->Hp->VK->Prop}(ho:UnR X (unaryOp op) r)(ha:PE X a ta):PE X (.UnaryOp op a pos) (tUn r ta):=by
 intro pins s σ H Q I h;exact UnaryOp_ (thn (ha pins s σ H _ I h) fun v s1 ⟨x,H1,I1,r1,q1⟩=>ho pins s1 σ H1 x v Q I1 r1 q1)
theorem opI {f:X9->X9->Sem X9}{C:Int->Int->Prop}{g:Int->Int->Int}
  (rule:∀(i j:Int) (t u:Tok) (s:X8) (Q:X9->X8->Prop) (E:X9->X8->Prop),C i j->Q (.int (g i j) s.toks) { s with toks:=s.toks+1 }->Xg (Xh X.prog X.w) X.A (f (.int i t) (.int j u)) Q E s) :
  OpR X f (rI C fun i j=>.int (g i j)):=by
 intro pins s σ H x y v u Q I rx ry h;obtain⟨i,j,rfl,rfl,hc,q⟩:=h;obtain⟨t,rfl⟩:=rx;obtain⟨t',rfl⟩:=ry;exact rule i j t t' s _ _ hc ⟨.int (g i j),H,I.tok _,⟨_,rfl⟩,q⟩
theorem zpV {f:X9->X9->Sem X9}{g:Int->Int->Int}
  (rule:∀(i j:Int) (t u:Tok) (s:X8) (Q:X9->X8->Prop) (E:X9->X8->Prop),Q (.int (g i j) s.toks) { s with toks:=s.toks+1 }->Xg (Xh X.prog X.w) X.A (f (.int i t) (.int j u)) Q E s) :
  OpR X f (rI0 fun i j=>.int (g i j)):=by
 intro pins s σ H x y v u Q I rx ry h;obtain⟨i,j,rfl,rfl,q⟩:=h;obtain⟨t,rfl⟩:=rx;obtain⟨t',rfl⟩:=ry;exact rule i j t t' s _ _ ⟨.int (g i j),H,I.tok _,⟨_,rfl⟩,q⟩
theorem zop {f:X9->X9->Sem X9}{g:Int->Int->Bool}
  (rule:∀(i j:Int) (t u:Tok) (s:X8) (Q:X9->X8->Prop) (E:X9->X8->Prop),Q (.bool (g i j)) s->Xg (Xh X.prog X.w) X.A (f (.int i t) (.int j u)) Q E s) :
  OpR X f (rI0 fun i j=>.bl (g i j)):=by
 intro pins s σ H x y v u Q I rx ry h;obtain⟨i,j,rfl,rfl,q⟩:=h;obtain⟨t,rfl⟩:=rx;obtain⟨t',rfl⟩:=ry;exact rule i j t t' s _ _ ⟨.bl (g i j),H,I,rfl,q⟩
def zq1 (i j:Int):Prop:=0<j/\j<1073741824
theorem zoq:OpR X (T9 .Add) (rI0 fun i j=>.int (i+j)):=zpV fun _ _ _ _ _ _ _ q=>add_int q
theorem zor:OpR X (T9 .Sub) (rI0 fun i j=>.int (i-j)):=zpV fun _ _ _ _ _ _ _ q=>sub_int q
theorem zos:OpR X (T9 .Mod) (rI (fun _ j=>0<j) fun i j=>.int (i%j)):=opI fun i j _ _ _ _ _ hc q=>by
 have h1:(0:Int)<j:=hc;exact mod_int' (by lia) (by rw[Rr i (by lia)];exact q)
theorem unI {f:X9->Sem X9}{g:Int->Int}
  (rule:∀(i:Int) (t:Tok) (s:X8) (Q:X9->X8->Prop) (E:X9->X8->Prop),Q (.int (g i) s.toks) { s with toks:=s.toks+1 }->Xg (Xh X.prog X.w) X.A (f (.int i t)) Q E s) :
  UnR X f (rU fun i=>.int (g i)):=by
 intro pins s σ H x v Q I rx h;obtain⟨i,rfl,q⟩:=h;obtain⟨t,rfl⟩:=rx;exact rule i t s _ _ ⟨.int (g i),H,I.tok _,⟨_,rfl⟩,q⟩
theorem zot:UnR X (unaryOp .USub) (rU fun i=>.int (-i)):=unI fun _ _ _ _ _ q=>neg_int q
end
def zpW:V->V->Bool
 | .non,.non=>true | .non,.int _=>true | .int _,.non=>true | .non,.bl _=>true | .bl _,.non=>true | .non,.str _=>true | .str _,.non=>true
 | .int _,.int _=>true | .bl _,.bl _=>true | .str _,.str _=>true | .byt _,.byt _=>true
 | .int _,.str _=>true | .str _,.int _=>true | .bl _,.str _=>true | .str _,.bl _=>true
 | _,_=>false
def rEq:R2:=fun x y H Q=>zpW x y=true/\Q (.bl (decide (x=y))) H
def rNe:R2:=fun x y H Q=>zpW x y=true/\Q (.bl (!decide (x=y))) H
theorem zez {i j:Int}:decide (V.int i=V.int j)=(i==j):=by
 rw[Wz];simp
theorem zj7 {i j:Bool}:decide (V.bl i=V.bl j)=(i==j):=by
 rw[Wz];simp
theorem zh5 {i j:Str}:decide (V.str i=V.str j)=(i==j):=by
 rw[Wz];simp
theorem zh6 {i j:Array UInt8}:decide (V.byt i=V.byt j)=(i.toList==j.toList):=by
 rw[Wz];cases i;cases j;simp
section
variable {X:Cx}{a b c:Expr}{ta tb tc:TE}{pos:Pos}
theorem qe {pins:List (Addr×Obj)}{σ:St}{H:Hp}{s:X8}{Q:VK}{k k':Bool}(I:Inv X pins σ H s)(q:Q (.bl k) H)(e:k=k'):EP X pins σ Q (.bool k') s:=by
 subst e;exact⟨.bl k,H,I,rfl,q⟩
theorem JF:OpR X (VW .Eq) rEq:=by
 intro pins s σ H x y v u Q I rx ry h;obtain⟨hs,q⟩:=h;cases x with
 | non =>
  cases rx;cases y with
  | non=>cases ry;exact PySem.EqNone.eq_none_none (qe I q (by simp))
  | bl j=>cases ry;exact PySem.EqNone.eq_none_bool (qe I q (by simp))
  | int j=>obtain⟨t',rfl⟩:=ry;exact PySem.EqNone.eq_none_int (qe I q (by simp))
  | str j=>obtain⟨t',rfl⟩:=ry;exact PySem.EqNone.eq_none_str (qe I q (by simp))
  | _=>exact absurd (show false=true from hs) XX
 | bl i =>
  cases rx;cases y with
  | non=>cases ry;exact PySem.EqNone.eq_bool_none (qe I q (by simp))
  | bl j=>cases ry;exact eq_bool (qe I q zj7)
  | str j=>obtain⟨t',rfl⟩:=ry;exact PySem.EqMixed.eq_bool_str (qe I q (by simp))
  | _=>exact absurd (show false=true from hs) XX
 | int i =>
  obtain⟨t,rfl⟩:=rx;cases y with
  | non=>cases ry;exact PySem.EqNone.eq_int_none (qe I q (by simp))
  | int j=>obtain⟨t',rfl⟩:=ry;exact eq_int (qe I q zez)
  | str j=>obtain⟨t',rfl⟩:=ry;exact PySem.EqMixed.eq_int_str (qe I q (by simp))
  | _=>exact absurd (show false=true from hs) XX
 | str i =>
  obtain⟨t,rfl⟩:=rx;cases y with
  | non=>cases ry;exact PySem.EqNone.eq_str_none (qe I q (by simp))
  | bl j=>cases ry;exact PySem.EqMixed.eq_str_bool (qe I q (by simp))
  | int j=>obtain⟨t',rfl⟩:=ry;exact PySem.EqMixed.eq_str_int (qe I q (by simp))
  | str j=>obtain⟨t',rfl⟩:=ry;exact eq_str (qe I q zh5)
  | _=>exact absurd (show false=true from hs) XX
 | byt i =>
  obtain⟨t,rfl⟩:=rx;cases y with
  | byt j=>obtain⟨t',rfl⟩:=ry;exact PySem.W.eq_bytes (qe I q zh6)
  | _=>exact absurd (show false=true from hs) XX
 | _=>cases y<;>exact absurd (show false=true from hs) XX
theorem Qq:OpR X (VW .NotEq) rNe:=by
 intro pins s σ H x y v u Q I rx ry h;obtain⟨hs,q⟩:=h;cases x with
 | non =>
  cases rx;cases y with
  | non=>cases ry;exact PySem.EqNone.ne_none_none (qe I q (by simp))
  | bl j=>cases ry;exact PySem.EqNone.ne_none_bool (qe I q (by simp))
  | int j=>obtain⟨t',rfl⟩:=ry;exact PySem.EqNone.ne_none_int (qe I q (by simp))
  | str j=>obtain⟨t',rfl⟩:=ry;exact PySem.EqNone.ne_none_str (qe I q (by simp))
  | _=>exact absurd (show false=true from hs) XX
 | bl i =>
  cases rx;cases y with
  | non=>cases ry;exact PySem.EqNone.ne_bool_none (qe I q (by simp))
  | bl j=>cases ry;exact ne_bool (qe I q (congrArg not zj7))
  | str j=>obtain⟨t',rfl⟩:=ry;exact PySem.EqMixed.ne_bool_str (qe I q (by simp))
  | _=>exact absurd (show false=true from hs) XX
 | int i =>
  obtain⟨t,rfl⟩:=rx;cases y with
  | non=>cases ry;exact PySem.EqNone.ne_int_none (qe I q (by simp))
  | int j=>obtain⟨t',rfl⟩:=ry;exact ne_int (qe I q (congrArg not zez))
  | str j=>obtain⟨t',rfl⟩:=ry;exact PySem.EqMixed.ne_int_str (qe I q (by simp))
  | _=>exact absurd (show false=true from hs) XX
 | str i =>
  obtain⟨t,rfl⟩:=rx;cases y with
  | non=>cases ry;exact PySem.EqNone.ne_str_none (qe I q (by simp))
  | bl j=>cases ry;exact PySem.EqMixed.ne_str_bool (qe I q (by simp))
  | int j=>obtain⟨t',rfl⟩:=ry;exact PySem.EqMixed.ne_str_int (qe I q (by simp))
  | str j=>obtain⟨t',rfl⟩:=ry;exact ne_str (qe I q (congrArg not zh5))
  | _=>exact absurd (show false=true from hs) XX
 | byt i =>
  obtain⟨t,rfl⟩:=rx;cases y with
  | byt j=>obtain⟨t',rfl⟩:=ry;exact PySem.W.ne_bytes (qe I q (congrArg not zh6))
  | _=>exact absurd (show false=true from hs) XX
 | _=>cases y<;>exact absurd (show false=true from hs) XX
theorem zpX:OpR X (VW .Lt) (rI0 fun i j=>.bl (decide (i<j))):=zop fun _ _ _ _ _ _ _ q=>lt_int q
theorem zpY:OpR X (VW .LtE) (rI0 fun i j=>.bl (decide (i<=j))):=zop fun _ _ _ _ _ _ _ q=>le_int q
theorem zpZ:OpR X (VW .Gt) (rI0 fun i j=>.bl (decide (j<i))):=zop fun _ _ _ _ _ _ _ q=>gt_int q
theorem zou:OpR X (VW .Is) (fun x y H Q=>y=.non/\Q (.bl (decide (x=.non))) H):=by
 intro pins s σ H x y v u Q I rx ry h;obtain⟨rfl,q⟩:=h;cases ry;refine is_none_gen (qe I q ?_);cases x<;>first
  | (cases rx;rfl)
  | (obtain⟨t,rfl⟩:=rx;rfl)
theorem zmw:OpR X (VW .IsNot) (fun x y H Q=>y=.non/\Q (.bl (!decide (x=.non))) H):=by
 intro pins s σ H x y v u Q I rx ry h;obtain⟨rfl,q⟩:=h;cases ry;refine isnot_none_gen (qe I q ?_);cases x<;>first
  | (cases rx;rfl)
  | (obtain⟨t,rfl⟩:=rx;rfl)
theorem zQ (b:Expr){op:CmpOp}(h:op ≠ .In:=by decide)(h2:op ≠ .NotIn:=by decide):QQ op b=false:=by
 have e1:(op==CmpOp.In)=false:=by cases op<;>first | rfl | exact absurd rfl h
 have e2:(op==CmpOp.NotIn)=false:=by cases op<;>first | rfl | exact absurd rfl h2
 cases b<;>simp[QQ,e1,e2]
theorem Y5 {op:CmpOp}{r:R2}(ho:OpR X (VW op) r)(ha:PE X a ta)(hb:PE X b tb)(hm:QQ op b=false):PE X (.Compare a [op] [b] pos) (tOp r ta tb):=by
 intro pins s σ H Q I h;exact wpAny_Compare1 (zoo ha hb I h fun v u s2 x y H2 I2 rx ry q=>ho pins s2 σ H2 x y v u Q I2 rx ry q) hm
def zp0 (t:TE):TT:=fun σ H Q=>t σ H fun x H'=>∃k,x=.bl k/\Q k H'
def zov (r r':R2)(ta tb tc:TE):TE:=fun σ H Q=>ta σ H fun x H1=>tb σ H1 fun y H2=>r x y H2 fun z H3=>∃k,z=.bl k /\
 (if k=true then tc σ H3 fun w' H4=>r' y w' H4 Q else Q (.bl false) H3)
theorem zfs {op op':CmpOp}{r r':R2}(ho:OpR X (VW op) r)(ho':OpR X (VW op') r')(ha:PE X a ta)(hb:PE X b tb)(hc:PE X c tc)
  (hm:lastMarks [op,op'] [b,c]=false:=by with_unfolding_all rfl):PT X (.Compare a [op,op'] [b,c] pos) (zp0 (zov r r' ta tb tc)):=by
 intro pins s σ H Q I h;refine isTrue_chain (thn (ha pins s σ H _ I h) fun v s1 ⟨x,H1,I1,r1,q1⟩=>test_link (thn (hb pins s1 σ H1 _ I1 q1) fun u s2 ⟨y,H2,I2,r2,q2⟩ =>
  thn (ho pins s2 σ H2 x y v u _ I2 r1 r2 q2) fun d s3 ⟨z,H3,I3,r3,k,e,q3⟩=>?_)) hm
 subst e;cases r3;refine VA ?_;cases k with
 | false =>
  obtain⟨k',e',q'⟩:=q3;cases e';exact ite_ff ⟨H3,I3,q'⟩
 | true =>
  refine ite_tt (test_last (thn (hc pins s3 σ H3 _ I3 q3) fun w' s4 ⟨z',H4,I4,r4,q4⟩=>thn (ho' pins s4 σ H4 y z' u w' _ I4 r2 r4 q4) fun d' s5 ⟨z2,H5,I5,r5,k2,e2,q5⟩=>?_));subst e2;cases r5;exact VA ⟨H5,I5,q5⟩
def zow (K:X2)(x:V)(H:Hp)(k:Bool):Prop :=
 match x with
 | .non=>k=false
 | .bl b=>k=b
 | .int i=>k=(i != 0)
 | .str y=>y.length<=Xz/\k=((y.length:Int) != 0)
 | .byt y=>y.size<=Xz/\k=((y.size:Int) != 0)
 | .ref p=>(∃xs,SqL K H p xs/\k=!xs.isEmpty)\/(∃xs,SqT K H p xs/\k=!xs.isEmpty)\/∃kvs,H p=some (.dK kvs)/\k=!kvs.isEmpty
 | _=>False
theorem zgR {κ:Type}{kvs:List (κ × V)}{vs:List (κ × X9)}(r:KV kvs vs):(!vs.isEmpty)=!kvs.isEmpty:=by
 cases r<;>rfl
theorem zb8 {xs:List V}{its:List X9}(r:Vals xs its):(!its.toArray.isEmpty)=!xs.isEmpty:=by
 cases r<;>simp
theorem Yv:(Xz:Nat)<2^63:=by rw[TV];decide
theorem zox:zq0 X (fun x H Q=>∃k,zow X.K x H k/\Q k H):=by
 intro pins s σ H x v Q I rx h;obtain⟨k,e,q⟩:=h;have hl:=Yv;have hs:Xz=16777216:=TV;cases x with
 | non =>
  cases rx;have e':k=false:=e;subst e';exact truthy_none ⟨H,I,q⟩
 | bl b =>
  cases rx;have e':k=b:=e;subst e';exact VA ⟨H,I,q⟩
 | int i =>
  obtain⟨t,rfl⟩:=rx;have e':k=(i != 0):=e;subst e';exact PySem.P.truthy_int ⟨H,I,q⟩
 | str y =>
  obtain⟨t,rfl⟩:=rx;obtain⟨hy,e'⟩:y.length<=Xz/\k=((y.length:Int) != 0):=e;subst e';exact PySem.P.truthy_str (by lia) ⟨H,I.tok _,q⟩
 | byt y =>
  obtain⟨t,rfl⟩:=rx;obtain⟨hy,e'⟩:y.size<=Xz/\k=((y.size:Int) != 0):=e;subst e';exact PySem.W.truthy_bytes (by lia) ⟨H,I.tok _,q⟩
 | ref p =>
  cases rx;have e':(∃xs,SqL X.K H p xs/\k=!xs.isEmpty)\/(∃xs,SqT X.K H p xs/\k=!xs.isEmpty)\/∃kvs,H p=some (.dK kvs)/\k=!kvs.isEmpty:=e;rcases e' with ⟨xs,hx,e'⟩ | ⟨xs,hx,e'⟩ | ⟨kvs,hx,e'⟩
  ·subst e';obtain⟨its,r,pl,hz⟩:=I.list hx;have hlen:=r.length;exact wpAny_truthy_list pl.isList (by simp only[Xo];lia) ⟨H,I.tok _,by rw[zb8 r];exact q⟩
  ·subst e';obtain⟨its,r,pl,hz⟩:=I.tuple hx;have hlen:=r.length;exact truthy_tuple pl (by simp only[Xo];lia) ⟨H,I.tok _,by rw[zb8 r];exact q⟩
  ·subst e';obtain⟨hz,hS,vs,r,m⟩:kvs.length<=Xz/\(p==UC)=false/\∃vs,KV kvs vs/\s.heap.DictOf (zV X.prog X.w) p vs:=I.hok p _ hx;have hlen:kvs.length=vs.length:=Paired.length r;exact wpAny_truthy_dict hS m (by lia) ⟨H,I.tok _,by rw[zgR r];exact q⟩
 | _=>exact(show False from e).elim
theorem xX (ha:PE X a ta)(he:∀whole,isTrue a X.env whole=(do let v <- whole;standAt a.pos;N6 [v] (truthy v))) :
  PT X a (fun σ H Q=>ta σ H fun x H'=>∃k,zow X.K x H' k/\Q k H'):=by
 intro pins s σ H Q I h;exact isTrue_plain (thn (ha pins s σ H _ I h) fun v s1 ⟨x,H1,I1,r1,q1⟩=>zox pins s1 σ H1 x v Q I1 r1 q1) (he _)
theorem zgS:OpR X (T9 .Add) (fun x y H Q=>∃i j,x=.str i/\y=.str j/\i.length+j.length<=Xz/\Q (.str (i++j)) H):=by
 intro pins s σ H x y v u Q I rx ry h;obtain⟨i,j,rfl,rfl,hz,q⟩:=h;obtain⟨t,rfl⟩:=rx;obtain⟨t',rfl⟩:=ry;exact add_str (fun t' tk=>⟨.str (i++j),H,I.tok _,⟨_,rfl⟩,q⟩) hz
theorem vals1 {x:V}{us:List X9}(r:Vals [x] us):∃u,us=[u]/\RelV x u:=by
 cases r with
 | cons r1 r2=>cases r2;exact⟨_,rfl,r1⟩
theorem vals2 {x y:V}{us:List X9}(r:Vals [x,y] us):∃u w',us=[u,w']/\RelV x u/\RelV y w':=by
 cases r with
 | cons r1 r2 =>
  cases r2 with
  | cons r3 r4=>cases r4;exact⟨_,_,rfl,r1,r3⟩
theorem Zi (hc:X.calm=true):jT X (.builtin "max") (fun xs H Q=>∃i j,xs=[.int i,.int j]/\Q (.int (if j>i then j else i)) H):=by
 intro pins s σ H xs us Q I r h;obtain⟨i,j,rfl,q⟩:=h;obtain⟨u,w',rfl,⟨t,rfl⟩,⟨t',rfl⟩⟩:=vals2 r;refine max_two_ints (I.ok.hd hc) fun h' tk k=>⟨_,H,I.kept k,?_,q⟩;by_cases hj:j>i
 ·rw[if_pos hj,if_pos hj];exact⟨_,rfl⟩
 ·rw[if_neg hj,if_neg hj];exact⟨_,rfl⟩
theorem Zj (hc:X.calm=true):jT X (.builtin "min") (fun xs H Q=>∃i j,xs=[.int i,.int j]/\Q (.int (if j<i then j else i)) H):=by
 intro pins s σ H xs us Q I r h;obtain⟨i,j,rfl,q⟩:=h;obtain⟨u,w',rfl,⟨t,rfl⟩,⟨t',rfl⟩⟩:=vals2 r;refine min_two_ints (I.ok.hd hc) fun h' tk k=>⟨_,H,I.kept k,?_,q⟩;by_cases hj:j<i
 ·rw[if_pos hj,if_pos hj];exact⟨_,rfl⟩
 ·rw[if_neg hj,if_neg hj];exact⟨_,rfl⟩
theorem ziV:jT X (.type "int") (fun xs H Q=>(∃i,xs=[.int i]/\Q (.int i) H)\/∃k,xs=[.bl k]/\Q (.int (if k then 1 else 0)) H):=by
 intro pins s σ H xs us Q I r h;rcases h with ⟨i,rfl,q⟩ | ⟨k,rfl,q⟩
 ·obtain⟨u,rfl,t,rfl⟩:=vals1 r;exact call_int_int ⟨.int i,H,I,⟨_,rfl⟩,q⟩
 ·obtain⟨u,rfl,r1⟩:=vals1 r;cases r1;exact call_int_bool ⟨.int (if k then 1 else 0),H,I.tok _,⟨_,rfl⟩,q⟩
theorem zaa:jT X (.type "str") (fun xs H Q=>∃i,xs=[.int i]/\i.natAbs.log2<1920/\Q (.str (toString i)) H):=by
 intro pins s σ H xs us Q I r h;obtain⟨i,rfl,hz,q⟩:=h;obtain⟨u,rfl,t,rfl⟩:=vals1 r;exact PySem.P.str_of_int hz ⟨.str _,H,I.tok _,⟨_,rfl⟩,q⟩
theorem zbo:jT X (.builtin "divmod") (fun xs H Q=>∃i j,xs=[.int i,.int j]/\zq1 i j/\∀p,H p=none->Q (.ref p) (upd H p (.tup [.int (i/j),.int (i%j)]))):=by
 intro pins s σ H xs us Q I r h;obtain⟨i,j,rfl,⟨h1,h2⟩,q⟩:=h;obtain⟨u,w',rfl,⟨t,rfl⟩,⟨t',rfl⟩⟩:=vals2 r;refine divmod_int (by lia) ?_ (.inl (PyProof.noPylong_small (by lia)));rw[Rq i (by lia),Rr i (by lia)];have hn:H s.heap.objs.size=none:=I.hok.fresh (XW _);refine⟨.ref s.heap.objs.size,_,?_,rfl,q _ hn⟩;refine I.laid (fun b o e=>XZ _ e) (XW _) ⟨by simp only[Xs,UL];rw[TV];decide,[.int (i/j) s.toks,.int (i%j) (s.toks+1)],.cons ⟨_,rfl⟩ (.cons ⟨_,rfl⟩ .nil),?_⟩;exact⟨_,Xl s.heap rfl,rfl,0,rfl⟩
end
structure zoy (h:Heap)(x dx C:Addr)(mA:Str->Option X9):Prop where
 obj:h.get? x=some (Pb C dx)
 ns:h.Ns1 dx mA
 ne:dx≠x
theorem ziW {h:Heap}{dx:Addr}{mA:Str->Option X9}(n:h.Ns1 dx mA):∃od,h.get? dx=some od/\∀name,OM name od=some (mA name):=by
 obtain⟨o,es,ep,ho,hd,hk,_,hm⟩:=n;refine⟨o,ho,fun name=>?_⟩;have e:=hm name;unfold nsFind findBy at e;rw[<- Array.find?_toList] at e;unfold OM;rw[hd];dsimp only;split
 ·rename_i y q;rw[q] at e;exact congrArg some e
 ·rename_i q;rw[q] at e;have a:es.toList.any (·.refKey)=false:=by
   rw[Re];intro y hy;obtain⟨z,t,hkey⟩:=hk y (TM.mp hy);simp[DictEntry.refKey,hkey]
  have a':¬ es.toList.any (·.refKey)=true:=by rw[a];exact XX
  rw[if_neg a'];exact congrArg some e
theorem zoy.look {h:Heap}{x dx C:Addr}{mA:Str->Option X9}(I:zoy h x dx C mA):∃od,PySem.W.InstAt h x (Pb C dx) C (some od)/\∀name,OM name od=some (mA name) :=
 let ⟨od,ho,hl⟩:=ziW I.ns
 ⟨od,⟨I.obj,rfl,rfl,ho⟩,hl⟩
section
variable {prog:Xd}{w:WP}{A:WK}{E:X9->X8->Prop}{s:X8}{K:X2}{x dx C f:Addr}{mA:Str->Option X9}{name:Str}{v:X9}
end
theorem zb4.some_of {v:V}{o:Option X9}(r:zb4 (some v) o):∃u,o=some u/\RelV v u:=by
 cases o with
 | none=>exact(show False from r).elim
 | some u=>exact⟨u,rfl,r⟩
section
variable {P:Xd}{w:WP}{H H':Hp}{h h':Heap}{a C dx:Addr}{fs fs':List (Str×V)}
theorem zmx (hok:HOk P w H h)(e:H a=some (.ins C dx fs)):∃mA,zoy h a dx C mA/\(∀f,zb4 (fs.lookup f) (mA f))/\PySem.Within mA (fs.map (·.1))/\fs.length<=1000/\H dx=some (.own a):=by
 obtain⟨d,z,ne,ob,mA,n,r,q⟩:=(show qM P w H h a (.ins C dx fs) from hok a _ e);exact⟨mA,⟨ob,n,ne⟩,r,q,z,d⟩
end
structure Cls (K:X2)(C:Addr):Prop where
 pg:PySem.W.plainGet K C Str.empty=true
 hd:PySem.W.hasDictIn K C=true
 po:PySem.W.plainOver K C=true
 sa:VN K (.ref C) "__setattr__"=some (some (.builtin "object.__setattr__"))
theorem Cls.get {K:X2}{C:Addr}(c:Cls K C)(f:Str):PySem.W.plainGet K C f=true:=c.pg
section
variable {X:Cx}{pins:List (Addr×Obj)}{σ:St}{H:Hp}{s:X8}{a C dx:Addr}{fs:List (Str×V)}{f:Str}{v:V}{A:WK}{E:X9->X8->Prop}
end
section
variable {X:Cx}{o e value:Expr}{f:Str}{pos pos' tpos:Pos}{ta tv:TE}
end
section
variable {X:Cx}{pins:List (Addr×Obj)}{σ:St}{H:Hp}{s:X8}{A:WK}{E:X9->X8->Prop}{Q:X9->X8->Prop}{c:X9}{b:Bool}
inductive zaT (K:X2)(H:Hp):V->X9->Prop where
 | non:zaT K H .non (.type "NoneType")
 | bl (x:Bool):zaT K H (.bl x) (.type "bool")
 | int (i:Int):zaT K H (.int i) (.type "int")
 | str (x:Str):zaT K H (.str x) (.type "str")
 | flt (x:UInt64):zaT K H (.flt x) (.type "float")
 | lst {a:Addr} {xs:List V} (e:H a=some (.lst xs)):zaT K H (.ref a) (.type "list")
 | frz {a:Addr} {o:Obj} {xs:List V} (e:H a=some (.frz o (.lst xs))):zaT K H (.ref a) (.type "list")
 | tup {a:Addr} {xs:List V} (e:H a=some (.tup xs)):zaT K H (.ref a) (.type "tuple")
 | dK {a:Addr} {kvs:List (Key×V)} (e:H a=some (.dK kvs)):zaT K H (.ref a) (.type "dict")
 | dT {a:Addr} {kvs:List (List Key×V)} (e:H a=some (.dT kvs)):zaT K H (.ref a) (.type "dict")
 | ins {a C dx:Addr} {fs:List (Str×V)} (e:H a=some (.ins C dx fs)) (cl:Cls K C) (ha:VN K (.ref C) "__class__"=some (some (.builtin "object.__class__")))
   (hn:PySem.W.specialIn K (.builtin "object.__class__") "__get__"=some (some (.builtin "getset_descriptor.__get__"))) (htk:PySem.W.takesIn K (.builtin "object.__class__")=some true)
   (hm:VE K C (.type "object")=some true):zaT K H (.ref a) (.ref C)
theorem ziX {x:V}{u t:X9}(I:Inv X pins σ H s)(rx:RelV x u)(ty:zaT X.K H x t)(e:W9 X.K t c=some b)(h:∀tk,Q (.bool b) { s with toks:=tk }) :
  Xg (Xh X.prog X.w) A (call (.builtin "isinstance") [u,c]) Q E s:=by
 cases ty with
 | non=>cases (show u=VC from rx);exact VY PySem.W.kitx_none I.kIn Uh e (fun z=>nomatch z) h
 | bl y=>cases (show u=Ta y from rx);exact VY PySem.W.kitx_bool I.kIn Uh e (fun z=>nomatch z) h
 | int i=>obtain⟨t,q⟩:=(show ∃t,u=Vu i t from rx);cases q;exact VY PySem.W.kitx_int I.kIn Uh e (fun z=>nomatch z) h
 | str y=>obtain⟨t,q⟩:=(show ∃t,u=NR y t from rx);cases q;exact VY PySem.W.kitx_str I.kIn Uh e (fun z=>nomatch z) h
 | flt y=>obtain⟨t,q⟩:=(show ∃t,u=Value.float y t from rx);cases q;exact VY PySem.W.kitx_float I.kIn Uh e (fun z=>nomatch z) h
 | @lst a xs ea =>
  cases (show u=WU a from rx);obtain⟨_,_,n,_,h1⟩:=(show qM X.prog X.w H s.heap a (.lst xs) from I.hok a _ ea);exact VY PySem.W.kitx_list I.kIn ⟨_,h1,rfl⟩ e (fun z=>nomatch z) h
 | @frz a ob xs ea =>
  cases (show u=WU a from rx);obtain⟨_,_,_,n,_,h1⟩:=(show qM X.prog X.w H s.heap a (.frz ob (.lst xs)) from I.hok a _ ea);exact VY PySem.W.kitx_list I.kIn ⟨_,h1,rfl⟩ e (fun z=>nomatch z) h
 | @tup a xs ea =>
  cases (show u=WU a from rx);obtain⟨_,_,_,p⟩:=(show qM X.prog X.w H s.heap a (.tup xs) from I.hok a _ ea);obtain⟨o,h1,h2,_⟩:=p;exact VY PySem.W.kitx_tuple I.kIn ⟨o,h1,h2⟩ e (fun z=>nomatch z) h
 | @dK a kvs ea =>
  cases (show u=WU a from rx);obtain⟨_,_,vs,_,p⟩:=(show qM X.prog X.w H s.heap a (.dK kvs) from I.hok a _ ea);obtain⟨o,es,ep,h1,h2,_⟩:=p;exact VY PySem.W.kitx_dict I.kIn ⟨o,h1,h2.1⟩ e (fun z=>nomatch z) h
 | @dT a kvs ea =>
  cases (show u=WU a from rx);obtain⟨_,_,xs,_,o,es,ep,h1,h2,_⟩:=(show qM X.prog X.w H s.heap a (.dT kvs) from I.hok a _ ea);exact VY PySem.W.kitx_dict I.kIn ⟨o,h1,h2.1⟩ e (fun z=>nomatch z) h
 | @ins a C dx fs ea cl ha hn htk hm =>
  cases (show u=WU a from rx);obtain⟨mA,O,_⟩:=zmx I.hok ea;obtain⟨od,J,_⟩:=O.look;exact VY (PySem.W.kitx_own (cl.get _) cl.hd ha hn htk hm) I.kIn J e (fun z=>nomatch z) h
end
structure Zb (k:Nat)(A:WK):Prop where
 hd:A.handled=none
 dp:A.depth+3*k+5<recursionLimit
 un:A.units+16*k+200<U1
theorem Zb.mono {j k:Nat}{A:WK}(r:Zb k A)(h:j<=k):Zb j A:=⟨r.hd,by have:=r.dp;lia,by have:=r.un;lia⟩
theorem Zb.deeper {k:Nat}{A:WK}(r:Zb (k+1) A)(env:Env):Zb k (A.deeper env) :=
 ⟨r.hd,by have:=r.dp;show A.depth+1+3*k+5<_;lia,by have:=r.un;show A.units+3+16*k+200<_;lia⟩
theorem Zb.depth {k:Nat}{A:WK}(r:Zb k A):A.depth<recursionLimit:=by have:=r.dp;lia
theorem Zb.units {k:Nat}{A:WK}(r:Zb k A):A.units+64<U1:=by have:=r.un;lia
def zq2:TA:=fun _ H Q=>Q [] H
def zp1 (ta:TE)(tr:TA):TA:=fun σ H Q=>ta σ H fun x H1=>tr σ H1 fun xs H2=>Q (x::xs) H2
section
variable {X:Cx}{e:Expr}{es:List Expr}{te:TE}{t:TA}{pos:Pos}
theorem zb:PA X [] zq2:=fun _ _ _ _ H Q I h=>Calls.spliced_nil ⟨[],H,I,.nil,h⟩
theorem za (ha:PE X e te)(hr:PA X es t)(hs:WA (e::es) X.env=(false,eval e X.env)::WA es X.env:=by rfl):PA X (e::es) (zp1 te t):=by
 intro pos pins s σ H Q I h;rw[hs];show Xg _ _ (spliced ((false,eval e X.env)::SR pos (WA es X.env))) _ _ s;refine Calls.spliced_cons (thn (ha pins s σ H _ I h) fun u s1 ⟨x,H1,I1,r1,q1⟩=>?_);exact thn (hr pos pins s1 σ H1 _ I1 q1) fun us s2 ⟨xs,H2,I2,r2,q2⟩=>⟨x::xs,H2,I2,.cons r1 r2,q2⟩
def zq3 (t:TA):TE:=fun σ H Q=>t σ H fun xs H1=>xs.length<=Xz/\∀p,H1 p=none->Q (.ref p) (upd H1 p (.tup xs))
def zq4 (t:TA):TE:=fun σ H Q=>t σ H fun xs H1=>xs.length<=Xz/\∀p,H1 p=none->Q (.ref p) (upd H1 p (.lst xs))
theorem jU {x1}(h:PA X es t):PE X (.Tuple es x1 pos) (zq3 t):=by
 intro pins s σ H Q I hq;refine wpAny_Tuple_spliced (thn (h pos pins s σ H _ I hq) fun us s1 ⟨xs,H1,I1,r,z,q⟩=>⟨by rw[<- r.length];exact z,?_⟩);have hf:H1 s1.heap.objs.size=none:=I1.hok.fresh (XW _);refine⟨.ref s1.heap.objs.size,upd H1 s1.heap.objs.size (.tup xs),I1.laid (t':=s1.toks) (fun b u e=>XZ _ e) (XW _) ?_,rfl,q _ hf⟩;exact⟨z,us,r,⟨_,Xl _ rfl,rfl,_,rfl⟩⟩
theorem qa (h:PA X es t):PE X (.List es pos) (zq4 t):=by
 intro pins s σ H Q I hq;refine wpAny_List_spliced (thn (h pos pins s σ H _ I hq) fun us s1 ⟨xs,H1,I1,r,z,q⟩=>⟨by rw[<- r.length];exact z,?_⟩);have hf:H1 s1.heap.objs.size=none:=I1.hok.fresh (XW _);refine⟨.ref s1.heap.objs.size,upd H1 s1.heap.objs.size (.lst xs),I1.laid (t':=s1.toks) (fun b u e=>XZ _ e) (XW _) ?_,rfl,q _ hf⟩;exact⟨z,us,0,r,Xl _ rfl⟩
end
abbrev Sp:=List V->Hp->VK->XK->Prop
abbrev CXT:=List Env->Hp->X8->XK->X9->X8->Prop
structure zmy (P:Xd)(w:WP)(K:X2)(mg:Str->Option X9)(base:Heap)(A:WK)(outer:List Env)(s:X8)(H:Hp):Prop where
 frames:A.frames=some outer
 mod:Mod K mg base
 bs:∀b o,base.get? b=some o->s.heap.get? b=some o/\H b=none
 bsz:base.objs.size<=s.heap.objs.size
 funs:s.heap.FunFrames base outer
 frf:∀b∈frs outer,H b=none
 hok:HOk P w H s.heap
 bare:R6 s.gens
def CE (outer:List Env)(P:Xd)(w:WP)(H:Hp)(s:X8)(Q:VK)(u:X9)(s':X8):Prop :=
 ∃v H',s'.os=s.os/\R6 s'.gens/\Un (frs outer) [] H H' s.heap s'.heap/\HOk P w H' s'.heap/\RelV v u/\Q v H'
def CR (CX:CXT)(outer:List Env)(P:Xd)(w:WP)(H:Hp)(s:X8)(Q:VK)(E:XK)(r:NS)(s':X8):Prop :=
 match r with
 | .ok (.ret u)=>CE outer P w H s Q u s'
 | .ok _=>False
 | .error e=>CX outer H s E e s'
structure qk (P:Xd)(w:WP)(K:X2)(mg:Str->Option X9)(base:Heap)(CX:CXT)(k:Nat)(f:Addr)(fd:Xq)(ps:List Str)(sp:Sp):Prop where
 len:∀vs H Q E,sp vs H Q E->vs.length=ps.length
 run:∀(A:WK) (outer:List Env) (s:X8) (H:Hp) (args:Args) (us:List X9) (vs:List V) (Q:VK) (E:XK),Zb k A->zmy P w K mg base A outer s H->N5 s fd args (ps.zip us)->Vals vs us->sp vs H Q E ->
  TJ (Xh P w) A (.call (.ref f) args) (CR CX outer P w H s Q E) s
section
variable {X:Cx}{pins:List (Addr×Obj)}{σ:St}{H:Hp}{s s':X8}
theorem Inv.env0 (I:Inv X pins σ H s):zmy X.prog X.w X.K X.mg X.base X.A X.stack s H :=
 ⟨I.ok.frames,I.ok.mod,I.bs,X5 I.ok.bsz I.sz,I.stack,I.stkFree,I.hok,I.bare⟩
theorem Inv.after {Q:VK}{u:X9}(I:Inv X pins σ H s)(h:CE X.stack X.prog X.w H s Q u s'):EP X pins σ Q u s':=by
 obtain⟨v,H',os,bare,un,hok,r,q⟩:=h;obtain⟨hh,g,d,t,os'⟩:=s';obtain rfl:os'=s.os:=os;exact⟨v,H',I.call (h':=hh) (g':=g) (d':=d) (t':=t) (ch:=[]) un hok bare (fun b z=>absurd z (by simp)),r,q⟩
end
def zj8 (sp:Sp)(dvs:List V)(E:XK)(t:TA):TE:=fun σ H Q=>t σ H fun vs H1=>sp (vs++dvs) H1 Q E
def Binds (K:X2)(fd:Xq)(ps:List Str)(ds:List X9):Prop :=
 ∀(s:X8) (us:List X9),K.In s.heap->(us++ds).length=ps.length->N5 s fd ⟨us,[]⟩ (ps.zip (us++ds))
theorem Binds.all {K:X2}{fd:Xq}{ps:List Str}(h:∀us:List X9,us.length=ps.length->bindArgs fd ⟨us,[]⟩=pure (ps.zip us)):Binds K fd ps []:=fun s us _ hl=>by
 rw[Xa] at hl ⊢;exact .of_eq (h us hl)
def Passes (CX:CXT)(X:Cx)(E:XK):Prop:=∀(pins:List (Addr×Obj)) (σ:St) (H:Hp) (s:X8) (e:X9) (s':X8),Inv X pins σ H s->CX X.stack H s E e s'->X.xe e s'
section
variable {X:Cx}{CX:CXT}{k:Nat}{f C:Addr}{fd:Xq}{ps:List Str}{sp:Sp}{dvs:List V}{ds:List X9}{E:XK}{x m:Str}{p pos apos:Pos}{e o:Expr}{es:List Expr}{ta:TE}{t:TA}
theorem zoz {pins:List (Addr×Obj)}{σ:St}{H:Hp}{s:X8}{Q:VK}{us:List X9}{vs:List V}(F:qk X.prog X.w X.K X.mg X.base CX k f fd ps sp)(hr:Zb k X.A)(hb:Binds X.K fd ps ds)(hd:Vals dvs ds)(hx:Passes CX X E)
  (I:Inv X pins σ H s) (r:Vals vs us) (h:sp (vs++dvs) H Q E):Xg (Xh X.prog X.w) X.A (call (.ref f) us) (EP X pins σ Q) X.xe s:=by
 have r2:Vals (vs++dvs) (us++ds):=r.append hd;have hl:(us++ds).length=ps.length:=by rw[<- r2.length];exact F.len _ _ _ _ h
 refine wpAny_call (SM (F.run X.A X.stack s H ⟨us,[]⟩ (us++ds) (vs++dvs) Q E hr I.env0 (hb s us I.kIn hl) r2 h) fun r s' hq=>?_);cases r with
 | error e=>exact hx pins σ H s e s' I hq
 | ok fl =>
  cases fl with
  | ret u=>exact I.after hq
  | next=>exact Wm hq
  | brk=>exact Wm hq
  | cont=>exact Wm hq
theorem zh7 (F:qk X.prog X.w X.K X.mg X.base CX k f fd ps sp)(hr:Zb k X.A)(hg:Gl X x)(hm:X.mg x=some (.ref f))(hk:TU X.K (.ref f)=true)(hb:Binds X.K fd ps ds)(hd:Vals dvs ds)(hx:Passes CX X E)
  (ha:PA X (e::es) t) (hdb:(x==("__debug__":Str))=false:=by decide) (he:WA (e::es) X.env=(false,eval e X.env)::WA es X.env:=by rfl) (hpl:(SR pos (WA es X.env)).any (·.1)=false:=by rfl) :
  PE X (.Call (.Name x p) (e::es) [] pos) (zj8 sp dvs E t):=by
 intro pins s σ H Q I h;refine S4 (Q8 I hg hm ?_ hdb);refine PySem.W.callWith_K (h₀:=X.base) I.ok.mod.kin hk (thn (ha pos pins s σ H _ I h) fun us s1 ⟨vs,H1,I1,r,q⟩=>⟨I1.kIn,?_⟩) he hpl;exact zoz F hr hb hd hx I1 r q
end
section
variable {X:Cx}{CX:CXT}{k:Nat}{f C:Addr}{fd:Xq}{ps ks:List Str}{sp:Sp}{E:XK}{x m:Str}{p pos apos kpos:Pos}{e o:Expr}{es:List Expr}{kws:List NL}{te ta:TE}{t tk:TA}{nm:Option Str}
variable {g:List X9->List X9->List X9}{gV:List V->List V->List V}
end
structure zF (N P:List Str)(sc:Uk):Prop where
 kind:sc.kind=.function
 co:sc.isCoroutine=false
 gen:sc.isGenerator=false
 nd:N.Nodup
 pre:N.take P.length=P
 par:∀x∈P,sc.names.lookup x=some .local\/sc.names.lookup x=some .cell
 nofree:∀y∈sc.names,y.2 ≠ .free
theorem zdC {kindOf:Str->Option Tp}{x:Str}:∀{binds:List (Str×X9)} {m:Str->Option X9},(∀v,(x,v) ∉ binds)->NH kindOf binds m x=m x
 | [],_,_=>rfl
 | (n,v)::r,m,h=>by
  unfold NH;rw[zdC fun w hw=>h w (XT _ hw)];split
  ·have:x≠n:=by rintro rfl;exact h v XS
   simp[this]
  ·rfl
theorem zdD {kindOf:Str->Option Tp}{x:Str}:∀{binds:List (Str×X9)} {m:Str->Option X9},(∀v,(x,v) ∉ binds)->NG kindOf binds m x=m x
 | [],_,_=>rfl
 | (n,v)::r,m,h=>by
  unfold NG;rw[zdD fun w hw=>h w (XT _ hw)];split
  ·rfl
  ·have:x≠n:=by rintro rfl;exact h v XS
   simp[this]
theorem zdE {kindOf:Str->Option Tp}{x:Str}{v:X9}:∀{P:List Str} {vs:List X9} {i:Nat} {m:Str->Option X9},P.Nodup->P[i]?=some x->vs[i]?=some v->kindOf x=some .local ->
  NH kindOf (P.zip vs) m x=some v
 | [],_,_,_,_,h,_,_=>by simp at h
 | _::_,[],_,_,_,_,h,_=>by simp at h
 | p::P,w::vs,0,m,nd,h1,h2,hk=>by
  simp at h1 h2;subst h1;subst h2;show NH kindOf ((p,w)::P.zip vs) m p=_;unfold NH;rw[zdC fun v hv=>(VJ.mp nd).1 (Pa hv).1,if_pos hk];simp
 | p::P,w::vs,i+1,m,nd,h1,h2,hk=>by
  show NH kindOf ((p,w)::P.zip vs) m x=_;unfold NH;exact zdE (i:=i) (VJ.mp nd).2 (by simpa using h1) (by simpa using h2) hk
theorem zdF {kindOf:Str->Option Tp}{x:Str}{v:X9}:∀{P:List Str} {vs:List X9} {i:Nat} {m:Str->Option X9},P.Nodup->P[i]?=some x->vs[i]?=some v->kindOf x≠some .local ->
  NG kindOf (P.zip vs) m x=some v
 | [],_,_,_,_,h,_,_=>by simp at h
 | _::_,[],_,_,_,_,h,_=>by simp at h
 | p::P,w::vs,0,m,nd,h1,h2,hk=>by
  simp at h1 h2;subst h1;subst h2;show NG kindOf ((p,w)::P.zip vs) m p=_;unfold NG;rw[zdD fun v hv=>(VJ.mp nd).1 (Pa hv).1,if_neg hk];simp
 | p::P,w::vs,i+1,m,nd,h1,h2,hk=>by
  show NG kindOf ((p,w)::P.zip vs) m x=_;unfold NG;exact zdF (i:=i) (VJ.mp nd).2 (by simpa using h1) (by simpa using h2) hk
def start (N:List Str)(vs:List V):St:=vs.map some++WN (N.length-vs.length) none
def zft (CX:CXT)(P:Xd)(w:WP)(K:X2)(mg:Str->Option X9)(base:Heap)(N:List Str)(qual:Str)(scope:Uk)(f:Addr)(cd:X9)(A:WK)(outer:List Env)(s:X8)(H:Hp)(E:XK):Cx where
 prog:=P
 w:=w
 K:=K
 mg:=mg
 base:=base
 A:=A.deeper (Po qual scope s.heap.objs.size f cd)
 N:=N
 s₀:=s
 H₀:=H
 env:=Po qual scope s.heap.objs.size f cd
 outer:=outer
 stack:=Po qual scope s.heap.objs.size f cd::outer
 ex:=[]
 calm:=true
 fn:=fun _=>true
 pn:=[]
 xe:=fun e s'=>Xg (Xh P w) (A.deeper (Po qual scope s.heap.objs.size f cd)) (leaving (Po qual scope s.heap.objs.size f cd) e) (fun _ s''=>CX outer H s E e s'') (fun e' s''=>CX outer H s E e' s'') s'
theorem zfu {sc:Uk}{n:Nat}{x:Str}(h:sc.names.lookup x=some .cell):∃c,(RA n sc.names []).lookup x=some c:=by
 have q:=Sj sc.names n [] (.inl h);exact VV.mp q
theorem ziY {CX:CXT}{P:Xd}{w:WP}{K:X2}{mg:Str->Option X9}{base:Heap}{N ps:List Str}{qual:Str}{scope:Uk}{f:Addr}{cd:X9}{A:WK}{outer:List Env}{s s1:X8}{H:Hp}{E:XK}{us:List X9}{vs:List V}
  (S:zF N ps scope) (hd:A.handled=none) (e0:zmy P w K mg base A outer s H) (hl:vs.length=ps.length) (r:Vals vs us)
  (x:InCallC s s.heap.objs.size (NH (Po qual scope s.heap.objs.size f cd).kindOf (ps.zip us) fun _=>none) (RA (s.heap.objs.size+1) scope.names []) (NG (Po qual scope s.heap.objs.size f cd).kindOf (ps.zip us) fun _=>none) s1) :
  Inv (zft CX P w K mg base N qual scope f cd A outer s H E) [] (start N vs) H s1:=by
 have hpl:ps.length<=N.length:=by have:=congrArg List.length S.pre;rw[XE] at this;lia
 obtain⟨h1,tk,rfl,hk⟩:=x.done;have noA:∀b:Addr,b ∉ (zft CX P w K mg base N qual scope f cd A outer s H E).ex:=fun b z=>absurd (show b∈([]:List Addr) from z) (by simp);refine⟨⟨e0.mod,S.kind,rfl,rfl,XW _,fun y z c h1 h2=>?_,fun y hy=>?_,fun y c _ h=>?_,fun _=>hd,Around.frames_deeper e0.frames,.inr ⟨rfl,rfl⟩,fun b z=>absurd z (noA b),e0.bs,e0.bsz,fun b _ _=>noA b,fun b z=>absurd z (noA b),e0.funs,e0.frf⟩,
  rfl,e0.bare,Un.kept hk,⟨_,x.toInCall.ns,fun i y v h1 h2 h3=>?_⟩,fun y c h=>⟨_,x.cell y c h⟩,e0.hok.fresh (XW _),fun y c h=>?_,fun p hp=>absurd (show p∈([]:List (Addr×Obj)) from hp) (by simp),e0.hok.kept hk,?_⟩
 ·exact name_of_addr x.apart (WH h1) (WH h2)
 ·have hy:scope.names.lookup y=some .cell\/scope.names.lookup y=some .free:=hy;rcases hy with hy | hy
  ·exact zfu hy
  ·exact absurd rfl (S.nofree _ (WH hy))
 ·exact SN (x.above y c (WH h))
 ·have hi:i<vs.length:=by
   unfold start at h2;by_cases hi:i<vs.length
   ·exact hi
   ·rw[VR (by simpa using hi)] at h2;rw[List.getElem?_replicate] at h2;split at h2<;>cases h2
  have ha:vs[i]?=some v:=by
   unfold start at h2;rw[V4 (by simpa using hi),XA] at h2;cases e:vs[i]? with
   | none=>rw[e] at h2;cases h2
   | some a=>rw[e] at h2;cases h2;rfl
  obtain⟨u,hu,rv⟩:=r.get ha;have hp:ps[i]?=some y:=by
   rw[<- S.pre,P7 (by lia)];exact h1
  have ndP:ps.Nodup:=by rw[<- S.pre];exact S.nd.sublist (UG _ _)
  refine⟨u,rv,?_⟩;rcases S.par y (X0 hp) with k | k
  ·exact .inl ⟨k,zdE ndP hp hu k⟩
  ·obtain⟨c,e⟩:=zfu (n:=s.heap.objs.size+1) k;refine .inr ⟨.inl k,c,e,?_⟩;have q:=x.cell y c e;rw[zdF ndP hp hu (by show scope.names.lookup y≠_;rw[k];decide)] at q;exact q
 ·exact e0.hok.fresh (SN (x.above y c (WH h)))
 ·unfold start;show _=N.length;rw[XU,Y1,O3];lia
theorem znL {CX:CXT}{P:Xd}{w:WP}{K:X2}{mg:Str->Option X9}{base:Heap}{k:Nat}{f:Addr}{name qual:Str}{params:Arguments}{body:List Stmt}{scope:Uk}{dV kV doc pm cdv ct oc:X9}{an od:Option Addr}
  {osl:Array (Option X9)} {N ps:List Str} {sp:Sp} (lk:K.lookup f=some ⟨oc,od,.func (UI name qual params body scope dV kV doc pm an cdv ct),osl⟩) (hcd:SF K cdv qual=true) (S:zF N ps scope)
  (len:∀vs H Q E,sp vs H Q E->vs.length=ps.length)
  (hbody:∀(A:WK) (outer:List Env) (s:X8) (H:Hp) (vs:List V) (Q:VK) (E:XK),Zb k (A.deeper (Po qual scope s.heap.objs.size f cdv))->sp vs H Q E ->
   ∃t,PSs (zft CX P w K mg base N qual scope f cdv A outer s H E) body t/\t { nx:=fun _ H'=>Q .non H',rt:=Q } (start N vs) H) :
  qk P w K mg base CX (k+1) f (UI name qual params body scope dV kV doc pm an cdv ct) ps sp:=by
 refine⟨len,fun A outer s H args us vs Q E hr e0 hb r hsp=>?_⟩;have hl:=len _ _ _ _ hsp;have KX:K.In s.heap:=e0.mod.kin.keeps fun b o e=>(e0.bs b o e).1;have lim:s.heap.NoLimit:=e0.mod.nolimit.keeps fun b o e=>(e0.bs b o e).1;have hkind:∀y∈ps.zip us,scope.names.lookup y.1=some .local\/(scope.names.lookup y.1=some .cell/\((RA (s.heap.objs.size+1) scope.names []).lookup y.1).isSome=true):=fun ⟨n,v⟩ hy=>by
  rcases S.par n (Pa hy).1 with q | q
  ·exact .inl q
  ·exact .inr ⟨q,Sj _ _ _ (.inl q)⟩
 refine codeAny_call_function hr.depth (KX _ _ lk) rfl S.co S.gen rfl (PySem.W.codeRec_of KX hcd) (hb _ _ _ _ ?_);refine wpAny_newFunctionEnv_cells S.kind hkind fun env he s1 x=>?_;subst he;refine⟨lim.keeps x.toInCall.keep,codeAny_func ?_⟩;obtain⟨t,ht,hq⟩:=hbody A outer s H vs Q E (hr.deeper _) hsp;have I:Inv (zft CX P w K mg base N qual scope f cdv A outer s H E) [] (start N vs) H s1:=ziY S hr.hd e0 hl r x;refine Wn (ht [] s1 (start N vs) H _ I hq) (fun fl s' hs=>?_) fun e s' hs=>hs;have fin:∀{σ':St} {H':Hp} {v:V} {u:X9},Inv (zft CX P w K mg base N qual scope f cdv A outer s H E) [] σ' H' s'->RelV v u->Q v H'->CE outer P w H s Q u s' :=
  fun {σ' H' v u} J rv q=>⟨v,H',J.os,J.bare,J.base,J.hok,rv,q⟩
 cases fl with
 | ret u =>
  obtain⟨v,σ',H',J,rv,q⟩:=hs;exact fin J rv q
 | next =>
  obtain⟨σ',H',J,q⟩:=hs;exact fin (v:=V.non) (u:=VC) J rfl q
 | brk =>
  obtain⟨_,_,_,q⟩:=hs;exact Wm q
 | cont =>
  obtain⟨_,_,_,q⟩:=hs;exact Wm q
section
variable {X:Cx}{x:Str}{p pos:Pos}{e:Expr}{es:List Expr}{t:TA}{id T:String}{r:List V->Hp->VK->Prop}
def tCB (r:List V->Hp->VK->Prop)(t:TA):TE:=fun σ H Q=>t σ H fun vs H1=>r vs H1 Q
theorem zp (hc:jT X (.builtin id) r)(hg:Gl X x)(hm:X.mg x=none)(hv:TH x=some (.builtin id))(ha:PA X (e::es) t)(hn:x ≠ "__name__":=by decide)(hdb:(x==("__debug__":Str))=false:=by decide)
  (he:WA (e::es) X.env=(false,eval e X.env)::WA es X.env:=by rfl) (hpl:(SR pos (WA es X.env)).any (·.1)=false:=by rfl):PE X (.Call (.Name x p) (e::es) [] pos) (tCB r t):=by
 intro pins s σ H Q I h;refine S4 (Yt I hg hm hv ?_ hn hdb);exact PyProof.Rows.callWith_builtin1 (thn (ha pos pins s σ H _ I h) fun us s1 ⟨vs,H1,I1,r1,q1⟩=>hc pins s1 σ H1 vs us Q I1 r1 q1) he hpl
theorem jf (hc:jT X (.type T) r)(hg:Gl X x)(hm:X.mg x=none)(hv:TH x=some (.type T))(ha:PA X (e::es) t)(hn:x ≠ "__name__":=by decide)(hdb:(x==("__debug__":Str))=false:=by decide)
  (he:WA (e::es) X.env=(false,eval e X.env)::WA es X.env:=by rfl) (hpl:(SR pos (WA es X.env)).any (·.1)=false:=by rfl):PE X (.Call (.Name x p) (e::es) [] pos) (tCB r t):=by
 intro pins s σ H Q I h;refine S4 (Yt I hg hm hv ?_ hn hdb);exact VS (thn (ha pos pins s σ H _ I h) fun us s1 ⟨vs,H1,I1,r1,q1⟩=>hc pins s1 σ H1 vs us Q I1 r1 q1) he hpl
end
end L2
namespace HT
open PySem PyProof.Rows
section
open PySem.SeqAt
open PySem.AutoSeq1 (wpAny_loadPart')
open PySem.MeetsSeq PySem.MeetsSeq2 PySem.MeetsSeq3
end
section
variable {prog:Xd}{w:WP}{A:WK}{E:X9->X8->Prop}{s:X8}
def sIx (n d:Nat):Option Int->Nat
 | none=>d
 | some v=>if v<0 then (v+(n:Int)).toNat else min v.toNat n
theorem zbP (n d k:Nat):sIx n d (some (k:Int))=min k n:=by
 show (if (k:Int)<0 then ((k:Int)+(n:Int)).toNat else min (k:Int).toNat n)=min k n;rw[if_neg (by lia),WY]
end
end HT
namespace L2
open PySem PySem.Spec PyProof.Rows
abbrev TO:=St->Hp->(Option Int->Hp->Prop)->Prop
def PO (X:Cx)(e:Option Expr)(t:TO):Prop :=
 ∀(pins:List (Addr×Obj)) (s:X8) (σ:St) (H:Hp) (Q:Option Int->Hp->Prop),Inv X pins σ H s->t σ H Q ->
  Xg (Xh X.prog X.w) X.A (evalPart e X.env) (fun u s'=>∃o H',Inv X pins σ H' s'/\IsPart u o/\Q o H') X.xe s
def zmz:TO:=fun _ H Q=>Q none H
def zp2 (t:TE):TO:=fun σ H Q=>t σ H fun x H1=>∃i,x=.int i/\Q (some i) H1
section
variable {X:Cx}{e:Expr}{te:TE}{lo hi:Option Expr}{tl th:TO}{pos p2:Pos}
theorem zeA:PO X none zmz:=by
 intro pins s σ H Q I h;rw[evalPart_none];exact X6 ⟨none,H,I,.none,h⟩
theorem zab (h:PE X e te):PO X (some e) (zp2 te):=by
 intro pins s σ H Q I hw;rw[evalPart_some];refine thn (h pins s σ H _ I hw) fun u s1 ⟨x,H1,I1,r1,q1⟩=>?_;obtain⟨i,rfl,q⟩:=q1;obtain⟨t,rfl⟩:=r1;exact⟨some i,H1,I1,.int i t,q⟩
def SlR (X:Cx)(r:V->Option Int->Option Int->Hp->VK->Prop):Prop :=
 ∀(pins:List (Addr×Obj)) (s:X8) (σ:St) (H:Hp) (x:V) (v vl vu:X9) (lo hi:Option Int) (sl:Addr) (Q:VK),Inv X pins σ H s->RelV x v->s.heap.IsSliceOf sl vl vu .none->IsPart vl lo->IsPart vu hi->r x lo hi H Q ->
  ∃T id,N9 (.type T) "__getitem__"=pure (some (.builtin id))/\s.TypeIs v T/\Xg (Xh X.prog X.w) X.A (Ov v (.ref sl)) (EP X pins σ Q) X.xe s
def tSl (r:V->Option Int->Option Int->Hp->VK->Prop)(te:TE)(tl th:TO):TE:=fun σ H Q=>te σ H fun x H1=>tl σ H1 fun l H2=>th σ H2 fun u H3=>r x l u H3 Q
theorem zac {r:V->Option Int->Option Int->Hp->VK->Prop}(hr:SlR X r)(he:PE X e te)(hl:PO X lo tl)(hu:PO X hi th):PE X (.Subscript e (.Slice lo hi none p2) pos) (tSl r te tl th):=by
 intro pins s σ H Q I h;refine Subscript_ (thn (he pins s σ H _ I h) fun v s1 ⟨x,H1,I1,r1,q1⟩=>?_);refine wpAny_Slice (thn (hl pins s1 σ H1 _ I1 q1) fun vl s2 ⟨l,H2,I2,pl,q2⟩=>thn (hu pins s2 σ H2 _ I2 q2) fun vu s3 ⟨u,H3,I3,pu,q3⟩=>?_);rw[evalPart_none];refine X6 ?_;have I4:Inv X pins σ H3 { s3 with heap:=s3.heap.push { cls:=.type "slice",data:=.fields #[vl,vu,.none] } }:=I3.kept (t':=s3.toks) fun b ob q=>XZ _ q;obtain⟨T,id,hT,ht,hg⟩:=hr pins { s3 with heap:=s3.heap.push { cls:=.type "slice",data:=.fields #[vl,vu,.none] } } σ H3 x v vl vu l u s3.heap.objs.size Q I4 r1 (Heap.IsSliceOf.new ..) pl pu q3;show Xg (Xh X.prog X.w) X.A (Oh e (.Slice lo hi none p2) v (.ref s3.heap.objs.size)) (EP X pins σ Q) X.xe { s3 with heap:=s3.heap.push { cls:=.type "slice",data:=.fields #[vl,vu,.none] } };exact tail_any (ops:=[.ref s3.heap.objs.size,v]) ht hT hg (by with_unfolding_all rfl)
def zad (xs:List V)(lo hi:Option Int):List V:=(xs.drop (HT.sIx xs.length 0 lo)).take (HT.sIx xs.length xs.length hi-HT.sIx xs.length 0 lo)
theorem zfv (xs:List V)(lo hi:Option Int):(zad xs lo hi).length<=xs.length:=by
 unfold zad;rw[XE,VG];lia
end
def ixN (n:Nat)(i:Int):Option Nat:=if 0<=i then (if i<n then some i.toNat else none) else if -(n:Int)<=i then some (i+n).toNat else none
def atI {α:Type}(xs:List α)(i:Int):Option α:=(ixN xs.length i).bind fun j=>xs[j]?
theorem zh8 {n:Nat}{i:Int}{j:Nat}(h:ixN n i=some j):seqIndex? i n=some j/\j<n/\-(n:Int)<=i/\i<n:=by
 unfold ixN at h;by_cases h0:0<=i
 ·rw[if_pos h0] at h;by_cases h1:i<n
  ·rw[if_pos h1] at h;have e:i.toNat=j:=Option.some.inj h;exact⟨by rw[OQ h0 h1,e],by lia,by lia,h1⟩
  ·rw[if_neg h1] at h;cases h
 ·rw[if_neg h0] at h;by_cases h1:-(n:Int)<=i
  ·rw[if_pos h1] at h;have e:(i+n).toNat=j:=Option.some.inj h;exact⟨by rw[Pn (by lia) h1,e],by lia,h1,by lia⟩
  ·rw[if_neg h1] at h;cases h
theorem zbQ {α:Type}{xs:List α}{i:Int}{v:α}(h:atI xs i=some v):∃j,seqIndex? i xs.length=some j/\xs[j]?=some v/\j<xs.length/\-(xs.length:Int)<=i/\i<xs.length:=by
 unfold atI at h;cases e:ixN xs.length i with
 | none=>rw[e] at h;cases h
 | some j =>
  rw[e] at h;obtain⟨h1,h2,h3,h4⟩:=zh8 e;exact⟨j,h1,h,h2,h3,h4⟩
theorem zae {α:Type}{xs:List α}{j:Nat}{v:α}(h:xs[j]?=some v):atI xs (j:Int)=some v:=by
 have hj:j<xs.length:=(XY.mp h).1;have e:ixN xs.length (j:Int)=some j:=by
  unfold ixN;rw[if_pos (by lia),if_pos (by lia)];simp
 unfold atI;rw[e];exact h
def zmA (b:Expr):Prop:=∀o i,OP b false o i=operate [o,i] (Ov o i)
def IxR (X:Cx)(r:R2):Prop :=
 ∀(value slice:Expr) (pins:List (Addr×Obj)) (s:X8) (σ:St) (H:Hp) (x y:V) (v u:X9) (Q:VK),Inv X pins σ H s->RelV x v->RelV y u->r x y H Q ->
  OP slice false v u=operate [v,u] (Ov v u)->Xg (Xh X.prog X.w) X.A (Oh value slice v u) (EP X pins σ Q) X.xe s
def MtR (X:Cx)(id:String)(r:V->List V->Hp->VK->Prop):Prop :=
 ∀(pins:List (Addr×Obj)) (s:X8) (σ:St) (H:Hp) (x:V) (xs:List V) (v:X9) (us:List X9) (Q:VK),Inv X pins σ H s->RelV x v->Vals xs us->r x xs H Q ->
  Xg (Xh X.prog X.w) X.A (call (.builtin id) (v::us)) (EP X pins σ Q) X.xe s
section
variable {X:Cx}{a b:Expr}{ta tb:TE}{pos:Pos}
theorem qi {r:R2}(hr:IxR X r)(ha:PE X a ta)(hb:PE X b tb)(hs:zmA b):PE X (.Subscript a b pos) (tOp r ta tb):=by
 intro pins s σ H Q I h;exact Subscript_ (zoo ha hb I h fun v u s2 x y H2 I2 rx ry q=>hr a b pins s2 σ H2 x y v u Q I2 rx ry q (hs _ _))
def zp3 (K:X2):R2:=fun x y H Q=>∃p xs i v,x=.ref p/\y=.int i/\SqL K H p xs/\atI xs i=some v/\Q v H
def zq5 (K:X2):R2:=fun x y H Q=>∃p xs i v,x=.ref p/\y=.int i/\SqT K H p xs/\atI xs i=some v/\Q v H
def zq6:R2:=fun x y H Q=>∃z i c,x=.str z/\y=.int i/\z.length<=Xz/\atI z.cps.toList i=some c/\Q (.str ⟨#[c]⟩) H
theorem zmB:IxR X (zp3 X.K):=by
 intro value slice pins s σ H x y v u Q I rx ry h hs;obtain⟨p,xs,i,z,rfl,rfl,hq,he,q⟩:=h;cases rx;obtain⟨t,rfl⟩:=ry;obtain⟨its,r,pl,hz⟩:=I.list hq;obtain⟨j,h1,h2,h3,h4,h5⟩:=zbQ he;obtain⟨w,ew,rw'⟩:=r.get h2;have hl:=r.length;have hn:=Yv;have fin:EP X pins σ Q w s:=⟨z,H,I,rw',q⟩;by_cases h0:0<=i
 ·have hj:i.toNat=j:=by
   rw[OQ h0 h5] at h1;exact Option.some.inj h1
  exact item_listR pl.isList h0 (by lia) (by rw[hj];simpa using ew) fin hs
 ·have hj:(i+(its.toArray.size:Int)).toNat=j:=by
   rw[Pn (by lia) h4] at h1;rw[Xo,<- hl];exact Option.some.inj h1
  exact Pk (x:=w) pl.isList.typeIs slot_list_getitem.lookup
   (Pj (Q:=fun r s'=>r=w/\EP X pins σ Q r s') pl.isList (by lia) (by rw[Xo]<;>lia) (by lia) (by rw[hj];simpa using ew) ⟨rfl,fin⟩) hs
theorem zoA:IxR X (zq5 X.K):=by
 intro value slice pins s σ H x y v u Q I rx ry h hs;obtain⟨p,xs,i,z,rfl,rfl,hq,he,q⟩:=h;cases rx;obtain⟨t,rfl⟩:=ry;obtain⟨its,r,pl,hz⟩:=I.tuple hq;obtain⟨j,h1,h2,h3,h4,h5⟩:=zbQ he;obtain⟨w,ew,rw'⟩:=r.get h2;have hl:=r.length;have hn:=Yv;have fin:EP X pins σ Q w s:=⟨z,H,I,rw',q⟩;exact Pk (x:=w) pl.typeIs slot_tuple_getitem.lookup
  (getItem_tuple (j:=j) (Q:=fun r s'=>r=w/\EP X pins σ Q r s') pl (by lia) (by lia) (by rw[Xo,<- hl];exact h1) (by simpa using ew) ⟨rfl,fin⟩) hs
theorem zoB:IxR X zq6:=by
 intro value slice pins s σ H x y v u Q I rx ry h hs;obtain⟨z,i,c,rfl,rfl,hz,he,q⟩:=h;obtain⟨t,rfl⟩:=rx;obtain⟨t',rfl⟩:=ry;obtain⟨j,h1,h2,h3,h4,h5⟩:=zbQ he;have hl:z.cps.toList.length=z.length:=by simp[Str.length]
 rw[hl] at h1 h4 h5;have hn:=Yv;exact tail_any (typeIs_str s z t) slot_str_getitem.lookup (getItem_str (c:=c) (by
  have e1:decide (i < -(2^63:Int))=false:=decide_eq_false (by lia);have e2:decide (i >= 2^63)=false:=decide_eq_false (by lia);rw[e1,e2,Bool.or_false]) (by rw[h1];simpa using h2) ⟨.str ⟨#[c]⟩,H,I.tok _,⟨_,rfl⟩,q⟩) hs
theorem zgT (its:List X9)(n j:Nat)(u:X9):U8 (·.setIfInBounds j u) { cls:=.type "list",data:=.seq its.toArray n }={ cls:=.type "list",data:=.seq (its.set j u).toArray n }:=by
 simp[U8]
theorem Inv.lst {pins:List (Addr×Obj)}{σ:St}{H:Hp}{s:X8}{p:Addr}{xs:List V}(I:Inv X pins σ H s)(h:H p=some (.lst xs)) :
  ∃(its:List X9) (n:Nat),Vals xs its/\s.heap.get? p=some { cls:=.type "list",data:=.seq its.toArray n }/\xs.length<=Xz:=by
 obtain⟨z,its,n,r,e⟩:=I.hok p _ h;exact⟨its,n,r,e,z⟩
theorem Inv.lstUpd {pins:List (Addr×Obj)}{σ:St}{H:Hp}{s:X8}{p:Addr}{xs ys:List V}{its its':List X9}{n n':Nat}{f:Obj->Obj}(I:Inv X pins σ H s)(h:H p=some (.lst xs))
  (ho:s.heap.get? p=some { cls:=.type "list",data:=.seq its.toArray n }) (hf:f { cls:=.type "list",data:=.seq its.toArray n }={ cls:=.type "list",data:=.seq its'.toArray n' }) (r:Vals ys its') (hz:ys.length<=Xz) (t:Nat) :
  Inv X pins σ (upd H p (.lst ys)) { s with heap:=s.heap.update p f,toks:=t }:=by
 have e:(s.heap.update p f).get? p=some { cls:=.type "list",data:=.seq its'.toArray n' }:=by
  rw[Wi f ho (by rw[hf]<;>rfl),hf]
 refine I.write (x:=p) (e:=p) (by rw[h];trivial) (.inl rfl) (fun b u hb q=>(Uc _ _ (US hb)).trans q) ⟨_,e⟩ ?_;exact⟨hz,its',n',r,e⟩
def zp4:V->V->V->Hp->(Hp->Prop)->Prop:=fun o i v H Q=>∃p xs k j,o=.ref p/\i=.int k/\H p=some (.lst xs)/\ixN xs.length k=some j/\Q (upd H p (.lst (xs.set j v)))
theorem set_list:zok X zp4:=by
 intro pins s σ H o i v ov iv u Q I ro ri rv h;obtain⟨p,xs,k,j,rfl,rfl,hp,hj,q⟩:=h;cases ro;obtain⟨t,rfl⟩:=ri;obtain⟨its,n,r,ho,hz⟩:=I.lst hp;obtain⟨h1,h2,h3,h4⟩:=zh8 hj;have hl:=r.length;have hn:=Yv;have I':Inv X pins σ (upd H p (.lst (xs.set j v))) { s with heap:=s.heap.update p (U8 (·.setIfInBounds j u)) } :=
  I.lstUpd hp ho (zgT its n j u) (r.set rv j) (by rw[RQ];exact hz) s.toks
 by_cases h0:0<=k
 ·have hk:k.toNat=j:=by
   rw[OQ h0 h4] at h1;exact Option.some.inj h1
  exact PySem.W.ki_setAt ho h0 (by lia) (by rw[Xo,<- hl];exact h4) (by rw[hk];exact⟨_,I',q⟩)
 ·have hk:(k+(its.toArray.size:Int)).toNat=j:=by
   rw[Pn (by lia) h3] at h1;rw[Xo,<- hl];exact Option.some.inj h1
  exact PySem.W.ki_setBack ho (by lia) (by rw[Xo,<- hl];exact h3) (by lia) (by rw[hk];exact⟨_,I',q⟩)
theorem zeB (lo hi:Option Int)(n:Nat):(SW lo hi none n).1=((HT.sIx n 0 lo:Nat):Int)/\(SW lo hi none n).2.1=((HT.sIx n n hi:Nat):Int)/\(SW lo hi none n).2.2=1:=by
 refine⟨?_,?_,rfl⟩
 ·cases lo with
  | none=>simp[SW,HT.sIx]
  | some i =>
   simp only[SW,HT.sIx,Option.getD_none,show (1:Int)>0 by decide,if_true];by_cases h:i<0
   ·simp only[h,if_true]<;>lia
   ·simp only[h,if_false]<;>lia
 ·cases hi with
  | none=>simp[SW,HT.sIx]
  | some i =>
   simp only[SW,HT.sIx,Option.getD_none,show (1:Int)>0 by decide,if_true];by_cases h:i<0
   ·simp only[h,if_true]<;>lia
   ·simp only[h,if_false]<;>lia
theorem zdg (its:List X9)(lo hi:Option Int):slicePick its.toArray lo hi none=((its.drop (HT.sIx its.length 0 lo)).take (HT.sIx its.length its.length hi-HT.sIx its.length 0 lo)).toArray:=by
 obtain⟨h1,h2,h3⟩:=zeB lo hi its.toArray.size;unfold slicePick;rw[h1,h2,h3];simp only[sliceRange_one,pick_run,Xo]<;>rfl
def zp5 (K:X2):V->Option Int->Option Int->Hp->VK->Prop:=fun x lo hi H Q=>∃a xs,x=.ref a/\SqL K H a xs/\∀p,H p=none->Q (.ref p) (upd H p (.lst (zad xs lo hi)))
theorem zbR:SlR X (zp5 X.K):=by
 intro pins s σ H x v vl vu lo hi sl Q I rx hs pl pu h;obtain⟨a,xs,rfl,hx,q⟩:=h;cases rx;obtain⟨its,r,ht,hz⟩:=I.list hx;have hlen:=r.length;refine⟨"list",_,slot_list_getitem.lookup,ht.isList.typeIs,?_⟩;refine wpAny_getItem_list_slice ht.isList hs pl pu .none (by simp) ?_ (by rw[Xo]<;>lia);rw[zdg,<- hlen];refine⟨.ref s.heap.objs.size,_,I.laid (t':=s.toks) (o:=.lst (zad xs lo hi)) (fun b ob q=>XZ _ q) (XW _) ?_,rfl,q _ (I.hok.fresh (XW _))⟩;exact⟨X5 (zfv xs lo hi) hz,_,0,(r.drop (HT.sIx xs.length 0 lo)).take (HT.sIx xs.length xs.length hi-HT.sIx xs.length 0 lo),Xl _ rfl⟩
def zaf:V->Bool
 | .non=>true
 | .bl _=>true
 | .int _=>true
 | .str _=>true
 | _=>false
def eqV:V->V->Bool
 | .non,.non=>true
 | .bl a,.bl b=>a==b
 | .bl a,.int b=>(if a then 1 else 0)==b
 | .int a,.bl b=>a==(if b then 1 else 0)
 | .int a,.int b=>a==b
 | .str a,.str b=>a==b
 | _,_=>false
theorem zoC {A:WK}{s:X8}{y x:V}{u v:X9}(ry:RelV y u)(rx:RelV x v)(fy:zaf y=true)(fx:zaf x=true):SeqAt.EqAt A s u v (eqV y x):=by
 cases y with
 | non =>
  cases ry;cases x with
  | non=>cases rx;exact SeqAt.EqAt.same _
  | bl b=>cases rx;exact SeqAt.EqAt.none_bool b
  | int b=>obtain⟨t,rfl⟩:=rx;exact SeqAt.EqAt.none_int b t
  | str b=>obtain⟨t,rfl⟩:=rx;exact SeqAt.EqAt.none_str b t
  | _=>exact absurd (show false=true from fx) XX
 | bl a =>
  cases ry;cases x with
  | non=>cases rx;exact SeqAt.EqAt.bool_none a
  | bl b=>cases rx;exact SeqAt.EqAt.bool_bool a b
  | int b=>obtain⟨t,rfl⟩:=rx;exact SeqAt.EqAt.bool_int a b t
  | str b=>obtain⟨t,rfl⟩:=rx;exact SeqAt.EqAt.bool_str a b t
  | _=>exact absurd (show false=true from fx) XX
 | int a =>
  obtain⟨t',rfl⟩:=ry;cases x with
  | non=>cases rx;exact SeqAt.EqAt.int_none a t'
  | bl b=>cases rx;exact SeqAt.EqAt.int_bool a t' b
  | int b=>obtain⟨t,rfl⟩:=rx;exact SeqAt.EqAt.int_int a t' b t
  | str b=>obtain⟨t,rfl⟩:=rx;exact SeqAt.EqAt.int_str a t' b t
  | _=>exact absurd (show false=true from fx) XX
 | str a =>
  obtain⟨t',rfl⟩:=ry;cases x with
  | non=>cases rx;exact SeqAt.EqAt.str_none a t'
  | bl b=>cases rx;exact SeqAt.EqAt.str_bool a t' b
  | int b=>obtain⟨t,rfl⟩:=rx;exact SeqAt.EqAt.str_int a t' b t
  | str b=>obtain⟨t,rfl⟩:=rx;exact SeqAt.EqAt.str_str a t' b t
  | _=>exact absurd (show false=true from fx) XX
 | _=>exact absurd (show false=true from fy) XX
def eqU (x:V)(u:X9):Bool:=match u with
 | .none=>eqV .non x
 | .bool b=>eqV (.bl b) x
 | .int i _=>eqV (.int i) x
 | .str z _=>eqV (.str z) x
 | _=>false
theorem zj9 {x y:V}{u:X9}(r:RelV y u)(f:zaf y=true):eqU x u=eqV y x:=by
 cases y with
 | non=>cases r;rfl
 | bl b=>cases r;rfl
 | int i=>obtain⟨t,rfl⟩:=r;rfl
 | str z=>obtain⟨t,rfl⟩:=r;rfl
 | _=>exact absurd (show false=true from f) XX
theorem zeC {x:V}:∀{xs:List V} {us:List X9},Vals xs us->xs.all zaf=true->us.any (eqU x)=xs.any fun y=>eqV y x
 | _,_,.nil,_=>rfl
 | y::xs,u::us,.cons r t,f=>by
  rw[QP,Wa] at f;rw[R3,R3,zj9 r f.1,zeC t f.2]
theorem zb9 {A:WK}{s:X8}{x:V}{v:X9}(rx:RelV x v)(fx:zaf x=true):∀{xs:List V} {us:List X9},Vals xs us->xs.all zaf=true->∀u∈us,SeqAt.EqAt A s u v (eqU x u)
 | _,_,.nil,_=>fun u hu=>by cases hu
 | y::xs,u::us,.cons r t,f=>fun u' hu=>by
  rw[QP,Wa] at f;rcases XJ.mp hu with rfl | hu
  ·rw[zj9 r f.1];exact zoC r rx f.1 fx
  ·exact zb9 rx fx t f.2 u' hu
def inV (x:V)(xs:List V):Bool:=xs.any fun y=>eqV y x
def rIn (K:X2)(neg:Bool):R2:=fun x y H Q=>∃p xs,y=.ref p/\(SqL K H p xs\/SqT K H p xs)/\zaf x=true/\xs.all zaf=true/\Q (.bl (if neg then !inV x xs else inV x xs)) H
theorem ziZ:OpR X (VW .In) (rIn X.K false):=by
 intro pins s σ H x y v u Q I rx ry h;obtain⟨p,xs,rfl,hq,fx,fs,q⟩:=h;cases ry;rcases hq with hq | hq
 ·obtain⟨its,r,pl,hz⟩:=I.list hq;refine SeqAt.in_listAt (eqU x) pl.isList (fun w hw=>zb9 rx fx r fs w (by simpa using hw)) ⟨.bl _,H,I,rfl,?_⟩;rw[show its.toArray.any (eqU x)=its.any (eqU x) by simp,zeC r fs];exact q
 ·obtain⟨its,r,pl,hz⟩:=I.tuple hq;refine SeqAt.in_tupleAt (eqU x) pl (fun w hw=>zb9 rx fx r fs w (by simpa using hw)) ⟨.bl _,H,I,rfl,?_⟩;rw[show its.toArray.any (eqU x)=its.any (eqU x) by simp,zeC r fs];exact q
theorem zag:OpR X (VW .NotIn) (fun x y H Q=>∃i j,x=.str i/\y=.str j/\Q (.bl (!(!(Va j i 0 j.length 1).isEmpty))) H):=by
 intro pins s σ H x y v u Q I rx ry h;obtain⟨i,j,rfl,rfl,q⟩:=h;obtain⟨t,rfl⟩:=rx;obtain⟨t',rfl⟩:=ry;exact notIn_str ⟨.bl _,H,I,rfl,q⟩
theorem zeD:jT X (.builtin "len") (fun xs H Q=>∃p ys,xs=[.ref p]/\(SqL X.K H p ys\/SqT X.K H p ys)/\Q (.int ys.length) H):=by
 intro pins s σ H xs us Q I r h;obtain⟨p,ys,rfl,hq,q⟩:=h;obtain⟨u,rfl,rx⟩:=vals1 r;cases rx;have hn:=Yv;rcases hq with hq | hq
 ·obtain⟨its,r',pl,hz⟩:=I.list hq;have hlen:=r'.length;exact Calls.call_len_list pl.isList (by simp only[Xo]<;>lia) ⟨.int ys.length,H,I.tok _,⟨s.toks+1,by rw[Xo,hlen]⟩,q⟩
 ·obtain⟨its,r',pl,hz⟩:=I.tuple hq;have hlen:=r'.length;exact len_tuple pl (by simp only[Xo]<;>lia) ⟨.int ys.length,H,I.tok _,⟨s.toks+1,by rw[Xo,hlen]⟩,q⟩
theorem yS:jT X (.builtin "len") (fun xs H Q=>∃z,xs=[.str z]/\z.length<=Xz/\Q (.int z.length) H):=by
 intro pins s σ H xs us Q I r h;obtain⟨z,rfl,hz,q⟩:=h;obtain⟨u,rfl,t,rfl⟩:=vals1 r;have hn:=Yv;exact len_str (by lia) ⟨.int z.length,H,I.tok _,⟨_,rfl⟩,q⟩
theorem zah:jT X (.type "list") (fun xs H Q=>∃p ys,xs=[.ref p]/\(SqL X.K H p ys\/SqT X.K H p ys)/\∀l,H l=none->Q (.ref l) (upd H l (.lst ys))):=by
 intro pins s σ H xs us Q I r h;obtain⟨p,ys,rfl,hq,q⟩:=h;obtain⟨u,rfl,rx⟩:=vals1 r;cases rx;have fin:∀(its:List X9),Vals ys its->ys.length<=Xz->∀(h':Heap) (c':Nat),(∀b o',s.heap.get? b=some o'->h'.get? b=some o') ->
   h'.get? s.heap.objs.size=some { cls:=.type "list",dict:=none,data:=.seq its.toArray c',slots:=#[] }->EP X pins σ Q (.ref s.heap.objs.size) { s with heap:=h' }:=fun its r' hz h' c' kp e =>
  ⟨.ref s.heap.objs.size,_,I.laid (t':=s.toks) kp (XW _) (show qM X.prog X.w _ h' _ (.lst ys) from ⟨hz,its,c',r',e⟩),rfl,q _ (I.hok.fresh (XW _))⟩
 rcases hq with hq | hq
 ·obtain⟨its,r',pl,hz⟩:=I.list hq;have hlen:=r'.length;obtain⟨o,ho,hc,n,hd⟩:=pl.isList;exact call_list_seq p (.inl rfl) ho hc hd (fun h' c' kp e=>fin its r' hz h' c' kp e) (by simp only[Xo]<;>lia)
 ·obtain⟨its,r',pl,hz⟩:=I.tuple hq;have hlen:=r'.length;obtain⟨o,ho,hc,n,hd⟩:=pl;exact call_list_seq p (.inr rfl) ho hc hd (fun h' c' kp e=>fin its r' hz h' c' kp e) (by simp only[Xo]<;>lia)
def tyV (K:X2)(T:String)(x:V)(H:Hp):Prop:=match x with
 | .str _=>T="str"
 | .int _=>T="int"
 | .ref p=>(T="list"/\∃xs,SqL K H p xs)\/(T="tuple"/\∃o,K.lookup p=some o/\o.cls=.type "tuple"/\o.dict=none) \/
   (T="dict"/\((∃kvs,H p=some (.dK kvs))\/∃kvs,H p=some (.dT kvs)))\/(T="set"/\∃S n,H p=some (.set S n))
 | _=>False
theorem zka {pins:List (Addr×Obj)}{σ:St}{H:Hp}{s:X8}{T:String}{x:V}{v:X9}(I:Inv X pins σ H s)(r:RelV x v)(ty:tyV X.K T x H) :
  s.TypeIs v T/\∀a,v=.ref a->∃ob,s.heap.get? a=some ob/\ob.dict=none:=by
 cases x with
 | str z =>
  obtain⟨t,rfl⟩:=r;cases (show T="str" from ty);exact⟨typeIs_str s z t,fun _ e=>nomatch e⟩
 | int i =>
  obtain⟨t,rfl⟩:=r;cases (show T="int" from ty);exact⟨typeIs_int s i t,fun _ e=>nomatch e⟩
 | ref p =>
  cases r;rcases ty with ⟨rfl,xs,hq⟩ | ⟨rfl,o,hk,hc,hd⟩ | ⟨rfl,hk⟩ | ⟨rfl,S,n,hk⟩
  ·obtain⟨its,_,pl,_⟩:=I.list hq;refine⟨pl.isList.typeIs,fun a e=>?_⟩;cases e;obtain⟨o,n,e,c,hd,_⟩:=pl;exact⟨o,e,hd⟩
  ·refine⟨⟨o,I.kIn p o hk,hc⟩,fun a e=>?_⟩;cases e;exact⟨o,I.kIn _ o hk,hd⟩
  ·have z:∃o,s.heap.get? p=some o/\o.ExactDict:=by
    rcases hk with ⟨kvs,hk⟩ | ⟨kvs,hk⟩
    ·obtain⟨_,_,_,_,o,_,_,e,ex,_⟩:=I.hok p _ hk;exact⟨o,e,ex⟩
    ·obtain⟨_,_,_,_,o,_,_,e,ex,_⟩:=I.hok p _ hk;exact⟨o,e,ex⟩
   obtain⟨o,e,ex⟩:=z;refine⟨⟨o,e,ex.1⟩,fun a e2=>?_⟩;cases e2;exact⟨o,e,ex.2.1⟩
  ·obtain⟨o,_,_,_,e,ex,_⟩:=I.hok p _ hk;refine⟨⟨o,e,ex.1⟩,fun a e2=>?_⟩;cases e2;exact⟨o,e,ex.2.1⟩
 | _=>exact Wm ty
def zq7 (K:X2)(T:String)(r:V->List V->Hp->VK->Prop)(to:TE):TE:=fun σ H Q=>to σ H fun x H1=>tyV K T x H1/\r x [] H1 Q
def tBM (K:X2)(T:String)(r:V->List V->Hp->VK->Prop)(to:TE)(t:TA):TE:=fun σ H Q=>to σ H fun x H1=>tyV K T x H1/\t σ H1 fun xs H2=>r x xs H2 Q
variable {o e:Expr}{es:List Expr}{to:TE}{t:TA}{name:Str}{apos cpos:Pos}{T id:String}{r:V->List V->Hp->VK->Prop}
theorem zkb (pa:PlainAttrs T)(slot:Slot T name id)(hty:typeOf (.builtin id)=pure (.type "method_descriptor"))(hm:MtR X id r)(ho:PE X o to)
  (hbase:Og o name X.env (eval o X.env)=eval o X.env:=by rfl) (hline:(apos.endLine==cpos.line)=true:=by rfl):PE X (.Call (.Attribute o name apos) [] [] cpos) (zq7 X.K T r to):=by
 intro pins s σ H Q I h;refine wpAny_Call_method0_late hbase hline (thn (ho pins s σ H _ I h) fun v s1 ⟨x,H1,I1,r1,ty,q1⟩=>?_);obtain⟨h1,h2⟩:=zka I1 r1 ty;exact⟨T,id,pa,slot,hty,h1,h2,Pi rfl (PySem.evalArgs_none (hm pins s1 σ H1 x [] v [] Q I1 r1 .nil q1))⟩
theorem xY (pa:PlainAttrs T)(slot:Slot T name id)(hty:typeOf (.builtin id)=pure (.type "method_descriptor"))(hm:MtR X id r)(ho:PE X o to)(ha:PA X (e::es) t)
  (hbase:Og o name X.env (eval o X.env)=eval o X.env:=by rfl)
  (hfew:((SR cpos (WA (e::es) X.env)).all (fun x=>!x.1)&&(backToKw cpos (keywordEach [] X.env)).all (fun x=>x.1.isSome)
   && decide ((e::es).length+([]:List NL).length+(if ([]:List NL).isEmpty then 0 else 1)<30))=true:=by rfl)
  (hline:(apos.endLine==cpos.line)=true:=by rfl) (hs:WA (e::es) X.env=(false,eval e X.env)::WA es X.env:=by rfl) (hplain:(SR cpos (WA es X.env)).any (·.1)=false:=by rfl) :
  PE X (.Call (.Attribute o name apos) (e::es) [] cpos) (tBM X.K T r to t):=by
 intro pins s σ H Q I h;refine wpAny_Call_method_late hbase hfew hline rfl (thn (ho pins s σ H _ I h) fun v s1 ⟨x,H1,I1,r1,ty,q1⟩=>?_);obtain⟨h1,h2⟩:=zka I1 r1 ty;refine⟨T,id,pa,slot,hty,h1,h2,?_⟩;have hA:=ha cpos pins s1 σ H1 _ I1 q1;rw[hs] at hA ⊢;refine Pi (by show (false || (SR cpos (WA es X.env)).any (·.1))=false;rw[hplain]<;>rfl) (OE ?_);exact thn hA fun us s2 ⟨vs,H2,I2,r2,q2⟩=>hm pins s2 σ H2 x vs v us Q I2 r1 r2 q2
/- xs.append(e),list.index on a module's tuple .. are MtR facts of 06m -/
end
def MtM (X:Cx)(id:String)(r:V->List V->Hp->VK->Prop):Prop :=
 ∀(pins:List (Addr×Obj)) (s:X8) (σ:St) (H:Hp) (x:V) (xs:List V) (v:X9) (us:List X9) (Q:VK),Inv X pins σ H s->RelV x v->Vals xs us->r x xs H Q ->
  Xg (Xh X.prog X.w) X.A (call (.builtin id) (v::us)) (EP X pins σ Q) X.xe s
theorem Vals.one:∀{x:V} {us:List X9},Vals [x] us->∃u,us=[u]/\RelV x u
 | _,_,.cons r .nil=>⟨_,rfl,r⟩
theorem Vals.rep {xs:List V}{us:List X9}(h:Vals xs us):∀k:Nat,Vals (WN k xs).flatten (WN k us).flatten
 | 0=>.nil
 | k+1=>by
  rw[Vt,Vt,WM,WM];exact Vals.append h (Vals.rep h k)
theorem foldl_rep (its:List X9):∀(k:Nat) (acc:List X9),
  List.foldl (fun x1 x2=>x1++x2) acc.toArray (WN k its.toArray)=(acc++(WN k its).flatten).toArray
 | 0,acc=>by simp
 | k+1,acc=>by
  have e:acc.toArray++its.toArray=(acc++its).toArray:=by simp
  have e2:(acc++its)++(WN k its).flatten=acc++(WN (k+1) its).flatten:=by
   rw[Vt,WM,W2]
  rw[<- e2,<- foldl_rep its k (acc++its),<- e,Vt,VX]
section
variable {X:Cx}{pins:List (Addr×Obj)}{σ:St}{H:Hp}{s:X8}{l b:Addr}{xs ys zs:List V}
theorem Inv.lset {its its':List X9}{n:Nat}{f:Array X9->Array X9}{t':Nat}(I:Inv X pins σ H s)(hH:H l=some (.lst xs))
  (e:s.heap.get? l=some { cls:=.type "list",data:=.seq its.toArray n }) (hf:f its.toArray=its'.toArray) (hv:Vals ys its') (hz:ys.length<=Xz) :
  Inv X pins σ (upd H l (.lst ys)) { s with heap:=s.heap.update l (U8 f),toks:=t' }:=by
 have q:=PySem.IsL.update e f;rw[hf] at q;refine I.write (x:=l) (e:=l) (by rw[hH];exact trivial) (.inl rfl) (fun b' u hb hu=>(Uc s.heap (U8 f) (US hb)).trans hu) ⟨_,q⟩ ?_;exact⟨hz,its',_,hv,q⟩
theorem Inv.lnew {its:List X9}{t':Nat}(I:Inv X pins σ H s)(hv:Vals ys its)(hz:ys.length<=Xz) :
  Inv X pins σ (upd H s.heap.objs.size (.lst ys)) { s with heap:=s.heap.push { cls:=.type "list",data:=.seq its.toArray },toks:=t' } :=
 I.laid (fun _ _ q=>XZ _ q) (XW _) ⟨hz,its,0,hv,Xl _ rfl⟩
theorem Inv.fresh (I:Inv X pins σ H s):H s.heap.objs.size=none:=I.hok.fresh (XW _)
theorem Inv.lstM (I:Inv X pins σ H s)(hH:H l=some (.lst xs)):xs.length<=Xz/\∃(its:List X9) (n:Nat),Vals xs its/\xs.length=its.length/\s.heap.get? l=some { cls:=.type "list",data:=.seq its.toArray n }:=by
 obtain⟨z,its,n,r,e⟩:=I.hok l _ hH;exact⟨z,its,n,r,r.length,e⟩
theorem zfw {n:Nat}(h:n<=Xz):Uy n=false:=by
 unfold Uy;exact decide_eq_false (by lia)
end
section
variable {X:Cx}
def zmC:V->List V->Hp->VK->Prop:=fun x vs H Q=>∃l xs y,x=.ref l/\vs=[y]/\H l=some (.lst xs)/\xs.length<Xz/\Q .non (upd H l (.lst (xs++[y])))
theorem Y6:MtM X "list.append" zmC:=by
 intro pins s σ H x vs v us Q I rx rv h;obtain⟨l,xs,y,rfl,rfl,hH,hz,q⟩:=h;cases rx;obtain⟨u,rfl,ru⟩:=rv.one;obtain⟨z,its,n,r,hl,e⟩:=I.lstM hH;refine S8 F.slot_list_append ⟨_,e,rfl⟩ F.entry_list_append (F.args_list_append_2 _ _) (PySem.list_append l its.toArray n u (by rw[Xo];lia)) ⟨e,?_⟩;refine⟨.non,_,I.lset (its':=its++[u]) hH e (by simp) (r.append (.cons ru .nil)) ?_,rfl,q⟩;rw[XU,O2];lia
def zmD:V->List V->Hp->VK->Prop:=fun x vs H Q=>∃l b xs zs,x=.ref l/\vs=[.ref b]/\H l=some (.lst xs)/\H b=some (.lst zs)/\xs.length+zs.length<=Xz/\Q .non (upd H l (.lst (xs++zs)))
theorem zdG:MtM X "list.extend" zmD:=by
 intro pins s σ H x vs v us Q I rx rv h;obtain⟨l,b,xs,zs,rfl,rfl,hH,hB,hz,q⟩:=h;cases rx;obtain⟨u,rfl,ru⟩:=rv.one;cases ru;obtain⟨z,its,n,r,hl,e⟩:=I.lstM hH;obtain⟨z2,its2,n2,r2,hl2,e2⟩:=I.lstM hB;have hsz:its.toArray.size+its2.toArray.size<=Xz:=by rw[Xo,Xo];lia
 have hlong:¬ (!its.toArray.isEmpty&&Uy (its.toArray.size+its2.toArray.size))=true:=by
  rw[zfw hsz,Bool.and_false];exact XX
 refine S8 F.slot_list_extend ⟨_,e,rfl⟩ F.entry_list_extend (F.args_list_extend_2 _ _)
  (AutoSeq1.list_extend_list_list_0 l its.toArray n b its2.toArray n2 hlong (by rw[Xo];lia) (by lia)) ⟨e,e2,?_⟩
 refine⟨.non,_,I.lset (its':=its++its2) hH e (by simp) (r.append r2) ?_,rfl,q⟩;rw[XU];lia
def zq8:R2:=fun x y H Q=>∃l b xs zs,x=.ref l/\y=.ref b/\H l=some (.lst xs)/\H b=some (.lst zs)/\xs.length+zs.length<=Xz/\∀p,H p=none->Q (.ref p) (upd H p (.lst (xs++zs)))
theorem ZT:OpR X (T9 .Add) zq8:=by
 intro pins s σ H x y v u Q I rx ry h;obtain⟨l,b,xs,zs,rfl,rfl,hH,hB,hz,q⟩:=h;cases rx;cases ry;obtain⟨z,its,n,r,hl,e⟩:=I.lstM hH;obtain⟨z2,its2,n2,r2,hl2,e2⟩:=I.lstM hB;refine PySem.P.add_list e e2 ?_ (by rw[Xo,Xo];lia);have ea:its.toArray++its2.toArray=(its++its2).toArray:=by simp
 rw[ea];exact⟨.ref _,_,I.lnew (t':=s.toks) (r.append r2) (by rw[XU];lia),rfl,q _ I.fresh⟩
def zq9:R2:=fun x y H Q=>∃l k xs,x=.ref l/\y=.int k/\H l=some (.lst xs)/\-(2^63)<=k/\k<2^63/\xs.length*k.toNat<=Xz /\
 ∀p,H p=none->Q (.ref p) (upd H p (.lst (WN k.toNat xs).flatten))
theorem len_rep {α:Type}(xs:List α)(k:Nat):(WN k xs).flatten.length=k*xs.length:=by
 induction k with
 | zero=>simp
 | succ k ih=>rw[Vt,WM,XU,ih,RG,TF]
theorem zgU:OpR X (T9 .Mult) zq9:=by
 intro pins s σ H x y v u Q I rx ry h;obtain⟨l,k,xs,rfl,rfl,hH,h1,h2,hz,q⟩:=h;cases rx;obtain⟨t,rfl⟩:=ry;obtain⟨z,its,n,r,hl,e⟩:=I.lstM hH;have hlen:its.toArray.size*k.toNat<=Xz:=by rw[Xo,<- hl];exact hz
 have hcap:¬ its.toArray.size*k.toNat>(2^63-1)/8:=by
  have:(Xz:Nat)<=(2^63-1)/8:=by decide
  lia
 have hfit:¬ (!Builtin.List.listFitsIndex k)=true:=by
  rw[fitsIndex_both h1 h2];exact XX
 have hlong:¬ Uy (its.toArray.size*k.toNat)=true:=by
  rw[zfw hlen];exact XX
 have hnew:List.foldl (fun x1 x2=>x1++x2) #[] (WN (if its.toArray.isEmpty=true then 0 else k.toNat) its.toArray)=(WN k.toNat its).flatten.toArray:=by
  have f0:∀m:Nat,List.foldl (fun x1 x2=>x1++x2) #[] (WN m its.toArray)=(WN m its).flatten.toArray:=fun m=>by
   have:=foldl_rep its m [];rw[RP] at this;exact this
  rw[f0];cases its with
  | nil=>simp
  | cons a r'=>rw[if_neg (by simp)]
 refine wpAny_binaryOp_repeat_ref (T:="list") (U:="int") (by decide) ⟨_,e,rfl⟩ (fun s'=>typeIs_int s' k t) noFill_list_mul F.fills_int_mul F.slot_int_rmul repeat_list F.slot_int_index.lookup
  (S8 F.slot_int_rmul (typeIs_int s k t) F.entry_int_rmul (F.args_int_rmul_2 _ _) (int___rmul___int_list k t l its.toArray n)
   ⟨e,rfl,⟨_,e,rfl⟩,S8 F.slot_list_mul ⟨_,e,rfl⟩ F.entry_list_mul (F.args_list_mul_2 _ _) (AutoListH.list___mul___list_int_3 l its.toArray n k t hfit hcap hlong) ⟨e,?_⟩⟩)
 rw[hnew];exact⟨.ref _,_,I.lnew (t':=s.toks) (r.rep k.toNat) (by rw[len_rep,SL];exact hz),rfl,q _ I.fresh⟩
end
section
variable {prog:Xd}{w:WP}{A:WK}{E:X9->X8->Prop}{s:X8}
end
section
variable {X:Cx}
end
end L2
namespace Att
open PySem PySem.W PySem.Calls PyProof.Rows
theorem zbE {P:Params}{h:Heap}:∀(ns:List Int) (vs:List X9),WellAll P h vs (ns.map WData.int)->Ou vs ns:=by
 intro ns;induction ns with
 | nil =>
  intro vs w;rw[RF] at w;cases w;exact .nil
 | cons n ns ih =>
  intro vs w;rw[Xf] at w;cases w with
  | cons a b =>
   cases a;exact .cons _ _ (ih _ b)
theorem zi0 {l:OpenLaw}{n:Nat}(hn:l.most=some n){P:Params}{h:Heap}{args:List WData}{vals:List X9}
  (hpre:l.row.toRowW.claim.pre args=true) (hwl:WellAll P h vals args) :
  ∃a vs ns,vals=[WU a]/\args=[WData.list (ns.map WData.int)]/\h.get? a=some { cls:=.type "list",data:=.seq vs.toArray }/\Ou vs ns/\ns.length<=n:=by
 have hsh:WShape.hasAll [] args [.list .int]=true:=(pre_splitW hpre).1;have hc:l.pre.holds [] { args:=args }=true:=(pre_splitW hpre).2;obtain⟨d,r,rfl,h1,h2⟩:=hasAllW_cons hsh;obtain rfl:=hasAllW_nil h2;obtain⟨xs,rfl,h3⟩:=hasW_list h1;obtain⟨ns,rfl⟩:=items_int h3;have hlen:ns.length<=n:=by
  unfold OpenLaw.pre at hc;have h4:(WTm.not (.lt (.lit (.int (n:Int))) (.len (.arg 0)))).holds [] { args:=[.list (ns.map .int)] }=true:=by
   have h4:=(holds_andW hc).1;rw[hn] at h4;exact h4
  have h5:=condW_of h4 (w_not (w_lt w_lit (w_len_list (w_arg rfl))));rw[Y1] at h5;refine PN fun q=>?_;have q':(n:Int)<((ns.length:Nat):Int):=by lia
  first
   | (rw[decide_eq_true q'] at h5;exact absurd h5 (by decide))
   | (simp at h5;lia)
 cases hwl with
 | cons w1 w2 =>
  cases w2;cases w1 with
  | list ho hall=>exact⟨_,_,ns,rfl,rfl,ho,zbE ns _ hall,hlen⟩
theorem zi1 (l:OpenLaw)(args:List WData):l.row.toRowW.claim.post args (.bool true) args=true :=
 postW_of (r:=l.row.toRowW) (X:=(true==true))
  (show WShape.has [] (.bool true) .bool=true by first | rfl | decide | simp[WShape.has,WShape.arms,WShape.armsAll])
  (show (WTm.eq .res (.lit (.bool true))).value [] { args:=args,res:=some (.bool true),after:=args }=some (.bool (true==true)) from w_eq_bool (w_res rfl) w_lit) rfl
theorem zfx {l:OpenLaw}{n:Nat}{q:Xd}{loose:List Str}{XP:(Str->Option X9)->Heap->Prop}{YP:WP->Heap->Prop}{d:DefRec}
  (hn:l.most=some n) (hdf:d.params.defaults=[])
  (call:∀(w:WP) (s₀ s₁:X8) (mg mb:Str->Option X9) (fa:Addr) (o:Obj) (pm cd doc:X9) (a:Addr) (vs:List X9) (ns:List Int),
   Ground q loose [] XP w s₀ mg mb s₁.heap->YP w s₁.heap ->
   s₁.heap.get? fa=some o->o.data=.func (docDef d.name d.params d.body d.scope pm cd doc)->s₁.heap.CodeRec cd d.name->mg d.name=some (.ref fa) ->
   s₁.heap.get? a=some { cls:=.type "list",data:=.seq vs.toArray }->Ou vs ns->ns.length<=n->s₁.gens=#[] ->
   TJ (Xh l.prog w) Ot (.call (.ref fa) ⟨[.ref a],[]⟩) (fun r s'=>r=.ok (.ret (.bool true))/\OldK s₁.heap s'.heap/\s'.os=s₁.os/\R6 s'.gens) s₁) :
  WalkO q loose XP YP l.row.toRowW d [] (fun f vs=>PySem.call f vs):=by
 intro w s₀ s₁ mg mb G Y fa o pm cd doc dV kV ho hd hcd hD hmg hg args vals as hpre hlay hrd hwl hlo;obtain rfl:dV=.none:=Dflts.none hD hdf;obtain rfl:kV=.none:=Dflts.noKw hD;obtain⟨a,vs,ns,rfl,rfl,hobj,hints,hlen⟩:=zi0 hn hpre hwl;refine enter_call (SM (call w s₀ s₁ mg mb fa o pm cd doc a vs ns G Y ho (fd_plain hd) hcd hmg hobj hints hlen hg) fun r s' hq=>?_);obtain⟨rfl,h2,h3,h4⟩:=hq;exact⟨.inl ⟨.bool true,.bool true,[],rfl,fun _=>rfl,.bool true,zi1 l _,fun _=>⟨List.Pairwise.nil,fun _ hm=>(nomatch hm)⟩⟩,h2,h3,h4⟩
section
variable {prog:Xd}{w:WP}{A:WK}{E:X9->X8->Prop}{s:X8}{K:Frag}
end
end Att
namespace L2
open PySem PySem.Spec PyProof.Rows
theorem zdH:∀{vs:List X9} {ns:List Int},Ou vs ns->Vals (ns.map V.int) vs
 | _,_,.nil=>.nil
 | _,_,.cons n t h=>.cons ⟨t,rfl⟩ (zdH h)
def zoD (H:Hp):Prop:=∀b,H b=none\/∃o xs,H b=some (.frz o (.lst xs))
theorem zkc {P:Xd}{w:WP}{K:X2}{mg mb:Str->Option X9}{CX:CXT}{k:Nat}{fa a:Addr}{fd:Xq}{x:Str}{sp:Sp}{s₁:X8}{vs:List X9}{ns:List Int}
  (KX:K.In s₁.heap) (hns:s₁.heap.Ns XR mg) (hb:s₁.heap.Ns Oa mb) (hbb:∀x:Str,x ≠ "__name__"->mb x=TH x) (hlim:s₁.heap.NoLimit) (hg:s₁.gens=#[])
  (ha:s₁.heap.get? a=some { cls:=.type "list",data:=.seq vs.toArray }) (hi:Ou vs ns) (hl:ns.length<=Xz) (hr:Zb k Ot)
  (F:∀base:Heap,K.In base->base.Ns XR mg->qk P w K mg base CX k fa fd [x] sp) (hbind:∀(s:X8) (u:X9),N5 s fd ⟨[u],[]⟩ [(x,u)])
  (hsp:∀H:Hp,zoD H->SqL K H a (ns.map V.int)->sp [.ref a] H (fun v _=>v=.bl true) fun _ _ _=>False)
  (hCX:∀H e s',CX [] H s₁ (fun _ _ _=>False) e s'->False) :
  TJ (Xh P w) Ot (.call (.ref fa) ⟨[.ref a],[]⟩) (fun r s'=>r=.ok (.ret (.bool true))/\OldK s₁.heap s'.heap/\s'.os=s₁.os/\R6 s'.gens) s₁:=by
 have rv:=zdH hi;have lenV:=hi.length;have core:∀H:Hp,zoD H->SqL K H a (ns.map V.int)->HOk P w H s₁.heap->(∀b,H b≠none->b=a)->(H a≠none->K.lookup a=none) ->
   TJ (Xh P w) Ot (.call (.ref fa) ⟨[.ref a],[]⟩) (fun r s'=>r=.ok (.ret (.bool true))/\OldK s₁.heap s'.heap/\s'.os=s₁.os/\R6 s'.gens) s₁:=by
  intro H hO hS hok hA hK;have base_of:∀{b:Addr} {o:Obj},s₁.heap.get? b=some o->H b=none->(zex s₁.heap H).get? b=some o:=fun e n=>zj1 e n;have noA:∀{b:Addr} {o:Obj} {es:Array PU} {ep:Nat},s₁.heap.get? b=some o->o.data=.dict es ep->H b=none:=fun {b o es ep} e d=>by
   cases q:H b with
   | none=>rfl
   | some u =>
    have e':b=a:=hA b (by rw[q];simp);subst e';rw[ha] at e;cases e;have d':Data.seq vs.toArray _=Data.dict es ep:=d;cases d'
  have nsK:∀{b:Addr} {m:Str->Option X9},s₁.heap.Ns b m->(zex s₁.heap H).Ns b m:=fun {b m} ⟨o,es,ep,e,d,r⟩=>⟨o,es,ep,base_of e (noA e d),d,r⟩;have hKb:K.In (zex s₁.heap H):=fun b o e=>base_of (KX b o e) (by
   cases q:H b with
   | none=>rfl
   | some u =>
    have e':b=a:=hA b (by rw[q];simp);subst e';rw[hK (by rw[q];simp)] at e;cases e)
  have hM:Mod K mg (zex s₁.heap H):=⟨hKb,nsK hns,⟨mb,nsK hb,hbb⟩,let ⟨mc,h1,h2⟩:=hlim;⟨mc,nsK h1,h2⟩⟩;have e0:zmy P w K mg (zex s₁.heap H) Ot [] s₁ H:=⟨rfl,hM,fun b o e=>zmv e,Nat.le_of_eq (ziS _ _),trivial,fun b hb=>absurd (show b∈([]:List Addr) from hb) (by simp),hok,.of_eq hg⟩;refine SM ((F _ hKb (nsK hns)).run Ot [] s₁ H ⟨[.ref a],[]⟩ [.ref a] [.ref a] _ _ hr e0 (hbind s₁ (.ref a)) (.cons rfl .nil) (hsp H hO hS)) fun r s' h=>?_;cases r with
  | error e=>exact(hCX H e s' h).elim
  | ok fl =>
   cases fl with
   | next=>exact Wm h
   | brk=>exact Wm h
   | cont=>exact Wm h
   | ret u =>
    obtain⟨v,H',os,bare,un,hok',r',q⟩:=h;have q':v=.bl true:=q;subst q';obtain rfl:u=Ta true:=r';refine⟨rfl,OldK.of_keep fun b o e=>?_,os,bare⟩;cases q:H b with
    | none=>exact un.keep b o e q (by intro z;exact absurd (show b∈([]:List Addr) from z) (by simp)) (by simp)
    | some u =>
     rcases hO b with z | ⟨ob,xs,z⟩
     ·rw[q] at z;cases z
     ·have z2:=un.frzs b ob _ z;obtain⟨e1,_⟩:=hok b _ z;obtain⟨e2,_⟩:=hok' b _ z2;rw[e] at e1;cases e1;exact e2
 cases hk:K.lookup a with
 | some o =>
  have e:=KX a o hk;rw[ha] at e;cases e;refine core (fun _=>none) (fun _=>.inl rfl) (.inr ⟨_,vs.toArray,_,hk,rfl,rfl,rfl,by rw[Xo,lenV];exact hl,by simpa using rv⟩) (fun b u z=>by have z':(none:Option HO)=some u:=z;cases z') (fun b z=>absurd rfl z) fun z=>absurd rfl z
 | none =>
  refine core (fun b=>if b=a then some (.frz { cls:=.type "list",data:=.seq vs.toArray } (.lst (ns.map V.int))) else none) (fun b=>?_) (.inl (.inr ⟨{ cls:=.type "list",data:=.seq vs.toArray },if_pos rfl⟩)) (fun b u z=>?_) (fun b z=>?_) fun _=>hk
  ·by_cases hb:b=a
   ·exact .inr ⟨_,_,if_pos hb⟩
   ·exact .inl (if_neg hb)
  ·by_cases hb:b=a
   ·have z':=(if_pos hb).symm.trans z;cases z';subst hb;exact⟨ha,by rw[Y1];exact hl,vs,_,rv,ha⟩
   ·have z':=(if_neg hb).symm.trans z;cases z'
  ·by_cases hb:b=a
   ·exact hb
   ·exact absurd (if_neg hb) z
theorem zh9 {l:O9}{n k:Nat}{q:Xd}{loose:List Str}{XP:(Str->Option X9)->Heap->Prop}{YP:WP->Heap->Prop}{d:DefRec}{K:Params->X2}{CX:WP->CXT}{sp:WP->Sp}{x:Str}
  (hn:l.most=some n) (hn2:n<=Xz) (hdf:d.params.defaults=[]) (hr:Zb k Ot)
  (hY:∀(w:WP) (h:Heap),YP w h->(K w.params).In h)
  (F:∀(w:WP) (mg:Str->Option X9) (fa:Addr) (h:Heap),(K w.params).In h->h.Ns XR mg->mg d.name=some (.ref fa) ->
   ∃fd:Xq,(∀(s:X8) (u:X9),N5 s fd ⟨[u],[]⟩ [(x,u)]) /\
    ∀base:Heap,(K w.params).In base->base.Ns XR mg->qk l.prog w (K w.params) mg base (CX w) k fa fd [x] (sp w))
  (hsp:∀(w:WP) (H:Hp) (a:Addr) (ns:List Int),ns.length<=n->zoD H->SqL (K w.params) H a (ns.map V.int)->sp w [.ref a] H (fun v _=>v=.bl true) fun _ _ _=>False)
  (hCX:∀(w:WP) (H:Hp) (s:X8) (e:X9) (s':X8),CX w [] H s (fun _ _ _=>False) e s'->False) :
  Oj q loose XP YP l.row.toRowW d [] (fun f vs=>PySem.call f vs):=by
 refine Att.zfx hn hdf fun w s₀ s₁ mg mb fa o pm cd doc a vs ns G Y ho hd hcd hmg hobj hints hlen hg=>?_;have KX:=hY w _ Y;obtain⟨fd,hb,hF⟩:=F w mg fa _ KX G.T.g hmg;exact zkc KX G.T.g G.T.b G.T.builtins G.T.nolimit hg hobj hints (X5 hlen hn2) hr hF hb (fun H hO hS=>hsp w H a ns hlen hO hS) fun H e s'=>hCX w H s₁ e s'
end L2
/- THE LAST THEOREM (shape;LID,My.* are yours):
   My.Adr: a structure of the addresses that your layer names (classes,functions);My.Txt K t: a structure (Prop) of the equations over K;
   My.txt_mk:{K} {implicit addresses ..} (e1:nsIn K XR "law"=some (some (.ref f))) (e2:K.lookup f=some ⟨oc,od,.func (fnOf "law" "law" params body scope dV kV doc pm an cdv ct),sl⟩) (e3:codeIn K cdv "law"=true) ..:∃t,My.Txt K t
set_option maxRecDepth 100000 in
set_option maxHeartbeats 0 in
theorem PySem.Challenge.cw_LID_holds : PySem.Challenge.rw_LID.Holds := by
 w_on;o_law;k_head;(case hw=>w_witness2);k_fill;refine L2.zh9 (l:=PySem.Challenge.rw_LID) (n:=63) (k:=40) (x:="script") (CX:=fun w=>..) (sp:=fun _=>My.zra) rfl (by decide) rfl ⟨rfl,by decide,by decide⟩ (fun w h Y=>PySem.W.kIn_of Y) ?F ?S ?C
 case F =>
  intro w mg fa h KX G hmg
  have T:∃t,My.Txt (L2.KOf KX) t:=by
   dsimp only[L2.KOf]                          -- K must stand as «<heap const> w.params» for k_is;refine' My.txt_mk ?e1 ?e2 ?e3 ..;(case e1=>PySem.W.k_is)                    -- in the order: a name->its address->its object->its parts;(case e2=>PySem.W.k_is);..
  obtain⟨t,T⟩:=T
  have e0:=hmg.symm.trans (Wh KX G T.law)
  cases e0                                       -- fa is the law's own address
  exact⟨_,fun s u=>.of_eq rfl,fun base kb nb=>My.law_fn T kb nb⟩     -- if «.of_eq rfl» comes too early: refine' ⟨_,?b,fun base kb nb=>My.law_fn T kb nb⟩;exact fun s u=>.of_eq rfl
 case S=>exact fun w H a ns hl hO hS=>..
 case C=>exact ..
(the tactic k_is has no namespace: write k_is) -/
namespace L2
open PySem PySem.Spec PyProof.Rows
def JU (s:Stmt):Arguments:=match s with
 | .FunctionDef _ a _ _ _ _ _ _ _ _=>a
 | _=>{ posonlyargs:=[],args:=[],vararg:=none,kwonlyargs:=[],kw_defaults:=[],kwarg:=none,defaults:=[] }
def xA (s:Stmt):List Stmt:=match s with
 | .FunctionDef _ _ b _ _ _ _ _ _ _=>b
 | _=>[]
def zg (s:Stmt):Uk:=match s with
 | .FunctionDef _ _ _ _ _ _ sc _ _ _=>sc
 | _=>{ kind:=.function,names:=[],isGenerator:=false,isCoroutine:=false }
abbrev CX0:CXT:=fun _ _ _ _ _ _=>False
abbrev E0:XK:=fun _ _ _=>False
theorem zp6 {X:Cx}:Passes CX0 X E0:=fun _ _ _ _ _ _ _ h=>h.elim
structure Fun (K:X2)(x qual:Str)(st:Stmt)(f:Addr)(fd:Xq):Prop where
 ex:∃(oc:X9) (od:Option Addr) (kV doc pm:X9) (an:Option Addr) (cdv ct:X9) (osl:Array (Option X9)),
  fd=UI x qual (JU st) (xA st) (zg st) .none kV doc pm an cdv ct/\K.lookup f=some ⟨oc,od,.func fd,osl⟩/\SF K cdv qual=true
 kp:TU K (.ref f)=true
section
variable {P:Xd}{w:WP}{K:X2}{mg:Str->Option X9}{base:Heap}
theorem Fun.ok {x qual:Str}{st:Stmt}{f:Addr}{fd:Xq}{N ps:List Str}{k:Nat}{sp:Sp}(F:Fun K x qual st f fd)(S:zF N ps (zg st))(len:∀vs H Q E,sp vs H Q E->vs.length=ps.length)
  (hbody:∀(cdv:X9) (A:WK) (outer:List Env) (s:X8) (H:Hp) (vs:List V) (Q:VK) (E:XK),Zb k (A.deeper (Po qual (zg st) s.heap.objs.size f cdv))->sp vs H Q E ->
   ∃t,PSs (zft CX0 P w K mg base N qual (zg st) f cdv A outer s H E).nox (xA st) t/\t { nx:=fun _ H'=>Q .non H',rt:=Q } (start N vs) H):qk P w K mg base CX0 (k+1) f fd ps sp:=by
 obtain⟨oc,od,kV,doc,pm,an,cdv,ct,osl,rfl,lk,hcd⟩:=F.ex;refine znL lk hcd S len fun A outer s H vs Q E hr hsp=>?_;obtain⟨t,h,q⟩:=hbody cdv A outer s H vs Q E hr hsp;exact⟨t,h.nox,q⟩
theorem Fun.binds {x qual:Str}{st:Stmt}{f:Addr}{fd:Xq}{ps:List Str}(F:Fun K x qual st f fd)
  (h:∀(kV doc pm:X9) (an:Option Addr) (cdv ct:X9) (us:List X9),us.length=ps.length->bindArgs (UI x qual (JU st) (xA st) (zg st) .none kV doc pm an cdv ct) ⟨us,[]⟩=pure (ps.zip us)):Binds K fd ps []:=by
 obtain⟨oc,od,kV,doc,pm,an,cdv,ct,osl,rfl,lk,hcd⟩:=F.ex;exact .all (h kV doc pm an cdv ct)
theorem zkd {x qual:Str}{st:Stmt}{f:Addr}{oc:X9}{od an:Option Addr}{osl:Array (Option X9)}{kV doc pm cdv ct:X9}(l:K.lookup f=some ⟨oc,od,.func (UI x qual (JU st) (xA st) (zg st) .none kV doc pm an cdv ct),osl⟩)
  (c:SF K cdv qual=true) (k:TU K (.ref f)=true):Fun K x qual st f (UI x qual (JU st) (xA st) (zg st) .none kV doc pm an cdv ct):=⟨⟨oc,od,kV,doc,pm,an,cdv,ct,osl,rfl,l,c⟩,k⟩
end
section
variable {X:Cx}
theorem pv (i:Nat){x:Str}{pos:Pos}(hN:X.N[i]?=some x:=by rfl)(hv:Vis X.env.scope x:=by first | exact XM rfl | exact UV (XM rfl) | exact UV (UV rfl))(hd:(x==("__debug__":Str))=false:=by decide)
  (hcd:(x==("__classdict__":Str))=false:=by decide):PE X (.Name x pos) (zpJ i):=zoh hN hv hd hcd
end
theorem ZU {A B:Prop}(h:B):if false=true then A else B:=by
 rw[if_neg XX];exact h
theorem Qm {A B:Prop}(h:A):if true=true then A else B:=by
 rw[if_pos rfl];exact h
theorem zeE {c A B:Prop} [Decidable c](h1:c->A)(h2:¬ c->B):if c then A else B:=by
 by_cases h:c
 ·rw[if_pos h];exact h1 h
 ·rw[if_neg h];exact h2 h
theorem znM {c A B:Prop} [Decidable c](hc:c)(h:B):if (!decide c)=true then A else B:=by
 rw[decide_eq_true hc];exact ZU h
def zu (H H':Hp):Prop:=∀b o,H b=some o->H' b=some o
theorem zu.refl (H:Hp):zu H H:=fun _ _ h=>h
theorem zu.trans {H H1 H2:Hp}(a:zu H H1)(b:zu H1 H2):zu H H2:=fun c o h=>b c o (a c o h)
theorem zu.free {H H':Hp}(e:zu H H'){l:Addr}(h:H' l=Option.none):H l=Option.none:=by
 cases q:H l with
 | none=>rfl
 | some o =>
  rw[e l o q] at h;cases h
theorem zu.seq {K:X2}{H H':Hp}{a:Addr}{xs:List V}(e:zu H H')(h:SqL K H a xs):SqL K H' a xs:=by
 rcases h with (h | ⟨o,h⟩) | h
 ·exact .inl (.inl (e _ _ h))
 ·exact .inl (.inr ⟨o,e _ _ h⟩)
 ·exact .inr h
end L2
set_option maxHeartbeats 4000000
namespace L2
open PySem PySem.Spec PyProof.Rows
section
variable {X:Cx}
theorem yT:OpR X (T9 .Mult) (rI IntMulOk fun i j=>.int (i*j)):=opI fun _ _ _ _ _ _ _ hc q=>mul_int q hc
def yr (_ j:Int):Prop:=0<j/\j.natAbs.log2<9000
theorem zke:OpR X (T9 .FloorDiv) (rI yr fun i j=>.int (i/j)):=opI fun i j _ _ _ _ _ hc q=>by
 have h1:(0:Int)<j:=hc.1;exact floordiv_int (by lia) (by rw[Rq i (by lia)];exact q) (.inl (PyProof.noPylong_of_log2 hc.2))
theorem yr.small {i j:Int}(h:0<j)(h':j<1073741824):yr i j:=by
 refine⟨h,?_⟩;have h0:j.natAbs≠0:=by lia
 have:j.natAbs.log2<30:=(Nat.log2_lt h0).mpr (by lia);lia
theorem yr.big {i j:Int}(h:0<j)(h':j.natAbs<2^8000):yr i j:=by
 refine⟨h,?_⟩;have h0:j.natAbs≠0:=by lia
 have:j.natAbs.log2<8000:=(Nat.log2_lt h0).mpr h';lia
theorem zeF {i j:Int}(h1:-(2^64)<j)(h2:j<2^64):IntMulOk i j:=IntMulOk.of_right (intBits_le_64 h1 h2)
theorem zp7 {i j:Int}(h1:i.natAbs<2^8000)(h2:j.natAbs<2^8000):IntMulOk i j:=IntMulOk.of_le (m:=8000) (n:=8000) (intBits_le_iff.mpr h1) (intBits_le_iff.mpr h2) (by decide)
def zp8 (T U:String):Option Bool:=if (Rz T==Rz U)=true then some true else if PySem.W.kitMeta U=true then (fastBuiltinMro T).map (·.contains (.type U)) else none
theorem zoE (K:X2){T U:String}{b:Bool}(e:zp8 T U=some b):W9 K (.type T) (.type U)=some b:=e
theorem xZ:jT X (.builtin "isinstance") (fun xs H Q=>∃x T U b,xs=[x,.ty U]/\zaT X.K H x (.type T)/\zp8 T U=some b/\Q (.bl b) H):=by
 intro pins s σ H xs us Q I r h;obtain⟨x,T,U,b,rfl,ty,e,q⟩:=h;obtain⟨u,w',rfl,rx,ru⟩:=vals2 r;cases ru;exact ziX I rx ty (zoE X.K e) fun tk=>⟨.bl b,H,I.tok tk,rfl,q⟩
end
theorem yp {b:Bool}{A B:Prop}(e:b=true)(h:A):if b=true then A else B:=by
 rw[if_pos e];exact h
theorem jM {b:Bool}{A B:Prop}(e:b=false)(h:B):if b=true then A else B:=by
 subst e;exact ZU h
structure zk (K:X2)(mg:Str->Option X9)(x:Str)(st:Stmt)(ps:List Str)(f:Addr)(fd:Xq):Prop where
 F:Fun K x x st f fd
 g:mg x=some (.ref f)
 b:Binds K fd ps []
theorem jN {α:Type}{xs:List α}{i:Int}{v:α}(h:0<=i)(e:xs[i.toNat]?=some v):atI xs i=some v:=by
 have:=zae e;rwa [Vs h] at this
def zrb (t u:TS):TS:=fun D σ H=>∃M:St->Hp->Prop,t { D with nx:=M } σ H/\∀ σ' H',M σ' H'->u D σ' H'
theorem Y7 {X:Cx}{st:Stmt}{rest:List Stmt}{t u:TS}(h1:PS X st t)(h2:PSs X rest u):PSs X (st::rest) (zrb t u):=by
 intro pins s σ H D I h;obtain⟨M,h3,h4⟩:=h;refine PP (thn (h1 pins s σ H _ I h3) fun f s1 q=>?_);cases f with
 | next =>
  obtain⟨σ1,H1,I1,q1⟩:=q;exact h2 pins s1 σ1 H1 D I1 (h4 σ1 H1 q1)
 | brk=>exact q
 | cont=>exact q
 | ret v=>exact q
theorem ze {H:Hp}{l:Addr}{o:HO}(h:H l=none):zu H (upd H l o):=fun b u e=>by rw[zh (zj e h)];exact e
section
variable {X:Cx}{tg:Expr}
end
mutual
inductive Rdv (K:X2)(H:Hp):V->We->Prop
 | non:Rdv K H .non .none
 | bl (b:Bool):Rdv K H (.bl b) (.bool b)
 | int (i:Int):Rdv K H (.int i) (.int i)
 | str (x:Str):Rdv K H (.str x) (.str x)
 | lst {a:Addr} {xs:List V} {ds:List We}:SqL K H a xs->xq K H xs ds->Rdv K H (.ref a) (.list ds)
 | tup {a:Addr} {xs:List V} {ds:List We}:SqT K H a xs->xq K H xs ds->Rdv K H (.ref a) (.tuple ds)
inductive xq (K:X2)(H:Hp):List V->List We->Prop
 | nil:xq K H [] []
 | cons {x:V} {d:We} {xs:List V} {ds:List We}:Rdv K H x d->xq K H xs ds->xq K H (x::xs) (d::ds)
end
section
variable {X:Cx}{pins:List (Addr×Obj)}{σ:St}{H:Hp}{s:X8}
theorem zi2 {a:Addr}{xs:List V}{ds:List We}(I:Inv X pins σ H s)(hq:SqL X.K H a xs)(h:∀us,Vals xs us->∃as,N2 s.heap us ds as):∀u,RelV (.ref a) u->∃as,Reads s.heap u (.list ds) as:=by
 intro u r;cases r;obtain⟨its,rv,p,hz⟩:=I.list hq;obtain⟨as,ra⟩:=h _ rv;obtain⟨o,ho,hc,n,hd⟩:=p.isList;exact⟨_,.list ho hc hd (by simpa using ra)⟩
theorem zi3 {a:Addr}{xs:List V}{ds:List We}(I:Inv X pins σ H s)(hq:SqT X.K H a xs)(h:∀us,Vals xs us->∃as,N2 s.heap us ds as):∀u,RelV (.ref a) u->∃as,Reads s.heap u (.tuple ds) as:=by
 intro u r;cases r;obtain⟨its,rv,p,hz⟩:=I.tuple hq;obtain⟨as,ra⟩:=h _ rv;obtain⟨o,ho,hc,n,hd⟩:=p;exact⟨_,.tuple ho hc hd (by simpa using ra)⟩
theorem zgV {v:V}{vs:List V}{d:We}{ds:List We}(h:∀u,RelV v u->∃as,Reads s.heap u d as)(t:∀us,Vals vs us->∃as,N2 s.heap us ds as):∀us,Vals (v::vs) us->∃as,N2 s.heap us (d::ds) as:=by
 intro us r;cases r with
 | cons r1 r2 =>
  obtain⟨as,ra⟩:=h _ r1;obtain⟨bs,rb⟩:=t _ r2;exact⟨_,.cons ra rb⟩
theorem Rdv.reads (I:Inv X pins σ H s){v:V}{d:We}{u:X9}(h:Rdv X.K H v d):RelV v u->∃as,Reads s.heap u d as :=
 Rdv.rec (motive_1:=fun v d _=>∀u,RelV v u->∃as,Reads s.heap u d as) (motive_2:=fun vs ds _=>∀us,Vals vs us->∃as,N2 s.heap us ds as)
  (fun u r=>by cases r;exact⟨_,.none⟩) (fun b u r=>by cases r;exact⟨_,.bool b⟩) (fun i u r=>by obtain⟨t,rfl⟩:=r;exact⟨_,.int i t⟩) (fun x u r=>by obtain⟨t,rfl⟩:=r;exact⟨_,.str x t⟩)
  (fun hq _ h=>zi2 I hq h) (fun hq _ h=>zi3 I hq h) (fun us r=>by cases r;exact⟨_,.nil⟩) (fun _ _ h t=>zgV h t) h u
structure zca (x y:We):Prop where
 l1:x.canLay0=true
 l2:y.canLay0=true
 dp:x.depth<=64
def zoF (K:X2)(neg:Bool):R2:=fun x y H Q=>∃dx dy,Rdv K H x dx/\Rdv K H y dy/\zca dx dy/\Q (.bl (if neg then !PyData.eqv dx dy else WX dx dy)) H
theorem JG (hu:X.A.units+64<U1):OpR X (VW .Eq) (zoF X.K false):=by
 intro pins s σ H x y v u Q I rx ry h;obtain⟨dx,dy,hx,hy,c,q⟩:=h;obtain⟨as,ra⟩:=hx.reads I rx;obtain⟨bs,rb⟩:=hy.reads I ry;have:=c.dp;exact SeqAt.compareEq_reads ra rb c.l1 c.l2 (by lia) ⟨.bl _,H,I,rfl,q⟩
theorem yF (hu:X.A.units+64<U1):OpR X (VW .NotEq) (zoF X.K true):=by
 intro pins s σ H x y v u Q I rx ry h;obtain⟨dx,dy,hx,hy,c,q⟩:=h;obtain⟨as,ra⟩:=hx.reads I rx;obtain⟨bs,rb⟩:=hy.reads I ry;have:=c.dp;exact SeqAt.compareNe_reads ra rb c.l1 c.l2 (by lia) ⟨.bl _,H,I,rfl,q⟩
def zp9 (K:X2)(neg:Bool):R2:=fun x y H Q=>∃d ds,Rdv K H x d/\Rdv K H y (.list ds)/\d.canLay0=true/\Wp ds=true/\d.depth<=60/\Q (.bl (if neg then !ds.any (fun z=>WX z d) else ds.any fun z=>WX z d)) H
theorem zcb (hu:X.A.units+64<U1):OpR X (VW .In) (zp9 X.K false):=by
 intro pins s σ H x y v u Q I rx ry h;obtain⟨d,ds,hx,hy,c1,c2,c3,q⟩:=h;obtain⟨as,ra⟩:=hx.reads I rx;obtain⟨bs,rb⟩:=hy.reads I ry;exact SeqAt.in_list_reads rb ra c2 c1 (by lia) ⟨.bl _,H,I,rfl,q⟩
end
def qY (X:Cx)(N:List Str)(scope:Uk)(cl:List (Str×Addr))(C:Addr)(fp:List Addr)(pins:List (Addr×Obj))(s:X8)(H:Hp):Cx where
 prog:=X.prog
 w:=X.w
 K:=X.K
 mg:=X.mg
 base:=X.base
 A:=X.A
 N:=N
 s₀:=s
 H₀:=H
 env:=SQ scope cl C X.env
 outer:=X.stack
 stack:=X.stack
 ex:=fp
 fn:=fun _=>false
 calm:=X.calm
 pn:=X.pn++pins
 xe:=fun _ _=>False
def pull (src:List (Option Nat))(σ:St):St:=src.map fun o=>match o with
 | some j=>(σ[j]?).getD none
 | none=>none
structure zU (X:Cx)(N:List Str)(src:List (Option Nat))(scope:Uk)(cl:List (Str×Addr)):Prop where
 kind:scope.kind=.function
 nocell:∀y∈scope.names,y.2 ≠ .cell
 names:∀y∈scope.names,y.2=.local->scope.names.lookup y.1=some .local
 clos:N8 scope X.env=pure cl
 sub:∀x c,cl.lookup x=some c->X.env.cells.lookup x=some c
 has:∀x,((Ui scope X.env).names.lookup x=some .cell\/(Ui scope X.env).names.lookup x=some .free)->∃c,cl.lookup x=some c
 len:src.length=N.length
 pulls:∀(i j:Nat) (x:Str),N[i]?=some x->src[i]?=some (some j)->X.N[j]?=some x/\(X.env.kindOf x=some .cell\/X.env.kindOf x=some .free)/\((Ui scope X.env).names.lookup x=some .cell\/(Ui scope X.env).names.lookup x=some .free)
theorem zdh {scope:Uk}{env:Env}(nf:∀y∈scope.names,y.2 ≠ .free):(Ui scope env).names=scope.names:=by
 show scope.names.map _=scope.names;refine map_eq_self fun x hx=>?_;obtain⟨n,k⟩:=x;have:(k==NameKind.free)=false:=by simpa using nf _ hx
 simp[this]
theorem zU.plain {X:Cx}{N:List Str}{src:List (Option Nat)}{scope:Uk}(kind:scope.kind=.function)(nocell:∀y∈scope.names,y.2 ≠ .cell)(nofree:∀y∈scope.names,y.2 ≠ .free)
  (names:∀y∈scope.names,y.2=.local->scope.names.lookup y.1=some .local) (len:src.length=N.length) (none:∀o∈src,o=none):zU X N src scope [] where
 kind:=kind
 nocell:=nocell
 names:=names
 clos:=closureFor_none nofree
 sub:=fun x c h=>nomatch h
 has:=fun x h=>by
  rw[zdh nofree] at h;rcases h with h | h
  ·exact absurd rfl (nocell _ (WH h))
  ·exact absurd rfl (nofree _ (WH h))
 len:=len
 pulls:=fun i j x _ h=>by
  have:=none _ (X0 h);cases this
def zkf (X:Cx)(ifs:List Expr)(t:TT):Prop :=
 ∀(pins:List (Addr×Obj)) (s:X8) (σ:St) (H:Hp) (Q:Bool->Hp->Prop),Inv X pins σ H s->t σ H Q ->
  Xg (Xh X.prog X.w) X.A (forIn ifs true fun c r=>if r=true then do let ok <- isTrue c X.env (eval c X.env);pure (Vr ok) else pure (Vr r)) (TP X pins σ Q) X.xe s
def zmE:TT:=fun _ H Q=>Q true H
theorem qN {X:Cx}:zkf X [] zmE:=fun _ _ _ H _ I h=>wpAny_tests_nil ⟨H,I,h⟩
theorem qD {X:Cx}{c:Expr}{t:TT}(h:PT X c t):zkf X [c] t:=fun pins s σ H Q I hq=>wpAny_tests_one (h pins s σ H Q I hq)
def JH (J:It)(g:TG)(tc:TT)(te:TE)(Q:VK)(D:Addr)(σ0:St)(H0:Hp):Prop :=
 ∃W:Nat->Nat->St->Hp->Prop,(∃m,W 0 m σ0 H0)/\∀i m σ' H',W i m σ' H' ->
  (J.stop i H'/\Q (.ref D) H')\/(J.go i H'/\∃N:St->Hp->Prop,(∀ σ'' H'',N σ'' H''->∃m',m'<m/\W (i+1) m' σ'' H'') /\
   ∀x H2,J.yld i H' x H2->g x σ' H2 fun σ2 H3=>tc σ2 H3 fun b H4=>if b=true then te σ2 H4 fun y H5=>∃ys,H5 D=some (.lst ys)/\ys.length<Xz/\N σ2 (upd H5 D (.lst (ys++[y]))) else N σ2 H4)
def zkg (wi:TI)(src:List (Option Nat))(g:TG)(tc:TT)(te:TE):TE:=fun σ H Q=>wi σ H fun J H1=>∀D,H1 D=none->JH J g tc te Q D (pull src σ) (upd H1 D (.lst []))
theorem Un.but {fs ex:List Addr}{H H1:Hp}{h h1 h2:Heap}{C:Addr}(u:Un fs ex H H1 h h1)(hC:h.objs.size<=C)(sb:VL C h1 h2):Un fs ex H H1 h h2:=by
 have ne:∀b o,h.get? b=some o->b≠C:=fun b o e=>Xk (Xn (XO e) hC);refine⟨fun b o e n hb hx=>(sb.2 b (ne b o e)).trans (u.keep b o e n hb hx),fun b o e n hb hx=>?_,u.free,fun b o e hx=>?_,u.tups,u.frzs,u.tbls⟩
 ·obtain⟨sl,q⟩:=u.slot b o e n hb hx;exact⟨sl,(sb.2 b (ne b o e)).trans q⟩
 ·obtain⟨o',q⟩:=u.there b o e hx;exact⟨o',(sb.2 b (ne b o e)).trans q⟩
theorem HOk.but {P:Xd}{w:WP}{H:Hp}{h h':Heap}{C:Addr}(ok:HOk P w H h)(hn:H C=none)(sb:VL C h h'):HOk P w H h':=fun b ob e=>by
 refine(ok b ob e).stay (fun c w' hc q=>(sb.2 c ?_).trans q) (fun _ q=>q) fun _ _ q=>q;rintro rfl;rcases hc with rfl | hc
 ·rw[hn] at e;cases e
 ·rw[hn] at hc;cases hc
section
variable {X:Cx}{tg iter elt:Expr}{ifs:List Expr}{scope:Uk}{pos:Pos}{N:List Str}{src:List (Option Nat)}{cl:List (Str×Addr)}{wi:TI}{g:TG}{tc:TT}{te:TE}
theorem zcc {pins:List (Addr×Obj)}{σ:St}{H:Hp}{s:X8}{fp:List Addr}{h1:Heap}{C:Addr}{tk:Nat}(ok:zU X N src scope cl)(I:Inv X pins σ H s)(hf:∀b∈fp,Q9 X pins H b)(ho:∀b∈fp,∃o,s.heap.get? b=some o)
  (hC:C=s.heap.objs.size+1) (k:∀b u,s.heap.get? b=some u->h1.get? b=some u) (hD:h1.get? s.heap.objs.size=some { cls:=.type "list",data:=.seq #[] }) {m:Str->Option X9} (hn:h1.Ns C m) :
  Inv (qY X N scope cl C fp pins s H) [] (pull src σ) (upd H s.heap.objs.size (.lst [])) { s with heap:=h1,toks:=tk }:=by
 have lt:∀b o,s.heap.get? b=some o->b<s.heap.objs.size:=fun b o e=>XO e;have nC:∀b o,s.heap.get? b=some o->b≠C:=fun b o e=>by rw[hC];exact Xk (WF (lt b o e))
 have nD:∀b o,s.heap.get? b=some o->b≠s.heap.objs.size:=fun b o e=>Xk (lt b o e);have fr:∀b,s.heap.objs.size<=b->H b=none:=fun b hb=>I.hok.fresh hb;have nst:∀b,b≠X.env.locals->b ∉ X.fs->b ∉ frs X.stack:=fun b h1 h2 z=>(XJ.mp (I.stkSub b z)).elim h1 h2;have sub:=ok.sub;refine⟨⟨I.ok.mod,ok.kind,I.ok.glob,I.ok.blt,by rw[show (qY X N scope cl C fp pins s H).env.locals=C from rfl,hC];exact VU _,fun x y c e1 e2=>I.ok.inj x y c (sub x c e1) (sub y c e2),ok.has,(fun x c z _=>nomatch z),I.ok.hd,I.ok.frames,.inl rfl,fun b hb=>?_,I.bs,X5 I.ok.bsz I.sz,fun b o e hb=>?_,fun b hb hz=>?_,I.stack,I.stkFree⟩,
  rfl,I.bare,Un.laid k (XW _) (fr _ (XW _)),⟨m,hn,fun i x v e1 e2 e3=>?_⟩,fun x c e=>?_,?_,fun x c e=>?_,fun p hp=>?_,I.hok.laid k (XW _) ⟨W5 _,[],0,.nil,hD⟩,?_⟩
 ·obtain⟨o,e⟩:=ho b hb;exact⟨nC b o e,fun x c z=>(hf b hb).2.2.2.2.1 x c (sub x c z)⟩
 ·rcases(hf b hb).2.2.2.1 with z | z
  ·exact I.ok.noex b o e z
  ·exact absurd (Xn (XO (I.ok.bs b o e).1) z) (V8 _)
 ·exact nst b (hf b hb).2.1 (hf b hb).2.2.1 hz
 ·have hi:i<src.length:=by
   have:=(XY.mp e2).1;unfold pull at this;rw[Y1] at this;exact this
  unfold pull at e2;rw[XA,X7 hi] at e2;cases q:src[i] with
  | none=>rw[q] at e2;cases e2
  | some j =>
   rw[q] at e2;have e2':(σ[j]?).getD none=some v:=Option.some.inj e2;have e4:σ[j]?=some (some v):=by
    cases z:σ[j]? with
    | none=>rw[z] at e2';cases e2'
    | some o=>rw[z] at e2';exact congrArg some e2'
   obtain⟨p1,p2,p3⟩:=ok.pulls i j x e1 (by rw[X7 hi,q]);obtain⟨m',hn',hl⟩:=I.loc;obtain⟨u,r,l⟩:=hl j x v p1 e4 (by
    rcases p2 with z | z
    ·exact .inr (.inl z)
    ·exact .inr (.inr z))
   refine⟨u,r,.inr ⟨p3,?_⟩⟩;obtain⟨c,hc⟩:=ok.has x p3;refine⟨c,hc,?_⟩;rcases l with ⟨z,_⟩ | ⟨_,c',hc',o,ho',hd'⟩
   ·rcases p2 with y | y<;>rw[z] at y<;>cases y
   ·rw[sub x c hc] at hc';cases hc';exact⟨o,k _ o ho',hd'⟩
 ·obtain⟨v,o,e1,e2⟩:=I.cell x c (sub x c e);exact⟨v,o,k c o e1,e2⟩
 ·show upd H s.heap.objs.size (.lst []) C=none;rw[hC,zh (Vo _)];exact fr _ (VU _)
 ·show upd H s.heap.objs.size (.lst []) c=none;obtain⟨v,o,e1,e2⟩:=I.cell x c (sub x c e);rw[zh (nD c o e1)];exact I.freeC x c (sub x c e)
 ·have hp':p∈X.pn++pins:=by
   have:p∈(X.pn++pins)++[]:=hp;simpa using this
  obtain⟨e1,e2,e3,e4,e5⟩:=I.pin p hp';refine⟨k _ _ e1,?_,nC _ _ e1,nst _ e3 e4,e5⟩;show upd H s.heap.objs.size (.lst []) p.1=none;rw[zh (nD _ _ e1)];exact e2
 ·unfold pull;rw[Y1];exact ok.len
theorem qh (ok:zU X N src scope cl)(hcalm:X.calm=true)(hi:PI X tg iter wi)
  (hg:∀C fp pins s H,PG (qY X N scope cl C fp pins s H) tg g) (hc:∀C fp pins s H,zkf (qY X N scope cl C fp pins s H) ifs tc) (he:∀C fp pins s H,PE (qY X N scope cl C fp pins s H) elt te)
  (hs:∀x,Sx iter X.env x=pure x:=by intro _;rfl):PE X (.ListComp elt [⟨tg,iter,ifs,0⟩] scope pos) (zkg wi src g tc te):=by
 intro pins s σ H Q I h;rw[eval_ListComp];refine Tk (use:=none) rfl hs ok.clos ok.kind ok.names (thn (hi pins s σ H _ I h) fun xv s1 h1=>thn h1 fun itv s2 h2=>?_);obtain⟨it,fp,tn,J,H2,e,I2,T,st2,f2,q2⟩:=h2;subst e;refine Wq (OD ok.nocell (by intro y hy;simp at hy) (fun h₁ hns₁ hsb₁=>?_) ok.kind);dsimp only at hns₁ hsb₁ ⊢;generalize hP:s2.heap.push { cls:=.type "list",dict:=none,data:=.seq ([]:List X9).toArray }=P2 at hns₁ hsb₁ ⊢;have hC:P2.objs.size=s2.heap.objs.size+1:=by rw[<- hP,Vi]
 have k:∀b u,s2.heap.get? b=some u->h₁.get? b=some u:=fun b u e=>by
  have lt:=XO e;exact(hsb₁.2 b (by rw[hC];exact Xk (WF lt))).trans (XZ _ (hP ▸ XZ _ e))
 have hD:h₁.get? s2.heap.objs.size=some { cls:=.type "list",data:=.seq #[] }:=(hsb₁.2 _ (by rw[hC];exact(Vo _).symm)).trans (XZ _ (hP ▸ Xl _ rfl));have ho:∀b∈fp,∃o,s2.heap.get? b=some o:=fun b hb=>let ⟨o,e,_⟩:=T.obj 0 _ st2 b hb;⟨o,e⟩
 obtain⟨W,⟨m0,w0⟩,turn⟩:=q2 s2.heap.objs.size (I2.hok.fresh (XW _));have I0:=zcc (tk:=s2.toks+([]:List (Str×X9)).length) ok I2 f2 ho hC k hD hns₁;have st0:tn 0 h₁:=T.keep 0 _ _ st2 fun b _ o e=>k b o e;have fr0:∀b∈fp,upd H2 s2.heap.objs.size (.lst []) b=none:=fun b hb=>by
  obtain⟨o,e⟩:=ho b hb;rw[zh (Xk (XO e))];exact(f2 b hb).1
 have stat:∀{H':Hp},(∀b∈fp,H' b=none)->∀b∈fp,Q9 (qY X N scope cl P2.objs.size fp pins s2 H2) [] H' b:=fun {H'} hn b hb=>by
  obtain⟨o,e⟩:=ho b hb;have lt:=XO e;refine⟨hn b hb,?_,fun z=>(XJ.mp (I2.stkSub b z)).elim (f2 b hb).2.1 (f2 b hb).2.2.1,.inl hb,fun x c z=>(f2 b hb).2.2.2.2.1 x c (ok.sub x c z),fun p hp=>?_⟩
  ·show b≠P2.objs.size;rw[hC];exact Xk (WF lt)
  ·have hp':p∈X.pn++pins:=by
    have:p∈(X.pn++pins)++[]:=hp;simpa using this
   exact(f2 b hb).2.2.2.2.2 p hp'
 have loop:∀s₃:X8,s₃={ s2 with heap:=h₁,toks:=s2.toks+([]:List (Str×X9)).length } ->
   TJ (Xh X.prog X.w) X.A (.compLoop (.ListComp elt [⟨tg,iter,ifs,0⟩] scope pos) 0 (.ref it) (.ref s2.heap.objs.size) (SQ scope cl P2.objs.size X.env))
    (compPost (Xh X.prog X.w) X.A X.xe none (EP X pins σ Q) (.ref s2.heap.objs.size) P2.objs.size) s₃:=by
  rintro s₃ rfl;refine N1 rfl (fun n s'=>∃i σ' H',Inv (qY X N scope cl P2.objs.size fp pins s2 H2) [] σ' H' s'/\tn i s'.heap/\(∀b∈fp,H' b=none)/\W i n σ' H') ?_ m0 ⟨0,_,_,I0,st0,fr0,w0⟩;rintro n s3 ⟨i,σ3,H3,I3,st3,fr3,w3⟩;show Xg _ X.A ((compTurn (.ListComp elt [⟨tg,iter,ifs,0⟩] scope pos) 0 (.ref it) (.ref s2.heap.objs.size) (SQ scope cl P2.objs.size X.env)).onRaise (fun x=>do noteFrame x (SQ scope cl P2.objs.size X.env);O8 x)) _ _ s3;refine NO ?_;rw[Of];rcases turn i n σ3 H3 w3 with ⟨stop,qn⟩ | ⟨go,N',hN,step⟩
  ·refine ZB (UZ (ZB (thn (T.done (qY X N scope cl P2.objs.size fp pins s2 H2) rfl rfl rfl hcalm i [] s3 σ3 H3 _ I3 (stat fr3) st3 stop) fun r s4 ⟨hr,I4⟩=>?_)));subst hr;refine X6 ?_;obtain⟨m,hm,_⟩:=I4.loc;refine⟨m,hm,fun h' sb=>⟨.ref s2.heap.objs.size,H3,?_,rfl,qn⟩⟩;have un:Un (frs X.stack) fp H2 H3 s2.heap h':=Un.but I4.base (by show s2.heap.objs.size<=P2.objs.size;rw[hC];exact VU _) sb;have hok:HOk X.prog X.w H3 h':=HOk.but I4.hok I4.free sb;exact I2.call' (s':={ s4 with heap:=h' }) (ch:=fp) I4.os un hok I4.bare fun b hb=>⟨(f2 b hb).2.2.2.1,(f2 b hb).2.1,(f2 b hb).2.2.2.2.1,(f2 b hb).2.2.2.2.2⟩
  ·refine ZB (UZ (ZB (thn (T.item (qY X N scope cl P2.objs.size fp pins s2 H2) rfl rfl rfl hcalm i [] s3 σ3 H3 _ I3 (stat fr3) st3 go) fun r s4 ⟨u,hr,h4⟩=>?_)));subst hr;dsimp only;refine ZB (thn h4 fun _ s5 ⟨x,H5,I5,r5,y5,st5,fr5⟩=>?_);have I5':=I5.pinned (stat fr5) (T.obj _ _ st5);refine ZB (Wn (hg P2.objs.size fp pins s2 H2 _ s5 σ3 H5 x u _ I5' r5 (step x H5 y5)) (fun _ s6 ⟨σ6,H6,I6,q6⟩=>?_) fun _ _ z=>Wm z);have Rh:∀{s7:X8} {σ7:St} {H7:Hp},Inv (qY X N scope cl P2.objs.size fp pins s2 H2) ([]++QI fp s5.heap) σ7 H7 s7->N' σ7 H7->∃m,m<n/\∃i σ' H',Inv (qY X N scope cl P2.objs.size fp pins s2 H2) [] σ' H' s7/\tn i s7.heap/\(∀b∈fp,H' b=none)/\W i m σ' H':=fun {s7 σ7 H7} I7 n7=>by
    obtain⟨m',hm,w7⟩:=hN σ7 H7 n7;refine⟨m',hm,i+1,σ7,H7,I7.unpinned,T.keep _ _ _ st5 fun b hb o e=>(I7.pin (b,o) (Xr _ (Xr _ (jR hb e)))).1,fun b hb=>?_,w7⟩;obtain⟨o,e,d⟩:=T.obj _ _ st5 b hb;exact(I7.pin (b,o) (Xr _ (Xr _ (jR hb e)))).2.1
   refine ZB (Wn (hc P2.objs.size fp pins s2 H2 _ s6 σ6 H6 _ I6 q6) (fun b s7 ⟨H7,I7,q7⟩=>?_) fun _ _ z=>Wm z);cases b with
   | false =>
    rw[if_neg XX] at q7;exact X6 ⟨rfl,Rh I7 q7⟩
   | true =>
    rw[if_pos rfl] at q7;refine ZB (ZB (Wn (he P2.objs.size fp pins s2 H2 _ s7 σ6 H7 _ I7 q7) (fun y s8 ⟨v8,H8,I8,r8,ys,hys,hlen,q8⟩=>?_) fun _ _ z=>Wm z));refine ZB (Wn (Y6 (X:=qY X N scope cl P2.objs.size fp pins s2 H2) _ s8 σ6 H8 (.ref s2.heap.objs.size) [v8] (.ref s2.heap.objs.size) [y] (fun _ H9=>N' σ6 H9) I8 rfl (.cons r8 .nil) ⟨_,ys,v8,rfl,rfl,hys,hlen,q8⟩) (fun _ s9 ⟨v9,H9,I9,_,q9⟩=>?_) fun _ _ z=>Wm z);exact X6 (X6 ⟨rfl,Rh I9 q9⟩)
 exact Si (loop _ rfl) (T.self _ 0 _ _ _ st0 (loop _ rfl))
end
section
variable {K:X2}{src:List (Option Nat)}{g:TG}{tc:TT}{te:TE}{Q:VK}{σ:St}{H:Hp}{D:Addr}
theorem qx {a:Addr}{xs:List V}(Pv:Nat->St->Hp->Prop)(h0:Pv 0 σ H)(hl:∀i σ H,i<=xs.length->Pv i σ H->SqL K H a xs)
  (hs:∀i x σ H,xs[i]?=some x->Pv i σ H->g x σ H fun σ2 H3=>tc σ2 H3 fun b H4=>if b=true then te σ2 H4 fun y H5=>∃ys,H5 D=some (.lst ys)/\ys.length<Xz/\Pv (i+1) σ2 (upd H5 D (.lst (ys++[y]))) else Pv (i+1) σ2 H4)
  (hd:∀ σ H,Pv xs.length σ H->Q (.ref D) H):JH (Itl K a) g tc te Q D σ H:=by
 refine⟨fun i m σ H=>m=xs.length-i/\i<=xs.length/\Pv i σ H,⟨xs.length,by simp,W5 _,h0⟩,?_⟩;rintro i m σ H ⟨rfl,hi,p⟩;have q:=hl i σ H hi p;by_cases hlt:i<xs.length
 ·refine .inr ⟨⟨xs,xs[i],q,by simp[hlt]⟩,Pv (i+1),fun σ' H' p'=>⟨xs.length-(i+1),by lia,rfl,hlt,p'⟩,fun x H' y=>?_⟩;obtain⟨e,y⟩:=y;subst e;exact hs i x σ _ (y xs q) p
 ·have e:i=xs.length:=by lia
  subst e;exact .inl ⟨⟨xs,q,XW _⟩,hd σ H p⟩
theorem QJ {lo:Int}{n:Nat}(Pv:Nat->St->Hp->Prop)(h0:Pv 0 σ H)
  (hs:∀i σ H,i<n->Pv i σ H->g (.int (lo+i)) σ H fun σ2 H3=>tc σ2 H3 fun b H4=>if b=true then te σ2 H4 fun y H5=>∃ys,H5 D=some (.lst ys)/\ys.length<Xz/\Pv (i+1) σ2 (upd H5 D (.lst (ys++[y]))) else Pv (i+1) σ2 H4)
  (hd:∀ σ H,Pv n σ H->Q (.ref D) H):JH (Itr lo n) g tc te Q D σ H:=by
 refine⟨fun i m σ H=>m=n-i/\i<=n/\Pv i σ H,⟨n,by simp,W5 _,h0⟩,?_⟩;rintro i m σ H ⟨rfl,hi,p⟩;by_cases hlt:i<n
 ·refine .inr ⟨hlt,Pv (i+1),fun σ' H' p'=>⟨n-(i+1),by lia,rfl,hlt,p'⟩,fun x H' y=>?_⟩;obtain⟨e,y⟩:=y;subst e y;exact hs i σ _ hlt p
 ·have e:i=n:=by lia
  subst e;exact .inl ⟨XW _,hd σ H p⟩
end
theorem zfy {K:X2}{H:Hp}:∀rs:List Str,xq K H (rs.map V.str) (rs.map UA)
 | []=>.nil
 | t::r=>.cons (.str t) (zfy r)
section
variable {X:Cx}{K:X2}
theorem zaU {a:Expr}{ta:TE}(hK:X.K=K)(ha:PE X a ta)(he:∀whole,isTrue a X.env whole=(do let v <- whole;standAt a.pos;N6 [v] (truthy v))) :
  PT X a (fun σ H Q=>ta σ H fun x H'=>∃k,zow K x H' k/\Q k H'):=by
 subst hK;exact xX ha he
theorem zfz (hK:X.K=K)(hu:X.A.units+64<U1):OpR X (VW .Eq) (zoF K false):=by
 subst hK;exact JG hu
theorem jV (hK:X.K=K)(hu:X.A.units+64<U1):OpR X (VW .In) (zp9 K false):=by
 subst hK;exact zcb hu
theorem zeG {es:List Expr}{k:Nat}{t:TGs}{n:Nat}{pos:Pos}(hK:X.K=K)(hc:X.calm=true)(h:PGs X es t)
  (hn:(S9 es X.env).length=n:=by rfl) (hst:(S9 es X.env).findIdx? (·.1)=none:=by rfl):PG X (.Tuple es k pos) (zpP K n t):=by
 subst hK;exact JE hc h hn hst
end
section
variable {fs ch:List Addr}{H:Hp}{h h':Heap}{a:Addr}{o:HO}
theorem Un.laidX (k:∀b u,b ∉ ch->h.get? b=some u->h'.get? b=some u)(hp:h.objs.size<=a)(hn:H a=none):Un fs ch H (upd H a o) h h' where
 keep:=fun b u q _ _ hx=>k b u hx q
 slot:=fun b u q _ _ hx=>⟨u.slots,k b u hx q⟩
 free:=fun b u q n _=>by rw[zh (Xk (Xn (XO q) hp))];exact n
 there:=fun b u q hx=>⟨u,k b u hx q⟩
 tups:=fun b xs q=>by rw[zh (zj q hn)];exact q
 frzs:=fun b u xs q=>by rw[zh (zj q hn)];exact q
 tbls:=fun b ps q=>⟨#[],by rw[zh (zj q hn),q];simp⟩
theorem Un.keptX (k:∀b u,b ∉ ch->h.get? b=some u->h'.get? b=some u):Un fs ch H H h h' :=
 ⟨fun b ob q _ _ hx=>k b ob hx q,fun b ob q _ _ hx=>⟨ob.slots,k b ob hx q⟩,fun _ _ _ n _=>n,fun b ob q hx=>⟨ob,k b ob hx q⟩,fun _ _ q=>q,fun _ _ _ q=>q,fun _ ps q=>⟨#[],by rw[q];simp⟩⟩
theorem HOk.keptX {P:Xd}{w:WP}(x:HOk P w H h)(k:∀b u,b ∉ ch->h.get? b=some u->h'.get? b=some u)(hch:∀b∈ch,H b=none):HOk P w H h':=fun b u e=>by
 refine(x b u e).stay (fun c v hc q=>k c v (fun z=>?_) q) (fun _ q=>q) fun _ _ q=>q;have n:=hch c z;rcases hc with rfl | hc
 ·rw[n] at e;cases e
 ·rw[n] at hc;cases hc
theorem HOk.laidX {P:Xd}{w:WP}(x:HOk P w H h)(k:∀b u,b ∉ ch->h.get? b=some u->h'.get? b=some u)(hch:∀b∈ch,H b=none)(hp:h.objs.size<=a)(new:qM P w (upd H a o) h' a o):HOk P w (upd H a o) h':=fun b u e=>by
 have hn:=x.fresh hp;by_cases hb:b=a
 ·subst hb;rw[zc] at e;cases e;exact new
 ·rw[zh hb] at e;refine(x b u e).stay (fun c v hc q=>k c v (fun z=>?_) q) (fun c q=>by rw[zh (zj q hn)];exact q) fun c xs q=>by rw[zh (zj q hn)];exact q
  have n:=hch c z;rcases hc with rfl | hc
  ·rw[n] at e;cases e
  ·rw[n] at hc;cases hc
end
section
variable {X:Cx}{pins:List (Addr×Obj)}{s:X8}{σ:St}{H:Hp}{E:X9->X8->Prop}{fp wr FP:List Addr}{elts:List Expr}{k:Nat}{pos:Pos}{e:Addr}{n i:Nat}{Pt:Nat->Array X9->Prop}{Sn:Nat->Heap->Prop}{Mid:Nat->Addr->Heap->Prop}{J:It}{tn:Nat->Heap->Prop}
theorem zgW (I:Inv X pins σ H s)(hf:∀b∈fp,Q9 X pins H b)(ho:∀b∈fp,∃o,s.heap.get? b=some o)(hwr:∀b∈wr,b∈fp)(W:WalksT X.prog X.w X.A e FP wr n Pt Sn Mid)(hi:i<n)(st:Sn i s.heap)
  (y:∀T vals,H T=none->Pt i vals->∃vs,Vals vs vals.toList/\vs.length<=Xz/\J.yld i H (.ref T) (upd H T (.tup vs))) (nx:∀h'',Sn (i+1) h''->tn (i+1) h'') :
  Xg (Xh X.prog X.w) X.A (Tb (.ref e)) (fun r s1=>∃u,r=some u /\
   Xg (Xh X.prog X.w) X.A (RR (.Tuple elts k pos) (.ref e) u) (fun _ s2=>∃x H',Inv X pins σ H' s2/\RelV x u/\J.yld i H x H'/\tn (i+1) s2.heap/\∀b∈fp,H' b=none) E s1) E s:=by
 refine W.item i s _ E hi st fun T vals h' tk hP hT0 hT hm kk=>⟨.ref T,rfl,?_⟩;have hn:H T=none:=I.hok.fresh hT0;obtain⟨vs,hv,hl,hy⟩:=y T vals hn hP;refine W.go elts k pos i T { s with heap:=h',toks:=tk } _ E hm fun h'' st'' kk2=>?_;have k2:∀b o,b ∉ wr->s.heap.get? b=some o->h''.get? b=some o:=fun b o hb e=>kk2 b o hb (kk b o hb e);have hTup:NK h'' T vals:=by
  obtain⟨o,e1,c,m,d⟩:=hT;exact⟨o,kk2 T o (W.apart i T _ hm) e1,c,m,d⟩
 have hch:∀b∈wr,H b=none:=fun b hb=>(hf b (hwr b hb)).1;refine⟨.ref T,upd H T (.tup vs),?_,rfl,hy,nx _ st'',fun b hb=>?_⟩
 ·exact I.call' (s':={ s with heap:=h'',toks:=tk }) (ch:=wr) rfl (Un.laidX k2 hT0 hn) (HOk.laidX I.hok k2 hch hT0 ⟨hl,vals.toList,hv,by simpa using hTup⟩) I.bare fun b hb=>let f:=hf b (hwr b hb);⟨f.2.2.2.1,f.2.1,f.2.2.2.2.1,f.2.2.2.2.2⟩
 ·obtain⟨o,e1⟩:=ho b hb;rw[zh (Xk (Xn (XO e1) hT0))];exact(hf b hb).1
theorem zgX (I:Inv X pins σ H s)(hf:∀b∈fp,Q9 X pins H b)(hwr:∀b∈wr,b∈fp)(W:WalksT X.prog X.w X.A e FP wr n Pt Sn Mid)(st:Sn n s.heap) :
  Xg (Xh X.prog X.w) X.A (Tb (.ref e)) (fun r s1=>r=none/\Inv X pins σ H s1) E s :=
 W.done s _ E st fun h' tk kk=>⟨rfl,I.call' (s':={ s with heap:=h',toks:=tk }) (ch:=wr) rfl (Un.keptX kk) (HOk.keptX I.hok kk fun b hb=>(hf b (hwr b hb)).1) I.bare fun b hb=>let f:=hf b (hwr b hb);⟨f.2.2.2.1,f.2.1,f.2.2.2.2.1,f.2.2.2.2.2⟩⟩
end
theorem JI {h:Heap}{b:Addr}{o:Obj}{vs:Array X9}(e:h.get? b=some o)(d:o.data=.fields vs):∃o,h.get? b=some o/\∀v,o.data ≠ .cell v:=⟨o,e,fun v z=>by rw[d] at z;cases z⟩
def Ite (K:X2)(l:Addr):It:=⟨fun i H=>∃xs,SqL K H l xs/\i<xs.length,fun i H x H'=>∃T,x=.ref T/\H T=none/\∀xs,SqL K H l xs->∃v,xs[i]?=some v/\H'=upd H T (.tup [.int i,v]),fun i H=>∃xs,SqL K H l xs/\i=xs.length⟩
theorem zi4 {P:Xd}{w:WP}{K:X2}{elts:List Expr}{k:Nat}{pos:Pos}(e it l:Addr)(hei:e≠it)(hle:l≠e)(hli:l≠it) :
  Turn P w K (.Tuple elts k pos) (Ite K l) [e,it] e (fun i h=>(∃old,IsEnum h e it i old)/\h.IsListIter it l i) where
 mem:=by simp
 obj:=fun i h st b hb=>by
  obtain⟨⟨old,he⟩,o,e2,c,d⟩:=st;rcases XJ.mp hb with rfl | hb
  ·exact JI he rfl
  ·have z:b=it:=by simpa using hb
   subst z;exact JI e2 d
 keep:=fun i h h' st kk=>by
  obtain⟨⟨old,he⟩,o,e2,r⟩:=st;exact⟨⟨old,kk e (by simp) _ he⟩,o,kk it (by simp) o e2,r⟩
 item:=by
  intro X hP hw hK hc i pins s σ H E I hf st hg;subst hP hw hK;obtain⟨xs,hq,hlt⟩:=hg;obtain⟨its,rv,p,hz⟩:=I.list hq;have hl:=rv.length;obtain⟨⟨old,he⟩,o2,e2,c2,d2⟩:=id st;refine zgW (wr:=[e,it]) (J:=Ite X.K l) (tn:=fun i h=>(∃old,IsEnum h e it i old)/\h.IsListIter it l i) I hf (fun b hb=>?_) (fun b hb=>hb) (WalksT.enumerate (I.ok.hd hc) e it l hei hle hli its.toArray) (by simp;lia) ⟨st.1,st.2,p.isList⟩ (fun T vals hn hp=>?_) fun h'' q=>⟨q.1,q.2.1⟩
  ·rcases XJ.mp hb with rfl | hb
   ·exact⟨_,he⟩
   ·have z:b=it:=by simpa using hb
    subst z;exact⟨_,e2⟩
  ·obtain⟨t,x,hx,rfl⟩:=hp;have hx':its[i]?=some x:=by simpa using hx
   obtain⟨u,hu,ru⟩:=rv.get (i:=i) (x:=xs[i]) (by rw[X7 hlt]);rw[hu] at hx';cases hx';exact⟨[.int i,xs[i]],.cons ⟨t,rfl⟩ (.cons ru .nil),(by show 2<=Xz;decide),T,rfl,hn,fun ys hy=>⟨xs[i],by rw[I.list_inj hy hq,X7 hlt],rfl⟩⟩
 done:=by
  intro X hP hw hK hc i pins s σ H E I hf st hg;subst hP hw hK;obtain⟨xs,hq,rfl⟩:=hg;obtain⟨its,rv,p,hz⟩:=I.list hq;have hl:its.toArray.size=xs.length:=by simp[rv.length]
  refine zgX (fp:=[e,it]) (wr:=[e,it]) I hf (fun b hb=>hb) (WalksT.enumerate (I.ok.hd hc) e it l hei hle hli its.toArray) ?_;rw[hl];exact⟨st.1,st.2,p.isList⟩
 self:=fun A i s Q E st h=>by
  obtain⟨⟨old,he⟩,_⟩:=st;exact Sw he h
def zmF (x:Str):It:=⟨fun i _=>i<x.cps.size,fun i H v H'=>∃T c,v=.ref T/\H T=none/\x.cps[i]?=some c/\H'=upd H T (.tup [.int i,.str ⟨#[c]⟩]),fun i _=>i=x.cps.size⟩
theorem zcd {P:Xd}{w:WP}{K:X2}{elts:List Expr}{k:Nat}{pos:Pos}(e it:Addr)(x:Str)(t:Tok)(n:String)(hei:e≠it)
  (D:∀A:WK,A.handled=none->Draws P w A it [it] x.cps.size (fun i v=>∃c u,x.cps[i]?=some c/\v=.str ⟨#[c]⟩ u) (fun i h=>h.IsStrIter it n x t i)) :
  Turn P w K (.Tuple elts k pos) (zmF x) [e,it] e (fun i h=>(∃old,IsEnum h e it i old)/\h.IsStrIter it n x t i) where
 mem:=by simp
 obj:=fun i h st b hb=>by
  obtain⟨⟨old,he⟩,o,e2,c,d⟩:=st;rcases XJ.mp hb with rfl | hb
  ·exact JI he rfl
  ·have z:b=it:=by simpa using hb
   subst z;exact JI e2 d
 keep:=fun i h h' st kk=>by
  obtain⟨⟨old,he⟩,o,e2,r⟩:=st;exact⟨⟨old,kk e (by simp) _ he⟩,o,kk it (by simp) o e2,r⟩
 item:=by
  intro X hP hw hK hc i pins s σ H E I hf st hg;subst hP hw hK;obtain⟨⟨old,he⟩,o2,e2,c2,d2⟩:=id st;refine zgW (wr:=[e,it]) (J:=zmF x) (tn:=fun i h=>(∃old,IsEnum h e it i old)/\h.IsStrIter it n x t i) I hf (fun b hb=>?_) (fun b hb=>hb) (WalksT.enumerateD (D X.A.in1 (I.ok.hd hc)) e hei (by simpa using hei) (by simp)) hg st (fun T vals hn hp=>?_) fun h'' q=>q
  ·rcases XJ.mp hb with rfl | hb
   ·exact⟨_,he⟩
   ·have z:b=it:=by simpa using hb
    subst z;exact⟨_,e2⟩
  ·obtain⟨t',v,⟨c,u,hx,rfl⟩,rfl⟩:=hp;exact⟨[.int i,.str ⟨#[c]⟩],.cons ⟨t',rfl⟩ (.cons ⟨u,rfl⟩ .nil),(by show 2<=Xz;decide),T,c,rfl,hn,hx,rfl⟩
 done:=by
  intro X hP hw hK hc i pins s σ H E I hf st hg;subst hP hw hK;have z:i=x.cps.size:=hg;subst z;exact zgX (fp:=[e,it]) (wr:=[e,it]) I hf (fun b hb=>hb) (WalksT.enumerateD (D X.A.in1 (I.ok.hd hc)) e hei (by simpa using hei) (by simp)) st
 self:=fun A i s Q E st h=>by
  obtain⟨⟨old,he⟩,_⟩:=st;exact Sw he h
def Itz (K:X2)(l1 l2:Addr):It:=⟨fun i H=>∃xs ys,SqL K H l1 xs/\SqL K H l2 ys/\i<xs.length/\i<ys.length,
 fun i H x H'=>∃T,x=.ref T/\H T=none/\∀xs ys,SqL K H l1 xs->SqL K H l2 ys->∃v v',xs[i]?=some v/\ys[i]?=some v'/\H'=upd H T (.tup [v,v']),fun i H=>∃xs ys,SqL K H l1 xs/\SqL K H l2 ys/\i=min xs.length ys.length⟩
theorem zkh {P:Xd}{w:WP}{K:X2}{elts:List Expr}{k:Nat}{pos:Pos}(z TI TO i1 i2 l1 l2:Addr)(D:ZipApart z TI TO i1 i2 l1 l2) :
  Turn P w K (.Tuple elts k pos) (Itz K l1 l2) [z,TI,TO,i1,i2] z (fun i h=>IsZip h z TI TO .none/\IsPair h TI (.ref i1) (.ref i2)/\(∃a b,IsPair h TO a b)/\h.IsListIter i1 l1 i/\h.IsListIter i2 l2 i) where
 mem:=by simp
 obj:=fun i h st b hb=>by
  obtain⟨hz,hTI,⟨a,b',hTO⟩,⟨o1,e1,c1,d1⟩,⟨o2,e2,c2,d2⟩⟩:=st;simp only[XJ,Vn,or_false] at hb;rcases hb with rfl | rfl | rfl | rfl | rfl
  ·exact JI hz rfl
  ·exact⟨_,hTI,fun v q=>by cases q⟩
  ·exact⟨_,hTO,fun v q=>by cases q⟩
  ·exact JI e1 d1
  ·exact JI e2 d2
 keep:=fun i h h' st kk=>by
  obtain⟨hz,hTI,⟨a,b',hTO⟩,⟨o1,e1,r1⟩,⟨o2,e2,r2⟩⟩:=st;exact⟨kk z (by simp) _ hz,kk TI (by simp) _ hTI,⟨a,b',kk TO (by simp) _ hTO⟩,⟨o1,kk i1 (by simp) _ e1,r1⟩,⟨o2,kk i2 (by simp) _ e2,r2⟩⟩
 item:=by
  intro X hP hw hK hc i pins s σ H E I hf st hg;subst hP hw hK;obtain⟨xs,ys,hq1,hq2,hlt1,hlt2⟩:=hg;obtain⟨its1,rv1,p1,hz1⟩:=I.list hq1;obtain⟨its2,rv2,p2,hz2⟩:=I.list hq2;have g1:=rv1.length;have g2:=rv2.length;obtain⟨hz,hTI,⟨a,b',hTO⟩,⟨o1,e1,r1⟩,⟨o2,e2,r2⟩⟩:=id st;refine zgW (wr:=[z,TO,i1,i2]) (J:=Itz X.K l1 l2) (tn:=fun i h=>IsZip h z TI TO .none/\IsPair h TI (.ref i1) (.ref i2)/\(∃a b,IsPair h TO a b)/\h.IsListIter i1 l1 i/\h.IsListIter i2 l2 i) I hf (fun b hb=>?_) (fun b hb=>?_) (WalksT.zip2 (I.ok.hd hc) z TI TO i1 i2 l1 l2 D its1.toArray its2.toArray) (by simp;lia) ⟨st.1,st.2.1,st.2.2.1,st.2.2.2.1,st.2.2.2.2,p1.isList,p2.isList⟩ (fun T vals hn hp=>?_) fun h'' q=>⟨q.1,q.2.1,q.2.2.1,q.2.2.2.1,q.2.2.2.2.1⟩
  ·simp only[XJ,Vn,or_false] at hb;rcases hb with rfl | rfl | rfl | rfl | rfl
   ·exact⟨_,hz⟩
   ·exact⟨_,hTI⟩
   ·exact⟨_,hTO⟩
   ·exact⟨_,e1⟩
   ·exact⟨_,e2⟩
  ·simp only[XJ,Vn,or_false] at hb ⊢;rcases hb with rfl | rfl | rfl | rfl<;>simp
  ·obtain⟨x,y,hx,hy,rfl⟩:=hp;have hx':its1[i]?=some x:=by simpa using hx
   have hy':its2[i]?=some y:=by simpa using hy
   obtain⟨u,hu,ru⟩:=rv1.get (i:=i) (x:=xs[i]) (by rw[X7 hlt1]);obtain⟨u',hu',ru'⟩:=rv2.get (i:=i) (x:=ys[i]) (by rw[X7 hlt2]);rw[hu] at hx';rw[hu'] at hy';cases hx';cases hy';exact⟨[xs[i],ys[i]],.cons ru (.cons ru' .nil),(by show 2<=Xz;decide),T,rfl,hn,fun xs' ys' h1 h2=>⟨xs[i],ys[i],by rw[I.list_inj h1 hq1,X7 hlt1],by rw[I.list_inj h2 hq2,X7 hlt2],rfl⟩⟩
 done:=by
  intro X hP hw hK hc i pins s σ H E I hf st hg;subst hP hw hK;obtain⟨xs,ys,hq1,hq2,rfl⟩:=hg;obtain⟨its1,rv1,p1,hz1⟩:=I.list hq1;obtain⟨its2,rv2,p2,hz2⟩:=I.list hq2;have g1:min its1.toArray.size its2.toArray.size=min xs.length ys.length:=by simp[rv1.length,rv2.length]
  refine zgX (fp:=[z,TI,TO,i1,i2]) (wr:=[z,TO,i1,i2]) I hf (fun b hb=>?_) (WalksT.zip2 (I.ok.hd hc) z TI TO i1 i2 l1 l2 D its1.toArray its2.toArray) ?_
  ·simp only[XJ,Vn,or_false] at hb ⊢;rcases hb with rfl | rfl | rfl | rfl<;>simp
  ·rw[g1];exact⟨st.1,st.2.1,st.2.2.1,st.2.2.2.1,st.2.2.2.2,p1.isList,p2.isList⟩
 self:=fun A i s Q E st h=>wpAny_pyIter_zip st.1 h
section
variable {X:Cx}{elts:List Expr}{k:Nat}{tpos:Pos}
def zoG (K:X2)(ta:TA):TI:=fun σ H R=>ta σ H fun vs H1=>∃l,vs=[.ref l]/\(∃xs,SqL K H1 l xs)/\R (Ite K l) H1
theorem Zk {a:Expr}{ta:TA}{p pos:Pos}(hg:Gl X "enumerate")(hm:X.mg "enumerate"=none)(ha:PA X [a] ta)(hs:WA [a] X.env=[(false,eval a X.env)]:=by rfl):PI X (.Tuple elts k tpos) (.Call (.Name "enumerate" p) [a] [] pos) (zoG X.K ta):=by
 intro pins s σ H R I h;refine Call_ (Yt I hg hm boot_enumerate (VS (thn (ha pos pins s σ H _ I h) fun us s1 ⟨vs,H1,I1,r1,q1⟩=>?_) hs rfl));obtain⟨l,rfl,⟨xs,hq⟩,q⟩:=q1;obtain⟨u,rfl,ru⟩:=vals1 r1;cases ru;obtain⟨its,rv,pl,hz⟩:=I1.list hq;obtain⟨ol,hol,_⟩:=pl.isList;have hlt:=XO hol;refine call_enumerate_list pl.isList fun h' he hit hsz kk=>?_;have I2:Inv X pins σ H1 { s1 with heap:=h' }:=I1.kept (t':=s1.toks) kk;refine Sw he ?_;refine⟨s1.heap.objs.size+1,[s1.heap.objs.size+1,s1.heap.objs.size],_,_,H1,rfl,I2,zi4 (s1.heap.objs.size+1) s1.heap.objs.size l (Vo _) (Xk (WF hlt)) (Xk hlt),⟨⟨_,he⟩,hit⟩,fun b hb=>?_,q⟩;have hb':s1.heap.objs.size<=b:=by
  rcases XJ.mp hb with e | hb
  ·rw[e];exact VU _
  ·have e:b=s1.heap.objs.size:=by simpa using hb
   rw[e];exact XW _
 exact I1.fpOk hb' (I1.hok.fresh hb')
def zoH (ta:TA):TI:=fun σ H R=>ta σ H fun vs H1=>∃z,vs=[.str z]/\R (zmF z) H1
theorem zki {a:Expr}{ta:TA}{p pos:Pos}(hg:Gl X "enumerate")(hm:X.mg "enumerate"=none)(ha:PA X [a] ta)(hs:WA [a] X.env=[(false,eval a X.env)]:=by rfl):PI X (.Tuple elts k tpos) (.Call (.Name "enumerate" p) [a] [] pos) (zoH ta):=by
 intro pins s σ H R I h;refine Call_ (Yt I hg hm boot_enumerate (VS (thn (ha pos pins s σ H _ I h) fun us s1 ⟨vs,H1,I1,r1,q1⟩=>?_) hs rfl));obtain⟨z,rfl,q⟩:=q1;obtain⟨u,rfl,t,rfl⟩:=vals1 r1;refine call_enumerate_str fun h' he hit hsz kk=>?_;have I2:Inv X pins σ H1 { s1 with heap:=h' }:=I1.kept (t':=s1.toks) kk;refine Sw he ?_;have fpk:∀b ∈ [s1.heap.objs.size+1,s1.heap.objs.size],Q9 X pins H1 b:=fun b hb=>by
  have hb':s1.heap.objs.size<=b:=by
   rcases XJ.mp hb with e | hb
   ·rw[e];exact VU _
   ·have e:b=s1.heap.objs.size:=by simpa using hb
    rw[e];exact XW _
  exact I1.fpOk hb' (I1.hok.fresh hb')
 unfold strIterType at hit;by_cases ha:z.cps.all (· < 128)=true
 ·rw[if_pos ha] at hit;exact⟨s1.heap.objs.size+1,[s1.heap.objs.size+1,s1.heap.objs.size],_,_,H1,rfl,I2,zcd (s1.heap.objs.size+1) s1.heap.objs.size z t "str_ascii_iterator" (Vo _) (fun A hA=>Draws.strAscii hA _ z t),⟨⟨_,he⟩,hit⟩,fpk,q⟩
 ·rw[if_neg ha] at hit;exact⟨s1.heap.objs.size+1,[s1.heap.objs.size+1,s1.heap.objs.size],_,_,H1,rfl,I2,zcd (s1.heap.objs.size+1) s1.heap.objs.size z t "str_iterator" (Vo _) (fun A hA=>Draws.strWide hA _ z t),⟨⟨_,he⟩,hit⟩,fpk,q⟩
def zrc (K:X2)(ta:TA):TI:=fun σ H R=>ta σ H fun vs H1=>∃l1 l2,vs=[.ref l1,.ref l2]/\(∃xs,SqL K H1 l1 xs)/\(∃ys,SqL K H1 l2 ys)/\R (Itz K l1 l2) H1
theorem zoI {a b:Expr}{ta:TA}{p pos:Pos}(hg:Gl X "zip")(hm:X.mg "zip"=none)(ha:PA X [a,b] ta)(hs:WA [a,b] X.env=[(false,eval a X.env),(false,eval b X.env)]:=by rfl)(hs2:WA [b] X.env=[(false,eval b X.env)]:=by rfl) :
  PI X (.Tuple elts k tpos) (.Call (.Name "zip" p) [a,b] [] pos) (zrc X.K ta):=by
 intro pins s σ H R I h;refine Call_ (Yt I hg hm boot_zip (VS (thn (ha pos pins s σ H _ I h) fun us s1 ⟨vs,H1,I1,r1,q1⟩=>?_) (by rw[hs,hs2]) (by rw[hs2];rfl)));obtain⟨l1,l2,rfl,⟨xs,hq1⟩,⟨ys,hq2⟩,q⟩:=q1;obtain⟨u,u',rfl,ru,ru'⟩:=vals2 r1;cases ru;cases ru';obtain⟨its1,rv1,p1,hz1⟩:=I1.list hq1;obtain⟨its2,rv2,p2,hz2⟩:=I1.list hq2;obtain⟨o1,ho1,_⟩:=p1.isList;obtain⟨o2,ho2,_⟩:=p2.isList;have lt1:@LT.lt Nat _ l1 s1.heap.objs.size:=XO ho1;have lt2:@LT.lt Nat _ l2 s1.heap.objs.size:=XO ho2;refine call_zip_2 p1.isList p2.isList fun h' hz hTI hTO hi1 hi2 hsz kk=>?_;have I2:Inv X pins σ H1 { s1 with heap:=h' }:=I1.kept (t':=s1.toks) kk;refine wpAny_pyIter_zip hz ?_;generalize hN:s1.heap.objs.size=N at *
 have apart:ZipApart (N+4) (N+2) (N+3) N (N+1) l1 l2:=by
  constructor<;>first
   | exact Xk (by lia)
   | exact UH (by lia)
 refine⟨N+4,[N+4,N+2,N+3,N,N+1],_,_,H1,rfl,I2,zkh (N+4) (N+2) (N+3) N (N+1) l1 l2 apart,⟨hz,hTI,⟨_,_,hTO⟩,hi1,hi2⟩,fun b hb=>?_,q⟩;have hb':s1.heap.objs.size<=b:=by
  rw[hN];simp only[XJ,Vn,or_false] at hb;rcases hb with rfl | rfl | rfl | rfl | rfl<;>lia
 exact I1.fpOk hb' (I1.hok.fresh hb')
theorem ZV:jT X (.type "int") (fun xs H Q=>∃x n,xs=[.str x]/\OL x=some n/\x.length<=640/\Q (.int n) H):=by
 intro pins s σ H xs us Q I r h;obtain⟨x,n,rfl,hn,hl,q⟩:=h;obtain⟨u,rfl,t,rfl⟩:=vals1 r;exact PySem.W.KIN.call_text hn hl ⟨.int n,H,I.tok _,⟨_,rfl⟩,q⟩
end
theorem Zl {K:X2}{l:Addr}{xs:List V}{g:TG}{tb:TS}{D:Ends}{σ:St}{H:Hp}(Pv:Nat->St->Hp->Prop)(h0:Pv 0 σ H)(hl:∀i σ H,i<=xs.length->Pv i σ H->SqL K H l xs)
  (hs:∀i x T σ H,xs[i]?=some x->H T=none->Pv i σ H->g (.ref T) σ (upd H T (.tup [.int i,x])) fun σ2 H2=>tb { D with nx:=Pv (i+1),ct:=Pv (i+1),bk:=D.nx } σ2 H2) (hd:∀ σ H,Pv xs.length σ H->D.nx σ H) :
  ∃W:Nat->Nat->St->Hp->Prop,(∃m,W 0 m σ H)/\∀i m σ H,W i m σ H ->
   ((Ite K l).stop i H/\D.nx σ H)\/((Ite K l).go i H/\∃N:St->Hp->Prop,(∀ σ' H',N σ' H'->∃m',m'<m/\W (i+1) m' σ' H')/\∀x H',(Ite K l).yld i H x H'->g x σ H' fun σ2 H2=>tb { D with nx:=N,ct:=N,bk:=D.nx } σ2 H2):=by
 refine⟨fun i m σ H=>m=xs.length-i/\i<=xs.length/\Pv i σ H,⟨xs.length,by simp,W5 _,h0⟩,?_⟩;rintro i m σ H ⟨rfl,hi,p⟩;have q:=hl i σ H hi p;by_cases hlt:i<xs.length
 ·refine .inr ⟨⟨xs,q,hlt⟩,Pv (i+1),fun σ' H' p'=>⟨xs.length-(i+1),by lia,rfl,hlt,p'⟩,fun x H' y=>?_⟩;obtain⟨T,rfl,hT,y⟩:=y;obtain⟨v,hv,rfl⟩:=y xs q;exact hs i v T σ H hv hT p
 ·have e:i=xs.length:=by lia
  subst e;exact .inl ⟨⟨xs,q,rfl⟩,hd σ H p⟩
theorem zgY {g:TG}{tc:TT}{te:TE}{Q:VK}{σ:St}{H:Hp}{D:Addr}{x:Str}(Pv:Nat->St->Hp->Prop)(h0:Pv 0 σ H)
  (hs:∀i c T σ H,x.cps[i]?=some c->H T=none->Pv i σ H->g (.ref T) σ (upd H T (.tup [.int i,.str ⟨#[c]⟩])) fun σ2 H3=>tc σ2 H3 fun b H4=>if b=true then te σ2 H4 fun y H5=>∃ys,H5 D=some (.lst ys)/\ys.length<Xz/\Pv (i+1) σ2 (upd H5 D (.lst (ys++[y]))) else Pv (i+1) σ2 H4)
  (hd:∀ σ H,Pv x.cps.size σ H->Q (.ref D) H):JH (zmF x) g tc te Q D σ H:=by
 refine⟨fun i m σ H=>m=x.cps.size-i/\i<=x.cps.size/\Pv i σ H,⟨x.cps.size,by simp,W5 _,h0⟩,?_⟩;rintro i m σ H ⟨rfl,hi,p⟩;by_cases hlt:i<x.cps.size
 ·refine .inr ⟨hlt,Pv (i+1),fun σ' H' p'=>⟨x.cps.size-(i+1),by lia,rfl,hlt,p'⟩,fun v H' y=>?_⟩;obtain⟨T,c,rfl,hT,hc,rfl⟩:=y;exact hs i c T σ H hc hT p
 ·have e:i=x.cps.size:=by lia
  subst e;exact .inl ⟨rfl,hd σ H p⟩
def zaV (look:Str->Option Addr):List (Str×Tp)->List (Str×Addr)->List (Str×Addr)
 | [],acc=>acc
 | (n,k)::r,acc=>if k == .free then (match look n with
  | some c=>zaV look r ((n,c)::acc)
  | none=>zaV look r acc) else zaV look r acc
theorem Zm {look:Str->Option Addr}:∀(names:List (Str×Tp)) (acc:List (Str×Addr)) (p:Str×Addr),p∈zaV look names acc->p∈acc\/look p.1=some p.2
 | [],acc,p,h=>.inl h
 | (n,k)::r,acc,p,h=>by
  unfold zaV at h;split at h
  ·cases e:look n with
   | none =>
    rw[e] at h;exact Zm r acc p h
   | some c =>
    rw[e] at h;rcases Zm r _ p h with h | h
    ·rcases XJ.mp h with h | h
     ·subst h;exact .inr e
     ·exact .inl h
    ·exact .inr h
  ·exact Zm r acc p h
theorem Zn {x n:Str}{c:Addr}{acc:List (Str×Addr)}(h:(acc.lookup x).isSome=true\/x=n):(RY x ((n,c)::acc)).isSome=true:=by
 rw[Vm];cases e:x==n with
 | true=>rfl
 | false =>
  rcases h with h | h
  ·exact h
  ·subst h;simp at e
theorem zce {look:Str->Option Addr}{x:Str}(names:List (Str×Tp))(acc:List (Str×Addr))(h:(acc.lookup x).isSome=true\/((x,NameKind.free)∈names/\(look x).isSome=true)):((zaV look names acc).lookup x).isSome=true:=by
 induction names generalizing acc with
 | nil =>
  rcases h with h | h
  ·exact h
  ·cases h.1
 | cons y r ih =>
  obtain⟨n,k⟩:=y;unfold zaV;split
  ·rename_i hk;cases e:look n with
   | none =>
    refine ih acc ?_;rcases h with h | ⟨h,h2⟩
    ·exact .inl h
    ·rcases XJ.mp h with h | h
     ·cases h;rw[e] at h2;cases h2
     ·exact .inr ⟨h,h2⟩
   | some c =>
    refine ih _ ?_;rcases h with h | ⟨h,h2⟩
    ·exact .inl (Zn (.inl h))
    ·rcases XJ.mp h with h | h
     ·cases h;exact .inl (Zn (.inr rfl))
     ·exact .inr ⟨h,h2⟩
  ·rename_i hk;refine ih acc ?_;rcases h with h | ⟨h,h2⟩
   ·exact .inl h
   ·rcases XJ.mp h with h | h
    ·cases h;exact absurd rfl hk
    ·exact .inr ⟨h,h2⟩
theorem Jc {scope:Uk}{env:Env}(h:∀y∈scope.names,y.2=.free->(env.cells.lookup y.1).isSome=true):N8 scope env=pure (zaV (fun x=>env.cells.lookup x) scope.names []):=by
 have go:∀(names:List (Str×Tp)) (acc:List (Str×Addr)),(∀y∈names,y.2=.free->(env.cells.lookup y.1).isSome=true) ->
   (forIn names acc fun x cs=>(match x with
    | (name,kind)=>if (kind == .free)=true then do let a <- cellOf env name;pure (Vr ((name,a)::cs)) else pure (Vr cs):Sem (ForInStep (List (Str×Addr)))))=(pure (zaV (fun x=>env.cells.lookup x) names acc):Sem _):=by
  intro names;induction names with
  | nil=>intro acc _;rfl
  | cons y r ih =>
   intro acc hy;obtain⟨n,k⟩:=y;have hr:∀y∈r,y.2=.free->(env.cells.lookup y.1).isSome=true:=fun y hm=>hy y (XT _ hm);rw[List.forIn_cons];unfold zaV;by_cases hk:(k==NameKind.free)=true
   ·have hk':k=.free:=by simpa using hk
    have hs:=hy (n,k) XS hk';obtain⟨c,hc⟩:=VV.mp hs;have hc':RY n env.cells=some c:=hc;have e1:cellOf env n=pure c:=by
     unfold cellOf;rw[hc']
    simp only[hk,if_true,e1,hc',pure_bind];exact ih _ hr
   ·simp only[hk,WG,if_false,pure_bind];exact ih _ hr
 simp only[N8];exact Eq.trans (congrArg (fun m:Sem (List (Str×Addr))=>m >>= fun cs=>pure cs) (go scope.names [] h)) rfl
theorem yJ {scope:Uk}{env:Env}{x:Str}{k:Tp}(h:(x,k)∈(Ui scope env).names)(hk:k=.cell\/k=.free):(x,UY)∈scope.names\/(x,NameKind.free)∈scope.names:=by
 obtain⟨y,hy,e⟩:=XC.mp h;obtain⟨n,k0⟩:=y;by_cases c:(k0==NameKind.free&&env.scope.kind == .function&&env.kindOf n==some .cell)=true
 ·have e':(if (k0==NameKind.free&&env.scope.kind == .function&&env.kindOf n==some .cell)=true then (n,UY) else (n,k0))=(x,k):=e;rw[if_pos c] at e';cases e';have c1:k0=.free:=by
   have:=(Wg.mp (Wg.mp c).1).1;simpa using this
  subst c1;exact .inr hy
 ·have e':(if (k0==NameKind.free&&env.scope.kind == .function&&env.kindOf n==some .cell)=true then (n,UY) else (n,k0))=(x,k):=e;rw[if_neg c] at e';cases e';rcases hk with rfl | rfl
  ·exact .inl hy
  ·exact .inr hy
theorem zeH {scope:Uk}{env:Env}{x:Str}(hk:env.scope.kind=.function)(ho:env.kindOf x=some .cell)(h:scope.names.lookup x=some .free):(Ui scope env).names.lookup x=some .cell:=by
 have go:∀names:List (Str×Tp),names.lookup x=some .free->(names.map fun (n,k)=>if (k==NameKind.free&&env.scope.kind == .function&&env.kindOf n==some .cell)=true then (n,UY) else (n,k)).lookup x=some .cell:=by
  intro names;induction names with
  | nil=>intro h;cases h
  | cons y r ih =>
   obtain⟨n,k⟩:=y;intro h;show RY x ((if (k==NameKind.free&&env.scope.kind == .function&&env.kindOf n==some .cell)=true then (n,UY) else (n,k))::_)=_;rw[Vm] at h;cases e:x==n with
   | true =>
    rw[e] at h;have hk':k=.free:=Option.some.inj h;have hn:x=n:=by simpa using e
    subst hk' hn;rw[if_pos (by rw[hk,ho];rfl),Vm,beq_self_eq_true]
   | false =>
    rw[e] at h;by_cases c:(k==NameKind.free&&env.scope.kind == .function&&env.kindOf n==some .cell)=true
    ·rw[if_pos c,Vm,e];exact ih h
    ·rw[if_neg c,Vm,e];exact ih h
 exact go scope.names h
theorem zU.free {X:Cx}{N:List Str}{src:List (Option Nat)}{scope:Uk}{O:List (Str×Tp)}{XN:List Str}(hO:X.env.scope.names=O)(hK:X.env.scope.kind=.function)(hC:∃n,X.env.cells=RA n O [])(hX:X.N=XN)
  (kind:scope.kind=.function) (nocell:∀y∈scope.names,y.2 ≠ .cell) (names:∀y∈scope.names,y.2=.local->scope.names.lookup y.1=some .local) (fr:∀y∈scope.names,y.2=.free->O.lookup y.1=some .cell) (len:src.length=N.length)
  (pc:∀q∈N.zip src,q.2=none\/(∃j∈XD XN.length,q.2=some j/\XN[j]?=some q.1/\O.lookup q.1=some .cell/\scope.names.lookup q.1=some .free)):zU X N src scope (zaV (fun x=>X.env.cells.lookup x) scope.names []):=by
 have hs:∀y∈scope.names,y.2=.free->(X.env.cells.lookup y.1).isSome=true:=fun y hy e=>by
  obtain⟨n,hn⟩:=hC;rw[hn];exact Sj O n [] (.inl (fr y hy e))
 refine⟨kind,nocell,names,Jc hs,fun x c h=>?_,fun x h=>?_,len,fun i j x h1 h2=>?_⟩
 ·rcases Zm _ _ _ (WH h) with z | z
  ·cases z
  ·exact z
 ·refine VV.mp (zce _ _ (.inr ?_));have hm:(x,UY)∈scope.names\/(x,NameKind.free)∈scope.names:=by
   rcases h with h | h
   ·exact yJ (WH h) (.inl rfl)
   ·exact yJ (WH h) (.inr rfl)
  rcases hm with hm | hm
  ·exact absurd rfl (nocell _ hm)
  ·exact⟨hm,hs _ hm rfl⟩
 ·have hm:(x,some j)∈N.zip src:=by
   refine X0 (i:=i) ?_;rw[Vq];exact⟨h1,h2⟩
  rcases pc _ hm with z | ⟨j',_,e,e1,e2,e3⟩
  ·cases z
  ·cases e;have ko:X.env.kindOf x=some .cell:=by
    show X.env.scope.names.lookup x=some .cell;rw[hO];exact e2
   exact⟨by rw[hX];exact e1,.inl ko,.inl (zeH hK ko e3)⟩
open PySem PySem.Spec PyProof.Rows PySem.W
section
variable {α β:Type}{R:α->β->Prop}{us us':List α}{cs cs':List β}{i:Nat}{v:α}{c:β}
theorem zaW (h:WV R us cs)(k:WV R us' cs'):WV R (us++us') (cs++cs'):=by
 induction h with
 | nil=>exact k
 | cons q _ ih=>exact .cons q ih
theorem zcf (h:WV R us cs)(e:us[i]?=some v):∃c,cs[i]?=some c/\R v c:=by
 induction h generalizing i with
 | nil=>cases e
 | cons q _ ih =>
  cases i with
  | zero =>
   cases e;exact⟨_,rfl,q⟩
  | succ i=>exact ih (i:=i) e
theorem zkj (h:WV R us cs)(e:v∈us):∃c∈cs,R v c:=by
 induction h with
 | nil=>cases e
 | cons q _ ih =>
  rcases XJ.mp e with rfl | e
  ·exact⟨_,XS,q⟩
  ·obtain⟨c,h,r⟩:=ih e;exact⟨c,XT _ h,r⟩
end
def yd (H:Hp):List V->List (Int×Int)->Prop:=WV fun v p=>∃a,v=V.ref a/\H a=some (.tup [.int p.1,.int p.2])
def lt2 (p q:Int×Int):Bool:=if p.1=q.1 then decide (p.2<q.2) else decide (p.1<q.1)
structure zw (h:Heap)(v:X9)(p:Int×Int):Prop where
 ex:∃a o n t u,v=.ref a/\h.get? a=some o/\o.cls=.type "tuple"/\o.data=.seq #[.int p.1 t,.int p.2 u] n
section
variable {X:Cx}{pins:List (Addr×Obj)}{σ:St}{H:Hp}{s:X8}
theorem yd.pairs (I:Inv X pins σ H s){us:List V}{ps:List (Int×Int)}{its:List X9}(hp:yd H us ps)(r:Vals us its):WV (zw s.heap) its ps:=by
 induction hp generalizing its with
 | nil =>
  cases r;exact .nil
 | cons q _ ih =>
  obtain⟨a,e,h⟩:=q;subst e;cases r with
  | cons r1 r2 =>
   cases r1;refine .cons ?_ (ih r2);obtain⟨items,rv,tp,_⟩:=I.tuple (SqT.of h);obtain⟨u1,u2,rfl,⟨t1,rfl⟩,⟨t2,rfl⟩⟩:=vals2 rv;obtain⟨ob,e1,c1,n,d1⟩:=tp;exact⟨a,ob,n,t1,t2,rfl,e1,c1,d1⟩
end
theorem JJ {h h':Heap}(k:∀b o,h.get? b=some o->h'.get? b=some o):∀{its:List X9} {ps:List (Int×Int)},WV (zw h) its ps->WV (zw h') its ps
 | _,_,.nil=>.nil
 | _,_,.cons ⟨a,o,n,t,u,e,e1,r⟩ tl=>.cons ⟨a,o,n,t,u,e,k _ _ e1,r⟩ (JJ k tl)
theorem ZW {h:Heap}:∀{its:List X9} {ps:List (Int×Int)},WV (zw h) its ps->∃fs:List X9,KatTups h its fs/\fs.length=its.length/\∀v∈fs,∃x t,v=Vu x t
 | _,_,.nil=>⟨[],.nil,rfl,fun _ z=>nomatch z⟩
 | _,_,.cons ⟨a,o,n,t,u,e,e1,c,d⟩ tl=>by
  obtain⟨fs,k,l,q⟩:=ZW tl;subst e;refine⟨.int _ t::fs,KatTups.cons e1 c d rfl k,by simp[l],fun v hv=>?_⟩;rcases XJ.mp hv with rfl | hv
  ·exact⟨_,t,rfl⟩
  ·exact q v hv
section
variable {prog:Xd}{w:WP}{A:WK}{E:X9->X8->Prop}{s:X8}
theorem zia {v v':X9}{p q:Int×Int}{C:Bool->X8->Prop}(hv:zw s.heap v p)(hv':zw s.heap v' q)(h:C (lt2 p q) s):Xg (Xh prog w) A (keyLt' (tuples' true) v v') C E s:=by
 obtain⟨a,o,n,t,u,rfl,e1,c1,d1⟩:=hv;obtain⟨a',o',n',t',u',rfl,e1',c1',d1'⟩:=hv';refine kat_lt e1 d1 e1' d1' ?_;show KatLex prog w A true _ C [(Vu p.1 t,Vu q.1 t'),(Vu p.2 u,Vu q.2 u')] 0 s;unfold lt2 at h;refine kat_cons (SeqAt.EqAt.int_int _ _ _ _ prog w _ _ (kat_go (fun ee=>kat_yes ?_) fun ee=>kat_no ?_))
 ·have e:p.1=q.1:=by simpa using ee
  rw[if_pos e] at h;refine kat_cons (SeqAt.EqAt.int_int _ _ _ _ prog w _ _ (kat_go (fun e2=>kat_yes (kat_nil ?_)) fun e2=>kat_no ?_))
  ·have e3:p.2=q.2:=by simpa using e2
   have e4:decide (p.2<q.2)=false:=decide_eq_false (by lia);rw[e4] at h;exact h
  ·exact kat_one _ _ (lt_int h)
 ·have e:¬ p.1=q.1:=by simpa using ee
  rw[if_neg e] at h;exact oneLt_int h
end
section
variable {X:Cx}
end
section
variable {X:Cx}
theorem zfA:zpR X (zp3 X.K):=by
 intro pins s σ H x y v u Q I rx ry h;obtain⟨p,xs,i,z,rfl,rfl,hq,he,q⟩:=h;cases rx;obtain⟨t,rfl⟩:=ry;obtain⟨its,r,pl,hz⟩:=I.list hq;obtain⟨j,h1,h2,h3,h4,h5⟩:=zbQ he;obtain⟨w,ew,rw'⟩:=r.get h2;have hl:=r.length;have hn:=Yv;have fin:EP X pins σ Q w s:=⟨z,H,I,rw',q⟩;by_cases h0:0<=i
 ·have hj:i.toNat=j:=by
   rw[OQ h0 h5] at h1;exact Option.some.inj h1
  exact wpAny_getItem_list pl.isList h0 (by lia) (by rw[hj];simpa using ew) fin
 ·have hj:(i+(its.toArray.size:Int)).toNat=j:=by
   rw[Pn (by lia) h4] at h1;rw[Xo,<- hl];exact Option.some.inj h1
  exact Pj pl.isList (by lia) (by rw[Xo]<;>lia) (by lia) (by rw[hj];simpa using ew) fin
theorem zfB:∀{ns:List Int} {its:List X9},Vals (ns.map V.int) its->Ou its ns
 | [],_,r=>by cases r;exact .nil
 | n::ns,_,r=>by
  cases r with
  | cons r1 r2 =>
   obtain⟨t,rfl⟩:=r1;exact .cons n t (zfB r2)
theorem zkk (hc:X.calm=true):jT X (.builtin "sum") (fun xs H Q=>∃(l:Addr) (ns:List Int),xs=[.ref l]/\SqL X.K H l (ns.map V.int)/\Q (.int ns.sum) H):=by
 intro pins s σ H xs us Q I r h;obtain⟨l,ns,rfl,hq,q⟩:=h;obtain⟨u,rfl,ru⟩:=vals1 r;cases ru;obtain⟨its,rv,pl,hz⟩:=I.list hq;have hi:Ou its ns:=zfB rv;obtain⟨ys,ey⟩:=hi.allInts.items;refine sum_intListG (I.ok.hd hc) (xs:=ys) (ey ▸ pl.isList) fun h' tk t' hk=>?_;have f1:ns=ys.toList.map (·.1):=by
  rw[<- nums_intItems,<- ey];exact(show numsOf its.toArray.toList=ns from hi.numsOf).symm
 have f2:preSum (numAt ys) ys.size=ns.sum:=by
  rw[f1,preSum_eq,Ww (by simp)]
 rw[f2];exact⟨.int _,H,I.kept hk,⟨_,rfl⟩,q⟩
theorem zi5 {bs:List Bool}{its:List X9}(r:Vals (bs.map V.bl) its){i:Nat}{v:X9}(e:its[i]?=some v):∃b,bs[i]?=some b/\v=.bool b:=by
 have hl:=r.length;rw[Y1] at hl;have hi:i<bs.length:=by
  have:=(XY.mp e).1;lia
 obtain⟨u,hu,ru⟩:=r.get (i:=i) (x:=.bl bs[i]) (by rw[XA,X7 hi];rfl);rw[hu] at e;cases e;exact⟨bs[i],X7 hi,ru⟩
theorem zfC (hc:X.calm=true):jT X (.builtin "any") (fun xs H Q=>∃(l:Addr) (bs:List Bool),xs=[.ref l]/\SqL X.K H l (bs.map V.bl)/\Q (.bl (bs.any id)) H):=by
 intro pins s σ H xs us Q I r h;obtain⟨l,bs,rfl,hq,q⟩:=h;obtain⟨u,rfl,ru⟩:=vals1 r;cases ru;obtain⟨its,rv,pl,hz⟩:=I.list hq;have hl:=pl.isList;have hlt:l<s.heap.objs.size:=let ⟨_,he,_⟩:=hl;XO he
 have hln:=rv.length;rw[Y1] at hln;refine call_any_walk (Sy hl ?_);refine⟨s.heap.objs.size,[s.heap.objs.size,l],[s.heap.objs.size],its.toArray.size,_,_,fun i=>(bs[i]?).getD false,rfl,Walks.list (A:=X.A.in1) (I.ok.hd hc) _ l (Xk hlt) its.toArray,
  ⟨⟨_,Xl _ rfl,rfl,rfl⟩,hl.push _⟩,fun i v s' Q' E' hP hQ=>?_,fun h' tk hk=>?_⟩
 ·obtain⟨b,eb,rfl⟩:=zi5 rv (i:=i) (v:=v) (by simpa using hP);simp only[eb,TC] at hQ;exact VA hQ
 ·have e:((XD its.toArray.size).any fun i=>(bs[i]?).getD false)=bs.any id:=by
   rw[Xo,<- hln];exact LSm.range_any bs
  rw[e];exact⟨.bl _,H,I.kept (LSm.kept_iter hk),rfl,q⟩
end
mutual
inductive Rdn (N:Addr->Prop)(H:Hp):V->We->Prop
 | non:Rdn N H .non .none
 | bl (b:Bool):Rdn N H (.bl b) (.bool b)
 | int (i:Int):Rdn N H (.int i) (.int i)
 | str (x:Str):Rdn N H (.str x) (.str x)
 | lst {a:Addr} {xs:List V} {ds:List We}:N a->H a=some (.lst xs)->zD N H xs ds->Rdn N H (.ref a) (.list ds)
 | tup {a:Addr} {xs:List V} {ds:List We}:H a=some (.tup xs)->zD N H xs ds->Rdn N H (.ref a) (.tuple ds)
inductive zD (N:Addr->Prop)(H:Hp):List V->List We->Prop
 | nil:zD N H [] []
 | cons {x:V} {d:We} {xs:List V} {ds:List We}:Rdn N H x d->zD N H xs ds->zD N H (x::xs) (d::ds)
end
section
variable {K:X2}{N N':Addr->Prop}{H H':Hp}
theorem Rdn.rdv {v:V}{d:We}(h:Rdn N H v d):Rdv K H v d :=
 Rdn.rec (motive_1:=fun v d _=>Rdv K H v d) (motive_2:=fun vs ds _=>xq K H vs ds) .non .bl .int .str (fun _ h _ t=>.lst (SqL.of h) t) (fun h _ t=>.tup (SqT.of h) t) .nil (fun _ _ a t=>.cons a t) h
theorem zD.rdv {vs:List V}{ds:List We}(h:zD N H vs ds):xq K H vs ds :=
 zD.rec (motive_1:=fun v d _=>Rdv K H v d) (motive_2:=fun vs ds _=>xq K H vs ds) .non .bl .int .str (fun _ h _ t=>.lst (SqL.of h) t) (fun h _ t=>.tup (SqT.of h) t) .nil (fun _ _ a t=>.cons a t) h
theorem Rdn.mono (s:zu H H')(i:∀a,N a->N' a){v:V}{d:We}(h:Rdn N H v d):Rdn N' H' v d :=
 Rdn.rec (motive_1:=fun v d _=>Rdn N' H' v d) (motive_2:=fun vs ds _=>zD N' H' vs ds) .non .bl .int .str (fun n h _ t=>.lst (i _ n) (s _ _ h) t) (fun h _ t=>.tup (s _ _ h) t) .nil (fun _ _ a t=>.cons a t) h
theorem zD.mono (s:zu H H')(i:∀a,N a->N' a){vs:List V}{ds:List We}(h:zD N H vs ds):zD N' H' vs ds :=
 zD.rec (motive_1:=fun v d _=>Rdn N' H' v d) (motive_2:=fun vs ds _=>zD N' H' vs ds) .non .bl .int .str (fun n h _ t=>.lst (i _ n) (s _ _ h) t) (fun h _ t=>.tup (s _ _ h) t) .nil (fun _ _ a t=>.cons a t) h
theorem zD.into {D:Addr}{o:HO}{old:List V}(hD:H D=some (.lst old))(i:∀a,N a->a≠D){vs:List V}{ds:List We}(h:zD N H vs ds):zD N (upd H D o) vs ds :=
 zD.rec (motive_1:=fun v d _=>Rdn N (upd H D o) v d) (motive_2:=fun vs ds _=>zD N (upd H D o) vs ds) .non .bl .int .str (fun n h _ t=>.lst n (by rw[zh (i _ n)];exact h) t) (fun h _ t=>.tup (by rw[zh (zdz h hD (by intro z;cases z))];exact h) t) .nil (fun _ _ a t=>.cons a t) h
theorem Rdn.keep (s:zu H H'){v:V}{d:We}(h:Rdn N H v d):Rdn N H' v d:=h.mono s fun _ n=>n
theorem zD.keep (s:zu H H'){vs:List V}{ds:List We}(h:zD N H vs ds):zD N H' vs ds:=h.mono s fun _ n=>n
theorem zD.append {vs ws:List V}{ds es:List We}(h:zD N H vs ds)(k:zD N H ws es):zD N H (vs++ws) (ds++es) :=
 zD.rec (motive_1:=fun _ _ _=>True) (motive_2:=fun vs ds _=>zD N H (vs++ws) (ds++es))
  trivial (fun _=>trivial) (fun _=>trivial) (fun _=>trivial) (fun _ _ _ _=>trivial) (fun _ _ _=>trivial) k (fun a _ _ t=>.cons a t) h
theorem zD.snoc {vs:List V}{ds:List We}{v:V}{d:We}(h:zD N H vs ds)(k:Rdn N H v d):zD N H (vs++[v]) (ds++[d]):=h.append (.cons k .nil)
theorem zD.paired {vs:List V}{ds:List We}(h:zD N H vs ds):WV (Rdn N H) vs ds :=
 zD.rec (motive_1:=fun _ _ _=>True) (motive_2:=fun vs ds _=>WV (Rdn N H) vs ds)
  trivial (fun _=>trivial) (fun _=>trivial) (fun _=>trivial) (fun _ _ _ _=>trivial) (fun _ _ _=>trivial) .nil (fun a _ _ t=>.cons a t) h
theorem zD.length {vs:List V}{ds:List We}(h:zD N H vs ds):vs.length=ds.length:=Paired.length h.paired
theorem zD.get {vs:List V}{ds:List We}{i:Nat}{v:V}(h:zD N H vs ds)(e:vs[i]?=some v):∃d,ds[i]?=some d/\Rdn N H v d:=zcf h.paired e
end
section
variable {K:X2}{g:TG}{tc:TT}{te:TE}{Q:VK}{σ0:St}{H1:Hp}{D:Addr}
def zmG (N:Addr->Prop)(inv:St->Prop)(H:Hp)(o:Option We)(Y:St->V->Hp->Prop):Prop:=∀d y σ2 H5,o=some d->inv σ2->zu H H5->Rdn N H5 y d->Y σ2 y H5
def zoJ (inv:St->Prop)(H:Hp)(o:Option We)(Z:St->Hp->Prop):Prop:=∀ σ2 H4,o=none->inv σ2->zu H H4->Z σ2 H4
theorem qU {a:Addr}{xs:List V}(N:Addr->Prop)(outs:List (Option We))(inv:St->Prop)(hD:H1 D=none)(hN:∀a,N a->a≠D)(h0:inv σ0)(hlen:outs.length=xs.length)(hz:xs.length<=100000)
  (hl:SqL K H1 a xs)
  (hs:∀(i:Nat) (x:V) (o:Option We) (σ:St) (H:Hp),xs[i]?=some x->outs[i]?=some o->zu H1 H->H D≠none->inv σ->∀Y Z,zmG N inv H o Y->zoJ inv H o Z ->
   g x σ H fun σ2 H3=>tc σ2 H3 fun b H4=>if b=true then te σ2 H4 fun y H5=>Y σ2 y H5 else Z σ2 H4)
  (hd:∀ys H',zu H1 H'->H' D=some (.lst ys)->zD N H' ys (outs.filterMap id)->Q (.ref D) H'):JH (Itl K a) g tc te Q D σ0 (upd H1 D (.lst [])):=by
 refine qx (K:=K) (a:=a) (xs:=xs) (fun i σ H'=>inv σ/\zu H1 H'/\∃ys,H' D=some (.lst ys)/\ys.length<=i/\zD N H' ys ((outs.take i).filterMap id)) ⟨h0,ze hD,[],zc,XW _,.nil⟩ (fun i σ H' _ ⟨_,s,_⟩=>s.seq hl) ?_ ?_
 ·rintro i x σ H hx ⟨hi,s,ys,hy,yl,hr⟩;have hil:i<xs.length:=(XY.mp hx).1;obtain⟨o,ho⟩:∃o,outs[i]?=some o:=⟨outs[i]'(by lia),X7 (by lia)⟩;have step:(outs.take (i+1)).filterMap id=(outs.take i).filterMap id++o.toList:=by
   rw[Xu,ho,List.filterMap_append];cases o<;>rfl
  refine hs i x o σ H hx ho s (by rw[hy];exact fun z=>nomatch z) hi _ _ (fun d y σ2 H5 e hi2 s5 hr5=>?_) (fun σ2 H4 e hi2 s4=>?_)
  ·subst e;refine⟨ys,s5 _ _ hy,XF yl (Xn hil (X5 hz (by decide))),hi2,fun b ob e=>?_,ys++[y],zc,?_,?_⟩
   ·rw[zh (zj e hD)];exact s5 _ _ (s _ _ e)
   ·rw[XU];exact OC yl 1
   ·rw[step];exact zD.into (s5 _ _ hy) hN (zD.snoc (hr.keep s5) hr5)
  ·subst e;refine⟨hi2,s.trans s4,ys,s4 _ _ hy,TZ yl,?_⟩;rw[step];simpa using hr.keep s4
 ·rintro σ H ⟨_,s,ys,hy,_,hr⟩;rw[<- hlen,Xw] at hr;exact hd ys H s hy hr
theorem zgZ {a:Addr}{xs:List V}(Pv:Nat->St->Hp->Prop){H:Hp}(h0:Pv 0 σ0 H)(hl:∀i σ H,i<=xs.length->Pv i σ H->SqL K H a xs)
  (hs:∀i x T σ H,xs[i]?=some x->H T=none->Pv i σ H->g (.ref T) σ (upd H T (.tup [.int i,x])) fun σ2 H3=>tc σ2 H3 fun b H4=>if b=true then te σ2 H4 fun y H5=>∃ys,H5 D=some (.lst ys)/\ys.length<Xz/\Pv (i+1) σ2 (upd H5 D (.lst (ys++[y]))) else Pv (i+1) σ2 H4)
  (hd:∀ σ H,Pv xs.length σ H->Q (.ref D) H):JH (Ite K a) g tc te Q D σ0 H:=by
 refine⟨fun i m σ H=>m=xs.length-i/\i<=xs.length/\Pv i σ H,⟨xs.length,by simp,W5 _,h0⟩,?_⟩;rintro i m σ H ⟨rfl,hi,p⟩;have q:=hl i σ H hi p;by_cases hlt:i<xs.length
 ·refine .inr ⟨⟨xs,q,hlt⟩,Pv (i+1),fun σ' H' p'=>⟨xs.length-(i+1),by lia,rfl,hlt,p'⟩,fun x H' y=>?_⟩;obtain⟨T,rfl,hT,y⟩:=y;obtain⟨v,hv,rfl⟩:=y xs q;exact hs i v T σ H hv hT p
 ·have e:i=xs.length:=by lia
  subst e;exact .inl ⟨⟨xs,q,rfl⟩,hd σ H p⟩
theorem J1 {i:Nat}{v:V}{σ:St}{H:Hp}{A B:St->Hp->Prop}(h:A (σ.set i (some v)) H):Jf i v σ H fun σ2 H3=>zmE σ2 H3 fun b H4=>if b=true then A σ2 H4 else B σ2 H4:=by
 show if true=true then A (σ.set i (some v)) H else B (σ.set i (some v)) H
 exact Qm h
end
def Jh:List X9:=[.type "ValueError",.type "Exception",.type "BaseException",.type "object"]
structure Fly (P:Xd)(w:WP)(outer:List Env)(H:Hp)(s:X8)(e C:Addr)(a0:X9)(B:Heap)(H':Hp)(s':X8):Prop where
 fly:N0 B outer e (.ref C) a0 s'.heap
 os:s'.os=s.os
 bare:R6 s'.gens
 un:Un (frs outer) [] H H' s.heap s'.heap
 ok:HOk P w H' B
 kB:∀b o,s.heap.get? b=some o->H b=none->b ∉ frs outer->B.get? b=some o
 tB:∀b o,s.heap.get? b=some o->b ∉ frs outer->∃o',B.get? b=some o'
 new:s.heap.get? e=none
 free:H' e=none
def CXE (P:Xd)(w:WP):CXT:=fun outer H s E x s'=>∃(e C:Addr) (a0:X9) (B:Heap) (H':Hp),x=.ref e/\Fly P w outer H s e C a0 B H' s'/\E (.ref C) none H'
theorem zkl {P:Xd}{w:WP}{H:Hp}{h:Heap}{a:Addr}:∀{o:HO},qM P w H h a o->∃ob,h.get? a=some ob
 | .lst _,x=>by obtain⟨_,_,_,_,q⟩:=x;exact⟨_,q⟩
 | .tup _,x=>by obtain⟨_,_,_,ob,q,_⟩:=x;exact⟨ob,q⟩
 | .dK _,x=>by obtain⟨_,_,_,_,ob,_,_,q,_⟩:=x;exact⟨ob,q⟩
 | .dT _,x=>by obtain⟨_,_,_,_,ob,_,_,q,_⟩:=x;exact⟨ob,q⟩
 | .set _ _,x=>by obtain⟨ob,_,_,_,q,_⟩:=x;exact⟨ob,q⟩
 | .ins _ _ _,x=>by obtain⟨_,_,_,q,_⟩:=x;exact⟨_,q⟩
 | .own _,x=>x
 | .xd _,x=>by obtain⟨_,⟨ob,_,_,q,_⟩,_⟩:=x;exact⟨ob,q⟩
 | .met _ _,x=>⟨_,x⟩
 | .rng _ _,x=>by obtain⟨_,_,_,q⟩:=x;exact⟨_,q⟩
 | .frz _ _,x=>⟨_,x.1⟩
 | .tbl _,x=>⟨_,x⟩
 | .ext _,x=>x.2.1
section
variable {X:Cx}{pins:List (Addr×Obj)}{σ:St}{H H':Hp}{s s':X8}{e C:Addr}{a0:X9}{B h2:Heap}
theorem Inv.notLoc (I:Inv X pins σ H s){b:Addr}{o:Obj}(q:X.s₀.heap.get? b=some o):b≠X.env.locals:=fun z=>V8 _ (Xn (z ▸ XO q) I.ok.above)
theorem Inv.notStk (I:Inv X pins σ H s){b:Addr}{o:Obj}(q:X.s₀.heap.get? b=some o)(hb:b ∉ X.fs):b ∉ frs X.stack:=fun z=>by
 rcases XJ.mp (I.stkSub b z) with r | r
 ·exact I.notLoc q r
 ·exact hb r
theorem Inv.flies (I:Inv X pins σ H s)(hex:X.ex=[])(F:N0 B X.outer e (.ref C) a0 h2)(up:s'.heap.UpToSlots h2)(os:s'.os=s.os)(bare:R6 s'.gens)(un:Un (frs X.stack) [] H H' s.heap s'.heap)(ok:HOk X.prog X.w H' B)
  (kB:∀b o,s.heap.get? b=some o->H b=none->b ∉ frs X.stack->B.get? b=some o) (tB:∀b o,s.heap.get? b=some o->b ∉ frs X.stack->∃o',B.get? b=some o') (new:s.heap.get? e=none) (free:H' e=none) :
  Fly X.prog X.w X.outer X.H₀ X.s₀ e C a0 B H' { s' with heap:=h2 }:=by
 have nx:∀b,b ∉ X.ex:=fun b z=>by rw[hex] at z;cases z
 have keep:∀b o,X.s₀.heap.get? b=some o->X.H₀ b=none->b ∉ X.fs->B.get? b=some o:=fun b o q n hb =>
  kB b o (I.base.keep b o q n hb (nx b)) (I.base.free b o q n (nx b)) (I.notStk q hb)
 have there:∀b o,X.s₀.heap.get? b=some o->b ∉ X.fs->∃o',B.get? b=some o':=fun b o q hb=>by
  obtain⟨o',q'⟩:=I.base.there b o q (nx b);exact tB b o' q' (I.notStk q hb)
 have slot:∀b o,X.s₀.heap.get? b=some o->b∈X.fs->∃sl,h2.get? b=some { o with slots:=sl }:=fun b o q hb=>by
  obtain⟨_,o1,q1,nf⟩:=I.ok.funs.mem hb;rw[q] at q1;cases q1;obtain⟨sl,q2⟩:=I.base.slot b o q (I.ok.frf b hb) hb (nx b);obtain⟨sl2,q3⟩:=un.any q2 (I.base.free b o q (I.ok.frf b hb) (nx b)) (fun z=>nomatch z);obtain⟨sl3,q4⟩:=up b _ q3 nf;exact⟨sl3,q4⟩
 refine⟨F,os.trans I.os,bare,⟨fun b o q n hb _=>F.1 b o (keep b o q n hb),fun b o q _ hb _=>slot b o q hb,fun b o q n _=>?_,fun b o q _=>?_,fun b xs q=>un.tups b xs (I.base.tups b xs q),fun b o u q=>un.frzs b o u (I.base.frzs b o u q),fun b ps q=>?_⟩,ok,keep,there,?_,free⟩
 ·obtain⟨o',q'⟩:=I.base.there b o q (nx b);exact un.free b o' q' (I.base.free b o q n (nx b)) fun z=>nomatch z
 ·by_cases hb:b∈X.fs
  ·obtain⟨sl,r⟩:=slot b o q hb;exact⟨_,r⟩
  ·obtain⟨o',r⟩:=there b o q hb;exact⟨o',F.1 b o' r⟩
 ·obtain⟨m1,r1⟩:=I.base.tbls b ps q;obtain⟨m2,r2⟩:=un.tbls b _ r1;exact⟨m1++m2,by rw[r2,Array.append_assoc]⟩
 ·cases q:X.s₀.heap.get? e with
  | none=>rfl
  | some o =>
   obtain⟨o',q'⟩:=I.base.there e o q (nx e);rw[new] at q';cases q'
structure Yw (X:Cx)(E:XK):Prop where
 stk:X.stack=X.env::X.outer
 fr:X.env.frame=some X.env.locals
 ex:X.ex=[]
 xe:X.xe=fun x s'=>Xg (Xh X.prog X.w) X.A (leaving X.env x) (fun _ s''=>CXE X.prog X.w X.outer X.H₀ X.s₀ E x s'') (fun x' s''=>CXE X.prog X.w X.outer X.H₀ X.s₀ E x' s'') s'
theorem zaX {P:Xd}{w:WP}{K:X2}{mg:Str->Option X9}{base:Heap}{N:List Str}{qual:Str}{scope:Uk}{f:Addr}{cd:X9}{A:WK}{outer:List Env}{s:X8}{H:Hp}{E:XK} :
  Yw (zft (CXE P w) P w K mg base N qual scope f cd A outer s H E) E:=⟨rfl,rfl,rfl,rfl⟩
theorem zoK {l:List Env}:∀env∈l,∀a,env.frame=some a->a∈frs l:=fun env he a hf=>S5.mpr ⟨env,he,hf⟩
theorem Yw.made {E:XK}(L:Yw X E)(I:Inv X pins σ H s){h1:Heap}{vs:List X9}(hx:Heap.MadeExcOf s.heap h1 e (.ref C) vs)(hE:E (.ref C) none H):X.xe (.ref e) { s with heap:=h1 }:=by
 rw[L.xe];have hs:=I.stack;have nb:∀a o,H a=some o->a ∉ frs X.stack:=fun a o q z=>by
  rw[I.stkFree a z] at q;cases q
 have own:∀a b,H b=some (.own a)->b ∉ frs X.stack:=fun a b q=>nb b _ q;have fresh:H e=none:=by
  cases q:H e with
  | none=>rfl
  | some o =>
   obtain⟨o',q'⟩:∃o',s.heap.get? e=some o':=by
    exact zkl (I.hok e o q)
   rw[hx.new] at q';cases q'
 refine wpAny_leaves_madeW (base:=PySem.W.hideAll s.heap (frs X.stack)) (L:=X.env.locals) (by rw[I.ok.frames,L.stk]) L.fr (fun b o q=>PySem.W.of_hideAll _ q) (PySem.W.funFrames_hide (by rw[<- L.stk];exact hs) (by rw[<- L.stk];exact zoK)) hx fun h' t x1 x2 x3 x4=>?_;refine⟨e,C,_,_,H,rfl,I.flies (s':={ s with heap:=h1 }) L.ex x1 x4 rfl I.bare (Un.kept hx.keeps) ?_ (fun b o q _ hb=>Tu _ q hb) (fun b o q hb=>⟨o,Tu _ q hb⟩) hx.new fresh,hE⟩;exact fun a o q=>(I.hok a o q).stay (fun b u hb r=>Tu _ r (by
  rcases hb with hb | hb
  ·rw[hb];exact nb a o q
  ·exact own a b hb)) (fun _ r=>r) fun _ _ r=>r
theorem Yw.passes {E:XK}(L:Yw X E):Passes (CXE X.prog X.w) X E:=by
 intro pins σ H s x s' I h;obtain⟨e,C,a0,B,H',rfl,F,hE⟩:=h;rw[L.xe];have ff:=F.fly;rw[L.stk] at ff;refine wpAny_leaves_onW (by rw[I.ok.frames,L.stk]) L.fr ff fun h2 x1 x2=>?_;exact⟨e,C,a0,B,H',rfl,I.flies L.ex x1 x2 F.os F.bare F.un F.ok F.kB F.tB F.new F.free,hE⟩
end
structure qF (K:X2)(mg:Str->Option X9)(x:Str)(C:Addr):Prop where
 g:mg x=some (.ref C)
 q:WC K C Jh "ValueError.__new__"=true
structure znN (h:Heap)(C:Addr)(bm:List X9):Prop where
 ex:∃N nm qn bs hdct sn sub ab col dd k0 k1 k2 k3 k5 mN,h.get? C=some (excClassObj nm qn C N bs bm hdct sn sub ab col dd k0 k1 k2 k3 k5 "ValueError.__new__")/\h.Ns N mN/\mN "__init__"=none
 tl:OwnTail h Jh bm
theorem znO {K:X2}{h:Heap}{C:Addr}(kin:K.In h)(hq:WC K C Jh "ValueError.__new__"=true):∃bm,znN h C bm:=by
 unfold WC at hq;split at hq
 ·rename_i dd cd sl look;split at hq
  ·rename_i C' bm k0 k1 k2 k3 n k5 em es;simp only[Wa,beq_iff_eq,WE] at hq;obtain⟨⟨⟨⟨⟨rfl,rfl⟩,nodel⟩,tailok⟩,nsok⟩,noinit⟩:=hq;obtain⟨nm,bs,mro,ns,qn,hd,sn,sub,ab,col,del⟩:=cd;dsimp only at em nodel nsok noinit;subst em nodel;have esl:sl=#[k0,k1,k2,k3,some (.builtin "ValueError.__new__"),k5]:=by
    obtain⟨l⟩:=sl;simp only at es;rw[es]
   subst esl;exact⟨bm,⟨ns,nm,qn,bs,hd,sn,sub,ab,col,dd,k0,k1,k2,k3,k5,_,kin _ _ look,.of_isNs (PySem.W.isNs_of_in kin nsok),PySem.W.nsMap_none_of_in kin nsok noinit⟩,PySem.W.tail_of_in kin tailok⟩
  ·cases hq
 ·cases hq
section
variable {X:Cx}
def zoL (E:XK)(C:Addr)(t:TA):TS:=fun _ σ H=>t σ H fun vs H1=>vs.length<=Xz/\E (.ref C) none H1
theorem zkm {x:Str}{C:Addr}{np cpos pos:Pos}{e0:Expr}{rest:List Expr}{t:TA}{E:XK}(L:Yw X E)(O:qF X.K X.mg x C)(hg:Gl X x)(hc:X.calm=true)(ha:PA X (e0::rest) t)
  (he:WA (e0::rest) X.env=(false,eval e0 X.env)::WA rest X.env:=by rfl) (hp:(SR cpos (WA rest X.env)).any (·.1)=false:=by rfl) (hdb:(x==("__debug__":Str))=false:=by decide) :
  PS X (.Raise (some (.Call (.Name x np) (e0::rest) [] cpos)) none pos) (zoL E C t):=by
 intro pins s σ H D I h;obtain⟨bm,⟨N,nm,qn,bs,hdct,sn,sub,ab,col,dd,k0,k1,k2,k3,k5,mN,hC,hN,hni⟩,T⟩:=znO I.ok.mod.kin O.q;refine wpAny_Raise_call_subU (C:=C) (nm:=nm) (q:=qn) (N:=N) (bs:=bs) (bm:=bm) (hdct:=hdct) (sn:=sn) (sub:=sub) (ab:=ab) (col:=col) (dd:=dd) (k0:=k0) (k1:=k1) (k2:=k2) (k3:=k3) (k5:=k5)
  Rp (by decide) Rp (mN:=mN) (T.hasType PySem.F.excBase_ValueError.hasBase) (I.ok.hd hc) (by rw[he];show (false || (SR cpos (WA rest X.env)).any (·.1))=false;rw[hp];rfl) hni (Q8 I hg O.g ⟨rfl,?_⟩ hdb)
 have a:=ha cpos pins s σ H _ I h;rw[he] at a ⊢;refine OE (thn a fun us s2 ⟨vs,H1,I1,r,hz,q⟩=>?_);exact⟨rfl,by rw[<- r.length];exact hz,I1.bk _ _ hC,hN.keeps I1.bk,T.keeps I1.bk,fun h' e hx=>L.made I1 hx q⟩
def markX (X:Cx)(e:Addr):Cx:={ X with A:=X.A.mark (some (.ref e)),calm:=false,xe:=fun _ _=>False }
variable {pins:List (Addr×Obj)}{σ:St}{H:Hp}{s:X8}
theorem Cx.Ok.mark (ok:X.Ok)(e:Addr):(markX X e).Ok :=
 ⟨ok.mod,ok.kind,ok.glob,ok.blt,ok.above,ok.inj,ok.has,ok.cab,(fun z=>nomatch z),ok.frames,ok.stk,ok.exf,ok.bs,ok.bsz,ok.noex,ok.exfs,ok.funs,ok.frf⟩
theorem Inv.mark (I:Inv X pins σ H s)(e:Addr):Inv (markX X e) pins σ H s:=⟨I.ok.mark e,I.os,I.bare,I.base,I.loc,I.cell,I.free,I.freeC,I.pin,I.hok,I.len⟩
theorem Inv.unmark {e:Addr}(I:Inv (markX X e) pins σ H s)(ok:X.Ok):Inv X pins σ H s:=⟨ok,I.os,I.bare,I.base,I.loc,I.cell,I.free,I.freeC,I.pin,I.hok,I.len⟩
def zoM (e C:Addr)(h:Heap):Prop:=∃ob vs,h.get? e=some ob/\ob.cls=.ref C/\ob.data=.fields vs
def exO (e C:Addr):HO:=.ext (zoM e C)
theorem Inv.nameGoes {M:NI}{A:WK}{E:X9->X8->Prop}{j:Nat}{n:Str}{pos:Pos}{Q:Unit->X8->Prop}(I:Inv X pins σ H s)(hN:X.N.Nodup)(hj:X.N[j]?=some n)(hl:X.env.scope.names.lookup n=some .local)
  (h:∀s',Inv X pins (σ.set j none) H s'->Q () s'):Xg M A (do N3 X.env n .none;unbindBehindTheSuite X.env n pos) Q E s:=by
 obtain⟨m,hn,hlk⟩:=id I.loc;refine wpAny_nameGoes_keeps hl hn (by rw[I.ok.kind];rfl) fun h' v hn' sb=>h _ ?_;have other:∀b o,b≠X.env.locals->s.heap.get? b=some o->h'.get? b=some o:=fun b o hb q=>(sb.2 b hb).trans q;obtain⟨oL,_,_,hoL,_⟩:=id hn;have low:∀b o,X.s₀.heap.get? b=some o->b≠X.env.locals:=fun b o q=>I.notLoc q;refine⟨I.ok,I.os,I.bare,⟨fun b o q n hb hx=>other b o (low b o q) (I.base.keep b o q n hb hx),fun b o q n hb hx=>?_,I.base.free,fun b o q hx=>?_,I.base.tups,I.base.frzs,I.base.tbls⟩,⟨_,hn',fun i y v' e1 e2 e3=>?_⟩,fun y c q=>?_,I.free,I.freeC,fun p hp=>?_,fun b ob q=>?_,by simpa using I.len⟩
 ·obtain⟨sl,r⟩:=I.base.slot b o q n hb hx;exact⟨sl,other b _ (low b o q) r⟩
 ·obtain⟨o',r⟩:=I.base.there b o q hx;exact⟨o',other b _ (low b o q) r⟩
 ·by_cases hij:i=j
  ·subst hij;have hiσ:i < σ.length:=by rw[I.len];exact(XY.mp hj).1
   rw[Sk hiσ] at e2;cases e2
  ·rw[RW (US hij)] at e2;obtain⟨u',r',z⟩:=hlk i y v' e1 e2 e3;refine⟨u',r',?_⟩;rcases z with ⟨k,q⟩ | ⟨k,c,q,z⟩
   ·refine .inl ⟨k,?_⟩;have ny:y≠n:=fun q=>hij (zb5 hN e1 (q ▸ hj));simp[ny,q]
   ·exact .inr ⟨k,c,q,z.sameBut sb (I.cne y c q)⟩
 ·obtain⟨w',z⟩:=I.cell y c q;exact⟨w',z.sameBut sb (I.cne y c q)⟩
 ·obtain⟨q,n',ne,nf,d⟩:=I.pin p hp;exact⟨other p.1 _ ne q,n',ne,nf,d⟩
 ·refine(I.hok b ob q).stay (fun c w' hc r=>other c w' ?_ r) (fun _ r=>r) fun _ _ r=>r;rintro rfl;rcases hc with rfl | hc
  ·rw[I.free] at q;cases q
  ·rw[I.free] at hc;cases hc
theorem Fly.caught {H1 H':Hp}{s1 s':X8}{e C:Addr}{a0:X9}{B h:Heap}(I:Inv X pins σ H1 s1)(F:Fly X.prog X.w X.stack H1 s1 e C a0 B H' s')(fl:N0 B X.stack e (.ref C) a0 h)(up:s'.heap.UpToSlots h) :
  Inv X pins σ (upd H' e (exO e C)) { s' with heap:=h }:=by
 have ne:∀b o,s1.heap.get? b=some o->b≠e:=fun b o q z=>by
  rw[z,F.new] at q;cases q
 have nt:∀b u,H' b=some u->b≠e:=fun b u q=>zj q F.free;have slot:∀b o,s1.heap.get? b=some o->H1 b=none->b∈frs X.stack->∃sl,h.get? b=some { o with slots:=sl }:=fun b o q n hb=>by
  obtain⟨_,o1,q1,nf⟩:=I.stack.mem hb;rw[q] at q1;cases q1;obtain⟨sl,q2⟩:=F.un.slot b o q n hb (fun z=>nomatch z);obtain⟨sl2,q3⟩:=up b _ q2 nf;exact⟨sl2,q3⟩
 refine I.call' (ch:=[]) F.os ⟨fun b o q n hb _=>fl.1 b o (F.kB b o q n hb),fun b o q n hb _=>slot b o q n hb,fun b o q n _=>?_,fun b o q _=>?_,fun b xs q=>?_,fun b o u q=>?_,fun b ps q=>?_⟩ (fun b ob q=>?_) F.bare fun b z=>nomatch z
 ·rw[zh (ne b o q)];exact F.un.free b o q n fun z=>nomatch z
 ·by_cases hb:b∈frs X.stack
  ·obtain⟨sl,r⟩:=slot b o q (I.stkFree b hb) hb;exact⟨_,r⟩
  ·obtain⟨o',r⟩:=F.tB b o q hb;exact⟨o',fl.1 b o' r⟩
 ·have r:=F.un.tups b xs q;rw[zh (nt b _ r)];exact r
 ·have r:=F.un.frzs b o u q;rw[zh (nt b _ r)];exact r
 ·obtain⟨m,r⟩:=F.un.tbls b ps q;exact⟨m,by rw[zh (nt b _ r)];exact r⟩
 ·by_cases hb:b=e
  ·subst hb;rw[zc] at q;cases q;obtain⟨oe,vs,q1,q2,q3,_⟩:=fl.first;exact⟨⟨oe,vs,q1,q2,q3⟩,⟨oe,q1⟩,fun g1 g2 ⟨o1,v1,r1,r2,r3⟩ k=>⟨o1,v1,k _ r1,r2,r3⟩⟩
  ·rw[zh hb] at q;refine(F.ok b ob q).stay (fun c u _ r=>fl.1 c u r) (fun c r=>?_) fun c xs r=>?_
   ·rw[zh (nt c _ r)];exact r
   ·rw[zh (nt c _ r)];exact r
theorem zmH {M:NI}{A:WK}{E:X9->X8->Prop}{s:X8}{S e C:Addr}{bm:List X9}{oe:Obj}{Q:Bool->X8->Prop}(O:znN s.heap S bm)(he:s.heap.get? e=some oe)(hcls:oe.cls=.ref C)
  (hL:PySem.W.Looks M s.heap (isSubtype (.ref C) (.ref S)) true) (hq:Q true s):Xg M A (excMatches (.ref e) (.ref S)) Q E s:=by
 obtain⟨⟨N,nm,qn,bs,hdct,sn,sub,ab,col,dd,k0,k1,k2,k3,k5,mN,hS,hN,hni⟩,T⟩:=O;have hb:=T.hasType PySem.F.excBase_ValueError.hasBase;obtain⟨h,g,d,t,os⟩:=s;have hcB:(WU S::bm).contains (.type "BaseException")=true:=by rw[List.contains_cons,hb,Bool.or_true]
 have f:=tc_notTuple;unfold excMatches;repeat (first | (with_reducible refine VT he ?_;rw[hcls]) | with_reducible refine VT hS ?_ | (with_reducible refine wpAny_isSubtype_exc hS ?_;rw[hcB]) | wp_step)
 refine hL A _ E _ (fun _ _ q=>q) ?_;rw[if_pos rfl];exact X6 (X6 (X6 hq))
end
theorem Fun.okX {P:Xd}{w:WP}{K:X2}{mg:Str->Option X9}{base:Heap}{x qual:Str}{st:Stmt}{f:Addr}{fd:Xq}{N ps:List Str}{k:Nat}{sp:Sp}(F:Fun K x qual st f fd)(S:zF N ps (zg st))(len:∀vs H Q E,sp vs H Q E->vs.length=ps.length)
  (hbody:∀(cdv:X9) (A:WK) (outer:List Env) (s:X8) (H:Hp) (vs:List V) (Q:VK) (E:XK),Zb k (A.deeper (Po qual (zg st) s.heap.objs.size f cdv))->sp vs H Q E ->
   ∃t,PSs (zft (CXE P w) P w K mg base N qual (zg st) f cdv A outer s H E) (xA st) t/\t { nx:=fun _ H'=>Q .non H',rt:=Q } (start N vs) H):qk P w K mg base (CXE P w) (k+1) f fd ps sp:=by
 obtain⟨oc,od,kV,doc,pm,an,cdv,ct,osl,rfl,lk,hcd⟩:=F.ex;exact znL lk hcd S len fun A outer s H vs Q E hr hsp=>hbody cdv A outer s H vs Q E hr hsp
structure Yx (K:X2)(C:Addr):Prop where
 ga:VN K (.ref C) "__getattribute__"=some (some (.builtin "BaseException.__getattribute__"))
 gh:VN K (.ref C) "__getattr__"=some none
 cl:VN K (.ref C) "__class__"=some (some (.builtin "object.__class__"))
 mb:VE K C (.type "BaseException")=some true
 mo:VE K C (.type "object")=some true
 ci:Tg K C=true
section
variable {prog:Xd}{w:WP}{A:WK}{E:X9->X8->Prop}{K:X2}{e C:Addr}
theorem zdi {R:NS->X8->Prop}{h:Heap}{g:Array Ut}{d:NJ}{t:Nat}{os:N4}(F:Yx K C)(kin:K.In h){o:Obj}(hx:h.get? e=some o)(hc:o.cls=.ref C)(hq:R (.ok (.ret (.ref C))) ⟨h,g,d,t,os⟩) :
  TJ (Xh prog w) A (.call (.builtin "getset_descriptor.__get__") ⟨[.builtin "object.__class__",.ref e,.ref C],[]⟩) R ⟨h,g,d,t,os⟩:=by
 have hT5:(⟨h,g,d,t,os⟩:X8).TypeIs (.builtin "object.__class__") "getset_descriptor":=TX;have lo:=RL (M:=Xh prog w) kin F.mo;rw[<- PySem.F.owner_object_class] at lo;refine TL PySem.F.slot_gs_get.plain PySem.F.entry_gs_get (PySem.F.slot_gs_get.check _ _ _ _ _ _ _ _ hT5 (PySem.F.args_gs_get _ _ _) ?_);repeat (any_goals (first | assumption | (with_reducible refine VT hx ?_;rw[hc]) | wp_step))
 refine lo _ _ _ _ (fun _ _ z=>z) ?_;repeat (any_goals (first | assumption | wp_step))
 refine⟨Code.quiet_builtin _ (by decide +kernel),VQ PySem.F.entry_object_class ?_⟩;repeat (any_goals (first | assumption | (with_reducible refine VT hx ?_;rw[hc]) | wp_step))
theorem zbF {tk:Tok}{Q:Fin->X8->Prop}{h:Heap}{g:Array Ut}{d:NJ}{t:Nat}{os:N4}(F:Yx K C)(kin:K.In h){o:Obj}(hx:h.get? e=some o)(hc:o.cls=.ref C)(hq:Q (.done (.ret (.ref C))) ⟨h,g,d,t,os⟩) :
  Xg (Xh prog w) A (Vc.«object.__getattribute__» ⟨[.ref e,.str "__class__" tk],[]⟩) Q E ⟨h,g,d,t,os⟩:=by
 have hT5:(⟨h,g,d,t,os⟩:X8).TypeIs (.builtin "object.__class__") "getset_descriptor":=TX;have f5:=TX;have f6:=PySem.F.slot_gs_get.lookup;have f7:=PySem.F.slot_gs_set.lookup;have lc:=RU (M:=Xh prog w) kin F.cl;repeat (any_goals (first | assumption | (with_reducible refine VT hx ?_;rw[hc]) | wp_step))
 refine lc _ _ _ _ (fun _ _ z=>z) ?_;repeat (any_goals (first | assumption | (with_reducible refine VT hx ?_;rw[hc]) | wp_step))
 refine zdi F kin hx hc ?_;repeat (any_goals (first | assumption | wp_step))
theorem zeI {M:NI}{nameV:X9}{Q:Unit->X8->Prop}{h:Heap}{g:Array Ut}{d:NJ}{t:Nat}{os:N4}(F:Yx K C)(kin:K.In h){o:Obj}(hx:h.get? e=some o)(hc:o.cls=.ref C)(hq:Q () ⟨h,g,d,t,os⟩) :
  Xg M A (PM "BaseException.__getattribute__" ⟨[.ref e,nameV],[]⟩) Q E ⟨h,g,d,t,os⟩:=by
 have kd:builtinKind "BaseException.__getattribute__"=some .slot:=by decide +kernel
 have sp:splitId "BaseException.__getattribute__"=some ("BaseException","__getattribute__"):=by decide +kernel
 have ha:=PySem.F.args_bexc_ga (.ref e) nameV;have lb:=RL (M:=M) kin F.mb;simp only[PM,kd,sp];refine ZB ?_;unfold isInstance;repeat (first | (with_reducible refine VT hx ?_;rw[hc]) | wp_step)
 refine lb _ _ _ _ (fun _ _ z=>z) ?_;repeat (any_goals (first | assumption | wp_step))
theorem zcg {tk:Tok}{R:NS->X8->Prop}{h:Heap}{g:Array Ut}{d:NJ}{t:Nat}{os:N4}(F:Yx K C)(kin:K.In h){o:Obj}(hx:h.get? e=some o)(hc:o.cls=.ref C)(hq:R (.ok (.ret (.ref C))) ⟨h,g,d,t,os⟩) :
  TJ (Xh prog w) A (.call (.builtin "BaseException.__getattribute__") ⟨[.ref e,.str "__class__" tk],[]⟩) R ⟨h,g,d,t,os⟩ :=
 TL PySem.F.attr_ValueError.ga.plain PySem.F.entry_bexc_ga (zeI F kin hx hc (zbF F kin hx hc hq))
theorem zch {Q:Option X9->X8->Prop}{h:Heap}{g:Array Ut}{d:NJ}{t:Nat}{os:N4}(F:Yx K C)(kin:K.In h){o:Obj}(hx:h.get? e=some o)(hc:o.cls=.ref C)(hq:Q (some (.ref C)) ⟨h,g,d,t+1,os⟩) :
  Xg (Xh prog w) A (ND (.ref e) "__class__") Q E ⟨h,g,d,t,os⟩:=by
 have f3:=PySem.F.attr_ValueError.ga.bind (.ref e);have hx2:(Qr "BaseException.__getattribute__" == Qr "object.__getattribute__")=false:=by decide +kernel
 have hx1:(onTheHeap (WU C)&&Qr "BaseException.__getattribute__" == Qr "object.__getattribute__")=false:=by rw[hx2];rfl
 have l1:=RU (M:=Xh prog w) kin F.ga;have l2:=RU (M:=Xh prog w) kin F.gh;unfold ND getAttrBy? getAttrBy;repeat (any_goals (first | assumption | (with_reducible refine VT hx ?_;rw[hc]) | wp_step))
 refine l1 _ _ _ _ (fun _ _ z=>z) ?_;repeat (any_goals (first | assumption | (with_reducible refine VT hx ?_;rw[hc]) | wp_step))
 refine l2 _ _ _ _ (fun _ _ z=>z) ?_;repeat (any_goals (first | assumption | (with_reducible refine VT hx ?_;rw[hc]) | wp_step))
 refine zcg F kin hx hc ?_;repeat (any_goals (first | assumption | wp_step))
theorem zkn (F:Yx K C):PySem.W.KitX K (.ref e) (.ref C) (zoM e C) where
 ty:=fun M h _ p=>by
  obtain⟨ob,vs,q1,q2,_⟩:=p;exact q2 ▸ (PySem.W.Looks.ld q1).andThen .now
 it:=fun M h kin _=>by
  have ci:=F.ci;unfold Tg PySem.W.clsIn at ci;split at ci
  ·rename_i c1 d1 cd1 sl1 lk;intro A1 Q1 E1 s1 k q;unfold isType loadHead;exact ZB (wpAny_loadPart (k _ _ (kin _ _ lk)) (X6 q))
  ·cases ci
 ne:=fun h tp dd its n sl kin htp=>by
  refine Xy.mpr fun q=>?_;have ec:C=tp:=Value.ref.inj (beq_iff_eq.mp q);subst ec;have ci:=F.ci;unfold Tg PySem.W.clsIn at ci;split at ci
  ·rename_i c1 d1 cd1 sl1 lk;have z:=(kin _ _ lk).symm.trans htp;cases z
  ·cases ci
 ca:=fun {prog w A E Q s} kin p k=>by
  obtain⟨ob,vs,q1,q2,_⟩:=p;obtain⟨h,g,d,t,os⟩:=s;exact zch F kin q1 q2 k
def zko:V->X9
 | .ref D=>.ref D
 | .ty n=>.type n
 | _=>.none
theorem qB {X:Cx}(hK:X.K=K):jT X (.builtin "isinstance") (fun xs H Q=>∃e C c b,xs=[.ref e,c]/\H e=some (exO e C)/\Yx K C/\((∃D,c=.ref D)\/∃n,c=.ty n)/\W9 K (.ref C) (zko c)=some b/\Q (.bl b) H):=by
 intro pins s σ H xs us Q I r h;obtain⟨e,C,c,b,rfl,he,F,hc,hk,q⟩:=h;obtain⟨u,u2,rfl,rx,ru⟩:=vals2 r;cases rx;have p:zoM e C s.heap:=(I.hok e _ he).1;have kin:=I.kIn;rw[hK] at kin;have e2:u2=zko c:=by
  rcases hc with ⟨D,rfl⟩ | ⟨n,rfl⟩
  ·cases ru;rfl
  ·cases ru;rfl
 subst e2;exact VY (zkn F) kin p hk (fun z=>nomatch z) fun tk=>⟨.bl b,H,I.tok tk,rfl,q⟩
end
section
variable {X:Cx}{tg iter elt:Expr}{ifs:List Expr}{scope:Uk}{pos:Pos}{N:List Str}{src:List (Option Nat)}{cl:List (Str×Addr)}{wi:TI}{g:TG}{tc:TT}{te:TE}
theorem ZX {i:Nat}{x:Str}{xpos spos:Pos}(hN:X.N.Nodup)(hix:X.N[i]?=some x)(hlx:X.env.scope.names.lookup x=some .local)(ok:zU X N src scope cl)(hcalm:X.calm=true)(hi:PI X tg iter wi)
  (hg:∀C fp pins s H,PG (qY X N scope cl C fp pins s H) tg g) (hc:∀C fp pins s H,zkf (qY X N scope cl C fp pins s H) ifs tc) (he:∀C fp pins s H,PE (qY X N scope cl C fp pins s H) elt te)
  (hs:∀x,Sx iter X.env x=pure x:=by intro _;rfl) (hsw:NQ (.ListComp elt [⟨tg,iter,ifs,0⟩] scope pos) (some (.Name x xpos)) spos.line X.env=pure true:=by rfl) :
  PS X (.Assign [.Name x xpos] (.ListComp elt [⟨tg,iter,ifs,0⟩] scope pos) spos) (zol (zkg wi src g tc te) (Jf i)):=by
 intro pins s σ H D I h;rw[exec_Assign_Name_used _ _ _ _ hsw];refine ZB (UZ (ZB ?_));unfold evalThenUse;refine ZB (Wn (Q:=fun _ s''=>∃ σ' H',Inv X pins σ' H' s''/\D.nx σ' H') ?_ (fun _ s'' ⟨σ',H',I',q'⟩=>X6 (X6 ⟨σ',H',I',q'⟩)) fun _ _ z=>z);refine Tk (use:=some (NF (.Name x xpos) X.env)) rfl hs ok.clos ok.kind ok.names (thn (hi pins s σ H _ I h) fun xv s1 h1=>thn h1 fun itv s2 h2=>?_);obtain⟨it,fp,tn,J,H2,e,I2,T,st2,f2,q2⟩:=h2;subst e;refine Wq (OD ok.nocell (by intro y hy;simp at hy) (fun h₁ hns₁ hsb₁=>?_) ok.kind);dsimp only at hns₁ hsb₁ ⊢;generalize hP:s2.heap.push { cls:=.type "list",dict:=none,data:=.seq ([]:List X9).toArray }=P2 at hns₁ hsb₁ ⊢;have hC:P2.objs.size=s2.heap.objs.size+1:=by rw[<- hP,Vi]
 have k:∀b u,s2.heap.get? b=some u->h₁.get? b=some u:=fun b u e=>by
  have lt:=XO e;exact(hsb₁.2 b (by rw[hC];exact Xk (WF lt))).trans (XZ _ (hP ▸ XZ _ e))
 have hD:h₁.get? s2.heap.objs.size=some { cls:=.type "list",data:=.seq #[] }:=(hsb₁.2 _ (by rw[hC];exact(Vo _).symm)).trans (XZ _ (hP ▸ Xl _ rfl));have ho:∀b∈fp,∃o,s2.heap.get? b=some o:=fun b hb=>let ⟨o,e,_⟩:=T.obj 0 _ st2 b hb;⟨o,e⟩
 obtain⟨W,⟨m0,w0⟩,turn⟩:=q2 s2.heap.objs.size (I2.hok.fresh (XW _));have I0:=zcc (tk:=s2.toks+([]:List (Str×X9)).length) ok I2 f2 ho hC k hD hns₁;have st0:tn 0 h₁:=T.keep 0 _ _ st2 fun b _ o e=>k b o e;have fr0:∀b∈fp,upd H2 s2.heap.objs.size (.lst []) b=none:=fun b hb=>by
  obtain⟨o,e⟩:=ho b hb;rw[zh (Xk (XO e))];exact(f2 b hb).1
 have stat:∀{H':Hp},(∀b∈fp,H' b=none)->∀b∈fp,Q9 (qY X N scope cl P2.objs.size fp pins s2 H2) [] H' b:=fun {H'} hn b hb=>by
  obtain⟨o,e⟩:=ho b hb;have lt:=XO e;refine⟨hn b hb,?_,fun z=>(XJ.mp (I2.stkSub b z)).elim (f2 b hb).2.1 (f2 b hb).2.2.1,.inl hb,fun x c z=>(f2 b hb).2.2.2.2.1 x c (ok.sub x c z),fun p hp=>?_⟩
  ·show b≠P2.objs.size;rw[hC];exact Xk (WF lt)
  ·have hp':p∈X.pn++pins:=by
    have:p∈(X.pn++pins)++[]:=hp;simpa using this
   exact(f2 b hb).2.2.2.2.2 p hp'
 have loop:∀s₃:X8,s₃={ s2 with heap:=h₁,toks:=s2.toks+([]:List (Str×X9)).length } ->
   TJ (Xh X.prog X.w) X.A (.compLoop (.ListComp elt [⟨tg,iter,ifs,0⟩] scope pos) 0 (.ref it) (.ref s2.heap.objs.size) (SQ scope cl P2.objs.size X.env))
    (compPost (Xh X.prog X.w) X.A X.xe (some (NF (.Name x xpos) X.env)) (fun _ s''=>∃ σ' H',Inv X pins σ' H' s''/\D.nx σ' H') (.ref s2.heap.objs.size) P2.objs.size) s₃:=by
  rintro s₃ rfl;refine N1 rfl (fun n s'=>∃i σ' H',Inv (qY X N scope cl P2.objs.size fp pins s2 H2) [] σ' H' s'/\tn i s'.heap/\(∀b∈fp,H' b=none)/\W i n σ' H') ?_ m0 ⟨0,_,_,I0,st0,fr0,w0⟩;rintro n s3 ⟨i,σ3,H3,I3,st3,fr3,w3⟩;show Xg _ X.A ((compTurn (.ListComp elt [⟨tg,iter,ifs,0⟩] scope pos) 0 (.ref it) (.ref s2.heap.objs.size) (SQ scope cl P2.objs.size X.env)).onRaise (fun x=>do noteFrame x (SQ scope cl P2.objs.size X.env);O8 x)) _ _ s3;refine NO ?_;rw[Of];rcases turn i n σ3 H3 w3 with ⟨stop,qn⟩ | ⟨go,N',hN,step⟩
  ·refine ZB (UZ (ZB (thn (T.done (qY X N scope cl P2.objs.size fp pins s2 H2) rfl rfl rfl hcalm i [] s3 σ3 H3 _ I3 (stat fr3) st3 stop) fun r s4 ⟨hr,I4⟩=>?_)));subst hr;refine X6 ?_;obtain⟨m,hm,_⟩:=I4.loc;have leC:s2.heap.objs.size<=P2.objs.size:=by rw[hC];exact VU _
   have IX:Inv X pins σ H3 s4:=I2.call' (s':=s4) (ch:=fp) I4.os I4.base I4.hok I4.bare fun b hb=>⟨(f2 b hb).2.2.2.1,(f2 b hb).2.1,(f2 b hb).2.2.2.2.1,(f2 b hb).2.2.2.2.2⟩;have cellLt:∀y c,X.env.cells.lookup y=some c->c≠P2.objs.size:=fun y c e z=>by
    obtain⟨_,o,e1,_⟩:=I2.cell y c e;have:=XO e1;rw[z] at this;exact V8 _ (Xn this leC)
   have locNe:X.env.locals≠P2.objs.size:=fun z=>by
    have:=I2.lt;rw[z] at this;exact V8 _ (Xn this leC)
   refine wpAny_assign_Name (zdA IX hN hix (.inl hlx) (v:=.ref s2.heap.objs.size) rfl (fun s5 I5 ⟨a5,sb5,ha5⟩=>?_) (.inr hlx));have na:a5≠P2.objs.size:=by
    rcases ha5 with z | z
    ·rw[z];exact locNe
    ·exact cellLt _ _ z
   refine⟨m,hm.sameBut sb5 (US na),fun h' sb=>⟨_,H3,?_,qn⟩⟩;exact I5.turned (t':=s5.toks) (it:=P2.objs.size) (fun b o hb e=>(sb.2 b hb).trans e) I4.free (US locNe) (.inr (X5 I2.sz leC)) cellLt fun p hp z=>by
    obtain⟨e1,_⟩:=I2.pin p hp;have:=XO e1;rw[z] at this;exact V8 _ (Xn this leC)
  ·refine ZB (UZ (ZB (thn (T.item (qY X N scope cl P2.objs.size fp pins s2 H2) rfl rfl rfl hcalm i [] s3 σ3 H3 _ I3 (stat fr3) st3 go) fun r s4 ⟨u,hr,h4⟩=>?_)));subst hr;dsimp only;refine ZB (thn h4 fun _ s5 ⟨x,H5,I5,r5,y5,st5,fr5⟩=>?_);have I5':=I5.pinned (stat fr5) (T.obj _ _ st5);refine ZB (Wn (hg P2.objs.size fp pins s2 H2 _ s5 σ3 H5 x u _ I5' r5 (step x H5 y5)) (fun _ s6 ⟨σ6,H6,I6,q6⟩=>?_) fun _ _ z=>Wm z);have Rh:∀{s7:X8} {σ7:St} {H7:Hp},Inv (qY X N scope cl P2.objs.size fp pins s2 H2) ([]++QI fp s5.heap) σ7 H7 s7->N' σ7 H7->∃m,m<n/\∃i σ' H',Inv (qY X N scope cl P2.objs.size fp pins s2 H2) [] σ' H' s7/\tn i s7.heap/\(∀b∈fp,H' b=none)/\W i m σ' H':=fun {s7 σ7 H7} I7 n7=>by
    obtain⟨m',hm,w7⟩:=hN σ7 H7 n7;refine⟨m',hm,i+1,σ7,H7,I7.unpinned,T.keep _ _ _ st5 fun b hb o e=>(I7.pin (b,o) (Xr _ (Xr _ (jR hb e)))).1,fun b hb=>?_,w7⟩;obtain⟨o,e,d⟩:=T.obj _ _ st5 b hb;exact(I7.pin (b,o) (Xr _ (Xr _ (jR hb e)))).2.1
   refine ZB (Wn (hc P2.objs.size fp pins s2 H2 _ s6 σ6 H6 _ I6 q6) (fun b s7 ⟨H7,I7,q7⟩=>?_) fun _ _ z=>Wm z);cases b with
   | false =>
    rw[if_neg XX] at q7;exact X6 ⟨rfl,Rh I7 q7⟩
   | true =>
    rw[if_pos rfl] at q7;refine ZB (ZB (Wn (he P2.objs.size fp pins s2 H2 _ s7 σ6 H7 _ I7 q7) (fun y s8 ⟨v8,H8,I8,r8,ys,hys,hlen,q8⟩=>?_) fun _ _ z=>Wm z));refine ZB (Wn (Y6 (X:=qY X N scope cl P2.objs.size fp pins s2 H2) _ s8 σ6 H8 (.ref s2.heap.objs.size) [v8] (.ref s2.heap.objs.size) [y] (fun _ H9=>N' σ6 H9) I8 rfl (.cons r8 .nil) ⟨_,ys,v8,rfl,rfl,hys,hlen,q8⟩) (fun _ s9 ⟨v9,H9,I9,_,q9⟩=>?_) fun _ _ z=>Wm z);exact X6 (X6 ⟨rfl,Rh I9 q9⟩)
 exact Si (loop _ rfl) (T.self _ 0 _ _ _ st0 (loop _ rfl))
end
theorem zU.byRfl {X:Cx}{N:List Str}{src:List (Option Nat)}{scope:Uk}(kind:scope.kind=.function)(nocell:∀y∈scope.names,y.2 ≠ .cell)(names:∀y∈scope.names,y.2=.local->scope.names.lookup y.1=some .local)
  (hs:(scope.names.all fun y=>y.2 != .free || (X.env.cells.lookup y.1).isSome)=true) (len:src.length=N.length)
  (pc:((N.zip src).all fun q=>match q.2 with | none=>true | some j=>X.N[j]?==some q.1&&X.env.kindOf q.1==some .cell&&(Ui scope X.env).names.lookup q.1==some .cell)=true):zU X N src scope (zaV (fun x=>X.env.cells.lookup x) scope.names []):=by
 have hs':∀y∈scope.names,y.2=.free->(X.env.cells.lookup y.1).isSome=true:=fun y hy e=>by
  have z:=WL.mp hs y hy;rw[e] at z;simpa using z
 refine⟨kind,nocell,names,Jc hs',fun x c h=>?_,fun x h=>?_,len,fun i j x h1 h2=>?_⟩
 ·rcases Zm _ _ _ (WH h) with z | z
  ·cases z
  ·exact z
 ·refine VV.mp (zce _ _ (.inr ?_));have hm:(x,UY)∈scope.names\/(x,NameKind.free)∈scope.names:=by
   rcases h with h | h
   ·exact yJ (WH h) (.inl rfl)
   ·exact yJ (WH h) (.inr rfl)
  rcases hm with hm | hm
  ·exact absurd rfl (nocell _ hm)
  ·exact⟨hm,hs' _ hm rfl⟩
 ·have hm:(x,some j)∈N.zip src:=X0 (i:=i) (by rw[Vq];exact⟨h1,h2⟩);have z:=WL.mp pc _ hm;simp only[Wa,beq_iff_eq] at z;exact⟨z.1.1,.inl z.1.2,.inl z.2⟩
structure ZY (X:Cx)(N:List Str)(src:List (Option Nat))(scope:Uk)(cl:List (Str×Addr))(y:Str):Prop where
 kind:scope.kind=.function
 one:∀n acc,RA n scope.names acc=(y,n)::acc
 push:∀h,pushCells h scope.names=h.push { cls:=.type "cell",data:=.cell none }
 names:∀y∈scope.names,y.2=.local->scope.names.lookup y.1=some .local
 clos:N8 scope X.env=pure cl
 sub:∀x c,cl.lookup x=some c->X.env.cells.lookup x=some c
 has:∀x,((Ui scope X.env).names.lookup x=some .cell\/(Ui scope X.env).names.lookup x=some .free)->x=y\/∃c,cl.lookup x=some c
 len:src.length=N.length
 pulls:∀(i j:Nat) (x:Str),N[i]?=some x->src[i]?=some (some j)->X.N[j]?=some x/\(X.env.kindOf x=some .cell\/X.env.kindOf x=some .free)/\((Ui scope X.env).names.lookup x=some .cell\/(Ui scope X.env).names.lookup x=some .free)
 pny:∀(i j:Nat) (x:Str),N[i]?=some x->src[i]?=some (some j)->x≠y
theorem ZY.has1 {X:Cx}{N:List Str}{src:List (Option Nat)}{scope:Uk}{cl:List (Str×Addr)}{y:Str}{C:Addr}(ok:ZY X N src scope cl y)(x:Str)(h:(Ui scope X.env).names.lookup x=some .cell\/(Ui scope X.env).names.lookup x=some .free):∃c,RY x ((y,C)::cl)=some c:=by
 rw[Vm];cases q:x==y with
 | true=>exact⟨_,rfl⟩
 | false =>
  rcases ok.has x h with z | z
  ·rw[z] at q;simp at q
  ·exact z
theorem ZY.byRfl {X:Cx}{N:List Str}{src:List (Option Nat)}{scope:Uk}{y:Str}(kind:scope.kind=.function)(one:∀n acc,RA n scope.names acc=(y,n)::acc)(push:∀h,pushCells h scope.names=h.push { cls:=.type "cell",data:=.cell none })
  (only:∀z∈scope.names,z.2=.cell->z.1=y) (names:∀y∈scope.names,y.2=.local->scope.names.lookup y.1=some .local)
  (hs:(scope.names.all fun y=>y.2 != .free || (X.env.cells.lookup y.1).isSome)=true) (len:src.length=N.length)
  (pc:((N.zip src).all fun q=>match q.2 with | none=>true | some j=>X.N[j]?==some q.1&&X.env.kindOf q.1==some .cell&&(Ui scope X.env).names.lookup q.1==some .cell&&q.1 != y)=true):ZY X N src scope (zaV (fun x=>X.env.cells.lookup x) scope.names []) y:=by
 have hs':∀y∈scope.names,y.2=.free->(X.env.cells.lookup y.1).isSome=true:=fun y hy e=>by
  have z:=WL.mp hs y hy;rw[e] at z;simpa using z
 have pk:∀(i j:Nat) (x:Str),N[i]?=some x->src[i]?=some (some j)->(X.N[j]?=some x/\X.env.kindOf x=some .cell/\(Ui scope X.env).names.lookup x=some .cell)/\x≠y:=fun i j x h1 h2=>by
  have hm:(x,some j)∈N.zip src:=X0 (i:=i) (by rw[Vq];exact⟨h1,h2⟩);have z:=WL.mp pc _ hm;simp only[Wa,beq_iff_eq,bne_iff_ne] at z;exact⟨⟨z.1.1.1,z.1.1.2,z.1.2⟩,z.2⟩
 refine⟨kind,one,push,names,Jc hs',fun x c h=>?_,fun x h=>?_,len,fun i j x h1 h2=>⟨(pk i j x h1 h2).1.1,.inl (pk i j x h1 h2).1.2.1,.inl (pk i j x h1 h2).1.2.2⟩,fun i j x h1 h2=>(pk i j x h1 h2).2⟩
 ·rcases Zm _ _ _ (WH h) with z | z
  ·cases z
  ·exact z
 ·have hm:(x,UY)∈scope.names\/(x,NameKind.free)∈scope.names:=by
   rcases h with h | h
   ·exact yJ (WH h) (.inl rfl)
   ·exact yJ (WH h) (.inr rfl)
  rcases hm with hm | hm
  ·exact .inl (only _ hm rfl)
  ·exact .inr (VV.mp (zce _ _ (.inr ⟨hm,hs' _ hm rfl⟩)))
def yC (X:Cx)(N:List Str)(scope:Uk)(cl:List (Str×Addr))(y:Str)(C:Addr)(fp:List Addr)(pins:List (Addr×Obj))(s:X8)(H:Hp):Cx :=
 { qY X N scope ((y,C+1)::cl) C fp pins s H with fn:=fun x=>decide (x=y) }
theorem zmI {M:NI}{A:WK}{E:X9->X8->Prop}{s:X8}{scope:Uk}{globals:Addr}{cl:List (Str×Addr)}{qual:Str}{env:Env}{y:Str}{Q:Env->X8->Prop}(one:∀n acc,RA n scope.names acc=(y,n)::acc)(push:∀h,pushCells h scope.names=h.push { cls:=.type "cell",data:=.cell none })
  (hQ:Q (newEnv scope s.heap.objs.size globals ((y,s.heap.objs.size+1)::cl) qual none .none (some env) Oa) { s with heap:=(s.heap.push { cls:=.type "dict",data:=.dict #[] }).push { cls:=.type "cell",data:=.cell none } }) :
  Xg M A (newFunctionEnv scope globals cl [] qual none .none (some env)) Q E s:=by
 simp only[newFunctionEnv,Option.isSome_some,if_true];refine ZB (wpAny_alloc ?_);refine ZB (wpAny_layCells _ (fun name kind cells=>by cases hkc:kind==UY<;>simp[hkc]) _ _ _ _ ?_);rw[push,one,show ({ s with heap:=s.heap.push { cls:=.type "dict",data:=.dict #[] } }:X8).heap.objs.size=s.heap.objs.size+1 from Vi ..];exact ZB (X6 (X6 hQ))
section
variable {X:Cx}{tg iter elt:Expr}{ifs:List Expr}{scope:Uk}{pos:Pos}{N:List Str}{src:List (Option Nat)}{cl:List (Str×Addr)}{wi:TI}{g:TG}{tc:TT}{te:TE}{y:Str}
theorem zfD {pins:List (Addr×Obj)}{σ:St}{H:Hp}{s:X8}{fp:List Addr}{h1:Heap}{C:Addr}{tk:Nat}(ok:ZY X N src scope cl y)(I:Inv X pins σ H s)(hf:∀b∈fp,Q9 X pins H b)(ho:∀b∈fp,∃o,s.heap.get? b=some o)
  (hC:C=s.heap.objs.size+1) (k:∀b u,s.heap.get? b=some u->h1.get? b=some u) (hD:h1.get? s.heap.objs.size=some { cls:=.type "list",data:=.seq #[] }) {m:Str->Option X9} (hn:h1.Ns C m) (hcc:h1.IsCell (C+1) none) :
  Inv (yC X N scope cl y C fp pins s H) [] (pull src σ) (upd H s.heap.objs.size (.lst [])) { s with heap:=h1,toks:=tk }:=by
 have lt:∀b o,s.heap.get? b=some o->b<s.heap.objs.size:=fun b o e=>XO e;have nC:∀b o,s.heap.get? b=some o->b≠C:=fun b o e=>by rw[hC];exact Xk (WF (lt b o e))
 have nD:∀b o,s.heap.get? b=some o->b≠s.heap.objs.size:=fun b o e=>Xk (lt b o e);have fr:∀b,s.heap.objs.size<=b->H b=none:=fun b hb=>I.hok.fresh hb;have nst:∀b,b≠X.env.locals->b ∉ X.fs->b ∉ frs X.stack:=fun b h1 h2 z=>(XJ.mp (I.stkSub b z)).elim h1 h2;have nC1:∀b o,s.heap.get? b=some o->b≠C+1:=fun b o e=>by rw[hC];exact Xk (WF (WF (lt b o e)))
 have own:∀x c,RY x ((y,C+1)::cl)=some c->(x=y/\c=C+1)\/(x≠y/\X.env.cells.lookup x=some c):=fun x c e=>by
  rw[Vm] at e;cases q:x==y with
  | true =>
   rw[q] at e;exact .inl ⟨by simpa using q,(Option.some.inj e).symm⟩
  | false =>
   rw[q] at e;exact .inr ⟨by simpa using q,ok.sub x c e⟩
 have oldc:∀x c,X.env.cells.lookup x=some c->c≠C+1:=fun x c e=>by
  obtain⟨_,o,e1,_⟩:=I.cell x c e;exact nC1 c o e1
 refine⟨⟨I.ok.mod,ok.kind,I.ok.glob,I.ok.blt,by rw[show (yC X N scope cl y C fp pins s H).env.locals=C from rfl,hC];exact VU _,?inj,ok.has1,?cab,I.ok.hd,I.ok.frames,.inl rfl,fun b hb=>?_,I.bs,X5 I.ok.bsz I.sz,fun b o e hb=>?_,fun b hb hz=>?_,I.stack,I.stkFree⟩,
  rfl,I.bare,Un.laid k (XW _) (fr _ (XW _)),⟨m,hn,fun i x v e1 e2 e3=>?_⟩,fun x c e=>?_,?_,fun x c e=>?_,fun p hp=>?_,I.hok.laid k (XW _) ⟨W5 _,[],0,.nil,hD⟩,?_⟩
 case inj =>
  intro x x' c e1 e2
  rcases own x c e1 with ⟨a1,a2⟩ | ⟨a1,a2⟩
  ·rcases own x' c e2 with ⟨b1,b2⟩ | ⟨b1,b2⟩
   ·rw[a1,b1]
   ·exact absurd a2 (oldc x' c b2)
  ·rcases own x' c e2 with ⟨b1,b2⟩ | ⟨b1,b2⟩
   ·exact absurd b2 (oldc x c a2)
   ·exact I.ok.inj x x' c a2 b2
 case cab =>
  intro x c z e
  have zy:x=y:=of_decide_eq_true z
  rcases own x c e with ⟨_,a2⟩ | ⟨a1,_⟩
  ·rw[a2,hC];exact TZ (VU _)
  ·exact absurd zy a1
 ·obtain⟨o,e⟩:=ho b hb;refine⟨nC b o e,fun x c z=>?_⟩;rcases own x c z with ⟨_,a2⟩ | ⟨_,a2⟩
  ·rw[a2];exact US (nC1 b o e)
  ·exact(hf b hb).2.2.2.2.1 x c a2
 ·rcases(hf b hb).2.2.2.1 with z | z
  ·exact I.ok.noex b o e z
  ·exact absurd (Xn (XO (I.ok.bs b o e).1) z) (V8 _)
 ·exact nst b (hf b hb).2.1 (hf b hb).2.2.1 hz
 ·have hi:i<src.length:=by
   have:=(XY.mp e2).1;unfold pull at this;rw[Y1] at this;exact this
  unfold pull at e2;rw[XA,X7 hi] at e2;cases q:src[i] with
  | none=>rw[q] at e2;cases e2
  | some j =>
   rw[q] at e2;have e2':(σ[j]?).getD none=some v:=Option.some.inj e2;have e4:σ[j]?=some (some v):=by
    cases z:σ[j]? with
    | none=>rw[z] at e2';cases e2'
    | some o=>rw[z] at e2';exact congrArg some e2'
   obtain⟨p1,p2,p3⟩:=ok.pulls i j x e1 (by rw[X7 hi,q]);obtain⟨m',hn',hl⟩:=I.loc;obtain⟨u,r,l⟩:=hl j x v p1 e4 (by
    rcases p2 with z | z
    ·exact .inr (.inl z)
    ·exact .inr (.inr z))
   refine⟨u,r,.inr ⟨p3,?_⟩⟩;obtain⟨c,hc⟩:=ok.has1 x p3;refine⟨c,hc,?_⟩;rcases l with ⟨z,_⟩ | ⟨_,c',hc',o,ho',hd'⟩
   ·rcases p2 with y | y<;>rw[z] at y<;>cases y
   ·rcases own x c hc with ⟨a1,_⟩ | ⟨_,a2⟩
    ·exact absurd a1 (ok.pny i j x e1 (by rw[X7 hi,q]))
    ·rw[a2] at hc';cases hc';exact⟨o,k _ o ho',hd'⟩
 ·rcases own x c e with ⟨_,a2⟩ | ⟨_,a2⟩
  ·rw[a2];exact⟨_,hcc⟩
  ·obtain⟨v,o,e1,e2⟩:=I.cell x c a2;exact⟨v,o,k c o e1,e2⟩
 ·show upd H s.heap.objs.size (.lst []) C=none;rw[hC,zh (Vo _)];exact fr _ (VU _)
 ·show upd H s.heap.objs.size (.lst []) c=none;rcases own x c e with ⟨_,a2⟩ | ⟨_,a2⟩
  ·rw[a2,hC,zh (UH (WF (PL _)))];exact fr _ (TZ (VU _))
  ·obtain⟨v,o,e1,e2⟩:=I.cell x c a2;rw[zh (nD c o e1)];exact I.freeC x c a2
 ·have hp':p∈X.pn++pins:=by
   have:p∈(X.pn++pins)++[]:=hp;simpa using this
  obtain⟨e1,e2,e3,e4,e5⟩:=I.pin p hp';refine⟨k _ _ e1,?_,nC _ _ e1,nst _ e3 e4,e5⟩;show upd H s.heap.objs.size (.lst []) p.1=none;rw[zh (nD _ _ e1)];exact e2
 ·unfold pull;rw[Y1];exact ok.len
theorem zkp {y:Str}(ok:ZY X N src scope cl y)(hcalm:X.calm=true)(hi:PI X tg iter wi)
  (hg:∀C fp pins s H,PG (yC X N scope cl y C fp pins s H) tg g) (hc:∀C fp pins s H,zkf (yC X N scope cl y C fp pins s H) ifs tc) (he:∀C fp pins s H,PE (yC X N scope cl y C fp pins s H) elt te)
  (hs:∀x,Sx iter X.env x=pure x:=by intro _;rfl):PE X (.ListComp elt [⟨tg,iter,ifs,0⟩] scope pos) (zkg wi src g tc te):=by
 intro pins s σ H Q I h;rw[eval_ListComp];refine Tk (use:=none) rfl hs ok.clos ok.kind ok.names (thn (hi pins s σ H _ I h) fun xv s1 h1=>thn h1 fun itv s2 h2=>?_);obtain⟨it,fp,tn,J,H2,e,I2,T,st2,f2,q2⟩:=h2;subst e;refine Wq (zmI ok.one ok.push ?_);generalize hP:s2.heap.push { cls:=.type "list",dict:=none,data:=.seq ([]:List X9).toArray }=P2;have hC:P2.objs.size=s2.heap.objs.size+1:=by rw[<- hP,Vi]
 have sz1:(P2.push { cls:=.type "dict",data:=.dict #[] }).objs.size=P2.objs.size+1:=Vi ..;generalize hh1:(P2.push { cls:=.type "dict",data:=.dict #[] }).push { cls:=.type "cell",data:=.cell none }=h₁;have hns₁:h₁.Ns P2.objs.size (fun _=>none):=by
  rw[<- hh1];exact(Heap.Ns.new P2 _).push _
 have hcc:h₁.IsCell (P2.objs.size+1) none:=by
  rw[<- hh1,<- sz1];exact⟨_,Xl _ rfl,rfl⟩
 have k:∀b u,s2.heap.get? b=some u->h₁.get? b=some u:=fun b u e=>by
  rw[<- hh1];exact XZ _ (XZ _ (hP ▸ XZ _ e))
 have hD:h₁.get? s2.heap.objs.size=some { cls:=.type "list",data:=.seq #[] }:=by
  rw[<- hh1];exact XZ _ (XZ _ (hP ▸ Xl _ rfl))
 have ho:∀b∈fp,∃o,s2.heap.get? b=some o:=fun b hb=>let ⟨o,e,_⟩:=T.obj 0 _ st2 b hb;⟨o,e⟩
 obtain⟨W,⟨m0,w0⟩,turn⟩:=q2 s2.heap.objs.size (I2.hok.fresh (XW _));have I0:=zfD (tk:=s2.toks) ok I2 f2 ho hC k hD hns₁ hcc;have st0:tn 0 h₁:=T.keep 0 _ _ st2 fun b _ o e=>k b o e;have fr0:∀b∈fp,upd H2 s2.heap.objs.size (.lst []) b=none:=fun b hb=>by
  obtain⟨o,e⟩:=ho b hb;rw[zh (Xk (XO e))];exact(f2 b hb).1
 have stat:∀{H':Hp},(∀b∈fp,H' b=none)->∀b∈fp,Q9 (yC X N scope cl y P2.objs.size fp pins s2 H2) [] H' b:=fun {H'} hn b hb=>by
  obtain⟨o,e⟩:=ho b hb;have lt:=XO e;refine⟨hn b hb,?_,fun z=>(XJ.mp (I2.stkSub b z)).elim (f2 b hb).2.1 (f2 b hb).2.2.1,.inl hb,fun x c z=>?own,fun p hp=>?_⟩
  case own =>
   have z':RY x ((y,P2.objs.size+1)::cl)=some c:=z
   rw[Vm] at z'
   cases q:x==y with
   | true =>
    rw[q] at z';rw[<- Option.some.inj z',hC];exact UH (WF (WF lt))
   | false =>
    rw[q] at z';exact(f2 b hb).2.2.2.2.1 x c (ok.sub x c z')
  ·show b≠P2.objs.size;rw[hC];exact Xk (WF lt)
  ·have hp':p∈X.pn++pins:=by
    have:p∈(X.pn++pins)++[]:=hp;simpa using this
   exact(f2 b hb).2.2.2.2.2 p hp'
 have loop:∀s₃:X8,s₃={ s2 with heap:=h₁,toks:=s2.toks } ->
   TJ (Xh X.prog X.w) X.A (.compLoop (.ListComp elt [⟨tg,iter,ifs,0⟩] scope pos) 0 (.ref it) (.ref s2.heap.objs.size) (SQ scope ((y,P2.objs.size+1)::cl) P2.objs.size X.env))
    (compPost (Xh X.prog X.w) X.A X.xe none (EP X pins σ Q) (.ref s2.heap.objs.size) P2.objs.size) s₃:=by
  rintro s₃ rfl;refine N1 rfl (fun n s'=>∃i σ' H',Inv (yC X N scope cl y P2.objs.size fp pins s2 H2) [] σ' H' s'/\tn i s'.heap/\(∀b∈fp,H' b=none)/\W i n σ' H') ?_ m0 ⟨0,_,_,I0,st0,fr0,w0⟩;rintro n s3 ⟨i,σ3,H3,I3,st3,fr3,w3⟩;show Xg _ X.A ((compTurn (.ListComp elt [⟨tg,iter,ifs,0⟩] scope pos) 0 (.ref it) (.ref s2.heap.objs.size) (SQ scope ((y,P2.objs.size+1)::cl) P2.objs.size X.env)).onRaise (fun x=>do noteFrame x (SQ scope ((y,P2.objs.size+1)::cl) P2.objs.size X.env);O8 x)) _ _ s3;refine NO ?_;rw[Of];rcases turn i n σ3 H3 w3 with ⟨stop,qn⟩ | ⟨go,N',hN,step⟩
  ·refine ZB (UZ (ZB (thn (T.done (yC X N scope cl y P2.objs.size fp pins s2 H2) rfl rfl rfl hcalm i [] s3 σ3 H3 _ I3 (stat fr3) st3 stop) fun r s4 ⟨hr,I4⟩=>?_)));subst hr;refine X6 ?_;obtain⟨m,hm,_⟩:=I4.loc;refine⟨m,hm,fun h' sb=>⟨.ref s2.heap.objs.size,H3,?_,rfl,qn⟩⟩;have un:Un (frs X.stack) fp H2 H3 s2.heap h':=Un.but I4.base (by show s2.heap.objs.size<=P2.objs.size;rw[hC];exact VU _) sb;have hok:HOk X.prog X.w H3 h':=HOk.but I4.hok I4.free sb;exact I2.call' (s':={ s4 with heap:=h' }) (ch:=fp) I4.os un hok I4.bare fun b hb=>⟨(f2 b hb).2.2.2.1,(f2 b hb).2.1,(f2 b hb).2.2.2.2.1,(f2 b hb).2.2.2.2.2⟩
  ·refine ZB (UZ (ZB (thn (T.item (yC X N scope cl y P2.objs.size fp pins s2 H2) rfl rfl rfl hcalm i [] s3 σ3 H3 _ I3 (stat fr3) st3 go) fun r s4 ⟨u,hr,h4⟩=>?_)));subst hr;dsimp only;refine ZB (thn h4 fun _ s5 ⟨x,H5,I5,r5,y5,st5,fr5⟩=>?_);have I5':=I5.pinned (stat fr5) (T.obj _ _ st5);refine ZB (Wn (hg P2.objs.size fp pins s2 H2 _ s5 σ3 H5 x u _ I5' r5 (step x H5 y5)) (fun _ s6 ⟨σ6,H6,I6,q6⟩=>?_) fun _ _ z=>Wm z);have Rh:∀{s7:X8} {σ7:St} {H7:Hp},Inv (yC X N scope cl y P2.objs.size fp pins s2 H2) ([]++QI fp s5.heap) σ7 H7 s7->N' σ7 H7->∃m,m<n/\∃i σ' H',Inv (yC X N scope cl y P2.objs.size fp pins s2 H2) [] σ' H' s7/\tn i s7.heap/\(∀b∈fp,H' b=none)/\W i m σ' H':=fun {s7 σ7 H7} I7 n7=>by
    obtain⟨m',hm,w7⟩:=hN σ7 H7 n7;refine⟨m',hm,i+1,σ7,H7,I7.unpinned,T.keep _ _ _ st5 fun b hb o e=>(I7.pin (b,o) (Xr _ (Xr _ (jR hb e)))).1,fun b hb=>?_,w7⟩;obtain⟨o,e,d⟩:=T.obj _ _ st5 b hb;exact(I7.pin (b,o) (Xr _ (Xr _ (jR hb e)))).2.1
   refine ZB (Wn (hc P2.objs.size fp pins s2 H2 _ s6 σ6 H6 _ I6 q6) (fun b s7 ⟨H7,I7,q7⟩=>?_) fun _ _ z=>Wm z);cases b with
   | false =>
    rw[if_neg XX] at q7;exact X6 ⟨rfl,Rh I7 q7⟩
   | true =>
    rw[if_pos rfl] at q7;refine ZB (ZB (Wn (he P2.objs.size fp pins s2 H2 _ s7 σ6 H7 _ I7 q7) (fun yv s8 ⟨v8,H8,I8,r8,ys,hys,hlen,q8⟩=>?_) fun _ _ z=>Wm z));refine ZB (Wn (Y6 (X:=yC X N scope cl y P2.objs.size fp pins s2 H2) _ s8 σ6 H8 (.ref s2.heap.objs.size) [v8] (.ref s2.heap.objs.size) [yv] (fun _ H9=>N' σ6 H9) I8 rfl (.cons r8 .nil) ⟨_,ys,v8,rfl,rfl,hys,hlen,q8⟩) (fun _ s9 ⟨v9,H9,I9,_,q9⟩=>?_) fun _ _ z=>Wm z);exact X6 (X6 ⟨rfl,Rh I9 q9⟩)
 exact Si (loop _ rfl) (T.self _ 0 _ _ _ st0 (loop _ rfl))
end
section
variable {X:Cx}{K:X2}
theorem zdI (hK:X.K=K)(hc:X.calm=true):jT X (.builtin "any") (fun xs H Q=>∃(l:Addr) (bs:List Bool),xs=[.ref l]/\SqL K H l (bs.map V.bl)/\Q (.bl (bs.any id)) H):=by
 subst hK;exact zfC hc
theorem zfE {tg l:Expr}{tl:TE}(hK:X.K=K)(hl:PE X l tl):PI X tg l (znK K tl):=by
 subst hK;exact zM hl
end
section
variable {X:Cx}
theorem zkq:MtM X "list.count" (fun x vs H Q=>∃(l:Addr) (ts:List Str) (y:Str),x=.ref l/\vs=[.str y]/\H l=some (.lst (ts.map V.str))/\Q (.int ((ts.countP fun t=>t==y:Nat):Int)) H):=by
 intro pins s σ H x vs v us Q I rx rv h;obtain⟨l,ts,y,rfl,rfl,hH,q⟩:=h;cases rx;obtain⟨u,rfl,t,rfl⟩:=rv.one;obtain⟨z,its,n,r,hl,e⟩:=I.lstM hH;have hv:∃f:X9->Bool,(∀w∈its,∃a k,w=.str a k/\f w=(a==y))/\its.countP f=ts.countP fun t=>t==y:=by
  refine⟨fun w=>match w with | .str a _=>a==y | _=>false,?_⟩;clear hl e z hH q;generalize ew:ts.map V.str=ws at r;induction r generalizing ts with
  | nil =>
   cases ts with
   | nil=>exact⟨(fun _ h=>nomatch h),rfl⟩
   | cons a b=>cases ew
  | cons r1 r2 ih =>
   cases ts with
   | nil=>cases ew
   | cons a b =>
    rw[Xf] at ew;obtain⟨e1,e2⟩:=List.cons.inj ew;subst e1;obtain⟨k,rfl⟩:=r1;obtain⟨h1,h2⟩:=ih b e2;refine⟨fun w hw=>?_,?_⟩
    ·rcases XJ.mp hw with rfl | hw
     ·exact⟨a,k,rfl,rfl⟩
     ·exact h1 w hw
    ·rw[WT,WT,h2]
 obtain⟨f,hf,hc⟩:=hv;refine S8 F.slot_list_count ⟨_,e,rfl⟩ F.entry_list_count (Op _ _) (P6 l its.toArray n none #[] (.str y t) f) ⟨e,fun w hw=>?_,?_⟩
 ·obtain⟨a,k,rfl,h2⟩:=hf w (by simpa using hw);rw[h2];exact PySem.SeqAt.EqAt.str_str a k y t
 ·refine⟨.int _,H,I.tok _,⟨_,rfl⟩,?_⟩;show Q (.int ((its.countP f:Nat):Int)) H;rw[hc];exact q
end
theorem zdJ:∀{ts:List Str} {its:List X9},Vals (ts.map V.str) its->StrsAre its ts
 | [],_,.nil=>.nil
 | t::_,_,.cons ⟨k,e⟩ h=>by
  subst e;exact .cons t k (zdJ h)
section
variable {X:Cx}
def rJoin (K:X2):V->List V->Hp->VK->Prop:=fun x xs H Q=>∃(z:Str) (l:Addr) (ts:List Str),x=.str z/\xs=[.ref l]/\SqL K H l (ts.map V.str)/\(ts.map (·.length)).sum+ts.length*z.length<=16777216/\Q (.str (UJ z ts)) H
theorem zeJ:MtR X "str.join" (rJoin X.K):=by
 intro pins s σ H x xs v us Q I rx rv h;obtain⟨z,l,ts,rfl,rfl,hl,hsz,q⟩:=h;obtain⟨tk,rfl⟩:=rx;obtain⟨u,rfl,r⟩:=rv.one;cases r;obtain⟨its,rv2,p,hz⟩:=I.list hl;refine join_list (ys:=ts) p.isList (by simpa using zdJ rv2) hsz fun t' k=>⟨.str (UJ z ts),H,I.tok k,⟨t',?_⟩,q⟩;rw[show Txt.join z ts=UJ z ts from StrLaws.glued_eq_join z ts]
end
theorem zg0 {α:Type}(d:α)(xs:List α):((XD xs.length).map fun i=>xs.getD i d)=xs:=by
 refine List.ext_getElem (by simp) fun i h1 h2=>?_;simp[h2]
theorem zib (p:Int×Int):lt2 p p=false:=by
 unfold lt2;rw[if_pos rfl,decide_eq_false (by lia)]
theorem zbS {p q:Int×Int}(h:p≠q):lt2 q p=!lt2 p q:=by
 unfold lt2;obtain⟨a,b⟩:=p;obtain⟨c,d⟩:=q;simp only;by_cases e:a=c
 ·subst e;rw[if_pos rfl,if_pos rfl];have hb:b≠d:=fun z=>h (by rw[z]);by_cases l:b<d
  ·rw[decide_eq_true l,decide_eq_false (by lia)];rfl
  ·rw[decide_eq_false l,decide_eq_true (by lia)];rfl
 ·rw[if_neg e,if_neg (fun z=>e z.symm)];by_cases l:a<c
  ·rw[decide_eq_true l,decide_eq_false (by lia)];rfl
  ·rw[decide_eq_false l,decide_eq_true (by lia)];rfl
theorem zg1 {p q r:Int×Int}(h1:lt2 p q=true)(h2:lt2 q r=true):lt2 p r=true:=by
 unfold lt2 at *
 obtain⟨a,b⟩:=p;obtain⟨c,d⟩:=q;obtain⟨e,f⟩:=r;simp only at *
 by_cases e1:a=c
 ·subst e1;rw[if_pos rfl,decide_eq_true_eq] at h1;by_cases e2:a=e
  ·subst e2;rw[if_pos rfl,decide_eq_true_eq] at h2 ⊢;lia
  ·rw[if_neg e2] at h2 ⊢;exact h2
 ·rw[if_neg e1,decide_eq_true_eq] at h1;by_cases e2:c=e
  ·subst e2;rw[if_neg e1,decide_eq_true_eq];exact h1
  ·rw[if_neg e2,decide_eq_true_eq] at h2;rw[if_neg (by lia),decide_eq_true_eq];lia
def Up2 (ps:List (Int×Int)):Prop:=ps.Pairwise fun p q=>lt2 p q=true
section
variable {X:Cx}
end
end L2
namespace PySem.SeqAt
open L2 AutoSeq1 MeetsSeq MeetsSeq2 MeetsSeq3
def QK (A:WK)(s:X8)(y x:X9)(b:Bool):Prop:=∀(prog:Xd) (w:WP) (E:X9->X8->Prop) (Q:X9->X8->Prop),Q (.bool b) s->Xg (Xh prog w) A (richCompare .Lt y x) Q E s
theorem QK.int_int {A:WK}{s:X8}(a:Int)(t:Tok)(b:Int)(u:Tok):QK A s (.int a t) (.int b u) (decide (a<b)):=fun prog w E Q h=>wpAny_lt_int h
theorem zg2 (l b:Addr)(x y x2 y2:Int)(t u t2 u2:Tok)(n n2:Nat)(dd dd2:Option Addr)(sl sl2:Array (Option X9)) :
  Meets (Vc.«tuple.__lt__» ⟨[.ref l,.ref b],[]⟩)
   (fun _ R s=>s.heap.get? l=some { cls:=.type "tuple",dict:=dd,data:=.seq #[.int x t,.int y u] n,slots:=sl }/\s.heap.get? b=some { cls:=.type "tuple",dict:=dd2,data:=.seq #[.int x2 t2,.int y2 u2] n2,slots:=sl2 } /\
    R (.ok (.ret (.bool (lt2 (x,y) (x2,y2))))) s) :=
 .of_wp fun prog w A R s h=>by
  obtain⟨hp1,g1,d1,tk1,os1⟩:=s;obtain⟨hL,hB,h⟩:=h;have fT:=sub_tuple_tuple;wp_walk using Wb hL,Wb hB;refine EqAt.int_int x t x2 t2 prog w _ _ ?_;unfold lt2 at h;by_cases e:x=x2
  ·have e':(x==x2)=true:=by simpa using e
   rw[e'];rw[if_pos e] at h;wp_walk;refine EqAt.int_int y u y2 u2 prog w _ _ ?_;by_cases e2:y=y2
   ·have e2':(y==y2)=true:=by simpa using e2
    rw[e2'];rw[decide_eq_false (by show ¬ y<y2;lia)] at h;wp_walk;exact⟨_,rfl,h⟩
   ·have e2':(y==y2)=false:=by simpa using e2
    rw[e2'];simp only[Bool.not_false,if_true];refine ZB (UB (ZB (QK.int_int y u y2 u2 prog w _ _ ?_)));wp_walk;exact⟨_,rfl,h⟩
  ·have e':(x==x2)=false:=by simpa using e
   rw[e'];rw[if_neg e] at h;simp only[Bool.not_false,if_true];refine ZB (UB (ZB (QK.int_int x t x2 t2 prog w _ _ ?_)));wp_walk;exact⟨_,rfl,h⟩
theorem QK.pairs {A:WK}{s:X8}{v v':X9}{p q:Int×Int}(hv:zw s.heap v p)(hv':zw s.heap v' q)(hu:A.units<U1):QK A s v v' (lt2 p q):=fun prog w E Q h=>by
 obtain⟨a,⟨cls,dd,data,sl⟩,n,t,u,rfl,e1,c1,d1⟩:=hv;obtain⟨a',⟨cls2,dd2,data2,sl2⟩,n',t',u',rfl,e1',c1',d1'⟩:=hv';simp only at c1 d1 c1' d1';subst c1 d1 c1' d1';exact richCompare_meets_room (op:=.Lt) ⟨_,e1,rfl⟩ ⟨_,e1',rfl⟩ F.slot_tuple_lt F.entry_tuple_lt (F.args_tuple_lt_2 _ _) (zg2 a a' p.1 p.2 q.1 q.2 t u t' u' n n' dd dd2 sl sl2)
  ⟨e1,e1',show Ta (lt2 p q)≠Value.notImplemented/\Q (.bool (lt2 p q)) s from ⟨(fun x=>nomatch x),h⟩⟩ hu
theorem Qs {h:Heap}{v:X9}{p:Int×Int}(hv:zw h v p):∃as,Reads h v (.tuple [.int p.1,.int p.2]) as:=by
 obtain⟨a,o,n,t,u,rfl,e1,c1,d1⟩:=hv;exact⟨_,.tuple e1 c1 d1 (.cons (.int _ _) (.cons (.int _ _) .nil))⟩
theorem zdK (p q:Int×Int):WX (.tuple [.int p.1,.int p.2]) (.tuple [.int q.1,.int q.2])=decide (p=q):=by
 obtain⟨a,b⟩:=p;obtain⟨c,d⟩:=q;show ((a==c)&&((b==d)&&true))=_;by_cases h1:a=c
 ·by_cases h2:b=d
  ·subst h1 h2;simp
  ·simp[h2]
 ·simp[h1]
end PySem.SeqAt
namespace L2
open PySem PySem.Spec PyProof.Rows PySem.W PySem.SeqAt
section
variable {X:Cx}{pins:List (Addr×Obj)}{σ:St}{H:Hp}{s:X8}
end
section
variable {X:Cx}
end
open PySem PySem.Spec PyProof.Rows
section
variable {κ:Type} [DecidableEq κ]
def yq (kvs:List (κ × V))(k:κ):Option V:=(kvs.find? fun kv=>decide (kv.1=k)).map (·.2)
def putK (kvs:List (κ × V))(k:κ)(v:V):List (κ × V) :=
 if (kvs.any fun kv=>decide (kv.1=k))=true then kvs.map (fun kv=>if kv.1=k then (kv.1,v) else kv) else kvs++[(k,v)]
theorem jW {p:κ × V}{r:List (κ × V)}{k:κ}(e:p.1=k):yq (p::r) k=some p.2:=by simp[yq,T8,e]
theorem jX {p:κ × V}{r:List (κ × V)}{k:κ}(e:¬ p.1=k):yq (p::r) k=yq r k:=by simp[yq,T8,e]
theorem zai (k:κ):∀kvs:List (κ × V),(kvs.any fun kv=>decide (kv.1=k))=(yq kvs k).isSome
 | []=>rfl
 | p::r=>by
  rw[R3];by_cases e:p.1=k
  ·simp only[jW e,decide_eq_true e,Bool.true_or,Option.isSome_some]
  ·rw[jX e,decide_eq_false e,Bool.false_or];exact zai k r
theorem zfF (k j:κ)(y:V):∀kvs:List (κ × V),yq (kvs.map fun kv=>if kv.1=k then (kv.1,y) else kv) j=(yq kvs j).map fun x=>if j=k then y else x
 | []=>rfl
 | p::r=>by
  have ih:=zfF k j y r;rw[Xf];by_cases h:p.1=k
  ·rw[if_pos h];by_cases e:p.1=j
   ·rw[jW (p:=(p.1,y)) e,jW e,T7,if_pos (e.symm.trans h)]
   ·rw[jX (p:=(p.1,y)) e,jX e,ih]
  ·rw[if_neg h];by_cases e:p.1=j
   ·rw[jW (p:=p) e,jW e,T7,if_neg (fun z=>h (e.trans z))]
   ·rw[jX (p:=p) e,jX e,ih]
theorem zdL (k j:κ)(y:V):∀kvs:List (κ × V),yq kvs k=none->yq (kvs++[(k,y)]) j=if j=k then some y else yq kvs j
 | [],_=>by
  by_cases e:k=j
  ·rw[if_pos e.symm];exact jW (p:=(k,y)) e
  ·rw[if_neg (fun z=>e z.symm)];exact jX (p:=(k,y)) e
 | p::r,hn=>by
  rw[PK];have hk:¬ p.1=k:=fun z=>by rw[jW z] at hn;cases hn
  rw[jX hk] at hn;have ih:=zdL k j y r hn;by_cases e:p.1=j
  ·rw[jW e,jW e,if_neg (fun z=>hk (e.trans z))]
  ·rw[jX e,jX e,ih]
theorem Yy (kvs:List (κ × V))(k j:κ)(y:V):yq (putK kvs k y) j=if j=k then some y else yq kvs j:=by
 unfold putK;by_cases a:(kvs.any fun kv=>decide (kv.1=k))=true
 ·rw[if_pos a,zfF];rw[zai] at a;by_cases e:j=k
  ·obtain⟨x,hx⟩:=VV.mp a;rw[if_pos e,e,hx,T7,if_pos rfl]
  ·rw[if_neg e];cases yq kvs j with
   | none=>rfl
   | some x=>rw[T7,if_neg e]
 ·rw[if_neg a];refine zdL k j y kvs ?_;rw[zai] at a;cases q:yq kvs k with
  | none=>rfl
  | some x=>rw[q] at a;exact(a rfl).elim
theorem zbp (kvs:List (κ × V))(k:κ)(v:V):(putK kvs k v).length<=kvs.length+1:=by
 unfold putK;split
 ·rw[Y1];lia
 ·rw[XU,Xs,UL];lia
theorem zb4.isSome_eq {o:Option V}{u:Option X9}(r:zb4 o u):o.isSome=u.isSome:=by
 cases o with
 | none=>cases u with
  | none=>rfl
  | some _=>exact(show False from r).elim
 | some _=>cases u with
  | none=>exact(show False from r).elim
  | some _=>rfl
theorem KV.val {kvs:List (κ × V)}{vs:List (κ × X9)}(r:KV kvs vs)(k:κ):zb4 (yq kvs k) (Os vs k):=by
 unfold KV at r;induction r with
 | nil=>exact Uh
 | @cons p q ps qs h t ih =>
  obtain⟨h1,h2⟩:=h;by_cases e:p.1=k
  ·have e':q.1=k:=h1.symm.trans e;have b:Os (q::qs) k=some q.2:=by simp[Os,T8,e']
   rw[jW e,b];exact h2
  ·have e':¬ q.1=k:=fun z=>e (h1.trans z);have b:Os (q::qs) k=Os qs k:=by simp[Os,T8,e']
   rw[jX e,b];exact ih
theorem KV.any {kvs:List (κ × V)}{vs:List (κ × X9)}(r:KV kvs vs)(k:κ):(kvs.any fun kv=>decide (kv.1=k))=vs.any fun kv=>decide (kv.1=k):=by
 unfold KV at r;induction r with
 | nil=>rfl
 | cons h t ih=>rw[R3,R3,ih,h.1]
theorem KV.repl {kvs:List (κ × V)}{vs:List (κ × X9)}(r:KV kvs vs)(k:κ){y:V}{u:X9}(ry:RelV y u) :
  KV (kvs.map fun kv=>if kv.1=k then (kv.1,y) else kv) (vs.map fun kv=>if kv.1=k then (kv.1,u) else kv):=by
 unfold KV at r ⊢;induction r with
 | nil=>exact .nil
 | @cons p q ps qs h t ih =>
  rw[Xf,Xf];refine .cons ?_ ih;obtain⟨h1,h2⟩:=h;by_cases e:p.1=k
  ·rw[if_pos e,if_pos (h1.symm.trans e)];exact⟨h1,ry⟩
  ·rw[if_neg e,if_neg (fun z=>e (h1.trans z))];exact⟨h1,h2⟩
theorem KV.put {kvs:List (κ × V)}{vs:List (κ × X9)}(r:KV kvs vs)(k:κ){y:V}{u:X9}(ry:RelV y u):KV (putK kvs k y) (stored vs k u):=by
 unfold putK stored;rw[r.any k];by_cases e:(vs.any fun kv=>decide (kv.1=k))=true
 ·rw[if_pos e,if_pos e];exact r.repl k ry
 ·rw[if_neg e,if_neg e];exact Paired.snoc r ⟨rfl,ry⟩
theorem KV.length {kvs:List (κ × V)}{vs:List (κ × X9)}(r:KV kvs vs):kvs.length=vs.length:=Paired.length r
end
theorem zkr {P:Xd}{w:WP}{k:Key}{u:X9}(r:RelV (kV k) u):(zV P w).is k u=true:=by
 cases k with
 | inl i=>obtain⟨t,e⟩:=(show ∃t,u=Vu i t from r);subst e;exact zfo P w i t
 | inr x=>obtain⟨t,e⟩:=(show ∃t,u=NR x t from r);subst e;exact zfp P w x t
theorem zdM {P:Xd}{w:WP}:∀{ks:List Key} {us:List X9},Vals (ks.map kV) us->ItemsAre (zV P w) ks us
 | [],_,r=>by rw[RF] at r;cases r;exact .nil
 | k::ks,_,r=>by
  rw[Xf] at r;cases r with
  | cons h t=>exact .cons (zkr h) (zdM t)
abbrev KT (H:Hp):List (List Key×V)->List (List Key×Addr×X9)->Prop:=WV fun p q=>p.1=q.1/\H q.2.1=some (.tup (p.1.map kV))/\RelV p.2 q.2.2
theorem KT.val {H:Hp}{kvs:List (List Key×V)}{xs:List (List Key×Addr×X9)}(r:KT H kvs xs)(k:List Key):zb4 (yq kvs k) ((NP xs k).map (·.2)):=by
 induction r with
 | nil=>exact Uh
 | @cons p q ps qs h t ih =>
  obtain⟨h1,_,h2⟩:=h;by_cases e:p.1=k
  ·have e':q.1=k:=h1.symm.trans e;have b:NP (q::qs) k=some q.2:=by simp[NP,T8,e']
   rw[jW e,b];exact h2
  ·have e':¬ q.1=k:=fun z=>e (h1.trans z);have b:NP (q::qs) k=NP qs k:=by simp[NP,T8,e']
   rw[jX e,b];exact ih
theorem KT.repl {H:Hp}{kvs:List (List Key×V)}{xs:List (List Key×Addr×X9)}(r:KT H kvs xs)(k:List Key){y:V}{u:X9}(ry:RelV y u) :
  KT H (kvs.map fun kv=>if kv.1=k then (kv.1,y) else kv) (xs.map (putAt k u)):=by
 induction r with
 | nil=>exact .nil
 | @cons p q ps qs h t ih =>
  rw[Xf,Xf];refine .cons ?_ ih;obtain⟨h1,h2,h3⟩:=h;unfold putAt;by_cases e:p.1=k
  ·rw[if_pos e,if_pos (h1.symm.trans e)];exact⟨h1,h2,ry⟩
  ·rw[if_neg e,if_neg (fun z=>e (h1.trans z))];exact⟨h1,h2,h3⟩
theorem KT.put {H:Hp}{kvs:List (List Key×V)}{xs:List (List Key×Addr×X9)}(r:KT H kvs xs)(k:List Key){b:Addr}{y:V}{u:X9}(hb:H b=some (.tup (k.map kV)))(ry:RelV y u) :
  KT H (putK kvs k y) (R5 xs k b u):=by
 have e:(kvs.any fun kv=>decide (kv.1=k))=(NP xs k).isSome:=by
  rw[zai,(r.val k).isSome_eq,Option.isSome_map]
 unfold putK R5;rw[e];by_cases q:(NP xs k).isSome=true
 ·rw[if_pos q,if_pos q];exact r.repl k ry
 ·rw[if_neg q,if_neg q];exact Paired.snoc r ⟨rfl,hb,ry⟩
theorem KT.keeps {H H':Hp}{kvs:List (List Key×V)}{xs:List (List Key×Addr×X9)}(r:KT H kvs xs)(ht:∀b ys,H b=some (.tup ys)->H' b=some (.tup ys)):KT H' kvs xs :=
 Paired.mapP r fun _ _ z=>⟨z.1,ht _ _ z.2.1,z.2.2⟩
section
variable {P:Xd}{w:WP}{H:Hp}{h:Heap}{a:Addr}
theorem znP {u:HO}(ok:HOk P w H h)(e:Rd H a u):qM P w H h a u:=e.ok ok
theorem zks {kvs:List (Key×V)}(ok:HOk P w H h)(e:Rd H a (.dK kvs)):kvs.length<=Xz/\(a==UC)=false/\∃vs,KV kvs vs/\h.DictOf (zV P w) a vs :=
 show qM P w H h a (.dK kvs) from znP ok e
theorem zqa {kvs:List (Key×V)}(ok:HOk P w H h)(e:H a=some (.dK kvs)):kvs.length<=Xz/\(a==UC)=false/\∃vs,KV kvs vs/\h.DictOf (zV P w) a vs:=zks ok (.inl e)
theorem zeK {ks:List Key}(ok:HOk P w H h)(e:H a=some (.tup (ks.map kV))):(VP (zV P w)).is h ks a:=by
 obtain⟨_,its,r,o,h1,h2,n,h3⟩:=(show qM P w H h a (.tup (ks.map kV)) from ok a _ e);exact⟨o,its.toArray,n,h1,h2,h3,by simpa using zdM r⟩
theorem zkt {kvs:List (List Key×V)}(ok:HOk P w H h)(e:Rd H a (.dT kvs)):kvs.length<=Xz/\(a==UC)=false /\
  ∃xs,KT H kvs xs/\h.DictOfH (VP (zV P w)) a xs:=by
 obtain⟨z,y,xs,r,o,es,ep,h1,h2,h3,h4,h5⟩:=(show qM P w H h a (.dT kvs) from znP ok e);refine⟨z,y,xs,r,o,es,ep,h1,h2,h3,h4,fun x hx=>?_,h5⟩;have all:∀{l:List (List Key×V)} {m:List (List Key×Addr×X9)},KT H l m->∀x∈m,(VP (zV P w)).is h x.1 x.2.1:=by
  intro l m q;induction q with
  | nil=>intro x hx;exact nomatch hx
  | @cons p q ps qs hq t ih =>
   intro x hx;rcases XJ.mp hx with e | hx
   ·subst e;exact zeK ok (by rw[<- hq.1];exact hq.2.1)
   ·exact ih x hx
 exact all r x hx
theorem znQ {kvs:List (List Key×V)}(ok:HOk P w H h)(e:H a=some (.dT kvs)):kvs.length<=Xz/\(a==UC)=false /\
  ∃xs,KT H kvs xs/\h.DictOfH (VP (zV P w)) a xs:=zkt ok (.inl e)
end
def zfG (H:Hp)(a:Addr)(y:V)(r:Option V):Prop :=
 (∃kvs k,Rd H a (.dK kvs)/\y=kV k/\r=yq kvs k)\/∃kvs k b,Rd H a (.dT kvs)/\y=.ref b/\H b=some (.tup (k.map kV))/\r=yq kvs k
def zku (H:Hp)(a:Addr)(y v:V)(H':Hp):Prop :=
 (∃kvs k,H a=some (.dK kvs)/\y=kV k/\kvs.length<Xz/\H'=upd H a (.dK (putK kvs k v))) \/
 ∃kvs k b,H a=some (.dT kvs)/\y=.ref b/\H b=some (.tup (k.map kV))/\kvs.length<Xz/\H'=upd H a (.dT (putK kvs k v))
theorem zfG.t {H:Hp}{a b:Addr}{kvs:List (List Key×V)}{k:List Key}(e:H a=some (.dT kvs))(eb:H b=some (.tup (k.map kV))):zfG H a (.ref b) (yq kvs k):=.inr ⟨kvs,k,b,.inl e,rfl,eb,rfl⟩
theorem zku.t {H:Hp}{a b:Addr}{kvs:List (List Key×V)}{k:List Key}{v:V}(e:H a=some (.dT kvs))(eb:H b=some (.tup (k.map kV)))(hl:kvs.length<Xz) :
  zku H a (.ref b) v (upd H a (.dT (putK kvs k v))):=.inr ⟨kvs,k,b,e,rfl,eb,hl,rfl⟩
section
variable {X:Cx}{pins:List (Addr×Obj)}{σ:St}{H:Hp}{s:X8}{a:Addr}{y v:V}{u r:X9}{o:Option V}{A:WK}{E:X9->X8->Prop}
theorem Inv.big (I:Inv X pins σ H s):UC<s.heap.objs.size:=by
 have h:XR<s.heap.objs.size:=(I.mod.glob.keeps I.bk).lt;exact RE (by decide) h
theorem zi6 {Q:X9->X8->Prop}(hu:A.units+1<U1)(I:Inv X pins σ H s)(g:zfG H a y (some v))(ry:RelV y u)(h:∀w' s',Inv X pins σ H s'->RelV v w'->Q w' s') :
  Xg (Xh X.prog X.w) A (Ov (.ref a) u) Q E s:=by
 rcases g with ⟨kvs,k,e,ey,l⟩ | ⟨kvs,k,b,e,ey,eb,l⟩
 ·subst ey;obtain⟨z,hd,vs,rel,dd⟩:=zks I.hok e;obtain⟨w',hw,rw'⟩:=zb4.some_of (v:=v) (o:=Os vs k) (by rw[l];exact rel.val k);exact wpAny_getItem_of (zkr ry) dd.mapOf hw (h w' _ (I.tok _) rw')
 ·subst ey;cases (show u=WU b from ry);obtain⟨z,hd,xs,rel,dd⟩:=zkt I.hok e;obtain⟨w',hw,rw'⟩:=zb4.some_of (v:=v) (o:=(NP xs k).map (·.2)) (by rw[l];exact rel.val k);obtain⟨p,hp,hp2⟩:=Option.map_eq_some_iff.mp hw;refine wpAny_getItem_heap (tupleKind_room_in1 hu) (zeK I.hok eb) dd hp ?_;rw[hp2];exact h w' _ (I.tok _) rw'
theorem zeL {h':Heap}{t':Nat}{ob:HO}(I:Inv X pins σ H s)(mu:Mut (H a))(hs:VL a s.heap h')(he:∃q,h'.get? a=some q)(new:qM X.prog X.w (upd H a ob) h' a ob) :
  Inv X pins σ (upd H a ob) { s with heap:=h',toks:=t' } :=
 I.write (x:=a) (e:=a) mu (.inl rfl) (fun b q hb z=>(hs.2 b hb).trans z) he new
theorem zoN {P:Xd}{w:WP}{H':Hp}{h':Heap}{kvs:List (Key×V)}{vs:List (Key×X9)}(z:kvs.length<=Xz)(hd:(a==UC)=false)(rel:KV kvs vs)(dd:h'.DictOf (zV P w) a vs) :
  qM P w H' h' a (.dK kvs):=⟨z,hd,vs,rel,dd⟩
theorem zi7 {H':Hp}{Q:Unit->X8->Prop}(hu:A.units+1<U1)(I:Inv X pins σ H s)(g:zku H a y v H')(ry:RelV y u)(rv:RelV v r)(h:∀s',Inv X pins σ H' s'->Q () s') :
  Xg (Xh X.prog X.w) A (setItem (.ref a) u r) Q E s:=by
 rcases g with ⟨kvs,k,e,ey,l,eH⟩ | ⟨kvs,k,b,e,ey,eb,l,eH⟩
 ·subst ey eH;obtain⟨z,hd,vs,rel,dd⟩:=zqa I.hok e;have hz:vs.length<=Xz:=by rw[<- rel.length];exact z
  have hl:(putK kvs k v).length<=Xz:=by have:=zbp kvs k v;lia
  refine wpAny_setItem_pairs (hsz:=hz) (zkr ry) dd fun h' dd' hs=>h _ ?_;have he:∃q,h'.get? a=some q:=let ⟨q,_,_,hq,_⟩:=dd';⟨q,hq⟩
  exact zeL I (by rw[e];exact Uh) hs he (zoN hl hd (rel.put k rv) dd')
 ·subst ey eH;cases (show u=WU b from ry);obtain⟨z,hd,xs,rel,dd⟩:=znQ I.hok e;have hz:xs.length<=Xz:=by rw[<- Paired.length rel];exact z
  have hl:(putK kvs k v).length<=Xz:=by have:=zbp kvs k v;lia
  refine wpAny_setItem_heap (hsz:=hz) (tupleKind_room_in1 hu) (zeK I.hok eb) dd fun h' dd' hs=>h _ ?_;obtain⟨q,es,ep,hq,h2,h3,h4,_,h5⟩:=dd';refine zeL I (by rw[e];exact Uh) hs ⟨q,hq⟩ ⟨hl,hd,_,(rel.put k eb rv).keeps fun c ys ec=>?_,q,es,ep,hq,h2,h3,h4,h5⟩;rw[zh (zdz ec e (fun z=>nomatch z))];exact ec
end
section
variable {X:Cx}{pins:List (Addr×Obj)}{σ:St}{H:Hp}{s:X8}{a:Addr}{kvs:List (Key×V)}{k:Key}{u:X9}{A:WK}{E:X9->X8->Prop}
end
def zqb (i:Expr):Prop:=∀ov iv,OP i false ov iv=operate [ov,iv] (Ov ov iv)
theorem zmJ {prog:Xd}{w:WP}{A:WK}{E:X9->X8->Prop}{s:X8}{env:Env}{value slice:Expr}{pos:Pos}{T id:String}{Q:X9->X8->Prop}
  (hl:N9 (.type T) "__getitem__"=pure (some (.builtin id))) (hs:zqb slice)
  (h:Xg (Xh prog w) A (eval value env) (fun o s₁=>Xg (Xh prog w) A (eval slice env) (fun i s₂=>s₂.TypeIs o T/\Xg (Xh prog w) A (Ov o i) Q E s₂) E s₁) E s) :
  Xg (Xh prog w) A (eval (.Subscript value slice pos) env) Q E s:=by
 refine Subscript_ (Wn h (fun o s₁ h₁=>Wn h₁ (fun i s₂ h₂=>?_) fun _ _ x=>x) fun _ _ x=>x);obtain⟨hT,h₂⟩:=h₂;unfold Oh;refine ZB ?_;rw[getitemInPython_of_ne hT.not_modules];refine ZB (O7 hT hl ?_);have fin:Xg (Xh prog w) A (OP slice false o i) (fun r s₃=>Xg (Xh prog w) A (letTemporaryGo value o r >>= fun _=>pure r) Q E s₃) E s₂:=by
  rw[hs o i];exact wpAny_operating (Wn h₂ (fun r s₃ h₃=>ZB (wpAny_letTemporaryGo (X6 h₃))) fun _ _ x=>x)
 first
  | exact X6 (ZB fin)
  | exact ZB (X6 (ZB fin))
  | exact ZB fin
theorem zfH {X:Cx}{pins:List (Addr×Obj)}{σ:St}{H:Hp}{s:X8}{a:Addr}{y:V}{o:Option V}(I:Inv X pins σ H s)(g:zfG H a y o):s.TypeIs (.ref a) "dict":=by
 rcases g with ⟨kvs,k,e,_,_⟩ | ⟨kvs,k,b,e,_,_,_⟩
 ·obtain⟨_,_,vs,_,dd⟩:=zks I.hok e;exact dd.typeIs
 ·obtain⟨_,_,xs,_,dd⟩:=zkt I.hok e;exact dd.typeIs
def zqc (td ty:TE):TE:=fun σ H Q=>td σ H fun x H1=>ty σ H1 fun y H2=>∃a v,x=.ref a/\zfG H2 a y (some v)/\Q v H2
def zqd (td ty tv:TE):TS:=fun D σ H=>tv σ H fun v H1=>td σ H1 fun x H2=>ty σ H2 fun y H3=>∃a H4,x=.ref a/\zku H3 a y v H4/\D.nx σ H4
section
variable {X:Cx}{o i e value:Expr}{pos pos' tpos:Pos}{td ty tv:TE}
theorem zeM (hu:X.A.units+1<U1)(ho:PE X o td)(hi:PE X i ty)(hs:zqb i):PE X (.Subscript o i pos) (zqc td ty):=by
 intro pins s σ H Q I h;refine zmJ PySem.F.slot_dict_getitem.lookup hs (thn (ho pins s σ H _ I h) fun u s1 ⟨x,H1,I1,rx,q1⟩=>thn (hi pins s1 σ H1 _ I1 q1) fun iv s2 ⟨y,H2,I2,ry,a,v,ex,g,q2⟩=>?_);subst ex;obtain rfl:u=WU a:=rx;exact⟨zfH I2 g,zi6 hu I2 g ry fun w' s3 I3 rw'=>⟨v,H2,I3,rw',q2⟩⟩
theorem zmK (hu:X.A.units+1<U1)(ho:PE X o td)(hi:PE X i ty)(hv:PE X value tv)(hs:NQ value (some (.Subscript o i pos')) pos.line X.env=pure false) :
  PS X (.Assign [.Subscript o i pos'] value pos) (zqd td ty tv):=by
 intro pins s σ H D I h;refine wpAny_Assign_Subscript (thn (hv pins s σ H _ I h) fun r s1 ⟨v,H1,I1,rv,q1⟩=>thn (ho pins s1 σ H1 _ I1 q1) fun u s2 ⟨x,H2,I2,rx,q2⟩=>thn (hi pins s2 σ H2 _ I2 q2) fun iv s3 ⟨y,H3,I3,ry,a,H4,ex,g,q3⟩=>?_) hs;subst ex;obtain rfl:u=WU a:=rx;exact zi7 hu I3 g ry rv fun s4 I4=>⟨σ,H4,I4,q3⟩
end
section
variable {X:Cx}{pos:Pos}
end
section
variable {X:Cx}{pins:List (Addr×Obj)}{σ:St}{H:Hp}{s:X8}{a:Addr}{y d:V}{u r:X9}{o:Option V}{A:WK}{E:X9->X8->Prop}
end
section
variable {X:Cx}{o e f:Expr}{apos cpos:Pos}{td ty tx:TE}
end
section
variable {X:Cx}{pins:List (Addr×Obj)}{σ:St}{H:Hp}{s:X8}{a:Addr}{kvs:List (Key×V)}{A:WK}{E:X9->X8->Prop}
end
section
variable {X:Cx}{pins:List (Addr×Obj)}{σ:St}{H:Hp}{s:X8}{a:Addr}{y:V}{u:X9}{A:WK}{E:X9->X8->Prop}
end
theorem zi8:N9 (.type "list") "keys"=pure none:=by rw[RO,T1];kernel_rfl
theorem zi9:N9 (.type "list") "__getattr__"=pure none:=by rw[RO,T1];kernel_rfl
theorem zci:isSubtype (.type "AttributeError") (.type "AttributeError")=pure true:=by rw[OJ];kernel_rfl
theorem zkv (args:List X9):ownMembersOf (.type "AttributeError") args=#[unsetMember,unsetMember]:=rfl
theorem zg3:((Manifest.find? "AttributeError").elim false fun t=>t.mro.contains "StopIteration" || t.mro.contains "SystemExit")=false:=by decide +kernel
section
variable {prog:Xd}{w:WP}{A:WK}{E:X9->X8->Prop}{h:Heap}{g:Array Ut}{d:NJ}{t:Nat}{os:N4}{a:Addr}{its:Array X9}{n:Nat}
theorem zkw {tk:Tok}{Q:Fin->X8->Prop}(hx:h.get? a=some { cls:=.type "list",dict:=none,data:=.seq its n,slots:=#[] })(hh:A.handled=none)
  (he:∀h' t' e,(∀b o',h.get? b=some o'->h'.get? b=some o')->(⟨h',g,d,t',os⟩:X8).TypeIs (.ref e) "AttributeError"->E (.ref e) ⟨h',g,d,t',os⟩) :
  Xg (Xh prog w) A (Vc.«object.__getattribute__» ⟨[.ref a,.str "keys" tk],[]⟩) Q E ⟨h,g,d,t,os⟩:=by
 have hT:(⟨h,g,d,t,os⟩:X8).TypeIs (.ref a) "list":=⟨_,hx,rfl⟩;have f4:=zi8;have f5:=zci;repeat (any_goals (first | assumption | wp_step))
 unfold raiseAttrError;refine ZB (wpAny_mkStr (ZB ?_) (by decide +kernel));unfold newExc newTuple;refine ZB (Wq ?_);refine ZB (m:=TR _ _) (OO (a:=VC) (by simp only[TR,zg3];rfl) ?_);rw[zkv];refine Wq ?_;refine ZB (wpAny_mkText ?_);refine ZB ?_;unfold noteAttr lacksNameAndObj;repeat (any_goals (first | assumption | wp_step))
 unfold raiseNew;refine ZB (Oe ?_);rw[hh];refine ZB (X6 (NN ?_));dsimp only;refine he _ _ _ (fun b o' hb=>?_) ?_
 ·rw[(VO ..).2 b (Xk ?_)]
  ·exact XZ _ (XZ _ hb)
  ·rw[Vi];exact WF (XO hb)
 ·refine⟨_,Wi _ (Xl _ rfl) rfl,rfl⟩
theorem zmL {tk:Tok}{R:NS->X8->Prop}(hx:h.get? a=some { cls:=.type "list",dict:=none,data:=.seq its n,slots:=#[] })(hh:A.handled=none)
  (he:∀h' t' e,(∀b o',h.get? b=some o'->h'.get? b=some o')->(⟨h',g,d,t',os⟩:X8).TypeIs (.ref e) "AttributeError"->R (.error (.ref e)) ⟨h',g,d,t',os⟩) :
  TJ (Xh prog w) A (.call (.builtin "list.__getattribute__") ⟨[.ref a,.str "keys" tk],[]⟩) R ⟨h,g,d,t,os⟩ :=
 TL PySem.F.slot_list_getattribute.plain PySem.F.entry_list_ga (PySem.F.slot_list_getattribute.check _ _ _ _ _ _ _ _ (show (⟨h,g,d,t,os⟩:X8).TypeIs (.ref a) "list" from ⟨_,hx,rfl⟩) (PySem.F.args_list_getattribute_2 _ _) (zkw hx (by simp[hh]) he))
theorem zqe {tk:Tok}{Q:X9->X8->Prop}(hx:h.get? a=some { cls:=.type "list",dict:=none,data:=.seq its n,slots:=#[] })(hh:A.handled=none)
  (he:∀h' t' e,(∀b o',h.get? b=some o'->h'.get? b=some o')->(⟨h',g,d,t',os⟩:X8).TypeIs (.ref e) "AttributeError"->E (.ref e) ⟨h',g,d,t',os⟩) :
  Xg (Xh prog w) A (getAttrBy (.ref a) (.str "keys" tk) false) Q E ⟨h,g,d,t,os⟩:=by
 have hT:(⟨h,g,d,t,os⟩:X8).TypeIs (.ref a) "list":=⟨_,hx,rfl⟩;have f2:=PySem.F.slot_list_getattribute.lookup;have f3:=PySem.F.slot_list_getattribute.bind (.ref a);have f4:=zi9;have f5:=zci;repeat (any_goals (first | assumption | wp_step))
 refine zmL hx (by simp[hh]) fun h' t' e kp hE=>?_;repeat (any_goals (first | assumption | wp_step))
 exact he _ _ _ kp hE
theorem zmM {Q:Option X9->X8->Prop}(hx:h.get? a=some { cls:=.type "list",dict:=none,data:=.seq its n,slots:=#[] })(hh:A.handled=none)
  (hq:∀h' t',(∀b o',h.get? b=some o'->h'.get? b=some o')->Q none ⟨h',g,d,t',os⟩) :
  Xg (Xh prog w) A (ND (.ref a) "keys") Q E ⟨h,g,d,t,os⟩:=by
 have f5:=zci;unfold ND getAttrBy?;refine ZB (wpAny_mkText (ZB (To ?_)));refine zqe (t:=t+1) hx hh fun h' t' e kp hE=>?_;repeat (any_goals (first | assumption | wp_step))
 exact hq _ _ kp
theorem zaj:NC table "dict.update.loop"=some Vc.«dict.update.loop»:=entryFor_of_tree (by kernel_rfl)
theorem Js:plainId "dict.update.loop"=true:=by decide +kernel
end
section
variable {prog:Xd}{w:WP}{A:WK}{R:NS->X8->Prop}{I:Addr}{fp wr:List Addr}{G:Array Ut->Array Ut->Prop}{n:Nat}{P:Nat->X9->Prop}{St:Nat->X8->Prop}
abbrev KQ:=List Key×Addr×X9
def putAll (ks:List KQ):List KQ:=ks.foldl (fun acc q=>R5 acc q.1 q.2.1 q.2.2) []
theorem putAll_snoc (ks:List KQ)(q:KQ):putAll (ks++[q])=R5 (putAll ks) q.1 q.2.1 q.2.2:=by
 unfold putAll;rw[Sv];rfl
theorem zfI (xs:List KQ)(k:List Key)(a:Addr)(v:X9):(R5 xs k a v).length<=xs.length+1:=by
 unfold R5;split
 ·rw[Y1];lia
 ·rw[XU];exact XW _
theorem zcj (ks:List KQ):(putAll ks).length<=ks.length:=by
 suffices h:∀(ks acc:List KQ),(ks.foldl (fun acc q=>R5 acc q.1 q.2.1 q.2.2) acc).length<=acc.length+ks.length by
  have:=h ks [];simpa[putAll] using this
 intro ks;induction ks with
 | nil=>intro acc;exact XW _
 | cons q r ih =>
  intro acc;have h1:=ih (R5 acc q.1 q.2.1 q.2.2);have h2:=zfI acc q.1 q.2.1 q.2.2;rw[VX,Xs];lia
theorem zeN {A:WK}{E:X9->X8->Prop}{s:X8}{ta:Addr}{x y:X9}{Q:List X9->X8->Prop}(h:NK s.heap ta #[x,y])(q:Q [x,y] s):Xg (Xh prog w) A (Ph (.ref ta)) Q E s:=by
 obtain⟨o,h1,h2,n,h3⟩:=h;have hT:s.TypeIs (.ref ta) "tuple":=⟨o,h1,h2⟩;unfold Ph;repeat (any_goals (first | assumption | wp_step))
 rw[h3];exact X6 (X6 q)
end
section
variable {prog:Xd}{w:WP}{A:WK}{R:NS->X8->Prop}{I:Addr}{fp wr:List Addr}{G:Array Ut->Array Ut->Prop}{n:Nat}{P:Nat->X9->Prop}{St:Nat->X8->Prop}
theorem zbq (T:List Key->Addr->Prop):∀(js acc:List KQ),(∀x∈acc,T x.1 x.2.1)->(∀x∈js,T x.1 x.2.1)->∀x∈js.foldl (fun acc q=>R5 acc q.1 q.2.1 q.2.2) acc,T x.1 x.2.1
 | [],_,ha,_=>ha
 | q::r,acc,ha,hj=>by
  rw[VX];refine zbq T r _ (fun x hx=>?_) fun x hx=>hj x (XT _ hx);unfold R5 at hx;split at hx
  ·obtain⟨y,hy,rfl⟩:=XC.mp hx;have:=ha y hy;unfold putAt;split
   ·exact this
   ·exact this
  ·rcases XG.mp hx with hx | hx
   ·exact ha x hx
   ·have e:x=(q.1,q.2.1,q.2.2):=by simpa using hx
    subst e;exact hj q XS
theorem zg4 {h0:Heap}(W:WalksS prog w A.in1 I fp wr G n P St)(D:Addr)(hDf:D ∉ fp)(hD0:h0.get? D=none)(hw0:∀b∈wr,h0.get? b=none)(ks:List KQ)(hlen:ks.length=n)(hb:n<=Xz)(hu:A.units+1<U1)
  (hks:∀q∈ks,(VP (zV prog w)).is h0 q.1 q.2.1) (hP:∀i v,P i v->∃ta q,v=.ref ta/\ks[i]?=some q/\NK h0 ta #[.ref q.2.1,q.2.2]) :
  ∀(k i:Nat) (s:X8),n-i=k->i<=n->St i s->(∀b o,h0.get? b=some o->s.heap.get? b=some o)->s.heap.DictOfH (VP (zV prog w)) D (putAll (ks.take i)) ->
   (∀s',Moved (D::wr) G s s'->s'.heap.DictOfH (VP (zV prog w)) D (putAll ks)->R (.ok (.ret .none)) s') ->
   TJ (Xh prog w) A (.builtin "dict.update.loop" ⟨[.ref D,.ref I,UW (i:Int),.none],[]⟩) R s:=by
 have hDw:D ∉ wr:=fun h=>hDf (W.sub _ h);have more:∀b∈wr,b∈D::wr:=fun b hb=>XT _ hb;have tup_up:∀{h:Heap} {ta:Addr} {xs:Array X9},(∀b o,h0.get? b=some o->h.get? b=some o)->NK h0 ta xs->NK h ta xs:=fun kp ⟨o,h1,h2,m,h3⟩=>⟨o,kp _ _ h1,h2,m,h3⟩;have key_up:∀{h:Heap} {ka:Addr} {q:List Key},(∀b o,h0.get? b=some o->h.get? b=some o)->(VP (zV prog w)).is h0 q ka->(VP (zV prog w)).is h q ka:=fun kp ⟨o,xs,m,h1,h2⟩=>⟨o,xs,m,kp _ _ h1,h2⟩;have dict_to:∀{s s':X8} {xs:List KQ},Moved wr G s s'->(∀b o,h0.get? b=some o->s'.heap.get? b=some o)->(∀x∈xs,(VP (zV prog w)).is h0 x.1 x.2.1)->s.heap.DictOfH (VP (zV prog w)) D xs->s'.heap.DictOfH (VP (zV prog w)) D xs :=
  fun hm kp hk ⟨o,es,ep,e1,e2,e3,e4,_,e6⟩=>⟨o,es,ep,hm.heap D _ hDw e1,e2,e3,e4,fun x hx=>key_up kp (hk x hx),e6⟩
 have keep_to:∀{s s':X8},Moved wr G s s'->(∀b o,h0.get? b=some o->s.heap.get? b=some o)->∀b o,h0.get? b=some o->s'.heap.get? b=some o:=fun hm kp b o e =>
  hm.heap b o (fun hb=>by
   rw[hw0 b hb] at e;cases e) (kp b o e)
 have keys0:∀i,∀x∈putAll (ks.take i),(VP (zV prog w)).is h0 x.1 x.2.1:=fun i=>zbq (fun a b=>(VP (zV prog w)).is h0 a b) _ [] (fun x hx=>nomatch hx) fun x hx=>hks x (V6 hx);intro k;induction k with
 | zero =>
  intro i s hk hi hst kp hS hR;have hin:i=n:=by lia
  subst hin;refine VQ zaj ?_;rw[V5 Js _];show Xg _ A.in1 (Tb (.ref I) >>= _) _ _ s;refine ZB (W.done s _ _ hst fun s' hm=>?_);show Xg _ A.in1 (Builtin.Dict.addKeywords D [] >>= fun _=>ret VC) _ _ s';refine ZB (X6 (X6 (hR s' (hm.mono more) ?_)));have:=dict_to hm (keep_to hm kp) (keys0 _) hS;rw[<- hlen,Xw] at this;exact this
 | succ k ih =>
  intro i s hk hi hst kp hS hR;have hlt:i<n:=by lia
  refine VQ zaj ?_;rw[V5 Js _];show Xg _ A.in1 (Tb (.ref I) >>= _) _ _ s;refine ZB (W.item i s _ _ hlt hst fun v s' hPv hst' hm=>?_);obtain⟨ta,q,rfl,hq,ht⟩:=hP i v hPv;have kp':=keep_to hm kp;have hS':=dict_to hm kp' (keys0 _) hS;have l1:=zcj (ks.take i);have l2:(ks.take i).length<=n:=by
   rw[XE];lia
  have tk:ks.take (i+1)=ks.take i++[q]:=by
   rw[Xu,hq];rfl
  refine ZB (Wd (ZB (wpAny_tryCatch (zeN (tup_up kp' ht) ?_))));refine Wd (wpAny_dictSet_heap (show A.in1.units<U1 from hu) (key_up kp' (hks q (X0 hq))) hS' (fun h' hd' hs'=>?_) (by lia));have kp2:∀b o,h0.get? b=some o->h'.get? b=some o:=fun b o e=>by
   rw[hs'.2 b (fun z=>by
    rw[z,hD0] at e;cases e)]
   exact kp' b o e
  have d2:h'.DictOfH (VP (zV prog w)) D (putAll (ks.take (i+1))):=by
   rw[tk,putAll_snoc];exact hd'
  refine X6 ⟨Uz Js _,?_⟩;show TJ _ A (.builtin "dict.update.loop" ⟨[.ref D,.ref I,UW ((i:Int)+1),.none],[]⟩) R _;rw[show ((i:Int)+1)=((i+1:Nat):Int) by lia];refine ih (i+1) _ (by lia) hlt (W.frame _ s' _ _ hst' (TB _ _) fun b hb o e=>?_) kp2 d2 fun s'' hm'' hS''=>?_
  ·rw[hs'.2 b (fun z=>hDf (by rw[<- z];exact hb))];exact e
  ·refine hR s'' (Moved.trans W.gtrans ((hm.mono more).then_heap (TB _ _) fun b o hb e=>?_) hm'') hS'';rw[hs'.2 b (fun z=>hb (by rw[z];exact XS))];exact e
end
def zqf (H:Hp)(v:V)(kv:List Key×V):Prop:=∃a b,v=V.ref a/\H a=some (.tup [.ref b,kv.2])/\H b=some (.tup (kv.1.map kV))
def jY (H:Hp):List V->List (List Key×V)->Prop:=WV (zqf H)
theorem jY.mono {H H':Hp}(s:zu H H'){vs:List V}{kvs:List (List Key×V)}(hp:jY H vs kvs):jY H' vs kvs:=by
 induction hp with
 | nil=>exact .nil
 | cons q _ ih =>
  obtain⟨a,b,e,h1,h2⟩:=q;exact .cons ⟨a,b,e,s _ _ h1,s _ _ h2⟩ ih
def Yn (kvs:List (List Key×V)):List (List Key×V):=kvs.foldl (fun acc kv=>putK acc kv.1 kv.2) []
theorem KT.puts {H:Hp}{kvs:List (List Key×V)}{ks:List KQ}{acc:List (List Key×V)}{xs:List KQ}(hp:KT H kvs ks)(r:KT H acc xs):KT H (kvs.foldl (fun acc kv=>putK acc kv.1 kv.2) acc) (ks.foldl (fun acc q=>R5 acc q.1 q.2.1 q.2.2) xs):=by
 induction hp generalizing acc xs with
 | nil=>exact r
 | cons q _ ih =>
  obtain⟨h1,h2,h3⟩:=q;rw[VX,VX];refine ih ?_;rw[<- h1];exact r.put _ h2 h3
theorem zmN {P:Xd}{w:WP}{H:Hp}{h:Heap}(ok:HOk P w H h){kvs:List (List Key×V)}{ks:List KQ}(hp:KT H kvs ks):∀x∈ks,(VP (zV P w)).is h x.1 x.2.1:=by
 induction hp with
 | nil=>exact fun x hx=>nomatch hx
 | cons q _ ih =>
  intro x hx;rcases XJ.mp hx with e | hx
  ·subst e;exact zeK ok (by rw[<- q.1];exact q.2.1)
  ·exact ih x hx
theorem zmO {P:Xd}{w:WP}{H:Hp}{h:Heap}(ok:HOk P w H h){vs:List V}{kvs:List (List Key×V)}{its:List X9}(hp:jY H vs kvs)(hv:Vals vs its):∃ks:List KQ,KT H kvs ks/\ks.length=its.length/\(∀(i:Nat) (v:X9),its[i]?=some v->∃(ta:Addr) (q:KQ),v=WU ta/\ks[i]?=some q/\NK h ta #[.ref q.2.1,q.2.2]):=by
 induction hp generalizing its with
 | nil =>
  cases hv;exact⟨[],.nil,rfl,fun i v e=>by simp at e⟩
 | @cons x kv xs ys q _ ih =>
  obtain⟨a,b,e,h1,h2⟩:=q;cases hv with
  | cons rv rs =>
  obtain⟨ks,k1,k2,k3⟩:=ih rs;subst e;cases rv;obtain⟨_,xs,r,tp⟩:=(show qM P w H h a (.tup [.ref b,kv.2]) from ok a _ h1);obtain⟨u,u2,rfl,ru,ru2⟩:=vals2 r;cases ru;refine⟨(kv.1,b,u2)::ks,.cons ⟨rfl,h2,ru2⟩ k1,by rw[Xs,Xs,k2],fun i v e=>?_⟩;cases i with
  | zero =>
   have e':WU a=v:=by simpa using e
   exact⟨a,_,e'.symm,rfl,tp⟩
  | succ i =>
   obtain⟨ta,q,h1,h2,h3⟩:=k3 i v (by simpa using e);exact⟨ta,q,h1,by simpa using h2,h3⟩
section
variable {X:Cx}
set_option maxHeartbeats 8000000 in
theorem Jd (hu:X.A.units+64<U1)(hh:X.A.handled=none):jT X (.type "dict") (fun xs H Q=>∃l us kvs,xs=[.ref l]/\H l=some (.lst us)/\jY H us kvs/\∀d,H d=none->Q (.ref d) (upd H d (.dT (Yn kvs)))):=by
 intro pins s σ H xs us' Q I r h;obtain⟨l,us,kvs,rfl,hl,hp,q⟩:=h;obtain⟨u,rfl,ru⟩:=vals1 r;cases ru;obtain⟨hz,its,n,rv,e⟩:=(show qM X.prog X.w H s.heap l (.lst us) from I.hok l _ hl);obtain⟨ks,hkt,hkl,hraw⟩:=zmO I.hok hp rv;have big:=I.big;have hil:its.length<=Xz:=by
  rw[<- rv.length];exact hz
 have hks:=zmN I.hok hkt;refine callType_codes (Q₁:=fun obj s₁=>obj=.ref s.heap.objs.size/\s₁={ s with heap:=s.heap.push { cls:=.type "dict",data:=.dict #[] } }) PySem.F.kt_called_dict (PySem.F.kt_typeCall_dict_1 _) PySem.F.entry_dict_init (kt_code_dict_new _ ⟨rfl,rfl⟩) ?_;rintro obj s₁ ⟨rfl,rfl⟩;have hnew:(s.heap.push { cls:=.type "dict",data:=.dict #[] }).DictOfH (VP (zV X.prog X.w)) s.heap.objs.size []:=Heap.DictOfH.new s.heap;have e1:(s.heap.push { cls:=.type "dict",data:=.dict #[] }).get? l=some { cls:=.type "list",dict:=none,data:=.seq its.toArray n,slots:=#[] }:=XZ _ e;refine⟨hnew.typeIs,PySem.F.args_dict_init_2 _ _,?_⟩;unfold Vc.«dict.__init__»;refine ZB ?_;unfold Builtin.Dict.selfAndRest;refine ZB (Se hnew.typeIs ?_);show Xg _ _ (pure (s.heap.objs.size,[WU l])) _ _ _;refine X6 ?_;show Xg _ _ (Px "dict.__init__" s.heap.objs.size (.ref l) [] .none) _ _ _;unfold Px;have hT:R1 { s with heap:=s.heap.push { cls:=.type "dict",data:=.dict #[] } } (.ref l) "list":=⟨_,e1,rfl⟩;refine ZB (Pm hT ?_);rw[if_pos (by decide)];refine ZB (zmM e1 (by simp[hh]) fun h2 t2 kp=>?_);rw[if_pos (show (none:Option X9).isNone=true from rfl)];have kp0:∀b o',s.heap.get? b=some o'->h2.get? b=some o':=fun b o' z=>kp b o' (XZ _ z);have hl2:h2.IsList l its.toArray:=⟨_,kp _ _ e1,rfl,n,rfl⟩;refine ZB (UB (ZB (Sy hl2 ?_)));have hls:l<s.heap.objs.size:=XO e;have hDl:s.heap.objs.size<h2.objs.size:=by
  obtain⟨o,_,_,ho,_⟩:=hnew;exact XO (kp _ _ ho)
 have hneI:l≠h2.objs.size:=Xk (RE hls hDl);have hDf:s.heap.objs.size ∉ [h2.objs.size,l]:=by
  simp only[XJ,Vn,or_false,not_or];exact⟨Xk hDl,UH hls⟩
 refine X6 ⟨Uz Js _,?_⟩;have hd2:(h2.push { cls:=.type "list_iterator",data:=.fields #[.ref l,.int 0 0] }).DictOfH (VP (zV X.prog X.w)) s.heap.objs.size []:=by
  obtain⟨o,es,ep,ho,h3,h4,h5,_,h6⟩:=hnew;exact⟨o,es,ep,XZ _ (kp _ _ ho),h3,h4,h5,(fun x hx=>nomatch hx),h6⟩
 refine zg4 (h0:=s.heap) ((Walks.list (by simp[hh]) h2.objs.size l hneI its.toArray).toS) s.heap.objs.size hDf (UE (XW _)) (fun b hb=>?_) ks (by rw[hkl];simp) (by simpa using hil) (by show X.A.units+1+1<U1;lia) hks (fun i v hv=>hraw i v (by rw[<- hv];simp)) _ 0 _ rfl (W5 _)
  ⟨⟨_,Xl _ rfl,rfl,rfl⟩,hl2.push _⟩ (fun b o z=>XZ _ (kp0 b o z)) hd2 ?_
 ·have e:b=h2.objs.size:=by simpa using hb
  rw[e];exact UE (SN hDl)
 ·intro s' hm hS';obtain⟨h',g',d',tk',os'⟩:=s';have eg:g'=s.gens:=hm.gens;have ed:d'=s.drawn:=hm.drawn;have eo:os'=s.os:=hm.os;subst eg;subst ed;subst eo;have kp3:∀b o',s.heap.get? b=some o'->h'.get? b=some o':=fun b o' z=>by
   have lt:=XO z;refine hm.heap b o' (fun hb=>?_) (XZ _ (kp0 b o' z));rcases XJ.mp hb with e | hb
   ·exact V8 _ (e ▸ lt)
   ·have e:b=h2.objs.size:=by simpa using hb
    rw[e] at lt;exact V8 _ (RE lt hDl)
  obtain⟨o,es,ep,ho,h3,h4,h5,_,h6⟩:=hS';have hkk:KT H (Yn kvs) (putAll ks):=KT.puts hkt .nil;have hfresh:H s.heap.objs.size=none:=I.hok.fresh (XW _);refine⟨rfl,.ref s.heap.objs.size,_,I.laid (a:=s.heap.objs.size) (o:=.dT (Yn kvs)) (t':=tk') kp3 (XW _) ⟨?_,beq_eq_false_iff_ne.mpr (US (Xk big)),_,KT.keeps hkk fun b ys hb=>?_,o,es,ep,ho,h3,h4,h5,h6⟩,rfl,q _ hfresh⟩
  ·rw[Paired.length hkk];exact X5 (zcj ks) (by rw[hkl];exact hil)
  ·rw[zh (zj hb hfresh)];exact hb
end
theorem u1 {A:PySem.Around}(h:A.units+64<PySem.cLine):A.units+1<PySem.cLine:=by lia
section
variable {K:X2}{g:TG}{tc:TT}{te:TE}{Q:VK}{σ0:St}{D:Addr}
theorem zkx {l1 l2:Addr}{xs ys:List V}(Pv:Nat->St->Hp->Prop){H:Hp}(he:xs.length=ys.length)(h0:Pv 0 σ0 H)(hl:∀i σ H,i<=xs.length->Pv i σ H->SqL K H l1 xs/\SqL K H l2 ys)
  (hs:∀i x y T σ H,xs[i]?=some x->ys[i]?=some y->H T=none->Pv i σ H->g (.ref T) σ (upd H T (.tup [x,y])) fun σ2 H3=>tc σ2 H3 fun b H4=>if b=true then te σ2 H4 fun y H5=>∃zs,H5 D=some (.lst zs)/\zs.length<Xz/\Pv (i+1) σ2 (upd H5 D (.lst (zs++[y]))) else Pv (i+1) σ2 H4)
  (hd:∀ σ H,Pv xs.length σ H->Q (.ref D) H):JH (Itz K l1 l2) g tc te Q D σ0 H:=by
 refine⟨fun i m σ H=>m=xs.length-i/\i<=xs.length/\Pv i σ H,⟨xs.length,by simp,W5 _,h0⟩,?_⟩;rintro i m σ H ⟨rfl,hi,p⟩;obtain⟨q1,q2⟩:=hl i σ H hi p;by_cases hlt:i<xs.length
 ·refine .inr ⟨⟨xs,ys,q1,q2,hlt,by lia⟩,Pv (i+1),fun σ' H' p'=>⟨xs.length-(i+1),by lia,rfl,hlt,p'⟩,fun x H' y=>?_⟩;obtain⟨T,rfl,hT,y⟩:=y;obtain⟨v,v',hv,hv',rfl⟩:=y xs ys q1 q2;exact hs i v v' T σ H hv hv' hT p
 ·have e:i=xs.length:=by lia
  subst e;exact .inl ⟨⟨xs,ys,q1,q2,by lia⟩,hd σ H p⟩
end
theorem jY.into {H:Hp}(z:Addr)(o:HO){old:List V}(hz:H z=some (.lst old)):∀{vs:List V} {kvs:List (List Key×V)},jY H vs kvs->jY (upd H z o) vs kvs
 | _,_,.nil=>.nil
 | _,_,.cons ⟨a,b,e,h1,h2⟩ t=>.cons ⟨a,b,e,by rw[zh (zdz h1 hz (by intro y;cases y))];exact h1,by rw[zh (zdz h2 hz (by intro y;cases y))];exact h2⟩ (jY.into z o hz t)
theorem jY.snoc {H:Hp}{vs:List V}{kvs:List (List Key×V)}{v:V}{kv:List Key×V}(h:jY H vs kvs)(x:zqf H v kv):jY H (vs++[v]) (kvs++[kv]):=Paired.snoc h x
theorem jY.length {H:Hp}{vs:List V}{kvs:List (List Key×V)}(h:jY H vs kvs):vs.length=kvs.length:=Paired.length h
theorem zaY {v:V}{k:List Key}:∀(ks:List (List Key)) (acc:List (List Key×V)),(k∈ks\/yq acc k=some v)->yq ((ks.map fun x=>(x,v)).foldl (fun acc kv=>putK acc kv.1 kv.2) acc) k=some v
 | [],acc,h=>by
  rcases h with h | h
  ·cases h
  ·exact h
 | x::r,acc,h=>by
  rw[Xf,VX];refine zaY r _ ?_;rw[Yy];by_cases e:k=x
  ·rw[if_pos e];exact .inr rfl
  ·rw[if_neg e];rcases h with h | h
   ·rcases XJ.mp h with h | h
    ·exact absurd h e
    ·exact .inl h
   ·exact .inr h
section
variable {prog:Xd}{w:WP}{A:WK}{E:X9->X8->Prop}{s:X8}{d o a:Addr}{xs ys:List KQ}{k:List Key}{v:X9}
abbrev tk2 (prog:Xd)(w:WP):HeapKind prog w (List Key):=VP (zV prog w)
end
def HH (i j:Nat):Int:=reduceHash (Builtin.Tuple.tupleHashOf [hashInt (i:Int),hashInt (j:Int)])
theorem zak (prog:Xd)(w:WP)(i j:Nat):(tk2 prog w).hash [.inl ((i:Nat):Int),.inl ((j:Nat):Int)]=HH i j:=by
 show tupleKeyHash (zV prog w) [.inl ((i:Nat):Int),.inl ((j:Nat):Int)]=HH i j;unfold tupleKeyHash HH;rw[Xf,Xf,RF];have e:∀n:Nat,(zV prog w).hash (.inl ((n:Nat):Int))=hashInt ((n:Nat):Int):=fun n=>by
  show zoc w (.inl ((n:Nat):Int))=_;unfold zoc;with_reducible rfl
 rw[e,e]
theorem zoO:(XD 64).all fun n=>(XD 64).all fun m=>decide (HH (n/8) (n%8)=HH (m/8) (m%8))==decide (n=m):=by decide +kernel
theorem zky {i j i' j':Nat}(h1:i<8)(h2:j<8)(h3:i'<8)(h4:j'<8)(e:HH i j=HH i' j'):i=i'/\j=j':=by
 have h:=zoO;rw[WL] at h;have a:=h (8*i+j) (Xc.mpr (by lia));rw[WL] at a;have b:=a (8*i'+j') (Xc.mpr (by lia));rw[show (8*i+j)/8=i by lia,show (8*i+j)%8=j by lia,show (8*i'+j')/8=i' by lia,show (8*i'+j')%8=j' by lia,decide_eq_true e] at b;have c:decide (8*i+j=8*i'+j')=true:=by simpa using b
 have d:=of_decide_eq_true c;lia
section
variable {X:Cx}
end
section
variable {X:Cx}
theorem zja:MtR X "dict.clear" (fun x vs H Q=>∃d kvs,x=.ref d/\vs=[]/\H d=some (.dT kvs)/\Q .non (upd H d (.dT []))):=by
 intro pins s σ H x vs v us Q I rx rv h;obtain⟨d,kvs,rfl,rfl,hd,q⟩:=h;cases rx;have hus:us=[]:=by
  cases rv;rfl
 subst hus;obtain⟨hz,hS,ks,hkt,dd⟩:=znQ I.hok hd;obtain⟨ob,es,ep,hob,h3,h4,h5,h6,h7⟩:=id dd;refine V9 Pw dd.typeIs PySem.F.entry_dict_clear ?_ (PySem.F.args_dict_clear_1 _);unfold Vc.«dict.clear»;refine ZB ?_;unfold RK;refine ZB (Se dd.typeIs ?_);have hmark:(ob.cls==Rz "dict" && !ob.slots.isEmpty)=false:=by rw[h3.2.2];simp
 show Xg _ _ (pure d) _ _ s;refine X6 ?_;refine ZB (Su hob h4 ?_);unfold bearsInstanceDictMark;refine ZB (ZB (wpAny_load hob (X6 ?_)));refine ZB (wpAny_updateDictKeysTo hob h4 ?_ (by simp));rw[hmark];refine ZB (wpAny_letGo (X6 ⟨_,rfl,?_⟩));refine⟨.non,_,zeL (t':=s.toks) (ob:=.dT []) I (by rw[hd];exact Uh) (VO ..) ⟨_,Wi _ hob (Oo (RT h4 _))⟩ ⟨W5 _,hS,[],.nil,_,_,_,Wi _ hob (Oo (RT h4 _)),h3.mapDictKeys _,RT h4 _,rfl,TQ⟩,rfl,q⟩
end
section
variable {prog:Xd}{w:WP}{A:WK}{E:X9->X8->Prop}{s:X8}{a b:Addr}{H:Hp}{kvs:List (List Key×V)}{ka kb:List KQ}
end
section
variable {X:Cx}
end
section
variable {prog:Xd}{w:WP}{A:WK}{E:X9->X8->Prop}{s:X8}{d it:Addr}{od:Obj}{es:Array PU}{ep i:Nat}
theorem zmP {e:PU}{Q:Option X9->X8->Prop}(hit:s.heap.IsKeyIter it d i es.size ep)(hod:s.heap.get? d=some od)(hdd:od.data=.dict es ep)(hx:es[i]?=some e)
  (hQ:∀h',h'.IsKeyIter it d (i+1) es.size ep->VL it s.heap h'->Q (some e.key) { s with heap:=h' }):Xg (Xh prog w) A (Tb (.ref it)) Q E s:=by
 obtain⟨o,ho,hc,hd⟩:=id hit;unfold Tb;refine ZB (To (Um (name:=Pl "__next__") hit.typeIs VH (V9 VH hit.typeIs Th ?_ (Tr _))));refine ZB (X6 (ZB (ZB ?_)));first | refine ZB (Vd hit.typeIs (X6 ?_)) | refine ZB (Ux hit.typeIs (X6 ?_))
 refine ZB (Ry ho hd ?_);have hown:T5 "dict_keyiterator"=false:=by decide
 simp only[hown,WG,if_false];show Xg _ _ (if (WU d==VC)=true then _ else _) _ _ s;rw[if_neg (show ¬ ((WU d==VC)=true) from XX)];refine ZB (X6 (ZB (Su hod hdd ?_)));rw[if_neg (by simp)];refine ZB (X6 (ZB (O6 hod hdd ?_)));rw[if_neg (by simp)];refine X6 ?_;simp only[show ¬ ((i:Int)<0) from by lia,if_false,WY,hx];refine ZB ?_;first | refine ZB (Vd hit.typeIs (X6 ?_)) | refine ZB (Ux hit.typeIs (X6 ?_))
 refine ZB (O0 hit.typeIs ?_);show Xg _ _ (setField (.ref it) 1 (UW ((i:Int)+1)) >>= _) _ _ s;refine ZB (SD ho hd (by simp) ?_);have hit':(s.heap.update it (T3 (·.setIfInBounds 1 (UW ((i:Int)+1))))).IsKeyIter it d (i+1) es.size ep :=
  ⟨_,Wi _ ho (Obj.isFreed_of_fields (Obj.data_mapFields hd _)),(Obj.cls_mapFields ..).trans hc,by rw[Obj.data_mapFields hd];simp[UW]⟩
 refine ZB (Wd ?_);refine ZB (O0 (s:={ s with heap:=s.heap.update it (T3 (·.setIfInBounds 1 (UW ((i:Int)+1)))) }) hit'.typeIs ?_);show Xg _ _ (pure e.key) _ _ _;exact X6 (X6 ⟨_,rfl,X6 (hQ _ hit' (VO ..))⟩)
theorem zoP {Q:Option X9->X8->Prop}(hh:A.handled=none)(hit:s.heap.IsKeyIter it d i es.size ep)(hod:s.heap.get? d=some od)(hdd:od.data=.dict es ep)(hge:es.size<=i)
  (hQ:∀h',Heap.ExtBut it s.heap h'->Q none { s with heap:=h' }):Xg (Xh prog w) A (Tb (.ref it)) Q E s:=by
 obtain⟨o,ho,hc,hd⟩:=id hit;unfold Tb;refine ZB (To (Um (name:=Pl "__next__") hit.typeIs VH (V9 VH hit.typeIs Th ?_ (Tr _))));refine ZB (X6 (ZB (ZB ?_)));first | refine ZB (Vd hit.typeIs (X6 ?_)) | refine ZB (Ux hit.typeIs (X6 ?_))
 refine ZB (Ry ho hd ?_);have hown:T5 "dict_keyiterator"=false:=by decide
 simp only[hown,WG,if_false];show Xg _ _ (if (WU d==VC)=true then _ else _) _ _ s;rw[if_neg (show ¬ ((WU d==VC)=true) from XX)];refine ZB (X6 (ZB (Su hod hdd ?_)));rw[if_neg (by simp)];refine ZB (X6 (ZB (O6 hod hdd ?_)));rw[if_neg (by simp)];refine X6 ?_;simp only[show ¬ ((i:Int)<0) from by lia,if_false,WY,WQ hge];refine ZB ?_;first | refine ZB (Vd hit.typeIs (X6 ?_)) | refine ZB (Ux hit.typeIs (X6 ?_))
 show Xg _ _ (setField (.ref it) 0 .none >>= _) _ _ s;refine ZB (SD ho hd (by simp) ?_);show Xg _ _ (newExc (.type "StopIteration") [] >>= _) _ _ _;refine ZB ?_;simp only[newExc,newTuple];refine ZB (Wq ?_ (by size_fits));refine ZB (m:=TR _ _) (OO (a:=VC) (by first | rfl | (simp only[TR];rfl)) ?_);refine Wq ?_ (by size_fits);simp only[raiseNew];refine ZB (Oe ?_);rw[show A.in1.handled=none from hh];refine ZB (X6 (NN ?_));refine ZB (PJ (T:="StopIteration") (b:=true) ⟨_,Xl _ rfl,rfl⟩ isSubtype_stop ?_);exact X6 (hQ _ (((VO ..).extBut.push _).push _))
end
theorem zkz {H:Hp}:∀{kvs:List (List Key×V)} {xs:List KQ} {i:Nat} {q:KQ},KT H kvs xs->xs[i]?=some q->∃kv,kvs[i]?=some kv/\H q.2.1=some (.tup (kv.1.map kV))
 | _,_,_,_,.nil,e=>by simp at e
 | _,_,0,_,.cons ⟨_,h2,_⟩ _,e=>by
  simp at e;subst e;exact⟨_,rfl,h2⟩
 | _,_,i+1,q,.cons _ t,e=>by
  obtain⟨kv,h1,h2⟩:=zkz (i:=i) (q:=q) t (by simpa using e);exact⟨kv,by simpa using h1,h2⟩
section
variable {X:Cx}{tg:Expr}
end
open PySem
namespace ST
def run (mask i:Nat):List Nat:=(XD (VI mask i+1-i)).map (i + ·)
def walk (mask:Nat):Nat->Nat->Nat->List Nat
 | 0,_,_=>[]
 | f+1,i,p=>run mask i++walk mask f (Vj mask i p).1 (Vj mask i p).2
theorem zmQ (mask i:Nat):1<=(run mask i).length/\(run mask i).length<=10:=by
 unfold run VI;rw[Y1,W8];split<;>lia
theorem zck (mask:Nat):∀f i p,(walk mask f i p).length<=10*f
 | 0,_,_=>XW _
 | f+1,i,p=>by
  rw[walk,XU];have:=(zmQ mask i).2;have:=zck mask f (Vj mask i p).1 (Vj mask i p).2;lia
def steps (t:Wr):Nat->Rx->Rx
 | 0,p=>p
 | n+1,p=>steps t n (t.advance p)
theorem zaZ (t:Wr):∀n m p,steps t (n+m) p=steps t m (steps t n p)
 | 0,m,p=>by rw[V2];rfl
 | n+1,m,p=>by
  rw[show n+1+m=(n+m)+1 from by lia];exact zaZ t n m (t.advance p)
theorem za0 (t:Wr)(i pt:Nat)(dm:Option Nat):∀(d r j:Nat),d<=r->steps t d { j:=j,more:=r,i:=i,perturb:=pt,dummy:=dm }={ j:=j+d,more:=r-d,i:=i,perturb:=pt,dummy:=dm }
 | 0,r,j,_=>rfl
 | d+1,r,j,h=>by
  have e:t.advance { j:=j,more:=r,i:=i,perturb:=pt,dummy:=dm }={ j:=j+1,more:=r-1,i:=i,perturb:=pt,dummy:=dm }:=by
   unfold PH;rw[if_pos (by show r>0;lia)]
  show steps t d (t.advance _)=_;rw[e,za0 t i pt dm d (r-1) (j+1) (by lia)];congr 1<;>lia
def Y8 (mask i pt:Nat)(dm:Option Nat):Rx:={ j:=i,more:=VI mask i-i,i:=i,perturb:=pt,dummy:=dm }
theorem za1 (mask i:Nat):i<=VI mask i:=by
 unfold VI;split<;>lia
theorem zg5 (t:Wr)(i pt:Nat)(dm:Option Nat):steps t (run t.mask i).length (Y8 t.mask i pt dm)=Y8 t.mask (Vj t.mask i pt).1 (Vj t.mask i pt).2 dm:=by
 have hl:(run t.mask i).length=(VI t.mask i-i)+1:=by
  unfold run;rw[Y1,W8];have:=za1 t.mask i;lia
 rw[hl,zaZ];unfold Y8;rw[za0 t i pt dm _ _ _ (XW _),SK];rw[steps,steps];unfold PH;rw[if_neg (by show ¬ 0>0;lia)]
theorem JK (t:Wr):∀(f i pt:Nat) (dm:Option Nat) (n:Nat) (j:Nat),(walk t.mask f i pt)[n]?=some j->(steps t n (Y8 t.mask i pt dm)).j=j
 | 0,_,_,_,_,_,h=>by simp[walk] at h
 | f+1,i,pt,dm,n,j,h=>by
  rw[walk] at h;by_cases hn:n<(run t.mask i).length
  ·rw[V4 hn] at h;unfold run at h;rw[XA,Uv (by unfold run at hn;simpa using hn)] at h;have hl:(run t.mask i).length=(VI t.mask i-i)+1:=by
    unfold run;rw[Y1,W8];have:=za1 t.mask i;lia
   unfold Y8;rw[za0 t i pt dm n _ _ (by lia)];exact Option.some.inj h
  ·rw[VR (by lia)] at h;have e:n=(run t.mask i).length+(n-(run t.mask i).length):=by lia
   rw[e,zaZ,zg5];exact JK t f _ _ dm _ j h
theorem zeO (t:Wr)(VD:Nat->Int)(h:Int):∀(n F:Nat) (p:Rx),(∀k,k<n->∃i,t.slot (steps t k p).j=.live i/\(VD i==h)=false)->n<=F->TY t VD h F p=TY t VD h (F-n) (steps t n p)
 | 0,F,p,_,_=>rfl
 | n+1,F,p,hk,hF=>by
  obtain⟨F',rfl⟩:∃F',F=F'+1:=⟨F-1,by lia⟩;obtain⟨i,h1,h2⟩:=hk 0 (by lia);have h1':t.slot p.j=.live i:=h1;rw[TY,h1'];show (if (VD i==h)=true then _ else _)=_;rw[if_neg (by rw[h2];decide),zeO t VD h n F' (t.advance p) (fun k hk'=>hk (k+1) (by lia)) (by lia),Nat.add_sub_add_right];rfl
def Up (xs:Array Nat):Prop:=∀i j,i<j->j<xs.size->xs.getD i 0<xs.getD j 0
theorem zkA {xs:Array Nat}(U:Up xs)(j:Nat):∀(f lo hi:Nat),hi-lo<=f->lo<=hi->hi<=xs.size->(∀i,i<lo->xs.getD i 0<j)->(∀i,hi<=i->i<xs.size->j<=xs.getD i 0) ->
  Vz xs j f lo hi<=xs.size/\(∀i,i<Vz xs j f lo hi->xs.getD i 0<j)/\(∀i,Vz xs j f lo hi<=i->i<xs.size->j<=xs.getD i 0):=by
 intro f;induction f with
 | zero =>
  intro lo hi hf hl hs h1 h2;have:lo=hi:=by lia
  subst this;exact⟨hs,h1,h2⟩
 | succ f ih =>
  intro lo hi hf hl hs h1 h2;by_cases hlt:lo<hi
  ·have hm:(lo+hi)/2<hi:=by lia
   have hm2:lo<=(lo+hi)/2:=by lia
   have hms:(lo+hi)/2<xs.size:=by lia
   have e:xs.getD ((lo+hi)/2) j=xs.getD ((lo+hi)/2) 0:=by
    simp[S7,hms]
   have e2:Vz xs j (f+1) lo hi=if xs.getD ((lo+hi)/2) 0<j then Vz xs j f ((lo+hi)/2+1) hi else Vz xs j f lo ((lo+hi)/2):=by
    rw[Vz,if_pos hlt];show (if xs.getD ((lo+hi)/2) j<j then _ else _)=_;rw[e]
   by_cases hx:xs.getD ((lo+hi)/2) 0<j
   ·rw[e2,if_pos hx];refine ih ((lo+hi)/2+1) hi (by lia) (by lia) hs (fun i hi'=>?_) h2;by_cases he:i=(lo+hi)/2
    ·rw[he];exact hx
    ·exact RE (U i ((lo+hi)/2) (by lia) hms) hx
   ·rw[e2,if_neg hx];refine ih lo ((lo+hi)/2) (by lia) (by lia) (by lia) h1 (fun i hi' hi2=>?_);by_cases he:i=(lo+hi)/2
    ·rw[he];lia
    ·have:=U ((lo+hi)/2) i (by lia) hi2;lia
  ·rw[Vz,if_neg hlt];have:lo=hi:=by lia
   subst this;exact⟨hs,h1,h2⟩
theorem Zo {xs:Array Nat}(U:Up xs)(j:Nat):Xv xs j<=xs.size/\(∀i,i<Xv xs j->xs.getD i 0<j)/\(∀i,Xv xs j<=i->i<xs.size->j<=xs.getD i 0) :=
 zkA U j xs.size 0 xs.size (by lia) (W5 _) (XW _) (fun _ h=>absurd h (Te _)) (fun i h1 h2=>absurd h2 (by lia))
theorem JL {xs:Array Nat}{i:Nat}(h:i<xs.size):xs[i]?=some (xs.getD i 0):=by
 simp[S7,h]
theorem Zp {t:Wr}(U:Up t.place){i:Nat}(hi:i<t.place.size):t.slot (t.place.getD i 0)=.live i:=by
 have b:=Zo U (t.place.getD i 0);have e:Xv t.place (t.place.getD i 0)=i:=by
  rcases Rc (Xv t.place (t.place.getD i 0)) i with h | h | h
  ·have h1:=b.2.2 _ (XW _) (by lia);have h2:=U _ i h hi;lia
  ·exact h
  ·have:=b.2.1 i h;lia
 unfold SetTable.slot;simp only[e,JL hi];rw[if_pos (by simp)]
theorem slot_of {t:Wr}(U:Up t.place)(hd:t.dummies=#[])(j:Nat):(∃i,i<t.place.size/\t.place.getD i 0=j/\t.slot j=.live i)\/(t.slot j=.empty/\∀i,i<t.place.size->t.place.getD i 0≠j):=by
 by_cases h:∃i,i<t.place.size/\t.place.getD i 0=j
 ·obtain⟨i,hi,rfl⟩:=h;exact .inl ⟨i,hi,rfl,Zp U hi⟩
 ·have hn:∀i,i<t.place.size->t.place.getD i 0≠j:=fun i hi e=>h ⟨i,hi,e⟩;refine .inr ⟨?_,hn⟩;unfold SetTable.slot;have h1:¬ ((t.place[Xv t.place j]?==some j)=true):=fun z=>by
   have z':t.place[Xv t.place j]?=some j:=by simpa using z
   have hl:Xv t.place j<t.place.size:=by
    rcases SJ (Xv t.place j) t.place.size with q | q
    ·exact q
    ·rw[WQ q] at z';cases z'
   rw[JL hl] at z';exact hn _ hl (Option.some.inj z')
  simp only[];rw[if_neg h1,hd];rfl
def Reach (t:Wr)(h:Int)(j:Nat):Prop:=∃n:Nat,(walk t.mask (W1 t.mask) (XI h%(t.mask+1)) (XI h))[n]?=some j/\∀k:Nat,k<n->∀j',(walk t.mask (W1 t.mask) (XI h%(t.mask+1)) (XI h))[k]?=some j'->∃i,i<t.place.size/\t.place.getD i 0=j'
theorem zal (t:Wr)(h:Int):t.probeStart h=Y8 t.mask (XI h%(t.mask+1)) (XI h) none:=rfl
theorem zfJ (t:Wr):∀n p,(steps t n p).dummy=p.dummy
 | 0,_=>rfl
 | n+1,p=>by
  rw[steps,zfJ t n];unfold PH;split<;>rfl
theorem zfK {t:Wr}(U:Up t.place)(VD:Nat->Int){h:Int}{i:Nat}(hi:i<t.place.size)(eh:VD i=h)(one:∀i',i'<t.place.size->VD i'=h->i'=i)(R:Reach t h (t.place.getD i 0)):∃nx,t.probe VD h (t.probeStart h)=some (.candidate (t.place.getD i 0) i nx):=by
 obtain⟨n,hn,hk⟩:=R;have hlen:=(XY.mp hn).1;have wl:=zck t.mask (W1 t.mask) (XI h%(t.mask+1)) (XI h);have key:∀m:Nat,m<=n->(∀k,k<m->∃i',t.slot (steps t k (t.probeStart h)).j=.live i'/\(VD i'==h)=false)\/∃m',m'<m/\(∀k,k<m'->∃i',t.slot (steps t k (t.probeStart h)).j=.live i'/\(VD i'==h)=false)/\t.slot (steps t m' (t.probeStart h)).j=.live i/\(steps t m' (t.probeStart h)).j=t.place.getD i 0:=fun m=>by
  induction m with
  | zero=>exact fun _=>.inl fun k hk=>absurd hk (Te _)
  | succ m ih =>
   intro hm;rcases ih (by lia) with h1 | ⟨m',a,b⟩
   ·have hw:∃j',(walk t.mask (W1 t.mask) (XI h%(t.mask+1)) (XI h))[m]?=some j':=⟨_,X7 (by lia)⟩;obtain⟨j',hj'⟩:=hw;obtain⟨i',hi',ei'⟩:=hk m (by lia) j' hj';have ej:(steps t m (t.probeStart h)).j=j':=by
     rw[zal];exact JK t _ _ _ none m j' hj'
    have sl:t.slot (steps t m (t.probeStart h)).j=.live i':=by
     rw[ej,<- ei'];exact Zp U hi'
    by_cases he:VD i'=h
    ·have:=one i' hi' he;subst this;exact .inr ⟨m,by lia,h1,sl,by rw[ej,ei']⟩
    ·refine .inl fun k hk'=>?_;by_cases hkm:k=m
     ·subst hkm;exact⟨i',sl,by simpa using he⟩
     ·exact h1 k (by lia)
   ·exact .inr ⟨m',by lia,b⟩
 have fin:∀m:Nat,m<10*W1 t.mask->(∀k,k<m->∃i',t.slot (steps t k (t.probeStart h)).j=.live i'/\(VD i'==h)=false)->t.slot (steps t m (t.probeStart h)).j=.live i->(steps t m (t.probeStart h)).j=t.place.getD i 0->∃nx,t.probe VD h (t.probeStart h)=some (.candidate (t.place.getD i 0) i nx):=fun m hm hp sl ej=>by
  unfold SetTable.probe;rw[zeO t VD h m _ _ hp (by lia)];obtain⟨F',hF⟩:∃F',10*W1 t.mask-m=F'+1:=⟨10*W1 t.mask-m-1,by lia⟩;rw[hF,TY,sl];simp only[];rw[if_pos (by simpa using eh),ej];exact⟨_,rfl⟩
 rcases key n (XW _) with h1 | ⟨m',a,b,c,d⟩
 ·have ej:(steps t n (t.probeStart h)).j=t.place.getD i 0:=by
   rw[zal];exact JK t _ _ _ none n _ hn
  exact fin n (by lia) h1 (by rw[ej];exact Zp U hi) ej
 ·exact fin m' (by lia) b c d
theorem zeP {t:Wr}(U:Up t.place)(hd:t.dummies=#[])(VD:Nat->Int){h:Int}(no:∀i,i<t.place.size->VD i≠h){e:Nat}(he:∀i,i<t.place.size->t.place.getD i 0≠e)(hw:e∈walk t.mask (W1 t.mask) (XI h%(t.mask+1)) (XI h)) :
  ∃j,t.probe VD h (t.probeStart h)=some (.empty j none)/\t.slot j=.empty/\Reach t h j/\j∈walk t.mask (W1 t.mask) (XI h%(t.mask+1)) (XI h):=by
 obtain⟨N,hN⟩:=OZ.mp hw;have hlen:=(XY.mp hN).1;have wl:=zck t.mask (W1 t.mask) (XI h%(t.mask+1)) (XI h);have key:∀m:Nat,m<=N+1->(∀k:Nat,k<m->∀j',(walk t.mask (W1 t.mask) (XI h%(t.mask+1)) (XI h))[k]?=some j'->∃i,i<t.place.size/\t.place.getD i 0=j')\/∃m' j:Nat,m'<m/\(walk t.mask (W1 t.mask) (XI h%(t.mask+1)) (XI h))[m']?=some j/\t.slot j=.empty/\(∀k:Nat,k<m'->∀j',(walk t.mask (W1 t.mask) (XI h%(t.mask+1)) (XI h))[k]?=some j'->∃i,i<t.place.size/\t.place.getD i 0=j'):=fun m=>by
  induction m with
  | zero=>exact fun _=>.inl fun k hk=>absurd hk (Te _)
  | succ m ih =>
   intro hm;rcases ih (by lia) with h1 | ⟨m',j,a,b⟩
   ·obtain⟨j',hj'⟩:∃j',(walk t.mask (W1 t.mask) (XI h%(t.mask+1)) (XI h))[m]?=some j':=⟨_,X7 (by lia)⟩;rcases slot_of U hd j' with ⟨i,hi,ei,_⟩ | ⟨se,_⟩
    ·refine .inl fun k hk' j2 hj2=>?_;by_cases hkm:k=m
     ·subst hkm;rw[hj'] at hj2;exact⟨i,hi,by rw[ei];exact Option.some.inj hj2⟩
     ·exact h1 k (by lia) j2 hj2
    ·exact .inr ⟨m,j',by lia,hj',se,h1⟩
   ·exact .inr ⟨m',j,by lia,b⟩
 rcases key (N+1) (XW _) with h1 | ⟨m',j,a,b,c,d⟩
 ·obtain⟨i,hi,ei⟩:=h1 N (by lia) e hN;exact absurd ei (he i hi)
 ·refine⟨j,?_,c,⟨m',b,d⟩,X0 b⟩;have ej:(steps t m' (t.probeStart h)).j=j:=by
   rw[zal];exact JK t _ _ _ none m' j b
  have hp:∀k,k<m'->∃i',t.slot (steps t k (t.probeStart h)).j=.live i'/\(VD i'==h)=false:=fun k hk=>by
   obtain⟨j',hj'⟩:∃j',(walk t.mask (W1 t.mask) (XI h%(t.mask+1)) (XI h))[k]?=some j':=⟨_,X7 (by lia)⟩;obtain⟨i,hi,ei⟩:=d k hk j' hj';refine⟨i,?_,by simpa using no i hi⟩;have:(steps t k (t.probeStart h)).j=j':=by
    rw[zal];exact JK t _ _ _ none k j' hj'
   rw[this,<- ei];exact Zp U hi
  unfold SetTable.probe;rw[zeO t VD h m' _ _ hp (by lia)];obtain⟨F',hF⟩:∃F',10*W1 t.mask-m'=F'+1:=⟨10*W1 t.mask-m'-1,by lia⟩;rw[hF,TY,ej,c];simp only[zfJ];rfl
def orb (m:Nat):Nat->Nat->Nat
 | 0,i=>i
 | n+1,i=>orb m n ((i*5+1)%m)
def zjb (m:Nat):Nat->Nat->List Nat
 | 0,_=>[]
 | n+1,i=>i::zjb m n ((i*5+1)%m)
theorem zcl (m:Nat):∀(n i e:Nat),e∈zjb m n i->∃k,k<n/\orb m k i=e
 | 0,_,_,h=>nomatch h
 | n+1,i,e,h=>by
  rcases XJ.mp h with rfl | h
  ·exact⟨0,SH _,rfl⟩
  ·obtain⟨k,hk,q⟩:=zcl m n _ e h;exact⟨k+1,by lia,q⟩
theorem zbT (m:Nat):∀a b i,orb m (a+b) i=orb m b (orb m a i)
 | 0,b,i=>by rw[V2];rfl
 | a+1,b,i=>by
  rw[show a+1+b=(a+b)+1 from by lia];exact zbT m a b _
theorem full {m:Nat}(h1:∀e,e<m->e∈zjb m m 0)(h2:orb m m 0=0){i e:Nat}(hi:i<m)(he:e<m):∃k,k<m+1/\orb m k i=e:=by
 obtain⟨a,ha,ea⟩:=zcl m m 0 i (h1 i hi);obtain⟨b,hb,eb⟩:=zcl m m 0 e (h1 e he);rcases SJ b a with q | q
 ·refine⟨m-a+b,by lia,?_⟩;rw[<- ea,<- zbT,show a+(m-a+b)=m+b from by lia,zbT,h2,eb]
 ·refine⟨b-a,by lia,?_⟩;rw[<- ea,<- zbT,show a+(b-a)=b from by lia,eb]
theorem znR:(∀e,e<8->e∈zjb 8 8 0)/\orb 8 8 0=0:=by decide +kernel
theorem zkB:(∀e,e<32->e∈zjb 32 32 0)/\orb 32 32 0=0:=by decide +kernel
theorem zic:(∀e,e<128->e∈zjb 128 128 0)/\orb 128 128 0=0:=by decide +kernel
def Zq (mask:Nat):Nat->Nat->Nat->Nat×Nat
 | 0,i,p=>(i,p)
 | n+1,i,p=>Zq mask n (Vj mask i p).1 (Vj mask i p).2
theorem zdN (mask:Nat):∀a b i p,Zq mask (a+b) i p=Zq mask b (Zq mask a i p).1 (Zq mask a i p).2
 | 0,b,i,p=>by rw[V2];rfl
 | a+1,b,i,p=>by
  rw[show a+1+b=(a+b)+1 from by lia];exact zdN mask a b _ _
theorem zid (mask:Nat):∀n i p,(Zq mask n i p).2=p/32^n
 | 0,i,p=>by rw[Nat.pow_zero,Nat.div_one];rfl
 | n+1,i,p=>by
  rw[Zq,zid mask n];show p/32/32^n=_;rw[Nat.div_div_eq_div_mul,Ug,SL]
theorem zfL (mask:Nat):∀n i p,i<mask+1->(Zq mask n i p).1<mask+1
 | 0,i,p,h=>h
 | n+1,i,p,h=>zfL mask n _ _ (R9 _ (SH _))
theorem zdO (mask:Nat):∀n i,(Zq mask n i 0).1=orb (mask+1) n i
 | 0,_=>rfl
 | n+1,i=>by
  have e1:(Vj mask i 0).1=(i*5+1)%(mask+1):=rfl;have e2:(Vj mask i 0).2=0:=rfl;rw[Zq,e1,e2];exact zdO mask n _
theorem head_mem (mask:Nat):∀(f n i p:Nat),n<f->(Zq mask n i p).1∈walk mask f i p
 | 0,_,_,_,h=>absurd h (Te _)
 | f+1,0,i,p,_=>by
  rw[walk];refine WZ _ ?_;unfold run;refine XC.mpr ⟨0,Xc.mpr ?_,by rfl⟩;have:=za1 mask i;lia
 | f+1,n+1,i,p,h=>by
  rw[walk];exact Xr _ (head_mem mask f n _ _ (by lia))
theorem zfM {mask:Nat}(hm:mask=7\/mask=31\/mask=127)(h:Int){e:Nat}(he:e<mask+1):e∈walk mask (W1 mask) (XI h%(mask+1)) (XI h):=by
 have hb:XI h<2^64:=by
  unfold XI;have h1:=U7 h (show (2^64:Int)≠0 by decide);have h2:=Vl h (show (0:Int)<2^64 by decide);lia
 have hp:(Zq mask 13 (XI h%(mask+1)) (XI h)).2=0:=by
  rw[zid];exact Nat.div_eq_of_lt (RE hb (by decide))
 have hi:=zfL mask 13 (XI h%(mask+1)) (XI h) (R9 _ (SH _));obtain⟨k,hk,ek⟩:∃k,k<mask+1+1/\orb (mask+1) k (Zq mask 13 (XI h%(mask+1)) (XI h)).1=e:=by
  rcases hm with rfl | rfl | rfl
  ·exact full znR.1 znR.2 hi he
  ·exact full zkB.1 zkB.2 hi he
  ·exact full zic.1 zic.2 hi he
 have hh:=head_mem mask (W1 mask) (13+k) (XI h%(mask+1)) (XI h) (by unfold W1;lia);rw[zdN,hp,zdO,ek] at hh;exact hh
theorem Yz {α:Type}(xs:Array α){p:Nat}(x:α):(Xb xs p x).toList=xs.toList.take p++x::xs.toList.drop p:=by
 unfold Xb;simp;rw[Ww (by rw[VG,X4];lia)]
theorem zkC {α:Type}(xs:Array α){p:Nat}(hp:p<=xs.size)(x:α)(i:Nat):(Xb xs p x)[i]?=if i<p then xs[i]? else if i=p then some x else xs[i-1]?:=by
 have hl:(xs.toList.take p).length=p:=by
  rw[XE,X4];lia
 rw[<- Xx,Yz];by_cases h1:i<p
 ·rw[if_pos h1,V4 (by lia),P7 h1,Xx]
 ·rw[if_neg h1,VR (by lia),hl];by_cases h2:i=p
  ·rw[if_pos h2,h2,SK];rfl
  ·rw[if_neg h2,show i-p=(i-p-1)+1 from by lia,Pu,S2,Xx];congr 1;lia
theorem jI {α:Type}(xs:Array α){p:Nat}(hp:p<=xs.size)(x:α):(Xb xs p x).size=xs.size+1:=by
 rw[<- X4,Yz,XU,Xs,XE,VG,X4];lia
theorem Zr (xs:Array Nat){p:Nat}(hp:p<=xs.size)(x i:Nat)(hi:i<xs.size+1):(Xb xs p x).getD i 0=if i<p then xs.getD i 0 else if i=p then x else xs.getD (i-1) 0:=by
 have h:=zkC xs hp x i;rw[JL (by rw[jI xs hp x];exact hi)] at h;by_cases h1:i<p
 ·rw[if_pos h1] at h ⊢;rw[JL (by lia)] at h;exact Option.some.inj h
 ·rw[if_neg h1] at h ⊢;by_cases h2:i=p
  ·rw[if_pos h2] at h ⊢;exact Option.some.inj h
  ·rw[if_neg h2] at h ⊢;rw[JL (by lia)] at h;exact Option.some.inj h
theorem zkD {t:Wr}(U:Up t.place)(hd:t.dummies=#[]){j:Nat}(he:∀i,i<t.place.size->t.place.getD i 0≠j):(t.put j).2=Xv t.place j/\(t.put j).1={ t with place:=Xb t.place (Xv t.place j) j }/\Up (Xb t.place (Xv t.place j) j):=by
 have b:=Zo U j;refine⟨rfl,?_,fun a c hac hc=>?_⟩
 ·unfold SetTable.put;simp only[hd];rfl
 ·rw[jI _ b.1] at hc;rw[Zr _ b.1 _ _ (by lia),Zr _ b.1 _ _ hc];have lo:∀i,i<Xv t.place j->t.place.getD i 0<j:=b.2.1;have hi:∀i,Xv t.place j<=i->i<t.place.size->j<t.place.getD i 0:=fun i h1 h2=>by
   have:=b.2.2 i h1 h2;have:=he i h2;lia
  by_cases a1:a<Xv t.place j
  ·rw[if_pos a1];by_cases c1:c<Xv t.place j
   ·rw[if_pos c1];exact U a c hac (by lia)
   ·rw[if_neg c1];by_cases c2:c=Xv t.place j
    ·rw[if_pos c2];exact lo a a1
    ·rw[if_neg c2];have h1:=lo a a1;have h2:=hi (c-1) (by lia) (by lia);lia
  ·have c1:¬ c<Xv t.place j:=by lia
   have c2:¬ c=Xv t.place j:=by lia
   rw[if_neg a1,if_neg c1,if_neg c2];by_cases a2:a=Xv t.place j
   ·rw[if_pos a2];exact hi (c-1) (by lia) (by lia)
   ·rw[if_neg a2];exact U (a-1) (c-1) (by lia) (by lia)
theorem Reach.more {t t':Wr}(hm:t'.mask=t.mask)(hp:∀i,i<t.place.size->∃i',i'<t'.place.size/\t'.place.getD i' 0=t.place.getD i 0){h:Int}{j:Nat}(R:Reach t h j):Reach t' h j:=by
 obtain⟨n,h1,h2⟩:=R;unfold Reach;rw[hm];refine⟨n,h1,fun k hk j' hj'=>?_⟩;obtain⟨i,hi,ei⟩:=h2 k hk j' hj';obtain⟨i',hi',ei'⟩:=hp i hi;exact⟨i',hi',ei'.trans ei⟩
theorem zkE {t:Wr}(U:Up t.place)(j:Nat):∀i,i<t.place.size->∃i',i'<(Xb t.place (Xv t.place j) j).size/\(Xb t.place (Xv t.place j) j).getD i' 0=t.place.getD i 0:=fun i hi=>by
 have b:=Zo U j;by_cases h:i<Xv t.place j
 ·refine⟨i,by rw[jI _ b.1];lia,?_⟩;rw[Zr _ b.1 _ _ (by lia),if_pos h]
 ·refine⟨i+1,by rw[jI _ b.1];lia,?_⟩;rw[Zr _ b.1 _ _ (by lia),if_neg (by lia),if_neg (by lia),Rv]
theorem zie (mask:Nat)(owner:Array (Option Nat)):∀(f i p:Nat),SetTable.layClean.free mask owner f i p=(walk mask f i p).find? fun j=>(owner.getD j (some 0)).isNone
 | 0,_,_=>rfl
 | f+1,i,p=>by
  rw[SetTable.layClean.free,walk,List.find?_append];unfold run;rw[List.find?_map];have e:((fun j=>(owner.getD j (some 0)).isNone)∘fun x=>i+x)=fun k=>(owner.getD (i+k) (some 0)).isNone:=rfl;rw[e];cases h:(XD (VI mask i+1-i)).find? fun k=>(owner.getD (i+k) (some 0)).isNone with
  | some k=>rfl
  | none =>
   simp only[Option.map_none,Option.none_or];exact zie mask owner f _ _
structure Own (mask:Nat)(hs:List Int)(owner:Array (Option Nat))(k:Nat):Prop where
 sz:owner.size=mask+1
 few:(owner.toList.countP fun o=>o.isNone)+k=mask+1
 at_:∀i,i<k->∃j:Nat,owner[j]?=some (some i)/\∃n:Nat,(walk mask (W1 mask) (XI (hs.getD i 0)%(mask+1)) (XI (hs.getD i 0)))[n]?=some j/\∀m:Nat,m<n->∀j':Nat,(walk mask (W1 mask) (XI (hs.getD i 0)%(mask+1)) (XI (hs.getD i 0)))[m]?=some j'->∃o,owner[j']?=some (some o)
 lt:∀j i:Nat,owner[j]?=some (some i)->i<k
 inj:∀j j' i:Nat,owner[j]?=some (some i)->owner[j']?=some (some i)->j=j'
theorem Own.nil (mask:Nat)(hs:List Int):Own mask hs (Array.replicate (mask+1) none) 0:=by
 refine⟨by simp,by rw[Array.toList_replicate,OY];rfl,fun i h=>absurd h (Te _),fun j i h=>?_,fun j j' i h=>?_⟩
 ·rw[P1] at h;split at h<;>cases h
 ·rw[P1] at h;split at h<;>cases h
theorem count_set {l:List (Option Nat)}:∀{j:Nat} (k:Nat),l[j]?=some none->(l.set j (some k)).countP (fun o=>o.isNone)+1=l.countP fun o=>o.isNone:=by
 induction l with
 | nil=>exact fun _ h=>by simp at h
 | cons o r ih =>
  intro j k h;cases j with
  | zero =>
   have:o=none:=by simpa using h
   subst this;simp[WT]
  | succ j =>
   have:=ih k (by simpa using h);rw[List.set_cons_succ,WT,WT];lia
theorem zjc {l:List (Option Nat)}(h:0<l.countP fun o=>o.isNone):∃j:Nat,l[j]?=some none:=by
 obtain⟨o,ho,hn⟩:=List.countP_pos_iff.mp h;obtain⟨j,hj⟩:=OZ.mp ho;refine⟨j,?_⟩;rw[hj];cases o with
 | none=>rfl
 | some _=>cases hn
theorem getD_none {owner:Array (Option Nat)}{j:Nat}:(owner.getD j (some 0)).isNone=true↔owner[j]?=some none:=by
 by_cases h:j<owner.size
 ·have e:owner[j]?=some (owner.getD j (some 0)):=by simp[S7,h]
  rw[e];cases owner.getD j (some 0)<;>simp
 ·have e:owner.getD j (some 0)=some 0:=by simp[S7,h]
  rw[e,WQ (by lia)];simp
theorem zeQ (mask:Nat):∀(f i p:Nat),i<mask+1->∀j∈walk mask f i p,j<mask+1
 | 0,_,_,_,_,h=>nomatch h
 | f+1,i,p,hi,j,h=>by
  rw[walk] at h;rcases XG.mp h with h | h
  ·unfold run at h;obtain⟨k,hk,rfl⟩:=XC.mp h;have hk':=Xc.mp hk;have:VI mask i<=mask:=by
    unfold VI;split<;>lia
   lia
  ·exact zeQ mask f _ _ (R9 _ (SH _)) j h
theorem Own.step {mask:Nat}(hm:mask=7\/mask=31\/mask=127){hs:List Int}{owner:Array (Option Nat)}{k:Nat}(O:Own mask hs owner k)(hk:k<mask+1):∃j,SetTable.layClean.free mask owner (W1 mask) (XI (hs.getD k 0)%(mask+1)) (XI (hs.getD k 0))=some j/\Own mask hs (owner.setIfInBounds j (some k)) (k+1):=by
 obtain⟨e,he⟩:=zjc (l:=owner.toList) (by have:=O.few;lia);rw[Xx] at he;have hel:e<owner.size:=by
  rcases SJ e owner.size with q | q
  ·exact q
  ·rw[WQ q] at he;cases he
 have hw:=zfM hm (hs.getD k 0) (e:=e) (by have:=O.sz;lia);rw[zie];cases hf:(walk mask (W1 mask) (XI (hs.getD k 0)%(mask+1)) (XI (hs.getD k 0))).find? fun j=>(owner.getD j (some 0)).isNone with
 | none =>
  have:=List.find?_eq_none.mp hf e hw;exact absurd (getD_none.mpr he) this
 | some j =>
  refine⟨j,rfl,?_⟩;have hj:owner[j]?=some none:=getD_none.mp (List.find?_some (p:=fun j=>(owner.getD j (some 0)).isNone) hf);have hjl:j<owner.size:=by
   rcases SJ j owner.size with q | q
   ·exact q
   ·rw[WQ q] at hj;cases hj
  have get:∀i:Nat,(owner.setIfInBounds j (some k))[i]?=if j=i then some (some k) else owner[i]?:=fun i=>by
   rw[T4];by_cases h:j=i
   ·rw[if_pos h,if_pos h];simp[hjl]
   ·rw[if_neg h,if_neg h]
  have keep:∀(i o:Nat),owner[i]?=some (some o)->(owner.setIfInBounds j (some k))[i]?=some (some o):=fun i o h=>by
   rw[get,if_neg (fun z=>by rw[<- z,hj] at h;cases h)];exact h
  refine⟨by rw[Tj];exact O.sz,?_,fun i hi=>?_,fun j' i h=>?_,fun j1 j2 i h1 h2=>?_⟩
  ·rw[Ro];have:=count_set (l:=owner.toList) (j:=j) k (by rw[Xx];exact hj);have:=O.few;lia
  ·by_cases hik:i=k
   ·subst hik;refine⟨j,by rw[get,if_pos rfl],?_⟩;obtain⟨_,as,bs,hab,hn⟩:=List.find?_eq_some_iff_append.mp hf;refine⟨as.length,by rw[hab];simp,fun m hm' j' hj'=>?_⟩;rw[hab,V4 hm'] at hj';have hmem:=X0 hj';have hnn:=hn j' hmem;have hjw:j'∈walk mask (W1 mask) (XI (hs.getD i 0)%(mask+1)) (XI (hs.getD i 0)):=by
     rw[hab];exact WZ _ hmem
    cases ho:owner[j']? with
    | none =>
     have:=zeQ mask (W1 mask) _ _ (R9 _ (SH _)) j' hjw;rw[Vw.mpr ⟨by rw[O.sz];exact this,rfl⟩] at ho;cases ho
    | some o =>
     cases o with
     | none =>
      rw[getD_none.mpr ho] at hnn;cases hnn
     | some o=>exact⟨o,keep j' o ho⟩
   ·obtain⟨j0,a,n,b,c⟩:=O.at_ i (by lia);refine⟨j0,keep _ _ a,n,b,fun m hm' j' hj'=>?_⟩;obtain⟨o,ho⟩:=c m hm' j' hj';exact⟨o,keep _ _ ho⟩
  ·rw[get] at h;split at h
   ·have:k=i:=by simpa using h
    lia
   ·have:=O.lt j' i h;lia
  ·rw[get] at h1 h2;split at h1<;>split at h2
   ·lia
   ·have:k=i:=by simpa using h1
    have:=O.lt j2 i h2;lia
   ·have:k=i:=by simpa using h2
    have:=O.lt j1 i h1;lia
   ·exact O.inj j1 j2 i h1 h2
theorem zfN {mask:Nat}(hm:mask=7\/mask=31\/mask=127)(hs:List Int)(hl:hs.length<=mask+1):∀(l done:List Int) (owner:Array (Option Nat)),hs=done++l->Own mask hs owner done.length ->
  ∃owner',l.foldl (fun (acc:Option (Array (Option Nat)×Nat)) h=>do
   let (owner,k) <- acc
   let j <- SetTable.layClean.free mask owner (W1 mask) (XI h%(mask+1)) (XI h)
   pure (owner.setIfInBounds j (some k),k+1)) (some (owner,done.length))=some (owner',hs.length)/\Own mask hs owner' hs.length
 | [],done,owner,e,O=>by
  rw[Xa] at e;subst e;exact⟨owner,rfl,O⟩
 | h::r,done,owner,e,O=>by
  have hd:hs.getD done.length 0=h:=by
   rw[e];simp[List.getD]
  have hlen:done.length<mask+1:=by
   have:hs.length=done.length+(r.length+1):=by rw[e,XU,Xs]
   lia
  obtain⟨j,hj,O'⟩:=O.step hm hlen;rw[hd] at hj;obtain⟨owner',h1,h2⟩:=zfN hm hs hl r (done++[h]) (owner.setIfInBounds j (some done.length)) (by rw[e,W2];rfl) (by rw[XU];exact O');refine⟨owner',?_,h2⟩;rw[XU] at h1;rw[VX];have e1:(do
   let (owner,k) <- (some (owner,done.length):Option (Array (Option Nat)×Nat))
   let j <- SetTable.layClean.free mask owner (W1 mask) (XI h%(mask+1)) (XI h)
   pure (owner.setIfInBounds j (some k),k+1))=some (owner.setIfInBounds j (some done.length),done.length+1):=by
   show (SetTable.layClean.free mask owner (W1 mask) (XI h%(mask+1)) (XI h)).bind _=_;rw[hj];rfl
  rw[e1];exact h1
theorem zoQ {mask:Nat}(hm:mask=7\/mask=31\/mask=127)(hashes:Array Int)(hl:hashes.size<=mask+1):∃owner,SetTable.layClean mask hashes=some owner/\Own mask hashes.toList owner hashes.size:=by
 obtain⟨owner,h1,h2⟩:=zfN hm hashes.toList (by rw[X4];exact hl) hashes.toList [] _ rfl (Own.nil mask _);rw[X4] at h1 h2;refine⟨owner,?_,h2⟩;unfold SetTable.layClean;rw[<- Array.foldl_toList];exact congrArg (Option.map (·.1)) h1
def qP (mask:Nat)(owner:Array (Option Nat)):List (Nat×Nat):=(XD (mask+1)).filterMap fun j=>(owner.getD j none).map (j,·)
theorem JM {mask:Nat}{owner:Array (Option Nat)}(sz:owner.size=mask+1){j i:Nat}:(j,i)∈qP mask owner↔owner[j]?=some (some i):=by
 unfold qP;rw[S5];constructor
 ·rintro⟨a,ha,h⟩;have hl:a<owner.size:=by rw[sz];exact Xc.mp ha
  have e:owner[a]?=some (owner.getD a none):=by simp[S7,hl]
  cases ho:owner.getD a none with
  | none =>
   rw[ho] at h;cases h
  | some b =>
   rw[ho] at h;have hb:(a,b)=(j,i):=Option.some.inj h;cases hb;rw[e,ho]
 ·intro h;have hl:j<owner.size:=by
   rcases SJ j owner.size with q | q
   ·exact q
   ·rw[WQ q] at h;cases h
  have e:owner[j]?=some (owner.getD j none):=by simp[S7,hl]
  refine⟨j,Xc.mpr (by rw[<- sz];exact hl),?_⟩;rw[e] at h;rw[Option.some.inj h];rfl
theorem zif (mask:Nat)(owner:Array (Option Nat)):(qP mask owner).Pairwise fun a b=>a.1<b.1:=by
 unfold qP;rw[List.pairwise_filterMap];refine List.pairwise_lt_range.imp fun {a b} hab x hx y hy=>?_;cases h1:owner.getD a none with
 | none=>rw[h1] at hx;cases hx
 | some p =>
  cases h2:owner.getD b none with
  | none=>rw[h2] at hy;cases hy
  | some q =>
   rw[h1] at hx;rw[h2] at hy;have e1:(a,p)=x:=Option.some.inj hx;have e2:(b,q)=y:=Option.some.inj hy;rw[<- e1,<- e2];exact hab
theorem zjd {mask:Nat}{hs:List Int}{owner:Array (Option Nat)}{k:Nat}(O:Own mask hs owner k):((qP mask owner).map (·.2)).Perm (XD k):=by
 have nd:((qP mask owner).map (·.2)).Nodup:=by
  refine Wo.mpr ((zif mask owner).imp_of_mem fun {a b} ha hb hab e=>?_);obtain⟨a1,a2⟩:=a;obtain⟨b1,b2⟩:=b;have e':a2=b2:=e;subst e';have:=O.inj a1 b1 a2 ((JM O.sz).mp ha) ((JM O.sz).mp hb);have hab':a1<b1:=hab;lia
 refine(Vv nd List.nodup_range).mpr fun i=>?_;rw[Xc,XC];constructor
 ·rintro⟨⟨j,i'⟩,hm,rfl⟩;exact O.lt j _ ((JM O.sz).mp hm)
 ·intro hi;obtain⟨j,hj,_⟩:=O.at_ i hi;exact⟨(j,i),(JM O.sz).mpr hj,rfl⟩
theorem zmR {mask:Nat}(hm:mask=7\/mask=31\/mask=127)(finger moves:Nat)(led plain:Bool)(hashes:Array Int)(hl:hashes.size<=mask+1):∃place order,SetTable.laid mask finger moves led plain hashes=some ({ mask:=mask,place:=place,dummies:=#[],finger:=finger,led:=led,moves:=moves,plain:=plain },order) /\
  Up place/\place.size=hashes.size/\order.size=hashes.size/\order.toList.Perm (XD hashes.size)/\(∀i,i<place.size->place.getD i 0<mask+1) /\
  ∀i,i<place.size->Reach { mask:=mask,place:=place,dummies:=#[],finger:=finger,led:=led,moves:=moves,plain:=plain } (hashes.toList.getD (order.getD i 0) 0) (place.getD i 0):=by
 obtain⟨owner,h1,O⟩:=zoQ hm hashes hl;have perm:=zjd O;have up:=zif mask owner;have ll:(qP mask owner).length=hashes.size:=by
  have:=perm.length_eq;rw[Y1,W8] at this;exact this
 have pg:∀i (h:i<(qP mask owner).length),((qP mask owner).map (·.1)).toArray.getD i 0=((qP mask owner)[i]).1:=fun i h=>by
  simp[S7,h]
 have og:∀i (h:i<(qP mask owner).length),((qP mask owner).map (·.2)).toArray.getD i 0=((qP mask owner)[i]).2:=fun i h=>by
  simp[S7,h]
 refine⟨((qP mask owner).map (·.1)).toArray,((qP mask owner).map (·.2)).toArray,?_,fun i j hij hj=>?_,by simp[ll],by simp[ll],perm,fun i hi=>?_,fun i hi=>?_⟩
 ·unfold SetTable.laid;rw[h1];rfl
 ·have hj':j<(qP mask owner).length:=by simpa using hj
  rw[pg i (by lia),pg j hj'];exact Vp.mp up i j (by lia) hj' hij
 ·have hi':i<(qP mask owner).length:=by simpa using hi
  rw[pg i hi'];have hmem:=Tz hi';have:=(JM O.sz (j:=(qP mask owner)[i].1) (i:=(qP mask owner)[i].2)).mp hmem;rw[<- O.sz];rcases SJ (qP mask owner)[i].1 owner.size with q | q
  ·exact q
  ·rw[WQ q] at this;cases this
 ·have hi':i<(qP mask owner).length:=by simpa using hi
  rw[pg i hi',og i hi'];have hmem:=Tz hi';have ho:=(JM O.sz (j:=(qP mask owner)[i].1) (i:=(qP mask owner)[i].2)).mp hmem;obtain⟨j0,a,n,b,c⟩:=O.at_ _ (O.lt _ _ ho);have ej:=O.inj _ _ _ a ho;rw[ej] at b;refine⟨n,b,fun k hk j' hj'=>?_⟩;obtain⟨o,hoo⟩:=c k hk j' hj';obtain⟨x,hx,ex⟩:=Tt ((JM O.sz).mpr hoo);refine⟨x,by simpa using hx,?_⟩;show ((qP mask owner).map (·.1)).toArray.getD x 0=j';rw[pg x hx,ex]
structure Good (t:Wr)(hs:Array Int):Prop where
 mask:t.mask=7\/t.mask=31\/t.mask=127
 sz:t.place.size=hs.size
 dum:t.dummies=#[]
 up:Up t.place
 le:∀i,i<t.place.size->t.place.getD i 0<t.mask+1
 room:t.place.size*5<t.mask*3
 reach:∀i,i<t.place.size->Reach t (hs.toList.getD i 0) (t.place.getD i 0)
theorem Good.free {t:Wr}{hs:Array Int}(G:Good t hs):∃e,e<t.mask+1/\∀i,i<t.place.size->t.place.getD i 0≠e:=by
 refine Rm fun hn=>?_;have all:∀e,e<t.mask+1->∃i,i<t.place.size/\t.place.getD i 0=e:=fun e he=>Rm fun h2=>hn ⟨e,he,fun i hi z=>h2 ⟨i,hi,z⟩⟩;have hr:=G.room;have id_:∀e,e<t.mask+1->∃i,i<t.place.size/\e<=i:=fun e=>by
  induction e with
  | zero=>exact fun h=>let ⟨i,hi,_⟩:=all 0 h;⟨i,hi,W5 _⟩
  | succ e ih =>
   intro h;obtain⟨i,hi,hei⟩:=all (e+1) h;obtain⟨i0,hi0,hei0⟩:=all e (by lia);have cnt:∀d,d<=e+1->∃i,i<t.place.size/\t.place.getD i 0=d/\d<=i:=fun d=>by
    induction d with
    | zero=>exact fun _=>let ⟨i,hi,he⟩:=all 0 (by lia);⟨i,hi,he,W5 _⟩
    | succ d ihd =>
     intro hd;obtain⟨a,ha,ea,la⟩:=ihd (by lia);obtain⟨b,hb,eb⟩:=all (d+1) (by lia);have:a<b:=by
      rcases Rc a b with q | q | q
      ·exact q
      ·subst q;lia
      ·have:=G.up b a q ha;lia
     exact⟨b,hb,eb,by lia⟩
   obtain⟨x,hx,_,lx⟩:=cnt (e+1) (XW _);exact⟨x,hx,lx⟩
 obtain⟨i,hi,le⟩:=id_ t.mask (by lia);lia
theorem Good.found {t:Wr}{hs:Array Int}(G:Good t hs)(VD:Nat->Int)(hh:∀i,i<hs.size->VD i=hs.toList.getD i 0)(nd:hs.toList.Nodup){i:Nat}(hi:i<hs.size):∃nx,t.probe VD (hs.toList.getD i 0) (t.probeStart (hs.toList.getD i 0))=some (.candidate (t.place.getD i 0) i nx):=by
 have gd:∀k (h:k<hs.size),hs.toList.getD k 0=hs.toList[k]'(by rw[X4];exact h):=fun k h=>by
  rw[XB,X7 (by rw[X4];exact h)];rfl
 refine zfK G.up VD (by rw[G.sz];exact hi) (hh i hi) (fun i' hi' e=>?_) (G.reach i (by rw[G.sz];exact hi));rw[G.sz] at hi';rw[hh i' hi',gd i' hi',gd i hi] at e;exact(List.getElem_inj nd).mp e
theorem Good.missed {t:Wr}{hs:Array Int}(G:Good t hs)(VD:Nat->Int)(hh:∀i,i<hs.size->VD i=hs.toList.getD i 0){h:Int}(no:h ∉ hs.toList):∃j,t.probe VD h (t.probeStart h)=some (.empty j none)/\j<t.mask+1/\(∀i,i<t.place.size->t.place.getD i 0≠j)/\Reach t h j:=by
 obtain⟨e,he,hn⟩:=G.free;have no':∀i,i<t.place.size->VD i≠h:=fun i hi z=>by
  rw[G.sz] at hi;rw[hh i hi,XB,X7 (by rw[X4];exact hi)] at z;have z':hs.toList[i]'(by rw[X4];exact hi)=h:=z;exact no (z' ▸ Tz _)
 obtain⟨j,h1,h2,h3,h4⟩:=zeP G.up G.dum VD (h:=h) no' hn (zfM G.mask h he);refine⟨j,h1,zeQ _ _ _ _ (R9 _ (SH _)) j h4,fun i hi z=>?_,h3⟩;rw[<- z,Zp G.up hi] at h2;cases h2
theorem Good.put {t:Wr}{hs:Array Int}(G:Good t hs){h:Int}{j:Nat}(hj:j<t.mask+1)(he:∀i,i<t.place.size->t.place.getD i 0≠j)(R:Reach t h j)(room:(t.place.size+1)*5<t.mask*3):Good (t.put j).1 (Xb hs (t.put j).2 h):=by
 obtain⟨e2,e1,U⟩:=zkD G.up G.dum he;have b:=Zo G.up j;rw[e2,e1];have bs:Xv t.place j<=hs.size:=by rw[<- G.sz];exact b.1
 have hget:∀i,(Xb hs (Xv t.place j) h).toList.getD i 0=if i<Xv t.place j then hs.toList.getD i 0 else if i=Xv t.place j then h else hs.toList.getD (i-1) 0:=fun i=>by
  rw[XB,Xx,zkC hs bs];split
  ·rw[XB,Xx]
  ·split
   ·rfl
   ·rw[XB,Xx]
 have more:∀{h':Int} {j':Nat},Reach t h' j'->Reach { t with place:=Xb t.place (Xv t.place j) j } h' j':=fun R'=>Reach.more (t:=t) (t':={ t with place:=Xb t.place (Xv t.place j) j }) rfl (zkE G.up j) R';refine⟨G.mask,?_,G.dum,U,fun i hi=>?_,?_,fun i hi=>?_⟩
 ·show (Xb t.place _ j).size=_;rw[jI _ b.1,jI _ bs,G.sz]
 ·have hi':i<t.place.size+1:=by
   have:=hi;rw[show ({ t with place:=Xb t.place (Xv t.place j) j }:Wr).place=Xb t.place (Xv t.place j) j from rfl,jI _ b.1] at this;exact this
  show (Xb t.place _ j).getD i 0<t.mask+1;rw[Zr _ b.1 _ _ hi'];split
  ·exact G.le i (by lia)
  ·split
   ·exact hj
   ·exact G.le (i-1) (by lia)
 ·show (Xb t.place _ j).size*5<t.mask*3;rw[jI _ b.1];exact room
 ·have hi':i<t.place.size+1:=by
   have:=hi;rw[show ({ t with place:=Xb t.place (Xv t.place j) j }:Wr).place=Xb t.place (Xv t.place j) j from rfl,jI _ b.1] at this;exact this
  show Reach _ _ ((Xb t.place _ j).getD i 0);rw[hget,Zr _ b.1 _ _ hi'];by_cases h1:i<Xv t.place j
  ·rw[if_pos h1,if_pos h1];exact more (G.reach i (by lia))
  ·rw[if_neg h1,if_neg h1];by_cases h2:i=Xv t.place j
   ·rw[if_pos h2,if_pos h2];exact more R
   ·rw[if_neg h2,if_neg h2];exact more (G.reach (i-1) (by lia))
theorem zg6 (t:Wr)(hs:Array Int)(hn:hs.size=5\/hs.size=19):∃t' order,t.relaid hs (Uo hs.size)=some (t',order)/\order.size=hs.size/\order.toList.Perm (XD hs.size)/\t'.led=t.led/\t'.plain=t.plain/\t'.place.size=hs.size/\Good t' (order.map fun i=>hs.toList.getD i 0):=by
 have key:∀mask,(mask=7\/mask=31\/mask=127)->hs.size<=mask+1->hs.size*5<mask*3->S1 (Uo hs.size)-1=mask->∃t' order,t.relaid hs (Uo hs.size)=some (t',order)/\order.size=hs.size/\order.toList.Perm (XD hs.size)/\t'.led=t.led/\t'.plain=t.plain/\t'.place.size=hs.size/\Good t' (order.map fun i=>hs.toList.getD i 0):=fun mask hm hl hr em=>by
  obtain⟨place,order,h1,h2,h3,h4,h5,h6,h7⟩:=zmR hm t.finger (t.movedTo mask) t.led t.plain hs hl;refine⟨{ mask:=mask,place:=place,dummies:=#[],finger:=t.finger,led:=t.led,moves:=t.movedTo mask,plain:=t.plain },order,?_,h4,h5,rfl,rfl,h3,hm,?_,rfl,h2,h6,?_,fun i hi=>?_⟩
  ·unfold SetTable.relaid;rw[em];exact h1
  ·show place.size=_;rw[Vh,h3,h4]
  ·show place.size*5<mask*3;rw[h3];exact hr
  ·have hi':i<order.size:=by
    have:i<place.size:=hi;lia
   have e:(order.map fun i=>hs.toList.getD i 0).toList.getD i 0=hs.toList.getD (order.getD i 0) 0:=by
    rw[XB,Xx,Array.getElem?_map,JL hi'];rfl
   rw[e];exact h7 i hi
 rcases hn with e | e
 ·exact key 31 (.inr (.inl rfl)) (by lia) (by lia) (by rw[e];decide +kernel)
 ·exact key 127 (.inr (.inr rfl)) (by lia) (by lia) (by rw[e];decide +kernel)
end ST
namespace ST
def qm (es:Array (Int×X9))(ep:Nat)(t:Wr):Obj:={ cls:=.type "set",dict:=none,data:=.set es ep t }
def kP (p:Int×Int):List Key:=[.inl p.1,.inl p.2]
def InB (p:Int×Int):Prop:=(0<=p.1/\p.1<8)/\(0<=p.2/\p.2<8)
def hP (prog:Xd)(w:WP)(p:Int×Int):Int:=(tk2 prog w).hash (kP p)
section
variable {prog:Xd}{w:WP}{A:WK}{E:X9->X8->Prop}{s:X8}{a:Addr}{es:Array (Int×X9)}{ep:Nat}{t:Wr}
theorem zoR {p q:Int×Int}(hp:InB p)(hq:InB q)(e:hP prog w p=hP prog w q):p=q:=by
 obtain⟨p1,p2⟩:=p;obtain⟨q1,q2⟩:=q;obtain⟨⟨a1,a2⟩,a3,a4⟩:=hp;obtain⟨⟨b1,b2⟩,b3,b4⟩:=hq;simp only at a1 a2 a3 a4 b1 b2 b3 b4;obtain⟨i,rfl⟩:∃i:Nat,p1=i:=⟨p1.toNat,by lia⟩;obtain⟨j,rfl⟩:∃i:Nat,p2=i:=⟨p2.toNat,by lia⟩;obtain⟨k,rfl⟩:∃i:Nat,q1=i:=⟨q1.toNat,by lia⟩;obtain⟨l,rfl⟩:∃i:Nat,q2=i:=⟨q2.toNat,by lia⟩;unfold hP kP at e;rw[zak,zak] at e;obtain⟨c,d⟩:=zky (by lia) (by lia) (by lia) (by lia) e;rw[c,d]
theorem JN {h:Heap}{x:Addr}{p:Int×Int}(h1:zw h (.ref x) p):(tk2 prog w).is h (kP p) x:=by
 obtain⟨b,o,n,t,u,e,e1,e2,e3⟩:=h1;cases e;exact⟨o,#[.int p.1 t,.int p.2 u],n,e1,e2,e3,.cons (zaR p.1 t) (.cons (zaR p.2 u) .nil)⟩
theorem Good.fits {hs:Array Int}(G:Good t hs):t.fits hs.size=true:=by
 have h1:=G.sz;have h2:=G.room;unfold SetTable.fits Od;rw[G.dum,h1];simp;lia
theorem Good.odd {hs:Array Int}(G:Good t hs):t.gaveWay=false:=by
 unfold SetTable.gaveWay;rcases G.mask with e | e | e<;>rw[e]<;>rfl
theorem x6 {Q:Array (Int×X9)×Nat×Wr->X8->Prop}(ho:s.heap.get? a=some (qm es ep t))(G:Good t (es.map (·.1)))(q:Q (es,ep,t) s):Xg (Xh prog w) A (setState a) Q E s:=by
 refine Ss ho rfl ?_ q;have:=G.fits;rwa [Vh] at this
theorem zeR (i:Nat)(hi:i<(es.map (·.1)).size):(es[i]?.map (·.1)).getD 0=(es.map (·.1)).toList.getD i 0:=by
 rw[XB,Xx,Array.getElem?_map]
theorem zdj {n:Nat}{h:Int}{x:X9}{Q:SetFound->X8->Prop}(ho:s.heap.get? a=some (qm es ep t))(G:Good t (es.map (·.1)))(no:h ∉ (es.map (·.1)).toList)
  (hQ:∀j,j<t.mask+1->(∀i,i<t.place.size->t.place.getD i 0≠j)->Reach t h j->Q (.free j false) s):Xg (Xh prog w) A (Qb a x h true (n+1) none) Q E s:=by
 obtain⟨j,e,h1,h2,h3⟩:=G.missed (fun i=>(es[i]?.map (·.1)).getD 0) zeR no;rw[Qb];refine ZB (x6 ho G ?_);dsimp only;rw[G.odd,if_neg XX];generalize hm:t.probe _ h _=m;have em:m=some (.empty j none):=hm.symm.trans e;subst em;exact X6 (hQ j h1 h2 h3)
theorem zdP {d:Nat}{x:Addr}{p:Int×Int}{Q:Bool->X8->Prop}(hx:zw s.heap (.ref x) p)(q:Q false s):Xg (Xh prog w) A (Sr 8 (.ref x)) Q E s:=by
 obtain⟨b,o,n,t,u,e,e1,e2,e3⟩:=hx;cases e;have hT:s.TypeIs (.ref x) "tuple":=⟨o,e1,e2⟩;unfold Sr;refine ZB (Pm hT ?_);dsimp only;rw[if_pos (by decide)];refine ZB (X6 ?_);rw[if_neg (by decide)];refine ZB (wpAny_seqItems e1 e3 ?_);dsimp only;refine ZB ?_;rw[<- Array.forIn_toList];refine PF _ (fun rest r s'=>r.1=none/\s'=s/\∀v∈rest,∃i t,v=Vu i t) _ ?_ ?_ _ _ ⟨rfl,rfl,fun v hv=>?_⟩
 ·rintro v rest r s' ⟨hr,rfl,hall⟩;obtain⟨i,t,rfl⟩:=hall v XS;rw[show Sr 7 (Vu i t)=pure false by unfold Sr;rfl];refine ZB (X6 ?_);rw[if_neg XX];exact X6 ⟨rfl,rfl,fun u hu'=>hall u (XT _ hu')⟩
 ·rintro⟨r1,r2⟩ s' ⟨hr,rfl,_⟩;simp only at hr;subst hr;exact X6 q
 ·simp at hv;rcases hv with rfl | rfl
  ·exact⟨_,_,rfl⟩
  ·exact⟨_,_,rfl⟩
theorem zkF {x:Addr}{p:Int×Int}{l:List X9}{Q:Bool->X8->Prop}(hx:zw s.heap (.ref x) p)(hl:∀v∈l,∃b q,v=.ref b/\zw s.heap (.ref b) q)(q:Q false s):Xg (Xh prog w) A (searchCouldBeSeen (.ref x) l) Q E s:=by
 unfold searchCouldBeSeen;refine ZB ?_;refine PF _ (fun rest r s'=>r.1=none/\s'=s/\∀v∈rest,∃b q,v=.ref b/\zw s.heap (.ref b) q) _ ?_ ?_ _ _ ⟨rfl,rfl,hl⟩
 ·rintro v rest r s' ⟨hr,rfl,hall⟩;obtain⟨b,q',rfl,hb⟩:=hall v XS;dsimp only;split
  ·exact X6 ⟨rfl,rfl,fun u hu'=>hall u (XT _ hu')⟩
  ·refine ZB ((tk2 prog w).quiet (JN hx) ?_);rw[if_neg (by decide)];refine ZB ((tk2 prog w).quiet (JN hb) ?_);rw[if_neg (by decide)];refine ZB (zdP (d:=0) hx ?_);rw[if_neg XX];refine ZB (zdP (d:=0) hb ?_);rw[if_neg XX];exact X6 ⟨rfl,rfl,fun u hu'=>hall u (XT _ hu')⟩
 ·rintro⟨r1,r2⟩ s' ⟨hr,rfl,_⟩;simp only at hr;subst hr;exact X6 q
theorem zkG {x:Addr}{p:Int×Int}{Q:Bool->X8->Prop}(hx:zw s.heap (.ref x) p)(q:Q true s):Xg (Xh prog w) A (ON 8 (.ref x)) Q E s:=by
 obtain⟨b,o,n,t,u,e,e1,e2,e3⟩:=hx;cases e;have hT:s.TypeIs (.ref x) "tuple":=⟨o,e1,e2⟩;unfold ON;refine ZB (O7 hT PySem.F.slot_tuple_hash.lookup ?_);dsimp only;refine ZB (wpAny_seqItems e1 e3 ?_);dsimp only[Option.getD];refine ZB ?_;rw[<- Array.forIn_toList];refine PF _ (fun rest r s'=>r.1=none/\s'=s/\∀v∈rest,∃i t,v=Vu i t) _ ?_ ?_ _ _ ⟨rfl,rfl,fun v hv=>?_⟩
 ·rintro v rest r s' ⟨hr,rfl,hall⟩;obtain⟨i,t,rfl⟩:=hall v XS;rw[show ON 7 (Vu i t)=pure true by unfold ON;rfl];refine ZB (X6 ?_);rw[if_neg (by decide)];exact X6 ⟨rfl,rfl,fun u hu'=>hall u (XT _ hu')⟩
 ·rintro⟨r1,r2⟩ s' ⟨hr,rfl,_⟩;simp only at hr;subst hr;exact X6 q
 ·simp at hv;rcases hv with rfl | rfl
  ·exact⟨_,_,rfl⟩
  ·exact⟨_,_,rfl⟩
theorem zeS {n:Nat}{h:Int}{x b:Addr}{p:Int×Int}{i:Nat}{Q:SetFound->X8->Prop}(hu:A.units<U1)(ho:s.heap.get? a=some (qm es ep t))(G:Good t (es.map (·.1)))(nd:(es.map (·.1)).toList.Nodup)
  (all:∀e∈es.toList,∃b q,e.2=WU b/\zw s.heap (.ref b) q) (hi:es[i]?=some (h,.ref b)) (hx:zw s.heap (.ref x) p) (hb:zw s.heap (.ref b) p)
  (hQ:Q (.there none) s):Xg (Xh prog w) A (Qb a (.ref x) h true (n+1) none) Q E s:=by
 have hlt:i<(es.map (·.1)).size:=by
  rw[Vh];exact(Vw.mp hi).1
 have eh:(es.map (·.1)).toList.getD i 0=h:=by
  rw[<- zeR i hlt,hi];rfl
 obtain⟨nx,e⟩:=G.found (fun i=>(es[i]?.map (·.1)).getD 0) zeR nd hlt;rw[eh] at e;rw[Qb];refine ZB (x6 ho G ?_);dsimp only;rw[G.odd,if_neg XX];generalize hm:t.probe _ h _=m;have em:m=some (.candidate (t.place.getD i 0) i nx):=hm.symm.trans e;subst em;dsimp only;have seen:∀v∈(es.filter (·.1==h)).toList.map (·.2),∃b q,v=WU b/\zw s.heap (.ref b) q:=fun v hv=>by
  obtain⟨e,he,rfl⟩:=XC.mp hv;rw[Array.toList_filter] at he;exact all e (XV.mp he).1
 rw[hi];cases hl:t.led with
 | true =>
  rw[if_neg (by decide)];refine ZB (Wd ((tk2 prog w).eqBool hu (JN hb) (JN hx) ?_));refine ZB (x6 ho G ?_);dsimp only;rw[decide_eq_true rfl,if_pos (by decide)];exact X6 hQ
 | false =>
  rw[if_pos (by decide)];refine ZB (zkF hx seen ?_);rw[if_neg XX];refine ZB (Wd ((tk2 prog w).eqBool hu (JN hb) (JN hx) ?_));refine ZB (x6 ho G ?_);dsimp only;rw[decide_eq_true rfl,if_pos (by decide)];exact X6 hQ
end
end ST
namespace ST
def zcm (f:Int×Int->Int)(q:Addr×(Int×Int)):Int×X9:=(f q.2,WU q.1)
structure zdk (f:Int×Int->Int)(led:Bool)(h:Heap)(a:Addr)(ks:List (Addr×(Int×Int))):Prop where
 ex:∃es ep t,h.get? a=some (qm es ep t)/\es.toList=ks.map (zcm f)/\Good t (es.map (·.1))/\t.led=led/\t.plain=true
 nd:(ks.map (·.2)).Nodup
 cells:∀q∈ks,zw h (.ref q.1) q.2
 inb:∀q∈ks,InB q.2
theorem zw.up {h h':Heap}{x:Addr}{p:Int×Int}(H:zw h (.ref x) p){a:Addr}(hs:VL a h h'){o:Obj}(ho:h.get? a=some o)(hc:o.cls=.type "set"):zw h' (.ref x) p:=by
 obtain⟨b,o',n,t,u,e,e1,e2,e3⟩:=H;cases e;refine⟨x,o',n,t,u,rfl,?_,e2,e3⟩;rw[hs.2 x fun z=>?_]
 ·exact e1
 ·subst z;rw[ho] at e1;cases e1;rw[hc] at e2;exact absurd e2 (by decide)
section
variable {prog:Xd}{w:WP}{A:WK}{E:X9->X8->Prop}{s:X8}{a:Addr}{es:Array (Int×X9)}{ep:Nat}{t:Wr}{ks:List (Addr×(Int×Int))}{f:Int×Int->Int}{led:Bool}
theorem ZZ (he:es.toList=ks.map (zcm f)):(es.map (·.1)).toList=ks.map fun q=>f q.2:=by
 rw[UX,he,WR];rfl
theorem zje (inj:∀p q,InB p->InB q->f p=f q->p=q)(nd:(ks.map (·.2)).Nodup)(inb:∀q∈ks,InB q.2):(ks.map fun q=>f q.2).Nodup:=by
 rw[WW,Wo] at nd ⊢;refine nd.imp_of_mem fun {x y} hx hy h e=>h (inj _ _ (inb x hx) (inb y hy) e)
theorem zfO {es':Array (Int×X9)}{t':Wr}{Q:Unit->X8->Prop}(ho:s.heap.get? a=some (qm es ep t))(hz:es'.size<=64)
  (q:∀h',VL a s.heap h'->h'.get? a=some (qm es' (ep+1) t')->Q () { s with heap:=h' }):Xg (Xh prog w) A (storeSet a es' t') Q E s:=by
 refine wpAny_storeSet_of (o:=qm es ep t) ho rfl (q _ (VO ..) ?_) (X5 hz (by rw[TV];decide));have:=Wi (Obj.putSet es' t') ho (by rw[putSet_of es' t' (o:=qm es ep t) rfl];rfl);rw[putSet_of es' t' (o:=qm es ep t) rfl] at this;exact this
theorem zfP {α:Type}(d:α)(xs:Array α):∀(l:List Nat),(∀i∈l,i<xs.size)->l.filterMap (fun i=>xs[i]?)=l.map fun i=>xs.toList.getD i d
 | [],_=>rfl
 | i::l,h=>by
  have hi:=h i XS;rw[U5,Xf,V3 hi];dsimp only;rw[zfP d xs l fun j hj=>h j (XT _ hj)];congr 1;rw[XB,Xx,V3 hi];rfl
theorem zeT {n:Nat}(hn:n=5\/n=19):¬ S1 (Uo n)>Xz:=by
 rw[TV];rcases hn with rfl | rfl
 ·rw[show S1 (Uo 5)=32 by decide +kernel];lia
 ·rw[show S1 (Uo 19)=128 by decide +kernel];lia
theorem zkH {Q:Unit->X8->Prop}(ho:s.heap.get? a=some (qm es ep t))(hf:t.fits es.size=true)(hn:es.size=5\/es.size=19)(he:es.toList=ks.map (zcm f))
  (q:∀(h':Heap) (es':Array (Int×X9)) (t':Wr) (ks':List (Addr×(Int×Int))),VL a s.heap h'->h'.get? a=some (qm es' (ep+1) t')->es'.toList=ks'.map (zcm f)->ks'.Perm ks->Good t' (es'.map (·.1))->t'.led=t.led->t'.plain=t.plain->Q () { s with heap:=h' }):Xg (Xh prog w) A (setRelay a (Uo es.size)) Q E s:=by
 have hsz:(es.map (·.1)).size=es.size:=Vh ..;obtain⟨t',order,e1,e2,e3,e4,e5,e6,e7⟩:=zg6 t (es.map (·.1)) (by rw[hsz];exact hn);rw[hsz] at e1 e2 e3 e6;have hlt:∀i∈order.toList,i<es.size:=fun i hi=>Xc.mp (e3.mem_iff.mp hi);have hkl:ks.length=es.size:=by
  rw[<- X4,he,Y1]
 have d0:Addr×(Int×Int):=(0,(0,0));have el:(order.filterMap (es[·]?)).toList=(order.toList.map fun i=>ks.getD i d0).map (zcm f):=by
  rw[Array.toList_filterMap,zfP (zcm f d0) es order.toList hlt,WR];refine Xi fun i hi=>?_;have h1:=hlt i hi;show es.toList.getD i _=zcm f (ks.getD i d0);rw[he,XB,XA,XB,X7 (by lia),T7,TC,TC]
 have es_:(order.filterMap (es[·]?)).size=es.size:=by
  rw[<- X4,el,Y1,Y1,X4,e2]
 unfold setRelay;refine ZB (Ss (o:=qm es ep t) ho rfl hf ?_);dsimp only;rw[if_neg (zeT hn),e1];refine ZB ?_;show Xg (Xh prog w) A (do
  let es':=order.filterMap (es[·]?)
  if es'.size != es.size then unsupported "internal:set-table-lost-an-element"
  pure (es',t')) _ _ _
 dsimp only;rw[es_,if_neg (by simp)];refine X6 ?_;dsimp only;refine zfO ho (by rw[es_];lia) fun h' h1 h2=>q h' _ t' _ h1 h2 el ?_ ?_ e4 e5
 ·have:=e3.map fun i=>ks.getD i d0;rw[<- hkl,zg0] at this;exact this
 ·have eh:(order.filterMap (es[·]?)).map (·.1)=order.map fun i=>(es.map (·.1)).toList.getD i 0:=by
   apply PD.mp;rw[ZZ el,UX,WR];refine Xi fun i hi=>?_;have h1:=hlt i hi;show f (ks.getD i d0).2=_;rw[ZZ he,XB,XB,XA,X7 (by lia),T7,TC,TC]
  rw[eh];exact e7
theorem zkI {n:Nat}{x:Addr}{p:Int×Int}{Q:Bool->X8->Prop}(inj:∀p q,InB p->InB q->f p=f q->p=q)(hu:A.units<U1)(S:zdk f led s.heap a ks)(hx:zw s.heap (.ref x) p)(hb:InB p)(hn:p ∉ ks.map (·.2)->ks.length<63)
  (q:∀(b:Bool) (h':Heap) (ks':List (Addr×(Int×Int))),VL a s.heap h'->zdk f led h' a ks'->(∀c,c∈ks'.map (·.2)↔c∈ks.map (·.2)\/c=p)->(∀c∈ks',c∈ks\/c=(x,p))->Q b { s with heap:=h' }) :
  Xg (Xh prog w) A (setAddHashedIn a (.ref x) (f p) (n+1)) Q E s:=by
 obtain⟨⟨es,ep,t,ho,he,G,hl,hp⟩,nd,hc,inb⟩:=S;have hkl:ks.length=es.size:=by
  rw[<- X4,he,Y1]
 generalize hh:f p=h;rw[setAddHashedIn];refine ZB (x6 ho G ?_);dsimp only;rw[show byScan (.ref x) es=false by simp[byScan,Value.scannable],if_neg XX];by_cases hm:p∈ks.map (·.2)
 ·obtain⟨⟨b,p'⟩,hk,e⟩:=XC.mp hm;simp only at e;subst e;obtain⟨i,hi,ei⟩:=Tt hk;have eg:es[i]?=some (h,.ref b):=by
   rw[<- Xx,he,XA,X7 hi,ei,<- hh];rfl
  unfold setSearch;refine ZB (zeS (n:=99999) hu ho G (by rw[ZZ he];exact zje inj nd inb) (fun e hm'=>?_) eg hx (hc _ hk) ?_)
  ·rw[he] at hm';obtain⟨c,h1,rfl⟩:=XC.mp hm';exact⟨c.1,c.2,rfl,hc c h1⟩
  ·refine X6 (q false s.heap ks (Heap.SameBut.refl _ _) ⟨⟨es,ep,t,ho,he,G,hl,hp⟩,nd,hc,inb⟩ (fun c=>⟨.inl,fun z=>z.elim id fun z=>z ▸ hm⟩) fun c h1=>.inl h1)
 ·have hlen:=hn hm;have no:h ∉ (es.map (·.1)).toList:=fun z=>by
   rw[ZZ he,<- hh] at z;obtain⟨c,h1,h2⟩:=XC.mp z;exact hm (XC.mpr ⟨c,h1,inj _ _ (inb c h1) hb h2⟩)
  unfold setSearch;refine ZB (zdj (n:=99999) ho G no fun j h1 h2 h3=>?_);dsimp only;refine ZB (x6 ho G ?_);obtain⟨f1,f2,f3⟩:=zkD G.up G.dum h2;have hsz:t.place.size=es.size:=by rw[G.sz,Vh]
  have bs:Xv t.place j<=es.size:=by
   rw[<- hsz];exact(Zo G.up j).1
  generalize hpos:Xv t.place j=pos at f1 f2 f3 bs;have ep1:(t.put j).1.plain=true:=by rw[f2];exact hp
  have el1:(t.put j).1.led=led:=by rw[f2];exact hl
  have hks:∃ks1,ks1=ks.take pos++(x,p)::ks.drop pos:=⟨_,rfl⟩;obtain⟨ks1,hks⟩:=hks;have he1:(Xb es pos (h,WU x)).toList=ks1.map (zcm f):=by
   rw[Yz,he,hks,Xj,Xf,Tn,P9];simp only[zcm,hh]
  have hsz1:(Xb es pos (h,WU x)).size=es.size+1:=jI _ bs _;have pm:ks1.Perm ((x,p)::ks):=by
   rw[hks];refine List.perm_middle.trans (List.Perm.cons _ ?_);rw[Wx]
  have fits1:(t.put j).1.fits (Xb es pos (h,WU x)).size=true:=by
   have hr:=G.room;have bp:pos<=t.place.size:=by rw[hsz];exact bs
   rw[hsz1,f2];unfold SetTable.fits Od;simp only[G.dum,jI _ bp,hsz];rcases G.mask with e | e | e<;>simp[e]<;>rw[hsz,e] at hr<;>lia
  have fin:∀(h':Heap) (ks':List (Addr×(Int×Int))) (es':Array (Int×X9)) (ep':Nat) (t':Wr),VL a s.heap h'->h'.get? a=some (qm es' ep' t')->es'.toList=ks'.map (zcm f)->ks'.Perm ((x,p)::ks)->Good t' (es'.map (·.1))->t'.led=led->t'.plain=true->Q true { s with heap:=h' }:=by
   intro h' ks' es' ep' t' hs hg hel hpm hG hle hpl;have mem:∀c,c∈ks'↔c=(x,p)\/c∈ks:=fun c=>by rw[hpm.mem_iff,XJ]
   refine q true h' ks' hs ⟨⟨es',ep',t',hg,hel,hG,hle,hpl⟩,?_,fun c hc'=>?_,fun c hc'=>?_⟩ (fun c=>?_) fun c hc'=>(mem c).mp hc' |>.symm
   ·rw[(hpm.map (·.2)).nodup_iff,Xf,VJ];exact⟨hm,nd⟩
   ·rcases(mem c).mp hc' with rfl | z
    ·exact zw.up hx hs ho rfl
    ·exact zw.up (hc c z) hs ho rfl
   ·rcases(mem c).mp hc' with rfl | z
    ·exact hb
    ·exact inb c z
   ·rw[(hpm.map (·.2)).mem_iff,Xf,XJ];exact Or.comm
  have eT:t.put j=((t.put j).1,pos):=by rw[<- f1]
  have fl:(t.put j).1.tooFull=decide ((es.size+1)*5 >= t.mask*3):=by
   have bp:pos<=t.place.size:=by rw[hsz];exact bs
   rw[f2];unfold SetTable.tooFull Od;simp only[G.dum,jI _ bp,hsz];rfl
  have gd:¬ (es.size+1)*5 >= t.mask*3->Good (t.put j).1 ((Xb es pos (h,WU x)).map (·.1)):=fun hr=>by
   have:=G.put (h:=h) h1 h2 h3 (by rw[hsz];lia);rw[f1] at this;have e:(Xb es pos (h,WU x)).map (·.1)=Xb (es.map (·.1)) pos h:=by
    apply PD.mp;rw[UX,Yz,Yz,UX,Xj,Xf,Tn,P9]
   rw[e];exact this
  have hroom:=G.room;have hmask:=G.mask;rw[hsz] at hroom;dsimp only;rw[eT];dsimp only;generalize t.put j=T at ep1 el1 fits1 fl gd;obtain⟨t1,p1⟩:=T;dsimp only at ep1 el1 fits1 fl gd ⊢;rw[ep1,if_pos rfl];refine ZB (zkG hx ?_);rw[if_pos rfl];refine ZB (zfO ho (by rw[hsz1];lia) fun h' hs hg=>?_);by_cases full:(es.size+1)*5 >= t.mask*3
  ·rw[fl,decide_eq_true full,if_pos (by decide)];rw[<- hsz1];refine ZB (zkH (s:={ s with heap:=h' }) hg fits1 (by rw[hsz1];rcases hmask with e | e | e<;>rw[e] at full hroom<;>lia) he1 fun h2' es' t' ks' hs' hg' hel hpm hG hle hpl=>?_);exact X6 (fin h2' ks' es' _ t' (hs.trans hs') hg' hel (hpm.trans pm) hG (hle.trans el1) (hpl.trans ep1))
  ·rw[fl,decide_eq_false full,if_neg (by decide)];exact X6 (fin h' ks1 _ _ t1 hs hg he1 pm (gd full) el1 ep1)
theorem zkJ {x:Addr}{p:Int×Int}{Q:Bool->X8->Prop}(hu:A.units<U1)(S:zdk (hP prog w) led s.heap a ks)(hx:zw s.heap (.ref x) p)(hb:InB p)(hn:p ∉ ks.map (·.2)->ks.length<63)
  (q:∀(b:Bool) (h':Heap) (ks':List (Addr×(Int×Int))),VL a s.heap h'->zdk (hP prog w) led h' a ks'->(∀c,c∈ks'.map (·.2)↔c∈ks.map (·.2)\/c=p)->(∀c∈ks',c∈ks\/c=(x,p))->Q b { s with heap:=h',toks:=s.toks+3 }) :
  Xg (Xh prog w) A (setAdd a (.ref x)) Q E s:=by
 unfold setAdd;refine Wd (ZB ((tk2 prog w).pyHash hu (JN hx) ?_));show Xg (Xh prog w) A (setAddHashed a (.ref x) (hP prog w p)) Q E { s with toks:=s.toks+3 };unfold setAddHashed;refine Wd ?_;exact zkI (n:=99999) (s:={ s with toks:=s.toks+3 }) (fun p q h1 h2 h3=>zoR h1 h2 h3) hu S hx hb hn q
end
end ST
namespace ST
theorem zig {α:Type}(next:Nat->Nat):∀(fuel k:Nat) (left:List α) (out:Array α),left.length=fuel->(pickOrder.go next fuel k left out).toList.Perm (out.toList++left)
 | 0,k,left,out,h=>by
  rw[Ul.mp h,Xa];exact List.Perm.refl _
 | fuel+1,k,left,out,h=>by
  have hl:next k%left.length<left.length:=R9 _ (by lia)
  rw[pickOrder.go,X7 hl];dsimp only;refine(zig next fuel (k+1) _ _ (by rw[List.length_eraseIdx_of_lt hl];lia)).trans ?_;rw[Sq,W2];refine Sd _ ?_;have e:left=left.take (next k%left.length)++left[next k%left.length]::left.drop (next k%left.length+1):=by
   rw[<- WB hl,Wx]
  rw[List.eraseIdx_eq_take_drop_succ];have e2:=@List.perm_middle _ left[next k%left.length] (left.take (next k%left.length)) (left.drop (next k%left.length+1));rw[<- e] at e2;exact e2.symm
theorem zjf {α:Type}(next:Nat->Nat)(xs:Array α):(PQ next xs).toList.Perm xs.toList:=by
 have h:=zig next xs.size 0 xs.toList #[] (by simp)
 rw[show (#[]:Array α).toList++xs.toList=xs.toList from rfl] at h;exact h
theorem yK:Slot "set_iterator" "__next__" "set_iterator.__next__" :=
 .of (owner:="set_iterator") (n:="__next__") (by rw[RO,T1];kernel_rfl) (by decide +kernel) (by decide +kernel) (by decide +kernel) (.inl (by decide +kernel)) (by rw[OJ];kernel_rfl)
theorem zam:NC table "set_iterator.__next__"=some Vc.«set_iterator.__next__»:=entryFor_of_tree (by kernel_rfl)
theorem zcn:Manifest.owners.lookup (String.ofList ['r','o','t','a','r','e','t','i','_','t','e','s'].reverse)=some Manifest.sig_set_iterator:=by kernel_rfl
theorem zbr (a:X9):argsOk "set_iterator.__next__" ⟨[a],[]⟩:=by
 unfold argsOk;rw[signature?_of (id:="set_iterator.__next__") (n:=['_','_','t','x','e','n','_','_']) (o:=['r','o','t','a','r','e','t','i','_','t','e','s']) (by kernel_rfl) zcn];kernel_rfl
theorem zeU:NC table "set.__iter__"=some Vc.«frozenset.__iter__»:=entryFor_alias (id':="frozenset.__iter__") (by kernel_rfl) rfl (by decide +kernel) (by kernel_rfl)
def zco (slot i:Nat)(a:Addr)(n ep:Nat):Obj:={ cls:=.type "set_iterator",data:=.fields #[UW slot,UW i,.ref a,UW n,UW ep] }
def slotAt (byText:Bool)(t:Wr)(i:Nat):Nat:=if byText then 0 else if i=0 then 0 else t.place.getD (i-1) 0+1
def Zs (w:WP)(a:Addr)(ep:Nat)(es:Array (Int×X9)):Array (Int×X9):=if w.params.followText "set-order" then PQ (w.params.setOrder a ep) es else es
theorem zan (w:WP)(a:Addr)(ep:Nat)(es:Array (Int×X9)):(Zs w a ep es).toList.Perm es.toList:=by
 unfold Zs;split
 ·exact zjf _ _
 ·exact List.Perm.refl _
section
variable {prog:Xd}{w:WP}{A:WK}{E:X9->X8->Prop}{s:X8}{a:Addr}{es:Array (Int×X9)}{ep:Nat}{t:Wr}
theorem zeV {Q:Bool->X8->Prop}(q:Q (w.params.followText "set-order") s):Xg (Xh prog w) A setsByText Q E s:=by
 unfold setsByText;exact ZB (PC (X6 q))
theorem below_at {t:Wr}(U:Up t.place){i:Nat}(hi:i<=t.place.size):Xv t.place (slotAt false t i)=i:=by
 obtain⟨b1,b2,b3⟩:=Zo U (slotAt false t i);unfold slotAt at *
 simp only[WG,if_false] at *
 by_cases h0:i=0
 ·subst h0;rw[if_pos rfl] at *
  rcases Nat.eq_zero_or_pos (Xv t.place 0) with e | e
  ·exact e
  ·have:=b2 0 e;lia
 ·rw[if_neg h0] at *
  rcases Rc (Xv t.place (t.place.getD (i-1) 0+1)) i with e | e | e
  ·have:=b3 (i-1) (by lia) (by lia);lia
  ·exact e
  ·have h1:=b2 i e;have h2:=U (i-1) i (by lia) (by lia);lia
theorem zih {i:Nat}{Q:Option (X9×Nat)->X8->Prop}(ho:s.heap.get? a=some (qm es ep t))(G:Good t (es.map (·.1)))(hl:t.led=!w.params.followText "set-order")(hp:t.plain=true)(hi:i<=es.size)
  (q1:∀v,(Zs w a ep es)[i]?.map (·.2)=some v->Q (some (v,slotAt (w.params.followText "set-order") t (i+1))) s) (q2:i=es.size->Q none s) :
  Xg (Xh prog w) A (setNext a (slotAt (w.params.followText "set-order") t i) i ep) Q E s:=by
 have hsz:t.place.size=es.size:=by rw[G.sz,Vh]
 have hos:(Zs w a ep es).size=es.size:=by
  rw[<- X4,(zan w a ep es).length_eq,X4]
 unfold setNext;refine ZB (x6 ho G ?_);dsimp only;refine ZB (zeV ?_);cases hb:w.params.followText "set-order" with
 | true =>
  rw[if_pos rfl];rw[hb] at q1;rw[if_neg (by simp)];unfold setWalk;refine ZB (ZB (x6 ho G ?_));dsimp only;refine ZB (zeV ?_);rw[hb,if_pos rfl];refine ZB (PC (X6 (X6 ?_)));have eo:Zs w a ep es=PQ (w.params.setOrder a ep) es:=by
   unfold Zs;rw[hb,if_pos rfl]
  rw[eo] at q1 hos;show Q (Option.map _ (PQ (w.params.setOrder a ep) es)[i]?) s;by_cases h:i<es.size
  ·have e:(PQ (w.params.setOrder a ep) es)[i]?=some (PQ (w.params.setOrder a ep) es)[i]:=V3 (by lia);rw[e] at q1 ⊢;exact q1 _ rfl
  ·rw[WQ (by lia)];exact q2 (by lia)
 | false =>
  rw[if_neg XX];rw[hb] at q1 hl;have eo:Zs w a ep es=es:=by
   unfold Zs;rw[hb,if_neg XX]
  rw[eo] at q1;split
  ·rename_i h;exact absurd h (by show ¬ ((!t.plain&&decide (es.size>1))=true);rw[hp];exact XX)
  refine ZB ?_;show Xg _ _ (if (!t.led && !es.isEmpty)=true then unsupported "set:maker-not-led" else pure ()) _ _ _;rw[hl,if_neg (by simp)];refine X6 ?_;rw[below_at G.up (by lia)];by_cases h:i<es.size
  ·have e:es[i]?=some es[i]:=V3 h;have e2:t.place[i]?=some (t.place.getD i 0):=JL (by lia);rw[e] at q1 ⊢;rw[e2];refine X6 (q1 _ rfl)
  ·rw[WQ (by lia)];exact X6 (q2 (by lia))
end
end ST
namespace ST
theorem zdQ:Slot "set_iterator" "__iter__" "set_iterator.__iter__" :=
 .of (owner:="set_iterator") (n:="__iter__") (by rw[RO,T1];kernel_rfl) (by decide +kernel) (by decide +kernel) (by decide +kernel) (.inl (by decide +kernel)) (by rw[OJ];kernel_rfl)
theorem zg7:NC table "set_iterator.__iter__"=some Vc.«dict_keyiterator.__iter__»:=entryFor_alias (id':="dict_keyiterator.__iter__") (by kernel_rfl) rfl (by decide +kernel) (by kernel_rfl)
theorem zjg (a:X9):argsOk "set_iterator.__iter__" ⟨[a],[]⟩:=by
 unfold argsOk;rw[signature?_of (id:="set_iterator.__iter__") (n:=['_','_','r','e','t','i','_','_']) (o:=['r','o','t','a','r','e','t','i','_','t','e','s']) (by kernel_rfl) zcn];kernel_rfl
section
variable {prog:Xd}{w:WP}{A:WK}{E:X9->X8->Prop}{s:X8}{a I:Addr}{es:Array (Int×X9)}{ep:Nat}{t:Wr}
theorem zg8 {slot i a n ep:Nat}(x y:Nat):T3 (·.setIfInBounds 1 (UW y)) (T3 (·.setIfInBounds 0 (UW x)) (zco slot i a n ep))=zco x y a n ep:=rfl
theorem zmS {i:Nat}{Q:Option X9->X8->Prop}(hI:s.heap.get? I=some (zco (slotAt (w.params.followText "set-order") t i) i a es.size ep))(ho:s.heap.get? a=some (qm es ep t))(G:Good t (es.map (·.1)))(hl:t.led=!w.params.followText "set-order")(hp:t.plain=true)(hi:i<es.size)
  (q:∀v h',(Zs w a ep es)[i]?.map (·.2)=some v->h'.get? I=some (zco (slotAt (w.params.followText "set-order") t (i+1)) (i+1) a es.size ep)->VL I s.heap h'->Q (some v) { s with heap:=h' }) :
  Xg (Xh prog w) A (Tb (.ref I)) Q E s:=by
 have hT:s.TypeIs (.ref I) "set_iterator":=⟨_,hI,rfl⟩;unfold Tb;refine ZB (To (Um (name:=Pl "__next__") hT yK (V9 yK hT zam ?_ (zbr _))));unfold Vc.«set_iterator.__next__»;refine ZB (X6 ?_);refine ZB (Ry hI rfl ?_);dsimp only[UW];refine ZB (RJ (o:=qm es ep t) ho rfl ?_ ?_)
 ·have:=G.fits;rwa [Vh] at this
 rw[if_neg (by simp)];show Xg _ _ (setNext a (slotAt (w.params.followText "set-order") t i) i ep >>= _) _ _ _;refine ZB (zih ho G hl hp (SN hi) (fun v hv=>?_) fun z=>absurd z (by lia));dsimp only;refine ZB (SD hI rfl (by simp[zco]) ?_);have h1:=Wi (T3 (·.setIfInBounds 0 (UW ((slotAt (w.params.followText "set-order") t (i+1):Nat):Int)))) hI rfl;refine ZB (SD h1 rfl (by simp[zco,T3]) ?_);have h2:=Wi (T3 (·.setIfInBounds 1 (UW ((i:Int)+1)))) h1 rfl;refine X6 ⟨_,rfl,X6 (q v _ hv ?_ ((VO ..).trans (VO ..)))⟩;rw[show ((i:Int)+1)=((i+1:Nat):Int) by lia] at h2 ⊢;rw[zg8] at h2;exact h2
theorem zoS {Q:Option X9->X8->Prop}(hh:A.handled=none)(hI:s.heap.get? I=some (zco (slotAt (w.params.followText "set-order") t es.size) es.size a es.size ep))(ho:s.heap.get? a=some (qm es ep t))(G:Good t (es.map (·.1)))(hl:t.led=!w.params.followText "set-order")(hp:t.plain=true)
  (q:∀h',Heap.ExtBut I s.heap h'->Q none { s with heap:=h' }):Xg (Xh prog w) A (Tb (.ref I)) Q E s:=by
 have hT:s.TypeIs (.ref I) "set_iterator":=⟨_,hI,rfl⟩;unfold Tb;refine ZB (To (Um (name:=Pl "__next__") hT yK (V9 yK hT zam ?_ (zbr _))));unfold Vc.«set_iterator.__next__»;refine ZB (X6 ?_);refine ZB (Ry hI rfl ?_);dsimp only[UW];refine ZB (RJ (o:=qm es ep t) ho rfl ?_ ?_)
 ·have:=G.fits;rwa [Vh] at this
 rw[if_neg (by simp)];show Xg _ _ (setNext a (slotAt (w.params.followText "set-order") t es.size) es.size ep >>= _) _ _ _;refine ZB (zih ho G hl hp (XW _) (fun v hv=>?_) fun _=>?_)
 ·have hos:(Zs w a ep es).size=es.size:=by
   rw[<- X4,(zan w a ep es).length_eq,X4]
  rw[WQ (by lia)] at hv;cases hv
 dsimp only;refine ZB (SD hI rfl (by simp[zco]) ?_);refine ZB ?_;simp only[newExc,newTuple];refine ZB (Wq ?_ (by size_fits));refine ZB (m:=TR _ _) (OO (a:=VC) (by first | rfl | (simp only[TR];rfl)) ?_);refine Wq ?_ (by size_fits);simp only[raiseNew];refine ZB (Oe ?_);rw[show A.in1.handled=none from hh];refine ZB (X6 (NN ?_));refine ZB (PJ (T:="StopIteration") (b:=true) ⟨_,Xl _ rfl,rfl⟩ isSubtype_stop ?_);exact X6 (q _ (((VO ..).extBut.push _).push _))
theorem zmT {slot i n:Nat}{Q:X9->X8->Prop}(hI:s.heap.get? I=some (zco slot i a n ep))(q:Q (.ref I) s):Xg (Xh prog w) A (NE (.ref I)) Q E s:=by
 have hT:s.TypeIs (.ref I) "set_iterator":=⟨_,hI,rfl⟩;refine Rb hT zdQ (V9 zdQ hT zg7 ?_ (zjg _));exact X6 ⟨_,rfl,"set_iterator",_,hT,yK.lookup,q⟩
theorem walks (hh:A.handled=none)(hne:a≠I)(G:Good t (es.map (·.1)))(hl:t.led=!w.params.followText "set-order")(hp:t.plain=true) :
  Walks prog w A I [I,a] [I] es.size (fun i v=>(Zs w a ep es)[i]?.map (·.2)=some v) (fun i h=>h.get? I=some (zco (slotAt (w.params.followText "set-order") t i) i a es.size ep)/\h.get? a=some (qm es ep t)) where
 sub:=fun b hb=>by simp at hb;simp[hb]
 frame:=fun _ _ _ st hk=>⟨hk I (by simp) _ st.1,hk a (by simp) _ st.2⟩
 item:=fun i s Q E hi st hQ=>zmS st.1 st.2 G hl hp hi fun v h' hv h1 hs=>hQ v h' s.toks hv ⟨h1,(hs.2 a hne).trans st.2⟩ fun b o hb e=>(hs.2 b fun z=>hb (by simp[z])).trans e
 done:=fun s Q E st hQ=>zoS hh st.1 st.2 G hl hp fun h' he=>hQ h' s.toks fun b o hb e=>he b o (fun z=>hb (by simp[z])) e
 self:=fun _ _ _ _ st hQ=>zmT st.1 hQ
theorem zfQ:splitId "set.__len__"=some ("set","__len__"):=by decide +kernel
theorem zfR {Q:List X9->X8->Prop}(hh:A.handled=none)(ho:s.heap.get? a=some (qm es ep t))(G:Good t (es.map (·.1)))(hl:t.led=!w.params.followText "set-order")(hp:t.plain=true)(hn:es.size<=64)
  (q:∀vs h' tk,vs.Perm (es.toList.map (·.2))->(∀b o,s.heap.get? b=some o->h'.get? b=some o)->s.heap.objs.size<=h'.objs.size->Q vs { s with heap:=h',toks:=tk }):Xg (Xh prog w) A (collect (.ref a)) Q E s:=by
 have hlt:a<s.heap.objs.size:=XO ho;unfold collect;refine ZB (wpAny_runValue (VQ PySem.F.entry_proto_collect ?_));rw[V5 PySem.F.plain_proto_collect _];show Xg _ A.in1 (newList [] >>= fun l=>Rh (.builtin "list.__iadd__" ⟨[l,.ref a],[]⟩)) _ _ s;refine ZB (Wq ?_);refine X6 ⟨Uz Ps _,VQ PySem.F.entry_list_iadd ?_⟩;rw[V5 Ps _];show Xg _ A.in1 (RB (.ref s.heap.objs.size) (.ref a) (.ref s.heap.objs.size)) _ _ _;generalize hL:(s.heap.push { cls:=.type "list",data:=.seq ([]:List X9).toArray })=h1;have ho1:h1.get? a=some (qm es ep t):=by rw[<- hL];exact XZ _ ho
 have hS1:h1.get? s.heap.objs.size=some { cls:=.type "list",data:=.seq #[] }:=by rw[<- hL];exact Xl _ rfl
 have kp1:∀b o,s.heap.get? b=some o->h1.get? b=some o:=fun b o e=>by rw[<- hL];exact XZ _ e
 have z1:h1.objs.size=s.heap.objs.size+1:=by rw[<- hL];exact Vi ..
 have hT:R1 { s with heap:=h1 } (.ref a) "set":=⟨_,ho1,rfl⟩;have h1':P0 (.ref s.heap.objs.size) (.ref a)=false:=by
  simp[P0];exact UH hlt
 unfold RB;refine ZB (Pm hT ?_);rw[if_neg (by rw[h1'];decide)];have hf:t.fits es.size=true:=by
  have:=G.fits;rwa [Vh] at this
 refine ZB (Rb hT OX (V9 OX hT zeU ?_ (PySem.F.args_set_iter_1 _)));unfold Vc.«frozenset.__iter__» Builtin.Frozenset.slot0 slotArgs;simp only[List.isEmpty_nil,Bool.not_true,WG,↓reduceIte,bind_assoc,UL,bne_self_eq_false];unfold Builtin.Frozenset.addrOf Builtin.Frozenset.sizeOf;refine ZB (X6 ?_);dsimp only;refine ZB (X6 ?_);refine ZB (ZB (RJ (s:={ s with heap:=h1 }) (o:=qm es ep t) ho1 rfl hf (X6 ?_)));unfold setDrawn;refine ZB (ZB (Ss (s:={ s with heap:=h1 }) (o:=qm es ep t) ho1 rfl hf ?_));dsimp only;refine ZB (zeV (X6 ?_));split
 ·rename_i h;exact absurd h (by show ¬ ((!w.params.followText "set-order" && (!t.plain&&decide (es.size>1)))=true);rw[hp];simp)
 refine ZB (X6 ?_);unfold setEpoch;refine ZB (ZB (Ss (s:={ s with heap:=h1 }) (o:=qm es ep t) ho1 rfl hf (X6 ?_)));unfold newFields;refine ZB (Wq ?_);generalize hI:h1.push { cls:=.type "set_iterator",data:=.fields (List.toArray [UW 0,UW 0,WU a,UW ((es.size:Nat):Int),UW ((ep:Nat):Int)]) }=h2;have ho2:h2.get? a=some (qm es ep t):=by rw[<- hI];exact XZ _ ho1
 have hS2:h2.get? s.heap.objs.size=some { cls:=.type "list",data:=.seq #[] }:=by rw[<- hI];exact XZ _ hS1
 have kp2:∀b o,s.heap.get? b=some o->h2.get? b=some o:=fun b o e=>by rw[<- hI];exact XZ _ (kp1 b o e)
 have hI2:h2.get? h1.objs.size=some (zco 0 0 a es.size ep):=by rw[<- hI];exact Xl _ rfl
 have hTI:R1 { s with heap:=h2 } (.ref h1.objs.size) "set_iterator":=⟨_,hI2,rfl⟩;have hT2:R1 { s with heap:=h2 } (.ref a) "set":=⟨_,ho2,rfl⟩;refine X6 ⟨_,rfl,"set_iterator",_,hTI,yK.lookup,?_⟩;refine ZB (Wd ?_);unfold Builtin.List.listLengthHint;refine ZB (O7 hT2 PySem.F.slot_set_len.lookup ?_);dsimp only;rw[zfQ];dsimp only;refine ZB (PJ (b:=true) hT2 sub_set_self ?_);rw[if_neg (by decide)];show Xg _ _ (typeOf (WU a) >>= _) _ _ _;refine ZB (Pm hT2 ?_);show Xg _ _ (pure false) _ _ _;refine X6 ?_;show Xg _ A.in1 (rule "list.extend.makes-room" >>= fun _=>Builtin.List.listTouch (.ref s.heap.objs.size) >>= fun _=>Rh (.builtin "list.extend.loop" ⟨[.ref s.heap.objs.size,.ref h1.objs.size,.ref s.heap.objs.size],[]⟩)) _ _ _;refine ZB (UB (ZB ?_));show Xg _ A.in1 (updateSeq s.heap.objs.size (·.push .none) >>= fun _=>updateSeq s.heap.objs.size (·.pop)) _ _ _;refine ZB (wpAny_updateSeq hS2 rfl ?_);have hS3:=Wi (U8 (·.push VC)) hS2 rfl;refine wpAny_updateSeq hS3 rfl ?_;have hS4:=Wi (U8 (·.pop)) hS3 rfl;have oth:∀b o,b≠s.heap.objs.size->h2.get? b=some o->((h2.update s.heap.objs.size (U8 (·.push VC))).update s.heap.objs.size (U8 (·.pop))).get? b=some o :=
  fun b o hb e=>(Uc _ _ (US hb)).trans ((Uc _ _ (US hb)).trans e)
 generalize (h2.update s.heap.objs.size (U8 (·.push VC))).update s.heap.objs.size (U8 (·.pop))=h4 at hS4 oth;have hne:a≠h1.objs.size:=by
  rw[z1];exact Xk (WF hlt)
 have hSf:s.heap.objs.size ∉ [h1.objs.size,a]:=by
  rw[z1];simp only[XJ,Vn,or_false,not_or];exact⟨Xk (PL _),UH hlt⟩
 have sl0:slotAt (w.params.followText "set-order") t 0=0:=by
  unfold slotAt;split<;>rfl
 have hos:(Zs w a ep es).size=es.size:=by
  rw[<- X4,(zan w a ep es).length_eq,X4]
 refine X6 ⟨Uz PySem.F.plain_extend_loop _,codeAny_extend_loopS ((walks (A:=A.in1) (prog:=prog) (ep:=ep) hh hne G hl hp).toS) (X5 hn (by rw[TV];decide)) _ hSf _ es.size 0 _ _ _ rfl (W5 _)
  ⟨by rw[sl0];exact oth _ _ (by rw[z1];exact Vo _) hI2,oth _ _ (Xk hlt) ho2⟩ hS4 (ItemsOf.nil _) fun s' acc' c' hm hS' hacc=>?_⟩
 show Xg _ A (load s.heap.objs.size >>= _) _ _ s';refine ZB (wpAny_load hS' ?_);obtain⟨h',g',d',tk',os'⟩:=s';have eg:g'=s.gens:=hm.gens;have ed:d'=s.drawn:=hm.drawn;have eo:os'=s.os:=hm.os;subst eg;subst ed;subst eo;refine X6 (q _ _ _ ?_ (fun b o e=>?_) (SN (XO hS')))
 ·have e:acc'.toList=(Zs w a ep es).toList.map (·.2):=by
   refine UF fun i=>?_;rw[Xx,XA,Xx];by_cases hi:i<es.size
   ·have hi':i<acc'.size:=by rw[hacc.1];exact hi
    have e1:acc'[i]?=some acc'[i]:=V3 hi';rw[e1];exact(hacc.2 i _ e1).symm
   ·rw[WQ (by rw[hacc.1];lia),WQ (by lia)];rfl
  rw[e];exact(zan w a ep es).map _
 ·have hb:b<s.heap.objs.size:=XO e;refine hm.heap b o (fun z=>?_) (oth b o (Xk hb) (kp2 b o e));rcases XJ.mp z with z | z
  ·exact V8 _ (z ▸ hb)
  ·have z':b=h1.objs.size:=by simpa using z
   rw[z',z1] at hb;exact absurd hb (Nat.not_lt.mpr (VU _))
end
end ST
open PySem PySem.Spec PyProof.Rows PySem.W
namespace ST
def zfS (prog:Xd)(w:WP)(d:Addr)(ks:List (Addr×(Int×Int))):HO:=.ext fun h=>∃es ep t,h.get? d=some (qm es ep t)/\es.toList=ks.map (zcm (hP prog w))/\Good t (es.map (·.1))/\t.led=(!w.params.followText "set-order")/\t.plain=true
section
variable {prog:Xd}{w:WP}{A:WK}{R:NS->X8->Prop}{I:Addr}{fp wr:List Addr}{G:Array Ut->Array Ut->Prop}{n:Nat}{P:Nat->X9->Prop}{St:Nat->X8->Prop}{led:Bool}
theorem zkK {h0:Heap}(W:WalksS prog w A.in1 I fp wr G n P St)(D:Addr)(hDf:D ∉ fp)(hD0:h0.get? D=none)(hw0:∀b∈wr,h0.get? b=none)(ps:List (Int×Int))(hlen:ps.length=n)(hu:A.units+1<U1)
  (T:Addr->Int×Int->Prop) (hT:∀x p,T x p->zw h0 (.ref x) p) (hP':∀i v,P i v->∃x p,v=.ref x/\ps[i]?=some p/\T x p) (hb:∀p∈ps,InB p) (few:∀l:List (Int×Int),l.Nodup->(∀c∈l,c∈ps)->l.length<=63) :
  ∀(k i:Nat) (s:X8) (ks:List (Addr×(Int×Int))),n-i=k->i<=n->St i s->(∀b o,h0.get? b=some o->s.heap.get? b=some o)->zdk (hP prog w) led s.heap D ks->(∀c,c∈ks.map (·.2)↔c∈ps.take i)->(∀q∈ks,T q.1 q.2) ->
   (∀s' ks',Moved (D::wr) G s s'->zdk (hP prog w) led s'.heap D ks'->(∀c,c∈ks'.map (·.2)↔c∈ps)->(∀q∈ks',T q.1 q.2)->R (.ok (.ret .none)) s') ->
   TJ (Xh prog w) A (.builtin "set.update.loop" ⟨[.ref D,.ref I],[]⟩) R s:=by
 have hDw:D ∉ wr:=fun h=>hDf (W.sub _ h);have more:∀b∈wr,b∈D::wr:=fun b hb=>XT _ hb;have pair_up:∀{h:Heap} {x:Addr} {p:Int×Int},(∀b o,h0.get? b=some o->h.get? b=some o)->T x p->zw h (.ref x) p:=fun kp hx=>by
  obtain⟨b,o,m,t,u,e,e1,e2,e3⟩:=hT _ _ hx;exact⟨b,o,m,t,u,e,kp _ _ e1,e2,e3⟩
 have keep_to:∀{s s':X8},Moved wr G s s'->(∀b o,h0.get? b=some o->s.heap.get? b=some o)->∀b o,h0.get? b=some o->s'.heap.get? b=some o:=fun hm kp b o e =>
  hm.heap b o (fun hb=>by
   rw[hw0 b hb] at e;cases e) (kp b o e)
 have set_to:∀{s s':X8} {ks:List (Addr×(Int×Int))},Moved wr G s s'->(∀b o,h0.get? b=some o->s'.heap.get? b=some o)->(∀q∈ks,T q.1 q.2)->zdk (hP prog w) led s.heap D ks->zdk (hP prog w) led s'.heap D ks :=
  fun hm kp hk ⟨⟨es,ep,t,e1,e2⟩,e3,_,e5⟩=>⟨⟨es,ep,t,hm.heap D _ hDw e1,e2⟩,e3,fun q hq=>pair_up kp (hk q hq),e5⟩
 intro k;induction k with
 | zero =>
  intro i s ks hk hi hst kp hS hm' hTk hR;have hin:i=n:=by lia
  subst hin;refine VQ Tq ?_;rw[V5 U3 _];show Xg _ A.in1 (Tb (.ref I) >>= _) _ _ s;refine ZB (W.done s _ _ hst fun s' hm=>?_);refine X6 (hR s' ks (hm.mono more) (set_to hm (keep_to hm kp) hTk hS) (fun c=>?_) hTk);rw[hm' c,<- hlen,Xw]
 | succ k ih =>
  intro i s ks hk hi hst kp hS hm' hTk hR;have hlt:i<n:=by lia
  refine VQ Tq ?_;rw[V5 U3 _];show Xg _ A.in1 (Tb (.ref I) >>= _) _ _ s;refine ZB (W.item i s _ _ hlt hst fun v s' hPv hst' hm=>?_);obtain⟨x,p,rfl,hq,hx⟩:=hP' i v hPv;have kp':=keep_to hm kp;have hS':=set_to hm kp' hTk hS;have hpm:p∈ps:=X0 hq;have tk:ps.take (i+1)=ps.take i++[p]:=by
   rw[Xu,hq];rfl
  refine ZB (Wd (zkJ (show A.in1.units<U1 from hu) hS' (pair_up kp' hx) (hb p hpm) (fun hno=>?_) fun b h' ks' hs' hS2 hmem zqg=>?_))
  ·have:=few (p::ks.map (·.2)) (VJ.mpr ⟨hno,hS'.nd⟩) fun c hc=>by
    rcases XJ.mp hc with rfl | hc
    ·exact hpm
    ·exact V6 ((hm' c).mp hc)
   rw[Xs,Y1] at this;lia
  have kp2:∀b o,h0.get? b=some o->h'.get? b=some o:=fun b o e=>by
   rw[hs'.2 b (fun z=>by
    rw[z,hD0] at e;cases e)]
   exact kp' b o e
  refine X6 ⟨Uz U3 _,?_⟩;refine ih (i+1) _ ks' (by lia) hlt (W.frame _ s' _ _ hst' (TB _ _) fun b hb o e=>?_) kp2 hS2 (fun c=>?_) (fun q hq'=>?_) fun s'' ks'' hm'' hS'' hc'' hT''=>?_
  ·rw[hs'.2 b (fun z=>hDf (by rw[<- z];exact hb))];exact e
  ·rw[hmem c,hm' c,tk,XG,Ue]
  ·rcases zqg q hq' with z | z
   ·exact hTk q z
   ·rw[z];exact hx
  ·refine hR s'' ks'' (Moved.trans W.gtrans ((hm.mono more).then_heap (TB _ _) fun b o hb e=>?_) hm'') hS'' hc'' hT'';rw[hs'.2 b (fun z=>hb (by rw[z];exact XS))];exact e
end
section
variable {prog:Xd}{w:WP}{A:WK}{E:X9->X8->Prop}{s:X8}
theorem zmU (a:X9){Q₁:X9->X8->Prop}(h:Q₁ (.ref s.heap.objs.size) { s with heap:=s.heap.push (qm #[] 0 (.fresh 0 0 (!w.params.followText "set-order"))) }) :
  TJ (Xh prog w) A (.call (.builtin "set.__new__") ⟨[.type "set",a],[]⟩) (wants Q₁ E) s:=by
 refine codeAny_of_tree ?_;show Xg _ A.in1 (do PM "set.__new__" ⟨[.type "set",a],[]⟩;Rh (.builtin "set.__new__" ⟨[.type "set",a],[]⟩)) _ _ s;refine ZB (OO (PySem.F.newCall_set_1 a) (X6 ⟨Uz OW _,VQ PySem.F.entry_set_new ?_⟩));rw[V5 OW _];unfold Vc.«set.__new__» Builtin.Frozenset.newClass;have hsub:=sub_set_self;obtain⟨hp,g,d,tk,os⟩:=s;dsimp only;wp_walk;refine PC (X6 ?_);dsimp only;simp only[newObj];refine ZB (wpAny_alloc (X6 ?_));exact X6 h
theorem zg9 (led:Bool):Good (.fresh 0 0 led) #[]:=⟨.inl rfl,rfl,rfl,fun i j _ h=>absurd h (by simp[SetTable.fresh]),fun i h=>absurd h (by simp[SetTable.fresh]),by simp[SetTable.fresh],fun i h=>absurd h (by simp[SetTable.fresh])⟩
end
end ST
namespace ST
section
variable {prog:Xd}{w:WP}{A:WK}{E:X9->X8->Prop}{s:X8}
set_option maxHeartbeats 8000000 in
theorem zkL {l:Addr}{its:Array X9}{ps:List (Int×Int)}{T:Addr->Int×Int->Prop}{Q:X9->X8->Prop}(hh:A.handled=none)(hu:A.units+64<U1)(hl:s.heap.IsList l its)(hlen:ps.length=its.size)
  (hT:∀x p,T x p->zw s.heap (.ref x) p) (hP':∀(i:Nat) (v:X9),its[i]?=some v->∃x p,v=WU x/\ps[i]?=some p/\T x p) (hb:∀p∈ps,InB p) (few:∀l:List (Int×Int),l.Nodup->(∀c∈l,c∈ps)->l.length<=63)
  (h:∀(h':Heap) (tk:Nat) (ks:List (Addr×(Int×Int))),(∀b o,s.heap.get? b=some o->h'.get? b=some o)->zdk (hP prog w) (!w.params.followText "set-order") h' s.heap.objs.size ks->(∀c,c∈ks.map (·.2)↔c∈ps)->(∀q∈ks,T q.1 q.2)->Q (.ref s.heap.objs.size) { s with heap:=h',toks:=tk }) :
  Xg (Xh prog w) A (call (.type "set") [.ref l]) Q E s:=by
 obtain⟨c,tl,hmro⟩:=PySem.F.called_set.mro;have hmade:=PySem.F.called_set.made;have hsub:=PySem.F.called_set.sub;refine wpAny_call (codeAny_of_tree ?_);show Xg _ _ (callAny (.type "set") _) _ _ _;refine X6 ⟨Code.quiet_builtin _ (by decide +kernel),VQ PySem.F.entry_type_call ?_⟩;rw[Around.under_plain (weight_type_call_type "set" [.ref l] []) rfl];have h1:=PySem.F.called_set.notType;have h2:=PySem.F.called_set.canCreate;have hct:=PySem.F.typeCall_set_1 (.ref l);repeat (any_goals (first | assumption | wp_step))
 refine SM (zmU (.ref l) (E:=E) (Q₁:=fun obj s₁=>obj=.ref s.heap.objs.size/\s₁={ s with heap:=s.heap.push (qm #[] 0 (.fresh 0 0 (!w.params.followText "set-order"))) }) ⟨rfl,rfl⟩) fun r s₁ hr=>?_;cases r with
 | error e=>exact hr
 | ok fl =>
  cases fl with
  | ret obj =>
   obtain⟨rfl,rfl⟩:=hr;generalize hled:(!w.params.followText "set-order")=led at h ⊢;have hS:(s.heap.push (qm #[] 0 (.fresh 0 0 led))).get? s.heap.objs.size=some (qm #[] 0 (.fresh 0 0 led)):=Xl _ rfl;have hTy:R1 { s with heap:=s.heap.push (qm #[] 0 (.fresh 0 0 led)) } (.ref s.heap.objs.size) "set":=⟨_,hS,rfl⟩;have hli:=PySem.F.called_set.init.lookup;have hbi:=PySem.F.called_set.init.bind (.ref s.heap.objs.size);repeat (any_goals (first | assumption | wp_step))
   refine SM (TL (R:=wants (fun r s₂=>r=.none/\∃h' tk ks,s₂={ s with heap:=h',toks:=tk }/\zdk (hP prog w) led h' s.heap.objs.size ks/\(∀c,c∈ks.map (·.2)↔c∈ps)/\(∀q∈ks,T q.1 q.2) /\
     (∀b o,s.heap.get? b=some o->h'.get? b=some o)) E) PySem.F.called_set.init.plain PySem.F.entry_set_init (check_set_init_1 hTy ?_)) fun r₂ s₂ hr₂=>?_
   ·obtain⟨ol,hol,hcl,nl,hdl⟩:=hl;obtain⟨ocls,odict,odata,oslots⟩:=ol;simp only at hcl hdl;subst hcl;subst hdl;have hol':(s.heap.push (qm #[] 0 (.fresh 0 0 led))).get? l=some { cls:=.type "list",dict:=odict,data:=.seq its nl,slots:=oslots }:=XZ _ hol;have hsls:=PySem.F.sub_list_set;have hslf:=PySem.F.sub_list_frozenset;have hne:(Rz "list" == Rz "dict")=false:=by decide
    have hl1:(s.heap.push (qm #[] 0 (.fresh 0 0 led))).IsList l its:=⟨_,hol',rfl,nl,rfl⟩;unfold Vc.«set.__init__» noKeywords Builtin.Frozenset.updateFrom;unfold qm at hS hTy hol' hl1 ⊢;generalize hPI:NE=PI;wp_walk;subst hPI;refine Sy hl1 ?_;refine ZB (wpAny_runValue ?_);have hlS:l<s.heap.objs.size:=XO hol;have zS:(s.heap.push (qm #[] 0 (.fresh 0 0 led))).objs.size=s.heap.objs.size+1:=Vi ..;have hneI:l≠(s.heap.push (qm #[] 0 (.fresh 0 0 led))).objs.size:=by
     rw[zS];exact Xk (WF hlS)
    have hSf:s.heap.objs.size ∉ [(s.heap.push (qm #[] 0 (.fresh 0 0 led))).objs.size,l]:=by
     rw[zS];simp only[XJ,Vn,or_false,not_or];exact⟨Xk (PL _),UH hlS⟩
    refine zkK (h0:=s.heap) (led:=led) ((Walks.list (by simp[hh]) (s.heap.push (qm #[] 0 (.fresh 0 0 led))).objs.size l hneI its).toS) s.heap.objs.size hSf (UE (XW _)) (fun b hb=>?_) ps hlen (by show A.units+1+1+1<U1;lia) T hT hP' hb few (its.size-0) 0 _ [] rfl (W5 _)
     ⟨⟨_,Xl _ rfl,rfl,rfl⟩,(hl1.push _)⟩ (fun b o z=>XZ _ (XZ _ z)) ⟨⟨#[],0,.fresh 0 0 led,XZ _ hS,rfl,(by rw[Array.map_empty];exact zg9 led),rfl,rfl⟩,TQ,(fun q z=>nomatch z),(fun q z=>nomatch z)⟩ (fun c=>by simp) (fun q z=>nomatch z) ?_
    ·have e:b=(s.heap.push (qm #[] 0 (.fresh 0 0 led))).objs.size:=by simpa using hb
     rw[e,zS];exact UE (VU _)
    ·intro s' ks hm hS' hm' hT';obtain⟨h',g',d',tk',os'⟩:=s';have eg:g'=s.gens:=hm.gens;have ed:d'=s.drawn:=hm.drawn;have eo:os'=s.os:=hm.os;subst eg;subst ed;subst eo;show Xg _ _ _ _ _ _;refine X6 ?_;show Xg _ _ (ret VC) _ _ _;refine X6 ⟨rfl,h',tk',ks,rfl,hS',hm',hT',fun b o e=>?_⟩;have lt:=XO e;refine hm.heap b o (fun z=>?_) (XZ _ (XZ _ e));rcases XJ.mp z with z | z
     ·exact V8 _ (z ▸ lt)
     ·have z':b=(s.heap.push (qm #[] 0 (.fresh 0 0 led))).objs.size:=by simpa using z
      rw[z',zS] at lt;exact absurd lt (Nat.not_lt.mpr (VU _))
   ·cases r₂ with
    | error e=>exact hr₂
    | ok fl₂ =>
     cases fl₂ with
     | ret r =>
      obtain⟨rfl,h',tk,ks,rfl,hS',hm',hT',hk'⟩:=hr₂;repeat (any_goals (first | assumption | wp_step))
      exact h _ _ _ hk' hS' hm' hT'
     | _=>exact hr₂.elim
  | _=>exact hr.elim
end
end ST
namespace ST
theorem zao {α β:Type}(f:α->β){l l':List β}(h:l.Perm l'):∀ks:List α,l'=ks.map f->∃js:List α,js.Perm ks/\l=js.map f:=by
 induction h with
 | nil=>exact fun ks e=>⟨ks,List.Perm.refl _,e⟩
 | cons x h ih =>
  intro ks e;cases ks with
  | nil=>simp at e
  | cons k ks =>
   rw[Xf] at e;injection e with e1 e2
   obtain⟨js,h1,h2⟩:=ih ks e2;exact⟨k::js,h1.cons k,by rw[Xf,e1,h2]⟩
 | swap x y l =>
  intro ks e;match ks,e with
  | [],e=>simp at e
  | [k],e=>simp at e
  | k1::k2::ks,e =>
   rw[Xf,Xf] at e;injection e with e1 e2
   injection e2 with e2 e3
   exact⟨k2::k1::ks,List.Perm.swap k1 k2 ks,by rw[Xf,Xf,e1,e2,e3]⟩
 | trans h1 h2 ih1 ih2 =>
  intro ks e;obtain⟨js,a,b⟩:=ih2 ks e;obtain⟨is,c,d⟩:=ih1 js b;exact⟨is,c.trans a,d⟩
section
variable {X:Cx}
theorem zjh (hu:X.A.units+64<U1)(hh:X.A.handled=none):jT X (.type "set") (fun xs H Q=>∃l us ps,xs=[.ref l]/\SqL X.K H l us/\yd H us ps/\(∀p∈ps,InB p)/\(∀l:List (Int×Int),l.Nodup->(∀c∈l,c∈ps)->l.length<=63) /\
  ∀d ks,H d=none->(∀q∈ks,H q.1=some (.tup [.int q.2.1,.int q.2.2]))->(ks.map (·.2)).Nodup->(∀c,c∈ks.map (·.2)↔c∈ps)->Q (.ref d) (upd H d (zfS X.prog X.w d ks))):=by
 intro pins s σ H xs us' Q I r h;obtain⟨l,us,ps,rfl,hq,ht,hb,few,q⟩:=h;obtain⟨u,rfl,ru⟩:=vals1 r;cases ru;obtain⟨its,rv,pl,hz⟩:=I.list hq;have hp:=yd.pairs I ht rv;have hlp:its.length=ps.length:=Paired.length hp;have tw:∀{us:List V} {ps:List (Int×Int)} {its:List X9},yd H us ps->Vals us its->∀(i:Nat) (v:X9),its[i]?=some v->∃x p,v=WU x/\ps[i]?=some p/\H x=some (.tup [.int p.1,.int p.2]):=by
  intro us ps its h1;induction h1 generalizing its with
  | nil =>
   intro r i v e;cases r;simp at e
  | cons a t ih =>
   intro r i v e;obtain⟨x,rfl,hx⟩:=a;cases r with
   | cons r1 r2 =>
    cases r1;cases i with
    | zero =>
     simp at e;exact⟨x,_,e.symm,rfl,hx⟩
    | succ i =>
     obtain⟨y,p,h1,h2,h3⟩:=ih r2 i v (by simpa using e);exact⟨y,p,h1,by simpa using h2,h3⟩
 refine zkL (T:=fun x p=>H x=some (.tup [.int p.1,.int p.2])) hh hu pl.isList (by simp[hlp]) (fun x p hx=>?_) (fun i v e=>tw ht rv i v (by simpa using e)) hb few fun h' tk ks kk hS hm hT=>?_
 ·obtain⟨items,rv',tp,_⟩:=I.tuple (SqT.of hx);obtain⟨u1,u2,rfl,⟨t1,rfl⟩,⟨t2,rfl⟩⟩:=vals2 rv';obtain⟨ob,e1,c1,n,d1⟩:=tp;exact⟨x,ob,n,t1,t2,rfl,e1,c1,d1⟩
 ·have hD:H s.heap.objs.size=none:=I.hok.fresh (XW _);obtain⟨es,ep,t,ho,rest⟩:=hS.ex;refine⟨.ref s.heap.objs.size,upd H s.heap.objs.size (zfS X.prog X.w s.heap.objs.size ks),I.laid (t':=tk) kk (XW _) ⟨⟨es,ep,t,ho,rest⟩,⟨_,ho⟩,fun h1 h2 ⟨es,ep,t,ho,rest⟩ k=>⟨es,ep,t,k _ ho,rest⟩⟩,rfl,q _ _ hD hT hS.nd hm⟩
end
end ST
namespace GS
section
variable {prog:Xd}{w:WP}{A:WK}{E:X9->X8->Prop}{s:X8}{rk:W4->Int}{κ:TW}{a0:Array W4}
def Rk (rk:W4->Int)(xs:Array W4)(i:Nat):Int:=match xs[i]? with
 | some p=>rk p
 | none=>0
theorem JO {xs ys:Array W4}{i j:Nat}(h:xs[i]?=ys[j]?):Rk rk xs i=Rk rk ys j:=by
 unfold Rk;rw[h]
def Up (rk:W4->Int)(xs:Array W4)(lo hi:Nat):Prop:=∀i j,lo<=i->i<=j->j<hi->Rk rk xs i<=Rk rk xs j
def Tells (prog:Xd)(w:WP)(A:WK)(s:X8)(κ:TW)(rk:W4->Int)(a0:Array W4):Prop :=
 ∀x∈a0.toList,∀y∈a0.toList,∀C:Bool->X8->Prop,C (decide (rk x<rk y)) s->Xg (Xh prog w) A (keyLt' κ x.1 y.1) C (fun _ _=>False) s
structure Ok (κ:TW)(a0:Array W4)(st:WJ):Prop where
 perm:(Xm st).Perm a0
 kind:kindOf st=κ
 good:SO st=none
theorem Ok.size {st:WJ}(h:Ok κ a0 st):(Xm st).size=a0.size:=h.perm.size_eq
theorem Ok.at {st:WJ}(h:Ok κ a0 st){i:Nat}(hi:i<a0.size):∃x,(Xm st)[i]?=some x/\x∈a0.toList/\Rk rk (Xm st) i=rk x:=by
 have hi':i<(Xm st).size:=by rw[h.size];exact hi
 have e:(Xm st)[i]?=some (Xm st)[i]:=getElem?_pos _ i hi';refine⟨(Xm st)[i],e,(UT.mp h.perm).mem_iff.mp (by simp),?_⟩;unfold Rk;rw[e]
theorem zkM {st:WJ}{x y:W4}{Q:Option Bool->WJ->Prop}(T:Tells prog w A s κ rk a0)(hk:kindOf st=κ)(hx:x∈a0.toList)(hy:y∈a0.toList)(h:Q (some (decide (rk x<rk y))) st):wpS (Xh prog w) A E s (lt' x y) Q st:=by
 rw[lt'_eq];refine XH (R4 ?_);rw[hk];refine XH (PV (To (Wn (T x hx y hy (fun b s'=>s'=s/\b=decide (rk x<rk y)) ⟨rfl,rfl⟩) (fun b s' hb=>⟨hb.1,?_⟩) fun _ _ hF=>hF.elim)));rw[hb.2];exact Xp h
theorem qZ {st:WJ}{xs:Array W4}{i:Nat}{x:W4}{Q:W4->WJ->Prop}(e:xs[i]?=some x)(h:Q x st):wpS (Xh prog w) A E s (elem' xs i) Q st:=by
 rw[elem'_eq,e];exact Xp h
theorem zcp {st:WJ}{i j:Nat}{Q:Option Bool->WJ->Prop}(T:Tells prog w A s κ rk a0)(O:Ok κ a0 st)(hi:i<a0.size)(hj:j<a0.size)(h:Q (some (decide (Rk rk (Xm st) i<Rk rk (Xm st) j))) st):wpS (Xh prog w) A E s (ltAt' i j) Q st:=by
 obtain⟨x,e1,m1,r1⟩:=O.at (rk:=rk) hi;obtain⟨y,e2,m2,r2⟩:=O.at (rk:=rk) hj;rw[r1,r2] at h;rw[ltAt'_eq];refine XH (R4 ?_);exact XH (qZ e1 (XH (qZ e2 (zkM T O.kind m1 m2 h))))
structure Step (κ:TW)(a0:Array W4)(lo:Nat)(st st':WJ):Prop where
 ok:Ok κ a0 st'
 pend:WI st'=WI st
 low:∀i:Nat,i<lo->(Xm st')[i]?=(Xm st)[i]?
theorem Step.refl {lo:Nat}{st:WJ}(O:Ok κ a0 st):Step κ a0 lo st st:=⟨O,rfl,fun _ _=>rfl⟩
theorem za2 {xs:Array W4}{i j:Nat}(hj:j<=xs.size)(k:Nat):Rk rk (mirror xs i j ((j-i)/2)) k=if i<=k/\k<j then Rk rk xs (i+j-1-k) else Rk rk xs k:=by
 have e:=On (i:=i) hj k;by_cases h1:i<=k/\k<j
 ·rw[if_pos h1] at e ⊢;exact JO e
 ·rw[if_neg h1] at e ⊢;exact JO e
theorem jZ {xs:Array W4}{i j:Nat}(hj:j<=xs.size)(heq:∀k,i<=k->k<j->Rk rk xs k=Rk rk xs (j-1))(k:Nat):Rk rk (mirror xs i j ((j-i)/2)) k=Rk rk xs k:=by
 rw[za2 hj];split
 ·rw[heq _ (by lia) (by lia),heq k (by lia) (by lia)]
 ·rfl
theorem Step.mirror {lo i j:Nat}{st st':WJ}(x:Step κ a0 lo st st')(hi:lo<=i)(hj:j<=a0.size):Step κ a0 lo st (setArr st' (mirror (Xm st') i j ((j-i)/2))):=by
 refine⟨⟨(mirror_perm _ _ _ _).trans x.ok.perm,x.ok.kind,x.ok.good⟩,x.pend,fun k hk=>?_⟩;show (PyProof.Rows.mirror (Xm st') i j ((j-i)/2))[k]?=_;rw[On (by rw[x.ok.size];exact hj),if_neg (by lia)];exact x.low k hk
theorem zii {st:WJ}{i j:Nat}{Q:Unit->WJ->Prop}(h:Q () (setArr st (mirror (Xm st) i j ((j-i)/2)))):wpS (Xh prog w) A E s (R0 i j) Q st:=by
 rw[reverseSlice'_eq];exact S6 h
def up1 (lo a nrem:Nat):StateT WJ Sem AscSt :=
 forIn [a:nrem] ((none,a):AscSt) fun _ c=>do
  let x <- ltAt' (lo+c.snd) (lo+c.snd-1)
  match x with
  | some b=>if b=true then pure (ForInStep.done (none,c.snd)) else pure (Vr (none,c.snd+1))
  | _=>pure (ForInStep.done (some none,c.snd))
def zkN (lo n nrem:Nat):StateT WJ Sem (Option Nat):=do
 R0 lo (lo+n)
 let c <- up1 lo n nrem
 match c.fst with
 | some r=>pure r
 | none=>pure (some c.snd)
def zij (lo n nrem:Nat):StateT WJ Sem DescSt :=
 forIn [n:nrem] ((none,n,0):DescSt) fun _ c=>do
  let x <- ltAt' (lo+c.snd.fst) (lo+c.snd.fst-1)
  match x with
  | some b =>
   if b=true then
    if c.snd.snd>0 then do
     R0 (lo+c.snd.fst-(c.snd.snd+1)) (lo+c.snd.fst)
     pure (Vr (none,c.snd.fst+1,0))
    else pure (Vr (none,c.snd.fst+1,0))
   else do
    let x <- ltAt' (lo+c.snd.fst-1) (lo+c.snd.fst)
    match x with
    | some b =>
     if b=true then pure (ForInStep.done (none,c.snd.fst,c.snd.snd))
     else pure (Vr (none,c.snd.fst+1,c.snd.snd+1))
    | _=>pure (ForInStep.done (some none,c.snd.fst,c.snd.snd))
  | _=>pure (ForInStep.done (some none,c.snd.fst,c.snd.snd))
def part2 (lo n nrem:Nat):StateT WJ Sem (Option Nat):=do
 liftM (rule "list.sort.descending-run")
 let c <- zij lo (n+1) nrem
 match c.fst with
 | some r=>pure r
 | none =>
  if c.snd.snd>0 then do
   R0 (lo+c.snd.fst-(c.snd.snd+1)) (lo+c.snd.fst)
   zkN lo c.snd.fst nrem
  else zkN lo c.snd.fst nrem
theorem run_eq (lo nrem:Nat):countRun' lo nrem=(do
  let c <- up1 lo 1 nrem
  match c.fst with
  | some r=>pure r
  | none =>
   if (c.snd==nrem)=true then pure (some c.snd)
   else if c.snd>1 then do
    let x <- ltAt' lo (lo+c.snd-1)
    match x with
    | some b=>if b=true then pure (some c.snd) else do
      R0 lo (lo+c.snd)
      part2 lo c.snd nrem
    | _=>pure none
   else part2 lo c.snd nrem):=by
 rw[countRun'_eq];unfold part2 zkN zij up1;refine bind_congr fun c=>?_;obtain⟨r,n⟩:=c;cases r with
 | some r=>rfl
 | none =>
  dsimp only;split
  ·rfl
  ·split
   ·refine bind_congr fun x=>?_;cases x with
    | none=>rfl
    | some b =>
     dsimp only;split
     ·rfl
     ·refine bind_congr fun _=>bind_congr fun _=>bind_congr fun c2=>?_;obtain⟨r2,n2,q2⟩:=c2;cases r2 with
      | some r2=>rfl
      | none =>
       dsimp only;split
       ·refine bind_congr fun _=>bind_congr fun _=>bind_congr fun c3=>?_;obtain⟨r3,n3⟩:=c3;cases r3<;>rfl
       ·refine bind_congr fun _=>bind_congr fun c3=>?_;obtain⟨r3,n3⟩:=c3;cases r3<;>rfl
   ·refine bind_congr fun _=>bind_congr fun c2=>?_;obtain⟨r2,n2,q2⟩:=c2;cases r2 with
    | some r2=>rfl
    | none =>
     dsimp only;split
     ·refine bind_congr fun _=>bind_congr fun _=>bind_congr fun c3=>?_;obtain⟨r3,n3⟩:=c3;cases r3<;>rfl
     ·refine bind_congr fun _=>bind_congr fun c3=>?_;obtain⟨r3,n3⟩:=c3;cases r3<;>rfl
end
end GS
namespace GS
section
variable {prog:Xd}{w:WP}{A:WK}{E:X9->X8->Prop}{s:X8}{rk:W4->Int}{κ:TW}{a0:Array W4}
def Down (rk:W4->Int)(xs:Array W4)(lo n:Nat):Prop:=∀i j,i<=j->j<n->Rk rk xs (lo+j)<=Rk rk xs (lo+i)
theorem znS {st:WJ}{lo a nrem:Nat}{Q:AscSt->WJ->Prop}(T:Tells prog w A s κ rk a0)(O:Ok κ a0 st)(hn:lo+nrem<=a0.size)(ha:1<=a)(han:a<=nrem)(hs:Up rk (Xm st) lo (lo+a))
  (h:∀n,a<=n->n<=nrem->Up rk (Xm st) lo (lo+n)->(n=nrem\/Rk rk (Xm st) (lo+n)<Rk rk (Xm st) (lo+n-1))->Q (none,n) st):wpS (Xh prog w) A E s (up1 lo a nrem) Q st:=by
 unfold up1;refine V1 (I:=fun x c st'=>st'=st/\c=(none,x)/\Up rk (Xm st) lo (lo+x)) ?step ?fin ⟨rfl,rfl,hs⟩
 case fin =>
  rintro c st' ⟨rfl,rfl,hs'⟩
  rw[show max a nrem=nrem by lia] at hs' ⊢
  exact h nrem han (XW _) hs' (.inl rfl)
 case step =>
  rintro x c st' hax hxn ⟨rfl,rfl,hs'⟩
  dsimp only
  refine XH (zcp T O (by lia) (by lia) ?_)
  by_cases hless:Rk rk (Xm st') (lo+x)<Rk rk (Xm st') (lo+x-1)
  ·simp only[hless,decide_true,if_true];exact Xp (h x hax (by lia) hs' (.inr hless))
  ·simp only[hless,decide_false,WG,if_false];refine Xp ⟨rfl,rfl,fun i j hi hij hj=>?_⟩;by_cases hjx:j<lo+x
   ·exact hs' i j hi hij hjx
   ·obtain rfl:j=lo+x:=by lia
    by_cases hi':i=lo+x
    ·subst hi';exact U0 _
    ·exact VB (hs' i (lo+x-1) hi (by lia) (by lia)) (N7.mp hless)
theorem zkO {st0 st:WJ}{lo n nrem:Nat}{Q:Option Nat->WJ->Prop}(T:Tells prog w A s κ rk a0)(S:Step κ a0 lo st0 st)(hn:lo+nrem<=a0.size)(h1:1<=n)(hnn:n<=nrem)(hs:Down rk (Xm st) lo n)
  (h:∀m st',Step κ a0 lo st0 st'->1<=m->m<=nrem->Up rk (Xm st') lo (lo+m)->Q (some m) st'):wpS (Xh prog w) A E s (zkN lo n nrem) Q st:=by
 unfold zkN;refine XH (zii ?_);have S':=S.mirror (i:=lo) (j:=lo+n) (XW _) (by lia);refine XH (znS T S'.ok hn h1 hnn ?_ fun m hm1 hm2 hsm _=>Xp (h m _ S' (by lia) hm2 hsm));intro i j hi hij hj;have hsz:lo+n<=(Xm st).size:=by
  rw[S.ok.size];lia
 show Rk rk (mirror (Xm st) lo (lo+n) ((lo+n-lo)/2)) i<=Rk rk (mirror (Xm st) lo (lo+n) ((lo+n-lo)/2)) j;rw[za2 hsz,za2 hsz,if_pos (by lia),if_pos (by lia)];have:=hs (lo+n-1-j) (lo+n-1-i) (by lia) (by lia);rw[show lo+(lo+n-1-j)=lo+(lo+n)-1-j by lia,show lo+(lo+n-1-i)=lo+(lo+n)-1-i by lia] at this;exact this
theorem zmV {st0 st:WJ}{lo n nrem:Nat}{Q:DescSt->WJ->Prop}(T:Tells prog w A s κ rk a0)(S:Step κ a0 lo st0 st)(hn:lo+nrem<=a0.size)(h1:1<=n)(hnn:n<=nrem)(hs:Down rk (Xm st) lo n)
  (h:∀m q st',Step κ a0 lo st0 st'->n<=m->m<=nrem->Down rk (Xm st') lo m->q+1<=m->(∀i,m-(q+1)<=i->i<m->Rk rk (Xm st') (lo+i)=Rk rk (Xm st') (lo+(m-1)))->Q (none,m,q) st'):wpS (Xh prog w) A E s (zij lo n nrem) Q st:=by
 unfold zij;refine V1 (I:=fun x c st'=>∃q,c=(none,x,q)/\Step κ a0 lo st0 st'/\Down rk (Xm st') lo x/\q+1<=x /\
   (∀i,x-(q+1)<=i->i<x->Rk rk (Xm st') (lo+i)=Rk rk (Xm st') (lo+(x-1)))) ?step ?fin ⟨0,rfl,S,hs,by lia,fun i h1 h2=>by congr 1;lia⟩
 case fin =>
  rintro c st' ⟨q,rfl,S',hs',hq,he⟩
  rw[show max n nrem=nrem by lia] at hs' hq he ⊢
  exact h nrem q st' S' hnn (XW _) hs' hq he
 case step =>
  rintro x c st' hax hxn ⟨q,rfl,S',hs',hq,he⟩
  dsimp only
  have hsz:lo+x<=(Xm st').size:=by
   rw[S'.ok.size];lia
  refine XH (zcp T S'.ok (by lia) (by lia) ?_)
  by_cases hless:Rk rk (Xm st') (lo+x)<Rk rk (Xm st') (lo+x-1)
  ·simp only[hless,decide_true,if_true];have step1:∀xs:Array W4,(∀k,Rk rk xs k=Rk rk (Xm st') k)->Down rk xs lo (x+1):=by
    intro xs hk i j hij hj;rw[hk,hk];by_cases hjx:j<x
    ·exact hs' i j hij hjx
    ·obtain rfl:j=x:=by lia
     by_cases hi':i=j
     ·subst hi';exact U0 _
     ·have a1:=hs' i (j-1) (by lia) (by lia);rw[show lo+(j-1)=lo+j-1 by lia] at a1;exact VB (V0 hless) a1
   by_cases hq0:q>0
   ·rw[if_pos hq0];refine XH (zii (Xp ⟨0,rfl,S'.mirror (by lia) (by lia),step1 _ (jZ hsz fun k k1 k2=>?_),by lia,fun i h1 h2=>by congr 1;lia⟩));have a1:=he (k-lo) (by lia) (by lia);rw[show lo+(k-lo)=k by lia,show lo+(x-1)=lo+x-1 by lia] at a1;exact a1
   ·rw[if_neg hq0];exact Xp ⟨0,rfl,S',step1 _ (fun _=>rfl),by lia,fun i h1 h2=>by congr 1;lia⟩
  ·simp only[hless,decide_false,WG,if_false];refine XH (zcp T S'.ok (by lia) (by lia) ?_);by_cases hmore:Rk rk (Xm st') (lo+x-1)<Rk rk (Xm st') (lo+x)
   ·simp only[hmore,decide_true,if_true];exact Xp (h x q st' S' hax (by lia) hs' hq he)
   ·simp only[hmore,decide_false,WG,if_false];have heqx:Rk rk (Xm st') (lo+x)=Rk rk (Xm st') (lo+(x-1)):=by
     rw[show lo+(x-1)=lo+x-1 by lia];lia
    refine Xp ⟨q+1,rfl,S',fun i j hij hj=>?_,by lia,fun i h1 h2=>?_⟩
    ·by_cases hjx:j<x
     ·exact hs' i j hij hjx
     ·obtain rfl:j=x:=by lia
      by_cases hi':i=j
      ·subst hi';exact U0 _
      ·rw[heqx];exact hs' i (j-1) (by lia) (by lia)
    ·rw[show x+1-1=x by lia];by_cases hix:i=x
     ·subst hix;rfl
     ·rw[heqx];exact he i (by lia) (by lia)
theorem zik {st0 st:WJ}{lo n nrem:Nat}{Q:Option Nat->WJ->Prop}(T:Tells prog w A s κ rk a0)(S:Step κ a0 lo st0 st)(hn:lo+nrem<=a0.size)(hnn:n+1<=nrem)(hs:Down rk (Xm st) lo (n+1))
  (h:∀m st',Step κ a0 lo st0 st'->1<=m->m<=nrem->Up rk (Xm st') lo (lo+m)->Q (some m) st'):wpS (Xh prog w) A E s (part2 lo n nrem) Q st:=by
 unfold part2;refine XH (PV (UB ⟨rfl,?_⟩));refine XH (zmV T S hn (by lia) hnn hs fun m q st' S' hm1 hm2 hs' hq he=>?_);dsimp only;have hsz:lo+m<=(Xm st').size:=by
  rw[S'.ok.size];lia
 by_cases hq0:q>0
 ·rw[if_pos hq0];refine XH (zii (zkO T (S'.mirror (by lia) (by lia)) hn (by lia) hm2 ?_ h));intro i j hij hj;show Rk rk (mirror (Xm st') _ _ _) (lo+j)<=Rk rk (mirror (Xm st') _ _ _) (lo+i);have same:∀k,lo+m-(q+1)<=k->k<lo+m->Rk rk (Xm st') k=Rk rk (Xm st') (lo+m-1):=fun k k1 k2=>by
   have a1:=he (k-lo) (by lia) (by lia);rw[show lo+(k-lo)=k by lia,show lo+(m-1)=lo+m-1 by lia] at a1;exact a1
  rw[jZ hsz same,jZ hsz same];exact hs' i j hij hj
 ·rw[if_neg hq0];exact zkO T S' hn (by lia) hm2 hs' h
theorem zqh {st:WJ}{lo nrem:Nat}{Q:Option Nat->WJ->Prop}(T:Tells prog w A s κ rk a0)(O:Ok κ a0 st)(hn:lo+nrem<=a0.size)(h1:1<=nrem)
  (h:∀m st',Step κ a0 lo st st'->1<=m->m<=nrem->Up rk (Xm st') lo (lo+m)->Q (some m) st'):wpS (Xh prog w) A E s (countRun' lo nrem) Q st:=by
 have S:=Step.refl (lo:=lo) O;rw[run_eq];refine XH (znS T O hn (XW 1) h1 (fun i j hi hij hj=>by
  obtain rfl:i=j:=by lia
  exact U0 _) fun n hn1 hn2 hsn hor=>?_)
 dsimp only;by_cases hnn:n=nrem
 ·rw[if_pos (by simpa using hnn)];exact Xp (h n st S hn1 hn2 hsn)
 ·rw[if_neg (by simpa using hnn)];have hlt:Rk rk (Xm st) (lo+n)<Rk rk (Xm st) (lo+n-1):=hor.resolve_left hnn;have hsz:lo+n<=(Xm st).size:=by
   rw[O.size];lia
  by_cases hgt:n>1
  ·rw[if_pos hgt];refine XH (zcp T O (by lia) (by lia) ?_);by_cases hrose:Rk rk (Xm st) lo<Rk rk (Xm st) (lo+n-1)
   ·simp only[hrose,decide_true,if_true];exact Xp (h n st S hn1 hn2 hsn)
   ·simp only[hrose,decide_false,WG,if_false];have hall:∀k,lo<=k->k<lo+n->Rk rk (Xm st) k=Rk rk (Xm st) (lo+n-1):=by
     intro k k1 k2;have a1:=hsn lo k (XW _) k1 k2;have a2:=hsn k (lo+n-1) k1 (by lia) (by lia);lia
    refine XH (zii (zik T (S.mirror (XW _) (by lia)) hn (by lia) ?_ h));intro i j hij hj;show Rk rk (mirror (Xm st) _ _ _) (lo+j)<=Rk rk (mirror (Xm st) _ _ _) (lo+i);rw[jZ hsz hall,jZ hsz hall];by_cases hjn:j<n
    ·rw[hall (lo+i) (by lia) (by lia),hall (lo+j) (by lia) (by lia)];exact U0 _
    ·obtain rfl:j=n:=by lia
     by_cases hi':i=j
     ·subst hi';exact U0 _
     ·rw[hall (lo+i) (by lia) (by lia)];exact V0 hlt
  ·rw[if_neg hgt];obtain rfl:n=1:=by lia
   refine zik T S hn (by lia) ?_ h;intro i j hij hj;by_cases hi':i=j
   ·subst hi';exact U0 _
   ·obtain rfl:i=0:=by lia
    obtain rfl:j=1:=by lia
    rw[Rv] at hlt;exact V0 hlt
theorem zdR {xs:Array W4}{src d:Nat}(hs:src<xs.size)(hd:d<=src)(k:Nat):Rk rk (bubble xs src d) k=if k=src-d then Rk rk xs src else if src-d<k/\k<=src then Rk rk xs (k-1) else Rk rk xs k:=by
 have e:=getElem?_bubble hs d hd k;by_cases h1:k=src-d
 ·rw[if_pos h1] at e ⊢;exact JO e
 ·rw[if_neg h1] at e ⊢;by_cases h2:src-d<k/\k<=src
  ·rw[if_pos h2] at e ⊢;exact JO e
  ·rw[if_neg h2] at e ⊢;exact JO e
theorem zqi {st:WJ}{lo n ok:Nat}{Q:Bool->WJ->Prop}(T:Tells prog w A s κ rk a0)(O:Ok κ a0 st)(hn:lo+n<=a0.size)(hok:ok<=n)(hs:Up rk (Xm st) lo (lo+ok))
  (h:∀st',Step κ a0 lo st st'->Up rk (Xm st') lo (lo+n)->Q true st'):wpS (Xh prog w) A E s (binarySort' lo n ok) Q st:=by
 rw[binarySort'_eq];refine XH (Us (V1 (I:=fun k c st'=>c=(none,())/\Step κ a0 lo st st'/\Up rk (Xm st') lo (lo+min k n))
  (Q:=fun c st'=>c=(none,())/\Step κ a0 lo st st'/\Up rk (Xm st') lo (lo+n)) ?step ?fin ?init) ?post)
 case post =>
  rintro c st' ⟨rfl,S',hs'⟩
  exact Xp (h st' S' hs')
 case init =>
  refine⟨rfl,Step.refl O,fun i j hi hij hj=>?_⟩
  by_cases h1:ok=0
  ·obtain rfl:i=j:=by lia
   exact U0 _
  ·exact hs i j hi hij (by lia)
 case fin =>
  rintro c st' ⟨hc,S',hs'⟩
  refine⟨hc,S',?_⟩
  rwa [show min (max (max ok 1) n) n=n by lia] at hs'
 case step =>
  rintro k c st' hak hkn ⟨rfl,S',hs'⟩
  rw[show min k n=k by lia] at hs'
  have O':=S'.ok
  have hk:lo+k<a0.size:=by lia
  refine XH (Us (V1 (I:=fun x c st''=>st''=st'/\∃l r,c=(none,l,r)/\l<=r/\r<=k/\r-l<=k-x /\
    (∀i,i<l->Rk rk (Xm st') (lo+i)<=Rk rk (Xm st') (lo+k))/\(∀i,r<=i->i<k->Rk rk (Xm st') (lo+k)<Rk rk (Xm st') (lo+i)))
   (Q:=fun c st''=>st''=st'/\∃l r,c=(none,l,r)/\l<=k /\
    (∀i,i<l->Rk rk (Xm st') (lo+i)<=Rk rk (Xm st') (lo+k))/\(∀i,l<=i->i<k->Rk rk (Xm st') (lo+k)<Rk rk (Xm st') (lo+i))) ?istep ?ifin ?iinit) ?ipost)
  case iinit=>exact⟨rfl,0,k,rfl,by lia,by lia,by lia,fun i hi=>by lia,fun i h1 h2=>by lia⟩
  case ifin =>
   rintro c st'' ⟨rfl,l,r,rfl,hlr,hrk,hm,hlo,hhi⟩
   obtain rfl:l=r:=by lia
   exact⟨rfl,l,l,rfl,hrk,hlo,hhi⟩
  case istep =>
   rintro x c st'' _ hxk ⟨rfl,l,r,rfl,hlr,hrk,hm,hlo,hhi⟩
   dsimp only
   by_cases hge:l >= r
   ·rw[if_pos hge];obtain rfl:l=r:=by lia
    exact Xp ⟨rfl,l,l,rfl,hrk,hlo,hhi⟩
   ·rw[if_neg hge];refine XH (zcp T O' hk (by lia) ?_);by_cases hless:Rk rk (Xm st'') (lo+k)<Rk rk (Xm st'') (lo+(l+r)/2)
    ·simp only[hless,decide_true,if_true];refine Xp ⟨rfl,l,(l+r)/2,rfl,by lia,by lia,by lia,hlo,fun i h1 h2=>?_⟩;exact Int.lt_of_lt_of_le hless (hs' _ _ (by lia) (by lia) (by lia))
    ·simp only[hless,decide_false,WG,if_false];refine Xp ⟨rfl,(l+r)/2+1,r,rfl,by lia,by lia,by lia,fun i h1=>?_,hhi⟩;exact VB (hs' (lo+i) (lo+(l+r)/2) (by lia) (by lia) (by lia)) (N7.mp hless)
  case ipost =>
   rintro c st'' ⟨rfl,l,r,rfl,hlk,hlo,hhi⟩
   show wpS _ _ _ _ (do moveDown' (lo+k) (lo+l);pure (Vr (none,()))) _ _
   rw[moveDown'_eq]
   have hks:lo+k<(Xm st'').size:=by
    rw[O'.size];exact hk
   refine XH (S6 (Xp ⟨rfl,⟨⟨(bubble_perm _ _ _).trans O'.perm,O'.kind,O'.good⟩,S'.pend,fun i hi=>?_⟩,?_⟩))
   ·show (bubble (Xm st'') (lo+k) (lo+k-(lo+l)))[i]?=_;rw[getElem?_bubble hks _ (by lia),if_neg (by lia),if_neg (by lia)];exact S'.low i hi
   ·rw[show min (k+1) n=k+1 by lia];intro i j hi hij hj;show Rk rk (bubble (Xm st'') (lo+k) (lo+k-(lo+l))) i<=Rk rk (bubble (Xm st'') (lo+k) (lo+k-(lo+l))) j;rw[zdR hks (by lia),zdR hks (by lia),show lo+k-(lo+k-(lo+l))=lo+l by lia];have up:∀a b,lo<=a->a<=b->b<lo+k->Rk rk (Xm st'') a<=Rk rk (Xm st'') b:=hs';have low:∀a,lo<=a->a<lo+l->Rk rk (Xm st'') a<=Rk rk (Xm st'') (lo+k):=fun a a1 a2=>by
     have:=hlo (a-lo) (by lia);rwa [show lo+(a-lo)=a by lia] at this
    have high:∀a,lo+l<=a->a<lo+k->Rk rk (Xm st'') (lo+k)<Rk rk (Xm st'') a:=fun a a1 a2=>by
     have:=hhi (a-lo) (by lia) (by lia);rwa [show lo+(a-lo)=a by lia] at this
    repeat' split
    all_goals first
     | (exfalso;lia)
     | exact U0 _
     | exact low _ (by lia) (by lia)
     | exact V0 (high _ (by lia) (by lia))
     | exact up _ _ (by lia) (by lia) (by lia)
end
end GS
namespace GS
def gallop':Bool->W4->Array W4->Nat->Nat->Nat->StateT WJ Sem (Option Nat):=sortPriv% PySem.Builtin.gallop
def mergeLo':Array W4->Array W4->StateT WJ Sem (Array W4):=sortPriv% PySem.Builtin.mergeLo
def mergeHi':Array W4->Array W4->StateT WJ Sem (Array W4):=sortPriv% PySem.Builtin.mergeHi
section
variable {prog:Xd}{w:WP}{A:WK}{E:X9->X8->Prop}{s:X8}{rk:W4->Int}{κ:TW}{a0:Array W4}
def bey (rk:W4->Int)(left:Bool)(key x:W4):Bool:=if left then decide (rk x<rk key) else !decide (rk key<rk x)
theorem zfT {st:WJ}{left:Bool}{key:W4}{arr:Array W4}{base n hint:Nat}{Q:Option Nat->WJ->Prop}(T:Tells prog w A s κ rk a0)(hk:kindOf st=κ)(hkey:key∈a0.toList)(b:Nat->Bool)
  (he:∀i,i<n->∃x,arr[base+i]?=some x/\x∈a0.toList/\b i=bey rk left key x) (mono:∀i j,i<=j->j<n->b j=true->b i=true) (hh:hint<n)
  (h:∀k,k<=n->(∀i,i<k->b i=true)->(∀i,k<=i->i<n->b i=false)->Q (some k) st):wpS (Xh prog w) A E s (gallop' left key arr base n hint) Q st:=by
 have one:∀{i:Nat} {Q':Option Bool->WJ->Prop},i<n->Q' (some (b i)) st->wpS (Xh prog w) A E s (do
   let x <- elem' arr (base+i)
   if left=true then lt' x key
    else do
     let r <- lt' key x
     pure (Option.map (fun x=>!x) r)) Q' st:=by
  intro i Q' hi hq;obtain⟨x,e1,e2,e3⟩:=he i hi;refine XH (qZ e1 ?_);unfold bey at e3;cases left with
  | true =>
   rw[if_pos rfl] at e3 ⊢;rw[e3] at hq;exact zkM T hk e2 hkey hq
  | false =>
   rw[if_neg XX] at e3 ⊢;rw[e3] at hq;exact XH (zkM T hk hkey e2 (Xp hq))
 have last:∀{f:Nat->Option (Option Nat)×Nat×Nat->StateT WJ Sem (ForInStep (Option (Option Nat)×Nat×Nat))} {g:Option (Option Nat)×Nat×Nat->StateT WJ Sem (Option Nat)},
   (∀x l r (R:ForInStep (Option (Option Nat)×Nat×Nat)->WJ->Prop),l >= r->R (.done (none,l,r)) st->wpS (Xh prog w) A E s (f x (none,l,r)) R st) ->
   (∀x l r (R:ForInStep (Option (Option Nat)×Nat×Nat)->WJ->Prop),l<r->r<=n->R (.yield (if b (l+(r-l)/2)=true then (none,l+(r-l)/2+1,r) else (none,l,l+(r-l)/2))) st->wpS (Xh prog w) A E s (f x (none,l,r)) R st) ->
   (∀l r,Q (some r) st->wpS (Xh prog w) A E s (g (none,l,r)) Q st) ->
   ∀(lo hi:Nat),lo<=hi->hi<=n->(∀i,i<lo->b i=true)->(∀i,hi<=i->i<n->b i=false)->wpS (Xh prog w) A E s (forIn [:n] ((none,lo,hi):Option (Option Nat)×Nat×Nat) f >>= g) Q st:=by
  intro f g f1 f2 g1 lo hi h1 h2 h3 h4;refine XH (Us (V1 (I:=fun x c st'=>st'=st/\∃l r,c=(none,l,r)/\l<=r/\r<=n/\r-l<=n-x/\(∀i,i<l->b i=true)/\(∀i,r<=i->i<n->b i=false))
   (Q:=fun c st'=>st'=st/\∃l,c=(none,l,l)/\l<=n/\(∀i,i<l->b i=true)/\(∀i,l<=i->i<n->b i=false)) ?step ?fin ⟨rfl,lo,hi,rfl,h1,h2,by lia,h3,h4⟩) ?post)
  case fin =>
   rintro c st' ⟨rfl,l,r,rfl,a1,a2,a3,a4,a5⟩
   obtain rfl:l=r:=by lia
   exact⟨rfl,l,rfl,a2,a4,a5⟩
  case post =>
   rintro c st' ⟨rfl,l,rfl,a2,a4,a5⟩
   exact g1 l l (h l a2 a4 a5)
  case step =>
   rintro x c st' _ hx ⟨rfl,l,r,rfl,a1,a2,a3,a4,a5⟩
   by_cases hge:l >= r
   ·obtain rfl:l=r:=by lia
    exact f1 x l l _ hge ⟨rfl,l,rfl,a2,a4,a5⟩
   ·refine f2 x l r _ (by lia) a2 ?_;cases hb:b (l+(r-l)/2) with
    | true =>
     rw[if_pos rfl];exact⟨rfl,l+(r-l)/2+1,r,rfl,by lia,a2,by lia,fun i hi=>mono i _ (by lia) (by lia) hb,a5⟩
    | false =>
     rw[if_neg XX];refine⟨rfl,l,l+(r-l)/2,rfl,by lia,by lia,by lia,a4,fun i i1 i2=>?_⟩;cases hbi:b i with
     | false=>rfl
     | true =>
      have:=mono _ i i1 i2 hbi;rw[hb] at this;cases this
 refine XH (one hh ?_);dsimp only;cases hb:b hint with
 | true =>
  rw[if_pos rfl];refine XH (Us (V1 (I:=fun x c st'=>st'=st/\∃l o,c=(none,l,o)/\l<o/\hint+l<n/\b (hint+l)=true/\x+1<=o)
   (Q:=fun c st'=>st'=st/\∃l o,c=(none,l,o)/\l<o/\hint+l<n/\b (hint+l)=true/\(o >= n-hint\/(hint+o<n/\b (hint+o)=false))) ?step ?fin ⟨rfl,0,1,rfl,by lia,hh,hb,by lia⟩) ?post)
  case fin =>
   rintro c st' ⟨rfl,l,o,rfl,a1,a2,a3,a4⟩
   exact⟨rfl,l,o,rfl,a1,a2,a3,.inl (by lia)⟩
  case step =>
   rintro x c st' _ hx ⟨rfl,l,o,rfl,a1,a2,a3,a4⟩
   dsimp only
   by_cases hge:o >= n-hint
   ·rw[if_pos hge];exact Xp ⟨rfl,l,o,rfl,a1,a2,a3,.inl hge⟩
   ·rw[if_neg hge];refine XH (one (by lia) ?_);dsimp only;cases hbo:b (hint+o) with
    | false =>
     rw[if_pos (by decide)];exact Xp ⟨rfl,l,o,rfl,a1,a2,a3,.inr ⟨by lia,hbo⟩⟩
    | true =>
     rw[if_neg (by decide)];exact Xp ⟨rfl,o,2*o+1,rfl,by lia,by lia,hbo,by lia⟩
  case post =>
   rintro c st' ⟨rfl,l,o,rfl,a1,a2,a3,a4⟩
   refine last (fun x l r R hge hR=>?_) (fun x l r R hlt hr hR=>?_) (fun l r hq=>Xp hq) (hint+l+1) (hint+min o (n-hint)) (by lia) (by lia) (fun i hi=>mono i (hint+l) (by lia) a2 a3) fun i i1 i2=>?_
   ·dsimp only;rw[if_pos hge];exact Xp hR
   ·dsimp only;rw[if_neg (by lia)];refine XH (one (by lia) ?_);dsimp only;cases hbm:b (l+(r-l)/2) with
    | true =>
     rw[hbm,if_pos rfl] at hR;rw[if_pos rfl];exact Xp hR
    | false =>
     rw[hbm,if_neg XX] at hR;rw[if_neg XX];exact Xp hR
   ·rcases a4 with a4 | ⟨a4,a5⟩
    ·lia
    ·cases hbi:b i with
     | false=>rfl
     | true =>
      have:=mono _ i (show hint+o<=i by lia) i2 hbi;rw[a5] at this;cases this
 | false =>
  rw[if_neg XX];refine XH (Us (V1 (I:=fun x c st'=>st'=st/\∃l o,c=(none,l,o)/\l<o/\l<=hint/\b (hint-l)=false/\x+1<=o)
   (Q:=fun c st'=>st'=st/\∃l o,c=(none,l,o)/\l<o/\l<=hint/\b (hint-l)=false/\(o >= hint+1\/(o<=hint/\b (hint-o)=true))) ?step ?fin ⟨rfl,0,1,rfl,by lia,by lia,hb,by lia⟩) ?post)
  case fin =>
   rintro c st' ⟨rfl,l,o,rfl,a1,a2,a3,a4⟩
   exact⟨rfl,l,o,rfl,a1,a2,a3,.inl (by lia)⟩
  case step =>
   rintro x c st' _ hx ⟨rfl,l,o,rfl,a1,a2,a3,a4⟩
   dsimp only
   by_cases hge:o >= hint+1
   ·rw[if_pos hge];exact Xp ⟨rfl,l,o,rfl,a1,a2,a3,.inl hge⟩
   ·rw[if_neg hge];refine XH (one (by lia) ?_);dsimp only;cases hbo:b (hint-o) with
    | true =>
     rw[if_pos rfl];exact Xp ⟨rfl,l,o,rfl,a1,a2,a3,.inr ⟨by lia,hbo⟩⟩
    | false =>
     rw[if_neg (by decide)];exact Xp ⟨rfl,o,2*o+1,rfl,by lia,by lia,hbo,by lia⟩
  case post =>
   rintro c st' ⟨rfl,l,o,rfl,a1,a2,a3,a4⟩
   refine last (fun x l r R hge hR=>?_) (fun x l r R hlt hr hR=>?_) (fun l r hq=>Xp hq) (hint+1-min o (hint+1)) (hint-l) (by lia) (by lia) (fun i hi=>?_) fun i i1 i2=>?_
   ·dsimp only;rw[if_pos hge];exact Xp hR
   ·dsimp only;rw[if_neg (by lia)];refine XH (one (by lia) ?_);dsimp only;cases hbm:b (l+(r-l)/2) with
    | true =>
     rw[hbm,if_pos rfl] at hR;rw[if_pos rfl];exact Xp hR
    | false =>
     rw[hbm,if_neg XX] at hR;rw[if_neg XX];exact Xp hR
   ·rcases a4 with a4 | ⟨a4,a5⟩
    ·lia
    ·exact mono i (hint-o) (by lia) (by lia) a5
   ·cases hbi:b i with
    | false=>rfl
    | true =>
     have:=mono _ i i1 i2 hbi;rw[a3] at this;cases this
end
end GS
namespace GS
structure MI (rk:W4->Int)(aL bL:List W4)(ia ib:Nat)(oL:List W4):Prop where
 perm:oL.Perm (aL.take ia++bL.take ib)
 srt:oL.Pairwise fun x y=>rk x<=rk y
 la:∀x∈oL,∀y∈aL.drop ia,rk x<=rk y
 lb:∀x∈oL,∀y∈bL.drop ib,rk x<=rk y
section
variable {rk:W4->Int}{aL bL oL:List W4}{ia ib:Nat}
theorem MI.swap (M:MI rk aL bL ia ib oL):MI rk bL aL ib ia oL:=⟨M.perm.trans T0,M.srt,M.lb,M.la⟩
theorem zji (l:List W4)(i k:Nat):l.take (i+k)=l.take i++(l.drop i).take k:=by
 rw[List.take_add]
theorem MI.takeA (M:MI rk aL bL ia ib oL)(sa:aL.Pairwise fun x y=>rk x<=rk y)(k:Nat)(h:∀x∈(aL.drop ia).take k,∀y∈bL.drop ib,rk x<=rk y):MI rk aL bL (ia+k) ib (oL++(aL.drop ia).take k):=by
 have sd:(aL.drop ia).Pairwise fun x y=>rk x<=rk y:=sa.sublist (Ra _ _);have e2:(aL.drop ia).drop k=aL.drop (ia+k):=OI;refine⟨?_,?_,fun x hx y hy=>?_,fun x hx y hy=>?_⟩
 ·rw[zji,W2];refine(M.perm.append_right _).trans ?_;rw[W2];exact Sd _ T0
 ·rw[TK];exact⟨M.srt,sd.sublist (UG _ _),fun x hx y hy=>M.la x hx y (V6 hy)⟩
 ·rw[<- e2] at hy;rcases XG.mp hx with hx | hx
  ·exact M.la x hx y (RS hy)
  ·have:=sd;rw[<- Wx k (aL.drop ia),TK] at this;exact this.2.2 x hx y hy
 ·rcases XG.mp hx with hx | hx
  ·exact M.lb x hx y hy
  ·exact h x hx y hy
theorem MI.takeB (M:MI rk aL bL ia ib oL)(sb:bL.Pairwise fun x y=>rk x<=rk y)(k:Nat)(h:∀x∈(bL.drop ib).take k,∀y∈aL.drop ia,rk x<=rk y):MI rk aL bL ia (ib+k) (oL++(bL.drop ib).take k):=(M.swap.takeA sb k h).swap
def Mg (rk:W4->Int)(aL bL oL:List W4):Prop:=oL.Perm (aL++bL)/\oL.Pairwise fun x y=>rk x<=rk y
theorem MI.all (M:MI rk aL bL ia ib oL)(ha:aL.length<=ia)(hb:bL.length<=ib):Mg rk aL bL oL:=by
 have:=M.perm;rw[Ww ha,Ww hb] at this;exact⟨this,M.srt⟩
theorem MI.doneB (M:MI rk aL bL ia ib oL)(sa:aL.Pairwise fun x y=>rk x<=rk y)(hb:bL.length<=ib):Mg rk aL bL (oL++aL.drop ia):=by
 have:=M.takeA sa (aL.drop ia).length (fun x _ y hy=>by
  rw[Sh hb] at hy;cases hy)
 rw[Xw] at this;exact this.all (by rw[VG];lia) hb
theorem MI.lastA (M:MI rk aL bL ia ib oL)(sa:aL.Pairwise fun x y=>rk x<=rk y)(sb:bL.Pairwise fun x y=>rk x<=rk y)(h:∀x∈bL,∀y∈aL.drop ia,rk x<=rk y):Mg rk aL bL (oL++bL.drop ib++aL.drop ia):=by
 have M2:=M.takeB sb (bL.drop ib).length (fun x hx y hy=>h x (RS (V6 hx)) y hy);rw[Xw] at M2;exact M2.doneB sa (by rw[VG];lia)
theorem ext_toList (a:Array W4)(i j:Nat)(hj:i<=j):(a.extract i j).toList=(a.toList.drop i).take (j-i):=by
 rw[OB,Rl]
theorem zap (a:Array W4)(i:Nat):(a.extract i a.size).toList=a.toList.drop i:=by
 rw[OB,Rl,Ww];rw[VG,X4];exact XW _
theorem zkP {a:Array W4}{i:Nat}{x:W4}(h:a[i]?=some x):(a.toList.drop i).take 1=[x]:=by
 have hi:i<a.toList.length:=by
  rw[X4];exact(Vw.mp h).1
 rw[WB hi,Uu,List.take_zero];have:a.toList[i]?=some x:=by rw[Xx];exact h
 rw[X7 hi] at this;rw[Option.some.inj this]
end
section
variable {prog:Xd}{w:WP}{A:WK}{E:X9->X8->Prop}{s:X8}{rk:W4->Int}{κ:TW}{a0:Array W4}
structure Kept (st st':WJ):Prop where
 arr:Xm st'=Xm st
 kind:kindOf st'=kindOf st
 pend:WI st'=WI st
 bad:SO st'=SO st
def setG':Nat->StateT WJ Sem Unit:=sortPriv% PySem.Builtin.setMinGallop
theorem Kept.refl (st:WJ):Kept st st:=⟨rfl,rfl,rfl,rfl⟩
theorem zeW {st0 st:WJ}{g:Nat}{Q:Unit->WJ->Prop}(k:Kept st0 st)(h:∀st',Kept st0 st'->Q () st'):wpS (Xh prog w) A E s (setG' g) Q st:=by
 have e:setG' g=modify fun c=>SortSt.mk' (kindOf c) (Xm c) (WI c) g (SO c):=rfl;rw[e];exact S6 (h _ ⟨k.arr,k.kind,k.pend,k.bad⟩)
theorem qq {α:Type}{c:Prop} [Decidable c]{x y:StateT WJ Sem α}{Q:α->WJ->Prop}{st:WJ}(h1:c->wpS (Xh prog w) A E s x Q st)(h2:¬ c->wpS (Xh prog w) A E s y Q st):wpS (Xh prog w) A E s (if c then x else y) Q st:=by
 by_cases hc:c
 ·rw[if_pos hc];exact h1 hc
 ·rw[if_neg hc];exact h2 hc
theorem jo {a:Array W4}{i:Nat}(h:i<a.size):∃x,a[i]?=some x/\x∈a.toList:=⟨a[i],getElem?_pos a i h,by simp⟩
theorem J2 {a:Array W4}(sa:a.toList.Pairwise fun x y=>rk x<=rk y){i:Nat}{x:W4}(e:a[i]?=some x):∀y∈a.toList.drop i,rk x<=rk y:=by
 have hi:i<a.toList.length:=by
  rw[X4];exact(Vw.mp e).1
 have e':a.toList[i]?=some x:=by rw[Xx];exact e
 rw[X7 hi] at e';have ex:=Option.some.inj e';have sd:=sa.sublist (Ra i a.toList);rw[WB hi,ex,Ru] at sd;rw[WB hi,ex];intro y hy;rcases XJ.mp hy with rfl | hy
 ·exact U0 _
 ·exact sd.1 y hy
theorem YA {a b out:Array W4}{ia ib:Nat}(M:MI rk a.toList b.toList ia ib out.toList)(sa:a.toList.Pairwise fun x y=>rk x<=rk y)(hb:b.size<=ib):Mg rk a.toList b.toList (out++a.extract ia a.size++b.extract ib b.size).toList:=by
 rw[WD,WD,zap,zap,Sh (as:=b.toList) (by rw[X4];exact hb),Xa];exact M.doneB sa (by rw[X4];exact hb)
theorem YB {a b out:Array W4}{ia ib:Nat}(M:MI rk a.toList b.toList ia ib out.toList)(sa:a.toList.Pairwise fun x y=>rk x<=rk y)(sb:b.toList.Pairwise fun x y=>rk x<=rk y)(hl:∀x∈b.toList,∀y,a[a.size-1]?=some y->rk x<=rk y)(ha:ia+1=a.size):Mg rk a.toList b.toList (out++b.extract ib b.size++a.extract ia a.size).toList:=by
 rw[WD,WD,zap,zap];refine M.lastA sa sb fun x hx y hy=>?_;have hi:ia<a.toList.length:=by rw[X4];lia
 rw[WB hi,Sh (by rw[X4];lia)] at hy;have ey:y=a.toList[ia]:=by simpa using hy
 refine hl x hx y ?_;rw[show a.size-1=ia by lia,<- Xx,X7 hi,ey]
theorem zjj (out:Array W4)(x:W4):(out.push x).toList=out.toList++[x]:=Sq ..
theorem MI.oneB {a b out:Array W4}{ia ib:Nat}{x:W4}(M:MI rk a.toList b.toList ia ib out.toList)(sb:b.toList.Pairwise fun x y=>rk x<=rk y)(e:b[ib]?=some x)(h:∀y∈a.toList.drop ia,rk x<=rk y):MI rk a.toList b.toList ia (ib+1) (out.push x).toList:=by
 rw[zjj,<- zkP e];refine M.takeB sb 1 fun z hz y hy=>?_;rw[zkP e] at hz;have ez:z=x:=by simpa using hz
 rw[ez];exact h y hy
theorem MI.oneA {a b out:Array W4}{ia ib:Nat}{x:W4}(M:MI rk a.toList b.toList ia ib out.toList)(sa:a.toList.Pairwise fun x y=>rk x<=rk y)(e:a[ia]?=some x)(h:∀y∈b.toList.drop ib,rk x<=rk y):MI rk a.toList b.toList (ia+1) ib (out.push x).toList:=(MI.oneB M.swap sa e h).swap
theorem MI.someA {a b out:Array W4}{ia ib k:Nat}{y:W4}(M:MI rk a.toList b.toList ia ib out.toList)(sa:a.toList.Pairwise fun x y=>rk x<=rk y)(sb:b.toList.Pairwise fun x y=>rk x<=rk y)(e:b[ib]?=some y)(h:∀i x,i<k->a[ia+i]?=some x->rk x<=rk y):MI rk a.toList b.toList (ia+k) ib (out++a.extract ia (ia+k)).toList:=by
 rw[WD,ext_toList _ _ _ (TB _ _),SS];refine M.takeA sa k fun x hx z hz=>VB ?_ (J2 sb e z hz);obtain⟨i,hi,ex⟩:=Tt hx;have hik:i<k:=by
  rw[XE] at hi;lia
 refine h i x hik ?_;have:((a.toList.drop ia).take k)[i]?=some x:=by rw[X7 hi,ex]
 rw[List.getElem?_take,if_pos hik,S2,Xx] at this;exact this
theorem MI.someB {a b out:Array W4}{ia ib k:Nat}{y:W4}(M:MI rk a.toList b.toList ia ib out.toList)(sa:a.toList.Pairwise fun x y=>rk x<=rk y)(sb:b.toList.Pairwise fun x y=>rk x<=rk y)(e:a[ia]?=some y)(h:∀i x,i<k->b[ib+i]?=some x->rk x<=rk y):MI rk a.toList b.toList ia (ib+k) (out++b.extract ib (ib+k)).toList:=(MI.someA M.swap sb sa e h).swap
end
end GS
namespace GS
section
variable {prog:Xd}{w:WP}{A:WK}{E:X9->X8->Prop}{s:X8}{rk:W4->Int}{κ:TW}{a0:Array W4}
theorem za3 {st:WJ}{key:W4}{a:Array W4}{base n hint:Nat}{Q:Option Nat->WJ->Prop}(T:Tells prog w A s κ rk a0)(hk:kindOf st=κ)(hkey:key∈a0.toList)(ma:∀x∈a.toList,x∈a0.toList)(up:∀i j x y,base<=i->i<=j->j<base+n->a[i]?=some x->a[j]?=some y->rk x<=rk y)(hn:base+n<=a.size)(hh:hint<n)
  (h:∀k,k<=n->(∀i x,i<k->a[base+i]?=some x->rk x<=rk key)->(∀i x,k<=i->i<n->a[base+i]?=some x->rk key<rk x)->Q (some k) st):wpS (Xh prog w) A E s (gallop' false key a base n hint) Q st:=by
 have he:∀i,i<n->∃x,a[base+i]?=some x/\x∈a.toList:=fun i hi=>jo (by lia);refine zfT T hk hkey (fun i=>match a[base+i]? with | some x=>bey rk false key x | none=>false) (fun i hi=>?_) (fun i j hij hj hb=>?_) hh fun k hk1 h1 h2=>h k hk1 (fun i x hi e=>?_) fun i x hi1 hi2 e=>?_
 ·obtain⟨x,e,m⟩:=he i hi;refine⟨x,e,ma x m,?_⟩;try dsimp only
  rw[e]
 ·obtain⟨x,ex,_⟩:=he i (by lia);obtain⟨y,ey,_⟩:=he j hj;try dsimp only at hb ⊢
  rw[ey] at hb;rw[ex];have:=up (base+i) (base+j) x y (by lia) (by lia) (by lia) ex ey;unfold bey at hb ⊢;simp only[WG,if_false,WE,decide_eq_false_iff_not] at hb ⊢;lia
 ·have:=h1 i hi;try dsimp only at this
  rw[e] at this;unfold bey at this;simp only[WG,if_false,WE,decide_eq_false_iff_not] at this;lia
 ·have:=h2 i hi1 hi2;try dsimp only at this
  rw[e] at this;unfold bey at this;simp only[WG,if_false,Bool.not_eq_false',decide_eq_true_eq] at this;exact this
theorem za4 {st:WJ}{key:W4}{a:Array W4}{base n hint:Nat}{Q:Option Nat->WJ->Prop}(T:Tells prog w A s κ rk a0)(hk:kindOf st=κ)(hkey:key∈a0.toList)(ma:∀x∈a.toList,x∈a0.toList)(up:∀i j x y,base<=i->i<=j->j<base+n->a[i]?=some x->a[j]?=some y->rk x<=rk y)(hn:base+n<=a.size)(hh:hint<n)
  (h:∀k,k<=n->(∀i x,i<k->a[base+i]?=some x->rk x<rk key)->(∀i x,k<=i->i<n->a[base+i]?=some x->rk key<=rk x)->Q (some k) st):wpS (Xh prog w) A E s (gallop' true key a base n hint) Q st:=by
 have he:∀i,i<n->∃x,a[base+i]?=some x/\x∈a.toList:=fun i hi=>jo (by lia);refine zfT T hk hkey (fun i=>match a[base+i]? with | some x=>bey rk true key x | none=>false) (fun i hi=>?_) (fun i j hij hj hb=>?_) hh fun k hk1 h1 h2=>h k hk1 (fun i x hi e=>?_) fun i x hi1 hi2 e=>?_
 ·obtain⟨x,e,m⟩:=he i hi;refine⟨x,e,ma x m,?_⟩;try dsimp only
  rw[e]
 ·obtain⟨x,ex,_⟩:=he i (by lia);obtain⟨y,ey,_⟩:=he j hj;try dsimp only at hb ⊢
  rw[ey] at hb;rw[ex];have:=up (base+i) (base+j) x y (by lia) (by lia) (by lia) ex ey;unfold bey at hb ⊢;simp only[if_true,decide_eq_true_eq] at hb ⊢;lia
 ·have:=h1 i hi;try dsimp only at this
  rw[e] at this;unfold bey at this;simp only[if_true,decide_eq_true_eq] at this;exact this
 ·have:=h2 i hi1 hi2;try dsimp only at this
  rw[e] at this;unfold bey at this;simp only[if_true,decide_eq_false_iff_not] at this;lia
theorem zil {a:Array W4}(sa:a.toList.Pairwise fun x y=>rk x<=rk y){i j:Nat}{x y:W4}(hij:i<=j)(ex:a[i]?=some x)(ey:a[j]?=some y):rk x<=rk y:=by
 refine J2 sa ex y ?_;have hj:j<a.toList.length:=by
  rw[X4];exact(Vw.mp ey).1
 refine X0 (i:=j-i) ?_;rw[S2,Xx,show i+(j-i)=j by lia];exact ey
set_option maxHeartbeats 8000000 in
theorem via {P:Prop}(h:∀G:Prop,(P->G)->G):P:=h P id
structure Key (P:Prop):Prop where
 get:P
theorem cut {P R:Prop}(k:P)(h:Key P->R):R:=h ⟨k⟩
theorem zjk {st0:WJ}{a b:Array W4}{Q:Array W4->WJ->Prop}(T:Tells prog w A s κ rk a0)(hk:kindOf st0=κ)(ma:∀x∈a.toList,x∈a0.toList)(mb:∀x∈b.toList,x∈a0.toList)(sa:a.toList.Pairwise fun x y=>rk x<=rk y)(sb:b.toList.Pairwise fun x y=>rk x<=rk y)
  (ha:0<a.size) (hb:0<b.size) (h0:∀x y,b[0]?=some x->y∈a.toList->rk x<=rk y) (hl':∀x∈b.toList,∀y,a[a.size-1]?=some y->rk x<rk y)
  (h:∀out st',Kept st0 st'->Mg rk a.toList b.toList out.toList->Q out st'):wpS (Xh prog w) A E s (mergeLo' a b) Q st0:=by
 have hl:∀x∈b.toList,∀y,a[a.size-1]?=some y->rk x<=rk y:=fun x hx y hy=>V0 (hl' x hx y hy);refine XH (PV (UB ⟨rfl,?_⟩));obtain⟨b0,eb0,_⟩:=jo hb;refine XH (qZ eb0 ?_);have M0:MI rk a.toList b.toList 0 0 (#[]:Array W4).toList:=⟨by simp,List.Pairwise.nil,(fun x hx=>nomatch hx),(fun x hx=>nomatch hx)⟩;have M1:MI rk a.toList b.toList 0 1 (#[b0]:Array W4).toList:=MI.oneB M0 sb eb0 fun y hy=>h0 b0 y eb0 (by simpa using hy);dsimp -zeta only;refine qq (fun hc=>Xp (h _ _ (Kept.refl _) (YA M1 sa (by rw[show 1=b.size by simpa using hc];exact XW _)))) fun hc=>?_;refine qq (fun hc2=>Xp (h _ _ (Kept.refl _) (YB M1 sa sb hl (by simpa using hc2)))) fun hc2=>?_;have hb2:1<b.size:=by
  have:¬ 1=b.size:=by simpa using hc
  lia
 have ha2:0+1<a.size:=by
  have:¬ 0+1=a.size:=by simpa using hc2
  lia
 refine XH (R4 ?_);refine XH (Us (V1 (I:=fun x c st'=>∃out ia ib mg,c=(none,out,ia,ib,mg)/\MI rk a.toList b.toList ia ib out.toList/\ia+1<a.size/\ib<b.size/\x+1<=ia+ib/\Kept st0 st')
  (Q:=fun c st'=>∃res,c.1=some res/\Mg rk a.toList b.toList res.toList/\Kept st0 st') ?step ?fin ⟨_,0,1,_,rfl,M1,ha2,hb2,by lia,Kept.refl _⟩) ?post)
 case fin =>
  rintro c st' ⟨out,ia,ib,mg,rfl,M,h1,h2,h3,k⟩
  lia
 case post =>
  rintro⟨c1,c2⟩ st' ⟨res,e,hM,k⟩
  dsimp only at e ⊢
  subst e
  exact Xp (h _ _ k hM)
 case step =>
  intro x0 c st1 _ hx0 hI
  refine via fun G hG=>?_
  obtain⟨out,ia,ib,mg,rfl,M,h1,h2,h3,k1⟩:=hI
  refine hG ?_
  clear hG
  have hk1:kindOf st1=κ:=k1.kind.trans hk
  dsimp -zeta only
  refine XH (Us (V1 (I:=fun x c st'=>st'=st1/\∃out ia ib ac bc,c=(none,out,ia,ib,ac,bc)/\MI rk a.toList b.toList ia ib out.toList/\ia+1<a.size/\ib<b.size/\x0+1+x<=ia+ib)
   (Q:=fun c st'=>st'=st1/\((∃res,c.1=some res/\Mg rk a.toList b.toList res.toList)\/∃out ia ib ac bc,c=(none,out,ia,ib,ac,bc)/\MI rk a.toList b.toList ia ib out.toList/\ia+1<a.size/\ib<b.size/\x0+2<=ia+ib)) ?step1 ?fin1 ⟨rfl,_,_,_,_,_,rfl,M,h1,h2,by lia⟩) ?post1)
  case fin1 =>
   rintro c st' ⟨rfl,out,ia,ib,ac,bc,rfl,M,h1,h2,h3⟩
   exact⟨rfl,.inr ⟨out,ia,ib,ac,bc,rfl,M,h1,h2,by lia⟩⟩
  case step1 =>
   intro x c st' _ hx hI
   refine via fun G hG=>?_
   obtain⟨rfl,out,ia,ib,ac,bc,rfl,M,h1,h2,h3⟩:=hI
   obtain⟨y,ey,my⟩:=jo h2
   obtain⟨z,ez,mz⟩:=jo (a:=a) (i:=ia) (by lia)
   refine hG ?_
   clear hG
   dsimp -zeta only
   refine XH (qZ ey (XH (qZ ez (XH (zkM T hk1 (mb y my) (ma z mz) ?_)))))
   dsimp -zeta only
   refine qq (fun hlt=>?_) fun hlt=>?_
   ·have hlt':rk y<rk z:=of_decide_eq_true hlt;have M2:=MI.oneB M sb ey fun v hv=>VB (V0 hlt') (J2 sa ez v hv);refine XH (qZ ey ?_);refine qq (fun he=>Xp ⟨rfl,.inl ⟨_,rfl,YA M2 sa (by rw[show ib+1=b.size by simpa using he];exact XW _)⟩⟩) fun he=>?_;have hb3:ib+1<b.size:=by
     have:¬ ib+1=b.size:=by simpa using he
     lia
    exact qq (fun _=>Xp ⟨rfl,.inr ⟨_,_,_,_,_,rfl,M2,h1,hb3,by lia⟩⟩) fun _=>Xp ⟨rfl,_,_,_,_,_,rfl,M2,h1,hb3,by lia⟩
   ·have hlt':¬ rk y<rk z:=fun q=>hlt (decide_eq_true q);have M2:=MI.oneA M sa ez fun v hv=>VB (N7.mp hlt') (J2 sb ey v hv);refine XH (qZ ez ?_);refine qq (fun he=>Xp ⟨rfl,.inl ⟨_,rfl,YB M2 sa sb hl (by simpa using he)⟩⟩) fun he=>?_;have ha3:ia+1+1<a.size:=by
     have:¬ ia+1+1=a.size:=by simpa using he
     lia
    exact qq (fun _=>Xp ⟨rfl,.inr ⟨_,_,_,_,_,rfl,M2,ha3,h2,by lia⟩⟩) fun _=>Xp ⟨rfl,_,_,_,_,_,rfl,M2,ha3,h2,by lia⟩
  case post1 =>
   intro c st' hI
   refine via fun G hG=>?_
   rcases hI with ⟨rfl,hc1 | ⟨out,ia,ib,ac,bc,rfl,M,h1,h2,h3⟩⟩
   all_goals (refine hG ?_;clear hG)
   ·obtain⟨res,e,hM⟩:=hc1;obtain⟨c1,c2⟩:=c;dsimp only at e ⊢;subst e;exact Xp ⟨res,rfl,hM,k1⟩
   dsimp -zeta only
   refine XH (PV (UB ⟨rfl,?_⟩))
   refine XH (Us (V1 (I:=fun x c st2=>∃out ia ib mg ac bc,c=(none,out,ia,ib,mg,ac,bc)/\MI rk a.toList b.toList ia ib out.toList/\ia+1<a.size/\ib<b.size/\x0+2<=ia+ib/\Kept st0 st2)
    (Q:=fun c st2=>(∃res,c.1=some res/\Mg rk a.toList b.toList res.toList/\Kept st0 st2)\/∃out ia ib mg ac bc,c=(none,out,ia,ib,mg,ac,bc)/\MI rk a.toList b.toList ia ib out.toList/\ia+1<a.size/\ib<b.size/\x0+2<=ia+ib/\Kept st0 st2) ?step2 ?fin2 ⟨_,_,_,_,_,_,rfl,M,h1,h2,h3,k1⟩) ?post2)
   case fin2 =>
    rintro c st2 hc
    exact .inr hc
   case post2 =>
    rintro c st2 (⟨res,e,hM,k2⟩ | ⟨out,ia,ib,mg,ac,bc,rfl,M,h1,h2,h3,k2⟩)
    ·obtain⟨c1,c2⟩:=c;dsimp only at e ⊢;subst e;exact Xp ⟨res,rfl,hM,k2⟩
    ·dsimp -zeta only;exact XH (zeW k2 fun st3 k3=>Xp ⟨_,_,_,_,rfl,M,h1,h2,by lia,k3⟩)
   case step2 =>
    intro x c st2 _ hx hI
    refine via fun G hG=>?_
    obtain⟨out,ia,ib,mg,ac,bc,rfl,M,h1,h2,h3,k2⟩:=hI
    obtain⟨y,ey,my⟩:=jo h2
    refine hG ?_
    clear hG
    dsimp -zeta only
    refine' cut ?key1 fun key=>qq (fun hmg=>?a1) fun hmg=>?b1
    case a1 =>
     generalize mg-1=mg1
     revert mg1
     exact key.get
    case b1=>exact key.get mg
    intro mg1
    dsimp -zeta only
    refine XH (zeW k2 fun st3 k3=>?_)
    have hk3:kindOf st3=κ:=k3.kind.trans hk
    refine XH (qZ ey (XH (za3 T hk3 (mb y my) ma (fun i j u v _ hij _ eu ev=>zil sa hij eu ev) (by lia) (by lia) fun k hk4 g1 g2=>?_)))
    dsimp -zeta only
    refine' cut ?key2 fun key=>qq (fun hk0=>?a2) fun hk0=>?b2
    case a2 =>
     have M2:=MI.someA M sa sb ey g1
     refine qq (fun he=>Xp (.inl ⟨_,rfl,YB M2 sa sb hl (by simpa using he),k3⟩)) fun he=>?_
     have ne1:¬ ia+k+1=a.size:=by simpa using he
     have kl:ia+k<a.size:=by
      refine Nat.lt_of_not_le fun hge=>?_;obtain⟨v,ev,mv⟩:=jo (a:=a) (i:=a.size-1) (by lia);have q1:=g1 (a.size-1-ia) v (by lia) (by rw[show ia+(a.size-1-ia)=a.size-1 by lia];exact ev);have q2:=hl' y my v ev;lia
     refine qq (fun he2=>absurd (show ia+k=a.size by simpa using he2) (by lia)) fun he2=>?_
     have h1':ia+k+1<a.size:=by lia
     have h3':x0+2<=ia+k+ib:=by lia
     have g2':∀z,a[ia+k]?=some z->rk y<=rk z:=fun z ez=>V0 (g2 k z (XW _) (by lia) ez)
     generalize out++a.extract ia (ia+k)=zeX at M2 ⊢
     generalize ia+k=ia1 at M2 h1' h3' g2' ⊢
     revert g2';revert h3';revert h1';revert M2;revert ia1;revert zeX
     exact key.get
    case b2=>exact key.get out ia M h1 h3 fun z ez=>V0 (g2 0 z (by lia) (by lia) (by simpa using ez))
    intro zeX ia1 M2 h1' h3' g2'
    refine via fun G hG=>?_
    obtain⟨z,ez,mz⟩:=jo (a:=a) (i:=ia1) (by lia)
    refine hG ?_
    clear hG
    have M3:=MI.oneB M2 sb ey fun v hv=>VB (g2' z ez) (J2 sa ez v hv)
    refine XH (qZ ey ?_)
    refine qq (fun he=>Xp (.inl ⟨_,rfl,YA M3 sa (by rw[show ib+1=b.size by simpa using he];exact XW _),k3⟩)) fun he=>?_
    have hb3:ib+1<b.size:=by
     have:¬ ib+1=b.size:=by simpa using he
     lia
    refine XH (qZ ez (XH (za4 T hk3 (ma z mz) mb (fun i j u v _ hij _ eu ev=>zil sb hij eu ev) (by lia) (by lia) fun k' hk5 g3 g4=>?_)))
    dsimp -zeta only
    refine' cut ?key3 fun key=>qq (fun hk0'=>?a3) fun hk0'=>?b3
    case a3 =>
     have M4:=MI.someB M3 sa sb ez fun i u hi eu=>V0 (g3 i u hi eu)
     refine qq (fun he=>Xp (.inl ⟨_,rfl,YA M4 sa (by rw[show ib+1+k'=b.size by simpa using he];exact XW _),k3⟩)) fun he=>?_
     have hb4:ib+1+k'<b.size:=by
      have:¬ ib+1+k'=b.size:=by simpa using he
      lia
     have g4':∀v,b[ib+1+k']?=some v->rk z<=rk v:=fun v ev=>g4 k' v (XW _) (by lia) ev
     have h3'':x0+2<=ia1+(ib+1+k'):=by lia
     generalize zeX.push y++b.extract (ib+1) (ib+1+k')=zkQ at M4 ⊢
     generalize ib+1+k'=ib1 at M4 hb4 g4' h3'' ⊢
     revert h3'';revert g4';revert hb4;revert M4;revert ib1;revert zkQ
     exact key.get
    case b3=>exact key.get (zeX.push y) (ib+1) M3 hb3 (fun v ev=>g4 0 v (by lia) (by lia) (by simpa using ev)) (by lia)
    intro zkQ ib1 M4 hb4 g4' h3''
    refine via fun G hG=>?_
    obtain⟨v,ev,mv⟩:=jo (a:=b) (i:=ib1) hb4
    refine hG ?_
    clear hG
    have M5:=MI.oneA M4 sa ez fun u hu=>VB (g4' v ev) (J2 sb ev u hu)
    refine XH (qZ ez ?_)
    refine qq (fun he=>Xp (.inl ⟨_,rfl,YB M5 sa sb hl (by simpa using he),k3⟩)) fun he=>?_
    have ha3:ia1+1+1<a.size:=by
     have:¬ ia1+1+1=a.size:=by simpa using he
     lia
    exact qq (fun _=>Xp (.inr ⟨_,_,_,_,_,_,rfl,M5,ha3,hb4,by lia,k3⟩)) fun _=>Xp ⟨_,_,_,_,_,_,rfl,M5,ha3,hb4,by lia,k3⟩
end
end GS
namespace GS
def neg (rk:W4->Int):W4->Int:=fun x=>- rk x
theorem zbU {a:Array W4}{j:Nat}(h:j<a.size):a.reverse[j]?=a[a.size-1-j]?:=by
 rw[Pg h]
def Hi (rk:W4->Int)(a b:Array W4)(na nb:Nat)(out:Array W4):Prop:=MI (neg rk) a.reverse.toList b.reverse.toList (a.size-na) (b.size-nb) out.toList
section
variable {rk:W4->Int}{a b out:Array W4}{na nb:Nat}
theorem Z0 (sa:a.toList.Pairwise fun x y=>rk x<=rk y):a.reverse.toList.Pairwise fun x y=>neg rk x<=neg rk y:=by
 rw[Ve,OV];exact sa.imp fun h=>SC h
theorem zcq {i:Nat}{x:W4}(h1:1<=i)(h2:i<=a.size)(e:a[i-1]?=some x):a.reverse[a.size-i]?=some x:=by
 rw[zbU (by lia),show a.size-1-(a.size-i)=i-1 by lia];exact e
theorem Hi.oneA {x y:W4}(M:Hi rk a b na nb out)(sa:a.toList.Pairwise fun x y=>rk x<=rk y)(sb:b.toList.Pairwise fun x y=>rk x<=rk y)(h1:1<=na)(h2:na<=a.size)(h3:1<=nb)(h4:nb<=b.size)(ex:a[na-1]?=some x)(ey:b[nb-1]?=some y)(h:rk y<=rk x):Hi rk a b (na-1) nb (out.push x):=by
 have:=MI.oneA (rk:=neg rk) M (Z0 sa) (zcq h1 h2 ex) fun v hv=>VB (SC h) (J2 (Z0 sb) (zcq h3 h4 ey) v hv);unfold Hi;rw[show a.size-(na-1)=a.size-na+1 by lia];exact this
theorem Hi.oneB {x y:W4}(M:Hi rk a b na nb out)(sa:a.toList.Pairwise fun x y=>rk x<=rk y)(sb:b.toList.Pairwise fun x y=>rk x<=rk y)(h1:1<=na)(h2:na<=a.size)(h3:1<=nb)(h4:nb<=b.size)(ex:a[na-1]?=some x)(ey:b[nb-1]?=some y)(h:rk x<=rk y):Hi rk a b na (nb-1) (out.push y):=by
 have:=MI.oneB (rk:=neg rk) M (Z0 sb) (zcq h3 h4 ey) fun v hv=>VB (SC h) (J2 (Z0 sa) (zcq h1 h2 ex) v hv);unfold Hi;rw[show b.size-(nb-1)=b.size-nb+1 by lia];exact this
theorem zmW {i j:Nat}(h1:i<=j)(h2:j<=a.size):(a.extract i j).reverse=a.reverse.extract (a.size-j) (a.size-j+(j-i)):=by
 apply Array.ext_getElem?;intro k;by_cases hk:k<j-i
 ·rw[Pg (by rw[Ud];lia),Sg,Sg,Ud];rw[if_pos (by lia),if_pos (by rw[UU];lia),zbU (by lia)];congr 1;lia
 ·rw[WQ (by rw[UU,Ud];lia),WQ (by rw[Ud,UU];lia)]
theorem Hi.someA {i:Nat}{y:W4}(M:Hi rk a b na nb out)(sa:a.toList.Pairwise fun x y=>rk x<=rk y)(sb:b.toList.Pairwise fun x y=>rk x<=rk y)(h1:i<=na)(h2:na<=a.size)(h3:1<=nb)(h4:nb<=b.size)(ey:b[nb-1]?=some y)(h:∀j x,i<=j->j<na->a[j]?=some x->rk y<=rk x):Hi rk a b i nb (out++(a.extract i na).reverse):=by
 have:=MI.someA (rk:=neg rk) (k:=na-i) M (Z0 sa) (Z0 sb) (zcq h3 h4 ey) fun j x hj ex=>SC (h (na-1-j) x (by lia) (by lia) (by
  rw[zbU (by lia)] at ex;rw[<- ex];congr 1;lia))
 unfold Hi;rw[zmW h1 h2,show a.size-i=a.size-na+(na-i) by lia];exact this
theorem Hi.someB {i:Nat}{y:W4}(M:Hi rk a b na nb out)(sa:a.toList.Pairwise fun x y=>rk x<=rk y)(sb:b.toList.Pairwise fun x y=>rk x<=rk y)(h1:i<=nb)(h2:nb<=b.size)(h3:1<=na)(h4:na<=a.size)(ey:a[na-1]?=some y)(h:∀j x,i<=j->j<nb->b[j]?=some x->rk y<=rk x):Hi rk a b na i (out++(b.extract i nb).reverse):=(Hi.someA (a:=b) (b:=a) M.swap sb sa h1 h2 h3 h4 ey h).swap
theorem zkR {oL:List W4}(h:Mg (neg rk) b.reverse.toList a.reverse.toList oL):Mg rk a.toList b.toList oL.reverse:=by
 obtain⟨p,q⟩:=h;rw[Ve,Ve] at p;refine⟨?_,?_⟩
 ·refine(QR _).trans (p.trans (T0.trans ?_));exact List.Perm.append (QR _) (QR _)
 ·rw[OV];refine q.imp fun {x y} h=>?_;have h':- rk x<=- rk y:=h;lia
theorem zbV {i:Nat}(h:i<=a.size):(a.reverse.extract (a.size-i) a.reverse.size).toList.reverse=(a.extract 0 i).toList:=by
 rw[zap,Ve,ext_toList _ _ _ (W5 _),List.drop_zero,Nat.sub_zero];have:=List.reverse_take (l:=a.toList) (i:=i);rw[X4] at this;rw[<- this,OA]
theorem Hi.done (M:Hi rk a b 0 nb out)(sb:b.toList.Pairwise fun x y=>rk x<=rk y)(h:nb<=b.size):Mg rk a.toList b.toList (a.extract 0 0++b.extract 0 nb++out.reverse).toList:=by
 have h1:=YA (rk:=neg rk) (a:=b.reverse) (b:=a.reverse) M.swap (Z0 sb) (by rw[UU];lia);have h2:=zkR h1;rw[WD,WD,Ts,Ts,zbV h] at h2;have e0:=zbV (a:=a) (i:=0) (W5 _);rw[e0] at h2;rw[WD,WD,Ve,W2];exact h2
theorem Hi.first (M:Hi rk a b na 1 out)(sa:a.toList.Pairwise fun x y=>rk x<=rk y)(sb:b.toList.Pairwise fun x y=>rk x<=rk y)(hb:0<b.size)(h:na<=a.size)(h0:∀x y,b[0]?=some x->y∈a.toList->rk x<rk y):Mg rk a.toList b.toList (b.extract 0 1++a.extract 0 na++out.reverse).toList:=by
 have h1:=YB (rk:=neg rk) (a:=b.reverse) (b:=a.reverse) M.swap (Z0 sb) (Z0 sa) (fun x hx y ey=>by
  rw[UU,zbU (by lia),show b.size-1-(b.size-1)=0 by lia] at ey;have hx':x∈a.toList:=by simpa using hx
  exact SC (V0 (h0 y x ey hx'))) (by rw[UU];lia)
 have h2:=zkR h1;rw[WD,WD,Ts,Ts,zbV h,zbV (by lia)] at h2;rw[WD,WD,Ve,W2];exact h2
end
section
variable {prog:Xd}{w:WP}{A:WK}{E:X9->X8->Prop}{s:X8}{rk:W4->Int}{κ:TW}{a0:Array W4}
set_option maxHeartbeats 8000000 in
theorem zjl {st0:WJ}{a b:Array W4}{Q:Array W4->WJ->Prop}(T:Tells prog w A s κ rk a0)(hk:kindOf st0=κ)(ma:∀x∈a.toList,x∈a0.toList)(mb:∀x∈b.toList,x∈a0.toList)(sa:a.toList.Pairwise fun x y=>rk x<=rk y)(sb:b.toList.Pairwise fun x y=>rk x<=rk y)
  (ha:0<a.size) (hb:0<b.size) (h0:∀x y,b[0]?=some x->y∈a.toList->rk x<rk y) (hl:∀x∈b.toList,∀y,a[a.size-1]?=some y->rk x<rk y)
  (h:∀out st',Kept st0 st'->Mg rk a.toList b.toList out.toList->Q out st'):wpS (Xh prog w) A E s (mergeHi' a b) Q st0:=by
 refine XH (PV (UB ⟨rfl,?_⟩));obtain⟨z0,ez0,_⟩:=jo (a:=a) (i:=a.size-1) (by lia);obtain⟨y0,ey0,my0⟩:=jo (a:=b) (i:=b.size-1) (by lia);refine XH (qZ ez0 ?_);have M0:Hi rk a b a.size b.size #[]:=by
  unfold Hi;rw[SK,SK];exact⟨by simp,List.Pairwise.nil,(fun x hx=>nomatch hx),(fun x hx=>nomatch hx)⟩
 have M1:Hi rk a b (a.size-1) b.size #[z0]:=M0.oneA sa sb (by lia) (XW _) (by lia) (XW _) ez0 ey0 (V0 (hl y0 my0 z0 ez0));dsimp -zeta only;refine qq (fun hc=>Xp (h _ _ (Kept.refl _) ?_)) fun hc=>?_
 ·have e:a.size-1=0:=by simpa using hc
  rw[e] at M1 ⊢;exact M1.done sb (XW _)
 refine qq (fun hc2=>Xp (h _ _ (Kept.refl _) ?_)) fun hc2=>?_
 ·have e:b.size=1:=by simpa using hc2
  rw[e] at M1 ⊢;exact M1.first sa sb hb (by lia) h0
 have ha2:1<=a.size-1:=by
  have:¬ a.size-1=0:=by simpa using hc
  lia
 have hb2:1<b.size:=by
  have:¬ b.size=1:=by simpa using hc2
  lia
 refine XH (R4 ?_);refine XH (Us (V1 (I:=fun x c st'=>∃na nb out mg,c=(none,na,nb,out,mg)/\Hi rk a b na nb out/\1<=na/\na<a.size/\1<nb/\nb<=b.size/\na+nb+x+1<=a.size+b.size/\Kept st0 st')
  (Q:=fun c st'=>∃res,c.1=some res/\Mg rk a.toList b.toList res.toList/\Kept st0 st') ?step ?fin ⟨_,_,_,_,rfl,M1,ha2,by lia,hb2,XW _,by lia,Kept.refl _⟩) ?post)
 case fin =>
  rintro c st' ⟨na,nb,out,mg,rfl,M,h1,h2,h3,h4,h5,k⟩
  lia
 case post =>
  rintro⟨c1,c2⟩ st' ⟨res,e,hM,k⟩
  dsimp only at e ⊢
  subst e
  exact Xp (h _ _ k hM)
 case step =>
  intro x0 c st1 _ hx0 hI
  refine via fun G hG=>?_
  obtain⟨na,nb,out,mg,rfl,M,h1,h2,h3,h4,h5,k1⟩:=hI
  refine hG ?_
  clear hG
  have hk1:kindOf st1=κ:=k1.kind.trans hk
  dsimp -zeta only
  refine XH (Us (V1 (I:=fun x c st'=>st'=st1/\∃na nb out ac bc,c=(none,na,nb,out,ac,bc)/\Hi rk a b na nb out/\1<=na/\na<a.size/\1<nb/\nb<=b.size/\na+nb+x0+1+x<=a.size+b.size)
   (Q:=fun c st'=>st'=st1/\((∃res,c.1=some res/\Mg rk a.toList b.toList res.toList)\/∃na nb out ac bc,c=(none,na,nb,out,ac,bc)/\Hi rk a b na nb out/\1<=na/\na<a.size/\1<nb/\nb<=b.size/\na+nb+x0+2<=a.size+b.size)) ?step1 ?fin1 ⟨rfl,_,_,_,_,_,rfl,M,h1,h2,h3,h4,by lia⟩) ?post1)
  case fin1 =>
   rintro c st' ⟨rfl,na,nb,out,ac,bc,rfl,M,h1,h2,h3,h4,h5⟩
   exact⟨rfl,.inr ⟨na,nb,out,ac,bc,rfl,M,h1,h2,h3,h4,by lia⟩⟩
  case step1 =>
   intro x c st' _ hx hI
   refine via fun G hG=>?_
   obtain⟨rfl,na,nb,out,ac,bc,rfl,M,h1,h2,h3,h4,h5⟩:=hI
   obtain⟨y,ey,my⟩:=jo (a:=b) (i:=nb-1) (by lia)
   obtain⟨z,ez,mz⟩:=jo (a:=a) (i:=na-1) (by lia)
   refine hG ?_
   clear hG
   dsimp -zeta only
   refine XH (qZ ey (XH (qZ ez (XH (zkM T hk1 (mb y my) (ma z mz) ?_)))))
   dsimp -zeta only
   refine qq (fun hlt=>?_) fun hlt=>?_
   ·have hlt':rk y<rk z:=of_decide_eq_true hlt;have M2:=M.oneA sa sb h1 (by lia) (by lia) h4 ez ey (V0 hlt');refine XH (qZ ez ?_);refine qq (fun he=>Xp ⟨rfl,.inl ⟨_,rfl,?_⟩⟩) fun he=>?_
    ·have e:na-1=0:=by simpa using he
     rw[e] at M2 ⊢;exact M2.done sb h4
    have hn:1<=na-1:=by
     have:¬ na-1=0:=by simpa using he
     lia
    exact qq (fun _=>Xp ⟨rfl,.inr ⟨_,_,_,_,_,rfl,M2,hn,by lia,h3,h4,by lia⟩⟩) fun _=>Xp ⟨rfl,_,_,_,_,_,rfl,M2,hn,by lia,h3,h4,by lia⟩
   ·have hlt':¬ rk y<rk z:=fun q=>hlt (decide_eq_true q);have M2:=M.oneB sa sb h1 (by lia) (by lia) h4 ez ey (N7.mp hlt');refine XH (qZ ey ?_);refine qq (fun he=>Xp ⟨rfl,.inl ⟨_,rfl,?_⟩⟩) fun he=>?_
    ·have e:nb-1=1:=by simpa using he
     rw[e] at M2 ⊢;exact M2.first sa sb hb (by lia) h0
    have hn:1<nb-1:=by
     have:¬ nb-1=1:=by simpa using he
     lia
    exact qq (fun _=>Xp ⟨rfl,.inr ⟨_,_,_,_,_,rfl,M2,h1,h2,hn,by lia,by lia⟩⟩) fun _=>Xp ⟨rfl,_,_,_,_,_,rfl,M2,h1,h2,hn,by lia,by lia⟩
  case post1 =>
   intro c st' hI
   refine via fun G hG=>?_
   rcases hI with ⟨rfl,hc1 | ⟨na,nb,out,ac,bc,rfl,M,h1,h2,h3,h4,h5⟩⟩
   all_goals (refine hG ?_;clear hG)
   ·obtain⟨res,e,hM⟩:=hc1;obtain⟨c1,c2⟩:=c;dsimp only at e ⊢;subst e;exact Xp ⟨res,rfl,hM,k1⟩
   dsimp -zeta only
   refine XH (PV (UB ⟨rfl,?_⟩))
   refine XH (Us (V1 (I:=fun x c st2=>∃na nb out mg ac bc,c=(none,na,nb,out,mg,ac,bc)/\Hi rk a b na nb out/\1<=na/\na<a.size/\1<nb/\nb<=b.size/\na+nb+x0+2<=a.size+b.size/\Kept st0 st2)
    (Q:=fun c st2=>(∃res,c.1=some res/\Mg rk a.toList b.toList res.toList/\Kept st0 st2)\/∃na nb out mg ac bc,c=(none,na,nb,out,mg,ac,bc)/\Hi rk a b na nb out/\1<=na/\na<a.size/\1<nb/\nb<=b.size/\na+nb+x0+2<=a.size+b.size/\Kept st0 st2) ?step2 ?fin2 ⟨_,_,_,_,_,_,rfl,M,h1,h2,h3,h4,h5,k1⟩) ?post2)
   case fin2 =>
    rintro c st2 hc
    exact .inr hc
   case post2 =>
    rintro c st2 (⟨res,e,hM,k2⟩ | ⟨na,nb,out,mg,ac,bc,rfl,M,h1,h2,h3,h4,h5,k2⟩)
    ·obtain⟨c1,c2⟩:=c;dsimp only at e ⊢;subst e;exact Xp ⟨res,rfl,hM,k2⟩
    ·dsimp -zeta only;exact XH (zeW k2 fun st3 k3=>Xp ⟨_,_,_,_,rfl,M,h1,h2,h3,h4,by lia,k3⟩)
   case step2 =>
    intro x c st2 _ hx hI
    refine via fun G hG=>?_
    obtain⟨na,nb,out,mg,ac,bc,rfl,M,h1,h2,h3,h4,h5,k2⟩:=hI
    obtain⟨y,ey,my⟩:=jo (a:=b) (i:=nb-1) (by lia)
    refine hG ?_
    clear hG
    dsimp -zeta only
    refine' cut ?key1 fun key=>qq (fun hmg=>?a1) fun hmg=>?b1
    case a1 =>
     generalize mg-1=mg1
     revert mg1
     exact key.get
    case b1=>exact key.get mg
    intro mg1
    dsimp -zeta only
    refine XH (zeW k2 fun st3 k3=>?_)
    have hk3:kindOf st3=κ:=k3.kind.trans hk
    refine XH (qZ ey (XH (za3 T hk3 (mb y my) ma (fun i j u v _ hij _ eu ev=>zil sa hij eu ev) (by lia) (by lia) fun k hk4 g1 g2=>?_)))
    dsimp -zeta only
    refine' cut ?key2 fun key=>qq (fun hk0=>?a2) fun hk0=>?b2
    case a2 =>
     have M2:=M.someA sa sb (i:=k) (by lia) (by lia) (by lia) h4 ey fun j u hj1 hj2 eu=>V0 (g2 j u hj1 hj2 (by simpa using eu))
     refine qq (fun he=>Xp (.inl ⟨_,rfl,(by
      have e:k=0:=by simpa using he
      rw[e] at M2 ⊢;exact M2.done sb h4),k3⟩)) fun he=>?_
     have h1':1<=k:=by
      have:¬ k=0:=by simpa using he
      lia
     have h2':k<a.size:=by lia
     have h5':k+nb+x0+2<=a.size+b.size:=by lia
     have g1':∀z,a[k-1]?=some z->rk z<=rk y:=fun z ez=>g1 (k-1) z (by lia) (by simpa using ez)
     generalize out++(a.extract k na).reverse=zeX at M2 ⊢
     generalize na-k=kk
     generalize k=na1 at M2 h1' h2' h5' g1' ⊢
     revert g1';revert h5';revert h2';revert h1';revert M2;revert na1;revert kk;revert zeX
     exact key.get
    case b2=>exact key.get out (na-k) na M h1 h2 h5 fun z ez=>g1 (na-1) z (by lia) (by simpa using ez)
    intro zeX kk na1 M2 h1' h2' h5' g1'
    refine via fun G hG=>?_
    obtain⟨z,ez,mz⟩:=jo (a:=a) (i:=na1-1) (by lia)
    refine hG ?_
    clear hG
    have M3:=M2.oneB sa sb h1' (by lia) (by lia) h4 ez ey (g1' z ez)
    refine XH (qZ ey ?_)
    refine qq (fun he=>Xp (.inl ⟨_,rfl,(by
     have e:nb-1=1:=by simpa using he
     rw[e] at M3 ⊢;exact M3.first sa sb hb (by lia) h0),k3⟩)) fun he=>?_
    have hn:1<nb-1:=by
     have:¬ nb-1=1:=by simpa using he
     lia
    refine XH (qZ ez (XH (za4 T hk3 (ma z mz) mb (fun i j u v _ hij _ eu ev=>zil sb hij eu ev) (by lia) (by lia) fun k' hk5 g3 g4=>?_)))
    dsimp -zeta only
    refine' cut ?key3 fun key=>qq (fun hk0'=>?a3) fun hk0'=>?b3
    case a3 =>
     have M4:=M3.someB sa sb (i:=k') (by lia) (by lia) h1' (by lia) ez fun j u hj1 hj2 eu=>g4 j u hj1 hj2 (by simpa using eu)
     refine qq (fun he=>Xp (.inl ⟨_,rfl,(by
      have e:k'=1:=by simpa using he
      rw[e] at M4 ⊢;exact M4.first sa sb hb (by lia) h0),k3⟩)) fun he=>?_
     have k1':1<=k':=by
      refine Pf.mpr fun hz=>?_;obtain⟨v,ev,mv⟩:=jo (a:=b) (i:=0) hb;have q1:=g4 0 v (by lia) (by lia) (by simpa using ev);have q2:=h0 v z ev mz;lia
     refine qq (fun he2=>absurd (show k'=0 by simpa using he2) (by lia)) fun he2=>?_
     have hn':1<k':=by
      have:¬ k'=1:=by simpa using he
      lia
     have hb':k'<=b.size:=by lia
     have h5'':na1+k'+x0+2<=a.size+b.size:=by lia
     have g3':∀v,b[k'-1]?=some v->rk v<=rk z:=fun v ev=>V0 (g3 (k'-1) v (by lia) (by simpa using ev))
     generalize zeX.push y++(b.extract k' (nb-1)).reverse=zkQ at M4 ⊢
     generalize nb-1-k'=kk'
     generalize k'=nb1 at M4 hn' hb' h5'' g3' ⊢
     revert g3';revert h5'';revert hb';revert hn';revert M4;revert nb1;revert kk';revert zkQ
     exact key.get
    case b3=>exact key.get (zeX.push y) (nb-1-k') (nb-1) M3 hn (by lia) (by lia) fun v ev=>V0 (g3 (nb-1-1) v (by lia) (by simpa using ev))
    intro zkQ kk' nb1 M4 hn' hb' h5'' g3'
    obtain⟨v,ev,mv⟩:=jo (a:=b) (i:=nb1-1) (by lia)
    have M5:=M4.oneA sa sb h1' (by lia) (by lia) hb' ez ev (g3' v ev)
    refine XH (qZ ez ?_)
    refine qq (fun he=>Xp (.inl ⟨_,rfl,(by
     have e:na1-1=0:=by simpa using he
     rw[e] at M5 ⊢;exact M5.done sb hb'),k3⟩)) fun he=>?_
    have hn2:1<=na1-1:=by
     have:¬ na1-1=0:=by simpa using he
     lia
    exact qq (fun _=>Xp (.inr ⟨_,_,_,_,_,_,rfl,M5,hn2,by lia,hn',hb',by lia,k3⟩)) fun _=>Xp ⟨_,_,_,_,_,_,rfl,M5,hn2,by lia,hn',hb',by lia,k3⟩
end
end GS
namespace GS
theorem zdS (sa:Nat):∀(l:List W4) (j:Nat) (arr:Array W4),((l.zipIdx j).foldl (fun a (p:W4×Nat)=>a.setIfInBounds (sa+p.2) p.1) arr).size=arr.size
 | [],_,_=>rfl
 | x::l,j,arr=>by
  rw[List.zipIdx_cons,VX,zdS sa l (j+1)];exact Tj
theorem zmX (sa:Nat):∀(l:List W4) (j:Nat) (arr:Array W4) (i:Nat),sa+j+l.length<=arr.size->((l.zipIdx j).foldl (fun a (p:W4×Nat)=>a.setIfInBounds (sa+p.2) p.1) arr)[i]?=if sa+j<=i/\i<sa+j+l.length then l[i-(sa+j)]? else arr[i]?:=by
 intro l;induction l with
 | nil =>
  intro j arr i h;rw[if_neg (by simp only[UL];lia)];rfl
 | cons x l ih =>
  intro j arr i h;rw[Xs] at h;rw[List.zipIdx_cons,VX,ih (j+1) _ i (by rw[Tj];lia),Xs];by_cases h1:sa+(j+1)<=i/\i<sa+(j+1)+l.length
  ·rw[if_pos h1,if_pos (by lia),show i-(sa+j)=(i-(sa+(j+1)))+1 by lia,Pu]
  ·rw[if_neg h1];by_cases h2:i=sa+j
   ·subst h2;rw[if_pos (by lia),SK,List.getElem?_cons_zero];show (arr.setIfInBounds (sa+j) x)[sa+j]?=some x;rw[T4,if_pos rfl,if_pos (by lia)]
   ·rw[if_neg (by lia)];show (arr.setIfInBounds (sa+j) x)[i]?=arr[i]?;rw[T4,if_neg (fun e=>h2 e.symm)]
section
variable {prog:Xd}{w:WP}{A:WK}{E:X9->X8->Prop}{s:X8}{rk:W4->Int}{κ:TW}{a0:Array W4}
theorem xr {xs:Array W4}{lo hi:Nat}(u:Up rk xs lo hi){i j:Nat}{x y:W4}(h1:lo<=i)(h2:i<=j)(h3:j<hi)(ex:xs[i]?=some x)(ey:xs[j]?=some y):rk x<=rk y:=by
 have:=u i j h1 h2 h3;unfold Rk at this;rw[ex,ey] at this;exact this
theorem znT {xs:Array W4}{lo hi:Nat}(hz:hi<=xs.size)(h:∀i j x y,lo<=i->i<=j->j<hi->xs[i]?=some x->xs[j]?=some y->rk x<=rk y):Up rk xs lo hi:=fun i j h1 h2 h3=>by
 obtain⟨x,ex,_⟩:=jo (a:=xs) (i:=i) (by lia);obtain⟨y,ey,_⟩:=jo (a:=xs) (i:=j) (by lia);unfold Rk;rw[ex,ey];exact h i j x y h1 h2 h3 ex ey
theorem zim {xs:Array W4}{i:Nat}{x:W4}(e:xs[i]?=some x):x∈xs.toList:=X0 (by rw[Xx];exact e)
theorem ext_get {xs:Array W4}{i j k:Nat}(h1:i<=j)(h2:j<=xs.size)(hk:k<j-i):(xs.extract i j)[k]?=xs[i+k]?:=by
 rw[Sg,if_pos (by lia)]
theorem zaq {xs:Array W4}{i j:Nat}(h2:j<=xs.size):(xs.extract i j).size=j-i:=by
 rw[Ud];lia
theorem zkS {xs:Array W4}{lo hi i j:Nat}(u:Up rk xs lo hi)(h1:lo<=i)(h2:j<=hi)(h3:j<=xs.size):(xs.extract i j).toList.Pairwise fun x y=>rk x<=rk y:=by
 rw[Vp];intro m n hm hn hmn;rw[X4,zaq h3] at hm hn;have em:=ext_get (xs:=xs) (i:=i) (j:=j) (k:=m) (by lia) h3 hm;have en:=ext_get (xs:=xs) (i:=i) (j:=j) (k:=n) (by lia) h3 hn;refine xr u (i:=i+m) (j:=i+n) (by lia) (by lia) (by lia) ?_ ?_
 ·rw[<- em,UD];exact getElem?_pos _ _ _
 ·rw[<- en,UD];exact getElem?_pos _ _ _
theorem ext_mem {xs:Array W4}{i j:Nat}{x:W4}(h3:j<=xs.size)(h:x∈(xs.extract i j).toList):∃k,i<=k/\k<j/\xs[k]?=some x:=by
 obtain⟨k,hk,e⟩:=Tt h;rw[X4,zaq h3] at hk;refine⟨i+k,by lia,by lia,?_⟩;rw[<- ext_get (xs:=xs) (i:=i) (j:=j) (by lia) h3 hk,<- e,UD];exact getElem?_pos _ _ _
theorem zqj {st st1:WJ}{Q:PUnit->WJ->Prop}(h:∀st2,st2=st1->Q ⟨⟩ st2):wpS (Xh prog w) A E s (set st1:StateT WJ Sem PUnit) Q st:=by
 unfold wpS;rw[StateT.run_set];exact X6 ⟨rfl,h _ rfl⟩
set_option maxHeartbeats 8000000 in
theorem zjm {st:WJ}{i sa na p1 nb p2:Nat}{Q:Bool->WJ->Prop}(T:Tells prog w A s κ rk a0)(O:Ok κ a0 st)(e1:(WI st)[i]?=some (sa,na,p1))(e2:(WI st)[i+1]?=some (sa+na,nb,p2))(hna:1<=na)(hnb:1<=nb)(hz:sa+na+nb<=a0.size)(u1:Up rk (Xm st) sa (sa+na))(u2:Up rk (Xm st) (sa+na) (sa+na+nb))
  (h:∀st',Ok κ a0 st'->WI st'=((WI st).setIfInBounds i (sa,na+nb,p1)).eraseIdxIfInBounds (i+1)->Up rk (Xm st') sa (sa+na+nb)->(∀j:Nat,(j<sa\/sa+na+nb<=j)->(Xm st')[j]?=(Xm st)[j]?)->Q true st'):wpS (Xh prog w) A E s (mergeAt' i) Q st:=by
 have hsz:=O.size;have mX:∀x∈(Xm st).toList,x∈a0.toList:=fun x hx=>(UT.mp O.perm).mem_iff.mp hx;obtain⟨b0,eb0,mb0⟩:=jo (a:=Xm st) (i:=sa+na) (by lia);refine XH (R4 ?_);rw[e1,e2];dsimp only;refine XH (zqj fun st1 hst=>?_);have k1:kindOf st1=κ:=by rw[hst];exact O.kind
 have ea:Xm st1=Xm st:=by rw[hst]
 have ep:WI st1=((WI st).setIfInBounds i (sa,na+nb,p1)).eraseIdxIfInBounds (i+1):=by rw[hst]
 have ef:SO st1=none:=by rw[hst];exact O.good
 have O1:Ok κ a0 st1:=⟨by rw[ea];exact O.perm,k1,ef⟩;refine XH (qZ eb0 (XH (za3 T k1 (mX b0 mb0) mX (fun p q u v h1 h2 h3 eu ev=>xr u1 h1 h2 h3 eu ev) (by show sa+na<=(Xm st).size;lia) (by lia) fun k hk g1 g2=>?_)));dsimp only;refine qq (fun hc=>Xp (h st1 O1 ep (znT (by rw[ea];lia) fun p q u v h1 h2 h3 eu ev=>?_) fun j _=>by rw[ea])) fun hc=>?_
 ·have ek:k=na:=by
   have:na-k=0:=by simpa using hc
   lia
  rw[ea] at eu ev;by_cases c1:q<sa+na
  ·exact xr u1 h1 h2 c1 eu ev
  ·by_cases c2:p<sa+na
   ·have q1:=g1 (p-sa) u (by lia) (by rw[show sa+(p-sa)=p by lia];exact eu);have q2:=xr u2 (XW _) (by lia) h3 eb0 ev;lia
   ·exact xr u2 (by lia) h2 h3 eu ev
 have hkn:k<na:=by
  have:¬ na-k=0:=by simpa using hc
  lia
 obtain⟨al,eal,mal⟩:=jo (a:=Xm st) (i:=sa+k+(na-k)-1) (by lia);have eal':(Xm st)[sa+na-1]?=some al:=by
  rw[<- eal];congr 1;lia
 refine XH (qZ eal (XH (za4 T k1 (mX al mal) mX (fun p q u v h1 h2 h3 eu ev=>xr u2 h1 h2 h3 eu ev) (by show sa+na+nb<=(Xm st).size;lia) (by lia) fun k' hk' g3 g4=>?_)));dsimp only;have b0a:rk b0<rk al:=g2 (na-1) al (by lia) (by lia) (by rw[show sa+(na-1)=sa+na-1 by lia];exact eal');have k'1:1<=k':=by
  refine Pf.mpr fun hz0=>?_;have:=g4 0 b0 (by lia) (by lia) (by simpa using eb0);lia
 refine qq (fun hc=>absurd (show k'=0 by simpa using hc) (by lia)) fun _=>?_;have X3:sa+na<=(Xm st).size:=by lia
 have Y3:sa+na+k'<=(Xm st).size:=by lia
 have xs:=zkS (i:=sa+k) (j:=sa+na) u1 (by lia) (XW _) X3;have ys:=zkS (i:=sa+na) (j:=sa+na+k') u2 (XW _) (by lia) Y3;have xm:∀x∈((Xm st).extract (sa+k) (sa+na)).toList,x∈a0.toList:=fun x hx=>by
  obtain⟨j,_,_,ej⟩:=ext_mem X3 hx;exact mX x (zim ej)
 have ym:∀x∈((Xm st).extract (sa+na) (sa+na+k')).toList,x∈a0.toList:=fun x hx=>by
  obtain⟨j,_,_,ej⟩:=ext_mem Y3 hx;exact mX x (zim ej)
 have xz:((Xm st).extract (sa+k) (sa+na)).size=na-k:=by
  rw[zaq X3];lia
 have yz:((Xm st).extract (sa+na) (sa+na+k')).size=k':=by
  rw[zaq Y3];lia
 have first:∀x y,((Xm st).extract (sa+na) (sa+na+k'))[0]?=some x->y∈((Xm st).extract (sa+k) (sa+na)).toList->rk x<rk y:=fun x y ex my=>by
  rw[ext_get (by lia) Y3 (by lia),SG,eb0] at ex;cases ex;obtain⟨j,j1,j2,ej⟩:=ext_mem X3 my;exact g2 (j-sa) y (by lia) (by lia) (by rw[show sa+(j-sa)=j by lia];exact ej)
 have last:∀x∈((Xm st).extract (sa+na) (sa+na+k')).toList,∀y,((Xm st).extract (sa+k) (sa+na))[((Xm st).extract (sa+k) (sa+na)).size-1]?=some y->rk x<rk y:=fun x mx y ey=>by
  rw[xz,ext_get (by lia) X3 (by lia),show sa+k+(na-k-1)=sa+na-1 by lia,eal'] at ey;cases ey;obtain⟨j,j1,j2,ej⟩:=ext_mem Y3 mx;exact g3 (j-(sa+na)) x (by lia) (by rw[show sa+na+(j-(sa+na))=j by lia];exact ej)
 have tail:∀(merged:Array W4) (st2:WJ),Kept st1 st2->Mg rk ((Xm st).extract (sa+k) (sa+na)).toList ((Xm st).extract (sa+na) (sa+na+k')).toList merged.toList ->
   Q true (setArr st2 (merged.toList.zipIdx.foldl (fun a (p:W4×Nat)=>a.setIfInBounds (sa+k+p.2) p.1) (Xm st2))):=fun merged st2 K2 hM=>by
  have ea2:Xm st2=Xm st:=K2.arr.trans ea;have ml:merged.toList.length=na-k+k':=by
   rw[hM.1.length_eq,XU,X4,X4,xz,yz]
  have at_:∀j:Nat,(merged.toList.zipIdx.foldl (fun a (p:W4×Nat)=>a.setIfInBounds (sa+k+p.2) p.1) (Xm st2))[j]?=if sa+k<=j/\j<sa+na+k' then merged.toList[j-(sa+k)]? else (Xm st)[j]?:=fun j=>by
   have:=zmX (sa+k) merged.toList 0 (Xm st2) j (by rw[ea2,ml];lia);rw[this,ea2,SG,ml];by_cases c:sa+k<=j/\j<sa+na+k'
   ·rw[if_pos c,if_pos (by lia)]
   ·rw[if_neg c,if_neg (by lia)]
  have zA:=zdS (sa+k) merged.toList 0 (Xm st2);generalize hN:merged.toList.zipIdx.foldl (fun a (p:W4×Nat)=>a.setIfInBounds (sa+k+p.2) p.1) (Xm st2)=N at at_ zA ⊢;have zN:N.size=a0.size:=by
   rw[zA,ea2,hsz]
  have nl:N.toList=(Xm st).toList.take (sa+k)++merged.toList++(Xm st).toList.drop (sa+na+k'):=by
   refine UF fun j=>?_;rw[Xx,at_ j];by_cases c1:j<sa+k
   ·rw[if_neg (by lia),W2,V4 (by rw[XE,X4];lia),List.getElem?_take,if_pos c1,Xx]
   ·rw[W2,VR (by rw[XE,X4];lia),XE,X4,show min (sa+k) (Xm st).size=sa+k by lia];by_cases c2:j<sa+na+k'
    ·rw[if_pos ⟨by lia,c2⟩,V4 (by rw[ml];lia)]
    ·rw[if_neg (by lia),VR (by rw[ml];lia),S2,Xx,ml];congr 1;lia
  have ol:(Xm st).toList=(Xm st).toList.take (sa+k)++(((Xm st).extract (sa+k) (sa+na)).toList++((Xm st).extract (sa+na) (sa+na+k')).toList)++(Xm st).toList.drop (sa+na+k'):=by
   rw[ext_toList _ _ _ (by lia),ext_toList _ _ _ (by lia)];have d1:(Xm st).toList.drop (sa+na)=((Xm st).toList.drop (sa+k)).drop (na-k):=by
    rw[OI];congr 1;lia
   have d2:(Xm st).toList.drop (sa+na+k')=((Xm st).toList.drop (sa+na)).drop k':=by
    rw[OI]
   rw[d2,show sa+na+k'-(sa+na)=k' by lia,W2,W2,Wx,d1,show sa+na-(sa+k)=na-k by lia,Wx,Wx]
  refine h _ ⟨?_,K2.kind.trans k1,K2.bad.trans ef⟩ (K2.pend.trans ep) (znT (by show _<=N.size;lia) fun p q u v h1 h2 h3 eu ev=>?_) fun j hj=>?_
  ·refine Array.Perm.trans ?_ O.perm;rw[UT];show N.toList.Perm _;have pm:=List.Perm.append_right ((Xm st).toList.drop (sa+na+k')) (Sd ((Xm st).toList.take (sa+k)) hM.1);rw[<- ol,<- nl] at pm;exact pm
  ·have eu':N[p]?=some u:=eu;have ev':N[q]?=some v:=ev;rw[at_] at eu' ev';have mid:∀{j:Nat} {x:W4},sa+k<=j->j<sa+na+k'->merged.toList[j-(sa+k)]?=some x->(∃m,sa+k<=m/\m<sa+na/\(Xm st)[m]?=some x)\/∃m,sa+na<=m/\m<sa+na+k'/\(Xm st)[m]?=some x:=fun _ _ e=>by
    rcases XG.mp (hM.1.mem_iff.mp (X0 e)) with z | z
    ·exact .inl (ext_mem X3 z)
    ·exact .inr (ext_mem Y3 z)
   by_cases c1:p<sa+k
   ·rw[if_neg (by lia)] at eu';by_cases c2:q<sa+k
    ·rw[if_neg (by lia)] at ev';exact xr u1 h1 h2 (by lia) eu' ev'
    ·have low:∀{m:Nat} {x:W4},sa+na<=m->m<sa+na+nb->(Xm st)[m]?=some x->rk u<=rk x:=fun m1 m2 em=>by
      have q1:=g1 (p-sa) u (by lia) (by rw[show sa+(p-sa)=p by lia];exact eu');exact VB q1 (xr u2 (XW _) m1 m2 eb0 em)
     by_cases c3:q<sa+na+k'
     ·rw[if_pos ⟨by lia,c3⟩] at ev';rcases mid (by lia) c3 ev' with ⟨m,m1,m2,em⟩ | ⟨m,m1,m2,em⟩
      ·exact xr u1 h1 (by lia) m2 eu' em
      ·exact low m1 (by lia) em
     ·rw[if_neg (by lia)] at ev';exact low (by lia) h3 ev'
   ·by_cases c4:p<sa+na+k'
    ·rw[if_pos ⟨by lia,c4⟩] at eu';by_cases c3:q<sa+na+k'
     ·rw[if_pos ⟨by lia,c3⟩] at ev';by_cases epq:p=q
      ·subst epq;rw[eu'] at ev';cases ev';exact U0 _
      ·have sp:=hM.2;rw[Vp] at sp;obtain⟨a1,a2⟩:=XY.mp eu';obtain⟨b1,b2⟩:=XY.mp ev';have:=sp _ _ a1 b1 (by lia);rw[a2,b2] at this;exact this
     ·rw[if_neg (by lia)] at ev';have q4:=g4 (q-(sa+na)) v (by lia) (by lia) (by rw[show sa+na+(q-(sa+na))=q by lia];exact ev');rcases mid (by lia) c4 eu' with ⟨m,m1,m2,em⟩ | ⟨m,m1,m2,em⟩
      ·exact VB (xr u1 (by lia) (by lia) (by lia) em eal') q4
      ·exact xr u2 m1 (by lia) h3 em ev'
    ·rw[if_neg (by lia)] at eu' ev';exact xr u2 (by lia) h2 h3 eu' ev'
  ·show N[j]?=_;rw[at_,if_neg (by lia)]
 refine qq (fun _=>?_) fun _=>?_
 ·refine XH (zjk T k1 xm ym xs ys (SZ (show 0<na-k by lia) xz.symm) (SZ (show 0<k' by lia) yz.symm) (fun x y ex my=>V0 (first x y ex my)) last fun out st2 K2 hM=>?_);refine XH (S6 (XH (R4 ?_)));rw[show (SO st2).isNone=true by rw[K2.bad,ef];rfl];exact Xp (tail out st2 K2 hM)
 ·refine XH (zjl T k1 xm ym xs ys (SZ (show 0<na-k by lia) xz.symm) (SZ (show 0<k' by lia) yz.symm) first last fun out st2 K2 hM=>?_);refine XH (S6 (XH (R4 ?_)));rw[show (SO st2).isNone=true by rw[K2.bad,ef];rfl];exact Xp (tail out st2 K2 hM)
end
end GS
namespace GS
def Qt:List (Nat×Nat×Nat)->Nat->Nat->Prop
 | [],s,e=>s=e
 | r::l,s,e=>r.1=s/\1<=r.2.1/\Qt l (s+r.2.1) e
theorem yU:∀{l1 l2:List (Nat×Nat×Nat)} {s e:Nat},Qt (l1++l2) s e ↔ ∃m,Qt l1 s m/\Qt l2 m e
 | [],l2,s,e=>⟨fun h=>⟨s,rfl,h⟩,fun ⟨m,h1,h2⟩=>by
  have e:s=m:=h1;subst e;exact h2⟩
 | r::l1,l2,s,e=>by
  constructor
  ·rintro⟨h1,h2,h3⟩;obtain⟨m,h4,h5⟩:=yU.mp h3;exact⟨m,⟨h1,h2,h4⟩,h5⟩
  ·rintro⟨m,⟨h1,h2,h3⟩,h4⟩;exact⟨h1,h2,yU.mpr ⟨m,h3,h4⟩⟩
theorem YC:∀{l:List (Nat×Nat×Nat)} {s e:Nat},Qt l s e->s<=e/\l.length+s<=e/\∀r∈l,s<=r.1/\r.1+r.2.1<=e
 | [],s,e,h=>by
  have e':s=e:=h;subst e';exact⟨XW _,by simp,fun r hr=>nomatch hr⟩
 | r::l,s,e,⟨h1,h2,h3⟩=>by
  obtain⟨a1,a2,a3⟩:=YC h3;refine⟨by lia,by rw[Xs];lia,fun q hq=>?_⟩;rcases XJ.mp hq with rfl | hq
  ·lia
  ·have:=a3 q hq;lia
section
variable {prog:Xd}{w:WP}{A:WK}{E:X9->X8->Prop}{s:X8}{rk:W4->Int}{κ:TW}{a0:Array W4}
structure PI (rk:W4->Int)(κ:TW)(a0:Array W4)(lo:Nat)(st:WJ):Prop where
 ok:Ok κ a0 st
 til:Qt (WI st).toList 0 lo
 up:∀r∈(WI st).toList,Up rk (Xm st) r.1 (r.1+r.2.1)
theorem zbW {xs ys:Array W4}{lo hi:Nat}(u:Up rk xs lo hi)(h:∀j:Nat,lo<=j->j<hi->ys[j]?=xs[j]?):Up rk ys lo hi:=fun i j h1 h2 h3=>by
 rw[JO (h i h1 (by lia)),JO (h j (by lia) h3)];exact u i j h1 h2 h3
theorem zoT {p:List (Nat×Nat×Nat)}{i:Nat}(h:i+1<p.length):∃l1 r1 r2 l2,p=l1++r1::r2::l2/\l1.length=i/\p[i]?=some r1/\p[i+1]?=some r2:=by
 refine⟨p.take i,p[i],p[i+1],p.drop (i+2),?_,by rw[XE];lia,X7 (by lia),X7 h⟩;rw[<- WB h,<- WB (by lia),Wx]
theorem zfU {st:WJ}{lo i:Nat}{Q:Bool->WJ->Prop}(T:Tells prog w A s κ rk a0)(P:PI rk κ a0 lo st)(hi:i+1<(WI st).size)(hlo:lo<=a0.size)
  (h:∀st',PI rk κ a0 lo st'->(WI st').size+1=(WI st).size->(∀j:Nat,lo<=j->(Xm st')[j]?=(Xm st)[j]?)->Q true st'):wpS (Xh prog w) A E s (mergeAt' i) Q st:=by
 obtain⟨l1,⟨sa,na,p1⟩,⟨sb,nb,p2⟩,l2,ep,el,e1,e2⟩:=zoT (p:=(WI st).toList) (i:=i) (by rw[X4];exact hi);have til:=P.til;rw[ep] at til;obtain⟨m,t1,⟨a1,a2,a3,a4,a5⟩⟩:=yU.mp til;dsimp only at a1 a2 a3 a4 a5;subst a1;subst a3;rw[Xx] at e1 e2;have u1:=P.up (sa,na,p1) (by rw[ep];simp);have u2:=P.up (sa+na,nb,p2) (by rw[ep];simp);dsimp only at u1 u2;obtain⟨b1,b2,b3⟩:=YC a5;obtain⟨c1,c2,c3⟩:=YC t1;refine zjm T P.ok e1 e2 a2 a4 (by lia) u1 u2 fun st' O' ep' up' out'=>?_;have el':(WI st').toList=l1++(sa,na+nb,p1)::l2:=by
  rw[ep',Array.toList_eraseIdxIfInBounds,Ro,ep,<- el];rw[List.set_append_right _ _ (XW _),SK,List.set_cons_zero,List.eraseIdx_append_of_length_le (by lia),show l1.length+1-l1.length=1 by lia];rfl
 refine h st' ⟨O',?_,fun r hr=>?_⟩ ?_ fun j hj=>out' j (by lia)
 ·rw[el'];exact yU.mpr ⟨sa,t1,rfl,by show 1<=na+nb;lia,by rw[show sa+(na+nb)=sa+na+nb by lia];exact a5⟩
 ·rw[el'] at hr;rcases XG.mp hr with hr | hr
  ·have:=c3 r hr;exact zbW (P.up r (by rw[ep];exact WZ _ hr)) fun j h1 h2=>out' j (by lia)
  ·rcases XJ.mp hr with rfl | hr
   ·show Up rk (Xm st') sa (sa+(na+nb));rw[show sa+(na+nb)=sa+na+nb by lia];exact up'
   ·have:=b3 r hr;exact zbW (P.up r (by rw[ep];simp[hr])) fun j h1 h2=>out' j (by lia)
 ·rw[<- X4,el',<- X4,ep];simp only[XU,Xs];lia
theorem PI.step {lo lo':Nat}{st st':WJ}(P:PI rk κ a0 lo st)(S:Step κ a0 lo' st st')(h:lo<=lo'):PI rk κ a0 lo st':=by
 refine⟨S.ok,by rw[S.pend];exact P.til,fun r hr=>?_⟩;rw[S.pend] at hr;have:=(YC P.til).2.2 r hr;exact zbW (P.up r hr) fun j h1 h2=>S.low j (by lia)
theorem zbs (pw:Nat):∀{l:List (Nat×Nat×Nat)} {k s e:Nat},Qt l s e->Qt (l.modify k fun r=>(r.1,r.2.1,pw)) s e
 | [],k,s,e,h=>by
  cases k<;>exact h
 | r::l,0,s,e,⟨h1,h2,h3⟩=>⟨h1,h2,h3⟩
 | r::l,k+1,s,e,⟨h1,h2,h3⟩=>⟨h1,h2,zbs pw h3⟩
theorem zdT {pw:Nat}:∀{l:List (Nat×Nat×Nat)} {k:Nat} {r:Nat×Nat×Nat},r∈l.modify k (fun r=>(r.1,r.2.1,pw))->∃q∈l,q.1=r.1/\q.2.1=r.2.1
 | [],k,r,h=>by
  cases k<;>cases h
 | q::l,0,r,h=>by
  rcases XJ.mp h with rfl | h
  ·exact⟨q,XS,rfl,rfl⟩
  ·exact⟨r,XT _ h,rfl,rfl⟩
 | q::l,k+1,r,h=>by
  rcases XJ.mp h with rfl | h
  ·exact⟨r,XS,rfl,rfl⟩
  ·obtain⟨q',h1,h2⟩:=zdT h;exact⟨q',XT _ h1,h2⟩
theorem ite_le (c:Prop) [Decidable c](n:Nat):(if c then n-1 else n)<=n:=by
 split<;>lia
theorem zoU {st:WJ}{Q:Unit->WJ->Prop}(T:Tells prog w A s κ rk a0)(O:Ok κ a0 st)(hp:WI st=#[])(h:∀st',Ok κ a0 st'->Up rk (Xm st') 0 a0.size->Q () st'):wpS (Xh prog w) A E s sortRuns' Q st:=by
 rw[sortRuns'_eq];refine XH (R4 ?_);dsimp only;rw[O.size];generalize minRun' a0.size a0.size 0=mr;refine XH (Us (V1 (I:=fun x c st'=>∃lo,c=(none,lo)/\PI rk κ a0 lo st'/\lo<=a0.size/\x<=lo)
  (Q:=fun c st'=>c=(none,a0.size)/\PI rk κ a0 a0.size st') ?step ?fin ⟨0,rfl,⟨O,by rw[hp];rfl,fun r hr=>by rw[hp] at hr;cases hr⟩,W5 _,XW _⟩) ?post)
 case fin =>
  rintro c st' ⟨lo,rfl,P,h1,h2⟩
  obtain rfl:lo=a0.size:=by lia
  exact⟨rfl,P⟩
 case step =>
  rintro x c st1 _ hx ⟨lo,rfl,P,h1,h2⟩
  dsimp only
  refine qq (fun hge=>?_) fun hge=>?_
  ·obtain rfl:lo=a0.size:=by lia
   exact Xp ⟨rfl,P⟩
  refine XH (zqh T P.ok (by lia) (by lia) fun m st2 S m1 m2 hu=>?_)
  dsimp only
  have P2:=P.step S (XW _)
  refine qq (fun hmr=>?_) fun hmr=>?_
  refine XH (PV (UB ⟨rfl,?_⟩))
  refine XH (zqi T S.ok (by lia) (by lia) hu fun st3 S3 hu3=>?_)
  rw[if_neg (by decide)]
  have P3:=P2.step S3 (XW _)
  have n1:1<=min (a0.size-lo) mr:=by lia
  have n2:lo+min (a0.size-lo) mr<=a0.size:=by lia
  clear P2 S3
  generalize min (a0.size-lo) mr=n at hu3 n1 n2 ⊢
  rotate_left
  have P3:=P2
  have hu3:=hu
  have n1:=m1
  have n2:lo+m<=a0.size:=by lia
  clear P2
  generalize m=n at hu3 n1 n2 ⊢
  generalize st2=st3 at P3 hu3 ⊢
  rotate_left
  all_goals
   refine XH (R4 ?_)
   have fin:∀st4,PI rk κ a0 lo st4->Up rk (Xm st4) lo (lo+n)->PI rk κ a0 (lo+n) (setPending st4 ((WI st4).push (lo,n,0))):=fun st4 P4 u4=>by
    refine⟨⟨P4.ok.perm,P4.ok.kind,P4.ok.good⟩,?_,fun r hr=>?_⟩
    ·show Qt ((WI st4).push (lo,n,0)).toList 0 (lo+n);rw[Sq];exact yU.mpr ⟨lo,P4.til,rfl,n1,rfl⟩
    ·have hr':r∈((WI st4).push (lo,n,0)).toList:=hr;rw[Sq] at hr';rcases XG.mp hr' with hr' | hr'
     ·exact P4.up r hr'
     ·have er:r=(lo,n,0):=by simpa using hr'
      subst er;exact u4
   cases hbk:(WI st3).back? with
   | none =>
    dsimp only;exact XH (S6 (Xp ⟨lo+n,rfl,fin st3 P3 hu3,n2,by lia⟩))
   | some r =>
    obtain⟨s1,k1,q1⟩:=r;dsimp only;generalize power' a0.size (2*s1+k1) (2*s1+k1+k1+n) a0.size=pw;refine XH (Us (V1 (I:=fun _ c st4=>c=(none,())/\PI rk κ a0 lo st4/\Up rk (Xm st4) lo (lo+n)) (Q:=fun c st4=>c=(none,())/\PI rk κ a0 lo st4/\Up rk (Xm st4) lo (lo+n)) ?_ (fun _ _ hh=>hh) ⟨rfl,P3,hu3⟩) ?_)
    ·rintro y c st4 _ _ ⟨rfl,P4,u4⟩;refine XH (R4 ?_);by_cases hz:(WI st4).size>1
     ·rw[if_pos hz,getElem?_pos (WI st4) ((WI st4).size-2) (by lia)];generalize (WI st4)[(WI st4).size-2]'(by lia)=r2;obtain⟨r2a,r2b,r2c⟩:=r2;dsimp only;refine qq (fun _=>Xp ⟨rfl,P4,u4⟩) fun _=>?_;refine XH (zfU T P4 (by lia) h1 fun st5 P5 _ zrd=>?_);rw[if_neg (by decide)];exact Xp ⟨rfl,P5,zbW u4 fun j j1 _=>zrd j j1⟩
     ·rw[if_neg hz];exact Xp ⟨rfl,P4,u4⟩
    ·rintro c st4 ⟨rfl,P4,u4⟩;dsimp only;refine XH (S6 (XH (S6 (Xp ⟨lo+n,rfl,fin _ ⟨⟨P4.ok.perm,P4.ok.kind,P4.ok.good⟩,?_,fun r hr=>?_⟩ u4,n2,by lia⟩))))
     ·show Qt ((WI st4).modify ((WI st4).size-1) fun r=>(r.1,r.2.1,pw)).toList 0 lo;rw[Om];exact zbs pw P4.til
     ·have hr':r∈((WI st4).modify ((WI st4).size-1) fun r=>(r.1,r.2.1,pw)).toList:=hr;rw[Om] at hr';obtain⟨q,hq,e1,e2⟩:=zdT hr';have:=P4.up q hq;rw[e1,e2] at this;exact this
 case post =>
  rintro c st1 ⟨rfl,P⟩
  dsimp only
  have len0:=(YC P.til).2.1
  rw[X4] at len0
  refine XH (Us (V1 (I:=fun x c st2=>c=(none,())/\PI rk κ a0 a0.size st2/\((WI st2).size+x<=a0.size\/(WI st2).size<=1)) (Q:=fun c st2=>c=(none,())/\PI rk κ a0 a0.size st2/\(WI st2).size<=1) ?step2 ?fin2 ⟨rfl,P,.inl (by lia)⟩) ?post2)
  case fin2 =>
   rintro c st2 ⟨rfl,P2,hz⟩
   exact⟨rfl,P2,by lia⟩
  case step2 =>
   rintro x c st2 _ hx ⟨rfl,P2,hz⟩
   refine XH (R4 ?_)
   refine qq (fun h1=>Xp ⟨rfl,P2,h1⟩) fun h1=>?_
   refine XH (zfU T P2 ?_ (XW _) fun st3 P3 z3 _=>?_)
   ·exact XF (OC (ite_le _ _) 1) (show (WI st2).size-2+1<(WI st2).size by lia)
   ·rw[if_neg (by decide)];exact Xp ⟨rfl,P3,by lia⟩
  case post2 =>
   rintro c st2 ⟨rfl,P2,hz⟩
   dsimp only
   refine Xp (h st2 P2.ok ?_)
   have til:=P2.til
   have up:=P2.up
   have zl:(WI st2).toList.length<=1:=by rw[X4];exact hz
   cases hl:(WI st2).toList with
   | nil =>
    rw[hl] at til;have e:0=a0.size:=til;exact fun i j _ _ h3=>absurd h3 (by lia)
   | cons r l =>
    rw[hl] at til zl up;obtain rfl:l=[]:=Ul.mp (by rw[Xs] at zl;lia);obtain⟨t1,t2,t3⟩:=til;have t3':0+r.2.1=a0.size:=t3;have u:=up r XS;rw[t1,t3'] at u;exact u
end
end GS
namespace GS
structure Wk {K:Type}(lt:K->K->Bool):Prop where
 tot:∀x y,lt x y=true->lt y x=false
 tr:∀x y z,lt y x=false->lt z y=false->lt z x=false
def rkK {K:Type}(lt:K->K->Bool)(ks:List K)(k:K):Int:=((ks.countP fun q=>lt q k:Nat):Int)
theorem count_le {K:Type}{p q:K->Bool}:∀{ks:List K},(∀x∈ks,p x=true->q x=true)->ks.countP p<=ks.countP q
 | [],_=>XW _
 | x::ks,h=>by
  have ih:=count_le (ks:=ks) fun y hy=>h y (XT _ hy);rw[WT,WT];have hx:=h x XS;by_cases c:p x=true
  ·rw[if_pos c,if_pos (hx c)];lia
  ·rw[if_neg c];lia
theorem zkT {K:Type}{p q:K->Bool}{ks:List K}(h:∀x∈ks,p x=true->q x=true)(hq:∃x∈ks,p x=false/\q x=true):ks.countP p<ks.countP q:=by
 obtain⟨y,hy,h1,h2⟩:=hq;induction ks with
 | nil=>cases hy
 | cons x ks ih =>
  rw[WT,WT];have hx:=h x XS;rcases XJ.mp hy with rfl | hy
  ·have ih:=count_le (ks:=ks) fun y hy=>h y (XT _ hy);rw[h1,h2,if_neg XX,if_pos rfl];lia
  ·have ih:=ih (fun y hy=>h y (XT _ hy)) hy;by_cases c:p x=true
   ·rw[if_pos c,if_pos (hx c)];lia
   ·rw[if_neg c];lia
theorem Wk.rank {K:Type}{lt:K->K->Bool}(W:Wk lt){ks:List K}{x y:K}(hx:x∈ks):lt x y=decide (rkK lt ks x<rkK lt ks y):=by
 unfold rkK;cases h:lt x y with
 | true =>
  refine(decide_eq_true ?_).symm;have:=zkT (ks:=ks) (p:=fun q=>lt q x) (q:=fun q=>lt q y) (fun q _ hq=>?_) ⟨x,hx,?_,h⟩
  ·lia
  ·cases hc:lt q y with
   | true=>rfl
   | false =>
    have:=W.tr x y q (W.tot x y h) hc;have hq':lt q x=true:=hq;rw[this] at hq';cases hq'
  ·cases hc:lt x x with
   | false=>rfl
   | true=>exact hc.symm.trans (W.tot x x hc)
 | false =>
  refine(decide_eq_false ?_).symm;have:=count_le (ks:=ks) (p:=fun q=>lt q y) (q:=fun q=>lt q x) fun q _ hq=>by
   cases hc:lt q x with
   | true=>rfl
   | false =>
    have:=W.tr y x q h hc;have hq':lt q y=true:=hq;rw[this] at hq';cases hq'
  lia
section
variable {prog:Xd}{w:WP}{A:WK}{E:X9->X8->Prop}{s:X8}
theorem za5 {a:Addr}{vs:List X9}{n:Nat}{P:PySem.Fin->X8->Prop}(ho:s.heap.get? a=some (U2 "list" vs.toArray n))(hz:vs.length<=Xz)(r:X9->Int)
  (hk:2<=vs.length->∀s':X8,(∀b o,b≠a->s.heap.get? b=some o->s'.heap.get? b=some o)->Xg (Xh prog w) A (keyKind' vs.toArray) (fun κ s2=>s2=s'/\Tells prog w A s' κ (fun p=>r p.1) (Oq vs)) (fun _ _=>False) s')
  (h:∀(ws:List X9) (h':Heap) (c:Nat),ws.Perm vs->ws.Pairwise (fun x y=>r x<=r y)->(∀b o,b≠a->s.heap.get? b=some o->h'.get? b=some o)->h'.get? a=some (U2 "list" ws.toArray c)->P (.done (.ret .none)) { s with heap:=h' }) :
  Xg (Xh prog w) A (Vc.«list.sort» ⟨[.ref a],[]⟩) P E s:=by
 have lta:a<s.heap.objs.size:=XO ho;have hu1:=get?_update_seq ho fun _=>(#[]:Array X9);generalize hX:s.heap.update a (U8 fun _=>(#[]:Array X9))=X1 at hu1;have zX:X1.objs.size=s.heap.objs.size:=by rw[<- hX,Heap.size_update]
 have kX:∀b o,b≠a->s.heap.get? b=some o->X1.get? b=some o:=fun b o hb e=>by
  rw[<- hX,RI _ _ _ _ hb];exact e
 obtain⟨e1,hu⟩:∃e1,X1.get? a=some (U2 "list" #[] e1):=⟨_,hu1⟩;generalize hY:(X1.push (U2 "tuple" vs.toArray 0)).push (U2 "list" #[] 0)=Y;have hYa:Y.get? a=some (U2 "list" #[] e1):=by
  rw[<- hY];exact XZ _ (XZ _ hu)
 have kY:∀b o,b≠a->s.heap.get? b=some o->Y.get? b=some o:=fun b o hb e=>by
  rw[<- hY];exact XZ _ (XZ _ (kX b o hb e))
 have last:∀(st:WJ),(((Xm st).map (·.2)).toList.Perm vs)->(((Xm st).map (·.2)).toList.Pairwise fun x y=>r x<=r y)->SO st=none ->
   Xg (Xh prog w) A (do
    let touched:=(<- seqEpoch a) != e1
    Builtin.List.listUpdate (.ref a) fun _=>(Xm st).map (·.2)
    if let some e:=SO st then rule "list.sort.comparison-raised";throw e
    if touched then rule "list.sort.modified";raiseError "ValueError" "list modified during sort"
    ret .none) P E { s with heap:=Y }:=by
  intro st hp hs hf;generalize ew:(Xm st).map (·.2)=wsA at hp hs;rw[hf];have hlen:wsA.size=vs.length:=by rw[<- X4,hp.length_eq]
  have hu2:=get?_update_seq hYa fun _=>wsA;refine ZB (seqEpoch_at hYa rfl (ZB (listUpdate_at hYa rfl ?_ (W5 _) (by rw[hlen];lia))));simp only[bne_self_eq_false,WG,if_false];refine X6 (h wsA.toList _ _ hp hs (fun b o hb e=>?_) hu2);rw[RI _ _ _ _ hb];exact kY b o hb e
 rw[list_sort_plain];refine ZB (listItems_at ho rfl (ZB (listUpdate_at ho rfl ?_ (by rw[Xo];exact hz) (W5 _))));rw[hX];refine ZB (seqEpoch_at hu rfl (ZB (wpAny_newTuple (ZB (P8 ?_ (W5 _))) hz)));show Xg (Xh prog w) A _ P E { s with heap:=(X1.push (U2 "tuple" vs.toArray 0)).push (U2 "list" #[] 0) };rw[hY];refine Wd ?_;dsimp only;have e2:((Oq vs).map (·.2)).toList=vs:=by
  rw[UX,Vg];exact PB (XW _)
 by_cases c2:vs.toArray.size<2
 ·have c2':vs.length<2:=by rw[Xo] at c2;exact c2
  rw[if_pos c2,if_pos c2];refine ZB (X6 ?_);rw[StateT.run_pure];refine ZB (X6 ?_);refine last (SortSt.mk' general' (Oq vs) #[] 7 none) (by show ((Oq vs).map (·.2)).toList.Perm vs;rw[e2]) (by
   show ((Oq vs).map (·.2)).toList.Pairwise _;rw[e2,Vp];intro i j hi hj hij;lia) rfl
 ·have c2':2<=vs.length:=by rw[Xo] at c2;lia
  rw[if_neg c2,if_neg c2];refine ZB (Wn (hk c2' { s with heap:=Y } kY) (fun κ s2 ⟨e3,T⟩=>?_) fun _ _ x=>x.elim);subst e3;have run:=zoU (E:=E) (st:=SortSt.mk' κ (Oq vs) #[] 7 none) (Q:=fun _ st'=>(((Xm st').map (·.2)).toList.Perm vs)/\(((Xm st').map (·.2)).toList.Pairwise fun x y=>r x<=r y)/\SO st'=none) T ⟨Array.Perm.refl _,rfl,rfl⟩ rfl fun st' O hu=>?_
  ·unfold wpS at run;refine ZB (Wn run ?_ fun _ _ z=>z);rintro⟨⟨⟩,st'⟩ s' ⟨rfl,hp,hs,hf⟩;exact last st' hp hs hf
  ·have pm:=UT.mp O.perm;have same:∀p∈(Xm st').toList,p.1=p.2:=fun p hp=>by
    have:=pm.mem_iff.mp hp;rw[Vg] at this;exact(TD this).1
   refine⟨?_,?_,O.good⟩
   ·have:=pm.map (·.2);rw[UX];rw[Vg,PB (XW _)] at this;exact this
   ·rw[UX,Wo,Vp];intro i j hi hj hij;have zs:=O.size;rw[X4] at hi hj;have u:=xr hu (i:=i) (j:=j) (W5 _) (by lia) (by lia) (getElem?_pos _ i hi) (getElem?_pos _ j hj);have s1:=same (Xm st')[i] (by simp);have s2:=same (Xm st')[j] (by simp);rw[UD,UD,<- s1,<- s2];exact u
theorem zjn {l:Addr}{vs:List X9}{Q:X9->X8->Prop}(hl:s.heap.IsList l vs.toArray)(hz:vs.length<=Xz)(r:X9->Int)
  (hk:2<=vs.length->∀s':X8,(∀b o,s.heap.get? b=some o->s'.heap.get? b=some o)->Xg (Xh prog w) A.in1.in1 (keyKind' vs.toArray) (fun κ s2=>s2=s'/\Tells prog w A.in1.in1 s' κ (fun p=>r p.1) (Oq vs)) (fun _ _=>False) s')
  (h:∀(ws:List X9) (h':Heap) (c:Nat),ws.Perm vs->ws.Pairwise (fun x y=>r x<=r y)->(∀b o,s.heap.get? b=some o->h'.get? b=some o)->h'.get? (s.heap.objs.size+1)=some (U2 "list" ws.toArray c)->Q (.ref (s.heap.objs.size+1)) { s with heap:=h' }) :
  Xg (Xh prog w) A (call (.builtin "sorted") [.ref l]) Q E s:=by
 generalize hX:(s.heap.push (U2 "list" #[] 0)).update s.heap.objs.size (U8 (·++vs.toArray))=X1;have zX:X1.objs.size=s.heap.objs.size+1:=by rw[<- hX,Heap.size_update,Vi]
 have kX:∀b o,s.heap.get? b=some o->X1.get? b=some o:=fun b o e=>by
  have lt:=XO e;rw[<- hX,RI _ _ _ _ (Xk lt)];exact XZ _ e
 apply Tx NM NZ NY (NX _);unfold Vc.«sorted»;refine ZB (m:=checkCount "sorted" 1 1 _) (X6 (ZB (collect_list hl ?_ hz)));rw[hX];refine ZB (P8 ?_ hz);show Xg _ _ _ _ _ { s with heap:=X1.push (U2 "list" vs.toArray 0) };have hoL:(X1.push (U2 "list" vs.toArray 0)).get? (s.heap.objs.size+1)=some (U2 "list" vs.toArray 0):=by
  rw[<- zX];exact Xl _ rfl
 have kL:∀b o,s.heap.get? b=some o->(X1.push (U2 "list" vs.toArray 0)).get? b=some o:=fun b o e=>XZ _ (kX b o e);have ne:∀b o,s.heap.get? b=some o->b≠s.heap.objs.size+1:=fun b o e=>Xk (WF (XO e));rw[zX];refine ZB (Wd (V9 OH ⟨_,hoL,rfl⟩ O5 (za5 (s:={ s with heap:=X1.push (U2 "list" vs.toArray 0) }) hoL hz r (fun c s' k=>hk c s' fun b o e=>k b o (ne b o e) (kL b o e)) ?_) (OG _)));intro ws h' c hp hs kk ha;exact⟨_,rfl,X6 ⟨_,rfl,h ws h' c hp hs (fun b o e=>kk b o (ne b o e) (kL b o e)) ha⟩⟩
end
theorem zcr {α β:Type}{R:α->β->Prop}{xs:List α}{ys:List β}(hp:WV R xs ys):(∀p∈xs.zip ys,R p.1 p.2)/\(xs.zip ys).map (·.1)=xs/\(xs.zip ys).map (·.2)=ys:=by
 induction hp with
 | nil=>exact⟨(fun p h=>nomatch h),rfl,rfl⟩
 | cons h _ ih =>
  obtain⟨a,b,c⟩:=ih;refine⟨fun p hp=>?_,by rw[List.zip_cons_cons,Xf,b],by rw[List.zip_cons_cons,Xf,c]⟩;rcases XJ.mp hp with rfl | hp
  ·exact h
  ·exact a p hp
theorem zdU {α β:Type}{R:α->β->Prop}:∀{zs:List (α × β)},(∀p∈zs,R p.1 p.2)->WV R (zs.map (·.1)) (zs.map (·.2))
 | [],_=>.nil
 | p::zs,h=>.cons (h p XS) (zdU fun q hq=>h q (XT _ hq))
end GS
namespace GS
theorem yG {α β:Type}{R:α->β->Prop}:∀{xs:List α} {ys:List β},WV R xs ys->∀x∈xs,∃y∈ys,R x y
 | _,_,.nil,x,h=>nomatch h
 | _,_,.cons h t,x,hx=>by
  rcases XJ.mp hx with rfl | hx
  ·exact⟨_,XS,h⟩
  ·obtain⟨y,h1,h2⟩:=yG t x hx;exact⟨y,XT _ h1,h2⟩
def Tri {K:Type}(RV:V->K->Prop)(RH:X9->K->Prop)(t:V×X9×K):Prop:=RelV t.1 t.2.1/\RV t.1 t.2.2/\RH t.2.1 t.2.2
theorem zoV {K:Type}{RV:V->K->Prop}{RH:X9->K->Prop}{us:List V}{its:List X9}{ks:List K}(h1:Vals us its):WV RV us ks->WV RH its ks->∃T:List (V×X9×K),(∀t∈T,Tri RV RH t)/\T.map (·.1)=us/\T.map (·.2.1)=its/\T.map (·.2.2)=ks:=by
 induction h1 generalizing ks with
 | nil =>
  intro h2 h3;cases h2;exact⟨[],(fun t h=>nomatch h),rfl,rfl,rfl⟩
 | @cons u i us its r1 t1 ih =>
  intro h2 h3;cases h2 with
  | @cons _ k _ ks r2 t2 =>
   cases h3 with
   | cons r3 t3 =>
    obtain⟨T,h1,h2,h3,h4⟩:=ih t2 t3;refine⟨(u,i,k)::T,fun t ht=>?_,by rw[Xf,h2],by rw[Xf,h3],by rw[Xf,h4]⟩;rcases XJ.mp ht with rfl | ht
    ·exact⟨r1,r2,r3⟩
    ·exact h1 t ht
theorem zfV {K:Type}{RV:V->K->Prop}{RH:X9->K->Prop}:∀{T:List (V×X9×K)},(∀t∈T,Tri RV RH t)->Vals (T.map (·.1)) (T.map (·.2.1))/\WV RV (T.map (·.1)) (T.map (·.2.2))
 | [],_=>⟨.nil,.nil⟩
 | t::T,h=>by
  obtain⟨h1,h2⟩:=zfV fun x hx=>h x (XT _ hx);obtain⟨a,b,c⟩:=h t XS;exact⟨.cons a h1,.cons b h2⟩
section
variable {X:Cx}{pins:List (Addr×Obj)}{σ:St}{H:Hp}{s:X8}{K:Type}
theorem zjo {lt:K->K->Bool}(W:Wk lt){RV:V->K->Prop}{RH:Heap->X9->K->Prop}(fn:∀h v k k',RH h v k->RH h v k'->k=k')(kp:∀h h' v k,(∀b o,h.get? b=some o->h'.get? b=some o)->RH h v k->RH h' v k)
  {l:Addr} {us:List V} {its:List X9} {ks:List K} {Q:VK} (I:Inv X pins σ H s) (hl:s.heap.IsList l its.toArray) (hz:us.length<=1000000) (rv:Vals us its) (hv:WV RV us ks) (hp:WV (RH s.heap) its ks)
  (kind:∀s':X8,WV (RH s'.heap) its ks->2<=its.length->Xg (Xh X.prog X.w) X.A.in1.in1 (keyKind' its.toArray) (fun κ s2=>s2=s'/\∀v v' k k',RH s'.heap v k->RH s'.heap v' k'->∀C:Bool->X8->Prop,C (lt k k') s'->Xg (Xh X.prog X.w) X.A.in1.in1 (keyLt' κ v v') C (fun _ _=>False) s') (fun _ _=>False) s')
  (q:∀d us' ks',H d=none->WV RV us' ks'->ks'.Perm ks->ks'.Pairwise (fun x y=>lt y x=false)->(us'.Perm us)->Q (.ref d) (upd H d (.lst us'))) :
  Xg (Xh X.prog X.w) X.A (call (.builtin "sorted") [.ref l]) (EP X pins σ Q) X.xe s:=by
 classical
 have hil:=rv.length;obtain⟨T,hT,e1,e2,e3⟩:=zoV rv hv hp;let r:X9->Int:=fun v=>if h:∃k,RH s.heap v k then rkK lt ks h.choose else 0
 have rk_:∀{v:X9} {k:K},RH s.heap v k->r v=rkK lt ks k:=fun {v k} h=>by
  have hx:∃k,RH s.heap v k:=⟨k,h⟩;show (if h:∃k,RH s.heap v k then rkK lt ks h.choose else 0)=_;rw[dif_pos hx,fn _ _ _ _ hx.choose_spec h]
 have z1:its.length<=Xz:=by
  rw[<- hil,TV];lia
 refine zjn (vs:=its) hl z1 r (fun h2 s' kk=>?_) fun ws h' c hpm hs kk ha=>?_
 ·have hp':WV (RH s'.heap) its ks:=by
   obtain⟨a,b,c⟩:=zcr hp;have:=zdU (R:=RH s'.heap) (zs:=its.zip ks) fun p hp=>kp _ _ _ _ kk (a p hp);rw[b,c] at this;exact this
  refine Wn (kind s' hp' h2) (fun κ s2 ⟨e,hc⟩=>⟨e,fun x hx y hy C hC=>?_⟩) fun _ _ z=>z;have mx:x.1∈its:=by
   rw[Vg] at hx;exact(TD hx).2
  have my:y.1∈its:=by
   rw[Vg] at hy;exact(TD hy).2
  obtain⟨k,k1,k2⟩:=yG hp x.1 mx;obtain⟨k',k1',k2'⟩:=yG hp y.1 my;refine hc x.1 y.1 k k' (kp _ _ _ _ kk k2) (kp _ _ _ _ kk k2') C ?_;have hC':C (decide (r x.1<r y.1)) s':=hC;rw[rk_ k2,rk_ k2',<- W.rank k1] at hC';exact hC'
 ·obtain⟨T',hT',eT⟩:=ST.zao (fun t:V×X9×K=>t.2.1) hpm T e2.symm;have hTr:∀t∈T',Tri RV (RH s.heap) t:=fun t ht=>hT t (hT'.mem_iff.mp ht);obtain⟨rv',hv'⟩:=zfV hTr;rw[<- eT] at rv';have hD:H (s.heap.objs.size+1)=none:=I.hok.fresh (VU _);refine⟨.ref (s.heap.objs.size+1),upd H (s.heap.objs.size+1) (.lst (T'.map (·.1))),I.laid (t':=s.toks) kk (VU _) ⟨?_,ws,c,rv',ha⟩,rfl,q _ _ _ hD hv' (by rw[<- e3];exact hT'.map _) ?_ (by rw[<- e1];exact hT'.map _)⟩
  ·rw[rv'.length,hpm.length_eq];exact z1
  ·rw[eT,Wo] at hs;rw[Wo];refine hs.imp_of_mem fun {x y} hx hy h=>?_;obtain⟨_,_,h1⟩:=hTr x hx;obtain⟨_,_,h2⟩:=hTr y hy;rw[rk_ h1,rk_ h2] at h;have my:y.2.2∈ks:=by
    rw[<- e3];exact XC.mpr ⟨y,hT'.mem_iff.mp hy,rfl⟩
   rw[W.rank my];exact decide_eq_false (by lia)
end
theorem zkU:Wk lt2:=by
 refine⟨fun x y h=>?_,fun x y z h1 h2=>?_⟩
 ·cases e:lt2 y x with
  | false=>rfl
  | true =>
   have:=zg1 h e;rw[zib] at this;cases this
 ·cases e:lt2 z x with
  | false=>rfl
  | true =>
   by_cases exy:x=y
   ·subst exy;rw[e] at h2;exact h2
   ·have h3:lt2 x y=true:=by
     have:=zbS (p:=x) (q:=y) exy;rw[h1] at this;cases hh:lt2 x y with
     | true=>rfl
     | false =>
      rw[hh] at this;cases this
    have:=zg1 e h3;rw[this] at h2;exact h2
theorem zeY {h:Heap}{v:X9}{p q:Int×Int}(h1:zw h v p)(h2:zw h v q):p=q:=by
 obtain⟨a,o,n,t,u,e,e1,c1,d1⟩:=h1;obtain⟨a',o',n',t',u',e',e1',c1',d1'⟩:=h2;subst e;cases e';rw[e1] at e1';cases e1';rw[d1] at d1';obtain⟨p1,p2⟩:=p;obtain⟨q1,q2⟩:=q;injection d1' with d1' _
 have e2:[Vu p1 t,Vu p2 u]=[Vu q1 t',Vu q2 u']:=congrArg Array.toList d1';injection e2 with e3 e4
 injection e4 with e4 _
 injection e3 with e3 _
 injection e4 with e4 _
 rw[e3,e4]
section
variable {X:Cx}
end
end GS
end L2
namespace PySem.SeqAt
open L2 AutoSeq1 MeetsSeq MeetsSeq2 MeetsSeq3
end PySem.SeqAt
namespace L2
open PySem PySem.Spec PyProof.Rows PySem.W PySem.SeqAt
section
variable {X:Cx}
end
end L2
namespace PySem.SeqAt
open L2 AutoSeq1 MeetsSeq MeetsSeq2 MeetsSeq3
def ltL:List (Int×Int)->List (Int×Int)->Bool
 | _,[]=>false
 | [],_::_=>true
 | p::r,q::t=>if p=q then ltL r t else lt2 p q
theorem zeZ (ps:List (Int×Int)):ltL ps []=false:=by cases ps<;>rfl
theorem zin:∀ps:List (Int×Int),ltL ps ps=false
 | []=>rfl
 | p::r=>by
  unfold ltL;rw[if_pos rfl];exact zin r
theorem zio:∀{ps qs:List (Int×Int)},ps≠qs->ltL qs ps=!ltL ps qs
 | [],[],h=>absurd rfl h
 | [],q::t,_=>rfl
 | p::r,[],_=>rfl
 | p::r,q::t,h=>by
  unfold ltL;by_cases e:p=q
  ·subst e;rw[if_pos rfl,if_pos rfl];exact zio fun z=>h (by rw[z])
  ·rw[if_neg e,if_neg (US e)];exact zbS e
theorem zha:∀{ps qs ss:List (Int×Int)},ltL ps qs=true->ltL qs ss=true->ltL ps ss=true
 | ps,[],_,h,_=>by
  rw[zeZ] at h;cases h
 | _,_::_,[],_,h=>by
  rw[zeZ] at h;cases h
 | [],_::_,_::_,_,_=>rfl
 | p::r,q::t,x::y,h1,h2=>by
  unfold ltL at *
  by_cases e1:p=q
  ·subst e1;rw[if_pos rfl] at h1;by_cases e2:p=x
   ·rw[if_pos e2] at h2 ⊢;exact zha h1 h2
   ·rw[if_neg e2] at h2 ⊢;exact h2
  ·rw[if_neg e1] at h1;by_cases e2:q=x
   ·subst e2;rw[if_neg e1];exact h1
   ·rw[if_neg e2] at h2;have h3:=zg1 h1 h2;rw[if_neg]
    ·exact h3
    ·intro e;subst e;rw[zib] at h3;cases h3
theorem zhb {A:WK}{s:X8}{v v':X9}{p q:Int×Int}(h1:zw s.heap v p)(h2:zw s.heap v' q)(hu:A.units+10<U1):EqAt A s v v' (decide (p=q)):=by
 obtain⟨as,ra⟩:=Qs h1;obtain⟨bs,rb⟩:=Qs h2;have:=eqAt_reads _ _ A s _ _ as bs ra rb rfl rfl (by show A.units+min 1 1<U1;lia);rw[zdK] at this;exact this
theorem Zt {h:Heap}{xs:Array X9}{ps:List (Int×Int)}(hp:WV (zw h) xs.toList ps){i:Nat}(hi:i<xs.size):∃p r,ps.drop i=p::r/\ps.drop (i+1)=r/\zw h xs[i] p:=by
 have hl:xs.toList.length=ps.length:=Paired.length hp;rw[X4] at hl;have h2:i<ps.length:=by lia
 obtain⟨a,b,c⟩:=GS.zcr hp;refine⟨ps[i],ps.drop (i+1),WB h2,rfl,?_⟩;have hz:i<(xs.toList.zip ps).length:=by
  rw[List.length_zip,X4];lia
 have:=a _ (Tz hz);rw[List.getElem_zip] at this;simpa using this
theorem zjp (l b:Addr)(items items2:Array X9)(n n2:Nat)(dd dd2:Option Addr)(sl sl2:Array (Option X9))(ps qs:List (Int×Int))(k:Nat) :
  ∀i:Nat,items.size-i=k->i<=items.size->i<=items2.size->Meets (Vc.«list.__eq__.loop» ⟨[.ref l,.ref b,UW i,UW 0],[]⟩)
   (fun A R s=>s.heap.get? l=some { cls:=.type "list",dict:=dd,data:=.seq items n,slots:=sl }/\s.heap.get? b=some { cls:=.type "list",dict:=dd2,data:=.seq items2 n2,slots:=sl2 } /\
    WV (zw s.heap) items.toList ps/\WV (zw s.heap) items2.toList qs/\A.units+20<U1 /\
    R (.ok (.ret (.bool (ltL (ps.drop i) (qs.drop i))))) s):=by
 induction k with
 | zero =>
  intro i hk h1 h2 prog w A R s h;obtain⟨hp,g,d,tk,os⟩:=s;obtain⟨hl,hb,hp1,hp2,hu,h⟩:=h;have l1:items.toList.length=ps.length:=Paired.length hp1;have l2:items2.toList.length=qs.length:=Paired.length hp2;rw[X4] at l1 l2;wp_walk using Wb hl,Wb hb;have hi1:items[((i:Nat):Int).toNat]?=none:=by simp;lia
  rw[hi1];have hd:ps.drop i=[]:=by simp;lia
  have e:ltL (ps.drop i) (qs.drop i)=decide (items.size<items2.size):=by
   rw[hd];by_cases hq:i<qs.length
   ·rw[WB hq];exact(decide_eq_true (by lia)).symm
   ·rw[List.drop_of_length_le (by lia)];exact(decide_eq_false (by lia)).symm
  rw[e] at h;wp_walk using Wb hl,Wb hb;exact h
 | succ k ih =>
  intro i hk h1 h2 prog w A R s h;obtain⟨hp,g,d,tk,os⟩:=s;obtain⟨hl,hb,hp1,hp2,hu,h⟩:=h;have l1:items.toList.length=ps.length:=Paired.length hp1;have l2:items2.toList.length=qs.length:=Paired.length hp2;rw[X4] at l1 l2;wp_walk using Wb hl,Wb hb;have hlt:i<items.size:=by lia
  have hi1:items[((i:Nat):Int).toNat]?=some items[i]:=by simp[hlt]
  by_cases hlt2:i<items2.size
  ·have hi2:items2[((i:Nat):Int).toNat]?=some items2[i]:=by simp[hlt2]
   have hc:((i:Int)+1)=((i+1:Nat):Int):=by push_cast;rfl
   obtain⟨p,r,ep,er,rp⟩:=Zt hp1 hlt;obtain⟨q,t,eq,et,rq⟩:=Zt hp2 hlt2;rw[hi1,hi2];refine ZB (zhb rp rq (by show A.units+1+10<U1;lia) prog w _ _ ?_);rw[ep,eq] at h;unfold ltL at h;by_cases e:p=q
   ·rw[if_pos e] at h;rw[decide_eq_true e];wp_walk;rw[hc];exact⟨Uz plain_eq_loop _,VQ entry_eq_loop (by
     rw[V5 plain_eq_loop _];exact ih (i+1) (by lia) (by lia) (by lia) prog w A R _ ⟨hl,hb,hp1,hp2,hu,by rw[er,et];exact h⟩)⟩
   ·rw[if_neg e] at h;rw[decide_eq_false e];simp only[WG,if_false];refine ZB (Rj hl rfl (ZB (Rj hb rfl ?_)));rw[hi1,hi2];exact ZB (QK.pairs rp rq (by show A.units+1<U1;lia) prog w _ _ (X6 h))
  ·have hi2:items2[((i:Nat):Int).toNat]?=none:=by simp;lia
   rw[hi1,hi2];have hd:qs.drop i=[]:=by simp;lia
   rw[hd,zeZ,show false=decide (items.size<items2.size) from (decide_eq_false (by lia)).symm] at h;wp_walk using Wb hl,Wb hb;exact h
theorem zhc (l b:Addr)(items items2:Array X9)(n n2:Nat)(dd dd2:Option Addr)(sl sl2:Array (Option X9))(ps qs:List (Int×Int)) :
  Meets (Vc.«list.__lt__» ⟨[.ref l,.ref b],[]⟩)
   (fun A R s=>s.heap.get? l=some { cls:=.type "list",dict:=dd,data:=.seq items n,slots:=sl }/\s.heap.get? b=some { cls:=.type "list",dict:=dd2,data:=.seq items2 n2,slots:=sl2 } /\
    WV (zw s.heap) items.toList ps/\WV (zw s.heap) items2.toList qs/\A.units+20<U1/\R (.ok (.ret (.bool (ltL ps qs)))) s):=by
 intro prog w A R s h;obtain⟨hp1,g1,d1,tk1,os1⟩:=s;obtain⟨hL,hB,hp,hq,hu,h⟩:=h;have fL:=sub_list_list;wp_walk using Wb hL,Wb hB;exact⟨Uz plain_eq_loop _,VQ entry_eq_loop (by
  rw[V5 plain_eq_loop _];exact zjp l b items items2 n n2 dd dd2 sl sl2 ps qs _ 0 rfl (W5 _) (W5 _) prog w A R _ ⟨hL,hB,hp,hq,hu,by simpa using h⟩)⟩
structure ListPairs (h:Heap)(v:X9)(ps:List (Int×Int)):Prop where
 ex:∃a o xs n,v=.ref a/\h.get? a=some o/\o.cls=.type "list"/\o.data=.seq xs n/\WV (zw h) xs.toList ps
theorem zkV {prog:Xd}{w:WP}{A:WK}{E:X9->X8->Prop}{s:X8}{v v':X9}{ps qs:List (Int×Int)}{C:Bool->X8->Prop}(hv:ListPairs s.heap v ps)(hv':ListPairs s.heap v' qs)(hu:A.units+30<U1)(h:C (ltL ps qs) s) :
  Xg (Xh prog w) A (PyProof.Rows.keyLt' PyProof.Rows.oneType' v v') C E s:=by
 obtain⟨a,⟨cls,dd,data,sl⟩,xs,n,rfl,e1,c1,d1,p1⟩:=hv;obtain⟨a',⟨cls2,dd2,data2,sl2⟩,xs',n',rfl,e1',c1',d1',p1'⟩:=hv';simp only at c1 d1 c1' d1';subst c1 d1 c1' d1';rw[PyProof.Rows.keyLt'_oneType,PyProof.Rows.oneLt'_eq];simp only[if_true];refine ZB (wpAny_cRoomFor (by lia) ?_);refine ZB (wpAny_callSpecialIfBound?_slot (T:="list") ⟨_,e1,rfl⟩ F.slot_list_lt ?_);refine S8 F.slot_list_lt ⟨_,e1,rfl⟩ F.entry_list_lt (F.args_list_lt_2 _ _) (zhc a a' xs xs' n n' dd dd2 sl sl2 ps qs) ⟨e1,e1',p1,p1',(by lia),?_⟩;exact VA h
end PySem.SeqAt
namespace L2
open PySem PySem.Spec PyProof.Rows PySem.W PySem.SeqAt
namespace GS
theorem zoW:Wk ltL:=by
 refine⟨fun x y h=>?_,fun x y z h1 h2=>?_⟩
 ·cases e:ltL y x with
  | false=>rfl
  | true =>
   have:=zha h e;rw[zin] at this;cases this
 ·cases e:ltL z x with
  | false=>rfl
  | true =>
   by_cases exy:x=y
   ·subst exy;rw[e] at h2;exact h2
   ·have h3:ltL x y=true:=by
     have:=zio (ps:=x) (qs:=y) exy;rw[h1] at this;cases hh:ltL x y with
     | true=>rfl
     | false =>
      rw[hh] at this;cases this
    have:=zha e h3;rw[this] at h2;exact h2
def LstAt (H:Hp)(v:V)(ps:List (Int×Int)):Prop:=∃a ws,v=V.ref a/\H a=some (.lst ws)/\yd H ws ps
theorem zjq {h:Heap}{vs:List X9}{ps qs:List (Int×Int)}(hp:WV (zw h) vs ps):WV (zw h) vs qs->ps=qs:=by
 induction hp generalizing qs with
 | nil =>
  intro hq;cases hq;rfl
 | cons a _ ih =>
  intro hq;cases hq with
  | cons b u=>rw[zeY a b,ih u]
theorem zkW {h:Heap}{v:X9}{ps qs:List (Int×Int)}(h1:ListPairs h v ps)(h2:ListPairs h v qs):ps=qs:=by
 obtain⟨a,o,xs,n,e,e1,c1,d1,p1⟩:=h1;obtain⟨a',o',xs',n',e',e1',c1',d1',p1'⟩:=h2;subst e;cases e';rw[e1] at e1';cases e1';rw[d1] at d1';injection d1' with d1' _
 subst d1';exact zjq p1 p1'
theorem JJ {h h':Heap}(k:∀b o,h.get? b=some o->h'.get? b=some o){vs:List X9}{ps:List (Int×Int)}(hp:WV (zw h) vs ps):WV (zw h') vs ps:=by
 induction hp with
 | nil=>exact .nil
 | cons q _ ih =>
  obtain⟨a,o,n,t,u,e,e1,r⟩:=q;exact .cons ⟨a,o,n,t,u,e,k _ _ e1,r⟩ ih
section
variable {X:Cx}{pins:List (Addr×Obj)}{σ:St}{H:Hp}{s:X8}
theorem zhd (I:Inv X pins σ H s){us:List V}{ks:List (List (Int×Int))}{its:List X9}(hp:WV (LstAt H) us ks)(r:Vals us its):WV (ListPairs s.heap) its ks:=by
 induction hp generalizing its with
 | nil =>
  cases r;exact .nil
 | cons q _ ih =>
  obtain⟨a,ws,e,h,ht⟩:=q;subst e;cases r with
  | cons r1 r2 =>
   cases r1;refine .cons ?_ (ih r2);obtain⟨z,its,n,rv,hl,e⟩:=I.lstM h;exact⟨a,_,its.toArray,n,rfl,e,rfl,rfl,by rw[List.toList_toArray];exact yd.pairs I ht rv⟩
end
theorem zhe {h:Heap}{its:List X9}{ks:List (List (Int×Int))}(hp:WV (ListPairs h) its ks):∀v∈its,∃a o,v=WU a/\h.get? a=some o/\o.cls=.type "list":=by
 induction hp with
 | nil=>exact fun v hv=>nomatch hv
 | cons q _ ih =>
  intro v hv;rcases XJ.mp hv with rfl | hv
  ·obtain⟨a,o,xs,n,e,e1,c,_⟩:=q;exact⟨a,o,e,e1,c⟩
  ·exact ih v hv
section
variable {X:Cx}
theorem Qu (hu:X.A.units+64<U1):jT X (.builtin "sorted") (fun xs H Q=>∃l us ks,xs=[.ref l]/\SqL X.K H l us/\WV (LstAt H) us ks/\us.length<=1000000 /\
  ∀d us' ks',H d=none->WV (LstAt H) us' ks'->ks'.Perm ks->ks'.Pairwise (fun p q=>ltL q p=false)->us'.Perm us->Q (.ref d) (upd H d (.lst us'))):=by
 intro pins s σ H xs us' Q I r h;obtain⟨l,us,ks,rfl,hq,ht,hz,q⟩:=h;obtain⟨u,rfl,ru⟩:=vals1 r;cases ru;obtain⟨its,rv,pl,_⟩:=I.list hq;have hp:=zhd I ht rv;refine zjo zoW (RH:=ListPairs) (fun h v k k'=>zkW) (fun h h' v k kk ⟨a,o,xs,n,e,e1,c,d,r⟩=>⟨a,o,xs,n,e,kk _ _ e1,c,d,JJ kk r⟩) I pl.isList hz rv ht hp (fun s' hp' h2=>?_) fun d us' ks' hd h1 h2 h3 h4=>q d us' ks' hd h1 h2 h3 h4;refine kas_kind (T:=.type "list") h2 (fun v hv=>?_) (by decide) (by decide) ⟨rfl,fun v v' k k' h1 h2 C hC=>?_⟩
 ·obtain⟨a,o,rfl,e1,c1⟩:=zhe hp' v hv;exact c1 ▸ (Looks.ld e1).andThen .now
 ·exact zkV h1 h2 (by show X.A.units+1+1+30<U1;lia) hC
end
end GS
open PySem PySem.Spec PyProof.Rows
section
variable {X:Cx}{K:X2}
theorem zkX (hK:X.K=K):MtR X "str.join" (rJoin K):=by
 subst hK;exact zeJ
theorem zkY (hK:X.K=K):SlR X (zp5 K):=by
 subst hK;exact zbR
theorem zcs (hK:X.K=K):OpR X (VW .In) (rIn K false):=by
 subst hK;exact ziZ
theorem zoX {T:String}{name:Str}{id:String}{r:V->List V->Hp->VK->Prop}{o e:Expr}{es:List Expr}{to:TE}{t:TA}{apos cpos:Pos}(hK:X.K=K)(pa:PlainAttrs T)(slot:Slot T name id)(hty:typeOf (.builtin id)=pure (.type "method_descriptor"))(hm:MtR X id r)(ho:PE X o to)(ha:PA X (e::es) t)
  (h1:Og o name X.env (eval o X.env)=eval o X.env:=by rfl)
  (h2:((SR cpos (WA (e::es) X.env)).all (fun x=>!x.1)&&(backToKw cpos (keywordEach [] X.env)).all (fun x=>x.1.isSome)
   && decide ((e::es).length+([]:List NL).length+(if ([]:List NL).isEmpty then 0 else 1)<30))=true:=by rfl)
  (h3:(apos.endLine==cpos.line)=true:=by rfl) (h4:WA (e::es) X.env=(false,eval e X.env)::WA es X.env:=by rfl) (h5:(SR cpos (WA es X.env)).any (·.1)=false:=by rfl) :
  PE X (.Call (.Attribute o name apos) (e::es) [] cpos) (tBM K T r to t):=by
 subst hK;exact xY pa slot hty hm ho ha h1 h2 h3 h4 h5
end
def HasDef (K:X2)(x:Str)(st:Stmt):Prop:=∃(f:Addr) (oc:X9) (od an:Option Addr) (sl:Array (Option X9)) (kV dc pm cd ct:X9),XQ K XR x=some (some (.ref f))/\K.lookup f=some ⟨oc,od,.func (UI x x (JU st) (xA st) (zg st) .none kV dc pm an cd ct),sl⟩/\SF K cd x=true/\TU K (.ref f)=true
theorem HasDef.at {K:X2}{h:Heap}{mg:Str->Option X9}{x:Str}{st:Stmt}{ps:List Str}(H:HasDef K x st)(X:K.In h)(G:h.Ns XR mg)
  (hb:∀(kV doc pm:X9) (an:Option Addr) (cdv ct:X9) (us:List X9),us.length=ps.length->bindArgs (UI x x (JU st) (xA st) (zg st) .none kV doc pm an cdv ct) ⟨us,[]⟩=pure (ps.zip us)):∃f fd,zk K mg x st ps f fd:=by
 obtain⟨f,oc,od,an,sl,kV,dc,pm,cd,ct,a,l,c,k⟩:=H;have F:=zkd (st:=st) l c k;exact⟨f,_,F,Wh X G a,F.binds hb⟩
open PySem PySem.W
theorem us0 {P:List X9->Prop}(h:P []):∀us:List X9,us.length=0->P us:=by
 intro us e;cases us with
 | nil=>exact h
 | cons a t=>cases e
theorem usS {n:Nat}{P:List X9->Prop}(h:∀a t,t.length=n->P (a::t)):∀us:List X9,us.length=n+1->P us:=by
 intro us e;cases us with
 | nil=>cases e
 | cons a t=>exact h a t (Nat.succ.inj e)
theorem us1 {P:List X9->Prop}(h:∀a,P [a]):∀us:List X9,us.length=1->P us:=usS fun a=>us0 (h a)
theorem us2 {P:List X9->Prop}(h:∀a b,P [a,b]):∀us:List X9,us.length=2->P us:=usS fun a=>us1 (h a)
theorem us3 {P:List X9->Prop}(h:∀a b c,P [a,b,c]):∀us:List X9,us.length=3->P us:=usS fun a=>us2 (h a)
theorem us4 {P:List X9->Prop}(h:∀a b c d,P [a,b,c,d]):∀us:List X9,us.length=4->P us:=usS fun a=>us3 (h a)
open PySem PySem.Spec PyProof.Rows PySem.W
namespace ST
variable {X:Cx}
theorem zdl (hh:X.A.handled=none):jT X (.builtin "sorted") (fun xs H Q=>∃l ks,xs=[.ref l]/\H l=some (zfS X.prog X.w l ks)/\(∀q∈ks,H q.1=some (.tup [.int q.2.1,.int q.2.2]))/\(ks.map (·.2)).Nodup/\ks.length<64 /\
  ∀d us' ps',H d=none->yd H us' ps'->ps'.Perm (ks.map (·.2))->Up2 ps'->Q (.ref d) (upd H d (.lst us'))):=by
 intro pins s σ H xs us' Q I r h;obtain⟨l,ks,rfl,hl,hT,hnd,h64,q⟩:=h;obtain⟨u,rfl,ru⟩:=vals1 r;cases ru;obtain⟨⟨es,ep,t,ho,he,G,hled,hpl⟩,_,_⟩:=(show qM X.prog X.w H s.heap l (zfS X.prog X.w l ks) from I.hok l _ hl);have hkl:ks.length=es.size:=by
  rw[<- X4,he,Y1]
 apply Tx NM NZ NY (NX _);unfold Vc.«sorted»;refine ZB (m:=checkCount "sorted" 1 1 _) (X6 (ZB (zfR (by simp[hh]) ho G hled hpl (by lia) fun its h1 tk hpm kk1 zle=>?_)));have hvs:es.toList.map (·.2)=ks.map fun q=>WU q.1:=by
  rw[he,WR];rfl
 rw[hvs] at hpm;obtain⟨js,hjp,hj⟩:=zao (fun q:Addr×(Int×Int)=>WU q.1) hpm ks rfl;have hTj:∀q∈js,H q.1=some (.tup [.int q.2.1,.int q.2.2]):=fun q hq=>hT q (hjp.mem_iff.mp hq);have hndj:(js.map (·.2)).Nodup:=(hjp.map (·.2)).nodup_iff.mpr hnd;have hjl:js.length=ks.length:=hjp.length_eq;have hil:its.length=js.length:=by rw[hj,Y1]
 have rv:∀{js:List (Addr×(Int×Int))},Vals (js.map fun q=>V.ref q.1) (js.map fun q=>WU q.1):=fun {js}=>by
  induction js with
  | nil=>exact .nil
  | cons a t ih=>exact .cons rfl ih
 have ht:∀{js:List (Addr×(Int×Int))},(∀q∈js,H q.1=some (.tup [.int q.2.1,.int q.2.2]))->yd H (js.map fun q=>V.ref q.1) (js.map (·.2)):=fun {js}=>by
  induction js with
  | nil=>exact fun _=>.nil
  | cons a t ih=>exact fun h=>.cons ⟨a.1,rfl,h a XS⟩ (ih fun q hq=>h q (XT _ hq))
 have hp0:WV (zw s.heap) its (js.map (·.2)):=by
  rw[hj];exact yd.pairs I (ht hTj) rv
 generalize hps:js.map (·.2)=ps at hp0 hndj;have hlp:its.length=ps.length:=Paired.length hp0;have W:=GS.zkU;have ip:∀q:Addr×(Int×Int),H q.1=some (.tup [.int q.2.1,.int q.2.2])->zw s.heap (.ref q.1) q.2:=fun q hq=>by
  have:=yd.pairs I (.cons ⟨q.1,rfl,hq⟩ .nil:yd H [V.ref q.1] [q.2]) (.cons rfl .nil:Vals [V.ref q.1] [WU q.1]);cases this with
  | cons h _=>exact h
 classical
 let r:X9->Int:=fun v=>if h:∃k,zw s.heap v k then GS.rkK lt2 ps h.choose else 0
 have rk_:∀{v:X9} {k:Int×Int},zw s.heap v k->r v=GS.rkK lt2 ps k:=fun {v k} h=>by
  have hx:∃k,zw s.heap v k:=⟨k,h⟩;show (if h:∃k,zw s.heap v k then GS.rkK lt2 ps h.choose else 0)=_;rw[dif_pos hx,GS.zeY hx.choose_spec h]
 have small:its.length<=Xz:=by rw[TV];lia
 refine ZB (P8 ?_ small);have hoL:(h1.push (U2 "list" its.toArray 0)).get? h1.objs.size=some (U2 "list" its.toArray 0):=Xl _ rfl;have kL:∀b o,s.heap.get? b=some o->(h1.push (U2 "list" its.toArray 0)).get? b=some o:=fun b o e=>XZ _ (kk1 b o e);have ne:∀b o,s.heap.get? b=some o->b≠h1.objs.size:=fun b o e=>Xk (XO (kk1 b o e));show Xg _ _ _ _ _ { s with heap:=h1.push (U2 "list" its.toArray 0),toks:=tk };refine ZB (Wd (V9 OH ⟨_,hoL,rfl⟩ O5 (GS.za5 (s:={ s with heap:=h1.push (U2 "list" its.toArray 0),toks:=tk }) hoL small r (fun h2 s' kk=>?_) ?_) (OG _)))
 ·have hp':=JJ (fun b o e=>kk b o (ne b o e) (kL b o e)) hp0;obtain⟨fs,hk,hfl,hint⟩:=ZW hp';refine kat_kind (T:=.type "int") hk (by lia) (fun v hv=>?_) (by decide) ⟨rfl,fun x hx y hy C hC=>?_⟩
  ·obtain⟨x,t,rfl⟩:=hint v hv;exact Looks.of_pure rfl
  ·have mx:x.1∈its:=by
    rw[Vg] at hx;exact(TD hx).2
   have my:y.1∈its:=by
    rw[Vg] at hy;exact(TD hy).2
   obtain⟨k,k1,k2⟩:=GS.yG hp0 x.1 mx;obtain⟨k',k1',k2'⟩:=GS.yG hp0 y.1 my;have kp:∀{v:X9} {k:Int×Int},zw s.heap v k->zw s'.heap v k:=fun {v k} ⟨a,o,n,t,u,e,e1,r⟩=>⟨a,o,n,t,u,e,kk _ _ (ne _ _ e1) (kL _ _ e1),r⟩;have hC':C (decide (r x.1<r y.1)) s':=hC;rw[rk_ k2,rk_ k2',<- W.rank k1] at hC';exact zia (kp k2) (kp k2') hC'
 ·intro ws h' c hpm' hs kk ha;obtain⟨js',hjp',ej⟩:=zao (fun q:Addr×(Int×Int)=>WU q.1) hpm' js hj;have hD:H h1.objs.size=none:=I.hok.fresh zle;have hT':∀q∈js',H q.1=some (.tup [.int q.2.1,.int q.2.2]):=fun q hq=>hTj q (hjp'.mem_iff.mp hq);have rv':Vals (js'.map fun q=>V.ref q.1) ws:=by
   rw[ej];exact rv
  have nd':(js'.map (·.2)).Nodup:=(hjp'.map (·.2)).nodup_iff.mpr (by rw[hps];exact hndj);have hup:Up2 (js'.map (·.2)):=by
   unfold Up2;unfold WW at nd';rw[Wo] at nd' ⊢;rw[ej,Wo] at hs;refine(hs.and nd').imp_of_mem fun {x y} hx hy ⟨h1,h2⟩=>?_;rw[rk_ (ip x (hT' x hx)),rk_ (ip y (hT' y hy))] at h1;have my:y.2∈ps:=by
    rw[<- hps];exact XC.mpr ⟨y,hjp'.mem_iff.mp hy,rfl⟩
   have e1:lt2 y.2 x.2=false:=by
    rw[W.rank my];exact decide_eq_false (by lia)
   have e2:=zbS h2;rw[e1] at e2;cases hh:lt2 x.2 y.2 with
   | true=>rfl
   | false =>
    rw[hh] at e2;cases e2
  refine⟨_,rfl,X6 ⟨_,rfl,.ref h1.objs.size,upd H h1.objs.size (.lst (js'.map fun q=>V.ref q.1)),I.laid (t':=tk) (fun b o e=>kk b o (ne b o e) (kL b o e)) zle ⟨?_,_,c,rv',ha⟩,rfl,q _ _ _ hD (ht hT') ((hjp'.trans hjp).map _) hup⟩⟩;rw[rv'.length,hpm'.length_eq];exact small
end ST
inductive Rd1 (σ:St)(i:Nat)(Q:VK)(H:Hp):Prop
 | mk (v:V) (h:σ[i]?=some (some v)) (q:Q v H):Rd1 σ i Q H
def tVS (i:Nat):TE:=fun σ H Q=>Rd1 σ i Q H
section
variable {X:Cx}
theorem pvS (i:Nat){x:Str}{pos:Pos}(hN:X.N[i]?=some x:=by rfl)(hv:Vis X.env.scope x:=by first | exact XM rfl | exact UV (XM rfl) | exact UV (UV rfl))(hd:(x==("__debug__":Str))=false:=by decide)
  (hcd:(x==("__classdict__":Str))=false:=by decide):PE X (.Name x pos) (tVS i):=by
 intro pins s σ H Q I h;obtain⟨v,e,q⟩:=h;exact pv i hN hv hd hcd pins s σ H Q I ⟨v,e,q⟩
theorem OpR.imp {f:X9->X9->Sem X9}{r r':R2}(h:OpR X f r)(k:∀x y H Q,r' x y H Q->r x y H Q):OpR X f r':=fun pins s σ H x y v u Q I rx ry z=>h pins s σ H x y v u Q I rx ry (k x y H Q z)
theorem IxR.imp {r r':R2}(h:IxR X r)(k:∀x y H Q,r' x y H Q->r x y H Q):IxR X r':=fun value slice pins s σ H x y v u Q I rx ry z hs=>h value slice pins s σ H x y v u Q I rx ry (k x y H Q z) hs
inductive SI0 (g:Int->Int->V)(x y:V)(H:Hp)(Q:VK):Prop
 | mk (i j:Int) (hx:x=.int i) (hy:y=.int j) (q:Q (g i j) H):SI0 g x y H Q
inductive SI (C:Int->Int->Prop)(g:Int->Int->V)(x y:V)(H:Hp)(Q:VK):Prop
 | mk (i j:Int) (hx:x=.int i) (hy:y=.int j) (hc:C i j) (q:Q (g i j) H):SI C g x y H Q
theorem OpR.s0 {f:X9->X9->Sem X9}{g:Int->Int->V}(h:OpR X f (rI0 g)):OpR X f (SI0 g):=h.imp fun _ _ _ _ ⟨i,j,a,b,q⟩=>⟨i,j,a,b,q⟩
theorem OpR.s1 {f:X9->X9->Sem X9}{C:Int->Int->Prop}{g:Int->Int->V}(h:OpR X f (rI C g)):OpR X f (SI C g):=h.imp fun _ _ _ _ ⟨i,j,a,b,c,q⟩=>⟨i,j,a,b,c,q⟩
theorem z4:OpR X (T9 .Add) (SI0 fun i j=>.int (i+j)):=zoq.s0
theorem xM:OpR X (T9 .Sub) (SI0 fun i j=>.int (i-j)):=zor.s0
theorem qQ:OpR X (T9 .Mod) (SI (fun _ j=>0<j) fun i j=>.int (i%j)):=zos.s1
theorem qy:OpR X (T9 .FloorDiv) (SI yr fun i j=>.int (i/j)):=zke.s1
theorem zoY:OpR X (VW .Lt) (SI0 fun i j=>.bl (decide (i<j))):=zpX.s0
theorem ze0:OpR X (VW .LtE) (SI0 fun i j=>.bl (decide (i<=j))):=zpY.s0
theorem zkZ:OpR X (VW .Gt) (SI0 fun i j=>.bl (decide (j<i))):=zpZ.s0
inductive zoZ (K:X2)(x y:V)(H:Hp)(Q:VK):Prop
 | mk (p:Addr) (xs:List V) (i:Int) (v:V) (hx:x=.ref p) (hy:y=.int i) (hq:SqL K H p xs) (he:atI xs i=some v) (q:Q v H):zoZ K x y H Q
inductive zqk (K:X2)(x y:V)(H:Hp)(Q:VK):Prop
 | mk (p:Addr) (xs:List V) (i:Int) (v:V) (hx:x=.ref p) (hy:y=.int i) (hq:SqT K H p xs) (he:atI xs i=some v) (q:Q v H):zqk K x y H Q
inductive zql (x y:V)(H:Hp)(Q:VK):Prop
 | mk (z:Str) (i:Int) (c:Nat) (hx:x=.str z) (hy:y=.int i) (hl:z.length<=Xz) (he:atI z.cps.toList i=some c) (q:Q (.str ⟨#[c]⟩) H):zql x y H Q
theorem qO:IxR X (zoZ X.K):=zmB.imp fun _ _ _ _ ⟨p,xs,i,v,a,b,c,d,q⟩=>⟨p,xs,i,v,a,b,c,d,q⟩
theorem jz:IxR X (zqk X.K):=zoA.imp fun _ _ _ _ ⟨p,xs,i,v,a,b,c,d,q⟩=>⟨p,xs,i,v,a,b,c,d,q⟩
theorem J3:IxR X zql:=zoB.imp fun _ _ _ _ ⟨z,i,c,a,b,d,e,q⟩=>⟨z,i,c,a,b,d,e,q⟩
theorem Y9 {K:X2}(hK:X.K=K):IxR X (zoZ K):=hK ▸ qO
inductive SB (x:V)(Q:Bool->Hp->Prop)(H:Hp):Prop
 | mk (k:Bool) (h:x=.bl k) (q:Q k H):SB x Q H
def zo0 (t:TE):TT:=fun σ H Q=>t σ H fun x H'=>SB x Q H'
theorem zH {op:CmpOp}{r:R2}{a b:Expr}{ta tb:TE}{pos:Pos}(ho:OpR X (VW op) r)(ha:PE X a ta)(hb:PE X b tb)(hm:QQ op b=false):PT X (.Compare a [op] [b] pos) (zo0 (tOp r ta tb)):=by
 intro pins s σ H Q I h;refine wpAny_isTrue_Compare1 (thn (ha pins s σ H _ I h) fun v s1 ⟨x,H1,I1,r1,q1⟩=>thn (hb pins s1 σ H1 _ I1 q1) fun u s2 ⟨y,H2,I2,r2,q2⟩=>thn (ho pins s2 σ H2 x y v u _ I2 r1 r2 q2) fun c s3 ⟨z,H3,I3,r3,q3⟩=>?_) hm;obtain⟨k,rfl,q⟩:=q3;cases r3;exact VA ⟨H3,I3,q⟩
inductive zo1 (K:X2)(xs:List V)(H:Hp)(Q:VK):Prop
 | mk (p:Addr) (ys:List V) (hx:xs=[.ref p]) (hq:SqL K H p ys\/SqT K H p ys) (q:Q (.int ys.length) H):zo1 K xs H Q
theorem zB:jT X (.builtin "len") (zo1 X.K):=fun pins s σ H xs us Q I r ⟨p,ys,a,b,q⟩=>zeD pins s σ H xs us Q I r ⟨p,ys,a,b,q⟩
theorem zct {K:X2}(hK:X.K=K):jT X (.builtin "len") (zo1 K):=hK ▸ zB
inductive zqm (x:V)(vs:List V)(H:Hp)(Q:VK):Prop
 | mk (l:Addr) (xs:List V) (y:V) (hx:x=.ref l) (hv:vs=[y]) (hl:H l=some (.lst xs)) (hz:xs.length<Xz) (q:Q .non (upd H l (.lst (xs++[y])))):zqm x vs H Q
theorem jA:MtM X "list.append" zqm:=fun pins s σ H x xs v us Q I rx rv ⟨l,ys,y,a,b,c,d,q⟩=>Y6 pins s σ H x xs v us Q I rx rv ⟨l,ys,y,a,b,c,d,q⟩
end
section
variable {X:Cx}
theorem zdV {ts:List Bool}{ws:List V}{its:List X9}(ew:ts.map V.bl=ws)(r:Vals ws its):its=ts.map Ta:=by
 induction r generalizing ts with
 | nil =>
  cases ts with
  | nil=>rfl
  | cons a b=>cases ew
 | cons r1 r2 ih =>
  cases ts with
  | nil=>cases ew
  | cons a b =>
   rw[Xf] at ew;obtain⟨e1,e2⟩:=List.cons.inj ew;subst e1;cases r1;rw[ih e2];rfl
def eqT (y:Bool):X9->Bool
 | .bool a=>a==y
 | _=>false
theorem zjr:MtM X "list.count" (fun x vs H Q=>∃(l:Addr) (ts:List Bool) (y:Bool),x=.ref l/\vs=[.bl y]/\H l=some (.lst (ts.map V.bl))/\Q (.int ((ts.countP fun t=>t==y:Nat):Int)) H):=by
 intro pins s σ H x vs v us Q I rx rv h;obtain⟨l,ts,y,rfl,rfl,hH,q⟩:=h;cases rx;obtain⟨u,rfl,r1⟩:=rv.one;cases r1;obtain⟨z,its,n,r,hl,e⟩:=I.lstM hH;have ei:=zdV rfl r;subst ei;refine S8 F.slot_list_count ⟨_,e,rfl⟩ F.entry_list_count (Op _ _) (P6 l (ts.map Ta).toArray n none #[] (.bool y) (eqT y)) ⟨e,fun w hw=>?_,?_⟩
 ·obtain⟨a,_,rfl⟩:=XC.mp (TM.mpr hw);exact Rn a y
 ·refine⟨.int _,H,I.tok _,⟨_,rfl⟩,?_⟩;show Q (.int (((ts.map Ta).countP (eqT y):Nat):Int)) H;rw[Td];exact q
theorem zjs:MtM X "list.index" (fun x vs H Q=>∃(l:Addr) (ts:List Bool) (y:Bool) (j:Nat),x=.ref l/\vs=[.bl y]/\H l=some (.lst (ts.map V.bl))/\ts[j]?=some y/\(∀m<j,ts[m]?=some (!y))/\j<=1000/\Q (.int (j:Nat)) H):=by
 intro pins s σ H x vs v us Q I rx rv h;obtain⟨l,ts,y,j,rfl,rfl,hH,hj,hm,js,q⟩:=h;cases rx;obtain⟨u,rfl,r1⟩:=rv.one;cases r1;obtain⟨z,its,n,r,hl,e⟩:=I.lstM hH;have ei:=zdV rfl r;subst ei;obtain⟨h1,h2⟩:=XY.mp hj;refine S8 F.slot_list_index ⟨_,e,rfl⟩ F.entry_list_index (F.args_list_index_2 _ _) (PySem.SeqAt.list_indexAt l (ts.map Ta).toArray n none #[] (.bool y) (eqT y) j (by simpa using h1) (by lia) ?_ ?_) ⟨e,fun w hw=>?_,?_⟩
 ·simp[eqT,h2]
 ·intro m hm1 hm2;obtain⟨a1,a2⟩:=XY.mp (hm m hm2);simp[eqT,a2]
 ·obtain⟨a,_,rfl⟩:=XC.mp (TM.mpr hw);exact Rn a y
 ·exact⟨.int _,H,I.tok _,⟨_,rfl⟩,q⟩
end
def xeT (X:Cx)(pins:List (Addr×Obj))(EX:St->XK):X9->X8->Prop:=fun y s'=>∃ σ1 H1 s1,Inv X pins σ1 H1 s1/\CXE X.prog X.w X.stack H1 s1 (EX σ1) y s'
def zjt (X:Cx)(pins:List (Addr×Obj))(EX:St->XK):Cx:={ X with pn:=X.pn++pins,xe:=xeT X pins EX }
section
variable {X:Cx}{pins ps:List (Addr×Obj)}{σ:St}{H:Hp}{s:X8}{EX:St->XK}
theorem Inv.intry (I:Inv X pins σ H s)(EX:St->XK):Inv (zjt X pins EX) [] σ H s :=
 ⟨⟨I.ok.mod,I.ok.kind,I.ok.glob,I.ok.blt,I.ok.above,I.ok.inj,I.ok.has,I.ok.cab,I.ok.hd,I.ok.frames,I.ok.stk,I.ok.exf,I.ok.bs,I.ok.bsz,I.ok.noex,I.ok.exfs,I.ok.funs,I.ok.frf⟩,I.os,I.bare,I.base,I.loc,I.cell,I.free,I.freeC,(fun p hp=>I.pin p (by rw[Xa] at hp;exact hp)),I.hok,I.len⟩
theorem Inv.untry (I:Inv (zjt X pins EX) ps σ H s):Inv X pins σ H s :=
 ⟨⟨I.ok.mod,I.ok.kind,I.ok.glob,I.ok.blt,I.ok.above,I.ok.inj,I.ok.has,I.ok.cab,I.ok.hd,I.ok.frames,I.ok.stk,I.ok.exf,I.ok.bs,I.ok.bsz,I.ok.noex,I.ok.exfs,I.ok.funs,I.ok.frf⟩,I.os,I.bare,I.base,I.loc,I.cell,I.free,I.freeC,(fun p hp=>I.pin p (WZ _ hp)),I.hok,I.len⟩
def zo2 (sp:Sp)(EX:St->XK)(t:TA):TE:=fun σ H Q=>t σ H fun vs H1=>sp vs H1 Q (EX σ)
theorem zfW {k:Nat}{f:Addr}{fd:Xq}{pm:List Str}{sp:Sp}{x:Str}{p pos:Pos}{e:Expr}{es:List Expr}{t:TA}(F:qk X.prog X.w X.K X.mg X.base (CXE X.prog X.w) k f fd pm sp)(hr:Zb k X.A)(hg:Gl (zjt X pins EX) x)(hm:X.mg x=some (.ref f))(hk:TU X.K (.ref f)=true)(hb:Binds X.K fd pm [])
  (ha:PA (zjt X pins EX) (e::es) t) (hdb:(x==("__debug__":Str))=false:=by decide) (he:WA (e::es) X.env=(false,eval e X.env)::WA es X.env:=by rfl) (hpl:(SR pos (WA es X.env)).any (·.1)=false:=by rfl) :
  PE (zjt X pins EX) (.Call (.Name x p) (e::es) [] pos) (zo2 sp EX t):=by
 intro ps s σ H Q I h;refine S4 (Q8 I hg hm ?_ hdb);refine PySem.W.callWith_K (h₀:=X.base) I.ok.mod.kin hk (thn (ha pos ps s σ H _ I h) fun us s1 ⟨vs,H1,I1,r,q⟩=>⟨I1.kIn,?_⟩) he hpl;have hlen:us.length=pm.length:=by rw[<- r.length];exact F.len _ _ _ _ q
 have bt:=hb s1 us I1.kIn (by rw[Xa];exact hlen);rw[Xa] at bt;refine wpAny_call (SM (F.run X.A X.stack s1 H1 ⟨us,[]⟩ us vs _ _ hr I1.env0 bt r q) fun res s' hq=>?_);cases res with
 | error y=>exact⟨σ,H1,s1,I1.untry,hq⟩
 | ok fl =>
  cases fl with
  | ret u=>exact I1.after hq
  | next=>exact Wm hq
  | brk=>exact Wm hq
  | cont=>exact Wm hq
def zqn (K:X2)(S:Addr)(j:Nat)(tb:(St->XK)->TS)(ts:TS):TS:=fun D σ H =>
 tb (fun σ1 c _ H2=>∃C,c=.ref C/\VE K C (.ref S)=some true/\∀e,H2 e=none ->
  ts { nx:=fun σ3 H3=>D.nx (σ3.set j none) H3,rt:=D.rt,bk:=fun σ3 H3=>D.bk (σ3.set j none) H3,ct:=fun σ3 H3=>D.ct (σ3.set j none) H3 } (σ1.set j (some (.ref e))) (upd H2 e (exO e C))) D σ H
theorem zmY {j:Nat}{n xS:Str}{S:Addr}{tb:(St->XK)->TS}{ts:TS}{body:List Stmt}{sp0 hp pos:Pos}{b0:Stmt}{suite:List Stmt}
  (hst:X.stack=X.env::X.outer) (hfr:X.env.frame=some X.env.locals)
  (hN:X.N.Nodup) (hj:X.N[j]?=some n) (hl:X.env.scope.names.lookup n=some .local) (gS:Gl X xS) (O:qF X.K X.mg xS S)
  (hb:∀pins EX,PSs (zjt X pins EX) body (tb EX)) (hs:∀e,PSs (markX X e) (b0::suite) ts) (hdS:(xS==("__debug__":Str))=false:=by decide) :
  PS X (.Try body [.ExceptHandler (some (.Name xS sp0)) (some n) (b0::suite) hp] [] [] pos) (zqn X.K S j tb ts):=by
 intro pins s σ H D I h;refine wpAny_Try_except (Wn (hb pins _ [] s σ H D (I.intry _) h) (fun f s1 q=>?_) fun y s' q=>?_)
 ·cases f with
  | next =>
   obtain⟨σ1,H1,I1,q⟩:=q;exact Tf ⟨σ1,H1,I1.untry,q⟩
  | brk =>
   obtain⟨σ1,H1,I1,q⟩:=q;exact⟨σ1,H1,I1.untry,q⟩
  | cont =>
   obtain⟨σ1,H1,I1,q⟩:=q;exact⟨σ1,H1,I1.untry,q⟩
  | ret u =>
   obtain⟨v,σ1,H1,I1,r,q⟩:=q;exact⟨v,σ1,H1,I1.untry,r,q⟩
 ·obtain⟨σ1,H1,s1,I1,e,C,a0,B,H',rfl,Fl,C',ec,hmr,hsu⟩:=q;cases ec;have ff:=Fl.fly;rw[hst] at ff;refine wpAny_looks_onW (by rw[I1.ok.frames,hst]) hfr ff fun h4 zqo up4=>?_;refine wpAny_landsW zqo fun h5 zo3 up5=>?_;have up:=up4.trans up5;have I5:=Fl.caught I1 (h:=h5) (by rw[hst];exact zo3) up;refine wpAny_handleBy_cons (codeAny_handlers_test (Q8 (X:=markX X e) (I5.mark e) gS O.g ?_ hdS)) (by intro z;cases z);obtain⟨bm,OS⟩:=znO I5.kIn O.q;obtain⟨oe,vs5,q1,q2,q3,_⟩:=zo3.first;refine zmH OS q1 q2 (RL I5.kIn hmr) (codeAny_handlers_suite_as ?_);refine lands_againW zo3 fun h6 zre up6=>?_;have I6:=Fl.caught I1 (h:=h6) (by rw[hst];exact zre) (up.trans up6);refine Ys (X:=markX X e) (I6.mark e) hN hj (.inl hl) (v:=.ref e) rfl (fun s7 I7=>?_) (.inr hl);refine Wn (hs e pins s7 _ _ _ I7 (hsu e Fl.free)) (fun fl s8 q8=>?_) fun _ _ z=>z.elim;cases fl with
  | next =>
   obtain⟨σ8,H8,I8,q8⟩:=q8;exact(I8.unmark I.ok).nameGoes hN hj hl fun s9 I9=>⟨_,H8,I9,q8⟩
  | brk =>
   obtain⟨σ8,H8,I8,q8⟩:=q8;exact(I8.unmark I.ok).nameGoes hN hj hl fun s9 I9=>⟨_,H8,I9,q8⟩
  | cont =>
   obtain⟨σ8,H8,I8,q8⟩:=q8;exact(I8.unmark I.ok).nameGoes hN hj hl fun s9 I9=>⟨_,H8,I9,q8⟩
  | ret u =>
   obtain⟨v8,σ8,H8,I8,r8,q8⟩:=q8;exact(I8.unmark I.ok).nameGoes hN hj hl fun s9 I9=>⟨v8,_,H8,I9,r8,q8⟩
end
section
variable {X:Cx}{k k0:Nat}{f:Addr}{fd:Xq}{ps:List Str}{sp:Sp}{x:Str}{st:Stmt}{p pos:Pos}{e:Expr}{es:List Expr}{t:TA}
theorem pc0 (F:qk X.prog X.w X.K X.mg X.base CX0 k f fd ps sp)(hr:Zb k0 X.A)(D:zk X.K X.mg x st ps f fd)(ha:PA X (e::es) t)(hk:k<=k0:=by decide)(hg:Gl X x:=by rfl)
  (hdb:(x==("__debug__":Str))=false:=by decide) (he:WA (e::es) X.env=(false,eval e X.env)::WA es X.env:=by rfl) (hpl:(SR pos (WA es X.env)).any (·.1)=false:=by rfl) :
  PE X (.Call (.Name x p) (e::es) [] pos) (zj8 sp [] E0 t):=zh7 F (hr.mono hk) hg D.g D.F.kp D.b .nil zp6 ha hdb he hpl
theorem pcL {E:XK}(L:Yw X E)(F:qk X.prog X.w X.K X.mg X.base (CXE X.prog X.w) k f fd ps sp)(hr:Zb k0 X.A)(D:zk X.K X.mg x st ps f fd)(ha:PA X (e::es) t)(hk:k<=k0:=by decide)(hg:Gl X x:=by rfl)
  (hdb:(x==("__debug__":Str))=false:=by decide) (he:WA (e::es) X.env=(false,eval e X.env)::WA es X.env:=by rfl) (hpl:(SR pos (WA es X.env)).any (·.1)=false:=by rfl) :
  PE X (.Call (.Name x p) (e::es) [] pos) (zj8 sp [] E t):=zh7 F (hr.mono hk) hg D.g D.F.kp D.b .nil (Yw.passes L) ha hdb he hpl
end
theorem Z1:0<=Xz:=by decide
theorem sz_1:1<=Xz:=by decide
theorem YD:2<=Xz:=by decide
theorem zk0:3<=Xz:=by decide
theorem zqp:6<=Xz:=by decide
section
variable {prog:Xd}{w:WP}{A:WK}{d r it:Addr}{od:Obj}{es:Array PU}{ep:Nat}
theorem zk1 (hh:A.handled=none)(hne:it≠d)(hdd:od.data=.dict es ep):Walks prog w A it [it,d] [it] es.size (fun i v=>∃e,es[i]?=some e/\v=e.key) (fun i h=>h.IsKeyIter it d i es.size ep/\h.get? d=some od) where
 sub:=fun b hb=>by
  rw[Ue.mp hb];exact XS
 frame:=fun i h h' ⟨⟨o,e,x⟩,h2⟩ k=>⟨⟨o,k it XS o e,x⟩,k d (XT _ XS) _ h2⟩
 item:=fun i s Q E hi ⟨h1,h2⟩ q=>by
  obtain⟨e,he⟩:∃e,es[i]?=some e:=⟨_,V3 hi⟩;exact zmP h1 h2 hdd he fun h' st' sb=>q e.key h' s.toks ⟨e,he,rfl⟩ ⟨st',(sb.2 d (US hne)).trans h2⟩ fun b o hb e2=>(sb.2 b fun z=>hb (z ▸ Ue.mpr rfl)).trans e2
 done:=fun s Q E ⟨h1,h2⟩ q=>zoP hh h1 h2 hdd (XW _) fun h' eb=>q h' s.toks fun b o hb e2=>eb b o (fun z=>hb (z ▸ Ue.mpr rfl)) e2
 self:=fun i s Q E ⟨h1,_⟩ hq=>wpAny_pyIter_keyiter h1 hq
theorem zmZ {E:X9->X8->Prop}{s:X8}{Q:X9->X8->Prop}(hv:Rg s.heap r d)(hod:s.heap.get? d=some od)(hdd:od.data=.dict es ep)
  (hQ:Q (.ref s.heap.objs.size) { s with heap:=s.heap.push { cls:=.type "dict_keyiterator",data:=.fields #[.ref d,.int 0 0,.int es.size 0,.int ep 0] } }):Xg (Xh prog w) A (NE (.ref r)) Q E s:=by
 obtain⟨ov,hov,hcv,hdv⟩:=id hv;refine Rb hv.typeIs kdl_slot_keys_iter (V9 kdl_slot_keys_iter hv.typeIs kdl_entry_keys_iter ?_ (kdl_args_keys_iter _));unfold Vc.«dict_keys.__iter__»;refine ZB (X6 (ZB ?_));unfold Builtin.Dict_items.dictOf;refine ZB (wpAny_field hov hdv (x:=.ref d) rfl (X6 (ZB ?_)));unfold Builtin.Dict_items.newIterator;refine ZB (Su hod hdd (ZB (O6 hod hdd ?_)));have hown:T5 "dict_keyiterator"=false:=by decide
 simp only[hown,WG,if_false];refine Wq (X6 ⟨_,rfl,"dict_keyiterator",_,⟨_,Xl _ rfl,rfl⟩,PySem.F.slot_dict_keyiterator_next.lookup,?_⟩);simpa[UW] using hQ
theorem zk2 (hdd:od.data=.dict es ep):KdlSrc prog w "dict_keys" r d es.size (fun i v=>∃e,es[i]?=some e/\v=e.key) (fun h=>Rg h r d/\h.get? d=some od) where
 type:=fun _ hm=>hm.1.typeIs
 there:=fun _ hm=>⟨let ⟨_,ho,_⟩:=hm.1;XO ho,XO hm.2⟩
 keep:=fun _ _ hm hk=>⟨let ⟨o,ho,x⟩:=hm.1;⟨o,hk r (.inl rfl) o ho,x⟩,hk d (.inr rfl) _ hm.2⟩
 notList:=by decide
 notTuple:=by decide
 hint:=fun _ _ _ _ hm hq=>kdl_hint_keys hm.1.typeIs hq
 iter:=fun _ _ hh hm=>⟨_,_,(fun _ _ hq=>zmZ hm.1 hm.2 hdd hq),zk1 hh (UH (XO hm.2)) hdd,⟨⟨_,Xl _ rfl,rfl,rfl⟩,XZ _ hm.2⟩⟩
end
section
variable {X:Cx}
theorem zhf {T:String}{r d:Addr}{n:Nat}{Pv:Nat->X9->Prop}{OK:Heap->Prop}{pins:List (Addr×Obj)}{s:X8}{σ:St}{H:Hp}{Q:VK}(hh:X.A.handled=none)(I:Inv X pins σ H s)(S:KdlSrc X.prog X.w T r d n Pv OK)(ok:OK s.heap){js:List (Addr×(Int×Int))}(hn:n=js.length)(hl:n<=1000000)
  (hP:∀i v q,Pv i v->js[i]?=some q->v=.ref q.1) (hTj:∀q∈js,H q.1=some (.tup [.int q.2.1,.int q.2.2]))
  (q:∀d us' ps',H d=none->yd H us' ps'->ps'.Perm (js.map (·.2))->ps'.Pairwise (fun p q=>lt2 q p=false)->Q (.ref d) (upd H d (.lst us'))) :
  Xg (Xh X.prog X.w) X.A (call (.builtin "sorted") [.ref r]) (EP X pins σ Q) X.xe s:=by
 have nl:n<=Xz:=X5 hl (by decide);apply Tx NM NZ NY (NX _);unfold Vc.«sorted»;refine ZB (m:=checkCount "sorted" 1 1 _) (X6 (ZB (kdu_collect S (by simp[hh]) ok nl fun h1 tk acc kk1 hit=>?_)));generalize hits:acc.toList=its;have hil:its.length=js.length:=by
  rw[<- hits,X4,hit.1,hn]
 have hj:its=js.map fun q=>WU q.1:=by
  refine UF fun i=>?_;rw[XA];cases e:js[i]? with
  | none =>
   rw[Tw] at e;rw[Tw.mpr (by lia)];rfl
  | some p =>
   have hi:=(XY.mp e).1;obtain⟨v,hv⟩:∃v,its[i]?=some v:=⟨_,X7 (by lia)⟩;rw[hv];have hv2:acc[i]?=some v:=by
    rw[<- Xx,hits];exact hv
   rw[hP i v p (hit.2 i v hv2) e];rfl
 have rv:∀{js:List (Addr×(Int×Int))},Vals (js.map fun q=>V.ref q.1) (js.map fun q=>WU q.1):=fun {js}=>by
  induction js with
  | nil=>exact .nil
  | cons a t ih=>exact .cons rfl ih
 have ht:∀{js:List (Addr×(Int×Int))},(∀q∈js,H q.1=some (.tup [.int q.2.1,.int q.2.2]))->yd H (js.map fun q=>V.ref q.1) (js.map (·.2)):=fun {js}=>by
  induction js with
  | nil=>exact fun _=>.nil
  | cons a t ih=>exact fun h=>.cons ⟨a.1,rfl,h a XS⟩ (ih fun q hq=>h q (XT _ hq))
 have hp0:WV (zw s.heap) its (js.map (·.2)):=by
  rw[hj];exact yd.pairs I (ht hTj) rv
 generalize hps:js.map (·.2)=ps at hp0 q;have hlp:its.length=ps.length:=Paired.length hp0;have W:=GS.zkU;have ip:∀q:Addr×(Int×Int),H q.1=some (.tup [.int q.2.1,.int q.2.2])->zw s.heap (.ref q.1) q.2:=fun q hq=>by
  have:=yd.pairs I (.cons ⟨q.1,rfl,hq⟩ .nil:yd H [V.ref q.1] [q.2]) (.cons rfl .nil:Vals [V.ref q.1] [WU q.1]);cases this with
  | cons h _=>exact h
 classical
 let r:X9->Int:=fun v=>if h:∃k,zw s.heap v k then GS.rkK lt2 ps h.choose else 0
 have rk_:∀{v:X9} {k:Int×Int},zw s.heap v k->r v=GS.rkK lt2 ps k:=fun {v k} h=>by
  have hx:∃k,zw s.heap v k:=⟨k,h⟩;show (if h:∃k,zw s.heap v k then GS.rkK lt2 ps h.choose else 0)=_;rw[dif_pos hx,GS.zeY hx.choose_spec h]
 have small:its.length<=Xz:=by rw[hil,<- hn];exact nl
 refine ZB (P8 ?_ small);have hoL:(h1.push (U2 "list" its.toArray 0)).get? h1.objs.size=some (U2 "list" its.toArray 0):=Xl _ rfl;have kL:∀b o,s.heap.get? b=some o->(h1.push (U2 "list" its.toArray 0)).get? b=some o:=fun b o e=>XZ _ (kk1 b o e);have ne:∀b o,s.heap.get? b=some o->b≠h1.objs.size:=fun b o e=>Xk (XO (kk1 b o e));show Xg _ _ _ _ _ { s with heap:=h1.push (U2 "list" its.toArray 0),toks:=tk };refine ZB (Wd (V9 OH ⟨_,hoL,rfl⟩ O5 (GS.za5 (s:={ s with heap:=h1.push (U2 "list" its.toArray 0),toks:=tk }) hoL small r (fun h2 s' kk=>?_) ?_) (OG _)))
 ·have hp':=JJ (fun b o e=>kk b o (ne b o e) (kL b o e)) hp0;obtain⟨fs,hk,hfl,hint⟩:=ZW hp';refine kat_kind (T:=.type "int") hk (by lia) (fun v hv=>?_) (by decide) ⟨rfl,fun x hx y hy C hC=>?_⟩
  ·obtain⟨x,t,rfl⟩:=hint v hv;exact Looks.of_pure rfl
  ·have mx:x.1∈its:=by
    rw[Vg] at hx;exact(TD hx).2
   have my:y.1∈its:=by
    rw[Vg] at hy;exact(TD hy).2
   obtain⟨k,k1,k2⟩:=GS.yG hp0 x.1 mx;obtain⟨k',k1',k2'⟩:=GS.yG hp0 y.1 my;have kp:∀{v:X9} {k:Int×Int},zw s.heap v k->zw s'.heap v k:=fun {v k} ⟨a,o,n,t,u,e,e1,r⟩=>⟨a,o,n,t,u,e,kk _ _ (ne _ _ e1) (kL _ _ e1),r⟩;have hC':C (decide (r x.1<r y.1)) s':=hC;rw[rk_ k2,rk_ k2',<- W.rank k1] at hC';exact zia (kp k2) (kp k2') hC'
 ·intro ws h' c hpm' hs kk ha;obtain⟨js',hjp',ej⟩:=ST.zao (fun q:Addr×(Int×Int)=>WU q.1) hpm' js hj;have I1:Inv X pins σ H { s with heap:=h1,toks:=tk }:=I.kept kk1;have hD:H h1.objs.size=none:=I1.hok.fresh (XW _);have hT':∀q∈js',H q.1=some (.tup [.int q.2.1,.int q.2.2]):=fun q hq=>hTj q (hjp'.mem_iff.mp hq);have rv':Vals (js'.map fun q=>V.ref q.1) ws:=by
   rw[ej];exact rv
  have hup:(js'.map (·.2)).Pairwise fun p q=>lt2 q p=false:=by
   rw[Wo];rw[ej,Wo] at hs;refine hs.imp_of_mem fun {x y} hx hy h1=>?_;rw[rk_ (ip x (hT' x hx)),rk_ (ip y (hT' y hy))] at h1;have my:y.2∈ps:=by
    rw[<- hps];exact XC.mpr ⟨y,hjp'.mem_iff.mp hy,rfl⟩
   have mx:x.2∈ps:=by
    rw[<- hps];exact XC.mpr ⟨x,hjp'.mem_iff.mp hx,rfl⟩
   rw[W.rank my];exact decide_eq_false (by lia)
  refine⟨_,rfl,X6 ⟨_,rfl,.ref h1.objs.size,upd H h1.objs.size (.lst (js'.map fun q=>V.ref q.1)),I1.laid (t':=tk) (fun b o e=>kk b o (Xk (XO e)) (XZ _ e)) (XW _) ⟨?_,_,c,rv',ha⟩,rfl,q _ _ _ hD (ht hT') (by rw[<- hps];exact hjp'.map _) hup⟩⟩;rw[rv'.length,hpm'.length_eq];exact small
end
section
variable {X:Cx}
def kPr (p:Int×Int):List Key:=[.inl p.1,.inl p.2]
theorem zo4 {pins:List (Addr×Obj)}{s:X8}{σ:St}{H:Hp}(I:Inv X pins σ H s){l:Addr}{kvs:List (List Key×V)}(hl:H l=some (.dT kvs)){ps:List (Int×Int)}(hk:kvs.map (·.1)=ps.map kPr) :
  ∃(o:Obj) (es:Array PU) (ep:Nat) (js:List (Addr×(Int×Int))),s.heap.get? l=some o/\o.ExactDict/\o.data=.dict es ep/\(l==UC)=false/\es.size=js.length/\js.map (·.2)=ps/\(∀(i:Nat) (v:X9) (q:Addr×(Int×Int)),(∃e:PU,es[i]?=some e/\v=e.key)->js[i]?=some q->v=WU q.1)/\(∀q∈js,H q.1=some (.tup [.int q.2.1,.int q.2.2])):=by
 obtain⟨hz,hS,xs,hkt,o,es,ep,ho,hc,hdd,he,hn⟩:=(show qM X.prog X.w H s.heap l (.dT kvs) from I.hok l _ hl);have hlx:xs.length=kvs.length:=(Paired.length hkt).symm;have hlp:kvs.length=ps.length:=by
  have:=congrArg List.length hk;rwa [Y1,Y1] at this
 have hes:es.size=xs.length:=by
  refine Nat.le_antisymm (PN fun z=>?_) (PN fun z=>?_)
  ·have h1:=entry_at he xs.length;rw[Tw.mpr (XW _),V3 z] at h1;cases h1
  ·have h1:=entry_at he es.size;rw[WQ (XW _),X7 z] at h1;cases h1
 refine⟨o,es,ep,(xs.map fun q=>q.2.1).zip ps,ho,hc,hdd,hS,?_,?_,?_,?_⟩
 ·rw[List.length_zip,Y1,hes];lia
 ·exact PB (by rw[Y1];lia)
 ·rintro i v q ⟨e,h1,rfl⟩ h2;rw[entry_at he i] at h1;obtain⟨h3,h4⟩:=Vq.mp h2;rw[XA] at h3;cases hx:xs[i]? with
  | none =>
   rw[hx] at h1;cases h1
  | some x =>
   rw[hx] at h1 h3;cases h1;have e3:x.2.1=q.1:=Option.some.inj h3;rw[<- e3];rfl
 ·intro q hq;obtain⟨i,hi⟩:=List.getElem?_of_mem hq;obtain⟨h3,h4⟩:=Vq.mp hi;rw[XA] at h3;cases hx:xs[i]? with
  | none =>
   rw[hx] at h3;cases h3
  | some x =>
   rw[hx] at h3;obtain⟨kv,hkv,hb⟩:=zkz hkt hx;have e1:(kvs.map (·.1))[i]?=some kv.1:=by
    rw[XA,hkv];rfl
   rw[hk,XA,h4] at e1;have e2:kPr q.2=kv.1:=Option.some.inj e1;have e3:x.2.1=q.1:=Option.some.inj h3;rw[<- e3,hb,<- e2];rfl
abbrev zo5 (xs:List V)(H:Hp)(Q:VK)(l:Addr)(kvs:List (List Key×V))(ps:List (Int×Int)):Prop:=H l=some (.dT kvs)/\kvs.map (·.1)=ps.map kPr/\ps.length<=1000000 /\
 ∀d us' ps',H d=none->yd H us' ps'->ps'.Perm ps->ps'.Pairwise (fun p q=>lt2 q p=false)->Q (.ref d) (upd H d (.lst us'))
def zhg (v d:Addr):HO:=.ext fun h=>Rg h v d
theorem zk3:MtM X "dict.keys" (fun x vs H Q=>∃d kvs,x=.ref d/\vs=[]/\H d=some (.dT kvs)/\∀v,H v=none->Q (.ref v) (upd H v (zhg v d))):=by
 intro pins s σ H x vs v us Q I rx rv h;obtain⟨d,kvs,rfl,rfl,hd,q⟩:=h;cases rx;cases rv;obtain⟨hz,hS,xs,hkt,o,es,ep,ho,hc,hdd,he,hn⟩:=(show qM X.prog X.w H s.heap d (.dT kvs) from I.hok d _ hd);have hT:s.TypeIs (.ref d) "dict":=⟨o,ho,hc.1⟩;refine V9 Pe hT PySem.F.entry_dict_keys ?_ (PySem.F.args_dict_keys_1 _);show Xg _ _ (RK "keys" ⟨[.ref d],[]⟩ >>= _) _ _ s;refine ZB ?_;unfold RK;refine ZB (Se hT ?_);show Xg _ _ (pure d) _ _ s;refine X6 ?_;show Xg _ _ (OU d >>= _) _ _ s;unfold OU;rw[if_neg (show ¬ (d==UC)=true by rw[hS];exact XX)];refine ZB (X6 (ZB (Wq (X6 ⟨_,rfl,?_⟩))));have hf:H s.heap.objs.size=none:=I.hok.fresh (XW _);have hv:Rg (s.heap.push { cls:=.type "dict_keys",data:=.fields #[.ref d] }) s.heap.objs.size d:=⟨_,Xl _ rfl,rfl,rfl⟩;refine⟨.ref s.heap.objs.size,upd H s.heap.objs.size (zhg s.heap.objs.size d),I.laid (t':=s.toks) (fun b u e=>XZ _ e) (XW _) ?_,rfl,q _ hf⟩;exact⟨hv,⟨_,Xl _ rfl⟩,fun g1 g2 ⟨o1,r1,r2,r3⟩ k=>⟨o1,k _ r1,r2,r3⟩⟩
theorem zdm (hh:X.A.handled=none):jT X (.builtin "sorted") (fun xs H Q=>∃v l kvs ps,xs=[.ref v]/\H v=some (zhg v l)/\zo5 xs H Q l kvs ps):=by
 intro pins s σ H xs us' Q I r h;obtain⟨v,l,kvs,ps,rfl,hv,hl,hk,hz,q⟩:=h;obtain⟨u,rfl,ru⟩:=vals1 r;cases ru;obtain⟨o,es,ep,js,ho,hc,hdd,hS,hn,hj,hP,hT⟩:=zo4 I hl hk;have hlen:js.length=ps.length:=by rw[<- hj,Y1]
 have hview:Rg s.heap v l:=(show qM X.prog X.w H s.heap v (zhg v l) from I.hok v _ hv).1;exact zhf hh I (zk2 hdd) ⟨hview,ho⟩ hn (by lia) hP hT (by rw[hj];exact q)
end
end L2
namespace Cells
def zY (p:Nat->Bool)(i:Nat):Nat->List Nat->List (Nat×Nat)
 | _,[]=>[]
 | j,c::r=>(if p c=true then [(i,j)] else [])++zY p i (j+1) r
def zJ (p:Nat->Bool):Nat->List (List Nat)->List (Nat×Nat)
 | _,[]=>[]
 | i,t::r=>zY p i 0 t++zJ p (i+1) r
theorem Z3 (p:Nat->Bool)(i:Nat):∀(j:Nat) (a b:List Nat),zY p i j (a++b)=zY p i j a++zY p i (j+a.length) b
 | j,[],b=>by simp[zY]
 | j,c::a,b=>by
  simp only[PK,zY,Z3 p i (j+1) a b,Xs,W2];rw[show j+1+a.length=j+(a.length+1) by lia]
theorem Z4 (p:Nat->Bool):∀(i:Nat) (a b:List (List Nat)),zJ p i (a++b)=zJ p i a++zJ p (i+a.length) b
 | i,[],b=>by simp[zJ]
 | i,t::a,b=>by
  simp only[PK,zJ,Z4 p (i+1) a b,Xs,W2];rw[show i+1+a.length=i+(a.length+1) by lia]
theorem QL {p:Nat->Bool}{i j c:Nat}{t:List Nat}(h:t[j]?=some c):zY p i 0 (t.take (j+1))=zY p i 0 (t.take j)++(if p c=true then [(i,j)] else []):=by
 rw[Xu,h,Z3];have hl:(t.take j).length=j:=by
  have:=(XY.mp h).1;rw[XE];lia
 simp[zY,hl]
theorem QM {p:Nat->Bool}{i:Nat}{t:List Nat}{rs:List (List Nat)}(h:rs[i]?=some t):zJ p 0 (rs.take (i+1))=zJ p 0 (rs.take i)++zY p i 0 t:=by
 rw[Xu,h,Z4];have hl:(rs.take i).length=i:=by
  have:=(XY.mp h).1;rw[XE];lia
 simp[zJ,hl]
theorem ye (p:Nat->Bool)(i:Nat):∀(j:Nat) (t:List Nat),(zY p i j t).length<=t.length
 | j,[]=>by simp[zY]
 | j,c::r=>by
  have:=ye p i (j+1) r;simp only[zY,XU,Xs];split<;>simp<;>lia
theorem jB (p:Nat->Bool):∀(i:Nat) (rs:List (List Nat)),(∀t∈rs,t.length<=8)->(zJ p i rs).length<=8*rs.length
 | i,[],_=>by simp[zJ]
 | i,t::r,h=>by
  have h1:=ye p i 0 t;have h2:=jB p (i+1) r fun u hu=>h u (XT _ hu);have h3:=h t XS;simp only[zJ,XU,Xs];lia
theorem Jy {p:Nat->Bool}{i:Nat}:∀{j:Nat} {t:List Nat} {x:Nat×Nat},x∈zY p i j t->∃m c,x=(i,j+m)/\t[m]?=some c/\p c=true
 | j,[],x,h=>by simp[zY] at h
 | j,c::r,x,h=>by
  simp only[zY,XG] at h;rcases h with h | h
  ·split at h
   ·rename_i hp;have:x=(i,j):=by simpa using h
    exact⟨0,c,this,rfl,hp⟩
   ·cases h
  ·obtain⟨m,c',e,h1,h2⟩:=Jy h;exact⟨m+1,c',by rw[e,show j+1+m=j+(m+1) by lia],by simpa using h1,h2⟩
theorem Jz {p:Nat->Bool}{i:Nat}{rs:List (List Nat)}{x:Nat×Nat}(h:x∈zJ p i rs):∃k j t c,x=(i+k,j)/\rs[k]?=some t/\t[j]?=some c/\p c=true:=by
 induction rs generalizing i with
 | nil=>simp[zJ] at h
 | cons t r ih =>
  simp only[zJ,XG] at h;rcases h with h | h
  ·obtain⟨m,c,e,h1,h2⟩:=Jy h;exact⟨0,m,t,c,by simpa using e,rfl,h1,h2⟩
  ·obtain⟨k,j,u,c,e,h1,h2,h3⟩:=ih h;exact⟨k+1,j,u,c,by rw[e,show i+1+k=i+(k+1) by lia],by simpa using h1,h2,h3⟩
def sgn (rs:List (List Nat))(x:Nat×Nat):Nat:=(rs.getD x.1 []).getD x.2 0
theorem zar {p q:Nat->Bool}{i:Nat}(f:Nat×Nat->Bool):∀(j:Nat) (t:List Nat),(∀m c,t[m]?=some c->f (i,j+m)=q c)->(zY p i j t).filter f=zY (fun c=>p c&&q c) i j t
 | j,[],_=>by simp[zY]
 | j,c::r,h=>by
  have ih:=zar (p:=p) (q:=q) (i:=i) f (j+1) r fun m c' hm=>by
   have:=h (m+1) c' (by simpa using hm);rw[show j+1+m=j+(m+1) by lia];exact this
  have h0:=h 0 c rfl;simp only[zY,W3,ih];congr 1;simp only[SG] at h0;by_cases hp:p c=true
  ·by_cases hq:q c=true
   ·simp[hp,hq,h0]
   ·simp[hp,hq,h0]
  ·simp[hp]
theorem zas {p q:Nat->Bool}(f:Nat×Nat->Bool):∀(i:Nat) (rs:List (List Nat)),(∀k t m c,rs[k]?=some t->t[m]?=some c->f (i+k,m)=q c)->(zJ p i rs).filter f=zJ (fun c=>p c&&q c) i rs
 | i,[],_=>by simp[zJ]
 | i,t::r,h=>by
  have ih:=zas (p:=p) (q:=q) f (i+1) r fun k u m c hk hm=>by
   have:=h (k+1) u m c (by simpa using hk) hm;rw[show i+1+k=i+(k+1) by lia];exact this
  simp only[zJ,W3,ih];rw[zar (p:=p) (q:=q) f 0 t fun m c hm=>by simpa using h 0 t m c rfl hm]
theorem ze1 {rs:List (List Nat)}{i j:Nat}{t:List Nat}{c:Nat}(h:rs[i]?=some t)(h2:t[j]?=some c):sgn rs (i,j)=c:=by
 unfold sgn;simp[List.getD,h,h2]
theorem all_filter {p q:Nat->Bool}(rs:List (List Nat)):(zJ p 0 rs).filter (fun x=>q (sgn rs x))=zJ (fun c=>p c&&q c) 0 rs :=
 zas _ 0 rs fun k t m c hk hm=>by rw[show 0+k=k by lia,ze1 hk hm]
theorem zfX {p q:Nat->Bool}(h:∀c,p c=q c)(i:Nat)(rs:List (List Nat)):zJ p i rs=zJ q i rs:=by
 rw[show p=q from funext h]
def near (x y:Nat×Nat):Bool:=decide ((if (x.1:Int)-(y.1:Int)<0 then -((x.1:Int)-(y.1:Int)) else (x.1:Int)-(y.1:Int))<2)&&(decide ((if (x.2:Int)-(y.2:Int)<0 then -((x.2:Int)-(y.2:Int)) else (x.2:Int)-(y.2:Int))<2) && !decide (x=y))
theorem YE (x y:Nat×Nat):near x y=true↔(x.1<=y.1+1/\y.1<=x.1+1)/\(x.2<=y.2+1/\y.2<=x.2+1)/\¬ x=y:=by
 unfold near;rw[Wa,Wa,decide_eq_true_iff,decide_eq_true_iff,WE,decide_eq_false_iff_not];constructor
 ·rintro⟨h1,h2,h3⟩;refine⟨?_,?_,h3⟩
  ·split at h1<;>lia
  ·split at h2<;>lia
 ·rintro⟨h1,h2,h3⟩;refine⟨?_,?_,h3⟩
  ·split<;>lia
  ·split<;>lia
def lex (a b:Nat×Nat):Prop:=a.1<b.1\/(a.1=b.1/\a.2<b.2)
theorem zdW (p:Nat->Bool)(i:Nat):∀(j:Nat) (t:List Nat),(zY p i j t).Pairwise lex
 | j,[]=>by simp[zY]
 | j,c::r=>by
  simp only[zY];rw[TK];refine⟨?_,zdW p i (j+1) r,fun a ha b hb=>?_⟩
  ·split<;>simp
  ·split at ha
   ·have e:a=(i,j):=by simpa using ha
    obtain⟨m,c',e',_,_⟩:=Jy hb;subst e e';exact .inr ⟨rfl,by show j<j+1+m;lia⟩
   ·cases ha
theorem JA (p:Nat->Bool):∀(i:Nat) (rs:List (List Nat)),(zJ p i rs).Pairwise lex
 | i,[]=>by simp[zJ]
 | i,t::r=>by
  simp only[zJ];rw[TK];refine⟨zdW p i 0 t,JA p (i+1) r,fun a ha b hb=>?_⟩;obtain⟨m,c,e,_,_⟩:=Jy ha;obtain⟨k,j,u,c',e',_,_,_⟩:=Jz hb;subst e e';exact .inl (by show i<i+1+k;lia)
theorem zk4 {p:Nat->Bool}{f:Nat×Nat->Bool}{n:Nat}{rs:List (List Nat)}(h:∀r c,r<n->f (r,c)=false):(zJ p 0 (rs.take n)).filter f=[]:=by
 rw[VZ];intro x hx;obtain⟨k,j,t,c,e,hk,_,_⟩:=Jz hx;have hkl:k<n:=by
  have:=(XY.mp hk).1;rw[XE] at this;lia
 subst e;rw[h _ _ (by lia)];exact XX
theorem zju {p:Nat->Bool}{f:Nat×Nat->Bool}{n:Nat}{rs:List (List Nat)}(h:∀r c,n<=r->f (r,c)=false):(zJ p 0 (rs.take n)).filter f=(zJ p 0 rs).filter f:=by
 by_cases hn:n<=rs.length
 ·have e:=Wx n rs;have e2:zJ p 0 rs=zJ p 0 (rs.take n)++zJ p (0+(rs.take n).length) (rs.drop n):=by rw[<- Z4,e]
  rw[e2,W3];have z:(zJ p (0+(rs.take n).length) (rs.drop n)).filter f=[]:=by
   rw[VZ];intro x hx;obtain⟨k,j,t,c,e,hk,_,_⟩:=Jz hx;subst e;rw[XE,h _ _ (by lia)];exact XX
  rw[z,Xa]
 ·rw[Ww (by lia)]
theorem zk5 {p:Nat->Bool}{f:Nat×Nat->Bool}{i n:Nat}{t:List Nat}(h:∀c,c<n->f (i,c)=false):(zY p i 0 (t.take n)).filter f=[]:=by
 rw[VZ];intro x hx;obtain⟨m,c,e,hm,_⟩:=Jy hx;have hml:m<n:=by
  have:=(XY.mp hm).1;rw[XE] at this;lia
 subst e;rw[h _ (by lia)];exact XX
theorem zjv {p:Nat->Bool}{f:Nat×Nat->Bool}{i n:Nat}{t:List Nat}(h:∀c,n<=c->f (i,c)=false):(zY p i 0 (t.take n)).filter f=(zY p i 0 t).filter f:=by
 by_cases hn:n<=t.length
 ·have e:=Wx n t;have e2:zY p i 0 t=zY p i 0 (t.take n)++zY p i (0+(t.take n).length) (t.drop n):=by rw[<- Z3,e]
  rw[e2,W3];have z:(zY p i (0+(t.take n).length) (t.drop n)).filter f=[]:=by
   rw[VZ];intro x hx;obtain⟨m,c,e,hm,_⟩:=Jy hx;subst e;rw[XE,h _ (by lia)];exact XX
  rw[z,Xa]
 ·rw[Ww (by lia)]
end Cells
namespace Parts
abbrev C:=Nat×Nat
structure Good (cl:C->List C)(done:List C)(gs:List (List C)):Prop where
 ne:∀g∈gs,g ≠ []
 nd:gs.flatten.Nodup
 from_:∀x∈gs.flatten,∃o∈done,x∈cl o
 cov:∀o∈done,cl o ≠ []->∃g∈gs,∀x∈cl o,x∈g
 con:∀g∈gs,∀S:C->Prop,(∀o∈done,(∃x∈cl o,S x)->∀x∈cl o,S x)->(∃x∈g,S x)->∀x∈g,S x
 srt:∀g∈gs,g.Pairwise Cells.lex
theorem Good.start (cl:C->List C):Good cl [] []:=⟨(fun _ h=>nomatch h),TQ,(fun _ h=>nomatch h),(fun _ h=>nomatch h),(fun _ h=>nomatch h),(fun _ h=>nomatch h)⟩
theorem Good.skip {cl:C->List C}{done:List C}{gs:List (List C)}(G:Good cl done gs){o:C}(h:cl o=[]):Good cl (done++[o]) gs:=by
 refine⟨G.ne,G.nd,fun x hx=>?_,fun p hp hn=>?_,fun g hg S hS=>G.con g hg S fun p hp=>hS p (WZ _ hp),G.srt⟩
 ·obtain⟨p,hp,hx⟩:=G.from_ x hx;exact⟨p,WZ _ hp,hx⟩
 ·rcases XG.mp hp with hp | hp
  ·exact G.cov p hp hn
  ·have e:p=o:=by simpa using hp
   subst e;exact absurd h hn
theorem zdX {gs:List (List C)}(nd:gs.flatten.Nodup):∀{g g':List C} {x:C},g∈gs->g'∈gs->x∈g->x∈g'->g=g':=by
 induction gs with
 | nil=>intro g g' x h;cases h
 | cons a r ih =>
  rw[WM,V7] at nd;obtain⟨_,h2,h3⟩:=nd;intro g g' x hg hg' hx hx';rcases XJ.mp hg with e1 | g1
  ·rcases XJ.mp hg' with e2 | g2
   ·rw[e1,e2]
   ·exact absurd rfl (h3 x (e1 ▸ hx) x (Ws.mpr ⟨g',g2,hx'⟩))
  ·rcases XJ.mp hg' with e2 | g2
   ·exact absurd rfl (h3 x (e2 ▸ hx') x (Ws.mpr ⟨g,g1,hx⟩))
   ·exact ih h2 g1 g2 hx hx'
theorem ja (p:List C->Bool):∀gs:List (List C),(gs.filter p).flatten.Sublist gs.flatten
 | []=>List.Sublist.refl _
 | a::r=>by
  rw[Wv,WM];split
  ·rw[WM];exact List.Sublist.append (List.Sublist.refl _) (ja p r)
  ·exact List.Sublist.trans (ja p r) (Ri _ _)
def meets (g0 g:List C):Bool:=!(g.filter fun c=>g0.any fun x=>decide (x=c)).isEmpty
theorem Zu {g0 g:List C}:meets g0 g=true ↔ ∃x∈g,x∈g0:=by
 unfold meets;rw[WE,UN];constructor
 ·intro h;obtain⟨x,hx⟩:=Tv _ h;rw[XV,Wu] at hx;obtain⟨h1,y,h2,h3⟩:=hx;have e:y=x:=of_decide_eq_true h3;subst e;exact⟨y,h1,h2⟩
 ·rintro⟨x,h1,h2⟩ hn;have:x∈g.filter fun c=>g0.any fun x=>decide (x=c):=XV.mpr ⟨h1,Wu.mpr ⟨x,h2,decide_eq_true rfl⟩⟩;rw[hn] at this;cases this
def whole (w:List C):List (List C)->List C
 | []=>w
 | g::r=>whole (w++g.filter fun c=>!(w.any fun x=>decide (x=c))) r
theorem zau (w:List C)(c:C):(w.any fun x=>decide (x=c))=true↔c∈w:=by
 rw[Wu];constructor
 ·rintro⟨x,h1,h2⟩;have e:x=c:=of_decide_eq_true h2;subst e;exact h1
 ·intro h;exact⟨c,h,decide_eq_true rfl⟩
theorem za6 {x:C}:∀{w:List C} {ms:List (List C)},x∈whole w ms↔x∈w\/∃m∈ms,x∈m
 | w,[]=>by simp[whole]
 | w,g::r=>by
  rw[whole,za6,XG,XV];constructor
  ·rintro((h | ⟨h,_⟩) | ⟨m,hm,h⟩)
   ·exact .inl h
   ·exact .inr ⟨g,XS,h⟩
   ·exact .inr ⟨m,XT _ hm,h⟩
  ·rintro(h | ⟨m,hm,h⟩)
   ·exact .inl (.inl h)
   ·rcases XJ.mp hm with rfl | hm
    ·by_cases hw:x∈w
     ·exact .inl (.inl hw)
     ·refine .inl (.inr ⟨h,?_⟩);rw[WE,Xy];exact fun z=>hw ((zau w x).mp z)
    ·exact .inr ⟨m,hm,h⟩
theorem YF:∀{w:List C} {ms:List (List C)},w.Nodup->(∀m∈ms,m.Nodup)->(whole w ms).Nodup
 | w,[],h,_=>h
 | w,g::r,h,hm=>by
  rw[whole];refine YF ?_ fun m hm'=>hm m (XT _ hm');rw[V7];refine⟨h,(hm g XS).sublist Wc,fun a ha b hb e=>?_⟩;subst e;have hb2:=(XV.mp hb).2;rw[(zau w a).mpr ha] at hb2;cases hb2
theorem Good.step {cl:C->List C}{done:List C}{gs:List (List C)}(G:Good cl done gs){o:C}(h:cl o ≠ [])(hn:(cl o).Nodup){rest:List (List C)}{w:List C}(hr:rest=gs.filter fun g=>!((gs.filter (meets (cl o))).any fun m=>decide (m=g)))
  (hw:w.Perm (whole (cl o) (gs.filter (meets (cl o))))) (hs:w.Pairwise Cells.lex):Good cl (done++[o]) (rest++[w]):=by
 have mr:∀g,g∈rest↔g∈gs/\¬ ∃x∈g,x∈cl o:=fun g=>by
  rw[hr,XV,WE,Xy];constructor
  ·rintro⟨h1,h2⟩;exact⟨h1,fun h3=>h2 (Wu.mpr ⟨g,XV.mpr ⟨h1,Zu.mpr h3⟩,decide_eq_true rfl⟩)⟩
  ·rintro⟨h1,h2⟩;refine⟨h1,fun h3=>?_⟩;obtain⟨m,hm,e⟩:=Wu.mp h3;have e':m=g:=of_decide_eq_true e;subst e';exact h2 (Zu.mp (XV.mp hm).2)
 have mw:∀x,x∈w↔x∈cl o\/∃g∈gs,(∃y∈g,y∈cl o)/\x∈g:=fun x=>by
  rw[hw.mem_iff,za6];constructor
  ·rintro(h1 | ⟨m,hm,h1⟩)
   ·exact .inl h1
   ·obtain⟨h2,h3⟩:=XV.mp hm;exact .inr ⟨m,h2,Zu.mp h3,h1⟩
  ·rintro(h1 | ⟨g,h2,h3,h1⟩)
   ·exact .inl h1
   ·exact .inr ⟨g,XV.mpr ⟨h2,Zu.mpr h3⟩,h1⟩
 have gn:∀g∈gs,g.Nodup:=fun g hg=>G.nd.sublist (VF hg);have wn:w.Nodup:=hw.nodup_iff.mpr (YF hn fun m hm=>gn m (XV.mp hm).1);refine⟨fun g hg=>?_,?_,fun x hx=>?_,fun p hp hne=>?_,fun g hg S hS=>?_,fun g hg=>?_⟩
 ·rcases XG.mp hg with hg | hg
  ·exact G.ne g ((mr g).mp hg).1
  ·have e:g=w:=by simpa using hg
   subst e;obtain⟨x,hx⟩:=Tv _ h;exact SY ((mw x).mpr (.inl hx))
 ·rw[Wt,V7];refine⟨G.nd.sublist (by rw[hr];exact ja _ gs),by simpa using wn,fun a ha b hb e=>?_⟩;subst e;have hb':a∈w:=by simpa using hb
  obtain⟨g,hg,hx⟩:=Ws.mp ha;obtain⟨g1,g2⟩:=(mr g).mp hg;rcases(mw a).mp hb' with h1 | ⟨m,m1,m2,m3⟩
  ·exact g2 ⟨a,hx,h1⟩
  ·have e:=zdX G.nd g1 m1 hx m3;subst e;exact g2 m2
 ·rw[Wt] at hx;rcases XG.mp hx with hx | hx
  ·obtain⟨g,hg,hx⟩:=Ws.mp hx;obtain⟨p,hp,hx⟩:=G.from_ x (Ws.mpr ⟨g,((mr g).mp hg).1,hx⟩);exact⟨p,WZ _ hp,hx⟩
  ·have hx':x∈w:=by simpa using hx
   rcases(mw x).mp hx' with h1 | ⟨g,g1,_,g3⟩
   ·exact⟨o,by simp,h1⟩
   ·obtain⟨p,hp,hx⟩:=G.from_ x (Ws.mpr ⟨g,g1,g3⟩);exact⟨p,WZ _ hp,hx⟩
 ·rcases XG.mp hp with hp | hp
  ·obtain⟨g,hg,hx⟩:=G.cov p hp hne;by_cases hm:∃x∈g,x∈cl o
   ·exact⟨w,by simp,fun x hx'=>(mw x).mpr (.inr ⟨g,hg,hm,hx x hx'⟩)⟩
   ·exact⟨g,WZ _ ((mr g).mpr ⟨hg,hm⟩),hx⟩
  ·have e:p=o:=by simpa using hp
   subst e;exact⟨w,by simp,fun x hx=>(mw x).mpr (.inl hx)⟩
 ·have hS':∀p∈done,(∃x∈cl p,S x)->∀x∈cl p,S x:=fun p hp=>hS p (WZ _ hp);rcases XG.mp hg with hg | hg
  ·exact G.con g ((mr g).mp hg).1 S hS'
  ·have e:g=w:=by simpa using hg
   subst e;rintro⟨x,hx,sx⟩;have all0:∀y∈cl o,S y:=by
    refine hS o (by simp) ?_;rcases(mw x).mp hx with h1 | ⟨m,m1,⟨y,y1,y2⟩,m3⟩
    ·exact⟨x,h1,sx⟩
    ·exact⟨y,y2,G.con m m1 S hS' ⟨x,m3,sx⟩ y y1⟩
   intro z hz;rcases(mw z).mp hz with h1 | ⟨m,m1,⟨y,y1,y2⟩,m3⟩
   ·exact all0 z h1
   ·exact G.con m m1 S hS' ⟨y,y1,all0 y y2⟩ z m3
 ·rcases XG.mp hg with hg | hg
  ·exact G.srt g ((mr g).mp hg).1
  ·have e:g=w:=by simpa using hg
   subst e;exact hs
theorem Good.perm {cl:C->List C}{done:List C}{gs gs':List (List C)}(G:Good cl done gs)(h:gs'.Perm gs):Good cl done gs':=by
 refine⟨fun g hg=>G.ne g (h.mem_iff.mp hg),h.flatten.nodup_iff.mpr G.nd,fun x hx=>G.from_ x (h.flatten.mem_iff.mp hx),fun o ho hn=>?_,fun g hg=>G.con g (h.mem_iff.mp hg),fun g hg=>G.srt g (h.mem_iff.mp hg)⟩;obtain⟨g,hg,hx⟩:=G.cov o ho hn;exact⟨g,h.mem_iff.mpr hg,hx⟩
theorem YG:∀{gs:List (List C)},(∀g∈gs,g ≠ [])->gs.length<=gs.flatten.length
 | [],_=>XW _
 | g::r,h=>by
  have ih:=YG (gs:=r) fun x hx=>h x (XT _ hx);have:1<=g.length:=List.length_pos_iff.mpr (h g XS);rw[WM,XU,Xs];lia
theorem yf:∀{a b:List C},a.Nodup->(∀x∈a,x∈b)->a.length<=b.length
 | [],_,_,_=>W5 _
 | x::r,b,h,s=>by
  obtain⟨h1,h2⟩:=VJ.mp h;have hx:=s x XS;have ih:=yf (a:=r) (b:=b.erase x) h2 fun y hy=>(List.mem_erase_of_ne (fun (e:y=x)=>h1 (by rw[<- e];exact hy))).mpr (s y (XT _ hy));rw[List.length_erase_of_mem hx] at ih;have:=Ub hx;rw[Xs];lia
end Parts
namespace Subs
variable {α:Type}
def step (S:List (List α))(c:α):List (List α):=S++S.map (·++[c])
def subs (cs:List α):List (List α):=cs.foldl step [[]]
def pick:List α->Nat->List α
 | [],_=>[]
 | c::r,b=>(if b%2=1 then [c] else [])++pick r (b/2)
theorem zdY (cs:List α)(c:α):subs (cs++[c])=step (subs cs) c:=by
 unfold subs;rw[Sv];rfl
theorem ziq:∀(cs:List α) (c:α) (b:Nat),b<2^cs.length->pick (cs++[c]) b=pick cs b
 | [],c,b,h=>by
  have:b=0:=by
   simp at h;lia
  subst this;rfl
 | d::r,c,b,h=>by
  show _++pick (r++[c]) (b/2)=_++pick r (b/2);rw[ziq r c (b/2) (by
   rw[Xs,Ug] at h;lia)]
theorem zir:∀(cs:List α) (c:α) (b:Nat),b<2^cs.length->pick (cs++[c]) (2^cs.length+b)=pick cs b++[c]
 | [],c,b,h=>by
  have:b=0:=by
   simp at h;lia
  subst this;rfl
 | d::r,c,b,h=>by
  rw[Xs,Ug] at h;show (if (2^(r.length+1)+b)%2=1 then [d] else [])++pick (r++[c]) ((2^(r.length+1)+b)/2)=((if b%2=1 then [d] else [])++pick r (b/2))++[c];have e1:(2^(r.length+1)+b)%2=b%2:=by
   rw[Ug];lia
  have e2:(2^(r.length+1)+b)/2=2^r.length+b/2:=by
   rw[Ug];lia
  rw[e1,e2,zir r c (b/2) (by lia),W2]
theorem Qa (cs:List α):subs cs=(XD (2^cs.length)).map (pick cs):=by
 rw[<- OA cs];induction cs.reverse with
 | nil=>rfl
 | cons c r ih =>
  rw[List.reverse_cons,zdY,ih,XU,O2,Ug,Nat.mul_two,List.range_add,Xj,WR];unfold step;rw[WR];congr 1
  ·refine Xi fun b hb=>?_;exact(ziq _ _ _ (Xc.mp hb)).symm
  ·refine Xi fun b hb=>?_;exact(zir _ _ _ (Xc.mp hb)).symm
end Subs
namespace Grow
variable {α β:Type}
def cnt (near:β->α->Bool)(o:β)(p:List α):Nat:=(p.filter (near o)).length
def zcu (near:β->α->Bool)(num:β->Int)(rest:List α)(o:β)(p:List α):Bool:=decide (num o-((cnt near o rest:Nat):Int)<=((cnt near o p:Nat):Int))&&decide (((cnt near o p:Nat):Int)<=num o)
def chk (near:β->α->Bool)(num:β->Int)(O:List β)(c:α)(rest:List α)(p:List α):Bool:=(O.filter fun o=>near o c).all fun o=>zcu near num rest o p
def grow (near:β->α->Bool)(num:β->Int)(O:List β):List (List α)->List α->List (List α)
 | F,[]=>F
 | F,c::rest=>grow near num O ((Subs.step F c).filter (chk near num O c rest)) rest
def good (near:β->α->Bool)(num:β->Int)(O:List β)(done rest:List α)(p:List α):Bool:=(O.filter fun o=>done.any (near o)).all fun o=>zcu near num rest o p
theorem cnt_cons (near:β->α->Bool)(o:β)(c:α)(r:List α):cnt near o (c::r)=cnt near o r+if near o c=true then 1 else 0:=by
 unfold cnt;rw[Wv];split<;>rfl
theorem zfY (near:β->α->Bool)(o:β)(p:List α)(c:α):cnt near o (p++[c])=cnt near o p+if near o c=true then 1 else 0:=by
 unfold cnt;rw[W3,XU];congr 1;rw[Wv];split<;>rfl
theorem yD {near:β->α->Bool}{num:β->Int}{rest:List α}{o:β}{p:List α}:zcu near num rest o p=true↔num o-((cnt near o rest:Nat):Int)<=((cnt near o p:Nat):Int)/\((cnt near o p:Nat):Int)<=num o:=by
 unfold zcu;rw[Wa,decide_eq_true_eq,decide_eq_true_eq]
theorem zis {near:β->α->Bool}{num:β->Int}{O:List β}{c:α}{rest p:List α}:chk near num O c rest p=true ↔ ∀o∈O,near o c=true->zcu near num rest o p=true:=by
 unfold chk;rw[WL];exact⟨fun h o ho hn=>h o (XV.mpr ⟨ho,hn⟩),fun h o ho=>h o (XV.mp ho).1 (XV.mp ho).2⟩
theorem YH {near:β->α->Bool}{num:β->Int}{O:List β}{done rest p:List α}:good near num O done rest p=true ↔ ∀o∈O,done.any (near o)=true->zcu near num rest o p=true:=by
 unfold good;rw[WL];exact⟨fun h o ho hn=>h o (XV.mpr ⟨ho,hn⟩),fun h o ho=>h o (XV.mp ho).1 (XV.mp ho).2⟩
theorem Zv (near:β->α->Bool)(o:β)(done:List α)(c:α):(done++[c]).any (near o)=true↔done.any (near o)=true\/near o c=true:=by
 rw[List.any_append,RN];simp
theorem zm0 (near:β->α->Bool)(num:β->Int)(O:List β)(done rest:List α)(c:α)(p:List α):(good near num O done (c::rest) p&&chk near num O c rest p)=good near num O (done++[c]) rest p:=by
 rw[Wz,Wa,YH,zis,YH];constructor
 ·rintro⟨h1,h2⟩ o ho hn;by_cases hc:near o c=true
  ·exact h2 o ho hc
  ·have:=h1 o ho (((Zv near o done c).mp hn).resolve_right hc);rw[yD,cnt_cons,if_neg hc] at this;exact yD.mpr this
 ·intro h;refine⟨fun o ho hn=>?_,fun o ho hc=>h o ho ((Zv near o done c).mpr (.inr hc))⟩;have:=yD.mp (h o ho ((Zv near o done c).mpr (.inl hn)));rw[yD,cnt_cons];split<;>lia
theorem zm1 (near:β->α->Bool)(num:β->Int)(O:List β)(done rest:List α)(c:α)(p:List α):(good near num O done (c::rest) p&&chk near num O c rest (p++[c]))=good near num O (done++[c]) rest (p++[c]):=by
 rw[Wz,Wa,YH,zis,YH];constructor
 ·rintro⟨h1,h2⟩ o ho hn;by_cases hc:near o c=true
  ·exact h2 o ho hc
  ·have:=h1 o ho (((Zv near o done c).mp hn).resolve_right hc);rw[yD,cnt_cons,if_neg hc] at this;rw[yD,zfY,if_neg hc];exact this
 ·intro h;refine⟨fun o ho hn=>?_,fun o ho hc=>h o ho ((Zv near o done c).mpr (.inr hc))⟩;have:=yD.mp (h o ho ((Zv near o done c).mpr (.inl hn)));rw[zfY] at this;rw[yD,cnt_cons];split at this<;>rename_i hc
  ·rw[if_pos hc];lia
  ·rw[if_neg hc];lia
theorem zjw (near:β->α->Bool)(num:β->Int)(O:List β)(done rest:List α)(c:α)(S:List (List α)):(Subs.step (S.filter (good near num O done (c::rest))) c).filter (chk near num O c rest)=(Subs.step S c).filter (good near num O (done++[c]) rest):=by
 unfold Subs.step;rw[W3,W3];congr 1
 ·rw[Rt];refine Vb fun p _=>?_;rw[<- zm0,RZ]
 ·rw[T6,T6,Rt];congr 1;refine Vb fun p _=>?_;show (chk near num O c rest (p++[c])&&good near num O done (c::rest) p)=good near num O (done++[c]) rest (p++[c]);rw[<- zm1,RZ]
theorem zdZ (near:β->α->Bool)(num:β->Int)(O:List β):∀(rest done:List α) (S:List (List α)),grow near num O (S.filter (good near num O done rest)) rest=(rest.foldl Subs.step S).filter (good near num O (done++rest) [])
 | [],done,S=>by
  rw[Xa];rfl
 | c::r,done,S=>by
  show grow near num O ((Subs.step (S.filter (good near num O done (c::r))) c).filter (chk near num O c r)) r=_;rw[zjw,zdZ near num O r (done++[c]) (Subs.step S c),W2];rfl
def fits (near:β->α->Bool)(num:β->Int)(O:List β)(part:List α)(p:List α):Bool:=(O.filter fun o=>part.any (near o)).all fun o=>decide (((cnt near o p:Nat):Int)=num o)
theorem zm2 (near:β->α->Bool)(num:β->Int)(O:List β)(part:List α):grow near num O [[]] part=(Subs.subs part).filter (fits near num O part):=by
 have h:=zdZ near num O part [] [[]];have e:([[]]:List (List α)).filter (good near num O [] part)=[[]]:=by
  have:good near num O [] part []=true:=YH.mpr fun o _ hn=>by simp at hn
  rw[Wv,if_pos this];rfl
 rw[e] at h;rw[h];show (Subs.subs part).filter _=_;refine Vb fun p _=>?_;rw[RP];unfold good fits;congr 1;funext o;rw[Wz,yD,decide_eq_true_eq];show num o-((0:Nat):Int)<=_/\_↔_;lia
end Grow
namespace Cnt
variable {α:Type}
def Je (g:Nat)(ks:List (List α)):List Int:=(XD (g+1)).map fun n=>((ks.countP fun k=>decide (k.length=n):Nat):Int)
theorem zav (g:Nat)(ks:List (List α)):(Je g ks).length=g+1:=by
 unfold Je;rw[Y1,W8]
theorem zk6 (g:Nat):Je g ([]:List (List α))=WN (g+1) 0:=by
 unfold Je;refine List.eq_replicate_iff.mpr ⟨by rw[Y1,W8],fun b hb=>?_⟩;obtain⟨n,_,rfl⟩:=XC.mp hb;rfl
theorem zcv {g n:Nat}(ks:List (List α))(h:n<=g):(Je g ks)[n]?=some ((ks.countP fun k=>decide (k.length=n):Nat):Int):=by
 unfold Je;rw[XA,Uv (by lia)];rfl
theorem zjx {g:Nat}(ks:List (List α)){k:List α}(h:k.length<=g):Je g (ks++[k])=(Je g ks).set k.length (((ks.countP fun x=>decide (x.length=k.length):Nat):Int)+1):=by
 refine UF fun n=>?_;rw[List.getElem?_set];by_cases hn:n<=g
 ·rw[zcv _ hn,zcv _ hn,zav,Vk];by_cases e:k.length=n
  ·rw[if_pos e,if_pos (by lia)];subst e;simp
  ·rw[if_neg e];simp[e]
 ·have e1:∀xs:List (List α),(Je g xs)[n]?=none:=fun xs=>UR (by rw[zav];lia);rw[e1,e1,zav,if_neg (by lia)]
theorem za7 {g:Nat}{as bs:List (List α)}(h:as.Perm bs):Je g as=Je g bs:=by
 unfold Je;refine Xi fun n _=>?_;rw[h.countP_eq]
end Cnt
namespace Pour
def S (h:Nat->Int):Nat->Int
 | 0=>0
 | n+1=>S h n+h n
def F (xs:List Int)(i:Nat):Int:=(xs[i]?).getD 0
def hk (xs ys:List Int)(k i:Nat):Int:=if i<=k then F xs i*F ys (k-i) else 0
def Zc (xs ys:List Int):List Int:=(XD (xs.length+ys.length-1)).map fun k=>S (hk xs ys k) xs.length
def part (xs ys:List Int)(i j k:Nat):Int:=S (hk xs ys k) i+(if i<=k/\k-i<j then F xs i*F ys (k-i) else 0)
def st (xs ys:List Int)(i j:Nat):List Int:=(XD (xs.length+ys.length-1)).map (part xs ys i j)
theorem zcw {xs:List Int}{i:Nat}(h:xs.length<=i):F xs i=0:=by
 unfold F;rw[UR h];rfl
theorem zm3 {xs:List Int}{i:Nat}{x:Int}(h:xs[i]?=some x):F xs i=x:=by
 unfold F;rw[h];rfl
theorem J4 {f g:Nat->Int}:∀n,(∀i,i<n->f i=g i)->S f n=S g n
 | 0,_=>rfl
 | n+1,h=>by
  show S f n+f n=S g n+g n;rw[J4 n fun i hi=>h i (by lia),h n (by lia)]
theorem zk7 {f:Nat->Int}{n:Nat}:∀m,(∀i,n<=i->i<n+m->f i=0)->S f (n+m)=S f n
 | 0,_=>rfl
 | m+1,h=>by
  show S f (n+m)+f (n+m)=S f n;rw[zk7 m fun i h1 h2=>h i h1 (by lia),h (n+m) (by lia) (by lia),RD]
theorem zm4 {f:Nat->Int}{n m:Nat}(hm:n<=m)(h:∀i,n<=i->i<m->f i=0):S f m=S f n:=by
 obtain⟨d,rfl⟩:∃d,m=n+d:=⟨m-n,by lia⟩;exact zk7 d h
theorem zo6 (xs ys:List Int)(k:Nat):S (hk xs ys k) xs.length=S (fun i=>F xs i*F ys (k-i)) (k+1):=by
 have e1:S (fun i=>F xs i*F ys (k-i)) (k+1)=S (hk xs ys k) (k+1):=J4 _ fun i hi=>by
  unfold hk;rw[if_pos (by lia)]
 rw[e1];by_cases c:xs.length<=k+1
 ·refine(zm4 c fun i h1 _=>?_).symm;unfold hk;rw[zcw h1];split<;>simp
 ·refine zm4 (by lia) fun i h1 _=>?_;unfold hk;rw[if_neg (by lia)]
theorem zhh (xs ys:List Int)(i j:Nat):(st xs ys i j).length=xs.length+ys.length-1:=by
 unfold st;rw[Y1,W8]
theorem zhi {xs ys:List Int}{i j k:Nat}(h:k<xs.length+ys.length-1):(st xs ys i j)[k]?=some (part xs ys i j k):=by
 unfold st;rw[XA,Uv h];rfl
theorem zk8 (xs ys:List Int):st xs ys 0 0=WN (xs.length+ys.length-1) 0:=by
 unfold st;have e:∀k,part xs ys 0 0 k=0:=fun k=>by
  unfold part;rw[if_neg (by lia)];rfl
 refine(Xi (g:=fun _=>(0:Int)) fun k _=>e k).trans ?_;rw[List.map_const',W8]
theorem zk9 (xs ys:List Int)(i k:Nat):part xs ys i ys.length k=part xs ys (i+1) 0 k:=by
 unfold part;rw[if_neg (show ¬ (i+1<=k/\k-(i+1)<0) by lia),RD];show _=S (hk xs ys k) i+hk xs ys k i;congr 1;unfold hk;by_cases c:i<=k
 ·by_cases d:k-i<ys.length
  ·rw[if_pos ⟨c,d⟩,if_pos c]
  ·rw[if_neg (fun z=>d z.2),if_pos c,zcw (show ys.length<=k-i by lia),NW]
 ·rw[if_neg (fun z=>c z.1),if_neg c]
theorem zo7 (xs ys:List Int)(i:Nat):st xs ys i ys.length=st xs ys (i+1) 0:=by
 unfold st;exact Xi fun k _=>zk9 xs ys i k
theorem zm5 {xs ys:List Int}{i j:Nat}{x y:Int}(hx:xs[i]?=some x)(hy:ys[j]?=some y):(st xs ys i j).set (i+j) (part xs ys i j (i+j)+x*y)=st xs ys i (j+1):=by
 have hi:i<xs.length:=(XY.mp hx).1;have hj:j<ys.length:=(XY.mp hy).1;apply UF;intro k;rw[List.getElem?_set];by_cases c:k<xs.length+ys.length-1
 ·rw[zhi c,zhi c];by_cases e:i+j=k
  ·subst e;rw[if_pos rfl,if_pos (by rw[zhh];exact c)];congr 1;unfold part;rw[if_neg (by lia),if_pos (by lia),RD,zm3 hx,SS,zm3 hy]
  ·rw[if_neg e];congr 1;unfold part;congr 1;by_cases d:i<=k/\k-i<j
   ·rw[if_pos d,if_pos (by lia)]
   ·rw[if_neg d,if_neg (by lia)]
 ·have n1:∀j',(st xs ys i j')[k]?=none:=fun j'=>UR (by rw[zhh];lia);rw[n1,n1];by_cases e:i+j=k
  ·lia
  ·rw[if_neg e]
theorem zo8 (xs ys:List Int):st xs ys xs.length 0=Zc xs ys:=by
 unfold st Zc;refine Xi fun k _=>?_;unfold part;rw[if_neg (by lia),RD]
end Pour
namespace Choose
def ch:Nat->Nat->Nat
 | _,0=>1
 | 0,_+1=>0
 | n+1,k+1=>ch n k+ch n (k+1)
theorem Qc (n:Nat):ch n 0=1:=by cases n<;>rfl
theorem za8:∀(n k:Nat),n<k->ch n k=0
 | 0,0,h=>absurd h (by lia)
 | 0,k+1,_=>rfl
 | n+1,0,h=>absurd h (by lia)
 | n+1,k+1,h=>by
  show ch n k+ch n (k+1)=0;rw[za8 n k (by lia),za8 n (k+1) (by lia)]
theorem zbX:∀n k:Nat,(k+1)*ch n (k+1)+k*ch n k=n*ch n k
 | 0,0=>rfl
 | 0,k+1=>by
  show (k+1+1)*0+(k+1)*0=0*0;simp
 | n+1,0=>by
  have h:=zbX n 0;rw[Qc] at h ⊢;show (0+1)*(ch n 0+ch n (0+1))+0*1=(n+1)*1;rw[Qc];lia
 | n+1,j+1=>by
  have h1:=zbX n (j+1);have h2:=zbX n j;show (j+1+1)*(ch n (j+1)+ch n (j+1+1))+(j+1)*(ch n j+ch n (j+1))=(n+1)*(ch n j+ch n (j+1));generalize ch n (j+1+1)=C2 at *
  generalize ch n (j+1)=C1 at *
  generalize ch n j=C0 at *
  simp only[Nat.add_mul,Nat.mul_add,Nat.one_mul] at *
  lia
theorem zm6 {n k:Nat}(h:k<n):(ch n k:Int)*((n:Int)-k)/((k:Int)+1)=ch n (k+1):=by
 have e:=zbX n k;have e2:(ch n k:Int)*((n:Int)-k)=(ch n (k+1):Int)*((k:Int)+1):=by
  have:((k+1)*ch n (k+1)+k*ch n k:Int)=(n*ch n k:Int):=by exact_mod_cast e
  rw[Int.mul_sub,NV (ch n k:Int) n,<- this,NV (ch n (k+1):Int) ((k:Int)+1),NV (ch n k:Int) (k:Int)];lia
 rw[e2];exact Int.mul_ediv_cancel _ (by lia)
theorem zqq (n:Nat):∀k,ch n k<=2^n:=by
 induction n with
 | zero =>
  intro k;cases k with
  | zero=>decide
  | succ k =>
   show (0:Nat)<=2^0;decide
 | succ n ih =>
  intro k;cases k with
  | zero =>
   rw[Qc];exact Nat.one_le_two_pow
  | succ k =>
   show ch n k+ch n (k+1)<=2^(n+1);rw[Ug];have:=ih k;have:=ih (k+1);lia
end Choose
namespace Tally
open Subs
variable {α:Type}
theorem zaw:∀(B:List α) (S0:List (List α)),B.foldl step S0=(subs B).flatMap fun b=>S0.map (·++b)
 | [],S0=>by simp[subs]
 | c::r,S0=>by
  have e:subs (c::r)=(subs r).flatMap fun b=>[b,c::b]:=by
   show r.foldl step (step [[]] c)=_;rw[zaw r];rfl
  show r.foldl step (step S0 c)=_;rw[zaw r,e,List.flatMap_assoc];congr 1;funext b;show (S0++S0.map (·++[c])).map (·++b)=S0.map (·++b)++(S0.map (·++(c::b))++[]);rw[Xj,Xa,WR];congr 1;refine Xi fun x _=>?_;show x++[c]++b=_;rw[W2];rfl
theorem Qd (c:α)(r:List α):subs (c::r)=(subs r).flatMap fun b=>[b,c::b]:=by
 show r.foldl step (step [[]] c)=_;rw[zaw r];rfl
theorem zax (A B:List α):subs (A++B)=(subs B).flatMap fun b=>(subs A).map (·++b):=by
 unfold subs;rw[Sv];exact zaw B _
theorem zd0 (c:α)(p:List α->Bool):∀L:List (List α),(L.flatMap fun b=>[b,c::b]).countP p=L.countP p+L.countP fun S=>p (c::S)
 | []=>rfl
 | b::L=>by
  have ih:=zd0 c p L;rw[List.flatMap_cons,Vk,ih,WT (l:=L),WT (l:=L),WT,WT,RM];lia
theorem count_cons (c:α)(r:List α)(p:List α->Bool):(subs (c::r)).countP p=(subs r).countP p+(subs r).countP fun S=>p (c::S):=by
 rw[Qd,zd0]
def Inv (p:List α->Bool):Prop:=∀a b,a.Perm b->p a=p b
theorem Inv.cons {p:List α->Bool}(h:Inv p)(c:α):Inv fun S=>p (c::S):=fun _ _ e=>h _ _ (e.cons c)
theorem zhj {cs ds:List α}(e:cs.Perm ds):∀{p:List α->Bool},Inv p->(subs cs).countP p=(subs ds).countP p:=by
 induction e with
 | nil=>intro p _;rfl
 | cons c _ ih =>
  intro p h;rw[count_cons,count_cons,ih h,ih (h.cons c)]
 | swap x y l =>
  intro p h;rw[count_cons,count_cons,count_cons,count_cons,count_cons,count_cons];have:(subs l).countP (fun S=>p (y::x::S))=(subs l).countP fun S=>p (x::y::S):=Vy fun S _=>by rw[h _ _ (List.Perm.swap x y S)]
  lia
 | trans _ _ i1 i2 =>
  intro p h;exact(i1 h).trans (i2 h)
def T (cs:List α)(p:List α->Bool)(k:Nat):Nat:=(subs cs).countP fun S=>decide (S.length=k)&&p S
theorem ze2 {cs ds:List α}(e:cs.Perm ds){p:List α->Bool}(h:Inv p)(k:Nat):T cs p k=T ds p k:=zhj e fun a b e=>by rw[h a b e,e.length_eq]
theorem zit {cs:List α}{p q:List α->Bool}(h:∀S∈subs cs,p S=q S)(k:Nat):T cs p k=T cs q k:=Vy fun S hS=>by rw[h S hS]
theorem znU (f g:Nat->Int):∀n,Pour.S (fun i=>f i+g i) n=Pour.S f n+Pour.S g n
 | 0=>rfl
 | n+1=>by
  show Pour.S (fun i=>f i+g i) n+(f n+g n)=Pour.S f n+f n+(Pour.S g n+g n);rw[znU f g n];lia
theorem zla:∀n,Pour.S (fun _=>0) n=0
 | 0=>rfl
 | n+1=>by
  show Pour.S (fun _=>0) n+0=0;rw[zla n];rfl
theorem zfZ (j:Nat)(x:Int):∀n,Pour.S (fun i=>if i=j then x else 0) n=if j<n then x else 0
 | 0=>rfl
 | n+1=>by
  show Pour.S (fun i=>if i=j then x else 0) n+(if n=j then x else 0)=_;rw[zfZ j x n];by_cases h:n=j
  ·rw[if_neg (by lia),if_pos h,if_pos (by lia),RC]
  ·rw[if_neg h,RD];by_cases h2:j<n
   ·rw[if_pos h2,if_pos (by lia)]
   ·rw[if_neg h2,if_neg (by lia)]
theorem zf0 (q:List α->Bool)(f:Nat->Nat)(k:Nat):∀L:List (List α),(((L.map fun b=>if (q b&&decide (b.length<=k))=true then f (k-b.length) else 0).sum:Nat):Int)=Pour.S (fun i=>(f i:Int)*((L.countP fun b=>decide (b.length=k-i)&&q b:Nat):Int)) (k+1):=by
 intro L;induction L with
 | nil =>
  have:Pour.S (fun i=>(f i:Int)*((([]:List (List α)).countP fun b=>decide (b.length=k-i)&&q b:Nat):Int)) (k+1)=Pour.S (fun _=>0) (k+1):=Pour.J4 _ fun i _=>by
   show (f i:Int)*0=0;lia
  rw[this,zla];rfl
 | cons b L ih =>
  rw[Xf,Oc,Tc,ih];have e:Pour.S (fun i=>(f i:Int)*(((b::L).countP fun b=>decide (b.length=k-i)&&q b:Nat):Int)) (k+1)=Pour.S (fun i=>(f i:Int)*((L.countP fun b=>decide (b.length=k-i)&&q b:Nat):Int)+if i=k-b.length then (if (q b&&decide (b.length<=k))=true then (f (k-b.length):Int) else 0) else 0) (k+1):=Pour.J4 _ fun i hi=>by
   rw[WT];by_cases hq:q b=true
   ·by_cases hb:b.length<=k
    ·by_cases hik:i=k-b.length
     ·have h1:b.length=k-i:=by lia
      have h2:k-i<=k:=by lia
      simp only[hq,h1,h2,decide_true,T2,if_true,if_pos hik];rw[show k-(k-i)=i by lia,if_pos rfl,Tc,Int.mul_add];lia
     ·have h1:¬b.length=k-i:=by lia
      simp only[hq,h1,decide_false,T2,if_neg hik];simp
    ·have h1:¬b.length=k-i:=by lia
     simp[hq,h1,hb]
   ·have hq':q b=false:=Xy.mpr hq;simp[hq']
  rw[e,znU,zfZ,if_pos (show k-b.length<k+1 by lia),Int.add_comm];congr 1;split<;>rfl
theorem zlb {A B:List α}{P pA pB:List α->Bool}(h:∀a∈subs A,∀b∈subs B,P (a++b)=(pA a&&pB b))(k:Nat):(T (A++B) P k:Int)=Pour.S (fun i=>(T A pA i:Int)*(T B pB (k-i):Int)) (k+1):=by
 unfold T;rw[zax,List.countP_flatMap];have e:(subs B).map (SV (fun S=>decide (S.length=k)&&P S)∘fun b=>(subs A).map (·++b))=(subs B).map fun b=>if (pB b&&decide (b.length<=k))=true then (T A pA) (k-b.length) else 0:=by
  refine Xi fun b hb=>?_;show SV _ ((subs A).map (·++b))=_;rw[Td];by_cases hq:(pB b&&decide (b.length<=k))=true
  ·rw[if_pos hq];obtain⟨h1,h2⟩:=Wg.mp hq;have h2:=of_decide_eq_true h2;refine Vy fun a ha=>?_;show (decide ((a++b).length=k)&&P (a++b))=true↔(decide (a.length=k-b.length)&&pA a)=true;rw[h a ha b hb,h1,T2,XU,show (decide (a.length+b.length=k))=decide (a.length=k-b.length) from decide_eq_decide.mpr (by lia)]
  ·rw[if_neg hq];refine U4.mpr fun a ha hh=>hq ?_;have hh:(decide ((a++b).length=k)&&P (a++b))=true:=hh;rw[h a ha b hb] at hh;obtain⟨h1,h2⟩:=Wg.mp hh;have h1:=of_decide_eq_true h1;rw[XU] at h1;rw[(Wg.mp h2).2,decide_eq_true (by lia)];rfl
 rw[e,zf0];rfl
theorem jP {cs S:List α}(h:S∈subs cs):S.Sublist cs:=by
 revert S;induction cs with
 | nil=>intro S h;simp[subs] at h;subst h;exact List.Sublist.refl _
 | cons c r ih =>
  intro S h;rw[Qd] at h;obtain⟨b,hb,h⟩:=R7.mp h;have:=ih hb;simp at h;rcases h with rfl | rfl
  ·exact this.cons c
  ·exact this.cons_cons c
theorem zcx {cs:List α}{p:List α->Bool}{k:Nat}(h:cs.length<k):T cs p k=0:=by
 refine U4.mpr fun S hS hh=>?_;have h1:=of_decide_eq_true (Wg.mp hh).1;have h2:=(jP hS).length_le;lia
def tl (cs:List α)(p:List α->Bool):List Int:=(XD (cs.length+1)).map fun k=>(T cs p k:Int)
theorem j3 (cs:List α)(p:List α->Bool):(tl cs p).length=cs.length+1:=by
 unfold tl;rw[Y1,W8]
theorem zjy (cs:List α)(p:List α->Bool)(i:Nat):Pour.F (tl cs p) i=(T cs p i:Int):=by
 by_cases h:i<cs.length+1
 ·refine Pour.zm3 ?_;unfold tl;rw[XA,Uv h];rfl
 ·rw[Pour.zcw (by rw[j3];lia),zcx (by lia)];rfl
theorem zm7 {A B:List α}{P pA pB:List α->Bool}(h:∀a∈subs A,∀b∈subs B,P (a++b)=(pA a&&pB b)):Pour.Zc (tl A pA) (tl B pB)=tl (A++B) P:=by
 unfold Pour.Zc;rw[j3,j3];show _=(XD ((A++B).length+1)).map fun k=>(T (A++B) P k:Int);rw[XU,show A.length+1+(B.length+1)-1=A.length+B.length+1 by lia];refine Xi fun k _=>?_;have e:=Pour.zo6 (tl A pA) (tl B pB) k;rw[j3] at e;rw[e,zlb h];exact Pour.J4 _ fun i _=>by rw[zjy,zjy]
theorem zlc {cs:List α}{p q:List α->Bool}(h:∀S∈subs cs,p S=q S):tl cs p=tl cs q:=by
 unfold tl;refine Xi fun k _=>by rw[zit h]
theorem zf1:∀(cs:List α) (k:Nat),T cs (fun _=>true) k=Choose.ch cs.length k
 | [],0=>rfl
 | [],k+1=>rfl
 | c::r,0=>by
  have e:=zf1 r 0;unfold T at e ⊢;rw[count_cons,e,Choose.Qc,Choose.Qc];have:(subs r).countP (fun S=>decide ((c::S).length=0)&&true)=0:=U4.mpr fun S _ hh=>by simp at hh
  rw[this]
 | c::r,k+1=>by
  have e1:=zf1 r k;have e2:=zf1 r (k+1);unfold T at e1 e2 ⊢;rw[count_cons,e2];have:(subs r).countP (fun S=>decide ((c::S).length=k+1)&&true)=(subs r).countP fun S=>decide (S.length=k)&&true:=Vy fun S _=>by
   rw[Xs,show decide (S.length+1=k+1)=decide (S.length=k) from decide_eq_decide.mpr (by lia)]
  rw[this,e1];show _=Choose.ch r.length k+Choose.ch r.length (k+1);lia
theorem zo9 [DecidableEq α]{cs:List α}{c:α}(hc:c∈cs)(nd:cs.Nodup)(k:Nat):T cs (fun S=>decide (c∈S)) k=if k=0 then 0 else Choose.ch (cs.length-1) (k-1):=by
 have hp:cs.Perm (c::cs.erase c):=List.perm_cons_erase hc;have hn:c ∉ cs.erase c:=fun h=>by
  have:=hp.nodup_iff.mp nd;exact(VJ.mp this).1 h
 rw[ze2 hp (fun a b e=>decide_eq_decide.mpr e.mem_iff)];unfold T;rw[count_cons];have z:(subs (cs.erase c)).countP (fun S=>decide (S.length=k)&&decide (c∈S))=0:=U4.mpr fun S hS hh=>by
  have h1:=of_decide_eq_true (Wg.mp hh).2;exact hn ((jP hS).subset h1)
 rw[z,V2];have el:(cs.erase c).length=cs.length-1:=by rw[List.length_erase,if_pos hc]
 cases k with
 | zero =>
  rw[if_pos rfl];exact U4.mpr fun S _ hh=>by simp at hh
 | succ k =>
  rw[if_neg (by lia),<- el,Rv,<- zf1];unfold T;refine Vy fun S _=>?_;rw[Xs,show decide (S.length+1=k+1)=decide (S.length=k) from decide_eq_decide.mpr (by lia)];show (_&&decide (c∈c::S))=true↔_;rw[decide_eq_true XS]
variable {α:Type}
structure Loc (U:List α)(p:List α->Bool)(g:List α):Prop where
 l:∀a b,(∀c∈a,c∈U/\c ∉ g)->p (a++b)=p b
 r:∀a b,(∀c∈b,c∈U/\c ∉ g)->p (a++b)=p a
def yg (fit:List α->List α->Bool)(gs:List (List α))(S:List α):Bool:=gs.all fun g=>fit g S
theorem zcy (fit:List α->List α->Bool)(as bs:List (List α))(S:List α):yg fit (as++bs) S=(yg fit as S&&yg fit bs S):=List.all_append
theorem zhk {fit:List α->List α->Bool}{gs:List (List α)}{S S':List α}(h:∀g∈gs,fit g S=fit g S'):yg fit gs S=yg fit gs S':=by
 unfold yg;induction gs with
 | nil=>rfl
 | cons g r ih =>
  rw[QP,QP,h g XS,ih fun x hx=>h x (XT _ hx)]
theorem zcz {U:List α}{fit:List α->List α->Bool}{done:List (List α)}{g:List α}{q:List α->Bool}(nd:(done.flatten++g).Nodup)(hU:∀c∈done.flatten++g,c∈U)(hd:∀x∈done,Loc U (fit x) x)(hg:Loc U q g) :
  Pour.Zc (tl done.flatten (yg fit done)) (tl g q)=tl (done.flatten++g) fun S=>yg fit done S&&q S:=by
 obtain⟨_,_,n3⟩:=V7.mp nd;refine zm7 fun a ha b hb=>?_;have sa:=(jP ha).subset;have sb:=(jP hb).subset;rw[hg.l a b fun c hc=>⟨hU c (WZ _ (sa hc)),fun h=>n3 c (sa hc) c h rfl⟩];congr 1;exact zhk fun x hx=>(hd x hx).r a b fun c hc=>⟨hU c (Xr _ (sb hc)),fun h=>n3 c (Ws.mpr ⟨x,hx,h⟩) c (sb hc) rfl⟩
theorem zm8 {U:List α}{fit:List α->List α->Bool}:∀(gs done:List (List α)),(done++gs).flatten.Nodup->(∀c∈(done++gs).flatten,c∈U)->(∀g∈done++gs,Loc U (fit g) g)->(gs.map fun g=>tl g (fit g)).foldl Pour.Zc (tl done.flatten (yg fit done))=tl (done++gs).flatten (yg fit (done++gs)):=by
 intro gs;induction gs with
 | nil =>
  intro done _ _ _;rw[Xa];rfl
 | cons g r ih =>
  intro done nd hU hL;have e:done++g::r=(done++[g])++r:=by rw[W2];rfl
  rw[e] at nd hU hL ⊢;have e2:(done++[g]).flatten=done.flatten++g:=by rw[Wt];simp
  have nd2:(done.flatten++g).Nodup:=by
   rw[Wt,e2] at nd;exact(V7.mp nd).1
  have ih:=ih (done++[g]) nd hU hL;rw[<- ih,Xf,VX,e2];congr 1;rw[zcz nd2 (fun c hc=>hU c (by rw[Wt,e2];exact WZ _ hc)) (fun x hx=>hL x (by simp[hx])) (hL g (by simp))];refine zlc fun S _=>?_;rw[zcy];congr 1;show fit g S=(fit g S&&true);rw[T2]
theorem zhl {U:List α}{fit:List α->List α->Bool}{gs:List (List α)}(nd:gs.flatten.Nodup)(hU:∀c∈gs.flatten,c∈U)(hL:∀g∈gs,Loc U (fit g) g):(gs.map fun g=>tl g (fit g)).foldl Pour.Zc [1]=tl gs.flatten (yg fit gs):=zm8 gs [] nd hU hL
def chZ (n:Nat)(k:Int):Int:=if k<0 then 0 else (Choose.ch n k.toNat:Nat)
def dl (xs:List Int)(m:Nat)(s:Int):Int:=Pour.S (fun k=>Pour.F xs k*chZ m (s-(k:Nat))) xs.length
theorem zld (g:Nat->Int){a b:Nat}(ha:∀i,a<=i->g i=0)(hb:∀i,b<=i->g i=0):Pour.S g a=Pour.S g b:=by
 by_cases h:a<=b
 ·exact(Pour.zm4 h fun i h1 _=>ha i h1).symm
 ·exact Pour.zm4 (by lia) fun i h1 _=>hb i h1
theorem znV {A far:List α}{P pA:List α->Bool}(h:∀a∈subs A,∀b∈subs far,P (a++b)=pA a)(s:Nat):dl (tl A pA) far.length (s:Nat)=(T (A++far) P s:Int):=by
 rw[zlb (pB:=fun _=>true) (fun a ha b hb=>by rw[h a ha b hb,T2]) s];unfold dl;rw[j3];rw[zld (fun k=>Pour.F (tl A pA) k*chZ far.length ((s:Int)-(k:Nat))) (a:=A.length+1) (b:=s+1) (fun i hi=>by rw[zjy,zcx (by lia)];simp) (fun i hi=>by
  unfold chZ;rw[if_pos (by lia),NW])]
 refine Pour.J4 _ fun i hi=>?_;show Pour.F (tl A pA) i*chZ far.length ((s:Int)-(i:Nat))=_;rw[zjy,zf1];unfold chZ;rw[if_neg (by lia),show ((s:Int)-(i:Nat)).toNat=s-i by lia]
theorem zm9 [DecidableEq α]{A far:List α}{P pA:List α->Bool}{c:α}(hc:c∈far)(nd:far.Nodup)(h:∀a∈subs A,∀b∈subs far,P (a++b)=(pA a&&decide (c∈b)))(s:Nat):dl (tl A pA) (far.length-1) ((s:Nat)-1)=(T (A++far) P s:Int):=by
 rw[zlb h s];unfold dl;rw[j3];rw[zld (fun k=>Pour.F (tl A pA) k*chZ (far.length-1) ((s:Int)-1-(k:Nat))) (a:=A.length+1) (b:=s+1) (fun i hi=>by rw[zjy,zcx (by lia)];simp) (fun i hi=>by
  unfold chZ;rw[if_pos (by lia),NW])]
 refine Pour.J4 _ fun i hi=>?_;show Pour.F (tl A pA) i*chZ (far.length-1) ((s:Int)-1-(i:Nat))=_;rw[zjy,zo9 hc nd];unfold chZ;by_cases e:s-i=0
 ·rw[if_pos (by lia),if_pos e];rfl
 ·rw[if_neg (by lia),if_neg e,show ((s:Int)-1-(i:Nat)).toNat=s-i-1 by lia]
theorem zbY {cs:List α}{p:List α->Bool}(h:∀S∈subs cs,p S=false)(k:Nat):T cs p k=0:=U4.mpr fun S hS hh=>by
 rw[h S hS,Bool.and_false] at hh;cases hh
theorem ziu (cs:List α)(p:List α->Bool):Cnt.Je cs.length ((subs cs).filter p)=tl cs p:=by
 unfold Cnt.Je tl T;refine Xi fun k _=>?_;rw[List.countP_filter]
theorem zf2 {β:Type}(g:Nat)(f:List α->List β)(hf:∀k,(f k).length=k.length)(ks:List (List α)):Cnt.Je g (ks.map f)=Cnt.Je g ks:=by
 unfold Cnt.Je;refine Xi fun n _=>?_;rw[Td];congr 1;refine Vy fun k _=>?_;show decide ((f k).length=n)=true↔_;rw[hf]
variable {α β:Type}
theorem zf3 (f:α->β):∀L:List α,subs (L.map f)=(subs L).map (Ur f)
 | []=>rfl
 | c::r=>by
  rw[Xf,Qd,Qd,zf3 f r,List.map_flatMap,List.flatMap_map];rfl
theorem zqr (f:α->β)(L:List α)(p:List β->Bool)(k:Nat):T (L.map f) p k=T L (fun S=>p (S.map f)) k:=by
 unfold T;rw[zf3,Td];refine Vy fun S _=>?_;show (decide ((S.map f).length=k)&&p (S.map f))=true↔_;rw[Y1]
theorem zlf [DecidableEq α]{a b:List α}(ha:a.Nodup)(hb:b.Nodup):(a.filter fun x=>decide (x∈b)).length=(b.filter fun x=>decide (x∈a)).length:=by
 refine Ol ((Vv (ha.sublist Wc) (hb.sublist Wc)).mpr fun x=>?_);rw[XV,XV,decide_eq_true_eq,decide_eq_true_eq];exact⟨fun h=>⟨h.2,h.1⟩,fun h=>⟨h.2,h.1⟩⟩
theorem zcA (L:List α)(d:α):(XD L.length).map (fun k=>L.getD k d)=L:=by
 refine UF fun k=>?_;rw[XA];by_cases h:k<L.length
 ·rw[Uv h,X7 h];show some (L.getD k d)=_;rw[XB,X7 h];rfl
 ·rw[UR (by rw[W8];lia),UR (by lia)];rfl
end Tally
namespace K40
open PySem L2
variable {P:Xd}{w:WP}{K:X2}{mg:Str->Option X9}{base:Heap}{f:Addr}{fd:Xq}
abbrev top (i:Nat):Stmt:=zb3.top i
abbrev Zw:Stmt:=top 14
abbrev qt:Stmt:=top 15
abbrev j4:Stmt:=top 16
abbrev j5:Stmt:=top 17
abbrev qz:Stmt:=top 18
abbrev qJ:Stmt:=top 19
abbrev zbZ:Stmt:=top 21
abbrev Zx:Stmt:=top 22
abbrev zf4:Stmt:=top 23
abbrev jC:Stmt:=top 24
abbrev yh:Stmt:=top 25
abbrev qK:Stmt:=top 26
abbrev qG:Stmt:=top 29
abbrev yH:Stmt:=top 30
abbrev xu:Stmt:=top 31
abbrev xN:Stmt:=top 32
abbrev JB:Stmt:=top 33
abbrev yV:Stmt:=top 34
abbrev Qe:Stmt:=top 36
abbrev zay:Stmt:=top 37
abbrev yt:Stmt:=top 39
abbrev zb0:Stmt:=top 40
abbrev qV:Stmt:=top 41
abbrev Jt:Stmt:=top 42
abbrev zaz:Stmt:=top 43
abbrev Z5:Stmt:=top 45
abbrev jb:Stmt:=top 46
abbrev zb1:Stmt:=top 48
abbrev YI:Stmt:=top 49
abbrev Ju:Stmt:=top 50
abbrev xO:Stmt:=top 52
abbrev Z6:Stmt:=top 53
abbrev J5:Stmt:=top 54
abbrev x8:Stmt:=top 55
abbrev Qf:Stmt:=top 56
abbrev x9:Stmt:=top 57
abbrev yu:Stmt:=top 58
abbrev JP:Stmt:=top 59
abbrev yw:Stmt:=top 60
abbrev jK:Stmt:=top 61
abbrev Jv:Stmt:=top 62
abbrev xP:Stmt:=top 63
abbrev J6:Stmt:=top 64
abbrev yW:Stmt:=top 65
abbrev xQ:Stmt:=top 66
abbrev Z7:Stmt:=top 67
abbrev zd1:Stmt:=top 68
structure Txt (mg:Str->Option X9):Prop where
 ze3:mg "ValueError"=none
 zlg:mg "any"=none
 zlh:mg "bool"=none
 ze4:mg "dict"=none
 zf5:mg "divmod"=none
 j6:mg "enumerate"=none
 zf6:mg "int"=none
 zW:mg "isinstance"=none
 ji:mg "len"=none
 zli:mg "list"=none
 zf7:mg "max"=none
 zf8:mg "min"=none
 jd:mg "range"=none
 zqs:mg "set"=none
 zaA:mg "sorted"=none
 znW:mg "str"=none
 zqt:mg "sum"=none
 zna:mg "tuple"=none
 zqu:mg "zip"=none
 Zd:∃t,mg "CLOSED_SIGN"=some (.str "?" t)
 zcB:∃t,mg "MOST_OF_PART"=some (.int 14 t)
 YJ:∃t,mg "NO_CELL_SIGN"=some (.str "#" t)
structure Prog (K:X2)(mg:Str->Option X9):Prop where
 closed:∃(f:Addr) (fd:Xq),zk K mg "closed" Zw ["board"] f fd
 open_cells:∃(f:Addr) (fd:Xq),zk K mg "open_cells" qt ["board"] f fd
 around:∃(f:Addr) (fd:Xq),zk K mg "around" j4 ["board","cell"] f fd
 number_at:∃(f:Addr) (fd:Xq),zk K mg "number_at" j5 ["board","cell"] f fd
 cells_of:∃(f:Addr) (fd:Xq),zk K mg "cells_of" qz ["board"] f fd
 sign_at:∃(f:Addr) (fd:Xq),zk K mg "sign_at" qJ ["board","cell"] f fd
 parts:∃(f:Addr) (fd:Xq),zk K mg "parts" zbZ ["board"] f fd
 joined:∃(f:Addr) (fd:Xq),zk K mg "joined" Zx ["groups","cells"] f fd
 far:∃(f:Addr) (fd:Xq),zk K mg "far" zf4 ["board"] f fd
 numbers_of:∃(f:Addr) (fd:Xq),zk K mg "numbers_of" jC ["board","part"] f fd
 bare_wrong:∃(f:Addr) (fd:Xq),zk K mg "bare_wrong" yh ["board"] f fd
 closed_around:∃(f:Addr) (fd:Xq),zk K mg "closed_around" qK ["board","cell"] f fd
 part_layings:∃(f:Addr) (fd:Xq),zk K mg "part_layings" qG ["board","part"] f fd
 needs_at:∃(f:Addr) (fd:Xq),zk K mg "needs_at" yH ["told","cell","rest"] f fd
 may_fit:∃(f:Addr) (fd:Xq),zk K mg "may_fit" xu ["needs","pick"] f fd
 part_counts:∃(f:Addr) (fd:Xq),zk K mg "part_counts" xN ["board","part"] f fd
 counted:∃(f:Addr) (fd:Xq),zk K mg "counted" JB ["found","greatest"] f fd
 counted_at:∃(f:Addr) (fd:Xq),zk K mg "counted_at" yV ["found","greatest","cell"] f fd
 choices:∃(f:Addr) (fd:Xq),zk K mg "choices" Qe ["n","k"] f fd
 poured:∃(f:Addr) (fd:Xq),zk K mg "poured" zay ["one","other"] f fd
 near_counts:∃(f:Addr) (fd:Xq),zk K mg "near_counts" yt ["board"] f fd
 count:∃(f:Addr) (fd:Xq),zk K mg "count" zb0 ["board"] f fd
 counts_by_cell:∃(f:Addr) (fd:Xq),zk K mg "counts_by_cell" qV ["board"] f fd
 all_poured:∃(f:Addr) (fd:Xq),zk K mg "all_poured" Jt ["lists"] f fd
 dealt:∃(f:Addr) (fd:Xq),zk K mg "dealt" zaz ["counts","cells","stones"] f fd
 fraction:∃(f:Addr) (fd:Xq),zk K mg "fraction" Z5 ["top","bottom"] f fd
 greatest_divisor:∃(f:Addr) (fd:Xq),zk K mg "greatest_divisor" jb ["number","bottom"] f fd
 share:∃(f:Addr) (fd:Xq),zk K mg "share" zb1 ["board","cell"] f fd
 shares:∃(f:Addr) (fd:Xq),zk K mg "shares" YI ["board"] f fd
 some_count:∃(f:Addr) (fd:Xq),zk K mg "some_count" Ju ["board"] f fd
 law_cell_at:∃(f:Addr) (fd:Xq),zk K mg "_law_cell_at" xO ["_law_script","_law_k"] f fd
 law_near:∃(f:Addr) (fd:Xq),zk K mg "_law_near" Z6 ["_law_at","_law_rows","_law_columns"] f fd
 law_signs:∃(f:Addr) (fd:Xq),zk K mg "_law_signs" J5 ["_law_script","_law_start","_law_rows","_law_columns"] f fd
 law_texts:∃(f:Addr) (fd:Xq),zk K mg "_law_texts" x8 ["_law_signs_here","_law_rows","_law_columns"] f fd
 law_dug:∃(f:Addr) (fd:Xq),zk K mg "_law_dug" Qf ["_law_script","_law_start","_law_rows","_law_columns"] f fd
 law_board:∃(f:Addr) (fd:Xq),zk K mg "_law_board" x9 ["_law_script","_law_start"] f fd
 law_numbers:∃(f:Addr) (fd:Xq),zk K mg "_law_numbers" yu ["_law_texts_here","_law_shut"] f fd
 law_fits:∃(f:Addr) (fd:Xq),zk K mg "_law_fits" JP ["_law_some","_law_numbers_here"] f fd
 law_choices:∃(f:Addr) (fd:Xq),zk K mg "_law_choices" yw ["_law_many"] f fd
 law_layings:∃(f:Addr) (fd:Xq),zk K mg "_law_layings" jK ["_law_texts_here","_law_stones"] f fd
 law_closed:∃(f:Addr) (fd:Xq),zk K mg "_law_closed" Jv ["_law_texts_here"] f fd
 law_divisor:∃(f:Addr) (fd:Xq),zk K mg "_law_divisor" xP ["_law_one","_law_other"] f fd
 law_share:∃(f:Addr) (fd:Xq),zk K mg "_law_share" J6 ["_law_top","_law_bottom"] f fd
 law_is_share:∃(f:Addr) (fd:Xq),zk K mg "_law_is_share" yW ["_law_found","_law_due"] f fd
 law_outcome:∃(f:Addr) (fd:Xq),zk K mg "_law_outcome" xQ ["_law_error"] f fd
 law_told:∃(f:Addr) (fd:Xq),zk K mg "_law_told" Z7 ["_law_board_here","_law_cell"] f fd
def zhm (K:X2):Sp:=fun vs H Q _=>∃(a:Addr) (ns:List Int) (k:Int),vs=[.ref a,.int k]/\SqL K H a (ns.map V.int)/\0<=k/\∀z:Int,Q (.int z) H
structure Row (signs:List Nat)(n:Nat)(t:Str):Prop where
 len:t.cps.size=n
 mem:∀c∈t.cps.toList,c∈signs
structure Rows (signs:List Nat)(rs:List Str):Prop where
 lo:1<=rs.length
 hi:rs.length<=8
 ex:∃n,1<=n/\n<=8/\∀t∈rs,Row signs n t
def bd:Str:="?012345678#"
theorem zcC:zF ["_law_script","_law_k"] ["_law_script","_law_k"] (zg xO):=⟨rfl,rfl,rfl,by decide +kernel,rfl,by decide +kernel,by decide +kernel⟩
theorem yX (T:Txt mg)(D:zk K mg "_law_cell_at" xO ["_law_script","_law_k"] f fd):qk P w K mg base CX0 1 f fd ["_law_script","_law_k"] (zhm K):=by
 refine D.F.ok zcC (fun vs H Q E h=>?_) (fun cdv A outer s H vs Q E hr h=>?_)
 ·obtain⟨a,ns,i,rfl,_⟩:=h;rfl
 ·obtain⟨a,ns,i,rfl,hS,hi,k⟩:=h;refine⟨_,(zd (qX (zH zoY (pvS 1) (zp zB (by rfl) T.ji W0 (za (pvS 0) zb)) (zQ _)) (zf (zG (qi qO (pvS 0) (pvS 1) (fun _ _=>rfl)))) zZ)
   (zf (zG zo))),?_⟩
  refine⟨_,rfl,_,rfl,a,_,rfl,.inl hS,_,_,rfl,rfl,_,rfl,?_⟩;refine zeE (fun c=>?_) (fun c=>?_)
  ·have c':i<((ns.map V.int).length:Nat):=of_decide_eq_true c;rw[Y1] at c';have hl:i.toNat<ns.length:=by lia
   refine⟨_,rfl,_,rfl,a,_,i,.int ns[i.toNat],rfl,rfl,hS,jN hi (by rw[XA,X7 hl];rfl),?_⟩;exact k _
  ·exact k 0
structure qb (H:Hp)(p l:Addr)(rs:List Str)(n:Int):Prop where
 tp:H p=some (.tup [.ref l,.int n])
 rw:H l=some (.lst (rs.map V.str))
theorem zlj:∀c∈bd.cps.toList,c<1114112:=by decide +kernel
theorem znb {n:Nat}{t:Str}(r:Row bd.cps.toList n t):Vf (.str t)=true:=by
 show t.cps.all (· < 0x110000)=true;rw[Array.all_eq_true'];intro c hc;exact decide_eq_true (zlj c (r.mem c (TM.mpr hc)))
theorem zf9 {rs:List Str}{n:Nat}(h:∀t∈rs,Row bd.cps.toList n t):Wp (rs.map UA)=true:=by
 induction rs with
 | nil=>rfl
 | cons t r ih =>
  show (Vf (.str t)&&Wp (r.map UA))=true;rw[znb (h t XS),ih fun u hu=>h u (XT _ hu)];rfl
theorem zcD (rs:List Str):Wy (rs.map UA)=0:=by
 induction rs with
 | nil=>rfl
 | cons t r ih =>
  show max (PyData.depth (.str t)) (Wy (r.map UA))=0;rw[ih];rfl
theorem Rows.cmp {rs:List Str}(R:Rows bd.cps.toList rs):zca (.list (rs.map UA)) (.list (rs.map UA)):=by
 obtain⟨n,_,_,h⟩:=R.ex;refine⟨zf9 h,zf9 h,?_⟩;show Wy (rs.map UA)+1<=64;rw[zcD];decide
def bData (rs:List Str)(n:Int):We:=.tuple [.list (rs.map UA),.int n]
theorem Rows.cmpB {rs:List Str}(R:Rows bd.cps.toList rs)(n:Int):zca (bData rs n) (bData rs n):=by
 have c:=R.cmp;have h1:Vf (bData rs n)=true:=by
  show (Vf (.list (rs.map UA))&&(Vf (.int n)&&true))=true;rw[c.l1];rfl
 refine⟨h1,h1,?_⟩;show max (Wy (rs.map UA)+1) (max 0 0)+1<=64;rw[zcD];decide
theorem qb.rdv {K:X2}{H:Hp}{p l:Addr}{rs:List Str}{n:Int}(b:qb H p l rs n):Rdv K H (.ref p) (bData rs n):=.tup (SqT.of b.tp) (.cons (.lst (SqL.of b.rw) (zfy rs)) (.cons (.int n) .nil))
theorem qb.mono {H H':Hp}{p l:Addr}{rs:List Str}{n:Int}(b:qb H p l rs n)(s:zu H H'):qb H' p l rs n:=⟨s _ _ b.tp,s _ _ b.rw⟩
def codes (rs:List Str):List (List Nat):=rs.map fun t=>t.cps.toList
theorem jL {rs:List Str}{i:Nat}{t:Str}(h:rs[i]?=some t):(codes rs)[i]?=some t.cps.toList:=by
 unfold codes;rw[XA,h];rfl
theorem za9 {rs:List Str}{i:Nat}{u:List Nat}(h:(codes rs)[i]?=some u):∃t,rs[i]?=some t/\u=t.cps.toList:=by
 unfold codes at h;rw[XA] at h;cases e:rs[i]? with
 | none =>
  rw[e] at h;cases h
 | some t =>
  rw[e] at h;cases h;exact⟨t,rfl,rfl⟩
theorem jr (rs:List Str):(codes rs).length=rs.length:=by
 unfold codes;rw[Y1]
theorem Rows.short {s:List Nat}{rs:List Str}(R:Rows s rs):∀u∈codes rs,u.length<=8:=fun u hu=>by
 obtain⟨t,ht,rfl⟩:=XC.mp hu;obtain⟨n,_,h8,q⟩:=R.ex;have:=(q t ht).len;rw[X4];lia
theorem Rows.tlen {s:List Nat}{rs:List Str}{i:Nat}{t:Str}(R:Rows s rs)(h:rs[i]?=some t):t.length<=Xz:=by
 obtain⟨n,_,h8,q⟩:=R.ex;have e:t.length=n:=(q t (X0 h)).len;rw[e];exact X5 h8 (by decide)
def Ze (H:Hp)(v:V)(c:Nat×Nat):Prop:=∃a,v=V.ref a/\H a=some (.tup [.int (c.1:Nat),.int (c.2:Nat)])
def Cel (H:Hp):List V->List (Nat×Nat)->Prop:=WV (Ze H)
theorem Cel.mono {H H':Hp}(s:zu H H'){vs:List V}{cs:List (Nat×Nat)}(hp:Cel H vs cs):Cel H' vs cs:=by
 induction hp with
 | nil=>exact .nil
 | cons q _ ih =>
  obtain⟨a,e,h⟩:=q;exact .cons ⟨a,e,s _ _ h⟩ ih
theorem Cel.snoc {H:Hp}{vs:List V}{cs:List (Nat×Nat)}{v:V}{c:Nat×Nat}(h:Cel H vs cs)(x:Ze H v c):Cel H (vs++[v]) (cs++[c]):=Paired.snoc h x
theorem Cel.append {H:Hp}{vs ws:List V}{cs ds:List (Nat×Nat)}(h:Cel H vs cs)(k:Cel H ws ds):Cel H (vs++ws) (cs++ds):=zaW h k
theorem Cel.into {H:Hp}(z:Addr)(o:HO){old:List V}(hz:H z=some (.lst old)){vs:List V}{cs:List (Nat×Nat)}(hp:Cel H vs cs):Cel (upd H z o) vs cs:=by
 induction hp with
 | nil=>exact .nil
 | cons q _ ih =>
  obtain⟨a,e,h⟩:=q;exact .cons ⟨a,e,by rw[zh (zdz h hz (by intro y;cases y))];exact h⟩ ih
theorem Cel.length {H:Hp}{vs:List V}{cs:List (Nat×Nat)}(h:Cel H vs cs):vs.length=cs.length:=Paired.length h
theorem Cel.get {H:Hp}:∀{vs:List V} {cs:List (Nat×Nat)} {i:Nat} {v:V},Cel H vs cs->vs[i]?=some v->∃c,cs[i]?=some c/\Ze H v c
 | _,_,_,_,.nil,e=>by simp at e
 | _,_,0,_,.cons r _,e=>by
  simp at e;subst e;exact⟨_,rfl,r⟩
 | _,_,i+1,v,.cons _ t,e=>by
  obtain⟨c,h1,h2⟩:=Cel.get (i:=i) (v:=v) t (by simpa using e);exact⟨c,by simpa using h1,h2⟩
def zv (c:Nat×Nat):We:=.tuple [.int (c.1:Nat),.int (c.2:Nat)]
theorem Ze.rdv {K:X2}{H:Hp}{v:V}{c:Nat×Nat}(h:Ze H v c):Rdv K H v (zv c):=by
 obtain⟨a,rfl,h⟩:=h;exact .tup (SqT.of h) (.cons (.int _) (.cons (.int _) .nil))
theorem zjz (c d:Nat×Nat):zca (zv c) (zv d):=⟨rfl,rfl,by show max 0 (max 0 0)+1<=64;decide⟩
theorem zd2 (c d:Nat×Nat):WX (zv c) (zv d)=decide (c=d):=by
 obtain⟨a,b⟩:=c;obtain⟨x,y⟩:=d;show ((((a:Nat):Int)==((x:Nat):Int))&&((((b:Nat):Int)==((y:Nat):Int))&&true))=decide ((a,b)=(x,y));by_cases h1:a=x
 ·by_cases h2:b=y
  ·subst h1 h2;simp
  ·have:¬ ((b:Int)=(y:Int)):=by lia
   simp[h2,this]
 ·have:¬ ((a:Int)=(x:Int)):=by lia
  simp[h1,this]
theorem QN (c k:Nat):(V.str ⟨#[c]⟩=V.str ⟨#[k]⟩)=(c=k):=by
 apply propext;constructor
 ·intro h;have h2:(⟨#[c]⟩:Str)=⟨#[k]⟩:=V.str.inj h;have h3:(#[c]:Array Nat)=#[k]:=congrArg Str.cps h2;simpa using h3
 ·rintro rfl;rfl
theorem zak:("#":Str)=⟨#[35]⟩:=by decide +kernel
theorem Z8:("?":Str)=⟨#[63]⟩:=by decide +kernel
def qo (c:Nat):Bool:=!decide (c=35)
def qA (c:Nat):Bool:=decide (c=63)
def Yo (c:Nat):Bool:=qo c && !decide (c=63)
def zpa:Sp:=fun vs H Q _=>∃(p l c:Addr) (rs:List Str) (n:Int) (i j:Nat) (t:Str) (k:Nat),vs=[.ref p,.ref c]/\qb H p l rs n/\H c=some (.tup [.int (i:Nat),.int (j:Nat)])/\rs[i]?=some t/\t.cps.toList[j]?=some k/\t.length<=Xz/\Q (.str ⟨#[k]⟩) H
def zhn (p:Nat->Bool):Sp:=fun vs H Q _=>∃(a l:Addr) (rs:List Str) (n:Int),vs=[.ref a]/\qb H a l rs n/\Rows bd.cps.toList rs /\
 ∀(d:Addr) (ws:List V) (H':Hp),H d=none->H' d=some (.lst ws)->Cel H' ws (Cells.zJ p 0 (codes rs))->zu H H'->Q (.ref d) H'
def zlk:Sp:=fun vs H Q _=>∃(p l c:Addr) (rs:List Str) (n:Int) (i j:Nat) (t:Str) (k:Nat),vs=[.ref p,.ref c]/\qb H p l rs n/\H c=some (.tup [.int (i:Nat),.int (j:Nat)])/\rs[i]?=some t/\t.cps.toList[j]?=some k/\t.length<=Xz/\48<=k/\k<=56/\Q (.int ((k:Int)-48)) H
theorem int_sign {k:Nat}(h1:48<=k)(h2:k<=56):OL ⟨#[k]⟩=some ((k:Int)-48):=by
 have:∀k∈XD 57,48<=k->OL ⟨#[k]⟩=some ((k:Int)-48):=by decide +kernel
 exact this k (Xc.mpr (by lia)) h1
theorem zho:zF ["board","cell"] ["board","cell"] (zg qJ):=⟨rfl,rfl,rfl,by decide +kernel,rfl,by decide +kernel,by decide +kernel⟩
theorem Z9 (D:zk K mg "sign_at" qJ ["board","cell"] f fd):qk P w K mg base CX0 1 f fd ["board","cell"] zpa:=by
 refine D.F.ok zho (fun vs H Q E h=>?_) (fun cdv A outer s H vs Q E hr h=>?_)
 ·obtain⟨p,l,c,rs,n,i,j,t,k,rfl,_⟩:=h;rfl
 ·obtain⟨p,l,c,rs,n,i,j,t,k,rfl,b,hc,hi,hj,hl,q⟩:=h;refine⟨_,(zf (zG (qi J3 (qi qO (qi jz (pvS 0) zo (fun _ _=>rfl)) (qi jz (pvS 1) zo (fun _ _=>rfl)) (fun _ _=>rfl)) (qi jz (pvS 1) zo (fun _ _=>rfl)) (fun _ _=>rfl)))),?_⟩;exact⟨_,rfl,p,_,0,_,rfl,rfl,SqT.of b.tp,rfl,_,rfl,c,_,0,_,rfl,rfl,SqT.of hc,rfl,l,_,_,_,rfl,rfl,SqL.of b.rw,zae (v:=V.str t) (by rw[XA,hi];rfl),_,rfl,c,_,1,_,rfl,rfl,SqT.of hc,rfl,t,_,k,rfl,rfl,hl,zae hj,q⟩
theorem J7:zF ["board","found","row","text"] ["board"] (zg qz):=⟨rfl,rfl,rfl,by decide +kernel,rfl,by decide +kernel,by decide +kernel⟩
theorem zbt (T:Txt mg)(D:zk K mg "cells_of" qz ["board"] f fd):qk P w K mg base CX0 1 f fd ["board"] (zhn qo):=by
 refine D.F.ok J7 (fun vs H Q E h=>?_) (fun cdv A outer s H vs Q E hr h=>?_)
 ·obtain⟨a,l,rs,n,rfl,_⟩:=h;rfl
 ·obtain⟨a,l,rs,n,rfl,b,R,q⟩:=h;refine⟨_,(zd (zq (i:=1) J7.nd rfl (XM rfl) (qa zb))
   (zd (qj Xe rfl (Zk (by rfl) T.j6 (za (qi jz (pvS 0) zo (fun _ _=>rfl)) zb)) (JE rfl (zT (zm (i:=2) J7.nd rfl (UV rfl)) (zT (zm (i:=3) J7.nd rfl (XM rfl)) yc))) (zf (yy (xY WO PZ PY zdG (pvS 1) (za (qh (N:=["column","sign","row"]) (src:=[none,none,some 2]) (zU.free (O:=(zg qz).names) (XN:=["board","found","row","text"]) rfl rfl ⟨_,rfl⟩ rfl rfl (by decide +kernel) (by decide +kernel) (by decide +kernel) rfl (by decide +kernel)) rfl (zki (by rfl) T.j6 (za (pvS 3) zb)) (fun _ _ _ _ _=>(zeG (n:=2) (K:=K) (by rfl) rfl (zT (zm (i:=0) (by show WW (["column","sign","row"]:List Str);decide +kernel) rfl (XM rfl)) (zT (zm (i:=1) (by show WW (["column","sign","row"]:List Str);decide +kernel) rfl (XM rfl)) yc)))) (fun _ _ _ _ _=>(qD (zH Qq (pvS 1) (jy (v:=.str "#") (by rfl) T.YJ.choose_spec (by exact⟨_,rfl⟩)) (zQ _)))) (fun _ _ _ _ _=>(jU (za (pvS 2) (za (pvS 0) zb))))) zb)))))
   (zf (zG (pvS 1))))),?_⟩
  refine⟨Z1,fun d hd=>?_⟩;have s0:zu H (upd H d (.lst [])):=ze hd;refine⟨_,rfl,a,_,0,_,rfl,rfl,SqT.of (b.mono s0).tp,rfl,l,rfl,⟨_,SqL.of (b.mono s0).rw⟩,?_⟩;refine Zl (K:=K) (l:=l) (xs:=rs.map V.str) (fun i σ H'=>∃(v2 v3:Option V) (ws:List V),σ=[some (.ref a),some (.ref d),v2,v3]/\zu H H'/\H' d=some (.lst ws)/\Cel H' ws (Cells.zJ qo 0 ((codes rs).take i)))
   ⟨_,_,[],rfl,s0,zc,.nil⟩ (fun i σ H' _ ⟨_,_,_,_,s1,_⟩=>SqL.of (b.mono s1).rw) ?_ ?_
  ·rintro i x tt σ H1 hx htt ⟨v2,v3,ws,rfl,s1,hd1,hc1⟩;rw[XA] at hx;cases e:rs[i]? with
   | none =>
    rw[e] at hx;cases hx
   | some t =>
    rw[e] at hx;cases hx;have hil:i<rs.length:=(XY.mp e).1;have st:zu H1 (upd H1 tt (.tup [.int (i:Nat),.str t])):=ze htt;refine⟨tt,_,rfl,SqT.of zc,rfl,_,_,rfl,_,_,rfl,rfl,?_⟩;have hd2:upd H1 tt (.tup [.int (i:Nat),.str t]) d=some (.lst ws):=st _ _ hd1;refine⟨_,rfl,.inl ⟨rfl,_,SqL.of hd2⟩,_,rfl,t,rfl,fun z hz=>?_⟩;refine zgY (x:=t) (fun j σ H'=>∃(u0 u1:Option V) (ys:List V),σ=[u0,u1,some (.int (i:Nat))]/\zu (upd H1 tt (.tup [.int (i:Nat),.str t])) H'/\H' z=some (.lst ys)/\Cel H' ys (Cells.zY qo i 0 (t.cps.toList.take j)))
     ⟨_,_,[],rfl,ze hz,zc,.nil⟩ ?_ ?_
    ·rintro j c t2 σ H2 hc ht2 ⟨u0,u1,ys,rfl,s2,hz2,hc2⟩;refine⟨t2,_,rfl,SqT.of zc,rfl,_,_,rfl,_,_,rfl,rfl,?_⟩;refine⟨_,rfl,rfl,_,rfl,?_⟩;have hc':t.cps.toList[j]?=some c:=by rw[Xx];exact hc
     have s3:zu H2 (upd H2 t2 (.tup [.int (j:Nat),.str ⟨#[c]⟩])):=ze ht2;have step:=Cells.QL (p:=qo) (i:=i) hc';have ed:(!decide (V.str ⟨#[c]⟩=V.str "#"))=qo c:=by
      rw[zak];simp only[QN];rfl
     rw[ed];by_cases hp:qo c=true
     ·rw[hp] at step;refine yp hp ?_;refine⟨_,rfl,_,rfl,YD,fun t3 ht3=>?_⟩;have nz3:z≠t3:=zj (s3 _ _ hz2) ht3;have s4:zu (upd H2 t2 (.tup [.int (j:Nat),.str ⟨#[c]⟩])) (upd (upd H2 t2 (.tup [.int (j:Nat),.str ⟨#[c]⟩])) t3 (.tup [.int (i:Nat),.int (j:Nat)])):=ze ht3;have hlen:ys.length<=8:=by
       rw[hc2.length];refine X5 (Cells.ye _ _ _ _) ?_;have:=R.short _ (X0 (jL e));rw[XE];lia
      refine⟨ys,s4 _ _ (s3 _ _ hz2),XF hlen (by decide),some (.int (j:Nat)),some (.str ⟨#[c]⟩),ys++[.ref t3],rfl,fun b' o e'=>?_,zc,?_⟩
      ·have hb:b'≠z:=fun y=>by
        subst y;rw[hz] at e';cases e'
       rw[zh hb];exact s4 _ _ (s3 _ _ (s2 _ _ e'))
      ·rw[step];have keep:∀x o,x≠z->upd (upd H2 t2 (.tup [.int (j:Nat),.str ⟨#[c]⟩])) t3 (.tup [.int (i:Nat),.int (j:Nat)]) x=some o->upd (upd (upd H2 t2 (.tup [.int (j:Nat),.str ⟨#[c]⟩])) t3 (.tup [.int (i:Nat),.int (j:Nat)])) z (.lst (ys++[.ref t3])) x=some o:=fun x o hx e'=>by
        rw[zh hx];exact e'
       refine Cel.snoc ?_ ⟨t3,rfl,keep _ _ nz3.symm zc⟩;exact Cel.into z (.lst (ys++[.ref t3])) (s4 _ _ (s3 _ _ hz2)) (Cel.mono s4 (Cel.mono s3 hc2))
     ·have hp':qo c=false:=by simpa using hp
      rw[hp'] at step;refine jM hp' ?_;refine⟨some (.int (j:Nat)),some (.str ⟨#[c]⟩),ys,rfl,s2.trans s3,s3 _ _ hz2,?_⟩;rw[step];simpa using Cel.mono s3 hc2
    ·rintro σ H2 ⟨u0,u1,ys,rfl,s2,hz2,hc2⟩;have hne:d≠z:=zj hd2 hz;have hd3:H2 d=some (.lst ws):=s2 _ _ hd2;have full:t.cps.toList.take t.cps.size=t.cps.toList:=by
      rw[<- X4,Xw]
     rw[full] at hc2;have step:=Cells.QM (p:=qo) (jL e);have l1:ws.length<=64:=by
      rw[hc1.length];refine X5 (Cells.jB _ _ _ fun u hu=>R.short u (V6 hu)) ?_;have:=R.hi;rw[XE,jr];lia
     have l2:ys.length<=8:=by
      rw[hc2.length];exact X5 (Cells.ye _ _ _ _) (R.short _ (X0 (jL e)))
     refine⟨d,z,ws,ys,rfl,rfl,hd3,hz2,X5 (SA l1 l2) (by decide),?_⟩;refine⟨_,_,ws++ys,rfl,fun b' o e'=>?_,zc,?_⟩
     ·have hb:b'≠d:=fun y=>by
       subst y;rw[hd] at e';cases e'
      rw[zh hb];exact s2 _ _ (st _ _ (s1 _ _ e'))
     ·rw[step];exact Cel.into d _ hd3 (Cel.append (Cel.mono s2 (Cel.mono st hc1)) hc2)
  ·rintro σ H1 ⟨v2,v3,ws,rfl,s1,hd1,hc1⟩;rw[Y1,<- jr,Xw] at hc1;exact⟨_,rfl,q d ws H1 hd hd1 hc1 s1⟩
theorem znc (c:Nat):(qo c&&decide (c=63))=qA c:=by
 unfold qo qA;by_cases h:c=63
 ·subst h;rfl
 ·simp[h]
theorem zjA:zF ["board"] ["board"] (zg Zw):=⟨rfl,rfl,rfl,by decide +kernel,rfl,by decide +kernel,by decide +kernel⟩
theorem zba {f1 f2:Addr}{fd1 fd2:Xq}(T:Txt mg)(D:zk K mg "closed" Zw ["board"] f fd)(zE:zk K mg "cells_of" qz ["board"] f1 fd1)(zx:zk K mg "sign_at" qJ ["board","cell"] f2 fd2) :
  qk P w K mg base CX0 2 f fd ["board"] (zhn qA):=by
 refine D.F.ok zjA (fun vs H Q E h=>?_) (fun cdv A outer s H vs Q E hr h=>?_)
 ·obtain⟨a,l,rs,n,rfl,_⟩:=h;rfl
 ·obtain⟨a,l,rs,n,rfl,b,R,q⟩:=h;refine⟨_,(zf (zG (qh (N:=["cell","board"]) (src:=[none,some 0]) (zU.free (O:=(zg Zw).names) (XN:=["board"]) rfl rfl ⟨_,rfl⟩ rfl rfl (by decide +kernel) (by decide +kernel) (by decide +kernel) rfl (by decide +kernel)) rfl (zM (pc0 (zbt T zE) hr zE (za (pvS 0) zb))) (fun _ _ _ _ _=>(zm (i:=0) (by show WW (["cell","board"]:List Str);decide +kernel) rfl (XM rfl))) (fun _ _ _ _ _=>(qD (zH JF (pc0 (Z9 zx) hr zx (za (pvS 1) (za (pvS 0) zb))) (jy (v:=.str "?") (by rfl) T.Zd.choose_spec (by exact⟨_,rfl⟩)) (zQ _)))) (fun _ _ _ _ _=>(pvS 0))))),?_⟩;refine⟨_,rfl,a,l,rs,n,rfl,b,R,fun d ws H1 hd hd1 hc1 s1=>⟨d,rfl,⟨_,SqL.of hd1⟩,fun z hz=>?_⟩⟩;have nz:d≠z:=zj hd1 hz;refine qx (K:=K) (a:=d) (xs:=ws) (fun i σ H'=>∃(u0:Option V) (ys:List V),σ=[u0,some (.ref a)]/\zu H1 H'/\H' z=some (.lst ys)/\Cel H' ys (((Cells.zJ qo 0 (codes rs)).take i).filter fun x=>decide (Cells.sgn (codes rs) x=63)))
   ⟨_,[],rfl,ze hz,zc,.nil⟩ (fun i σ H' _ ⟨_,_,_,s2,_⟩=>SqL.of (s2 _ _ hd1)) ?_ ?_
  ·rintro i x σ H2 hx ⟨u0,ys,rfl,s2,hz2,hc2⟩;obtain⟨c,hci,ca,rfl,hca⟩:=Cel.get (Cel.mono s2 hc1) hx;obtain⟨k0,j,u,k,ec,hk0,hj,hpc⟩:=Cells.Jz (X0 hci);obtain⟨t,ht,rfl⟩:=za9 hk0;rw[V2] at ec;subst ec;refine⟨_,rfl,_,rfl,a,l,ca,rs,n,k0,j,t,k,rfl,(b.mono s1).mono s2,hca,ht,hj,R.tlen ht,rfl,_,rfl,?_⟩;have es:Cells.sgn (codes rs) (k0,j)=k:=Cells.ze1 hk0 hj;have step:((Cells.zJ qo 0 (codes rs)).take (i+1)).filter (fun x=>decide (Cells.sgn (codes rs) x=63))=((Cells.zJ qo 0 (codes rs)).take i).filter (fun x=>decide (Cells.sgn (codes rs) x=63))++(if decide (k=63)=true then [(k0,j)] else []):=by
    rw[Xu,hci,W3];congr 1;show Uj _ [(k0,j)]=_;rw[Wv];try dsimp only
    rw[es];split<;>rfl
   have ed:decide (V.str ⟨#[k]⟩=V.str "?")=decide (k=63):=by
    rw[Z8];simp only[QN]
   rw[ed];by_cases hp:decide (k=63)=true
   ·rw[if_pos hp] at step;refine yp hp ?_;have hlen:ys.length<=64:=by
     rw[hc2.length];refine X5 (W6 _ _) ?_;rw[XE];have h1:=Cells.jB qo 0 (codes rs) R.short;have h2:=R.hi;rw[jr] at h1;lia
    refine⟨_,rfl,ys,hz2,XF hlen (by decide),_,ys++[.ref ca],rfl,fun b' o e'=>?_,zc,?_⟩
    ·have hb:b'≠z:=fun y=>by
      subst y;rw[hz] at e';cases e'
     rw[zh hb];exact s2 _ _ e'
    ·rw[step];exact Cel.into z _ hz2 (Cel.snoc hc2 ⟨ca,rfl,hca⟩)
   ·rw[if_neg hp] at step;refine jM (by simpa using hp) ?_;refine⟨_,ys,rfl,s2,hz2,?_⟩;rw[step];simpa using hc2
  ·rintro σ H2 ⟨u0,ys,rfl,s2,hz2,hc2⟩;rw[hc1.length,Xw,Cells.all_filter (p:=qo) (q:=fun k=>decide (k=63)) (codes rs)] at hc2;have hz0:H z=none:=s1.free hz;exact q z ys H2 hz0 hz2 (by rw[Cells.zfX (q:=qA) znc] at hc2;exact hc2) (s1.trans s2)
theorem zdn:zF ["board"] ["board"] (zg qt):=⟨rfl,rfl,rfl,by decide +kernel,rfl,by decide +kernel,by decide +kernel⟩
theorem xR {f1 f2:Addr}{fd1 fd2:Xq}(T:Txt mg)(D:zk K mg "open_cells" qt ["board"] f fd)(zE:zk K mg "cells_of" qz ["board"] f1 fd1)(zx:zk K mg "sign_at" qJ ["board","cell"] f2 fd2) :
  qk P w K mg base CX0 2 f fd ["board"] (zhn Yo):=by
 refine D.F.ok zdn (fun vs H Q E h=>?_) (fun cdv A outer s H vs Q E hr h=>?_)
 ·obtain⟨a,l,rs,n,rfl,_⟩:=h;rfl
 ·obtain⟨a,l,rs,n,rfl,b,R,q⟩:=h;refine⟨_,(zf (zG (qh (N:=["cell","board"]) (src:=[none,some 0]) (zU.free (O:=(zg qt).names) (XN:=["board"]) rfl rfl ⟨_,rfl⟩ rfl rfl (by decide +kernel) (by decide +kernel) (by decide +kernel) rfl (by decide +kernel)) rfl (zM (pc0 (zbt T zE) hr zE (za (pvS 0) zb))) (fun _ _ _ _ _=>(zm (i:=0) (by show WW (["cell","board"]:List Str);decide +kernel) rfl (XM rfl))) (fun _ _ _ _ _=>(qD (zH Qq (pc0 (Z9 zx) hr zx (za (pvS 1) (za (pvS 0) zb))) (jy (v:=.str "?") (by rfl) T.Zd.choose_spec (by exact⟨_,rfl⟩)) (zQ _)))) (fun _ _ _ _ _=>(pvS 0))))),?_⟩;refine⟨_,rfl,a,l,rs,n,rfl,b,R,fun d ws H1 hd hd1 hc1 s1=>⟨d,rfl,⟨_,SqL.of hd1⟩,fun z hz=>?_⟩⟩;have nz:d≠z:=zj hd1 hz;refine qx (K:=K) (a:=d) (xs:=ws) (fun i σ H'=>∃(u0:Option V) (ys:List V),σ=[u0,some (.ref a)]/\zu H1 H'/\H' z=some (.lst ys)/\Cel H' ys (((Cells.zJ qo 0 (codes rs)).take i).filter fun x=>!decide (Cells.sgn (codes rs) x=63)))
   ⟨_,[],rfl,ze hz,zc,.nil⟩ (fun i σ H' _ ⟨_,_,_,s2,_⟩=>SqL.of (s2 _ _ hd1)) ?_ ?_
  ·rintro i x σ H2 hx ⟨u0,ys,rfl,s2,hz2,hc2⟩;obtain⟨c,hci,ca,rfl,hca⟩:=Cel.get (Cel.mono s2 hc1) hx;obtain⟨k0,j,u,k,ec,hk0,hj,hpc⟩:=Cells.Jz (X0 hci);obtain⟨t,ht,rfl⟩:=za9 hk0;rw[V2] at ec;subst ec;refine⟨_,rfl,_,rfl,a,l,ca,rs,n,k0,j,t,k,rfl,(b.mono s1).mono s2,hca,ht,hj,R.tlen ht,rfl,_,rfl,?_⟩;have es:Cells.sgn (codes rs) (k0,j)=k:=Cells.ze1 hk0 hj;have step:((Cells.zJ qo 0 (codes rs)).take (i+1)).filter (fun x=>!decide (Cells.sgn (codes rs) x=63))=((Cells.zJ qo 0 (codes rs)).take i).filter (fun x=>!decide (Cells.sgn (codes rs) x=63))++(if (!decide (k=63))=true then [(k0,j)] else []):=by
    rw[Xu,hci,W3];congr 1;show Uj _ [(k0,j)]=_;rw[Wv];try dsimp only
    rw[es];split<;>rfl
   have ed:(!decide (V.str ⟨#[k]⟩=V.str "?"))=(!decide (k=63)):=by
    rw[Z8];simp only[QN]
   rw[ed];by_cases hp:(!decide (k=63))=true
   ·rw[if_pos hp] at step;refine yp hp ?_;have hlen:ys.length<=64:=by
     rw[hc2.length];refine X5 (W6 _ _) ?_;rw[XE];have h1:=Cells.jB qo 0 (codes rs) R.short;have h2:=R.hi;rw[jr] at h1;lia
    refine⟨_,rfl,ys,hz2,XF hlen (by decide),_,ys++[.ref ca],rfl,fun b' o e'=>?_,zc,?_⟩
    ·have hb:b'≠z:=fun y=>by
      subst y;rw[hz] at e';cases e'
     rw[zh hb];exact s2 _ _ e'
    ·rw[step];exact Cel.into z _ hz2 (Cel.snoc hc2 ⟨ca,rfl,hca⟩)
   ·rw[if_neg hp] at step;refine jM (by simpa using hp) ?_;refine⟨_,ys,rfl,s2,hz2,?_⟩;rw[step];simpa using hc2
  ·rintro σ H2 ⟨u0,ys,rfl,s2,hz2,hc2⟩;rw[hc1.length,Xw,Cells.all_filter (p:=qo) (q:=fun k=>(!decide (k=63))) (codes rs)] at hc2;have hz0:H z=none:=s1.free hz;exact q z ys H2 hz0 hz2 hc2 (s1.trans s2)
theorem ze5:zF ["board","cell"] ["board","cell"] (zg j5):=⟨rfl,rfl,rfl,by decide +kernel,rfl,by decide +kernel,by decide +kernel⟩
theorem zaB {f1:Addr}{fd1:Xq}(T:Txt mg)(D:zk K mg "number_at" j5 ["board","cell"] f fd)(zx:zk K mg "sign_at" qJ ["board","cell"] f1 fd1):qk P w K mg base CX0 2 f fd ["board","cell"] zlk:=by
 refine D.F.ok ze5 (fun vs H Q E h=>?_) (fun cdv A outer s H vs Q E hr h=>?_)
 ·obtain⟨p,l,c,rs,n,i,j,t,k,rfl,_⟩:=h;rfl
 ·obtain⟨p,l,c,rs,n,i,j,t,k,rfl,b,hc,hi,hj,hl,k1,k2,q⟩:=h;refine⟨_,(zf (zG (jf ZV (by rfl) T.zf6 UQ (za (pc0 (Z9 zx) hr zx (za (pvS 0) (za (pvS 1) zb))) zb)))),?_⟩;exact⟨_,rfl,_,rfl,p,l,c,rs,n,i,j,t,k,rfl,b,hc,hi,hj,hl,⟨#[k]⟩,_,rfl,int_sign k1 k2,(by show 1<=640;decide),q⟩
theorem zll {k:Nat}(h1:48<=k)(h2:k<=56):V.str (toString ((k:Int)-48))=V.str ⟨#[k]⟩:=by
 have:∀k∈XD 57,48<=k->((toString ((k:Int)-48):String):Str)=⟨#[k]⟩:=by decide +kernel
 exact congrArg V.str (this k (Xc.mpr (by lia)) h1)
theorem zbb {k:Nat}(h:k∈bd.cps.toList)(hp:Yo k=true):48<=k/\k<=56:=by
 have:∀k∈bd.cps.toList,Yo k=true->48<=k/\k<=56:=by decide +kernel
 exact this k h hp
def zI (rs:List Str)(y:Nat×Nat):List (Nat×Nat):=(Cells.zJ qo 0 (codes rs)).filter fun x=>Cells.near x y
def zlm:Sp:=fun vs H Q _=>∃(p l ca:Addr) (rs:List Str) (n:Int) (i j:Nat),vs=[.ref p,.ref ca]/\qb H p l rs n/\Rows bd.cps.toList rs/\H ca=some (.tup [.int (i:Nat),.int (j:Nat)])/\i<64/\j<64 /\
 ∀(d:Addr) (ws:List V) (H':Hp),H d=none->H' d=some (.lst ws)->Cel H' ws (zI rs (i,j))->zu H H'->Q (.ref d) H'
theorem zga (i:Nat):(if (0:Int)>(i:Int)-1 then (0:Int) else (i:Int)-1)=((i-1:Nat):Int):=by
 split<;>lia
theorem zgb (i m:Nat):(if ((m:Nat):Int)<(i:Int)+2 then ((m:Nat):Int) else (i:Int)+2)=((min (i+2) m:Nat):Int):=by
 split<;>lia
theorem zgc {f:Nat×Nat->Bool}{l:List (Nat×Nat)}{x:Nat×Nat}(a:Bool):(l++(if a=true then [x] else [])).filter f=l.filter f++(if (a&&f x)=true then [x] else []):=by
 rw[W3];congr 1;by_cases h:a=true
 ·by_cases h2:f x=true
  ·simp[h,h2]
  ·simp[h,h2]
 ·simp[h]
theorem Zy:zF ["board","cell","rows","found","row","column"] ["board","cell"] (zg j4):=⟨rfl,rfl,rfl,by decide +kernel,rfl,by decide +kernel,by decide +kernel⟩
theorem Qg (T:Txt mg)(D:zk K mg "around" j4 ["board","cell"] f fd):qk P w K mg base CX0 1 f fd ["board","cell"] zlm:=by
 refine D.F.ok Zy (fun vs H Q E h=>?_) (fun cdv A outer s H vs Q E hr h=>?_)
 ·obtain⟨p,l,ca,rs,n,i,j,rfl,_⟩:=h;rfl
 ·obtain⟨p,l,ca,rs,n,i,j,rfl,b,R,hca,hi64,hj64,q⟩:=h;refine⟨_,(zd (zq (i:=2) Zy.nd rfl (XM rfl) (qi jz (pvS 0) zo (fun _ _=>rfl)))
   (zd (zq (i:=3) Zy.nd rfl (XM rfl) (qa zb))
   (zd (qj Xe rfl (Y4 (by rfl) T.jd (za (zp (Zi rfl) (by rfl) T.zf7 UP (za (zz xM (qi jz (pvS 1) zo (fun _ _=>rfl)) zo) (za zo zb))) (za (zp (Zj rfl) (by rfl) T.zf8 UO (za (zz z4 (qi jz (pvS 1) zo (fun _ _=>rfl)) zo) (za (zp zB (by rfl) T.ji W0 (za (pvS 2) zb)) zb))) zb))) (zm (i:=4) Zy.nd rfl (XM rfl)) (zf (qj Xe rfl (Y4 (by rfl) T.jd (za (zp (Zi rfl) (by rfl) T.zf7 UP (za (zz xM (qi jz (pvS 1) zo (fun _ _=>rfl)) zo) (za zo zb))) (za (zp (Zj rfl) (by rfl) T.zf8 UO (za (zz z4 (qi jz (pvS 1) zo (fun _ _=>rfl)) zo) (za (zp yS (by rfl) T.ji W0 (za (qi qO (pvS 2) (pvS 4) (fun _ _=>rfl)) zb)) zb))) zb))) (zm (i:=5) Zy.nd rfl (XM rfl)) (zf (qX (PW.pt (zey (zH Qq (qi J3 (qi qO (pvS 2) (pvS 4) (fun _ _=>rfl)) (pvS 5) (fun _ _=>rfl)) (jy (v:=.str "#") (by rfl) T.YJ.choose_spec (by exact⟨_,rfl⟩)) (zQ _)) (zbO (zH (yF hr.units) (jU (za (pvS 4) (za (pvS 5) zb))) (pvS 1) (zQ _))))) (zf (yy (xY WO Wl Wj jA (pvS 3) (za (jU (za (pvS 4) (za (pvS 5) zb))) zb)))) zZ)))))
   (zf (zG (pvS 3)))))),?_⟩
  refine⟨_,rfl,p,_,0,_,rfl,rfl,SqT.of b.tp,rfl,?_⟩;refine⟨Z1,fun d hd=>?_⟩;have s0:zu H (upd H d (.lst [])):=ze hd;have r8:=R.hi;refine⟨_,rfl,ca,_,0,_,rfl,rfl,SqT.of (s0 _ _ hca),rfl,_,_,rfl,rfl,_,_,rfl,_,rfl,ca,_,0,_,rfl,rfl,SqT.of (s0 _ _ hca),rfl,_,_,rfl,rfl,_,rfl,l,_,rfl,.inl (SqL.of (b.mono s0).rw),_,_,rfl,((i-1:Nat):Int),((min (i+2) rs.length:Nat):Int),?_,⟨by lia,by lia,by lia,by lia⟩,?_⟩
  ·show [V.int (if (0:Int)>(i:Int)-1 then (0:Int) else (i:Int)-1),V.int (if (((rs.map V.str).length:Nat):Int)<(i:Int)+2 then (((rs.map V.str).length:Nat):Int) else (i:Int)+2)]=_;rw[Y1,zga,zgb]
  refine qw (lo:=((i-1:Nat):Int)) (fun k σ H'=>∃(v4 v5:Option V) (ws:List V),σ=[some (.ref p),some (.ref ca),some (.ref l),some (.ref d),v4,v5]/\zu H H'/\H' d=some (.lst ws)/\Cel H' ws ((Cells.zJ qo 0 ((codes rs).take (i-1+k))).filter fun x=>Cells.near x (i,j)))
   ⟨_,_,[],rfl,s0,zc,?_⟩ ?_ ?_
  ·rw[Cells.zk4]
   ·exact .nil
   ·intro r c hr';rw[Xy,ne_eq,Cells.YE];rintro⟨⟨_,h2⟩,_⟩;dsimp only at h2;lia
  ·rintro k σ H1 hk ⟨v4,v5,ws,rfl,s1,hd1,hc1⟩;have hrl:i-1+k<rs.length:=by lia
   have ecast:((i-1:Nat):Int)+(k:Nat)=((i-1+k:Nat):Int):=by lia
   rw[ecast];generalize hr0:i-1+k=r at *
   obtain⟨t,ht⟩:∃t,rs[r]?=some t:=⟨_,X7 hrl⟩;have htl:t.length<=Xz:=R.tlen ht;have ht8:t.cps.toList.length<=8:=R.short _ (X0 (jL ht));have hat:atI (rs.map V.str) ((r:Nat):Int)=some (V.str t):=zae (by rw[XA,ht];rfl);refine⟨_,rfl,ca,_,1,_,rfl,rfl,SqT.of (s1 _ _ hca),rfl,_,_,rfl,rfl,_,_,rfl,_,rfl,ca,_,1,_,rfl,rfl,SqT.of (s1 _ _ hca),rfl,_,_,rfl,rfl,_,rfl,_,rfl,l,_,_,_,rfl,rfl,SqL.of (b.mono s1).rw,hat,t,rfl,htl,_,_,rfl,((j-1:Nat):Int),((min (j+2) t.cps.size:Nat):Int),?_,⟨by lia,by lia,by lia,?_⟩,?_⟩
   ·show [V.int (if (0:Int)>(j:Int)-1 then (0:Int) else (j:Int)-1),V.int (if ((t.cps.size:Nat):Int)<(j:Int)+2 then ((t.cps.size:Nat):Int) else (j:Int)+2)]=_;rw[zga,zgb]
   ·lia
   have hsz:t.cps.toList.length=t.cps.size:=X4;refine qw (lo:=((j-1:Nat):Int)) (fun m σ H'=>∃(v5:Option V) (ws:List V),σ=[some (.ref p),some (.ref ca),some (.ref l),some (.ref d),some (.int (r:Nat)),v5]/\zu H H'/\H' d=some (.lst ws)/\Cel H' ws ((Cells.zJ qo 0 ((codes rs).take r)).filter (fun x=>Cells.near x (i,j))++(Cells.zY qo r 0 (t.cps.toList.take (j-1+m))).filter fun x=>Cells.near x (i,j)))
    ⟨_,ws,rfl,s1,hd1,?_⟩ ?_ ?_
   ·rw[Cells.zk5 (t:=t.cps.toList),Xa]
    ·exact hc1
    ·intro c hc';rw[Xy,ne_eq,Cells.YE];rintro⟨_,⟨_,h2⟩,_⟩;dsimp only at h2;lia
   ·rintro m σ H2 hm ⟨v5,ws2,rfl,s2,hd2,hc2⟩;have hcl:j-1+m<t.cps.size:=by lia
    have ecast2:((j-1:Nat):Int)+(m:Nat)=((j-1+m:Nat):Int):=by lia
    rw[ecast2];generalize hc0:j-1+m=c at *
    have hc0':j-1+(m+1)=c+1:=by lia
    obtain⟨k0,hk0⟩:∃k0,t.cps.toList[c]?=some k0:=⟨_,X7 (by lia)⟩;have step:=Cells.QL (p:=qo) (i:=r) hk0;have step2:(Cells.zY qo r 0 (t.cps.toList.take (c+1))).filter (fun x=>Cells.near x (i,j))=(Cells.zY qo r 0 (t.cps.toList.take c)).filter (fun x=>Cells.near x (i,j))++(if (qo k0&&Cells.near (r,c) (i,j))=true then [(r,c)] else []):=by
     rw[step,zgc]
    have nr:Cells.near (r,c) (i,j)=!decide ((r,c)=(i,j)):=by
     rw[Wz,Cells.YE];simp only[WE,decide_eq_false_iff_not];constructor
     ·exact fun h=>h.2.2
     ·intro h;refine⟨⟨?_,?_⟩,⟨?_,?_⟩,h⟩<;>(try dsimp only)<;>lia
    refine⟨_,rfl,_,rfl,l,_,_,_,rfl,rfl,SqL.of (b.mono s2).rw,hat,_,rfl,t,_,k0,rfl,rfl,htl,zae hk0,rfl,_,rfl,?_⟩;have ed:(!decide (V.str ⟨#[k0]⟩=V.str "#"))=qo k0:=by
     rw[zak];simp only[QN];rfl
    rw[ed];by_cases hp:qo k0=true
    ·refine yp hp ?_;refine⟨_,rfl,_,rfl,YD,fun tp htp=>?_⟩;have s3:zu H2 (upd H2 tp (.tup [.int (r:Nat),.int (c:Nat)])):=ze htp;have hca3:=s3 _ _ (s2 _ _ hca);refine⟨_,rfl,_,_,Ze.rdv (c:=(r,c)) ⟨tp,rfl,zc⟩,Ze.rdv (c:=(i,j)) ⟨ca,rfl,hca3⟩,zjz _ _,_,rfl,?_⟩;have ee:(if true=true then !PyData.eqv (zv (r,c)) (zv (i,j)) else WX (zv (r,c)) (zv (i,j)))=Cells.near (r,c) (i,j):=by
      rw[zd2,nr];rfl
     rw[ee];rw[hp,Tl] at step2;by_cases hn:Cells.near (r,c) (i,j)=true
     ·refine yp hn ?_;rw[if_pos hn] at step2;have hd3:=s3 _ _ hd2;refine⟨_,rfl,.inl ⟨rfl,_,SqL.of hd3⟩,_,rfl,_,rfl,YD,fun tq htq=>?_⟩;have s4:zu (upd H2 tp (.tup [.int (r:Nat),.int (c:Nat)])) (upd (upd H2 tp (.tup [.int (r:Nat),.int (c:Nat)])) tq (.tup [.int (r:Nat),.int (c:Nat)])):=ze htq;have hlen:ws2.length<=128:=by
       rw[hc2.length,XU];have h1:=W6 (fun x=>Cells.near x (i,j)) (Cells.zJ qo 0 ((codes rs).take r));have h2:=W6 (fun x=>Cells.near x (i,j)) (Cells.zY qo r 0 (t.cps.toList.take c));have h3:=Cells.jB qo 0 ((codes rs).take r) fun u hu=>R.short u (V6 hu);have h4:=Cells.ye qo r 0 (t.cps.toList.take c);rw[XE,jr] at h3;rw[XE] at h4;lia
      refine⟨d,_,_,rfl,rfl,s4 _ _ hd3,XF hlen (by decide),?_⟩;refine⟨_,ws2++[.ref tq],rfl,fun b' o e'=>?_,zc,?_⟩
      ·rw[zh (zj e' hd)];exact s4 _ _ (s3 _ _ (s2 _ _ e'))
      ·rw[hc0',step2,<- W2];exact Cel.into d _ (s4 _ _ hd3) (Cel.snoc (Cel.mono s4 (Cel.mono s3 hc2)) ⟨tq,rfl,zc⟩)
     ·have hn':Cells.near (r,c) (i,j)=false:=by simpa using hn
      refine jM hn' ?_;rw[if_neg hn,Xa] at step2;refine⟨_,ws2,rfl,s2.trans s3,s3 _ _ hd2,?_⟩;rw[hc0',step2];exact Cel.mono s3 hc2
    ·have hp':qo k0=false:=by simpa using hp
     refine jM hp' ?_;refine ZU ?_;rw[hp',Uq,if_neg XX,Xa] at step2;refine⟨_,ws2,rfl,s2,hd2,?_⟩;rw[hc0',step2];exact hc2
   ·rintro σ H2 ⟨v5,ws2,rfl,s2,hd2,hc2⟩;refine⟨_,_,ws2,rfl,s2,hd2,?_⟩;have full:(Cells.zY qo r 0 (t.cps.toList.take (j-1+(((min (j+2) t.cps.size:Nat):Int)-((j-1:Nat):Int)).toNat))).filter (fun x=>Cells.near x (i,j))=(Cells.zY qo r 0 t.cps.toList).filter fun x=>Cells.near x (i,j):=by
     by_cases hbig:t.cps.size<=j-1+(((min (j+2) t.cps.size:Nat):Int)-((j-1:Nat):Int)).toNat
     ·rw[Ww (by lia)]
     ·refine Cells.zjv fun c hc'=>?_;rw[Xy,ne_eq,Cells.YE];rintro⟨_,⟨h2,_⟩,_⟩;dsimp only at h2;lia
    rw[full] at hc2;have e1:i-1+(k+1)=r+1:=by lia
    rw[e1,Cells.QM (jL ht),W3];exact hc2
  ·rintro σ H1 ⟨v4,v5,ws,rfl,s1,hd1,hc1⟩;have full:(Cells.zJ qo 0 ((codes rs).take (i-1+(((min (i+2) rs.length:Nat):Int)-((i-1:Nat):Int)).toNat))).filter (fun x=>Cells.near x (i,j))=zI rs (i,j):=by
    by_cases hbig:rs.length<=i-1+(((min (i+2) rs.length:Nat):Int)-((i-1:Nat):Int)).toNat
    ·rw[Ww (by rw[jr];lia)];rfl
    ·refine Cells.zju fun r c hr'=>?_;rw[Xy,ne_eq,Cells.YE];rintro⟨⟨h2,_⟩,_⟩;dsimp only at h2;lia
   rw[full] at hc1;exact⟨_,rfl,q d ws H1 hd hd1 hc1 s1⟩
theorem Ze.rdn {N:Addr->Prop}{H:Hp}{v:V}{c:Nat×Nat}(h:Ze H v c):Rdn N H v (zv c):=by
 obtain⟨a,rfl,h⟩:=h;exact .tup h (.cons (.int _) (.cons (.int _) .nil))
theorem Cel.rdn {N:Addr->Prop}{H:Hp}{vs:List V}{cs:List (Nat×Nat)}(hp:Cel H vs cs):zD N H vs (cs.map zv):=by
 induction hp with
 | nil=>exact .nil
 | cons h _ ih =>
  exact .cons (Ze.rdn h) ih
theorem Rdn.celR {N:Addr->Prop}{H:Hp}{v:V}{c:Nat×Nat}(h:Rdn N H v (zv c)):Ze H v c:=by
 cases h with
 | tup h t =>
  cases t with
  | cons a t =>
   cases a;cases t with
   | cons b t =>
    cases b;cases t;exact⟨_,rfl,h⟩
theorem zD.cel {N:Addr->Prop}{H:Hp}:∀{cs:List (Nat×Nat)} {vs:List V},zD N H vs (cs.map zv)->Cel H vs cs
 | [],_,h=>by cases h;exact .nil
 | c::r,_,h=>by
  cases h with
  | cons a t=>exact .cons (Rdn.celR a) (zD.cel t)
theorem zD.bools {N:Addr->Prop}{H:Hp}:∀{bs:List Bool} {vs:List V},zD N H vs (bs.map SU)->vs=bs.map V.bl
 | [],_,h=>by cases h;rfl
 | b::r,_,h=>by
  cases h with
  | cons a t =>
   cases a;rw[zD.bools t];rfl
theorem qS {α:Type}(p:α->Bool)(g:α->We):∀cs:List α,(cs.map fun x=>if p x=true then some (g x) else none).filterMap id=(cs.filter p).map g
 | []=>rfl
 | c::r=>by
  rw[Xf,U5,Wv];by_cases h:p c=true
  ·rw[if_pos h,if_pos h];show g c::_=g c::_;rw[qS p g r]
  ·rw[if_neg h,if_neg h];exact qS p g r
theorem Zz {α:Type}(g:α->We):∀cs:List α,(cs.map fun x=>some (g x)).filterMap id=cs.map g
 | []=>rfl
 | c::r=>by
  rw[Xf,U5];show g c::_=g c::_;rw[Zz g r]
theorem xw {α β:Type}{g:α->β}{cs:List α}{i:Nat}{c:α}{o:β}(h:cs[i]?=some c)(ho:(cs.map g)[i]?=some o):o=g c:=by
 rw[XA,h] at ho;exact(Option.some.inj ho).symm
def clA (rs:List Str)(c:Nat×Nat):List (Nat×Nat):=(zI rs c).filter fun x=>decide (Cells.sgn (codes rs) x=63)
def zL (rs:List Str):List (Nat×Nat):=Cells.zJ qA 0 (codes rs)
def qf (rs:List Str):List (Nat×Nat):=Cells.zJ Yo 0 (codes rs)
def yi (rs:List Str):List (Nat×Nat):=(zL rs).filter fun c=>!((qf rs).map fun o=>(zI rs o).any fun z=>decide (z=c)).any id
def jQ (rs:List Str):List (Nat×Nat):=((qf rs).filter fun o=>(clA rs o).isEmpty).filter fun o=>!decide (Cells.sgn (codes rs) o=48)
theorem qW {p:Nat->Bool}{rs:List Str}(R:Rows bd.cps.toList rs):(Cells.zJ p 0 (codes rs)).length<=64:=by
 have h1:=Cells.jB p 0 (codes rs) R.short;have h2:=R.hi;rw[jr] at h1;lia
theorem Zf {rs:List Str}(R:Rows bd.cps.toList rs)(c:Nat×Nat):(zI rs c).length<=64:=X5 (W6 _ _) (qW R)
theorem qg {p:Nat->Bool}{rs:List Str}{c:Nat×Nat}(h:c∈Cells.zJ p 0 (codes rs)):∃t k,rs[c.1]?=some t/\t.cps.toList[c.2]?=some k/\p k=true/\Cells.sgn (codes rs) c=k:=by
 obtain⟨k0,j,u,k,ec,hk0,hj,hpc⟩:=Cells.Jz h;obtain⟨t,ht,rfl⟩:=za9 hk0;rw[V2] at ec;subst ec;exact⟨t,k,ht,hj,hpc,Cells.ze1 hk0 hj⟩
theorem JQ {rs:List Str}{c:Nat×Nat}{t:Str}{k:Nat}(R:Rows bd.cps.toList rs)(h1:rs[c.1]?=some t)(h2:t.cps.toList[c.2]?=some k):c.1<64/\c.2<64:=by
 have a:=(XY.mp h1).1;have b:=(XY.mp h2).1;have e:=R.hi;have f:=R.short _ (X0 (jL h1));lia
theorem ziv {rs:List Str}{i j:Nat}{t:Str}{k:Nat}(R:Rows bd.cps.toList rs)(h1:rs[i]?=some t)(h2:t.cps.toList[j]?=some k):k∈bd.cps.toList:=by
 obtain⟨n,_,_,h⟩:=R.ex;exact(h t (X0 h1)).mem k (X0 h2)
def zqv:Sp:=fun vs H Q _=>∃(p l ca:Addr) (rs:List Str) (n:Int) (c:Nat×Nat),vs=[.ref p,.ref ca]/\qb H p l rs n/\Rows bd.cps.toList rs/\H ca=some (.tup [.int (c.1:Nat),.int (c.2:Nat)])/\c.1<64/\c.2<64 /\
 ∀(d:Addr) (ws:List V) (H':Hp),H d=none->H' d=some (.lst ws)->Cel H' ws (clA rs c)->zu H H'->Q (.ref d) H'
def znX (g:List Str->List (Nat×Nat)):Sp:=fun vs H Q _=>∃(a l:Addr) (rs:List Str) (n:Int),vs=[.ref a]/\qb H a l rs n/\Rows bd.cps.toList rs /\
 ∀(d:Addr) (ws:List V) (H':Hp),H d=none->H' d=some (.lst ws)->Cel H' ws (g rs)->zu H H'->Q (.ref d) H'
theorem zbc:zF ["board","cell"] ["board","cell"] (zg qK):=⟨rfl,rfl,rfl,by decide +kernel,rfl,by decide +kernel,by decide +kernel⟩
theorem ZA {f1 f2:Addr}{fd1 fd2:Xq}(T:Txt mg)(D:zk K mg "closed_around" qK ["board","cell"] f fd)(zO:zk K mg "around" j4 ["board","cell"] f1 fd1)(zx:zk K mg "sign_at" qJ ["board","cell"] f2 fd2) :
  qk P w K mg base CX0 2 f fd ["board","cell"] zqv:=by
 refine D.F.ok zbc (fun vs H Q E h=>?_) (fun cdv A outer s H vs Q E hr h=>?_)
 ·obtain⟨p,l,ca,rs,n,c,rfl,_⟩:=h;rfl
 ·obtain⟨p,l,ca,rs,n,c,rfl,b,R,hca,ci,cj,q⟩:=h;refine⟨_,(zf (zG (qh (N:=["place","board"]) (src:=[none,some 0]) (zU.free (O:=(zg qK).names) (XN:=["board","cell"]) rfl rfl ⟨_,rfl⟩ rfl rfl (by decide +kernel) (by decide +kernel) (by decide +kernel) rfl (by decide +kernel)) rfl (zM (pc0 (Qg T zO) hr zO (za (pvS 0) (za (pvS 1) zb)))) (fun _ _ _ _ _=>(zm (i:=0) (by show WW (["place","board"]:List Str);decide +kernel) rfl (XM rfl))) (fun _ _ _ _ _=>(qD (zH JF (pc0 (Z9 zx) hr zx (za (pvS 1) (za (pvS 0) zb))) (jy (v:=.str "?") (by rfl) T.Zd.choose_spec (by exact⟨_,rfl⟩)) (zQ _)))) (fun _ _ _ _ _=>(pvS 0))))),?_⟩;refine⟨_,rfl,_,rfl,p,l,ca,rs,n,c.1,c.2,rfl,b,R,hca,ci,cj,fun d ws H1 hd hd1 hc1 s1=>⟨d,rfl,⟨_,SqL.of hd1⟩,fun z hz=>?_⟩⟩;refine qU (K:=K) (a:=d) (xs:=ws) (fun a=>a≠z) ((zI rs c).map fun x=>if decide (Cells.sgn (codes rs) x=63)=true then some (zv x) else none) (fun σ=>∃u0,σ=[u0,some (.ref p)]) hz (fun _ h=>h) ⟨_,rfl⟩ (by rw[Y1];exact hc1.length.symm) (by rw[hc1.length];exact X5 (Zf R c) (by decide)) (SqL.of hd1) ?_ ?_
  ·rintro k x o σ H2 hx ho s2 _ ⟨u0,rfl⟩ Y Z yes no;obtain⟨y,hy,r1⟩:=Cel.get hc1 hx;have eo:=xw hy ho;obtain⟨t,sg,ht,hj,_,es⟩:=qg (XV.mp (X0 hy)).1;obtain⟨ya,rfl,hya⟩:=r1;refine⟨_,rfl,_,rfl,p,l,ya,rs,n,y.1,y.2,t,sg,rfl,(b.mono s1).mono s2,s2 _ _ hya,ht,hj,R.tlen ht,rfl,_,rfl,?_⟩;have ed:decide (V.str ⟨#[sg]⟩=V.str "?")=decide (sg=63):=by
    rw[Z8];simp only[QN]
   rw[ed];rw[es] at eo;by_cases hp:sg=63
   ·rw[decide_eq_true hp];rw[if_pos (decide_eq_true hp)] at eo;exact Qm ⟨_,rfl,yes _ _ _ _ eo ⟨_,rfl⟩ (zu.refl _) (Ze.rdn ⟨ya,rfl,s2 _ _ hya⟩)⟩
   ·rw[decide_eq_false hp];rw[if_neg (by rw[decide_eq_false hp];exact XX)] at eo;exact ZU (no _ _ eo ⟨_,rfl⟩ (zu.refl _))
  ·rintro ys H2 s2 hz2 hr2;rw[qS] at hr2;exact q z ys H2 (s1.free hz) hz2 (zD.cel hr2) (s1.trans s2)
theorem zgd (cs:List (Nat×Nat)):Wp (cs.map zv)=true:=by
 induction cs with
 | nil=>rfl
 | cons c r ih =>
  show (Vf (zv c)&&Wp (r.map zv))=true;rw[ih];rfl
theorem zpb (cs:List (Nat×Nat)):Wy (cs.map zv)<=1:=by
 induction cs with
 | nil=>exact W5 _
 | cons c r ih =>
  show max (PyData.depth (zv c)) (Wy (r.map zv))<=1;have:PyData.depth (zv c)=1:=rfl;lia
theorem ze6 (cs ds:List (Nat×Nat)):zca (.list (cs.map zv)) (.list (ds.map zv)):=⟨zgd cs,zgd ds,by
 show Wy (cs.map zv)+1<=64;have:=zpb cs;lia⟩
theorem ZC (cs:List (Nat×Nat))(c:Nat×Nat):(cs.map zv).any (fun z=>WX z (zv c))=cs.any fun z=>decide (z=c):=by
 rw[Uf];congr 1;funext z;exact zd2 z c
theorem eq_nil (cs:List (Nat×Nat)):WX (.list (cs.map zv)) (.list [])=cs.isEmpty:=by
 cases cs<;>rfl
theorem zln:zF ["board","told"] ["board"] (zg zf4):=⟨rfl,rfl,rfl,by decide +kernel,rfl,by decide +kernel,by decide +kernel⟩
theorem zlo {f1 f2 f3 f4 f5:Addr}{fd1 fd2 fd3 fd4 fd5:Xq}(T:Txt mg)(D:zk K mg "far" zf4 ["board"] f fd)(zO:zk K mg "around" j4 ["board","cell"] f1 fd1)(zx:zk K mg "sign_at" qJ ["board","cell"] f2 fd2)
  (zE:zk K mg "cells_of" qz ["board"] f3 fd3) (j7:zk K mg "closed" Zw ["board"] f4 fd4) (zC:zk K mg "open_cells" qt ["board"] f5 fd5):qk P w K mg base CX0 3 f fd ["board"] (znX yi):=by
 refine D.F.ok zln (fun vs H Q E h=>?_) (fun cdv A outer s H vs Q E hr h=>?_)
 ·obtain⟨a,l,rs,n,rfl,_⟩:=h;rfl
 ·obtain⟨a,l,rs,n,rfl,b,R,q⟩:=h;refine⟨_,(zd (zq (i:=1) zln.nd rfl (UV rfl) (qh (N:=["cell","board"]) (src:=[none,some 0]) (zU.free (O:=(zg zf4).names) (XN:=["board","told"]) rfl rfl ⟨_,rfl⟩ rfl rfl (by decide +kernel) (by decide +kernel) (by decide +kernel) rfl (by decide +kernel)) rfl (zM (pc0 (xR T zC zE zx) hr zC (za (pvS 0) zb))) (fun _ _ _ _ _=>(zm (i:=0) (by show WW (["cell","board"]:List Str);decide +kernel) rfl (XM rfl))) (fun _ _ _ _ _=>qN) (fun _ _ _ _ _=>(pc0 (Qg T zO) hr zO (za (pvS 1) (za (pvS 0) zb))))))
   (zf (zG (zkp (N:=["cell","told"]) (src:=[none,some 1]) (ZY.byRfl (y:="cell") rfl (fun _ _=>rfl) (fun _=>rfl) (by decide +kernel) (by decide +kernel) (by rfl) rfl (by rfl)) rfl (zM (pc0 (zba T j7 zE zx) hr j7 (za (pvS 0) zb))) (fun _ _ _ _ _=>(zm (i:=0) (by show WW (["cell","told"]:List Str);decide +kernel) rfl (UV rfl))) (fun _ _ _ _ _=>(qD (Yu (zaU (K:=K) (by rfl) (zp (zdI (K:=K) (by rfl) (by rfl)) (by rfl) T.zlg Sc (za (qh (N:=["near","cell"]) (src:=[none,some 0]) (zU.byRfl rfl (by decide +kernel) (by decide +kernel) (by rfl) rfl (by rfl)) (by rfl) (zfE (K:=K) (by rfl) (pvS 1)) (fun _ _ _ _ _=>(zm (i:=0) (by show WW (["near","cell"]:List Str);decide +kernel) rfl (XM rfl))) (fun _ _ _ _ _=>qN) (fun _ _ _ _ _=>(Y5 (jV (K:=K) (by rfl) hr.units) (pvS 1) (pvS 0) (by rfl)))) zb)) (fun _=>rfl))))) (fun _ _ _ _ _=>(pvS 0)))))),?_⟩
  refine⟨_,rfl,a,l,rs,n,rfl,b,R,fun d ws H1 hd hd1 hc1 s1=>⟨d,rfl,⟨_,SqL.of hd1⟩,fun z hz=>?_⟩⟩;have b1:=b.mono s1;refine qU (K:=K) (a:=d) (xs:=ws) (fun a=>a≠z) ((qf rs).map fun o=>some (.list ((zI rs o).map zv))) (fun σ=>∃u0,σ=[u0,some (.ref a)]) hz (fun _ h=>h) ⟨_,rfl⟩ (by rw[Y1];exact hc1.length.symm) (by rw[hc1.length];exact X5 (qW R) (by decide)) (SqL.of hd1) ?_ ?_
  ·rintro k x o σ H2 hx ho s2 hzn ⟨u0,rfl⟩ Y Z yes no;obtain⟨y,hy,r1⟩:=Cel.get hc1 hx;have eo:=xw hy ho;obtain⟨t,sg,ht,hj,_,es⟩:=qg (X0 hy);obtain⟨ya,rfl,hya⟩:=r1;obtain⟨l1,l2⟩:=JQ R ht hj;refine J1 ⟨_,rfl,_,rfl,a,l,ya,rs,n,y.1,y.2,rfl,b1.mono s2,R,s2 _ _ hya,l1,l2,fun d2 ws2 H3 hd2 hd3 hc2 s3=>?_⟩;refine yes _ _ _ _ eo ⟨_,rfl⟩ s3 (.lst (fun e=>hzn (e ▸ hd2)) hd3 (Cel.rdn hc2))
  ·rintro ys H2 s2 hz2 hr2;rw[Zz] at hr2;have b2:=b1.mono s2;refine⟨_,rfl,a,l,rs,n,rfl,b2,R,fun d3 ws3 H3 hd3 hd4 hc3 s3=>⟨d3,rfl,⟨_,SqL.of hd4⟩,fun z3 hz3=>?_⟩⟩;have hz4:=s3 _ _ hz2;have hr3:=hr2.keep s3;refine qU (K:=K) (a:=d3) (xs:=ws3) (fun a=>a≠z3) ((zL rs).map fun c=>if (!((qf rs).map fun o=>(zI rs o).any fun z=>decide (z=c)).any id)=true then some (zv c) else none) (fun σ=>∃u0,σ=[u0,some (.ref z)]) hz3 (fun _ h=>h) ⟨_,rfl⟩ (by rw[Y1];exact hc3.length.symm) (by rw[hc3.length];exact X5 (qW R) (by decide)) (SqL.of hd4) ?_ ?_
   ·rintro k x o σ H4 hx ho s4 _ ⟨u0,rfl⟩ Y Z yes no;obtain⟨y,hy,r1⟩:=Cel.get hc3 hx;have eo:=xw hy ho;have r2:Ze H4 x y:=by
     obtain⟨ya,e,hya⟩:=r1;exact⟨ya,e,s4 _ _ hya⟩
    refine⟨_,rfl,z,rfl,⟨_,SqL.of (s4 _ _ hz4)⟩,fun z5 hz5=>?_⟩;have hyl:ys.length=(qf rs).length:=by rw[hr2.length,Y1]
    refine qU (K:=K) (a:=z) (xs:=ys) (fun a=>a≠z5) ((qf rs).map fun o=>some (.bool ((zI rs o).any fun z=>decide (z=y)))) (fun σ=>∃u0,σ=[u0,some x]) hz5 (fun _ h=>h) ⟨_,rfl⟩ (by rw[Y1];exact hyl.symm) (by rw[hyl];exact X5 (qW R) (by decide)) (SqL.of (s4 _ _ hz4)) ?_ ?_
    ·rintro m v o2 σ H5 hv ho2 s5 _ ⟨u1,rfl⟩ Y2 Z2 yes2 no2;obtain⟨dv,hdv,rv⟩:=hr3.get hv;rw[XA] at hdv;cases eoc:(qf rs)[m]? with
     | none=>rw[eoc] at hdv;cases hdv
     | some oc =>
      rw[eoc] at hdv;cases hdv;have eo2:=xw eoc ho2;have r3:Ze H5 x y:=by
       obtain⟨ya,e,hya⟩:=r2;exact⟨ya,e,s5 _ _ hya⟩
      refine J1 ⟨_,rfl,_,rfl,zv y,(zI rs oc).map zv,r3.rdv,(((rv.keep s4).keep s5).rdv),rfl,zgd _,(by show 1<=60;decide),?_⟩;have ei:(if false=true then !((zI rs oc).map zv).any (fun z=>WX z (zv y)) else ((zI rs oc).map zv).any fun z=>WX z (zv y))=(zI rs oc).any fun z=>decide (z=y):=ZC _ _;rw[ei];exact yes2 _ _ _ _ eo2 ⟨_,rfl⟩ (zu.refl _) (.bl _)
    ·rintro ys5 H5 s5 hz6 hr5;rw[Zz,show ((qf rs).map fun o=>SU ((zI rs o).any fun z=>decide (z=y)))=((qf rs).map fun o=>(zI rs o).any fun z=>decide (z=y)).map SU by rw[WR];rfl] at hr5;rw[zD.bools hr5] at hz6;refine⟨z5,_,rfl,SqL.of hz6,_,rfl,?_⟩;by_cases hp:(!((qf rs).map fun o=>(zI rs o).any fun z=>decide (z=y)).any id)=true
     ·rw[if_pos hp] at eo;refine yp hp ⟨_,rfl,yes _ _ _ _ eo ⟨_,rfl⟩ s5 (Ze.rdn ?_)⟩;obtain⟨ya,e,hya⟩:=r2;exact⟨ya,e,s5 _ _ hya⟩
     ·rw[if_neg hp] at eo;exact jM (by simpa using hp) (no _ _ eo ⟨_,rfl⟩ s5)
   ·rintro ys4 H4 s4 hz6 hr4;rw[qS] at hr4;exact q z3 ys4 H4 (s1.free (s2.free (s3.free hz3))) hz6 (zD.cel hr4) (((s1.trans s2).trans s3).trans s4)
theorem Qv:zF ["board","bare"] ["board"] (zg yh):=⟨rfl,rfl,rfl,by decide +kernel,rfl,by decide +kernel,by decide +kernel⟩
theorem Qw {f1 f2 f3 f4 f5 f6:Addr}{fd1 fd2 fd3 fd4 fd5 fd6:Xq}(T:Txt mg)(D:zk K mg "bare_wrong" yh ["board"] f fd)(zO:zk K mg "around" j4 ["board","cell"] f1 fd1)(zx:zk K mg "sign_at" qJ ["board","cell"] f2 fd2)
  (zE:zk K mg "cells_of" qz ["board"] f3 fd3) (zR:zk K mg "closed_around" qK ["board","cell"] f4 fd4) (zC:zk K mg "open_cells" qt ["board"] f5 fd5) (qd:zk K mg "number_at" j5 ["board","cell"] f6 fd6):qk P w K mg base CX0 3 f fd ["board"] (znX jQ):=by
 refine D.F.ok Qv (fun vs H Q E h=>?_) (fun cdv A outer s H vs Q E hr h=>?_)
 ·obtain⟨a,l,rs,n,rfl,_⟩:=h;rfl
 ·obtain⟨a,l,rs,n,rfl,b,R,q⟩:=h;refine⟨_,(zd (ZX (i:=1) Qv.nd rfl rfl (N:=["cell","board"]) (src:=[none,some 0]) (zU.free (O:=(zg yh).names) (XN:=["board","bare"]) rfl rfl ⟨_,rfl⟩ rfl rfl (by decide +kernel) (by decide +kernel) (by decide +kernel) rfl (by decide +kernel)) rfl (zM (pc0 (xR T zC zE zx) hr zC (za (pvS 0) zb))) (fun _ _ _ _ _=>(zm (i:=0) (by show WW (["cell","board"]:List Str);decide +kernel) rfl (XM rfl))) (fun _ _ _ _ _=>(qD (zH (zfz (K:=K) (by rfl) hr.units) (pc0 (ZA T zR zO zx) hr zR (za (pvS 1) (za (pvS 0) zb))) (qa zb) (zQ _)))) (fun _ _ _ _ _=>(pvS 0)))
   (zf (zG (qh (N:=["cell","board"]) (src:=[none,some 0]) (zU.free (O:=(zg yh).names) (XN:=["board","bare"]) rfl rfl ⟨_,rfl⟩ rfl rfl (by decide +kernel) (by decide +kernel) (by decide +kernel) rfl (by decide +kernel)) rfl (zM (pvS 1)) (fun _ _ _ _ _=>(zm (i:=0) (by show WW (["cell","board"]:List Str);decide +kernel) rfl (XM rfl))) (fun _ _ _ _ _=>(qD (zH Qq (pc0 (zaB T qd zx) hr qd (za (pvS 1) (za (pvS 0) zb))) zo (zQ _)))) (fun _ _ _ _ _=>(pvS 0)))))),?_⟩
  refine⟨_,rfl,a,l,rs,n,rfl,b,R,fun d ws H1 hd hd1 hc1 s1=>⟨d,rfl,⟨_,SqL.of hd1⟩,fun z hz=>?_⟩⟩;have b1:=b.mono s1;refine qU (K:=K) (a:=d) (xs:=ws) (fun a=>a≠z) ((qf rs).map fun o=>if (clA rs o).isEmpty=true then some (zv o) else none) (fun σ=>∃u0,σ=[u0,some (.ref a)]) hz (fun _ h=>h) ⟨_,rfl⟩ (by rw[Y1];exact hc1.length.symm) (by rw[hc1.length];exact X5 (qW R) (by decide)) (SqL.of hd1) ?_ ?_
  ·rintro k x o σ H2 hx ho s2 hzn ⟨u0,rfl⟩ Y Z yes no;obtain⟨y,hy,r1⟩:=Cel.get hc1 hx;have eo:=xw hy ho;obtain⟨t,sg,ht,hj,_,es⟩:=qg (X0 hy);obtain⟨ya,rfl,hya⟩:=r1;obtain⟨l1,l2⟩:=JQ R ht hj;refine⟨_,rfl,_,rfl,a,l,ya,rs,n,y,rfl,b1.mono s2,R,s2 _ _ hya,l1,l2,fun d2 ws2 H3 hd2 hd3 hc2 s3=>⟨Z1,fun e he=>?_⟩⟩;have s4:=ze (o:=.lst []) he;refine⟨.list ((clA rs y).map zv),.list [],.lst (SqL.of (s4 _ _ hd3)) (zD.rdv (N:=fun _=>True) (Cel.rdn (Cel.mono s4 hc2))),.lst (SqL.of zc) .nil,ze6 _ [],_,rfl,?_⟩;have ee:(if false=true then !PyData.eqv (.list ((clA rs y).map zv)) (.list []) else WX (.list ((clA rs y).map zv)) (.list []))=(clA rs y).isEmpty:=eq_nil _;rw[ee];by_cases hp:(clA rs y).isEmpty=true
   ·rw[if_pos hp] at eo;exact yp hp ⟨_,rfl,yes _ _ _ _ eo ⟨_,rfl⟩ (s3.trans s4) (Ze.rdn ⟨ya,rfl,s4 _ _ (s3 _ _ (s2 _ _ hya))⟩)⟩
   ·rw[if_neg hp] at eo;exact jM (by simpa using hp) (no _ _ eo ⟨_,rfl⟩ (s3.trans s4))
  ·rintro ys H2 s2 hz2 hr2;rw[qS] at hr2;have hc2:=zD.cel hr2;have b2:=b1.mono s2;refine⟨_,rfl,z,rfl,⟨_,SqL.of hz2⟩,fun z3 hz3=>?_⟩;refine qU (K:=K) (a:=z) (xs:=ys) (fun a=>a≠z3) (((qf rs).filter fun o=>(clA rs o).isEmpty).map fun o=>if (!decide (Cells.sgn (codes rs) o=48))=true then some (zv o) else none) (fun σ=>∃u0,σ=[u0,some (.ref a)]) hz3 (fun _ h=>h) ⟨_,rfl⟩ (by rw[Y1];exact hc2.length.symm) (by rw[hc2.length];exact X5 (W6 _ _) (X5 (qW R) (by decide))) (SqL.of hz2) ?_ ?_
   ·rintro k x o σ H4 hx ho s4 _ ⟨u0,rfl⟩ Y Z yes no;obtain⟨y,hy,r1⟩:=Cel.get hc2 hx;have eo:=xw hy ho;obtain⟨t,sg,ht,hj,hpo,es⟩:=qg (XV.mp (X0 hy)).1;obtain⟨ya,rfl,hya⟩:=r1;obtain⟨k1,k2⟩:=zbb (ziv R ht hj) hpo;refine⟨_,rfl,_,rfl,a,l,ya,rs,n,y.1,y.2,t,sg,rfl,b2.mono s4,s4 _ _ hya,ht,hj,R.tlen ht,k1,k2,rfl,_,rfl,?_⟩;have ed:(!decide (V.int ((sg:Int)-48)=V.int 0))=!decide (Cells.sgn (codes rs) y=48):=by
     rw[es,zez];congr 1;by_cases h:sg=48
     ·rw[decide_eq_true h,h];rfl
     ·rw[decide_eq_false h];simp only[beq_eq_false_iff_ne,ne_eq];lia
    rw[ed];by_cases hp:(!decide (Cells.sgn (codes rs) y=48))=true
    ·rw[if_pos hp] at eo;exact yp hp ⟨_,rfl,yes _ _ _ _ eo ⟨_,rfl⟩ (zu.refl _) (Ze.rdn ⟨ya,rfl,s4 _ _ hya⟩)⟩
    ·rw[if_neg hp] at eo;exact jM (by simpa using hp) (no _ _ eo ⟨_,rfl⟩ (zu.refl _))
   ·rintro ys4 H4 s4 hz6 hr4;rw[qS] at hr4;exact q z3 ys4 H4 (s1.free (s2.free hz3)) hz6 (zD.cel hr4) ((s1.trans s2).trans s4)
theorem zhp {K:X2}{H:Hp}{vs:List V}{cs:List (Nat×Nat)}(hp:Cel H vs cs):xq K H vs (cs.map zv):=by
 induction hp with
 | nil=>exact .nil
 | cons h _ ih =>
  exact .cons (Ze.rdv h) ih
theorem zhq (cs:List (Nat×Nat)):Wp (cs.map zv)=true:=by
 induction cs with
 | nil=>rfl
 | cons c r ih =>
  show (Vf (zv c)&&Wp (r.map zv))=true;rw[ih];rfl
theorem zlp (cs:List (Nat×Nat)):Wy (cs.map zv)<=1:=by
 induction cs with
 | nil=>exact W5 _
 | cons c r ih =>
  show max (PyData.depth (zv c)) (Wy (r.map zv))<=1;have:PyData.depth (zv c)=1:=rfl;lia
theorem zpc (cs ds:List (Nat×Nat)):zca (.list (cs.map zv)) (.list (ds.map zv)):=⟨zhq cs,zhq ds,by
 show Wy (cs.map zv)+1<=64;have:=zlp cs;lia⟩
theorem g_same (cs:List (Nat×Nat)):WX (.list (cs.map zv)) (.list (cs.map zv))=true:=OF _ (zhq cs)
def toI (c:Nat×Nat):Int×Int:=(((c.1:Nat):Int),((c.2:Nat):Int))
def ofI (p:Int×Int):Nat×Nat:=(p.1.toNat,p.2.toNat)
theorem ziw (c:Nat×Nat):ofI (toI c)=c:=rfl
theorem znd {c d:Nat×Nat}(h:toI c=toI d):c=d:=by rw[<- ziw c,h,ziw]
theorem zix {c d:Nat×Nat}:lt2 (toI c) (toI d)=true↔Cells.lex c d:=by
 obtain⟨a,b⟩:=c;obtain⟨x,y⟩:=d;unfold lt2 Cells.lex;show (if ((a:Nat):Int)=((x:Nat):Int) then decide (((b:Nat):Int)<((y:Nat):Int)) else decide (((a:Nat):Int)<((x:Nat):Int)))=true↔a<x\/(a=x/\b<y);by_cases e:a=x
 ·rw[if_pos (by lia),decide_eq_true_eq];lia
 ·rw[if_neg (by lia),decide_eq_true_eq];lia
theorem Cel.tup2 {H:Hp}{vs:List V}{cs:List (Nat×Nat)}(hp:Cel H vs cs):yd H vs (cs.map toI):=by
 induction hp with
 | nil=>exact .nil
 | cons q _ ih =>
  obtain⟨a,e,h⟩:=q;exact .cons ⟨a,e,h⟩ ih
theorem Ja {H:Hp}:∀{cs:List (Nat×Nat)} {vs:List V},yd H vs (cs.map toI)->Cel H vs cs
 | [],_,.nil=>.nil
 | _::_,_,.cons ⟨a,e,h⟩ t=>.cons ⟨a,e,h⟩ (Ja t)
theorem ziy {ps:List (Int×Int)}{cs:List (Nat×Nat)}(h:ps.Perm (cs.map toI)):∃ds:List (Nat×Nat),ps=ds.map toI/\ds.Perm cs:=by
 refine⟨ps.map ofI,?_,?_⟩
 ·rw[WR];refine(RX ps).symm.trans (Xi fun p hp=>?_);obtain⟨c,_,rfl⟩:=XC.mp (h.mem_iff.mp hp);rfl
 ·have:=h.map ofI;rw[WR] at this;have e:cs.map (ofI∘toI)=cs:=(Xi fun c _=>ziw c).trans (RX cs);rwa [e] at this
theorem zpd {cs:List (Nat×Nat)}(h:Up2 (cs.map toI)):cs.Pairwise Cells.lex:=by
 unfold Up2 at h;rw[Wo] at h;exact h.imp fun z=>zix.mp z
theorem yj {cs:List (Nat×Nat)}(h:cs.Pairwise Cells.lex):cs.Nodup:=h.imp fun {a b} z e=>by
 subst e;unfold Cells.lex at z;lia
def zjB (H:Hp)(v:V)(g:List (Nat×Nat)):Prop:=∃a us,v=V.ref a/\H a=some (.lst us)/\Cel H us g
def yI (H:Hp):List V->List (List (Nat×Nat))->Prop:=WV (zjB H)
theorem zjB.mono {H H':Hp}{v:V}{g:List (Nat×Nat)}(s:zu H H')(h:zjB H v g):zjB H' v g:=by
 obtain⟨a,us,e,h1,h2⟩:=h;exact⟨a,us,e,s _ _ h1,h2.mono s⟩
theorem yI.mono {H H':Hp}(s:zu H H'){vs:List V}{gs:List (List (Nat×Nat))}(hp:yI H vs gs):yI H' vs gs:=by
 induction hp with
 | nil=>exact .nil
 | cons h _ ih =>
  exact .cons (h.mono s) ih
theorem yI.get {H:Hp}:∀{vs:List V} {gs:List (List (Nat×Nat))} {i:Nat} {v:V},yI H vs gs->vs[i]?=some v->∃g,gs[i]?=some g/\zjB H v g
 | _,_,_,_,.nil,e=>by simp at e
 | _,_,0,_,.cons r _,e=>by
  simp at e;subst e;exact⟨_,rfl,r⟩
 | _,_,i+1,v,.cons _ t,e=>by
  obtain⟨c,h1,h2⟩:=yI.get (i:=i) (v:=v) t (by simpa using e);exact⟨c,by simpa using h1,h2⟩
theorem yI.length {H:Hp}{vs:List V}{gs:List (List (Nat×Nat))}(h:yI H vs gs):vs.length=gs.length:=Paired.length h
theorem yI.snoc {H:Hp}{vs:List V}{gs:List (List (Nat×Nat))}{v:V}{g:List (Nat×Nat)}(h:yI H vs gs)(x:zjB H v g):yI H (vs++[v]) (gs++[g]):=Paired.snoc h x
def lD (g:List (Nat×Nat)):We:=.list (g.map zv)
theorem zd3 {p q:Nat->Bool}(h:∀c,p c=true->q c=false)(i:Nat):∀(j:Nat) (t:List Nat),(Cells.zY p i j t).length+(Cells.zY q i j t).length<=t.length
 | _,[]=>XW _
 | j,c::r=>by
  have ih:=zd3 h i (j+1) r;rw[Cells.zY,Cells.zY,XU,XU,Xs];by_cases hp:p c=true
  ·rw[if_pos hp,if_neg (by rw[h c hp];exact XX)];simp only[Xs,UL];lia
  ·rw[if_neg hp];split<;>simp only[Xs,UL]<;>lia
theorem zd4 {p q:Nat->Bool}(h:∀c,p c=true->q c=false):∀(i:Nat) (rs:List (List Nat)),(∀t∈rs,t.length<=8)->(Cells.zJ p i rs).length+(Cells.zJ q i rs).length<=8*rs.length
 | _,[],_=>XW _
 | i,t::r,ht=>by
  have ih:=zd4 h (i+1) r fun u hu=>ht u (XT _ hu);have h1:=zd3 h i 0 t;have h2:=ht t XS;rw[Cells.zJ,Cells.zJ,XU,XU,Xs];lia
theorem zd5 {rs:List Str}(R:Rows bd.cps.toList rs):(qf rs).length+(zL rs).length<=64:=by
 have:=zd4 (p:=Yo) (q:=qA) (fun c hc=>by
  unfold Yo at hc;rw[Wa,WE] at hc;exact hc.2) 0 (codes rs) R.short
 have h2:=R.hi;rw[jr] at this;unfold qf zL;lia
theorem zaC {p:Nat->Bool}{i:Nat}:∀{j m:Nat} {t:List Nat} {c:Nat},t[m]?=some c->p c=true->(i,j+m)∈Cells.zY p i j t
 | j,m,[],c,h,_=>by simp at h
 | j,0,d::r,c,h,hp=>by
  have e:d=c:=by simpa using h
  subst e;rw[Cells.zY,if_pos hp];exact WZ _ XS
 | j,m+1,d::r,c,h,hp=>by
  rw[Cells.zY];refine Xr _ ?_;have:=zaC (i:=i) (j:=j+1) (m:=m) (t:=r) (c:=c) (by simpa using h) hp;rwa [show j+1+m=j+(m+1) by lia] at this
theorem Yb {p:Nat->Bool}:∀{i m:Nat} {rs:List (List Nat)} {t:List Nat} {j c:Nat},rs[m]?=some t->t[j]?=some c->p c=true->(i+m,j)∈Cells.zJ p i rs
 | i,m,[],t,j,c,h,_,_=>by simp at h
 | i,0,d::r,t,j,c,h,hj,hp=>by
  have e:d=t:=by simpa using h
  subst e;rw[Cells.zJ];refine WZ _ ?_;have:=zaC (i:=i) (j:=0) hj hp;rwa [show 0+j=j by lia] at this
 | i,m+1,d::r,t,j,c,h,hj,hp=>by
  rw[Cells.zJ];refine Xr _ ?_;have:=Yb (i:=i+1) (m:=m) (rs:=r) (t:=t) (j:=j) (c:=c) (by simpa using h) hj hp;rwa [show i+1+m=i+(m+1) by lia] at this
theorem zd6 (rs:List Str)(c:Nat×Nat):(clA rs c).Nodup:=((yj (Cells.JA _ 0 (codes rs))).sublist Wc).sublist Wc
theorem ZD {rs:List Str}{c x:Nat×Nat}(h:x∈clA rs c):x∈zL rs:=by
 unfold clA at h;obtain⟨h1,h2⟩:=XV.mp h;obtain⟨t,k,ht,hj,_,es⟩:=qg (XV.mp h1).1;have e63:k=63:=by
  have:=of_decide_eq_true h2;lia
 subst e63;have:=Yb (p:=qA) (i:=0) (jL ht) hj (by decide);rwa [V2] at this
def heads (gs:List (List (Nat×Nat))):List (Int×Int):=gs.map fun g=>toI (g.headD (0,0))
theorem head_mem {g:List (Nat×Nat)}(h:g ≠ []):g.headD (0,0)∈g:=by
 cases g with
 | nil=>exact absurd rfl h
 | cons a r=>exact XS
theorem zbu:∀{gs:List (List (Nat×Nat))},(∀g∈gs,g ≠ [])->gs.flatten.Nodup->(heads gs).Nodup
 | [],_,_=>TQ
 | g::r,h,nd=>by
  rw[WM,V7] at nd;obtain⟨_,h2,h3⟩:=nd;unfold heads;rw[Xf,VJ];refine⟨fun hm=>?_,zbu (fun x hx=>h x (XT _ hx)) h2⟩;obtain⟨g2,hg2,e⟩:=XC.mp hm;have e':=znd e;have m1:=head_mem (h g XS);have m2:=head_mem (h g2 (XT _ hg2));rw[e'] at m2;exact h3 _ m1 _ (Ws.mpr ⟨g2,hg2,m2⟩) rfl
def Jw (rs:List Str)(part:List (Nat×Nat)):List (Nat×Nat):=(qf rs).filter fun o=>((zI rs o).map fun z=>part.any fun x=>decide (x=z)).any id
def zpe:Sp:=fun vs H Q _=>∃(a l pa:Addr) (rs:List Str) (n:Int) (ps:List V) (part:List (Nat×Nat)),vs=[.ref a,.ref pa]/\qb H a l rs n/\Rows bd.cps.toList rs/\H pa=some (.lst ps)/\Cel H ps part /\
 ∀(d:Addr) (ws:List V) (H':Hp),H d=none->H' d=some (.lst ws)->Cel H' ws (Jw rs part)->zu H H'->Q (.ref d) H'
theorem zdo:zF ["board","part"] ["board","part"] (zg jC):=⟨rfl,rfl,rfl,by decide +kernel,rfl,by decide +kernel,by decide +kernel⟩
theorem zdp {f1 f2 f3 f5:Addr}{fd1 fd2 fd3 fd5:Xq}(T:Txt mg)(D:zk K mg "numbers_of" jC ["board","part"] f fd)(zO:zk K mg "around" j4 ["board","cell"] f1 fd1)(zx:zk K mg "sign_at" qJ ["board","cell"] f2 fd2)
  (zE:zk K mg "cells_of" qz ["board"] f3 fd3) (zC:zk K mg "open_cells" qt ["board"] f5 fd5):qk P w K mg base CX0 3 f fd ["board","part"] zpe:=by
 refine D.F.ok zdo (fun vs H Q E h=>?_) (fun cdv A outer s H vs Q E hr h=>?_)
 ·obtain⟨a,l,pa,rs,n,ps,part,rfl,_⟩:=h;rfl
 ·obtain⟨a,l,pa,rs,n,ps,part,rfl,b,R,hpa,hpt,q⟩:=h;refine⟨_,(zf (zG (qh (N:=["cell","part","board"]) (src:=[none,some 1,some 0]) (zU.free (O:=(zg jC).names) (XN:=["board","part"]) rfl rfl ⟨_,rfl⟩ rfl rfl (by decide +kernel) (by decide +kernel) (by decide +kernel) rfl (by decide +kernel)) rfl (zM (pc0 (xR T zC zE zx) hr zC (za (pvS 0) zb))) (fun _ _ _ _ _=>(zm (i:=0) (by show WW (["cell","part","board"]:List Str);decide +kernel) rfl (XM rfl))) (fun _ _ _ _ _=>(qD (zaU (K:=K) (by rfl) (zp (zdI (K:=K) (by rfl) (by rfl)) (by rfl) T.zlg Sc (za (qh (N:=["place","part"]) (src:=[none,some 1]) (zU.byRfl rfl (by decide +kernel) (by decide +kernel) (by rfl) rfl (by rfl)) (by rfl) (zfE (K:=K) (by rfl) (pc0 (Qg T zO) hr zO (za (pvS 2) (za (pvS 0) zb)))) (fun _ _ _ _ _=>(zm (i:=0) (by show WW (["place","part"]:List Str);decide +kernel) rfl (XM rfl))) (fun _ _ _ _ _=>qN) (fun _ _ _ _ _=>(Y5 (jV (K:=K) (by rfl) hr.units) (pvS 0) (pvS 1) (by rfl)))) zb)) (fun _=>rfl)))) (fun _ _ _ _ _=>(pvS 0))))),?_⟩;refine⟨_,rfl,a,l,rs,n,rfl,b,R,fun d ws H1 hd hd1 hc1 s1=>⟨d,rfl,⟨_,SqL.of hd1⟩,fun z hz=>?_⟩⟩;have b1:=b.mono s1;refine qU (K:=K) (a:=d) (xs:=ws) (fun a=>a≠z) ((qf rs).map fun o=>if (((zI rs o).map fun z=>part.any fun x=>decide (x=z)).any id)=true then some (zv o) else none) (fun σ=>∃u0,σ=[u0,some (.ref pa),some (.ref a)]) hz (fun _ h=>h) ⟨_,rfl⟩ (by rw[Y1];exact hc1.length.symm) (by rw[hc1.length];exact X5 (qW R) (by decide)) (SqL.of hd1) ?_ ?_
  ·rintro k x o σ H2 hx ho s2 hzn ⟨u0,rfl⟩ Y Z yes no;obtain⟨y,hy,r1⟩:=Cel.get hc1 hx;have eo:=xw hy ho;obtain⟨t,sg,ht,hj,_,es⟩:=qg (X0 hy);obtain⟨ya,rfl,hya⟩:=r1;obtain⟨l1,l2⟩:=JQ R ht hj;refine⟨_,rfl,_,rfl,a,l,ya,rs,n,y.1,y.2,rfl,b1.mono s2,R,s2 _ _ hya,l1,l2,fun d2 ws2 H3 hd2 hd3 hc2 s3=>⟨d2,rfl,⟨_,SqL.of hd3⟩,fun z5 hz5=>?_⟩⟩;refine qU (K:=K) (a:=d2) (xs:=ws2) (fun a=>a≠z5) ((zI rs y).map fun c=>some (.bool (part.any fun x=>decide (x=c)))) (fun σ=>∃u0,σ=[u0,some (.ref pa)]) hz5 (fun _ h=>h) ⟨_,rfl⟩ (by rw[Y1];exact hc2.length.symm) (by rw[hc2.length];exact X5 (Zf R y) (by decide)) (SqL.of hd3) ?_ ?_
   ·rintro m v o2 σ H5 hv ho2 s5 _ ⟨u1,rfl⟩ Y2 Z2 yes2 no2;obtain⟨c,hc,rc⟩:=Cel.get (Cel.mono s5 hc2) hv;have eo2:=xw hc ho2;have sA:=((s1.trans s2).trans s3).trans s5;refine J1 ⟨_,rfl,_,rfl,zv c,part.map zv,rc.rdv,.lst (SqL.of (sA _ _ hpa)) (zD.rdv (N:=fun _=>True) (Cel.rdn (Cel.mono sA hpt))),rfl,zgd _,(by show 1<=60;decide),?_⟩;have ei:(if false=true then !(part.map zv).any (fun z=>WX z (zv c)) else (part.map zv).any fun z=>WX z (zv c))=part.any fun z=>decide (z=c):=ZC _ _;rw[ei];exact yes2 _ _ _ _ eo2 ⟨_,rfl⟩ (zu.refl _) (.bl _)
   ·rintro ys5 H5 s5 hz6 hr5;rw[Zz,show ((zI rs y).map fun c=>SU (part.any fun x=>decide (x=c)))=((zI rs y).map fun c=>part.any fun x=>decide (x=c)).map SU by rw[WR];rfl] at hr5;rw[zD.bools hr5] at hz6;refine⟨z5,_,rfl,SqL.of hz6,_,rfl,?_⟩;by_cases hp:(((zI rs y).map fun z=>part.any fun x=>decide (x=z)).any id)=true
    ·rw[if_pos hp] at eo;exact yp hp ⟨_,rfl,yes _ _ _ _ eo ⟨_,rfl⟩ (s3.trans s5) (Ze.rdn ⟨ya,rfl,s5 _ _ (s3 _ _ (s2 _ _ hya))⟩)⟩
    ·rw[if_neg hp] at eo;exact jM (by simpa using hp) (no _ _ eo ⟨_,rfl⟩ (s3.trans s5))
  ·rintro ys H2 s2 hz2 hr2;rw[qS] at hr2;exact q z ys H2 (s1.free hz) hz2 (zD.cel hr2) (s1.trans s2)
theorem zhr {cl:Nat×Nat->List (Nat×Nat)}{done:List (Nat×Nat)}{gs:List (List (Nat×Nat))}{o:Nat×Nat}(G:Parts.Good cl done gs)(h:cl o ≠ [])(hn:(cl o).Nodup){w:List (Nat×Nat)}(hs:w.Pairwise Cells.lex)(hw:∀x,x∈w↔x∈cl o\/∃g∈gs,Parts.meets (cl o) g=true/\x∈g):Parts.Good cl (done++[o]) ((gs.filter fun g=>!Parts.meets (cl o) g)++[w]):=by
 refine G.step h hn ?_ ?_ hs
 ·refine Vb fun g hg=>?_;congr 1;rw[Wz,Wu];constructor
  ·exact fun z=>⟨g,XV.mpr ⟨hg,z⟩,decide_eq_true rfl⟩
  ·rintro⟨m,hm,e⟩;have e':m=g:=of_decide_eq_true e;subst e';exact(XV.mp hm).2
 ·refine(Vv (yj hs) (Parts.YF hn fun m hm=>G.nd.sublist (VF (XV.mp hm).1))).mpr fun x=>?_;rw[hw,Parts.za6];constructor
  ·rintro(z | ⟨g,h1,h2,h3⟩)
   ·exact .inl z
   ·exact .inr ⟨g,XV.mpr ⟨h1,h2⟩,h3⟩
  ·rintro(z | ⟨g,h1,h3⟩)
   ·exact .inl z
   ·exact .inr ⟨g,(XV.mp h1).1,(XV.mp h1).2,h3⟩
theorem zjC (cs g:List (Nat×Nat)):(cs.map fun c=>g.any fun z=>decide (z=c)).any id=Parts.meets cs g:=by
 rw[Wz,Parts.Zu,Uf,Wu];constructor
 ·rintro⟨c,h1,h2⟩;have h2':(g.any fun z=>decide (z=c))=true:=h2;obtain⟨z,h3,h4⟩:=Wu.mp h2';have e:z=c:=of_decide_eq_true h4;subst e;exact⟨z,h3,h1⟩
 ·rintro⟨x,h1,h2⟩;refine⟨x,h2,?_⟩;show (g.any fun z=>decide (z=x))=true;exact Wu.mpr ⟨x,h1,decide_eq_true rfl⟩
def J8 (p:List (Nat×Nat)->Bool):List V->List (List (Nat×Nat))->List V
 | v::vs,g::gs=>if p g=true then v::J8 p vs gs else J8 p vs gs
 | _,_=>[]
theorem ZE (p:List (Nat×Nat)->Bool):∀(vs:List V) (gs:List (List (Nat×Nat))),(J8 p vs gs).Sublist vs
 | [],_=>List.nil_sublist _
 | _::_,[]=>List.nil_sublist _
 | v::vs,g::gs=>by
  rw[J8];split
  ·exact(ZE p vs gs).cons_cons v
  ·exact(ZE p vs gs).cons v
theorem QO {H:Hp}(p:List (Nat×Nat)->Bool):∀{vs:List V} {gs:List (List (Nat×Nat))},yI H vs gs->yI H (J8 p vs gs) (gs.filter p)
 | _,_,.nil=>.nil
 | _,_,.cons (a:=v) (b:=g) h t=>by
  rw[J8,Wv];by_cases hp:p g=true
  ·rw[if_pos hp,if_pos hp];exact .cons h (QO p t)
  ·rw[if_neg hp,if_neg hp];exact QO p t
theorem zhs (p:List (Nat×Nat)->Bool){vs:List V}{gs:List (List (Nat×Nat))}{i:Nat}{v:V}{g:List (Nat×Nat)}(h1:vs[i]?=some v)(h2:gs[i]?=some g):J8 p (vs.take (i+1)) (gs.take (i+1))=J8 p (vs.take i) (gs.take i)++if p g=true then [v] else []:=by
 induction vs generalizing gs i with
 | nil=>cases h1
 | cons w vs ih =>
  cases gs with
  | nil=>cases h2
  | cons k gs =>
   cases i with
   | zero =>
    cases h1;cases h2;simp[J8]
   | succ i =>
    rw[Uu,Uu,Uu,Uu,J8,J8,ih h1 h2];split<;>rfl
theorem ze7 {m:List (Int×Int)}{l:List (Nat×Nat)}(h:∀c∈m,c∈l.map toI):m=(m.map ofI).map toI:=by
 rw[WR];refine(RX m).symm.trans (Xi fun c hc=>?_);obtain⟨x,_,rfl⟩:=XC.mp (h c hc);rfl
def zlq:Sp:=fun vs H Q _=>∃(ga ca:Addr) (ws us:List V) (gs:List (List (Nat×Nat))) (cs B:List (Nat×Nat)),vs=[.ref ga,.ref ca]/\H ga=some (.lst ws)/\yI H ws gs/\H ca=some (.lst us)/\Cel H us cs/\cs.Nodup/\gs.flatten.Nodup/\(∀x∈cs,x∈B)/\(∀x∈gs.flatten,x∈B)/\(∀x∈B,x.1<8/\x.2<8)/\B.length<=63/\gs.length<=63 /\
 (cs=[]->∀H',zu H H'->Q (.ref ga) H') /\
 (cs ≠ []->∀(d wa:Addr) (va:List V) (w:List (Nat×Nat)) (H':Hp),H d=none->H wa=none->H' d=some (.lst (va++[.ref wa]))->va.Sublist ws->yI H' (va++[.ref wa]) ((gs.filter fun g=>!Parts.meets cs g)++[w])->w.Pairwise Cells.lex->(∀x,x∈w↔x∈cs\/∃g∈gs,Parts.meets cs g=true/\x∈g)->zu H H'->Q (.ref d) H')
theorem Qh:zF ["groups","cells","apart","together","group"] ["groups","cells"] (zg Zx):=⟨rfl,rfl,rfl,by decide +kernel,rfl,by decide +kernel,by decide +kernel⟩
theorem zjD (T:Txt mg)(D:zk K mg "joined" Zx ["groups","cells"] f fd):qk P w K mg base CX0 1 f fd ["groups","cells"] zlq:=by
 refine D.F.ok Qh (fun vs H Q E h=>?_) (fun cdv A outer s H vs Q E hr h=>?_)
 ·obtain⟨ga,ca,ws,us,gs,cs,B,rfl,_⟩:=h;rfl
 ·obtain⟨ga,ca,ws,us,gs,cs,B,rfl,hga,hG,hca,hC,cnd,gnd,cB,gB,B8,B63,g63,q1,q2⟩:=h;have cl63:cs.length<=63:=X5 (Parts.yf cnd cB) B63;have fl63:gs.flatten.length<=63:=X5 (Parts.yf gnd gB) B63;refine⟨_,(zd (qX (zH (JG hr.units) (pvS 1) (qa zb) (zQ _)) (zf (zG (pvS 0))) zZ)
   (zd (zq (i:=2) Qh.nd rfl (XM rfl) (qa zb))
   (zd (zq (i:=3) Qh.nd rfl (XM rfl) (jf zah (by rfl) T.zli Pd (za (pvS 1) zb)))
   (zd (qj Xe rfl (zM (pvS 0)) (zm (i:=4) Qh.nd rfl (UV rfl)) (zf (qX (xX (zp (zfC rfl) (by rfl) T.zlg Sc (za (qh (N:=["cell","group"]) (src:=[none,some 4]) (zU.free (O:=(zg Zx).names) (XN:=["groups","cells","apart","together","group"]) rfl rfl ⟨_,rfl⟩ rfl rfl (by decide +kernel) (by decide +kernel) (by decide +kernel) rfl (by decide +kernel)) rfl (zM (pvS 1)) (fun _ _ _ _ _=>(zm (i:=0) (by show WW (["cell","group"]:List Str);decide +kernel) rfl (XM rfl))) (fun _ _ _ _ _=>qN) (fun _ _ _ _ _=>(Y5 (jV (K:=K) (by rfl) hr.units) (pvS 0) (pvS 1) (by rfl)))) zb)) (fun _=>rfl)) (zf (yy (xY WO PZ PY zdG (pvS 3) (za (pvS 4) zb)))) (zf (yy (xY WO Wl Wj jA (pvS 2) (za (pvS 4) zb)))))))
   (zf (zG (zz ZT (pvS 2) (qa (za (zp (ST.zdl hr.hd) (by rfl) T.zaA Uw (za (jf (ST.zjh hr.units hr.hd) (by rfl) T.zqs PyProof.Rows.boot_set (za (pvS 3) zb)) zb)) zb))))))))),?_⟩
  refine⟨_,rfl,Z1,fun e he=>?_⟩;have s1:zu H (upd H e (.lst [])):=ze he;refine⟨lD cs,.list [],.lst (SqL.of (s1 _ _ hca)) (zhp (hC.mono s1)),.lst (SqL.of zc) .nil,ze6 _ [],_,rfl,?_⟩;have en:(if false=true then !PyData.eqv (lD cs) (.list []) else WX (lD cs) (.list []))=cs.isEmpty:=by
   show WX _ _=_;exact eq_nil cs
  rw[en];by_cases zjE:cs=[]
  ·rw[show cs.isEmpty=true by rw[zjE];rfl];exact Qm ⟨_,rfl,q1 zjE _ s1⟩
  rw[show cs.isEmpty=false by rw[UN];exact zjE];refine ZU ?_;generalize upd H e (.lst [])=H1 at *
  refine⟨Z1,fun ap hap=>?_⟩;have s2:=s1.trans (ze (o:=.lst []) hap);have ha2:upd H1 ap (.lst []) ap=some (.lst []):=zc;have hap0:=s1.free hap;generalize upd H1 ap (.lst [])=H2 at *
  refine⟨_,rfl,ca,_,rfl,.inl (SqL.of (s2 _ _ hca)),fun tg htg=>?_⟩;have z3:=ze (o:=.lst us) htg;have s3:=s2.trans z3;have ha3:=z3 _ _ ha2;have ht3:upd H2 tg (.lst us) tg=some (.lst us):=zc;have htg0:=s2.free htg;have nat:ap≠tg:=zj ha2 htg;generalize upd H2 tg (.lst us)=H3 at *
  refine⟨_,rfl,ga,rfl,⟨_,SqL.of (s3 _ _ hga)⟩,?_⟩;refine jS (K:=K) (a:=ga) (xs:=ws) (fun i σ H'=>∃(ut:List V) (v4:Option V),σ=[some (.ref ga),some (.ref ca),some (.ref ap),some (.ref tg),v4]/\zu H H'/\H' ap=some (.lst (J8 (fun g=>!Parts.meets cs g) (ws.take i) (gs.take i)))/\H' tg=some (.lst ut)/\Cel H ut (cs++((gs.take i).filter (Parts.meets cs)).flatten))
   ⟨us,_,rfl,s3,ha3,ht3,by simpa using hC⟩ (fun i σ H' _ ⟨_,_,_,z,_⟩=>SqL.of (z _ _ hga)) ?_ ?_
  ·rintro i x σ H4 hx ⟨ut,v4,rfl,s4,ha4,ht4,hct⟩;obtain⟨g,hg,gad,ug,rfl,hgad,hcg⟩:=yI.get hG hx;have gm:=X0 hg;have tk:(gs.take (i+1)).filter (Parts.meets cs)=(gs.take i).filter (Parts.meets cs)++if Parts.meets cs g=true then [g] else []:=by
    rw[Xu,hg,W3];congr 1;show [g].filter _=_;rw[Wv];rfl
   have pk:=zhs (fun g=>!Parts.meets cs g) hx hg;refine⟨_,rfl,ca,rfl,⟨_,SqL.of (s4 _ _ hca)⟩,fun z hz=>?_⟩;refine qU (K:=K) (a:=ca) (xs:=us) (fun a=>a≠z) (cs.map fun c=>some (.bool (g.any fun z=>decide (z=c)))) (fun σ=>∃u0,σ=[u0,some (.ref gad)]) hz (fun _ h=>h) ⟨_,rfl⟩ (by rw[Y1];exact hC.length.symm) (by rw[hC.length];exact X5 cl63 (by decide)) (SqL.of (s4 _ _ hca)) ?_ ?_
   ·rintro m v o σ H5 hv ho s5 _ ⟨u1,rfl⟩ Y Z yes no;have s05:=s4.trans s5;obtain⟨c,hc,rc⟩:=Cel.get (hC.mono s05) hv;have eo:=xw hc ho;refine J1 ⟨_,rfl,_,rfl,zv c,g.map zv,rc.rdv,.lst (SqL.of (s05 _ _ hgad)) (zhp (hcg.mono s05)),rfl,zgd _,(by show 1<=60;decide),?_⟩;have ei:(if false=true then !(g.map zv).any (fun z=>WX z (zv c)) else (g.map zv).any fun z=>WX z (zv c))=g.any fun z=>decide (z=c):=ZC _ _;rw[ei];exact yes _ _ _ _ eo ⟨_,rfl⟩ (zu.refl _) (.bl _)
   ·rintro ys H5 s5 hz5 hr5;rw[Zz,show (cs.map fun c=>SU (g.any fun z=>decide (z=c)))=(cs.map fun c=>g.any fun z=>decide (z=c)).map SU by rw[WR];rfl] at hr5;rw[zD.bools hr5] at hz5;refine⟨z,_,rfl,SqL.of hz5,_,rfl,?_⟩;rw[zjC];have s05:=s4.trans s5;have ha5:=s5 _ _ ha4;have ht5:=s5 _ _ ht4;have gsub:∀(q:List (Nat×Nat)->Bool) (j:Nat),(((gs.take j).filter q).flatten).length<=63:=fun q j=>by
     refine X5 (Vx ?_) fl63;refine List.Sublist.trans (Parts.ja q (gs.take j)) ?_;have e2:gs=gs.take j++gs.drop j:=(Wx j gs).symm;conv=>rhs;rw[e2,Wt]
     exact Ti _ _
    by_cases hp:Parts.meets cs g=true
    ·refine yp hp ?_;refine⟨_,rfl,.inl ⟨rfl,_,SqL.of ht5⟩,_,rfl,tg,gad,ut,ug,rfl,rfl,ht5,s05 _ _ hgad,?_,?_⟩
     ·rw[hct.length,hcg.length,XU];have a1:=gsub (Parts.meets cs) i;have a2:g.length<=63:=X5 (Vx (VF gm)) fl63;exact X5 (show _<=200 by lia) (by decide)
     ·refine⟨ut++ug,_,rfl,fun b o eb=>?_,?_,zc,?_⟩
      ·rw[zh (zj eb htg0)];exact s05 _ _ eb
      ·rw[zh nat,pk,hp];simpa using ha5
      ·rw[tk,if_pos hp,Wt,<- W2];simpa using Cel.append hct hcg
    ·have hp2:=Xy.mpr hp;refine jM hp2 ?_;refine⟨_,rfl,.inl ⟨rfl,_,SqL.of ha5⟩,_,rfl,ap,_,_,rfl,rfl,ha5,?_,?_⟩
     ·refine XF (Vx ((ZE _ _ _).trans (UG _ _))) ?_;rw[hG.length];exact XF g63 (by decide)
     ·refine⟨ut,_,rfl,fun b o eb=>?_,?_,?_,?_⟩
      ·rw[zh (zj eb hap0)];exact s05 _ _ eb
      ·rw[zc,pk,hp2];rfl
      ·rw[zh (US nat)];exact ht5
      ·rw[tk,if_neg hp,Xa];exact hct
  ·rintro σ H4 ⟨ut,v4,rfl,s4,ha4,ht4,hct⟩;rw[Xw,hG.length,Xw] at ha4;rw[hG.length,Xw] at hct;generalize hl:cs++(gs.filter (Parts.meets cs)).flatten=l at hct;have lB:∀x∈l,x∈B:=fun x hx=>by
    rw[<- hl] at hx;rcases XG.mp hx with hx | hx
    ·exact cB x hx
    ·exact gB x ((Parts.ja _ gs).subset hx)
   refine⟨_,rfl,_,rfl,tg,ut,_,rfl,SqL.of ht4,Cel.tup2 (hct.mono s4),(fun p hp=>?_),(fun m hm hs=>?_),fun ds ks hds hT hnd hmem=>?_⟩
   ·obtain⟨x,hx,rfl⟩:=XC.mp hp;have:=B8 x (lB x hx);unfold ST.InB toI;show (0<=((x.1:Nat):Int)/\((x.1:Nat):Int)<8)/\(0<=((x.2:Nat):Int)/\((x.2:Nat):Int)<8);lia
   ·have h1:=ze7 hs;have h2:(m.map ofI).Nodup:=by
     rw[h1] at hm;unfold WW at hm ⊢;rw[Wo] at hm;exact hm.imp fun z e=>z (by rw[e])
    have h3:=Parts.yf (b:=B) h2 fun x hx=>by
     obtain⟨c,hc,rfl⟩:=XC.mp hx;obtain⟨y,hy,rfl⟩:=XC.mp (hs c hc);exact lB y hy
    rw[Y1] at h3;lia
   have z5:=ze (o:=ST.zfS P w ds ks) hds;have hks:∀c∈ks.map (·.2),c∈l.map toI:=fun c hc=>(hmem c).mp hc;have kl:ks.length<=63:=by
    have h1:=ze7 hks;have h2:((ks.map (·.2)).map ofI).Nodup:=by
     rw[h1] at hnd;unfold WW at hnd ⊢;rw[Wo] at hnd;exact hnd.imp fun z e=>z (by rw[e])
    have h3:=Parts.yf (b:=B) h2 fun x hx=>by
     obtain⟨c,hc,rfl⟩:=XC.mp hx;obtain⟨y,hy,rfl⟩:=XC.mp (hks c hc);exact lB y hy
    rw[Y1,Y1] at h3;lia
   have hds5:upd H4 ds (ST.zfS P w ds ks) ds=some (ST.zfS P w ds ks):=zc;have s5:=s4.trans z5;have ha5:=z5 _ _ ha4;have hT5:∀q∈ks,upd H4 ds (ST.zfS P w ds ks) q.1=some (.tup [.int q.2.1,.int q.2.2]):=fun q hq=>z5 _ _ (hT q hq);refine⟨ds,ks,rfl,hds5,hT5,hnd,(by lia),fun wa us' ps' hwa ht zd7 hup=>?_⟩;rw[ze7 hks] at zd7;obtain⟨wc,rfl,hperm2⟩:=ziy zd7;have z6:=ze (o:=.lst us') hwa;refine⟨sz_1,fun p1 hp1=>?_⟩;have z7:=ze (o:=.lst [V.ref wa]) hp1;have z67:=z6.trans z7;refine⟨ap,p1,_,[.ref wa],rfl,rfl,z67 _ _ ha5,zc,?_,fun k2 hk2=>?_⟩
   ·have a1:(J8 (fun g=>!Parts.meets cs g) ws gs).length<=63:=X5 (Vx (ZE _ _ _)) (by rw[hG.length];exact g63);exact X5 (show _+1<=200 by lia) (by decide)
   ·have z8:=ze (o:=.lst (J8 (fun g=>!Parts.meets cs g) ws gs++[.ref wa])) hk2;have s8:=s5.trans (z67.trans z8);refine q2 zjE k2 wa _ wc _ ((s5.trans z67).free hk2) (s5.free hwa) zc (ZE _ _ _) ?_ (zpd hup) (fun x=>?_) s8
    ·exact yI.snoc ((QO _ hG).mono s8) ⟨wa,us',rfl,z8 _ _ (z7 _ _ zc),Cel.mono (z67.trans z8) (Ja ht)⟩
    ·rw[hperm2.mem_iff,XC];have hx:(∃a,a∈ks.map (·.2)/\ofI a=x)↔x∈l:=by
      constructor
      ·rintro⟨c,hc,rfl⟩;obtain⟨y,hy,rfl⟩:=XC.mp (hks c hc);exact hy
      ·intro h;exact⟨toI x,(hmem _).mpr (XC.mpr ⟨x,h,rfl⟩),rfl⟩
     rw[hx,<- hl,XG,Ws];constructor
     ·rintro(h | ⟨g,h1,h2⟩)
      ·exact .inl h
      ·exact .inr ⟨g,(XV.mp h1).1,(XV.mp h1).2,h2⟩
     ·rintro(h | ⟨g,h1,h2,h3⟩)
      ·exact .inl h
      ·exact .inr ⟨g,XV.mpr ⟨h1,h2⟩,h3⟩
def zne:Sp:=fun vs H Q _=>∃(p l:Addr) (rs:List Str) (n:Int),vs=[.ref p]/\qb H p l rs n/\Rows bd.cps.toList rs /\
 ∀(d:Addr) (ws:List V) (gs:List (List (Nat×Nat))) (H':Hp),H d=none->H' d=some (.lst ws)->yI H' ws gs->ws.Nodup->(∀v∈ws,∃a,v=V.ref a/\H a=none/\a≠d)->Parts.Good (clA rs) (qf rs) gs->Up2 (heads gs)->zu H H'->Q (.ref d) H'
theorem zht {rs:List Str}(R:Rows bd.cps.toList rs){x:Nat×Nat}(h:x∈zL rs):x.1<8/\x.2<8:=by
 obtain⟨t,k,ht,hj,_,_⟩:=qg h;have a:=(XY.mp ht).1;have b:=(XY.mp hj).1;have e:=R.hi;have g:=R.short _ (X0 (jL ht));lia
theorem yI.some {H:Hp}{ws:List V}{gs:List (List (Nat×Nat))}(h:yI H ws gs):∀v∈ws,∃a us,v=V.ref a/\H a=some (.lst us):=by
 intro v hv;obtain⟨_,_,a,us,e,h1,_⟩:=zkj h hv;exact⟨a,us,e,h1⟩
theorem zlr {H:Hp}{ws:List V}{gs:List (List (Nat×Nat))}(h:yI H ws gs):WV (GS.LstAt H) ws (gs.map (Ur toI)):=by
 induction h with
 | nil=>exact .nil
 | cons r _ ih =>
  obtain⟨a,us,e,h1,h2⟩:=r;exact .cons ⟨a,us,e,h1,h2.tup2⟩ ih
theorem zls {H:Hp}:∀{gs:List (List (Nat×Nat))} {ws:List V},WV (GS.LstAt H) ws (gs.map (Ur toI))->yI H ws gs:=by
 intro gs;induction gs with
 | nil =>
  intro ws h;cases h;exact .nil
 | cons g r ih =>
  intro ws h;cases h with
  | cons q t =>
   obtain⟨a,us,e,h1,h2⟩:=q;exact .cons ⟨a,us,e,h1,Ja h2⟩ (ih t)
theorem zge {ks:List (List (Int×Int))}{gs:List (List (Nat×Nat))}(h:ks.Perm (gs.map (Ur toI))):∃ds:List (List (Nat×Nat)),ks=ds.map (Ur toI)/\ds.Perm gs:=by
 have oo:∀g:List (Nat×Nat),(g.map toI).map ofI=g:=fun g=>by
  rw[WR];exact(Xi fun c _=>ziw c).trans (RX g)
 refine⟨ks.map (Ur ofI),?_,?_⟩
 ·rw[WR];refine(RX ks).symm.trans (Xi fun p hp=>?_);obtain⟨c,_,rfl⟩:=XC.mp (h.mem_iff.mp hp);show c.map toI=((c.map toI).map ofI).map toI;rw[oo]
 ·have:=h.map (Ur ofI);rw[WR] at this;have e:gs.map (Ur ofI∘Ur toI)=gs:=(Xi fun c _=>oo c).trans (RX gs);rwa [e] at this
theorem zlt {gs:List (List (Nat×Nat))}(h:(gs.map (Ur toI)).Pairwise (fun p q=>PySem.SeqAt.ltL q p=false))(ne:∀g∈gs,g ≠ [])(nd:(heads gs).Nodup):Up2 (heads gs):=by
 induction gs with
 | nil=>exact List.Pairwise.nil
 | cons g r ih =>
  rw[Xf,Ru] at h;have nd':toI (g.headD (0,0)) ∉ heads r/\(heads r).Nodup:=VJ.mp nd;refine Ru.mpr ⟨fun p hp=>?_,ih h.2 (fun x hx=>ne x (XT _ hx)) nd'.2⟩;obtain⟨g2,hg2,rfl⟩:=XC.mp hp;have a:=h.1 _ (XC.mpr ⟨g2,hg2,rfl⟩);have hne:toI (g.headD (0,0))≠toI (g2.headD (0,0)):=fun e=>nd'.1 (e ▸ hp);have n1:=ne g XS;have n2:=ne g2 (XT _ hg2);cases g with
  | nil=>exact absurd rfl n1
  | cons x xs =>
   cases g2 with
   | nil=>exact absurd rfl n2
   | cons y ys =>
    have hne':toI x≠toI y:=hne;show lt2 (toI x) (toI y)=true;have a':(if toI y=toI x then PySem.SeqAt.ltL (ys.map toI) (xs.map toI) else lt2 (toI y) (toI x))=false:=a;rw[if_neg (US hne')] at a';have:=zbS hne';rw[a'] at this;cases hh:lt2 (toI x) (toI y) with
    | true=>rfl
    | false =>
     rw[hh] at this;cases this
theorem zaD:zF ["board","found","cell"] ["board"] (zg zbZ):=⟨rfl,rfl,rfl,by decide +kernel,rfl,by decide +kernel,by decide +kernel⟩
theorem zgf {f1 f2 f3 f4 f5 f6:Addr}{fd1 fd2 fd3 fd4 fd5 fd6:Xq}(T:Txt mg)(D:zk K mg "parts" zbZ ["board"] f fd)(zO:zk K mg "around" j4 ["board","cell"] f1 fd1)(zx:zk K mg "sign_at" qJ ["board","cell"] f2 fd2)
  (zE:zk K mg "cells_of" qz ["board"] f3 fd3) (zC:zk K mg "open_cells" qt ["board"] f4 fd4) (zR:zk K mg "closed_around" qK ["board","cell"] f5 fd5) (ZF:zk K mg "joined" Zx ["groups","cells"] f6 fd6):qk P w K mg base CX0 3 f fd ["board"] zne:=by
 refine D.F.ok zaD (fun vs H Q E h=>?_) (fun cdv A outer s H vs Q E hr h=>?_)
 ·obtain⟨p,l,rs,n,rfl,_⟩:=h;rfl
 ·obtain⟨p,l,rs,n,rfl,b,R,q⟩:=h;refine⟨_,(zd (zq (i:=1) zaD.nd rfl (XM rfl) (qa zb))
   (zd (qj Xe rfl (zM (pc0 (xR T zC zE zx) hr zC (za (pvS 0) zb))) (zm (i:=2) zaD.nd rfl (XM rfl)) (zf (zq (i:=1) zaD.nd rfl (XM rfl) (pc0 (zjD T ZF) hr ZF (za (pvS 1) (za (pc0 (ZA T zR zO zx) hr zR (za (pvS 0) (za (pvS 2) zb))) zb))))))
   (zf (zG (zp (GS.Qu hr.units) (by rfl) T.zaA Uw (za (pvS 1) zb)))))),?_⟩
  refine⟨Z1,fun k0 hk0=>?_⟩;have s0:zu H (upd H k0 (.lst [])):=ze hk0;have hk00:upd H k0 (.lst []) k0=some (.lst []):=zc;generalize upd H k0 (.lst [])=H0 at *
  refine⟨_,rfl,p,l,rs,n,rfl,b.mono s0,R,fun dc wc H1 hdc zqw hcc s1=>⟨dc,rfl,⟨_,SqL.of zqw⟩,?_⟩⟩;have s01:=s0.trans s1;have b1:=b.mono s01;have hcc:Cel H1 wc (qf rs):=hcc;have o64:=zd5 R;refine jS (K:=K) (a:=dc) (xs:=wc) (fun i σ H'=>∃(k:Addr) (ws:List V) (gs:List (List (Nat×Nat))) (v2:Option V),σ=[some (.ref p),some (.ref k),v2]/\zu H1 H'/\H' k=some (.lst ws)/\yI H' ws gs/\ws.Nodup/\(∀v∈ws,∃a,v=V.ref a/\H a=none)/\Parts.Good (clA rs) ((qf rs).take i) gs)
   ⟨k0,[],[],_,rfl,zu.refl _,s1 _ _ hk00,.nil,TQ,(fun v h=>nomatch h),Parts.Good.start _⟩ (fun i σ H' _ ⟨_,_,_,_,_,z,_⟩=>SqL.of (z _ _ zqw)) ?_ ?_
  ·rintro i x σ H2 hx ⟨k,ws,gs,v2,rfl,s2,hk,hG,wnd,wnew,G⟩;obtain⟨c,hc,ca,rfl,hca⟩:=Cel.get (Cel.mono s2 hcc) hx;have cm:=X0 hc;obtain⟨t,sg,ht,hj,_,es⟩:=qg cm;obtain⟨l1,l2⟩:=JQ R ht hj;have tk:(qf rs).take (i+1)=(qf rs).take i++[c]:=by
    rw[Xu,hc];rfl
   have lshut:(zL rs).length<=63:=by
    have:=Ub cm;lia
   have gB:∀x∈gs.flatten,x∈zL rs:=fun x hx=>by
    obtain⟨o,_,h2⟩:=G.from_ x hx;exact ZD h2
   refine⟨_,rfl,_,rfl,_,rfl,p,l,ca,rs,n,c,rfl,(b1.mono s2),R,hca,l1,l2,fun d ws1 H3 hd hd3 hc3 s3=>?_⟩;have s03:=s01.trans (s2.trans s3);refine⟨k,d,ws,ws1,gs,clA rs c,zL rs,rfl,s3 _ _ hk,hG.mono s3,hd3,hc3,zd6 rs c,G.nd,(fun x hx=>ZD hx),gB,(fun x hx=>zht R hx),lshut,X5 (Parts.YG G.ne) (X5 (Parts.yf G.nd gB) lshut),(fun zjE H' s'=>?_),fun hne d2 wa va wc2 H' hd2 hwa hd2' hsub hG' zrf hmem s'=>?_⟩
   ·refine⟨k,ws,gs,_,rfl,s2.trans (s3.trans s'),s' _ _ (s3 _ _ hk),(hG.mono s3).mono s',wnd,wnew,?_⟩;rw[tk];exact G.skip zjE
   ·refine⟨d2,_,_,_,rfl,s2.trans (s3.trans s'),hd2',hG',?_,(fun v hv=>?_),?_⟩
    ·rw[V7];refine⟨wnd.sublist hsub,by simp,fun a ha b hb e=>?_⟩;have hb':b=V.ref wa:=by simpa using hb
     subst e;obtain⟨a',us',e1,e2⟩:=yI.some (hG.mono s3) a (hsub.subset ha);rw[hb'] at e1;injection e1 with e1
     rw[<- e1,hwa] at e2;cases e2
    ·rcases XG.mp hv with hv | hv
     ·exact wnew v (hsub.subset hv)
     ·have hb':v=V.ref wa:=by simpa using hv
      exact⟨wa,hb',s03.free hwa⟩
    ·rw[tk];exact zhr G hne (zd6 rs c) zrf hmem
  ·rintro σ H2 ⟨k,ws,gs,v2,rfl,s2,hk,hG,wnd,wnew,G⟩;rw[hcc.length,Xw] at G;have gsh:∀x∈gs.flatten,x∈zL rs:=fun x hx=>by
    obtain⟨o,_,h2⟩:=G.from_ x hx;exact ZD h2
   have wl:gs.length<=63:=by
    cases gs with
    | nil=>exact W5 _
    | cons g r =>
     have m1:=head_mem (G.ne g XS);obtain⟨o,ho,_⟩:=G.from_ _ (Ws.mpr ⟨g,XS,m1⟩);have:=Ub ho;have h3:=X5 (Parts.YG G.ne) (Parts.yf (b:=zL rs) G.nd gsh);lia
   refine⟨_,rfl,k,ws,_,rfl,SqL.of hk,zlr hG,(by rw[hG.length];lia),fun d us' ks' hd hl zd7 zqx pw=>?_⟩;have s3:=ze (o:=.lst us') hd;obtain⟨ds,rfl,pg⟩:=zge zd7;have G':=G.perm pg;refine q d us' ds _ ((s01.trans s2).free hd) zc ((zls hl).mono s3) (pw.nodup_iff.mpr wnd) (fun v hv=>?_) G' (zlt zqx G'.ne (zbu G'.ne G'.nd)) ((s01.trans s2).trans s3);have hv':=pw.mem_iff.mp hv;obtain⟨a,e1,e2⟩:=wnew v hv';obtain⟨a',us',e3,e4⟩:=yI.some hG v hv';refine⟨a,e1,e2,fun z=>?_⟩;rw[e1] at e3;injection e3 with e3
   rw[<- e3,z,hd] at e4;cases e4
def pD (p:Int×Int):We:=.tuple [.int p.1,.int p.2]
theorem zlu (p q:Int×Int):WX (pD p) (pD q)=decide (p=q):=PySem.SeqAt.zdK p q
def PR (H:Hp)(v:V)(p:Int×Int):Prop:=∃a,v=V.ref a/\H a=some (.tup [.int p.1,.int p.2])
theorem PR.mono {H H':Hp}(s:zu H H'){v:V}{p:Int×Int}(h:PR H v p):PR H' v p:=let ⟨a,e,h⟩:=h;⟨a,e,s _ _ h⟩
theorem yL {H H':Hp}(s:zu H H'){us:List V}{ps:List (Int×Int)}(hp:yd H us ps):yd H' us ps:=by
 induction hp with
 | nil=>exact .nil
 | cons h _ ih =>
  exact .cons (PR.mono s h) ih
theorem zcE {H:Hp}{us:List V}{ps:List (Int×Int)}(h:yd H us ps):us.length=ps.length:=Paired.length h
theorem PR.rdv {K:X2}{H:Hp}{v:V}{p:Int×Int}(h:PR H v p):Rdv K H v (pD p):=by
 obtain⟨a,rfl,h⟩:=h;exact .tup (SqT.of h) (.cons (.int _) (.cons (.int _) .nil))
theorem zcF {K:X2}{H:Hp}{us:List V}{ps:List (Int×Int)}(hp:yd H us ps):xq K H us (ps.map pD):=by
 induction hp with
 | nil=>exact .nil
 | cons h _ ih =>
  exact .cons (PR.rdv h) ih
theorem ze8:∀ps:List (Int×Int),Wp (ps.map pD)=true
 | []=>rfl
 | p::r=>by
  show (Vf (pD p)&&Wp (r.map pD))=true;rw[ze8 r];rfl
theorem zgg:∀ps:List (Int×Int),Wy (ps.map pD)<=1
 | []=>W5 _
 | p::r=>by
  show max (PyData.depth (pD p)) (Wy (r.map pD))<=1;have:=zgg r;have e:PyData.depth (pD p)=1:=rfl;lia
theorem zpf (ps:List (Int×Int))(p:Int×Int):(ps.map pD).any (fun z=>WX z (pD p))=ps.any fun z=>decide (z=p):=by
 rw[Uf];congr 1;funext z;exact zlu z p
theorem zlv (ps:List (Int×Int))(c:Nat×Nat):(ps.map pD).any (fun z=>WX z (zv c))=ps.any fun z=>decide (z=toI c):=zpf ps (toI c)
theorem zlw {H:Hp}{a z:Addr}{o o':HO}(h:H a=some o)(hz:H z=some o')(hne:o≠o'):a≠z:=fun e=>by
 subst e;rw[h] at hz;exact hne (Option.some.inj hz)
theorem znf {H:Hp}{z:Addr}{ys ys':List V}(hz:H z=some (.lst ys)){v:V}{p:Int×Int}(h:PR H v p):PR (upd H z (.lst ys')) v p:=by
 obtain⟨a,e,h⟩:=h;refine⟨a,e,?_⟩;rw[zh (zlw h hz (fun z=>nomatch z))];exact h
theorem JC {H:Hp}{z:Addr}{ys ys':List V}(hz:H z=some (.lst ys)){us:List V}{ps:List (Int×Int)}(hp:yd H us ps):yd (upd H z (.lst ys')) us ps:=by
 induction hp with
 | nil=>exact .nil
 | cons h _ ih =>
  exact .cons (znf hz h) ih
def jt (N:Addr->Prop)(H:Hp):List V->List (List (Int×Int))->Prop:=WV fun v k=>∃a ws,v=V.ref a/\N a/\H a=some (.lst ws)/\yd H ws k
theorem qc {N:Addr->Prop}{H H':Hp}(s:zu H H'){us:List V}{ks:List (List (Int×Int))}(hp:jt N H us ks):jt N H' us ks:=by
 induction hp with
 | nil=>exact .nil
 | cons q _ ih =>
  obtain⟨a,ws,e,n,h,t⟩:=q;exact .cons ⟨a,ws,e,n,s _ _ h,yL s t⟩ ih
theorem QS {N M:Addr->Prop}{H:Hp}(w:∀a,N a->M a){us:List V}{ks:List (List (Int×Int))}(hp:jt N H us ks):jt M H us ks:=by
 induction hp with
 | nil=>exact .nil
 | cons q _ ih =>
  obtain⟨a,ws,e,n,h,t⟩:=q;exact .cons ⟨a,ws,e,w a n,h,t⟩ ih
theorem xx {N:Addr->Prop}{H:Hp}{z:Addr}{ys ys':List V}(hz:H z=some (.lst ys))(w:∀a,N a->a≠z){us:List V}{ks:List (List (Int×Int))}(hp:jt N H us ks):jt N (upd H z (.lst ys')) us ks:=by
 induction hp with
 | nil=>exact .nil
 | cons q _ ih =>
  obtain⟨a,ws,e,n,h,t⟩:=q;exact .cons ⟨a,ws,e,n,by rw[zh (w a n)];exact h,JC hz t⟩ ih
theorem ZG {N:Addr->Prop}{H:Hp}{us:List V}{ks:List (List (Int×Int))}{us':List V}{ks':List (List (Int×Int))}(h:jt N H us ks)(k:jt N H us' ks'):jt N H (us++us') (ks++ks'):=zaW h k
theorem jg {N:Addr->Prop}{H:Hp}{us:List V}{ks:List (List (Int×Int))}(h:jt N H us ks):us.length=ks.length:=Paired.length h
theorem YK {N:Addr->Prop}{H:Hp}{us:List V}{ks:List (List (Int×Int))}{i:Nat}{v:V}(h:jt N H us ks)(e:us[i]?=some v):∃k a ws,ks[i]?=some k/\v=V.ref a/\N a/\H a=some (.lst ws)/\yd H ws k:=by
 obtain⟨k,h1,a,ws,h2⟩:=zcf h e;exact⟨k,a,ws,h1,h2⟩
theorem zjF {N:Addr->Prop}{H:Hp}{us:List V}{ks:List (List (Int×Int))}(hp:jt N H us ks):WV (GS.LstAt H) us ks:=by
 induction hp with
 | nil=>exact .nil
 | cons q _ ih =>
  obtain⟨a,ws,e,_,h,t⟩:=q;exact .cons ⟨a,ws,e,h,t⟩ ih
theorem zlx {N:Addr->Prop}{H:Hp}{us:List V}{ks:List (List (Int×Int))}(hp:WV (GS.LstAt H) us ks)(n:∀v∈us,∃a,v=V.ref a/\N a):jt N H us ks:=by
 induction hp with
 | nil=>exact .nil
 | cons q _ ih =>
  obtain⟨a,ws,e,h,t⟩:=q;obtain⟨b,e2,n2⟩:=n _ XS;subst e;cases e2;exact .cons ⟨_,ws,rfl,n2,h,t⟩ (ih fun v hv=>n v (XT _ hv))
theorem Qi {N:Addr->Prop}{H:Hp}{us:List V}{ks:List (List (Int×Int))}{v:V}(h:jt N H us ks)(e:v∈us):∃a ws,v=V.ref a/\N a/\H a=some (.lst ws):=by
 obtain⟨k,_,a,ws,h1,h2,h3,_⟩:=zkj h e;exact⟨a,ws,h1,h2,h3⟩
theorem zgh {H:Hp}{us:List V}{ps:List (Int×Int)}{us':List V}{ps':List (Int×Int)}(h:yd H us ps)(k:yd H us' ps'):yd H (us++us') (ps++ps'):=zaW h k
def nearF (rs:List Str)(c x:Nat×Nat):Bool:=(zI rs c).any fun z=>decide (z=x)
def jw (rs:List Str)(c:Nat×Nat):Int:=((Cells.sgn (codes rs) c:Nat):Int)-48
theorem zjG (rs:List Str)(c:Nat×Nat):(zI rs c).Nodup:=(yj (Cells.JA _ 0 (codes rs))).sublist Wc
theorem zly {rs:List Str}{o:Nat×Nat}{q:List (Nat×Nat)}(hq:q.Nodup):((zI rs o).filter fun x=>q.any fun z=>decide (z=x)).length=Grow.cnt (nearF rs) o q:=by
 unfold Grow.cnt;refine Ol ((Vv ((zjG rs o).sublist Wc) (hq.sublist Wc)).mpr fun x=>?_);rw[XV,XV];unfold nearF;rw[Wu,Wu];constructor
 ·rintro⟨h1,y,hy,e⟩;have e2:y=x:=of_decide_eq_true e;subst e2;exact⟨hy,y,h1,decide_eq_true rfl⟩
 ·rintro⟨h1,y,hy,e⟩;have e2:y=x:=of_decide_eq_true e;subst e2;exact⟨hy,y,h1,decide_eq_true rfl⟩
def zgi (H:Hp)(rs:List Str)(v:V)(o:Nat×Nat):Prop:=∃a na wn,v=V.ref a/\H a=some (.tup [.int (jw rs o),.ref na])/\H na=some (.lst wn)/\Cel H wn (zI rs o)
def zgj (H:Hp)(rs:List Str)(rest:List (Nat×Nat))(v:V)(o:Nat×Nat):Prop:=∃a na wn,v=V.ref a/\H a=some (.tup [.int (jw rs o-((Grow.cnt (nearF rs) o rest:Nat):Int)),.int (jw rs o),.ref na])/\H na=some (.lst wn)/\Cel H wn (zI rs o)
theorem zjH {H H':Hp}(s:zu H H'){rs:List Str}{vs:List V}{cs:List (Nat×Nat)}(hp:WV (zgi H rs) vs cs):WV (zgi H' rs) vs cs:=by
 induction hp with
 | nil=>exact .nil
 | cons q _ ih =>
  obtain⟨a,na,wn,e,h1,h3,h4⟩:=q;exact .cons ⟨a,na,wn,e,s _ _ h1,s _ _ h3,h4.mono s⟩ ih
theorem zbd {H H':Hp}(s:zu H H'){rs:List Str}{rest:List (Nat×Nat)}{vs:List V}{cs:List (Nat×Nat)}(hp:WV (zgj H rs rest) vs cs):WV (zgj H' rs rest) vs cs:=by
 induction hp with
 | nil=>exact .nil
 | cons q _ ih =>
  obtain⟨a,na,wn,e,h1,h3,h4⟩:=q;exact .cons ⟨a,na,wn,e,s _ _ h1,s _ _ h3,h4.mono s⟩ ih
theorem Zt {α β:Type}{R:α->β->Prop}{vs:List α}{cs:List β}{i:Nat}{v:α}(h:WV R vs cs)(e:vs[i]?=some v):∃c,cs[i]?=some c/\R v c:=zcf h e
theorem zhu {α β:Type}{R:α->β->Prop}{us:List α}{cs:List β}{us':List α}{cs':List β}(h:WV R us cs)(k:WV R us' cs'):WV R (us++us') (cs++cs'):=zaW h k
def zd8 (H H':Hp)(rs:List Str)(rest:List (Nat×Nat))(v:V)(o:Nat×Nat):Prop:=∃a na wn,v=V.ref a/\H' a=some (.tup [.int (jw rs o-((Grow.cnt (nearF rs) o rest:Nat):Int)),.int (jw rs o),.ref na])/\H na=some (.lst wn)/\Cel H wn (zI rs o)
theorem zhv {H H1 H2:Hp}(s:zu H1 H2){rs:List Str}{rest:List (Nat×Nat)}{vs:List V}{cs:List (Nat×Nat)}(hp:WV (zd8 H H1 rs rest) vs cs):WV (zd8 H H2 rs rest) vs cs:=by
 induction hp with
 | nil=>exact .nil
 | cons q _ ih =>
  obtain⟨a,na,wn,e,h1,h3,h4⟩:=q;exact .cons ⟨a,na,wn,e,s _ _ h1,h3,h4⟩ ih
theorem zcG {H H1:Hp}{z:Addr}{ys ys':List V}(hz:H1 z=some (.lst ys)){rs:List Str}{rest:List (Nat×Nat)}:∀{vs:List V} {cs:List (Nat×Nat)},WV (zd8 H H1 rs rest) vs cs->WV (zd8 H (upd H1 z (.lst ys')) rs rest) vs cs
 | _,_,.nil=>.nil
 | _,_,.cons ⟨a,na,wn,e,h1,h3,h4⟩ t=>.cons ⟨a,na,wn,e,by
   have ne:a≠z:=fun e=>by
    subst e;rw[h1] at hz;cases hz
   rw[zh ne];exact h1,h3,h4⟩ (zcG hz t)
theorem zhw {H H1:Hp}(s:zu H H1){rs:List Str}{rest:List (Nat×Nat)}{vs:List V}{cs:List (Nat×Nat)}(hp:WV (zd8 H H1 rs rest) vs cs):WV (zgj H1 rs rest) vs cs:=by
 induction hp with
 | nil=>exact .nil
 | cons q _ ih =>
  obtain⟨a,na,wn,e,h1,h3,h4⟩:=q;exact .cons ⟨a,na,wn,e,h1,s _ _ h3,h4.mono s⟩ ih
def zng:Sp:=fun vs H Q _=>∃(ta ca ra:Addr) (ut ur:List V) (rs:List Str) (O rest:List (Nat×Nat)) (c:Nat×Nat),vs=[.ref ta,.ref ca,.ref ra]/\H ta=some (.lst ut)/\WV (zgi H rs) ut O/\O.length<=64/\Rows bd.cps.toList rs/\H ca=some (.tup [.int (c.1:Nat),.int (c.2:Nat)])/\H ra=some (.lst ur)/\Cel H ur rest/\rest.Nodup /\
 ∀(d:Addr) (uw:List V) (H':Hp),H' d=some (.lst uw)->WV (zgj H' rs rest) uw (O.filter fun o=>nearF rs o c)->zu H H'->Q (.ref d) H'
def zqy:Sp:=fun vs H Q _=>∃(na pa:Addr) (un up:List V) (rs:List Str) (rest O q:List (Nat×Nat)),vs=[.ref na,.ref pa]/\H na=some (.lst un)/\WV (zgj H rs rest) un O/\H pa=some (.lst up)/\Cel H up q/\q.length<=64 /\
 ∀H':Hp,zu H H'->Q (.bl (O.all fun o=>Grow.zcu (nearF rs) (jw rs) rest o q)) H'
theorem Jb:zF ["told","cell","rest","needs","number","near","left"] ["told","cell","rest"] (zg yH):=⟨rfl,rfl,rfl,by decide +kernel,rfl,by decide +kernel,by decide +kernel⟩
theorem zgk (T:Txt mg)(D:zk K mg "needs_at" yH ["told","cell","rest"] f fd):qk P w K mg base CX0 1 f fd ["told","cell","rest"] zng:=by
 refine D.F.ok Jb (fun vs H Q E h=>?_) (fun cdv A outer s H vs Q E hr h=>?_)
 ·obtain⟨ta,ca,ra,ut,ur,rs,O,rest,c,rfl,_⟩:=h;rfl
 ·obtain⟨ta,ca,ra,ut,ur,rs,O,rest,c,rfl,hta,hT,ol,R,hca,hra,hcr,rnd,q⟩:=h;refine⟨_,(zd (zq (i:=3) Jb.nd rfl (XM rfl) (qa zb))
   (zd (qj Xe rfl (zM (pvS 0)) (JE rfl (zT (zm (i:=4) Jb.nd rfl (XM rfl)) (zT (zm (i:=5) Jb.nd rfl (XM rfl)) yc))) (zf (qX (zH (zcb hr.units) (pvS 1) (pvS 5) (by rfl)) (zd (zq (i:=6) Jb.nd rfl (XM rfl) (zp zB (by rfl) T.ji W0 (za (qh (N:=["place","rest"]) (src:=[none,some 2]) (zU.free (O:=(zg yH).names) (XN:=["told","cell","rest","needs","number","near","left"]) rfl rfl ⟨_,rfl⟩ rfl rfl (by decide +kernel) (by decide +kernel) (by decide +kernel) rfl (by decide +kernel)) rfl (zM (pvS 5)) (fun _ _ _ _ _=>(zm (i:=0) (by show WW (["place","rest"]:List Str);decide +kernel) rfl (XM rfl))) (fun _ _ _ _ _=>(qD (zH (jV (K:=K) (by rfl) hr.units) (pvS 0) (pvS 1) (by rfl)))) (fun _ _ _ _ _=>(pvS 0))) zb)))
   (zf (yy (xY WO Wl Wj jA (pvS 3) (za (jU (za (zz xM (pvS 4) (pvS 6)) (za (pvS 4) (za (pvS 5) zb)))) zb))))) zZ)))
   (zf (zG (pvS 3))))),?_⟩
  refine⟨Z1,fun d hd=>?_⟩;have s0:=ze (o:=.lst []) hd;refine⟨_,rfl,ta,rfl,⟨_,SqL.of (s0 _ _ hta)⟩,?_⟩;refine jS (K:=K) (a:=ta) (xs:=ut) (fun i σ H'=>∃(uw:List V) (v4 v5 v6:Option V),σ=[some (.ref ta),some (.ref ca),some (.ref ra),some (.ref d),v4,v5,v6]/\zu H H'/\H' d=some (.lst uw)/\WV (zd8 H H' rs rest) uw ((O.take i).filter fun o=>nearF rs o c))
   ⟨[],_,_,_,rfl,s0,zc,.nil⟩ (fun i σ H' _ ⟨_,_,_,_,_,z,_⟩=>SqL.of (z _ _ hta)) ?_ ?_
  ·rintro i x σ H1 hx ⟨uw,v4,v5,v6,rfl,s1,hd1,hN⟩;obtain⟨o,ho,a,na,wn,rfl,ha0,hna0,hcn0⟩:=Zt hT hx;have ha:=s1 _ _ ha0;have hna:=s1 _ _ hna0;have hcn:=hcn0.mono s1;have tk:O.take (i+1)=O.take i++[o]:=by
    rw[Xu,ho];rfl
   refine⟨a,_,rfl,SqT.of ha,rfl,_,_,rfl,_,_,rfl,rfl,?_⟩;refine⟨_,rfl,_,rfl,zv c,(zI rs o).map zv,Ze.rdv ⟨ca,rfl,s1 _ _ hca⟩,.lst (SqL.of hna) (zhp hcn),rfl,zgd _,(by show 1<=60;decide),_,rfl,?_⟩;have ei:(if false=true then !((zI rs o).map zv).any (fun z=>WX z (zv c)) else ((zI rs o).map zv).any fun z=>WX z (zv c))=nearF rs o c:=ZC _ _;rw[ei,tk,W3];by_cases hp:nearF rs o c=true
   ·have ef:[o].filter (fun o=>nearF rs o c)=[o]:=by
     rw[Wv,if_pos hp];rfl
    rw[ef];refine yp hp ⟨_,rfl,na,rfl,⟨_,SqL.of hna⟩,fun z hz=>?_⟩;refine qU (K:=K) (a:=na) (xs:=wn) (fun a=>a≠z) ((zI rs o).map fun x=>if (rest.any fun z=>decide (z=x))=true then some (zv x) else none) (fun σ=>∃u0,σ=[u0,some (.ref ra)]) hz (fun _ h=>h) ⟨_,rfl⟩ (by rw[Y1];exact hcn.length.symm) (by rw[hcn.length];exact X5 (Zf R o) (by decide)) (SqL.of hna) ?_ ?_
    ·rintro m v u σ H2 hv hu s2 _ ⟨u1,rfl⟩ Y Z yes no;obtain⟨e,he,rc⟩:=Cel.get (hcn.mono s2) hv;have eo:=xw he hu;refine⟨_,rfl,_,rfl,zv e,rest.map zv,rc.rdv,.lst (SqL.of (s2 _ _ (s1 _ _ hra))) (zhp ((hcr.mono s1).mono s2)),rfl,zgd _,(by show 1<=60;decide),_,rfl,?_⟩;have ei:(if false=true then !(rest.map zv).any (fun z=>WX z (zv e)) else (rest.map zv).any fun z=>WX z (zv e))=rest.any fun z=>decide (z=e):=ZC _ _;rw[ei];by_cases hp:(rest.any fun z=>decide (z=e))=true
     ·rw[if_pos hp] at eo;exact yp hp ⟨_,rfl,yes _ _ _ _ eo ⟨_,rfl⟩ (zu.refl _) rc.rdn⟩
     ·rw[if_neg hp] at eo;exact jM (Xy.mpr hp) (no _ _ eo ⟨_,rfl⟩ (zu.refl _))
    rintro ys H2 s2 hz2 hr2;have er:((zI rs o).map fun x=>if (rest.any fun z=>decide (z=x))=true then some (zv x) else none).filterMap id=((zI rs o).filter fun x=>rest.any fun z=>decide (z=x)).map zv:=qS _ _ _;rw[er] at hr2;have yl:ys.length=Grow.cnt (nearF rs) o rest:=(zD.cel hr2).length.trans (zly rnd);have hd2:=s2 _ _ hd1;refine⟨z,ys,rfl,.inl (SqL.of hz2),?_⟩;rw[yl];refine⟨_,rfl,.inl ⟨rfl,_,SqL.of hd2⟩,_,rfl,_,rfl,_,_,rfl,rfl,_,rfl,_,rfl,zk0,fun tt htt=>?_⟩;have z3:=ze (o:=.tup [.int (jw rs o-((Grow.cnt (nearF rs) o rest:Nat):Int)),.int (jw rs o),.ref na]) htt;have s23:=s2.trans z3;have uwl:uw.length<=64:=by
     rw[Paired.length hN];refine X5 (W6 _ _) ?_;rw[XE];lia
    have hd3:=z3 _ _ hd2;refine⟨d,uw,_,rfl,rfl,hd3,XF uwl (by decide),uw++[.ref tt],_,_,_,rfl,fun b e' h'=>?_,zc,zhu (zcG hd3 (zhv s23 hN)) (.cons ⟨tt,na,wn,rfl,?_,hna0,hcn0⟩ .nil)⟩
    ·rw[zh (zj h' hd)];exact s23 _ _ (s1 _ _ h')
    ·have ne:tt≠d:=fun e=>by
      subst e;rw[hd2] at htt;cases htt
     rw[zh ne,zc]
   ·have ef:[o].filter (fun o=>nearF rs o c)=[]:=by
     rw[Wv,if_neg hp];rfl
    rw[ef,Xa];exact jM (Xy.mpr hp) ⟨uw,_,_,_,rfl,s1,hd1,hN⟩
  ·rintro σ H1 ⟨uw,v4,v5,v6,rfl,s1,hd1,hN⟩;rw[Paired.length hT,Xw] at hN;exact⟨_,rfl,q d uw H1 hd1 (zhw s1 hN) s1⟩
theorem Yc:zF ["needs","pick","least","most","near"] ["needs","pick"] (zg xu):=⟨rfl,rfl,rfl,by decide +kernel,rfl,by decide +kernel,by decide +kernel⟩
theorem zhx (T:Txt mg)(D:zk K mg "may_fit" xu ["needs","pick"] f fd):qk P w K mg base CX0 1 f fd ["needs","pick"] zqy:=by
 refine D.F.ok Yc (fun vs H Q E h=>?_) (fun cdv A outer s H vs Q E hr h=>?_)
 ·obtain⟨na,pa,un,up,rs,rest,O,p,rfl,_⟩:=h;rfl
 ·obtain⟨na,pa,un,up,rs,rest,O,p,rfl,hna,hN,hpa,hcp,pl,q⟩:=h;refine⟨_,(zd (qj Xe rfl (zM (pvS 0)) (JE rfl (zT (zm (i:=2) Yc.nd rfl (XM rfl)) (zT (zm (i:=3) Yc.nd rfl (XM rfl)) (zT (zm (i:=4) Yc.nd rfl (UV rfl)) yc)))) (zf (qX (Yu (zfs ze0 ze0 (pvS 2) (zp zB (by rfl) T.ji W0 (za (qh (N:=["cell","near"]) (src:=[none,some 4]) (zU.free (O:=(zg xu).names) (XN:=["needs","pick","least","most","near"]) rfl rfl ⟨_,rfl⟩ rfl rfl (by decide +kernel) (by decide +kernel) (by decide +kernel) rfl (by decide +kernel)) rfl (zM (pvS 1)) (fun _ _ _ _ _=>(zm (i:=0) (by show WW (["cell","near"]:List Str);decide +kernel) rfl (XM rfl))) (fun _ _ _ _ _=>(qD (zH (jV (K:=K) (by rfl) hr.units) (pvS 0) (pvS 1) (by rfl)))) (fun _ _ _ _ _=>(pvS 0))) zb)) (pvS 3))) (zf (zG Qp)) zZ)))
   (zf (zG Qp))),?_⟩
  refine⟨_,rfl,na,rfl,⟨_,SqL.of hna⟩,?_⟩;refine jS (K:=K) (a:=na) (xs:=un) (fun i σ H'=>∃(v2 v3 v4:Option V),σ=[some (.ref na),some (.ref pa),v2,v3,v4]/\zu H H'/\∀o∈O.take i,Grow.zcu (nearF rs) (jw rs) rest o p=true)
   ⟨_,_,_,rfl,zu.refl _,fun o ho=>by simp at ho⟩ (fun i σ H' _ ⟨_,_,_,_,z,_⟩=>SqL.of (z _ _ hna)) ?_ ?_
  ·rintro i x σ H1 hx ⟨v2,v3,v4,rfl,s1,hall⟩;obtain⟨o,ho,a,ra,wn,rfl,ha,hra,hcn⟩:=Zt (zbd s1 hN) hx;refine⟨a,_,rfl,SqT.of ha,rfl,_,_,rfl,_,_,rfl,_,_,rfl,rfl,?_⟩;refine⟨_,rfl,_,rfl,pa,rfl,⟨_,SqL.of (s1 _ _ hpa)⟩,fun z hz=>?_⟩;refine qU (K:=K) (a:=pa) (xs:=up) (fun a=>a≠z) (p.map fun x=>if nearF rs o x=true then some (zv x) else none) (fun σ=>∃u0,σ=[u0,some (.ref ra)]) hz (fun _ h=>h) ⟨_,rfl⟩ (by rw[Y1];exact hcp.length.symm) (by rw[hcp.length];exact X5 pl (by decide)) (SqL.of (s1 _ _ hpa)) ?_ ?_
   ·rintro m v u σ H2 hv hu s2 _ ⟨u1,rfl⟩ Y Z yes no;obtain⟨e,he,rc⟩:=Cel.get ((hcp.mono s1).mono s2) hv;have eo:=xw he hu;refine⟨_,rfl,_,rfl,zv e,(zI rs o).map zv,rc.rdv,.lst (SqL.of (s2 _ _ hra)) (zhp (hcn.mono s2)),rfl,zgd _,(by show 1<=60;decide),_,rfl,?_⟩;have ei:(if false=true then !((zI rs o).map zv).any (fun z=>WX z (zv e)) else ((zI rs o).map zv).any fun z=>WX z (zv e))=nearF rs o e:=ZC _ _;rw[ei];by_cases hp:nearF rs o e=true
    ·rw[if_pos hp] at eo;exact yp hp ⟨_,rfl,yes _ _ _ _ eo ⟨_,rfl⟩ (zu.refl _) rc.rdn⟩
    ·rw[if_neg hp] at eo;exact jM (Xy.mpr hp) (no _ _ eo ⟨_,rfl⟩ (zu.refl _))
   rintro ys H2 s2 hz2 hr2;have er:(p.map fun x=>if nearF rs o x=true then some (zv x) else none).filterMap id=(p.filter (nearF rs o)).map zv:=qS _ _ _;rw[er] at hr2;have yl:ys.length=Grow.cnt (nearF rs) o p:=(zD.cel hr2).length;refine⟨z,ys,rfl,.inl (SqL.of hz2),?_⟩;rw[yl];have om:=X0 ho;have tk:O.take (i+1)=O.take i++[o]:=by
    rw[Xu,ho];rfl
   have bad:Grow.zcu (nearF rs) (jw rs) rest o p=false->Q (.bl false) H2:=fun e=>by
    have e2:(O.all fun o=>Grow.zcu (nearF rs) (jw rs) rest o p)=false:=Xy.mpr fun z=>by
     have:=WL.mp z o om;rw[e] at this;cases this
    rw[e2] at q;exact q _ (s1.trans s2)
   refine⟨_,_,rfl,rfl,_,rfl,?_⟩;by_cases h1:jw rs o-((Grow.cnt (nearF rs) o rest:Nat):Int)<=((Grow.cnt (nearF rs) o p:Nat):Int)
   ·rw[decide_eq_true h1];refine Qm ⟨_,rfl,_,_,rfl,rfl,_,rfl,?_⟩;by_cases h2:((Grow.cnt (nearF rs) o p:Nat):Int)<=jw rs o
    ·rw[decide_eq_true h2];refine ZU ⟨_,_,_,rfl,s1.trans s2,fun o' ho'=>?_⟩;rw[tk] at ho';rcases XG.mp ho' with ho' | ho'
     ·exact hall o' ho'
     ·have e:o'=o:=by simpa using ho'
      rw[e];exact Grow.yD.mpr ⟨h1,h2⟩
    ·rw[decide_eq_false h2];exact Qm (bad (Xy.mpr fun z=>h2 (Grow.yD.mp z).2))
   ·rw[decide_eq_false h1];refine ZU ⟨_,rfl,?_⟩;exact Qm (bad (Xy.mpr fun z=>h1 (Grow.yD.mp z).1))
  ·rintro σ H1 ⟨v2,v3,v4,rfl,s1,hall⟩;rw[Paired.length hN,Xw] at hall;have e:(O.all fun o=>Grow.zcu (nearF rs) (jw rs) rest o p)=true:=WL.mpr hall;rw[e] at q;exact q H1 s1
def toL (q:List (Nat×Nat)):List (Int×Int):=q.map toI
def zrg:Sp:=fun vs H Q _=>∃(a l pa:Addr) (rs:List Str) (n:Int) (ups:List V) (part:List (Nat×Nat)),vs=[.ref a,.ref pa]/\qb H a l rs n/\Rows bd.cps.toList rs/\H pa=some (.lst ups)/\Cel H ups part/\part.Nodup/\part.length<=14 /\
 ∀(d:Addr) (ws:List V) (ks:List (List (Int×Int))) (H':Hp),H d=none->H' d=some (.lst ws)->jt (fun a=>H a=none/\a≠d) H' ws ks->ws.Nodup->ks.Perm (((Subs.subs part).filter (Grow.fits (nearF rs) (jw rs) (Jw rs part) part)).map toL)->ks.Pairwise (fun p q=>PySem.SeqAt.ltL q p=false)->zu H H'->Q (.ref d) H'
def jD (rs:List Str)(part:List (Nat×Nat)):Nat->List (List (Nat×Nat))
 | 0=>[[]]
 | i+1=>match part[i]? with
  | some c=>(Subs.step (jD rs part i) c).filter (Grow.chk (nearF rs) (jw rs) (Jw rs part) c (part.drop (i+1)))
  | none=>jD rs part i
theorem zcH {rs:List Str}{part:List (Nat×Nat)}{i:Nat}{c:Nat×Nat}(h:part[i]?=some c):jD rs part (i+1)=(Subs.step (jD rs part i) c).filter (Grow.chk (nearF rs) (jw rs) (Jw rs part) c (part.drop (i+1))):=by
 show (match part[i]? with | some c=>_ | none=>_)=_;rw[h]
theorem zcI {rs:List Str}{part:List (Nat×Nat)}:∀(k i:Nat),part.length-i=k->i<=part.length->Grow.grow (nearF rs) (jw rs) (Jw rs part) (jD rs part i) (part.drop i)=jD rs part part.length
 | 0,i,h,hi=>by
  have e:i=part.length:=by lia
  subst e;rw[List.drop_length];rfl
 | k+1,i,h,hi=>by
  have hl:i<part.length:=by lia
  rw[WB hl];show Grow.grow _ _ _ ((Subs.step (jD rs part i) part[i]).filter _) (part.drop (i+1))=_;rw[<- zcH (X7 hl)];exact zcI k (i+1) (by lia) (by lia)
theorem zd9 (rs:List Str)(part:List (Nat×Nat)):jD rs part part.length=(Subs.subs part).filter (Grow.fits (nearF rs) (jw rs) (Jw rs part) part):=by
 rw[<- Grow.zm2];exact(zcI (rs:=rs) (part:=part) part.length 0 (by lia) (W5 _)).symm
theorem Qj (rs:List Str)(part:List (Nat×Nat)):∀i,(jD rs part i).length<=2^i
 | 0=>XW _
 | i+1=>by
  have ih:=Qj rs part i;show (match part[i]? with | some c=>_ | none=>_:List (List (Nat×Nat))).length<=_;rw[Ug];split
  ·refine X5 (W6 _ _) ?_;unfold Subs.step;rw[XU,Y1];lia
  ·lia
theorem zcJ (rs:List Str)(part:List (Nat×Nat)):∀i,∀q∈jD rs part i,q.length<=i
 | 0,q,h=>by
  have e:q=[]:=by simpa[jD] using h
  rw[e];exact XW _
 | i+1,q,h=>by
  have ih:=zcJ rs part i;cases e:part[i]? with
  | none =>
   have e2:jD rs part (i+1)=jD rs part i:=by
    show (match part[i]? with | some c=>_ | none=>_)=_;rw[e]
   rw[e2] at h;exact TZ (ih q h)
  | some c =>
   rw[zcH e] at h;have h:=(XV.mp h).1;rcases XG.mp h with h | h
   ·exact TZ (ih q h)
   ·obtain⟨p,hp,rfl⟩:=XC.mp h;rw[XU];exact Nat.succ_le_succ (ih p hp)
def tD2 (rs:List Str)(c:Nat×Nat):We:=.tuple [.int (jw rs c),.list ((zI rs c).map zv)]
theorem zlz {N:Addr->Prop}{H:Hp}{rs:List Str}{v:V}{c:Nat×Nat}(h:Rdn N H v (tD2 rs c)):zgi H rs v c:=by
 unfold tD2 at h;generalize ed:(zI rs c).map zv=ds at h;cases h with
 | tup h t =>
  cases t with
  | cons b t =>
   cases b;cases t with
   | cons d t =>
    cases t;cases d with
    | lst n h1 h2 =>
     subst ed;exact⟨_,_,_,rfl,h,h1,zD.cel h2⟩
theorem zea {N:Addr->Prop}{H:Hp}{rs:List Str}:∀{cs:List (Nat×Nat)} {vs:List V},zD N H vs (cs.map (tD2 rs))->WV (zgi H rs) vs cs
 | [],_,.nil=>.nil
 | _::_,_,.cons h t=>.cons (zlz h) (zea t)
theorem QT {σ:St}{H:Hp}{A B:Hp->Prop}(h:A H):zmE σ H fun b H4=>if b=true then A H4 else B H4:=by
 show if true=true then A H else B H
 rw[if_pos rfl];exact h
theorem zlA {F:List (List (Nat×Nat))}{j:Nat}{k:List (Int×Int)}(h:(F.map toL)[j]?=some k):∃q,F[j]?=some q/\k=toL q:=by
 rw[XA] at h;cases e:F[j]? with
 | none=>rw[e] at h;cases h
 | some q =>
  rw[e] at h;cases h;exact⟨q,rfl,rfl⟩
theorem zgl (xs:List V)(i:Nat)(hi:i<xs.length):zad xs (some (((i:Nat):Int)+1)) none=xs.drop (i+1):=by
 have e:HT.sIx xs.length 0 (some (((i:Nat):Int)+1))=i+1:=by
  have:=HT.zbP xs.length 0 (i+1);rw[Tc] at this;rw[show (((i:Nat):Int)+1)=((i:Nat):Int)+((1:Nat):Int) from rfl,this];lia
 unfold zad;rw[e];show (xs.drop (i+1)).take (xs.length-(i+1))=_;rw[Ww (by rw[VG];lia)]
theorem zgm {H:Hp}:∀{us:List V} {cs:List (Nat×Nat)} (i:Nat),Cel H us cs->Cel H (us.drop i) (cs.drop i)
 | _,_,0,h=>h
 | _,_,i+1,.nil=>.nil
 | _,_,i+1,.cons _ t=>zgm i t
theorem qv:zF ["board","part","told","found","place","cell","needs","grown"] ["board","part"] (zg qG):=⟨rfl,rfl,rfl,by decide +kernel,rfl,by decide +kernel,by decide +kernel⟩
theorem Yp {f1 f2 f3 f4 f5 f6 f7 f8:Addr}{fd1 fd2 fd3 fd4 fd5 fd6 fd7 fd8:Xq}(T:Txt mg)(D:zk K mg "part_layings" qG ["board","part"] f fd)(zO:zk K mg "around" j4 ["board","cell"] f1 fd1)(zx:zk K mg "sign_at" qJ ["board","cell"] f2 fd2)
  (zE:zk K mg "cells_of" qz ["board"] f3 fd3) (zC:zk K mg "open_cells" qt ["board"] f4 fd4) (qd:zk K mg "number_at" j5 ["board","cell"] f5 fd5) (jj:zk K mg "numbers_of" jC ["board","part"] f6 fd6)
  (j8:zk K mg "needs_at" yH ["told","cell","rest"] f7 fd7) (yM:zk K mg "may_fit" xu ["needs","pick"] f8 fd8):qk P w K mg base CX0 4 f fd ["board","part"] zrg:=by
 refine D.F.ok qv (fun vs H Q E h=>?_) (fun cdv A outer s H vs Q E hr h=>?_)
 ·obtain⟨a,l,pa,rs,n,ups,part,rfl,_⟩:=h;rfl
 ·obtain⟨a,l,pa,rs,n,ups,part,rfl,b,R,hpa,hcp,pnd,pl,q⟩:=h;have ul:=hcp.length;refine⟨_,(zd (qX (zH zkZ (zp zB (by rfl) T.ji W0 (za (pvS 1) zb)) (jy (v:=.int 14) (by rfl) T.zcB.choose_spec (by exact⟨_,rfl⟩)) (zQ _)) (zf zj4) zZ)
   (zd (ZX (i:=2) qv.nd rfl rfl (N:=["cell","board"]) (src:=[none,some 0]) (zU.free (O:=(zg qG).names) (XN:=["board","part","told","found","place","cell","needs","grown"]) rfl rfl ⟨_,rfl⟩ rfl rfl (by decide +kernel) (by decide +kernel) (by decide +kernel) rfl (by decide +kernel)) rfl (zM (pc0 (zdp T jj zO zx zE zC) hr jj (za (pvS 0) (za (pvS 1) zb)))) (fun _ _ _ _ _=>(zm (i:=0) (by show WW (["cell","board"]:List Str);decide +kernel) rfl (XM rfl))) (fun _ _ _ _ _=>qN) (fun _ _ _ _ _=>(jU (za (pc0 (zaB T qd zx) hr qd (za (pvS 1) (za (pvS 0) zb))) (za (pc0 (Qg T zO) hr zO (za (pvS 1) (za (pvS 0) zb))) zb)))))
   (zd (zq (i:=3) qv.nd rfl (XM rfl) (qa (za (qa zb) zb)))
   (zd (qj Xe rfl (Zk (by rfl) T.j6 (za (pvS 1) zb)) (JE rfl (zT (zm (i:=4) qv.nd rfl (XM rfl)) (zT (zm (i:=5) qv.nd rfl (UV rfl)) yc))) (zd (zq (i:=6) qv.nd rfl (UV rfl) (pc0 (zgk T j8) hr j8 (za (pvS 2) (za (pvS 5) (za (zac zbR (pvS 1) (zab (zz z4 (pvS 4) zo)) zeA) zb)))))
   (zd (zq (i:=7) qv.nd rfl (XM rfl) (zz ZT (pvS 3) (qh (N:=["pick","cell"]) (src:=[none,some 5]) (zU.free (O:=(zg qG).names) (XN:=["board","part","told","found","place","cell","needs","grown"]) rfl rfl ⟨_,rfl⟩ rfl rfl (by decide +kernel) (by decide +kernel) (by decide +kernel) rfl (by decide +kernel)) rfl (zM (pvS 3)) (fun _ _ _ _ _=>(zm (i:=0) (by show WW (["pick","cell"]:List Str);decide +kernel) rfl (XM rfl))) (fun _ _ _ _ _=>qN) (fun _ _ _ _ _=>(zz ZT (pvS 0) (qa (za (pvS 1) zb)))))))
   (zf (ZX (i:=3) qv.nd rfl rfl (N:=["pick","needs"]) (src:=[none,some 6]) (zU.free (O:=(zg qG).names) (XN:=["board","part","told","found","place","cell","needs","grown"]) rfl rfl ⟨_,rfl⟩ rfl rfl (by decide +kernel) (by decide +kernel) (by decide +kernel) rfl (by decide +kernel)) rfl (zM (pvS 7)) (fun _ _ _ _ _=>(zm (i:=0) (by show WW (["pick","needs"]:List Str);decide +kernel) rfl (XM rfl))) (fun _ _ _ _ _=>(qD (zaU (K:=K) (by rfl) (pc0 (zhx T yM) hr yM (za (pvS 1) (za (pvS 0) zb))) (fun _=>rfl)))) (fun _ _ _ _ _=>(pvS 0)))))))
   (zf (zG (zp (GS.Qu hr.units) (by rfl) T.zaA Uw (za (pvS 3) zb)))))))),?_⟩
  refine⟨_,rfl,pa,ups,rfl,.inl (SqL.of hpa),_,_,rfl,rfl,_,rfl,?_⟩;refine jM (decide_eq_false (by lia)) ?_;refine⟨_,rfl,_,rfl,a,l,pa,rs,n,ups,part,rfl,b,R,hpa,hcp,fun d ws H1 hd hd1 hc1 s1=>⟨d,rfl,⟨_,SqL.of hd1⟩,fun z hz=>?_⟩⟩;have b1:=b.mono s1;have nl:(Jw rs part).length<=64:=X5 (W6 _ _) (qW (p:=Yo) R);refine qU (K:=K) (a:=d) (xs:=ws) (fun a=>a≠z) ((Jw rs part).map fun c=>some (tD2 rs c)) (fun σ=>∃u0,σ=[u0,some (.ref a)]) hz (fun _ h=>h) ⟨_,rfl⟩ (by rw[Y1];exact hc1.length.symm) (by rw[hc1.length];exact X5 nl (by decide)) (SqL.of hd1) ?_ ?_
  ·rintro k x o σ H2 hx ho s2 hzn ⟨u0,rfl⟩ Y Z yes no;obtain⟨y,hy,r1⟩:=Cel.get hc1 hx;have eo:=xw hy ho;have yo:y∈qf rs:=(XV.mp (X0 hy)).1;obtain⟨t,sg,ht,hj,hop,es⟩:=qg yo;obtain⟨ya,rfl,hya⟩:=r1;obtain⟨l1,l2⟩:=JQ R ht hj;obtain⟨o1,o2⟩:=zbb (ziv R ht hj) hop;have b2:=b1.mono s2;have hya2:=s2 _ _ hya;refine J1 ⟨_,rfl,_,rfl,a,l,ya,rs,n,y.1,y.2,t,sg,rfl,b2,hya2,ht,hj,R.tlen ht,o1,o2,_,rfl,_,rfl,a,l,ya,rs,n,y.1,y.2,rfl,b2,R,hya2,l1,l2,fun d2 ws2 H3 hd2 hd3 hc2 s3=>⟨YD,fun tt htt=>?_⟩⟩;have s4:=ze (o:=.tup [.int (((sg:Nat):Int)-48),.ref d2]) htt;have en:jw rs y=((sg:Nat):Int)-48:=by
    unfold jw;rw[es]
   refine yes _ _ _ _ eo ⟨_,rfl⟩ (s3.trans s4) (.tup zc (.cons ?_ (.cons (.lst (fun e=>hzn (e ▸ hd2)) (s4 _ _ hd3) (Cel.rdn (hc2.mono s4))) .nil)));rw[en];exact .int _
  rintro ut H2 s2 hz2 hr2;rw[Zz] at hr2;have hT:=zea hr2;have s02:=s1.trans s2;refine⟨Z1,fun e0 he0=>⟨sz_1,fun f0 hf0=>?_⟩⟩;have y1:=ze (o:=.lst []) he0;have y2:=ze (o:=.lst [.ref e0]) hf0;have y12:=y1.trans y2;have hL0:jt (fun a=>H2 a=none) (upd (upd H2 e0 (.lst [])) f0 (.lst [.ref e0])) [.ref e0] ([[]]:List (List (Int×Int))):=.cons ⟨e0,[],rfl,he0,y2 _ _ zc,.nil⟩ .nil;have hf3:upd (upd H2 e0 (.lst [])) f0 (.lst [.ref e0]) f0=some (.lst [.ref e0]):=zc;generalize upd (upd H2 e0 (.lst [])) f0 (.lst [.ref e0])=H3 at *
  have hpa2:=s02 _ _ hpa;refine⟨_,rfl,pa,rfl,⟨_,SqL.of (y12 _ _ hpa2)⟩,?_⟩;refine Zl (K:=K) (l:=pa) (xs:=ups) (fun i σ H'=>∃(fa:Addr) (fs:List V) (v4 v5 v6 v7:Option V),σ=[some (.ref a),some (.ref pa),some (.ref z),some (.ref fa),v4,v5,v6,v7]/\zu H2 H'/\H' fa=some (.lst fs)/\jt (fun a=>H2 a=none) H' fs ((jD rs part i).map toL)/\fs.Nodup)
   ⟨f0,_,_,_,_,_,rfl,y12,hf3,hL0,by simp⟩ (fun i σ H' _ ⟨_,_,_,_,_,_,_,y,_⟩=>SqL.of (y _ _ hpa2)) ?_ ?_
  ·rintro i x tt σ H4 hx htt ⟨fa,fs,v4,v5,v6,v7,rfl,s4,hfa,hL,hnd⟩;obtain⟨c,hc,ca,rfl,hca⟩:=Cel.get ((hcp.mono s02).mono s4) hx;have il:=(XY.mp hx).1;have z5:=ze (o:=.tup [.int (i:Nat),.ref ca]) htt;refine⟨tt,_,rfl,SqT.of zc,rfl,_,_,rfl,_,_,rfl,rfl,?_⟩;have s5:=s4.trans z5;have hca5:=z5 _ _ hca;have hfa5:=z5 _ _ hfa;have hL5:=qc z5 hL;generalize upd H4 tt (.tup [.int (i:Nat),.ref ca])=H5 at *
   refine⟨_,rfl,_,rfl,_,rfl,_,rfl,_,_,rfl,rfl,_,rfl,pa,ups,rfl,SqL.of (s5 _ _ hpa2),fun x1 hx1=>?_⟩;have e1:=zgl ups i il;rw[e1] at *
   have z6:=ze (o:=.lst (ups.drop (i+1))) hx1;have s6:=s5.trans z6;refine⟨z,ca,x1,ut,ups.drop (i+1),rs,Jw rs part,part.drop (i+1),c,rfl,s6 _ _ hz2,zjH s6 hT,nl,R,z6 _ _ hca5,zc,zgm _ ((hcp.mono s02).mono s6),pnd.sublist (Ra _ _),fun nd un H6 zrh hN s7=>?_⟩;have s56:=z6.trans s7;have s26:=s5.trans s56;have hfa6:=s56 _ _ hfa5;have hL6:=qc s56 hL5;have hca6:=s56 _ _ hca5;have i14:i<=13:=by lia
   have fl:fs.length<=8192:=by
    rw[jg hL,Y1];exact X5 (Qj rs part i) (Wf (by decide) i14)
   have dp:=zcJ rs part i;have eG:=zcH (rs:=rs) hc;have gl:=Qj rs part i;generalize jD rs part i=F at *
   refine⟨_,rfl,_,rfl,fa,rfl,⟨_,SqL.of hfa6⟩,fun y hy=>?_⟩;refine qx (K:=K) (a:=fa) (xs:=fs) (fun j σ' H'=>∃(u0:Option V) (ys:List V),σ'=[u0,some (.ref ca)]/\zu H6 H'/\H' y=some (.lst ys)/\jt (fun a=>H6 a=none/\a≠y) H' ys (((F.take j).map (·++[c])).map toL)/\ys.Nodup)
    ⟨_,[],rfl,ze hy,zc,.nil,TQ⟩ (fun j σ' H' _ ⟨_,_,_,z,_⟩=>SqL.of (z _ _ hfa6)) ?_ ?_
   ·rintro j v σ' H7 hv ⟨u0,ys,rfl,s8,hy7,hL7,nd7⟩;obtain⟨k,a1,w1,hk,rfl,an,ha1,t1⟩:=YK hL6 hv;obtain⟨q1,hq1,rfl⟩:=zlA hk;have kd:=dp q1 (X0 hq1);have wl:w1.length=q1.length:=(zcE t1).trans (Y1 _);have tj:((F.take (j+1)).map (·++[c])).map toL=((F.take j).map (·++[c])).map toL++[toL q1++[toI c]]:=by
     rw[Xu,hq1,Xj,Xj];simp[toL]
    rw[tj];unfold Jf;refine QT ?_;refine⟨_,rfl,_,rfl,sz_1,fun t2 ht2=>?_⟩;have y5:=ze (o:=.lst [.ref ca]) ht2;refine⟨a1,t2,w1,[.ref ca],rfl,rfl,y5 _ _ (s8 _ _ ha1),zc,X5 (show w1.length+1<=100 by lia) (by decide),fun t3 ht3=>?_⟩;have y6:=ze (o:=.lst (w1++[.ref ca])) ht3;have y56:=y5.trans y6;have h6:upd (upd H7 t2 (.lst [.ref ca])) t3 (.lst (w1++[.ref ca])) t3=some (.lst (w1++[.ref ca])):=zc;have tz:t3≠y:=fun e=>by
     subst e;rw[y5 _ _ hy7] at ht3;cases ht3
    have n4:=y5.free ht3;have n3:=s8.free n4;have c1:yd (upd (upd H7 t2 (.lst [.ref ca])) t3 (.lst (w1++[.ref ca]))) [.ref ca] [toI c]:=.cons ⟨ca,rfl,y56 _ _ (s8 _ _ hca6)⟩ .nil;have tw6:=zgh (yL (s8.trans y56) t1) c1;generalize upd (upd H7 t2 (.lst [.ref ca])) t3 (.lst (w1++[.ref ca]))=H8 at *
    have hy8:=y56 _ _ hy7;have yl:ys.length<=8192:=by
     rw[jg hL7,Y1,Y1,XE];have:=jg hL;rw[Y1] at this;lia
    refine⟨ys,hy8,XF yl (by decide),_,ys++[.ref t3],rfl,fun b' o e=>?_,zc,ZG (xx hy8 (fun a h=>h.2) (qc y56 hL7)) (.cons ⟨t3,w1++[.ref ca],rfl,⟨n3,tz⟩,by rw[zh tz];exact h6,JC hy8 tw6⟩ .nil),?_⟩
    ·rw[zh (zj e hy)];exact y56 _ _ (s8 _ _ e)
    ·refine V7.mpr ⟨nd7,by simp,fun u hu u' hu' e=>?_⟩;obtain⟨b',wb,rfl,_,hb⟩:=Qi hL7 hu;have e2:u'=.ref t3:=by simpa using hu'
     rw[e2] at e;cases e;rw[hb] at n4;cases n4
   rintro σ' H7 ⟨u0,ys,rfl,s8,hy7,hL7,nd7⟩;have fsl:fs.length=F.length:=(jg hL).trans (Y1 _);rw[fsl,Xw] at hL7;have yl:ys.length<=8192:=by
    rw[jg hL7,Y1,Y1];lia
   refine⟨fa,y,fs,ys,rfl,rfl,s8 _ _ hfa6,hy7,X5 (SA fl yl) (by decide),fun g hg=>?_⟩;have y9:=ze (o:=.lst (fs++ys)) hg;have s27:=s26.trans s8;have s28:=s27.trans y9;have hg8:upd H7 g (.lst (fs++ys)) g=some (.lst (fs++ys)):=zc;have hLg:jt (fun a=>H2 a=none) (upd H7 g (.lst (fs++ys))) (fs++ys) ((Subs.step F c).map toL):=by
    unfold Subs.step;rw[Xj];exact ZG (qc (s8.trans y9) hL6) (qc y9 (QS (fun a h=>s26.free h.1) hL7))
   have gnd:(fs++ys).Nodup:=by
    refine V7.mpr ⟨hnd,nd7,fun u hu u' hu' e=>?_⟩;obtain⟨b',wb,rfl,_,hb⟩:=Qi hL6 hu;obtain⟨b2,wb2,rfl,hb2,_⟩:=Qi hL7 hu';cases e;rw[hb] at hb2;cases hb2.1
   have hnd8:=(s8.trans y9) _ _ zrh;have hN8:=zbd (s8.trans y9) hN;have gll:(fs++ys).length<=16384:=by
    rw[XU];lia
   have dps:∀q∈Subs.step F c,q.length<=64:=fun q hq=>by
    rcases XG.mp hq with hq | hq
    ·have:=dp q hq;lia
    ·obtain⟨p',hp',rfl⟩:=XC.mp hq;have:=dp p' hp';rw[XU];show p'.length+1<=64;lia
   generalize fs++ys=gs at *
   generalize Subs.step F c=S at *
   generalize upd H7 g (.lst gs)=H8 at *
   refine⟨_,rfl,g,rfl,⟨_,SqL.of hg8⟩,fun y2 hy2=>?_⟩;refine qx (K:=K) (a:=g) (xs:=gs) (fun j σ' H'=>∃(u0:Option V) (ys:List V),σ'=[u0,some (.ref nd)]/\zu H8 H'/\H' y2=some (.lst ys)/\jt (fun a=>H2 a=none/\a≠y2) H' ys (((S.take j).filter (Grow.chk (nearF rs) (jw rs) (Jw rs part) c (part.drop (i+1)))).map toL)/\ys.Sublist (gs.take j))
    ⟨_,[],rfl,ze hy2,zc,.nil,List.Sublist.slnil⟩ (fun j σ' H' _ ⟨_,_,_,z,_⟩=>SqL.of (z _ _ hg8)) ?_ ?_
   ·rintro j v σ' H9 hv ⟨u0,ys,rfl,s9,hz9,hL9,sb9⟩;obtain⟨k,a1,w1,hk,rfl,an,ha1,t1⟩:=YK hLg hv;obtain⟨q1,hq1,rfl⟩:=zlA hk;have tf:gs.take (j+1)=gs.take j++[.ref a1]:=by
     rw[Xu,hv];rfl
    refine⟨_,rfl,_,rfl,nd,a1,un,w1,rs,part.drop (i+1),_,q1,rfl,s9 _ _ hnd8,zbd s9 hN8,s9 _ _ ha1,(Ja t1).mono s9,dps q1 (X0 hq1),fun H10 s10=>⟨_,rfl,?_⟩⟩;rw[tf];have hz10:=s10 _ _ hz9;show if Grow.chk (nearF rs) (jw rs) (Jw rs part) c (part.drop (i+1)) q1=true then _ else _
    by_cases hlt:Grow.chk (nearF rs) (jw rs) (Jw rs part) c (part.drop (i+1)) q1=true
    ·have e1:((S.take (j+1)).filter (Grow.chk (nearF rs) (jw rs) (Jw rs part) c (part.drop (i+1)))).map toL=((S.take j).filter (Grow.chk (nearF rs) (jw rs) (Jw rs part) c (part.drop (i+1)))).map toL++[toL q1]:=by
      rw[Xu,hq1,W3,Xj];simp[hlt]
     rw[e1];have az:a1≠y2:=zj ha1 hy2;have yl:ys.length<=16384:=by
      have:=sb9.length_le;rw[XE] at this;lia
     refine yp hlt ⟨_,rfl,ys,hz10,XF yl (by decide),_,ys++[.ref a1],rfl,fun b' o e=>?_,zc,ZG (xx hz10 (fun a h=>h.2) (qc s10 hL9)) (.cons ⟨a1,w1,rfl,⟨an,az⟩,by rw[zh az];exact s10 _ _ (s9 _ _ ha1),JC hz10 (yL (s9.trans s10) t1)⟩ .nil),List.Sublist.append sb9 (List.Sublist.refl _)⟩;rw[zh (zj e hy2)];exact s10 _ _ (s9 _ _ e)
    ·have e1:((S.take (j+1)).filter (Grow.chk (nearF rs) (jw rs) (Jw rs part) c (part.drop (i+1)))).map toL=((S.take j).filter (Grow.chk (nearF rs) (jw rs) (Jw rs part) c (part.drop (i+1)))).map toL:=by
      rw[Xu,hq1,W3,Xj];simp[hlt]
     rw[e1];exact jM (Xy.mpr hlt) ⟨_,ys,rfl,s9.trans s10,hz10,qc s10 hL9,sb9.trans (Ti _ _)⟩
   ·rintro σ' H9 ⟨u0,ys,rfl,s9,hz9,hL9,sb9⟩;have gsl:gs.length=S.length:=(jg hLg).trans (Y1 _);rw[gsl,Xw,<- eG] at hL9;rw[gsl,<- gsl,Xw] at sb9;exact⟨y2,ys,_,_,_,_,rfl,s28.trans s9,hz9,QS (fun a h=>h.1) hL9,gnd.sublist sb9⟩
  ·rintro σ H4 ⟨fa,fs,v4,v5,v6,v7,rfl,s4,hfa,hL,hnd⟩;have gl:=Qj rs part part.length;rw[ul,zd9] at hL;rw[zd9] at gl;have fl:fs.length<=16384:=by
    rw[jg hL,Y1];exact X5 gl (Wf (by decide) pl)
   refine⟨_,rfl,fa,fs,_,rfl,SqL.of hfa,zjF hL,by lia,fun d' us' ks' hd' hp' zd7 hpw hup=>?_⟩;have y5:=ze (o:=.lst us') hd';have s04:=s02.trans s4;refine q d' us' ks' _ (s04.free hd') zc (qc y5 (zlx hp' fun v hv=>?_)) (hup.nodup_iff.mpr hnd) zd7 hpw (s04.trans y5);obtain⟨a1,wa,e,na,ha⟩:=Qi hL (hup.mem_iff.mp hv);exact⟨a1,e,s02.free na,zj ha hd'⟩
abbrev iL (xs:List Int):List V:=xs.map V.int
def ZH (xs:List Int):We:=.list (xs.map R8)
theorem zbv {K:X2}{H:Hp}:∀xs:List Int,xq K H (iL xs) (xs.map R8)
 | []=>.nil
 | x::r=>.cons (.int x) (zbv r)
theorem zgn {K:X2}{H:Hp}{a:Addr}{xs:List Int}(h:SqL K H a (iL xs)):Rdv K H (.ref a) (ZH xs):=.lst h (zbv xs)
theorem lay_ints:∀xs:List Int,Wp (xs.map R8)=true
 | []=>rfl
 | x::r=>by
  show (Vf (.int x)&&Wp (r.map R8))=true;rw[lay_ints r];rfl
theorem zcK:∀xs:List Int,Wy (xs.map R8)=0
 | []=>rfl
 | x::r=>by
  show max (PyData.depth (.int x)) (Wy (r.map R8))=0;rw[zcK r];rfl
theorem zbe (xs:List Int):(ZH xs).canLay0=true:=lay_ints xs
theorem zgo (xs:List Int):(ZH xs).depth=1:=by
 show Wy (xs.map R8)+1=1;rw[zcK]
theorem zjI (xs ys:List Int):zca (ZH xs) (ZH ys):=⟨zbe xs,zbe ys,by rw[zgo];decide⟩
theorem zhy (xs:List Int):WX (ZH xs) (ZH xs)=true:=OF _ (zbe xs)
theorem ints_get {xs:List Int}{i:Nat}{v:V}(h:(iL xs)[i]?=some v):∃x,xs[i]?=some x/\v=.int x:=by
 rw[XA] at h;cases e:xs[i]? with
 | none=>rw[e] at h;cases h
 | some x =>
  rw[e] at h;cases h;exact⟨x,rfl,rfl⟩
theorem ziz {xs:List Int}{i:Nat}{x:Int}(h:xs[i]?=some x):(iL xs)[i]?=some (.int x):=by
 rw[XA,h];rfl
theorem zcL {n:Nat}{k:Int}(h0:0<=k)(h1:k<n):ixN n k=some k.toNat:=by
 unfold ixN;rw[if_pos h0,if_pos h1]
theorem znh (xs:List Int)(z:Int):iL (xs++[z])=iL xs++[.int z]:=by
 show Ur V.int (xs++[z])=_;rw[Xj];rfl
def YL (c:Nat×Nat)(k:List (Int×Int)):Bool:=k.any fun z=>decide (z=toI c)
def Yd (rs:List Str)(part:List (Nat×Nat)):List (List (Int×Int)):=((Subs.subs part).filter (Grow.fits (nearF rs) (jw rs) (Jw rs part) part)).map toL
def zqz:Sp:=fun vs H Q _=>∃(fa:Addr) (us:List V) (ks:List (List (Int×Int))) (N:Addr->Prop) (g:Nat),vs=[.ref fa,.int (g:Nat)]/\H fa=some (.lst us)/\jt N H us ks/\(∀k∈ks,k.length<=g)/\g<=64 /\
 ∀(d:Addr) (H':Hp),H d=none->H' d=some (.lst (iL (Cnt.Je g ks)))->zu H H'->Q (.ref d) H'
def zni:Sp:=fun vs H Q _=>∃(fa ca:Addr) (us:List V) (ks:List (List (Int×Int))) (N:Addr->Prop) (g:Nat) (c:Nat×Nat),vs=[.ref fa,.int (g:Nat),.ref ca]/\H fa=some (.lst us)/\jt N H us ks/\(∀k∈ks,k.length<=g)/\g<=64/\ks.length<=16384/\H ca=some (.tup [.int (c.1:Nat),.int (c.2:Nat)]) /\
 ∀(d:Addr) (H':Hp),H d=none->H' d=some (.lst (iL (Cnt.Je g (ks.filter (YL c)))))->zu H H'->Q (.ref d) H'
def zri:Sp:=fun vs H Q _=>∃(a l pa:Addr) (rs:List Str) (n:Int) (ups:List V) (part:List (Nat×Nat)),vs=[.ref a,.ref pa]/\qb H a l rs n/\Rows bd.cps.toList rs/\H pa=some (.lst ups)/\Cel H ups part/\part.Nodup/\part.length<=14 /\
 ∀(d:Addr) (H':Hp),H d=none->H' d=some (.lst (iL (Cnt.Je part.length (Yd rs part))))->zu H H'->Q (.ref d) H'
theorem zgp (n:Nat):(WN n [V.int 0]).flatten=iL (WN n 0):=by
 induction n with
 | zero=>rfl
 | succ n ih =>
  rw[Vt,WM,ih];rfl
theorem zgq {α:Type}:∀(cs:List α) (b:Nat),(Subs.pick cs b).length<=cs.length
 | [],_=>W5 _
 | c::r,b=>by
  have:=zgq r (b/2);show ((if b%2=1 then [c] else [])++Subs.pick r (b/2)).length<=r.length+1;rw[XU];split
  ·show 1+_<=_;lia
  ·show 0+_<=_;lia
theorem zlB {α:Type}{cs q:List α}(h:q∈Subs.subs cs):q.length<=cs.length:=by
 rw[Subs.Qa] at h;obtain⟨b,_,rfl⟩:=XC.mp h;exact zgq cs b
theorem zcM {rs:List Str}{part:List (Nat×Nat)}{k:List (Int×Int)}(h:k∈Yd rs part):k.length<=part.length:=by
 obtain⟨q1,h1,rfl⟩:=XC.mp h;show (q1.map toI).length<=_;rw[Y1];exact zlB (XV.mp h1).1
theorem zjJ {rs:List Str}{part:List (Nat×Nat)}(h:part.length<=14):(Yd rs part).length<=16384:=by
 unfold Yd;rw[Y1];refine X5 (W6 _ _) ?_;rw[Subs.Qa,Y1,W8];exact X5 (Wf (by decide) h) (by decide)
theorem QU:zF ["found","greatest","counts","laying"] ["found","greatest"] (zg JB):=⟨rfl,rfl,rfl,by decide +kernel,rfl,by decide +kernel,by decide +kernel⟩
theorem QV (T:Txt mg)(D:zk K mg "counted" JB ["found","greatest"] f fd):qk P w K mg base CX0 1 f fd ["found","greatest"] zqz:=by
 refine D.F.ok QU (fun vs H Q E h=>?_) (fun cdv A outer s H vs Q E hr h=>?_)
 ·obtain⟨fa,us,ks,N,g,rfl,_⟩:=h;rfl
 ·obtain⟨fa,us,ks,N,g,rfl,hfa,hL,hk,g64,q⟩:=h;refine⟨_,(zd (zq (i:=2) QU.nd rfl (XM rfl) (zz zgU (qa (za zo zb)) (zz z4 (pvS 1) zo)))
   (zd (qj Xe rfl (zM (pvS 0)) (zm (i:=3) QU.nd rfl (XM rfl)) (zf (zh4 (pvS 2) (zp zB (by rfl) T.ji W0 (za (pvS 3) zb)) zfA zo zj6 set_list)))
   (zf (zG (pvS 2))))),?_⟩
  refine⟨sz_1,fun l0 hl0=>?_⟩;have s0:zu H (upd H l0 (.lst [.int 0])):=ze hl0;refine⟨_,rfl,_,_,rfl,rfl,l0,_,_,rfl,rfl,zc,by lia,by lia,?_,fun p hp=>?_⟩
  ·exact X5 (show 1*((g:Int)+1).toNat<=120 by lia) (by decide)
  rw[show ((g:Int)+1).toNat=g+1 by lia,zgp,<- Cnt.zk6 (α:=Int×Int)];have s1:=s0.trans (ze (o:=.lst (iL (Cnt.Je g ([]:List (List (Int×Int)))))) hp);have hp0:H p=none:=s0.free hp;refine⟨_,rfl,fa,rfl,⟨_,SqL.of (s1 _ _ hfa)⟩,?_⟩;refine jS (K:=K) (a:=fa) (xs:=us) (fun i σ H'=>∃v3,σ=[some (.ref fa),some (.int (g:Nat)),some (.ref p),v3]/\zu H H'/\H' p=some (.lst (iL (Cnt.Je g (ks.take i)))))
   ⟨_,rfl,s1,zc⟩ (fun i σ H' _ ⟨_,_,y,_⟩=>SqL.of (y _ _ hfa)) ?_ ?_
  ·rintro i v σ H1 hv ⟨v3,rfl,s2,hp2⟩;obtain⟨k,a1,wa,hk1,rfl,_,ha1,t1⟩:=YK hL hv;have kl:=hk k (X0 hk1);have wl:=zcE t1;refine⟨_,rfl,_,rfl,a1,wa,rfl,.inl (SqL.of (s2 _ _ ha1)),p,_,_,_,rfl,rfl,SqL.of hp2,jN (by lia) (ziz (Cnt.zcv (n:=wa.length) _ (by lia))),_,_,rfl,rfl,p,_,_,_,rfl,rfl,hp2,zcL (by lia) (by rw[Y1,Cnt.zav];lia),?_⟩;refine⟨_,rfl,fun c o e=>?_,?_⟩
   ·rw[zh (zj e hp0)];exact s2 _ _ e
   ·rw[zc,Xu,hk1];show _=some (HO.lst (iL (Cnt.Je g (ks.take i++[k]))));rw[Cnt.zjx _ kl,wl];show some (HO.lst ((Ur V.int _).set _ (V.int _)))=_;rw[<- NU];rfl
  ·rintro σ H1 ⟨v3,rfl,s2,hp2⟩;rw[jg hL,Xw] at hp2;exact⟨_,rfl,q p H1 hp0 hp2 s2⟩
theorem zcN:zF ["board","part"] ["board","part"] (zg xN):=⟨rfl,rfl,rfl,by decide +kernel,rfl,by decide +kernel,by decide +kernel⟩
theorem zcO {f1 f2 f3 f4 f5 f6 f7 f8 f9 f10:Addr}{fd1 fd2 fd3 fd4 fd5 fd6 fd7 fd8 fd9 fd10:Xq}(T:Txt mg)(D:zk K mg "part_counts" xN ["board","part"] f fd)(zO:zk K mg "around" j4 ["board","cell"] f1 fd1)(zx:zk K mg "sign_at" qJ ["board","cell"] f2 fd2)
  (zE:zk K mg "cells_of" qz ["board"] f3 fd3) (zC:zk K mg "open_cells" qt ["board"] f4 fd4) (qd:zk K mg "number_at" j5 ["board","cell"] f5 fd5) (jj:zk K mg "numbers_of" jC ["board","part"] f6 fd6)
  (j8:zk K mg "needs_at" yH ["told","cell","rest"] f7 fd7) (yM:zk K mg "may_fit" xu ["needs","pick"] f8 fd8) (jc:zk K mg "part_layings" qG ["board","part"] f9 fd9) (ju:zk K mg "counted" JB ["found","greatest"] f10 fd10):qk P w K mg base CX0 5 f fd ["board","part"] zri:=by
 refine D.F.ok zcN (fun vs H Q E h=>?_) (fun cdv A outer s H vs Q E hr h=>?_)
 ·obtain⟨a,l,pa,rs,n,ups,part,rfl,_⟩:=h;rfl
 ·obtain⟨a,l,pa,rs,n,ups,part,rfl,b,R,hpa,hcp,pnd,pl,q⟩:=h;refine⟨_,(zf (zG (pc0 (QV T ju) hr ju (za (pc0 (Yp T jc zO zx zE zC qd jj j8 yM) hr jc (za (pvS 0) (za (pvS 1) zb))) (za (zp zB (by rfl) T.ji W0 (za (pvS 1) zb)) zb))))),?_⟩;refine⟨_,rfl,_,rfl,a,l,pa,rs,n,ups,part,rfl,b,R,hpa,hcp,pnd,pl,fun d ws ks H1 hd hd1 hL _ hpm _ s1=>?_⟩;refine⟨_,rfl,pa,ups,rfl,.inl (SqL.of (s1 _ _ hpa)),d,ws,ks,_,ups.length,rfl,hd1,hL,fun k hk=>?_,?_,fun e H2 he he2 s2=>?_⟩
  ·rw[hcp.length];exact zcM (hpm.mem_iff.mp hk)
  ·rw[hcp.length];lia
  ·rw[hcp.length,Cnt.za7 hpm] at he2;exact q e H2 (s1.free he) he2 (s1.trans s2)
def qR (rs:List Str)(g S:List (Nat×Nat)):Bool:=Grow.fits (nearF rs) (jw rs) (Jw rs g) g S
theorem Qk {rs:List Str}{o x:Nat×Nat}:nearF rs o x=true↔x∈zI rs o:=Parts.zau _ _
theorem zpg {rs:List Str}{x:Nat×Nat}(h:x∈zL rs):Cells.sgn (codes rs) x=63:=by
 obtain⟨t,k,ht,hj,hk,es⟩:=qg h;have:k=63:=by
  unfold qA at hk;simpa using hk
 rw[es,this]
theorem Ye {rs:List Str}{o x:Nat×Nat}(hx:x∈zL rs):nearF rs o x=true↔x∈clA rs o:=by
 rw[Qk];constructor
 ·exact fun h=>XV.mpr ⟨h,decide_eq_true (zpg hx)⟩
 ·exact fun h=>(XV.mp h).1
theorem ze9 {rs:List Str}{g:List (Nat×Nat)}{o:Nat×Nat}:o∈Jw rs g↔o∈qf rs/\∃x∈g,nearF rs o x=true:=by
 unfold Jw;rw[XV,Uf,Wu];refine and_congr_right fun _=>?_;constructor
 ·rintro⟨z,hz,h⟩;have h':(g.any fun x=>decide (x=z))=true:=h;exact⟨z,(Parts.zau _ _).mp h',Qk.mpr hz⟩
 ·rintro⟨x,hx,h⟩;exact⟨x,Qk.mp h,(Parts.zau _ _).mpr hx⟩
section
variable {rs:List Str}{gs:List (List (Nat×Nat))}(G:Parts.Good (clA rs) (qf rs) gs)
include G
theorem yE:∀c∈gs.flatten,c∈zL rs:=fun c hc=>by
 obtain⟨o,_,h⟩:=G.from_ c hc;exact ZD h
theorem znj {g:List (Nat×Nat)}(hg:g∈gs){o x:Nat×Nat}(ho:o∈Jw rs g)(hx:x∈zL rs)(hn:nearF rs o x=true):x∈g:=by
 obtain⟨h1,y,hy,h2⟩:=ze9.mp ho;have hys:=yE G y (Ws.mpr ⟨g,hg,hy⟩);have hyc:=(Ye hys).mp h2;obtain⟨g',hg',hall⟩:=G.cov o h1 (SY hyc);have e:=Parts.zdX G.nd hg' hg (hall y hyc) hy;rw[<- e];exact hall x ((Ye hx).mp hn)
theorem ziA {g:List (Nat×Nat)}(hg:g∈gs){o:Nat×Nat}(ho:o∈Jw rs g){a:List (Nat×Nat)}(h:∀c∈a,c∈zL rs/\c ∉ g):Grow.cnt (nearF rs) o a=0:=by
 unfold Grow.cnt;rw[Ul,VZ];intro c hc hn;exact(h c hc).2 (znj G hg ho (h c hc).1 hn)
theorem zaE {g:List (Nat×Nat)}(hg:g∈gs):Tally.Loc (zL rs) (qR rs g) g:=by
 have key:∀S S':List (Nat×Nat),(∀o∈Jw rs g,Grow.cnt (nearF rs) o S=Grow.cnt (nearF rs) o S')->qR rs g S=qR rs g S':=fun S S' h=>by
  unfold qR Grow.fits;rw[Wz,WL,WL];constructor
  ·intro k o ho;have:=k o ho;rwa [h o (XV.mp ho).1] at this
  ·intro k o ho;have:=k o ho;rwa [<- h o (XV.mp ho).1] at this
 have app:∀(o:Nat×Nat) (a b:List (Nat×Nat)),Grow.cnt (nearF rs) o (a++b)=Grow.cnt (nearF rs) o a+Grow.cnt (nearF rs) o b:=fun o a b=>by
  unfold Grow.cnt;rw[W3,XU]
 refine⟨fun a b h=>key _ _ fun o ho=>?_,fun a b h=>key _ _ fun o ho=>?_⟩
 ·rw[app,ziA G hg ho h,V2]
 ·rw[app,ziA G hg ho h,SG]
theorem zgr:(gs.map fun g=>Tally.tl g (qR rs g)).foldl Pour.Zc [1]=Tally.tl gs.flatten (Tally.yg (qR rs) gs):=Tally.zhl G.nd (yE G) fun g hg=>zaE G hg
theorem zjK (i:Nat):((gs.take i).map fun g=>Tally.tl g (qR rs g)).foldl Pour.Zc [1]=Tally.tl (gs.take i).flatten (Tally.yg (qR rs) (gs.take i)):=by
 have sub:(gs.take i).flatten.Sublist gs.flatten:=by
  have e:gs.flatten=(gs.take i).flatten++(gs.drop i).flatten:=by rw[<- Wt,Wx]
  rw[e];exact Ti _ _
 exact Tally.zhl (G.nd.sublist sub) (fun c hc=>yE G c (sub.subset hc)) fun g hg=>zaE G (V6 hg)
theorem YM (R:Rows bd.cps.toList rs):gs.flatten.length<=64:=by
 have h1:=Parts.yf G.nd (yE G);have h2:=zd5 R;lia
end
theorem zeb (rs:List Str)(part:List (Nat×Nat)):Cnt.Je part.length (Yd rs part)=Tally.tl part (qR rs part):=by
 unfold Yd;rw[Tally.zf2 part.length toL (fun k=>Y1 _)];exact Tally.ziu part _
def zjL (xs:List Int):Prop:=∀z∈xs,z.natAbs<2^8000
theorem ziB {cs:List (Nat×Nat)}{p:List (Nat×Nat)->Bool}{k:Nat}(h:cs.length<=64):Tally.T cs p k<=2^64:=by
 refine X5 OT ?_;rw[Subs.Qa,Y1,W8];exact Wf (by decide) h
theorem Yg {cs:List (Nat×Nat)}{p:List (Nat×Nat)->Bool}(h:cs.length<=64):zjL (Tally.tl cs p):=fun z hz=>by
 unfold Tally.tl at hz;obtain⟨k,_,rfl⟩:=XC.mp hz;rw[SX];exact XF (ziB h) (Oz (by decide) (by decide))
def ZI (rs:List Str)(S:List (Nat×Nat)):Bool:=((qf rs).filter fun o=>!(clA rs o).isEmpty).all fun o=>decide (((Grow.cnt (nearF rs) o S:Nat):Int)=jw rs o)
theorem Jx {rs:List Str}{S:List (Nat×Nat)}:ZI rs S=true ↔ ∀o∈qf rs,clA rs o ≠ []->((Grow.cnt (nearF rs) o S:Nat):Int)=jw rs o:=by
 unfold ZI;rw[WL];constructor
 ·intro h o ho hc;exact of_decide_eq_true (h o (XV.mpr ⟨ho,by rw[WE];exact UN.mpr hc⟩))
 ·intro h o ho;obtain⟨h1,h2⟩:=XV.mp ho;rw[WE] at h2;exact decide_eq_true (h o h1 (UN.mp h2))
theorem zbf {rs:List Str}{gs:List (List (Nat×Nat))}(G:Parts.Good (clA rs) (qf rs) gs)(S:List (Nat×Nat)):Tally.yg (qR rs) gs S=ZI rs S:=by
 rw[Wz,Jx];unfold Tally.yg qR Grow.fits;rw[WL];constructor
 ·intro h o ho hc;obtain⟨x,hx⟩:=Tv _ hc;obtain⟨g,hg,hall⟩:=G.cov o ho hc;have hn:nearF rs o x=true:=(Ye (ZD hx)).mpr hx;have:=h g hg;rw[WL] at this;exact of_decide_eq_true (this o (XV.mpr ⟨ze9.mpr ⟨ho,x,hall x hx,hn⟩,Wu.mpr ⟨x,hall x hx,hn⟩⟩))
 ·intro h g hg;rw[WL];intro o ho;obtain⟨h1,x,hx,hn⟩:=ze9.mp (XV.mp ho).1;have hxs:=yE G x (Ws.mpr ⟨g,hg,hx⟩);exact decide_eq_true (h o h1 (SY ((Ye hxs).mp hn)))
theorem zlC {rs:List Str}{gs:List (List (Nat×Nat))}(G:Parts.Good (clA rs) (qf rs) gs){c:Nat×Nat}:c∈gs.flatten↔c∈zL rs/\∃o∈qf rs,nearF rs o c=true:=by
 constructor
 ·intro h;obtain⟨o,ho,hc⟩:=G.from_ c h;have hs:=ZD hc;exact⟨hs,o,ho,(Ye hs).mpr hc⟩
 ·rintro⟨hs,o,ho,hn⟩;have hc:=(Ye hs).mp hn;obtain⟨g,hg,hall⟩:=G.cov o ho (SY hc);exact Ws.mpr ⟨g,hg,hall c hc⟩
def jE (rs:List Str)(S:List (Nat×Nat)):Bool:=(qf rs).all fun o=>decide (((Grow.cnt (nearF rs) o S:Nat):Int)=jw rs o)
theorem Yh {rs:List Str}{S:List (Nat×Nat)}:jE rs S=true ↔ ∀o∈qf rs,((Grow.cnt (nearF rs) o S:Nat):Int)=jw rs o:=by
 unfold jE;rw[WL];exact⟨fun h o ho=>of_decide_eq_true (h o ho),fun h o ho=>decide_eq_true (h o ho)⟩
theorem zcP (rs:List Str):Tally.Inv (jE rs):=fun a b e=>by
 rw[Wz,Yh,Yh];have:∀o,Grow.cnt (nearF rs) o a=Grow.cnt (nearF rs) o b:=fun o=>(e.filter _).length_eq;constructor
 ·intro h o ho;rw[<- this o];exact h o ho
 ·intro h o ho;rw[this o];exact h o ho
theorem zlD {rs:List Str}:(jQ rs).isEmpty=true ↔ ∀o∈qf rs,clA rs o=[]->jw rs o=0:=by
 rw[Pz];unfold jQ jw;rw[VZ];constructor
 ·intro h o ho hc;have:=h o (XV.mpr ⟨ho,by rw[hc];rfl⟩);rw[WE,So] at this;rw[of_decide_eq_true this];rfl
 ·intro h o ho;obtain⟨h1,h2⟩:=XV.mp ho;have:=h o h1 (Pz.mp h2);rw[WE,So];exact decide_eq_true (by lia)
theorem zaF {rs:List Str}{S:List (Nat×Nat)}(hS:∀c∈S,c∈zL rs):jE rs S=((jQ rs).isEmpty&&ZI rs S):=by
 have z:∀o,clA rs o=[]->Grow.cnt (nearF rs) o S=0:=fun o ho=>by
  unfold Grow.cnt;rw[Ul,VZ];intro c hc hn;have:=(Ye (hS c hc)).mp hn;rw[ho] at this;cases this
 rw[Wz,Wa,Yh,zlD,Jx];constructor
 ·intro h;refine⟨fun o ho hc=>?_,fun o ho _=>h o ho⟩;rw[<- h o ho,z o hc];rfl
 ·rintro⟨h1,h2⟩ o ho;by_cases hc:clA rs o=[]
  ·rw[z o hc,h1 o ho hc];rfl
  ·exact h2 o ho hc
theorem ziC {rs:List Str}{c o:Nat×Nat}(hc:c∈yi rs)(ho:o∈qf rs):nearF rs o c=false:=by
 unfold yi at hc;have h:=(XV.mp hc).2;rw[WE,Uf,Re] at h;exact Xy.mpr (h o ho)
theorem zcQ {rs:List Str}{a b:List (Nat×Nat)}(hb:∀c∈b,c∈yi rs):ZI rs (a++b)=ZI rs a:=by
 have e:∀o∈qf rs,Grow.cnt (nearF rs) o (a++b)=Grow.cnt (nearF rs) o a:=fun o ho=>by
  unfold Grow.cnt;rw[W3,XU];have:b.filter (nearF rs o)=[]:=VZ.mpr fun c hc hn=>by
   rw[ziC (hb c hc) ho] at hn;cases hn
  rw[this];rfl
 rw[Wz,Jx,Jx];constructor
 ·intro h o ho hc;rw[<- e o ho];exact h o ho hc
 ·intro h o ho hc;rw[e o ho];exact h o ho hc
theorem zaG {rs:List Str}{c:Nat×Nat}(h:c∈yi rs):c∈zL rs:=(XV.mp h).1
theorem zcR (rs:List Str):(zL rs).Nodup:=yj (Cells.JA _ 0 (codes rs))
theorem zec (rs:List Str):(yi rs).Nodup:=(zcR rs).sublist Wc
section
variable {rs:List Str}{gs:List (List (Nat×Nat))}(G:Parts.Good (clA rs) (qf rs) gs)
include G
theorem zaH {c:Nat×Nat}:c∈yi rs↔c∈zL rs/\c ∉ gs.flatten:=by
 rw[zlC G];constructor
 ·intro h;refine⟨zaG h,?_⟩;rintro⟨_,o,ho,hn⟩;rw[ziC h ho] at hn;cases hn
 ·rintro⟨h1,h2⟩;unfold yi;refine XV.mpr ⟨h1,?_⟩;rw[WE,Uf,Re];intro o ho hn;exact h2 ⟨h1,o,ho,hn⟩
theorem zbg:(zL rs).Perm (gs.flatten++yi rs):=by
 refine(Vv (zcR rs) (V7.mpr ⟨G.nd,zec rs,fun a ha b hb e=>?_⟩)).mpr fun c=>?_
 ·subst e;exact((zaH G).mp hb).2 ha
 ·rw[XG,zaH G];constructor
  ·intro h;by_cases hc:c∈gs.flatten
   ·exact .inl hc
   ·exact .inr ⟨h,hc⟩
  ·rintro(h | h)
   ·exact yE G c h
   ·exact h.1
theorem count_is (s:Nat):(if (jQ rs).isEmpty=true then Tally.dl (Tally.tl gs.flatten (Tally.yg (qR rs) gs)) (yi rs).length ((s:Nat):Int) else 0)=((Tally.T (zL rs) (jE rs) s:Nat):Int):=by
 rw[Tally.ze2 (zbg G) (zcP rs)];have key:∀a∈Subs.subs gs.flatten,∀b∈Subs.subs (yi rs),jE rs (a++b)=((jQ rs).isEmpty&&Tally.yg (qR rs) gs a):=fun a ha b hb=>by
  have sa:=(Tally.jP ha).subset;have sb:=(Tally.jP hb).subset;rw[zaF fun c hc=>(XG.mp hc).elim (fun h=>yE G c (sa h)) fun h=>zaG (sb h),zcQ fun c hc=>sb hc,zbf G]
 cases hb:(jQ rs).isEmpty with
 | true =>
  rw[if_pos rfl];refine Tally.znV (fun a ha b hb'=>?_) s;rw[key a ha b hb',hb,Tl]
 | false =>
  rw[if_neg (by decide),Tally.zbY fun S hS=>?_]
  ·rfl
  ·rw[Tally.zax] at hS;obtain⟨b,hb',hS⟩:=R7.mp hS;obtain⟨a,ha,rfl⟩:=XC.mp hS;rw[key a ha b hb',hb,Uq]
theorem zlE (c:Nat×Nat):Tally.Inv fun S=>jE rs S&&decide (c∈S):=fun a b e=>by
 show (jE rs a&&decide (c∈a))=(jE rs b&&decide (c∈b));rw[zcP rs a b e,show decide (c∈a)=decide (c∈b) from decide_eq_decide.mpr e.mem_iff]
theorem zph {c:Nat×Nat}(hc:c∈yi rs)(s:Nat):(if (jQ rs).isEmpty=true then Tally.dl (Tally.tl gs.flatten (Tally.yg (qR rs) gs)) ((yi rs).length-1) (((s:Nat):Int)-1) else 0)=((Tally.T (zL rs) (fun S=>jE rs S&&decide (c∈S)) s:Nat):Int):=by
 rw[Tally.ze2 (zbg G) (zlE G c)];have key:∀a∈Subs.subs gs.flatten,∀b∈Subs.subs (yi rs),(jE rs (a++b)&&decide (c∈a++b))=((jQ rs).isEmpty&&(Tally.yg (qR rs) gs a&&decide (c∈b))):=fun a ha b hb=>by
  have sa:=(Tally.jP ha).subset;have sb:=(Tally.jP hb).subset;have e:decide (c∈a++b)=decide (c∈b):=decide_eq_decide.mpr ⟨fun h=>(XG.mp h).elim (fun h=>absurd (sa h) ((zaH G).mp hc).2) id,fun h=>Xr _ h⟩;rw[zaF fun c hc=>(XG.mp hc).elim (fun h=>yE G c (sa h)) fun h=>zaG (sb h),zcQ fun c hc=>sb hc,zbf G,e,Sz]
 cases hb:(jQ rs).isEmpty with
 | true =>
  rw[if_pos rfl];refine Tally.zm9 hc (zec rs) (fun a ha b hb'=>?_) s;rw[key a ha b hb',hb,Tl];exact congrArg _ (decide_eq_decide.mpr Iff.rfl)
 | false =>
  rw[if_neg (by decide),Tally.zbY fun S hS=>?_]
  ·rfl
  ·rw[Tally.zax] at hS;obtain⟨b,hb',hS⟩:=R7.mp hS;obtain⟨a,ha,rfl⟩:=XC.mp hS;rw[key a ha b hb',hb,Uq]
end
theorem zfa (A B:List (List (Nat×Nat)))(g:List (Nat×Nat)):(A++g::B).flatten.Perm ((A++B).flatten++g):=by
 rw[Wt,Wt,WM,W2];exact(T0 (l₁:=g) (l₂:=B.flatten)).append_left _
theorem ziD {rs:List Str}{A B:List (List (Nat×Nat))}{g:List (Nat×Nat)}(G:Parts.Good (clA rs) (qf rs) (A++g::B)){c:Nat×Nat}(hc:c∈g):Pour.Zc (Tally.tl (A++B).flatten (Tally.yg (qR rs) (A++B))) (Tally.tl g fun S=>qR rs g S&&decide (c∈S))=Tally.tl ((A++B).flatten++g) fun S=>Tally.yg (qR rs) (A++B) S&&(qR rs g S&&decide (c∈S)):=by
 have hp:=zfa A B g;have nd:((A++B).flatten++g).Nodup:=hp.nodup_iff.mp G.nd;have hU:∀x∈(A++B).flatten++g,x∈zL rs:=fun x hx=>yE G x (hp.mem_iff.mpr hx);have hgm:g∈A++g::B:=by simp
 have hAB:∀x∈A++B,x∈A++g::B:=fun x hx=>by
  rcases XG.mp hx with h | h
  ·exact WZ _ h
  ·exact Xr _ (XT _ h)
 have L:=zaE G hgm;have Lc:Tally.Loc (zL rs) (fun S=>qR rs g S&&decide (c∈S)) g:=by
  refine⟨fun a b h=>?_,fun a b h=>?_⟩
  ·show (qR rs g (a++b)&&decide (c∈a++b))=(qR rs g b&&decide (c∈b));rw[L.l a b h,show decide (c∈a++b)=decide (c∈b) from decide_eq_decide.mpr ⟨fun k=>(XG.mp k).elim (fun k=>absurd hc (h c k).2) id,fun k=>Xr _ k⟩]
  ·show (qR rs g (a++b)&&decide (c∈a++b))=(qR rs g a&&decide (c∈a));rw[L.r a b h,show decide (c∈a++b)=decide (c∈a) from decide_eq_decide.mpr ⟨fun k=>(XG.mp k).elim id fun k=>absurd hc (h c k).2,fun k=>WZ _ k⟩]
 exact Tally.zcz nd hU (fun x hx=>zaE G (hAB x hx)) Lc
theorem znk {rs:List Str}{A B:List (List (Nat×Nat))}{g:List (Nat×Nat)}(G:Parts.Good (clA rs) (qf rs) (A++g::B)){c:Nat×Nat}(hc:c∈g)(s:Nat) :
  (if (jQ rs).isEmpty=true then Tally.dl (Pour.Zc (Tally.tl (A++B).flatten (Tally.yg (qR rs) (A++B))) (Tally.tl g fun S=>qR rs g S&&decide (c∈S))) (yi rs).length ((s:Nat):Int) else 0)=((Tally.T (zL rs) (fun S=>jE rs S&&decide (c∈S)) s:Nat):Int):=by
 have hp:=zfa A B g;have hU:∀x∈(A++B).flatten++g,x∈zL rs:=fun x hx=>yE G x (hp.mem_iff.mpr hx);have hgm:g∈A++g::B:=by simp
 rw[ziD G hc];have hP:(zL rs).Perm ((A++B).flatten++g++yi rs):=(zbg G).trans (hp.append_right _);rw[Tally.ze2 hP (zlE G c)];have key:∀a∈Subs.subs ((A++B).flatten++g),∀b∈Subs.subs (yi rs),(jE rs (a++b)&&decide (c∈a++b))=((jQ rs).isEmpty&&(Tally.yg (qR rs) (A++B) a&&(qR rs g a&&decide (c∈a)))):=fun a ha b hb=>by
  have sa:=(Tally.jP ha).subset;have sb:=(Tally.jP hb).subset;have e:decide (c∈a++b)=decide (c∈a):=decide_eq_decide.mpr ⟨fun h=>(XG.mp h).elim id fun h=>absurd (Ws.mpr ⟨g,hgm,hc⟩) ((zaH G).mp (sb h)).2,fun h=>WZ _ h⟩;have ep:Tally.yg (qR rs) (A++g::B) a=(Tally.yg (qR rs) (A++B) a&&qR rs g a):=by
   rw[Tally.zcy,Tally.zcy];show (_&&(qR rs g a&&Tally.yg (qR rs) B a))=_;rw[RZ (qR rs g a),Sz]
  rw[zaF fun c hc=>(XG.mp hc).elim (fun h=>hU c (sa h)) fun h=>zaG (sb h),zcQ fun c hc=>sb hc,<- zbf G,ep,e,Sz,Sz]
 cases hb:(jQ rs).isEmpty with
 | true =>
  rw[if_pos rfl];refine Tally.znV (fun a ha b hb'=>?_) s;show (jE rs (a++b)&&decide (c∈a++b))=_;rw[key a ha b hb',hb,Tl]
 | false =>
  rw[if_neg (by decide),Tally.zbY fun S hS=>?_]
  ·rfl
  ·rw[Tally.zax] at hS;obtain⟨b,hb',hS⟩:=R7.mp hS;obtain⟨a,ha,rfl⟩:=XC.mp hS;rw[key a ha b hb',hb,Uq]
def zpi (K:X2):Sp:=fun vs H Q _=>∃(a b:Addr) (xs ys:List Int),vs=[.ref a,.ref b]/\SqL K H a (iL xs)/\SqL K H b (iL ys)/\1<=xs.length/\xs.length<=70/\1<=ys.length/\ys.length<=70/\zjL xs/\zjL ys /\
 ∀(l:Addr) (H':Hp),H l=none->H' l=some (.lst (iL (Pour.Zc xs ys)))->zu H H'->Q (.ref l) H'
def xo (H:Hp):List V->List (List Int)->Prop:=WV fun v xs=>∃a,v=V.ref a/\H a=some (.lst (iL xs))
theorem xy {H H':Hp}(s:zu H H'){us:List V}{xss:List (List Int)}(hp:xo H us xss):xo H' us xss:=by
 induction hp with
 | nil=>exact .nil
 | cons q _ ih =>
  obtain⟨a,e,h⟩:=q;exact .cons ⟨a,e,s _ _ h⟩ ih
theorem Ql {H:Hp}{us:List V}{xss:List (List Int)}(h:xo H us xss):us.length=xss.length:=Paired.length h
theorem zlF {H:Hp}{us:List V}{xss:List (List Int)}{i:Nat}{v:V}(h:xo H us xss)(e:us[i]?=some v):∃xs a,xss[i]?=some xs/\v=V.ref a/\H a=some (.lst (iL xs)):=by
 obtain⟨S,h1,a,h2⟩:=zcf h e;exact⟨S,a,h1,h2⟩
structure zhz (xss:List (List Int)):Prop where
 one:∀xs∈xss,1<=xs.length/\xs.length<=70/\zjL xs
 acc:∀i,1<=((xss.take i).foldl Pour.Zc [1]).length/\((xss.take i).foldl Pour.Zc [1]).length<=70/\zjL ((xss.take i).foldl Pour.Zc [1])
def zpj:Sp:=fun vs H Q _=>∃(la:Addr) (us:List V) (xss:List (List Int)),vs=[.ref la]/\H la=some (.lst us)/\xo H us xss/\zhz xss /\
 ∀(d:Addr) (H':Hp),H d=none->H' d=some (.lst (iL (xss.foldl Pour.Zc [1])))->zu H H'->Q (.ref d) H'
def Small (rs:List Str):Prop:=∀gs,Parts.Good (clA rs) (qf rs) gs->∀g∈gs,g.length<=14
theorem zlG {rs:List Str}(h:(zL rs).length<=14):Small rs:=fun gs G g hg=>by
 have:=Parts.yf (yj (G.srt g hg)) fun x hx=>yE G x (Ws.mpr ⟨g,hg,hx⟩);lia
def tls (rs:List Str)(gs:List (List (Nat×Nat))):List (List Int):=gs.map fun g=>Tally.tl g (qR rs g)
theorem zlH {rs:List Str}(R:Rows bd.cps.toList rs){gs:List (List (Nat×Nat))}(G:Parts.Good (clA rs) (qf rs) gs):zhz (tls rs gs):=by
 have n64:=YM G R;refine⟨fun xs hx=>?_,fun i=>?_⟩
 ·obtain⟨g,hg,rfl⟩:=XC.mp hx;have gl:g.length<=64:=X5 (Vx (VF hg)) n64;rw[Tally.j3];exact⟨by lia,by lia,Yg gl⟩
 ·unfold tls;rw[<- Tn,zjK G i];have tl64:(gs.take i).flatten.length<=64:=by
   have e:gs.flatten=(gs.take i).flatten++(gs.drop i).flatten:=by rw[<- Wt,Wx]
   rw[e,XU] at n64;lia
  rw[Tally.j3];exact⟨by lia,by lia,Yg tl64⟩
def zpk:Sp:=fun vs H Q _=>∃(p l:Addr) (rs:List Str) (n:Int),vs=[.ref p]/\qb H p l rs n/\Rows bd.cps.toList rs/\Small rs /\
 ∀(d:Addr) (gs:List (List (Nat×Nat))) (H':Hp),H d=none->Parts.Good (clA rs) (qf rs) gs->Up2 (heads gs)->H' d=some (.lst (iL (Tally.tl gs.flatten (Tally.yg (qR rs) gs))))->zu H H'->Q (.ref d) H'
theorem JD:zF ["one","other","counts","i","many","j","more"] ["one","other"] (zg zay):=⟨rfl,rfl,rfl,by decide +kernel,rfl,by decide +kernel,by decide +kernel⟩
theorem zed (T:Txt mg)(D:zk K mg "poured" zay ["one","other"] f fd):qk P w K mg base CX0 1 f fd ["one","other"] (zpi K):=by
 refine D.F.ok JD (fun vs H Q E h=>?_) (fun cdv A outer s H vs Q E hr h=>?_)
 ·obtain⟨a,b,xs,ys,rfl,_⟩:=h;rfl
 ·obtain⟨a,b,xs,ys,rfl,ha,hb,x1,x2,y1,y2,bx,bY,q⟩:=h;refine⟨_,(zd (zq (i:=2) JD.nd rfl (XM rfl) (zz zgU (qa (za zo zb)) (zz xM (zz z4 (zp zB (by rfl) T.ji W0 (za (pvS 0) zb)) (zp zB (by rfl) T.ji W0 (za (pvS 1) zb))) zo)))
   (zd (qj Xe rfl (Zk (by rfl) T.j6 (za (pvS 0) zb)) (JE rfl (zT (zm (i:=3) JD.nd rfl (XM rfl)) (zT (zm (i:=4) JD.nd rfl (XM rfl)) yc))) (zf (qj Xe rfl (Zk (by rfl) T.j6 (za (pvS 1) zb)) (JE rfl (zT (zm (i:=5) JD.nd rfl (XM rfl)) (zT (zm (i:=6) JD.nd rfl (XM rfl)) yc))) (zf (zh4 (pvS 2) (zz z4 (pvS 3) (pvS 5)) zfA (zz yT (pvS 4) (pvS 6)) zj6 set_list)))))
   (zf (zG (pvS 2))))),?_⟩
  refine⟨sz_1,fun l0 hl0=>?_⟩;have s0:zu H (upd H l0 (.lst [.int 0])):=ze hl0;refine⟨_,rfl,a,_,rfl,.inl (s0.seq ha),_,rfl,b,_,rfl,.inl (s0.seq hb),_,_,rfl,rfl,_,_,rfl,rfl,l0,_,_,rfl,rfl,zc,?_,?_,?_,fun p hp=>?_⟩
  ·rw[Y1,Y1];lia
  ·rw[Y1,Y1];lia
  ·rw[Y1,Y1];exact X5 (show 1*((xs.length:Int)+(ys.length:Int)-1).toNat<=140 by lia) (by decide)
  have en:(((iL xs).length:Nat)+((iL ys).length:Nat)-1:Int).toNat=xs.length+ys.length-1:=by
   rw[Y1,Y1];lia
  rw[en,zgp,<- Pour.zk8];have s1:zu H (upd (upd H l0 (.lst [.int 0])) p (.lst (iL (Pour.st xs ys 0 0)))):=s0.trans (ze hp);have hp0:H p=none:=s0.free hp;refine⟨_,rfl,a,rfl,⟨_,s1.seq ha⟩,?_⟩;refine Zl (K:=K) (l:=a) (xs:=iL xs) (fun i σ H'=>∃v3 v4 v5 v6,σ=[some (.ref a),some (.ref b),some (.ref p),v3,v4,v5,v6]/\zu H H'/\H' p=some (.lst (iL (Pour.st xs ys i 0))))
   ⟨_,_,_,_,rfl,s1,zc⟩ (fun i σ H' _ ⟨_,_,_,_,_,s,_⟩=>s.seq ha) ?_ ?_
  ·rintro i v t σ H1 hv ht ⟨v3,v4,v5,v6,rfl,s2,hp2⟩;obtain⟨x,hx,rfl⟩:=ints_get hv;have st:zu H1 (upd H1 t (.tup [.int (i:Nat),.int x])):=ze ht;refine⟨t,_,rfl,SqT.of zc,rfl,_,_,rfl,_,_,rfl,rfl,?_⟩;refine⟨_,rfl,b,rfl,⟨_,(s2.trans st).seq hb⟩,?_⟩;refine Zl (K:=K) (l:=b) (xs:=iL ys) (fun j σ H'=>∃v5 v6,σ=[some (.ref a),some (.ref b),some (.ref p),some (.int (i:Nat)),some (.int x),v5,v6]/\zu H H'/\H' p=some (.lst (iL (Pour.st xs ys i j))))
    ⟨_,_,rfl,s2.trans st,st _ _ hp2⟩ (fun j σ H' _ ⟨_,_,_,s,_⟩=>s.seq hb) ?_ ?_
   ·rintro j v t2 σ H2 hv2 ht2 ⟨v5,v6,rfl,s3,hp3⟩;obtain⟨y,hy,rfl⟩:=ints_get hv2;have st2:zu H2 (upd H2 t2 (.tup [.int (j:Nat),.int y])):=ze ht2;have hp4:=st2 _ _ hp3;have hi:i<xs.length:=(XY.mp hx).1;have hj:j<ys.length:=(XY.mp hy).1;have en2:((i:Int)+(j:Int)).toNat=i+j:=by lia
    refine⟨t2,_,rfl,SqT.of zc,rfl,_,_,rfl,_,_,rfl,rfl,?_⟩;refine⟨_,rfl,_,rfl,_,rfl,_,_,rfl,rfl,p,_,_,_,rfl,rfl,SqL.of hp4,jN (by lia) (by rw[en2];exact ziz (Pour.zhi (by lia))),?_⟩;refine⟨_,rfl,_,rfl,_,_,rfl,rfl,zp7 (bx _ (X0 hx)) (bY _ (X0 hy)),_,_,rfl,rfl,p,_,_,_,rfl,rfl,hp4,zcL (by lia) (by rw[Y1,Pour.zhh];lia),?_⟩;refine⟨_,_,rfl,fun c o e=>?_,?_⟩
    ·have hc:c≠p:=fun z=>by
      subst z;rw[hp0] at e;cases e
     rw[zh hc];exact st2 _ _ (s3 _ _ e)
    ·rw[zc,en2,<- Pour.zm5 hx hy];show some (HO.lst ((Ur V.int _).set _ (V.int _)))=_;rw[<- NU]
   ·rintro σ H2 ⟨v5,v6,rfl,s3,hp3⟩;rw[Y1,Pour.zo7] at hp3;exact⟨_,_,_,_,rfl,s3,hp3⟩
  ·rintro σ H1 ⟨v3,v4,v5,v6,rfl,s2,hp2⟩;rw[Y1,Pour.zo8] at hp2;exact⟨_,rfl,q p H1 hp0 hp2 s2⟩
theorem xT:zF ["lists","counts","others"] ["lists"] (zg Jt):=⟨rfl,rfl,rfl,by decide +kernel,rfl,by decide +kernel,by decide +kernel⟩
theorem Zg (T:Txt mg)(Z:Prog K mg)(D:zk K mg "all_poured" Jt ["lists"] f fd):qk P w K mg base CX0 2 f fd ["lists"] zpj:=by
 obtain⟨zlI,zjM,YN⟩:=Z.poured;refine D.F.ok xT (fun vs H Q E h=>?_) (fun cdv A outer s H vs Q E hr h=>?_)
 ·obtain⟨la,us,xss,rfl,_⟩:=h;rfl
 ·obtain⟨la,us,xss,rfl,hla,hx,ok,q⟩:=h;refine⟨_,(zd (zq (i:=1) xT.nd rfl (XM rfl) (qa (za zo zb)))
   (zd (qj Xe rfl (zM (pvS 0)) (zm (i:=2) xT.nd rfl (XM rfl)) (zf (zq (i:=1) xT.nd rfl (XM rfl) (pc0 (zed T YN) hr YN (za (pvS 1) (za (pvS 2) zb))))))
   (zf (zG (pvS 1))))),?_⟩
  refine⟨sz_1,fun c0 hc0=>?_⟩;have s0:zu H (upd H c0 (.lst [.int 1])):=ze hc0;refine⟨_,rfl,la,rfl,⟨_,SqL.of (s0 _ _ hla)⟩,?_⟩;refine jS (K:=K) (a:=la) (xs:=us) (fun i σ H'=>∃(c:Addr) (v2:Option V),σ=[some (.ref la),some (.ref c),v2]/\zu H H'/\H c=none/\H' c=some (.lst (iL ((xss.take i).foldl Pour.Zc [1]))))
   ⟨c0,_,rfl,s0,hc0,zc⟩ (fun i σ H' _ ⟨_,_,_,y,_⟩=>SqL.of (y _ _ hla)) ?_ ?_
  ·rintro i v σ H1 hv ⟨c,v2,rfl,s1,hc,hc1⟩;obtain⟨xs,a1,hxs,rfl,ha1⟩:=zlF hx hv;obtain⟨o1,o2,o3⟩:=ok.one xs (X0 hxs);obtain⟨p1,p2,p3⟩:=ok.acc i;refine⟨_,rfl,_,rfl,c,a1,_,xs,rfl,SqL.of hc1,SqL.of (s1 _ _ ha1),p1,p2,o1,o2,p3,o3,fun d H2 hd hd2 s2=>?_⟩;refine⟨d,_,rfl,s1.trans s2,s1.free hd,?_⟩;rw[hd2,Xu,hxs,Sv];rfl
  ·rintro σ H1 ⟨c,v2,rfl,s1,hc,hc1⟩;rw[Ql hx,Xw] at hc1;exact⟨_,rfl,q c H1 hc hc1 s1⟩
theorem zcS:zF ["board"] ["board"] (zg yt):=⟨rfl,rfl,rfl,by decide +kernel,rfl,by decide +kernel,by decide +kernel⟩
theorem zcT (T:Txt mg)(Z:Prog K mg)(D:zk K mg "near_counts" yt ["board"] f fd):qk P w K mg base CX0 6 f fd ["board"] zpk:=by
 obtain⟨zgs,zee,zO⟩:=Z.around;obtain⟨zbh,QW,zx⟩:=Z.sign_at;obtain⟨QX,YO,zE⟩:=Z.cells_of;obtain⟨zaI,Qx,zC⟩:=Z.open_cells;obtain⟨zbw,zaJ,qd⟩:=Z.number_at;obtain⟨zfb,zdq,jj⟩:=Z.numbers_of;obtain⟨zhA,zgt,j8⟩:=Z.needs_at;obtain⟨zjN,zhB,yM⟩:=Z.may_fit;obtain⟨zcU,zbG,jc⟩:=Z.part_layings;obtain⟨zjO,zhC,ju⟩:=Z.counted;obtain⟨zml,zlJ,Qy⟩:=Z.part_counts;obtain⟨Yq,ZJ,zR⟩:=Z.closed_around;obtain⟨zlK,zjP,ZF⟩:=Z.joined;obtain⟨znl,zlL,zaK⟩:=Z.parts;obtain⟨zfc,zdr,jF⟩:=Z.all_poured;refine D.F.ok zcS (fun vs H Q E h=>?_) (fun cdv A outer s H vs Q E hr h=>?_)
 ·obtain⟨p,l,rs,n,rfl,_⟩:=h;rfl
 ·obtain⟨p,l,rs,n,rfl,b,R,sm,q⟩:=h;refine⟨_,(zf (zG (pc0 (Zg T Z jF) hr jF (za (qh (N:=["part","board"]) (src:=[none,some 0]) (zU.free (O:=(zg yt).names) (XN:=["board"]) rfl rfl ⟨_,rfl⟩ rfl rfl (by decide +kernel) (by decide +kernel) (by decide +kernel) rfl (by decide +kernel)) rfl (zM (pc0 (zgf T zaK zO zx zE zC zR ZF) hr zaK (za (pvS 0) zb))) (fun _ _ _ _ _=>(zm (i:=0) (by show WW (["part","board"]:List Str);decide +kernel) rfl (XM rfl))) (fun _ _ _ _ _=>qN) (fun _ _ _ _ _=>(pc0 (zcO T Qy zO zx zE zC qd jj j8 yM jc ju) hr Qy (za (pvS 1) (za (pvS 0) zb))))) zb)))),?_⟩;refine⟨_,rfl,p,l,rs,n,rfl,b,R,fun d ws gs H1 hd hd1 hG _ _ G up s1=>⟨d,rfl,⟨_,SqL.of hd1⟩,fun z hz=>?_⟩⟩;have g64:gs.length<=64:=X5 (Parts.YG G.ne) (YM G R);refine qx (K:=K) (a:=d) (xs:=ws) (fun j σ' H'=>∃(u0:Option V) (ys:List V),σ'=[u0,some (.ref p)]/\zu H1 H'/\H' z=some (.lst ys)/\(∀v∈ys,∀a,v=V.ref a->a≠z)/\xo H' ys (tls rs (gs.take j)))
   ⟨_,[],rfl,ze hz,zc,(fun _ h=>nomatch h),.nil⟩ (fun j σ' H' _ ⟨_,_,_,y,_⟩=>SqL.of (y _ _ hd1)) ?_ ?_
  ·rintro j v σ' H2 hv ⟨u0,ys,rfl,s2,hz2,nz,hy2⟩;obtain⟨g,hg,ga,ug,rfl,hga,hcg⟩:=yI.get (hG.mono s2) hv;have gm:=X0 hg;have il:=(XY.mp hg).1;unfold Jf;refine QT ?_;refine⟨_,rfl,_,rfl,p,l,ga,rs,n,ug,g,rfl,(b.mono s1).mono s2,R,hga,hcg,yj (G.srt g gm),sm gs G g gm,fun e H3 he he3 s3=>?_⟩;rw[zeb] at he3;have ez:e≠z:=fun y=>by
    subst y;rw[hz2] at he;cases he
   refine⟨_,s3 _ _ hz2,?_,_,ys++[.ref e],rfl,fun b o e'=>?_,zc,fun v hv a ea=>?_,?_⟩
   ·rw[Ql hy2];unfold tls;rw[Y1,XE];exact XF (show _<=64 by lia) (by decide)
   ·rw[zh (zj e' hz)];exact s3 _ _ (s2 _ _ e')
   ·rcases XG.mp hv with hv | hv
    ·exact nz v hv a ea
    ·have:v=V.ref e:=by simpa using hv
     rw[this] at ea;cases ea;exact ez
   ·have t1:tls rs (gs.take (j+1))=tls rs (gs.take j)++[Tally.tl g (qR rs g)]:=by
     unfold tls;rw[Xu,hg,Xj];rfl
    rw[t1];have into:∀{us:List V} {xss:List (List Int)},xo H3 us xss->(∀v∈us,∀a,v=V.ref a->a≠z)->xo (upd H3 z (.lst (ys++[.ref e]))) us xss:=by
     intro us xss h;induction h with
     | nil=>exact fun _=>.nil
     | cons h t ih =>
      intro nz;obtain⟨a,rfl,ha⟩:=h;exact .cons ⟨a,rfl,by rw[zh (nz _ XS a rfl)];exact ha⟩ (ih fun v hv=>nz v (XT _ hv))
    exact Paired.snoc (into (xy s3 hy2) nz) ⟨e,rfl,by rw[zh ez];exact he3⟩
  rintro σ' H2 ⟨u0,ys,rfl,s2,hz2,_,hy2⟩;rw[hG.length,Xw] at hy2;refine⟨z,ys,tls rs gs,rfl,hz2,hy2,zlH R G,fun e H3 he he3 s3=>?_⟩;have s12:=s1.trans s2;rw[show (tls rs gs).foldl Pour.Zc [1]=Tally.tl gs.flatten (Tally.yg (qR rs) gs) from zgr G] at he3;exact q e gs H3 (s12.free he) G up he3 (s12.trans s3)
def chV (n k:Int):Int:=if 0<=k/\k<=n then ((Choose.ch n.toNat k.toNat:Nat):Int) else 0
theorem znm (m:Nat)(k:Int):chV (m:Nat) k=Tally.chZ m k:=by
 unfold chV Tally.chZ;rw[WY];by_cases h0:k<0
 ·rw[if_neg (by lia),if_pos h0]
 ·rw[if_neg h0];by_cases h1:k<=(m:Int)
  ·rw[if_pos ⟨by lia,h1⟩]
  ·rw[if_neg (by lia),Choose.za8 m k.toNat (by lia)];rfl
theorem znn {n k:Int}(h:n<=64):(chV n k).natAbs<2^8000:=by
 have h1:(2:Nat)^64<2^8000:=Oz (by decide) (by decide);have hz:(0:Nat)<2^8000:=XF (W5 _) h1;unfold chV;split
 ·rw[SX];exact XF (X5 (Choose.zqq _ _) (Wf (by decide) (show n.toNat<=64 by lia))) h1
 ·exact hz
def dlV (xs:List Int)(m st:Int):Int:=Pour.S (fun k=>Pour.F xs k*chV m (st-(k:Nat))) xs.length
theorem zfd (xs:List Int)(m:Nat)(st:Int):dlV xs (m:Nat) st=Tally.dl xs m st:=by
 unfold dlV Tally.dl;exact Pour.J4 _ fun i _=>by rw[znm]
theorem znY (h:Nat->Int):∀n,((XD n).map h).sum=Pour.S h n
 | 0=>rfl
 | n+1=>by
  rw[U6,Xj,List.sum_append,znY h n];show _+(h n+0)=Pour.S h n+h n;lia
def zrj:Sp:=fun vs H Q _=>∃(n k:Int),vs=[.int n,.int k]/\n<=64/\Q (.int (chV n k)) H
def zno:Sp:=fun vs H Q _=>∃(c:Addr) (xs:List Int) (m st:Int),vs=[.ref c,.int m,.int st]/\H c=some (.lst (iL xs))/\zjL xs/\xs.length<=150/\m<=64/\∀H',zu H H'->Q (.int (dlV xs m st)) H'
def jO (rs:List Str)(n:Int):Int:=((Tally.T (zL rs) (jE rs) n.toNat:Nat):Int)
def znp:Sp:=fun vs H Q _=>∃(p l:Addr) (rs:List Str) (n:Int),vs=[.ref p]/\qb H p l rs n/\Rows bd.cps.toList rs/\Small rs/\0<=n/\∀H',zu H H'->Q (.int (jO rs n)) H'
theorem Yi:zF ["n","k","found","step"] ["n","k"] (zg Qe):=⟨rfl,rfl,rfl,by decide +kernel,rfl,by decide +kernel,by decide +kernel⟩
theorem zhD (T:Txt mg)(D:zk K mg "choices" Qe ["n","k"] f fd):qk P w K mg base CX0 1 f fd ["n","k"] zrj:=by
 refine D.F.ok Yi (fun vs H Q E h=>?_) (fun cdv A outer s H vs Q E hr h=>?_)
 ·obtain⟨n,k,rfl,_⟩:=h;rfl
 ·obtain⟨n,k,rfl,n1,q⟩:=h;refine⟨_,(zd (qX (Yu (zfs ze0 ze0 zo (pvS 1) (pvS 0))) (zf (zG zo)) zZ)
   (zd (zq (i:=2) Yi.nd rfl (XM rfl) zo)
   (zd (qj Xe rfl (qI (by rfl) T.jd (za (pvS 1) zb)) (zm (i:=3) Yi.nd rfl (XM rfl)) (zf (zq (i:=2) Yi.nd rfl (XM rfl) (zz qy (zz yT (pvS 2) (zz xM (pvS 0) (pvS 3))) (zz z4 (pvS 3) zo)))))
   (zf (zG (pvS 2)))))),?_⟩
  refine⟨_,rfl,_,_,rfl,rfl,_,rfl,?_⟩;unfold chV at q;refine zeE (fun c=>?_) (fun c=>?_)
  ·have k0:(0:Int)<=k:=of_decide_eq_true c;refine⟨_,rfl,_,_,rfl,rfl,_,rfl,?_⟩;by_cases c:k<=n
   ·rw[if_pos ⟨k0,c⟩] at q;rw[decide_eq_true c];refine ZU ?_;refine⟨_,rfl,k,rfl,by lia,by lia,?_⟩;refine qw (lo:=0) (n:=k.toNat) (fun i σ H'=>∃v,σ=[some (.int n),some (.int k),some (.int (Choose.ch n.toNat i)),v]/\H'=H) ⟨_,by rw[Choose.Qc];rfl,rfl⟩ ?_ ?_
    ·rintro i σ H' hi ⟨v,rfl,rfl⟩;refine⟨_,rfl,_,rfl,_,rfl,_,_,rfl,rfl,_,_,rfl,rfl,zeF (by lia) (by lia),_,rfl,_,_,rfl,rfl,_,_,rfl,rfl,yr.small (by lia) (by lia),?_⟩;refine⟨some (.int (0+(i:Int))),?_,rfl⟩;have e:=Choose.zm6 (n:=n.toNat) (k:=i) (by lia);have e1:((n.toNat:Nat):Int)=n:=Vs (by lia);rw[e1] at e;have e2:(Choose.ch n.toNat i:Int)*(n-(0+(i:Int)))/(0+(i:Int)+1)=Choose.ch n.toNat (i+1):=by
      rw[RC];exact e
     show [_,_,some (V.int ((Choose.ch n.toNat i:Int)*(n-(0+(i:Int)))/(0+(i:Int)+1))),_]=_;rw[e2]
    ·rintro σ H' ⟨v,rfl,rfl⟩;exact⟨_,rfl,q⟩
   ·rw[if_neg (fun h=>c h.2)] at q;rw[decide_eq_false c];exact Qm q
  ·have k0:¬ (0:Int)<=k:=fun z=>c (decide_eq_true z);rw[if_neg (fun h=>k0 h.1)] at q;exact⟨_,rfl,Qm q⟩
theorem zlM:zF ["counts","cells","stones"] ["counts","cells","stones"] (zg zaz):=⟨rfl,rfl,rfl,by decide +kernel,rfl,by decide +kernel,by decide +kernel⟩
theorem zcV (T:Txt mg)(Z:Prog K mg)(D:zk K mg "dealt" zaz ["counts","cells","stones"] f fd):qk P w K mg base CX0 2 f fd ["counts","cells","stones"] zno:=by
 obtain⟨zpH,zpl,zef⟩:=Z.choices;refine D.F.ok zlM (fun vs H Q E h=>?_) (fun cdv A outer s H vs Q E hr h=>?_)
 ·obtain⟨c,xs,m,st,rfl,_⟩:=h;rfl
 ·obtain⟨c,xs,m,st,rfl,hc,bx,xl,m1,q⟩:=h;refine⟨_,(zf (zG (zp (zkk rfl) (by rfl) T.zqt PyProof.Rows.boot_sum (za (qh (N:=["k","many","cells","stones"]) (src:=[none,none,some 1,some 2]) (zU.free (O:=(zg zaz).names) (XN:=["counts","cells","stones"]) rfl rfl ⟨_,rfl⟩ rfl rfl (by decide +kernel) (by decide +kernel) (by decide +kernel) rfl (by decide +kernel)) rfl (Zk (by rfl) T.j6 (za (pvS 0) zb)) (fun _ _ _ _ _=>(zeG (n:=2) (K:=K) (by rfl) rfl (zT (zm (i:=0) (by show WW (["k","many","cells","stones"]:List Str);decide +kernel) rfl (XM rfl)) (zT (zm (i:=1) (by show WW (["k","many","cells","stones"]:List Str);decide +kernel) rfl (XM rfl)) yc)))) (fun _ _ _ _ _=>qN) (fun _ _ _ _ _=>(zz yT (pvS 1) (pc0 (zhD T zef) hr zef (za (pvS 2) (za (zz xM (pvS 3) (pvS 0)) zb)))))) zb)))),?_⟩;refine⟨_,rfl,c,rfl,⟨_,SqL.of hc⟩,fun z hz=>?_⟩;refine zgZ (K:=K) (a:=c) (xs:=iL xs) (fun i σ H'=>(∃u0 u1,σ=[u0,u1,some (.int m),some (.int st)])/\zu H H'/\H' z=some (.lst (iL ((XD i).map fun k=>Pour.F xs k*chV m (st-(k:Nat)))))) ⟨⟨_,_,rfl⟩,ze hz,zc⟩ (fun i σ H' _ ⟨_,s3,_⟩=>SqL.of (s3 _ _ hc)) ?_ ?_
  ·rintro i x tt σ H3 hx htt ⟨⟨u0,u1,rfl⟩,s3,hz3⟩;obtain⟨y,hy,rfl⟩:=ints_get hx;have il:=(XY.mp hy).1;have s4:=ze (o:=.tup [.int ((i:Nat):Int),.int y]) htt;refine⟨tt,_,rfl,SqT.of zc,rfl,_,_,rfl,_,_,rfl,rfl,?_⟩;unfold zmE;refine Qm ⟨_,rfl,_,rfl,_,rfl,_,rfl,_,_,rfl,rfl,m,_,rfl,m1,_,_,rfl,rfl,zp7 (bx y (X0 hy)) (znn m1),_,s4 _ _ hz3,?_,⟨_,_,rfl⟩,fun b' o e'=>?_,?_⟩
   ·rw[Y1,Y1,W8];exact Xn (show i<150 by lia) (by decide)
   ·rw[zh (zj e' hz)];exact s4 _ _ (s3 _ _ e')
   ·rw[zc,U6,Xj];show _=some (HO.lst (iL (_++[Pour.F xs i*chV m (st-(i:Nat))])));rw[znh,Pour.zm3 hy]
  ·rintro σ H3 ⟨_,s3,hz3⟩;refine⟨z,_,rfl,SqL.of hz3,?_⟩;rw[Y1,znY];exact q _ s3
theorem zgu:zF ["board","near"] ["board"] (zg zb0):=⟨rfl,rfl,rfl,by decide +kernel,rfl,by decide +kernel,by decide +kernel⟩
theorem zlN (T:Txt mg)(Z:Prog K mg)(D:zk K mg "count" zb0 ["board"] f fd):qk P w K mg base CX0 7 f fd ["board"] znp:=by
 obtain⟨zgs,zee,zO⟩:=Z.around;obtain⟨zbh,QW,zx⟩:=Z.sign_at;obtain⟨QX,YO,zE⟩:=Z.cells_of;obtain⟨zgv,zeg,j7⟩:=Z.closed;obtain⟨zaI,Qx,zC⟩:=Z.open_cells;obtain⟨zbw,zaJ,qd⟩:=Z.number_at;obtain⟨Yq,ZJ,zR⟩:=Z.closed_around;obtain⟨zqA,zpm,zgw⟩:=Z.far;obtain⟨zfe,zds,yY⟩:=Z.bare_wrong;obtain⟨zmm,zlO,Qz⟩:=Z.near_counts;obtain⟨znq,zlP,Yj⟩:=Z.dealt;refine D.F.ok zgu (fun vs H Q E h=>?_) (fun cdv A outer s H vs Q E hr h=>?_)
 ·obtain⟨p,l,rs,n,rfl,_⟩:=h;rfl
 ·obtain⟨p,l,rs,n,rfl,b,R,sm,n0,q⟩:=h;refine⟨_,(zd (zq (i:=1) zgu.nd rfl (XM rfl) (pc0 (zcT T Z Qz) hr Qz (za (pvS 0) zb)))
   (zd (qX (zH (yF hr.units) (pc0 (Qw T yY zO zx zE zR zC qd) hr yY (za (pvS 0) zb)) (qa zb) (zQ _)) (zf (zG zo)) zZ)
   (zf (zG (pc0 (zcV T Z Yj) hr Yj (za (pvS 1) (za (zp zB (by rfl) T.ji W0 (za (pc0 (zlo T zgw zO zx zE j7 zC) hr zgw (za (pvS 0) zb)) zb)) (za (qi jz (pvS 0) zo (fun _ _=>rfl)) zb)))))))),?_⟩
  refine⟨_,rfl,p,l,rs,n,rfl,b,R,sm,fun d1 gs H1 hd1 G up zlQ s1=>?_⟩;refine⟨_,rfl,p,l,rs,n,rfl,b.mono s1,R,fun d2 w2 H2 hd2 zrk hc2 s2=>⟨Z1,fun e he=>?_⟩⟩;have s3:=ze (o:=.lst []) he;have ci:=count_is G n.toNat;rw[Vs n0] at ci;unfold jO at q;rw[<- ci] at q;refine⟨.list ((jQ rs).map zv),.list [],.lst (SqL.of (s3 _ _ zrk)) (zD.rdv (N:=fun _=>True) (Cel.rdn (Cel.mono s3 hc2))),.lst (SqL.of zc) .nil,ze6 _ [],_,rfl,?_⟩;have ee:(if true=true then !PyData.eqv (.list ((jQ rs).map zv)) (.list []) else WX (.list ((jQ rs).map zv)) (.list []))=!(jQ rs).isEmpty:=by
   show (!PyData.eqv _ _)=_;rw[eq_nil]
  rw[ee];have s13:=(s1.trans s2).trans s3;have hd13:=s3 _ _ (s2 _ _ zlQ);generalize upd H2 e (.lst [])=H3 at *
  cases hb:(jQ rs).isEmpty with
  | false =>
   rw[hb,if_neg XX] at q;exact Qm (q _ s13)
  | true =>
   rw[hb,if_pos rfl] at q;refine ZU ?_;have b3:=b.mono s13;refine⟨_,rfl,_,rfl,p,l,rs,n,rfl,b3,R,fun d4 ws4 H4 _ hd4 hc4 s4=>⟨d4,_,rfl,.inl (SqL.of hd4),?_⟩⟩;have hl:=hc4.length;have h64:(yi rs).length<=64:=X5 (W6 _ _) (qW (p:=qA) R);have g64:=YM G R;refine⟨_,rfl,p,_,1,_,rfl,rfl,SqT.of (b3.mono s4).tp,rfl,d1,_,(ws4.length:Nat),n,rfl,s4 _ _ hd13,Yg g64,by rw[Tally.j3];lia,by lia,fun H' s'=>?_⟩;rw[hl,zfd];exact q _ ((s13.trans s4).trans s')
theorem zdu:zF ["found","greatest","cell"] ["found","greatest","cell"] (zg yV):=⟨rfl,rfl,rfl,by decide +kernel,rfl,by decide +kernel,by decide +kernel⟩
theorem zdv {f1:Addr}{fd1:Xq}(T:Txt mg)(D:zk K mg "counted_at" yV ["found","greatest","cell"] f fd)(ju:zk K mg "counted" JB ["found","greatest"] f1 fd1):qk P w K mg base CX0 2 f fd ["found","greatest","cell"] zni:=by
 refine D.F.ok zdu (fun vs H Q E h=>?_) (fun cdv A outer s H vs Q E hr h=>?_)
 ·obtain⟨fa,ca,us,ks,N,g,c,rfl,_⟩:=h;rfl
 ·obtain⟨fa,ca,us,ks,N,g,c,rfl,hfa,hL,hk,g64,kl,hca,q⟩:=h;refine⟨_,(zf (zG (pc0 (QV T ju) hr ju (za (qh (N:=["laying","cell"]) (src:=[none,some 2]) (zU.free (O:=(zg yV).names) (XN:=["found","greatest","cell"]) rfl rfl ⟨_,rfl⟩ rfl rfl (by decide +kernel) (by decide +kernel) (by decide +kernel) rfl (by decide +kernel)) rfl (zM (pvS 0)) (fun _ _ _ _ _=>(zm (i:=0) (by show WW (["laying","cell"]:List Str);decide +kernel) rfl (XM rfl))) (fun _ _ _ _ _=>(qD (zH (jV (K:=K) (by rfl) hr.units) (pvS 1) (pvS 0) (by rfl)))) (fun _ _ _ _ _=>(pvS 0))) (za (pvS 1) zb))))),?_⟩;refine⟨_,rfl,fa,rfl,⟨_,SqL.of hfa⟩,fun z hz=>?_⟩;refine qx (K:=K) (a:=fa) (xs:=us) (fun j σ' H'=>∃(u0:Option V) (ys:List V),σ'=[u0,some (.ref ca)]/\zu H H'/\H' z=some (.lst ys)/\jt (fun a=>a≠z) H' ys ((ks.take j).filter (YL c)))
   ⟨_,[],rfl,ze hz,zc,.nil⟩ (fun j σ' H' _ ⟨_,_,_,y,_⟩=>SqL.of (y _ _ hfa)) ?_ ?_
  ·rintro j v σ' H1 hv ⟨u0,ys,rfl,s1,hz1,hy1⟩;obtain⟨k,a1,wa,hk1,rfl,_,ha1,t1⟩:=YK hL hv;have jl:j<ks.length:=(XY.mp hk1).1;have e1:(ks.take (j+1)).filter (YL c)=(ks.take j).filter (YL c)++if YL c k=true then [k] else []:=by
    rw[Xu,hk1,W3];congr 1;show Uj _ [k]=_;rw[Wv];split<;>rfl
   refine⟨_,rfl,_,rfl,zv c,k.map pD,.tup (SqT.of (s1 _ _ hca)) (.cons (.int _) (.cons (.int _) .nil)),.lst (SqL.of (s1 _ _ ha1)) (zcF (yL s1 t1)),rfl,ze8 _,(by show 1<=60;decide),_,rfl,?_⟩;have ei:(if false=true then !(k.map pD).any (fun z=>WX z (zv c)) else (k.map pD).any fun z=>WX z (zv c))=YL c k:=zlv k c;rw[ei];by_cases hh:YL c k=true
   ·rw[if_pos hh] at e1;refine yp hh ?_;have yl:ys.length<=16384:=by
     rw[jg hy1];refine X5 (W6 _ _) ?_;rw[XE];lia
    refine⟨_,rfl,ys,hz1,XF yl (by decide),_,ys++[.ref a1],rfl,fun b o e=>?_,zc,?_⟩
    ·rw[zh (zj e hz)];exact s1 _ _ e
    ·rw[e1];have nz:a1≠z:=zj ha1 hz;exact ZG (xx hz1 (fun _ h=>h) hy1) (.cons ⟨a1,wa,rfl,nz,by rw[zh nz];exact s1 _ _ ha1,JC hz1 (yL s1 t1)⟩ .nil)
   ·rw[if_neg hh,Xa] at e1;refine jM (Xy.mpr hh) ?_;exact⟨_,ys,rfl,s1,hz1,by rw[e1];exact hy1⟩
  rintro σ' H1 ⟨u0,ys,rfl,s1,hz1,hy1⟩;rw[jg hL,Xw] at hy1;refine⟨_,rfl,z,ys,_,_,g,rfl,hz1,hy1,fun k hk2=>hk k (XV.mp hk2).1,g64,fun d H2 hd hd2 s2=>?_⟩;exact q d H2 (s1.free hd) hd2 (s1.trans s2)
def jG (c:Nat×Nat):List Key:=[.inl ((c.1:Nat):Int),.inl ((c.2:Nat):Int)]
theorem zcW {c d:Nat×Nat}(h:jG c=jG d):c=d:=by
 unfold jG at h;obtain⟨a,b⟩:=c;obtain⟨x,y⟩:=d;simp only[List.cons.injEq,Sum.inl.injEq,and_true] at h;obtain⟨h1,h2⟩:=h;have e1:a=x:=by lia
 have e2:b=y:=by lia
 rw[e1,e2]
def jk (rs:List Str)(n:Int)(c:Nat×Nat):Int:=((Tally.T (zL rs) (fun S=>jE rs S&&decide (c∈S)) n.toNat:Nat):Int)
theorem zhE {rs:List Str}{n:Int}{c:Nat×Nat}(h:(jQ rs).isEmpty=false):jk rs n c=0:=by
 unfold jk;rw[Tally.zbY fun S hS=>?_]
 ·rfl
 ·rw[zaF fun c hc=>(Tally.jP hS).subset hc,h];rfl
theorem ziE (c:Nat×Nat)(q:List (Nat×Nat)):YL c (toL q)=decide (c∈q):=by
 unfold YL toL;rw[Uf,Wz,Wu,decide_eq_true_eq];constructor
 ·rintro⟨x,hx,h⟩;have h':toI x=toI c:=of_decide_eq_true h;have:x=c:=by
   unfold toI at h';obtain⟨a,b⟩:=x;obtain⟨d,e⟩:=c;simp only[Prod.mk.injEq] at h';have e1:a=d:=by lia
   have e2:b=e:=by lia
   rw[e1,e2]
  rw[<- this];exact hx
 ·intro h;exact⟨c,h,decide_eq_true rfl⟩
theorem zff (rs:List Str)(g:List (Nat×Nat))(c:Nat×Nat):Cnt.Je g.length ((Yd rs g).filter (YL c))=Tally.tl g fun S=>qR rs g S&&decide (c∈S):=by
 unfold Yd;rw[T6,Tally.zf2 g.length toL (fun k=>Y1 _),Rt];have e:(fun a=>(YL c∘toL) a&&Grow.fits (nearF rs) (jw rs) (Jw rs g) g a)=fun S=>qR rs g S&&decide (c∈S):=by
  funext S;show (YL c (toL S)&&qR rs g S)=_;rw[ziE,RZ]
 rw[e];exact Tally.ziu g _
theorem YQ {A B:List (List (Nat×Nat))}(h:A.Sublist B):A.flatten.Sublist B.flatten:=by
 induction h with
 | slnil=>exact List.Sublist.refl _
 | cons a _ ih=>rw[WM];exact List.Sublist.trans ih (Ri _ _)
 | cons_cons a _ ih=>rw[WM,WM];exact List.Sublist.append (List.Sublist.refl _) ih
theorem ziF {rs:List Str}{gs A:List (List (Nat×Nat))}(G:Parts.Good (clA rs) (qf rs) gs)(h:A.Sublist gs):(tls rs A).foldl Pour.Zc [1]=Tally.tl A.flatten (Tally.yg (qR rs) A) :=
 Tally.zhl (G.nd.sublist (YQ h)) (fun c hc=>yE G c ((YQ h).subset hc)) fun g hg=>zaE G (h.subset hg)
theorem zpn {rs:List Str}(R:Rows bd.cps.toList rs){gs A:List (List (Nat×Nat))}(G:Parts.Good (clA rs) (qf rs) gs)(h:A.Sublist gs):zhz (tls rs A):=by
 have n64:=YM G R;refine⟨fun xs hx=>?_,fun i=>?_⟩
 ·obtain⟨g,hg,rfl⟩:=XC.mp hx;have gl:g.length<=64:=X5 (Vx (VF (h.subset hg))) n64;rw[Tally.j3];exact⟨by lia,by lia,Yg gl⟩
 ·have h2:=(UG i A).trans h;have e:(tls rs A).take i=tls rs (A.take i):=by
   unfold tls;rw[Tn]
  have tl64:(A.take i).flatten.length<=64:=X5 (YQ h2).length_le n64;rw[e,ziF G h2,Tally.j3];exact⟨by lia,by lia,Yg tl64⟩
def zlR (rs:List Str)(z:Addr)(H:Hp)(v:V)(g:List (Nat×Nat)):Prop:=∃a ws ks,v=V.ref a/\a≠z/\H a=some (.lst ws)/\jt (fun b=>b≠z) H ws ks/\ks.Perm (Yd rs g)
def zbi (rs:List Str)(z:Addr)(H:Hp):List V->List (List (Nat×Nat))->Prop:=WV (zlR rs z H)
theorem J9 {rs:List Str}{z:Addr}{H H':Hp}(s:zu H H'){us:List V}{gs:List (List (Nat×Nat))}(hp:zbi rs z H us gs):zbi rs z H' us gs:=by
 induction hp with
 | nil=>exact .nil
 | cons q _ ih =>
  obtain⟨a,ws,ks,e,n,h,l,p⟩:=q;exact .cons ⟨a,ws,ks,e,n,s _ _ h,qc s l,p⟩ ih
theorem zgx {rs:List Str}{z:Addr}{H:Hp}{xs ys:List V}(hz:H z=some (.lst xs)){us:List V}{gs:List (List (Nat×Nat))}(hp:zbi rs z H us gs):zbi rs z (upd H z (.lst ys)) us gs:=by
 induction hp with
 | nil=>exact .nil
 | cons q _ ih =>
  obtain⟨a,ws,ks,e,n,h,l,p⟩:=q;exact .cons ⟨a,ws,ks,e,n,by rw[zh n];exact h,xx hz (fun _ h=>h) l,p⟩ ih
theorem zeh {rs:List Str}{z:Addr}{H:Hp}{us:List V}{gs:List (List (Nat×Nat))}{i:Nat}{v:V}(h:zbi rs z H us gs)(e:us[i]?=some v):∃g,gs[i]?=some g/\zlR rs z H v g:=zcf h e
theorem zhF {H:Hp}{z:Addr}{o:HO}{us:List V}{ks:List (List Int)}(hp:xo H us ks)(n:∀v∈us,v≠V.ref z):xo (upd H z o) us ks:=by
 induction hp with
 | nil=>exact .nil
 | cons q _ ih =>
  obtain⟨a,e,h⟩:=q;exact .cons ⟨a,e,by rw[zh fun y=>n _ XS (by rw[e,y])];exact h⟩ (ih fun v hv=>n v (XT _ hv))
theorem zcX {H:Hp}:∀{us:List V} {xss:List (List Int)} (i:Nat),xo H us xss->xo H (us.take i) (xss.take i)
 | _,_,0,_=>.nil
 | _,_,_+1,.nil=>.nil
 | _,_,i+1,.cons h t=>.cons h (zcX i t)
theorem zcY {H:Hp}:∀{us:List V} {xss:List (List Int)} (i:Nat),xo H us xss->xo H (us.drop i) (xss.drop i)
 | _,_,0,h=>h
 | _,_,_+1,.nil=>.nil
 | _,_,i+1,.cons _ t=>zcY i t
theorem zjQ {H:Hp}{us:List V}{xss:List (List Int)}{us':List V}{xss':List (List Int)}(h:xo H us xss)(k:xo H us' xss'):xo H (us++us') (xss++xss'):=zaW h k
theorem ziG (kvs:List (List Key×V))(k:List Key)(v:V):(putK kvs k v).length<=kvs.length+1:=by
 unfold putK;split
 ·rw[Y1];exact VU _
 ·rw[XU];exact XW _
theorem zlS (l:List (List Key×V)):(Yn l).length<=l.length:=by
 have:∀(l acc:List (List Key×V)),(l.foldl (fun acc kv=>putK acc kv.1 kv.2) acc).length<=acc.length+l.length:=fun l=>by
  induction l with
  | nil=>exact fun acc=>XW _
  | cons x r ih =>
   intro acc;rw[VX,Xs];have h1:=ih (putK acc x.1 x.2);have h2:=ziG acc x.1 x.2;lia
 have:=this l [];rw[UL,V2] at this;exact this
theorem zpo (xs:List V){i:Nat}(h:i<=xs.length):zad xs none (some ((i:Nat):Int))=xs.take i:=by
 unfold zad;rw[HT.zbP,O4 h];show (xs.drop 0).take (i-0)=_;rw[List.drop_zero,Nat.sub_zero]
def zlT:Sp:=fun vs H Q _=>∃(p l:Addr) (rs:List Str) (n:Int),vs=[.ref p]/\qb H p l rs n/\Rows bd.cps.toList rs/\Small rs/\0<=n /\
 ∀(d:Addr) (kvs:List (List Key×V)) (H':Hp),H d=none->H' d=some (.dT kvs)->(∀c∈zL rs,yq kvs (jG c)=some (V.int (jk rs n c)))->zu H H'->Q (.ref d) H'
theorem zK:zF ["board","pieces","found","counts","rest","at_far","told","place","part","others","cell","near"] ["board"] (zg qV):=⟨rfl,rfl,rfl,by decide +kernel,rfl,by decide +kernel,by decide +kernel⟩
theorem zaL (T:Txt mg)(Z:Prog K mg)(D:zk K mg "counts_by_cell" qV ["board"] f fd):qk P w K mg base CX0 7 f fd ["board"] zlT:=by
 obtain⟨zgs,zee,zO⟩:=Z.around;obtain⟨zbh,QW,zx⟩:=Z.sign_at;obtain⟨QX,YO,zE⟩:=Z.cells_of;obtain⟨zgv,zeg,j7⟩:=Z.closed;obtain⟨zaI,Qx,zC⟩:=Z.open_cells;obtain⟨zbw,zaJ,qd⟩:=Z.number_at;obtain⟨zfb,zdq,jj⟩:=Z.numbers_of;obtain⟨zhA,zgt,j8⟩:=Z.needs_at;obtain⟨zjN,zhB,yM⟩:=Z.may_fit;obtain⟨zcU,zbG,jc⟩:=Z.part_layings;obtain⟨zjO,zhC,ju⟩:=Z.counted;obtain⟨znr,zmn,zaM⟩:=Z.counted_at;obtain⟨Yq,ZJ,zR⟩:=Z.closed_around;obtain⟨zlK,zjP,ZF⟩:=Z.joined;obtain⟨znl,zlL,zaK⟩:=Z.parts;obtain⟨zqA,zpm,zgw⟩:=Z.far;obtain⟨zfe,zds,yY⟩:=Z.bare_wrong;obtain⟨zlI,zjM,YN⟩:=Z.poured;obtain⟨zfc,zdr,jF⟩:=Z.all_poured;obtain⟨znq,zlP,Yj⟩:=Z.dealt;refine D.F.ok zK (fun vs H Q E h=>?_) (fun cdv A outer s H vs Q E hr h=>?_)
 ·obtain⟨p,l,rs,n,rfl,_⟩:=h;rfl
 ·obtain⟨p,l,rs,n,rfl,b,R,sm,n0,q⟩:=h;have h64:(zL rs).length<=64:=qW R;refine⟨_,(zd (zq (i:=1) zK.nd rfl (XM rfl) (pc0 (zgf T zaK zO zx zE zC zR ZF) hr zaK (za (pvS 0) zb)))
   (zd (ZX (i:=2) zK.nd rfl rfl (N:=["part","board"]) (src:=[none,some 0]) (zU.free (O:=(zg qV).names) (XN:=["board","pieces","found","counts","rest","at_far","told","place","part","others","cell","near"]) rfl rfl ⟨_,rfl⟩ rfl rfl (by decide +kernel) (by decide +kernel) (by decide +kernel) rfl (by decide +kernel)) rfl (zM (pvS 1)) (fun _ _ _ _ _=>(zm (i:=0) (by show WW (["part","board"]:List Str);decide +kernel) rfl (XM rfl))) (fun _ _ _ _ _=>qN) (fun _ _ _ _ _=>(pc0 (Yp T jc zO zx zE zC qd jj j8 yM) hr jc (za (pvS 1) (za (pvS 0) zb)))))
   (zd (qX (zH (yF hr.units) (pc0 (Qw T yY zO zx zE zR zC qd) hr yY (za (pvS 0) zb)) (qa zb) (zQ _)) (zf (zG (jf (Jd hr.units hr.hd) (by rfl) T.ze4 Ua (za (qh (N:=["cell"]) (src:=[none]) (zU.plain rfl (by decide +kernel) (by decide +kernel) (by decide +kernel) rfl (by decide)) rfl (zM (pc0 (zba T j7 zE zx) hr j7 (za (pvS 0) zb))) (fun _ _ _ _ _=>(zm (i:=0) (by show WW (["cell"]:List Str);decide +kernel) rfl (XM rfl))) (fun _ _ _ _ _=>qN) (fun _ _ _ _ _=>(jU (za (pvS 0) (za zo zb))))) zb)))) zZ)
   (zd (ZX (i:=3) zK.nd rfl rfl (N:=["part","some"]) (src:=[none,none]) (zU.plain rfl (by decide +kernel) (by decide +kernel) (by decide +kernel) rfl (by decide)) rfl (zoI (by rfl) T.zqu (za (pvS 1) (za (pvS 2) zb))) (fun _ _ _ _ _=>(zeG (n:=2) (K:=K) (by rfl) rfl (zT (zm (i:=0) (by show WW (["part","some"]:List Str);decide +kernel) rfl (XM rfl)) (zT (zm (i:=1) (by show WW (["part","some"]:List Str);decide +kernel) rfl (XM rfl)) yc)))) (fun _ _ _ _ _=>qN) (fun _ _ _ _ _=>(pc0 (QV T ju) hr ju (za (pvS 1) (za (zp (zct (K:=K) (by rfl)) (by rfl) T.ji W0 (za (pvS 0) zb)) zb)))))
   (zd (zq (i:=4) zK.nd rfl (XM rfl) (pc0 (zlo T zgw zO zx zE j7 zC) hr zgw (za (pvS 0) zb)))
   (zd (zq (i:=5) zK.nd rfl (UV rfl) (pc0 (zcV T Z Yj) hr Yj (za (pc0 (Zg T Z jF) hr jF (za (pvS 3) zb)) (za (zz xM (zp zB (by rfl) T.ji W0 (za (pvS 4) zb)) zo) (za (zz xM (qi jz (pvS 0) zo (fun _ _=>rfl)) zo) zb)))))
   (zd (zq (i:=6) zK.nd rfl (XM rfl) (jf (Jd hr.units hr.hd) (by rfl) T.ze4 Ua (za (qh (N:=["cell","at_far"]) (src:=[none,some 5]) (zU.free (O:=(zg qV).names) (XN:=["board","pieces","found","counts","rest","at_far","told","place","part","others","cell","near"]) rfl rfl ⟨_,rfl⟩ rfl rfl (by decide +kernel) (by decide +kernel) (by decide +kernel) rfl (by decide +kernel)) rfl (zM (pvS 4)) (fun _ _ _ _ _=>(zm (i:=0) (by show WW (["cell","at_far"]:List Str);decide +kernel) rfl (XM rfl))) (fun _ _ _ _ _=>qN) (fun _ _ _ _ _=>(jU (za (pvS 0) (za (pvS 1) zb))))) zb)))
   (zd (qj Xe rfl (Zk (by rfl) T.j6 (za (pvS 1) zb)) (JE rfl (zT (zm (i:=7) zK.nd rfl (XM rfl)) (zT (zm (i:=8) zK.nd rfl (XM rfl)) yc))) (zd (zq (i:=9) zK.nd rfl (XM rfl) (pc0 (Zg T Z jF) hr jF (za (zz ZT (zac zbR (pvS 3) zeA (zab (pvS 7))) (zac zbR (pvS 3) (zab (zz z4 (pvS 7) zo)) zeA)) zb)))
   (zf (qj Xe rfl (zM (pvS 8)) (zm (i:=10) zK.nd rfl (XM rfl)) (zd (zq (i:=11) zK.nd rfl (XM rfl) (pc0 (zed T YN) hr YN (za (pvS 9) (za (pc0 (zdv T zaM ju) hr zaM (za (qi qO (pvS 2) (pvS 7) (fun _ _=>rfl)) (za (zp zB (by rfl) T.ji W0 (za (pvS 8) zb)) (za (pvS 10) zb)))) zb))))
   (zf (zmK (u1 hr.units) (pvS 6) (pvS 10) (pc0 (zcV T Z Yj) hr Yj (za (pvS 11) (za (zp zB (by rfl) T.ji W0 (za (pvS 4) zb)) (za (qi jz (pvS 0) zo (fun _ _=>rfl)) zb)))) rfl)))))))
   (zf (zG (pvS 6))))))))))),?_⟩
  refine⟨_,rfl,p,l,rs,n,rfl,b,R,fun d1 w1 gs H1 hd1 zlQ hG _ _ G up s1=>?_⟩;have g64:=YM G R;have gl64:gs.length<=64:=X5 (Parts.YG G.ne) g64;refine⟨_,rfl,d1,rfl,⟨_,SqL.of zlQ⟩,fun z hz=>?_⟩;refine qx (K:=K) (a:=d1) (xs:=w1) (fun j σ' H'=>∃(u0:Option V) (ys:List V),σ'=[u0,some (.ref p)]/\zu H1 H'/\H' z=some (.lst ys)/\zbi rs z H' ys (gs.take j))
   ⟨_,[],rfl,ze hz,zc,.nil⟩ (fun j σ' H' _ ⟨_,_,_,y,_⟩=>SqL.of (y _ _ zlQ)) ?_ ?_
  ·rintro j v σ' H2 hv ⟨u0,ys,rfl,s2,hz2,hy2⟩;obtain⟨g,hg,ga,ug,rfl,hga,hcg⟩:=yI.get (hG.mono s2) hv;have gm:=X0 hg;have il:=(XY.mp hg).1;unfold Jf;refine QT ?_;refine⟨_,rfl,_,rfl,p,l,ga,rs,n,ug,g,rfl,(b.mono s1).mono s2,R,hga,hcg,yj (G.srt g gm),sm gs G g gm,fun e we ks H3 he he3 hL _ hpm _ s3=>?_⟩;have ez:e≠z:=fun y=>by
    subst y;rw[hz2] at he;cases he
   have nz:∀a,(H2 a=none/\a≠e)->a≠z:=fun a h y=>by
    subst y;rw[hz2] at h;cases h.1
   have t1:gs.take (j+1)=gs.take j++[g]:=by
    rw[Xu,hg];rfl
   refine⟨_,s3 _ _ hz2,?_,_,ys++[.ref e],rfl,fun b' o e'=>?_,zc,?_⟩
   ·rw[show ys.length=(gs.take j).length from Paired.length hy2,XE];exact XF (show _<=64 by lia) (by decide)
   ·rw[zh (zj e' hz)];exact s3 _ _ (s2 _ _ e')
   ·rw[t1];exact Paired.snoc (zgx (s3 _ _ hz2) (J9 s3 hy2)) ⟨e,we,ks,rfl,ez,by rw[zh ez];exact he3,xx (s3 _ _ hz2) (fun _ h=>h) (QS nz hL),hpm⟩
  rintro σ' H2 ⟨u0,ys,rfl,s2,hz2,hF2⟩;rw[hG.length,Xw] at hF2;have s02:=s1.trans s2;have hG2:=hG.mono s2;have hd12:=s2 _ _ zlQ;refine⟨_,rfl,p,l,rs,n,rfl,b.mono s02,R,fun d w2 H3 hd hd3 hc3 s3=>⟨Z1,fun e he=>?_⟩⟩;have s4:=ze (o:=.lst []) he;refine⟨.list ((jQ rs).map zv),.list [],.lst (SqL.of (s4 _ _ hd3)) (zD.rdv (N:=fun _=>True) (Cel.rdn (Cel.mono s4 hc3))),.lst (SqL.of zc) .nil,ze6 _ [],_,rfl,?_⟩;have ee:(if true=true then !PyData.eqv (.list ((jQ rs).map zv)) (.list []) else WX (.list ((jQ rs).map zv)) (.list []))=!(jQ rs).isEmpty:=by
   show (!PyData.eqv _ _)=_;rw[eq_nil]
  rw[ee];have s24:=s3.trans s4;have s04:=s02.trans s24;have b4:=b.mono s04;have hd14:=s24 _ _ hd12;have hz4:=s24 _ _ hz2;have hG4:=hG2.mono s24;have hF4:=J9 s24 hF2;generalize upd H3 e (.lst [])=H4 at *
  cases hb:(jQ rs).isEmpty with
  | false =>
   refine Qm ?_;refine⟨_,rfl,p,l,rs,n,rfl,b4,R,fun d5 w5 H5 hd5 hd5' hc5 s5=>⟨d5,rfl,⟨_,SqL.of hd5'⟩,fun y hy=>?_⟩⟩;have hcs:Cel H5 w5 (zL rs):=hc5;refine qx (K:=K) (a:=d5) (xs:=w5) (fun i σ H'=>(∃u0,σ=[u0])/\zu H5 H'/\∃ys,H' y=some (.lst ys)/\jY H' ys (((zL rs).take i).map fun c=>(jG c,V.int 0))) ⟨⟨_,rfl⟩,ze hy,[],zc,.nil⟩ (fun i σ H' _ ⟨_,s6,_⟩=>SqL.of (s6 _ _ hd5')) ?_ ?_
   ·rintro i x σ H6 hx ⟨⟨u0,rfl⟩,s6,ys,hy6,hp6⟩;obtain⟨c,hci,ca,rfl,hca⟩:=Cel.get (Cel.mono s6 hcs) hx;refine J1 ⟨_,rfl,YD,fun p hp=>?_⟩;have s7:=ze (o:=.tup [.ref ca,.int 0]) hp;have hlen:ys.length<=64:=by
     rw[hp6.length,Y1,XE];lia
    refine⟨ys,s7 _ _ hy6,XF hlen (by decide),⟨_,rfl⟩,fun b' o e'=>?_,ys++[.ref p],zc,?_⟩
    ·rw[zh (zj e' hy)];exact s7 _ _ (s6 _ _ e')
    ·rw[Xu,hci,Xj];exact jY.into y _ (s7 _ _ hy6) (jY.snoc (hp6.mono s7) ⟨p,ca,rfl,zc,s7 _ _ hca⟩)
   ·rintro σ H6 ⟨_,s6,ys,hy6,hp6⟩;rw[hcs.length,Xw] at hp6;refine⟨y,ys,_,rfl,hy6,hp6,fun dd hdd=>?_⟩;refine q dd _ _ ((s04.trans (s5.trans s6)).free hdd) zc (fun c hc=>?_) ((s04.trans (s5.trans s6)).trans (ze hdd));rw[zhE hb];have:=zaY (v:=V.int 0) (k:=jG c) ((zL rs).map jG) [] (.inl (XC.mpr ⟨c,hc,rfl⟩));rw[WR] at this;exact this
  | true =>
   refine ZU ?_;refine⟨_,rfl,_,rfl,d1,z,rfl,⟨_,SqL.of hd14⟩,⟨_,SqL.of hz4⟩,fun t0 ht0=>?_⟩;refine zkx (K:=K) (l1:=d1) (l2:=z) (xs:=w1) (ys:=ys) (fun j σ' H'=>∃(u0 u1:Option V) (cs:List V),σ'=[u0,u1]/\zu H4 H'/\H' t0=some (.lst cs)/\(∀v∈cs,v≠V.ref t0)/\xo H' cs (tls rs (gs.take j))) (hG.length.trans (Paired.length hF2).symm)
    ⟨_,_,[],rfl,ze ht0,zc,(fun _ h=>nomatch h),.nil⟩ (fun j σ' H' _ ⟨_,_,_,_,y,_⟩=>⟨SqL.of (y _ _ hd14),SqL.of (y _ _ hz4)⟩) ?_ ?_
   ·rintro j v v' tt σ' H5 hv hv' htt ⟨u0,u1,cs,rfl,s5,ht5,nt,hI5⟩;obtain⟨g,hg,ga,ug,rfl,hga,hcg⟩:=yI.get (hG4.mono s5) hv;obtain⟨g',hg',fa,wf,ks,rfl,fz,hfa,hLf,hpf⟩:=zeh (J9 s5 hF4) hv';rw[hg] at hg';cases hg';have gm:=X0 hg;have il:=(XY.mp hg).1;have z6:=ze (o:=.tup [V.ref ga,V.ref fa]) htt;refine⟨tt,_,rfl,SqT.of zc,rfl,_,_,rfl,_,_,rfl,rfl,?_⟩;have ht6:=z6 _ _ ht5;have hga6:=z6 _ _ hga;have hfa6:=z6 _ _ hfa;have hLf6:=qc z6 hLf;have s46:=s5.trans z6;have hI6:=xy z6 hI5;generalize upd H5 tt (.tup [V.ref ga,V.ref fa])=H6 at *
    refine QT ?_;refine⟨_,rfl,_,rfl,ga,_,rfl,.inl (SqL.of hga6),fa,wf,ks,_,ug.length,rfl,hfa6,hLf6,fun k hk=>?_,?_,fun e7 H7 he7 zqB s7=>?_⟩
    ·rw[hcg.length];exact zcM (hpf.mem_iff.mp hk)
    ·rw[hcg.length];have:=sm gs G g gm;lia
    ·rw[hcg.length,Cnt.za7 hpf,zeb] at zqB;have et:e7≠t0:=fun y=>by
      subst y;rw[ht6] at he7;cases he7
     have t1:tls rs (gs.take (j+1))=tls rs (gs.take j)++[Tally.tl g (qR rs g)]:=by
      unfold tls;rw[Xu,hg,Xj];rfl
     refine⟨_,s7 _ _ ht6,?_,_,_,cs++[.ref e7],rfl,fun b' o e'=>?_,zc,fun v hv=>?_,?_⟩
     ·rw[Ql hI5];unfold tls;rw[Y1,XE];exact XF (show _<=64 by lia) (by decide)
     ·rw[zh (zj e' ht0)];exact s7 _ _ (s46 _ _ e')
     ·rcases XG.mp hv with hv | hv
      ·exact nt v hv
      ·have:v=V.ref e7:=by simpa using hv
       rw[this];intro y;cases y;exact et rfl
     ·rw[t1];exact Paired.snoc (zhF (xy s7 hI6) nt) ⟨e7,rfl,by rw[zh et];exact zqB⟩
   rintro σ' H5 ⟨u0,u1,cs,rfl,s5,ht5,_,hI5⟩;rw[hG.length,Xw] at hI5;have s05:=s04.trans s5;refine⟨_,rfl,p,l,rs,n,rfl,b.mono s05,R,fun d5 w5 H6 hd5 zqC hc5 s6=>?_⟩;have wl:=hc5.length;have f64:(yi rs).length<=64:=X5 (W6 _ _) h64;refine⟨_,rfl,t0,cs,tls rs gs,rfl,s6 _ _ ht5,xy s6 hI5,zlH R G,fun d7 H7 hd7 zqD s7=>?_⟩;rw[show (tls rs gs).foldl Pour.Zc [1]=Tally.tl gs.flatten (Tally.yg (qR rs) gs) from zgr G] at zqD;have b7:=((b.mono s05).mono s6).mono s7;refine⟨_,rfl,d5,_,rfl,.inl (SqL.of (s7 _ _ zqC)),_,_,rfl,rfl,_,rfl,p,_,1,_,rfl,rfl,SqT.of b7.tp,rfl,_,_,rfl,rfl,d7,_,_,_,rfl,zqD,Yg g64,by rw[Tally.j3];lia,by lia,fun H8 s8=>?_⟩;have s68:=s7.trans s8;have s58:=s6.trans s68;have s08:=s05.trans s58;have hd58:=s68 _ _ zqC;have hc8:=hc5.mono s68;have farv:∀c∈yi rs,dlV (Tally.tl gs.flatten (Tally.yg (qR rs) gs)) (((w5.length:Nat):Int)-1) (n-1)=jk rs n c:=fun c hc=>by
    have pos:=Ub hc;have ci:=zph G hc n.toNat;rw[hb,if_pos rfl,Vs n0] at ci;unfold jk;rw[<- ci,wl,show (((yi rs).length:Nat):Int)-1=(((yi rs).length-1:Nat):Int) by lia,zfd]
   generalize dlV (Tally.tl gs.flatten (Tally.yg (qR rs) gs)) (((w5.length:Nat):Int)-1) (n-1)=val at *
   refine⟨_,rfl,d5,rfl,⟨_,SqL.of hd58⟩,fun y hy=>?_⟩;refine qx (K:=K) (a:=d5) (xs:=w5) (fun i σ H'=>(∃u0,σ=[u0,some (.int val)])/\zu H8 H'/\∃ys,H' y=some (.lst ys)/\jY H' ys (((yi rs).take i).map fun c=>(jG c,V.int val))) ⟨⟨_,rfl⟩,ze hy,[],zc,.nil⟩ (fun i σ H' _ ⟨_,s6,_⟩=>SqL.of (s6 _ _ hd58)) ?_ ?_
   ·rintro i x σ H6' hx ⟨⟨u0,rfl⟩,s6',ys',hy6,hp6⟩;obtain⟨c,hci,ca,rfl,hca⟩:=Cel.get (Cel.mono s6' hc8) hx;refine J1 ⟨_,rfl,_,rfl,YD,fun p hp=>?_⟩;have s7':=ze (o:=.tup [.ref ca,.int val]) hp;have hlen:ys'.length<=64:=by
     rw[hp6.length,Y1,XE];lia
    refine⟨ys',s7' _ _ hy6,XF hlen (by decide),⟨_,rfl⟩,fun b' o e'=>?_,ys'++[.ref p],zc,?_⟩
    ·rw[zh (zj e' hy)];exact s7' _ _ (s6' _ _ e')
    ·rw[Xu,hci,Xj];exact jY.into y _ (s7' _ _ hy6) (jY.snoc (hp6.mono s7') ⟨p,ca,rfl,zc,s7' _ _ hca⟩)
   rintro σ H9 ⟨_,s9,ys',hy9,hp9⟩;rw[hc8.length,Xw] at hp9;refine⟨y,ys',_,rfl,hy9,hp9,fun dd hdd=>?_⟩;have z10:=ze (o:=.dT (Yn ((yi rs).map fun c=>(jG c,V.int val)))) hdd;have hdd10:upd H9 dd (.dT (Yn ((yi rs).map fun c=>(jG c,V.int val)))) dd=some (.dT (Yn ((yi rs).map fun c=>(jG c,V.int val)))):=zc;have kl0:(Yn ((yi rs).map fun c=>(jG c,V.int val))).length<=64:=by
    have:=zlS ((yi rs).map fun c=>(jG c,V.int val));rw[Y1] at this;lia
   have kv0:∀c∈yi rs,yq (Yn ((yi rs).map fun c=>(jG c,V.int val))) (jG c)=some (V.int (jk rs n c)):=fun c hc=>by
    have:=zaY (v:=V.int val) (k:=jG c) ((yi rs).map jG) [] (.inl (XC.mpr ⟨c,hc,rfl⟩));rw[WR] at this;rw[<- farv c hc];exact this
   generalize Yn ((yi rs).map fun c=>(jG c,V.int val))=kvs0 at *
   generalize upd H9 dd (.dT kvs0)=H10 at *
   have s49:=s5.trans (s58.trans s9);have s09:=s08.trans s9;have ddn:H dd=none:=s09.free hdd;have hd19:=s49 _ _ hd14;have hz9:=s49 _ _ hz4;have hG9:=hG4.mono s49;have hF9:=J9 s49 hF4;have ht9:=(s58.trans s9) _ _ ht5;have hI9:=xy (s58.trans s9) hI5;have hd59:=s9 _ _ hd58;have b9:=b.mono s09;refine⟨_,rfl,d1,rfl,⟨_,SqL.of (z10 _ _ hd19)⟩,?_⟩;refine Zl (K:=K) (l:=d1) (xs:=w1) (fun i σ H'=>∃(kvs:List (List Key×V)) (v7 v8 v9 v10 v11:Option V),σ=[some (.ref p),some (.ref d1),some (.ref z),some (.ref t0),some (.ref d5),some (.int val),some (.ref dd),v7,v8,v9,v10,v11]/\zu H9 H'/\H' dd=some (.dT kvs)/\kvs.length<=64+(gs.take i).flatten.length/\(∀c,c∈yi rs\/c∈(gs.take i).flatten->yq kvs (jG c)=some (V.int (jk rs n c))))
    ⟨kvs0,_,_,_,_,_,rfl,z10,hdd10,by simpa using kl0,fun c hc=>hc.elim (kv0 c) (fun h=>by simp at h)⟩ (fun i σ H' _ ⟨_,_,_,_,_,_,_,y,_⟩=>SqL.of (y _ _ hd19)) ?_ ?_
   ·rintro i v tt σ H11 hv htt ⟨kvs,v7,v8,v9,v10,v11,rfl,s11,hdd11,kl,kv⟩;obtain⟨g,hg,ga,ug,rfl,hga,hcg⟩:=yI.get (hG9.mono s11) hv;have gm:=X0 hg;have il:=(XY.mp hg).1;have g14:=sm gs G g gm;have egs:gs=gs.take i++g::gs.drop (i+1):=by
     have e1:=(Wx i gs).symm;rw[WB il] at e1;have e2:gs[i]=g:=by
      rw[X7 il] at hg;exact Option.some.inj hg
     rwa [e2] at e1
    have tk:(gs.take (i+1)).flatten=(gs.take i).flatten++g:=by
     rw[Xu,hg,Wt];congr 1;simp
    have AB:(gs.take i++gs.drop (i+1)).Sublist gs:=by
     conv=>rhs;rw[egs]
     exact List.Sublist.append (List.Sublist.refl _) (List.sublist_cons_self _ _)
    have tdd:tt≠dd:=fun y=>by
     subst y;rw[hdd11] at htt;cases htt
    have z12:=ze (o:=.tup [.int (i:Nat),V.ref ga]) htt;refine⟨tt,_,rfl,SqT.of zc,rfl,_,_,rfl,_,_,rfl,rfl,?_⟩;have s12:=s11.trans z12;have hdd12:=z12 _ _ hdd11;generalize upd H11 tt (.tup [.int (i:Nat),V.ref ga])=H12 at *
    have cl:=Ql hI9;have tlen:(tls rs gs).length=gs.length:=Y1 _;refine⟨_,rfl,_,rfl,_,rfl,t0,cs,rfl,SqL.of (s12 _ _ ht9),fun c1 hc1=>?_⟩;have z13:=ze (o:=.lst (zad cs none (some ((i:Nat):Int)))) hc1;refine⟨_,rfl,_,rfl,_,_,rfl,rfl,_,rfl,t0,cs,rfl,SqL.of (z13 _ _ (s12 _ _ ht9)),fun c2 hc2=>?_⟩;have z14:=ze (o:=.lst (zad cs (some (((i:Nat):Int)+1)) none)) hc2;rw[zpo cs (show i<=cs.length by lia),zgl cs i (by lia)] at *
    refine⟨c1,c2,_,_,rfl,rfl,z14 _ _ zc,zc,?_,fun c3 hc3=>?_⟩
    ·rw[XE,VG];exact X5 (show _<=128 by lia) (by decide)
    have z15:=ze (o:=.lst (cs.take i++cs.drop (i+1))) hc3;have s1215:=z13.trans (z14.trans z15);have s15:=s12.trans s1215;have hdd15:=s1215 _ _ hdd12;have hI15:=xy s15 hI9;have et:tls rs (gs.take i++gs.drop (i+1))=(tls rs gs).take i++(tls rs gs).drop (i+1):=by
     unfold tls;rw[Xj,Tn,P9]
    have hc315:upd (upd (upd H12 c1 (.lst (cs.take i))) c2 (.lst (cs.drop (i+1)))) c3 (.lst (cs.take i++cs.drop (i+1))) c3=some (.lst (cs.take i++cs.drop (i+1))):=zc;generalize upd (upd (upd H12 c1 (.lst (cs.take i))) c2 (.lst (cs.drop (i+1)))) c3 (.lst (cs.take i++cs.drop (i+1)))=H15 at *
    refine⟨c3,_,tls rs (gs.take i++gs.drop (i+1)),rfl,hc315,by rw[et];exact zjQ (zcX i hI15) (zcY (i+1) hI15),zpn R G AB,fun oa H16 hoa znZ s16=>?_⟩;rw[ziF G AB] at znZ;have s916:=s15.trans s16;have hdd16:=s16 _ _ hdd15;have oadd:oa≠dd:=fun y=>by
     subst y;rw[hdd15] at hoa;cases hoa
    have fl64:(gs.take i++gs.drop (i+1)).flatten.length<=64:=X5 (YQ AB).length_le g64;have hga9:H9 ga=some (.lst ug):=by
     obtain⟨g',hg',ga',ug',e',h1',_⟩:=yI.get hG9 hv;cases e';have:=s11 _ _ h1';rw[hga] at this;cases this;exact h1'
    have hcg9:Cel H9 ug g:=by
     obtain⟨g',hg',ga',ug',e',h1',h2'⟩:=yI.get hG9 hv;cases e';rw[hg] at hg';cases hg';rw[hga9] at h1';cases h1';exact h2'
    have zl:i<ys.length:=by
     rw[show ys.length=gs.length from Paired.length hF2];exact il
    obtain⟨g2,hg2,fa,wf,ks,efa,fz,hfa,hLf,hpf⟩:=zeh hF9 (X7 zl);rw[hg] at hg2;cases hg2;refine⟨_,rfl,ga,rfl,⟨_,SqL.of (s916 _ _ hga9)⟩,?_⟩;refine jS (K:=K) (a:=ga) (xs:=ug) (fun j σ H'=>∃(kvs:List (List Key×V)) (v10 v11:Option V),σ=[some (.ref p),some (.ref d1),some (.ref z),some (.ref t0),some (.ref d5),some (.int val),some (.ref dd),some (.int (i:Nat)),some (.ref ga),some (.ref oa),v10,v11]/\zu H9 H'/\H' oa=some (.lst (iL (Tally.tl (gs.take i++gs.drop (i+1)).flatten (Tally.yg (qR rs) (gs.take i++gs.drop (i+1))))))/\H' dd=some (.dT kvs)/\kvs.length<=64+(gs.take i).flatten.length+j/\(∀c,c∈yi rs\/c∈(gs.take i).flatten\/c∈g.take j->yq kvs (jG c)=some (V.int (jk rs n c))))
     ⟨kvs,_,_,rfl,s916,znZ,hdd16,by lia,fun c hc=>kv c (hc.elim .inl fun h=>h.elim .inr fun h=>by simp at h)⟩ (fun j σ H' _ ⟨_,_,_,_,y,_⟩=>SqL.of (y _ _ hga9)) ?_ ?_
    ·rintro j x σ H17 hx ⟨kvs',w10,w11,rfl,s17,hoa17,hdd17,kl17,kv17⟩;obtain⟨c,hc,ca,rfl,hca⟩:=Cel.get (hcg9.mono s17) hx;have cm:=X0 hc;have jl:=(XY.mp hc).1;have Gi:Parts.Good (clA rs) (qf rs) (gs.take i++g::gs.drop (i+1)):=by
      rw[<- egs];exact G
     have ap:=znk Gi cm n.toNat;rw[hb,if_pos rfl,Vs n0] at ap;refine⟨_,rfl,_,rfl,_,rfl,z,_,_,_,rfl,rfl,SqL.of (s17 _ _ hz9),jN (by lia) (by rw[WY];exact X7 zl),_,rfl,ga,_,rfl,.inl (SqL.of (s17 _ _ hga9)),_,rfl,?_⟩;rw[efa];refine⟨fa,ca,wf,ks,_,ug.length,c,rfl,s17 _ _ hfa,qc s17 hLf,fun k hk=>?_,?_,?_,hca,fun ea H18 hea zn0 s18=>?_⟩
     ·rw[hcg9.length];exact zcM (hpf.mem_iff.mp hk)
     ·rw[hcg9.length];lia
     ·rw[hpf.length_eq];exact zjJ g14
     rw[hcg9.length,Cnt.za7 (hpf.filter _),zff] at zn0;have gl64:g.length<=64:=by lia
     refine⟨oa,ea,_,_,rfl,SqL.of (s18 _ _ hoa17),SqL.of zn0,?_,?_,?_,?_,Yg fl64,Yg gl64,fun na H19 hna zqE s19=>?_⟩
     ·rw[Tally.j3];lia
     ·rw[Tally.j3];lia
     ·rw[Tally.j3];lia
     ·rw[Tally.j3];lia
     have s1719:=s18.trans s19;have s919:=s17.trans s1719;have t64:(gs.take i).flatten.length<=64:=X5 (YQ (UG i gs)).length_le g64;have ab64:((gs.take i++gs.drop (i+1)).flatten++g).length<=64:=by
      rw[<- (zfa _ _ _).length_eq,<- egs];exact g64
     have epi:=ziD Gi cm;refine⟨_,rfl,_,rfl,d5,_,rfl,.inl (SqL.of (s919 _ _ hd59)),_,rfl,p,_,1,_,rfl,rfl,SqT.of (b9.mono s919).tp,rfl,na,_,_,_,rfl,zqE,by rw[epi];exact Yg ab64,by rw[epi,Tally.j3];lia,by lia,fun H20 s20=>?_⟩;have s1720:=s1719.trans s20;have hdd20:=s1720 _ _ hdd17;have ev:dlV (Pour.Zc (Tally.tl (gs.take i++gs.drop (i+1)).flatten (Tally.yg (qR rs) (gs.take i++gs.drop (i+1)))) (Tally.tl g fun S=>qR rs g S&&decide (c∈S))) (w5.length:Nat) n=jk rs n c:=by
      unfold jk;rw[zfd,wl,ap]
     rw[ev];refine⟨_,rfl,_,rfl,dd,_,rfl,zku.t (k:=jG c) hdd20 (s1720 _ _ hca) (XF (show kvs'.length<=200 by lia) (by decide)),?_⟩;refine⟨putK kvs' (jG c) (V.int (jk rs n c)),_,_,rfl,fun b' o e'=>?_,?_,zc,?_,fun c' hc'=>?_⟩
     ·rw[zh (zj e' hdd)];exact s1720 _ _ (s17 _ _ e')
     ·rw[zh oadd];exact s1720 _ _ hoa17
     ·have:=ziG kvs' (jG c) (V.int (jk rs n c));lia
     ·rw[Yy];by_cases ec:jG c'=jG c
      ·rw[if_pos ec,zcW ec]
      ·rw[if_neg ec];refine kv17 c' (hc'.elim .inl fun h=>h.elim (fun h=>.inr (.inl h)) fun h=>?_);rw[Xu,hc] at h;rcases XG.mp h with h | h
       ·exact .inr (.inr h)
       ·have:c'=c:=by simpa using h
        exact absurd (by rw[this]) ec
    rintro σ H17 ⟨kvs',w10,w11,rfl,s17,hoa17,hdd17,kl17,kv17⟩;have ul:ug.length=g.length:=hcg9.length;refine⟨kvs',_,_,_,_,_,rfl,s17,hdd17,?_,fun c hc=>?_⟩
    ·rw[tk,XU];lia
    ·rw[tk] at hc;rw[ul,Xw] at kv17;exact kv17 c (hc.elim .inl fun h=>(XG.mp h).elim (fun h=>.inr (.inl h)) fun h=>.inr (.inr h))
   rintro σ H11 ⟨kvs,v7,v8,v9,v10,v11,rfl,s11,hdd11,kl,kv⟩;rw[hG.length,Xw] at kv;refine⟨_,rfl,q dd kvs H11 ddn hdd11 (fun c hc=>kv c ?_) (s09.trans s11)⟩;by_cases hm:c∈gs.flatten
   ·exact .inr hm
   ·exact .inl ((zaH G).mpr ⟨hc,hm⟩)
def pV (xs:List Nat):List V:=xs.map fun x=>V.int (x:Nat)
def nrP (n at_ x:Nat):Bool:=Cells.near (x/n,x%n) (at_/n,at_%n)
def Jg (R n at_:Nat):List Nat:=(XD (R*n)).filter (nrP n at_)
def zcZ (n at_ r c0 m:Nat):List Nat:=((XD m).map fun i=>r*n+(c0+i)).filter fun x=>!decide (x=at_)
def QA (n at_ r0 k c0 m:Nat):List Nat:=(XD k).flatMap fun i=>zcZ n at_ (r0+i) c0 m
theorem zjR (n at_ r c0 m:Nat):zcZ n at_ r c0 (m+1)=zcZ n at_ r c0 m++if (!decide (r*n+(c0+m)=at_))=true then [r*n+(c0+m)] else []:=by
 unfold zcZ;rw[U6,Xj,W3];congr 1;show Uj _ [r*n+(c0+m)]=_;rw[Wv];split<;>rfl
theorem zc0 (n at_ r0 k c0 m:Nat):QA n at_ r0 (k+1) c0 m=QA n at_ r0 k c0 m++zcZ n at_ (r0+k) c0 m:=by
 unfold QA;rw[U6,List.flatMap_append];simp
theorem zlU {R n at_:Nat}(hR:R<=5)(hn:n<=5)(ha:at_<R*n):QA n at_ (at_/n-1) (min (at_/n+2) R-(at_/n-1)) (at_%n-1) (min (at_%n+2) n-(at_%n-1))=Jg R n at_:=by
 have h:∀R∈XD 6,∀n∈XD 6,∀a∈XD (R*n),QA n a (a/n-1) (min (a/n+2) R-(a/n-1)) (a%n-1) (min (a%n+2) n-(a%n-1))=Jg R n a:=by decide +kernel
 exact h R (Xc.mpr (by lia)) n (Xc.mpr (by lia)) at_ (Xc.mpr ha)
theorem zc1 {R n at_:Nat}(hR:R<=5)(hn:n<=5)(ha:at_<R*n):(Jg R n at_).length<=8:=by
 have h:∀R∈XD 6,∀n∈XD 6,∀a∈XD (R*n),(Jg R n a).length<=8:=by decide +kernel
 exact h R (Xc.mpr (by lia)) n (Xc.mpr (by lia)) at_ (Xc.mpr ha)
theorem zgy (n at_ r c0 m:Nat):(zcZ n at_ r c0 m).length<=m:=by
 unfold zcZ;refine X5 (W6 _ _) ?_;rw[Y1,W8];exact XW _
theorem zei (n at_ r0 c0 m:Nat):∀k,(QA n at_ r0 k c0 m).length<=k*m
 | 0=>W5 _
 | k+1=>by
  rw[zc0,XU,RG];exact SA (zei n at_ r0 c0 m k) (zgy _ _ _ _ _)
theorem zn1 (i:Nat):(if (i:Int)-1>0 then (i:Int)-1 else 0)=((i-1:Nat):Int):=by
 split<;>lia
theorem zn2 (i m:Nat):(if (i:Int)+2<((m:Nat):Int) then (i:Int)+2 else ((m:Nat):Int))=((min (i+2) m:Nat):Int):=by
 split<;>lia
theorem zpp {a b:Nat}:decide (V.int ((a:Nat):Int)=V.int ((b:Nat):Int))=decide (a=b):=decide_eq_decide.mpr ⟨fun h=>by injection h with h;lia,fun h=>by rw[h]⟩
def zns:Sp:=fun vs H Q _=>∃(a R n:Nat),vs=[.int (a:Nat),.int (R:Nat),.int (n:Nat)]/\R<=5/\1<=n/\n<=5/\a<R*n/\∀(d:Addr) (H':Hp),H d=none->H' d=some (.lst (pV (Jg R n a)))->zu H H'->Q (.ref d) H'
theorem yN:zF ["_law_at","_law_rows","_law_columns","_law_row","_law_column","_law_found","_law_r","_law_c"] ["_law_at","_law_rows","_law_columns"] (zg Z6):=⟨rfl,rfl,rfl,by decide +kernel,rfl,by decide +kernel,by decide +kernel⟩
theorem zbx (T:Txt mg)(D:zk K mg "_law_near" Z6 ["_law_at","_law_rows","_law_columns"] f fd):qk P w K mg base CX0 1 f fd ["_law_at","_law_rows","_law_columns"] zns:=by
 refine D.F.ok yN (fun vs H Q E h=>?_) (fun cdv A outer s H vs Q E hr h=>?_)
 ·obtain⟨a,R,n,rfl,_⟩:=h;rfl
 ·obtain⟨a,R,n,rfl,hR,n1,hn,ha,q⟩:=h;have hrow:a/n<R:=Nat.div_lt_of_lt_mul (by rw[SL];exact ha);have hcol:a%n<n:=R9 _ (by lia);refine⟨_,(zd (zb7 (zp zbo (by rfl) T.zf5 PX (za (pvS 0) (za (pvS 2) zb))) (JE rfl (zT (zm (i:=3) yN.nd rfl (XM rfl)) (zT (zm (i:=4) yN.nd rfl (XM rfl)) yc))))
   (zd (zq (i:=5) yN.nd rfl (XM rfl) (qa zb))
   (zd (qj Xe rfl (Y4 (by rfl) T.jd (za (zp (Zi rfl) (by rfl) T.zf7 UP (za zo (za (zz xM (pvS 3) zo) zb))) (za (zp (Zj rfl) (by rfl) T.zf8 UO (za (pvS 1) (za (zz z4 (pvS 3) zo) zb))) zb))) (zm (i:=6) yN.nd rfl (XM rfl)) (zf (qj Xe rfl (Y4 (by rfl) T.jd (za (zp (Zi rfl) (by rfl) T.zf7 UP (za zo (za (zz xM (pvS 4) zo) zb))) (za (zp (Zj rfl) (by rfl) T.zf8 UO (za (pvS 2) (za (zz z4 (pvS 4) zo) zb))) zb))) (zm (i:=7) yN.nd rfl (XM rfl)) (zf (qX (zH Qq (zz z4 (zz yT (pvS 6) (pvS 2)) (pvS 7)) (pvS 0) (zQ _)) (zf (yy (xY WO Wl Wj jA (pvS 5) (za (zz z4 (zz yT (pvS 6) (pvS 2)) (pvS 7)) zb)))) zZ)))))
   (zf (zG (pvS 5)))))),?_⟩
  refine⟨_,rfl,_,rfl,_,_,rfl,⟨by lia,by lia⟩,fun p hp=>?_⟩;have s0:=ze (o:=.tup [.int (((a:Nat):Int)/((n:Nat):Int)),.int (((a:Nat):Int)%((n:Nat):Int))]) hp;refine⟨p,_,rfl,SqT.of zc,rfl,_,_,rfl,_,_,rfl,rfl,?_⟩;generalize upd H p (.tup [.int (((a:Nat):Int)/((n:Nat):Int)),.int (((a:Nat):Int)%((n:Nat):Int))])=H0 at *
  rw[<- Int.natCast_ediv,<- Int.natCast_emod];generalize hr0:a/n=row at *
  generalize hc0:a%n=col at *
  refine⟨Z1,fun d hd=>?_⟩;have s1:zu H0 (upd H0 d (.lst [])):=ze hd;refine⟨_,rfl,_,_,rfl,rfl,0,_,rfl,_,rfl,_,rfl,_,_,rfl,rfl,_,_,rfl,((row-1:Nat):Int),((min (row+2) R:Nat):Int),?_,⟨by lia,by lia,by lia,by lia⟩,?_⟩
  ·show [V.int (if (row:Int)-1>0 then (row:Int)-1 else 0),V.int (if (row:Int)+2<((R:Nat):Int) then (row:Int)+2 else ((R:Nat):Int))]=_;rw[zn1,zn2]
  have hn9:∀k m:Nat,k<=5->m<=5->k*m<=25:=fun k m h1 h2=>TN h1 h2;refine qw (lo:=((row-1:Nat):Int)) (fun k σ H'=>∃(v6 v7:Option V),σ=[some (.int (a:Nat)),some (.int (R:Nat)),some (.int (n:Nat)),some (.int (row:Nat)),some (.int (col:Nat)),some (.ref d),v6,v7]/\zu H0 H'/\H' d=some (.lst (pV (QA n a (row-1) k (col-1) (min (col+2) n-(col-1))))))
   ⟨_,_,rfl,s1,zc⟩ ?_ ?_
  ·rintro k σ H1 hk ⟨v6,v7,rfl,s2,hd1⟩;rw[show ((row-1:Nat):Int)+(k:Nat)=((row-1+k:Nat):Int) by lia];refine⟨_,rfl,_,_,rfl,rfl,0,_,rfl,_,rfl,_,rfl,_,_,rfl,rfl,_,_,rfl,((col-1:Nat):Int),((min (col+2) n:Nat):Int),?_,⟨by lia,by lia,by lia,by lia⟩,?_⟩
   ·show [V.int (if (col:Int)-1>0 then (col:Int)-1 else 0),V.int (if (col:Int)+2<((n:Nat):Int) then (col:Int)+2 else ((n:Nat):Int))]=_;rw[zn1,zn2]
   refine qw (lo:=((col-1:Nat):Int)) (fun m σ H'=>∃(v7:Option V),σ=[some (.int (a:Nat)),some (.int (R:Nat)),some (.int (n:Nat)),some (.int (row:Nat)),some (.int (col:Nat)),some (.ref d),some (.int ((row-1+k:Nat):Int)),v7]/\zu H0 H'/\H' d=some (.lst (pV (QA n a (row-1) k (col-1) (min (col+2) n-(col-1))++zcZ n a (row-1+k) (col-1) m))))
    ⟨_,rfl,s2,by rw[hd1];unfold zcZ;simp⟩ ?_ ?_
   ·rintro m σ H2 hm ⟨v7,rfl,s3,hd2⟩;rw[show ((col-1:Nat):Int)+(m:Nat)=((col-1+m:Nat):Int) by lia];have ev:((row-1+k:Nat):Int)*((n:Nat):Int)+((col-1+m:Nat):Int)=(((row-1+k)*n+(col-1+m):Nat):Int):=by
     simp only[Tc,UK]
    have hb:(!decide (V.int (((row-1+k:Nat):Int)*((n:Nat):Int)+((col-1+m:Nat):Int))=V.int ((a:Nat):Int)))=!decide ((row-1+k)*n+(col-1+m)=a):=by rw[ev,zpp]
    refine⟨_,rfl,_,rfl,_,_,rfl,rfl,zeF (by lia) (by lia),_,rfl,_,_,rfl,rfl,_,rfl,rfl,_,rfl,?_⟩;have e1:=zjR n a (row-1+k) (col-1) m;by_cases hp:(!decide ((row-1+k)*n+(col-1+m)=a))=true
    ·rw[if_pos hp] at e1;refine yp (hb.trans hp) ?_;refine⟨_,rfl,.inl ⟨rfl,_,SqL.of hd2⟩,_,rfl,_,rfl,_,_,rfl,rfl,zeF (by lia) (by lia),_,rfl,_,_,rfl,rfl,d,_,_,rfl,rfl,hd2,?_,_,rfl,fun b o e=>?_,?_⟩
     ·unfold pV;rw[Y1,XU];have a1:=zei n a (row-1) (col-1) (min (col+2) n-(col-1)) k;have a2:=zgy n a (row-1+k) (col-1) m;have a3:=hn9 k (min (col+2) n-(col-1)) (by lia) (by lia);exact XF (X5 (SA (X5 a1 a3) (X5 a2 (show m<=5 by lia))) (by decide:25+5<=64)) (by decide)
     ·rw[zh (zj e hd)];exact s3 _ _ e
     ·have e2:pV (QA n a (row-1) k (col-1) (min (col+2) n-(col-1))++zcZ n a (row-1+k) (col-1) (m+1))=pV (QA n a (row-1) k (col-1) (min (col+2) n-(col-1))++zcZ n a (row-1+k) (col-1) m)++[V.int (((row-1+k:Nat):Int)*((n:Nat):Int)+((col-1+m:Nat):Int))]:=by
       rw[ev,e1,<- W2];unfold pV;rw[Xj (l₂:=[_])];rfl
      rw[zc,e2]
    ·rw[if_neg hp,Xa] at e1;refine jM (hb.trans (Xy.mpr hp)) ?_;exact⟨_,rfl,s3,by rw[e1];exact hd2⟩
   ·rintro σ H2 ⟨v7,rfl,s3,hd2⟩;rw[show (((min (col+2) n:Nat):Int)-((col-1:Nat):Int)).toNat=min (col+2) n-(col-1) by lia] at hd2;refine⟨_,_,rfl,s3,?_⟩;rw[zc0];exact hd2
  ·rintro σ H1 ⟨v6,v7,rfl,s2,hd1⟩;rw[show (((min (row+2) R:Nat):Int)-((row-1:Nat):Int)).toNat=min (row+2) R-(row-1) by lia,<- hr0,<- hc0,zlU hR hn ha] at hd1;exact⟨_,rfl,q d H1 (s0.free hd) hd1 (s0.trans s2)⟩
def cV (ts:List Nat):List V:=ts.map fun c=>V.str ⟨#[c]⟩
def sg4:List Nat:=[46,63,111,35]
def QY (c:Nat):Bool:=decide (c=63) || decide (c=111)
theorem zc2 (ts:List Nat):(cV ts).length=ts.length:=Y1 _
theorem zhG (ts:List Nat)(j c:Nat):(cV ts).set j (V.str ⟨#[c]⟩)=cV (ts.set j c):=by
 unfold cV;rw[NU]
theorem zgz {ts:List Nat}{j:Nat}(h:j<ts.length):(cV ts)[j]?=some (V.str ⟨#[ts.getD j 0]⟩):=by
 unfold cV;rw[XA,X7 h,XB,X7 h];rfl
theorem getD_mem {ts:List Nat}{j:Nat}(h:j<ts.length):ts.getD j 0∈ts:=by
 rw[XB,X7 h];exact Tz h
theorem xU (p:Nat->Bool)(c:Nat):∀(ts:List Nat) (j:Nat),(ts.set j c).countP p<=ts.countP p+if p c=true then 1 else 0
 | [],_=>W5 _
 | t::r,0=>by
  show (c::r).countP p<=_;rw[WT,WT];lia
 | t::r,j+1=>by
  have:=xU p c r j;show (t::r.set j c).countP p<=_;rw[WT,WT];lia
theorem mem_set {c:Nat}{S:List Nat}(hc:c∈S){ts:List Nat}(h:∀x∈ts,x∈S)(j:Nat):∀x∈ts.set j c,x∈S:=fun x hx=>by
 rcases List.mem_or_eq_of_mem_set hx with h1 | h1
 ·exact h x h1
 ·rw[h1];exact hc
theorem zpq (n:Nat):(WN n [V.str "."]).flatten=cV (WN n 46):=by
 induction n with
 | zero=>rfl
 | succ n ih =>
  rw[Vt,WM,ih];have:(".":Str)=⟨#[46]⟩:=by decide +kernel
  rw[this];rfl
theorem zlV:(".":Str)=⟨#[46]⟩:=by decide +kernel
theorem znt:("#":Str)=⟨#[35]⟩:=by decide +kernel
theorem zpr:("o":Str)=⟨#[111]⟩:=by decide +kernel
theorem znu (x:Int):∃c:Nat,atI [V.str "?",V.str "o"] (x%2)=some (V.str ⟨#[c]⟩)/\c∈sg4:=by
 have h:x%2=0\/x%2=1:=by lia
 rw[Z8,zpr];rcases h with h | h<;>rw[h]
 ·exact⟨63,rfl,by decide⟩
 ·exact⟨111,rfl,by decide⟩
theorem YR {x:Int}{M:Nat}(h:0<M):0<=x%(M:Int)/\x%(M:Int)<(M:Int):=⟨U7 _ (by lia),Vl _ (by lia)⟩
def zrl (K:X2):Sp:=fun vs H Q _=>∃(a:Addr) (ns:List Int) (st:Int) (R n:Nat),vs=[.ref a,.int st,.int (R:Nat),.int (n:Nat)]/\SqL K H a (ns.map V.int)/\0<=st/\1<=R/\R<=5/\1<=n/\n<=5 /\
 ∀(d:Addr) (ts:List Nat) (H':Hp),H d=none->H' d=some (.lst (cV ts))->ts.length=R*n->(∀c∈ts,c∈sg4)->ts.countP QY<=10->zu H H'->Q (.ref d) H'
theorem jm:zF ["_law_script","_law_start","_law_rows","_law_columns","_law_many","_law_signs_here","_law_k","_law_cell","_law_holes"] ["_law_script","_law_start","_law_rows","_law_columns"] (zg J5):=⟨rfl,rfl,rfl,by decide +kernel,rfl,by decide +kernel,by decide +kernel⟩
theorem zfg (T:Txt mg)(Z:Prog K mg)(D:zk K mg "_law_signs" J5 ["_law_script","_law_start","_law_rows","_law_columns"] f fd):qk P w K mg base CX0 2 f fd ["_law_script","_law_start","_law_rows","_law_columns"] (zrl K):=by
 obtain⟨xV,yZ,zP⟩:=Z.law_cell_at;have qT:qk P w K mg base CX0 1 xV yZ ["_law_script","_law_k"] (zhm K):=yX T zP;refine D.F.ok jm (fun vs H Q E h=>?_) (fun cdv A outer s H vs Q E hr h=>?_)
 ·obtain⟨a,ns,st,R,n,rfl,_⟩:=h;rfl
 ·obtain⟨a,ns,st,R,n,rfl,hS,st0,r1,r5,n1,n5,q⟩:=h;have m1:0<R*n:=Nat.mul_pos (by lia) (by lia);have m25:R*n<=5*5:=TN r5 n5;refine⟨_,(zd (zq (i:=4) jm.nd rfl (XM rfl) (zz yT (pvS 2) (pvS 3)))
   (zd (zq (i:=5) jm.nd rfl (XM rfl) (zz zgU (qa (za qp zb)) (pvS 4)))
   (zd (qj Xe rfl (qI (by rfl) T.jd (za (zz qQ (zz qy (pc0 qT hr zP (za (pvS 0) (za (pvS 1) zb))) zo) zo) zb)) (zm (i:=6) jm.nd rfl (XM rfl)) (zd (zq (i:=7) jm.nd rfl (XM rfl) (pc0 qT hr zP (za (pvS 0) (za (zz z4 (zz z4 (pvS 1) zo) (pvS 6)) zb))))
   (zf (zb7 (qi qO (qa (za qp (za qp zb))) (zz qQ (zz qy (pvS 7) (pvS 4)) zo) (fun _ _=>rfl)) (zgP (pvS 5) (zz qQ (pvS 7) (pvS 4)) set_list)))))
   (zd (zq (i:=8) jm.nd rfl (XM rfl) (zz qy (pc0 qT hr zP (za (pvS 0) (za (zz z4 (pvS 1) zo) zb))) zo))
   (zd (qj Xe rfl (qI (by rfl) T.jd (za (zz qQ (pc0 qT hr zP (za (pvS 0) (za (zz z4 (pvS 1) zo) zb))) zo) zb)) (zm (i:=6) jm.nd rfl (XM rfl)) (Y7 (qX (zH JF (qi qO (pvS 5) (zz qQ (pvS 8) (pvS 4)) (fun _ _=>rfl)) qp (zQ _)) (zf (zb7 qp (zgP (pvS 5) (zz qQ (pvS 8) (pvS 4)) set_list))) zZ)
   (zf (zq (i:=8) jm.nd rfl (XM rfl) (zz qy (pvS 8) (pvS 4))))))
   (zf (zG (pvS 5)))))))),?_⟩
  refine⟨_,rfl,_,rfl,_,_,rfl,rfl,zeF (by lia) (by lia),?_⟩;show Jf 4 (V.int ((R*n:Nat):Int)) _ _ _;generalize hM:R*n=M at *
  refine⟨sz_1,fun l0 hl0=>?_⟩;have s0:=ze (o:=.lst [.str "."]) hl0;refine⟨_,rfl,l0,_,_,rfl,rfl,zc,by lia,by lia,?_,fun d hd=>?_⟩
  ·exact X5 (show 1*((M:Nat):Int).toNat<=120 by lia) (by decide)
  rw[WY,zpq];have s1:=s0.trans (ze (o:=.lst (cV (WN M 46))) hd);have hd0:H d=none:=s0.free hd;have hd1:upd (upd H l0 (.lst [.str "."])) d (.lst (cV (WN M 46))) d=some (.lst (cV (WN M 46))):=zc;generalize upd (upd H l0 (.lst [.str "."])) d (.lst (cV (WN M 46)))=H1 at *
  refine⟨_,rfl,_,rfl,a,ns,_,rfl,s1.seq hS,st0,fun c0=>⟨_,_,rfl,rfl,yr.small (by decide) (by decide),_,_,rfl,rfl,(by show (0:Int)<11;decide),?_⟩⟩;obtain⟨k0,k1⟩:=YR (x:=c0/64) (M:=11) (by decide);refine⟨_,rfl,by lia,by lia,?_⟩;refine qw (lo:=0) (n:=(c0/64%11).toNat) (fun i σ H'=>∃(ts:List Nat) (v6 v7:Option V),σ=[some (.ref a),some (.int st),some (.int (R:Nat)),some (.int (n:Nat)),some (.int (M:Nat)),some (.ref d),v6,v7,none]/\zu H H'/\H' d=some (.lst (cV ts))/\ts.length=M/\(∀c∈ts,c∈sg4)/\ts.countP QY<=i)
   ⟨WN M 46,_,_,rfl,s1,hd1,O3,fun c hc=>by rw[(List.mem_replicate.mp hc).2];decide,by rw[OY];simp[QY]⟩ ?_ ?_
  ·rintro i σ H2 hi ⟨ts,v6,v7,rfl,s2,hd2,tl,tm,tc⟩;refine⟨_,rfl,_,rfl,_,_,rfl,rfl,_,rfl,_,_,rfl,rfl,a,ns,_,rfl,s2.seq hS,by lia,fun c=>?_⟩;obtain⟨e0,e1⟩:=YR (x:=c) (M:=M) m1;obtain⟨ch,hch,hc4⟩:=znu (c/(M:Int));refine⟨YD,fun ml hml=>?_⟩;have z3:=ze (o:=.lst [.str "?",.str "o"]) hml;refine⟨_,rfl,_,rfl,_,_,rfl,rfl,yr.small (by lia) (by lia),_,_,rfl,rfl,(by show (0:Int)<2;decide),ml,_,_,_,rfl,rfl,SqL.of zc,hch,?_⟩;refine⟨_,rfl,_,rfl,_,rfl,_,_,rfl,rfl,(by lia),d,_,_,_,rfl,rfl,z3 _ _ hd2,zcL e0 (by rw[zc2,tl];exact e1),?_⟩;refine⟨ts.set (c%(M:Int)).toNat ch,_,_,rfl,fun b o e=>?_,?_,?_,mem_set hc4 tm _,?_⟩
   ·rw[zh (zj e hd0)];exact z3 _ _ (s2 _ _ e)
   ·rw[zc,zhG]
   ·rw[RQ,tl]
   ·refine X5 (xU QY ch ts _) ?_;split<;>lia
  rintro σ H2 ⟨ts,v6,v7,rfl,s2,hd2,tl,tm,tc⟩;have tc10:ts.countP QY<=10:=by lia
  refine⟨_,rfl,_,rfl,_,_,rfl,rfl,a,ns,_,rfl,s2.seq hS,by lia,fun c1=>⟨_,_,rfl,rfl,yr.small (by decide) (by decide),?_⟩⟩;refine⟨_,rfl,_,rfl,_,_,rfl,rfl,a,ns,_,rfl,s2.seq hS,by lia,fun c2=>⟨_,_,rfl,rfl,(by show (0:Int)<4;decide),?_⟩⟩;obtain⟨h0,h1⟩:=YR (x:=c2) (M:=4) (by decide);refine⟨_,rfl,by lia,by lia,?_⟩;refine qw (lo:=0) (n:=(c2%4).toNat) (fun i σ H'=>∃(ts:List Nat) (v6 v7:Option V) (ho:Int),σ=[some (.ref a),some (.int st),some (.int (R:Nat)),some (.int (n:Nat)),some (.int (M:Nat)),some (.ref d),v6,v7,some (.int ho)]/\zu H H'/\H' d=some (.lst (cV ts))/\ts.length=M/\(∀c∈ts,c∈sg4)/\ts.countP QY<=10)
   ⟨ts,_,_,_,rfl,s2,hd2,tl,tm,tc10⟩ ?_ ?_
  ·rintro i σ H3 hi ⟨us,w6,w7,ho,rfl,s3,hd3,ul,um,uc⟩;obtain⟨e0,e1⟩:=YR (x:=ho) (M:=M) m1;have jl:(ho%(M:Int)).toNat<us.length:=by lia
   refine⟨fun σ' H'=>∃(ts:List Nat),σ'=[some (.ref a),some (.int st),some (.int (R:Nat)),some (.int (n:Nat)),some (.int (M:Nat)),some (.ref d),some (.int (0+(i:Int))),w7,some (.int ho)]/\zu H H'/\H' d=some (.lst (cV ts))/\ts.length=M/\(∀c∈ts,c∈sg4)/\ts.countP QY<=10,?_,?_⟩
   ·refine⟨_,rfl,_,rfl,_,rfl,_,_,rfl,rfl,(by lia),d,_,_,_,rfl,rfl,SqL.of hd3,jN e0 (zgz jl),rfl,_,rfl,zeE (fun hc=>?_) (fun _=>?_)⟩
    ·refine⟨_,rfl,_,rfl,_,rfl,_,_,rfl,rfl,(by lia),d,_,_,_,rfl,rfl,hd3,zcL e0 (by rw[zc2,ul];exact e1),?_⟩;refine⟨us.set (ho%(M:Int)).toNat 35,rfl,fun b o e=>?_,?_,?_,mem_set (by decide) um _,?_⟩
     ·rw[zh (zj e hd0)];exact s3 _ _ e
     ·rw[zc,znt,zhG]
     ·rw[RQ,ul]
     ·refine X5 (xU QY 35 us _) ?_;rw[if_neg (by decide)];exact uc
    ·exact⟨us,rfl,s3,hd3,ul,um,uc⟩
   rintro σ' H4 ⟨ts',rfl,s4,hd4,tl4,tm4,tc4⟩;exact⟨_,rfl,_,rfl,_,_,rfl,rfl,yr.small (by lia) (by lia),ts',_,_,_,rfl,s4,hd4,tl4,tm4,tc4⟩
  rintro σ H3 ⟨us,w6,w7,ho,rfl,s3,hd3,ul,um,uc⟩;exact⟨_,rfl,q d us H3 hd0 hd3 ul um uc s3⟩
theorem ZK:bd.cps.toList=[63,48,49,50,51,52,53,54,55,56,35]:=by decide +kernel
def zrm:Sp:=fun vs H Q _=>∃(l:Addr) (ts:List Nat) (R n:Nat),vs=[.ref l,.int (R:Nat),.int (n:Nat)]/\H l=some (.lst (cV ts))/\ts.length=R*n/\(∀c∈ts,c∈sg4)/\ts.countP QY<=10/\1<=R/\R<=5/\1<=n/\n<=5 /\
 ∀(d:Addr) (us:List Nat) (H':Hp),H d=none->H' d=some (.lst (cV us))->us.length=R*n->(∀c∈us,c∈bd.cps.toList)->us.countP qA<=10->zu H H'->Q (.ref d) H'
theorem zjS {c:Nat}(h:c∈sg4):c=46\/c=63\/c=111\/c=35:=by
 simpa[sg4] using h
theorem zc3 {m:Nat}(h:m<=8):48+m∈bd.cps.toList:=by
 rw[ZK];have:∀m∈XD 9,48+m ∈ [63,48,49,50,51,52,53,54,55,56,35]:=by decide
 exact this m (Xc.mpr (by lia))
theorem zej {m:Nat}(h:m<=8):V.str (toString ((m:Nat):Int))=V.str ⟨#[48+m]⟩:=by
 have:=zll (k:=48+m) (by lia) (by lia);rwa [show (((48+m:Nat):Int)-48)=((m:Nat):Int) by lia] at this
theorem zlW {xs:List Nat}{i:Nat}{v:V}(h:(pV xs)[i]?=some v):∃x,xs[i]?=some x/\v=.int ((x:Nat):Int):=by
 unfold pV at h;rw[XA] at h;cases e:xs[i]? with
 | none=>rw[e] at h;cases h
 | some x =>
  rw[e] at h;cases h;exact⟨x,rfl,rfl⟩
theorem Za (c k:Nat):decide (V.str ⟨#[c]⟩=V.str ⟨#[k]⟩)=decide (c=k):=decide_eq_decide.mpr (by rw[QN])
theorem yk:zF ["_law_signs_here","_law_rows","_law_columns","_law_found","_law_at","_law_sign"] ["_law_signs_here","_law_rows","_law_columns"] (zg x8):=⟨rfl,rfl,rfl,by decide +kernel,rfl,by decide +kernel,by decide +kernel⟩
theorem zfh (T:Txt mg)(Z:Prog K mg)(D:zk K mg "_law_texts" x8 ["_law_signs_here","_law_rows","_law_columns"] f fd):qk P w K mg base CX0 2 f fd ["_law_signs_here","_law_rows","_law_columns"] zrm:=by
 obtain⟨zhH,zgA,JR⟩:=Z.law_near;refine D.F.ok yk (fun vs H Q E h=>?_) (fun cdv A outer s H vs Q E hr h=>?_)
 ·obtain⟨l,ts,R,n,rfl,_⟩:=h;rfl
 ·obtain⟨l,ts,R,n,rfl,hl,tl,tm,tc,r1,r5,n1,n5,q⟩:=h;have m25:R*n<=5*5:=TN r5 n5;refine⟨_,(zd (zq (i:=3) yk.nd rfl (XM rfl) (qa zb))
   (zd (qj Xe rfl (qI (by rfl) T.jd (za (zz yT (pvS 1) (pvS 2)) zb)) (zm (i:=4) yk.nd rfl (XM rfl)) (zd (zq (i:=5) yk.nd rfl (XM rfl) (qi qO (pvS 0) (pvS 4) (fun _ _=>rfl)))
   (Y7 (qX (zH JF (pvS 5) qp (zQ _)) (zf (zq (i:=5) yk.nd rfl (XM rfl) (jf zaa (by rfl) T.znW OR (za (zp zB (by rfl) T.ji W0 (za (qh (N:=["_law_one","_law_signs_here"]) (src:=[none,some 0]) (zU.free (O:=(zg x8).names) (XN:=["_law_signs_here","_law_rows","_law_columns","_law_found","_law_at","_law_sign"]) rfl rfl ⟨_,rfl⟩ rfl rfl (by decide +kernel) (by decide +kernel) (by decide +kernel) rfl (by decide +kernel)) rfl (zM (pc0 (zbx T JR) hr JR (za (pvS 4) (za (pvS 1) (za (pvS 2) zb))))) (fun _ _ _ _ _=>(zm (i:=0) (by show WW (["_law_one","_law_signs_here"]:List Str);decide +kernel) rfl (XM rfl))) (fun _ _ _ _ _=>(qD (zH JF (qi (Y9 (K:=K) (by rfl)) (pvS 1) (pvS 0) (fun _ _=>rfl)) qp (zQ _)))) (fun _ _ _ _ _=>(pvS 0))) zb)) zb)))) zZ)
   (Y7 (qX (zH JF (pvS 5) qp (zQ _)) (zf (zq (i:=5) yk.nd rfl (XM rfl) qp)) zZ)
   (zf (yy (xY WO Wl Wj jA (pvS 3) (za (pvS 5) zb))))))))
   (zf (zG (pvS 3))))),?_⟩
  refine⟨Z1,fun d hd=>?_⟩;have s0:zu H (upd H d (.lst [])):=ze hd;have em:(((R:Nat):Int)*((n:Nat):Int))=((R*n:Nat):Int):=(UK R n).symm;refine⟨_,rfl,_,rfl,_,_,rfl,rfl,zeF (by lia) (by lia),_,rfl,by lia,by lia,?_⟩;refine qw (lo:=0) (n:=(((R:Nat):Int)*((n:Nat):Int)).toNat) (fun i σ H'=>∃(us:List Nat) (v4 v5:Option V),σ=[some (.ref l),some (.int (R:Nat)),some (.int (n:Nat)),some (.ref d),v4,v5]/\zu H H'/\H' d=some (.lst (cV us))/\us.length=i/\(∀c∈us,c∈bd.cps.toList)/\us.countP qA<=(ts.take i).countP QY)
   ⟨[],_,_,rfl,s0,zc,rfl,(fun _ h=>nomatch h),W5 _⟩ ?_ ?_
  ·rintro i σ H1 hi ⟨us,v4,v5,rfl,s1,hd1,ul,um,uc⟩;have iM:i<R*n:=by lia
   have jl:i<ts.length:=by lia
   have c4:=tm _ (getD_mem jl);have tk:(ts.take (i+1)).countP QY=(ts.take i).countP QY+if QY (ts.getD i 0)=true then 1 else 0:=by
    rw[Xu,Vk,X7 jl,XB,X7 jl];show _+SV QY [_]=_;rw[WT,RM,V2];rfl
   rw[show (0:Int)+(i:Nat)=((i:Nat):Int) by lia];refine⟨_,rfl,_,rfl,l,_,_,_,rfl,rfl,SqL.of (s1 _ _ hl),jN (by lia) (by rw[WY];exact zgz jl),?_⟩;generalize hc:ts.getD i 0=c at *
   refine⟨fun σ' H'=>∃(k:Nat),σ'=[some (.ref l),some (.int (R:Nat)),some (.int (n:Nat)),some (.ref d),some (.int ((i:Nat):Int)),some (.str ⟨#[k]⟩)]/\zu H1 H'/\(c=46->48<=k/\k<=56)/\(c≠46->k=c),?_,?_⟩
   ·refine⟨_,rfl,rfl,_,rfl,zeE (fun hx=>?_) (fun hx=>?_)⟩
    ·rw[zlV,Za] at hx;have e46:c=46:=of_decide_eq_true hx;refine⟨_,rfl,_,rfl,_,rfl,i,R,n,rfl,r5,n1,n5,iM,fun np H2 hnp zqF s2=>⟨np,rfl,⟨_,SqL.of zqF⟩,fun z hz=>?_⟩⟩;refine qx (K:=K) (a:=np) (xs:=pV (Jg R n i)) (fun j σ' H'=>∃(u0:Option V) (ys:List V),σ'=[u0,some (.ref l)]/\zu H2 H'/\H' z=some (.lst ys)/\ys.length<=j)
      ⟨_,[],rfl,ze hz,zc,W5 _⟩ (fun j σ' H' _ ⟨_,_,_,y,_⟩=>SqL.of (y _ _ zqF)) ?_ ?_
     ·rintro j v σ' H3 hv ⟨u0,ys,rfl,s3,hz3,yl⟩;obtain⟨x,hx',rfl⟩:=zlW hv;have xm:=Xc.mp (XV.mp (X0 hx')).1;have jn:=(XY.mp hx').1;have n8:=zc1 r5 n5 iM;refine⟨_,rfl,_,rfl,l,_,_,_,rfl,rfl,SqL.of (s3 _ _ (s2 _ _ (s1 _ _ hl))),jN (by lia) (by rw[WY];exact zgz (j:=x) (by lia)),rfl,_,rfl,zeE (fun _=>?_) (fun _=>?_)⟩
      ·refine⟨_,rfl,_,hz3,XF (show _<=64 by lia) (by decide),_,_,rfl,fun b o e=>?_,zc,?_⟩
       ·rw[zh (zj e hz)];exact s3 _ _ e
       ·rw[XU];show _+1<=_;lia
      ·exact⟨_,ys,rfl,s3,hz3,by lia⟩
     rintro σ' H3 ⟨u0,ys,rfl,s3,hz3,yl⟩;have n8:=zc1 r5 n5 iM;have y8:ys.length<=8:=by
      unfold pV at yl;rw[Y1] at yl;lia
     refine⟨z,ys,rfl,.inl (SqL.of hz3),_,rfl,?_,?_⟩
     ·show (((ys.length:Nat):Int).natAbs).log2<1920;rw[SX];exact XF (Nat.log2_le_self _) (by lia)
     ·exact⟨48+ys.length,congrArg (fun v=>[some (V.ref l),some (.int (R:Nat)),some (.int (n:Nat)),some (.ref d),some (.int ((i:Nat):Int)),some v]) (zej y8),s2.trans s3,fun _=>by lia,fun h=>absurd e46 h⟩
    ·rw[zlV,Za] at hx;have e46:c≠46:=fun e=>hx (decide_eq_true e);exact⟨c,rfl,zu.refl _,fun e=>absurd e e46,fun _=>rfl⟩
   rintro σ' H2 ⟨k,rfl,s2,k1,k2⟩;refine⟨fun σ' H'=>σ'=[some (.ref l),some (.int (R:Nat)),some (.int (n:Nat)),some (.ref d),some (.int ((i:Nat):Int)),some (.str ⟨#[if k=111 then 63 else k]⟩)]/\H'=H2,?_,?_⟩
   ·refine⟨_,rfl,rfl,_,rfl,zeE (fun hx=>?_) (fun hx=>?_)⟩
    ·rw[zpr,Za] at hx;rw[if_pos (of_decide_eq_true hx)];exact⟨congrArg (fun v=>[some (V.ref l),some (.int (R:Nat)),some (.int (n:Nat)),some (.ref d),some (.int ((i:Nat):Int)),some (V.str v)]) Z8,rfl⟩
    ·rw[zpr,Za] at hx;rw[if_neg fun e=>hx (decide_eq_true e)];exact⟨rfl,rfl⟩
   rintro σ' H3 ⟨rfl,rfl⟩;have kk:(if k=111 then 63 else k)∈bd.cps.toList/\(if qA (if k=111 then 63 else k)=true then 1 else 0)<=(if QY c=true then 1 else 0):=by
    rcases zjS c4 with e | e | e | e
    ·obtain⟨a1,a2⟩:=k1 e;rw[if_neg (by lia),show k=48+(k-48) by lia];refine⟨zc3 (by lia),?_⟩;rw[if_neg (by unfold qA;rw[decide_eq_true_eq];lia)];exact W5 _
    ·rw[k2 (by lia),e];exact⟨by rw[ZK];decide,by decide⟩
    ·rw[k2 (by lia),e];exact⟨by rw[ZK];decide,by decide⟩
    ·rw[k2 (by lia),e];exact⟨by rw[ZK];decide,by decide⟩
   generalize (if k=111 then 63 else k)=k' at *
   have hd3:=s2 _ _ hd1;refine⟨_,rfl,.inl ⟨rfl,_,SqL.of hd3⟩,_,rfl,d,_,_,rfl,rfl,hd3,?_,us++[k'],_,_,rfl,fun b o e=>?_,?_,?_,fun x hx=>?_,?_⟩
   ·rw[zc2,ul];exact Xn (show i<64 by lia) (by decide)
   ·rw[zh (zj e hd)];exact s2 _ _ (s1 _ _ e)
   ·rw[zc];unfold cV;rw[Xj];rfl
   ·rw[XU,ul];rfl
   ·rcases XG.mp hx with hx | hx
    ·exact um x hx
    ·have:x=k':=by simpa using hx
     rw[this];exact kk.1
   ·rw[Vk,tk];refine SA uc ?_;rw[WT,RM,V2];exact kk.2
  ·rintro σ H1 ⟨us,v4,v5,rfl,s1,hd1,ul,um,uc⟩;rw[em,WY] at ul;refine⟨_,rfl,q d us H1 hd hd1 ul um (X5 uc (X5 (UG _ ts).countP_le tc)) s1⟩
theorem ziH:("0":Str)=⟨#[48]⟩:=by decide +kernel
theorem zc4 (a b:Str):(a++b).cps.toList=a.cps.toList++b.cps.toList:=by
 have e:(a++b).cps=a.cps++b.cps:=rfl;rw[e,WD]
theorem zek (p:Nat->Bool)(i:Nat):∀(j:Nat) (t:List Nat),(Cells.zY p i j t).length=t.countP p
 | _,[]=>rfl
 | j,c::r=>by
  rw[Cells.zY,XU,zek p i (j+1) r,WT];split<;>simp<;>lia
theorem zel (p:Nat->Bool):∀(i:Nat) (gs:List (List Nat)),(Cells.zJ p i gs).length=gs.flatten.countP p
 | _,[]=>rfl
 | i,t::r=>by rw[Cells.zJ,XU,zek,zel p (i+1) r,WM,Vk]
theorem zem (rs:List Str):(zL rs).length=(codes rs).flatten.countP qA:=zel qA 0 (codes rs)
theorem zhI (rs:List Str)(t:Str):(codes (rs++[t])).flatten=(codes rs).flatten++t.cps.toList:=by
 unfold codes;rw[Xj,Wt];simp
theorem zps (x:Int):∃c:Nat,atI ("??#012345678":Str).cps.toList (x%12)=some c/\c∈bd.cps.toList:=by
 have e:("??#012345678":Str).cps.toList=[63,63,35,48,49,50,51,52,53,54,55,56]:=by decide +kernel
 rw[e,ZK];have a0:=U7 x (show (12:Int)≠0 by decide);have a1:=Vl x (show (0:Int)<12 by decide);have t:∀m∈XD 12,((atI [63,63,35,48,49,50,51,52,53,54,55,56] ((m:Nat):Int)).any fun c=>[63,48,49,50,51,52,53,54,55,56,35].contains c)=true:=by decide +kernel
 have h:=t (x%12).toNat (Xc.mpr (by lia));rw[Vs a0] at h;cases ha:atI [63,63,35,48,49,50,51,52,53,54,55,56] (x%12) with
 | none =>
  rw[ha] at h;cases h
 | some c =>
  rw[ha] at h;exact⟨c,rfl,List.contains_iff_mem.mp h⟩
def zqG (K:X2):Sp:=fun vs H Q _=>∃(a:Addr) (ns:List Int) (st:Int) (R n:Nat),vs=[.ref a,.int st,.int (R:Nat),.int (n:Nat)]/\SqL K H a (ns.map V.int)/\0<=st/\1<=R/\R<=5/\1<=n/\n<=5 /\
 ∀(p l:Addr) (rs:List Str) (c:Int) (H':Hp),qb H' p l rs c->rs.length=R->(∀t∈rs,Row bd.cps.toList n t)->(zL rs).length<=10->0<=c->c<=64->zu H H'->Q (.ref p) H'
theorem qL:zF ["_law_script","_law_start","_law_rows","_law_columns","_law_texts_here","_law_shut","_law_row","_law_number","_law_text","_law_column","_law_sign"] ["_law_script","_law_start","_law_rows","_law_columns"] (zg Qf):=⟨rfl,rfl,rfl,by decide +kernel,rfl,by decide +kernel,by decide +kernel⟩
theorem zhJ (T:Txt mg)(Z:Prog K mg)(D:zk K mg "_law_dug" Qf ["_law_script","_law_start","_law_rows","_law_columns"] f fd):qk P w K mg base CX0 2 f fd ["_law_script","_law_start","_law_rows","_law_columns"] (zqG K):=by
 obtain⟨xV,yZ,zP⟩:=Z.law_cell_at;refine D.F.ok qL (fun vs H Q E h=>?_) (fun cdv A outer s H vs Q E hr h=>?_)
 ·obtain⟨a,ns,st,R,n,rfl,_⟩:=h;rfl
 ·obtain⟨a,ns,st,R,n,rfl,hS,st0,r1,r5,n1,n5,q⟩:=h;refine⟨_,(zd (zq (i:=4) qL.nd rfl (XM rfl) (qa zb))
   (zd (zq (i:=5) qL.nd rfl (XM rfl) zo)
   (zd (qj Xe rfl (qI (by rfl) T.jd (za (pvS 2) zb)) (zm (i:=6) qL.nd rfl (XM rfl)) (zd (zq (i:=7) qL.nd rfl (XM rfl) (pc0 (yX T zP) hr zP (za (pvS 0) (za (zz z4 (zz z4 (pvS 1) zo) (pvS 6)) zb))))
   (zd (zq (i:=8) qL.nd rfl (XM rfl) qp)
   (zd (qj Xe rfl (qI (by rfl) T.jd (za (pvS 3) zb)) (zm (i:=9) qL.nd rfl (XM rfl)) (zd (zq (i:=10) qL.nd rfl (XM rfl) (qi J3 qp (zz qQ (pvS 7) zo) (fun _ _=>rfl)))
   (zd (zq (i:=7) qL.nd rfl (XM rfl) (zz qy (pvS 7) zo))
   (Y7 (qX (PW.pt (zey (zH JF (pvS 10) qp (zQ _)) (zbO (zH JF (pvS 5) zo (zQ _))))) (zf (zq (i:=10) qL.nd rfl (XM rfl) qp)) zZ)
   (zd (zq (i:=5) qL.nd rfl (XM rfl) (zz z4 (pvS 5) (jf ziV (by rfl) T.zf6 UQ (za (Y5 JF (pvS 10) qp (zQ _)) zb))))
   (zf (zq (i:=8) qL.nd rfl (XM rfl) (zz zgS (pvS 8) (pvS 10)))))))))
   (zf (yy (xY WO Wl Wj jA (pvS 4) (za (pvS 8) zb))))))))
   (zf (zG (jU (za (pvS 4) (za (zz qQ (pc0 (yX T zP) hr zP (za (pvS 0) (za (zz z4 (pvS 1) zo) zb))) (zz z4 (pvS 5) zo)) zb)))))))),?_⟩
  refine⟨Z1,fun d hd=>?_⟩;have s0:zu H (upd H d (.lst [])):=ze hd;refine⟨_,rfl,_,rfl,by lia,by lia,?_⟩;refine qw (lo:=0) (n:=((R:Nat):Int).toNat) (fun i σ H'=>∃(rs:List Str) (m:Nat) (v6 v7 v8 v9 v10:Option V),σ=[some (.ref a),some (.int st),some (.int (R:Nat)),some (.int (n:Nat)),some (.ref d),some (.int (m:Nat)),v6,v7,v8,v9,v10]/\zu H H'/\H' d=some (.lst (rs.map V.str))/\rs.length=i/\(∀t∈rs,Row bd.cps.toList n t)/\(codes rs).flatten.countP qA=m/\m<=10)
   ⟨[],0,_,_,_,_,_,rfl,s0,zc,rfl,(fun _ h=>nomatch h),rfl,W5 _⟩ ?_ ?_
  ·rintro i σ H1 hi ⟨rs,m,v6,v7,v8,v9,v10,rfl,s1,hd1,rl,rr,rc,m10⟩;refine⟨_,rfl,_,rfl,_,_,rfl,rfl,_,rfl,_,_,rfl,rfl,a,ns,_,rfl,s1.seq hS,by lia,fun c=>?_⟩;refine⟨_,rfl,_,rfl,by lia,by lia,?_⟩;refine qw (lo:=0) (n:=((n:Nat):Int).toNat) (fun j σ H'=>∃(t:Str) (k:Nat) (x:Int) (v9 v10:Option V),σ=[some (.ref a),some (.int st),some (.int (R:Nat)),some (.int (n:Nat)),some (.ref d),some (.int (k:Nat)),some (.int (0+(i:Int))),some (.int x),some (.str t),v9,v10]/\H'=H1/\t.cps.toList.length=j/\(∀c∈t.cps.toList,c∈bd.cps.toList)/\m+t.cps.toList.countP qA=k/\k<=10)
    ⟨"",m,c,_,_,rfl,rfl,rfl,(by intro c hc;cases hc),rfl,m10⟩ ?_ ?_
   ·rintro j σ H2 hj ⟨t,k,x,w9,w10,rfl,rfl,tl,tm,tk,k10⟩;obtain⟨ch,hch,hcb⟩:=zps x;refine⟨_,rfl,_,_,rfl,rfl,(by show (0:Int)<12;decide),_,_,ch,rfl,rfl,(by decide +kernel),hch,?_⟩;refine⟨_,rfl,_,_,rfl,rfl,yr.small (by decide) (by decide),?_⟩;refine⟨fun σ' H'=>∃(e:Nat),σ'=[some (.ref a),some (.int st),some (.int (R:Nat)),some (.int (n:Nat)),some (.ref d),some (.int (k:Nat)),some (.int (0+(i:Int))),some (.int (x/12)),some (.str t),some (.int (0+(j:Int))),some (.str ⟨#[e]⟩)]/\H'=H2/\e∈bd.cps.toList/\(e=63->k<10),?_,?_⟩
    ·refine⟨_,rfl,rfl,_,rfl,?_⟩;have hb:decide (V.str ⟨#[ch]⟩=V.str "?")=decide (ch=63):=by rw[Z8,Za]
     by_cases hq:ch=63
     ·refine yp (hb.trans (decide_eq_true hq)) ?_;refine⟨_,rfl,rfl,_,rfl,?_⟩;have hb2:decide (V.int ((k:Nat):Int)=V.int 10)=decide (k=10):=decide_eq_decide.mpr ⟨fun h=>by injection h with h;lia,fun h=>by rw[h];rfl⟩;by_cases hk:k=10
      ·refine yp (hb2.trans (decide_eq_true hk)) ?_;refine⟨48,congrArg (fun v:Str=>[some (V.ref a),some (.int st),some (.int (R:Nat)),some (.int (n:Nat)),some (.ref d),some (.int (k:Nat)),some (.int (0+(i:Int))),some (.int (x/12)),some (.str t),some (.int (0+(j:Int))),some (V.str v)]) ziH,rfl,zc3 (m:=0) (by decide),fun e=>by lia⟩
      ·refine jM (hb2.trans (decide_eq_false hk)) ?_;exact⟨ch,rfl,rfl,hcb,fun _=>by lia⟩
     ·refine jM (hb.trans (decide_eq_false hq)) ?_;exact⟨ch,rfl,rfl,hcb,fun e=>absurd e hq⟩
    rintro σ' H3 ⟨e,rfl,rfl,eb,e10⟩;have hb:decide (V.str ⟨#[e]⟩=V.str "?")=decide (e=63):=by rw[Z8,Za]
    refine⟨_,rfl,_,rfl,rfl,.inr ⟨_,rfl,_,_,rfl,rfl,?_⟩⟩;refine⟨_,rfl,_,rfl,_,_,rfl,rfl,?_,?_⟩
    ·show t.cps.size+1<=Xz;have:t.cps.size=j:=by rw[<- tl,X4]
     exact X5 (show _<=64 by lia) (by decide)
    ·have hv:V.int (((k:Nat):Int)+(if decide (V.str ⟨#[e]⟩=V.str "?")=true then 1 else 0))=V.int ((k+(if e=63 then 1 else 0):Nat):Int):=by
      rw[hb];by_cases h63:e=63
      ·rw[if_pos h63,decide_eq_true h63];rfl
      ·rw[if_neg h63,decide_eq_false h63];rfl
     refine⟨t++⟨#[e]⟩,k+(if e=63 then 1 else 0),x/12,some (.int (0+(j:Int))),some (.str ⟨#[e]⟩),congrArg (fun v:V=>[some (V.ref a),some (.int st),some (.int (R:Nat)),some (.int (n:Nat)),some (.ref d),some v,some (.int (0+(i:Int))),some (.int (x/12)),some (.str (t++⟨#[e]⟩)),some (.int (0+(j:Int))),some (.str ⟨#[e]⟩)]) hv,rfl,?_,fun c hc=>?_,?_,?_⟩
     ·rw[zc4,XU,tl];rfl
     ·rw[zc4] at hc;rcases XG.mp hc with hc | hc
      ·exact tm c hc
      ·have:c=e:=by simpa using hc
       rw[this];exact eb
     ·rw[zc4,Vk,<- tk];have:SV qA (⟨#[e]⟩:Str).cps.toList=if e=63 then 1 else 0:=by
       show SV qA [e]=_;rw[WT,RM,V2];unfold qA;by_cases h63:e=63
       ·rw[if_pos h63,if_pos (decide_eq_true h63)]
       ·rw[if_neg h63,if_neg (fun h=>h63 (of_decide_eq_true h))]
      rw[this];lia
     ·by_cases h63:e=63
      ·rw[if_pos h63];exact e10 h63
      ·rw[if_neg h63];exact k10
   rintro σ H2 ⟨t,k,x,w9,w10,rfl,rfl,tl,tm,tk,k10⟩;rw[WY] at tl;refine⟨_,rfl,.inl ⟨rfl,_,SqL.of hd1⟩,_,rfl,d,_,_,rfl,rfl,hd1,?_,rs++[t],k,_,_,_,_,_,rfl,fun b o e=>?_,?_,?_,fun u hu=>?_,?_,k10⟩
   ·rw[Y1,rl];exact Xn (show i<64 by lia) (by decide)
   ·rw[zh (zj e hd)];exact s1 _ _ e
   ·rw[zc,Xj];rfl
   ·rw[XU,rl];rfl
   ·rcases XG.mp hu with hu | hu
    ·exact rr u hu
    ·have:u=t:=by simpa using hu
     rw[this];exact⟨by rw[<- tl,X4],tm⟩
   ·rw[zhI,Vk,rc,tk]
  rintro σ H1 ⟨rs,m,v6,v7,v8,v9,v10,rfl,s1,hd1,rl,rr,rc,m10⟩;rw[WY] at rl;refine⟨_,rfl,_,rfl,_,rfl,_,_,rfl,rfl,a,ns,_,rfl,s1.seq hS,by lia,fun c=>⟨_,rfl,_,_,rfl,rfl,_,_,rfl,rfl,(by lia),YD,fun p hp=>?_⟩⟩;have z2:=ze (o:=.tup [.ref d,.int (c%(((m:Nat):Int)+2))]) hp;have c0:=U7 c (show ((m:Nat):Int)+2≠0 by lia);have c1:=Vl c (show 0<((m:Nat):Int)+2 by lia);exact q p d rs _ _ ⟨zc,z2 _ _ hd1⟩ rl rr (by rw[zem,rc];exact m10) c0 (by lia) (s1.trans z2)
theorem zjT {u:Nat}(h:u∈bd.cps.toList)(k:(!(!(Va ("?#":Str) ⟨#[u]⟩ 0 ("?#":Str).length 1).isEmpty))=true):48<=u/\u<=56:=by
 have:∀u∈bd.cps.toList,(!(!(Va ("?#":Str) ⟨#[u]⟩ 0 ("?#":Str).length 1).isEmpty))=true->48<=u/\u<=56:=by decide +kernel
 exact this u h k
theorem join_one:∀ts:List Nat,(UJ "" (ts.map fun c=>(⟨#[c]⟩:Str)))=⟨ts.toArray⟩
 | []=>rfl
 | [c]=>rfl
 | c::c'::r=>by
  have ih:=join_one (c'::r);show (⟨#[c]⟩:Str)++("":Str)++UJ "" ((c'::r).map fun c=>(⟨#[c]⟩:Str))=_;rw[ih];have e:((⟨#[c]⟩:Str)++("":Str))=⟨#[c]⟩:=by
   show (⟨#[c]++("":Str).cps⟩:Str)=_;have:("":Str).cps=#[]:=by decide +kernel
   rw[this];rfl
  rw[e];show (⟨#[c]++(c'::r).toArray⟩:Str)=⟨(c::c'::r).toArray⟩;congr 1;apply PD.mp;rw[WD];rfl
def rowOf (us:List Nat)(n k:Nat):List Nat:=(us.drop (n*k)).take n
def rowsOf (us:List Nat)(n R:Nat):List Str:=(XD R).map fun k=>(⟨(rowOf us n k).toArray⟩:Str)
theorem zfi (us:List Nat)(n R:Nat):codes (rowsOf us n R)=(XD R).map (rowOf us n):=by
 unfold codes rowsOf;rw[WR];rfl
theorem zby (us:List Nat)(n:Nat):∀R,((XD R).map (rowOf us n)).flatten=us.take (n*R)
 | 0=>by simp
 | R+1=>by
  rw[U6,Xj,Wt,zby us n R];show _++(rowOf us n R++[])=_;rw[Xa];unfold rowOf;rw[NT,List.take_add]
theorem zen {us:List Nat}{n R k:Nat}(h:us.length=R*n)(hk:k<R):(rowOf us n k).length=n:=by
 unfold rowOf;rw[XE,VG,h];have:n*k+n<=R*n:=by
  rw[<- NT,SL];exact Oy n hk
 lia
theorem znv {us:List Nat}{n R k:Nat}(h:us.length=R*n)(hk:k<R):zad (cV us) (some (((n*k:Nat):Nat):Int)) (some (((n*k+n:Nat):Nat):Int))=cV (rowOf us n k):=by
 have:n*k+n<=R*n:=by
  rw[<- NT,SL];exact Oy n hk
 unfold zad rowOf;rw[zc2,HT.zbP,HT.zbP,O4 (by lia),O4 (by lia),show n*k+n-n*k=n by lia];unfold cV;rw[Tn,P9]
theorem zqH (x:Int):∃z:Int,atI [V.int 0,V.int 0,V.int 0,V.int 1,V.int (-1),V.int 0] (x%6)=some (.int z)/\z<=1:=by
 have a0:=U7 x (show (6:Int)≠0 by decide);have a1:=Vl x (show (0:Int)<6 by decide);have t:∀m∈XD 6,∃z ∈ [(0:Int),1,-1],atI [V.int 0,V.int 0,V.int 0,V.int 1,V.int (-1),V.int 0] ((m:Nat):Int)=some (.int z):=by decide +kernel
 obtain⟨z,h1,h2⟩:=t (x%6).toNat (Xc.mpr (by lia));rw[Vs a0] at h2;have t2:∀z ∈ [(0:Int),1,-1],z<=1:=by decide
 exact⟨z,h2,t2 z h1⟩
structure Brd (rs:List Str):Prop where
 r1:1<=rs.length
 r5:rs.length<=5
 ex:∃n,1<=n/\n<=5/\∀t∈rs,Row bd.cps.toList n t
 sh:(zL rs).length<=10
theorem Brd.rows {rs:List Str}(B:Brd rs):Rows bd.cps.toList rs:=by
 obtain⟨n,h1,h2,h3⟩:=B.ex;exact⟨B.r1,X5 B.r5 (by decide),n,h1,by lia,h3⟩
def zrn (K:X2):Sp:=fun vs H Q _=>∃(a:Addr) (ns:List Int) (st:Int),vs=[.ref a,.int st]/\SqL K H a (ns.map V.int)/\0<=st /\
 ∀(p l:Addr) (rs:List Str) (c:Int) (H':Hp),qb H' p l rs c->Brd rs->0<=c->c<=64->zu H H'->Q (.ref p) H'
theorem qC:zF ["_law_script","_law_start","_law_head","_law_rows","_law_columns","_law_bent","_law_signs_here","_law_told_here","_law_stones","_law_at","_law_texts_here"] ["_law_script","_law_start"] (zg x9):=⟨rfl,rfl,rfl,by decide +kernel,rfl,by decide +kernel,by decide +kernel⟩
theorem zfj (T:Txt mg)(Z:Prog K mg)(D:zk K mg "_law_board" x9 ["_law_script","_law_start"] f fd):qk P w K mg base CX0 3 f fd ["_law_script","_law_start"] (zrn K):=by
 obtain⟨xV,yZ,zP⟩:=Z.law_cell_at;obtain⟨zn3,znw,zbz⟩:=Z.law_signs;obtain⟨zn4,znx,zbA⟩:=Z.law_texts;obtain⟨zpI,zpt,zeo⟩:=Z.law_dug;have qT:qk P w K mg base CX0 1 xV yZ ["_law_script","_law_k"] (zhm K):=yX T zP;refine D.F.ok qC (fun vs H Q E h=>?_) (fun cdv A outer s H vs Q E hr h=>?_)
 ·obtain⟨a,ns,st,rfl,_⟩:=h;rfl
 ·obtain⟨a,ns,st,rfl,hS,st0,q⟩:=h;refine⟨_,(zd (zq (i:=2) qC.nd rfl (XM rfl) (pc0 qT hr zP (za (pvS 0) (za (pvS 1) zb))))
   (zd (zq (i:=3) qC.nd rfl (XM rfl) (zz z4 zo (zz qQ (pvS 2) zo)))
   (zd (zq (i:=4) qC.nd rfl (UV rfl) (zz z4 zo (zz qQ (zz qy (pvS 2) zo) zo)))
   (zd (zq (i:=5) qC.nd rfl (XM rfl) (zz qy (pc0 qT hr zP (za (pvS 0) (za (zz z4 (pvS 1) zo) zb))) zo))
   (zd (qX (zH JF (zz qQ (pc0 qT hr zP (za (pvS 0) (za (zz z4 (pvS 1) zo) zb))) zo) zo (zQ _)) (zf (zG (pc0 (zhJ T Z zeo) hr zeo (za (pvS 0) (za (pvS 1) (za (pvS 3) (za (pvS 4) zb))))))) zZ)
   (zd (zq (i:=6) qC.nd rfl (XM rfl) (pc0 (zfg T Z zbz) hr zbz (za (pvS 0) (za (pvS 1) (za (pvS 3) (za (pvS 4) zb))))))
   (zd (zq (i:=7) qC.nd rfl (UV rfl) (pc0 (zfh T Z zbA) hr zbA (za (pvS 6) (za (pvS 3) (za (pvS 4) zb)))))
   (zd (zq (i:=8) qC.nd rfl (XM rfl) (zp (Zi rfl) (by rfl) T.zf7 UP (za zo (za (zz z4 (xY WO Pr Pq zkq (pvS 6) (za qp zb)) (qi qO (qa (za zo (za zo (za zo (za zo (za (zpU zot zo) (za zo zb))))))) (zz qQ (pvS 5) zo) (fun _ _=>rfl))) zb))))
   (zd (zq (i:=9) qC.nd rfl (XM rfl) (zz qQ (zz qy (pvS 5) zo) (zz yT (pvS 3) (pvS 4))))
   (Y7 (qX (PW.pt (zey (zH JF (zz qQ (zz qy (pvS 5) zo) zo) zo (zQ _)) (zbO (zH zag (qi qO (pvS 7) (pvS 9) (fun _ _=>rfl)) qp (by rfl))))) (zf (zb7 (jf zaa (by rfl) T.znW OR (za (zz qQ (zz z4 (zz z4 (jf ZV (by rfl) T.zf6 UQ (za (qi qO (pvS 7) (pvS 9) (fun _ _=>rfl)) zb)) zo) (zz qQ (zz qy (pvS 5) zo) zo)) zo) zb)) (zgP (pvS 7) (pvS 9) set_list))) zZ)
   (zd (ZX (i:=10) qC.nd rfl rfl (N:=["_law_k","_law_told_here","_law_columns"]) (src:=[none,some 7,some 4]) (zU.free (O:=(zg x9).names) (XN:=["_law_script","_law_start","_law_head","_law_rows","_law_columns","_law_bent","_law_signs_here","_law_told_here","_law_stones","_law_at","_law_texts_here"]) rfl rfl ⟨_,rfl⟩ rfl rfl (by decide +kernel) (by decide +kernel) (by decide +kernel) rfl (by decide +kernel)) rfl (qI (by rfl) T.jd (za (pvS 3) zb)) (fun _ _ _ _ _=>(zm (i:=0) (by show WW (["_law_k","_law_told_here","_law_columns"]:List Str);decide +kernel) rfl (XM rfl))) (fun _ _ _ _ _=>qN) (fun _ _ _ _ _=>(zoX (K:=K) (by rfl) Sf Sb Sa (zkX (K:=K) (by rfl)) qp (za (zac (zkY (K:=K) (by rfl)) (pvS 1) (zab (zz yT (pvS 2) (pvS 0))) (zab (zz z4 (zz yT (pvS 2) (pvS 0)) (pvS 2)))) zb))))
   (zf (zG (jU (za (pvS 10) (za (pvS 8) zb)))))))))))))))),?_⟩
  refine⟨_,rfl,_,rfl,a,ns,_,rfl,hS,st0,fun c=>?_⟩;refine⟨_,rfl,_,_,rfl,rfl,(by show (0:Int)<5;decide),_,_,rfl,rfl,?_⟩;show Jf 3 (V.int (1+c%5)) _ _ _;obtain⟨x0,x1⟩:=YR (x:=c) (M:=5) (by decide);obtain⟨R,hR⟩:∃R:Nat,1+c%5=(R:Int):=⟨(1+c%5).toNat,by lia⟩;rw[hR];refine⟨_,rfl,_,_,rfl,rfl,yr.small (by decide) (by decide),_,_,rfl,rfl,(by show (0:Int)<5;decide),_,_,rfl,rfl,?_⟩;show Jf 4 (V.int (1+c/5%5)) _ _ _;obtain⟨y0,y1⟩:=YR (x:=c/5) (M:=5) (by decide);obtain⟨n,hn⟩:∃n:Nat,1+c/5%5=(n:Int):=⟨(1+c/5%5).toNat,by lia⟩;rw[hn];have r1:1<=R:=by lia
  have r5:R<=5:=by lia
  have n1:1<=n:=by lia
  have n5:n<=5:=by lia
  have m1:0<R*n:=Nat.mul_pos (by lia) (by lia);have m25:R*n<=5*5:=TN r5 n5;refine⟨_,rfl,_,rfl,_,_,rfl,rfl,a,ns,_,rfl,hS,by lia,fun c2=>⟨_,_,rfl,rfl,yr.small (by decide) (by decide),?_⟩⟩;show Jf 5 (V.int (c2/2)) _ _ _;generalize c2/2=bent;refine⟨_,rfl,_,rfl,_,_,rfl,rfl,a,ns,_,rfl,hS,by lia,fun c3=>⟨_,_,rfl,rfl,(by show (0:Int)<2;decide),rfl,_,rfl,zeE (fun _=>?_) (fun _=>?_)⟩⟩
  ·refine⟨_,rfl,_,rfl,_,rfl,_,rfl,a,ns,st,R,n,rfl,hS,st0,r1,r5,n1,n5,fun p l rs b H1 B rl rr sh b0 b1 s1=>?_⟩;exact q p l rs b H1 B ⟨by lia,by lia,⟨n,n1,n5,rr⟩,sh⟩ b0 b1 s1
  refine⟨_,rfl,_,rfl,_,rfl,_,rfl,a,ns,st,R,n,rfl,hS,st0,r1,r5,n1,n5,fun d ts H1 hd hd1 tl tm tc s1=>?_⟩;refine⟨_,rfl,_,rfl,_,rfl,d,ts,R,n,rfl,hd1,tl,tm,tc,r1,r5,n1,n5,fun e us H2 he he2 ul um uc s2=>?_⟩;have hd2:=s2 _ _ hd1;have s02:=s1.trans s2;have he0:H e=none:=s1.free he;have ecv:cV ts=(ts.map fun c=>(⟨#[c]⟩:Str)).map V.str:=by
   unfold cV;rw[WR];rfl
  obtain⟨z,hz,z1⟩:=zqH bent;refine⟨_,rfl,.inl ⟨rfl,_,SqL.of hd2⟩,d,ts.map fun c=>(⟨#[c]⟩:Str),"o",rfl,rfl,by rw[<- ecv];exact hd2,_,rfl,zqp,fun ml hml=>?_⟩;have z3:=ze (o:=.lst [.int 0,.int 0,.int 0,.int 1,.int (-1),.int 0]) hml;refine⟨_,rfl,_,_,rfl,rfl,(by show (0:Int)<6;decide),ml,_,_,_,rfl,rfl,SqL.of zc,hz,_,_,rfl,rfl,_,_,rfl,?_⟩;have he3:=z3 _ _ he2;have s03:=s02.trans z3;generalize upd H2 ml (.lst [.int 0,.int 0,.int 0,.int 1,.int (-1),.int 0])=H3 at *
  have cl:(SV (fun t=>t==("o":Str)) (ts.map fun c=>(⟨#[c]⟩:Str)))<=25:=by
   have:=OT (p:=fun t=>t==("o":Str)) (l:=ts.map fun c=>(⟨#[c]⟩:Str));rw[Y1] at this;lia
  generalize SV (fun t=>t==("o":Str)) (ts.map fun c=>(⟨#[c]⟩:Str))=cn at *
  show Jf 8 (V.int (if ((cn:Nat):Int)+z>0 then ((cn:Nat):Int)+z else 0)) _ _ _;obtain⟨so,hso,so0,so1⟩:∃so:Int,(if ((cn:Nat):Int)+z>0 then ((cn:Nat):Int)+z else 0)=so/\0<=so/\so<=64:=⟨_,rfl,by split<;>lia,by split<;>lia⟩;rw[hso];refine⟨_,rfl,_,_,rfl,rfl,yr.small (by decide) (by decide),_,rfl,_,rfl,_,_,rfl,rfl,zeF (by lia) (by lia),_,_,rfl,rfl,(by rw[<- UK];lia),?_⟩;show Jf 9 (V.int (bent/18%(((R:Nat):Int)*((n:Nat):Int)))) _ _ _;rw[<- UK];obtain⟨a0,a1⟩:=YR (x:=bent/18) (M:=R*n) m1;generalize bent/18%((R*n:Nat):Int)=at_ at *
  have jl:at_.toNat<us.length:=by lia
  refine⟨fun σ' H'=>∃(vs:List Nat),σ'=[some (.ref a),some (.int st),some (.int c),some (.int (R:Nat)),some (.int (n:Nat)),some (.int bent),some (.ref d),some (.ref e),some (.int so),some (.int at_),none]/\zu H H'/\H' e=some (.lst (cV vs))/\vs.length=R*n/\(∀c∈vs,c∈bd.cps.toList)/\vs.countP qA<=10,?_,?_⟩
  ·refine⟨_,rfl,_,_,rfl,rfl,yr.small (by decide) (by decide),_,_,rfl,rfl,(by show (0:Int)<3;decide),rfl,_,rfl,zeE (fun _=>?_) (fun _=>?_)⟩
   ·refine⟨_,rfl,_,rfl,e,_,_,_,rfl,rfl,SqL.of he3,jN a0 (zgz jl),_,_,rfl,rfl,_,rfl,zeE (fun hx=>?_) (fun _=>?_)⟩
    ·obtain⟨g1,g2⟩:=zjT (um _ (getD_mem jl)) hx;obtain⟨w0,w1⟩:=YR (x:=((us.getD at_.toNat 0:Nat):Int)-48+1+bent/450%8) (M:=9) (by decide);refine⟨_,rfl,_,rfl,e,_,_,_,rfl,rfl,SqL.of he3,jN a0 (zgz jl),_,_,rfl,int_sign g1 g2,(by show 1<=640;decide),_,_,rfl,rfl,_,rfl,_,_,rfl,rfl,yr.small (by decide) (by decide),_,_,rfl,rfl,(by show (0:Int)<8;decide),_,_,rfl,rfl,_,_,rfl,rfl,(by show (0:Int)<9;decide),_,rfl,?_,?_⟩
     ·show (((((us.getD at_.toNat 0:Nat):Int)-48+1+bent/450%8)%9).natAbs).log2<1920;exact XF (Nat.log2_le_self _) (by lia)
     ·obtain⟨dg,hdg⟩:∃dg:Nat,(((us.getD at_.toNat 0:Nat):Int)-48+1+bent/450%8)%9=(dg:Int):=⟨((((us.getD at_.toNat 0:Nat):Int)-48+1+bent/450%8)%9).toNat,by lia⟩;have ed:V.str (toString ((((us.getD at_.toNat 0:Nat):Int)-48+1+bent/450%8)%9))=V.str ⟨#[48+dg]⟩:=by
       rw[hdg];exact zej (by lia)
      refine⟨_,rfl,_,rfl,e,_,_,_,rfl,rfl,he3,zcL a0 (by rw[zc2,ul];exact a1),?_⟩;refine⟨us.set at_.toNat (48+dg),rfl,fun b o ee=>?_,?_,?_,mem_set (zc3 (by lia)) um _,?_⟩
      ·rw[zh (zj ee he0)];exact s03 _ _ ee
      ·rw[zc,<- zhG];exact congrArg (fun v=>some (HO.lst ((cV us).set at_.toNat v))) ed
      ·rw[RQ,ul]
      ·refine X5 (xU qA (48+dg) us _) ?_;rw[if_neg (by unfold qA;rw[decide_eq_true_eq];lia)];exact uc
    ·exact⟨us,rfl,s03,he3,ul,um,uc⟩
   ·exact⟨us,rfl,s03,he3,ul,um,uc⟩
  rintro σ' H4 ⟨vs,rfl,s4,he4,vl,vm,vc⟩;refine⟨_,rfl,_,rfl,by lia,by lia,fun p hp=>?_⟩;refine QJ (lo:=0) (n:=((R:Nat):Int).toNat) (fun k σ' H'=>∃u0,σ'=[u0,some (.ref e),some (.int (n:Nat))]/\zu H4 H'/\H' p=some (.lst ((rowsOf vs n k).map V.str)))
   ⟨_,rfl,ze hp,zc⟩ ?_ ?_
  ·rintro k σ' H5 hk ⟨u0,rfl,s5,hp5⟩;have kR:k<R:=by lia
   have e1:((n:Nat):Int)*(0+(k:Int))=((n*k:Nat):Int):=by
    rw[RC,UK]
   have rl:=zen vl kR;unfold Jf;refine QT ?_;refine⟨rfl,_,rfl,_,rfl,_,rfl,_,_,rfl,rfl,zeF (by lia) (by lia),_,rfl,_,rfl,_,rfl,_,_,rfl,rfl,zeF (by lia) (by lia),_,rfl,_,_,rfl,rfl,_,rfl,e,_,rfl,SqL.of (s5 _ _ he4),fun cp hcp=>?_⟩;have ec:zad (cV vs) (some (((n:Nat):Int)*(0+(k:Int)))) (some (((n:Nat):Int)*(0+(k:Int))+((n:Nat):Int)))=((rowOf vs n k).map fun c=>(⟨#[c]⟩:Str)).map V.str:=by
    rw[e1,<- Tc,znv vl kR];unfold cV;rw[WR];rfl
   have z6:=ze (o:=.lst (zad (cV vs) (some (((n:Nat):Int)*(0+(k:Int)))) (some (((n:Nat):Int)*(0+(k:Int))+((n:Nat):Int))))) hcp;refine⟨"",cp,(rowOf vs n k).map fun c=>(⟨#[c]⟩:Str),rfl,rfl,SqL.of (by rw[<- ec];exact zc),?_,?_⟩
   ·have e0:("":Str).length=0:=by decide +kernel
    rw[e0,Nat.mul_zero,SG,WR];have:∀l:List Nat,(l.map ((fun t:Str=>t.length)∘fun c=>(⟨#[c]⟩:Str))).sum=l.length:=fun l=>by
     induction l with
     | nil=>rfl
     | cons c r ih =>
      rw[Xf,Oc,ih,Xs];show 1+_=_;lia
    have e2:=this (rowOf vs n k);rw[rl] at e2;exact X5 (Nat.le_of_eq e2) (by lia)
   ·refine⟨_,z6 _ _ hp5,?_,_,rfl,fun b o ee=>?_,?_⟩
    ·unfold rowsOf;rw[Y1,Y1,W8];exact Xn (show k<64 by lia) (by decide)
    ·rw[zh (zj ee hp)];exact z6 _ _ (s5 _ _ ee)
    ·rw[zc,join_one];unfold rowsOf;rw[U6,Xj,Xj];rfl
  rintro σ' H5 ⟨u0,rfl,s5,hp5⟩;rw[WY] at hp5;refine⟨_,rfl,_,rfl,YD,fun o ho=>?_⟩;have z6:=ze (o:=.tup [.ref p,.int so]) ho;refine q o p (rowsOf vs n R) so _ ⟨zc,z6 _ _ hp5⟩ ⟨?_,?_,⟨n,n1,n5,fun t ht=>?_⟩,?_⟩ so0 so1 ((s4.trans s5).trans z6)
  ·unfold rowsOf;rw[Y1,W8];exact r1
  ·unfold rowsOf;rw[Y1,W8];exact r5
  ·obtain⟨k,hk,rfl⟩:=XC.mp ht;refine⟨?_,fun x hx=>vm x ?_⟩
   ·show (rowOf vs n k).toArray.size=n;rw[Xo];exact zen vl (Xc.mp hk)
   ·exact RS (V6 hx)
  ·rw[zem,zfi,zby,SL,<- vl,Xw];exact vc
theorem zn5 (x:Nat)(xs:List Nat):inV (.int ((x:Nat):Int)) (pV xs)=decide (x∈xs):=by
 unfold inV pV;rw[Uf,Wz,Wu,decide_eq_true_eq];constructor
 ·rintro⟨y,hy,h⟩;have h':eqV (.int ((y:Nat):Int)) (.int ((x:Nat):Int))=true:=h;have:y=x:=by
   unfold eqV at h';have h2:((y:Nat):Int)=((x:Nat):Int):=by simpa using h'
   lia
  rw[<- this];exact hy
 ·intro h;refine⟨x,h,?_⟩;show eqV (.int ((x:Nat):Int)) (.int ((x:Nat):Int))=true;unfold eqV;simp
theorem ziI (xs:List Nat):(pV xs).all zaf=true:=by
 unfold pV;rw[List.all_map,WL];intro x _;rfl
theorem Zh (xs:List Nat):(pV xs).length=xs.length:=Y1 _
theorem zfk (xs:List Nat)(x:Nat):pV (xs++[x])=pV xs++[.int ((x:Nat):Int)]:=by
 unfold pV;rw[Xj];rfl
abbrev Qn:=Int×List Nat
def zbj (H:Hp):List V->List Qn->Prop:=WV fun v q=>∃t l,v=V.ref t/\H t=some (.tup [.int q.1,.ref l])/\H l=some (.lst (pV q.2))
theorem zep {H H':Hp}(s:zu H H'){us:List V}{qs:List Qn}(hp:zbj H us qs):zbj H' us qs:=by
 induction hp with
 | nil=>exact .nil
 | cons q _ ih =>
  obtain⟨t,l,e,h1,h2⟩:=q;exact .cons ⟨t,l,e,s _ _ h1,s _ _ h2⟩ ih
theorem zny {H:Hp}{us:List V}{qs:List Qn}{i:Nat}{v:V}(h:zbj H us qs)(e:us[i]?=some v):∃q t l,qs[i]?=some q/\v=V.ref t/\H t=some (.tup [.int q.1,.ref l])/\H l=some (.lst (pV q.2)):=by
 obtain⟨q,h1,t,l,h2⟩:=zcf h e;exact⟨q,t,l,h1,h2⟩
def zhK (S:List Nat)(q:Qn):Bool:=decide ((((q.2.filter fun k=>decide (k∈S)).length:Nat):Int)=q.1)
def zaN (qs:List Qn)(S:List Nat):Bool:=qs.all (zhK S)
def zpu:Sp:=fun vs H Q _=>∃(sa na:Addr) (S:List Nat) (us:List V) (qs:List Qn),vs=[.ref sa,.ref na]/\H sa=some (.lst (pV S))/\H na=some (.lst us)/\zbj H us qs/\(∀q∈qs,q.2.length<=64)/\∀H',zu H H'->Q (.bl (zaN qs S)) H'
def PLs (H:Hp):List V->List (List Nat)->Prop:=WV fun v S=>∃a,v=V.ref a/\H a=some (.lst (pV S))
theorem YS {H H':Hp}(s:zu H H'){us:List V}{ks:List (List Nat)}(hp:PLs H us ks):PLs H' us ks:=by
 induction hp with
 | nil=>exact .nil
 | cons q _ ih =>
  obtain⟨a,e,h⟩:=q;exact .cons ⟨a,e,s _ _ h⟩ ih
theorem Yk {H:Hp}{us:List V}{ks:List (List Nat)}(h:PLs H us ks):us.length=ks.length:=Paired.length h
theorem ziJ {H:Hp}{us:List V}{ks:List (List Nat)}{us':List V}{ks':List (List Nat)}(h:PLs H us ks)(k:PLs H us' ks'):PLs H (us++us') (ks++ks'):=zaW h k
theorem zlX {H:Hp}{us:List V}{ks:List (List Nat)}{i:Nat}{v:V}(h:PLs H us ks)(e:us[i]?=some v):∃S a,ks[i]?=some S/\v=V.ref a/\H a=some (.lst (pV S)):=by
 obtain⟨S,h1,a,h2⟩:=zcf h e;exact⟨S,a,h1,h2⟩
theorem zgB {H:Hp}{z:Addr}{o:HO}{us:List V}{ks:List (List Nat)}(hp:PLs H us ks)(n:∀v∈us,v≠V.ref z):PLs (upd H z o) us ks:=by
 induction hp with
 | nil=>exact .nil
 | cons q _ ih =>
  obtain⟨a,e,h⟩:=q;exact .cons ⟨a,e,by rw[zh fun y=>n _ XS (by rw[e,y])];exact h⟩ (ih fun v hv=>n v (XT _ hv))
def zpv:Sp:=fun vs H Q _=>∃m:Nat,vs=[.int (m:Nat)]/\m<=14/\∀(d:Addr) (us:List V) (H':Hp),H d=none->H' d=some (.lst us)->PLs H' us (Subs.subs (XD m))->(∀v∈us,∀a,v=V.ref a->H a=none)->zu H H'->Q (.ref d) H'
theorem zbk {α:Type}(cs:List α):(Subs.subs cs).length=2^cs.length:=by
 rw[Subs.Qa,Y1,W8]
theorem YT:zF ["_law_some","_law_numbers_here","_law_number","_law_spots"] ["_law_some","_law_numbers_here"] (zg JP):=⟨rfl,rfl,rfl,by decide +kernel,rfl,by decide +kernel,by decide +kernel⟩
theorem zgC (T:Txt mg)(D:zk K mg "_law_fits" JP ["_law_some","_law_numbers_here"] f fd):qk P w K mg base CX0 1 f fd ["_law_some","_law_numbers_here"] zpu:=by
 refine D.F.ok YT (fun vs H Q E h=>?_) (fun cdv A outer s H vs Q E hr h=>?_)
 ·obtain⟨sa,na,S,us,qs,rfl,_⟩:=h;rfl
 ·obtain⟨sa,na,S,us,qs,rfl,hsa,hna,hq,ql,q⟩:=h;refine⟨_,(zd (qj Xe rfl (zM (pvS 1)) (JE rfl (zT (zm (i:=2) YT.nd rfl (XM rfl)) (zT (zm (i:=3) YT.nd rfl (XM rfl)) yc))) (zf (qX (zH Qq (zp zB (by rfl) T.ji W0 (za (qh (N:=["_law_k","_law_some"]) (src:=[none,some 0]) (zU.free (O:=(zg JP).names) (XN:=["_law_some","_law_numbers_here","_law_number","_law_spots"]) rfl rfl ⟨_,rfl⟩ rfl rfl (by decide +kernel) (by decide +kernel) (by decide +kernel) rfl (by decide +kernel)) rfl (zM (pvS 3)) (fun _ _ _ _ _=>(zm (i:=0) (by show WW (["_law_k","_law_some"]:List Str);decide +kernel) rfl (XM rfl))) (fun _ _ _ _ _=>(qD (zH (zcs (K:=K) (by rfl)) (pvS 0) (pvS 1) (by rfl)))) (fun _ _ _ _ _=>(pvS 0))) zb)) (pvS 2) (zQ _)) (zf (zG Qp)) zZ)))
   (zf (zG Qp))),?_⟩
  refine⟨_,rfl,na,rfl,⟨_,SqL.of hna⟩,?_⟩;refine jS (K:=K) (a:=na) (xs:=us) (fun i σ H'=>∃(v2 v3:Option V),σ=[some (.ref sa),some (.ref na),v2,v3]/\zu H H'/\zaN (qs.take i) S=true)
   ⟨_,_,rfl,zu.refl _,rfl⟩ (fun i σ H' _ ⟨_,_,_,y,_⟩=>SqL.of (y _ _ hna)) ?_ ?_
  ·rintro i v σ H1 hv ⟨v2,v3,rfl,s1,hf⟩;obtain⟨qn,t,l,hqi,rfl,ht,hl⟩:=zny hq hv;have q64:=ql qn (X0 hqi);have tk:zaN (qs.take (i+1)) S=(zaN (qs.take i) S&&zhK S qn):=by
    unfold zaN;rw[Xu,hqi,List.all_append];show (_&&(zhK S qn&&true))=_;rw[T2]
   refine⟨t,_,rfl,SqT.of (s1 _ _ ht),rfl,_,_,rfl,_,_,rfl,rfl,?_⟩;refine⟨_,rfl,l,rfl,⟨_,SqL.of (s1 _ _ hl)⟩,fun z hz=>?_⟩;refine qx (K:=K) (a:=l) (xs:=pV qn.2) (fun j σ' H'=>∃(u0:Option V) (ys:List V),σ'=[u0,some (.ref sa)]/\zu H1 H'/\H' z=some (.lst ys)/\ys.length=((qn.2.take j).filter fun k=>decide (k∈S)).length)
    ⟨_,[],rfl,ze hz,zc,rfl⟩ (fun j σ' H' _ ⟨_,_,_,y,_⟩=>SqL.of (y _ _ (s1 _ _ hl))) ?_ ?_
   ·rintro j x σ' H2 hx ⟨u0,ys,rfl,s2,hz2,yl⟩;obtain⟨k,hk,rfl⟩:=zlW hx;have jl:=(XY.mp hk).1;have e1:(qn.2.take (j+1)).filter (fun k=>decide (k∈S))=(qn.2.take j).filter (fun k=>decide (k∈S))++if decide (k∈S)=true then [k] else []:=by
     rw[Xu,hk,W3];congr 1;show Uj _ [k]=_;rw[Wv];split<;>rfl
    refine⟨_,rfl,_,rfl,sa,_,rfl,.inl (SqL.of (s2 _ _ (s1 _ _ hsa))),rfl,ziI S,_,rfl,?_⟩;have hb:(if false=true then !inV (.int ((k:Nat):Int)) (pV S) else inV (.int ((k:Nat):Int)) (pV S))=decide (k∈S):=zn5 k S;by_cases hp:decide (k∈S)=true
    ·rw[if_pos hp] at e1;refine yp (hb.trans hp) ⟨_,rfl,_,hz2,?_,_,_,rfl,fun b o e=>?_,zc,?_⟩
     ·rw[yl];refine XF (X5 (W6 _ _) ?_) (show 64<Xz by decide);rw[XE];lia
     ·rw[zh (zj e hz)];exact s2 _ _ e
     ·rw[e1,XU,XU,yl];rfl
    ·rw[if_neg hp,Xa] at e1;exact jM (hb.trans (Xy.mpr hp)) ⟨_,ys,rfl,s2,hz2,by rw[e1];exact yl⟩
   rintro σ' H2 ⟨u0,ys,rfl,s2,hz2,yl⟩;rw[Zh,Xw] at yl;refine⟨z,ys,rfl,.inl (SqL.of hz2),_,rfl,rfl,_,rfl,?_⟩;have hb:(!decide (V.int ((ys.length:Nat):Int)=V.int qn.1))=!zhK S qn:=by
    unfold zhK;rw[yl];congr 1;exact decide_eq_decide.mpr ⟨fun h=>by injection h,fun h=>by rw[h]⟩
   by_cases hp:zhK S qn=true
   ·refine jM (hb.trans (by rw[hp];rfl)) ?_;refine⟨_,_,rfl,s1.trans s2,?_⟩;rw[tk,hf,hp];rfl
   ·have hp':zhK S qn=false:=Xy.mpr hp;refine yp (hb.trans (by rw[hp'];rfl)) ?_;have:zaN qs S=false:=by
     rw[Xy];intro h;unfold zaN at h;rw[WL] at h;exact hp (h qn (X0 hqi))
    rw[this] at q;exact q H2 (s1.trans s2)
  ·rintro σ H1 ⟨v2,v3,rfl,s1,hf⟩;rw[show us.length=qs.length from Paired.length hq,Xw] at hf;rw[hf] at q;exact q H1 s1
theorem xg:zF ["_law_many","_law_found","_law_k"] ["_law_many"] (zg yw):=⟨rfl,rfl,rfl,by decide +kernel,rfl,by decide +kernel,by decide +kernel⟩
theorem zc5 (T:Txt mg)(D:zk K mg "_law_choices" yw ["_law_many"] f fd):qk P w K mg base CX0 1 f fd ["_law_many"] zpv:=by
 refine D.F.ok xg (fun vs H Q E h=>?_) (fun cdv A outer s H vs Q E hr h=>?_)
 ·obtain⟨m,rfl,_⟩:=h;rfl
 ·obtain⟨m,rfl,m14,q⟩:=h;refine⟨_,(zd (zq (i:=1) xg.nd rfl (XM rfl) (qa (za (qa zb) zb)))
   (zd (qj Xe rfl (qI (by rfl) T.jd (za (pvS 0) zb)) (zm (i:=2) xg.nd rfl (UV rfl)) (zf (zq (i:=1) xg.nd rfl (XM rfl) (zz ZT (pvS 1) (qh (N:=["_law_one","_law_k"]) (src:=[none,some 2]) (zU.free (O:=(zg yw).names) (XN:=["_law_many","_law_found","_law_k"]) rfl rfl ⟨_,rfl⟩ rfl rfl (by decide +kernel) (by decide +kernel) (by decide +kernel) rfl (by decide +kernel)) rfl (zM (pvS 1)) (fun _ _ _ _ _=>(zm (i:=0) (by show WW (["_law_one","_law_k"]:List Str);decide +kernel) rfl (XM rfl))) (fun _ _ _ _ _=>qN) (fun _ _ _ _ _=>(zz ZT (pvS 0) (qa (za (pvS 1) zb)))))))))
   (zf (zG (pvS 1))))),?_⟩
  refine⟨Z1,fun e0 he0=>⟨sz_1,fun f0 hf0=>?_⟩⟩;have y1:=ze (o:=.lst []) he0;have y2:=ze (o:=.lst [.ref e0]) hf0;have y12:=y1.trans y2;have hL0:PLs (upd (upd H e0 (.lst [])) f0 (.lst [.ref e0])) [.ref e0] [[]]:=.cons ⟨e0,rfl,y2 _ _ zc⟩ .nil;have hf2:upd (upd H e0 (.lst [])) f0 (.lst [.ref e0]) f0=some (.lst [.ref e0]):=zc;have fn:=y1.free hf0;generalize upd (upd H e0 (.lst [])) f0 (.lst [.ref e0])=H2 at *
  refine⟨_,rfl,_,rfl,by lia,by lia,?_⟩;refine qw (lo:=0) (n:=((m:Nat):Int).toNat) (fun i σ H'=>∃(fa:Addr) (fs:List V) (v2:Option V),σ=[some (.int (m:Nat)),some (.ref fa),v2]/\zu H H'/\H fa=none/\H' fa=some (.lst fs)/\PLs H' fs (Subs.subs (XD i))/\∀v∈fs,∀a,v=V.ref a->H a=none)
   ⟨f0,_,_,rfl,y12,fn,hf2,hL0,fun v hv a ea=>by
    have:v=V.ref e0:=by simpa using hv
    rw[this] at ea;cases ea;exact he0⟩ ?_ ?_
  ·rintro i σ H3 hi ⟨fa,fs,v2,rfl,s3,fan,hfa,hL,hnw⟩;have im:i<m:=by lia
   have fl:fs.length<=8192:=by
    rw[Yk hL,zbk,W8];exact X5 (Wf (by decide) (show i<=13 by lia)) (by decide)
   have eF:Subs.subs (XD (i+1))=Subs.step (Subs.subs (XD i)) i:=by
    rw[U6];exact Subs.zdY _ _
   generalize hF:Subs.subs (XD i)=F at *
   have fd:∀S∈F,S.length<=64:=fun S hS=>by
    rw[<- hF] at hS;have:=(Tally.jP hS).length_le;rw[W8] at this;lia
   refine⟨_,rfl,_,rfl,fa,rfl,⟨_,SqL.of hfa⟩,fun z hz=>?_⟩;refine qx (K:=K) (a:=fa) (xs:=fs) (fun j σ' H'=>∃(u0:Option V) (ys:List V),σ'=[u0,some (.int (0+(i:Int)))]/\zu H3 H'/\H' z=some (.lst ys)/\(∀v∈ys,v≠V.ref z)/\PLs H' ys ((F.take j).map (·++[i]))/\∀v∈ys,∀a,v=V.ref a->H a=none)
    ⟨_,[],rfl,ze hz,zc,(fun _ h=>nomatch h),.nil,(fun _ h=>nomatch h)⟩ (fun j σ' H' _ ⟨_,_,_,z,_⟩=>SqL.of (z _ _ hfa)) ?_ ?_
   ·rintro j v σ' H4 hv ⟨u0,ys,rfl,s4,hz4,nz,hL4,hnw4⟩;obtain⟨S,a,hS,rfl,ha⟩:=zlX hL hv;have jl:=(XY.mp hS).1;have Sl:=fd S (X0 hS);unfold Jf;refine QT ?_;refine⟨_,rfl,_,rfl,sz_1,fun t1 ht1=>?_⟩;have y5:=ze (o:=.lst [V.int (0+(i:Int))]) ht1;refine⟨a,t1,pV S,_,rfl,rfl,y5 _ _ (s4 _ _ ha),zc,X5 (show (pV S).length+1<=100 by rw[Zh];lia) (by decide),fun t2 ht2=>?_⟩;have y6:=ze (o:=.lst (pV S++[V.int (0+(i:Int))])) ht2;have y56:=y5.trans y6;have h6:upd (upd H4 t1 (.lst [V.int (0+(i:Int))])) t2 (.lst (pV S++[V.int (0+(i:Int))])) t2=some (.lst (pV (S++[i]))):=by
     rw[zc,zfk,show (0:Int)+(i:Int)=((i:Nat):Int) by lia]
    have tz:t2≠z:=fun e=>by
     subst e;rw[y5 _ _ hz4] at ht2;cases ht2
    have n0:H t2=none:=s3.free (s4.free (y5.free ht2));generalize upd (upd H4 t1 (.lst [V.int (0+(i:Int))])) t2 (.lst (pV S++[V.int (0+(i:Int))]))=H6 at *
    refine⟨_,y56 _ _ hz4,?_,_,ys++[.ref t2],rfl,fun b o e=>?_,zc,fun v hv=>?_,?_,fun v hv a' ea=>?_⟩
    ·rw[Yk hL4,Y1,XE];have:=Yk hL;exact XF (show _<=8192 by lia) (by decide)
    ·rw[zh (zj e hz)];exact y56 _ _ (s4 _ _ e)
    ·rcases XG.mp hv with hv | hv
     ·exact nz v hv
     ·have:v=V.ref t2:=by simpa using hv
      rw[this];intro y;cases y;exact tz rfl
    ·have e1:(F.take (j+1)).map (·++[i])=(F.take j).map (·++[i])++[S++[i]]:=by
      rw[Xu,hS,Xj];rfl
     rw[e1];exact ziJ (zgB (YS y56 hL4) nz) (.cons ⟨t2,rfl,by rw[zh tz];exact h6⟩ .nil)
    ·rcases XG.mp hv with hv | hv
     ·exact hnw4 v hv a' ea
     ·have:v=V.ref t2:=by simpa using hv
      rw[this] at ea;cases ea;exact n0
   rintro σ' H4 ⟨u0,ys,rfl,s4,hz4,_,hL4,hnw4⟩;rw[Yk hL,Xw] at hL4;have yl:ys.length<=8192:=by
    rw[Yk hL4,Y1,<- Yk hL];exact fl
   refine⟨fa,z,fs,ys,rfl,rfl,s4 _ _ hfa,hz4,X5 (show _<=16384 by lia) (by decide),fun g hg=>?_⟩;have y7:=ze (o:=.lst (fs++ys)) hg;refine⟨g,fs++ys,_,rfl,(s3.trans s4).trans y7,(s3.trans s4).free hg,zc,?_,fun v hv=>?_⟩
   ·rw[eF];exact YS y7 (ziJ (YS s4 hL) hL4)
   ·rcases XG.mp hv with hv | hv
    ·exact hnw v hv
    ·exact hnw4 v hv
  ·rintro σ H3 ⟨fa,fs,v2,rfl,s3,fan,hfa,hL,hnw⟩;rw[WY] at hL;exact⟨_,rfl,q fa fs H3 fan hfa hL hnw s3⟩
def pos (n x:Nat):Nat×Nat:=(x/n,x%n)
def jJ (rs:List Str):List Nat:=(codes rs).flatten
theorem zgD {a b:List Nat}{x:Nat}(h:x<a.length):(a++b).getD x 0=a.getD x 0:=by
 rw[XB,XB,V4 h]
theorem zgE {a b:List Nat}(x:Nat):(a++b).getD (a.length+x) 0=b.getD x 0:=by
 rw[XB,XB,VR (by lia),SS]
theorem zc6 (p:Nat->Bool)(i:Nat):∀(t:List Nat) (j:Nat),Cells.zY p i j t=((XD t.length).filter fun x=>p (t.getD x 0)).map fun x=>(i,j+x)
 | [],_=>rfl
 | c::r,j=>by
  rw[Cells.zY,zc6 p i r (j+1),Xs,List.range_succ_eq_map,Wv,T6];have e:Uj ((fun x=>p ((c::r).getD x 0))∘Nat.succ) (XD r.length)=Uj (fun x=>p (r.getD x 0)) (XD r.length):=rfl;rw[e];by_cases h:p c=true
  ·rw[if_pos h,if_pos (show p ((c::r).getD 0 0)=true from h),Xf,WR];show [(i,j)]++_=_;refine congrArg (fun l=>(i,j)::l) (Xi fun x _=>?_);show (i,j+1+x)=(i,j+(x+1));rw[Ob,TF 1 x]
  ·rw[if_neg h,if_neg (show ¬p ((c::r).getD 0 0)=true from h),RP,WR];refine Xi fun x _=>?_;show (i,j+1+x)=(i,j+(x+1));rw[Ob,TF 1 x]
theorem zgF {n:Nat}:∀{gs:List (List Nat)},(∀t∈gs,t.length=n)->gs.flatten.length=gs.length*n
 | [],_=>by simp
 | t::r,h=>by
  rw[WM,XU,zgF fun u hu=>h u (XT _ hu),h t XS,Xs,RG,TF]
theorem zhL (p:Nat->Bool){n:Nat}(n1:1<=n):∀(gs:List (List Nat)) (i:Nat),(∀t∈gs,t.length=n)->Cells.zJ p i gs=((XD (gs.length*n)).filter fun x=>p (gs.flatten.getD x 0)).map fun x=>(i+x/n,x%n):=by
 intro gs;induction gs with
 | nil=>exact fun _ _=>by simp[Cells.zJ]
 | cons t r ih =>
  intro i h;have tl:=h t XS;rw[Cells.zJ,zc6,ih (i+1) fun u hu=>h u (XT _ hu),Xs,RG,TF (r.length*n) n,List.range_add,W3,Xj,tl];congr 1
  ·have e:(XD n).filter (fun x=>p ((t::r).flatten.getD x 0))=(XD n).filter fun x=>p (t.getD x 0):=Vb fun x hx=>by
    rw[WM,zgD (by rw[tl];exact Xc.mp hx)]
   rw[e];refine Xi fun x hx=>?_;have hx:=Xc.mp (XV.mp hx).1;rw[Nat.div_eq_of_lt hx,Nat.mod_eq_of_lt hx,V2];rfl
  ·rw[T6,WR];have e:(XD (r.length*n)).filter ((fun x=>p ((t::r).flatten.getD x 0))∘fun x=>n+x)=(XD (r.length*n)).filter fun x=>p (r.flatten.getD x 0):=Vb fun x _=>by
    show p ((t::r).flatten.getD (n+x) 0)=_;rw[WM,<- tl,zgE]
   rw[e];refine Xi fun x _=>?_;show (i+1+x/n,x%n)=(i+(n+x)/n,(n+x)%n);rw[Nat.add_div_left x (by lia),Nat.add_mod_left,Ob,TF 1]
structure Wide (rs:List Str)(n:Nat):Prop where
 n1:1<=n
 n5:n<=5
 row:∀t∈rs,Row bd.cps.toList n t
section
variable {rs:List Str}{n:Nat}(W:Wide rs n)
include W
theorem Wide.lens:∀t∈codes rs,t.length=n:=fun t ht=>by
 obtain⟨u,hu,rfl⟩:=XC.mp ht;rw[X4];exact(W.row u hu).len
theorem Wide.flat:(jJ rs).length=rs.length*n:=by
 unfold jJ;rw[zgF W.lens,jr]
theorem Wide.cells (p:Nat->Bool):Cells.zJ p 0 (codes rs)=((XD (rs.length*n)).filter fun x=>p ((jJ rs).getD x 0)).map (pos n):=by
 rw[zhL p W.n1 _ 0 W.lens,jr];refine Xi fun x _=>?_;unfold pos;rw[V2]
theorem Wide.mem {p:Nat->Bool}{c:Nat×Nat}:c∈Cells.zJ p 0 (codes rs) ↔ ∃x,x<rs.length*n/\p ((jJ rs).getD x 0)=true/\c=pos n x:=by
 rw[W.cells p,XC];constructor
 ·rintro⟨x,hx,rfl⟩;obtain⟨h1,h2⟩:=XV.mp hx;exact⟨x,Xc.mp h1,h2,rfl⟩
 ·rintro⟨x,h1,h2,rfl⟩;exact⟨x,XV.mpr ⟨Xc.mpr h1,h2⟩,rfl⟩
theorem Wide.inj {x y:Nat}(h:pos n x=pos n y):x=y:=by
 have h1:x/n=y/n:=congrArg Prod.fst h;have h2:x%n=y%n:=congrArg Prod.snd h;rw[<- Nat.div_add_mod x n,<- Nat.div_add_mod y n,h1,h2]
theorem Wide.sgn {x:Nat}(hx:x<rs.length*n):Cells.sgn (codes rs) (pos n x)=(jJ rs).getD x 0:=by
 have hm:pos n x∈Cells.zJ (fun _=>true) 0 (codes rs):=W.mem.mpr ⟨x,hx,rfl,rfl⟩;have hk:pos n x∈Cells.zJ (fun k=>decide (k=Cells.sgn (codes rs) (pos n x))) 0 (codes rs):=by
  obtain⟨t,k,ht,hj,_,es⟩:=qg hm;have:=Yb (p:=fun k=>decide (k=Cells.sgn (codes rs) (pos n x))) (i:=0) (jL ht) hj (decide_eq_true es.symm);rwa [V2] at this
 obtain⟨y,_,h2,h3⟩:=W.mem.mp hk;rw[<- W.inj h3] at h2;exact(of_decide_eq_true h2).symm
theorem Wide.near {x y:Nat}(hy:y<rs.length*n)(hc:qo ((jJ rs).getD y 0)=true):nearF rs (pos n x) (pos n y)=true↔y∈Jg rs.length n x:=by
 unfold Jg nrP;rw[Qk,XV,Xc];unfold zI;rw[XV];constructor
 ·rintro⟨_,h⟩;exact⟨hy,h⟩
 ·rintro⟨_,h⟩;exact⟨W.mem.mpr ⟨y,hy,hc,rfl⟩,h⟩
end
def je (rs:List Str)(n:Nat)(nh:List Nat)(x:Nat):List Nat:=(XD nh.length).filter fun k=>decide (nh.getD k 0∈Jg rs.length n x)
def jq (rs:List Str)(n:Nat):List Nat:=(XD (rs.length*n)).filter fun x=>decide ((jJ rs).getD x 0=63)
def ZL (rs:List Str)(n:Nat)(sh:List Nat)(N:Nat):List Qn:=((XD N).filter fun x=>Yo ((jJ rs).getD x 0)&&(!(je rs n sh x).isEmpty || !decide ((jJ rs).getD x 0=48))).map fun x=>(((((jJ rs).getD x 0:Nat):Int)-48),je rs n sh x)
def QB (rs:List Str)(n:Nat)(st:Int):List (List (Int×Int)):=((Subs.subs (XD (jq rs n).length)).filter fun S=>decide (((S.length:Nat):Int)=st)&&zaN (ZL rs n (jq rs n) (rs.length*n)) S).map fun S=>S.map fun k=>toI (pos n ((jq rs n).getD k 0))
section
variable {rs:List Str}{n:Nat}(W:Wide rs n)
include W
theorem zc7:(jq rs n).map (pos n)=zL rs:=(W.cells qA).symm
theorem zlY {x:Nat}:x∈jq rs n↔x<rs.length*n/\(jJ rs).getD x 0=63:=by
 unfold jq;rw[XV,Xc,decide_eq_true_eq]
theorem zlZ {x:Nat}{S:List Nat}(hS:S.Sublist (XD (jq rs n).length)):Grow.cnt (nearF rs) (pos n x) (S.map fun k=>pos n ((jq rs n).getD k 0))=((je rs n (jq rs n) x).filter fun k=>decide (k∈S)).length:=by
 have nS:S.Nodup:=List.nodup_range.sublist hS;have nP:(je rs n (jq rs n) x).Nodup:=List.nodup_range.sublist Wc;rw[Tally.zlf nP nS];unfold Grow.cnt;rw[T6,Y1];congr 1;refine Vb fun k hk=>?_;have kl:=Xc.mp (hS.subset hk);obtain⟨a1,a2⟩:=(zlY W).mp (getD_mem kl);show nearF rs (pos n x) (pos n ((jq rs n).getD k 0))=decide (k∈je rs n (jq rs n) x);rw[Wz,W.near a1 (by rw[a2];decide),decide_eq_true_eq];unfold je;rw[XV,Xc,decide_eq_true_eq];exact⟨fun h=>⟨kl,h⟩,fun h=>h.2⟩
theorem zhM {S:List Nat}(hS:S.Sublist (XD (jq rs n).length)):zaN (ZL rs n (jq rs n) (rs.length*n)) S=jE rs (S.map fun k=>pos n ((jq rs n).getD k 0)):=by
 rw[Wz,Yh];unfold zaN ZL;rw[List.all_map,WL];constructor
 ·intro h o ho;obtain⟨x,hx,hp,rfl⟩:=W.mem.mp ho;rw[zlZ W hS];unfold jw;rw[W.sgn hx];by_cases hs:(!(je rs n (jq rs n) x).isEmpty || !decide ((jJ rs).getD x 0=48))=true
  ·exact of_decide_eq_true (h x (XV.mpr ⟨Xc.mpr hx,by rw[hp,hs];rfl⟩))
  ·rw[RN,not_or] at hs;have e1:je rs n (jq rs n) x=[]:=by
    have:=hs.1;rw[WE,So] at this;exact Pz.mp this
   have e2:(jJ rs).getD x 0=48:=by
    have:=hs.2;rw[WE,So] at this;exact of_decide_eq_true this
   rw[e1,e2];rfl
 ·intro h x hx;obtain⟨h1,h2⟩:=XV.mp hx;have hxN:=Xc.mp h1;have hp:=(Wg.mp h2).1;have hh:=h (pos n x) (W.mem.mpr ⟨x,hxN,hp,rfl⟩);rw[zlZ W hS] at hh;unfold jw at hh;rw[W.sgn hxN] at hh;exact decide_eq_true hh
theorem zl0:(XD (jq rs n).length).map (fun k=>pos n ((jq rs n).getD k 0))=zL rs:=by
 rw[<- zc7 W,show (fun k=>pos n ((jq rs n).getD k 0))=pos n∘fun k=>(jq rs n).getD k 0 from rfl,<- WR,Tally.zcA]
theorem zgG {st:Int}(h:0<=st)(p:List (Nat×Nat)->Bool)(q:List (Int×Int)->Bool)(hq:∀T,q (toL T)=p T):(((QB rs n st).countP q:Nat):Int)=((Tally.T (zL rs) (fun S=>jE rs S&&p S) st.toNat:Nat):Int):=by
 congr 1;rw[<- zl0 W,Tally.zqr];unfold QB Tally.T;rw[Td,List.countP_filter];refine Vy fun S hS=>?_;have e1:=zhM W (Tally.jP hS);have e2:decide (((S.length:Nat):Int)=st)=decide (S.length=st.toNat):=decide_eq_decide.mpr (by lia);have e3:q (S.map fun k=>toI (pos n ((jq rs n).getD k 0)))=p (S.map fun k=>pos n ((jq rs n).getD k 0)):=by
  rw[<- hq];unfold toL;rw[WR];rfl
 show (q (S.map fun k=>toI (pos n ((jq rs n).getD k 0)))&&(decide (((S.length:Nat):Int)=st)&&zaN (ZL rs n (jq rs n) (rs.length*n)) S))=true↔_;rw[e1,e2,e3,RZ,Sz]
theorem zl1 {st:Int}(h:0<=st):(((QB rs n st).length:Nat):Int)=jO rs st:=by
 have:=zgG W h (fun _=>true) (fun _=>true) fun _=>rfl;rw[List.countP_true] at this;unfold jO;rw[this];congr 1;exact Tally.zit (fun S _=>T2 _) _
theorem znz {st:Int}(h:0<=st)(c:Nat×Nat):((((QB rs n st).filter (YL c)).length:Nat):Int)=jk rs st c:=by
 rw[<- List.countP_eq_length_filter];exact zgG W h (fun S=>decide (c∈S)) (YL c) (ziE c)
end
theorem zbl:∀rs:List Str,(UJ "" rs).cps.toList=(codes rs).flatten
 | []=>by decide +kernel
 | [t]=>by
  show t.cps.toList=_;unfold codes;simp
 | t::u::r=>by
  have ih:=zbl (u::r);show (t++("":Str)++UJ "" (u::r)).cps.toList=_;rw[zc4,zc4,ih];have e:("":Str).cps.toList=[]:=by decide +kernel
  rw[e,Xa];rfl
theorem zqI (xs:List Nat):pV xs=iL (xs.map fun x=>((x:Nat):Int)):=by
 unfold pV;show _=Ur V.int _;rw[WR];rfl
theorem zjU:∀xs:List Int,WX (ZH xs) (ZH [])=xs.isEmpty
 | []=>zhy []
 | _::_=>rfl
theorem zhN {c:Nat}(h:c∈bd.cps.toList):(!(!(Va ("?#":Str) ⟨#[c]⟩ 0 ("?#":Str).length 1).isEmpty))=Yo c:=by
 have:∀c∈bd.cps.toList,(!(!(Va ("?#":Str) ⟨#[c]⟩ 0 ("?#":Str).length 1).isEmpty))=Yo c:=by decide +kernel
 exact this c h
theorem zgH {α:Type}{p:α->Bool}{L:List α}{j:Nat}{k:α}(hk:L[j]?=some k):(L.take (j+1)).filter p=(L.take j).filter p++if p k=true then [k] else []:=by
 rw[Xu,hk,W3];congr 1;show Uj _ [k]=_;rw[Wv];split<;>rfl
theorem Yl {p:Nat->Bool}(j:Nat):(XD (j+1)).filter p=(XD j).filter p++if p j=true then [j] else []:=by
 rw[U6,W3];congr 1;show Uj _ [j]=_;rw[Wv];split<;>rfl
theorem zn6 {rs:List Str}{n:Nat}(W:Wide rs n){x:Nat}(h:x<rs.length*n):(jJ rs).getD x 0∈bd.cps.toList:=by
 have hm:(jJ rs).getD x 0∈jJ rs:=getD_mem (by rw[W.flat];exact h);obtain⟨t,ht,hx⟩:=Ws.mp hm;obtain⟨u,hu,rfl⟩:=XC.mp ht;exact(W.row u hu).mem _ hx
theorem zn7 {rs:List Str}{n:Nat}(W:Wide rs n){x:Nat}(h:x<rs.length*n):(jJ rs)[x]?=some ((jJ rs).getD x 0):=by
 rw[XB,X7 (by rw[W.flat];exact h)];rfl
def zpw:Sp:=fun vs H Q _=>∃(l:Addr) (rs:List Str),vs=[.ref l]/\H l=some (.lst (rs.map V.str))/\Rows bd.cps.toList rs /\
 ∀(d:Addr) (ws:List V) (H':Hp),H d=none->H' d=some (.lst ws)->Cel H' ws (zL rs)->zu H H'->Q (.ref d) H'
theorem xW:zF ["_law_texts_here","_law_found","_law_row","_law_column"] ["_law_texts_here"] (zg Jv):=⟨rfl,rfl,rfl,by decide +kernel,rfl,by decide +kernel,by decide +kernel⟩
theorem zdw (T:Txt mg)(D:zk K mg "_law_closed" Jv ["_law_texts_here"] f fd):qk P w K mg base CX0 1 f fd ["_law_texts_here"] zpw:=by
 refine D.F.ok xW (fun vs H Q E h=>?_) (fun cdv A outer s H vs Q E hr h=>?_)
 ·obtain⟨l,rs,rfl,_⟩:=h;rfl
 ·obtain⟨l,rs,rfl,hl,R,q⟩:=h;obtain⟨C,c1,c8,hC⟩:=R.ex;have hlo:=R.lo;have hhi:=R.hi;refine⟨_,(zd (zq (i:=1) xW.nd rfl (XM rfl) (qa zb))
   (zd (qj Xe rfl (qI (by rfl) T.jd (za (zp zB (by rfl) T.ji W0 (za (pvS 0) zb)) zb)) (zm (i:=2) xW.nd rfl (XM rfl)) (zf (qj Xe rfl (qI (by rfl) T.jd (za (zp yS (by rfl) T.ji W0 (za (qi qO (pvS 0) zo (fun _ _=>rfl)) zb)) zb)) (zm (i:=3) xW.nd rfl (XM rfl)) (zf (qX (zH JF (qi J3 (qi qO (pvS 0) (pvS 2) (fun _ _=>rfl)) (pvS 3) (fun _ _=>rfl)) qp (zQ _)) (zf (yy (xY WO Wl Wj jA (pvS 1) (za (jU (za (pvS 2) (za (pvS 3) zb))) zb)))) zZ)))))
   (zf (zG (pvS 1))))),?_⟩
  refine⟨Z1,fun d hd=>?_⟩;have s0:zu H (upd H d (.lst [])):=ze hd;have rl:(rs.map V.str).length=rs.length:=Y1 _;refine⟨_,rfl,l,_,rfl,.inl (SqL.of (s0 _ _ hl)),_,rfl,by lia,by lia,?_⟩;rw[WY,rl];refine qw (lo:=0) (n:=rs.length) (fun i σ H'=>∃(v2 v3:Option V) (ws:List V),σ=[some (.ref l),some (.ref d),v2,v3]/\zu H H'/\H' d=some (.lst ws)/\Cel H' ws (Cells.zJ qA 0 ((codes rs).take i))) ⟨_,_,[],rfl,s0,zc,.nil⟩ ?_ ?_
  ·rintro i σ H1 hi ⟨v2,v3,ws,rfl,s1,hd1,hc1⟩;obtain⟨t0,ht0⟩:∃t0,rs[0]?=some t0:=⟨_,X7 (by lia)⟩;obtain⟨t,ht⟩:∃t,rs[i]?=some t:=⟨_,X7 hi⟩;have e0:t0.length=C:=(hC t0 (X0 ht0)).len;have et:t.cps.toList.length=C:=by
    rw[X4];exact(hC t (X0 ht)).len
   have hat:∀{i:Nat} {t:Str},rs[i]?=some t->(rs.map V.str)[i]?=some (V.str t):=fun h=>by rw[XA,h];rfl
   refine⟨_,rfl,l,_,_,.str t0,rfl,rfl,SqL.of (s1 _ _ hl),jN (by decide) (hat ht0),t0,rfl,R.tlen ht0,_,rfl,?_,?_,?_⟩
   ·show -(2^62)<=((t0.length:Nat):Int);lia
   ·show ((t0.length:Nat):Int)<2^62;lia
   rw[WY,e0];refine qw (lo:=0) (n:=C) (fun j σ H'=>∃(v3:Option V) (ws:List V),σ=[some (.ref l),some (.ref d),some (.int (0+(i:Int))),v3]/\zu H H'/\H' d=some (.lst ws)/\Cel H' ws (Cells.zJ qA 0 ((codes rs).take i)++Cells.zY qA i 0 (t.cps.toList.take j))) ⟨_,ws,rfl,s1,hd1,by rw[List.take_zero];show Cel H1 ws (_++[]);rw[Xa];exact hc1⟩ ?_ ?_
   ·rintro j σ H2 hj ⟨v3,ws2,rfl,s2,hd2,hc2⟩;obtain⟨k,hk⟩:∃k,t.cps.toList[j]?=some k:=⟨_,X7 (by lia)⟩;have st:=Cells.QL (p:=qA) (i:=i) hk;refine⟨_,rfl,_,rfl,l,_,_,.str t,rfl,rfl,SqL.of (s2 _ _ hl),jN (by lia) (by rw[show ((0:Int)+(i:Int)).toNat=i by lia];exact hat ht),_,rfl,t,_,k,rfl,rfl,R.tlen ht,jN (by lia) (by rw[show ((0:Int)+(j:Int)).toNat=j by lia];exact hk),rfl,_,rfl,?_⟩;have ed:decide (V.str ⟨#[k]⟩=V.str "?")=decide (k=63):=by
     rw[Z8];simp only[QN]
    rw[ed];by_cases hp:k=63
    ·rw[decide_eq_true hp];rw[if_pos (show qA k=true from decide_eq_true hp)] at st;refine Qm ?_;have hlen:ws2.length<=1000:=by
      rw[hc2.length,XU];have a1:=Cells.ye qA i 0 (t.cps.toList.take j);have a2:=Cells.jB qA 0 ((codes rs).take i) fun u hu=>R.short u (V6 hu);rw[XE] at a1 a2;lia
     refine⟨_,rfl,.inl ⟨rfl,_,SqL.of hd2⟩,_,rfl,_,rfl,YD,fun p hp=>?_⟩;have s3:=ze (o:=.tup [.int (0+(i:Int)),.int (0+(j:Int))]) hp;refine⟨d,_,_,rfl,rfl,s3 _ _ hd2,XF hlen (by decide),?_⟩;refine⟨_,ws2++[.ref p],rfl,fun b o e=>?_,zc,?_⟩
     ·rw[zh (zj e hd)];exact s3 _ _ (s2 _ _ e)
     ·rw[st,<- W2];refine Cel.into d _ (s3 _ _ hd2) (Cel.snoc (Cel.mono s3 hc2) ⟨p,rfl,?_⟩);rw[zc,RC,RC]
    ·rw[decide_eq_false hp];rw[if_neg (show ¬ qA k=true from fun y=>hp (of_decide_eq_true y)),Xa] at st;refine ZU ⟨_,ws2,rfl,s2,hd2,?_⟩;rw[st];exact hc2
   ·rintro σ H2 ⟨v3,ws2,rfl,s2,hd2,hc2⟩;refine⟨_,_,ws2,rfl,s2,hd2,?_⟩;rw[Ww (l:=t.cps.toList) (by lia)] at hc2;rw[Cells.QM (jL ht)];exact hc2
  ·rintro σ H1 ⟨v2,v3,ws,rfl,s1,hd1,hc1⟩;rw[Ww (by rw[jr];exact XW _)] at hc1;exact⟨_,rfl,q d ws H1 hd hd1 hc1 s1⟩
def zeq (na:Addr)(H:Hp):List V->List Qn->Prop:=WV fun v q=>∃t l,v=V.ref t/\H t=some (.tup [.int q.1,.ref l])/\l≠na/\H l=some (.lst (pV q.2))
theorem zc8 {na:Addr}{H H':Hp}(s:zu H H'){us:List V}{qs:List Qn}(hp:zeq na H us qs):zeq na H' us qs:=by
 induction hp with
 | nil=>exact .nil
 | cons q _ ih =>
  obtain⟨t,l,e,h1,n,h2⟩:=q;exact .cons ⟨t,l,e,s _ _ h1,n,s _ _ h2⟩ ih
theorem zhO {na:Addr}{H:Hp}{us:List V}{qs:List Qn}(hp:zeq na H us qs):zbj H us qs:=by
 induction hp with
 | nil=>exact .nil
 | cons q _ ih =>
  obtain⟨t,l,e,h1,_,h2⟩:=q;exact .cons ⟨t,l,e,h1,h2⟩ ih
theorem zhP {na:Addr}{H:Hp}{xs ys:List V}(hz:H na=some (.lst xs)){us:List V}{qs:List Qn}(hp:zeq na H us qs):zeq na (upd H na (.lst ys)) us qs:=by
 induction hp with
 | nil=>exact .nil
 | cons q _ ih =>
  obtain⟨t,l,e,h1,n,h2⟩:=q;exact .cons ⟨t,l,e,by rw[zh (zlw h1 hz (fun z=>nomatch z))];exact h1,n,by rw[zh n];exact h2⟩ ih
def znA:Sp:=fun vs H Q _=>∃(l sa:Addr) (rs:List Str) (n:Nat) (sh:List Nat),vs=[.ref l,.ref sa]/\H l=some (.lst (rs.map V.str))/\H sa=some (.lst (pV sh))/\sh.length<=25/\Brd rs/\Wide rs n /\
 ∀(d:Addr) (us:List V) (H':Hp),H d=none->H' d=some (.lst us)->zbj H' us (ZL rs n sh (rs.length*n))->zu H H'->Q (.ref d) H'
theorem zhQ (rs:List Str)(n:Nat)(sh:List Nat)(j:Nat):ZL rs n sh (j+1)=ZL rs n sh j++if (Yo ((jJ rs).getD j 0)&&(!(je rs n sh j).isEmpty || !decide ((jJ rs).getD j 0=48)))=true then [(((((jJ rs).getD j 0:Nat):Int)-48),je rs n sh j)] else []:=by
 unfold ZL;rw[Yl,Xj];congr 1;split<;>rfl
theorem zl2 {xs:List Nat}{k:Nat}(hk:k<xs.length):(pV xs)[k]?=some (.int ((xs.getD k 0:Nat):Int)):=by
 unfold pV;rw[XA,XB,X7 hk];rfl
theorem zgI {n:Nat}:∀ts:List Str,(∀t∈ts,t.length=n)->(ts.map (·.length)).sum+ts.length*("":Str).length=ts.length*n:=fun ts h=>by
 have e0:("":Str).length=0:=by decide +kernel
 rw[e0,Nat.mul_zero,SG];induction ts with
 | nil=>simp
 | cons t r ih=>rw[Xf,Oc,ih fun u hu=>h u (XT _ hu),h t XS,Xs,RG,TF]
theorem qH:zF ["_law_texts_here","_law_shut","_law_rows","_law_columns","_law_signs_here","_law_found","_law_at","_law_near_here","_law_spots"] ["_law_texts_here","_law_shut"] (zg yu):=⟨rfl,rfl,rfl,by decide +kernel,rfl,by decide +kernel,by decide +kernel⟩
theorem zc9 (T:Txt mg)(Z:Prog K mg)(D:zk K mg "_law_numbers" yu ["_law_texts_here","_law_shut"] f fd):qk P w K mg base CX0 2 f fd ["_law_texts_here","_law_shut"] znA:=by
 obtain⟨zhH,zgA,JR⟩:=Z.law_near;refine D.F.ok qH (fun vs H Q E h=>?_) (fun cdv A outer s H vs Q E hr h=>?_)
 ·obtain⟨l,sa,rs,n,sh,rfl,_⟩:=h;rfl
 ·obtain⟨l,sa,rs,n,sh,rfl,hl,hsa,sl,B,W,q⟩:=h;have r1:=B.r1;have r5:=B.r5;have n1:=W.n1;have n5:=W.n5;have N25:rs.length*n<=5*5:=TN r5 n5;obtain⟨t0,ht0⟩:∃t,rs[0]?=some t:=⟨_,X7 (by lia)⟩;have t0n:t0.length=n:=(W.row t0 (X0 ht0)).len;have em:(((rs.length:Nat):Int)*((n:Nat):Int)).toNat=rs.length*n:=by
   rw[<- UK,WY]
  have emi:(((rs.length:Nat):Int)*((n:Nat):Int))=((rs.length*n:Nat):Int):=(UK _ _).symm;refine⟨_,(zd (zq (i:=2) qH.nd rfl (XM rfl) (zp zB (by rfl) T.ji W0 (za (pvS 0) zb)))
   (zd (zq (i:=3) qH.nd rfl (XM rfl) (zp yS (by rfl) T.ji W0 (za (qi qO (pvS 0) zo (fun _ _=>rfl)) zb)))
   (zd (zq (i:=4) qH.nd rfl (XM rfl) (xY Sf Sb Sa zeJ qp (za (pvS 0) zb)))
   (zd (zq (i:=5) qH.nd rfl (XM rfl) (qa zb))
   (zd (qj Xe rfl (qI (by rfl) T.jd (za (zz yT (pvS 2) (pvS 3)) zb)) (zm (i:=6) qH.nd rfl (XM rfl)) (zf (qX (zH zag (qi J3 (pvS 4) (pvS 6) (fun _ _=>rfl)) qp (by rfl)) (zd (zq (i:=7) qH.nd rfl (UV rfl) (pc0 (zbx T JR) hr JR (za (pvS 6) (za (pvS 2) (za (pvS 3) zb)))))
   (zd (ZX (i:=8) qH.nd rfl rfl (N:=["_law_k","_law_near_here","_law_shut"]) (src:=[none,some 7,some 1]) (zU.free (O:=(zg yu).names) (XN:=["_law_texts_here","_law_shut","_law_rows","_law_columns","_law_signs_here","_law_found","_law_at","_law_near_here","_law_spots"]) rfl rfl ⟨_,rfl⟩ rfl rfl (by decide +kernel) (by decide +kernel) (by decide +kernel) rfl (by decide +kernel)) rfl (qI (by rfl) T.jd (za (zp zB (by rfl) T.ji W0 (za (pvS 1) zb)) zb)) (fun _ _ _ _ _=>(zm (i:=0) (by show WW (["_law_k","_law_near_here","_law_shut"]:List Str);decide +kernel) rfl (XM rfl))) (fun _ _ _ _ _=>(qD (zH (zcs (K:=K) (by rfl)) (qi (Y9 (K:=K) (by rfl)) (pvS 2) (pvS 0) (fun _ _=>rfl)) (pvS 1) (by rfl)))) (fun _ _ _ _ _=>(pvS 0)))
   (zf (qX (PW.pt (zdB (zH (yF hr.units) (pvS 8) (qa zb) (zQ _)) (zb6 (zH Qq (qi J3 (pvS 4) (pvS 6) (fun _ _=>rfl)) qp (zQ _))))) (zf (yy (xY WO Wl Wj jA (pvS 5) (za (jU (za (jf ZV (by rfl) T.zf6 UQ (za (qi J3 (pvS 4) (pvS 6) (fun _ _=>rfl)) zb)) (za (pvS 8) zb))) zb)))) zZ)))) zZ)))
   (zf (zG (pvS 5)))))))),?_⟩
  refine⟨_,rfl,l,_,rfl,.inl (SqL.of hl),?_⟩;rw[Y1];refine⟨_,rfl,l,_,0,.str t0,rfl,rfl,SqL.of hl,jN (by lia) (by show (rs.map V.str)[0]?=_;rw[XA,ht0];rfl),t0,rfl,?_⟩;rw[t0n];have fz:(UJ "" rs).cps.toList=jJ rs:=zbl rs;have zl:(UJ "" rs).length=rs.length*n:=by
   show (UJ "" rs).cps.size=_;rw[<- X4,fz,W.flat]
  refine⟨X5 (show n<=64 by lia) (by decide),rfl,_,rfl,"",l,rs,rfl,rfl,SqL.of hl,?_,?_⟩
  ·rw[zgI rs fun t ht=>(W.row t ht).len];exact X5 N25 (by decide)
  generalize UJ "" rs=z at *
  have zat:∀{x:Nat},x<rs.length*n->atI z.cps.toList ((x:Nat):Int)=some ((jJ rs).getD x 0):=fun {x} hx=>jN (by lia) (by rw[WY,fz];exact zn7 W hx);have zsz:z.length<=Xz:=X5 (show z.length<=64 by lia) (by decide);refine⟨Z1,fun na hna=>?_⟩;have s0:zu H (upd H na (.lst [])):=ze hna;refine⟨_,rfl,_,rfl,_,_,rfl,rfl,zeF (by lia) (by lia),_,rfl,by lia,by lia,?_⟩;refine qw (lo:=0) (n:=(((rs.length:Nat):Int)*((n:Nat):Int)).toNat) (fun j σ H'=>∃(v6 v7 v8:Option V) (us:List V),σ=[some (.ref l),some (.ref sa),some (.int (rs.length:Nat)),some (.int (n:Nat)),some (.str z),some (.ref na),v6,v7,v8]/\zu H H'/\H' na=some (.lst us)/\zeq na H' us (ZL rs n sh j)/\us.length<=j)
   ⟨_,_,_,[],rfl,s0,zc,.nil,W5 _⟩ ?_ ?_
  ·rintro j σ H2 hj' ⟨v6,v7,v8,us,rfl,s2,zgJ,hN2,usl⟩;have hj:j<rs.length*n:=by lia
   rw[show (0:Int)+(j:Nat)=((j:Nat):Int) by lia];have st:=zhQ rs n sh j;refine⟨_,rfl,_,rfl,z,_,_,rfl,rfl,zsz,zat hj,_,_,rfl,rfl,_,rfl,?_⟩;have hb:=zhN (zn6 W hj);by_cases hp:Yo ((jJ rs).getD j 0)=true
   ·refine yp (hb.trans hp) ?_;rw[hp,Tl] at st;refine⟨_,rfl,_,rfl,_,rfl,j,rs.length,n,rfl,r5,n1,n5,hj,fun np H3 hnp zro s3=>?_⟩;have hs3:=(s2.trans s3) _ _ hsa;refine⟨_,rfl,sa,_,rfl,.inl (SqL.of hs3),_,rfl,by lia,by rw[Zh];lia,fun y hy=>?_⟩;rw[WY,Zh];have yna:y≠na:=fun e=>by
     subst e;rw[s3 _ _ zgJ] at hy;cases hy
    refine QJ (lo:=0) (n:=sh.length) (fun i σ' H'=>∃(u0:Option V),σ'=[u0,some (.ref np),some (.ref sa)]/\zu H3 H'/\H' y=some (.lst (pV ((XD i).filter fun k=>decide (sh.getD k 0∈Jg rs.length n j)))))
     ⟨_,rfl,ze hy,zc⟩ ?_ ?_
    ·rintro i σ' H4 hi ⟨u0,rfl,s4,hy4⟩;rw[show (0:Int)+(i:Nat)=((i:Nat):Int) by lia];have st2:=Yl (p:=fun k=>decide (sh.getD k 0∈Jg rs.length n j)) i;refine⟨_,rfl,_,rfl,sa,_,_,_,rfl,rfl,SqL.of (s4 _ _ hs3),jN (by lia) (by rw[WY];exact zl2 hi),_,rfl,np,_,rfl,.inl (SqL.of (s4 _ _ zro)),rfl,ziI _,_,rfl,?_⟩;have hb2:(if false=true then !inV (.int ((sh.getD i 0:Nat):Int)) (pV (Jg rs.length n j)) else inV (.int ((sh.getD i 0:Nat):Int)) (pV (Jg rs.length n j)))=decide (sh.getD i 0∈Jg rs.length n j):=zn5 _ _;by_cases hp2:decide (sh.getD i 0∈Jg rs.length n j)=true
     ·rw[if_pos hp2] at st2;refine yp (hb2.trans hp2) ⟨_,rfl,_,hy4,?_,_,rfl,fun b o e=>?_,?_⟩
      ·rw[Zh];refine XF (X5 (W6 _ _) ?_) (show 64<Xz by decide);rw[W8];lia
      ·rw[zh (zj e hy)];exact s4 _ _ e
      ·rw[zc,st2,zfk]
     ·rw[if_neg hp2,Xa] at st2;exact jM (hb2.trans (Xy.mpr hp2)) ⟨_,rfl,s4,by rw[st2];exact hy4⟩
    rintro σ' H4 ⟨u0,rfl,s4,hy4⟩;have esp:(XD sh.length).filter (fun k=>decide (sh.getD k 0∈Jg rs.length n j))=je rs n sh j:=rfl;rw[esp] at hy4;refine⟨_,rfl,Z1,fun t ht=>?_⟩;have z5:=ze (o:=.lst []) ht;refine⟨_,_,zgn (SqL.of (by rw[<- zqI];exact z5 _ _ hy4)),zgn (xs:=[]) (SqL.of zc),zjI _ _,_,rfl,?_⟩;have hb3:(if true=true then !PyData.eqv (ZH ((je rs n sh j).map fun x=>((x:Nat):Int))) (ZH []) else WX (ZH ((je rs n sh j).map fun x=>((x:Nat):Int))) (ZH []))=!(je rs n sh j).isEmpty:=by
     rw[if_pos rfl,zjU,List.isEmpty_map]
    have s25:=(s3.trans s4).trans z5;have hna5:=s25 _ _ zgJ;have hN5:=zc8 s25 hN2;have hy5:=z5 _ _ hy4;generalize upd H4 t (.lst [])=H5 at *
    obtain⟨g1,g2⟩:=zbb (zn6 W hj) hp;have hb4:(!decide (V.str ⟨#[(jJ rs).getD j 0]⟩=V.str "0"))=!decide ((jJ rs).getD j 0=48):=by rw[ziH,Za]
    by_cases hp3:(!(je rs n sh j).isEmpty || !decide ((jJ rs).getD j 0=48))=true
    ·rw[if_pos hp3] at st;by_cases h1:(!(je rs n sh j).isEmpty)=true
     case' pos=>refine yp (hb3.trans h1) (Qm ?_)
     case' neg =>
      have h2:(!decide ((jJ rs).getD j 0=48))=true:=by
       rw[Xy.mpr h1,Bool.false_or] at hp3;exact hp3
      refine jM (hb3.trans (Xy.mpr h1)) ?_
      refine⟨_,rfl,_,rfl,z,_,_,rfl,rfl,zsz,zat hj,rfl,_,rfl,yp (hb4.trans h2) ?_⟩
     all_goals
      refine⟨_,rfl,.inl ⟨rfl,_,SqL.of hna5⟩,_,rfl,_,rfl,z,_,_,rfl,rfl,zsz,zat hj,_,_,rfl,int_sign g1 g2,(by show 1<=640;decide),_,rfl,YD,fun tp htp=>?_⟩
      have z6:=ze (o:=.tup [.int ((((jJ rs).getD j 0:Nat):Int)-48),.ref y]) htp
      have tna:tp≠na:=fun e=>by
       subst e;rw[hna5] at htp;cases htp
      refine⟨na,us,_,rfl,rfl,z6 _ _ hna5,XF (show us.length<=64 by lia) (by decide),_,_,_,us++[.ref tp],rfl,fun b o e=>?_,zc,?_,?_⟩
      ·rw[zh (zj e hna)];exact z6 _ _ (s25 _ _ (s2 _ _ e))
      ·rw[st];exact Paired.snoc (zhP (z6 _ _ hna5) (zc8 z6 hN5)) ⟨tp,y,rfl,by rw[zh tna];exact zc,yna,by rw[zh yna];exact z6 _ _ hy5⟩
      ·rw[XU];show _+1<=_;lia
    ·have h1:(!(je rs n sh j).isEmpty)=false:=by
      rw[RN,not_or] at hp3;exact Xy.mpr hp3.1
     have h2:(!decide ((jJ rs).getD j 0=48))=false:=by
      rw[RN,not_or] at hp3;exact Xy.mpr hp3.2
     rw[if_neg hp3,Xa] at st;refine jM (hb3.trans h1) ⟨_,rfl,_,rfl,z,_,_,rfl,rfl,zsz,zat hj,rfl,_,rfl,jM (hb4.trans h2) ⟨_,_,_,us,rfl,s2.trans s25,hna5,?_,by lia⟩⟩;rw[st];exact hN5
   ·rw[Xy.mpr hp,Uq,if_neg (by decide),Xa] at st;refine jM (hb.trans (Xy.mpr hp)) ⟨_,_,_,us,rfl,s2,zgJ,?_,by lia⟩;rw[st];exact hN2
  rintro σ H2 ⟨v6,v7,v8,us,rfl,s2,zgJ,hN2',_⟩;rw[em] at hN2';exact⟨_,rfl,q na us H2 hna zgJ (zhO hN2') s2⟩
def zpx:Sp:=fun vs H Q _=>∃(l:Addr) (rs:List Str) (n:Nat) (st:Int),vs=[.ref l,.int st]/\H l=some (.lst (rs.map V.str))/\Brd rs/\Wide rs n /\
 ∀(d:Addr) (us:List V) (N:Addr->Prop) (H':Hp),H d=none->H' d=some (.lst us)->jt N H' us (QB rs n st)->zu H H'->Q (.ref d) H'
def zbm (rs:List Str)(n:Nat)(S:List Nat):List (Int×Int):=S.map fun k=>toI (pos n ((jq rs n).getD k 0))
theorem jv:zF ["_law_texts_here","_law_stones","_law_signs_here","_law_shut","_law_numbers_here","_law_found","_law_some"] ["_law_texts_here","_law_stones"] (zg jK):=⟨rfl,rfl,rfl,by decide +kernel,rfl,by decide +kernel,by decide +kernel⟩
theorem zda (T:Txt mg)(Z:Prog K mg)(D:zk K mg "_law_layings" jK ["_law_texts_here","_law_stones"] f fd):qk P w K mg base CX0 3 f fd ["_law_texts_here","_law_stones"] zpx:=by
 obtain⟨zmo,zl3,QC⟩:=Z.law_numbers;obtain⟨zpy,zn8,zdb⟩:=Z.law_fits;obtain⟨zmp,zl4,QD⟩:=Z.law_choices;refine D.F.ok jv (fun vs H Q E h=>?_) (fun cdv A outer s H vs Q E hr h=>?_)
 ·obtain⟨l,rs,n,st,rfl,_⟩:=h;rfl
 ·obtain⟨l,rs,n,st,rfl,hl,B,W,q⟩:=h;have r1:=B.r1;have r5:=B.r5;have n1:=W.n1;have n5:=W.n5;have N25:rs.length*n<=5*5:=TN r5 n5;obtain⟨t0,ht0⟩:∃t,rs[0]?=some t:=⟨_,X7 (by lia)⟩;have t0n:t0.length=n:=(W.row t0 (X0 ht0)).len;have fz:(UJ "" rs).cps.toList=jJ rs:=zbl rs;have zl:(UJ "" rs).length=rs.length*n:=by
   show (UJ "" rs).cps.size=_;rw[<- X4,fz,W.flat]
  refine⟨_,(zd (zq (i:=2) jv.nd rfl (UV rfl) (xY Sf Sb Sa zeJ qp (za (pvS 0) zb)))
   (zd (zq (i:=3) jv.nd rfl (UV rfl) (qh (N:=["_law_at","_law_signs_here"]) (src:=[none,some 2]) (zU.free (O:=(zg jK).names) (XN:=["_law_texts_here","_law_stones","_law_signs_here","_law_shut","_law_numbers_here","_law_found","_law_some"]) rfl rfl ⟨_,rfl⟩ rfl rfl (by decide +kernel) (by decide +kernel) (by decide +kernel) rfl (by decide +kernel)) rfl (qI (by rfl) T.jd (za (zp yS (by rfl) T.ji W0 (za (pvS 2) zb)) zb)) (fun _ _ _ _ _=>(zm (i:=0) (by show WW (["_law_at","_law_signs_here"]:List Str);decide +kernel) rfl (XM rfl))) (fun _ _ _ _ _=>(qD (zH JF (qi J3 (pvS 1) (pvS 0) (fun _ _=>rfl)) qp (zQ _)))) (fun _ _ _ _ _=>(pvS 0))))
   (zd (zq (i:=4) jv.nd rfl (XM rfl) (pc0 (zc9 T Z QC) hr QC (za (pvS 0) (za (pvS 3) zb))))
   (zd (zq (i:=5) jv.nd rfl (XM rfl) (qa zb))
   (zd (qj Xe rfl (zM (pc0 (zc5 T QD) hr QD (za (zp zB (by rfl) T.ji W0 (za (pvS 3) zb)) zb))) (zm (i:=6) jv.nd rfl (XM rfl)) (zf (qX (PW.pt (zey (zH JF (zp zB (by rfl) T.ji W0 (za (pvS 6) zb)) (pvS 1) (zQ _)) (zbO (xX (pc0 (zgC T zdb) hr zdb (za (pvS 6) (za (pvS 4) zb))) (fun _=>rfl))))) (zf (yy (xY WO Wl Wj jA (pvS 5) (za (qh (N:=["_law_k","_law_shut","_law_texts_here"]) (src:=[none,some 3,some 0]) (zU.free (O:=(zg jK).names) (XN:=["_law_texts_here","_law_stones","_law_signs_here","_law_shut","_law_numbers_here","_law_found","_law_some"]) rfl rfl ⟨_,rfl⟩ rfl rfl (by decide +kernel) (by decide +kernel) (by decide +kernel) rfl (by decide +kernel)) rfl (zM (pvS 6)) (fun _ _ _ _ _=>(zm (i:=0) (by show WW (["_law_k","_law_shut","_law_texts_here"]:List Str);decide +kernel) rfl (XM rfl))) (fun _ _ _ _ _=>qN) (fun _ _ _ _ _=>(zp zbo (by rfl) T.zf5 PX (za (qi (Y9 (K:=K) (by rfl)) (pvS 1) (pvS 0) (fun _ _=>rfl)) (za (zp yS (by rfl) T.ji W0 (za (qi (Y9 (K:=K) (by rfl)) (pvS 2) zo (fun _ _=>rfl)) zb)) zb))))) zb)))) zZ)))
   (zf (zG (pvS 5)))))))),?_⟩
  refine⟨rfl,_,rfl,"",l,rs,rfl,rfl,SqL.of hl,?_,?_⟩
  ·rw[zgI rs fun t ht=>(W.row t ht).len];exact X5 N25 (by decide)
  generalize UJ "" rs=z at *
  have zat:∀{x:Nat},x<rs.length*n->atI z.cps.toList ((x:Nat):Int)=some ((jJ rs).getD x 0):=fun {x} hx=>jN (by lia) (by rw[WY,fz];exact zn7 W hx);have zsz:z.length<=Xz:=X5 (show z.length<=64 by lia) (by decide);refine⟨_,rfl,z,rfl,zsz,_,rfl,by lia,by lia,fun sa hsa=>?_⟩;rw[zl,WY];refine QJ (lo:=0) (n:=rs.length*n) (fun i σ' H'=>∃(u0:Option V),σ'=[u0,some (.str z)]/\zu H H'/\H' sa=some (.lst (pV ((XD i).filter fun x=>decide ((jJ rs).getD x 0=63)))))
   ⟨_,rfl,ze hsa,zc⟩ ?_ ?_
  ·rintro i σ' H1 hi ⟨u0,rfl,s1,hs1⟩;rw[show (0:Int)+(i:Nat)=((i:Nat):Int) by lia];have st2:=Yl (p:=fun x=>decide ((jJ rs).getD x 0=63)) i;refine⟨_,rfl,_,rfl,z,_,_,rfl,rfl,zsz,zat hi,rfl,_,rfl,?_⟩;have hb:decide (V.str ⟨#[(jJ rs).getD i 0]⟩=V.str "?")=decide ((jJ rs).getD i 0=63):=by rw[Z8,Za]
   by_cases h63:decide ((jJ rs).getD i 0=63)=true
   ·rw[if_pos h63] at st2;refine yp (hb.trans h63) ⟨_,rfl,_,hs1,?_,_,rfl,fun b o e=>?_,?_⟩
    ·rw[Zh];refine XF (X5 (W6 _ _) ?_) (show 64<Xz by decide);rw[W8];lia
    ·rw[zh (zj e hsa)];exact s1 _ _ e
    ·rw[zc,st2,zfk]
   ·rw[if_neg h63,Xa] at st2;exact jM (hb.trans (Xy.mpr h63)) ⟨_,rfl,s1,by rw[st2];exact hs1⟩
  rintro σ' H1 ⟨u0,rfl,s1,hs1⟩;rw[show (XD (rs.length*n)).filter (fun x=>decide ((jJ rs).getD x 0=63))=jq rs n from rfl] at hs1;have m10:(jq rs n).length<=10:=by
   have h1:=B.sh;rw[<- zc7 W,Y1] at h1;exact h1
  have shN:∀{k:Nat},k<(jq rs n).length->(jq rs n).getD k 0<64:=fun hk=>by
   have:=((zlY W).mp (getD_mem hk)).1;lia
  refine⟨_,rfl,_,rfl,l,sa,rs,n,jq rs n,rfl,s1 _ _ hl,hs1,by lia,B,W,fun na un H2 hna zgJ hN2 s2=>?_⟩;have hs2:=s2 _ _ hs1;have q64:∀q∈ZL rs n (jq rs n) (rs.length*n),q.2.length<=64:=fun q hq=>by
   obtain⟨x,_,rfl⟩:=XC.mp hq;show (je rs n (jq rs n) x).length<=64;refine X5 (W6 _ _) ?_;rw[W8];lia
  refine⟨Z1,fun fo hfo=>?_⟩;have z3:=ze (o:=.lst []) hfo;have hfo3:upd H2 fo (.lst []) fo=some (.lst []):=zc;have s03:=(s1.trans s2).trans z3;have hs3:=z3 _ _ hs2;have hna3:=z3 _ _ zgJ;have hN3:=zep z3 hN2;have fo0:H fo=none:=(s1.trans s2).free hfo;generalize upd H2 fo (.lst [])=H3 at *
  have hl3:=s03 _ _ hl;refine⟨_,rfl,sa,_,rfl,.inl (SqL.of hs3),(pV (jq rs n)).length,rfl,by rw[Zh];lia,fun d us5 H5 hd hd5 hP5 hnw s5=>⟨d,rfl,⟨_,SqL.of hd5⟩,?_⟩⟩;rw[Zh] at hP5;have np5:∀v∈us5,v≠V.ref fo:=fun v hv e=>by
   have:=hnw v hv fo e;rw[hfo3] at this;cases this
  have hfo5:=s5 _ _ hfo3;have dfo:fo≠d:=fun e=>by
   subst e;rw[hfo3] at hd;cases hd
  have s25:=z3.trans s5;refine jS (K:=K) (a:=d) (xs:=us5) (fun i σ H'=>∃(v6:Option V) (ws:List V),σ=[some (.ref l),some (.int st),some (.str z),some (.ref sa),some (.ref na),some (.ref fo),v6]/\zu H2 H'/\H' d=some (.lst us5)/\PLs H' us5 (Subs.subs (XD (jq rs n).length))/\H' fo=some (.lst ws)/\jt (fun a=>a≠fo) H' ws ((((Subs.subs (XD (jq rs n).length)).take i).filter fun S=>decide (((S.length:Nat):Int)=st)&&zaN (ZL rs n (jq rs n) (rs.length*n)) S).map (zbm rs n)))
   ⟨_,[],rfl,s25,hd5,hP5,hfo5,.nil⟩ (fun i σ H' _ ⟨_,_,_,_,y,_⟩=>SqL.of y) ?_ ?_
  ·rintro i v σ H6 hv ⟨v6,ws,rfl,s6,hd6,hP6,hfo6,hL6⟩;obtain⟨S,a,hS,rfl,ha⟩:=zlX hP6 hv;have il:=(XY.mp hS).1;have i1024:i<1024:=by
    rw[zbk,W8] at il;exact Xn il (X5 (Wf (by decide) m10) (by decide))
   have Ssub:=Tally.jP (X0 hS);have Sl:S.length<=10:=by
    have:=Ssub.length_le;rw[W8] at this;lia
   have st2:=zgH (p:=fun S=>decide (((S.length:Nat):Int)=st)&&zaN (ZL rs n (jq rs n) (rs.length*n)) S) hS;have wlen:ws.length<=1024:=by
    rw[jg hL6,Y1];refine X5 (W6 _ _) ?_;rw[XE];lia
   refine⟨_,rfl,a,_,rfl,.inl (SqL.of ha),_,rfl,rfl,_,rfl,?_⟩;have hb:decide (V.int (((pV S).length:Nat):Int)=V.int st)=decide (((S.length:Nat):Int)=st):=by
    rw[Zh];exact decide_eq_decide.mpr ⟨fun h=>by injection h,fun h=>by rw[h]⟩
   by_cases h1:decide (((S.length:Nat):Int)=st)=true
   ·rw[h1,Tl] at st2;refine yp (hb.trans h1) ?_;refine⟨_,rfl,_,rfl,a,na,S,un,_,rfl,ha,s6 _ _ zgJ,zep s6 hN2,q64,fun H7 s7=>?_⟩;have ha7:=s7 _ _ ha;have hfo7:=s7 _ _ hfo6;have hL7:=qc s7 hL6;have s27:=s6.trans s7;by_cases hf:zaN (ZL rs n (jq rs n) (rs.length*n)) S=true
    ·rw[if_pos hf] at st2;rw[hf];refine⟨true,rfl,Qm ?_⟩;refine⟨_,rfl,.inl ⟨rfl,_,SqL.of hfo7⟩,_,rfl,a,rfl,⟨_,SqL.of ha7⟩,fun y hy=>?_⟩;have yfo:y≠fo:=fun e=>by
      subst e;rw[hfo7] at hy;cases hy
     refine qx (K:=K) (a:=a) (xs:=pV S) (fun j σ' H'=>∃(u0:Option V) (ys:List V),σ'=[u0,some (.ref sa),some (.ref l)]/\zu H7 H'/\H' y=some (.lst ys)/\yd H' ys (zbm rs n (S.take j)))
      ⟨_,[],rfl,ze hy,zc,.nil⟩ (fun j σ' H' _ ⟨_,_,_,s8,_⟩=>SqL.of (s8 _ _ ha7)) ?_ ?_
     ·rintro j x σ' H8 hx ⟨u0,ys,rfl,s8,hy8,hT8⟩;obtain⟨k,hk,rfl⟩:=zlW hx;have jl:=(XY.mp hk).1;have kl:=Xc.mp (Ssub.subset (X0 hk));have s28:=s27.trans s8;unfold Jf;refine QT ?_;refine⟨_,rfl,_,rfl,sa,_,_,_,rfl,rfl,SqL.of (s28 _ _ hs2),jN (by lia) (by rw[WY];exact zl2 kl),_,rfl,l,_,0,.str t0,rfl,rfl,SqL.of (s28 _ _ (s2 _ _ (s1 _ _ hl))),jN (by lia) (by show (rs.map V.str)[0]?=_;rw[XA,ht0];rfl),t0,rfl,?_⟩;rw[t0n];refine⟨X5 (show n<=64 by lia) (by decide),_,_,rfl,⟨by lia,by lia⟩,fun tp htp=>?_⟩;have z9:=ze (o:=.tup [.int ((((jq rs n).getD k 0:Nat):Int)/((n:Nat):Int)),.int ((((jq rs n).getD k 0:Nat):Int)%((n:Nat):Int))]) htp;have ty:tp≠y:=fun e=>by
       subst e;rw[hy8] at htp;cases htp
      refine⟨_,z9 _ _ hy8,?_,_,ys++[.ref tp],rfl,fun b o e=>?_,zc,?_⟩
      ·rw[zcE hT8];unfold zbm;rw[Y1,XE];exact XF (show _<=64 by lia) (by decide)
      ·rw[zh (zj e hy)];exact z9 _ _ (s8 _ _ e)
      ·have e1:zbm rs n (S.take (j+1))=zbm rs n (S.take j)++[toI (pos n ((jq rs n).getD k 0))]:=by
        unfold zbm;rw[Xu,hk,Xj];rfl
       rw[e1];refine zgh (JC (z9 _ _ hy8) (yL z9 hT8)) (.cons ⟨tp,rfl,?_⟩ .nil);rw[zh ty];exact zc
     rintro σ' H8 ⟨u0,ys,rfl,s8,hy8,hT8⟩;rw[Zh,Xw] at hT8;have hfo8:=s8 _ _ hfo7;refine⟨fo,ws,_,rfl,rfl,hfo8,XF wlen (by decide),_,ws++[.ref y],rfl,fun b o e=>?_,?_,?_,zc,?_⟩
     ·rw[zh (zj e hfo)];exact s8 _ _ (s27 _ _ e)
     ·rw[zh (US dfo)];exact s8 _ _ (s7 _ _ hd6)
     ·exact zgB (YS (s7.trans s8) hP6) np5
     ·rw[st2,Xj];exact ZG (xx hfo8 (fun _ h=>h) (qc s8 hL7)) (.cons ⟨y,ys,rfl,yfo,by rw[zh yfo];exact hy8,JC hfo8 hT8⟩ .nil)
    ·have hf':=Xy.mpr hf;rw[if_neg hf,Xa] at st2;rw[hf'];refine⟨false,rfl,ZU ?_⟩;exact⟨_,ws,rfl,s27,s7 _ _ hd6,YS s7 hP6,hfo7,by rw[st2];exact hL7⟩
   ·have h1':=Xy.mpr h1;rw[h1',Uq,if_neg (by decide),Xa] at st2;refine jM (hb.trans h1') (ZU ?_);exact⟨_,ws,rfl,s6,hd6,hP6,hfo6,by rw[st2];exact hL6⟩
  rintro σ H6 ⟨v6,ws,rfl,s6,hd6,hP6,hfo6,hL6⟩;rw[Yk hP5,Xw] at hL6;exact⟨_,rfl,q fo ws _ H6 fo0 hfo6 hL6 ((s1.trans s2).trans s6)⟩
theorem zfl (a b:Int):VM b (a%b)=VM a b:=by
 have h:=Int.emod_add_mul_ediv a b;apply Nat.dvd_antisymm
 ·apply Int.dvd_gcd
  ·have h1:((VM b (a%b):Nat):Int) ∣ b:=Py ..;have h2:((VM b (a%b):Nat):Int) ∣ a%b:=Sm ..;have h3:=Int.dvd_add h2 (Int.dvd_trans h1 (Int.dvd_mul_right b (a/b)));rw[h] at h3;exact h3
  ·exact Py ..
 ·apply Int.dvd_gcd
  ·exact Sm ..
  ·have h1:((VM a b:Nat):Int) ∣ b:=Sm ..;have h2:((VM a b:Nat):Int) ∣ a:=Py ..;have e:a%b=a-b*(a/b):=by lia
   rw[e];exact Int.dvd_sub h2 (Int.dvd_trans h1 (Int.dvd_mul_right ..))
theorem ziK (a:Int)(h:0<=a):((VM a 0:Nat):Int)=a:=by
 rw[Int.gcd_zero_right];lia
theorem ziL {a b:Int}(h:0<b):0<((VM a b:Nat):Int):=by
 have:0<VM a b:=Int.gcd_pos_of_ne_zero_right a (by lia);lia
theorem zl5 {a b:Int}(h:0<b):((VM a b:Nat):Int)<=b:=Int.le_of_dvd h (Sm ..)
def zrp:Sp:=fun vs H Q _=>∃(n b:Int),vs=[.int n,.int b]/\0<b/\Q (.int (VM n b:Nat)) H
def zrq:Sp:=fun vs H Q _=>∃(n b:Int),vs=[.int n,.int b]/\0<b/\b.natAbs<2^70/\∀p,H p=none->Q (.ref p) (upd H p (.tup [.int (n/(VM n b:Nat)),.int (b/(VM n b:Nat))]))
theorem qu:zF ["number","bottom","divisor","rest","next_rest"] ["number","bottom"] (zg jb):=⟨rfl,rfl,rfl,by decide +kernel,rfl,by decide +kernel,by decide +kernel⟩
theorem Qo (D:zk K mg "greatest_divisor" jb ["number","bottom"] f fd):qk P w K mg base CX0 1 f fd ["number","bottom"] zrp:=by
 refine D.F.ok qu (fun vs H Q E h=>?_) (fun cdv A outer s H vs Q E hr h=>?_)
 ·obtain⟨n,b,rfl,_⟩:=h;rfl
 ·obtain⟨n,b,rfl,hb,k⟩:=h;refine⟨_,(zd (zq (i:=2) qu.nd rfl (XM rfl) (pvS 1))
   (zd (zq (i:=3) qu.nd rfl (XM rfl) (zz qQ (pvS 0) (pvS 1)))
   (zd (zfq Xe (zH Qq (pvS 3) zo (zQ _)) (zd (zq (i:=4) qu.nd rfl (XM rfl) (zz qQ (pvS 2) (pvS 3)))
   (zd (zq (i:=2) qu.nd rfl (XM rfl) (pvS 3))
   (zf (zq (i:=3) qu.nd rfl (XM rfl) (pvS 4))))))
   (zf (zG (pvS 2)))))),?_⟩
  refine⟨_,rfl,_,rfl,_,rfl,_,_,rfl,rfl,hb,?_⟩;refine⟨fun m σ H'=>∃(d r:Int) (x:Option V),σ=[some (.int n),some (.int b),some (.int d),some (.int r),x]/\H'=H/\0<d/\0<=r/\VM d r=VM n b/\m=r.toNat,⟨_,b,n%b,none,rfl,rfl,hb,U7 n (by lia),zfl n b,rfl⟩,?_⟩;rintro m σ H' ⟨d,r,x,rfl,rfl,hd,hr0,hg,rfl⟩;refine⟨_,rfl,rfl,_,rfl,?_⟩;by_cases c:r=0
  ·subst c;refine znM rfl ?_;refine⟨_,rfl,?_⟩;have e:((VM n b:Nat):Int)=d:=by rw[<- hg];exact ziK d (by lia)
   rw[<- e];exact k
  ·have e:(!decide (V.int r=V.int 0))=true:=by
    have z:¬ V.int r=V.int 0:=fun z=>c (V.int.inj z);rw[decide_eq_false z];rfl
   refine yp e ?_;refine⟨fun σ' H'=>∃m',m'<r.toNat/\_,fun _ _ h=>h,?_⟩;refine⟨_,rfl,_,rfl,_,_,rfl,rfl,(show (0:Int)<r by lia),_,rfl,_,rfl,?_⟩;have p:=Vl d (show (0:Int)<r by lia);have q:=U7 d (show r≠0 from c);refine⟨(d%r).toNat,by lia,r,d%r,some (.int (d%r)),rfl,rfl,by lia,q,?_,rfl⟩;rw[zfl d r];exact hg
theorem zbB:zF ["top","bottom","divisor"] ["top","bottom"] (zg Z5):=⟨rfl,rfl,rfl,by decide +kernel,rfl,by decide +kernel,by decide +kernel⟩
theorem zgK {f1:Addr}{fd1:Xq}(D:zk K mg "fraction" Z5 ["top","bottom"] f fd)(jH:zk K mg "greatest_divisor" jb ["number","bottom"] f1 fd1):qk P w K mg base CX0 2 f fd ["top","bottom"] zrq:=by
 refine D.F.ok zbB (fun vs H Q E h=>?_) (fun cdv A outer s H vs Q E hr h=>?_)
 ·obtain⟨n,b,rfl,_⟩:=h;rfl
 ·obtain⟨n,b,rfl,hb,hB,k⟩:=h;refine⟨_,(zd (zq (i:=2) zbB.nd rfl (XM rfl) (pc0 (Qo jH) hr jH (za (pvS 0) (za (pvS 1) zb))))
   (zf (zG (jU (za (zz qy (pvS 0) (pvS 2)) (za (zz qy (pvS 1) (pvS 2)) zb)))))),?_⟩
  have g0:=ziL (a:=n) hb;have g1:=zl5 (a:=n) hb;have gB:((VM n b:Nat):Int).natAbs<2^8000:=by
   have e:2^70<=2^8000:=Wf (by decide) (by decide);lia
  refine⟨_,rfl,_,rfl,n,b,rfl,hb,?_⟩;refine⟨_,rfl,_,rfl,_,_,rfl,rfl,yr.big g0 gB,_,rfl,_,rfl,_,_,rfl,rfl,yr.big g0 gB,YD,?_⟩;exact k
theorem zl6 {φ:List Key->V->Prop}{kvs acc:List (List Key×V)}(h:∀kv∈kvs,φ kv.1 kv.2)(h0:∀k v,yq acc k=some v->φ k v):∀k v,yq (kvs.foldl (fun acc kv=>putK acc kv.1 kv.2) acc) k=some v->φ k v:=by
 induction kvs generalizing acc with
 | nil=>exact h0
 | cons kv r ih =>
  refine ih (fun x hx=>h x (XT _ hx)) fun k v e=>?_;rw[Yy] at e;split at e
  ·rename_i ek;cases e;rw[ek];exact h kv XS
  ·exact h0 k v e
theorem zl7 {k:List Key}{kvs acc:List (List Key×V)}(h:(∃kv∈kvs,kv.1=k)\/(yq acc k).isSome=true):(yq (kvs.foldl (fun acc kv=>putK acc kv.1 kv.2) acc) k).isSome=true:=by
 induction kvs generalizing acc with
 | nil =>
  rcases h with ⟨_,h,_⟩ | h
  ·cases h
  ·exact h
 | cons kv r ih =>
  refine ih ?_;rcases h with ⟨x,hx,e⟩ | h
  ·rcases XJ.mp hx with e2 | hx
   ·subst e2;refine .inr ?_;rw[Yy,if_pos e.symm];rfl
   ·exact .inl ⟨x,hx,e⟩
  ·refine .inr ?_;rw[Yy];split
   ·rfl
   ·exact h
theorem zl8 (kvs:List (List Key×V))(k:List Key)(v:V):(k∈kvs.map (·.1)/\(putK kvs k v).map (·.1)=kvs.map (·.1))\/(¬ k∈kvs.map (·.1)/\(putK kvs k v).map (·.1)=kvs.map (·.1)++[k]):=by
 unfold putK;by_cases h:(kvs.any fun kv=>decide (kv.1=k))=true
 ·refine .inl ⟨?_,?_⟩
  ·obtain⟨kv,h1,h2⟩:=Wu.mp h;exact XC.mpr ⟨kv,h1,of_decide_eq_true h2⟩
  ·rw[if_pos h,WR];refine Xi fun kv _=>?_;show (if kv.1=k then (kv.1,v) else kv).1=kv.1;split<;>rfl
 ·refine .inr ⟨fun hm=>?_,?_⟩
  ·obtain⟨kv,h1,h2⟩:=XC.mp hm;exact h (Wu.mpr ⟨kv,h1,decide_eq_true h2⟩)
  ·rw[if_neg h,Xj];rfl
theorem zjV {kvs acc:List (List Key×V)}(h:(acc.map (·.1)++kvs.map (·.1)).Nodup):(kvs.foldl (fun acc kv=>putK acc kv.1 kv.2) acc).map (·.1)=acc.map (·.1)++kvs.map (·.1):=by
 induction kvs generalizing acc with
 | nil =>
  rw[RF,Xa];rfl
 | cons kv r ih =>
  rw[VX];rcases zl8 acc kv.1 kv.2 with ⟨h1,_⟩ | ⟨_,h2⟩
  ·rw[Xf] at h;exact absurd rfl ((V7.mp h).2.2 _ h1 _ XS)
  ·rw[ih (by rw[h2,W2];exact h),h2,W2];rfl
theorem zjW {cs:List (Nat×Nat)}(h:cs.Nodup):(cs.map jG).Nodup:=by
 unfold WW;rw[Wo];exact h.imp fun z e=>z (zcW e)
def frT (n b:Int):HO:=.tup [.int (n/(VM n b:Nat)),.int (b/(VM n b:Nat))]
def zgL (H:Hp)(rs:List Str)(n:Int)(k:List Key)(v:V):Prop:=∀c,k=jG c->∃t,v=.ref t/\H t=some (frT (jk rs n c) (jO rs n))
theorem zgL.mono {H H':Hp}(s:zu H H'){rs:List Str}{n:Int}{k:List Key}{v:V}(h:zgL H rs n k v):zgL H' rs n k v:=fun c e=>by
 obtain⟨t,e1,e2⟩:=h c e;exact⟨t,e1,s _ _ e2⟩
theorem zl9 {H:Hp}{rs:List Str}{n:Int}{c:Nat×Nat}{t:Addr}(h:H t=some (frT (jk rs n c) (jO rs n))):zgL H rs n (jG c) (.ref t):=fun d e=>by
 rw[<- zcW e];exact⟨t,rfl,h⟩
def zpz (C:Addr):Sp:=fun vs H Q E=>∃(p l:Addr) (rs:List Str) (n:Int),vs=[.ref p]/\qb H p l rs n/\Rows bd.cps.toList rs/\Small rs/\0<=n/\(jO rs n≠0->∀H',zu H H'->Q (.int (jO rs n)) H')/\(jO rs n=0->∀H',zu H H'->E (.ref C) none H')
def zma (C:Addr):Sp:=fun vs H Q E=>∃(p l:Addr) (rs:List Str) (n:Int),vs=[.ref p]/\qb H p l rs n/\Rows bd.cps.toList rs/\Small rs/\0<=n /\
 (jO rs n≠0->∀(d:Addr) (kvs:List (List Key×V)) (H':Hp),H d=none->H' d=some (.dT kvs)->kvs.map (·.1)=(zL rs).map jG->(∀c∈zL rs,∃t,yq kvs (jG c)=some (.ref t)/\H' t=some (frT (jk rs n c) (jO rs n)))->zu H H'->Q (.ref d) H')/\(jO rs n=0->∀H',zu H H'->E (.ref C) none H')
theorem zdc (rs:List Str)(R:Rows bd.cps.toList rs)(n:Int):0<=jO rs n/\(jO rs n).natAbs<2^70:=by
 have:=ziB (cs:=zL rs) (p:=jE rs) (k:=n.toNat) (qW (p:=qA) R);unfold jO;refine⟨Int.natCast_nonneg _,?_⟩;rw[SX];exact XF this (by decide)
section
variable {P:Xd}{w:WP}{K:X2}{mg:Str->Option X9}{base:Heap}{f:Addr}{fd:Xq}{jad:Addr}
theorem QE:zF ["board","every"] ["board"] (zg Ju):=⟨rfl,rfl,rfl,by decide +kernel,rfl,by decide +kernel,by decide +kernel⟩
theorem zdx (T:Txt mg)(jan:qF K mg "NoLaying" jad)(Z:Prog K mg)(D:zk K mg "some_count" Ju ["board"] f fd):qk P w K mg base (CXE P w) 8 f fd ["board"] (zpz jad):=by
 obtain⟨zqO,zqJ,ziM⟩:=Z.count;refine D.F.okX QE (fun vs H Q E h=>?_) (fun cdv A outer s H vs Q E hr h=>?_)
 ·obtain⟨p,l,rs,n,rfl,_⟩:=h;rfl
 ·obtain⟨p,l,rs,n,rfl,B,R,sm,n0,q,e⟩:=h;refine⟨_,(zd (zq (i:=1) QE.nd rfl (XM rfl) (pc0 (zlN T Z ziM) hr ziM (za (pvS 0) zb)))
   (zd (qX (zH JF (pvS 1) zo (zQ _)) (zf (zkm zaX jan (by rfl) rfl (za qp zb))) zZ)
   (zf (zG (pvS 1))))),?_⟩
  refine⟨_,rfl,p,l,rs,n,rfl,B,R,sm,n0,fun H1 s1=>?_⟩;by_cases hz:jO rs n=0
  ·exact⟨_,rfl,rfl,_,rfl,yp (decide_eq_true (by rw[hz])) ⟨sz_1,e hz H1 s1⟩⟩
  ·exact⟨_,rfl,rfl,_,rfl,jM (decide_eq_false fun h=>hz (V.int.inj h)) ⟨_,rfl,q hz H1 s1⟩⟩
theorem zbn:zF ["board","every","at_cells"] ["board"] (zg YI):=⟨rfl,rfl,rfl,by decide +kernel,rfl,by decide +kernel,by decide +kernel⟩
theorem zer (T:Txt mg)(jan:qF K mg "NoLaying" jad)(Z:Prog K mg)(D:zk K mg "shares" YI ["board"] f fd):qk P w K mg base (CXE P w) 9 f fd ["board"] (zma jad):=by
 obtain⟨znB,zmq,zaO⟩:=Z.some_count;obtain⟨zjX,ziN,ZM⟩:=Z.counts_by_cell;obtain⟨zgv,zeg,j7⟩:=Z.closed;obtain⟨QX,YO,zE⟩:=Z.cells_of;obtain⟨zbh,QW,zx⟩:=Z.sign_at;obtain⟨zpA,zn9,zdd⟩:=Z.fraction;obtain⟨zhR,zgO,jH⟩:=Z.greatest_divisor;refine D.F.okX zbn (fun vs H Q E h=>?_) (fun cdv A outer s H vs Q E hr h=>?_)
 ·obtain⟨p,l,rs,n,rfl,_⟩:=h;rfl
 ·obtain⟨p,l,rs,n,rfl,B,R,sm,n0,q,e⟩:=h;obtain⟨cw0,cwb⟩:=zdc rs R n;refine⟨_,(zd (zq (i:=1) zbn.nd rfl (UV rfl) (pcL zaX (zdx T jan Z zaO) hr zaO (za (pvS 0) zb)))
   (zd (zq (i:=2) zbn.nd rfl (UV rfl) (pc0 (zaL T Z ZM) hr ZM (za (pvS 0) zb)))
   (zf (zG (jf (Jd hr.units hr.hd) (by rfl) T.ze4 Ua (za (qh (N:=["cell","every","at_cells"]) (src:=[none,some 1,some 2]) (zU.free (O:=(zg YI).names) (XN:=["board","every","at_cells"]) rfl rfl ⟨_,rfl⟩ rfl rfl (by decide +kernel) (by decide +kernel) (by decide +kernel) rfl (by decide +kernel)) rfl (zM (pc0 (zba T j7 zE zx) hr j7 (za (pvS 0) zb))) (fun _ _ _ _ _=>(zm (i:=0) (by show WW (["cell","every","at_cells"]:List Str);decide +kernel) rfl (XM rfl))) (fun _ _ _ _ _=>qN) (fun _ _ _ _ _=>(jU (za (pvS 0) (za (pc0 (zgK zdd jH) hr zdd (za (zeM (u1 hr.units) (pvS 2) (pvS 0) (fun _ _=>rfl)) (za (pvS 1) zb))) zb))))) zb)))))),?_⟩
  refine⟨_,rfl,p,l,rs,n,rfl,B,R,sm,n0,fun hz H1 s1=>?_,fun hz H1 s1=>e hz H1 s1⟩;refine⟨_,rfl,p,l,rs,n,rfl,B.mono s1,R,sm,n0,fun da kva H2 hda zrr hva s2=>?_⟩;have s12:=s1.trans s2;refine⟨_,rfl,p,l,rs,n,rfl,B.mono s12,R,fun d5 w5 H5 hd5 hd5' hc5 s5=>⟨d5,rfl,⟨_,SqL.of hd5'⟩,fun y hy=>?_⟩⟩;have hcs:Cel H5 w5 (zL rs):=hc5;have sl:(zL rs).length<=64:=qW (p:=qA) R;refine qx (K:=K) (a:=d5) (xs:=w5) (fun i σ H'=>(∃u0,σ=[u0,some (.int (jO rs n)),some (.ref da)])/\zu H5 H'/\∃ys kvs,H' y=some (.lst ys)/\jY H' ys kvs/\kvs.map (·.1)=((zL rs).take i).map jG/\∀kv∈kvs,zgL H' rs n kv.1 kv.2) ⟨⟨_,rfl⟩,ze hy,[],[],zc,.nil,rfl,(fun _ h=>nomatch h)⟩ (fun i σ H' _ ⟨_,s6,_⟩=>SqL.of (s6 _ _ hd5')) ?_ ?_
  ·rintro i x σ H6 hx ⟨⟨u0,rfl⟩,s6,ys,kvs,hy6,hp6,hk6,hs6⟩;obtain⟨c,hci,ca,rfl,hca⟩:=Cel.get (Cel.mono s6 hcs) hx;have g:=zfG.t (k:=jG c) ((s5.trans s6) _ _ zrr) hca;rw[hva c (X0 hci)] at g;have kl:kvs.length<=64:=by
    have:=congrArg List.length hk6;rw[Y1,Y1,XE] at this;lia
   refine J1 ⟨_,rfl,_,rfl,_,rfl,da,_,rfl,g,_,rfl,_,_,rfl,by lia,cwb,fun ft hft=>⟨YD,fun p1 hp1=>?_⟩⟩;have s7:=ze (o:=frT (jk rs n c) (jO rs n)) hft;have hf7:upd H6 ft (frT (jk rs n c) (jO rs n)) ft=some (frT (jk rs n c) (jO rs n)):=zc;have s8:=ze (o:=.tup [.ref ca,.ref ft]) hp1;have s68:=s7.trans s8;have hlen:ys.length<=64:=by
    rw[hp6.length];exact kl
   have hy8:=s68 _ _ hy6;refine⟨ys,hy8,XF hlen (by decide),⟨_,rfl⟩,fun b' o e'=>?_,ys++[.ref p1],kvs++[(jG c,.ref ft)],zc,?_,?_,fun kv hkv=>?_⟩
   ·rw[zh (zj e' hy)];exact s68 _ _ (s6 _ _ e')
   ·exact jY.into y _ hy8 (jY.snoc (hp6.mono s68) ⟨p1,ca,rfl,zc,s68 _ _ hca⟩)
   ·rw[Xj,hk6,Xu,hci,Xj];rfl
   ·have st:∀{k v},zgL (upd (upd H6 ft (frT (jk rs n c) (jO rs n))) p1 (.tup [.ref ca,.ref ft])) rs n k v->zgL (upd (upd (upd H6 ft (frT (jk rs n c) (jO rs n))) p1 (.tup [.ref ca,.ref ft])) y (.lst (ys++[.ref p1]))) rs n k v:=fun {k v} h d ek=>by
     obtain⟨t,e1,e2⟩:=h d ek;refine⟨t,e1,?_⟩;rw[zh (zdz e2 hy8 (by intro z;cases z))];exact e2
    rcases XG.mp hkv with h | h
    ·exact st ((hs6 kv h).mono s68)
    ·rw[Ue.mp h];exact st (zl9 (s8 _ _ hf7))
  ·rintro σ H6 ⟨_,s6,ys,kvs,hy6,hp6,hk6,hs6⟩;rw[hcs.length,Xw] at hk6;refine⟨y,ys,_,rfl,hy6,hp6,fun dd hdd=>?_⟩;have s26:=s12.trans (s5.trans s6);have s7:=ze (o:=.dT (Yn kvs)) hdd;refine q hz dd _ _ (s26.free hdd) zc (by rw[<- hk6];exact zjV (acc:=[]) (by rw[RF,RP,hk6];exact zjW (yj (Cells.JA _ 0 _)))) (fun c hc=>?_) (s26.trans s7);have h1:(yq (Yn kvs) (jG c)).isSome=true:=zl7 (.inl (by
    have:jG c∈kvs.map (·.1):=by
     rw[hk6];exact XC.mpr ⟨c,hc,rfl⟩
    obtain⟨kv,h2,h3⟩:=XC.mp this;exact⟨kv,h2,h3⟩))
   obtain⟨v,hv⟩:=VV.mp h1;obtain⟨t,e1,e2⟩:=zl6 (φ:=zgL H6 rs n) hs6 (fun _ _ h=>by cases h) _ _ hv c rfl;exact⟨t,by rw[hv,e1],s7 _ _ e2⟩
end
structure Facts (K:X2)(C SE C1 C2 C3 C4 C5 C6 C7 C8 C9:Addr)(b1 b2:Bool):Prop where
 fd:Yx K C
 mro:VE K C (.ref SE)=some true
 k1:W9 K (.ref C) (.ref C1)=some b1
 k2:W9 K (.ref C) (.ref C2)=some b2
 k3:W9 K (.ref C) (.ref C3)=some false
 k4:W9 K (.ref C) (.ref C4)=some false
 k5:W9 K (.ref C) (.ref C5)=some false
 k6:W9 K (.ref C) (.ref C6)=some false
 k7:W9 K (.ref C) (.ref C7)=some false
 k8:W9 K (.ref C) (.ref C8)=some false
 k9:W9 K (.ref C) (.ref C9)=some false
 kv:W9 K (.ref C) (.type "ValueError")=some true
theorem znC:TH "ValueError"=some (.type "ValueError"):=by with_unfolding_all rfl
structure zpB (K:X2)(mg:Str->Option X9)(C0 C1 C2 C3 C4 C5 C6 C7 C8 C9:Addr):Prop where
 o0:qF K mg "StoneError" C0
 o1:qF K mg "TooGreat" C1
 o2:qF K mg "NoLaying" C2
 o3:qF K mg "NoBoard" C3
 o4:qF K mg "NoCount" C4
 o5:qF K mg "NoCell" C5
 o6:qF K mg "NoText" C6
 o7:qF K mg "NoRow" C7
 o8:qF K mg "NoNumber" C8
 o9:qF K mg "NoTable" C9
 fl:Facts K C2 C0 C1 C2 C3 C4 C5 C6 C7 C8 C9 false true
def zqK (C:Addr):Sp:=fun vs H Q _=>∃e:Addr,vs=[.ref e]/\H e=some (exO e C)/\∀H',zu H H'->Q (.str "laying") H'
section
variable {P:Xd}{w:WP}{K:X2}{mg:Str->Option X9}{base:Heap}{f:Addr}{fd:Xq}{jai jaj jad jaa jac jab jah jaf jae jag:Addr}
theorem xh:zF ["_law_error","_law_kinds"] ["_law_error"] (zg xQ):=⟨rfl,rfl,rfl,by decide +kernel,rfl,by decide +kernel,by decide +kernel⟩
theorem zde (T:Txt mg)(U:zpB K mg jai jaj jad jaa jac jab jah jaf jae jag)(D:zk K mg "_law_outcome" xQ ["_law_error"] f fd):qk P w K mg base CX0 1 f fd ["_law_error"] (zqK jad):=by
 obtain⟨jas,jat,jan,jak,jam,jal,jar,jap,jao,jaq,F⟩:=U;refine D.F.ok xh (fun vs H Q E h=>?_) (fun cdv A outer s H vs Q E hr h=>?_)
 ·obtain⟨e,rfl,_⟩:=h;rfl
 ·obtain⟨e,rfl,he,q⟩:=h;refine⟨_,(zd (zq (i:=1) xh.nd rfl (XM rfl) (qa (za (zp (qB (K:=K) (by rfl)) (by rfl) T.zW W7 (za (pvS 0) (za (jy (v:=.ref jaj) (by rfl) jat.g (by exact rfl)) zb))) (za (zp (qB (K:=K) (by rfl)) (by rfl) T.zW W7 (za (pvS 0) (za (jy (v:=.ref jad) (by rfl) jan.g (by exact rfl)) zb))) (za (zp (qB (K:=K) (by rfl)) (by rfl) T.zW W7 (za (pvS 0) (za (jy (v:=.ref jaa) (by rfl) jak.g (by exact rfl)) zb))) zb)))))
   (zd (zq (i:=1) xh.nd rfl (XM rfl) (zz ZT (pvS 1) (qa (za (zp (qB (K:=K) (by rfl)) (by rfl) T.zW W7 (za (pvS 0) (za (jy (v:=.ref jac) (by rfl) jam.g (by exact rfl)) zb))) (za (zp (qB (K:=K) (by rfl)) (by rfl) T.zW W7 (za (pvS 0) (za (jy (v:=.ref jab) (by rfl) jal.g (by exact rfl)) zb))) (za (zp (qB (K:=K) (by rfl)) (by rfl) T.zW W7 (za (pvS 0) (za (jy (v:=.ref jah) (by rfl) jar.g (by exact rfl)) zb))) zb))))))
   (zd (zq (i:=1) xh.nd rfl (XM rfl) (zz ZT (pvS 1) (qa (za (zp (qB (K:=K) (by rfl)) (by rfl) T.zW W7 (za (pvS 0) (za (jy (v:=.ref jaf) (by rfl) jap.g (by exact rfl)) zb))) (za (zp (qB (K:=K) (by rfl)) (by rfl) T.zW W7 (za (pvS 0) (za (jy (v:=.ref jae) (by rfl) jao.g (by exact rfl)) zb))) (za (zp (qB (K:=K) (by rfl)) (by rfl) T.zW W7 (za (pvS 0) (za (jy (v:=.ref jag) (by rfl) jaq.g (by exact rfl)) zb))) zb))))))
   (zd (qX (PW.pt (zdB (zH Qq (xY WO Pr Pq zjr (pvS 1) (za Qp zb)) zo (zQ _)) (zb6 (Yu (xX (zp (qB (K:=K) (by rfl)) (by rfl) T.zW W7 (za (pvS 0) (za (Y0 (v:=.ty "ValueError") (by rfl) T.ze3 znC (by rfl)) zb))) (fun _=>rfl)))))) (zf (zG qp)) zZ)
   (zf (zG (qi qO (qa (za qp (za qp (za qp zb)))) (zp (Zj rfl) (by rfl) T.zf8 UO (za zo (za (xY WO PySem.F.slot_list_index PySem.F.type_list_index zjs (pvS 1) (za Qp zb)) zb))) (fun _ _=>rfl)))))))),?_⟩
  refine⟨_,rfl,e,_,_,_,rfl,he,F.fd,.inl ⟨_,rfl⟩,F.k1,_,rfl,e,_,_,_,rfl,he,F.fd,.inl ⟨_,rfl⟩,F.k2,_,rfl,e,_,_,_,rfl,he,F.fd,.inl ⟨_,rfl⟩,F.k3,zk0,fun d1 hd1=>?_⟩;have s1:=ze (o:=.lst [.bl false,.bl true,.bl false]) hd1;have he1:=s1 _ _ he;refine⟨_,rfl,_,rfl,e,_,_,_,rfl,he1,F.fd,.inl ⟨_,rfl⟩,F.k4,_,rfl,e,_,_,_,rfl,he1,F.fd,.inl ⟨_,rfl⟩,F.k5,_,rfl,e,_,_,_,rfl,he1,F.fd,.inl ⟨_,rfl⟩,F.k6,zk0,fun d2 hd2=>⟨d1,d2,_,_,rfl,rfl,ze hd2 _ _ zc,zc,zqp,fun d3 hd3=>?_⟩⟩;have s3:=(s1.trans (ze (o:=.lst [.bl false,.bl false,.bl false]) hd2)).trans (ze (o:=.lst ([.bl false,.bl true,.bl false]++[.bl false,.bl false,.bl false])) hd3);have he3:=s3 _ _ he;refine⟨_,rfl,_,rfl,e,_,_,_,rfl,he3,F.fd,.inl ⟨_,rfl⟩,F.k7,_,rfl,e,_,_,_,rfl,he3,F.fd,.inl ⟨_,rfl⟩,F.k8,_,rfl,e,_,_,_,rfl,he3,F.fd,.inl ⟨_,rfl⟩,F.k9,zk0,fun d4 hd4=>⟨d3,d4,_,_,rfl,rfl,ze hd4 _ _ zc,zc,(by show 9<=Xz;decide),fun d5 hd5=>?_⟩⟩;have s5:=(s3.trans (ze (o:=.lst [.bl false,.bl false,.bl false]) hd4)).trans (ze (o:=.lst (([.bl false,.bl true,.bl false]++[.bl false,.bl false,.bl false])++[.bl false,.bl false,.bl false])) hd5);have he5:=s5 _ _ he;refine⟨_,rfl,.inl ⟨rfl,_,SqL.of zc⟩,d5,[false,true,false,false,false,false,false,false,false],true,rfl,rfl,zc,rfl,_,rfl,jM (by decide) ?_⟩;refine⟨_,rfl,e,_,_,_,rfl,he5,F.fd,.inr ⟨_,rfl⟩,F.kv,true,rfl,ZU ?_⟩;refine⟨zk0,fun d6 hd6=>⟨_,rfl,.inl ⟨rfl,_,SqL.of (ze hd6 _ _ zc)⟩,d5,[false,true,false,false,false,false,false,false,false],true,1,rfl,rfl,ze hd6 _ _ zc,rfl,?_,by decide,_,_,rfl,d6,_,_,_,rfl,rfl,SqL.of zc,rfl,?_⟩⟩
  ·intro m hm;obtain rfl:m=0:=by lia
   rfl
  ·exact q _ (s5.trans (ze hd6))
end
def znD (C:Addr):Sp:=fun vs H Q E=>∃(p l ca:Addr) (rs:List Str) (n:Int) (c:Nat×Nat),vs=[.ref p,.ref ca]/\qb H p l rs n/\Rows bd.cps.toList rs/\Small rs/\0<=n/\H ca=some (.tup [.int (c.1:Nat),.int (c.2:Nat)])/\c∈zL rs /\
 (jO rs n≠0->∀(t:Addr) (H':Hp),H' t=some (frT (jk rs n c) (jO rs n))->zu H H'->Q (.ref t) H')/\(jO rs n=0->∀H',zu H H'->E (.ref C) none H')
def zqL:Sp:=fun vs H Q _=>∃(n b:Int),vs=[.int n,.int b]/\0<=n/\0<b/\Q (.int (VM n b:Nat)) H
def zmb:Sp:=fun vs H Q _=>∃(n b:Int),vs=[.int n,.int b]/\0<=n/\0<b/\b.natAbs<2^70/\∀p,H p=none->Q (.ref p) (upd H p (frT n b))
def zrs:Sp:=fun vs H Q _=>∃(t u:Addr) (n b:Int),vs=[.ref t,.ref u]/\H t=some (frT n b)/\H u=some (frT n b)/\Q (.bl true) H
def frP (n b:Int):Int×Int:=(n/(VM n b:Nat),b/(VM n b:Nat))
theorem zpC (p q:Int×Int):zca (pD p) (pD q):=⟨rfl,rfl,by show 1<=64;decide⟩
theorem zqM (p:Int×Int):(if true=true then !PyData.eqv (pD p) (pD p) else WX (pD p) (pD p))=false:=by
 rw[if_pos rfl,zlu,decide_eq_true rfl];rfl
def ziO:Sp:=fun vs H Q _=>∃(p l:Addr) (rs:List Str) (n:Int) (v:V),vs=[.ref p,v]/\qb H p l rs n/\Rows bd.cps.toList rs/\Small rs/\0<=n /\
 ((v=.non/\(jO rs n≠0->∀(d:Addr) (kvs:List (List Key×V)) (H':Hp),H d=none->H' d=some (.dT kvs)->kvs.map (·.1)=(zL rs).map jG->(∀c∈zL rs,∃t,yq kvs (jG c)=some (.ref t)/\H' t=some (frT (jk rs n c) (jO rs n)))->zu H H'->Q (.ref d) H')) \/
  ∃(ca:Addr) (c:Nat×Nat),v=.ref ca/\H ca=some (.tup [.int (c.1:Nat),.int (c.2:Nat)])/\c∈zL rs/\(jO rs n≠0->∀(t:Addr) (H':Hp),H' t=some (frT (jk rs n c) (jO rs n))->zu H H'->Q (.ref t) H')) /\
 (jO rs n=0->∀H',zu H H'->Q (.str "laying") H')
section
variable {P:Xd}{w:WP}{K:X2}{mg:Str->Option X9}{base:Heap}{f:Addr}{fd:Xq}{jai jaj jad jaa jac jab jah jaf jae jag:Addr}
theorem zmc:zF ["board","cell"] ["board","cell"] (zg zb1):=⟨rfl,rfl,rfl,by decide +kernel,rfl,by decide +kernel,by decide +kernel⟩
theorem zmd (T:Txt mg)(jan:qF K mg "NoLaying" jad)(Z:Prog K mg)(D:zk K mg "share" zb1 ["board","cell"] f fd):qk P w K mg base (CXE P w) 10 f fd ["board","cell"] (znD jad):=by
 obtain⟨zme,zjY,JS⟩:=Z.shares;refine D.F.okX zmc (fun vs H Q E h=>?_) (fun cdv A outer s H vs Q E hr h=>?_)
 ·obtain⟨p,l,ca,rs,n,c,rfl,_⟩:=h;rfl
 ·obtain⟨p,l,ca,rs,n,c,rfl,B,R,sm,n0,hca,hc,q,e⟩:=h;refine⟨_,(zf (zG (zeM (u1 hr.units) (pcL zaX (zer T jan Z JS) hr JS (za (pvS 0) zb)) (pvS 1) (fun _ _=>rfl)))),?_⟩;refine⟨_,rfl,p,l,rs,n,rfl,B,R,sm,n0,fun hz dd kvs H1 hdd zrt hk hval s1=>?_,fun hz H1 s1=>e hz H1 s1⟩;obtain⟨t,hv,ht⟩:=hval c hc;have g:=zfG.t (k:=jG c) zrt (s1 _ _ hca);rw[hv] at g;exact⟨_,rfl,dd,_,rfl,g,q hz t H1 ht s1⟩
theorem YU:zF ["_law_one","_law_other"] ["_law_one","_law_other"] (zg xP):=⟨rfl,rfl,rfl,by decide +kernel,rfl,by decide +kernel,by decide +kernel⟩
theorem zdf (D:zk K mg "_law_divisor" xP ["_law_one","_law_other"] f fd):qk P w K mg base CX0 1 f fd ["_law_one","_law_other"] zqL:=by
 refine D.F.ok YU (fun vs H Q E h=>?_) (fun cdv A outer s H vs Q E hr h=>?_)
 ·obtain⟨n,b,rfl,_⟩:=h;rfl
 ·obtain⟨n,b,rfl,hn,hb,k⟩:=h;refine⟨_,(zd (zfq Xe (zH zkZ (pvS 1) zo (zQ _)) (zf (zom (i:=0) (j:=1) rfl YU.nd rfl rfl (by decide) rfl rfl (za (pvS 1) (za (zz qQ (pvS 0) (pvS 1)) zb)) rfl)))
   (zf (zG (pvS 0)))),?_⟩
  refine⟨fun m σ H'=>∃(d r:Int),σ=[some (.int d),some (.int r)]/\H'=H/\0<=d/\0<=r/\VM d r=VM n b/\m=r.toNat,⟨_,n,b,rfl,rfl,hn,by lia,rfl,rfl⟩,?_⟩;rintro m σ H' ⟨d,r,rfl,rfl,hd,hr0,hg,rfl⟩;refine⟨_,rfl,_,_,rfl,rfl,_,rfl,?_⟩;by_cases c:r=0
  ·subst c;refine jM (decide_eq_false (by lia)) ?_;refine⟨_,rfl,?_⟩;have e:((VM n b:Nat):Int)=d:=by rw[<- hg];exact ziK d hd
   rw[<- e];exact k
  ·refine yp (decide_eq_true (by lia)) ?_;refine⟨fun σ' H'=>∃m',m'<r.toNat/\_,fun _ _ h=>h,?_⟩;refine⟨_,rfl,_,rfl,_,rfl,_,_,rfl,rfl,(show (0:Int)<r by lia),_,_,rfl,?_⟩;have p:=Vl d (show (0:Int)<r by lia);have q:=U7 d (show r≠0 from c);refine⟨(d%r).toNat,by lia,r,d%r,rfl,rfl,by lia,q,?_,rfl⟩;rw[zfl d r];exact hg
theorem zaP:zF ["_law_top","_law_bottom","_law_by"] ["_law_top","_law_bottom"] (zg J6):=⟨rfl,rfl,rfl,by decide +kernel,rfl,by decide +kernel,by decide +kernel⟩
theorem zfm (T:Txt mg)(Z:Prog K mg)(D:zk K mg "_law_share" J6 ["_law_top","_law_bottom"] f fd):qk P w K mg base CX0 2 f fd ["_law_top","_law_bottom"] zmb:=by
 obtain⟨zmr,zmf,QF⟩:=Z.law_divisor;refine D.F.ok zaP (fun vs H Q E h=>?_) (fun cdv A outer s H vs Q E hr h=>?_)
 ·obtain⟨n,b,rfl,_⟩:=h;rfl
 ·obtain⟨n,b,rfl,hn,hb,hB,k⟩:=h;refine⟨_,(zd (zq (i:=2) zaP.nd rfl (XM rfl) (pc0 (zdf QF) hr QF (za (pvS 0) (za (pvS 1) zb))))
   (zf (zG (jU (za (zz qy (pvS 0) (pvS 2)) (za (zz qy (pvS 1) (pvS 2)) zb)))))),?_⟩
  have g0:=ziL (a:=n) hb;have g1:=zl5 (a:=n) hb;have gB:((VM n b:Nat):Int).natAbs<2^8000:=by
   have e:2^70<=2^8000:=Wf (by decide) (by decide);lia
  refine⟨_,rfl,_,rfl,n,b,rfl,hn,hb,?_⟩;refine⟨_,rfl,_,rfl,_,_,rfl,rfl,yr.big g0 gB,_,rfl,_,rfl,_,_,rfl,rfl,yr.big g0 gB,YD,?_⟩;exact k
theorem zbH:zF ["_law_found","_law_due"] ["_law_found","_law_due"] (zg yW):=⟨rfl,rfl,rfl,by decide +kernel,rfl,by decide +kernel,by decide +kernel⟩
theorem Yr (T:Txt mg)(D:zk K mg "_law_is_share" yW ["_law_found","_law_due"] f fd):qk P w K mg base CX0 1 f fd ["_law_found","_law_due"] zrs:=by
 refine D.F.ok zbH (fun vs H Q E h=>?_) (fun cdv A outer s H vs Q E hr h=>?_)
 ·obtain⟨t,u,n,b,rfl,_⟩:=h;rfl
 ·obtain⟨t,u,n,b,rfl,ht,hu,k⟩:=h;refine⟨_,(zd (qX (PW.pt (zdB (Yu (xX (zp xZ (by rfl) T.zW W7 (za (pvS 0) (za (Y0 (v:=.ty "tuple") (by rfl) T.zna PyProof.Rows.boot_tuple (by rfl)) zb))) (fun _=>rfl))) (zdB (zH Qq (zp zB (by rfl) T.ji W0 (za (pvS 0) zb)) zo (zQ _)) (zb6 (zH (yF hr.units) (pvS 0) (pvS 1) (zQ _)))))) (zf (zG Qp)) zZ)
   (zf (zG (zj2 (zp xZ (by rfl) T.zW W7 (za (qi jz (pvS 0) zo (fun _ _=>rfl)) (za (Y0 (v:=.ty "int") (by rfl) T.zf6 UQ (by rfl)) zb))) (zj2 (zj3 (zp xZ (by rfl) T.zW W7 (za (qi jz (pvS 0) zo (fun _ _=>rfl)) (za (Y0 (v:=.ty "bool") (by rfl) T.zlh Pc (by rfl)) zb)))) (zoi (zj3 (zp xZ (by rfl) T.zW W7 (za (qi jz (pvS 0) zo (fun _ _=>rfl)) (za (Y0 (v:=.ty "bool") (by rfl) T.zlh Pc (by rfl)) zb)))))))))),?_⟩
  refine⟨_,rfl,_,"tuple","tuple",true,rfl,.tup ht,(by decide +kernel),true,rfl,ZU ?_⟩;refine⟨_,rfl,t,_,rfl,.inr (SqT.of ht),rfl,_,rfl,znM rfl ?_⟩;refine⟨_,rfl,_,rfl,pD (frP n b),pD (frP n b),PR.rdv (p:=frP n b) ⟨t,rfl,ht⟩,PR.rdv (p:=frP n b) ⟨u,rfl,hu⟩,zpC _ _,_,rfl,jM (zqM _) ?_⟩;refine⟨_,rfl,t,_,0,_,rfl,rfl,SqT.of ht,rfl,_,"int","int",true,rfl,.int _,(by decide +kernel),true,rfl,Qm ?_⟩;refine⟨_,rfl,t,_,0,_,rfl,rfl,SqT.of ht,rfl,_,"int","bool",false,rfl,.int _,(by decide +kernel),false,rfl,true,rfl,Qm ?_⟩;exact⟨_,rfl,t,_,1,_,rfl,rfl,SqT.of ht,rfl,_,"int","bool",false,rfl,.int _,(by decide +kernel),false,rfl,k⟩
theorem j9:zF ["_law_board_here","_law_cell","_law_found","_law_error","e"] ["_law_board_here","_law_cell"] (zg Z7):=⟨rfl,rfl,rfl,by decide +kernel,rfl,by decide +kernel,by decide +kernel⟩
theorem zgM (T:Txt mg)(U:zpB K mg jai jaj jad jaa jac jab jah jaf jae jag)(Z:Prog K mg)(D:zk K mg "_law_told" Z7 ["_law_board_here","_law_cell"] f fd):qk P w K mg base CX0 11 f fd ["_law_board_here","_law_cell"] ziO:=by
 obtain⟨zme,zjY,JS⟩:=Z.shares;obtain⟨zqP,zqN,zb2⟩:=Z.share;obtain⟨zms,zmg,QG⟩:=Z.law_outcome;have jas:=U.o0;refine D.F.ok j9 (fun vs H Q E h=>?_) (fun cdv A outer s H vs Q E hr h=>?_)
 ·obtain⟨p,l,rs,n,v,rfl,_⟩:=h;rfl
 ·obtain⟨p,l,rs,n,v,rfl,B,R,sm,n0,q,qE⟩:=h;refine⟨_,(zd (zq (i:=2) j9.nd rfl (XM rfl) zaS)
   (zd (zq (i:=3) j9.nd rfl (XM rfl) zaS)
   (Y7 (zmY (j:=4) rfl rfl j9.nd rfl rfl (by rfl) jas (fun _ _=>(zf (qX (zH zou (pvS 1) zaS (zQ _)) (zf (zq (i:=2) j9.nd rfl (XM rfl) (zfW (zer T U.o2 Z JS) (hr.mono (by decide)) (by rfl) JS.g JS.F.kp JS.b (za (pvS 0) zb)))) (zf (zq (i:=2) j9.nd rfl (XM rfl) (zfW (zmd T U.o2 Z zb2) (hr.mono (by decide)) (by rfl) zb2.g zb2.F.kp zb2.b (za (pvS 0) (za (pvS 1) zb)))))))) (fun _=>(zf (zq (i:=3) j9.nd rfl (XM rfl) (pvS 4)))))
   (zd (qX (zH zmw (pvS 3) zaS (zQ _)) (zf (zG (pc0 (zde T U QG) hr QG (za (pvS 3) zb)))) zZ)
   (zf (zG (pvS 2))))))),?_⟩
  refine⟨fun σ' H'=>(∃r:Addr,σ'=[some (.ref p),some v,some (.ref r),some .non,none]/\Q (.ref r) H')\/(jO rs n=0/\∃e:Addr,σ'=[some (.ref p),some v,some .non,some (.ref e),none]/\zu H H'/\H' e=some (exO e jad)),?_,?_⟩
  ·rcases q with ⟨rfl,q⟩ | ⟨ca,c,rfl,hca,hc,q⟩
   ·refine⟨_,rfl,rfl,_,rfl,yp rfl ?_⟩;refine⟨_,rfl,p,l,rs,n,rfl,B,R,sm,n0,fun hz d kvs H' hd hd' hk hv s1=>.inl ⟨d,rfl,q hz d kvs H' hd hd' hk hv s1⟩,fun hz H' s1=>⟨jad,rfl,U.fl.mro,fun e hn=>?_⟩⟩;exact⟨_,rfl,.inr ⟨hz,e,rfl,s1.trans (ze hn),zc⟩⟩
   ·refine⟨_,rfl,rfl,_,rfl,jM rfl ?_⟩;refine⟨_,rfl,_,rfl,p,l,ca,rs,n,c,rfl,B,R,sm,n0,hca,hc,fun hz t H' ht s1=>.inl ⟨t,rfl,q hz t H' ht s1⟩,fun hz H' s1=>⟨jad,rfl,U.fl.mro,fun e hn=>?_⟩⟩;exact⟨_,rfl,.inr ⟨hz,e,rfl,s1.trans (ze hn),zc⟩⟩
  ·rintro σ' H' (⟨r,rfl,q⟩ | ⟨hz,e,rfl,s1,he⟩)
   ·exact⟨_,rfl,rfl,_,rfl,jM rfl ⟨_,rfl,q⟩⟩
   ·exact⟨_,rfl,rfl,_,rfl,yp rfl ⟨_,rfl,e,rfl,he,fun H2 s2=>qE hz H2 (s1.trans s2)⟩⟩
end
def lk1 (k:List (Int×Int)):We:=.list (k.map pD)
theorem zmh {N:Addr->Prop}{H:Hp}{ws:List V}{k:List (Int×Int)}(h:yd H ws k):zD N H ws (k.map pD):=by
 induction h with
 | nil=>exact .nil
 | cons h _ ih =>
  obtain⟨a,rfl,h⟩:=h;exact .cons (.tup h (.cons (.int _) (.cons (.int _) .nil))) ih
theorem zjZ {K:X2}{N:Addr->Prop}{H:Hp}{us:List V}{ks:List (List (Int×Int))}(h:jt N H us ks):xq K H us (ks.map lk1):=by
 induction h with
 | nil=>exact .nil
 | cons h _ ih =>
  obtain⟨a,ws,rfl,_,h1,h2⟩:=h;exact .cons (.lst (SqL.of h1) (zcF h2)) ih
theorem zpD (ks:List (List (Int×Int))):Wp (ks.map lk1)=true:=by
 induction ks with
 | nil=>rfl
 | cons k r ih =>
  show (Wp (k.map pD)&&Wp (r.map lk1))=true;rw[ze8,ih];rfl
theorem zpE (ks:List (List (Int×Int))):Wy (ks.map lk1)<=2:=by
 induction ks with
 | nil=>exact W5 _
 | cons k r ih =>
  show max (Wy (k.map pD)+1) (Wy (r.map lk1))<=2;have:=zgg k;lia
theorem zpF (ks:List (List (Int×Int))):zca (.list (ks.map lk1)) (.list []):=⟨zpD ks,rfl,by
 show Wy (ks.map lk1)+1<=64;have:=zpE ks;lia⟩
theorem zmi (ks:List (List (Int×Int))):(if false=true then !PyData.eqv (.list (ks.map lk1)) (.list []) else WX (.list (ks.map lk1)) (.list []))=ks.isEmpty:=by
 cases ks<;>rfl
theorem zes {α:Type}(l:List α):l.isEmpty=decide (((l.length:Nat):Int)=0):=by
 cases l with
 | nil=>rfl
 | cons a r =>
  symm;exact decide_eq_false (by rw[Xs];lia)
theorem znE:zca (.str "laying") (.str "laying"):=⟨by decide +kernel,by decide +kernel,by decide +kernel⟩
theorem zfn {ps:List (Int×Int)}{ds:List (Nat×Nat)}(hp:ps.Perm (ds.map toI))(hu:ps.Pairwise fun p q=>lt2 q p=false)(hd:ds.Pairwise Cells.lex):ps=ds.map toI:=by
 obtain⟨es,rfl,he⟩:=ziy hp;have ne:es.Nodup:=he.nodup_iff.mpr (yj hd);have ue:es.Pairwise Cells.lex:=by
  rw[Wo] at hu;refine(hu.and ne).imp fun {a b} ⟨h1,h2⟩=>?_;have h3:¬ Cells.lex b a:=fun z=>by rw[zix.mpr z] at h1;cases h1
  obtain⟨a1,a2⟩:=a;obtain⟨b1,b2⟩:=b;unfold Cells.lex at h3 ⊢;simp only[ne_eq,Prod.mk.injEq] at h2;lia
 rw[he.eq_of_pairwise (fun x y _ _ h1 h2=>by
  unfold Cells.lex at h1 h2;lia) ue hd]
def ziP (K:X2):Sp:=fun vs H Q _=>∃(a:Addr) (ns:List Int),vs=[.ref a]/\SqL K H a (ns.map V.int)/\ns.length<=63/\∀H',Q (.bl true) H'
section
variable {P:Xd}{w:WP}{K:X2}{mg:Str->Option X9}{base:Heap}{f:Addr}{fd:Xq}{jai jaj jad jaa jac jab jah jaf jae jag:Addr}
theorem JT:zF ["_law_script","_law_texts_here","_law_stones","_law_board_here","_law_fitting","_law_cells","_law_cell","_law_turn","_law_found","_law_due"] ["_law_script"] (zg zd1):=⟨rfl,rfl,rfl,by decide +kernel,rfl,by decide +kernel,by decide +kernel⟩
theorem zpG (T:Txt mg)(jas:qF K mg "StoneError" jai)(jat:qF K mg "TooGreat" jaj)(jan:qF K mg "NoLaying" jad)(jak:qF K mg "NoBoard" jaa)(jam:qF K mg "NoCount" jac)(jal:qF K mg "NoCell" jab)(jar:qF K mg "NoText" jah)(jap:qF K mg "NoRow" jaf)(jao:qF K mg "NoNumber" jae)(jaq:qF K mg "NoTable" jag)
  (FL:Facts K jad jai jaj jad jaa jac jab jah jaf jae jag false true) (Z:Prog K mg) (D:zk K mg "law" zd1 ["_law_script"] f fd):qk P w K mg base CX0 12 f fd ["_law_script"] (ziP K):=by
 obtain⟨zoa,znF,zbC⟩:=Z.law_board;obtain⟨zmt,zmj,QH⟩:=Z.law_layings;obtain⟨znG,zmu,zaQ⟩:=Z.law_closed;obtain⟨zhS,zgN,Ym⟩:=Z.law_told;obtain⟨zob,znH,zbD⟩:=Z.law_share;obtain⟨zmk,zj0,xj⟩:=Z.law_is_share;have U:zpB K mg jai jaj jad jaa jac jab jah jaf jae jag:=⟨jas,jat,jan,jak,jam,jal,jar,jap,jao,jaq,FL⟩;have QZ:qk P w K mg base CX0 11 zhS zgN ["_law_board_here","_law_cell"] ziO:=zgM T U Z Ym;refine D.F.ok JT (fun vs H Q E h=>?_) (fun cdv A outer s H vs Q E hr h=>?_)
 ·obtain⟨a,ns,rfl,_⟩:=h;rfl
 ·obtain⟨a,ns,rfl,hS,hlen,q⟩:=h;refine⟨_,(zd (zb7 (pc0 (zfj T Z zbC) hr zbC (za (pvS 0) (za zo zb))) (JE rfl (zT (zm (i:=1) JT.nd rfl (XM rfl)) (zT (zm (i:=2) JT.nd rfl (XM rfl)) yc))))
   (zd (zq (i:=3) JT.nd rfl (XM rfl) (jU (za (jf zah (by rfl) T.zli Pd (za (pvS 1) zb)) (za (pvS 2) zb))))
   (zd (zq (i:=4) JT.nd rfl (XM rfl) (pc0 (zda T Z QH) hr QH (za (pvS 1) (za (pvS 2) zb))))
   (zd (zq (i:=5) JT.nd rfl (XM rfl) (pc0 (zdw T zaQ) hr zaQ (za (pvS 1) zb)))
   (zd (qX (zH (JG hr.units) (pvS 4) (qa zb) (zQ _)) (zd (qj Xe rfl (zM (zz ZT (qa (za zaS zb)) (pvS 5))) (zm (i:=6) JT.nd rfl (UV rfl)) (zf (qX (zH (yF hr.units) (pc0 QZ hr Ym (za (pvS 3) (za (pvS 6) zb))) qp (zQ _)) (zf (zG Qp)) zZ)))
   (zf (zG (Y5 (JG hr.units) (pvS 3) (jU (za (pvS 1) (za (pvS 2) zb))) (zQ _))))) zZ)
   (zd (qj Xe rfl (qI (by rfl) T.jd (za zo zb)) (zm (i:=7) JT.nd rfl (XM rfl)) (zd (zq (i:=8) JT.nd rfl (XM rfl) (pc0 QZ hr Ym (za (pvS 3) (za zaS zb))))
   (zd (qX (PW.pt (zdB (Yu (xX (zp xZ (by rfl) T.zW W7 (za (pvS 8) (za (Y0 (v:=.ty "dict") (by rfl) T.ze4 Ua (by rfl)) zb))) (fun _=>rfl))) (zb6 (zH (yF hr.units) (zp (zdm hr.hd) (by rfl) T.zaA Uw (za (zkb Pp Pe PySem.F.type_dict_keys zk3 (pvS 8)) zb)) (pvS 5) (zQ _))))) (zf (zG Qp)) zZ)
   (zd (qj Xe rfl (zM (pvS 5)) (zm (i:=6) JT.nd rfl (UV rfl)) (zd (zq (i:=9) JT.nd rfl (XM rfl) (pc0 (zfm T Z zbD) hr zbD (za (zp zB (by rfl) T.ji W0 (za (qh (N:=["_law_one","_law_cell"]) (src:=[none,some 6]) (zU.free (O:=(zg zd1).names) (XN:=["_law_script","_law_texts_here","_law_stones","_law_board_here","_law_fitting","_law_cells","_law_cell","_law_turn","_law_found","_law_due"]) rfl rfl ⟨_,rfl⟩ rfl rfl (by decide +kernel) (by decide +kernel) (by decide +kernel) rfl (by decide +kernel)) rfl (zM (pvS 4)) (fun _ _ _ _ _=>(zm (i:=0) (by show WW (["_law_one","_law_cell"]:List Str);decide +kernel) rfl (XM rfl))) (fun _ _ _ _ _=>(qD (zH (jV (K:=K) (by rfl) hr.units) (pvS 1) (pvS 0) (by rfl)))) (fun _ _ _ _ _=>(pvS 0))) zb)) (za (zp zB (by rfl) T.ji W0 (za (pvS 4) zb)) zb))))
   (zf (qX (PW.pt (zdB (Yu (xX (pc0 (Yr T xj) hr xj (za (zeM (u1 hr.units) (pvS 8) (pvS 6) (fun _ _=>rfl)) (za (pvS 9) zb))) (fun _=>rfl))) (zb6 (Yu (xX (pc0 (Yr T xj) hr xj (za (pc0 QZ hr Ym (za (pvS 3) (za (pvS 6) zb))) (za (pvS 9) zb))) (fun _=>rfl)))))) (zf (zG Qp)) zZ))))
   (zf (yy (zkb Pp Pw PySem.F.type_dict_clear zja (pvS 8))))))))
   (zf (zG (Y5 (JG hr.units) (pvS 3) (jU (za (pvS 1) (za (pvS 2) zb))) (zQ _)))))))))),?_⟩
  refine⟨_,rfl,a,ns,_,rfl,hS,by decide,fun p l rs st H0 B0 B st0 st1 s0=>?_⟩;refine⟨p,_,rfl,SqT.of B0.tp,rfl,_,_,rfl,_,_,rfl,rfl,?_⟩;have hl:=B0.rw;obtain⟨n,n1,n5,hrow⟩:=B.ex;have W:Wide rs n:=⟨n1,n5,hrow⟩;have R:=B.rows;have sm:Small rs:=zlG (X5 B.sh (by decide));have sl:(zL rs).length<=64:=qW (p:=qA) R;refine⟨_,rfl,l,_,rfl,.inl (SqL.of hl),fun l2 hl2=>⟨_,rfl,YD,fun h hh=>?_⟩⟩;have z1:=ze (o:=.lst (rs.map V.str)) hl2;have y2:=ze (o:=.tup [.ref l2,.int st]) hh;have BH:qb (upd (upd H0 l2 (.lst (rs.map V.str))) h (.tup [.ref l2,.int st])) h l2 rs st:=⟨zc,y2 _ _ zc⟩;have s02:=z1.trans y2;generalize upd (upd H0 l2 (.lst (rs.map V.str))) h (.tup [.ref l2,.int st])=H2 at *
  have hl2':=s02 _ _ hl;have eb:(if false=true then !PyData.eqv (bData rs st) (bData rs st) else WX (bData rs st) (bData rs st))=true:=OF _ (R.cmpB st).l1;refine⟨_,rfl,_,rfl,l,rs,n,st,rfl,hl2',B,W,fun fa us N H3 hfa zru hL3 s3=>?_⟩;have ul:=jg hL3;have ea:=zl1 W st0;have u64:us.length<=1024:=by
   rw[ul];unfold QB;rw[Y1];refine X5 (W6 _ _) ?_;rw[zbk,W8];refine X5 (Wf (by decide) (show (jq rs n).length<=10 from ?_)) (by decide);have h1:=B.sh;rw[<- zc7 W,Y1] at h1;exact h1
  refine⟨_,rfl,l,rs,rfl,s3 _ _ hl2',R,fun d wd H5 hd hd5 hc5 s5=>?_⟩;have s25:=s3.trans s5;have hfa5:=s5 _ _ zru;have hL5:=qc s5 hL3;have wl:=hc5.length;refine⟨_,rfl,Z1,fun t0 ht0=>?_⟩;have z6:=ze (o:=.lst []) ht0;have s26:=s25.trans z6;have hfa6:=z6 _ _ hfa5;have hL6:=qc z6 hL5;have hd6:=z6 _ _ hd5;have hc6:=hc5.mono z6;refine⟨.list ((QB rs n st).map lk1),.list [],.lst (SqL.of hfa6) (zjZ hL6),.lst (SqL.of zc) .nil,zpF _,_,rfl,?_⟩;generalize upd H5 t0 (.lst [])=H6 at *
  have BH6:=BH.mono s26;have fin:∀{H':Hp},zu H2 H'->∀tq,H' tq=none->∃dx dy,Rdv K (upd H' tq (.tup [.ref l,.int st])) (.ref h) dx/\Rdv K (upd H' tq (.tup [.ref l,.int st])) (.ref tq) dy/\zca dx dy/\(if false=true then !PyData.eqv dx dy else WX dx dy)=true:=fun {H'} s tq htq=>by
   have z:=ze (o:=.tup [.ref l,.int st]) htq;exact⟨bData rs st,bData rs st,qb.rdv ((BH.mono s).mono z),qb.rdv ⟨zc,z _ _ (s _ _ hl2')⟩,R.cmpB st,eb⟩
  by_cases hz:jO rs st=0
  ·have e0:(QB rs n st).isEmpty=true:=by
    rw[zes,ea];exact decide_eq_true hz
   refine yp ((zmi _).trans e0) ?_;refine⟨sz_1,fun nl hnl=>?_⟩;have z7:=ze (o:=.lst [.non]) hnl;refine⟨_,rfl,nl,d,_,_,rfl,rfl,zc,z7 _ _ hd6,X5 (show 1+wd.length<=65 by lia) (by decide),fun x hx=>?_⟩;have z8:=ze (o:=.lst ([.non]++wd)) hx;have s68:=z7.trans z8;have hx8:upd (upd H6 nl (.lst [.non])) x (.lst ([.non]++wd)) x=some (.lst ([.non]++wd)):=zc;generalize upd (upd H6 nl (.lst [.non])) x (.lst ([.non]++wd))=H8 at *
   refine⟨x,rfl,⟨_,SqL.of hx8⟩,?_⟩;refine jS (K:=K) (a:=x) (xs:=[.non]++wd) (fun i σ H'=>∃v,σ=[some (.ref a),some (.ref l),some (.int st),some (.ref h),some (.ref fa),some (.ref d),v,none,none,none]/\zu H8 H') ⟨_,rfl,zu.refl _⟩ (fun i σ H' _ ⟨_,_,s9⟩=>SqL.of (s9 _ _ hx8)) ?_ ?_
   ·rintro i v σ H9 hv ⟨v0,rfl,s9⟩;have s69:=s68.trans s9;refine⟨_,rfl,_,rfl,h,l2,rs,st,v,rfl,BH6.mono s69,R,sm,st0,?_,fun _ H10 s10=>⟨.str "laying",.str "laying",.str _,.str _,znE,false,rfl,ZU ⟨_,rfl,s9.trans s10⟩⟩⟩;cases i with
    | zero =>
     have e:v=.non:=(Option.some.inj hv).symm;exact .inl ⟨e,fun h'=>absurd hz h'⟩
    | succ i =>
     have hv:wd[i]?=some v:=hv;obtain⟨c,hc,ca,e,hca⟩:=Cel.get (hc6.mono s69) hv;exact .inr ⟨ca,c,e,hca,X0 hc,fun h'=>absurd hz h'⟩
   ·rintro σ H9 ⟨v0,rfl,s9⟩;refine⟨_,rfl,_,rfl,_,rfl,YD,fun tq htq=>?_⟩;obtain⟨dx,dy,r1,r2,c1,e1⟩:=fin (s26.trans (s68.trans s9)) tq htq;refine⟨dx,dy,r1,r2,c1,?_⟩;rw[e1];exact q _
  ·have e0:(QB rs n st).isEmpty=false:=by
    rw[zes,ea];exact decide_eq_false hz
   refine jM ((zmi _).trans e0) ?_;obtain⟨cw0,cwb⟩:=zdc rs R st;refine⟨2,rfl,by decide,by decide,?_⟩;refine qw (lo:=0) (n:=2) (fun i σ H'=>∃v6 v7 v8 v9,σ=[some (.ref a),some (.ref l),some (.int st),some (.ref h),some (.ref fa),some (.ref d),v6,v7,v8,v9]/\zu H6 H') ⟨_,_,_,_,rfl,zu.refl _⟩ ?_ ?_
   ·rintro i σ H7 hi ⟨v6,v7,v8,v9,rfl,s7⟩;refine⟨_,rfl,h,l2,rs,st,.non,rfl,BH6.mono s7,R,sm,st0,.inl ⟨rfl,fun _ dd kvs H8 hdd znI hk hval s8=>?_⟩,fun h'=>absurd h' hz⟩;have s68:=s7.trans s8;refine⟨_,rfl,_,"dict","dict",true,rfl,.dT znI,(by decide +kernel),true,rfl,ZU ?_⟩;refine⟨_,rfl,.inr (.inr (.inl ⟨rfl,.inr ⟨kvs,znI⟩⟩)),dd,kvs,rfl,rfl,znI,fun kv hkv=>?_⟩;have z9:=ze (o:=zhg kv dd) hkv;have hdd9:=z9 _ _ znI;have shl:=Cells.JA qA 0 (codes rs);refine⟨kv,dd,kvs,(zL rs).map toI,rfl,zc,hdd9,?_,?_,fun ds us' ps' hds t' pm up=>?_⟩
    ·rw[hk,WR];rfl
    ·rw[Y1];lia
    rw[zfn pm up shl] at t';have k10:=Ja t';have z10:=ze (o:=.lst us') hds;have k10:=k10.mono z10;have hds10:upd (upd H8 kv (zhg kv dd)) ds (.lst us') ds=some (.lst us'):=zc;have s810:=z9.trans z10;have hdd10:=z10 _ _ hdd9;generalize upd (upd H8 kv (zhg kv dd)) ds (.lst us')=H10 at *
    have s610:=s68.trans s810;have hc10:=hc6.mono s610;have hd10:=s610 _ _ hd6;have ec:(if true=true then !PyData.eqv (.list ((zL rs).map zv)) (.list ((zL rs).map zv)) else WX (.list ((zL rs).map zv)) (.list ((zL rs).map zv)))=false:=by
     rw[if_pos rfl,g_same];rfl
    refine⟨_,rfl,.list ((zL rs).map zv),.list ((zL rs).map zv),.lst (SqL.of hds10) (zhp k10),.lst (SqL.of hd10) (zhp hc10),zpc _ _,_,rfl,jM ec ?_⟩;refine⟨_,rfl,d,rfl,⟨_,SqL.of hd10⟩,?_⟩;refine jS (K:=K) (a:=d) (xs:=wd) (fun j σ H'=>∃v6 v9,σ=[some (.ref a),some (.ref l),some (.int st),some (.ref h),some (.ref fa),some (.ref d),v6,some (.int (0+(i:Int))),some (.ref dd),v9]/\zu H10 H') ⟨_,_,rfl,zu.refl _⟩ (fun j σ H' _ ⟨_,_,_,s11⟩=>SqL.of (s11 _ _ hd10)) ?_ ?_
    ·rintro j v σ H11 hv ⟨w6,w9,rfl,s11⟩;have s611:=s610.trans s11;obtain⟨c,hc,ca,rfl,hca⟩:=Cel.get (hc6.mono s611) hv;have hcm:=X0 hc;have hfa11:=s611 _ _ hfa6;refine⟨_,rfl,fa,rfl,⟨_,SqL.of hfa11⟩,fun z5 hz5=>?_⟩;refine qU (K:=K) (a:=fa) (xs:=us) (fun a=>a≠z5) ((QB rs n st).map fun k=>if YL c k=true then some (lk1 k) else none) (fun σ=>∃u0,σ=[u0,some (.ref ca)]) hz5 (fun _ h=>h) ⟨_,rfl⟩ (by rw[Y1];exact ul.symm) (by lia) (SqL.of hfa11) ?_ ?_
     ·rintro m v2 o2 σ H12 hv2 ho2 s12 _ ⟨u1,rfl⟩ Y2 Z2 yes2 no2;obtain⟨k,a1,wa,hk1,rfl,_,ha1,t1⟩:=YK (qc s611 hL6) hv2;have eo2:=xw hk1 ho2;refine⟨_,rfl,_,rfl,zv c,k.map pD,Ze.rdv ⟨ca,rfl,s12 _ _ hca⟩,.lst (SqL.of (s12 _ _ ha1)) (zcF (yL s12 t1)),rfl,ze8 _,(by show 1<=60;decide),_,rfl,?_⟩;have ei:(if false=true then !(k.map pD).any (fun z=>WX z (zv c)) else (k.map pD).any fun z=>WX z (zv c))=YL c k:=zlv k c;by_cases hh:YL c k=true
      ·rw[if_pos hh] at eo2;exact yp (ei.trans hh) ⟨_,rfl,yes2 _ _ _ _ eo2 ⟨_,rfl⟩ (zu.refl _) (.lst (zj ha1 hz5) (s12 _ _ ha1) (zmh (yL s12 t1)))⟩
      ·rw[if_neg hh] at eo2;exact jM (ei.trans (Xy.mpr hh)) (no2 _ _ eo2 ⟨_,rfl⟩ (zu.refl _))
     ·rintro ys H12 s12 hz12 hr12;rw[qS] at hr12;have yl:((ys.length:Nat):Int)=jk rs st c:=by
       rw[hr12.length,Y1];exact znz W st0 c
      have fl:((us.length:Nat):Int)=jO rs st:=by
       rw[ul];exact ea
      refine⟨z5,_,rfl,.inl (SqL.of hz12),_,rfl,fa,_,rfl,.inl (SqL.of (s12 _ _ hfa11)),_,_,rfl,?_,?_,?_,fun du hdu=>?_⟩
      ·show (0:Int)<=((ys.length:Nat):Int);lia
      ·show (0:Int)<((us.length:Nat):Int);lia
      ·show (((us.length:Nat):Int)).natAbs<2^70;rw[fl];exact cwb
      rw[yl,fl] at *
      have z13:=ze (o:=frT (jk rs st c) (jO rs st)) hdu;have hdu13:upd H12 du (frT (jk rs st c) (jO rs st)) du=some (frT (jk rs st c) (jO rs st)):=zc;have s1113:=s12.trans z13;generalize upd H12 du (frT (jk rs st c) (jO rs st))=H13 at *
      have s1013:=s11.trans s1113;have s813:=s810.trans s1013;obtain⟨t,hvt,ht⟩:=hval c hcm;have hca13:=s1113 _ _ hca;have g:=zfG.t (k:=jG c) (s1013 _ _ hdd10) hca13;rw[hvt] at g;refine⟨_,rfl,_,rfl,dd,_,rfl,g,_,rfl,t,du,_,_,rfl,s813 _ _ ht,hdu13,true,rfl,ZU ?_⟩;have s613:=s68.trans s813;refine⟨_,rfl,_,rfl,h,l2,rs,st,.ref ca,rfl,BH6.mono s613,R,sm,st0,.inr ⟨ca,c,rfl,hca13,hcm,fun _ t2 H14 ht2 s14=>?_⟩,fun h'=>absurd h' hz⟩;exact⟨_,rfl,t2,du,_,_,rfl,ht2,s14 _ _ hdu13,true,rfl,ZU ⟨_,_,rfl,s1013.trans s14⟩⟩
    ·rintro σ H11 ⟨w6,w9,rfl,s11⟩;have hdd11:=s11 _ _ hdd10;refine⟨_,rfl,.inr (.inr (.inl ⟨rfl,.inr ⟨kvs,hdd11⟩⟩)),dd,kvs,rfl,rfl,hdd11,?_⟩;refine⟨_,_,_,_,rfl,fun b o e=>?_⟩;rw[zh (zj (s7 _ _ e) hdd)];exact(s610.trans s11) _ _ e
   ·rintro σ H7 ⟨v6,v7,v8,v9,rfl,s7⟩;refine⟨_,rfl,_,rfl,_,rfl,YD,fun tq htq=>?_⟩;obtain⟨dx,dy,r1,r2,c1,e1⟩:=fin (s26.trans s7) tq htq;refine⟨dx,dy,r1,r2,c1,?_⟩;rw[e1];exact q _
end
theorem all_mk {l:O9}{w:WP}{K:X2}{h:Heap}{mg:Str->Option X9}{fa:Addr}{jaE:Tok}{jaF:Tok}{jaG:Tok}{jai:Addr}{jaj:Addr}{jad:Addr}{jaa:Addr}{jac:Addr}{jab:Addr}{jah:Addr}{jaf:Addr}{jae:Addr}{jag:Addr}(X:K.In h)(G:h.Ns XR mg)(hfa:mg "law"=some (.ref fa))
  (Q0:HasDef K "closed" Zw)
  (Ji:HasDef K "open_cells" qt)
  (Q2:HasDef K "around" j4)
  (JV:HasDef K "number_at" j5)
  (ZN:HasDef K "cells_of" qz)
  (YV:HasDef K "sign_at" qJ)
  (zbI:HasDef K "parts" zbZ)
  (Q3:HasDef K "joined" Zx)
  (zhT:HasDef K "far" zf4)
  (Jj:HasDef K "numbers_of" jC)
  (Jk:HasDef K "bare_wrong" yh)
  (yx:HasDef K "closed_around" qK)
  (yO:HasDef K "part_layings" qG)
  (ZO:HasDef K "needs_at" yH)
  (YW:HasDef K "may_fit" xu)
  (xB:HasDef K "part_counts" xN)
  (YX:HasDef K "counted" JB)
  (Jl:HasDef K "counted_at" yV)
  (YY:HasDef K "choices" Qe)
  (Q4:HasDef K "poured" zay)
  (xC:HasDef K "near_counts" yt)
  (zbJ:HasDef K "count" zb0)
  (yb:HasDef K "counts_by_cell" qV)
  (Jm:HasDef K "all_poured" Jt)
  (zbK:HasDef K "dealt" zaz)
  (ZP:HasDef K "fraction" Z5)
  (jx:HasDef K "greatest_divisor" jb)
  (zbL:HasDef K "share" zb1)
  (Q5:HasDef K "shares" YI)
  (Jo:HasDef K "some_count" Ju)
  (xD:HasDef K "_law_cell_at" xO)
  (ZQ:HasDef K "_law_near" Z6)
  (JW:HasDef K "_law_signs" J5)
  (JX:HasDef K "_law_texts" x8)
  (YZ:HasDef K "_law_dug" Qf)
  (JY:HasDef K "_law_board" x9)
  (xE:HasDef K "_law_numbers" yu)
  (ZR:HasDef K "_law_fits" JP)
  (xF:HasDef K "_law_choices" yw)
  (xG:HasDef K "_law_layings" jK)
  (Jp:HasDef K "_law_closed" Jv)
  (xH:HasDef K "_law_divisor" xP)
  (JZ:HasDef K "_law_share" J6)
  (yP:HasDef K "_law_is_share" yW)
  (xJ:HasDef K "_law_outcome" xQ)
  (ZS:HasDef K "_law_told" Z7)
  (zhU:HasDef K "law" zd1)
  (Jq:XQ K XR "ValueError"=some none)
  (zhV:XQ K XR "any"=some none)
  (zet:XQ K XR "bool"=some none)
  (zeu:XQ K XR "dict"=some none)
  (Q6:XQ K XR "divmod"=some none)
  (J0:XQ K XR "enumerate"=some none)
  (zhW:XQ K XR "int"=some none)
  (Jr:XQ K XR "isinstance"=some none)
  (zhX:XQ K XR "len"=some none)
  (zew:XQ K XR "list"=some none)
  (zhY:XQ K XR "max"=some none)
  (zhZ:XQ K XR "min"=some none)
  (zbM:XQ K XR "range"=some none)
  (zh0:XQ K XR "set"=some none)
  (Q7:XQ K XR "sorted"=some none)
  (zh1:XQ K XR "str"=some none)
  (zh2:XQ K XR "sum"=some none)
  (zbN:XQ K XR "tuple"=some none)
  (zh3:XQ K XR "zip"=some none)
  (xK:XQ K XR "CLOSED_SIGN"=some (some (.str "?" jaE)))
  (yQ:XQ K XR "MOST_OF_PART"=some (some (.int 14 jaF)))
  (yR:XQ K XR "NO_CELL_SIGN"=some (some (.str "#" jaG)))
  (jaC:XQ K XR "StoneError"=some (some (.ref jai)))
  (jaP:WC K jai Jh "ValueError.__new__"=true)
  (jaD:XQ K XR "TooGreat"=some (some (.ref jaj)))
  (jaQ:WC K jaj Jh "ValueError.__new__"=true)
  (jax:XQ K XR "NoLaying"=some (some (.ref jad)))
  (jaK:WC K jad Jh "ValueError.__new__"=true)
  (jau:XQ K XR "NoBoard"=some (some (.ref jaa)))
  (jaH:WC K jaa Jh "ValueError.__new__"=true)
  (jaw:XQ K XR "NoCount"=some (some (.ref jac)))
  (jaJ:WC K jac Jh "ValueError.__new__"=true)
  (jav:XQ K XR "NoCell"=some (some (.ref jab)))
  (jaI:WC K jab Jh "ValueError.__new__"=true)
  (jaB:XQ K XR "NoText"=some (some (.ref jah)))
  (jaO:WC K jah Jh "ValueError.__new__"=true)
  (jaz:XQ K XR "NoRow"=some (some (.ref jaf)))
  (jaM:WC K jaf Jh "ValueError.__new__"=true)
  (jay:XQ K XR "NoNumber"=some (some (.ref jae)))
  (jaL:WC K jae Jh "ValueError.__new__"=true)
  (jaA:XQ K XR "NoTable"=some (some (.ref jag)))
  (jaN:WC K jag Jh "ValueError.__new__"=true)
  (jaR:VN K (.ref jad) "__getattribute__"=some (some (.builtin "BaseException.__getattribute__")))
  (jaS:VN K (.ref jad) "__getattr__"=some none)
  (ja0:VN K (.ref jad) "__class__"=some (some (.builtin "object.__class__")))
  (ja1:VE K jad (.type "BaseException")=some true)
  (ja2:VE K jad (.type "object")=some true)
  (ja3:Tg K jad=true)
  (ja4:VE K jad (.ref jai)=some true)
  (ja5:W9 K (.ref jad) (.ref jaj)=some false)
  (ja6:W9 K (.ref jad) (.ref jad)=some true)
  (ja7:W9 K (.ref jad) (.ref jaa)=some false)
  (jaT:W9 K (.ref jad) (.ref jac)=some false)
  (jaU:W9 K (.ref jad) (.ref jab)=some false)
  (jaV:W9 K (.ref jad) (.ref jah)=some false)
  (jaW:W9 K (.ref jad) (.ref jaf)=some false)
  (jaX:W9 K (.ref jad) (.ref jae)=some false)
  (jaY:W9 K (.ref jad) (.ref jag)=some false)
  (jaZ:W9 K (.ref jad) (.type "ValueError")=some true) :
  ∃fd:Xq,(∀(s:X8) (v:X9),N5 s fd ⟨[v],[]⟩ [("_law_script",v)])/\∀base:Heap,K.In base->base.Ns XR mg->qk l.prog w K mg base CX0 12 fa fd ["_law_script"] (ziP K):=by
 obtain⟨f,oc,od,an,sl,kV,dc,pm,cd,ct,a,l0,c,k⟩:=zhU;have e:=hfa.symm.trans (Wh X G a);cases e;have T:Txt mg:=⟨WS X G Jq,WS X G zhV,WS X G zet,WS X G zeu,WS X G Q6,WS X G J0,WS X G zhW,WS X G Jr,WS X G zhX,WS X G zew,WS X G zhY,WS X G zhZ,WS X G zbM,WS X G zh0,WS X G Q7,WS X G zh1,WS X G zh2,WS X G zbN,WS X G zh3,⟨_,Wh X G xK⟩,⟨_,Wh X G yQ⟩,⟨_,Wh X G yR⟩⟩;have Z:Prog K mg:=⟨Q0.at X G (fun _ _ _ _ _ _=>us1 fun _=>rfl),Ji.at X G (fun _ _ _ _ _ _=>us1 fun _=>rfl),Q2.at X G (fun _ _ _ _ _ _=>us2 fun _ _=>rfl),JV.at X G (fun _ _ _ _ _ _=>us2 fun _ _=>rfl),ZN.at X G (fun _ _ _ _ _ _=>us1 fun _=>rfl),YV.at X G (fun _ _ _ _ _ _=>us2 fun _ _=>rfl),zbI.at X G (fun _ _ _ _ _ _=>us1 fun _=>rfl),Q3.at X G (fun _ _ _ _ _ _=>us2 fun _ _=>rfl),zhT.at X G (fun _ _ _ _ _ _=>us1 fun _=>rfl),Jj.at X G (fun _ _ _ _ _ _=>us2 fun _ _=>rfl),Jk.at X G (fun _ _ _ _ _ _=>us1 fun _=>rfl),yx.at X G (fun _ _ _ _ _ _=>us2 fun _ _=>rfl),yO.at X G (fun _ _ _ _ _ _=>us2 fun _ _=>rfl),ZO.at X G (fun _ _ _ _ _ _=>us3 fun _ _ _=>rfl),YW.at X G (fun _ _ _ _ _ _=>us2 fun _ _=>rfl),xB.at X G (fun _ _ _ _ _ _=>us2 fun _ _=>rfl),YX.at X G (fun _ _ _ _ _ _=>us2 fun _ _=>rfl),Jl.at X G (fun _ _ _ _ _ _=>us3 fun _ _ _=>rfl),YY.at X G (fun _ _ _ _ _ _=>us2 fun _ _=>rfl),Q4.at X G (fun _ _ _ _ _ _=>us2 fun _ _=>rfl),xC.at X G (fun _ _ _ _ _ _=>us1 fun _=>rfl),zbJ.at X G (fun _ _ _ _ _ _=>us1 fun _=>rfl),yb.at X G (fun _ _ _ _ _ _=>us1 fun _=>rfl),Jm.at X G (fun _ _ _ _ _ _=>us1 fun _=>rfl),zbK.at X G (fun _ _ _ _ _ _=>us3 fun _ _ _=>rfl),ZP.at X G (fun _ _ _ _ _ _=>us2 fun _ _=>rfl),jx.at X G (fun _ _ _ _ _ _=>us2 fun _ _=>rfl),zbL.at X G (fun _ _ _ _ _ _=>us2 fun _ _=>rfl),Q5.at X G (fun _ _ _ _ _ _=>us1 fun _=>rfl),Jo.at X G (fun _ _ _ _ _ _=>us1 fun _=>rfl),xD.at X G (fun _ _ _ _ _ _=>us2 fun _ _=>rfl),ZQ.at X G (fun _ _ _ _ _ _=>us3 fun _ _ _=>rfl),JW.at X G (fun _ _ _ _ _ _=>us4 fun _ _ _ _=>rfl),JX.at X G (fun _ _ _ _ _ _=>us3 fun _ _ _=>rfl),YZ.at X G (fun _ _ _ _ _ _=>us4 fun _ _ _ _=>rfl),JY.at X G (fun _ _ _ _ _ _=>us2 fun _ _=>rfl),xE.at X G (fun _ _ _ _ _ _=>us2 fun _ _=>rfl),ZR.at X G (fun _ _ _ _ _ _=>us2 fun _ _=>rfl),xF.at X G (fun _ _ _ _ _ _=>us1 fun _=>rfl),xG.at X G (fun _ _ _ _ _ _=>us2 fun _ _=>rfl),Jp.at X G (fun _ _ _ _ _ _=>us1 fun _=>rfl),xH.at X G (fun _ _ _ _ _ _=>us2 fun _ _=>rfl),JZ.at X G (fun _ _ _ _ _ _=>us2 fun _ _=>rfl),yP.at X G (fun _ _ _ _ _ _=>us2 fun _ _=>rfl),xJ.at X G (fun _ _ _ _ _ _=>us1 fun _=>rfl),ZS.at X G (fun _ _ _ _ _ _=>us2 fun _ _=>rfl)⟩;have F:=zkd (st:=zd1) l0 c k;have D:zk K mg "law" zd1 ["_law_script"] _ _:=⟨F,Wh X G a,F.binds (ps:=["_law_script"]) (fun _ _ _ _ _ _=>us1 fun _=>rfl)⟩;have jas:qF K mg "StoneError" jai:=⟨Wh X G jaC,jaP⟩;have jat:qF K mg "TooGreat" jaj:=⟨Wh X G jaD,jaQ⟩;have jan:qF K mg "NoLaying" jad:=⟨Wh X G jax,jaK⟩;have jak:qF K mg "NoBoard" jaa:=⟨Wh X G jau,jaH⟩;have jam:qF K mg "NoCount" jac:=⟨Wh X G jaw,jaJ⟩;have jal:qF K mg "NoCell" jab:=⟨Wh X G jav,jaI⟩;have jar:qF K mg "NoText" jah:=⟨Wh X G jaB,jaO⟩;have jap:qF K mg "NoRow" jaf:=⟨Wh X G jaz,jaM⟩;have jao:qF K mg "NoNumber" jae:=⟨Wh X G jay,jaL⟩;have jaq:qF K mg "NoTable" jag:=⟨Wh X G jaA,jaN⟩;have FL:Facts K jad jai jaj jad jaa jac jab jah jaf jae jag false true:=⟨⟨jaR,jaS,ja0,ja1,ja2,ja3⟩,ja4,ja5,ja6,ja7,jaT,jaU,jaV,jaW,jaX,jaY,jaZ⟩;exact⟨_,fun s v=>.of_eq rfl,fun base _ _=>zpG T jas jat jan jak jam jal jar jap jao jaq FL Z D⟩
theorem walk {l:O9}{q:Xd}{loose:List Str}{XP:(Str->Option X9)->Heap->Prop}{YP:WP->Heap->Prop}{d:DefRec}{K:Params->X2}(hn:l.most=some 63)(hdf:d.params.defaults=[])
  (hY:∀(w:WP) (h:Heap),YP w h->(K w.params).In h)
  (F:∀(w:WP) (mg:Str->Option X9) (fa:Addr) (h:Heap),(K w.params).In h->h.Ns XR mg->mg d.name=some (.ref fa) ->
   ∃fd:Xq,(∀(s:X8) (u:X9),N5 s fd ⟨[u],[]⟩ [("_law_script",u)])/\∀base:Heap,(K w.params).In base->base.Ns XR mg->qk l.prog w (K w.params) mg base CX0 12 fa fd ["_law_script"] (ziP (K w.params))) :
  Oj q loose XP YP l.row.toRowW d [] (fun f vs=>PySem.call f vs) :=
 L2.zh9 (n:=63) (k:=12) (x:="_law_script") (CX:=fun _=>CX0) (sp:=fun w=>ziP (K w.params)) hn (by decide) hdf ⟨rfl,by decide,by decide⟩ hY F (fun _ _ a ns hl _ hS=>⟨a,ns,rfl,hS,hl,fun _=>rfl⟩) fun _ _ _ _ _ z=>z
end K40
open PySem PySem.W PyProof.Rows
set_option maxRecDepth 100000 in
set_option maxHeartbeats 0 in
theorem PySem.Challenge.cw_stonelay_k40_shares_of_layings_holds : PySem.Challenge.rw_stonelay_k40_shares_of_layings.Holds := by
 refine zb3.early fun {q XP YP d K} hdf hY hn F=>?_;refine K40.walk (l:=PySem.Challenge.rw_stonelay_k40_shares_of_layings) rfl hdf hY fun w mg fa h KX G hmg=>?_;rw[hn] at hmg;obtain⟨Q0,Ji,Q2,JV,ZN,YV,zbI,Q3,zhT,Jj,Jk,yx,yO,ZO,YW,xB,YX,Jl,YY,Q4,xC,zbJ,yb,Jm,zbK,ZP,jx,zbL,Q5,Jo,xD,ZQ,JW,JX,YZ,JY,xE,ZR,xF,xG,Jp,xH,JZ,yP,xJ,ZS,zhU,Jq,zhV,zet,zeu,Q6,J0,zhW,Jr,zhX,zew,zhY,zhZ,zbM,zh0,Q7,zh1,zh2,zbN,zh3,⟨_,xK⟩,⟨_,yQ⟩,⟨_,yR⟩,⟨_,_,_,_,_,_,_,_,_,_,jaC,jaD,jax,jau,jaw,jav,jaB,jaz,jay,jaA,jaP,jaQ,jaK,jaH,jaJ,jaI,jaO,jaM,jaL,jaN,jaR,jaS,ja0,ja1,ja2,ja3,ja4,ja5,ja6,ja7,jaT,jaU,jaV,jaW,jaX,jaY,jaZ⟩⟩:=F w;exact K40.all_mk KX G hmg Q0 Ji Q2 JV ZN YV zbI Q3 zhT Jj Jk yx yO ZO YW xB YX Jl YY Q4 xC zbJ yb Jm zbK ZP jx zbL Q5 Jo xD ZQ JW JX YZ JY xE ZR xF xG Jp xH JZ yP xJ ZS zhU Jq zhV zet zeu Q6 J0 zhW Jr zhX zew zhY zhZ zbM zh0 Q7 zh1 zh2 zbN zh3 xK yQ yR jaC jaP jaD jaQ jax jaK jau jaH jaw jaJ jav jaI jaB jaO jaz jaM jay jaL jaA jaN jaR jaS ja0 ja1 ja2 ja3 ja4 ja5 ja6 ja7 jaT jaU jaV jaW jaX jaY jaZ