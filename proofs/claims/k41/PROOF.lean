import PyProof.Rows.All
import Wide.All
import KE.KSortTup
import KE.KDictOf
import KE.KIntText
import KE.IntBitsLaws
import KE.RegKIsAll
import KE.KNestM
import KE.KListLetter
import KE.KPathRange
import KE.KState
import Wide.FinOn
import Lean
import PyProof.EqAt
import PyProof.EqKinds
import PyProof.TupleCall
import PySem.Challenge.RW_stonelay_k41_sure_cells
open PySem renaming wpAny_bind→ZB,Value→X9,Shared→X8,wpAny_pure→XU,mainGlobals→XR,sizeLine→Xw,FuncData→Xo,model→Xi,Program→Xg,wpAny→W8,boot_len→WX,Paired→WU,World→WQ,Around→WH,mem_of_lookup→WG,starEach→WA,wpAny_mono→Ww,SetTable→Wo,PyData→Wi,wpAny_loadPart'→Wf,compareOp→V9,wpAny_holding→V1,wpAny_newObj_type→VZ,wpAny_loadPart_at→VY,codeAny_builtin→VS,tupleKind→VR,wpAny_standAt→VF,cLine→Vi,wpAny_truthy_bool→Vh,Spec→Vf,wpAny_passesOwn→UY,Builtin→UU,plainId_quiet→UM,wpAny_comprehension_free→UK,Scope→UG,GenState→UF,wpAny_call_entry→Uz,relabel→Uv,wpAny_rule→Ut,codeAny_compStart_list→Um,binaryOp→Uj,compEnvC→Ui,wpAny_execs_nil→Uh,rawInt→Ub,builtinLookup_eq_fast→Ua,codeAny→T7,foldedSetIterable→T6,sysModules→TZ,call_meets→TX,sizeLine_eq→TW,codeAny_call_builtin→TQ,bootBuiltins→TM,NameKind→Tv,assignEach→Ti,wpAny_Call_Name_kw→Te,sliceBounds→S8,backTo→SZ,codeAny_mono→SW,wpAny_pyIter_list→SJ,wpAny_pyIter_enum→SH,wpAny_setState_of→SF,ofAClassStatement→SC,wpAny_execs_cons→Si,storedH→Sf,again→R8,letOwnedTupleGo→R3,theTreesLotGoes→R0,typeLookup_type→RZ,wpAny_setEntries_of→RU,cellsFrom→RM,pyNext→RL,firstArgMember→RK,wpAny_assign_Name→Rr,behindInMarks→Rm,compTurn_list→Rj,wpAny_attempt→Rh,setSearchFrom→Rg,swapsWith→Qb,pickOrder→P9,checkBuiltinCall→P8,wpAny_forIn_list→P0,wpAny_askSetting→PY,wpAny_callSpecial?_slot→PQ,seqIndex_neg→PH,codeAny_loop→PF,wpAny_typeOf→PD,wpAny_getItem_list_neg→Pz,wpAny_specialOf→Po,exec_Assign_Name_used→Pk,seqIndex_of→Pc,subscripted→Pb,wpAny_noted→Pa,hashByValue→O9,intText?→O7,isSubtype_type→O6,wpAny_setField→O5,wpAny_newFunctionEnv→O2,getItem→OT,callerA→OQ,valueAt→OP,attributeBase→OH,wpAny_newList→OF,assign→OB,builtinsNs→OA,typeLookup→Oz,closureFor→Oy,holding→Ow,BindsTo→Ov,OsState→Ou,ReadsAll→Ot,Result→Om,noteFrame→Oj,atKey→Oi,wpAny_of_eq→Oh,Keyword→Og,Drawn→Oe,Model→Od,bindL→Oc,bindC→Ob,compPost→Oa,compTurn→N9,getAttr?→N8,entryFor→N7
open List renaming length_map→Y1,getElem?_eq_getElem→X7,mem_of_getElem?→X4,getElem?_eq_some_iff→XZ,mem_filter→XX,length_append→XW,mem_cons_of_mem→XT,mem_cons_self→XS,mem_cons→XJ,mem_append→XF,length_take→XE,mem_append_right→XD,range→XC,getD_eq_getElem?_getD→XA,take_length→Xz,take_add_one→Xx,mem_map→Xv,size_toArray→Xs,length_cons→Xr,length_filter_le→Xm,getElem?_map→Xl,map_append→Xk,map_congr_left→Xh,mem_range→Xf,map_cons→Xe,append_nil→Xc,filter_append→Xb,length_range→W6,Nodup→W3,append_assoc→WY,mem_append_left→WW,filter_cons→WV,countP_cons→WT,replicate→WP,flatten_cons→WN,map_map→WM,all_eq_true→WL,drop_eq_getElem_cons→WB,take_append_drop→Wy,take_of_length_le→Wt,flatten_append→Ws,mem_flatten→Wr,any_eq_true→Wn,filter_sublist→Wg,mem_of_mem_take→Wc,getElem?_append_left→V8,filter_eq_nil_iff→V3,pairwise_map→VX,nodup_append→VW,getElem?_append_right→VU,foldl_cons→VT,filter_congr→VQ,nodup_cons→VM,length_drop→VJ,lookup_cons→VI,sublist_flatten_of_mem→VH,countP_congr→VA,perm_ext_iff_of_nodup→Vx,replicate_succ→Vv,pairwise_iff_getElem→Vs,not_mem_nil→Vp,countP_append→Vo,range_succ→Vd,filterMap_cons→Vc,countP_eq_zero→Vb,getElem?_eq_none→U2,isEmpty_eq_false_iff→UZ,length_nil→UX,take_sublist→UQ,getElem?_range→UI,take_succ_cons→UH,map→UD,length_eq_zero_iff→Uy,filter→Ux,any_map→Ur,length_pos_of_mem→Ul,find?_cons→Ug,filter_map→Ue,perm_append_comm→T9,ext_getElem?→T3,pairwise_append→TN,getElem_mem→TH,getElem?_zip_eq_some→TD,exists_mem_of_ne_nil→TC,getElem_of_mem→Tz,reverse_append→Tx,map_take→Tu,sublist_append_left→Tq,countP_map→Tl,mem_filterMap→Tf,getElem?_drop→Td,ne_nil_of_mem→Ta,lookup→S7,countP→S6,nodup_nil→SN,foldl_append→SG,getElem?_set_self→Sy,drop_eq_nil_of_le→Sw,mem_flatMap→Sh,any_cons→Sd,map_id→R7,getElem?_set_ne→R6,mem_of_mem_drop→R4,length_set→R1,countP_nil→RX,pairwise_cons→RF,filter_filter→RE,extract_eq_take_drop→Rw,sublist_append_right→Rt,any_eq_false→Rq,drop_sublist→Ro,reverse_perm→Rn,all_cons→Rl,map_drop→Rf,getElem?_take_of_lt→Re,cons_append→P6,isEmpty_iff→PX,getElem?_cons_succ→PU,of_mem_zip→Pr,nil_append→Pq,length_replicate→Pm,length_singleton→Pl,mem_iff_getElem?→Pj,countP_replicate→Pi,pairwise_reverse→Pf,countP_le_length→Pe,drop_drop→O4,reverse_reverse→OY,sum_cons→OE,map_nil→Os,map_set→Oo
open Nat renaming le_trans→X6,le_refl→XV,lt_of_le_of_lt→XI,lt_of_lt_of_le→Xy,ne_of_lt→Xj,zero_le→W5,lt_succ_of_lt→WR,lt_irrefl→Wl,le_succ→Wd,pow_le_pow_right→Wa,zero_add→V6,succ_ne_self→Vq,ne_of_gt→UR,pow_succ→Us,le_succ_of_le→T5,mul_le_mul→TU,add_comm→TL,le_add_right→TJ,not_lt_zero→Tn,lt_of_lt_of_eq→Tb,add_sub_cancel_left→S4,le_of_lt→SX,mul_comm→SV,sub_self→SU,lt_or_ge→SS,succ_pos→SR,add_zero→SQ,add_le_add→SL,mod_lt→Sk,succ_mul→RS,lt_trans→RR,add_sub_cancel→RG,lt_trichotomy→Rp,lt_succ_self→P7,one_le_iff_ne_zero→Pu,min_eq_left→Pn,add_le_add_right→O0,pow_lt_pow_right→OX,mul_le_mul_right→OW,add_assoc→OD,mul_succ→On
open PySem.W renaming Frag→X5,nsIn→XQ,kitOne→Xa,mg_none_of→WO,excIn→WC,mg_of→Wj,kia_one→V2,findIn→VO,mroIn→VG,hashAt→VE,fnOf→US,keepIn→TV,hideAll_get→TB,isClsIn→To,codeIn→SO,cellsFrom_some→Sx,looks_findIn→R5,looks_mroIn→RW,methodObj→Rs,instObj→Ps,OpenLaw→Pp,lookIn→O8,WalkO→OJ
open Array renaming length_toList→X2,getElem?_toList→Xq,getElem?_eq_none→WF,toList_append→WD,getElem?_eq_some_iff→Vy,getElem?_eq_getElem→Vr,size_map→Vl,toList_reverse→Vj,toList_map→U6,size_reverse→U4,perm_iff_toList_perm→U3,getElem_toList→UO,size_extract→Uq,getElem?_setIfInBounds→Ud,mem_toList_iff→TR,size_setIfInBounds→Ts,getD→Th,toList_push→SA,getElem?_extract→Sv,toList_setIfInBounds→Rz,getElem?_replicate→Rb,toList_inj→PZ,getElem?_reverse→Pw,toList_extract→OZ,toList_modify→OL
open PySem.Heap renaming get?_push_of_some→X0,lt_size→XO,get?_push_size→W9,get?_update_self→VP,size_push→VN,SameBut→VD,get?_none_of_le→UP,get?_update_other→Uo,get?_update_ne→RT,FlyingW→Oq
open Bool renaming false_ne_true→XY,eq_false_iff→XB,not_eq_true'→WE,eq_iff_iff→Wz,false_eq_true→Wm,and_eq_true_iff→Wh,and_eq_true→We,false_and→UC,and_true→Uc,true_and→Tt,and_assoc→SK,not_eq_false→Sz,and_comm→R9,or_eq_true→RY
open Or renaming inl→XM,inr→Vm
open PySem.SetTable renaming bits→XH,below→Xu,insertAt→Xd,turns→W0,runEnd→VL,leap→Vn,grown→UB,sizeAbove→Tc,Probe→RJ,advance→P1,fill→OG
open PyProof.Rows renaming wpS_bind→XG,wpS_pure→Xp,arrOf→Xn,Keyed→W4,boot_isinstance→W2,SortSt→WK,pendingOf→WJ,wpS_forRange→V5,callWith_type1→VV,boot_max→U1,boot_min→U0,wpS_mono→UE,pairsOf_toList→UA,seqObj→Uw,boot_list→Uk,boot_int→T8,SortKind→T0,boot_sorted→Tr,wpS_modify→Tg,failedOf→SY,boot_dict→Su,boot_any→Sq,AllBare→Sg,wpS_get→Se,reverseSlice'→Sa,mem_zip_self→RQ,listItems_at→Ru,boot_divmod→QP,wpS_lift→Qr,boot_tuple→PL,envOfC→PK,subscriptTail_builtinR→PB,boot_str→Pd,IntsAre→OR,pairsOf→OO,getElem?_mirror_all→OM,subscriptTail→OI,IsTup→Of
open PySem.PassesOwn renaming never→W7
open PySem.PyData renaming eqv→W1,depthAll→WI,canLayAll0→Wu,canLay0→Vk,str→UN,bool→S5,int→Sj
open PySem.F renaming plainAttrs_list→WZ,slot_list_append→Wq,type_list_append→Wp,typeOf_object_class→T1,plainAttrs_str→Ss,slot_str_join→So,type_str_join→Sm,excBase_ValueError→RA,slot_list_extend→QR,type_list_extend→QQ,plain_list_iadd→PP,slot_list_count→PN,type_list_count→PM,slot_set_iter→Ph,plain_set_new→Pg,args_list_count_2→ON
open Int renaming toNat_natCast→WS,gcd→V7,le_of_lt→V4,le_trans→VC,toNat_of_nonneg→Vu,le_refl→U8,emod_lt_of_pos→U5,emod_nonneg→UW,natCast_mul→UV,gcd_dvd_right→T2,gcd_dvd_left→TF,mul_ediv_cancel_left→Tp,natCast_add→Tk,natAbs_natCast→S9,neg_le_neg→SM,add_zero→RP,zero_add→RO,fmod_eq_emod_of_nonneg→RC,fdiv_eq_ediv_of_nonneg→RB,mul_zero→PC,ediv_self→OC,not_lt→Ox,mul_comm→Op
open PySem.Value renaming ref→Wx,int→Vw,none→Uu,bool→Tj,builtin→Ri,type→PJ,str→Ol
open False renaming elim→Wv
open PySem.Around renaming under_plainId→Wb
open Option renaming isSome_iff_exists→V0,map_some→Uf,getD_some→TK
open PySem.SetTable.below renaming go→VB
open List.Sublist renaming length_le→Vz
open ForInStep renaming yield→Vt
open PySem.Builtin.Str renaming occurrences→Vg
open PySem.Obj renaming mapSeq→Ve,mapFields→Sb
open PyProof.Rows.F renaming plain_set_update_loop→Va,entry_set_update_loop→Tw
open Ne renaming symm→U9
open PySem.NameKind renaming cell→U7
open PySem.Str renaming join→UT
open PySem.Builtin.List renaming listTooLong→UL,listExtendWith→RN,listSameRef→Ra
open PySem.Heap.SameBut renaming update→UJ
open PySem.SetTable.probe renaming go→T4
open True renaming intro→TY
open List.Perm renaming append_left→Sr,length_eq→OK
open PySem.Shared renaming TypeIs→Sc
open PySem.SeqAt renaming eqv_refl→RI,list_countAt→Rc
open PySem.Calls renaming Name_function_global→RD,call_function_entry→Rv,callWith_builtin→Py,evalArgs_plain→O3
open PySem.SeqAt.EqAt renaming bool_bool→Ry
open Classical renaming byContradiction→Rx
open PySem.Builtin.Dict renaming updateFrom→PV,pairItems→Px
open Sum renaming inl→OV,inr→OU
set_option Elab.async false
set_option linter.all false
set_option maxRecDepth 100000
namespace zb2
open PySem PySem.W
noncomputable def sel:List Nat->Nat->List Stmt->List Stmt
 | _,_,[]=>[]
 | ns,i,x::xs=>match ns.contains i with
  | true=>sel ns (i+1) xs
  | false=>x::sel ns (i+1) xs
theorem ziY {loose:List PySem.Str}{r:OpenRow}{q:Xg}{H:Hook}{d:DefRec}{kwd:List (PySem.Str×Expr)}{N:Nat}(left:LeftO r.prog q loose (fun s=>xlAt q [] s&&recOk (RowW.records r.toRowW) s) (Hook.obs H) (Hook.val H) N)
  (hdef:defOf q r.name=some (d,kwd)) (hp:r.prog.theDef r.name=some (d.params,d.body,d.scope)) (hk:kwWritten? d.params.kwonlyargs d.params.kw_defaults=some kwd) (hwr:(!r.writes || r.records.isEmpty)=true)
  (k1:r.wellSaid=true) (ok:(chainsOk q&&opensWell r.prog&&(frees r.toRowW&&r.within.isEmpty))=true) (hb:r.prog.bare) (hw:r.toRowW.promised)
  (call:WalkO q loose (XL q []) (Hook.says H) r.toRowW d kwd fun f vs=>PySem.call f vs):r.Holds :=
 holds_open (q:=q) (loose:=loose) (Xt:=fun s=>xlAt q [] s&&recOk (RowW.records r.toRowW) s) (XP:=XL q []) (Yf:=Hook.obs H) (Ya:=Hook.val H) (YP:=Hook.says H) (N:=N) left (Hook.of H) (Hook.keeps H) (fun s e=>xl_of s (Wh.mp e).1) XL.keeps hdef hp hk
  (fun s e=>recFacts_of (Wh.mp e).2) hwr k1 ok hb hw call
noncomputable def top (i:Nat):Stmt:=PySem.Challenge.pw_stonelay_k41_sure_cells.main.body.getD i (.Pass ⟨0,0,0,0⟩)
noncomputable def JY (s:Stmt):Arguments:=match s with
 | .FunctionDef _ a _ _ _ _ _ _ _ _=>a
 | _=>{ posonlyargs:=[],args:=[],vararg:=none,kwonlyargs:=[],kw_defaults:=[],kwarg:=none,defaults:=[] }
noncomputable def xJ (s:Stmt):List Stmt:=match s with
 | .FunctionDef _ _ b _ _ _ _ _ _ _=>b
 | _=>[]
noncomputable def zg (s:Stmt):UG:=match s with
 | .FunctionDef _ _ _ _ _ _ sc _ _ _=>sc
 | _=>{ kind:=.function,names:=[],isGenerator:=false,isCoroutine:=false }
def HD (K:X5)(x:Str)(i:Nat):Prop:=∃(f:Addr) (oc:X9) (od an:Option Addr) (sl:Array (Option X9)) (kV dc pm cd ct:X9),XQ K XR x=some (some (.ref f))/\K.lookup f=some ⟨oc,od,.func (US x x (JY (top i)) (xJ (top i)) (zg (top i)) .none kV dc pm an cd ct),sl⟩/\SO K cd x=true/\TV K (.ref f)=true
def Jm:List X9:=[.type "ValueError",.type "Exception",.type "BaseException",.type "object"]
structure Facts (K:X5):Prop where
 Q3:HD K "closed" 14
 Jo:HD K "open_cells" 15
 Q4:HD K "around" 16
 JZ:HD K "number_at" 17
 ZW:HD K "cells_of" 18
 YX:HD K "sign_at" 19
 zbJ:HD K "parts" 21
 Q5:HD K "joined" 22
 zhX:HD K "far" 23
 Jp:HD K "numbers_of" 24
 Jq:HD K "bare_wrong" 25
 yH:HD K "closed_around" 26
 yV:HD K "part_layings" 29
 ZX:HD K "needs_at" 30
 YY:HD K "may_fit" 31
 xK:HD K "part_counts" 32
 YZ:HD K "counted" 33
 Jr:HD K "counted_at" 34
 Y0:HD K "choices" 36
 Q6:HD K "poured" 37
 xM:HD K "near_counts" 39
 zbK:HD K "count" 40
 yj:HD K "counts_by_cell" 41
 Js:HD K "all_poured" 42
 zbL:HD K "dealt" 43
 ZY:HD K "fraction" 45
 jG:HD K "greatest_divisor" 46
 Q7:HD K "shares" 48
 Jt:HD K "some_count" 49
 zeu:HD K "sure" 50
 xN:HD K "_law_cell_at" 52
 ZZ:HD K "_law_near" 53
 J0:HD K "_law_signs" 54
 J1:HD K "_law_texts" 55
 Y4:HD K "_law_dug" 56
 J2:HD K "_law_board" 57
 xO:HD K "_law_numbers" 58
 Z0:HD K "_law_fits" 59
 xP:HD K "_law_choices" 60
 xQ:HD K "_law_layings" 61
 Ju:HD K "_law_closed" 62
 xR:HD K "_law_outcome" 63
 Z1:HD K "_law_told" 64
 Y5:HD K "_law_are" 65
 Y6:HD K "_law_one" 66
 zhY:HD K "law" 67
 Jv:XQ K XR "ValueError"=some none
 zhZ:XQ K XR "any"=some none
 zew:XQ K XR "dict"=some none
 Q8:XQ K XR "divmod"=some none
 J3:XQ K XR "enumerate"=some none
 zh0:XQ K XR "int"=some none
 Jw:XQ K XR "isinstance"=some none
 zh1:XQ K XR "len"=some none
 zex:XQ K XR "list"=some none
 zh2:XQ K XR "max"=some none
 zh3:XQ K XR "min"=some none
 zbM:XQ K XR "range"=some none
 zh4:XQ K XR "set"=some none
 Q9:XQ K XR "sorted"=some none
 zh5:XQ K XR "str"=some none
 zh6:XQ K XR "sum"=some none
 zbN:XQ K XR "tuple"=some none
 zh7:XQ K XR "zip"=some none
 xT:∃t,XQ K XR "CLOSED_SIGN"=some (some (.str "?" t))
 yW:∃t,XQ K XR "MOST_OF_PART"=some (some (.int 14 t))
 yX:∃t,XQ K XR "NO_CELL_SIGN"=some (some (.str "#" t))
 cls:∃jai jaj jad jaa jac jab jah jaf jae jag:Addr,XQ K XR "StoneError"=some (some (.ref jai))/\XQ K XR "TooGreat"=some (some (.ref jaj))/\XQ K XR "NoLaying"=some (some (.ref jad))/\XQ K XR "NoBoard"=some (some (.ref jaa))/\XQ K XR "NoCount"=some (some (.ref jac))/\XQ K XR "NoCell"=some (some (.ref jab))/\XQ K XR "NoText"=some (some (.ref jah))/\XQ K XR "NoRow"=some (some (.ref jaf))/\XQ K XR "NoNumber"=some (some (.ref jae))/\XQ K XR "NoTable"=some (some (.ref jag))/\WC K jai Jm "ValueError.__new__"=true/\WC K jaj Jm "ValueError.__new__"=true/\WC K jad Jm "ValueError.__new__"=true/\WC K jaa Jm "ValueError.__new__"=true/\WC K jac Jm "ValueError.__new__"=true/\WC K jab Jm "ValueError.__new__"=true/\WC K jah Jm "ValueError.__new__"=true/\WC K jaf Jm "ValueError.__new__"=true/\WC K jae Jm "ValueError.__new__"=true/\WC K jag Jm "ValueError.__new__"=true/\VO K (.ref jad) "__getattribute__"=some (some (.builtin "BaseException.__getattribute__"))/\VO K (.ref jad) "__getattr__"=some none/\VO K (.ref jad) "__class__"=some (some (.builtin "object.__class__"))/\VG K jad (.type "BaseException")=some true/\VG K jad (.type "object")=some true/\To K jad=true/\VG K jad (.ref jai)=some true/\Xa K (.ref jad) (.ref jaj)=some false/\Xa K (.ref jad) (.ref jad)=some true/\Xa K (.ref jad) (.ref jaa)=some false/\Xa K (.ref jad) (.ref jac)=some false/\Xa K (.ref jad) (.ref jab)=some false/\Xa K (.ref jad) (.ref jah)=some false/\Xa K (.ref jad) (.ref jaf)=some false/\Xa K (.ref jad) (.ref jae)=some false/\Xa K (.ref jad) (.ref jag)=some false/\Xa K (.ref jad) (.type "ValueError")=some true
end zb2
def zb2.ob:List PySem.Str:="StoneError" :: "NoBoard" :: "NoCount" :: "TooGreat" :: "NoLaying" :: "NoCell" :: "NoText" :: "NoRow" :: "NoNumber" :: "NoTable" :: "CLOSED_SIGN" :: "NO_CELL_SIGN" :: "closed" :: "open_cells" :: "around" :: "number_at" :: "cells_of" :: "sign_at" :: "parts" :: "joined" :: "far" :: "numbers_of" :: "bare_wrong" :: "closed_around" :: "MOST_OF_PART" :: "part_layings" :: "needs_at" :: "may_fit" :: "part_counts" :: "counted" :: "counted_at" :: "choices" :: "poured" :: "near_counts" :: "count" :: "counts_by_cell" :: "all_poured" :: "dealt" :: "fraction" :: "greatest_divisor" :: "shares" :: "some_count" :: "sure" :: "_law_cell_at" :: "_law_near" :: "_law_signs" :: "_law_texts" :: "_law_dug" :: "_law_board" :: "_law_numbers" :: "_law_fits" :: "_law_choices" :: "_law_layings" :: "_law_closed" :: "_law_outcome" :: "_law_told" :: "_law_are" :: "_law_one" :: []
noncomputable def zb2.view:PySem.Program:={ PySem.Challenge.rw_stonelay_k41_sure_cells.prog with main:={ PySem.Challenge.rw_stonelay_k41_sure_cells.prog.main with body:=PySem.Challenge.rw_stonelay_k41_sure_cells.prog.main.body.drop 67 } }
theorem zb2.keep (H:PySem.W.Hook){P:Prop}(h:P):P:=h
local macro_rules | `(tactic| o_head $H)=>`(tactic| refine zb2.keep $H ?_)
open PySem PySem.W PyProof.Rows in
set_option maxRecDepth 100000 in
set_option maxHeartbeats 0 in
theorem zb2.pre (h:PySem.Challenge.rw_stonelay_k41_sure_cells.row.Holds):PySem.Challenge.rw_stonelay_k41_sure_cells.row.Holds:=by
 k_head
 exact h
namespace zb2
open PySem PySem.W
def as:List Addr:=[2,3,15,22,23,24,25,28,35,36,37,40,47,48,49,52,59,60,61,64,71,72,73,76,83,84,85,88,95,96,97,100,107,108,109,112,119,120,121,124,131,132,133,136,139,140,141,144,145,146,148,149,151,152,153,155,156,158,159,160,163,164,165,167,168,170,171,172,174,175,177,178,179,182,183,184,187,188,189,192,193,194,197,198,199,202,203,204,207,208,209,212,213,214,217,218,219,221,222,224,225,226,228,229,231,232,233,236,237,238,240,241,243,244,245,247,248,250,251,252,255,256,257,259,260,262,263,264,267,268,269,271,272,274,275,276,279,280,281,283,284,286,287,288,290,291,293,294,295,298,299,300,302,303,305,306,307,310,311,312,314,315,317,318,319,321,322,324,325,326,328,329,331,332,333,336,337,338,340,341,343,344,345,348,349,350,353,354,355,358,359,360,363,364,365,368,369,370,372,373,375,376,377,379,380,382,383,384,386,387,389,390,391,394,395,396,399,400,401,403,404,406,407]
theorem cut {E:Option Shared}{as:List Addr}{K:Frag}(n:Nat)(a:E.map (fun s=>(as.take n).map s.heap.get?)=some ((K.take n).map fun p=>some p.2))(b:E.map (fun s=>(as.drop n).map s.heap.get?)=some ((K.drop n).map fun p=>some p.2)):E.map (fun s=>as.map s.heap.get?)=some (K.map fun p=>some p.2):=by
 cases E with
 | none=>cases a
 | some s =>
  have e:=congr (congrArg HAppend.hAppend (Option.some.inj a)) (Option.some.inj b)
  rw [<- List.map_append,<- List.map_append,List.take_append_drop,List.take_append_drop] at e
  exact congrArg some e
theorem hook {K:Params->Frag}{as:List Addr}{e:∀ P,as=(K P).map (·.1)}{w:World}{E:Option Shared}(h:E.map (fun s=>as.map s.heap.get?)=some ((K w.params).map fun p=>some p.2)):E.map (Hook.obs (kHook K as e))=some (Hook.val (kHook K as e) w):=h
theorem he (P:Params):as=(pre.heap_1 P).map (·.1):=by kernel_rfl
noncomputable abbrev OS:=openSeen view ob (importedModules PySem.Challenge.rw_stonelay_k41_sure_cells.row.prog.main.body) (fun s=>xlAt view [] s && recOk (RowW.records PySem.Challenge.rw_stonelay_k41_sure_cells.row.toRowW) s) true
set_option maxRecDepth 100000
set_option maxHeartbeats 0
theorem sa (w:World):(openEnds treeTable PySem.Challenge.rw_stonelay_k41_sure_cells.row.prog w 7202).map (fun s=>(OS s,decide (0<=s.toks)))=some (openGood view ob,true):=by kernel_rfl
theorem h0 (w:World):(openEnds treeTable PySem.Challenge.rw_stonelay_k41_sure_cells.row.prog w 7202).map (fun s=>(as.take 95).map s.heap.get?)=some (((pre.heap_1 w.params).take 95).map fun p=>some p.2):=by kernel_rfl
theorem h1 (w:World):(openEnds treeTable PySem.Challenge.rw_stonelay_k41_sure_cells.row.prog w 7202).map (fun s=>((as.drop 95).take 95).map s.heap.get?)=some ((((pre.heap_1 w.params).drop 95).take 95).map fun p=>some p.2):=by kernel_rfl
theorem h2 (w:World):(openEnds treeTable PySem.Challenge.rw_stonelay_k41_sure_cells.row.prog w 7202).map (fun s=>((as.drop 95).drop 95).map s.heap.get?)=some ((((pre.heap_1 w.params).drop 95).drop 95).map fun p=>some p.2):=by kernel_rfl
theorem lift {w:World}{α:Type}{Y:Shared->α}{y:α}(h:(openEnds treeTable PySem.Challenge.rw_stonelay_k41_sure_cells.row.prog w 7202).map Y=some y):(openEnds treeTable PySem.Challenge.rw_stonelay_k41_sure_cells.row.prog w 7202).map (fun s=>(OS s,Y s))=some (openGood view ob,y):=by
 have a:=sa w
 generalize openEnds treeTable PySem.Challenge.rw_stonelay_k41_sure_cells.row.prog w 7202=E at a h ⊢
 cases E with
 | none=>cases a
 | some s =>
  have a:=Option.some.inj a
  have h:=Option.some.inj h
  exact congrArg some (Prod.ext (congrArg (·.1) a) h)
theorem hk (w:World):(openEnds treeTable PySem.Challenge.rw_stonelay_k41_sure_cells.row.prog w 7202).map (fun s=>as.map s.heap.get?)=some ((pre.heap_1 w.params).map fun p=>some p.2):=(cut (E:=openEnds treeTable PySem.Challenge.rw_stonelay_k41_sure_cells.row.prog w 7202) (as:=as) (K:=(pre.heap_1 w.params)) 95 (h0 w) (cut (E:=openEnds treeTable PySem.Challenge.rw_stonelay_k41_sure_cells.row.prog w 7202) (as:=(as.drop 95)) (K:=((pre.heap_1 w.params).drop 95)) 95 (h1 w) (h2 w)))
theorem lf (w:World):(openEnds treeTable PySem.Challenge.rw_stonelay_k41_sure_cells.row.prog w 7202).map (fun s=>(OS s,Hook.obs (kHook pre.heap_1 as he) s))=some (openGood view ob,Hook.val (kHook pre.heap_1 as he) w):=lift (Y:=Hook.obs (kHook pre.heap_1 as he)) (y:=Hook.val (kHook pre.heap_1 as he) w) (hook (K:=pre.heap_1) (as:=as) (e:=he) (E:=openEnds treeTable PySem.Challenge.rw_stonelay_k41_sure_cells.row.prog w 7202) (hk w))
end zb2
local macro_rules | `(tactic| o_head $H)=>`(tactic| (refine' zb2.ziY (loose:=zb2.ob) (q:=zb2.view) (H:=PySem.W.kHook zb2.pre.heap_1 zb2.as zb2.he) (N:=7202) zb2.lf (by rfl) (by rfl) (by rfl) (by rfl) (by first | assumption | decide +kernel) (by decide +kernel) ⟨rfl,rfl,rfl,rfl,rfl,by decide +kernel⟩ ?_ ?_))
open PySem PySem.W PyProof.Rows in
set_option maxRecDepth 100000 in
set_option maxHeartbeats 0 in
theorem zb2.look:PySem.Challenge.rw_stonelay_k41_sure_cells.wellSaid=true:=by kernel_rfl
open PySem PySem.W PyProof.Rows in
set_option maxRecDepth 100000 in
set_option maxHeartbeats 0 in
theorem zb2.early (h:∀{q:Xg} {XP:(Str->Option X9)->Heap->Prop} {YP:WQ->Heap->Prop} {d:DefRec} {K:Params->X5},d.params.defaults=[]->(∀(w:WQ) (h:Heap),YP w h->(K w.params).In h)->d.name="law"->(∀w:WQ,zb2.Facts (K w.params))->OJ q zb2.ob XP YP PySem.Challenge.rw_stonelay_k41_sure_cells.row.toRowW d [] (fun f vs=>PySem.call f vs)):PySem.Challenge.rw_stonelay_k41_sure_cells.Holds:=by
 w_on;refine holds_law zb2.look fun said=>?_;o_head trivial;w_witness2;k_fill;refine h rfl (fun w h Y=>PySem.W.kIn_of Y) rfl fun w=>?_;constructor;all_goals first | k_is | exact⟨_,_,_,_,_,_,_,_,_,_,by k_is,by k_is,by k_is,by k_is⟩ | exact⟨_,by k_is⟩ | exact⟨_,_,_,_,_,_,_,_,_,_,by k_is,by k_is,by k_is,by k_is,by k_is,by k_is,by k_is,by k_is,by k_is,by k_is,by k_exc,by k_exc,by k_exc,by k_exc,by k_exc,by k_exc,by k_exc,by k_exc,by k_exc,by k_exc,by k_is,by k_is,by k_is,by k_is,by k_is,by k_is,by k_is,by kit_is,by kit_is,by kit_is,by kit_is,by kit_is,by kit_is,by kit_is,by kit_is,by kit_is,by kit_is⟩
noncomputable section
namespace L2
open PySem PySem.Spec PyProof.Rows
abbrev Key:=Sum Int Str
def zdE:Key->X9->Bool
 | .inl k,v=>Value.isInt k v
 | .inr x,v=>Value.isStrOf x v
def znT (w:WQ):Key->Int
 | .inl k=>hashInt k
 | .inr x=>hashStr w x
theorem jq:∀{k:Key} {v:X9},zdE k v=true->(∃i t,k=OV i/\v=Vw i t)\/(∃x t,k=OU x/\v=Ol x t)
 | .inl i,v,h=>by
  obtain⟨t,e⟩:=Value.isInt_shape (k:=i) (v:=v) h;exact .inl ⟨i,t,rfl,e⟩
 | .inr x,v,h=>by
  obtain⟨t,e⟩:=Value.isStrOf_shape (x:=x) (v:=v) h;exact .inr ⟨x,t,rfl,e⟩
theorem zaV (i:Int)(t:Tok):zdE (.inl i) (.int i t)=true:=by simp[zdE,Value.isInt]
theorem ziZ (x:Str)(t:Tok):zdE (.inr x) (.str x t)=true:=by simp[zdE,Value.isStrOf]
theorem znU (a b:Int):decide ((OV a:Key)=OV b)=(a==b):=by
 by_cases e:a=b
 ·subst e;simp
 ·have h:¬ (OV a:Key)=OV b:=fun q=>e (Sum.inl.inj q);rw[decide_eq_false h];exact(beq_eq_false_iff_ne.mpr e).symm
theorem znV (a b:Str):decide ((OU a:Key)=OU b)=decide (a=b):=by
 by_cases e:a=b
 ·subst e;simp
 ·have h:¬ (OU a:Key)=OU b:=fun q=>e (Sum.inr.inj q);rw[decide_eq_false h,decide_eq_false e]
theorem znW (a:Int)(b:Str):decide ((OV a:Key)=OU b)=false:=decide_eq_false (fun q=>nomatch q)
theorem znX (a:Str)(b:Int):decide ((OU a:Key)=OV b)=false:=decide_eq_false (fun q=>nomatch q)
def zW (prog:Xg)(w:WQ):PySem.KeyKind prog w Key where
 is:=zdE
 hash:=znT w
 inj:=fun v a b ha hb=>by
  rcases jq ha with ⟨i,t,rfl,rfl⟩ | ⟨x,t,rfl,rfl⟩
  ·rcases jq hb with ⟨j,u,rfl,e⟩ | ⟨y,u,rfl,e⟩
   ·injection e with e1 _;rw[e1]
   ·exact nomatch e
  ·rcases jq hb with ⟨j,u,rfl,e⟩ | ⟨y,u,rfl,e⟩
   ·exact nomatch e
   ·injection e with e1 _;rw[e1]
 byValue:=fun k v h=>by
  rcases jq h with ⟨i,t,rfl,rfl⟩ | ⟨x,t,rfl,rfl⟩<;>rfl
 pyHash:=fun hv h=>by
  rcases jq hv with ⟨i,t,rfl,rfl⟩ | ⟨x,t,rfl,rfl⟩
  ·exact wpAny_pyHash_int h
  ·exact wpAny_pyHash_str h
 eqBool:=fun hu hv h=>by
  rcases jq hu with ⟨i,t,rfl,rfl⟩ | ⟨x,t,rfl,rfl⟩
  ·rcases jq hv with ⟨j,u,rfl,rfl⟩ | ⟨y,u,rfl,rfl⟩
   ·rw[znU] at h;exact wpAny_eqBool_int h
   ·rw[znW] at h;exact SeqAt.EqAt.int_str i t y u _ _ _ _ h
  ·rcases jq hv with ⟨j,u,rfl,rfl⟩ | ⟨y,u,rfl,rfl⟩
   ·rw[znX] at h;exact SeqAt.EqAt.str_int x t j u _ _ _ _ h
   ·rw[znV] at h;exact wpAny_eqBool_str h
 «strs»:=fun k x t v h=>by
  rcases jq h with ⟨i,u,rfl,e⟩ | ⟨y,u,rfl,e⟩
  ·exact nomatch e
  ·injection e with e1 _
   subst e1;cases v<;>rfl
theorem zfo (prog:Xg)(w:WQ)(i:Int)(t:Tok):(zW prog w).is (.inl i) (.int i t)=true:=zaV i t
theorem zfp (prog:Xg)(w:WQ)(x:Str)(t:Tok):(zW prog w).is (.inr x) (.str x t)=true:=ziZ x t
inductive V where
 | non | bl (b:Bool) | int (i:Int) | str (x:Str) | byt (b:Array UInt8) | flt (b:UInt64) | ref (a:Addr) | ty (n:String)
 deriving DecidableEq
def RelV:V->X9->Prop
 | .non,u=>u=Uu
 | .bl b,u=>u=Tj b
 | .int i,u=>∃t,u=Vw i t
 | .str x,u=>∃t,u=Ol x t
 | .byt b,u=>∃t,u=Value.bytes b t
 | .flt b,u=>∃t,u=Value.float b t
 | .ref a,u=>u=Wx a
 | .ty n,u=>u=PJ n
abbrev Vals:List V->List X9->Prop:=WU RelV
theorem Vals.length {xs:List V}{a:List X9}(r:Vals xs a):xs.length=a.length:=Paired.length r
theorem Vals.get:∀{xs:List V} {a:List X9} {i:Nat} {x:V},Vals xs a->xs[i]?=some x->∃u,a[i]?=some u/\RelV x u
 | _,_,_,_,.nil,e=>by simp at e
 | _,_,0,_,.cons r _,e=>by simp at e;subst e;exact⟨_,rfl,r⟩
 | _,_,i+1,x,.cons _ t,e=>by
  obtain⟨u,h1,h2⟩:=Vals.get (i:=i) (x:=x) t (by simpa using e);exact⟨u,by simpa using h1,h2⟩
theorem Vals.set {x:V}{u:X9}(r:RelV x u):∀{xs:List V} {a:List X9} (i:Nat),Vals xs a->Vals (xs.set i x) (a.set i u)
 | _,_,_,.nil=>.nil
 | _,_,0,.cons _ t=>.cons r t
 | _,_,i+1,.cons q t=>.cons q (Vals.set r i t)
theorem Vals.append:∀{xs ys:List V} {a b:List X9},Vals xs a->Vals ys b->Vals (xs++ys) (a++b)
 | _,_,_,_,.nil,s=>s
 | _,_,_,_,.cons r t,s=>.cons r (Vals.append t s)
theorem Vals.take:∀{xs:List V} {a:List X9} (n:Nat),Vals xs a->Vals (xs.take n) (a.take n)
 | _,_,0,_=>.nil
 | _,_,_+1,.nil=>.nil
 | _,_,n+1,.cons r t=>.cons r (Vals.take n t)
theorem Vals.drop:∀{xs:List V} {a:List X9} (n:Nat),Vals xs a->Vals (xs.drop n) (a.drop n)
 | _,_,0,r=>r
 | _,_,_+1,.nil=>.nil
 | _,_,n+1,.cons _ t=>Vals.drop n t
def zb3:Option V->Option X9->Prop
 | some v,some u=>RelV v u
 | none,none=>True
 | _,_=>False
def KV {a:Type}:List (a × V)->List (a × X9)->Prop:=WU fun (p:a × V) (q:a × X9)=>p.1=q.1/\RelV p.2 q.2
def kV:Key->V
 | .inl i=>.int i
 | .inr x=>.str x
inductive HO where
  | lst (xs:List V)
  | tup (xs:List V)
  | dK (kvs:List (Key×V)) | dT (kvs:List (List Key×V))
  | set (S:Int->Bool) (n:Nat)
  | ins (C dx:Addr) (fs:List (Str×V))
  | own (x:Addr)
  | xd (fs:List (Str×V))
  | met (f x:Addr)
  | rng (lo hi:Int)
  | frz (o:Obj) (u:HO)
  | tbl (ps:Array X9)
  | ext (φ:Heap->Prop)
abbrev Hp:=Addr->Option HO
def upd (H:Hp)(a:Addr)(o:HO):Hp:=fun b=>if b=a then some o else H b
theorem zc {H:Hp}{a:Addr}{o:HO}:upd H a o a=some o:=by unfold upd;rw[if_pos rfl]
theorem zj {H:Hp}{a b:Addr}{o:HO}(h:b≠a):upd H a o b=H b:=by unfold upd;rw[if_neg h]
theorem zb4 {H:Hp}{a b:Addr}{o u:HO}(h:H a=some o)(h':H b=some u)(d:o≠u):a≠b:=by
 intro e;subst e;rw[h] at h';exact d (Option.some.inj h')
theorem zh {H:Hp}{a b:Addr}{o:HO}(h:H a=some o)(h':H b=none):a≠b:=by
 intro e;subst e;rw[h] at h';cases h'
section
variable (P:Xg)(w:WQ)
def jk (H:Hp)(h:Heap)(a:Addr):HO->Prop
 | .lst xs=>xs.length<=Xw/\∃(b:List X9) (n:Nat),Vals xs b/\h.get? a=some { cls:=.type "list",data:=.seq b.toArray n }
 | .tup xs=>xs.length<=Xw/\∃b:List X9,Vals xs b/\Of h a b.toArray
 | .dK c=>c.length<=Xw/\(a==TZ)=false/\∃j,KV c j/\h.DictOf (zW P w) a j
 | .dT c=>c.length<=Xw/\(a==TZ)=false/\∃xs:List (List Key×Addr×X9),
   WU (fun (p:List Key×V) (q:List Key×Addr×X9)=>p.1=q.1/\H q.2.1=some (.tup (p.1.map kV))/\RelV p.2 q.2.2) c xs /\
   ∃o i k,h.get? a=some o/\o.ExactDict/\o.data=.dict i k/\i.toList=xs.map (entryOfKey (VR (zW P w)))/\(xs.map (·.1)).Nodup
 | .set S n=>h.SetOf (intKind P w) a S n
 | .ins C e fs=>H e=some (.own a)/\fs.length<=1000/\e≠a/\h.get? a=some (Ps C e) /\
   ∃d,h.Ns1 e d/\(∀f,zb3 (fs.lookup f) (d f))/\PySem.Within d (fs.map (·.1))
 | .own _=>∃o,h.get? a=some o
 | .xd fs=>∃d,h.Ns1 a d/\∀f,zb3 (fs.lookup f) (d f)
 | .rng lo l=>∃t u v,h.get? a=some { cls:=.type "range",data:=.fields #[.int lo t,.int l u,.int 1 v] }
 | .frz o u=>h.get? a=some o/\jk H h a u
 | .tbl m=>h.get? a=some { cls:=.none,data:=.fields m }
 | .met f x=>h.get? a=some (Rs (.ref f) (.ref x))
 | .ext g=>g h/\(∃o,h.get? a=some o)/\∀h1 h2:Heap,g h1->(∀o,h1.get? a=some o->h2.get? a=some o)->g h2
def HOk (H:Hp)(h:Heap):Prop:=∀a o,H a=some o->jk P w H h a o
end
section
variable {P:Xg}{w:WQ}{H H':Hp}{h h':Heap}{a:Addr}{o:HO}
theorem jk.lt (x:jk P w H h a o):a<h.objs.size:=by
 cases o with
 | lst c=>obtain⟨_,_,_,_,e⟩:=x;exact XO e
 | tup c=>obtain⟨_,_,_,p⟩:=x;exact p.lt
 | dK b=>obtain⟨_,_,_,_,o,_,_,e,_⟩:=x;exact XO e
 | dT b=>obtain⟨_,_,_,_,o,_,_,e,_⟩:=x;exact XO e
 | set S n=>obtain⟨o,_,_,_,e,_⟩:=x;exact XO e
 | ins C d fs=>obtain⟨_,_,_,e,_⟩:=x;exact XO e
 | own y=>obtain⟨_,e⟩:=x;exact XO e
 | xd fs=>obtain⟨_,⟨_,_,_,e,_⟩,_⟩:=x;exact XO e
 | rng lo g=>obtain⟨_,_,_,e⟩:=x;exact XO e
 | frz ob u=>obtain⟨e,_⟩:=x;exact XO e
 | tbl i=>exact XO (show h.get? a=some _ from x)
 | met f y=>exact XO (show h.get? a=some _ from x)
 | ext j=>obtain⟨_,⟨_,e⟩,_⟩:=x;exact XO e
theorem Paired.mapP {α c:Type}{F G:α->c->Prop}:∀{l₁:List α} {l₂:List c},WU F l₁ l₂->(∀a b,F a b->G a b)->WU G l₁ l₂
 | _,_,.nil,_=>.nil
 | _,_,.cons r t,f=>.cons (f _ _ r) (Paired.mapP t f)
theorem jk.stay (x:jk P w H h a o)(k:∀b u,(b=a\/H b=some (.own a))->h.get? b=some u->h'.get? b=some u)
  (D:∀b,H b=some (.own a)->H' b=some (.own a)) (E:∀b xs,H b=some (.tup xs)->H' b=some (.tup xs)):jk P w H' h' a o:=by
 induction o with
 | lst xs=>obtain⟨z,j,n,r,e⟩:=x;exact⟨z,j,n,r,k _ _ (.inl rfl) e⟩
 | tup xs=>obtain⟨z,j,r,ob,e,c⟩:=x;exact⟨z,j,r,ob,k _ _ (.inl rfl) e,c⟩
 | dK l=>obtain⟨z,y,J,r,ob,i,g,e,c⟩:=x;exact⟨z,y,J,r,ob,i,g,k _ _ (.inl rfl) e,c⟩
 | dT l =>
  obtain⟨z,y,xs,r,ob,i,g,e,c⟩:=x;exact⟨z,y,xs,Paired.mapP r fun p q z=>⟨z.1,E _ _ z.2.1,z.2.2⟩,ob,i,g,k _ _ (.inl rfl) e,c⟩
 | set S n=>obtain⟨ob,i,g,t,e,c⟩:=x;exact⟨ob,i,g,t,k _ _ (.inl rfl) e,c⟩
 | ins C L fs =>
  obtain⟨d,z,I,e,m,⟨s,i,g,B,c⟩,r⟩:=x;exact⟨D _ d,z,I,k _ _ (.inl rfl) e,m,⟨s,i,g,k _ _ (.inr d) B,c⟩,r⟩
 | own y=>obtain⟨ob,e⟩:=x;exact⟨ob,k _ _ (.inl rfl) e⟩
 | xd fs=>obtain⟨m,⟨s,i,g,e,c⟩,r⟩:=x;exact⟨m,⟨s,i,g,k _ _ (.inl rfl) e,c⟩,r⟩
 | rng lo M=>obtain⟨t,u,v,e⟩:=x;exact⟨t,u,v,k _ _ (.inl rfl) e⟩
 | frz ob u G=>obtain⟨e,q⟩:=x;exact⟨k _ _ (.inl rfl) e,G q⟩
 | tbl A =>
  have e:h.get? a=some { cls:=.none,data:=.fields A }:=x;show h'.get? a=some { cls:=.none,data:=.fields A };exact k a _ (.inl rfl) e
 | met f y =>
  have e:h.get? a=some (Rs (.ref f) (.ref y)):=x;show h'.get? a=some (Rs (.ref f) (.ref y));exact k a _ (.inl rfl) e
 | ext N=>obtain⟨p,⟨o,e⟩,st⟩:=x;exact⟨st _ _ p fun o q=>k _ _ (.inl rfl) q,⟨o,k _ _ (.inl rfl) e⟩,st⟩
theorem HOk.lt (x:HOk P w H h)(e:H a=some o):a<h.objs.size:=(x a o e).lt
theorem HOk.fresh (x:HOk P w H h)(e:h.objs.size<=a):H a=none:=by
 cases q:H a with
 | none=>rfl
 | some u=>exact absurd (Xy (x.lt q) e) (Wl _)
theorem HOk.kept (x:HOk P w H h)(k:∀b u,h.get? b=some u->h'.get? b=some u):HOk P w H h':=fun a o e =>
 (x a o e).stay (fun b u _ q=>k b u q) (fun _ q=>q) fun _ _ q=>q
theorem HOk.laid (x:HOk P w H h)(k:∀b u,h.get? b=some u->h'.get? b=some u)(i:h.objs.size<=a)(d:jk P w (upd H a o) h' a o):HOk P w (upd H a o) h':=fun b u e=>by
 have g:=x.fresh i;by_cases f:b=a
 ·subst f;rw[zc] at e;cases e;exact d
 ·rw[zj f] at e;exact(x b u e).stay (fun c v _ q=>k c v q) (fun c q=>by rw[zj (zh q g)];exact q) fun c j q=>by rw[zj (zh q g)];exact q
end
def Rd (H:Hp)(a:Addr)(u:HO):Prop:=H a=some u\/∃o,H a=some (.frz o u)
theorem Rd.ok {P:Xg}{w:WQ}{H:Hp}{h:Heap}{a:Addr}{u:HO}(r:Rd H a u)(x:HOk P w H h):jk P w H h a u:=by
 rcases r with r | ⟨o,r⟩
 ·exact x a u r
 ·obtain⟨_,q⟩:=x a _ r;exact q
def Mut:Option HO->Prop
 | some (.lst _)=>True
 | some (.dK _)=>True
 | some (.dT _)=>True
 | some (.set _ _)=>True
 | some (.ins _ _ _)=>True
 | some (.ext _)=>True
 | _=>False
section
variable {P:Xg}{w:WQ}{H:Hp}{h h':Heap}{x e:Addr}{o':HO}
theorem HOk.write (ok:HOk P w H h)(i:Mut (H x))(he:e=x\/H e=some (.own x))(k:∀b u,b≠e->h.get? b=some u->h'.get? b=some u)(l:∃u,h'.get? e=some u)
  (m:jk P w (upd H x o') h' x o'):HOk P w (upd H x o') h':=fun b u q=>by
 have d:∀c y,H c=some (.own y)->c≠x:=fun c y r z=>by subst z;rw[r] at i;exact i
 have f:∀c j,H c=some (.tup j)->c≠x:=fun c j r z=>by subst z;rw[r] at i;exact i
 by_cases g:b=x
 ·subst g;rw[zc] at q;cases q;exact m
 ·rw[zj g] at q;by_cases a:b=e
  ·have n:H b=some (.own x):=by
    rcases he with z | z
    ·exact absurd (a.trans z) g
    ·rw[a];exact z
   rw[q] at n;cases n;obtain⟨v,o⟩:=l;exact⟨v,by rw[a];exact o⟩
  ·refine(ok b u q).stay (fun c v hc r=>k c v ?_ r) (fun c r=>by rw[zj (d c b r)];exact r) fun c j r=>by rw[zj (f c j r)];exact r
   rcases hc with rfl | hc
   ·exact a
   ·rintro rfl;rcases he with z | z
    ·exact d c b hc z
    ·rw[hc] at z;cases z;exact g rfl
end
structure Un (fs ex:List Addr)(H H':Hp)(h h':Heap):Prop where
 keep:∀b o,h.get? b=some o->H b=none->b ∉ fs->b ∉ ex->h'.get? b=some o
 slot:∀b o,h.get? b=some o->H b=none->b∈fs->b ∉ ex->∃sl,h'.get? b=some { o with slots:=sl }
 free:∀b o,h.get? b=some o->H b=none->b ∉ ex->H' b=none
 there:∀b o,h.get? b=some o->b ∉ ex->∃o',h'.get? b=some o'
 tups:∀b xs,H b=some (.tup xs)->H' b=some (.tup xs)
 frzs:∀b o u,H b=some (.frz o u)->H' b=some (.frz o u)
 tbls:∀b ps,H b=some (.tbl ps)->∃more,H' b=some (.tbl (ps++more))
section
variable {fs fs' ex ex':List Addr}{H H1 H2:Hp}{h h1 h2 h':Heap}{a x e:Addr}{o:HO}
theorem Un.any (u:Un fs ex H H1 h h1){b:Addr}{ob:Obj}(q:h.get? b=some ob)(n:H b=none)(c:b ∉ ex):∃d,h1.get? b=some { ob with slots:=d }:=by
 by_cases a:b∈fs
 ·exact u.slot b ob q n a c
 ·exact⟨ob.slots,u.keep b ob q n a c⟩
theorem Un.kept (k:∀b u,h.get? b=some u->h'.get? b=some u):Un fs ex H H h h' :=
 ⟨fun b ob q _ _ _=>k b ob q,fun b ob q _ _ _=>⟨ob.slots,k b ob q⟩,fun _ _ _ n _=>n,fun b ob q _=>⟨ob,k b ob q⟩,fun _ _ q=>q,fun _ _ _ q=>q,fun _ a q=>⟨#[],by rw[q];simp⟩⟩
theorem Un.refl:Un fs ex H H h h:=Un.kept fun _ _ q=>q
theorem Un.laid (k:∀b u,h.get? b=some u->h'.get? b=some u)(hp:h.objs.size<=a)(hn:H a=none):Un fs ex H (upd H a o) h h' where
 keep:=fun b u q _ _ _=>k b u q
 slot:=fun b u q _ _ _=>⟨u.slots,k b u q⟩
 free:=fun b u q n _=>by rw[zj (Xj (Xy (XO q) hp))];exact n
 there:=fun b u q _=>⟨u,k b u q⟩
 tups:=fun b xs q=>by rw[zj (zh q hn)];exact q
 frzs:=fun b u xs q=>by rw[zj (zh q hn)];exact q
 tbls:=fun b ps q=>⟨#[],by rw[zj (zh q hn),q];simp⟩
theorem Un.write (c:Mut (H x))(he:e=x\/H e=some (.own x))(k:∀b u,b≠e->h.get? b=some u->h'.get? b=some u)(d:∃u,h'.get? e=some u):Un fs ex H (upd H x o) h h':=by
 have i:∀b,H b=none->b≠x:=fun b n z=>by subst z;rw[n] at c;exact c
 have g:∀b,H b=none->b≠e:=fun b n z=>by
  subst z;rcases he with r | r
  ·exact i b n r
  ·rw[n] at r;cases r
 have f:∀b u,H b=some u->¬ Mut (some u)->b≠x:=fun b u q j z=>by subst z;rw[q] at c;exact j c
 refine⟨fun b u q n _ _=>k b u (g b n) q,fun b u q n _ _=>⟨u.slots,k b u (g b n) q⟩,fun b u q n _=>by rw[zj (i b n)];exact n,fun b u q _=>?_,
  fun b l q=>by rw[zj (f b _ q fun z=>z)];exact q,fun b u l q=>by rw[zj (f b _ q fun z=>z)];exact q,fun b m q=>⟨#[],by rw[zj (f b _ q fun z=>z),q];simp⟩⟩
 by_cases a:b=e
 ·subst a;exact d
 ·exact⟨u,k b u a q⟩
end
def trk (h:Heap)(H:Hp):List Addr:=(XC h.objs.size).filter fun a=>(H a).isSome
def zey (h:Heap)(H:Hp):Heap:=PySem.W.hideAll h (trk h H)
theorem zi0 (h:Heap)(H:Hp):(zey h H).objs.size=h.objs.size:=PySem.W.hideAll_size _ _
theorem zj6 {h:Heap}{H:Hp}{b:Addr}{o:Obj}(e:h.get? b=some o)(n:H b=none):(zey h H).get? b=some o :=
 TB _ e fun a=>by
  have q:(H b).isSome=true:=(XX.mp a).2;rw[n] at q;simp at q
theorem zmf {h:Heap}{H:Hp}{b:Addr}{o:Obj}(e:(zey h H).get? b=some o):h.get? b=some o/\H b=none:=by
 have a:h.get? b=some o:=PySem.W.of_hideAll (trk h H) e;refine⟨a,?_⟩;cases q:H b with
 | none=>rfl
 | some x =>
  have c:b∈trk h H:=XX.mpr ⟨Xf.mpr (XO a),by simp[q]⟩;have z:(zey h H).get? b=none:=PySem.W.hideAll_none (trk h H) c;rw[z] at e;cases e
structure Mod (K:X5)(mg:Str->Option X9)(base:Heap):Prop where
 kin:K.In base
 glob:base.Ns XR mg
 blt:∃mb,base.Ns OA mb/\∀x:Str,x ≠ "__name__"->mb x=TM x
 nolimit:base.NoLimit
structure Cx where
 prog:Xg
 w:WQ
 K:X5
 mg:Str->Option X9
 base:Heap
 A:WH
 N:List Str
 s₀:X8
 H₀:Hp
 env:Env
 outer:List Env
 stack:List Env
 ex:List Addr
 fn:Str->Bool
 calm:Bool
 pn:List (Addr×Obj)
 xe:X9->X8->Prop
def frs (l:List Env):List Addr:=l.filterMap (·.frame)
abbrev Cx.fs (X:Cx):List Addr:=frs X.outer
def Vis (a:UG)(x:Str):Prop:=a.names.lookup x=some .local\/a.names.lookup x=some .cell\/a.names.lookup x=some .free
def Loc (a:UG)(x:Str):Prop:=a.names.lookup x=some .local\/a.names.lookup x=some .cell
def Look (a:Env)(h:Heap)(m:Str->Option X9)(x:Str)(u:X9):Prop :=
 (a.kindOf x=some .local/\m x=some u)\/((a.kindOf x=some .cell\/a.kindOf x=some .free)/\∃c,a.cells.lookup x=some c/\h.IsCell c (some u))
structure Cx.Ok (X:Cx):Prop where
 mod:Mod X.K X.mg X.base
 kind:X.env.scope.kind=.function
 glob:X.env.globals=XR
 blt:X.env.builtins=OA
 above:X.s₀.heap.objs.size<=X.env.locals
 inj:∀x y c,X.env.cells.lookup x=some c->X.env.cells.lookup y=some c->x=y
 has:∀x,(X.env.kindOf x=some .cell\/X.env.kindOf x=some .free)->∃c,X.env.cells.lookup x=some c
 cab:∀x c,X.fn x=true->X.env.cells.lookup x=some c->X.s₀.heap.objs.size<=c
 hd:X.calm=true->X.A.handled=none
 frames:X.A.frames=some X.stack
 stk:X.stack=X.outer\/(X.stack=X.env::X.outer/\X.env.frame=some X.env.locals)
 exf:∀b∈X.ex,b≠X.env.locals/\∀x c,X.env.cells.lookup x=some c->c≠b
 bs:∀b o,X.base.get? b=some o->X.s₀.heap.get? b=some o/\X.H₀ b=none
 bsz:X.base.objs.size<=X.s₀.heap.objs.size
 noex:∀b o,X.base.get? b=some o->b ∉ X.ex
 exfs:∀b∈X.ex,b ∉ X.fs
 funs:X.s₀.heap.FunFrames X.base X.outer
 frf:∀b∈X.fs,X.H₀ b=none
structure Inv (X:Cx)(pins:List (Addr×Obj))(σ:List (Option V))(H:Hp)(s:X8):Prop where
 ok:X.Ok
 os:s.os=X.s₀.os
 bare:Sg s.gens
 base:Un X.fs X.ex X.H₀ H X.s₀.heap s.heap
 loc:∃m,s.heap.Ns X.env.locals m/\∀(i:Nat) (x:Str) (v:V),X.N[i]?=some x->σ[i]?=some (some v)->Vis X.env.scope x->∃u,RelV v u/\Look X.env s.heap m x u
 cell:∀x c,X.env.cells.lookup x=some c->∃v,s.heap.IsCell c v
 free:H X.env.locals=none
 freeC:∀x c,X.env.cells.lookup x=some c->H c=none
 pin:∀p∈X.pn++pins,s.heap.get? p.1=some p.2/\H p.1=none/\p.1≠X.env.locals/\p.1 ∉ X.fs/\∀v,p.2.data ≠ .cell v
 hok:HOk X.prog X.w H s.heap
 len:σ.length=X.N.length
section
variable {X:Cx}{pins:List (Addr×Obj)}{σ:List (Option V)}{H H':Hp}{s:X8}{h':Heap}
theorem Cx.Ok.nofr (ok:X.Ok){b:Addr}{o:Obj}(e:X.base.get? b=some o):b ∉ X.fs:=fun a=>by
 have:=(ok.funs.mem a).1;rw[e] at this;cases this
theorem Inv.bs (I:Inv X pins σ H s):∀b o,X.base.get? b=some o->s.heap.get? b=some o/\H b=none:=fun b o e =>
 ⟨I.base.keep b o (I.ok.bs b o e).1 (I.ok.bs b o e).2 (I.ok.nofr e) (I.ok.noex b o e),I.base.free b o (I.ok.bs b o e).1 (I.ok.bs b o e).2 (I.ok.noex b o e)⟩
theorem Inv.bk (I:Inv X pins σ H s):∀b o,X.base.get? b=some o->s.heap.get? b=some o:=fun b o e=>(I.bs b o e).1
theorem Inv.mod (I:Inv X pins σ H s):Mod X.K X.mg X.base:=I.ok.mod
theorem Inv.kIn (I:Inv X pins σ H s):X.K.In s.heap:=I.ok.mod.kin.keeps I.bk
theorem Inv.lt (I:Inv X pins σ H s):X.env.locals<s.heap.objs.size:=let ⟨_,hn,_⟩:=I.loc;hn.lt
theorem Inv.sz (I:Inv X pins σ H s):X.s₀.heap.objs.size<=s.heap.objs.size:=X6 I.ok.above (SX I.lt)
theorem Inv.nofs (I:Inv X pins σ H s){a:Addr}(h:s.heap.objs.size<=a):a ∉ X.fs:=fun b=>by
 obtain⟨_,o,c,_⟩:=I.ok.funs.mem b;exact absurd (Xy (XO c) (X6 I.sz h)) (Wl _)
theorem Inv.cne (I:Inv X pins σ H s):∀x c,X.env.cells.lookup x=some c->c≠X.env.locals:=fun x c e z=>by
 obtain⟨v,o,f,d⟩:=I.cell x c e;obtain⟨m,⟨i,h,g,b,a,_⟩,_⟩:=I.loc;rw[z,b] at f;cases f;rw[a] at d;cases d
theorem Inv.funs (I:Inv X pins σ H s):s.heap.FunFrames X.base X.outer:=by
 have all:∀(l:List Env),(∀b∈frs l,b∈X.fs)->X.s₀.heap.FunFrames X.base l->s.heap.FunFrames X.base l:=by
  intro l;induction l with
  | nil=>intro _ _;trivial
  | cons g r n =>
   intro f i;obtain⟨hk,⟨L,o,d,j,k,h⟩,m⟩:=i;have a:L∈X.fs:=f L (by unfold frs;rw[Vc,d];exact XS);obtain⟨p,e⟩:=I.base.slot L o k (I.ok.frf L a) a fun z=>I.ok.exfs L z a;exact⟨hk,⟨L,_,d,j,e,h⟩,n (fun b c=>f b (by unfold frs;rw[Vc,d];exact XT _ c)) m⟩
 exact all X.outer (fun _ c=>c) I.ok.funs
theorem Inv.stack (I:Inv X pins σ H s):s.heap.FunFrames X.base X.stack:=by
 rcases I.ok.stk with e | ⟨e,a⟩
 ·rw[e];exact I.funs
 ·rw[e];obtain⟨m,b,_⟩:=I.loc;refine .cons (by rw[I.ok.kind];decide) a b ?_ I.funs;exact UP (X6 I.ok.bsz I.ok.above)
theorem Inv.stkSub (I:Inv X pins σ H s):∀b∈frs X.stack,b∈X.env.locals::X.fs:=fun b a=>by
 rcases I.ok.stk with e | ⟨e,c⟩
 ·rw[e] at a;exact XT _ a
 ·rw[e] at a;unfold frs at a;rw[Vc,c] at a;exact a
theorem Inv.stkFree (I:Inv X pins σ H s):∀b∈frs X.stack,H b=none:=fun b hb=>by
 rcases XJ.mp (I.stkSub b hb) with e | hb
 ·rw[e];exact I.free
 ·obtain⟨_,o,a,_⟩:=I.ok.funs.mem hb;exact I.base.free b o a (I.ok.frf b hb) fun z=>I.ok.exfs b z hb
theorem Inv.step {g':Array UF}{t':Nat}{d':Oe}{ch:List Addr}(I:Inv X pins σ H s)
  (g:∀b∈ch,(b∈X.ex\/X.s₀.heap.objs.size<=b)/\b≠X.env.locals/\(∀x c,X.env.cells.lookup x=some c->c≠b)/\∀p∈X.pn++pins,p.1≠b)
  (keep:∀b o,b≠X.env.locals->b ∉ X.fs->b ∉ ch->s.heap.get? b=some o->H b=none->h'.get? b=some o)
  (A:∀b o,b≠X.env.locals->b∈X.fs->b ∉ ch->s.heap.get? b=some o->H b=none->∃sl,h'.get? b=some { o with slots:=sl }) (free:∀b o,b ∉ ch->s.heap.get? b=some o->H b=none->H' b=none)
  (E:∀b o,b ∉ ch->s.heap.get? b=some o->∃N,h'.get? b=some N)
  (Q:∀b B,H b=some (.tup B)->H' b=some (.tup B)) (L:∀b o u,H b=some (.frz o u)->H' b=some (.frz o u)) (O:∀b U,H b=some (.tbl U)->∃more,H' b=some (.tbl (U++more)))
  (ns:∀m,s.heap.Ns X.env.locals m->h'.Ns X.env.locals m) (aa:HOk X.prog X.w H' h') (hg:Sg g') :
  Inv X pins σ H' { s with heap:=h',gens:=g',drawn:=d',toks:=t' }:=by
 have M:∀b o,X.s₀.heap.get? b=some o->b≠X.env.locals:=fun b o e=>Xj (Xy (XO e) I.ok.above);have y:∀b o,X.s₀.heap.get? b=some o->b ∉ X.ex->b ∉ ch:=fun b o e a D=>by
  rcases(g b D).1 with z | z
  ·exact a z
  ·exact absurd (Xy (XO e) z) (Wl _)
 have f:∀x c,X.env.cells.lookup x=some c->∀v,s.heap.IsCell c v->h'.IsCell c v:=fun x c e v ⟨o,G,Y⟩=>by
  have h:c ∉ ch:=fun z=>(g c z).2.2.1 x c e rfl;by_cases hc:c∈X.fs
  ·obtain⟨sl,q⟩:=A c o (I.cne x c e) hc h G (I.freeC x c e);exact⟨_,q,Y⟩
  ·exact⟨o,keep c o (I.cne x c e) hc h G (I.freeC x c e),Y⟩
 refine⟨I.ok,I.os,hg,⟨fun b o e n D a=>?_,fun b o e n D a=>?_,fun b o e n a=>?_,fun b o e a=>?_,fun b B e=>Q b B (I.base.tups b B e),fun b o B e=>L b o B (I.base.frzs b o B e),fun b U e=>?_⟩,?_,fun x c e=>?_,?_,fun x c e=>?_,fun p hp=>?_,aa,I.len⟩
 ·exact keep b o (M b o e) D (y b o e a) (I.base.keep b o e n D a) (I.base.free b o e n a)
 ·obtain⟨sl,j⟩:=I.base.slot b o e n D a;obtain⟨ab,J⟩:=A b _ (M b o e) D (y b o e a) j (I.base.free b o e n a);exact⟨ab,J⟩
 ·obtain⟨N,j⟩:=I.base.there b o e a;exact free b N (y b o e a) j (I.base.free b o e n a)
 ·obtain⟨N,j⟩:=I.base.there b o e a;exact E b N (y b o e a) j
 ·obtain⟨m1,j⟩:=I.base.tbls b U e;obtain⟨m2,J⟩:=O b _ j;exact⟨m1++m2,by rw[J,Array.append_assoc]⟩
 ·obtain⟨m,hn,hl⟩:=I.loc;refine⟨m,ns m hn,fun i x v j J e3=>?_⟩;obtain⟨u,r,l⟩:=hl i x v j J e3;refine⟨u,r,?_⟩;rcases l with l | ⟨k,c,e,z⟩
  ·exact .inl l
  ·exact .inr ⟨k,c,e,f x c e _ z⟩
 ·obtain⟨v,z⟩:=I.cell x c e;exact⟨v,f x c e v z⟩
 ·obtain⟨m,⟨o,_,_,G,_⟩,_⟩:=I.loc;exact free _ o (fun z=>(g _ z).2.1 rfl) G I.free
 ·obtain⟨v,o,G,Y⟩:=I.cell x c e;exact free c o (fun z=>(g c z).2.2.1 x c e rfl) G (I.freeC x c e)
 ·obtain⟨e,n,ne,nf,d⟩:=I.pin p hp;have h:p.1 ∉ ch:=fun z=>(g p.1 z).2.2.2 p hp rfl;exact⟨keep p.1 p.2 ne nf h e n,free p.1 p.2 h e n,ne,nf,d⟩
theorem Inv.un {t':Nat}(I:Inv X pins σ H s)(u:Un X.fs [] H H' s.heap h')(g:HOk X.prog X.w H' h'):Inv X pins σ H' { s with heap:=h',toks:=t' }:=by
 obtain⟨m,⟨o,p,l,h,r⟩,_⟩:=id I.loc;obtain⟨x,i⟩:=u.any h I.free (by simp);exact I.step (g':=s.gens) (d':=s.drawn) (ch:=[]) (fun _ z=>nomatch z) (fun b o _ f _ e n=>u.keep b o e n f (by simp)) (fun b o _ f _ e n=>u.slot b o e n f (by simp)) (fun b o _ e n=>u.free b o e n (by simp)) (fun b o _ e=>u.there b o e (by simp)) u.tups u.frzs u.tbls (fun q j=>by
  obtain⟨v,d,c,a,k⟩:=j;rw[h] at a;cases a;exact⟨_,d,c,i,k⟩) g I.bare
theorem Inv.call {g':Array UF}{t':Nat}{d':Oe}{ch:List Addr}(I:Inv X pins σ H s)(u:Un (frs X.stack) ch H H' s.heap h')(j:HOk X.prog X.w H' h')(q:Sg g')
  (d:∀b∈ch,(b∈X.ex\/X.s₀.heap.objs.size<=b)/\b≠X.env.locals/\(∀x c,X.env.cells.lookup x=some c->c≠b)/\∀p∈X.pn++pins,p.1≠b) :
  Inv X pins σ H' { s with heap:=h',gens:=g',drawn:=d',toks:=t' }:=by
 obtain⟨m,⟨o,B,A,k,r⟩,_⟩:=id I.loc;obtain⟨G,i⟩:=u.any k I.free fun z=>(d _ z).2.1 rfl;exact I.step (ch:=ch) d (fun b o i l a e n=>u.keep b o e n (fun z=>(XJ.mp (I.stkSub b z)).elim i l) a) (fun b o _ _ a e n=>u.any e n a) (fun b o a e n=>u.free b o e n a) (fun b o a e=>u.there b o e a) u.tups u.frzs u.tbls (fun D v=>by
  obtain⟨E,h,g,f,y⟩:=v;rw[k] at f;cases f;exact⟨_,h,g,i,y⟩) j q
theorem Inv.turned {t':Nat}{it:Addr}(I:Inv X pins σ H s)(k:∀b o,b≠it->s.heap.get? b=some o->h'.get? b=some o)(w:H it=none)(f:it≠X.env.locals)
  (h1:it∈X.ex\/X.s₀.heap.objs.size<=it) (h2:∀x c,X.env.cells.lookup x=some c->c≠it) (i:∀p∈X.pn++pins,p.1≠it):Inv X pins σ H { s with heap:=h',toks:=t' }:=by
 have d:∀b u,H b=some u->b≠it:=fun b u e z=>by rw[z,w] at e;cases e
 refine I.step (g':=s.gens) (d':=s.drawn) (ch:=[it]) (fun b j=>?_) (fun b o _ _ a e _=>k b o (fun z=>a (by simp[z])) e) (fun b o _ _ a e _=>⟨o.slots,k b o (fun z=>a (by simp[z])) e⟩) (fun _ _ _ _ n=>n)
  (fun b o a e=>⟨o,k b o (fun z=>a (by simp[z])) e⟩) (fun _ _ e=>e) (fun _ _ _ e=>e) (fun b A e=>⟨#[],by rw[e];simp⟩) (fun m l=>?_) (fun b u e=>?_) I.bare
 ·have e:b=it:=by simpa using j
  subst e;exact⟨h1,f,h2,i⟩
 ·obtain⟨o,h,g,y,r⟩:=l;exact⟨o,h,g,k _ o (U9 f) y,r⟩
 ·refine(I.hok b u e).stay (fun c v a q=>k c v ?_ q) (fun _ q=>q) fun _ _ q=>q;rcases a with z | z
  ·rw[z];exact d b u e
  ·exact d c _ z
theorem Inv.tok (I:Inv X pins σ H s)(t:Nat):Inv X pins σ H { s with toks:=t }:=I.un (h':=s.heap) (t':=t) Un.refl I.hok
theorem Inv.kept {t':Nat}(I:Inv X pins σ H s)(k:∀b u,s.heap.get? b=some u->h'.get? b=some u):Inv X pins σ H { s with heap:=h',toks:=t' }:=I.un (Un.kept k) (I.hok.kept k)
theorem Inv.laid {a:Addr}{o:HO}{t':Nat}(I:Inv X pins σ H s)(k:∀b u,s.heap.get? b=some u->h'.get? b=some u)(c:s.heap.objs.size<=a)(d:jk X.prog X.w (upd H a o) h' a o) :
  Inv X pins σ (upd H a o) { s with heap:=h',toks:=t' }:=I.un (Un.laid k c (I.hok.fresh c)) (I.hok.laid k c d)
theorem Inv.write {x e:Addr}{o:HO}{t':Nat}(I:Inv X pins σ H s)(d:Mut (H x))(he:e=x\/H e=some (.own x))(k:∀b u,b≠e->s.heap.get? b=some u->h'.get? b=some u)(a:∃u,h'.get? e=some u)
  (c:jk X.prog X.w (upd H x o) h' x o):Inv X pins σ (upd H x o) { s with heap:=h',toks:=t' }:=I.un (Un.write d he k a) (I.hok.write d he k a c)
theorem Inv.pins_of {a:List (Addr×Obj)}(I:Inv X pins σ H s)(h:∀p∈a,s.heap.get? p.1=some p.2/\H p.1=none/\p.1≠X.env.locals/\p.1 ∉ X.fs/\∀v,p.2.data ≠ .cell v):Inv X a σ H s :=
 ⟨I.ok,I.os,I.bare,I.base,I.loc,I.cell,I.free,I.freeC,fun p b=>(XF.mp b).elim (fun z=>I.pin p (WW _ z)) (h p),I.hok,I.len⟩
theorem zb5 {N:List Str}(e:N.Nodup){i j:Nat}{x:Str}(a:N[i]?=some x)(b:N[j]?=some x):i=j:=by
 obtain⟨h1,c⟩:=XZ.mp a;obtain⟨h2,d⟩:=XZ.mp b;exact(List.getElem_inj e).mp (c.trans d.symm)
theorem zaW {M:Od}{A:WH}{E:X9->X8->Prop}{i:Nat}{x:Str}{v:V}{u:X9}{Q:Unit->X8->Prop}(I:Inv X pins σ H s)(hN:X.N.Nodup)(hi:X.N[i]?=some x)(B:Loc X.env.scope x)(r:RelV v u)
  (h:∀s',Inv X pins (σ.set i (some v)) H s'->(∃a,VD a s.heap s'.heap/\(a=X.env.locals\/X.env.cells.lookup x=some a))->Q () s') (hf:X.fn x=true\/X.env.scope.names.lookup x=some .local:=by first | exact .inl rfl | exact .inr rfl | assumption):W8 M A (storeName X.env x u) Q E s:=by
 obtain⟨m,hn,hl⟩:=id I.loc;have ab:(X.env.scope.kind == .class || (X.env.scope.kind == .module&&X.env.locals != X.env.globals))=false:=by rw[I.ok.kind];rfl
 have J:i < σ.length:=by rw[I.len];exact(XZ.mp hi).1
 have cne:=I.cne;have l:∀{a:Addr} {h':Heap},(∃o,s.heap.get? a=some o/\H a=none)->VD a s.heap h'->HOk X.prog X.w H h':=fun {a h'} ha f b ob e=>by
  obtain⟨_,_,D⟩:=ha;refine(I.hok b ob e).stay (fun c w' hc q=>(f.2 c ?_).trans q) (fun _ q=>q) fun _ _ q=>q;rintro rfl;rcases hc with rfl | hc
  ·rw[D] at e;cases e
  ·rw[D] at hc;cases hc
 rcases B with hk | hk
 ·refine wpAny_storeName_local hk hn (fun h' af f=>?_) ab;obtain⟨oL,_,_,ag,_⟩:=id hn;refine h _ ⟨I.ok,I.os,I.bare,⟨fun b o e n L B=>?_,fun b o e n L B=>?_,I.base.free,fun b o e B=>?_,I.base.tups,I.base.frzs,I.base.tbls⟩,⟨_,af,fun j y v' g G e3=>?_⟩,fun y c e=>?_,I.free,I.freeC,fun p hp=>?_,l ⟨oL,ag,I.free⟩ f,by simpa using I.len⟩ ⟨_,f,.inl rfl⟩
  ·exact(f.2 b (Xj (Xy (XO e) I.ok.above))).trans (I.base.keep b o e n L B)
  ·obtain⟨sl,g⟩:=I.base.slot b o e n L B;exact⟨sl,(f.2 b (Xj (Xy (XO e) I.ok.above))).trans g⟩
  ·obtain⟨o',g⟩:=I.base.there b o e B;exact⟨o',(f.2 b (Xj (Xy (XO e) I.ok.above))).trans g⟩
  ·by_cases U:j=i
   ·subst U;rw[hi] at g;cases g;rw[Sy J] at G;cases G;exact⟨u,r,.inl ⟨hk,by simp⟩⟩
   ·rw[R6 (U9 U)] at G;obtain⟨u',r',q⟩:=hl j y v' g G e3;refine⟨u',r',?_⟩;rcases q with ⟨k,e⟩ | ⟨k,c,e,z⟩
    ·refine .inl ⟨k,?_⟩;have:y≠x:=fun e=>U (zb5 hN g (e ▸ hi));simp[this,e]
    ·exact .inr ⟨k,c,e,z.sameBut f (cne y c e)⟩
  ·obtain⟨w',z⟩:=I.cell y c e;exact⟨w',z.sameBut f (cne y c e)⟩
  ·obtain⟨e,n,ne,nf,d⟩:=I.pin p hp;exact⟨(f.2 p.1 ne).trans e,n,ne,nf,d⟩
 ·have O:X.fn x=true:=by
   rcases hf with z | z
   ·exact z
   ·rw[z] at hk;cases hk
  obtain⟨c,hc⟩:=I.ok.has x (.inl hk);obtain⟨w',z⟩:=I.cell x c hc;refine wpAny_storeName_cell I.ok.kind hk hc z (fun h' Y f=>?_);obtain⟨oc,ac,ae⟩:=id z;refine h { s with heap:=h' } ⟨I.ok,I.os,I.bare,⟨fun b o e n L B=>?_,fun b o e n L B=>?_,I.base.free,fun b o e B=>?_,I.base.tups,I.base.frzs,I.base.tbls⟩,⟨m,hn.sameBut f (U9 (cne x c hc)),fun j y v' g G e3=>?_⟩,fun y c' e=>?_,I.free,I.freeC,fun p hp=>?_,l ⟨oc,ac,I.freeC x c hc⟩ f,by simpa using I.len⟩ ⟨c,f,.inr hc⟩
  ·exact(f.2 b (Xj (Xy (XO e) (I.ok.cab x c O hc)))).trans (I.base.keep b o e n L B)
  ·obtain⟨sl,g⟩:=I.base.slot b o e n L B;exact⟨sl,(f.2 b (Xj (Xy (XO e) (I.ok.cab x c O hc)))).trans g⟩
  ·obtain⟨o',g⟩:=I.base.there b o e B;exact⟨o',(f.2 b (Xj (Xy (XO e) (I.ok.cab x c O hc)))).trans g⟩
  ·by_cases U:j=i
   ·subst U;rw[hi] at g;cases g;rw[Sy J] at G;cases G;exact⟨u,r,.inr ⟨.inl hk,c,hc,Y⟩⟩
   ·rw[R6 (U9 U)] at G;obtain⟨u',r',q⟩:=hl j y v' g G e3;refine⟨u',r',?_⟩;rcases q with q | ⟨k,c',e,z'⟩
    ·exact .inl q
    ·refine .inr ⟨k,c',e,z'.sameBut f ?_⟩;rintro rfl;exact U (zb5 hN g (I.ok.inj _ _ _ e hc ▸ hi))
  ·by_cases aa:c'=c
   ·subst aa;exact⟨_,Y⟩
   ·obtain⟨w2,z2⟩:=I.cell y c' e;exact⟨w2,z2.sameBut f aa⟩
  ·obtain⟨e,n,ne,nf,d⟩:=I.pin p hp;refine⟨(f.2 p.1 ?_).trans e,n,ne,nf,d⟩;intro q;rw[q,ac] at e;have q':oc=p.2:=Option.some.inj e;exact d w' (by rw[<- q'];exact ae)
theorem zaa {M:Od}{A:WH}{E:X9->X8->Prop}{i:Nat}{x:Str}{v:V}{u:X9}{Q:Unit->X8->Prop}(I:Inv X pins σ H s)(b:X.N.Nodup)(d:X.N[i]?=some x)(e:Loc X.env.scope x)(r:RelV v u)
  (h:∀s',Inv X pins (σ.set i (some v)) H s'->Q () s') (c:X.fn x=true\/X.env.scope.names.lookup x=some .local:=by first | exact .inl rfl | exact .inr rfl | assumption):W8 M A (storeName X.env x u) Q E s :=
 zaW I b d e r (fun s' a _=>h s' a) c
theorem Inv.call' {s':X8}{ch:List Addr}(I:Inv X pins σ H s)(g:s'.os=s.os)(u:Un (frs X.stack) ch H H' s.heap s'.heap)(d:HOk X.prog X.w H' s'.heap)(f:Sg s'.gens)
  (a:∀b∈ch,(b∈X.ex\/X.s₀.heap.objs.size<=b)/\b≠X.env.locals/\(∀x c,X.env.cells.lookup x=some c->c≠b)/\∀p∈X.pn++pins,p.1≠b):Inv X pins σ H' s':=by
 obtain⟨h',g',d',t',h⟩:=s';have e:h=s.os:=g;subst e;exact I.call (g':=g') (t':=t') (d':=d') u d f a
end
abbrev XK:=X9->Option Addr->Hp->Prop
abbrev St:=List (Option V)
abbrev VK:=V->Hp->Prop
abbrev TE:=St->Hp->VK->Prop
abbrev TT:=St->Hp->(Bool->Hp->Prop)->Prop
abbrev TA:=St->Hp->(List V->Hp->Prop)->Prop
structure Ends where
 nx:St->Hp->Prop
 rt:VK
 bk:St->Hp->Prop:=fun _ _=>False
 ct:St->Hp->Prop:=fun _ _=>False
abbrev TS:=Ends->St->Hp->Prop
def EP (X:Cx)(a:List (Addr×Obj))(c:St)(Q:VK)(u:X9)(s':X8):Prop:=∃v b,Inv X a c b s'/\RelV v u/\Q v b
def TP (X:Cx)(a:List (Addr×Obj))(d:St)(Q:Bool->Hp->Prop)(b:Bool)(s':X8):Prop:=∃c,Inv X a d c s'/\Q b c
def AP (X:Cx)(a:List (Addr×Obj))(e:St)(Q:List V->Hp->Prop)(d:List X9)(s':X8):Prop:=∃c b,Inv X a e b s'/\Vals c d/\Q c b
def SP (X:Cx)(b:List (Addr×Obj))(D:Ends)(f:Flow)(s':X8):Prop :=
 match f with
 | .next=>∃ a c,Inv X b a c s'/\D.nx a c
 | .brk=>∃ a c,Inv X b a c s'/\D.bk a c
 | .cont=>∃ a c,Inv X b a c s'/\D.ct a c
 | .ret u=>∃v a c,Inv X b a c s'/\RelV v u/\D.rt v c
def PE (X:Cx)(e:Expr)(t:TE):Prop :=
 ∀(a:List (Addr×Obj)) (s:X8) (b:St) (H:Hp) (Q:VK),Inv X a b H s->t b H Q->W8 (Xi X.prog X.w) X.A (eval e X.env) (EP X a b Q) X.xe s
def PT (X:Cx)(e:Expr)(t:TT):Prop :=
 ∀(a:List (Addr×Obj)) (s:X8) (b:St) (H:Hp) (Q:Bool->Hp->Prop),Inv X a b H s->t b H Q->W8 (Xi X.prog X.w) X.A (isTrue e X.env (eval e X.env)) (TP X a b Q) X.xe s
def PW (X:Cx)(e:Expr)(t:TT):Prop :=
 ∀(whole:Sem X9) (a:List (Addr×Obj)) (s:X8) (b:St) (H:Hp) (Q:Bool->Hp->Prop),Inv X a b H s->t b H Q->W8 (Xi X.prog X.w) X.A (isTrue e X.env whole) (TP X a b Q) X.xe s
theorem PW.pt {X:Cx}{e:Expr}{t:TT}(h:PW X e t):PT X e t:=h _
def PA (X:Cx)(c:List Expr)(t:TA):Prop :=
 ∀(pos:Pos) (a:List (Addr×Obj)) (s:X8) (b:St) (H:Hp) (Q:List V->Hp->Prop),Inv X a b H s->t b H Q->W8 (Xi X.prog X.w) X.A (spliced (SZ pos (WA c X.env))) (AP X a b Q) X.xe s
def PS (X:Cx)(st:Stmt)(t:TS):Prop :=
 ∀(a:List (Addr×Obj)) (s:X8) (b:St) (H:Hp) (D:Ends),Inv X a b H s->t D b H->W8 (Xi X.prog X.w) X.A (exec st X.env) (SP X a D) X.xe s
def PSs (X:Cx)(st:List Stmt)(t:TS):Prop :=
 ∀(a:List (Addr×Obj)) (s:X8) (b:St) (H:Hp) (D:Ends),Inv X a b H s->t D b H->W8 (Xi X.prog X.w) X.A (execs st X.env) (SP X a D) X.xe s
theorem thn {α:Type}{t:Sem α}{Q b:α->X8->Prop}{M:Od}{A:WH}{E:X9->X8->Prop}{s:X8}(h:W8 M A t Q E s)(c:∀a s,Q a s->b a s):W8 M A t b E s:=Ww h c fun _ _ x=>x
section
variable {X:Cx}
def zpx (i:Nat):TE:=fun a H Q=>∃v,a[i]?=some (some v)/\Q v H
def tC (v:V):TE:=fun _ H Q=>Q v H
theorem znY {i:Nat}{x:Str}{pos:Pos}(k:X.N[i]?=some x)(q:Vis X.env.scope x)(g:(x==("__debug__":Str))=false:=by decide)(f:(x==("__classdict__":Str))=false:=by decide):PE X (.Name x pos) (zpx i):=by
 intro d s w H Q I h;obtain⟨v,e,h⟩:=h;obtain⟨m,p,n⟩:=I.loc;obtain⟨u,r,l⟩:=n i x v k e q;have b:EP X d w Q u s:=⟨v,H,I,r,h⟩;rcases l with ⟨hk,o⟩ | ⟨hk,c,j,a⟩
 ·exact wpAny_Name (wpAny_loadName_local I.ok.kind hk p o b) g
 ·rcases hk with hk | hk
  ·exact wpAny_Name (wpAny_loadName_cell I.ok.kind hk j a b) g
  ·exact wpAny_Name (wpAny_loadName_free I.ok.kind hk j a b f) g
theorem zk {i j pos}:PE X (.Constant (.int i) j pos) (tC (.int i)):=fun _ _ _ H _ I h=>wpAny_Constant_int ⟨.int i,H,I.tok _,⟨_,rfl⟩,h⟩
theorem Yv {b j pos}:PE X (.Constant (.bool b) j pos) (tC (.bl b)):=fun _ _ _ H _ I h=>Constant_bool ⟨.bl b,H,I,rfl,h⟩
theorem zgP {j pos}:PE X (.Constant .none j pos) (tC .non):=fun _ _ _ H _ I h=>Constant_none ⟨.non,H,I,rfl,h⟩
theorem qo {x j pos}:PE X (.Constant (.str x) j pos) (tC (.str x)):=fun _ _ _ H _ I h=>Calls.Constant_str ⟨.str x,H,I.tok _,⟨_,rfl⟩,h⟩
def Gl (X:Cx)(x:Str):Prop:=X.env.kindOf x=some .globalImplicit
theorem zab {E:X9->X8->Prop}{a:List (Addr×Obj)}{s:X8}{e:St}{H:Hp}{x:Str}{u:X9}{pos:Pos}{Q:X9->X8->Prop}(I:Inv X a e H s)(c:Gl X x)(d:X.mg x=some u)(h:Q u s)
  (b:(x==("__debug__":Str))=false:=by decide):W8 (Xi X.prog X.w) X.A (eval (.Name x pos) X.env) Q E s :=
 RD I.ok.kind c (Calls.loadGlobal_global (by rw[I.ok.glob];exact I.mod.glob.keeps I.bk) d h) b
theorem YA {E:X9->X8->Prop}{a:List (Addr×Obj)}{s:X8}{g:St}{H:Hp}{x:Str}{u:X9}{pos:Pos}{Q:X9->X8->Prop}(I:Inv X a g H s)(c:Gl X x)(d:X.mg x=none)(f:TM x=some u)(h:Q u s)
  (e:x ≠ "__name__":=by decide) (b:(x==("__debug__":Str))=false:=by decide):W8 (Xi X.prog X.w) X.A (eval (.Name x pos) X.env) Q E s:=by
 obtain⟨i,h1,h2⟩:=I.mod.blt;exact RD I.ok.kind c (Calls.loadGlobal_builtin (by rw[I.ok.glob];exact I.mod.glob.keeps I.bk) d (by rw[I.ok.blt];exact h1.keeps I.bk) ((h2 x e).trans f) h) b
theorem jH {x:Str}{v:V}{u:X9}{pos:Pos}(b:Gl X x)(c:X.mg x=some u)(r:RelV v u)(a:(x==("__debug__":Str))=false:=by decide):PE X (.Name x pos) (tC v) :=
 fun _ _ _ H _ I h=>zab I b c ⟨v,H,I,r,h⟩ a
theorem zac {x:Str}{v:V}{u:X9}{pos:Pos}(b:Gl X x)(c:X.mg x=none)(e:TM x=some u)(r:RelV v u)(d:x ≠ "__name__":=by decide)(a:(x==("__debug__":Str))=false:=by decide):PE X (.Name x pos) (tC v) :=
 fun _ _ _ H _ I h=>YA I b c e ⟨v,H,I,r,h⟩ d a
variable {a b:Expr}{ta tb:TE}{pos:Pos}
variable {tA tB':TT}{rest:List Expr}
def zqC (t u:TT):TT:=fun b H Q=>t b H fun c a=>if c=true then u b a Q else Q false a
def tOr (t u:TT):TT:=fun b H Q=>t b H fun c a=>if c=true then Q true a else u b a Q
def zqD (t:TT):TT:=fun b H Q=>t b H fun c a=>Q (!c) a
theorem zbO (d:PT X a tA):PW X (.BoolOp .And [a] pos) tA:=by
 intro g b s f H Q I h;refine isTrue_and (thn (d b s f H Q I h) fun c s1 e=>?_);cases c with
 | true=>exact isTrue_and_nil e
 | false=>exact e
theorem zez (d:PT X a tA):PW X (.BoolOp .Or [a] pos) tA:=by
 intro g b s f H Q I h;refine isTrue_or (thn (d b s f H Q I h) fun c s1 e=>?_);cases c with
 | false=>exact isTrue_or_nil e
 | true=>exact e
theorem zeA (j:PT X a tA)(k:PW X (.BoolOp .And (b::rest) pos) tB'):PW X (.BoolOp .And (a::b::rest) pos) (zqC tA tB'):=by
 intro l d s i H Q I h;refine isTrue_and (thn (j d s i H _ I h) fun c s1 ⟨e,f,g⟩=>?_);cases c with
 | true=>exact k l d s1 i e Q f g
 | false=>exact⟨e,f,g⟩
theorem zfq (j:PT X a tA)(k:PW X (.BoolOp .Or (b::rest) pos) tB'):PW X (.BoolOp .Or (a::b::rest) pos) (tOr tA tB'):=by
 intro l d s i H Q I h;refine isTrue_or (thn (j d s i H _ I h) fun c s1 ⟨e,f,g⟩=>?_);cases c with
 | true=>exact⟨e,f,g⟩
 | false=>exact k l d s1 i e Q f g
theorem Zf (e:PT X a tA):PT X (.UnaryOp .Not a pos) (zqD tA):=by
 intro b s f H Q I h;exact isTrue_not (e b s f H (fun c d=>Q (!c) d) I h)
def zpy (ta tb:TE):TE:=fun b H Q=>ta b H fun x a=>∃c,x=.bl c/\if c=true then tb b a Q else Q (.bl false) a
theorem zj7 {op}{t:TE}(h:PE X a t):PE X (.BoolOp op [a] pos) t:=fun b s d H Q I c=>BoolOp_one (h b s d H Q I c)
theorem zgQ (j:PE X a ta)(k:PE X (.BoolOp .And (b::rest) pos) tb):PE X (.BoolOp .And (a::b::rest) pos) (zpy ta tb):=by
 intro d s i H Q I h;refine BoolOp_and (thn (j d s i H _ I h) fun v s1 ⟨x,f,g,l,e⟩=>?_);obtain⟨c,rfl,e⟩:=e;cases l;refine Vh ?_;cases c with
 | true=>exact k d s1 i f Q g e
 | false=>exact⟨.bl false,f,g,rfl,e⟩
end
def SqL (K:X5)(H:Hp)(a:Addr)(xs:List V):Prop :=
 Rd H a (.lst xs) \/
  ∃(o:Obj) (b:Array X9) (n:Nat),K.lookup a=some o/\o.cls=.type "list"/\o.dict=none/\o.data=.seq b n/\b.size<=Xw/\Vals xs b.toList
def SqT (K:X5)(H:Hp)(a:Addr)(xs:List V):Prop :=
 Rd H a (.tup xs) \/
  ∃(o:Obj) (b:Array X9) (n:Nat),K.lookup a=some o/\o.cls=.type "tuple"/\o.data=.seq b n/\b.size<=Xw/\Vals xs b.toList
def zqE:X9->Option V
 | .none=>some .non
 | .bool b=>some (.bl b)
 | .int i _=>some (.int i)
 | .str x _=>some (.str x)
 | .bytes b _=>some (.byt b)
 | .float b _=>some (.flt b)
 | .ref a=>some (.ref a)
 | .type n=>some (.ty n)
 | _=>none
theorem RelV.abs {x:V}{u:X9}(r:RelV x u):zqE u=some x:=by
 cases x with
 | non=>cases r;rfl
 | bl _=>cases r;rfl
 | int _=>obtain⟨t,rfl⟩:=r;rfl
 | str _=>obtain⟨t,rfl⟩:=r;rfl
 | byt _=>obtain⟨t,rfl⟩:=r;rfl
 | flt _=>obtain⟨t,rfl⟩:=r;rfl
 | ref _=>cases r;rfl
 | ty _=>cases r;rfl
theorem RelV.inj {x y:V}{u:X9}(r:RelV x u)(q:RelV y u):x=y:=Option.some.inj (r.abs.symm.trans q.abs)
theorem Vals.inj:∀{xs ys:List V} {a:List X9},Vals xs a->Vals ys a->xs=ys
 | _,_,_,.nil,.nil=>rfl
 | _,_,_,.cons r t,.cons b t'=>by rw[r.inj b,Vals.inj t t']
section
variable {X:Cx}{pins:List (Addr×Obj)}{σ:St}{H:Hp}{s:X8}{a:Addr}{xs ys:List V}
theorem SqL.of {K:X5}(h:H a=some (.lst xs)):SqL K H a xs:=.inl (.inl h)
theorem SqT.of {K:X5}(h:H a=some (.tup xs)):SqT K H a xs:=.inl (.inl h)
theorem Inv.list (I:Inv X pins σ H s)(h:SqL X.K H a xs):∃b:List X9,Vals xs b/\PlainL s.heap a b.toArray/\xs.length<=Xw:=by
 rcases h with h | ⟨o,b,n,hk,c,d,f,g,r⟩
 ·obtain⟨z,b,n,r,e⟩:=h.ok I.hok;exact⟨b,r,⟨_,n,e,rfl,rfl,rfl⟩,z⟩
 ·refine⟨b.toList,r,⟨o,n,I.kIn a o hk,c,d,by simpa using f⟩,?_⟩;have e:=r.length;simp only[X2] at e;lia
theorem Inv.tuple (I:Inv X pins σ H s)(h:SqT X.K H a xs):∃b:List X9,Vals xs b/\Of s.heap a b.toArray/\xs.length<=Xw:=by
 rcases h with h | ⟨o,b,n,hk,c,d,f,r⟩
 ·obtain⟨z,b,r,p⟩:=h.ok I.hok;exact⟨b,r,p,z⟩
 ·refine⟨b.toList,r,⟨o,I.kIn a o hk,c,n,by simpa using d⟩,?_⟩;have e:=r.length;simp only[X2] at e;lia
theorem Inv.list_inj (I:Inv X pins σ H s)(h:SqL X.K H a xs)(h':SqL X.K H a ys):xs=ys:=by
 obtain⟨c,r,⟨o,n,e,_,_,d⟩,_⟩:=I.list h;obtain⟨b,j,⟨l,k,g,_,_,f⟩,_⟩:=I.list h';rw[e] at g;cases g;rw[d] at f;injection f with i _
 have:c=b:=by simpa using congrArg Array.toList i
 subst this;exact r.inj j
end
abbrev Cx.wish (X:Cx)(E:X9->X8->Prop):Cx:={ X with xe:=E }
abbrev Cx.nox (X:Cx):Cx:=X.wish fun _ _=>False
theorem Cx.Ok.wish {X:Cx}(ok:X.Ok)(E:X9->X8->Prop):(X.wish E).Ok :=
 ⟨ok.mod,ok.kind,ok.glob,ok.blt,ok.above,ok.inj,ok.has,ok.cab,ok.hd,ok.frames,ok.stk,ok.exf,ok.bs,ok.bsz,ok.noex,ok.exfs,ok.funs,ok.frf⟩
theorem Cx.Ok.unwish {X:Cx}{E:X9->X8->Prop}(ok:(X.wish E).Ok):X.Ok :=
 ⟨ok.mod,ok.kind,ok.glob,ok.blt,ok.above,ok.inj,ok.has,ok.cab,ok.hd,ok.frames,ok.stk,ok.exf,ok.bs,ok.bsz,ok.noex,ok.exfs,ok.funs,ok.frf⟩
section
variable {X:Cx}{pins:List (Addr×Obj)}{σ:St}{H:Hp}{s:X8}{E:X9->X8->Prop}
theorem Inv.wish (I:Inv X pins σ H s)(E:X9->X8->Prop):Inv (X.wish E) pins σ H s:=⟨I.ok.wish E,I.os,I.bare,I.base,I.loc,I.cell,I.free,I.freeC,I.pin,I.hok,I.len⟩
theorem Inv.unwish (I:Inv (X.wish E) pins σ H s):Inv X pins σ H s:=⟨I.ok.unwish,I.os,I.bare,I.base,I.loc,I.cell,I.free,I.freeC,I.pin,I.hok,I.len⟩
theorem SP.unwish {D:Ends}{f:Flow}{s':X8}(h:SP (X.wish E) pins D f s'):SP X pins D f s':=by
 cases f with
 | next=>obtain⟨a,b,I,q⟩:=h;exact⟨a,b,I.unwish,q⟩
 | brk=>obtain⟨a,b,I,q⟩:=h;exact⟨a,b,I.unwish,q⟩
 | cont=>obtain⟨a,b,I,q⟩:=h;exact⟨a,b,I.unwish,q⟩
 | ret u=>obtain⟨v,a,b,I,r,q⟩:=h;exact⟨v,a,b,I.unwish,r,q⟩
theorem PSs.nox {st:List Stmt}{t:TS}(h:PSs X.nox st t):PSs X st t:=fun pins s σ H D I a =>
 Ww (h pins s σ H D (I.wish _) a) (fun _ _ q=>q.unwish) fun _ _ z=>Wv z
end
section
variable {X:Cx}{st:Stmt}{rest:List Stmt}{t u:TS}{e:Expr}{te:TE}{pos:Pos}
def zpz:TS:=fun D a H=>D.nx a H
def zqF (t u:TS):TS:=fun D a H=>t { D with nx:=u D } a H
theorem zZ:PSs X [] zpz:=fun _ _ a H _ I h=>Uh ⟨a,H,I,h⟩
theorem zd (h1:PS X st t)(h2:PSs X rest u):PSs X (st::rest) (zqF t u):=by
 intro a s e H D I h;refine Si (thn (h1 a s e H { D with nx:=u D } I h) fun f s1 q=>?_);cases f with
 | next =>
  obtain⟨b,c,d,q⟩:=q;exact h2 a s1 b c D d q
 | ret v=>exact q
 | brk=>exact q
 | cont=>exact q
theorem zf (h1:PS X st t):PSs X [st] t:=by
 intro a s b H D I h;refine Si (thn (h1 a s b H D I h) fun f s1 q=>?_);cases f with
 | next=>exact Uh q
 | ret v=>exact q
 | brk=>exact q
 | cont=>exact q
theorem Inv.quiet {a:List (Addr×Obj)}{b:St}{H:Hp}{s:X8}(I:Inv X a b H s):interactive X.env=false:=by simp[interactive,I.ok.kind]
def zpA (te:TE):TS:=fun D a H=>te a H fun _ b=>D.nx a b
theorem yk (he:PE X e te)(f:Qb e none pos.line X.env=pure false:=by rfl):PS X (.Expr e pos) (zpA te):=by
 intro a s b H D I h;exact wpAny_Expr_any (thn (he a s b H _ I h) fun v s1 ⟨x,c,d,i,g⟩=>⟨b,c,d,g⟩) I.quiet f
def zqG (te:TE):TS:=fun D a H=>te a H D.rt
theorem zI (he:PE X e te):PS X (.Return (some e) pos) (zqG te):=by
 intro a s b H D I h;exact wpAny_Return_some (thn (he a s b H _ I h) fun v s1 ⟨x,c,d,g,f⟩=>⟨x,b,c,d,g,f⟩)
def zqH (c:TT)(t u:TS):TS:=fun D a H=>c a H fun b d=>if b=true then t D a d else u D a d
theorem jc {c:Expr}{a b:List Stmt}{k:TT}(n:PT X c k)(l:PSs X a t)(m:PSs X b u):PS X (.If c a b pos) (zqH k t u):=by
 intro e s f H D I h;refine wpAny_If (thn (n e s f H _ I h) fun d s1 ⟨g,i,j⟩=>?_);cases d with
 | true=>exact l e s1 f g D i j
 | false=>exact m e s1 f g D i j
def znZ:TS:=fun _ _ _=>False
theorem zj8:PS X st znZ:=fun _ _ _ _ _ _ h=>h.elim
end
abbrev TG:=V->St->Hp->(St->Hp->Prop)->Prop
abbrev TGs:=List V->St->Hp->(St->Hp->Prop)->Prop
def PG (X:Cx)(a:Expr)(t:TG):Prop :=
 ∀(b:List (Addr×Obj)) (s:X8) (e:St) (H:Hp) (v:V) (u:X9) (Q:St->Hp->Prop),Inv X b e H s->RelV v u->t v e H Q ->
  W8 (Xi X.prog X.w) X.A (OB a X.env u) (fun _ f=>∃ c d,Inv X b c d f/\Q c d) X.xe s
def PGs (X:Cx)(h:List Expr)(t:TGs):Prop :=
 ∀(a:List (Addr×Obj)) (s:X8) (f:St) (H:Hp) (e:List V) (d:List X9) (Q:St->Hp->Prop),Inv X a f H s->Vals e d->t e f H Q ->
  W8 (Xi X.prog X.w) X.A (assignInOrder ((Ti h X.env).map (·.2)) d) (fun _ g=>∃ b c,Inv X a b c g/\Q b c) X.xe s
abbrev zj9:=V->V->V->Hp->(Hp->Prop)->Prop
def zn0 (X:Cx)(t:zj9):Prop :=
 ∀(a:List (Addr×Obj)) (s:X8) (e:St) (H:Hp) (o i v:V) (d c u:X9) (Q:Hp->Prop),Inv X a e H s->RelV o d->RelV i c->RelV v u->t o i v H Q ->
  W8 (Xi X.prog X.w) X.A (setItem d c u) (fun _ f=>∃b,Inv X a e b f/\Q b) X.xe s
abbrev TIp:=V->V->Hp->VK->Prop
def PIp (X:Cx)(op:Operator)(t:TIp):Prop :=
 ∀(a:List (Addr×Obj)) (s:X8) (b:St) (H:Hp) (x y:V) (v u:X9) (Q:VK),Inv X a b H s->RelV x v->RelV y u->t x y H Q ->
  W8 (Xi X.prog X.w) X.A (inplaceOp op v u) (EP X a b Q) X.xe s
section
variable {X:Cx}{pos:Pos}
def Ja (i:Nat):TG:=fun v a H Q=>Q (a.set i (some v)) H
theorem zo {i:Nat}{x:Str}(c:X.N.Nodup)(e:X.N[i]?=some x)(f:Loc X.env.scope x)(d:X.fn x=true\/X.env.scope.names.lookup x=some .local:=by first | exact .inl rfl | exact .inr rfl | assumption):PG X (.Name x pos) (Ja i):=by
 intro a s j H v u Q I r h;exact Rr (zaa I c e f r (fun g b=>⟨_,H,b,h⟩) d)
def zqI:TGs:=fun a b H Q=>a=[]/\Q b H
def zpB (t:TG)(u:TGs):TGs:=fun c d H Q=>∃v r,c=v::r/\t v d H fun a b=>u r a b Q
theorem yp:PGs X [] zqI:=by
 intro a s b H d c Q I r h;obtain⟨e,h⟩:=h;subst e;cases r;exact assignInOrder_nil ⟨b,H,I,h⟩
theorem zV {e:Expr}{b:List Expr}{t:TG}{u:TGs}(h1:PG X e t)(h2:PGs X b u)
  (i:(Ti (e::b) X.env).map (·.2)=OB e X.env::(Ti b X.env).map (·.2):=by rfl):PGs X (e::b) (zpB t u):=by
 intro a s l H o m Q I r h;obtain⟨v,n,g,h⟩:=h;subst g;cases r with
 | cons r k =>
  rw[i];refine assignInOrder_cons (thn (h1 a s l H _ _ _ I r h) fun _ s1 ⟨c,d,f,j⟩=>?_);exact h2 a s1 c d _ _ Q f k j
def zpC (K:X5)(n:Nat)(t:TGs):TG:=fun v c H Q=>∃a b,v=.ref a/\SqT K H a b/\b.length=n/\t b c H Q
theorem JJ {d:List Expr}{k:Nat}{t:TGs}{n:Nat}(q:X.calm=true)(h:PGs X d t)
  (x:(Ti d X.env).length=n:=by rfl) (f:(Ti d X.env).findIdx? (·.1)=none:=by rfl):PG X (.Tuple d k pos) (zpC X.K n t):=by
 intro c s j H v u Q I r g;obtain⟨a,D,m,y,w,g⟩:=g;subst m;cases r;obtain⟨B,i,z,E⟩:=I.tuple y;refine assign_Tuple_tuple (I.ok.hd q) z (by simp[x,<- w,i.length]) f fun p A=>?_;have l:Inv X c j H { s with heap:=p }:=I.kept (t':=s.toks) fun b o e=>A b o (Xj (XO e)) e;exact h c _ j H D _ Q l (by simpa using i) g
def zqJ (f e:TE)(t:zj9):TG:=fun v a H Q=>f a H fun o b=>e a b fun i c=>t o i v c fun d=>Q a d
theorem zgR {o i:Expr}{f e:TE}{t:zj9}(w:PE X o f)(q:PE X i e)(z:zn0 X t)
  (p:∀v,OB (.Subscript o i pos) X.env v=(do
   let b <- Ow [v] (eval o X.env)
   let c <- Ow [v,b] (eval i X.env)
   standAt pos
   Ow [v,b,c] (setItem b c v)
   release [v,b,c] []):=by intro _;rfl):PG X (.Subscript o i pos) (zqJ f e t):=by
 intro a s d H v u Q I r h;rw[p];refine ZB (V1 (thn (w a s d H _ I h) fun b s1 ⟨x,g,l,E,A⟩=>?_));refine ZB (V1 (thn (q a s1 d g _ l A) fun c J ⟨y,j,m,G,B⟩=>?_));refine ZB (VF (ZB (V1 (thn (z a J d j x y v b c u _ m E G r B) fun _ L ⟨k,n,D⟩=>?_))));exact wpAny_release ⟨d,k,n,D⟩
def zmg (c:TE)(g:TG):TS:=fun D a H=>c a H fun x b=>g x a b D.nx
theorem zb6 {b e:Expr}{c:TE}{g:TG}(he:PE X e c)(j:PG X b g)(k:swapsWithSole [b] e pos.line X.env=pure false:=by rfl)(l:swappedStores [b] e X.env=pure none:=by rfl)
  (h1:(Ti [b] X.env).map (·.2)=[OB b X.env]:=by rfl):PS X (.Assign [b] e pos) (zmg c g):=by
 intro a s d H D I h;refine wpAny_Assign_stores (thn (he a s d H _ I h) fun v s1 ⟨x,f,i,n,m⟩=>?_) k l;rw[h1];exact thn (j a s1 d f x v _ i n m) fun _ o q=>q
theorem zv {i:Nat}{x:Str}{e:Expr}{c:TE}{a:Pos}(j:X.N.Nodup)(l:X.N[i]?=some x)(n:Loc X.env.scope x)(he:PE X e c)(m:Qb e (some (.Name x a)) pos.line X.env=pure false:=by rfl)(k:X.fn x=true\/X.env.scope.names.lookup x=some .local:=by first | exact .inl rfl | exact .inr rfl | assumption) :
  PS X (.Assign [.Name x a] e pos) (zmg c (Ja i)):=by
 intro b s q H D I h;refine wpAny_Assign_Name (thn (he b s q H _ I h) fun v s1 ⟨y,d,f,p,o⟩=>?_) m;exact zaa f j l n p (fun r g=>⟨_,d,g,o⟩) k
def zpD (n m l:TE)(a:V->V->Hp->VK->Prop)(d:TIp)(b:zj9):TS:=fun D c H=>n c H fun o e=>m c e fun i f=>a o i f fun x g=>l c g fun y h=>d x y h fun z j=>b o i z j fun k=>D.nx c k
def zpE (X:Cx)(t:V->V->Hp->VK->Prop):Prop :=
 ∀(a:List (Addr×Obj)) (s:X8) (d:St) (H:Hp) (o i:V) (c b:X9) (Q:VK),Inv X a d H s->RelV o c->RelV i b->t o i H Q ->
  W8 (Xi X.prog X.w) X.A (OT c b) (EP X a d Q) X.xe s
theorem zh8 {o i e:Expr}{u r q:TE}{c:V->V->Hp->VK->Prop}{k:TIp}{d:zj9}{op:Operator}{l:Pos}(ho:PE X o u)(hi:PE X i r)(Y:zpE X c)(he:PE X e q)(hp:PIp X op k)(hs:zn0 X d)
  (U:∀g f b,augStore i g f b=(do Ow [b,g,f] (setItem g f b);release [b,g,f] [];pure .next):=by intros;rfl):PS X (.AugAssign (.Subscript o i l) op e pos) (zpD u r q c k d):=by
 intro a s j H D I h;refine wpAny_AugAssign_SubscriptAny (thn (ho a s j H _ I h) fun g s1 ⟨w,y,J,n,q1⟩=>?_) U;refine thn (hi a s1 j y _ J q1) fun f s2 ⟨x,z,L,p,q2⟩=>?_;refine thn (Y a s2 j z w x g f _ L n p q2) fun m s3 ⟨x3,A,M,r3,q3⟩=>?_;refine thn (he a s3 j A _ M q3) fun v s4 ⟨x4,B,N,r4,q4⟩=>?_;refine thn (hp a s4 j B x3 x4 m v _ N r3 r4 q4) fun b s5 ⟨x5,E,O,r5,q5⟩=>?_;exact thn (hs a s5 j E w x x5 g f b _ O n p r5 q5) fun _ s6 ⟨G,Q,q6⟩=>⟨j,G,Q,q6⟩
def ipI (f:Int->Int->Int):TIp:=fun x y H Q=>∃i j,x=.int i/\y=.int j/\Q (.int (f i j)) H
theorem zka:PIp X .Add (ipI fun i j=>i+j):=by
 intro a s g H x y v u Q I d e h;obtain⟨i,j,b,c,q⟩:=h;subst b;subst c;obtain⟨t,rfl⟩:=d;obtain⟨f,rfl⟩:=e;exact iadd_int ⟨.int _,H,I.tok _,⟨_,rfl⟩,q⟩
end
section
variable {X:Cx}{pos:Pos}
def zn1 (c:TT)(h:TS):TS:=fun D a H=>∃W:Nat->St->Hp->Prop,(∃m,W m a H)/\∀m a H,W m a H ->
 c a H fun b f=>if b=true then ∃N:St->Hp->Prop,(∀ d e,N d e->∃g,g<m/\W g d e)/\h { D with nx:=N,ct:=N,bk:=D.nx } a f else D.nx a f
theorem zkb {c:Expr}{g:List Stmt}{L:TT}{J:TS}(G:PassesOwn (Xi X.prog X.w) X.A X.env X.xe)(Q:PT X c L)(O:PSs X g J):PS X (.While c g [] pos) (zn1 L J):=by
 intro a s σ H D I h;obtain⟨W,⟨U,w0⟩,j⟩:=h;refine wpAny_While (codeAny_whileLoop (fun n Y=>∃ k x,Inv X a k x Y/\W n k x) ?_ U ⟨σ,H,I,w0⟩);rintro n s1 ⟨e,y,M,w1⟩;refine UY G (thn (Q a s1 e y _ M (j n e y w1)) fun b s2 ⟨z,B,l⟩=>?_);cases b with
 | true =>
  obtain⟨N,E,l⟩:=l;rw[if_pos rfl];refine UY G (thn (O a s2 e z _ B l) fun f s3 m=>?_);cases f with
  | next =>
   obtain⟨d,i,o,r⟩:=m;obtain⟨q,p,u⟩:=E d i r;exact⟨q,p,d,i,o,u⟩
  | cont =>
   obtain⟨d,i,o,r⟩:=m;obtain⟨q,p,u⟩:=E d i r;exact⟨q,p,d,i,o,u⟩
  | brk=>exact m
  | ret v=>exact m
 | false =>
  rw[if_neg XY];exact Uh ⟨e,z,B,l⟩
end
structure It where
 go:Nat->Hp->Prop
 yld:Nat->Hp->V->Hp->Prop
 stop:Nat->Hp->Prop
def QN (X:Cx)(a:List (Addr×Obj))(H:Hp)(b:Addr):Prop :=
 H b=none/\b≠X.env.locals/\b ∉ X.fs/\(b∈X.ex\/X.s₀.heap.objs.size<=b)/\(∀x c,X.env.cells.lookup x=some c->c≠b)/\∀p∈X.pn++a,p.1≠b
theorem Inv.fpOk {X:Cx}{a:List (Addr×Obj)}{i:St}{H f:Hp}{s:X8}{b:Addr}(I:Inv X a i H s)(d:s.heap.objs.size<=b)(g:f b=none):QN X a f b:=by
 refine⟨g,UR (Xy I.lt d),I.nofs d,.inr (X6 I.sz d),fun x c e z=>?_,fun p h z=>?_⟩
 ·obtain⟨v,q⟩:=I.cell x c e;exact absurd (Xy q.lt (by rw[z];exact d)) (Wl _)
 ·exact absurd (Xy (XO (I.pin p h).1) (by rw[z];exact d)) (Wl _)
structure Turn (P:Xg)(w:WQ)(K:X5)(tg:Expr)(J:It)(fp:List Addr)(it:Addr)(tn:Nat->Heap->Prop):Prop where
 mem:it∈fp
 obj:∀i h,tn i h->∀b∈fp,∃o,h.get? b=some o/\∀v,o.data ≠ .cell v
 keep:∀i h h',tn i h->(∀b∈fp,∀o,h.get? b=some o->h'.get? b=some o)->tn i h'
 item:∀(X:Cx),X.prog=P->X.w=w->X.K=K->X.calm=true->∀(i:Nat) (pins:List (Addr×Obj)) (s:X8) (σ:St) (H:Hp) (E:X9->X8->Prop),Inv X pins σ H s->(∀b∈fp,QN X pins H b)->tn i s.heap->J.go i H ->
  W8 (Xi P w) X.A (RL (.ref it)) (fun r s1=>∃u,r=some u /\
   W8 (Xi P w) X.A (R3 tg (.ref it) u) (fun _ s2=>∃x H',Inv X pins σ H' s2/\RelV x u/\J.yld i H x H'/\tn (i+1) s2.heap/\∀b∈fp,H' b=none) E s1) E s
 done:∀(X:Cx),X.prog=P->X.w=w->X.K=K->X.calm=true->∀(i:Nat) (pins:List (Addr×Obj)) (s:X8) (σ:St) (H:Hp) (E:X9->X8->Prop),Inv X pins σ H s->(∀b∈fp,QN X pins H b)->tn i s.heap->J.stop i H ->
  W8 (Xi P w) X.A (RL (.ref it)) (fun r s1=>r=none/\Inv X pins σ H s1) E s
 self:∀(A:WH) (i:Nat) (s:X8) (Q:X9->X8->Prop) (E:X9->X8->Prop),tn i s.heap->Q (.ref it) s->W8 (Xi P w) A (pyIter (.ref it)) Q E s
abbrev TI:=St->Hp->(It->Hp->Prop)->Prop
def PIE (X:Cx)(a:List (Addr×Obj))(j:St)(i:Expr)(R:It->Hp->Prop)(d:X9)(g:X8):Prop :=
 ∃(f:Addr) (e:List Addr) (h:Nat->Heap->Prop) (J:It) (c:Hp),d=.ref f/\Inv X a j c g/\Turn X.prog X.w X.K i J e f h/\h 0 g.heap/\(∀b∈e,QN X a c b)/\R J c
def PI (X:Cx)(d b:Expr)(e:TI):Prop :=
 ∀(a:List (Addr×Obj)) (s:X8) (c:St) (H:Hp) (R:It->Hp->Prop),Inv X a c H s->e c H R ->
  W8 (Xi X.prog X.w) X.A (eval b X.env) (fun v s1=>W8 (Xi X.prog X.w) X.A (pyIter v) (PIE X a c d R) X.xe s1) X.xe s
theorem zns {M:Od}{A:WH}{E:X9->X8->Prop}{s:X8}{b:Expr}{it:Addr}{u:X9}{o:Obj}{n:String}{vs:Array X9}{Q:Unit->X8->Prop}(f:s.heap.get? it=some o)(c:o.cls=.type n)(d:o.data=.fields vs)
    (e:["enumerate","zip","dict_itemiterator","dict_reverseitemiterator","odict_iterator","itertools.zip_longest","itertools.pairwise"].contains n=false) (a:Q () s):W8 M A (R3 b (.ref it) u) Q E s:=by
  unfold R3;cases b<;>first
    | exact XU a
    | (cases u<;>first
        | exact XU a
        | (refine ZB (wpAny_load f ?_)
           rw[c,d]
           show W8 M A (if (["enumerate","zip","dict_itemiterator","dict_reverseitemiterator","odict_iterator","itertools.zip_longest","itertools.pairwise"].contains n&&vs[0]?==some (Ub _))=true then _ else _) Q E s
           rw[if_neg (by intro h;rw[e,UC] at h;cases h)]
           exact XU a))
def Itl (K:X5)(a:Addr):It :=
 ⟨fun i H=>∃b x,SqL K H a b/\b[i]?=some x,fun i H x c=>c=H/\∀b,SqL K H a b->b[i]?=some x,fun i H=>∃b,SqL K H a b/\b.length<=i⟩
def Itr (lo:Int)(n:Nat):It:=⟨fun i _=>i<n,fun i H x a=>a=H/\x=.int (lo+i),fun i _=>n<=i⟩
theorem zi1 {P:Xg}{w:WQ}{K:X5}{tg:Expr}(a it:Addr):Turn P w K tg (Itl K a) [it] it (fun i h=>h.IsListIter it a i) where
 mem:=by simp
 obj:=fun i h st b hb=>by
  have e:b=it:=by simpa using hb
  subst e;obtain⟨o,e,c,d⟩:=st;exact⟨o,e,fun v z=>by rw[d] at z;cases z⟩
 keep:=fun i h h' st k=>st.at fun o e=>k it (by simp) o e
 item:=by
  intro X hP hw hK hc i pins s σ H E I hf st hg;subst hP hw hK;obtain⟨xs,x,hq,hx⟩:=hg;obtain⟨its,rv,p,hz⟩:=I.list hq;obtain⟨u,hu,ru⟩:=rv.get hx;obtain⟨f0,f1,f2,f3,f4,f5⟩:=hf it (by simp);refine wpAny_pyNext_list_item st p.isList (x:=u) (by simpa using hu) fun h' st' sb=>?_;have I1:Inv X pins σ H { s with heap:=h' }:=I.turned (t':=s.toks) (fun b o hb e=>(sb.2 b hb).trans e) f0 f1 f3 f4 f5;obtain⟨o,e,c,d⟩:=id st';exact⟨u,rfl,zns (s:={ s with heap:=h' }) e c d (by decide) ⟨x,H,I1,ru,⟨rfl,fun ys hy=>by rw[I.list_inj hy hq];exact hx⟩,st',fun b hb=>(hf b hb).1⟩⟩
 done:=by
  intro X hP hw hK hc i pins s σ H E I hf st hg;subst hP hw hK;obtain⟨xs,hq,hx⟩:=hg;obtain⟨its,rv,p,hz⟩:=I.list hq;obtain⟨f0,f1,f2,f3,f4,f5⟩:=hf it (by simp);have hl:=rv.length;exact wpAny_pyNext_list_end (I.ok.hd hc) st p.isList (by simp;lia) fun h' eb=>⟨rfl,I.turned (t':=s.toks) (fun b o hb e=>eb b o hb e) f0 f1 f3 f4 f5⟩
 self:=fun _ _ _ _ _ st h=>wpAny_pyIter_listiter st h
theorem zgS {P:Xg}{w:WQ}{K:X5}{tg:Expr}(it:Addr)(lo:Int)(n:Nat):Turn P w K tg (Itr lo n) [it] it (fun i h=>IsRangeIter h it (lo+(i:Nat)*1) ((n:Int)-(i:Nat)) 1) where
 mem:=by simp
 obj:=fun i h st b hb=>by
  have e:b=it:=by simpa using hb
  subst e;exact⟨_,st,fun v z=>by
   have z':Data.fields _=Data.cell v:=z;cases z'⟩
 keep:=fun i h h' st k=>k it (by simp) _ st
 item:=by
  intro X hP hw hK hc i pins s σ H E I hf st hg;subst hP hw hK;obtain⟨f0,f1,f2,f3,f4,f5⟩:=hf it (by simp);have W:=Walks.range (prog:=X.prog) (w:=X.w) (I.ok.hd hc) it lo 1 n;refine W.item i s _ _ hg st fun v h' tk hv st' kk=>?_;obtain⟨t,rfl⟩:=hv;have I1:Inv X pins σ H { s with heap:=h',toks:=tk }:=I.turned (fun b o hb e=>kk b o (by simpa using hb) e) f0 f1 f3 f4 f5;refine⟨_,rfl,zns (s:={ s with heap:=h',toks:=tk }) (n:="range_iterator") st' rfl rfl (by decide) ⟨.int (lo+i),H,I1,⟨t,?_⟩,⟨rfl,rfl⟩,st',fun b hb=>(hf b hb).1⟩⟩;rw[Int.mul_one]
 done:=by
  intro X hP hw hK hc i pins s σ H E I hf st hg;subst hP hw hK;obtain⟨f0,f1,f2,f3,f4,f5⟩:=hf it (by simp);exact wpAny_pyNext_range_end (I.ok.hd hc) st (by have:n<=i:=hg;lia) fun h' eb=>⟨rfl,I.turned (t':=s.toks) (fun b o hb e=>eb b o hb e) f0 f1 f3 f4 f5⟩
 self:=fun _ _ _ _ _ st h=>wpAny_pyIter_rangeiter st h
section
variable {X:Cx}{tg:Expr}
def znt (K:X5)(tl:TE):TI:=fun d H R=>tl d H fun x b=>∃a,x=.ref a/\(∃c,SqL K b a c)/\R (Itl K a) b
theorem zM {l:Expr}{tl:TE}(i:PE X l tl):PI X tg l (znt X.K tl):=by
 intro c s r H R I h;refine thn (i c s r H _ I h) fun v s1 ⟨x,f,d,n,m⟩=>?_;obtain⟨a,e,⟨y,j⟩,q⟩:=m;subst e;cases n;obtain⟨k,w,p,u⟩:=d.list j;refine SJ p.isList ?_;refine⟨s1.heap.objs.size,[s1.heap.objs.size],_,_,f,rfl,d.kept (t':=s1.toks) fun b o e=>X0 _ e,zi1 a _,⟨_,W9 _ rfl,rfl,rfl⟩,fun b g=>?_,q⟩;have e:b=s1.heap.objs.size:=by simpa using g
 subst e;exact d.fpOk (XV _) (d.hok.fresh (XV _))
theorem zfr {c:List (Addr×Obj)}{f:St}{H:Hp}{s:X8}{R:It->Hp->Prop}{E:X9->X8->Prop}{lo a:Int}{t u v:Tok}{tk:Nat}(I:Inv X c f H s)(h1:-(2^62)<=lo)(h2:lo<2^62)(i:-(2^62)<=a)(j:a<2^62)
  (q:R (Itr lo (a-lo).toNat) H):W8 (Xi X.prog X.w) X.A (pyIter (.ref s.heap.objs.size)) (PIE X c f tg R) E { s with heap:=s.heap.push { cls:=.type "range",data:=.fields #[.int lo t,.int a u,.int 1 v] },toks:=tk }:=by
 refine wpAny_pyIter_range (IsRange.new ..) (small_one h1 h2 i j) ?_;have d:Inv X c f H { s with heap:=s.heap.push { cls:=.type "range",data:=.fields #[.int lo t,.int a u,.int 1 v] },toks:=tk }:=I.kept fun b o e=>X0 _ e;refine⟨(s.heap.push { cls:=.type "range",data:=.fields #[.int lo t,.int a u,.int 1 v] }).objs.size,[(s.heap.push { cls:=.type "range",data:=.fields #[.int lo t,.int a u,.int 1 v] }).objs.size],_,_,H,rfl,
  d.kept (t':=tk) fun b o e=>X0 _ e,zgS _ lo (a-lo).toNat,?_,fun b k=>?_,q⟩
 ·have g:lo+((0:Nat):Int)*1=lo:=by simp
  have h:(((a-lo).toNat:Nat):Int)-((0:Nat):Int)=Builtin.Range.rangeSize lo a 1:=by rw[rangeSize_one];split<;>lia
  show IsRangeIter _ _ (lo+((0:Nat):Int)*1) ((((a-lo).toNat:Nat):Int)-((0:Nat):Int)) 1;rw[g,h];exact W9 _ rfl
 ·have e:b=(s.heap.push { cls:=.type "range",data:=.fields #[.int lo t,.int a u,.int 1 v] }).objs.size:=by simpa using k
  subst e;exact d.fpOk (XV _) (d.hok.fresh (XV _))
def zpF (b:TA):TI:=fun d H R=>b d H fun c a=>∃j:Int,c=[.int j]/\-(2^62)<=j/\j<2^62/\R (Itr 0 j.toNat) a
def zpG (b:TA):TI:=fun d H R=>b d H fun c a=>∃i j:Int,c=[.int i,.int j]/\(-(2^62)<=i/\i<2^62/\-(2^62)<=j/\j<2^62)/\R (Itr i (j-i).toNat) a
theorem qN {a:Expr}{d:TA}{p pos:Pos}(i:Gl X "range")(k:X.mg "range"=none)(g:PA X [a] d)(l:WA [a] X.env=[(false,eval a X.env)]:=by rfl):PI X tg (.Call (.Name "range" p) [a] [] pos) (zpF d):=by
 intro b s u H R I h;refine Call_ (YA I i k boot_range (VV (thn (g pos b s u H _ I h) fun w s1 ⟨x,v,f,n,c⟩=>?_) l rfl));obtain⟨j,e,c,m,q⟩:=c;subst e;cases n with
 | cons r o =>
  cases o;obtain⟨t,rfl⟩:=r;exact call_range_1 (zfr f (by lia) (by lia) c m (by simpa using q))
theorem Y7 {a b:Expr}{k:TA}{p pos:Pos}(n:Gl X "range")(o:X.mg "range"=none)(m:PA X [a,b] k)(u:WA [a,b] X.env=[(false,eval a X.env),(false,eval b X.env)]:=by rfl)(c:WA [b] X.env=[(false,eval b X.env)]:=by rfl) :
  PI X tg (.Call (.Name "range" p) [a,b] [] pos) (zpG k):=by
 intro d s A H R I h;refine Call_ (YA I n o boot_range (VV (thn (m pos d s A H _ I h) fun E s1 ⟨G,B,l,z,f⟩=>?_) (by rw[u,c]) (by rw[c];rfl)));obtain⟨i,j,e,⟨f,v,w,x⟩,q⟩:=f;subst e;cases z with
 | cons r g =>
  cases g with
  | cons y g =>
   cases g;obtain⟨t,rfl⟩:=r;obtain⟨D,rfl⟩:=y;exact call_range_2 (zfr l f v w x q)
def zqK (k:TI)(g:TG)(j:TS):TS:=fun D a H=>k a H fun J f=>∃W:Nat->Nat->St->Hp->Prop,(∃m,W 0 m a f)/\∀i m a H,W i m a H ->
 (J.stop i H/\D.nx a H)\/(J.go i H/\∃N:St->Hp->Prop,(∀ c b,N c b->∃e,e<m/\W (i+1) e c b)/\∀x b,J.yld i H x b->g x a b fun d h=>j { D with nx:=N,ct:=N,bk:=D.nx } d h)
def YB (fp:List Addr)(h:Heap):List (Addr×Obj):=fp.filterMap fun b=>(h.get? b).map fun o=>(b,o)
theorem ju {fp:List Addr}{h:Heap}{b:Addr}{o:Obj}(a:b∈fp)(e:h.get? b=some o):(b,o)∈YB fp h:=Tf.mpr ⟨b,a,by rw[e];rfl⟩
theorem zi2 {fp:List Addr}{h:Heap}{p:Addr×Obj}(d:p∈YB fp h):p.1∈fp/\h.get? p.1=some p.2:=by
 obtain⟨b,c,e⟩:=Tf.mp d;cases q:h.get? b with
 | none=>rw[q] at e;cases e
 | some o =>
  rw[q] at e;have a:(b,o)=p:=Option.some.inj e;subst a;exact⟨c,q⟩
theorem Inv.pinned {a:List (Addr×Obj)}{g:St}{H:Hp}{s:X8}{fp:List Addr}(I:Inv X a g H s)(k:∀b∈fp,QN X a H b)(l:∀b∈fp,∃o,s.heap.get? b=some o/\∀v,o.data ≠ .cell v):Inv X (a++YB fp s.heap) g H s :=
 I.pins_of fun p m=>(XF.mp m).elim (fun z=>I.pin p (XD _ z)) fun z=>by
  obtain⟨f,e⟩:=zi2 z;obtain⟨h,i,j,_⟩:=k p.1 f;obtain⟨o,c,d⟩:=l p.1 f;rw[e] at c;cases c;exact⟨e,h,i,j,d⟩
theorem Inv.unpinned {a d:List (Addr×Obj)}{b:St}{H:Hp}{s:X8}(I:Inv X (a++d) b H s):Inv X a b H s:=I.pins_of fun p c=>I.pin p (XD _ (WW _ c))
theorem qw {p:Expr}{E:List Stmt}{wi:TI}{g:TG}{tb:TS}{pos:Pos}(Q:PassesOwn (Xi X.prog X.w) X.A X.env X.xe)(hc:X.calm=true)(hi:PI X tg p wi)(hg:PG X tg g)(l:PSs X E tb)
  (hs:∀x,T6 p X.env x=pure x:=by intro _;rfl):PS X (.For tg p E [] pos) (zqK wi g tb):=by
 intro a s σ H D I h;refine wpAny_For (thn (hi a s σ H _ I h) fun v s1 h1=>thn h1 fun ah s2 h2=>?_) hs;obtain⟨it,M,tn,J,H2,e,I2,T,af,f2,W,⟨m0,w0⟩,ab⟩:=h2;subst e;have q:∀{B:Hp},(∀b∈M,B b=none)->∀b∈M,QN X a B b:=fun hn b l=>⟨hn b l,(f2 b l).2⟩;refine codeAny_forLoop_any (fun n s'=>∃i y B,Inv X a y B s'/\tn i s'.heap/\(∀b∈M,B b=none)/\W i n y B) ?_ m0 ⟨0,σ,H2,I2,af,fun b l=>(f2 b l).1,w0⟩;rintro n s3 ⟨i,z,H3,I3,Y,O,w3⟩;rcases ab i n z H3 w3 with ⟨aa,qn⟩ | ⟨go,N,hN,step⟩
 ·refine UY Q (thn (T.done X rfl rfl rfl hc i a s3 z H3 X.xe I3 (q O) Y aa) fun r s4 ⟨hr,I4⟩=>?_);subst hr;exact Uh ⟨z,H3,I4,qn⟩
 ·refine UY Q (thn (T.item X rfl rfl rfl hc i a s3 z H3 X.xe I3 (q O) Y go) fun r s4 ⟨u,hr,h4⟩=>?_);subst hr;refine UY Q (thn h4 fun _ s5 ⟨x,H5,I5,r5,y5,L,ae⟩=>?_);have ac:=I5.pinned (q ae) (T.obj _ _ L);refine UY Q (thn (hg _ s5 z H5 x u _ ac r5 (step x H5 y5)) fun _ s6 ⟨ag,H6,I6,q6⟩=>?_);refine UY Q (thn (l _ s6 ag H6 _ I6 q6) fun f s7 G=>?_);have R8:∀{c:St} {j:Hp},Inv X (a++YB M s5.heap) c j s7->N c j->∃m,m<n/\∃i y B,Inv X a y B s7/\tn i s7.heap/\(∀b∈M,B b=none)/\W i m y B:=fun {c j} k U=>by
   obtain⟨m',hm,w7⟩:=hN c j U;refine⟨m',hm,i+1,c,j,k.unpinned,T.keep _ _ _ L fun b l o e=>(k.pin (b,o) (XD _ (XD _ (ju l e)))).1,fun b l=>?_,w7⟩;obtain⟨o,e,d⟩:=T.obj _ _ L b l;exact(k.pin (b,o) (XD _ (XD _ (ju l e)))).2.1
  cases f with
  | next=>obtain⟨c,j,k,U⟩:=G;exact R8 k U
  | cont=>obtain⟨c,j,k,U⟩:=G;exact R8 k U
  | brk=>obtain⟨c,j,k,G⟩:=G;exact⟨c,j,k.unpinned,G⟩
  | ret v=>obtain⟨x7,c,j,k,r7,G⟩:=G;exact⟨x7,c,j,k.unpinned,r7,G⟩
end
theorem yY {K:X5}{a:Addr}{xs:List V}{g:TG}{l:TS}{D:Ends}{b:St}{H:Hp}(Pv:Nat->St->Hp->Prop)(h0:Pv 0 b H)(r:∀i b H,i<=xs.length->Pv i b H->SqL K H a xs)
  (s:∀i x b H,xs[i]?=some x->Pv i b H->g x b H fun f j=>l { D with nx:=Pv (i+1),ct:=Pv (i+1),bk:=D.nx } f j) (n:∀ b H,Pv xs.length b H->D.nx b H) :
  ∃W:Nat->Nat->St->Hp->Prop,(∃m,W 0 m b H)/\∀i m b H,W i m b H ->
   ((Itl K a).stop i H/\D.nx b H)\/((Itl K a).go i H/\∃N:St->Hp->Prop,(∀ d c,N d c->∃k,k<m/\W (i+1) k d c)/\∀x c,(Itl K a).yld i H x c->g x b c fun f j=>l { D with nx:=N,ct:=N,bk:=D.nx } f j):=by
 refine⟨fun i m b H=>m=xs.length-i/\i<=xs.length/\Pv i b H,⟨xs.length,by simp,W5 _,h0⟩,?_⟩;rintro i m b H ⟨rfl,o,p⟩;have q:=r i b H o p;by_cases h:i<xs.length
 ·refine .inr ⟨⟨xs,xs[i],q,by simp[h]⟩,Pv (i+1),fun d c u=>⟨xs.length-(i+1),by lia,rfl,h,u⟩,fun x c y=>?_⟩;obtain⟨e,y⟩:=y;subst e;exact s i x b _ (y xs q) p
 ·have e:i=xs.length:=by lia
  subst e;exact .inl ⟨⟨xs,q,XV _⟩,n b H p⟩
theorem qD {lo:Int}{n:Nat}{g:TG}{k:TS}{D:Ends}{a:St}{H:Hp}(Pv:Nat->St->Hp->Prop)(h0:Pv 0 a H)
  (o:∀i a H,i<n->Pv i a H->g (.int (lo+i)) a H fun f h=>k { D with nx:=Pv (i+1),ct:=Pv (i+1),bk:=D.nx } f h) (l:∀ a H,Pv n a H->D.nx a H) :
  ∃W:Nat->Nat->St->Hp->Prop,(∃m,W 0 m a H)/\∀i m a H,W i m a H ->
   ((Itr lo n).stop i H/\D.nx a H)\/((Itr lo n).go i H/\∃N:St->Hp->Prop,(∀ d b,N d b->∃j,j<m/\W (i+1) j d b)/\∀x b,(Itr lo n).yld i H x b->g x a b fun f h=>k { D with nx:=N,ct:=N,bk:=D.nx } f h):=by
 refine⟨fun i m a H=>m=n-i/\i<=n/\Pv i a H,⟨n,by simp,W5 _,h0⟩,?_⟩;rintro i m a H ⟨rfl,r,p⟩;by_cases c:i<n
 ·refine .inr ⟨c,Pv (i+1),fun d b q=>⟨n-(i+1),by lia,rfl,c,q⟩,fun x b y=>?_⟩;obtain⟨e,y⟩:=y;subst e y;exact o i a _ c p
 ·have e:i=n:=by lia
  subst e;exact .inl ⟨XV _,l a H p⟩
abbrev R2:=V->V->Hp->VK->Prop
def OpR (X:Cx)(f:X9->X9->Sem X9)(r:R2):Prop :=
 ∀(a:List (Addr×Obj)) (s:X8) (b:St) (H:Hp) (x y:V) (v u:X9) (Q:VK),Inv X a b H s->RelV x v->RelV y u->r x y H Q ->
  W8 (Xi X.prog X.w) X.A (f v u) (EP X a b Q) X.xe s
def UnR (X:Cx)(f:X9->Sem X9)(r:V->Hp->VK->Prop):Prop :=
 ∀(a:List (Addr×Obj)) (s:X8) (b:St) (H:Hp) (x:V) (v:X9) (Q:VK),Inv X a b H s->RelV x v->r x H Q ->
  W8 (Xi X.prog X.w) X.A (f v) (EP X a b Q) X.xe s
def jY (X:Cx)(f:X9)(r:List V->Hp->VK->Prop):Prop :=
 ∀(a:List (Addr×Obj)) (s:X8) (d:St) (H:Hp) (c:List V) (b:List X9) (Q:VK),Inv X a d H s->Vals c b->r c H Q ->
  W8 (Xi X.prog X.w) X.A (call f b) (EP X a d Q) X.xe s
def zqL (X:Cx)(r:V->Hp->(Bool->Hp->Prop)->Prop):Prop :=
 ∀(a:List (Addr×Obj)) (s:X8) (b:St) (H:Hp) (x:V) (v:X9) (Q:Bool->Hp->Prop),Inv X a b H s->RelV x v->r x H Q ->
  W8 (Xi X.prog X.w) X.A (truthy v) (TP X a b Q) X.xe s
def tOp (r:R2)(d e:TE):TE:=fun a H Q=>d a H fun x b=>e a b fun y c=>r x y c Q
def tUn (r:V->Hp->VK->Prop)(b:TE):TE:=fun c H Q=>b c H fun x a=>r x a Q
def rI (C:Int->Int->Prop)(g:Int->Int->V):R2:=fun x y H Q=>∃i j,x=.int i/\y=.int j/\C i j/\Q (g i j) H
def rI0 (g:Int->Int->V):R2:=fun x y H Q=>∃i j,x=.int i/\y=.int j/\Q (g i j) H
def rU (g:Int->V):V->Hp->VK->Prop:=fun x H Q=>∃i,x=.int i/\Q (g i) H
section
variable {X:Cx}{a b c:Expr}{ta tb tc:TE}{pos:Pos}
theorem zn2 (n:PE X a ta)(o:PE X b tb){c:List (Addr×Obj)}{s:X8}{e:St}{H:Hp}{R:V->V->Hp->Prop}(I:Inv X c e H s)
  (h:ta e H fun x k=>tb e k fun y d=>R x y d) {Q:X9->X8->Prop} {f:X9->X9->Sem X9}
  (p:∀v u j x y d,Inv X c e d j->RelV x v->RelV y u->R x y d->W8 (Xi X.prog X.w) X.A (f v u) Q X.xe j) :
  W8 (Xi X.prog X.w) X.A (eval a X.env) (fun v g=>W8 (Xi X.prog X.w) X.A (eval b X.env) (fun u i=>W8 (Xi X.prog X.w) X.A (f v u) Q X.xe i) X.xe g) X.xe s:=by
 refine thn (n c s e H _ I h) fun v s1 ⟨x,k,l,z,q⟩=>?_;refine thn (o c s1 e k _ l q) fun u j ⟨y,d,m,B,r⟩=>?_;exact p v u j x y d m z B r
theorem zx {op:Operator}{r:R2}(i:OpR X (Uj op) r)(f:PE X a ta)(g:PE X b tb):PE X (.BinOp a op b pos) (tOp r ta tb):=by
 intro c s m H Q I h;exact wpAny_BinOp (zn2 f g I h fun v u l x y d e j k q=>i c l m d x y v u Q e j k q)
theorem zpH {op:UnaryOp}{r:V->Hp->VK->Prop}(g:UnR X (unaryOp op) r)(f:PE X a ta):PE X (.UnaryOp op a pos) (tUn r ta):=by
 intro b s c H Q I h;exact UnaryOp_ (thn (f b s c H _ I h) fun v s1 ⟨x,d,e,j,i⟩=>g b s1 c d x v Q e j i)
theorem opI {f:X9->X9->Sem X9}{C:Int->Int->Prop}{g:Int->Int->Int}
  (rule:∀(i j:Int) (t u:Tok) (s:X8) (Q:X9->X8->Prop) (E:X9->X8->Prop),C i j->Q (.int (g i j) s.toks) { s with toks:=s.toks+1 }->W8 (Xi X.prog X.w) X.A (f (.int i t) (.int j u)) Q E s) :
  OpR X f (rI C fun i j=>.int (g i j)):=by
 intro a s k H x y v u Q I c d h;obtain⟨i,j,rfl,rfl,b,q⟩:=h;obtain⟨t,rfl⟩:=c;obtain⟨e,rfl⟩:=d;exact rule i j t e s _ _ b ⟨.int (g i j),H,I.tok _,⟨_,rfl⟩,q⟩
theorem zpI {f:X9->X9->Sem X9}{g:Int->Int->Int}
  (rule:∀(i j:Int) (t u:Tok) (s:X8) (Q:X9->X8->Prop) (E:X9->X8->Prop),Q (.int (g i j) s.toks) { s with toks:=s.toks+1 }->W8 (Xi X.prog X.w) X.A (f (.int i t) (.int j u)) Q E s) :
  OpR X f (rI0 fun i j=>.int (g i j)):=by
 intro a s e H x y v u Q I b c h;obtain⟨i,j,rfl,rfl,q⟩:=h;obtain⟨t,rfl⟩:=b;obtain⟨d,rfl⟩:=c;exact rule i j t d s _ _ ⟨.int (g i j),H,I.tok _,⟨_,rfl⟩,q⟩
theorem zn3 {f:X9->X9->Sem X9}{g:Int->Int->Bool}
  (rule:∀(i j:Int) (t u:Tok) (s:X8) (Q:X9->X8->Prop) (E:X9->X8->Prop),Q (.bool (g i j)) s->W8 (Xi X.prog X.w) X.A (f (.int i t) (.int j u)) Q E s) :
  OpR X f (rI0 fun i j=>.bl (g i j)):=by
 intro a s e H x y v u Q I b c h;obtain⟨i,j,rfl,rfl,q⟩:=h;obtain⟨t,rfl⟩:=b;obtain⟨d,rfl⟩:=c;exact rule i j t d s _ _ ⟨.bl (g i j),H,I,rfl,q⟩
def zqM (i j:Int):Prop:=0<j/\j<1073741824
theorem zn4:OpR X (Uj .Add) (rI0 fun i j=>.int (i+j)):=zpI fun _ _ _ _ _ _ _ q=>add_int q
theorem zn5:OpR X (Uj .Sub) (rI0 fun i j=>.int (i-j)):=zpI fun _ _ _ _ _ _ _ q=>sub_int q
theorem zn6:OpR X (Uj .Mod) (rI (fun _ j=>0<j) fun i j=>.int (i%j)):=opI fun i j _ _ _ _ _ a q=>by
 have h1:(0:Int)<j:=a;exact mod_int' (by lia) (by rw[RC i (by lia)];exact q)
theorem unI {f:X9->Sem X9}{g:Int->Int}
  (rule:∀(i:Int) (t:Tok) (s:X8) (Q:X9->X8->Prop) (E:X9->X8->Prop),Q (.int (g i) s.toks) { s with toks:=s.toks+1 }->W8 (Xi X.prog X.w) X.A (f (.int i t)) Q E s) :
  UnR X f (rU fun i=>.int (g i)):=by
 intro a s c H x v Q I b h;obtain⟨i,rfl,q⟩:=h;obtain⟨t,rfl⟩:=b;exact rule i t s _ _ ⟨.int (g i),H,I.tok _,⟨_,rfl⟩,q⟩
theorem zn7:UnR X (unaryOp .USub) (rU fun i=>.int (-i)):=unI fun _ _ _ _ _ q=>neg_int q
end
def zpJ:V->V->Bool
 | .non,.non=>true | .non,.int _=>true | .int _,.non=>true | .non,.bl _=>true | .bl _,.non=>true | .non,.str _=>true | .str _,.non=>true
 | .int _,.int _=>true | .bl _,.bl _=>true | .str _,.str _=>true | .byt _,.byt _=>true
 | .int _,.str _=>true | .str _,.int _=>true | .bl _,.str _=>true | .str _,.bl _=>true
 | _,_=>false
def rEq:R2:=fun x y H Q=>zpJ x y=true/\Q (.bl (decide (x=y))) H
def rNe:R2:=fun x y H Q=>zpJ x y=true/\Q (.bl (!decide (x=y))) H
theorem zeB {i j:Int}:decide (V.int i=V.int j)=(i==j):=by
 rw[Wz];simp
theorem zkc {i j:Bool}:decide (V.bl i=V.bl j)=(i==j):=by
 rw[Wz];simp
theorem zh9 {i j:Str}:decide (V.str i=V.str j)=(i==j):=by
 rw[Wz];simp
theorem zia {i j:Array UInt8}:decide (V.byt i=V.byt j)=(i.toList==j.toList):=by
 rw[Wz];cases i;cases j;simp
section
variable {X:Cx}{a b c:Expr}{ta tb tc:TE}{pos:Pos}
theorem qp {a:List (Addr×Obj)}{c:St}{H:Hp}{s:X8}{Q:VK}{k b:Bool}(I:Inv X a c H s)(q:Q (.bl k) H)(e:k=b):EP X a c Q (.bool b) s:=by
 subst e;exact⟨.bl k,H,I,rfl,q⟩
theorem JK:OpR X (V9 .Eq) rEq:=by
 intro e s f H x y v u Q I d a h;obtain⟨c,q⟩:=h;cases x with
 | non =>
  cases d;cases y with
  | non=>cases a;exact PySem.EqNone.eq_none_none (qp I q (by simp))
  | bl j=>cases a;exact PySem.EqNone.eq_none_bool (qp I q (by simp))
  | int j=>obtain⟨b,rfl⟩:=a;exact PySem.EqNone.eq_none_int (qp I q (by simp))
  | str j=>obtain⟨b,rfl⟩:=a;exact PySem.EqNone.eq_none_str (qp I q (by simp))
  | _=>exact absurd (show false=true from c) XY
 | bl i =>
  cases d;cases y with
  | non=>cases a;exact PySem.EqNone.eq_bool_none (qp I q (by simp))
  | bl j=>cases a;exact eq_bool (qp I q zkc)
  | str j=>obtain⟨b,rfl⟩:=a;exact PySem.EqMixed.eq_bool_str (qp I q (by simp))
  | _=>exact absurd (show false=true from c) XY
 | int i =>
  obtain⟨t,rfl⟩:=d;cases y with
  | non=>cases a;exact PySem.EqNone.eq_int_none (qp I q (by simp))
  | int j=>obtain⟨b,rfl⟩:=a;exact eq_int (qp I q zeB)
  | str j=>obtain⟨b,rfl⟩:=a;exact PySem.EqMixed.eq_int_str (qp I q (by simp))
  | _=>exact absurd (show false=true from c) XY
 | str i =>
  obtain⟨t,rfl⟩:=d;cases y with
  | non=>cases a;exact PySem.EqNone.eq_str_none (qp I q (by simp))
  | bl j=>cases a;exact PySem.EqMixed.eq_str_bool (qp I q (by simp))
  | int j=>obtain⟨b,rfl⟩:=a;exact PySem.EqMixed.eq_str_int (qp I q (by simp))
  | str j=>obtain⟨b,rfl⟩:=a;exact eq_str (qp I q zh9)
  | _=>exact absurd (show false=true from c) XY
 | byt i =>
  obtain⟨t,rfl⟩:=d;cases y with
  | byt j=>obtain⟨b,rfl⟩:=a;exact PySem.W.eq_bytes (qp I q zia)
  | _=>exact absurd (show false=true from c) XY
 | _=>cases y<;>exact absurd (show false=true from c) XY
theorem Qy:OpR X (V9 .NotEq) rNe:=by
 intro e s f H x y v u Q I d a h;obtain⟨c,q⟩:=h;cases x with
 | non =>
  cases d;cases y with
  | non=>cases a;exact PySem.EqNone.ne_none_none (qp I q (by simp))
  | bl j=>cases a;exact PySem.EqNone.ne_none_bool (qp I q (by simp))
  | int j=>obtain⟨b,rfl⟩:=a;exact PySem.EqNone.ne_none_int (qp I q (by simp))
  | str j=>obtain⟨b,rfl⟩:=a;exact PySem.EqNone.ne_none_str (qp I q (by simp))
  | _=>exact absurd (show false=true from c) XY
 | bl i =>
  cases d;cases y with
  | non=>cases a;exact PySem.EqNone.ne_bool_none (qp I q (by simp))
  | bl j=>cases a;exact ne_bool (qp I q (congrArg not zkc))
  | str j=>obtain⟨b,rfl⟩:=a;exact PySem.EqMixed.ne_bool_str (qp I q (by simp))
  | _=>exact absurd (show false=true from c) XY
 | int i =>
  obtain⟨t,rfl⟩:=d;cases y with
  | non=>cases a;exact PySem.EqNone.ne_int_none (qp I q (by simp))
  | int j=>obtain⟨b,rfl⟩:=a;exact ne_int (qp I q (congrArg not zeB))
  | str j=>obtain⟨b,rfl⟩:=a;exact PySem.EqMixed.ne_int_str (qp I q (by simp))
  | _=>exact absurd (show false=true from c) XY
 | str i =>
  obtain⟨t,rfl⟩:=d;cases y with
  | non=>cases a;exact PySem.EqNone.ne_str_none (qp I q (by simp))
  | bl j=>cases a;exact PySem.EqMixed.ne_str_bool (qp I q (by simp))
  | int j=>obtain⟨b,rfl⟩:=a;exact PySem.EqMixed.ne_str_int (qp I q (by simp))
  | str j=>obtain⟨b,rfl⟩:=a;exact ne_str (qp I q (congrArg not zh9))
  | _=>exact absurd (show false=true from c) XY
 | byt i =>
  obtain⟨t,rfl⟩:=d;cases y with
  | byt j=>obtain⟨b,rfl⟩:=a;exact PySem.W.ne_bytes (qp I q (congrArg not zia))
  | _=>exact absurd (show false=true from c) XY
 | _=>cases y<;>exact absurd (show false=true from c) XY
theorem zpK:OpR X (V9 .Lt) (rI0 fun i j=>.bl (decide (i<j))):=zn3 fun _ _ _ _ _ _ _ q=>lt_int q
theorem zpL:OpR X (V9 .LtE) (rI0 fun i j=>.bl (decide (i<=j))):=zn3 fun _ _ _ _ _ _ _ q=>le_int q
theorem zpM:OpR X (V9 .Gt) (rI0 fun i j=>.bl (decide (j<i))):=zn3 fun _ _ _ _ _ _ _ q=>gt_int q
theorem zmh:OpR X (V9 .IsNot) (fun x y H Q=>y=.non/\Q (.bl (!decide (x=.non))) H):=by
 intro a s d H x y v u Q I b c h;obtain⟨rfl,q⟩:=h;cases c;refine isnot_none_gen (qp I q ?_);cases x<;>first
  | (cases b;rfl)
  | (obtain⟨t,rfl⟩:=b;rfl)
theorem zQ (b:Expr){op:CmpOp}(h:op ≠ .In:=by decide)(h2:op ≠ .NotIn:=by decide):Rm op b=false:=by
 have a:(op==CmpOp.In)=false:=by cases op<;>first | rfl | exact absurd rfl h
 have c:(op==CmpOp.NotIn)=false:=by cases op<;>first | rfl | exact absurd rfl h2
 cases b<;>simp[Rm,a,c]
theorem Jx {op:CmpOp}{r:R2}(j:OpR X (V9 op) r)(f:PE X a ta)(g:PE X b tb)(i:Rm op b=false):PE X (.Compare a [op] [b] pos) (tOp r ta tb):=by
 intro c s n H Q I h;exact wpAny_Compare1 (zn2 f g I h fun v u m x y d e k l q=>j c m n d x y v u Q e k l q) i
def zpN (t:TE):TT:=fun b H Q=>t b H fun x a=>∃k,x=.bl k/\Q k a
def zn8 (r f:R2)(ta tb tc:TE):TE:=fun a H Q=>ta a H fun x c=>tb a c fun y d=>r x y d fun z b=>∃k,z=.bl k /\
 (if k=true then tc a b fun g e=>f y g e Q else Q (.bl false) b)
theorem zfs {op g:CmpOp}{r o:R2}(ho:OpR X (V9 op) r)(j:OpR X (V9 g) o)(N:PE X a ta)(O:PE X b tb)(U:PE X c tc)
  (Y:lastMarks [op,g] [b,c]=false:=by with_unfolding_all rfl):PT X (.Compare a [op,g] [b,c] pos) (zpN (zn8 r o ta tb tc)):=by
 intro f s i H Q I h;refine isTrue_chain (thn (N f s i H _ I h) fun v s1 ⟨x,q,D,r1,q1⟩=>test_link (thn (O f s1 i q _ D q1) fun u s2 ⟨y,w,E,p,q2⟩ =>
  thn (ho f s2 i w x y v u _ E r1 p q2) fun d s3 ⟨z,l,m,r3,k,e,n⟩=>?_)) Y
 subst e;cases r3;refine Vh ?_;cases k with
 | false =>
  obtain⟨k',L,q'⟩:=n;cases L;exact ite_ff ⟨l,m,q'⟩
 | true =>
  refine ite_tt (test_last (thn (U f s3 i l _ m n) fun w' s4 ⟨z',A,G,r4,q4⟩=>thn (j f s4 i A y z' u w' _ G p r4 q4) fun d' s5 ⟨z2,B,J,r5,k2,M,q5⟩=>?_));subst M;cases r5;exact Vh ⟨B,J,q5⟩
def zn9 (K:X5)(x:V)(H:Hp)(k:Bool):Prop :=
 match x with
 | .non=>k=false
 | .bl b=>k=b
 | .int i=>k=(i != 0)
 | .str y=>y.length<=Xw/\k=((y.length:Int) != 0)
 | .byt y=>y.size<=Xw/\k=((y.size:Int) != 0)
 | .ref p=>(∃c,SqL K H p c/\k=!c.isEmpty)\/(∃c,SqT K H p c/\k=!c.isEmpty)\/∃a,H p=some (.dK a)/\k=!a.isEmpty
 | _=>False
theorem zgT {b:Type}{a:List (b × V)}{vs:List (b × X9)}(r:KV a vs):(!vs.isEmpty)=!a.isEmpty:=by
 cases r<;>rfl
theorem zb7 {xs:List V}{a:List X9}(r:Vals xs a):(!a.toArray.isEmpty)=!xs.isEmpty:=by
 cases r<;>simp
theorem YC:(Xw:Nat)<2^63:=by rw[TW];decide
theorem zoa:zqL X (fun x H Q=>∃k,zn9 X.K x H k/\Q k H):=by
 intro z s G H x v Q I g h;obtain⟨k,e,q⟩:=h;have D:=YC;have E:Xw=16777216:=TW;cases x with
 | non =>
  cases g;have a:k=false:=e;subst a;exact truthy_none ⟨H,I,q⟩
 | bl b =>
  cases g;have a:k=b:=e;subst a;exact Vh ⟨H,I,q⟩
 | int i =>
  obtain⟨t,rfl⟩:=g;have a:k=(i != 0):=e;subst a;exact PySem.P.truthy_int ⟨H,I,q⟩
 | str y =>
  obtain⟨t,rfl⟩:=g;obtain⟨B,a⟩:y.length<=Xw/\k=((y.length:Int) != 0):=e;subst a;exact PySem.P.truthy_str (by lia) ⟨H,I.tok _,q⟩
 | byt y =>
  obtain⟨t,rfl⟩:=g;obtain⟨B,a⟩:y.size<=Xw/\k=((y.size:Int) != 0):=e;subst a;exact PySem.W.truthy_bytes (by lia) ⟨H,I.tok _,q⟩
 | ref p =>
  cases g;have a:(∃f,SqL X.K H p f/\k=!f.isEmpty)\/(∃f,SqT X.K H p f/\k=!f.isEmpty)\/∃c,H p=some (.dK c)/\k=!c.isEmpty:=e;rcases a with ⟨f,j,a⟩ | ⟨f,j,a⟩ | ⟨c,j,a⟩
  ·subst a;obtain⟨n,r,o,u⟩:=I.list j;have d:=r.length;exact wpAny_truthy_list o.isList (by simp only[Xs];lia) ⟨H,I.tok _,by rw[zb7 r];exact q⟩
  ·subst a;obtain⟨n,r,o,u⟩:=I.tuple j;have d:=r.length;exact truthy_tuple o (by simp only[Xs];lia) ⟨H,I.tok _,by rw[zb7 r];exact q⟩
  ·subst a;obtain⟨u,A,l,r,m⟩:c.length<=Xw/\(p==TZ)=false/\∃l,KV c l/\s.heap.DictOf (zW X.prog X.w) p l:=I.hok p _ j;have d:c.length=l.length:=Paired.length r;exact wpAny_truthy_dict A m (by lia) ⟨H,I.tok _,by rw[zgT r];exact q⟩
 | _=>exact(show False from e).elim
theorem yZ (g:PE X a ta)(he:∀whole,isTrue a X.env whole=(do let v <- whole;standAt a.pos;Ow [v] (truthy v))) :
  PT X a (fun c H Q=>ta c H fun x d=>∃k,zn9 X.K x d k/\Q k d):=by
 intro b s c H Q I h;exact isTrue_plain (thn (g b s c H _ I h) fun v s1 ⟨x,e,f,j,i⟩=>zoa b s1 c e x v Q f j i) (he _)
theorem zgU:OpR X (Uj .Add) (fun x y H Q=>∃i j,x=.str i/\y=.str j/\i.length+j.length<=Xw/\Q (.str (i++j)) H):=by
 intro a s g H x y v u Q I c d h;obtain⟨i,j,rfl,rfl,b,q⟩:=h;obtain⟨t,rfl⟩:=c;obtain⟨e,rfl⟩:=d;exact add_str (fun e f=>⟨.str (i++j),H,I.tok _,⟨_,rfl⟩,q⟩) b
theorem vals1 {x:V}{a:List X9}(r:Vals [x] a):∃u,a=[u]/\RelV x u:=by
 cases r with
 | cons b c=>cases c;exact⟨_,rfl,b⟩
theorem vals2 {x y:V}{a:List X9}(r:Vals [x,y] a):∃u b,a=[u,b]/\RelV x u/\RelV y b:=by
 cases r with
 | cons c d =>
  cases d with
  | cons e f=>cases f;exact⟨_,_,rfl,c,e⟩
theorem Zm (c:X.calm=true):jY X (.builtin "max") (fun xs H Q=>∃i j,xs=[.int i,.int j]/\Q (.int (if j>i then j else i)) H):=by
 intro b s m H xs g Q I r h;obtain⟨i,j,rfl,q⟩:=h;obtain⟨u,l,rfl,⟨t,rfl⟩,⟨e,rfl⟩⟩:=vals2 r;refine max_two_ints (I.ok.hd c) fun d f k=>⟨_,H,I.kept k,?_,q⟩;by_cases a:j>i
 ·rw[if_pos a,if_pos a];exact⟨_,rfl⟩
 ·rw[if_neg a,if_neg a];exact⟨_,rfl⟩
theorem Zn (c:X.calm=true):jY X (.builtin "min") (fun xs H Q=>∃i j,xs=[.int i,.int j]/\Q (.int (if j<i then j else i)) H):=by
 intro b s m H xs g Q I r h;obtain⟨i,j,rfl,q⟩:=h;obtain⟨u,l,rfl,⟨t,rfl⟩,⟨e,rfl⟩⟩:=vals2 r;refine min_two_ints (I.ok.hd c) fun d f k=>⟨_,H,I.kept k,?_,q⟩;by_cases a:j<i
 ·rw[if_pos a,if_pos a];exact⟨_,rfl⟩
 ·rw[if_neg a,if_neg a];exact⟨_,rfl⟩
theorem zi3:jY X (.type "int") (fun xs H Q=>(∃i,xs=[.int i]/\Q (.int i) H)\/∃k,xs=[.bl k]/\Q (.int (if k then 1 else 0)) H):=by
 intro a s d H xs c Q I r h;rcases h with ⟨i,rfl,q⟩ | ⟨k,rfl,q⟩
 ·obtain⟨u,rfl,t,rfl⟩:=vals1 r;exact call_int_int ⟨.int i,H,I,⟨_,rfl⟩,q⟩
 ·obtain⟨u,rfl,b⟩:=vals1 r;cases b;exact call_int_bool ⟨.int (if k then 1 else 0),H,I.tok _,⟨_,rfl⟩,q⟩
theorem zad:jY X (.type "str") (fun xs H Q=>∃i,xs=[.int i]/\i.natAbs.log2<1920/\Q (.str (toString i)) H):=by
 intro a s d H xs c Q I r h;obtain⟨i,rfl,b,q⟩:=h;obtain⟨u,rfl,t,rfl⟩:=vals1 r;exact PySem.P.str_of_int b ⟨.str _,H,I.tok _,⟨_,rfl⟩,q⟩
theorem zbq:jY X (.builtin "divmod") (fun xs H Q=>∃i j,xs=[.int i,.int j]/\zqM i j/\∀p,H p=none->Q (.ref p) (upd H p (.tup [.int (i/j),.int (i%j)]))):=by
 intro a s k H xs f Q I r h;obtain⟨i,j,rfl,⟨h1,h2⟩,q⟩:=h;obtain⟨u,g,rfl,⟨t,rfl⟩,⟨d,rfl⟩⟩:=vals2 r;refine divmod_int (by lia) ?_ (.inl (PyProof.noPylong_small (by lia)));rw[RB i (by lia),RC i (by lia)];have c:H s.heap.objs.size=none:=I.hok.fresh (XV _);refine⟨.ref s.heap.objs.size,_,?_,rfl,q _ c⟩;refine I.laid (fun b o e=>X0 _ e) (XV _) ⟨by simp only[Xr,UX];rw[TW];decide,[.int (i/j) s.toks,.int (i%j) (s.toks+1)],.cons ⟨_,rfl⟩ (.cons ⟨_,rfl⟩ .nil),?_⟩;exact⟨_,W9 s.heap rfl,rfl,0,rfl⟩
end
structure zob (h:Heap)(x dx C:Addr)(mA:Str->Option X9):Prop where
 obj:h.get? x=some (Ps C dx)
 ns:h.Ns1 dx mA
 ne:dx≠x
theorem zi4 {h:Heap}{c:Addr}{f:Str->Option X9}(n:h.Ns1 c f):∃g,h.get? c=some g/\∀name,O8 name g=some (f name):=by
 obtain⟨o,d,p,l,j,hk,_,k⟩:=n;refine⟨o,l,fun name=>?_⟩;have e:=k name;unfold nsFind findBy at e;rw[<- Array.find?_toList] at e;unfold O8;rw[j];dsimp only;split
 ·rename_i y q;rw[q] at e;exact congrArg some e
 ·rename_i q;rw[q] at e;have a:d.toList.any (·.refKey)=false:=by
   rw[Rq];intro y m;obtain⟨z,t,b⟩:=hk y (TR.mp m);simp[DictEntry.refKey,b]
  have i:¬ d.toList.any (·.refKey)=true:=by rw[a];exact XY
  rw[if_neg i];exact congrArg some e
theorem zob.look {h:Heap}{x b C:Addr}{c:Str->Option X9}(I:zob h x b C c):∃a,PySem.W.InstAt h x (Ps C b) C (some a)/\∀name,O8 name a=some (c name) :=
 let ⟨a,ho,hl⟩:=zi4 I.ns
 ⟨a,⟨I.obj,rfl,rfl,ho⟩,hl⟩
section
variable {prog:Xg}{w:WQ}{A:WH}{E:X9->X8->Prop}{s:X8}{K:X5}{x dx C f:Addr}{mA:Str->Option X9}{name:Str}{v:X9}
end
theorem zb3.some_of {v:V}{o:Option X9}(r:zb3 (some v) o):∃u,o=some u/\RelV v u:=by
 cases o with
 | none=>exact(show False from r).elim
 | some u=>exact⟨u,rfl,r⟩
section
variable {P:Xg}{w:WQ}{H H':Hp}{h h':Heap}{a C dx:Addr}{fs fs':List (Str×V)}
theorem zmi (c:HOk P w H h)(e:H a=some (.ins C dx fs)):∃b,zob h a dx C b/\(∀f,zb3 (fs.lookup f) (b f))/\PySem.Within b (fs.map (·.1))/\fs.length<=1000/\H dx=some (.own a):=by
 obtain⟨d,z,g,ob,b,n,r,q⟩:=(show jk P w H h a (.ins C dx fs) from c a _ e);exact⟨b,⟨ob,n,g⟩,r,q,z,d⟩
end
structure Cls (K:X5)(C:Addr):Prop where
 pg:PySem.W.plainGet K C Str.empty=true
 hd:PySem.W.hasDictIn K C=true
 po:PySem.W.plainOver K C=true
 sa:VO K (.ref C) "__setattr__"=some (some (.builtin "object.__setattr__"))
theorem Cls.get {K:X5}{C:Addr}(c:Cls K C)(f:Str):PySem.W.plainGet K C f=true:=c.pg
section
variable {X:Cx}{pins:List (Addr×Obj)}{σ:St}{H:Hp}{s:X8}{a C dx:Addr}{fs:List (Str×V)}{f:Str}{v:V}{A:WH}{E:X9->X8->Prop}
end
section
variable {X:Cx}{o e value:Expr}{f:Str}{pos pos' tpos:Pos}{ta tv:TE}
end
section
variable {X:Cx}{pins:List (Addr×Obj)}{σ:St}{H:Hp}{s:X8}{A:WH}{E:X9->X8->Prop}{Q:X9->X8->Prop}{c:X9}{b:Bool}
inductive zae (K:X5)(H:Hp):V->X9->Prop where
 | non:zae K H .non (.type "NoneType")
 | bl (x:Bool):zae K H (.bl x) (.type "bool")
 | int (i:Int):zae K H (.int i) (.type "int")
 | str (x:Str):zae K H (.str x) (.type "str")
 | flt (x:UInt64):zae K H (.flt x) (.type "float")
 | lst {a:Addr} {xs:List V} (e:H a=some (.lst xs)):zae K H (.ref a) (.type "list")
 | frz {a:Addr} {o:Obj} {xs:List V} (e:H a=some (.frz o (.lst xs))):zae K H (.ref a) (.type "list")
 | tup {a:Addr} {xs:List V} (e:H a=some (.tup xs)):zae K H (.ref a) (.type "tuple")
 | dK {a:Addr} {kvs:List (Key×V)} (e:H a=some (.dK kvs)):zae K H (.ref a) (.type "dict")
 | dT {a:Addr} {kvs:List (List Key×V)} (e:H a=some (.dT kvs)):zae K H (.ref a) (.type "dict")
 | ins {a C dx:Addr} {fs:List (Str×V)} (e:H a=some (.ins C dx fs)) (cl:Cls K C) (ha:VO K (.ref C) "__class__"=some (some (.builtin "object.__class__")))
   (hn:PySem.W.specialIn K (.builtin "object.__class__") "__get__"=some (some (.builtin "getset_descriptor.__get__"))) (htk:PySem.W.takesIn K (.builtin "object.__class__")=some true)
   (hm:VG K C (.type "object")=some true):zae K H (.ref a) (.ref C)
theorem zi5 {x:V}{u t:X9}(I:Inv X pins σ H s)(f:RelV x u)(ty:zae X.K H x t)(e:Xa X.K t c=some b)(h:∀tk,Q (.bool b) { s with toks:=tk }) :
  W8 (Xi X.prog X.w) A (call (.builtin "isinstance") [u,c]) Q E s:=by
 cases ty with
 | non=>cases (show u=Uu from f);exact V2 PySem.W.kitx_none I.kIn TY e (fun z=>nomatch z) h
 | bl y=>cases (show u=Tj y from f);exact V2 PySem.W.kitx_bool I.kIn TY e (fun z=>nomatch z) h
 | int i=>obtain⟨t,q⟩:=(show ∃t,u=Vw i t from f);cases q;exact V2 PySem.W.kitx_int I.kIn TY e (fun z=>nomatch z) h
 | str y=>obtain⟨t,q⟩:=(show ∃t,u=Ol y t from f);cases q;exact V2 PySem.W.kitx_str I.kIn TY e (fun z=>nomatch z) h
 | flt y=>obtain⟨t,q⟩:=(show ∃t,u=Value.float y t from f);cases q;exact V2 PySem.W.kitx_float I.kIn TY e (fun z=>nomatch z) h
 | @lst a j d =>
  cases (show u=Wx a from f);obtain⟨_,_,n,_,h1⟩:=(show jk X.prog X.w H s.heap a (.lst j) from I.hok a _ d);exact V2 PySem.W.kitx_list I.kIn ⟨_,h1,rfl⟩ e (fun z=>nomatch z) h
 | @frz a ob j d =>
  cases (show u=Wx a from f);obtain⟨_,_,_,n,_,h1⟩:=(show jk X.prog X.w H s.heap a (.frz ob (.lst j)) from I.hok a _ d);exact V2 PySem.W.kitx_list I.kIn ⟨_,h1,rfl⟩ e (fun z=>nomatch z) h
 | @tup a j d =>
  cases (show u=Wx a from f);obtain⟨_,_,_,p⟩:=(show jk X.prog X.w H s.heap a (.tup j) from I.hok a _ d);obtain⟨o,h1,h2,_⟩:=p;exact V2 PySem.W.kitx_tuple I.kIn ⟨o,h1,h2⟩ e (fun z=>nomatch z) h
 | @dK a g d =>
  cases (show u=Wx a from f);obtain⟨_,_,N,_,p⟩:=(show jk X.prog X.w H s.heap a (.dK g) from I.hok a _ d);obtain⟨o,r,m,h1,h2,_⟩:=p;exact V2 PySem.W.kitx_dict I.kIn ⟨o,h1,h2.1⟩ e (fun z=>nomatch z) h
 | @dT a g d =>
  cases (show u=Wx a from f);obtain⟨_,_,j,_,o,r,m,h1,h2,_⟩:=(show jk X.prog X.w H s.heap a (.dT g) from I.hok a _ d);exact V2 PySem.W.kitx_dict I.kIn ⟨o,h1,h2.1⟩ e (fun z=>nomatch z) h
 | @ins a C G fs d l v D k B =>
  cases (show u=Wx a from f);obtain⟨L,O,_⟩:=zmi I.hok d;obtain⟨M,J,_⟩:=O.look;exact V2 (PySem.W.kitx_own (l.get _) l.hd v D k B) I.kIn J e (fun z=>nomatch z) h
end
structure Zg (k:Nat)(A:WH):Prop where
 hd:A.handled=none
 dp:A.depth+3*k+5<recursionLimit
 un:A.units+16*k+200<Vi
theorem Zg.mono {j k:Nat}{A:WH}(r:Zg k A)(h:j<=k):Zg j A:=⟨r.hd,by have:=r.dp;lia,by have:=r.un;lia⟩
theorem Zg.deeper {k:Nat}{A:WH}(r:Zg (k+1) A)(a:Env):Zg k (A.deeper a) :=
 ⟨r.hd,by have:=r.dp;show A.depth+1+3*k+5<_;lia,by have:=r.un;show A.units+3+16*k+200<_;lia⟩
theorem Zg.depth {k:Nat}{A:WH}(r:Zg k A):A.depth<recursionLimit:=by have:=r.dp;lia
theorem Zg.units {k:Nat}{A:WH}(r:Zg k A):A.units+64<Vi:=by have:=r.un;lia
def zqN:TA:=fun _ H Q=>Q [] H
def zpO (d:TE)(e:TA):TA:=fun a H Q=>d a H fun x b=>e a b fun f c=>Q (x::f) c
section
variable {X:Cx}{e:Expr}{es:List Expr}{te:TE}{t:TA}{pos:Pos}
theorem zb:PA X [] zqN:=fun _ _ _ _ H Q I h=>Calls.spliced_nil ⟨[],H,I,.nil,h⟩
theorem za (i:PE X e te)(j:PA X es t)(k:WA (e::es) X.env=(false,eval e X.env)::WA es X.env:=by rfl):PA X (e::es) (zpO te t):=by
 intro pos a s b H Q I h;rw[k];show W8 _ _ (spliced ((false,eval e X.env)::SZ pos (WA es X.env))) _ _ s;refine Calls.spliced_cons (thn (i a s b H _ I h) fun u s1 ⟨x,c,f,n,l⟩=>?_);exact thn (j pos a s1 b c _ f l) fun r q ⟨p,d,g,o,m⟩=>⟨x::p,d,g,.cons n o,m⟩
def zqO (t:TA):TE:=fun c H Q=>t c H fun b a=>b.length<=Xw/\∀p,a p=none->Q (.ref p) (upd a p (.tup b))
def zqP (t:TA):TE:=fun c H Q=>t c H fun b a=>b.length<=Xw/\∀p,a p=none->Q (.ref p) (upd a p (.lst b))
theorem jy {x1}(h:PA X es t):PE X (.Tuple es x1 pos) (zqO t):=by
 intro a s k H Q I g;refine wpAny_Tuple_spliced (thn (h pos a s k H _ I g) fun i s1 ⟨j,c,d,r,z,q⟩=>⟨by rw[<- r.length];exact z,?_⟩);have f:c s1.heap.objs.size=none:=d.hok.fresh (XV _);refine⟨.ref s1.heap.objs.size,upd c s1.heap.objs.size (.tup j),d.laid (t':=s1.toks) (fun b u e=>X0 _ e) (XV _) ?_,rfl,q _ f⟩;exact⟨z,i,r,⟨_,W9 _ rfl,rfl,_,rfl⟩⟩
theorem qc (h:PA X es t):PE X (.List es pos) (zqP t):=by
 intro a s k H Q I g;refine wpAny_List_spliced (thn (h pos a s k H _ I g) fun i s1 ⟨j,c,d,r,z,q⟩=>⟨by rw[<- r.length];exact z,?_⟩);have f:c s1.heap.objs.size=none:=d.hok.fresh (XV _);refine⟨.ref s1.heap.objs.size,upd c s1.heap.objs.size (.lst j),d.laid (t':=s1.toks) (fun b u e=>X0 _ e) (XV _) ?_,rfl,q _ f⟩;exact⟨z,i,0,r,W9 _ rfl⟩
end
abbrev Sp:=List V->Hp->VK->XK->Prop
abbrev CXT:=List Env->Hp->X8->XK->X9->X8->Prop
structure zmj (P:Xg)(w:WQ)(K:X5)(mg:Str->Option X9)(base:Heap)(A:WH)(outer:List Env)(s:X8)(H:Hp):Prop where
 frames:A.frames=some outer
 mod:Mod K mg base
 bs:∀b o,base.get? b=some o->s.heap.get? b=some o/\H b=none
 bsz:base.objs.size<=s.heap.objs.size
 funs:s.heap.FunFrames base outer
 frf:∀b∈frs outer,H b=none
 hok:HOk P w H s.heap
 bare:Sg s.gens
def CE (a:List Env)(P:Xg)(w:WQ)(H:Hp)(s:X8)(Q:VK)(u:X9)(s':X8):Prop :=
 ∃v b,s'.os=s.os/\Sg s'.gens/\Un (frs a) [] H b s.heap s'.heap/\HOk P w b s'.heap/\RelV v u/\Q v b
def CR (CX:CXT)(a:List Env)(P:Xg)(w:WQ)(H:Hp)(s:X8)(Q:VK)(E:XK)(r:Om)(s':X8):Prop :=
 match r with
 | .ok (.ret u)=>CE a P w H s Q u s'
 | .ok _=>False
 | .error e=>CX a H s E e s'
structure qt (P:Xg)(w:WQ)(K:X5)(mg:Str->Option X9)(base:Heap)(CX:CXT)(k:Nat)(f:Addr)(fd:Xo)(ps:List Str)(sp:Sp):Prop where
 len:∀vs H Q E,sp vs H Q E->vs.length=ps.length
 run:∀(A:WH) (outer:List Env) (s:X8) (H:Hp) (args:Args) (us:List X9) (vs:List V) (Q:VK) (E:XK),Zg k A->zmj P w K mg base A outer s H->Ov s fd args (ps.zip us)->Vals vs us->sp vs H Q E ->
  T7 (Xi P w) A (.call (.ref f) args) (CR CX outer P w H s Q E) s
section
variable {X:Cx}{pins:List (Addr×Obj)}{σ:St}{H:Hp}{s s':X8}
theorem Inv.env0 (I:Inv X pins σ H s):zmj X.prog X.w X.K X.mg X.base X.A X.stack s H :=
 ⟨I.ok.frames,I.ok.mod,I.bs,X6 I.ok.bsz I.sz,I.stack,I.stkFree,I.hok,I.bare⟩
theorem Inv.after {Q:VK}{u:X9}(I:Inv X pins σ H s)(h:CE X.stack X.prog X.w H s Q u s'):EP X pins σ Q u s':=by
 obtain⟨v,f,os,a,un,c,r,q⟩:=h;obtain⟨i,g,d,t,e⟩:=s';obtain rfl:e=s.os:=os;exact⟨v,f,I.call (h':=i) (g':=g) (d':=d) (t':=t) (ch:=[]) un c a (fun b z=>absurd z (by simp)),r,q⟩
end
def zkd (sp:Sp)(a:List V)(E:XK)(t:TA):TE:=fun d H Q=>t d H fun c b=>sp (c++a) b Q E
def Binds (K:X5)(c:Xo)(ps:List Str)(b:List X9):Prop :=
 ∀(s:X8) (a:List X9),K.In s.heap->(a++b).length=ps.length->Ov s c ⟨a,[]⟩ (ps.zip (a++b))
theorem Binds.all {K:X5}{b:Xo}{ps:List Str}(h:∀a:List X9,a.length=ps.length->bindArgs b ⟨a,[]⟩=pure (ps.zip a)):Binds K b ps []:=fun s a _ c=>by
 rw[Xc] at c ⊢;exact .of_eq (h a c)
def Passes (CX:CXT)(X:Cx)(E:XK):Prop:=∀(a:List (Addr×Obj)) (c:St) (H:Hp) (s:X8) (e:X9) (b:X8),Inv X a c H s->CX X.stack H s E e b->X.xe e b
section
variable {X:Cx}{CX:CXT}{k:Nat}{f C:Addr}{fd:Xo}{ps:List Str}{sp:Sp}{dvs:List V}{ds:List X9}{E:XK}{x m:Str}{p pos apos:Pos}{e o:Expr}{es:List Expr}{ta:TE}{t:TA}
theorem zoc {a:List (Addr×Obj)}{d:St}{H:Hp}{s:X8}{Q:VK}{b:List X9}{vs:List V}(F:qt X.prog X.w X.K X.mg X.base CX k f fd ps sp)(n:Zg k X.A)(j:Binds X.K fd ps ds)(l:Vals dvs ds)(o:Passes CX X E)
  (I:Inv X a d H s) (r:Vals vs b) (h:sp (vs++dvs) H Q E):W8 (Xi X.prog X.w) X.A (call (.ref f) b) (EP X a d Q) X.xe s:=by
 have g:Vals (vs++dvs) (b++ds):=r.append l;have m:(b++ds).length=ps.length:=by rw[<- g.length];exact F.len _ _ _ _ h
 refine wpAny_call (SW (F.run X.A X.stack s H ⟨b,[]⟩ (b++ds) (vs++dvs) Q E n I.env0 (j s b I.kIn m) g h) fun r p c=>?_);cases r with
 | error e=>exact o a d H s e p I c
 | ok i =>
  cases i with
  | ret u=>exact I.after c
  | next=>exact Wv c
  | brk=>exact Wv c
  | cont=>exact Wv c
theorem zib (F:qt X.prog X.w X.K X.mg X.base CX k f fd ps sp)(n:Zg k X.A)(l:Gl X x)(m:X.mg x=some (.ref f))(hk:TV X.K (.ref f)=true)(i:Binds X.K fd ps ds)(j:Vals dvs ds)(o:Passes CX X E)
  (g:PA X (e::es) t) (b:(x==("__debug__":Str))=false:=by decide) (he:WA (e::es) X.env=(false,eval e X.env)::WA es X.env:=by rfl) (c:(SZ pos (WA es X.env)).any (·.1)=false:=by rfl) :
  PE X (.Call (.Name x p) (e::es) [] pos) (zkd sp dvs E t):=by
 intro a s u H Q I h;refine Te (zab I l m ?_ b);refine PySem.W.callWith_K (h₀:=X.base) I.ok.mod.kin hk (thn (g pos a s u H _ I h) fun y s1 ⟨z,v,d,r,q⟩=>⟨d.kIn,?_⟩) he c;exact zoc F n i j o d r q
end
section
variable {X:Cx}{CX:CXT}{k:Nat}{f C:Addr}{fd:Xo}{ps ks:List Str}{sp:Sp}{E:XK}{x m:Str}{p pos apos kpos:Pos}{e o:Expr}{es:List Expr}{kws:List Og}{te ta:TE}{t tk:TA}{nm:Option Str}
variable {g:List X9->List X9->List X9}{gV:List V->List V->List V}
end
structure zF (N P:List Str)(sc:UG):Prop where
 kind:sc.kind=.function
 co:sc.isCoroutine=false
 gen:sc.isGenerator=false
 nd:N.Nodup
 pre:N.take P.length=P
 par:∀x∈P,sc.names.lookup x=some .local\/sc.names.lookup x=some .cell
 nofree:∀y∈sc.names,y.2 ≠ .free
theorem zdF {kindOf:Str->Option Tv}{x:Str}:∀{binds:List (Str×X9)} {m:Str->Option X9},(∀v,(x,v) ∉ binds)->Oc kindOf binds m x=m x
 | [],_,_=>rfl
 | (n,v)::r,m,h=>by
  unfold Oc;rw[zdF fun w a=>h w (XT _ a)];split
  ·have:x≠n:=by rintro rfl;exact h v XS
   simp[this]
  ·rfl
theorem zdG {kindOf:Str->Option Tv}{x:Str}:∀{binds:List (Str×X9)} {m:Str->Option X9},(∀v,(x,v) ∉ binds)->Ob kindOf binds m x=m x
 | [],_,_=>rfl
 | (n,v)::r,m,h=>by
  unfold Ob;rw[zdG fun w a=>h w (XT _ a)];split
  ·rfl
  ·have:x≠n:=by rintro rfl;exact h v XS
   simp[this]
theorem zdH {kindOf:Str->Option Tv}{x:Str}{v:X9}:∀{P:List Str} {vs:List X9} {i:Nat} {m:Str->Option X9},P.Nodup->P[i]?=some x->vs[i]?=some v->kindOf x=some .local ->
  Oc kindOf (P.zip vs) m x=some v
 | [],_,_,_,_,h,_,_=>by simp at h
 | _::_,[],_,_,_,_,h,_=>by simp at h
 | p::P,w::vs,0,m,a,h1,h2,hk=>by
  simp at h1 h2;subst h1;subst h2;show Oc kindOf ((p,w)::P.zip vs) m p=_;unfold Oc;rw[zdF fun v b=>(VM.mp a).1 (Pr b).1,if_pos hk];simp
 | p::P,w::vs,i+1,m,a,h1,h2,hk=>by
  show Oc kindOf ((p,w)::P.zip vs) m x=_;unfold Oc;exact zdH (i:=i) (VM.mp a).2 (by simpa using h1) (by simpa using h2) hk
theorem zdI {kindOf:Str->Option Tv}{x:Str}{v:X9}:∀{P:List Str} {vs:List X9} {i:Nat} {m:Str->Option X9},P.Nodup->P[i]?=some x->vs[i]?=some v->kindOf x≠some .local ->
  Ob kindOf (P.zip vs) m x=some v
 | [],_,_,_,_,h,_,_=>by simp at h
 | _::_,[],_,_,_,_,h,_=>by simp at h
 | p::P,w::vs,0,m,a,h1,h2,hk=>by
  simp at h1 h2;subst h1;subst h2;show Ob kindOf ((p,w)::P.zip vs) m p=_;unfold Ob;rw[zdG fun v b=>(VM.mp a).1 (Pr b).1,if_neg hk];simp
 | p::P,w::vs,i+1,m,a,h1,h2,hk=>by
  show Ob kindOf ((p,w)::P.zip vs) m x=_;unfold Ob;exact zdI (i:=i) (VM.mp a).2 (by simpa using h1) (by simpa using h2) hk
def start (N:List Str)(vs:List V):St:=vs.map some++WP (N.length-vs.length) none
def zft (CX:CXT)(P:Xg)(w:WQ)(K:X5)(mg:Str->Option X9)(base:Heap)(N:List Str)(qual:Str)(scope:UG)(f:Addr)(cd:X9)(A:WH)(outer:List Env)(s:X8)(H:Hp)(E:XK):Cx where
 prog:=P
 w:=w
 K:=K
 mg:=mg
 base:=base
 A:=A.deeper (PK qual scope s.heap.objs.size f cd)
 N:=N
 s₀:=s
 H₀:=H
 env:=PK qual scope s.heap.objs.size f cd
 outer:=outer
 stack:=PK qual scope s.heap.objs.size f cd::outer
 ex:=[]
 calm:=true
 fn:=fun _=>true
 pn:=[]
 xe:=fun e s'=>W8 (Xi P w) (A.deeper (PK qual scope s.heap.objs.size f cd)) (leaving (PK qual scope s.heap.objs.size f cd) e) (fun _ s''=>CX outer H s E e s'') (fun e' s''=>CX outer H s E e' s'') s'
theorem zfu {a:UG}{n:Nat}{x:Str}(h:a.names.lookup x=some .cell):∃c,(RM n a.names []).lookup x=some c:=by
 have q:=Sx a.names n [] (.inl h);exact V0.mp q
theorem zi6 {CX:CXT}{P:Xg}{w:WQ}{K:X5}{I:Str->Option X9}{base:Heap}{N ps:List Str}{j:Str}{d:UG}{f:Addr}{D:X9}{A:WH}{g:List Env}{s s1:X8}{H:Hp}{E:XK}{J:List X9}{vs:List V}
  (S:zF N ps d) (O:A.handled=none) (l:zmj P w K I base A g s H) (hl:vs.length=ps.length) (r:Vals vs J)
  (x:InCallC s s.heap.objs.size (Oc (PK j d s.heap.objs.size f D).kindOf (ps.zip J) fun _=>none) (RM (s.heap.objs.size+1) d.names []) (Ob (PK j d s.heap.objs.size f D).kindOf (ps.zip J) fun _=>none) s1) :
  Inv (zft CX P w K I base N j d f D A g s H E) [] (start N vs) H s1:=by
 have Q:ps.length<=N.length:=by have:=congrArg List.length S.pre;rw[XE] at this;lia
 obtain⟨h1,tk,rfl,hk⟩:=x.done;have m:∀b:Addr,b ∉ (zft CX P w K I base N j d f D A g s H E).ex:=fun b z=>absurd (show b∈([]:List Addr) from z) (by simp);refine⟨⟨l.mod,S.kind,rfl,rfl,XV _,fun y z c h1 h2=>?_,fun y hy=>?_,fun y c _ h=>?_,fun _=>O,Around.frames_deeper l.frames,.inr ⟨rfl,rfl⟩,fun b z=>absurd z (m b),l.bs,l.bsz,fun b _ _=>m b,fun b z=>absurd z (m b),l.funs,l.frf⟩,
  rfl,l.bare,Un.kept hk,⟨_,x.toInCall.ns,fun i y v h1 h2 Y=>?_⟩,fun y c h=>⟨_,x.cell y c h⟩,l.hok.fresh (XV _),fun y c h=>?_,fun p o=>absurd (show p∈([]:List (Addr×Obj)) from o) (by simp),l.hok.kept hk,?_⟩
 ·exact name_of_addr x.apart (WG h1) (WG h2)
 ·have hy:d.names.lookup y=some .cell\/d.names.lookup y=some .free:=hy;rcases hy with hy | hy
  ·exact zfu hy
  ·exact absurd rfl (S.nofree _ (WG hy))
 ·exact SX (x.above y c (WG h))
 ·have G:i<vs.length:=by
   unfold start at h2;by_cases G:i<vs.length
   ·exact G
   ·rw[VU (by simpa using G)] at h2;rw[List.getElem?_replicate] at h2;split at h2<;>cases h2
  have M:vs[i]?=some v:=by
   unfold start at h2;rw[V8 (by simpa using G),Xl] at h2;cases e:vs[i]? with
   | none=>rw[e] at h2;cases h2
   | some a=>rw[e] at h2;cases h2;rfl
  obtain⟨u,L,U⟩:=r.get M;have o:ps[i]?=some y:=by
   rw[<- S.pre,Re (by lia)];exact h1
  have B:ps.Nodup:=by rw[<- S.pre];exact S.nd.sublist (UQ _ _)
  refine⟨u,U,?_⟩;rcases S.par y (X4 o) with k | k
  ·exact .inl ⟨k,zdH B o L k⟩
  ·obtain⟨c,e⟩:=zfu (n:=s.heap.objs.size+1) k;refine .inr ⟨.inl k,c,e,?_⟩;have q:=x.cell y c e;rw[zdI B o L (by show d.names.lookup y≠_;rw[k];decide)] at q;exact q
 ·exact l.hok.fresh (SX (x.above y c (WG h)))
 ·unfold start;show _=N.length;rw[XW,Y1,Pm];lia
theorem znu {CX:CXT}{P:Xg}{w:WQ}{K:X5}{M:Str->Option X9}{base:Heap}{k:Nat}{f:Addr}{name d:Str}{h:Arguments}{i:List Stmt}{a:UG}{dV kV doc pm g ct oc:X9}{an od:Option Addr}
  {aa:Array (Option X9)} {N ps:List Str} {sp:Sp} (lk:K.lookup f=some ⟨oc,od,.func (US name d h i a dV kV doc pm an g ct),aa⟩) (O:SO K g d=true) (S:zF N ps a)
  (L:∀vs H Q E,sp vs H Q E->vs.length=ps.length)
  (m:∀(A:WH) (c:List Env) (s:X8) (H:Hp) (vs:List V) (Q:VK) (E:XK),Zg k (A.deeper (PK d a s.heap.objs.size f g))->sp vs H Q E ->
   ∃t,PSs (zft CX P w K M base N d a f g A c s H E) i t/\t { nx:=fun _ l=>Q .non l,rt:=Q } (start N vs) H) :
  qt P w K M base CX (k+1) f (US name d h i a dV kV doc pm an g ct) ps sp:=by
 refine⟨L,fun A c s H ab us vs Q E U B hb r G=>?_⟩;have hl:=L _ _ _ _ G;have KX:K.In s.heap:=B.mod.kin.keeps fun b o e=>(B.bs b o e).1;have Y:s.heap.NoLimit:=B.mod.nolimit.keeps fun b o e=>(B.bs b o e).1;have p:∀y∈ps.zip us,a.names.lookup y.1=some .local\/(a.names.lookup y.1=some .cell/\((RM (s.heap.objs.size+1) a.names []).lookup y.1).isSome=true):=fun ⟨n,v⟩ hy=>by
  rcases S.par n (Pr hy).1 with q | q
  ·exact .inl q
  ·exact .inr ⟨q,Sx _ _ _ (.inl q)⟩
 refine codeAny_call_function U.depth (KX _ _ lk) rfl S.co S.gen rfl (PySem.W.codeRec_of KX O) (hb _ _ _ _ ?_);refine wpAny_newFunctionEnv_cells S.kind p fun ac he s1 x=>?_;subst he;refine⟨Y.keeps x.toInCall.keep,codeAny_func ?_⟩;obtain⟨t,ht,hq⟩:=m A c s H vs Q E (U.deeper _) G;have I:Inv (zft CX P w K M base N d a f g A c s H E) [] (start N vs) H s1:=zi6 S U.hd B hl r x;refine Ww (ht [] s1 (start N vs) H _ I hq) (fun fl s' z=>?_) fun e s' z=>z;have D:∀{j:St} {l:Hp} {v:V} {u:X9},Inv (zft CX P w K M base N d a f g A c s H E) [] j l s'->RelV v u->Q v l->CE c P w H s Q u s' :=
  fun {j l v u} J rv q=>⟨v,l,J.os,J.bare,J.base,J.hok,rv,q⟩
 cases fl with
 | ret u =>
  obtain⟨v,j,l,J,rv,q⟩:=z;exact D J rv q
 | next =>
  obtain⟨j,l,J,q⟩:=z;exact D (v:=V.non) (u:=Uu) J rfl q
 | brk =>
  obtain⟨_,_,_,q⟩:=z;exact Wv q
 | cont =>
  obtain⟨_,_,_,q⟩:=z;exact Wv q
section
variable {X:Cx}{x:Str}{p pos:Pos}{e:Expr}{es:List Expr}{t:TA}{id T:String}{r:List V->Hp->VK->Prop}
def tCB (r:List V->Hp->VK->Prop)(t:TA):TE:=fun c H Q=>t c H fun b a=>r b a Q
theorem zq (j:jY X (.builtin id) r)(k:Gl X x)(l:X.mg x=none)(n:TM x=some (.builtin id))(i:PA X (e::es) t)(m:x ≠ "__name__":=by decide)(b:(x==("__debug__":Str))=false:=by decide)
  (he:WA (e::es) X.env=(false,eval e X.env)::WA es X.env:=by rfl) (c:(SZ pos (WA es X.env)).any (·.1)=false:=by rfl):PE X (.Call (.Name x p) (e::es) [] pos) (tCB r t):=by
 intro a s d H Q I h;refine Te (YA I k l n ?_ m b);exact PyProof.Rows.callWith_builtin1 (thn (i pos a s d H _ I h) fun u s1 ⟨v,f,g,q,o⟩=>j a s1 d f v u Q g q o) he c
theorem jm (j:jY X (.type T) r)(k:Gl X x)(l:X.mg x=none)(n:TM x=some (.type T))(i:PA X (e::es) t)(m:x ≠ "__name__":=by decide)(b:(x==("__debug__":Str))=false:=by decide)
  (he:WA (e::es) X.env=(false,eval e X.env)::WA es X.env:=by rfl) (c:(SZ pos (WA es X.env)).any (·.1)=false:=by rfl):PE X (.Call (.Name x p) (e::es) [] pos) (tCB r t):=by
 intro a s d H Q I h;refine Te (YA I k l n ?_ m b);exact VV (thn (i pos a s d H _ I h) fun u s1 ⟨v,f,g,q,o⟩=>j a s1 d f v u Q g q o) he c
end
end L2
namespace HT
open PySem PyProof.Rows
section
open PySem.SeqAt
open PySem.AutoSeq1 (wpAny_loadPart')
open PySem.MeetsSeq PySem.MeetsSeq2 PySem.MeetsSeq3
end
section
variable {prog:Xg}{w:WQ}{A:WH}{E:X9->X8->Prop}{s:X8}
def sIx (n d:Nat):Option Int->Nat
 | none=>d
 | some v=>if v<0 then (v+(n:Int)).toNat else min v.toNat n
theorem zbP (n d k:Nat):sIx n d (some (k:Int))=min k n:=by
 show (if (k:Int)<0 then ((k:Int)+(n:Int)).toNat else min (k:Int).toNat n)=min k n;rw[if_neg (by lia),WS]
end
end HT
namespace L2
open PySem PySem.Spec PyProof.Rows
abbrev TO:=St->Hp->(Option Int->Hp->Prop)->Prop
def PO (X:Cx)(e:Option Expr)(t:TO):Prop :=
 ∀(a:List (Addr×Obj)) (s:X8) (b:St) (H:Hp) (Q:Option Int->Hp->Prop),Inv X a b H s->t b H Q ->
  W8 (Xi X.prog X.w) X.A (evalPart e X.env) (fun u d=>∃o c,Inv X a b c d/\IsPart u o/\Q o c) X.xe s
def zmk:TO:=fun _ H Q=>Q none H
def zpP (t:TE):TO:=fun b H Q=>t b H fun x a=>∃i,x=.int i/\Q (some i) a
section
variable {X:Cx}{e:Expr}{te:TE}{lo hi:Option Expr}{tl th:TO}{pos p2:Pos}
theorem zeC:PO X none zmk:=by
 intro a s b H Q I h;rw[evalPart_none];exact XU ⟨none,H,I,.none,h⟩
theorem zaf (h:PE X e te):PO X (some e) (zpP te):=by
 intro a s j H Q I d;rw[evalPart_some];refine thn (h a s j H _ I d) fun u s1 ⟨x,b,c,g,f⟩=>?_;obtain⟨i,rfl,q⟩:=f;obtain⟨t,rfl⟩:=g;exact⟨some i,b,c,.int i t,q⟩
def SlR (X:Cx)(r:V->Option Int->Option Int->Hp->VK->Prop):Prop :=
 ∀(a:List (Addr×Obj)) (s:X8) (e:St) (H:Hp) (x:V) (v c d:X9) (lo hi:Option Int) (b:Addr) (Q:VK),Inv X a e H s->RelV x v->s.heap.IsSliceOf b c d .none->IsPart c lo->IsPart d hi->r x lo hi H Q ->
  ∃T id,Oz (.type T) "__getitem__"=pure (some (.builtin id))/\s.TypeIs v T/\W8 (Xi X.prog X.w) X.A (OT v (.ref b)) (EP X a e Q) X.xe s
def tSl (r:V->Option Int->Option Int->Hp->VK->Prop)(te:TE)(tl th:TO):TE:=fun a H Q=>te a H fun x b=>tl a b fun l c=>th a c fun u d=>r x l u d Q
theorem zag {r:V->Option Int->Option Int->Hp->VK->Prop}(D:SlR X r)(he:PE X e te)(B:PO X lo tl)(G:PO X hi th):PE X (.Subscript e (.Slice lo hi none p2) pos) (tSl r te tl th):=by
 intro a s d H Q I h;refine Subscript_ (thn (he a s d H _ I h) fun v s1 ⟨x,j,m,U,M⟩=>?_);refine wpAny_Slice (thn (B a s1 d j _ m M) fun f Y ⟨l,k,n,J,N⟩=>thn (G a Y d k _ n N) fun g c ⟨u,i,o,L,O⟩=>?_);rw[evalPart_none];refine XU ?_;have p:Inv X a d i { c with heap:=c.heap.push { cls:=.type "slice",data:=.fields #[f,g,.none] } }:=o.kept (t':=c.toks) fun b ob q=>X0 _ q;obtain⟨T,id,y,E,z⟩:=D a { c with heap:=c.heap.push { cls:=.type "slice",data:=.fields #[f,g,.none] } } d i x v f g l u c.heap.objs.size Q p U (Heap.IsSliceOf.new ..) J L O;show W8 (Xi X.prog X.w) X.A (OI e (.Slice lo hi none p2) v (.ref c.heap.objs.size)) (EP X a d Q) X.xe { c with heap:=c.heap.push { cls:=.type "slice",data:=.fields #[f,g,.none] } };exact tail_any (ops:=[.ref c.heap.objs.size,v]) E y z (by with_unfolding_all rfl)
def zah (xs:List V)(lo hi:Option Int):List V:=(xs.drop (HT.sIx xs.length 0 lo)).take (HT.sIx xs.length xs.length hi-HT.sIx xs.length 0 lo)
theorem zfv (xs:List V)(lo hi:Option Int):(zah xs lo hi).length<=xs.length:=by
 unfold zah;rw[XE,VJ];lia
end
def ixN (n:Nat)(i:Int):Option Nat:=if 0<=i then (if i<n then some i.toNat else none) else if -(n:Int)<=i then some (i+n).toNat else none
def atI {α:Type}(xs:List α)(i:Int):Option α:=(ixN xs.length i).bind fun j=>xs[j]?
theorem zic {n:Nat}{i:Int}{j:Nat}(h:ixN n i=some j):seqIndex? i n=some j/\j<n/\-(n:Int)<=i/\i<n:=by
 unfold ixN at h;by_cases h0:0<=i
 ·rw[if_pos h0] at h;by_cases h1:i<n
  ·rw[if_pos h1] at h;have e:i.toNat=j:=Option.some.inj h;exact⟨by rw[Pc h0 h1,e],by lia,by lia,h1⟩
  ·rw[if_neg h1] at h;cases h
 ·rw[if_neg h0] at h;by_cases h1:-(n:Int)<=i
  ·rw[if_pos h1] at h;have e:(i+n).toNat=j:=Option.some.inj h;exact⟨by rw[PH (by lia) h1,e],by lia,h1,by lia⟩
  ·rw[if_neg h1] at h;cases h
theorem zbQ {α:Type}{xs:List α}{i:Int}{v:α}(h:atI xs i=some v):∃j,seqIndex? i xs.length=some j/\xs[j]?=some v/\j<xs.length/\-(xs.length:Int)<=i/\i<xs.length:=by
 unfold atI at h;cases e:ixN xs.length i with
 | none=>rw[e] at h;cases h
 | some j =>
  rw[e] at h;obtain⟨h1,h2,a,b⟩:=zic e;exact⟨j,h1,h,h2,a,b⟩
theorem zai {α:Type}{xs:List α}{j:Nat}{v:α}(h:xs[j]?=some v):atI xs (j:Int)=some v:=by
 have a:j<xs.length:=(XZ.mp h).1;have e:ixN xs.length (j:Int)=some j:=by
  unfold ixN;rw[if_pos (by lia),if_pos (by lia)];simp
 unfold atI;rw[e];exact h
def zml (b:Expr):Prop:=∀o i,Pb b false o i=operate [o,i] (OT o i)
def IxR (X:Cx)(r:R2):Prop :=
 ∀(c a:Expr) (b:List (Addr×Obj)) (s:X8) (d:St) (H:Hp) (x y:V) (v u:X9) (Q:VK),Inv X b d H s->RelV x v->RelV y u->r x y H Q ->
  Pb a false v u=operate [v,u] (OT v u)->W8 (Xi X.prog X.w) X.A (OI c a v u) (EP X b d Q) X.xe s
def MtR (X:Cx)(id:String)(r:V->List V->Hp->VK->Prop):Prop :=
 ∀(a:List (Addr×Obj)) (s:X8) (d:St) (H:Hp) (x:V) (c:List V) (v:X9) (b:List X9) (Q:VK),Inv X a d H s->RelV x v->Vals c b->r x c H Q ->
  W8 (Xi X.prog X.w) X.A (call (.builtin id) (v::b)) (EP X a d Q) X.xe s
section
variable {X:Cx}{a b:Expr}{ta tb:TE}{pos:Pos}
theorem qf {r:R2}(i:IxR X r)(f:PE X a ta)(g:PE X b tb)(j:zml b):PE X (.Subscript a b pos) (tOp r ta tb):=by
 intro c s n H Q I h;exact Subscript_ (zn2 f g I h fun v u m x y d e k l q=>i a b c m n d x y v u Q e k l q (j _ _))
def zpQ (K:X5):R2:=fun x y H Q=>∃p a i v,x=.ref p/\y=.int i/\SqL K H p a/\atI a i=some v/\Q v H
def zqQ (K:X5):R2:=fun x y H Q=>∃p a i v,x=.ref p/\y=.int i/\SqT K H p a/\atI a i=some v/\Q v H
def zqR:R2:=fun x y H Q=>∃z i c,x=.str z/\y=.int i/\z.length<=Xw/\atI z.cps.toList i=some c/\Q (.str ⟨#[c]⟩) H
theorem zmm:IxR X (zpQ X.K):=by
 intro k g a s n H x y v u Q I E G h m;obtain⟨p,O,i,z,rfl,rfl,D,he,q⟩:=h;cases E;obtain⟨t,rfl⟩:=G;obtain⟨d,r,e,N⟩:=I.list D;obtain⟨j,h1,h2,L,o,A⟩:=zbQ he;obtain⟨w,l,f⟩:=r.get h2;have B:=r.length;have M:=YC;have b:EP X a n Q w s:=⟨z,H,I,f,q⟩;by_cases h0:0<=i
 ·have c:i.toNat=j:=by
   rw[Pc h0 A] at h1;exact Option.some.inj h1
  exact item_listR e.isList h0 (by lia) (by rw[c];simpa using l) b m
 ·have c:(i+(d.toArray.size:Int)).toNat=j:=by
   rw[PH (by lia) o] at h1;rw[Xs,<- B];exact Option.some.inj h1
  exact PB (x:=w) e.isList.typeIs slot_list_getitem.lookup
   (Pz (Q:=fun r J=>r=w/\EP X a n Q r J) e.isList (by lia) (by rw[Xs]<;>lia) (by lia) (by rw[c];simpa using l) ⟨rfl,b⟩) m
theorem zod:IxR X (zqQ X.K):=by
 intro e d a s g H x y v u Q I A B h n;obtain⟨p,N,i,z,rfl,rfl,m,he,q⟩:=h;cases A;obtain⟨t,rfl⟩:=B;obtain⟨o,r,f,M⟩:=I.tuple m;obtain⟨j,h1,h2,E,G,J⟩:=zbQ he;obtain⟨w,k,c⟩:=r.get h2;have l:=r.length;have L:=YC;have b:EP X a g Q w s:=⟨z,H,I,c,q⟩;exact PB (x:=w) f.typeIs slot_tuple_getitem.lookup
  (getItem_tuple (j:=j) (Q:=fun r D=>r=w/\EP X a g Q r D) f (by lia) (by lia) (by rw[Xs,<- l];exact h1) (by simpa using k) ⟨rfl,b⟩) n
theorem zoe:IxR X zqR:=by
 intro b a d s B H x y v u Q I n o h m;obtain⟨z,i,c,rfl,rfl,w,he,q⟩:=h;obtain⟨t,rfl⟩:=n;obtain⟨A,rfl⟩:=o;obtain⟨j,h1,h2,p,g,k⟩:=zbQ he;have l:z.cps.toList.length=z.length:=by simp[Str.length]
 rw[l] at h1 g k;have r:=YC;exact tail_any (typeIs_str s z t) slot_str_getitem.lookup (getItem_str (c:=c) (by
  have e:decide (i < -(2^63:Int))=false:=decide_eq_false (by lia);have f:decide (i >= 2^63)=false:=decide_eq_false (by lia);rw[e,f,Bool.or_false]) (by rw[h1];simpa using h2) ⟨.str ⟨#[c]⟩,H,I.tok _,⟨_,rfl⟩,q⟩) m
theorem zgV (a:List X9)(n j:Nat)(u:X9):Ve (·.setIfInBounds j u) { cls:=.type "list",data:=.seq a.toArray n }={ cls:=.type "list",data:=.seq (a.set j u).toArray n }:=by
 simp[Ve]
theorem Inv.lst {b:List (Addr×Obj)}{c:St}{H:Hp}{s:X8}{p:Addr}{xs:List V}(I:Inv X b c H s)(h:H p=some (.lst xs)) :
  ∃(a:List X9) (n:Nat),Vals xs a/\s.heap.get? p=some { cls:=.type "list",data:=.seq a.toArray n }/\xs.length<=Xw:=by
 obtain⟨z,a,n,r,e⟩:=I.hok p _ h;exact⟨a,n,r,e,z⟩
theorem Inv.lstUpd {a:List (Addr×Obj)}{i:St}{H:Hp}{s:X8}{p:Addr}{xs ys:List V}{c its':List X9}{n d:Nat}{f:Obj->Obj}(I:Inv X a i H s)(h:H p=some (.lst xs))
  (k:s.heap.get? p=some { cls:=.type "list",data:=.seq c.toArray n }) (g:f { cls:=.type "list",data:=.seq c.toArray n }={ cls:=.type "list",data:=.seq its'.toArray d }) (r:Vals ys its') (l:ys.length<=Xw) (t:Nat) :
  Inv X a i (upd H p (.lst ys)) { s with heap:=s.heap.update p f,toks:=t }:=by
 have e:(s.heap.update p f).get? p=some { cls:=.type "list",data:=.seq its'.toArray d }:=by
  rw[VP f k (by rw[g]<;>rfl),g]
 refine I.write (x:=p) (e:=p) (by rw[h];trivial) (.inl rfl) (fun b u j q=>(Uo _ _ (U9 j)).trans q) ⟨_,e⟩ ?_;exact⟨l,its',d,r,e⟩
def zpR:V->V->V->Hp->(Hp->Prop)->Prop:=fun o i v H Q=>∃p a k j,o=.ref p/\i=.int k/\H p=some (.lst a)/\ixN a.length k=some j/\Q (upd H p (.lst (a.set j v)))
theorem set_list:zn0 X zpR:=by
 intro b s B H o i v G E u Q I y x z h;obtain⟨p,A,k,j,rfl,rfl,l,m,q⟩:=h;cases y;obtain⟨t,rfl⟩:=x;obtain⟨a,n,r,d,w⟩:=I.lst l;obtain⟨h1,h2,f,g⟩:=zic m;have c:=r.length;have D:=YC;have e:Inv X b B (upd H p (.lst (A.set j v))) { s with heap:=s.heap.update p (Ve (·.setIfInBounds j u)) } :=
  I.lstUpd l d (zgV a n j u) (r.set z j) (by rw[R1];exact w) s.toks
 by_cases h0:0<=k
 ·have hk:k.toNat=j:=by
   rw[Pc h0 g] at h1;exact Option.some.inj h1
  exact PySem.W.ki_setAt d h0 (by lia) (by rw[Xs,<- c];exact g) (by rw[hk];exact⟨_,e,q⟩)
 ·have hk:(k+(a.toArray.size:Int)).toNat=j:=by
   rw[PH (by lia) f] at h1;rw[Xs,<- c];exact Option.some.inj h1
  exact PySem.W.ki_setBack d (by lia) (by rw[Xs,<- c];exact f) (by lia) (by rw[hk];exact⟨_,e,q⟩)
theorem zeD (lo a:Option Int)(n:Nat):(S8 lo a none n).1=((HT.sIx n 0 lo:Nat):Int)/\(S8 lo a none n).2.1=((HT.sIx n n a:Nat):Int)/\(S8 lo a none n).2.2=1:=by
 refine⟨?_,?_,rfl⟩
 ·cases lo with
  | none=>simp[S8,HT.sIx]
  | some i =>
   simp only[S8,HT.sIx,Option.getD_none,show (1:Int)>0 by decide,if_true];by_cases h:i<0
   ·simp only[h,if_true]<;>lia
   ·simp only[h,if_false]<;>lia
 ·cases a with
  | none=>simp[S8,HT.sIx]
  | some i =>
   simp only[S8,HT.sIx,Option.getD_none,show (1:Int)>0 by decide,if_true];by_cases h:i<0
   ·simp only[h,if_true]<;>lia
   ·simp only[h,if_false]<;>lia
theorem zdl (a:List X9)(lo b:Option Int):slicePick a.toArray lo b none=((a.drop (HT.sIx a.length 0 lo)).take (HT.sIx a.length a.length b-HT.sIx a.length 0 lo)).toArray:=by
 obtain⟨h1,h2,c⟩:=zeD lo b a.toArray.size;unfold slicePick;rw[h1,h2,c];simp only[sliceRange_one,pick_run,Xs]<;>rfl
def zpS (K:X5):V->Option Int->Option Int->Hp->VK->Prop:=fun x lo c H Q=>∃a b,x=.ref a/\SqL K H a b/\∀p,H p=none->Q (.ref p) (upd H p (.lst (zah b lo c)))
theorem zbR:SlR X (zpS X.K):=by
 intro g s z H x v w y lo e u Q I p i m n h;obtain⟨a,c,rfl,j,q⟩:=h;cases p;obtain⟨l,r,f,k⟩:=I.list j;have d:=r.length;refine⟨"list",_,slot_list_getitem.lookup,f.isList.typeIs,?_⟩;refine wpAny_getItem_list_slice f.isList i m n .none (by simp) ?_ (by rw[Xs]<;>lia);rw[zdl,<- d];refine⟨.ref s.heap.objs.size,_,I.laid (t':=s.toks) (o:=.lst (zah c lo e)) (fun b ob q=>X0 _ q) (XV _) ?_,rfl,q _ (I.hok.fresh (XV _))⟩;exact⟨X6 (zfv c lo e) k,_,0,(r.drop (HT.sIx c.length 0 lo)).take (HT.sIx c.length c.length e-HT.sIx c.length 0 lo),W9 _ rfl⟩
def zaj:V->Bool
 | .non=>true
 | .bl _=>true
 | .int _=>true
 | .str _=>true
 | _=>false
def eqV:V->V->Bool
 | .non,.non=>true
 | .bl a,.bl b=>a==b
 | .bl a,.int b=>(if a then 1 else 0)==b
 | .int a,.bl b=>a==(if b then 1 else 0)
 | .int a,.int b=>a==b
 | .str a,.str b=>a==b
 | _,_=>false
theorem zof {A:WH}{s:X8}{y x:V}{u v:X9}(f:RelV y u)(c:RelV x v)(g:zaj y=true)(e:zaj x=true):SeqAt.EqAt A s u v (eqV y x):=by
 cases y with
 | non =>
  cases f;cases x with
  | non=>cases c;exact SeqAt.EqAt.same _
  | bl b=>cases c;exact SeqAt.EqAt.none_bool b
  | int b=>obtain⟨t,rfl⟩:=c;exact SeqAt.EqAt.none_int b t
  | str b=>obtain⟨t,rfl⟩:=c;exact SeqAt.EqAt.none_str b t
  | _=>exact absurd (show false=true from e) XY
 | bl a =>
  cases f;cases x with
  | non=>cases c;exact SeqAt.EqAt.bool_none a
  | bl b=>cases c;exact SeqAt.EqAt.bool_bool a b
  | int b=>obtain⟨t,rfl⟩:=c;exact SeqAt.EqAt.bool_int a b t
  | str b=>obtain⟨t,rfl⟩:=c;exact SeqAt.EqAt.bool_str a b t
  | _=>exact absurd (show false=true from e) XY
 | int a =>
  obtain⟨d,rfl⟩:=f;cases x with
  | non=>cases c;exact SeqAt.EqAt.int_none a d
  | bl b=>cases c;exact SeqAt.EqAt.int_bool a d b
  | int b=>obtain⟨t,rfl⟩:=c;exact SeqAt.EqAt.int_int a d b t
  | str b=>obtain⟨t,rfl⟩:=c;exact SeqAt.EqAt.int_str a d b t
  | _=>exact absurd (show false=true from e) XY
 | str a =>
  obtain⟨d,rfl⟩:=f;cases x with
  | non=>cases c;exact SeqAt.EqAt.str_none a d
  | bl b=>cases c;exact SeqAt.EqAt.str_bool a d b
  | int b=>obtain⟨t,rfl⟩:=c;exact SeqAt.EqAt.str_int a d b t
  | str b=>obtain⟨t,rfl⟩:=c;exact SeqAt.EqAt.str_str a d b t
  | _=>exact absurd (show false=true from e) XY
 | _=>exact absurd (show false=true from g) XY
def eqU (x:V)(u:X9):Bool:=match u with
 | .none=>eqV .non x
 | .bool b=>eqV (.bl b) x
 | .int i _=>eqV (.int i) x
 | .str z _=>eqV (.str z) x
 | _=>false
theorem zke {x y:V}{u:X9}(r:RelV y u)(f:zaj y=true):eqU x u=eqV y x:=by
 cases y with
 | non=>cases r;rfl
 | bl b=>cases r;rfl
 | int i=>obtain⟨t,rfl⟩:=r;rfl
 | str z=>obtain⟨t,rfl⟩:=r;rfl
 | _=>exact absurd (show false=true from f) XY
theorem zeE {x:V}:∀{xs:List V} {a:List X9},Vals xs a->xs.all zaj=true->a.any (eqU x)=xs.any fun y=>eqV y x
 | _,_,.nil,_=>rfl
 | y::xs,u::a,.cons r t,f=>by
  rw[Rl,We] at f;rw[Sd,Sd,zke r f.1,zeE t f.2]
theorem zb8 {A:WH}{s:X8}{x:V}{v:X9}(c:RelV x v)(b:zaj x=true):∀{xs:List V} {a:List X9},Vals xs a->xs.all zaj=true->∀u∈a,SeqAt.EqAt A s u v (eqU x u)
 | _,_,.nil,_=>fun u hu=>by cases hu
 | y::xs,u::a,.cons r t,f=>fun d hu=>by
  rw[Rl,We] at f;rcases XJ.mp hu with rfl | hu
  ·rw[zke r f.1];exact zof r c f.1 b
  ·exact zb8 c b t f.2 d hu
def inV (x:V)(xs:List V):Bool:=xs.any fun y=>eqV y x
def rIn (K:X5)(neg:Bool):R2:=fun x y H Q=>∃p a,y=.ref p/\(SqL K H p a\/SqT K H p a)/\zaj x=true/\a.all zaj=true/\Q (.bl (if neg then !inV x a else inV x a)) H
theorem zi7:OpR X (V9 .In) (rIn X.K false):=by
 intro e s k H x y v u Q I f i h;obtain⟨p,j,rfl,hq,d,fs,q⟩:=h;cases i;rcases hq with hq | hq
 ·obtain⟨a,r,c,g⟩:=I.list hq;refine SeqAt.in_listAt (eqU x) c.isList (fun w b=>zb8 f d r fs w (by simpa using b)) ⟨.bl _,H,I,rfl,?_⟩;rw[show a.toArray.any (eqU x)=a.any (eqU x) by simp,zeE r fs];exact q
 ·obtain⟨a,r,c,g⟩:=I.tuple hq;refine SeqAt.in_tupleAt (eqU x) c (fun w b=>zb8 f d r fs w (by simpa using b)) ⟨.bl _,H,I,rfl,?_⟩;rw[show a.toArray.any (eqU x)=a.any (eqU x) by simp,zeE r fs];exact q
theorem zak:OpR X (V9 .NotIn) (fun x y H Q=>∃i j,x=.str i/\y=.str j/\Q (.bl (!(!(Vg j i 0 j.length 1).isEmpty))) H):=by
 intro a s e H x y v u Q I b c h;obtain⟨i,j,rfl,rfl,q⟩:=h;obtain⟨t,rfl⟩:=b;obtain⟨d,rfl⟩:=c;exact notIn_str ⟨.bl _,H,I,rfl,q⟩
theorem zeF:jY X (.builtin "len") (fun xs H Q=>∃p ys,xs=[.ref p]/\(SqL X.K H p ys\/SqT X.K H p ys)/\Q (.int ys.length) H):=by
 intro e s k H xs j Q I r h;obtain⟨p,ys,rfl,hq,q⟩:=h;obtain⟨u,rfl,g⟩:=vals1 r;cases g;have i:=YC;rcases hq with hq | hq
 ·obtain⟨b,d,c,f⟩:=I.list hq;have a:=d.length;exact Calls.call_len_list c.isList (by simp only[Xs]<;>lia) ⟨.int ys.length,H,I.tok _,⟨s.toks+1,by rw[Xs,a]⟩,q⟩
 ·obtain⟨b,d,c,f⟩:=I.tuple hq;have a:=d.length;exact len_tuple c (by simp only[Xs]<;>lia) ⟨.int ys.length,H,I.tok _,⟨s.toks+1,by rw[Xs,a]⟩,q⟩
theorem xg:jY X (.builtin "len") (fun xs H Q=>∃z,xs=[.str z]/\z.length<=Xw/\Q (.int z.length) H):=by
 intro a s e H xs d Q I r h;obtain⟨z,rfl,c,q⟩:=h;obtain⟨u,rfl,t,rfl⟩:=vals1 r;have b:=YC;exact len_str (by lia) ⟨.int z.length,H,I.tok _,⟨_,rfl⟩,q⟩
theorem zal:jY X (.type "list") (fun xs H Q=>∃p ys,xs=[.ref p]/\(SqL X.K H p ys\/SqT X.K H p ys)/\∀l,H l=none->Q (.ref l) (upd H l (.lst ys))):=by
 intro m s D H xs E Q I r h;obtain⟨p,ys,rfl,hq,q⟩:=h;obtain⟨u,rfl,B⟩:=vals1 r;cases B;have g:∀(a:List X9),Vals ys a->ys.length<=Xw->∀(c:Heap) (d:Nat),(∀b A,s.heap.get? b=some A->c.get? b=some A) ->
   c.get? s.heap.objs.size=some { cls:=.type "list",dict:=none,data:=.seq a.toArray d,slots:=#[] }->EP X m D Q (.ref s.heap.objs.size) { s with heap:=c }:=fun a f j c d k e =>
  ⟨.ref s.heap.objs.size,_,I.laid (t':=s.toks) k (XV _) (show jk X.prog X.w _ c _ (.lst ys) from ⟨j,a,d,f,e⟩),rfl,q _ (I.hok.fresh (XV _))⟩
 rcases hq with hq | hq
 ·obtain⟨a,f,z,j⟩:=I.list hq;have i:=f.length;obtain⟨o,y,v,n,x⟩:=z.isList;exact call_list_seq p (.inl rfl) y v x (fun c d k e=>g a f j c d k e) (by simp only[Xs]<;>lia)
 ·obtain⟨a,f,z,j⟩:=I.tuple hq;have i:=f.length;obtain⟨o,y,v,n,x⟩:=z;exact call_list_seq p (.inr rfl) y v x (fun c d k e=>g a f j c d k e) (by simp only[Xs]<;>lia)
def tyV (K:X5)(T:String)(x:V)(H:Hp):Prop:=match x with
 | .str _=>T="str"
 | .int _=>T="int"
 | .ref p=>(T="list"/\∃b,SqL K H p b)\/(T="tuple"/\∃o,K.lookup p=some o/\o.cls=.type "tuple"/\o.dict=none) \/
   (T="dict"/\((∃a,H p=some (.dK a))\/∃a,H p=some (.dT a)))\/(T="set"/\∃S n,H p=some (.set S n))
 | _=>False
theorem zkf {d:List (Addr×Obj)}{q:St}{H:Hp}{s:X8}{T:String}{x:V}{v:X9}(I:Inv X d q H s)(r:RelV x v)(ty:tyV X.K T x H) :
  s.TypeIs v T/\∀a,v=.ref a->∃ob,s.heap.get? a=some ob/\ob.dict=none:=by
 cases x with
 | str z =>
  obtain⟨t,rfl⟩:=r;cases (show T="str" from ty);exact⟨typeIs_str s z t,fun _ e=>nomatch e⟩
 | int i =>
  obtain⟨t,rfl⟩:=r;cases (show T="int" from ty);exact⟨typeIs_int s i t,fun _ e=>nomatch e⟩
 | ref p =>
  cases r;rcases ty with ⟨rfl,u,l⟩ | ⟨rfl,o,hk,k,g⟩ | ⟨rfl,hk⟩ | ⟨rfl,S,n,hk⟩
  ·obtain⟨m,_,j,_⟩:=I.list l;refine⟨j.isList.typeIs,fun a e=>?_⟩;cases e;obtain⟨o,n,e,c,g,_⟩:=j;exact⟨o,e,g⟩
  ·refine⟨⟨o,I.kIn p o hk,k⟩,fun a e=>?_⟩;cases e;exact⟨o,I.kIn _ o hk,g⟩
  ·have z:∃o,s.heap.get? p=some o/\o.ExactDict:=by
    rcases hk with ⟨h,hk⟩ | ⟨h,hk⟩
    ·obtain⟨_,_,_,_,o,_,_,e,b,_⟩:=I.hok p _ hk;exact⟨o,e,b⟩
    ·obtain⟨_,_,_,_,o,_,_,e,b,_⟩:=I.hok p _ hk;exact⟨o,e,b⟩
   obtain⟨o,e,b⟩:=z;refine⟨⟨o,e,b.1⟩,fun a f=>?_⟩;cases f;exact⟨o,e,b.2.1⟩
  ·obtain⟨o,_,_,_,e,b,_⟩:=I.hok p _ hk;refine⟨⟨o,e,b.1⟩,fun a f=>?_⟩;cases f;exact⟨o,e,b.2.1⟩
 | _=>exact Wv ty
def zqS (K:X5)(T:String)(r:V->List V->Hp->VK->Prop)(b:TE):TE:=fun c H Q=>b c H fun x a=>tyV K T x a/\r x [] a Q
def tBM (K:X5)(T:String)(r:V->List V->Hp->VK->Prop)(d:TE)(t:TA):TE:=fun b H Q=>d b H fun x a=>tyV K T x a/\t b a fun e c=>r x e c Q
variable {o e:Expr}{es:List Expr}{to:TE}{t:TA}{name:Str}{apos cpos:Pos}{T id:String}{r:V->List V->Hp->VK->Prop}
theorem zog (m:PlainAttrs T)(d:Slot T name id)(e:typeOf (.builtin id)=pure (.type "method_descriptor"))(k:MtR X id r)(l:PE X o to)
  (b:OH o name X.env (eval o X.env)=eval o X.env:=by rfl) (c:(apos.endLine==cpos.line)=true:=by rfl):PE X (.Call (.Attribute o name apos) [] [] cpos) (zqS X.K T r to):=by
 intro a s i H Q I h;refine wpAny_Call_method0_late b c (thn (l a s i H _ I h) fun v s1 ⟨x,j,f,g,ty,n⟩=>?_);obtain⟨h1,h2⟩:=zkf f g ty;exact⟨T,id,m,d,e,h1,h2,Py rfl (PySem.evalArgs_none (k a s1 i j x [] v [] Q f g .nil n))⟩
theorem xw (A:PlainAttrs T)(g:Slot T name id)(i:typeOf (.builtin id)=pure (.type "method_descriptor"))(w:MtR X id r)(y:PE X o to)(u:PA X (e::es) t)
  (c:OH o name X.env (eval o X.env)=eval o X.env:=by rfl)
  (f:((SZ cpos (WA (e::es) X.env)).all (fun x=>!x.1)&&(backToKw cpos (keywordEach [] X.env)).all (fun x=>x.1.isSome)
   && decide ((e::es).length+([]:List Og).length+(if ([]:List Og).isEmpty then 0 else 1)<30))=true:=by rfl)
  (d:(apos.endLine==cpos.line)=true:=by rfl) (z:WA (e::es) X.env=(false,eval e X.env)::WA es X.env:=by rfl) (b:(SZ cpos (WA es X.env)).any (·.1)=false:=by rfl) :
  PE X (.Call (.Attribute o name apos) (e::es) [] cpos) (tBM X.K T r to t):=by
 intro a s j H Q I h;refine wpAny_Call_method_late c f d rfl (thn (y a s j H _ I h) fun v s1 ⟨x,n,k,m,ty,B⟩=>?_);obtain⟨h1,h2⟩:=zkf k m ty;refine⟨T,id,A,g,i,h1,h2,?_⟩;have l:=u cpos a s1 j n _ k B;rw[z] at l ⊢;refine Py (by show (false || (SZ cpos (WA es X.env)).any (·.1))=false;rw[b]<;>rfl) (O3 ?_);exact thn l fun J G ⟨L,p,q,E,D⟩=>w a G j p x L v J Q q m E D
/- xs.append(e),list.index on a module's tuple .. are MtR facts of 06m -/
end
def MtM (X:Cx)(id:String)(r:V->List V->Hp->VK->Prop):Prop :=
 ∀(a:List (Addr×Obj)) (s:X8) (d:St) (H:Hp) (x:V) (c:List V) (v:X9) (b:List X9) (Q:VK),Inv X a d H s->RelV x v->Vals c b->r x c H Q ->
  W8 (Xi X.prog X.w) X.A (call (.builtin id) (v::b)) (EP X a d Q) X.xe s
theorem Vals.one:∀{x:V} {a:List X9},Vals [x] a->∃u,a=[u]/\RelV x u
 | _,_,.cons r .nil=>⟨_,rfl,r⟩
theorem Vals.zero:∀{a:List X9},Vals [] a->a=[]
 | _,.nil=>rfl
theorem Vals.rep {xs:List V}{a:List X9}(h:Vals xs a):∀k:Nat,Vals (WP k xs).flatten (WP k a).flatten
 | 0=>.nil
 | k+1=>by
  rw[Vv,Vv,WN,WN];exact Vals.append h (Vals.rep h k)
theorem foldl_rep (b:List X9):∀(k:Nat) (a:List X9),
  List.foldl (fun d f=>d++f) a.toArray (WP k b.toArray)=(a++(WP k b).flatten).toArray
 | 0,a=>by simp
 | k+1,a=>by
  have e:a.toArray++b.toArray=(a++b).toArray:=by simp
  have c:(a++b)++(WP k b).flatten=a++(WP (k+1) b).flatten:=by
   rw[Vv,WN,WY]
  rw[<- c,<- foldl_rep b k (a++b),<- e,Vv,VT]
section
variable {X:Cx}{pins:List (Addr×Obj)}{σ:St}{H:Hp}{s:X8}{l b:Addr}{xs ys zs:List V}
theorem Inv.lset {a its':List X9}{n:Nat}{f:Array X9->Array X9}{t':Nat}(I:Inv X pins σ H s)(b:H l=some (.lst xs))
  (e:s.heap.get? l=some { cls:=.type "list",data:=.seq a.toArray n }) (d:f a.toArray=its'.toArray) (h:Vals ys its') (i:ys.length<=Xw) :
  Inv X pins σ (upd H l (.lst ys)) { s with heap:=s.heap.update l (Ve f),toks:=t' }:=by
 have q:=PySem.IsL.update e f;rw[d] at q;refine I.write (x:=l) (e:=l) (by rw[b];exact trivial) (.inl rfl) (fun j u c g=>(Uo s.heap (Ve f) (U9 c)).trans g) ⟨_,q⟩ ?_;exact⟨i,its',_,h,q⟩
theorem Inv.lnew {a:List X9}{t':Nat}(I:Inv X pins σ H s)(b:Vals ys a)(c:ys.length<=Xw) :
  Inv X pins σ (upd H s.heap.objs.size (.lst ys)) { s with heap:=s.heap.push { cls:=.type "list",data:=.seq a.toArray },toks:=t' } :=
 I.laid (fun _ _ q=>X0 _ q) (XV _) ⟨c,a,0,b,W9 _ rfl⟩
theorem Inv.fresh (I:Inv X pins σ H s):H s.heap.objs.size=none:=I.hok.fresh (XV _)
theorem Inv.lstM (I:Inv X pins σ H s)(b:H l=some (.lst xs)):xs.length<=Xw/\∃(a:List X9) (n:Nat),Vals xs a/\xs.length=a.length/\s.heap.get? l=some { cls:=.type "list",data:=.seq a.toArray n }:=by
 obtain⟨z,a,n,r,e⟩:=I.hok l _ b;exact⟨z,a,n,r,r.length,e⟩
theorem zfw {n:Nat}(h:n<=Xw):UL n=false:=by
 unfold UL;exact decide_eq_false (by lia)
end
section
variable {X:Cx}
def zmn:V->List V->Hp->VK->Prop:=fun x b H Q=>∃l a y,x=.ref l/\b=[y]/\H l=some (.lst a)/\a.length<Xw/\Q .non (upd H l (.lst (a++[y])))
theorem Zo:MtM X "list.append" zmn:=by
 intro c s p H x m v k Q I g f h;obtain⟨l,o,y,rfl,rfl,b,j,q⟩:=h;cases g;obtain⟨u,rfl,d⟩:=f.one;obtain⟨z,a,n,r,i,e⟩:=I.lstM b;refine TX F.slot_list_append ⟨_,e,rfl⟩ F.entry_list_append (F.args_list_append_2 _ _) (PySem.list_append l a.toArray n u (by rw[Xs];lia)) ⟨e,?_⟩;refine⟨.non,_,I.lset (its':=a++[u]) b e (by simp) (r.append (.cons d .nil)) ?_,rfl,q⟩;rw[XW,Pl];lia
def zmo:V->List V->Hp->VK->Prop:=fun x d H Q=>∃l b a c,x=.ref l/\d=[.ref b]/\H l=some (.lst a)/\H b=some (.lst c)/\a.length+c.length<=Xw/\Q .non (upd H l (.lst (a++c)))
theorem zdJ:MtM X "list.extend" zmo:=by
 intro i s N H x G v E Q I A y h;obtain⟨l,b,J,M,rfl,rfl,g,k,D,q⟩:=h;cases A;obtain⟨u,rfl,w⟩:=y.one;cases w;obtain⟨z,c,n,r,B,e⟩:=I.lstM g;obtain⟨L,a,o,p,m,j⟩:=I.lstM k;have f:c.toArray.size+a.toArray.size<=Xw:=by rw[Xs,Xs];lia
 have d:¬ (!c.toArray.isEmpty&&UL (c.toArray.size+a.toArray.size))=true:=by
  rw[zfw f,Bool.and_false];exact XY
 refine TX F.slot_list_extend ⟨_,e,rfl⟩ F.entry_list_extend (F.args_list_extend_2 _ _)
  (AutoSeq1.list_extend_list_list_0 l c.toArray n b a.toArray o d (by rw[Xs];lia) (by lia)) ⟨e,j,?_⟩
 refine⟨.non,_,I.lset (its':=c++a) g e (by simp) (r.append p) ?_,rfl,q⟩;rw[XW];lia
def zoh:V->List V->Hp->VK->Prop:=fun x a H Q=>∃l b,x=.ref l/\a=[]/\H l=some (.lst b)/\Q .non (upd H l (.lst []))
theorem zkg:MtM X "list.clear" zoh:=by
 intro d s o H x k v j Q I g f h;obtain⟨l,m,rfl,rfl,c,q⟩:=h;cases g;have a:=f.zero;subst a;obtain⟨z,b,n,r,i,e⟩:=I.lstM c;refine TX F.slot_list_clear ⟨_,e,rfl⟩ F.entry_list_clear (F.args_list_clear_1 _) (AutoSeq1.list_clear_list_0 l b.toArray n (by rw[Xs];lia)) ⟨e,?_⟩;exact⟨.non,_,I.lset (its':=[]) (ys:=[]) c e rfl .nil (W5 _),rfl,q⟩
def zqT:R2:=fun x y H Q=>∃l b a c,x=.ref l/\y=.ref b/\H l=some (.lst a)/\H b=some (.lst c)/\a.length+c.length<=Xw/\∀p,H p=none->Q (.ref p) (upd H p (.lst (a++c)))
theorem Z3:OpR X (Uj .Add) zqT:=by
 intro d s J H x y v u Q I o p h;obtain⟨l,b,D,G,rfl,rfl,j,i,A,q⟩:=h;cases o;cases p;obtain⟨z,c,n,r,w,e⟩:=I.lstM j;obtain⟨E,a,B,m,k,f⟩:=I.lstM i;refine PySem.P.add_list e f ?_ (by rw[Xs,Xs];lia);have g:c.toArray++a.toArray=(c++a).toArray:=by simp
 rw[g];exact⟨.ref _,_,I.lnew (t':=s.toks) (r.append m) (by rw[XW];lia),rfl,q _ I.fresh⟩
def zqU:R2:=fun x y H Q=>∃l k a,x=.ref l/\y=.int k/\H l=some (.lst a)/\-(2^63)<=k/\k<2^63/\a.length*k.toNat<=Xw /\
 ∀p,H p=none->Q (.ref p) (upd H p (.lst (WP k.toNat a).flatten))
theorem len_rep {α:Type}(xs:List α)(k:Nat):(WP k xs).flatten.length=k*xs.length:=by
 induction k with
 | zero=>simp
 | succ k a=>rw[Vv,WN,XW,a,RS,TL]
theorem zgW:OpR X (Uj .Mult) zqU:=by
 intro w s N H x y v u Q I E G h;obtain⟨l,k,M,rfl,rfl,B,h1,h2,p,q⟩:=h;cases E;obtain⟨t,rfl⟩:=G;obtain⟨z,b,n,r,D,e⟩:=I.lstM B;have g:b.toArray.size*k.toNat<=Xw:=by rw[Xs,<- D];exact p
 have d:¬ b.toArray.size*k.toNat>(2^63-1)/8:=by
  have:(Xw:Nat)<=(2^63-1)/8:=by decide
  lia
 have f:¬ (!Builtin.List.listFitsIndex k)=true:=by
  rw[fitsIndex_both h1 h2];exact XY
 have c:¬ UL (b.toArray.size*k.toNat)=true:=by
  rw[zfw g];exact XY
 have i:List.foldl (fun j o=>j++o) #[] (WP (if b.toArray.isEmpty=true then 0 else k.toNat) b.toArray)=(WP k.toNat b).flatten.toArray:=by
  have A:∀m:Nat,List.foldl (fun j o=>j++o) #[] (WP m b.toArray)=(WP m b).flatten.toArray:=fun m=>by
   have:=foldl_rep b m [];rw[Pq] at this;exact this
  rw[A];cases b with
  | nil=>simp
  | cons a L=>rw[if_neg (by simp)]
 refine wpAny_binaryOp_repeat_ref (T:="list") (U:="int") (by decide) ⟨_,e,rfl⟩ (fun J=>typeIs_int J k t) noFill_list_mul F.fills_int_mul F.slot_int_rmul repeat_list F.slot_int_index.lookup
  (TX F.slot_int_rmul (typeIs_int s k t) F.entry_int_rmul (F.args_int_rmul_2 _ _) (int___rmul___int_list k t l b.toArray n)
   ⟨e,rfl,⟨_,e,rfl⟩,TX F.slot_list_mul ⟨_,e,rfl⟩ F.entry_list_mul (F.args_list_mul_2 _ _) (AutoListH.list___mul___list_int_3 l b.toArray n k t f d c) ⟨e,?_⟩⟩)
 rw[i];exact⟨.ref _,_,I.lnew (t':=s.toks) (r.rep k.toNat) (by rw[len_rep,SV];exact p),rfl,q _ I.fresh⟩
end
section
variable {prog:Xg}{w:WQ}{A:WH}{E:X9->X8->Prop}{s:X8}
end
section
variable {X:Cx}
end
end L2
namespace Att
open PySem PySem.W PySem.Calls PyProof.Rows
theorem zbG {P:Params}{h:Heap}:∀(c:List Int) (vs:List X9),WellAll P h vs (c.map WData.int)->OR vs c:=by
 intro c;induction c with
 | nil =>
  intro vs w;rw[Os] at w;cases w;exact .nil
 | cons n c d =>
  intro vs w;rw[Xe] at w;cases w with
  | cons a b =>
   cases a;exact .cons _ _ (d _ b)
theorem zi8 {l:OpenLaw}{n:Nat}(s:l.most=some n){P:Params}{h:Heap}{args:List WData}{e:List X9}
  (c:l.row.toRowW.claim.pre args=true) (m:WellAll P h e args) :
  ∃a vs b,e=[Wx a]/\args=[WData.list (b.map WData.int)]/\h.get? a=some { cls:=.type "list",data:=.seq vs.toArray }/\OR vs b/\b.length<=n:=by
 have k:WShape.hasAll [] args [.list .int]=true:=(pre_splitW c).1;have o:l.pre.holds [] { args:=args }=true:=(pre_splitW c).2;obtain⟨d,r,rfl,h1,h2⟩:=hasAllW_cons k;obtain rfl:=hasAllW_nil h2;obtain⟨y,rfl,p⟩:=hasW_list h1;obtain⟨b,rfl⟩:=items_int p;have g:b.length<=n:=by
  unfold OpenLaw.pre at o;have i:(WTm.not (.lt (.lit (.int (n:Int))) (.len (.arg 0)))).holds [] { args:=[.list (b.map .int)] }=true:=by
   have i:=(holds_andW o).1;rw[s] at i;exact i
  have j:=condW_of i (w_not (w_lt w_lit (w_len_list (w_arg rfl))));rw[Y1] at j;refine Nat.le_of_not_lt fun q=>?_;have v:(n:Int)<((b.length:Nat):Int):=by lia
  first
   | (rw[decide_eq_true v] at j;exact absurd j (by decide))
   | (simp at j;lia)
 cases m with
 | cons w x =>
  cases x;cases w with
  | list u f=>exact⟨_,_,b,rfl,rfl,u,zbG b _ f,g⟩
theorem zi9 (l:OpenLaw)(args:List WData):l.row.toRowW.claim.post args (.bool true) args=true :=
 postW_of (r:=l.row.toRowW) (X:=(true==true))
  (show WShape.has [] (.bool true) .bool=true by first | rfl | decide | simp[WShape.has,WShape.arms,WShape.armsAll])
  (show (WTm.eq .res (.lit (.bool true))).value [] { args:=args,res:=some (.bool true),after:=args }=some (.bool (true==true)) from w_eq_bool (w_res rfl) w_lit) rfl
theorem zfx {l:OpenLaw}{n:Nat}{q:Xg}{loose:List Str}{XP:(Str->Option X9)->Heap->Prop}{YP:WQ->Heap->Prop}{d:DefRec}
  (U:l.most=some n) (v:d.params.defaults=[])
  (call:∀(w:WQ) (c b:X8) (m z:Str->Option X9) (g:Addr) (o:Obj) (A k doc:X9) (a:Addr) (vs:List X9) (p:List Int),
   Ground q loose [] XP w c m z b.heap->YP w b.heap ->
   b.heap.get? g=some o->o.data=.func (docDef d.name d.params d.body d.scope A k doc)->b.heap.CodeRec k d.name->m d.name=some (.ref g) ->
   b.heap.get? a=some { cls:=.type "list",data:=.seq vs.toArray }->OR vs p->p.length<=n->b.gens=#[] ->
   T7 (Xi l.prog w) OQ (.call (.ref g) ⟨[.ref a],[]⟩) (fun r s=>r=.ok (.ret (.bool true))/\OldK b.heap s.heap/\s.os=b.os/\Sg s.gens) b) :
  WalkO q loose XP YP l.row.toRowW d [] (fun f vs=>PySem.call f vs):=by
 intro w c b m z G Y g o A k doc I kV ho M u D x N B H as j E aa y O;obtain rfl:I=.none:=Dflts.none D v;obtain rfl:kV=.none:=Dflts.noKw D;obtain⟨a,vs,p,rfl,rfl,i,e,h⟩:=zi8 U j y;refine enter_call (SW (call w c b m z g o A k doc a vs p G Y ho (fd_plain M) u x i e h N) fun r s hq=>?_);obtain⟨rfl,h2,J,L⟩:=hq;exact⟨.inl ⟨.bool true,.bool true,[],rfl,fun _=>rfl,.bool true,zi9 l _,fun _=>⟨List.Pairwise.nil,fun _ Q=>(nomatch Q)⟩⟩,h2,J,L⟩
section
variable {prog:Xg}{w:WQ}{A:WH}{E:X9->X8->Prop}{s:X8}{K:Frag}
end
end Att
namespace L2
open PySem PySem.Spec PyProof.Rows
theorem zdK:∀{vs:List X9} {a:List Int},OR vs a->Vals (a.map V.int) vs
 | _,_,.nil=>.nil
 | _,_,.cons n t h=>.cons ⟨t,rfl⟩ (zdK h)
def zoi (H:Hp):Prop:=∀b,H b=none\/∃o a,H b=some (.frz o (.lst a))
theorem zkh {P:Xg}{w:WQ}{K:X5}{N mb:Str->Option X9}{CX:CXT}{k:Nat}{fa a:Addr}{fd:Xo}{x:Str}{sp:Sp}{c:X8}{vs:List X9}{O:List Int}
  (KX:K.In c.heap) (I:c.heap.Ns XR N) (g:c.heap.Ns OA mb) (ab:∀x:Str,x ≠ "__name__"->mb x=TM x) (G:c.heap.NoLimit) (hg:c.gens=#[])
  (U:c.heap.get? a=some { cls:=.type "list",data:=.seq vs.toArray }) (hi:OR vs O) (hl:O.length<=Xw) (hr:Zg k OQ)
  (F:∀i:Heap,K.In i->i.Ns XR N->qt P w K N i CX k fa fd [x] sp) (y:∀(s:X8) (u:X9),Ov s fd ⟨[u],[]⟩ [(x,u)])
  (ac:∀H:Hp,zoi H->SqL K H a (O.map V.int)->sp [.ref a] H (fun v _=>v=.bl true) fun _ _ _=>False)
  (aa:∀H e j,CX [] H c (fun _ _ _=>False) e j->False) :
  T7 (Xi P w) OQ (.call (.ref fa) ⟨[.ref a],[]⟩) (fun r j=>r=.ok (.ret (.bool true))/\OldK c.heap j.heap/\j.os=c.os/\Sg j.gens) c:=by
 have rv:=zdK hi;have M:=hi.length;have p:∀H:Hp,zoi H->SqL K H a (O.map V.int)->HOk P w H c.heap->(∀b,H b≠none->b=a)->(H a≠none->K.lookup a=none) ->
   T7 (Xi P w) OQ (.call (.ref fa) ⟨[.ref a],[]⟩) (fun r j=>r=.ok (.ret (.bool true))/\OldK c.heap j.heap/\j.os=c.os/\Sg j.gens) c:=by
  intro H hO hS J hA hK;have f:∀{b:Addr} {o:Obj},c.heap.get? b=some o->H b=none->(zey c.heap H).get? b=some o:=fun e n=>zj6 e n;have ae:∀{b:Addr} {o:Obj} {D:Array DictEntry} {B:Nat},c.heap.get? b=some o->o.data=.dict D B->H b=none:=fun {b o D B} e d=>by
   cases q:H b with
   | none=>rfl
   | some u =>
    have Y:b=a:=hA b (by rw[q];simp);subst Y;rw[U] at e;cases e;have d':Data.seq vs.toArray _=Data.dict D B:=d;cases d'
  have l:∀{b:Addr} {m:Str->Option X9},c.heap.Ns b m->(zey c.heap H).Ns b m:=fun {b m} ⟨o,D,B,e,d,r⟩=>⟨o,D,B,f e (ae e d),d,r⟩;have E:K.In (zey c.heap H):=fun b o e=>f (KX b o e) (by
   cases q:H b with
   | none=>rfl
   | some u =>
    have Y:b=a:=hA b (by rw[q];simp);subst Y;rw[hK (by rw[q];simp)] at e;cases e)
  have hM:Mod K N (zey c.heap H):=⟨E,l I,⟨mb,l g,ab⟩,let ⟨mc,h1,h2⟩:=G;⟨mc,l h1,h2⟩⟩;have e0:zmj P w K N (zey c.heap H) OQ [] c H:=⟨rfl,hM,fun b o e=>zmf e,Nat.le_of_eq (zi0 _ _),trivial,fun b g=>absurd (show b∈([]:List Addr) from g) (by simp),J,.of_eq hg⟩;refine SW ((F _ E (l I)).run OQ [] c H ⟨[.ref a],[]⟩ [.ref a] [.ref a] _ _ hr e0 (y c (.ref a)) (.cons rfl .nil) (ac H hO hS)) fun r j h=>?_;cases r with
  | error e=>exact(aa H e j h).elim
  | ok fl =>
   cases fl with
   | next=>exact Wv h
   | brk=>exact Wv h
   | cont=>exact Wv h
   | ret u =>
    obtain⟨v,H',os,A,un,L,r',q⟩:=h;have q':v=.bl true:=q;subst q';obtain rfl:u=Tj true:=r';refine⟨rfl,OldK.of_keep fun b o e=>?_,os,A⟩;cases q:H b with
    | none=>exact un.keep b o e q (by intro z;exact absurd (show b∈([]:List Addr) from z) (by simp)) (by simp)
    | some u =>
     rcases hO b with z | ⟨ob,xs,z⟩
     ·rw[q] at z;cases z
     ·have z2:=un.frzs b ob _ z;obtain⟨e1,_⟩:=J b _ z;obtain⟨e2,_⟩:=L b _ z2;rw[e] at e1;cases e1;exact e2
 cases hk:K.lookup a with
 | some o =>
  have e:=KX a o hk;rw[U] at e;cases e;refine p (fun _=>none) (fun _=>.inl rfl) (.inr ⟨_,vs.toArray,_,hk,rfl,rfl,rfl,by rw[Xs,M];exact hl,by simpa using rv⟩) (fun b u z=>by have Q:(none:Option HO)=some u:=z;cases Q) (fun b z=>absurd rfl z) fun z=>absurd rfl z
 | none =>
  refine p (fun b=>if b=a then some (.frz { cls:=.type "list",data:=.seq vs.toArray } (.lst (O.map V.int))) else none) (fun b=>?_) (.inl (.inr ⟨{ cls:=.type "list",data:=.seq vs.toArray },if_pos rfl⟩)) (fun b u z=>?_) (fun b z=>?_) fun _=>hk
  ·by_cases g:b=a
   ·exact .inr ⟨_,_,if_pos g⟩
   ·exact .inl (if_neg g)
  ·by_cases g:b=a
   ·have Q:=(if_pos g).symm.trans z;cases Q;subst g;exact⟨U,by rw[Y1];exact hl,vs,_,rv,U⟩
   ·have Q:=(if_neg g).symm.trans z;cases Q
  ·by_cases g:b=a
   ·exact g
   ·exact absurd (if_neg g) z
theorem zid {l:Pp}{n k:Nat}{q:Xg}{loose:List Str}{XP:(Str->Option X9)->Heap->Prop}{YP:WQ->Heap->Prop}{d:DefRec}{K:Params->X5}{CX:WQ->CXT}{sp:WQ->Sp}{x:Str}
  (hn:l.most=some n) (E:n<=Xw) (B:d.params.defaults=[]) (hr:Zg k OQ)
  (Q:∀(w:WQ) (h:Heap),YP w h->(K w.params).In h)
  (F:∀(w:WQ) (j:Str->Option X9) (r:Addr) (h:Heap),(K w.params).In h->h.Ns XR j->j d.name=some (.ref r) ->
   ∃z:Xo,(∀(s:X8) (u:X9),Ov s z ⟨[u],[]⟩ [(x,u)]) /\
    ∀base:Heap,(K w.params).In base->base.Ns XR j->qt l.prog w (K w.params) j base (CX w) k r z [x] (sp w))
  (I:∀(w:WQ) (H:Hp) (a:Addr) (y:List Int),y.length<=n->zoi H->SqL (K w.params) H a (y.map V.int)->sp w [.ref a] H (fun v _=>v=.bl true) fun _ _ _=>False)
  (A:∀(w:WQ) (H:Hp) (s:X8) (e:X9) (s':X8),CX w [] H s (fun _ _ _=>False) e s'->False) :
  OJ q loose XP YP l.row.toRowW d [] (fun f vs=>PySem.call f vs):=by
 refine Att.zfx hn B fun w L p j mb r o pm cd doc a vs y G Y ho hd aa D m i c hg=>?_;have J:=Q w _ Y;obtain⟨z,U,M⟩:=F w j r _ J G.T.g D;exact zkh J G.T.g G.T.b G.T.builtins G.T.nolimit hg m i (X6 c E) hr M U (fun H N O=>I w H a y c N O) fun H e s'=>A w H p e s'
end L2
/- THE LAST THEOREM (shape;LID,My.* are yours):
   My.Adr: a structure of the addresses that your layer names (classes,functions);My.Txt K t: a structure (Prop) of the equations over K;
   My.txt_mk:{K} {implicit addresses ..} (e1:nsIn K XR "law"=some (some (.ref f))) (e2:K.lookup f=some ⟨oc,od,.func (fnOf "law" "law" params body scope dV kV doc pm an cdv ct),sl⟩) (e3:codeIn K cdv "law"=true) ..:∃t,My.Txt K t
set_option maxRecDepth 100000 in
set_option maxHeartbeats 0 in
theorem PySem.Challenge.cw_LID_holds : PySem.Challenge.rw_LID.Holds := by
 w_on;o_law;k_head;(case hw=>w_witness2);k_fill;refine L2.zid (l:=PySem.Challenge.rw_LID) (n:=63) (k:=40) (x:="script") (CX:=fun w=>..) (sp:=fun _=>My.zqV) rfl (by decide) rfl ⟨rfl,by decide,by decide⟩ (fun w h Y=>PySem.W.kIn_of Y) ?F ?S ?C
 case F =>
  intro w mg fa h KX G hmg
  have T:∃t,My.Txt (L2.KOf KX) t:=by
   dsimp only[L2.KOf]                          -- K must stand as «<heap const> w.params» for k_is;refine' My.txt_mk ?e1 ?e2 ?e3 ..;(case e1=>PySem.W.k_is)                    -- in the order: a name->its address->its object->its parts;(case e2=>PySem.W.k_is);..
  obtain⟨t,T⟩:=T
  have e0:=hmg.symm.trans (Wj KX G T.law)
  cases e0                                       -- fa is the law's own address
  exact⟨_,fun s u=>.of_eq rfl,fun base kb nb=>My.law_fn T kb nb⟩     -- if «.of_eq rfl» comes too early: refine' ⟨_,?b,fun base kb nb=>My.law_fn T kb nb⟩;exact fun s u=>.of_eq rfl
 case S=>exact fun w H a ns hl hO hS=>..
 case C=>exact ..
(the tactic k_is has no namespace: write k_is) -/
namespace L2
open PySem PySem.Spec PyProof.Rows
def JY (s:Stmt):Arguments:=match s with
 | .FunctionDef _ a _ _ _ _ _ _ _ _=>a
 | _=>{ posonlyargs:=[],args:=[],vararg:=none,kwonlyargs:=[],kw_defaults:=[],kwarg:=none,defaults:=[] }
def xJ (s:Stmt):List Stmt:=match s with
 | .FunctionDef _ _ b _ _ _ _ _ _ _=>b
 | _=>[]
def zg (s:Stmt):UG:=match s with
 | .FunctionDef _ _ _ _ _ _ a _ _ _=>a
 | _=>{ kind:=.function,names:=[],isGenerator:=false,isCoroutine:=false }
abbrev CX0:CXT:=fun _ _ _ _ _ _=>False
abbrev E0:XK:=fun _ _ _=>False
theorem zpT {X:Cx}:Passes CX0 X E0:=fun _ _ _ _ _ _ _ h=>h.elim
structure Fun (K:X5)(x qual:Str)(st:Stmt)(f:Addr)(fd:Xo):Prop where
 ex:∃(oc:X9) (od:Option Addr) (kV doc pm:X9) (an:Option Addr) (cdv ct:X9) (osl:Array (Option X9)),
  fd=US x qual (JY st) (xJ st) (zg st) .none kV doc pm an cdv ct/\K.lookup f=some ⟨oc,od,.func fd,osl⟩/\SO K cdv qual=true
 kp:TV K (.ref f)=true
section
variable {P:Xg}{w:WQ}{K:X5}{mg:Str->Option X9}{base:Heap}
theorem Fun.ok {x b:Str}{st:Stmt}{f:Addr}{j:Xo}{N ps:List Str}{k:Nat}{sp:Sp}(F:Fun K x b st f j)(S:zF N ps (zg st))(i:∀vs H Q E,sp vs H Q E->vs.length=ps.length)
  (d:∀(c:X9) (A:WH) (a:List Env) (s:X8) (H:Hp) (vs:List V) (Q:VK) (E:XK),Zg k (A.deeper (PK b (zg st) s.heap.objs.size f c))->sp vs H Q E ->
   ∃t,PSs (zft CX0 P w K mg base N b (zg st) f c A a s H E).nox (xJ st) t/\t { nx:=fun _ l=>Q .non l,rt:=Q } (start N vs) H):qt P w K mg base CX0 (k+1) f j ps sp:=by
 obtain⟨u,v,kV,doc,y,p,c,r,o,rfl,n,e⟩:=F.ex;refine znu n e S i fun A a s H vs Q E m g=>?_;obtain⟨t,h,q⟩:=d c A a s H vs Q E m g;exact⟨t,h.nox,q⟩
theorem Fun.binds {x a:Str}{st:Stmt}{f:Addr}{i:Xo}{ps:List Str}(F:Fun K x a st f i)
  (h:∀(kV doc e:X9) (c:Option Addr) (b d:X9) (g:List X9),g.length=ps.length->bindArgs (US x a (JY st) (xJ st) (zg st) .none kV doc e c b d) ⟨g,[]⟩=pure (ps.zip g)):Binds K i ps []:=by
 obtain⟨m,n,kV,doc,e,c,b,d,k,rfl,l,j⟩:=F.ex;exact .all (h kV doc e c b d)
theorem zki {x a:Str}{st:Stmt}{f:Addr}{i:X9}{j e:Option Addr}{d:Array (Option X9)}{kV doc h b g:X9}(l:K.lookup f=some ⟨i,j,.func (US x a (JY st) (xJ st) (zg st) .none kV doc h e b g),d⟩)
  (c:SO K b a=true) (k:TV K (.ref f)=true):Fun K x a st f (US x a (JY st) (xJ st) (zg st) .none kV doc h e b g):=⟨⟨i,j,kV,doc,h,e,b,g,d,rfl,l,c⟩,k⟩
end
section
variable {X:Cx}
theorem pv (i:Nat){x:Str}{pos:Pos}(b:X.N[i]?=some x:=by rfl)(d:Vis X.env.scope x:=by first | exact XM rfl | exact Vm (XM rfl) | exact Vm (Vm rfl))(c:(x==("__debug__":Str))=false:=by decide)
  (a:(x==("__classdict__":Str))=false:=by decide):PE X (.Name x pos) (zpx i):=znY b d c a
end
theorem Zp {A B:Prop}(h:B):if false=true then A else B:=by
 rw[if_neg XY];exact h
theorem YD {A B:Prop}(h:A):if true=true then A else B:=by
 rw[if_pos rfl];exact h
theorem zeG {c A B:Prop} [Decidable c](h1:c->A)(h2:¬ c->B):if c then A else B:=by
 by_cases h:c
 ·rw[if_pos h];exact h1 h
 ·rw[if_neg h];exact h2 h
theorem znv {c A B:Prop} [Decidable c](a:c)(h:B):if (!decide c)=true then A else B:=by
 rw[decide_eq_true a];exact Zp h
def zu (H a:Hp):Prop:=∀b o,H b=some o->a b=some o
theorem zu.refl (H:Hp):zu H H:=fun _ _ h=>h
theorem zu.trans {H d e:Hp}(a:zu H d)(b:zu d e):zu H e:=fun c o h=>b c o (a c o h)
theorem zu.free {H a:Hp}(e:zu H a){l:Addr}(h:a l=Option.none):H l=Option.none:=by
 cases q:H l with
 | none=>rfl
 | some o =>
  rw[e l o q] at h;cases h
theorem zu.seq {K:X5}{H b:Hp}{a:Addr}{xs:List V}(e:zu H b)(h:SqL K H a xs):SqL K b a xs:=by
 rcases h with (h | ⟨o,h⟩) | h
 ·exact .inl (.inl (e _ _ h))
 ·exact .inl (.inr ⟨o,e _ _ h⟩)
 ·exact .inr h
end L2
set_option maxHeartbeats 4000000
namespace L2
open PySem PySem.Spec PyProof.Rows
section
variable {X:Cx}
theorem yI:OpR X (Uj .Mult) (rI IntMulOk fun i j=>.int (i*j)):=opI fun _ _ _ _ _ _ _ a q=>mul_int q a
def yO (_ j:Int):Prop:=0<j/\j.natAbs.log2<9000
theorem zkj:OpR X (Uj .FloorDiv) (rI yO fun i j=>.int (i/j)):=opI fun i j _ _ _ _ _ a q=>by
 have h1:(0:Int)<j:=a.1;exact floordiv_int (by lia) (by rw[RB i (by lia)];exact q) (.inl (PyProof.noPylong_of_log2 a.2))
theorem yO.small {i j:Int}(h:0<j)(h':j<1073741824):yO i j:=by
 refine⟨h,?_⟩;have h0:j.natAbs≠0:=by lia
 have:j.natAbs.log2<30:=(Nat.log2_lt h0).mpr (by lia);lia
theorem yO.big {i j:Int}(h:0<j)(h':j.natAbs<2^8000):yO i j:=by
 refine⟨h,?_⟩;have h0:j.natAbs≠0:=by lia
 have:j.natAbs.log2<8000:=(Nat.log2_lt h0).mpr h';lia
theorem zdm {i j:Int}(h1:-(2^64)<j)(h2:j<2^64):IntMulOk i j:=IntMulOk.of_right (intBits_le_64 h1 h2)
theorem zpU {i j:Int}(h1:i.natAbs<2^8000)(h2:j.natAbs<2^8000):IntMulOk i j:=IntMulOk.of_le (m:=8000) (n:=8000) (intBits_le_iff.mpr h1) (intBits_le_iff.mpr h2) (by decide)
def zoj (T U:String):Option Bool:=if (PJ T==PJ U)=true then some true else if PySem.W.kitMeta U=true then (fastBuiltinMro T).map (·.contains (.type U)) else none
theorem zok (K:X5){T U:String}{b:Bool}(e:zoj T U=some b):Xa K (.type T) (.type U)=some b:=e
theorem J4:jY X (.builtin "isinstance") (fun xs H Q=>∃x T U b,xs=[x,.ty U]/\zae X.K H x (.type T)/\zoj T U=some b/\Q (.bl b) H):=by
 intro a s j H xs g Q I r h;obtain⟨x,T,U,b,rfl,ty,e,q⟩:=h;obtain⟨u,i,rfl,d,c⟩:=vals2 r;cases c;exact zi5 I d ty (zok X.K e) fun f=>⟨.bl b,H,I.tok f,rfl,q⟩
end
theorem jX {b:Bool}{A B:Prop}(e:b=true)(h:A):if b=true then A else B:=by
 rw[if_pos e];exact h
theorem jE {b:Bool}{A B:Prop}(e:b=false)(h:B):if b=true then A else B:=by
 subst e;exact Zp h
structure zm (K:X5)(mg:Str->Option X9)(x:Str)(st:Stmt)(ps:List Str)(f:Addr)(fd:Xo):Prop where
 F:Fun K x x st f fd
 g:mg x=some (.ref f)
 b:Binds K fd ps []
theorem jT {α:Type}{xs:List α}{i:Int}{v:α}(h:0<=i)(e:xs[i.toNat]?=some v):atI xs i=some v:=by
 have:=zai e;rwa [Vu h] at this
def zqW (t u:TS):TS:=fun D c H=>∃M:St->Hp->Prop,t { D with nx:=M } c H/\∀ a b,M a b->u D a b
theorem Y8 {X:Cx}{st:Stmt}{b:List Stmt}{t u:TS}(h1:PS X st t)(h2:PSs X b u):PSs X (st::b) (zqW t u):=by
 intro a s k H D I h;obtain⟨M,g,i⟩:=h;refine Si (thn (h1 a s k H _ I g) fun f s1 q=>?_);cases f with
 | next =>
  obtain⟨c,d,e,j⟩:=q;exact h2 a s1 c d D e (i c d j)
 | brk=>exact q
 | cont=>exact q
 | ret v=>exact q
theorem ze {H:Hp}{l:Addr}{o:HO}(h:H l=none):zu H (upd H l o):=fun b u e=>by rw[zj (zh e h)];exact e
section
variable {X:Cx}{tg:Expr}
end
mutual
inductive Rdv (K:X5)(H:Hp):V->Wi->Prop
 | non:Rdv K H .non .none
 | bl (b:Bool):Rdv K H (.bl b) (.bool b)
 | int (i:Int):Rdv K H (.int i) (.int i)
 | str (x:Str):Rdv K H (.str x) (.str x)
 | lst {a:Addr} {xs:List V} {ds:List Wi}:SqL K H a xs->xA K H xs ds->Rdv K H (.ref a) (.list ds)
 | tup {a:Addr} {xs:List V} {ds:List Wi}:SqT K H a xs->xA K H xs ds->Rdv K H (.ref a) (.tuple ds)
inductive xA (K:X5)(H:Hp):List V->List Wi->Prop
 | nil:xA K H [] []
 | cons {x:V} {d:Wi} {xs:List V} {ds:List Wi}:Rdv K H x d->xA K H xs ds->xA K H (x::xs) (d::ds)
end
section
variable {X:Cx}{pins:List (Addr×Obj)}{σ:St}{H:Hp}{s:X8}
theorem zja {a:Addr}{xs:List V}{b:List Wi}(I:Inv X pins σ H s)(g:SqL X.K H a xs)(h:∀c,Vals xs c->∃as,Ot s.heap c b as):∀u,RelV (.ref a) u->∃as,Reads s.heap u (.list b) as:=by
 intro u r;cases r;obtain⟨i,k,p,l⟩:=I.list g;obtain⟨as,j⟩:=h _ k;obtain⟨o,f,d,n,e⟩:=p.isList;exact⟨_,.list f d e (by simpa using j)⟩
theorem zjb {a:Addr}{xs:List V}{b:List Wi}(I:Inv X pins σ H s)(g:SqT X.K H a xs)(h:∀c,Vals xs c->∃as,Ot s.heap c b as):∀u,RelV (.ref a) u->∃as,Reads s.heap u (.tuple b) as:=by
 intro u r;cases r;obtain⟨i,k,p,l⟩:=I.tuple g;obtain⟨as,j⟩:=h _ k;obtain⟨o,f,d,n,e⟩:=p;exact⟨_,.tuple f d e (by simpa using j)⟩
theorem zgX {v:V}{vs:List V}{d:Wi}{b:List Wi}(h:∀u,RelV v u->∃as,Reads s.heap u d as)(t:∀a,Vals vs a->∃as,Ot s.heap a b as):∀a,Vals (v::vs) a->∃as,Ot s.heap a (d::b) as:=by
 intro a r;cases r with
 | cons c e =>
  obtain⟨as,f⟩:=h _ c;obtain⟨bs,g⟩:=t _ e;exact⟨_,.cons f g⟩
theorem Rdv.reads (I:Inv X pins σ H s){v:V}{d:Wi}{u:X9}(h:Rdv X.K H v d):RelV v u->∃as,Reads s.heap u d as :=
 Rdv.rec (motive_1:=fun v d _=>∀u,RelV v u->∃as,Reads s.heap u d as) (motive_2:=fun f e _=>∀c,Vals f c->∃as,Ot s.heap c e as)
  (fun u r=>by cases r;exact⟨_,.none⟩) (fun b u r=>by cases r;exact⟨_,.bool b⟩) (fun i u r=>by obtain⟨t,rfl⟩:=r;exact⟨_,.int i t⟩) (fun x u r=>by obtain⟨t,rfl⟩:=r;exact⟨_,.str x t⟩)
  (fun a _ h=>zja I a h) (fun a _ h=>zjb I a h) (fun c r=>by cases r;exact⟨_,.nil⟩) (fun _ _ h t=>zgX h t) h u
structure zb9 (x y:Wi):Prop where
 l1:x.canLay0=true
 l2:y.canLay0=true
 dp:x.depth<=64
def zol (K:X5)(neg:Bool):R2:=fun x y H Q=>∃a b,Rdv K H x a/\Rdv K H y b/\zb9 a b/\Q (.bl (if neg then !PyData.eqv a b else W1 a b)) H
theorem jZ (k:X.A.units+64<Vi):OpR X (V9 .Eq) (zol X.K false):=by
 intro pins s σ H x y v u Q I f g h;obtain⟨i,j,a,b,c,q⟩:=h;obtain⟨as,d⟩:=a.reads I f;obtain⟨bs,e⟩:=b.reads I g;have:=c.dp;exact SeqAt.compareEq_reads d e c.l1 c.l2 (by lia) ⟨.bl _,H,I,rfl,q⟩
theorem xB (k:X.A.units+64<Vi):OpR X (V9 .NotEq) (zol X.K true):=by
 intro pins s σ H x y v u Q I f g h;obtain⟨i,j,a,b,c,q⟩:=h;obtain⟨as,d⟩:=a.reads I f;obtain⟨bs,e⟩:=b.reads I g;have:=c.dp;exact SeqAt.compareNe_reads d e c.l1 c.l2 (by lia) ⟨.bl _,H,I,rfl,q⟩
def zmp (K:X5)(neg:Bool):R2:=fun x y H Q=>∃d a,Rdv K H x d/\Rdv K H y (.list a)/\d.canLay0=true/\Wu a=true/\d.depth<=60/\Q (.bl (if neg then !a.any (fun z=>W1 z d) else a.any fun z=>W1 z d)) H
theorem zca (m:X.A.units+64<Vi):OpR X (V9 .In) (zmp X.K false):=by
 intro pins s σ H x y v u Q I i j h;obtain⟨d,l,c,e,a,b,k,q⟩:=h;obtain⟨as,f⟩:=c.reads I i;obtain⟨bs,g⟩:=e.reads I j;exact SeqAt.in_list_reads g f b a (by lia) ⟨.bl _,H,I,rfl,q⟩
theorem zdn (m:X.A.units+64<Vi):OpR X (V9 .NotIn) (zmp X.K true):=by
 intro pins s σ H x y v u Q I i j h;obtain⟨d,l,c,e,a,b,k,q⟩:=h;obtain⟨as,f⟩:=c.reads I i;obtain⟨bs,g⟩:=e.reads I j;exact SeqAt.notIn_list_reads g f b a (by lia) ⟨.bl _,H,I,rfl,q⟩
end
def jd (X:Cx)(N:List Str)(scope:UG)(cl:List (Str×Addr))(C:Addr)(fp:List Addr)(pins:List (Addr×Obj))(s:X8)(H:Hp):Cx where
 prog:=X.prog
 w:=X.w
 K:=X.K
 mg:=X.mg
 base:=X.base
 A:=X.A
 N:=N
 s₀:=s
 H₀:=H
 env:=Ui scope cl C X.env
 outer:=X.stack
 stack:=X.stack
 ex:=fp
 fn:=fun _=>false
 calm:=X.calm
 pn:=X.pn++pins
 xe:=fun _ _=>False
def pull (src:List (Option Nat))(a:St):St:=src.map fun o=>match o with
 | some j=>(a[j]?).getD none
 | none=>none
structure zR (X:Cx)(N:List Str)(src:List (Option Nat))(scope:UG)(cl:List (Str×Addr)):Prop where
 kind:scope.kind=.function
 nocell:∀y∈scope.names,y.2 ≠ .cell
 names:∀y∈scope.names,y.2=.local->scope.names.lookup y.1=some .local
 clos:Oy scope X.env=pure cl
 sub:∀x c,cl.lookup x=some c->X.env.cells.lookup x=some c
 has:∀x,((Uv scope X.env).names.lookup x=some .cell\/(Uv scope X.env).names.lookup x=some .free)->∃c,cl.lookup x=some c
 len:src.length=N.length
 pulls:∀(i j:Nat) (x:Str),N[i]?=some x->src[i]?=some (some j)->X.N[j]?=some x/\(X.env.kindOf x=some .cell\/X.env.kindOf x=some .free)/\((Uv scope X.env).names.lookup x=some .cell\/(Uv scope X.env).names.lookup x=some .free)
theorem zdo {a:UG}{b:Env}(d:∀y∈a.names,y.2 ≠ .free):(Uv a b).names=a.names:=by
 show a.names.map _=a.names;refine map_eq_self fun x c=>?_;obtain⟨n,k⟩:=x;have:(k==NameKind.free)=false:=by simpa using d _ c
 simp[this]
theorem zR.plain {X:Cx}{N:List Str}{src:List (Option Nat)}{scope:UG}(kind:scope.kind=.function)(nocell:∀y∈scope.names,y.2 ≠ .cell)(nofree:∀y∈scope.names,y.2 ≠ .free)
  (names:∀y∈scope.names,y.2=.local->scope.names.lookup y.1=some .local) (len:src.length=N.length) (none:∀o∈src,o=none):zR X N src scope [] where
 kind:=kind
 nocell:=nocell
 names:=names
 clos:=closureFor_none nofree
 sub:=fun x c h=>nomatch h
 has:=fun x h=>by
  rw[zdo nofree] at h;rcases h with h | h
  ·exact absurd rfl (nocell _ (WG h))
  ·exact absurd rfl (nofree _ (WG h))
 len:=len
 pulls:=fun i j x _ h=>by
  have:=none _ (X4 h);cases this
def zjc (X:Cx)(b:List Expr)(t:TT):Prop :=
 ∀(a:List (Addr×Obj)) (s:X8) (d:St) (H:Hp) (Q:Bool->Hp->Prop),Inv X a d H s->t d H Q ->
  W8 (Xi X.prog X.w) X.A (forIn b true fun c r=>if r=true then do let ok <- isTrue c X.env (eval c X.env);pure (Vt ok) else pure (Vt r)) (TP X a d Q) X.xe s
def zmq:TT:=fun _ H Q=>Q true H
theorem qU {X:Cx}:zjc X [] zmq:=fun _ _ _ H _ I h=>wpAny_tests_nil ⟨H,I,h⟩
theorem qg {X:Cx}{c:Expr}{t:TT}(h:PT X c t):zjc X [c] t:=fun a s d H Q I b=>wpAny_tests_one (h a s d H Q I b)
def JL (J:It)(g:TG)(r:TT)(s:TE)(Q:VK)(D:Addr)(j:St)(p:Hp):Prop :=
 ∃W:Nat->Nat->St->Hp->Prop,(∃m,W 0 m j p)/\∀i m f d,W i m f d ->
  (J.stop i d/\Q (.ref D) d)\/(J.go i d/\∃N:St->Hp->Prop,(∀ c e,N c e->∃o,o<m/\W (i+1) o c e) /\
   ∀x k,J.yld i d x k->g x f k fun a q=>r a q fun b l=>if b=true then s a l fun y n=>∃h,n D=some (.lst h)/\h.length<Xw/\N a (upd n D (.lst (h++[y]))) else N a l)
def zie (e:TI)(src:List (Option Nat))(g:TG)(c:TT)(d:TE):TE:=fun b H Q=>e b H fun J a=>∀D,a D=none->JL J g c d Q D (pull src b) (upd a D (.lst []))
theorem Un.but {fs i:List Addr}{H g:Hp}{h h1 h2:Heap}{C:Addr}(u:Un fs i H g h h1)(j:h.objs.size<=C)(f:VD C h1 h2):Un fs i H g h h2:=by
 have d:∀b o,h.get? b=some o->b≠C:=fun b o e=>Xj (Xy (XO e) j);refine⟨fun b o e n c a=>(f.2 b (d b o e)).trans (u.keep b o e n c a),fun b o e n c a=>?_,u.free,fun b o e a=>?_,u.tups,u.frzs,u.tbls⟩
 ·obtain⟨l,q⟩:=u.slot b o e n c a;exact⟨l,(f.2 b (d b o e)).trans q⟩
 ·obtain⟨k,q⟩:=u.there b o e a;exact⟨k,(f.2 b (d b o e)).trans q⟩
theorem HOk.but {P:Xg}{w:WQ}{H:Hp}{h h':Heap}{C:Addr}(ok:HOk P w H h)(a:H C=none)(d:VD C h h'):HOk P w H h':=fun b ob e=>by
 refine(ok b ob e).stay (fun c f hc q=>(d.2 c ?_).trans q) (fun _ q=>q) fun _ _ q=>q;rintro rfl;rcases hc with rfl | hc
 ·rw[a] at e;cases e
 ·rw[a] at hc;cases hc
section
variable {X:Cx}{tg iter elt:Expr}{ifs:List Expr}{scope:UG}{pos:Pos}{N:List Str}{src:List (Option Nat)}{cl:List (Str×Addr)}{wi:TI}{g:TG}{tc:TT}{te:TE}
theorem zcb {a:List (Addr×Obj)}{A:St}{H:Hp}{s:X8}{fp:List Addr}{h1:Heap}{C:Addr}{tk:Nat}(ok:zR X N src scope cl)(I:Inv X a A H s)(B:∀b∈fp,QN X a H b)(ho:∀b∈fp,∃o,s.heap.get? b=some o)
  (E:C=s.heap.objs.size+1) (k:∀b u,s.heap.get? b=some u->h1.get? b=some u) (hD:h1.get? s.heap.objs.size=some { cls:=.type "list",data:=.seq #[] }) {m:Str->Option X9} (hn:h1.Ns C m) :
  Inv (jd X N scope cl C fp a s H) [] (pull src A) (upd H s.heap.objs.size (.lst [])) { s with heap:=h1,toks:=tk }:=by
 have lt:∀b o,s.heap.get? b=some o->b<s.heap.objs.size:=fun b o e=>XO e;have Y:∀b o,s.heap.get? b=some o->b≠C:=fun b o e=>by rw[E];exact Xj (WR (lt b o e))
 have nD:∀b o,s.heap.get? b=some o->b≠s.heap.objs.size:=fun b o e=>Xj (lt b o e);have O:∀b,s.heap.objs.size<=b->H b=none:=fun b h=>I.hok.fresh h;have w:∀b,b≠X.env.locals->b ∉ X.fs->b ∉ frs X.stack:=fun b h1 h2 z=>(XJ.mp (I.stkSub b z)).elim h1 h2;have sub:=ok.sub;refine⟨⟨I.ok.mod,ok.kind,I.ok.glob,I.ok.blt,by rw[show (jd X N scope cl C fp a s H).env.locals=C from rfl,E];exact Wd _,fun x y c f d=>I.ok.inj x y c (sub x c f) (sub y c d),ok.has,(fun x c z _=>nomatch z),I.ok.hd,I.ok.frames,.inl rfl,fun b h=>?_,I.bs,X6 I.ok.bsz I.sz,fun b o e h=>?_,fun b h hz=>?_,I.stack,I.stkFree⟩,
  rfl,I.bare,Un.laid k (XV _) (O _ (XV _)),⟨m,hn,fun i x v f d M=>?_⟩,fun x c e=>?_,?_,fun x c e=>?_,fun p hp=>?_,I.hok.laid k (XV _) ⟨W5 _,[],0,.nil,hD⟩,?_⟩
 ·obtain⟨o,e⟩:=ho b h;exact⟨Y b o e,fun x c z=>(B b h).2.2.2.2.1 x c (sub x c z)⟩
 ·rcases(B b h).2.2.2.1 with z | z
  ·exact I.ok.noex b o e z
  ·exact absurd (Xy (XO (I.ok.bs b o e).1) z) (Wl _)
 ·exact w b (B b h).2.1 (B b h).2.2.1 hz
 ·have U:i<src.length:=by
   have:=(XZ.mp d).1;unfold pull at this;rw[Y1] at this;exact this
  unfold pull at d;rw[Xl,X7 U] at d;cases q:src[i] with
  | none=>rw[q] at d;cases d
  | some j =>
   rw[q] at d;have g:(A[j]?).getD none=some v:=Option.some.inj d;have D:A[j]?=some (some v):=by
    cases z:A[j]? with
    | none=>rw[z] at g;cases g
    | some o=>rw[z] at g;exact congrArg some g
   obtain⟨p1,p2,p3⟩:=ok.pulls i j x f (by rw[X7 U,q]);obtain⟨m',aa,hl⟩:=I.loc;obtain⟨u,r,l⟩:=hl j x v p1 D (by
    rcases p2 with z | z
    ·exact .inr (.inl z)
    ·exact .inr (.inr z))
   refine⟨u,r,.inr ⟨p3,?_⟩⟩;obtain⟨c,Q⟩:=ok.has x p3;refine⟨c,Q,?_⟩;rcases l with ⟨z,_⟩ | ⟨_,c',n,o,J,G⟩
   ·rcases p2 with y | y<;>rw[z] at y<;>cases y
   ·rw[sub x c Q] at n;cases n;exact⟨o,k _ o J,G⟩
 ·obtain⟨v,o,f,d⟩:=I.cell x c (sub x c e);exact⟨v,o,k c o f,d⟩
 ·show upd H s.heap.objs.size (.lst []) C=none;rw[E,zj (Vq _)];exact O _ (Wd _)
 ·show upd H s.heap.objs.size (.lst []) c=none;obtain⟨v,o,f,d⟩:=I.cell x c (sub x c e);rw[zj (nD c o f)];exact I.freeC x c (sub x c e)
 ·have L:p∈X.pn++a:=by
   have:p∈(X.pn++a)++[]:=hp;simpa using this
  obtain⟨f,d,M,D,e5⟩:=I.pin p L;refine⟨k _ _ f,?_,Y _ _ f,w _ M D,e5⟩;show upd H s.heap.objs.size (.lst []) p.1=none;rw[zj (nD _ _ f)];exact d
 ·unfold pull;rw[Y1];exact ok.len
theorem qh (ok:zR X N src scope cl)(G:X.calm=true)(hi:PI X tg iter wi)
  (hg:∀C fp a s H,PG (jd X N scope cl C fp a s H) tg g) (hc:∀C fp a s H,zjc (jd X N scope cl C fp a s H) ifs tc) (he:∀C fp a s H,PE (jd X N scope cl C fp a s H) elt te)
  (hs:∀x,T6 iter X.env x=pure x:=by intro _;rfl):PE X (.ListComp elt [⟨tg,iter,ifs,0⟩] scope pos) (zie wi src g tc te):=by
 intro a s σ H Q I h;rw[eval_ListComp];refine UK (use:=none) rfl hs ok.clos ok.kind ok.names (thn (hi a s σ H _ I h) fun xv s1 h1=>thn h1 fun au f h2=>?_);obtain⟨it,fp,tn,J,D,e,I2,T,ai,Y,q2⟩:=h2;subst e;refine VZ (O2 ok.nocell (by intro y hy;simp at hy) (fun B q j=>?_) ok.kind);dsimp only at q j ⊢;generalize hP:f.heap.push { cls:=.type "list",dict:=none,data:=.seq ([]:List X9).toArray }=v at q j ⊢;have hC:v.objs.size=f.heap.objs.size+1:=by rw[<- hP,VN]
 have k:∀b u,f.heap.get? b=some u->B.get? b=some u:=fun b u e=>by
  have lt:=XO e;exact(j.2 b (by rw[hC];exact Xj (WR lt))).trans (X0 _ (hP ▸ X0 _ e))
 have hD:B.get? f.heap.objs.size=some { cls:=.type "list",data:=.seq #[] }:=(j.2 _ (by rw[hC];exact(Vq _).symm)).trans (X0 _ (hP ▸ W9 _ rfl));have ho:∀b∈fp,∃o,f.heap.get? b=some o:=fun b l=>let ⟨o,e,_⟩:=T.obj 0 _ ai b l;⟨o,e⟩
 obtain⟨W,⟨m0,w0⟩,al⟩:=q2 f.heap.objs.size (I2.hok.fresh (XV _));have I0:=zcb (tk:=f.toks+([]:List (Str×X9)).length) ok I2 Y ho hC k hD q;have ah:tn 0 B:=T.keep 0 _ _ ai fun b _ o e=>k b o e;have an:∀b∈fp,upd D f.heap.objs.size (.lst []) b=none:=fun b l=>by
  obtain⟨o,e⟩:=ho b l;rw[zj (Xj (XO e))];exact(Y b l).1
 have L:∀{E:Hp},(∀b∈fp,E b=none)->∀b∈fp,QN (jd X N scope cl v.objs.size fp a f D) [] E b:=fun {E} hn b l=>by
  obtain⟨o,e⟩:=ho b l;have lt:=XO e;refine⟨hn b l,?_,fun z=>(XJ.mp (I2.stkSub b z)).elim (Y b l).2.1 (Y b l).2.2.1,.inl l,fun x c z=>(Y b l).2.2.2.2.1 x c (ok.sub x c z),fun p hp=>?_⟩
  ·show b≠v.objs.size;rw[hC];exact Xj (WR lt)
  ·have aq:p∈X.pn++a:=by
    have:p∈(X.pn++a)++[]:=hp;simpa using this
   exact(Y b l).2.2.2.2.2 p aq
 have ac:∀M:X8,M={ f with heap:=B,toks:=f.toks+([]:List (Str×X9)).length } ->
   T7 (Xi X.prog X.w) X.A (.compLoop (.ListComp elt [⟨tg,iter,ifs,0⟩] scope pos) 0 (.ref it) (.ref f.heap.objs.size) (Ui scope cl v.objs.size X.env))
    (Oa (Xi X.prog X.w) X.A X.xe none (EP X a σ Q) (.ref f.heap.objs.size) v.objs.size) M:=by
  rintro M rfl;refine PF rfl (fun n s'=>∃i O E,Inv (jd X N scope cl v.objs.size fp a f D) [] O E s'/\tn i s'.heap/\(∀b∈fp,E b=none)/\W i n O E) ?_ m0 ⟨0,_,_,I0,ah,an,w0⟩;rintro n s3 ⟨i,aa,H3,I3,aj,af,w3⟩;show W8 _ X.A ((N9 (.ListComp elt [⟨tg,iter,ifs,0⟩] scope pos) 0 (.ref it) (.ref f.heap.objs.size) (Ui scope cl v.objs.size X.env)).onRaise (fun x=>do Oj x (Ui scope cl v.objs.size X.env);R0 x)) _ _ s3;refine Pa ?_;rw[Rj];rcases al i n aa H3 w3 with ⟨ak,qn⟩ | ⟨go,N',hN,step⟩
  ·refine ZB (VF (ZB (thn (T.done (jd X N scope cl v.objs.size fp a f D) rfl rfl rfl G i [] s3 aa H3 _ I3 (L af) aj ak) fun r s4 ⟨hr,I4⟩=>?_)));subst hr;refine XU ?_;obtain⟨m,hm,_⟩:=I4.loc;refine⟨m,hm,fun h' sb=>⟨.ref f.heap.objs.size,H3,?_,rfl,qn⟩⟩;have un:Un (frs X.stack) fp D H3 f.heap h':=Un.but I4.base (by show f.heap.objs.size<=v.objs.size;rw[hC];exact Wd _) sb;have ap:HOk X.prog X.w H3 h':=HOk.but I4.hok I4.free sb;exact I2.call' (s':={ s4 with heap:=h' }) (ch:=fp) I4.os un ap I4.bare fun b l=>⟨(Y b l).2.2.2.1,(Y b l).2.1,(Y b l).2.2.2.2.1,(Y b l).2.2.2.2.2⟩
  ·refine ZB (VF (ZB (thn (T.item (jd X N scope cl v.objs.size fp a f D) rfl rfl rfl G i [] s3 aa H3 _ I3 (L af) aj go) fun r s4 ⟨u,hr,h4⟩=>?_)));subst hr;dsimp only;refine ZB (thn h4 fun _ s5 ⟨x,H5,I5,r5,y5,ae,ao⟩=>?_);have am:=I5.pinned (L ao) (T.obj _ _ ae);refine ZB (Ww (hg v.objs.size fp a f D _ s5 aa H5 x u _ am r5 (step x H5 y5)) (fun _ s6 ⟨ab,H6,I6,q6⟩=>?_) fun _ _ z=>Wv z);have R8:∀{s7:X8} {U:St} {H7:Hp},Inv (jd X N scope cl v.objs.size fp a f D) ([]++YB fp s5.heap) U H7 s7->N' U H7->∃m,m<n/\∃i O E,Inv (jd X N scope cl v.objs.size fp a f D) [] O E s7/\tn i s7.heap/\(∀b∈fp,E b=none)/\W i m O E:=fun {s7 U H7} I7 n7=>by
    obtain⟨m',hm,w7⟩:=hN U H7 n7;refine⟨m',hm,i+1,U,H7,I7.unpinned,T.keep _ _ _ ae fun b l o e=>(I7.pin (b,o) (XD _ (XD _ (ju l e)))).1,fun b l=>?_,w7⟩;obtain⟨o,e,d⟩:=T.obj _ _ ae b l;exact(I7.pin (b,o) (XD _ (XD _ (ju l e)))).2.1
   refine ZB (Ww (hc v.objs.size fp a f D _ s6 ab H6 _ I6 q6) (fun b s7 ⟨H7,I7,q7⟩=>?_) fun _ _ z=>Wv z);cases b with
   | false =>
    rw[if_neg XY] at q7;exact XU ⟨rfl,R8 I7 q7⟩
   | true =>
    rw[if_pos rfl] at q7;refine ZB (ZB (Ww (he v.objs.size fp a f D _ s7 ab H7 _ I7 q7) (fun y s8 ⟨v8,H8,I8,r8,ys,ar,ag,q8⟩=>?_) fun _ _ z=>Wv z));refine ZB (Ww (Zo (X:=jd X N scope cl v.objs.size fp a f D) _ s8 ab H8 (.ref f.heap.objs.size) [v8] (.ref f.heap.objs.size) [y] (fun _ H9=>N' ab H9) I8 rfl (.cons r8 .nil) ⟨_,ys,v8,rfl,rfl,ar,ag,q8⟩) (fun _ s9 ⟨v9,H9,I9,_,q9⟩=>?_) fun _ _ z=>Wv z);exact XU (XU ⟨rfl,R8 I9 q9⟩)
 exact Um (ac _ rfl) (T.self _ 0 _ _ _ ah (ac _ rfl))
end
section
variable {K:X5}{src:List (Option Nat)}{g:TG}{tc:TT}{te:TE}{Q:VK}{σ:St}{H:Hp}{D:Addr}
theorem qj {a:Addr}{xs:List V}(Pv:Nat->St->Hp->Prop)(h0:Pv 0 σ H)(o:∀i σ H,i<=xs.length->Pv i σ H->SqL K H a xs)
  (r:∀i x σ H,xs[i]?=some x->Pv i σ H->g x σ H fun c k=>tc c k fun b f=>if b=true then te c f fun y h=>∃ys,h D=some (.lst ys)/\ys.length<Xw/\Pv (i+1) c (upd h D (.lst (ys++[y]))) else Pv (i+1) c f)
  (l:∀ σ H,Pv xs.length σ H->Q (.ref D) H):JL (Itl K a) g tc te Q D σ H:=by
 refine⟨fun i m σ H=>m=xs.length-i/\i<=xs.length/\Pv i σ H,⟨xs.length,by simp,W5 _,h0⟩,?_⟩;rintro i m σ H ⟨rfl,n,p⟩;have q:=o i σ H n p;by_cases d:i<xs.length
 ·refine .inr ⟨⟨xs,xs[i],q,by simp[d]⟩,Pv (i+1),fun u j s=>⟨xs.length-(i+1),by lia,rfl,d,s⟩,fun x j y=>?_⟩;obtain⟨e,y⟩:=y;subst e;exact r i x σ _ (y xs q) p
 ·have e:i=xs.length:=by lia
  subst e;exact .inl ⟨⟨xs,q,XV _⟩,l σ H p⟩
theorem QO {lo:Int}{n:Nat}(Pv:Nat->St->Hp->Prop)(h0:Pv 0 σ H)
  (l:∀i σ H,i<n->Pv i σ H->g (.int (lo+i)) σ H fun a j=>tc a j fun b d=>if b=true then te a d fun y f=>∃ys,f D=some (.lst ys)/\ys.length<Xw/\Pv (i+1) a (upd f D (.lst (ys++[y]))) else Pv (i+1) a d)
  (k:∀ σ H,Pv n σ H->Q (.ref D) H):JL (Itr lo n) g tc te Q D σ H:=by
 refine⟨fun i m σ H=>m=n-i/\i<=n/\Pv i σ H,⟨n,by simp,W5 _,h0⟩,?_⟩;rintro i m σ H ⟨rfl,r,p⟩;by_cases c:i<n
 ·refine .inr ⟨c,Pv (i+1),fun q h o=>⟨n-(i+1),by lia,rfl,c,o⟩,fun x h y=>?_⟩;obtain⟨e,y⟩:=y;subst e y;exact l i σ _ c p
 ·have e:i=n:=by lia
  subst e;exact .inl ⟨XV _,k σ H p⟩
end
theorem zfy {K:X5}{H:Hp}:∀rs:List Str,xA K H (rs.map V.str) (rs.map UN)
 | []=>.nil
 | t::r=>.cons (.str t) (zfy r)
section
variable {X:Cx}{K:X5}
theorem Y9 {a:Expr}{c:TE}(d:X.K=K)(e:PE X a c)(he:∀whole,isTrue a X.env whole=(do let v <- whole;standAt a.pos;Ow [v] (truthy v))) :
  PT X a (fun f H Q=>c f H fun x b=>∃k,zn9 K x b k/\Q k b):=by
 subst d;exact yZ e he
theorem zeH (a:X.K=K):jY X (.builtin "isinstance") (fun xs H Q=>∃x T U b,xs=[x,.ty U]/\zae K H x (.type T)/\zoj T U=some b/\Q (.bl b) H):=by
 subst a;exact J4
theorem Jb (a:X.K=K)(b:X.A.units+64<Vi):OpR X (V9 .Eq) (zol K false):=by
 subst a;exact jZ b
theorem j3 (a:X.K=K)(b:X.A.units+64<Vi):OpR X (V9 .In) (zmp K false):=by
 subst a;exact zca b
theorem zcc (a:X.K=K)(b:X.A.units+64<Vi):OpR X (V9 .NotIn) (zmp K true):=by
 subst a;exact zdn b
theorem zeI {a:List Expr}{k:Nat}{t:TGs}{n:Nat}{pos:Pos}(c:X.K=K)(d:X.calm=true)(h:PGs X a t)
  (e:(Ti a X.env).length=n:=by rfl) (b:(Ti a X.env).findIdx? (·.1)=none:=by rfl):PG X (.Tuple a k pos) (zpC K n t):=by
 subst c;exact JJ d h e b
end
section
variable {fs ch:List Addr}{H:Hp}{h h':Heap}{a:Addr}{o:HO}
theorem Un.laidX (k:∀b u,b ∉ ch->h.get? b=some u->h'.get? b=some u)(hp:h.objs.size<=a)(hn:H a=none):Un fs ch H (upd H a o) h h' where
 keep:=fun b u q _ _ hx=>k b u hx q
 slot:=fun b u q _ _ hx=>⟨u.slots,k b u hx q⟩
 free:=fun b u q n _=>by rw[zj (Xj (Xy (XO q) hp))];exact n
 there:=fun b u q hx=>⟨u,k b u hx q⟩
 tups:=fun b xs q=>by rw[zj (zh q hn)];exact q
 frzs:=fun b u xs q=>by rw[zj (zh q hn)];exact q
 tbls:=fun b ps q=>⟨#[],by rw[zj (zh q hn),q];simp⟩
theorem Un.keptX (k:∀b u,b ∉ ch->h.get? b=some u->h'.get? b=some u):Un fs ch H H h h' :=
 ⟨fun b ob q _ _ a=>k b ob a q,fun b ob q _ _ a=>⟨ob.slots,k b ob a q⟩,fun _ _ _ n _=>n,fun b ob q a=>⟨ob,k b ob a q⟩,fun _ _ q=>q,fun _ _ _ q=>q,fun _ c q=>⟨#[],by rw[q];simp⟩⟩
theorem HOk.keptX {P:Xg}{w:WQ}(x:HOk P w H h)(k:∀b u,b ∉ ch->h.get? b=some u->h'.get? b=some u)(a:∀b∈ch,H b=none):HOk P w H h':=fun b u e=>by
 refine(x b u e).stay (fun c v hc q=>k c v (fun z=>?_) q) (fun _ q=>q) fun _ _ q=>q;have n:=a c z;rcases hc with rfl | hc
 ·rw[n] at e;cases e
 ·rw[n] at hc;cases hc
theorem HOk.laidX {P:Xg}{w:WQ}(x:HOk P w H h)(k:∀b u,b ∉ ch->h.get? b=some u->h'.get? b=some u)(d:∀b∈ch,H b=none)(j:h.objs.size<=a)(f:jk P w (upd H a o) h' a o):HOk P w (upd H a o) h':=fun b u e=>by
 have i:=x.fresh j;by_cases g:b=a
 ·subst g;rw[zc] at e;cases e;exact f
 ·rw[zj g] at e;refine(x b u e).stay (fun c v hc q=>k c v (fun z=>?_) q) (fun c q=>by rw[zj (zh q i)];exact q) fun c l q=>by rw[zj (zh q i)];exact q
  have n:=d c z;rcases hc with rfl | hc
  ·rw[n] at e;cases e
  ·rw[n] at hc;cases hc
end
section
variable {X:Cx}{pins:List (Addr×Obj)}{s:X8}{σ:St}{H:Hp}{E:X9->X8->Prop}{fp wr FP:List Addr}{elts:List Expr}{k:Nat}{pos:Pos}{e:Addr}{n i:Nat}{Pt:Nat->Array X9->Prop}{Sn:Nat->Heap->Prop}{Mid:Nat->Addr->Heap->Prop}{J:It}{tn:Nat->Heap->Prop}
theorem zgY (I:Inv X pins σ H s)(G:∀b∈fp,QN X pins H b)(ho:∀b∈fp,∃o,s.heap.get? b=some o)(p:∀b∈wr,b∈fp)(W:WalksT X.prog X.w X.A e FP wr n Pt Sn Mid)(hi:i<n)(st:Sn i s.heap)
  (y:∀T a,H T=none->Pt i a->∃vs,Vals vs a.toList/\vs.length<=Xw/\J.yld i H (.ref T) (upd H T (.tup vs))) (nx:∀g,Sn (i+1) g->tn (i+1) g) :
  W8 (Xi X.prog X.w) X.A (RL (.ref e)) (fun r s1=>∃u,r=some u /\
   W8 (Xi X.prog X.w) X.A (R3 (.Tuple elts k pos) (.ref e) u) (fun _ O=>∃x z,Inv X pins σ z O/\RelV x u/\J.yld i H x z/\tn (i+1) O.heap/\∀b∈fp,z b=none) E s1) E s:=by
 refine W.item i s _ E hi st fun T a U Q hP h Y L kk=>⟨.ref T,rfl,?_⟩;have M:H T=none:=I.hok.fresh h;obtain⟨vs,hv,hl,hy⟩:=y T a M hP;refine W.go elts k pos i T { s with heap:=U,toks:=Q } _ E L fun g v q=>?_;have N:∀b o,b ∉ wr->s.heap.get? b=some o->g.get? b=some o:=fun b o j e=>q b o j (kk b o j e);have l:Of g T a:=by
  obtain⟨o,B,c,m,d⟩:=Y;exact⟨o,q T o (W.apart i T _ L) B,c,m,d⟩
 have D:∀b∈wr,H b=none:=fun b j=>(G b (p b j)).1;refine⟨.ref T,upd H T (.tup vs),?_,rfl,hy,nx _ v,fun b j=>?_⟩
 ·exact I.call' (s':={ s with heap:=g,toks:=Q }) (ch:=wr) rfl (Un.laidX N h M) (HOk.laidX I.hok N D h ⟨hl,a.toList,hv,by simpa using l⟩) I.bare fun b j=>let f:=G b (p b j);⟨f.2.2.2.1,f.2.1,f.2.2.2.2.1,f.2.2.2.2.2⟩
 ·obtain⟨o,B⟩:=ho b j;rw[zj (Xj (Xy (XO B) h))];exact(G b j).1
theorem zgZ (I:Inv X pins σ H s)(d:∀b∈fp,QN X pins H b)(a:∀b∈wr,b∈fp)(W:WalksT X.prog X.w X.A e FP wr n Pt Sn Mid)(st:Sn n s.heap) :
  W8 (Xi X.prog X.w) X.A (RL (.ref e)) (fun r s1=>r=none/\Inv X pins σ H s1) E s :=
 W.done s _ E st fun h i g=>⟨rfl,I.call' (s':={ s with heap:=h,toks:=i }) (ch:=wr) rfl (Un.keptX g) (HOk.keptX I.hok g fun b c=>(d b (a b c)).1) I.bare fun b c=>let f:=d b (a b c);⟨f.2.2.2.1,f.2.1,f.2.2.2.2.1,f.2.2.2.2.2⟩⟩
end
theorem JM {h:Heap}{b:Addr}{o:Obj}{vs:Array X9}(e:h.get? b=some o)(d:o.data=.fields vs):∃o,h.get? b=some o/\∀v,o.data ≠ .cell v:=⟨o,e,fun v z=>by rw[d] at z;cases z⟩
def Ite (K:X5)(l:Addr):It:=⟨fun i H=>∃a,SqL K H l a/\i<a.length,fun i H x b=>∃T,x=.ref T/\H T=none/\∀a,SqL K H l a->∃v,a[i]?=some v/\b=upd H T (.tup [.int i,v]),fun i H=>∃a,SqL K H l a/\i=a.length⟩
theorem zjd {P:Xg}{w:WQ}{K:X5}{elts:List Expr}{k:Nat}{pos:Pos}(e it l:Addr)(hei:e≠it)(hle:l≠e)(hli:l≠it) :
  Turn P w K (.Tuple elts k pos) (Ite K l) [e,it] e (fun i h=>(∃old,IsEnum h e it i old)/\h.IsListIter it l i) where
 mem:=by simp
 obj:=fun i h st b hb=>by
  obtain⟨⟨old,he⟩,o,e2,c,d⟩:=st;rcases XJ.mp hb with rfl | hb
  ·exact JM he rfl
  ·have z:b=it:=by simpa using hb
   subst z;exact JM e2 d
 keep:=fun i h h' st kk=>by
  obtain⟨⟨old,he⟩,o,e2,r⟩:=st;exact⟨⟨old,kk e (by simp) _ he⟩,o,kk it (by simp) o e2,r⟩
 item:=by
  intro X hP hw hK hc i pins s σ H E I hf st hg;subst hP hw hK;obtain⟨xs,hq,hlt⟩:=hg;obtain⟨its,rv,p,hz⟩:=I.list hq;have hl:=rv.length;obtain⟨⟨old,he⟩,o2,e2,c2,d2⟩:=id st;refine zgY (wr:=[e,it]) (J:=Ite X.K l) (tn:=fun i h=>(∃old,IsEnum h e it i old)/\h.IsListIter it l i) I hf (fun b hb=>?_) (fun b hb=>hb) (WalksT.enumerate (I.ok.hd hc) e it l hei hle hli its.toArray) (by simp;lia) ⟨st.1,st.2,p.isList⟩ (fun T vals hn hp=>?_) fun h'' q=>⟨q.1,q.2.1⟩
  ·rcases XJ.mp hb with rfl | hb
   ·exact⟨_,he⟩
   ·have z:b=it:=by simpa using hb
    subst z;exact⟨_,e2⟩
  ·obtain⟨t,x,hx,rfl⟩:=hp;have hx':its[i]?=some x:=by simpa using hx
   obtain⟨u,hu,ru⟩:=rv.get (i:=i) (x:=xs[i]) (by rw[X7 hlt]);rw[hu] at hx';cases hx';exact⟨[.int i,xs[i]],.cons ⟨t,rfl⟩ (.cons ru .nil),(by show 2<=Xw;decide),T,rfl,hn,fun ys hy=>⟨xs[i],by rw[I.list_inj hy hq,X7 hlt],rfl⟩⟩
 done:=by
  intro X hP hw hK hc i pins s σ H E I hf st hg;subst hP hw hK;obtain⟨xs,hq,rfl⟩:=hg;obtain⟨its,rv,p,hz⟩:=I.list hq;have hl:its.toArray.size=xs.length:=by simp[rv.length]
  refine zgZ (fp:=[e,it]) (wr:=[e,it]) I hf (fun b hb=>hb) (WalksT.enumerate (I.ok.hd hc) e it l hei hle hli its.toArray) ?_;rw[hl];exact⟨st.1,st.2,p.isList⟩
 self:=fun A i s Q E st h=>by
  obtain⟨⟨old,he⟩,_⟩:=st;exact SH he h
def zmr (x:Str):It:=⟨fun i _=>i<x.cps.size,fun i H v a=>∃T c,v=.ref T/\H T=none/\x.cps[i]?=some c/\a=upd H T (.tup [.int i,.str ⟨#[c]⟩]),fun i _=>i=x.cps.size⟩
theorem zcd {P:Xg}{w:WQ}{K:X5}{elts:List Expr}{k:Nat}{pos:Pos}(e it:Addr)(x:Str)(t:Tok)(n:String)(hei:e≠it)
  (D:∀A:WH,A.handled=none->Draws P w A it [it] x.cps.size (fun i v=>∃c u,x.cps[i]?=some c/\v=.str ⟨#[c]⟩ u) (fun i h=>h.IsStrIter it n x t i)) :
  Turn P w K (.Tuple elts k pos) (zmr x) [e,it] e (fun i h=>(∃old,IsEnum h e it i old)/\h.IsStrIter it n x t i) where
 mem:=by simp
 obj:=fun i h st b hb=>by
  obtain⟨⟨old,he⟩,o,e2,c,d⟩:=st;rcases XJ.mp hb with rfl | hb
  ·exact JM he rfl
  ·have z:b=it:=by simpa using hb
   subst z;exact JM e2 d
 keep:=fun i h h' st kk=>by
  obtain⟨⟨old,he⟩,o,e2,r⟩:=st;exact⟨⟨old,kk e (by simp) _ he⟩,o,kk it (by simp) o e2,r⟩
 item:=by
  intro X hP hw hK hc i pins s σ H E I hf st hg;subst hP hw hK;obtain⟨⟨old,he⟩,o2,e2,c2,d2⟩:=id st;refine zgY (wr:=[e,it]) (J:=zmr x) (tn:=fun i h=>(∃old,IsEnum h e it i old)/\h.IsStrIter it n x t i) I hf (fun b hb=>?_) (fun b hb=>hb) (WalksT.enumerateD (D X.A.in1 (I.ok.hd hc)) e hei (by simpa using hei) (by simp)) hg st (fun T vals hn hp=>?_) fun h'' q=>q
  ·rcases XJ.mp hb with rfl | hb
   ·exact⟨_,he⟩
   ·have z:b=it:=by simpa using hb
    subst z;exact⟨_,e2⟩
  ·obtain⟨t',v,⟨c,u,hx,rfl⟩,rfl⟩:=hp;exact⟨[.int i,.str ⟨#[c]⟩],.cons ⟨t',rfl⟩ (.cons ⟨u,rfl⟩ .nil),(by show 2<=Xw;decide),T,c,rfl,hn,hx,rfl⟩
 done:=by
  intro X hP hw hK hc i pins s σ H E I hf st hg;subst hP hw hK;have z:i=x.cps.size:=hg;subst z;exact zgZ (fp:=[e,it]) (wr:=[e,it]) I hf (fun b hb=>hb) (WalksT.enumerateD (D X.A.in1 (I.ok.hd hc)) e hei (by simpa using hei) (by simp)) st
 self:=fun A i s Q E st h=>by
  obtain⟨⟨old,he⟩,_⟩:=st;exact SH he h
def Itz (K:X5)(l1 l2:Addr):It:=⟨fun i H=>∃a b,SqL K H l1 a/\SqL K H l2 b/\i<a.length/\i<b.length,
 fun i H x d=>∃T,x=.ref T/\H T=none/\∀a b,SqL K H l1 a->SqL K H l2 b->∃v c,a[i]?=some v/\b[i]?=some c/\d=upd H T (.tup [v,c]),fun i H=>∃a b,SqL K H l1 a/\SqL K H l2 b/\i=min a.length b.length⟩
theorem zkk {P:Xg}{w:WQ}{K:X5}{elts:List Expr}{k:Nat}{pos:Pos}(z TI TO i1 i2 l1 l2:Addr)(D:ZipApart z TI TO i1 i2 l1 l2) :
  Turn P w K (.Tuple elts k pos) (Itz K l1 l2) [z,TI,TO,i1,i2] z (fun i h=>IsZip h z TI TO .none/\IsPair h TI (.ref i1) (.ref i2)/\(∃a b,IsPair h TO a b)/\h.IsListIter i1 l1 i/\h.IsListIter i2 l2 i) where
 mem:=by simp
 obj:=fun i h st b hb=>by
  obtain⟨hz,hTI,⟨a,b',hTO⟩,⟨o1,e1,c1,d1⟩,⟨o2,e2,c2,d2⟩⟩:=st;simp only[XJ,Vp,or_false] at hb;rcases hb with rfl | rfl | rfl | rfl | rfl
  ·exact JM hz rfl
  ·exact⟨_,hTI,fun v q=>by cases q⟩
  ·exact⟨_,hTO,fun v q=>by cases q⟩
  ·exact JM e1 d1
  ·exact JM e2 d2
 keep:=fun i h h' st kk=>by
  obtain⟨hz,hTI,⟨a,b',hTO⟩,⟨o1,e1,r1⟩,⟨o2,e2,r2⟩⟩:=st;exact⟨kk z (by simp) _ hz,kk TI (by simp) _ hTI,⟨a,b',kk TO (by simp) _ hTO⟩,⟨o1,kk i1 (by simp) _ e1,r1⟩,⟨o2,kk i2 (by simp) _ e2,r2⟩⟩
 item:=by
  intro X hP hw hK hc i pins s σ H E I hf st hg;subst hP hw hK;obtain⟨xs,ys,hq1,hq2,hlt1,hlt2⟩:=hg;obtain⟨its1,rv1,p1,hz1⟩:=I.list hq1;obtain⟨its2,rv2,p2,hz2⟩:=I.list hq2;have g1:=rv1.length;have g2:=rv2.length;obtain⟨hz,hTI,⟨a,b',hTO⟩,⟨o1,e1,r1⟩,⟨o2,e2,r2⟩⟩:=id st;refine zgY (wr:=[z,TO,i1,i2]) (J:=Itz X.K l1 l2) (tn:=fun i h=>IsZip h z TI TO .none/\IsPair h TI (.ref i1) (.ref i2)/\(∃a b,IsPair h TO a b)/\h.IsListIter i1 l1 i/\h.IsListIter i2 l2 i) I hf (fun b hb=>?_) (fun b hb=>?_) (WalksT.zip2 (I.ok.hd hc) z TI TO i1 i2 l1 l2 D its1.toArray its2.toArray) (by simp;lia) ⟨st.1,st.2.1,st.2.2.1,st.2.2.2.1,st.2.2.2.2,p1.isList,p2.isList⟩ (fun T vals hn hp=>?_) fun h'' q=>⟨q.1,q.2.1,q.2.2.1,q.2.2.2.1,q.2.2.2.2.1⟩
  ·simp only[XJ,Vp,or_false] at hb;rcases hb with rfl | rfl | rfl | rfl | rfl
   ·exact⟨_,hz⟩
   ·exact⟨_,hTI⟩
   ·exact⟨_,hTO⟩
   ·exact⟨_,e1⟩
   ·exact⟨_,e2⟩
  ·simp only[XJ,Vp,or_false] at hb ⊢;rcases hb with rfl | rfl | rfl | rfl<;>simp
  ·obtain⟨x,y,hx,hy,rfl⟩:=hp;have hx':its1[i]?=some x:=by simpa using hx
   have hy':its2[i]?=some y:=by simpa using hy
   obtain⟨u,hu,ru⟩:=rv1.get (i:=i) (x:=xs[i]) (by rw[X7 hlt1]);obtain⟨u',hu',ru'⟩:=rv2.get (i:=i) (x:=ys[i]) (by rw[X7 hlt2]);rw[hu] at hx';rw[hu'] at hy';cases hx';cases hy';exact⟨[xs[i],ys[i]],.cons ru (.cons ru' .nil),(by show 2<=Xw;decide),T,rfl,hn,fun xs' ys' h1 h2=>⟨xs[i],ys[i],by rw[I.list_inj h1 hq1,X7 hlt1],by rw[I.list_inj h2 hq2,X7 hlt2],rfl⟩⟩
 done:=by
  intro X hP hw hK hc i pins s σ H E I hf st hg;subst hP hw hK;obtain⟨xs,ys,hq1,hq2,rfl⟩:=hg;obtain⟨its1,rv1,p1,hz1⟩:=I.list hq1;obtain⟨its2,rv2,p2,hz2⟩:=I.list hq2;have g1:min its1.toArray.size its2.toArray.size=min xs.length ys.length:=by simp[rv1.length,rv2.length]
  refine zgZ (fp:=[z,TI,TO,i1,i2]) (wr:=[z,TO,i1,i2]) I hf (fun b hb=>?_) (WalksT.zip2 (I.ok.hd hc) z TI TO i1 i2 l1 l2 D its1.toArray its2.toArray) ?_
  ·simp only[XJ,Vp,or_false] at hb ⊢;rcases hb with rfl | rfl | rfl | rfl<;>simp
  ·rw[g1];exact⟨st.1,st.2.1,st.2.2.1,st.2.2.2.1,st.2.2.2.2,p1.isList,p2.isList⟩
 self:=fun A i s Q E st h=>wpAny_pyIter_zip st.1 h
section
variable {X:Cx}{elts:List Expr}{k:Nat}{tpos:Pos}
def zom (K:X5)(b:TA):TI:=fun e H R=>b e H fun c a=>∃l,c=[.ref l]/\(∃d,SqL K a l d)/\R (Ite K l) a
theorem Zq {a:Expr}{o:TA}{p pos:Pos}(y:Gl X "enumerate")(z:X.mg "enumerate"=none)(x:PA X [a] o)(B:WA [a] X.env=[(false,eval a X.env)]:=by rfl):PI X (.Tuple elts k tpos) (.Call (.Name "enumerate" p) [a] [] pos) (zom X.K o):=by
 intro c s r H R I h;refine Call_ (YA I y z boot_enumerate (VV (thn (x pos c s r H _ I h) fun U s1 ⟨Y,m,g,L,J⟩=>?_) B rfl));obtain⟨l,rfl,⟨xs,A⟩,q⟩:=J;obtain⟨u,rfl,M⟩:=vals1 L;cases M;obtain⟨E,Q,n,N⟩:=g.list A;obtain⟨O,j,_⟩:=n.isList;have f:=XO j;refine call_enumerate_list n.isList fun w he i D G=>?_;have v:Inv X c r m { s1 with heap:=w }:=g.kept (t':=s1.toks) G;refine SH he ?_;refine⟨s1.heap.objs.size+1,[s1.heap.objs.size+1,s1.heap.objs.size],_,_,m,rfl,v,zjd (s1.heap.objs.size+1) s1.heap.objs.size l (Vq _) (Xj (WR f)) (Xj f),⟨⟨_,he⟩,i⟩,fun b hb=>?_,q⟩;have d:s1.heap.objs.size<=b:=by
  rcases XJ.mp hb with e | hb
  ·rw[e];exact Wd _
  ·have e:b=s1.heap.objs.size:=by simpa using hb
   rw[e];exact XV _
 exact g.fpOk d (g.hok.fresh d)
def zon (b:TA):TI:=fun d H R=>b d H fun c a=>∃z,c=[.str z]/\R (zmr z) a
theorem zkl {a:Expr}{o:TA}{p pos:Pos}(w:Gl X "enumerate")(x:X.mg "enumerate"=none)(j:PA X [a] o)(y:WA [a] X.env=[(false,eval a X.env)]:=by rfl):PI X (.Tuple elts k tpos) (.Call (.Name "enumerate" p) [a] [] pos) (zon o):=by
 intro d s r H R I h;refine Call_ (YA I w x boot_enumerate (VV (thn (j pos d s r H _ I h) fun J s1 ⟨L,i,l,G,E⟩=>?_) y rfl));obtain⟨z,rfl,q⟩:=E;obtain⟨u,rfl,t,rfl⟩:=vals1 G;refine call_enumerate_str fun v he c B D=>?_;have n:Inv X d r i { s1 with heap:=v }:=l.kept (t':=s1.toks) D;refine SH he ?_;have f:∀b ∈ [s1.heap.objs.size+1,s1.heap.objs.size],QN X d i b:=fun b hb=>by
  have g:s1.heap.objs.size<=b:=by
   rcases XJ.mp hb with e | hb
   ·rw[e];exact Wd _
   ·have e:b=s1.heap.objs.size:=by simpa using hb
    rw[e];exact XV _
  exact l.fpOk g (l.hok.fresh g)
 unfold strIterType at c;by_cases j:z.cps.all (· < 128)=true
 ·rw[if_pos j] at c;exact⟨s1.heap.objs.size+1,[s1.heap.objs.size+1,s1.heap.objs.size],_,_,i,rfl,n,zcd (s1.heap.objs.size+1) s1.heap.objs.size z t "str_ascii_iterator" (Vq _) (fun A m=>Draws.strAscii m _ z t),⟨⟨_,he⟩,c⟩,f,q⟩
 ·rw[if_neg j] at c;exact⟨s1.heap.objs.size+1,[s1.heap.objs.size+1,s1.heap.objs.size],_,_,i,rfl,n,zcd (s1.heap.objs.size+1) s1.heap.objs.size z t "str_iterator" (Vq _) (fun A m=>Draws.strWide m _ z t),⟨⟨_,he⟩,c⟩,f,q⟩
def zqX (K:X5)(d:TA):TI:=fun h H R=>d h H fun e a=>∃b c,e=[.ref b,.ref c]/\(∃f,SqL K a b f)/\(∃g,SqL K a c g)/\R (Itz K b c) a
theorem zoo {a b:Expr}{L:TA}{p pos:Pos}(hg:Gl X "zip")(hm:X.mg "zip"=none)(Y:PA X [a,b] L)(hs:WA [a,b] X.env=[(false,eval a X.env),(false,eval b X.env)]:=by rfl)(g:WA [b] X.env=[(false,eval b X.env)]:=by rfl) :
  PI X (.Tuple elts k tpos) (.Call (.Name "zip" p) [a,b] [] pos) (zqX X.K L):=by
 intro c s M H R I h;refine Call_ (YA I hg hm boot_zip (VV (thn (Y pos c s M H _ I h) fun us s1 ⟨vs,z,e,r1,q1⟩=>?_) (by rw[hs,g]) (by rw[g];rfl)));obtain⟨w,x,rfl,⟨xs,r⟩,⟨ys,v⟩,q⟩:=q1;obtain⟨u,u',rfl,ru,y⟩:=vals2 r1;cases ru;cases y;obtain⟨D,af,G,ab⟩:=e.list r;obtain⟨E,ag,J,ac⟩:=e.list v;obtain⟨o1,n,_⟩:=G.isList;obtain⟨o2,o,_⟩:=J.isList;have ae:@LT.lt Nat _ w s1.heap.objs.size:=XO n;have lt2:@LT.lt Nat _ x s1.heap.objs.size:=XO o;refine call_zip_2 G.isList J.isList fun Q B i j l m aa kk=>?_;have O:Inv X c M z { s1 with heap:=Q }:=e.kept (t':=s1.toks) kk;refine wpAny_pyIter_zip B ?_;generalize U:s1.heap.objs.size=N at *
 have d:ZipApart (N+4) (N+2) (N+3) N (N+1) w x:=by
  constructor<;>first
   | exact Xj (by lia)
   | exact UR (by lia)
 refine⟨N+4,[N+4,N+2,N+3,N,N+1],_,_,z,rfl,O,zkk (N+4) (N+2) (N+3) N (N+1) w x d,⟨B,i,⟨_,_,j⟩,l,m⟩,fun b A=>?_,q⟩;have f:s1.heap.objs.size<=b:=by
  rw[U];simp only[XJ,Vp,or_false] at A;rcases A with rfl | rfl | rfl | rfl | rfl<;>lia
 exact e.fpOk f (e.hok.fresh f)
theorem Z4:jY X (.type "int") (fun xs H Q=>∃x n,xs=[.str x]/\O7 x=some n/\x.length<=640/\Q (.int n) H):=by
 intro a s e H xs d Q I r h;obtain⟨x,n,rfl,c,b,q⟩:=h;obtain⟨u,rfl,t,rfl⟩:=vals1 r;exact PySem.W.KIN.call_text c b ⟨.int n,H,I.tok _,⟨_,rfl⟩,q⟩
end
theorem Zr {K:X5}{l:Addr}{xs:List V}{g:TG}{k:TS}{D:Ends}{a:St}{H:Hp}(Pv:Nat->St->Hp->Prop)(h0:Pv 0 a H)(s:∀i a H,i<=xs.length->Pv i a H->SqL K H l xs)
  (u:∀i x T a H,xs[i]?=some x->H T=none->Pv i a H->g (.ref T) a (upd H T (.tup [.int i,x])) fun d h=>k { D with nx:=Pv (i+1),ct:=Pv (i+1),bk:=D.nx } d h) (o:∀ a H,Pv xs.length a H->D.nx a H) :
  ∃W:Nat->Nat->St->Hp->Prop,(∃m,W 0 m a H)/\∀i m a H,W i m a H ->
   ((Ite K l).stop i H/\D.nx a H)\/((Ite K l).go i H/\∃N:St->Hp->Prop,(∀ c b,N c b->∃j,j<m/\W (i+1) j c b)/\∀x b,(Ite K l).yld i H x b->g x a b fun d h=>k { D with nx:=N,ct:=N,bk:=D.nx } d h):=by
 refine⟨fun i m a H=>m=xs.length-i/\i<=xs.length/\Pv i a H,⟨xs.length,by simp,W5 _,h0⟩,?_⟩;rintro i m a H ⟨rfl,r,p⟩;have q:=s i a H r p;by_cases f:i<xs.length
 ·refine .inr ⟨⟨xs,q,f⟩,Pv (i+1),fun c b z=>⟨xs.length-(i+1),by lia,rfl,f,z⟩,fun x b y=>?_⟩;obtain⟨T,rfl,n,y⟩:=y;obtain⟨v,w,rfl⟩:=y xs q;exact u i v T a H w n p
 ·have e:i=xs.length:=by lia
  subst e;exact .inl ⟨⟨xs,q,rfl⟩,o a H p⟩
theorem zg0 {g:TG}{k:TT}{l:TE}{Q:VK}{a:St}{H:Hp}{D:Addr}{x:Str}(Pv:Nat->St->Hp->Prop)(h0:Pv 0 a H)
  (u:∀i c T a H,x.cps[i]?=some c->H T=none->Pv i a H->g (.ref T) a (upd H T (.tup [.int i,.str ⟨#[c]⟩])) fun d o=>k d o fun b h=>if b=true then l d h fun y j=>∃ys,j D=some (.lst ys)/\ys.length<Xw/\Pv (i+1) d (upd j D (.lst (ys++[y]))) else Pv (i+1) d h)
  (s:∀ a H,Pv x.cps.size a H->Q (.ref D) H):JL (zmr x) g k l Q D a H:=by
 refine⟨fun i m a H=>m=x.cps.size-i/\i<=x.cps.size/\Pv i a H,⟨x.cps.size,by simp,W5 _,h0⟩,?_⟩;rintro i m a H ⟨rfl,A,p⟩;by_cases f:i<x.cps.size
 ·refine .inr ⟨f,Pv (i+1),fun z n w=>⟨x.cps.size-(i+1),by lia,rfl,f,w⟩,fun v n y=>?_⟩;obtain⟨T,c,rfl,q,r,rfl⟩:=y;exact u i c T a H r q p
 ·have e:i=x.cps.size:=by lia
  subst e;exact .inl ⟨rfl,s a H p⟩
def zaX (look:Str->Option Addr):List (Str×Tv)->List (Str×Addr)->List (Str×Addr)
 | [],a=>a
 | (n,k)::r,a=>if k == .free then (match look n with
  | some c=>zaX look r ((n,c)::a)
  | none=>zaX look r a) else zaX look r a
theorem Zs {look:Str->Option Addr}:∀(b:List (Str×Tv)) (a:List (Str×Addr)) (p:Str×Addr),p∈zaX look b a->p∈a\/look p.1=some p.2
 | [],a,p,h=>.inl h
 | (n,k)::r,a,p,h=>by
  unfold zaX at h;split at h
  ·cases e:look n with
   | none =>
    rw[e] at h;exact Zs r a p h
   | some c =>
    rw[e] at h;rcases Zs r _ p h with h | h
    ·rcases XJ.mp h with h | h
     ·subst h;exact .inr e
     ·exact .inl h
    ·exact .inr h
  ·exact Zs r a p h
theorem Zt {x n:Str}{c:Addr}{a:List (Str×Addr)}(h:(a.lookup x).isSome=true\/x=n):(S7 x ((n,c)::a)).isSome=true:=by
 rw[VI];cases e:x==n with
 | true=>rfl
 | false =>
  rcases h with h | h
  ·exact h
  ·subst h;simp at e
theorem zce {look:Str->Option Addr}{x:Str}(a:List (Str×Tv))(b:List (Str×Addr))(h:(b.lookup x).isSome=true\/((x,NameKind.free)∈a/\(look x).isSome=true)):((zaX look a b).lookup x).isSome=true:=by
 induction a generalizing b with
 | nil =>
  rcases h with h | h
  ·exact h
  ·cases h.1
 | cons y r d =>
  obtain⟨n,k⟩:=y;unfold zaX;split
  ·rename_i hk;cases e:look n with
   | none =>
    refine d b ?_;rcases h with h | ⟨h,h2⟩
    ·exact .inl h
    ·rcases XJ.mp h with h | h
     ·cases h;rw[e] at h2;cases h2
     ·exact .inr ⟨h,h2⟩
   | some c =>
    refine d _ ?_;rcases h with h | ⟨h,h2⟩
    ·exact .inl (Zt (.inl h))
    ·rcases XJ.mp h with h | h
     ·cases h;exact .inl (Zt (.inr rfl))
     ·exact .inr ⟨h,h2⟩
  ·rename_i hk;refine d b ?_;rcases h with h | ⟨h,h2⟩
   ·exact .inl h
   ·rcases XJ.mp h with h | h
    ·cases h;exact absurd rfl hk
    ·exact .inr ⟨h,h2⟩
theorem Ji {e:UG}{d:Env}(h:∀y∈e.names,y.2=.free->(d.cells.lookup y.1).isSome=true):Oy e d=pure (zaX (fun x=>d.cells.lookup x) e.names []):=by
 have v:∀(b:List (Str×Tv)) (f:List (Str×Addr)),(∀y∈b,y.2=.free->(d.cells.lookup y.1).isSome=true) ->
   (forIn b f fun x l=>(match x with
    | (g,j)=>if (j == .free)=true then do let a <- cellOf d g;pure (Vt ((g,a)::l)) else pure (Vt l):Sem (ForInStep (List (Str×Addr)))))=(pure (zaX (fun x=>d.cells.lookup x) b f):Sem _):=by
  intro b;induction b with
  | nil=>intro f _;rfl
  | cons y r s =>
   intro f q;obtain⟨n,k⟩:=y;have p:∀y∈r,y.2=.free->(d.cells.lookup y.1).isSome=true:=fun y z=>q y (XT _ z);rw[List.forIn_cons];unfold zaX;by_cases hk:(k==NameKind.free)=true
   ·have o:k=.free:=by simpa using hk
    have A:=q (n,k) XS o;obtain⟨c,w⟩:=V0.mp A;have i:S7 n d.cells=some c:=w;have u:cellOf d n=pure c:=by
     unfold cellOf;rw[i]
    simp only[hk,if_true,u,i,pure_bind];exact s _ p
   ·simp only[hk,Wm,if_false,pure_bind];exact s _ p
 simp only[Oy];exact Eq.trans (congrArg (fun m:Sem (List (Str×Addr))=>m >>= fun l=>pure l) (v e.names [] h)) rfl
theorem yP {b:UG}{a:Env}{x:Str}{k:Tv}(h:(x,k)∈(Uv b a).names)(hk:k=.cell\/k=.free):(x,U7)∈b.names\/(x,NameKind.free)∈b.names:=by
 obtain⟨y,g,e⟩:=Xv.mp h;obtain⟨n,d⟩:=y;by_cases c:(d==NameKind.free&&a.scope.kind == .function&&a.kindOf n==some .cell)=true
 ·have f:(if (d==NameKind.free&&a.scope.kind == .function&&a.kindOf n==some .cell)=true then (n,U7) else (n,d))=(x,k):=e;rw[if_pos c] at f;cases f;have i:d=.free:=by
   have:=(Wh.mp (Wh.mp c).1).1;simpa using this
  subst i;exact .inr g
 ·have f:(if (d==NameKind.free&&a.scope.kind == .function&&a.kindOf n==some .cell)=true then (n,U7) else (n,d))=(x,k):=e;rw[if_neg c] at f;cases f;rcases hk with rfl | rfl
  ·exact .inl g
  ·exact .inr g
theorem zeJ {d:UG}{a:Env}{x:Str}(hk:a.scope.kind=.function)(l:a.kindOf x=some .cell)(h:d.names.lookup x=some .free):(Uv d a).names.lookup x=some .cell:=by
 have i:∀b:List (Str×Tv),b.lookup x=some .free->(b.map fun (n,k)=>if (k==NameKind.free&&a.scope.kind == .function&&a.kindOf n==some .cell)=true then (n,U7) else (n,k)).lookup x=some .cell:=by
  intro b;induction b with
  | nil=>intro h;cases h
  | cons y r g =>
   obtain⟨n,k⟩:=y;intro h;show S7 x ((if (k==NameKind.free&&a.scope.kind == .function&&a.kindOf n==some .cell)=true then (n,U7) else (n,k))::_)=_;rw[VI] at h;cases e:x==n with
   | true =>
    rw[e] at h;have f:k=.free:=Option.some.inj h;have j:x=n:=by simpa using e
    subst f j;rw[if_pos (by rw[hk,l];rfl),VI,beq_self_eq_true]
   | false =>
    rw[e] at h;by_cases c:(k==NameKind.free&&a.scope.kind == .function&&a.kindOf n==some .cell)=true
    ·rw[if_pos c,VI,e];exact g h
    ·rw[if_neg c,VI,e];exact g h
 exact i d.names h
theorem zR.free {X:Cx}{N:List Str}{src:List (Option Nat)}{a:UG}{O:List (Str×Tv)}{XN:List Str}(v:X.env.scope.names=O)(u:X.env.scope.kind=.function)(s:∃n,X.env.cells=RM n O [])(w:X.N=XN)
  (f:a.kind=.function) (b:∀y∈a.names,y.2 ≠ .cell) (d:∀y∈a.names,y.2=.local->a.names.lookup y.1=some .local) (r:∀y∈a.names,y.2=.free->O.lookup y.1=some .cell) (g:src.length=N.length)
  (D:∀q∈N.zip src,q.2=none\/(∃j∈XC XN.length,q.2=some j/\XN[j]?=some q.1/\O.lookup q.1=some .cell/\a.names.lookup q.1=some .free)):zR X N src a (zaX (fun x=>X.env.cells.lookup x) a.names []):=by
 have k:∀y∈a.names,y.2=.free->(X.env.cells.lookup y.1).isSome=true:=fun y B e=>by
  obtain⟨n,A⟩:=s;rw[A];exact Sx O n [] (.inl (r y B e))
 refine⟨f,b,d,Ji k,fun x c h=>?_,fun x h=>?_,g,fun i j x h1 h2=>?_⟩
 ·rcases Zs _ _ _ (WG h) with z | z
  ·cases z
  ·exact z
 ·refine V0.mp (zce _ _ (.inr ?_));have hm:(x,U7)∈a.names\/(x,NameKind.free)∈a.names:=by
   rcases h with h | h
   ·exact yP (WG h) (.inl rfl)
   ·exact yP (WG h) (.inr rfl)
  rcases hm with hm | hm
  ·exact absurd rfl (b _ hm)
  ·exact⟨hm,k _ hm rfl⟩
 ·have hm:(x,some j)∈N.zip src:=by
   refine X4 (i:=i) ?_;rw[TD];exact⟨h1,h2⟩
  rcases D _ hm with z | ⟨E,_,e,m,o,p⟩
  ·cases z
  ·cases e;have l:X.env.kindOf x=some .cell:=by
    show X.env.scope.names.lookup x=some .cell;rw[v];exact o
   exact⟨by rw[w];exact m,.inl l,.inl (zeJ u l p)⟩
open PySem PySem.Spec PyProof.Rows PySem.W
section
variable {α β:Type}{R:α->β->Prop}{us us':List α}{cs cs':List β}{i:Nat}{v:α}{c:β}
theorem zaY (h:WU R us cs)(k:WU R us' cs'):WU R (us++us') (cs++cs'):=by
 induction h with
 | nil=>exact k
 | cons q _ a=>exact .cons q a
theorem zcf (h:WU R us cs)(e:us[i]?=some v):∃c,cs[i]?=some c/\R v c:=by
 induction h generalizing i with
 | nil=>cases e
 | cons q _ a =>
  cases i with
  | zero =>
   cases e;exact⟨_,rfl,q⟩
  | succ i=>exact a (i:=i) e
theorem zkm (h:WU R us cs)(e:v∈us):∃c∈cs,R v c:=by
 induction h with
 | nil=>cases e
 | cons q _ a =>
  rcases XJ.mp e with rfl | e
  ·exact⟨_,XS,q⟩
  ·obtain⟨c,h,r⟩:=a e;exact⟨c,XT _ h,r⟩
end
def xu (H:Hp):List V->List (Int×Int)->Prop:=WU fun v p=>∃a,v=V.ref a/\H a=some (.tup [.int p.1,.int p.2])
def lt2 (p q:Int×Int):Bool:=if p.1=q.1 then decide (p.2<q.2) else decide (p.1<q.1)
structure zD (h:Heap)(v:X9)(p:Int×Int):Prop where
 ex:∃a o n t u,v=.ref a/\h.get? a=some o/\o.cls=.type "tuple"/\o.data=.seq #[.int p.1 t,.int p.2 u] n
section
variable {X:Cx}{pins:List (Addr×Obj)}{σ:St}{H:Hp}{s:X8}
theorem xu.pairs (I:Inv X pins σ H s){d:List V}{ps:List (Int×Int)}{b:List X9}(j:xu H d ps)(r:Vals d b):WU (zD s.heap) b ps:=by
 induction j generalizing b with
 | nil =>
  cases r;exact .nil
 | cons q _ k =>
  obtain⟨a,e,h⟩:=q;subst e;cases r with
  | cons l m =>
   cases l;refine .cons ?_ (k m);obtain⟨c,o,v,_⟩:=I.tuple (SqT.of h);obtain⟨u1,w,rfl,⟨p,rfl⟩,⟨u,rfl⟩⟩:=vals2 o;obtain⟨ob,i,f,n,g⟩:=v;exact⟨a,ob,n,p,u,rfl,i,f,g⟩
end
theorem Z5 {h h':Heap}(k:∀b o,h.get? b=some o->h'.get? b=some o):∀{c:List X9} {ps:List (Int×Int)},WU (zD h) c ps->WU (zD h') c ps
 | _,_,.nil=>.nil
 | _,_,.cons ⟨a,o,n,t,u,e,d,r⟩ tl=>.cons ⟨a,o,n,t,u,e,k _ _ d,r⟩ (Z5 k tl)
theorem zam {h:Heap}:∀{b:List X9} {ps:List (Int×Int)},WU (zD h) b ps->∃fs:List X9,KatTups h b fs/\fs.length=b.length/\∀v∈fs,∃x t,v=Vw x t
 | _,_,.nil=>⟨[],.nil,rfl,fun _ z=>nomatch z⟩
 | _,_,.cons ⟨a,o,n,t,u,e,f,c,d⟩ tl=>by
  obtain⟨fs,k,l,q⟩:=zam tl;subst e;refine⟨.int _ t::fs,KatTups.cons f c d rfl k,by simp[l],fun v hv=>?_⟩;rcases XJ.mp hv with rfl | hv
  ·exact⟨_,t,rfl⟩
  ·exact q v hv
section
variable {prog:Xg}{w:WQ}{A:WH}{E:X9->X8->Prop}{s:X8}
theorem zms {v i:X9}{p q:Int×Int}{C:Bool->X8->Prop}(r:zD s.heap v p)(f:zD s.heap i q)(h:C (lt2 p q) s):W8 (Xi prog w) A (keyLt' (tuples' true) v i) C E s:=by
 obtain⟨a,o,n,t,u,rfl,l,B,k⟩:=r;obtain⟨z,H,G,x,y,rfl,c,j,b⟩:=f;refine kat_lt l k c b ?_;show KatLex prog w A true _ C [(Vw p.1 t,Vw q.1 x),(Vw p.2 u,Vw q.2 y)] 0 s;unfold lt2 at h;refine kat_cons (SeqAt.EqAt.int_int _ _ _ _ prog w _ _ (kat_go (fun d=>kat_yes ?_) fun d=>kat_no ?_))
 ·have e:p.1=q.1:=by simpa using d
  rw[if_pos e] at h;refine kat_cons (SeqAt.EqAt.int_int _ _ _ _ prog w _ _ (kat_go (fun g=>kat_yes (kat_nil ?_)) fun g=>kat_no ?_))
  ·have D:p.2=q.2:=by simpa using g
   have m:decide (p.2<q.2)=false:=decide_eq_false (by lia);rw[m] at h;exact h
  ·exact kat_one _ _ (lt_int h)
 ·have e:¬ p.1=q.1:=by simpa using d
  rw[if_neg e] at h;exact oneLt_int h
end
section
variable {X:Cx}
end
section
variable {X:Cx}
theorem zfz:zpE X (zpQ X.K):=by
 intro b s B H x y v u Q I o A h;obtain⟨p,J,i,z,rfl,rfl,n,he,q⟩:=h;cases o;obtain⟨t,rfl⟩:=A;obtain⟨d,r,g,G⟩:=I.list n;obtain⟨j,h1,h2,D,k,l⟩:=zbQ he;obtain⟨w,f,e⟩:=r.get h2;have m:=r.length;have E:=YC;have a:EP X b B Q w s:=⟨z,H,I,e,q⟩;by_cases h0:0<=i
 ·have c:i.toNat=j:=by
   rw[Pc h0 l] at h1;exact Option.some.inj h1
  exact wpAny_getItem_list g.isList h0 (by lia) (by rw[c];simpa using f) a
 ·have c:(i+(d.toArray.size:Int)).toNat=j:=by
   rw[PH (by lia) k] at h1;rw[Xs,<- m];exact Option.some.inj h1
  exact Pz g.isList (by lia) (by rw[Xs]<;>lia) (by lia) (by rw[c];simpa using f) a
theorem zfA:∀{b:List Int} {a:List X9},Vals (b.map V.int) a->OR a b
 | [],_,r=>by cases r;exact .nil
 | n::b,_,r=>by
  cases r with
  | cons c d =>
   obtain⟨t,rfl⟩:=c;exact .cons n t (zfA d)
theorem zkn (j:X.calm=true):jY X (.builtin "sum") (fun xs H Q=>∃(l:Addr) (a:List Int),xs=[.ref l]/\SqL X.K H l (a.map V.int)/\Q (.int a.sum) H):=by
 intro f s z H xs y Q I r h;obtain⟨l,a,rfl,k,q⟩:=h;obtain⟨u,rfl,n⟩:=vals1 r;cases n;obtain⟨b,o,m,v⟩:=I.list k;have e:OR b a:=zfA o;obtain⟨c,d⟩:=e.allInts.items;refine sum_intListG (I.ok.hd j) (xs:=c) (d ▸ m.isList) fun p x w hk=>?_;have g:a=c.toList.map (·.1):=by
  rw[<- nums_intItems,<- d];exact(show numsOf b.toArray.toList=a from e.numsOf).symm
 have i:preSum (numAt c) c.size=a.sum:=by
  rw[g,preSum_eq,Wt (by simp)]
 rw[i];exact⟨.int _,H,I.kept hk,⟨_,rfl⟩,q⟩
theorem zje {bs:List Bool}{a:List X9}(r:Vals (bs.map V.bl) a){i:Nat}{v:X9}(e:a[i]?=some v):∃b,bs[i]?=some b/\v=.bool b:=by
 have d:=r.length;rw[Y1] at d;have c:i<bs.length:=by
  have:=(XZ.mp e).1;lia
 obtain⟨u,f,g⟩:=r.get (i:=i) (x:=.bl bs[i]) (by rw[Xl,X7 c];rfl);rw[f] at e;cases e;exact⟨bs[i],X7 c,g⟩
theorem zfB (n:X.calm=true):jY X (.builtin "any") (fun xs H Q=>∃(l:Addr) (bs:List Bool),xs=[.ref l]/\SqL X.K H l (bs.map V.bl)/\Q (.bl (bs.any id)) H):=by
 intro j s J H xs G Q I r h;obtain⟨l,bs,rfl,o,q⟩:=h;obtain⟨u,rfl,w⟩:=vals1 r;cases w;obtain⟨a,k,p,B⟩:=I.list o;have d:=p.isList;have f:l<s.heap.objs.size:=let ⟨_,he,_⟩:=d;XO he
 have c:=k.length;rw[Y1] at c;refine call_any_walk (SJ d ?_);refine⟨s.heap.objs.size,[s.heap.objs.size,l],[s.heap.objs.size],a.toArray.size,_,_,fun i=>(bs[i]?).getD false,rfl,Walks.list (A:=X.A.in1) (I.ok.hd n) _ l (Xj f) a.toArray,
  ⟨⟨_,W9 _ rfl,rfl,rfl⟩,d.push _⟩,fun i v D y x hP g=>?_,fun z E hk=>?_⟩
 ·obtain⟨b,m,rfl⟩:=zje k (i:=i) (v:=v) (by simpa using hP);simp only[m,TK] at g;exact Vh g
 ·have e:((XC a.toArray.size).any fun i=>(bs[i]?).getD false)=bs.any id:=by
   rw[Xs,<- c];exact LSm.range_any bs
  rw[e];exact⟨.bl _,H,I.kept (LSm.kept_iter hk),rfl,q⟩
end
mutual
inductive Rdn (N:Addr->Prop)(H:Hp):V->Wi->Prop
 | non:Rdn N H .non .none
 | bl (b:Bool):Rdn N H (.bl b) (.bool b)
 | int (i:Int):Rdn N H (.int i) (.int i)
 | str (x:Str):Rdn N H (.str x) (.str x)
 | lst {a:Addr} {xs:List V} {ds:List Wi}:N a->H a=some (.lst xs)->zC N H xs ds->Rdn N H (.ref a) (.list ds)
 | tup {a:Addr} {xs:List V} {ds:List Wi}:H a=some (.tup xs)->zC N H xs ds->Rdn N H (.ref a) (.tuple ds)
inductive zC (N:Addr->Prop)(H:Hp):List V->List Wi->Prop
 | nil:zC N H [] []
 | cons {x:V} {d:Wi} {xs:List V} {ds:List Wi}:Rdn N H x d->zC N H xs ds->zC N H (x::xs) (d::ds)
end
section
variable {K:X5}{N N':Addr->Prop}{H H':Hp}
theorem Rdn.rdv {v:V}{d:Wi}(h:Rdn N H v d):Rdv K H v d :=
 Rdn.rec (motive_1:=fun v d _=>Rdv K H v d) (motive_2:=fun c b _=>xA K H c b) .non .bl .int .str (fun _ h _ t=>.lst (SqL.of h) t) (fun h _ t=>.tup (SqT.of h) t) .nil (fun _ _ a t=>.cons a t) h
theorem zC.rdv {vs:List V}{b:List Wi}(h:zC N H vs b):xA K H vs b :=
 zC.rec (motive_1:=fun v d _=>Rdv K H v d) (motive_2:=fun vs b _=>xA K H vs b) .non .bl .int .str (fun _ h _ t=>.lst (SqL.of h) t) (fun h _ t=>.tup (SqT.of h) t) .nil (fun _ _ a t=>.cons a t) h
theorem Rdn.mono (s:zu H H')(i:∀a,N a->N' a){v:V}{d:Wi}(h:Rdn N H v d):Rdn N' H' v d :=
 Rdn.rec (motive_1:=fun v d _=>Rdn N' H' v d) (motive_2:=fun c b _=>zC N' H' c b) .non .bl .int .str (fun n h _ t=>.lst (i _ n) (s _ _ h) t) (fun h _ t=>.tup (s _ _ h) t) .nil (fun _ _ a t=>.cons a t) h
theorem zC.mono (s:zu H H')(i:∀a,N a->N' a){vs:List V}{b:List Wi}(h:zC N H vs b):zC N' H' vs b :=
 zC.rec (motive_1:=fun v d _=>Rdn N' H' v d) (motive_2:=fun vs b _=>zC N' H' vs b) .non .bl .int .str (fun n h _ t=>.lst (i _ n) (s _ _ h) t) (fun h _ t=>.tup (s _ _ h) t) .nil (fun _ _ a t=>.cons a t) h
theorem zC.into {D:Addr}{o:HO}{c:List V}(e:H D=some (.lst c))(i:∀a,N a->a≠D){vs:List V}{b:List Wi}(h:zC N H vs b):zC N (upd H D o) vs b :=
 zC.rec (motive_1:=fun v d _=>Rdn N (upd H D o) v d) (motive_2:=fun vs b _=>zC N (upd H D o) vs b) .non .bl .int .str (fun n h _ t=>.lst n (by rw[zj (i _ n)];exact h) t) (fun h _ t=>.tup (by rw[zj (zb4 h e (by intro z;cases z))];exact h) t) .nil (fun _ _ a t=>.cons a t) h
theorem Rdn.keep (s:zu H H'){v:V}{d:Wi}(h:Rdn N H v d):Rdn N H' v d:=h.mono s fun _ n=>n
theorem zC.keep (s:zu H H'){vs:List V}{a:List Wi}(h:zC N H vs a):zC N H' vs a:=h.mono s fun _ n=>n
theorem zC.append {vs d:List V}{b c:List Wi}(h:zC N H vs b)(k:zC N H d c):zC N H (vs++d) (b++c) :=
 zC.rec (motive_1:=fun _ _ _=>True) (motive_2:=fun vs b _=>zC N H (vs++d) (b++c))
  trivial (fun _=>trivial) (fun _=>trivial) (fun _=>trivial) (fun _ _ _ _=>trivial) (fun _ _ _=>trivial) k (fun a _ _ t=>.cons a t) h
theorem zC.snoc {vs:List V}{a:List Wi}{v:V}{d:Wi}(h:zC N H vs a)(k:Rdn N H v d):zC N H (vs++[v]) (a++[d]):=h.append (.cons k .nil)
theorem zC.paired {vs:List V}{b:List Wi}(h:zC N H vs b):WU (Rdn N H) vs b :=
 zC.rec (motive_1:=fun _ _ _=>True) (motive_2:=fun vs b _=>WU (Rdn N H) vs b)
  trivial (fun _=>trivial) (fun _=>trivial) (fun _=>trivial) (fun _ _ _ _=>trivial) (fun _ _ _=>trivial) .nil (fun a _ _ t=>.cons a t) h
theorem zC.length {vs:List V}{a:List Wi}(h:zC N H vs a):vs.length=a.length:=Paired.length h.paired
theorem zC.get {vs:List V}{a:List Wi}{i:Nat}{v:V}(h:zC N H vs a)(e:vs[i]?=some v):∃d,a[i]?=some d/\Rdn N H v d:=zcf h.paired e
end
section
variable {K:X5}{g:TG}{tc:TT}{te:TE}{Q:VK}{σ0:St}{H1:Hp}{D:Addr}
def zmt (N:Addr->Prop)(c:St->Prop)(H:Hp)(o:Option Wi)(Y:St->V->Hp->Prop):Prop:=∀d y a b,o=some d->c a->zu H b->Rdn N b y d->Y a y b
def zop (b:St->Prop)(H:Hp)(o:Option Wi)(Z:St->Hp->Prop):Prop:=∀ a c,o=none->b a->zu H c->Z a c
theorem qz {a:Addr}{xs:List V}(N:Addr->Prop)(c:List (Option Wi))(h:St->Prop)(E:H1 D=none)(L:∀a,N a->a≠D)(h0:h σ0)(n:c.length=xs.length)(hz:xs.length<=100000)
  (U:SqL K H1 a xs)
  (hs:∀(i:Nat) (x:V) (o:Option Wi) (k:St) (H:Hp),xs[i]?=some x->c[i]?=some o->zu H1 H->H D≠none->h k->∀Y Z,zmt N h H o Y->zop h H o Z ->
   g x k H fun f J=>tc f J fun b r=>if b=true then te f r fun y B=>Y f y B else Z f r)
  (M:∀ys j,zu H1 j->j D=some (.lst ys)->zC N j ys (c.filterMap id)->Q (.ref D) j):JL (Itl K a) g tc te Q D σ0 (upd H1 D (.lst [])):=by
 refine qj (K:=K) (a:=a) (xs:=xs) (fun i k j=>h k/\zu H1 j/\∃ys,j D=some (.lst ys)/\ys.length<=i/\zC N j ys ((c.take i).filterMap id)) ⟨h0,ze E,[],zc,XV _,.nil⟩ (fun i k j _ ⟨_,s,_⟩=>s.seq U) ?_ ?_
 ·rintro i x k H I ⟨O,s,ys,m,A,p⟩;have u:i<xs.length:=(XZ.mp I).1;obtain⟨o,G⟩:∃o,c[i]?=some o:=⟨c[i]'(by lia),X7 (by lia)⟩;have step:(c.take (i+1)).filterMap id=(c.take i).filterMap id++o.toList:=by
   rw[Xx,G,List.filterMap_append];cases o<;>rfl
  refine hs i x o k H I G s (by rw[m];exact fun z=>nomatch z) O _ _ (fun d y f B e l q v=>?_) (fun f r e l w=>?_)
  ·subst e;refine⟨ys,q _ _ m,XI A (Xy u (X6 hz (by decide))),l,fun b ob e=>?_,ys++[y],zc,?_,?_⟩
   ·rw[zj (zh e E)];exact q _ _ (s _ _ e)
   ·rw[XW];exact O0 A 1
   ·rw[step];exact zC.into (q _ _ m) L (zC.snoc (p.keep q) v)
  ·subst e;refine⟨l,s.trans w,ys,w _ _ m,T5 A,?_⟩;rw[step];simpa using p.keep w
 ·rintro k H ⟨_,s,ys,m,_,p⟩;rw[<- n,Xz] at p;exact M ys H s m p
theorem zg1 {a:Addr}{xs:List V}(Pv:Nat->St->Hp->Prop){H:Hp}(h0:Pv 0 σ0 H)(s:∀i c H,i<=xs.length->Pv i c H->SqL K H a xs)
  (u:∀i x T c H,xs[i]?=some x->H T=none->Pv i c H->g (.ref T) c (upd H T (.tup [.int i,x])) fun d l=>tc d l fun b h=>if b=true then te d h fun y j=>∃ys,j D=some (.lst ys)/\ys.length<Xw/\Pv (i+1) d (upd j D (.lst (ys++[y]))) else Pv (i+1) d h)
  (o:∀ c H,Pv xs.length c H->Q (.ref D) H):JL (Ite K a) g tc te Q D σ0 H:=by
 refine⟨fun i m c H=>m=xs.length-i/\i<=xs.length/\Pv i c H,⟨xs.length,by simp,W5 _,h0⟩,?_⟩;rintro i m c H ⟨rfl,r,p⟩;have q:=s i c H r p;by_cases f:i<xs.length
 ·refine .inr ⟨⟨xs,q,f⟩,Pv (i+1),fun A k z=>⟨xs.length-(i+1),by lia,rfl,f,z⟩,fun x k y=>?_⟩;obtain⟨T,rfl,n,y⟩:=y;obtain⟨v,w,rfl⟩:=y xs q;exact u i v T c H w n p
 ·have e:i=xs.length:=by lia
  subst e;exact .inl ⟨⟨xs,q,rfl⟩,o c H p⟩
theorem J5 {i:Nat}{v:V}{c:St}{H:Hp}{A B:St->Hp->Prop}(h:A (c.set i (some v)) H):Ja i v c H fun a e=>zmq a e fun b d=>if b=true then A a d else B a d:=by
 show if true=true then A (c.set i (some v)) H else B (c.set i (some v)) H
 exact YD h
end
def Jm:List X9:=[.type "ValueError",.type "Exception",.type "BaseException",.type "object"]
structure Fly (P:Xg)(w:WQ)(outer:List Env)(H:Hp)(s:X8)(e C:Addr)(a0:X9)(B:Heap)(H':Hp)(s':X8):Prop where
 fly:Oq B outer e (.ref C) a0 s'.heap
 os:s'.os=s.os
 bare:Sg s'.gens
 un:Un (frs outer) [] H H' s.heap s'.heap
 ok:HOk P w H' B
 kB:∀b o,s.heap.get? b=some o->H b=none->b ∉ frs outer->B.get? b=some o
 tB:∀b o,s.heap.get? b=some o->b ∉ frs outer->∃o',B.get? b=some o'
 new:s.heap.get? e=none
 free:H' e=none
def CXE (P:Xg)(w:WQ):CXT:=fun a H s E x d=>∃(e C:Addr) (c:X9) (B:Heap) (b:Hp),x=.ref e/\Fly P w a H s e C c B b d/\E (.ref C) none b
theorem zko {P:Xg}{w:WQ}{H:Hp}{h:Heap}{a:Addr}:∀{o:HO},jk P w H h a o->∃ob,h.get? a=some ob
 | .lst _,x=>by obtain⟨_,_,_,_,q⟩:=x;exact⟨_,q⟩
 | .tup _,x=>by obtain⟨_,_,_,ob,q,_⟩:=x;exact⟨ob,q⟩
 | .dK _,x=>by obtain⟨_,_,_,_,ob,_,_,q,_⟩:=x;exact⟨ob,q⟩
 | .dT _,x=>by obtain⟨_,_,_,_,ob,_,_,q,_⟩:=x;exact⟨ob,q⟩
 | .set _ _,x=>by obtain⟨ob,_,_,_,q,_⟩:=x;exact⟨ob,q⟩
 | .ins _ _ _,x=>by obtain⟨_,_,_,q,_⟩:=x;exact⟨_,q⟩
 | .own _,x=>x
 | .xd _,x=>by obtain⟨_,⟨ob,_,_,q,_⟩,_⟩:=x;exact⟨ob,q⟩
 | .met _ _,x=>⟨_,x⟩
 | .rng _ _,x=>by obtain⟨_,_,_,q⟩:=x;exact⟨_,q⟩
 | .frz _ _,x=>⟨_,x.1⟩
 | .tbl _,x=>⟨_,x⟩
 | .ext _,x=>x.2.1
section
variable {X:Cx}{pins:List (Addr×Obj)}{σ:St}{H H':Hp}{s s':X8}{e C:Addr}{a0:X9}{B h2:Heap}
theorem Inv.notLoc (I:Inv X pins σ H s){b:Addr}{o:Obj}(q:X.s₀.heap.get? b=some o):b≠X.env.locals:=fun z=>Wl _ (Xy (z ▸ XO q) I.ok.above)
theorem Inv.notStk (I:Inv X pins σ H s){b:Addr}{o:Obj}(q:X.s₀.heap.get? b=some o)(a:b ∉ X.fs):b ∉ frs X.stack:=fun z=>by
 rcases XJ.mp (I.stkSub b z) with r | r
 ·exact I.notLoc q r
 ·exact a r
theorem Inv.flies (I:Inv X pins σ H s)(j:X.ex=[])(F:Oq B X.outer e (.ref C) a0 h2)(up:s'.heap.UpToSlots h2)(os:s'.os=s.os)(i:Sg s'.gens)(un:Un (frs X.stack) [] H H' s.heap s'.heap)(ok:HOk X.prog X.w H' B)
  (x:∀b o,s.heap.get? b=some o->H b=none->b ∉ frs X.stack->B.get? b=some o) (Q:∀b o,s.heap.get? b=some o->b ∉ frs X.stack->∃c,B.get? b=some c) (k:s.heap.get? e=none) (free:H' e=none) :
  Fly X.prog X.w X.outer X.H₀ X.s₀ e C a0 B H' { s' with heap:=h2 }:=by
 have f:∀b,b ∉ X.ex:=fun b z=>by rw[j] at z;cases z
 have keep:∀b o,X.s₀.heap.get? b=some o->X.H₀ b=none->b ∉ X.fs->B.get? b=some o:=fun b o q n a =>
  x b o (I.base.keep b o q n a (f b)) (I.base.free b o q n (f b)) (I.notStk q a)
 have d:∀b o,X.s₀.heap.get? b=some o->b ∉ X.fs->∃c,B.get? b=some c:=fun b o q a=>by
  obtain⟨c,h⟩:=I.base.there b o q (f b);exact Q b c h (I.notStk q a)
 have g:∀b o,X.s₀.heap.get? b=some o->b∈X.fs->∃l,h2.get? b=some { o with slots:=l }:=fun b o q a=>by
  obtain⟨_,U,p,D⟩:=I.ok.funs.mem a;rw[q] at p;cases p;obtain⟨l,G⟩:=I.base.slot b o q (I.ok.frf b a) a (f b);obtain⟨O,J⟩:=un.any G (I.base.free b o q (I.ok.frf b a) (f b)) (fun z=>nomatch z);obtain⟨m,L⟩:=up b _ J D;exact⟨m,L⟩
 refine⟨F,os.trans I.os,i,⟨fun b o q n a _=>F.1 b o (keep b o q n a),fun b o q _ a _=>g b o q a,fun b o q n _=>?_,fun b o q _=>?_,fun b v q=>un.tups b v (I.base.tups b v q),fun b o u q=>un.frzs b o u (I.base.frzs b o u q),fun b E q=>?_⟩,ok,keep,d,?_,free⟩
 ·obtain⟨c,h⟩:=I.base.there b o q (f b);exact un.free b c h (I.base.free b o q n (f b)) fun z=>nomatch z
 ·by_cases a:b∈X.fs
  ·obtain⟨l,r⟩:=g b o q a;exact⟨_,r⟩
  ·obtain⟨c,r⟩:=d b o q a;exact⟨c,F.1 b c r⟩
 ·obtain⟨y,M⟩:=I.base.tbls b E q;obtain⟨A,N⟩:=un.tbls b _ M;exact⟨y++A,by rw[N,Array.append_assoc]⟩
 ·cases q:X.s₀.heap.get? e with
  | none=>rfl
  | some o =>
   obtain⟨c,h⟩:=I.base.there e o q (f e);rw[k] at h;cases h
structure YE (X:Cx)(E:XK):Prop where
 stk:X.stack=X.env::X.outer
 fr:X.env.frame=some X.env.locals
 ex:X.ex=[]
 xe:X.xe=fun x s'=>W8 (Xi X.prog X.w) X.A (leaving X.env x) (fun _ s''=>CXE X.prog X.w X.outer X.H₀ X.s₀ E x s'') (fun x' s''=>CXE X.prog X.w X.outer X.H₀ X.s₀ E x' s'') s'
theorem zaZ {P:Xg}{w:WQ}{K:X5}{e:Str->Option X9}{base:Heap}{N:List Str}{c:Str}{b:UG}{f:Addr}{d:X9}{A:WH}{a:List Env}{s:X8}{H:Hp}{E:XK} :
  YE (zft (CXE P w) P w K e base N c b f d A a s H E) E:=⟨rfl,rfl,rfl,rfl⟩
theorem zoq {l:List Env}:∀b∈l,∀a,b.frame=some a->a∈frs l:=fun b he a c=>Tf.mpr ⟨b,he,c⟩
theorem YE.made {E:XK}(L:YE X E)(I:Inv X pins σ H s){h1:Heap}{vs:List X9}(c:Heap.MadeExcOf s.heap h1 e (.ref C) vs)(h:E (.ref C) none H):X.xe (.ref e) { s with heap:=h1 }:=by
 rw[L.xe];have i:=I.stack;have d:∀a o,H a=some o->a ∉ frs X.stack:=fun a o q z=>by
  rw[I.stkFree a z] at q;cases q
 have own:∀a b,H b=some (.own a)->b ∉ frs X.stack:=fun a b q=>d b _ q;have fresh:H e=none:=by
  cases q:H e with
  | none=>rfl
  | some o =>
   obtain⟨f,g⟩:∃f,s.heap.get? e=some f:=by
    exact zko (I.hok e o q)
   rw[c.new] at g;cases g
 refine wpAny_leaves_madeW (base:=PySem.W.hideAll s.heap (frs X.stack)) (L:=X.env.locals) (by rw[I.ok.frames,L.stk]) L.fr (fun b o q=>PySem.W.of_hideAll _ q) (PySem.W.funFrames_hide (by rw[<- L.stk];exact i) (by rw[<- L.stk];exact zoq)) c fun l t j m n k=>?_;refine⟨e,C,_,_,H,rfl,I.flies (s':={ s with heap:=h1 }) L.ex j k rfl I.bare (Un.kept c.keeps) ?_ (fun b o q _ hb=>TB _ q hb) (fun b o q hb=>⟨o,TB _ q hb⟩) c.new fresh,h⟩;exact fun a o q=>(I.hok a o q).stay (fun b u hb r=>TB _ r (by
  rcases hb with hb | hb
  ·rw[hb];exact d a o q
  ·exact own a b hb)) (fun _ r=>r) fun _ _ r=>r
theorem YE.passes {E:XK}(L:YE X E):Passes (CXE X.prog X.w) X E:=by
 intro pins σ H s x s' I h;obtain⟨e,C,a0,B,H',rfl,F,b⟩:=h;rw[L.xe];have a:=F.fly;rw[L.stk] at a;refine wpAny_leaves_onW (by rw[I.ok.frames,L.stk]) L.fr a fun h2 c d=>?_;exact⟨e,C,a0,B,H',rfl,I.flies L.ex c d F.os F.bare F.un F.ok F.kB F.tB F.new F.free,b⟩
end
structure qJ (K:X5)(mg:Str->Option X9)(x:Str)(C:Addr):Prop where
 g:mg x=some (.ref C)
 q:WC K C Jm "ValueError.__new__"=true
structure znw (h:Heap)(C:Addr)(bm:List X9):Prop where
 ex:∃N nm qn bs hdct sn sub ab col dd k0 k1 k2 k3 k5 mN,h.get? C=some (excClassObj nm qn C N bs bm hdct sn sub ab col dd k0 k1 k2 k3 k5 "ValueError.__new__")/\h.Ns N mN/\mN "__init__"=none
 tl:OwnTail h Jm bm
theorem znx {K:X5}{h:Heap}{C:Addr}(d:K.In h)(f:WC K C Jm "ValueError.__new__"=true):∃bm,znw h C bm:=by
 unfold WC at f;split at f
 ·rename_i dd cd sl look;split at f
  ·rename_i C' bm k0 k1 k2 k3 n k5 em es;simp only[We,beq_iff_eq,WE] at f;obtain⟨⟨⟨⟨⟨rfl,rfl⟩,b⟩,e⟩,c⟩,a⟩:=f;obtain⟨p,bs,o,q,r,m,s,sub,j,g,k⟩:=cd;dsimp only at em b c a;subst em b;have i:sl=#[k0,k1,k2,k3,some (.builtin "ValueError.__new__"),k5]:=by
    obtain⟨l⟩:=sl;simp only at es;rw[es]
   subst i;exact⟨bm,⟨q,p,r,bs,m,s,sub,j,g,dd,k0,k1,k2,k3,k5,_,d _ _ look,.of_isNs (PySem.W.isNs_of_in d c),PySem.W.nsMap_none_of_in d c a⟩,PySem.W.tail_of_in d e⟩
  ·cases f
 ·cases f
section
variable {X:Cx}
def zor (E:XK)(C:Addr)(t:TA):TS:=fun _ c H=>t c H fun b a=>b.length<=Xw/\E (.ref C) none a
theorem zkp {x:Str}{C:Addr}{y c pos:Pos}{i:Expr}{b:List Expr}{t:TA}{E:XK}(L:YE X E)(O:qJ X.K X.mg x C)(p:Gl X x)(o:X.calm=true)(n:PA X (i::b) t)
  (he:WA (i::b) X.env=(false,eval i X.env)::WA b X.env:=by rfl) (u:(SZ c (WA b X.env)).any (·.1)=false:=by rfl) (j:(x==("__debug__":Str))=false:=by decide) :
  PS X (.Raise (some (.Call (.Name x y) (i::b) [] c)) none pos) (zor E C t):=by
 intro d s A H D I h;obtain⟨bm,⟨N,nm,z,bs,hdct,sn,sub,ab,col,dd,k0,k1,k2,k3,k5,mN,l,m,k⟩,T⟩:=znx I.ok.mod.kin O.q;refine wpAny_Raise_call_subU (C:=C) (nm:=nm) (q:=z) (N:=N) (bs:=bs) (bm:=bm) (hdct:=hdct) (sn:=sn) (sub:=sub) (ab:=ab) (col:=col) (dd:=dd) (k0:=k0) (k1:=k1) (k2:=k2) (k3:=k3) (k5:=k5)
  RA (by decide) RA (mN:=mN) (T.hasType PySem.F.excBase_ValueError.hasBase) (I.ok.hd o) (by rw[he];show (false || (SZ c (WA b X.env)).any (·.1))=false;rw[u];rfl) k (zab I p O.g ⟨rfl,?_⟩ j)
 have a:=n c d s A H _ I h;rw[he] at a ⊢;refine O3 (thn a fun M J ⟨Q,B,f,r,w,q⟩=>?_);exact⟨rfl,by rw[<- r.length];exact w,f.bk _ _ l,m.keeps f.bk,T.keeps f.bk,fun G e v=>L.made f v q⟩
def markX (X:Cx)(e:Addr):Cx:={ X with A:=X.A.mark (some (.ref e)),calm:=false,xe:=fun _ _=>False }
variable {pins:List (Addr×Obj)}{σ:St}{H:Hp}{s:X8}
theorem Cx.Ok.mark (ok:X.Ok)(e:Addr):(markX X e).Ok :=
 ⟨ok.mod,ok.kind,ok.glob,ok.blt,ok.above,ok.inj,ok.has,ok.cab,(fun z=>nomatch z),ok.frames,ok.stk,ok.exf,ok.bs,ok.bsz,ok.noex,ok.exfs,ok.funs,ok.frf⟩
theorem Inv.mark (I:Inv X pins σ H s)(e:Addr):Inv (markX X e) pins σ H s:=⟨I.ok.mark e,I.os,I.bare,I.base,I.loc,I.cell,I.free,I.freeC,I.pin,I.hok,I.len⟩
theorem Inv.unmark {e:Addr}(I:Inv (markX X e) pins σ H s)(ok:X.Ok):Inv X pins σ H s:=⟨ok,I.os,I.bare,I.base,I.loc,I.cell,I.free,I.freeC,I.pin,I.hok,I.len⟩
def zos (e C:Addr)(h:Heap):Prop:=∃ob a,h.get? e=some ob/\ob.cls=.ref C/\ob.data=.fields a
def exO (e C:Addr):HO:=.ext (zos e C)
theorem Inv.nameGoes {M:Od}{A:WH}{E:X9->X8->Prop}{j:Nat}{n:Str}{pos:Pos}{Q:Unit->X8->Prop}(I:Inv X pins σ H s)(hN:X.N.Nodup)(L:X.N[j]?=some n)(hl:X.env.scope.names.lookup n=some .local)
  (h:∀s',Inv X pins (σ.set j none) H s'->Q () s'):W8 M A (do bindName X.env n .none;unbindBehindTheSuite X.env n pos) Q E s:=by
 obtain⟨m,O,x⟩:=id I.loc;refine wpAny_nameGoes_keeps hl O (by rw[I.ok.kind];rfl) fun h' v B D=>h _ ?_;have a:∀b o,b≠X.env.locals->s.heap.get? b=some o->h'.get? b=some o:=fun b o g q=>(D.2 b g).trans q;obtain⟨oL,_,_,aa,_⟩:=id O;have f:∀b o,X.s₀.heap.get? b=some o->b≠X.env.locals:=fun b o q=>I.notLoc q;refine⟨I.ok,I.os,I.bare,⟨fun b o q n g u=>a b o (f b o q) (I.base.keep b o q n g u),fun b o q n g u=>?_,I.base.free,fun b o q u=>?_,I.base.tups,I.base.frzs,I.base.tbls⟩,⟨_,B,fun i y v' J w Y=>?_⟩,fun y c q=>?_,I.free,I.freeC,fun p hp=>?_,fun b ob q=>?_,by simpa using I.len⟩
 ·obtain⟨sl,r⟩:=I.base.slot b o q n g u;exact⟨sl,a b _ (f b o q) r⟩
 ·obtain⟨o',r⟩:=I.base.there b o q u;exact⟨o',a b _ (f b o q) r⟩
 ·by_cases e:i=j
  ·subst e;have l:i < σ.length:=by rw[I.len];exact(XZ.mp L).1
   rw[Sy l] at w;cases w
  ·rw[R6 (U9 e)] at w;obtain⟨u',r',z⟩:=x i y v' J w Y;refine⟨u',r',?_⟩;rcases z with ⟨k,q⟩ | ⟨k,c,q,z⟩
   ·refine .inl ⟨k,?_⟩;have ny:y≠n:=fun q=>e (zb5 hN J (q ▸ L));simp[ny,q]
   ·exact .inr ⟨k,c,q,z.sameBut D (I.cne y c q)⟩
 ·obtain⟨G,z⟩:=I.cell y c q;exact⟨G,z.sameBut D (I.cne y c q)⟩
 ·obtain⟨q,n',U,nf,d⟩:=I.pin p hp;exact⟨a p.1 _ U q,n',U,nf,d⟩
 ·refine(I.hok b ob q).stay (fun c G hc r=>a c G ?_ r) (fun _ r=>r) fun _ _ r=>r;rintro rfl;rcases hc with rfl | hc
  ·rw[I.free] at q;cases q
  ·rw[I.free] at hc;cases hc
theorem Fly.caught {l j:Hp}{s1 s':X8}{e C:Addr}{y:X9}{B h:Heap}(I:Inv X pins σ l s1)(F:Fly X.prog X.w X.stack l s1 e C y B j s')(i:Oq B X.stack e (.ref C) y h)(up:s'.heap.UpToSlots h) :
  Inv X pins σ (upd j e (exO e C)) { s' with heap:=h }:=by
 have H:∀b o,s1.heap.get? b=some o->b≠e:=fun b o q z=>by
  rw[z,F.new] at q;cases q
 have f:∀b u,j b=some u->b≠e:=fun b u q=>zh q F.free;have d:∀b o,s1.heap.get? b=some o->l b=none->b∈frs X.stack->∃v,h.get? b=some { o with slots:=v }:=fun b o q n a=>by
  obtain⟨_,D,g,J⟩:=I.stack.mem a;rw[q] at g;cases g;obtain⟨v,p⟩:=F.un.slot b o q n a (fun z=>nomatch z);obtain⟨x,s⟩:=up b _ p J;exact⟨x,s⟩
 refine I.call' (ch:=[]) F.os ⟨fun b o q n a _=>i.1 b o (F.kB b o q n a),fun b o q n a _=>d b o q n a,fun b o q n _=>?_,fun b o q _=>?_,fun b G q=>?_,fun b o u q=>?_,fun b L q=>?_⟩ (fun b ob q=>?_) F.bare fun b z=>nomatch z
 ·rw[zj (H b o q)];exact F.un.free b o q n fun z=>nomatch z
 ·by_cases a:b∈frs X.stack
  ·obtain⟨v,r⟩:=d b o q (I.stkFree b a) a;exact⟨_,r⟩
  ·obtain⟨A,r⟩:=F.tB b o q a;exact⟨A,i.1 b A r⟩
 ·have r:=F.un.tups b G q;rw[zj (f b _ r)];exact r
 ·have r:=F.un.frzs b o u q;rw[zj (f b _ r)];exact r
 ·obtain⟨m,r⟩:=F.un.tbls b L q;exact⟨m,by rw[zj (f b _ r)];exact r⟩
 ·by_cases a:b=e
  ·subst a;rw[zc] at q;cases q;obtain⟨E,U,g,p,s,_⟩:=i.first;exact⟨⟨E,U,g,p,s⟩,⟨E,g⟩,fun Y g2 ⟨D,Q,M,N,O⟩ k=>⟨D,Q,k _ M,N,O⟩⟩
  ·rw[zj a] at q;refine(F.ok b ob q).stay (fun c u _ r=>i.1 c u r) (fun c r=>?_) fun c G r=>?_
   ·rw[zj (f c _ r)];exact r
   ·rw[zj (f c _ r)];exact r
theorem zmu {M:Od}{A:WH}{E:X9->X8->Prop}{s:X8}{S e C:Addr}{bm:List X9}{j:Obj}{Q:Bool->X8->Prop}(O:znw s.heap S bm)(he:s.heap.get? e=some j)(a:j.cls=.ref C)
  (l:PySem.W.Looks M s.heap (isSubtype (.ref C) (.ref S)) true) (o:Q true s):W8 M A (excMatches (.ref e) (.ref S)) Q E s:=by
 obtain⟨⟨N,D,G,bs,i,H,sub,p,k,r,v,w,x,y,z,B,c,u,n⟩,T⟩:=O;have m:=T.hasType PySem.F.excBase_ValueError.hasBase;obtain⟨h,g,d,t,os⟩:=s;have b:(Wx S::bm).contains (.type "BaseException")=true:=by rw[List.contains_cons,m,Bool.or_true]
 have f:=tc_notTuple;unfold excMatches;repeat (first | (with_reducible refine VY he ?_;rw[a]) | with_reducible refine VY c ?_ | (with_reducible refine wpAny_isSubtype_exc c ?_;rw[b]) | wp_step)
 refine l A _ E _ (fun _ _ q=>q) ?_;rw[if_pos rfl];exact XU (XU (XU o))
def zqY (K:X5)(S:Addr)(i j:Nat)(sp:Sp)(g:TA)(h:TS):TS:=fun D σ H=>g σ H fun k f=>sp k f (fun v d=>D.nx (σ.set i (some v)) d)
 (fun c _ d=>∃C,c=.ref C/\VG K C (.ref S)=some true/\∀e,d e=none ->
  h { nx:=fun a b=>D.nx (a.set j none) b,rt:=D.rt,bk:=fun a b=>D.bk (a.set j none) b,ct:=fun a b=>D.ct (a.set j none) b } (σ.set j (some (.ref e))) (upd d e (exO e C)))
theorem zot {k i j:Nat}{x n f xS:Str}{fA S:Addr}{fd:Xo}{ps:List Str}{sp:Sp}{ta:TA}{ts:TS}{Q:Expr}{G:List Expr}{xp fp cp ap aj hp pos:Pos}{b0:Stmt}{b:List Stmt}
  (c:X.stack=X.env::X.outer) (ac:X.env.frame=some X.env.locals) (F:qt X.prog X.w X.K X.mg X.base (CXE X.prog X.w) k fA fd ps sp) (hr:Zg k X.A) (hg:Gl X f) (hm:X.mg f=some (.ref fA)) (hk:TV X.K (.ref fA)=true) (hb:Binds X.K fd ps [])
  (J:X.N.Nodup) (hi:X.N[i]?=some x) (hx:Loc X.env.scope x) (hf:X.fn x=true\/X.env.scope.names.lookup x=some .local) (U:X.N[j]?=some n) (L:X.env.scope.names.lookup n=some .local) (gS:Gl X xS) (O:qJ X.K X.mg xS S)
  (ha:PA X.nox (Q::G) ta) (hs:∀e,PSs (markX X e) (b0::b) ts)
  (he:WA (Q::G) X.env=(false,eval Q X.env)::WA G X.env:=by rfl) (af:(SZ cp (WA G X.env)).any (·.1)=false:=by rfl) (ab:(f==("__debug__":Str))=false:=by decide) (aa:(xS==("__debug__":Str))=false:=by decide)
  (ah:Qb (.Call (.Name f fp) (Q::G) [] cp) (some (.Name x xp)) ap.line X.env=pure false:=by rfl) :
  PS X (.Try [.Assign [.Name x xp] (.Call (.Name f fp) (Q::G) [] cp) ap] [.ExceptHandler (some (.Name xS aj)) (some n) (b0::b) hp] [] [] pos) (zqY X.K S i j sp ta ts):=by
 intro pins s σ H D I h;refine wpAny_Try_except (Si ?_);refine wpAny_Assign_Name (Te (zab I hg hm ?_ ab)) ah;refine PySem.W.callWith_K (h₀:=X.base) I.ok.mod.kin hk (Ww (ha cp pins s σ H _ (I.wish _) h) (fun us s1 ⟨vs,H1,M,r,q⟩=>⟨M.kIn,?_⟩) fun _ _ z=>Wv z) he af;have E:Inv X pins σ H1 s1:=M.unwish;have Y:us.length=ps.length:=by rw[<- r.length];exact F.len _ _ _ _ q
 have bt:=hb s1 us E.kIn (by rw[Xc];exact Y);rw[Xc] at bt;refine wpAny_call (SW (F.run X.A X.stack s1 H1 ⟨us,[]⟩ us vs _ _ hr E.env0 bt r q) fun ai s' hq=>?_);cases ai with
 | ok fl =>
  cases fl with
  | ret u =>
   obtain⟨v,H2,I2,rv,q2⟩:=E.after hq;exact zaa I2 J hi hx rv (fun s3 I3=>Uh (Uh ⟨_,H2,I3,q2⟩)) hf
  | next=>exact Wv hq
  | brk=>exact Wv hq
  | cont=>exact Wv hq
 | error y =>
  obtain⟨e,C,a0,B,H',rfl,Fl,C',ec,ae,ag⟩:=hq;cases ec;have ff:=Fl.fly;rw[c] at ff;refine wpAny_looks_onW (by rw[E.ok.frames,c]) ac ff fun h4 an ak=>?_;refine wpAny_landsW an fun h5 o al=>?_;have up:=ak.trans al;have I5:=Fl.caught E (h:=h5) (by rw[c];exact o) up;refine wpAny_handleBy_cons (codeAny_handlers_test (zab (X:=markX X e) (I5.mark e) gS O.g ?_ aa)) (by intro z;cases z);obtain⟨bm,OS⟩:=znx I5.kIn O.q;obtain⟨oe,aq,q1,q2,q3,_⟩:=o.first;refine zmu OS q1 q2 (RW I5.kIn ae) (codeAny_handlers_suite_as ?_);refine lands_againW o fun h6 ao am=>?_;have I6:=Fl.caught E (h:=h6) (by rw[c];exact ao) (up.trans am);refine zaa (X:=markX X e) (I6.mark e) J U (.inl L) (v:=.ref e) rfl (fun s7 I7=>?_) (.inr L);refine Ww (hs e pins s7 _ _ _ I7 (ag e Fl.free)) (fun fl s8 a=>?_) fun _ _ z=>z.elim;cases fl with
  | next =>
   obtain⟨p,d,l,a⟩:=a;exact(l.unmark I.ok).nameGoes J U L fun s9 m=>⟨_,d,m,a⟩
  | brk =>
   obtain⟨p,d,l,a⟩:=a;exact(l.unmark I.ok).nameGoes J U L fun s9 m=>⟨_,d,m,a⟩
  | cont =>
   obtain⟨p,d,l,a⟩:=a;exact(l.unmark I.ok).nameGoes J U L fun s9 m=>⟨_,d,m,a⟩
  | ret u =>
   obtain⟨v8,p,d,l,r8,a⟩:=a;exact(l.unmark I.ok).nameGoes J U L fun s9 m=>⟨v8,_,d,m,r8,a⟩
end
theorem Fun.okX {P:Xg}{w:WQ}{K:X5}{j:Str->Option X9}{base:Heap}{x b:Str}{st:Stmt}{f:Addr}{i:Xo}{N ps:List Str}{k:Nat}{sp:Sp}(F:Fun K x b st f i)(S:zF N ps (zg st))(h:∀vs H Q E,sp vs H Q E->vs.length=ps.length)
  (d:∀(c:X9) (A:WH) (a:List Env) (s:X8) (H:Hp) (vs:List V) (Q:VK) (E:XK),Zg k (A.deeper (PK b (zg st) s.heap.objs.size f c))->sp vs H Q E ->
   ∃t,PSs (zft (CXE P w) P w K j base N b (zg st) f c A a s H E) (xJ st) t/\t { nx:=fun _ l=>Q .non l,rt:=Q } (start N vs) H):qt P w K j base (CXE P w) (k+1) f i ps sp:=by
 obtain⟨r,u,kV,doc,v,p,c,q,o,rfl,n,e⟩:=F.ex;exact znu n e S h fun A a s H vs Q E m g=>d c A a s H vs Q E m g
structure YF (K:X5)(C:Addr):Prop where
 ga:VO K (.ref C) "__getattribute__"=some (some (.builtin "BaseException.__getattribute__"))
 gh:VO K (.ref C) "__getattr__"=some none
 cl:VO K (.ref C) "__class__"=some (some (.builtin "object.__class__"))
 mb:VG K C (.type "BaseException")=some true
 mo:VG K C (.type "object")=some true
 ci:To K C=true
section
variable {prog:Xg}{w:WQ}{A:WH}{E:X9->X8->Prop}{K:X5}{e C:Addr}
theorem zdp {R:Om->X8->Prop}{h:Heap}{g:Array UF}{d:Oe}{t:Nat}{os:Ou}(F:YF K C)(b:K.In h){o:Obj}(f:h.get? e=some o)(c:o.cls=.ref C)(i:R (.ok (.ret (.ref C))) ⟨h,g,d,t,os⟩) :
  T7 (Xi prog w) A (.call (.builtin "getset_descriptor.__get__") ⟨[.builtin "object.__class__",.ref e,.ref C],[]⟩) R ⟨h,g,d,t,os⟩:=by
 have a:(⟨h,g,d,t,os⟩:X8).TypeIs (.builtin "object.__class__") "getset_descriptor":=T1;have lo:=RW (M:=Xi prog w) b F.mo;rw[<- PySem.F.owner_object_class] at lo;refine TQ PySem.F.slot_gs_get.plain PySem.F.entry_gs_get (PySem.F.slot_gs_get.check _ _ _ _ _ _ _ _ a (PySem.F.args_gs_get _ _ _) ?_);repeat (any_goals (first | assumption | (with_reducible refine VY f ?_;rw[c]) | wp_step))
 refine lo _ _ _ _ (fun _ _ z=>z) ?_;repeat (any_goals (first | assumption | wp_step))
 refine⟨Code.quiet_builtin _ (by decide +kernel),VS PySem.F.entry_object_class ?_⟩;repeat (any_goals (first | assumption | (with_reducible refine VY f ?_;rw[c]) | wp_step))
theorem zbH {tk:Tok}{Q:Fin->X8->Prop}{h:Heap}{g:Array UF}{d:Oe}{t:Nat}{os:Ou}(F:YF K C)(a:K.In h){o:Obj}(c:h.get? e=some o)(b:o.cls=.ref C)(m:Q (.done (.ret (.ref C))) ⟨h,g,d,t,os⟩) :
  W8 (Xi prog w) A (UU.«object.__getattribute__» ⟨[.ref e,.str "__class__" tk],[]⟩) Q E ⟨h,g,d,t,os⟩:=by
 have f:(⟨h,g,d,t,os⟩:X8).TypeIs (.builtin "object.__class__") "getset_descriptor":=T1;have j:=T1;have k:=PySem.F.slot_gs_get.lookup;have l:=PySem.F.slot_gs_set.lookup;have i:=R5 (M:=Xi prog w) a F.cl;repeat (any_goals (first | assumption | (with_reducible refine VY c ?_;rw[b]) | wp_step))
 refine i _ _ _ _ (fun _ _ z=>z) ?_;repeat (any_goals (first | assumption | (with_reducible refine VY c ?_;rw[b]) | wp_step))
 refine zdp F a c b ?_;repeat (any_goals (first | assumption | wp_step))
theorem zeK {M:Od}{a:X9}{Q:Unit->X8->Prop}{h:Heap}{g:Array UF}{d:Oe}{t:Nat}{os:Ou}(F:YF K C)(b:K.In h){o:Obj}(f:h.get? e=some o)(c:o.cls=.ref C)(m:Q () ⟨h,g,d,t,os⟩) :
  W8 M A (P8 "BaseException.__getattribute__" ⟨[.ref e,a],[]⟩) Q E ⟨h,g,d,t,os⟩:=by
 have i:builtinKind "BaseException.__getattribute__"=some .slot:=by decide +kernel
 have k:splitId "BaseException.__getattribute__"=some ("BaseException","__getattribute__"):=by decide +kernel
 have l:=PySem.F.args_bexc_ga (.ref e) a;have j:=RW (M:=M) b F.mb;simp only[P8,i,k];refine ZB ?_;unfold isInstance;repeat (first | (with_reducible refine VY f ?_;rw[c]) | wp_step)
 refine j _ _ _ _ (fun _ _ z=>z) ?_;repeat (any_goals (first | assumption | wp_step))
theorem zcg {tk:Tok}{R:Om->X8->Prop}{h:Heap}{g:Array UF}{d:Oe}{t:Nat}{os:Ou}(F:YF K C)(a:K.In h){o:Obj}(c:h.get? e=some o)(b:o.cls=.ref C)(f:R (.ok (.ret (.ref C))) ⟨h,g,d,t,os⟩) :
  T7 (Xi prog w) A (.call (.builtin "BaseException.__getattribute__") ⟨[.ref e,.str "__class__" tk],[]⟩) R ⟨h,g,d,t,os⟩ :=
 TQ PySem.F.attr_ValueError.ga.plain PySem.F.entry_bexc_ga (zeK F a c b (zbH F a c b f))
theorem zch {Q:Option X9->X8->Prop}{h:Heap}{g:Array UF}{d:Oe}{t:Nat}{os:Ou}(F:YF K C)(a:K.In h){o:Obj}(c:h.get? e=some o)(b:o.cls=.ref C)(m:Q (some (.ref C)) ⟨h,g,d,t+1,os⟩) :
  W8 (Xi prog w) A (N8 (.ref e) "__class__") Q E ⟨h,g,d,t,os⟩:=by
 have l:=PySem.F.attr_ValueError.ga.bind (.ref e);have f:(Ri "BaseException.__getattribute__" == Ri "object.__getattribute__")=false:=by decide +kernel
 have i:(onTheHeap (Wx C)&&Ri "BaseException.__getattribute__" == Ri "object.__getattribute__")=false:=by rw[f];rfl
 have j:=R5 (M:=Xi prog w) a F.ga;have k:=R5 (M:=Xi prog w) a F.gh;unfold N8 getAttrBy? getAttrBy;repeat (any_goals (first | assumption | (with_reducible refine VY c ?_;rw[b]) | wp_step))
 refine j _ _ _ _ (fun _ _ z=>z) ?_;repeat (any_goals (first | assumption | (with_reducible refine VY c ?_;rw[b]) | wp_step))
 refine k _ _ _ _ (fun _ _ z=>z) ?_;repeat (any_goals (first | assumption | (with_reducible refine VY c ?_;rw[b]) | wp_step))
 refine zcg F a c b ?_;repeat (any_goals (first | assumption | wp_step))
theorem zkq (F:YF K C):PySem.W.KitX K (.ref e) (.ref C) (zos e C) where
 ty:=fun M h _ p=>by
  obtain⟨ob,vs,q1,q2,_⟩:=p;exact q2 ▸ (PySem.W.Looks.ld q1).andThen .now
 it:=fun M h kin _=>by
  have ci:=F.ci;unfold To PySem.W.clsIn at ci;split at ci
  ·rename_i c1 d1 cd1 sl1 lk;intro A1 Q1 E1 s1 k q;unfold isType loadHead;exact ZB (wpAny_loadPart (k _ _ (kin _ _ lk)) (XU q))
  ·cases ci
 ne:=fun h tp dd its n sl kin htp=>by
  refine XB.mpr fun q=>?_;have ec:C=tp:=Value.ref.inj (beq_iff_eq.mp q);subst ec;have ci:=F.ci;unfold To PySem.W.clsIn at ci;split at ci
  ·rename_i c1 d1 cd1 sl1 lk;have z:=(kin _ _ lk).symm.trans htp;cases z
  ·cases ci
 ca:=fun {prog w A E Q s} kin p k=>by
  obtain⟨ob,vs,q1,q2,_⟩:=p;obtain⟨h,g,d,t,os⟩:=s;exact zch F kin q1 q2 k
def zkr:V->X9
 | .ref D=>.ref D
 | .ty n=>.type n
 | _=>.none
theorem qH {X:Cx}(i:X.K=K):jY X (.builtin "isinstance") (fun xs H Q=>∃e C c b,xs=[.ref e,c]/\H e=some (exO e C)/\YF K C/\((∃D,c=.ref D)\/∃n,c=.ty n)/\Xa K (.ref C) (zkr c)=some b/\Q (.bl b) H):=by
 intro d s v H xs o Q I r h;obtain⟨e,C,c,b,rfl,he,F,j,hk,q⟩:=h;obtain⟨u,m,rfl,k,f⟩:=vals2 r;cases k;have p:zos e C s.heap:=(I.hok e _ he).1;have a:=I.kIn;rw[i] at a;have g:m=zkr c:=by
  rcases j with ⟨D,rfl⟩ | ⟨n,rfl⟩
  ·cases f;rfl
  ·cases f;rfl
 subst g;exact V2 (zkq F) a p hk (fun z=>nomatch z) fun l=>⟨.bl b,H,I.tok l,rfl,q⟩
end
section
variable {X:Cx}{tg iter elt:Expr}{ifs:List Expr}{scope:UG}{pos:Pos}{N:List Str}{src:List (Option Nat)}{cl:List (Str×Addr)}{wi:TI}{g:TG}{tc:TT}{te:TE}
theorem Jy {i:Nat}{x:Str}{O ak:Pos}(hN:X.N.Nodup)(a1:X.N[i]?=some x)(ao:X.env.scope.names.lookup x=some .local)(ok:zR X N src scope cl)(Y:X.calm=true)(hi:PI X tg iter wi)
  (hg:∀C fp a s H,PG (jd X N scope cl C fp a s H) tg g) (hc:∀C fp a s H,zjc (jd X N scope cl C fp a s H) ifs tc) (he:∀C fp a s H,PE (jd X N scope cl C fp a s H) elt te)
  (hs:∀x,T6 iter X.env x=pure x:=by intro _;rfl) (a3:Qb (.ListComp elt [⟨tg,iter,ifs,0⟩] scope pos) (some (.Name x O)) ak.line X.env=pure true:=by rfl) :
  PS X (.Assign [.Name x O] (.ListComp elt [⟨tg,iter,ifs,0⟩] scope pos) ak) (zmg (zie wi src g tc te) (Ja i)):=by
 intro a s σ H D I h;rw[Pk _ _ _ _ a3];refine ZB (VF (ZB ?_));unfold evalThenUse;refine ZB (Ww (Q:=fun _ ag=>∃ j E,Inv X a j E ag/\D.nx j E) ?_ (fun _ ag ⟨j,E,I',q'⟩=>XU (XU ⟨j,E,I',q'⟩)) fun _ _ z=>z);refine UK (use:=some (OB (.Name x O) X.env)) rfl hs ok.clos ok.kind ok.names (thn (hi a s σ H _ I h) fun xv s1 h1=>thn h1 fun a7 f h2=>?_);obtain⟨it,fp,tn,J,U,e,I2,T,aq,f2,q2⟩:=h2;subst e;refine VZ (O2 ok.nocell (by intro y hy;simp at hy) (fun M G q=>?_) ok.kind);dsimp only at G q ⊢;generalize hP:f.heap.push { cls:=.type "list",dict:=none,data:=.seq ([]:List X9).toArray }=B at G q ⊢;have hC:B.objs.size=f.heap.objs.size+1:=by rw[<- hP,VN]
 have k:∀b u,f.heap.get? b=some u->M.get? b=some u:=fun b u e=>by
  have lt:=XO e;exact(q.2 b (by rw[hC];exact Xj (WR lt))).trans (X0 _ (hP ▸ X0 _ e))
 have hD:M.get? f.heap.objs.size=some { cls:=.type "list",data:=.seq #[] }:=(q.2 _ (by rw[hC];exact(Vq _).symm)).trans (X0 _ (hP ▸ W9 _ rfl));have ho:∀b∈fp,∃o,f.heap.get? b=some o:=fun b l=>let ⟨o,e,_⟩:=T.obj 0 _ aq b l;⟨o,e⟩
 obtain⟨W,⟨m0,w0⟩,av⟩:=q2 f.heap.objs.size (I2.hok.fresh (XV _));have I0:=zcb (tk:=f.toks+([]:List (Str×X9)).length) ok I2 f2 ho hC k hD G;have ap:tn 0 M:=T.keep 0 _ _ aq fun b _ o e=>k b o e;have ax:∀b∈fp,upd U f.heap.objs.size (.lst []) b=none:=fun b l=>by
  obtain⟨o,e⟩:=ho b l;rw[zj (Xj (XO e))];exact(f2 b l).1
 have ab:∀{E:Hp},(∀b∈fp,E b=none)->∀b∈fp,QN (jd X N scope cl B.objs.size fp a f U) [] E b:=fun {E} hn b l=>by
  obtain⟨o,e⟩:=ho b l;have lt:=XO e;refine⟨hn b l,?_,fun z=>(XJ.mp (I2.stkSub b z)).elim (f2 b l).2.1 (f2 b l).2.2.1,.inl l,fun x c z=>(f2 b l).2.2.2.2.1 x c (ok.sub x c z),fun p hp=>?_⟩
  ·show b≠B.objs.size;rw[hC];exact Xj (WR lt)
  ·have a2:p∈X.pn++a:=by
    have:p∈(X.pn++a)++[]:=hp;simpa using this
   exact(f2 b l).2.2.2.2.2 p a2
 have aj:∀ac:X8,ac={ f with heap:=M,toks:=f.toks+([]:List (Str×X9)).length } ->
   T7 (Xi X.prog X.w) X.A (.compLoop (.ListComp elt [⟨tg,iter,ifs,0⟩] scope pos) 0 (.ref it) (.ref f.heap.objs.size) (Ui scope cl B.objs.size X.env))
    (Oa (Xi X.prog X.w) X.A X.xe (some (OB (.Name x O) X.env)) (fun _ ag=>∃ j E,Inv X a j E ag/\D.nx j E) (.ref f.heap.objs.size) B.objs.size) ac:=by
  rintro ac rfl;refine PF rfl (fun n s'=>∃i j E,Inv (jd X N scope cl B.objs.size fp a f U) [] j E s'/\tn i s'.heap/\(∀b∈fp,E b=none)/\W i n j E) ?_ m0 ⟨0,_,_,I0,ap,ax,w0⟩;rintro n s3 ⟨i,ah,H3,I3,ar,am,w3⟩;show W8 _ X.A ((N9 (.ListComp elt [⟨tg,iter,ifs,0⟩] scope pos) 0 (.ref it) (.ref f.heap.objs.size) (Ui scope cl B.objs.size X.env)).onRaise (fun x=>do Oj x (Ui scope cl B.objs.size X.env);R0 x)) _ _ s3;refine Pa ?_;rw[Rj];rcases av i n ah H3 w3 with ⟨au,qn⟩ | ⟨go,N',hN,step⟩
  ·refine ZB (VF (ZB (thn (T.done (jd X N scope cl B.objs.size fp a f U) rfl rfl rfl Y i [] s3 ah H3 _ I3 (ab am) ar au) fun r s4 ⟨hr,I4⟩=>?_)));subst hr;refine XU ?_;obtain⟨m,hm,_⟩:=I4.loc;have af:f.heap.objs.size<=B.objs.size:=by rw[hC];exact Wd _
   have IX:Inv X a σ H3 s4:=I2.call' (s':=s4) (ch:=fp) I4.os I4.base I4.hok I4.bare fun b l=>⟨(f2 b l).2.2.2.1,(f2 b l).2.1,(f2 b l).2.2.2.2.1,(f2 b l).2.2.2.2.2⟩;have L:∀y c,X.env.cells.lookup y=some c->c≠B.objs.size:=fun y c e z=>by
    obtain⟨_,o,e1,_⟩:=I2.cell y c e;have:=XO e1;rw[z] at this;exact Wl _ (Xy this af)
   have aa:X.env.locals≠B.objs.size:=fun z=>by
    have:=I2.lt;rw[z] at this;exact Wl _ (Xy this af)
   refine Rr (zaW IX hN a1 (.inl ao) (v:=.ref f.heap.objs.size) rfl (fun s5 I5 ⟨a5,a6,az⟩=>?_) (.inr ao));have na:a5≠B.objs.size:=by
    rcases az with z | z
    ·rw[z];exact aa
    ·exact L _ _ z
   refine⟨m,hm.sameBut a6 (U9 na),fun h' sb=>⟨_,H3,?_,qn⟩⟩;exact I5.turned (t':=s5.toks) (it:=B.objs.size) (fun b o l e=>(sb.2 b l).trans e) I4.free (U9 aa) (.inr (X6 I2.sz af)) L fun p hp z=>by
    obtain⟨e1,_⟩:=I2.pin p hp;have:=XO e1;rw[z] at this;exact Wl _ (Xy this af)
  ·refine ZB (VF (ZB (thn (T.item (jd X N scope cl B.objs.size fp a f U) rfl rfl rfl Y i [] s3 ah H3 _ I3 (ab am) ar go) fun r s4 ⟨u,hr,h4⟩=>?_)));subst hr;dsimp only;refine ZB (thn h4 fun _ s5 ⟨x,H5,I5,r5,y5,al,ay⟩=>?_);have aw:=I5.pinned (ab ay) (T.obj _ _ al);refine ZB (Ww (hg B.objs.size fp a f U _ s5 ah H5 x u _ aw r5 (step x H5 y5)) (fun _ s6 ⟨ai,H6,I6,q6⟩=>?_) fun _ _ z=>Wv z);have R8:∀{s7:X8} {ae:St} {H7:Hp},Inv (jd X N scope cl B.objs.size fp a f U) ([]++YB fp s5.heap) ae H7 s7->N' ae H7->∃m,m<n/\∃i j E,Inv (jd X N scope cl B.objs.size fp a f U) [] j E s7/\tn i s7.heap/\(∀b∈fp,E b=none)/\W i m j E:=fun {s7 ae H7} I7 n7=>by
    obtain⟨m',hm,w7⟩:=hN ae H7 n7;refine⟨m',hm,i+1,ae,H7,I7.unpinned,T.keep _ _ _ al fun b l o e=>(I7.pin (b,o) (XD _ (XD _ (ju l e)))).1,fun b l=>?_,w7⟩;obtain⟨o,e,d⟩:=T.obj _ _ al b l;exact(I7.pin (b,o) (XD _ (XD _ (ju l e)))).2.1
   refine ZB (Ww (hc B.objs.size fp a f U _ s6 ai H6 _ I6 q6) (fun b s7 ⟨H7,I7,q7⟩=>?_) fun _ _ z=>Wv z);cases b with
   | false =>
    rw[if_neg XY] at q7;exact XU ⟨rfl,R8 I7 q7⟩
   | true =>
    rw[if_pos rfl] at q7;refine ZB (ZB (Ww (he B.objs.size fp a f U _ s7 ai H7 _ I7 q7) (fun y s8 ⟨v8,H8,I8,r8,ys,a4,an,q8⟩=>?_) fun _ _ z=>Wv z));refine ZB (Ww (Zo (X:=jd X N scope cl B.objs.size fp a f U) _ s8 ai H8 (.ref f.heap.objs.size) [v8] (.ref f.heap.objs.size) [y] (fun _ H9=>N' ai H9) I8 rfl (.cons r8 .nil) ⟨_,ys,v8,rfl,rfl,a4,an,q8⟩) (fun _ s9 ⟨v9,H9,I9,_,q9⟩=>?_) fun _ _ z=>Wv z);exact XU (XU ⟨rfl,R8 I9 q9⟩)
 exact Um (aj _ rfl) (T.self _ 0 _ _ _ ap (aj _ rfl))
end
theorem zR.byRfl {X:Cx}{N:List Str}{src:List (Option Nat)}{a:UG}(g:a.kind=.function)(b:∀y∈a.names,y.2 ≠ .cell)(d:∀y∈a.names,y.2=.local->a.names.lookup y.1=some .local)
  (l:(a.names.all fun y=>y.2 != .free || (X.env.cells.lookup y.1).isSome)=true) (k:src.length=N.length)
  (n:((N.zip src).all fun q=>match q.2 with | none=>true | some j=>X.N[j]?==some q.1&&X.env.kindOf q.1==some .cell&&(Uv a X.env).names.lookup q.1==some .cell)=true):zR X N src a (zaX (fun x=>X.env.cells.lookup x) a.names []):=by
 have f:∀y∈a.names,y.2=.free->(X.env.cells.lookup y.1).isSome=true:=fun y m e=>by
  have z:=WL.mp l y m;rw[e] at z;simpa using z
 refine⟨g,b,d,Ji f,fun x c h=>?_,fun x h=>?_,k,fun i j x h1 h2=>?_⟩
 ·rcases Zs _ _ _ (WG h) with z | z
  ·cases z
  ·exact z
 ·refine V0.mp (zce _ _ (.inr ?_));have hm:(x,U7)∈a.names\/(x,NameKind.free)∈a.names:=by
   rcases h with h | h
   ·exact yP (WG h) (.inl rfl)
   ·exact yP (WG h) (.inr rfl)
  rcases hm with hm | hm
  ·exact absurd rfl (b _ hm)
  ·exact⟨hm,f _ hm rfl⟩
 ·have hm:(x,some j)∈N.zip src:=X4 (i:=i) (by rw[TD];exact⟨h1,h2⟩);have z:=WL.mp n _ hm;simp only[We,beq_iff_eq] at z;exact⟨z.1.1,.inl z.1.2,.inl z.2⟩
structure xU (X:Cx)(N:List Str)(src:List (Option Nat))(scope:UG)(cl:List (Str×Addr))(y:Str):Prop where
 kind:scope.kind=.function
 one:∀n acc,RM n scope.names acc=(y,n)::acc
 push:∀h,pushCells h scope.names=h.push { cls:=.type "cell",data:=.cell none }
 names:∀y∈scope.names,y.2=.local->scope.names.lookup y.1=some .local
 clos:Oy scope X.env=pure cl
 sub:∀x c,cl.lookup x=some c->X.env.cells.lookup x=some c
 has:∀x,((Uv scope X.env).names.lookup x=some .cell\/(Uv scope X.env).names.lookup x=some .free)->x=y\/∃c,cl.lookup x=some c
 len:src.length=N.length
 pulls:∀(i j:Nat) (x:Str),N[i]?=some x->src[i]?=some (some j)->X.N[j]?=some x/\(X.env.kindOf x=some .cell\/X.env.kindOf x=some .free)/\((Uv scope X.env).names.lookup x=some .cell\/(Uv scope X.env).names.lookup x=some .free)
 pny:∀(i j:Nat) (x:Str),N[i]?=some x->src[i]?=some (some j)->x≠y
theorem xU.has1 {X:Cx}{N:List Str}{src:List (Option Nat)}{a:UG}{b:List (Str×Addr)}{y:Str}{C:Addr}(ok:xU X N src a b y)(x:Str)(h:(Uv a X.env).names.lookup x=some .cell\/(Uv a X.env).names.lookup x=some .free):∃c,S7 x ((y,C)::b)=some c:=by
 rw[VI];cases q:x==y with
 | true=>exact⟨_,rfl⟩
 | false =>
  rcases ok.has x h with z | z
  ·rw[z] at q;simp at q
  ·exact z
theorem xU.byRfl {X:Cx}{N:List Str}{src:List (Option Nat)}{a:UG}{y:Str}(g:a.kind=.function)(one:∀n d,RM n a.names d=(y,n)::d)(k:∀h,pushCells h a.names=h.push { cls:=.type "cell",data:=.cell none })
  (only:∀z∈a.names,z.2=.cell->z.1=y) (b:∀y∈a.names,y.2=.local->a.names.lookup y.1=some .local)
  (o:(a.names.all fun y=>y.2 != .free || (X.env.cells.lookup y.1).isSome)=true) (m:src.length=N.length)
  (r:((N.zip src).all fun q=>match q.2 with | none=>true | some j=>X.N[j]?==some q.1&&X.env.kindOf q.1==some .cell&&(Uv a X.env).names.lookup q.1==some .cell&&q.1 != y)=true):xU X N src a (zaX (fun x=>X.env.cells.lookup x) a.names []) y:=by
 have f:∀y∈a.names,y.2=.free->(X.env.cells.lookup y.1).isSome=true:=fun y p e=>by
  have z:=WL.mp o y p;rw[e] at z;simpa using z
 have l:∀(i j:Nat) (x:Str),N[i]?=some x->src[i]?=some (some j)->(X.N[j]?=some x/\X.env.kindOf x=some .cell/\(Uv a X.env).names.lookup x=some .cell)/\x≠y:=fun i j x h1 h2=>by
  have hm:(x,some j)∈N.zip src:=X4 (i:=i) (by rw[TD];exact⟨h1,h2⟩);have z:=WL.mp r _ hm;simp only[We,beq_iff_eq,bne_iff_ne] at z;exact⟨⟨z.1.1.1,z.1.1.2,z.1.2⟩,z.2⟩
 refine⟨g,one,k,b,Ji f,fun x c h=>?_,fun x h=>?_,m,fun i j x h1 h2=>⟨(l i j x h1 h2).1.1,.inl (l i j x h1 h2).1.2.1,.inl (l i j x h1 h2).1.2.2⟩,fun i j x h1 h2=>(l i j x h1 h2).2⟩
 ·rcases Zs _ _ _ (WG h) with z | z
  ·cases z
  ·exact z
 ·have hm:(x,U7)∈a.names\/(x,NameKind.free)∈a.names:=by
   rcases h with h | h
   ·exact yP (WG h) (.inl rfl)
   ·exact yP (WG h) (.inr rfl)
  rcases hm with hm | hm
  ·exact .inl (only _ hm rfl)
  ·exact .inr (V0.mp (zce _ _ (.inr ⟨hm,f _ hm rfl⟩)))
def qC (X:Cx)(N:List Str)(a:UG)(c:List (Str×Addr))(y:Str)(C:Addr)(fp:List Addr)(b:List (Addr×Obj))(s:X8)(H:Hp):Cx :=
 { jd X N a ((y,C+1)::c) C fp b s H with fn:=fun x=>decide (x=y) }
theorem zif {M:Od}{A:WH}{E:X9->X8->Prop}{s:X8}{a:UG}{b:Addr}{i:List (Str×Addr)}{c:Str}{e:Env}{y:Str}{Q:Env->X8->Prop}(one:∀n d,RM n a.names d=(y,n)::d)(g:∀h,pushCells h a.names=h.push { cls:=.type "cell",data:=.cell none })
  (k:Q (newEnv a s.heap.objs.size b ((y,s.heap.objs.size+1)::i) c none .none (some e) OA) { s with heap:=(s.heap.push { cls:=.type "dict",data:=.dict #[] }).push { cls:=.type "cell",data:=.cell none } }) :
  W8 M A (newFunctionEnv a b i [] c none .none (some e)) Q E s:=by
 simp only[newFunctionEnv,Option.isSome_some,if_true];refine ZB (wpAny_alloc ?_);refine ZB (wpAny_layCells _ (fun j f cells=>by cases hkc:f==U7<;>simp[hkc]) _ _ _ _ ?_);rw[g,one,show ({ s with heap:=s.heap.push { cls:=.type "dict",data:=.dict #[] } }:X8).heap.objs.size=s.heap.objs.size+1 from VN ..];exact ZB (XU (XU k))
section
variable {X:Cx}{tg iter elt:Expr}{ifs:List Expr}{scope:UG}{pos:Pos}{N:List Str}{src:List (Option Nat)}{cl:List (Str×Addr)}{wi:TI}{g:TG}{tc:TT}{te:TE}{y:Str}
theorem zbr {d:List (Addr×Obj)}{L:St}{H:Hp}{s:X8}{fp:List Addr}{h1:Heap}{C:Addr}{tk:Nat}(ok:xU X N src scope cl y)(I:Inv X d L H s)(O:∀b∈fp,QN X d H b)(ho:∀b∈fp,∃o,s.heap.get? b=some o)
  (D:C=s.heap.objs.size+1) (k:∀b u,s.heap.get? b=some u->h1.get? b=some u) (hD:h1.get? s.heap.objs.size=some { cls:=.type "list",data:=.seq #[] }) {m:Str->Option X9} (hn:h1.Ns C m) (aa:h1.IsCell (C+1) none) :
  Inv (qC X N scope cl y C fp d s H) [] (pull src L) (upd H s.heap.objs.size (.lst [])) { s with heap:=h1,toks:=tk }:=by
 have lt:∀b o,s.heap.get? b=some o->b<s.heap.objs.size:=fun b o e=>XO e;have nC:∀b o,s.heap.get? b=some o->b≠C:=fun b o e=>by rw[D];exact Xj (WR (lt b o e))
 have nD:∀b o,s.heap.get? b=some o->b≠s.heap.objs.size:=fun b o e=>Xj (lt b o e);have Y:∀b,s.heap.objs.size<=b->H b=none:=fun b n=>I.hok.fresh n;have J:∀b,b≠X.env.locals->b ∉ X.fs->b ∉ frs X.stack:=fun b h1 h2 z=>(XJ.mp (I.stkSub b z)).elim h1 h2;have G:∀b o,s.heap.get? b=some o->b≠C+1:=fun b o e=>by rw[D];exact Xj (WR (WR (lt b o e)))
 have own:∀x c,S7 x ((y,C+1)::cl)=some c->(x=y/\c=C+1)\/(x≠y/\X.env.cells.lookup x=some c):=fun x c e=>by
  rw[VI] at e;cases q:x==y with
  | true =>
   rw[q] at e;exact .inl ⟨by simpa using q,(Option.some.inj e).symm⟩
  | false =>
   rw[q] at e;exact .inr ⟨by simpa using q,ok.sub x c e⟩
 have w:∀x c,X.env.cells.lookup x=some c->c≠C+1:=fun x c e=>by
  obtain⟨_,o,g,_⟩:=I.cell x c e;exact G c o g
 refine⟨⟨I.ok.mod,ok.kind,I.ok.glob,I.ok.blt,by rw[show (qC X N scope cl y C fp d s H).env.locals=C from rfl,D];exact Wd _,?inj,ok.has1,?cab,I.ok.hd,I.ok.frames,.inl rfl,fun b n=>?_,I.bs,X6 I.ok.bsz I.sz,fun b o e n=>?_,fun b n hz=>?_,I.stack,I.stkFree⟩,
  rfl,I.bare,Un.laid k (XV _) (Y _ (XV _)),⟨m,hn,fun i x v g f e3=>?_⟩,fun x c e=>?_,?_,fun x c e=>?_,fun p hp=>?_,I.hok.laid k (XV _) ⟨W5 _,[],0,.nil,hD⟩,?_⟩
 case inj =>
  intro x Q c g f
  rcases own x c g with ⟨A,a⟩ | ⟨A,a⟩
  ·rcases own Q c f with ⟨M,B⟩ | ⟨M,B⟩
   ·rw[A,M]
   ·exact absurd a (w Q c B)
  ·rcases own Q c f with ⟨M,B⟩ | ⟨M,B⟩
   ·exact absurd B (w x c a)
   ·exact I.ok.inj x Q c a B
 case cab =>
  intro x c z e
  have zy:x=y:=of_decide_eq_true z
  rcases own x c e with ⟨_,a⟩ | ⟨A,_⟩
  ·rw[a,D];exact T5 (Wd _)
  ·exact absurd zy A
 ·obtain⟨o,e⟩:=ho b n;refine⟨nC b o e,fun x c z=>?_⟩;rcases own x c z with ⟨_,a⟩ | ⟨_,a⟩
  ·rw[a];exact U9 (G b o e)
  ·exact(O b n).2.2.2.2.1 x c a
 ·rcases(O b n).2.2.2.1 with z | z
  ·exact I.ok.noex b o e z
  ·exact absurd (Xy (XO (I.ok.bs b o e).1) z) (Wl _)
 ·exact J b (O b n).2.1 (O b n).2.2.1 hz
 ·have hi:i<src.length:=by
   have:=(XZ.mp f).1;unfold pull at this;rw[Y1] at this;exact this
  unfold pull at f;rw[Xl,X7 hi] at f;cases q:src[i] with
  | none=>rw[q] at f;cases f
  | some j =>
   rw[q] at f;have h:(L[j]?).getD none=some v:=Option.some.inj f;have U:L[j]?=some (some v):=by
    cases z:L[j]? with
    | none=>rw[z] at h;cases h
    | some o=>rw[z] at h;exact congrArg some h
   obtain⟨p1,p2,p3⟩:=ok.pulls i j x g (by rw[X7 hi,q]);obtain⟨m',af,hl⟩:=I.loc;obtain⟨u,r,l⟩:=hl j x v p1 U (by
    rcases p2 with z | z
    ·exact .inr (.inl z)
    ·exact .inr (.inr z))
   refine⟨u,r,.inr ⟨p3,?_⟩⟩;obtain⟨c,hc⟩:=ok.has1 x p3;refine⟨c,hc,?_⟩;rcases l with ⟨z,_⟩ | ⟨_,c',E,o,ac,ab⟩
   ·rcases p2 with y | y<;>rw[z] at y<;>cases y
   ·rcases own x c hc with ⟨A,_⟩ | ⟨_,a⟩
    ·exact absurd A (ok.pny i j x g (by rw[X7 hi,q]))
    ·rw[a] at E;cases E;exact⟨o,k _ o ac,ab⟩
 ·rcases own x c e with ⟨_,a⟩ | ⟨_,a⟩
  ·rw[a];exact⟨_,aa⟩
  ·obtain⟨v,o,g,f⟩:=I.cell x c a;exact⟨v,o,k c o g,f⟩
 ·show upd H s.heap.objs.size (.lst []) C=none;rw[D,zj (Vq _)];exact Y _ (Wd _)
 ·show upd H s.heap.objs.size (.lst []) c=none;rcases own x c e with ⟨_,a⟩ | ⟨_,a⟩
  ·rw[a,D,zj (UR (WR (P7 _)))];exact Y _ (T5 (Wd _))
  ·obtain⟨v,o,g,f⟩:=I.cell x c a;rw[zj (nD c o g)];exact I.freeC x c a
 ·have ae:p∈X.pn++d:=by
   have:p∈(X.pn++d)++[]:=hp;simpa using this
  obtain⟨g,f,e3,U,e5⟩:=I.pin p ae;refine⟨k _ _ g,?_,nC _ _ g,J _ e3 U,e5⟩;show upd H s.heap.objs.size (.lst []) p.1=none;rw[zj (nD _ _ g)];exact f
 ·unfold pull;rw[Y1];exact ok.len
theorem zfC {y:Str}(ok:xU X N src scope cl y)(E:X.calm=true)(hi:PI X tg iter wi)
  (hg:∀C fp a s H,PG (qC X N scope cl y C fp a s H) tg g) (hc:∀C fp a s H,zjc (qC X N scope cl y C fp a s H) ifs tc) (he:∀C fp a s H,PE (qC X N scope cl y C fp a s H) elt te)
  (hs:∀x,T6 iter X.env x=pure x:=by intro _;rfl):PE X (.ListComp elt [⟨tg,iter,ifs,0⟩] scope pos) (zie wi src g tc te):=by
 intro a s σ H Q I h;rw[eval_ListComp];refine UK (use:=none) rfl hs ok.clos ok.kind ok.names (thn (hi a s σ H _ I h) fun xv s1 h1=>thn h1 fun ax f h2=>?_);obtain⟨it,fp,tn,J,B,e,I2,T,aj,U,q2⟩:=h2;subst e;refine VZ (zif ok.one ok.push ?_);generalize hP:f.heap.push { cls:=.type "list",dict:=none,data:=.seq ([]:List X9).toArray }=j;have hC:j.objs.size=f.heap.objs.size+1:=by rw[<- hP,VN]
 have aw:(j.push { cls:=.type "dict",data:=.dict #[] }).objs.size=j.objs.size+1:=VN ..;generalize Y:(j.push { cls:=.type "dict",data:=.dict #[] }).push { cls:=.type "cell",data:=.cell none }=v;have aa:v.Ns j.objs.size (fun _=>none):=by
  rw[<- Y];exact(Heap.Ns.new j _).push _
 have aq:v.IsCell (j.objs.size+1) none:=by
  rw[<- Y,<- aw];exact⟨_,W9 _ rfl,rfl⟩
 have k:∀b u,f.heap.get? b=some u->v.get? b=some u:=fun b u e=>by
  rw[<- Y];exact X0 _ (X0 _ (hP ▸ X0 _ e))
 have hD:v.get? f.heap.objs.size=some { cls:=.type "list",data:=.seq #[] }:=by
  rw[<- Y];exact X0 _ (X0 _ (hP ▸ W9 _ rfl))
 have ho:∀b∈fp,∃o,f.heap.get? b=some o:=fun b l=>let ⟨o,e,_⟩:=T.obj 0 _ aj b l;⟨o,e⟩
 obtain⟨W,⟨m0,w0⟩,am⟩:=q2 f.heap.objs.size (I2.hok.fresh (XV _));have I0:=zbr (tk:=f.toks) ok I2 U ho hC k hD aa aq;have ai:tn 0 v:=T.keep 0 _ _ aj fun b _ o e=>k b o e;have ao:∀b∈fp,upd B f.heap.objs.size (.lst []) b=none:=fun b l=>by
  obtain⟨o,e⟩:=ho b l;rw[zj (Xj (XO e))];exact(U b l).1
 have G:∀{D:Hp},(∀b∈fp,D b=none)->∀b∈fp,QN (qC X N scope cl y j.objs.size fp a f B) [] D b:=fun {D} hn b l=>by
  obtain⟨o,e⟩:=ho b l;have lt:=XO e;refine⟨hn b l,?_,fun z=>(XJ.mp (I2.stkSub b z)).elim (U b l).2.1 (U b l).2.2.1,.inl l,fun x c z=>?own,fun p hp=>?_⟩
  case own =>
   have z':S7 x ((y,j.objs.size+1)::cl)=some c:=z
   rw[VI] at z'
   cases q:x==y with
   | true =>
    rw[q] at z';rw[<- Option.some.inj z',hC];exact UR (WR (WR lt))
   | false =>
    rw[q] at z';exact(U b l).2.2.2.2.1 x c (ok.sub x c z')
  ·show b≠j.objs.size;rw[hC];exact Xj (WR lt)
  ·have au:p∈X.pn++a:=by
    have:p∈(X.pn++a)++[]:=hp;simpa using this
   exact(U b l).2.2.2.2.2 p au
 have ae:∀L:X8,L={ f with heap:=v,toks:=f.toks } ->
   T7 (Xi X.prog X.w) X.A (.compLoop (.ListComp elt [⟨tg,iter,ifs,0⟩] scope pos) 0 (.ref it) (.ref f.heap.objs.size) (Ui scope ((y,j.objs.size+1)::cl) j.objs.size X.env))
    (Oa (Xi X.prog X.w) X.A X.xe none (EP X a σ Q) (.ref f.heap.objs.size) j.objs.size) L:=by
  rintro L rfl;refine PF rfl (fun n s'=>∃i M D,Inv (qC X N scope cl y j.objs.size fp a f B) [] M D s'/\tn i s'.heap/\(∀b∈fp,D b=none)/\W i n M D) ?_ m0 ⟨0,_,_,I0,ai,ao,w0⟩;rintro n s3 ⟨i,ab,H3,I3,ak,ag,w3⟩;show W8 _ X.A ((N9 (.ListComp elt [⟨tg,iter,ifs,0⟩] scope pos) 0 (.ref it) (.ref f.heap.objs.size) (Ui scope ((y,j.objs.size+1)::cl) j.objs.size X.env)).onRaise (fun x=>do Oj x (Ui scope ((y,j.objs.size+1)::cl) j.objs.size X.env);R0 x)) _ _ s3;refine Pa ?_;rw[Rj];rcases am i n ab H3 w3 with ⟨al,qn⟩ | ⟨go,N',hN,step⟩
  ·refine ZB (VF (ZB (thn (T.done (qC X N scope cl y j.objs.size fp a f B) rfl rfl rfl E i [] s3 ab H3 _ I3 (G ag) ak al) fun r s4 ⟨hr,I4⟩=>?_)));subst hr;refine XU ?_;obtain⟨m,hm,_⟩:=I4.loc;refine⟨m,hm,fun h' sb=>⟨.ref f.heap.objs.size,H3,?_,rfl,qn⟩⟩;have un:Un (frs X.stack) fp B H3 f.heap h':=Un.but I4.base (by show f.heap.objs.size<=j.objs.size;rw[hC];exact Wd _) sb;have ar:HOk X.prog X.w H3 h':=HOk.but I4.hok I4.free sb;exact I2.call' (s':={ s4 with heap:=h' }) (ch:=fp) I4.os un ar I4.bare fun b l=>⟨(U b l).2.2.2.1,(U b l).2.1,(U b l).2.2.2.2.1,(U b l).2.2.2.2.2⟩
  ·refine ZB (VF (ZB (thn (T.item (qC X N scope cl y j.objs.size fp a f B) rfl rfl rfl E i [] s3 ab H3 _ I3 (G ag) ak go) fun r s4 ⟨u,hr,h4⟩=>?_)));subst hr;dsimp only;refine ZB (thn h4 fun _ s5 ⟨x,H5,I5,r5,y5,af,ap⟩=>?_);have an:=I5.pinned (G ap) (T.obj _ _ af);refine ZB (Ww (hg j.objs.size fp a f B _ s5 ab H5 x u _ an r5 (step x H5 y5)) (fun _ s6 ⟨ac,H6,I6,q6⟩=>?_) fun _ _ z=>Wv z);have R8:∀{s7:X8} {O:St} {H7:Hp},Inv (qC X N scope cl y j.objs.size fp a f B) ([]++YB fp s5.heap) O H7 s7->N' O H7->∃m,m<n/\∃i M D,Inv (qC X N scope cl y j.objs.size fp a f B) [] M D s7/\tn i s7.heap/\(∀b∈fp,D b=none)/\W i m M D:=fun {s7 O H7} I7 n7=>by
    obtain⟨m',hm,w7⟩:=hN O H7 n7;refine⟨m',hm,i+1,O,H7,I7.unpinned,T.keep _ _ _ af fun b l o e=>(I7.pin (b,o) (XD _ (XD _ (ju l e)))).1,fun b l=>?_,w7⟩;obtain⟨o,e,d⟩:=T.obj _ _ af b l;exact(I7.pin (b,o) (XD _ (XD _ (ju l e)))).2.1
   refine ZB (Ww (hc j.objs.size fp a f B _ s6 ac H6 _ I6 q6) (fun b s7 ⟨H7,I7,q7⟩=>?_) fun _ _ z=>Wv z);cases b with
   | false =>
    rw[if_neg XY] at q7;exact XU ⟨rfl,R8 I7 q7⟩
   | true =>
    rw[if_pos rfl] at q7;refine ZB (ZB (Ww (he j.objs.size fp a f B _ s7 ac H7 _ I7 q7) (fun yv s8 ⟨v8,H8,I8,r8,ys,av,ah,q8⟩=>?_) fun _ _ z=>Wv z));refine ZB (Ww (Zo (X:=qC X N scope cl y j.objs.size fp a f B) _ s8 ac H8 (.ref f.heap.objs.size) [v8] (.ref f.heap.objs.size) [yv] (fun _ H9=>N' ac H9) I8 rfl (.cons r8 .nil) ⟨_,ys,v8,rfl,rfl,av,ah,q8⟩) (fun _ s9 ⟨v9,H9,I9,_,q9⟩=>?_) fun _ _ z=>Wv z);exact XU (XU ⟨rfl,R8 I9 q9⟩)
 exact Um (ae _ rfl) (T.self _ 0 _ _ _ ai (ae _ rfl))
end
section
variable {X:Cx}{K:X5}
theorem zdL (a:X.K=K)(b:X.calm=true):jY X (.builtin "any") (fun xs H Q=>∃(l:Addr) (bs:List Bool),xs=[.ref l]/\SqL K H l (bs.map V.bl)/\Q (.bl (bs.any id)) H):=by
 subst a;exact zfB b
theorem zan {c l:Expr}{tl:TE}(a:X.K=K)(b:PE X l tl):PI X c l (znt K tl):=by
 subst a;exact zM b
end
section
variable {X:Cx}
theorem zks:MtM X "list.count" (fun x vs H Q=>∃(l:Addr) (d:List Str) (y:Str),x=.ref l/\vs=[.str y]/\H l=some (.lst (d.map V.str))/\Q (.int ((d.countP fun t=>t==y:Nat):Int)) H):=by
 intro j s O H x vs v N Q I L J h;obtain⟨l,d,y,rfl,rfl,i,q⟩:=h;cases L;obtain⟨u,rfl,t,rfl⟩:=J.one;obtain⟨z,c,n,r,B,e⟩:=I.lstM i;have D:∃f:X9->Bool,(∀w∈c,∃a k,w=.str a k/\f w=(a==y))/\c.countP f=d.countP fun t=>t==y:=by
  refine⟨fun w=>match w with | .str a _=>a==y | _=>false,?_⟩;clear B e z i q;generalize g:d.map V.str=ws at r;induction r generalizing d with
  | nil =>
   cases d with
   | nil=>exact⟨(fun _ h=>nomatch h),rfl⟩
   | cons a b=>cases g
  | cons G M E =>
   cases d with
   | nil=>cases g
   | cons a b =>
    rw[Xe] at g;obtain⟨m,o⟩:=List.cons.inj g;subst m;obtain⟨k,rfl⟩:=G;obtain⟨h1,h2⟩:=E b o;refine⟨fun w hw=>?_,?_⟩
    ·rcases XJ.mp hw with rfl | hw
     ·exact⟨a,k,rfl,rfl⟩
     ·exact h1 w hw
    ·rw[WT,WT,h2]
 obtain⟨f,A,p⟩:=D;refine TX F.slot_list_count ⟨_,e,rfl⟩ F.entry_list_count (ON _ _) (Rc l c.toArray n none #[] (.str y t) f) ⟨e,fun w hw=>?_,?_⟩
 ·obtain⟨a,k,rfl,h2⟩:=A w (by simpa using hw);rw[h2];exact PySem.SeqAt.EqAt.str_str a k y t
 ·refine⟨.int _,H,I.tok _,⟨_,rfl⟩,?_⟩;show Q (.int ((c.countP f:Nat):Int)) H;rw[p];exact q
end
theorem zdM:∀{b:List Str} {a:List X9},Vals (b.map V.str) a->StrsAre a b
 | [],_,.nil=>.nil
 | t::_,_,.cons ⟨k,e⟩ h=>by
  subst e;exact .cons t k (zdM h)
section
variable {X:Cx}
def rJoin (K:X5):V->List V->Hp->VK->Prop:=fun x b H Q=>∃(z:Str) (l:Addr) (a:List Str),x=.str z/\b=[.ref l]/\SqL K H l (a.map V.str)/\(a.map (·.length)).sum+a.length*z.length<=16777216/\Q (.str (UT z a)) H
theorem zeL:MtR X "str.join" (rJoin X.K):=by
 intro d s y H x w v o Q I i g h;obtain⟨z,l,a,rfl,rfl,e,b,q⟩:=h;obtain⟨n,rfl⟩:=i;obtain⟨u,rfl,r⟩:=g.one;cases r;obtain⟨f,c,p,m⟩:=I.list e;refine join_list (ys:=a) p.isList (by simpa using zdM c) b fun j k=>⟨.str (UT z a),H,I.tok k,⟨j,?_⟩,q⟩;rw[show Txt.join z a=UT z a from StrLaws.glued_eq_join z a]
end
theorem zg2 {α:Type}(d:α)(xs:List α):((XC xs.length).map fun i=>xs.getD i d)=xs:=by
 refine List.ext_getElem (by simp) fun i h1 h2=>?_;simp[h2]
theorem zig (p:Int×Int):lt2 p p=false:=by
 unfold lt2;rw[if_pos rfl,decide_eq_false (by lia)]
theorem zbS {p q:Int×Int}(h:p≠q):lt2 q p=!lt2 p q:=by
 unfold lt2;obtain⟨a,b⟩:=p;obtain⟨c,d⟩:=q;simp only;by_cases e:a=c
 ·subst e;rw[if_pos rfl,if_pos rfl];have f:b≠d:=fun z=>h (by rw[z]);by_cases l:b<d
  ·rw[decide_eq_true l,decide_eq_false (by lia)];rfl
  ·rw[decide_eq_false l,decide_eq_true (by lia)];rfl
 ·rw[if_neg e,if_neg (fun z=>e z.symm)];by_cases l:a<c
  ·rw[decide_eq_true l,decide_eq_false (by lia)];rfl
  ·rw[decide_eq_false l,decide_eq_true (by lia)];rfl
theorem zg3 {p q r:Int×Int}(h1:lt2 p q=true)(h2:lt2 q r=true):lt2 p r=true:=by
 unfold lt2 at *
 obtain⟨a,b⟩:=p;obtain⟨c,d⟩:=q;obtain⟨e,f⟩:=r;simp only at *
 by_cases h:a=c
 ·subst h;rw[if_pos rfl,decide_eq_true_eq] at h1;by_cases g:a=e
  ·subst g;rw[if_pos rfl,decide_eq_true_eq] at h2 ⊢;lia
  ·rw[if_neg g] at h2 ⊢;exact h2
 ·rw[if_neg h,decide_eq_true_eq] at h1;by_cases g:c=e
  ·subst g;rw[if_neg h,decide_eq_true_eq];exact h1
  ·rw[if_neg g,decide_eq_true_eq] at h2;rw[if_neg (by lia),decide_eq_true_eq];lia
def Up2 (ps:List (Int×Int)):Prop:=ps.Pairwise fun p q=>lt2 p q=true
section
variable {X:Cx}
end
end L2
namespace PySem.SeqAt
open L2 AutoSeq1 MeetsSeq MeetsSeq2 MeetsSeq3
def QS (A:WH)(s:X8)(y x:X9)(b:Bool):Prop:=∀(a:Xg) (w:WQ) (E:X9->X8->Prop) (Q:X9->X8->Prop),Q (.bool b) s->W8 (Xi a w) A (richCompare .Lt y x) Q E s
theorem QS.int_int {A:WH}{s:X8}(a:Int)(t:Tok)(b:Int)(u:Tok):QS A s (.int a t) (.int b u) (decide (a<b)):=fun c w E Q h=>wpAny_lt_int h
theorem zg4 (l b:Addr)(x y f c:Int)(t u k m:Tok)(n v:Nat)(dd g:Option Addr)(B j:Array (Option X9)) :
  Meets (UU.«tuple.__lt__» ⟨[.ref l,.ref b],[]⟩)
   (fun _ R s=>s.heap.get? l=some { cls:=.type "tuple",dict:=dd,data:=.seq #[.int x t,.int y u] n,slots:=B }/\s.heap.get? b=some { cls:=.type "tuple",dict:=g,data:=.seq #[.int f k,.int c m] v,slots:=j } /\
    R (.ok (.ret (.bool (lt2 (x,y) (f,c))))) s) :=
 .of_wp fun a w A R s h=>by
  obtain⟨r,H,E,D,z⟩:=s;obtain⟨q,p,h⟩:=h;have G:=sub_tuple_tuple;wp_walk using Wf q,Wf p;refine EqAt.int_int x t f k a w _ _ ?_;unfold lt2 at h;by_cases e:x=f
  ·have i:(x==f)=true:=by simpa using e
   rw[i];rw[if_pos e] at h;wp_walk;refine EqAt.int_int y u c m a w _ _ ?_;by_cases o:y=c
   ·have d:(y==c)=true:=by simpa using o
    rw[d];rw[decide_eq_false (by show ¬ y<c;lia)] at h;wp_walk;exact⟨_,rfl,h⟩
   ·have d:(y==c)=false:=by simpa using o
    rw[d];simp only[Bool.not_false,if_true];refine ZB (Ut (ZB (QS.int_int y u c m a w _ _ ?_)));wp_walk;exact⟨_,rfl,h⟩
  ·have i:(x==f)=false:=by simpa using e
   rw[i];rw[if_neg e] at h;simp only[Bool.not_false,if_true];refine ZB (Ut (ZB (QS.int_int x t f k a w _ _ ?_)));wp_walk;exact⟨_,rfl,h⟩
theorem QS.pairs {A:WH}{s:X8}{v r:X9}{p q:Int×Int}(G:zD s.heap v p)(f:zD s.heap r q)(D:A.units<Vi):QS A s v r (lt2 p q):=fun o w E Q h=>by
 obtain⟨a,⟨z,B,l,I⟩,n,t,u,rfl,m,i,k⟩:=G;obtain⟨y,⟨j,e,data2,g⟩,H,J,L,rfl,d,b,c⟩:=f;simp only at i k b c;subst i k b c;exact richCompare_meets_room (op:=.Lt) ⟨_,m,rfl⟩ ⟨_,d,rfl⟩ F.slot_tuple_lt F.entry_tuple_lt (F.args_tuple_lt_2 _ _) (zg4 a y p.1 p.2 q.1 q.2 t u J L n H B e I g)
  ⟨m,d,show Tj (lt2 p q)≠Value.notImplemented/\Q (.bool (lt2 p q)) s from ⟨(fun x=>nomatch x),h⟩⟩ D
theorem Qz {h:Heap}{v:X9}{p:Int×Int}(e:zD h v p):∃as,Reads h v (.tuple [.int p.1,.int p.2]) as:=by
 obtain⟨a,o,n,t,u,rfl,d,b,c⟩:=e;exact⟨_,.tuple d b c (.cons (.int _ _) (.cons (.int _ _) .nil))⟩
theorem zdN (p q:Int×Int):W1 (.tuple [.int p.1,.int p.2]) (.tuple [.int q.1,.int q.2])=decide (p=q):=by
 obtain⟨a,b⟩:=p;obtain⟨c,d⟩:=q;show ((a==c)&&((b==d)&&true))=_;by_cases h1:a=c
 ·by_cases h2:b=d
  ·subst h1 h2;simp
  ·simp[h2]
 ·simp[h1]
end PySem.SeqAt
namespace L2
open PySem PySem.Spec PyProof.Rows PySem.W PySem.SeqAt
section
variable {X:Cx}{pins:List (Addr×Obj)}{σ:St}{H:Hp}{s:X8}
end
section
variable {X:Cx}
end
open PySem PySem.Spec PyProof.Rows
section
variable {κ:Type} [DecidableEq κ]
def yC (a:List (κ × V))(k:κ):Option V:=(a.find? fun b=>decide (b.1=k)).map (·.2)
def putK (a:List (κ × V))(k:κ)(v:V):List (κ × V) :=
 if (a.any fun b=>decide (b.1=k))=true then a.map (fun b=>if b.1=k then (b.1,v) else b) else a++[(k,v)]
theorem j4 {p:κ × V}{r:List (κ × V)}{k:κ}(e:p.1=k):yC (p::r) k=some p.2:=by simp[yC,Ug,e]
theorem j5 {p:κ × V}{r:List (κ × V)}{k:κ}(e:¬ p.1=k):yC (p::r) k=yC r k:=by simp[yC,Ug,e]
theorem zao (k:κ):∀a:List (κ × V),(a.any fun b=>decide (b.1=k))=(yC a k).isSome
 | []=>rfl
 | p::r=>by
  rw[Sd];by_cases e:p.1=k
  ·simp only[j4 e,decide_eq_true e,Bool.true_or,Option.isSome_some]
  ·rw[j5 e,decide_eq_false e,Bool.false_or];exact zao k r
theorem zfD (k j:κ)(y:V):∀a:List (κ × V),yC (a.map fun b=>if b.1=k then (b.1,y) else b) j=(yC a j).map fun x=>if j=k then y else x
 | []=>rfl
 | p::r=>by
  have c:=zfD k j y r;rw[Xe];by_cases h:p.1=k
  ·rw[if_pos h];by_cases e:p.1=j
   ·rw[j4 (p:=(p.1,y)) e,j4 e,Uf,if_pos (e.symm.trans h)]
   ·rw[j5 (p:=(p.1,y)) e,j5 e,c]
  ·rw[if_neg h];by_cases e:p.1=j
   ·rw[j4 (p:=p) e,j4 e,Uf,if_neg (fun z=>h (e.trans z))]
   ·rw[j5 (p:=p) e,j5 e,c]
theorem zdO (k j:κ)(y:V):∀a:List (κ × V),yC a k=none->yC (a++[(k,y)]) j=if j=k then some y else yC a j
 | [],_=>by
  by_cases e:k=j
  ·rw[if_pos e.symm];exact j4 (p:=(k,y)) e
  ·rw[if_neg (fun z=>e z.symm)];exact j5 (p:=(k,y)) e
 | p::r,b=>by
  rw[P6];have hk:¬ p.1=k:=fun z=>by rw[j4 z] at b;cases b
  rw[j5 hk] at b;have c:=zdO k j y r b;by_cases e:p.1=j
  ·rw[j4 e,j4 e,if_neg (fun z=>hk (e.trans z))]
  ·rw[j5 e,j5 e,c]
theorem YG (b:List (κ × V))(k j:κ)(y:V):yC (putK b k y) j=if j=k then some y else yC b j:=by
 unfold putK;by_cases a:(b.any fun d=>decide (d.1=k))=true
 ·rw[if_pos a,zfD];rw[zao] at a;by_cases e:j=k
  ·obtain⟨x,c⟩:=V0.mp a;rw[if_pos e,e,c,Uf,if_pos rfl]
  ·rw[if_neg e];cases yC b j with
   | none=>rfl
   | some x=>rw[Uf,if_neg e]
 ·rw[if_neg a];refine zdO k j y b ?_;rw[zao] at a;cases q:yC b k with
  | none=>rfl
  | some x=>rw[q] at a;exact(a rfl).elim
theorem zbs (a:List (κ × V))(k:κ)(v:V):(putK a k v).length<=a.length+1:=by
 unfold putK;split
 ·rw[Y1];lia
 ·rw[XW,Xr,UX];lia
theorem zb3.isSome_eq {o:Option V}{u:Option X9}(r:zb3 o u):o.isSome=u.isSome:=by
 cases o with
 | none=>cases u with
  | none=>rfl
  | some _=>exact(show False from r).elim
 | some _=>cases u with
  | none=>exact(show False from r).elim
  | some _=>rfl
theorem KV.val {a:List (κ × V)}{vs:List (κ × X9)}(r:KV a vs)(k:κ):zb3 (yC a k) (OP vs k):=by
 unfold KV at r;induction r with
 | nil=>exact TY
 | @cons p q g d h t f =>
  obtain⟨h1,h2⟩:=h;by_cases e:p.1=k
  ·have c:q.1=k:=h1.symm.trans e;have b:OP (q::d) k=some q.2:=by simp[OP,Ug,c]
   rw[j4 e,b];exact h2
  ·have c:¬ q.1=k:=fun z=>e (h1.trans z);have b:OP (q::d) k=OP d k:=by simp[OP,Ug,c]
   rw[j5 e,b];exact f
theorem KV.any {a:List (κ × V)}{vs:List (κ × X9)}(r:KV a vs)(k:κ):(a.any fun b=>decide (b.1=k))=vs.any fun b=>decide (b.1=k):=by
 unfold KV at r;induction r with
 | nil=>rfl
 | cons h t c=>rw[Sd,Sd,c,h.1]
theorem KV.repl {b:List (κ × V)}{vs:List (κ × X9)}(r:KV b vs)(k:κ){y:V}{u:X9}(d:RelV y u) :
  KV (b.map fun a=>if a.1=k then (a.1,y) else a) (vs.map fun a=>if a.1=k then (a.1,u) else a):=by
 unfold KV at r ⊢;induction r with
 | nil=>exact .nil
 | @cons p q f g h t c =>
  rw[Xe,Xe];refine .cons ?_ c;obtain⟨h1,h2⟩:=h;by_cases e:p.1=k
  ·rw[if_pos e,if_pos (h1.symm.trans e)];exact⟨h1,d⟩
  ·rw[if_neg e,if_neg (fun z=>e (h1.trans z))];exact⟨h1,h2⟩
theorem KV.put {a:List (κ × V)}{vs:List (κ × X9)}(r:KV a vs)(k:κ){y:V}{u:X9}(b:RelV y u):KV (putK a k y) (stored vs k u):=by
 unfold putK stored;rw[r.any k];by_cases e:(vs.any fun c=>decide (c.1=k))=true
 ·rw[if_pos e,if_pos e];exact r.repl k b
 ·rw[if_neg e,if_neg e];exact Paired.snoc r ⟨rfl,b⟩
theorem KV.length {a:List (κ × V)}{vs:List (κ × X9)}(r:KV a vs):a.length=vs.length:=Paired.length r
end
theorem zkt {P:Xg}{w:WQ}{k:Key}{u:X9}(r:RelV (kV k) u):(zW P w).is k u=true:=by
 cases k with
 | inl i=>obtain⟨t,e⟩:=(show ∃t,u=Vw i t from r);subst e;exact zfo P w i t
 | inr x=>obtain⟨t,e⟩:=(show ∃t,u=Ol x t from r);subst e;exact zfp P w x t
theorem zdP {P:Xg}{w:WQ}:∀{ks:List Key} {a:List X9},Vals (ks.map kV) a->ItemsAre (zW P w) ks a
 | [],_,r=>by rw[Os] at r;cases r;exact .nil
 | k::ks,_,r=>by
  rw[Xe] at r;cases r with
  | cons h t=>exact .cons (zkt h) (zdP t)
abbrev KT (H:Hp):List (List Key×V)->List (List Key×Addr×X9)->Prop:=WU fun p q=>p.1=q.1/\H q.2.1=some (.tup (p.1.map kV))/\RelV p.2 q.2.2
theorem KT.val {H:Hp}{a:List (List Key×V)}{xs:List (List Key×Addr×X9)}(r:KT H a xs)(k:List Key):zb3 (yC a k) ((Oi xs k).map (·.2)):=by
 induction r with
 | nil=>exact TY
 | @cons p q g d h t f =>
  obtain⟨h1,_,h2⟩:=h;by_cases e:p.1=k
  ·have c:q.1=k:=h1.symm.trans e;have b:Oi (q::d) k=some q.2:=by simp[Oi,Ug,c]
   rw[j4 e,b];exact h2
  ·have c:¬ q.1=k:=fun z=>e (h1.trans z);have b:Oi (q::d) k=Oi d k:=by simp[Oi,Ug,c]
   rw[j5 e,b];exact f
theorem KT.repl {H:Hp}{a:List (List Key×V)}{xs:List (List Key×Addr×X9)}(r:KT H a xs)(k:List Key){y:V}{u:X9}(f:RelV y u) :
  KT H (a.map fun b=>if b.1=k then (b.1,y) else b) (xs.map (putAt k u)):=by
 induction r with
 | nil=>exact .nil
 | @cons p q g i h t d =>
  rw[Xe,Xe];refine .cons ?_ d;obtain⟨h1,h2,c⟩:=h;unfold putAt;by_cases e:p.1=k
  ·rw[if_pos e,if_pos (h1.symm.trans e)];exact⟨h1,h2,f⟩
  ·rw[if_neg e,if_neg (fun z=>e (h1.trans z))];exact⟨h1,h2,c⟩
theorem KT.put {H:Hp}{a:List (List Key×V)}{xs:List (List Key×Addr×X9)}(r:KT H a xs)(k:List Key){b:Addr}{y:V}{u:X9}(d:H b=some (.tup (k.map kV)))(c:RelV y u) :
  KT H (putK a k y) (Sf xs k b u):=by
 have e:(a.any fun f=>decide (f.1=k))=(Oi xs k).isSome:=by
  rw[zao,(r.val k).isSome_eq,Option.isSome_map]
 unfold putK Sf;rw[e];by_cases q:(Oi xs k).isSome=true
 ·rw[if_pos q,if_pos q];exact r.repl k c
 ·rw[if_neg q,if_neg q];exact Paired.snoc r ⟨rfl,d,c⟩
theorem KT.keeps {H c:Hp}{a:List (List Key×V)}{xs:List (List Key×Addr×X9)}(r:KT H a xs)(d:∀b ys,H b=some (.tup ys)->c b=some (.tup ys)):KT c a xs :=
 Paired.mapP r fun _ _ z=>⟨z.1,d _ _ z.2.1,z.2.2⟩
section
variable {P:Xg}{w:WQ}{H:Hp}{h:Heap}{a:Addr}
theorem zny {u:HO}(ok:HOk P w H h)(e:Rd H a u):jk P w H h a u:=e.ok ok
theorem zku {b:List (Key×V)}(ok:HOk P w H h)(e:Rd H a (.dK b)):b.length<=Xw/\(a==TZ)=false/\∃vs,KV b vs/\h.DictOf (zW P w) a vs :=
 show jk P w H h a (.dK b) from zny ok e
theorem zpW {b:List (Key×V)}(ok:HOk P w H h)(e:H a=some (.dK b)):b.length<=Xw/\(a==TZ)=false/\∃vs,KV b vs/\h.DictOf (zW P w) a vs:=zku ok (.inl e)
theorem zeM {ks:List Key}(ok:HOk P w H h)(e:H a=some (.tup (ks.map kV))):(VR (zW P w)).is h ks a:=by
 obtain⟨_,b,r,o,h1,h2,n,c⟩:=(show jk P w H h a (.tup (ks.map kV)) from ok a _ e);exact⟨o,b.toArray,n,h1,h2,c,by simpa using zdP r⟩
theorem zkv {b:List (List Key×V)}(ok:HOk P w H h)(e:Rd H a (.dT b)):b.length<=Xw/\(a==TZ)=false /\
  ∃xs,KT H b xs/\h.DictOfH (VR (zW P w)) a xs:=by
 obtain⟨z,y,xs,r,o,f,d,h1,h2,g,i,j⟩:=(show jk P w H h a (.dT b) from zny ok e);refine⟨z,y,xs,r,o,f,d,h1,h2,g,i,fun x hx=>?_,j⟩;have all:∀{l:List (List Key×V)} {m:List (List Key×Addr×X9)},KT H l m->∀x∈m,(VR (zW P w)).is h x.1 x.2.1:=by
  intro l m q;induction q with
  | nil=>intro x hx;exact nomatch hx
  | @cons p q n s c t k =>
   intro x hx;rcases XJ.mp hx with e | hx
   ·subst e;exact zeM ok (by rw[<- c.1];exact c.2.1)
   ·exact k x hx
 exact all r x hx
theorem zpX {b:List (List Key×V)}(ok:HOk P w H h)(e:H a=some (.dT b)):b.length<=Xw/\(a==TZ)=false /\
  ∃xs,KT H b xs/\h.DictOfH (VR (zW P w)) a xs:=zkv ok (.inl e)
end
def zfE (H:Hp)(a:Addr)(y:V)(r:Option V):Prop :=
 (∃c k,Rd H a (.dK c)/\y=kV k/\r=yC c k)\/∃c k b,Rd H a (.dT c)/\y=.ref b/\H b=some (.tup (k.map kV))/\r=yC c k
def zkw (H:Hp)(a:Addr)(y v:V)(d:Hp):Prop :=
 (∃c k,H a=some (.dK c)/\y=kV k/\c.length<Xw/\d=upd H a (.dK (putK c k v))) \/
 ∃c k b,H a=some (.dT c)/\y=.ref b/\H b=some (.tup (k.map kV))/\c.length<Xw/\d=upd H a (.dT (putK c k v))
theorem zfE.t {H:Hp}{a b:Addr}{c:List (List Key×V)}{k:List Key}(e:H a=some (.dT c))(d:H b=some (.tup (k.map kV))):zfE H a (.ref b) (yC c k):=.inr ⟨c,k,b,.inl e,rfl,d,rfl⟩
theorem zkw.t {H:Hp}{a b:Addr}{c:List (List Key×V)}{k:List Key}{v:V}(e:H a=some (.dT c))(d:H b=some (.tup (k.map kV)))(f:c.length<Xw) :
  zkw H a (.ref b) v (upd H a (.dT (putK c k v))):=.inr ⟨c,k,b,e,rfl,d,f,rfl⟩
section
variable {X:Cx}{pins:List (Addr×Obj)}{σ:St}{H:Hp}{s:X8}{a:Addr}{y v:V}{u r:X9}{o:Option V}{A:WH}{E:X9->X8->Prop}
theorem Inv.big (I:Inv X pins σ H s):TZ<s.heap.objs.size:=by
 have h:XR<s.heap.objs.size:=(I.mod.glob.keeps I.bk).lt;exact RR (by decide) h
theorem zjf {Q:X9->X8->Prop}(G:A.units+1<Vi)(I:Inv X pins σ H s)(g:zfE H a y (some v))(r:RelV y u)(h:∀f s',Inv X pins σ H s'->RelV v f->Q f s') :
  W8 (Xi X.prog X.w) A (OT (.ref a) u) Q E s:=by
 rcases g with ⟨q,k,e,j,l⟩ | ⟨q,k,b,e,j,x,l⟩
 ·subst j;obtain⟨z,B,J,c,i⟩:=zku I.hok e;obtain⟨f,n,d⟩:=zb3.some_of (v:=v) (o:=OP J k) (by rw[l];exact c.val k);exact wpAny_getItem_of (zkt r) i.mapOf n (h f _ (I.tok _) d)
 ·subst j;cases (show u=Wx b from r);obtain⟨z,B,L,c,i⟩:=zkv I.hok e;obtain⟨f,n,d⟩:=zb3.some_of (v:=v) (o:=(Oi L k).map (·.2)) (by rw[l];exact c.val k);obtain⟨p,D,m⟩:=Option.map_eq_some_iff.mp n;refine wpAny_getItem_heap (tupleKind_room_in1 G) (zeM I.hok x) i D ?_;rw[m];exact h f _ (I.tok _) d
theorem zih {h':Heap}{t':Nat}{ob:HO}(I:Inv X pins σ H s)(g:Mut (H a))(f:VD a s.heap h')(he:∃q,h'.get? a=some q)(c:jk X.prog X.w (upd H a ob) h' a ob) :
  Inv X pins σ (upd H a ob) { s with heap:=h',toks:=t' } :=
 I.write (x:=a) (e:=a) g (.inl rfl) (fun b q d z=>(f.2 b d).trans z) he c
theorem zov {P:Xg}{w:WQ}{d:Hp}{h':Heap}{b:List (Key×V)}{vs:List (Key×X9)}(z:b.length<=Xw)(e:(a==TZ)=false)(c:KV b vs)(dd:h'.DictOf (zW P w) a vs) :
  jk P w d h' a (.dK b):=⟨z,e,vs,c,dd⟩
theorem zjg {G:Hp}{Q:Unit->X8->Prop}(hu:A.units+1<Vi)(I:Inv X pins σ H s)(g:zkw H a y v G)(O:RelV y u)(N:RelV v r)(h:∀s',Inv X pins σ G s'->Q () s') :
  W8 (Xi X.prog X.w) A (setItem (.ref a) u r) Q E s:=by
 rcases g with ⟨d,k,e,o,l,n⟩ | ⟨d,k,b,e,o,J,l,n⟩
 ·subst o n;obtain⟨z,p,vs,f,m⟩:=zpW I.hok e;have D:vs.length<=Xw:=by rw[<- f.length];exact z
  have x:(putK d k v).length<=Xw:=by have:=zbs d k v;lia
  refine wpAny_setItem_pairs (hsz:=D) (zkt O) m fun M i B=>h _ ?_;have he:∃q,M.get? a=some q:=let ⟨q,_,_,j,_⟩:=i;⟨q,j⟩
  exact zih I (by rw[e];exact TY) B he (zov x p (f.put k N) i)
 ·subst o n;cases (show u=Wx b from O);obtain⟨z,p,xs,f,m⟩:=zpX I.hok e;have D:xs.length<=Xw:=by rw[<- Paired.length f];exact z
  have x:(putK d k v).length<=Xw:=by have:=zbs d k v;lia
  refine wpAny_setItem_heap (hsz:=D) (tupleKind_room_in1 hu) (zeM I.hok J) m fun M i B=>h _ ?_;obtain⟨q,Y,U,j,h2,h3,h4,_,h5⟩:=i;refine zih I (by rw[e];exact TY) B ⟨q,j⟩ ⟨x,p,_,(f.put k J N).keeps fun c ys L=>?_,q,Y,U,j,h2,h3,h4,h5⟩;rw[zj (zb4 L e (fun z=>nomatch z))];exact L
end
section
variable {X:Cx}{pins:List (Addr×Obj)}{σ:St}{H:Hp}{s:X8}{a:Addr}{kvs:List (Key×V)}{k:Key}{u:X9}{A:WH}{E:X9->X8->Prop}
end
def zpY (i:Expr):Prop:=∀b a,Pb i false b a=operate [b,a] (OT b a)
theorem zmv {prog:Xg}{w:WQ}{A:WH}{E:X9->X8->Prop}{s:X8}{g:Env}{b a:Expr}{pos:Pos}{T id:String}{Q:X9->X8->Prop}
  (n:Oz (.type T) "__getitem__"=pure (some (.builtin id))) (p:zpY a)
  (h:W8 (Xi prog w) A (eval b g) (fun o e=>W8 (Xi prog w) A (eval a g) (fun i c=>c.TypeIs o T/\W8 (Xi prog w) A (OT o i) Q E c) E e) E s) :
  W8 (Xi prog w) A (eval (.Subscript b a pos) g) Q E s:=by
 refine Subscript_ (Ww h (fun o e k=>Ww k (fun i c d=>?_) fun _ _ x=>x) fun _ _ x=>x);obtain⟨m,d⟩:=d;unfold OI;refine ZB ?_;rw[getitemInPython_of_ne m.not_modules];refine ZB (Po m n ?_);have j:W8 (Xi prog w) A (Pb a false o i) (fun r f=>W8 (Xi prog w) A (letTemporaryGo b o r >>= fun _=>pure r) Q E f) E c:=by
  rw[p o i];exact wpAny_operating (Ww d (fun r f l=>ZB (wpAny_letTemporaryGo (XU l))) fun _ _ x=>x)
 first
  | exact XU (ZB j)
  | exact ZB (XU (ZB j))
  | exact ZB j
theorem zfF {X:Cx}{c:List (Addr×Obj)}{h:St}{H:Hp}{s:X8}{a:Addr}{y:V}{o:Option V}(I:Inv X c h H s)(g:zfE H a y o):s.TypeIs (.ref a) "dict":=by
 rcases g with ⟨f,k,e,_,_⟩ | ⟨f,k,b,e,_,_,_⟩
 ·obtain⟨_,_,i,_,d⟩:=zku I.hok e;exact d.typeIs
 ·obtain⟨_,_,j,_,d⟩:=zkv I.hok e;exact d.typeIs
def zpZ (e ty:TE):TE:=fun c H Q=>e c H fun x d=>ty c d fun y b=>∃a v,x=.ref a/\zfE b a y (some v)/\Q v b
def zp0 (g ty h:TE):TS:=fun D b H=>h b H fun v d=>g b d fun x e=>ty b e fun y f=>∃a c,x=.ref a/\zkw f a y v c/\D.nx b c
section
variable {X:Cx}{o i e value:Expr}{pos pos' tpos:Pos}{td ty tv:TE}
theorem zeN (r:X.A.units+1<Vi)(p:PE X o td)(n:PE X i ty)(q:zpY i):PE X (.Subscript o i pos) (zpZ td ty):=by
 intro b s e H Q I h;refine zmv PySem.F.slot_dict_getitem.lookup q (thn (p b s e H _ I h) fun u s1 ⟨x,f,k,B,w⟩=>thn (n b s1 e f _ k w) fun E G ⟨y,j,d,D,a,v,m,g,z⟩=>?_);subst m;obtain rfl:u=Wx a:=B;exact⟨zfF d g,zjf r d g D fun L J l c=>⟨v,j,l,c,z⟩⟩
theorem zmw (z:X.A.units+1<Vi)(q:PE X o td)(p:PE X i ty)(B:PE X value tv)(w:Qb value (some (.Subscript o i pos')) pos.line X.env=pure false) :
  PS X (.Assign [.Subscript o i pos'] value pos) (zp0 td ty tv):=by
 intro b s c H D I h;refine wpAny_Assign_Subscript (thn (B b s c H _ I h) fun r s1 ⟨v,d,j,L,E⟩=>thn (q b s1 c d _ j E) fun u O ⟨x,e,k,M,G⟩=>thn (p b O c e _ k G) fun U Y ⟨y,Q,l,N,a,f,n,g,J⟩=>?_) w;subst n;obtain rfl:u=Wx a:=M;exact zjg z l g N L fun s4 m=>⟨c,f,m,J⟩
end
section
variable {X:Cx}{pos:Pos}
end
section
variable {X:Cx}{pins:List (Addr×Obj)}{σ:St}{H:Hp}{s:X8}{a:Addr}{y d:V}{u r:X9}{o:Option V}{A:WH}{E:X9->X8->Prop}
end
section
variable {X:Cx}{o e f:Expr}{apos cpos:Pos}{td ty tx:TE}
end
section
variable {X:Cx}{pins:List (Addr×Obj)}{σ:St}{H:Hp}{s:X8}{a:Addr}{kvs:List (Key×V)}{A:WH}{E:X9->X8->Prop}
end
section
variable {X:Cx}{pins:List (Addr×Obj)}{σ:St}{H:Hp}{s:X8}{a:Addr}{y:V}{u:X9}{A:WH}{E:X9->X8->Prop}
end
theorem zjh:Oz (.type "list") "keys"=pure none:=by rw[RZ,Ua];kernel_rfl
theorem zji:Oz (.type "list") "__getattr__"=pure none:=by rw[RZ,Ua];kernel_rfl
theorem zci:isSubtype (.type "AttributeError") (.type "AttributeError")=pure true:=by rw[O6];kernel_rfl
theorem zkx (a:List X9):ownMembersOf (.type "AttributeError") a=#[unsetMember,unsetMember]:=rfl
theorem zg5:((Manifest.find? "AttributeError").elim false fun t=>t.mro.contains "StopIteration" || t.mro.contains "SystemExit")=false:=by decide +kernel
section
variable {prog:Xg}{w:WQ}{A:WH}{E:X9->X8->Prop}{h:Heap}{g:Array UF}{d:Oe}{t:Nat}{os:Ou}{a:Addr}{its:Array X9}{n:Nat}
theorem zky {tk:Tok}{Q:Fin->X8->Prop}(l:h.get? a=some { cls:=.type "list",dict:=none,data:=.seq its n,slots:=#[] })(k:A.handled=none)
  (he:∀c j e,(∀b f,h.get? b=some f->c.get? b=some f)->(⟨c,g,d,j,os⟩:X8).TypeIs (.ref e) "AttributeError"->E (.ref e) ⟨c,g,d,j,os⟩) :
  W8 (Xi prog w) A (UU.«object.__getattribute__» ⟨[.ref a,.str "keys" tk],[]⟩) Q E ⟨h,g,d,t,os⟩:=by
 have q:(⟨h,g,d,t,os⟩:X8).TypeIs (.ref a) "list":=⟨_,l,rfl⟩;have o:=zjh;have p:=zci;repeat (any_goals (first | assumption | wp_step))
 unfold raiseAttrError;refine ZB (wpAny_mkStr (ZB ?_) (by decide +kernel));unfold newExc newTuple;refine ZB (VZ ?_);refine ZB (m:=RK _ _) (Oh (a:=Uu) (by simp only[RK,zg5];rfl) ?_);rw[zkx];refine VZ ?_;refine ZB (wpAny_mkText ?_);refine ZB ?_;unfold noteAttr lacksNameAndObj;repeat (any_goals (first | assumption | wp_step))
 unfold raiseNew;refine ZB (wpAny_handled ?_);rw[k];refine ZB (XU (wpAny_throw ?_));dsimp only;refine he _ _ _ (fun b f i=>?_) ?_
 ·rw[(UJ ..).2 b (Xj ?_)]
  ·exact X0 _ (X0 _ i)
  ·rw[VN];exact WR (XO i)
 ·refine⟨_,VP _ (W9 _ rfl) rfl,rfl⟩
theorem zmx {tk:Tok}{R:Om->X8->Prop}(f:h.get? a=some { cls:=.type "list",dict:=none,data:=.seq its n,slots:=#[] })(k:A.handled=none)
  (he:∀c j e,(∀b i,h.get? b=some i->c.get? b=some i)->(⟨c,g,d,j,os⟩:X8).TypeIs (.ref e) "AttributeError"->R (.error (.ref e)) ⟨c,g,d,j,os⟩) :
  T7 (Xi prog w) A (.call (.builtin "list.__getattribute__") ⟨[.ref a,.str "keys" tk],[]⟩) R ⟨h,g,d,t,os⟩ :=
 TQ PySem.F.slot_list_getattribute.plain PySem.F.entry_list_ga (PySem.F.slot_list_getattribute.check _ _ _ _ _ _ _ _ (show (⟨h,g,d,t,os⟩:X8).TypeIs (.ref a) "list" from ⟨_,f,rfl⟩) (PySem.F.args_list_getattribute_2 _ _) (zky f (by simp[k]) he))
theorem zp1 {tk:Tok}{Q:X9->X8->Prop}(i:h.get? a=some { cls:=.type "list",dict:=none,data:=.seq its n,slots:=#[] })(l:A.handled=none)
  (he:∀c f e,(∀b j,h.get? b=some j->c.get? b=some j)->(⟨c,g,d,f,os⟩:X8).TypeIs (.ref e) "AttributeError"->E (.ref e) ⟨c,g,d,f,os⟩) :
  W8 (Xi prog w) A (getAttrBy (.ref a) (.str "keys" tk) false) Q E ⟨h,g,d,t,os⟩:=by
 have s:(⟨h,g,d,t,os⟩:X8).TypeIs (.ref a) "list":=⟨_,i,rfl⟩;have o:=PySem.F.slot_list_getattribute.lookup;have p:=PySem.F.slot_list_getattribute.bind (.ref a);have q:=zji;have r:=zci;repeat (any_goals (first | assumption | wp_step))
 refine zmx i (by simp[l]) fun c f e m k=>?_;repeat (any_goals (first | assumption | wp_step))
 exact he _ _ _ m k
theorem zmy {Q:Option X9->X8->Prop}(l:h.get? a=some { cls:=.type "list",dict:=none,data:=.seq its n,slots:=#[] })(j:A.handled=none)
  (k:∀c i,(∀b f,h.get? b=some f->c.get? b=some f)->Q none ⟨c,g,d,i,os⟩) :
  W8 (Xi prog w) A (N8 (.ref a) "keys") Q E ⟨h,g,d,t,os⟩:=by
 have o:=zci;unfold N8 getAttrBy?;refine ZB (wpAny_mkText (ZB (Rh ?_)));refine zp1 (t:=t+1) l j fun c i e m p=>?_;repeat (any_goals (first | assumption | wp_step))
 exact k _ _ m
theorem zap:N7 table "dict.update.loop"=some UU.«dict.update.loop»:=entryFor_of_tree (by kernel_rfl)
theorem Jz:plainId "dict.update.loop"=true:=by decide +kernel
end
section
variable {prog:Xg}{w:WQ}{A:WH}{R:Om->X8->Prop}{I:Addr}{fp wr:List Addr}{G:Array UF->Array UF->Prop}{n:Nat}{P:Nat->X9->Prop}{St:Nat->X8->Prop}
abbrev KQ:=List Key×Addr×X9
def putAll (ks:List KQ):List KQ:=ks.foldl (fun a q=>Sf a q.1 q.2.1 q.2.2) []
theorem putAll_snoc (ks:List KQ)(q:KQ):putAll (ks++[q])=Sf (putAll ks) q.1 q.2.1 q.2.2:=by
 unfold putAll;rw[SG];rfl
theorem zfG (xs:List KQ)(k:List Key)(a:Addr)(v:X9):(Sf xs k a v).length<=xs.length+1:=by
 unfold Sf;split
 ·rw[Y1];lia
 ·rw[XW];exact XV _
theorem zcj (ks:List KQ):(putAll ks).length<=ks.length:=by
 suffices h:∀(ks a:List KQ),(ks.foldl (fun a q=>Sf a q.1 q.2.1 q.2.2) a).length<=a.length+ks.length by
  have:=h ks [];simpa[putAll] using this
 intro ks;induction ks with
 | nil=>intro a;exact XV _
 | cons q r b =>
  intro a;have h1:=b (Sf a q.1 q.2.1 q.2.2);have h2:=zfG a q.1 q.2.1 q.2.2;rw[VT,Xr];lia
theorem zeO {A:WH}{E:X9->X8->Prop}{s:X8}{a:Addr}{x y:X9}{Q:List X9->X8->Prop}(h:Of s.heap a #[x,y])(q:Q [x,y] s):W8 (Xi prog w) A (Px (.ref a)) Q E s:=by
 obtain⟨o,h1,h2,n,b⟩:=h;have c:s.TypeIs (.ref a) "tuple":=⟨o,h1,h2⟩;unfold Px;repeat (any_goals (first | assumption | wp_step))
 rw[b];exact XU (XU q)
end
section
variable {prog:Xg}{w:WQ}{A:WH}{R:Om->X8->Prop}{I:Addr}{fp wr:List Addr}{G:Array UF->Array UF->Prop}{n:Nat}{P:Nat->X9->Prop}{St:Nat->X8->Prop}
theorem zbt (T:List Key->Addr->Prop):∀(d a:List KQ),(∀x∈a,T x.1 x.2.1)->(∀x∈d,T x.1 x.2.1)->∀x∈d.foldl (fun a q=>Sf a q.1 q.2.1 q.2.2) a,T x.1 x.2.1
 | [],_,b,_=>b
 | q::r,a,b,c=>by
  rw[VT];refine zbt T r _ (fun x hx=>?_) fun x hx=>c x (XT _ hx);unfold Sf at hx;split at hx
  ·obtain⟨y,f,rfl⟩:=Xv.mp hx;have:=b y f;unfold putAt;split
   ·exact this
   ·exact this
  ·rcases XF.mp hx with hx | hx
   ·exact b x hx
   ·have e:x=(q.1,q.2.1,q.2.2):=by simpa using hx
    subst e;exact c q XS
theorem zg6 {h0:Heap}(W:WalksS prog w A.in1 I fp wr G n P St)(D:Addr)(J:D ∉ fp)(aa:h0.get? D=none)(ah:∀b∈wr,h0.get? b=none)(ks:List KQ)(N:ks.length=n)(u:n<=Xw)(hu:A.units+1<Vi)
  (M:∀q∈ks,(VR (zW prog w)).is h0 q.1 q.2.1) (hP:∀i v,P i v->∃H q,v=.ref H/\ks[i]?=some q/\Of h0 H #[.ref q.2.1,q.2.2]) :
  ∀(k i:Nat) (s:X8),n-i=k->i<=n->St i s->(∀b o,h0.get? b=some o->s.heap.get? b=some o)->s.heap.DictOfH (VR (zW prog w)) D (putAll (ks.take i)) ->
   (∀s',Moved (D::wr) G s s'->s'.heap.DictOfH (VR (zW prog w)) D (putAll ks)->R (.ok (.ret .none)) s') ->
   T7 (Xi prog w) A (.builtin "dict.update.loop" ⟨[.ref D,.ref I,Ub (i:Int),.none],[]⟩) R s:=by
 have ab:D ∉ wr:=fun h=>J (W.sub _ h);have more:∀b∈wr,b∈D::wr:=fun b u=>XT _ u;have r:∀{h:Heap} {H:Addr} {y:Array X9},(∀b o,h0.get? b=some o->h.get? b=some o)->Of h0 H y->Of h H y:=fun l ⟨o,h1,h2,m,h3⟩=>⟨o,l _ _ h1,h2,m,h3⟩;have f:∀{h:Heap} {ka:Addr} {q:List Key},(∀b o,h0.get? b=some o->h.get? b=some o)->(VR (zW prog w)).is h0 q ka->(VR (zW prog w)).is h q ka:=fun l ⟨o,y,m,h1,h2⟩=>⟨o,y,m,l _ _ h1,h2⟩;have c:∀{s s':X8} {y:List KQ},Moved wr G s s'->(∀b o,h0.get? b=some o->s'.heap.get? b=some o)->(∀x∈y,(VR (zW prog w)).is h0 x.1 x.2.1)->s.heap.DictOfH (VR (zW prog w)) D y->s'.heap.DictOfH (VR (zW prog w)) D y :=
  fun g l hk ⟨o,es,ep,e1,e2,e3,e4,_,e6⟩=>⟨o,es,ep,g.heap D _ ab e1,e2,e3,e4,fun x Y=>f l (hk x Y),e6⟩
 have d:∀{s s':X8},Moved wr G s s'->(∀b o,h0.get? b=some o->s.heap.get? b=some o)->∀b o,h0.get? b=some o->s'.heap.get? b=some o:=fun g l b o e =>
  g.heap b o (fun u=>by
   rw[ah b u] at e;cases e) (l b o e)
 have j:∀i,∀x∈putAll (ks.take i),(VR (zW prog w)).is h0 x.1 x.2.1:=fun i=>zbt (fun a b=>(VR (zW prog w)).is h0 a b) _ [] (fun x Y=>nomatch Y) fun x Y=>M x (Wc Y);intro k;induction k with
 | zero =>
  intro i s hk hi E l hS hR;have ag:i=n:=by lia
  subst ag;refine VS zap ?_;rw[Wb Jz _];show W8 _ A.in1 (RL (.ref I) >>= _) _ _ s;refine ZB (W.done s _ _ E fun s' g=>?_);show W8 _ A.in1 (Builtin.Dict.addKeywords D [] >>= fun _=>ret Uu) _ _ s';refine ZB (XU (XU (hR s' (g.mono more) ?_)));have:=c g (d g l) (j _) hS;rw[<- N,Xz] at this;exact this
 | succ k ih =>
  intro i s hk hi E l hS hR;have O:i<n:=by lia
  refine VS zap ?_;rw[Wb Jz _];show W8 _ A.in1 (RL (.ref I) >>= _) _ _ s;refine ZB (W.item i s _ _ O E fun v s' ac U g=>?_);obtain⟨H,q,rfl,hq,ht⟩:=hP i v ac;have p:=d g l;have ae:=c g p (j _) hS;have l1:=zcj (ks.take i);have l2:(ks.take i).length<=n:=by
   rw[XE];lia
  have tk:ks.take (i+1)=ks.take i++[q]:=by
   rw[Xx,hq];rfl
  refine ZB (V1 (ZB (wpAny_tryCatch (zeO (r p ht) ?_))));refine V1 (wpAny_dictSet_heap (show A.in1.units<Vi from hu) (f p (M q (X4 hq))) ae (fun h' af B=>?_) (by lia));have ai:∀b o,h0.get? b=some o->h'.get? b=some o:=fun b o e=>by
   rw[B.2 b (fun z=>by
    rw[z,aa] at e;cases e)]
   exact p b o e
  have d2:h'.DictOfH (VR (zW prog w)) D (putAll (ks.take (i+1))):=by
   rw[tk,putAll_snoc];exact af
  refine XU ⟨UM Jz _,?_⟩;show T7 _ A (.builtin "dict.update.loop" ⟨[.ref D,.ref I,Ub ((i:Int)+1),.none],[]⟩) R _;rw[show ((i:Int)+1)=((i+1:Nat):Int) by lia];refine ih (i+1) _ (by lia) O (W.frame _ s' _ _ U (TJ _ _) fun b u o e=>?_) ai d2 fun aj Q L=>?_
  ·rw[B.2 b (fun z=>J (by rw[<- z];exact u))];exact e
  ·refine hR aj (Moved.trans W.gtrans ((g.mono more).then_heap (TJ _ _) fun b o u e=>?_) Q) L;rw[B.2 b (fun z=>u (by rw[z];exact XS))];exact e
end
def zp2 (H:Hp)(v:V)(c:List Key×V):Prop:=∃a b,v=V.ref a/\H a=some (.tup [.ref b,c.2])/\H b=some (.tup (c.1.map kV))
def j6 (H:Hp):List V->List (List Key×V)->Prop:=WU (zp2 H)
theorem j6.mono {H d:Hp}(s:zu H d){vs:List V}{c:List (List Key×V)}(f:j6 H vs c):j6 d vs c:=by
 induction f with
 | nil=>exact .nil
 | cons q _ g =>
  obtain⟨a,b,e,h1,h2⟩:=q;exact .cons ⟨a,b,e,s _ _ h1,s _ _ h2⟩ g
def Yw (b:List (List Key×V)):List (List Key×V):=b.foldl (fun a c=>putK a c.1 c.2) []
theorem KT.puts {H:Hp}{b:List (List Key×V)}{ks:List KQ}{a:List (List Key×V)}{xs:List KQ}(e:KT H b ks)(r:KT H a xs):KT H (b.foldl (fun a c=>putK a c.1 c.2) a) (ks.foldl (fun a q=>Sf a q.1 q.2.1 q.2.2) xs):=by
 induction e generalizing a xs with
 | nil=>exact r
 | cons q _ f =>
  obtain⟨h1,h2,d⟩:=q;rw[VT,VT];refine f ?_;rw[<- h1];exact r.put _ h2 d
theorem zmz {P:Xg}{w:WQ}{H:Hp}{h:Heap}(ok:HOk P w H h){a:List (List Key×V)}{ks:List KQ}(b:KT H a ks):∀x∈ks,(VR (zW P w)).is h x.1 x.2.1:=by
 induction b with
 | nil=>exact fun x hx=>nomatch hx
 | cons q _ c =>
  intro x hx;rcases XJ.mp hx with e | hx
  ·subst e;exact zeM ok (by rw[<- q.1];exact q.2.1)
  ·exact c x hx
theorem zmA {P:Xg}{w:WQ}{H:Hp}{h:Heap}(ok:HOk P w H h){vs:List V}{d:List (List Key×V)}{c:List X9}(n:j6 H vs d)(j:Vals vs c):∃ks:List KQ,KT H d ks/\ks.length=c.length/\(∀(i:Nat) (v:X9),c[i]?=some v->∃(f:Addr) (q:KQ),v=Wx f/\ks[i]?=some q/\Of h f #[.ref q.2.1,q.2.2]):=by
 induction n generalizing c with
 | nil =>
  cases j;exact⟨[],.nil,rfl,fun i v e=>by simp at e⟩
 | @cons x k G I q _ o =>
  obtain⟨a,b,e,h1,h2⟩:=q;cases j with
  | cons B z =>
  obtain⟨ks,p,s,y⟩:=o z;subst e;cases B;obtain⟨_,G,r,D⟩:=(show jk P w H h a (.tup [.ref b,k.2]) from ok a _ h1);obtain⟨u,E,rfl,A,g⟩:=vals2 r;cases A;refine⟨(k.1,b,E)::ks,.cons ⟨rfl,h2,g⟩ p,by rw[Xr,Xr,s],fun i v e=>?_⟩;cases i with
  | zero =>
   have l:Wx a=v:=by simpa using e
   exact⟨a,_,l.symm,rfl,D⟩
  | succ i =>
   obtain⟨f,q,h1,h2,m⟩:=y i v (by simpa using e);exact⟨f,q,h1,by simpa using h2,m⟩
section
variable {X:Cx}
set_option maxHeartbeats 8000000 in
theorem Jj (hu:X.A.units+64<Vi)(hh:X.A.handled=none):jY X (.type "dict") (fun xs H Q=>∃l us g,xs=[.ref l]/\H l=some (.lst us)/\j6 H us g/\∀d,H d=none->Q (.ref d) (upd H d (.dT (Yw g)))):=by
 intro ai s σ H xs aj Q I r h;obtain⟨l,us,g,rfl,hl,hp,q⟩:=h;obtain⟨u,rfl,ru⟩:=vals1 r;cases ru;obtain⟨hz,m,n,rv,e⟩:=(show jk X.prog X.w H s.heap l (.lst us) from I.hok l _ hl);obtain⟨ks,E,D,N⟩:=zmA I.hok hp rv;have big:=I.big;have y:m.length<=Xw:=by
  rw[<- rv.length];exact hz
 have ae:=zmz I.hok E;refine callType_codes (Q₁:=fun U p=>U=.ref s.heap.objs.size/\p={ s with heap:=s.heap.push { cls:=.type "dict",data:=.dict #[] } }) PySem.F.kt_called_dict (PySem.F.kt_typeCall_dict_1 _) PySem.F.entry_dict_init (kt_code_dict_new _ ⟨rfl,rfl⟩) ?_;rintro U p ⟨rfl,rfl⟩;have f:(s.heap.push { cls:=.type "dict",data:=.dict #[] }).DictOfH (VR (zW X.prog X.w)) s.heap.objs.size []:=Heap.DictOfH.new s.heap;have e1:(s.heap.push { cls:=.type "dict",data:=.dict #[] }).get? l=some { cls:=.type "list",dict:=none,data:=.seq m.toArray n,slots:=#[] }:=X0 _ e;refine⟨f.typeIs,PySem.F.args_dict_init_2 _ _,?_⟩;unfold UU.«dict.__init__»;refine ZB ?_;unfold Builtin.Dict.selfAndRest;refine ZB (wpAny_notOrdered_dict f.typeIs ?_);show W8 _ _ (pure (s.heap.objs.size,[Wx l])) _ _ _;refine XU ?_;show W8 _ _ (PV "dict.__init__" s.heap.objs.size (.ref l) [] .none) _ _ _;unfold PV;have hT:Sc { s with heap:=s.heap.push { cls:=.type "dict",data:=.dict #[] } } (.ref l) "list":=⟨_,e1,rfl⟩;refine ZB (PD hT ?_);rw[if_pos (by decide)];refine ZB (zmy e1 (by simp[hh]) fun h2 t2 kp=>?_);rw[if_pos (show (none:Option X9).isNone=true from rfl)];have O:∀b j,s.heap.get? b=some j->h2.get? b=some j:=fun b j z=>kp b j (X0 _ z);have G:h2.IsList l m.toArray:=⟨_,kp _ _ e1,rfl,n,rfl⟩;refine ZB (Ut (ZB (SJ G ?_)));have J:l<s.heap.objs.size:=XO e;have k:s.heap.objs.size<h2.objs.size:=by
  obtain⟨o,_,_,M,_⟩:=f;exact XO (kp _ _ M)
 have L:l≠h2.objs.size:=Xj (RR J k);have aa:s.heap.objs.size ∉ [h2.objs.size,l]:=by
  simp only[XJ,Vp,or_false,not_or];exact⟨Xj k,UR J⟩
 refine XU ⟨UM Jz _,?_⟩;have ac:(h2.push { cls:=.type "list_iterator",data:=.fields #[.ref l,.int 0 0] }).DictOfH (VR (zW X.prog X.w)) s.heap.objs.size []:=by
  obtain⟨o,es,ep,M,h3,h4,h5,_,h6⟩:=f;exact⟨o,es,ep,X0 _ (kp _ _ M),h3,h4,h5,(fun x hx=>nomatch hx),h6⟩
 refine zg6 (h0:=s.heap) ((Walks.list (by simp[hh]) h2.objs.size l L m.toArray).toS) s.heap.objs.size aa (UP (XV _)) (fun b hb=>?_) ks (by rw[D];simp) (by simpa using y) (by show X.A.units+1+1<Vi;lia) ae (fun i v hv=>N i v (by rw[<- hv];simp)) _ 0 _ rfl (W5 _)
  ⟨⟨_,W9 _ rfl,rfl,rfl⟩,G.push _⟩ (fun b o z=>X0 _ (O b o z)) ac ?_
 ·have e:b=h2.objs.size:=by simpa using hb
  rw[e];exact UP (SX k)
 ·intro s' Y ab;obtain⟨h',g',d',ah,ag⟩:=s';have eg:g'=s.gens:=Y.gens;have ed:d'=s.drawn:=Y.drawn;have eo:ag=s.os:=Y.os;subst eg;subst ed;subst eo;have af:∀b j,s.heap.get? b=some j->h'.get? b=some j:=fun b j z=>by
   have lt:=XO z;refine Y.heap b j (fun hb=>?_) (X0 _ (O b j z));rcases XJ.mp hb with e | hb
   ·exact Wl _ (e ▸ lt)
   ·have e:b=h2.objs.size:=by simpa using hb
    rw[e] at lt;exact Wl _ (RR lt k)
  obtain⟨o,es,ep,M,h3,h4,h5,_,h6⟩:=ab;have B:KT H (Yw g) (putAll ks):=KT.puts E .nil;have c:H s.heap.objs.size=none:=I.hok.fresh (XV _);refine⟨rfl,.ref s.heap.objs.size,_,I.laid (a:=s.heap.objs.size) (o:=.dT (Yw g)) (t':=ah) af (XV _) ⟨?_,beq_eq_false_iff_ne.mpr (U9 (Xj big)),_,KT.keeps B fun b ys hb=>?_,o,es,ep,M,h3,h4,h5,h6⟩,rfl,q _ c⟩
  ·rw[Paired.length B];exact X6 (zcj ks) (by rw[D];exact y)
  ·rw[zj (zh hb c)];exact hb
end
theorem u1 {A:PySem.Around}(h:A.units+64<PySem.cLine):A.units+1<PySem.cLine:=by lia
section
variable {K:X5}{g:TG}{tc:TT}{te:TE}{Q:VK}{σ0:St}{D:Addr}
theorem zkz {l1 l2:Addr}{xs ys:List V}(Pv:Nat->St->Hp->Prop){H:Hp}(he:xs.length=ys.length)(h0:Pv 0 σ0 H)(u:∀i a H,i<=xs.length->Pv i a H->SqL K H l1 xs/\SqL K H l2 ys)
  (w:∀i x y T a H,xs[i]?=some x->ys[i]?=some y->H T=none->Pv i a H->g (.ref T) a (upd H T (.tup [x,y])) fun c o=>tc c o fun b k=>if b=true then te c k fun y l=>∃zs,l D=some (.lst zs)/\zs.length<Xw/\Pv (i+1) c (upd l D (.lst (zs++[y]))) else Pv (i+1) c k)
  (r:∀ a H,Pv xs.length a H->Q (.ref D) H):JL (Itz K l1 l2) g tc te Q D σ0 H:=by
 refine⟨fun i m a H=>m=xs.length-i/\i<=xs.length/\Pv i a H,⟨xs.length,by simp,W5 _,h0⟩,?_⟩;rintro i m a H ⟨rfl,s,p⟩;obtain⟨h,j⟩:=u i a H s p;by_cases d:i<xs.length
 ·refine .inr ⟨⟨xs,ys,h,j,d,by lia⟩,Pv (i+1),fun E n A=>⟨xs.length-(i+1),by lia,rfl,d,A⟩,fun x n y=>?_⟩;obtain⟨T,rfl,q,y⟩:=y;obtain⟨v,B,z,f,rfl⟩:=y xs ys h j;exact w i v B T a H z f q p
 ·have e:i=xs.length:=by lia
  subst e;exact .inl ⟨⟨xs,ys,h,j,by lia⟩,r a H p⟩
end
theorem j6.into {H:Hp}(z:Addr)(o:HO){f:List V}(d:H z=some (.lst f)):∀{vs:List V} {c:List (List Key×V)},j6 H vs c->j6 (upd H z o) vs c
 | _,_,.nil=>.nil
 | _,_,.cons ⟨a,b,e,h1,h2⟩ t=>.cons ⟨a,b,e,by rw[zj (zb4 h1 d (by intro y;cases y))];exact h1,by rw[zj (zb4 h2 d (by intro y;cases y))];exact h2⟩ (j6.into z o d t)
theorem j6.snoc {H:Hp}{vs:List V}{a:List (List Key×V)}{v:V}{b:List Key×V}(h:j6 H vs a)(x:zp2 H v b):j6 H (vs++[v]) (a++[b]):=Paired.snoc h x
theorem j6.length {H:Hp}{vs:List V}{a:List (List Key×V)}(h:j6 H vs a):vs.length=a.length:=Paired.length h
theorem za0 {v:V}{k:List Key}:∀(ks:List (List Key)) (a:List (List Key×V)),(k∈ks\/yC a k=some v)->yC ((ks.map fun x=>(x,v)).foldl (fun a b=>putK a b.1 b.2) a) k=some v
 | [],a,h=>by
  rcases h with h | h
  ·cases h
  ·exact h
 | x::r,a,h=>by
  rw[Xe,VT];refine za0 r _ ?_;rw[YG];by_cases e:k=x
  ·rw[if_pos e];exact .inr rfl
  ·rw[if_neg e];rcases h with h | h
   ·rcases XJ.mp h with h | h
    ·exact absurd h e
    ·exact .inl h
   ·exact .inr h
section
variable {prog:Xg}{w:WQ}{A:WH}{E:X9->X8->Prop}{s:X8}{d o a:Addr}{xs ys:List KQ}{k:List Key}{v:X9}
abbrev tk2 (prog:Xg)(w:WQ):HeapKind prog w (List Key):=VR (zW prog w)
end
def HH (i j:Nat):Int:=reduceHash (Builtin.Tuple.tupleHashOf [hashInt (i:Int),hashInt (j:Int)])
theorem zaq (prog:Xg)(w:WQ)(i j:Nat):(tk2 prog w).hash [.inl ((i:Nat):Int),.inl ((j:Nat):Int)]=HH i j:=by
 show tupleKeyHash (zW prog w) [.inl ((i:Nat):Int),.inl ((j:Nat):Int)]=HH i j;unfold tupleKeyHash HH;rw[Xe,Xe,Os];have e:∀n:Nat,(zW prog w).hash (.inl ((n:Nat):Int))=hashInt ((n:Nat):Int):=fun n=>by
  show znT w (.inl ((n:Nat):Int))=_;unfold znT;with_reducible rfl
 rw[e,e]
theorem zow:(XC 64).all fun n=>(XC 64).all fun m=>decide (HH (n/8) (n%8)=HH (m/8) (m%8))==decide (n=m):=by decide +kernel
theorem zkA {i j f g:Nat}(h1:i<8)(h2:j<8)(k:f<8)(l:g<8)(e:HH i j=HH f g):i=f/\j=g:=by
 have h:=zow;rw[WL] at h;have a:=h (8*i+j) (Xf.mpr (by lia));rw[WL] at a;have b:=a (8*f+g) (Xf.mpr (by lia));rw[show (8*i+j)/8=i by lia,show (8*i+j)%8=j by lia,show (8*f+g)/8=f by lia,show (8*f+g)%8=g by lia,decide_eq_true e] at b;have c:decide (8*i+j=8*f+g)=true:=by simpa using b
 have d:=of_decide_eq_true c;lia
section
variable {X:Cx}
end
section
variable {X:Cx}
end
section
variable {prog:Xg}{w:WQ}{A:WH}{E:X9->X8->Prop}{s:X8}{a b:Addr}{H:Hp}{kvs:List (List Key×V)}{ka kb:List KQ}
end
section
variable {X:Cx}
end
section
variable {prog:Xg}{w:WQ}{A:WH}{E:X9->X8->Prop}{s:X8}{d it:Addr}{od:Obj}{es:Array DictEntry}{ep i:Nat}
end
section
variable {X:Cx}{tg:Expr}
end
section
variable {X:Cx}{tg iter elt:Expr}{ifs:List Expr}{scope:UG}{pos:Pos}{N:List Str}{src:List (Option Nat)}{cl:List (Str×Addr)}{wi:TI}{g:TG}{tc:TT}{te:TE}
theorem zkB {y:Str}{i:Nat}{x:Str}{M al:Pos}(hN:X.N.Nodup)(a3:X.N[i]?=some x)(ap:X.env.scope.names.lookup x=some .local)(ok:xU X N src scope cl y)(U:X.calm=true)(hi:PI X tg iter wi)
  (hg:∀C fp a s H,PG (qC X N scope cl y C fp a s H) tg g) (hc:∀C fp a s H,zjc (qC X N scope cl y C fp a s H) ifs tc) (he:∀C fp a s H,PE (qC X N scope cl y C fp a s H) elt te)
  (hs:∀x,T6 iter X.env x=pure x:=by intro _;rfl) (a6:Qb (.ListComp elt [⟨tg,iter,ifs,0⟩] scope pos) (some (.Name x M)) al.line X.env=pure true:=by rfl) :
  PS X (.Assign [.Name x M] (.ListComp elt [⟨tg,iter,ifs,0⟩] scope pos) al) (zmg (zie wi src g tc te) (Ja i)):=by
 intro a s σ H D I h;rw[Pk _ _ _ _ a6];refine ZB (VF (ZB ?_));unfold evalThenUse;refine ZB (Ww (Q:=fun _ ah=>∃ l G,Inv X a l G ah/\D.nx l G) ?_ (fun _ ah ⟨l,G,I',q'⟩=>XU (XU ⟨l,G,I',q'⟩)) fun _ _ z=>z);refine UK (use:=some (OB (.Name x M) X.env)) rfl hs ok.clos ok.kind ok.names (thn (hi a s σ H _ I h) fun xv s1 h1=>thn h1 fun aA j h2=>?_);obtain⟨it,fp,tn,J,O,e,I2,T,ar,f2,q2⟩:=h2;subst e;refine VZ (zif ok.one ok.push ?_);generalize hP:j.heap.push { cls:=.type "list",dict:=none,data:=.seq ([]:List X9).toArray }=f;have hC:f.objs.size=j.heap.objs.size+1:=by rw[<- hP,VN]
 have a9:(f.push { cls:=.type "dict",data:=.dict #[] }).objs.size=f.objs.size+1:=VN ..;generalize ae:(f.push { cls:=.type "dict",data:=.dict #[] }).push { cls:=.type "cell",data:=.cell none }=E;have af:E.Ns f.objs.size (fun _=>none):=by
  rw[<- ae];exact(Heap.Ns.new f _).push _
 have a2:E.IsCell (f.objs.size+1) none:=by
  rw[<- ae,<- a9];exact⟨_,W9 _ rfl,rfl⟩
 have k:∀b u,j.heap.get? b=some u->E.get? b=some u:=fun b u e=>by
  rw[<- ae];exact X0 _ (X0 _ (hP ▸ X0 _ e))
 have hD:E.get? j.heap.objs.size=some { cls:=.type "list",data:=.seq #[] }:=by
  rw[<- ae];exact X0 _ (X0 _ (hP ▸ W9 _ rfl))
 have ho:∀b∈fp,∃o,j.heap.get? b=some o:=fun b B=>let ⟨o,e,_⟩:=T.obj 0 _ ar b B;⟨o,e⟩
 obtain⟨W,⟨m0,w0⟩,aw⟩:=q2 j.heap.objs.size (I2.hok.fresh (XV _));have I0:=zbr (tk:=j.toks) ok I2 f2 ho hC k hD af a2;have aq:tn 0 E:=T.keep 0 _ _ ar fun b _ o e=>k b o e;have ay:∀b∈fp,upd O j.heap.objs.size (.lst []) b=none:=fun b B=>by
  obtain⟨o,e⟩:=ho b B;rw[zj (Xj (XO e))];exact(f2 b B).1
 have aa:∀{G:Hp},(∀b∈fp,G b=none)->∀b∈fp,QN (qC X N scope cl y f.objs.size fp a j O) [] G b:=fun {G} hn b B=>by
  obtain⟨o,e⟩:=ho b B;have lt:=XO e;refine⟨hn b B,?_,fun z=>(XJ.mp (I2.stkSub b z)).elim (f2 b B).2.1 (f2 b B).2.2.1,.inl B,fun x c z=>?own,fun p hp=>?_⟩
  case own =>
   have z':S7 x ((y,f.objs.size+1)::cl)=some c:=z
   rw[VI] at z'
   cases q:x==y with
   | true =>
    rw[q] at z';rw[<- Option.some.inj z',hC];exact UR (WR (WR lt))
   | false =>
    rw[q] at z';exact(f2 b B).2.2.2.2.1 x c (ok.sub x c z')
  ·show b≠f.objs.size;rw[hC];exact Xj (WR lt)
  ·have a4:p∈X.pn++a:=by
    have:p∈(X.pn++a)++[]:=hp;simpa using this
   exact(f2 b B).2.2.2.2.2 p a4
 have ak:∀ab:X8,ab={ j with heap:=E,toks:=j.toks } ->
   T7 (Xi X.prog X.w) X.A (.compLoop (.ListComp elt [⟨tg,iter,ifs,0⟩] scope pos) 0 (.ref it) (.ref j.heap.objs.size) (Ui scope ((y,f.objs.size+1)::cl) f.objs.size X.env))
    (Oa (Xi X.prog X.w) X.A X.xe (some (OB (.Name x M) X.env)) (fun _ ah=>∃ l G,Inv X a l G ah/\D.nx l G) (.ref j.heap.objs.size) f.objs.size) ab:=by
  rintro ab rfl;refine PF rfl (fun n s'=>∃i l G,Inv (qC X N scope cl y f.objs.size fp a j O) [] l G s'/\tn i s'.heap/\(∀b∈fp,G b=none)/\W i n l G) ?_ m0 ⟨0,_,_,I0,aq,ay,w0⟩;rintro n s3 ⟨i,ai,H3,I3,au,an,w3⟩;show W8 _ X.A ((N9 (.ListComp elt [⟨tg,iter,ifs,0⟩] scope pos) 0 (.ref it) (.ref j.heap.objs.size) (Ui scope ((y,f.objs.size+1)::cl) f.objs.size X.env)).onRaise (fun x=>do Oj x (Ui scope ((y,f.objs.size+1)::cl) f.objs.size X.env);R0 x)) _ _ s3;refine Pa ?_;rw[Rj];rcases aw i n ai H3 w3 with ⟨av,qn⟩ | ⟨go,N',hN,step⟩
  ·refine ZB (VF (ZB (thn (T.done (qC X N scope cl y f.objs.size fp a j O) rfl rfl rfl U i [] s3 ai H3 _ I3 (aa an) au av) fun r s4 ⟨hr,I4⟩=>?_)));subst hr;refine XU ?_;obtain⟨m,hm,_⟩:=I4.loc;have ag:j.heap.objs.size<=f.objs.size:=by rw[hC];exact Wd _
   have IX:Inv X a σ H3 s4:=I2.call' (s':=s4) (ch:=fp) I4.os I4.base I4.hok I4.bare fun b B=>⟨(f2 b B).2.2.2.1,(f2 b B).2.1,(f2 b B).2.2.2.2.1,(f2 b B).2.2.2.2.2⟩;have L:∀y c,X.env.cells.lookup y=some c->c≠f.objs.size:=fun y c e z=>by
    obtain⟨_,o,e1,_⟩:=I2.cell y c e;have:=XO e1;rw[z] at this;exact Wl _ (Xy this ag)
   have Y:X.env.locals≠f.objs.size:=fun z=>by
    have:=I2.lt;rw[z] at this;exact Wl _ (Xy this ag)
   refine Rr (zaW IX hN a3 (.inl ap) (v:=.ref j.heap.objs.size) rfl (fun s5 I5 ⟨a5,a8,a1⟩=>?_) (.inr ap));have na:a5≠f.objs.size:=by
    rcases a1 with z | z
    ·rw[z];exact Y
    ·exact L _ _ z
   refine⟨m,hm.sameBut a8 (U9 na),fun h' sb=>⟨_,H3,?_,qn⟩⟩;exact I5.turned (t':=s5.toks) (it:=f.objs.size) (fun b o B e=>(sb.2 b B).trans e) I4.free (U9 Y) (.inr (X6 I2.sz ag)) L fun p hp z=>by
    obtain⟨e1,_⟩:=I2.pin p hp;have:=XO e1;rw[z] at this;exact Wl _ (Xy this ag)
  ·refine ZB (VF (ZB (thn (T.item (qC X N scope cl y f.objs.size fp a j O) rfl rfl rfl U i [] s3 ai H3 _ I3 (aa an) au go) fun r s4 ⟨u,hr,h4⟩=>?_)));subst hr;dsimp only;refine ZB (thn h4 fun _ s5 ⟨x,H5,I5,r5,y5,am,az⟩=>?_);have ax:=I5.pinned (aa az) (T.obj _ _ am);refine ZB (Ww (hg f.objs.size fp a j O _ s5 ai H5 x u _ ax r5 (step x H5 y5)) (fun _ s6 ⟨aj,H6,I6,q6⟩=>?_) fun _ _ z=>Wv z);have R8:∀{s7:X8} {ac:St} {H7:Hp},Inv (qC X N scope cl y f.objs.size fp a j O) ([]++YB fp s5.heap) ac H7 s7->N' ac H7->∃m,m<n/\∃i l G,Inv (qC X N scope cl y f.objs.size fp a j O) [] l G s7/\tn i s7.heap/\(∀b∈fp,G b=none)/\W i m l G:=fun {s7 ac H7} I7 n7=>by
    obtain⟨m',hm,w7⟩:=hN ac H7 n7;refine⟨m',hm,i+1,ac,H7,I7.unpinned,T.keep _ _ _ am fun b B o e=>(I7.pin (b,o) (XD _ (XD _ (ju B e)))).1,fun b B=>?_,w7⟩;obtain⟨o,e,d⟩:=T.obj _ _ am b B;exact(I7.pin (b,o) (XD _ (XD _ (ju B e)))).2.1
   refine ZB (Ww (hc f.objs.size fp a j O _ s6 aj H6 _ I6 q6) (fun b s7 ⟨H7,I7,q7⟩=>?_) fun _ _ z=>Wv z);cases b with
   | false =>
    rw[if_neg XY] at q7;exact XU ⟨rfl,R8 I7 q7⟩
   | true =>
    rw[if_pos rfl] at q7;refine ZB (ZB (Ww (he f.objs.size fp a j O _ s7 aj H7 _ I7 q7) (fun yv s8 ⟨v8,H8,I8,r8,ys,a7,ao,q8⟩=>?_) fun _ _ z=>Wv z));refine ZB (Ww (Zo (X:=qC X N scope cl y f.objs.size fp a j O) _ s8 aj H8 (.ref j.heap.objs.size) [v8] (.ref j.heap.objs.size) [yv] (fun _ H9=>N' aj H9) I8 rfl (.cons r8 .nil) ⟨_,ys,v8,rfl,rfl,a7,ao,q8⟩) (fun _ s9 ⟨v9,H9,I9,_,q9⟩=>?_) fun _ _ z=>Wv z);exact XU (XU ⟨rfl,R8 I9 q9⟩)
 exact Um (ak _ rfl) (T.self _ 0 _ _ _ aq (ak _ rfl))
end
open PySem
namespace ST
def run (a i:Nat):List Nat:=(XC (VL a i+1-i)).map (i + ·)
def walk (a:Nat):Nat->Nat->Nat->List Nat
 | 0,_,_=>[]
 | f+1,i,p=>run a i++walk a f (Vn a i p).1 (Vn a i p).2
theorem zmB (a i:Nat):1<=(run a i).length/\(run a i).length<=10:=by
 unfold run VL;rw[Y1,W6];split<;>lia
theorem zck (a:Nat):∀f i p,(walk a f i p).length<=10*f
 | 0,_,_=>XV _
 | f+1,i,p=>by
  rw[walk,XW];have:=(zmB a i).2;have:=zck a f (Vn a i p).1 (Vn a i p).2;lia
def steps (t:Wo):Nat->RJ->RJ
 | 0,p=>p
 | n+1,p=>steps t n (t.advance p)
theorem za1 (t:Wo):∀n m p,steps t (n+m) p=steps t m (steps t n p)
 | 0,m,p=>by rw[V6];rfl
 | n+1,m,p=>by
  rw[show n+1+m=(n+m)+1 from by lia];exact za1 t n m (t.advance p)
theorem za2 (t:Wo)(i pt:Nat)(a:Option Nat):∀(d r j:Nat),d<=r->steps t d { j:=j,more:=r,i:=i,perturb:=pt,dummy:=a }={ j:=j+d,more:=r-d,i:=i,perturb:=pt,dummy:=a }
 | 0,r,j,_=>rfl
 | d+1,r,j,h=>by
  have e:t.advance { j:=j,more:=r,i:=i,perturb:=pt,dummy:=a }={ j:=j+1,more:=r-1,i:=i,perturb:=pt,dummy:=a }:=by
   unfold P1;rw[if_pos (by show r>0;lia)]
  show steps t d (t.advance _)=_;rw[e,za2 t i pt a d (r-1) (j+1) (by lia)];congr 1<;>lia
def Qa (a i pt:Nat)(b:Option Nat):RJ:={ j:=i,more:=VL a i-i,i:=i,perturb:=pt,dummy:=b }
theorem za3 (a i:Nat):i<=VL a i:=by
 unfold VL;split<;>lia
theorem zg7 (t:Wo)(i pt:Nat)(a:Option Nat):steps t (run t.mask i).length (Qa t.mask i pt a)=Qa t.mask (Vn t.mask i pt).1 (Vn t.mask i pt).2 a:=by
 have b:(run t.mask i).length=(VL t.mask i-i)+1:=by
  unfold run;rw[Y1,W6];have:=za3 t.mask i;lia
 rw[b,za1];unfold Qa;rw[za2 t i pt a _ _ _ (XV _),SU];rw[steps,steps];unfold P1;rw[if_neg (by show ¬ 0>0;lia)]
theorem JN (t:Wo):∀(f i pt:Nat) (a:Option Nat) (n:Nat) (j:Nat),(walk t.mask f i pt)[n]?=some j->(steps t n (Qa t.mask i pt a)).j=j
 | 0,_,_,_,_,_,h=>by simp[walk] at h
 | f+1,i,pt,a,n,j,h=>by
  rw[walk] at h;by_cases b:n<(run t.mask i).length
  ·rw[V8 b] at h;unfold run at h;rw[Xl,UI (by unfold run at b;simpa using b)] at h;have c:(run t.mask i).length=(VL t.mask i-i)+1:=by
    unfold run;rw[Y1,W6];have:=za3 t.mask i;lia
   unfold Qa;rw[za2 t i pt a n _ _ (by lia)];exact Option.some.inj h
  ·rw[VU (by lia)] at h;have e:n=(run t.mask i).length+(n-(run t.mask i).length):=by lia
   rw[e,za1,zg7];exact JN t f _ _ a _ j h
theorem zeP (t:Wo)(VE:Nat->Int)(h:Int):∀(n F:Nat) (p:RJ),(∀k,k<n->∃i,t.slot (steps t k p).j=.live i/\(VE i==h)=false)->n<=F->T4 t VE h F p=T4 t VE h (F-n) (steps t n p)
 | 0,F,p,_,_=>rfl
 | n+1,F,p,hk,d=>by
  obtain⟨a,rfl⟩:∃a,F=a+1:=⟨F-1,by lia⟩;obtain⟨i,h1,h2⟩:=hk 0 (by lia);have b:t.slot p.j=.live i:=h1;rw[T4,b];show (if (VE i==h)=true then _ else _)=_;rw[if_neg (by rw[h2];decide),zeP t VE h n a (t.advance p) (fun k c=>hk (k+1) (by lia)) (by lia),Nat.add_sub_add_right];rfl
def Up (xs:Array Nat):Prop:=∀i j,i<j->j<xs.size->xs.getD i 0<xs.getD j 0
theorem zkC {xs:Array Nat}(U:Up xs)(j:Nat):∀(f lo a:Nat),a-lo<=f->lo<=a->a<=xs.size->(∀i,i<lo->xs.getD i 0<j)->(∀i,a<=i->i<xs.size->j<=xs.getD i 0) ->
  VB xs j f lo a<=xs.size/\(∀i,i<VB xs j f lo a->xs.getD i 0<j)/\(∀i,VB xs j f lo a<=i->i<xs.size->j<=xs.getD i 0):=by
 intro f;induction f with
 | zero =>
  intro lo a n o d h1 h2;have:lo=a:=by lia
  subst this;exact⟨d,h1,h2⟩
 | succ f m =>
  intro lo a n o d h1 h2;by_cases b:lo<a
  ·have q:(lo+a)/2<a:=by lia
   have p:lo<=(lo+a)/2:=by lia
   have c:(lo+a)/2<xs.size:=by lia
   have e:xs.getD ((lo+a)/2) j=xs.getD ((lo+a)/2) 0:=by
    simp[Th,c]
   have l:VB xs j (f+1) lo a=if xs.getD ((lo+a)/2) 0<j then VB xs j f ((lo+a)/2+1) a else VB xs j f lo ((lo+a)/2):=by
    rw[VB,if_pos b];show (if xs.getD ((lo+a)/2) j<j then _ else _)=_;rw[e]
   by_cases g:xs.getD ((lo+a)/2) 0<j
   ·rw[l,if_pos g];refine m ((lo+a)/2+1) a (by lia) (by lia) d (fun i h=>?_) h2;by_cases he:i=(lo+a)/2
    ·rw[he];exact g
    ·exact RR (U i ((lo+a)/2) (by lia) c) g
   ·rw[l,if_neg g];refine m lo ((lo+a)/2) (by lia) (by lia) (by lia) h1 (fun i h k=>?_);by_cases he:i=(lo+a)/2
    ·rw[he];lia
    ·have:=U ((lo+a)/2) i (by lia) k;lia
  ·rw[VB,if_neg b];have:lo=a:=by lia
   subst this;exact⟨d,h1,h2⟩
theorem Zu {xs:Array Nat}(U:Up xs)(j:Nat):Xu xs j<=xs.size/\(∀i,i<Xu xs j->xs.getD i 0<j)/\(∀i,Xu xs j<=i->i<xs.size->j<=xs.getD i 0) :=
 zkC U j xs.size 0 xs.size (by lia) (W5 _) (XV _) (fun _ h=>absurd h (Tn _)) (fun i h1 h2=>absurd h2 (by lia))
theorem JO {xs:Array Nat}{i:Nat}(h:i<xs.size):xs[i]?=some (xs.getD i 0):=by
 simp[Th,h]
theorem Zv {t:Wo}(U:Up t.place){i:Nat}(a:i<t.place.size):t.slot (t.place.getD i 0)=.live i:=by
 have b:=Zu U (t.place.getD i 0);have e:Xu t.place (t.place.getD i 0)=i:=by
  rcases Rp (Xu t.place (t.place.getD i 0)) i with h | h | h
  ·have h1:=b.2.2 _ (XV _) (by lia);have h2:=U _ i h a;lia
  ·exact h
  ·have:=b.2.1 i h;lia
 unfold SetTable.slot;simp only[e,JO a];rw[if_pos (by simp)]
theorem slot_of {t:Wo}(U:Up t.place)(f:t.dummies=#[])(j:Nat):(∃i,i<t.place.size/\t.place.getD i 0=j/\t.slot j=.live i)\/(t.slot j=.empty/\∀i,i<t.place.size->t.place.getD i 0≠j):=by
 by_cases h:∃i,i<t.place.size/\t.place.getD i 0=j
 ·obtain⟨i,a,rfl⟩:=h;exact .inl ⟨i,a,rfl,Zv U a⟩
 ·have d:∀i,i<t.place.size->t.place.getD i 0≠j:=fun i a e=>h ⟨i,a,e⟩;refine .inr ⟨?_,d⟩;unfold SetTable.slot;have h1:¬ ((t.place[Xu t.place j]?==some j)=true):=fun z=>by
   have b:t.place[Xu t.place j]?=some j:=by simpa using z
   have c:Xu t.place j<t.place.size:=by
    rcases SS (Xu t.place j) t.place.size with q | q
    ·exact q
    ·rw[WF q] at b;cases b
   rw[JO c] at b;exact d _ c (Option.some.inj b)
  simp only[];rw[if_neg h1,f];rfl
def Reach (t:Wo)(h:Int)(j:Nat):Prop:=∃n:Nat,(walk t.mask (W0 t.mask) (XH h%(t.mask+1)) (XH h))[n]?=some j/\∀k:Nat,k<n->∀a,(walk t.mask (W0 t.mask) (XH h%(t.mask+1)) (XH h))[k]?=some a->∃i,i<t.place.size/\t.place.getD i 0=a
theorem zar (t:Wo)(h:Int):t.probeStart h=Qa t.mask (XH h%(t.mask+1)) (XH h) none:=rfl
theorem zfH (t:Wo):∀n p,(steps t n p).dummy=p.dummy
 | 0,_=>rfl
 | n+1,p=>by
  rw[steps,zfH t n];unfold P1;split<;>rfl
theorem zfI {t:Wo}(U:Up t.place)(VE:Nat->Int){h:Int}{i:Nat}(D:i<t.place.size)(A:VE i=h)(one:∀e,e<t.place.size->VE e=h->e=i)(R:Reach t h (t.place.getD i 0)):∃w,t.probe VE h (t.probeStart h)=some (.candidate (t.place.getD i 0) i w):=by
 obtain⟨n,z,hk⟩:=R;have y:=(XZ.mp z).1;have L:=zck t.mask (W0 t.mask) (XH h%(t.mask+1)) (XH h);have v:∀m:Nat,m<=n->(∀k,k<m->∃e,t.slot (steps t k (t.probeStart h)).j=.live e/\(VE e==h)=false)\/∃f,f<m/\(∀k,k<f->∃e,t.slot (steps t k (t.probeStart h)).j=.live e/\(VE e==h)=false)/\t.slot (steps t f (t.probeStart h)).j=.live i/\(steps t f (t.probeStart h)).j=t.place.getD i 0:=fun m=>by
  induction m with
  | zero=>exact fun _=>.inl fun k hk=>absurd hk (Tn _)
  | succ m J =>
   intro G;rcases J (by lia) with h1 | ⟨f,a,b⟩
   ·have I:∃r,(walk t.mask (W0 t.mask) (XH h%(t.mask+1)) (XH h))[m]?=some r:=⟨_,X7 (by lia)⟩;obtain⟨r,q⟩:=I;obtain⟨e,p,l⟩:=hk m (by lia) r q;have g:(steps t m (t.probeStart h)).j=r:=by
     rw[zar];exact JN t _ _ _ none m r q
    have s:t.slot (steps t m (t.probeStart h)).j=.live e:=by
     rw[g,<- l];exact Zv U p
    by_cases he:VE e=h
    ·have:=one e p he;subst this;exact .inr ⟨m,by lia,h1,s,by rw[g,l]⟩
    ·refine .inl fun k E=>?_;by_cases u:k=m
     ·subst u;exact⟨e,s,by simpa using he⟩
     ·exact h1 k (by lia)
   ·exact .inr ⟨f,by lia,b⟩
 have o:∀m:Nat,m<10*W0 t.mask->(∀k,k<m->∃e,t.slot (steps t k (t.probeStart h)).j=.live e/\(VE e==h)=false)->t.slot (steps t m (t.probeStart h)).j=.live i->(steps t m (t.probeStart h)).j=t.place.getD i 0->∃w,t.probe VE h (t.probeStart h)=some (.candidate (t.place.getD i 0) i w):=fun m G H s g=>by
  unfold SetTable.probe;rw[zeP t VE h m _ _ H (by lia)];obtain⟨x,B⟩:∃x,10*W0 t.mask-m=x+1:=⟨10*W0 t.mask-m-1,by lia⟩;rw[B,T4,s];simp only[];rw[if_pos (by simpa using A),g];exact⟨_,rfl⟩
 rcases v n (XV _) with h1 | ⟨f,a,b,c,d⟩
 ·have g:(steps t n (t.probeStart h)).j=t.place.getD i 0:=by
   rw[zar];exact JN t _ _ _ none n _ z
  exact o n (by lia) h1 (by rw[g];exact Zv U D) g
 ·exact o f (by lia) b c d
theorem zeQ {t:Wo}(U:Up t.place)(z:t.dummies=#[])(VE:Nat->Int){h:Int}(H:∀i,i<t.place.size->VE i≠h){e:Nat}(he:∀i,i<t.place.size->t.place.getD i 0≠e)(D:e∈walk t.mask (W0 t.mask) (XH h%(t.mask+1)) (XH h)) :
  ∃j,t.probe VE h (t.probeStart h)=some (.empty j none)/\t.slot j=.empty/\Reach t h j/\j∈walk t.mask (W0 t.mask) (XH h%(t.mask+1)) (XH h):=by
 obtain⟨N,u⟩:=Pj.mp D;have v:=(XZ.mp u).1;have L:=zck t.mask (W0 t.mask) (XH h%(t.mask+1)) (XH h);have r:∀m:Nat,m<=N+1->(∀k:Nat,k<m->∀f,(walk t.mask (W0 t.mask) (XH h%(t.mask+1)) (XH h))[k]?=some f->∃i,i<t.place.size/\t.place.getD i 0=f)\/∃g j:Nat,g<m/\(walk t.mask (W0 t.mask) (XH h%(t.mask+1)) (XH h))[g]?=some j/\t.slot j=.empty/\(∀k:Nat,k<g->∀f,(walk t.mask (W0 t.mask) (XH h%(t.mask+1)) (XH h))[k]?=some f->∃i,i<t.place.size/\t.place.getD i 0=f):=fun m=>by
  induction m with
  | zero=>exact fun _=>.inl fun k hk=>absurd hk (Tn _)
  | succ m E =>
   intro J;rcases E (by lia) with h1 | ⟨g,j,a,b⟩
   ·obtain⟨f,l⟩:∃f,(walk t.mask (W0 t.mask) (XH h%(t.mask+1)) (XH h))[m]?=some f:=⟨_,X7 (by lia)⟩;rcases slot_of U z f with ⟨i,o,p,_⟩ | ⟨I,_⟩
    ·refine .inl fun k A G n=>?_;by_cases q:k=m
     ·subst q;rw[l] at n;exact⟨i,o,by rw[p];exact Option.some.inj n⟩
     ·exact h1 k (by lia) G n
    ·exact .inr ⟨m,f,by lia,l,I,h1⟩
   ·exact .inr ⟨g,j,by lia,b⟩
 rcases r (N+1) (XV _) with h1 | ⟨g,j,a,b,c,d⟩
 ·obtain⟨i,o,p⟩:=h1 N (by lia) e u;exact absurd p (he i o)
 ·refine⟨j,?_,c,⟨g,b,d⟩,X4 b⟩;have x:(steps t g (t.probeStart h)).j=j:=by
   rw[zar];exact JN t _ _ _ none g j b
  have B:∀k,k<g->∃w,t.slot (steps t k (t.probeStart h)).j=.live w/\(VE w==h)=false:=fun k hk=>by
   obtain⟨f,l⟩:∃f,(walk t.mask (W0 t.mask) (XH h%(t.mask+1)) (XH h))[k]?=some f:=⟨_,X7 (by lia)⟩;obtain⟨i,o,p⟩:=d k hk f l;refine⟨i,?_,by simpa using H i o⟩;have:(steps t k (t.probeStart h)).j=f:=by
    rw[zar];exact JN t _ _ _ none k f l
   rw[this,<- p];exact Zv U o
  unfold SetTable.probe;rw[zeP t VE h g _ _ B (by lia)];obtain⟨s,y⟩:∃s,10*W0 t.mask-g=s+1:=⟨10*W0 t.mask-g-1,by lia⟩;rw[y,T4,x,c];simp only[zfH];rfl
def orb (m:Nat):Nat->Nat->Nat
 | 0,i=>i
 | n+1,i=>orb m n ((i*5+1)%m)
def zjj (m:Nat):Nat->Nat->List Nat
 | 0,_=>[]
 | n+1,i=>i::zjj m n ((i*5+1)%m)
theorem zcl (m:Nat):∀(n i e:Nat),e∈zjj m n i->∃k,k<n/\orb m k i=e
 | 0,_,_,h=>nomatch h
 | n+1,i,e,h=>by
  rcases XJ.mp h with rfl | h
  ·exact⟨0,SR _,rfl⟩
  ·obtain⟨k,hk,q⟩:=zcl m n _ e h;exact⟨k+1,by lia,q⟩
theorem zbT (m:Nat):∀a b i,orb m (a+b) i=orb m b (orb m a i)
 | 0,b,i=>by rw[V6];rfl
 | a+1,b,i=>by
  rw[show a+1+b=(a+b)+1 from by lia];exact zbT m a b _
theorem full {m:Nat}(h1:∀e,e<m->e∈zjj m m 0)(h2:orb m m 0=0){i e:Nat}(f:i<m)(he:e<m):∃k,k<m+1/\orb m k i=e:=by
 obtain⟨a,g,c⟩:=zcl m m 0 i (h1 i f);obtain⟨b,h,d⟩:=zcl m m 0 e (h1 e he);rcases SS b a with q | q
 ·refine⟨m-a+b,by lia,?_⟩;rw[<- c,<- zbT,show a+(m-a+b)=m+b from by lia,zbT,h2,d]
 ·refine⟨b-a,by lia,?_⟩;rw[<- c,<- zbT,show a+(b-a)=b from by lia,d]
theorem znz:(∀e,e<8->e∈zjj 8 8 0)/\orb 8 8 0=0:=by decide +kernel
theorem zkD:(∀e,e<32->e∈zjj 32 32 0)/\orb 32 32 0=0:=by decide +kernel
theorem zii:(∀e,e<128->e∈zjj 128 128 0)/\orb 128 128 0=0:=by decide +kernel
def Zw (a:Nat):Nat->Nat->Nat->Nat×Nat
 | 0,i,p=>(i,p)
 | n+1,i,p=>Zw a n (Vn a i p).1 (Vn a i p).2
theorem zdQ (c:Nat):∀a b i p,Zw c (a+b) i p=Zw c b (Zw c a i p).1 (Zw c a i p).2
 | 0,b,i,p=>by rw[V6];rfl
 | a+1,b,i,p=>by
  rw[show a+1+b=(a+b)+1 from by lia];exact zdQ c a b _ _
theorem zij (a:Nat):∀n i p,(Zw a n i p).2=p/32^n
 | 0,i,p=>by rw[Nat.pow_zero,Nat.div_one];rfl
 | n+1,i,p=>by
  rw[Zw,zij a n];show p/32/32^n=_;rw[Nat.div_div_eq_div_mul,Us,SV]
theorem zfJ (a:Nat):∀n i p,i<a+1->(Zw a n i p).1<a+1
 | 0,i,p,h=>h
 | n+1,i,p,h=>zfJ a n _ _ (Sk _ (SR _))
theorem zdR (a:Nat):∀n i,(Zw a n i 0).1=orb (a+1) n i
 | 0,_=>rfl
 | n+1,i=>by
  have b:(Vn a i 0).1=(i*5+1)%(a+1):=rfl;have c:(Vn a i 0).2=0:=rfl;rw[Zw,b,c];exact zdR a n _
theorem head_mem (a:Nat):∀(f n i p:Nat),n<f->(Zw a n i p).1∈walk a f i p
 | 0,_,_,_,h=>absurd h (Tn _)
 | f+1,0,i,p,_=>by
  rw[walk];refine WW _ ?_;unfold run;refine Xv.mpr ⟨0,Xf.mpr ?_,by rfl⟩;have:=za3 a i;lia
 | f+1,n+1,i,p,h=>by
  rw[walk];exact XD _ (head_mem a f n _ _ (by lia))
theorem zfK {a:Nat}(g:a=7\/a=31\/a=127)(h:Int){e:Nat}(he:e<a+1):e∈walk a (W0 a) (XH h%(a+1)) (XH h):=by
 have f:XH h<2^64:=by
  unfold XH;have h1:=UW h (show (2^64:Int)≠0 by decide);have h2:=U5 h (show (0:Int)<2^64 by decide);lia
 have i:(Zw a 13 (XH h%(a+1)) (XH h)).2=0:=by
  rw[zij];exact Nat.div_eq_of_lt (RR f (by decide))
 have b:=zfJ a 13 (XH h%(a+1)) (XH h) (Sk _ (SR _));obtain⟨k,hk,d⟩:∃k,k<a+1+1/\orb (a+1) k (Zw a 13 (XH h%(a+1)) (XH h)).1=e:=by
  rcases g with rfl | rfl | rfl
  ·exact full znz.1 znz.2 b he
  ·exact full zkD.1 zkD.2 b he
  ·exact full zii.1 zii.2 b he
 have c:=head_mem a (W0 a) (13+k) (XH h%(a+1)) (XH h) (by unfold W0;lia);rw[zdQ,i,zdR,d] at c;exact c
theorem YH {α:Type}(xs:Array α){p:Nat}(x:α):(Xd xs p x).toList=xs.toList.take p++x::xs.toList.drop p:=by
 unfold Xd;simp;rw[Wt (by rw[VJ,X2];lia)]
theorem zkE {α:Type}(xs:Array α){p:Nat}(b:p<=xs.size)(x:α)(i:Nat):(Xd xs p x)[i]?=if i<p then xs[i]? else if i=p then some x else xs[i-1]?:=by
 have a:(xs.toList.take p).length=p:=by
  rw[XE,X2];lia
 rw[<- Xq,YH];by_cases h1:i<p
 ·rw[if_pos h1,V8 (by lia),Re h1,Xq]
 ·rw[if_neg h1,VU (by lia),a];by_cases h2:i=p
  ·rw[if_pos h2,h2,SU];rfl
  ·rw[if_neg h2,show i-p=(i-p-1)+1 from by lia,PU,Td,Xq];congr 1;lia
theorem jO {α:Type}(xs:Array α){p:Nat}(a:p<=xs.size)(x:α):(Xd xs p x).size=xs.size+1:=by
 rw[<- X2,YH,XW,Xr,XE,VJ,X2];lia
theorem Zx (xs:Array Nat){p:Nat}(a:p<=xs.size)(x i:Nat)(b:i<xs.size+1):(Xd xs p x).getD i 0=if i<p then xs.getD i 0 else if i=p then x else xs.getD (i-1) 0:=by
 have h:=zkE xs a x i;rw[JO (by rw[jO xs a x];exact b)] at h;by_cases h1:i<p
 ·rw[if_pos h1] at h ⊢;rw[JO (by lia)] at h;exact Option.some.inj h
 ·rw[if_neg h1] at h ⊢;by_cases h2:i=p
  ·rw[if_pos h2] at h ⊢;exact Option.some.inj h
  ·rw[if_neg h2] at h ⊢;rw[JO (by lia)] at h;exact Option.some.inj h
theorem zkF {t:Wo}(U:Up t.place)(m:t.dummies=#[]){j:Nat}(he:∀i,i<t.place.size->t.place.getD i 0≠j):(t.put j).2=Xu t.place j/\(t.put j).1={ t with place:=Xd t.place (Xu t.place j) j }/\Up (Xd t.place (Xu t.place j) j):=by
 have b:=Zu U j;refine⟨rfl,?_,fun a c g k=>?_⟩
 ·unfold SetTable.put;simp only[m];rfl
 ·rw[jO _ b.1] at k;rw[Zx _ b.1 _ _ (by lia),Zx _ b.1 _ _ k];have lo:∀i,i<Xu t.place j->t.place.getD i 0<j:=b.2.1;have l:∀i,Xu t.place j<=i->i<t.place.size->j<t.place.getD i 0:=fun i h1 h2=>by
   have:=b.2.2 i h1 h2;have:=he i h2;lia
  by_cases d:a<Xu t.place j
  ·rw[if_pos d];by_cases e:c<Xu t.place j
   ·rw[if_pos e];exact U a c g (by lia)
   ·rw[if_neg e];by_cases f:c=Xu t.place j
    ·rw[if_pos f];exact lo a d
    ·rw[if_neg f];have h1:=lo a d;have h2:=l (c-1) (by lia) (by lia);lia
  ·have e:¬ c<Xu t.place j:=by lia
   have f:¬ c=Xu t.place j:=by lia
   rw[if_neg d,if_neg e,if_neg f];by_cases h:a=Xu t.place j
   ·rw[if_pos h];exact l (c-1) (by lia) (by lia)
   ·rw[if_neg h];exact U (a-1) (c-1) (by lia) (by lia)
theorem Reach.more {t t':Wo}(g:t'.mask=t.mask)(l:∀i,i<t.place.size->∃a,a<t'.place.size/\t'.place.getD a 0=t.place.getD i 0){h:Int}{j:Nat}(R:Reach t h j):Reach t' h j:=by
 obtain⟨n,h1,h2⟩:=R;unfold Reach;rw[g];refine⟨n,h1,fun k hk m d=>?_⟩;obtain⟨i,f,e⟩:=h2 k hk m d;obtain⟨a,c,b⟩:=l i f;exact⟨a,c,b.trans e⟩
theorem zkG {t:Wo}(U:Up t.place)(j:Nat):∀i,i<t.place.size->∃a,a<(Xd t.place (Xu t.place j) j).size/\(Xd t.place (Xu t.place j) j).getD a 0=t.place.getD i 0:=fun i c=>by
 have b:=Zu U j;by_cases h:i<Xu t.place j
 ·refine⟨i,by rw[jO _ b.1];lia,?_⟩;rw[Zx _ b.1 _ _ (by lia),if_pos h]
 ·refine⟨i+1,by rw[jO _ b.1];lia,?_⟩;rw[Zx _ b.1 _ _ (by lia),if_neg (by lia),if_neg (by lia),RG]
theorem zik (a:Nat)(owner:Array (Option Nat)):∀(f i p:Nat),SetTable.layClean.free a owner f i p=(walk a f i p).find? fun j=>(owner.getD j (some 0)).isNone
 | 0,_,_=>rfl
 | f+1,i,p=>by
  rw[SetTable.layClean.free,walk,List.find?_append];unfold run;rw[List.find?_map];have e:((fun j=>(owner.getD j (some 0)).isNone)∘fun x=>i+x)=fun k=>(owner.getD (i+k) (some 0)).isNone:=rfl;rw[e];cases h:(XC (VL a i+1-i)).find? fun k=>(owner.getD (i+k) (some 0)).isNone with
  | some k=>rfl
  | none =>
   simp only[Option.map_none,Option.none_or];exact zik a owner f _ _
structure Own (mask:Nat)(hs:List Int)(owner:Array (Option Nat))(k:Nat):Prop where
 sz:owner.size=mask+1
 few:(owner.toList.countP fun o=>o.isNone)+k=mask+1
 at_:∀i,i<k->∃j:Nat,owner[j]?=some (some i)/\∃n:Nat,(walk mask (W0 mask) (XH (hs.getD i 0)%(mask+1)) (XH (hs.getD i 0)))[n]?=some j/\∀m:Nat,m<n->∀j':Nat,(walk mask (W0 mask) (XH (hs.getD i 0)%(mask+1)) (XH (hs.getD i 0)))[m]?=some j'->∃o,owner[j']?=some (some o)
 lt:∀j i:Nat,owner[j]?=some (some i)->i<k
 inj:∀j j' i:Nat,owner[j]?=some (some i)->owner[j']?=some (some i)->j=j'
theorem Own.nil (a:Nat)(b:List Int):Own a b (Array.replicate (a+1) none) 0:=by
 refine⟨by simp,by rw[Array.toList_replicate,Pi];rfl,fun i h=>absurd h (Tn _),fun j i h=>?_,fun j c i h=>?_⟩
 ·rw[Rb] at h;split at h<;>cases h
 ·rw[Rb] at h;split at h<;>cases h
theorem count_set {l:List (Option Nat)}:∀{j:Nat} (k:Nat),l[j]?=some none->(l.set j (some k)).countP (fun o=>o.isNone)+1=l.countP fun o=>o.isNone:=by
 induction l with
 | nil=>exact fun _ h=>by simp at h
 | cons o r a =>
  intro j k h;cases j with
  | zero =>
   have:o=none:=by simpa using h
   subst this;simp[WT]
  | succ j =>
   have:=a k (by simpa using h);rw[List.set_cons_succ,WT,WT];lia
theorem zjk {l:List (Option Nat)}(h:0<l.countP fun o=>o.isNone):∃j:Nat,l[j]?=some none:=by
 obtain⟨o,c,b⟩:=List.countP_pos_iff.mp h;obtain⟨j,a⟩:=Pj.mp c;refine⟨j,?_⟩;rw[a];cases o with
 | none=>rfl
 | some _=>cases b
theorem getD_none {owner:Array (Option Nat)}{j:Nat}:(owner.getD j (some 0)).isNone=true↔owner[j]?=some none:=by
 by_cases h:j<owner.size
 ·have e:owner[j]?=some (owner.getD j (some 0)):=by simp[Th,h]
  rw[e];cases owner.getD j (some 0)<;>simp
 ·have e:owner.getD j (some 0)=some 0:=by simp[Th,h]
  rw[e,WF (by lia)];simp
theorem zeR (a:Nat):∀(f i p:Nat),i<a+1->∀j∈walk a f i p,j<a+1
 | 0,_,_,_,_,h=>nomatch h
 | f+1,i,p,c,j,h=>by
  rw[walk] at h;rcases XF.mp h with h | h
  ·unfold run at h;obtain⟨k,hk,rfl⟩:=Xv.mp h;have b:=Xf.mp hk;have:VL a i<=a:=by
    unfold VL;split<;>lia
   lia
  ·exact zeR a f _ _ (Sk _ (SR _)) j h
theorem Own.step {d:Nat}(J:d=7\/d=31\/d=127){g:List Int}{owner:Array (Option Nat)}{k:Nat}(O:Own d g owner k)(hk:k<d+1):∃j,SetTable.layClean.free d owner (W0 d) (XH (g.getD k 0)%(d+1)) (XH (g.getD k 0))=some j/\Own d g (owner.setIfInBounds j (some k)) (k+1):=by
 obtain⟨e,he⟩:=zjk (l:=owner.toList) (by have:=O.few;lia);rw[Xq] at he;have I:e<owner.size:=by
  rcases SS e owner.size with q | q
  ·exact q
  ·rw[WF q] at he;cases he
 have M:=zfK J (g.getD k 0) (e:=e) (by have:=O.sz;lia);rw[zik];cases A:(walk d (W0 d) (XH (g.getD k 0)%(d+1)) (XH (g.getD k 0))).find? fun j=>(owner.getD j (some 0)).isNone with
 | none =>
  have:=List.find?_eq_none.mp A e M;exact absurd (getD_none.mpr he) this
 | some j =>
  refine⟨j,rfl,?_⟩;have y:owner[j]?=some none:=getD_none.mp (List.find?_some (p:=fun j=>(owner.getD j (some 0)).isNone) A);have D:j<owner.size:=by
   rcases SS j owner.size with q | q
   ·exact q
   ·rw[WF q] at y;cases y
  have get:∀i:Nat,(owner.setIfInBounds j (some k))[i]?=if j=i then some (some k) else owner[i]?:=fun i=>by
   rw[Ud];by_cases h:j=i
   ·rw[if_pos h,if_pos h];simp[D]
   ·rw[if_neg h,if_neg h]
  have keep:∀(i o:Nat),owner[i]?=some (some o)->(owner.setIfInBounds j (some k))[i]?=some (some o):=fun i o h=>by
   rw[get,if_neg (fun z=>by rw[<- z,y] at h;cases h)];exact h
  refine⟨by rw[Ts];exact O.sz,?_,fun i Q=>?_,fun r i h=>?_,fun G H i h1 h2=>?_⟩
  ·rw[Rz];have:=count_set (l:=owner.toList) (j:=j) k (by rw[Xq];exact y);have:=O.few;lia
  ·by_cases B:i=k
   ·subst B;refine⟨j,by rw[get,if_pos rfl],?_⟩;obtain⟨_,as,bs,u,L⟩:=List.find?_eq_some_iff_append.mp A;refine⟨as.length,by rw[u];simp,fun m v r f=>?_⟩;rw[u,V8 v] at f;have s:=X4 f;have x:=L r s;have E:r∈walk d (W0 d) (XH (g.getD i 0)%(d+1)) (XH (g.getD i 0)):=by
     rw[u];exact WW _ s
    cases w:owner[r]? with
    | none =>
     have:=zeR d (W0 d) _ _ (Sk _ (SR _)) r E;rw[Vy.mpr ⟨by rw[O.sz];exact this,rfl⟩] at w;cases w
    | some o =>
     cases o with
     | none =>
      rw[getD_none.mpr w] at x;cases x
     | some o=>exact⟨o,keep r o w⟩
   ·obtain⟨N,a,n,b,c⟩:=O.at_ i (by lia);refine⟨N,keep _ _ a,n,b,fun m v r f=>?_⟩;obtain⟨o,w⟩:=c m v r f;exact⟨o,keep _ _ w⟩
  ·rw[get] at h;split at h
   ·have:k=i:=by simpa using h
    lia
   ·have:=O.lt r i h;lia
  ·rw[get] at h1 h2;split at h1<;>split at h2
   ·lia
   ·have:k=i:=by simpa using h1
    have:=O.lt H i h2;lia
   ·have:k=i:=by simpa using h2
    have:=O.lt G i h1;lia
   ·exact O.inj G H i h1 h2
theorem zfL {a:Nat}(i:a=7\/a=31\/a=127)(c:List Int)(p:c.length<=a+1):∀(l done:List Int) (owner:Array (Option Nat)),c=done++l->Own a c owner done.length ->
  ∃b,l.foldl (fun (f:Option (Array (Option Nat)×Nat)) h=>do
   let (owner,k) <- f
   let j <- SetTable.layClean.free a owner (W0 a) (XH h%(a+1)) (XH h)
   pure (owner.setIfInBounds j (some k),k+1)) (some (owner,done.length))=some (b,c.length)/\Own a c b c.length
 | [],done,owner,e,O=>by
  rw[Xc] at e;subst e;exact⟨owner,rfl,O⟩
 | h::r,done,owner,e,O=>by
  have o:c.getD done.length 0=h:=by
   rw[e];simp[List.getD]
  have d:done.length<a+1:=by
   have:c.length=done.length+(r.length+1):=by rw[e,XW,Xr]
   lia
  obtain⟨j,g,m⟩:=O.step i d;rw[o] at g;obtain⟨b,h1,h2⟩:=zfL i c p r (done++[h]) (owner.setIfInBounds j (some done.length)) (by rw[e,WY];rfl) (by rw[XW];exact m);refine⟨b,?_,h2⟩;rw[XW] at h1;rw[VT];have n:(do
   let (owner,k) <- (some (owner,done.length):Option (Array (Option Nat)×Nat))
   let j <- SetTable.layClean.free a owner (W0 a) (XH h%(a+1)) (XH h)
   pure (owner.setIfInBounds j (some k),k+1))=some (owner.setIfInBounds j (some done.length),done.length+1):=by
   show (SetTable.layClean.free a owner (W0 a) (XH h%(a+1)) (XH h)).bind _=_;rw[g];rfl
  rw[n];exact h1
theorem zox {b:Nat}(d:b=7\/b=31\/b=127)(a:Array Int)(c:a.size<=b+1):∃owner,SetTable.layClean b a=some owner/\Own b a.toList owner a.size:=by
 obtain⟨owner,h1,h2⟩:=zfL d a.toList (by rw[X2];exact c) a.toList [] _ rfl (Own.nil b _);rw[X2] at h1 h2;refine⟨owner,?_,h2⟩;unfold SetTable.layClean;rw[<- Array.foldl_toList];exact congrArg (Option.map (·.1)) h1
def qX (a:Nat)(owner:Array (Option Nat)):List (Nat×Nat):=(XC (a+1)).filterMap fun j=>(owner.getD j none).map (j,·)
theorem JP {c:Nat}{owner:Array (Option Nat)}(sz:owner.size=c+1){j i:Nat}:(j,i)∈qX c owner↔owner[j]?=some (some i):=by
 unfold qX;rw[Tf];constructor
 ·rintro⟨a,ha,h⟩;have d:a<owner.size:=by rw[sz];exact Xf.mp ha
  have e:owner[a]?=some (owner.getD a none):=by simp[Th,d]
  cases ho:owner.getD a none with
  | none =>
   rw[ho] at h;cases h
  | some b =>
   rw[ho] at h;have f:(a,b)=(j,i):=Option.some.inj h;cases f;rw[e,ho]
 ·intro h;have d:j<owner.size:=by
   rcases SS j owner.size with q | q
   ·exact q
   ·rw[WF q] at h;cases h
  have e:owner[j]?=some (owner.getD j none):=by simp[Th,d]
  refine⟨j,Xf.mpr (by rw[<- sz];exact d),?_⟩;rw[e] at h;rw[Option.some.inj h];rfl
theorem zil (c:Nat)(owner:Array (Option Nat)):(qX c owner).Pairwise fun a b=>a.1<b.1:=by
 unfold qX;rw[List.pairwise_filterMap];refine List.pairwise_lt_range.imp fun {a b} f x d y e=>?_;cases h1:owner.getD a none with
 | none=>rw[h1] at d;cases d
 | some p =>
  cases h2:owner.getD b none with
  | none=>rw[h2] at e;cases e
  | some q =>
   rw[h1] at d;rw[h2] at e;have g:(a,p)=x:=Option.some.inj d;have h:(b,q)=y:=Option.some.inj e;rw[<- g,<- h];exact f
theorem zjl {c:Nat}{s:List Int}{owner:Array (Option Nat)}{k:Nat}(O:Own c s owner k):((qX c owner).map (·.2)).Perm (XC k):=by
 have u:((qX c owner).map (·.2)).Nodup:=by
  refine VX.mpr ((zil c owner).imp_of_mem fun {a b} o p d e=>?_);obtain⟨f,g⟩:=a;obtain⟨h,m⟩:=b;have n:g=m:=e;subst n;have:=O.inj f h g ((JP O.sz).mp o) ((JP O.sz).mp p);have l:f<h:=d;lia
 refine(Vx u List.nodup_range).mpr fun i=>?_;rw[Xf,Xv];constructor
 ·rintro⟨⟨j,i'⟩,hm,rfl⟩;exact O.lt j _ ((JP O.sz).mp hm)
 ·intro q;obtain⟨j,r,_⟩:=O.at_ i q;exact⟨(j,i),(JP O.sz).mpr r,rfl⟩
theorem zmC {mask:Nat}(G:mask=7\/mask=31\/mask=127)(finger moves:Nat)(led plain:Bool)(e:Array Int)(E:e.size<=mask+1):∃place f,SetTable.laid mask finger moves led plain e=some ({ mask:=mask,place:=place,dummies:=#[],finger:=finger,led:=led,moves:=moves,plain:=plain },f) /\
  Up place/\place.size=e.size/\f.size=e.size/\f.toList.Perm (XC e.size)/\(∀i,i<place.size->place.getD i 0<mask+1) /\
  ∀i,i<place.size->Reach { mask:=mask,place:=place,dummies:=#[],finger:=finger,led:=led,moves:=moves,plain:=plain } (e.toList.getD (f.getD i 0) 0) (place.getD i 0):=by
 obtain⟨d,h1,O⟩:=zox G e E;have perm:=zjl O;have up:=zil mask d;have z:(qX mask d).length=e.size:=by
  have:=perm.length_eq;rw[Y1,W6] at this;exact this
 have p:∀i (h:i<(qX mask d).length),((qX mask d).map (·.1)).toArray.getD i 0=((qX mask d)[i]).1:=fun i h=>by
  simp[Th,h]
 have H:∀i (h:i<(qX mask d).length),((qX mask d).map (·.2)).toArray.getD i 0=((qX mask d)[i]).2:=fun i h=>by
  simp[Th,h]
 refine⟨((qX mask d).map (·.1)).toArray,((qX mask d).map (·.2)).toArray,?_,fun i j s D=>?_,by simp[z],by simp[z],perm,fun i r=>?_,fun i r=>?_⟩
 ·unfold SetTable.laid;rw[h1];rfl
 ·have m:j<(qX mask d).length:=by simpa using D
  rw[p i (by lia),p j m];exact Vs.mp up i j (by lia) m s
 ·have g:i<(qX mask d).length:=by simpa using r
  rw[p i g];have l:=TH g;have:=(JP O.sz (j:=(qX mask d)[i].1) (i:=(qX mask d)[i].2)).mp l;rw[<- O.sz];rcases SS (qX mask d)[i].1 d.size with q | q
  ·exact q
  ·rw[WF q] at this;cases this
 ·have g:i<(qX mask d).length:=by simpa using r
  rw[p i g,H i g];have l:=TH g;have v:=(JP O.sz (j:=(qX mask d)[i].1) (i:=(qX mask d)[i].2)).mp l;obtain⟨I,a,n,b,c⟩:=O.at_ _ (O.lt _ _ v);have A:=O.inj _ _ _ a v;rw[A] at b;refine⟨n,b,fun k hk y m=>?_⟩;obtain⟨o,u⟩:=c k hk y m;obtain⟨x,w,B⟩:=Tz ((JP O.sz).mpr u);refine⟨x,by simpa using w,?_⟩;show ((qX mask d).map (·.1)).toArray.getD x 0=y;rw[p x w,B]
structure Good (t:Wo)(hs:Array Int):Prop where
 mask:t.mask=7\/t.mask=31\/t.mask=127
 sz:t.place.size=hs.size
 dum:t.dummies=#[]
 up:Up t.place
 le:∀i,i<t.place.size->t.place.getD i 0<t.mask+1
 room:t.place.size*5<t.mask*3
 reach:∀i,i<t.place.size->Reach t (hs.toList.getD i 0) (t.place.getD i 0)
theorem Good.free {t:Wo}{r:Array Int}(G:Good t r):∃e,e<t.mask+1/\∀i,i<t.place.size->t.place.getD i 0≠e:=by
 refine Rx fun p=>?_;have all:∀e,e<t.mask+1->∃i,i<t.place.size/\t.place.getD i 0=e:=fun e he=>Rx fun h2=>p ⟨e,he,fun i c z=>h2 ⟨i,c,z⟩⟩;have y:=G.room;have f:∀e,e<t.mask+1->∃i,i<t.place.size/\e<=i:=fun e=>by
  induction e with
  | zero=>exact fun h=>let ⟨i,c,_⟩:=all 0 h;⟨i,c,W5 _⟩
  | succ e B =>
   intro h;obtain⟨i,c,n⟩:=all (e+1) h;obtain⟨A,o,j⟩:=all e (by lia);have cnt:∀d,d<=e+1->∃i,i<t.place.size/\t.place.getD i 0=d/\d<=i:=fun d=>by
    induction d with
    | zero=>exact fun _=>let ⟨i,c,he⟩:=all 0 (by lia);⟨i,c,he,W5 _⟩
    | succ d g =>
     intro w;obtain⟨a,l,v,D⟩:=g (by lia);obtain⟨b,m,k⟩:=all (d+1) (by lia);have:a<b:=by
      rcases Rp a b with q | q | q
      ·exact q
      ·subst q;lia
      ·have:=G.up b a q l;lia
     exact⟨b,m,k,by lia⟩
   obtain⟨x,s,_,u⟩:=cnt (e+1) (XV _);exact⟨x,s,u⟩
 obtain⟨i,c,E⟩:=f t.mask (by lia);lia
theorem Good.found {t:Wo}{a:Array Int}(G:Good t a)(VE:Nat->Int)(f:∀i,i<a.size->VE i=a.toList.getD i 0)(j:a.toList.Nodup){i:Nat}(c:i<a.size):∃l,t.probe VE (a.toList.getD i 0) (t.probeStart (a.toList.getD i 0))=some (.candidate (t.place.getD i 0) i l):=by
 have d:∀k (h:k<a.size),a.toList.getD k 0=a.toList[k]'(by rw[X2];exact h):=fun k h=>by
  rw[XA,X7 (by rw[X2];exact h)];rfl
 refine zfI G.up VE (by rw[G.sz];exact c) (f i c) (fun g b e=>?_) (G.reach i (by rw[G.sz];exact c));rw[G.sz] at b;rw[f g b,d g b,d i c] at e;exact(List.getElem_inj j).mp e
theorem Good.missed {t:Wo}{b:Array Int}(G:Good t b)(VE:Nat->Int)(g:∀i,i<b.size->VE i=b.toList.getD i 0){h:Int}(l:h ∉ b.toList):∃j,t.probe VE h (t.probeStart h)=some (.empty j none)/\j<t.mask+1/\(∀i,i<t.place.size->t.place.getD i 0≠j)/\Reach t h j:=by
 obtain⟨e,he,k⟩:=G.free;have c:∀i,i<t.place.size->VE i≠h:=fun i a z=>by
  rw[G.sz] at a;rw[g i a,XA,X7 (by rw[X2];exact a)] at z;have m:b.toList[i]'(by rw[X2];exact a)=h:=z;exact l (m ▸ TH _)
 obtain⟨j,h1,h2,d,f⟩:=zeQ G.up G.dum VE (h:=h) c k (zfK G.mask h he);refine⟨j,h1,zeR _ _ _ _ (Sk _ (SR _)) j f,fun i a z=>?_,d⟩;rw[<- z,Zv G.up a] at h2;cases h2
theorem Good.put {t:Wo}{c:Array Int}(G:Good t c){h:Int}{j:Nat}(o:j<t.mask+1)(he:∀i,i<t.place.size->t.place.getD i 0≠j)(R:Reach t h j)(e:(t.place.size+1)*5<t.mask*3):Good (t.put j).1 (Xd c (t.put j).2 h):=by
 obtain⟨n,m,U⟩:=zkF G.up G.dum he;have b:=Zu G.up j;rw[n,m];have bs:Xu t.place j<=c.size:=by rw[<- G.sz];exact b.1
 have d:∀i,(Xd c (Xu t.place j) h).toList.getD i 0=if i<Xu t.place j then c.toList.getD i 0 else if i=Xu t.place j then h else c.toList.getD (i-1) 0:=fun i=>by
  rw[XA,Xq,zkE c bs];split
  ·rw[XA,Xq]
  ·split
   ·rfl
   ·rw[XA,Xq]
 have more:∀{g:Int} {k:Nat},Reach t g k->Reach { t with place:=Xd t.place (Xu t.place j) j } g k:=fun l=>Reach.more (t:=t) (t':={ t with place:=Xd t.place (Xu t.place j) j }) rfl (zkG G.up j) l;refine⟨G.mask,?_,G.dum,U,fun i f=>?_,?_,fun i f=>?_⟩
 ·show (Xd t.place _ j).size=_;rw[jO _ b.1,jO _ bs,G.sz]
 ·have a:i<t.place.size+1:=by
   have:=f;rw[show ({ t with place:=Xd t.place (Xu t.place j) j }:Wo).place=Xd t.place (Xu t.place j) j from rfl,jO _ b.1] at this;exact this
  show (Xd t.place _ j).getD i 0<t.mask+1;rw[Zx _ b.1 _ _ a];split
  ·exact G.le i (by lia)
  ·split
   ·exact o
   ·exact G.le (i-1) (by lia)
 ·show (Xd t.place _ j).size*5<t.mask*3;rw[jO _ b.1];exact e
 ·have a:i<t.place.size+1:=by
   have:=f;rw[show ({ t with place:=Xd t.place (Xu t.place j) j }:Wo).place=Xd t.place (Xu t.place j) j from rfl,jO _ b.1] at this;exact this
  show Reach _ _ ((Xd t.place _ j).getD i 0);rw[d,Zx _ b.1 _ _ a];by_cases h1:i<Xu t.place j
  ·rw[if_pos h1,if_pos h1];exact more (G.reach i (by lia))
  ·rw[if_neg h1,if_neg h1];by_cases h2:i=Xu t.place j
   ·rw[if_pos h2,if_pos h2];exact more R
   ·rw[if_neg h2,if_neg h2];exact more (G.reach (i-1) (by lia))
theorem zg8 (t:Wo)(b:Array Int)(p:b.size=5\/b.size=19):∃t' a,t.relaid b (UB b.size)=some (t',a)/\a.size=b.size/\a.toList.Perm (XC b.size)/\t'.led=t.led/\t'.plain=t.plain/\t'.place.size=b.size/\Good t' (a.map fun i=>b.toList.getD i 0):=by
 have c:∀mask,(mask=7\/mask=31\/mask=127)->b.size<=mask+1->b.size*5<mask*3->Tc (UB b.size)-1=mask->∃t' a,t.relaid b (UB b.size)=some (t',a)/\a.size=b.size/\a.toList.Perm (XC b.size)/\t'.led=t.led/\t'.plain=t.plain/\t'.place.size=b.size/\Good t' (a.map fun i=>b.toList.getD i 0):=fun mask j o q k=>by
  obtain⟨place,a,h1,h2,d,g,l,m,n⟩:=zmC j t.finger (t.movedTo mask) t.led t.plain b o;refine⟨{ mask:=mask,place:=place,dummies:=#[],finger:=t.finger,led:=t.led,moves:=t.movedTo mask,plain:=t.plain },a,?_,g,l,rfl,rfl,d,j,?_,rfl,h2,m,?_,fun i h=>?_⟩
  ·unfold SetTable.relaid;rw[k];exact h1
  ·show place.size=_;rw[Vl,d,g]
  ·show place.size*5<mask*3;rw[d];exact q
  ·have f:i<a.size:=by
    have:i<place.size:=h;lia
   have e:(a.map fun i=>b.toList.getD i 0).toList.getD i 0=b.toList.getD (a.getD i 0) 0:=by
    rw[XA,Xq,Array.getElem?_map,JO f];rfl
   rw[e];exact n i h
 rcases p with e | e
 ·exact c 31 (.inr (.inl rfl)) (by lia) (by lia) (by rw[e];decide +kernel)
 ·exact c 127 (.inr (.inr rfl)) (by lia) (by lia) (by rw[e];decide +kernel)
end ST
namespace ST
def qu (a:Array (Int×X9))(ep:Nat)(t:Wo):Obj:={ cls:=.type "set",dict:=none,data:=.set a ep t }
def kP (p:Int×Int):List Key:=[.inl p.1,.inl p.2]
def InB (p:Int×Int):Prop:=(0<=p.1/\p.1<8)/\(0<=p.2/\p.2<8)
def hP (prog:Xg)(w:WQ)(p:Int×Int):Int:=(tk2 prog w).hash (kP p)
section
variable {prog:Xg}{w:WQ}{A:WH}{E:X9->X8->Prop}{s:X8}{a:Addr}{es:Array (Int×X9)}{ep:Nat}{t:Wo}
theorem zoy {p q:Int×Int}(x:InB p)(y:InB q)(e:hP prog w p=hP prog w q):p=q:=by
 obtain⟨a,b⟩:=p;obtain⟨f,g⟩:=q;obtain⟨⟨h,m⟩,n,o⟩:=x;obtain⟨⟨r,s⟩,u,v⟩:=y;simp only at h m n o r s u v;obtain⟨i,rfl⟩:∃i:Nat,a=i:=⟨a.toNat,by lia⟩;obtain⟨j,rfl⟩:∃i:Nat,b=i:=⟨b.toNat,by lia⟩;obtain⟨k,rfl⟩:∃i:Nat,f=i:=⟨f.toNat,by lia⟩;obtain⟨l,rfl⟩:∃i:Nat,g=i:=⟨g.toNat,by lia⟩;unfold hP kP at e;rw[zaq,zaq] at e;obtain⟨c,d⟩:=zkA (by lia) (by lia) (by lia) (by lia) e;rw[c,d]
theorem JQ {h:Heap}{x:Addr}{p:Int×Int}(h1:zD h (.ref x) p):(tk2 prog w).is h (kP p) x:=by
 obtain⟨b,o,n,t,u,e,a,c,d⟩:=h1;cases e;exact⟨o,#[.int p.1 t,.int p.2 u],n,a,c,d,.cons (zaV p.1 t) (.cons (zaV p.2 u) .nil)⟩
theorem Good.fits {a:Array Int}(G:Good t a):t.fits a.size=true:=by
 have h1:=G.sz;have h2:=G.room;unfold SetTable.fits OG;rw[G.dum,h1];simp;lia
theorem Good.odd {a:Array Int}(G:Good t a):t.gaveWay=false:=by
 unfold SetTable.gaveWay;rcases G.mask with e | e | e<;>rw[e]<;>rfl
theorem Jc {Q:Array (Int×X9)×Nat×Wo->X8->Prop}(b:s.heap.get? a=some (qu es ep t))(G:Good t (es.map (·.1)))(q:Q (es,ep,t) s):W8 (Xi prog w) A (setState a) Q E s:=by
 refine SF b rfl ?_ q;have:=G.fits;rwa [Vl] at this
theorem zeS (i:Nat)(a:i<(es.map (·.1)).size):(es[i]?.map (·.1)).getD 0=(es.map (·.1)).toList.getD i 0:=by
 rw[XA,Xq,Array.getElem?_map]
theorem zdq {n:Nat}{h:Int}{x:X9}{Q:SetFound->X8->Prop}(g:s.heap.get? a=some (qu es ep t))(G:Good t (es.map (·.1)))(k:h ∉ (es.map (·.1)).toList)
  (d:∀j,j<t.mask+1->(∀i,i<t.place.size->t.place.getD i 0≠j)->Reach t h j->Q (.free j false) s):W8 (Xi prog w) A (Rg a x h true (n+1) none) Q E s:=by
 obtain⟨j,e,h1,h2,c⟩:=G.missed (fun i=>(es[i]?.map (·.1)).getD 0) zeS k;rw[Rg];refine ZB (Jc g G ?_);dsimp only;rw[G.odd,if_neg XY];generalize f:t.probe _ h _=m;have b:m=some (.empty j none):=f.symm.trans e;subst b;exact XU (d j h1 h2 c)
theorem zdS {d:Nat}{x:Addr}{p:Int×Int}{Q:Bool->X8->Prop}(z:zD s.heap (.ref x) p)(q:Q false s):W8 (Xi prog w) A (SC 8 (.ref x)) Q E s:=by
 obtain⟨b,o,n,t,u,e,j,l,m⟩:=z;cases e;have y:s.TypeIs (.ref x) "tuple":=⟨o,j,l⟩;unfold SC;refine ZB (PD y ?_);dsimp only;rw[if_pos (by decide)];refine ZB (XU ?_);rw[if_neg (by decide)];refine ZB (wpAny_seqItems j m ?_);dsimp only;refine ZB ?_;rw[<- Array.forIn_toList];refine P0 _ (fun c r h=>r.1=none/\h=s/\∀v∈c,∃i t,v=Vw i t) _ ?_ ?_ _ _ ⟨rfl,rfl,fun v k=>?_⟩
 ·rintro v c r h ⟨f,rfl,a⟩;obtain⟨i,t,rfl⟩:=a v XS;rw[show SC 7 (Vw i t)=pure false by unfold SC;rfl];refine ZB (XU ?_);rw[if_neg XY];exact XU ⟨rfl,rfl,fun u g=>a u (XT _ g)⟩
 ·rintro⟨r1,r2⟩ h ⟨f,rfl,_⟩;simp only at f;subst f;exact XU q
 ·simp at k;rcases k with rfl | rfl
  ·exact⟨_,_,rfl⟩
  ·exact⟨_,_,rfl⟩
theorem zkH {x:Addr}{p:Int×Int}{l:List X9}{Q:Bool->X8->Prop}(i:zD s.heap (.ref x) p)(j:∀v∈l,∃b q,v=.ref b/\zD s.heap (.ref b) q)(q:Q false s):W8 (Xi prog w) A (searchCouldBeSeen (.ref x) l) Q E s:=by
 unfold searchCouldBeSeen;refine ZB ?_;refine P0 _ (fun c r g=>r.1=none/\g=s/\∀v∈c,∃b q,v=.ref b/\zD s.heap (.ref b) q) _ ?_ ?_ _ _ ⟨rfl,rfl,j⟩
 ·rintro v c r g ⟨f,rfl,a⟩;obtain⟨b,k,rfl,h⟩:=a v XS;dsimp only;split
  ·exact XU ⟨rfl,rfl,fun u e=>a u (XT _ e)⟩
  ·refine ZB ((tk2 prog w).quiet (JQ i) ?_);rw[if_neg (by decide)];refine ZB ((tk2 prog w).quiet (JQ h) ?_);rw[if_neg (by decide)];refine ZB (zdS (d:=0) i ?_);rw[if_neg XY];refine ZB (zdS (d:=0) h ?_);rw[if_neg XY];exact XU ⟨rfl,rfl,fun u e=>a u (XT _ e)⟩
 ·rintro⟨r1,r2⟩ g ⟨f,rfl,_⟩;simp only at f;subst f;exact XU q
theorem zkI {x:Addr}{p:Int×Int}{Q:Bool->X8->Prop}(y:zD s.heap (.ref x) p)(q:Q true s):W8 (Xi prog w) A (O9 8 (.ref x)) Q E s:=by
 obtain⟨b,o,n,t,u,e,h,k,l⟩:=y;cases e;have m:s.TypeIs (.ref x) "tuple":=⟨o,h,k⟩;unfold O9;refine ZB (Po m PySem.F.slot_tuple_hash.lookup ?_);dsimp only;refine ZB (wpAny_seqItems h l ?_);dsimp only[Option.getD];refine ZB ?_;rw[<- Array.forIn_toList];refine P0 _ (fun c r g=>r.1=none/\g=s/\∀v∈c,∃i t,v=Vw i t) _ ?_ ?_ _ _ ⟨rfl,rfl,fun v j=>?_⟩
 ·rintro v c r g ⟨d,rfl,a⟩;obtain⟨i,t,rfl⟩:=a v XS;rw[show O9 7 (Vw i t)=pure true by unfold O9;rfl];refine ZB (XU ?_);rw[if_neg (by decide)];exact XU ⟨rfl,rfl,fun u f=>a u (XT _ f)⟩
 ·rintro⟨r1,r2⟩ g ⟨d,rfl,_⟩;simp only at d;subst d;exact XU q
 ·simp at j;rcases j with rfl | rfl
  ·exact⟨_,_,rfl⟩
  ·exact⟨_,_,rfl⟩
theorem zeT {n:Nat}{h:Int}{x b:Addr}{p:Int×Int}{i:Nat}{Q:SetFound->X8->Prop}(l:A.units<Vi)(f:s.heap.get? a=some (qu es ep t))(G:Good t (es.map (·.1)))(z:(es.map (·.1)).toList.Nodup)
  (all:∀e∈es.toList,∃b q,e.2=Wx b/\zD s.heap (.ref b) q) (d:es[i]?=some (h,.ref b)) (g:zD s.heap (.ref x) p) (k:zD s.heap (.ref b) p)
  (j:Q (.there none) s):W8 (Xi prog w) A (Rg a (.ref x) h true (n+1) none) Q E s:=by
 have c:i<(es.map (·.1)).size:=by
  rw[Vl];exact(Vy.mp d).1
 have o:(es.map (·.1)).toList.getD i 0=h:=by
  rw[<- zeS i c,d];rfl
 obtain⟨B,e⟩:=G.found (fun i=>(es[i]?.map (·.1)).getD 0) zeS z c;rw[o] at e;rw[Rg];refine ZB (Jc f G ?_);dsimp only;rw[G.odd,if_neg XY];generalize u:t.probe _ h _=m;have r:m=some (.candidate (t.place.getD i 0) i B):=u.symm.trans e;subst r;dsimp only;have seen:∀v∈(es.filter (·.1==h)).toList.map (·.2),∃b q,v=Wx b/\zD s.heap (.ref b) q:=fun v y=>by
  obtain⟨e,he,rfl⟩:=Xv.mp y;rw[Array.toList_filter] at he;exact all e (XX.mp he).1
 rw[d];cases hl:t.led with
 | true =>
  rw[if_neg (by decide)];refine ZB (V1 ((tk2 prog w).eqBool l (JQ k) (JQ g) ?_));refine ZB (Jc f G ?_);dsimp only;rw[decide_eq_true rfl,if_pos (by decide)];exact XU j
 | false =>
  rw[if_pos (by decide)];refine ZB (zkH g seen ?_);rw[if_neg XY];refine ZB (V1 ((tk2 prog w).eqBool l (JQ k) (JQ g) ?_));refine ZB (Jc f G ?_);dsimp only;rw[decide_eq_true rfl,if_pos (by decide)];exact XU j
end
end ST
namespace ST
def zcm (f:Int×Int->Int)(q:Addr×(Int×Int)):Int×X9:=(f q.2,Wx q.1)
structure zdr (f:Int×Int->Int)(led:Bool)(h:Heap)(a:Addr)(ks:List (Addr×(Int×Int))):Prop where
 ex:∃es ep t,h.get? a=some (qu es ep t)/\es.toList=ks.map (zcm f)/\Good t (es.map (·.1))/\t.led=led/\t.plain=true
 nd:(ks.map (·.2)).Nodup
 cells:∀q∈ks,zD h (.ref q.1) q.2
 inb:∀q∈ks,InB q.2
theorem zD.up {h h':Heap}{x:Addr}{p:Int×Int}(H:zD h (.ref x) p){a:Addr}(j:VD a h h'){o:Obj}(i:h.get? a=some o)(g:o.cls=.type "set"):zD h' (.ref x) p:=by
 obtain⟨b,k,n,t,u,e,c,d,f⟩:=H;cases e;refine⟨x,k,n,t,u,rfl,?_,d,f⟩;rw[j.2 x fun z=>?_]
 ·exact c
 ·subst z;rw[i] at c;cases c;rw[g] at d;exact absurd d (by decide)
section
variable {prog:Xg}{w:WQ}{A:WH}{E:X9->X8->Prop}{s:X8}{a:Addr}{es:Array (Int×X9)}{ep:Nat}{t:Wo}{ks:List (Addr×(Int×Int))}{f:Int×Int->Int}{led:Bool}
theorem Z6 (he:es.toList=ks.map (zcm f)):(es.map (·.1)).toList=ks.map fun q=>f q.2:=by
 rw[U6,he,WM];rfl
theorem zjm (inj:∀p q,InB p->InB q->f p=f q->p=q)(b:(ks.map (·.2)).Nodup)(a:∀q∈ks,InB q.2):(ks.map fun q=>f q.2).Nodup:=by
 rw[W3,VX] at b ⊢;refine b.imp_of_mem fun {x y} c d h e=>h (inj _ _ (a x c) (a y d) e)
theorem zfM {b:Array (Int×X9)}{t':Wo}{Q:Unit->X8->Prop}(c:s.heap.get? a=some (qu es ep t))(d:b.size<=64)
  (q:∀h',VD a s.heap h'->h'.get? a=some (qu b (ep+1) t')->Q () { s with heap:=h' }):W8 (Xi prog w) A (storeSet a b t') Q E s:=by
 refine wpAny_storeSet_of (o:=qu es ep t) c rfl (q _ (UJ ..) ?_) (X6 d (by rw[TW];decide));have:=VP (Obj.putSet b t') c (by rw[putSet_of b t' (o:=qu es ep t) rfl];rfl);rw[putSet_of b t' (o:=qu es ep t) rfl] at this;exact this
theorem zfN {α:Type}(d:α)(xs:Array α):∀(l:List Nat),(∀i∈l,i<xs.size)->l.filterMap (fun i=>xs[i]?)=l.map fun i=>xs.toList.getD i d
 | [],_=>rfl
 | i::l,h=>by
  have a:=h i XS;rw[Vc,Xe,Vr a];dsimp only;rw[zfN d xs l fun j b=>h j (XT _ b)];congr 1;rw[XA,Xq,Vr a];rfl
theorem zeU {n:Nat}(a:n=5\/n=19):¬ Tc (UB n)>Xw:=by
 rw[TW];rcases a with rfl | rfl
 ·rw[show Tc (UB 5)=32 by decide +kernel];lia
 ·rw[show Tc (UB 19)=128 by decide +kernel];lia
theorem zkJ {Q:Unit->X8->Prop}(v:s.heap.get? a=some (qu es ep t))(G:t.fits es.size=true)(u:es.size=5\/es.size=19)(he:es.toList=ks.map (zcm f))
  (q:∀(h':Heap) (c:Array (Int×X9)) (t':Wo) (k:List (Addr×(Int×Int))),VD a s.heap h'->h'.get? a=some (qu c (ep+1) t')->c.toList=k.map (zcm f)->k.Perm ks->Good t' (c.map (·.1))->t'.led=t.led->t'.plain=t.plain->Q () { s with heap:=h' }):W8 (Xi prog w) A (setRelay a (UB es.size)) Q E s:=by
 have j:(es.map (·.1)).size=es.size:=Vl ..;obtain⟨t',b,p,r,l,x,y,z,B⟩:=zg8 t (es.map (·.1)) (by rw[j];exact u);rw[j] at p r l z;have d:∀i∈b.toList,i<es.size:=fun i h=>Xf.mp (l.mem_iff.mp h);have n:ks.length=es.size:=by
  rw[<- X2,he,Y1]
 have e:Addr×(Int×Int):=(0,(0,0));have m:(b.filterMap (es[·]?)).toList=(b.toList.map fun i=>ks.getD i e).map (zcm f):=by
  rw[Array.toList_filterMap,zfN (zcm f e) es b.toList d,WM];refine Xh fun i h=>?_;have h1:=d i h;show es.toList.getD i _=zcm f (ks.getD i e);rw[he,XA,Xl,XA,X7 (by lia),Uf,TK,TK]
 have g:(b.filterMap (es[·]?)).size=es.size:=by
  rw[<- X2,m,Y1,Y1,X2,r]
 unfold setRelay;refine ZB (SF (o:=qu es ep t) v rfl G ?_);dsimp only;rw[if_neg (zeU u),p];refine ZB ?_;show W8 (Xi prog w) A (do
  let c:=b.filterMap (es[·]?)
  if c.size != es.size then unsupported "internal:set-table-lost-an-element"
  pure (c,t')) _ _ _
 dsimp only;rw[g,if_neg (by simp)];refine XU ?_;dsimp only;refine zfM v (by rw[g];lia) fun h' h1 h2=>q h' _ t' _ h1 h2 m ?_ ?_ x y
 ·have:=l.map fun i=>ks.getD i e;rw[<- n,zg2] at this;exact this
 ·have D:(b.filterMap (es[·]?)).map (·.1)=b.map fun i=>(es.map (·.1)).toList.getD i 0:=by
   apply PZ.mp;rw[Z6 m,U6,WM];refine Xh fun i h=>?_;have h1:=d i h;show f (ks.getD i e).2=_;rw[Z6 he,XA,XA,Xl,X7 (by lia),Uf,TK,TK]
  rw[D];exact B
theorem zkK {n:Nat}{x:Addr}{p:Int×Int}{Q:Bool->X8->Prop}(inj:∀p q,InB p->InB q->f p=f q->p=q)(hu:A.units<Vi)(S:zdr f led s.heap a ks)(hx:zD s.heap (.ref x) p)(hb:InB p)(hn:p ∉ ks.map (·.2)->ks.length<63)
  (q:∀(b:Bool) (h':Heap) (d:List (Addr×(Int×Int))),VD a s.heap h'->zdr f led h' a d->(∀c,c∈d.map (·.2)↔c∈ks.map (·.2)\/c=p)->(∀c∈d,c∈ks\/c=(x,p))->Q b { s with heap:=h' }) :
  W8 (Xi prog w) A (setAddHashedIn a (.ref x) (f p) (n+1)) Q E s:=by
 obtain⟨⟨es,ep,t,I,he,G,hl,hp⟩,nd,hc,H⟩:=S;have aj:ks.length=es.size:=by
  rw[<- X2,he,Y1]
 generalize hh:f p=h;rw[setAddHashedIn];refine ZB (Jc I G ?_);dsimp only;rw[show byScan (.ref x) es=false by simp[byScan,Value.scannable],if_neg XY];by_cases hm:p∈ks.map (·.2)
 ·obtain⟨⟨b,p'⟩,hk,e⟩:=Xv.mp hm;simp only at e;subst e;obtain⟨i,hi,ei⟩:=Tz hk;have eg:es[i]?=some (h,.ref b):=by
   rw[<- Xq,he,Xl,X7 hi,ei,<- hh];rfl
  unfold setSearch;refine ZB (zeT (n:=99999) hu I G (by rw[Z6 he];exact zjm inj nd H) (fun e ac=>?_) eg hx (hc _ hk) ?_)
  ·rw[he] at ac;obtain⟨c,h1,rfl⟩:=Xv.mp ac;exact⟨c.1,c.2,rfl,hc c h1⟩
  ·refine XU (q false s.heap ks (Heap.SameBut.refl _ _) ⟨⟨es,ep,t,I,he,G,hl,hp⟩,nd,hc,H⟩ (fun c=>⟨.inl,fun z=>z.elim id fun z=>z ▸ hm⟩) fun c h1=>.inl h1)
 ·have ah:=hn hm;have no:h ∉ (es.map (·.1)).toList:=fun z=>by
   rw[Z6 he,<- hh] at z;obtain⟨c,h1,h2⟩:=Xv.mp z;exact hm (Xv.mpr ⟨c,h1,inj _ _ (H c h1) hb h2⟩)
  unfold setSearch;refine ZB (zdq (n:=99999) I G no fun j h1 h2 h3=>?_);dsimp only;refine ZB (Jc I G ?_);obtain⟨f1,f2,f3⟩:=zkF G.up G.dum h2;have g:t.place.size=es.size:=by rw[G.sz,Vl]
  have bs:Xu t.place j<=es.size:=by
   rw[<- g];exact(Zu G.up j).1
  generalize ai:Xu t.place j=pos at f1 f2 f3 bs;have o:(t.put j).1.plain=true:=by rw[f2];exact hp
  have B:(t.put j).1.led=led:=by rw[f2];exact hl
  have D:∃y,y=ks.take pos++(x,p)::ks.drop pos:=⟨_,rfl⟩;obtain⟨y,D⟩:=D;have ab:(Xd es pos (h,Wx x)).toList=y.map (zcm f):=by
   rw[YH,he,D,Xk,Xe,Tu,Rf];simp only[zcm,hh]
  have m:(Xd es pos (h,Wx x)).size=es.size+1:=jO _ bs _;have pm:y.Perm ((x,p)::ks):=by
   rw[D];refine List.perm_middle.trans (List.Perm.cons _ ?_);rw[Wy]
  have l:(t.put j).1.fits (Xd es pos (h,Wx x)).size=true:=by
   have hr:=G.room;have bp:pos<=t.place.size:=by rw[g];exact bs
   rw[m,f2];unfold SetTable.fits OG;simp only[G.dum,jO _ bp,g];rcases G.mask with e | e | e<;>simp[e]<;>rw[g,e] at hr<;>lia
  have aa:∀(h':Heap) (d:List (Addr×(Int×Int))) (k:Array (Int×X9)) (L:Nat) (J:Wo),VD a s.heap h'->h'.get? a=some (qu k L J)->k.toList=d.map (zcm f)->d.Perm ((x,p)::ks)->Good J (k.map (·.1))->J.led=led->J.plain=true->Q true { s with heap:=h' }:=by
   intro h' d k L J Y hg M u hG N U;have mem:∀c,c∈d↔c=(x,p)\/c∈ks:=fun c=>by rw[u.mem_iff,XJ]
   refine q true h' d Y ⟨⟨k,L,J,hg,M,hG,N,U⟩,?_,fun c r=>?_,fun c r=>?_⟩ (fun c=>?_) fun c r=>(mem c).mp r |>.symm
   ·rw[(u.map (·.2)).nodup_iff,Xe,VM];exact⟨hm,nd⟩
   ·rcases(mem c).mp r with rfl | z
    ·exact zD.up hx Y I rfl
    ·exact zD.up (hc c z) Y I rfl
   ·rcases(mem c).mp r with rfl | z
    ·exact hb
    ·exact H c z
   ·rw[(u.map (·.2)).mem_iff,Xe,XJ];exact Or.comm
  have eT:t.put j=((t.put j).1,pos):=by rw[<- f1]
  have fl:(t.put j).1.tooFull=decide ((es.size+1)*5 >= t.mask*3):=by
   have bp:pos<=t.place.size:=by rw[g];exact bs
   rw[f2];unfold SetTable.tooFull OG;simp only[G.dum,jO _ bp,g];rfl
  have gd:¬ (es.size+1)*5 >= t.mask*3->Good (t.put j).1 ((Xd es pos (h,Wx x)).map (·.1)):=fun hr=>by
   have:=G.put (h:=h) h1 h2 h3 (by rw[g];lia);rw[f1] at this;have e:(Xd es pos (h,Wx x)).map (·.1)=Xd (es.map (·.1)) pos h:=by
    apply PZ.mp;rw[U6,YH,YH,U6,Xk,Xe,Tu,Rf]
   rw[e];exact this
  have v:=G.room;have O:=G.mask;rw[g] at v;dsimp only;rw[eT];dsimp only;generalize t.put j=T at o B l fl gd;obtain⟨t1,p1⟩:=T;dsimp only at o B l fl gd ⊢;rw[o,if_pos rfl];refine ZB (zkI hx ?_);rw[if_pos rfl];refine ZB (zfM I (by rw[m];lia) fun h' Y hg=>?_);by_cases full:(es.size+1)*5 >= t.mask*3
  ·rw[fl,decide_eq_true full,if_pos (by decide)];rw[<- m];refine ZB (zkJ (s:={ s with heap:=h' }) hg l (by rw[m];rcases O with e | e | e<;>rw[e] at full v<;>lia) ab fun ae k J d ag af M u hG N U=>?_);exact XU (aa ae d k _ J (Y.trans ag) af M (u.trans pm) hG (N.trans B) (U.trans o))
  ·rw[fl,decide_eq_false full,if_neg (by decide)];exact XU (aa h' y _ _ t1 Y hg ab pm (gd full) B o)
theorem zkL {x:Addr}{p:Int×Int}{Q:Bool->X8->Prop}(e:A.units<Vi)(S:zdr (hP prog w) led s.heap a ks)(f:zD s.heap (.ref x) p)(h:InB p)(i:p ∉ ks.map (·.2)->ks.length<63)
  (q:∀(b:Bool) (h':Heap) (d:List (Addr×(Int×Int))),VD a s.heap h'->zdr (hP prog w) led h' a d->(∀c,c∈d.map (·.2)↔c∈ks.map (·.2)\/c=p)->(∀c∈d,c∈ks\/c=(x,p))->Q b { s with heap:=h',toks:=s.toks+3 }) :
  W8 (Xi prog w) A (setAdd a (.ref x)) Q E s:=by
 unfold setAdd;refine V1 (ZB ((tk2 prog w).pyHash e (JQ f) ?_));show W8 (Xi prog w) A (setAddHashed a (.ref x) (hP prog w p)) Q E { s with toks:=s.toks+3 };unfold setAddHashed;refine V1 ?_;exact zkK (n:=99999) (s:={ s with toks:=s.toks+3 }) (fun p q h1 h2 g=>zoy h1 h2 g) e S f h i q
end
end ST
namespace ST
theorem zim {α:Type}(next:Nat->Nat):∀(fuel k:Nat) (left:List α) (a:Array α),left.length=fuel->(pickOrder.go next fuel k left a).toList.Perm (a.toList++left)
 | 0,k,left,a,h=>by
  rw[Uy.mp h,Xc];exact List.Perm.refl _
 | fuel+1,k,left,a,h=>by
  have b:next k%left.length<left.length:=Sk _ (by lia)
  rw[pickOrder.go,X7 b];dsimp only;refine(zim next fuel (k+1) _ _ (by rw[List.length_eraseIdx_of_lt b];lia)).trans ?_;rw[SA,WY];refine Sr _ ?_;have e:left=left.take (next k%left.length)++left[next k%left.length]::left.drop (next k%left.length+1):=by
   rw[<- WB b,Wy]
  rw[List.eraseIdx_eq_take_drop_succ];have c:=@List.perm_middle _ left[next k%left.length] (left.take (next k%left.length)) (left.drop (next k%left.length+1));rw[<- e] at c;exact c.symm
theorem zjn {α:Type}(next:Nat->Nat)(xs:Array α):(P9 next xs).toList.Perm xs.toList:=by
 have h:=zim next xs.size 0 xs.toList #[] (by simp)
 rw[show (#[]:Array α).toList++xs.toList=xs.toList from rfl] at h;exact h
theorem yQ:Slot "set_iterator" "__next__" "set_iterator.__next__" :=
 .of (owner:="set_iterator") (n:="__next__") (by rw[RZ,Ua];kernel_rfl) (by decide +kernel) (by decide +kernel) (by decide +kernel) (.inl (by decide +kernel)) (by rw[O6];kernel_rfl)
theorem zas:N7 table "set_iterator.__next__"=some UU.«set_iterator.__next__»:=entryFor_of_tree (by kernel_rfl)
theorem zcn:Manifest.owners.lookup (String.ofList ['r','o','t','a','r','e','t','i','_','t','e','s'].reverse)=some Manifest.sig_set_iterator:=by kernel_rfl
theorem zbu (a:X9):argsOk "set_iterator.__next__" ⟨[a],[]⟩:=by
 unfold argsOk;rw[signature?_of (id:="set_iterator.__next__") (n:=['_','_','t','x','e','n','_','_']) (o:=['r','o','t','a','r','e','t','i','_','t','e','s']) (by kernel_rfl) zcn];kernel_rfl
theorem zeV:N7 table "set.__iter__"=some UU.«frozenset.__iter__»:=entryFor_alias (id':="frozenset.__iter__") (by kernel_rfl) rfl (by decide +kernel) (by kernel_rfl)
def zco (b i:Nat)(a:Addr)(n ep:Nat):Obj:={ cls:=.type "set_iterator",data:=.fields #[Ub b,Ub i,.ref a,Ub n,Ub ep] }
def slotAt (a:Bool)(t:Wo)(i:Nat):Nat:=if a then 0 else if i=0 then 0 else t.place.getD (i-1) 0+1
def Zy (w:WQ)(a:Addr)(ep:Nat)(b:Array (Int×X9)):Array (Int×X9):=if w.params.followText "set-order" then P9 (w.params.setOrder a ep) b else b
theorem zau (w:WQ)(a:Addr)(ep:Nat)(b:Array (Int×X9)):(Zy w a ep b).toList.Perm b.toList:=by
 unfold Zy;split
 ·exact zjn _ _
 ·exact List.Perm.refl _
section
variable {prog:Xg}{w:WQ}{A:WH}{E:X9->X8->Prop}{s:X8}{a:Addr}{es:Array (Int×X9)}{ep:Nat}{t:Wo}
theorem zeW {Q:Bool->X8->Prop}(q:Q (w.params.followText "set-order") s):W8 (Xi prog w) A setsByText Q E s:=by
 unfold setsByText;exact ZB (PY (XU q))
theorem below_at {t:Wo}(U:Up t.place){i:Nat}(d:i<=t.place.size):Xu t.place (slotAt false t i)=i:=by
 obtain⟨c,a,b⟩:=Zu U (slotAt false t i);unfold slotAt at *
 simp only[Wm,if_false] at *
 by_cases h0:i=0
 ·subst h0;rw[if_pos rfl] at *
  rcases Nat.eq_zero_or_pos (Xu t.place 0) with e | e
  ·exact e
  ·have:=a 0 e;lia
 ·rw[if_neg h0] at *
  rcases Rp (Xu t.place (t.place.getD (i-1) 0+1)) i with e | e | e
  ·have:=b (i-1) (by lia) (by lia);lia
  ·exact e
  ·have h1:=a i e;have h2:=U (i-1) i (by lia) (by lia);lia
theorem zin {i:Nat}{Q:Option (X9×Nat)->X8->Prop}(g:s.heap.get? a=some (qu es ep t))(G:Good t (es.map (·.1)))(f:t.led=!w.params.followText "set-order")(l:t.plain=true)(n:i<=es.size)
  (b:∀v,(Zy w a ep es)[i]?.map (·.2)=some v->Q (some (v,slotAt (w.params.followText "set-order") t (i+1))) s) (j:i=es.size->Q none s) :
  W8 (Xi prog w) A (setNext a (slotAt (w.params.followText "set-order") t i) i ep) Q E s:=by
 have m:t.place.size=es.size:=by rw[G.sz,Vl]
 have d:(Zy w a ep es).size=es.size:=by
  rw[<- X2,(zau w a ep es).length_eq,X2]
 unfold setNext;refine ZB (Jc g G ?_);dsimp only;refine ZB (zeW ?_);cases hb:w.params.followText "set-order" with
 | true =>
  rw[if_pos rfl];rw[hb] at b;rw[if_neg (by simp)];unfold setWalk;refine ZB (ZB (Jc g G ?_));dsimp only;refine ZB (zeW ?_);rw[hb,if_pos rfl];refine ZB (PY (XU (XU ?_)));have c:Zy w a ep es=P9 (w.params.setOrder a ep) es:=by
   unfold Zy;rw[hb,if_pos rfl]
  rw[c] at b d;show Q (Option.map _ (P9 (w.params.setOrder a ep) es)[i]?) s;by_cases h:i<es.size
  ·have e:(P9 (w.params.setOrder a ep) es)[i]?=some (P9 (w.params.setOrder a ep) es)[i]:=Vr (by lia);rw[e] at b ⊢;exact b _ rfl
  ·rw[WF (by lia)];exact j (by lia)
 | false =>
  rw[if_neg XY];rw[hb] at b f;have c:Zy w a ep es=es:=by
   unfold Zy;rw[hb,if_neg XY]
  rw[c] at b;split
  ·rename_i h;exact absurd h (by show ¬ ((!t.plain&&decide (es.size>1))=true);rw[l];exact XY)
  refine ZB ?_;show W8 _ _ (if (!t.led && !es.isEmpty)=true then unsupported "set:maker-not-led" else pure ()) _ _ _;rw[f,if_neg (by simp)];refine XU ?_;rw[below_at G.up (by lia)];by_cases h:i<es.size
  ·have e:es[i]?=some es[i]:=Vr h;have k:t.place[i]?=some (t.place.getD i 0):=JO (by lia);rw[e] at b ⊢;rw[k];refine XU (b _ rfl)
  ·rw[WF (by lia)];exact XU (j (by lia))
end
end ST
namespace ST
theorem zdT:Slot "set_iterator" "__iter__" "set_iterator.__iter__" :=
 .of (owner:="set_iterator") (n:="__iter__") (by rw[RZ,Ua];kernel_rfl) (by decide +kernel) (by decide +kernel) (by decide +kernel) (.inl (by decide +kernel)) (by rw[O6];kernel_rfl)
theorem zg9:N7 table "set_iterator.__iter__"=some UU.«dict_keyiterator.__iter__»:=entryFor_alias (id':="dict_keyiterator.__iter__") (by kernel_rfl) rfl (by decide +kernel) (by kernel_rfl)
theorem zjo (a:X9):argsOk "set_iterator.__iter__" ⟨[a],[]⟩:=by
 unfold argsOk;rw[signature?_of (id:="set_iterator.__iter__") (n:=['_','_','r','e','t','i','_','_']) (o:=['r','o','t','a','r','e','t','i','_','t','e','s']) (by kernel_rfl) zcn];kernel_rfl
section
variable {prog:Xg}{w:WQ}{A:WH}{E:X9->X8->Prop}{s:X8}{a I:Addr}{es:Array (Int×X9)}{ep:Nat}{t:Wo}
theorem zha {b i a n ep:Nat}(x y:Nat):Sb (·.setIfInBounds 1 (Ub y)) (Sb (·.setIfInBounds 0 (Ub x)) (zco b i a n ep))=zco x y a n ep:=rfl
theorem zmD {i:Nat}{Q:Option X9->X8->Prop}(b:s.heap.get? I=some (zco (slotAt (w.params.followText "set-order") t i) i a es.size ep))(d:s.heap.get? a=some (qu es ep t))(G:Good t (es.map (·.1)))(f:t.led=!w.params.followText "set-order")(g:t.plain=true)(e:i<es.size)
  (q:∀v h',(Zy w a ep es)[i]?.map (·.2)=some v->h'.get? I=some (zco (slotAt (w.params.followText "set-order") t (i+1)) (i+1) a es.size ep)->VD I s.heap h'->Q (some v) { s with heap:=h' }) :
  W8 (Xi prog w) A (RL (.ref I)) Q E s:=by
 have c:s.TypeIs (.ref I) "set_iterator":=⟨_,b,rfl⟩;unfold RL;refine ZB (Rh (PQ (name:=Str.ofString "__next__") c yQ (Uz yQ c zas ?_ (zbu _))));unfold UU.«set_iterator.__next__»;refine ZB (XU ?_);refine ZB (wpAny_fieldsOf b rfl ?_);dsimp only[Ub];refine ZB (RU (o:=qu es ep t) d rfl ?_ ?_)
 ·have:=G.fits;rwa [Vl] at this
 rw[if_neg (by simp)];show W8 _ _ (setNext a (slotAt (w.params.followText "set-order") t i) i ep >>= _) _ _ _;refine ZB (zin d G f g (SX e) (fun v h=>?_) fun z=>absurd z (by lia));dsimp only;refine ZB (O5 b rfl (by simp[zco]) ?_);have h1:=VP (Sb (·.setIfInBounds 0 (Ub ((slotAt (w.params.followText "set-order") t (i+1):Nat):Int)))) b rfl;refine ZB (O5 h1 rfl (by simp[zco,Sb]) ?_);have h2:=VP (Sb (·.setIfInBounds 1 (Ub ((i:Int)+1)))) h1 rfl;refine XU ⟨_,rfl,XU (q v _ h ?_ ((UJ ..).trans (UJ ..)))⟩;rw[show ((i:Int)+1)=((i+1:Nat):Int) by lia] at h2 ⊢;rw[zha] at h2;exact h2
theorem zoz {Q:Option X9->X8->Prop}(g:A.handled=none)(c:s.heap.get? I=some (zco (slotAt (w.params.followText "set-order") t es.size) es.size a es.size ep))(e:s.heap.get? a=some (qu es ep t))(G:Good t (es.map (·.1)))(h:t.led=!w.params.followText "set-order")(j:t.plain=true)
  (q:∀h',Heap.ExtBut I s.heap h'->Q none { s with heap:=h' }):W8 (Xi prog w) A (RL (.ref I)) Q E s:=by
 have d:s.TypeIs (.ref I) "set_iterator":=⟨_,c,rfl⟩;unfold RL;refine ZB (Rh (PQ (name:=Str.ofString "__next__") d yQ (Uz yQ d zas ?_ (zbu _))));unfold UU.«set_iterator.__next__»;refine ZB (XU ?_);refine ZB (wpAny_fieldsOf c rfl ?_);dsimp only[Ub];refine ZB (RU (o:=qu es ep t) e rfl ?_ ?_)
 ·have:=G.fits;rwa [Vl] at this
 rw[if_neg (by simp)];show W8 _ _ (setNext a (slotAt (w.params.followText "set-order") t es.size) es.size ep >>= _) _ _ _;refine ZB (zin e G h j (XV _) (fun v f=>?_) fun _=>?_)
 ·have i:(Zy w a ep es).size=es.size:=by
   rw[<- X2,(zau w a ep es).length_eq,X2]
  rw[WF (by lia)] at f;cases f
 dsimp only;refine ZB (O5 c rfl (by simp[zco]) ?_);refine ZB ?_;simp only[newExc,newTuple];refine ZB (VZ ?_ (by size_fits));refine ZB (m:=RK _ _) (Oh (a:=Uu) (by first | rfl | (simp only[RK];rfl)) ?_);refine VZ ?_ (by size_fits);simp only[raiseNew];refine ZB (wpAny_handled ?_);rw[show A.in1.handled=none from g];refine ZB (XU (wpAny_throw ?_));refine ZB (wpAny_isInstance (T:="StopIteration") (b:=true) ⟨_,W9 _ rfl,rfl⟩ isSubtype_stop ?_);exact XU (q _ (((UJ ..).extBut.push _).push _))
theorem zmE {b i n:Nat}{Q:X9->X8->Prop}(d:s.heap.get? I=some (zco b i a n ep))(q:Q (.ref I) s):W8 (Xi prog w) A (pyIter (.ref I)) Q E s:=by
 have c:s.TypeIs (.ref I) "set_iterator":=⟨_,d,rfl⟩;refine wpAny_pyIter_slot c zdT (Uz zdT c zg9 ?_ (zjo _));exact XU ⟨_,rfl,"set_iterator",_,c,yQ.lookup,q⟩
theorem walks (hh:A.handled=none)(hne:a≠I)(G:Good t (es.map (·.1)))(hl:t.led=!w.params.followText "set-order")(hp:t.plain=true) :
  Walks prog w A I [I,a] [I] es.size (fun i v=>(Zy w a ep es)[i]?.map (·.2)=some v) (fun i h=>h.get? I=some (zco (slotAt (w.params.followText "set-order") t i) i a es.size ep)/\h.get? a=some (qu es ep t)) where
 sub:=fun b hb=>by simp at hb;simp[hb]
 frame:=fun _ _ _ st hk=>⟨hk I (by simp) _ st.1,hk a (by simp) _ st.2⟩
 item:=fun i s Q E hi st hQ=>zmD st.1 st.2 G hl hp hi fun v h' hv h1 hs=>hQ v h' s.toks hv ⟨h1,(hs.2 a hne).trans st.2⟩ fun b o hb e=>(hs.2 b fun z=>hb (by simp[z])).trans e
 done:=fun s Q E st hQ=>zoz hh st.1 st.2 G hl hp fun h' he=>hQ h' s.toks fun b o hb e=>he b o (fun z=>hb (by simp[z])) e
 self:=fun _ _ _ _ st hQ=>zmE st.1 hQ
theorem zfO:splitId "set.__len__"=some ("set","__len__"):=by decide +kernel
theorem zfP {Q:List X9->X8->Prop}(hh:A.handled=none)(ho:s.heap.get? a=some (qu es ep t))(G:Good t (es.map (·.1)))(hl:t.led=!w.params.followText "set-order")(hp:t.plain=true)(hn:es.size<=64)
  (q:∀vs h' tk,vs.Perm (es.toList.map (·.2))->(∀b o,s.heap.get? b=some o->h'.get? b=some o)->s.heap.objs.size<=h'.objs.size->Q vs { s with heap:=h',toks:=tk }):W8 (Xi prog w) A (collect (.ref a)) Q E s:=by
 have g:a<s.heap.objs.size:=XO ho;unfold collect;refine ZB (wpAny_runValue (VS PySem.F.entry_proto_collect ?_));rw[Wb PySem.F.plain_proto_collect _];show W8 _ A.in1 (newList [] >>= fun l=>R8 (.builtin "list.__iadd__" ⟨[l,.ref a],[]⟩)) _ _ s;refine ZB (VZ ?_);refine XU ⟨UM PP _,VS PySem.F.entry_list_iadd ?_⟩;rw[Wb PP _];show W8 _ A.in1 (RN (.ref s.heap.objs.size) (.ref a) (.ref s.heap.objs.size)) _ _ _;generalize B:(s.heap.push { cls:=.type "list",data:=.seq ([]:List X9).toArray })=h1;have f:h1.get? a=some (qu es ep t):=by rw[<- B];exact X0 _ ho
 have J:h1.get? s.heap.objs.size=some { cls:=.type "list",data:=.seq #[] }:=by rw[<- B];exact W9 _ rfl
 have aa:∀b o,s.heap.get? b=some o->h1.get? b=some o:=fun b o e=>by rw[<- B];exact X0 _ e
 have H:h1.objs.size=s.heap.objs.size+1:=by rw[<- B];exact VN ..
 have M:Sc { s with heap:=h1 } (.ref a) "set":=⟨_,f,rfl⟩;have I:Ra (.ref s.heap.objs.size) (.ref a)=false:=by
  simp[Ra];exact UR g
 unfold RN;refine ZB (PD M ?_);rw[if_neg (by rw[I];decide)];have O:t.fits es.size=true:=by
  have:=G.fits;rwa [Vl] at this
 refine ZB (wpAny_pyIter_slot M Ph (Uz Ph M zeV ?_ (PySem.F.args_set_iter_1 _)));unfold UU.«frozenset.__iter__» Builtin.Frozenset.slot0 slotArgs;simp only[List.isEmpty_nil,Bool.not_true,Wm,↓reduceIte,bind_assoc,UX,bne_self_eq_false];unfold Builtin.Frozenset.addrOf Builtin.Frozenset.sizeOf;refine ZB (XU ?_);dsimp only;refine ZB (XU ?_);refine ZB (ZB (RU (s:={ s with heap:=h1 }) (o:=qu es ep t) f rfl O (XU ?_)));unfold setDrawn;refine ZB (ZB (SF (s:={ s with heap:=h1 }) (o:=qu es ep t) f rfl O ?_));dsimp only;refine ZB (zeW (XU ?_));split
 ·rename_i h;exact absurd h (by show ¬ ((!w.params.followText "set-order" && (!t.plain&&decide (es.size>1)))=true);rw[hp];simp)
 refine ZB (XU ?_);unfold setEpoch;refine ZB (ZB (SF (s:={ s with heap:=h1 }) (o:=qu es ep t) f rfl O (XU ?_)));unfold newFields;refine ZB (VZ ?_);generalize y:h1.push { cls:=.type "set_iterator",data:=.fields (List.toArray [Ub 0,Ub 0,Wx a,Ub ((es.size:Nat):Int),Ub ((ep:Nat):Int)]) }=h2;have x:h2.get? a=some (qu es ep t):=by rw[<- y];exact X0 _ f
 have r:h2.get? s.heap.objs.size=some { cls:=.type "list",data:=.seq #[] }:=by rw[<- y];exact X0 _ J
 have ab:∀b o,s.heap.get? b=some o->h2.get? b=some o:=fun b o e=>by rw[<- y];exact X0 _ (aa b o e)
 have n:h2.get? h1.objs.size=some (zco 0 0 a es.size ep):=by rw[<- y];exact W9 _ rfl
 have N:Sc { s with heap:=h2 } (.ref h1.objs.size) "set_iterator":=⟨_,n,rfl⟩;have k:Sc { s with heap:=h2 } (.ref a) "set":=⟨_,x,rfl⟩;refine XU ⟨_,rfl,"set_iterator",_,N,yQ.lookup,?_⟩;refine ZB (V1 ?_);unfold Builtin.List.listLengthHint;refine ZB (Po k PySem.F.slot_set_len.lookup ?_);dsimp only;rw[zfO];dsimp only;refine ZB (wpAny_isInstance (b:=true) k sub_set_self ?_);rw[if_neg (by decide)];show W8 _ _ (typeOf (Wx a) >>= _) _ _ _;refine ZB (PD k ?_);show W8 _ _ (pure false) _ _ _;refine XU ?_;show W8 _ A.in1 (rule "list.extend.makes-room" >>= fun _=>Builtin.List.listTouch (.ref s.heap.objs.size) >>= fun _=>R8 (.builtin "list.extend.loop" ⟨[.ref s.heap.objs.size,.ref h1.objs.size,.ref s.heap.objs.size],[]⟩)) _ _ _;refine ZB (Ut (ZB ?_));show W8 _ A.in1 (updateSeq s.heap.objs.size (·.push .none) >>= fun _=>updateSeq s.heap.objs.size (·.pop)) _ _ _;refine ZB (wpAny_updateSeq r rfl ?_);have u:=VP (Ve (·.push Uu)) r rfl;refine wpAny_updateSeq u rfl ?_;have v:=VP (Ve (·.pop)) u rfl;have j:∀b o,b≠s.heap.objs.size->h2.get? b=some o->((h2.update s.heap.objs.size (Ve (·.push Uu))).update s.heap.objs.size (Ve (·.pop))).get? b=some o :=
  fun b o m e=>(Uo _ _ (U9 m)).trans ((Uo _ _ (U9 m)).trans e)
 generalize (h2.update s.heap.objs.size (Ve (·.push Uu))).update s.heap.objs.size (Ve (·.pop))=h4 at v j;have Y:a≠h1.objs.size:=by
  rw[H];exact Xj (WR g)
 have L:s.heap.objs.size ∉ [h1.objs.size,a]:=by
  rw[H];simp only[XJ,Vp,or_false,not_or];exact⟨Xj (P7 _),UR g⟩
 have ae:slotAt (w.params.followText "set-order") t 0=0:=by
  unfold slotAt;split<;>rfl
 have af:(Zy w a ep es).size=es.size:=by
  rw[<- X2,(zau w a ep es).length_eq,X2]
 refine XU ⟨UM PySem.F.plain_extend_loop _,codeAny_extend_loopS ((walks (A:=A.in1) (prog:=prog) (ep:=ep) hh Y G hl hp).toS) (X6 hn (by rw[TW];decide)) _ L _ es.size 0 _ _ _ rfl (W5 _)
  ⟨by rw[ae];exact j _ _ (by rw[H];exact Vq _) n,j _ _ (Xj g) x⟩ v (ItemsOf.nil _) fun s' c c' D p d=>?_⟩
 show W8 _ A (load s.heap.objs.size >>= _) _ _ s';refine ZB (wpAny_load p ?_);obtain⟨h',g',d',ag,ac⟩:=s';have eg:g'=s.gens:=D.gens;have ed:d'=s.drawn:=D.drawn;have eo:ac=s.os:=D.os;subst eg;subst ed;subst eo;refine XU (q _ _ _ ?_ (fun b o e=>?_) (SX (XO p)))
 ·have e:c.toList=(Zy w a ep es).toList.map (·.2):=by
   refine T3 fun i=>?_;rw[Xq,Xl,Xq];by_cases hi:i<es.size
   ·have U:i<c.size:=by rw[d.1];exact hi
    have e1:c[i]?=some c[i]:=Vr U;rw[e1];exact(d.2 i _ e1).symm
   ·rw[WF (by rw[d.1];lia),WF (by lia)];rfl
  rw[e];exact(zau w a ep es).map _
 ·have m:b<s.heap.objs.size:=XO e;refine D.heap b o (fun z=>?_) (j b o (Xj m) (ab b o e));rcases XJ.mp z with z | z
  ·exact Wl _ (z ▸ m)
  ·have z':b=h1.objs.size:=by simpa using z
   rw[z',H] at m;exact absurd m (Nat.not_lt.mpr (Wd _))
end
end ST
open PySem PySem.Spec PyProof.Rows PySem.W
namespace ST
def zfQ (prog:Xg)(w:WQ)(d:Addr)(ks:List (Addr×(Int×Int))):HO:=.ext fun h=>∃a b t,h.get? d=some (qu a b t)/\a.toList=ks.map (zcm (hP prog w))/\Good t (a.map (·.1))/\t.led=(!w.params.followText "set-order")/\t.plain=true
section
variable {prog:Xg}{w:WQ}{A:WH}{R:Om->X8->Prop}{I:Addr}{fp wr:List Addr}{G:Array UF->Array UF->Prop}{n:Nat}{P:Nat->X9->Prop}{St:Nat->X8->Prop}{led:Bool}
theorem zkM {h0:Heap}(W:WalksS prog w A.in1 I fp wr G n P St)(D:Addr)(M:D ∉ fp)(ai:h0.get? D=none)(aq:∀b∈wr,h0.get? b=none)(ps:List (Int×Int))(Y:ps.length=n)(hu:A.units+1<Vi)
  (T:Addr->Int×Int->Prop) (hT:∀x p,T x p->zD h0 (.ref x) p) (ak:∀i v,P i v->∃x p,v=.ref x/\ps[i]?=some p/\T x p) (y:∀p∈ps,InB p) (ah:∀l:List (Int×Int),l.Nodup->(∀c∈l,c∈ps)->l.length<=63) :
  ∀(k i:Nat) (s:X8) (ks:List (Addr×(Int×Int))),n-i=k->i<=n->St i s->(∀b o,h0.get? b=some o->s.heap.get? b=some o)->zdr (hP prog w) led s.heap D ks->(∀c,c∈ks.map (·.2)↔c∈ps.take i)->(∀q∈ks,T q.1 q.2) ->
   (∀s' r,Moved (D::wr) G s s'->zdr (hP prog w) led s'.heap D r->(∀c,c∈r.map (·.2)↔c∈ps)->(∀q∈r,T q.1 q.2)->R (.ok (.ret .none)) s') ->
   T7 (Xi prog w) A (.builtin "set.update.loop" ⟨[.ref D,.ref I],[]⟩) R s:=by
 have aj:D ∉ wr:=fun h=>M (W.sub _ h);have more:∀b∈wr,b∈D::wr:=fun b y=>XT _ y;have d:∀{h:Heap} {x:Addr} {p:Int×Int},(∀b o,h0.get? b=some o->h.get? b=some o)->T x p->zD h (.ref x) p:=fun E hx=>by
  obtain⟨b,o,m,t,u,e,e1,e2,e3⟩:=hT _ _ hx;exact⟨b,o,m,t,u,e,E _ _ e1,e2,e3⟩
 have a:∀{s s':X8},Moved wr G s s'->(∀b o,h0.get? b=some o->s.heap.get? b=some o)->∀b o,h0.get? b=some o->s'.heap.get? b=some o:=fun j E b o e =>
  j.heap b o (fun y=>by
   rw[aq b y] at e;cases e) (E b o e)
 have f:∀{s s':X8} {ks:List (Addr×(Int×Int))},Moved wr G s s'->(∀b o,h0.get? b=some o->s'.heap.get? b=some o)->(∀q∈ks,T q.1 q.2)->zdr (hP prog w) led s.heap D ks->zdr (hP prog w) led s'.heap D ks :=
  fun j E hk ⟨⟨es,ep,t,e1,e2⟩,e3,_,e5⟩=>⟨⟨es,ep,t,j.heap D _ aj e1,e2⟩,e3,fun q hq=>d E (hk q hq),e5⟩
 intro k;induction k with
 | zero =>
  intro i s ks hk hi J E hS B g hR;have an:i=n:=by lia
  subst an;refine VS Tw ?_;rw[Wb Va _];show W8 _ A.in1 (RL (.ref I) >>= _) _ _ s;refine ZB (W.done s _ _ J fun s' j=>?_);refine XU (hR s' ks (j.mono more) (f j (a j E) g hS) (fun c=>?_) g);rw[B c,<- Y,Xz]
 | succ k ih =>
  intro i s ks hk hi J E hS B g hR;have aa:i<n:=by lia
  refine VS Tw ?_;rw[Wb Va _];show W8 _ A.in1 (RL (.ref I) >>= _) _ _ s;refine ZB (W.item i s _ _ aa J fun v s' al af j=>?_);obtain⟨x,p,rfl,hq,hx⟩:=ak i v al;have L:=a j E;have N:=f j L g hS;have ae:p∈ps:=X4 hq;have tk:ps.take (i+1)=ps.take i++[p]:=by
   rw[Xx,hq];rfl
  refine ZB (V1 (zkL (show A.in1.units<Vi from hu) N (d L hx) (y p ae) (fun ao=>?_) fun b h' r H am ac av=>?_))
  ·have:=ah (p::ks.map (·.2)) (VM.mpr ⟨ao,N.nd⟩) fun c hc=>by
    rcases XJ.mp hc with rfl | hc
    ·exact ae
    ·exact Wc ((B c).mp hc)
   rw[Xr,Y1] at this;lia
  have ar:∀b o,h0.get? b=some o->h'.get? b=some o:=fun b o e=>by
   rw[H.2 b (fun z=>by
    rw[z,ai] at e;cases e)]
   exact L b o e
  refine XU ⟨UM Va _,?_⟩;refine ih (i+1) _ r (by lia) aa (W.frame _ s' _ _ af (TJ _ _) fun b y o e=>?_) ar am (fun c=>?_) (fun q ap=>?_) fun au ag ab O U Q=>?_
  ·rw[H.2 b (fun z=>M (by rw[<- z];exact y))];exact e
  ·rw[ac c,B c,tk,XF,List.mem_singleton]
  ·rcases av q ap with z | z
   ·exact g q z
   ·rw[z];exact hx
  ·refine hR au ag (Moved.trans W.gtrans ((j.mono more).then_heap (TJ _ _) fun b o y e=>?_) ab) O U Q;rw[H.2 b (fun z=>y (by rw[z];exact XS))];exact e
end
section
variable {prog:Xg}{w:WQ}{A:WH}{E:X9->X8->Prop}{s:X8}
theorem zmF (a:X9){Q₁:X9->X8->Prop}(h:Q₁ (.ref s.heap.objs.size) { s with heap:=s.heap.push (qu #[] 0 (.fresh 0 0 (!w.params.followText "set-order"))) }) :
  T7 (Xi prog w) A (.call (.builtin "set.__new__") ⟨[.type "set",a],[]⟩) (wants Q₁ E) s:=by
 refine codeAny_of_tree ?_;show W8 _ A.in1 (do P8 "set.__new__" ⟨[.type "set",a],[]⟩;R8 (.builtin "set.__new__" ⟨[.type "set",a],[]⟩)) _ _ s;refine ZB (Oh (PySem.F.newCall_set_1 a) (XU ⟨UM Pg _,VS PySem.F.entry_set_new ?_⟩));rw[Wb Pg _];unfold UU.«set.__new__» Builtin.Frozenset.newClass;have b:=sub_set_self;obtain⟨c,g,d,e,os⟩:=s;dsimp only;wp_walk;refine PY (XU ?_);dsimp only;simp only[newObj];refine ZB (wpAny_alloc (XU ?_));exact XU h
theorem zhb (led:Bool):Good (.fresh 0 0 led) #[]:=⟨.inl rfl,rfl,rfl,fun i j _ h=>absurd h (by simp[SetTable.fresh]),fun i h=>absurd h (by simp[SetTable.fresh]),by simp[SetTable.fresh],fun i h=>absurd h (by simp[SetTable.fresh])⟩
end
end ST
namespace ST
section
variable {prog:Xg}{w:WQ}{A:WH}{E:X9->X8->Prop}{s:X8}
set_option maxHeartbeats 8000000 in
theorem zkN {l:Addr}{d:Array X9}{ps:List (Int×Int)}{T:Addr->Int×Int->Prop}{Q:X9->X8->Prop}(hh:A.handled=none)(hu:A.units+64<Vi)(hl:s.heap.IsList l d)(L:ps.length=d.size)
  (hT:∀x p,T x p->zD s.heap (.ref x) p) (ab:∀(i:Nat) (v:X9),d[i]?=some v->∃x p,v=Wx x/\ps[i]?=some p/\T x p) (hb:∀p∈ps,InB p) (aa:∀l:List (Int×Int),l.Nodup->(∀c∈l,c∈ps)->l.length<=63)
  (h:∀(h':Heap) (tk:Nat) (ks:List (Addr×(Int×Int))),(∀b o,s.heap.get? b=some o->h'.get? b=some o)->zdr (hP prog w) (!w.params.followText "set-order") h' s.heap.objs.size ks->(∀c,c∈ks.map (·.2)↔c∈ps)->(∀q∈ks,T q.1 q.2)->Q (.ref s.heap.objs.size) { s with heap:=h',toks:=tk }) :
  W8 (Xi prog w) A (call (.type "set") [.ref l]) Q E s:=by
 obtain⟨c,tl,al⟩:=PySem.F.called_set.mro;have ag:=PySem.F.called_set.made;have ao:=PySem.F.called_set.sub;refine wpAny_call (codeAny_of_tree ?_);show W8 _ _ (callAny (.type "set") _) _ _ _;refine XU ⟨Code.quiet_builtin _ (by decide +kernel),VS PySem.F.entry_type_call ?_⟩;rw[Around.under_plain (weight_type_call_type "set" [.ref l] []) rfl];have h1:=PySem.F.called_set.notType;have h2:=PySem.F.called_set.canCreate;have ar:=PySem.F.typeCall_set_1 (.ref l);repeat (any_goals (first | assumption | wp_step))
 refine SW (zmF (.ref l) (E:=E) (Q₁:=fun O j=>O=.ref s.heap.objs.size/\j={ s with heap:=s.heap.push (qu #[] 0 (.fresh 0 0 (!w.params.followText "set-order"))) }) ⟨rfl,rfl⟩) fun r j hr=>?_;cases r with
 | error e=>exact hr
 | ok fl =>
  cases fl with
  | ret O =>
   obtain⟨rfl,rfl⟩:=hr;generalize ak:(!w.params.followText "set-order")=led at h ⊢;have hS:(s.heap.push (qu #[] 0 (.fresh 0 0 led))).get? s.heap.objs.size=some (qu #[] 0 (.fresh 0 0 led)):=W9 _ rfl;have G:Sc { s with heap:=s.heap.push (qu #[] 0 (.fresh 0 0 led)) } (.ref s.heap.objs.size) "set":=⟨_,hS,rfl⟩;have au:=PySem.F.called_set.init.lookup;have aq:=PySem.F.called_set.init.bind (.ref s.heap.objs.size);repeat (any_goals (first | assumption | wp_step))
   refine SW (TQ (R:=wants (fun r k=>r=.none/\∃h' tk ks,k={ s with heap:=h',toks:=tk }/\zdr (hP prog w) led h' s.heap.objs.size ks/\(∀c,c∈ks.map (·.2)↔c∈ps)/\(∀q∈ks,T q.1 q.2) /\
     (∀b o,s.heap.get? b=some o->h'.get? b=some o)) E) PySem.F.called_set.init.plain PySem.F.entry_set_init (check_set_init_1 G ?_)) fun U k a=>?_
   ·obtain⟨ol,N,H,nl,I⟩:=hl;obtain⟨ap,D,ah,f⟩:=ol;simp only at H I;subst H;subst I;have g:(s.heap.push (qu #[] 0 (.fresh 0 0 led))).get? l=some { cls:=.type "list",dict:=D,data:=.seq d nl,slots:=f }:=X0 _ N;have an:=PySem.F.sub_list_set;have am:=PySem.F.sub_list_frozenset;have av:(PJ "list" == PJ "dict")=false:=by decide
    have y:(s.heap.push (qu #[] 0 (.fresh 0 0 led))).IsList l d:=⟨_,g,rfl,nl,rfl⟩;unfold UU.«set.__init__» noKeywords Builtin.Frozenset.updateFrom;unfold qu at hS G g y ⊢;generalize ac:pyIter=PI;wp_walk;subst ac;refine SJ y ?_;refine ZB (wpAny_runValue ?_);have J:l<s.heap.objs.size:=XO N;have zS:(s.heap.push (qu #[] 0 (.fresh 0 0 led))).objs.size=s.heap.objs.size+1:=VN ..;have M:l≠(s.heap.push (qu #[] 0 (.fresh 0 0 led))).objs.size:=by
     rw[zS];exact Xj (WR J)
    have ae:s.heap.objs.size ∉ [(s.heap.push (qu #[] 0 (.fresh 0 0 led))).objs.size,l]:=by
     rw[zS];simp only[XJ,Vp,or_false,not_or];exact⟨Xj (P7 _),UR J⟩
    refine zkM (h0:=s.heap) (led:=led) ((Walks.list (by simp[hh]) (s.heap.push (qu #[] 0 (.fresh 0 0 led))).objs.size l M d).toS) s.heap.objs.size ae (UP (XV _)) (fun b hb=>?_) ps L (by show A.units+1+1+1<Vi;lia) T hT ab hb aa (d.size-0) 0 _ [] rfl (W5 _)
     ⟨⟨_,W9 _ rfl,rfl,rfl⟩,(y.push _)⟩ (fun b o z=>X0 _ (X0 _ z)) ⟨⟨#[],0,.fresh 0 0 led,X0 _ hS,rfl,(by rw[Array.map_empty];exact zhb led),rfl,rfl⟩,SN,(fun q z=>nomatch z),(fun q z=>nomatch z)⟩ (fun c=>by simp) (fun q z=>nomatch z) ?_
    ·have e:b=(s.heap.push (qu #[] 0 (.fresh 0 0 led))).objs.size:=by simpa using hb
     rw[e,zS];exact UP (Wd _)
    ·intro s' ks Y n B u;obtain⟨h',g',d',aj,ai⟩:=s';have eg:g'=s.gens:=Y.gens;have ed:d'=s.drawn:=Y.drawn;have eo:ai=s.os:=Y.os;subst eg;subst ed;subst eo;show W8 _ _ _ _ _ _;refine XU ?_;show W8 _ _ (ret Uu) _ _ _;refine XU ⟨rfl,h',aj,ks,rfl,n,B,u,fun b o e=>?_⟩;have lt:=XO e;refine Y.heap b o (fun z=>?_) (X0 _ (X0 _ e));rcases XJ.mp z with z | z
     ·exact Wl _ (z ▸ lt)
     ·have z':b=(s.heap.push (qu #[] 0 (.fresh 0 0 led))).objs.size:=by simpa using z
      rw[z',zS] at lt;exact absurd lt (Nat.not_lt.mpr (Wd _))
   ·cases U with
    | error e=>exact a
    | ok m =>
     cases m with
     | ret r =>
      obtain⟨rfl,h',tk,ks,rfl,n,B,u,af⟩:=a;repeat (any_goals (first | assumption | wp_step))
      exact h _ _ _ af n B u
     | _=>exact a.elim
  | _=>exact hr.elim
end
end ST
namespace ST
theorem zcp {α q:Type}(f:α->q){l p:List q}(h:l.Perm p):∀ks:List α,p=ks.map f->∃g:List α,g.Perm ks/\l=g.map f:=by
 induction h with
 | nil=>exact fun ks e=>⟨ks,List.Perm.refl _,e⟩
 | cons x h s =>
  intro ks e;cases ks with
  | nil=>simp at e
  | cons k ks =>
   rw[Xe] at e;injection e with j i
   obtain⟨g,h1,h2⟩:=s ks i;exact⟨k::g,h1.cons k,by rw[Xe,j,h2]⟩
 | swap x y l =>
  intro ks e;match ks,e with
  | [],e=>simp at e
  | [k],e=>simp at e
  | k1::o::ks,e =>
   rw[Xe,Xe] at e;injection e with j i
   injection i with i r
   exact⟨o::k1::ks,List.Perm.swap k1 o ks,by rw[Xe,Xe,j,i,r]⟩
 | trans h1 h2 m n =>
  intro ks e;obtain⟨g,a,b⟩:=n ks e;obtain⟨is,c,d⟩:=m g b;exact⟨is,c.trans a,d⟩
section
variable {X:Cx}
theorem zjp (hu:X.A.units+64<Vi)(hh:X.A.handled=none):jY X (.type "set") (fun xs H Q=>∃l g ps,xs=[.ref l]/\SqL X.K H l g/\xu H g ps/\(∀p∈ps,InB p)/\(∀l:List (Int×Int),l.Nodup->(∀c∈l,c∈ps)->l.length<=63) /\
  ∀d ks,H d=none->(∀q∈ks,H q.1=some (.tup [.int q.2.1,.int q.2.2]))->(ks.map (·.2)).Nodup->(∀c,c∈ks.map (·.2)↔c∈ps)->Q (.ref d) (upd H d (zfQ X.prog X.w d ks))):=by
 intro M s σ H xs aa Q I r h;obtain⟨l,g,ps,rfl,hq,L,hb,z,q⟩:=h;obtain⟨u,rfl,ru⟩:=vals1 r;cases ru;obtain⟨b,N,pl,hz⟩:=I.list hq;have hp:=xu.pairs I L N;have B:b.length=ps.length:=Paired.length hp;have tw:∀{g:List V} {ps:List (Int×Int)} {b:List X9},xu H g ps->Vals g b->∀(i:Nat) (v:X9),b[i]?=some v->∃x p,v=Wx x/\ps[i]?=some p/\H x=some (.tup [.int p.1,.int p.2]):=by
  intro g ps b h1;induction h1 generalizing b with
  | nil =>
   intro r i v e;cases r;simp at e
  | cons a t ih =>
   intro r i v e;obtain⟨x,rfl,D⟩:=a;cases r with
   | cons r1 r2 =>
    cases r1;cases i with
    | zero =>
     simp at e;exact⟨x,_,e.symm,rfl,D⟩
    | succ i =>
     obtain⟨y,p,h1,h2,h3⟩:=ih r2 i v (by simpa using e);exact⟨y,p,h1,by simpa using h2,h3⟩
 refine zkN (T:=fun x p=>H x=some (.tup [.int p.1,.int p.2])) hh hu pl.isList (by simp[B]) (fun x p D=>?_) (fun i v e=>tw L N i v (by simpa using e)) hb z fun h' tk ks kk J hm hT=>?_
 ·obtain⟨E,G,tp,_⟩:=I.tuple (SqT.of D);obtain⟨u1,u2,rfl,⟨t1,rfl⟩,⟨t2,rfl⟩⟩:=vals2 G;obtain⟨ob,Y,O,n,U⟩:=tp;exact⟨x,ob,n,t1,t2,rfl,Y,O,U⟩
 ·have hD:H s.heap.objs.size=none:=I.hok.fresh (XV _);obtain⟨o,m,t,j,f⟩:=J.ex;refine⟨.ref s.heap.objs.size,upd H s.heap.objs.size (zfQ X.prog X.w s.heap.objs.size ks),I.laid (t':=tk) kk (XV _) ⟨⟨o,m,t,j,f⟩,⟨_,j⟩,fun h1 h2 ⟨o,m,t,j,f⟩ k=>⟨o,m,t,k _ j,f⟩⟩,rfl,q _ _ hD hT J.nd hm⟩
end
end ST
namespace GS
section
variable {prog:Xg}{w:WQ}{A:WH}{E:X9->X8->Prop}{s:X8}{rk:W4->Int}{κ:T0}{a0:Array W4}
def Rk (rk:W4->Int)(xs:Array W4)(i:Nat):Int:=match xs[i]? with
 | some p=>rk p
 | none=>0
theorem JR {xs ys:Array W4}{i j:Nat}(h:xs[i]?=ys[j]?):Rk rk xs i=Rk rk ys j:=by
 unfold Rk;rw[h]
def Up (rk:W4->Int)(xs:Array W4)(lo a:Nat):Prop:=∀i j,lo<=i->i<=j->j<a->Rk rk xs i<=Rk rk xs j
def Tells (prog:Xg)(w:WQ)(A:WH)(s:X8)(κ:T0)(rk:W4->Int)(a0:Array W4):Prop :=
 ∀x∈a0.toList,∀y∈a0.toList,∀C:Bool->X8->Prop,C (decide (rk x<rk y)) s->W8 (Xi prog w) A (keyLt' κ x.1 y.1) C (fun _ _=>False) s
structure Ok (κ:T0)(a0:Array W4)(st:WK):Prop where
 perm:(Xn st).Perm a0
 kind:kindOf st=κ
 good:SY st=none
theorem Ok.size {st:WK}(h:Ok κ a0 st):(Xn st).size=a0.size:=h.perm.size_eq
theorem Ok.at {st:WK}(h:Ok κ a0 st){i:Nat}(b:i<a0.size):∃x,(Xn st)[i]?=some x/\x∈a0.toList/\Rk rk (Xn st) i=rk x:=by
 have a:i<(Xn st).size:=by rw[h.size];exact b
 have e:(Xn st)[i]?=some (Xn st)[i]:=getElem?_pos _ i a;refine⟨(Xn st)[i],e,(U3.mp h.perm).mem_iff.mp (by simp),?_⟩;unfold Rk;rw[e]
theorem zkO {st:WK}{x y:W4}{Q:Option Bool->WK->Prop}(T:Tells prog w A s κ rk a0)(hk:kindOf st=κ)(e:x∈a0.toList)(f:y∈a0.toList)(h:Q (some (decide (rk x<rk y))) st):wpS (Xi prog w) A E s (lt' x y) Q st:=by
 rw[lt'_eq];refine XG (Se ?_);rw[hk];refine XG (Qr (Rh (Ww (T x e y f (fun b c=>c=s/\b=decide (rk x<rk y)) ⟨rfl,rfl⟩) (fun b c a=>⟨a.1,?_⟩) fun _ _ d=>d.elim)));rw[a.2];exact Xp h
theorem je {st:WK}{xs:Array W4}{i:Nat}{x:W4}{Q:W4->WK->Prop}(e:xs[i]?=some x)(h:Q x st):wpS (Xi prog w) A E s (elem' xs i) Q st:=by
 rw[elem'_eq,e];exact Xp h
theorem zcq {st:WK}{i j:Nat}{Q:Option Bool->WK->Prop}(T:Tells prog w A s κ rk a0)(O:Ok κ a0 st)(c:i<a0.size)(d:j<a0.size)(h:Q (some (decide (Rk rk (Xn st) i<Rk rk (Xn st) j))) st):wpS (Xi prog w) A E s (ltAt' i j) Q st:=by
 obtain⟨x,a,e,g⟩:=O.at (rk:=rk) c;obtain⟨y,b,f,k⟩:=O.at (rk:=rk) d;rw[g,k] at h;rw[ltAt'_eq];refine XG (Se ?_);exact XG (je a (XG (je b (zkO T O.kind e f h))))
structure Step (κ:T0)(a0:Array W4)(lo:Nat)(st st':WK):Prop where
 ok:Ok κ a0 st'
 pend:WJ st'=WJ st
 low:∀i:Nat,i<lo->(Xn st')[i]?=(Xn st)[i]?
theorem Step.refl {lo:Nat}{st:WK}(O:Ok κ a0 st):Step κ a0 lo st st:=⟨O,rfl,fun _ _=>rfl⟩
theorem za4 {xs:Array W4}{i j:Nat}(a:j<=xs.size)(k:Nat):Rk rk (mirror xs i j ((j-i)/2)) k=if i<=k/\k<j then Rk rk xs (i+j-1-k) else Rk rk xs k:=by
 have e:=OM (i:=i) a k;by_cases h1:i<=k/\k<j
 ·rw[if_pos h1] at e ⊢;exact JR e
 ·rw[if_neg h1] at e ⊢;exact JR e
theorem j7 {xs:Array W4}{i j:Nat}(b:j<=xs.size)(a:∀k,i<=k->k<j->Rk rk xs k=Rk rk xs (j-1))(k:Nat):Rk rk (mirror xs i j ((j-i)/2)) k=Rk rk xs k:=by
 rw[za4 b];split
 ·rw[a _ (by lia) (by lia),a k (by lia) (by lia)]
 ·rfl
theorem Step.mirror {lo i j:Nat}{st a:WK}(x:Step κ a0 lo st a)(c:lo<=i)(b:j<=a0.size):Step κ a0 lo st (setArr a (mirror (Xn a) i j ((j-i)/2))):=by
 refine⟨⟨(mirror_perm _ _ _ _).trans x.ok.perm,x.ok.kind,x.ok.good⟩,x.pend,fun k hk=>?_⟩;show (PyProof.Rows.mirror (Xn a) i j ((j-i)/2))[k]?=_;rw[OM (by rw[x.ok.size];exact b),if_neg (by lia)];exact x.low k hk
theorem zio {st:WK}{i j:Nat}{Q:Unit->WK->Prop}(h:Q () (setArr st (mirror (Xn st) i j ((j-i)/2)))):wpS (Xi prog w) A E s (Sa i j) Q st:=by
 rw[reverseSlice'_eq];exact Tg h
def up1 (lo a d:Nat):StateT WK Sem AscSt :=
 forIn [a:d] ((none,a):AscSt) fun _ c=>do
  let x <- ltAt' (lo+c.snd) (lo+c.snd-1)
  match x with
  | some b=>if b=true then pure (ForInStep.done (none,c.snd)) else pure (Vt (none,c.snd+1))
  | _=>pure (ForInStep.done (some none,c.snd))
def zkP (lo n a:Nat):StateT WK Sem (Option Nat):=do
 Sa lo (lo+n)
 let c <- up1 lo n a
 match c.fst with
 | some r=>pure r
 | none=>pure (some c.snd)
def ziq (lo n a:Nat):StateT WK Sem DescSt :=
 forIn [n:a] ((none,n,0):DescSt) fun _ c=>do
  let x <- ltAt' (lo+c.snd.fst) (lo+c.snd.fst-1)
  match x with
  | some b =>
   if b=true then
    if c.snd.snd>0 then do
     Sa (lo+c.snd.fst-(c.snd.snd+1)) (lo+c.snd.fst)
     pure (Vt (none,c.snd.fst+1,0))
    else pure (Vt (none,c.snd.fst+1,0))
   else do
    let x <- ltAt' (lo+c.snd.fst-1) (lo+c.snd.fst)
    match x with
    | some b =>
     if b=true then pure (ForInStep.done (none,c.snd.fst,c.snd.snd))
     else pure (Vt (none,c.snd.fst+1,c.snd.snd+1))
    | _=>pure (ForInStep.done (some none,c.snd.fst,c.snd.snd))
  | _=>pure (ForInStep.done (some none,c.snd.fst,c.snd.snd))
def part2 (lo n a:Nat):StateT WK Sem (Option Nat):=do
 liftM (rule "list.sort.descending-run")
 let c <- ziq lo (n+1) a
 match c.fst with
 | some r=>pure r
 | none =>
  if c.snd.snd>0 then do
   Sa (lo+c.snd.fst-(c.snd.snd+1)) (lo+c.snd.fst)
   zkP lo c.snd.fst a
  else zkP lo c.snd.fst a
theorem run_eq (lo a:Nat):countRun' lo a=(do
  let c <- up1 lo 1 a
  match c.fst with
  | some r=>pure r
  | none =>
   if (c.snd==a)=true then pure (some c.snd)
   else if c.snd>1 then do
    let x <- ltAt' lo (lo+c.snd-1)
    match x with
    | some b=>if b=true then pure (some c.snd) else do
      Sa lo (lo+c.snd)
      part2 lo c.snd a
    | _=>pure none
   else part2 lo c.snd a):=by
 rw[countRun'_eq];unfold part2 zkP ziq up1;refine bind_congr fun c=>?_;obtain⟨r,n⟩:=c;cases r with
 | some r=>rfl
 | none =>
  dsimp only;split
  ·rfl
  ·split
   ·refine bind_congr fun x=>?_;cases x with
    | none=>rfl
    | some b =>
     dsimp only;split
     ·rfl
     ·refine bind_congr fun _=>bind_congr fun _=>bind_congr fun g=>?_;obtain⟨f,i,j⟩:=g;cases f with
      | some f=>rfl
      | none =>
       dsimp only;split
       ·refine bind_congr fun _=>bind_congr fun _=>bind_congr fun d=>?_;obtain⟨e,h⟩:=d;cases e<;>rfl
       ·refine bind_congr fun _=>bind_congr fun d=>?_;obtain⟨e,h⟩:=d;cases e<;>rfl
   ·refine bind_congr fun _=>bind_congr fun g=>?_;obtain⟨f,i,j⟩:=g;cases f with
    | some f=>rfl
    | none =>
     dsimp only;split
     ·refine bind_congr fun _=>bind_congr fun _=>bind_congr fun d=>?_;obtain⟨e,h⟩:=d;cases e<;>rfl
     ·refine bind_congr fun _=>bind_congr fun d=>?_;obtain⟨e,h⟩:=d;cases e<;>rfl
end
end GS
namespace GS
section
variable {prog:Xg}{w:WQ}{A:WH}{E:X9->X8->Prop}{s:X8}{rk:W4->Int}{κ:T0}{a0:Array W4}
def Down (rk:W4->Int)(xs:Array W4)(lo n:Nat):Prop:=∀i j,i<=j->j<n->Rk rk xs (lo+j)<=Rk rk xs (lo+i)
theorem znA {st:WK}{lo a b:Nat}{Q:AscSt->WK->Prop}(T:Tells prog w A s κ rk a0)(O:Ok κ a0 st)(y:lo+b<=a0.size)(u:1<=a)(g:a<=b)(q:Up rk (Xn st) lo (lo+a))
  (h:∀n,a<=n->n<=b->Up rk (Xn st) lo (lo+n)->(n=b\/Rk rk (Xn st) (lo+n)<Rk rk (Xn st) (lo+n-1))->Q (none,n) st):wpS (Xi prog w) A E s (up1 lo a b) Q st:=by
 unfold up1;refine V5 (I:=fun x c f=>f=st/\c=(none,x)/\Up rk (Xn st) lo (lo+x)) ?step ?fin ⟨rfl,rfl,q⟩
 case fin =>
  rintro c f ⟨rfl,rfl,e⟩
  rw[show max a b=b by lia] at e ⊢
  exact h b g (XV _) e (.inl rfl)
 case step =>
  rintro x c f k r ⟨rfl,rfl,e⟩
  dsimp only
  refine XG (zcq T O (by lia) (by lia) ?_)
  by_cases d:Rk rk (Xn f) (lo+x)<Rk rk (Xn f) (lo+x-1)
  ·simp only[d,decide_true,if_true];exact Xp (h x k (by lia) e (.inr d))
  ·simp only[d,decide_false,Wm,if_false];refine Xp ⟨rfl,rfl,fun i j p m v=>?_⟩;by_cases o:j<lo+x
   ·exact e i j p m o
   ·obtain rfl:j=lo+x:=by lia
    by_cases l:i=lo+x
    ·subst l;exact U8 _
    ·exact VC (e i (lo+x-1) p (by lia) (by lia)) (Ox.mp d)
theorem zkQ {d st:WK}{lo n a:Nat}{Q:Option Nat->WK->Prop}(T:Tells prog w A s κ rk a0)(S:Step κ a0 lo d st)(p:lo+a<=a0.size)(h1:1<=n)(f:n<=a)(q:Down rk (Xn st) lo n)
  (h:∀m b,Step κ a0 lo d b->1<=m->m<=a->Up rk (Xn b) lo (lo+m)->Q (some m) b):wpS (Xi prog w) A E s (zkP lo n a) Q st:=by
 unfold zkP;refine XG (zio ?_);have k:=S.mirror (i:=lo) (j:=lo+n) (XV _) (by lia);refine XG (znA T k.ok p h1 f ?_ fun m o e g _=>Xp (h m _ k (by lia) e g));intro i j r l u;have c:lo+n<=(Xn st).size:=by
  rw[S.ok.size];lia
 show Rk rk (mirror (Xn st) lo (lo+n) ((lo+n-lo)/2)) i<=Rk rk (mirror (Xn st) lo (lo+n) ((lo+n-lo)/2)) j;rw[za4 c,za4 c,if_pos (by lia),if_pos (by lia)];have:=q (lo+n-1-j) (lo+n-1-i) (by lia) (by lia);rw[show lo+(lo+n-1-j)=lo+(lo+n)-1-j by lia,show lo+(lo+n-1-i)=lo+(lo+n)-1-i by lia] at this;exact this
theorem zmG {v st:WK}{lo n b:Nat}{Q:DescSt->WK->Prop}(T:Tells prog w A s κ rk a0)(S:Step κ a0 lo v st)(U:lo+b<=a0.size)(h1:1<=n)(H:n<=b)(N:Down rk (Xn st) lo n)
  (h:∀m q a,Step κ a0 lo v a->n<=m->m<=b->Down rk (Xn a) lo m->q+1<=m->(∀i,m-(q+1)<=i->i<m->Rk rk (Xn a) (lo+i)=Rk rk (Xn a) (lo+(m-1)))->Q (none,m,q) a):wpS (Xi prog w) A E s (ziq lo n b) Q st:=by
 unfold ziq;refine V5 (I:=fun x c a=>∃q,c=(none,x,q)/\Step κ a0 lo v a/\Down rk (Xn a) lo x/\q+1<=x /\
   (∀i,x-(q+1)<=i->i<x->Rk rk (Xn a) (lo+i)=Rk rk (Xn a) (lo+(x-1)))) ?step ?fin ⟨0,rfl,S,N,by lia,fun i h1 h2=>by congr 1;lia⟩
 case fin =>
  rintro c a ⟨q,rfl,l,d,B,he⟩
  rw[show max n b=b by lia] at d B he ⊢
  exact h b q a l H (XV _) d B he
 case step =>
  rintro x c a D O ⟨q,rfl,l,d,B,he⟩
  dsimp only
  have J:lo+x<=(Xn a).size:=by
   rw[l.ok.size];lia
  refine XG (zcq T l.ok (by lia) (by lia) ?_)
  by_cases e:Rk rk (Xn a) (lo+x)<Rk rk (Xn a) (lo+x-1)
  ·simp only[e,decide_true,if_true];have g:∀L:Array W4,(∀k,Rk rk L k=Rk rk (Xn a) k)->Down rk L lo (x+1):=by
    intro L hk i j r M;rw[hk,hk];by_cases u:j<x
    ·exact d i j r u
    ·obtain rfl:j=x:=by lia
     by_cases p:i=j
     ·subst p;exact U8 _
     ·have y:=d i (j-1) (by lia) (by lia);rw[show lo+(j-1)=lo+j-1 by lia] at y;exact VC (V4 e) y
   by_cases z:q>0
   ·rw[if_pos z];refine XG (zio (Xp ⟨0,rfl,l.mirror (by lia) (by lia),g _ (j7 J fun k Y k2=>?_),by lia,fun i h1 h2=>by congr 1;lia⟩));have y:=he (k-lo) (by lia) (by lia);rw[show lo+(k-lo)=k by lia,show lo+(x-1)=lo+x-1 by lia] at y;exact y
   ·rw[if_neg z];exact Xp ⟨0,rfl,l,g _ (fun _=>rfl),by lia,fun i h1 h2=>by congr 1;lia⟩
  ·simp only[e,decide_false,Wm,if_false];refine XG (zcq T l.ok (by lia) (by lia) ?_);by_cases f:Rk rk (Xn a) (lo+x-1)<Rk rk (Xn a) (lo+x)
   ·simp only[f,decide_true,if_true];exact Xp (h x q a l D (by lia) d B he)
   ·simp only[f,decide_false,Wm,if_false];have o:Rk rk (Xn a) (lo+x)=Rk rk (Xn a) (lo+(x-1)):=by
     rw[show lo+(x-1)=lo+x-1 by lia];lia
    refine Xp ⟨q+1,rfl,l,fun i j r M=>?_,by lia,fun i h1 h2=>?_⟩
    ·by_cases u:j<x
     ·exact d i j r u
     ·obtain rfl:j=x:=by lia
      by_cases p:i=j
      ·subst p;exact U8 _
      ·rw[o];exact d i (j-1) (by lia) (by lia)
    ·rw[show x+1-1=x by lia];by_cases G:i=x
     ·subst G;rfl
     ·rw[o];exact he i (by lia) (by lia)
theorem zir {g st:WK}{lo n b:Nat}{Q:Option Nat->WK->Prop}(T:Tells prog w A s κ rk a0)(S:Step κ a0 lo g st)(p:lo+b<=a0.size)(r:n+1<=b)(y:Down rk (Xn st) lo (n+1))
  (h:∀m a,Step κ a0 lo g a->1<=m->m<=b->Up rk (Xn a) lo (lo+m)->Q (some m) a):wpS (Xi prog w) A E s (part2 lo n b) Q st:=by
 unfold part2;refine XG (Qr (Ut ⟨rfl,?_⟩));refine XG (zmG T S p (by lia) r y fun m q a l x c e z he=>?_);dsimp only;have f:lo+m<=(Xn a).size:=by
  rw[l.ok.size];lia
 by_cases d:q>0
 ·rw[if_pos d];refine XG (zio (zkQ T (l.mirror (by lia) (by lia)) p (by lia) c ?_ h));intro i j o v;show Rk rk (mirror (Xn a) _ _ _) (lo+j)<=Rk rk (mirror (Xn a) _ _ _) (lo+i);have same:∀k,lo+m-(q+1)<=k->k<lo+m->Rk rk (Xn a) k=Rk rk (Xn a) (lo+m-1):=fun k B D=>by
   have u:=he (k-lo) (by lia) (by lia);rw[show lo+(k-lo)=k by lia,show lo+(m-1)=lo+m-1 by lia] at u;exact u
  rw[j7 f same,j7 f same];exact e i j o v
 ·rw[if_neg d];exact zkQ T l p (by lia) c e h
theorem zp4 {st:WK}{lo b:Nat}{Q:Option Nat->WK->Prop}(T:Tells prog w A s κ rk a0)(O:Ok κ a0 st)(v:lo+b<=a0.size)(h1:1<=b)
  (h:∀m l,Step κ a0 lo st l->1<=m->m<=b->Up rk (Xn l) lo (lo+m)->Q (some m) l):wpS (Xi prog w) A E s (countRun' lo b) Q st:=by
 have S:=Step.refl (lo:=lo) O;rw[run_eq];refine XG (znA T O v (XV 1) h1 (fun i j I p y=>by
  obtain rfl:i=j:=by lia
  exact U8 _) fun n q r d x=>?_)
 dsimp only;by_cases g:n=b
 ·rw[if_pos (by simpa using g)];exact Xp (h n st S q r d)
 ·rw[if_neg (by simpa using g)];have f:Rk rk (Xn st) (lo+n)<Rk rk (Xn st) (lo+n-1):=x.resolve_left g;have u:lo+n<=(Xn st).size:=by
   rw[O.size];lia
  by_cases o:n>1
  ·rw[if_pos o];refine XG (zcq T O (by lia) (by lia) ?_);by_cases c:Rk rk (Xn st) lo<Rk rk (Xn st) (lo+n-1)
   ·simp only[c,decide_true,if_true];exact Xp (h n st S q r d)
   ·simp only[c,decide_false,Wm,if_false];have a:∀k,lo<=k->k<lo+n->Rk rk (Xn st) k=Rk rk (Xn st) (lo+n-1):=by
     intro k z D;have G:=d lo k (XV _) z D;have H:=d k (lo+n-1) z (by lia) (by lia);lia
    refine XG (zio (zir T (S.mirror (XV _) (by lia)) v (by lia) ?_ h));intro i j p y;show Rk rk (mirror (Xn st) _ _ _) (lo+j)<=Rk rk (mirror (Xn st) _ _ _) (lo+i);rw[j7 u a,j7 u a];by_cases B:j<n
    ·rw[a (lo+i) (by lia) (by lia),a (lo+j) (by lia) (by lia)];exact U8 _
    ·obtain rfl:j=n:=by lia
     by_cases e:i=j
     ·subst e;exact U8 _
     ·rw[a (lo+i) (by lia) (by lia)];exact V4 f
  ·rw[if_neg o];obtain rfl:n=1:=by lia
   refine zir T S v (by lia) ?_ h;intro i j p y;by_cases e:i=j
   ·subst e;exact U8 _
   ·obtain rfl:i=0:=by lia
    obtain rfl:j=1:=by lia
    rw[RG] at f;exact V4 f
theorem zdU {xs:Array W4}{src d:Nat}(b:src<xs.size)(a:d<=src)(k:Nat):Rk rk (bubble xs src d) k=if k=src-d then Rk rk xs src else if src-d<k/\k<=src then Rk rk xs (k-1) else Rk rk xs k:=by
 have e:=getElem?_bubble b d a k;by_cases h1:k=src-d
 ·rw[if_pos h1] at e ⊢;exact JR e
 ·rw[if_neg h1] at e ⊢;by_cases h2:src-d<k/\k<=src
  ·rw[if_pos h2] at e ⊢;exact JR e
  ·rw[if_neg h2] at e ⊢;exact JR e
theorem zp5 {st:WK}{lo n ok:Nat}{Q:Bool->WK->Prop}(T:Tells prog w A s κ rk a0)(O:Ok κ a0 st)(hn:lo+n<=a0.size)(ab:ok<=n)(hs:Up rk (Xn st) lo (lo+ok))
  (h:∀e,Step κ a0 lo st e->Up rk (Xn e) lo (lo+n)->Q true e):wpS (Xi prog w) A E s (binarySort' lo n ok) Q st:=by
 rw[binarySort'_eq];refine XG (UE (V5 (I:=fun k c e=>c=(none,())/\Step κ a0 lo st e/\Up rk (Xn e) lo (lo+min k n))
  (Q:=fun c e=>c=(none,())/\Step κ a0 lo st e/\Up rk (Xn e) lo (lo+n)) ?step ?fin ?init) ?post)
 case post =>
  rintro c e ⟨rfl,p,g⟩
  exact Xp (h e p g)
 case init =>
  refine⟨rfl,Step.refl O,fun i j z D U=>?_⟩
  by_cases h1:ok=0
  ·obtain rfl:i=j:=by lia
   exact U8 _
  ·exact hs i j z D (by lia)
 case fin =>
  rintro c e ⟨N,p,g⟩
  refine⟨N,p,?_⟩
  rwa [show min (max (max ok 1) n) n=n by lia] at g
 case step =>
  rintro k c e M Y ⟨rfl,p,g⟩
  rw[show min k n=k by lia] at g
  have v:=p.ok
  have hk:lo+k<a0.size:=by lia
  refine XG (UE (V5 (I:=fun x c d=>d=e/\∃l r,c=(none,l,r)/\l<=r/\r<=k/\r-l<=k-x /\
    (∀i,i<l->Rk rk (Xn e) (lo+i)<=Rk rk (Xn e) (lo+k))/\(∀i,r<=i->i<k->Rk rk (Xn e) (lo+k)<Rk rk (Xn e) (lo+i)))
   (Q:=fun c d=>d=e/\∃l r,c=(none,l,r)/\l<=k /\
    (∀i,i<l->Rk rk (Xn e) (lo+i)<=Rk rk (Xn e) (lo+k))/\(∀i,l<=i->i<k->Rk rk (Xn e) (lo+k)<Rk rk (Xn e) (lo+i))) ?istep ?ifin ?iinit) ?ipost)
  case iinit=>exact⟨rfl,0,k,rfl,by lia,by lia,by lia,fun i z=>by lia,fun i h1 h2=>by lia⟩
  case ifin =>
   rintro c d ⟨rfl,l,r,rfl,G,u,hm,o,m⟩
   obtain rfl:l=r:=by lia
   exact⟨rfl,l,l,rfl,u,o,m⟩
  case istep =>
   rintro x c d _ ac ⟨rfl,l,r,rfl,G,u,hm,o,m⟩
   dsimp only
   by_cases y:l >= r
   ·rw[if_pos y];obtain rfl:l=r:=by lia
    exact Xp ⟨rfl,l,l,rfl,u,o,m⟩
   ·rw[if_neg y];refine XG (zcq T v hk (by lia) ?_);by_cases f:Rk rk (Xn d) (lo+k)<Rk rk (Xn d) (lo+(l+r)/2)
    ·simp only[f,decide_true,if_true];refine Xp ⟨rfl,l,(l+r)/2,rfl,by lia,by lia,by lia,o,fun i h1 h2=>?_⟩;exact Int.lt_of_lt_of_le f (g _ _ (by lia) (by lia) (by lia))
    ·simp only[f,decide_false,Wm,if_false];refine Xp ⟨rfl,(l+r)/2+1,r,rfl,by lia,by lia,by lia,fun i h1=>?_,m⟩;exact VC (g (lo+i) (lo+(l+r)/2) (by lia) (by lia) (by lia)) (Ox.mp f)
  case ipost =>
   rintro c d ⟨rfl,l,r,rfl,aa,o,m⟩
   show wpS _ _ _ _ (do moveDown' (lo+k) (lo+l);pure (Vt (none,()))) _ _
   rw[moveDown'_eq]
   have q:lo+k<(Xn d).size:=by
    rw[v.size];exact hk
   refine XG (Tg (Xp ⟨rfl,⟨⟨(bubble_perm _ _ _).trans v.perm,v.kind,v.good⟩,p.pend,fun i z=>?_⟩,?_⟩))
   ·show (bubble (Xn d) (lo+k) (lo+k-(lo+l)))[i]?=_;rw[getElem?_bubble q _ (by lia),if_neg (by lia),if_neg (by lia)];exact p.low i z
   ·rw[show min (k+1) n=k+1 by lia];intro i j z D U;show Rk rk (bubble (Xn d) (lo+k) (lo+k-(lo+l))) i<=Rk rk (bubble (Xn d) (lo+k) (lo+k-(lo+l))) j;rw[zdU q (by lia),zdU q (by lia),show lo+k-(lo+k-(lo+l))=lo+l by lia];have up:∀a b,lo<=a->a<=b->b<lo+k->Rk rk (Xn d) a<=Rk rk (Xn d) b:=g;have H:∀a,lo<=a->a<lo+l->Rk rk (Xn d) a<=Rk rk (Xn d) (lo+k):=fun a J L=>by
     have:=o (a-lo) (by lia);rwa [show lo+(a-lo)=a by lia] at this
    have B:∀a,lo+l<=a->a<lo+k->Rk rk (Xn d) (lo+k)<Rk rk (Xn d) a:=fun a J L=>by
     have:=m (a-lo) (by lia) (by lia);rwa [show lo+(a-lo)=a by lia] at this
    repeat' split
    all_goals first
     | (exfalso;lia)
     | exact U8 _
     | exact H _ (by lia) (by lia)
     | exact V4 (B _ (by lia) (by lia))
     | exact up _ _ (by lia) (by lia) (by lia)
end
end GS
namespace GS
def gallop':Bool->W4->Array W4->Nat->Nat->Nat->StateT WK Sem (Option Nat):=sortPriv% PySem.Builtin.gallop
def mergeLo':Array W4->Array W4->StateT WK Sem (Array W4):=sortPriv% PySem.Builtin.mergeLo
def mergeHi':Array W4->Array W4->StateT WK Sem (Array W4):=sortPriv% PySem.Builtin.mergeHi
section
variable {prog:Xg}{w:WQ}{A:WH}{E:X9->X8->Prop}{s:X8}{rk:W4->Int}{κ:T0}{a0:Array W4}
def bey (rk:W4->Int)(left:Bool)(a x:W4):Bool:=if left then decide (rk x<rk a) else !decide (rk a<rk x)
theorem zfR {st:WK}{left:Bool}{z:W4}{J:Array W4}{base n hint:Nat}{Q:Option Nat->WK->Prop}(T:Tells prog w A s κ rk a0)(hk:kindOf st=κ)(D:z∈a0.toList)(b:Nat->Bool)
  (he:∀i,i<n->∃x,J[base+i]?=some x/\x∈a0.toList/\b i=bey rk left z x) (mono:∀i j,i<=j->j<n->b j=true->b i=true) (hh:hint<n)
  (h:∀k,k<=n->(∀i,i<k->b i=true)->(∀i,k<=i->i<n->b i=false)->Q (some k) st):wpS (Xi prog w) A E s (gallop' left z J base n hint) Q st:=by
 have one:∀{i:Nat} {O:Option Bool->WK->Prop},i<n->O (some (b i)) st->wpS (Xi prog w) A E s (do
   let x <- elem' J (base+i)
   if left=true then lt' x z
    else do
     let r <- lt' z x
     pure (Option.map (fun x=>!x) r)) O st:=by
  intro i O y G;obtain⟨x,e1,Y,L⟩:=he i y;refine XG (je e1 ?_);unfold bey at L;cases left with
  | true =>
   rw[if_pos rfl] at L ⊢;rw[L] at G;exact zkO T hk Y D G
  | false =>
   rw[if_neg XY] at L ⊢;rw[L] at G;exact XG (zkO T hk D Y (Xp G))
 have H:∀{f:Nat->Option (Option Nat)×Nat×Nat->StateT WK Sem (ForInStep (Option (Option Nat)×Nat×Nat))} {g:Option (Option Nat)×Nat×Nat->StateT WK Sem (Option Nat)},
   (∀x l r (R:ForInStep (Option (Option Nat)×Nat×Nat)->WK->Prop),l >= r->R (.done (none,l,r)) st->wpS (Xi prog w) A E s (f x (none,l,r)) R st) ->
   (∀x l r (R:ForInStep (Option (Option Nat)×Nat×Nat)->WK->Prop),l<r->r<=n->R (.yield (if b (l+(r-l)/2)=true then (none,l+(r-l)/2+1,r) else (none,l,l+(r-l)/2))) st->wpS (Xi prog w) A E s (f x (none,l,r)) R st) ->
   (∀l r,Q (some r) st->wpS (Xi prog w) A E s (g (none,l,r)) Q st) ->
   ∀(lo y:Nat),lo<=y->y<=n->(∀i,i<lo->b i=true)->(∀i,y<=i->i<n->b i=false)->wpS (Xi prog w) A E s (forIn [:n] ((none,lo,y):Option (Option Nat)×Nat×Nat) f >>= g) Q st:=by
  intro f g f1 f2 g1 lo y h1 h2 h3 h4;refine XG (UE (V5 (I:=fun x c a=>a=st/\∃l r,c=(none,l,r)/\l<=r/\r<=n/\r-l<=n-x/\(∀i,i<l->b i=true)/\(∀i,r<=i->i<n->b i=false))
   (Q:=fun c a=>a=st/\∃l,c=(none,l,l)/\l<=n/\(∀i,i<l->b i=true)/\(∀i,l<=i->i<n->b i=false)) ?step ?fin ⟨rfl,lo,y,rfl,h1,h2,by lia,h3,h4⟩) ?post)
  case fin =>
   rintro c a ⟨rfl,l,r,rfl,q,e,p,m,B⟩
   obtain rfl:l=r:=by lia
   exact⟨rfl,l,rfl,e,m,B⟩
  case post =>
   rintro c a ⟨rfl,l,rfl,e,m,B⟩
   exact g1 l l (h l e m B)
  case step =>
   rintro x c a _ hx ⟨rfl,l,r,rfl,q,e,p,m,B⟩
   by_cases d:l >= r
   ·obtain rfl:l=r:=by lia
    exact f1 x l l _ d ⟨rfl,l,rfl,e,m,B⟩
   ·refine f2 x l r _ (by lia) e ?_;cases hb:b (l+(r-l)/2) with
    | true =>
     rw[if_pos rfl];exact⟨rfl,l+(r-l)/2+1,r,rfl,by lia,e,by lia,fun i y=>mono i _ (by lia) (by lia) hb,B⟩
    | false =>
     rw[if_neg XY];refine⟨rfl,l,l+(r-l)/2,rfl,by lia,by lia,by lia,m,fun i N M=>?_⟩;cases v:b i with
     | false=>rfl
     | true =>
      have:=mono _ i N M v;rw[hb] at this;cases this
 refine XG (one hh ?_);dsimp only;cases hb:b hint with
 | true =>
  rw[if_pos rfl];refine XG (UE (V5 (I:=fun x c a=>a=st/\∃l o,c=(none,l,o)/\l<o/\hint+l<n/\b (hint+l)=true/\x+1<=o)
   (Q:=fun c a=>a=st/\∃l o,c=(none,l,o)/\l<o/\hint+l<n/\b (hint+l)=true/\(o >= n-hint\/(hint+o<n/\b (hint+o)=false))) ?step ?fin ⟨rfl,0,1,rfl,by lia,hh,hb,by lia⟩) ?post)
  case fin =>
   rintro c a ⟨rfl,l,o,rfl,q,e,p,m⟩
   exact⟨rfl,l,o,rfl,q,e,p,.inl (by lia)⟩
  case step =>
   rintro x c a _ hx ⟨rfl,l,o,rfl,q,e,p,m⟩
   dsimp only
   by_cases d:o >= n-hint
   ·rw[if_pos d];exact Xp ⟨rfl,l,o,rfl,q,e,p,.inl d⟩
   ·rw[if_neg d];refine XG (one (by lia) ?_);dsimp only;cases hbo:b (hint+o) with
    | false =>
     rw[if_pos (by decide)];exact Xp ⟨rfl,l,o,rfl,q,e,p,.inr ⟨by lia,hbo⟩⟩
    | true =>
     rw[if_neg (by decide)];exact Xp ⟨rfl,o,2*o+1,rfl,by lia,by lia,hbo,by lia⟩
  case post =>
   rintro c a ⟨rfl,l,o,rfl,q,e,p,m⟩
   refine H (fun x l r R d u=>?_) (fun x l r R U hr u=>?_) (fun l r G=>Xp G) (hint+l+1) (hint+min o (n-hint)) (by lia) (by lia) (fun i y=>mono i (hint+l) (by lia) e p) fun i N M=>?_
   ·dsimp only;rw[if_pos d];exact Xp u
   ·dsimp only;rw[if_neg (by lia)];refine XG (one (by lia) ?_);dsimp only;cases hbm:b (l+(r-l)/2) with
    | true =>
     rw[hbm,if_pos rfl] at u;rw[if_pos rfl];exact Xp u
    | false =>
     rw[hbm,if_neg XY] at u;rw[if_neg XY];exact Xp u
   ·rcases m with m | ⟨m,B⟩
    ·lia
    ·cases v:b i with
     | false=>rfl
     | true =>
      have:=mono _ i (show hint+o<=i by lia) M v;rw[B] at this;cases this
 | false =>
  rw[if_neg XY];refine XG (UE (V5 (I:=fun x c a=>a=st/\∃l o,c=(none,l,o)/\l<o/\l<=hint/\b (hint-l)=false/\x+1<=o)
   (Q:=fun c a=>a=st/\∃l o,c=(none,l,o)/\l<o/\l<=hint/\b (hint-l)=false/\(o >= hint+1\/(o<=hint/\b (hint-o)=true))) ?step ?fin ⟨rfl,0,1,rfl,by lia,by lia,hb,by lia⟩) ?post)
  case fin =>
   rintro c a ⟨rfl,l,o,rfl,q,e,p,m⟩
   exact⟨rfl,l,o,rfl,q,e,p,.inl (by lia)⟩
  case step =>
   rintro x c a _ hx ⟨rfl,l,o,rfl,q,e,p,m⟩
   dsimp only
   by_cases d:o >= hint+1
   ·rw[if_pos d];exact Xp ⟨rfl,l,o,rfl,q,e,p,.inl d⟩
   ·rw[if_neg d];refine XG (one (by lia) ?_);dsimp only;cases hbo:b (hint-o) with
    | true =>
     rw[if_pos rfl];exact Xp ⟨rfl,l,o,rfl,q,e,p,.inr ⟨by lia,hbo⟩⟩
    | false =>
     rw[if_neg (by decide)];exact Xp ⟨rfl,o,2*o+1,rfl,by lia,by lia,hbo,by lia⟩
  case post =>
   rintro c a ⟨rfl,l,o,rfl,q,e,p,m⟩
   refine H (fun x l r R d u=>?_) (fun x l r R U hr u=>?_) (fun l r G=>Xp G) (hint+1-min o (hint+1)) (hint-l) (by lia) (by lia) (fun i y=>?_) fun i N M=>?_
   ·dsimp only;rw[if_pos d];exact Xp u
   ·dsimp only;rw[if_neg (by lia)];refine XG (one (by lia) ?_);dsimp only;cases hbm:b (l+(r-l)/2) with
    | true =>
     rw[hbm,if_pos rfl] at u;rw[if_pos rfl];exact Xp u
    | false =>
     rw[hbm,if_neg XY] at u;rw[if_neg XY];exact Xp u
   ·rcases m with m | ⟨m,B⟩
    ·lia
    ·exact mono i (hint-o) (by lia) (by lia) B
   ·cases v:b i with
    | false=>rfl
    | true =>
     have:=mono _ i N M v;rw[p] at this;cases this
end
end GS
namespace GS
structure MI (rk:W4->Int)(aL bL:List W4)(ia ib:Nat)(oL:List W4):Prop where
 perm:oL.Perm (aL.take ia++bL.take ib)
 srt:oL.Pairwise fun x y=>rk x<=rk y
 la:∀x∈oL,∀y∈aL.drop ia,rk x<=rk y
 lb:∀x∈oL,∀y∈bL.drop ib,rk x<=rk y
section
variable {rk:W4->Int}{aL bL oL:List W4}{ia ib:Nat}
theorem MI.swap (M:MI rk aL bL ia ib oL):MI rk bL aL ib ia oL:=⟨M.perm.trans T9,M.srt,M.lb,M.la⟩
theorem zjq (l:List W4)(i k:Nat):l.take (i+k)=l.take i++(l.drop i).take k:=by
 rw[List.take_add]
theorem MI.takeA (M:MI rk aL bL ia ib oL)(sa:aL.Pairwise fun x y=>rk x<=rk y)(k:Nat)(h:∀x∈(aL.drop ia).take k,∀y∈bL.drop ib,rk x<=rk y):MI rk aL bL (ia+k) ib (oL++(aL.drop ia).take k):=by
 have b:(aL.drop ia).Pairwise fun x y=>rk x<=rk y:=sa.sublist (Ro _ _);have c:(aL.drop ia).drop k=aL.drop (ia+k):=O4;refine⟨?_,?_,fun x hx y a=>?_,fun x hx y a=>?_⟩
 ·rw[zjq,WY];refine(M.perm.append_right _).trans ?_;rw[WY];exact Sr _ T9
 ·rw[TN];exact⟨M.srt,b.sublist (UQ _ _),fun x hx y a=>M.la x hx y (Wc a)⟩
 ·rw[<- c] at a;rcases XF.mp hx with hx | hx
  ·exact M.la x hx y (R4 a)
  ·have:=b;rw[<- Wy k (aL.drop ia),TN] at this;exact this.2.2 x hx y a
 ·rcases XF.mp hx with hx | hx
  ·exact M.lb x hx y a
  ·exact h x hx y a
theorem MI.takeB (M:MI rk aL bL ia ib oL)(a:bL.Pairwise fun x y=>rk x<=rk y)(k:Nat)(h:∀x∈(bL.drop ib).take k,∀y∈aL.drop ia,rk x<=rk y):MI rk aL bL ia (ib+k) (oL++(bL.drop ib).take k):=(M.swap.takeA a k h).swap
def Mg (rk:W4->Int)(aL bL oL:List W4):Prop:=oL.Perm (aL++bL)/\oL.Pairwise fun x y=>rk x<=rk y
theorem MI.all (M:MI rk aL bL ia ib oL)(a:aL.length<=ia)(b:bL.length<=ib):Mg rk aL bL oL:=by
 have:=M.perm;rw[Wt a,Wt b] at this;exact⟨this,M.srt⟩
theorem MI.doneB (M:MI rk aL bL ia ib oL)(sa:aL.Pairwise fun x y=>rk x<=rk y)(a:bL.length<=ib):Mg rk aL bL (oL++aL.drop ia):=by
 have:=M.takeA sa (aL.drop ia).length (fun x _ y b=>by
  rw[Sw a] at b;cases b)
 rw[Xz] at this;exact this.all (by rw[VJ];lia) a
theorem MI.lastA (M:MI rk aL bL ia ib oL)(sa:aL.Pairwise fun x y=>rk x<=rk y)(d:bL.Pairwise fun x y=>rk x<=rk y)(h:∀x∈bL,∀y∈aL.drop ia,rk x<=rk y):Mg rk aL bL (oL++bL.drop ib++aL.drop ia):=by
 have a:=M.takeB d (bL.drop ib).length (fun x b y c=>h x (R4 (Wc b)) y c);rw[Xz] at a;exact a.doneB sa (by rw[VJ];lia)
theorem ext_toList (a:Array W4)(i j:Nat)(b:i<=j):(a.extract i j).toList=(a.toList.drop i).take (j-i):=by
 rw[OZ,Rw]
theorem zav (a:Array W4)(i:Nat):(a.extract i a.size).toList=a.toList.drop i:=by
 rw[OZ,Rw,Wt];rw[VJ,X2];exact XV _
theorem zkR {a:Array W4}{i:Nat}{x:W4}(h:a[i]?=some x):(a.toList.drop i).take 1=[x]:=by
 have b:i<a.toList.length:=by
  rw[X2];exact(Vy.mp h).1
 rw[WB b,UH,List.take_zero];have:a.toList[i]?=some x:=by rw[Xq];exact h
 rw[X7 b] at this;rw[Option.some.inj this]
end
section
variable {prog:Xg}{w:WQ}{A:WH}{E:X9->X8->Prop}{s:X8}{rk:W4->Int}{κ:T0}{a0:Array W4}
structure Kept (st st':WK):Prop where
 arr:Xn st'=Xn st
 kind:kindOf st'=kindOf st
 pend:WJ st'=WJ st
 bad:SY st'=SY st
def setG':Nat->StateT WK Sem Unit:=sortPriv% PySem.Builtin.setMinGallop
theorem Kept.refl (st:WK):Kept st st:=⟨rfl,rfl,rfl,rfl⟩
theorem zeX {b st:WK}{g:Nat}{Q:Unit->WK->Prop}(k:Kept b st)(h:∀a,Kept b a->Q () a):wpS (Xi prog w) A E s (setG' g) Q st:=by
 have e:setG' g=modify fun c=>SortSt.mk' (kindOf c) (Xn c) (WJ c) g (SY c):=rfl;rw[e];exact Tg (h _ ⟨k.arr,k.kind,k.pend,k.bad⟩)
theorem qx {α:Type}{c:Prop} [Decidable c]{x y:StateT WK Sem α}{Q:α->WK->Prop}{st:WK}(h1:c->wpS (Xi prog w) A E s x Q st)(h2:¬ c->wpS (Xi prog w) A E s y Q st):wpS (Xi prog w) A E s (if c then x else y) Q st:=by
 by_cases a:c
 ·rw[if_pos a];exact h1 a
 ·rw[if_neg a];exact h2 a
theorem jv {a:Array W4}{i:Nat}(h:i<a.size):∃x,a[i]?=some x/\x∈a.toList:=⟨a[i],getElem?_pos a i h,by simp⟩
theorem J6 {a:Array W4}(sa:a.toList.Pairwise fun x y=>rk x<=rk y){i:Nat}{x:W4}(e:a[i]?=some x):∀y∈a.toList.drop i,rk x<=rk y:=by
 have b:i<a.toList.length:=by
  rw[X2];exact(Vy.mp e).1
 have c:a.toList[i]?=some x:=by rw[Xq];exact e
 rw[X7 b] at c;have d:=Option.some.inj c;have f:=sa.sublist (Ro i a.toList);rw[WB b,d,RF] at f;rw[WB b,d];intro y hy;rcases XJ.mp hy with rfl | hy
 ·exact U8 _
 ·exact f.1 y hy
theorem YI {a b c:Array W4}{f d:Nat}(M:MI rk a.toList b.toList f d c.toList)(sa:a.toList.Pairwise fun x y=>rk x<=rk y)(e:b.size<=d):Mg rk a.toList b.toList (c++a.extract f a.size++b.extract d b.size).toList:=by
 rw[WD,WD,zav,zav,Sw (as:=b.toList) (by rw[X2];exact e),Xc];exact M.doneB sa (by rw[X2];exact e)
theorem YJ {a b d:Array W4}{c g:Nat}(M:MI rk a.toList b.toList c g d.toList)(sa:a.toList.Pairwise fun x y=>rk x<=rk y)(k:b.toList.Pairwise fun x y=>rk x<=rk y)(i:∀x∈b.toList,∀y,a[a.size-1]?=some y->rk x<=rk y)(l:c+1=a.size):Mg rk a.toList b.toList (d++b.extract g b.size++a.extract c a.size).toList:=by
 rw[WD,WD,zav,zav];refine M.lastA sa k fun x j y f=>?_;have e:c<a.toList.length:=by rw[X2];lia
 rw[WB e,Sw (by rw[X2];lia)] at f;have h:y=a.toList[c]:=by simpa using f
 refine i x j y ?_;rw[show a.size-1=c by lia,<- Xq,X7 e,h]
theorem zjr (a:Array W4)(x:W4):(a.push x).toList=a.toList++[x]:=SA ..
theorem MI.oneB {a b c:Array W4}{d f:Nat}{x:W4}(M:MI rk a.toList b.toList d f c.toList)(k:b.toList.Pairwise fun x y=>rk x<=rk y)(e:b[f]?=some x)(h:∀y∈a.toList.drop d,rk x<=rk y):MI rk a.toList b.toList d (f+1) (c.push x).toList:=by
 rw[zjr,<- zkR e];refine M.takeB k 1 fun z g y j=>?_;rw[zkR e] at g;have i:z=x:=by simpa using g
 rw[i];exact h y j
theorem MI.oneA {a b c:Array W4}{d f:Nat}{x:W4}(M:MI rk a.toList b.toList d f c.toList)(sa:a.toList.Pairwise fun x y=>rk x<=rk y)(e:a[d]?=some x)(h:∀y∈b.toList.drop f,rk x<=rk y):MI rk a.toList b.toList (d+1) f (c.push x).toList:=(MI.oneB M.swap sa e h).swap
theorem MI.someA {a b f:Array W4}{c g k:Nat}{y:W4}(M:MI rk a.toList b.toList c g f.toList)(sa:a.toList.Pairwise fun x y=>rk x<=rk y)(o:b.toList.Pairwise fun x y=>rk x<=rk y)(e:b[g]?=some y)(h:∀i x,i<k->a[c+i]?=some x->rk x<=rk y):MI rk a.toList b.toList (c+k) g (f++a.extract c (c+k)).toList:=by
 rw[WD,ext_toList _ _ _ (TJ _ _),S4];refine M.takeA sa k fun x m z n=>VC ?_ (J6 o e z n);obtain⟨i,j,l⟩:=Tz m;have d:i<k:=by
  rw[XE] at j;lia
 refine h i x d ?_;have:((a.toList.drop c).take k)[i]?=some x:=by rw[X7 j,l]
 rw[List.getElem?_take,if_pos d,Td,Xq] at this;exact this
theorem MI.someB {a b d:Array W4}{f c k:Nat}{y:W4}(M:MI rk a.toList b.toList f c d.toList)(sa:a.toList.Pairwise fun x y=>rk x<=rk y)(g:b.toList.Pairwise fun x y=>rk x<=rk y)(e:a[f]?=some y)(h:∀i x,i<k->b[c+i]?=some x->rk x<=rk y):MI rk a.toList b.toList f (c+k) (d++b.extract c (c+k)).toList:=(MI.someA M.swap g sa e h).swap
end
end GS
namespace GS
section
variable {prog:Xg}{w:WQ}{A:WH}{E:X9->X8->Prop}{s:X8}{rk:W4->Int}{κ:T0}{a0:Array W4}
theorem za5 {st:WK}{b:W4}{a:Array W4}{base n hint:Nat}{Q:Option Nat->WK->Prop}(T:Tells prog w A s κ rk a0)(hk:kindOf st=κ)(c:b∈a0.toList)(z:∀x∈a.toList,x∈a0.toList)(up:∀i j x y,base<=i->i<=j->j<base+n->a[i]?=some x->a[j]?=some y->rk x<=rk y)(B:base+n<=a.size)(r:hint<n)
  (h:∀k,k<=n->(∀i x,i<k->a[base+i]?=some x->rk x<=rk b)->(∀i x,k<=i->i<n->a[base+i]?=some x->rk b<rk x)->Q (some k) st):wpS (Xi prog w) A E s (gallop' false b a base n hint) Q st:=by
 have he:∀i,i<n->∃x,a[base+i]?=some x/\x∈a.toList:=fun i f=>jv (by lia);refine zfR T hk c (fun i=>match a[base+i]? with | some x=>bey rk false b x | none=>false) (fun i f=>?_) (fun i j u v d=>?_) r fun k o h1 h2=>h k o (fun i x f e=>?_) fun i x g l e=>?_
 ·obtain⟨x,e,m⟩:=he i f;refine⟨x,e,z x m,?_⟩;try dsimp only
  rw[e]
 ·obtain⟨x,p,_⟩:=he i (by lia);obtain⟨y,q,_⟩:=he j v;try dsimp only at d ⊢
  rw[q] at d;rw[p];have:=up (base+i) (base+j) x y (by lia) (by lia) (by lia) p q;unfold bey at d ⊢;simp only[Wm,if_false,WE,decide_eq_false_iff_not] at d ⊢;lia
 ·have:=h1 i f;try dsimp only at this
  rw[e] at this;unfold bey at this;simp only[Wm,if_false,WE,decide_eq_false_iff_not] at this;lia
 ·have:=h2 i g l;try dsimp only at this
  rw[e] at this;unfold bey at this;simp only[Wm,if_false,Bool.not_eq_false',decide_eq_true_eq] at this;exact this
theorem za6 {st:WK}{b:W4}{a:Array W4}{base n hint:Nat}{Q:Option Nat->WK->Prop}(T:Tells prog w A s κ rk a0)(hk:kindOf st=κ)(c:b∈a0.toList)(z:∀x∈a.toList,x∈a0.toList)(up:∀i j x y,base<=i->i<=j->j<base+n->a[i]?=some x->a[j]?=some y->rk x<=rk y)(B:base+n<=a.size)(r:hint<n)
  (h:∀k,k<=n->(∀i x,i<k->a[base+i]?=some x->rk x<rk b)->(∀i x,k<=i->i<n->a[base+i]?=some x->rk b<=rk x)->Q (some k) st):wpS (Xi prog w) A E s (gallop' true b a base n hint) Q st:=by
 have he:∀i,i<n->∃x,a[base+i]?=some x/\x∈a.toList:=fun i f=>jv (by lia);refine zfR T hk c (fun i=>match a[base+i]? with | some x=>bey rk true b x | none=>false) (fun i f=>?_) (fun i j u v d=>?_) r fun k o h1 h2=>h k o (fun i x f e=>?_) fun i x g l e=>?_
 ·obtain⟨x,e,m⟩:=he i f;refine⟨x,e,z x m,?_⟩;try dsimp only
  rw[e]
 ·obtain⟨x,p,_⟩:=he i (by lia);obtain⟨y,q,_⟩:=he j v;try dsimp only at d ⊢
  rw[q] at d;rw[p];have:=up (base+i) (base+j) x y (by lia) (by lia) (by lia) p q;unfold bey at d ⊢;simp only[if_true,decide_eq_true_eq] at d ⊢;lia
 ·have:=h1 i f;try dsimp only at this
  rw[e] at this;unfold bey at this;simp only[if_true,decide_eq_true_eq] at this;exact this
 ·have:=h2 i g l;try dsimp only at this
  rw[e] at this;unfold bey at this;simp only[if_true,decide_eq_false_iff_not] at this;lia
theorem zis {a:Array W4}(sa:a.toList.Pairwise fun x y=>rk x<=rk y){i j:Nat}{x y:W4}(d:i<=j)(c:a[i]?=some x)(b:a[j]?=some y):rk x<=rk y:=by
 refine J6 sa c y ?_;have e:j<a.toList.length:=by
  rw[X2];exact(Vy.mp b).1
 refine X4 (i:=j-i) ?_;rw[Td,Xq,show i+(j-i)=j by lia];exact b
set_option maxHeartbeats 8000000 in
theorem via {P:Prop}(h:∀G:Prop,(P->G)->G):P:=h P id
structure Key (P:Prop):Prop where
 get:P
theorem cut {P R:Prop}(k:P)(h:Key P->R):R:=h ⟨k⟩
theorem zjs {p:WK}{a b:Array W4}{Q:Array W4->WK->Prop}(T:Tells prog w A s κ rk a0)(hk:kindOf p=κ)(ma:∀x∈a.toList,x∈a0.toList)(mb:∀x∈b.toList,x∈a0.toList)(sa:a.toList.Pairwise fun x y=>rk x<=rk y)(U:b.toList.Pairwise fun x y=>rk x<=rk y)
  (ha:0<a.size) (hb:0<b.size) (h0:∀x y,b[0]?=some x->y∈a.toList->rk x<=rk y) (av:∀x∈b.toList,∀y,a[a.size-1]?=some y->rk x<rk y)
  (h:∀d l,Kept p l->Mg rk a.toList b.toList d.toList->Q d l):wpS (Xi prog w) A E s (mergeLo' a b) Q p:=by
 have hl:∀x∈b.toList,∀y,a[a.size-1]?=some y->rk x<=rk y:=fun x hx y hy=>V4 (av x hx y hy);refine XG (Qr (Ut ⟨rfl,?_⟩));obtain⟨b0,ai,_⟩:=jv hb;refine XG (je ai ?_);have M0:MI rk a.toList b.toList 0 0 (#[]:Array W4).toList:=⟨by simp,List.Pairwise.nil,(fun x hx=>nomatch hx),(fun x hx=>nomatch hx)⟩;have M1:MI rk a.toList b.toList 0 1 (#[b0]:Array W4).toList:=MI.oneB M0 U ai fun y hy=>h0 b0 y ai (by simpa using hy);dsimp -zeta only;refine qx (fun hc=>Xp (h _ _ (Kept.refl _) (YI M1 sa (by rw[show 1=b.size by simpa using hc];exact XV _)))) fun hc=>?_;refine qx (fun al=>Xp (h _ _ (Kept.refl _) (YJ M1 sa U hl (by simpa using al)))) fun al=>?_;have a4:1<b.size:=by
  have:¬ 1=b.size:=by simpa using hc
  lia
 have az:0+1<a.size:=by
  have:¬ 0+1=a.size:=by simpa using al
  lia
 refine XG (Se ?_);refine XG (UE (V5 (I:=fun x c l=>∃d f g mg,c=(none,d,f,g,mg)/\MI rk a.toList b.toList f g d.toList/\f+1<a.size/\g<b.size/\x+1<=f+g/\Kept p l)
  (Q:=fun c l=>∃m,c.1=some m/\Mg rk a.toList b.toList m.toList/\Kept p l) ?step ?fin ⟨_,0,1,_,rfl,M1,az,a4,by lia,Kept.refl _⟩) ?post)
 case fin =>
  rintro c l ⟨d,f,g,mg,rfl,M,h1,h2,h3,k⟩
  lia
 case post =>
  rintro⟨c1,c2⟩ l ⟨m,e,hM,k⟩
  dsimp only at e ⊢
  subst e
  exact Xp (h _ _ k hM)
 case step =>
  intro x0 c ap _ aC hI
  refine via fun G n=>?_
  obtain⟨d,f,g,mg,rfl,M,h1,h2,h3,k1⟩:=hI
  refine n ?_
  clear n
  have a7:kindOf ap=κ:=k1.kind.trans hk
  dsimp -zeta only
  refine XG (UE (V5 (I:=fun x c l=>l=ap/\∃d f g H J,c=(none,d,f,g,H,J)/\MI rk a.toList b.toList f g d.toList/\f+1<a.size/\g<b.size/\x0+1+x<=f+g)
   (Q:=fun c l=>l=ap/\((∃m,c.1=some m/\Mg rk a.toList b.toList m.toList)\/∃d f g H J,c=(none,d,f,g,H,J)/\MI rk a.toList b.toList f g d.toList/\f+1<a.size/\g<b.size/\x0+2<=f+g)) ?step1 ?fin1 ⟨rfl,_,_,_,_,_,rfl,M,h1,h2,by lia⟩) ?post1)
  case fin1 =>
   rintro c l ⟨rfl,d,f,g,H,J,rfl,M,h1,h2,h3⟩
   exact⟨rfl,.inr ⟨d,f,g,H,J,rfl,M,h1,h2,by lia⟩⟩
  case step1 =>
   intro x c l _ hx hI
   refine via fun G n=>?_
   obtain⟨rfl,d,f,g,H,J,rfl,M,h1,h2,h3⟩:=hI
   obtain⟨y,ey,my⟩:=jv h2
   obtain⟨z,r,mz⟩:=jv (a:=a) (i:=f) (by lia)
   refine n ?_
   clear n
   dsimp -zeta only
   refine XG (je ey (XG (je r (XG (zkO T a7 (mb y my) (ma z mz) ?_)))))
   dsimp -zeta only
   refine qx (fun an=>?_) fun an=>?_
   ·have ab:rk y<rk z:=of_decide_eq_true an;have D:=MI.oneB M U ey fun v hv=>VC (V4 ab) (J6 sa r v hv);refine XG (je ey ?_);refine qx (fun he=>Xp ⟨rfl,.inl ⟨_,rfl,YI D sa (by rw[show g+1=b.size by simpa using he];exact XV _)⟩⟩) fun he=>?_;have ag:g+1<b.size:=by
     have:¬ g+1=b.size:=by simpa using he
     lia
    exact qx (fun _=>Xp ⟨rfl,.inr ⟨_,_,_,_,_,rfl,D,h1,ag,by lia⟩⟩) fun _=>Xp ⟨rfl,_,_,_,_,_,rfl,D,h1,ag,by lia⟩
   ·have ab:¬ rk y<rk z:=fun q=>an (decide_eq_true q);have D:=MI.oneA M sa r fun v hv=>VC (Ox.mp ab) (J6 U ey v hv);refine XG (je r ?_);refine qx (fun he=>Xp ⟨rfl,.inl ⟨_,rfl,YJ D sa U hl (by simpa using he)⟩⟩) fun he=>?_;have aa:f+1+1<a.size:=by
     have:¬ f+1+1=a.size:=by simpa using he
     lia
    exact qx (fun _=>Xp ⟨rfl,.inr ⟨_,_,_,_,_,rfl,D,aa,h2,by lia⟩⟩) fun _=>Xp ⟨rfl,_,_,_,_,_,rfl,D,aa,h2,by lia⟩
  case post1 =>
   intro c l hI
   refine via fun G n=>?_
   rcases hI with ⟨rfl,a5 | ⟨d,f,g,H,J,rfl,M,h1,h2,h3⟩⟩
   all_goals (refine n ?_;clear n)
   ·obtain⟨m,e,hM⟩:=a5;obtain⟨c1,c2⟩:=c;dsimp only at e ⊢;subst e;exact Xp ⟨m,rfl,hM,k1⟩
   dsimp -zeta only
   refine XG (Qr (Ut ⟨rfl,?_⟩))
   refine XG (UE (V5 (I:=fun x c B=>∃d f g mg H J,c=(none,d,f,g,mg,H,J)/\MI rk a.toList b.toList f g d.toList/\f+1<a.size/\g<b.size/\x0+2<=f+g/\Kept p B)
    (Q:=fun c B=>(∃m,c.1=some m/\Mg rk a.toList b.toList m.toList/\Kept p B)\/∃d f g mg H J,c=(none,d,f,g,mg,H,J)/\MI rk a.toList b.toList f g d.toList/\f+1<a.size/\g<b.size/\x0+2<=f+g/\Kept p B) ?step2 ?fin2 ⟨_,_,_,_,_,_,rfl,M,h1,h2,h3,k1⟩) ?post2)
   case fin2 =>
    rintro c B hc
    exact .inr hc
   case post2 =>
    rintro c B (⟨m,e,hM,k2⟩ | ⟨d,f,g,mg,H,J,rfl,M,h1,h2,h3,k2⟩)
    ·obtain⟨c1,c2⟩:=c;dsimp only at e ⊢;subst e;exact Xp ⟨m,rfl,hM,k2⟩
    ·dsimp -zeta only;exact XG (zeX k2 fun ax k3=>Xp ⟨_,_,_,_,rfl,M,h1,h2,by lia,k3⟩)
   case step2 =>
    intro x c B _ hx hI
    refine via fun G n=>?_
    obtain⟨d,f,g,mg,H,J,rfl,M,h1,h2,h3,k2⟩:=hI
    obtain⟨y,ey,my⟩:=jv h2
    refine n ?_
    clear n
    dsimp -zeta only
    refine' cut ?key1 fun o=>qx (fun a8=>?a1) fun a8=>?b1
    case a1 =>
     generalize mg-1=aw
     revert aw
     exact o.get
    case b1=>exact o.get mg
    intro aw
    dsimp -zeta only
    refine XG (zeX k2 fun ax k3=>?_)
    have au:kindOf ax=κ:=k3.kind.trans hk
    refine XG (je ey (XG (za5 T au (mb y my) ma (fun i j u v _ am _ eu L=>zis sa am eu L) (by lia) (by lia) fun k aA g1 g2=>?_)))
    dsimp -zeta only
    refine' cut ?key2 fun o=>qx (fun a6=>?a2) fun a6=>?b2
    case a2 =>
     have D:=MI.someA M sa U ey g1
     refine qx (fun he=>Xp (.inl ⟨_,rfl,YJ D sa U hl (by simpa using he),k3⟩)) fun he=>?_
     have aD:¬ f+k+1=a.size:=by simpa using he
     have kl:f+k<a.size:=by
      refine Nat.lt_of_not_le fun a9=>?_;obtain⟨v,L,mv⟩:=jv (a:=a) (i:=a.size-1) (by lia);have q1:=g1 (a.size-1-f) v (by lia) (by rw[show f+(a.size-1-f)=a.size-1 by lia];exact L);have q2:=av y my v L;lia
     refine qx (fun aq=>absurd (show f+k=a.size by simpa using aq) (by lia)) fun aq=>?_
     have aj:f+k+1<a.size:=by lia
     have ak:x0+2<=f+k+g:=by lia
     have ae:∀z,a[f+k]?=some z->rk y<=rk z:=fun z r=>V4 (g2 k z (XV _) (by lia) r)
     generalize d++a.extract f (f+k)=ah at D ⊢
     generalize f+k=O at D aj ak ae ⊢
     revert ae;revert ak;revert aj;revert D;revert O;revert ah
     exact o.get
    case b2=>exact o.get d f M h1 h3 fun z r=>V4 (g2 0 z (by lia) (by lia) (by simpa using r))
    intro ah O D aj ak ae
    refine via fun G n=>?_
    obtain⟨z,r,mz⟩:=jv (a:=a) (i:=O) (by lia)
    refine n ?_
    clear n
    have M3:=MI.oneB D U ey fun v hv=>VC (ae z r) (J6 sa r v hv)
    refine XG (je ey ?_)
    refine qx (fun he=>Xp (.inl ⟨_,rfl,YI M3 sa (by rw[show g+1=b.size by simpa using he];exact XV _),k3⟩)) fun he=>?_
    have ag:g+1<b.size:=by
     have:¬ g+1=b.size:=by simpa using he
     lia
    refine XG (je r (XG (za6 T au (ma z mz) mb (fun i j u v _ am _ eu L=>zis U am eu L) (by lia) (by lia) fun k' aB g3 g4=>?_)))
    dsimp -zeta only
    refine' cut ?key3 fun o=>qx (fun ar=>?a3) fun ar=>?b3
    case a3 =>
     have M4:=MI.someB M3 sa U r fun i u hi eu=>V4 (g3 i u hi eu)
     refine qx (fun he=>Xp (.inl ⟨_,rfl,YI M4 sa (by rw[show g+1+k'=b.size by simpa using he];exact XV _),k3⟩)) fun he=>?_
     have N:g+1+k'<b.size:=by
      have:¬ g+1+k'=b.size:=by simpa using he
      lia
     have af:∀v,b[g+1+k']?=some v->rk z<=rk v:=fun v L=>g4 k' v (XV _) (by lia) L
     have Y:x0+2<=O+(g+1+k'):=by lia
     generalize ah.push y++b.extract (g+1) (g+1+k')=ay at M4 ⊢
     generalize g+1+k'=ao at M4 N af Y ⊢
     revert Y;revert af;revert N;revert M4;revert ao;revert ay
     exact o.get
    case b3=>exact o.get (ah.push y) (g+1) M3 ag (fun v L=>g4 0 v (by lia) (by lia) (by simpa using L)) (by lia)
    intro ay ao M4 N af Y
    refine via fun G n=>?_
    obtain⟨v,L,mv⟩:=jv (a:=b) (i:=ao) N
    refine n ?_
    clear n
    have M5:=MI.oneA M4 sa r fun u hu=>VC (af v L) (J6 U L u hu)
    refine XG (je r ?_)
    refine qx (fun he=>Xp (.inl ⟨_,rfl,YJ M5 sa U hl (by simpa using he),k3⟩)) fun he=>?_
    have aa:O+1+1<a.size:=by
     have:¬ O+1+1=a.size:=by simpa using he
     lia
    exact qx (fun _=>Xp (.inr ⟨_,_,_,_,_,_,rfl,M5,aa,N,by lia,k3⟩)) fun _=>Xp ⟨_,_,_,_,_,_,rfl,M5,aa,N,by lia,k3⟩
end
end GS
namespace GS
def neg (rk:W4->Int):W4->Int:=fun x=>- rk x
theorem zbU {a:Array W4}{j:Nat}(h:j<a.size):a.reverse[j]?=a[a.size-1-j]?:=by
 rw[Pw h]
def Hi (rk:W4->Int)(a b:Array W4)(d e:Nat)(c:Array W4):Prop:=MI (neg rk) a.reverse.toList b.reverse.toList (a.size-d) (b.size-e) c.toList
section
variable {rk:W4->Int}{a b out:Array W4}{na nb:Nat}
theorem Z7 (sa:a.toList.Pairwise fun x y=>rk x<=rk y):a.reverse.toList.Pairwise fun x y=>neg rk x<=neg rk y:=by
 rw[Vj,Pf];exact sa.imp fun h=>SM h
theorem zcr {i:Nat}{x:W4}(h1:1<=i)(h2:i<=a.size)(e:a[i-1]?=some x):a.reverse[a.size-i]?=some x:=by
 rw[zbU (by lia),show a.size-1-(a.size-i)=i-1 by lia];exact e
theorem Hi.oneA {x y:W4}(M:Hi rk a b na nb out)(sa:a.toList.Pairwise fun x y=>rk x<=rk y)(i:b.toList.Pairwise fun x y=>rk x<=rk y)(h1:1<=na)(h2:na<=a.size)(e:1<=nb)(f:nb<=b.size)(c:a[na-1]?=some x)(d:b[nb-1]?=some y)(h:rk y<=rk x):Hi rk a b (na-1) nb (out.push x):=by
 have:=MI.oneA (rk:=neg rk) M (Z7 sa) (zcr h1 h2 c) fun v g=>VC (SM h) (J6 (Z7 i) (zcr e f d) v g);unfold Hi;rw[show a.size-(na-1)=a.size-na+1 by lia];exact this
theorem Hi.oneB {x y:W4}(M:Hi rk a b na nb out)(sa:a.toList.Pairwise fun x y=>rk x<=rk y)(i:b.toList.Pairwise fun x y=>rk x<=rk y)(h1:1<=na)(h2:na<=a.size)(e:1<=nb)(f:nb<=b.size)(c:a[na-1]?=some x)(d:b[nb-1]?=some y)(h:rk x<=rk y):Hi rk a b na (nb-1) (out.push y):=by
 have:=MI.oneB (rk:=neg rk) M (Z7 i) (zcr e f d) fun v g=>VC (SM h) (J6 (Z7 sa) (zcr h1 h2 c) v g);unfold Hi;rw[show b.size-(nb-1)=b.size-nb+1 by lia];exact this
theorem zmH {i j:Nat}(h1:i<=j)(h2:j<=a.size):(a.extract i j).reverse=a.reverse.extract (a.size-j) (a.size-j+(j-i)):=by
 apply Array.ext_getElem?;intro k;by_cases hk:k<j-i
 ·rw[Pw (by rw[Uq];lia),Sv,Sv,Uq];rw[if_pos (by lia),if_pos (by rw[U4];lia),zbU (by lia)];congr 1;lia
 ·rw[WF (by rw[U4,Uq];lia),WF (by rw[Uq,U4];lia)]
theorem Hi.someA {i:Nat}{y:W4}(M:Hi rk a b na nb out)(sa:a.toList.Pairwise fun x y=>rk x<=rk y)(g:b.toList.Pairwise fun x y=>rk x<=rk y)(h1:i<=na)(h2:na<=a.size)(e:1<=nb)(f:nb<=b.size)(d:b[nb-1]?=some y)(h:∀j x,i<=j->j<na->a[j]?=some x->rk y<=rk x):Hi rk a b i nb (out++(a.extract i na).reverse):=by
 have:=MI.someA (rk:=neg rk) (k:=na-i) M (Z7 sa) (Z7 g) (zcr e f d) fun j x l c=>SM (h (na-1-j) x (by lia) (by lia) (by
  rw[zbU (by lia)] at c;rw[<- c];congr 1;lia))
 unfold Hi;rw[zmH h1 h2,show a.size-i=a.size-na+(na-i) by lia];exact this
theorem Hi.someB {i:Nat}{y:W4}(M:Hi rk a b na nb out)(sa:a.toList.Pairwise fun x y=>rk x<=rk y)(f:b.toList.Pairwise fun x y=>rk x<=rk y)(h1:i<=nb)(h2:nb<=b.size)(d:1<=na)(e:na<=a.size)(c:a[na-1]?=some y)(h:∀j x,i<=j->j<nb->b[j]?=some x->rk y<=rk x):Hi rk a b na i (out++(b.extract i nb).reverse):=(Hi.someA (a:=b) (b:=a) M.swap f sa h1 h2 d e c h).swap
theorem zkT {c:List W4}(h:Mg (neg rk) b.reverse.toList a.reverse.toList c):Mg rk a.toList b.toList c.reverse:=by
 obtain⟨p,q⟩:=h;rw[Vj,Vj] at p;refine⟨?_,?_⟩
 ·refine(Rn _).trans (p.trans (T9.trans ?_));exact List.Perm.append (Rn _) (Rn _)
 ·rw[Pf];refine q.imp fun {x y} h=>?_;have d:- rk x<=- rk y:=h;lia
theorem zbV {i:Nat}(h:i<=a.size):(a.reverse.extract (a.size-i) a.reverse.size).toList.reverse=(a.extract 0 i).toList:=by
 rw[zav,Vj,ext_toList _ _ _ (W5 _),List.drop_zero,Nat.sub_zero];have:=List.reverse_take (l:=a.toList) (i:=i);rw[X2] at this;rw[<- this,OY]
theorem Hi.done (M:Hi rk a b 0 nb out)(d:b.toList.Pairwise fun x y=>rk x<=rk y)(h:nb<=b.size):Mg rk a.toList b.toList (a.extract 0 0++b.extract 0 nb++out.reverse).toList:=by
 have h1:=YI (rk:=neg rk) (a:=b.reverse) (b:=a.reverse) M.swap (Z7 d) (by rw[U4];lia);have h2:=zkT h1;rw[WD,WD,Tx,Tx,zbV h] at h2;have c:=zbV (a:=a) (i:=0) (W5 _);rw[c] at h2;rw[WD,WD,Vj,WY];exact h2
theorem Hi.first (M:Hi rk a b na 1 out)(sa:a.toList.Pairwise fun x y=>rk x<=rk y)(f:b.toList.Pairwise fun x y=>rk x<=rk y)(g:0<b.size)(h:na<=a.size)(h0:∀x y,b[0]?=some x->y∈a.toList->rk x<rk y):Mg rk a.toList b.toList (b.extract 0 1++a.extract 0 na++out.reverse).toList:=by
 have h1:=YJ (rk:=neg rk) (a:=b.reverse) (b:=a.reverse) M.swap (Z7 f) (Z7 sa) (fun x e y d=>by
  rw[U4,zbU (by lia),show b.size-1-(b.size-1)=0 by lia] at d;have c:x∈a.toList:=by simpa using e
  exact SM (V4 (h0 y x d c))) (by rw[U4];lia)
 have h2:=zkT h1;rw[WD,WD,Tx,Tx,zbV h,zbV (by lia)] at h2;rw[WD,WD,Vj,WY];exact h2
end
section
variable {prog:Xg}{w:WQ}{A:WH}{E:X9->X8->Prop}{s:X8}{rk:W4->Int}{κ:T0}{a0:Array W4}
set_option maxHeartbeats 8000000 in
theorem zjt {r:WK}{a b:Array W4}{Q:Array W4->WK->Prop}(T:Tells prog w A s κ rk a0)(hk:kindOf r=κ)(ma:∀x∈a.toList,x∈a0.toList)(mb:∀x∈b.toList,x∈a0.toList)(sa:a.toList.Pairwise fun x y=>rk x<=rk y)(B:b.toList.Pairwise fun x y=>rk x<=rk y)
  (ha:0<a.size) (hb:0<b.size) (h0:∀x y,b[0]?=some x->y∈a.toList->rk x<rk y) (hl:∀x∈b.toList,∀y,a[a.size-1]?=some y->rk x<rk y)
  (h:∀d l,Kept r l->Mg rk a.toList b.toList d.toList->Q d l):wpS (Xi prog w) A E s (mergeHi' a b) Q r:=by
 refine XG (Qr (Ut ⟨rfl,?_⟩));obtain⟨z0,aj,_⟩:=jv (a:=a) (i:=a.size-1) (by lia);obtain⟨y0,a7,aE⟩:=jv (a:=b) (i:=b.size-1) (by lia);refine XG (je aj ?_);have M0:Hi rk a b a.size b.size #[]:=by
  unfold Hi;rw[SU,SU];exact⟨by simp,List.Pairwise.nil,(fun x hx=>nomatch hx),(fun x hx=>nomatch hx)⟩
 have M1:Hi rk a b (a.size-1) b.size #[z0]:=M0.oneA sa B (by lia) (XV _) (by lia) (XV _) aj a7 (V4 (hl y0 aE z0 aj));dsimp -zeta only;refine qx (fun hc=>Xp (h _ _ (Kept.refl _) ?_)) fun hc=>?_
 ·have e:a.size-1=0:=by simpa using hc
  rw[e] at M1 ⊢;exact M1.done B (XV _)
 refine qx (fun am=>Xp (h _ _ (Kept.refl _) ?_)) fun am=>?_
 ·have e:b.size=1:=by simpa using am
  rw[e] at M1 ⊢;exact M1.first sa B hb (by lia) h0
 have a8:1<=a.size-1:=by
  have:¬ a.size-1=0:=by simpa using hc
  lia
 have a9:1<b.size:=by
  have:¬ b.size=1:=by simpa using am
  lia
 refine XG (Se ?_);refine XG (UE (V5 (I:=fun x c l=>∃g f d mg,c=(none,g,f,d,mg)/\Hi rk a b g f d/\1<=g/\g<a.size/\1<f/\f<=b.size/\g+f+x+1<=a.size+b.size/\Kept r l)
  (Q:=fun c l=>∃m,c.1=some m/\Mg rk a.toList b.toList m.toList/\Kept r l) ?step ?fin ⟨_,_,_,_,rfl,M1,a8,by lia,a9,XV _,by lia,Kept.refl _⟩) ?post)
 case fin =>
  rintro c l ⟨g,f,d,mg,rfl,M,h1,h2,h3,n,h5,k⟩
  lia
 case post =>
  rintro⟨c1,c2⟩ l ⟨m,e,hM,k⟩
  dsimp only at e ⊢
  subst e
  exact Xp (h _ _ k hM)
 case step =>
  intro x0 c au _ aH hI
  refine via fun G N=>?_
  obtain⟨g,f,d,mg,rfl,M,h1,h2,h3,n,h5,k1⟩:=hI
  refine N ?_
  clear N
  have aC:kindOf au=κ:=k1.kind.trans hk
  dsimp -zeta only
  refine XG (UE (V5 (I:=fun x c l=>l=au/\∃g f d U Y,c=(none,g,f,d,U,Y)/\Hi rk a b g f d/\1<=g/\g<a.size/\1<f/\f<=b.size/\g+f+x0+1+x<=a.size+b.size)
   (Q:=fun c l=>l=au/\((∃m,c.1=some m/\Mg rk a.toList b.toList m.toList)\/∃g f d U Y,c=(none,g,f,d,U,Y)/\Hi rk a b g f d/\1<=g/\g<a.size/\1<f/\f<=b.size/\g+f+x0+2<=a.size+b.size)) ?step1 ?fin1 ⟨rfl,_,_,_,_,_,rfl,M,h1,h2,h3,n,by lia⟩) ?post1)
  case fin1 =>
   rintro c l ⟨rfl,g,f,d,U,Y,rfl,M,h1,h2,h3,n,h5⟩
   exact⟨rfl,.inr ⟨g,f,d,U,Y,rfl,M,h1,h2,h3,n,by lia⟩⟩
  case step1 =>
   intro x c l _ hx hI
   refine via fun G N=>?_
   obtain⟨rfl,g,f,d,U,Y,rfl,M,h1,h2,h3,n,h5⟩:=hI
   obtain⟨y,ey,my⟩:=jv (a:=b) (i:=f-1) (by lia)
   obtain⟨z,D,mz⟩:=jv (a:=a) (i:=g-1) (by lia)
   refine N ?_
   clear N
   dsimp -zeta only
   refine XG (je ey (XG (je D (XG (zkO T aC (mb y my) (ma z mz) ?_)))))
   dsimp -zeta only
   refine qx (fun aq=>?_) fun aq=>?_
   ·have ae:rk y<rk z:=of_decide_eq_true aq;have o:=M.oneA sa B h1 (by lia) (by lia) n D ey (V4 ae);refine XG (je D ?_);refine qx (fun he=>Xp ⟨rfl,.inl ⟨_,rfl,?_⟩⟩) fun he=>?_
    ·have e:g-1=0:=by simpa using he
     rw[e] at o ⊢;exact o.done B n
    have hn:1<=g-1:=by
     have:¬ g-1=0:=by simpa using he
     lia
    exact qx (fun _=>Xp ⟨rfl,.inr ⟨_,_,_,_,_,rfl,o,hn,by lia,h3,n,by lia⟩⟩) fun _=>Xp ⟨rfl,_,_,_,_,_,rfl,o,hn,by lia,h3,n,by lia⟩
   ·have ae:¬ rk y<rk z:=fun q=>aq (decide_eq_true q);have o:=M.oneB sa B h1 (by lia) (by lia) n D ey (Ox.mp ae);refine XG (je ey ?_);refine qx (fun he=>Xp ⟨rfl,.inl ⟨_,rfl,?_⟩⟩) fun he=>?_
    ·have e:f-1=1:=by simpa using he
     rw[e] at o ⊢;exact o.first sa B hb (by lia) h0
    have hn:1<f-1:=by
     have:¬ f-1=1:=by simpa using he
     lia
    exact qx (fun _=>Xp ⟨rfl,.inr ⟨_,_,_,_,_,rfl,o,h1,h2,hn,by lia,by lia⟩⟩) fun _=>Xp ⟨rfl,_,_,_,_,_,rfl,o,h1,h2,hn,by lia,by lia⟩
  case post1 =>
   intro c l hI
   refine via fun G N=>?_
   rcases hI with ⟨rfl,aA | ⟨g,f,d,U,Y,rfl,M,h1,h2,h3,n,h5⟩⟩
   all_goals (refine N ?_;clear N)
   ·obtain⟨m,e,hM⟩:=aA;obtain⟨c1,c2⟩:=c;dsimp only at e ⊢;subst e;exact Xp ⟨m,rfl,hM,k1⟩
   dsimp -zeta only
   refine XG (Qr (Ut ⟨rfl,?_⟩))
   refine XG (UE (V5 (I:=fun x c L=>∃g f d mg U Y,c=(none,g,f,d,mg,U,Y)/\Hi rk a b g f d/\1<=g/\g<a.size/\1<f/\f<=b.size/\g+f+x0+2<=a.size+b.size/\Kept r L)
    (Q:=fun c L=>(∃m,c.1=some m/\Mg rk a.toList b.toList m.toList/\Kept r L)\/∃g f d mg U Y,c=(none,g,f,d,mg,U,Y)/\Hi rk a b g f d/\1<=g/\g<a.size/\1<f/\f<=b.size/\g+f+x0+2<=a.size+b.size/\Kept r L) ?step2 ?fin2 ⟨_,_,_,_,_,_,rfl,M,h1,h2,h3,n,h5,k1⟩) ?post2)
   case fin2 =>
    rintro c L hc
    exact .inr hc
   case post2 =>
    rintro c L (⟨m,e,hM,k2⟩ | ⟨g,f,d,mg,U,Y,rfl,M,h1,h2,h3,n,h5,k2⟩)
    ·obtain⟨c1,c2⟩:=c;dsimp only at e ⊢;subst e;exact Xp ⟨m,rfl,hM,k2⟩
    ·dsimp -zeta only;exact XG (zeX k2 fun a5 k3=>Xp ⟨_,_,_,_,rfl,M,h1,h2,h3,n,by lia,k3⟩)
   case step2 =>
    intro x c L _ hx hI
    refine via fun G N=>?_
    obtain⟨g,f,d,mg,U,Y,rfl,M,h1,h2,h3,n,h5,k2⟩:=hI
    obtain⟨y,ey,my⟩:=jv (a:=b) (i:=f-1) (by lia)
    refine N ?_
    clear N
    dsimp -zeta only
    refine' cut ?key1 fun p=>qx (fun aD=>?a1) fun aD=>?b1
    case a1 =>
     generalize mg-1=a4
     revert a4
     exact p.get
    case b1=>exact p.get mg
    intro a4
    dsimp -zeta only
    refine XG (zeX k2 fun a5 k3=>?_)
    have ax:kindOf a5=κ:=k3.kind.trans hk
    refine XG (je ey (XG (za5 T ax (mb y my) ma (fun i j u v _ an _ eu ev=>zis sa an eu ev) (by lia) (by lia) fun k aF g1 g2=>?_)))
    dsimp -zeta only
    refine' cut ?key2 fun p=>qx (fun aB=>?a2) fun aB=>?b2
    case a2 =>
     have o:=M.someA sa B (i:=k) (by lia) (by lia) (by lia) n ey fun j u ao ap eu=>V4 (g2 j u ao ap (by simpa using eu))
     refine qx (fun he=>Xp (.inl ⟨_,rfl,(by
      have e:k=0:=by simpa using he
      rw[e] at o ⊢;exact o.done B n),k3⟩)) fun he=>?_
     have aa:1<=k:=by
      have:¬ k=0:=by simpa using he
      lia
     have ak:k<a.size:=by lia
     have al:k+f+x0+2<=a.size+b.size:=by lia
     have ag:∀z,a[k-1]?=some z->rk z<=rk y:=fun z D=>g1 (k-1) z (by lia) (by simpa using D)
     generalize d++(a.extract k g).reverse=ai at o ⊢
     generalize g-k=kk
     generalize k=J at o aa ak al ag ⊢
     revert ag;revert al;revert ak;revert aa;revert o;revert J;revert kk;revert ai
     exact p.get
    case b2=>exact p.get d (g-k) g M h1 h2 h5 fun z D=>g1 (g-1) z (by lia) (by simpa using D)
    intro ai kk J o aa ak al ag
    refine via fun G N=>?_
    obtain⟨z,D,mz⟩:=jv (a:=a) (i:=J-1) (by lia)
    refine N ?_
    clear N
    have M3:=o.oneB sa B aa (by lia) (by lia) n D ey (ag z D)
    refine XG (je ey ?_)
    refine qx (fun he=>Xp (.inl ⟨_,rfl,(by
     have e:f-1=1:=by simpa using he
     rw[e] at M3 ⊢;exact M3.first sa B hb (by lia) h0),k3⟩)) fun he=>?_
    have hn:1<f-1:=by
     have:¬ f-1=1:=by simpa using he
     lia
    refine XG (je D (XG (za6 T ax (ma z mz) mb (fun i j u v _ an _ eu ev=>zis B an eu ev) (by lia) (by lia) fun O aG g3 g4=>?_)))
    dsimp -zeta only
    refine' cut ?key3 fun p=>qx (fun aw=>?a3) fun aw=>?b3
    case a3 =>
     have M4:=M3.someB sa B (i:=O) (by lia) (by lia) aa (by lia) D fun j u ao ap eu=>g4 j u ao ap (by simpa using eu)
     refine qx (fun he=>Xp (.inl ⟨_,rfl,(by
      have e:O=1:=by simpa using he
      rw[e] at M4 ⊢;exact M4.first sa B hb (by lia) h0),k3⟩)) fun he=>?_
     have aI:1<=O:=by
      refine Pu.mpr fun hz=>?_;obtain⟨v,ev,mv⟩:=jv (a:=b) (i:=0) hb;have q1:=g4 0 v (by lia) (by lia) (by simpa using ev);have q2:=h0 v z ev mz;lia
     refine qx (fun av=>absurd (show O=0 by simpa using av) (by lia)) fun av=>?_
     have af:1<O:=by
      have:¬ O=1:=by simpa using he
      lia
     have H:O<=b.size:=by lia
     have ab:J+O+x0+2<=a.size+b.size:=by lia
     have ah:∀v,b[O-1]?=some v->rk v<=rk z:=fun v ev=>V4 (g3 (O-1) v (by lia) (by simpa using ev))
     generalize ai.push y++(b.extract O (f-1)).reverse=a6 at M4 ⊢
     generalize f-1-O=az
     generalize O=ar at M4 af H ab ah ⊢
     revert ah;revert ab;revert H;revert af;revert M4;revert ar;revert az;revert a6
     exact p.get
    case b3=>exact p.get (ai.push y) (f-1-O) (f-1) M3 hn (by lia) (by lia) fun v ev=>V4 (g3 (f-1-1) v (by lia) (by simpa using ev))
    intro a6 az ar M4 af H ab ah
    obtain⟨v,ev,mv⟩:=jv (a:=b) (i:=ar-1) (by lia)
    have M5:=M4.oneA sa B aa (by lia) (by lia) H D ev (ah v ev)
    refine XG (je D ?_)
    refine qx (fun he=>Xp (.inl ⟨_,rfl,(by
     have e:J-1=0:=by simpa using he
     rw[e] at M5 ⊢;exact M5.done B H),k3⟩)) fun he=>?_
    have ay:1<=J-1:=by
     have:¬ J-1=0:=by simpa using he
     lia
    exact qx (fun _=>Xp (.inr ⟨_,_,_,_,_,_,rfl,M5,ay,by lia,af,H,by lia,k3⟩)) fun _=>Xp ⟨_,_,_,_,_,_,rfl,M5,ay,by lia,af,H,by lia,k3⟩
end
end GS
namespace GS
theorem zdV (sa:Nat):∀(l:List W4) (j:Nat) (b:Array W4),((l.zipIdx j).foldl (fun a (p:W4×Nat)=>a.setIfInBounds (sa+p.2) p.1) b).size=b.size
 | [],_,_=>rfl
 | x::l,j,b=>by
  rw[List.zipIdx_cons,VT,zdV sa l (j+1)];exact Ts
theorem zmI (sa:Nat):∀(l:List W4) (j:Nat) (b:Array W4) (i:Nat),sa+j+l.length<=b.size->((l.zipIdx j).foldl (fun a (p:W4×Nat)=>a.setIfInBounds (sa+p.2) p.1) b)[i]?=if sa+j<=i/\i<sa+j+l.length then l[i-(sa+j)]? else b[i]?:=by
 intro l;induction l with
 | nil =>
  intro j b i h;rw[if_neg (by simp only[UX];lia)];rfl
 | cons x l c =>
  intro j b i h;rw[Xr] at h;rw[List.zipIdx_cons,VT,c (j+1) _ i (by rw[Ts];lia),Xr];by_cases h1:sa+(j+1)<=i/\i<sa+(j+1)+l.length
  ·rw[if_pos h1,if_pos (by lia),show i-(sa+j)=(i-(sa+(j+1)))+1 by lia,PU]
  ·rw[if_neg h1];by_cases h2:i=sa+j
   ·subst h2;rw[if_pos (by lia),SU,List.getElem?_cons_zero];show (b.setIfInBounds (sa+j) x)[sa+j]?=some x;rw[Ud,if_pos rfl,if_pos (by lia)]
   ·rw[if_neg (by lia)];show (b.setIfInBounds (sa+j) x)[i]?=b[i]?;rw[Ud,if_neg (fun e=>h2 e.symm)]
section
variable {prog:Xg}{w:WQ}{A:WH}{E:X9->X8->Prop}{s:X8}{rk:W4->Int}{κ:T0}{a0:Array W4}
theorem xC {xs:Array W4}{lo a:Nat}(u:Up rk xs lo a){i j:Nat}{x y:W4}(h1:lo<=i)(h2:i<=j)(d:j<a)(b:xs[i]?=some x)(c:xs[j]?=some y):rk x<=rk y:=by
 have:=u i j h1 h2 d;unfold Rk at this;rw[b,c] at this;exact this
theorem znB {xs:Array W4}{lo b:Nat}(f:b<=xs.size)(h:∀i j x y,lo<=i->i<=j->j<b->xs[i]?=some x->xs[j]?=some y->rk x<=rk y):Up rk xs lo b:=fun i j h1 h2 e=>by
 obtain⟨x,c,_⟩:=jv (a:=xs) (i:=i) (by lia);obtain⟨y,d,_⟩:=jv (a:=xs) (i:=j) (by lia);unfold Rk;rw[c,d];exact h i j x y h1 h2 e c d
theorem zit {xs:Array W4}{i:Nat}{x:W4}(e:xs[i]?=some x):x∈xs.toList:=X4 (by rw[Xq];exact e)
theorem ext_get {xs:Array W4}{i j k:Nat}(h1:i<=j)(h2:j<=xs.size)(hk:k<j-i):(xs.extract i j)[k]?=xs[i+k]?:=by
 rw[Sv,if_pos (by lia)]
theorem zaw {xs:Array W4}{i j:Nat}(h2:j<=xs.size):(xs.extract i j).size=j-i:=by
 rw[Uq];lia
theorem zkU {xs:Array W4}{lo b i j:Nat}(u:Up rk xs lo b)(h1:lo<=i)(h2:j<=b)(a:j<=xs.size):(xs.extract i j).toList.Pairwise fun x y=>rk x<=rk y:=by
 rw[Vs];intro m n c d g;rw[X2,zaw a] at c d;have e:=ext_get (xs:=xs) (i:=i) (j:=j) (k:=m) (by lia) a c;have f:=ext_get (xs:=xs) (i:=i) (j:=j) (k:=n) (by lia) a d;refine xC u (i:=i+m) (j:=i+n) (by lia) (by lia) (by lia) ?_ ?_
 ·rw[<- e,UO];exact getElem?_pos _ _ _
 ·rw[<- f,UO];exact getElem?_pos _ _ _
theorem ext_mem {xs:Array W4}{i j:Nat}{x:W4}(a:j<=xs.size)(h:x∈(xs.extract i j).toList):∃k,i<=k/\k<j/\xs[k]?=some x:=by
 obtain⟨k,hk,e⟩:=Tz h;rw[X2,zaw a] at hk;refine⟨i+k,by lia,by lia,?_⟩;rw[<- ext_get (xs:=xs) (i:=i) (j:=j) (by lia) a hk,<- e,UO];exact getElem?_pos _ _ _
theorem zp6 {st a:WK}{Q:PUnit->WK->Prop}(h:∀b,b=a->Q ⟨⟩ b):wpS (Xi prog w) A E s (set a:StateT WK Sem PUnit) Q st:=by
 unfold wpS;rw[StateT.run_set];exact XU ⟨rfl,h _ rfl⟩
set_option maxHeartbeats 8000000 in
theorem zju {st:WK}{i sa b p1 J p2:Nat}{Q:Bool->WK->Prop}(T:Tells prog w A s κ rk a0)(O:Ok κ a0 st)(e1:(WJ st)[i]?=some (sa,b,p1))(e2:(WJ st)[i+1]?=some (sa+b,J,p2))(aq:1<=b)(ar:1<=J)(hz:sa+b+J<=a0.size)(u1:Up rk (Xn st) sa (sa+b))(u2:Up rk (Xn st) (sa+b) (sa+b+J))
  (h:∀B,Ok κ a0 B->WJ B=((WJ st).setIfInBounds i (sa,b+J,p1)).eraseIdxIfInBounds (i+1)->Up rk (Xn B) sa (sa+b+J)->(∀j:Nat,(j<sa\/sa+b+J<=j)->(Xn B)[j]?=(Xn st)[j]?)->Q true B):wpS (Xi prog w) A E s (mergeAt' i) Q st:=by
 have aj:=O.size;have mX:∀x∈(Xn st).toList,x∈a0.toList:=fun x hx=>(U3.mp O.perm).mem_iff.mp hx;obtain⟨b0,r,am⟩:=jv (a:=Xn st) (i:=sa+b) (by lia);refine XG (Se ?_);rw[e1,e2];dsimp only;refine XG (zp6 fun n U=>?_);have k1:kindOf n=κ:=by rw[U];exact O.kind
 have ea:Xn n=Xn st:=by rw[U]
 have ep:WJ n=((WJ st).setIfInBounds i (sa,b+J,p1)).eraseIdxIfInBounds (i+1):=by rw[U]
 have ef:SY n=none:=by rw[U];exact O.good
 have O1:Ok κ a0 n:=⟨by rw[ea];exact O.perm,k1,ef⟩;refine XG (je r (XG (za5 T k1 (mX b0 am) mX (fun p q u v h1 h2 I G H=>xC u1 h1 h2 I G H) (by show sa+b<=(Xn st).size;lia) (by lia) fun k hk g1 g2=>?_)));dsimp only;refine qx (fun hc=>Xp (h n O1 ep (znB (by rw[ea];lia) fun p q u v h1 h2 I G H=>?_) fun j _=>by rw[ea])) fun hc=>?_
 ·have ek:k=b:=by
   have:b-k=0:=by simpa using hc
   lia
  rw[ea] at G H;by_cases c1:q<sa+b
  ·exact xC u1 h1 h2 c1 G H
  ·by_cases c2:p<sa+b
   ·have q1:=g1 (p-sa) u (by lia) (by rw[show sa+(p-sa)=p by lia];exact G);have q2:=xC u2 (XV _) (by lia) I r H;lia
   ·exact xC u2 (by lia) h2 I G H
 have ap:k<b:=by
  have:¬ b-k=0:=by simpa using hc
  lia
 obtain⟨al,af,ak⟩:=jv (a:=Xn st) (i:=sa+k+(b-k)-1) (by lia);have o:(Xn st)[sa+b-1]?=some al:=by
  rw[<- af];congr 1;lia
 refine XG (je af (XG (za6 T k1 (mX al ak) mX (fun p q u v h1 h2 I G H=>xC u2 h1 h2 I G H) (by show sa+b+J<=(Xn st).size;lia) (by lia) fun g ao g3 g4=>?_)));dsimp only;have an:rk b0<rk al:=g2 (b-1) al (by lia) (by lia) (by rw[show sa+(b-1)=sa+b-1 by lia];exact o);have av:1<=g:=by
  refine Pu.mpr fun au=>?_;have:=g4 0 b0 (by lia) (by lia) (by simpa using r);lia
 refine qx (fun hc=>absurd (show g=0 by simpa using hc) (by lia)) fun _=>?_;have X3:sa+b<=(Xn st).size:=by lia
 have Y3:sa+b+g<=(Xn st).size:=by lia
 have xs:=zkU (i:=sa+k) (j:=sa+b) u1 (by lia) (XV _) X3;have ys:=zkU (i:=sa+b) (j:=sa+b+g) u2 (XV _) (by lia) Y3;have xm:∀x∈((Xn st).extract (sa+k) (sa+b)).toList,x∈a0.toList:=fun x hx=>by
  obtain⟨j,_,_,ej⟩:=ext_mem X3 hx;exact mX x (zit ej)
 have ym:∀x∈((Xn st).extract (sa+b) (sa+b+g)).toList,x∈a0.toList:=fun x hx=>by
  obtain⟨j,_,_,ej⟩:=ext_mem Y3 hx;exact mX x (zit ej)
 have xz:((Xn st).extract (sa+k) (sa+b)).size=b-k:=by
  rw[zaw X3];lia
 have yz:((Xn st).extract (sa+b) (sa+b+g)).size=g:=by
  rw[zaw Y3];lia
 have first:∀x y,((Xn st).extract (sa+b) (sa+b+g))[0]?=some x->y∈((Xn st).extract (sa+k) (sa+b)).toList->rk x<rk y:=fun x y ex my=>by
  rw[ext_get (by lia) Y3 (by lia),SQ,r] at ex;cases ex;obtain⟨j,j1,j2,ej⟩:=ext_mem X3 my;exact g2 (j-sa) y (by lia) (by lia) (by rw[show sa+(j-sa)=j by lia];exact ej)
 have aa:∀x∈((Xn st).extract (sa+b) (sa+b+g)).toList,∀y,((Xn st).extract (sa+k) (sa+b))[((Xn st).extract (sa+k) (sa+b)).size-1]?=some y->rk x<rk y:=fun x mx y ey=>by
  rw[xz,ext_get (by lia) X3 (by lia),show sa+k+(b-k-1)=sa+b-1 by lia,o] at ey;cases ey;obtain⟨j,j1,j2,ej⟩:=ext_mem Y3 mx;exact g3 (j-(sa+b)) x (by lia) (by rw[show sa+b+(j-(sa+b))=j by lia];exact ej)
 have ab:∀(merged:Array W4) (f:WK),Kept n f->Mg rk ((Xn st).extract (sa+k) (sa+b)).toList ((Xn st).extract (sa+b) (sa+b+g)).toList merged.toList ->
   Q true (setArr f (merged.toList.zipIdx.foldl (fun a (p:W4×Nat)=>a.setIfInBounds (sa+k+p.2) p.1) (Xn f))):=fun merged f D Y=>by
  have ac:Xn f=Xn st:=D.arr.trans ea;have ml:merged.toList.length=b-k+g:=by
   rw[Y.1.length_eq,XW,X2,X2,xz,yz]
  have L:∀j:Nat,(merged.toList.zipIdx.foldl (fun a (p:W4×Nat)=>a.setIfInBounds (sa+k+p.2) p.1) (Xn f))[j]?=if sa+k<=j/\j<sa+b+g then merged.toList[j-(sa+k)]? else (Xn st)[j]?:=fun j=>by
   have:=zmI (sa+k) merged.toList 0 (Xn f) j (by rw[ac,ml];lia);rw[this,ac,SQ,ml];by_cases c:sa+k<=j/\j<sa+b+g
   ·rw[if_pos c,if_pos (by lia)]
   ·rw[if_neg c,if_neg (by lia)]
  have zA:=zdV (sa+k) merged.toList 0 (Xn f);generalize hN:merged.toList.zipIdx.foldl (fun a (p:W4×Nat)=>a.setIfInBounds (sa+k+p.2) p.1) (Xn f)=N at L zA ⊢;have zN:N.size=a0.size:=by
   rw[zA,ac,aj]
  have nl:N.toList=(Xn st).toList.take (sa+k)++merged.toList++(Xn st).toList.drop (sa+b+g):=by
   refine T3 fun j=>?_;rw[Xq,L j];by_cases c1:j<sa+k
   ·rw[if_neg (by lia),WY,V8 (by rw[XE,X2];lia),List.getElem?_take,if_pos c1,Xq]
   ·rw[WY,VU (by rw[XE,X2];lia),XE,X2,show min (sa+k) (Xn st).size=sa+k by lia];by_cases c2:j<sa+b+g
    ·rw[if_pos ⟨by lia,c2⟩,V8 (by rw[ml];lia)]
    ·rw[if_neg (by lia),VU (by rw[ml];lia),Td,Xq,ml];congr 1;lia
  have ol:(Xn st).toList=(Xn st).toList.take (sa+k)++(((Xn st).extract (sa+k) (sa+b)).toList++((Xn st).extract (sa+b) (sa+b+g)).toList)++(Xn st).toList.drop (sa+b+g):=by
   rw[ext_toList _ _ _ (by lia),ext_toList _ _ _ (by lia)];have d1:(Xn st).toList.drop (sa+b)=((Xn st).toList.drop (sa+k)).drop (b-k):=by
    rw[O4];congr 1;lia
   have d2:(Xn st).toList.drop (sa+b+g)=((Xn st).toList.drop (sa+b)).drop g:=by
    rw[O4]
   rw[d2,show sa+b+g-(sa+b)=g by lia,WY,WY,Wy,d1,show sa+b-(sa+k)=b-k by lia,Wy,Wy]
  refine h _ ⟨?_,D.kind.trans k1,D.bad.trans ef⟩ (D.pend.trans ep) (znB (by show _<=N.size;lia) fun p q u v h1 h2 I G H=>?_) fun j hj=>?_
  ·refine Array.Perm.trans ?_ O.perm;rw[U3];show N.toList.Perm _;have pm:=List.Perm.append_right ((Xn st).toList.drop (sa+b+g)) (Sr ((Xn st).toList.take (sa+k)) Y.1);rw[<- ol,<- nl] at pm;exact pm
  ·have l:N[p]?=some u:=G;have d:N[q]?=some v:=H;rw[L] at l d;have ah:∀{j:Nat} {x:W4},sa+k<=j->j<sa+b+g->merged.toList[j-(sa+k)]?=some x->(∃m,sa+k<=m/\m<sa+b/\(Xn st)[m]?=some x)\/∃m,sa+b<=m/\m<sa+b+g/\(Xn st)[m]?=some x:=fun _ _ e=>by
    rcases XF.mp (Y.1.mem_iff.mp (X4 e)) with z | z
    ·exact .inl (ext_mem X3 z)
    ·exact .inr (ext_mem Y3 z)
   by_cases c1:p<sa+k
   ·rw[if_neg (by lia)] at l;by_cases c2:q<sa+k
    ·rw[if_neg (by lia)] at d;exact xC u1 h1 h2 (by lia) l d
    ·have ag:∀{m:Nat} {x:W4},sa+b<=m->m<sa+b+J->(Xn st)[m]?=some x->rk u<=rk x:=fun m1 m2 M=>by
      have q1:=g1 (p-sa) u (by lia) (by rw[show sa+(p-sa)=p by lia];exact l);exact VC q1 (xC u2 (XV _) m1 m2 r M)
     by_cases c3:q<sa+b+g
     ·rw[if_pos ⟨by lia,c3⟩] at d;rcases ah (by lia) c3 d with ⟨m,m1,m2,M⟩ | ⟨m,m1,m2,M⟩
      ·exact xC u1 h1 (by lia) m2 l M
      ·exact ag m1 (by lia) M
     ·rw[if_neg (by lia)] at d;exact ag (by lia) I d
   ·by_cases c4:p<sa+b+g
    ·rw[if_pos ⟨by lia,c4⟩] at l;by_cases c3:q<sa+b+g
     ·rw[if_pos ⟨by lia,c3⟩] at d;by_cases ai:p=q
      ·subst ai;rw[l] at d;cases d;exact U8 _
      ·have sp:=Y.2;rw[Vs] at sp;obtain⟨a1,a2⟩:=XZ.mp l;obtain⟨b1,b2⟩:=XZ.mp d;have:=sp _ _ a1 b1 (by lia);rw[a2,b2] at this;exact this
     ·rw[if_neg (by lia)] at d;have q4:=g4 (q-(sa+b)) v (by lia) (by lia) (by rw[show sa+b+(q-(sa+b))=q by lia];exact d);rcases ah (by lia) c4 l with ⟨m,m1,m2,M⟩ | ⟨m,m1,m2,M⟩
      ·exact VC (xC u1 (by lia) (by lia) (by lia) M o) q4
      ·exact xC u2 m1 (by lia) I M d
    ·rw[if_neg (by lia)] at l d;exact xC u2 (by lia) h2 I l d
  ·show N[j]?=_;rw[L,if_neg (by lia)]
 refine qx (fun _=>?_) fun _=>?_
 ·refine XG (zjs T k1 xm ym xs ys (Tb (show 0<b-k by lia) xz.symm) (Tb (show 0<g by lia) yz.symm) (fun x y ex my=>V4 (first x y ex my)) aa fun ae f D Y=>?_);refine XG (Tg (XG (Se ?_)));rw[show (SY f).isNone=true by rw[D.bad,ef];rfl];exact Xp (ab ae f D Y)
 ·refine XG (zjt T k1 xm ym xs ys (Tb (show 0<b-k by lia) xz.symm) (Tb (show 0<g by lia) yz.symm) first aa fun ae f D Y=>?_);refine XG (Tg (XG (Se ?_)));rw[show (SY f).isNone=true by rw[D.bad,ef];rfl];exact Xp (ab ae f D Y)
end
end GS
namespace GS
def QA:List (Nat×Nat×Nat)->Nat->Nat->Prop
 | [],s,e=>s=e
 | r::l,s,e=>r.1=s/\1<=r.2.1/\QA l (s+r.2.1) e
theorem xh:∀{l1 l2:List (Nat×Nat×Nat)} {s e:Nat},QA (l1++l2) s e ↔ ∃m,QA l1 s m/\QA l2 m e
 | [],l2,s,e=>⟨fun h=>⟨s,rfl,h⟩,fun ⟨m,h1,h2⟩=>by
  have e:s=m:=h1;subst e;exact h2⟩
 | r::l1,l2,s,e=>by
  constructor
  ·rintro⟨h1,h2,h3⟩;obtain⟨m,a,b⟩:=xh.mp h3;exact⟨m,⟨h1,h2,a⟩,b⟩
  ·rintro⟨m,⟨h1,h2,h3⟩,a⟩;exact⟨h1,h2,xh.mpr ⟨m,h3,a⟩⟩
theorem YK:∀{l:List (Nat×Nat×Nat)} {s e:Nat},QA l s e->s<=e/\l.length+s<=e/\∀r∈l,s<=r.1/\r.1+r.2.1<=e
 | [],s,e,h=>by
  have b:s=e:=h;subst b;exact⟨XV _,by simp,fun r d=>nomatch d⟩
 | r::l,s,e,⟨h1,h2,c⟩=>by
  obtain⟨f,g,a⟩:=YK c;refine⟨by lia,by rw[Xr];lia,fun q hq=>?_⟩;rcases XJ.mp hq with rfl | hq
  ·lia
  ·have:=a q hq;lia
section
variable {prog:Xg}{w:WQ}{A:WH}{E:X9->X8->Prop}{s:X8}{rk:W4->Int}{κ:T0}{a0:Array W4}
structure PI (rk:W4->Int)(κ:T0)(a0:Array W4)(lo:Nat)(st:WK):Prop where
 ok:Ok κ a0 st
 til:QA (WJ st).toList 0 lo
 up:∀r∈(WJ st).toList,Up rk (Xn st) r.1 (r.1+r.2.1)
theorem zbW {xs ys:Array W4}{lo a:Nat}(u:Up rk xs lo a)(h:∀j:Nat,lo<=j->j<a->ys[j]?=xs[j]?):Up rk ys lo a:=fun i j h1 h2 b=>by
 rw[JR (h i h1 (by lia)),JR (h j (by lia) b)];exact u i j h1 h2 b
theorem zoA {p:List (Nat×Nat×Nat)}{i:Nat}(h:i+1<p.length):∃l1 a b l2,p=l1++a::b::l2/\l1.length=i/\p[i]?=some a/\p[i+1]?=some b:=by
 refine⟨p.take i,p[i],p[i+1],p.drop (i+2),?_,by rw[XE];lia,X7 (by lia),X7 h⟩;rw[<- WB h,<- WB (by lia),Wy]
theorem zfS {st:WK}{lo i:Nat}{Q:Bool->WK->Prop}(T:Tells prog w A s κ rk a0)(P:PI rk κ a0 lo st)(M:i+1<(WJ st).size)(N:lo<=a0.size)
  (h:∀a,PI rk κ a0 lo a->(WJ a).size+1=(WJ st).size->(∀j:Nat,lo<=j->(Xn a)[j]?=(Xn st)[j]?)->Q true a):wpS (Xi prog w) A E s (mergeAt' i) Q st:=by
 obtain⟨n,⟨sa,c,B⟩,⟨sb,d,U⟩,O,f,L,y,z⟩:=zoA (p:=(WJ st).toList) (i:=i) (by rw[X2];exact M);have g:=P.til;rw[f] at g;obtain⟨m,D,⟨q,u,v,x,k⟩⟩:=xh.mp g;dsimp only at q u v x k;subst q;subst v;rw[Xq] at y z;have u1:=P.up (sa,c,B) (by rw[f];simp);have G:=P.up (sa+c,d,U) (by rw[f];simp);dsimp only at u1 G;obtain⟨Y,b2,I⟩:=YK k;obtain⟨c1,c2,J⟩:=YK D;refine zju T P.ok y z u x (by lia) u1 G fun a H l o b=>?_;have e:(WJ a).toList=n++(sa,c+d,B)::O:=by
  rw[l,Array.toList_eraseIdxIfInBounds,Rz,f,<- L];rw[List.set_append_right _ _ (XV _),SU,List.set_cons_zero,List.eraseIdx_append_of_length_le (by lia),show n.length+1-n.length=1 by lia];rfl
 refine h a ⟨H,?_,fun r hr=>?_⟩ ?_ fun j hj=>b j (by lia)
 ·rw[e];exact xh.mpr ⟨sa,D,rfl,by show 1<=c+d;lia,by rw[show sa+(c+d)=sa+c+d by lia];exact k⟩
 ·rw[e] at hr;rcases XF.mp hr with hr | hr
  ·have:=J r hr;exact zbW (P.up r (by rw[f];exact WW _ hr)) fun j h1 h2=>b j (by lia)
  ·rcases XJ.mp hr with rfl | hr
   ·show Up rk (Xn a) sa (sa+(c+d));rw[show sa+(c+d)=sa+c+d by lia];exact o
   ·have:=I r hr;exact zbW (P.up r (by rw[f];simp[hr])) fun j h1 h2=>b j (by lia)
 ·rw[<- X2,e,<- X2,f];simp only[XW,Xr];lia
theorem PI.step {lo a:Nat}{st b:WK}(P:PI rk κ a0 lo st)(S:Step κ a0 a st b)(h:lo<=a):PI rk κ a0 lo b:=by
 refine⟨S.ok,by rw[S.pend];exact P.til,fun r c=>?_⟩;rw[S.pend] at c;have:=(YK P.til).2.2 r c;exact zbW (P.up r c) fun j h1 h2=>S.low j (by lia)
theorem zbv (b:Nat):∀{l:List (Nat×Nat×Nat)} {k s e:Nat},QA l s e->QA (l.modify k fun r=>(r.1,r.2.1,b)) s e
 | [],k,s,e,h=>by
  cases k<;>exact h
 | r::l,0,s,e,⟨h1,h2,a⟩=>⟨h1,h2,a⟩
 | r::l,k+1,s,e,⟨h1,h2,a⟩=>⟨h1,h2,zbv b a⟩
theorem zdW {a:Nat}:∀{l:List (Nat×Nat×Nat)} {k:Nat} {r:Nat×Nat×Nat},r∈l.modify k (fun r=>(r.1,r.2.1,a))->∃q∈l,q.1=r.1/\q.2.1=r.2.1
 | [],k,r,h=>by
  cases k<;>cases h
 | q::l,0,r,h=>by
  rcases XJ.mp h with rfl | h
  ·exact⟨q,XS,rfl,rfl⟩
  ·exact⟨r,XT _ h,rfl,rfl⟩
 | q::l,k+1,r,h=>by
  rcases XJ.mp h with rfl | h
  ·exact⟨r,XS,rfl,rfl⟩
  ·obtain⟨b,h1,h2⟩:=zdW h;exact⟨b,XT _ h1,h2⟩
theorem ite_le (c:Prop) [Decidable c](n:Nat):(if c then n-1 else n)<=n:=by
 split<;>lia
theorem zoB {st:WK}{Q:Unit->WK->Prop}(T:Tells prog w A s κ rk a0)(O:Ok κ a0 st)(hp:WJ st=#[])(h:∀d,Ok κ a0 d->Up rk (Xn d) 0 a0.size->Q () d):wpS (Xi prog w) A E s sortRuns' Q st:=by
 rw[sortRuns'_eq];refine XG (Se ?_);dsimp only;rw[O.size];generalize minRun' a0.size a0.size 0=mr;refine XG (UE (V5 (I:=fun x c d=>∃lo,c=(none,lo)/\PI rk κ a0 lo d/\lo<=a0.size/\x<=lo)
  (Q:=fun c d=>c=(none,a0.size)/\PI rk κ a0 a0.size d) ?step ?fin ⟨0,rfl,⟨O,by rw[hp];rfl,fun r z=>by rw[hp] at z;cases z⟩,W5 _,XV _⟩) ?post)
 case fin =>
  rintro c d ⟨lo,rfl,P,h1,h2⟩
  obtain rfl:lo=a0.size:=by lia
  exact⟨rfl,P⟩
 case step =>
  rintro x c N _ hx ⟨lo,rfl,P,h1,h2⟩
  dsimp only
  refine qx (fun J=>?_) fun J=>?_
  ·obtain rfl:lo=a0.size:=by lia
   exact Xp ⟨rfl,P⟩
  refine XG (zp4 T P.ok (by lia) (by lia) fun m b S m1 m2 hu=>?_)
  dsimp only
  have g:=P.step S (XV _)
  refine qx (fun L=>?_) fun L=>?_
  refine XG (Qr (Ut ⟨rfl,?_⟩))
  refine XG (zp5 T S.ok (by lia) (by lia) hu fun o S3 k=>?_)
  rw[if_neg (by decide)]
  have P3:=g.step S3 (XV _)
  have H:1<=min (a0.size-lo) mr:=by lia
  have G:lo+min (a0.size-lo) mr<=a0.size:=by lia
  clear g S3
  generalize min (a0.size-lo) mr=n at k H G ⊢
  rotate_left
  have P3:=g
  have k:=hu
  have H:=m1
  have G:lo+m<=a0.size:=by lia
  clear g
  generalize m=n at k H G ⊢
  generalize b=o at P3 k ⊢
  rotate_left
  all_goals
   refine XG (Se ?_)
   have fin:∀a,PI rk κ a0 lo a->Up rk (Xn a) lo (lo+n)->PI rk κ a0 (lo+n) (setPending a ((WJ a).push (lo,n,0))):=fun a f v=>by
    refine⟨⟨f.ok.perm,f.ok.kind,f.ok.good⟩,?_,fun r z=>?_⟩
    ·show QA ((WJ a).push (lo,n,0)).toList 0 (lo+n);rw[SA];exact xh.mpr ⟨lo,f.til,rfl,H,rfl⟩
    ·have hr':r∈((WJ a).push (lo,n,0)).toList:=z;rw[SA] at hr';rcases XF.mp hr' with hr' | hr'
     ·exact f.up r hr'
     ·have er:r=(lo,n,0):=by simpa using hr'
      subst er;exact v
   cases aa:(WJ o).back? with
   | none =>
    dsimp only;exact XG (Tg (Xp ⟨lo+n,rfl,fin o P3 k,G,by lia⟩))
   | some r =>
    obtain⟨s1,M,q1⟩:=r;dsimp only;generalize power' a0.size (2*s1+M) (2*s1+M+M+n) a0.size=pw;refine XG (UE (V5 (I:=fun _ c a=>c=(none,())/\PI rk κ a0 lo a/\Up rk (Xn a) lo (lo+n)) (Q:=fun c a=>c=(none,())/\PI rk κ a0 lo a/\Up rk (Xn a) lo (lo+n)) ?_ (fun _ _ hh=>hh) ⟨rfl,P3,k⟩) ?_)
    ·rintro y c a _ _ ⟨rfl,f,v⟩;refine XG (Se ?_);by_cases B:(WJ a).size>1
     ·rw[if_pos B,getElem?_pos (WJ a) ((WJ a).size-2) (by lia)];generalize (WJ a)[(WJ a).size-2]'(by lia)=r2;obtain⟨ab,ac,ae⟩:=r2;dsimp only;refine qx (fun _=>Xp ⟨rfl,f,v⟩) fun _=>?_;refine XG (zfS T f (by lia) h1 fun af P5 _ Y=>?_);rw[if_neg (by decide)];exact Xp ⟨rfl,P5,zbW v fun j j1 _=>Y j j1⟩
     ·rw[if_neg B];exact Xp ⟨rfl,f,v⟩
    ·rintro c a ⟨rfl,f,v⟩;dsimp only;refine XG (Tg (XG (Tg (Xp ⟨lo+n,rfl,fin _ ⟨⟨f.ok.perm,f.ok.kind,f.ok.good⟩,?_,fun r z=>?_⟩ v,G,by lia⟩))))
     ·show QA ((WJ a).modify ((WJ a).size-1) fun r=>(r.1,r.2.1,pw)).toList 0 lo;rw[OL];exact zbv pw f.til
     ·have hr':r∈((WJ a).modify ((WJ a).size-1) fun r=>(r.1,r.2.1,pw)).toList:=z;rw[OL] at hr';obtain⟨q,hq,e1,e2⟩:=zdW hr';have:=f.up q hq;rw[e1,e2] at this;exact this
 case post =>
  rintro c N ⟨rfl,P⟩
  dsimp only
  have D:=(YK P.til).2.1
  rw[X2] at D
  refine XG (UE (V5 (I:=fun x c b=>c=(none,())/\PI rk κ a0 a0.size b/\((WJ b).size+x<=a0.size\/(WJ b).size<=1)) (Q:=fun c b=>c=(none,())/\PI rk κ a0 a0.size b/\(WJ b).size<=1) ?step2 ?fin2 ⟨rfl,P,.inl (by lia)⟩) ?post2)
  case fin2 =>
   rintro c b ⟨rfl,g,B⟩
   exact⟨rfl,g,by lia⟩
  case step2 =>
   rintro x c b _ hx ⟨rfl,g,B⟩
   refine XG (Se ?_)
   refine qx (fun h1=>Xp ⟨rfl,g,h1⟩) fun h1=>?_
   refine XG (zfS T g ?_ (XV _) fun o P3 z3 _=>?_)
   ·exact XI (O0 (ite_le _ _) 1) (show (WJ b).size-2+1<(WJ b).size by lia)
   ·rw[if_neg (by decide)];exact Xp ⟨rfl,P3,by lia⟩
  case post2 =>
   rintro c b ⟨rfl,g,B⟩
   dsimp only
   refine Xp (h b g.ok ?_)
   have p:=g.til
   have up:=g.up
   have zl:(WJ b).toList.length<=1:=by rw[X2];exact B
   cases hl:(WJ b).toList with
   | nil =>
    rw[hl] at p;have e:0=a0.size:=p;exact fun i j _ _ h3=>absurd h3 (by lia)
   | cons r l =>
    rw[hl] at p zl up;obtain rfl:l=[]:=Uy.mp (by rw[Xr] at zl;lia);obtain⟨t1,t2,t3⟩:=p;have U:0+r.2.1=a0.size:=t3;have u:=up r XS;rw[t1,U] at u;exact u
end
end GS
namespace GS
structure Wk {K:Type}(lt:K->K->Bool):Prop where
 tot:∀x y,lt x y=true->lt y x=false
 tr:∀x y z,lt y x=false->lt z y=false->lt z x=false
def rkK {K:Type}(lt:K->K->Bool)(ks:List K)(k:K):Int:=((ks.countP fun q=>lt q k:Nat):Int)
theorem count_le {K:Type}{p q:K->Bool}:∀{ks:List K},(∀x∈ks,p x=true->q x=true)->ks.countP p<=ks.countP q
 | [],_=>XV _
 | x::ks,h=>by
  have d:=count_le (ks:=ks) fun y b=>h y (XT _ b);rw[WT,WT];have a:=h x XS;by_cases c:p x=true
  ·rw[if_pos c,if_pos (a c)];lia
  ·rw[if_neg c];lia
theorem zkV {K:Type}{p q:K->Bool}{ks:List K}(h:∀x∈ks,p x=true->q x=true)(b:∃x∈ks,p x=false/\q x=true):ks.countP p<ks.countP q:=by
 obtain⟨y,hy,h1,h2⟩:=b;induction ks with
 | nil=>cases hy
 | cons x ks a =>
  rw[WT,WT];have d:=h x XS;rcases XJ.mp hy with rfl | hy
  ·have a:=count_le (ks:=ks) fun y hy=>h y (XT _ hy);rw[h1,h2,if_neg XY,if_pos rfl];lia
  ·have a:=a (fun y hy=>h y (XT _ hy)) hy;by_cases c:p x=true
   ·rw[if_pos c,if_pos (d c)];lia
   ·rw[if_neg c];lia
theorem Wk.rank {K:Type}{lt:K->K->Bool}(W:Wk lt){ks:List K}{x y:K}(c:x∈ks):lt x y=decide (rkK lt ks x<rkK lt ks y):=by
 unfold rkK;cases h:lt x y with
 | true =>
  refine(decide_eq_true ?_).symm;have:=zkV (ks:=ks) (p:=fun q=>lt q x) (q:=fun q=>lt q y) (fun q _ b=>?_) ⟨x,c,?_,h⟩
  ·lia
  ·cases hc:lt q y with
   | true=>rfl
   | false =>
    have:=W.tr x y q (W.tot x y h) hc;have a:lt q x=true:=b;rw[this] at a;cases a
  ·cases hc:lt x x with
   | false=>rfl
   | true=>exact hc.symm.trans (W.tot x x hc)
 | false =>
  refine(decide_eq_false ?_).symm;have:=count_le (ks:=ks) (p:=fun q=>lt q y) (q:=fun q=>lt q x) fun q _ b=>by
   cases hc:lt q x with
   | true=>rfl
   | false =>
    have:=W.tr y x q h hc;have a:lt q y=true:=b;rw[this] at a;cases a
  lia
section
variable {prog:Xg}{w:WQ}{A:WH}{E:X9->X8->Prop}{s:X8}
theorem zdX {a:Addr}{vs:List X9}{n:Nat}{P:PySem.Fin->X8->Prop}(I:s.heap.get? a=some (Uw "list" vs.toArray n))(hz:vs.length<=Xw)(r:X9->Int)
  (hk:2<=vs.length->∀s':X8,(∀b o,b≠a->s.heap.get? b=some o->s'.heap.get? b=some o)->W8 (Xi prog w) A (keyKind' vs.toArray) (fun κ M=>M=s'/\Tells prog w A s' κ (fun p=>r p.1) (OO vs)) (fun _ _=>False) s')
  (h:∀(ws:List X9) (h':Heap) (c:Nat),ws.Perm vs->ws.Pairwise (fun x y=>r x<=r y)->(∀b o,b≠a->s.heap.get? b=some o->h'.get? b=some o)->h'.get? a=some (Uw "list" ws.toArray c)->P (.done (.ret .none)) { s with heap:=h' }) :
  W8 (Xi prog w) A (UU.«list.sort» ⟨[.ref a],[]⟩) P E s:=by
 have ac:a<s.heap.objs.size:=XO I;have G:=get?_update_seq I fun _=>(#[]:Array X9);generalize N:s.heap.update a (Ve fun _=>(#[]:Array X9))=v at G;have zX:v.objs.size=s.heap.objs.size:=by rw[<- N,Heap.size_update]
 have kX:∀b o,b≠a->s.heap.get? b=some o->v.get? b=some o:=fun b o q e=>by
  rw[<- N,RT _ _ _ _ q];exact e
 obtain⟨H,L⟩:∃H,v.get? a=some (Uw "list" #[] H):=⟨_,G⟩;generalize U:(v.push (Uw "tuple" vs.toArray 0)).push (Uw "list" #[] 0)=Y;have l:Y.get? a=some (Uw "list" #[] H):=by
  rw[<- U];exact X0 _ (X0 _ L)
 have kY:∀b o,b≠a->s.heap.get? b=some o->Y.get? b=some o:=fun b o q e=>by
  rw[<- U];exact X0 _ (X0 _ (kX b o q e))
 have g:∀(st:WK),(((Xn st).map (·.2)).toList.Perm vs)->(((Xn st).map (·.2)).toList.Pairwise fun x y=>r x<=r y)->SY st=none ->
   W8 (Xi prog w) A (do
    let f:=(<- seqEpoch a) != H
    Builtin.List.listUpdate (.ref a) fun _=>(Xn st).map (·.2)
    if let some e:=SY st then rule "list.sort.comparison-raised";throw e
    if f then rule "list.sort.modified";raiseError "ValueError" "list modified during sort"
    ret .none) P E { s with heap:=Y }:=by
  intro st m J hf;generalize ew:(Xn st).map (·.2)=wsA at m J;rw[hf];have D:wsA.size=vs.length:=by rw[<- X2,m.length_eq]
  have ab:=get?_update_seq l fun _=>wsA;refine ZB (seqEpoch_at l rfl (ZB (listUpdate_at l rfl ?_ (W5 _) (by rw[D];lia))));simp only[bne_self_eq_false,Wm,if_false];refine XU (h wsA.toList _ _ m J (fun b o q e=>?_) ab);rw[RT _ _ _ _ q];exact kY b o q e
 rw[list_sort_plain];refine ZB (listItems_at I rfl (ZB (listUpdate_at I rfl ?_ (by rw[Xs];exact hz) (W5 _))));rw[N];refine ZB (seqEpoch_at L rfl (ZB (wpAny_newTuple (ZB (OF ?_ (W5 _))) hz)));show W8 (Xi prog w) A _ P E { s with heap:=(v.push (Uw "tuple" vs.toArray 0)).push (Uw "list" #[] 0) };rw[U];refine V1 ?_;dsimp only;have e2:((OO vs).map (·.2)).toList=vs:=by
  rw[U6,UA];exact List.map_snd_zip (XV _)
 by_cases k:vs.toArray.size<2
 ·have B:vs.length<2:=by rw[Xs] at k;exact k
  rw[if_pos k,if_pos k];refine ZB (XU ?_);rw[StateT.run_pure];refine ZB (XU ?_);refine g (SortSt.mk' general' (OO vs) #[] 7 none) (by show ((OO vs).map (·.2)).toList.Perm vs;rw[e2]) (by
   show ((OO vs).map (·.2)).toList.Pairwise _;rw[e2,Vs];intro i j hi hj aa;lia) rfl
 ·have B:2<=vs.length:=by rw[Xs] at k;lia
  rw[if_neg k,if_neg k];refine ZB (Ww (hk B { s with heap:=Y } kY) (fun κ M ⟨e3,T⟩=>?_) fun _ _ x=>x.elim);subst e3;have run:=zoB (E:=E) (st:=SortSt.mk' κ (OO vs) #[] 7 none) (Q:=fun _ d=>(((Xn d).map (·.2)).toList.Perm vs)/\(((Xn d).map (·.2)).toList.Pairwise fun x y=>r x<=r y)/\SY d=none) T ⟨Array.Perm.refl _,rfl,rfl⟩ rfl fun d O L=>?_
  ·unfold wpS at run;refine ZB (Ww run ?_ fun _ _ z=>z);rintro⟨⟨⟩,d⟩ s' ⟨rfl,m,J,hf⟩;exact g d m J hf
  ·have pm:=U3.mp O.perm;have same:∀p∈(Xn d).toList,p.1=p.2:=fun p m=>by
    have:=pm.mem_iff.mp m;rw[UA] at this;exact(RQ this).1
   refine⟨?_,?_,O.good⟩
   ·have:=pm.map (·.2);rw[U6];rw[UA,List.map_snd_zip (XV _)] at this;exact this
   ·rw[U6,VX,Vs];intro i j hi hj aa;have zs:=O.size;rw[X2] at hi hj;have u:=xC L (i:=i) (j:=j) (W5 _) (by lia) (by lia) (getElem?_pos _ i hi) (getElem?_pos _ j hj);have s1:=same (Xn d)[i] (by simp);have M:=same (Xn d)[j] (by simp);rw[UO,UO,<- s1,<- M];exact u
theorem zjv {l:Addr}{vs:List X9}{Q:X9->X8->Prop}(v:s.heap.IsList l vs.toArray)(i:vs.length<=Xw)(r:X9->Int)
  (hk:2<=vs.length->∀s':X8,(∀b o,s.heap.get? b=some o->s'.heap.get? b=some o)->W8 (Xi prog w) A.in1.in1 (keyKind' vs.toArray) (fun I H=>H=s'/\Tells prog w A.in1.in1 s' I (fun p=>r p.1) (OO vs)) (fun _ _=>False) s')
  (h:∀(f:List X9) (h':Heap) (c:Nat),f.Perm vs->f.Pairwise (fun x y=>r x<=r y)->(∀b o,s.heap.get? b=some o->h'.get? b=some o)->h'.get? (s.heap.objs.size+1)=some (Uw "list" f.toArray c)->Q (.ref (s.heap.objs.size+1)) { s with heap:=h' }) :
  W8 (Xi prog w) A (call (.builtin "sorted") [.ref l]) Q E s:=by
 generalize g:(s.heap.push (Uw "list" #[] 0)).update s.heap.objs.size (Ve (·++vs.toArray))=a;have q:a.objs.size=s.heap.objs.size+1:=by rw[<- g,Heap.size_update,VN]
 have D:∀b o,s.heap.get? b=some o->a.get? b=some o:=fun b o e=>by
  have lt:=XO e;rw[<- g,RT _ _ _ _ (Xj lt)];exact X0 _ e
 apply Rv kind_sorted plain_sorted entry_sorted (args_sorted1 _);unfold UU.«sorted»;refine ZB (m:=checkCount "sorted" 1 1 _) (XU (ZB (collect_list v ?_ i)));rw[g];refine ZB (OF ?_ i);show W8 _ _ _ _ _ { s with heap:=a.push (Uw "list" vs.toArray 0) };have d:(a.push (Uw "list" vs.toArray 0)).get? (s.heap.objs.size+1)=some (Uw "list" vs.toArray 0):=by
  rw[<- q];exact W9 _ rfl
 have j:∀b o,s.heap.get? b=some o->(a.push (Uw "list" vs.toArray 0)).get? b=some o:=fun b o e=>X0 _ (D b o e);have n:∀b o,s.heap.get? b=some o->b≠s.heap.objs.size+1:=fun b o e=>Xj (WR (XO e));rw[q];refine ZB (V1 (Uz slot_list_sort ⟨_,d,rfl⟩ entry_list_sort (zdX (s:={ s with heap:=a.push (Uw "list" vs.toArray 0) }) d i r (fun c s' k=>hk c s' fun b o e=>k b o (n b o e) (j b o e)) ?_) (args_list_sort _)));intro f h' c z B G u;exact⟨_,rfl,XU ⟨_,rfl,h f h' c z B (fun b o e=>G b o (n b o e) (j b o e)) u⟩⟩
end
theorem zcs {α d:Type}{R:α->d->Prop}{xs:List α}{ys:List d}(hp:WU R xs ys):(∀p∈xs.zip ys,R p.1 p.2)/\(xs.zip ys).map (·.1)=xs/\(xs.zip ys).map (·.2)=ys:=by
 induction hp with
 | nil=>exact⟨(fun p h=>nomatch h),rfl,rfl⟩
 | cons h _ e =>
  obtain⟨a,b,c⟩:=e;refine⟨fun p hp=>?_,by rw[List.zip_cons_cons,Xe,b],by rw[List.zip_cons_cons,Xe,c]⟩;rcases XJ.mp hp with rfl | hp
  ·exact h
  ·exact a p hp
theorem zdY {α a:Type}{R:α->a->Prop}:∀{zs:List (α × a)},(∀p∈zs,R p.1 p.2)->WU R (zs.map (·.1)) (zs.map (·.2))
 | [],_=>.nil
 | p::zs,h=>.cons (h p XS) (zdY fun q b=>h q (XT _ b))
end GS
namespace GS
theorem JS {α a:Type}{R:α->a->Prop}:∀{xs:List α} {ys:List a},WU R xs ys->∀x∈xs,∃y∈ys,R x y
 | _,_,.nil,x,h=>nomatch h
 | _,_,.cons h t,x,hx=>by
  rcases XJ.mp hx with rfl | hx
  ·exact⟨_,XS,h⟩
  ·obtain⟨y,h1,h2⟩:=JS t x hx;exact⟨y,XT _ h1,h2⟩
def Tri {K:Type}(a:V->K->Prop)(RH:X9->K->Prop)(t:V×X9×K):Prop:=RelV t.1 t.2.1/\a t.1 t.2.2/\RH t.2.1 t.2.2
theorem zoC {K:Type}{d:V->K->Prop}{RH:X9->K->Prop}{c:List V}{a:List X9}{ks:List K}(h1:Vals c a):WU d c ks->WU RH a ks->∃T:List (V×X9×K),(∀t∈T,Tri d RH t)/\T.map (·.1)=c/\T.map (·.2.1)=a/\T.map (·.2.2)=ks:=by
 induction h1 generalizing ks with
 | nil =>
  intro h2 b;cases h2;exact⟨[],(fun t h=>nomatch h),rfl,rfl,rfl⟩
 | @cons u i c a g o f =>
  intro h2 b;cases h2 with
  | @cons _ k _ ks j m =>
   cases b with
   | cons l n =>
    obtain⟨T,h1,h2,b,e⟩:=f m n;refine⟨(u,i,k)::T,fun t ht=>?_,by rw[Xe,h2],by rw[Xe,b],by rw[Xe,e]⟩;rcases XJ.mp ht with rfl | ht
    ·exact⟨g,j,l⟩
    ·exact h1 t ht
theorem zfT {K:Type}{d:V->K->Prop}{RH:X9->K->Prop}:∀{T:List (V×X9×K)},(∀t∈T,Tri d RH t)->Vals (T.map (·.1)) (T.map (·.2.1))/\WU d (T.map (·.1)) (T.map (·.2.2))
 | [],_=>⟨.nil,.nil⟩
 | t::T,h=>by
  obtain⟨h1,h2⟩:=zfT fun x e=>h x (XT _ e);obtain⟨a,b,c⟩:=h t XS;exact⟨.cons a h1,.cons b h2⟩
section
variable {X:Cx}{pins:List (Addr×Obj)}{σ:St}{H:Hp}{s:X8}{K:Type}
theorem zjw {lt:K->K->Bool}(W:Wk lt){Y:V->K->Prop}{RH:Heap->X9->K->Prop}(fn:∀h v k n,RH h v k->RH h v n->k=n)(kp:∀h h' v k,(∀b o,h.get? b=some o->h'.get? b=some o)->RH h v k->RH h' v k)
  {l:Addr} {U:List V} {f:List X9} {ks:List K} {Q:VK} (I:Inv X pins σ H s) (hl:s.heap.IsList l f.toArray) (hz:U.length<=1000000) (rv:Vals U f) (hv:WU Y U ks) (E:WU (RH s.heap) f ks)
  (N:∀s':X8,WU (RH s'.heap) f ks->2<=f.length->W8 (Xi X.prog X.w) X.A.in1.in1 (keyKind' f.toArray) (fun κ s2=>s2=s'/\∀v v' k n,RH s'.heap v k->RH s'.heap v' n->∀C:Bool->X8->Prop,C (lt k n) s'->W8 (Xi X.prog X.w) X.A.in1.in1 (keyLt' κ v v') C (fun _ _=>False) s') (fun _ _=>False) s')
  (q:∀d D u,H d=none->WU Y D u->u.Perm ks->u.Pairwise (fun x y=>lt y x=false)->(D.Perm U)->Q (.ref d) (upd H d (.lst D))) :
  W8 (Xi X.prog X.w) X.A (call (.builtin "sorted") [.ref l]) (EP X pins σ Q) X.xe s:=by
 classical
 have aa:=rv.length;obtain⟨T,hT,e1,e2,e3⟩:=zoC rv hv E;let r:X9->Int:=fun v=>if h:∃k,RH s.heap v k then rkK lt ks h.choose else 0
 have i:∀{v:X9} {k:K},RH s.heap v k->r v=rkK lt ks k:=fun {v k} h=>by
  have m:∃k,RH s.heap v k:=⟨k,h⟩;show (if h:∃k,RH s.heap v k then rkK lt ks h.choose else 0)=_;rw[dif_pos m,fn _ _ _ _ m.choose_spec h]
 have z1:f.length<=Xw:=by
  rw[<- aa,TW];lia
 refine zjv (vs:=f) hl z1 r (fun h2 s' O=>?_) fun ws h' c J hs O ha=>?_
 ·have ab:WU (RH s'.heap) f ks:=by
   obtain⟨a,b,c⟩:=zcs E;have:=zdY (R:=RH s'.heap) (zs:=f.zip ks) fun p E=>kp _ _ _ _ O (a p E);rw[b,c] at this;exact this
  refine Ww (N s' ab h2) (fun κ s2 ⟨e,hc⟩=>⟨e,fun x m y L C hC=>?_⟩) fun _ _ z=>z;have mx:x.1∈f:=by
   rw[UA] at m;exact(RQ m).2
  have my:y.1∈f:=by
   rw[UA] at L;exact(RQ L).2
  obtain⟨k,k1,k2⟩:=JS E x.1 mx;obtain⟨n,ae,M⟩:=JS E y.1 my;refine hc x.1 y.1 k n (kp _ _ _ _ O k2) (kp _ _ _ _ O M) C ?_;have G:C (decide (r x.1<r y.1)) s':=hC;rw[i k2,i M,<- W.rank k1] at G;exact G
 ·obtain⟨T',g,eT⟩:=ST.zcp (fun t:V×X9×K=>t.2.1) J T e2.symm;have j:∀t∈T',Tri Y (RH s.heap) t:=fun t ht=>hT t (g.mem_iff.mp ht);obtain⟨B,ac⟩:=zfT j;rw[<- eT] at B;have hD:H (s.heap.objs.size+1)=none:=I.hok.fresh (Wd _);refine⟨.ref (s.heap.objs.size+1),upd H (s.heap.objs.size+1) (.lst (T'.map (·.1))),I.laid (t':=s.toks) O (Wd _) ⟨?_,ws,c,B,ha⟩,rfl,q _ _ _ hD ac (by rw[<- e3];exact g.map _) ?_ (by rw[<- e1];exact g.map _)⟩
  ·rw[B.length,J.length_eq];exact z1
  ·rw[eT,VX] at hs;rw[VX];refine hs.imp_of_mem fun {x y} m L h=>?_;obtain⟨_,_,h1⟩:=j x m;obtain⟨_,_,h2⟩:=j y L;rw[i h1,i h2] at h;have my:y.2.2∈ks:=by
    rw[<- e3];exact Xv.mpr ⟨y,g.mem_iff.mp L,rfl⟩
   rw[W.rank my];exact decide_eq_false (by lia)
end
theorem zoD:Wk lt2:=by
 refine⟨fun x y h=>?_,fun x y z h1 h2=>?_⟩
 ·cases e:lt2 y x with
  | false=>rfl
  | true =>
   have:=zg3 h e;rw[zig] at this;cases this
 ·cases e:lt2 z x with
  | false=>rfl
  | true =>
   by_cases a:x=y
   ·subst a;rw[e] at h2;exact h2
   ·have b:lt2 x y=true:=by
     have:=zbS (p:=x) (q:=y) a;rw[h1] at this;cases hh:lt2 x y with
     | true=>rfl
     | false =>
      rw[hh] at this;cases this
    have:=zg3 e b;rw[this] at h2;exact h2
theorem ziu {h:Heap}{v:X9}{p q:Int×Int}(h1:zD h v p)(h2:zD h v q):p=q:=by
 obtain⟨a,o,n,t,u,e,k,A,i⟩:=h1;obtain⟨z,D,B,x,y,j,c,g,b⟩:=h2;subst e;cases j;rw[k] at c;cases c;rw[i] at b;obtain⟨m,r⟩:=p;obtain⟨s,w⟩:=q;injection b with b _
 have l:[Vw m t,Vw r u]=[Vw s x,Vw w y]:=congrArg Array.toList b;injection l with f d
 injection d with d _
 injection f with f _
 injection d with d _
 rw[f,d]
section
variable {X:Cx}
end
end GS
end L2
namespace PySem.SeqAt
open L2 AutoSeq1 MeetsSeq MeetsSeq2 MeetsSeq3
end PySem.SeqAt
namespace L2
open PySem PySem.Spec PyProof.Rows PySem.W PySem.SeqAt
section
variable {X:Cx}
end
end L2
namespace PySem.SeqAt
open L2 AutoSeq1 MeetsSeq MeetsSeq2 MeetsSeq3
def ltL:List (Int×Int)->List (Int×Int)->Bool
 | _,[]=>false
 | [],_::_=>true
 | p::r,q::t=>if p=q then ltL r t else lt2 p q
theorem zeZ (ps:List (Int×Int)):ltL ps []=false:=by cases ps<;>rfl
theorem ziv:∀ps:List (Int×Int),ltL ps ps=false
 | []=>rfl
 | p::r=>by
  unfold ltL;rw[if_pos rfl];exact ziv r
theorem ziw:∀{ps qs:List (Int×Int)},ps≠qs->ltL qs ps=!ltL ps qs
 | [],[],h=>absurd rfl h
 | [],q::t,_=>rfl
 | p::r,[],_=>rfl
 | p::r,q::t,h=>by
  unfold ltL;by_cases e:p=q
  ·subst e;rw[if_pos rfl,if_pos rfl];exact ziw fun z=>h (by rw[z])
  ·rw[if_neg e,if_neg (U9 e)];exact zbS e
theorem zhc:∀{ps qs d:List (Int×Int)},ltL ps qs=true->ltL qs d=true->ltL ps d=true
 | ps,[],_,h,_=>by
  rw[zeZ] at h;cases h
 | _,_::_,[],_,h=>by
  rw[zeZ] at h;cases h
 | [],_::_,_::_,_,_=>rfl
 | p::r,q::t,x::y,h1,h2=>by
  unfold ltL at *
  by_cases b:p=q
  ·subst b;rw[if_pos rfl] at h1;by_cases a:p=x
   ·rw[if_pos a] at h2 ⊢;exact zhc h1 h2
   ·rw[if_neg a] at h2 ⊢;exact h2
  ·rw[if_neg b] at h1;by_cases a:q=x
   ·subst a;rw[if_neg b];exact h1
   ·rw[if_neg a] at h2;have c:=zg3 h1 h2;rw[if_neg]
    ·exact c
    ·intro e;subst e;rw[zig] at c;cases c
theorem zhd {A:WH}{s:X8}{v a:X9}{p q:Int×Int}(h1:zD s.heap v p)(h2:zD s.heap a q)(d:A.units+10<Vi):EqAt A s v a (decide (p=q)):=by
 obtain⟨as,b⟩:=Qz h1;obtain⟨bs,c⟩:=Qz h2;have:=eqAt_reads _ _ A s _ _ as bs b c rfl rfl (by show A.units+min 1 1<Vi;lia);rw[zdN] at this;exact this
theorem Zz {h:Heap}{xs:Array X9}{ps:List (Int×Int)}(d:WU (zD h) xs.toList ps){i:Nat}(g:i<xs.size):∃p r,ps.drop i=p::r/\ps.drop (i+1)=r/\zD h xs[i] p:=by
 have e:xs.toList.length=ps.length:=Paired.length d;rw[X2] at e;have h2:i<ps.length:=by lia
 obtain⟨a,b,c⟩:=GS.zcs d;refine⟨ps[i],ps.drop (i+1),WB h2,rfl,?_⟩;have f:i<(xs.toList.zip ps).length:=by
  rw[List.length_zip,X2];lia
 have:=a _ (TH f);rw[List.getElem_zip] at this;simpa using this
theorem zjx (l b:Addr)(c a:Array X9)(n n2:Nat)(dd B:Option Addr)(sl H:Array (Option X9))(ps qs:List (Int×Int))(k:Nat) :
  ∀i:Nat,c.size-i=k->i<=c.size->i<=a.size->Meets (UU.«list.__eq__.loop» ⟨[.ref l,.ref b,Ub i,Ub 0],[]⟩)
   (fun A R s=>s.heap.get? l=some { cls:=.type "list",dict:=dd,data:=.seq c n,slots:=sl }/\s.heap.get? b=some { cls:=.type "list",dict:=B,data:=.seq a n2,slots:=H } /\
    WU (zD s.heap) c.toList ps/\WU (zD s.heap) a.toList qs/\A.units+20<Vi /\
    R (.ok (.ret (.bool (ltL (ps.drop i) (qs.drop i))))) s):=by
 induction k with
 | zero =>
  intro i hk h1 h2 f w A R s h;obtain⟨Y,g,d,tk,os⟩:=s;obtain⟨y,x,m,o,I,h⟩:=h;have E:c.toList.length=ps.length:=Paired.length m;have G:a.toList.length=qs.length:=Paired.length o;rw[X2] at E G;wp_walk using Wf y,Wf x;have j:c[((i:Nat):Int).toNat]?=none:=by simp;lia
  rw[j];have D:ps.drop i=[]:=by simp;lia
  have e:ltL (ps.drop i) (qs.drop i)=decide (c.size<a.size):=by
   rw[D];by_cases hq:i<qs.length
   ·rw[WB hq];exact(decide_eq_true (by lia)).symm
   ·rw[List.drop_of_length_le (by lia)];exact(decide_eq_false (by lia)).symm
  rw[e] at h;wp_walk using Wf y,Wf x;exact h
 | succ k ih =>
  intro i hk h1 h2 f w A R s h;obtain⟨Y,g,d,tk,os⟩:=s;obtain⟨y,x,m,o,I,h⟩:=h;have E:c.toList.length=ps.length:=Paired.length m;have G:a.toList.length=qs.length:=Paired.length o;rw[X2] at E G;wp_walk using Wf y,Wf x;have z:i<c.size:=by lia
  have j:c[((i:Nat):Int).toNat]?=some c[i]:=by simp[z]
  by_cases v:i<a.size
  ·have u:a[((i:Nat):Int).toNat]?=some a[i]:=by simp[v]
   have U:((i:Int)+1)=((i+1:Nat):Int):=by push_cast;rfl
   obtain⟨p,r,M,O,J⟩:=Zz m z;obtain⟨q,t,N,Q,L⟩:=Zz o v;rw[j,u];refine ZB (zhd J L (by show A.units+1+10<Vi;lia) f w _ _ ?_);rw[M,N] at h;unfold ltL at h;by_cases e:p=q
   ·rw[if_pos e] at h;rw[decide_eq_true e];wp_walk;rw[U];exact⟨UM plain_eq_loop _,VS entry_eq_loop (by
     rw[Wb plain_eq_loop _];exact ih (i+1) (by lia) (by lia) (by lia) f w A R _ ⟨y,x,m,o,I,by rw[O,Q];exact h⟩)⟩
   ·rw[if_neg e] at h;rw[decide_eq_false e];simp only[Wm,if_false];refine ZB (Ru y rfl (ZB (Ru x rfl ?_)));rw[j,u];exact ZB (QS.pairs J L (by show A.units+1<Vi;lia) f w _ _ (XU h))
  ·have u:a[((i:Nat):Int).toNat]?=none:=by simp;lia
   rw[j,u];have D:qs.drop i=[]:=by simp;lia
   rw[D,zeZ,show false=decide (c.size<a.size) from (decide_eq_false (by lia)).symm] at h;wp_walk using Wf y,Wf x;exact h
theorem zhe (l b:Addr)(c a:Array X9)(n j:Nat)(dd d:Option Addr)(k f:Array (Option X9))(ps qs:List (Int×Int)) :
  Meets (UU.«list.__lt__» ⟨[.ref l,.ref b],[]⟩)
   (fun A R s=>s.heap.get? l=some { cls:=.type "list",dict:=dd,data:=.seq c n,slots:=k }/\s.heap.get? b=some { cls:=.type "list",dict:=d,data:=.seq a j,slots:=f } /\
    WU (zD s.heap) c.toList ps/\WU (zD s.heap) a.toList qs/\A.units+20<Vi/\R (.ok (.ret (.bool (ltL ps qs)))) s):=by
 intro e w A R s h;obtain⟨o,y,v,u,r⟩:=s;obtain⟨i,g,m,p,q,h⟩:=h;have x:=sub_list_list;wp_walk using Wf i,Wf g;exact⟨UM plain_eq_loop _,VS entry_eq_loop (by
  rw[Wb plain_eq_loop _];exact zjx l b c a n j dd d k f ps qs _ 0 rfl (W5 _) (W5 _) e w A R _ ⟨i,g,m,p,q,by simpa using h⟩)⟩
structure ListPairs (h:Heap)(v:X9)(ps:List (Int×Int)):Prop where
 ex:∃a o xs n,v=.ref a/\h.get? a=some o/\o.cls=.type "list"/\o.data=.seq xs n/\WU (zD h) xs.toList ps
theorem zkW {prog:Xg}{w:WQ}{A:WH}{E:X9->X8->Prop}{s:X8}{v q:X9}{ps qs:List (Int×Int)}{C:Bool->X8->Prop}(y:ListPairs s.heap v ps)(g:ListPairs s.heap q qs)(H:A.units+30<Vi)(h:C (ltL ps qs) s) :
  W8 (Xi prog w) A (PyProof.Rows.keyLt' PyProof.Rows.oneType' v q) C E s:=by
 obtain⟨a,⟨u,x,p,D⟩,G,n,rfl,e,l,o,B⟩:=y;obtain⟨r,⟨m,d,data2,j⟩,k,z,rfl,f,b,c,i⟩:=g;simp only at l o b c;subst l o b c;rw[PyProof.Rows.keyLt'_oneType,PyProof.Rows.oneLt'_eq];simp only[if_true];refine ZB (wpAny_cRoomFor (by lia) ?_);refine ZB (wpAny_callSpecialIfBound?_slot (T:="list") ⟨_,e,rfl⟩ F.slot_list_lt ?_);refine TX F.slot_list_lt ⟨_,e,rfl⟩ F.entry_list_lt (F.args_list_lt_2 _ _) (zhe a r G k n z x d D j ps qs) ⟨e,f,B,i,(by lia),?_⟩;exact Vh h
end PySem.SeqAt
namespace L2
open PySem PySem.Spec PyProof.Rows PySem.W PySem.SeqAt
namespace GS
theorem zoE:Wk ltL:=by
 refine⟨fun x y h=>?_,fun x y z h1 h2=>?_⟩
 ·cases e:ltL y x with
  | false=>rfl
  | true =>
   have:=zhc h e;rw[ziv] at this;cases this
 ·cases e:ltL z x with
  | false=>rfl
  | true =>
   by_cases a:x=y
   ·subst a;rw[e] at h2;exact h2
   ·have b:ltL x y=true:=by
     have:=ziw (ps:=x) (qs:=y) a;rw[h1] at this;cases hh:ltL x y with
     | true=>rfl
     | false =>
      rw[hh] at this;cases this
    have:=zhc e b;rw[this] at h2;exact h2
def LstAt (H:Hp)(v:V)(ps:List (Int×Int)):Prop:=∃a b,v=V.ref a/\H a=some (.lst b)/\xu H b ps
theorem zjy {h:Heap}{vs:List X9}{ps qs:List (Int×Int)}(d:WU (zD h) vs ps):WU (zD h) vs qs->ps=qs:=by
 induction d generalizing qs with
 | nil =>
  intro c;cases c;rfl
 | cons a _ e =>
  intro c;cases c with
  | cons b u=>rw[ziu a b,e u]
theorem zkX {h:Heap}{v:X9}{ps qs:List (Int×Int)}(h1:ListPairs h v ps)(h2:ListPairs h v qs):ps=qs:=by
 obtain⟨a,o,s,n,e,j,p,g,k⟩:=h1;obtain⟨m,r,l,q,i,c,f,b,d⟩:=h2;subst e;cases i;rw[j] at c;cases c;rw[g] at b;injection b with b _
 subst b;exact zjy k d
theorem Z5 {h h':Heap}(k:∀b o,h.get? b=some o->h'.get? b=some o){vs:List X9}{ps:List (Int×Int)}(d:WU (zD h) vs ps):WU (zD h') vs ps:=by
 induction d with
 | nil=>exact .nil
 | cons q _ f =>
  obtain⟨a,o,n,t,u,e,c,r⟩:=q;exact .cons ⟨a,o,n,t,u,e,k _ _ c,r⟩ f
section
variable {X:Cx}{pins:List (Addr×Obj)}{σ:St}{H:Hp}{s:X8}
theorem zhf (I:Inv X pins σ H s){c:List V}{ks:List (List (Int×Int))}{b:List X9}(d:WU (LstAt H) c ks)(r:Vals c b):WU (ListPairs s.heap) b ks:=by
 induction d generalizing b with
 | nil =>
  cases r;exact .nil
 | cons q _ g =>
  obtain⟨a,m,e,h,f⟩:=q;subst e;cases r with
  | cons i j =>
   cases i;refine .cons ?_ (g j);obtain⟨z,b,n,k,l,e⟩:=I.lstM h;exact⟨a,_,b.toArray,n,rfl,e,rfl,rfl,by rw[List.toList_toArray];exact xu.pairs I f k⟩
end
theorem zhg {h:Heap}{b:List X9}{ks:List (List (Int×Int))}(f:WU (ListPairs h) b ks):∀v∈b,∃a o,v=Wx a/\h.get? a=some o/\o.cls=.type "list":=by
 induction f with
 | nil=>exact fun v hv=>nomatch hv
 | cons q _ g =>
  intro v hv;rcases XJ.mp hv with rfl | hv
  ·obtain⟨a,o,i,n,e,d,c,_⟩:=q;exact⟨a,o,e,d,c⟩
  ·exact g v hv
section
variable {X:Cx}
theorem QB (hu:X.A.units+64<Vi):jY X (.builtin "sorted") (fun xs H Q=>∃l g ks,xs=[.ref l]/\SqL X.K H l g/\WU (LstAt H) g ks/\g.length<=1000000 /\
  ∀d b f,H d=none->WU (LstAt H) b f->f.Perm ks->f.Pairwise (fun p q=>ltL q p=false)->b.Perm g->Q (.ref d) (upd H d (.lst b))):=by
 intro x s σ H xs b Q I r h;obtain⟨l,g,ks,rfl,L,m,N,q⟩:=h;obtain⟨u,rfl,ru⟩:=vals1 r;cases ru;obtain⟨O,y,Y,_⟩:=I.list L;have J:=zhf I m y;refine zjw zoE (RH:=ListPairs) (fun h v k U=>zkX) (fun h h' v k w ⟨a,o,xs,n,e,i,c,d,r⟩=>⟨a,o,xs,n,e,w _ _ i,c,d,Z5 w r⟩) I Y.isList N y m J (fun s' j h2=>?_) fun d b f G h1 h2 B D=>q d b f G h1 h2 B D;refine kas_kind (T:=.type "list") h2 (fun v M=>?_) (by decide) (by decide) ⟨rfl,fun v v' k U h1 h2 C E=>?_⟩
 ·obtain⟨a,o,rfl,i,z⟩:=zhg j v M;exact z ▸ (Looks.ld i).andThen .now
 ·exact zkW h1 h2 (by show X.A.units+1+1+30<Vi;lia) E
end
end GS
open PySem PySem.Spec PyProof.Rows
section
variable {X:Cx}{K:X5}
theorem zkY (a:X.K=K):MtR X "str.join" (rJoin K):=by
 subst a;exact zeL
theorem zkZ (a:X.K=K):SlR X (zpS K):=by
 subst a;exact zbR
theorem zct (a:X.K=K):OpR X (V9 .In) (rIn K false):=by
 subst a;exact zi7
theorem zoF {T:String}{name:Str}{id:String}{r:V->List V->Hp->VK->Prop}{o e:Expr}{c:List Expr}{g:TE}{t:TA}{b a:Pos}(k:X.K=K)(p:PlainAttrs T)(d:Slot T name id)(f:typeOf (.builtin id)=pure (.type "method_descriptor"))(m:MtR X id r)(n:PE X o g)(l:PA X (e::c) t)
  (h1:OH o name X.env (eval o X.env)=eval o X.env:=by rfl)
  (h2:((SZ a (WA (e::c) X.env)).all (fun x=>!x.1)&&(backToKw a (keywordEach [] X.env)).all (fun x=>x.1.isSome)
   && decide ((e::c).length+([]:List Og).length+(if ([]:List Og).isEmpty then 0 else 1)<30))=true:=by rfl)
  (h:(b.endLine==a.line)=true:=by rfl) (i:WA (e::c) X.env=(false,eval e X.env)::WA c X.env:=by rfl) (j:(SZ a (WA c X.env)).any (·.1)=false:=by rfl) :
  PE X (.Call (.Attribute o name b) (e::c) [] a) (tBM K T r g t):=by
 subst k;exact xw p d f m n l h1 h2 h i j
end
def HasDef (K:X5)(x:Str)(st:Stmt):Prop:=∃(f:Addr) (e:X9) (g b:Option Addr) (i:Array (Option X9)) (kV d h a c:X9),XQ K XR x=some (some (.ref f))/\K.lookup f=some ⟨e,g,.func (US x x (JY st) (xJ st) (zg st) .none kV d h b a c),i⟩/\SO K a x=true/\TV K (.ref f)=true
theorem HasDef.at {K:X5}{h:Heap}{i:Str->Option X9}{x:Str}{st:Stmt}{ps:List Str}(H:HasDef K x st)(X:K.In h)(G:h.Ns XR i)
  (n:∀(kV doc j:X9) (e:Option Addr) (b g:X9) (d:List X9),d.length=ps.length->bindArgs (US x x (JY st) (xJ st) (zg st) .none kV doc j e b g) ⟨d,[]⟩=pure (ps.zip d)):∃f m,zm K i x st ps f m:=by
 obtain⟨f,q,r,e,s,kV,p,j,o,g,a,l,c,k⟩:=H;have F:=zki (st:=st) l c k;exact⟨f,_,F,Wj X G a,F.binds n⟩
open PySem PySem.W
theorem us0 {P:List X9->Prop}(h:P []):∀b:List X9,b.length=0->P b:=by
 intro b e;cases b with
 | nil=>exact h
 | cons a t=>cases e
theorem usS {n:Nat}{P:List X9->Prop}(h:∀a t,t.length=n->P (a::t)):∀b:List X9,b.length=n+1->P b:=by
 intro b e;cases b with
 | nil=>cases e
 | cons a t=>exact h a t (Nat.succ.inj e)
theorem us1 {P:List X9->Prop}(h:∀a,P [a]):∀b:List X9,b.length=1->P b:=usS fun a=>us0 (h a)
theorem us2 {P:List X9->Prop}(h:∀a b,P [a,b]):∀c:List X9,c.length=2->P c:=usS fun a=>us1 (h a)
theorem us3 {P:List X9->Prop}(h:∀a b c,P [a,b,c]):∀d:List X9,d.length=3->P d:=usS fun a=>us2 (h a)
theorem us4 {P:List X9->Prop}(h:∀a b c d,P [a,b,c,d]):∀e:List X9,e.length=4->P e:=usS fun a=>us3 (h a)
open PySem PySem.Spec PyProof.Rows PySem.W
namespace ST
variable {X:Cx}
theorem zds (hh:X.A.handled=none):jY X (.builtin "sorted") (fun xs H Q=>∃l ks,xs=[.ref l]/\H l=some (zfQ X.prog X.w l ks)/\(∀q∈ks,H q.1=some (.tup [.int q.2.1,.int q.2.2]))/\(ks.map (·.2)).Nodup/\ks.length<64 /\
  ∀d U O,H d=none->xu H U O->O.Perm (ks.map (·.2))->Up2 O->Q (.ref d) (upd H d (.lst U))):=by
 intro ap s σ H xs U Q I r h;obtain⟨l,ks,rfl,hl,hT,ak,aq,q⟩:=h;obtain⟨u,rfl,ru⟩:=vals1 r;cases ru;obtain⟨⟨es,ep,t,ho,he,G,ab,am⟩,_,_⟩:=(show jk X.prog X.w H s.heap l (zfQ X.prog X.w l ks) from I.hok l _ hl);have aw:ks.length=es.size:=by
  rw[<- X2,he,Y1]
 apply Rv kind_sorted plain_sorted entry_sorted (args_sorted1 _);unfold UU.«sorted»;refine ZB (m:=checkCount "sorted" 1 1 _) (XU (ZB (zfP (by simp[hh]) ho G ab am (by lia) fun f h1 tk ae ah aj=>?_)));have ao:es.toList.map (·.2)=ks.map fun q=>Wx q.1:=by
  rw[he,WM];rfl
 rw[ao] at ae;obtain⟨g,z,hj⟩:=zcp (fun q:Addr×(Int×Int)=>Wx q.1) ae ks rfl;have aa:∀q∈g,H q.1=some (.tup [.int q.2.1,.int q.2.2]):=fun q L=>hT q (z.mem_iff.mp L);have D:(g.map (·.2)).Nodup:=(z.map (·.2)).nodup_iff.mpr ak;have av:g.length=ks.length:=z.length_eq;have au:f.length=g.length:=by rw[hj,Y1]
 have rv:∀{g:List (Addr×(Int×Int))},Vals (g.map fun q=>V.ref q.1) (g.map fun q=>Wx q.1):=fun {g}=>by
  induction g with
  | nil=>exact .nil
  | cons a t ih=>exact .cons rfl ih
 have ht:∀{g:List (Addr×(Int×Int))},(∀q∈g,H q.1=some (.tup [.int q.2.1,.int q.2.2]))->xu H (g.map fun q=>V.ref q.1) (g.map (·.2)):=fun {g}=>by
  induction g with
  | nil=>exact fun _=>.nil
  | cons a t ih=>exact fun h=>.cons ⟨a.1,rfl,h a XS⟩ (ih fun q L=>h q (XT _ L))
 have j:WU (zD s.heap) f (g.map (·.2)):=by
  rw[hj];exact xu.pairs I (ht aa) rv
 generalize af:g.map (·.2)=ps at j D;have ax:f.length=ps.length:=Paired.length j;have W:=GS.zoD;have ip:∀q:Addr×(Int×Int),H q.1=some (.tup [.int q.2.1,.int q.2.2])->zD s.heap (.ref q.1) q.2:=fun q L=>by
  have:=xu.pairs I (.cons ⟨q.1,rfl,L⟩ .nil:xu H [V.ref q.1] [q.2]) (.cons rfl .nil:Vals [V.ref q.1] [Wx q.1]);cases this with
  | cons h _=>exact h
 classical
 let r:X9->Int:=fun v=>if h:∃k,zD s.heap v k then GS.rkK lt2 ps h.choose else 0
 have B:∀{v:X9} {k:Int×Int},zD s.heap v k->r v=GS.rkK lt2 ps k:=fun {v k} h=>by
  have M:∃k,zD s.heap v k:=⟨k,h⟩;show (if h:∃k,zD s.heap v k then GS.rkK lt2 ps h.choose else 0)=_;rw[dif_pos M,GS.ziu M.choose_spec h]
 have small:f.length<=Xw:=by rw[TW];lia
 refine ZB (OF ?_ small);have ac:(h1.push (Uw "list" f.toArray 0)).get? h1.objs.size=some (Uw "list" f.toArray 0):=W9 _ rfl;have kL:∀b o,s.heap.get? b=some o->(h1.push (Uw "list" f.toArray 0)).get? b=some o:=fun b o e=>X0 _ (ah b o e);have ne:∀b o,s.heap.get? b=some o->b≠h1.objs.size:=fun b o e=>Xj (XO (ah b o e));show W8 _ _ _ _ _ { s with heap:=h1.push (Uw "list" f.toArray 0),toks:=tk };refine ZB (V1 (Uz slot_list_sort ⟨_,ac,rfl⟩ entry_list_sort (GS.zdX (s:={ s with heap:=h1.push (Uw "list" f.toArray 0),toks:=tk }) ac small r (fun h2 s' kk=>?_) ?_) (args_list_sort _)))
 ·have al:=Z5 (fun b o e=>kk b o (ne b o e) (kL b o e)) j;obtain⟨fs,hk,ar,hint⟩:=zam al;refine kat_kind (T:=.type "int") hk (by lia) (fun v hv=>?_) (by decide) ⟨rfl,fun x M y hy C hC=>?_⟩
  ·obtain⟨x,t,rfl⟩:=hint v hv;exact Looks.of_pure rfl
  ·have mx:x.1∈f:=by
    rw[UA] at M;exact(RQ M).2
   have my:y.1∈f:=by
    rw[UA] at hy;exact(RQ hy).2
   obtain⟨k,k1,k2⟩:=GS.JS j x.1 mx;obtain⟨k',ay,ag⟩:=GS.JS j y.1 my;have kp:∀{v:X9} {k:Int×Int},zD s.heap v k->zD s'.heap v k:=fun {v k} ⟨a,o,n,t,u,e,e1,r⟩=>⟨a,o,n,t,u,e,kk _ _ (ne _ _ e1) (kL _ _ e1),r⟩;have Y:C (decide (r x.1<r y.1)) s':=hC;rw[B k2,B ag,<- W.rank k1] at Y;exact zms (kp k2) (kp ag) Y
 ·intro ws h' c E hs kk ha;obtain⟨p,i,ej⟩:=zcp (fun q:Addr×(Int×Int)=>Wx q.1) E g hj;have hD:H h1.objs.size=none:=I.hok.fresh aj;have J:∀q∈p,H q.1=some (.tup [.int q.2.1,.int q.2.2]):=fun q L=>aa q (i.mem_iff.mp L);have ai:Vals (p.map fun q=>V.ref q.1) ws:=by
   rw[ej];exact rv
  have N:(p.map (·.2)).Nodup:=(i.map (·.2)).nodup_iff.mpr (by rw[af];exact D);have an:Up2 (p.map (·.2)):=by
   unfold Up2;unfold W3 at N;rw[VX] at N ⊢;rw[ej,VX] at hs;refine(hs.and N).imp_of_mem fun {x y} M hy ⟨h1,h2⟩=>?_;rw[B (ip x (J x M)),B (ip y (J y hy))] at h1;have my:y.2∈ps:=by
    rw[<- af];exact Xv.mpr ⟨y,i.mem_iff.mp hy,rfl⟩
   have e1:lt2 y.2 x.2=false:=by
    rw[W.rank my];exact decide_eq_false (by lia)
   have e2:=zbS h2;rw[e1] at e2;cases hh:lt2 x.2 y.2 with
   | true=>rfl
   | false =>
    rw[hh] at e2;cases e2
  refine⟨_,rfl,XU ⟨_,rfl,.ref h1.objs.size,upd H h1.objs.size (.lst (p.map fun q=>V.ref q.1)),I.laid (t':=tk) (fun b o e=>kk b o (ne b o e) (kL b o e)) aj ⟨?_,_,c,ai,ha⟩,rfl,q _ _ _ hD (ht J) ((i.trans z).map _) an⟩⟩;rw[ai.length,E.length_eq];exact small
end ST
inductive Rd1 (σ:St)(i:Nat)(Q:VK)(H:Hp):Prop
 | mk (v:V) (h:σ[i]?=some (some v)) (q:Q v H):Rd1 σ i Q H
def tVS (i:Nat):TE:=fun a H Q=>Rd1 a i Q H
section
variable {X:Cx}
theorem pvS (i:Nat){x:Str}{pos:Pos}(c:X.N[i]?=some x:=by rfl)(f:Vis X.env.scope x:=by first | exact XM rfl | exact Vm (XM rfl) | exact Vm (Vm rfl))(d:(x==("__debug__":Str))=false:=by decide)
  (b:(x==("__classdict__":Str))=false:=by decide):PE X (.Name x pos) (tVS i):=by
 intro a s g H Q I h;obtain⟨v,e,q⟩:=h;exact pv i c f d b a s g H Q I ⟨v,e,q⟩
theorem OpR.imp {f:X9->X9->Sem X9}{r b:R2}(h:OpR X f r)(k:∀x y H Q,b x y H Q->r x y H Q):OpR X f b:=fun a s e H x y v u Q I c d z=>h a s e H x y v u Q I c d (k x y H Q z)
theorem IxR.imp {r d:R2}(h:IxR X r)(k:∀x y H Q,d x y H Q->r x y H Q):IxR X d:=fun b a c s i H x y v u Q I f g z e=>h b a c s i H x y v u Q I f g (k x y H Q z) e
inductive SI0 (g:Int->Int->V)(x y:V)(H:Hp)(Q:VK):Prop
 | mk (i j:Int) (hx:x=.int i) (hy:y=.int j) (q:Q (g i j) H):SI0 g x y H Q
inductive SI (C:Int->Int->Prop)(g:Int->Int->V)(x y:V)(H:Hp)(Q:VK):Prop
 | mk (i j:Int) (hx:x=.int i) (hy:y=.int j) (hc:C i j) (q:Q (g i j) H):SI C g x y H Q
theorem OpR.s0 {f:X9->X9->Sem X9}{g:Int->Int->V}(h:OpR X f (rI0 g)):OpR X f (SI0 g):=h.imp fun _ _ _ _ ⟨i,j,a,b,q⟩=>⟨i,j,a,b,q⟩
theorem OpR.s1 {f:X9->X9->Sem X9}{C:Int->Int->Prop}{g:Int->Int->V}(h:OpR X f (rI C g)):OpR X f (SI C g):=h.imp fun _ _ _ _ ⟨i,j,a,b,c,q⟩=>⟨i,j,a,b,c,q⟩
theorem qa:OpR X (Uj .Add) (SI0 fun i j=>.int (i+j)):=zn4.s0
theorem xV:OpR X (Uj .Sub) (SI0 fun i j=>.int (i-j)):=zn5.s0
theorem qY:OpR X (Uj .Mod) (SI (fun _ j=>0<j) fun i j=>.int (i%j)):=zn6.s1
theorem qO:OpR X (Uj .FloorDiv) (SI yO fun i j=>.int (i/j)):=zkj.s1
theorem zoG:OpR X (V9 .Lt) (SI0 fun i j=>.bl (decide (i<j))):=zpK.s0
theorem ze0:OpR X (V9 .LtE) (SI0 fun i j=>.bl (decide (i<=j))):=zpL.s0
theorem zoH:OpR X (V9 .Gt) (SI0 fun i j=>.bl (decide (j<i))):=zpM.s0
inductive zoI (K:X5)(x y:V)(H:Hp)(Q:VK):Prop
 | mk (p:Addr) (xs:List V) (i:Int) (v:V) (hx:x=.ref p) (hy:y=.int i) (hq:SqL K H p xs) (he:atI xs i=some v) (q:Q v H):zoI K x y H Q
inductive zp7 (K:X5)(x y:V)(H:Hp)(Q:VK):Prop
 | mk (p:Addr) (xs:List V) (i:Int) (v:V) (hx:x=.ref p) (hy:y=.int i) (hq:SqT K H p xs) (he:atI xs i=some v) (q:Q v H):zp7 K x y H Q
inductive zp8 (x y:V)(H:Hp)(Q:VK):Prop
 | mk (z:Str) (i:Int) (c:Nat) (hx:x=.str z) (hy:y=.int i) (hl:z.length<=Xw) (he:atI z.cps.toList i=some c) (q:Q (.str ⟨#[c]⟩) H):zp8 x y H Q
theorem qV:IxR X (zoI X.K):=zmm.imp fun _ _ _ _ ⟨p,e,i,v,a,b,c,d,q⟩=>⟨p,e,i,v,a,b,c,d,q⟩
theorem qP:IxR X (zp7 X.K):=zod.imp fun _ _ _ _ ⟨p,e,i,v,a,b,c,d,q⟩=>⟨p,e,i,v,a,b,c,d,q⟩
theorem J7:IxR X zp8:=zoe.imp fun _ _ _ _ ⟨z,i,c,a,b,d,e,q⟩=>⟨z,i,c,a,b,d,e,q⟩
theorem Qc {K:X5}(a:X.K=K):IxR X (zoI K):=a ▸ qV
inductive SB (x:V)(Q:Bool->Hp->Prop)(H:Hp):Prop
 | mk (k:Bool) (h:x=.bl k) (q:Q k H):SB x Q H
def zoJ (t:TE):TT:=fun b H Q=>t b H fun x a=>SB x Q a
theorem zG {op:CmpOp}{r:R2}{a b:Expr}{f g:TE}{pos:Pos}(B:OpR X (V9 op) r)(p:PE X a f)(w:PE X b g)(A:Rm op b=false):PT X (.Compare a [op] [b] pos) (zoJ (tOp r f g)):=by
 intro d s e H Q I h;refine wpAny_isTrue_Compare1 (thn (p d s e H _ I h) fun v s1 ⟨x,i,m,J,D⟩=>thn (w d s1 e i _ m D) fun u N ⟨y,j,n,L,E⟩=>thn (B d N e j x y v u _ n J L E) fun c O ⟨z,l,o,M,G⟩=>?_) A;obtain⟨k,rfl,q⟩:=G;cases M;exact Vh ⟨l,o,q⟩
inductive zoK (K:X5)(xs:List V)(H:Hp)(Q:VK):Prop
 | mk (p:Addr) (ys:List V) (hx:xs=[.ref p]) (hq:SqL K H p ys\/SqT K H p ys) (q:Q (.int ys.length) H):zoK K xs H Q
theorem zH:jY X (.builtin "len") (zoK X.K):=fun c s g H e d Q I r ⟨p,f,a,b,q⟩=>zeF c s g H e d Q I r ⟨p,f,a,b,q⟩
theorem zcu {K:X5}(a:X.K=K):jY X (.builtin "len") (zoK K):=a ▸ zH
inductive zp9 (x:V)(vs:List V)(H:Hp)(Q:VK):Prop
 | mk (l:Addr) (xs:List V) (y:V) (hx:x=.ref l) (hv:vs=[y]) (hl:H l=some (.lst xs)) (hz:xs.length<Xw) (q:Q .non (upd H l (.lst (xs++[y])))):zp9 x vs H Q
theorem jw:MtM X "list.append" zp9:=fun e s k H x i v h Q I g f ⟨l,j,y,a,b,c,d,q⟩=>Zo e s k H x i v h Q I g f ⟨l,j,y,a,b,c,d,q⟩
end
section
variable {X:Cx}
theorem zdZ {d:List Bool}{f:List V}{c:List X9}(e:d.map V.bl=f)(r:Vals f c):c=d.map Tj:=by
 induction r generalizing d with
 | nil =>
  cases d with
  | nil=>rfl
  | cons a b=>cases e
 | cons j k i =>
  cases d with
  | nil=>cases e
  | cons a b =>
   rw[Xe] at e;obtain⟨g,h⟩:=List.cons.inj e;subst g;cases j;rw[i h];rfl
def eqT (y:Bool):X9->Bool
 | .bool a=>a==y
 | _=>false
theorem zjz:MtM X "list.count" (fun x vs H Q=>∃(l:Addr) (b:List Bool) (y:Bool),x=.ref l/\vs=[.bl y]/\H l=some (.lst (b.map V.bl))/\Q (.int ((b.countP fun t=>t==y:Nat):Int)) H):=by
 intro c s A H x vs v p Q I m k h;obtain⟨l,b,y,rfl,rfl,f,q⟩:=h;cases m;obtain⟨u,rfl,j⟩:=k.one;cases j;obtain⟨z,i,n,r,o,e⟩:=I.lstM f;have d:=zdZ rfl r;subst d;refine TX F.slot_list_count ⟨_,e,rfl⟩ F.entry_list_count (ON _ _) (Rc l (b.map Tj).toArray n none #[] (.bool y) (eqT y)) ⟨e,fun w g=>?_,?_⟩
 ·obtain⟨a,_,rfl⟩:=Xv.mp (TR.mpr g);exact Ry a y
 ·refine⟨.int _,H,I.tok _,⟨_,rfl⟩,?_⟩;show Q (.int (((b.map Tj).countP (eqT y):Nat):Int)) H;rw[Tl];exact q
theorem zjA:MtM X "list.index" (fun x vs H Q=>∃(l:Addr) (b:List Bool) (y:Bool) (j:Nat),x=.ref l/\vs=[.bl y]/\H l=some (.lst (b.map V.bl))/\b[j]?=some y/\(∀m<j,b[m]?=some (!y))/\j<=1000/\Q (.int (j:Nat)) H):=by
 intro d s O H x vs v N Q I G E h;obtain⟨l,b,y,j,rfl,rfl,i,k,o,M,q⟩:=h;cases G;obtain⟨u,rfl,D⟩:=E.one;cases D;obtain⟨z,B,n,r,L,e⟩:=I.lstM i;have g:=zdZ rfl r;subst g;obtain⟨h1,h2⟩:=XZ.mp k;refine TX F.slot_list_index ⟨_,e,rfl⟩ F.entry_list_index (F.args_list_index_2 _ _) (PySem.SeqAt.list_indexAt l (b.map Tj).toArray n none #[] (.bool y) (eqT y) j (by simpa using h1) (by lia) ?_ ?_) ⟨e,fun w A=>?_,?_⟩
 ·simp[eqT,h2]
 ·intro m p c;obtain⟨J,f⟩:=XZ.mp (o m c);simp[eqT,f]
 ·obtain⟨a,_,rfl⟩:=Xv.mp (TR.mpr A);exact Ry a y
 ·exact⟨.int _,H,I.tok _,⟨_,rfl⟩,q⟩
end
section
variable {X:Cx}{k k0:Nat}{f:Addr}{fd:Xo}{ps:List Str}{sp:Sp}{x:Str}{st:Stmt}{p pos:Pos}{e:Expr}{es:List Expr}{t:TA}
theorem pc0 (F:qt X.prog X.w X.K X.mg X.base CX0 k f fd ps sp)(i:Zg k0 X.A)(D:zm X.K X.mg x st ps f fd)(d:PA X (e::es) t)(hk:k<=k0:=by decide)(h:Gl X x:=by rfl)
  (a:(x==("__debug__":Str))=false:=by decide) (he:WA (e::es) X.env=(false,eval e X.env)::WA es X.env:=by rfl) (c:(SZ pos (WA es X.env)).any (·.1)=false:=by rfl) :
  PE X (.Call (.Name x p) (e::es) [] pos) (zkd sp [] E0 t):=zib F (i.mono hk) h D.g D.F.kp D.b .nil zpT d a he c
theorem pcL {E:XK}(L:YE X E)(F:qt X.prog X.w X.K X.mg X.base (CXE X.prog X.w) k f fd ps sp)(i:Zg k0 X.A)(D:zm X.K X.mg x st ps f fd)(d:PA X (e::es) t)(hk:k<=k0:=by decide)(h:Gl X x:=by rfl)
  (a:(x==("__debug__":Str))=false:=by decide) (he:WA (e::es) X.env=(false,eval e X.env)::WA es X.env:=by rfl) (c:(SZ pos (WA es X.env)).any (·.1)=false:=by rfl) :
  PE X (.Call (.Name x p) (e::es) [] pos) (zkd sp [] E t):=zib F (i.mono hk) h D.g D.F.kp D.b .nil (YE.passes L) d a he c
end
theorem JX:0<=Xw:=by decide
theorem sz_1:1<=Xw:=by decide
theorem ZA:2<=Xw:=by decide
theorem zk0:3<=Xw:=by decide
theorem zqa:6<=Xw:=by decide
end L2
namespace Cells
def qb (p:Nat->Bool)(i:Nat):Nat->List Nat->List (Nat×Nat)
 | _,[]=>[]
 | j,c::r=>(if p c=true then [(i,j)] else [])++qb p i (j+1) r
def zL (p:Nat->Bool):Nat->List (List Nat)->List (Nat×Nat)
 | _,[]=>[]
 | i,t::r=>qb p i 0 t++zL p (i+1) r
theorem Z8 (p:Nat->Bool)(i:Nat):∀(j:Nat) (a b:List Nat),qb p i j (a++b)=qb p i j a++qb p i (j+a.length) b
 | j,[],b=>by simp[qb]
 | j,c::a,b=>by
  simp only[P6,qb,Z8 p i (j+1) a b,Xr,WY];rw[show j+1+a.length=j+(a.length+1) by lia]
theorem Z9 (p:Nat->Bool):∀(i:Nat) (a b:List (List Nat)),zL p i (a++b)=zL p i a++zL p (i+a.length) b
 | i,[],b=>by simp[zL]
 | i,t::a,b=>by
  simp only[P6,zL,Z9 p (i+1) a b,Xr,WY];rw[show i+1+a.length=i+(a.length+1) by lia]
theorem QT {p:Nat->Bool}{i j c:Nat}{t:List Nat}(h:t[j]?=some c):qb p i 0 (t.take (j+1))=qb p i 0 (t.take j)++(if p c=true then [(i,j)] else []):=by
 rw[Xx,h,Z8];have a:(t.take j).length=j:=by
  have:=(XZ.mp h).1;rw[XE];lia
 simp[qb,a]
theorem QU {p:Nat->Bool}{i:Nat}{t:List Nat}{rs:List (List Nat)}(h:rs[i]?=some t):zL p 0 (rs.take (i+1))=zL p 0 (rs.take i)++qb p i 0 t:=by
 rw[Xx,h,Z9];have a:(rs.take i).length=i:=by
  have:=(XZ.mp h).1;rw[XE];lia
 simp[zL,a]
theorem yq (p:Nat->Bool)(i:Nat):∀(j:Nat) (t:List Nat),(qb p i j t).length<=t.length
 | j,[]=>by simp[qb]
 | j,c::r=>by
  have:=yq p i (j+1) r;simp only[qb,XW,Xr];split<;>simp<;>lia
theorem jI (p:Nat->Bool):∀(i:Nat) (rs:List (List Nat)),(∀t∈rs,t.length<=8)->(zL p i rs).length<=8*rs.length
 | i,[],_=>by simp[zL]
 | i,t::r,h=>by
  have h1:=yq p i 0 t;have h2:=jI p (i+1) r fun u a=>h u (XT _ a);have b:=h t XS;simp only[zL,XW,Xr];lia
theorem JF {p:Nat->Bool}{i:Nat}:∀{j:Nat} {t:List Nat} {x:Nat×Nat},x∈qb p i j t->∃m c,x=(i,j+m)/\t[m]?=some c/\p c=true
 | j,[],x,h=>by simp[qb] at h
 | j,c::r,x,h=>by
  simp only[qb,XF] at h;rcases h with h | h
  ·split at h
   ·rename_i hp;have:x=(i,j):=by simpa using h
    exact⟨0,c,this,rfl,hp⟩
   ·cases h
  ·obtain⟨m,a,e,h1,h2⟩:=JF h;exact⟨m+1,a,by rw[e,show j+1+m=j+(m+1) by lia],by simpa using h1,h2⟩
theorem JG {p:Nat->Bool}{i:Nat}{rs:List (List Nat)}{x:Nat×Nat}(h:x∈zL p i rs):∃k j t c,x=(i+k,j)/\rs[k]?=some t/\t[j]?=some c/\p c=true:=by
 induction rs generalizing i with
 | nil=>simp[zL] at h
 | cons t r b =>
  simp only[zL,XF] at h;rcases h with h | h
  ·obtain⟨m,c,e,h1,h2⟩:=JF h;exact⟨0,m,t,c,by simpa using e,rfl,h1,h2⟩
  ·obtain⟨k,j,u,c,e,h1,h2,a⟩:=b h;exact⟨k+1,j,u,c,by rw[e,show i+1+k=i+(k+1) by lia],by simpa using h1,h2,a⟩
def sgn (rs:List (List Nat))(x:Nat×Nat):Nat:=(rs.getD x.1 []).getD x.2 0
theorem zax {p q:Nat->Bool}{i:Nat}(f:Nat×Nat->Bool):∀(j:Nat) (t:List Nat),(∀m c,t[m]?=some c->f (i,j+m)=q c)->(qb p i j t).filter f=qb (fun c=>p c&&q c) i j t
 | j,[],_=>by simp[qb]
 | j,c::r,h=>by
  have g:=zax (p:=p) (q:=q) (i:=i) f (j+1) r fun m d e=>by
   have:=h (m+1) d (by simpa using e);rw[show j+1+m=j+(m+1) by lia];exact this
  have h0:=h 0 c rfl;simp only[qb,Xb,g];congr 1;simp only[SQ] at h0;by_cases a:p c=true
  ·by_cases b:q c=true
   ·simp[a,b,h0]
   ·simp[a,b,h0]
  ·simp[a]
theorem zay {p q:Nat->Bool}(f:Nat×Nat->Bool):∀(i:Nat) (rs:List (List Nat)),(∀k t m c,rs[k]?=some t->t[m]?=some c->f (i+k,m)=q c)->(zL p i rs).filter f=zL (fun c=>p c&&q c) i rs
 | i,[],_=>by simp[zL]
 | i,t::r,h=>by
  have b:=zay (p:=p) (q:=q) f (i+1) r fun k u m c hk a=>by
   have:=h (k+1) u m c (by simpa using hk) a;rw[show i+1+k=i+(k+1) by lia];exact this
  simp only[zL,Xb,b];rw[zax (p:=p) (q:=q) f 0 t fun m c a=>by simpa using h 0 t m c rfl a]
theorem ze1 {rs:List (List Nat)}{i j:Nat}{t:List Nat}{c:Nat}(h:rs[i]?=some t)(h2:t[j]?=some c):sgn rs (i,j)=c:=by
 unfold sgn;simp[List.getD,h,h2]
theorem all_filter {p q:Nat->Bool}(rs:List (List Nat)):(zL p 0 rs).filter (fun x=>q (sgn rs x))=zL (fun c=>p c&&q c) 0 rs :=
 zay _ 0 rs fun k t m c hk a=>by rw[show 0+k=k by lia,ze1 hk a]
theorem zfU {p q:Nat->Bool}(h:∀c,p c=q c)(i:Nat)(rs:List (List Nat)):zL p i rs=zL q i rs:=by
 rw[show p=q from funext h]
def near (x y:Nat×Nat):Bool:=decide ((if (x.1:Int)-(y.1:Int)<0 then -((x.1:Int)-(y.1:Int)) else (x.1:Int)-(y.1:Int))<2)&&(decide ((if (x.2:Int)-(y.2:Int)<0 then -((x.2:Int)-(y.2:Int)) else (x.2:Int)-(y.2:Int))<2) && !decide (x=y))
theorem YL (x y:Nat×Nat):near x y=true↔(x.1<=y.1+1/\y.1<=x.1+1)/\(x.2<=y.2+1/\y.2<=x.2+1)/\¬ x=y:=by
 unfold near;rw[We,We,decide_eq_true_iff,decide_eq_true_iff,WE,decide_eq_false_iff_not];constructor
 ·rintro⟨h1,h2,h3⟩;refine⟨?_,?_,h3⟩
  ·split at h1<;>lia
  ·split at h2<;>lia
 ·rintro⟨h1,h2,h3⟩;refine⟨?_,?_,h3⟩
  ·split<;>lia
  ·split<;>lia
def lex (a b:Nat×Nat):Prop:=a.1<b.1\/(a.1=b.1/\a.2<b.2)
theorem zd0 (p:Nat->Bool)(i:Nat):∀(j:Nat) (t:List Nat),(qb p i j t).Pairwise lex
 | j,[]=>by simp[qb]
 | j,c::r=>by
  simp only[qb];rw[TN];refine⟨?_,zd0 p i (j+1) r,fun a d b g=>?_⟩
  ·split<;>simp
  ·split at d
   ·have e:a=(i,j):=by simpa using d
    obtain⟨m,h,f,_,_⟩:=JF g;subst e f;exact .inr ⟨rfl,by show j<j+1+m;lia⟩
   ·cases d
theorem Qd (p:Nat->Bool):∀(i:Nat) (rs:List (List Nat)),(zL p i rs).Pairwise lex
 | i,[]=>by simp[zL]
 | i,t::r=>by
  simp only[zL];rw[TN];refine⟨zd0 p i 0 t,Qd p (i+1) r,fun a f b g=>?_⟩;obtain⟨m,c,e,_,_⟩:=JF f;obtain⟨k,j,u,h,d,_,_,_⟩:=JG g;subst e d;exact .inl (by show i<i+1+k;lia)
theorem zk1 {p:Nat->Bool}{f:Nat×Nat->Bool}{n:Nat}{rs:List (List Nat)}(h:∀r c,r<n->f (r,c)=false):(zL p 0 (rs.take n)).filter f=[]:=by
 rw[V3];intro x b;obtain⟨k,j,t,c,e,hk,_,_⟩:=JG b;have a:k<n:=by
  have:=(XZ.mp hk).1;rw[XE] at this;lia
 subst e;rw[h _ _ (by lia)];exact XY
theorem zjB {p:Nat->Bool}{f:Nat×Nat->Bool}{n:Nat}{rs:List (List Nat)}(h:∀r c,n<=r->f (r,c)=false):(zL p 0 (rs.take n)).filter f=(zL p 0 rs).filter f:=by
 by_cases d:n<=rs.length
 ·have e:=Wy n rs;have a:zL p 0 rs=zL p 0 (rs.take n)++zL p (0+(rs.take n).length) (rs.drop n):=by rw[<- Z9,e]
  rw[a,Xb];have z:(zL p (0+(rs.take n).length) (rs.drop n)).filter f=[]:=by
   rw[V3];intro x b;obtain⟨k,j,t,c,e,hk,_,_⟩:=JG b;subst e;rw[XE,h _ _ (by lia)];exact XY
  rw[z,Xc]
 ·rw[Wt (by lia)]
theorem zk2 {p:Nat->Bool}{f:Nat×Nat->Bool}{i n:Nat}{t:List Nat}(h:∀c,c<n->f (i,c)=false):(qb p i 0 (t.take n)).filter f=[]:=by
 rw[V3];intro x d;obtain⟨m,c,e,a,_⟩:=JF d;have b:m<n:=by
  have:=(XZ.mp a).1;rw[XE] at this;lia
 subst e;rw[h _ (by lia)];exact XY
theorem zjC {p:Nat->Bool}{f:Nat×Nat->Bool}{i n:Nat}{t:List Nat}(h:∀c,n<=c->f (i,c)=false):(qb p i 0 (t.take n)).filter f=(qb p i 0 t).filter f:=by
 by_cases g:n<=t.length
 ·have e:=Wy n t;have a:qb p i 0 t=qb p i 0 (t.take n)++qb p i (0+(t.take n).length) (t.drop n):=by rw[<- Z8,e]
  rw[a,Xb];have z:(qb p i (0+(t.take n).length) (t.drop n)).filter f=[]:=by
   rw[V3];intro x b;obtain⟨m,c,e,d,_⟩:=JF b;subst e;rw[XE,h _ (by lia)];exact XY
  rw[z,Xc]
 ·rw[Wt (by lia)]
end Cells
namespace Parts
abbrev C:=Nat×Nat
structure Good (cl:C->List C)(done:List C)(gs:List (List C)):Prop where
 ne:∀g∈gs,g ≠ []
 nd:gs.flatten.Nodup
 from_:∀x∈gs.flatten,∃o∈done,x∈cl o
 cov:∀o∈done,cl o ≠ []->∃g∈gs,∀x∈cl o,x∈g
 con:∀g∈gs,∀S:C->Prop,(∀o∈done,(∃x∈cl o,S x)->∀x∈cl o,S x)->(∃x∈g,S x)->∀x∈g,S x
 srt:∀g∈gs,g.Pairwise Cells.lex
theorem Good.start (a:C->List C):Good a [] []:=⟨(fun _ h=>nomatch h),SN,(fun _ h=>nomatch h),(fun _ h=>nomatch h),(fun _ h=>nomatch h),(fun _ h=>nomatch h)⟩
theorem Good.skip {a:C->List C}{done:List C}{gs:List (List C)}(G:Good a done gs){o:C}(h:a o=[]):Good a (done++[o]) gs:=by
 refine⟨G.ne,G.nd,fun x b=>?_,fun p hp c=>?_,fun g f S d=>G.con g f S fun p hp=>d p (WW _ hp),G.srt⟩
 ·obtain⟨p,hp,b⟩:=G.from_ x b;exact⟨p,WW _ hp,b⟩
 ·rcases XF.mp hp with hp | hp
  ·exact G.cov p hp c
  ·have e:p=o:=by simpa using hp
   subst e;exact absurd h c
theorem zd1 {gs:List (List C)}(j:gs.flatten.Nodup):∀{g g':List C} {x:C},g∈gs->g'∈gs->x∈g->x∈g'->g=g':=by
 induction gs with
 | nil=>intro g g' x h;cases h
 | cons a r l =>
  rw[WN,VW] at j;obtain⟨_,h2,i⟩:=j;intro g g' x k c e b;rcases XJ.mp k with f | g1
  ·rcases XJ.mp c with d | g2
   ·rw[f,d]
   ·exact absurd rfl (i x (f ▸ e) x (Wr.mpr ⟨g',g2,b⟩))
  ·rcases XJ.mp c with d | g2
   ·exact absurd rfl (i x (d ▸ b) x (Wr.mpr ⟨g,g1,e⟩))
   ·exact l h2 g1 g2 e b
theorem jf (p:List C->Bool):∀gs:List (List C),(gs.filter p).flatten.Sublist gs.flatten
 | []=>List.Sublist.refl _
 | a::r=>by
  rw[WV,WN];split
  ·rw[WN];exact List.Sublist.append (List.Sublist.refl _) (jf p r)
  ·exact List.Sublist.trans (jf p r) (Rt _ _)
def meets (a g:List C):Bool:=!(g.filter fun c=>a.any fun x=>decide (x=c)).isEmpty
theorem ZC {a g:List C}:meets a g=true ↔ ∃x∈g,x∈a:=by
 unfold meets;rw[WE,UZ];constructor
 ·intro h;obtain⟨x,b⟩:=TC _ h;rw[XX,Wn] at b;obtain⟨h1,y,h2,d⟩:=b;have e:y=x:=of_decide_eq_true d;subst e;exact⟨y,h1,h2⟩
 ·rintro⟨x,h1,h2⟩ hn;have:x∈g.filter fun c=>a.any fun x=>decide (x=c):=XX.mpr ⟨h1,Wn.mpr ⟨x,h2,decide_eq_true rfl⟩⟩;rw[hn] at this;cases this
def whole (w:List C):List (List C)->List C
 | []=>w
 | g::r=>whole (w++g.filter fun c=>!(w.any fun x=>decide (x=c))) r
theorem zaz (w:List C)(c:C):(w.any fun x=>decide (x=c))=true↔c∈w:=by
 rw[Wn];constructor
 ·rintro⟨x,h1,h2⟩;have e:x=c:=of_decide_eq_true h2;subst e;exact h1
 ·intro h;exact⟨c,h,decide_eq_true rfl⟩
theorem za7 {x:C}:∀{w:List C} {b:List (List C)},x∈whole w b↔x∈w\/∃m∈b,x∈m
 | w,[]=>by simp[whole]
 | w,g::r=>by
  rw[whole,za7,XF,XX];constructor
  ·rintro((h | ⟨h,_⟩) | ⟨m,hm,h⟩)
   ·exact .inl h
   ·exact .inr ⟨g,XS,h⟩
   ·exact .inr ⟨m,XT _ hm,h⟩
  ·rintro(h | ⟨m,hm,h⟩)
   ·exact .inl (.inl h)
   ·rcases XJ.mp hm with rfl | hm
    ·by_cases a:x∈w
     ·exact .inl (.inl a)
     ·refine .inl (.inr ⟨h,?_⟩);rw[WE,XB];exact fun z=>a ((zaz w x).mp z)
    ·exact .inr ⟨m,hm,h⟩
theorem YM:∀{w:List C} {i:List (List C)},w.Nodup->(∀m∈i,m.Nodup)->(whole w i).Nodup
 | w,[],h,_=>h
 | w,g::r,h,f=>by
  rw[whole];refine YM ?_ fun m d=>f m (XT _ d);rw[VW];refine⟨h,(f g XS).sublist Wg,fun a j b k e=>?_⟩;subst e;have c:=(XX.mp k).2;rw[(zaz w a).mpr j] at c;cases c
theorem Good.step {c:C->List C}{done:List C}{gs:List (List C)}(G:Good c done gs){o:C}(h:c o ≠ [])(U:(c o).Nodup){d:List (List C)}{w:List C}(I:d=gs.filter fun g=>!((gs.filter (meets (c o))).any fun m=>decide (m=g)))
  (J:w.Perm (whole (c o) (gs.filter (meets (c o))))) (Y:w.Pairwise Cells.lex):Good c (done++[o]) (d++[w]):=by
 have q:∀g,g∈d↔g∈gs/\¬ ∃x∈g,x∈c o:=fun g=>by
  rw[I,XX,WE,XB];constructor
  ·rintro⟨h1,h2⟩;exact⟨h1,fun j=>h2 (Wn.mpr ⟨g,XX.mpr ⟨h1,ZC.mpr j⟩,decide_eq_true rfl⟩)⟩
  ·rintro⟨h1,h2⟩;refine⟨h1,fun j=>?_⟩;obtain⟨m,i,e⟩:=Wn.mp j;have L:m=g:=of_decide_eq_true e;subst L;exact h2 (ZC.mp (XX.mp i).2)
 have n:∀x,x∈w↔x∈c o\/∃g∈gs,(∃y∈g,y∈c o)/\x∈g:=fun x=>by
  rw[J.mem_iff,za7];constructor
  ·rintro(h1 | ⟨m,i,h1⟩)
   ·exact .inl h1
   ·obtain⟨h2,j⟩:=XX.mp i;exact .inr ⟨m,h2,ZC.mp j,h1⟩
  ·rintro(h1 | ⟨g,h2,j,h1⟩)
   ·exact .inl h1
   ·exact .inr ⟨g,XX.mpr ⟨h2,ZC.mpr j⟩,h1⟩
 have N:∀g∈gs,g.Nodup:=fun g hg=>G.nd.sublist (VH hg);have wn:w.Nodup:=J.nodup_iff.mpr (YM U fun m i=>N m (XX.mp i).1);refine⟨fun g hg=>?_,?_,fun x hx=>?_,fun p hp A=>?_,fun g hg S H=>?_,fun g hg=>?_⟩
 ·rcases XF.mp hg with hg | hg
  ·exact G.ne g ((q g).mp hg).1
  ·have e:g=w:=by simpa using hg
   subst e;obtain⟨x,hx⟩:=TC _ h;exact Ta ((n x).mpr (.inl hx))
 ·rw[Ws,VW];refine⟨G.nd.sublist (by rw[I];exact jf _ gs),by simpa using wn,fun a O b Q e=>?_⟩;subst e;have v:a∈w:=by simpa using Q
  obtain⟨g,hg,hx⟩:=Wr.mp O;obtain⟨u,E⟩:=(q g).mp hg;rcases(n a).mp v with h1 | ⟨m,r,m2,s⟩
  ·exact E ⟨a,hx,h1⟩
  ·have e:=zd1 G.nd u r hx s;subst e;exact E m2
 ·rw[Ws] at hx;rcases XF.mp hx with hx | hx
  ·obtain⟨g,hg,hx⟩:=Wr.mp hx;obtain⟨p,hp,hx⟩:=G.from_ x (Wr.mpr ⟨g,((q g).mp hg).1,hx⟩);exact⟨p,WW _ hp,hx⟩
  ·have l:x∈w:=by simpa using hx
   rcases(n x).mp l with h1 | ⟨g,u,_,M⟩
   ·exact⟨o,by simp,h1⟩
   ·obtain⟨p,hp,hx⟩:=G.from_ x (Wr.mpr ⟨g,u,M⟩);exact⟨p,WW _ hp,hx⟩
 ·rcases XF.mp hp with hp | hp
  ·obtain⟨g,hg,hx⟩:=G.cov p hp A;by_cases i:∃x∈g,x∈c o
   ·exact⟨w,by simp,fun x l=>(n x).mpr (.inr ⟨g,hg,i,hx x l⟩)⟩
   ·exact⟨g,WW _ ((q g).mpr ⟨hg,i⟩),hx⟩
  ·have e:p=o:=by simpa using hp
   subst e;exact⟨w,by simp,fun x hx=>(n x).mpr (.inl hx)⟩
 ·have k:∀p∈done,(∃x∈c p,S x)->∀x∈c p,S x:=fun p hp=>H p (WW _ hp);rcases XF.mp hg with hg | hg
  ·exact G.con g ((q g).mp hg).1 S k
  ·have e:g=w:=by simpa using hg
   subst e;rintro⟨x,hx,sx⟩;have f:∀y∈c o,S y:=by
    refine H o (by simp) ?_;rcases(n x).mp hx with h1 | ⟨m,r,⟨y,B,D⟩,s⟩
    ·exact⟨x,h1,sx⟩
    ·exact⟨y,D,G.con m r S k ⟨x,s,sx⟩ y B⟩
   intro z hz;rcases(n z).mp hz with h1 | ⟨m,r,⟨y,B,D⟩,s⟩
   ·exact f z h1
   ·exact G.con m r S k ⟨y,B,f y D⟩ z s
 ·rcases XF.mp hg with hg | hg
  ·exact G.srt g ((q g).mp hg).1
  ·have e:g=w:=by simpa using hg
   subst e;exact Y
theorem Good.perm {d:C->List C}{done:List C}{gs b:List (List C)}(G:Good d done gs)(h:b.Perm gs):Good d done b:=by
 refine⟨fun g a=>G.ne g (h.mem_iff.mp a),h.flatten.nodup_iff.mpr G.nd,fun x c=>G.from_ x (h.flatten.mem_iff.mp c),fun o f e=>?_,fun g a=>G.con g (h.mem_iff.mp a),fun g a=>G.srt g (h.mem_iff.mp a)⟩;obtain⟨g,a,c⟩:=G.cov o f e;exact⟨g,h.mem_iff.mpr a,c⟩
theorem YN:∀{gs:List (List C)},(∀g∈gs,g ≠ [])->gs.length<=gs.flatten.length
 | [],_=>XV _
 | g::r,h=>by
  have b:=YN (gs:=r) fun x a=>h x (XT _ a);have:1<=g.length:=List.length_pos_iff.mpr (h g XS);rw[WN,XW,Xr];lia
theorem yr:∀{a b:List C},a.Nodup->(∀x∈a,x∈b)->a.length<=b.length
 | [],_,_,_=>W5 _
 | x::r,b,h,s=>by
  obtain⟨h1,h2⟩:=VM.mp h;have c:=s x XS;have f:=yr (a:=r) (b:=b.erase x) h2 fun y d=>(List.mem_erase_of_ne (fun (e:y=x)=>h1 (by rw[<- e];exact d))).mpr (s y (XT _ d));rw[List.length_erase_of_mem c] at f;have:=Ul c;rw[Xr];lia
end Parts
namespace Subs
variable {α:Type}
def step (S:List (List α))(c:α):List (List α):=S++S.map (·++[c])
def subs (cs:List α):List (List α):=cs.foldl step [[]]
def pick:List α->Nat->List α
 | [],_=>[]
 | c::r,b=>(if b%2=1 then [c] else [])++pick r (b/2)
theorem zd2 (cs:List α)(c:α):subs (cs++[c])=step (subs cs) c:=by
 unfold subs;rw[SG];rfl
theorem zix:∀(cs:List α) (c:α) (b:Nat),b<2^cs.length->pick (cs++[c]) b=pick cs b
 | [],c,b,h=>by
  have:b=0:=by
   simp at h;lia
  subst this;rfl
 | d::r,c,b,h=>by
  show _++pick (r++[c]) (b/2)=_++pick r (b/2);rw[zix r c (b/2) (by
   rw[Xr,Us] at h;lia)]
theorem ziy:∀(cs:List α) (c:α) (b:Nat),b<2^cs.length->pick (cs++[c]) (2^cs.length+b)=pick cs b++[c]
 | [],c,b,h=>by
  have:b=0:=by
   simp at h;lia
  subst this;rfl
 | d::r,c,b,h=>by
  rw[Xr,Us] at h;show (if (2^(r.length+1)+b)%2=1 then [d] else [])++pick (r++[c]) ((2^(r.length+1)+b)/2)=((if b%2=1 then [d] else [])++pick r (b/2))++[c];have a:(2^(r.length+1)+b)%2=b%2:=by
   rw[Us];lia
  have e:(2^(r.length+1)+b)/2=2^r.length+b/2:=by
   rw[Us];lia
  rw[a,e,ziy r c (b/2) (by lia),WY]
theorem Qe (cs:List α):subs cs=(XC (2^cs.length)).map (pick cs):=by
 rw[<- OY cs];induction cs.reverse with
 | nil=>rfl
 | cons c r d =>
  rw[List.reverse_cons,zd2,d,XW,Pl,Us,Nat.mul_two,List.range_add,Xk,WM];unfold step;rw[WM];congr 1
  ·refine Xh fun b a=>?_;exact(zix _ _ _ (Xf.mp a)).symm
  ·refine Xh fun b a=>?_;exact(ziy _ _ _ (Xf.mp a)).symm
end Subs
namespace Grow
variable {α β:Type}
def cnt (near:β->α->Bool)(o:β)(p:List α):Nat:=(p.filter (near o)).length
def zcv (near:β->α->Bool)(a:β->Int)(b:List α)(o:β)(p:List α):Bool:=decide (a o-((cnt near o b:Nat):Int)<=((cnt near o p:Nat):Int))&&decide (((cnt near o p:Nat):Int)<=a o)
def chk (near:β->α->Bool)(b:β->Int)(O:List β)(c:α)(a:List α)(p:List α):Bool:=(O.filter fun o=>near o c).all fun o=>zcv near b a o p
def grow (near:β->α->Bool)(b:β->Int)(O:List β):List (List α)->List α->List (List α)
 | F,[]=>F
 | F,c::a=>grow near b O ((Subs.step F c).filter (chk near b O c a)) a
def good (near:β->α->Bool)(b:β->Int)(O:List β)(done a:List α)(p:List α):Bool:=(O.filter fun o=>done.any (near o)).all fun o=>zcv near b a o p
theorem cnt_cons (near:β->α->Bool)(o:β)(c:α)(r:List α):cnt near o (c::r)=cnt near o r+if near o c=true then 1 else 0:=by
 unfold cnt;rw[WV];split<;>rfl
theorem zfV (near:β->α->Bool)(o:β)(p:List α)(c:α):cnt near o (p++[c])=cnt near o p+if near o c=true then 1 else 0:=by
 unfold cnt;rw[Xb,XW];congr 1;rw[WV];split<;>rfl
theorem yJ {near:β->α->Bool}{b:β->Int}{a:List α}{o:β}{p:List α}:zcv near b a o p=true↔b o-((cnt near o a:Nat):Int)<=((cnt near o p:Nat):Int)/\((cnt near o p:Nat):Int)<=b o:=by
 unfold zcv;rw[We,decide_eq_true_eq,decide_eq_true_eq]
theorem ziz {near:β->α->Bool}{b:β->Int}{O:List β}{c:α}{a p:List α}:chk near b O c a p=true ↔ ∀o∈O,near o c=true->zcv near b a o p=true:=by
 unfold chk;rw[WL];exact⟨fun h o d e=>h o (XX.mpr ⟨d,e⟩),fun h o d=>h o (XX.mp d).1 (XX.mp d).2⟩
theorem YO {near:β->α->Bool}{b:β->Int}{O:List β}{done a p:List α}:good near b O done a p=true ↔ ∀o∈O,done.any (near o)=true->zcv near b a o p=true:=by
 unfold good;rw[WL];exact⟨fun h o c d=>h o (XX.mpr ⟨c,d⟩),fun h o c=>h o (XX.mp c).1 (XX.mp c).2⟩
theorem ZD (near:β->α->Bool)(o:β)(done:List α)(c:α):(done++[c]).any (near o)=true↔done.any (near o)=true\/near o c=true:=by
 rw[List.any_append,RY];simp
theorem zmJ (near:β->α->Bool)(b:β->Int)(O:List β)(done a:List α)(c:α)(p:List α):(good near b O done (c::a) p&&chk near b O c a p)=good near b O (done++[c]) a p:=by
 rw[Wz,We,YO,ziz,YO];constructor
 ·rintro⟨h1,h2⟩ o d f;by_cases e:near o c=true
  ·exact h2 o d e
  ·have:=h1 o d (((ZD near o done c).mp f).resolve_right e);rw[yJ,cnt_cons,if_neg e] at this;exact yJ.mpr this
 ·intro h;refine⟨fun o d f=>?_,fun o d e=>h o d ((ZD near o done c).mpr (.inr e))⟩;have:=yJ.mp (h o d ((ZD near o done c).mpr (.inl f)));rw[yJ,cnt_cons];split<;>lia
theorem zmK (near:β->α->Bool)(d:β->Int)(O:List β)(done a:List α)(c:α)(p:List α):(good near d O done (c::a) p&&chk near d O c a (p++[c]))=good near d O (done++[c]) a (p++[c]):=by
 rw[Wz,We,YO,ziz,YO];constructor
 ·rintro⟨h1,h2⟩ o e f;by_cases b:near o c=true
  ·exact h2 o e b
  ·have:=h1 o e (((ZD near o done c).mp f).resolve_right b);rw[yJ,cnt_cons,if_neg b] at this;rw[yJ,zfV,if_neg b];exact this
 ·intro h;refine⟨fun o e f=>?_,fun o e b=>h o e ((ZD near o done c).mpr (.inr b))⟩;have:=yJ.mp (h o e ((ZD near o done c).mpr (.inl f)));rw[zfV] at this;rw[yJ,cnt_cons];split at this<;>rename_i b
  ·rw[if_pos b];lia
  ·rw[if_neg b];lia
theorem zjD (near:β->α->Bool)(b:β->Int)(O:List β)(done a:List α)(c:α)(S:List (List α)):(Subs.step (S.filter (good near b O done (c::a))) c).filter (chk near b O c a)=(Subs.step S c).filter (good near b O (done++[c]) a):=by
 unfold Subs.step;rw[Xb,Xb];congr 1
 ·rw[RE];refine VQ fun p _=>?_;rw[<- zmJ,R9]
 ·rw[Ue,Ue,RE];congr 1;refine VQ fun p _=>?_;show (chk near b O c a (p++[c])&&good near b O done (c::a) p)=good near b O (done++[c]) a (p++[c]);rw[<- zmK,R9]
theorem zd3 (near:β->α->Bool)(a:β->Int)(O:List β):∀(b done:List α) (S:List (List α)),grow near a O (S.filter (good near a O done b)) b=(b.foldl Subs.step S).filter (good near a O (done++b) [])
 | [],done,S=>by
  rw[Xc];rfl
 | c::r,done,S=>by
  show grow near a O ((Subs.step (S.filter (good near a O done (c::r))) c).filter (chk near a O c r)) r=_;rw[zjD,zd3 near a O r (done++[c]) (Subs.step S c),WY];rfl
def fits (near:β->α->Bool)(a:β->Int)(O:List β)(part:List α)(p:List α):Bool:=(O.filter fun o=>part.any (near o)).all fun o=>decide (((cnt near o p:Nat):Int)=a o)
theorem zmL (near:β->α->Bool)(a:β->Int)(O:List β)(part:List α):grow near a O [[]] part=(Subs.subs part).filter (fits near a O part):=by
 have h:=zd3 near a O part [] [[]];have e:([[]]:List (List α)).filter (good near a O [] part)=[[]]:=by
  have:good near a O [] part []=true:=YO.mpr fun o _ b=>by simp at b
  rw[WV,if_pos this];rfl
 rw[e] at h;rw[h];show (Subs.subs part).filter _=_;refine VQ fun p _=>?_;rw[Pq];unfold good fits;congr 1;funext o;rw[Wz,yJ,decide_eq_true_eq];show a o-((0:Nat):Int)<=_/\_↔_;lia
end Grow
namespace Cnt
variable {α:Type}
def Jk (g:Nat)(ks:List (List α)):List Int:=(XC (g+1)).map fun n=>((ks.countP fun k=>decide (k.length=n):Nat):Int)
theorem zaA (g:Nat)(ks:List (List α)):(Jk g ks).length=g+1:=by
 unfold Jk;rw[Y1,W6]
theorem zk3 (g:Nat):Jk g ([]:List (List α))=WP (g+1) 0:=by
 unfold Jk;refine List.eq_replicate_iff.mpr ⟨by rw[Y1,W6],fun b a=>?_⟩;obtain⟨n,_,rfl⟩:=Xv.mp a;rfl
theorem zcw {g n:Nat}(ks:List (List α))(h:n<=g):(Jk g ks)[n]?=some ((ks.countP fun k=>decide (k.length=n):Nat):Int):=by
 unfold Jk;rw[Xl,UI (by lia)];rfl
theorem zjE {g:Nat}(ks:List (List α)){k:List α}(h:k.length<=g):Jk g (ks++[k])=(Jk g ks).set k.length (((ks.countP fun x=>decide (x.length=k.length):Nat):Int)+1):=by
 refine T3 fun n=>?_;rw[List.getElem?_set];by_cases b:n<=g
 ·rw[zcw _ b,zcw _ b,zaA,Vo];by_cases e:k.length=n
  ·rw[if_pos e,if_pos (by lia)];subst e;simp
  ·rw[if_neg e];simp[e]
 ·have a:∀c:List (List α),(Jk g c)[n]?=none:=fun c=>U2 (by rw[zaA];lia);rw[a,a,zaA,if_neg (by lia)]
theorem za8 {g:Nat}{as bs:List (List α)}(h:as.Perm bs):Jk g as=Jk g bs:=by
 unfold Jk;refine Xh fun n _=>?_;rw[h.countP_eq]
end Cnt
namespace Pour
def S (h:Nat->Int):Nat->Int
 | 0=>0
 | n+1=>S h n+h n
def F (xs:List Int)(i:Nat):Int:=(xs[i]?).getD 0
def hk (xs ys:List Int)(k i:Nat):Int:=if i<=k then F xs i*F ys (k-i) else 0
def Zh (xs ys:List Int):List Int:=(XC (xs.length+ys.length-1)).map fun k=>S (hk xs ys k) xs.length
def part (xs ys:List Int)(i j k:Nat):Int:=S (hk xs ys k) i+(if i<=k/\k-i<j then F xs i*F ys (k-i) else 0)
def st (xs ys:List Int)(i j:Nat):List Int:=(XC (xs.length+ys.length-1)).map (part xs ys i j)
theorem zcx {xs:List Int}{i:Nat}(h:xs.length<=i):F xs i=0:=by
 unfold F;rw[U2 h];rfl
theorem zmM {xs:List Int}{i:Nat}{x:Int}(h:xs[i]?=some x):F xs i=x:=by
 unfold F;rw[h];rfl
theorem J8 {f g:Nat->Int}:∀n,(∀i,i<n->f i=g i)->S f n=S g n
 | 0,_=>rfl
 | n+1,h=>by
  show S f n+f n=S g n+g n;rw[J8 n fun i a=>h i (by lia),h n (by lia)]
theorem zk4 {f:Nat->Int}{n:Nat}:∀m,(∀i,n<=i->i<n+m->f i=0)->S f (n+m)=S f n
 | 0,_=>rfl
 | m+1,h=>by
  show S f (n+m)+f (n+m)=S f n;rw[zk4 m fun i h1 h2=>h i h1 (by lia),h (n+m) (by lia) (by lia),RP]
theorem zmN {f:Nat->Int}{n m:Nat}(a:n<=m)(h:∀i,n<=i->i<m->f i=0):S f m=S f n:=by
 obtain⟨d,rfl⟩:∃d,m=n+d:=⟨m-n,by lia⟩;exact zk4 d h
theorem zoL (xs ys:List Int)(k:Nat):S (hk xs ys k) xs.length=S (fun i=>F xs i*F ys (k-i)) (k+1):=by
 have a:S (fun i=>F xs i*F ys (k-i)) (k+1)=S (hk xs ys k) (k+1):=J8 _ fun i b=>by
  unfold hk;rw[if_pos (by lia)]
 rw[a];by_cases c:xs.length<=k+1
 ·refine(zmN c fun i h1 _=>?_).symm;unfold hk;rw[zcx h1];split<;>simp
 ·refine zmN (by lia) fun i h1 _=>?_;unfold hk;rw[if_neg (by lia)]
theorem zhh (xs ys:List Int)(i j:Nat):(st xs ys i j).length=xs.length+ys.length-1:=by
 unfold st;rw[Y1,W6]
theorem zhi {xs ys:List Int}{i j k:Nat}(h:k<xs.length+ys.length-1):(st xs ys i j)[k]?=some (part xs ys i j k):=by
 unfold st;rw[Xl,UI h];rfl
theorem zk5 (xs ys:List Int):st xs ys 0 0=WP (xs.length+ys.length-1) 0:=by
 unfold st;have e:∀k,part xs ys 0 0 k=0:=fun k=>by
  unfold part;rw[if_neg (by lia)];rfl
 refine(Xh (g:=fun _=>(0:Int)) fun k _=>e k).trans ?_;rw[List.map_const',W6]
theorem zk6 (xs ys:List Int)(i k:Nat):part xs ys i ys.length k=part xs ys (i+1) 0 k:=by
 unfold part;rw[if_neg (show ¬ (i+1<=k/\k-(i+1)<0) by lia),RP];show _=S (hk xs ys k) i+hk xs ys k i;congr 1;unfold hk;by_cases c:i<=k
 ·by_cases d:k-i<ys.length
  ·rw[if_pos ⟨c,d⟩,if_pos c]
  ·rw[if_neg (fun z=>d z.2),if_pos c,zcx (show ys.length<=k-i by lia),PC]
 ·rw[if_neg (fun z=>c z.1),if_neg c]
theorem zoM (xs ys:List Int)(i:Nat):st xs ys i ys.length=st xs ys (i+1) 0:=by
 unfold st;exact Xh fun k _=>zk6 xs ys i k
theorem zmO {xs ys:List Int}{i j:Nat}{x y:Int}(a:xs[i]?=some x)(b:ys[j]?=some y):(st xs ys i j).set (i+j) (part xs ys i j (i+j)+x*y)=st xs ys i (j+1):=by
 have h:i<xs.length:=(XZ.mp a).1;have l:j<ys.length:=(XZ.mp b).1;apply T3;intro k;rw[List.getElem?_set];by_cases c:k<xs.length+ys.length-1
 ·rw[zhi c,zhi c];by_cases e:i+j=k
  ·subst e;rw[if_pos rfl,if_pos (by rw[zhh];exact c)];congr 1;unfold part;rw[if_neg (by lia),if_pos (by lia),RP,zmM a,S4,zmM b]
  ·rw[if_neg e];congr 1;unfold part;congr 1;by_cases d:i<=k/\k-i<j
   ·rw[if_pos d,if_pos (by lia)]
   ·rw[if_neg d,if_neg (by lia)]
 ·have g:∀f,(st xs ys i f)[k]?=none:=fun f=>U2 (by rw[zhh];lia);rw[g,g];by_cases e:i+j=k
  ·lia
  ·rw[if_neg e]
theorem zoN (xs ys:List Int):st xs ys xs.length 0=Zh xs ys:=by
 unfold st Zh;refine Xh fun k _=>?_;unfold part;rw[if_neg (by lia),RP]
end Pour
namespace Choose
def ch:Nat->Nat->Nat
 | _,0=>1
 | 0,_+1=>0
 | n+1,k+1=>ch n k+ch n (k+1)
theorem Qf (n:Nat):ch n 0=1:=by cases n<;>rfl
theorem za9:∀(n k:Nat),n<k->ch n k=0
 | 0,0,h=>absurd h (by lia)
 | 0,k+1,_=>rfl
 | n+1,0,h=>absurd h (by lia)
 | n+1,k+1,h=>by
  show ch n k+ch n (k+1)=0;rw[za9 n k (by lia),za9 n (k+1) (by lia)]
theorem zbX:∀n k:Nat,(k+1)*ch n (k+1)+k*ch n k=n*ch n k
 | 0,0=>rfl
 | 0,k+1=>by
  show (k+1+1)*0+(k+1)*0=0*0;simp
 | n+1,0=>by
  have h:=zbX n 0;rw[Qf] at h ⊢;show (0+1)*(ch n 0+ch n (0+1))+0*1=(n+1)*1;rw[Qf];lia
 | n+1,j+1=>by
  have h1:=zbX n (j+1);have h2:=zbX n j;show (j+1+1)*(ch n (j+1)+ch n (j+1+1))+(j+1)*(ch n j+ch n (j+1))=(n+1)*(ch n j+ch n (j+1));generalize ch n (j+1+1)=C2 at *
  generalize ch n (j+1)=C1 at *
  generalize ch n j=C0 at *
  simp only[Nat.add_mul,Nat.mul_add,Nat.one_mul] at *
  lia
theorem zmP {n k:Nat}(h:k<n):(ch n k:Int)*((n:Int)-k)/((k:Int)+1)=ch n (k+1):=by
 have e:=zbX n k;have a:(ch n k:Int)*((n:Int)-k)=(ch n (k+1):Int)*((k:Int)+1):=by
  have:((k+1)*ch n (k+1)+k*ch n k:Int)=(n*ch n k:Int):=by exact_mod_cast e
  rw[Int.mul_sub,Op (ch n k:Int) n,<- this,Op (ch n (k+1):Int) ((k:Int)+1),Op (ch n k:Int) (k:Int)];lia
 rw[a];exact Int.mul_ediv_cancel _ (by lia)
theorem zqb (n:Nat):∀k,ch n k<=2^n:=by
 induction n with
 | zero =>
  intro k;cases k with
  | zero=>decide
  | succ k =>
   show (0:Nat)<=2^0;decide
 | succ n a =>
  intro k;cases k with
  | zero =>
   rw[Qf];exact Nat.one_le_two_pow
  | succ k =>
   show ch n k+ch n (k+1)<=2^(n+1);rw[Us];have:=a k;have:=a (k+1);lia
end Choose
namespace Tally
open Subs
variable {α:Type}
theorem zaB:∀(B:List α) (a:List (List α)),B.foldl step a=(subs B).flatMap fun b=>a.map (·++b)
 | [],a=>by simp[subs]
 | c::r,a=>by
  have e:subs (c::r)=(subs r).flatMap fun b=>[b,c::b]:=by
   show r.foldl step (step [[]] c)=_;rw[zaB r];rfl
  show r.foldl step (step a c)=_;rw[zaB r,e,List.flatMap_assoc];congr 1;funext b;show (a++a.map (·++[c])).map (·++b)=a.map (·++b)++(a.map (·++(c::b))++[]);rw[Xk,Xc,WM];congr 1;refine Xh fun x _=>?_;show x++[c]++b=_;rw[WY];rfl
theorem Qg (c:α)(r:List α):subs (c::r)=(subs r).flatMap fun b=>[b,c::b]:=by
 show r.foldl step (step [[]] c)=_;rw[zaB r];rfl
theorem zaC (A B:List α):subs (A++B)=(subs B).flatMap fun b=>(subs A).map (·++b):=by
 unfold subs;rw[SG];exact zaB B _
theorem zd4 (c:α)(p:List α->Bool):∀L:List (List α),(L.flatMap fun b=>[b,c::b]).countP p=L.countP p+L.countP fun S=>p (c::S)
 | []=>rfl
 | b::L=>by
  have a:=zd4 c p L;rw[List.flatMap_cons,Vo,a,WT (l:=L),WT (l:=L),WT,WT,RX];lia
theorem count_cons (c:α)(r:List α)(p:List α->Bool):(subs (c::r)).countP p=(subs r).countP p+(subs r).countP fun S=>p (c::S):=by
 rw[Qg,zd4]
def Inv (p:List α->Bool):Prop:=∀a b,a.Perm b->p a=p b
theorem Inv.cons {p:List α->Bool}(h:Inv p)(c:α):Inv fun S=>p (c::S):=fun _ _ e=>h _ _ (e.cons c)
theorem zhj {cs a:List α}(e:cs.Perm a):∀{p:List α->Bool},Inv p->(subs cs).countP p=(subs a).countP p:=by
 induction e with
 | nil=>intro p _;rfl
 | cons c _ b =>
  intro p h;rw[count_cons,count_cons,b h,b (h.cons c)]
 | swap x y l =>
  intro p h;rw[count_cons,count_cons,count_cons,count_cons,count_cons,count_cons];have:(subs l).countP (fun S=>p (y::x::S))=(subs l).countP fun S=>p (x::y::S):=VA fun S _=>by rw[h _ _ (List.Perm.swap x y S)]
  lia
 | trans _ _ d f =>
  intro p h;exact(d h).trans (f h)
def T (cs:List α)(p:List α->Bool)(k:Nat):Nat:=(subs cs).countP fun S=>decide (S.length=k)&&p S
theorem ze2 {cs c:List α}(e:cs.Perm c){p:List α->Bool}(h:Inv p)(k:Nat):T cs p k=T c p k:=zhj e fun a b e=>by rw[h a b e,e.length_eq]
theorem ziA {cs:List α}{p q:List α->Bool}(h:∀S∈subs cs,p S=q S)(k:Nat):T cs p k=T cs q k:=VA fun S a=>by rw[h S a]
theorem znC (f g:Nat->Int):∀n,Pour.S (fun i=>f i+g i) n=Pour.S f n+Pour.S g n
 | 0=>rfl
 | n+1=>by
  show Pour.S (fun i=>f i+g i) n+(f n+g n)=Pour.S f n+f n+(Pour.S g n+g n);rw[znC f g n];lia
theorem zk7:∀n,Pour.S (fun _=>0) n=0
 | 0=>rfl
 | n+1=>by
  show Pour.S (fun _=>0) n+0=0;rw[zk7 n];rfl
theorem zfW (j:Nat)(x:Int):∀n,Pour.S (fun i=>if i=j then x else 0) n=if j<n then x else 0
 | 0=>rfl
 | n+1=>by
  show Pour.S (fun i=>if i=j then x else 0) n+(if n=j then x else 0)=_;rw[zfW j x n];by_cases h:n=j
  ·rw[if_neg (by lia),if_pos h,if_pos (by lia),RO]
  ·rw[if_neg h,RP];by_cases h2:j<n
   ·rw[if_pos h2,if_pos (by lia)]
   ·rw[if_neg h2,if_neg (by lia)]
theorem zfX (q:List α->Bool)(f:Nat->Nat)(k:Nat):∀L:List (List α),(((L.map fun b=>if (q b&&decide (b.length<=k))=true then f (k-b.length) else 0).sum:Nat):Int)=Pour.S (fun i=>(f i:Int)*((L.countP fun b=>decide (b.length=k-i)&&q b:Nat):Int)) (k+1):=by
 intro L;induction L with
 | nil =>
  have:Pour.S (fun i=>(f i:Int)*((([]:List (List α)).countP fun b=>decide (b.length=k-i)&&q b:Nat):Int)) (k+1)=Pour.S (fun _=>0) (k+1):=Pour.J8 _ fun i _=>by
   show (f i:Int)*0=0;lia
  rw[this,zk7];rfl
 | cons b L h =>
  rw[Xe,OE,Tk,h];have e:Pour.S (fun i=>(f i:Int)*(((b::L).countP fun b=>decide (b.length=k-i)&&q b:Nat):Int)) (k+1)=Pour.S (fun i=>(f i:Int)*((L.countP fun b=>decide (b.length=k-i)&&q b:Nat):Int)+if i=k-b.length then (if (q b&&decide (b.length<=k))=true then (f (k-b.length):Int) else 0) else 0) (k+1):=Pour.J8 _ fun i j=>by
   rw[WT];by_cases c:q b=true
   ·by_cases g:b.length<=k
    ·by_cases a:i=k-b.length
     ·have h1:b.length=k-i:=by lia
      have h2:k-i<=k:=by lia
      simp only[c,h1,h2,decide_true,Uc,if_true,if_pos a];rw[show k-(k-i)=i by lia,if_pos rfl,Tk,Int.mul_add];lia
     ·have h1:¬b.length=k-i:=by lia
      simp only[c,h1,decide_false,Uc,if_neg a];simp
    ·have h1:¬b.length=k-i:=by lia
     simp[c,h1,g]
   ·have d:q b=false:=XB.mpr c;simp[d]
  rw[e,znC,zfW,if_pos (show k-b.length<k+1 by lia),Int.add_comm];congr 1;split<;>rfl
theorem zk8 {A B:List α}{P f pB:List α->Bool}(h:∀a∈subs A,∀b∈subs B,P (a++b)=(f a&&pB b))(k:Nat):(T (A++B) P k:Int)=Pour.S (fun i=>(T A f i:Int)*(T B pB (k-i):Int)) (k+1):=by
 unfold T;rw[zaC,List.countP_flatMap];have e:(subs B).map (S6 (fun S=>decide (S.length=k)&&P S)∘fun b=>(subs A).map (·++b))=(subs B).map fun b=>if (pB b&&decide (b.length<=k))=true then (T A f) (k-b.length) else 0:=by
  refine Xh fun b j=>?_;show S6 _ ((subs A).map (·++b))=_;rw[Tl];by_cases d:(pB b&&decide (b.length<=k))=true
  ·rw[if_pos d];obtain⟨h1,h2⟩:=Wh.mp d;have h2:=of_decide_eq_true h2;refine VA fun a g=>?_;show (decide ((a++b).length=k)&&P (a++b))=true↔(decide (a.length=k-b.length)&&f a)=true;rw[h a g b j,h1,Uc,XW,show (decide (a.length+b.length=k))=decide (a.length=k-b.length) from decide_eq_decide.mpr (by lia)]
  ·rw[if_neg d];refine Vb.mpr fun a g c=>d ?_;have c:(decide ((a++b).length=k)&&P (a++b))=true:=c;rw[h a g b j] at c;obtain⟨h1,h2⟩:=Wh.mp c;have h1:=of_decide_eq_true h1;rw[XW] at h1;rw[(Wh.mp h2).2,decide_eq_true (by lia)];rfl
 rw[e,zfX];rfl
theorem jV {cs S:List α}(h:S∈subs cs):S.Sublist cs:=by
 revert S;induction cs with
 | nil=>intro S h;simp[subs] at h;subst h;exact List.Sublist.refl _
 | cons c r d =>
  intro S h;rw[Qg] at h;obtain⟨b,a,h⟩:=Sh.mp h;have:=d a;simp at h;rcases h with rfl | rfl
  ·exact this.cons c
  ·exact this.cons_cons c
theorem zcy {cs:List α}{p:List α->Bool}{k:Nat}(h:cs.length<k):T cs p k=0:=by
 refine Vb.mpr fun S a b=>?_;have h1:=of_decide_eq_true (Wh.mp b).1;have h2:=(jV a).length_le;lia
def tl (cs:List α)(p:List α->Bool):List Int:=(XC (cs.length+1)).map fun k=>(T cs p k:Int)
theorem j8 (cs:List α)(p:List α->Bool):(tl cs p).length=cs.length+1:=by
 unfold tl;rw[Y1,W6]
theorem zjF (cs:List α)(p:List α->Bool)(i:Nat):Pour.F (tl cs p) i=(T cs p i:Int):=by
 by_cases h:i<cs.length+1
 ·refine Pour.zmM ?_;unfold tl;rw[Xl,UI h];rfl
 ·rw[Pour.zcx (by rw[j8];lia),zcy (by lia)];rfl
theorem zmQ {A B:List α}{P c pB:List α->Bool}(h:∀a∈subs A,∀b∈subs B,P (a++b)=(c a&&pB b)):Pour.Zh (tl A c) (tl B pB)=tl (A++B) P:=by
 unfold Pour.Zh;rw[j8,j8];show _=(XC ((A++B).length+1)).map fun k=>(T (A++B) P k:Int);rw[XW,show A.length+1+(B.length+1)-1=A.length+B.length+1 by lia];refine Xh fun k _=>?_;have e:=Pour.zoL (tl A c) (tl B pB) k;rw[j8] at e;rw[e,zk8 h];exact Pour.J8 _ fun i _=>by rw[zjF,zjF]
theorem zk9 {cs:List α}{p q:List α->Bool}(h:∀S∈subs cs,p S=q S):tl cs p=tl cs q:=by
 unfold tl;refine Xh fun k _=>by rw[ziA h]
theorem zfY:∀(cs:List α) (k:Nat),T cs (fun _=>true) k=Choose.ch cs.length k
 | [],0=>rfl
 | [],k+1=>rfl
 | c::r,0=>by
  have e:=zfY r 0;unfold T at e ⊢;rw[count_cons,e,Choose.Qf,Choose.Qf];have:(subs r).countP (fun S=>decide ((c::S).length=0)&&true)=0:=Vb.mpr fun S _ d=>by simp at d
  rw[this]
 | c::r,k+1=>by
  have a:=zfY r k;have b:=zfY r (k+1);unfold T at a b ⊢;rw[count_cons,b];have:(subs r).countP (fun S=>decide ((c::S).length=k+1)&&true)=(subs r).countP fun S=>decide (S.length=k)&&true:=VA fun S _=>by
   rw[Xr,show decide (S.length+1=k+1)=decide (S.length=k) from decide_eq_decide.mpr (by lia)]
  rw[this,a];show _=Choose.ch r.length k+Choose.ch r.length (k+1);lia
theorem zoO [DecidableEq α]{cs:List α}{c:α}(f:c∈cs)(m:cs.Nodup)(k:Nat):T cs (fun S=>decide (c∈S)) k=if k=0 then 0 else Choose.ch (cs.length-1) (k-1):=by
 have g:cs.Perm (c::cs.erase c):=List.perm_cons_erase f;have l:c ∉ cs.erase c:=fun h=>by
  have:=g.nodup_iff.mp m;exact(VM.mp this).1 h
 rw[ze2 g (fun a b e=>decide_eq_decide.mpr e.mem_iff)];unfold T;rw[count_cons];have z:(subs (cs.erase c)).countP (fun S=>decide (S.length=k)&&decide (c∈S))=0:=Vb.mpr fun S j d=>by
  have h1:=of_decide_eq_true (Wh.mp d).2;exact l ((jV j).subset h1)
 rw[z,V6];have i:(cs.erase c).length=cs.length-1:=by rw[List.length_erase,if_pos f]
 cases k with
 | zero =>
  rw[if_pos rfl];exact Vb.mpr fun S _ d=>by simp at d
 | succ k =>
  rw[if_neg (by lia),<- i,RG,<- zfY];unfold T;refine VA fun S _=>?_;rw[Xr,show decide (S.length+1=k+1)=decide (S.length=k) from decide_eq_decide.mpr (by lia)];show (_&&decide (c∈c::S))=true↔_;rw[decide_eq_true XS]
variable {α:Type}
structure Loc (U:List α)(p:List α->Bool)(g:List α):Prop where
 l:∀a b,(∀c∈a,c∈U/\c ∉ g)->p (a++b)=p b
 r:∀a b,(∀c∈b,c∈U/\c ∉ g)->p (a++b)=p a
def yt (a:List α->List α->Bool)(gs:List (List α))(S:List α):Bool:=gs.all fun g=>a g S
theorem zcz (a:List α->List α->Bool)(as bs:List (List α))(S:List α):yt a (as++bs) S=(yt a as S&&yt a bs S):=List.all_append
theorem zhk {a:List α->List α->Bool}{gs:List (List α)}{S b:List α}(h:∀g∈gs,a g S=a g b):yt a gs S=yt a gs b:=by
 unfold yt;induction gs with
 | nil=>rfl
 | cons g r d =>
  rw[Rl,Rl,h g XS,d fun x c=>h x (XT _ c)]
theorem zcA {U:List α}{d:List α->List α->Bool}{done:List (List α)}{g:List α}{q:List α->Bool}(s:(done.flatten++g).Nodup)(f:∀c∈done.flatten++g,c∈U)(o:∀x∈done,Loc U (d x) x)(p:Loc U q g) :
  Pour.Zh (tl done.flatten (yt d done)) (tl g q)=tl (done.flatten++g) fun S=>yt d done S&&q S:=by
 obtain⟨_,_,j⟩:=VW.mp s;refine zmQ fun a m b n=>?_;have sa:=(jV m).subset;have k:=(jV n).subset;rw[p.l a b fun c e=>⟨f c (WW _ (sa e)),fun h=>j c (sa e) c h rfl⟩];congr 1;exact zhk fun x i=>(o x i).r a b fun c e=>⟨f c (XD _ (k e)),fun h=>j c (Wr.mpr ⟨x,i,h⟩) c (k e) rfl⟩
theorem zmR {U:List α}{a:List α->List α->Bool}:∀(gs done:List (List α)),(done++gs).flatten.Nodup->(∀c∈(done++gs).flatten,c∈U)->(∀g∈done++gs,Loc U (a g) g)->(gs.map fun g=>tl g (a g)).foldl Pour.Zh (tl done.flatten (yt a done))=tl (done++gs).flatten (yt a (done++gs)):=by
 intro gs;induction gs with
 | nil =>
  intro done _ _ _;rw[Xc];rfl
 | cons g r i =>
  intro done d h b;have e:done++g::r=(done++[g])++r:=by rw[WY];rfl
  rw[e] at d h b ⊢;have f:(done++[g]).flatten=done.flatten++g:=by rw[Ws];simp
  have j:(done.flatten++g).Nodup:=by
   rw[Ws,f] at d;exact(VW.mp d).1
  have i:=i (done++[g]) d h b;rw[<- i,Xe,VT,f];congr 1;rw[zcA j (fun c k=>h c (by rw[Ws,f];exact WW _ k)) (fun x l=>b x (by simp[l])) (b g (by simp))];refine zk9 fun S _=>?_;rw[zcz];congr 1;show a g S=(a g S&&true);rw[Uc]
theorem zhl {U:List α}{a:List α->List α->Bool}{gs:List (List α)}(e:gs.flatten.Nodup)(d:∀c∈gs.flatten,c∈U)(b:∀g∈gs,Loc U (a g) g):(gs.map fun g=>tl g (a g)).foldl Pour.Zh [1]=tl gs.flatten (yt a gs):=zmR gs [] e d b
def chZ (n:Nat)(k:Int):Int:=if k<0 then 0 else (Choose.ch n k.toNat:Nat)
def dl (xs:List Int)(m:Nat)(s:Int):Int:=Pour.S (fun k=>Pour.F xs k*chZ m (s-(k:Nat))) xs.length
theorem zla (g:Nat->Int){a b:Nat}(c:∀i,a<=i->g i=0)(d:∀i,b<=i->g i=0):Pour.S g a=Pour.S g b:=by
 by_cases h:a<=b
 ·exact(Pour.zmN h fun i h1 _=>c i h1).symm
 ·exact Pour.zmN (by lia) fun i h1 _=>d i h1
theorem znD {A c:List α}{P d:List α->Bool}(h:∀a∈subs A,∀b∈subs c,P (a++b)=d a)(s:Nat):dl (tl A d) c.length (s:Nat)=(T (A++c) P s:Int):=by
 rw[zk8 (pB:=fun _=>true) (fun a f b g=>by rw[h a f b g,Uc]) s];unfold dl;rw[j8];rw[zla (fun k=>Pour.F (tl A d) k*chZ c.length ((s:Int)-(k:Nat))) (a:=A.length+1) (b:=s+1) (fun i e=>by rw[zjF,zcy (by lia)];simp) (fun i e=>by
  unfold chZ;rw[if_pos (by lia),PC])]
 refine Pour.J8 _ fun i e=>?_;show Pour.F (tl A d) i*chZ c.length ((s:Int)-(i:Nat))=_;rw[zjF,zfY];unfold chZ;rw[if_neg (by lia),show ((s:Int)-(i:Nat)).toNat=s-i by lia]
theorem zmS [DecidableEq α]{A d:List α}{P f:List α->Bool}{c:α}(j:c∈d)(l:d.Nodup)(h:∀a∈subs A,∀b∈subs d,P (a++b)=(f a&&decide (c∈b)))(s:Nat):dl (tl A f) (d.length-1) ((s:Nat)-1)=(T (A++d) P s:Int):=by
 rw[zk8 h s];unfold dl;rw[j8];rw[zla (fun k=>Pour.F (tl A f) k*chZ (d.length-1) ((s:Int)-1-(k:Nat))) (a:=A.length+1) (b:=s+1) (fun i g=>by rw[zjF,zcy (by lia)];simp) (fun i g=>by
  unfold chZ;rw[if_pos (by lia),PC])]
 refine Pour.J8 _ fun i g=>?_;show Pour.F (tl A f) i*chZ (d.length-1) ((s:Int)-1-(i:Nat))=_;rw[zjF,zoO j l];unfold chZ;by_cases e:s-i=0
 ·rw[if_pos (by lia),if_pos e];rfl
 ·rw[if_neg (by lia),if_neg e,show ((s:Int)-1-(i:Nat)).toNat=s-i-1 by lia]
theorem zbY {cs:List α}{p:List α->Bool}(h:∀S∈subs cs,p S=false)(k:Nat):T cs p k=0:=Vb.mpr fun S b a=>by
 rw[h S b,Bool.and_false] at a;cases a
theorem ziB (cs:List α)(p:List α->Bool):Cnt.Jk cs.length ((subs cs).filter p)=tl cs p:=by
 unfold Cnt.Jk tl T;refine Xh fun k _=>?_;rw[List.countP_filter]
theorem zfZ {b:Type}(g:Nat)(f:List α->List b)(a:∀k,(f k).length=k.length)(ks:List (List α)):Cnt.Jk g (ks.map f)=Cnt.Jk g ks:=by
 unfold Cnt.Jk;refine Xh fun n _=>?_;rw[Tl];congr 1;refine VA fun k _=>?_;show decide ((f k).length=n)=true↔_;rw[a]
variable {α β:Type}
theorem zf0 (f:α->β):∀L:List α,subs (L.map f)=(subs L).map (UD f)
 | []=>rfl
 | c::r=>by
  rw[Xe,Qg,Qg,zf0 f r,List.map_flatMap,List.flatMap_map];rfl
theorem zqc (f:α->β)(L:List α)(p:List β->Bool)(k:Nat):T (L.map f) p k=T L (fun S=>p (S.map f)) k:=by
 unfold T;rw[zf0,Tl];refine VA fun S _=>?_;show (decide ((S.map f).length=k)&&p (S.map f))=true↔_;rw[Y1]
theorem zlb [DecidableEq α]{a b:List α}(c:a.Nodup)(d:b.Nodup):(a.filter fun x=>decide (x∈b)).length=(b.filter fun x=>decide (x∈a)).length:=by
 refine OK ((Vx (c.sublist Wg) (d.sublist Wg)).mpr fun x=>?_);rw[XX,XX,decide_eq_true_eq,decide_eq_true_eq];exact⟨fun h=>⟨h.2,h.1⟩,fun h=>⟨h.2,h.1⟩⟩
theorem zcB (L:List α)(d:α):(XC L.length).map (fun k=>L.getD k d)=L:=by
 refine T3 fun k=>?_;rw[Xl];by_cases h:k<L.length
 ·rw[UI h,X7 h];show some (L.getD k d)=_;rw[XA,X7 h];rfl
 ·rw[U2 (by rw[W6];lia),U2 (by lia)];rfl
end Tally
namespace K41
open PySem L2
variable {P:Xg}{w:WQ}{K:X5}{mg:Str->Option X9}{base:Heap}{f:Addr}{fd:Xo}
abbrev top (i:Nat):Stmt:=zb2.top i
abbrev ZE:Stmt:=top 14
abbrev qy:Stmt:=top 15
abbrev j9:Stmt:=top 16
abbrev yb:Stmt:=top 17
abbrev qF:Stmt:=top 18
abbrev qQ:Stmt:=top 19
abbrev zbZ:Stmt:=top 21
abbrev ZF:Stmt:=top 22
abbrev zf1:Stmt:=top 23
abbrev jJ:Stmt:=top 24
abbrev yu:Stmt:=top 25
abbrev qS:Stmt:=top 26
abbrev qK:Stmt:=top 29
abbrev yL:Stmt:=top 30
abbrev xD:Stmt:=top 31
abbrev xW:Stmt:=top 32
abbrev JH:Stmt:=top 33
abbrev xj:Stmt:=top 34
abbrev Qh:Stmt:=top 36
abbrev zaD:Stmt:=top 37
abbrev yD:Stmt:=top 39
abbrev zb0:Stmt:=top 40
abbrev jb:Stmt:=top 41
abbrev JA:Stmt:=top 42
abbrev zaE:Stmt:=top 43
abbrev Yb:Stmt:=top 45
abbrev jg:Stmt:=top 46
abbrev YQ:Stmt:=top 48
abbrev JB:Stmt:=top 49
abbrev zba:Stmt:=top 50
abbrev xX:Stmt:=top 52
abbrev Yc:Stmt:=top 53
abbrev J9:Stmt:=top 54
abbrev Jd:Stmt:=top 55
abbrev Qi:Stmt:=top 56
abbrev Je:Stmt:=top 57
abbrev yE:Stmt:=top 58
abbrev JT:Stmt:=top 59
abbrev yF:Stmt:=top 60
abbrev jQ:Stmt:=top 61
abbrev JC:Stmt:=top 62
abbrev xY:Stmt:=top 63
abbrev Yd:Stmt:=top 64
abbrev Qj:Stmt:=top 65
abbrev Qk:Stmt:=top 66
abbrev zf2:Stmt:=top 67
structure Txt (mg:Str->Option X9):Prop where
 ze3:mg "ValueError"=none
 zlc:mg "any"=none
 zhm:mg "dict"=none
 zf3:mg "divmod"=none
 yd:mg "enumerate"=none
 ziC:mg "int"=none
 qe:mg "isinstance"=none
 jz:mg "len"=none
 ze4:mg "list"=none
 zf4:mg "max"=none
 zf5:mg "min"=none
 ji:mg "range"=none
 zqd:mg "set"=none
 zcC:mg "sorted"=none
 znE:mg "str"=none
 zqe:mg "sum"=none
 ziD:mg "tuple"=none
 zqf:mg "zip"=none
 Zi:∃t,mg "CLOSED_SIGN"=some (.str "?" t)
 zcD:∃t,mg "MOST_OF_PART"=some (.int 14 t)
 YR:∃t,mg "NO_CELL_SIGN"=some (.str "#" t)
structure Prog (K:X5)(mg:Str->Option X9):Prop where
 closed:∃(f:Addr) (fd:Xo),zm K mg "closed" ZE ["board"] f fd
 open_cells:∃(f:Addr) (fd:Xo),zm K mg "open_cells" qy ["board"] f fd
 around:∃(f:Addr) (fd:Xo),zm K mg "around" j9 ["board","cell"] f fd
 number_at:∃(f:Addr) (fd:Xo),zm K mg "number_at" yb ["board","cell"] f fd
 cells_of:∃(f:Addr) (fd:Xo),zm K mg "cells_of" qF ["board"] f fd
 sign_at:∃(f:Addr) (fd:Xo),zm K mg "sign_at" qQ ["board","cell"] f fd
 parts:∃(f:Addr) (fd:Xo),zm K mg "parts" zbZ ["board"] f fd
 joined:∃(f:Addr) (fd:Xo),zm K mg "joined" ZF ["groups","cells"] f fd
 far:∃(f:Addr) (fd:Xo),zm K mg "far" zf1 ["board"] f fd
 numbers_of:∃(f:Addr) (fd:Xo),zm K mg "numbers_of" jJ ["board","part"] f fd
 bare_wrong:∃(f:Addr) (fd:Xo),zm K mg "bare_wrong" yu ["board"] f fd
 closed_around:∃(f:Addr) (fd:Xo),zm K mg "closed_around" qS ["board","cell"] f fd
 part_layings:∃(f:Addr) (fd:Xo),zm K mg "part_layings" qK ["board","part"] f fd
 needs_at:∃(f:Addr) (fd:Xo),zm K mg "needs_at" yL ["told","cell","rest"] f fd
 may_fit:∃(f:Addr) (fd:Xo),zm K mg "may_fit" xD ["needs","pick"] f fd
 part_counts:∃(f:Addr) (fd:Xo),zm K mg "part_counts" xW ["board","part"] f fd
 counted:∃(f:Addr) (fd:Xo),zm K mg "counted" JH ["found","greatest"] f fd
 counted_at:∃(f:Addr) (fd:Xo),zm K mg "counted_at" xj ["found","greatest","cell"] f fd
 choices:∃(f:Addr) (fd:Xo),zm K mg "choices" Qh ["n","k"] f fd
 poured:∃(f:Addr) (fd:Xo),zm K mg "poured" zaD ["one","other"] f fd
 near_counts:∃(f:Addr) (fd:Xo),zm K mg "near_counts" yD ["board"] f fd
 count:∃(f:Addr) (fd:Xo),zm K mg "count" zb0 ["board"] f fd
 counts_by_cell:∃(f:Addr) (fd:Xo),zm K mg "counts_by_cell" jb ["board"] f fd
 all_poured:∃(f:Addr) (fd:Xo),zm K mg "all_poured" JA ["lists"] f fd
 dealt:∃(f:Addr) (fd:Xo),zm K mg "dealt" zaE ["counts","cells","stones"] f fd
 fraction:∃(f:Addr) (fd:Xo),zm K mg "fraction" Yb ["top","bottom"] f fd
 greatest_divisor:∃(f:Addr) (fd:Xo),zm K mg "greatest_divisor" jg ["number","bottom"] f fd
 shares:∃(f:Addr) (fd:Xo),zm K mg "shares" YQ ["board"] f fd
 some_count:∃(f:Addr) (fd:Xo),zm K mg "some_count" JB ["board"] f fd
 sure:∃(f:Addr) (fd:Xo),zm K mg "sure" zba ["board"] f fd
 law_cell_at:∃(f:Addr) (fd:Xo),zm K mg "_law_cell_at" xX ["_law_script","_law_k"] f fd
 law_near:∃(f:Addr) (fd:Xo),zm K mg "_law_near" Yc ["_law_at","_law_rows","_law_columns"] f fd
 law_signs:∃(f:Addr) (fd:Xo),zm K mg "_law_signs" J9 ["_law_script","_law_start","_law_rows","_law_columns"] f fd
 law_texts:∃(f:Addr) (fd:Xo),zm K mg "_law_texts" Jd ["_law_signs_here","_law_rows","_law_columns"] f fd
 law_dug:∃(f:Addr) (fd:Xo),zm K mg "_law_dug" Qi ["_law_script","_law_start","_law_rows","_law_columns"] f fd
 law_board:∃(f:Addr) (fd:Xo),zm K mg "_law_board" Je ["_law_script","_law_start"] f fd
 law_numbers:∃(f:Addr) (fd:Xo),zm K mg "_law_numbers" yE ["_law_texts_here","_law_shut"] f fd
 law_fits:∃(f:Addr) (fd:Xo),zm K mg "_law_fits" JT ["_law_some","_law_numbers_here"] f fd
 law_choices:∃(f:Addr) (fd:Xo),zm K mg "_law_choices" yF ["_law_many"] f fd
 law_layings:∃(f:Addr) (fd:Xo),zm K mg "_law_layings" jQ ["_law_texts_here","_law_stones"] f fd
 law_closed:∃(f:Addr) (fd:Xo),zm K mg "_law_closed" JC ["_law_texts_here"] f fd
 law_outcome:∃(f:Addr) (fd:Xo),zm K mg "_law_outcome" xY ["_law_error"] f fd
 law_told:∃(f:Addr) (fd:Xo),zm K mg "_law_told" Yd ["_law_board_here"] f fd
 law_are:∃(f:Addr) (fd:Xo),zm K mg "_law_are" Qj ["_law_found","_law_due"] f fd
 law_one:∃(f:Addr) (fd:Xo),zm K mg "_law_one" Qk ["_law_texts_here","_law_stones"] f fd
def zhn (K:X5):Sp:=fun c H Q _=>∃(a:Addr) (b:List Int) (k:Int),c=[.ref a,.int k]/\SqL K H a (b.map V.int)/\0<=k/\∀z:Int,Q (.int z) H
structure Row (signs:List Nat)(n:Nat)(t:Str):Prop where
 len:t.cps.size=n
 mem:∀c∈t.cps.toList,c∈signs
structure Rows (signs:List Nat)(rs:List Str):Prop where
 lo:1<=rs.length
 hi:rs.length<=8
 ex:∃n,1<=n/\n<=8/\∀t∈rs,Row signs n t
def bd:Str:="?012345678#"
theorem zcE:zF ["_law_script","_law_k"] ["_law_script","_law_k"] (zg xX):=⟨rfl,rfl,rfl,by decide +kernel,rfl,by decide +kernel,by decide +kernel⟩
theorem yf (T:Txt mg)(D:zm K mg "_law_cell_at" xX ["_law_script","_law_k"] f fd):qt P w K mg base CX0 1 f fd ["_law_script","_law_k"] (zhn K):=by
 refine D.F.ok zcE (fun n H Q E h=>?_) (fun j A d s H n Q E o h=>?_)
 ·obtain⟨a,b,i,rfl,_⟩:=h;rfl
 ·obtain⟨a,b,i,rfl,e,l,k⟩:=h;refine⟨_,(zd (jc (zG zoG (pvS 1) (zq zH (by rfl) T.jz WX (za (pvS 0) zb)) (zQ _)) (zf (zI (qf qV (pvS 0) (pvS 1) (fun _ _=>rfl)))) zZ)
   (zf (zI zk))),?_⟩
  refine⟨_,rfl,_,rfl,a,_,rfl,.inl e,_,_,rfl,rfl,_,rfl,?_⟩;refine zeG (fun c=>?_) (fun c=>?_)
  ·have g:i<((b.map V.int).length:Nat):=of_decide_eq_true c;rw[Y1] at g;have m:i.toNat<b.length:=by lia
   refine⟨_,rfl,_,rfl,a,_,i,.int b[i.toNat],rfl,rfl,e,jT l (by rw[Xl,X7 m];rfl),?_⟩;exact k _
  ·exact k 0
structure zY (H:Hp)(p l:Addr)(rs:List Str)(n:Int):Prop where
 tp:H p=some (.tup [.ref l,.int n])
 rw:H l=some (.lst (rs.map V.str))
theorem zld:∀c∈bd.cps.toList,c<1114112:=by decide +kernel
theorem zmT {n:Nat}{t:Str}(r:Row bd.cps.toList n t):Vk (.str t)=true:=by
 show t.cps.all (· < 0x110000)=true;rw[Array.all_eq_true'];intro c a;exact decide_eq_true (zld c (r.mem c (TR.mpr a)))
theorem zf6 {rs:List Str}{n:Nat}(h:∀t∈rs,Row bd.cps.toList n t):Wu (rs.map UN)=true:=by
 induction rs with
 | nil=>rfl
 | cons t r b =>
  show (Vk (.str t)&&Wu (r.map UN))=true;rw[zmT (h t XS),b fun u a=>h u (XT _ a)];rfl
theorem zcF (rs:List Str):WI (rs.map UN)=0:=by
 induction rs with
 | nil=>rfl
 | cons t r a =>
  show max (PyData.depth (.str t)) (WI (r.map UN))=0;rw[a];rfl
theorem Rows.cmp {rs:List Str}(R:Rows bd.cps.toList rs):zb9 (.list (rs.map UN)) (.list (rs.map UN)):=by
 obtain⟨n,_,_,h⟩:=R.ex;refine⟨zf6 h,zf6 h,?_⟩;show WI (rs.map UN)+1<=64;rw[zcF];decide
def bData (rs:List Str)(n:Int):Wi:=.tuple [.list (rs.map UN),.int n]
theorem Rows.cmpB {rs:List Str}(R:Rows bd.cps.toList rs)(n:Int):zb9 (bData rs n) (bData rs n):=by
 have c:=R.cmp;have h1:Vk (bData rs n)=true:=by
  show (Vk (.list (rs.map UN))&&(Vk (.int n)&&true))=true;rw[c.l1];rfl
 refine⟨h1,h1,?_⟩;show max (WI (rs.map UN)+1) (max 0 0)+1<=64;rw[zcF];decide
theorem zY.rdv {K:X5}{H:Hp}{p l:Addr}{rs:List Str}{n:Int}(b:zY H p l rs n):Rdv K H (.ref p) (bData rs n):=.tup (SqT.of b.tp) (.cons (.lst (SqL.of b.rw) (zfy rs)) (.cons (.int n) .nil))
theorem zY.mono {H a:Hp}{p l:Addr}{rs:List Str}{n:Int}(b:zY H p l rs n)(s:zu H a):zY a p l rs n:=⟨s _ _ b.tp,s _ _ b.rw⟩
def codes (rs:List Str):List (List Nat):=rs.map fun t=>t.cps.toList
theorem jR {rs:List Str}{i:Nat}{t:Str}(h:rs[i]?=some t):(codes rs)[i]?=some t.cps.toList:=by
 unfold codes;rw[Xl,h];rfl
theorem zbb {rs:List Str}{i:Nat}{u:List Nat}(h:(codes rs)[i]?=some u):∃t,rs[i]?=some t/\u=t.cps.toList:=by
 unfold codes at h;rw[Xl] at h;cases e:rs[i]? with
 | none =>
  rw[e] at h;cases h
 | some t =>
  rw[e] at h;cases h;exact⟨t,rfl,rfl⟩
theorem jA (rs:List Str):(codes rs).length=rs.length:=by
 unfold codes;rw[Y1]
theorem Rows.short {s:List Nat}{rs:List Str}(R:Rows s rs):∀u∈codes rs,u.length<=8:=fun u b=>by
 obtain⟨t,a,rfl⟩:=Xv.mp b;obtain⟨n,_,c,q⟩:=R.ex;have:=(q t a).len;rw[X2];lia
theorem Rows.tlen {s:List Nat}{rs:List Str}{i:Nat}{t:Str}(R:Rows s rs)(h:rs[i]?=some t):t.length<=Xw:=by
 obtain⟨n,_,a,q⟩:=R.ex;have e:t.length=n:=(q t (X4 h)).len;rw[e];exact X6 a (by decide)
def Jf (H:Hp)(v:V)(c:Nat×Nat):Prop:=∃a,v=V.ref a/\H a=some (.tup [.int (c.1:Nat),.int (c.2:Nat)])
def Cel (H:Hp):List V->List (Nat×Nat)->Prop:=WU (Jf H)
theorem Cel.mono {H b:Hp}(s:zu H b){vs:List V}{cs:List (Nat×Nat)}(c:Cel H vs cs):Cel b vs cs:=by
 induction c with
 | nil=>exact .nil
 | cons q _ d =>
  obtain⟨a,e,h⟩:=q;exact .cons ⟨a,e,s _ _ h⟩ d
theorem Cel.snoc {H:Hp}{vs:List V}{cs:List (Nat×Nat)}{v:V}{c:Nat×Nat}(h:Cel H vs cs)(x:Jf H v c):Cel H (vs++[v]) (cs++[c]):=Paired.snoc h x
theorem Cel.append {H:Hp}{vs b:List V}{cs a:List (Nat×Nat)}(h:Cel H vs cs)(k:Cel H b a):Cel H (vs++b) (cs++a):=zaY h k
theorem Cel.into {H:Hp}(z:Addr)(o:HO){b:List V}(d:H z=some (.lst b)){vs:List V}{cs:List (Nat×Nat)}(c:Cel H vs cs):Cel (upd H z o) vs cs:=by
 induction c with
 | nil=>exact .nil
 | cons q _ f =>
  obtain⟨a,e,h⟩:=q;exact .cons ⟨a,e,by rw[zj (zb4 h d (by intro y;cases y))];exact h⟩ f
theorem Cel.length {H:Hp}{vs:List V}{cs:List (Nat×Nat)}(h:Cel H vs cs):vs.length=cs.length:=Paired.length h
theorem Cel.get {H:Hp}:∀{vs:List V} {cs:List (Nat×Nat)} {i:Nat} {v:V},Cel H vs cs->vs[i]?=some v->∃c,cs[i]?=some c/\Jf H v c
 | _,_,_,_,.nil,e=>by simp at e
 | _,_,0,_,.cons r _,e=>by
  simp at e;subst e;exact⟨_,rfl,r⟩
 | _,_,i+1,v,.cons _ t,e=>by
  obtain⟨c,h1,h2⟩:=Cel.get (i:=i) (v:=v) t (by simpa using e);exact⟨c,by simpa using h1,h2⟩
def zp (c:Nat×Nat):Wi:=.tuple [.int (c.1:Nat),.int (c.2:Nat)]
theorem Jf.rdv {K:X5}{H:Hp}{v:V}{c:Nat×Nat}(h:Jf H v c):Rdv K H v (zp c):=by
 obtain⟨a,rfl,h⟩:=h;exact .tup (SqT.of h) (.cons (.int _) (.cons (.int _) .nil))
theorem zjG (c d:Nat×Nat):zb9 (zp c) (zp d):=⟨rfl,rfl,by show max 0 (max 0 0)+1<=64;decide⟩
theorem zd5 (c d:Nat×Nat):W1 (zp c) (zp d)=decide (c=d):=by
 obtain⟨a,b⟩:=c;obtain⟨x,y⟩:=d;show ((((a:Nat):Int)==((x:Nat):Int))&&((((b:Nat):Int)==((y:Nat):Int))&&true))=decide ((a,b)=(x,y));by_cases h1:a=x
 ·by_cases h2:b=y
  ·subst h1 h2;simp
  ·have:¬ ((b:Int)=(y:Int)):=by lia
   simp[h2,this]
 ·have:¬ ((a:Int)=(x:Int)):=by lia
  simp[h1,this]
theorem QV (c k:Nat):(V.str ⟨#[c]⟩=V.str ⟨#[k]⟩)=(c=k):=by
 apply propext;constructor
 ·intro h;have h2:(⟨#[c]⟩:Str)=⟨#[k]⟩:=V.str.inj h;have a:(#[c]:Array Nat)=#[k]:=congrArg Str.cps h2;simpa using a
 ·rintro rfl;rfl
theorem zaq:("#":Str)=⟨#[35]⟩:=by decide +kernel
theorem Ye:("?":Str)=⟨#[63]⟩:=by decide +kernel
def qv (c:Nat):Bool:=!decide (c=35)
def qG (c:Nat):Bool:=decide (c=63)
def Yx (c:Nat):Bool:=qv c && !decide (c=63)
def zoP:Sp:=fun b H Q _=>∃(p l c:Addr) (a:List Str) (n:Int) (i j:Nat) (t:Str) (k:Nat),b=[.ref p,.ref c]/\zY H p l a n/\H c=some (.tup [.int (i:Nat),.int (j:Nat)])/\a[i]?=some t/\t.cps.toList[j]?=some k/\t.length<=Xw/\Q (.str ⟨#[k]⟩) H
def zho (p:Nat->Bool):Sp:=fun f H Q _=>∃(a l:Addr) (c:List Str) (n:Int),f=[.ref a]/\zY H a l c n/\Rows bd.cps.toList c /\
 ∀(d:Addr) (e:List V) (b:Hp),H d=none->b d=some (.lst e)->Cel b e (Cells.zL p 0 (codes c))->zu H b->Q (.ref d) b
def zlf:Sp:=fun b H Q _=>∃(p l c:Addr) (a:List Str) (n:Int) (i j:Nat) (t:Str) (k:Nat),b=[.ref p,.ref c]/\zY H p l a n/\H c=some (.tup [.int (i:Nat),.int (j:Nat)])/\a[i]?=some t/\t.cps.toList[j]?=some k/\t.length<=Xw/\48<=k/\k<=56/\Q (.int ((k:Int)-48)) H
theorem int_sign {k:Nat}(h1:48<=k)(h2:k<=56):O7 ⟨#[k]⟩=some ((k:Int)-48):=by
 have:∀k∈XC 57,48<=k->O7 ⟨#[k]⟩=some ((k:Int)-48):=by decide +kernel
 exact this k (Xf.mpr (by lia)) h1
theorem zhp:zF ["board","cell"] ["board","cell"] (zg qQ):=⟨rfl,rfl,rfl,by decide +kernel,rfl,by decide +kernel,by decide +kernel⟩
theorem Yg (D:zm K mg "sign_at" qQ ["board","cell"] f fd):qt P w K mg base CX0 1 f fd ["board","cell"] zoP:=by
 refine D.F.ok zhp (fun u H Q E h=>?_) (fun e A a s H u Q E x h=>?_)
 ·obtain⟨p,l,c,r,n,i,j,t,k,rfl,_⟩:=h;rfl
 ·obtain⟨p,l,c,r,n,i,j,t,k,rfl,b,d,g,m,o,q⟩:=h;refine⟨_,(zf (zI (qf J7 (qf qV (qf qP (pvS 0) zk (fun _ _=>rfl)) (qf qP (pvS 1) zk (fun _ _=>rfl)) (fun _ _=>rfl)) (qf qP (pvS 1) zk (fun _ _=>rfl)) (fun _ _=>rfl)))),?_⟩;exact⟨_,rfl,p,_,0,_,rfl,rfl,SqT.of b.tp,rfl,_,rfl,c,_,0,_,rfl,rfl,SqT.of d,rfl,l,_,_,_,rfl,rfl,SqL.of b.rw,zai (v:=V.str t) (by rw[Xl,g];rfl),_,rfl,c,_,1,_,rfl,rfl,SqT.of d,rfl,t,_,k,rfl,rfl,o,zai m,q⟩
theorem Za:zF ["board","found","row","text"] ["board"] (zg qF):=⟨rfl,rfl,rfl,by decide +kernel,rfl,by decide +kernel,by decide +kernel⟩
theorem zbw (T:Txt mg)(D:zm K mg "cells_of" qF ["board"] f fd):qt P w K mg base CX0 1 f fd ["board"] (zho qv):=by
 refine D.F.ok Za (fun vs H Q E h=>?_) (fun al A ak s H vs Q E hr h=>?_)
 ·obtain⟨a,l,rs,n,rfl,_⟩:=h;rfl
 ·obtain⟨a,l,rs,n,rfl,b,R,q⟩:=h;refine⟨_,(zd (zv (i:=1) Za.nd rfl (XM rfl) (qc zb))
   (zd (qw W7 rfl (Zq (by rfl) T.yd (za (qf qP (pvS 0) zk (fun _ _=>rfl)) zb)) (JJ rfl (zV (zo (i:=2) Za.nd rfl (Vm rfl)) (zV (zo (i:=3) Za.nd rfl (XM rfl)) yp))) (zf (yk (xw WZ QR QQ zdJ (pvS 1) (za (qh (N:=["column","sign","row"]) (src:=[none,none,some 2]) (zR.free (O:=(zg qF).names) (XN:=["board","found","row","text"]) rfl rfl ⟨_,rfl⟩ rfl rfl (by decide +kernel) (by decide +kernel) (by decide +kernel) rfl (by decide +kernel)) rfl (zkl (by rfl) T.yd (za (pvS 3) zb)) (fun _ _ _ _ _=>(zeI (n:=2) (K:=K) (by rfl) rfl (zV (zo (i:=0) (by show W3 (["column","sign","row"]:List Str);decide +kernel) rfl (XM rfl)) (zV (zo (i:=1) (by show W3 (["column","sign","row"]:List Str);decide +kernel) rfl (XM rfl)) yp)))) (fun _ _ _ _ _=>(qg (zG Qy (pvS 1) (jH (v:=.str "#") (by rfl) T.YR.choose_spec (by exact⟨_,rfl⟩)) (zQ _)))) (fun _ _ _ _ _=>(jy (za (pvS 2) (za (pvS 0) zb))))) zb)))))
   (zf (zI (pvS 1))))),?_⟩
  refine⟨JX,fun d hd=>?_⟩;have s0:zu H (upd H d (.lst [])):=ze hd;refine⟨_,rfl,a,_,0,_,rfl,rfl,SqT.of (b.mono s0).tp,rfl,l,rfl,⟨_,SqL.of (b.mono s0).rw⟩,?_⟩;refine Zr (K:=K) (l:=l) (xs:=rs.map V.str) (fun i U I=>∃(v2 v3:Option V) (B:List V),U=[some (.ref a),some (.ref d),v2,v3]/\zu H I/\I d=some (.lst B)/\Cel I B (Cells.zL qv 0 ((codes rs).take i)))
   ⟨_,_,[],rfl,s0,zc,.nil⟩ (fun i U I _ ⟨_,_,_,_,s1,_⟩=>SqL.of (b.mono s1).rw) ?_ ?_
  ·rintro i x tt U H1 hx ai ⟨v2,v3,B,rfl,s1,Y,r⟩;rw[Xl] at hx;cases e:rs[i]? with
   | none =>
    rw[e] at hx;cases hx
   | some t =>
    rw[e] at hx;cases hx;have am:i<rs.length:=(XZ.mp e).1;have st:zu H1 (upd H1 tt (.tup [.int (i:Nat),.str t])):=ze ai;refine⟨tt,_,rfl,SqT.of zc,rfl,_,_,rfl,_,_,rfl,rfl,?_⟩;have aa:upd H1 tt (.tup [.int (i:Nat),.str t]) d=some (.lst B):=st _ _ Y;refine⟨_,rfl,.inl ⟨rfl,_,SqL.of aa⟩,_,rfl,t,rfl,fun z hz=>?_⟩;refine zg0 (x:=t) (fun j U I=>∃(u0 u1:Option V) (m:List V),U=[u0,u1,some (.int (i:Nat))]/\zu (upd H1 tt (.tup [.int (i:Nat),.str t])) I/\I z=some (.lst m)/\Cel I m (Cells.qb qv i 0 (t.cps.toList.take j)))
     ⟨_,_,[],rfl,ze hz,zc,.nil⟩ ?_ ?_
    ·rintro j c t2 U J hc ah ⟨u0,u1,m,rfl,s2,k,g⟩;refine⟨t2,_,rfl,SqT.of zc,rfl,_,_,rfl,_,_,rfl,rfl,?_⟩;refine⟨_,rfl,rfl,_,rfl,?_⟩;have ag:t.cps.toList[j]?=some c:=by rw[Xq];exact hc
     have L:zu J (upd J t2 (.tup [.int (j:Nat),.str ⟨#[c]⟩])):=ze ah;have step:=Cells.QT (p:=qv) (i:=i) ag;have ed:(!decide (V.str ⟨#[c]⟩=V.str "#"))=qv c:=by
      rw[zaq];simp only[QV];rfl
     rw[ed];by_cases hp:qv c=true
     ·rw[hp] at step;refine jX hp ?_;refine⟨_,rfl,_,rfl,ZA,fun M af=>?_⟩;have aj:z≠M:=zh (L _ _ k) af;have s4:zu (upd J t2 (.tup [.int (j:Nat),.str ⟨#[c]⟩])) (upd (upd J t2 (.tup [.int (j:Nat),.str ⟨#[c]⟩])) M (.tup [.int (i:Nat),.int (j:Nat)])):=ze af;have ac:m.length<=8:=by
       rw[g.length];refine X6 (Cells.yq _ _ _ _) ?_;have:=R.short _ (X4 (jR e));rw[XE];lia
      refine⟨m,s4 _ _ (L _ _ k),XI ac (by decide),some (.int (j:Nat)),some (.str ⟨#[c]⟩),m++[.ref M],rfl,fun b' o G=>?_,zc,?_⟩
      ·have hb:b'≠z:=fun y=>by
        subst y;rw[hz] at G;cases G
       rw[zj hb];exact s4 _ _ (L _ _ (s2 _ _ G))
      ·rw[step];have keep:∀x o,x≠z->upd (upd J t2 (.tup [.int (j:Nat),.str ⟨#[c]⟩])) M (.tup [.int (i:Nat),.int (j:Nat)]) x=some o->upd (upd (upd J t2 (.tup [.int (j:Nat),.str ⟨#[c]⟩])) M (.tup [.int (i:Nat),.int (j:Nat)])) z (.lst (m++[.ref M])) x=some o:=fun x o hx G=>by
        rw[zj hx];exact G
       refine Cel.snoc ?_ ⟨M,rfl,keep _ _ aj.symm zc⟩;exact Cel.into z (.lst (m++[.ref M])) (s4 _ _ (L _ _ k)) (Cel.mono s4 (Cel.mono L g))
     ·have ae:qv c=false:=by simpa using hp
      rw[ae] at step;refine jE ae ?_;refine⟨some (.int (j:Nat)),some (.str ⟨#[c]⟩),m,rfl,s2.trans L,L _ _ k,?_⟩;rw[step];simpa using Cel.mono L g
    ·rintro U J ⟨u0,u1,m,rfl,s2,k,g⟩;have an:d≠z:=zh aa hz;have ab:J d=some (.lst B):=s2 _ _ aa;have full:t.cps.toList.take t.cps.size=t.cps.toList:=by
      rw[<- X2,Xz]
     rw[full] at g;have step:=Cells.QU (p:=qv) (jR e);have l1:B.length<=64:=by
      rw[r.length];refine X6 (Cells.jI _ _ _ fun u hu=>R.short u (Wc hu)) ?_;have:=R.hi;rw[XE,jA];lia
     have l2:m.length<=8:=by
      rw[g.length];exact X6 (Cells.yq _ _ _ _) (R.short _ (X4 (jR e)))
     refine⟨d,z,B,m,rfl,rfl,ab,k,X6 (SL l1 l2) (by decide),?_⟩;refine⟨_,_,B++m,rfl,fun b' o G=>?_,zc,?_⟩
     ·have hb:b'≠d:=fun y=>by
       subst y;rw[hd] at G;cases G
      rw[zj hb];exact s2 _ _ (st _ _ (s1 _ _ G))
     ·rw[step];exact Cel.into d _ ab (Cel.append (Cel.mono s2 (Cel.mono st r)) g)
  ·rintro U H1 ⟨v2,v3,B,rfl,s1,Y,r⟩;rw[Y1,<- jA,Xz] at r;exact⟨_,rfl,q d B H1 hd Y r s1⟩
theorem zmU (c:Nat):(qv c&&decide (c=63))=qG c:=by
 unfold qv qG;by_cases h:c=63
 ·subst h;rfl
 ·simp[h]
theorem zjH:zF ["board"] ["board"] (zg ZE):=⟨rfl,rfl,rfl,by decide +kernel,rfl,by decide +kernel,by decide +kernel⟩
theorem ZG {f1 f2:Addr}{aa ab:Xo}(T:Txt mg)(D:zm K mg "closed" ZE ["board"] f fd)(zB:zm K mg "cells_of" qF ["board"] f1 aa)(zw:zm K mg "sign_at" qQ ["board","cell"] f2 ab) :
  qt P w K mg base CX0 2 f fd ["board"] (zho qG):=by
 refine D.F.ok zjH (fun vs H Q E h=>?_) (fun af A ae s H vs Q E hr h=>?_)
 ·obtain⟨a,l,g,n,rfl,_⟩:=h;rfl
 ·obtain⟨a,l,g,n,rfl,b,R,q⟩:=h;refine⟨_,(zf (zI (qh (N:=["cell","board"]) (src:=[none,some 0]) (zR.free (O:=(zg ZE).names) (XN:=["board"]) rfl rfl ⟨_,rfl⟩ rfl rfl (by decide +kernel) (by decide +kernel) (by decide +kernel) rfl (by decide +kernel)) rfl (zM (pc0 (zbw T zB) hr zB (za (pvS 0) zb))) (fun _ _ _ _ _=>(zo (i:=0) (by show W3 (["cell","board"]:List Str);decide +kernel) rfl (XM rfl))) (fun _ _ _ _ _=>(qg (zG JK (pc0 (Yg zw) hr zw (za (pvS 1) (za (pvS 0) zb))) (jH (v:=.str "?") (by rfl) T.Zi.choose_spec (by exact⟨_,rfl⟩)) (zQ _)))) (fun _ _ _ _ _=>(pvS 0))))),?_⟩;refine⟨_,rfl,a,l,g,n,rfl,b,R,fun d ws H1 hd G I s1=>⟨d,rfl,⟨_,SqL.of G⟩,fun z hz=>?_⟩⟩;have nz:d≠z:=zh G hz;refine qj (K:=K) (a:=d) (xs:=ws) (fun i σ Y=>∃(u0:Option V) (r:List V),σ=[u0,some (.ref a)]/\zu H1 Y/\Y z=some (.lst r)/\Cel Y r (((Cells.zL qv 0 (codes g)).take i).filter fun x=>decide (Cells.sgn (codes g) x=63)))
   ⟨_,[],rfl,ze hz,zc,.nil⟩ (fun i σ Y _ ⟨_,_,_,B,_⟩=>SqL.of (B _ _ G)) ?_ ?_
  ·rintro i x σ H2 hx ⟨u0,r,rfl,B,m,e⟩;obtain⟨c,L,ca,rfl,J⟩:=Cel.get (Cel.mono B I) hx;obtain⟨k0,j,u,k,ec,M,hj,ag⟩:=Cells.JG (X4 L);obtain⟨t,ht,rfl⟩:=zbb M;rw[V6] at ec;subst ec;refine⟨_,rfl,_,rfl,a,l,ca,g,n,k0,j,t,k,rfl,(b.mono s1).mono B,J,ht,hj,R.tlen ht,rfl,_,rfl,?_⟩;have es:Cells.sgn (codes g) (k0,j)=k:=Cells.ze1 M hj;have step:((Cells.zL qv 0 (codes g)).take (i+1)).filter (fun x=>decide (Cells.sgn (codes g) x=63))=((Cells.zL qv 0 (codes g)).take i).filter (fun x=>decide (Cells.sgn (codes g) x=63))++(if decide (k=63)=true then [(k0,j)] else []):=by
    rw[Xx,L,Xb];congr 1;show Ux _ [(k0,j)]=_;rw[WV];try dsimp only
    rw[es];split<;>rfl
   have ed:decide (V.str ⟨#[k]⟩=V.str "?")=decide (k=63):=by
    rw[Ye];simp only[QV]
   rw[ed];by_cases hp:decide (k=63)=true
   ·rw[if_pos hp] at step;refine jX hp ?_;have U:r.length<=64:=by
     rw[e.length];refine X6 (Xm _ _) ?_;rw[XE];have h1:=Cells.jI qv 0 (codes g) R.short;have h2:=R.hi;rw[jA] at h1;lia
    refine⟨_,rfl,r,m,XI U (by decide),_,r++[.ref ca],rfl,fun b' o e'=>?_,zc,?_⟩
    ·have hb:b'≠z:=fun y=>by
      subst y;rw[hz] at e';cases e'
     rw[zj hb];exact B _ _ e'
    ·rw[step];exact Cel.into z _ m (Cel.snoc e ⟨ca,rfl,J⟩)
   ·rw[if_neg hp] at step;refine jE (by simpa using hp) ?_;refine⟨_,r,rfl,B,m,?_⟩;rw[step];simpa using e
  ·rintro σ H2 ⟨u0,r,rfl,B,m,e⟩;rw[I.length,Xz,Cells.all_filter (p:=qv) (q:=fun k=>decide (k=63)) (codes g)] at e;have ac:H z=none:=s1.free hz;exact q z r H2 ac m (by rw[Cells.zfU (q:=qG) zmU] at e;exact e) (s1.trans B)
theorem zdu:zF ["board"] ["board"] (zg qy):=⟨rfl,rfl,rfl,by decide +kernel,rfl,by decide +kernel,by decide +kernel⟩
theorem xZ {f1 f2:Addr}{aa ab:Xo}(T:Txt mg)(D:zm K mg "open_cells" qy ["board"] f fd)(zB:zm K mg "cells_of" qF ["board"] f1 aa)(zw:zm K mg "sign_at" qQ ["board","cell"] f2 ab) :
  qt P w K mg base CX0 2 f fd ["board"] (zho Yx):=by
 refine D.F.ok zdu (fun vs H Q E h=>?_) (fun af A ae s H vs Q E hr h=>?_)
 ·obtain⟨a,l,g,n,rfl,_⟩:=h;rfl
 ·obtain⟨a,l,g,n,rfl,b,R,q⟩:=h;refine⟨_,(zf (zI (qh (N:=["cell","board"]) (src:=[none,some 0]) (zR.free (O:=(zg qy).names) (XN:=["board"]) rfl rfl ⟨_,rfl⟩ rfl rfl (by decide +kernel) (by decide +kernel) (by decide +kernel) rfl (by decide +kernel)) rfl (zM (pc0 (zbw T zB) hr zB (za (pvS 0) zb))) (fun _ _ _ _ _=>(zo (i:=0) (by show W3 (["cell","board"]:List Str);decide +kernel) rfl (XM rfl))) (fun _ _ _ _ _=>(qg (zG Qy (pc0 (Yg zw) hr zw (za (pvS 1) (za (pvS 0) zb))) (jH (v:=.str "?") (by rfl) T.Zi.choose_spec (by exact⟨_,rfl⟩)) (zQ _)))) (fun _ _ _ _ _=>(pvS 0))))),?_⟩;refine⟨_,rfl,a,l,g,n,rfl,b,R,fun d ws H1 hd G I s1=>⟨d,rfl,⟨_,SqL.of G⟩,fun z hz=>?_⟩⟩;have nz:d≠z:=zh G hz;refine qj (K:=K) (a:=d) (xs:=ws) (fun i σ Y=>∃(u0:Option V) (r:List V),σ=[u0,some (.ref a)]/\zu H1 Y/\Y z=some (.lst r)/\Cel Y r (((Cells.zL qv 0 (codes g)).take i).filter fun x=>!decide (Cells.sgn (codes g) x=63)))
   ⟨_,[],rfl,ze hz,zc,.nil⟩ (fun i σ Y _ ⟨_,_,_,B,_⟩=>SqL.of (B _ _ G)) ?_ ?_
  ·rintro i x σ H2 hx ⟨u0,r,rfl,B,m,e⟩;obtain⟨c,L,ca,rfl,J⟩:=Cel.get (Cel.mono B I) hx;obtain⟨k0,j,u,k,ec,M,hj,ag⟩:=Cells.JG (X4 L);obtain⟨t,ht,rfl⟩:=zbb M;rw[V6] at ec;subst ec;refine⟨_,rfl,_,rfl,a,l,ca,g,n,k0,j,t,k,rfl,(b.mono s1).mono B,J,ht,hj,R.tlen ht,rfl,_,rfl,?_⟩;have es:Cells.sgn (codes g) (k0,j)=k:=Cells.ze1 M hj;have step:((Cells.zL qv 0 (codes g)).take (i+1)).filter (fun x=>!decide (Cells.sgn (codes g) x=63))=((Cells.zL qv 0 (codes g)).take i).filter (fun x=>!decide (Cells.sgn (codes g) x=63))++(if (!decide (k=63))=true then [(k0,j)] else []):=by
    rw[Xx,L,Xb];congr 1;show Ux _ [(k0,j)]=_;rw[WV];try dsimp only
    rw[es];split<;>rfl
   have ed:(!decide (V.str ⟨#[k]⟩=V.str "?"))=(!decide (k=63)):=by
    rw[Ye];simp only[QV]
   rw[ed];by_cases hp:(!decide (k=63))=true
   ·rw[if_pos hp] at step;refine jX hp ?_;have U:r.length<=64:=by
     rw[e.length];refine X6 (Xm _ _) ?_;rw[XE];have h1:=Cells.jI qv 0 (codes g) R.short;have h2:=R.hi;rw[jA] at h1;lia
    refine⟨_,rfl,r,m,XI U (by decide),_,r++[.ref ca],rfl,fun b' o e'=>?_,zc,?_⟩
    ·have hb:b'≠z:=fun y=>by
      subst y;rw[hz] at e';cases e'
     rw[zj hb];exact B _ _ e'
    ·rw[step];exact Cel.into z _ m (Cel.snoc e ⟨ca,rfl,J⟩)
   ·rw[if_neg hp] at step;refine jE (by simpa using hp) ?_;refine⟨_,r,rfl,B,m,?_⟩;rw[step];simpa using e
  ·rintro σ H2 ⟨u0,r,rfl,B,m,e⟩;rw[I.length,Xz,Cells.all_filter (p:=qv) (q:=fun k=>(!decide (k=63))) (codes g)] at e;have ac:H z=none:=s1.free hz;exact q z r H2 ac m e (s1.trans B)
theorem ze5:zF ["board","cell"] ["board","cell"] (zg yb):=⟨rfl,rfl,rfl,by decide +kernel,rfl,by decide +kernel,by decide +kernel⟩
theorem zaF {o:Addr}{a:Xo}(T:Txt mg)(D:zm K mg "number_at" yb ["board","cell"] f fd)(g:zm K mg "sign_at" qQ ["board","cell"] o a):qt P w K mg base CX0 2 f fd ["board","cell"] zlf:=by
 refine D.F.ok ze5 (fun G H Q E h=>?_) (fun m A d s H G Q E y h=>?_)
 ·obtain⟨p,l,c,e,n,i,j,t,k,rfl,_⟩:=h;rfl
 ·obtain⟨p,l,c,e,n,i,j,t,k,rfl,b,r,u,v,x,z,B,q⟩:=h;refine⟨_,(zf (zI (jm Z4 (by rfl) T.ziC T8 (za (pc0 (Yg g) y g (za (pvS 0) (za (pvS 1) zb))) zb)))),?_⟩;exact⟨_,rfl,_,rfl,p,l,c,e,n,i,j,t,k,rfl,b,r,u,v,x,⟨#[k]⟩,_,rfl,int_sign z B,(by show 1<=640;decide),q⟩
theorem zlg {k:Nat}(h1:48<=k)(h2:k<=56):V.str (toString ((k:Int)-48))=V.str ⟨#[k]⟩:=by
 have:∀k∈XC 57,48<=k->((toString ((k:Int)-48):String):Str)=⟨#[k]⟩:=by decide +kernel
 exact congrArg V.str (this k (Xf.mpr (by lia)) h1)
theorem zbc {k:Nat}(h:k∈bd.cps.toList)(a:Yx k=true):48<=k/\k<=56:=by
 have:∀k∈bd.cps.toList,Yx k=true->48<=k/\k<=56:=by decide +kernel
 exact this k h a
def zJ (rs:List Str)(y:Nat×Nat):List (Nat×Nat):=(Cells.zL qv 0 (codes rs)).filter fun x=>Cells.near x y
def zlh:Sp:=fun f H Q _=>∃(p l c:Addr) (b:List Str) (n:Int) (i j:Nat),f=[.ref p,.ref c]/\zY H p l b n/\Rows bd.cps.toList b/\H c=some (.tup [.int (i:Nat),.int (j:Nat)])/\i<64/\j<64 /\
 ∀(d:Addr) (e:List V) (a:Hp),H d=none->a d=some (.lst e)->Cel a e (zJ b (i,j))->zu H a->Q (.ref d) a
theorem zf7 (i:Nat):(if (0:Int)>(i:Int)-1 then (0:Int) else (i:Int)-1)=((i-1:Nat):Int):=by
 split<;>lia
theorem zf8 (i m:Nat):(if ((m:Nat):Int)<(i:Int)+2 then ((m:Nat):Int) else (i:Int)+2)=((min (i+2) m:Nat):Int):=by
 split<;>lia
theorem zf9 {f:Nat×Nat->Bool}{l:List (Nat×Nat)}{x:Nat×Nat}(a:Bool):(l++(if a=true then [x] else [])).filter f=l.filter f++(if (a&&f x)=true then [x] else []):=by
 rw[Xb];congr 1;by_cases h:a=true
 ·by_cases h2:f x=true
  ·simp[h,h2]
  ·simp[h,h2]
 ·simp[h]
theorem ZH:zF ["board","cell","rows","found","row","column"] ["board","cell"] (zg j9):=⟨rfl,rfl,rfl,by decide +kernel,rfl,by decide +kernel,by decide +kernel⟩
theorem Ql (T:Txt mg)(D:zm K mg "around" j9 ["board","cell"] f fd):qt P w K mg base CX0 1 f fd ["board","cell"] zlh:=by
 refine D.F.ok ZH (fun vs H Q E h=>?_) (fun au A ap s H vs Q E hr h=>?_)
 ·obtain⟨p,l,M,e,n,i,j,rfl,_⟩:=h;rfl
 ·obtain⟨p,l,M,e,n,i,j,rfl,b,R,B,aq,ar,q⟩:=h;refine⟨_,(zd (zv (i:=2) ZH.nd rfl (XM rfl) (qf qP (pvS 0) zk (fun _ _=>rfl)))
   (zd (zv (i:=3) ZH.nd rfl (XM rfl) (qc zb))
   (zd (qw W7 rfl (Y7 (by rfl) T.ji (za (zq (Zm rfl) (by rfl) T.zf4 U1 (za (zx xV (qf qP (pvS 1) zk (fun _ _=>rfl)) zk) (za zk zb))) (za (zq (Zn rfl) (by rfl) T.zf5 U0 (za (zx qa (qf qP (pvS 1) zk (fun _ _=>rfl)) zk) (za (zq zH (by rfl) T.jz WX (za (pvS 2) zb)) zb))) zb))) (zo (i:=4) ZH.nd rfl (XM rfl)) (zf (qw W7 rfl (Y7 (by rfl) T.ji (za (zq (Zm rfl) (by rfl) T.zf4 U1 (za (zx xV (qf qP (pvS 1) zk (fun _ _=>rfl)) zk) (za zk zb))) (za (zq (Zn rfl) (by rfl) T.zf5 U0 (za (zx qa (qf qP (pvS 1) zk (fun _ _=>rfl)) zk) (za (zq xg (by rfl) T.jz WX (za (qf qV (pvS 2) (pvS 4) (fun _ _=>rfl)) zb)) zb))) zb))) (zo (i:=5) ZH.nd rfl (XM rfl)) (zf (jc (PW.pt (zeA (zG Qy (qf J7 (qf qV (pvS 2) (pvS 4) (fun _ _=>rfl)) (pvS 5) (fun _ _=>rfl)) (jH (v:=.str "#") (by rfl) T.YR.choose_spec (by exact⟨_,rfl⟩)) (zQ _)) (zbO (zG (xB hr.units) (jy (za (pvS 4) (za (pvS 5) zb))) (pvS 1) (zQ _))))) (zf (yk (xw WZ Wq Wp jw (pvS 3) (za (jy (za (pvS 4) (za (pvS 5) zb))) zb)))) zZ)))))
   (zf (zI (pvS 3)))))),?_⟩
  refine⟨_,rfl,p,_,0,_,rfl,rfl,SqT.of b.tp,rfl,?_⟩;refine⟨JX,fun d hd=>?_⟩;have s0:zu H (upd H d (.lst [])):=ze hd;have r8:=R.hi;refine⟨_,rfl,M,_,0,_,rfl,rfl,SqT.of (s0 _ _ B),rfl,_,_,rfl,rfl,_,_,rfl,_,rfl,M,_,0,_,rfl,rfl,SqT.of (s0 _ _ B),rfl,_,_,rfl,rfl,_,rfl,l,_,rfl,.inl (SqL.of (b.mono s0).rw),_,_,rfl,((i-1:Nat):Int),((min (i+2) e.length:Nat):Int),?_,⟨by lia,by lia,by lia,by lia⟩,?_⟩
  ·show [V.int (if (0:Int)>(i:Int)-1 then (0:Int) else (i:Int)-1),V.int (if (((e.map V.str).length:Nat):Int)<(i:Int)+2 then (((e.map V.str).length:Nat):Int) else (i:Int)+2)]=_;rw[Y1,zf7,zf8]
  refine qD (lo:=((i-1:Nat):Int)) (fun k σ O=>∃(v4 v5:Option V) (L:List V),σ=[some (.ref p),some (.ref M),some (.ref l),some (.ref d),v4,v5]/\zu H O/\O d=some (.lst L)/\Cel O L ((Cells.zL qv 0 ((codes e).take (i-1+k))).filter fun x=>Cells.near x (i,j)))
   ⟨_,_,[],rfl,s0,zc,?_⟩ ?_ ?_
  ·rw[Cells.zk1]
   ·exact .nil
   ·intro r c al;rw[XB,ne_eq,Cells.YL];rintro⟨⟨_,h2⟩,_⟩;dsimp only at h2;lia
  ·rintro k σ H1 hk ⟨v4,v5,L,rfl,s1,Y,J⟩;have am:i-1+k<e.length:=by lia
   have U:((i-1:Nat):Int)+(k:Nat)=((i-1+k:Nat):Int):=by lia
   rw[U];generalize ax:i-1+k=r at *
   obtain⟨t,ht⟩:∃t,e[r]?=some t:=⟨_,X7 am⟩;have ai:t.length<=Xw:=R.tlen ht;have az:t.cps.toList.length<=8:=R.short _ (X4 (jR ht));have ab:atI (e.map V.str) ((r:Nat):Int)=some (V.str t):=zai (by rw[Xl,ht];rfl);refine⟨_,rfl,M,_,1,_,rfl,rfl,SqT.of (s1 _ _ B),rfl,_,_,rfl,rfl,_,_,rfl,_,rfl,M,_,1,_,rfl,rfl,SqT.of (s1 _ _ B),rfl,_,_,rfl,rfl,_,rfl,_,rfl,l,_,_,_,rfl,rfl,SqL.of (b.mono s1).rw,ab,t,rfl,ai,_,_,rfl,((j-1:Nat):Int),((min (j+2) t.cps.size:Nat):Int),?_,⟨by lia,by lia,by lia,?_⟩,?_⟩
   ·show [V.int (if (0:Int)>(j:Int)-1 then (0:Int) else (j:Int)-1),V.int (if ((t.cps.size:Nat):Int)<(j:Int)+2 then ((t.cps.size:Nat):Int) else (j:Int)+2)]=_;rw[zf7,zf8]
   ·lia
   have ay:t.cps.toList.length=t.cps.size:=X2;refine qD (lo:=((j-1:Nat):Int)) (fun m σ O=>∃(v5:Option V) (L:List V),σ=[some (.ref p),some (.ref M),some (.ref l),some (.ref d),some (.int (r:Nat)),v5]/\zu H O/\O d=some (.lst L)/\Cel O L ((Cells.zL qv 0 ((codes e).take r)).filter (fun x=>Cells.near x (i,j))++(Cells.qb qv r 0 (t.cps.toList.take (j-1+m))).filter fun x=>Cells.near x (i,j)))
    ⟨_,L,rfl,s1,Y,?_⟩ ?_ ?_
   ·rw[Cells.zk2 (t:=t.cps.toList),Xc]
    ·exact J
    ·intro c aj;rw[XB,ne_eq,Cells.YL];rintro⟨_,⟨_,h2⟩,_⟩;dsimp only at h2;lia
   ·rintro m σ H2 hm ⟨v5,y,rfl,s2,G,g⟩;have aw:j-1+m<t.cps.size:=by lia
    have I:((j-1:Nat):Int)+(m:Nat)=((j-1+m:Nat):Int):=by lia
    rw[I];generalize av:j-1+m=c at *
    have z:j-1+(m+1)=c+1:=by lia
    obtain⟨N,af⟩:∃N,t.cps.toList[c]?=some N:=⟨_,X7 (by lia)⟩;have step:=Cells.QT (p:=qv) (i:=r) af;have a:(Cells.qb qv r 0 (t.cps.toList.take (c+1))).filter (fun x=>Cells.near x (i,j))=(Cells.qb qv r 0 (t.cps.toList.take c)).filter (fun x=>Cells.near x (i,j))++(if (qv N&&Cells.near (r,c) (i,j))=true then [(r,c)] else []):=by
     rw[step,zf9]
    have nr:Cells.near (r,c) (i,j)=!decide ((r,c)=(i,j)):=by
     rw[Wz,Cells.YL];simp only[WE,decide_eq_false_iff_not];constructor
     ·exact fun h=>h.2.2
     ·intro h;refine⟨⟨?_,?_⟩,⟨?_,?_⟩,h⟩<;>(try dsimp only)<;>lia
    refine⟨_,rfl,_,rfl,l,_,_,_,rfl,rfl,SqL.of (b.mono s2).rw,ab,_,rfl,t,_,N,rfl,rfl,ai,zai af,rfl,_,rfl,?_⟩;have ed:(!decide (V.str ⟨#[N]⟩=V.str "#"))=qv N:=by
     rw[zaq];simp only[QV];rfl
    rw[ed];by_cases hp:qv N=true
    ·refine jX hp ?_;refine⟨_,rfl,_,rfl,ZA,fun tp an=>?_⟩;have s3:zu H2 (upd H2 tp (.tup [.int (r:Nat),.int (c:Nat)])):=ze an;have ae:=s3 _ _ (s2 _ _ B);refine⟨_,rfl,_,_,Jf.rdv (c:=(r,c)) ⟨tp,rfl,zc⟩,Jf.rdv (c:=(i,j)) ⟨M,rfl,ae⟩,zjG _ _,_,rfl,?_⟩;have ee:(if true=true then !PyData.eqv (zp (r,c)) (zp (i,j)) else W1 (zp (r,c)) (zp (i,j)))=Cells.near (r,c) (i,j):=by
      rw[zd5,nr];rfl
     rw[ee];rw[hp,Tt] at a;by_cases hn:Cells.near (r,c) (i,j)=true
     ·refine jX hn ?_;rw[if_pos hn] at a;have aa:=s3 _ _ G;refine⟨_,rfl,.inl ⟨rfl,_,SqL.of aa⟩,_,rfl,_,rfl,ZA,fun tq ao=>?_⟩;have s4:zu (upd H2 tp (.tup [.int (r:Nat),.int (c:Nat)])) (upd (upd H2 tp (.tup [.int (r:Nat),.int (c:Nat)])) tq (.tup [.int (r:Nat),.int (c:Nat)])):=ze ao;have ag:y.length<=128:=by
       rw[g.length,XW];have h1:=Xm (fun x=>Cells.near x (i,j)) (Cells.zL qv 0 ((codes e).take r));have h2:=Xm (fun x=>Cells.near x (i,j)) (Cells.qb qv r 0 (t.cps.toList.take c));have h3:=Cells.jI qv 0 ((codes e).take r) fun u hu=>R.short u (Wc hu);have h4:=Cells.yq qv r 0 (t.cps.toList.take c);rw[XE,jA] at h3;rw[XE] at h4;lia
      refine⟨d,_,_,rfl,rfl,s4 _ _ aa,XI ag (by decide),?_⟩;refine⟨_,y++[.ref tq],rfl,fun b' o e'=>?_,zc,?_⟩
      ·rw[zj (zh e' hd)];exact s4 _ _ (s3 _ _ (s2 _ _ e'))
      ·rw[z,a,<- WY];exact Cel.into d _ (s4 _ _ aa) (Cel.snoc (Cel.mono s4 (Cel.mono s3 g)) ⟨tq,rfl,zc⟩)
     ·have ak:Cells.near (r,c) (i,j)=false:=by simpa using hn
      refine jE ak ?_;rw[if_neg hn,Xc] at a;refine⟨_,y,rfl,s2.trans s3,s3 _ _ G,?_⟩;rw[z,a];exact Cel.mono s3 g
    ·have ah:qv N=false:=by simpa using hp
     refine jE ah ?_;refine Zp ?_;rw[ah,UC,if_neg XY,Xc] at a;refine⟨_,y,rfl,s2,G,?_⟩;rw[z,a];exact g
   ·rintro σ H2 ⟨v5,y,rfl,s2,G,g⟩;refine⟨_,_,y,rfl,s2,G,?_⟩;have full:(Cells.qb qv r 0 (t.cps.toList.take (j-1+(((min (j+2) t.cps.size:Nat):Int)-((j-1:Nat):Int)).toNat))).filter (fun x=>Cells.near x (i,j))=(Cells.qb qv r 0 t.cps.toList).filter fun x=>Cells.near x (i,j):=by
     by_cases ac:t.cps.size<=j-1+(((min (j+2) t.cps.size:Nat):Int)-((j-1:Nat):Int)).toNat
     ·rw[Wt (by lia)]
     ·refine Cells.zjC fun c aj=>?_;rw[XB,ne_eq,Cells.YL];rintro⟨_,⟨h2,_⟩,_⟩;dsimp only at h2;lia
    rw[full] at g;have e1:i-1+(k+1)=r+1:=by lia
    rw[e1,Cells.QU (jR ht),Xb];exact g
  ·rintro σ H1 ⟨v4,v5,L,rfl,s1,Y,J⟩;have full:(Cells.zL qv 0 ((codes e).take (i-1+(((min (i+2) e.length:Nat):Int)-((i-1:Nat):Int)).toNat))).filter (fun x=>Cells.near x (i,j))=zJ e (i,j):=by
    by_cases ac:e.length<=i-1+(((min (i+2) e.length:Nat):Int)-((i-1:Nat):Int)).toNat
    ·rw[Wt (by rw[jA];lia)];rfl
    ·refine Cells.zjB fun r c al=>?_;rw[XB,ne_eq,Cells.YL];rintro⟨⟨h2,_⟩,_⟩;dsimp only at h2;lia
   rw[full] at J;exact⟨_,rfl,q d L H1 hd Y J s1⟩
theorem Jf.rdn {N:Addr->Prop}{H:Hp}{v:V}{c:Nat×Nat}(h:Jf H v c):Rdn N H v (zp c):=by
 obtain⟨a,rfl,h⟩:=h;exact .tup h (.cons (.int _) (.cons (.int _) .nil))
theorem Cel.rdn {N:Addr->Prop}{H:Hp}{vs:List V}{cs:List (Nat×Nat)}(a:Cel H vs cs):zC N H vs (cs.map zp):=by
 induction a with
 | nil=>exact .nil
 | cons h _ b =>
  exact .cons (Jf.rdn h) b
theorem Rdn.celR {N:Addr->Prop}{H:Hp}{v:V}{c:Nat×Nat}(h:Rdn N H v (zp c)):Jf H v c:=by
 cases h with
 | tup h t =>
  cases t with
  | cons a t =>
   cases a;cases t with
   | cons b t =>
    cases b;cases t;exact⟨_,rfl,h⟩
theorem zC.cel {N:Addr->Prop}{H:Hp}:∀{cs:List (Nat×Nat)} {vs:List V},zC N H vs (cs.map zp)->Cel H vs cs
 | [],_,h=>by cases h;exact .nil
 | c::r,_,h=>by
  cases h with
  | cons a t=>exact .cons (Rdn.celR a) (zC.cel t)
theorem zC.bools {N:Addr->Prop}{H:Hp}:∀{bs:List Bool} {vs:List V},zC N H vs (bs.map S5)->vs=bs.map V.bl
 | [],_,h=>by cases h;rfl
 | b::r,_,h=>by
  cases h with
  | cons a t =>
   cases a;rw[zC.bools t];rfl
theorem qq {α:Type}(p:α->Bool)(g:α->Wi):∀cs:List α,(cs.map fun x=>if p x=true then some (g x) else none).filterMap id=(cs.filter p).map g
 | []=>rfl
 | c::r=>by
  rw[Xe,Vc,WV];by_cases h:p c=true
  ·rw[if_pos h,if_pos h];show g c::_=g c::_;rw[qq p g r]
  ·rw[if_neg h,if_neg h];exact qq p g r
theorem ZI {α:Type}(g:α->Wi):∀cs:List α,(cs.map fun x=>some (g x)).filterMap id=cs.map g
 | []=>rfl
 | c::r=>by
  rw[Xe,Vc];show g c::_=g c::_;rw[ZI g r]
theorem yy {α b:Type}{g:α->b}{cs:List α}{i:Nat}{c:α}{o:b}(h:cs[i]?=some c)(a:(cs.map g)[i]?=some o):o=g c:=by
 rw[Xl,h] at a;exact(Option.some.inj a).symm
def clA (rs:List Str)(c:Nat×Nat):List (Nat×Nat):=(zJ rs c).filter fun x=>decide (Cells.sgn (codes rs) x=63)
def zP (rs:List Str):List (Nat×Nat):=Cells.zL qG 0 (codes rs)
def qk (rs:List Str):List (Nat×Nat):=Cells.zL Yx 0 (codes rs)
def yw (rs:List Str):List (Nat×Nat):=(zP rs).filter fun c=>!((qk rs).map fun o=>(zJ rs o).any fun z=>decide (z=c)).any id
def jW (rs:List Str):List (Nat×Nat):=((qk rs).filter fun o=>(clA rs o).isEmpty).filter fun o=>!decide (Cells.sgn (codes rs) o=48)
theorem qR {p:Nat->Bool}{rs:List Str}(R:Rows bd.cps.toList rs):(Cells.zL p 0 (codes rs)).length<=64:=by
 have h1:=Cells.jI p 0 (codes rs) R.short;have h2:=R.hi;rw[jA] at h1;lia
theorem Zj {rs:List Str}(R:Rows bd.cps.toList rs)(c:Nat×Nat):(zJ rs c).length<=64:=X6 (Xm _ _) (qR R)
theorem qm {p:Nat->Bool}{rs:List Str}{c:Nat×Nat}(h:c∈Cells.zL p 0 (codes rs)):∃t k,rs[c.1]?=some t/\t.cps.toList[c.2]?=some k/\p k=true/\Cells.sgn (codes rs) c=k:=by
 obtain⟨g,j,u,k,d,a,e,b⟩:=Cells.JG h;obtain⟨t,f,rfl⟩:=zbb a;rw[V6] at d;subst d;exact⟨t,k,f,e,b,Cells.ze1 a e⟩
theorem JU {rs:List Str}{c:Nat×Nat}{t:Str}{k:Nat}(R:Rows bd.cps.toList rs)(h1:rs[c.1]?=some t)(h2:t.cps.toList[c.2]?=some k):c.1<64/\c.2<64:=by
 have a:=(XZ.mp h1).1;have b:=(XZ.mp h2).1;have e:=R.hi;have f:=R.short _ (X4 (jR h1));lia
theorem ziE {rs:List Str}{i j:Nat}{t:Str}{k:Nat}(R:Rows bd.cps.toList rs)(h1:rs[i]?=some t)(h2:t.cps.toList[j]?=some k):k∈bd.cps.toList:=by
 obtain⟨n,_,_,h⟩:=R.ex;exact(h t (X4 h1)).mem k (X4 h2)
def zqg:Sp:=fun g H Q _=>∃(p l e:Addr) (b:List Str) (n:Int) (c:Nat×Nat),g=[.ref p,.ref e]/\zY H p l b n/\Rows bd.cps.toList b/\H e=some (.tup [.int (c.1:Nat),.int (c.2:Nat)])/\c.1<64/\c.2<64 /\
 ∀(d:Addr) (f:List V) (a:Hp),H d=none->a d=some (.lst f)->Cel a f (clA b c)->zu H a->Q (.ref d) a
def znF (g:List Str->List (Nat×Nat)):Sp:=fun f H Q _=>∃(a l:Addr) (c:List Str) (n:Int),f=[.ref a]/\zY H a l c n/\Rows bd.cps.toList c /\
 ∀(d:Addr) (e:List V) (b:Hp),H d=none->b d=some (.lst e)->Cel b e (g c)->zu H b->Q (.ref d) b
theorem zbd:zF ["board","cell"] ["board","cell"] (zg qS):=⟨rfl,rfl,rfl,by decide +kernel,rfl,by decide +kernel,by decide +kernel⟩
theorem ZJ {f1 f2:Addr}{J L:Xo}(T:Txt mg)(D:zm K mg "closed_around" qS ["board","cell"] f fd)(zT:zm K mg "around" j9 ["board","cell"] f1 J)(zw:zm K mg "sign_at" qQ ["board","cell"] f2 L) :
  qt P w K mg base CX0 2 f fd ["board","cell"] zqg:=by
 refine D.F.ok zbd (fun vs H Q E h=>?_) (fun ac A aa s H vs Q E hr h=>?_)
 ·obtain⟨p,l,ca,u,n,c,rfl,_⟩:=h;rfl
 ·obtain⟨p,l,ca,u,n,c,rfl,b,R,M,ci,cj,q⟩:=h;refine⟨_,(zf (zI (qh (N:=["place","board"]) (src:=[none,some 0]) (zR.free (O:=(zg qS).names) (XN:=["board","cell"]) rfl rfl ⟨_,rfl⟩ rfl rfl (by decide +kernel) (by decide +kernel) (by decide +kernel) rfl (by decide +kernel)) rfl (zM (pc0 (Ql T zT) hr zT (za (pvS 0) (za (pvS 1) zb)))) (fun _ _ _ _ _=>(zo (i:=0) (by show W3 (["place","board"]:List Str);decide +kernel) rfl (XM rfl))) (fun _ _ _ _ _=>(qg (zG JK (pc0 (Yg zw) hr zw (za (pvS 1) (za (pvS 0) zb))) (jH (v:=.str "?") (by rfl) T.Zi.choose_spec (by exact⟨_,rfl⟩)) (zQ _)))) (fun _ _ _ _ _=>(pvS 0))))),?_⟩;refine⟨_,rfl,_,rfl,p,l,ca,u,n,c.1,c.2,rfl,b,R,M,ci,cj,fun d ws H1 hd j e s1=>⟨d,rfl,⟨_,SqL.of j⟩,fun z hz=>?_⟩⟩;refine qz (K:=K) (a:=d) (xs:=ws) (fun a=>a≠z) ((zJ u c).map fun x=>if decide (Cells.sgn (codes u) x=63)=true then some (zp x) else none) (fun σ=>∃u0,σ=[u0,some (.ref p)]) hz (fun _ h=>h) ⟨_,rfl⟩ (by rw[Y1];exact e.length.symm) (by rw[e.length];exact X6 (Zj R c) (by decide)) (SqL.of j) ?_ ?_
  ·rintro k x o σ H2 hx ho B _ ⟨u0,rfl⟩ Y Z ab no;obtain⟨y,hy,r1⟩:=Cel.get e hx;have g:=yy hy ho;obtain⟨t,I,ht,hj,_,es⟩:=qm (XX.mp (X4 hy)).1;obtain⟨ya,rfl,r⟩:=r1;refine⟨_,rfl,_,rfl,p,l,ya,u,n,y.1,y.2,t,I,rfl,(b.mono s1).mono B,B _ _ r,ht,hj,R.tlen ht,rfl,_,rfl,?_⟩;have ed:decide (V.str ⟨#[I]⟩=V.str "?")=decide (I=63):=by
    rw[Ye];simp only[QV]
   rw[ed];rw[es] at g;by_cases G:I=63
   ·rw[decide_eq_true G];rw[if_pos (decide_eq_true G)] at g;exact YD ⟨_,rfl,ab _ _ _ _ g ⟨_,rfl⟩ (zu.refl _) (Jf.rdn ⟨ya,rfl,B _ _ r⟩)⟩
   ·rw[decide_eq_false G];rw[if_neg (by rw[decide_eq_false G];exact XY)] at g;exact Zp (no _ _ g ⟨_,rfl⟩ (zu.refl _))
  ·rintro ys H2 B U m;rw[qq] at m;exact q z ys H2 (s1.free hz) U (zC.cel m) (s1.trans B)
theorem zga (cs:List (Nat×Nat)):Wu (cs.map zp)=true:=by
 induction cs with
 | nil=>rfl
 | cons c r a =>
  show (Vk (zp c)&&Wu (r.map zp))=true;rw[a];rfl
theorem zoQ (cs:List (Nat×Nat)):WI (cs.map zp)<=1:=by
 induction cs with
 | nil=>exact W5 _
 | cons c r a =>
  show max (PyData.depth (zp c)) (WI (r.map zp))<=1;have:PyData.depth (zp c)=1:=rfl;lia
theorem ze6 (cs a:List (Nat×Nat)):zb9 (.list (cs.map zp)) (.list (a.map zp)):=⟨zga cs,zga a,by
 show WI (cs.map zp)+1<=64;have:=zoQ cs;lia⟩
theorem ZK (cs:List (Nat×Nat))(c:Nat×Nat):(cs.map zp).any (fun z=>W1 z (zp c))=cs.any fun z=>decide (z=c):=by
 rw[Ur];congr 1;funext z;exact zd5 z c
theorem eq_nil (cs:List (Nat×Nat)):W1 (.list (cs.map zp)) (.list [])=cs.isEmpty:=by
 cases cs<;>rfl
theorem zli:zF ["board","told"] ["board"] (zg zf1):=⟨rfl,rfl,rfl,by decide +kernel,rfl,by decide +kernel,by decide +kernel⟩
theorem zlj {f1 f2 f3 f4 f5:Addr}{al am an ao ap:Xo}(T:Txt mg)(D:zm K mg "far" zf1 ["board"] f fd)(zT:zm K mg "around" j9 ["board","cell"] f1 al)(zw:zm K mg "sign_at" qQ ["board","cell"] f2 am)
  (zB:zm K mg "cells_of" qF ["board"] f3 an) (qW:zm K mg "closed" ZE ["board"] f4 ao) (zE:zm K mg "open_cells" qy ["board"] f5 ap):qt P w K mg base CX0 3 f fd ["board"] (znF yw):=by
 refine D.F.ok zli (fun vs H Q E h=>?_) (fun a3 A az s H vs Q E hr h=>?_)
 ·obtain⟨a,l,g,n,rfl,_⟩:=h;rfl
 ·obtain⟨a,l,g,n,rfl,b,R,q⟩:=h;refine⟨_,(zd (zv (i:=1) zli.nd rfl (Vm rfl) (qh (N:=["cell","board"]) (src:=[none,some 0]) (zR.free (O:=(zg zf1).names) (XN:=["board","told"]) rfl rfl ⟨_,rfl⟩ rfl rfl (by decide +kernel) (by decide +kernel) (by decide +kernel) rfl (by decide +kernel)) rfl (zM (pc0 (xZ T zE zB zw) hr zE (za (pvS 0) zb))) (fun _ _ _ _ _=>(zo (i:=0) (by show W3 (["cell","board"]:List Str);decide +kernel) rfl (XM rfl))) (fun _ _ _ _ _=>qU) (fun _ _ _ _ _=>(pc0 (Ql T zT) hr zT (za (pvS 1) (za (pvS 0) zb))))))
   (zf (zI (zfC (N:=["cell","told"]) (src:=[none,some 1]) (xU.byRfl (y:="cell") rfl (fun _ _=>rfl) (fun _=>rfl) (by decide +kernel) (by decide +kernel) (by rfl) rfl (by rfl)) rfl (zM (pc0 (ZG T qW zB zw) hr qW (za (pvS 0) zb))) (fun _ _ _ _ _=>(zo (i:=0) (by show W3 (["cell","told"]:List Str);decide +kernel) rfl (Vm rfl))) (fun _ _ _ _ _=>(qg (Zf (Y9 (K:=K) (by rfl) (zq (zdL (K:=K) (by rfl) (by rfl)) (by rfl) T.zlc Sq (za (qh (N:=["near","cell"]) (src:=[none,some 0]) (zR.byRfl rfl (by decide +kernel) (by decide +kernel) (by rfl) rfl (by rfl)) (by rfl) (zan (K:=K) (by rfl) (pvS 1)) (fun _ _ _ _ _=>(zo (i:=0) (by show W3 (["near","cell"]:List Str);decide +kernel) rfl (XM rfl))) (fun _ _ _ _ _=>qU) (fun _ _ _ _ _=>(Jx (j3 (K:=K) (by rfl) hr.units) (pvS 1) (pvS 0) (by rfl)))) zb)) (fun _=>rfl))))) (fun _ _ _ _ _=>(pvS 0)))))),?_⟩
  refine⟨_,rfl,a,l,g,n,rfl,b,R,fun d ws H1 hd aa B s1=>⟨d,rfl,⟨_,SqL.of aa⟩,fun z hz=>?_⟩⟩;have b1:=b.mono s1;refine qz (K:=K) (a:=d) (xs:=ws) (fun a=>a≠z) ((qk g).map fun o=>some (.list ((zJ g o).map zp))) (fun u=>∃J,u=[J,some (.ref a)]) hz (fun _ h=>h) ⟨_,rfl⟩ (by rw[Y1];exact B.length.symm) (by rw[B.length];exact X6 (qR R) (by decide)) (SqL.of aa) ?_ ?_
  ·rintro k x o u H2 hx ho s2 ay ⟨J,rfl⟩ Y Z M no;obtain⟨y,hy,r1⟩:=Cel.get B hx;have U:=yy hy ho;obtain⟨t,sg,ht,hj,_,es⟩:=qm (X4 hy);obtain⟨L,rfl,j⟩:=r1;obtain⟨l1,l2⟩:=JU R ht hj;refine J5 ⟨_,rfl,_,rfl,a,l,L,g,n,y.1,y.2,rfl,b1.mono s2,R,s2 _ _ j,l1,l2,fun d2 a5 H3 ar ab aq s3=>?_⟩;refine M _ _ _ _ U ⟨_,rfl⟩ s3 (.lst (fun e=>ay (e ▸ ar)) ab (Cel.rdn aq))
  ·rintro ys H2 s2 aw I;rw[ZI] at I;have b2:=b1.mono s2;refine⟨_,rfl,a,l,g,n,rfl,b2,R,fun d3 a1 H3 ab ac G s3=>⟨d3,rfl,⟨_,SqL.of ac⟩,fun z3 ah=>?_⟩⟩;have ai:=s3 _ _ aw;have av:=I.keep s3;refine qz (K:=K) (a:=d3) (xs:=a1) (fun a=>a≠z3) ((zP g).map fun c=>if (!((qk g).map fun o=>(zJ g o).any fun z=>decide (z=c)).any id)=true then some (zp c) else none) (fun u=>∃J,u=[J,some (.ref z)]) ah (fun _ h=>h) ⟨_,rfl⟩ (by rw[Y1];exact G.length.symm) (by rw[G.length];exact X6 (qR R) (by decide)) (SqL.of ac) ?_ ?_
   ·rintro k x o u H4 hx ho s4 _ ⟨J,rfl⟩ Y Z M no;obtain⟨y,hy,r1⟩:=Cel.get G hx;have U:=yy hy ho;have r2:Jf H4 x y:=by
     obtain⟨L,e,j⟩:=r1;exact⟨L,e,s4 _ _ j⟩
    refine⟨_,rfl,z,rfl,⟨_,SqL.of (s4 _ _ ai)⟩,fun z5 ax=>?_⟩;have ag:ys.length=(qk g).length:=by rw[I.length,Y1]
    refine qz (K:=K) (a:=z) (xs:=ys) (fun a=>a≠z5) ((qk g).map fun o=>some (.bool ((zJ g o).any fun z=>decide (z=y)))) (fun u=>∃J,u=[J,some x]) ax (fun _ h=>h) ⟨_,rfl⟩ (by rw[Y1];exact ag.symm) (by rw[ag];exact X6 (qR R) (by decide)) (SqL.of (s4 _ _ ai)) ?_ ?_
    ·rintro m v o2 u H5 hv au s5 _ ⟨u1,rfl⟩ Y2 Z2 aj a4;obtain⟨dv,p,rv⟩:=av.get hv;rw[Xl] at p;cases eoc:(qk g)[m]? with
     | none=>rw[eoc] at p;cases p
     | some oc =>
      rw[eoc] at p;cases p;have ak:=yy eoc au;have r3:Jf H5 x y:=by
       obtain⟨L,e,j⟩:=r2;exact⟨L,e,s5 _ _ j⟩
      refine J5 ⟨_,rfl,_,rfl,zp y,(zJ g oc).map zp,r3.rdv,(((rv.keep s4).keep s5).rdv),rfl,zga _,(by show 1<=60;decide),?_⟩;have ei:(if false=true then !((zJ g oc).map zp).any (fun z=>W1 z (zp y)) else ((zJ g oc).map zp).any fun z=>W1 z (zp y))=(zJ g oc).any fun z=>decide (z=y):=ZK _ _;rw[ei];exact aj _ _ _ _ ak ⟨_,rfl⟩ (zu.refl _) (.bl _)
    ·rintro a6 H5 s5 r af;rw[ZI,show ((qk g).map fun o=>S5 ((zJ g o).any fun z=>decide (z=y)))=((qk g).map fun o=>(zJ g o).any fun z=>decide (z=y)).map S5 by rw[WM];rfl] at af;rw[zC.bools af] at r;refine⟨z5,_,rfl,SqL.of r,_,rfl,?_⟩;by_cases hp:(!((qk g).map fun o=>(zJ g o).any fun z=>decide (z=y)).any id)=true
     ·rw[if_pos hp] at U;refine jX hp ⟨_,rfl,M _ _ _ _ U ⟨_,rfl⟩ s5 (Jf.rdn ?_)⟩;obtain⟨L,e,j⟩:=r2;exact⟨L,e,s5 _ _ j⟩
     ·rw[if_neg hp] at U;exact jE (by simpa using hp) (no _ _ U ⟨_,rfl⟩ s5)
   ·rintro a2 H4 s4 r ae;rw[qq] at ae;exact q z3 a2 H4 (s1.free (s2.free (s3.free ah))) r (zC.cel ae) (((s1.trans s2).trans s3).trans s4)
theorem QC:zF ["board","bare"] ["board"] (zg yu):=⟨rfl,rfl,rfl,by decide +kernel,rfl,by decide +kernel,by decide +kernel⟩
theorem QD {f1 f2 f3 f4 f5 f6:Addr}{ab ac ae af ag ah:Xo}(T:Txt mg)(D:zm K mg "bare_wrong" yu ["board"] f fd)(zT:zm K mg "around" j9 ["board","cell"] f1 ab)(zw:zm K mg "sign_at" qQ ["board","cell"] f2 ac)
  (zB:zm K mg "cells_of" qF ["board"] f3 ae) (zU:zm K mg "closed_around" qS ["board","cell"] f4 af) (zE:zm K mg "open_cells" qy ["board"] f5 ag) (qi:zm K mg "number_at" yb ["board","cell"] f6 ah):qt P w K mg base CX0 3 f fd ["board"] (znF jW):=by
 refine D.F.ok QC (fun vs H Q E h=>?_) (fun an A al s H vs Q E hr h=>?_)
 ·obtain⟨a,l,c,n,rfl,_⟩:=h;rfl
 ·obtain⟨a,l,c,n,rfl,b,R,q⟩:=h;refine⟨_,(zd (Jy (i:=1) QC.nd rfl rfl (N:=["cell","board"]) (src:=[none,some 0]) (zR.free (O:=(zg yu).names) (XN:=["board","bare"]) rfl rfl ⟨_,rfl⟩ rfl rfl (by decide +kernel) (by decide +kernel) (by decide +kernel) rfl (by decide +kernel)) rfl (zM (pc0 (xZ T zE zB zw) hr zE (za (pvS 0) zb))) (fun _ _ _ _ _=>(zo (i:=0) (by show W3 (["cell","board"]:List Str);decide +kernel) rfl (XM rfl))) (fun _ _ _ _ _=>(qg (zG (Jb (K:=K) (by rfl) hr.units) (pc0 (ZJ T zU zT zw) hr zU (za (pvS 1) (za (pvS 0) zb))) (qc zb) (zQ _)))) (fun _ _ _ _ _=>(pvS 0)))
   (zf (zI (qh (N:=["cell","board"]) (src:=[none,some 0]) (zR.free (O:=(zg yu).names) (XN:=["board","bare"]) rfl rfl ⟨_,rfl⟩ rfl rfl (by decide +kernel) (by decide +kernel) (by decide +kernel) rfl (by decide +kernel)) rfl (zM (pvS 1)) (fun _ _ _ _ _=>(zo (i:=0) (by show W3 (["cell","board"]:List Str);decide +kernel) rfl (XM rfl))) (fun _ _ _ _ _=>(qg (zG Qy (pc0 (zaF T qi zw) hr qi (za (pvS 1) (za (pvS 0) zb))) zk (zQ _)))) (fun _ _ _ _ _=>(pvS 0)))))),?_⟩
  refine⟨_,rfl,a,l,c,n,rfl,b,R,fun d ws H1 hd G u s1=>⟨d,rfl,⟨_,SqL.of G⟩,fun z hz=>?_⟩⟩;have b1:=b.mono s1;refine qz (K:=K) (a:=d) (xs:=ws) (fun a=>a≠z) ((qk c).map fun o=>if (clA c o).isEmpty=true then some (zp o) else none) (fun σ=>∃u0,σ=[u0,some (.ref a)]) hz (fun _ h=>h) ⟨_,rfl⟩ (by rw[Y1];exact u.length.symm) (by rw[u.length];exact X6 (qR R) (by decide)) (SqL.of G) ?_ ?_
  ·rintro k x o σ H2 hx ho v ap ⟨u0,rfl⟩ Y Z B no;obtain⟨y,M,r1⟩:=Cel.get u hx;have p:=yy M ho;obtain⟨t,sg,L,hj,_,es⟩:=qm (X4 M);obtain⟨ya,rfl,j⟩:=r1;obtain⟨l1,l2⟩:=JU R L hj;refine⟨_,rfl,_,rfl,a,l,ya,c,n,y,rfl,b1.mono v,R,v _ _ j,l1,l2,fun d2 aq H3 ao ai g s3=>⟨JX,fun e he=>?_⟩⟩;have m:=ze (o:=.lst []) he;refine⟨.list ((clA c y).map zp),.list [],.lst (SqL.of (m _ _ ai)) (zC.rdv (N:=fun _=>True) (Cel.rdn (Cel.mono m g))),.lst (SqL.of zc) .nil,ze6 _ [],_,rfl,?_⟩;have ee:(if false=true then !PyData.eqv (.list ((clA c y).map zp)) (.list []) else W1 (.list ((clA c y).map zp)) (.list []))=(clA c y).isEmpty:=eq_nil _;rw[ee];by_cases r:(clA c y).isEmpty=true
   ·rw[if_pos r] at p;exact jX r ⟨_,rfl,B _ _ _ _ p ⟨_,rfl⟩ (s3.trans m) (Jf.rdn ⟨ya,rfl,m _ _ (s3 _ _ (v _ _ j))⟩)⟩
   ·rw[if_neg r] at p;exact jE (by simpa using r) (no _ _ p ⟨_,rfl⟩ (s3.trans m))
  ·rintro ys H2 v U I;rw[qq] at I;have g:=zC.cel I;have b2:=b1.mono v;refine⟨_,rfl,z,rfl,⟨_,SqL.of U⟩,fun z3 aa=>?_⟩;refine qz (K:=K) (a:=z) (xs:=ys) (fun a=>a≠z3) (((qk c).filter fun o=>(clA c o).isEmpty).map fun o=>if (!decide (Cells.sgn (codes c) o=48))=true then some (zp o) else none) (fun σ=>∃u0,σ=[u0,some (.ref a)]) aa (fun _ h=>h) ⟨_,rfl⟩ (by rw[Y1];exact g.length.symm) (by rw[g.length];exact X6 (Xm _ _) (X6 (qR R) (by decide))) (SqL.of U) ?_ ?_
   ·rintro k x o σ H4 hx ho m _ ⟨u0,rfl⟩ Y Z B no;obtain⟨y,M,r1⟩:=Cel.get g hx;have p:=yy M ho;obtain⟨t,sg,L,hj,aj,es⟩:=qm (XX.mp (X4 M)).1;obtain⟨ya,rfl,j⟩:=r1;obtain⟨k1,k2⟩:=zbc (ziE R L hj) aj;refine⟨_,rfl,_,rfl,a,l,ya,c,n,y.1,y.2,t,sg,rfl,b2.mono m,m _ _ j,L,hj,R.tlen L,k1,k2,rfl,_,rfl,?_⟩;have ed:(!decide (V.int ((sg:Int)-48)=V.int 0))=!decide (Cells.sgn (codes c) y=48):=by
     rw[es,zeB];congr 1;by_cases h:sg=48
     ·rw[decide_eq_true h,h];rfl
     ·rw[decide_eq_false h];simp only[beq_eq_false_iff_ne,ne_eq];lia
    rw[ed];by_cases r:(!decide (Cells.sgn (codes c) y=48))=true
    ·rw[if_pos r] at p;exact jX r ⟨_,rfl,B _ _ _ _ p ⟨_,rfl⟩ (zu.refl _) (Jf.rdn ⟨ya,rfl,m _ _ j⟩)⟩
    ·rw[if_neg r] at p;exact jE (by simpa using r) (no _ _ p ⟨_,rfl⟩ (zu.refl _))
   ·rintro am H4 m ak J;rw[qq] at J;exact q z3 am H4 (s1.free (v.free aa)) ak (zC.cel J) ((s1.trans v).trans m)
theorem ze7 {K:X5}{H:Hp}{vs:List V}{cs:List (Nat×Nat)}(a:Cel H vs cs):xA K H vs (cs.map zp):=by
 induction a with
 | nil=>exact .nil
 | cons h _ b =>
  exact .cons (Jf.rdv h) b
theorem zcG (cs:List (Nat×Nat)):Wu (cs.map zp)=true:=by
 induction cs with
 | nil=>rfl
 | cons c r a =>
  show (Vk (zp c)&&Wu (r.map zp))=true;rw[a];rfl
theorem zcH (cs:List (Nat×Nat)):WI (cs.map zp)<=1:=by
 induction cs with
 | nil=>exact W5 _
 | cons c r a =>
  show max (PyData.depth (zp c)) (WI (r.map zp))<=1;have:PyData.depth (zp c)=1:=rfl;lia
theorem zoR (cs a:List (Nat×Nat)):zb9 (.list (cs.map zp)) (.list (a.map zp)):=⟨zcG cs,zcG a,by
 show WI (cs.map zp)+1<=64;have:=zcH cs;lia⟩
theorem g_same (cs:List (Nat×Nat)):W1 (.list (cs.map zp)) (.list (cs.map zp))=true:=RI _ (zcG cs)
def toI (c:Nat×Nat):Int×Int:=(((c.1:Nat):Int),((c.2:Nat):Int))
def ofI (p:Int×Int):Nat×Nat:=(p.1.toNat,p.2.toNat)
theorem ziF (c:Nat×Nat):ofI (toI c)=c:=rfl
theorem zmV {c d:Nat×Nat}(h:toI c=toI d):c=d:=by rw[<- ziF c,h,ziF]
theorem zmW {c d:Nat×Nat}:lt2 (toI c) (toI d)=true↔Cells.lex c d:=by
 obtain⟨a,b⟩:=c;obtain⟨x,y⟩:=d;unfold lt2 Cells.lex;show (if ((a:Nat):Int)=((x:Nat):Int) then decide (((b:Nat):Int)<((y:Nat):Int)) else decide (((a:Nat):Int)<((x:Nat):Int)))=true↔a<x\/(a=x/\b<y);by_cases e:a=x
 ·rw[if_pos (by lia),decide_eq_true_eq];lia
 ·rw[if_neg (by lia),decide_eq_true_eq];lia
theorem Cel.tup2 {H:Hp}{vs:List V}{cs:List (Nat×Nat)}(b:Cel H vs cs):xu H vs (cs.map toI):=by
 induction b with
 | nil=>exact .nil
 | cons q _ c =>
  obtain⟨a,e,h⟩:=q;exact .cons ⟨a,e,h⟩ c
theorem yR {H:Hp}:∀{cs:List (Nat×Nat)} {vs:List V},xu H vs (cs.map toI)->Cel H vs cs
 | [],_,.nil=>.nil
 | _::_,_,.cons ⟨a,e,h⟩ t=>.cons ⟨a,e,h⟩ (yR t)
theorem zmX {ps:List (Int×Int)}{cs:List (Nat×Nat)}(h:ps.Perm (cs.map toI)):∃a:List (Nat×Nat),ps=a.map toI/\a.Perm cs:=by
 refine⟨ps.map ofI,?_,?_⟩
 ·rw[WM];refine(R7 ps).symm.trans (Xh fun p b=>?_);obtain⟨c,_,rfl⟩:=Xv.mp (h.mem_iff.mp b);rfl
 ·have:=h.map ofI;rw[WM] at this;have e:cs.map (ofI∘toI)=cs:=(Xh fun c _=>ziF c).trans (R7 cs);rwa [e] at this
theorem zoS {cs:List (Nat×Nat)}(h:Up2 (cs.map toI)):cs.Pairwise Cells.lex:=by
 unfold Up2 at h;rw[VX] at h;exact h.imp fun z=>zmW.mp z
theorem xE {cs:List (Nat×Nat)}(h:cs.Pairwise Cells.lex):cs.Nodup:=h.imp fun {a b} z e=>by
 subst e;unfold Cells.lex at z;lia
def zjI (H:Hp)(v:V)(g:List (Nat×Nat)):Prop:=∃a b,v=V.ref a/\H a=some (.lst b)/\Cel H b g
def yM (H:Hp):List V->List (List (Nat×Nat))->Prop:=WU (zjI H)
theorem zjI.mono {H b:Hp}{v:V}{g:List (Nat×Nat)}(s:zu H b)(h:zjI H v g):zjI b v g:=by
 obtain⟨a,c,e,h1,h2⟩:=h;exact⟨a,c,e,s _ _ h1,h2.mono s⟩
theorem yM.mono {H a:Hp}(s:zu H a){vs:List V}{gs:List (List (Nat×Nat))}(b:yM H vs gs):yM a vs gs:=by
 induction b with
 | nil=>exact .nil
 | cons h _ c =>
  exact .cons (h.mono s) c
theorem yM.get {H:Hp}:∀{vs:List V} {gs:List (List (Nat×Nat))} {i:Nat} {v:V},yM H vs gs->vs[i]?=some v->∃g,gs[i]?=some g/\zjI H v g
 | _,_,_,_,.nil,e=>by simp at e
 | _,_,0,_,.cons r _,e=>by
  simp at e;subst e;exact⟨_,rfl,r⟩
 | _,_,i+1,v,.cons _ t,e=>by
  obtain⟨c,h1,h2⟩:=yM.get (i:=i) (v:=v) t (by simpa using e);exact⟨c,by simpa using h1,h2⟩
theorem yM.length {H:Hp}{vs:List V}{gs:List (List (Nat×Nat))}(h:yM H vs gs):vs.length=gs.length:=Paired.length h
theorem yM.snoc {H:Hp}{vs:List V}{gs:List (List (Nat×Nat))}{v:V}{g:List (Nat×Nat)}(h:yM H vs gs)(x:zjI H v g):yM H (vs++[v]) (gs++[g]):=Paired.snoc h x
def lD (g:List (Nat×Nat)):Wi:=.list (g.map zp)
theorem zd6 {p q:Nat->Bool}(h:∀c,p c=true->q c=false)(i:Nat):∀(j:Nat) (t:List Nat),(Cells.qb p i j t).length+(Cells.qb q i j t).length<=t.length
 | _,[]=>XV _
 | j,c::r=>by
  have b:=zd6 h i (j+1) r;rw[Cells.qb,Cells.qb,XW,XW,Xr];by_cases a:p c=true
  ·rw[if_pos a,if_neg (by rw[h c a];exact XY)];simp only[Xr,UX];lia
  ·rw[if_neg a];split<;>simp only[Xr,UX]<;>lia
theorem zd7 {p q:Nat->Bool}(h:∀c,p c=true->q c=false):∀(i:Nat) (rs:List (List Nat)),(∀t∈rs,t.length<=8)->(Cells.zL p i rs).length+(Cells.zL q i rs).length<=8*rs.length
 | _,[],_=>XV _
 | i,t::r,a=>by
  have d:=zd7 h (i+1) r fun u b=>a u (XT _ b);have h1:=zd6 h i 0 t;have h2:=a t XS;rw[Cells.zL,Cells.zL,XW,XW,Xr];lia
theorem zd8 {rs:List Str}(R:Rows bd.cps.toList rs):(qk rs).length+(zP rs).length<=64:=by
 have:=zd7 (p:=Yx) (q:=qG) (fun c a=>by
  unfold Yx at a;rw[We,WE] at a;exact a.2) 0 (codes rs) R.short
 have h2:=R.hi;rw[jA] at this;unfold qk zP;lia
theorem zaG {p:Nat->Bool}{i:Nat}:∀{j m:Nat} {t:List Nat} {c:Nat},t[m]?=some c->p c=true->(i,j+m)∈Cells.qb p i j t
 | j,m,[],c,h,_=>by simp at h
 | j,0,d::r,c,h,a=>by
  have e:d=c:=by simpa using h
  subst e;rw[Cells.qb,if_pos a];exact WW _ XS
 | j,m+1,d::r,c,h,a=>by
  rw[Cells.qb];refine XD _ ?_;have:=zaG (i:=i) (j:=j+1) (m:=m) (t:=r) (c:=c) (by simpa using h) a;rwa [show j+1+m=j+(m+1) by lia] at this
theorem Yh {p:Nat->Bool}:∀{i m:Nat} {rs:List (List Nat)} {t:List Nat} {j c:Nat},rs[m]?=some t->t[j]?=some c->p c=true->(i+m,j)∈Cells.zL p i rs
 | i,m,[],t,j,c,h,_,_=>by simp at h
 | i,0,d::r,t,j,c,h,a,b=>by
  have e:d=t:=by simpa using h
  subst e;rw[Cells.zL];refine WW _ ?_;have:=zaG (i:=i) (j:=0) a b;rwa [show 0+j=j by lia] at this
 | i,m+1,d::r,t,j,c,h,a,b=>by
  rw[Cells.zL];refine XD _ ?_;have:=Yh (i:=i+1) (m:=m) (rs:=r) (t:=t) (j:=j) (c:=c) (by simpa using h) a b;rwa [show i+1+m=i+(m+1) by lia] at this
theorem zd9 (rs:List Str)(c:Nat×Nat):(clA rs c).Nodup:=((xE (Cells.Qd _ 0 (codes rs))).sublist Wg).sublist Wg
theorem ZL {rs:List Str}{c x:Nat×Nat}(h:x∈clA rs c):x∈zP rs:=by
 unfold clA at h;obtain⟨h1,h2⟩:=XX.mp h;obtain⟨t,k,d,b,_,e⟩:=qm (XX.mp h1).1;have a:k=63:=by
  have:=of_decide_eq_true h2;lia
 subst a;have:=Yh (p:=qG) (i:=0) (jR d) b (by decide);rwa [V6] at this
def heads (gs:List (List (Nat×Nat))):List (Int×Int):=gs.map fun g=>toI (g.headD (0,0))
theorem head_mem {g:List (Nat×Nat)}(h:g ≠ []):g.headD (0,0)∈g:=by
 cases g with
 | nil=>exact absurd rfl h
 | cons a r=>exact XS
theorem zbx:∀{gs:List (List (Nat×Nat))},(∀g∈gs,g ≠ [])->gs.flatten.Nodup->(heads gs).Nodup
 | [],_,_=>SN
 | g::r,h,d=>by
  rw[WN,VW] at d;obtain⟨_,h2,i⟩:=d;unfold heads;rw[Xe,VM];refine⟨fun j=>?_,zbx (fun x k=>h x (XT _ k)) h2⟩;obtain⟨b,a,e⟩:=Xv.mp j;have f:=zmV e;have l:=head_mem (h g XS);have c:=head_mem (h b (XT _ a));rw[f] at c;exact i _ l _ (Wr.mpr ⟨b,a,c⟩) rfl
def JD (rs:List Str)(part:List (Nat×Nat)):List (Nat×Nat):=(qk rs).filter fun o=>((zJ rs o).map fun z=>part.any fun x=>decide (x=z)).any id
def zoT:Sp:=fun h H Q _=>∃(a l e:Addr) (c:List Str) (n:Int) (f:List V) (part:List (Nat×Nat)),h=[.ref a,.ref e]/\zY H a l c n/\Rows bd.cps.toList c/\H e=some (.lst f)/\Cel H f part /\
 ∀(d:Addr) (g:List V) (b:Hp),H d=none->b d=some (.lst g)->Cel b g (JD c part)->zu H b->Q (.ref d) b
theorem zdv:zF ["board","part"] ["board","part"] (zg jJ):=⟨rfl,rfl,rfl,by decide +kernel,rfl,by decide +kernel,by decide +kernel⟩
theorem zdw {f1 f2 f3 f5:Addr}{ab ac ae af:Xo}(T:Txt mg)(D:zm K mg "numbers_of" jJ ["board","part"] f fd)(zT:zm K mg "around" j9 ["board","cell"] f1 ab)(zw:zm K mg "sign_at" qQ ["board","cell"] f2 ac)
  (zB:zm K mg "cells_of" qF ["board"] f3 ae) (zE:zm K mg "open_cells" qy ["board"] f5 af):qt P w K mg base CX0 3 f fd ["board","part"] zoT:=by
 refine D.F.ok zdv (fun vs H Q E h=>?_) (fun ao A al s H vs Q E hr h=>?_)
 ·obtain⟨a,l,pa,e,n,ps,part,rfl,_⟩:=h;rfl
 ·obtain⟨a,l,pa,e,n,ps,part,rfl,b,R,ah,ai,q⟩:=h;refine⟨_,(zf (zI (qh (N:=["cell","part","board"]) (src:=[none,some 1,some 0]) (zR.free (O:=(zg jJ).names) (XN:=["board","part"]) rfl rfl ⟨_,rfl⟩ rfl rfl (by decide +kernel) (by decide +kernel) (by decide +kernel) rfl (by decide +kernel)) rfl (zM (pc0 (xZ T zE zB zw) hr zE (za (pvS 0) zb))) (fun _ _ _ _ _=>(zo (i:=0) (by show W3 (["cell","part","board"]:List Str);decide +kernel) rfl (XM rfl))) (fun _ _ _ _ _=>(qg (Y9 (K:=K) (by rfl) (zq (zdL (K:=K) (by rfl) (by rfl)) (by rfl) T.zlc Sq (za (qh (N:=["place","part"]) (src:=[none,some 1]) (zR.byRfl rfl (by decide +kernel) (by decide +kernel) (by rfl) rfl (by rfl)) (by rfl) (zan (K:=K) (by rfl) (pc0 (Ql T zT) hr zT (za (pvS 2) (za (pvS 0) zb)))) (fun _ _ _ _ _=>(zo (i:=0) (by show W3 (["place","part"]:List Str);decide +kernel) rfl (XM rfl))) (fun _ _ _ _ _=>qU) (fun _ _ _ _ _=>(Jx (j3 (K:=K) (by rfl) hr.units) (pvS 0) (pvS 1) (by rfl)))) zb)) (fun _=>rfl)))) (fun _ _ _ _ _=>(pvS 0))))),?_⟩;refine⟨_,rfl,a,l,e,n,rfl,b,R,fun d ws H1 hd u g s1=>⟨d,rfl,⟨_,SqL.of u⟩,fun z hz=>?_⟩⟩;have b1:=b.mono s1;refine qz (K:=K) (a:=d) (xs:=ws) (fun a=>a≠z) ((qk e).map fun o=>if (((zJ e o).map fun z=>part.any fun x=>decide (x=z)).any id)=true then some (zp o) else none) (fun U=>∃u0,U=[u0,some (.ref pa),some (.ref a)]) hz (fun _ h=>h) ⟨_,rfl⟩ (by rw[Y1];exact g.length.symm) (by rw[g.length];exact X6 (qR R) (by decide)) (SqL.of u) ?_ ?_
  ·rintro k x o U H2 hx ho p aq ⟨u0,rfl⟩ Y Z an no;obtain⟨y,hy,r1⟩:=Cel.get g hx;have eo:=yy hy ho;obtain⟨t,sg,ht,hj,_,es⟩:=qm (X4 hy);obtain⟨ya,rfl,J⟩:=r1;obtain⟨l1,l2⟩:=JU R ht hj;refine⟨_,rfl,_,rfl,a,l,ya,e,n,y.1,y.2,rfl,b1.mono p,R,p _ _ J,l1,l2,fun d2 am H3 ap B j s3=>⟨d2,rfl,⟨_,SqL.of B⟩,fun z5 ak=>?_⟩⟩;refine qz (K:=K) (a:=d2) (xs:=am) (fun a=>a≠z5) ((zJ e y).map fun c=>some (.bool (part.any fun x=>decide (x=c)))) (fun U=>∃u0,U=[u0,some (.ref pa)]) ak (fun _ h=>h) ⟨_,rfl⟩ (by rw[Y1];exact j.length.symm) (by rw[j.length];exact X6 (Zj R y) (by decide)) (SqL.of B) ?_ ?_
   ·rintro m v o2 U H5 hv ag r _ ⟨u1,rfl⟩ Y2 Z2 M ar;obtain⟨c,hc,rc⟩:=Cel.get (Cel.mono r j) hv;have aa:=yy hc ag;have sA:=((s1.trans p).trans s3).trans r;refine J5 ⟨_,rfl,_,rfl,zp c,part.map zp,rc.rdv,.lst (SqL.of (sA _ _ ah)) (zC.rdv (N:=fun _=>True) (Cel.rdn (Cel.mono sA ai))),rfl,zga _,(by show 1<=60;decide),?_⟩;have ei:(if false=true then !(part.map zp).any (fun z=>W1 z (zp c)) else (part.map zp).any fun z=>W1 z (zp c))=part.any fun z=>decide (z=c):=ZK _ _;rw[ei];exact M _ _ _ _ aa ⟨_,rfl⟩ (zu.refl _) (.bl _)
   ·rintro au H5 r L I;rw[ZI,show ((zJ e y).map fun c=>S5 (part.any fun x=>decide (x=c)))=((zJ e y).map fun c=>part.any fun x=>decide (x=c)).map S5 by rw[WM];rfl] at I;rw[zC.bools I] at L;refine⟨z5,_,rfl,SqL.of L,_,rfl,?_⟩;by_cases hp:(((zJ e y).map fun z=>part.any fun x=>decide (x=z)).any id)=true
    ·rw[if_pos hp] at eo;exact jX hp ⟨_,rfl,an _ _ _ _ eo ⟨_,rfl⟩ (s3.trans r) (Jf.rdn ⟨ya,rfl,r _ _ (s3 _ _ (p _ _ J))⟩)⟩
    ·rw[if_neg hp] at eo;exact jE (by simpa using hp) (no _ _ eo ⟨_,rfl⟩ (s3.trans r))
  ·rintro ys H2 p aj G;rw[qq] at G;exact q z ys H2 (s1.free hz) aj (zC.cel G) (s1.trans p)
theorem zhq {a:Nat×Nat->List (Nat×Nat)}{done:List (Nat×Nat)}{gs:List (List (Nat×Nat))}{o:Nat×Nat}(G:Parts.Good a done gs)(h:a o ≠ [])(c:(a o).Nodup){w:List (Nat×Nat)}(d:w.Pairwise Cells.lex)(j:∀x,x∈w↔x∈a o\/∃g∈gs,Parts.meets (a o) g=true/\x∈g):Parts.Good a (done++[o]) ((gs.filter fun g=>!Parts.meets (a o) g)++[w]):=by
 refine G.step h c ?_ ?_ d
 ·refine VQ fun g i=>?_;congr 1;rw[Wz,Wn];constructor
  ·exact fun z=>⟨g,XX.mpr ⟨i,z⟩,decide_eq_true rfl⟩
  ·rintro⟨m,b,e⟩;have f:m=g:=of_decide_eq_true e;subst f;exact(XX.mp b).2
 ·refine(Vx (xE d) (Parts.YM c fun m b=>G.nd.sublist (VH (XX.mp b).1))).mpr fun x=>?_;rw[j,Parts.za7];constructor
  ·rintro(z | ⟨g,h1,h2,h3⟩)
   ·exact .inl z
   ·exact .inr ⟨g,XX.mpr ⟨h1,h2⟩,h3⟩
  ·rintro(z | ⟨g,h1,h3⟩)
   ·exact .inl z
   ·exact .inr ⟨g,(XX.mp h1).1,(XX.mp h1).2,h3⟩
theorem zjJ (cs g:List (Nat×Nat)):(cs.map fun c=>g.any fun z=>decide (z=c)).any id=Parts.meets cs g:=by
 rw[Wz,Parts.ZC,Ur,Wn];constructor
 ·rintro⟨c,h1,h2⟩;have a:(g.any fun z=>decide (z=c))=true:=h2;obtain⟨z,b,d⟩:=Wn.mp a;have e:z=c:=of_decide_eq_true d;subst e;exact⟨z,b,h1⟩
 ·rintro⟨x,h1,h2⟩;refine⟨x,h2,?_⟩;show (g.any fun z=>decide (z=x))=true;exact Wn.mpr ⟨x,h1,decide_eq_true rfl⟩
def Zb (p:List (Nat×Nat)->Bool):List V->List (List (Nat×Nat))->List V
 | v::vs,g::gs=>if p g=true then v::Zb p vs gs else Zb p vs gs
 | _,_=>[]
theorem ZM (p:List (Nat×Nat)->Bool):∀(vs:List V) (gs:List (List (Nat×Nat))),(Zb p vs gs).Sublist vs
 | [],_=>List.nil_sublist _
 | _::_,[]=>List.nil_sublist _
 | v::vs,g::gs=>by
  rw[Zb];split
  ·exact(ZM p vs gs).cons_cons v
  ·exact(ZM p vs gs).cons v
theorem QW {H:Hp}(p:List (Nat×Nat)->Bool):∀{vs:List V} {gs:List (List (Nat×Nat))},yM H vs gs->yM H (Zb p vs gs) (gs.filter p)
 | _,_,.nil=>.nil
 | _,_,.cons (a:=v) (b:=g) h t=>by
  rw[Zb,WV];by_cases c:p g=true
  ·rw[if_pos c,if_pos c];exact .cons h (QW p t)
  ·rw[if_neg c,if_neg c];exact QW p t
theorem zhr (p:List (Nat×Nat)->Bool){vs:List V}{gs:List (List (Nat×Nat))}{i:Nat}{v:V}{g:List (Nat×Nat)}(h1:vs[i]?=some v)(h2:gs[i]?=some g):Zb p (vs.take (i+1)) (gs.take (i+1))=Zb p (vs.take i) (gs.take i)++if p g=true then [v] else []:=by
 induction vs generalizing gs i with
 | nil=>cases h1
 | cons w vs a =>
  cases gs with
  | nil=>cases h2
  | cons k gs =>
   cases i with
   | zero =>
    cases h1;cases h2;simp[Zb]
   | succ i =>
    rw[UH,UH,UH,UH,Zb,Zb,a h1 h2];split<;>rfl
theorem ze8 {m:List (Int×Int)}{l:List (Nat×Nat)}(h:∀c∈m,c∈l.map toI):m=(m.map ofI).map toI:=by
 rw[WM];refine(R7 m).symm.trans (Xh fun c a=>?_);obtain⟨x,_,rfl⟩:=Xv.mp (h c a);rfl
def zlk:Sp:=fun l H Q _=>∃(e j:Addr) (i k:List V) (c:List (List (Nat×Nat))) (a B:List (Nat×Nat)),l=[.ref e,.ref j]/\H e=some (.lst i)/\yM H i c/\H j=some (.lst k)/\Cel H k a/\a.Nodup/\c.flatten.Nodup/\(∀x∈a,x∈B)/\(∀x∈c.flatten,x∈B)/\(∀x∈B,x.1<8/\x.2<8)/\B.length<=63/\c.length<=63 /\
 (a=[]->∀b,zu H b->Q (.ref e) b) /\
 (a ≠ []->∀(d h:Addr) (f:List V) (w:List (Nat×Nat)) (b:Hp),H d=none->H h=none->b d=some (.lst (f++[.ref h]))->f.Sublist i->yM b (f++[.ref h]) ((c.filter fun g=>!Parts.meets a g)++[w])->w.Pairwise Cells.lex->(∀x,x∈w↔x∈a\/∃g∈c,Parts.meets a g=true/\x∈g)->zu H b->Q (.ref d) b)
theorem Qm:zF ["groups","cells","apart","together","group"] ["groups","cells"] (zg ZF):=⟨rfl,rfl,rfl,by decide +kernel,rfl,by decide +kernel,by decide +kernel⟩
theorem zjK (T:Txt mg)(D:zm K mg "joined" ZF ["groups","cells"] f fd):qt P w K mg base CX0 1 f fd ["groups","cells"] zlk:=by
 refine D.F.ok Qm (fun vs H Q E h=>?_) (fun aK A aI s H vs Q E hr h=>?_)
 ·obtain⟨ga,ca,ws,us,k,d,B,rfl,_⟩:=h;rfl
 ·obtain⟨ga,ca,ws,us,k,d,B,rfl,ax,hG,M,hC,aA,aB,cB,gB,B8,al,an,q1,q2⟩:=h;have am:d.length<=63:=X6 (Parts.yr aA cB) al;have ae:k.flatten.length<=63:=X6 (Parts.yr aB gB) al;refine⟨_,(zd (jc (zG (jZ hr.units) (pvS 1) (qc zb) (zQ _)) (zf (zI (pvS 0))) zZ)
   (zd (zv (i:=2) Qm.nd rfl (XM rfl) (qc zb))
   (zd (zv (i:=3) Qm.nd rfl (XM rfl) (jm zal (by rfl) T.ze4 Uk (za (pvS 1) zb)))
   (zd (qw W7 rfl (zM (pvS 0)) (zo (i:=4) Qm.nd rfl (Vm rfl)) (zf (jc (yZ (zq (zfB rfl) (by rfl) T.zlc Sq (za (qh (N:=["cell","group"]) (src:=[none,some 4]) (zR.free (O:=(zg ZF).names) (XN:=["groups","cells","apart","together","group"]) rfl rfl ⟨_,rfl⟩ rfl rfl (by decide +kernel) (by decide +kernel) (by decide +kernel) rfl (by decide +kernel)) rfl (zM (pvS 1)) (fun _ _ _ _ _=>(zo (i:=0) (by show W3 (["cell","group"]:List Str);decide +kernel) rfl (XM rfl))) (fun _ _ _ _ _=>qU) (fun _ _ _ _ _=>(Jx (j3 (K:=K) (by rfl) hr.units) (pvS 0) (pvS 1) (by rfl)))) zb)) (fun _=>rfl)) (zf (yk (xw WZ QR QQ zdJ (pvS 3) (za (pvS 4) zb)))) (zf (yk (xw WZ Wq Wp jw (pvS 2) (za (pvS 4) zb)))))))
   (zf (zI (zx Z3 (pvS 2) (qc (za (zq (ST.zds hr.hd) (by rfl) T.zcC Tr (za (jm (ST.zjp hr.units hr.hd) (by rfl) T.zqd PyProof.Rows.boot_set (za (pvS 3) zb)) zb)) zb))))))))),?_⟩
  refine⟨_,rfl,JX,fun e he=>?_⟩;have s1:zu H (upd H e (.lst [])):=ze he;refine⟨lD d,.list [],.lst (SqL.of (s1 _ _ M)) (ze7 (hC.mono s1)),.lst (SqL.of zc) .nil,ze6 _ [],_,rfl,?_⟩;have en:(if false=true then !PyData.eqv (lD d) (.list []) else W1 (lD d) (.list []))=d.isEmpty:=by
   show W1 _ _=_;exact eq_nil d
  rw[en];by_cases ac:d=[]
  ·rw[show d.isEmpty=true by rw[ac];rfl];exact YD ⟨_,rfl,q1 ac _ s1⟩
  rw[show d.isEmpty=false by rw[UZ];exact ac];refine Zp ?_;generalize upd H e (.lst [])=H1 at *
  refine⟨JX,fun ap au=>?_⟩;have s2:=s1.trans (ze (o:=.lst []) au);have ar:upd H1 ap (.lst []) ap=some (.lst []):=zc;have av:=s1.free au;generalize upd H1 ap (.lst [])=H2 at *
  refine⟨_,rfl,ca,_,rfl,.inl (SqL.of (s2 _ _ M)),fun tg ak=>?_⟩;have z3:=ze (o:=.lst us) ak;have s3:=s2.trans z3;have aD:=z3 _ _ ar;have aG:upd H2 tg (.lst us) tg=some (.lst us):=zc;have a4:=s2.free ak;have a7:ap≠tg:=zh ar ak;generalize upd H2 tg (.lst us)=H3 at *
  refine⟨_,rfl,ga,rfl,⟨_,SqL.of (s3 _ _ ax)⟩,?_⟩;refine yY (K:=K) (a:=ga) (xs:=ws) (fun i σ H'=>∃(ut:List V) (v4:Option V),σ=[some (.ref ga),some (.ref ca),some (.ref ap),some (.ref tg),v4]/\zu H H'/\H' ap=some (.lst (Zb (fun g=>!Parts.meets d g) (ws.take i) (k.take i)))/\H' tg=some (.lst ut)/\Cel H ut (d++((k.take i).filter (Parts.meets d)).flatten))
   ⟨us,_,rfl,s3,aD,aG,by simpa using hC⟩ (fun i σ H' _ ⟨_,_,_,z,_⟩=>SqL.of (z _ _ ax)) ?_ ?_
  ·rintro i x σ H4 hx ⟨ut,v4,rfl,s4,J,ai,n⟩;obtain⟨g,hg,ao,ug,rfl,af,ah⟩:=yM.get hG hx;have gm:=X4 hg;have tk:(k.take (i+1)).filter (Parts.meets d)=(k.take i).filter (Parts.meets d)++if Parts.meets d g=true then [g] else []:=by
    rw[Xx,hg,Xb];congr 1;show [g].filter _=_;rw[WV];rfl
   have pk:=zhr (fun g=>!Parts.meets d g) hx hg;refine⟨_,rfl,ca,rfl,⟨_,SqL.of (s4 _ _ M)⟩,fun z hz=>?_⟩;refine qz (K:=K) (a:=ca) (xs:=us) (fun a=>a≠z) (d.map fun c=>some (.bool (g.any fun z=>decide (z=c)))) (fun σ=>∃u0,σ=[u0,some (.ref ao)]) hz (fun _ h=>h) ⟨_,rfl⟩ (by rw[Y1];exact hC.length.symm) (by rw[hC.length];exact X6 am (by decide)) (SqL.of (s4 _ _ M)) ?_ ?_
   ·rintro m v o σ H5 hv ho s5 _ ⟨u1,rfl⟩ Y Z aJ no;have r:=s4.trans s5;obtain⟨c,L,rc⟩:=Cel.get (hC.mono r) hv;have eo:=yy L ho;refine J5 ⟨_,rfl,_,rfl,zp c,g.map zp,rc.rdv,.lst (SqL.of (r _ _ af)) (ze7 (ah.mono r)),rfl,zga _,(by show 1<=60;decide),?_⟩;have ei:(if false=true then !(g.map zp).any (fun z=>W1 z (zp c)) else (g.map zp).any fun z=>W1 z (zp c))=g.any fun z=>decide (z=c):=ZK _ _;rw[ei];exact aJ _ _ _ _ eo ⟨_,rfl⟩ (zu.refl _) (.bl _)
   ·rintro ys H5 s5 a6 a3;rw[ZI,show (d.map fun c=>S5 (g.any fun z=>decide (z=c)))=(d.map fun c=>g.any fun z=>decide (z=c)).map S5 by rw[WM];rfl] at a3;rw[zC.bools a3] at a6;refine⟨z,_,rfl,SqL.of a6,_,rfl,?_⟩;rw[zjJ];have r:=s4.trans s5;have u:=s5 _ _ J;have aj:=s5 _ _ ai;have aq:∀(q:List (Nat×Nat)->Bool) (j:Nat),(((k.take j).filter q).flatten).length<=63:=fun q j=>by
     refine X6 (Vz ?_) ae;refine List.Sublist.trans (Parts.jf q (k.take j)) ?_;have e2:k=k.take j++k.drop j:=(Wy j k).symm;conv=>rhs;rw[e2,Ws]
     exact Tq _ _
    by_cases hp:Parts.meets d g=true
    ·refine jX hp ?_;refine⟨_,rfl,.inl ⟨rfl,_,SqL.of aj⟩,_,rfl,tg,ao,ut,ug,rfl,rfl,aj,r _ _ af,?_,?_⟩
     ·rw[n.length,ah.length,XW];have a1:=aq (Parts.meets d) i;have a2:g.length<=63:=X6 (Vz (VH gm)) ae;exact X6 (show _<=200 by lia) (by decide)
     ·refine⟨ut++ug,_,rfl,fun b o eb=>?_,?_,zc,?_⟩
      ·rw[zj (zh eb a4)];exact r _ _ eb
      ·rw[zj a7,pk,hp];simpa using u
      ·rw[tk,if_pos hp,Ws,<- WY];simpa using Cel.append n ah
    ·have az:=XB.mpr hp;refine jE az ?_;refine⟨_,rfl,.inl ⟨rfl,_,SqL.of u⟩,_,rfl,ap,_,_,rfl,rfl,u,?_,?_⟩
     ·refine XI (Vz ((ZM _ _ _).trans (UQ _ _))) ?_;rw[hG.length];exact XI an (by decide)
     ·refine⟨ut,_,rfl,fun b o eb=>?_,?_,?_,?_⟩
      ·rw[zj (zh eb av)];exact r _ _ eb
      ·rw[zc,pk,az];rfl
      ·rw[zj (U9 a7)];exact aj
      ·rw[tk,if_neg hp,Xc];exact n
  ·rintro σ H4 ⟨ut,v4,rfl,s4,J,ai,n⟩;rw[Xz,hG.length,Xz] at J;rw[hG.length,Xz] at n;generalize hl:d++(k.filter (Parts.meets d)).flatten=l at n;have lB:∀x∈l,x∈B:=fun x hx=>by
    rw[<- hl] at hx;rcases XF.mp hx with hx | hx
    ·exact cB x hx
    ·exact gB x ((Parts.jf _ k).subset hx)
   refine⟨_,rfl,_,rfl,tg,ut,_,rfl,SqL.of ai,Cel.tup2 (n.mono s4),(fun p hp=>?_),(fun m hm hs=>?_),fun ds I aE hT G ag=>?_⟩
   ·obtain⟨x,hx,rfl⟩:=Xv.mp hp;have:=B8 x (lB x hx);unfold ST.InB toI;show (0<=((x.1:Nat):Int)/\((x.1:Nat):Int)<8)/\(0<=((x.2:Nat):Int)/\((x.2:Nat):Int)<8);lia
   ·have h1:=ze8 hs;have h2:(m.map ofI).Nodup:=by
     rw[h1] at hm;unfold W3 at hm ⊢;rw[VX] at hm;exact hm.imp fun z e=>z (by rw[e])
    have h3:=Parts.yr (b:=B) h2 fun x hx=>by
     obtain⟨c,L,rfl⟩:=Xv.mp hx;obtain⟨y,hy,rfl⟩:=Xv.mp (hs c L);exact lB y hy
    rw[Y1] at h3;lia
   have z5:=ze (o:=ST.zfQ P w ds I) aE;have U:∀c∈I.map (·.2),c∈l.map toI:=fun c L=>(ag c).mp L;have kl:I.length<=63:=by
    have h1:=ze8 U;have h2:((I.map (·.2)).map ofI).Nodup:=by
     rw[h1] at G;unfold W3 at G ⊢;rw[VX] at G;exact G.imp fun z e=>z (by rw[e])
    have h3:=Parts.yr (b:=B) h2 fun x hx=>by
     obtain⟨c,L,rfl⟩:=Xv.mp hx;obtain⟨y,hy,rfl⟩:=Xv.mp (U c L);exact lB y hy
    rw[Y1,Y1] at h3;lia
   have aw:upd H4 ds (ST.zfQ P w ds I) ds=some (ST.zfQ P w ds I):=zc;have s5:=s4.trans z5;have u:=z5 _ _ J;have aC:∀q∈I,upd H4 ds (ST.zfQ P w ds I) q.1=some (.tup [.int q.2.1,.int q.2.2]):=fun q hq=>z5 _ _ (hT q hq);refine⟨ds,I,rfl,aw,aC,G,(by lia),fun wa a8 aM a5 ht a9 aH=>?_⟩;rw[ze8 U] at a9;obtain⟨wc,rfl,aa⟩:=zmX a9;have z6:=ze (o:=.lst a8) a5;refine⟨sz_1,fun p1 aF=>?_⟩;have z7:=ze (o:=.lst [V.ref wa]) aF;have ab:=z6.trans z7;refine⟨ap,p1,_,[.ref wa],rfl,rfl,ab _ _ u,zc,?_,fun k2 ay=>?_⟩
   ·have a1:(Zb (fun g=>!Parts.meets d g) ws k).length<=63:=X6 (Vz (ZM _ _ _)) (by rw[hG.length];exact an);exact X6 (show _+1<=200 by lia) (by decide)
   ·have z8:=ze (o:=.lst (Zb (fun g=>!Parts.meets d g) ws k++[.ref wa])) ay;have s8:=s5.trans (ab.trans z8);refine q2 ac k2 wa _ wc _ ((s5.trans ab).free ay) (s5.free a5) zc (ZM _ _ _) ?_ (zoS aH) (fun x=>?_) s8
    ·exact yM.snoc ((QW _ hG).mono s8) ⟨wa,a8,rfl,z8 _ _ (z7 _ _ zc),Cel.mono (ab.trans z8) (yR ht)⟩
    ·rw[aa.mem_iff,Xv];have hx:(∃a,a∈I.map (·.2)/\ofI a=x)↔x∈l:=by
      constructor
      ·rintro⟨c,L,rfl⟩;obtain⟨y,hy,rfl⟩:=Xv.mp (U c L);exact hy
      ·intro h;exact⟨toI x,(ag _).mpr (Xv.mpr ⟨x,h,rfl⟩),rfl⟩
     rw[hx,<- hl,XF,Wr];constructor
     ·rintro(h | ⟨g,h1,h2⟩)
      ·exact .inl h
      ·exact .inr ⟨g,(XX.mp h1).1,(XX.mp h1).2,h2⟩
     ·rintro(h | ⟨g,h1,h2,h3⟩)
      ·exact .inl h
      ·exact .inr ⟨g,XX.mpr ⟨h1,h2⟩,h3⟩
def zmY:Sp:=fun g H Q _=>∃(p l:Addr) (c:List Str) (n:Int),g=[.ref p]/\zY H p l c n/\Rows bd.cps.toList c /\
 ∀(d:Addr) (e:List V) (f:List (List (Nat×Nat))) (b:Hp),H d=none->b d=some (.lst e)->yM b e f->e.Nodup->(∀v∈e,∃a,v=V.ref a/\H a=none/\a≠d)->Parts.Good (clA c) (qk c) f->Up2 (heads f)->zu H b->Q (.ref d) b
theorem zhs {rs:List Str}(R:Rows bd.cps.toList rs){x:Nat×Nat}(h:x∈zP rs):x.1<8/\x.2<8:=by
 obtain⟨t,k,c,d,_,_⟩:=qm h;have a:=(XZ.mp c).1;have b:=(XZ.mp d).1;have e:=R.hi;have g:=R.short _ (X4 (jR c));lia
theorem yM.some {H:Hp}{c:List V}{gs:List (List (Nat×Nat))}(h:yM H c gs):∀v∈c,∃a b,v=V.ref a/\H a=some (.lst b):=by
 intro v d;obtain⟨_,_,a,b,e,h1,_⟩:=zkm h d;exact⟨a,b,e,h1⟩
theorem zll {H:Hp}{b:List V}{gs:List (List (Nat×Nat))}(h:yM H b gs):WU (GS.LstAt H) b (gs.map (UD toI)):=by
 induction h with
 | nil=>exact .nil
 | cons r _ c =>
  obtain⟨a,d,e,h1,h2⟩:=r;exact .cons ⟨a,d,e,h1,h2.tup2⟩ c
theorem zlm {H:Hp}:∀{gs:List (List (Nat×Nat))} {b:List V},WU (GS.LstAt H) b (gs.map (UD toI))->yM H b gs:=by
 intro gs;induction gs with
 | nil =>
  intro b h;cases h;exact .nil
 | cons g r c =>
  intro b h;cases h with
  | cons q t =>
   obtain⟨a,d,e,h1,h2⟩:=q;exact .cons ⟨a,d,e,h1,yR h2⟩ (c t)
theorem zgb {ks:List (List (Int×Int))}{gs:List (List (Nat×Nat))}(h:ks.Perm (gs.map (UD toI))):∃a:List (List (Nat×Nat)),ks=a.map (UD toI)/\a.Perm gs:=by
 have b:∀g:List (Nat×Nat),(g.map toI).map ofI=g:=fun g=>by
  rw[WM];exact(Xh fun c _=>ziF c).trans (R7 g)
 refine⟨ks.map (UD ofI),?_,?_⟩
 ·rw[WM];refine(R7 ks).symm.trans (Xh fun p d=>?_);obtain⟨c,_,rfl⟩:=Xv.mp (h.mem_iff.mp d);show c.map toI=((c.map toI).map ofI).map toI;rw[b]
 ·have:=h.map (UD ofI);rw[WM] at this;have e:gs.map (UD ofI∘UD toI)=gs:=(Xh fun c _=>b c).trans (R7 gs);rwa [e] at this
theorem zln {gs:List (List (Nat×Nat))}(h:(gs.map (UD toI)).Pairwise (fun p q=>PySem.SeqAt.ltL q p=false))(j:∀g∈gs,g ≠ [])(u:(heads gs).Nodup):Up2 (heads gs):=by
 induction gs with
 | nil=>exact List.Pairwise.nil
 | cons g r n =>
  rw[Xe,RF] at h;have d:toI (g.headD (0,0)) ∉ heads r/\(heads r).Nodup:=VM.mp u;refine RF.mpr ⟨fun p l=>?_,n h.2 (fun x m=>j x (XT _ m)) d.2⟩;obtain⟨f,c,rfl⟩:=Xv.mp l;have a:=h.1 _ (Xv.mpr ⟨f,c,rfl⟩);have i:toI (g.headD (0,0))≠toI (f.headD (0,0)):=fun e=>d.1 (e ▸ l);have o:=j g XS;have s:=j f (XT _ c);cases g with
  | nil=>exact absurd rfl o
  | cons x v =>
   cases f with
   | nil=>exact absurd rfl s
   | cons y w =>
    have b:toI x≠toI y:=i;show lt2 (toI x) (toI y)=true;have k:(if toI y=toI x then PySem.SeqAt.ltL (w.map toI) (v.map toI) else lt2 (toI y) (toI x))=false:=a;rw[if_neg (U9 b)] at k;have:=zbS b;rw[k] at this;cases hh:lt2 (toI x) (toI y) with
    | true=>rfl
    | false =>
     rw[hh] at this;cases this
theorem zaH:zF ["board","found","cell"] ["board"] (zg zbZ):=⟨rfl,rfl,rfl,by decide +kernel,rfl,by decide +kernel,by decide +kernel⟩
theorem zgc {f1 f2 f3 f4 f5 f6:Addr}{ai aj ak al am an:Xo}(T:Txt mg)(D:zm K mg "parts" zbZ ["board"] f fd)(zT:zm K mg "around" j9 ["board","cell"] f1 ai)(zw:zm K mg "sign_at" qQ ["board","cell"] f2 aj)
  (zB:zm K mg "cells_of" qF ["board"] f3 ak) (zE:zm K mg "open_cells" qy ["board"] f4 al) (zU:zm K mg "closed_around" qS ["board","cell"] f5 am) (ZN:zm K mg "joined" ZF ["groups","cells"] f6 an):qt P w K mg base CX0 3 f fd ["board"] zmY:=by
 refine D.F.ok zaH (fun vs H Q E h=>?_) (fun a5 A ax s H vs Q E hr h=>?_)
 ·obtain⟨p,l,j,n,rfl,_⟩:=h;rfl
 ·obtain⟨p,l,j,n,rfl,b,R,q⟩:=h;refine⟨_,(zd (zv (i:=1) zaH.nd rfl (XM rfl) (qc zb))
   (zd (qw W7 rfl (zM (pc0 (xZ T zE zB zw) hr zE (za (pvS 0) zb))) (zo (i:=2) zaH.nd rfl (XM rfl)) (zf (zv (i:=1) zaH.nd rfl (XM rfl) (pc0 (zjK T ZN) hr ZN (za (pvS 1) (za (pc0 (ZJ T zU zT zw) hr zU (za (pvS 0) (za (pvS 2) zb))) zb))))))
   (zf (zI (zq (GS.QB hr.units) (by rfl) T.zcC Tr (za (pvS 1) zb)))))),?_⟩
  refine⟨JX,fun k0 av=>?_⟩;have s0:zu H (upd H k0 (.lst [])):=ze av;have ac:upd H k0 (.lst []) k0=some (.lst []):=zc;generalize upd H k0 (.lst [])=H0 at *
  refine⟨_,rfl,p,l,j,n,rfl,b.mono s0,R,fun dc wc H1 a7 ah J s1=>⟨dc,rfl,⟨_,SqL.of ah⟩,?_⟩⟩;have M:=s0.trans s1;have b1:=b.mono M;have J:Cel H1 wc (qk j):=J;have a9:=zd8 R;refine yY (K:=K) (a:=dc) (xs:=wc) (fun i σ H'=>∃(k:Addr) (U:List V) (I:List (List (Nat×Nat))) (v2:Option V),σ=[some (.ref p),some (.ref k),v2]/\zu H1 H'/\H' k=some (.lst U)/\yM H' U I/\U.Nodup/\(∀v∈U,∃a,v=V.ref a/\H a=none)/\Parts.Good (clA j) ((qk j).take i) I)
   ⟨k0,[],[],_,rfl,zu.refl _,s1 _ _ ac,.nil,SN,(fun v h=>nomatch h),Parts.Good.start _⟩ (fun i σ H' _ ⟨_,_,_,_,_,z,_⟩=>SqL.of (z _ _ ah)) ?_ ?_
  ·rintro i x σ H2 L ⟨k,U,I,v2,rfl,Y,hk,hG,O,m,G⟩;obtain⟨c,hc,ca,rfl,ar⟩:=Cel.get (Cel.mono Y J) L;have cm:=X4 hc;obtain⟨t,sg,ht,hj,_,es⟩:=qm cm;obtain⟨l1,l2⟩:=JU R ht hj;have tk:(qk j).take (i+1)=(qk j).take i++[c]:=by
    rw[Xx,hc];rfl
   have y:(zP j).length<=63:=by
    have:=Ul cm;lia
   have gB:∀x∈I.flatten,x∈zP j:=fun x L=>by
    obtain⟨o,_,h2⟩:=G.from_ x L;exact ZL h2
   refine⟨_,rfl,_,rfl,_,rfl,p,l,ca,j,n,c,rfl,(b1.mono Y),R,ar,l1,l2,fun d az H3 hd au aq B=>?_⟩;have ay:=M.trans (Y.trans B);refine⟨k,d,U,az,I,clA j c,zP j,rfl,B _ _ hk,hG.mono B,au,aq,zd9 j c,G.nd,(fun x L=>ZL L),gB,(fun x L=>zhs R L),y,X6 (Parts.YN G.ne) (X6 (Parts.yr G.nd gB) y),(fun a2 H' s'=>?_),fun aw d2 wa va aA H' a6 ag ab u ap a3 ae s'=>?_⟩
   ·refine⟨k,U,I,_,rfl,Y.trans (B.trans s'),s' _ _ (B _ _ hk),(hG.mono B).mono s',O,m,?_⟩;rw[tk];exact G.skip a2
   ·refine⟨d2,_,_,_,rfl,Y.trans (B.trans s'),ab,ap,?_,(fun v hv=>?_),?_⟩
    ·rw[VW];refine⟨O.sublist u,by simp,fun a ha b hb e=>?_⟩;have aa:b=V.ref wa:=by simpa using hb
     subst e;obtain⟨a',N,e1,e2⟩:=yM.some (hG.mono B) a (u.subset ha);rw[aa] at e1;injection e1 with e1
     rw[<- e1,ag] at e2;cases e2
    ·rcases XF.mp hv with hv | hv
     ·exact m v (u.subset hv)
     ·have aa:v=V.ref wa:=by simpa using hv
      exact⟨wa,aa,ay.free ag⟩
    ·rw[tk];exact zhq G aw (zd9 j c) a3 ae
  ·rintro σ H2 ⟨k,U,I,v2,rfl,Y,hk,hG,O,m,G⟩;rw[J.length,Xz] at G;have ao:∀x∈I.flatten,x∈zP j:=fun x L=>by
    obtain⟨o,_,h2⟩:=G.from_ x L;exact ZL h2
   have wl:I.length<=63:=by
    cases I with
    | nil=>exact W5 _
    | cons g r =>
     have m1:=head_mem (G.ne g XS);obtain⟨o,ho,_⟩:=G.from_ _ (Wr.mpr ⟨g,XS,m1⟩);have:=Ul ho;have h3:=X6 (Parts.YN G.ne) (Parts.yr (b:=zP j) G.nd ao);lia
   refine⟨_,rfl,k,U,_,rfl,SqL.of hk,zll hG,(by rw[hG.length];lia),fun d N a8 hd hl a1 a4 pw=>?_⟩;have B:=ze (o:=.lst N) hd;obtain⟨ds,rfl,pg⟩:=zgb a1;have G':=G.perm pg;refine q d N ds _ ((M.trans Y).free hd) zc ((zlm hl).mono B) (pw.nodup_iff.mpr O) (fun v hv=>?_) G' (zln a4 G'.ne (zbx G'.ne G'.nd)) ((M.trans Y).trans B);have af:=pw.mem_iff.mp hv;obtain⟨a,e1,e2⟩:=m v af;obtain⟨a',N,e3,e4⟩:=yM.some hG v af;refine⟨a,e1,e2,fun z=>?_⟩;rw[e1] at e3;injection e3 with e3
   rw[<- e3,z,hd] at e4;cases e4
def pD (p:Int×Int):Wi:=.tuple [.int p.1,.int p.2]
theorem zlo (p q:Int×Int):W1 (pD p) (pD q)=decide (p=q):=PySem.SeqAt.zdN p q
def PR (H:Hp)(v:V)(p:Int×Int):Prop:=∃a,v=V.ref a/\H a=some (.tup [.int p.1,.int p.2])
theorem PR.mono {H b:Hp}(s:zu H b){v:V}{p:Int×Int}(h:PR H v p):PR b v p:=let ⟨a,e,h⟩:=h;⟨a,e,s _ _ h⟩
theorem jS {H a:Hp}(s:zu H a){b:List V}{ps:List (Int×Int)}(c:xu H b ps):xu a b ps:=by
 induction c with
 | nil=>exact .nil
 | cons h _ d =>
  exact .cons (PR.mono s h) d
theorem zcI {H:Hp}{a:List V}{ps:List (Int×Int)}(h:xu H a ps):a.length=ps.length:=Paired.length h
theorem PR.rdv {K:X5}{H:Hp}{v:V}{p:Int×Int}(h:PR H v p):Rdv K H v (pD p):=by
 obtain⟨a,rfl,h⟩:=h;exact .tup (SqT.of h) (.cons (.int _) (.cons (.int _) .nil))
theorem zaI {K:X5}{H:Hp}{a:List V}{ps:List (Int×Int)}(b:xu H a ps):xA K H a (ps.map pD):=by
 induction b with
 | nil=>exact .nil
 | cons h _ c =>
  exact .cons (PR.rdv h) c
theorem zcJ:∀ps:List (Int×Int),Wu (ps.map pD)=true
 | []=>rfl
 | p::r=>by
  show (Vk (pD p)&&Wu (r.map pD))=true;rw[zcJ r];rfl
theorem zgd:∀ps:List (Int×Int),WI (ps.map pD)<=1
 | []=>W5 _
 | p::r=>by
  show max (PyData.depth (pD p)) (WI (r.map pD))<=1;have:=zgd r;have e:PyData.depth (pD p)=1:=rfl;lia
theorem zoU (ps:List (Int×Int))(p:Int×Int):(ps.map pD).any (fun z=>W1 z (pD p))=ps.any fun z=>decide (z=p):=by
 rw[Ur];congr 1;funext z;exact zlo z p
theorem zht (ps:List (Int×Int))(c:Nat×Nat):(ps.map pD).any (fun z=>W1 z (zp c))=ps.any fun z=>decide (z=toI c):=zoU ps (toI c)
theorem zlp {H:Hp}{a z:Addr}{o d:HO}(h:H a=some o)(c:H z=some d)(b:o≠d):a≠z:=fun e=>by
 subst e;rw[h] at c;exact b (Option.some.inj c)
theorem zmZ {H:Hp}{z:Addr}{ys b:List V}(c:H z=some (.lst ys)){v:V}{p:Int×Int}(h:PR H v p):PR (upd H z (.lst b)) v p:=by
 obtain⟨a,e,h⟩:=h;refine⟨a,e,?_⟩;rw[zj (zlp h c (fun z=>nomatch z))];exact h
theorem yS {H:Hp}{z:Addr}{ys a:List V}(d:H z=some (.lst ys)){b:List V}{ps:List (Int×Int)}(c:xu H b ps):xu (upd H z (.lst a)) b ps:=by
 induction c with
 | nil=>exact .nil
 | cons h _ e =>
  exact .cons (zmZ d h) e
def jB (N:Addr->Prop)(H:Hp):List V->List (List (Int×Int))->Prop:=WU fun v k=>∃a b,v=V.ref a/\N a/\H a=some (.lst b)/\xu H b k
theorem qd {N:Addr->Prop}{H b:Hp}(s:zu H b){c:List V}{ks:List (List (Int×Int))}(d:jB N H c ks):jB N b c ks:=by
 induction d with
 | nil=>exact .nil
 | cons q _ f =>
  obtain⟨a,g,e,n,h,t⟩:=q;exact .cons ⟨a,g,e,n,s _ _ h,jS s t⟩ f
theorem QX {N M:Addr->Prop}{H:Hp}(w:∀a,N a->M a){b:List V}{ks:List (List (Int×Int))}(c:jB N H b ks):jB M H b ks:=by
 induction c with
 | nil=>exact .nil
 | cons q _ d =>
  obtain⟨a,f,e,n,h,t⟩:=q;exact .cons ⟨a,f,e,w a n,h,t⟩ d
theorem xF {N:Addr->Prop}{H:Hp}{z:Addr}{ys b:List V}(f:H z=some (.lst ys))(w:∀a,N a->a≠z){c:List V}{ks:List (List (Int×Int))}(d:jB N H c ks):jB N (upd H z (.lst b)) c ks:=by
 induction d with
 | nil=>exact .nil
 | cons q _ g =>
  obtain⟨a,i,e,n,h,t⟩:=q;exact .cons ⟨a,i,e,n,by rw[zj (w a n)];exact h,yS f t⟩ g
theorem ZO {N:Addr->Prop}{H:Hp}{c:List V}{ks:List (List (Int×Int))}{b:List V}{a:List (List (Int×Int))}(h:jB N H c ks)(k:jB N H b a):jB N H (c++b) (ks++a):=zaY h k
theorem jo {N:Addr->Prop}{H:Hp}{a:List V}{ks:List (List (Int×Int))}(h:jB N H a ks):a.length=ks.length:=Paired.length h
theorem ZP {N:Addr->Prop}{H:Hp}{c:List V}{ks:List (List (Int×Int))}{i:Nat}{v:V}(h:jB N H c ks)(e:c[i]?=some v):∃k a b,ks[i]?=some k/\v=V.ref a/\N a/\H a=some (.lst b)/\xu H b k:=by
 obtain⟨k,h1,a,b,h2⟩:=zcf h e;exact⟨k,a,b,h1,h2⟩
theorem zjM {N:Addr->Prop}{H:Hp}{b:List V}{ks:List (List (Int×Int))}(c:jB N H b ks):WU (GS.LstAt H) b ks:=by
 induction c with
 | nil=>exact .nil
 | cons q _ d =>
  obtain⟨a,f,e,_,h,t⟩:=q;exact .cons ⟨a,f,e,h,t⟩ d
theorem zlq {N:Addr->Prop}{H:Hp}{c:List V}{ks:List (List (Int×Int))}(f:WU (GS.LstAt H) c ks)(n:∀v∈c,∃a,v=V.ref a/\N a):jB N H c ks:=by
 induction f with
 | nil=>exact .nil
 | cons q _ i =>
  obtain⟨a,k,e,h,t⟩:=q;obtain⟨b,d,j⟩:=n _ XS;subst e;cases d;exact .cons ⟨_,k,rfl,j,h,t⟩ (i fun v g=>n v (XT _ g))
theorem Qo {N:Addr->Prop}{H:Hp}{c:List V}{ks:List (List (Int×Int))}{v:V}(h:jB N H c ks)(e:v∈c):∃a b,v=V.ref a/\N a/\H a=some (.lst b):=by
 obtain⟨k,_,a,b,h1,h2,d,_⟩:=zkm h e;exact⟨a,b,h1,h2,d⟩
theorem zcK {H:Hp}{c:List V}{ps:List (Int×Int)}{b:List V}{a:List (Int×Int)}(h:xu H c ps)(k:xu H b a):xu H (c++b) (ps++a):=zaY h k
def nearF (rs:List Str)(c x:Nat×Nat):Bool:=(zJ rs c).any fun z=>decide (z=x)
def jF (rs:List Str)(c:Nat×Nat):Int:=((Cells.sgn (codes rs) c:Nat):Int)-48
theorem zjN (rs:List Str)(c:Nat×Nat):(zJ rs c).Nodup:=(xE (Cells.Qd _ 0 (codes rs))).sublist Wg
theorem zlr {rs:List Str}{o:Nat×Nat}{q:List (Nat×Nat)}(b:q.Nodup):((zJ rs o).filter fun x=>q.any fun z=>decide (z=x)).length=Grow.cnt (nearF rs) o q:=by
 unfold Grow.cnt;refine OK ((Vx ((zjN rs o).sublist Wg) (b.sublist Wg)).mpr fun x=>?_);rw[XX,XX];unfold nearF;rw[Wn,Wn];constructor
 ·rintro⟨h1,y,hy,e⟩;have a:y=x:=of_decide_eq_true e;subst a;exact⟨hy,y,h1,decide_eq_true rfl⟩
 ·rintro⟨h1,y,hy,e⟩;have a:y=x:=of_decide_eq_true e;subst a;exact⟨hy,y,h1,decide_eq_true rfl⟩
def zge (H:Hp)(rs:List Str)(v:V)(o:Nat×Nat):Prop:=∃a b c,v=V.ref a/\H a=some (.tup [.int (jF rs o),.ref b])/\H b=some (.lst c)/\Cel H c (zJ rs o)
def zgf (H:Hp)(rs:List Str)(b:List (Nat×Nat))(v:V)(o:Nat×Nat):Prop:=∃a c d,v=V.ref a/\H a=some (.tup [.int (jF rs o-((Grow.cnt (nearF rs) o b:Nat):Int)),.int (jF rs o),.ref c])/\H c=some (.lst d)/\Cel H d (zJ rs o)
theorem zjO {H b:Hp}(s:zu H b){rs:List Str}{vs:List V}{cs:List (Nat×Nat)}(f:WU (zge H rs) vs cs):WU (zge b rs) vs cs:=by
 induction f with
 | nil=>exact .nil
 | cons q _ g =>
  obtain⟨a,h,i,e,h1,c,d⟩:=q;exact .cons ⟨a,h,i,e,s _ _ h1,s _ _ c,d.mono s⟩ g
theorem zbe {H c:Hp}(s:zu H c){rs:List Str}{b:List (Nat×Nat)}{vs:List V}{cs:List (Nat×Nat)}(g:WU (zgf H rs b) vs cs):WU (zgf c rs b) vs cs:=by
 induction g with
 | nil=>exact .nil
 | cons q _ h =>
  obtain⟨a,i,j,e,h1,d,f⟩:=q;exact .cons ⟨a,i,j,e,s _ _ h1,s _ _ d,f.mono s⟩ h
theorem Zz {α a:Type}{R:α->a->Prop}{vs:List α}{cs:List a}{i:Nat}{v:α}(h:WU R vs cs)(e:vs[i]?=some v):∃c,cs[i]?=some c/\R v c:=zcf h e
theorem zhu {α c:Type}{R:α->c->Prop}{d:List α}{cs:List c}{b:List α}{a:List c}(h:WU R d cs)(k:WU R b a):WU R (d++b) (cs++a):=zaY h k
def zeb (H e:Hp)(rs:List Str)(b:List (Nat×Nat))(v:V)(o:Nat×Nat):Prop:=∃a c d,v=V.ref a/\e a=some (.tup [.int (jF rs o-((Grow.cnt (nearF rs) o b:Nat):Int)),.int (jF rs o),.ref c])/\H c=some (.lst d)/\Cel H d (zJ rs o)
theorem zhv {H c d:Hp}(s:zu c d){rs:List Str}{b:List (Nat×Nat)}{vs:List V}{cs:List (Nat×Nat)}(h:WU (zeb H c rs b) vs cs):WU (zeb H d rs b) vs cs:=by
 induction h with
 | nil=>exact .nil
 | cons q _ i =>
  obtain⟨a,j,k,e,h1,f,g⟩:=q;exact .cons ⟨a,j,k,e,s _ _ h1,f,g⟩ i
theorem zcL {H c:Hp}{z:Addr}{ys f:List V}(d:c z=some (.lst ys)){rs:List Str}{b:List (Nat×Nat)}:∀{vs:List V} {cs:List (Nat×Nat)},WU (zeb H c rs b) vs cs->WU (zeb H (upd c z (.lst f)) rs b) vs cs
 | _,_,.nil=>.nil
 | _,_,.cons ⟨a,i,k,e,h1,g,h⟩ t=>.cons ⟨a,i,k,e,by
   have j:a≠z:=fun e=>by
    subst e;rw[h1] at d;cases d
   rw[zj j];exact h1,g,h⟩ (zcL d t)
theorem zhw {H c:Hp}(s:zu H c){rs:List Str}{b:List (Nat×Nat)}{vs:List V}{cs:List (Nat×Nat)}(g:WU (zeb H c rs b) vs cs):WU (zgf c rs b) vs cs:=by
 induction g with
 | nil=>exact .nil
 | cons q _ h =>
  obtain⟨a,i,j,e,h1,d,f⟩:=q;exact .cons ⟨a,i,j,e,h1,s _ _ d,f.mono s⟩ h
def zm0:Sp:=fun l H Q _=>∃(h f g:Addr) (j i:List V) (e:List Str) (O a:List (Nat×Nat)) (c:Nat×Nat),l=[.ref h,.ref f,.ref g]/\H h=some (.lst j)/\WU (zge H e) j O/\O.length<=64/\Rows bd.cps.toList e/\H f=some (.tup [.int (c.1:Nat),.int (c.2:Nat)])/\H g=some (.lst i)/\Cel H i a/\a.Nodup /\
 ∀(d:Addr) (k:List V) (b:Hp),b d=some (.lst k)->WU (zgf b e a) k (O.filter fun o=>nearF e o c)->zu H b->Q (.ref d) b
def zqj:Sp:=fun f H Q _=>∃(d e:Addr) (un up:List V) (b:List Str) (a O q:List (Nat×Nat)),f=[.ref d,.ref e]/\H d=some (.lst un)/\WU (zgf H b a) un O/\H e=some (.lst up)/\Cel H up q/\q.length<=64 /\
 ∀c:Hp,zu H c->Q (.bl (O.all fun o=>Grow.zcv (nearF b) (jF b) a o q)) c
theorem Jg:zF ["told","cell","rest","needs","number","near","left"] ["told","cell","rest"] (zg yL):=⟨rfl,rfl,rfl,by decide +kernel,rfl,by decide +kernel,by decide +kernel⟩
theorem zgg (T:Txt mg)(D:zm K mg "needs_at" yL ["told","cell","rest"] f fd):qt P w K mg base CX0 1 f fd ["told","cell","rest"] zm0:=by
 refine D.F.ok Jg (fun vs H Q E h=>?_) (fun an A aj s H vs Q E hr h=>?_)
 ·obtain⟨ta,ca,ra,ut,ur,j,O,g,c,rfl,_⟩:=h;rfl
 ·obtain⟨ta,ca,ra,ut,ur,j,O,g,c,rfl,ab,hT,ol,R,af,ah,ag,ak,q⟩:=h;refine⟨_,(zd (zv (i:=3) Jg.nd rfl (XM rfl) (qc zb))
   (zd (qw W7 rfl (zM (pvS 0)) (JJ rfl (zV (zo (i:=4) Jg.nd rfl (XM rfl)) (zV (zo (i:=5) Jg.nd rfl (XM rfl)) yp))) (zf (jc (zG (zca hr.units) (pvS 1) (pvS 5) (by rfl)) (zd (zv (i:=6) Jg.nd rfl (XM rfl) (zq zH (by rfl) T.jz WX (za (qh (N:=["place","rest"]) (src:=[none,some 2]) (zR.free (O:=(zg yL).names) (XN:=["told","cell","rest","needs","number","near","left"]) rfl rfl ⟨_,rfl⟩ rfl rfl (by decide +kernel) (by decide +kernel) (by decide +kernel) rfl (by decide +kernel)) rfl (zM (pvS 5)) (fun _ _ _ _ _=>(zo (i:=0) (by show W3 (["place","rest"]:List Str);decide +kernel) rfl (XM rfl))) (fun _ _ _ _ _=>(qg (zG (j3 (K:=K) (by rfl) hr.units) (pvS 0) (pvS 1) (by rfl)))) (fun _ _ _ _ _=>(pvS 0))) zb)))
   (zf (yk (xw WZ Wq Wp jw (pvS 3) (za (jy (za (zx xV (pvS 4) (pvS 6)) (za (pvS 4) (za (pvS 5) zb)))) zb))))) zZ)))
   (zf (zI (pvS 3))))),?_⟩
  refine⟨JX,fun d hd=>?_⟩;have s0:=ze (o:=.lst []) hd;refine⟨_,rfl,ta,rfl,⟨_,SqL.of (s0 _ _ ab)⟩,?_⟩;refine yY (K:=K) (a:=ta) (xs:=ut) (fun i J H'=>∃(p:List V) (v4 v5 v6:Option V),J=[some (.ref ta),some (.ref ca),some (.ref ra),some (.ref d),v4,v5,v6]/\zu H H'/\H' d=some (.lst p)/\WU (zeb H H' j g) p ((O.take i).filter fun o=>nearF j o c))
   ⟨[],_,_,_,rfl,s0,zc,.nil⟩ (fun i J H' _ ⟨_,_,_,_,_,z,_⟩=>SqL.of (z _ _ ab)) ?_ ?_
  ·rintro i x J H1 hx ⟨p,v4,v5,v6,rfl,s1,l,L⟩;obtain⟨o,ho,a,na,wn,rfl,ae,y,r⟩:=Zz hT hx;have ha:=s1 _ _ ae;have G:=s1 _ _ y;have k:=r.mono s1;have tk:O.take (i+1)=O.take i++[o]:=by
    rw[Xx,ho];rfl
   refine⟨a,_,rfl,SqT.of ha,rfl,_,_,rfl,_,_,rfl,rfl,?_⟩;refine⟨_,rfl,_,rfl,zp c,(zJ j o).map zp,Jf.rdv ⟨ca,rfl,s1 _ _ af⟩,.lst (SqL.of G) (ze7 k),rfl,zga _,(by show 1<=60;decide),_,rfl,?_⟩;have ei:(if false=true then !((zJ j o).map zp).any (fun z=>W1 z (zp c)) else ((zJ j o).map zp).any fun z=>W1 z (zp c))=nearF j o c:=ZK _ _;rw[ei,tk,Xb];by_cases n:nearF j o c=true
   ·have ef:[o].filter (fun o=>nearF j o c)=[o]:=by
     rw[WV,if_pos n];rfl
    rw[ef];refine jX n ⟨_,rfl,na,rfl,⟨_,SqL.of G⟩,fun z hz=>?_⟩;refine qz (K:=K) (a:=na) (xs:=wn) (fun a=>a≠z) ((zJ j o).map fun x=>if (g.any fun z=>decide (z=x))=true then some (zp x) else none) (fun J=>∃u0,J=[u0,some (.ref ra)]) hz (fun _ h=>h) ⟨_,rfl⟩ (by rw[Y1];exact k.length.symm) (by rw[k.length];exact X6 (Zj R o) (by decide)) (SqL.of G) ?_ ?_
    ·rintro m v u J H2 hv hu M _ ⟨u1,rfl⟩ Y Z am no;obtain⟨e,he,rc⟩:=Cel.get (k.mono M) hv;have eo:=yy he hu;refine⟨_,rfl,_,rfl,zp e,g.map zp,rc.rdv,.lst (SqL.of (M _ _ (s1 _ _ ah))) (ze7 ((ag.mono s1).mono M)),rfl,zga _,(by show 1<=60;decide),_,rfl,?_⟩;have ei:(if false=true then !(g.map zp).any (fun z=>W1 z (zp e)) else (g.map zp).any fun z=>W1 z (zp e))=g.any fun z=>decide (z=e):=ZK _ _;rw[ei];by_cases n:(g.any fun z=>decide (z=e))=true
     ·rw[if_pos n] at eo;exact jX n ⟨_,rfl,am _ _ _ _ eo ⟨_,rfl⟩ (zu.refl _) rc.rdn⟩
     ·rw[if_neg n] at eo;exact jE (XB.mpr n) (no _ _ eo ⟨_,rfl⟩ (zu.refl _))
    rintro ys H2 M ai aa;have er:((zJ j o).map fun x=>if (g.any fun z=>decide (z=x))=true then some (zp x) else none).filterMap id=((zJ j o).filter fun x=>g.any fun z=>decide (z=x)).map zp:=qq _ _ _;rw[er] at aa;have yl:ys.length=Grow.cnt (nearF j) o g:=(zC.cel aa).length.trans (zlr ak);have B:=M _ _ l;refine⟨z,ys,rfl,.inl (SqL.of ai),?_⟩;rw[yl];refine⟨_,rfl,.inl ⟨rfl,_,SqL.of B⟩,_,rfl,_,rfl,_,_,rfl,rfl,_,rfl,_,rfl,zk0,fun tt I=>?_⟩;have z3:=ze (o:=.tup [.int (jF j o-((Grow.cnt (nearF j) o g:Nat):Int)),.int (jF j o),.ref na]) I;have ac:=M.trans z3;have al:p.length<=64:=by
     rw[Paired.length L];refine X6 (Xm _ _) ?_;rw[XE];lia
    have U:=z3 _ _ B;refine⟨d,p,_,rfl,rfl,U,XI al (by decide),p++[.ref tt],_,_,_,rfl,fun b e' h'=>?_,zc,zhu (zcL U (zhv ac L)) (.cons ⟨tt,na,wn,rfl,?_,y,r⟩ .nil)⟩
    ·rw[zj (zh h' hd)];exact ac _ _ (s1 _ _ h')
    ·have ne:tt≠d:=fun e=>by
      subst e;rw[B] at I;cases I
     rw[zj ne,zc]
   ·have ef:[o].filter (fun o=>nearF j o c)=[]:=by
     rw[WV,if_neg n];rfl
    rw[ef,Xc];exact jE (XB.mpr n) ⟨p,_,_,_,rfl,s1,l,L⟩
  ·rintro J H1 ⟨p,v4,v5,v6,rfl,s1,l,L⟩;rw[Paired.length hT,Xz] at L;exact⟨_,rfl,q d p H1 l (zhw s1 L) s1⟩
theorem Yi:zF ["needs","pick","least","most","near"] ["needs","pick"] (zg xD):=⟨rfl,rfl,rfl,by decide +kernel,rfl,by decide +kernel,by decide +kernel⟩
theorem zhx (T:Txt mg)(D:zm K mg "may_fit" xD ["needs","pick"] f fd):qt P w K mg base CX0 1 f fd ["needs","pick"] zqj:=by
 refine D.F.ok Yi (fun vs H Q E h=>?_) (fun ae A ab s H vs Q E hr h=>?_)
 ·obtain⟨J,L,un,up,b,c,O,p,rfl,_⟩:=h;rfl
 ·obtain⟨J,L,un,up,b,c,O,p,rfl,n,hN,r,g,pl,q⟩:=h;refine⟨_,(zd (qw W7 rfl (zM (pvS 0)) (JJ rfl (zV (zo (i:=2) Yi.nd rfl (XM rfl)) (zV (zo (i:=3) Yi.nd rfl (XM rfl)) (zV (zo (i:=4) Yi.nd rfl (Vm rfl)) yp)))) (zf (jc (Zf (zfs ze0 ze0 (pvS 2) (zq zH (by rfl) T.jz WX (za (qh (N:=["cell","near"]) (src:=[none,some 4]) (zR.free (O:=(zg xD).names) (XN:=["needs","pick","least","most","near"]) rfl rfl ⟨_,rfl⟩ rfl rfl (by decide +kernel) (by decide +kernel) (by decide +kernel) rfl (by decide +kernel)) rfl (zM (pvS 1)) (fun _ _ _ _ _=>(zo (i:=0) (by show W3 (["cell","near"]:List Str);decide +kernel) rfl (XM rfl))) (fun _ _ _ _ _=>(qg (zG (j3 (K:=K) (by rfl) hr.units) (pvS 0) (pvS 1) (by rfl)))) (fun _ _ _ _ _=>(pvS 0))) zb)) (pvS 3))) (zf (zI Yv)) zZ)))
   (zf (zI Yv))),?_⟩
  refine⟨_,rfl,J,rfl,⟨_,SqL.of n⟩,?_⟩;refine yY (K:=K) (a:=J) (xs:=un) (fun i j H'=>∃(v2 v3 v4:Option V),j=[some (.ref J),some (.ref L),v2,v3,v4]/\zu H H'/\∀o∈O.take i,Grow.zcv (nearF b) (jF b) c o p=true)
   ⟨_,_,_,rfl,zu.refl _,fun o G=>by simp at G⟩ (fun i j H' _ ⟨_,_,_,_,z,_⟩=>SqL.of (z _ _ n)) ?_ ?_
  ·rintro i x j H1 hx ⟨v2,v3,v4,rfl,s1,d⟩;obtain⟨o,G,a,ra,wn,rfl,ha,U,M⟩:=Zz (zbe s1 hN) hx;refine⟨a,_,rfl,SqT.of ha,rfl,_,_,rfl,_,_,rfl,_,_,rfl,rfl,?_⟩;refine⟨_,rfl,_,rfl,L,rfl,⟨_,SqL.of (s1 _ _ r)⟩,fun z hz=>?_⟩;refine qz (K:=K) (a:=L) (xs:=up) (fun a=>a≠z) (p.map fun x=>if nearF b o x=true then some (zp x) else none) (fun j=>∃u0,j=[u0,some (.ref ra)]) hz (fun _ h=>h) ⟨_,rfl⟩ (by rw[Y1];exact g.length.symm) (by rw[g.length];exact X6 pl (by decide)) (SqL.of (s1 _ _ r)) ?_ ?_
   ·rintro m v u j H2 hv hu k _ ⟨u1,rfl⟩ Y Z ac no;obtain⟨e,he,rc⟩:=Cel.get ((g.mono s1).mono k) hv;have B:=yy he hu;refine⟨_,rfl,_,rfl,zp e,(zJ b o).map zp,rc.rdv,.lst (SqL.of (k _ _ U)) (ze7 (M.mono k)),rfl,zga _,(by show 1<=60;decide),_,rfl,?_⟩;have ei:(if false=true then !((zJ b o).map zp).any (fun z=>W1 z (zp e)) else ((zJ b o).map zp).any fun z=>W1 z (zp e))=nearF b o e:=ZK _ _;rw[ei];by_cases I:nearF b o e=true
    ·rw[if_pos I] at B;exact jX I ⟨_,rfl,ac _ _ _ _ B ⟨_,rfl⟩ (zu.refl _) rc.rdn⟩
    ·rw[if_neg I] at B;exact jE (XB.mpr I) (no _ _ B ⟨_,rfl⟩ (zu.refl _))
   rintro ys H2 k aa y;have er:(p.map fun x=>if nearF b o x=true then some (zp x) else none).filterMap id=(p.filter (nearF b o)).map zp:=qq _ _ _;rw[er] at y;have yl:ys.length=Grow.cnt (nearF b) o p:=(zC.cel y).length;refine⟨z,ys,rfl,.inl (SqL.of aa),?_⟩;rw[yl];have om:=X4 G;have tk:O.take (i+1)=O.take i++[o]:=by
    rw[Xx,G];rfl
   have l:Grow.zcv (nearF b) (jF b) c o p=false->Q (.bl false) H2:=fun e=>by
    have e2:(O.all fun o=>Grow.zcv (nearF b) (jF b) c o p)=false:=XB.mpr fun z=>by
     have:=WL.mp z o om;rw[e] at this;cases this
    rw[e2] at q;exact q _ (s1.trans k)
   refine⟨_,_,rfl,rfl,_,rfl,?_⟩;by_cases h1:jF b o-((Grow.cnt (nearF b) o c:Nat):Int)<=((Grow.cnt (nearF b) o p:Nat):Int)
   ·rw[decide_eq_true h1];refine YD ⟨_,rfl,_,_,rfl,rfl,_,rfl,?_⟩;by_cases h2:((Grow.cnt (nearF b) o p:Nat):Int)<=jF b o
    ·rw[decide_eq_true h2];refine Zp ⟨_,_,_,rfl,s1.trans k,fun o' ho'=>?_⟩;rw[tk] at ho';rcases XF.mp ho' with ho' | ho'
     ·exact d o' ho'
     ·have e:o'=o:=by simpa using ho'
      rw[e];exact Grow.yJ.mpr ⟨h1,h2⟩
    ·rw[decide_eq_false h2];exact YD (l (XB.mpr fun z=>h2 (Grow.yJ.mp z).2))
   ·rw[decide_eq_false h1];refine Zp ⟨_,rfl,?_⟩;exact YD (l (XB.mpr fun z=>h1 (Grow.yJ.mp z).1))
  ·rintro j H1 ⟨v2,v3,v4,rfl,s1,d⟩;rw[Paired.length hN,Xz] at d;have e:(O.all fun o=>Grow.zcv (nearF b) (jF b) c o p)=true:=WL.mpr d;rw[e] at q;exact q H1 s1
def toL (q:List (Nat×Nat)):List (Int×Int):=q.map toI
def zq2:Sp:=fun i H Q _=>∃(a l h:Addr) (b:List Str) (n:Int) (c:List V) (part:List (Nat×Nat)),i=[.ref a,.ref h]/\zY H a l b n/\Rows bd.cps.toList b/\H h=some (.lst c)/\Cel H c part/\part.Nodup/\part.length<=14 /\
 ∀(d:Addr) (g:List V) (f:List (List (Int×Int))) (e:Hp),H d=none->e d=some (.lst g)->jB (fun a=>H a=none/\a≠d) e g f->g.Nodup->f.Perm (((Subs.subs part).filter (Grow.fits (nearF b) (jF b) (JD b part) part)).map toL)->f.Pairwise (fun p q=>PySem.SeqAt.ltL q p=false)->zu H e->Q (.ref d) e
def jK (rs:List Str)(part:List (Nat×Nat)):Nat->List (List (Nat×Nat))
 | 0=>[[]]
 | i+1=>match part[i]? with
  | some c=>(Subs.step (jK rs part i) c).filter (Grow.chk (nearF rs) (jF rs) (JD rs part) c (part.drop (i+1)))
  | none=>jK rs part i
theorem zcM {rs:List Str}{part:List (Nat×Nat)}{i:Nat}{c:Nat×Nat}(h:part[i]?=some c):jK rs part (i+1)=(Subs.step (jK rs part i) c).filter (Grow.chk (nearF rs) (jF rs) (JD rs part) c (part.drop (i+1))):=by
 show (match part[i]? with | some c=>_ | none=>_)=_;rw[h]
theorem zcN {rs:List Str}{part:List (Nat×Nat)}:∀(k i:Nat),part.length-i=k->i<=part.length->Grow.grow (nearF rs) (jF rs) (JD rs part) (jK rs part i) (part.drop i)=jK rs part part.length
 | 0,i,h,b=>by
  have e:i=part.length:=by lia
  subst e;rw[List.drop_length];rfl
 | k+1,i,h,b=>by
  have a:i<part.length:=by lia
  rw[WB a];show Grow.grow _ _ _ ((Subs.step (jK rs part i) part[i]).filter _) (part.drop (i+1))=_;rw[<- zcM (X7 a)];exact zcN k (i+1) (by lia) (by lia)
theorem zec (rs:List Str)(part:List (Nat×Nat)):jK rs part part.length=(Subs.subs part).filter (Grow.fits (nearF rs) (jF rs) (JD rs part) part):=by
 rw[<- Grow.zmL];exact(zcN (rs:=rs) (part:=part) part.length 0 (by lia) (W5 _)).symm
theorem Qp (rs:List Str)(part:List (Nat×Nat)):∀i,(jK rs part i).length<=2^i
 | 0=>XV _
 | i+1=>by
  have a:=Qp rs part i;show (match part[i]? with | some c=>_ | none=>_:List (List (Nat×Nat))).length<=_;rw[Us];split
  ·refine X6 (Xm _ _) ?_;unfold Subs.step;rw[XW,Y1];lia
  ·lia
theorem zcO (rs:List Str)(part:List (Nat×Nat)):∀i,∀q∈jK rs part i,q.length<=i
 | 0,q,h=>by
  have e:q=[]:=by simpa[jK] using h
  rw[e];exact XV _
 | i+1,q,h=>by
  have a:=zcO rs part i;cases e:part[i]? with
  | none =>
   have b:jK rs part (i+1)=jK rs part i:=by
    show (match part[i]? with | some c=>_ | none=>_)=_;rw[e]
   rw[b] at h;exact T5 (a q h)
  | some c =>
   rw[zcM e] at h;have h:=(XX.mp h).1;rcases XF.mp h with h | h
   ·exact T5 (a q h)
   ·obtain⟨p,d,rfl⟩:=Xv.mp h;rw[XW];exact Nat.succ_le_succ (a p d)
def tD2 (rs:List Str)(c:Nat×Nat):Wi:=.tuple [.int (jF rs c),.list ((zJ rs c).map zp)]
theorem zls {N:Addr->Prop}{H:Hp}{rs:List Str}{v:V}{c:Nat×Nat}(h:Rdn N H v (tD2 rs c)):zge H rs v c:=by
 unfold tD2 at h;generalize a:(zJ rs c).map zp=ds at h;cases h with
 | tup h t =>
  cases t with
  | cons b t =>
   cases b;cases t with
   | cons d t =>
    cases t;cases d with
    | lst n h1 h2 =>
     subst a;exact⟨_,_,_,rfl,h,h1,zC.cel h2⟩
theorem zed {N:Addr->Prop}{H:Hp}{rs:List Str}:∀{cs:List (Nat×Nat)} {vs:List V},zC N H vs (cs.map (tD2 rs))->WU (zge H rs) vs cs
 | [],_,.nil=>.nil
 | _::_,_,.cons h t=>.cons (zls h) (zed t)
theorem QY {c:St}{H:Hp}{A B:Hp->Prop}(h:A H):zmq c H fun b a=>if b=true then A a else B a:=by
 show if true=true then A H else B H
 rw[if_pos rfl];exact h
theorem zlt {F:List (List (Nat×Nat))}{j:Nat}{k:List (Int×Int)}(h:(F.map toL)[j]?=some k):∃q,F[j]?=some q/\k=toL q:=by
 rw[Xl] at h;cases e:F[j]? with
 | none=>rw[e] at h;cases h
 | some q =>
  rw[e] at h;cases h;exact⟨q,rfl,rfl⟩
theorem zgh (xs:List V)(i:Nat)(a:i<xs.length):zah xs (some (((i:Nat):Int)+1)) none=xs.drop (i+1):=by
 have e:HT.sIx xs.length 0 (some (((i:Nat):Int)+1))=i+1:=by
  have:=HT.zbP xs.length 0 (i+1);rw[Tk] at this;rw[show (((i:Nat):Int)+1)=((i:Nat):Int)+((1:Nat):Int) from rfl,this];lia
 unfold zah;rw[e];show (xs.drop (i+1)).take (xs.length-(i+1))=_;rw[Wt (by rw[VJ];lia)]
theorem zgi {H:Hp}:∀{a:List V} {cs:List (Nat×Nat)} (i:Nat),Cel H a cs->Cel H (a.drop i) (cs.drop i)
 | _,_,0,h=>h
 | _,_,i+1,.nil=>.nil
 | _,_,i+1,.cons _ t=>zgi i t
theorem qB:zF ["board","part","told","found","place","cell","needs","grown"] ["board","part"] (zg qK):=⟨rfl,rfl,rfl,by decide +kernel,rfl,by decide +kernel,by decide +kernel⟩
theorem Yy {f1 f2 f3 f4 f5 f6 f7 f8:Addr}{aP aQ aR aS aT aU aV aW:Xo}(T:Txt mg)(D:zm K mg "part_layings" qK ["board","part"] f fd)(zT:zm K mg "around" j9 ["board","cell"] f1 aP)(zw:zm K mg "sign_at" qQ ["board","cell"] f2 aQ)
  (zB:zm K mg "cells_of" qF ["board"] f3 aR) (zE:zm K mg "open_cells" qy ["board"] f4 aS) (qi:zm K mg "number_at" yb ["board","cell"] f5 aT) (jr:zm K mg "numbers_of" jJ ["board","part"] f6 aU)
  (yg:zm K mg "needs_at" yL ["told","cell","rest"] f7 aV) (yT:zm K mg "may_fit" xD ["needs","pick"] f8 aW):qt P w K mg base CX0 4 f fd ["board","part"] zq2:=by
 refine D.F.ok qB (fun vs H Q E h=>?_) (fun b7 A bv s H vs Q E hr h=>?_)
 ·obtain⟨a,l,pa,rs,n,I,part,rfl,_⟩:=h;rfl
 ·obtain⟨a,l,pa,rs,n,I,part,rfl,b,R,a2,ai,bw,pl,q⟩:=h;have ul:=ai.length;refine⟨_,(zd (jc (zG zoH (zq zH (by rfl) T.jz WX (za (pvS 1) zb)) (jH (v:=.int 14) (by rfl) T.zcD.choose_spec (by exact⟨_,rfl⟩)) (zQ _)) (zf zj8) zZ)
   (zd (Jy (i:=2) qB.nd rfl rfl (N:=["cell","board"]) (src:=[none,some 0]) (zR.free (O:=(zg qK).names) (XN:=["board","part","told","found","place","cell","needs","grown"]) rfl rfl ⟨_,rfl⟩ rfl rfl (by decide +kernel) (by decide +kernel) (by decide +kernel) rfl (by decide +kernel)) rfl (zM (pc0 (zdw T jr zT zw zB zE) hr jr (za (pvS 0) (za (pvS 1) zb)))) (fun _ _ _ _ _=>(zo (i:=0) (by show W3 (["cell","board"]:List Str);decide +kernel) rfl (XM rfl))) (fun _ _ _ _ _=>qU) (fun _ _ _ _ _=>(jy (za (pc0 (zaF T qi zw) hr qi (za (pvS 1) (za (pvS 0) zb))) (za (pc0 (Ql T zT) hr zT (za (pvS 1) (za (pvS 0) zb))) zb)))))
   (zd (zv (i:=3) qB.nd rfl (XM rfl) (qc (za (qc zb) zb)))
   (zd (qw W7 rfl (Zq (by rfl) T.yd (za (pvS 1) zb)) (JJ rfl (zV (zo (i:=4) qB.nd rfl (XM rfl)) (zV (zo (i:=5) qB.nd rfl (Vm rfl)) yp))) (zd (zv (i:=6) qB.nd rfl (Vm rfl) (pc0 (zgg T yg) hr yg (za (pvS 2) (za (pvS 5) (za (zag zbR (pvS 1) (zaf (zx qa (pvS 4) zk)) zeC) zb)))))
   (zd (zv (i:=7) qB.nd rfl (XM rfl) (zx Z3 (pvS 3) (qh (N:=["pick","cell"]) (src:=[none,some 5]) (zR.free (O:=(zg qK).names) (XN:=["board","part","told","found","place","cell","needs","grown"]) rfl rfl ⟨_,rfl⟩ rfl rfl (by decide +kernel) (by decide +kernel) (by decide +kernel) rfl (by decide +kernel)) rfl (zM (pvS 3)) (fun _ _ _ _ _=>(zo (i:=0) (by show W3 (["pick","cell"]:List Str);decide +kernel) rfl (XM rfl))) (fun _ _ _ _ _=>qU) (fun _ _ _ _ _=>(zx Z3 (pvS 0) (qc (za (pvS 1) zb)))))))
   (zf (Jy (i:=3) qB.nd rfl rfl (N:=["pick","needs"]) (src:=[none,some 6]) (zR.free (O:=(zg qK).names) (XN:=["board","part","told","found","place","cell","needs","grown"]) rfl rfl ⟨_,rfl⟩ rfl rfl (by decide +kernel) (by decide +kernel) (by decide +kernel) rfl (by decide +kernel)) rfl (zM (pvS 7)) (fun _ _ _ _ _=>(zo (i:=0) (by show W3 (["pick","needs"]:List Str);decide +kernel) rfl (XM rfl))) (fun _ _ _ _ _=>(qg (Y9 (K:=K) (by rfl) (pc0 (zhx T yT) hr yT (za (pvS 1) (za (pvS 0) zb))) (fun _=>rfl)))) (fun _ _ _ _ _=>(pvS 0)))))))
   (zf (zI (zq (GS.QB hr.units) (by rfl) T.zcC Tr (za (pvS 3) zb)))))))),?_⟩
  refine⟨_,rfl,pa,I,rfl,.inl (SqL.of a2),_,_,rfl,rfl,_,rfl,?_⟩;refine jE (decide_eq_false (by lia)) ?_;refine⟨_,rfl,_,rfl,a,l,pa,rs,n,I,part,rfl,b,R,a2,ai,fun d ws H1 hd aC au s1=>⟨d,rfl,⟨_,SqL.of aC⟩,fun z hz=>?_⟩⟩;have b1:=b.mono s1;have nl:(JD rs part).length<=64:=X6 (Xm _ _) (qR (p:=Yx) R);refine qz (K:=K) (a:=d) (xs:=ws) (fun a=>a≠z) ((JD rs part).map fun c=>some (tD2 rs c)) (fun σ=>∃u0,σ=[u0,some (.ref a)]) hz (fun _ h=>h) ⟨_,rfl⟩ (by rw[Y1];exact au.length.symm) (by rw[au.length];exact X6 nl (by decide)) (SqL.of aC) ?_ ?_
  ·rintro k x o σ H2 hx ho s2 br ⟨u0,rfl⟩ Y Z b3 no;obtain⟨y,hy,r1⟩:=Cel.get au hx;have eo:=yy hy ho;have yo:y∈qk rs:=(XX.mp (X4 hy)).1;obtain⟨t,sg,ht,hj,bj,es⟩:=qm yo;obtain⟨ya,rfl,bp⟩:=r1;obtain⟨l1,l2⟩:=JU R ht hj;obtain⟨o1,o2⟩:=zbc (ziE R ht hj) bj;have b2:=b1.mono s2;have ap:=s2 _ _ bp;refine J5 ⟨_,rfl,_,rfl,a,l,ya,rs,n,y.1,y.2,t,sg,rfl,b2,ap,ht,hj,R.tlen ht,o1,o2,_,rfl,_,rfl,a,l,ya,rs,n,y.1,y.2,rfl,b2,R,ap,l1,l2,fun d2 bA H3 bf bg bc s3=>⟨ZA,fun tt a3=>?_⟩⟩;have s4:=ze (o:=.tup [.int (((sg:Nat):Int)-48),.ref d2]) a3;have en:jF rs y=((sg:Nat):Int)-48:=by
    unfold jF;rw[es]
   refine b3 _ _ _ _ eo ⟨_,rfl⟩ (s3.trans s4) (.tup zc (.cons ?_ (.cons (.lst (fun e=>br (e ▸ bf)) (s4 _ _ bg) (Cel.rdn (bc.mono s4))) .nil)));rw[en];exact .int _
  rintro ut H2 s2 bq aH;rw[ZI] at aH;have hT:=zed aH;have ag:=s1.trans s2;refine⟨JX,fun e0 aD=>⟨sz_1,fun f0 bh=>?_⟩⟩;have y1:=ze (o:=.lst []) aD;have y2:=ze (o:=.lst [.ref e0]) bh;have aN:=y1.trans y2;have aZ:jB (fun a=>H2 a=none) (upd (upd H2 e0 (.lst [])) f0 (.lst [.ref e0])) [.ref e0] ([[]]:List (List (Int×Int))):=.cons ⟨e0,[],rfl,aD,y2 _ _ zc,.nil⟩ .nil;have bi:upd (upd H2 e0 (.lst [])) f0 (.lst [.ref e0]) f0=some (.lst [.ref e0]):=zc;generalize upd (upd H2 e0 (.lst [])) f0 (.lst [.ref e0])=H3 at *
  have af:=ag _ _ a2;refine⟨_,rfl,pa,rfl,⟨_,SqL.of (aN _ _ af)⟩,?_⟩;refine Zr (K:=K) (l:=pa) (xs:=I) (fun i σ L=>∃(fa:Addr) (fs:List V) (v4 v5 v6 v7:Option V),σ=[some (.ref a),some (.ref pa),some (.ref z),some (.ref fa),v4,v5,v6,v7]/\zu H2 L/\L fa=some (.lst fs)/\jB (fun a=>H2 a=none) L fs ((jK rs part i).map toL)/\fs.Nodup)
   ⟨f0,_,_,_,_,_,rfl,aN,bi,aZ,by simp⟩ (fun i σ L _ ⟨_,_,_,_,_,_,_,y,_⟩=>SqL.of (y _ _ af)) ?_ ?_
  ·rintro i x tt σ H4 hx a3 ⟨fa,fs,v4,v5,v6,v7,rfl,s4,aw,hL,ax⟩;obtain⟨c,hc,B,rfl,be⟩:=Cel.get ((ai.mono ag).mono s4) hx;have il:=(XZ.mp hx).1;have z5:=ze (o:=.tup [.int (i:Nat),.ref B]) a3;refine⟨tt,_,rfl,SqT.of zc,rfl,_,_,rfl,_,_,rfl,rfl,?_⟩;have s5:=s4.trans z5;have ao:=z5 _ _ be;have aE:=z5 _ _ aw;have ba:=qd z5 hL;generalize upd H4 tt (.tup [.int (i:Nat),.ref B])=H5 at *
   refine⟨_,rfl,_,rfl,_,rfl,_,rfl,_,_,rfl,rfl,_,rfl,pa,I,rfl,SqL.of (s5 _ _ af),fun x1 bo=>?_⟩;have e1:=zgh I i il;rw[e1] at *
   have z6:=ze (o:=.lst (I.drop (i+1))) bo;have s6:=s5.trans z6;refine⟨z,B,x1,ut,I.drop (i+1),rs,JD rs part,part.drop (i+1),c,rfl,s6 _ _ bq,zjO s6 hT,nl,R,z6 _ _ ao,zc,zgi _ ((ai.mono ag).mono s6),bw.sublist (Ro _ _),fun nd un H6 b5 hN s7=>?_⟩;have am:=z6.trans s7;have aK:=s5.trans am;have ae:=am _ _ aE;have ar:=qd am ba;have aB:=am _ _ ao;have bt:i<=13:=by lia
   have fl:fs.length<=8192:=by
    rw[jo hL,Y1];exact X6 (Qp rs part i) (Wa (by decide) bt)
   have dp:=zcO rs part i;have eG:=zcM (rs:=rs) hc;have gl:=Qp rs part i;generalize jK rs part i=F at *
   refine⟨_,rfl,_,rfl,fa,rfl,⟨_,SqL.of ae⟩,fun y hy=>?_⟩;refine qj (K:=K) (a:=fa) (xs:=fs) (fun j r L=>∃(u0:Option V) (m:List V),r=[u0,some (.ref B)]/\zu H6 L/\L y=some (.lst m)/\jB (fun a=>H6 a=none/\a≠y) L m (((F.take j).map (·++[c])).map toL)/\m.Nodup)
    ⟨_,[],rfl,ze hy,zc,.nil,SN⟩ (fun j r L _ ⟨_,_,_,z,_⟩=>SqL.of (z _ _ ae)) ?_ ?_
   ·rintro j v r H7 hv ⟨u0,m,rfl,s8,al,G,a8⟩;obtain⟨k,a1,w1,hk,rfl,an,ac,t1⟩:=ZP ar hv;obtain⟨q1,U,rfl⟩:=zlt hk;have kd:=dp q1 (X4 U);have wl:w1.length=q1.length:=(zcI t1).trans (Y1 _);have tj:((F.take (j+1)).map (·++[c])).map toL=((F.take j).map (·++[c])).map toL++[toL q1++[toI c]]:=by
     rw[Xx,U,Xk,Xk];simp[toL]
    rw[tj];unfold Ja;refine QY ?_;refine⟨_,rfl,_,rfl,sz_1,fun t2 bn=>?_⟩;have y5:=ze (o:=.lst [.ref B]) bn;refine⟨a1,t2,w1,[.ref B],rfl,rfl,y5 _ _ (s8 _ _ ac),zc,X6 (show w1.length+1<=100 by lia) (by decide),fun t3 ak=>?_⟩;have y6:=ze (o:=.lst (w1++[.ref B])) ak;have ah:=y5.trans y6;have h6:upd (upd H7 t2 (.lst [.ref B])) t3 (.lst (w1++[.ref B])) t3=some (.lst (w1++[.ref B])):=zc;have tz:t3≠y:=fun e=>by
     subst e;rw[y5 _ _ al] at ak;cases ak
    have n4:=y5.free ak;have n3:=s8.free n4;have c1:xu (upd (upd H7 t2 (.lst [.ref B])) t3 (.lst (w1++[.ref B]))) [.ref B] [toI c]:=.cons ⟨B,rfl,ah _ _ (s8 _ _ aB)⟩ .nil;have b0:=zcK (jS (s8.trans ah) t1) c1;generalize upd (upd H7 t2 (.lst [.ref B])) t3 (.lst (w1++[.ref B]))=H8 at *
    have a6:=ah _ _ al;have yl:m.length<=8192:=by
     rw[jo G,Y1,Y1,XE];have:=jo hL;rw[Y1] at this;lia
    refine⟨m,a6,XI yl (by decide),_,m++[.ref t3],rfl,fun b' o e=>?_,zc,ZO (xF a6 (fun a h=>h.2) (qd ah G)) (.cons ⟨t3,w1++[.ref B],rfl,⟨n3,tz⟩,by rw[zj tz];exact h6,yS a6 b0⟩ .nil),?_⟩
    ·rw[zj (zh e hy)];exact ah _ _ (s8 _ _ e)
    ·refine VW.mpr ⟨a8,by simp,fun u hu u' a4 e=>?_⟩;obtain⟨b',wb,rfl,_,hb⟩:=Qo G hu;have e2:u'=.ref t3:=by simpa using a4
     rw[e2] at e;cases e;rw[hb] at n4;cases n4
   rintro r H7 ⟨u0,m,rfl,s8,al,G,a8⟩;have aX:fs.length=F.length:=(jo hL).trans (Y1 _);rw[aX,Xz] at G;have yl:m.length<=8192:=by
    rw[jo G,Y1,Y1];lia
   refine⟨fa,y,fs,m,rfl,rfl,s8 _ _ ae,al,X6 (SL fl yl) (by decide),fun g hg=>?_⟩;have y9:=ze (o:=.lst (fs++m)) hg;have bx:=aK.trans s8;have bz:=bx.trans y9;have aF:upd H7 g (.lst (fs++m)) g=some (.lst (fs++m)):=zc;have a9:jB (fun a=>H2 a=none) (upd H7 g (.lst (fs++m))) (fs++m) ((Subs.step F c).map toL):=by
    unfold Subs.step;rw[Xk];exact ZO (qd (s8.trans y9) ar) (qd y9 (QX (fun a h=>aK.free h.1) G))
   have aY:(fs++m).Nodup:=by
    refine VW.mpr ⟨ax,a8,fun u hu u' a4 e=>?_⟩;obtain⟨b',wb,rfl,_,hb⟩:=Qo ar hu;obtain⟨b2,b9,rfl,aA,_⟩:=Qo G a4;cases e;rw[hb] at aA;cases aA.1
   have aG:=(s8.trans y9) _ _ b5;have bb:=zbe (s8.trans y9) hN;have b8:(fs++m).length<=16384:=by
    rw[XW];lia
   have aO:∀q∈Subs.step F c,q.length<=64:=fun q hq=>by
    rcases XF.mp hq with hq | hq
    ·have:=dp q hq;lia
    ·obtain⟨p',ay,rfl⟩:=Xv.mp hq;have:=dp p' ay;rw[XW];show p'.length+1<=64;lia
   generalize fs++m=gs at *
   generalize Subs.step F c=S at *
   generalize upd H7 g (.lst gs)=H8 at *
   refine⟨_,rfl,g,rfl,⟨_,SqL.of aF⟩,fun y2 a5=>?_⟩;refine qj (K:=K) (a:=g) (xs:=gs) (fun j r L=>∃(u0:Option V) (m:List V),r=[u0,some (.ref nd)]/\zu H8 L/\L y2=some (.lst m)/\jB (fun a=>H2 a=none/\a≠y2) L m (((S.take j).filter (Grow.chk (nearF rs) (jF rs) (JD rs part) c (part.drop (i+1)))).map toL)/\m.Sublist (gs.take j))
    ⟨_,[],rfl,ze a5,zc,.nil,List.Sublist.slnil⟩ (fun j r L _ ⟨_,_,_,z,_⟩=>SqL.of (z _ _ aF)) ?_ ?_
   ·rintro j v r H9 hv ⟨u0,m,rfl,s9,a7,ab,aa⟩;obtain⟨k,a1,w1,hk,rfl,an,ac,t1⟩:=ZP a9 hv;obtain⟨q1,U,rfl⟩:=zlt hk;have tf:gs.take (j+1)=gs.take j++[.ref a1]:=by
     rw[Xx,hv];rfl
    refine⟨_,rfl,_,rfl,nd,a1,un,w1,rs,part.drop (i+1),_,q1,rfl,s9 _ _ aG,zbe s9 bb,s9 _ _ ac,(yR t1).mono s9,aO q1 (X4 U),fun b6 J=>⟨_,rfl,?_⟩⟩;rw[tf];have M:=J _ _ a7;show if Grow.chk (nearF rs) (jF rs) (JD rs part) c (part.drop (i+1)) q1=true then _ else _
    by_cases aj:Grow.chk (nearF rs) (jF rs) (JD rs part) c (part.drop (i+1)) q1=true
    ·have e1:((S.take (j+1)).filter (Grow.chk (nearF rs) (jF rs) (JD rs part) c (part.drop (i+1)))).map toL=((S.take j).filter (Grow.chk (nearF rs) (jF rs) (JD rs part) c (part.drop (i+1)))).map toL++[toL q1]:=by
      rw[Xx,U,Xb,Xk];simp[aj]
     rw[e1];have az:a1≠y2:=zh ac a5;have yl:m.length<=16384:=by
      have:=aa.length_le;rw[XE] at this;lia
     refine jX aj ⟨_,rfl,m,M,XI yl (by decide),_,m++[.ref a1],rfl,fun b' o e=>?_,zc,ZO (xF M (fun a h=>h.2) (qd J ab)) (.cons ⟨a1,w1,rfl,⟨an,az⟩,by rw[zj az];exact J _ _ (s9 _ _ ac),yS M (jS (s9.trans J) t1)⟩ .nil),List.Sublist.append aa (List.Sublist.refl _)⟩;rw[zj (zh e a5)];exact J _ _ (s9 _ _ e)
    ·have e1:((S.take (j+1)).filter (Grow.chk (nearF rs) (jF rs) (JD rs part) c (part.drop (i+1)))).map toL=((S.take j).filter (Grow.chk (nearF rs) (jF rs) (JD rs part) c (part.drop (i+1)))).map toL:=by
      rw[Xx,U,Xb,Xk];simp[aj]
     rw[e1];exact jE (XB.mpr aj) ⟨_,m,rfl,s9.trans J,M,qd J ab,aa.trans (Tq _ _)⟩
   ·rintro r H9 ⟨u0,m,rfl,s9,a7,ab,aa⟩;have aq:gs.length=S.length:=(jo a9).trans (Y1 _);rw[aq,Xz,<- eG] at ab;rw[aq,<- aq,Xz] at aa;exact⟨y2,m,_,_,_,_,rfl,bz.trans s9,a7,QX (fun a h=>h.1) ab,aY.sublist aa⟩
  ·rintro σ H4 ⟨fa,fs,v4,v5,v6,v7,rfl,s4,aw,hL,ax⟩;have gl:=Qp rs part part.length;rw[ul,zec] at hL;rw[zec] at gl;have fl:fs.length<=16384:=by
    rw[jo hL,Y1];exact X6 gl (Wa (by decide) pl)
   refine⟨_,rfl,fa,fs,_,rfl,SqL.of aw,zjM hL,by lia,fun d' aM bu av ay b4 bm aI=>?_⟩;have y5:=ze (o:=.lst aM) av;have aJ:=ag.trans s4;refine q d' aM bu _ (aJ.free av) zc (qd y5 (zlq ay fun v hv=>?_)) (aI.nodup_iff.mpr ax) b4 bm (aJ.trans y5);obtain⟨a1,wa,e,na,ha⟩:=Qo hL (aI.mem_iff.mp hv);exact⟨a1,e,ag.free na,zh ha av⟩
abbrev iL (xs:List Int):List V:=xs.map V.int
def ZQ (xs:List Int):Wi:=.list (xs.map Sj)
theorem zby {K:X5}{H:Hp}:∀xs:List Int,xA K H (iL xs) (xs.map Sj)
 | []=>.nil
 | x::r=>.cons (.int x) (zby r)
theorem zgj {K:X5}{H:Hp}{a:Addr}{xs:List Int}(h:SqL K H a (iL xs)):Rdv K H (.ref a) (ZQ xs):=.lst h (zby xs)
theorem lay_ints:∀xs:List Int,Wu (xs.map Sj)=true
 | []=>rfl
 | x::r=>by
  show (Vk (.int x)&&Wu (r.map Sj))=true;rw[lay_ints r];rfl
theorem zcP:∀xs:List Int,WI (xs.map Sj)=0
 | []=>rfl
 | x::r=>by
  show max (PyData.depth (.int x)) (WI (r.map Sj))=0;rw[zcP r];rfl
theorem zbf (xs:List Int):(ZQ xs).canLay0=true:=lay_ints xs
theorem zgk (xs:List Int):(ZQ xs).depth=1:=by
 show WI (xs.map Sj)+1=1;rw[zcP]
theorem zjP (xs ys:List Int):zb9 (ZQ xs) (ZQ ys):=⟨zbf xs,zbf ys,by rw[zgk];decide⟩
theorem zhy (xs:List Int):W1 (ZQ xs) (ZQ xs)=true:=RI _ (zbf xs)
theorem ints_get {xs:List Int}{i:Nat}{v:V}(h:(iL xs)[i]?=some v):∃x,xs[i]?=some x/\v=.int x:=by
 rw[Xl] at h;cases e:xs[i]? with
 | none=>rw[e] at h;cases h
 | some x =>
  rw[e] at h;cases h;exact⟨x,rfl,rfl⟩
theorem ziG {xs:List Int}{i:Nat}{x:Int}(h:xs[i]?=some x):(iL xs)[i]?=some (.int x):=by
 rw[Xl,h];rfl
theorem zcQ {n:Nat}{k:Int}(h0:0<=k)(h1:k<n):ixN n k=some k.toNat:=by
 unfold ixN;rw[if_pos h0,if_pos h1]
theorem zm1 (xs:List Int)(z:Int):iL (xs++[z])=iL xs++[.int z]:=by
 show UD V.int (xs++[z])=_;rw[Xk];rfl
def xG (c:Nat×Nat)(k:List (Int×Int)):Bool:=k.any fun z=>decide (z=toI c)
def Yj (rs:List Str)(part:List (Nat×Nat)):List (List (Int×Int)):=((Subs.subs part).filter (Grow.fits (nearF rs) (jF rs) (JD rs part) part)).map toL
def zqk:Sp:=fun f H Q _=>∃(c:Addr) (e:List V) (b:List (List (Int×Int))) (N:Addr->Prop) (g:Nat),f=[.ref c,.int (g:Nat)]/\H c=some (.lst e)/\jB N H e b/\(∀k∈b,k.length<=g)/\g<=64 /\
 ∀(d:Addr) (a:Hp),H d=none->a d=some (.lst (iL (Cnt.Jk g b)))->zu H a->Q (.ref d) a
def zm2:Sp:=fun i H Q _=>∃(f e:Addr) (h:List V) (a:List (List (Int×Int))) (N:Addr->Prop) (g:Nat) (c:Nat×Nat),i=[.ref f,.int (g:Nat),.ref e]/\H f=some (.lst h)/\jB N H h a/\(∀k∈a,k.length<=g)/\g<=64/\a.length<=16384/\H e=some (.tup [.int (c.1:Nat),.int (c.2:Nat)]) /\
 ∀(d:Addr) (b:Hp),H d=none->b d=some (.lst (iL (Cnt.Jk g (a.filter (xG c)))))->zu H b->Q (.ref d) b
def zq4:Sp:=fun g H Q _=>∃(a l f:Addr) (e:List Str) (n:Int) (b:List V) (part:List (Nat×Nat)),g=[.ref a,.ref f]/\zY H a l e n/\Rows bd.cps.toList e/\H f=some (.lst b)/\Cel H b part/\part.Nodup/\part.length<=14 /\
 ∀(d:Addr) (c:Hp),H d=none->c d=some (.lst (iL (Cnt.Jk part.length (Yj e part))))->zu H c->Q (.ref d) c
theorem zgl (n:Nat):(WP n [V.int 0]).flatten=iL (WP n 0):=by
 induction n with
 | zero=>rfl
 | succ n a =>
  rw[Vv,WN,a];rfl
theorem zgm {α:Type}:∀(cs:List α) (b:Nat),(Subs.pick cs b).length<=cs.length
 | [],_=>W5 _
 | c::r,b=>by
  have:=zgm r (b/2);show ((if b%2=1 then [c] else [])++Subs.pick r (b/2)).length<=r.length+1;rw[XW];split
  ·show 1+_<=_;lia
  ·show 0+_<=_;lia
theorem zlu {α:Type}{cs q:List α}(h:q∈Subs.subs cs):q.length<=cs.length:=by
 rw[Subs.Qe] at h;obtain⟨b,_,rfl⟩:=Xv.mp h;exact zgm cs b
theorem zcR {rs:List Str}{part:List (Nat×Nat)}{k:List (Int×Int)}(h:k∈Yj rs part):k.length<=part.length:=by
 obtain⟨a,h1,rfl⟩:=Xv.mp h;show (a.map toI).length<=_;rw[Y1];exact zlu (XX.mp h1).1
theorem zjQ {rs:List Str}{part:List (Nat×Nat)}(h:part.length<=14):(Yj rs part).length<=16384:=by
 unfold Yj;rw[Y1];refine X6 (Xm _ _) ?_;rw[Subs.Qe,Y1,W6];exact X6 (Wa (by decide) h) (by decide)
theorem QZ:zF ["found","greatest","counts","laying"] ["found","greatest"] (zg JH):=⟨rfl,rfl,rfl,by decide +kernel,rfl,by decide +kernel,by decide +kernel⟩
theorem Q0 (T:Txt mg)(D:zm K mg "counted" JH ["found","greatest"] f fd):qt P w K mg base CX0 1 f fd ["found","greatest"] zqk:=by
 refine D.F.ok QZ (fun vs H Q E h=>?_) (fun aa A I s H vs Q E hr h=>?_)
 ·obtain⟨m,Y,G,N,g,rfl,_⟩:=h;rfl
 ·obtain⟨m,Y,G,N,g,rfl,d,M,hk,ab,q⟩:=h;refine⟨_,(zd (zv (i:=2) QZ.nd rfl (XM rfl) (zx zgW (qc (za zk zb)) (zx qa (pvS 1) zk)))
   (zd (qw W7 rfl (zM (pvS 0)) (zo (i:=3) QZ.nd rfl (XM rfl)) (zf (zh8 (pvS 2) (zq zH (by rfl) T.jz WX (za (pvS 3) zb)) zfz zk zka set_list)))
   (zf (zI (pvS 2))))),?_⟩
  refine⟨sz_1,fun U B=>?_⟩;have s0:zu H (upd H U (.lst [.int 0])):=ze B;refine⟨_,rfl,_,_,rfl,rfl,U,_,_,rfl,rfl,zc,by lia,by lia,?_,fun p O=>?_⟩
  ·exact X6 (show 1*((g:Int)+1).toNat<=120 by lia) (by decide)
  rw[show ((g:Int)+1).toNat=g+1 by lia,zgl,<- Cnt.zk3 (α:=Int×Int)];have s1:=s0.trans (ze (o:=.lst (iL (Cnt.Jk g ([]:List (List (Int×Int)))))) O);have l:H p=none:=s0.free O;refine⟨_,rfl,m,rfl,⟨_,SqL.of (s1 _ _ d)⟩,?_⟩;refine yY (K:=K) (a:=m) (xs:=Y) (fun i u x=>∃J,u=[some (.ref m),some (.int (g:Nat)),some (.ref p),J]/\zu H x/\x p=some (.lst (iL (Cnt.Jk g (G.take i)))))
   ⟨_,rfl,s1,zc⟩ (fun i u x _ ⟨_,_,y,_⟩=>SqL.of (y _ _ d)) ?_ ?_
  ·rintro i v u L hv ⟨J,rfl,r,b⟩;obtain⟨k,a1,wa,j,rfl,_,z,t1⟩:=ZP M hv;have kl:=hk k (X4 j);have wl:=zcI t1;refine⟨_,rfl,_,rfl,a1,wa,rfl,.inl (SqL.of (r _ _ z)),p,_,_,_,rfl,rfl,SqL.of b,jT (by lia) (ziG (Cnt.zcw (n:=wa.length) _ (by lia))),_,_,rfl,rfl,p,_,_,_,rfl,rfl,b,zcQ (by lia) (by rw[Y1,Cnt.zaA];lia),?_⟩;refine⟨_,rfl,fun c o e=>?_,?_⟩
   ·rw[zj (zh e l)];exact r _ _ e
   ·rw[zc,Xx,j];show _=some (HO.lst (iL (Cnt.Jk g (G.take i++[k]))));rw[Cnt.zjE _ kl,wl];show some (HO.lst ((UD V.int _).set _ (V.int _)))=_;rw[<- Oo];rfl
  ·rintro u L ⟨J,rfl,r,b⟩;rw[jo M,Xz] at b;exact⟨_,rfl,q p L l b r⟩
theorem zcS:zF ["board","part"] ["board","part"] (zg xW):=⟨rfl,rfl,rfl,by decide +kernel,rfl,by decide +kernel,by decide +kernel⟩
theorem zcT {f1 f2 f3 f4 f5 f6 f7 f8 f9 p:Addr}{r u v x y z B G I i:Xo}(T:Txt mg)(D:zm K mg "part_counts" xW ["board","part"] f fd)(zT:zm K mg "around" j9 ["board","cell"] f1 r)(zw:zm K mg "sign_at" qQ ["board","cell"] f2 u)
  (zB:zm K mg "cells_of" qF ["board"] f3 v) (zE:zm K mg "open_cells" qy ["board"] f4 x) (qi:zm K mg "number_at" yb ["board","cell"] f5 y) (jr:zm K mg "numbers_of" jJ ["board","part"] f6 z)
  (yg:zm K mg "needs_at" yL ["told","cell","rest"] f7 B) (yT:zm K mg "may_fit" xD ["needs","pick"] f8 G) (Y:zm K mg "part_layings" qK ["board","part"] f9 I) (U:zm K mg "counted" JH ["found","greatest"] p i):qt P w K mg base CX0 5 f fd ["board","part"] zq4:=by
 refine D.F.ok zcS (fun vs H Q E h=>?_) (fun aa A L s H vs Q E O h=>?_)
 ·obtain⟨a,l,M,rs,n,g,part,rfl,_⟩:=h;rfl
 ·obtain⟨a,l,M,rs,n,g,part,rfl,b,R,m,c,N,pl,q⟩:=h;refine⟨_,(zf (zI (pc0 (Q0 T U) O U (za (pc0 (Yy T Y zT zw zB zE qi jr yg yT) O Y (za (pvS 0) (za (pvS 1) zb))) (za (zq zH (by rfl) T.jz WX (za (pvS 1) zb)) zb))))),?_⟩;refine⟨_,rfl,_,rfl,a,l,M,rs,n,g,part,rfl,b,R,m,c,N,pl,fun d ws ks H1 hd J hL _ o _ s1=>?_⟩;refine⟨_,rfl,M,g,rfl,.inl (SqL.of (s1 _ _ m)),d,ws,ks,_,g.length,rfl,J,hL,fun k hk=>?_,?_,fun e H2 he j s2=>?_⟩
  ·rw[c.length];exact zcR (o.mem_iff.mp hk)
  ·rw[c.length];lia
  ·rw[c.length,Cnt.za8 o] at j;exact q e H2 (s1.free he) j (s1.trans s2)
def qZ (rs:List Str)(g S:List (Nat×Nat)):Bool:=Grow.fits (nearF rs) (jF rs) (JD rs g) g S
theorem Qq {rs:List Str}{o x:Nat×Nat}:nearF rs o x=true↔x∈zJ rs o:=Parts.zaz _ _
theorem zoV {rs:List Str}{x:Nat×Nat}(h:x∈zP rs):Cells.sgn (codes rs) x=63:=by
 obtain⟨t,k,c,b,hk,a⟩:=qm h;have:k=63:=by
  unfold qG at hk;simpa using hk
 rw[a,this]
theorem Yk {rs:List Str}{o x:Nat×Nat}(a:x∈zP rs):nearF rs o x=true↔x∈clA rs o:=by
 rw[Qq];constructor
 ·exact fun h=>XX.mpr ⟨h,decide_eq_true (zoV a)⟩
 ·exact fun h=>(XX.mp h).1
theorem ze9 {rs:List Str}{g:List (Nat×Nat)}{o:Nat×Nat}:o∈JD rs g↔o∈qk rs/\∃x∈g,nearF rs o x=true:=by
 unfold JD;rw[XX,Ur,Wn];refine and_congr_right fun _=>?_;constructor
 ·rintro⟨z,hz,h⟩;have a:(g.any fun x=>decide (x=z))=true:=h;exact⟨z,(Parts.zaz _ _).mp a,Qq.mpr hz⟩
 ·rintro⟨x,hx,h⟩;exact⟨x,Qq.mp h,(Parts.zaz _ _).mpr hx⟩
section
variable {rs:List Str}{gs:List (List (Nat×Nat))}(G:Parts.Good (clA rs) (qk rs) gs)
include G
theorem yK:∀c∈gs.flatten,c∈zP rs:=fun c a=>by
 obtain⟨o,_,h⟩:=G.from_ c a;exact ZL h
theorem zm3 {g:List (Nat×Nat)}(f:g∈gs){o x:Nat×Nat}(j:o∈JD rs g)(k:x∈zP rs)(i:nearF rs o x=true):x∈g:=by
 obtain⟨h1,y,h,h2⟩:=ze9.mp j;have d:=yK G y (Wr.mpr ⟨g,f,h⟩);have b:=(Yk d).mp h2;obtain⟨l,c,a⟩:=G.cov o h1 (Ta b);have e:=Parts.zd1 G.nd c f (a y b) h;rw[<- e];exact a x ((Yk k).mp i)
theorem ziH {g:List (Nat×Nat)}(d:g∈gs){o:Nat×Nat}(f:o∈JD rs g){a:List (Nat×Nat)}(h:∀c∈a,c∈zP rs/\c ∉ g):Grow.cnt (nearF rs) o a=0:=by
 unfold Grow.cnt;rw[Uy,V3];intro c b e;exact(h c b).2 (zm3 G d f (h c b).1 e)
theorem zaJ {g:List (Nat×Nat)}(i:g∈gs):Tally.Loc (zP rs) (qZ rs g) g:=by
 have e:∀S f:List (Nat×Nat),(∀o∈JD rs g,Grow.cnt (nearF rs) o S=Grow.cnt (nearF rs) o f)->qZ rs g S=qZ rs g f:=fun S f h=>by
  unfold qZ Grow.fits;rw[Wz,WL,WL];constructor
  ·intro k o c;have:=k o c;rwa [h o (XX.mp c).1] at this
  ·intro k o c;have:=k o c;rwa [<- h o (XX.mp c).1] at this
 have d:∀(o:Nat×Nat) (a b:List (Nat×Nat)),Grow.cnt (nearF rs) o (a++b)=Grow.cnt (nearF rs) o a+Grow.cnt (nearF rs) o b:=fun o a b=>by
  unfold Grow.cnt;rw[Xb,XW]
 refine⟨fun a b h=>e _ _ fun o c=>?_,fun a b h=>e _ _ fun o c=>?_⟩
 ·rw[d,ziH G i c h,V6]
 ·rw[d,ziH G i c h,SQ]
theorem zgn:(gs.map fun g=>Tally.tl g (qZ rs g)).foldl Pour.Zh [1]=Tally.tl gs.flatten (Tally.yt (qZ rs) gs):=Tally.zhl G.nd (yK G) fun g a=>zaJ G a
theorem zjR (i:Nat):((gs.take i).map fun g=>Tally.tl g (qZ rs g)).foldl Pour.Zh [1]=Tally.tl (gs.take i).flatten (Tally.yt (qZ rs) (gs.take i)):=by
 have sub:(gs.take i).flatten.Sublist gs.flatten:=by
  have e:gs.flatten=(gs.take i).flatten++(gs.drop i).flatten:=by rw[<- Ws,Wy]
  rw[e];exact Tq _ _
 exact Tally.zhl (G.nd.sublist sub) (fun c a=>yK G c (sub.subset a)) fun g b=>zaJ G (Wc b)
theorem YS (R:Rows bd.cps.toList rs):gs.flatten.length<=64:=by
 have h1:=Parts.yr G.nd (yK G);have h2:=zd8 R;lia
end
theorem zee (rs:List Str)(part:List (Nat×Nat)):Cnt.Jk part.length (Yj rs part)=Tally.tl part (qZ rs part):=by
 unfold Yj;rw[Tally.zfZ part.length toL (fun k=>Y1 _)];exact Tally.ziB part _
def zjS (xs:List Int):Prop:=∀z∈xs,z.natAbs<2^8000
theorem ziI {cs:List (Nat×Nat)}{p:List (Nat×Nat)->Bool}{k:Nat}(h:cs.length<=64):Tally.T cs p k<=2^64:=by
 refine X6 Pe ?_;rw[Subs.Qe,Y1,W6];exact Wa (by decide) h
theorem Yl {cs:List (Nat×Nat)}{p:List (Nat×Nat)->Bool}(h:cs.length<=64):zjS (Tally.tl cs p):=fun z a=>by
 unfold Tally.tl at a;obtain⟨k,_,rfl⟩:=Xv.mp a;rw[S9];exact XI (ziI h) (OX (by decide) (by decide))
def ZR (rs:List Str)(S:List (Nat×Nat)):Bool:=((qk rs).filter fun o=>!(clA rs o).isEmpty).all fun o=>decide (((Grow.cnt (nearF rs) o S:Nat):Int)=jF rs o)
theorem JE {rs:List Str}{S:List (Nat×Nat)}:ZR rs S=true ↔ ∀o∈qk rs,clA rs o ≠ []->((Grow.cnt (nearF rs) o S:Nat):Int)=jF rs o:=by
 unfold ZR;rw[WL];constructor
 ·intro h o a b;exact of_decide_eq_true (h o (XX.mpr ⟨a,by rw[WE];exact UZ.mpr b⟩))
 ·intro h o a;obtain⟨h1,h2⟩:=XX.mp a;rw[WE] at h2;exact decide_eq_true (h o h1 (UZ.mp h2))
theorem zbg {rs:List Str}{gs:List (List (Nat×Nat))}(G:Parts.Good (clA rs) (qk rs) gs)(S:List (Nat×Nat)):Tally.yt (qZ rs) gs S=ZR rs S:=by
 rw[Wz,JE];unfold Tally.yt qZ Grow.fits;rw[WL];constructor
 ·intro h o d i;obtain⟨x,b⟩:=TC _ i;obtain⟨g,e,a⟩:=G.cov o d i;have c:nearF rs o x=true:=(Yk (ZL b)).mpr b;have:=h g e;rw[WL] at this;exact of_decide_eq_true (this o (XX.mpr ⟨ze9.mpr ⟨d,x,a x b,c⟩,Wn.mpr ⟨x,a x b,c⟩⟩))
 ·intro h g e;rw[WL];intro o d;obtain⟨h1,x,b,c⟩:=ze9.mp (XX.mp d).1;have f:=yK G x (Wr.mpr ⟨g,e,b⟩);exact decide_eq_true (h o h1 (Ta ((Yk f).mp c)))
theorem zlv {rs:List Str}{gs:List (List (Nat×Nat))}(G:Parts.Good (clA rs) (qk rs) gs){c:Nat×Nat}:c∈gs.flatten↔c∈zP rs/\∃o∈qk rs,nearF rs o c=true:=by
 constructor
 ·intro h;obtain⟨o,e,b⟩:=G.from_ c h;have d:=ZL b;exact⟨d,o,e,(Yk d).mpr b⟩
 ·rintro⟨d,o,e,hn⟩;have b:=(Yk d).mp hn;obtain⟨g,f,a⟩:=G.cov o e (Ta b);exact Wr.mpr ⟨g,f,a c b⟩
def jL (rs:List Str)(S:List (Nat×Nat)):Bool:=(qk rs).all fun o=>decide (((Grow.cnt (nearF rs) o S:Nat):Int)=jF rs o)
theorem Ym {rs:List Str}{S:List (Nat×Nat)}:jL rs S=true ↔ ∀o∈qk rs,((Grow.cnt (nearF rs) o S:Nat):Int)=jF rs o:=by
 unfold jL;rw[WL];exact⟨fun h o a=>of_decide_eq_true (h o a),fun h o a=>decide_eq_true (h o a)⟩
theorem zcU (rs:List Str):Tally.Inv (jL rs):=fun a b e=>by
 rw[Wz,Ym,Ym];have:∀o,Grow.cnt (nearF rs) o a=Grow.cnt (nearF rs) o b:=fun o=>(e.filter _).length_eq;constructor
 ·intro h o c;rw[<- this o];exact h o c
 ·intro h o c;rw[this o];exact h o c
theorem zlw {rs:List Str}:(jW rs).isEmpty=true ↔ ∀o∈qk rs,clA rs o=[]->jF rs o=0:=by
 rw[PX];unfold jW jF;rw[V3];constructor
 ·intro h o a b;have:=h o (XX.mpr ⟨a,by rw[b];rfl⟩);rw[WE,Sz] at this;rw[of_decide_eq_true this];rfl
 ·intro h o a;obtain⟨h1,h2⟩:=XX.mp a;have:=h o h1 (PX.mp h2);rw[WE,Sz];exact decide_eq_true (by lia)
theorem zaK {rs:List Str}{S:List (Nat×Nat)}(d:∀c∈S,c∈zP rs):jL rs S=((jW rs).isEmpty&&ZR rs S):=by
 have z:∀o,clA rs o=[]->Grow.cnt (nearF rs) o S=0:=fun o a=>by
  unfold Grow.cnt;rw[Uy,V3];intro c b e;have:=(Yk (d c b)).mp e;rw[a] at this;cases this
 rw[Wz,We,Ym,zlw,JE];constructor
 ·intro h;refine⟨fun o a b=>?_,fun o a _=>h o a⟩;rw[<- h o a,z o b];rfl
 ·rintro⟨h1,h2⟩ o a;by_cases b:clA rs o=[]
  ·rw[z o b,h1 o a b];rfl
  ·exact h2 o a b
theorem ziJ {rs:List Str}{c o:Nat×Nat}(a:c∈yw rs)(b:o∈qk rs):nearF rs o c=false:=by
 unfold yw at a;have h:=(XX.mp a).2;rw[WE,Ur,Rq] at h;exact XB.mpr (h o b)
theorem zcV {rs:List Str}{a b:List (Nat×Nat)}(i:∀c∈b,c∈yw rs):ZR rs (a++b)=ZR rs a:=by
 have e:∀o∈qk rs,Grow.cnt (nearF rs) o (a++b)=Grow.cnt (nearF rs) o a:=fun o d=>by
  unfold Grow.cnt;rw[Xb,XW];have:b.filter (nearF rs o)=[]:=V3.mpr fun c f g=>by
   rw[ziJ (i c f) d] at g;cases g
  rw[this];rfl
 rw[Wz,JE,JE];constructor
 ·intro h o d f;rw[<- e o d];exact h o d f
 ·intro h o d f;rw[e o d];exact h o d f
theorem zaL {rs:List Str}{c:Nat×Nat}(h:c∈yw rs):c∈zP rs:=(XX.mp h).1
theorem zcW (rs:List Str):(zP rs).Nodup:=xE (Cells.Qd _ 0 (codes rs))
theorem zef (rs:List Str):(yw rs).Nodup:=(zcW rs).sublist Wg
section
variable {rs:List Str}{gs:List (List (Nat×Nat))}(G:Parts.Good (clA rs) (qk rs) gs)
include G
theorem zaM {c:Nat×Nat}:c∈yw rs↔c∈zP rs/\c ∉ gs.flatten:=by
 rw[zlv G];constructor
 ·intro h;refine⟨zaL h,?_⟩;rintro⟨_,o,b,a⟩;rw[ziJ h b] at a;cases a
 ·rintro⟨h1,h2⟩;unfold yw;refine XX.mpr ⟨h1,?_⟩;rw[WE,Ur,Rq];intro o b a;exact h2 ⟨h1,o,b,a⟩
theorem zbh:(zP rs).Perm (gs.flatten++yw rs):=by
 refine(Vx (zcW rs) (VW.mpr ⟨G.nd,zef rs,fun a f b g e=>?_⟩)).mpr fun c=>?_
 ·subst e;exact((zaM G).mp g).2 f
 ·rw[XF,zaM G];constructor
  ·intro h;by_cases d:c∈gs.flatten
   ·exact .inl d
   ·exact .inr ⟨h,d⟩
  ·rintro(h | h)
   ·exact yK G c h
   ·exact h.1
theorem count_is (s:Nat):(if (jW rs).isEmpty=true then Tally.dl (Tally.tl gs.flatten (Tally.yt (qZ rs) gs)) (yw rs).length ((s:Nat):Int) else 0)=((Tally.T (zP rs) (jL rs) s:Nat):Int):=by
 rw[Tally.ze2 (zbh G) (zcU rs)];have f:∀a∈Subs.subs gs.flatten,∀b∈Subs.subs (yw rs),jL rs (a++b)=((jW rs).isEmpty&&Tally.yt (qZ rs) gs a):=fun a e b i=>by
  have sa:=(Tally.jV e).subset;have k:=(Tally.jV i).subset;rw[zaK fun c j=>(XF.mp j).elim (fun h=>yK G c (sa h)) fun h=>zaL (k h),zcV fun c j=>k j,zbg G]
 cases i:(jW rs).isEmpty with
 | true =>
  rw[if_pos rfl];refine Tally.znD (fun a e b d=>?_) s;rw[f a e b d,i,Tt]
 | false =>
  rw[if_neg (by decide),Tally.zbY fun S g=>?_]
  ·rfl
  ·rw[Tally.zaC] at g;obtain⟨b,d,g⟩:=Sh.mp g;obtain⟨a,e,rfl⟩:=Xv.mp g;rw[f a e b d,i,UC]
theorem zlx (c:Nat×Nat):Tally.Inv fun S=>jL rs S&&decide (c∈S):=fun a b e=>by
 show (jL rs a&&decide (c∈a))=(jL rs b&&decide (c∈b));rw[zcU rs a b e,show decide (c∈a)=decide (c∈b) from decide_eq_decide.mpr e.mem_iff]
theorem zoW {c:Nat×Nat}(f:c∈yw rs)(s:Nat):(if (jW rs).isEmpty=true then Tally.dl (Tally.tl gs.flatten (Tally.yt (qZ rs) gs)) ((yw rs).length-1) (((s:Nat):Int)-1) else 0)=((Tally.T (zP rs) (fun S=>jL rs S&&decide (c∈S)) s:Nat):Int):=by
 rw[Tally.ze2 (zbh G) (zlx G c)];have i:∀a∈Subs.subs gs.flatten,∀b∈Subs.subs (yw rs),(jL rs (a++b)&&decide (c∈a++b))=((jW rs).isEmpty&&(Tally.yt (qZ rs) gs a&&decide (c∈b))):=fun a g b k=>by
  have sa:=(Tally.jV g).subset;have l:=(Tally.jV k).subset;have e:decide (c∈a++b)=decide (c∈b):=decide_eq_decide.mpr ⟨fun h=>(XF.mp h).elim (fun h=>absurd (sa h) ((zaM G).mp f).2) id,fun h=>XD _ h⟩;rw[zaK fun c f=>(XF.mp f).elim (fun h=>yK G c (sa h)) fun h=>zaL (l h),zcV fun c f=>l f,zbg G,e,SK]
 cases k:(jW rs).isEmpty with
 | true =>
  rw[if_pos rfl];refine Tally.zmS f (zef rs) (fun a g b d=>?_) s;rw[i a g b d,k,Tt];exact congrArg _ (decide_eq_decide.mpr Iff.rfl)
 | false =>
  rw[if_neg (by decide),Tally.zbY fun S j=>?_]
  ·rfl
  ·rw[Tally.zaC] at j;obtain⟨b,d,j⟩:=Sh.mp j;obtain⟨a,g,rfl⟩:=Xv.mp j;rw[i a g b d,k,UC]
end
theorem zfa (A B:List (List (Nat×Nat)))(g:List (Nat×Nat)):(A++g::B).flatten.Perm ((A++B).flatten++g):=by
 rw[Ws,Ws,WN,WY];exact(T9 (l₁:=g) (l₂:=B.flatten)).append_left _
theorem ziK {rs:List Str}{A B:List (List (Nat×Nat))}{g:List (Nat×Nat)}(G:Parts.Good (clA rs) (qk rs) (A++g::B)){c:Nat×Nat}(i:c∈g):Pour.Zh (Tally.tl (A++B).flatten (Tally.yt (qZ rs) (A++B))) (Tally.tl g fun S=>qZ rs g S&&decide (c∈S))=Tally.tl ((A++B).flatten++g) fun S=>Tally.yt (qZ rs) (A++B) S&&(qZ rs g S&&decide (c∈S)):=by
 have j:=zfa A B g;have o:((A++B).flatten++g).Nodup:=j.nodup_iff.mp G.nd;have n:∀x∈(A++B).flatten++g,x∈zP rs:=fun x d=>yK G x (j.mem_iff.mpr d);have f:g∈A++g::B:=by simp
 have e:∀x∈A++B,x∈A++g::B:=fun x d=>by
  rcases XF.mp d with h | h
  ·exact WW _ h
  ·exact XD _ (XT _ h)
 have L:=zaJ G f;have m:Tally.Loc (zP rs) (fun S=>qZ rs g S&&decide (c∈S)) g:=by
  refine⟨fun a b h=>?_,fun a b h=>?_⟩
  ·show (qZ rs g (a++b)&&decide (c∈a++b))=(qZ rs g b&&decide (c∈b));rw[L.l a b h,show decide (c∈a++b)=decide (c∈b) from decide_eq_decide.mpr ⟨fun k=>(XF.mp k).elim (fun k=>absurd i (h c k).2) id,fun k=>XD _ k⟩]
  ·show (qZ rs g (a++b)&&decide (c∈a++b))=(qZ rs g a&&decide (c∈a));rw[L.r a b h,show decide (c∈a++b)=decide (c∈a) from decide_eq_decide.mpr ⟨fun k=>(XF.mp k).elim id fun k=>absurd i (h c k).2,fun k=>WW _ k⟩]
 exact Tally.zcA o n (fun x d=>zaJ G (e x d)) m
theorem zm4 {rs:List Str}{A B:List (List (Nat×Nat))}{g:List (Nat×Nat)}(G:Parts.Good (clA rs) (qk rs) (A++g::B)){c:Nat×Nat}(f:c∈g)(s:Nat) :
  (if (jW rs).isEmpty=true then Tally.dl (Pour.Zh (Tally.tl (A++B).flatten (Tally.yt (qZ rs) (A++B))) (Tally.tl g fun S=>qZ rs g S&&decide (c∈S))) (yw rs).length ((s:Nat):Int) else 0)=((Tally.T (zP rs) (fun S=>jL rs S&&decide (c∈S)) s:Nat):Int):=by
 have o:=zfa A B g;have q:∀x∈(A++B).flatten++g,x∈zP rs:=fun x r=>yK G x (o.mem_iff.mpr r);have m:g∈A++g::B:=by simp
 rw[ziK G f];have hP:(zP rs).Perm ((A++B).flatten++g++yw rs):=(zbh G).trans (o.append_right _);rw[Tally.ze2 hP (zlx G c)];have j:∀a∈Subs.subs ((A++B).flatten++g),∀b∈Subs.subs (yw rs),(jL rs (a++b)&&decide (c∈a++b))=((jW rs).isEmpty&&(Tally.yt (qZ rs) (A++B) a&&(qZ rs g a&&decide (c∈a)))):=fun a i b l=>by
  have sa:=(Tally.jV i).subset;have n:=(Tally.jV l).subset;have e:decide (c∈a++b)=decide (c∈a):=decide_eq_decide.mpr ⟨fun h=>(XF.mp h).elim id fun h=>absurd (Wr.mpr ⟨g,m,f⟩) ((zaM G).mp (n h)).2,fun h=>WW _ h⟩;have p:Tally.yt (qZ rs) (A++g::B) a=(Tally.yt (qZ rs) (A++B) a&&qZ rs g a):=by
   rw[Tally.zcz,Tally.zcz];show (_&&(qZ rs g a&&Tally.yt (qZ rs) B a))=_;rw[R9 (qZ rs g a),SK]
  rw[zaK fun c f=>(XF.mp f).elim (fun h=>q c (sa h)) fun h=>zaL (n h),zcV fun c f=>n f,<- zbg G,p,e,SK,SK]
 cases l:(jW rs).isEmpty with
 | true =>
  rw[if_pos rfl];refine Tally.znD (fun a i b d=>?_) s;show (jL rs (a++b)&&decide (c∈a++b))=_;rw[j a i b d,l,Tt]
 | false =>
  rw[if_neg (by decide),Tally.zbY fun S k=>?_]
  ·rfl
  ·rw[Tally.zaC] at k;obtain⟨b,d,k⟩:=Sh.mp k;obtain⟨a,i,rfl⟩:=Xv.mp k;rw[j a i b d,l,UC]
def zoX (K:X5):Sp:=fun f H Q _=>∃(a b:Addr) (c d:List Int),f=[.ref a,.ref b]/\SqL K H a (iL c)/\SqL K H b (iL d)/\1<=c.length/\c.length<=70/\1<=d.length/\d.length<=70/\zjS c/\zjS d /\
 ∀(l:Addr) (e:Hp),H l=none->e l=some (.lst (iL (Pour.Zh c d)))->zu H e->Q (.ref l) e
def xx (H:Hp):List V->List (List Int)->Prop:=WU fun v b=>∃a,v=V.ref a/\H a=some (.lst (iL b))
theorem xH {H c:Hp}(s:zu H c){d:List V}{b:List (List Int)}(f:xx H d b):xx c d b:=by
 induction f with
 | nil=>exact .nil
 | cons q _ g =>
  obtain⟨a,e,h⟩:=q;exact .cons ⟨a,e,s _ _ h⟩ g
theorem Qs {H:Hp}{b:List V}{a:List (List Int)}(h:xx H b a):b.length=a.length:=Paired.length h
theorem zly {H:Hp}{c:List V}{b:List (List Int)}{i:Nat}{v:V}(h:xx H c b)(e:c[i]?=some v):∃xs a,b[i]?=some xs/\v=V.ref a/\H a=some (.lst (iL xs)):=by
 obtain⟨S,h1,a,h2⟩:=zcf h e;exact⟨S,a,h1,h2⟩
structure zhz (xss:List (List Int)):Prop where
 one:∀xs∈xss,1<=xs.length/\xs.length<=70/\zjS xs
 acc:∀i,1<=((xss.take i).foldl Pour.Zh [1]).length/\((xss.take i).foldl Pour.Zh [1]).length<=70/\zjS ((xss.take i).foldl Pour.Zh [1])
def zoY:Sp:=fun f H Q _=>∃(c:Addr) (e:List V) (a:List (List Int)),f=[.ref c]/\H c=some (.lst e)/\xx H e a/\zhz a /\
 ∀(d:Addr) (b:Hp),H d=none->b d=some (.lst (iL (a.foldl Pour.Zh [1])))->zu H b->Q (.ref d) b
def Small (rs:List Str):Prop:=∀a,Parts.Good (clA rs) (qk rs) a->∀g∈a,g.length<=14
theorem zlz {rs:List Str}(h:(zP rs).length<=14):Small rs:=fun c G g a=>by
 have:=Parts.yr (xE (G.srt g a)) fun x b=>yK G x (Wr.mpr ⟨g,a,b⟩);lia
def tls (rs:List Str)(gs:List (List (Nat×Nat))):List (List Int):=gs.map fun g=>Tally.tl g (qZ rs g)
theorem zlA {rs:List Str}(R:Rows bd.cps.toList rs){gs:List (List (Nat×Nat))}(G:Parts.Good (clA rs) (qk rs) gs):zhz (tls rs gs):=by
 have a:=YS G R;refine⟨fun h f=>?_,fun i=>?_⟩
 ·obtain⟨g,d,rfl⟩:=Xv.mp f;have c:g.length<=64:=X6 (Vz (VH d)) a;rw[Tally.j8];exact⟨by lia,by lia,Yl c⟩
 ·unfold tls;rw[<- Tu,zjR G i];have b:(gs.take i).flatten.length<=64:=by
   have e:gs.flatten=(gs.take i).flatten++(gs.drop i).flatten:=by rw[<- Ws,Wy]
   rw[e,XW] at a;lia
  rw[Tally.j8];exact⟨by lia,by lia,Yl b⟩
def zoZ:Sp:=fun e H Q _=>∃(p l:Addr) (a:List Str) (n:Int),e=[.ref p]/\zY H p l a n/\Rows bd.cps.toList a/\Small a /\
 ∀(d:Addr) (b:List (List (Nat×Nat))) (c:Hp),H d=none->Parts.Good (clA a) (qk a) b->Up2 (heads b)->c d=some (.lst (iL (Tally.tl b.flatten (Tally.yt (qZ a) b))))->zu H c->Q (.ref d) c
theorem JI:zF ["one","other","counts","i","many","j","more"] ["one","other"] (zg zaD):=⟨rfl,rfl,rfl,by decide +kernel,rfl,by decide +kernel,by decide +kernel⟩
theorem zeg (T:Txt mg)(D:zm K mg "poured" zaD ["one","other"] f fd):qt P w K mg base CX0 1 f fd ["one","other"] (zoX K):=by
 refine D.F.ok JI (fun vs H Q E h=>?_) (fun ae A ac s H vs Q E hr h=>?_)
 ·obtain⟨a,b,xs,k,rfl,_⟩:=h;rfl
 ·obtain⟨a,b,xs,k,rfl,O,U,x1,x2,y1,y2,bx,bY,q⟩:=h;refine⟨_,(zd (zv (i:=2) JI.nd rfl (XM rfl) (zx zgW (qc (za zk zb)) (zx xV (zx qa (zq zH (by rfl) T.jz WX (za (pvS 0) zb)) (zq zH (by rfl) T.jz WX (za (pvS 1) zb))) zk)))
   (zd (qw W7 rfl (Zq (by rfl) T.yd (za (pvS 0) zb)) (JJ rfl (zV (zo (i:=3) JI.nd rfl (XM rfl)) (zV (zo (i:=4) JI.nd rfl (XM rfl)) yp))) (zf (qw W7 rfl (Zq (by rfl) T.yd (za (pvS 1) zb)) (JJ rfl (zV (zo (i:=5) JI.nd rfl (XM rfl)) (zV (zo (i:=6) JI.nd rfl (XM rfl)) yp))) (zf (zh8 (pvS 2) (zx qa (pvS 3) (pvS 5)) zfz (zx yI (pvS 4) (pvS 6)) zka set_list)))))
   (zf (zI (pvS 2))))),?_⟩
  refine⟨sz_1,fun l0 Y=>?_⟩;have s0:zu H (upd H l0 (.lst [.int 0])):=ze Y;refine⟨_,rfl,a,_,rfl,.inl (s0.seq O),_,rfl,b,_,rfl,.inl (s0.seq U),_,_,rfl,rfl,_,_,rfl,rfl,l0,_,_,rfl,rfl,zc,?_,?_,?_,fun p hp=>?_⟩
  ·rw[Y1,Y1];lia
  ·rw[Y1,Y1];lia
  ·rw[Y1,Y1];exact X6 (show 1*((xs.length:Int)+(k.length:Int)-1).toNat<=140 by lia) (by decide)
  have en:(((iL xs).length:Nat)+((iL k).length:Nat)-1:Int).toNat=xs.length+k.length-1:=by
   rw[Y1,Y1];lia
  rw[en,zgl,<- Pour.zk5];have s1:zu H (upd (upd H l0 (.lst [.int 0])) p (.lst (iL (Pour.st xs k 0 0)))):=s0.trans (ze hp);have G:H p=none:=s0.free hp;refine⟨_,rfl,a,rfl,⟨_,s1.seq O⟩,?_⟩;refine Zr (K:=K) (l:=a) (xs:=iL xs) (fun i m n=>∃v3 v4 r u,m=[some (.ref a),some (.ref b),some (.ref p),v3,v4,r,u]/\zu H n/\n p=some (.lst (iL (Pour.st xs k i 0))))
   ⟨_,_,_,_,rfl,s1,zc⟩ (fun i m n _ ⟨_,_,_,_,_,s,_⟩=>s.seq O) ?_ ?_
  ·rintro i v t m L hv ht ⟨v3,v4,r,u,rfl,M,d⟩;obtain⟨x,hx,rfl⟩:=ints_get hv;have st:zu L (upd L t (.tup [.int (i:Nat),.int x])):=ze ht;refine⟨t,_,rfl,SqT.of zc,rfl,_,_,rfl,_,_,rfl,rfl,?_⟩;refine⟨_,rfl,b,rfl,⟨_,(M.trans st).seq U⟩,?_⟩;refine Zr (K:=K) (l:=b) (xs:=iL k) (fun j m n=>∃r u,m=[some (.ref a),some (.ref b),some (.ref p),some (.int (i:Nat)),some (.int x),r,u]/\zu H n/\n p=some (.lst (iL (Pour.st xs k i j))))
    ⟨_,_,rfl,M.trans st,st _ _ d⟩ (fun j m n _ ⟨_,_,_,s,_⟩=>s.seq U) ?_ ?_
   ·rintro j v t2 m N ab aa ⟨r,u,rfl,s3,g⟩;obtain⟨y,hy,rfl⟩:=ints_get ab;have J:zu N (upd N t2 (.tup [.int (j:Nat),.int y])):=ze aa;have I:=J _ _ g;have hi:i<xs.length:=(XZ.mp hx).1;have hj:j<k.length:=(XZ.mp hy).1;have B:((i:Int)+(j:Int)).toNat=i+j:=by lia
    refine⟨t2,_,rfl,SqT.of zc,rfl,_,_,rfl,_,_,rfl,rfl,?_⟩;refine⟨_,rfl,_,rfl,_,rfl,_,_,rfl,rfl,p,_,_,_,rfl,rfl,SqL.of I,jT (by lia) (by rw[B];exact ziG (Pour.zhi (by lia))),?_⟩;refine⟨_,rfl,_,rfl,_,_,rfl,rfl,zpU (bx _ (X4 hx)) (bY _ (X4 hy)),_,_,rfl,rfl,p,_,_,_,rfl,rfl,I,zcQ (by lia) (by rw[Y1,Pour.zhh];lia),?_⟩;refine⟨_,_,rfl,fun c o e=>?_,?_⟩
    ·have hc:c≠p:=fun z=>by
      subst z;rw[G] at e;cases e
     rw[zj hc];exact J _ _ (s3 _ _ e)
    ·rw[zc,B,<- Pour.zmO hx hy];show some (HO.lst ((UD V.int _).set _ (V.int _)))=_;rw[<- Oo]
   ·rintro m N ⟨r,u,rfl,s3,g⟩;rw[Y1,Pour.zoM] at g;exact⟨_,_,_,_,rfl,s3,g⟩
  ·rintro m L ⟨v3,v4,r,u,rfl,M,d⟩;rw[Y1,Pour.zoN] at d;exact⟨_,rfl,q p L G d M⟩
theorem x6:zF ["lists","counts","others"] ["lists"] (zg JA):=⟨rfl,rfl,rfl,by decide +kernel,rfl,by decide +kernel,by decide +kernel⟩
theorem Zk (T:Txt mg)(Z:Prog K mg)(D:zm K mg "all_poured" JA ["lists"] f fd):qt P w K mg base CX0 2 f fd ["lists"] zoY:=by
 obtain⟨ab,aa,z⟩:=Z.poured;refine D.F.ok x6 (fun vs H Q E h=>?_) (fun M A r s H vs Q E O h=>?_)
 ·obtain⟨l,J,k,rfl,_⟩:=h;rfl
 ·obtain⟨l,J,k,rfl,g,I,ok,q⟩:=h;refine⟨_,(zd (zv (i:=1) x6.nd rfl (XM rfl) (qc (za zk zb)))
   (zd (qw W7 rfl (zM (pvS 0)) (zo (i:=2) x6.nd rfl (XM rfl)) (zf (zv (i:=1) x6.nd rfl (XM rfl) (pc0 (zeg T z) O z (za (pvS 1) (za (pvS 2) zb))))))
   (zf (zI (pvS 1))))),?_⟩
  refine⟨sz_1,fun B e=>?_⟩;have s0:zu H (upd H B (.lst [.int 1])):=ze e;refine⟨_,rfl,l,rfl,⟨_,SqL.of (s0 _ _ g)⟩,?_⟩;refine yY (K:=K) (a:=l) (xs:=J) (fun i m n=>∃(c:Addr) (u:Option V),m=[some (.ref l),some (.ref c),u]/\zu H n/\H c=none/\n c=some (.lst (iL ((k.take i).foldl Pour.Zh [1]))))
   ⟨B,_,rfl,s0,e,zc⟩ (fun i m n _ ⟨_,_,_,y,_⟩=>SqL.of (y _ _ g)) ?_ ?_
  ·rintro i v m x U ⟨c,u,rfl,s1,G,b⟩;obtain⟨xs,L,j,rfl,o⟩:=zly I U;obtain⟨Y,o2,o3⟩:=ok.one xs (X4 j);obtain⟨p1,p2,p3⟩:=ok.acc i;refine⟨_,rfl,_,rfl,c,L,_,xs,rfl,SqL.of b,SqL.of (s1 _ _ o),p1,p2,Y,o2,p3,o3,fun d H2 N p s2=>?_⟩;refine⟨d,_,rfl,s1.trans s2,s1.free N,?_⟩;rw[p,Xx,j,SG];rfl
  ·rintro m x ⟨c,u,rfl,s1,G,b⟩;rw[Qs I,Xz] at b;exact⟨_,rfl,q c x G b s1⟩
theorem zcX:zF ["board"] ["board"] (zg yD):=⟨rfl,rfl,rfl,by decide +kernel,rfl,by decide +kernel,by decide +kernel⟩
theorem zcY (T:Txt mg)(Z:Prog K mg)(D:zm K mg "near_counts" yD ["board"] f fd):qt P w K mg base CX0 6 f fd ["board"] zoZ:=by
 obtain⟨ar,ao,zT⟩:=Z.around;obtain⟨Qt,Yn,zw⟩:=Z.sign_at;obtain⟨Yo,Zc,zB⟩:=Z.cells_of;obtain⟨ah,QE,zE⟩:=Z.open_cells;obtain⟨ak,ai,qi⟩:=Z.number_at;obtain⟨ap,am,jr⟩:=Z.numbers_of;obtain⟨av,au,yg⟩:=Z.needs_at;obtain⟨ay,aw,yT⟩:=Z.may_fit;obtain⟨al,aj,jh⟩:=Z.part_layings;obtain⟨az,ax,jC⟩:=Z.counted;obtain⟨a2,a3,QF⟩:=Z.part_counts;obtain⟨Yz,ZS,zU⟩:=Z.closed_around;obtain⟨a4,a1,ZN⟩:=Z.joined;obtain⟨a6,a5,aa⟩:=Z.parts;obtain⟨aq,an,jM⟩:=Z.all_poured;refine D.F.ok zcX (fun vs H Q E h=>?_) (fun af A ae s H vs Q E hr h=>?_)
 ·obtain⟨p,l,r,n,rfl,_⟩:=h;rfl
 ·obtain⟨p,l,r,n,rfl,b,R,sm,q⟩:=h;refine⟨_,(zf (zI (pc0 (Zk T Z jM) hr jM (za (qh (N:=["part","board"]) (src:=[none,some 0]) (zR.free (O:=(zg yD).names) (XN:=["board"]) rfl rfl ⟨_,rfl⟩ rfl rfl (by decide +kernel) (by decide +kernel) (by decide +kernel) rfl (by decide +kernel)) rfl (zM (pc0 (zgc T aa zT zw zB zE zU ZN) hr aa (za (pvS 0) zb))) (fun _ _ _ _ _=>(zo (i:=0) (by show W3 (["part","board"]:List Str);decide +kernel) rfl (XM rfl))) (fun _ _ _ _ _=>qU) (fun _ _ _ _ _=>(pc0 (zcT T QF zT zw zB zE qi jr yg yT jh jC) hr QF (za (pvS 1) (za (pvS 0) zb))))) zb)))),?_⟩;refine⟨_,rfl,p,l,r,n,rfl,b,R,fun d ws m H1 hd J hG _ _ G up s1=>⟨d,rfl,⟨_,SqL.of J⟩,fun z hz=>?_⟩⟩;have ag:m.length<=64:=X6 (Parts.YN G.ne) (YS G R);refine qj (K:=K) (a:=d) (xs:=ws) (fun j x H'=>∃(u0:Option V) (B:List V),x=[u0,some (.ref p)]/\zu H1 H'/\H' z=some (.lst B)/\(∀v∈B,∀a,v=V.ref a->a≠z)/\xx H' B (tls r (m.take j)))
   ⟨_,[],rfl,ze hz,zc,(fun _ h=>nomatch h),.nil⟩ (fun j x H' _ ⟨_,_,_,y,_⟩=>SqL.of (y _ _ J)) ?_ ?_
  ·rintro j v x H2 hv ⟨u0,B,rfl,U,u,L,k⟩;obtain⟨g,hg,ga,ug,rfl,ac,ab⟩:=yM.get (hG.mono U) hv;have gm:=X4 hg;have il:=(XZ.mp hg).1;unfold Ja;refine QY ?_;refine⟨_,rfl,_,rfl,p,l,ga,r,n,ug,g,rfl,(b.mono s1).mono U,R,ac,ab,xE (G.srt g gm),sm m G g gm,fun e H3 he c Y=>?_⟩;rw[zee] at c;have ez:e≠z:=fun y=>by
    subst y;rw[u] at he;cases he
   refine⟨_,Y _ _ u,?_,_,B++[.ref e],rfl,fun b o e'=>?_,zc,fun v hv a ea=>?_,?_⟩
   ·rw[Qs k];unfold tls;rw[Y1,XE];exact XI (show _<=64 by lia) (by decide)
   ·rw[zj (zh e' hz)];exact Y _ _ (U _ _ e')
   ·rcases XF.mp hv with hv | hv
    ·exact L v hv a ea
    ·have:v=V.ref e:=by simpa using hv
     rw[this] at ea;cases ea;exact ez
   ·have t1:tls r (m.take (j+1))=tls r (m.take j)++[Tally.tl g (qZ r g)]:=by
     unfold tls;rw[Xx,hg,Xk];rfl
    rw[t1];have into:∀{us:List V} {I:List (List Int)},xx H3 us I->(∀v∈us,∀a,v=V.ref a->a≠z)->xx (upd H3 z (.lst (B++[.ref e]))) us I:=by
     intro us I h;induction h with
     | nil=>exact fun _=>.nil
     | cons h t ih =>
      intro L;obtain⟨a,rfl,ha⟩:=h;exact .cons ⟨a,rfl,by rw[zj (L _ XS a rfl)];exact ha⟩ (ih fun v hv=>L v (XT _ hv))
    exact Paired.snoc (into (xH Y k) L) ⟨e,rfl,by rw[zj ez];exact c⟩
  rintro x H2 ⟨u0,B,rfl,U,u,_,k⟩;rw[hG.length,Xz] at k;refine⟨z,B,tls r m,rfl,u,k,zlA R G,fun e H3 he c Y=>?_⟩;have M:=s1.trans U;rw[show (tls r m).foldl Pour.Zh [1]=Tally.tl m.flatten (Tally.yt (qZ r) m) from zgn G] at c;exact q e m H3 (M.free he) G up c (M.trans Y)
def chV (n k:Int):Int:=if 0<=k/\k<=n then ((Choose.ch n.toNat k.toNat:Nat):Int) else 0
theorem zm6 (m:Nat)(k:Int):chV (m:Nat) k=Tally.chZ m k:=by
 unfold chV Tally.chZ;rw[WS];by_cases h0:k<0
 ·rw[if_neg (by lia),if_pos h0]
 ·rw[if_neg h0];by_cases h1:k<=(m:Int)
  ·rw[if_pos ⟨by lia,h1⟩]
  ·rw[if_neg (by lia),Choose.za9 m k.toNat (by lia)];rfl
theorem zm7 {n k:Int}(h:n<=64):(chV n k).natAbs<2^8000:=by
 have h1:(2:Nat)^64<2^8000:=OX (by decide) (by decide);have a:(0:Nat)<2^8000:=XI (W5 _) h1;unfold chV;split
 ·rw[S9];exact XI (X6 (Choose.zqb _ _) (Wa (by decide) (show n.toNat<=64 by lia))) h1
 ·exact a
def dlV (xs:List Int)(m st:Int):Int:=Pour.S (fun k=>Pour.F xs k*chV m (st-(k:Nat))) xs.length
theorem zfd (xs:List Int)(m:Nat)(st:Int):dlV xs (m:Nat) st=Tally.dl xs m st:=by
 unfold dlV Tally.dl;exact Pour.J8 _ fun i _=>by rw[zm6]
theorem znG (h:Nat->Int):∀n,((XC n).map h).sum=Pour.S h n
 | 0=>rfl
 | n+1=>by
  rw[Vd,Xk,List.sum_append,znG h n];show _+(h n+0)=Pour.S h n+h n;lia
def zq5:Sp:=fun a H Q _=>∃(n k:Int),a=[.int n,.int k]/\n<=64/\Q (.int (chV n k)) H
def zm8:Sp:=fun d H Q _=>∃(c:Addr) (a:List Int) (m st:Int),d=[.ref c,.int m,.int st]/\H c=some (.lst (iL a))/\zjS a/\a.length<=150/\m<=64/\∀b,zu H b->Q (.int (dlV a m st)) b
def jU (rs:List Str)(n:Int):Int:=((Tally.T (zP rs) (jL rs) n.toNat:Nat):Int)
def zm9:Sp:=fun c H Q _=>∃(p l:Addr) (a:List Str) (n:Int),c=[.ref p]/\zY H p l a n/\Rows bd.cps.toList a/\Small a/\0<=n/\∀b,zu H b->Q (.int (jU a n)) b
theorem Yp:zF ["n","k","found","step"] ["n","k"] (zg Qh):=⟨rfl,rfl,rfl,by decide +kernel,rfl,by decide +kernel,by decide +kernel⟩
theorem zhD (T:Txt mg)(D:zm K mg "choices" Qh ["n","k"] f fd):qt P w K mg base CX0 1 f fd ["n","k"] zq5:=by
 refine D.F.ok Yp (fun o H Q E h=>?_) (fun j A d s H o Q E r h=>?_)
 ·obtain⟨n,k,rfl,_⟩:=h;rfl
 ·obtain⟨n,k,rfl,u,q⟩:=h;refine⟨_,(zd (jc (Zf (zfs ze0 ze0 zk (pvS 1) (pvS 0))) (zf (zI zk)) zZ)
   (zd (zv (i:=2) Yp.nd rfl (XM rfl) zk)
   (zd (qw W7 rfl (qN (by rfl) T.ji (za (pvS 1) zb)) (zo (i:=3) Yp.nd rfl (XM rfl)) (zf (zv (i:=2) Yp.nd rfl (XM rfl) (zx qO (zx yI (pvS 2) (zx xV (pvS 0) (pvS 3))) (zx qa (pvS 3) zk)))))
   (zf (zI (pvS 2)))))),?_⟩
  refine⟨_,rfl,_,_,rfl,rfl,_,rfl,?_⟩;unfold chV at q;refine zeG (fun c=>?_) (fun c=>?_)
  ·have b:(0:Int)<=k:=of_decide_eq_true c;refine⟨_,rfl,_,_,rfl,rfl,_,rfl,?_⟩;by_cases c:k<=n
   ·rw[if_pos ⟨b,c⟩] at q;rw[decide_eq_true c];refine Zp ?_;refine⟨_,rfl,k,rfl,by lia,by lia,?_⟩;refine qD (lo:=0) (n:=k.toNat) (fun i g a=>∃v,g=[some (.int n),some (.int k),some (.int (Choose.ch n.toNat i)),v]/\a=H) ⟨_,by rw[Choose.Qf];rfl,rfl⟩ ?_ ?_
    ·rintro i g a p ⟨v,rfl,rfl⟩;refine⟨_,rfl,_,rfl,_,rfl,_,_,rfl,rfl,_,_,rfl,rfl,zdm (by lia) (by lia),_,rfl,_,_,rfl,rfl,_,_,rfl,rfl,yO.small (by lia) (by lia),?_⟩;refine⟨some (.int (0+(i:Int))),?_,rfl⟩;have e:=Choose.zmP (n:=n.toNat) (k:=i) (by lia);have l:((n.toNat:Nat):Int)=n:=Vu (by lia);rw[l] at e;have m:(Choose.ch n.toNat i:Int)*(n-(0+(i:Int)))/(0+(i:Int)+1)=Choose.ch n.toNat (i+1):=by
      rw[RO];exact e
     show [_,_,some (V.int ((Choose.ch n.toNat i:Int)*(n-(0+(i:Int)))/(0+(i:Int)+1))),_]=_;rw[m]
    ·rintro g a ⟨v,rfl,rfl⟩;exact⟨_,rfl,q⟩
   ·rw[if_neg (fun h=>c h.2)] at q;rw[decide_eq_false c];exact YD q
  ·have b:¬ (0:Int)<=k:=fun z=>c (decide_eq_true z);rw[if_neg (fun h=>b h.1)] at q;exact⟨_,rfl,YD q⟩
theorem zlF:zF ["counts","cells","stones"] ["counts","cells","stones"] (zg zaE):=⟨rfl,rfl,rfl,by decide +kernel,rfl,by decide +kernel,by decide +kernel⟩
theorem zc0 (T:Txt mg)(Z:Prog K mg)(D:zm K mg "dealt" zaE ["counts","cells","stones"] f fd):qt P w K mg base CX0 2 f fd ["counts","cells","stones"] zm8:=by
 obtain⟨ab,aa,e⟩:=Z.choices;refine D.F.ok zlF (fun vs H Q E h=>?_) (fun U A r s H vs Q E Y h=>?_)
 ·obtain⟨c,xs,m,st,rfl,_⟩:=h;rfl
 ·obtain⟨c,xs,m,st,rfl,v,M,xl,G,q⟩:=h;refine⟨_,(zf (zI (zq (zkn rfl) (by rfl) T.zqe PyProof.Rows.boot_sum (za (qh (N:=["k","many","cells","stones"]) (src:=[none,none,some 1,some 2]) (zR.free (O:=(zg zaE).names) (XN:=["counts","cells","stones"]) rfl rfl ⟨_,rfl⟩ rfl rfl (by decide +kernel) (by decide +kernel) (by decide +kernel) rfl (by decide +kernel)) rfl (Zq (by rfl) T.yd (za (pvS 0) zb)) (fun _ _ _ _ _=>(zeI (n:=2) (K:=K) (by rfl) rfl (zV (zo (i:=0) (by show W3 (["k","many","cells","stones"]:List Str);decide +kernel) rfl (XM rfl)) (zV (zo (i:=1) (by show W3 (["k","many","cells","stones"]:List Str);decide +kernel) rfl (XM rfl)) yp)))) (fun _ _ _ _ _=>qU) (fun _ _ _ _ _=>(zx yI (pvS 1) (pc0 (zhD T e) Y e (za (pvS 2) (za (zx xV (pvS 3) (pvS 0)) zb)))))) zb)))),?_⟩;refine⟨_,rfl,c,rfl,⟨_,SqL.of v⟩,fun z B=>?_⟩;refine zg1 (K:=K) (a:=c) (xs:=iL xs) (fun i g j=>(∃J u1,g=[J,u1,some (.int m),some (.int st)])/\zu H j/\j z=some (.lst (iL ((XC i).map fun k=>Pour.F xs k*chV m (st-(k:Nat)))))) ⟨⟨_,_,rfl⟩,ze B,zc⟩ (fun i g j _ ⟨_,d,_⟩=>SqL.of (d _ _ v)) ?_ ?_
  ·rintro i x tt g L hx l ⟨⟨J,u1,rfl⟩,d,b⟩;obtain⟨y,p,rfl⟩:=ints_get hx;have il:=(XZ.mp p).1;have I:=ze (o:=.tup [.int ((i:Nat):Int),.int y]) l;refine⟨tt,_,rfl,SqT.of zc,rfl,_,_,rfl,_,_,rfl,rfl,?_⟩;unfold zmq;refine YD ⟨_,rfl,_,rfl,_,rfl,_,rfl,_,_,rfl,rfl,m,_,rfl,G,_,_,rfl,rfl,zpU (M y (X4 p)) (zm7 G),_,I _ _ b,?_,⟨_,_,rfl⟩,fun b' o u=>?_,?_⟩
   ·rw[Y1,Y1,W6];exact Xy (show i<150 by lia) (by decide)
   ·rw[zj (zh u B)];exact I _ _ (d _ _ u)
   ·rw[zc,Vd,Xk];show _=some (HO.lst (iL (_++[Pour.F xs i*chV m (st-(i:Nat))])));rw[zm1,Pour.zmM p]
  ·rintro g L ⟨_,d,b⟩;refine⟨z,_,rfl,SqL.of b,?_⟩;rw[Y1,znG];exact q _ d
theorem zgq:zF ["board","near"] ["board"] (zg zb0):=⟨rfl,rfl,rfl,by decide +kernel,rfl,by decide +kernel,by decide +kernel⟩
theorem zlG (T:Txt mg)(Z:Prog K mg)(D:zm K mg "count" zb0 ["board"] f fd):qt P w K mg base CX0 7 f fd ["board"] zm9:=by
 obtain⟨an,al,zT⟩:=Z.around;obtain⟨Qt,Yn,zw⟩:=Z.sign_at;obtain⟨Yo,Zc,zB⟩:=Z.cells_of;obtain⟨aj,ah,qW⟩:=Z.closed;obtain⟨af,QE,zE⟩:=Z.open_cells;obtain⟨ai,ag,qi⟩:=Z.number_at;obtain⟨Yz,ZS,zU⟩:=Z.closed_around;obtain⟨av,au,j⟩:=Z.far;obtain⟨am,ak,Y⟩:=Z.bare_wrong;obtain⟨ao,ap,J⟩:=Z.near_counts;obtain⟨ar,aq,L⟩:=Z.dealt;refine D.F.ok zgq (fun vs H Q E h=>?_) (fun aa A x s H vs Q E g h=>?_)
 ·obtain⟨p,l,a,n,rfl,_⟩:=h;rfl
 ·obtain⟨p,l,a,n,rfl,b,R,sm,n0,q⟩:=h;refine⟨_,(zd (zv (i:=1) zgq.nd rfl (XM rfl) (pc0 (zcY T Z J) g J (za (pvS 0) zb)))
   (zd (jc (zG (xB g.units) (pc0 (QD T Y zT zw zB zU zE qi) g Y (za (pvS 0) zb)) (qc zb) (zQ _)) (zf (zI zk)) zZ)
   (zf (zI (pc0 (zc0 T Z L) g L (za (pvS 1) (za (zq zH (by rfl) T.jz WX (za (pc0 (zlj T j zT zw zB qW zE) g j (za (pvS 0) zb)) zb)) (za (qf qP (pvS 0) zk (fun _ _=>rfl)) zb)))))))),?_⟩
  refine⟨_,rfl,p,l,a,n,rfl,b,R,sm,fun d1 gs H1 ac G up B s1=>?_⟩;refine⟨_,rfl,p,l,a,n,rfl,b.mono s1,R,fun d2 w2 H2 ae I r U=>⟨JX,fun e he=>?_⟩⟩;have k:=ze (o:=.lst []) he;have O:=count_is G n.toNat;rw[Vu n0] at O;unfold jU at q;rw[<- O] at q;refine⟨.list ((jW a).map zp),.list [],.lst (SqL.of (k _ _ I)) (zC.rdv (N:=fun _=>True) (Cel.rdn (Cel.mono k r))),.lst (SqL.of zc) .nil,ze6 _ [],_,rfl,?_⟩;have ee:(if true=true then !PyData.eqv (.list ((jW a).map zp)) (.list []) else W1 (.list ((jW a).map zp)) (.list []))=!(jW a).isEmpty:=by
   show (!PyData.eqv _ _)=_;rw[eq_nil]
  rw[ee];have c:=(s1.trans U).trans k;have d:=k _ _ (U _ _ B);generalize upd H2 e (.lst [])=H3 at *
  cases hb:(jW a).isEmpty with
  | false =>
   rw[hb,if_neg XY] at q;exact YD (q _ c)
  | true =>
   rw[hb,if_pos rfl] at q;refine Zp ?_;have M:=b.mono c;refine⟨_,rfl,_,rfl,p,l,a,n,rfl,M,R,fun d4 z H4 _ v u y=>⟨d4,_,rfl,.inl (SqL.of v),?_⟩⟩;have hl:=u.length;have ab:(yw a).length<=64:=X6 (Xm _ _) (qR (p:=qG) R);have m:=YS G R;refine⟨_,rfl,p,_,1,_,rfl,rfl,SqT.of (M.mono y).tp,rfl,d1,_,(z.length:Nat),n,rfl,y _ _ d,Yl m,by rw[Tally.j8];lia,by lia,fun H' s'=>?_⟩;rw[hl,zfd];exact q _ ((c.trans y).trans s')
theorem zdA:zF ["found","greatest","cell"] ["found","greatest","cell"] (zg xj):=⟨rfl,rfl,rfl,by decide +kernel,rfl,by decide +kernel,by decide +kernel⟩
theorem zdB {f1:Addr}{U:Xo}(T:Txt mg)(D:zm K mg "counted_at" xj ["found","greatest","cell"] f fd)(jC:zm K mg "counted" JH ["found","greatest"] f1 U):qt P w K mg base CX0 2 f fd ["found","greatest","cell"] zm2:=by
 refine D.F.ok zdA (fun vs H Q E h=>?_) (fun af A ae s H vs Q E hr h=>?_)
 ·obtain⟨M,ca,us,B,N,g,c,rfl,_⟩:=h;rfl
 ·obtain⟨M,ca,us,B,N,g,c,rfl,u,hL,hk,Y,kl,aa,q⟩:=h;refine⟨_,(zf (zI (pc0 (Q0 T jC) hr jC (za (qh (N:=["laying","cell"]) (src:=[none,some 2]) (zR.free (O:=(zg xj).names) (XN:=["found","greatest","cell"]) rfl rfl ⟨_,rfl⟩ rfl rfl (by decide +kernel) (by decide +kernel) (by decide +kernel) rfl (by decide +kernel)) rfl (zM (pvS 0)) (fun _ _ _ _ _=>(zo (i:=0) (by show W3 (["laying","cell"]:List Str);decide +kernel) rfl (XM rfl))) (fun _ _ _ _ _=>(qg (zG (j3 (K:=K) (by rfl) hr.units) (pvS 1) (pvS 0) (by rfl)))) (fun _ _ _ _ _=>(pvS 0))) (za (pvS 1) zb))))),?_⟩;refine⟨_,rfl,M,rfl,⟨_,SqL.of u⟩,fun z hz=>?_⟩;refine qj (K:=K) (a:=M) (xs:=us) (fun j p G=>∃(u0:Option V) (n:List V),p=[u0,some (.ref ca)]/\zu H G/\G z=some (.lst n)/\jB (fun a=>a≠z) G n ((B.take j).filter (xG c)))
   ⟨_,[],rfl,ze hz,zc,.nil⟩ (fun j p G _ ⟨_,_,_,y,_⟩=>SqL.of (y _ _ u)) ?_ ?_
  ·rintro j v p H1 hv ⟨u0,n,rfl,s1,m,l⟩;obtain⟨k,L,wa,x,rfl,_,r,t1⟩:=ZP hL hv;have jl:j<B.length:=(XZ.mp x).1;have I:(B.take (j+1)).filter (xG c)=(B.take j).filter (xG c)++if xG c k=true then [k] else []:=by
    rw[Xx,x,Xb];congr 1;show Ux _ [k]=_;rw[WV];split<;>rfl
   refine⟨_,rfl,_,rfl,zp c,k.map pD,.tup (SqT.of (s1 _ _ aa)) (.cons (.int _) (.cons (.int _) .nil)),.lst (SqL.of (s1 _ _ r)) (zaI (jS s1 t1)),rfl,zcJ _,(by show 1<=60;decide),_,rfl,?_⟩;have ei:(if false=true then !(k.map pD).any (fun z=>W1 z (zp c)) else (k.map pD).any fun z=>W1 z (zp c))=xG c k:=zht k c;rw[ei];by_cases J:xG c k=true
   ·rw[if_pos J] at I;refine jX J ?_;have yl:n.length<=16384:=by
     rw[jo l];refine X6 (Xm _ _) ?_;rw[XE];lia
    refine⟨_,rfl,n,m,XI yl (by decide),_,n++[.ref L],rfl,fun b o e=>?_,zc,?_⟩
    ·rw[zj (zh e hz)];exact s1 _ _ e
    ·rw[I];have nz:L≠z:=zh r hz;exact ZO (xF m (fun _ h=>h) l) (.cons ⟨L,wa,rfl,nz,by rw[zj nz];exact s1 _ _ r,yS m (jS s1 t1)⟩ .nil)
   ·rw[if_neg J,Xc] at I;refine jE (XB.mpr J) ?_;exact⟨_,n,rfl,s1,m,by rw[I];exact l⟩
  rintro p H1 ⟨u0,n,rfl,s1,m,l⟩;rw[jo hL,Xz] at l;refine⟨_,rfl,z,n,_,_,g,rfl,m,l,fun k ac=>hk k (XX.mp ac).1,Y,fun d H2 hd ab s2=>?_⟩;exact q d H2 (s1.free hd) ab (s1.trans s2)
def yh (c:Nat×Nat):List Key:=[.inl ((c.1:Nat):Int),.inl ((c.2:Nat):Int)]
theorem zgs {c d:Nat×Nat}(h:yh c=yh d):c=d:=by
 unfold yh at h;obtain⟨a,b⟩:=c;obtain⟨x,y⟩:=d;simp only[List.cons.injEq,Sum.inl.injEq,and_true] at h;obtain⟨h1,h2⟩:=h;have e:a=x:=by lia
 have f:b=y:=by lia
 rw[e,f]
def qL (rs:List Str)(n:Int)(c:Nat×Nat):Int:=((Tally.T (zP rs) (fun S=>jL rs S&&decide (c∈S)) n.toNat:Nat):Int)
theorem zhE {rs:List Str}{n:Int}{c:Nat×Nat}(h:(jW rs).isEmpty=false):qL rs n c=0:=by
 unfold qL;rw[Tally.zbY fun S a=>?_]
 ·rfl
 ·rw[zaK fun c b=>(Tally.jV a).subset b,h];rfl
theorem ziL (c:Nat×Nat)(q:List (Nat×Nat)):xG c (toL q)=decide (c∈q):=by
 unfold xG toL;rw[Ur,Wz,Wn,decide_eq_true_eq];constructor
 ·rintro⟨x,hx,h⟩;have f:toI x=toI c:=of_decide_eq_true h;have:x=c:=by
   unfold toI at f;obtain⟨a,b⟩:=x;obtain⟨d,e⟩:=c;simp only[Prod.mk.injEq] at f;have g:a=d:=by lia
   have i:b=e:=by lia
   rw[g,i]
  rw[<- this];exact hx
 ·intro h;exact⟨c,h,decide_eq_true rfl⟩
theorem zff (rs:List Str)(g:List (Nat×Nat))(c:Nat×Nat):Cnt.Jk g.length ((Yj rs g).filter (xG c))=Tally.tl g fun S=>qZ rs g S&&decide (c∈S):=by
 unfold Yj;rw[Ue,Tally.zfZ g.length toL (fun k=>Y1 _),RE];have e:(fun a=>(xG c∘toL) a&&Grow.fits (nearF rs) (jF rs) (JD rs g) g a)=fun S=>qZ rs g S&&decide (c∈S):=by
  funext S;show (xG c (toL S)&&qZ rs g S)=_;rw[ziL,R9]
 rw[e];exact Tally.ziB g _
theorem YU {A B:List (List (Nat×Nat))}(h:A.Sublist B):A.flatten.Sublist B.flatten:=by
 induction h with
 | slnil=>exact List.Sublist.refl _
 | cons a _ b=>rw[WN];exact List.Sublist.trans b (Rt _ _)
 | cons_cons a _ b=>rw[WN,WN];exact List.Sublist.append (List.Sublist.refl _) b
theorem ziM {rs:List Str}{gs A:List (List (Nat×Nat))}(G:Parts.Good (clA rs) (qk rs) gs)(h:A.Sublist gs):(tls rs A).foldl Pour.Zh [1]=Tally.tl A.flatten (Tally.yt (qZ rs) A) :=
 Tally.zhl (G.nd.sublist (YU h)) (fun c a=>yK G c ((YU h).subset a)) fun g b=>zaJ G (h.subset b)
theorem zo2 {rs:List Str}(R:Rows bd.cps.toList rs){gs A:List (List (Nat×Nat))}(G:Parts.Good (clA rs) (qk rs) gs)(h:A.Sublist gs):zhz (tls rs A):=by
 have a:=YS G R;refine⟨fun j f=>?_,fun i=>?_⟩
 ·obtain⟨g,d,rfl⟩:=Xv.mp f;have c:g.length<=64:=X6 (Vz (VH (h.subset d))) a;rw[Tally.j8];exact⟨by lia,by lia,Yl c⟩
 ·have h2:=(UQ i A).trans h;have e:(tls rs A).take i=tls rs (A.take i):=by
   unfold tls;rw[Tu]
  have b:(A.take i).flatten.length<=64:=X6 (YU h2).length_le a;rw[e,ziM G h2,Tally.j8];exact⟨by lia,by lia,Yl b⟩
def zlK (rs:List Str)(z:Addr)(H:Hp)(v:V)(g:List (Nat×Nat)):Prop:=∃a d c,v=V.ref a/\a≠z/\H a=some (.lst d)/\jB (fun b=>b≠z) H d c/\c.Perm (Yj rs g)
def zbj (rs:List Str)(z:Addr)(H:Hp):List V->List (List (Nat×Nat))->Prop:=WU (zlK rs z H)
theorem Zd {rs:List Str}{z:Addr}{H b:Hp}(s:zu H b){c:List V}{gs:List (List (Nat×Nat))}(d:zbj rs z H c gs):zbj rs z b c gs:=by
 induction d with
 | nil=>exact .nil
 | cons q _ f =>
  obtain⟨a,i,g,e,n,h,l,p⟩:=q;exact .cons ⟨a,i,g,e,n,s _ _ h,qd s l,p⟩ f
theorem zgt {rs:List Str}{z:Addr}{H:Hp}{xs ys:List V}(d:H z=some (.lst xs)){b:List V}{gs:List (List (Nat×Nat))}(c:zbj rs z H b gs):zbj rs z (upd H z (.lst ys)) b gs:=by
 induction c with
 | nil=>exact .nil
 | cons q _ f =>
  obtain⟨a,i,g,e,n,h,l,p⟩:=q;exact .cons ⟨a,i,g,e,n,by rw[zj n];exact h,xF d (fun _ h=>h) l,p⟩ f
theorem zej {rs:List Str}{z:Addr}{H:Hp}{a:List V}{gs:List (List (Nat×Nat))}{i:Nat}{v:V}(h:zbj rs z H a gs)(e:a[i]?=some v):∃g,gs[i]?=some g/\zlK rs z H v g:=zcf h e
theorem zhF {H:Hp}{z:Addr}{o:HO}{b:List V}{ks:List (List Int)}(c:xx H b ks)(n:∀v∈b,v≠V.ref z):xx (upd H z o) b ks:=by
 induction c with
 | nil=>exact .nil
 | cons q _ f =>
  obtain⟨a,e,h⟩:=q;exact .cons ⟨a,e,by rw[zj fun y=>n _ XS (by rw[e,y])];exact h⟩ (f fun v d=>n v (XT _ d))
theorem zc2 {H:Hp}:∀{b:List V} {a:List (List Int)} (i:Nat),xx H b a->xx H (b.take i) (a.take i)
 | _,_,0,_=>.nil
 | _,_,_+1,.nil=>.nil
 | _,_,i+1,.cons h t=>.cons h (zc2 i t)
theorem zc3 {H:Hp}:∀{b:List V} {a:List (List Int)} (i:Nat),xx H b a->xx H (b.drop i) (a.drop i)
 | _,_,0,h=>h
 | _,_,_+1,.nil=>.nil
 | _,_,i+1,.cons _ t=>zc3 i t
theorem zjX {H:Hp}{d:List V}{c:List (List Int)}{b:List V}{a:List (List Int)}(h:xx H d c)(k:xx H b a):xx H (d++b) (c++a):=zaY h k
theorem ziN (a:List (List Key×V))(k:List Key)(v:V):(putK a k v).length<=a.length+1:=by
 unfold putK;split
 ·rw[Y1];exact Wd _
 ·rw[XW];exact XV _
theorem zlL (l:List (List Key×V)):(Yw l).length<=l.length:=by
 have:∀(l a:List (List Key×V)),(l.foldl (fun a b=>putK a b.1 b.2) a).length<=a.length+l.length:=fun l=>by
  induction l with
  | nil=>exact fun a=>XV _
  | cons x r c =>
   intro a;rw[VT,Xr];have h1:=c (putK a x.1 x.2);have h2:=ziN a x.1 x.2;lia
 have:=this l [];rw[UX,V6] at this;exact this
theorem zo3 (xs:List V){i:Nat}(h:i<=xs.length):zah xs none (some ((i:Nat):Int))=xs.take i:=by
 unfold zah;rw[HT.zbP,Pn h];show (xs.drop 0).take (i-0)=_;rw[List.drop_zero,Nat.sub_zero]
def zlM:Sp:=fun f H Q _=>∃(p l:Addr) (b:List Str) (n:Int),f=[.ref p]/\zY H p l b n/\Rows bd.cps.toList b/\Small b/\0<=n /\
 ∀(d:Addr) (a:List (List Key×V)) (e:Hp),H d=none->e d=some (.dT a)->(∀c∈zP b,yC a (yh c)=some (V.int (qL b n c)))->zu H e->Q (.ref d) e
theorem zO:zF ["board","pieces","found","counts","rest","at_far","told","place","part","others","cell","near"] ["board"] (zg jb):=⟨rfl,rfl,rfl,by decide +kernel,rfl,by decide +kernel,by decide +kernel⟩
theorem zaQ (T:Txt mg)(Z:Prog K mg)(D:zm K mg "counts_by_cell" jb ["board"] f fd):qt P w K mg base CX0 7 f fd ["board"] zlM:=by
 obtain⟨db,cX,zT⟩:=Z.around;obtain⟨Qt,Yn,zw⟩:=Z.sign_at;obtain⟨Yo,Zc,zB⟩:=Z.cells_of;obtain⟨cR,cP,qW⟩:=Z.closed;obtain⟨cM,QE,zE⟩:=Z.open_cells;obtain⟨cQ,cN,qi⟩:=Z.number_at;obtain⟨cY,cT,jr⟩:=Z.numbers_of;obtain⟨de,dc,yg⟩:=Z.needs_at;obtain⟨di,df,yT⟩:=Z.may_fit;obtain⟨cS,cO,jh⟩:=Z.part_layings;obtain⟨dj,dg,jC⟩:=Z.counted;obtain⟨dv,dm,bN⟩:=Z.counted_at;obtain⟨Yz,ZS,zU⟩:=Z.closed_around;obtain⟨dp,dk,ZN⟩:=Z.joined;obtain⟨dt,dq,bM⟩:=Z.parts;obtain⟨dy,dw,bO⟩:=Z.far;obtain⟨da,cW,xo⟩:=Z.bare_wrong;obtain⟨dn,dh,YT⟩:=Z.poured;obtain⟨cZ,cU,jM⟩:=Z.all_poured;obtain⟨du,dr,Yq⟩:=Z.dealt;refine D.F.ok zO (fun vs H Q E h=>?_) (fun cE A cw s H vs Q E hr h=>?_)
 ·obtain⟨p,l,r,n,rfl,_⟩:=h;rfl
 ·obtain⟨p,l,r,n,rfl,b,R,sm,n0,q⟩:=h;have cb:(zP r).length<=64:=qR R;refine⟨_,(zd (zv (i:=1) zO.nd rfl (XM rfl) (pc0 (zgc T bM zT zw zB zE zU ZN) hr bM (za (pvS 0) zb)))
   (zd (Jy (i:=2) zO.nd rfl rfl (N:=["part","board"]) (src:=[none,some 0]) (zR.free (O:=(zg jb).names) (XN:=["board","pieces","found","counts","rest","at_far","told","place","part","others","cell","near"]) rfl rfl ⟨_,rfl⟩ rfl rfl (by decide +kernel) (by decide +kernel) (by decide +kernel) rfl (by decide +kernel)) rfl (zM (pvS 1)) (fun _ _ _ _ _=>(zo (i:=0) (by show W3 (["part","board"]:List Str);decide +kernel) rfl (XM rfl))) (fun _ _ _ _ _=>qU) (fun _ _ _ _ _=>(pc0 (Yy T jh zT zw zB zE qi jr yg yT) hr jh (za (pvS 1) (za (pvS 0) zb)))))
   (zd (jc (zG (xB hr.units) (pc0 (QD T xo zT zw zB zU zE qi) hr xo (za (pvS 0) zb)) (qc zb) (zQ _)) (zf (zI (jm (Jj hr.units hr.hd) (by rfl) T.zhm Su (za (qh (N:=["cell"]) (src:=[none]) (zR.plain rfl (by decide +kernel) (by decide +kernel) (by decide +kernel) rfl (by decide)) rfl (zM (pc0 (ZG T qW zB zw) hr qW (za (pvS 0) zb))) (fun _ _ _ _ _=>(zo (i:=0) (by show W3 (["cell"]:List Str);decide +kernel) rfl (XM rfl))) (fun _ _ _ _ _=>qU) (fun _ _ _ _ _=>(jy (za (pvS 0) (za zk zb))))) zb)))) zZ)
   (zd (Jy (i:=3) zO.nd rfl rfl (N:=["part","some"]) (src:=[none,none]) (zR.plain rfl (by decide +kernel) (by decide +kernel) (by decide +kernel) rfl (by decide)) rfl (zoo (by rfl) T.zqf (za (pvS 1) (za (pvS 2) zb))) (fun _ _ _ _ _=>(zeI (n:=2) (K:=K) (by rfl) rfl (zV (zo (i:=0) (by show W3 (["part","some"]:List Str);decide +kernel) rfl (XM rfl)) (zV (zo (i:=1) (by show W3 (["part","some"]:List Str);decide +kernel) rfl (XM rfl)) yp)))) (fun _ _ _ _ _=>qU) (fun _ _ _ _ _=>(pc0 (Q0 T jC) hr jC (za (pvS 1) (za (zq (zcu (K:=K) (by rfl)) (by rfl) T.jz WX (za (pvS 0) zb)) zb)))))
   (zd (zv (i:=4) zO.nd rfl (XM rfl) (pc0 (zlj T bO zT zw zB qW zE) hr bO (za (pvS 0) zb)))
   (zd (zv (i:=5) zO.nd rfl (Vm rfl) (pc0 (zc0 T Z Yq) hr Yq (za (pc0 (Zk T Z jM) hr jM (za (pvS 3) zb)) (za (zx xV (zq zH (by rfl) T.jz WX (za (pvS 4) zb)) zk) (za (zx xV (qf qP (pvS 0) zk (fun _ _=>rfl)) zk) zb)))))
   (zd (zv (i:=6) zO.nd rfl (XM rfl) (jm (Jj hr.units hr.hd) (by rfl) T.zhm Su (za (qh (N:=["cell","at_far"]) (src:=[none,some 5]) (zR.free (O:=(zg jb).names) (XN:=["board","pieces","found","counts","rest","at_far","told","place","part","others","cell","near"]) rfl rfl ⟨_,rfl⟩ rfl rfl (by decide +kernel) (by decide +kernel) (by decide +kernel) rfl (by decide +kernel)) rfl (zM (pvS 4)) (fun _ _ _ _ _=>(zo (i:=0) (by show W3 (["cell","at_far"]:List Str);decide +kernel) rfl (XM rfl))) (fun _ _ _ _ _=>qU) (fun _ _ _ _ _=>(jy (za (pvS 0) (za (pvS 1) zb))))) zb)))
   (zd (qw W7 rfl (Zq (by rfl) T.yd (za (pvS 1) zb)) (JJ rfl (zV (zo (i:=7) zO.nd rfl (XM rfl)) (zV (zo (i:=8) zO.nd rfl (XM rfl)) yp))) (zd (zv (i:=9) zO.nd rfl (XM rfl) (pc0 (Zk T Z jM) hr jM (za (zx Z3 (zag zbR (pvS 3) zeC (zaf (pvS 7))) (zag zbR (pvS 3) (zaf (zx qa (pvS 7) zk)) zeC)) zb)))
   (zf (qw W7 rfl (zM (pvS 8)) (zo (i:=10) zO.nd rfl (XM rfl)) (zd (zv (i:=11) zO.nd rfl (XM rfl) (pc0 (zeg T YT) hr YT (za (pvS 9) (za (pc0 (zdB T bN jC) hr bN (za (qf qV (pvS 2) (pvS 7) (fun _ _=>rfl)) (za (zq zH (by rfl) T.jz WX (za (pvS 8) zb)) (za (pvS 10) zb)))) zb))))
   (zf (zmw (u1 hr.units) (pvS 6) (pvS 10) (pc0 (zc0 T Z Yq) hr Yq (za (pvS 11) (za (zq zH (by rfl) T.jz WX (za (pvS 4) zb)) (za (qf qP (pvS 0) zk (fun _ _=>rfl)) zb)))) rfl)))))))
   (zf (zI (pvS 6))))))))))),?_⟩
  refine⟨_,rfl,p,l,r,n,rfl,b,R,fun d1 w1 m H1 cG bg hG _ _ G up s1=>?_⟩;have au:=YS G R;have aH:m.length<=64:=X6 (Parts.YN G.ne) au;refine⟨_,rfl,d1,rfl,⟨_,SqL.of bg⟩,fun z hz=>?_⟩;refine qj (K:=K) (a:=d1) (xs:=w1) (fun j aa u=>∃(u0:Option V) (ys:List V),aa=[u0,some (.ref p)]/\zu H1 u/\u z=some (.lst ys)/\zbj r z u ys (m.take j))
   ⟨_,[],rfl,ze hz,zc,.nil⟩ (fun j aa u _ ⟨_,_,_,y,_⟩=>SqL.of (y _ _ bg)) ?_ ?_
  ·rintro j v aa H2 hv ⟨u0,ys,rfl,s2,ai,b8⟩;obtain⟨g,hg,ga,ug,rfl,az,an⟩:=yM.get (hG.mono s2) hv;have gm:=X4 hg;have il:=(XZ.mp hg).1;unfold Ja;refine QY ?_;refine⟨_,rfl,_,rfl,p,l,ga,r,n,ug,g,rfl,(b.mono s1).mono s2,R,az,an,xE (G.srt g gm),sm m G g gm,fun e we ks H3 he co hL _ cp _ s3=>?_⟩;have ez:e≠z:=fun y=>by
    subst y;rw[ai] at he;cases he
   have nz:∀a,(H2 a=none/\a≠e)->a≠z:=fun a h y=>by
    subst y;rw[ai] at h;cases h.1
   have t1:m.take (j+1)=m.take j++[g]:=by
    rw[Xx,hg];rfl
   refine⟨_,s3 _ _ ai,?_,_,ys++[.ref e],rfl,fun b' o e'=>?_,zc,?_⟩
   ·rw[show ys.length=(m.take j).length from Paired.length b8,XE];exact XI (show _<=64 by lia) (by decide)
   ·rw[zj (zh e' hz)];exact s3 _ _ (s2 _ _ e')
   ·rw[t1];exact Paired.snoc (zgt (s3 _ _ ai) (Zd s3 b8)) ⟨e,we,ks,rfl,ez,by rw[zj ez];exact co,xF (s3 _ _ ai) (fun _ h=>h) (QX nz hL),cp⟩
  rintro aa H2 ⟨u0,ys,rfl,s2,ai,aB⟩;rw[hG.length,Xz] at aB;have bC:=s1.trans s2;have cd:=hG.mono s2;have bu:=s2 _ _ bg;refine⟨_,rfl,p,l,r,n,rfl,b.mono bC,R,fun d w2 H3 hd ck aS s3=>⟨JX,fun e he=>?_⟩⟩;have s4:=ze (o:=.lst []) he;refine⟨.list ((jW r).map zp),.list [],.lst (SqL.of (s4 _ _ ck)) (zC.rdv (N:=fun _=>True) (Cel.rdn (Cel.mono s4 aS))),.lst (SqL.of zc) .nil,ze6 _ [],_,rfl,?_⟩;have ee:(if true=true then !PyData.eqv (.list ((jW r).map zp)) (.list []) else W1 (.list ((jW r).map zp)) (.list []))=!(jW r).isEmpty:=by
   show (!PyData.eqv _ _)=_;rw[eq_nil]
  rw[ee];have a6:=s3.trans s4;have aE:=bC.trans a6;have b4:=b.mono aE;have aw:=a6 _ _ bu;have ba:=a6 _ _ ai;have bo:=cd.mono a6;have bn:=Zd a6 aB;generalize upd H3 e (.lst [])=H4 at *
  cases hb:(jW r).isEmpty with
  | false =>
   refine YD ?_;refine⟨_,rfl,p,l,r,n,rfl,b4,R,fun d5 w5 H5 cn aK aC s5=>⟨d5,rfl,⟨_,SqL.of aK⟩,fun y hy=>?_⟩⟩;have bt:Cel H5 w5 (zP r):=aC;refine qj (K:=K) (a:=d5) (xs:=w5) (fun i Y u=>(∃u0,Y=[u0])/\zu H5 u/\∃ys,u y=some (.lst ys)/\j6 u ys (((zP r).take i).map fun c=>(yh c,V.int 0))) ⟨⟨_,rfl⟩,ze hy,[],zc,.nil⟩ (fun i Y u _ ⟨_,s6,_⟩=>SqL.of (s6 _ _ aK)) ?_ ?_
   ·rintro i x Y H6 hx ⟨⟨u0,rfl⟩,s6,ys,ah,ac⟩;obtain⟨c,aU,ca,rfl,am⟩:=Cel.get (Cel.mono s6 bt) hx;refine J5 ⟨_,rfl,ZA,fun p hp=>?_⟩;have s7:=ze (o:=.tup [.ref ca,.int 0]) hp;have a1:ys.length<=64:=by
     rw[ac.length,Y1,XE];lia
    refine⟨ys,s7 _ _ ah,XI a1 (by decide),⟨_,rfl⟩,fun b' o e'=>?_,ys++[.ref p],zc,?_⟩
    ·rw[zj (zh e' hy)];exact s7 _ _ (s6 _ _ e')
    ·rw[Xx,aU,Xk];exact j6.into y _ (s7 _ _ ah) (j6.snoc (ac.mono s7) ⟨p,ca,rfl,zc,s7 _ _ am⟩)
   ·rintro Y H6 ⟨_,s6,ys,ah,ac⟩;rw[bt.length,Xz] at ac;refine⟨y,ys,_,rfl,ah,ac,fun dd ao=>?_⟩;refine q dd _ _ ((aE.trans (s5.trans s6)).free ao) zc (fun c J=>?_) ((aE.trans (s5.trans s6)).trans (ze ao));rw[zhE hb];have:=za0 (v:=V.int 0) (k:=yh c) ((zP r).map yh) [] (.inl (Xv.mpr ⟨c,J,rfl⟩));rw[WM] at this;exact this
  | true =>
   refine Zp ?_;refine⟨_,rfl,_,rfl,d1,z,rfl,⟨_,SqL.of aw⟩,⟨_,SqL.of ba⟩,fun t0 b3=>?_⟩;refine zkz (K:=K) (l1:=d1) (l2:=z) (xs:=w1) (ys:=ys) (fun j aa u=>∃(u0 u1:Option V) (B:List V),aa=[u0,u1]/\zu H4 u/\u t0=some (.lst B)/\(∀v∈B,v≠V.ref t0)/\xx u B (tls r (m.take j))) (hG.length.trans (Paired.length aB).symm)
    ⟨_,_,[],rfl,ze b3,zc,(fun _ h=>nomatch h),.nil⟩ (fun j aa u _ ⟨_,_,_,_,y,_⟩=>⟨SqL.of (y _ _ aw),SqL.of (y _ _ ba)⟩) ?_ ?_
   ·rintro j v v' tt aa H5 hv cq a2 ⟨u0,u1,B,rfl,s5,aD,nt,al⟩;obtain⟨g,hg,ga,ug,rfl,az,an⟩:=yM.get (bo.mono s5) hv;obtain⟨g',aq,fa,wf,ks,rfl,fz,aZ,aR,ar⟩:=zej (Zd s5 bn) cq;rw[hg] at aq;cases aq;have gm:=X4 hg;have il:=(XZ.mp hg).1;have z6:=ze (o:=.tup [V.ref ga,V.ref fa]) a2;refine⟨tt,_,rfl,SqT.of zc,rfl,_,_,rfl,_,_,rfl,rfl,?_⟩;have b5:=z6 _ _ aD;have b0:=z6 _ _ az;have bx:=z6 _ _ aZ;have bq:=qd z6 aR;have c0:=s5.trans z6;have ce:=xH z6 al;generalize upd H5 tt (.tup [V.ref ga,V.ref fa])=H6 at *
    refine QY ?_;refine⟨_,rfl,_,rfl,ga,_,rfl,.inl (SqL.of b0),fa,wf,ks,_,ug.length,rfl,bx,bq,fun k hk=>?_,?_,fun e7 H7 bw bR s7=>?_⟩
    ·rw[an.length];exact zcR (ar.mem_iff.mp hk)
    ·rw[an.length];have:=sm m G g gm;lia
    ·rw[an.length,Cnt.za8 ar,zee] at bR;have et:e7≠t0:=fun y=>by
      subst y;rw[b5] at bw;cases bw
     have t1:tls r (m.take (j+1))=tls r (m.take j)++[Tally.tl g (qZ r g)]:=by
      unfold tls;rw[Xx,hg,Xk];rfl
     refine⟨_,s7 _ _ b5,?_,_,_,B++[.ref e7],rfl,fun b' o e'=>?_,zc,fun v hv=>?_,?_⟩
     ·rw[Qs al];unfold tls;rw[Y1,XE];exact XI (show _<=64 by lia) (by decide)
     ·rw[zj (zh e' b3)];exact s7 _ _ (c0 _ _ e')
     ·rcases XF.mp hv with hv | hv
      ·exact nt v hv
      ·have:v=V.ref e7:=by simpa using hv
       rw[this];intro y;cases y;exact et rfl
     ·rw[t1];exact Paired.snoc (zhF (xH s7 ce) nt) ⟨e7,rfl,by rw[zj et];exact bR⟩
   rintro aa H5 ⟨u0,u1,B,rfl,s5,aD,_,al⟩;rw[hG.length,Xz] at al;have bb:=aE.trans s5;refine⟨_,rfl,p,l,r,n,rfl,b.mono bb,R,fun d5 w5 H6 cn bS aC s6=>?_⟩;have wl:=aC.length;have cF:(yw r).length<=64:=X6 (Xm _ _) cb;refine⟨_,rfl,t0,B,tls r m,rfl,s6 _ _ aD,xH s6 al,zlA R G,fun d7 H7 cH bT s7=>?_⟩;rw[show (tls r m).foldl Pour.Zh [1]=Tally.tl m.flatten (Tally.yt (qZ r) m) from zgn G] at bT;have b7:=((b.mono bb).mono s6).mono s7;refine⟨_,rfl,d5,_,rfl,.inl (SqL.of (s7 _ _ bS)),_,_,rfl,rfl,_,rfl,p,_,1,_,rfl,rfl,SqT.of b7.tp,rfl,_,_,rfl,rfl,d7,_,_,_,rfl,bT,Yl au,by rw[Tally.j8];lia,by lia,fun H8 s8=>?_⟩;have bf:=s7.trans s8;have aG:=s6.trans bf;have cx:=bb.trans aG;have ax:=bf _ _ bS;have br:=aC.mono bf;have bj:∀c∈yw r,dlV (Tally.tl m.flatten (Tally.yt (qZ r) m)) (((w5.length:Nat):Int)-1) (n-1)=qL r n c:=fun c J=>by
    have pos:=Ul J;have ci:=zoW G J n.toNat;rw[hb,if_pos rfl,Vu n0] at ci;unfold qL;rw[<- ci,wl,show (((yw r).length:Nat):Int)-1=(((yw r).length-1:Nat):Int) by lia,zfd]
   generalize dlV (Tally.tl m.flatten (Tally.yt (qZ r) m)) (((w5.length:Nat):Int)-1) (n-1)=val at *
   refine⟨_,rfl,d5,rfl,⟨_,SqL.of ax⟩,fun y hy=>?_⟩;refine qj (K:=K) (a:=d5) (xs:=w5) (fun i Y u=>(∃u0,Y=[u0,some (.int val)])/\zu H8 u/\∃ys,u y=some (.lst ys)/\j6 u ys (((yw r).take i).map fun c=>(yh c,V.int val))) ⟨⟨_,rfl⟩,ze hy,[],zc,.nil⟩ (fun i Y u _ ⟨_,s6,_⟩=>SqL.of (s6 _ _ ax)) ?_ ?_
   ·rintro i x Y cD hx ⟨⟨u0,rfl⟩,bG,aA,ah,ac⟩;obtain⟨c,aU,ca,rfl,am⟩:=Cel.get (Cel.mono bG br) hx;refine J5 ⟨_,rfl,_,rfl,ZA,fun p hp=>?_⟩;have a7:=ze (o:=.tup [.ref ca,.int val]) hp;have a1:aA.length<=64:=by
     rw[ac.length,Y1,XE];lia
    refine⟨aA,a7 _ _ ah,XI a1 (by decide),⟨_,rfl⟩,fun b' o e'=>?_,aA++[.ref p],zc,?_⟩
    ·rw[zj (zh e' hy)];exact a7 _ _ (bG _ _ e')
    ·rw[Xx,aU,Xk];exact j6.into y _ (a7 _ _ ah) (j6.snoc (ac.mono a7) ⟨p,ca,rfl,zc,a7 _ _ am⟩)
   rintro Y H9 ⟨_,s9,aA,cr,b2⟩;rw[br.length,Xz] at b2;refine⟨y,aA,_,rfl,cr,b2,fun dd ao=>?_⟩;have bH:=ze (o:=.dT (Yw ((yw r).map fun c=>(yh c,V.int val)))) ao;have aV:upd H9 dd (.dT (Yw ((yw r).map fun c=>(yh c,V.int val)))) dd=some (.dT (Yw ((yw r).map fun c=>(yh c,V.int val)))):=zc;have cu:(Yw ((yw r).map fun c=>(yh c,V.int val))).length<=64:=by
    have:=zlL ((yw r).map fun c=>(yh c,V.int val));rw[Y1] at this;lia
   have cv:∀c∈yw r,yC (Yw ((yw r).map fun c=>(yh c,V.int val))) (yh c)=some (V.int (qL r n c)):=fun c J=>by
    have:=za0 (v:=V.int val) (k:=yh c) ((yw r).map yh) [] (.inl (Xv.mpr ⟨c,J,rfl⟩));rw[WM] at this;rw[<- bj c J];exact this
   generalize Yw ((yw r).map fun c=>(yh c,V.int val))=kvs0 at *
   generalize upd H9 dd (.dT kvs0)=H10 at *
   have aF:=s5.trans (aG.trans s9);have bc:=cx.trans s9;have bV:H dd=none:=bc.free ao;have aJ:=aF _ _ aw;have ct:=aF _ _ ba;have aQ:=bo.mono aF;have cc:=Zd aF bn;have b6:=(aG.trans s9) _ _ aD;have bp:=xH (aG.trans s9) al;have bv:=s9 _ _ ax;have b9:=b.mono bc;refine⟨_,rfl,d1,rfl,⟨_,SqL.of (bH _ _ aJ)⟩,?_⟩;refine Zr (K:=K) (l:=d1) (xs:=w1) (fun i Y u=>∃(I:List (List Key×V)) (v7 v8 v9 a8 a9:Option V),Y=[some (.ref p),some (.ref d1),some (.ref z),some (.ref t0),some (.ref d5),some (.int val),some (.ref dd),v7,v8,v9,a8,a9]/\zu H9 u/\u dd=some (.dT I)/\I.length<=64+(m.take i).flatten.length/\(∀c,c∈yw r\/c∈(m.take i).flatten->yC I (yh c)=some (V.int (qL r n c))))
    ⟨kvs0,_,_,_,_,_,rfl,bH,aV,by simpa using cu,fun c J=>J.elim (cv c) (fun h=>by simp at h)⟩ (fun i Y u _ ⟨_,_,_,_,_,_,_,y,_⟩=>SqL.of (y _ _ aJ)) ?_ ?_
   ·rintro i v tt Y aO hv a2 ⟨I,v7,v8,v9,a8,a9,rfl,a3,L,kl,kv⟩;obtain⟨g,hg,ga,ug,rfl,az,an⟩:=yM.get (aQ.mono a3) hv;have gm:=X4 hg;have il:=(XZ.mp hg).1;have bX:=sm m G g gm;have aP:m=m.take i++g::m.drop (i+1):=by
     have e1:=(Wy i m).symm;rw[WB il] at e1;have e2:m[i]=g:=by
      rw[X7 il] at hg;exact Option.some.inj hg
     rwa [e2] at e1
    have tk:(m.take (i+1)).flatten=(m.take i).flatten++g:=by
     rw[Xx,hg,Ws];congr 1;simp
    have AB:(m.take i++m.drop (i+1)).Sublist m:=by
     conv=>rhs;rw[aP]
     exact List.Sublist.append (List.Sublist.refl _) (List.sublist_cons_self _ _)
    have cL:tt≠dd:=fun y=>by
     subst y;rw[L] at a2;cases a2
    have bI:=ze (o:=.tup [.int (i:Nat),V.ref ga]) a2;refine⟨tt,_,rfl,SqT.of zc,rfl,_,_,rfl,_,_,rfl,rfl,?_⟩;have be:=a3.trans bI;have aW:=bI _ _ L;generalize upd aO tt (.tup [.int (i:Nat),V.ref ga])=H12 at *
    have cl:=Qs bp;have tlen:(tls r m).length=m.length:=Y1 _;refine⟨_,rfl,_,rfl,_,rfl,t0,B,rfl,SqL.of (be _ _ b6),fun c1 cg=>?_⟩;have bJ:=ze (o:=.lst (zah B none (some ((i:Nat):Int)))) cg;refine⟨_,rfl,_,rfl,_,_,rfl,rfl,_,rfl,t0,B,rfl,SqL.of (bJ _ _ (be _ _ b6)),fun c2 cj=>?_⟩;have bK:=ze (o:=.lst (zah B (some (((i:Nat):Int)+1)) none)) cj;rw[zo3 B (show i<=B.length by lia),zgh B i (by lia)] at *
    refine⟨c1,c2,_,_,rfl,rfl,bK _ _ zc,zc,?_,fun c3 aS=>?_⟩
    ·rw[XE,VJ];exact X6 (show _<=128 by lia) (by decide)
    have c7:=ze (o:=.lst (B.take i++B.drop (i+1))) aS;have a4:=bJ.trans (bK.trans c7);have bD:=be.trans a4;have ay:=a4 _ _ aW;have aI:=xH bD bp;have et:tls r (m.take i++m.drop (i+1))=(tls r m).take i++(tls r m).drop (i+1):=by
     unfold tls;rw[Xk,Tu,Rf]
    have aT:upd (upd (upd H12 c1 (.lst (B.take i))) c2 (.lst (B.drop (i+1)))) c3 (.lst (B.take i++B.drop (i+1))) c3=some (.lst (B.take i++B.drop (i+1))):=zc;generalize upd (upd (upd H12 c1 (.lst (B.take i))) c2 (.lst (B.drop (i+1)))) c3 (.lst (B.take i++B.drop (i+1)))=H15 at *
    refine⟨c3,_,tls r (m.take i++m.drop (i+1)),rfl,aT,by rw[et];exact zjX (zc2 i aI) (zc3 (i+1) aI),zo2 R G AB,fun oa c9 b1 bP bE=>?_⟩;rw[ziM G AB] at bP;have aM:=bD.trans bE;have aX:=bE _ _ ay;have bB:oa≠dd:=fun y=>by
     subst y;rw[ay] at b1;cases b1
    have bm:(m.take i++m.drop (i+1)).flatten.length<=64:=X6 (YU AB).length_le au;have aj:H9 ga=some (.lst ug):=by
     obtain⟨g',aq,bY,c4,e',av,_⟩:=yM.get aQ hv;cases e';have:=a3 _ _ av;rw[az] at this;cases this;exact av
    have ab:Cel H9 ug g:=by
     obtain⟨g',aq,bY,c4,e',av,bZ⟩:=yM.get aQ hv;cases e';rw[hg] at aq;cases aq;rw[aj] at av;cases av;exact bZ
    have zl:i<ys.length:=by
     rw[show ys.length=m.length from Paired.length aB];exact il
    obtain⟨g2,bz,fa,wf,ks,bW,fz,aZ,aR,ar⟩:=zej cc (X7 zl);rw[hg] at bz;cases bz;refine⟨_,rfl,ga,rfl,⟨_,SqL.of (aM _ _ aj)⟩,?_⟩;refine yY (K:=K) (a:=ga) (xs:=ug) (fun j Y u=>∃(I:List (List Key×V)) (a8 a9:Option V),Y=[some (.ref p),some (.ref d1),some (.ref z),some (.ref t0),some (.ref d5),some (.int val),some (.ref dd),some (.int (i:Nat)),some (.ref ga),some (.ref oa),a8,a9]/\zu H9 u/\u oa=some (.lst (iL (Tally.tl (m.take i++m.drop (i+1)).flatten (Tally.yt (qZ r) (m.take i++m.drop (i+1))))))/\u dd=some (.dT I)/\I.length<=64+(m.take i).flatten.length+j/\(∀c,c∈yw r\/c∈(m.take i).flatten\/c∈g.take j->yC I (yh c)=some (V.int (qL r n c))))
     ⟨I,_,_,rfl,aM,bP,aX,by lia,fun c J=>kv c (J.elim .inl fun h=>h.elim .inr fun h=>by simp at h)⟩ (fun j Y u _ ⟨_,_,_,_,y,_⟩=>SqL.of (y _ _ aj)) ?_ ?_
    ·rintro j x Y bU hx ⟨ae,c5,c6,rfl,M,ag,af,bA,ak⟩;obtain⟨c,J,ca,rfl,am⟩:=Cel.get (ab.mono M) hx;have cm:=X4 J;have jl:=(XZ.mp J).1;have Gi:Parts.Good (clA r) (qk r) (m.take i++g::m.drop (i+1)):=by
      rw[<- aP];exact G
     have ap:=zm4 Gi cm n.toNat;rw[hb,if_pos rfl,Vu n0] at ap;refine⟨_,rfl,_,rfl,_,rfl,z,_,_,_,rfl,rfl,SqL.of (M _ _ ct),jT (by lia) (by rw[WS];exact X7 zl),_,rfl,ga,_,rfl,.inl (SqL.of (M _ _ aj)),_,rfl,?_⟩;rw[bW];refine⟨fa,ca,wf,ks,_,ug.length,c,rfl,M _ _ aZ,qd M aR,fun k hk=>?_,?_,?_,am,fun ea cA cI bQ bF=>?_⟩
     ·rw[ab.length];exact zcR (ar.mem_iff.mp hk)
     ·rw[ab.length];lia
     ·rw[ar.length_eq];exact zjQ bX
     rw[ab.length,Cnt.za8 (ar.filter _),zff] at bQ;have aH:g.length<=64:=by lia
     refine⟨oa,ea,_,_,rfl,SqL.of (bF _ _ ag),SqL.of bQ,?_,?_,?_,?_,Yl bm,Yl aH,fun na cB cJ c8 cy=>?_⟩
     ·rw[Tally.j8];lia
     ·rw[Tally.j8];lia
     ·rw[Tally.j8];lia
     ·rw[Tally.j8];lia
     have a5:=bF.trans cy;have aN:=M.trans a5;have cK:(m.take i).flatten.length<=64:=X6 (YU (UQ i m)).length_le au;have bh:((m.take i++m.drop (i+1)).flatten++g).length<=64:=by
      rw[<- (zfa _ _ _).length_eq,<- aP];exact au
     have bi:=ziK Gi cm;refine⟨_,rfl,_,rfl,d5,_,rfl,.inl (SqL.of (aN _ _ bv)),_,rfl,p,_,1,_,rfl,rfl,SqT.of (b9.mono aN).tp,rfl,na,_,_,_,rfl,c8,by rw[bi];exact Yl bh,by rw[bi,Tally.j8];lia,by lia,fun cC cz=>?_⟩;have U:=a5.trans cz;have aY:=U _ _ af;have ev:dlV (Pour.Zh (Tally.tl (m.take i++m.drop (i+1)).flatten (Tally.yt (qZ r) (m.take i++m.drop (i+1)))) (Tally.tl g fun S=>qZ r g S&&decide (c∈S))) (w5.length:Nat) n=qL r n c:=by
      unfold qL;rw[zfd,wl,ap]
     rw[ev];refine⟨_,rfl,_,rfl,dd,_,rfl,zkw.t (k:=yh c) aY (U _ _ am) (XI (show ae.length<=200 by lia) (by decide)),?_⟩;refine⟨putK ae (yh c) (V.int (qL r n c)),_,_,rfl,fun b' o e'=>?_,?_,zc,?_,fun c' cf=>?_⟩
     ·rw[zj (zh e' ao)];exact U _ _ (M _ _ e')
     ·rw[zj bB];exact U _ _ ag
     ·have:=ziN ae (yh c) (V.int (qL r n c));lia
     ·rw[YG];by_cases ec:yh c'=yh c
      ·rw[if_pos ec,zgs ec]
      ·rw[if_neg ec];refine ak c' (cf.elim .inl fun h=>h.elim (fun h=>.inr (.inl h)) fun h=>?_);rw[Xx,J] at h;rcases XF.mp h with h | h
       ·exact .inr (.inr h)
       ·have:c'=c:=by simpa using h
        exact absurd (by rw[this]) ec
    rintro Y bU ⟨ae,c5,c6,rfl,M,ag,af,bA,ak⟩;have ul:ug.length=g.length:=ab.length;refine⟨ae,_,_,_,_,_,rfl,M,af,?_,fun c J=>?_⟩
    ·rw[tk,XW];lia
    ·rw[tk] at J;rw[ul,Xz] at ak;exact ak c (J.elim .inl fun h=>(XF.mp h).elim (fun h=>.inr (.inl h)) fun h=>.inr (.inr h))
   rintro Y aO ⟨I,v7,v8,v9,a8,a9,rfl,a3,L,kl,kv⟩;rw[hG.length,Xz] at kv;refine⟨_,rfl,q dd I aO bV L (fun c J=>kv c ?_) (bc.trans a3)⟩;by_cases hm:c∈m.flatten
   ·exact .inr hm
   ·exact .inl ((zaM G).mpr ⟨J,hm⟩)
def pV (xs:List Nat):List V:=xs.map fun x=>V.int (x:Nat)
def nrP (n a x:Nat):Bool:=Cells.near (x/n,x%n) (a/n,a%n)
def Jl (R n a:Nat):List Nat:=(XC (R*n)).filter (nrP n a)
def zc4 (n a r b m:Nat):List Nat:=((XC m).map fun i=>r*n+(b+i)).filter fun x=>!decide (x=a)
def QH (n a c k b m:Nat):List Nat:=(XC k).flatMap fun i=>zc4 n a (c+i) b m
theorem zjY (n a r b m:Nat):zc4 n a r b (m+1)=zc4 n a r b m++if (!decide (r*n+(b+m)=a))=true then [r*n+(b+m)] else []:=by
 unfold zc4;rw[Vd,Xk,Xb];congr 1;show Ux _ [r*n+(b+m)]=_;rw[WV];split<;>rfl
theorem zc5 (n a c k b m:Nat):QH n a c (k+1) b m=QH n a c k b m++zc4 n a (c+k) b m:=by
 unfold QH;rw[Vd,List.flatMap_append];simp
theorem zlN {R n b:Nat}(d:R<=5)(e:n<=5)(c:b<R*n):QH n b (b/n-1) (min (b/n+2) R-(b/n-1)) (b%n-1) (min (b%n+2) n-(b%n-1))=Jl R n b:=by
 have h:∀R∈XC 6,∀n∈XC 6,∀a∈XC (R*n),QH n a (a/n-1) (min (a/n+2) R-(a/n-1)) (a%n-1) (min (a%n+2) n-(a%n-1))=Jl R n a:=by decide +kernel
 exact h R (Xf.mpr (by lia)) n (Xf.mpr (by lia)) b (Xf.mpr c)
theorem zc6 {R n b:Nat}(d:R<=5)(e:n<=5)(c:b<R*n):(Jl R n b).length<=8:=by
 have h:∀R∈XC 6,∀n∈XC 6,∀a∈XC (R*n),(Jl R n a).length<=8:=by decide +kernel
 exact h R (Xf.mpr (by lia)) n (Xf.mpr (by lia)) b (Xf.mpr c)
theorem zgu (n a r b m:Nat):(zc4 n a r b m).length<=m:=by
 unfold zc4;refine X6 (Xm _ _) ?_;rw[Y1,W6];exact XV _
theorem zek (n a c b m:Nat):∀k,(QH n a c k b m).length<=k*m
 | 0=>W5 _
 | k+1=>by
  rw[zc5,XW,RS];exact SL (zek n a c b m k) (zgu _ _ _ _ _)
theorem znJ (i:Nat):(if (i:Int)-1>0 then (i:Int)-1 else 0)=((i-1:Nat):Int):=by
 split<;>lia
theorem znK (i m:Nat):(if (i:Int)+2<((m:Nat):Int) then (i:Int)+2 else ((m:Nat):Int))=((min (i+2) m:Nat):Int):=by
 split<;>lia
theorem zo4 {a b:Nat}:decide (V.int ((a:Nat):Int)=V.int ((b:Nat):Int))=decide (a=b):=decide_eq_decide.mpr ⟨fun h=>by injection h with h;lia,fun h=>by rw[h]⟩
def znc:Sp:=fun c H Q _=>∃(a R n:Nat),c=[.int (a:Nat),.int (R:Nat),.int (n:Nat)]/\R<=5/\1<=n/\n<=5/\a<R*n/\∀(d:Addr) (b:Hp),H d=none->b d=some (.lst (pV (Jl R n a)))->zu H b->Q (.ref d) b
theorem yU:zF ["_law_at","_law_rows","_law_columns","_law_row","_law_column","_law_found","_law_r","_law_c"] ["_law_at","_law_rows","_law_columns"] (zg Yc):=⟨rfl,rfl,rfl,by decide +kernel,rfl,by decide +kernel,by decide +kernel⟩
theorem zbA (T:Txt mg)(D:zm K mg "_law_near" Yc ["_law_at","_law_rows","_law_columns"] f fd):qt P w K mg base CX0 1 f fd ["_law_at","_law_rows","_law_columns"] znc:=by
 refine D.F.ok yU (fun vs H Q E h=>?_) (fun ac A L s H vs Q E hr h=>?_)
 ·obtain⟨a,R,n,rfl,_⟩:=h;rfl
 ·obtain⟨a,R,n,rfl,hR,n1,hn,Y,q⟩:=h;have ab:a/n<R:=Nat.div_lt_of_lt_mul (by rw[SV];exact Y);have aa:a%n<n:=Sk _ (by lia);refine⟨_,(zd (zb6 (zq zbq (by rfl) T.zf3 QP (za (pvS 0) (za (pvS 2) zb))) (JJ rfl (zV (zo (i:=3) yU.nd rfl (XM rfl)) (zV (zo (i:=4) yU.nd rfl (XM rfl)) yp))))
   (zd (zv (i:=5) yU.nd rfl (XM rfl) (qc zb))
   (zd (qw W7 rfl (Y7 (by rfl) T.ji (za (zq (Zm rfl) (by rfl) T.zf4 U1 (za zk (za (zx xV (pvS 3) zk) zb))) (za (zq (Zn rfl) (by rfl) T.zf5 U0 (za (pvS 1) (za (zx qa (pvS 3) zk) zb))) zb))) (zo (i:=6) yU.nd rfl (XM rfl)) (zf (qw W7 rfl (Y7 (by rfl) T.ji (za (zq (Zm rfl) (by rfl) T.zf4 U1 (za zk (za (zx xV (pvS 4) zk) zb))) (za (zq (Zn rfl) (by rfl) T.zf5 U0 (za (pvS 2) (za (zx qa (pvS 4) zk) zb))) zb))) (zo (i:=7) yU.nd rfl (XM rfl)) (zf (jc (zG Qy (zx qa (zx yI (pvS 6) (pvS 2)) (pvS 7)) (pvS 0) (zQ _)) (zf (yk (xw WZ Wq Wp jw (pvS 5) (za (zx qa (zx yI (pvS 6) (pvS 2)) (pvS 7)) zb)))) zZ)))))
   (zf (zI (pvS 5)))))),?_⟩
  refine⟨_,rfl,_,rfl,_,_,rfl,⟨by lia,by lia⟩,fun p v=>?_⟩;have s0:=ze (o:=.tup [.int (((a:Nat):Int)/((n:Nat):Int)),.int (((a:Nat):Int)%((n:Nat):Int))]) v;refine⟨p,_,rfl,SqT.of zc,rfl,_,_,rfl,_,_,rfl,rfl,?_⟩;generalize upd H p (.tup [.int (((a:Nat):Int)/((n:Nat):Int)),.int (((a:Nat):Int)%((n:Nat):Int))])=H0 at *
  rw[<- Int.natCast_ediv,<- Int.natCast_emod];generalize J:a/n=g at *
  generalize B:a%n=c at *
  refine⟨JX,fun d G=>?_⟩;have s1:zu H0 (upd H0 d (.lst [])):=ze G;refine⟨_,rfl,_,_,rfl,rfl,0,_,rfl,_,rfl,_,rfl,_,_,rfl,rfl,_,_,rfl,((g-1:Nat):Int),((min (g+2) R:Nat):Int),?_,⟨by lia,by lia,by lia,by lia⟩,?_⟩
  ·show [V.int (if (g:Int)-1>0 then (g:Int)-1 else 0),V.int (if (g:Int)+2<((R:Nat):Int) then (g:Int)+2 else ((R:Nat):Int))]=_;rw[znJ,znK]
  have I:∀k m:Nat,k<=5->m<=5->k*m<=25:=fun k m h1 h2=>TU h1 h2;refine qD (lo:=((g-1:Nat):Int)) (fun k u x=>∃(N r:Option V),u=[some (.int (a:Nat)),some (.int (R:Nat)),some (.int (n:Nat)),some (.int (g:Nat)),some (.int (c:Nat)),some (.ref d),N,r]/\zu H0 x/\x d=some (.lst (pV (QH n a (g-1) k (c-1) (min (c+2) n-(c-1))))))
   ⟨_,_,rfl,s1,zc⟩ ?_ ?_
  ·rintro k u O hk ⟨N,r,rfl,M,l⟩;rw[show ((g-1:Nat):Int)+(k:Nat)=((g-1+k:Nat):Int) by lia];refine⟨_,rfl,_,_,rfl,rfl,0,_,rfl,_,rfl,_,rfl,_,_,rfl,rfl,_,_,rfl,((c-1:Nat):Int),((min (c+2) n:Nat):Int),?_,⟨by lia,by lia,by lia,by lia⟩,?_⟩
   ·show [V.int (if (c:Int)-1>0 then (c:Int)-1 else 0),V.int (if (c:Int)+2<((n:Nat):Int) then (c:Int)+2 else ((n:Nat):Int))]=_;rw[znJ,znK]
   refine qD (lo:=((c-1:Nat):Int)) (fun m u x=>∃(r:Option V),u=[some (.int (a:Nat)),some (.int (R:Nat)),some (.int (n:Nat)),some (.int (g:Nat)),some (.int (c:Nat)),some (.ref d),some (.int ((g-1+k:Nat):Int)),r]/\zu H0 x/\x d=some (.lst (pV (QH n a (g-1) k (c-1) (min (c+2) n-(c-1))++zc4 n a (g-1+k) (c-1) m))))
    ⟨_,rfl,M,by rw[l];unfold zc4;simp⟩ ?_ ?_
   ·rintro m u H2 hm ⟨r,rfl,z,j⟩;rw[show ((c-1:Nat):Int)+(m:Nat)=((c-1+m:Nat):Int) by lia];have U:((g-1+k:Nat):Int)*((n:Nat):Int)+((c-1+m:Nat):Int)=(((g-1+k)*n+(c-1+m):Nat):Int):=by
     simp only[Tk,UV]
    have hb:(!decide (V.int (((g-1+k:Nat):Int)*((n:Nat):Int)+((c-1+m:Nat):Int))=V.int ((a:Nat):Int)))=!decide ((g-1+k)*n+(c-1+m)=a):=by rw[U,zo4]
    refine⟨_,rfl,_,rfl,_,_,rfl,rfl,zdm (by lia) (by lia),_,rfl,_,_,rfl,rfl,_,rfl,rfl,_,rfl,?_⟩;have y:=zjY n a (g-1+k) (c-1) m;by_cases v:(!decide ((g-1+k)*n+(c-1+m)=a))=true
    ·rw[if_pos v] at y;refine jX (hb.trans v) ?_;refine⟨_,rfl,.inl ⟨rfl,_,SqL.of j⟩,_,rfl,_,rfl,_,_,rfl,rfl,zdm (by lia) (by lia),_,rfl,_,_,rfl,rfl,d,_,_,rfl,rfl,j,?_,_,rfl,fun b o e=>?_,?_⟩
     ·unfold pV;rw[Y1,XW];have a1:=zek n a (g-1) (c-1) (min (c+2) n-(c-1)) k;have a2:=zgu n a (g-1+k) (c-1) m;have a3:=I k (min (c+2) n-(c-1)) (by lia) (by lia);exact XI (X6 (SL (X6 a1 a3) (X6 a2 (show m<=5 by lia))) (by decide:25+5<=64)) (by decide)
     ·rw[zj (zh e G)];exact z _ _ e
     ·have e2:pV (QH n a (g-1) k (c-1) (min (c+2) n-(c-1))++zc4 n a (g-1+k) (c-1) (m+1))=pV (QH n a (g-1) k (c-1) (min (c+2) n-(c-1))++zc4 n a (g-1+k) (c-1) m)++[V.int (((g-1+k:Nat):Int)*((n:Nat):Int)+((c-1+m:Nat):Int))]:=by
       rw[U,y,<- WY];unfold pV;rw[Xk (l₂:=[_])];rfl
      rw[zc,e2]
    ·rw[if_neg v,Xc] at y;refine jE (hb.trans (XB.mpr v)) ?_;exact⟨_,rfl,z,by rw[y];exact j⟩
   ·rintro u H2 ⟨r,rfl,z,j⟩;rw[show (((min (c+2) n:Nat):Int)-((c-1:Nat):Int)).toNat=min (c+2) n-(c-1) by lia] at j;refine⟨_,_,rfl,z,?_⟩;rw[zc5];exact j
  ·rintro u O ⟨N,r,rfl,M,l⟩;rw[show (((min (g+2) R:Nat):Int)-((g-1:Nat):Int)).toNat=min (g+2) R-(g-1) by lia,<- J,<- B,zlN hR hn Y] at l;exact⟨_,rfl,q d O (s0.free G) l (s0.trans M)⟩
def cV (a:List Nat):List V:=a.map fun c=>V.str ⟨#[c]⟩
def sg4:List Nat:=[46,63,111,35]
def Q2 (c:Nat):Bool:=decide (c=63) || decide (c=111)
theorem zc7 (a:List Nat):(cV a).length=a.length:=Y1 _
theorem zhG (a:List Nat)(j c:Nat):(cV a).set j (V.str ⟨#[c]⟩)=cV (a.set j c):=by
 unfold cV;rw[Oo]
theorem zgv {a:List Nat}{j:Nat}(h:j<a.length):(cV a)[j]?=some (V.str ⟨#[a.getD j 0]⟩):=by
 unfold cV;rw[Xl,X7 h,XA,X7 h];rfl
theorem getD_mem {a:List Nat}{j:Nat}(h:j<a.length):a.getD j 0∈a:=by
 rw[XA,X7 h];exact TH h
theorem x8 (p:Nat->Bool)(c:Nat):∀(a:List Nat) (j:Nat),(a.set j c).countP p<=a.countP p+if p c=true then 1 else 0
 | [],_=>W5 _
 | t::r,0=>by
  show (c::r).countP p<=_;rw[WT,WT];lia
 | t::r,j+1=>by
  have:=x8 p c r j;show (t::r.set j c).countP p<=_;rw[WT,WT];lia
theorem mem_set {c:Nat}{S:List Nat}(b:c∈S){a:List Nat}(h:∀x∈a,x∈S)(j:Nat):∀x∈a.set j c,x∈S:=fun x d=>by
 rcases List.mem_or_eq_of_mem_set d with h1 | h1
 ·exact h x h1
 ·rw[h1];exact b
theorem zo5 (n:Nat):(WP n [V.str "."]).flatten=cV (WP n 46):=by
 induction n with
 | zero=>rfl
 | succ n a =>
  rw[Vv,WN,a];have:(".":Str)=⟨#[46]⟩:=by decide +kernel
  rw[this];rfl
theorem zlO:(".":Str)=⟨#[46]⟩:=by decide +kernel
theorem znd:("#":Str)=⟨#[35]⟩:=by decide +kernel
theorem zo6:("o":Str)=⟨#[111]⟩:=by decide +kernel
theorem zne (x:Int):∃c:Nat,atI [V.str "?",V.str "o"] (x%2)=some (V.str ⟨#[c]⟩)/\c∈sg4:=by
 have h:x%2=0\/x%2=1:=by lia
 rw[Ye,zo6];rcases h with h | h<;>rw[h]
 ·exact⟨63,rfl,by decide⟩
 ·exact⟨111,rfl,by decide⟩
theorem Yr {x:Int}{M:Nat}(h:0<M):0<=x%(M:Int)/\x%(M:Int)<(M:Int):=⟨UW _ (by lia),U5 _ (by lia)⟩
def zq7 (K:X5):Sp:=fun g H Q _=>∃(a:Addr) (f:List Int) (st:Int) (R n:Nat),g=[.ref a,.int st,.int (R:Nat),.int (n:Nat)]/\SqL K H a (f.map V.int)/\0<=st/\1<=R/\R<=5/\1<=n/\n<=5 /\
 ∀(d:Addr) (b:List Nat) (e:Hp),H d=none->e d=some (.lst (cV b))->b.length=R*n->(∀c∈b,c∈sg4)->b.countP Q2<=10->zu H e->Q (.ref d) e
theorem jt:zF ["_law_script","_law_start","_law_rows","_law_columns","_law_many","_law_signs_here","_law_k","_law_cell","_law_holes"] ["_law_script","_law_start","_law_rows","_law_columns"] (zg J9):=⟨rfl,rfl,rfl,by decide +kernel,rfl,by decide +kernel,by decide +kernel⟩
theorem zfg (T:Txt mg)(Z:Prog K mg)(D:zm K mg "_law_signs" J9 ["_law_script","_law_start","_law_rows","_law_columns"] f fd):qt P w K mg base CX0 2 f fd ["_law_script","_law_start","_law_rows","_law_columns"] (zq7 K):=by
 obtain⟨yG,yi,J⟩:=Z.law_cell_at;have Y:qt P w K mg base CX0 1 yG yi ["_law_script","_law_k"] (zhn K):=yf T J;refine D.F.ok jt (fun vs H Q E h=>?_) (fun an A ah s H vs Q E U h=>?_)
 ·obtain⟨a,y,st,R,n,rfl,_⟩:=h;rfl
 ·obtain⟨a,y,st,R,n,rfl,O,ai,r1,r5,n1,n5,q⟩:=h;have m1:0<R*n:=Nat.mul_pos (by lia) (by lia);have ao:R*n<=5*5:=TU r5 n5;refine⟨_,(zd (zv (i:=4) jt.nd rfl (XM rfl) (zx yI (pvS 2) (pvS 3)))
   (zd (zv (i:=5) jt.nd rfl (XM rfl) (zx zgW (qc (za qo zb)) (pvS 4)))
   (zd (qw W7 rfl (qN (by rfl) T.ji (za (zx qY (zx qO (pc0 Y U J (za (pvS 0) (za (pvS 1) zb))) zk) zk) zb)) (zo (i:=6) jt.nd rfl (XM rfl)) (zd (zv (i:=7) jt.nd rfl (XM rfl) (pc0 Y U J (za (pvS 0) (za (zx qa (zx qa (pvS 1) zk) (pvS 6)) zb))))
   (zf (zb6 (qf qV (qc (za qo (za qo zb))) (zx qY (zx qO (pvS 7) (pvS 4)) zk) (fun _ _=>rfl)) (zgR (pvS 5) (zx qY (pvS 7) (pvS 4)) set_list)))))
   (zd (zv (i:=8) jt.nd rfl (XM rfl) (zx qO (pc0 Y U J (za (pvS 0) (za (zx qa (pvS 1) zk) zb))) zk))
   (zd (qw W7 rfl (qN (by rfl) T.ji (za (zx qY (pc0 Y U J (za (pvS 0) (za (zx qa (pvS 1) zk) zb))) zk) zb)) (zo (i:=6) jt.nd rfl (XM rfl)) (Y8 (jc (zG JK (qf qV (pvS 5) (zx qY (pvS 8) (pvS 4)) (fun _ _=>rfl)) qo (zQ _)) (zf (zb6 qo (zgR (pvS 5) (zx qY (pvS 8) (pvS 4)) set_list))) zZ)
   (zf (zv (i:=8) jt.nd rfl (XM rfl) (zx qO (pvS 8) (pvS 4))))))
   (zf (zI (pvS 5)))))))),?_⟩
  refine⟨_,rfl,_,rfl,_,_,rfl,rfl,zdm (by lia) (by lia),?_⟩;show Ja 4 (V.int ((R*n:Nat):Int)) _ _ _;generalize hM:R*n=M at *
  refine⟨sz_1,fun l0 af=>?_⟩;have s0:=ze (o:=.lst [.str "."]) af;refine⟨_,rfl,l0,_,_,rfl,rfl,zc,by lia,by lia,?_,fun d hd=>?_⟩
  ·exact X6 (show 1*((M:Nat):Int).toNat<=120 by lia) (by decide)
  rw[WS,zo5];have s1:=s0.trans (ze (o:=.lst (cV (WP M 46))) hd);have l:H d=none:=s0.free hd;have ac:upd (upd H l0 (.lst [.str "."])) d (.lst (cV (WP M 46))) d=some (.lst (cV (WP M 46))):=zc;generalize upd (upd H l0 (.lst [.str "."])) d (.lst (cV (WP M 46)))=H1 at *
  refine⟨_,rfl,_,rfl,a,y,_,rfl,s1.seq O,ai,fun c0=>⟨_,_,rfl,rfl,yO.small (by decide) (by decide),_,_,rfl,rfl,(by show (0:Int)<11;decide),?_⟩⟩;obtain⟨k0,k1⟩:=Yr (x:=c0/64) (M:=11) (by decide);refine⟨_,rfl,by lia,by lia,?_⟩;refine qD (lo:=0) (n:=(c0/64%11).toNat) (fun i r k=>∃(g:List Nat) (G I:Option V),r=[some (.ref a),some (.int st),some (.int (R:Nat)),some (.int (n:Nat)),some (.int (M:Nat)),some (.ref d),G,I,none]/\zu H k/\k d=some (.lst (cV g))/\g.length=M/\(∀c∈g,c∈sg4)/\g.countP Q2<=i)
   ⟨WP M 46,_,_,rfl,s1,ac,Pm,fun c hc=>by rw[(List.mem_replicate.mp hc).2];decide,by rw[Pi];simp[Q2]⟩ ?_ ?_
  ·rintro i r H2 hi ⟨g,G,I,rfl,u,m,tl,tm,tc⟩;refine⟨_,rfl,_,rfl,_,_,rfl,rfl,_,rfl,_,_,rfl,rfl,a,y,_,rfl,u.seq O,by lia,fun c=>?_⟩;obtain⟨N,e1⟩:=Yr (x:=c) (M:=M) m1;obtain⟨ch,ab,aa⟩:=zne (c/(M:Int));refine⟨ZA,fun ml ag=>?_⟩;have z3:=ze (o:=.lst [.str "?",.str "o"]) ag;refine⟨_,rfl,_,rfl,_,_,rfl,rfl,yO.small (by lia) (by lia),_,_,rfl,rfl,(by show (0:Int)<2;decide),ml,_,_,_,rfl,rfl,SqL.of zc,ab,?_⟩;refine⟨_,rfl,_,rfl,_,rfl,_,_,rfl,rfl,(by lia),d,_,_,_,rfl,rfl,z3 _ _ m,zcQ N (by rw[zc7,tl];exact e1),?_⟩;refine⟨g.set (c%(M:Int)).toNat ch,_,_,rfl,fun b o e=>?_,?_,?_,mem_set aa tm _,?_⟩
   ·rw[zj (zh e l)];exact z3 _ _ (u _ _ e)
   ·rw[zc,zhG]
   ·rw[R1,tl]
   ·refine X6 (x8 Q2 ch g _) ?_;split<;>lia
  rintro r H2 ⟨g,G,I,rfl,u,m,tl,tm,tc⟩;have z:g.countP Q2<=10:=by lia
  refine⟨_,rfl,_,rfl,_,_,rfl,rfl,a,y,_,rfl,u.seq O,by lia,fun c1=>⟨_,_,rfl,rfl,yO.small (by decide) (by decide),?_⟩⟩;refine⟨_,rfl,_,rfl,_,_,rfl,rfl,a,y,_,rfl,u.seq O,by lia,fun c2=>⟨_,_,rfl,rfl,(by show (0:Int)<4;decide),?_⟩⟩;obtain⟨h0,h1⟩:=Yr (x:=c2) (M:=4) (by decide);refine⟨_,rfl,by lia,by lia,?_⟩;refine qD (lo:=0) (n:=(c2%4).toNat) (fun i r k=>∃(g:List Nat) (G I:Option V) (p:Int),r=[some (.ref a),some (.int st),some (.int (R:Nat)),some (.int (n:Nat)),some (.int (M:Nat)),some (.ref d),G,I,some (.int p)]/\zu H k/\k d=some (.lst (cV g))/\g.length=M/\(∀c∈g,c∈sg4)/\g.countP Q2<=10)
   ⟨g,_,_,_,rfl,u,m,tl,tm,z⟩ ?_ ?_
  ·rintro i r H3 hi ⟨v,w6,w7,p,rfl,s3,j,B,um,uc⟩;obtain⟨N,e1⟩:=Yr (x:=p) (M:=M) m1;have jl:(p%(M:Int)).toNat<v.length:=by lia
   refine⟨fun L k=>∃(g:List Nat),L=[some (.ref a),some (.int st),some (.int (R:Nat)),some (.int (n:Nat)),some (.int (M:Nat)),some (.ref d),some (.int (0+(i:Int))),w7,some (.int p)]/\zu H k/\k d=some (.lst (cV g))/\g.length=M/\(∀c∈g,c∈sg4)/\g.countP Q2<=10,?_,?_⟩
   ·refine⟨_,rfl,_,rfl,_,rfl,_,_,rfl,rfl,(by lia),d,_,_,_,rfl,rfl,SqL.of j,jT N (zgv jl),rfl,_,rfl,zeG (fun hc=>?_) (fun _=>?_)⟩
    ·refine⟨_,rfl,_,rfl,_,rfl,_,_,rfl,rfl,(by lia),d,_,_,_,rfl,rfl,j,zcQ N (by rw[zc7,B];exact e1),?_⟩;refine⟨v.set (p%(M:Int)).toNat 35,rfl,fun b o e=>?_,?_,?_,mem_set (by decide) um _,?_⟩
     ·rw[zj (zh e l)];exact s3 _ _ e
     ·rw[zc,znd,zhG]
     ·rw[R1,B]
     ·refine X6 (x8 Q2 35 v _) ?_;rw[if_neg (by decide)];exact uc
    ·exact⟨v,rfl,s3,j,B,um,uc⟩
   rintro L H4 ⟨am,rfl,s4,ae,ak,al,aj⟩;exact⟨_,rfl,_,rfl,_,_,rfl,rfl,yO.small (by lia) (by lia),am,_,_,_,rfl,s4,ae,ak,al,aj⟩
  rintro r H3 ⟨v,w6,w7,p,rfl,s3,j,B,um,uc⟩;exact⟨_,rfl,q d v H3 l j B um uc s3⟩
theorem ZT:bd.cps.toList=[63,48,49,50,51,52,53,54,55,56,35]:=by decide +kernel
def zq8:Sp:=fun f H Q _=>∃(l:Addr) (a:List Nat) (R n:Nat),f=[.ref l,.int (R:Nat),.int (n:Nat)]/\H l=some (.lst (cV a))/\a.length=R*n/\(∀c∈a,c∈sg4)/\a.countP Q2<=10/\1<=R/\R<=5/\1<=n/\n<=5 /\
 ∀(d:Addr) (b:List Nat) (e:Hp),H d=none->e d=some (.lst (cV b))->b.length=R*n->(∀c∈b,c∈bd.cps.toList)->b.countP qG<=10->zu H e->Q (.ref d) e
theorem zjZ {c:Nat}(h:c∈sg4):c=46\/c=63\/c=111\/c=35:=by
 simpa[sg4] using h
theorem zc8 {m:Nat}(h:m<=8):48+m∈bd.cps.toList:=by
 rw[ZT];have:∀m∈XC 9,48+m ∈ [63,48,49,50,51,52,53,54,55,56,35]:=by decide
 exact this m (Xf.mpr (by lia))
theorem zel {m:Nat}(h:m<=8):V.str (toString ((m:Nat):Int))=V.str ⟨#[48+m]⟩:=by
 have:=zlg (k:=48+m) (by lia) (by lia);rwa [show (((48+m:Nat):Int)-48)=((m:Nat):Int) by lia] at this
theorem zlP {xs:List Nat}{i:Nat}{v:V}(h:(pV xs)[i]?=some v):∃x,xs[i]?=some x/\v=.int ((x:Nat):Int):=by
 unfold pV at h;rw[Xl] at h;cases e:xs[i]? with
 | none=>rw[e] at h;cases h
 | some x =>
  rw[e] at h;cases h;exact⟨x,rfl,rfl⟩
theorem Ze (c k:Nat):decide (V.str ⟨#[c]⟩=V.str ⟨#[k]⟩)=decide (c=k):=decide_eq_decide.mpr (by rw[QV])
theorem yx:zF ["_law_signs_here","_law_rows","_law_columns","_law_found","_law_at","_law_sign"] ["_law_signs_here","_law_rows","_law_columns"] (zg Jd):=⟨rfl,rfl,rfl,by decide +kernel,rfl,by decide +kernel,by decide +kernel⟩
theorem zfh (T:Txt mg)(Z:Prog K mg)(D:zm K mg "_law_texts" Jd ["_law_signs_here","_law_rows","_law_columns"] f fd):qt P w K mg base CX0 2 f fd ["_law_signs_here","_law_rows","_law_columns"] zq8:=by
 obtain⟨ah,ag,JV⟩:=Z.law_near;refine D.F.ok yx (fun vs H Q E h=>?_) (fun ac A ab s H vs Q E hr h=>?_)
 ·obtain⟨l,u,R,n,rfl,_⟩:=h;rfl
 ·obtain⟨l,u,R,n,rfl,hl,tl,tm,tc,r1,r5,n1,n5,q⟩:=h;have af:R*n<=5*5:=TU r5 n5;refine⟨_,(zd (zv (i:=3) yx.nd rfl (XM rfl) (qc zb))
   (zd (qw W7 rfl (qN (by rfl) T.ji (za (zx yI (pvS 1) (pvS 2)) zb)) (zo (i:=4) yx.nd rfl (XM rfl)) (zd (zv (i:=5) yx.nd rfl (XM rfl) (qf qV (pvS 0) (pvS 4) (fun _ _=>rfl)))
   (Y8 (jc (zG JK (pvS 5) qo (zQ _)) (zf (zv (i:=5) yx.nd rfl (XM rfl) (jm zad (by rfl) T.znE Pd (za (zq zH (by rfl) T.jz WX (za (qh (N:=["_law_one_here","_law_signs_here"]) (src:=[none,some 0]) (zR.free (O:=(zg Jd).names) (XN:=["_law_signs_here","_law_rows","_law_columns","_law_found","_law_at","_law_sign"]) rfl rfl ⟨_,rfl⟩ rfl rfl (by decide +kernel) (by decide +kernel) (by decide +kernel) rfl (by decide +kernel)) rfl (zM (pc0 (zbA T JV) hr JV (za (pvS 4) (za (pvS 1) (za (pvS 2) zb))))) (fun _ _ _ _ _=>(zo (i:=0) (by show W3 (["_law_one_here","_law_signs_here"]:List Str);decide +kernel) rfl (XM rfl))) (fun _ _ _ _ _=>(qg (zG JK (qf (Qc (K:=K) (by rfl)) (pvS 1) (pvS 0) (fun _ _=>rfl)) qo (zQ _)))) (fun _ _ _ _ _=>(pvS 0))) zb)) zb)))) zZ)
   (Y8 (jc (zG JK (pvS 5) qo (zQ _)) (zf (zv (i:=5) yx.nd rfl (XM rfl) qo)) zZ)
   (zf (yk (xw WZ Wq Wp jw (pvS 3) (za (pvS 5) zb))))))))
   (zf (zI (pvS 3))))),?_⟩
  refine⟨JX,fun d hd=>?_⟩;have s0:zu H (upd H d (.lst [])):=ze hd;have em:(((R:Nat):Int)*((n:Nat):Int))=((R*n:Nat):Int):=(UV R n).symm;refine⟨_,rfl,_,rfl,_,_,rfl,rfl,zdm (by lia) (by lia),_,rfl,by lia,by lia,?_⟩;refine qD (lo:=0) (n:=(((R:Nat):Int)*((n:Nat):Int)).toNat) (fun i σ m=>∃(B:List Nat) (v4 v5:Option V),σ=[some (.ref l),some (.int (R:Nat)),some (.int (n:Nat)),some (.ref d),v4,v5]/\zu H m/\m d=some (.lst (cV B))/\B.length=i/\(∀c∈B,c∈bd.cps.toList)/\B.countP qG<=(u.take i).countP Q2)
   ⟨[],_,_,rfl,s0,zc,rfl,(fun _ h=>nomatch h),W5 _⟩ ?_ ?_
  ·rintro i σ H1 hi ⟨B,v4,v5,rfl,s1,I,Y,um,uc⟩;have iM:i<R*n:=by lia
   have jl:i<u.length:=by lia
   have c4:=tm _ (getD_mem jl);have tk:(u.take (i+1)).countP Q2=(u.take i).countP Q2+if Q2 (u.getD i 0)=true then 1 else 0:=by
    rw[Xx,Vo,X7 jl,XA,X7 jl];show _+S6 Q2 [_]=_;rw[WT,RX,V6];rfl
   rw[show (0:Int)+(i:Nat)=((i:Nat):Int) by lia];refine⟨_,rfl,_,rfl,l,_,_,_,rfl,rfl,SqL.of (s1 _ _ hl),jT (by lia) (by rw[WS];exact zgv jl),?_⟩;generalize hc:u.getD i 0=c at *
   refine⟨fun g m=>∃(k:Nat),g=[some (.ref l),some (.int (R:Nat)),some (.int (n:Nat)),some (.ref d),some (.int ((i:Nat):Int)),some (.str ⟨#[k]⟩)]/\zu H1 m/\(c=46->48<=k/\k<=56)/\(c≠46->k=c),?_,?_⟩
   ·refine⟨_,rfl,rfl,_,rfl,zeG (fun hx=>?_) (fun hx=>?_)⟩
    ·rw[zlO,Ze] at hx;have G:c=46:=of_decide_eq_true hx;refine⟨_,rfl,_,rfl,_,rfl,i,R,n,rfl,r5,n1,n5,iM,fun np H2 ae aa M=>⟨np,rfl,⟨_,SqL.of aa⟩,fun z hz=>?_⟩⟩;refine qj (K:=K) (a:=np) (xs:=pV (Jl R n i)) (fun j g m=>∃(u0:Option V) (r:List V),g=[u0,some (.ref l)]/\zu H2 m/\m z=some (.lst r)/\r.length<=j)
      ⟨_,[],rfl,ze hz,zc,W5 _⟩ (fun j g m _ ⟨_,_,_,y,_⟩=>SqL.of (y _ _ aa)) ?_ ?_
     ·rintro j v g H3 hv ⟨u0,r,rfl,U,p,yl⟩;obtain⟨x,L,rfl⟩:=zlP hv;have xm:=Xf.mp (XX.mp (X4 L)).1;have jn:=(XZ.mp L).1;have n8:=zc6 r5 n5 iM;refine⟨_,rfl,_,rfl,l,_,_,_,rfl,rfl,SqL.of (U _ _ (M _ _ (s1 _ _ hl))),jT (by lia) (by rw[WS];exact zgv (j:=x) (by lia)),rfl,_,rfl,zeG (fun _=>?_) (fun _=>?_)⟩
      ·refine⟨_,rfl,_,p,XI (show _<=64 by lia) (by decide),_,_,rfl,fun b o e=>?_,zc,?_⟩
       ·rw[zj (zh e hz)];exact U _ _ e
       ·rw[XW];show _+1<=_;lia
      ·exact⟨_,r,rfl,U,p,by lia⟩
     rintro g H3 ⟨u0,r,rfl,U,p,yl⟩;have n8:=zc6 r5 n5 iM;have y8:r.length<=8:=by
      unfold pV at yl;rw[Y1] at yl;lia
     refine⟨z,r,rfl,.inl (SqL.of p),_,rfl,?_,?_⟩
     ·show (((r.length:Nat):Int).natAbs).log2<1920;rw[S9];exact XI (Nat.log2_le_self _) (by lia)
     ·exact⟨48+r.length,congrArg (fun v=>[some (V.ref l),some (.int (R:Nat)),some (.int (n:Nat)),some (.ref d),some (.int ((i:Nat):Int)),some v]) (zel y8),M.trans U,fun _=>by lia,fun h=>absurd G h⟩
    ·rw[zlO,Ze] at hx;have G:c≠46:=fun e=>hx (decide_eq_true e);exact⟨c,rfl,zu.refl _,fun e=>absurd e G,fun _=>rfl⟩
   rintro g H2 ⟨k,rfl,M,k1,k2⟩;refine⟨fun g m=>g=[some (.ref l),some (.int (R:Nat)),some (.int (n:Nat)),some (.ref d),some (.int ((i:Nat):Int)),some (.str ⟨#[if k=111 then 63 else k]⟩)]/\m=H2,?_,?_⟩
   ·refine⟨_,rfl,rfl,_,rfl,zeG (fun hx=>?_) (fun hx=>?_)⟩
    ·rw[zo6,Ze] at hx;rw[if_pos (of_decide_eq_true hx)];exact⟨congrArg (fun v=>[some (V.ref l),some (.int (R:Nat)),some (.int (n:Nat)),some (.ref d),some (.int ((i:Nat):Int)),some (V.str v)]) Ye,rfl⟩
    ·rw[zo6,Ze] at hx;rw[if_neg fun e=>hx (decide_eq_true e)];exact⟨rfl,rfl⟩
   rintro g H3 ⟨rfl,rfl⟩;have kk:(if k=111 then 63 else k)∈bd.cps.toList/\(if qG (if k=111 then 63 else k)=true then 1 else 0)<=(if Q2 c=true then 1 else 0):=by
    rcases zjZ c4 with e | e | e | e
    ·obtain⟨a1,a2⟩:=k1 e;rw[if_neg (by lia),show k=48+(k-48) by lia];refine⟨zc8 (by lia),?_⟩;rw[if_neg (by unfold qG;rw[decide_eq_true_eq];lia)];exact W5 _
    ·rw[k2 (by lia),e];exact⟨by rw[ZT];decide,by decide⟩
    ·rw[k2 (by lia),e];exact⟨by rw[ZT];decide,by decide⟩
    ·rw[k2 (by lia),e];exact⟨by rw[ZT];decide,by decide⟩
   generalize (if k=111 then 63 else k)=k' at *
   have J:=M _ _ I;refine⟨_,rfl,.inl ⟨rfl,_,SqL.of J⟩,_,rfl,d,_,_,rfl,rfl,J,?_,B++[k'],_,_,rfl,fun b o e=>?_,?_,?_,fun x hx=>?_,?_⟩
   ·rw[zc7,Y];exact Xy (show i<64 by lia) (by decide)
   ·rw[zj (zh e hd)];exact M _ _ (s1 _ _ e)
   ·rw[zc];unfold cV;rw[Xk];rfl
   ·rw[XW,Y];rfl
   ·rcases XF.mp hx with hx | hx
    ·exact um x hx
    ·have:x=k':=by simpa using hx
     rw[this];exact kk.1
   ·rw[Vo,tk];refine SL uc ?_;rw[WT,RX,V6];exact kk.2
  ·rintro σ H1 ⟨B,v4,v5,rfl,s1,I,Y,um,uc⟩;rw[em,WS] at Y;refine⟨_,rfl,q d B H1 hd I Y um (X6 uc (X6 (UQ _ u).countP_le tc)) s1⟩
theorem ziO:("0":Str)=⟨#[48]⟩:=by decide +kernel
theorem zc9 (a b:Str):(a++b).cps.toList=a.cps.toList++b.cps.toList:=by
 have e:(a++b).cps=a.cps++b.cps:=rfl;rw[e,WD]
theorem zem (p:Nat->Bool)(i:Nat):∀(j:Nat) (t:List Nat),(Cells.qb p i j t).length=t.countP p
 | _,[]=>rfl
 | j,c::r=>by
  rw[Cells.qb,XW,zem p i (j+1) r,WT];split<;>simp<;>lia
theorem zen (p:Nat->Bool):∀(i:Nat) (gs:List (List Nat)),(Cells.zL p i gs).length=gs.flatten.countP p
 | _,[]=>rfl
 | i,t::r=>by rw[Cells.zL,XW,zem,zen p (i+1) r,WN,Vo]
theorem zeo (rs:List Str):(zP rs).length=(codes rs).flatten.countP qG:=zen qG 0 (codes rs)
theorem zhI (rs:List Str)(t:Str):(codes (rs++[t])).flatten=(codes rs).flatten++t.cps.toList:=by
 unfold codes;rw[Xk,Ws];simp
theorem zo7 (x:Int):∃c:Nat,atI ("??#012345678":Str).cps.toList (x%12)=some c/\c∈bd.cps.toList:=by
 have e:("??#012345678":Str).cps.toList=[63,63,35,48,49,50,51,52,53,54,55,56]:=by decide +kernel
 rw[e,ZT];have a:=UW x (show (12:Int)≠0 by decide);have b:=U5 x (show (0:Int)<12 by decide);have t:∀m∈XC 12,((atI [63,63,35,48,49,50,51,52,53,54,55,56] ((m:Nat):Int)).any fun c=>[63,48,49,50,51,52,53,54,55,56,35].contains c)=true:=by decide +kernel
 have h:=t (x%12).toNat (Xf.mpr (by lia));rw[Vu a] at h;cases ha:atI [63,63,35,48,49,50,51,52,53,54,55,56] (x%12) with
 | none =>
  rw[ha] at h;cases h
 | some c =>
  rw[ha] at h;exact⟨c,rfl,List.contains_iff_mem.mp h⟩
def zqr (K:X5):Sp:=fun f H Q _=>∃(a:Addr) (e:List Int) (st:Int) (R n:Nat),f=[.ref a,.int st,.int (R:Nat),.int (n:Nat)]/\SqL K H a (e.map V.int)/\0<=st/\1<=R/\R<=5/\1<=n/\n<=5 /\
 ∀(p l:Addr) (b:List Str) (c:Int) (d:Hp),zY d p l b c->b.length=R->(∀t∈b,Row bd.cps.toList n t)->(zP b).length<=10->0<=c->c<=64->zu H d->Q (.ref p) d
theorem qT:zF ["_law_script","_law_start","_law_rows","_law_columns","_law_texts_here","_law_shut","_law_row","_law_number","_law_text","_law_column","_law_sign"] ["_law_script","_law_start","_law_rows","_law_columns"] (zg Qi):=⟨rfl,rfl,rfl,by decide +kernel,rfl,by decide +kernel,by decide +kernel⟩
theorem zhJ (T:Txt mg)(Z:Prog K mg)(D:zm K mg "_law_dug" Qi ["_law_script","_law_start","_law_rows","_law_columns"] f fd):qt P w K mg base CX0 2 f fd ["_law_script","_law_start","_law_rows","_law_columns"] (zqr K):=by
 obtain⟨yG,yi,Y⟩:=Z.law_cell_at;refine D.F.ok qT (fun vs H Q E h=>?_) (fun af A ac s H vs Q E hr h=>?_)
 ·obtain⟨a,ns,st,R,n,rfl,_⟩:=h;rfl
 ·obtain⟨a,ns,st,R,n,rfl,hS,ag,r1,r5,n1,n5,q⟩:=h;refine⟨_,(zd (zv (i:=4) qT.nd rfl (XM rfl) (qc zb))
   (zd (zv (i:=5) qT.nd rfl (XM rfl) zk)
   (zd (qw W7 rfl (qN (by rfl) T.ji (za (pvS 2) zb)) (zo (i:=6) qT.nd rfl (XM rfl)) (zd (zv (i:=7) qT.nd rfl (XM rfl) (pc0 (yf T Y) hr Y (za (pvS 0) (za (zx qa (zx qa (pvS 1) zk) (pvS 6)) zb))))
   (zd (zv (i:=8) qT.nd rfl (XM rfl) qo)
   (zd (qw W7 rfl (qN (by rfl) T.ji (za (pvS 3) zb)) (zo (i:=9) qT.nd rfl (XM rfl)) (zd (zv (i:=10) qT.nd rfl (XM rfl) (qf J7 qo (zx qY (pvS 7) zk) (fun _ _=>rfl)))
   (zd (zv (i:=7) qT.nd rfl (XM rfl) (zx qO (pvS 7) zk))
   (Y8 (jc (PW.pt (zeA (zG JK (pvS 10) qo (zQ _)) (zbO (zG JK (pvS 5) zk (zQ _))))) (zf (zv (i:=10) qT.nd rfl (XM rfl) qo)) zZ)
   (zd (zv (i:=5) qT.nd rfl (XM rfl) (zx qa (pvS 5) (jm zi3 (by rfl) T.ziC T8 (za (Jx JK (pvS 10) qo (zQ _)) zb))))
   (zf (zv (i:=8) qT.nd rfl (XM rfl) (zx zgU (pvS 8) (pvS 10)))))))))
   (zf (yk (xw WZ Wq Wp jw (pvS 4) (za (pvS 8) zb))))))))
   (zf (zI (jy (za (pvS 4) (za (zx qY (pc0 (yf T Y) hr Y (za (pvS 0) (za (zx qa (pvS 1) zk) zb))) (zx qa (pvS 5) zk)) zb)))))))),?_⟩
  refine⟨JX,fun d hd=>?_⟩;have s0:zu H (upd H d (.lst [])):=ze hd;refine⟨_,rfl,_,rfl,by lia,by lia,?_⟩;refine qD (lo:=0) (n:=((R:Nat):Int).toNat) (fun i G I=>∃(y:List Str) (m:Nat) (v6 v7 v8 N l:Option V),G=[some (.ref a),some (.int st),some (.int (R:Nat)),some (.int (n:Nat)),some (.ref d),some (.int (m:Nat)),v6,v7,v8,N,l]/\zu H I/\I d=some (.lst (y.map V.str))/\y.length=i/\(∀t∈y,Row bd.cps.toList n t)/\(codes y).flatten.countP qG=m/\m<=10)
   ⟨[],0,_,_,_,_,_,rfl,s0,zc,rfl,(fun _ h=>nomatch h),rfl,W5 _⟩ ?_ ?_
  ·rintro i G H1 hi ⟨y,m,v6,v7,v8,N,l,rfl,s1,r,M,rr,rc,B⟩;refine⟨_,rfl,_,rfl,_,_,rfl,rfl,_,rfl,_,_,rfl,rfl,a,ns,_,rfl,s1.seq hS,by lia,fun c=>?_⟩;refine⟨_,rfl,_,rfl,by lia,by lia,?_⟩;refine qD (lo:=0) (n:=((n:Nat):Int).toNat) (fun j G I=>∃(t:Str) (k:Nat) (x:Int) (N l:Option V),G=[some (.ref a),some (.int st),some (.int (R:Nat)),some (.int (n:Nat)),some (.ref d),some (.int (k:Nat)),some (.int (0+(i:Int))),some (.int x),some (.str t),N,l]/\I=H1/\t.cps.toList.length=j/\(∀c∈t.cps.toList,c∈bd.cps.toList)/\m+t.cps.toList.countP qG=k/\k<=10)
    ⟨"",m,c,_,_,rfl,rfl,rfl,(by intro c hc;cases hc),rfl,B⟩ ?_ ?_
   ·rintro j G H2 hj ⟨t,k,x,w9,ae,rfl,rfl,tl,tm,tk,z⟩;obtain⟨ch,ab,L⟩:=zo7 x;refine⟨_,rfl,_,_,rfl,rfl,(by show (0:Int)<12;decide),_,_,ch,rfl,rfl,(by decide +kernel),ab,?_⟩;refine⟨_,rfl,_,_,rfl,rfl,yO.small (by decide) (by decide),?_⟩;refine⟨fun O I=>∃(e:Nat),O=[some (.ref a),some (.int st),some (.int (R:Nat)),some (.int (n:Nat)),some (.ref d),some (.int (k:Nat)),some (.int (0+(i:Int))),some (.int (x/12)),some (.str t),some (.int (0+(j:Int))),some (.str ⟨#[e]⟩)]/\I=H2/\e∈bd.cps.toList/\(e=63->k<10),?_,?_⟩
    ·refine⟨_,rfl,rfl,_,rfl,?_⟩;have U:decide (V.str ⟨#[ch]⟩=V.str "?")=decide (ch=63):=by rw[Ye,Ze]
     by_cases hq:ch=63
     ·refine jX (U.trans (decide_eq_true hq)) ?_;refine⟨_,rfl,rfl,_,rfl,?_⟩;have J:decide (V.int ((k:Nat):Int)=V.int 10)=decide (k=10):=decide_eq_decide.mpr ⟨fun h=>by injection h with h;lia,fun h=>by rw[h];rfl⟩;by_cases hk:k=10
      ·refine jX (J.trans (decide_eq_true hk)) ?_;refine⟨48,congrArg (fun v:Str=>[some (V.ref a),some (.int st),some (.int (R:Nat)),some (.int (n:Nat)),some (.ref d),some (.int (k:Nat)),some (.int (0+(i:Int))),some (.int (x/12)),some (.str t),some (.int (0+(j:Int))),some (V.str v)]) ziO,rfl,zc8 (m:=0) (by decide),fun e=>by lia⟩
      ·refine jE (J.trans (decide_eq_false hk)) ?_;exact⟨ch,rfl,rfl,L,fun _=>by lia⟩
     ·refine jE (U.trans (decide_eq_false hq)) ?_;exact⟨ch,rfl,rfl,L,fun e=>absurd e hq⟩
    rintro O H3 ⟨e,rfl,rfl,eb,aa⟩;have U:decide (V.str ⟨#[e]⟩=V.str "?")=decide (e=63):=by rw[Ye,Ze]
    refine⟨_,rfl,_,rfl,rfl,.inr ⟨_,rfl,_,_,rfl,rfl,?_⟩⟩;refine⟨_,rfl,_,rfl,_,_,rfl,rfl,?_,?_⟩
    ·show t.cps.size+1<=Xw;have:t.cps.size=j:=by rw[<- tl,X2]
     exact X6 (show _<=64 by lia) (by decide)
    ·have hv:V.int (((k:Nat):Int)+(if decide (V.str ⟨#[e]⟩=V.str "?")=true then 1 else 0))=V.int ((k+(if e=63 then 1 else 0):Nat):Int):=by
      rw[U];by_cases g:e=63
      ·rw[if_pos g,decide_eq_true g];rfl
      ·rw[if_neg g,decide_eq_false g];rfl
     refine⟨t++⟨#[e]⟩,k+(if e=63 then 1 else 0),x/12,some (.int (0+(j:Int))),some (.str ⟨#[e]⟩),congrArg (fun v:V=>[some (V.ref a),some (.int st),some (.int (R:Nat)),some (.int (n:Nat)),some (.ref d),some v,some (.int (0+(i:Int))),some (.int (x/12)),some (.str (t++⟨#[e]⟩)),some (.int (0+(j:Int))),some (.str ⟨#[e]⟩)]) hv,rfl,?_,fun c hc=>?_,?_,?_⟩
     ·rw[zc9,XW,tl];rfl
     ·rw[zc9] at hc;rcases XF.mp hc with hc | hc
      ·exact tm c hc
      ·have:c=e:=by simpa using hc
       rw[this];exact eb
     ·rw[zc9,Vo,<- tk];have:S6 qG (⟨#[e]⟩:Str).cps.toList=if e=63 then 1 else 0:=by
       show S6 qG [e]=_;rw[WT,RX,V6];unfold qG;by_cases g:e=63
       ·rw[if_pos g,if_pos (decide_eq_true g)]
       ·rw[if_neg g,if_neg (fun h=>g (of_decide_eq_true h))]
      rw[this];lia
     ·by_cases g:e=63
      ·rw[if_pos g];exact aa g
      ·rw[if_neg g];exact z
   rintro G H2 ⟨t,k,x,w9,ae,rfl,rfl,tl,tm,tk,z⟩;rw[WS] at tl;refine⟨_,rfl,.inl ⟨rfl,_,SqL.of r⟩,_,rfl,d,_,_,rfl,rfl,r,?_,y++[t],k,_,_,_,_,_,rfl,fun b o e=>?_,?_,?_,fun u hu=>?_,?_,z⟩
   ·rw[Y1,M];exact Xy (show i<64 by lia) (by decide)
   ·rw[zj (zh e hd)];exact s1 _ _ e
   ·rw[zc,Xk];rfl
   ·rw[XW,M];rfl
   ·rcases XF.mp hu with hu | hu
    ·exact rr u hu
    ·have:u=t:=by simpa using hu
     rw[this];exact⟨by rw[<- tl,X2],tm⟩
   ·rw[zhI,Vo,rc,tk]
  rintro G H1 ⟨y,m,v6,v7,v8,N,l,rfl,s1,r,M,rr,rc,B⟩;rw[WS] at M;refine⟨_,rfl,_,rfl,_,rfl,_,_,rfl,rfl,a,ns,_,rfl,s1.seq hS,by lia,fun c=>⟨_,rfl,_,_,rfl,rfl,_,_,rfl,rfl,(by lia),ZA,fun p hp=>?_⟩⟩;have z2:=ze (o:=.tup [.ref d,.int (c%(((m:Nat):Int)+2))]) hp;have c0:=UW c (show ((m:Nat):Int)+2≠0 by lia);have c1:=U5 c (show 0<((m:Nat):Int)+2 by lia);exact q p d y _ _ ⟨zc,z2 _ _ r⟩ M rr (by rw[zeo,rc];exact B) c0 (by lia) (s1.trans z2)
theorem zj0 {u:Nat}(h:u∈bd.cps.toList)(k:(!(!(Vg ("?#":Str) ⟨#[u]⟩ 0 ("?#":Str).length 1).isEmpty))=true):48<=u/\u<=56:=by
 have:∀u∈bd.cps.toList,(!(!(Vg ("?#":Str) ⟨#[u]⟩ 0 ("?#":Str).length 1).isEmpty))=true->48<=u/\u<=56:=by decide +kernel
 exact this u h k
theorem join_one:∀b:List Nat,(UT "" (b.map fun c=>(⟨#[c]⟩:Str)))=⟨b.toArray⟩
 | []=>rfl
 | [c]=>rfl
 | c::a::r=>by
  have d:=join_one (a::r);show (⟨#[c]⟩:Str)++("":Str)++UT "" ((a::r).map fun c=>(⟨#[c]⟩:Str))=_;rw[d];have e:((⟨#[c]⟩:Str)++("":Str))=⟨#[c]⟩:=by
   show (⟨#[c]++("":Str).cps⟩:Str)=_;have:("":Str).cps=#[]:=by decide +kernel
   rw[this];rfl
  rw[e];show (⟨#[c]++(a::r).toArray⟩:Str)=⟨(c::a::r).toArray⟩;congr 1;apply PZ.mp;rw[WD];rfl
def rowOf (a:List Nat)(n k:Nat):List Nat:=(a.drop (n*k)).take n
def rowsOf (a:List Nat)(n R:Nat):List Str:=(XC R).map fun k=>(⟨(rowOf a n k).toArray⟩:Str)
theorem zfi (a:List Nat)(n R:Nat):codes (rowsOf a n R)=(XC R).map (rowOf a n):=by
 unfold codes rowsOf;rw[WM];rfl
theorem zbB (a:List Nat)(n:Nat):∀R,((XC R).map (rowOf a n)).flatten=a.take (n*R)
 | 0=>by simp
 | R+1=>by
  rw[Vd,Xk,Ws,zbB a n R];show _++(rowOf a n R++[])=_;rw[Xc];unfold rowOf;rw[On,List.take_add]
theorem zep {a:List Nat}{n R k:Nat}(h:a.length=R*n)(hk:k<R):(rowOf a n k).length=n:=by
 unfold rowOf;rw[XE,VJ,h];have:n*k+n<=R*n:=by
  rw[<- On,SV];exact OW n hk
 lia
theorem znf {a:List Nat}{n R k:Nat}(h:a.length=R*n)(hk:k<R):zah (cV a) (some (((n*k:Nat):Nat):Int)) (some (((n*k+n:Nat):Nat):Int))=cV (rowOf a n k):=by
 have:n*k+n<=R*n:=by
  rw[<- On,SV];exact OW n hk
 unfold zah rowOf;rw[zc7,HT.zbP,HT.zbP,Pn (by lia),Pn (by lia),show n*k+n-n*k=n by lia];unfold cV;rw[Tu,Rf]
theorem zqs (x:Int):∃z:Int,atI [V.int 0,V.int 0,V.int 0,V.int 1,V.int (-1),V.int 0] (x%6)=some (.int z)/\z<=1:=by
 have a:=UW x (show (6:Int)≠0 by decide);have c:=U5 x (show (0:Int)<6 by decide);have t:∀m∈XC 6,∃z ∈ [(0:Int),1,-1],atI [V.int 0,V.int 0,V.int 0,V.int 1,V.int (-1),V.int 0] ((m:Nat):Int)=some (.int z):=by decide +kernel
 obtain⟨z,h1,h2⟩:=t (x%6).toNat (Xf.mpr (by lia));rw[Vu a] at h2;have b:∀z ∈ [(0:Int),1,-1],z<=1:=by decide
 exact⟨z,h2,b z h1⟩
structure Brd (rs:List Str):Prop where
 r1:1<=rs.length
 r5:rs.length<=5
 ex:∃n,1<=n/\n<=5/\∀t∈rs,Row bd.cps.toList n t
 sh:(zP rs).length<=10
theorem Brd.rows {rs:List Str}(B:Brd rs):Rows bd.cps.toList rs:=by
 obtain⟨n,h1,h2,a⟩:=B.ex;exact⟨B.r1,X6 B.r5 (by decide),n,h1,by lia,a⟩
def zq9 (K:X5):Sp:=fun f H Q _=>∃(a:Addr) (e:List Int) (st:Int),f=[.ref a,.int st]/\SqL K H a (e.map V.int)/\0<=st /\
 ∀(p l:Addr) (d:List Str) (c:Int) (b:Hp),zY b p l d c->Brd d->0<=c->c<=64->zu H b->Q (.ref p) b
theorem qI:zF ["_law_script","_law_start","_law_head","_law_rows","_law_columns","_law_bent","_law_signs_here","_law_told_here","_law_stones","_law_at","_law_texts_here"] ["_law_script","_law_start"] (zg Je):=⟨rfl,rfl,rfl,by decide +kernel,rfl,by decide +kernel,by decide +kernel⟩
theorem zfj (T:Txt mg)(Z:Prog K mg)(D:zm K mg "_law_board" Je ["_law_script","_law_start"] f fd):qt P w K mg base CX0 3 f fd ["_law_script","_law_start"] (zq9 K):=by
 obtain⟨yG,yi,zK⟩:=Z.law_cell_at;obtain⟨aw,ay,ac⟩:=Z.law_signs;obtain⟨ax,az,ae⟩:=Z.law_texts;obtain⟨a3,a2,af⟩:=Z.law_dug;have ja:qt P w K mg base CX0 1 yG yi ["_law_script","_law_k"] (zhn K):=yf T zK;refine D.F.ok qI (fun m H Q E h=>?_) (fun au A ao s H m Q E hr h=>?_)
 ·obtain⟨a,ns,st,rfl,_⟩:=h;rfl
 ·obtain⟨a,ns,st,rfl,hS,U,q⟩:=h;refine⟨_,(zd (zv (i:=2) qI.nd rfl (XM rfl) (pc0 ja hr zK (za (pvS 0) (za (pvS 1) zb))))
   (zd (zv (i:=3) qI.nd rfl (XM rfl) (zx qa zk (zx qY (pvS 2) zk)))
   (zd (zv (i:=4) qI.nd rfl (Vm rfl) (zx qa zk (zx qY (zx qO (pvS 2) zk) zk)))
   (zd (zv (i:=5) qI.nd rfl (XM rfl) (zx qO (pc0 ja hr zK (za (pvS 0) (za (zx qa (pvS 1) zk) zb))) zk))
   (zd (jc (zG JK (zx qY (pc0 ja hr zK (za (pvS 0) (za (zx qa (pvS 1) zk) zb))) zk) zk (zQ _)) (zf (zI (pc0 (zhJ T Z af) hr af (za (pvS 0) (za (pvS 1) (za (pvS 3) (za (pvS 4) zb))))))) zZ)
   (zd (zv (i:=6) qI.nd rfl (XM rfl) (pc0 (zfg T Z ac) hr ac (za (pvS 0) (za (pvS 1) (za (pvS 3) (za (pvS 4) zb))))))
   (zd (zv (i:=7) qI.nd rfl (Vm rfl) (pc0 (zfh T Z ae) hr ae (za (pvS 6) (za (pvS 3) (za (pvS 4) zb)))))
   (zd (zv (i:=8) qI.nd rfl (XM rfl) (zq (Zm rfl) (by rfl) T.zf4 U1 (za zk (za (zx qa (xw WZ PN PM zks (pvS 6) (za qo zb)) (qf qV (qc (za zk (za zk (za zk (za zk (za (zpH zn7 zk) (za zk zb))))))) (zx qY (pvS 5) zk) (fun _ _=>rfl))) zb))))
   (zd (zv (i:=9) qI.nd rfl (XM rfl) (zx qY (zx qO (pvS 5) zk) (zx yI (pvS 3) (pvS 4))))
   (Y8 (jc (PW.pt (zeA (zG JK (zx qY (zx qO (pvS 5) zk) zk) zk (zQ _)) (zbO (zG zak (qf qV (pvS 7) (pvS 9) (fun _ _=>rfl)) qo (by rfl))))) (zf (zb6 (jm zad (by rfl) T.znE Pd (za (zx qY (zx qa (zx qa (jm Z4 (by rfl) T.ziC T8 (za (qf qV (pvS 7) (pvS 9) (fun _ _=>rfl)) zb)) zk) (zx qY (zx qO (pvS 5) zk) zk)) zk) zb)) (zgR (pvS 7) (pvS 9) set_list))) zZ)
   (zd (Jy (i:=10) qI.nd rfl rfl (N:=["_law_k","_law_told_here","_law_columns"]) (src:=[none,some 7,some 4]) (zR.free (O:=(zg Je).names) (XN:=["_law_script","_law_start","_law_head","_law_rows","_law_columns","_law_bent","_law_signs_here","_law_told_here","_law_stones","_law_at","_law_texts_here"]) rfl rfl ⟨_,rfl⟩ rfl rfl (by decide +kernel) (by decide +kernel) (by decide +kernel) rfl (by decide +kernel)) rfl (qN (by rfl) T.ji (za (pvS 3) zb)) (fun _ _ _ _ _=>(zo (i:=0) (by show W3 (["_law_k","_law_told_here","_law_columns"]:List Str);decide +kernel) rfl (XM rfl))) (fun _ _ _ _ _=>qU) (fun _ _ _ _ _=>(zoF (K:=K) (by rfl) Ss So Sm (zkY (K:=K) (by rfl)) qo (za (zag (zkZ (K:=K) (by rfl)) (pvS 1) (zaf (zx yI (pvS 2) (pvS 0))) (zaf (zx qa (zx yI (pvS 2) (pvS 0)) (pvS 2)))) zb))))
   (zf (zI (jy (za (pvS 10) (za (pvS 8) zb)))))))))))))))),?_⟩
  refine⟨_,rfl,_,rfl,a,ns,_,rfl,hS,U,fun c=>?_⟩;refine⟨_,rfl,_,_,rfl,rfl,(by show (0:Int)<5;decide),_,_,rfl,rfl,?_⟩;show Ja 3 (V.int (1+c%5)) _ _ _;obtain⟨x0,x1⟩:=Yr (x:=c) (M:=5) (by decide);obtain⟨R,hR⟩:∃R:Nat,1+c%5=(R:Int):=⟨(1+c%5).toNat,by lia⟩;rw[hR];refine⟨_,rfl,_,_,rfl,rfl,yO.small (by decide) (by decide),_,_,rfl,rfl,(by show (0:Int)<5;decide),_,_,rfl,rfl,?_⟩;show Ja 4 (V.int (1+c/5%5)) _ _ _;obtain⟨y0,y1⟩:=Yr (x:=c/5) (M:=5) (by decide);obtain⟨n,hn⟩:∃n:Nat,1+c/5%5=(n:Int):=⟨(1+c/5%5).toNat,by lia⟩;rw[hn];have r1:1<=R:=by lia
  have r5:R<=5:=by lia
  have n1:1<=n:=by lia
  have n5:n<=5:=by lia
  have m1:0<R*n:=Nat.mul_pos (by lia) (by lia);have av:R*n<=5*5:=TU r5 n5;refine⟨_,rfl,_,rfl,_,_,rfl,rfl,a,ns,_,rfl,hS,by lia,fun c2=>⟨_,_,rfl,rfl,yO.small (by decide) (by decide),?_⟩⟩;show Ja 5 (V.int (c2/2)) _ _ _;generalize c2/2=g;refine⟨_,rfl,_,rfl,_,_,rfl,rfl,a,ns,_,rfl,hS,by lia,fun c3=>⟨_,_,rfl,rfl,(by show (0:Int)<2;decide),rfl,_,rfl,zeG (fun _=>?_) (fun _=>?_)⟩⟩
  ·refine⟨_,rfl,_,rfl,_,rfl,_,rfl,a,ns,st,R,n,rfl,hS,U,r1,r5,n1,n5,fun p l rs b H1 B rl rr sh b0 b1 s1=>?_⟩;exact q p l rs b H1 B ⟨by lia,by lia,⟨n,n1,n5,rr⟩,sh⟩ b0 b1 s1
  refine⟨_,rfl,_,rfl,_,rfl,_,rfl,a,ns,st,R,n,rfl,hS,U,r1,r5,n1,n5,fun d Y H1 hd aa tl tm tc s1=>?_⟩;refine⟨_,rfl,_,rfl,_,rfl,d,Y,R,n,rfl,aa,tl,tm,tc,r1,r5,n1,n5,fun e G H2 he ak ul um uc s2=>?_⟩;have ab:=s2 _ _ aa;have ap:=s1.trans s2;have aj:H e=none:=s1.free he;have ag:cV Y=(Y.map fun c=>(⟨#[c]⟩:Str)).map V.str:=by
   unfold cV;rw[WM];rfl
  obtain⟨z,hz,z1⟩:=zqs g;refine⟨_,rfl,.inl ⟨rfl,_,SqL.of ab⟩,d,Y.map fun c=>(⟨#[c]⟩:Str),"o",rfl,rfl,by rw[<- ag];exact ab,_,rfl,zqa,fun ml am=>?_⟩;have z3:=ze (o:=.lst [.int 0,.int 0,.int 0,.int 1,.int (-1),.int 0]) am;refine⟨_,rfl,_,_,rfl,rfl,(by show (0:Int)<6;decide),ml,_,_,_,rfl,rfl,SqL.of zc,hz,_,_,rfl,rfl,_,_,rfl,?_⟩;have y:=z3 _ _ ak;have J:=ap.trans z3;generalize upd H2 ml (.lst [.int 0,.int 0,.int 0,.int 1,.int (-1),.int 0])=H3 at *
  have cl:(S6 (fun t=>t==("o":Str)) (Y.map fun c=>(⟨#[c]⟩:Str)))<=25:=by
   have:=Pe (p:=fun t=>t==("o":Str)) (l:=Y.map fun c=>(⟨#[c]⟩:Str));rw[Y1] at this;lia
  generalize S6 (fun t=>t==("o":Str)) (Y.map fun c=>(⟨#[c]⟩:Str))=cn at *
  show Ja 8 (V.int (if ((cn:Nat):Int)+z>0 then ((cn:Nat):Int)+z else 0)) _ _ _;obtain⟨L,an,aq,ar⟩:∃L:Int,(if ((cn:Nat):Int)+z>0 then ((cn:Nat):Int)+z else 0)=L/\0<=L/\L<=64:=⟨_,rfl,by split<;>lia,by split<;>lia⟩;rw[an];refine⟨_,rfl,_,_,rfl,rfl,yO.small (by decide) (by decide),_,rfl,_,rfl,_,_,rfl,rfl,zdm (by lia) (by lia),_,_,rfl,rfl,(by rw[<- UV];lia),?_⟩;show Ja 9 (V.int (g/18%(((R:Nat):Int)*((n:Nat):Int)))) _ _ _;rw[<- UV];obtain⟨a0,a1⟩:=Yr (x:=g/18) (M:=R*n) m1;generalize g/18%((R*n:Nat):Int)=j at *
  have jl:j.toNat<G.length:=by lia
  refine⟨fun u H'=>∃(m:List Nat),u=[some (.ref a),some (.int st),some (.int c),some (.int (R:Nat)),some (.int (n:Nat)),some (.int g),some (.ref d),some (.ref e),some (.int L),some (.int j),none]/\zu H H'/\H' e=some (.lst (cV m))/\m.length=R*n/\(∀c∈m,c∈bd.cps.toList)/\m.countP qG<=10,?_,?_⟩
  ·refine⟨_,rfl,_,_,rfl,rfl,yO.small (by decide) (by decide),_,_,rfl,rfl,(by show (0:Int)<3;decide),rfl,_,rfl,zeG (fun _=>?_) (fun _=>?_)⟩
   ·refine⟨_,rfl,_,rfl,e,_,_,_,rfl,rfl,SqL.of y,jT a0 (zgv jl),_,_,rfl,rfl,_,rfl,zeG (fun hx=>?_) (fun _=>?_)⟩
    ·obtain⟨g1,g2⟩:=zj0 (um _ (getD_mem jl)) hx;obtain⟨w0,w1⟩:=Yr (x:=((G.getD j.toNat 0:Nat):Int)-48+1+g/450%8) (M:=9) (by decide);refine⟨_,rfl,_,rfl,e,_,_,_,rfl,rfl,SqL.of y,jT a0 (zgv jl),_,_,rfl,int_sign g1 g2,(by show 1<=640;decide),_,_,rfl,rfl,_,rfl,_,_,rfl,rfl,yO.small (by decide) (by decide),_,_,rfl,rfl,(by show (0:Int)<8;decide),_,_,rfl,rfl,_,_,rfl,rfl,(by show (0:Int)<9;decide),_,rfl,?_,?_⟩
     ·show (((((G.getD j.toNat 0:Nat):Int)-48+1+g/450%8)%9).natAbs).log2<1920;exact XI (Nat.log2_le_self _) (by lia)
     ·obtain⟨dg,ai⟩:∃dg:Nat,(((G.getD j.toNat 0:Nat):Int)-48+1+g/450%8)%9=(dg:Int):=⟨((((G.getD j.toNat 0:Nat):Int)-48+1+g/450%8)%9).toNat,by lia⟩;have ed:V.str (toString ((((G.getD j.toNat 0:Nat):Int)-48+1+g/450%8)%9))=V.str ⟨#[48+dg]⟩:=by
       rw[ai];exact zel (by lia)
      refine⟨_,rfl,_,rfl,e,_,_,_,rfl,rfl,y,zcQ a0 (by rw[zc7,ul];exact a1),?_⟩;refine⟨G.set j.toNat (48+dg),rfl,fun b o ee=>?_,?_,?_,mem_set (zc8 (by lia)) um _,?_⟩
      ·rw[zj (zh ee aj)];exact J _ _ ee
      ·rw[zc,<- zhG];exact congrArg (fun v=>some (HO.lst ((cV G).set j.toNat v))) ed
      ·rw[R1,ul]
      ·refine X6 (x8 qG (48+dg) G _) ?_;rw[if_neg (by unfold qG;rw[decide_eq_true_eq];lia)];exact uc
    ·exact⟨G,rfl,J,y,ul,um,uc⟩
   ·exact⟨G,rfl,J,y,ul,um,uc⟩
  rintro u H4 ⟨m,rfl,s4,al,vl,vm,vc⟩;refine⟨_,rfl,_,rfl,by lia,by lia,fun p hp=>?_⟩;refine QO (lo:=0) (n:=((R:Nat):Int).toNat) (fun k u H'=>∃u0,u=[u0,some (.ref e),some (.int (n:Nat))]/\zu H4 H'/\H' p=some (.lst ((rowsOf m n k).map V.str)))
   ⟨_,rfl,ze hp,zc⟩ ?_ ?_
  ·rintro k u H5 hk ⟨u0,rfl,s5,I⟩;have kR:k<R:=by lia
   have e1:((n:Nat):Int)*(0+(k:Int))=((n*k:Nat):Int):=by
    rw[RO,UV]
   have rl:=zep vl kR;unfold Ja;refine QY ?_;refine⟨rfl,_,rfl,_,rfl,_,rfl,_,_,rfl,rfl,zdm (by lia) (by lia),_,rfl,_,rfl,_,rfl,_,_,rfl,rfl,zdm (by lia) (by lia),_,rfl,_,_,rfl,rfl,_,rfl,e,_,rfl,SqL.of (s5 _ _ al),fun cp ah=>?_⟩;have ec:zah (cV m) (some (((n:Nat):Int)*(0+(k:Int)))) (some (((n:Nat):Int)*(0+(k:Int))+((n:Nat):Int)))=((rowOf m n k).map fun c=>(⟨#[c]⟩:Str)).map V.str:=by
    rw[e1,<- Tk,znf vl kR];unfold cV;rw[WM];rfl
   have z6:=ze (o:=.lst (zah (cV m) (some (((n:Nat):Int)*(0+(k:Int)))) (some (((n:Nat):Int)*(0+(k:Int))+((n:Nat):Int))))) ah;refine⟨"",cp,(rowOf m n k).map fun c=>(⟨#[c]⟩:Str),rfl,rfl,SqL.of (by rw[<- ec];exact zc),?_,?_⟩
   ·have e0:("":Str).length=0:=by decide +kernel
    rw[e0,Nat.mul_zero,SQ,WM];have:∀l:List Nat,(l.map ((fun t:Str=>t.length)∘fun c=>(⟨#[c]⟩:Str))).sum=l.length:=fun l=>by
     induction l with
     | nil=>rfl
     | cons c r ih =>
      rw[Xe,OE,ih,Xr];show 1+_=_;lia
    have e2:=this (rowOf m n k);rw[rl] at e2;exact X6 (Nat.le_of_eq e2) (by lia)
   ·refine⟨_,z6 _ _ I,?_,_,rfl,fun b o ee=>?_,?_⟩
    ·unfold rowsOf;rw[Y1,Y1,W6];exact Xy (show k<64 by lia) (by decide)
    ·rw[zj (zh ee hp)];exact z6 _ _ (s5 _ _ ee)
    ·rw[zc,join_one];unfold rowsOf;rw[Vd,Xk,Xk];rfl
  rintro u H5 ⟨u0,rfl,s5,I⟩;rw[WS] at I;refine⟨_,rfl,_,rfl,ZA,fun o ho=>?_⟩;have z6:=ze (o:=.tup [.ref p,.int L]) ho;refine q o p (rowsOf m n R) L _ ⟨zc,z6 _ _ I⟩ ⟨?_,?_,⟨n,n1,n5,fun t ht=>?_⟩,?_⟩ aq ar ((s4.trans s5).trans z6)
  ·unfold rowsOf;rw[Y1,W6];exact r1
  ·unfold rowsOf;rw[Y1,W6];exact r5
  ·obtain⟨k,hk,rfl⟩:=Xv.mp ht;refine⟨?_,fun x hx=>vm x ?_⟩
   ·show (rowOf m n k).toArray.size=n;rw[Xs];exact zep vl (Xf.mp hk)
   ·exact R4 (Wc hx)
  ·rw[zeo,zfi,zbB,SV,<- vl,Xz];exact vc
theorem znN (x:Nat)(xs:List Nat):inV (.int ((x:Nat):Int)) (pV xs)=decide (x∈xs):=by
 unfold inV pV;rw[Ur,Wz,Wn,decide_eq_true_eq];constructor
 ·rintro⟨y,hy,h⟩;have a:eqV (.int ((y:Nat):Int)) (.int ((x:Nat):Int))=true:=h;have:y=x:=by
   unfold eqV at a;have h2:((y:Nat):Int)=((x:Nat):Int):=by simpa using a
   lia
  rw[<- this];exact hy
 ·intro h;refine⟨x,h,?_⟩;show eqV (.int ((x:Nat):Int)) (.int ((x:Nat):Int))=true;unfold eqV;simp
theorem ziP (xs:List Nat):(pV xs).all zaj=true:=by
 unfold pV;rw[List.all_map,WL];intro x _;rfl
theorem Zl (xs:List Nat):(pV xs).length=xs.length:=Y1 _
theorem zfk (xs:List Nat)(x:Nat):pV (xs++[x])=pV xs++[.int ((x:Nat):Int)]:=by
 unfold pV;rw[Xk];rfl
abbrev Qn:=Int×List Nat
def zbk (H:Hp):List V->List Qn->Prop:=WU fun v q=>∃t l,v=V.ref t/\H t=some (.tup [.int q.1,.ref l])/\H l=some (.lst (pV q.2))
theorem zer {H a:Hp}(s:zu H a){b:List V}{qs:List Qn}(c:zbk H b qs):zbk a b qs:=by
 induction c with
 | nil=>exact .nil
 | cons q _ d =>
  obtain⟨t,l,e,h1,h2⟩:=q;exact .cons ⟨t,l,e,s _ _ h1,s _ _ h2⟩ d
theorem zni {H:Hp}{a:List V}{qs:List Qn}{i:Nat}{v:V}(h:zbk H a qs)(e:a[i]?=some v):∃q t l,qs[i]?=some q/\v=V.ref t/\H t=some (.tup [.int q.1,.ref l])/\H l=some (.lst (pV q.2)):=by
 obtain⟨q,h1,t,l,h2⟩:=zcf h e;exact⟨q,t,l,h1,h2⟩
def zhK (S:List Nat)(q:Qn):Bool:=decide ((((q.2.filter fun k=>decide (k∈S)).length:Nat):Int)=q.1)
def zaS (qs:List Qn)(S:List Nat):Bool:=qs.all (zhK S)
def zo9:Sp:=fun e H Q _=>∃(sa c:Addr) (S:List Nat) (d:List V) (a:List Qn),e=[.ref sa,.ref c]/\H sa=some (.lst (pV S))/\H c=some (.lst d)/\zbk H d a/\(∀q∈a,q.2.length<=64)/\∀b,zu H b->Q (.bl (zaS a S)) b
def PLs (H:Hp):List V->List (List Nat)->Prop:=WU fun v S=>∃a,v=V.ref a/\H a=some (.lst (pV S))
theorem YV {H b:Hp}(s:zu H b){c:List V}{ks:List (List Nat)}(d:PLs H c ks):PLs b c ks:=by
 induction d with
 | nil=>exact .nil
 | cons q _ f =>
  obtain⟨a,e,h⟩:=q;exact .cons ⟨a,e,s _ _ h⟩ f
theorem Ys {H:Hp}{a:List V}{ks:List (List Nat)}(h:PLs H a ks):a.length=ks.length:=Paired.length h
theorem ziQ {H:Hp}{c:List V}{ks:List (List Nat)}{b:List V}{a:List (List Nat)}(h:PLs H c ks)(k:PLs H b a):PLs H (c++b) (ks++a):=zaY h k
theorem zlQ {H:Hp}{b:List V}{ks:List (List Nat)}{i:Nat}{v:V}(h:PLs H b ks)(e:b[i]?=some v):∃S a,ks[i]?=some S/\v=V.ref a/\H a=some (.lst (pV S)):=by
 obtain⟨S,h1,a,h2⟩:=zcf h e;exact⟨S,a,h1,h2⟩
theorem zgx {H:Hp}{z:Addr}{o:HO}{b:List V}{ks:List (List Nat)}(c:PLs H b ks)(n:∀v∈b,v≠V.ref z):PLs (upd H z o) b ks:=by
 induction c with
 | nil=>exact .nil
 | cons q _ f =>
  obtain⟨a,e,h⟩:=q;exact .cons ⟨a,e,by rw[zj fun y=>n _ XS (by rw[e,y])];exact h⟩ (f fun v d=>n v (XT _ d))
def zpa:Sp:=fun e H Q _=>∃m:Nat,e=[.int (m:Nat)]/\m<=14/\∀(d:Addr) (c:List V) (b:Hp),H d=none->b d=some (.lst c)->PLs b c (Subs.subs (XC m))->(∀v∈c,∀a,v=V.ref a->H a=none)->zu H b->Q (.ref d) b
theorem zbl {α:Type}(cs:List α):(Subs.subs cs).length=2^cs.length:=by
 rw[Subs.Qe,Y1,W6]
theorem YW:zF ["_law_some","_law_numbers_here","_law_number","_law_spots"] ["_law_some","_law_numbers_here"] (zg JT):=⟨rfl,rfl,rfl,by decide +kernel,rfl,by decide +kernel,by decide +kernel⟩
theorem zgy (T:Txt mg)(D:zm K mg "_law_fits" JT ["_law_some","_law_numbers_here"] f fd):qt P w K mg base CX0 1 f fd ["_law_some","_law_numbers_here"] zo9:=by
 refine D.F.ok YW (fun vs H Q E h=>?_) (fun ae A ac s H vs Q E hr h=>?_)
 ·obtain⟨sa,U,S,us,u,rfl,_⟩:=h;rfl
 ·obtain⟨sa,U,S,us,u,rfl,ab,J,hq,ql,q⟩:=h;refine⟨_,(zd (qw W7 rfl (zM (pvS 1)) (JJ rfl (zV (zo (i:=2) YW.nd rfl (XM rfl)) (zV (zo (i:=3) YW.nd rfl (XM rfl)) yp))) (zf (jc (zG Qy (zq zH (by rfl) T.jz WX (za (qh (N:=["_law_k","_law_some"]) (src:=[none,some 0]) (zR.free (O:=(zg JT).names) (XN:=["_law_some","_law_numbers_here","_law_number","_law_spots"]) rfl rfl ⟨_,rfl⟩ rfl rfl (by decide +kernel) (by decide +kernel) (by decide +kernel) rfl (by decide +kernel)) rfl (zM (pvS 3)) (fun _ _ _ _ _=>(zo (i:=0) (by show W3 (["_law_k","_law_some"]:List Str);decide +kernel) rfl (XM rfl))) (fun _ _ _ _ _=>(qg (zG (zct (K:=K) (by rfl)) (pvS 0) (pvS 1) (by rfl)))) (fun _ _ _ _ _=>(pvS 0))) zb)) (pvS 2) (zQ _)) (zf (zI Yv)) zZ)))
   (zf (zI Yv))),?_⟩
  refine⟨_,rfl,U,rfl,⟨_,SqL.of J⟩,?_⟩;refine yY (K:=K) (a:=U) (xs:=us) (fun i Y r=>∃(v2 v3:Option V),Y=[some (.ref sa),some (.ref U),v2,v3]/\zu H r/\zaS (u.take i) S=true)
   ⟨_,_,rfl,zu.refl _,rfl⟩ (fun i Y r _ ⟨_,_,_,y,_⟩=>SqL.of (y _ _ J)) ?_ ?_
  ·rintro i v Y H1 hv ⟨v2,v3,rfl,s1,M⟩;obtain⟨c,t,l,n,rfl,ht,hl⟩:=zni hq hv;have af:=ql c (X4 n);have tk:zaS (u.take (i+1)) S=(zaS (u.take i) S&&zhK S c):=by
    unfold zaS;rw[Xx,n,List.all_append];show (_&&(zhK S c&&true))=_;rw[Uc]
   refine⟨t,_,rfl,SqT.of (s1 _ _ ht),rfl,_,_,rfl,_,_,rfl,rfl,?_⟩;refine⟨_,rfl,l,rfl,⟨_,SqL.of (s1 _ _ hl)⟩,fun z hz=>?_⟩;refine qj (K:=K) (a:=l) (xs:=pV c.2) (fun j m r=>∃(u0:Option V) (p:List V),m=[u0,some (.ref sa)]/\zu H1 r/\r z=some (.lst p)/\p.length=((c.2.take j).filter fun k=>decide (k∈S)).length)
    ⟨_,[],rfl,ze hz,zc,rfl⟩ (fun j m r _ ⟨_,_,_,y,_⟩=>SqL.of (y _ _ (s1 _ _ hl))) ?_ ?_
   ·rintro j x m H2 hx ⟨u0,p,rfl,B,g,G⟩;obtain⟨k,hk,rfl⟩:=zlP hx;have jl:=(XZ.mp hk).1;have L:(c.2.take (j+1)).filter (fun k=>decide (k∈S))=(c.2.take j).filter (fun k=>decide (k∈S))++if decide (k∈S)=true then [k] else []:=by
     rw[Xx,hk,Xb];congr 1;show Ux _ [k]=_;rw[WV];split<;>rfl
    refine⟨_,rfl,_,rfl,sa,_,rfl,.inl (SqL.of (B _ _ (s1 _ _ ab))),rfl,ziP S,_,rfl,?_⟩;have I:(if false=true then !inV (.int ((k:Nat):Int)) (pV S) else inV (.int ((k:Nat):Int)) (pV S))=decide (k∈S):=znN k S;by_cases d:decide (k∈S)=true
    ·rw[if_pos d] at L;refine jX (I.trans d) ⟨_,rfl,_,g,?_,_,_,rfl,fun b o e=>?_,zc,?_⟩
     ·rw[G];refine XI (X6 (Xm _ _) ?_) (show 64<Xw by decide);rw[XE];lia
     ·rw[zj (zh e hz)];exact B _ _ e
     ·rw[L,XW,XW,G];rfl
    ·rw[if_neg d,Xc] at L;exact jE (I.trans (XB.mpr d)) ⟨_,p,rfl,B,g,by rw[L];exact G⟩
   rintro m H2 ⟨u0,p,rfl,B,g,G⟩;rw[Zl,Xz] at G;refine⟨z,p,rfl,.inl (SqL.of g),_,rfl,rfl,_,rfl,?_⟩;have I:(!decide (V.int ((p.length:Nat):Int)=V.int c.1))=!zhK S c:=by
    unfold zhK;rw[G];congr 1;exact decide_eq_decide.mpr ⟨fun h=>by injection h,fun h=>by rw[h]⟩
   by_cases d:zhK S c=true
   ·refine jE (I.trans (by rw[d];rfl)) ?_;refine⟨_,_,rfl,s1.trans B,?_⟩;rw[tk,M,d];rfl
   ·have aa:zhK S c=false:=XB.mpr d;refine jX (I.trans (by rw[aa];rfl)) ?_;have:zaS u S=false:=by
     rw[XB];intro h;unfold zaS at h;rw[WL] at h;exact d (h c (X4 n))
    rw[this] at q;exact q H2 (s1.trans B)
  ·rintro Y H1 ⟨v2,v3,rfl,s1,M⟩;rw[show us.length=u.length from Paired.length hq,Xz] at M;rw[M] at q;exact q H1 s1
theorem xq:zF ["_law_many","_law_found","_law_k"] ["_law_many"] (zg yF):=⟨rfl,rfl,rfl,by decide +kernel,rfl,by decide +kernel,by decide +kernel⟩
theorem zda (T:Txt mg)(D:zm K mg "_law_choices" yF ["_law_many"] f fd):qt P w K mg base CX0 1 f fd ["_law_many"] zpa:=by
 refine D.F.ok xq (fun vs H Q E h=>?_) (fun aj A ah s H vs Q E hr h=>?_)
 ·obtain⟨m,rfl,_⟩:=h;rfl
 ·obtain⟨m,rfl,ak,q⟩:=h;refine⟨_,(zd (zv (i:=1) xq.nd rfl (XM rfl) (qc (za (qc zb) zb)))
   (zd (qw W7 rfl (qN (by rfl) T.ji (za (pvS 0) zb)) (zo (i:=2) xq.nd rfl (Vm rfl)) (zf (zv (i:=1) xq.nd rfl (XM rfl) (zx Z3 (pvS 1) (qh (N:=["_law_one_here","_law_k"]) (src:=[none,some 2]) (zR.free (O:=(zg yF).names) (XN:=["_law_many","_law_found","_law_k"]) rfl rfl ⟨_,rfl⟩ rfl rfl (by decide +kernel) (by decide +kernel) (by decide +kernel) rfl (by decide +kernel)) rfl (zM (pvS 1)) (fun _ _ _ _ _=>(zo (i:=0) (by show W3 (["_law_one_here","_law_k"]:List Str);decide +kernel) rfl (XM rfl))) (fun _ _ _ _ _=>qU) (fun _ _ _ _ _=>(zx Z3 (pvS 0) (qc (za (pvS 1) zb)))))))))
   (zf (zI (pvS 1))))),?_⟩
  refine⟨JX,fun d ab=>⟨sz_1,fun f0 ac=>?_⟩⟩;have y1:=ze (o:=.lst []) ab;have y2:=ze (o:=.lst [.ref d]) ac;have ai:=y1.trans y2;have ae:PLs (upd (upd H d (.lst [])) f0 (.lst [.ref d])) [.ref d] [[]]:=.cons ⟨d,rfl,y2 _ _ zc⟩ .nil;have af:upd (upd H d (.lst [])) f0 (.lst [.ref d]) f0=some (.lst [.ref d]):=zc;have fn:=y1.free ac;generalize upd (upd H d (.lst [])) f0 (.lst [.ref d])=H2 at *
  refine⟨_,rfl,_,rfl,by lia,by lia,?_⟩;refine qD (lo:=0) (n:=((m:Nat):Int).toNat) (fun i σ J=>∃(r:Addr) (fs:List V) (v2:Option V),σ=[some (.int (m:Nat)),some (.ref r),v2]/\zu H J/\H r=none/\J r=some (.lst fs)/\PLs J fs (Subs.subs (XC i))/\∀v∈fs,∀a,v=V.ref a->H a=none)
   ⟨f0,_,_,rfl,ai,fn,af,ae,fun v hv a Y=>by
    have:v=V.ref d:=by simpa using hv
    rw[this] at Y;cases Y;exact ab⟩ ?_ ?_
  ·rintro i σ H3 hi ⟨r,fs,v2,rfl,s3,aa,k,u,M⟩;have im:i<m:=by lia
   have fl:fs.length<=8192:=by
    rw[Ys u,zbl,W6];exact X6 (Wa (by decide) (show i<=13 by lia)) (by decide)
   have eF:Subs.subs (XC (i+1))=Subs.step (Subs.subs (XC i)) i:=by
    rw[Vd];exact Subs.zd2 _ _
   generalize hF:Subs.subs (XC i)=F at *
   have fd:∀S∈F,S.length<=64:=fun S hS=>by
    rw[<- hF] at hS;have:=(Tally.jV hS).length_le;rw[W6] at this;lia
   refine⟨_,rfl,_,rfl,r,rfl,⟨_,SqL.of k⟩,fun z hz=>?_⟩;refine qj (K:=K) (a:=r) (xs:=fs) (fun j I J=>∃(u0:Option V) (p:List V),I=[u0,some (.int (0+(i:Int)))]/\zu H3 J/\J z=some (.lst p)/\(∀v∈p,v≠V.ref z)/\PLs J p ((F.take j).map (·++[i]))/\∀v∈p,∀a,v=V.ref a->H a=none)
    ⟨_,[],rfl,ze hz,zc,(fun _ h=>nomatch h),.nil,(fun _ h=>nomatch h)⟩ (fun j I J _ ⟨_,_,_,z,_⟩=>SqL.of (z _ _ k)) ?_ ?_
   ·rintro j v I H4 hv ⟨u0,p,rfl,L,B,nz,c,l⟩;obtain⟨S,a,hS,rfl,ha⟩:=zlQ u hv;have jl:=(XZ.mp hS).1;have Sl:=fd S (X4 hS);unfold Ja;refine QY ?_;refine⟨_,rfl,_,rfl,sz_1,fun t1 ag=>?_⟩;have y5:=ze (o:=.lst [V.int (0+(i:Int))]) ag;refine⟨a,t1,pV S,_,rfl,rfl,y5 _ _ (L _ _ ha),zc,X6 (show (pV S).length+1<=100 by rw[Zl];lia) (by decide),fun G x=>?_⟩;have y6:=ze (o:=.lst (pV S++[V.int (0+(i:Int))])) x;have U:=y5.trans y6;have h6:upd (upd H4 t1 (.lst [V.int (0+(i:Int))])) G (.lst (pV S++[V.int (0+(i:Int))])) G=some (.lst (pV (S++[i]))):=by
     rw[zc,zfk,show (0:Int)+(i:Int)=((i:Nat):Int) by lia]
    have tz:G≠z:=fun e=>by
     subst e;rw[y5 _ _ B] at x;cases x
    have n0:H G=none:=s3.free (L.free (y5.free x));generalize upd (upd H4 t1 (.lst [V.int (0+(i:Int))])) G (.lst (pV S++[V.int (0+(i:Int))]))=H6 at *
    refine⟨_,U _ _ B,?_,_,p++[.ref G],rfl,fun b o e=>?_,zc,fun v hv=>?_,?_,fun v hv a' Y=>?_⟩
    ·rw[Ys c,Y1,XE];have:=Ys u;exact XI (show _<=8192 by lia) (by decide)
    ·rw[zj (zh e hz)];exact U _ _ (L _ _ e)
    ·rcases XF.mp hv with hv | hv
     ·exact nz v hv
     ·have:v=V.ref G:=by simpa using hv
      rw[this];intro y;cases y;exact tz rfl
    ·have e1:(F.take (j+1)).map (·++[i])=(F.take j).map (·++[i])++[S++[i]]:=by
      rw[Xx,hS,Xk];rfl
     rw[e1];exact ziQ (zgx (YV U c) nz) (.cons ⟨G,rfl,by rw[zj tz];exact h6⟩ .nil)
    ·rcases XF.mp hv with hv | hv
     ·exact l v hv a' Y
     ·have:v=V.ref G:=by simpa using hv
      rw[this] at Y;cases Y;exact n0
   rintro I H4 ⟨u0,p,rfl,L,B,_,c,l⟩;rw[Ys u,Xz] at c;have yl:p.length<=8192:=by
    rw[Ys c,Y1,<- Ys u];exact fl
   refine⟨r,z,fs,p,rfl,rfl,L _ _ k,B,X6 (show _<=16384 by lia) (by decide),fun g hg=>?_⟩;have y7:=ze (o:=.lst (fs++p)) hg;refine⟨g,fs++p,_,rfl,(s3.trans L).trans y7,(s3.trans L).free hg,zc,?_,fun v hv=>?_⟩
   ·rw[eF];exact YV y7 (ziQ (YV L u) c)
   ·rcases XF.mp hv with hv | hv
    ·exact M v hv
    ·exact l v hv
  ·rintro σ H3 ⟨r,fs,v2,rfl,s3,aa,k,u,M⟩;rw[WS] at u;exact⟨_,rfl,q r fs H3 aa k u M s3⟩
def pos (n x:Nat):Nat×Nat:=(x/n,x%n)
def jP (rs:List Str):List Nat:=(codes rs).flatten
theorem zgz {a b:List Nat}{x:Nat}(h:x<a.length):(a++b).getD x 0=a.getD x 0:=by
 rw[XA,XA,V8 h]
theorem zgA {a b:List Nat}(x:Nat):(a++b).getD (a.length+x) 0=b.getD x 0:=by
 rw[XA,XA,VU (by lia),S4]
theorem zdb (p:Nat->Bool)(i:Nat):∀(t:List Nat) (j:Nat),Cells.qb p i j t=((XC t.length).filter fun x=>p (t.getD x 0)).map fun x=>(i,j+x)
 | [],_=>rfl
 | c::r,j=>by
  rw[Cells.qb,zdb p i r (j+1),Xr,List.range_succ_eq_map,WV,Ue];have e:Ux ((fun x=>p ((c::r).getD x 0))∘Nat.succ) (XC r.length)=Ux (fun x=>p (r.getD x 0)) (XC r.length):=rfl;rw[e];by_cases h:p c=true
  ·rw[if_pos h,if_pos (show p ((c::r).getD 0 0)=true from h),Xe,WM];show [(i,j)]++_=_;refine congrArg (fun l=>(i,j)::l) (Xh fun x _=>?_);show (i,j+1+x)=(i,j+(x+1));rw[OD,TL 1 x]
  ·rw[if_neg h,if_neg (show ¬p ((c::r).getD 0 0)=true from h),Pq,WM];refine Xh fun x _=>?_;show (i,j+1+x)=(i,j+(x+1));rw[OD,TL 1 x]
theorem zgB {n:Nat}:∀{gs:List (List Nat)},(∀t∈gs,t.length=n)->gs.flatten.length=gs.length*n
 | [],_=>by simp
 | t::r,h=>by
  rw[WN,XW,zgB fun u a=>h u (XT _ a),h t XS,Xr,RS,TL]
theorem zhL (p:Nat->Bool){n:Nat}(d:1<=n):∀(gs:List (List Nat)) (i:Nat),(∀t∈gs,t.length=n)->Cells.zL p i gs=((XC (gs.length*n)).filter fun x=>p (gs.flatten.getD x 0)).map fun x=>(i+x/n,x%n):=by
 intro gs;induction gs with
 | nil=>exact fun _ _=>by simp[Cells.zL]
 | cons t r c =>
  intro i h;have tl:=h t XS;rw[Cells.zL,zdb,c (i+1) fun u b=>h u (XT _ b),Xr,RS,TL (r.length*n) n,List.range_add,Xb,Xk,tl];congr 1
  ·have e:(XC n).filter (fun x=>p ((t::r).flatten.getD x 0))=(XC n).filter fun x=>p (t.getD x 0):=VQ fun x a=>by
    rw[WN,zgz (by rw[tl];exact Xf.mp a)]
   rw[e];refine Xh fun x a=>?_;have a:=Xf.mp (XX.mp a).1;rw[Nat.div_eq_of_lt a,Nat.mod_eq_of_lt a,V6];rfl
  ·rw[Ue,WM];have e:(XC (r.length*n)).filter ((fun x=>p ((t::r).flatten.getD x 0))∘fun x=>n+x)=(XC (r.length*n)).filter fun x=>p (r.flatten.getD x 0):=VQ fun x _=>by
    show p ((t::r).flatten.getD (n+x) 0)=_;rw[WN,<- tl,zgA]
   rw[e];refine Xh fun x _=>?_;show (i+1+x/n,x%n)=(i+(n+x)/n,(n+x)%n);rw[Nat.add_div_left x (by lia),Nat.add_mod_left,OD,TL 1]
structure Wide (rs:List Str)(n:Nat):Prop where
 n1:1<=n
 n5:n<=5
 row:∀t∈rs,Row bd.cps.toList n t
section
variable {rs:List Str}{n:Nat}(W:Wide rs n)
include W
theorem Wide.lens:∀t∈codes rs,t.length=n:=fun t a=>by
 obtain⟨u,b,rfl⟩:=Xv.mp a;rw[X2];exact(W.row u b).len
theorem Wide.flat:(jP rs).length=rs.length*n:=by
 unfold jP;rw[zgB W.lens,jA]
theorem Wide.cells (p:Nat->Bool):Cells.zL p 0 (codes rs)=((XC (rs.length*n)).filter fun x=>p ((jP rs).getD x 0)).map (pos n):=by
 rw[zhL p W.n1 _ 0 W.lens,jA];refine Xh fun x _=>?_;unfold pos;rw[V6]
theorem Wide.mem {p:Nat->Bool}{c:Nat×Nat}:c∈Cells.zL p 0 (codes rs) ↔ ∃x,x<rs.length*n/\p ((jP rs).getD x 0)=true/\c=pos n x:=by
 rw[W.cells p,Xv];constructor
 ·rintro⟨x,hx,rfl⟩;obtain⟨h1,h2⟩:=XX.mp hx;exact⟨x,Xf.mp h1,h2,rfl⟩
 ·rintro⟨x,h1,h2,rfl⟩;exact⟨x,XX.mpr ⟨Xf.mpr h1,h2⟩,rfl⟩
theorem Wide.inj {x y:Nat}(h:pos n x=pos n y):x=y:=by
 have h1:x/n=y/n:=congrArg Prod.fst h;have h2:x%n=y%n:=congrArg Prod.snd h;rw[<- Nat.div_add_mod x n,<- Nat.div_add_mod y n,h1,h2]
theorem Wide.sgn {x:Nat}(f:x<rs.length*n):Cells.sgn (codes rs) (pos n x)=(jP rs).getD x 0:=by
 have d:pos n x∈Cells.zL (fun _=>true) 0 (codes rs):=W.mem.mpr ⟨x,f,rfl,rfl⟩;have hk:pos n x∈Cells.zL (fun k=>decide (k=Cells.sgn (codes rs) (pos n x))) 0 (codes rs):=by
  obtain⟨t,k,e,c,_,a⟩:=qm d;have:=Yh (p:=fun k=>decide (k=Cells.sgn (codes rs) (pos n x))) (i:=0) (jR e) c (decide_eq_true a.symm);rwa [V6] at this
 obtain⟨y,_,h2,b⟩:=W.mem.mp hk;rw[<- W.inj b] at h2;exact(of_decide_eq_true h2).symm
theorem Wide.near {x y:Nat}(a:y<rs.length*n)(b:qv ((jP rs).getD y 0)=true):nearF rs (pos n x) (pos n y)=true↔y∈Jl rs.length n x:=by
 unfold Jl nrP;rw[Qq,XX,Xf];unfold zJ;rw[XX];constructor
 ·rintro⟨_,h⟩;exact⟨a,h⟩
 ·rintro⟨_,h⟩;exact⟨W.mem.mpr ⟨y,a,b,rfl⟩,h⟩
end
def jj (rs:List Str)(n:Nat)(a:List Nat)(x:Nat):List Nat:=(XC a.length).filter fun k=>decide (a.getD k 0∈Jl rs.length n x)
def jx (rs:List Str)(n:Nat):List Nat:=(XC (rs.length*n)).filter fun x=>decide ((jP rs).getD x 0=63)
def ZU (rs:List Str)(n:Nat)(a:List Nat)(N:Nat):List Qn:=((XC N).filter fun x=>Yx ((jP rs).getD x 0)&&(!(jj rs n a x).isEmpty || !decide ((jP rs).getD x 0=48))).map fun x=>(((((jP rs).getD x 0:Nat):Int)-48),jj rs n a x)
def xy (rs:List Str)(n:Nat)(st:Int):List (List (Int×Int)):=((Subs.subs (XC (jx rs n).length)).filter fun S=>decide (((S.length:Nat):Int)=st)&&zaS (ZU rs n (jx rs n) (rs.length*n)) S).map fun S=>S.map fun k=>toI (pos n ((jx rs n).getD k 0))
section
variable {rs:List Str}{n:Nat}(W:Wide rs n)
include W
theorem zdc:(jx rs n).map (pos n)=zP rs:=(W.cells qG).symm
theorem zlR {x:Nat}:x∈jx rs n↔x<rs.length*n/\(jP rs).getD x 0=63:=by
 unfold jx;rw[XX,Xf,decide_eq_true_eq]
theorem zlS {x:Nat}{S:List Nat}(a:S.Sublist (XC (jx rs n).length)):Grow.cnt (nearF rs) (pos n x) (S.map fun k=>pos n ((jx rs n).getD k 0))=((jj rs n (jx rs n) x).filter fun k=>decide (k∈S)).length:=by
 have f:S.Nodup:=List.nodup_range.sublist a;have e:(jj rs n (jx rs n) x).Nodup:=List.nodup_range.sublist Wg;rw[Tally.zlb e f];unfold Grow.cnt;rw[Ue,Y1];congr 1;refine VQ fun k hk=>?_;have b:=Xf.mp (a.subset hk);obtain⟨c,d⟩:=(zlR W).mp (getD_mem b);show nearF rs (pos n x) (pos n ((jx rs n).getD k 0))=decide (k∈jj rs n (jx rs n) x);rw[Wz,W.near c (by rw[d];decide),decide_eq_true_eq];unfold jj;rw[XX,Xf,decide_eq_true_eq];exact⟨fun h=>⟨b,h⟩,fun h=>h.2⟩
theorem zhM {S:List Nat}(f:S.Sublist (XC (jx rs n).length)):zaS (ZU rs n (jx rs n) (rs.length*n)) S=jL rs (S.map fun k=>pos n ((jx rs n).getD k 0)):=by
 rw[Wz,Ym];unfold zaS ZU;rw[List.all_map,WL];constructor
 ·intro h o j;obtain⟨x,d,e,rfl⟩:=W.mem.mp j;rw[zlS W f];unfold jF;rw[W.sgn d];by_cases c:(!(jj rs n (jx rs n) x).isEmpty || !decide ((jP rs).getD x 0=48))=true
  ·exact of_decide_eq_true (h x (XX.mpr ⟨Xf.mpr d,by rw[e,c];rfl⟩))
  ·rw[RY,not_or] at c;have g:jj rs n (jx rs n) x=[]:=by
    have:=c.1;rw[WE,Sz] at this;exact PX.mp this
   have i:(jP rs).getD x 0=48:=by
    have:=c.2;rw[WE,Sz] at this;exact of_decide_eq_true this
   rw[g,i];rfl
 ·intro h x d;obtain⟨h1,h2⟩:=XX.mp d;have a:=Xf.mp h1;have e:=(Wh.mp h2).1;have b:=h (pos n x) (W.mem.mpr ⟨x,a,e,rfl⟩);rw[zlS W f] at b;unfold jF at b;rw[W.sgn a] at b;exact decide_eq_true b
theorem zlT:(XC (jx rs n).length).map (fun k=>pos n ((jx rs n).getD k 0))=zP rs:=by
 rw[<- zdc W,show (fun k=>pos n ((jx rs n).getD k 0))=pos n∘fun k=>(jx rs n).getD k 0 from rfl,<- WM,Tally.zcB]
theorem zgC {st:Int}(h:0<=st)(p:List (Nat×Nat)->Bool)(q:List (Int×Int)->Bool)(e:∀T,q (toL T)=p T):(((xy rs n st).countP q:Nat):Int)=((Tally.T (zP rs) (fun S=>jL rs S&&p S) st.toNat:Nat):Int):=by
 congr 1;rw[<- zlT W,Tally.zqc];unfold xy Tally.T;rw[Tl,List.countP_filter];refine VA fun S d=>?_;have a:=zhM W (Tally.jV d);have b:decide (((S.length:Nat):Int)=st)=decide (S.length=st.toNat):=decide_eq_decide.mpr (by lia);have c:q (S.map fun k=>toI (pos n ((jx rs n).getD k 0)))=p (S.map fun k=>pos n ((jx rs n).getD k 0)):=by
  rw[<- e];unfold toL;rw[WM];rfl
 show (q (S.map fun k=>toI (pos n ((jx rs n).getD k 0)))&&(decide (((S.length:Nat):Int)=st)&&zaS (ZU rs n (jx rs n) (rs.length*n)) S))=true↔_;rw[a,b,c,R9,SK]
theorem zlU {st:Int}(h:0<=st):(((xy rs n st).length:Nat):Int)=jU rs st:=by
 have:=zgC W h (fun _=>true) (fun _=>true) fun _=>rfl;rw[List.countP_true] at this;unfold jU;rw[this];congr 1;exact Tally.ziA (fun S _=>Uc _) _
theorem ziR {st:Int}(h:0<=st)(c:Nat×Nat):((((xy rs n st).filter (xG c)).length:Nat):Int)=qL rs st c:=by
 rw[<- List.countP_eq_length_filter];exact zgC W h (fun S=>decide (c∈S)) (xG c) (ziL c)
end
theorem zbm:∀rs:List Str,(UT "" rs).cps.toList=(codes rs).flatten
 | []=>by decide +kernel
 | [t]=>by
  show t.cps.toList=_;unfold codes;simp
 | t::u::r=>by
  have a:=zbm (u::r);show (t++("":Str)++UT "" (u::r)).cps.toList=_;rw[zc9,zc9,a];have e:("":Str).cps.toList=[]:=by decide +kernel
  rw[e,Xc];rfl
theorem zqt (xs:List Nat):pV xs=iL (xs.map fun x=>((x:Nat):Int)):=by
 unfold pV;show _=UD V.int _;rw[WM];rfl
theorem zj1:∀xs:List Int,W1 (ZQ xs) (ZQ [])=xs.isEmpty
 | []=>zhy []
 | _::_=>rfl
theorem zhN {c:Nat}(h:c∈bd.cps.toList):(!(!(Vg ("?#":Str) ⟨#[c]⟩ 0 ("?#":Str).length 1).isEmpty))=Yx c:=by
 have:∀c∈bd.cps.toList,(!(!(Vg ("?#":Str) ⟨#[c]⟩ 0 ("?#":Str).length 1).isEmpty))=Yx c:=by decide +kernel
 exact this c h
theorem zgD {α:Type}{p:α->Bool}{L:List α}{j:Nat}{k:α}(hk:L[j]?=some k):(L.take (j+1)).filter p=(L.take j).filter p++if p k=true then [k] else []:=by
 rw[Xx,hk,Xb];congr 1;show Ux _ [k]=_;rw[WV];split<;>rfl
theorem Yt {p:Nat->Bool}(j:Nat):(XC (j+1)).filter p=(XC j).filter p++if p j=true then [j] else []:=by
 rw[Vd,Xb];congr 1;show Ux _ [j]=_;rw[WV];split<;>rfl
theorem znO {rs:List Str}{n:Nat}(W:Wide rs n){x:Nat}(h:x<rs.length*n):(jP rs).getD x 0∈bd.cps.toList:=by
 have a:(jP rs).getD x 0∈jP rs:=getD_mem (by rw[W.flat];exact h);obtain⟨t,b,d⟩:=Wr.mp a;obtain⟨u,c,rfl⟩:=Xv.mp b;exact(W.row u c).mem _ d
theorem znP {rs:List Str}{n:Nat}(W:Wide rs n){x:Nat}(h:x<rs.length*n):(jP rs)[x]?=some ((jP rs).getD x 0):=by
 rw[XA,X7 (by rw[W.flat];exact h)];rfl
def zpb:Sp:=fun e H Q _=>∃(l:Addr) (b:List Str),e=[.ref l]/\H l=some (.lst (b.map V.str))/\Rows bd.cps.toList b /\
 ∀(d:Addr) (c:List V) (a:Hp),H d=none->a d=some (.lst c)->Cel a c (zP b)->zu H a->Q (.ref d) a
theorem x9:zF ["_law_texts_here","_law_found","_law_row","_law_column"] ["_law_texts_here"] (zg JC):=⟨rfl,rfl,rfl,by decide +kernel,rfl,by decide +kernel,by decide +kernel⟩
theorem zdC (T:Txt mg)(D:zm K mg "_law_closed" JC ["_law_texts_here"] f fd):qt P w K mg base CX0 1 f fd ["_law_texts_here"] zpb:=by
 refine D.F.ok x9 (fun vs H Q E h=>?_) (fun ab A aa s H vs Q E hr h=>?_)
 ·obtain⟨l,g,rfl,_⟩:=h;rfl
 ·obtain⟨l,g,rfl,hl,R,q⟩:=h;obtain⟨C,c1,c8,hC⟩:=R.ex;have ae:=R.lo;have ac:=R.hi;refine⟨_,(zd (zv (i:=1) x9.nd rfl (XM rfl) (qc zb))
   (zd (qw W7 rfl (qN (by rfl) T.ji (za (zq zH (by rfl) T.jz WX (za (pvS 0) zb)) zb)) (zo (i:=2) x9.nd rfl (XM rfl)) (zf (qw W7 rfl (qN (by rfl) T.ji (za (zq xg (by rfl) T.jz WX (za (qf qV (pvS 0) zk (fun _ _=>rfl)) zb)) zb)) (zo (i:=3) x9.nd rfl (XM rfl)) (zf (jc (zG JK (qf J7 (qf qV (pvS 0) (pvS 2) (fun _ _=>rfl)) (pvS 3) (fun _ _=>rfl)) qo (zQ _)) (zf (yk (xw WZ Wq Wp jw (pvS 1) (za (jy (za (pvS 2) (za (pvS 3) zb))) zb)))) zZ)))))
   (zf (zI (pvS 1))))),?_⟩
  refine⟨JX,fun d hd=>?_⟩;have s0:zu H (upd H d (.lst [])):=ze hd;have rl:(g.map V.str).length=g.length:=Y1 _;refine⟨_,rfl,l,_,rfl,.inl (SqL.of (s0 _ _ hl)),_,rfl,by lia,by lia,?_⟩;rw[WS,rl];refine qD (lo:=0) (n:=g.length) (fun i J z=>∃(v2 I:Option V) (r:List V),J=[some (.ref l),some (.ref d),v2,I]/\zu H z/\z d=some (.lst r)/\Cel z r (Cells.zL qG 0 ((codes g).take i))) ⟨_,_,[],rfl,s0,zc,.nil⟩ ?_ ?_
  ·rintro i J H1 hi ⟨v2,I,r,rfl,s1,B,v⟩;obtain⟨x,G⟩:∃x,g[0]?=some x:=⟨_,X7 (by lia)⟩;obtain⟨t,U⟩:∃t,g[i]?=some t:=⟨_,X7 hi⟩;have e0:x.length=C:=(hC x (X4 G)).len;have et:t.cps.toList.length=C:=by
    rw[X2];exact(hC t (X4 U)).len
   have M:∀{i:Nat} {t:Str},g[i]?=some t->(g.map V.str)[i]?=some (V.str t):=fun h=>by rw[Xl,h];rfl
   refine⟨_,rfl,l,_,_,.str x,rfl,rfl,SqL.of (s1 _ _ hl),jT (by decide) (M G),x,rfl,R.tlen G,_,rfl,?_,?_,?_⟩
   ·show -(2^62)<=((x.length:Nat):Int);lia
   ·show ((x.length:Nat):Int)<2^62;lia
   rw[WS,e0];refine qD (lo:=0) (n:=C) (fun j J z=>∃(I:Option V) (r:List V),J=[some (.ref l),some (.ref d),some (.int (0+(i:Int))),I]/\zu H z/\z d=some (.lst r)/\Cel z r (Cells.zL qG 0 ((codes g).take i)++Cells.qb qG i 0 (t.cps.toList.take j))) ⟨_,r,rfl,s1,B,by rw[List.take_zero];show Cel H1 r (_++[]);rw[Xc];exact v⟩ ?_ ?_
   ·rintro j J H2 hj ⟨I,m,rfl,O,c,a⟩;obtain⟨k,hk⟩:∃k,t.cps.toList[j]?=some k:=⟨_,X7 (by lia)⟩;have st:=Cells.QT (p:=qG) (i:=i) hk;refine⟨_,rfl,_,rfl,l,_,_,.str t,rfl,rfl,SqL.of (O _ _ hl),jT (by lia) (by rw[show ((0:Int)+(i:Int)).toNat=i by lia];exact M U),_,rfl,t,_,k,rfl,rfl,R.tlen U,jT (by lia) (by rw[show ((0:Int)+(j:Int)).toNat=j by lia];exact hk),rfl,_,rfl,?_⟩;have ed:decide (V.str ⟨#[k]⟩=V.str "?")=decide (k=63):=by
     rw[Ye];simp only[QV]
    rw[ed];by_cases L:k=63
    ·rw[decide_eq_true L];rw[if_pos (show qG k=true from decide_eq_true L)] at st;refine YD ?_;have N:m.length<=1000:=by
      rw[a.length,XW];have a1:=Cells.yq qG i 0 (t.cps.toList.take j);have a2:=Cells.jI qG 0 ((codes g).take i) fun u hu=>R.short u (Wc hu);rw[XE] at a1 a2;lia
     refine⟨_,rfl,.inl ⟨rfl,_,SqL.of c⟩,_,rfl,_,rfl,ZA,fun p L=>?_⟩;have Y:=ze (o:=.tup [.int (0+(i:Int)),.int (0+(j:Int))]) L;refine⟨d,_,_,rfl,rfl,Y _ _ c,XI N (by decide),?_⟩;refine⟨_,m++[.ref p],rfl,fun b o e=>?_,zc,?_⟩
     ·rw[zj (zh e hd)];exact Y _ _ (O _ _ e)
     ·rw[st,<- WY];refine Cel.into d _ (Y _ _ c) (Cel.snoc (Cel.mono Y a) ⟨p,rfl,?_⟩);rw[zc,RO,RO]
    ·rw[decide_eq_false L];rw[if_neg (show ¬ qG k=true from fun y=>L (of_decide_eq_true y)),Xc] at st;refine Zp ⟨_,m,rfl,O,c,?_⟩;rw[st];exact a
   ·rintro J H2 ⟨I,m,rfl,O,c,a⟩;refine⟨_,_,m,rfl,O,c,?_⟩;rw[Wt (l:=t.cps.toList) (by lia)] at a;rw[Cells.QU (jR U)];exact a
  ·rintro J H1 ⟨v2,I,r,rfl,s1,B,v⟩;rw[Wt (by rw[jA];exact XV _)] at v;exact⟨_,rfl,q d r H1 hd B v s1⟩
def zes (a:Addr)(H:Hp):List V->List Qn->Prop:=WU fun v q=>∃t l,v=V.ref t/\H t=some (.tup [.int q.1,.ref l])/\l≠a/\H l=some (.lst (pV q.2))
theorem zdd {b:Addr}{H a:Hp}(s:zu H a){c:List V}{qs:List Qn}(d:zes b H c qs):zes b a c qs:=by
 induction d with
 | nil=>exact .nil
 | cons q _ f =>
  obtain⟨t,l,e,h1,n,h2⟩:=q;exact .cons ⟨t,l,e,s _ _ h1,n,s _ _ h2⟩ f
theorem zhO {d:Addr}{H:Hp}{a:List V}{qs:List Qn}(b:zes d H a qs):zbk H a qs:=by
 induction b with
 | nil=>exact .nil
 | cons q _ c =>
  obtain⟨t,l,e,h1,_,h2⟩:=q;exact .cons ⟨t,l,e,h1,h2⟩ c
theorem zhP {a:Addr}{H:Hp}{xs ys:List V}(d:H a=some (.lst xs)){b:List V}{qs:List Qn}(c:zes a H b qs):zes a (upd H a (.lst ys)) b qs:=by
 induction c with
 | nil=>exact .nil
 | cons q _ f =>
  obtain⟨t,l,e,h1,n,h2⟩:=q;exact .cons ⟨t,l,e,by rw[zj (zlp h1 d (fun z=>nomatch z))];exact h1,n,by rw[zj n];exact h2⟩ f
def znj:Sp:=fun f H Q _=>∃(l sa:Addr) (a:List Str) (n:Nat) (c:List Nat),f=[.ref l,.ref sa]/\H l=some (.lst (a.map V.str))/\H sa=some (.lst (pV c))/\c.length<=25/\Brd a/\Wide a n /\
 ∀(d:Addr) (e:List V) (b:Hp),H d=none->b d=some (.lst e)->zbk b e (ZU a n c (a.length*n))->zu H b->Q (.ref d) b
theorem zhQ (rs:List Str)(n:Nat)(a:List Nat)(j:Nat):ZU rs n a (j+1)=ZU rs n a j++if (Yx ((jP rs).getD j 0)&&(!(jj rs n a j).isEmpty || !decide ((jP rs).getD j 0=48)))=true then [(((((jP rs).getD j 0:Nat):Int)-48),jj rs n a j)] else []:=by
 unfold ZU;rw[Yt,Xk];congr 1;split<;>rfl
theorem zlV {xs:List Nat}{k:Nat}(hk:k<xs.length):(pV xs)[k]?=some (.int ((xs.getD k 0:Nat):Int)):=by
 unfold pV;rw[Xl,XA,X7 hk];rfl
theorem zgE {n:Nat}:∀a:List Str,(∀t∈a,t.length=n)->(a.map (·.length)).sum+a.length*("":Str).length=a.length*n:=fun a h=>by
 have b:("":Str).length=0:=by decide +kernel
 rw[b,Nat.mul_zero,SQ];induction a with
 | nil=>simp
 | cons t r d=>rw[Xe,OE,d fun u c=>h u (XT _ c),h t XS,Xr,RS,TL]
theorem qM:zF ["_law_texts_here","_law_shut","_law_rows","_law_columns","_law_signs_here","_law_found","_law_at","_law_near_here","_law_spots"] ["_law_texts_here","_law_shut"] (zg yE):=⟨rfl,rfl,rfl,by decide +kernel,rfl,by decide +kernel,by decide +kernel⟩
theorem zde (T:Txt mg)(Z:Prog K mg)(D:zm K mg "_law_numbers" yE ["_law_texts_here","_law_shut"] f fd):qt P w K mg base CX0 2 f fd ["_law_texts_here","_law_shut"] znj:=by
 obtain⟨a2,a1,JV⟩:=Z.law_near;refine D.F.ok qM (fun vs H Q E h=>?_) (fun av A ap s H vs Q E hr h=>?_)
 ·obtain⟨l,sa,a,n,c,rfl,_⟩:=h;rfl
 ·obtain⟨l,sa,a,n,c,rfl,hl,an,sl,B,W,q⟩:=h;have r1:=B.r1;have r5:=B.r5;have n1:=W.n1;have n5:=W.n5;have al:a.length*n<=5*5:=TU r5 n5;obtain⟨t0,aj⟩:∃t,a[0]?=some t:=⟨_,X7 (by lia)⟩;have aq:t0.length=n:=(W.row t0 (X4 aj)).len;have em:(((a.length:Nat):Int)*((n:Nat):Int)).toNat=a.length*n:=by
   rw[<- UV,WS]
  have aw:(((a.length:Nat):Int)*((n:Nat):Int))=((a.length*n:Nat):Int):=(UV _ _).symm;refine⟨_,(zd (zv (i:=2) qM.nd rfl (XM rfl) (zq zH (by rfl) T.jz WX (za (pvS 0) zb)))
   (zd (zv (i:=3) qM.nd rfl (XM rfl) (zq xg (by rfl) T.jz WX (za (qf qV (pvS 0) zk (fun _ _=>rfl)) zb)))
   (zd (zv (i:=4) qM.nd rfl (XM rfl) (xw Ss So Sm zeL qo (za (pvS 0) zb)))
   (zd (zv (i:=5) qM.nd rfl (XM rfl) (qc zb))
   (zd (qw W7 rfl (qN (by rfl) T.ji (za (zx yI (pvS 2) (pvS 3)) zb)) (zo (i:=6) qM.nd rfl (XM rfl)) (zf (jc (zG zak (qf J7 (pvS 4) (pvS 6) (fun _ _=>rfl)) qo (by rfl)) (zd (zv (i:=7) qM.nd rfl (Vm rfl) (pc0 (zbA T JV) hr JV (za (pvS 6) (za (pvS 2) (za (pvS 3) zb)))))
   (zd (Jy (i:=8) qM.nd rfl rfl (N:=["_law_k","_law_near_here","_law_shut"]) (src:=[none,some 7,some 1]) (zR.free (O:=(zg yE).names) (XN:=["_law_texts_here","_law_shut","_law_rows","_law_columns","_law_signs_here","_law_found","_law_at","_law_near_here","_law_spots"]) rfl rfl ⟨_,rfl⟩ rfl rfl (by decide +kernel) (by decide +kernel) (by decide +kernel) rfl (by decide +kernel)) rfl (qN (by rfl) T.ji (za (zq zH (by rfl) T.jz WX (za (pvS 1) zb)) zb)) (fun _ _ _ _ _=>(zo (i:=0) (by show W3 (["_law_k","_law_near_here","_law_shut"]:List Str);decide +kernel) rfl (XM rfl))) (fun _ _ _ _ _=>(qg (zG (zct (K:=K) (by rfl)) (qf (Qc (K:=K) (by rfl)) (pvS 2) (pvS 0) (fun _ _=>rfl)) (pvS 1) (by rfl)))) (fun _ _ _ _ _=>(pvS 0)))
   (zf (jc (PW.pt (zfq (zG (xB hr.units) (pvS 8) (qc zb) (zQ _)) (zez (zG Qy (qf J7 (pvS 4) (pvS 6) (fun _ _=>rfl)) qo (zQ _))))) (zf (yk (xw WZ Wq Wp jw (pvS 5) (za (jy (za (jm Z4 (by rfl) T.ziC T8 (za (qf J7 (pvS 4) (pvS 6) (fun _ _=>rfl)) zb)) (za (pvS 8) zb))) zb)))) zZ)))) zZ)))
   (zf (zI (pvS 5)))))))),?_⟩
  refine⟨_,rfl,l,_,rfl,.inl (SqL.of hl),?_⟩;rw[Y1];refine⟨_,rfl,l,_,0,.str t0,rfl,rfl,SqL.of hl,jT (by lia) (by show (a.map V.str)[0]?=_;rw[Xl,aj];rfl),t0,rfl,?_⟩;rw[aq];have fz:(UT "" a).cps.toList=jP a:=zbm a;have zl:(UT "" a).length=a.length*n:=by
   show (UT "" a).cps.size=_;rw[<- X2,fz,W.flat]
  refine⟨X6 (show n<=64 by lia) (by decide),rfl,_,rfl,"",l,a,rfl,rfl,SqL.of hl,?_,?_⟩
  ·rw[zgE a fun t ht=>(W.row t ht).len];exact X6 al (by decide)
  generalize UT "" a=z at *
  have J:∀{x:Nat},x<a.length*n->atI z.cps.toList ((x:Nat):Int)=some ((jP a).getD x 0):=fun {x} hx=>jT (by lia) (by rw[WS,fz];exact znP W hx);have L:z.length<=Xw:=X6 (show z.length<=64 by lia) (by decide);refine⟨JX,fun U aa=>?_⟩;have s0:zu H (upd H U (.lst [])):=ze aa;refine⟨_,rfl,_,rfl,_,_,rfl,rfl,zdm (by lia) (by lia),_,rfl,by lia,by lia,?_⟩;refine qD (lo:=0) (n:=(((a.length:Nat):Int)*((n:Nat):Int)).toNat) (fun j σ H'=>∃(v6 v7 v8:Option V) (r:List V),σ=[some (.ref l),some (.ref sa),some (.int (a.length:Nat)),some (.int (n:Nat)),some (.str z),some (.ref U),v6,v7,v8]/\zu H H'/\H' U=some (.lst r)/\zes U H' r (ZU a n c j)/\r.length<=j)
   ⟨_,_,_,[],rfl,s0,zc,.nil,W5 _⟩ ?_ ?_
  ·rintro j σ H2 ax ⟨v6,v7,v8,r,rfl,s2,u,ae,az⟩;have hj:j<a.length*n:=by lia
   rw[show (0:Int)+(j:Nat)=((j:Nat):Int) by lia];have st:=zhQ a n c j;refine⟨_,rfl,_,rfl,z,_,_,rfl,rfl,L,J hj,_,_,rfl,rfl,_,rfl,?_⟩;have hb:=zhN (znO W hj);by_cases hp:Yx ((jP a).getD j 0)=true
   ·refine jX (hb.trans hp) ?_;rw[hp,Tt] at st;refine⟨_,rfl,_,rfl,_,rfl,j,a.length,n,rfl,r5,n1,n5,hj,fun np H3 ay au s3=>?_⟩;have ai:=(s2.trans s3) _ _ an;refine⟨_,rfl,sa,_,rfl,.inl (SqL.of ai),_,rfl,by lia,by rw[Zl];lia,fun y hy=>?_⟩;rw[WS,Zl];have ak:y≠U:=fun e=>by
     subst e;rw[s3 _ _ u] at hy;cases hy
    refine QO (lo:=0) (n:=c.length) (fun i ac H'=>∃(u0:Option V),ac=[u0,some (.ref np),some (.ref sa)]/\zu H3 H'/\H' y=some (.lst (pV ((XC i).filter fun k=>decide (c.getD k 0∈Jl a.length n j)))))
     ⟨_,rfl,ze hy,zc⟩ ?_ ?_
    ·rintro i ac H4 hi ⟨u0,rfl,s4,m⟩;rw[show (0:Int)+(i:Nat)=((i:Nat):Int) by lia];have I:=Yt (p:=fun k=>decide (c.getD k 0∈Jl a.length n j)) i;refine⟨_,rfl,_,rfl,sa,_,_,_,rfl,rfl,SqL.of (s4 _ _ ai),jT (by lia) (by rw[WS];exact zlV hi),_,rfl,np,_,rfl,.inl (SqL.of (s4 _ _ au)),rfl,ziP _,_,rfl,?_⟩;have ag:(if false=true then !inV (.int ((c.getD i 0:Nat):Int)) (pV (Jl a.length n j)) else inV (.int ((c.getD i 0:Nat):Int)) (pV (Jl a.length n j)))=decide (c.getD i 0∈Jl a.length n j):=znN _ _;by_cases v:decide (c.getD i 0∈Jl a.length n j)=true
     ·rw[if_pos v] at I;refine jX (ag.trans v) ⟨_,rfl,_,m,?_,_,rfl,fun b o e=>?_,?_⟩
      ·rw[Zl];refine XI (X6 (Xm _ _) ?_) (show 64<Xw by decide);rw[W6];lia
      ·rw[zj (zh e hy)];exact s4 _ _ e
      ·rw[zc,I,zfk]
     ·rw[if_neg v,Xc] at I;exact jE (ag.trans (XB.mpr v)) ⟨_,rfl,s4,by rw[I];exact m⟩
    rintro ac H4 ⟨u0,rfl,s4,m⟩;have am:(XC c.length).filter (fun k=>decide (c.getD k 0∈Jl a.length n j))=jj a n c j:=rfl;rw[am] at m;refine⟨_,rfl,JX,fun t ht=>?_⟩;have z5:=ze (o:=.lst []) ht;refine⟨_,_,zgj (SqL.of (by rw[<- zqt];exact z5 _ _ m)),zgj (xs:=[]) (SqL.of zc),zjP _ _,_,rfl,?_⟩;have Y:(if true=true then !PyData.eqv (ZQ ((jj a n c j).map fun x=>((x:Nat):Int))) (ZQ []) else W1 (ZQ ((jj a n c j).map fun x=>((x:Nat):Int))) (ZQ []))=!(jj a n c j).isEmpty:=by
     rw[if_pos rfl,zj1,List.isEmpty_map]
    have G:=(s3.trans s4).trans z5;have d:=G _ _ u;have af:=zdd G ae;have ao:=z5 _ _ m;generalize upd H4 t (.lst [])=H5 at *
    obtain⟨g1,g2⟩:=zbc (znO W hj) hp;have ah:(!decide (V.str ⟨#[(jP a).getD j 0]⟩=V.str "0"))=!decide ((jP a).getD j 0=48):=by rw[ziO,Ze]
    by_cases g:(!(jj a n c j).isEmpty || !decide ((jP a).getD j 0=48))=true
    ·rw[if_pos g] at st;by_cases h1:(!(jj a n c j).isEmpty)=true
     case' pos=>refine jX (Y.trans h1) (YD ?_)
     case' neg =>
      have h2:(!decide ((jP a).getD j 0=48))=true:=by
       rw[XB.mpr h1,Bool.false_or] at g;exact g
      refine jE (Y.trans (XB.mpr h1)) ?_
      refine⟨_,rfl,_,rfl,z,_,_,rfl,rfl,L,J hj,rfl,_,rfl,jX (ah.trans h2) ?_⟩
     all_goals
      refine⟨_,rfl,.inl ⟨rfl,_,SqL.of d⟩,_,rfl,_,rfl,z,_,_,rfl,rfl,L,J hj,_,_,rfl,int_sign g1 g2,(by show 1<=640;decide),_,rfl,ZA,fun tp ab=>?_⟩
      have z6:=ze (o:=.tup [.int ((((jP a).getD j 0:Nat):Int)-48),.ref y]) ab
      have ar:tp≠U:=fun e=>by
       subst e;rw[d] at ab;cases ab
      refine⟨U,r,_,rfl,rfl,z6 _ _ d,XI (show r.length<=64 by lia) (by decide),_,_,_,r++[.ref tp],rfl,fun b o e=>?_,zc,?_,?_⟩
      ·rw[zj (zh e aa)];exact z6 _ _ (G _ _ (s2 _ _ e))
      ·rw[st];exact Paired.snoc (zhP (z6 _ _ d) (zdd z6 af)) ⟨tp,y,rfl,by rw[zj ar];exact zc,ak,by rw[zj ak];exact z6 _ _ ao⟩
      ·rw[XW];show _+1<=_;lia
    ·have h1:(!(jj a n c j).isEmpty)=false:=by
      rw[RY,not_or] at g;exact XB.mpr g.1
     have h2:(!decide ((jP a).getD j 0=48))=false:=by
      rw[RY,not_or] at g;exact XB.mpr g.2
     rw[if_neg g,Xc] at st;refine jE (Y.trans h1) ⟨_,rfl,_,rfl,z,_,_,rfl,rfl,L,J hj,rfl,_,rfl,jE (ah.trans h2) ⟨_,_,_,r,rfl,s2.trans G,d,?_,by lia⟩⟩;rw[st];exact af
   ·rw[XB.mpr hp,UC,if_neg (by decide),Xc] at st;refine jE (hb.trans (XB.mpr hp)) ⟨_,_,_,r,rfl,s2,u,?_,by lia⟩;rw[st];exact ae
  rintro σ H2 ⟨v6,v7,v8,r,rfl,s2,u,M,_⟩;rw[em] at M;exact⟨_,rfl,q U r H2 aa u (zhO M) s2⟩
def zpc:Sp:=fun e H Q _=>∃(l:Addr) (b:List Str) (n:Nat) (st:Int),e=[.ref l,.int st]/\H l=some (.lst (b.map V.str))/\Brd b/\Wide b n /\
 ∀(d:Addr) (c:List V) (N:Addr->Prop) (a:Hp),H d=none->a d=some (.lst c)->jB N a c (xy b n st)->zu H a->Q (.ref d) a
def zbn (rs:List Str)(n:Nat)(S:List Nat):List (Int×Int):=S.map fun k=>toI (pos n ((jx rs n).getD k 0))
theorem jD:zF ["_law_texts_here","_law_stones","_law_signs_here","_law_shut","_law_numbers_here","_law_found","_law_some"] ["_law_texts_here","_law_stones"] (zg jQ):=⟨rfl,rfl,rfl,by decide +kernel,rfl,by decide +kernel,by decide +kernel⟩
theorem zdf (T:Txt mg)(Z:Prog K mg)(D:zm K mg "_law_layings" jQ ["_law_texts_here","_law_stones"] f fd):qt P w K mg base CX0 3 f fd ["_law_texts_here","_law_stones"] zpc:=by
 obtain⟨aP,aQ,QI⟩:=Z.law_numbers;obtain⟨aU,aT,az⟩:=Z.law_fits;obtain⟨aS,aR,QJ⟩:=Z.law_choices;refine D.F.ok jD (fun vs H Q E h=>?_) (fun aJ A aC s H vs Q E hr h=>?_)
 ·obtain⟨l,c,n,st,rfl,_⟩:=h;rfl
 ·obtain⟨l,c,n,st,rfl,hl,B,W,q⟩:=h;have r1:=B.r1;have r5:=B.r5;have n1:=W.n1;have n5:=W.n5;have a3:c.length*n<=5*5:=TU r5 n5;obtain⟨t0,av⟩:∃t,c[0]?=some t:=⟨_,X7 (by lia)⟩;have aG:t0.length=n:=(W.row t0 (X4 av)).len;have fz:(UT "" c).cps.toList=jP c:=zbm c;have zl:(UT "" c).length=c.length*n:=by
   show (UT "" c).cps.size=_;rw[<- X2,fz,W.flat]
  refine⟨_,(zd (zv (i:=2) jD.nd rfl (Vm rfl) (xw Ss So Sm zeL qo (za (pvS 0) zb)))
   (zd (zv (i:=3) jD.nd rfl (Vm rfl) (qh (N:=["_law_at","_law_signs_here"]) (src:=[none,some 2]) (zR.free (O:=(zg jQ).names) (XN:=["_law_texts_here","_law_stones","_law_signs_here","_law_shut","_law_numbers_here","_law_found","_law_some"]) rfl rfl ⟨_,rfl⟩ rfl rfl (by decide +kernel) (by decide +kernel) (by decide +kernel) rfl (by decide +kernel)) rfl (qN (by rfl) T.ji (za (zq xg (by rfl) T.jz WX (za (pvS 2) zb)) zb)) (fun _ _ _ _ _=>(zo (i:=0) (by show W3 (["_law_at","_law_signs_here"]:List Str);decide +kernel) rfl (XM rfl))) (fun _ _ _ _ _=>(qg (zG JK (qf J7 (pvS 1) (pvS 0) (fun _ _=>rfl)) qo (zQ _)))) (fun _ _ _ _ _=>(pvS 0))))
   (zd (zv (i:=4) jD.nd rfl (XM rfl) (pc0 (zde T Z QI) hr QI (za (pvS 0) (za (pvS 3) zb))))
   (zd (zv (i:=5) jD.nd rfl (XM rfl) (qc zb))
   (zd (qw W7 rfl (zM (pc0 (zda T QJ) hr QJ (za (zq zH (by rfl) T.jz WX (za (pvS 3) zb)) zb))) (zo (i:=6) jD.nd rfl (XM rfl)) (zf (jc (PW.pt (zeA (zG JK (zq zH (by rfl) T.jz WX (za (pvS 6) zb)) (pvS 1) (zQ _)) (zbO (yZ (pc0 (zgy T az) hr az (za (pvS 6) (za (pvS 4) zb))) (fun _=>rfl))))) (zf (yk (xw WZ Wq Wp jw (pvS 5) (za (qh (N:=["_law_k","_law_shut","_law_texts_here"]) (src:=[none,some 3,some 0]) (zR.free (O:=(zg jQ).names) (XN:=["_law_texts_here","_law_stones","_law_signs_here","_law_shut","_law_numbers_here","_law_found","_law_some"]) rfl rfl ⟨_,rfl⟩ rfl rfl (by decide +kernel) (by decide +kernel) (by decide +kernel) rfl (by decide +kernel)) rfl (zM (pvS 6)) (fun _ _ _ _ _=>(zo (i:=0) (by show W3 (["_law_k","_law_shut","_law_texts_here"]:List Str);decide +kernel) rfl (XM rfl))) (fun _ _ _ _ _=>qU) (fun _ _ _ _ _=>(zq zbq (by rfl) T.zf3 QP (za (qf (Qc (K:=K) (by rfl)) (pvS 1) (pvS 0) (fun _ _=>rfl)) (za (zq xg (by rfl) T.jz WX (za (qf (Qc (K:=K) (by rfl)) (pvS 2) zk (fun _ _=>rfl)) zb)) zb))))) zb)))) zZ)))
   (zf (zI (pvS 5)))))))),?_⟩
  refine⟨rfl,_,rfl,"",l,c,rfl,rfl,SqL.of hl,?_,?_⟩
  ·rw[zgE c fun t ht=>(W.row t ht).len];exact X6 a3 (by decide)
  generalize UT "" c=z at *
  have aH:∀{x:Nat},x<c.length*n->atI z.cps.toList ((x:Nat):Int)=some ((jP c).getD x 0):=fun {x} hx=>jT (by lia) (by rw[WS,fz];exact znP W hx);have a2:z.length<=Xw:=X6 (show z.length<=64 by lia) (by decide);refine⟨_,rfl,z,rfl,a2,_,rfl,by lia,by lia,fun sa au=>?_⟩;rw[zl,WS];refine QO (lo:=0) (n:=c.length*n) (fun i m r=>∃(u0:Option V),m=[u0,some (.str z)]/\zu H r/\r sa=some (.lst (pV ((XC i).filter fun x=>decide ((jP c).getD x 0=63)))))
   ⟨_,rfl,ze au,zc⟩ ?_ ?_
  ·rintro i m H1 hi ⟨u0,rfl,s1,L⟩;rw[show (0:Int)+(i:Nat)=((i:Nat):Int) by lia];have g:=Yt (p:=fun x=>decide ((jP c).getD x 0=63)) i;refine⟨_,rfl,_,rfl,z,_,_,rfl,rfl,a2,aH hi,rfl,_,rfl,?_⟩;have hb:decide (V.str ⟨#[(jP c).getD i 0]⟩=V.str "?")=decide ((jP c).getD i 0=63):=by rw[Ye,Ze]
   by_cases ac:decide ((jP c).getD i 0=63)=true
   ·rw[if_pos ac] at g;refine jX (hb.trans ac) ⟨_,rfl,_,L,?_,_,rfl,fun b o e=>?_,?_⟩
    ·rw[Zl];refine XI (X6 (Xm _ _) ?_) (show 64<Xw by decide);rw[W6];lia
    ·rw[zj (zh e au)];exact s1 _ _ e
    ·rw[zc,g,zfk]
   ·rw[if_neg ac,Xc] at g;exact jE (hb.trans (XB.mpr ac)) ⟨_,rfl,s1,by rw[g];exact L⟩
  rintro m H1 ⟨u0,rfl,s1,L⟩;rw[show (XC (c.length*n)).filter (fun x=>decide ((jP c).getD x 0=63))=jx c n from rfl] at L;have aA:(jx c n).length<=10:=by
   have h1:=B.sh;rw[<- zdc W,Y1] at h1;exact h1
  have aO:∀{k:Nat},k<(jx c n).length->(jx c n).getD k 0<64:=fun hk=>by
   have:=((zlR W).mp (getD_mem hk)).1;lia
  refine⟨_,rfl,_,rfl,l,sa,c,n,jx c n,rfl,s1 _ _ hl,L,by lia,B,W,fun na un H2 aN a1 an s2=>?_⟩;have ar:=s2 _ _ L;have aD:∀q∈ZU c n (jx c n) (c.length*n),q.2.length<=64:=fun q hq=>by
   obtain⟨x,_,rfl⟩:=Xv.mp hq;show (jj c n (jx c n) x).length<=64;refine X6 (Xm _ _) ?_;rw[W6];lia
  refine⟨JX,fun I ai=>?_⟩;have z3:=ze (o:=.lst []) ai;have Y:upd H2 I (.lst []) I=some (.lst []):=zc;have aE:=(s1.trans s2).trans z3;have a8:=z3 _ _ ar;have aI:=z3 _ _ a1;have aK:=zer z3 an;have a5:H I=none:=(s1.trans s2).free ai;generalize upd H2 I (.lst [])=H3 at *
  have aM:=aE _ _ hl;refine⟨_,rfl,sa,_,rfl,.inl (SqL.of a8),(pV (jx c n)).length,rfl,by rw[Zl];lia,fun d af H5 hd ap ah a7 s5=>⟨d,rfl,⟨_,SqL.of ap⟩,?_⟩⟩;rw[Zl] at ah;have aB:∀v∈af,v≠V.ref I:=fun v hv e=>by
   have:=a7 v hv I e;rw[Y] at this;cases this
  have aq:=s5 _ _ Y;have a4:I≠d:=fun e=>by
   subst e;rw[Y] at hd;cases hd
  have aF:=z3.trans s5;refine yY (K:=K) (a:=d) (xs:=af) (fun i σ r=>∃(v6:Option V) (ws:List V),σ=[some (.ref l),some (.int st),some (.str z),some (.ref sa),some (.ref na),some (.ref I),v6]/\zu H2 r/\r d=some (.lst af)/\PLs r af (Subs.subs (XC (jx c n).length))/\r I=some (.lst ws)/\jB (fun a=>a≠I) r ws ((((Subs.subs (XC (jx c n).length)).take i).filter fun S=>decide (((S.length:Nat):Int)=st)&&zaS (ZU c n (jx c n) (c.length*n)) S).map (zbn c n)))
   ⟨_,[],rfl,aF,ap,ah,aq,.nil⟩ (fun i σ r _ ⟨_,_,_,_,y,_⟩=>SqL.of y) ?_ ?_
  ·rintro i v σ H6 hv ⟨v6,ws,rfl,s6,ae,M,u,J⟩;obtain⟨S,a,hS,rfl,ha⟩:=zlQ M hv;have il:=(XZ.mp hS).1;have a9:i<1024:=by
    rw[zbl,W6] at il;exact Xy il (X6 (Wa (by decide) aA) (by decide))
   have ag:=Tally.jV (X4 hS);have Sl:S.length<=10:=by
    have:=ag.length_le;rw[W6] at this;lia
   have g:=zgD (p:=fun S=>decide (((S.length:Nat):Int)=st)&&zaS (ZU c n (jx c n) (c.length*n)) S) hS;have ax:ws.length<=1024:=by
    rw[jo J,Y1];refine X6 (Xm _ _) ?_;rw[XE];lia
   refine⟨_,rfl,a,_,rfl,.inl (SqL.of ha),_,rfl,rfl,_,rfl,?_⟩;have hb:decide (V.int (((pV S).length:Nat):Int)=V.int st)=decide (((S.length:Nat):Int)=st):=by
    rw[Zl];exact decide_eq_decide.mpr ⟨fun h=>by injection h,fun h=>by rw[h]⟩
   by_cases h1:decide (((S.length:Nat):Int)=st)=true
   ·rw[h1,Tt] at g;refine jX (hb.trans h1) ?_;refine⟨_,rfl,_,rfl,a,na,S,un,_,rfl,ha,s6 _ _ a1,zer s6 an,aD,fun H7 s7=>?_⟩;have ao:=s7 _ _ ha;have G:=s7 _ _ u;have am:=qd s7 J;have ak:=s6.trans s7;by_cases hf:zaS (ZU c n (jx c n) (c.length*n)) S=true
    ·rw[if_pos hf] at g;rw[hf];refine⟨true,rfl,YD ?_⟩;refine⟨_,rfl,.inl ⟨rfl,_,SqL.of G⟩,_,rfl,a,rfl,⟨_,SqL.of ao⟩,fun y hy=>?_⟩;have ay:y≠I:=fun e=>by
      subst e;rw[G] at hy;cases hy
     refine qj (K:=K) (a:=a) (xs:=pV S) (fun j m r=>∃(u0:Option V) (ys:List V),m=[u0,some (.ref sa),some (.ref l)]/\zu H7 r/\r y=some (.lst ys)/\xu r ys (zbn c n (S.take j)))
      ⟨_,[],rfl,ze hy,zc,.nil⟩ (fun j m r _ ⟨_,_,_,s8,_⟩=>SqL.of (s8 _ _ ao)) ?_ ?_
     ·rintro j x m H8 hx ⟨u0,ys,rfl,s8,ab,U⟩;obtain⟨k,hk,rfl⟩:=zlP hx;have jl:=(XZ.mp hk).1;have kl:=Xf.mp (ag.subset (X4 hk));have aw:=ak.trans s8;unfold Ja;refine QY ?_;refine⟨_,rfl,_,rfl,sa,_,_,_,rfl,rfl,SqL.of (aw _ _ ar),jT (by lia) (by rw[WS];exact zlV kl),_,rfl,l,_,0,.str t0,rfl,rfl,SqL.of (aw _ _ (s2 _ _ (s1 _ _ hl))),jT (by lia) (by show (c.map V.str)[0]?=_;rw[Xl,av];rfl),t0,rfl,?_⟩;rw[aG];refine⟨X6 (show n<=64 by lia) (by decide),_,_,rfl,⟨by lia,by lia⟩,fun tp aj=>?_⟩;have z9:=ze (o:=.tup [.int ((((jx c n).getD k 0:Nat):Int)/((n:Nat):Int)),.int ((((jx c n).getD k 0:Nat):Int)%((n:Nat):Int))]) aj;have ty:tp≠y:=fun e=>by
       subst e;rw[ab] at aj;cases aj
      refine⟨_,z9 _ _ ab,?_,_,ys++[.ref tp],rfl,fun b o e=>?_,zc,?_⟩
      ·rw[zcI U];unfold zbn;rw[Y1,XE];exact XI (show _<=64 by lia) (by decide)
      ·rw[zj (zh e hy)];exact z9 _ _ (s8 _ _ e)
      ·have e1:zbn c n (S.take (j+1))=zbn c n (S.take j)++[toI (pos n ((jx c n).getD k 0))]:=by
        unfold zbn;rw[Xx,hk,Xk];rfl
       rw[e1];refine zcK (yS (z9 _ _ ab) (jS z9 U)) (.cons ⟨tp,rfl,?_⟩ .nil);rw[zj ty];exact zc
     rintro m H8 ⟨u0,ys,rfl,s8,ab,U⟩;rw[Zl,Xz] at U;have aa:=s8 _ _ G;refine⟨I,ws,_,rfl,rfl,aa,XI ax (by decide),_,ws++[.ref y],rfl,fun b o e=>?_,?_,?_,zc,?_⟩
     ·rw[zj (zh e ai)];exact s8 _ _ (ak _ _ e)
     ·rw[zj (U9 a4)];exact s8 _ _ (s7 _ _ ae)
     ·exact zgx (YV (s7.trans s8) M) aB
     ·rw[g,Xk];exact ZO (xF aa (fun _ h=>h) (qd s8 am)) (.cons ⟨y,ys,rfl,ay,by rw[zj ay];exact ab,yS aa U⟩ .nil)
    ·have a6:=XB.mpr hf;rw[if_neg hf,Xc] at g;rw[a6];refine⟨false,rfl,Zp ?_⟩;exact⟨_,ws,rfl,ak,s7 _ _ ae,YV s7 M,G,by rw[g];exact am⟩
   ·have al:=XB.mpr h1;rw[al,UC,if_neg (by decide),Xc] at g;refine jE (hb.trans al) (Zp ?_);exact⟨_,ws,rfl,s6,ae,M,u,by rw[g];exact J⟩
  rintro σ H6 ⟨v6,ws,rfl,s6,ae,M,u,J⟩;rw[Ys ah,Xz] at J;exact⟨_,rfl,q I ws _ H6 a5 u J ((s1.trans s2).trans s6)⟩
theorem ziS (a b:Int):V7 b (a%b)=V7 a b:=by
 have h:=Int.emod_add_mul_ediv a b;apply Nat.dvd_antisymm
 ·apply Int.dvd_gcd
  ·have h1:((V7 b (a%b):Nat):Int) ∣ b:=TF ..;have h2:((V7 b (a%b):Nat):Int) ∣ a%b:=T2 ..;have c:=Int.dvd_add h2 (Int.dvd_trans h1 (Int.dvd_mul_right b (a/b)));rw[h] at c;exact c
  ·exact TF ..
 ·apply Int.dvd_gcd
  ·exact T2 ..
  ·have h1:((V7 a b:Nat):Int) ∣ b:=T2 ..;have h2:((V7 a b:Nat):Int) ∣ a:=TF ..;have e:a%b=a-b*(a/b):=by lia
   rw[e];exact Int.dvd_sub h2 (Int.dvd_trans h1 (Int.dvd_mul_right ..))
theorem znk (a:Int)(h:0<=a):((V7 a 0:Nat):Int)=a:=by
 rw[Int.gcd_zero_right];lia
theorem zfl {a b:Int}(h:0<b):0<((V7 a b:Nat):Int):=by
 have:0<V7 a b:=Int.gcd_pos_of_ne_zero_right a (by lia);lia
theorem zpe {a b:Int}(h:0<b):((V7 a b:Nat):Int)<=b:=Int.le_of_dvd h (T2 ..)
def zrb:Sp:=fun a H Q _=>∃(n b:Int),a=[.int n,.int b]/\0<b/\Q (.int (V7 n b:Nat)) H
def zrc:Sp:=fun a H Q _=>∃(n b:Int),a=[.int n,.int b]/\0<b/\b.natAbs<2^70/\∀p,H p=none->Q (.ref p) (upd H p (.tup [.int (n/(V7 n b:Nat)),.int (b/(V7 n b:Nat))]))
theorem qA:zF ["number","bottom","divisor","rest","next_rest"] ["number","bottom"] (zg jg):=⟨rfl,rfl,rfl,by decide +kernel,rfl,by decide +kernel,by decide +kernel⟩
theorem Qx (D:zm K mg "greatest_divisor" jg ["number","bottom"] f fd):qt P w K mg base CX0 1 f fd ["number","bottom"] zrb:=by
 refine D.F.ok qA (fun B H Q E h=>?_) (fun u A g s H B Q E J h=>?_)
 ·obtain⟨n,b,rfl,_⟩:=h;rfl
 ·obtain⟨n,b,rfl,j,k⟩:=h;refine⟨_,(zd (zv (i:=2) qA.nd rfl (XM rfl) (pvS 1))
   (zd (zv (i:=3) qA.nd rfl (XM rfl) (zx qY (pvS 0) (pvS 1)))
   (zd (zkb W7 (zG Qy (pvS 3) zk (zQ _)) (zd (zv (i:=4) qA.nd rfl (XM rfl) (zx qY (pvS 2) (pvS 3)))
   (zd (zv (i:=2) qA.nd rfl (XM rfl) (pvS 3))
   (zf (zv (i:=3) qA.nd rfl (XM rfl) (pvS 4))))))
   (zf (zI (pvS 2)))))),?_⟩
  refine⟨_,rfl,_,rfl,_,rfl,_,_,rfl,rfl,j,?_⟩;refine⟨fun m o a=>∃(d r:Int) (x:Option V),o=[some (.int n),some (.int b),some (.int d),some (.int r),x]/\a=H/\0<d/\0<=r/\V7 d r=V7 n b/\m=r.toNat,⟨_,b,n%b,none,rfl,rfl,j,UW n (by lia),ziS n b,rfl⟩,?_⟩;rintro m o a ⟨d,r,x,rfl,rfl,I,v,l,rfl⟩;refine⟨_,rfl,rfl,_,rfl,?_⟩;by_cases c:r=0
  ·subst c;refine znv rfl ?_;refine⟨_,rfl,?_⟩;have e:((V7 n b:Nat):Int)=d:=by rw[<- l];exact znk d (by lia)
   rw[<- e];exact k
  ·have e:(!decide (V.int r=V.int 0))=true:=by
    have z:¬ V.int r=V.int 0:=fun z=>c (V.int.inj z);rw[decide_eq_false z];rfl
   refine jX e ?_;refine⟨fun G a=>∃y,y<r.toNat/\_,fun _ _ h=>h,?_⟩;refine⟨_,rfl,_,rfl,_,_,rfl,rfl,(show (0:Int)<r by lia),_,rfl,_,rfl,?_⟩;have p:=U5 d (show (0:Int)<r by lia);have q:=UW d (show r≠0 from c);refine⟨(d%r).toNat,by lia,r,d%r,some (.int (d%r)),rfl,rfl,by lia,q,?_,rfl⟩;rw[ziS d r];exact l
theorem zbE:zF ["top","bottom","divisor"] ["top","bottom"] (zg Yb):=⟨rfl,rfl,rfl,by decide +kernel,rfl,by decide +kernel,by decide +kernel⟩
theorem zgG {p:Addr}{c:Xo}(D:zm K mg "fraction" Yb ["top","bottom"] f fd)(m:zm K mg "greatest_divisor" jg ["number","bottom"] p c):qt P w K mg base CX0 2 f fd ["top","bottom"] zrc:=by
 refine D.F.ok zbE (fun r H Q E h=>?_) (fun o A g s H r Q E q h=>?_)
 ·obtain⟨n,b,rfl,_⟩:=h;rfl
 ·obtain⟨n,b,rfl,d,v,k⟩:=h;refine⟨_,(zd (zv (i:=2) zbE.nd rfl (XM rfl) (pc0 (Qx m) q m (za (pvS 0) (za (pvS 1) zb))))
   (zf (zI (jy (za (zx qO (pvS 0) (pvS 2)) (za (zx qO (pvS 1) (pvS 2)) zb)))))),?_⟩
  have j:=zfl (a:=n) d;have u:=zpe (a:=n) d;have l:((V7 n b:Nat):Int).natAbs<2^8000:=by
   have e:2^70<=2^8000:=Wa (by decide) (by decide);lia
  refine⟨_,rfl,_,rfl,n,b,rfl,d,?_⟩;refine⟨_,rfl,_,rfl,_,_,rfl,rfl,yO.big j l,_,rfl,_,rfl,_,_,rfl,rfl,yO.big j l,ZA,?_⟩;exact k
theorem zlY {φ:List Key->V->Prop}{c a:List (List Key×V)}(h:∀b∈c,φ b.1 b.2)(h0:∀k v,yC a k=some v->φ k v):∀k v,yC (c.foldl (fun a b=>putK a b.1 b.2) a) k=some v->φ k v:=by
 induction c generalizing a with
 | nil=>exact h0
 | cons b r f =>
  refine f (fun x d=>h x (XT _ d)) fun k v e=>?_;rw[YG] at e;split at e
  ·rename_i ek;cases e;rw[ek];exact h b XS
  ·exact h0 k v e
theorem zlZ {k:List Key}{b a:List (List Key×V)}(h:(∃c∈b,c.1=k)\/(yC a k).isSome=true):(yC (b.foldl (fun a c=>putK a c.1 c.2) a) k).isSome=true:=by
 induction b generalizing a with
 | nil =>
  rcases h with ⟨_,h,_⟩ | h
  ·cases h
  ·exact h
 | cons c r f =>
  refine f ?_;rcases h with ⟨x,hx,e⟩ | h
  ·rcases XJ.mp hx with d | hx
   ·subst d;refine .inr ?_;rw[YG,if_pos e.symm];rfl
   ·exact .inl ⟨x,hx,e⟩
  ·refine .inr ?_;rw[YG];split
   ·rfl
   ·exact h
def frT (n b:Int):HO:=.tup [.int (n/(V7 n b:Nat)),.int (b/(V7 n b:Nat))]
def zgH (H:Hp)(rs:List Str)(n:Int)(k:List Key)(v:V):Prop:=∀c,k=yh c->∃t,v=.ref t/\H t=some (frT (qL rs n c) (jU rs n))
theorem zgH.mono {H a:Hp}(s:zu H a){rs:List Str}{n:Int}{k:List Key}{v:V}(h:zgH H rs n k v):zgH a rs n k v:=fun c e=>by
 obtain⟨t,b,d⟩:=h c e;exact⟨t,b,s _ _ d⟩
theorem zl0 {H:Hp}{rs:List Str}{n:Int}{c:Nat×Nat}{t:Addr}(h:H t=some (frT (qL rs n c) (jU rs n))):zgH H rs n (yh c) (.ref t):=fun d e=>by
 rw[<- zgs e];exact⟨t,rfl,h⟩
def zpf (C:Addr):Sp:=fun c H Q E=>∃(p l:Addr) (a:List Str) (n:Int),c=[.ref p]/\zY H p l a n/\Rows bd.cps.toList a/\Small a/\0<=n/\(jU a n≠0->∀b,zu H b->Q (.int (jU a n)) b)/\(jU a n=0->∀b,zu H b->E (.ref C) none b)
def zl1 (C:Addr):Sp:=fun f H Q E=>∃(p l:Addr) (a:List Str) (n:Int),f=[.ref p]/\zY H p l a n/\Rows bd.cps.toList a/\Small a/\0<=n /\
 (jU a n≠0->∀(d:Addr) (e:List (List Key×V)) (b:Hp),H d=none->b d=some (.dT e)->(∀c∈zP a,∃t,yC e (yh c)=some (.ref t)/\b t=some (frT (qL a n c) (jU a n)))->zu H b->Q (.ref d) b)/\(jU a n=0->∀b,zu H b->E (.ref C) none b)
def clS (rs:List Str)(n:Int):List (Nat×Nat):=(zP rs).filter fun c=>decide (qL rs n c=0)
def stS (rs:List Str)(n:Int):List (Nat×Nat):=(zP rs).filter fun c=>decide (qL rs n c=jU rs n)
def zpg (C:Addr):Sp:=fun g H Q E=>∃(p l:Addr) (b:List Str) (n:Int),g=[.ref p]/\zY H p l b n/\Rows bd.cps.toList b/\Small b/\0<=n /\
 (jU b n≠0->∀(t c d:Addr) (e f:List V) (a:Hp),H t=none->H c=none->H d=none->c≠d->a t=some (.tup [.ref c,.ref d])->a c=some (.lst e)->a d=some (.lst f)->Cel a e (clS b n)->Cel a f (stS b n)->zu H a->Q (.ref t) a)/\(jU b n=0->∀a,zu H a->E (.ref C) none a)
theorem zdh (rs:List Str)(R:Rows bd.cps.toList rs)(n:Int):0<=jU rs n/\(jU rs n).natAbs<2^70:=by
 have:=ziI (cs:=zP rs) (p:=jL rs) (k:=n.toNat) (qR (p:=qG) R);unfold jU;refine⟨Int.natCast_nonneg _,?_⟩;rw[S9];exact XI this (by decide)
theorem zj2 (rs:List Str)(n:Int)(c:Nat×Nat):0<=qL rs n c:=Int.natCast_nonneg _
theorem znl {a b:Int}(i:0<=a)(d:0<b):(a/(V7 a b:Nat)=0/\b/(V7 a b:Nat)=1)↔a=0:=by
 constructor
 ·rintro⟨h,_⟩;obtain⟨x,c⟩:((V7 a b:Nat):Int) ∣ a:=TF ..;have f:=zfl (a:=a) d;generalize ((V7 a b:Nat):Int)=g at *
  rw[c,Tp _ (by lia)] at h;rw[c,h,PC]
 ·intro h;subst h;have e:((V7 0 b:Nat):Int)=b:=by
   rw[Int.gcd_zero_left];lia
  rw[e];exact⟨Int.zero_ediv _,OC (by lia)⟩
theorem zph {a b:Int}(f:0<b):(a/(V7 a b:Nat)=1/\b/(V7 a b:Nat)=1)↔a=b:=by
 have i:=zfl (a:=a) f;constructor
 ·rintro⟨h1,h2⟩;obtain⟨x,c⟩:((V7 a b:Nat):Int) ∣ a:=TF ..;obtain⟨y,d⟩:((V7 a b:Nat):Int) ∣ b:=T2 ..;generalize ((V7 a b:Nat):Int)=g at *
  rw[c,Tp _ (by lia)] at h1;rw[d,Tp _ (by lia)] at h2;rw[c,d,h1,h2]
 ·intro h;subst h;have e:((V7 a a:Nat):Int)=a:=by
   rw[Int.gcd_self];lia
  rw[e];exact⟨OC (by lia),OC (by lia)⟩
section
variable {P:Xg}{w:WQ}{K:X5}{mg:Str->Option X9}{base:Heap}{f:Addr}{fd:Xo}{jad:Addr}
theorem QK:zF ["board","every"] ["board"] (zg JB):=⟨rfl,rfl,rfl,by decide +kernel,rfl,by decide +kernel,by decide +kernel⟩
theorem zdD (T:Txt mg)(c:qJ K mg "NoLaying" jad)(Z:Prog K mg)(D:zm K mg "some_count" JB ["board"] f fd):qt P w K mg base (CXE P w) 8 f fd ["board"] (zpf jad):=by
 obtain⟨v,x,a⟩:=Z.count;refine D.F.okX QK (fun u H Q E h=>?_) (fun k A d s H u Q E m h=>?_)
 ·obtain⟨p,l,g,n,rfl,_⟩:=h;rfl
 ·obtain⟨p,l,g,n,rfl,B,R,r,o,q,e⟩:=h;refine⟨_,(zd (zv (i:=1) QK.nd rfl (XM rfl) (pc0 (zlG T Z a) m a (za (pvS 0) zb)))
   (zd (jc (zG JK (pvS 1) zk (zQ _)) (zf (zkp zaZ c (by rfl) rfl (za qo zb))) zZ)
   (zf (zI (pvS 1))))),?_⟩
  refine⟨_,rfl,p,l,g,n,rfl,B,R,r,o,fun j s1=>?_⟩;by_cases b:jU g n=0
  ·exact⟨_,rfl,rfl,_,rfl,jX (decide_eq_true (by rw[b])) ⟨sz_1,e b j s1⟩⟩
  ·exact⟨_,rfl,rfl,_,rfl,jE (decide_eq_false fun h=>b (V.int.inj h)) ⟨_,rfl,q b j s1⟩⟩
theorem zbo:zF ["board","every","at_cells"] ["board"] (zg YQ):=⟨rfl,rfl,rfl,by decide +kernel,rfl,by decide +kernel,by decide +kernel⟩
theorem zj3 (T:Txt mg)(ar:qJ K mg "NoLaying" jad)(Z:Prog K mg)(D:zm K mg "shares" YQ ["board"] f fd):qt P w K mg base (CXE P w) 9 f fd ["board"] (zl1 jad):=by
 obtain⟨aA,a8,ai⟩:=Z.some_count;obtain⟨a7,a6,ZV⟩:=Z.counts_by_cell;obtain⟨a3,a2,qW⟩:=Z.closed;obtain⟨Yo,Zc,zB⟩:=Z.cells_of;obtain⟨Qt,Yn,zw⟩:=Z.sign_at;obtain⟨aB,a9,aj⟩:=Z.fraction;obtain⟨a5,a4,jN⟩:=Z.greatest_divisor;refine D.F.okX zbo (fun vs H Q E h=>?_) (fun aw A au s H vs Q E L h=>?_)
 ·obtain⟨p,l,b,n,rfl,_⟩:=h;rfl
 ·obtain⟨p,l,b,n,rfl,B,R,sm,n0,q,e⟩:=h;obtain⟨ax,ak⟩:=zdh b R n;refine⟨_,(zd (zv (i:=1) zbo.nd rfl (Vm rfl) (pcL zaZ (zdD T ar Z ai) L ai (za (pvS 0) zb)))
   (zd (zv (i:=2) zbo.nd rfl (Vm rfl) (pc0 (zaQ T Z ZV) L ZV (za (pvS 0) zb)))
   (zf (zI (jm (Jj L.units L.hd) (by rfl) T.zhm Su (za (qh (N:=["cell","every","at_cells"]) (src:=[none,some 1,some 2]) (zR.free (O:=(zg YQ).names) (XN:=["board","every","at_cells"]) rfl rfl ⟨_,rfl⟩ rfl rfl (by decide +kernel) (by decide +kernel) (by decide +kernel) rfl (by decide +kernel)) rfl (zM (pc0 (ZG T qW zB zw) L qW (za (pvS 0) zb))) (fun _ _ _ _ _=>(zo (i:=0) (by show W3 (["cell","every","at_cells"]:List Str);decide +kernel) rfl (XM rfl))) (fun _ _ _ _ _=>qU) (fun _ _ _ _ _=>(jy (za (pvS 0) (za (pc0 (zgG aj jN) L aj (za (zeN (u1 L.units) (pvS 2) (pvS 0) (fun _ _=>rfl)) (za (pvS 1) zb))) zb))))) zb)))))),?_⟩
  refine⟨_,rfl,p,l,b,n,rfl,B,R,sm,n0,fun hz H1 s1=>?_,fun hz H1 s1=>e hz H1 s1⟩;refine⟨_,rfl,p,l,b,n,rfl,B.mono s1,R,sm,n0,fun da a1 H2 az av aq s2=>?_⟩;have ag:=s1.trans s2;refine⟨_,rfl,p,l,b,n,rfl,B.mono ag,R,fun d5 w5 H5 ay J al s5=>⟨d5,rfl,⟨_,SqL.of J⟩,fun y hy=>?_⟩⟩;have ac:Cel H5 w5 (zP b):=al;have sl:(zP b).length<=64:=qR (p:=qG) R;refine qj (K:=K) (a:=d5) (xs:=w5) (fun i σ H'=>(∃u0,σ=[u0,some (.int (jU b n)),some (.ref da)])/\zu H5 H'/\∃G j,H' y=some (.lst G)/\j6 H' G j/\j.map (·.1)=((zP b).take i).map yh/\∀kv∈j,zgH H' b n kv.1 kv.2) ⟨⟨_,rfl⟩,ze hy,[],[],zc,.nil,rfl,(fun _ h=>nomatch h)⟩ (fun i σ H' _ ⟨_,s6,_⟩=>SqL.of (s6 _ _ J)) ?_ ?_
  ·rintro i x σ H6 hx ⟨⟨u0,rfl⟩,s6,G,j,U,u,m,M⟩;obtain⟨c,ab,ca,rfl,aa⟩:=Cel.get (Cel.mono s6 ac) hx;have g:=zfE.t (k:=yh c) ((s5.trans s6) _ _ av) aa;rw[aq c (X4 ab)] at g;have kl:j.length<=64:=by
    have:=congrArg List.length m;rw[Y1,Y1,XE] at this;lia
   refine J5 ⟨_,rfl,_,rfl,_,rfl,da,_,rfl,g,_,rfl,_,_,rfl,by lia,ak,fun I an=>⟨ZA,fun p1 ap=>?_⟩⟩;have s7:=ze (o:=frT (qL b n c) (jU b n)) an;have am:upd H6 I (frT (qL b n c) (jU b n)) I=some (frT (qL b n c) (jU b n)):=zc;have s8:=ze (o:=.tup [.ref ca,.ref I]) ap;have r:=s7.trans s8;have af:G.length<=64:=by
    rw[u.length];exact kl
   have Y:=r _ _ U;refine⟨G,Y,XI af (by decide),⟨_,rfl⟩,fun b' o e'=>?_,G++[.ref p1],j++[(yh c,.ref I)],zc,?_,?_,fun kv ao=>?_⟩
   ·rw[zj (zh e' hy)];exact r _ _ (s6 _ _ e')
   ·exact j6.into y _ Y (j6.snoc (u.mono r) ⟨p1,ca,rfl,zc,r _ _ aa⟩)
   ·rw[Xk,m,Xx,ab,Xk];rfl
   ·have st:∀{k v},zgH (upd (upd H6 I (frT (qL b n c) (jU b n))) p1 (.tup [.ref ca,.ref I])) b n k v->zgH (upd (upd (upd H6 I (frT (qL b n c) (jU b n))) p1 (.tup [.ref ca,.ref I])) y (.lst (G++[.ref p1]))) b n k v:=fun {k v} h d ek=>by
     obtain⟨t,e1,e2⟩:=h d ek;refine⟨t,e1,?_⟩;rw[zj (zb4 e2 Y (by intro z;cases z))];exact e2
    rcases XF.mp ao with h | h
    ·exact st ((M kv h).mono r)
    ·rw[List.mem_singleton.mp h];exact st (zl0 (s8 _ _ am))
  ·rintro σ H6 ⟨_,s6,G,j,U,u,m,M⟩;rw[ac.length,Xz] at m;refine⟨y,G,_,rfl,U,u,fun dd ae=>?_⟩;have ah:=ag.trans (s5.trans s6);have s7:=ze (o:=.dT (Yw j)) ae;refine q hz dd _ _ (ah.free ae) zc (fun c hc=>?_) (ah.trans s7);have h1:(yC (Yw j) (yh c)).isSome=true:=zlZ (.inl (by
    have:yh c∈j.map (·.1):=by
     rw[m];exact Xv.mpr ⟨c,hc,rfl⟩
    obtain⟨kv,h2,h3⟩:=Xv.mp this;exact⟨kv,h2,h3⟩))
   obtain⟨v,hv⟩:=V0.mp h1;obtain⟨t,e1,e2⟩:=zlY (φ:=zgH H6 b n) M (fun _ _ h=>by cases h) _ _ hv c rfl;exact⟨t,by rw[hv,e1],s7 _ _ e2⟩
end
def frP (n b:Int):Int×Int:=(n/(V7 n b:Nat),b/(V7 n b:Nat))
theorem zgI {H:Hp}{z:Addr}{ys:List V}{cs:List (Nat×Nat)}{a:Addr}{c:Nat×Nat}(e:H z=some (.lst ys))(d:Cel H ys cs)(b:H a=some (.tup [.int (c.1:Nat),.int (c.2:Nat)])):Cel (upd H z (.lst (ys++[.ref a]))) (ys++[.ref a]) (cs++[c]) :=
 yR (by
  rw[Xk];exact yS e (zcK (Cel.tup2 d) (.cons ⟨a,rfl,b⟩ .nil)))
theorem zl2 (a b x y:Int):(if false=true then !PyData.eqv (pD (a,b)) (pD (x,y)) else W1 (pD (a,b)) (pD (x,y)))=decide (a=x/\b=y):=by
 rw[if_neg XY,zlo];exact decide_eq_decide.mpr (by rw[Prod.mk.injEq])
theorem zpj {a b:Int}(c:0<=a)(d:0<b):(if false=true then !PyData.eqv (pD (frP a b)) (pD (0,1)) else W1 (pD (frP a b)) (pD (0,1)))=decide (a=0):=(zl2 _ _ 0 1).trans (decide_eq_decide.mpr (znl c d))
theorem zpk {a b:Int}(c:0<b):(if false=true then !PyData.eqv (pD (frP a b)) (pD (1,1)) else W1 (pD (frP a b)) (pD (1,1)))=decide (a=b):=(zl2 _ _ 1 1).trans (decide_eq_decide.mpr (zph c))
theorem zl3 (p q:Int×Int):zb9 (pD p) (pD q):=⟨rfl,rfl,by show 1<=64;decide⟩
section
variable {P:Xg}{w:WQ}{K:X5}{mg:Str->Option X9}{base:Heap}{f:Addr}{fd:Xo}{jad:Addr}
theorem zb1:zF ["board","told","clears","stones"] ["board"] (zg zba):=⟨rfl,rfl,rfl,by decide +kernel,rfl,by decide +kernel,by decide +kernel⟩
theorem znn (T:Txt mg)(aw:qJ K mg "NoLaying" jad)(Z:Prog K mg)(D:zm K mg "sure" zba ["board"] f fd):qt P w K mg base (CXE P w) 10 f fd ["board"] (zpg jad):=by
 obtain⟨aA,a9,aq⟩:=Z.shares;obtain⟨a8,a7,qW⟩:=Z.closed;obtain⟨Yo,Zc,zB⟩:=Z.cells_of;obtain⟨Qt,Yn,zw⟩:=Z.sign_at;refine D.F.okX zb1 (fun vs H Q E h=>?_) (fun az A ax s H vs Q E hr h=>?_)
 ·obtain⟨p,l,b,n,rfl,_⟩:=h;rfl
 ·obtain⟨p,l,b,n,rfl,B,R,sm,n0,q,e⟩:=h;obtain⟨a1,a2⟩:=zdh b R n;have sl:(zP b).length<=64:=qR (p:=qG) R;refine⟨_,(zd (zv (i:=1) zb1.nd rfl (Vm rfl) (pcL zaZ (zj3 T aw Z aq) hr aq (za (pvS 0) zb)))
   (zd (Jy (i:=2) zb1.nd rfl rfl (N:=["cell","told"]) (src:=[none,some 1]) (zR.free (O:=(zg zba).names) (XN:=["board","told","clears","stones"]) rfl rfl ⟨_,rfl⟩ rfl rfl (by decide +kernel) (by decide +kernel) (by decide +kernel) rfl (by decide +kernel)) rfl (zM (pc0 (ZG T qW zB zw) hr qW (za (pvS 0) zb))) (fun _ _ _ _ _=>(zo (i:=0) (by show W3 (["cell","told"]:List Str);decide +kernel) rfl (XM rfl))) (fun _ _ _ _ _=>(qg (zG (Jb (K:=K) (by rfl) hr.units) (zeN (u1 hr.units) (pvS 1) (pvS 0) (fun _ _=>rfl)) (jy (za zk (za zk zb))) (zQ _)))) (fun _ _ _ _ _=>(pvS 0)))
   (zd (Jy (i:=3) zb1.nd rfl rfl (N:=["cell","told"]) (src:=[none,some 1]) (zR.free (O:=(zg zba).names) (XN:=["board","told","clears","stones"]) rfl rfl ⟨_,rfl⟩ rfl rfl (by decide +kernel) (by decide +kernel) (by decide +kernel) rfl (by decide +kernel)) rfl (zM (pc0 (ZG T qW zB zw) hr qW (za (pvS 0) zb))) (fun _ _ _ _ _=>(zo (i:=0) (by show W3 (["cell","told"]:List Str);decide +kernel) rfl (XM rfl))) (fun _ _ _ _ _=>(qg (zG (Jb (K:=K) (by rfl) hr.units) (zeN (u1 hr.units) (pvS 1) (pvS 0) (fun _ _=>rfl)) (jy (za zk (za zk zb))) (zQ _)))) (fun _ _ _ _ _=>(pvS 0)))
   (zf (zI (jy (za (pvS 2) (za (pvS 3) zb)))))))),?_⟩
  refine⟨_,rfl,p,l,b,n,rfl,B,R,sm,n0,fun hz dd a6 H1 a5 ar ac s1=>?_,fun hz H1 s1=>e hz H1 s1⟩;have bp:0<jU b n:=by lia
  refine⟨_,rfl,p,l,b,n,rfl,B.mono s1,R,fun d2 w2 H2 a3 aa au s2=>⟨d2,rfl,⟨_,SqL.of aa⟩,fun y hy=>?_⟩⟩;have ak:Cel H2 w2 (zP b):=au;refine qj (K:=K) (a:=d2) (xs:=w2) (fun i U J=>∃u0 u,U=[u0,some (.ref dd)]/\zu H2 J/\J y=some (.lst u)/\Cel J u (((zP b).take i).filter fun c=>decide (qL b n c=0))) ⟨_,[],rfl,ze hy,zc,.nil⟩ (fun i U J _ ⟨_,_,_,d,_⟩=>SqL.of (d _ _ aa)) ?_ ?_
  ·rintro i x U H3 hx ⟨u0,u,rfl,s3,M,j⟩;obtain⟨c,G,ca,rfl,v⟩:=Cel.get (Cel.mono s3 ak) hx;have am:=s2.trans s3;obtain⟨t,hv,ht⟩:=ac c (X4 G);have g:=zfE.t (k:=yh c) (am _ _ ar) v;rw[hv] at g;have yl:u.length<=64:=by
    rw[j.length];refine X6 (Xm _ _) ?_;rw[XE];lia
   refine⟨_,rfl,_,rfl,dd,_,rfl,g,ZA,fun tq ae=>?_⟩;have r:=ze (o:=.tup [.int 0,.int 1]) ae;have aj:=am.trans r;refine⟨pD _,pD (0,1),PR.rdv (p:=frP (qL b n c) (jU b n)) ⟨t,rfl,aj _ _ ht⟩,PR.rdv ⟨tq,rfl,zc⟩,zl3 _ _,_,rfl,?_⟩;rw[Xx,G,Xb];have ee:=zpj (zj2 b n c) bp;have af:=r _ _ M;by_cases L:qL b n c=0
   ·have ef:[c].filter (fun c=>decide (qL b n c=0))=[c]:=by
     rw[WV,if_pos (decide_eq_true L)];rfl
    refine jX (ee.trans (decide_eq_true L)) ⟨_,rfl,u,af,XI yl (by decide),_,u++[.ref ca],rfl,fun b' o e'=>?_,zc,?_⟩
    ·rw[zj (zh e' hy)];exact r _ _ (s3 _ _ e')
    ·show Cel _ _ (_++[c].filter _);rw[ef];exact zgI af (j.mono r) (r _ _ v)
   ·have ef:[c].filter (fun c=>decide (qL b n c=0))=[]:=by
     rw[WV,if_neg (by rw[decide_eq_false L];decide)];rfl
    refine jE (ee.trans (decide_eq_false L)) ⟨_,u,rfl,s3.trans r,af,?_⟩;show Cel _ _ (_++[c].filter _);rw[ef,Xc];exact j.mono r
  ·rintro U H3 ⟨u0,u,rfl,s3,M,j⟩;rw[ak.length,Xz] at j;have ai:=s1.trans (s2.trans s3);have yn:H y=none:=(s1.trans s2).free hy;refine⟨_,rfl,p,l,b,n,rfl,B.mono ai,R,fun d4 w4 H4 a4 ab av r=>⟨d4,rfl,⟨_,SqL.of ab⟩,fun z I=>?_⟩⟩;have Y:Cel H4 w4 (zP b):=av;have aj:=(s2.trans s3).trans r;refine qj (K:=K) (a:=d4) (xs:=w4) (fun i U J=>∃u0 u,U=[u0,some (.ref dd)]/\zu H4 J/\J z=some (.lst u)/\Cel J u (((zP b).take i).filter fun c=>decide (qL b n c=jU b n))) ⟨_,[],rfl,ze I,zc,.nil⟩ (fun i U J _ ⟨_,_,_,d,_⟩=>SqL.of (d _ _ ab)) ?_ ?_
   ·rintro i x U H5 hx ⟨u0,zs,rfl,s5,ag,m⟩;obtain⟨c,G,ca,rfl,v⟩:=Cel.get (Cel.mono s5 Y) hx;have an:=aj.trans s5;obtain⟨t,hv,ht⟩:=ac c (X4 G);have g:=zfE.t (k:=yh c) (an _ _ ar) v;rw[hv] at g;have yl:zs.length<=64:=by
     rw[m.length];refine X6 (Xm _ _) ?_;rw[XE];lia
    refine⟨_,rfl,_,rfl,dd,_,rfl,g,ZA,fun tq ae=>?_⟩;have d:=ze (o:=.tup [.int 1,.int 1]) ae;have ay:=an.trans d;refine⟨pD _,pD (1,1),PR.rdv (p:=frP (qL b n c) (jU b n)) ⟨t,rfl,ay _ _ ht⟩,PR.rdv ⟨tq,rfl,zc⟩,zl3 _ _,_,rfl,?_⟩;rw[Xx,G,Xb];have ee:=zpk (a:=qL b n c) bp;have ah:=d _ _ ag;by_cases L:qL b n c=jU b n
    ·have ef:[c].filter (fun c=>decide (qL b n c=jU b n))=[c]:=by
      rw[WV,if_pos (decide_eq_true L)];rfl
     refine jX (ee.trans (decide_eq_true L)) ⟨_,rfl,zs,ah,XI yl (by decide),_,zs++[.ref ca],rfl,fun b' o e'=>?_,zc,?_⟩
     ·rw[zj (zh e' I)];exact d _ _ (s5 _ _ e')
     ·show Cel _ _ (_++[c].filter _);rw[ef];exact zgI ah (m.mono d) (d _ _ v)
    ·have ef:[c].filter (fun c=>decide (qL b n c=jU b n))=[]:=by
      rw[WV,if_neg (by rw[decide_eq_false L];decide)];rfl
     refine jE (ee.trans (decide_eq_false L)) ⟨_,zs,rfl,s5.trans d,ah,?_⟩;show Cel _ _ (_++[c].filter _);rw[ef,Xc];exact m.mono d
   ·rintro U H5 ⟨u0,zs,rfl,s5,ag,m⟩;rw[Y.length,Xz] at m;have ao:=r.trans s5;refine⟨_,rfl,_,rfl,ZA,fun t ht=>?_⟩;have d:=ze (o:=.tup [.ref y,.ref z]) ht;have ap:=ao.trans d;have al:=ai.trans ao;refine q hz t y z u zs _ (al.free ht) yn ((ai.trans r).free I) (fun e=>?_) zc (ap _ _ M) (d _ _ ag) (j.mono ap) (m.mono d) (al.trans d);subst e;rw[r _ _ M] at I;cases I
end
structure Facts (K:X5)(C SE C1 C2 C3 C4 C5 C6 C7 C8 C9:Addr)(b1 b2:Bool):Prop where
 fd:YF K C
 mro:VG K C (.ref SE)=some true
 k1:Xa K (.ref C) (.ref C1)=some b1
 k2:Xa K (.ref C) (.ref C2)=some b2
 k3:Xa K (.ref C) (.ref C3)=some false
 k4:Xa K (.ref C) (.ref C4)=some false
 k5:Xa K (.ref C) (.ref C5)=some false
 k6:Xa K (.ref C) (.ref C6)=some false
 k7:Xa K (.ref C) (.ref C7)=some false
 k8:Xa K (.ref C) (.ref C8)=some false
 k9:Xa K (.ref C) (.ref C9)=some false
 kv:Xa K (.ref C) (.type "ValueError")=some true
theorem zno:TM "ValueError"=some (.type "ValueError"):=by with_unfolding_all rfl
structure zpl (K:X5)(mg:Str->Option X9)(C0 C1 C2 C3 C4 C5 C6 C7 C8 C9:Addr):Prop where
 o0:qJ K mg "StoneError" C0
 o1:qJ K mg "TooGreat" C1
 o2:qJ K mg "NoLaying" C2
 o3:qJ K mg "NoBoard" C3
 o4:qJ K mg "NoCount" C4
 o5:qJ K mg "NoCell" C5
 o6:qJ K mg "NoText" C6
 o7:qJ K mg "NoRow" C7
 o8:qJ K mg "NoNumber" C8
 o9:qJ K mg "NoTable" C9
 fl:Facts K C2 C0 C1 C2 C3 C4 C5 C6 C7 C8 C9 false true
def zqx (C:Addr):Sp:=fun b H Q _=>∃e:Addr,b=[.ref e]/\H e=some (exO e C)/\∀a,zu H a->Q (.str "laying") a
def ziV:Sp:=fun g H Q _=>∃(p l:Addr) (b:List Str) (n:Int),g=[.ref p]/\zY H p l b n/\Rows bd.cps.toList b/\Small b/\0<=n /\
 (jU b n≠0->∀(t c d:Addr) (e f:List V) (a:Hp),H t=none->H c=none->H d=none->c≠d->a t=some (.tup [.ref c,.ref d])->a c=some (.lst e)->a d=some (.lst f)->Cel a e (clS b n)->Cel a f (stS b n)->zu H a->Q (.ref t) a)/\(jU b n=0->∀a,zu H a->Q (.str "laying") a)
section
variable {P:Xg}{w:WQ}{K:X5}{mg:Str->Option X9}{base:Heap}{f:Addr}{fd:Xo}{jai jaj jad jaa jac jab jah jaf jae jag:Addr}
theorem xr:zF ["_law_error","_law_kinds"] ["_law_error"] (zg xY):=⟨rfl,rfl,rfl,by decide +kernel,rfl,by decide +kernel,by decide +kernel⟩
theorem zdj (T:Txt mg)(U:zpl K mg jai jaj jad jaa jac jab jah jaf jae jag)(D:zm K mg "_law_outcome" xY ["_law_error"] f fd):qt P w K mg base CX0 1 f fd ["_law_error"] (zqx jad):=by
 obtain⟨aa,J,y,r,x,u,I,B,z,G,F⟩:=U;refine D.F.ok xr (fun vs H Q E h=>?_) (fun Y A L s H vs Q E hr h=>?_)
 ·obtain⟨e,rfl,_⟩:=h;rfl
 ·obtain⟨e,rfl,he,q⟩:=h;refine⟨_,(zd (zv (i:=1) xr.nd rfl (XM rfl) (qc (za (zq (qH (K:=K) (by rfl)) (by rfl) T.qe W2 (za (pvS 0) (za (jH (v:=.ref jaj) (by rfl) J.g (by exact rfl)) zb))) (za (zq (qH (K:=K) (by rfl)) (by rfl) T.qe W2 (za (pvS 0) (za (jH (v:=.ref jad) (by rfl) y.g (by exact rfl)) zb))) (za (zq (qH (K:=K) (by rfl)) (by rfl) T.qe W2 (za (pvS 0) (za (jH (v:=.ref jaa) (by rfl) r.g (by exact rfl)) zb))) zb)))))
   (zd (zv (i:=1) xr.nd rfl (XM rfl) (zx Z3 (pvS 1) (qc (za (zq (qH (K:=K) (by rfl)) (by rfl) T.qe W2 (za (pvS 0) (za (jH (v:=.ref jac) (by rfl) x.g (by exact rfl)) zb))) (za (zq (qH (K:=K) (by rfl)) (by rfl) T.qe W2 (za (pvS 0) (za (jH (v:=.ref jab) (by rfl) u.g (by exact rfl)) zb))) (za (zq (qH (K:=K) (by rfl)) (by rfl) T.qe W2 (za (pvS 0) (za (jH (v:=.ref jah) (by rfl) I.g (by exact rfl)) zb))) zb))))))
   (zd (zv (i:=1) xr.nd rfl (XM rfl) (zx Z3 (pvS 1) (qc (za (zq (qH (K:=K) (by rfl)) (by rfl) T.qe W2 (za (pvS 0) (za (jH (v:=.ref jaf) (by rfl) B.g (by exact rfl)) zb))) (za (zq (qH (K:=K) (by rfl)) (by rfl) T.qe W2 (za (pvS 0) (za (jH (v:=.ref jae) (by rfl) z.g (by exact rfl)) zb))) (za (zq (qH (K:=K) (by rfl)) (by rfl) T.qe W2 (za (pvS 0) (za (jH (v:=.ref jag) (by rfl) G.g (by exact rfl)) zb))) zb))))))
   (zd (jc (PW.pt (zfq (zG Qy (xw WZ PN PM zjz (pvS 1) (za Yv zb)) zk (zQ _)) (zez (Zf (yZ (zq (qH (K:=K) (by rfl)) (by rfl) T.qe W2 (za (pvS 0) (za (zac (v:=.ty "ValueError") (by rfl) T.ze3 zno (by rfl)) zb))) (fun _=>rfl)))))) (zf (zI qo)) zZ)
   (zf (zI (qf qV (qc (za qo (za qo (za qo zb)))) (zq (Zn rfl) (by rfl) T.zf5 U0 (za zk (za (xw WZ PySem.F.slot_list_index PySem.F.type_list_index zjA (pvS 1) (za Yv zb)) zb))) (fun _ _=>rfl)))))))),?_⟩
  refine⟨_,rfl,e,_,_,_,rfl,he,F.fd,.inl ⟨_,rfl⟩,F.k1,_,rfl,e,_,_,_,rfl,he,F.fd,.inl ⟨_,rfl⟩,F.k2,_,rfl,e,_,_,_,rfl,he,F.fd,.inl ⟨_,rfl⟩,F.k3,zk0,fun d1 k=>?_⟩;have s1:=ze (o:=.lst [.bl false,.bl true,.bl false]) k;have b:=s1 _ _ he;refine⟨_,rfl,_,rfl,e,_,_,_,rfl,b,F.fd,.inl ⟨_,rfl⟩,F.k4,_,rfl,e,_,_,_,rfl,b,F.fd,.inl ⟨_,rfl⟩,F.k5,_,rfl,e,_,_,_,rfl,b,F.fd,.inl ⟨_,rfl⟩,F.k6,zk0,fun d2 d=>⟨d1,d2,_,_,rfl,rfl,ze d _ _ zc,zc,zqa,fun d3 l=>?_⟩⟩;have N:=(s1.trans (ze (o:=.lst [.bl false,.bl false,.bl false]) d)).trans (ze (o:=.lst ([.bl false,.bl true,.bl false]++[.bl false,.bl false,.bl false])) l);have c:=N _ _ he;refine⟨_,rfl,_,rfl,e,_,_,_,rfl,c,F.fd,.inl ⟨_,rfl⟩,F.k7,_,rfl,e,_,_,_,rfl,c,F.fd,.inl ⟨_,rfl⟩,F.k8,_,rfl,e,_,_,_,rfl,c,F.fd,.inl ⟨_,rfl⟩,F.k9,zk0,fun d4 j=>⟨d3,d4,_,_,rfl,rfl,ze j _ _ zc,zc,(by show 9<=Xw;decide),fun M n=>?_⟩⟩;have O:=(N.trans (ze (o:=.lst [.bl false,.bl false,.bl false]) j)).trans (ze (o:=.lst (([.bl false,.bl true,.bl false]++[.bl false,.bl false,.bl false])++[.bl false,.bl false,.bl false])) n);have p:=O _ _ he;refine⟨_,rfl,.inl ⟨rfl,_,SqL.of zc⟩,M,[false,true,false,false,false,false,false,false,false],true,rfl,rfl,zc,rfl,_,rfl,jE (by decide) ?_⟩;refine⟨_,rfl,e,_,_,_,rfl,p,F.fd,.inr ⟨_,rfl⟩,F.kv,true,rfl,Zp ?_⟩;refine⟨zk0,fun d6 a=>⟨_,rfl,.inl ⟨rfl,_,SqL.of (ze a _ _ zc)⟩,M,[false,true,false,false,false,false,false,false,false],true,1,rfl,rfl,ze a _ _ zc,rfl,?_,by decide,_,_,rfl,d6,_,_,_,rfl,rfl,SqL.of zc,rfl,?_⟩⟩
  ·intro m hm;obtain rfl:m=0:=by lia
   rfl
  ·exact q _ (O.trans (ze a))
theorem Jh:zF ["_law_board_here","_law_found","_law_error","e"] ["_law_board_here"] (zg Yd):=⟨rfl,rfl,rfl,by decide +kernel,rfl,by decide +kernel,by decide +kernel⟩
theorem zgK (T:Txt mg)(U:zpl K mg jai jaj jad jaa jac jab jah jaf jae jag)(Z:Prog K mg)(D:zm K mg "_law_told" Yd ["_law_board_here"] f fd):qt P w K mg base CX0 11 f fd ["_law_board_here"] ziV:=by
 obtain⟨af,ae,c⟩:=Z.sure;obtain⟨ac,ab,O⟩:=Z.law_outcome;have L:=U.o0;refine D.F.ok Jh (fun vs H Q E h=>?_) (fun aa A N s H vs Q E Y h=>?_)
 ·obtain⟨p,l,x,n,rfl,_⟩:=h;rfl
 ·obtain⟨p,l,x,n,rfl,B,R,sm,n0,q,qE⟩:=h;refine⟨_,(zd (zv (i:=1) Jh.nd rfl (XM rfl) zgP)
   (zd (zv (i:=2) Jh.nd rfl (XM rfl) zgP)
   (Y8 (zot (i:=1) (j:=3) rfl rfl (znn T U.o2 Z c) (Y.mono (by decide)) (by rfl) c.g c.F.kp c.b Jh.nd rfl (XM rfl) (Vm rfl) rfl rfl (by rfl) L (za (pvS 0) zb) (fun _=>(zf (zv (i:=2) Jh.nd rfl (XM rfl) (pvS 3)))))
   (zd (jc (zG zmh (pvS 2) zgP (zQ _)) (zf (zI (pc0 (zdj T U O) Y O (za (pvS 2) zb)))) zZ)
   (zf (zI (pvS 1))))))),?_⟩
  refine⟨fun v a=>(jU x n≠0/\∃(t d k:Addr) (y z:List V),v=[some (.ref p),some (.ref t),some .non,none]/\H t=none/\H d=none/\H k=none/\d≠k/\a t=some (.tup [.ref d,.ref k])/\a d=some (.lst y)/\a k=some (.lst z)/\Cel a y (clS x n)/\Cel a z (stS x n)/\zu H a)\/(jU x n=0/\∃e:Addr,v=[some (.ref p),some .non,some (.ref e),none]/\zu H a/\a e=some (exO e jad)),?_,?_⟩
  ·refine⟨_,rfl,p,l,x,n,rfl,B,R,sm,n0,fun u t d k y z a J h1 h2 M r m o G I s1=>.inl ⟨u,t,d,k,y,z,rfl,J,h1,h2,M,r,m,o,G,I,s1⟩,fun u a s1=>⟨jad,rfl,U.fl.mro,fun e hn=>?_⟩⟩;exact⟨_,rfl,.inr ⟨u,e,rfl,s1.trans (ze hn),zc⟩⟩
  ·rintro v a (⟨u,t,d,k,y,z,rfl,J,h1,h2,M,r,m,o,G,I,s1⟩ | ⟨u,e,rfl,s1,he⟩)
   ·exact⟨_,rfl,rfl,_,rfl,jE rfl ⟨_,rfl,q u t d k y z a J h1 h2 M r m o G I s1⟩⟩
   ·exact⟨_,rfl,rfl,_,rfl,jX rfl ⟨_,rfl,e,rfl,he,fun H2 s2=>qE u H2 (s1.trans s2)⟩⟩
end
def sD (a b:List (Nat×Nat)):Wi:=.tuple [.list (a.map zp),.list (b.map zp)]
theorem zhS (a b:List (Nat×Nat)):(sD a b).canLay0=true:=by
 show (Wu (a.map zp)&&(Wu (b.map zp)&&true))=true;rw[zcG,zcG];rfl
theorem zpm (a b:List (Nat×Nat)):zb9 (sD a b) (sD a b):=⟨zhS a b,zhS a b,by
 show max (WI (a.map zp)+1) (max (WI (b.map zp)+1) 0)+1<=64;have h1:=zcH a;have h2:=zcH b;lia⟩
structure zgL (H:Hp)(t d1 d2:Addr)(c1 c2:List (Nat×Nat)):Prop where
 ht:H t=some (.tup [.ref d1,.ref d2])
 ex:∃w1 w2,H d1=some (.lst w1)/\H d2=some (.lst w2)/\Cel H w1 c1/\Cel H w2 c2
theorem zgL.mono {H e:Hp}(s:zu H e){t i j:Addr}{f g:List (Nat×Nat)}(h:zgL H t i j f g):zgL e t i j f g:=by
 obtain⟨h1,k,l,a,b,c,d⟩:=h;exact⟨s _ _ h1,k,l,s _ _ a,s _ _ b,c.mono s,d.mono s⟩
theorem zgL.rdv {K:X5}{H:Hp}{t g i:Addr}{e f:List (Nat×Nat)}(h:zgL H t g i e f):Rdv K H (.ref t) (sD e f):=by
 obtain⟨h1,j,k,a,b,c,d⟩:=h;exact .tup (SqT.of h1) (.cons (.lst (SqL.of a) (ze7 c)) (.cons (.lst (SqL.of b) (ze7 d)) .nil))
def zqy:Sp:=fun h H Q _=>∃(t d e u f g:Addr) (a b:List (Nat×Nat)),h=[.ref t,.ref u]/\zgL H t d e a b/\zgL H u f g a b/\a.length<=64/\b.length<=64/\∀c,zu H c->Q (.bl true) c
theorem zhT:zF ["_law_found","_law_due"] ["_law_found","_law_due"] (zg Qj):=⟨rfl,rfl,rfl,by decide +kernel,rfl,by decide +kernel,by decide +kernel⟩
theorem zdk (T:Txt mg)(D:zm K mg "_law_are" Qj ["_law_found","_law_due"] f fd):qt P w K mg base CX0 1 f fd ["_law_found","_law_due"] zqy:=by
 refine D.F.ok zhT (fun vs H Q E h=>?_) (fun aa A J s H vs Q E Y h=>?_)
 ·obtain⟨t,O,U,u,e1,e2,g,k,rfl,_⟩:=h;rfl
 ·obtain⟨t,O,U,u,e1,e2,g,k,rfl,M,S2,l1,l2,q⟩:=h;obtain⟨m,b,d,n,p,k1,k2⟩:=id M;have n1:=k1.length;have n2:=k2.length;refine⟨_,(zd (jc (PW.pt (zfq (Zf (yZ (zq J4 (by rfl) T.qe W2 (za (pvS 0) (za (zac (v:=.ty "tuple") (by rfl) T.ziD PL (by rfl)) zb))) (fun _=>rfl))) (zfq (zG Qy (zq zH (by rfl) T.jz WX (za (pvS 0) zb)) zk (zQ _)) (zez (Zf (yZ (zq J4 (by rfl) T.qe W2 (za (qf qP (pvS 0) zk (fun _ _=>rfl)) (za (zac (v:=.ty "list") (by rfl) T.ze4 Uk (by rfl)) zb))) (fun _=>rfl))))))) (zf (zI Yv)) zZ)
   (zd (jc (PW.pt (zfq (Zf (yZ (zq J4 (by rfl) T.qe W2 (za (qf qP (pvS 0) zk (fun _ _=>rfl)) (za (zac (v:=.ty "list") (by rfl) T.ze4 Uk (by rfl)) zb))) (fun _=>rfl))) (zez (zG (xB Y.units) (pvS 0) (pvS 1) (zQ _))))) (zf (zI Yv)) zZ)
   (zf (zI (Jx (jZ Y.units) (qh (N:=["_law_cell"]) (src:=[none]) (zR.plain rfl (by decide +kernel) (by decide +kernel) (by decide +kernel) rfl (by decide)) rfl (zM (zx Z3 (qf qP (pvS 0) zk (fun _ _=>rfl)) (qf qP (pvS 0) zk (fun _ _=>rfl)))) (fun _ _ _ _ _=>(zo (i:=0) (by show W3 (["_law_cell"]:List Str);decide +kernel) rfl (XM rfl))) (fun _ _ _ _ _=>(qg (Zf (Y9 (K:=K) (by rfl) (zq (zeH (K:=K) (by rfl)) (by rfl) T.qe W2 (za (pvS 0) (za (zac (v:=.ty "tuple") (by rfl) T.ziD PL (by rfl)) zb))) (fun _=>rfl))))) (fun _ _ _ _ _=>(pvS 0))) (qc zb) (zQ _)))))),?_⟩
  refine⟨_,rfl,_,"tuple","tuple",true,rfl,.tup m,(by decide +kernel),true,rfl,Zp ?_⟩;refine⟨_,rfl,t,_,rfl,.inr (SqT.of m),rfl,_,rfl,znv rfl ?_⟩;refine⟨_,rfl,t,_,0,_,rfl,rfl,SqT.of m,rfl,_,"list","list",true,rfl,.lst n,(by decide +kernel),true,rfl,Zp ?_⟩;refine⟨_,rfl,t,_,1,_,rfl,rfl,SqT.of m,rfl,_,"list","list",true,rfl,.lst p,(by decide +kernel),true,rfl,Zp ?_⟩;have ee:(if true=true then !PyData.eqv (sD g k) (sD g k) else W1 (sD g k) (sD g k))=false:=by
   rw[if_pos rfl,RI _ (zhS g k)];rfl
  refine⟨_,rfl,_,rfl,_,_,M.rdv,S2.rdv,zpm g k,_,rfl,jE ee ?_⟩;refine⟨_,rfl,t,_,0,_,rfl,rfl,SqT.of m,rfl,_,rfl,t,_,1,_,rfl,rfl,SqT.of m,rfl,O,U,b,d,rfl,rfl,n,p,X6 (show b.length+d.length<=128 by lia) (by decide),fun x hx=>?_⟩;have s1:=ze (o:=.lst (b++d)) hx;have kk:Cel (upd H x (.lst (b++d))) (b++d) (g++k):=(k1.mono s1).append (k2.mono s1);refine⟨x,rfl,⟨_,SqL.of zc⟩,fun z hz=>?_⟩;have I:upd H x (.lst (b++d)) x=some (.lst (b++d)):=zc;generalize upd H x (.lst (b++d))=H1 at *
  refine qj (K:=K) (a:=x) (xs:=b++d) (fun i e B=>∃L,e=[L]/\zu H1 B/\B z=some (.lst [])) ⟨_,rfl,ze hz,zc⟩ (fun i e B _ ⟨_,_,s8,_⟩=>SqL.of (s8 _ _ I)) ?_ ?_
  ·rintro j v e H2 hv ⟨L,rfl,r,l⟩;obtain⟨c,hc,ca,rfl,G⟩:=Cel.get (kk.mono r) hv;exact⟨_,rfl,_,"tuple","tuple",true,rfl,.tup G,(by decide +kernel),true,rfl,Zp ⟨_,rfl,r,l⟩⟩
  ·rintro e H2 ⟨L,rfl,r,l⟩;refine⟨JX,fun y hy=>?_⟩;have s3:=ze (o:=.lst []) hy;exact⟨.list [],.list [],.lst (SqL.of (s3 _ _ l)) .nil,.lst (SqL.of zc) .nil,⟨rfl,rfl,by decide⟩,q _ (s1.trans (r.trans s3))⟩
theorem Qu {H b:Hp}(s:zu H b){v:V}{c:Nat×Nat}(h:Jf H v c):Jf b v c:=let ⟨a,e,h⟩:=h;⟨a,e,s _ _ h⟩
def lk1 (k:List (Int×Int)):Wi:=.list (k.map pD)
theorem zgM {N:Addr->Prop}{H:Hp}{b:List V}{k:List (Int×Int)}(h:xu H b k):zC N H b (k.map pD):=by
 induction h with
 | nil=>exact .nil
 | cons h _ c =>
  obtain⟨a,rfl,h⟩:=h;exact .cons (.tup h (.cons (.int _) (.cons (.int _) .nil))) c
theorem zj5 {K:X5}{N:Addr->Prop}{H:Hp}{b:List V}{ks:List (List (Int×Int))}(h:jB N H b ks):xA K H b (ks.map lk1):=by
 induction h with
 | nil=>exact .nil
 | cons h _ c =>
  obtain⟨a,d,rfl,_,h1,h2⟩:=h;exact .cons (.lst (SqL.of h1) (zaI h2)) c
theorem zpn (ks:List (List (Int×Int))):Wu (ks.map lk1)=true:=by
 induction ks with
 | nil=>rfl
 | cons k r a =>
  show (Wu (k.map pD)&&Wu (r.map lk1))=true;rw[zcJ,a];rfl
theorem zpo (ks:List (List (Int×Int))):WI (ks.map lk1)<=2:=by
 induction ks with
 | nil=>exact W5 _
 | cons k r a =>
  show max (WI (k.map pD)+1) (WI (r.map lk1))<=2;have:=zgd k;lia
theorem zhU (ks:List (List (Int×Int))):zb9 (.list (ks.map lk1)) (.list []):=⟨zpn ks,rfl,by
 show WI (ks.map lk1)+1<=64;have:=zpo ks;lia⟩
theorem zbp (ks:List (List (Int×Int))):(if false=true then !PyData.eqv (.list (ks.map lk1)) (.list []) else W1 (.list (ks.map lk1)) (.list []))=ks.isEmpty:=by
 cases ks<;>rfl
theorem znp {α:Type}(p:α->Bool)(l:List α):(l.filter p).length+(l.filter fun x=>!p x).length=l.length:=by
 induction l with
 | nil=>rfl
 | cons a r b =>
  rw[WV,WV];cases p a<;>simp<;>lia
theorem Qv {α:Type}(l:List α):l.isEmpty=decide (((l.length:Nat):Int)=0):=by
 cases l with
 | nil=>rfl
 | cons a r =>
  symm;exact decide_eq_false (by rw[Xr];lia)
theorem ziW:zb9 (.str "laying") (.str "laying"):=⟨by decide +kernel,by decide +kernel,by decide +kernel⟩
def zqz:Sp:=fun c H Q _=>∃(l:Addr) (b:List Str) (st:Int),c=[.ref l,.int st]/\H l=some (.lst (b.map V.str))/\Brd b/\0<=st/\st<=64/\∀a,zu H a->Q (.bl true) a
def ziX (K:X5):Sp:=fun d H Q _=>∃(a:Addr) (b:List Int),d=[.ref a]/\SqL K H a (b.map V.int)/\b.length<=63/\∀c,Q (.bl true) c
section
variable {P:Xg}{w:WQ}{K:X5}{mg:Str->Option X9}{base:Heap}{f:Addr}{fd:Xo}{jai jaj jad jaa jac jab jah jaf jae jag:Addr}
theorem yN:zF ["_law_texts_here","_law_stones","_law_board_here","_law_fitting","_law_cells","_law_clear","_law_due","_law_found"] ["_law_texts_here","_law_stones"] (zg Qk):=⟨rfl,rfl,rfl,by decide +kernel,rfl,by decide +kernel,by decide +kernel⟩
theorem zhV (T:Txt mg)(U:zpl K mg jai jaj jad jaa jac jab jah jaf jae jag)(Z:Prog K mg)(D:zm K mg "_law_one" Qk ["_law_texts_here","_law_stones"] f fd):qt P w K mg base CX0 12 f fd ["_law_texts_here","_law_stones"] zqz:=by
 obtain⟨bI,bH,QM⟩:=Z.law_layings;obtain⟨bK,bJ,aT⟩:=Z.law_closed;obtain⟨b1,b0,JW⟩:=Z.law_told;obtain⟨bN,bM,Qw⟩:=Z.law_are;have Yu:qt P w K mg base CX0 11 b1 b0 ["_law_board_here"] ziV:=zgK T U Z JW;refine D.F.ok yN (fun vs H Q E h=>?_) (fun bD A bt s H vs Q E r h=>?_)
 ·obtain⟨l,g,st,rfl,_⟩:=h;rfl
 ·obtain⟨l,g,st,rfl,hl,B,L,bF,q⟩:=h;obtain⟨n,n1,n5,aG⟩:=B.ex;have W:Wide g n:=⟨n1,n5,aG⟩;have R:=B.rows;have sm:Small g:=zlz (X6 B.sh (by decide));have sl:(zP g).length<=64:=qR (p:=qG) R;refine⟨_,(zd (zv (i:=2) yN.nd rfl (XM rfl) (jy (za (jm zal (by rfl) T.ze4 Uk (za (pvS 0) zb)) (za (pvS 1) zb))))
   (zd (zv (i:=3) yN.nd rfl (Vm rfl) (pc0 (zdf T Z QM) r QM (za (pvS 0) (za (pvS 1) zb))))
   (zd (jc (zG (jZ r.units) (pvS 3) (qc zb) (zQ _)) (zf (zI (zgQ (Jx (jZ r.units) (pc0 Yu r JW (za (pvS 2) zb)) qo (zQ _)) (zgQ (Jx (jZ r.units) (pc0 Yu r JW (za (pvS 2) zb)) qo (zQ _)) (zj7 (Jx (jZ r.units) (pvS 2) (jy (za (pvS 0) (za (pvS 1) zb))) (zQ _))))))) zZ)
   (zd (zv (i:=4) yN.nd rfl (XM rfl) (pc0 (zdC T aT) r aT (za (pvS 0) zb)))
   (zd (zkB (i:=5) yN.nd rfl rfl (N:=["_law_cell","_law_fitting"]) (src:=[none,some 3]) (xU.byRfl (y:="_law_cell") rfl (fun _ _=>rfl) (fun _=>rfl) (by decide +kernel) (by decide +kernel) (by rfl) rfl (by rfl)) rfl (zM (pvS 4)) (fun _ _ _ _ _=>(zo (i:=0) (by show W3 (["_law_cell","_law_fitting"]:List Str);decide +kernel) rfl (Vm rfl))) (fun _ _ _ _ _=>(qg (zG (Jb (K:=K) (by rfl) r.units) (qh (N:=["_law_one_here","_law_cell"]) (src:=[none,some 0]) (zR.byRfl rfl (by decide +kernel) (by decide +kernel) (by rfl) rfl (by rfl)) (by rfl) (zan (K:=K) (by rfl) (pvS 1)) (fun _ _ _ _ _=>(zo (i:=0) (by show W3 (["_law_one_here","_law_cell"]:List Str);decide +kernel) rfl (XM rfl))) (fun _ _ _ _ _=>(qg (zG (j3 (K:=K) (by rfl) r.units) (pvS 1) (pvS 0) (by rfl)))) (fun _ _ _ _ _=>(pvS 0))) (qc zb) (zQ _)))) (fun _ _ _ _ _=>(pvS 0)))
   (zd (zv (i:=6) yN.nd rfl (XM rfl) (jy (za (pvS 5) (za (zfC (N:=["_law_cell","_law_fitting"]) (src:=[none,some 3]) (xU.byRfl (y:="_law_cell") rfl (fun _ _=>rfl) (fun _=>rfl) (by decide +kernel) (by decide +kernel) (by rfl) rfl (by rfl)) rfl (zM (pvS 4)) (fun _ _ _ _ _=>(zo (i:=0) (by show W3 (["_law_cell","_law_fitting"]:List Str);decide +kernel) rfl (Vm rfl))) (fun _ _ _ _ _=>(qg (zG (Jb (K:=K) (by rfl) r.units) (qh (N:=["_law_one_here","_law_cell"]) (src:=[none,some 0]) (zR.byRfl rfl (by decide +kernel) (by decide +kernel) (by rfl) rfl (by rfl)) (by rfl) (zan (K:=K) (by rfl) (pvS 1)) (fun _ _ _ _ _=>(zo (i:=0) (by show W3 (["_law_one_here","_law_cell"]:List Str);decide +kernel) rfl (XM rfl))) (fun _ _ _ _ _=>(qg (zG (zcc (K:=K) (by rfl) r.units) (pvS 1) (pvS 0) (by rfl)))) (fun _ _ _ _ _=>(pvS 0))) (qc zb) (zQ _)))) (fun _ _ _ _ _=>(pvS 0))) zb))))
   (zd (zv (i:=7) yN.nd rfl (XM rfl) (pc0 Yu r JW (za (pvS 2) zb)))
   (zd (jc (Zf (yZ (pc0 (zdk T Qw) r Qw (za (pvS 7) (za (pvS 6) zb))) (fun _=>rfl))) (zf (zI Yv)) zZ)
   (zd (yk (xw WZ Wq Wp jw (qf qP (pvS 7) zk (fun _ _=>rfl)) (za qo zb)))
   (zd (jc (zG (xB r.units) (qf qP (pvS 7) zk (fun _ _=>rfl)) (qf qP (pvS 6) zk (fun _ _=>rfl)) (zQ _)) (zf (zI Yv)) zZ)
   (zd (yk (zog WZ PySem.F.slot_list_clear PySem.F.type_list_clear zkg (qf qP (pvS 7) zk (fun _ _=>rfl))))
   (zf (zI (zgQ (pc0 (zdk T Qw) r Qw (za (pc0 Yu r JW (za (pvS 2) zb)) (za (pvS 6) zb))) (zj7 (Jx (jZ r.units) (pvS 2) (jy (za (pvS 0) (za (pvS 1) zb))) (zQ _))))))))))))))))),?_⟩
  refine⟨_,rfl,l,_,rfl,.inl (SqL.of hl),fun l2 bf=>⟨_,rfl,ZA,fun h hh=>?_⟩⟩;have z1:=ze (o:=.lst (g.map V.str)) bf;have z2:=ze (o:=.tup [.ref l2,.int st]) hh;have BH:zY (upd (upd H l2 (.lst (g.map V.str))) h (.tup [.ref l2,.int st])) h l2 g st:=⟨zc,z2 _ _ zc⟩;have a3:=z1.trans z2;generalize upd (upd H l2 (.lst (g.map V.str))) h (.tup [.ref l2,.int st])=H2 at *
  have aa:=a3 _ _ hl;have eb:(if false=true then !PyData.eqv (bData g st) (bData g st) else W1 (bData g st) (bData g st))=true:=RI _ (R.cmpB st).l1;refine⟨_,rfl,_,rfl,l,g,n,st,rfl,aa,B,W,fun fa us N H3 bE b2 aB s3=>?_⟩;have ul:=jo aB;have ea:=zlU W L;have bG:us.length<=1024:=by
   rw[ul];unfold xy;rw[Y1];refine X6 (Xm _ _) ?_;rw[zbl,W6];refine X6 (Wa (by decide) (show (jx g n).length<=10 from ?_)) (by decide);have h1:=B.sh;rw[<- zdc W,Y1] at h1;exact h1
  refine⟨_,rfl,JX,fun t0 bh=>?_⟩;have z4:=ze (o:=.lst []) bh;have ah:=s3.trans z4;have ai:=z4 _ _ b2;have aC:=qd z4 aB;refine⟨.list ((xy g n st).map lk1),.list [],.lst (SqL.of ai) (zj5 aC),.lst (SqL.of zc) .nil,zhU _,_,rfl,?_⟩;generalize upd H3 t0 (.lst [])=H4 at *
  have ao:=BH.mono ah;by_cases hz:jU g st=0
  ·have e0:(xy g n st).isEmpty=true:=by
    rw[Qv,ea];exact decide_eq_true hz
   refine jX ((zbp _).trans e0) ?_;refine⟨_,rfl,h,l2,g,st,rfl,ao,R,sm,L,fun h'=>absurd hz h',fun _ H5 s5=>?_⟩;refine⟨.str "laying",.str "laying",.str _,.str _,ziW,true,rfl,YD ?_⟩;refine⟨_,rfl,h,l2,g,st,rfl,ao.mono s5,R,sm,L,fun h'=>absurd hz h',fun _ H6 s6=>?_⟩;refine⟨.str "laying",.str "laying",.str _,.str _,ziW,true,rfl,YD ?_⟩;have bv:=s5.trans s6;refine⟨_,rfl,_,rfl,_,rfl,ZA,fun tq ay=>?_⟩;have z7:=ze (o:=.tup [.ref l,.int st]) ay;have aR:=bv.trans z7;have aP:=ah.trans aR;have BL:zY (upd H6 tq (.tup [.ref l,.int st])) tq l g st:=⟨zc,aP _ _ aa⟩;refine⟨_,_,zY.rdv (ao.mono aR),zY.rdv BL,R.cmpB st,?_⟩;rw[eb];exact q _ (a3.trans aP)
  ·have e0:(xy g n st).isEmpty=false:=by
    rw[Qv,ea];exact decide_eq_false hz
   refine jE ((zbp _).trans e0) ?_;refine⟨_,rfl,l,g,rfl,ah _ _ aa,R,fun d wd H5 hd ar aq s5=>?_⟩;have aj:=s5 _ _ ai;have aD:=qd s5 aC;have wl:=aq.length;refine⟨_,rfl,d,rfl,⟨_,SqL.of ar⟩,fun z bm=>?_⟩;refine qz (K:=K) (a:=d) (xs:=wd) (fun a=>a≠z) ((zP g).map fun c=>if ((xy g n st).filter (xG c)).isEmpty=true then some (zp c) else none) (fun σ=>∃u0,σ=[u0,some (.ref fa)]) bm (fun _ h=>h) ⟨_,rfl⟩ (by rw[Y1];exact wl.symm) (by lia) (SqL.of ar) ?_ ?_
   ·rintro i x o σ H6 hx ho s6 _ ⟨u0,rfl⟩ Y Z' a7 no;obtain⟨c,hc,rc⟩:=Cel.get (aq.mono s6) hx;have eo:=yy hc ho;have O:=s6 _ _ aj;refine⟨_,rfl,fa,rfl,⟨_,SqL.of O⟩,fun z5 ae=>?_⟩;refine qz (K:=K) (a:=fa) (xs:=us) (fun a=>a≠z5) ((xy g n st).map fun k=>if xG c k=true then some (lk1 k) else none) (fun σ=>∃u0,σ=[u0,some x]) ae (fun _ h=>h) ⟨_,rfl⟩ (by rw[Y1];exact ul.symm) (by lia) (SqL.of O) ?_ ?_
    ·rintro m v o2 σ H7 hv av J _ ⟨u1,rfl⟩ Y2 Z2 af a2;obtain⟨k,a1,wa,au,rfl,_,u,t1⟩:=ZP (qd s6 aD) hv;have j:=yy au av;refine⟨_,rfl,_,rfl,zp c,k.map pD,Jf.rdv (Qu J rc),.lst (SqL.of (J _ _ u)) (zaI (jS J t1)),rfl,zcJ _,(by show 1<=60;decide),_,rfl,?_⟩;have ei:(if false=true then !(k.map pD).any (fun z=>W1 z (zp c)) else (k.map pD).any fun z=>W1 z (zp c))=xG c k:=zht k c;by_cases hh:xG c k=true
     ·rw[if_pos hh] at j;exact jX (ei.trans hh) ⟨_,rfl,af _ _ _ _ j ⟨_,rfl⟩ (zu.refl _) (.lst (zh u ae) (J _ _ u) (zgM (jS J t1)))⟩
     ·rw[if_neg hh] at j;exact jE (ei.trans (XB.mpr hh)) (a2 _ _ j ⟨_,rfl⟩ (zu.refl _))
    ·rintro ys H7 J bn ab;rw[qq] at ab;refine⟨JX,fun t1 ax=>?_⟩;have z8:=ze (o:=.lst []) ax;refine⟨_,.list [],.lst (SqL.of (z8 _ _ bn)) (ab.keep z8).rdv,.lst (SqL.of zc) .nil,zhU _,_,rfl,?_⟩;have a5:=J.trans z8;by_cases hp:((xy g n st).filter (xG c)).isEmpty=true
     ·rw[if_pos hp] at eo;exact jX ((zbp _).trans hp) ⟨_,rfl,a7 _ _ _ _ eo ⟨_,rfl⟩ a5 (Jf.rdn (Qu a5 rc))⟩
     ·rw[if_neg hp] at eo;exact jE ((zbp _).trans (XB.mpr hp)) (no _ _ eo ⟨_,rfl⟩ a5)
   rintro yc H6 s6 bi aw;rw[qq] at aw;have aX:(zP g).filter (fun c=>((xy g n st).filter (xG c)).isEmpty)=clS g st:=VQ fun c _=>by
    rw[Qv,ziR W L c]
   rw[aX] at aw;have bq:=zC.cel aw;have O:=s6 _ _ aj;have aE:=s6 _ _ ar;have aZ:=qd s6 aD;have ba:=aq.mono s6;refine⟨_,rfl,_,rfl,d,rfl,⟨_,SqL.of aE⟩,fun zz bp=>?_⟩;refine qz (K:=K) (a:=d) (xs:=wd) (fun a=>a≠zz) ((zP g).map fun c=>if ((xy g n st).filter fun k=>!xG c k).isEmpty=true then some (zp c) else none) (fun σ=>∃u0,σ=[u0,some (.ref fa)]) bp (fun _ h=>h) ⟨_,rfl⟩ (by rw[Y1];exact wl.symm) (by lia) (SqL.of aE) ?_ ?_
   ·rintro i x o σ H7 hx ho J _ ⟨u0,rfl⟩ Y Z' a7 no;obtain⟨c,hc,rc⟩:=Cel.get (ba.mono J) hx;have eo:=yy hc ho;have ak:=J _ _ O;refine⟨_,rfl,fa,rfl,⟨_,SqL.of ak⟩,fun z5 ae=>?_⟩;refine qz (K:=K) (a:=fa) (xs:=us) (fun a=>a≠z5) ((xy g n st).map fun k=>if (!xG c k)=true then some (lk1 k) else none) (fun σ=>∃u0,σ=[u0,some x]) ae (fun _ h=>h) ⟨_,rfl⟩ (by rw[Y1];exact ul.symm) (by lia) (SqL.of ak) ?_ ?_
    ·rintro m v o2 σ H8 hv av s8 _ ⟨u1,rfl⟩ Y2 Z2 af a2;obtain⟨k,a1,wa,au,rfl,_,u,t1⟩:=ZP (qd J aZ) hv;have j:=yy au av;refine⟨_,rfl,_,rfl,zp c,k.map pD,Jf.rdv (Qu s8 rc),.lst (SqL.of (s8 _ _ u)) (zaI (jS s8 t1)),rfl,zcJ _,(by show 1<=60;decide),_,rfl,?_⟩;have ei:(if true=true then !(k.map pD).any (fun z=>W1 z (zp c)) else (k.map pD).any fun z=>W1 z (zp c))=!xG c k:=congrArg (fun b=>!b) (zht k c);by_cases hh:(!xG c k)=true
     ·rw[if_pos hh] at j;exact jX (ei.trans hh) ⟨_,rfl,af _ _ _ _ j ⟨_,rfl⟩ (zu.refl _) (.lst (zh u ae) (s8 _ _ u) (zgM (jS s8 t1)))⟩
     ·rw[if_neg hh] at j;exact jE (ei.trans (XB.mpr hh)) (a2 _ _ j ⟨_,rfl⟩ (zu.refl _))
    ·rintro ys H8 s8 bo aF;rw[qq] at aF;refine⟨JX,fun t1 ax=>?_⟩;have z9:=ze (o:=.lst []) ax;refine⟨_,.list [],.lst (SqL.of (z9 _ _ bo)) (aF.keep z9).rdv,.lst (SqL.of zc) .nil,zhU _,_,rfl,?_⟩;have a6:=s8.trans z9;by_cases hp:((xy g n st).filter fun k=>!xG c k).isEmpty=true
     ·rw[if_pos hp] at eo;exact jX ((zbp _).trans hp) ⟨_,rfl,a7 _ _ _ _ eo ⟨_,rfl⟩ a6 (Jf.rdn (Qu a6 rc))⟩
     ·rw[if_neg hp] at eo;exact jE ((zbp _).trans (XB.mpr hp)) (no _ _ eo ⟨_,rfl⟩ a6)
   rintro ye H7 J bj ab;rw[qq] at ab;have aY:(zP g).filter (fun c=>((xy g n st).filter fun k=>!xG c k).isEmpty)=stS g st:=VQ fun c _=>by
    rw[Qv];have h1:=ziR W L c;have h2:=znp (xG c) (xy g n st);exact decide_eq_decide.mpr (by lia)
   rw[aY] at ab;have br:=zC.cel ab;refine⟨ZA,fun du be=>?_⟩;have z8:=ze (o:=.tup [.ref z,.ref zz]) be;have SD:zgL (upd H7 du (.tup [.ref z,.ref zz])) du z zz (clS g st) (stS g st):=⟨zc,yc,ye,z8 _ _ (J _ _ bi),z8 _ _ bj,(bq.mono J).mono z8,br.mono z8⟩;have aQ:=ah.trans (s5.trans (s6.trans (J.trans z8)));generalize upd H7 du (.tup [.ref z,.ref zz])=H8 at *
   have l1:(clS g st).length<=64:=X6 (Xm _ _) sl;have aM:(stS g st).length<=64:=X6 (Xm _ _) sl;have ap:=BH.mono aQ;refine⟨_,rfl,h,l2,g,st,rfl,ap,R,sm,L,fun _ t d1 d2 w1 w2 H9 ht bb bc bg ag a9 aA aH aJ s9=>?_,fun h'=>absurd h' hz⟩;refine⟨_,rfl,_,rfl,t,d1,d2,du,z,zz,_,_,rfl,⟨ag,w1,w2,a9,aA,aH,aJ⟩,SD.mono s9,l1,aM,fun ac I=>⟨true,rfl,Zp ?_⟩⟩;have M:=I _ _ a9;refine⟨_,rfl,t,_,0,_,rfl,rfl,SqT.of (I _ _ ag),rfl,.inl ⟨rfl,_,SqL.of M⟩,d1,w1,_,rfl,rfl,M,XI (show w1.length<=64 by rw[aH.length];exact l1) (by decide),?_⟩;have aS:=s9.trans I;have aN:zu H8 (upd ac d1 (.lst (w1++[.str "more"]))):=fun b o e=>by
    rw[zj (zh e bb)];exact aS _ _ e
   have al:upd ac d1 (.lst (w1++[.str "more"])) t=some (.tup [.ref d1,.ref d2]):=by
    rw[zj (zb4 (I _ _ ag) M (by intro y;cases y))];exact I _ _ ag
   have G:upd ac d1 (.lst (w1++[.str "more"])) d2=some (.lst w2):=by
    rw[zj (U9 bg)];exact I _ _ aA
   have aI:Cel (upd ac d1 (.lst (w1++[.str "more"]))) w2 (stS g st):=yR (yS M (Cel.tup2 (aJ.mono I)));generalize upd ac d1 (.lst (w1++[.str "more"]))=H11 at *
   obtain⟨a8,bA,bB,b8,az,b9,aK⟩:=SD.mono aN;have ec:(if true=true then !PyData.eqv (.list ((stS g st).map zp)) (.list ((stS g st).map zp)) else W1 (.list ((stS g st).map zp)) (.list ((stS g st).map zp)))=false:=by
    rw[if_pos rfl,g_same];rfl
   refine⟨_,rfl,t,_,1,_,rfl,rfl,SqT.of al,rfl,_,rfl,du,_,1,_,rfl,rfl,SqT.of a8,rfl,.list ((stS g st).map zp),.list ((stS g st).map zp),.lst (SqL.of G) (ze7 aI),.lst (SqL.of az) (ze7 aK),zoR _ _,_,rfl,jE ec ?_⟩;refine⟨_,rfl,t,_,1,_,rfl,rfl,SqT.of al,rfl,.inl ⟨rfl,_,SqL.of G⟩,d2,w2,rfl,rfl,G,?_⟩;have a4:zu H8 (upd H11 d2 (.lst [])):=fun b o e=>by
    rw[zj (zh e bc)];exact aN _ _ e
   generalize upd H11 d2 (.lst [])=H12 at *
   refine⟨_,rfl,h,l2,g,st,rfl,ap.mono a4,R,sm,L,fun _ t' aV aW bw bx bC _ _ _ _ b3 b4 b5 b6 b7 aO=>?_,fun h'=>absurd h' hz⟩;refine⟨_,rfl,t',aV,aW,du,z,zz,_,_,rfl,⟨b3,bw,bx,b4,b5,b6,b7⟩,SD.mono (a4.trans aO),l1,aM,fun aU bu=>⟨true,rfl,YD ?_⟩⟩;refine⟨_,rfl,_,rfl,_,rfl,ZA,fun tq ay=>?_⟩;have bz:=ze (o:=.tup [.ref l,.int st]) ay;have an:=(a4.trans (aO.trans bu)).trans bz;have am:=aQ.trans an;have BL:zY (upd aU tq (.tup [.ref l,.int st])) tq l g st:=⟨zc,am _ _ aa⟩;refine⟨_,_,zY.rdv (ap.mono an),zY.rdv BL,R.cmpB st,?_⟩;rw[eb];exact q _ (a3.trans am)
theorem zfn:zF ["_law_script","_law_k","_law_texts_here","_law_stones"] ["_law_script"] (zg zf2):=⟨rfl,rfl,rfl,by decide +kernel,rfl,by decide +kernel,by decide +kernel⟩
theorem zpq (T:Txt mg)(z:qJ K mg "StoneError" jai)(G:qJ K mg "TooGreat" jaj)(o:qJ K mg "NoLaying" jad)(j:qJ K mg "NoBoard" jaa)(m:qJ K mg "NoCount" jac)(k:qJ K mg "NoCell" jab)(y:qJ K mg "NoText" jah)(u:qJ K mg "NoRow" jaf)(r:qJ K mg "NoNumber" jae)(v:qJ K mg "NoTable" jag)
  (FL:Facts K jad jai jaj jad jaa jac jab jah jaf jae jag false true) (Z:Prog K mg) (D:zm K mg "law" zf2 ["_law_script"] f fd):qt P w K mg base CX0 13 f fd ["_law_script"] (ziX K):=by
 obtain⟨yG,yi,zK⟩:=Z.law_cell_at;obtain⟨ac,ae,d⟩:=Z.law_board;obtain⟨ag,af,e⟩:=Z.law_one;refine D.F.ok zfn (fun vs H Q E h=>?_) (fun ab A J s H vs Q E g h=>?_)
 ·obtain⟨a,I,rfl,_⟩:=h;rfl
 ·obtain⟨a,I,rfl,Y,aa,q⟩:=h;refine⟨_,(zd (qw W7 rfl (qN (by rfl) T.ji (za (zx qa zk (zx qY (zx qO (pc0 (yf T zK) g zK (za (pvS 0) (za zk zb))) zk) zk)) zb)) (zo (i:=1) zfn.nd rfl (XM rfl)) (zd (zb6 (pc0 (zfj T Z d) g d (za (pvS 0) (za (zx yI zk (pvS 1)) zb))) (JJ rfl (zV (zo (i:=2) zfn.nd rfl (XM rfl)) (zV (zo (i:=3) zfn.nd rfl (XM rfl)) yp))))
   (zf (jc (Zf (yZ (pc0 (zhV T ⟨z,G,o,j,m,k,y,u,r,v,FL⟩ Z e) g e (za (pvS 2) (za (pvS 3) zb))) (fun _=>rfl))) (zf (zI Yv)) zZ))))
   (zf (zI Yv))),?_⟩
  refine⟨_,rfl,a,I,_,rfl,Y,by decide,fun c=>⟨_,_,rfl,rfl,yO.small (by decide) (by decide),_,_,rfl,rfl,(by show (0:Int)<3;decide),_,_,rfl,rfl,?_⟩⟩;obtain⟨x0,x1⟩:=Yr (x:=c/704) (M:=3) (by decide);refine⟨_,rfl,by lia,by lia,?_⟩;refine qD (lo:=0) (n:=(1+c/704%3).toNat) (fun i U H'=>∃(L N O:Option V),U=[some (.ref a),L,N,O]/\zu H H') ⟨_,_,_,rfl,zu.refl _⟩ ?_ ?_
  ·rintro i U H1 hi ⟨L,N,O,rfl,s1⟩;refine⟨_,rfl,_,rfl,_,_,rfl,rfl,zdm (by lia) (by lia),a,I,_,rfl,s1.seq Y,by lia,fun p l rs b H2 B Br b0 b1 s2=>?_⟩;refine⟨p,_,rfl,SqT.of B.tp,rfl,_,_,rfl,_,_,rfl,rfl,?_⟩;refine⟨_,rfl,_,rfl,l,rs,b,rfl,B.rw,Br,b0,b1,fun H3 s3=>⟨true,rfl,Zp ?_⟩⟩;exact⟨_,_,_,rfl,s1.trans (s2.trans s3)⟩
  ·rintro U H1 ⟨L,N,O,rfl,s1⟩;exact q _
end
theorem all_mk {l:Pp}{w:WQ}{K:X5}{h:Heap}{mg:Str->Option X9}{fa:Addr}{N:Tok}{O:Tok}{Q:Tok}{p:Addr}{q:Addr}{b:Addr}{d:Addr}{i:Addr}{g:Addr}{o:Addr}{m:Addr}{j:Addr}{n:Addr}(X:K.In h)(G:h.Ns XR mg)(r:mg "law"=some (.ref fa))
  (Q3:HasDef K "closed" ZE)
  (Jo:HasDef K "open_cells" qy)
  (Q4:HasDef K "around" j9)
  (JZ:HasDef K "number_at" yb)
  (ZW:HasDef K "cells_of" qF)
  (YX:HasDef K "sign_at" qQ)
  (aC:HasDef K "parts" zbZ)
  (Q5:HasDef K "joined" ZF)
  (aT:HasDef K "far" zf1)
  (Jp:HasDef K "numbers_of" jJ)
  (Jq:HasDef K "bare_wrong" yu)
  (yH:HasDef K "closed_around" qS)
  (yV:HasDef K "part_layings" qK)
  (ZX:HasDef K "needs_at" yL)
  (YY:HasDef K "may_fit" xD)
  (xK:HasDef K "part_counts" xW)
  (YZ:HasDef K "counted" JH)
  (Jr:HasDef K "counted_at" xj)
  (Y0:HasDef K "choices" Qh)
  (Q6:HasDef K "poured" zaD)
  (xM:HasDef K "near_counts" yD)
  (aD:HasDef K "count" zb0)
  (yj:HasDef K "counts_by_cell" jb)
  (Js:HasDef K "all_poured" JA)
  (aE:HasDef K "dealt" zaE)
  (ZY:HasDef K "fraction" Yb)
  (jG:HasDef K "greatest_divisor" jg)
  (Q7:HasDef K "shares" YQ)
  (Jt:HasDef K "some_count" JB)
  (aH:HasDef K "sure" zba)
  (xN:HasDef K "_law_cell_at" xX)
  (ZZ:HasDef K "_law_near" Yc)
  (J0:HasDef K "_law_signs" J9)
  (J1:HasDef K "_law_texts" Jd)
  (Y4:HasDef K "_law_dug" Qi)
  (J2:HasDef K "_law_board" Je)
  (xO:HasDef K "_law_numbers" yE)
  (Z0:HasDef K "_law_fits" JT)
  (xP:HasDef K "_law_choices" yF)
  (xQ:HasDef K "_law_layings" jQ)
  (Ju:HasDef K "_law_closed" JC)
  (xR:HasDef K "_law_outcome" xY)
  (Z1:HasDef K "_law_told" Yd)
  (Y5:HasDef K "_law_are" Qj)
  (Y6:HasDef K "_law_one" Qk)
  (aU:HasDef K "law" zf2)
  (Jv:XQ K XR "ValueError"=some none)
  (aV:XQ K XR "any"=some none)
  (aI:XQ K XR "dict"=some none)
  (Q8:XQ K XR "divmod"=some none)
  (J3:XQ K XR "enumerate"=some none)
  (aK:XQ K XR "int"=some none)
  (Jw:XQ K XR "isinstance"=some none)
  (aM:XQ K XR "len"=some none)
  (aJ:XQ K XR "list"=some none)
  (aN:XQ K XR "max"=some none)
  (aO:XQ K XR "min"=some none)
  (aF:XQ K XR "range"=some none)
  (aP:XQ K XR "set"=some none)
  (Q9:XQ K XR "sorted"=some none)
  (aQ:XQ K XR "str"=some none)
  (aR:XQ K XR "sum"=some none)
  (aG:XQ K XR "tuple"=some none)
  (aS:XQ K XR "zip"=some none)
  (xT:XQ K XR "CLOSED_SIGN"=some (some (.str "?" N)))
  (yW:XQ K XR "MOST_OF_PART"=some (some (.int 14 O)))
  (yX:XQ K XR "NO_CELL_SIGN"=some (some (.str "#" Q)))
  (L:XQ K XR "StoneError"=some (some (.ref p)))
  (ah:WC K p Jm "ValueError.__new__"=true)
  (M:XQ K XR "TooGreat"=some (some (.ref q)))
  (ai:WC K q Jm "ValueError.__new__"=true)
  (a9:XQ K XR "NoLaying"=some (some (.ref b)))
  (ab:WC K b Jm "ValueError.__new__"=true)
  (a6:XQ K XR "NoBoard"=some (some (.ref d)))
  (U:WC K d Jm "ValueError.__new__"=true)
  (a8:XQ K XR "NoCount"=some (some (.ref i)))
  (aa:WC K i Jm "ValueError.__new__"=true)
  (a7:XQ K XR "NoCell"=some (some (.ref g)))
  (Y:WC K g Jm "ValueError.__new__"=true)
  (J:XQ K XR "NoText"=some (some (.ref o)))
  (ag:WC K o Jm "ValueError.__new__"=true)
  (aB:XQ K XR "NoRow"=some (some (.ref m)))
  (ae:WC K m Jm "ValueError.__new__"=true)
  (aA:XQ K XR "NoNumber"=some (some (.ref j)))
  (ac:WC K j Jm "ValueError.__new__"=true)
  (I:XQ K XR "NoTable"=some (some (.ref n)))
  (af:WC K n Jm "ValueError.__new__"=true)
  (aj:VO K (.ref b) "__getattribute__"=some (some (.builtin "BaseException.__getattribute__")))
  (ak:VO K (.ref b) "__getattr__"=some none)
  (u:VO K (.ref b) "__class__"=some (some (.builtin "object.__class__")))
  (x:VG K b (.type "BaseException")=some true)
  (y:VG K b (.type "object")=some true)
  (z:To K b=true)
  (A:VG K b (.ref p)=some true)
  (B:Xa K (.ref b) (.ref q)=some false)
  (E:Xa K (.ref b) (.ref b)=some true)
  (H:Xa K (.ref b) (.ref d)=some false)
  (al:Xa K (.ref b) (.ref i)=some false)
  (am:Xa K (.ref b) (.ref g)=some false)
  (ao:Xa K (.ref b) (.ref o)=some false)
  (ap:Xa K (.ref b) (.ref m)=some false)
  (aq:Xa K (.ref b) (.ref j)=some false)
  (ar:Xa K (.ref b) (.ref n)=some false)
  (au:Xa K (.ref b) (.type "ValueError")=some true) :
  ∃fd:Xo,(∀(s:X8) (v:X9),Ov s fd ⟨[v],[]⟩ [("_law_script",v)])/\∀base:Heap,K.In base->base.Ns XR mg->qt l.prog w K mg base CX0 13 fa fd ["_law_script"] (ziX K):=by
 obtain⟨f,oc,od,an,sl,kV,dc,pm,cd,ct,a,l0,c,k⟩:=aU;have e:=r.symm.trans (Wj X G a);cases e;have T:Txt mg:=⟨WO X G Jv,WO X G aV,WO X G aI,WO X G Q8,WO X G J3,WO X G aK,WO X G Jw,WO X G aM,WO X G aJ,WO X G aN,WO X G aO,WO X G aF,WO X G aP,WO X G Q9,WO X G aQ,WO X G aR,WO X G aG,WO X G aS,⟨_,Wj X G xT⟩,⟨_,Wj X G yW⟩,⟨_,Wj X G yX⟩⟩;have Z:Prog K mg:=⟨Q3.at X G (fun _ _ _ _ _ _=>us1 fun _=>rfl),Jo.at X G (fun _ _ _ _ _ _=>us1 fun _=>rfl),Q4.at X G (fun _ _ _ _ _ _=>us2 fun _ _=>rfl),JZ.at X G (fun _ _ _ _ _ _=>us2 fun _ _=>rfl),ZW.at X G (fun _ _ _ _ _ _=>us1 fun _=>rfl),YX.at X G (fun _ _ _ _ _ _=>us2 fun _ _=>rfl),aC.at X G (fun _ _ _ _ _ _=>us1 fun _=>rfl),Q5.at X G (fun _ _ _ _ _ _=>us2 fun _ _=>rfl),aT.at X G (fun _ _ _ _ _ _=>us1 fun _=>rfl),Jp.at X G (fun _ _ _ _ _ _=>us2 fun _ _=>rfl),Jq.at X G (fun _ _ _ _ _ _=>us1 fun _=>rfl),yH.at X G (fun _ _ _ _ _ _=>us2 fun _ _=>rfl),yV.at X G (fun _ _ _ _ _ _=>us2 fun _ _=>rfl),ZX.at X G (fun _ _ _ _ _ _=>us3 fun _ _ _=>rfl),YY.at X G (fun _ _ _ _ _ _=>us2 fun _ _=>rfl),xK.at X G (fun _ _ _ _ _ _=>us2 fun _ _=>rfl),YZ.at X G (fun _ _ _ _ _ _=>us2 fun _ _=>rfl),Jr.at X G (fun _ _ _ _ _ _=>us3 fun _ _ _=>rfl),Y0.at X G (fun _ _ _ _ _ _=>us2 fun _ _=>rfl),Q6.at X G (fun _ _ _ _ _ _=>us2 fun _ _=>rfl),xM.at X G (fun _ _ _ _ _ _=>us1 fun _=>rfl),aD.at X G (fun _ _ _ _ _ _=>us1 fun _=>rfl),yj.at X G (fun _ _ _ _ _ _=>us1 fun _=>rfl),Js.at X G (fun _ _ _ _ _ _=>us1 fun _=>rfl),aE.at X G (fun _ _ _ _ _ _=>us3 fun _ _ _=>rfl),ZY.at X G (fun _ _ _ _ _ _=>us2 fun _ _=>rfl),jG.at X G (fun _ _ _ _ _ _=>us2 fun _ _=>rfl),Q7.at X G (fun _ _ _ _ _ _=>us1 fun _=>rfl),Jt.at X G (fun _ _ _ _ _ _=>us1 fun _=>rfl),aH.at X G (fun _ _ _ _ _ _=>us1 fun _=>rfl),xN.at X G (fun _ _ _ _ _ _=>us2 fun _ _=>rfl),ZZ.at X G (fun _ _ _ _ _ _=>us3 fun _ _ _=>rfl),J0.at X G (fun _ _ _ _ _ _=>us4 fun _ _ _ _=>rfl),J1.at X G (fun _ _ _ _ _ _=>us3 fun _ _ _=>rfl),Y4.at X G (fun _ _ _ _ _ _=>us4 fun _ _ _ _=>rfl),J2.at X G (fun _ _ _ _ _ _=>us2 fun _ _=>rfl),xO.at X G (fun _ _ _ _ _ _=>us2 fun _ _=>rfl),Z0.at X G (fun _ _ _ _ _ _=>us2 fun _ _=>rfl),xP.at X G (fun _ _ _ _ _ _=>us1 fun _=>rfl),xQ.at X G (fun _ _ _ _ _ _=>us2 fun _ _=>rfl),Ju.at X G (fun _ _ _ _ _ _=>us1 fun _=>rfl),xR.at X G (fun _ _ _ _ _ _=>us1 fun _=>rfl),Z1.at X G (fun _ _ _ _ _ _=>us1 fun _=>rfl),Y5.at X G (fun _ _ _ _ _ _=>us2 fun _ _=>rfl),Y6.at X G (fun _ _ _ _ _ _=>us2 fun _ _=>rfl)⟩;have F:=zki (st:=zf2) l0 c k;have D:zm K mg "law" zf2 ["_law_script"] _ _:=⟨F,Wj X G a,F.binds (ps:=["_law_script"]) (fun _ _ _ _ _ _=>us1 fun _=>rfl)⟩;have a4:qJ K mg "StoneError" p:=⟨Wj X G L,ah⟩;have a5:qJ K mg "TooGreat" q:=⟨Wj X G M,ai⟩;have ay:qJ K mg "NoLaying" b:=⟨Wj X G a9,ab⟩;have av:qJ K mg "NoBoard" d:=⟨Wj X G a6,U⟩;have ax:qJ K mg "NoCount" i:=⟨Wj X G a8,aa⟩;have aw:qJ K mg "NoCell" g:=⟨Wj X G a7,Y⟩;have a3:qJ K mg "NoText" o:=⟨Wj X G J,ag⟩;have a1:qJ K mg "NoRow" m:=⟨Wj X G aB,ae⟩;have az:qJ K mg "NoNumber" j:=⟨Wj X G aA,ac⟩;have a2:qJ K mg "NoTable" n:=⟨Wj X G I,af⟩;have FL:Facts K b p q b d i g o m j n false true:=⟨⟨aj,ak,u,x,y,z⟩,A,B,E,H,al,am,ao,ap,aq,ar,au⟩;exact⟨_,fun s v=>.of_eq rfl,fun base _ _=>zpq T a4 a5 ay av ax aw a3 a1 az a2 FL Z D⟩
theorem walk {l:Pp}{q:Xg}{loose:List Str}{XP:(Str->Option X9)->Heap->Prop}{YP:WQ->Heap->Prop}{d:DefRec}{K:Params->X5}(j:l.most=some 63)(b:d.params.defaults=[])
  (g:∀(w:WQ) (h:Heap),YP w h->(K w.params).In h)
  (F:∀(w:WQ) (mg:Str->Option X9) (c:Addr) (h:Heap),(K w.params).In h->h.Ns XR mg->mg d.name=some (.ref c) ->
   ∃fd:Xo,(∀(s:X8) (u:X9),Ov s fd ⟨[u],[]⟩ [("_law_script",u)])/\∀base:Heap,(K w.params).In base->base.Ns XR mg->qt l.prog w (K w.params) mg base CX0 13 c fd ["_law_script"] (ziX (K w.params))) :
  OJ q loose XP YP l.row.toRowW d [] (fun f vs=>PySem.call f vs) :=
 L2.zid (n:=63) (k:=13) (x:="_law_script") (CX:=fun _=>CX0) (sp:=fun w=>ziX (K w.params)) j (by decide) b ⟨rfl,by decide,by decide⟩ g F (fun _ _ a m i _ e=>⟨a,m,rfl,e,i,fun _=>rfl⟩) fun _ _ _ _ _ z=>z
end K41
open PySem PySem.W PyProof.Rows
set_option maxRecDepth 100000 in
set_option maxHeartbeats 0 in
theorem PySem.Challenge.cw_stonelay_k41_sure_cells_holds : PySem.Challenge.rw_stonelay_k41_sure_cells.Holds := by
 refine zb2.early fun {q XP YP d K} hdf hY hn F=>?_;refine K41.walk (l:=PySem.Challenge.rw_stonelay_k41_sure_cells) rfl hdf hY fun w mg fa h KX G hmg=>?_;rw[hn] at hmg;obtain⟨Q3,Jo,Q4,JZ,ZW,YX,zbJ,Q5,zhX,Jp,Jq,yH,yV,ZX,YY,xK,YZ,Jr,Y0,Q6,xM,zbK,yj,Js,zbL,ZY,jG,Q7,Jt,zeu,xN,ZZ,J0,J1,Y4,J2,xO,Z0,xP,xQ,Ju,xR,Z1,Y5,Y6,zhY,Jv,zhZ,zew,Q8,J3,zh0,Jw,zh1,zex,zh2,zh3,zbM,zh4,Q9,zh5,zh6,zbN,zh7,⟨_,xT⟩,⟨_,yW⟩,⟨_,yX⟩,⟨_,_,_,_,_,_,_,_,_,_,jaC,jaD,jax,jau,jaw,jav,jaB,jaz,jay,jaA,jaP,jaQ,jaK,jaH,jaJ,jaI,jaO,jaM,jaL,jaN,jaR,jaS,ja0,ja1,ja2,ja3,ja4,ja5,ja6,ja7,jaT,jaU,jaV,jaW,jaX,jaY,jaZ⟩⟩:=F w;exact K41.all_mk KX G hmg Q3 Jo Q4 JZ ZW YX zbJ Q5 zhX Jp Jq yH yV ZX YY xK YZ Jr Y0 Q6 xM zbK yj Js zbL ZY jG Q7 Jt zeu xN ZZ J0 J1 Y4 J2 xO Z0 xP xQ Ju xR Z1 Y5 Y6 zhY Jv zhZ zew Q8 J3 zh0 Jw zh1 zex zh2 zh3 zbM zh4 Q9 zh5 zh6 zbN zh7 xT yW yX jaC jaP jaD jaQ jax jaK jau jaH jaw jaJ jav jaI jaB jaO jaz jaM jay jaL jaA jaN jaR jaS ja0 ja1 ja2 ja3 ja4 ja5 ja6 ja7 jaT jaU jaV jaW jaX jaY jaZ