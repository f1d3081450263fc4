import PyProof.Rows.All
import Wide.All
import OpenK.AllK
import Wide.FinOn
import Lean
import PyProof.EqAt
import PyProof.EqKinds
import PyProof.TupleCall
import PySem.Challenge.RW_stonelay_k90_whole_counts
open List renaming length_map→ZB,getElem?_eq_getElem→X7,getElem?_eq_some_iff→X4,mem_of_getElem?→X2,length_append→XZ,mem_filter→XX,mem_cons_of_mem→XT,mem_cons_self→XR,length_take→XQ,take_add_one→XJ,mem_append→XI,take_length→XG,getElem?_map→XE,mem_cons→XB,filter_append→XA,length_filter_le→Xz,length_cons→Xw,map_append→Xv,mem_append_right→Xs,size_toArray→Xp,filter_cons→Xl,mem_map→Xj,map_congr_left→Xi,Nodup→Xg,map_cons→Xb,range→W9,take_of_length_le→W8,append_nil→W4,mem_append_left→W1,append_assoc→WZ,getD_eq_getElem?_getD→WX,all_eq_true→WT,any_eq_true→WS,take_append_drop→WR,drop_eq_getElem_cons→WP,length_range→WL,countP_cons→WH,replicate→WF,map_map→WD,mem_flatten→WA,flatten_cons→Wz,foldl_cons→Wy,filter_sublist→Ww,flatten_append→Wv,nodup_append→Wp,mem_of_mem_take→Wo,filter_eq_nil_iff→Wn,filter_filter→Wj,mem_range→Wf,length_drop→We,pairwise_map→V1,filter_congr→V0,perm_ext_iff_of_nodup→VX,getElem?_append_left→VS,length_singleton→VP,nodup_cons→VM,not_mem_nil→VH,sublist_flatten_of_mem→VG,getElem?_append_right→VA,filterMap_cons→Vx,pairwise_iff_getElem→Vt,length_replicate→Vr,lookup_cons→Vo,countP_append→Vn,sublist_append_left→Vl,countP_congr→Vf,length_eq_zero_iff→Ve,filter_map→Vb,replicate_succ→Va,countP_eq_zero→U9,getElem_mem→U3,isEmpty_eq_false_iff→UX,find?_cons→UW,map→UU,any_map→US,take_sublist→UR,getElem?_range→UE,take_succ_cons→UD,getElem?_drop→Um,length_pos_of_mem→Uj,length_nil→Uf,countP_map→Ue,perm_append_comm→T8,foldl_append→T4,nodup_nil→TY,pairwise_append→TX,getElem?_zip_eq_some→TU,exists_mem_of_ne_nil→TR,getElem_of_mem→TQ,reverse_append→TN,toList_toArray→TM,range_succ→Tz,mem_filterMap→Tt,find?_eq_none→Ts,ne_nil_of_mem→Tp,countP_filter→To,getElem?_cons_succ→Tj,map_nil→Td,ext_getElem?→SX,drop_sublist→SW,drop_eq_nil_of_le→SR,range_succ_eq_map→SO,getElem?_eq_none→SM,mem_flatMap→SJ,any_cons→SG,map_take→SE,lookup→Sy,countP→Sx,map_id→Sw,mem_of_mem_drop→Su,reverse_reverse→Ss,countP_eq_length_filter→Sm,drop_drop→R7,pairwise_cons→R0,extract_eq_take_drop→RS,sublist_append_right→RP,any_eq_false→RL,reverse_perm→RJ,getElem?_take_of_lt→RD,getElem_inj→Ry,cons_append→Rw,getElem?_cons_zero→Ro,map_set→Re,getElem?_set_self→Rc,of_mem_zip→P7,countP_nil→PY,mem_iff_getElem?→PU,pairwise_reverse→PN,countP_le_length→PM,drop_zero→PC,getElem?_set_ne→Pw,map_drop→O5,sum_cons→O3,all_cons→O2,foldl→OV,filter→OH
open PySem renaming wpAny_bind→Y1,Value→X9,Shared→X5,sizeLine→XU,wpAny_pure→XS,FuncData→XO,Program→Xy,mainGlobals→Xx,boot_len→Xh,model→Xf,wpAny→Xa,World→W6,Paired→W0,mem_of_lookup→WM,Around→WG,SetTable→WB,wpAny_mono→Wr,PyData→Wm,wpAny_loadPart'→Wh,starEach→Wc,wpAny_holding→V5,wpAny_truthy_bool→V2,tupleKind→VV,wpAny_newObj_type→VR,codeAny_builtin→VL,compareOp→Vq,Spec→Vd,cLine→U6,wpAny_standAt→UN,plainId_quiet→UL,Builtin→UG,binaryOp→UC,wpAny_call_entry→Uv,relabel→Ut,wpAny_rule→Ur,Scope→Uh,rawInt→Ua,builtinLookup_eq_fast→T9,wpAny_pyIter_list→T6,sysModules→T1,wpAny_execs_cons→TV,NameKind→TK,wpAny_comprehension_free→TF,wpAny_passesOwn→TC,assignEach→Tx,sizeLine_eq→Tn,sliceBounds→Tl,codeAny→Ti,compEnvC→Th,bootBuiltins→Tf,intText?→S8,foldedSetIterable→S4,wpAny_pyIter_enum→S2,wpAny_setState_of→S1,ofAClassStatement→SZ,codeAny_compStart_list→SU,storedH→SI,GenState→Sz,wpAny_execs_nil→Sr,letOwnedTupleGo→Sq,typeLookup_type→So,wpAny_setEntries_of→Sl,codeAny_mono→Sj,cellsFrom→Se,pyNext→Sd,wpAny_Name→Sc,call_meets→Sb,firstArgMember→R9,wpAny_Call_Name_kw→R4,again→RO,backTo→RI,behindInMarks→RG,wpAny_attempt→RF,setSearchFrom→RE,pickOrder→Rz,wpAny_forIn_list→Ru,wpAny_askSetting→Rt,wpAny_callSpecial?_slot→Rr,typeIs_str→Rj,seqIndex_neg→Ri,wpAny_typeOf→Rg,wpAny_getItem_list_neg→Ra,wpAny_Call_method_late→Q1,theTreesLotGoes→P1,wpAny_specialOf→P0,wpAny_isTrue_Compare1→PV,seqIndex_of→PJ,subscripted→PH,hashByValue→PF,isSubtype_type→PB,wpAny_setField→Pz,wpAny_loadName_local→Pu,wpAny_newFunctionEnv→Pq,codeAny_call_builtin→Pp,getItem→Pk,callerA→Pi,valueAt→Ph,swapsWith→Pf,wpAny_loadName_cell→Pe,wpAny_loadName_free→Pd,compTurn_list→O7,wpAny_newList→O4,builtinsNs→OX,typeLookup→OW,closureFor→OU,holding→OR,BindsTo→OQ,ReadsAll→OP,codeAny_loop→OO,atKey→OL,wpAny_noted→OK,wpAny_of_eq→OJ,Keyword→OF,bindL→OD,bindC→OC,assign→OB,Operator→OA,IntMulOk→Oz,entryFor→Oy
open PySem.W renaming Frag→X8,nsIn→Xm,mg_none_of→WN,kia_one→VW,hashAt→VE,fnOf→UT,mg_of→UM,codeIn→Ta,keepIn→S9,cellsFrom_some→SV,methodObj→RM,instObj→P8,OpenLaw→P6,lookIn→PD,WalkO→O9
open Array renaming length_toList→X6,getElem?_toList→Xr,getElem?_eq_none→WK,toList_append→WI,getElem?_eq_some_iff→Vz,getElem?_eq_getElem→Vs,size_map→Vi,toList_reverse→Vg,toList_map→U2,size_reverse→U1,perm_iff_toList_perm→U0,getElem_toList→UP,size_extract→Ul,getElem?_setIfInBounds→Ud,size_setIfInBounds→TD,getD→Tw,toList_push→SY,getElem?_extract→SQ,toList_setIfInBounds→RU,getElem?_replicate→RC,getElem?_reverse→QP,mem_toList_iff→Ps,toList_extract→Po,toList_modify→Pb
open Nat renaming le_trans→X0,le_refl→XW,lt_of_le_of_lt→XH,lt_of_lt_of_le→Xn,ne_of_lt→Xk,zero_le→WW,lt_succ_of_lt→WJ,pow_le_pow_right→Wu,zero_add→V9,lt_irrefl→V6,le_succ→V3,pow_succ→VU,succ_ne_self→Vp,le_add_right→Uw,ne_of_gt→Uq,succ_pos→Uo,le_succ_of_le→T5,add_zero→TW,not_lt_zero→TB,lt_of_lt_of_eq→Tq,le_of_lt→Te,sub_self→Tc,lt_or_ge→Tb,add_le_add→S6,div_div_eq_div_mul→SS,add_le_add_right→Sv,lt_trans→Si,mod_lt→Sa,add_sub_cancel→R3,lt_trichotomy→RK,lt_succ_self→Rx,add_sub_cancel_left→Rp,mul_comm→Rh,one_le_iff_ne_zero→Qr,and_mod_two_eq_one→Qb,min_eq_left→PX,pow_lt_pow_right→Pn,succ→Ox
open PySem.Heap renaming get?_push_of_some→XY,lt_size→XF,get?_push_size→W5,get?_update_self→VQ,SameBut→VD,size_push→Vj,get?_none_of_le→UQ,get?_update_other→Uk,get?_update_ne→Sk
open Bool renaming false_ne_true→XV,eq_false_iff→Xc,eq_iff_iff→WU,not_eq_true'→WC,false_eq_true→Wx,and_eq_true→Wq,and_eq_true_iff→Wb,and_comm→Ub,false_and→TZ,and_true→TH,and_assoc→S5,true_and→SA
open Or renaming inl→XM,inr→VF
open PySem.SetTable renaming bits→XD,below→Xu,insertAt→Xe,turns→W3,runEnd→VJ,leap→Vm,grown→UA,sizeAbove→Tr,Probe→R8,advance→Rv,fill→O6
open PyProof.Rows renaming wpS_bind→XC,wpS_pure→Xq,arrOf→Xo,Keyed→W7,SortSt→WQ,pendingOf→WO,wpS_forRange→V8,callWith_type1→VZ,boot_int→VO,boot_max→UZ,boot_min→UY,boot_sorted→UH,wpS_mono→UB,pairsOf_toList→Uz,seqObj→Uu,boot_list→Ui,boot_isinstance→Uc,SortKind→T2,wpS_modify→Tv,failedOf→Tg,boot_any→SL,wpS_get→SH,reverseSlice'→SB,mem_zip_self→Sh,listItems_at→RQ,AllBare→RN,wpS_lift→RA,subscriptTail_builtinR→Rb,boot_dict→P9,boot_sum→PL,envOfC→PK,IntsAre→Pj,pairsOf→Pg,getElem?_mirror_all→Pc,subscriptTail→O8,IsTup→OE
open PySem.PassesOwn renaming never→Xd
open PySem.PyData renaming eqv→W2,depthAll→Wg,canLayAll0→Wd,canLay0→Vh,str→UO,bool→Tk,int→SK
open PySem.F renaming plainAttrs_list→WY,slot_list_append→Wt,type_list_append→Ws,slot_list_extend→UJ,type_list_extend→UI,plain_list_iadd→Rq,slot_list_count→Rn,type_list_count→Rm,slot_set_iter→PQ,plain_set_new→PP
open Int renaming toNat_natCast→WV,zero_add→Wi,le_of_lt→V7,le_trans→VN,emod_lt_of_pos→VI,toNat_of_nonneg→Vw,emod_nonneg→Vu,le_refl→U5,natCast_add→UV,neg_le_neg→S7,add_zero→Sg,natCast_nonneg→R6,lt_of_lt_of_le→R1,natAbs_natCast→RY,fdiv_eq_ediv_of_nonneg→RW,mul_comm→Rf,natCast_mul→PZ,mul_nonneg→Px,ofNat_inj→OZ,not_lt→OS,mul_zero→ON,mul_add→OI,one_mul→OG
open PySem.Value renaming ref→WE,int→Vy,none→Us,type→Rl,bool→OY,str→OM
open False renaming elim→Wl
open PySem.Around renaming under_plainId→Wa
open Option renaming isSome_iff_exists→V4,map_eq_some_iff→VT,getD_some→Ux,map_some→Ug,map→OT
open PySem.Builtin.Str renaming occurrences→VY,strSliceIndices→U7
open PySem.SetTable.below renaming go→VC
open List.Sublist renaming length_le→VB,slnil→RZ
open ForInStep renaming yield→Vv
open PySem.Builtin renaming bitAnd→Vk,bitNot→Uy,bitOr→TJ
open PySem.Obj renaming mapSeq→Vc,mapFields→SD
open PyProof.Rows.F renaming plain_set_update_loop→U8,entry_set_update_loop→TL
open PySem.NameKind renaming cell→U4
open PySem.Builtin.List renaming listTooLong→UK,listExtendWith→Sf,listSameRef→RB
open PySem.Heap.SameBut renaming update→UF
open Ne renaming symm→T7
open PySem.SetTable.probe renaming go→T3
open True renaming intro→T0
open PySem.Calls renaming Constant_str→Tu,spliced_cons→R5,Name_function_global→RX,call_function_entry→RR,callWith_builtin→QR,evalArgs_plain→Pr
open List.Perm renaming append_left→SN,length_eq→Pa
open PySem.Shared renaming TypeIs→SF
open Classical renaming byContradiction→RT
open PySem.Builtin.Dict renaming updateFrom→Rs,pairItems→QQ
open PySem.SeqAt renaming eqv_refl→Py
open Sum renaming inl→Pm,inr→Pl
open Prod.mk renaming injEq→O0
set_option Elab.async false
set_option linter.all false
set_option maxRecDepth 100000
namespace zcC
open PySem PySem.W
noncomputable def sel:List Nat->Nat->List Stmt->List Stmt
 | _,_,[]=>[]
 | ns,i,x::xs=>match ns.contains i with
  | true=>sel ns (i+1) xs
  | false=>x::sel ns (i+1) xs
theorem zjR {r:OpenRow}{q:Xy}{H:Hook}{d:DefRec}{kwd:List (PySem.Str×Expr)}{N:Nat}(left:LeftO r.prog q [] (fun s=>xlAt q [] s&&recOk (RowW.records r.toRowW) s) (Hook.obs H) (Hook.val H) N)
  (hdef:defOf q r.name=some (d,kwd)) (hp:r.prog.theDef r.name=some (d.params,d.body,d.scope)) (hk:kwWritten? d.params.kwonlyargs d.params.kw_defaults=some kwd) (hwr:(!r.writes || r.records.isEmpty)=true)
  (k1:r.wellSaid=true) (ok:(chainsOk q&&opensWell r.prog&&(frees r.toRowW&&r.within.isEmpty))=true) (hb:r.prog.bare) (hw:r.toRowW.promised)
  (call:WalkO q [] (XL q []) (Hook.says H) r.toRowW d kwd fun f vs=>PySem.call f vs):r.Holds :=
 holds_open (q:=q) (loose:=[]) (Xt:=fun s=>xlAt q [] s&&recOk (RowW.records r.toRowW) s) (XP:=XL q []) (Yf:=Hook.obs H) (Ya:=Hook.val H) (YP:=Hook.says H) (N:=N) left (Hook.of H) (Hook.keeps H) (fun s e=>xl_of s (Wb.mp e).1) XL.keeps hdef hp hk
  (fun s e=>recFacts_of (Wb.mp e).2) hwr k1 ok hb hw call
noncomputable def top (i:Nat):Stmt:=PySem.Challenge.pw_stonelay_k90_whole_counts.main.body.getD i (.Pass ⟨0,0,0,0⟩)
noncomputable def Zd (s:Stmt):Arguments:=match s with
 | .FunctionDef _ a _ _ _ _ _ _ _ _=>a
 | _=>{ posonlyargs:=[],args:=[],vararg:=none,kwonlyargs:=[],kw_defaults:=[],kwarg:=none,defaults:=[] }
noncomputable def Jv (s:Stmt):List Stmt:=match s with
 | .FunctionDef _ _ b _ _ _ _ _ _ _=>b
 | _=>[]
noncomputable def zg (s:Stmt):Uh:=match s with
 | .FunctionDef _ _ _ _ _ _ sc _ _ _=>sc
 | _=>{ kind:=.function,names:=[],isGenerator:=false,isCoroutine:=false }
def HD (K:X8)(x:Str)(i:Nat):Prop:=∃(f:Addr) (oc:X9) (od an:Option Addr) (sl:Array (Option X9)) (kV dc pm cd ct:X9),Xm K Xx x=some (some (.ref f))/\K.lookup f=some ⟨oc,od,.func (UT x x (Zd (top i)) (Jv (top i)) (zg (top i)) .none kV dc pm an cd ct),sl⟩/\Ta K cd x=true/\S9 K (.ref f)=true
structure Facts (K:X8):Prop where
 zaE:HD K "closed" 6
 Jw:HD K "open_cells" 7
 zaF:HD K "around" 8
 Ze:HD K "number_at" 9
 Yg:HD K "cells_of" 10
 QI:HD K "sign_at" 11
 zcl:HD K "parts" 13
 zaG:HD K "joined" 14
 ziQ:HD K "far" 15
 Jx:HD K "numbers_of" 16
 Jy:HD K "bare_wrong" 17
 yG:HD K "closed_around" 18
 xh:HD K "part_layings" 21
 Yh:HD K "needs_at" 22
 QJ:HD K "may_fit" 23
 xS:HD K "part_counts" 24
 QK:HD K "counted" 25
 Jz:HD K "counted_at" 26
 QL:HD K "choices" 28
 zaH:HD K "poured" 29
 xT:HD K "near_counts" 31
 zcm:HD K "count" 32
 Yi:HD K "count_at" 33
 yj:HD K "counts_by_cell" 34
 JA:HD K "all_poured" 35
 zcn:HD K "dealt" 36
 QM:HD K "layings" 39
 xj:HD K "numbers_told" 40
 xo:HD K "wrong_number" 41
 zco:HD K "picks" 42
 xU:HD K "_law_cell_at" 44
 Zf:HD K "_law_whole" 45
 Yj:HD K "_law_sign" 46
 Zg:HD K "_law_signs" 47
 Yk:HD K "_law_near" 48
 Yl:HD K "_law_rows" 49
 Ym:HD K "_law_bent" 50
 Zh:HD K "_law_board" 51
 Zi:HD K "_law_cells" 52
 JB:HD K "_law_around" 53
 Yn:HD K "_law_ones" 54
 Yo:HD K "_law_mask" 55
 Zj:HD K "_law_masks" 56
 QN:HD K "_law_fit" 57
 j3:HD K "_law_near_counts" 58
 Zk:HD K "_law_right" 59
 ziR:HD K "law" 60
 ziS:Xm K Xx "all"=some none
 ziT:Xm K Xx "any"=some none
 zeV:Xm K Xx "bool"=some none
 zeW:Xm K Xx "dict"=some none
 Zl:Xm K Xx "enumerate"=some none
 ziU:Xm K Xx "int"=some none
 JC:Xm K Xx "isinstance"=some none
 ziV:Xm K Xx "len"=some none
 zeX:Xm K Xx "list"=some none
 ziW:Xm K Xx "max"=some none
 ziX:Xm K Xx "min"=some none
 zcp:Xm K Xx "range"=some none
 ziY:Xm K Xx "set"=some none
 zaI:Xm K Xx "sorted"=some none
 ziZ:Xm K Xx "str"=some none
 zi0:Xm K Xx "sum"=some none
 zi1:Xm K Xx "zip"=some none
 xV:∃t,Xm K Xx "CLOSED_SIGN"=some (some (.str "?" t))
 xW:∃t,Xm K Xx "MOST_CLOSED"=some (some (.int 12 t))
 xq:∃t,Xm K Xx "MOST_OF_PART"=some (some (.int 14 t))
 xr:∃t,Xm K Xx "NO_CELL_SIGN"=some (some (.str "#" t))
end zcC
noncomputable def zcC.view:PySem.Program:={ PySem.Challenge.rw_stonelay_k90_whole_counts.prog with main:={ PySem.Challenge.rw_stonelay_k90_whole_counts.prog.main with body:=zcC.sel [0,3,12,19,27,30,37,43] 0 PySem.Challenge.rw_stonelay_k90_whole_counts.prog.main.body } }
local macro_rules | `(tactic| o_head $H)=>`(tactic| (refine' zcC.zjR (q:=zcC.view) (H:=$H) (N:=3818) (fun _=>by kernel_rfl) (by rfl) (by rfl) (by rfl) (by rfl) (by first | assumption | decide +kernel) (by decide +kernel) ⟨rfl,rfl,rfl,rfl,rfl,by decide +kernel⟩ ?_ ?_))
open PySem PySem.W PyProof.Rows in
set_option maxRecDepth 100000 in
set_option maxHeartbeats 0 in
theorem zcC.look:PySem.Challenge.rw_stonelay_k90_whole_counts.wellSaid=true:=by kernel_rfl
open PySem PySem.W PyProof.Rows in
set_option maxRecDepth 100000 in
set_option maxHeartbeats 0 in
theorem zcC.early (h:∀{q:Xy} {XP:(Str->Option X9)->Heap->Prop} {YP:W6->Heap->Prop} {d:DefRec} {K:Params->X8},d.params.defaults=[]->(∀(w:W6) (h:Heap),YP w h->(K w.params).In h)->d.name="law"->(∀w:W6,zcC.Facts (K w.params))->O9 q [] XP YP PySem.Challenge.rw_stonelay_k90_whole_counts.row.toRowW d [] (fun f vs=>PySem.call f vs)):PySem.Challenge.rw_stonelay_k90_whole_counts.Holds:=by
 w_on;refine holds_law zcC.look fun said=>?_
 k_head;w_witness2
 k_fill
 refine h rfl (fun w h Y=>PySem.W.kIn_of Y) rfl fun w=>?_
 constructor
 all_goals first | k_is | exact⟨_,_,_,_,_,_,_,_,_,_,by k_is,by k_is,by k_is,by k_is⟩ | exact⟨_,by k_is⟩
noncomputable section
namespace L2
open PySem PySem.Spec PyProof.Rows
abbrev Key:=Sum Int Str
noncomputable def zd5:Key->X9->Bool
 | .inl k,v=>Value.isInt k v
 | .inr x,v=>Value.isStrOf x v
noncomputable def zol (w:W6):Key->Int
 | .inl k=>hashInt k
 | .inr x=>hashStr w x
theorem jm:∀{k:Key} {v:X9},zd5 k v=true->(∃i t,k=Pm i/\v=Vy i t)\/(∃x t,k=Pl x/\v=OM x t)
 | .inl i,v,h=>by
  obtain⟨t,e⟩:=Value.isInt_shape (k:=i) (v:=v) h
  exact .inl ⟨i,t,rfl,e⟩
 | .inr x,v,h=>by
  obtain⟨t,e⟩:=Value.isStrOf_shape (x:=x) (v:=v) h
  exact .inr ⟨x,t,rfl,e⟩
theorem zbp (i:Int)(t:Tok):zd5 (.inl i) (.int i t)=true:=by simp[zd5,Value.isInt]
theorem zjS (x:Str)(t:Tok):zd5 (.inr x) (.str x t)=true:=by simp[zd5,Value.isStrOf]
theorem zom (a b:Int):decide ((Pm a:Key)=Pm b)=(a==b):=by
 by_cases e:a=b
 ·subst e;simp
 ·have h:¬ (Pm a:Key)=Pm b:=fun q=>e (Sum.inl.inj q)
  rw[decide_eq_false h]
  exact(beq_eq_false_iff_ne.mpr e).symm
theorem zon (a b:Str):decide ((Pl a:Key)=Pl b)=decide (a=b):=by
 by_cases e:a=b
 ·subst e;simp
 ·have h:¬ (Pl a:Key)=Pl b:=fun q=>e (Sum.inr.inj q)
  rw[decide_eq_false h,decide_eq_false e]
theorem zoo (a:Int)(b:Str):decide ((Pm a:Key)=Pl b)=false:=decide_eq_false (fun q=>nomatch q)
theorem zop (a:Str)(b:Int):decide ((Pl a:Key)=Pm b)=false:=decide_eq_false (fun q=>nomatch q)
noncomputable def qc (prog:Xy)(w:W6):PySem.KeyKind prog w Key where
 is:=zd5
 hash:=zol w
 inj:=fun v a b ha hb=>by
  rcases jm ha with ⟨i,t,rfl,rfl⟩ | ⟨x,t,rfl,rfl⟩
  ·rcases jm hb with ⟨j,u,rfl,e⟩ | ⟨y,u,rfl,e⟩
   ·injection e with e1 _;rw[e1]
   ·exact nomatch e
  ·rcases jm hb with ⟨j,u,rfl,e⟩ | ⟨y,u,rfl,e⟩
   ·exact nomatch e
   ·injection e with e1 _;rw[e1]
 byValue:=fun k v h=>by
  rcases jm h with ⟨i,t,rfl,rfl⟩ | ⟨x,t,rfl,rfl⟩<;>rfl
 pyHash:=fun hv h=>by
  rcases jm hv with ⟨i,t,rfl,rfl⟩ | ⟨x,t,rfl,rfl⟩
  ·exact wpAny_pyHash_int h
  ·exact wpAny_pyHash_str h
 eqBool:=fun hu hv h=>by
  rcases jm hu with ⟨i,t,rfl,rfl⟩ | ⟨x,t,rfl,rfl⟩
  ·rcases jm hv with ⟨j,u,rfl,rfl⟩ | ⟨y,u,rfl,rfl⟩
   ·rw[zom] at h;exact wpAny_eqBool_int h
   ·rw[zoo] at h;exact SeqAt.EqAt.int_str i t y u _ _ _ _ h
  ·rcases jm hv with ⟨j,u,rfl,rfl⟩ | ⟨y,u,rfl,rfl⟩
   ·rw[zop] at h;exact SeqAt.EqAt.str_int x t j u _ _ _ _ h
   ·rw[zon] at h;exact wpAny_eqBool_str h
 «strs»:=fun k x t v h=>by
  rcases jm h with ⟨i,u,rfl,e⟩ | ⟨y,u,rfl,e⟩
  ·exact nomatch e
  ·injection e with e1 _
   subst e1
   cases v<;>rfl
theorem zfW (prog:Xy)(w:W6)(i:Int)(t:Tok):(qc prog w).is (.inl i) (.int i t)=true:=zbp i t
theorem zfX (prog:Xy)(w:W6)(x:Str)(t:Tok):(qc prog w).is (.inr x) (.str x t)=true:=zjS x t
inductive V where
 | non | bl (b:Bool) | int (i:Int) | str (x:Str) | byt (b:Array UInt8) | flt (b:UInt64) | ref (a:Addr) | ty (n:String)
 deriving DecidableEq
def RelV:V->X9->Prop
 | .non,u=>u=Us
 | .bl b,u=>u=OY b
 | .int i,u=>∃t,u=Vy i t
 | .str x,u=>∃t,u=OM x t
 | .byt b,u=>∃t,u=Value.bytes b t
 | .flt b,u=>∃t,u=Value.float b t
 | .ref a,u=>u=WE a
 | .ty n,u=>u=Rl n
abbrev Vals:List V->List X9->Prop:=W0 RelV
theorem Vals.length {xs:List V}{us:List X9}(r:Vals xs us):xs.length=us.length:=Paired.length r
theorem Vals.get:∀{xs:List V} {us:List X9} {i:Nat} {x:V},Vals xs us->xs[i]?=some x->∃u,us[i]?=some u/\RelV x u
 | _,_,_,_,.nil,e=>by simp at e
 | _,_,0,_,.cons r _,e=>by simp at e;subst e;exact⟨_,rfl,r⟩
 | _,_,i+1,x,.cons _ t,e=>by
  obtain⟨u,h1,h2⟩:=Vals.get (i:=i) (x:=x) t (by simpa using e)
  exact⟨u,by simpa using h1,h2⟩
theorem Vals.set {x:V}{u:X9}(r:RelV x u):∀{xs:List V} {us:List X9} (i:Nat),Vals xs us->Vals (xs.set i x) (us.set i u)
 | _,_,_,.nil=>.nil
 | _,_,0,.cons _ t=>.cons r t
 | _,_,i+1,.cons q t=>.cons q (Vals.set r i t)
theorem Vals.append:∀{xs ys:List V} {us ws:List X9},Vals xs us->Vals ys ws->Vals (xs++ys) (us++ws)
 | _,_,_,_,.nil,s=>s
 | _,_,_,_,.cons r t,s=>.cons r (Vals.append t s)
theorem Vals.take:∀{xs:List V} {us:List X9} (n:Nat),Vals xs us->Vals (xs.take n) (us.take n)
 | _,_,0,_=>.nil
 | _,_,_+1,.nil=>.nil
 | _,_,n+1,.cons r t=>.cons r (Vals.take n t)
theorem Vals.drop:∀{xs:List V} {us:List X9} (n:Nat),Vals xs us->Vals (xs.drop n) (us.drop n)
 | _,_,0,r=>r
 | _,_,_+1,.nil=>.nil
 | _,_,n+1,.cons _ t=>Vals.drop n t
def zcD:Option V->Option X9->Prop
 | some v,some u=>RelV v u
 | none,none=>True
 | _,_=>False
def KV {κ:Type}:List (κ × V)->List (κ × X9)->Prop:=W0 fun (p:κ × V) (q:κ × X9)=>p.1=q.1/\RelV p.2 q.2
noncomputable def kV:Key->V
 | .inl i=>.int i
 | .inr x=>.str x
inductive HO where
  | lst (xs:List V)
  | tup (xs:List V)
  | dK (kvs:List (Key×V)) | dT (kvs:List (List Key×V))
  | set (S:Int->Bool) (n:Nat)
  | ins (C dx:Addr) (fs:List (Str×V))
  | own (x:Addr)
  | xd (fs:List (Str×V))
  | met (f x:Addr)
  | rng (lo hi:Int)
  | frz (o:Obj) (u:HO)
  | tbl (ps:Array X9)
  | ext (φ:Heap->Prop)
abbrev Hp:=Addr->Option HO
noncomputable def upd (H:Hp)(a:Addr)(o:HO):Hp:=fun b=>if b=a then some o else H b
theorem zc {H:Hp}{a:Addr}{o:HO}:upd H a o a=some o:=by unfold upd;rw[if_pos rfl]
theorem zu {H:Hp}{a b:Addr}{o:HO}(h:b≠a):upd H a o b=H b:=by unfold upd;rw[if_neg h]
theorem zfY {H:Hp}{a b:Addr}{o u:HO}(h:H a=some o)(h':H b=some u)(d:o≠u):a≠b:=by
 intro e;subst e;rw[h] at h';exact d (Option.some.inj h')
theorem zj {H:Hp}{a b:Addr}{o:HO}(h:H a=some o)(h':H b=none):a≠b:=by
 intro e;subst e;rw[h] at h';cases h'
section
variable (P:Xy)(w:W6)
def jn (H:Hp)(h:Heap)(a:Addr):HO->Prop
 | .lst xs=>xs.length<=XU/\∃(its:List X9) (n:Nat),Vals xs its/\h.get? a=some { cls:=.type "list",data:=.seq its.toArray n }
 | .tup xs=>xs.length<=XU/\∃its:List X9,Vals xs its/\OE h a its.toArray
 | .dK kvs=>kvs.length<=XU/\(a==T1)=false/\∃vs,KV kvs vs/\h.DictOf (qc P w) a vs
 | .dT kvs=>kvs.length<=XU/\(a==T1)=false/\∃xs:List (List Key×Addr×X9),
   W0 (fun (p:List Key×V) (q:List Key×Addr×X9)=>p.1=q.1/\H q.2.1=some (.tup (p.1.map kV))/\RelV p.2 q.2.2) kvs xs /\
   ∃o es ep,h.get? a=some o/\o.ExactDict/\o.data=.dict es ep/\es.toList=xs.map (entryOfKey (VV (qc P w)))/\(xs.map (·.1)).Nodup
 | .set S n=>h.SetOf (intKind P w) a S n
 | .ins C dx fs=>H dx=some (.own a)/\fs.length<=1000/\dx≠a/\h.get? a=some (P8 C dx) /\
   ∃mA,h.Ns1 dx mA/\(∀f,zcD (fs.lookup f) (mA f))/\PySem.Within mA (fs.map (·.1))
 | .own _=>∃o,h.get? a=some o
 | .xd fs=>∃mA,h.Ns1 a mA/\∀f,zcD (fs.lookup f) (mA f)
 | .rng lo hi=>∃t u v,h.get? a=some { cls:=.type "range",data:=.fields #[.int lo t,.int hi u,.int 1 v] }
 | .frz o u=>h.get? a=some o/\jn H h a u
 | .tbl ps=>h.get? a=some { cls:=.none,data:=.fields ps }
 | .met f x=>h.get? a=some (RM (.ref f) (.ref x))
 | .ext φ=>φ h/\(∃o,h.get? a=some o)/\∀h1 h2:Heap,φ h1->(∀o,h1.get? a=some o->h2.get? a=some o)->φ h2
def HOk (H:Hp)(h:Heap):Prop:=∀a o,H a=some o->jn P w H h a o
end
section
variable {P:Xy}{w:W6}{H H':Hp}{h h':Heap}{a:Addr}{o:HO}
theorem jn.lt (x:jn P w H h a o):a<h.objs.size:=by
 cases o with
 | lst xs=>obtain⟨_,_,_,_,e⟩:=x;exact XF e
 | tup xs=>obtain⟨_,_,_,p⟩:=x;exact p.lt
 | dK kvs=>obtain⟨_,_,_,_,o,_,_,e,_⟩:=x;exact XF e
 | dT kvs=>obtain⟨_,_,_,_,o,_,_,e,_⟩:=x;exact XF e
 | set S n=>obtain⟨o,_,_,_,e,_⟩:=x;exact XF e
 | ins C dx fs=>obtain⟨_,_,_,e,_⟩:=x;exact XF e
 | own y=>obtain⟨_,e⟩:=x;exact XF e
 | xd fs=>obtain⟨_,⟨_,_,_,e,_⟩,_⟩:=x;exact XF e
 | rng lo hi=>obtain⟨_,_,_,e⟩:=x;exact XF e
 | frz ob u=>obtain⟨e,_⟩:=x;exact XF e
 | tbl ps=>exact XF (show h.get? a=some _ from x)
 | met f y=>exact XF (show h.get? a=some _ from x)
 | ext φ=>obtain⟨_,⟨_,e⟩,_⟩:=x;exact XF e
theorem Paired.mapP {α β:Type}{F G:α->β->Prop}:∀{l₁:List α} {l₂:List β},W0 F l₁ l₂->(∀a b,F a b->G a b)->W0 G l₁ l₂
 | _,_,.nil,_=>.nil
 | _,_,.cons r t,f=>.cons (f _ _ r) (Paired.mapP t f)
theorem jn.stay (x:jn P w H h a o)(k:∀b u,(b=a\/H b=some (.own a))->h.get? b=some u->h'.get? b=some u)
  (ho:∀b,H b=some (.own a)->H' b=some (.own a)) (ht:∀b xs,H b=some (.tup xs)->H' b=some (.tup xs)):jn P w H' h' a o:=by
 induction o with
 | lst xs=>obtain⟨z,its,n,r,e⟩:=x;exact⟨z,its,n,r,k _ _ (.inl rfl) e⟩
 | tup xs=>obtain⟨z,its,r,ob,e,c⟩:=x;exact⟨z,its,r,ob,k _ _ (.inl rfl) e,c⟩
 | dK kvs=>obtain⟨z,y,vs,r,ob,es,ep,e,c⟩:=x;exact⟨z,y,vs,r,ob,es,ep,k _ _ (.inl rfl) e,c⟩
 | dT kvs =>
  obtain⟨z,y,xs,r,ob,es,ep,e,c⟩:=x
  exact⟨z,y,xs,Paired.mapP r fun p q z=>⟨z.1,ht _ _ z.2.1,z.2.2⟩,ob,es,ep,k _ _ (.inl rfl) e,c⟩
 | set S n=>obtain⟨ob,es,ep,t,e,c⟩:=x;exact⟨ob,es,ep,t,k _ _ (.inl rfl) e,c⟩
 | ins C dx fs =>
  obtain⟨d,z,ne,e,mA,⟨od,es,ep,e2,c⟩,r⟩:=x
  exact⟨ho _ d,z,ne,k _ _ (.inl rfl) e,mA,⟨od,es,ep,k _ _ (.inr d) e2,c⟩,r⟩
 | own y=>obtain⟨ob,e⟩:=x;exact⟨ob,k _ _ (.inl rfl) e⟩
 | xd fs=>obtain⟨mA,⟨od,es,ep,e,c⟩,r⟩:=x;exact⟨mA,⟨od,es,ep,k _ _ (.inl rfl) e,c⟩,r⟩
 | rng lo hi=>obtain⟨t,u,v,e⟩:=x;exact⟨t,u,v,k _ _ (.inl rfl) e⟩
 | frz ob u ih=>obtain⟨e,q⟩:=x;exact⟨k _ _ (.inl rfl) e,ih q⟩
 | tbl ps =>
  have e:h.get? a=some { cls:=.none,data:=.fields ps }:=x
  show h'.get? a=some { cls:=.none,data:=.fields ps }
  exact k a _ (.inl rfl) e
 | met f y =>
  have e:h.get? a=some (RM (.ref f) (.ref y)):=x
  show h'.get? a=some (RM (.ref f) (.ref y))
  exact k a _ (.inl rfl) e
 | ext φ=>obtain⟨p,⟨o,e⟩,st⟩:=x;exact⟨st _ _ p fun o q=>k _ _ (.inl rfl) q,⟨o,k _ _ (.inl rfl) e⟩,st⟩
theorem HOk.lt (x:HOk P w H h)(e:H a=some o):a<h.objs.size:=(x a o e).lt
theorem HOk.fresh (x:HOk P w H h)(e:h.objs.size<=a):H a=none:=by
 cases q:H a with
 | none=>rfl
 | some u=>exact absurd (Xn (x.lt q) e) (V6 _)
theorem HOk.kept (x:HOk P w H h)(k:∀b u,h.get? b=some u->h'.get? b=some u):HOk P w H h':=fun a o e =>
 (x a o e).stay (fun b u _ q=>k b u q) (fun _ q=>q) fun _ _ q=>q
theorem HOk.laid (x:HOk P w H h)(k:∀b u,h.get? b=some u->h'.get? b=some u)(hp:h.objs.size<=a)(new:jn P w (upd H a o) h' a o):HOk P w (upd H a o) h':=fun b u e=>by
 have hn:=x.fresh hp
 by_cases hb:b=a
 ·subst hb;rw[zc] at e;cases e;exact new
 ·rw[zu hb] at e
  exact(x b u e).stay (fun c v _ q=>k c v q) (fun c q=>by rw[zu (zj q hn)];exact q) fun c xs q=>by rw[zu (zj q hn)];exact q
end
def Rd (H:Hp)(a:Addr)(u:HO):Prop:=H a=some u\/∃o,H a=some (.frz o u)
theorem Rd.ok {P:Xy}{w:W6}{H:Hp}{h:Heap}{a:Addr}{u:HO}(r:Rd H a u)(x:HOk P w H h):jn P w H h a u:=by
 rcases r with r | ⟨o,r⟩
 ·exact x a u r
 ·obtain⟨_,q⟩:=x a _ r
  exact q
def Mut:Option HO->Prop
 | some (.lst _)=>True
 | some (.dK _)=>True
 | some (.dT _)=>True
 | some (.set _ _)=>True
 | some (.ins _ _ _)=>True
 | some (.ext _)=>True
 | _=>False
section
variable {P:Xy}{w:W6}{H:Hp}{h h':Heap}{x e:Addr}{o':HO}
theorem HOk.write (ok:HOk P w H h)(mu:Mut (H x))(he:e=x\/H e=some (.own x))(k:∀b u,b≠e->h.get? b=some u->h'.get? b=some u)(heo:∃u,h'.get? e=some u)
  (new:jn P w (upd H x o') h' x o'):HOk P w (upd H x o') h':=fun b u q=>by
 have nown:∀c y,H c=some (.own y)->c≠x:=fun c y r z=>by subst z;rw[r] at mu;exact mu
 have ntup:∀c xs,H c=some (.tup xs)->c≠x:=fun c xs r z=>by subst z;rw[r] at mu;exact mu
 by_cases hb:b=x
 ·subst hb;rw[zc] at q;cases q;exact new
 ·rw[zu hb] at q
  by_cases hbe:b=e
  ·have q':H b=some (.own x):=by
    rcases he with z | z
    ·exact absurd (hbe.trans z) hb
    ·rw[hbe];exact z
   rw[q] at q';cases q'
   obtain⟨v,hv⟩:=heo
   exact⟨v,by rw[hbe];exact hv⟩
  ·refine(ok b u q).stay (fun c v hc r=>k c v ?_ r) (fun c r=>by rw[zu (nown c b r)];exact r) fun c xs r=>by rw[zu (ntup c xs r)];exact r
   rcases hc with rfl | hc
   ·exact hbe
   ·rintro rfl
    rcases he with z | z
    ·exact nown c b hc z
    ·rw[hc] at z;cases z;exact hb rfl
end
structure Un (fs ex:List Addr)(H H':Hp)(h h':Heap):Prop where
 keep:∀b o,h.get? b=some o->H b=none->b ∉ fs->b ∉ ex->h'.get? b=some o
 slot:∀b o,h.get? b=some o->H b=none->b∈fs->b ∉ ex->∃sl,h'.get? b=some { o with slots:=sl }
 free:∀b o,h.get? b=some o->H b=none->b ∉ ex->H' b=none
 there:∀b o,h.get? b=some o->b ∉ ex->∃o',h'.get? b=some o'
 tups:∀b xs,H b=some (.tup xs)->H' b=some (.tup xs)
 frzs:∀b o u,H b=some (.frz o u)->H' b=some (.frz o u)
 tbls:∀b ps,H b=some (.tbl ps)->∃more,H' b=some (.tbl (ps++more))
section
variable {fs fs' ex ex':List Addr}{H H1 H2:Hp}{h h1 h2 h':Heap}{a x e:Addr}{o:HO}
theorem Un.any (u:Un fs ex H H1 h h1){b:Addr}{ob:Obj}(q:h.get? b=some ob)(n:H b=none)(hx:b ∉ ex):∃sl,h1.get? b=some { ob with slots:=sl }:=by
 by_cases hb:b∈fs
 ·exact u.slot b ob q n hb hx
 ·exact⟨ob.slots,u.keep b ob q n hb hx⟩
theorem Un.kept (k:∀b u,h.get? b=some u->h'.get? b=some u):Un fs ex H H h h' :=
 ⟨fun b ob q _ _ _=>k b ob q,fun b ob q _ _ _=>⟨ob.slots,k b ob q⟩,fun _ _ _ n _=>n,fun b ob q _=>⟨ob,k b ob q⟩,fun _ _ q=>q,fun _ _ _ q=>q,fun _ ps q=>⟨#[],by rw[q];simp⟩⟩
theorem Un.refl:Un fs ex H H h h:=Un.kept fun _ _ q=>q
theorem Un.laid (k:∀b u,h.get? b=some u->h'.get? b=some u)(hp:h.objs.size<=a)(hn:H a=none):Un fs ex H (upd H a o) h h' where
 keep:=fun b u q _ _ _=>k b u q
 slot:=fun b u q _ _ _=>⟨u.slots,k b u q⟩
 free:=fun b u q n _=>by rw[zu (Xk (Xn (XF q) hp))];exact n
 there:=fun b u q _=>⟨u,k b u q⟩
 tups:=fun b xs q=>by rw[zu (zj q hn)];exact q
 frzs:=fun b u xs q=>by rw[zu (zj q hn)];exact q
 tbls:=fun b ps q=>⟨#[],by rw[zu (zj q hn),q];simp⟩
theorem Un.write (mu:Mut (H x))(he:e=x\/H e=some (.own x))(k:∀b u,b≠e->h.get? b=some u->h'.get? b=some u)(heo:∃u,h'.get? e=some u):Un fs ex H (upd H x o) h h':=by
 have hx:∀b,H b=none->b≠x:=fun b n z=>by subst z;rw[n] at mu;exact mu
 have hb:∀b,H b=none->b≠e:=fun b n z=>by
  subst z
  rcases he with r | r
  ·exact hx b n r
  ·rw[n] at r;cases r
 have hm:∀b u,H b=some u->¬ Mut (some u)->b≠x:=fun b u q nm z=>by subst z;rw[q] at mu;exact nm mu
 refine⟨fun b u q n _ _=>k b u (hb b n) q,fun b u q n _ _=>⟨u.slots,k b u (hb b n) q⟩,fun b u q n _=>by rw[zu (hx b n)];exact n,fun b u q _=>?_,
  fun b xs q=>by rw[zu (hm b _ q fun z=>z)];exact q,fun b u xs q=>by rw[zu (hm b _ q fun z=>z)];exact q,fun b ps q=>⟨#[],by rw[zu (hm b _ q fun z=>z),q];simp⟩⟩
 by_cases hbe:b=e
 ·subst hbe;exact heo
 ·exact⟨u,k b u hbe q⟩
end
noncomputable def trk (h:Heap)(H:Hp):List Addr:=(W9 h.objs.size).filter fun a=>(H a).isSome
noncomputable def zeY (h:Heap)(H:Hp):Heap:=PySem.W.hideAll h (trk h H)
theorem zjT (h:Heap)(H:Hp):(zeY h H).objs.size=h.objs.size:=PySem.W.hideAll_size _ _
theorem zkR {h:Heap}{H:Hp}{b:Addr}{o:Obj}(e:h.get? b=some o)(n:H b=none):(zeY h H).get? b=some o :=
 PySem.W.hideAll_get _ e fun hm=>by
  have q:(H b).isSome=true:=(XX.mp hm).2
  rw[n] at q;simp at q
theorem zmJ {h:Heap}{H:Hp}{b:Addr}{o:Obj}(e:(zeY h H).get? b=some o):h.get? b=some o/\H b=none:=by
 have e':h.get? b=some o:=PySem.W.of_hideAll (trk h H) e
 refine⟨e',?_⟩
 cases q:H b with
 | none=>rfl
 | some x =>
  have hm:b∈trk h H:=XX.mpr ⟨Wf.mpr (XF e'),by simp[q]⟩
  have z:(zeY h H).get? b=none:=PySem.W.hideAll_none (trk h H) hm
  rw[z] at e;cases e
structure Mod (K:X8)(mg:Str->Option X9)(base:Heap):Prop where
 kin:K.In base
 glob:base.Ns Xx mg
 blt:∃mb,base.Ns OX mb/\∀x:Str,x ≠ "__name__"->mb x=Tf x
 nolimit:base.NoLimit
structure Cx where
 prog:Xy
 w:W6
 K:X8
 mg:Str->Option X9
 base:Heap
 A:WG
 N:List Str
 s₀:X5
 H₀:Hp
 env:Env
 outer:List Env
 stack:List Env
 ex:List Addr
 fn:Str->Bool
 calm:Bool
 pn:List (Addr×Obj)
 xe:X9->X5->Prop
noncomputable def frs (l:List Env):List Addr:=l.filterMap (·.frame)
abbrev Cx.fs (X:Cx):List Addr:=frs X.outer
def Vis (sc:Uh)(x:Str):Prop:=sc.names.lookup x=some .local\/sc.names.lookup x=some .cell\/sc.names.lookup x=some .free
def Loc (sc:Uh)(x:Str):Prop:=sc.names.lookup x=some .local\/sc.names.lookup x=some .cell
def Look (env:Env)(h:Heap)(m:Str->Option X9)(x:Str)(u:X9):Prop :=
 (env.kindOf x=some .local/\m x=some u)\/((env.kindOf x=some .cell\/env.kindOf x=some .free)/\∃c,env.cells.lookup x=some c/\h.IsCell c (some u))
structure Cx.Ok (X:Cx):Prop where
 mod:Mod X.K X.mg X.base
 kind:X.env.scope.kind=.function
 glob:X.env.globals=Xx
 blt:X.env.builtins=OX
 above:X.s₀.heap.objs.size<=X.env.locals
 inj:∀x y c,X.env.cells.lookup x=some c->X.env.cells.lookup y=some c->x=y
 has:∀x,(X.env.kindOf x=some .cell\/X.env.kindOf x=some .free)->∃c,X.env.cells.lookup x=some c
 cab:∀x c,X.fn x=true->X.env.cells.lookup x=some c->X.s₀.heap.objs.size<=c
 hd:X.calm=true->X.A.handled=none
 frames:X.A.frames=some X.stack
 stk:X.stack=X.outer\/(X.stack=X.env::X.outer/\X.env.frame=some X.env.locals)
 exf:∀b∈X.ex,b≠X.env.locals/\∀x c,X.env.cells.lookup x=some c->c≠b
 bs:∀b o,X.base.get? b=some o->X.s₀.heap.get? b=some o/\X.H₀ b=none
 bsz:X.base.objs.size<=X.s₀.heap.objs.size
 noex:∀b o,X.base.get? b=some o->b ∉ X.ex
 exfs:∀b∈X.ex,b ∉ X.fs
 funs:X.s₀.heap.FunFrames X.base X.outer
 frf:∀b∈X.fs,X.H₀ b=none
structure Inv (X:Cx)(pins:List (Addr×Obj))(σ:List (Option V))(H:Hp)(s:X5):Prop where
 ok:X.Ok
 os:s.os=X.s₀.os
 bare:RN s.gens
 base:Un X.fs X.ex X.H₀ H X.s₀.heap s.heap
 loc:∃m,s.heap.Ns X.env.locals m/\∀(i:Nat) (x:Str) (v:V),X.N[i]?=some x->σ[i]?=some (some v)->Vis X.env.scope x->∃u,RelV v u/\Look X.env s.heap m x u
 cell:∀x c,X.env.cells.lookup x=some c->∃v,s.heap.IsCell c v
 free:H X.env.locals=none
 freeC:∀x c,X.env.cells.lookup x=some c->H c=none
 pin:∀p∈X.pn++pins,s.heap.get? p.1=some p.2/\H p.1=none/\p.1≠X.env.locals/\p.1 ∉ X.fs/\∀v,p.2.data ≠ .cell v
 hok:HOk X.prog X.w H s.heap
 len:σ.length=X.N.length
section
variable {X:Cx}{pins:List (Addr×Obj)}{σ:List (Option V)}{H H':Hp}{s:X5}{h':Heap}
theorem Cx.Ok.nofr (ok:X.Ok){b:Addr}{o:Obj}(e:X.base.get? b=some o):b ∉ X.fs:=fun hb=>by
 have:=(ok.funs.mem hb).1
 rw[e] at this;cases this
theorem Inv.bs (I:Inv X pins σ H s):∀b o,X.base.get? b=some o->s.heap.get? b=some o/\H b=none:=fun b o e =>
 ⟨I.base.keep b o (I.ok.bs b o e).1 (I.ok.bs b o e).2 (I.ok.nofr e) (I.ok.noex b o e),I.base.free b o (I.ok.bs b o e).1 (I.ok.bs b o e).2 (I.ok.noex b o e)⟩
theorem Inv.bk (I:Inv X pins σ H s):∀b o,X.base.get? b=some o->s.heap.get? b=some o:=fun b o e=>(I.bs b o e).1
theorem Inv.mod (I:Inv X pins σ H s):Mod X.K X.mg X.base:=I.ok.mod
theorem Inv.kIn (I:Inv X pins σ H s):X.K.In s.heap:=I.ok.mod.kin.keeps I.bk
theorem Inv.lt (I:Inv X pins σ H s):X.env.locals<s.heap.objs.size:=let ⟨_,hn,_⟩:=I.loc;hn.lt
theorem Inv.sz (I:Inv X pins σ H s):X.s₀.heap.objs.size<=s.heap.objs.size:=X0 I.ok.above (Te I.lt)
theorem Inv.nofs (I:Inv X pins σ H s){a:Addr}(h:s.heap.objs.size<=a):a ∉ X.fs:=fun hb=>by
 obtain⟨_,o,ho,_⟩:=I.ok.funs.mem hb
 exact absurd (Xn (XF ho) (X0 I.sz h)) (V6 _)
theorem Inv.cne (I:Inv X pins σ H s):∀x c,X.env.cells.lookup x=some c->c≠X.env.locals:=fun x c e z=>by
 obtain⟨v,o,ho,hd⟩:=I.cell x c e
 obtain⟨m,⟨o',es,ep,ho',hd',_⟩,_⟩:=I.loc
 rw[z,ho'] at ho;cases ho;rw[hd'] at hd;cases hd
theorem Inv.funs (I:Inv X pins σ H s):s.heap.FunFrames X.base X.outer:=by
 have all:∀(l:List Env),(∀b∈frs l,b∈X.fs)->X.s₀.heap.FunFrames X.base l->s.heap.FunFrames X.base l:=by
  intro l
  induction l with
  | nil=>intro _ _;trivial
  | cons env r ih =>
   intro hs hl
   obtain⟨hk,⟨L,o,hf,hn,ho,hd⟩,hr⟩:=hl
   have hL:L∈X.fs:=hs L (by unfold frs;rw[Vx,hf];exact XR)
   obtain⟨sl,e⟩:=I.base.slot L o ho (I.ok.frf L hL) hL fun z=>I.ok.exfs L z hL
   exact⟨hk,⟨L,_,hf,hn,e,hd⟩,ih (fun b hb=>hs b (by unfold frs;rw[Vx,hf];exact XT _ hb)) hr⟩
 exact all X.outer (fun _ hb=>hb) I.ok.funs
theorem Inv.stack (I:Inv X pins σ H s):s.heap.FunFrames X.base X.stack:=by
 rcases I.ok.stk with e | ⟨e,hf⟩
 ·rw[e];exact I.funs
 ·rw[e]
  obtain⟨m,hn,_⟩:=I.loc
  refine .cons (by rw[I.ok.kind];decide) hf hn ?_ I.funs
  exact UQ (X0 I.ok.bsz I.ok.above)
theorem Inv.stkSub (I:Inv X pins σ H s):∀b∈frs X.stack,b∈X.env.locals::X.fs:=fun b hb=>by
 rcases I.ok.stk with e | ⟨e,hf⟩
 ·rw[e] at hb;exact XT _ hb
 ·rw[e] at hb
  unfold frs at hb
  rw[Vx,hf] at hb
  exact hb
theorem Inv.stkFree (I:Inv X pins σ H s):∀b∈frs X.stack,H b=none:=fun b hb=>by
 rcases XB.mp (I.stkSub b hb) with e | hb
 ·rw[e];exact I.free
 ·obtain⟨_,o,ho,_⟩:=I.ok.funs.mem hb
  exact I.base.free b o ho (I.ok.frf b hb) fun z=>I.ok.exfs b z hb
theorem Inv.step {g':Array Sz}{t':Nat}{d':Drawn}{ch:List Addr}(I:Inv X pins σ H s)
  (hch:∀b∈ch,(b∈X.ex\/X.s₀.heap.objs.size<=b)/\b≠X.env.locals/\(∀x c,X.env.cells.lookup x=some c->c≠b)/\∀p∈X.pn++pins,p.1≠b)
  (keep:∀b o,b≠X.env.locals->b ∉ X.fs->b ∉ ch->s.heap.get? b=some o->H b=none->h'.get? b=some o)
  (slot:∀b o,b≠X.env.locals->b∈X.fs->b ∉ ch->s.heap.get? b=some o->H b=none->∃sl,h'.get? b=some { o with slots:=sl }) (free:∀b o,b ∉ ch->s.heap.get? b=some o->H b=none->H' b=none)
  (there:∀b o,b ∉ ch->s.heap.get? b=some o->∃o',h'.get? b=some o')
  (tups:∀b xs,H b=some (.tup xs)->H' b=some (.tup xs)) (frzs:∀b o u,H b=some (.frz o u)->H' b=some (.frz o u)) (tbls:∀b ps,H b=some (.tbl ps)->∃more,H' b=some (.tbl (ps++more)))
  (ns:∀m,s.heap.Ns X.env.locals m->h'.Ns X.env.locals m) (hok:HOk X.prog X.w H' h') (hg:RN g') :
  Inv X pins σ H' { s with heap:=h',gens:=g',drawn:=d',toks:=t' }:=by
 have neL:∀b o,X.s₀.heap.get? b=some o->b≠X.env.locals:=fun b o e=>Xk (Xn (XF e) I.ok.above)
 have neC:∀b o,X.s₀.heap.get? b=some o->b ∉ X.ex->b ∉ ch:=fun b o e hx hb=>by
  rcases(hch b hb).1 with z | z
  ·exact hx z
  ·exact absurd (Xn (XF e) z) (V6 _)
 have cellK:∀x c,X.env.cells.lookup x=some c->∀v,s.heap.IsCell c v->h'.IsCell c v:=fun x c e v ⟨o,ho,hd⟩=>by
  have nch:c ∉ ch:=fun z=>(hch c z).2.2.1 x c e rfl
  by_cases hc:c∈X.fs
  ·obtain⟨sl,q⟩:=slot c o (I.cne x c e) hc nch ho (I.freeC x c e)
   exact⟨_,q,hd⟩
  ·exact⟨o,keep c o (I.cne x c e) hc nch ho (I.freeC x c e),hd⟩
 refine⟨I.ok,I.os,hg,⟨fun b o e n hb hx=>?_,fun b o e n hb hx=>?_,fun b o e n hx=>?_,fun b o e hx=>?_,fun b xs e=>tups b xs (I.base.tups b xs e),fun b o xs e=>frzs b o xs (I.base.frzs b o xs e),fun b ps e=>?_⟩,?_,fun x c e=>?_,?_,fun x c e=>?_,fun p hp=>?_,hok,I.len⟩
 ·exact keep b o (neL b o e) hb (neC b o e hx) (I.base.keep b o e n hb hx) (I.base.free b o e n hx)
 ·obtain⟨sl,e1⟩:=I.base.slot b o e n hb hx
  obtain⟨sl',e2⟩:=slot b _ (neL b o e) hb (neC b o e hx) e1 (I.base.free b o e n hx)
  exact⟨sl',e2⟩
 ·obtain⟨o',e1⟩:=I.base.there b o e hx
  exact free b o' (neC b o e hx) e1 (I.base.free b o e n hx)
 ·obtain⟨o',e1⟩:=I.base.there b o e hx
  exact there b o' (neC b o e hx) e1
 ·obtain⟨m1,e1⟩:=I.base.tbls b ps e
  obtain⟨m2,e2⟩:=tbls b _ e1
  exact⟨m1++m2,by rw[e2,Array.append_assoc]⟩
 ·obtain⟨m,hn,hl⟩:=I.loc
  refine⟨m,ns m hn,fun i x v e1 e2 e3=>?_⟩
  obtain⟨u,r,l⟩:=hl i x v e1 e2 e3
  refine⟨u,r,?_⟩
  rcases l with l | ⟨k,c,e,z⟩
  ·exact .inl l
  ·exact .inr ⟨k,c,e,cellK x c e _ z⟩
 ·obtain⟨v,z⟩:=I.cell x c e
  exact⟨v,cellK x c e v z⟩
 ·obtain⟨m,⟨o,_,_,ho,_⟩,_⟩:=I.loc
  exact free _ o (fun z=>(hch _ z).2.1 rfl) ho I.free
 ·obtain⟨v,o,ho,hd⟩:=I.cell x c e
  exact free c o (fun z=>(hch c z).2.2.1 x c e rfl) ho (I.freeC x c e)
 ·obtain⟨e,n,ne,nf,d⟩:=I.pin p hp
  have nch:p.1 ∉ ch:=fun z=>(hch p.1 z).2.2.2 p hp rfl
  exact⟨keep p.1 p.2 ne nf nch e n,free p.1 p.2 nch e n,ne,nf,d⟩
theorem Inv.un {t':Nat}(I:Inv X pins σ H s)(u:Un X.fs [] H H' s.heap h')(hok:HOk X.prog X.w H' h'):Inv X pins σ H' { s with heap:=h',toks:=t' }:=by
 obtain⟨m,⟨o,es,ep,ho,r⟩,_⟩:=id I.loc
 obtain⟨sl,hL⟩:=u.any ho I.free (by simp)
 exact I.step (g':=s.gens) (d':=s.drawn) (ch:=[]) (fun _ z=>nomatch z) (fun b o _ hb _ e n=>u.keep b o e n hb (by simp)) (fun b o _ hb _ e n=>u.slot b o e n hb (by simp)) (fun b o _ e n=>u.free b o e n (by simp)) (fun b o _ e=>u.there b o e (by simp)) u.tups u.frzs u.tbls (fun m' hm=>by
  obtain⟨o',es',ep',ho',r'⟩:=hm
  rw[ho] at ho';cases ho'
  exact⟨_,es',ep',hL,r'⟩) hok I.bare
theorem Inv.call {g':Array Sz}{t':Nat}{d':Drawn}{ch:List Addr}(I:Inv X pins σ H s)(u:Un (frs X.stack) ch H H' s.heap h')(hok:HOk X.prog X.w H' h')(hg:RN g')
  (hch:∀b∈ch,(b∈X.ex\/X.s₀.heap.objs.size<=b)/\b≠X.env.locals/\(∀x c,X.env.cells.lookup x=some c->c≠b)/\∀p∈X.pn++pins,p.1≠b) :
  Inv X pins σ H' { s with heap:=h',gens:=g',drawn:=d',toks:=t' }:=by
 obtain⟨m,⟨o,es,ep,ho,r⟩,_⟩:=id I.loc
 obtain⟨sl,hL⟩:=u.any ho I.free fun z=>(hch _ z).2.1 rfl
 exact I.step (ch:=ch) hch (fun b o hL hb hc e n=>u.keep b o e n (fun z=>(XB.mp (I.stkSub b z)).elim hL hb) hc) (fun b o _ _ hc e n=>u.any e n hc) (fun b o hc e n=>u.free b o e n hc) (fun b o hc e=>u.there b o e hc) u.tups u.frzs u.tbls (fun m' hm=>by
  obtain⟨o',es',ep',ho',r'⟩:=hm
  rw[ho] at ho';cases ho'
  exact⟨_,es',ep',hL,r'⟩) hok hg
theorem Inv.turned {t':Nat}{it:Addr}(I:Inv X pins σ H s)(k:∀b o,b≠it->s.heap.get? b=some o->h'.get? b=some o)(hn:H it=none)(hL:it≠X.env.locals)
  (h1:it∈X.ex\/X.s₀.heap.objs.size<=it) (h2:∀x c,X.env.cells.lookup x=some c->c≠it) (h3:∀p∈X.pn++pins,p.1≠it):Inv X pins σ H { s with heap:=h',toks:=t' }:=by
 have nit:∀b u,H b=some u->b≠it:=fun b u e z=>by rw[z,hn] at e;cases e
 refine I.step (g':=s.gens) (d':=s.drawn) (ch:=[it]) (fun b hb=>?_) (fun b o _ _ hc e _=>k b o (fun z=>hc (by simp[z])) e) (fun b o _ _ hc e _=>⟨o.slots,k b o (fun z=>hc (by simp[z])) e⟩) (fun _ _ _ _ n=>n)
  (fun b o hc e=>⟨o,k b o (fun z=>hc (by simp[z])) e⟩) (fun _ _ e=>e) (fun _ _ _ e=>e) (fun b ps e=>⟨#[],by rw[e];simp⟩) (fun m hm=>?_) (fun b u e=>?_) I.bare
 ·have e:b=it:=by simpa using hb
  subst e
  exact⟨h1,hL,h2,h3⟩
 ·obtain⟨o,es,ep,ho,r⟩:=hm
  exact⟨o,es,ep,k _ o (T7 hL) ho,r⟩
 ·refine(I.hok b u e).stay (fun c v hc q=>k c v ?_ q) (fun _ q=>q) fun _ _ q=>q
  rcases hc with z | z
  ·rw[z];exact nit b u e
  ·exact nit c _ z
theorem Inv.tok (I:Inv X pins σ H s)(t:Nat):Inv X pins σ H { s with toks:=t }:=I.un (h':=s.heap) (t':=t) Un.refl I.hok
theorem Inv.kept {t':Nat}(I:Inv X pins σ H s)(k:∀b u,s.heap.get? b=some u->h'.get? b=some u):Inv X pins σ H { s with heap:=h',toks:=t' }:=I.un (Un.kept k) (I.hok.kept k)
theorem Inv.laid {a:Addr}{o:HO}{t':Nat}(I:Inv X pins σ H s)(k:∀b u,s.heap.get? b=some u->h'.get? b=some u)(hp:s.heap.objs.size<=a)(new:jn X.prog X.w (upd H a o) h' a o) :
  Inv X pins σ (upd H a o) { s with heap:=h',toks:=t' }:=I.un (Un.laid k hp (I.hok.fresh hp)) (I.hok.laid k hp new)
theorem Inv.write {x e:Addr}{o:HO}{t':Nat}(I:Inv X pins σ H s)(mu:Mut (H x))(he:e=x\/H e=some (.own x))(k:∀b u,b≠e->s.heap.get? b=some u->h'.get? b=some u)(heo:∃u,h'.get? e=some u)
  (new:jn X.prog X.w (upd H x o) h' x o):Inv X pins σ (upd H x o) { s with heap:=h',toks:=t' }:=I.un (Un.write mu he k heo) (I.hok.write mu he k heo new)
theorem Inv.pins_of {pins':List (Addr×Obj)}(I:Inv X pins σ H s)(h:∀p∈pins',s.heap.get? p.1=some p.2/\H p.1=none/\p.1≠X.env.locals/\p.1 ∉ X.fs/\∀v,p.2.data ≠ .cell v):Inv X pins' σ H s :=
 ⟨I.ok,I.os,I.bare,I.base,I.loc,I.cell,I.free,I.freeC,fun p hp=>(XI.mp hp).elim (fun z=>I.pin p (W1 _ z)) (h p),I.hok,I.len⟩
theorem zfZ {N:List Str}(hN:N.Nodup){i j:Nat}{x:Str}(a:N[i]?=some x)(b:N[j]?=some x):i=j:=by
 obtain⟨h1,e1⟩:=X4.mp a
 obtain⟨h2,e2⟩:=X4.mp b
 exact(Ry hN).mp (e1.trans e2.symm)
theorem zd6 {M:Model}{A:WG}{E:X9->X5->Prop}{i:Nat}{x:Str}{v:V}{u:X9}{Q:Unit->X5->Prop}(I:Inv X pins σ H s)(hN:X.N.Nodup)(hi:X.N[i]?=some x)(hx:Loc X.env.scope x)(r:RelV v u)
  (h:∀s',Inv X pins (σ.set i (some v)) H s'->(∃a,VD a s.heap s'.heap/\(a=X.env.locals\/X.env.cells.lookup x=some a))->Q () s') (hf:X.fn x=true\/X.env.scope.names.lookup x=some .local:=by first | exact .inl rfl | exact .inr rfl | assumption):Xa M A (storeName X.env x u) Q E s:=by
 obtain⟨m,hn,hl⟩:=id I.loc
 have hcls:(X.env.scope.kind == .class || (X.env.scope.kind == .module&&X.env.locals != X.env.globals))=false:=by rw[I.ok.kind];rfl
 have hiσ:i < σ.length:=by rw[I.len];exact(X4.mp hi).1
 have cne:=I.cne
 have tracked:∀{a:Addr} {h':Heap},(∃o,s.heap.get? a=some o/\H a=none)->VD a s.heap h'->HOk X.prog X.w H h':=fun {a h'} ha hs b ob e=>by
  obtain⟨_,_,hfree⟩:=ha
  refine(I.hok b ob e).stay (fun c w' hc q=>(hs.2 c ?_).trans q) (fun _ q=>q) fun _ _ q=>q
  rintro rfl
  rcases hc with rfl | hc
  ·rw[hfree] at e;cases e
  ·rw[hfree] at hc;cases hc
 rcases hx with hk | hk
 ·refine wpAny_storeName_local hk hn (fun h' hn' hs=>?_) hcls
  obtain⟨oL,_,_,hoL,_⟩:=id hn
  refine h _ ⟨I.ok,I.os,I.bare,⟨fun b o e n hb hx=>?_,fun b o e n hb hx=>?_,I.base.free,fun b o e hx=>?_,I.base.tups,I.base.frzs,I.base.tbls⟩,⟨_,hn',fun j y v' e1 e2 e3=>?_⟩,fun y c e=>?_,I.free,I.freeC,fun p hp=>?_,tracked ⟨oL,hoL,I.free⟩ hs,by simpa using I.len⟩ ⟨_,hs,.inl rfl⟩
  ·exact(hs.2 b (Xk (Xn (XF e) I.ok.above))).trans (I.base.keep b o e n hb hx)
  ·obtain⟨sl,e1⟩:=I.base.slot b o e n hb hx
   exact⟨sl,(hs.2 b (Xk (Xn (XF e) I.ok.above))).trans e1⟩
  ·obtain⟨o',e1⟩:=I.base.there b o e hx
   exact⟨o',(hs.2 b (Xk (Xn (XF e) I.ok.above))).trans e1⟩
  ·by_cases hj:j=i
   ·subst hj
    rw[hi] at e1;cases e1
    rw[Rc hiσ] at e2
    cases e2
    exact⟨u,r,.inl ⟨hk,by simp⟩⟩
   ·rw[Pw (T7 hj)] at e2
    obtain⟨u',r',q⟩:=hl j y v' e1 e2 e3
    refine⟨u',r',?_⟩
    rcases q with ⟨k,e⟩ | ⟨k,c,e,z⟩
    ·refine .inl ⟨k,?_⟩
     have:y≠x:=fun e=>hj (zfZ hN e1 (e ▸ hi))
     simp[this,e]
    ·exact .inr ⟨k,c,e,z.sameBut hs (cne y c e)⟩
  ·obtain⟨w',z⟩:=I.cell y c e
   exact⟨w',z.sameBut hs (cne y c e)⟩
  ·obtain⟨e,n,ne,nf,d⟩:=I.pin p hp
   exact⟨(hs.2 p.1 ne).trans e,n,ne,nf,d⟩
 ·have hfn:X.fn x=true:=by
   rcases hf with z | z
   ·exact z
   ·rw[z] at hk;cases hk
  obtain⟨c,hc⟩:=I.ok.has x (.inl hk)
  obtain⟨w',z⟩:=I.cell x c hc
  refine wpAny_storeName_cell I.ok.kind hk hc z (fun h' hc' hs=>?_)
  obtain⟨oc,hoc,hocd⟩:=id z
  refine h { s with heap:=h' } ⟨I.ok,I.os,I.bare,⟨fun b o e n hb hx=>?_,fun b o e n hb hx=>?_,I.base.free,fun b o e hx=>?_,I.base.tups,I.base.frzs,I.base.tbls⟩,⟨m,hn.sameBut hs (T7 (cne x c hc)),fun j y v' e1 e2 e3=>?_⟩,fun y c' e=>?_,I.free,I.freeC,fun p hp=>?_,tracked ⟨oc,hoc,I.freeC x c hc⟩ hs,by simpa using I.len⟩ ⟨c,hs,.inr hc⟩
  ·exact(hs.2 b (Xk (Xn (XF e) (I.ok.cab x c hfn hc)))).trans (I.base.keep b o e n hb hx)
  ·obtain⟨sl,e1⟩:=I.base.slot b o e n hb hx
   exact⟨sl,(hs.2 b (Xk (Xn (XF e) (I.ok.cab x c hfn hc)))).trans e1⟩
  ·obtain⟨o',e1⟩:=I.base.there b o e hx
   exact⟨o',(hs.2 b (Xk (Xn (XF e) (I.ok.cab x c hfn hc)))).trans e1⟩
  ·by_cases hj:j=i
   ·subst hj
    rw[hi] at e1;cases e1
    rw[Rc hiσ] at e2
    cases e2
    exact⟨u,r,.inr ⟨.inl hk,c,hc,hc'⟩⟩
   ·rw[Pw (T7 hj)] at e2
    obtain⟨u',r',q⟩:=hl j y v' e1 e2 e3
    refine⟨u',r',?_⟩
    rcases q with q | ⟨k,c',e,z'⟩
    ·exact .inl q
    ·refine .inr ⟨k,c',e,z'.sameBut hs ?_⟩
     rintro rfl
     exact hj (zfZ hN e1 (I.ok.inj _ _ _ e hc ▸ hi))
  ·by_cases hcc:c'=c
   ·subst hcc;exact⟨_,hc'⟩
   ·obtain⟨w2,z2⟩:=I.cell y c' e
    exact⟨w2,z2.sameBut hs hcc⟩
  ·obtain⟨e,n,ne,nf,d⟩:=I.pin p hp
   refine⟨(hs.2 p.1 ?_).trans e,n,ne,nf,d⟩
   intro q
   rw[q,hoc] at e
   have q':oc=p.2:=Option.some.inj e
   exact d w' (by rw[<- q'];exact hocd)
theorem zcE {M:Model}{A:WG}{E:X9->X5->Prop}{i:Nat}{x:Str}{v:V}{u:X9}{Q:Unit->X5->Prop}(I:Inv X pins σ H s)(hN:X.N.Nodup)(hi:X.N[i]?=some x)(hx:Loc X.env.scope x)(r:RelV v u)
  (h:∀s',Inv X pins (σ.set i (some v)) H s'->Q () s') (hf:X.fn x=true\/X.env.scope.names.lookup x=some .local:=by first | exact .inl rfl | exact .inr rfl | assumption):Xa M A (storeName X.env x u) Q E s :=
 zd6 I hN hi hx r (fun s' I' _=>h s' I') hf
theorem Inv.call' {s':X5}{ch:List Addr}(I:Inv X pins σ H s)(ho:s'.os=s.os)(u:Un (frs X.stack) ch H H' s.heap s'.heap)(hok:HOk X.prog X.w H' s'.heap)(hg:RN s'.gens)
  (hch:∀b∈ch,(b∈X.ex\/X.s₀.heap.objs.size<=b)/\b≠X.env.locals/\(∀x c,X.env.cells.lookup x=some c->c≠b)/\∀p∈X.pn++pins,p.1≠b):Inv X pins σ H' s':=by
 obtain⟨h',g',d',t',o'⟩:=s'
 have e:o'=s.os:=ho
 subst e
 exact I.call (g':=g') (t':=t') (d':=d') u hok hg hch
end
abbrev XK:=X9->Option Addr->Hp->Prop
abbrev St:=List (Option V)
abbrev VK:=V->Hp->Prop
abbrev TE:=St->Hp->VK->Prop
abbrev TT:=St->Hp->(Bool->Hp->Prop)->Prop
abbrev TA:=St->Hp->(List V->Hp->Prop)->Prop
structure Ends where
 nx:St->Hp->Prop
 rt:VK
 bk:St->Hp->Prop:=fun _ _=>False
 ct:St->Hp->Prop:=fun _ _=>False
abbrev TS:=Ends->St->Hp->Prop
def EP (X:Cx)(pins:List (Addr×Obj))(σ:St)(Q:VK)(u:X9)(s':X5):Prop:=∃v H',Inv X pins σ H' s'/\RelV v u/\Q v H'
def TP (X:Cx)(pins:List (Addr×Obj))(σ:St)(Q:Bool->Hp->Prop)(b:Bool)(s':X5):Prop:=∃H',Inv X pins σ H' s'/\Q b H'
def AP (X:Cx)(pins:List (Addr×Obj))(σ:St)(Q:List V->Hp->Prop)(us:List X9)(s':X5):Prop:=∃vs H',Inv X pins σ H' s'/\Vals vs us/\Q vs H'
def SP (X:Cx)(pins:List (Addr×Obj))(D:Ends)(f:Flow)(s':X5):Prop :=
 match f with
 | .next=>∃ σ' H',Inv X pins σ' H' s'/\D.nx σ' H'
 | .brk=>∃ σ' H',Inv X pins σ' H' s'/\D.bk σ' H'
 | .cont=>∃ σ' H',Inv X pins σ' H' s'/\D.ct σ' H'
 | .ret u=>∃v σ' H',Inv X pins σ' H' s'/\RelV v u/\D.rt v H'
def PE (X:Cx)(e:Expr)(t:TE):Prop :=
 ∀(pins:List (Addr×Obj)) (s:X5) (σ:St) (H:Hp) (Q:VK),Inv X pins σ H s->t σ H Q->Xa (Xf X.prog X.w) X.A (eval e X.env) (EP X pins σ Q) X.xe s
def PT (X:Cx)(e:Expr)(t:TT):Prop :=
 ∀(pins:List (Addr×Obj)) (s:X5) (σ:St) (H:Hp) (Q:Bool->Hp->Prop),Inv X pins σ H s->t σ H Q->Xa (Xf X.prog X.w) X.A (isTrue e X.env (eval e X.env)) (TP X pins σ Q) X.xe s
def PW (X:Cx)(e:Expr)(t:TT):Prop :=
 ∀(whole:Sem X9) (pins:List (Addr×Obj)) (s:X5) (σ:St) (H:Hp) (Q:Bool->Hp->Prop),Inv X pins σ H s->t σ H Q->Xa (Xf X.prog X.w) X.A (isTrue e X.env whole) (TP X pins σ Q) X.xe s
theorem PW.pt {X:Cx}{e:Expr}{t:TT}(h:PW X e t):PT X e t:=h _
def PA (X:Cx)(es:List Expr)(t:TA):Prop :=
 ∀(pos:Pos) (pins:List (Addr×Obj)) (s:X5) (σ:St) (H:Hp) (Q:List V->Hp->Prop),Inv X pins σ H s->t σ H Q->Xa (Xf X.prog X.w) X.A (spliced (RI pos (Wc es X.env))) (AP X pins σ Q) X.xe s
def PS (X:Cx)(st:Stmt)(t:TS):Prop :=
 ∀(pins:List (Addr×Obj)) (s:X5) (σ:St) (H:Hp) (D:Ends),Inv X pins σ H s->t D σ H->Xa (Xf X.prog X.w) X.A (exec st X.env) (SP X pins D) X.xe s
def PSs (X:Cx)(st:List Stmt)(t:TS):Prop :=
 ∀(pins:List (Addr×Obj)) (s:X5) (σ:St) (H:Hp) (D:Ends),Inv X pins σ H s->t D σ H->Xa (Xf X.prog X.w) X.A (execs st X.env) (SP X pins D) X.xe s
theorem thn {α:Type}{t:Sem α}{Q Q':α->X5->Prop}{M:Model}{A:WG}{E:X9->X5->Prop}{s:X5}(h:Xa M A t Q E s)(hQ:∀a s,Q a s->Q' a s):Xa M A t Q' E s:=Wr h hQ fun _ _ x=>x
section
variable {X:Cx}
def zoq (i:Nat):TE:=fun σ H Q=>∃v,σ[i]?=some (some v)/\Q v H
def tC (v:V):TE:=fun _ H Q=>Q v H
theorem zor {i:Nat}{x:Str}{pos:Pos}(hN:X.N[i]?=some x)(hv:Vis X.env.scope x)(hd:(x==("__debug__":Str))=false:=by decide)(hcd:(x==("__classdict__":Str))=false:=by decide):PE X (.Name x pos) (zoq i):=by
 intro pins s σ H Q I h
 obtain⟨v,e,h⟩:=h
 obtain⟨m,hn,hl⟩:=I.loc
 obtain⟨u,r,l⟩:=hl i x v hN e hv
 have fin:EP X pins σ Q u s:=⟨v,H,I,r,h⟩
 rcases l with ⟨hk,hm⟩ | ⟨hk,c,hc,hcell⟩
 ·exact Sc (Pu I.ok.kind hk hn hm fin) hd
 ·rcases hk with hk | hk
  ·exact Sc (Pe I.ok.kind hk hc hcell fin) hd
  ·exact Sc (Pd I.ok.kind hk hc hcell fin hcd) hd
theorem zf {i j pos}:PE X (.Constant (.int i) j pos) (tC (.int i)):=fun _ _ _ H _ I h=>wpAny_Constant_int ⟨.int i,H,I.tok _,⟨_,rfl⟩,h⟩
theorem zbZ {b j pos}:PE X (.Constant (.bool b) j pos) (tC (.bl b)):=fun _ _ _ H _ I h=>Constant_bool ⟨.bl b,H,I,rfl,h⟩
theorem zkS {j pos}:PE X (.Constant .none j pos) (tC .non):=fun _ _ _ H _ I h=>Constant_none ⟨.non,H,I,rfl,h⟩
theorem jw {x j pos}:PE X (.Constant (.str x) j pos) (tC (.str x)):=fun _ _ _ H _ I h=>Tu ⟨.str x,H,I.tok _,⟨_,rfl⟩,h⟩
def Gl (X:Cx)(x:Str):Prop:=X.env.kindOf x=some .globalImplicit
theorem zi2 {E:X9->X5->Prop}{pins:List (Addr×Obj)}{s:X5}{σ:St}{H:Hp}{x:Str}{u:X9}{pos:Pos}{Q:X9->X5->Prop}(I:Inv X pins σ H s)(hg:Gl X x)(hm:X.mg x=some u)(h:Q u s)
  (hd:(x==("__debug__":Str))=false:=by decide):Xa (Xf X.prog X.w) X.A (eval (.Name x pos) X.env) Q E s :=
 RX I.ok.kind hg (Calls.loadGlobal_global (by rw[I.ok.glob];exact I.mod.glob.keeps I.bk) hm h) hd
theorem Qe {E:X9->X5->Prop}{pins:List (Addr×Obj)}{s:X5}{σ:St}{H:Hp}{x:Str}{u:X9}{pos:Pos}{Q:X9->X5->Prop}(I:Inv X pins σ H s)(hg:Gl X x)(hm:X.mg x=none)(hv:Tf x=some u)(h:Q u s)
  (hn:x ≠ "__name__":=by decide) (hd:(x==("__debug__":Str))=false:=by decide):Xa (Xf X.prog X.w) X.A (eval (.Name x pos) X.env) Q E s:=by
 obtain⟨mb,h1,h2⟩:=I.mod.blt
 exact RX I.ok.kind hg (Calls.loadGlobal_builtin (by rw[I.ok.glob];exact I.mod.glob.keeps I.bk) hm (by rw[I.ok.blt];exact h1.keeps I.bk) ((h2 x hn).trans hv) h) hd
theorem Yp {x:Str}{v:V}{u:X9}{pos:Pos}(hg:Gl X x)(hm:X.mg x=some u)(r:RelV v u)(hd:(x==("__debug__":Str))=false:=by decide):PE X (.Name x pos) (tC v) :=
 fun _ _ _ H _ I h=>zi2 I hg hm ⟨v,H,I,r,h⟩ hd
theorem zeZ {x:Str}{v:V}{u:X9}{pos:Pos}(hg:Gl X x)(hm:X.mg x=none)(hv:Tf x=some u)(r:RelV v u)(hn:x ≠ "__name__":=by decide)(hd:(x==("__debug__":Str))=false:=by decide):PE X (.Name x pos) (tC v) :=
 fun _ _ _ H _ I h=>Qe I hg hm hv ⟨v,H,I,r,h⟩ hn hd
variable {a b:Expr}{ta tb:TE}{pos:Pos}
variable {tA tB':TT}{rest:List Expr}
def zqD (t u:TT):TT:=fun σ H Q=>t σ H fun c H1=>if c=true then u σ H1 Q else Q false H1
def tOr (t u:TT):TT:=fun σ H Q=>t σ H fun c H1=>if c=true then Q true H1 else u σ H1 Q
def zqE (t:TT):TT:=fun σ H Q=>t σ H fun c H1=>Q (!c) H1
theorem ze0 (ha:PT X a tA):PW X (.BoolOp .And [a] pos) tA:=by
 intro wh pins s σ H Q I h
 refine isTrue_and (thn (ha pins s σ H Q I h) fun c s1 e=>?_)
 cases c with
 | true=>exact isTrue_and_nil e
 | false=>exact e
theorem zcF (ha:PT X a tA):PW X (.BoolOp .Or [a] pos) tA:=by
 intro wh pins s σ H Q I h
 refine isTrue_or (thn (ha pins s σ H Q I h) fun c s1 e=>?_)
 cases c with
 | false=>exact isTrue_or_nil e
 | true=>exact e
theorem zhC (ha:PT X a tA)(hb:PW X (.BoolOp .And (b::rest) pos) tB'):PW X (.BoolOp .And (a::b::rest) pos) (zqD tA tB'):=by
 intro wh pins s σ H Q I h
 refine isTrue_and (thn (ha pins s σ H _ I h) fun c s1 ⟨H1,I1,q1⟩=>?_)
 cases c with
 | true=>exact hb wh pins s1 σ H1 Q I1 q1
 | false=>exact⟨H1,I1,q1⟩
theorem zcG (ha:PT X a tA)(hb:PW X (.BoolOp .Or (b::rest) pos) tB'):PW X (.BoolOp .Or (a::b::rest) pos) (tOr tA tB'):=by
 intro wh pins s σ H Q I h
 refine isTrue_or (thn (ha pins s σ H _ I h) fun c s1 ⟨H1,I1,q1⟩=>?_)
 cases c with
 | true=>exact⟨H1,I1,q1⟩
 | false=>exact hb wh pins s1 σ H1 Q I1 q1
theorem zak (ha:PT X a tA):PT X (.UnaryOp .Not a pos) (zqE tA):=by
 intro pins s σ H Q I h
 exact isTrue_not (ha pins s σ H (fun c H1=>Q (!c) H1) I h)
def zpC (ta tb:TE):TE:=fun σ H Q=>ta σ H fun x H1=>∃c,x=.bl c/\if c=true then tb σ H1 Q else Q (.bl false) H1
def zpD (ta:TE):TE:=fun σ H Q=>ta σ H fun x H1=>∃c,x=.bl c/\Q (.bl (!c)) H1
theorem zkT {op}{t:TE}(h:PE X a t):PE X (.BoolOp op [a] pos) t:=fun pins s σ H Q I hw=>BoolOp_one (h pins s σ H Q I hw)
theorem zkU (ha:PE X a ta)(hb:PE X (.BoolOp .And (b::rest) pos) tb):PE X (.BoolOp .And (a::b::rest) pos) (zpC ta tb):=by
 intro pins s σ H Q I h
 refine BoolOp_and (thn (ha pins s σ H _ I h) fun v s1 ⟨x,H1,I1,r1,q1⟩=>?_)
 obtain⟨c,rfl,q1⟩:=q1
 cases r1
 refine V2 ?_
 cases c with
 | true=>exact hb pins s1 σ H1 Q I1 q1
 | false=>exact⟨.bl false,H1,I1,rfl,q1⟩
theorem zos (ha:PE X a ta):PE X (.UnaryOp .Not a pos) (zpD ta):=by
 intro pins s σ H Q I h
 refine UnaryOp_ (thn (ha pins s σ H _ I h) fun v s1 ⟨x,H1,I1,r1,q1⟩=>?_)
 obtain⟨c,rfl,q1⟩:=q1
 cases r1
 exact not_of (V2 ⟨.bl (!c),H1,I1,rfl,q1⟩)
end
def SqL (K:X8)(H:Hp)(a:Addr)(xs:List V):Prop :=
 Rd H a (.lst xs) \/
  ∃(o:Obj) (its:Array X9) (n:Nat),K.lookup a=some o/\o.cls=.type "list"/\o.dict=none/\o.data=.seq its n/\its.size<=XU/\Vals xs its.toList
def SqT (K:X8)(H:Hp)(a:Addr)(xs:List V):Prop :=
 Rd H a (.tup xs) \/
  ∃(o:Obj) (its:Array X9) (n:Nat),K.lookup a=some o/\o.cls=.type "tuple"/\o.data=.seq its n/\its.size<=XU/\Vals xs its.toList
noncomputable def zqF:X9->Option V
 | .none=>some .non
 | .bool b=>some (.bl b)
 | .int i _=>some (.int i)
 | .str x _=>some (.str x)
 | .bytes b _=>some (.byt b)
 | .float b _=>some (.flt b)
 | .ref a=>some (.ref a)
 | .type n=>some (.ty n)
 | _=>none
theorem RelV.abs {x:V}{u:X9}(r:RelV x u):zqF u=some x:=by
 cases x with
 | non=>cases r;rfl
 | bl _=>cases r;rfl
 | int _=>obtain⟨t,rfl⟩:=r;rfl
 | str _=>obtain⟨t,rfl⟩:=r;rfl
 | byt _=>obtain⟨t,rfl⟩:=r;rfl
 | flt _=>obtain⟨t,rfl⟩:=r;rfl
 | ref _=>cases r;rfl
 | ty _=>cases r;rfl
theorem RelV.inj {x y:V}{u:X9}(r:RelV x u)(q:RelV y u):x=y:=Option.some.inj (r.abs.symm.trans q.abs)
theorem Vals.inj:∀{xs ys:List V} {us:List X9},Vals xs us->Vals ys us->xs=ys
 | _,_,_,.nil,.nil=>rfl
 | _,_,_,.cons r t,.cons r' t'=>by rw[r.inj r',Vals.inj t t']
section
variable {X:Cx}{pins:List (Addr×Obj)}{σ:St}{H:Hp}{s:X5}{a:Addr}{xs ys:List V}
theorem SqL.of {K:X8}(h:H a=some (.lst xs)):SqL K H a xs:=.inl (.inl h)
theorem SqT.of {K:X8}(h:H a=some (.tup xs)):SqT K H a xs:=.inl (.inl h)
theorem Inv.list (I:Inv X pins σ H s)(h:SqL X.K H a xs):∃its:List X9,Vals xs its/\PlainL s.heap a its.toArray/\xs.length<=XU:=by
 rcases h with h | ⟨o,its,n,hk,hc,hd,hs,hz,r⟩
 ·obtain⟨z,its,n,r,e⟩:=h.ok I.hok
  exact⟨its,r,⟨_,n,e,rfl,rfl,rfl⟩,z⟩
 ·refine⟨its.toList,r,⟨o,n,I.kIn a o hk,hc,hd,by simpa using hs⟩,?_⟩
  have e:=r.length
  simp only[X6] at e
  lia
theorem Inv.tuple (I:Inv X pins σ H s)(h:SqT X.K H a xs):∃its:List X9,Vals xs its/\OE s.heap a its.toArray/\xs.length<=XU:=by
 rcases h with h | ⟨o,its,n,hk,hc,hs,hz,r⟩
 ·obtain⟨z,its,r,p⟩:=h.ok I.hok
  exact⟨its,r,p,z⟩
 ·refine⟨its.toList,r,⟨o,I.kIn a o hk,hc,n,by simpa using hs⟩,?_⟩
  have e:=r.length
  simp only[X6] at e
  lia
theorem Inv.list_inj (I:Inv X pins σ H s)(h:SqL X.K H a xs)(h':SqL X.K H a ys):xs=ys:=by
 obtain⟨its,r,⟨o,n,e,_,_,d⟩,_⟩:=I.list h
 obtain⟨its',r',⟨o',n',e',_,_,d'⟩,_⟩:=I.list h'
 rw[e] at e';cases e'
 rw[d] at d'
 injection d' with d1 _
 have:its=its':=by simpa using congrArg Array.toList d1
 subst this
 exact r.inj r'
end
abbrev Cx.wish (X:Cx)(E:X9->X5->Prop):Cx:={ X with xe:=E }
abbrev Cx.nox (X:Cx):Cx:=X.wish fun _ _=>False
theorem Cx.Ok.wish {X:Cx}(ok:X.Ok)(E:X9->X5->Prop):(X.wish E).Ok :=
 ⟨ok.mod,ok.kind,ok.glob,ok.blt,ok.above,ok.inj,ok.has,ok.cab,ok.hd,ok.frames,ok.stk,ok.exf,ok.bs,ok.bsz,ok.noex,ok.exfs,ok.funs,ok.frf⟩
theorem Cx.Ok.unwish {X:Cx}{E:X9->X5->Prop}(ok:(X.wish E).Ok):X.Ok :=
 ⟨ok.mod,ok.kind,ok.glob,ok.blt,ok.above,ok.inj,ok.has,ok.cab,ok.hd,ok.frames,ok.stk,ok.exf,ok.bs,ok.bsz,ok.noex,ok.exfs,ok.funs,ok.frf⟩
section
variable {X:Cx}{pins:List (Addr×Obj)}{σ:St}{H:Hp}{s:X5}{E:X9->X5->Prop}
theorem Inv.wish (I:Inv X pins σ H s)(E:X9->X5->Prop):Inv (X.wish E) pins σ H s:=⟨I.ok.wish E,I.os,I.bare,I.base,I.loc,I.cell,I.free,I.freeC,I.pin,I.hok,I.len⟩
theorem Inv.unwish (I:Inv (X.wish E) pins σ H s):Inv X pins σ H s:=⟨I.ok.unwish,I.os,I.bare,I.base,I.loc,I.cell,I.free,I.freeC,I.pin,I.hok,I.len⟩
theorem SP.unwish {D:Ends}{f:Flow}{s':X5}(h:SP (X.wish E) pins D f s'):SP X pins D f s':=by
 cases f with
 | next=>obtain⟨σ',H',I,q⟩:=h;exact⟨σ',H',I.unwish,q⟩
 | brk=>obtain⟨σ',H',I,q⟩:=h;exact⟨σ',H',I.unwish,q⟩
 | cont=>obtain⟨σ',H',I,q⟩:=h;exact⟨σ',H',I.unwish,q⟩
 | ret u=>obtain⟨v,σ',H',I,r,q⟩:=h;exact⟨v,σ',H',I.unwish,r,q⟩
theorem PSs.nox {st:List Stmt}{t:TS}(h:PSs X.nox st t):PSs X st t:=fun pins s σ H D I hw =>
 Wr (h pins s σ H D (I.wish _) hw) (fun _ _ q=>q.unwish) fun _ _ z=>Wl z
end
section
variable {X:Cx}{st:Stmt}{rest:List Stmt}{t u:TS}{e:Expr}{te:TE}{pos:Pos}
def zpE:TS:=fun D σ H=>D.nx σ H
def zot (t u:TS):TS:=fun D σ H=>t { D with nx:=u D } σ H
theorem qp:PSs X [] zpE:=fun _ _ σ H _ I h=>Sr ⟨σ,H,I,h⟩
theorem zd (h1:PS X st t)(h2:PSs X rest u):PSs X (st::rest) (zot t u):=by
 intro pins s σ H D I h
 refine TV (thn (h1 pins s σ H { D with nx:=u D } I h) fun f s1 q=>?_)
 cases f with
 | next =>
  obtain⟨σ',H',I',q⟩:=q
  exact h2 pins s1 σ' H' D I' q
 | ret v=>exact q
 | brk=>exact q
 | cont=>exact q
theorem zh (h1:PS X st t):PSs X [st] t:=by
 intro pins s σ H D I h
 refine TV (thn (h1 pins s σ H D I h) fun f s1 q=>?_)
 cases f with
 | next=>exact Sr q
 | ret v=>exact q
 | brk=>exact q
 | cont=>exact q
theorem Inv.quiet {pins:List (Addr×Obj)}{σ:St}{H:Hp}{s:X5}(I:Inv X pins σ H s):interactive X.env=false:=by simp[interactive,I.ok.kind]
def zpF (te:TE):TS:=fun D σ H=>te σ H fun _ H1=>D.nx σ H1
theorem yk (he:PE X e te)(hs:Pf e none pos.line X.env=pure false:=by rfl):PS X (.Expr e pos) (zpF te):=by
 intro pins s σ H D I h
 exact wpAny_Expr_any (thn (he pins s σ H _ I h) fun v s1 ⟨x,H1,I1,r1,q1⟩=>⟨σ,H1,I1,q1⟩) I.quiet hs
def zqG (te:TE):TS:=fun D σ H=>te σ H D.rt
theorem zO (he:PE X e te):PS X (.Return (some e) pos) (zqG te):=by
 intro pins s σ H D I h
 exact wpAny_Return_some (thn (he pins s σ H _ I h) fun v s1 ⟨x,H1,I1,r1,q1⟩=>⟨x,σ,H1,I1,r1,q1⟩)
def zqH (c:TT)(t u:TS):TS:=fun D σ H=>c σ H fun b H1=>if b=true then t D σ H1 else u D σ H1
theorem jA {c:Expr}{a b:List Stmt}{tc:TT}(hc:PT X c tc)(ha:PSs X a t)(hb:PSs X b u):PS X (.If c a b pos) (zqH tc t u):=by
 intro pins s σ H D I h
 refine wpAny_If (thn (hc pins s σ H _ I h) fun d s1 ⟨H1,I1,q1⟩=>?_)
 cases d with
 | true=>exact ha pins s1 σ H1 D I1 q1
 | false=>exact hb pins s1 σ H1 D I1 q1
def zou:TS:=fun _ _ _=>False
theorem zf0:PS X st zou:=fun _ _ _ _ _ _ h=>h.elim
end
abbrev TG:=V->St->Hp->(St->Hp->Prop)->Prop
abbrev TGs:=List V->St->Hp->(St->Hp->Prop)->Prop
def PG (X:Cx)(target:Expr)(t:TG):Prop :=
 ∀(pins:List (Addr×Obj)) (s:X5) (σ:St) (H:Hp) (v:V) (u:X9) (Q:St->Hp->Prop),Inv X pins σ H s->RelV v u->t v σ H Q ->
  Xa (Xf X.prog X.w) X.A (OB target X.env u) (fun _ s'=>∃ σ' H',Inv X pins σ' H' s'/\Q σ' H') X.xe s
def PGs (X:Cx)(ts:List Expr)(t:TGs):Prop :=
 ∀(pins:List (Addr×Obj)) (s:X5) (σ:St) (H:Hp) (vs:List V) (us:List X9) (Q:St->Hp->Prop),Inv X pins σ H s->Vals vs us->t vs σ H Q ->
  Xa (Xf X.prog X.w) X.A (assignInOrder ((Tx ts X.env).map (·.2)) us) (fun _ s'=>∃ σ' H',Inv X pins σ' H' s'/\Q σ' H') X.xe s
abbrev zkV:=V->V->V->Hp->(Hp->Prop)->Prop
def zov (X:Cx)(t:zkV):Prop :=
 ∀(pins:List (Addr×Obj)) (s:X5) (σ:St) (H:Hp) (o i v:V) (ov iv u:X9) (Q:Hp->Prop),Inv X pins σ H s->RelV o ov->RelV i iv->RelV v u->t o i v H Q ->
  Xa (Xf X.prog X.w) X.A (setItem ov iv u) (fun _ s'=>∃H',Inv X pins σ H' s'/\Q H') X.xe s
abbrev TIp:=V->V->Hp->VK->Prop
def PIp (X:Cx)(op:OA)(t:TIp):Prop :=
 ∀(pins:List (Addr×Obj)) (s:X5) (σ:St) (H:Hp) (x y:V) (v u:X9) (Q:VK),Inv X pins σ H s->RelV x v->RelV y u->t x y H Q ->
  Xa (Xf X.prog X.w) X.A (inplaceOp op v u) (EP X pins σ Q) X.xe s
section
variable {X:Cx}{pos:Pos}
def Q9 (i:Nat):TG:=fun v σ H Q=>Q (σ.set i (some v)) H
theorem zm {i:Nat}{x:Str}(hN:X.N.Nodup)(hi:X.N[i]?=some x)(hx:Loc X.env.scope x)(hf:X.fn x=true\/X.env.scope.names.lookup x=some .local:=by first | exact .inl rfl | exact .inr rfl | assumption):PG X (.Name x pos) (Q9 i):=by
 intro pins s σ H v u Q I r h
 exact wpAny_assign_Name (zcE I hN hi hx r (fun s' I'=>⟨_,H,I',h⟩) hf)
def zqI:TGs:=fun vs σ H Q=>vs=[]/\Q σ H
def zpG (t:TG)(u:TGs):TGs:=fun vs σ H Q=>∃v r,vs=v::r/\t v σ H fun σ' H'=>u r σ' H' Q
theorem jh:PGs X [] zqI:=by
 intro pins s σ H vs us Q I r h
 obtain⟨e,h⟩:=h
 subst e
 cases r
 exact assignInOrder_nil ⟨σ,H,I,h⟩
theorem zT {e:Expr}{es:List Expr}{t:TG}{u:TGs}(h1:PG X e t)(h2:PGs X es u)
  (hs:(Tx (e::es) X.env).map (·.2)=OB e X.env::(Tx es X.env).map (·.2):=by rfl):PGs X (e::es) (zpG t u):=by
 intro pins s σ H vs us Q I r h
 obtain⟨v,vr,e1,h⟩:=h
 subst e1
 cases r with
 | cons r rr =>
  rw[hs]
  refine assignInOrder_cons (thn (h1 pins s σ H _ _ _ I r h) fun _ s1 ⟨σ1,H1,I1,q1⟩=>?_)
  exact h2 pins s1 σ1 H1 _ _ Q I1 rr q1
def zpH (K:X8)(n:Nat)(t:TGs):TG:=fun v σ H Q=>∃a xs,v=.ref a/\SqT K H a xs/\xs.length=n/\t xs σ H Q
theorem Jl {es:List Expr}{k:Nat}{t:TGs}{n:Nat}(hc:X.calm=true)(h:PGs X es t)
  (hn:(Tx es X.env).length=n:=by rfl) (hst:(Tx es X.env).findIdx? (·.1)=none:=by rfl):PG X (.Tuple es k pos) (zpH X.K n t):=by
 intro pins s σ H v u Q I r hw
 obtain⟨a,xs,e1,hq,hl,hw⟩:=hw
 subst e1
 cases r
 obtain⟨its,rv,ht,hz⟩:=I.tuple hq
 refine assign_Tuple_tuple (I.ok.hd hc) ht (by simp[hn,<- hl,rv.length]) hst fun h' hx=>?_
 have I1:Inv X pins σ H { s with heap:=h' }:=I.kept (t':=s.toks) fun b o e=>hx b o (Xk (XF e)) e
 exact h pins _ σ H xs _ Q I1 (by simpa using rv) hw
def zqJ (to ti:TE)(t:zkV):TG:=fun v σ H Q=>to σ H fun o H1=>ti σ H1 fun i H2=>t o i v H2 fun H3=>Q σ H3
theorem zkW {o i:Expr}{to ti:TE}{t:zkV}(ho:PE X o to)(hi:PE X i ti)(hs:zov X t)
  (ha:∀v,OB (.Subscript o i pos) X.env v=(do
   let ov <- OR [v] (eval o X.env)
   let iv <- OR [v,ov] (eval i X.env)
   standAt pos
   OR [v,ov,iv] (setItem ov iv v)
   release [v,ov,iv] []):=by intro _;rfl):PG X (.Subscript o i pos) (zqJ to ti t):=by
 intro pins s σ H v u Q I r h
 rw[ha]
 refine Y1 (V5 (thn (ho pins s σ H _ I h) fun ov s1 ⟨x,H1,I1,r1,q1⟩=>?_))
 refine Y1 (V5 (thn (hi pins s1 σ H1 _ I1 q1) fun iv s2 ⟨y,H2,I2,r2,q2⟩=>?_))
 refine Y1 (UN (Y1 (V5 (thn (hs pins s2 σ H2 x y v ov iv u _ I2 r1 r2 r q2) fun _ s3 ⟨H3,I3,q3⟩=>?_))))
 exact wpAny_release ⟨σ,H3,I3,q3⟩
def zmK (te:TE)(g:TG):TS:=fun D σ H=>te σ H fun x H1=>g x σ H1 D.nx
theorem zhD {tg e:Expr}{te:TE}{g:TG}(he:PE X e te)(hg:PG X tg g)(hs:swapsWithSole [tg] e pos.line X.env=pure false:=by rfl)(hw:swappedStores [tg] e X.env=pure none:=by rfl)
  (h1:(Tx [tg] X.env).map (·.2)=[OB tg X.env]:=by rfl):PS X (.Assign [tg] e pos) (zmK te g):=by
 intro pins s σ H D I h
 refine wpAny_Assign_stores (thn (he pins s σ H _ I h) fun v s1 ⟨x,H1,I1,r1,q1⟩=>?_) hs hw
 rw[h1]
 exact thn (hg pins s1 σ H1 x v _ I1 r1 q1) fun _ s2 q=>q
theorem zD {i:Nat}{x:Str}{e:Expr}{te:TE}{pos':Pos}(hN:X.N.Nodup)(hi:X.N[i]?=some x)(hx:Loc X.env.scope x)(he:PE X e te)(hs:Pf e (some (.Name x pos')) pos.line X.env=pure false:=by rfl)(hf:X.fn x=true\/X.env.scope.names.lookup x=some .local:=by first | exact .inl rfl | exact .inr rfl | assumption) :
  PS X (.Assign [.Name x pos'] e pos) (zmK te (Q9 i)):=by
 intro pins s σ H D I h
 refine wpAny_Assign_Name (thn (he pins s σ H _ I h) fun v s1 ⟨y,H1,I1,r1,q1⟩=>?_) hs
 exact zcE I1 hN hi hx r1 (fun s2 I2=>⟨_,H1,I2,q1⟩) hf
def zpI (to ti te:TE)(tget:V->V->Hp->VK->Prop)(tip:TIp)(tset:zkV):TS:=fun D σ H=>to σ H fun o H1=>ti σ H1 fun i H2=>tget o i H2 fun x H3=>te σ H3 fun y H4=>tip x y H4 fun z H5=>tset o i z H5 fun H6=>D.nx σ H6
def zpJ (X:Cx)(t:V->V->Hp->VK->Prop):Prop :=
 ∀(pins:List (Addr×Obj)) (s:X5) (σ:St) (H:Hp) (o i:V) (ov iv:X9) (Q:VK),Inv X pins σ H s->RelV o ov->RelV i iv->t o i H Q ->
  Xa (Xf X.prog X.w) X.A (Pk ov iv) (EP X pins σ Q) X.xe s
theorem zi3 {o i e:Expr}{to ti te:TE}{tget:V->V->Hp->VK->Prop}{tip:TIp}{tset:zkV}{op:OA}{tpos:Pos}(ho:PE X o to)(hi:PE X i ti)(hg:zpJ X tget)(he:PE X e te)(hp:PIp X op tip)(hs:zov X tset)
  (ha:∀ov iv new,augStore i ov iv new=(do OR [new,ov,iv] (setItem ov iv new);release [new,ov,iv] [];pure .next):=by intros;rfl):PS X (.AugAssign (.Subscript o i tpos) op e pos) (zpI to ti te tget tip tset):=by
 intro pins s σ H D I h
 refine wpAny_AugAssign_SubscriptAny (thn (ho pins s σ H _ I h) fun ov s1 ⟨x1,H1,I1,r1,q1⟩=>?_) ha
 refine thn (hi pins s1 σ H1 _ I1 q1) fun iv s2 ⟨x2,H2,I2,r2,q2⟩=>?_
 refine thn (hg pins s2 σ H2 x1 x2 ov iv _ I2 r1 r2 q2) fun old s3 ⟨x3,H3,I3,r3,q3⟩=>?_
 refine thn (he pins s3 σ H3 _ I3 q3) fun v s4 ⟨x4,H4,I4,r4,q4⟩=>?_
 refine thn (hp pins s4 σ H4 x3 x4 old v _ I4 r3 r4 q4) fun new s5 ⟨x5,H5,I5,r5,q5⟩=>?_
 exact thn (hs pins s5 σ H5 x1 x2 x5 ov iv new _ I5 r1 r2 r5 q5) fun _ s6 ⟨H6,I6,q6⟩=>⟨σ,H6,I6,q6⟩
def ipI (f:Int->Int->Int):TIp:=fun x y H Q=>∃i j,x=.int i/\y=.int j/\Q (.int (f i j)) H
theorem zkX:PIp X .Add (ipI fun i j=>i+j):=by
 intro pins s σ H x y v u Q I r1 r2 h
 obtain⟨i,j,e1,e2,q⟩:=h
 subst e1;subst e2
 obtain⟨t,rfl⟩:=r1
 obtain⟨t',rfl⟩:=r2
 exact iadd_int ⟨.int _,H,I.tok _,⟨_,rfl⟩,q⟩
end
section
variable {X:Cx}{pos:Pos}
end
structure It where
 go:Nat->Hp->Prop
 yld:Nat->Hp->V->Hp->Prop
 stop:Nat->Hp->Prop
def zaJ (X:Cx)(pins:List (Addr×Obj))(H:Hp)(b:Addr):Prop :=
 H b=none/\b≠X.env.locals/\b ∉ X.fs/\(b∈X.ex\/X.s₀.heap.objs.size<=b)/\(∀x c,X.env.cells.lookup x=some c->c≠b)/\∀p∈X.pn++pins,p.1≠b
theorem Inv.fpOk {X:Cx}{pins:List (Addr×Obj)}{σ:St}{H H':Hp}{s:X5}{b:Addr}(I:Inv X pins σ H s)(hb:s.heap.objs.size<=b)(hn:H' b=none):zaJ X pins H' b:=by
 refine⟨hn,Uq (Xn I.lt hb),I.nofs hb,.inr (X0 I.sz hb),fun x c e z=>?_,fun p hp z=>?_⟩
 ·obtain⟨v,q⟩:=I.cell x c e
  exact absurd (Xn q.lt (by rw[z];exact hb)) (V6 _)
 ·exact absurd (Xn (XF (I.pin p hp).1) (by rw[z];exact hb)) (V6 _)
structure Turn (P:Xy)(w:W6)(K:X8)(tg:Expr)(J:It)(fp:List Addr)(it:Addr)(tn:Nat->Heap->Prop):Prop where
 mem:it∈fp
 obj:∀i h,tn i h->∀b∈fp,∃o,h.get? b=some o/\∀v,o.data ≠ .cell v
 keep:∀i h h',tn i h->(∀b∈fp,∀o,h.get? b=some o->h'.get? b=some o)->tn i h'
 item:∀(X:Cx),X.prog=P->X.w=w->X.K=K->X.calm=true->∀(i:Nat) (pins:List (Addr×Obj)) (s:X5) (σ:St) (H:Hp) (E:X9->X5->Prop),Inv X pins σ H s->(∀b∈fp,zaJ X pins H b)->tn i s.heap->J.go i H ->
  Xa (Xf P w) X.A (Sd (.ref it)) (fun r s1=>∃u,r=some u /\
   Xa (Xf P w) X.A (Sq tg (.ref it) u) (fun _ s2=>∃x H',Inv X pins σ H' s2/\RelV x u/\J.yld i H x H'/\tn (i+1) s2.heap/\∀b∈fp,H' b=none) E s1) E s
 done:∀(X:Cx),X.prog=P->X.w=w->X.K=K->X.calm=true->∀(i:Nat) (pins:List (Addr×Obj)) (s:X5) (σ:St) (H:Hp) (E:X9->X5->Prop),Inv X pins σ H s->(∀b∈fp,zaJ X pins H b)->tn i s.heap->J.stop i H ->
  Xa (Xf P w) X.A (Sd (.ref it)) (fun r s1=>r=none/\Inv X pins σ H s1) E s
 self:∀(A:WG) (i:Nat) (s:X5) (Q:X9->X5->Prop) (E:X9->X5->Prop),tn i s.heap->Q (.ref it) s->Xa (Xf P w) A (pyIter (.ref it)) Q E s
abbrev TI:=St->Hp->(It->Hp->Prop)->Prop
def PIE (X:Cx)(pins:List (Addr×Obj))(σ:St)(tg:Expr)(R:It->Hp->Prop)(itv:X9)(s2:X5):Prop :=
 ∃(it:Addr) (fp:List Addr) (tn:Nat->Heap->Prop) (J:It) (H':Hp),itv=.ref it/\Inv X pins σ H' s2/\Turn X.prog X.w X.K tg J fp it tn/\tn 0 s2.heap/\(∀b∈fp,zaJ X pins H' b)/\R J H'
def PI (X:Cx)(tg iter:Expr)(wi:TI):Prop :=
 ∀(pins:List (Addr×Obj)) (s:X5) (σ:St) (H:Hp) (R:It->Hp->Prop),Inv X pins σ H s->wi σ H R ->
  Xa (Xf X.prog X.w) X.A (eval iter X.env) (fun v s1=>Xa (Xf X.prog X.w) X.A (pyIter v) (PIE X pins σ tg R) X.xe s1) X.xe s
theorem znV {M:Model}{A:WG}{E:X9->X5->Prop}{s:X5}{tg:Expr}{it:Addr}{u:X9}{o:Obj}{n:String}{vs:Array X9}{Q:Unit->X5->Prop}(ho:s.heap.get? it=some o)(hc:o.cls=.type n)(hd:o.data=.fields vs)
    (hn:["enumerate","zip","dict_itemiterator","dict_reverseitemiterator","odict_iterator","itertools.zip_longest","itertools.pairwise"].contains n=false) (hQ:Q () s):Xa M A (Sq tg (.ref it) u) Q E s:=by
  unfold Sq
  cases tg<;>first
    | exact XS hQ
    | (cases u<;>first
        | exact XS hQ
        | (refine Y1 (wpAny_load ho ?_)
           rw[hc,hd]
           show Xa M A (if (["enumerate","zip","dict_itemiterator","dict_reverseitemiterator","odict_iterator","itertools.zip_longest","itertools.pairwise"].contains n&&vs[0]?==some (Ua _))=true then _ else _) Q E s
           rw[if_neg (by intro h;rw[hn,TZ] at h;cases h)]
           exact XS hQ))
noncomputable def Itl (K:X8)(a:Addr):It :=
 ⟨fun i H=>∃xs x,SqL K H a xs/\xs[i]?=some x,fun i H x H'=>H'=H/\∀xs,SqL K H a xs->xs[i]?=some x,fun i H=>∃xs,SqL K H a xs/\xs.length<=i⟩
noncomputable def Itr (lo:Int)(n:Nat):It:=⟨fun i _=>i<n,fun i H x H'=>H'=H/\x=.int (lo+i),fun i _=>n<=i⟩
theorem zjU {P:Xy}{w:W6}{K:X8}{tg:Expr}(a it:Addr):Turn P w K tg (Itl K a) [it] it (fun i h=>h.IsListIter it a i) where
 mem:=by simp
 obj:=fun i h st b hb=>by
  have e:b=it:=by simpa using hb
  subst e
  obtain⟨o,e,c,d⟩:=st
  exact⟨o,e,fun v z=>by rw[d] at z;cases z⟩
 keep:=fun i h h' st k=>st.at fun o e=>k it (by simp) o e
 item:=by
  intro X hP hw hK hc i pins s σ H E I hf st hg
  subst hP hw hK
  obtain⟨xs,x,hq,hx⟩:=hg
  obtain⟨its,rv,p,hz⟩:=I.list hq
  obtain⟨u,hu,ru⟩:=rv.get hx
  obtain⟨f0,f1,f2,f3,f4,f5⟩:=hf it (by simp)
  refine wpAny_pyNext_list_item st p.isList (x:=u) (by simpa using hu) fun h' st' sb=>?_
  have I1:Inv X pins σ H { s with heap:=h' }:=I.turned (t':=s.toks) (fun b o hb e=>(sb.2 b hb).trans e) f0 f1 f3 f4 f5
  obtain⟨o,e,c,d⟩:=id st'
  exact⟨u,rfl,znV (s:={ s with heap:=h' }) e c d (by decide) ⟨x,H,I1,ru,⟨rfl,fun ys hy=>by rw[I.list_inj hy hq];exact hx⟩,st',fun b hb=>(hf b hb).1⟩⟩
 done:=by
  intro X hP hw hK hc i pins s σ H E I hf st hg
  subst hP hw hK
  obtain⟨xs,hq,hx⟩:=hg
  obtain⟨its,rv,p,hz⟩:=I.list hq
  obtain⟨f0,f1,f2,f3,f4,f5⟩:=hf it (by simp)
  have hl:=rv.length
  exact wpAny_pyNext_list_end (I.ok.hd hc) st p.isList (by simp;lia) fun h' eb=>⟨rfl,I.turned (t':=s.toks) (fun b o hb e=>eb b o hb e) f0 f1 f3 f4 f5⟩
 self:=fun _ _ _ _ _ st h=>wpAny_pyIter_listiter st h
theorem zhE {P:Xy}{w:W6}{K:X8}{tg:Expr}(it:Addr)(lo:Int)(n:Nat):Turn P w K tg (Itr lo n) [it] it (fun i h=>IsRangeIter h it (lo+(i:Nat)*1) ((n:Int)-(i:Nat)) 1) where
 mem:=by simp
 obj:=fun i h st b hb=>by
  have e:b=it:=by simpa using hb
  subst e
  exact⟨_,st,fun v z=>by
   have z':Data.fields _=Data.cell v:=z
   cases z'⟩
 keep:=fun i h h' st k=>k it (by simp) _ st
 item:=by
  intro X hP hw hK hc i pins s σ H E I hf st hg
  subst hP hw hK
  obtain⟨f0,f1,f2,f3,f4,f5⟩:=hf it (by simp)
  have W:=Walks.range (prog:=X.prog) (w:=X.w) (I.ok.hd hc) it lo 1 n
  refine W.item i s _ _ hg st fun v h' tk hv st' kk=>?_
  obtain⟨t,rfl⟩:=hv
  have I1:Inv X pins σ H { s with heap:=h',toks:=tk }:=I.turned (fun b o hb e=>kk b o (by simpa using hb) e) f0 f1 f3 f4 f5
  refine⟨_,rfl,znV (s:={ s with heap:=h',toks:=tk }) (n:="range_iterator") st' rfl rfl (by decide) ⟨.int (lo+i),H,I1,⟨t,?_⟩,⟨rfl,rfl⟩,st',fun b hb=>(hf b hb).1⟩⟩
  rw[Int.mul_one]
 done:=by
  intro X hP hw hK hc i pins s σ H E I hf st hg
  subst hP hw hK
  obtain⟨f0,f1,f2,f3,f4,f5⟩:=hf it (by simp)
  exact wpAny_pyNext_range_end (I.ok.hd hc) st (by have:n<=i:=hg;lia) fun h' eb=>⟨rfl,I.turned (t':=s.toks) (fun b o hb e=>eb b o hb e) f0 f1 f3 f4 f5⟩
 self:=fun _ _ _ _ _ st h=>wpAny_pyIter_rangeiter st h
section
variable {X:Cx}{tg:Expr}
def znW (K:X8)(tl:TE):TI:=fun σ H R=>tl σ H fun x H1=>∃a,x=.ref a/\(∃xs,SqL K H1 a xs)/\R (Itl K a) H1
theorem zU {l:Expr}{tl:TE}(hl:PE X l tl):PI X tg l (znW X.K tl):=by
 intro pins s σ H R I h
 refine thn (hl pins s σ H _ I h) fun v s1 ⟨x,H1,I1,r1,q1⟩=>?_
 obtain⟨a,e,⟨xs,hq⟩,q⟩:=q1
 subst e
 cases r1
 obtain⟨its,rv,p,hz⟩:=I1.list hq
 refine T6 p.isList ?_
 refine⟨s1.heap.objs.size,[s1.heap.objs.size],_,_,H1,rfl,I1.kept (t':=s1.toks) fun b o e=>XY _ e,zjU a _,⟨_,W5 _ rfl,rfl,rfl⟩,fun b hb=>?_,q⟩
 have e:b=s1.heap.objs.size:=by simpa using hb
 subst e
 exact I1.fpOk (XW _) (I1.hok.fresh (XW _))
theorem zf1 {pins:List (Addr×Obj)}{σ:St}{H:Hp}{s:X5}{R:It->Hp->Prop}{E:X9->X5->Prop}{lo hi:Int}{t u v:Tok}{tk:Nat}(I:Inv X pins σ H s)(h1:-(2^62)<=lo)(h2:lo<2^62)(h3:-(2^62)<=hi)(h4:hi<2^62)
  (q:R (Itr lo (hi-lo).toNat) H):Xa (Xf X.prog X.w) X.A (pyIter (.ref s.heap.objs.size)) (PIE X pins σ tg R) E { s with heap:=s.heap.push { cls:=.type "range",data:=.fields #[.int lo t,.int hi u,.int 1 v] },toks:=tk }:=by
 refine wpAny_pyIter_range (IsRange.new ..) (small_one h1 h2 h3 h4) ?_
 have I1:Inv X pins σ H { s with heap:=s.heap.push { cls:=.type "range",data:=.fields #[.int lo t,.int hi u,.int 1 v] },toks:=tk }:=I.kept fun b o e=>XY _ e
 refine⟨(s.heap.push { cls:=.type "range",data:=.fields #[.int lo t,.int hi u,.int 1 v] }).objs.size,[(s.heap.push { cls:=.type "range",data:=.fields #[.int lo t,.int hi u,.int 1 v] }).objs.size],_,_,H,rfl,
  I1.kept (t':=tk) fun b o e=>XY _ e,zhE _ lo (hi-lo).toNat,?_,fun b hb=>?_,q⟩
 ·have e1:lo+((0:Nat):Int)*1=lo:=by simp
  have e2:(((hi-lo).toNat:Nat):Int)-((0:Nat):Int)=Builtin.Range.rangeSize lo hi 1:=by rw[rangeSize_one];split<;>lia
  show IsRangeIter _ _ (lo+((0:Nat):Int)*1) ((((hi-lo).toNat:Nat):Int)-((0:Nat):Int)) 1
  rw[e1,e2]
  exact W5 _ rfl
 ·have e:b=(s.heap.push { cls:=.type "range",data:=.fields #[.int lo t,.int hi u,.int 1 v] }).objs.size:=by simpa using hb
  subst e
  exact I1.fpOk (XW _) (I1.hok.fresh (XW _))
def zpK (ta:TA):TI:=fun σ H R=>ta σ H fun vs H1=>∃j:Int,vs=[.int j]/\-(2^62)<=j/\j<2^62/\R (Itr 0 j.toNat) H1
def zpL (ta:TA):TI:=fun σ H R=>ta σ H fun vs H1=>∃i j:Int,vs=[.int i,.int j]/\(-(2^62)<=i/\i<2^62/\-(2^62)<=j/\j<2^62)/\R (Itr i (j-i).toNat) H1
theorem qR {a:Expr}{ta:TA}{p pos:Pos}(hg:Gl X "range")(hm:X.mg "range"=none)(ha:PA X [a] ta)(hs:Wc [a] X.env=[(false,eval a X.env)]:=by rfl):PI X tg (.Call (.Name "range" p) [a] [] pos) (zpK ta):=by
 intro pins s σ H R I h
 refine Call_ (Qe I hg hm boot_range (VZ (thn (ha pos pins s σ H _ I h) fun us s1 ⟨vs,H1,I1,r1,q1⟩=>?_) hs rfl))
 obtain⟨j,e,q1,q2,q⟩:=q1
 subst e
 cases r1 with
 | cons r rr =>
  cases rr
  obtain⟨t,rfl⟩:=r
  exact call_range_1 (zf1 I1 (by lia) (by lia) q1 q2 (by simpa using q))
theorem QO {a b:Expr}{ta:TA}{p pos:Pos}(hg:Gl X "range")(hm:X.mg "range"=none)(ha:PA X [a,b] ta)(hs:Wc [a,b] X.env=[(false,eval a X.env),(false,eval b X.env)]:=by rfl)(hs2:Wc [b] X.env=[(false,eval b X.env)]:=by rfl) :
  PI X tg (.Call (.Name "range" p) [a,b] [] pos) (zpL ta):=by
 intro pins s σ H R I h
 refine Call_ (Qe I hg hm boot_range (VZ (thn (ha pos pins s σ H _ I h) fun us s1 ⟨vs,H1,I1,r1,q1⟩=>?_) (by rw[hs,hs2]) (by rw[hs2];rfl)))
 obtain⟨i,j,e,⟨q1,q2,q3,q4⟩,q⟩:=q1
 subst e
 cases r1 with
 | cons r rr =>
  cases rr with
  | cons r' rr =>
   cases rr
   obtain⟨t,rfl⟩:=r
   obtain⟨t',rfl⟩:=r'
   exact call_range_2 (zf1 I1 q1 q2 q3 q4 q)
def zqK (wi:TI)(g:TG)(tb:TS):TS:=fun D σ H=>wi σ H fun J H1=>∃W:Nat->Nat->St->Hp->Prop,(∃m,W 0 m σ H1)/\∀i m σ H,W i m σ H ->
 (J.stop i H/\D.nx σ H)\/(J.go i H/\∃N:St->Hp->Prop,(∀ σ' H',N σ' H'->∃m',m'<m/\W (i+1) m' σ' H')/\∀x H',J.yld i H x H'->g x σ H' fun σ2 H2=>tb { D with nx:=N,ct:=N,bk:=D.nx } σ2 H2)
noncomputable def zal (fp:List Addr)(h:Heap):List (Addr×Obj):=fp.filterMap fun b=>(h.get? b).map fun o=>(b,o)
theorem j6 {fp:List Addr}{h:Heap}{b:Addr}{o:Obj}(hb:b∈fp)(e:h.get? b=some o):(b,o)∈zal fp h:=Tt.mpr ⟨b,hb,by rw[e];rfl⟩
theorem zjV {fp:List Addr}{h:Heap}{p:Addr×Obj}(hp:p∈zal fp h):p.1∈fp/\h.get? p.1=some p.2:=by
 obtain⟨b,hb,e⟩:=Tt.mp hp
 cases q:h.get? b with
 | none=>rw[q] at e;cases e
 | some o =>
  rw[q] at e
  have e':(b,o)=p:=Option.some.inj e
  subst e'
  exact⟨hb,q⟩
theorem Inv.pinned {pins:List (Addr×Obj)}{σ:St}{H:Hp}{s:X5}{fp:List Addr}(I:Inv X pins σ H s)(hf:∀b∈fp,zaJ X pins H b)(ho:∀b∈fp,∃o,s.heap.get? b=some o/\∀v,o.data ≠ .cell v):Inv X (pins++zal fp s.heap) σ H s :=
 I.pins_of fun p hp=>(XI.mp hp).elim (fun z=>I.pin p (Xs _ z)) fun z=>by
  obtain⟨hb,e⟩:=zjV z
  obtain⟨f0,f1,f2,_⟩:=hf p.1 hb
  obtain⟨o,e',d⟩:=ho p.1 hb
  rw[e] at e';cases e'
  exact⟨e,f0,f1,f2,d⟩
theorem Inv.unpinned {pins pl:List (Addr×Obj)}{σ:St}{H:Hp}{s:X5}(I:Inv X (pins++pl) σ H s):Inv X pins σ H s:=I.pins_of fun p hp=>I.pin p (Xs _ (W1 _ hp))
theorem qA {iter:Expr}{body:List Stmt}{wi:TI}{g:TG}{tb:TS}{pos:Pos}(hp:PassesOwn (Xf X.prog X.w) X.A X.env X.xe)(hc:X.calm=true)(hi:PI X tg iter wi)(hg:PG X tg g)(hb:PSs X body tb)
  (hs:∀x,S4 iter X.env x=pure x:=by intro _;rfl):PS X (.For tg iter body [] pos) (zqK wi g tb):=by
 intro pins s σ H D I h
 refine wpAny_For (thn (hi pins s σ H _ I h) fun v s1 h1=>thn h1 fun itv s2 h2=>?_) hs
 obtain⟨it,fp,tn,J,H2,e,I2,T,st2,f2,W,⟨m0,w0⟩,turn⟩:=h2
 subst e
 have stat:∀{H':Hp},(∀b∈fp,H' b=none)->∀b∈fp,zaJ X pins H' b:=fun hn b hb=>⟨hn b hb,(f2 b hb).2⟩
 refine codeAny_forLoop_any (fun n s'=>∃i σ' H',Inv X pins σ' H' s'/\tn i s'.heap/\(∀b∈fp,H' b=none)/\W i n σ' H') ?_ m0 ⟨0,σ,H2,I2,st2,fun b hb=>(f2 b hb).1,w0⟩
 rintro n s3 ⟨i,σ3,H3,I3,st3,fr3,w3⟩
 rcases turn i n σ3 H3 w3 with ⟨stop,qn⟩ | ⟨go,N,hN,step⟩
 ·refine TC hp (thn (T.done X rfl rfl rfl hc i pins s3 σ3 H3 X.xe I3 (stat fr3) st3 stop) fun r s4 ⟨hr,I4⟩=>?_)
  subst hr
  exact Sr ⟨σ3,H3,I4,qn⟩
 ·refine TC hp (thn (T.item X rfl rfl rfl hc i pins s3 σ3 H3 X.xe I3 (stat fr3) st3 go) fun r s4 ⟨u,hr,h4⟩=>?_)
  subst hr
  refine TC hp (thn h4 fun _ s5 ⟨x,H5,I5,r5,y5,st5,fr5⟩=>?_)
  have I5':=I5.pinned (stat fr5) (T.obj _ _ st5)
  refine TC hp (thn (hg _ s5 σ3 H5 x u _ I5' r5 (step x H5 y5)) fun _ s6 ⟨σ6,H6,I6,q6⟩=>?_)
  refine TC hp (thn (hb _ s6 σ6 H6 _ I6 q6) fun f s7 q7=>?_)
  have RO:∀{σ7:St} {H7:Hp},Inv X (pins++zal fp s5.heap) σ7 H7 s7->N σ7 H7->∃m,m<n/\∃i σ' H',Inv X pins σ' H' s7/\tn i s7.heap/\(∀b∈fp,H' b=none)/\W i m σ' H':=fun {σ7 H7} I7 n7=>by
   obtain⟨m',hm,w7⟩:=hN σ7 H7 n7
   refine⟨m',hm,i+1,σ7,H7,I7.unpinned,T.keep _ _ _ st5 fun b hb o e=>(I7.pin (b,o) (Xs _ (Xs _ (j6 hb e)))).1,fun b hb=>?_,w7⟩
   obtain⟨o,e,d⟩:=T.obj _ _ st5 b hb
   exact(I7.pin (b,o) (Xs _ (Xs _ (j6 hb e)))).2.1
  cases f with
  | next=>obtain⟨σ7,H7,I7,n7⟩:=q7;exact RO I7 n7
  | cont=>obtain⟨σ7,H7,I7,n7⟩:=q7;exact RO I7 n7
  | brk=>obtain⟨σ7,H7,I7,q7⟩:=q7;exact⟨σ7,H7,I7.unpinned,q7⟩
  | ret v=>obtain⟨x7,σ7,H7,I7,r7,q7⟩:=q7;exact⟨x7,σ7,H7,I7.unpinned,r7,q7⟩
end
theorem jS {K:X8}{a:Addr}{xs:List V}{g:TG}{tb:TS}{D:Ends}{σ:St}{H:Hp}(Pv:Nat->St->Hp->Prop)(h0:Pv 0 σ H)(hl:∀i σ H,i<=xs.length->Pv i σ H->SqL K H a xs)
  (hs:∀i x σ H,xs[i]?=some x->Pv i σ H->g x σ H fun σ2 H2=>tb { D with nx:=Pv (i+1),ct:=Pv (i+1),bk:=D.nx } σ2 H2) (hd:∀ σ H,Pv xs.length σ H->D.nx σ H) :
  ∃W:Nat->Nat->St->Hp->Prop,(∃m,W 0 m σ H)/\∀i m σ H,W i m σ H ->
   ((Itl K a).stop i H/\D.nx σ H)\/((Itl K a).go i H/\∃N:St->Hp->Prop,(∀ σ' H',N σ' H'->∃m',m'<m/\W (i+1) m' σ' H')/\∀x H',(Itl K a).yld i H x H'->g x σ H' fun σ2 H2=>tb { D with nx:=N,ct:=N,bk:=D.nx } σ2 H2):=by
 refine⟨fun i m σ H=>m=xs.length-i/\i<=xs.length/\Pv i σ H,⟨xs.length,by simp,WW _,h0⟩,?_⟩
 rintro i m σ H ⟨rfl,hi,p⟩
 have q:=hl i σ H hi p
 by_cases hlt:i<xs.length
 ·refine .inr ⟨⟨xs,xs[i],q,by simp[hlt]⟩,Pv (i+1),fun σ' H' p'=>⟨xs.length-(i+1),by lia,rfl,hlt,p'⟩,fun x H' y=>?_⟩
  obtain⟨e,y⟩:=y
  subst e
  exact hs i x σ _ (y xs q) p
 ·have e:i=xs.length:=by lia
  subst e
  exact .inl ⟨⟨xs,q,XW _⟩,hd σ H p⟩
theorem ja {lo:Int}{n:Nat}{g:TG}{tb:TS}{D:Ends}{σ:St}{H:Hp}(Pv:Nat->St->Hp->Prop)(h0:Pv 0 σ H)
  (hs:∀i σ H,i<n->Pv i σ H->g (.int (lo+i)) σ H fun σ2 H2=>tb { D with nx:=Pv (i+1),ct:=Pv (i+1),bk:=D.nx } σ2 H2) (hd:∀ σ H,Pv n σ H->D.nx σ H) :
  ∃W:Nat->Nat->St->Hp->Prop,(∃m,W 0 m σ H)/\∀i m σ H,W i m σ H ->
   ((Itr lo n).stop i H/\D.nx σ H)\/((Itr lo n).go i H/\∃N:St->Hp->Prop,(∀ σ' H',N σ' H'->∃m',m'<m/\W (i+1) m' σ' H')/\∀x H',(Itr lo n).yld i H x H'->g x σ H' fun σ2 H2=>tb { D with nx:=N,ct:=N,bk:=D.nx } σ2 H2):=by
 refine⟨fun i m σ H=>m=n-i/\i<=n/\Pv i σ H,⟨n,by simp,WW _,h0⟩,?_⟩
 rintro i m σ H ⟨rfl,hi,p⟩
 by_cases hlt:i<n
 ·refine .inr ⟨hlt,Pv (i+1),fun σ' H' p'=>⟨n-(i+1),by lia,rfl,hlt,p'⟩,fun x H' y=>?_⟩
  obtain⟨e,y⟩:=y
  subst e y
  exact hs i σ _ hlt p
 ·have e:i=n:=by lia
  subst e
  exact .inl ⟨XW _,hd σ H p⟩
abbrev R2:=V->V->Hp->VK->Prop
def OpR (X:Cx)(f:X9->X9->Sem X9)(r:R2):Prop :=
 ∀(pins:List (Addr×Obj)) (s:X5) (σ:St) (H:Hp) (x y:V) (v u:X9) (Q:VK),Inv X pins σ H s->RelV x v->RelV y u->r x y H Q ->
  Xa (Xf X.prog X.w) X.A (f v u) (EP X pins σ Q) X.xe s
def UnR (X:Cx)(f:X9->Sem X9)(r:V->Hp->VK->Prop):Prop :=
 ∀(pins:List (Addr×Obj)) (s:X5) (σ:St) (H:Hp) (x:V) (v:X9) (Q:VK),Inv X pins σ H s->RelV x v->r x H Q ->
  Xa (Xf X.prog X.w) X.A (f v) (EP X pins σ Q) X.xe s
def yQ (X:Cx)(f:X9)(r:List V->Hp->VK->Prop):Prop :=
 ∀(pins:List (Addr×Obj)) (s:X5) (σ:St) (H:Hp) (xs:List V) (us:List X9) (Q:VK),Inv X pins σ H s->Vals xs us->r xs H Q ->
  Xa (Xf X.prog X.w) X.A (call f us) (EP X pins σ Q) X.xe s
def zqL (X:Cx)(r:V->Hp->(Bool->Hp->Prop)->Prop):Prop :=
 ∀(pins:List (Addr×Obj)) (s:X5) (σ:St) (H:Hp) (x:V) (v:X9) (Q:Bool->Hp->Prop),Inv X pins σ H s->RelV x v->r x H Q ->
  Xa (Xf X.prog X.w) X.A (truthy v) (TP X pins σ Q) X.xe s
def tOp (r:R2)(ta tb:TE):TE:=fun σ H Q=>ta σ H fun x H1=>tb σ H1 fun y H2=>r x y H2 Q
def tUn (r:V->Hp->VK->Prop)(ta:TE):TE:=fun σ H Q=>ta σ H fun x H1=>r x H1 Q
def rI (C:Int->Int->Prop)(g:Int->Int->V):R2:=fun x y H Q=>∃i j,x=.int i/\y=.int j/\C i j/\Q (g i j) H
def rI0 (g:Int->Int->V):R2:=fun x y H Q=>∃i j,x=.int i/\y=.int j/\Q (g i j) H
def rU (g:Int->V):V->Hp->VK->Prop:=fun x H Q=>∃i,x=.int i/\Q (g i) H
section
variable {X:Cx}{a b c:Expr}{ta tb tc:TE}{pos:Pos}
theorem zow (ha:PE X a ta)(hb:PE X b tb){pins:List (Addr×Obj)}{s:X5}{σ:St}{H:Hp}{R:V->V->Hp->Prop}(I:Inv X pins σ H s)
  (h:ta σ H fun x H1=>tb σ H1 fun y H2=>R x y H2) {Q:X9->X5->Prop} {f:X9->X9->Sem X9}
  (hf:∀v u s2 x y H2,Inv X pins σ H2 s2->RelV x v->RelV y u->R x y H2->Xa (Xf X.prog X.w) X.A (f v u) Q X.xe s2) :
  Xa (Xf X.prog X.w) X.A (eval a X.env) (fun v s₁=>Xa (Xf X.prog X.w) X.A (eval b X.env) (fun u s₂=>Xa (Xf X.prog X.w) X.A (f v u) Q X.xe s₂) X.xe s₁) X.xe s:=by
 refine thn (ha pins s σ H _ I h) fun v s1 ⟨x,H1,I1,r1,q1⟩=>?_
 refine thn (hb pins s1 σ H1 _ I1 q1) fun u s2 ⟨y,H2,I2,r2,q2⟩=>?_
 exact hf v u s2 x y H2 I2 r1 r2 q2
theorem zG {op:OA}{r:R2}(ho:OpR X (UC op) r)(ha:PE X a ta)(hb:PE X b tb):PE X (.BinOp a op b pos) (tOp r ta tb):=by
 intro pins s σ H Q I h
 exact wpAny_BinOp (zow ha hb I h fun v u s2 x y H2 I2 rx ry q=>ho pins s2 σ H2 x y v u Q I2 rx ry q)
theorem zpM {op:UnaryOp}{r:V->Hp->VK->Prop}(ho:UnR X (unaryOp op) r)(ha:PE X a ta):PE X (.UnaryOp op a pos) (tUn r ta):=by
 intro pins s σ H Q I h
 exact UnaryOp_ (thn (ha pins s σ H _ I h) fun v s1 ⟨x,H1,I1,r1,q1⟩=>ho pins s1 σ H1 x v Q I1 r1 q1)
theorem opI {f:X9->X9->Sem X9}{C:Int->Int->Prop}{g:Int->Int->Int}
  (rule:∀(i j:Int) (t u:Tok) (s:X5) (Q:X9->X5->Prop) (E:X9->X5->Prop),C i j->Q (.int (g i j) s.toks) { s with toks:=s.toks+1 }->Xa (Xf X.prog X.w) X.A (f (.int i t) (.int j u)) Q E s) :
  OpR X f (rI C fun i j=>.int (g i j)):=by
 intro pins s σ H x y v u Q I rx ry h
 obtain⟨i,j,rfl,rfl,hc,q⟩:=h
 obtain⟨t,rfl⟩:=rx
 obtain⟨t',rfl⟩:=ry
 exact rule i j t t' s _ _ hc ⟨.int (g i j),H,I.tok _,⟨_,rfl⟩,q⟩
theorem zmL {f:X9->X9->Sem X9}{g:Int->Int->Int}
  (rule:∀(i j:Int) (t u:Tok) (s:X5) (Q:X9->X5->Prop) (E:X9->X5->Prop),Q (.int (g i j) s.toks) { s with toks:=s.toks+1 }->Xa (Xf X.prog X.w) X.A (f (.int i t) (.int j u)) Q E s) :
  OpR X f (rI0 fun i j=>.int (g i j)):=by
 intro pins s σ H x y v u Q I rx ry h
 obtain⟨i,j,rfl,rfl,q⟩:=h
 obtain⟨t,rfl⟩:=rx
 obtain⟨t',rfl⟩:=ry
 exact rule i j t t' s _ _ ⟨.int (g i j),H,I.tok _,⟨_,rfl⟩,q⟩
theorem zox {f:X9->X9->Sem X9}{g:Int->Int->Bool}
  (rule:∀(i j:Int) (t u:Tok) (s:X5) (Q:X9->X5->Prop) (E:X9->X5->Prop),Q (.bool (g i j)) s->Xa (Xf X.prog X.w) X.A (f (.int i t) (.int j u)) Q E s) :
  OpR X f (rI0 fun i j=>.bl (g i j)):=by
 intro pins s σ H x y v u Q I rx ry h
 obtain⟨i,j,rfl,rfl,q⟩:=h
 obtain⟨t,rfl⟩:=rx
 obtain⟨t',rfl⟩:=ry
 exact rule i j t t' s _ _ ⟨.bl (g i j),H,I,rfl,q⟩
def zqM (i j:Int):Prop:=0<=j/\j<=1000000/\i.natAbs<2^64
theorem zhF (k:Nat):(0:Int)<=2^k:=by
 rw[two_pow_cast]
 exact R6 _
theorem qT:OpR X (UC .Add) (rI0 fun i j=>.int (i+j)):=zmL fun _ _ _ _ _ _ _ q=>add_int q
theorem ZA:OpR X (UC .Sub) (rI0 fun i j=>.int (i-j)):=zmL fun _ _ _ _ _ _ _ q=>sub_int q
theorem jB:OpR X (UC .Mod) (rI (fun _ j=>0<j) fun i j=>.int (i%j)):=opI fun i j _ _ _ _ _ hc q=>by
 have h1:(0:Int)<j:=hc
 exact mod_int' (by lia) (by rw[Int.fmod_eq_emod_of_nonneg i (by lia)];exact q)
theorem zkY:OpR X (UC .LShift) (rI zqM fun i j=>.int (i*2^j.toNat)):=opI fun _ _ _ _ _ _ _ hc q=>lshift_int_small hc.1 hc.2.1 hc.2.2 q
theorem zkZ:OpR X (UC .RShift) (rI (fun _ j=>0<=j) fun i j=>.int (i/2^j.toNat)):=opI fun i j _ _ _ _ _ hc q =>
 rshift_int hc (by rw[RW i (zhF _)];exact q)
theorem ze1:OpR X (UC .BitAnd) (rI0 fun i j=>.int (Vk i j)):=zmL fun _ _ _ _ _ _ _ q=>and_int q
theorem zpN:OpR X (UC .BitOr) (rI0 fun i j=>.int (TJ i j)):=zmL fun _ _ _ _ _ _ _ q=>or_int q
theorem unI {f:X9->Sem X9}{g:Int->Int}
  (rule:∀(i:Int) (t:Tok) (s:X5) (Q:X9->X5->Prop) (E:X9->X5->Prop),Q (.int (g i) s.toks) { s with toks:=s.toks+1 }->Xa (Xf X.prog X.w) X.A (f (.int i t)) Q E s) :
  UnR X f (rU fun i=>.int (g i)):=by
 intro pins s σ H x v Q I rx h
 obtain⟨i,rfl,q⟩:=h
 obtain⟨t,rfl⟩:=rx
 exact rule i t s _ _ ⟨.int (g i),H,I.tok _,⟨_,rfl⟩,q⟩
theorem zoy:UnR X (unaryOp .USub) (rU fun i=>.int (-i)):=unI fun _ _ _ _ _ q=>neg_int q
end
noncomputable def zpO:V->V->Bool
 | .non,.non=>true | .non,.int _=>true | .int _,.non=>true | .non,.bl _=>true | .bl _,.non=>true | .non,.str _=>true | .str _,.non=>true
 | .int _,.int _=>true | .bl _,.bl _=>true | .str _,.str _=>true | .byt _,.byt _=>true
 | .int _,.str _=>true | .str _,.int _=>true | .bl _,.str _=>true | .str _,.bl _=>true
 | _,_=>false
def rEq:R2:=fun x y H Q=>zpO x y=true/\Q (.bl (decide (x=y))) H
def rNe:R2:=fun x y H Q=>zpO x y=true/\Q (.bl (!decide (x=y))) H
theorem ze2 {i j:Int}:decide (V.int i=V.int j)=(i==j):=by
 rw[WU]
 simp
theorem zk0 {i j:Bool}:decide (V.bl i=V.bl j)=(i==j):=by
 rw[WU]
 simp
theorem zi4 {i j:Str}:decide (V.str i=V.str j)=(i==j):=by
 rw[WU]
 simp
theorem zi5 {i j:Array UInt8}:decide (V.byt i=V.byt j)=(i.toList==j.toList):=by
 rw[WU]
 cases i
 cases j
 simp
section
variable {X:Cx}{a b c:Expr}{ta tb tc:TE}{pos:Pos}
theorem qv {pins:List (Addr×Obj)}{σ:St}{H:Hp}{s:X5}{Q:VK}{k k':Bool}(I:Inv X pins σ H s)(q:Q (.bl k) H)(e:k=k'):EP X pins σ Q (.bool k') s:=by
 subst e
 exact⟨.bl k,H,I,rfl,q⟩
theorem Jq:OpR X (Vq .Eq) rEq:=by
 intro pins s σ H x y v u Q I rx ry h
 obtain⟨hs,q⟩:=h
 cases x with
 | non =>
  cases rx
  cases y with
  | non=>cases ry;exact PySem.EqNone.eq_none_none (qv I q (by simp))
  | bl j=>cases ry;exact PySem.EqNone.eq_none_bool (qv I q (by simp))
  | int j=>obtain⟨t',rfl⟩:=ry;exact PySem.EqNone.eq_none_int (qv I q (by simp))
  | str j=>obtain⟨t',rfl⟩:=ry;exact PySem.EqNone.eq_none_str (qv I q (by simp))
  | _=>exact absurd (show false=true from hs) XV
 | bl i =>
  cases rx
  cases y with
  | non=>cases ry;exact PySem.EqNone.eq_bool_none (qv I q (by simp))
  | bl j=>cases ry;exact eq_bool (qv I q zk0)
  | str j=>obtain⟨t',rfl⟩:=ry;exact PySem.EqMixed.eq_bool_str (qv I q (by simp))
  | _=>exact absurd (show false=true from hs) XV
 | int i =>
  obtain⟨t,rfl⟩:=rx
  cases y with
  | non=>cases ry;exact PySem.EqNone.eq_int_none (qv I q (by simp))
  | int j=>obtain⟨t',rfl⟩:=ry;exact eq_int (qv I q ze2)
  | str j=>obtain⟨t',rfl⟩:=ry;exact PySem.EqMixed.eq_int_str (qv I q (by simp))
  | _=>exact absurd (show false=true from hs) XV
 | str i =>
  obtain⟨t,rfl⟩:=rx
  cases y with
  | non=>cases ry;exact PySem.EqNone.eq_str_none (qv I q (by simp))
  | bl j=>cases ry;exact PySem.EqMixed.eq_str_bool (qv I q (by simp))
  | int j=>obtain⟨t',rfl⟩:=ry;exact PySem.EqMixed.eq_str_int (qv I q (by simp))
  | str j=>obtain⟨t',rfl⟩:=ry;exact eq_str (qv I q zi4)
  | _=>exact absurd (show false=true from hs) XV
 | byt i =>
  obtain⟨t,rfl⟩:=rx
  cases y with
  | byt j=>obtain⟨t',rfl⟩:=ry;exact PySem.W.eq_bytes (qv I q zi5)
  | _=>exact absurd (show false=true from hs) XV
 | _=>cases y<;>exact absurd (show false=true from hs) XV
theorem zaa:OpR X (Vq .NotEq) rNe:=by
 intro pins s σ H x y v u Q I rx ry h
 obtain⟨hs,q⟩:=h
 cases x with
 | non =>
  cases rx
  cases y with
  | non=>cases ry;exact PySem.EqNone.ne_none_none (qv I q (by simp))
  | bl j=>cases ry;exact PySem.EqNone.ne_none_bool (qv I q (by simp))
  | int j=>obtain⟨t',rfl⟩:=ry;exact PySem.EqNone.ne_none_int (qv I q (by simp))
  | str j=>obtain⟨t',rfl⟩:=ry;exact PySem.EqNone.ne_none_str (qv I q (by simp))
  | _=>exact absurd (show false=true from hs) XV
 | bl i =>
  cases rx
  cases y with
  | non=>cases ry;exact PySem.EqNone.ne_bool_none (qv I q (by simp))
  | bl j=>cases ry;exact ne_bool (qv I q (congrArg not zk0))
  | str j=>obtain⟨t',rfl⟩:=ry;exact PySem.EqMixed.ne_bool_str (qv I q (by simp))
  | _=>exact absurd (show false=true from hs) XV
 | int i =>
  obtain⟨t,rfl⟩:=rx
  cases y with
  | non=>cases ry;exact PySem.EqNone.ne_int_none (qv I q (by simp))
  | int j=>obtain⟨t',rfl⟩:=ry;exact ne_int (qv I q (congrArg not ze2))
  | str j=>obtain⟨t',rfl⟩:=ry;exact PySem.EqMixed.ne_int_str (qv I q (by simp))
  | _=>exact absurd (show false=true from hs) XV
 | str i =>
  obtain⟨t,rfl⟩:=rx
  cases y with
  | non=>cases ry;exact PySem.EqNone.ne_str_none (qv I q (by simp))
  | bl j=>cases ry;exact PySem.EqMixed.ne_str_bool (qv I q (by simp))
  | int j=>obtain⟨t',rfl⟩:=ry;exact PySem.EqMixed.ne_str_int (qv I q (by simp))
  | str j=>obtain⟨t',rfl⟩:=ry;exact ne_str (qv I q (congrArg not zi4))
  | _=>exact absurd (show false=true from hs) XV
 | byt i =>
  obtain⟨t,rfl⟩:=rx
  cases y with
  | byt j=>obtain⟨t',rfl⟩:=ry;exact PySem.W.ne_bytes (qv I q (congrArg not zi5))
  | _=>exact absurd (show false=true from hs) XV
 | _=>cases y<;>exact absurd (show false=true from hs) XV
theorem zk1:OpR X (Vq .Lt) (rI0 fun i j=>.bl (decide (i<j))):=zox fun _ _ _ _ _ _ _ q=>lt_int q
theorem zi6:OpR X (Vq .LtE) (rI0 fun i j=>.bl (decide (i<=j))):=zox fun _ _ _ _ _ _ _ q=>le_int q
theorem zi7:OpR X (Vq .Gt) (rI0 fun i j=>.bl (decide (j<i))):=zox fun _ _ _ _ _ _ _ q=>gt_int q
theorem QS:OpR X (Vq .In) (fun x y H Q=>∃i j,x=.str i/\y=.str j/\Q (.bl (!(VY j i 0 j.length 1).isEmpty)) H):=by
 intro pins s σ H x y v u Q I rx ry h
 obtain⟨i,j,rfl,rfl,q⟩:=h
 obtain⟨t,rfl⟩:=rx
 obtain⟨t',rfl⟩:=ry
 exact in_str (qv I q rfl)
theorem zoz:OpR X (Vq .Is) (fun x y H Q=>y=.non/\Q (.bl (decide (x=.non))) H):=by
 intro pins s σ H x y v u Q I rx ry h
 obtain⟨rfl,q⟩:=h
 cases ry
 refine is_none_gen (qv I q ?_)
 cases x<;>first
  | (cases rx;rfl)
  | (obtain⟨t,rfl⟩:=rx;rfl)
theorem z9 (b:Expr){op:CmpOp}(h:op ≠ .In:=by decide)(h2:op ≠ .NotIn:=by decide):RG op b=false:=by
 have e1:(op==CmpOp.In)=false:=by cases op<;>first | rfl | exact absurd rfl h
 have e2:(op==CmpOp.NotIn)=false:=by cases op<;>first | rfl | exact absurd rfl h2
 cases b<;>simp[RG,e1,e2]
theorem Zm {op:CmpOp}{r:R2}(ho:OpR X (Vq op) r)(ha:PE X a ta)(hb:PE X b tb)(hm:RG op b=false):PE X (.Compare a [op] [b] pos) (tOp r ta tb):=by
 intro pins s σ H Q I h
 exact wpAny_Compare1 (zow ha hb I h fun v u s2 x y H2 I2 rx ry q=>ho pins s2 σ H2 x y v u Q I2 rx ry q) hm
def znX (t:TE):TT:=fun σ H Q=>t σ H fun x H'=>∃k,x=.bl k/\Q k H'
theorem zP {op:CmpOp}{r:R2}(ho:OpR X (Vq op) r)(ha:PE X a ta)(hb:PE X b tb)(hm:RG op b=false):PT X (.Compare a [op] [b] pos) (znX (tOp r ta tb)):=by
 intro pins s σ H Q I h
 refine PV (thn (ha pins s σ H _ I h) fun v s1 ⟨x,H1,I1,r1,q1⟩=>thn (hb pins s1 σ H1 _ I1 q1) fun u s2 ⟨y,H2,I2,r2,q2⟩ =>
  thn (ho pins s2 σ H2 x y v u _ I2 r1 r2 q2) fun c s3 ⟨z,H3,I3,r3,k,e,q3⟩=>?_) hm
 subst e
 cases r3
 exact V2 ⟨H3,I3,q3⟩
def zoA (r r':R2)(ta tb tc:TE):TE:=fun σ H Q=>ta σ H fun x H1=>tb σ H1 fun y H2=>r x y H2 fun z H3=>∃k,z=.bl k /\
 (if k=true then tc σ H3 fun w' H4=>r' y w' H4 Q else Q (.bl false) H3)
theorem zf2 {op op':CmpOp}{r r':R2}(ho:OpR X (Vq op) r)(ho':OpR X (Vq op') r')(ha:PE X a ta)(hb:PE X b tb)(hc:PE X c tc)
  (hm:lastMarks [op,op'] [b,c]=false:=by with_unfolding_all rfl):PT X (.Compare a [op,op'] [b,c] pos) (znX (zoA r r' ta tb tc)):=by
 intro pins s σ H Q I h
 refine isTrue_chain (thn (ha pins s σ H _ I h) fun v s1 ⟨x,H1,I1,r1,q1⟩=>test_link (thn (hb pins s1 σ H1 _ I1 q1) fun u s2 ⟨y,H2,I2,r2,q2⟩ =>
  thn (ho pins s2 σ H2 x y v u _ I2 r1 r2 q2) fun d s3 ⟨z,H3,I3,r3,k,e,q3⟩=>?_)) hm
 subst e
 cases r3
 refine V2 ?_
 cases k with
 | false =>
  obtain⟨k',e',q'⟩:=q3
  cases e'
  exact ite_ff ⟨H3,I3,q'⟩
 | true =>
  refine ite_tt (test_last (thn (hc pins s3 σ H3 _ I3 q3) fun w' s4 ⟨z',H4,I4,r4,q4⟩=>thn (ho' pins s4 σ H4 y z' u w' _ I4 r2 r4 q4) fun d' s5 ⟨z2,H5,I5,r5,k2,e2,q5⟩=>?_))
  subst e2
  cases r5
  exact V2 ⟨H5,I5,q5⟩
def zoB (K:X8)(x:V)(H:Hp)(k:Bool):Prop :=
 match x with
 | .non=>k=false
 | .bl b=>k=b
 | .int i=>k=(i != 0)
 | .str y=>y.length<=XU/\k=((y.length:Int) != 0)
 | .byt y=>y.size<=XU/\k=((y.size:Int) != 0)
 | .ref p=>(∃xs,SqL K H p xs/\k=!xs.isEmpty)\/(∃xs,SqT K H p xs/\k=!xs.isEmpty)\/∃kvs,H p=some (.dK kvs)/\k=!kvs.isEmpty
 | _=>False
theorem zhG {κ:Type}{kvs:List (κ × V)}{vs:List (κ × X9)}(r:KV kvs vs):(!vs.isEmpty)=!kvs.isEmpty:=by
 cases r<;>rfl
theorem zcH {xs:List V}{its:List X9}(r:Vals xs its):(!its.toArray.isEmpty)=!xs.isEmpty:=by
 cases r<;>simp
theorem Qf:(XU:Nat)<2^63:=by rw[Tn];decide
theorem zoC:zqL X (fun x H Q=>∃k,zoB X.K x H k/\Q k H):=by
 intro pins s σ H x v Q I rx h
 obtain⟨k,e,q⟩:=h
 have hl:=Qf
 have hs:XU=16777216:=Tn
 cases x with
 | non =>
  cases rx
  have e':k=false:=e
  subst e'
  exact truthy_none ⟨H,I,q⟩
 | bl b =>
  cases rx
  have e':k=b:=e
  subst e'
  exact V2 ⟨H,I,q⟩
 | int i =>
  obtain⟨t,rfl⟩:=rx
  have e':k=(i != 0):=e
  subst e'
  exact PySem.P.truthy_int ⟨H,I,q⟩
 | str y =>
  obtain⟨t,rfl⟩:=rx
  obtain⟨hy,e'⟩:y.length<=XU/\k=((y.length:Int) != 0):=e
  subst e'
  exact PySem.P.truthy_str (by lia) ⟨H,I.tok _,q⟩
 | byt y =>
  obtain⟨t,rfl⟩:=rx
  obtain⟨hy,e'⟩:y.size<=XU/\k=((y.size:Int) != 0):=e
  subst e'
  exact PySem.W.truthy_bytes (by lia) ⟨H,I.tok _,q⟩
 | ref p =>
  cases rx
  have e':(∃xs,SqL X.K H p xs/\k=!xs.isEmpty)\/(∃xs,SqT X.K H p xs/\k=!xs.isEmpty)\/∃kvs,H p=some (.dK kvs)/\k=!kvs.isEmpty:=e
  rcases e' with ⟨xs,hx,e'⟩ | ⟨xs,hx,e'⟩ | ⟨kvs,hx,e'⟩
  ·subst e'
   obtain⟨its,r,pl,hz⟩:=I.list hx
   have hlen:=r.length
   exact wpAny_truthy_list pl.isList (by simp only[Xp];lia) ⟨H,I.tok _,by rw[zcH r];exact q⟩
  ·subst e'
   obtain⟨its,r,pl,hz⟩:=I.tuple hx
   have hlen:=r.length
   exact truthy_tuple pl (by simp only[Xp];lia) ⟨H,I.tok _,by rw[zcH r];exact q⟩
  ·subst e'
   obtain⟨hz,hS,vs,r,m⟩:kvs.length<=XU/\(p==T1)=false/\∃vs,KV kvs vs/\s.heap.DictOf (qc X.prog X.w) p vs:=I.hok p _ hx
   have hlen:kvs.length=vs.length:=Paired.length r
   exact wpAny_truthy_dict hS m (by lia) ⟨H,I.tok _,by rw[zhG r];exact q⟩
 | _=>exact(show False from e).elim
theorem JT (ha:PE X a ta)(he:∀whole,isTrue a X.env whole=(do let v <- whole;standAt a.pos;OR [v] (truthy v))) :
  PT X a (fun σ H Q=>ta σ H fun x H'=>∃k,zoB X.K x H' k/\Q k H'):=by
 intro pins s σ H Q I h
 exact isTrue_plain (thn (ha pins s σ H _ I h) fun v s1 ⟨x,H1,I1,r1,q1⟩=>zoC pins s1 σ H1 x v Q I1 r1 q1) (he _)
theorem Yq:OpR X (UC .Add) (fun x y H Q=>∃i j,x=.str i/\y=.str j/\i.length+j.length<=XU/\Q (.str (i++j)) H):=by
 intro pins s σ H x y v u Q I rx ry h
 obtain⟨i,j,rfl,rfl,hz,q⟩:=h
 obtain⟨t,rfl⟩:=rx
 obtain⟨t',rfl⟩:=ry
 exact add_str (fun t' tk=>⟨.str (i++j),H,I.tok _,⟨_,rfl⟩,q⟩) hz
theorem vals1 {x:V}{us:List X9}(r:Vals [x] us):∃u,us=[u]/\RelV x u:=by
 cases r with
 | cons r1 r2=>cases r2;exact⟨_,rfl,r1⟩
theorem vals2 {x y:V}{us:List X9}(r:Vals [x,y] us):∃u w',us=[u,w']/\RelV x u/\RelV y w':=by
 cases r with
 | cons r1 r2 =>
  cases r2 with
  | cons r3 r4=>cases r4;exact⟨_,_,rfl,r1,r3⟩
theorem ZN (hc:X.calm=true):yQ X (.builtin "max") (fun xs H Q=>∃i j,xs=[.int i,.int j]/\Q (.int (if j>i then j else i)) H):=by
 intro pins s σ H xs us Q I r h
 obtain⟨i,j,rfl,q⟩:=h
 obtain⟨u,w',rfl,⟨t,rfl⟩,⟨t',rfl⟩⟩:=vals2 r
 refine max_two_ints (I.ok.hd hc) fun h' tk k=>⟨_,H,I.kept k,?_,q⟩
 by_cases hj:j>i
 ·rw[if_pos hj,if_pos hj];exact⟨_,rfl⟩
 ·rw[if_neg hj,if_neg hj];exact⟨_,rfl⟩
theorem ZO (hc:X.calm=true):yQ X (.builtin "min") (fun xs H Q=>∃i j,xs=[.int i,.int j]/\Q (.int (if j<i then j else i)) H):=by
 intro pins s σ H xs us Q I r h
 obtain⟨i,j,rfl,q⟩:=h
 obtain⟨u,w',rfl,⟨t,rfl⟩,⟨t',rfl⟩⟩:=vals2 r
 refine min_two_ints (I.ok.hd hc) fun h' tk k=>⟨_,H,I.kept k,?_,q⟩
 by_cases hj:j<i
 ·rw[if_pos hj,if_pos hj];exact⟨_,rfl⟩
 ·rw[if_neg hj,if_neg hj];exact⟨_,rfl⟩
theorem zbq:yQ X (.type "int") (fun xs H Q=>(∃i,xs=[.int i]/\Q (.int i) H)\/∃k,xs=[.bl k]/\Q (.int (if k then 1 else 0)) H):=by
 intro pins s σ H xs us Q I r h
 rcases h with ⟨i,rfl,q⟩ | ⟨k,rfl,q⟩
 ·obtain⟨u,rfl,t,rfl⟩:=vals1 r
  exact call_int_int ⟨.int i,H,I,⟨_,rfl⟩,q⟩
 ·obtain⟨u,rfl,r1⟩:=vals1 r
  cases r1
  exact call_int_bool ⟨.int (if k then 1 else 0),H,I.tok _,⟨_,rfl⟩,q⟩
theorem ze3:yQ X (.type "str") (fun xs H Q=>∃i,xs=[.int i]/\i.natAbs.log2<1920/\Q (.str (toString i)) H):=by
 intro pins s σ H xs us Q I r h
 obtain⟨i,rfl,hz,q⟩:=h
 obtain⟨u,rfl,t,rfl⟩:=vals1 r
 exact PySem.P.str_of_int hz ⟨.str _,H,I.tok _,⟨_,rfl⟩,q⟩
end
structure zoD (h:Heap)(x dx C:Addr)(mA:Str->Option X9):Prop where
 obj:h.get? x=some (P8 C dx)
 ns:h.Ns1 dx mA
 ne:dx≠x
theorem zjW {h:Heap}{dx:Addr}{mA:Str->Option X9}(n:h.Ns1 dx mA):∃od,h.get? dx=some od/\∀name,PD name od=some (mA name):=by
 obtain⟨o,es,ep,ho,hd,hk,_,hm⟩:=n
 refine⟨o,ho,fun name=>?_⟩
 have e:=hm name
 unfold nsFind findBy at e
 rw[<- Array.find?_toList] at e
 unfold PD
 rw[hd]
 dsimp only
 split
 ·rename_i y q
  rw[q] at e
  exact congrArg some e
 ·rename_i q
  rw[q] at e
  have a:es.toList.any (·.refKey)=false:=by
   rw[RL]
   intro y hy
   obtain⟨z,t,hkey⟩:=hk y (Ps.mp hy)
   simp[DictEntry.refKey,hkey]
  have a':¬ es.toList.any (·.refKey)=true:=by rw[a];exact XV
  rw[if_neg a']
  exact congrArg some e
theorem zoD.look {h:Heap}{x dx C:Addr}{mA:Str->Option X9}(I:zoD h x dx C mA):∃od,PySem.W.InstAt h x (P8 C dx) C (some od)/\∀name,PD name od=some (mA name) :=
 let ⟨od,ho,hl⟩:=zjW I.ns
 ⟨od,⟨I.obj,rfl,rfl,ho⟩,hl⟩
section
variable {prog:Xy}{w:W6}{A:WG}{E:X9->X5->Prop}{s:X5}{K:X8}{x dx C f:Addr}{mA:Str->Option X9}{name:Str}{v:X9}
end
theorem zcD.some_of {v:V}{o:Option X9}(r:zcD (some v) o):∃u,o=some u/\RelV v u:=by
 cases o with
 | none=>exact(show False from r).elim
 | some u=>exact⟨u,rfl,r⟩
section
variable {P:Xy}{w:W6}{H H':Hp}{h h':Heap}{a C dx:Addr}{fs fs':List (Str×V)}
theorem zmM (hok:HOk P w H h)(e:H a=some (.ins C dx fs)):∃mA,zoD h a dx C mA/\(∀f,zcD (fs.lookup f) (mA f))/\PySem.Within mA (fs.map (·.1))/\fs.length<=1000/\H dx=some (.own a):=by
 obtain⟨d,z,ne,ob,mA,n,r,q⟩:=(show jn P w H h a (.ins C dx fs) from hok a _ e)
 exact⟨mA,⟨ob,n,ne⟩,r,q,z,d⟩
end
structure Cls (K:X8)(C:Addr):Prop where
 pg:PySem.W.plainGet K C Str.empty=true
 hd:PySem.W.hasDictIn K C=true
 po:PySem.W.plainOver K C=true
 sa:PySem.W.findIn K (.ref C) "__setattr__"=some (some (.builtin "object.__setattr__"))
theorem Cls.get {K:X8}{C:Addr}(c:Cls K C)(f:Str):PySem.W.plainGet K C f=true:=c.pg
section
variable {X:Cx}{pins:List (Addr×Obj)}{σ:St}{H:Hp}{s:X5}{a C dx:Addr}{fs:List (Str×V)}{f:Str}{v:V}{A:WG}{E:X9->X5->Prop}
end
section
variable {X:Cx}{o e value:Expr}{f:Str}{pos pos' tpos:Pos}{ta tv:TE}
end
section
variable {X:Cx}{pins:List (Addr×Obj)}{σ:St}{H:Hp}{s:X5}{A:WG}{E:X9->X5->Prop}{Q:X9->X5->Prop}{c:X9}{b:Bool}
inductive zbr (K:X8)(H:Hp):V->X9->Prop where
 | non:zbr K H .non (.type "NoneType")
 | bl (x:Bool):zbr K H (.bl x) (.type "bool")
 | int (i:Int):zbr K H (.int i) (.type "int")
 | str (x:Str):zbr K H (.str x) (.type "str")
 | flt (x:UInt64):zbr K H (.flt x) (.type "float")
 | lst {a:Addr} {xs:List V} (e:H a=some (.lst xs)):zbr K H (.ref a) (.type "list")
 | frz {a:Addr} {o:Obj} {xs:List V} (e:H a=some (.frz o (.lst xs))):zbr K H (.ref a) (.type "list")
 | tup {a:Addr} {xs:List V} (e:H a=some (.tup xs)):zbr K H (.ref a) (.type "tuple")
 | dK {a:Addr} {kvs:List (Key×V)} (e:H a=some (.dK kvs)):zbr K H (.ref a) (.type "dict")
 | dT {a:Addr} {kvs:List (List Key×V)} (e:H a=some (.dT kvs)):zbr K H (.ref a) (.type "dict")
 | ins {a C dx:Addr} {fs:List (Str×V)} (e:H a=some (.ins C dx fs)) (cl:Cls K C) (ha:PySem.W.findIn K (.ref C) "__class__"=some (some (.builtin "object.__class__")))
   (hn:PySem.W.specialIn K (.builtin "object.__class__") "__get__"=some (some (.builtin "getset_descriptor.__get__"))) (htk:PySem.W.takesIn K (.builtin "object.__class__")=some true)
   (hm:PySem.W.mroIn K C (.type "object")=some true):zbr K H (.ref a) (.ref C)
theorem zjX {x:V}{u t:X9}(I:Inv X pins σ H s)(rx:RelV x u)(ty:zbr X.K H x t)(e:PySem.W.kitOne X.K t c=some b)(h:∀tk,Q (.bool b) { s with toks:=tk }) :
  Xa (Xf X.prog X.w) A (call (.builtin "isinstance") [u,c]) Q E s:=by
 cases ty with
 | non=>cases (show u=Us from rx);exact VW PySem.W.kitx_none I.kIn T0 e (fun z=>nomatch z) h
 | bl y=>cases (show u=OY y from rx);exact VW PySem.W.kitx_bool I.kIn T0 e (fun z=>nomatch z) h
 | int i=>obtain⟨t,q⟩:=(show ∃t,u=Vy i t from rx);cases q;exact VW PySem.W.kitx_int I.kIn T0 e (fun z=>nomatch z) h
 | str y=>obtain⟨t,q⟩:=(show ∃t,u=OM y t from rx);cases q;exact VW PySem.W.kitx_str I.kIn T0 e (fun z=>nomatch z) h
 | flt y=>obtain⟨t,q⟩:=(show ∃t,u=Value.float y t from rx);cases q;exact VW PySem.W.kitx_float I.kIn T0 e (fun z=>nomatch z) h
 | @lst a xs ea =>
  cases (show u=WE a from rx)
  obtain⟨_,_,n,_,h1⟩:=(show jn X.prog X.w H s.heap a (.lst xs) from I.hok a _ ea)
  exact VW PySem.W.kitx_list I.kIn ⟨_,h1,rfl⟩ e (fun z=>nomatch z) h
 | @frz a ob xs ea =>
  cases (show u=WE a from rx)
  obtain⟨_,_,_,n,_,h1⟩:=(show jn X.prog X.w H s.heap a (.frz ob (.lst xs)) from I.hok a _ ea)
  exact VW PySem.W.kitx_list I.kIn ⟨_,h1,rfl⟩ e (fun z=>nomatch z) h
 | @tup a xs ea =>
  cases (show u=WE a from rx)
  obtain⟨_,_,_,p⟩:=(show jn X.prog X.w H s.heap a (.tup xs) from I.hok a _ ea)
  obtain⟨o,h1,h2,_⟩:=p
  exact VW PySem.W.kitx_tuple I.kIn ⟨o,h1,h2⟩ e (fun z=>nomatch z) h
 | @dK a kvs ea =>
  cases (show u=WE a from rx)
  obtain⟨_,_,vs,_,p⟩:=(show jn X.prog X.w H s.heap a (.dK kvs) from I.hok a _ ea)
  obtain⟨o,es,ep,h1,h2,_⟩:=p
  exact VW PySem.W.kitx_dict I.kIn ⟨o,h1,h2.1⟩ e (fun z=>nomatch z) h
 | @dT a kvs ea =>
  cases (show u=WE a from rx)
  obtain⟨_,_,xs,_,o,es,ep,h1,h2,_⟩:=(show jn X.prog X.w H s.heap a (.dT kvs) from I.hok a _ ea)
  exact VW PySem.W.kitx_dict I.kIn ⟨o,h1,h2.1⟩ e (fun z=>nomatch z) h
 | @ins a C dx fs ea cl ha hn htk hm =>
  cases (show u=WE a from rx)
  obtain⟨mA,O,_⟩:=zmM I.hok ea
  obtain⟨od,J,_⟩:=O.look
  exact VW (PySem.W.kitx_own (cl.get _) cl.hd ha hn htk hm) I.kIn J e (fun z=>nomatch z) h
end
structure Qg (k:Nat)(A:WG):Prop where
 hd:A.handled=none
 dp:A.depth+3*k+5<recursionLimit
 un:A.units+16*k+200<U6
theorem Qg.mono {j k:Nat}{A:WG}(r:Qg k A)(h:j<=k):Qg j A:=⟨r.hd,by have:=r.dp;lia,by have:=r.un;lia⟩
theorem Qg.deeper {k:Nat}{A:WG}(r:Qg (k+1) A)(env:Env):Qg k (A.deeper env) :=
 ⟨r.hd,by have:=r.dp;show A.depth+1+3*k+5<_;lia,by have:=r.un;show A.units+3+16*k+200<_;lia⟩
theorem Qg.depth {k:Nat}{A:WG}(r:Qg k A):A.depth<recursionLimit:=by have:=r.dp;lia
theorem Qg.units {k:Nat}{A:WG}(r:Qg k A):A.units+64<U6:=by have:=r.un;lia
def zqN:TA:=fun _ H Q=>Q [] H
def zpP (ta:TE)(tr:TA):TA:=fun σ H Q=>ta σ H fun x H1=>tr σ H1 fun xs H2=>Q (x::xs) H2
section
variable {X:Cx}{e:Expr}{es:List Expr}{te:TE}{t:TA}{pos:Pos}
theorem zb:PA X [] zqN:=fun _ _ _ _ H Q I h=>Calls.spliced_nil ⟨[],H,I,.nil,h⟩
theorem za (ha:PE X e te)(hr:PA X es t)(hs:Wc (e::es) X.env=(false,eval e X.env)::Wc es X.env:=by rfl):PA X (e::es) (zpP te t):=by
 intro pos pins s σ H Q I h
 rw[hs]
 show Xa _ _ (spliced ((false,eval e X.env)::RI pos (Wc es X.env))) _ _ s
 refine R5 (thn (ha pins s σ H _ I h) fun u s1 ⟨x,H1,I1,r1,q1⟩=>?_)
 exact thn (hr pos pins s1 σ H1 _ I1 q1) fun us s2 ⟨xs,H2,I2,r2,q2⟩=>⟨x::xs,H2,I2,.cons r1 r2,q2⟩
def zqO (t:TA):TE:=fun σ H Q=>t σ H fun xs H1=>xs.length<=XU/\∀p,H1 p=none->Q (.ref p) (upd H1 p (.tup xs))
def zqP (t:TA):TE:=fun σ H Q=>t σ H fun xs H1=>xs.length<=XU/\∀p,H1 p=none->Q (.ref p) (upd H1 p (.lst xs))
theorem jO {x1}(h:PA X es t):PE X (.Tuple es x1 pos) (zqO t):=by
 intro pins s σ H Q I hq
 refine wpAny_Tuple_spliced (thn (h pos pins s σ H _ I hq) fun us s1 ⟨xs,H1,I1,r,z,q⟩=>⟨by rw[<- r.length];exact z,?_⟩)
 have hf:H1 s1.heap.objs.size=none:=I1.hok.fresh (XW _)
 refine⟨.ref s1.heap.objs.size,upd H1 s1.heap.objs.size (.tup xs),I1.laid (t':=s1.toks) (fun b u e=>XY _ e) (XW _) ?_,rfl,q _ hf⟩
 exact⟨z,us,r,⟨_,W5 _ rfl,rfl,_,rfl⟩⟩
theorem qu (h:PA X es t):PE X (.List es pos) (zqP t):=by
 intro pins s σ H Q I hq
 refine wpAny_List_spliced (thn (h pos pins s σ H _ I hq) fun us s1 ⟨xs,H1,I1,r,z,q⟩=>⟨by rw[<- r.length];exact z,?_⟩)
 have hf:H1 s1.heap.objs.size=none:=I1.hok.fresh (XW _)
 refine⟨.ref s1.heap.objs.size,upd H1 s1.heap.objs.size (.lst xs),I1.laid (t':=s1.toks) (fun b u e=>XY _ e) (XW _) ?_,rfl,q _ hf⟩
 exact⟨z,us,0,r,W5 _ rfl⟩
end
abbrev Sp:=List V->Hp->VK->XK->Prop
abbrev CXT:=List Env->Hp->X5->XK->X9->X5->Prop
structure zmN (P:Xy)(w:W6)(K:X8)(mg:Str->Option X9)(base:Heap)(A:WG)(outer:List Env)(s:X5)(H:Hp):Prop where
 frames:A.frames=some outer
 mod:Mod K mg base
 bs:∀b o,base.get? b=some o->s.heap.get? b=some o/\H b=none
 bsz:base.objs.size<=s.heap.objs.size
 funs:s.heap.FunFrames base outer
 frf:∀b∈frs outer,H b=none
 hok:HOk P w H s.heap
 bare:RN s.gens
def CE (outer:List Env)(P:Xy)(w:W6)(H:Hp)(s:X5)(Q:VK)(u:X9)(s':X5):Prop :=
 ∃v H',s'.os=s.os/\RN s'.gens/\Un (frs outer) [] H H' s.heap s'.heap/\HOk P w H' s'.heap/\RelV v u/\Q v H'
def CR (CX:CXT)(outer:List Env)(P:Xy)(w:W6)(H:Hp)(s:X5)(Q:VK)(E:XK)(r:Result)(s':X5):Prop :=
 match r with
 | .ok (.ret u)=>CE outer P w H s Q u s'
 | .ok _=>False
 | .error e=>CX outer H s E e s'
structure zI (P:Xy)(w:W6)(K:X8)(mg:Str->Option X9)(base:Heap)(CX:CXT)(k:Nat)(f:Addr)(fd:XO)(ps:List Str)(sp:Sp):Prop where
 len:∀vs H Q E,sp vs H Q E->vs.length=ps.length
 run:∀(A:WG) (outer:List Env) (s:X5) (H:Hp) (args:Args) (us:List X9) (vs:List V) (Q:VK) (E:XK),Qg k A->zmN P w K mg base A outer s H->OQ s fd args (ps.zip us)->Vals vs us->sp vs H Q E ->
  Ti (Xf P w) A (.call (.ref f) args) (CR CX outer P w H s Q E) s
section
variable {X:Cx}{pins:List (Addr×Obj)}{σ:St}{H:Hp}{s s':X5}
theorem Inv.env0 (I:Inv X pins σ H s):zmN X.prog X.w X.K X.mg X.base X.A X.stack s H :=
 ⟨I.ok.frames,I.ok.mod,I.bs,X0 I.ok.bsz I.sz,I.stack,I.stkFree,I.hok,I.bare⟩
theorem Inv.after {Q:VK}{u:X9}(I:Inv X pins σ H s)(h:CE X.stack X.prog X.w H s Q u s'):EP X pins σ Q u s':=by
 obtain⟨v,H',os,bare,un,hok,r,q⟩:=h
 obtain⟨hh,g,d,t,os'⟩:=s'
 obtain rfl:os'=s.os:=os
 exact⟨v,H',I.call (h':=hh) (g':=g) (d':=d) (t':=t) (ch:=[]) un hok bare (fun b z=>absurd z (by simp)),r,q⟩
end
def zpQ (sp:Sp)(dvs:List V)(E:XK)(t:TA):TE:=fun σ H Q=>t σ H fun vs H1=>sp (vs++dvs) H1 Q E
def Binds (K:X8)(fd:XO)(ps:List Str)(ds:List X9):Prop :=
 ∀(s:X5) (us:List X9),K.In s.heap->(us++ds).length=ps.length->OQ s fd ⟨us,[]⟩ (ps.zip (us++ds))
theorem Binds.all {K:X8}{fd:XO}{ps:List Str}(h:∀us:List X9,us.length=ps.length->bindArgs fd ⟨us,[]⟩=pure (ps.zip us)):Binds K fd ps []:=fun s us _ hl=>by
 rw[W4] at hl ⊢
 exact .of_eq (h us hl)
def Passes (CX:CXT)(X:Cx)(E:XK):Prop:=∀(pins:List (Addr×Obj)) (σ:St) (H:Hp) (s:X5) (e:X9) (s':X5),Inv X pins σ H s->CX X.stack H s E e s'->X.xe e s'
section
variable {X:Cx}{CX:CXT}{k:Nat}{f C:Addr}{fd:XO}{ps:List Str}{sp:Sp}{dvs:List V}{ds:List X9}{E:XK}{x m:Str}{p pos apos:Pos}{e o:Expr}{es:List Expr}{ta:TE}{t:TA}
theorem zoE {pins:List (Addr×Obj)}{σ:St}{H:Hp}{s:X5}{Q:VK}{us:List X9}{vs:List V}(F:zI X.prog X.w X.K X.mg X.base CX k f fd ps sp)(hr:Qg k X.A)(hb:Binds X.K fd ps ds)(hd:Vals dvs ds)(hx:Passes CX X E)
  (I:Inv X pins σ H s) (r:Vals vs us) (h:sp (vs++dvs) H Q E):Xa (Xf X.prog X.w) X.A (call (.ref f) us) (EP X pins σ Q) X.xe s:=by
 have r2:Vals (vs++dvs) (us++ds):=r.append hd
 have hl:(us++ds).length=ps.length:=by rw[<- r2.length];exact F.len _ _ _ _ h
 refine wpAny_call (Sj (F.run X.A X.stack s H ⟨us,[]⟩ (us++ds) (vs++dvs) Q E hr I.env0 (hb s us I.kIn hl) r2 h) fun r s' hq=>?_)
 cases r with
 | error e=>exact hx pins σ H s e s' I hq
 | ok fl =>
  cases fl with
  | ret u=>exact I.after hq
  | next=>exact Wl hq
  | brk=>exact Wl hq
  | cont=>exact Wl hq
theorem zo (F:zI X.prog X.w X.K X.mg X.base CX k f fd ps sp)(hr:Qg k X.A)(hg:Gl X x)(hm:X.mg x=some (.ref f))(hk:S9 X.K (.ref f)=true)(hb:Binds X.K fd ps ds)(hd:Vals dvs ds)(hx:Passes CX X E)
  (ha:PA X (e::es) t) (hdb:(x==("__debug__":Str))=false:=by decide) (he:Wc (e::es) X.env=(false,eval e X.env)::Wc es X.env:=by rfl) (hpl:(RI pos (Wc es X.env)).any (·.1)=false:=by rfl) :
  PE X (.Call (.Name x p) (e::es) [] pos) (zpQ sp dvs E t):=by
 intro pins s σ H Q I h
 refine R4 (zi2 I hg hm ?_ hdb)
 refine PySem.W.callWith_K (h₀:=X.base) I.ok.mod.kin hk (thn (ha pos pins s σ H _ I h) fun us s1 ⟨vs,H1,I1,r,q⟩=>⟨I1.kIn,?_⟩) he hpl
 exact zoE F hr hb hd hx I1 r q
end
section
variable {X:Cx}{CX:CXT}{k:Nat}{f C:Addr}{fd:XO}{ps ks:List Str}{sp:Sp}{E:XK}{x m:Str}{p pos apos kpos:Pos}{e o:Expr}{es:List Expr}{kws:List OF}{te ta:TE}{t tk:TA}{nm:Option Str}
variable {g:List X9->List X9->List X9}{gV:List V->List V->List V}
end
structure zQ (N P:List Str)(sc:Uh):Prop where
 kind:sc.kind=.function
 co:sc.isCoroutine=false
 gen:sc.isGenerator=false
 nd:N.Nodup
 pre:N.take P.length=P
 par:∀x∈P,sc.names.lookup x=some .local\/sc.names.lookup x=some .cell
 nofree:∀y∈sc.names,y.2 ≠ .free
theorem zd7 {kindOf:Str->Option TK}{x:Str}:∀{binds:List (Str×X9)} {m:Str->Option X9},(∀v,(x,v) ∉ binds)->OD kindOf binds m x=m x
 | [],_,_=>rfl
 | (n,v)::r,m,h=>by
  unfold OD
  rw[zd7 fun w hw=>h w (XT _ hw)]
  split
  ·have:x≠n:=by rintro rfl;exact h v XR
   simp[this]
  ·rfl
theorem zd8 {kindOf:Str->Option TK}{x:Str}:∀{binds:List (Str×X9)} {m:Str->Option X9},(∀v,(x,v) ∉ binds)->OC kindOf binds m x=m x
 | [],_,_=>rfl
 | (n,v)::r,m,h=>by
  unfold OC
  rw[zd8 fun w hw=>h w (XT _ hw)]
  split
  ·rfl
  ·have:x≠n:=by rintro rfl;exact h v XR
   simp[this]
theorem zd9 {kindOf:Str->Option TK}{x:Str}{v:X9}:∀{P:List Str} {vs:List X9} {i:Nat} {m:Str->Option X9},P.Nodup->P[i]?=some x->vs[i]?=some v->kindOf x=some .local ->
  OD kindOf (P.zip vs) m x=some v
 | [],_,_,_,_,h,_,_=>by simp at h
 | _::_,[],_,_,_,_,h,_=>by simp at h
 | p::P,w::vs,0,m,nd,h1,h2,hk=>by
  simp at h1 h2;subst h1;subst h2
  show OD kindOf ((p,w)::P.zip vs) m p=_
  unfold OD
  rw[zd7 fun v hv=>(VM.mp nd).1 (P7 hv).1,if_pos hk]
  simp
 | p::P,w::vs,i+1,m,nd,h1,h2,hk=>by
  show OD kindOf ((p,w)::P.zip vs) m x=_
  unfold OD
  exact zd9 (i:=i) (VM.mp nd).2 (by simpa using h1) (by simpa using h2) hk
theorem zea {kindOf:Str->Option TK}{x:Str}{v:X9}:∀{P:List Str} {vs:List X9} {i:Nat} {m:Str->Option X9},P.Nodup->P[i]?=some x->vs[i]?=some v->kindOf x≠some .local ->
  OC kindOf (P.zip vs) m x=some v
 | [],_,_,_,_,h,_,_=>by simp at h
 | _::_,[],_,_,_,_,h,_=>by simp at h
 | p::P,w::vs,0,m,nd,h1,h2,hk=>by
  simp at h1 h2;subst h1;subst h2
  show OC kindOf ((p,w)::P.zip vs) m p=_
  unfold OC
  rw[zd8 fun v hv=>(VM.mp nd).1 (P7 hv).1,if_neg hk]
  simp
 | p::P,w::vs,i+1,m,nd,h1,h2,hk=>by
  show OC kindOf ((p,w)::P.zip vs) m x=_
  unfold OC
  exact zea (i:=i) (VM.mp nd).2 (by simpa using h1) (by simpa using h2) hk
noncomputable def start (N:List Str)(vs:List V):St:=vs.map some++WF (N.length-vs.length) none
noncomputable def zjY (CX:CXT)(P:Xy)(w:W6)(K:X8)(mg:Str->Option X9)(base:Heap)(N:List Str)(qual:Str)(scope:Uh)(f:Addr)(cd:X9)(A:WG)(outer:List Env)(s:X5)(H:Hp)(E:XK):Cx where
 prog:=P
 w:=w
 K:=K
 mg:=mg
 base:=base
 A:=A.deeper (PK qual scope s.heap.objs.size f cd)
 N:=N
 s₀:=s
 H₀:=H
 env:=PK qual scope s.heap.objs.size f cd
 outer:=outer
 stack:=PK qual scope s.heap.objs.size f cd::outer
 ex:=[]
 calm:=true
 fn:=fun _=>true
 pn:=[]
 xe:=fun e s'=>Xa (Xf P w) (A.deeper (PK qual scope s.heap.objs.size f cd)) (leaving (PK qual scope s.heap.objs.size f cd) e) (fun _ s''=>CX outer H s E e s'') (fun e' s''=>CX outer H s E e' s'') s'
theorem zf3 {sc:Uh}{n:Nat}{x:Str}(h:sc.names.lookup x=some .cell):∃c,(Se n sc.names []).lookup x=some c:=by
 have q:=SV sc.names n [] (.inl h)
 exact V4.mp q
theorem zjZ {CX:CXT}{P:Xy}{w:W6}{K:X8}{mg:Str->Option X9}{base:Heap}{N ps:List Str}{qual:Str}{scope:Uh}{f:Addr}{cd:X9}{A:WG}{outer:List Env}{s s1:X5}{H:Hp}{E:XK}{us:List X9}{vs:List V}
  (S:zQ N ps scope) (hd:A.handled=none) (e0:zmN P w K mg base A outer s H) (hl:vs.length=ps.length) (r:Vals vs us)
  (x:InCallC s s.heap.objs.size (OD (PK qual scope s.heap.objs.size f cd).kindOf (ps.zip us) fun _=>none) (Se (s.heap.objs.size+1) scope.names []) (OC (PK qual scope s.heap.objs.size f cd).kindOf (ps.zip us) fun _=>none) s1) :
  Inv (zjY CX P w K mg base N qual scope f cd A outer s H E) [] (start N vs) H s1:=by
 have hpl:ps.length<=N.length:=by have:=congrArg List.length S.pre;rw[XQ] at this;lia
 obtain⟨h1,tk,rfl,hk⟩:=x.done
 have noA:∀b:Addr,b ∉ (zjY CX P w K mg base N qual scope f cd A outer s H E).ex:=fun b z=>absurd (show b∈([]:List Addr) from z) (by simp)
 refine⟨⟨e0.mod,S.kind,rfl,rfl,XW _,fun y z c h1 h2=>?_,fun y hy=>?_,fun y c _ h=>?_,fun _=>hd,Around.frames_deeper e0.frames,.inr ⟨rfl,rfl⟩,fun b z=>absurd z (noA b),e0.bs,e0.bsz,fun b _ _=>noA b,fun b z=>absurd z (noA b),e0.funs,e0.frf⟩,
  rfl,e0.bare,Un.kept hk,⟨_,x.toInCall.ns,fun i y v h1 h2 h3=>?_⟩,fun y c h=>⟨_,x.cell y c h⟩,e0.hok.fresh (XW _),fun y c h=>?_,fun p hp=>absurd (show p∈([]:List (Addr×Obj)) from hp) (by simp),e0.hok.kept hk,?_⟩
 ·exact name_of_addr x.apart (WM h1) (WM h2)
 ·have hy:scope.names.lookup y=some .cell\/scope.names.lookup y=some .free:=hy
  rcases hy with hy | hy
  ·exact zf3 hy
  ·exact absurd rfl (S.nofree _ (WM hy))
 ·exact Te (x.above y c (WM h))
 ·have hi:i<vs.length:=by
   unfold start at h2
   by_cases hi:i<vs.length
   ·exact hi
   ·rw[VA (by simpa using hi)] at h2
    rw[List.getElem?_replicate] at h2
    split at h2<;>cases h2
  have ha:vs[i]?=some v:=by
   unfold start at h2
   rw[VS (by simpa using hi),XE] at h2
   cases e:vs[i]? with
   | none=>rw[e] at h2;cases h2
   | some a=>rw[e] at h2;cases h2;rfl
  obtain⟨u,hu,rv⟩:=r.get ha
  have hp:ps[i]?=some y:=by
   rw[<- S.pre,RD (by lia)];exact h1
  have ndP:ps.Nodup:=by rw[<- S.pre];exact S.nd.sublist (UR _ _)
  refine⟨u,rv,?_⟩
  rcases S.par y (X2 hp) with k | k
  ·exact .inl ⟨k,zd9 ndP hp hu k⟩
  ·obtain⟨c,e⟩:=zf3 (n:=s.heap.objs.size+1) k
   refine .inr ⟨.inl k,c,e,?_⟩
   have q:=x.cell y c e
   rw[zea ndP hp hu (by show scope.names.lookup y≠_;rw[k];decide)] at q
   exact q
 ·exact e0.hok.fresh (Te (x.above y c (WM h)))
 ·unfold start
  show _=N.length
  rw[XZ,ZB,Vr]
  lia
theorem zpR {CX:CXT}{P:Xy}{w:W6}{K:X8}{mg:Str->Option X9}{base:Heap}{k:Nat}{f:Addr}{name qual:Str}{params:Arguments}{body:List Stmt}{scope:Uh}{dV kV doc pm cdv ct oc:X9}{an od:Option Addr}
  {osl:Array (Option X9)} {N ps:List Str} {sp:Sp} (lk:K.lookup f=some ⟨oc,od,.func (UT name qual params body scope dV kV doc pm an cdv ct),osl⟩) (hcd:Ta K cdv qual=true) (S:zQ N ps scope)
  (len:∀vs H Q E,sp vs H Q E->vs.length=ps.length)
  (hbody:∀(A:WG) (outer:List Env) (s:X5) (H:Hp) (vs:List V) (Q:VK) (E:XK),Qg k (A.deeper (PK qual scope s.heap.objs.size f cdv))->sp vs H Q E ->
   ∃t,PSs (zjY CX P w K mg base N qual scope f cdv A outer s H E) body t/\t { nx:=fun _ H'=>Q .non H',rt:=Q } (start N vs) H) :
  zI P w K mg base CX (k+1) f (UT name qual params body scope dV kV doc pm an cdv ct) ps sp:=by
 refine⟨len,fun A outer s H args us vs Q E hr e0 hb r hsp=>?_⟩
 have hl:=len _ _ _ _ hsp
 have KX:K.In s.heap:=e0.mod.kin.keeps fun b o e=>(e0.bs b o e).1
 have lim:s.heap.NoLimit:=e0.mod.nolimit.keeps fun b o e=>(e0.bs b o e).1
 have hkind:∀y∈ps.zip us,scope.names.lookup y.1=some .local\/(scope.names.lookup y.1=some .cell/\((Se (s.heap.objs.size+1) scope.names []).lookup y.1).isSome=true):=fun ⟨n,v⟩ hy=>by
  rcases S.par n (P7 hy).1 with q | q
  ·exact .inl q
  ·exact .inr ⟨q,SV _ _ _ (.inl q)⟩
 refine codeAny_call_function hr.depth (KX _ _ lk) rfl S.co S.gen rfl (PySem.W.codeRec_of KX hcd) (hb _ _ _ _ ?_)
 refine wpAny_newFunctionEnv_cells S.kind hkind fun env he s1 x=>?_
 subst he
 refine⟨lim.keeps x.toInCall.keep,codeAny_func ?_⟩
 obtain⟨t,ht,hq⟩:=hbody A outer s H vs Q E (hr.deeper _) hsp
 have I:Inv (zjY CX P w K mg base N qual scope f cdv A outer s H E) [] (start N vs) H s1:=zjZ S hr.hd e0 hl r x
 refine Wr (ht [] s1 (start N vs) H _ I hq) (fun fl s' hs=>?_) fun e s' hs=>hs
 have fin:∀{σ':St} {H':Hp} {v:V} {u:X9},Inv (zjY CX P w K mg base N qual scope f cdv A outer s H E) [] σ' H' s'->RelV v u->Q v H'->CE outer P w H s Q u s' :=
  fun {σ' H' v u} J rv q=>⟨v,H',J.os,J.bare,J.base,J.hok,rv,q⟩
 cases fl with
 | ret u =>
  obtain⟨v,σ',H',J,rv,q⟩:=hs
  exact fin J rv q
 | next =>
  obtain⟨σ',H',J,q⟩:=hs
  exact fin (v:=V.non) (u:=Us) J rfl q
 | brk =>
  obtain⟨_,_,_,q⟩:=hs
  exact Wl q
 | cont =>
  obtain⟨_,_,_,q⟩:=hs
  exact Wl q
section
variable {X:Cx}{x:Str}{p pos:Pos}{e:Expr}{es:List Expr}{t:TA}{id T:String}{r:List V->Hp->VK->Prop}
def tCB (r:List V->Hp->VK->Prop)(t:TA):TE:=fun σ H Q=>t σ H fun vs H1=>r vs H1 Q
theorem zz (hc:yQ X (.builtin id) r)(hg:Gl X x)(hm:X.mg x=none)(hv:Tf x=some (.builtin id))(ha:PA X (e::es) t)(hn:x ≠ "__name__":=by decide)(hdb:(x==("__debug__":Str))=false:=by decide)
  (he:Wc (e::es) X.env=(false,eval e X.env)::Wc es X.env:=by rfl) (hpl:(RI pos (Wc es X.env)).any (·.1)=false:=by rfl):PE X (.Call (.Name x p) (e::es) [] pos) (tCB r t):=by
 intro pins s σ H Q I h
 refine R4 (Qe I hg hm hv ?_ hn hdb)
 exact PyProof.Rows.callWith_builtin1 (thn (ha pos pins s σ H _ I h) fun us s1 ⟨vs,H1,I1,r1,q1⟩=>hc pins s1 σ H1 vs us Q I1 r1 q1) he hpl
theorem jb (hc:yQ X (.type T) r)(hg:Gl X x)(hm:X.mg x=none)(hv:Tf x=some (.type T))(ha:PA X (e::es) t)(hn:x ≠ "__name__":=by decide)(hdb:(x==("__debug__":Str))=false:=by decide)
  (he:Wc (e::es) X.env=(false,eval e X.env)::Wc es X.env:=by rfl) (hpl:(RI pos (Wc es X.env)).any (·.1)=false:=by rfl):PE X (.Call (.Name x p) (e::es) [] pos) (tCB r t):=by
 intro pins s σ H Q I h
 refine R4 (Qe I hg hm hv ?_ hn hdb)
 exact VZ (thn (ha pos pins s σ H _ I h) fun us s1 ⟨vs,H1,I1,r1,q1⟩=>hc pins s1 σ H1 vs us Q I1 r1 q1) he hpl
end
end L2
namespace HT
open PySem PyProof.Rows
section
open PySem.SeqAt
open PySem.AutoSeq1 (wpAny_loadPart')
open PySem.MeetsSeq PySem.MeetsSeq2 PySem.MeetsSeq3
end
section
variable {prog:Xy}{w:W6}{A:WG}{E:X9->X5->Prop}{s:X5}
noncomputable def sIx (n d:Nat):Option Int->Nat
 | none=>d
 | some v=>if v<0 then (v+(n:Int)).toNat else min v.toNat n
theorem QT (n d k:Nat):sIx n d (some (k:Int))=min k n:=by
 show (if (k:Int)<0 then ((k:Int)+(n:Int)).toNat else min (k:Int).toNat n)=min k n
 rw[if_neg (by lia),WV]
theorem zoF (n d:Nat)(hd:d<=n)(o:Option Int):sIx n d o<=n:=by
 cases o with
 | none=>exact hd
 | some v =>
  show (if v<0 then (v+(n:Int)).toNat else min v.toNat n)<=n
  by_cases hv:v<0
  ·rw[if_pos hv];lia
  ·rw[if_neg hv];exact Nat.min_le_right _ _
end
end HT
namespace L2
open PySem PySem.Spec PyProof.Rows
abbrev TO:=St->Hp->(Option Int->Hp->Prop)->Prop
def PO (X:Cx)(e:Option Expr)(t:TO):Prop :=
 ∀(pins:List (Addr×Obj)) (s:X5) (σ:St) (H:Hp) (Q:Option Int->Hp->Prop),Inv X pins σ H s->t σ H Q ->
  Xa (Xf X.prog X.w) X.A (evalPart e X.env) (fun u s'=>∃o H',Inv X pins σ H' s'/\IsPart u o/\Q o H') X.xe s
def zmO:TO:=fun _ H Q=>Q none H
def zpS (t:TE):TO:=fun σ H Q=>t σ H fun x H1=>∃i,x=.int i/\Q (some i) H1
section
variable {X:Cx}{e:Expr}{te:TE}{lo hi:Option Expr}{tl th:TO}{pos p2:Pos}
theorem zaK:PO X none zmO:=by
 intro pins s σ H Q I h
 rw[evalPart_none]
 exact XS ⟨none,H,I,.none,h⟩
theorem zaL (h:PE X e te):PO X (some e) (zpS te):=by
 intro pins s σ H Q I hw
 rw[evalPart_some]
 refine thn (h pins s σ H _ I hw) fun u s1 ⟨x,H1,I1,r1,q1⟩=>?_
 obtain⟨i,rfl,q⟩:=q1
 obtain⟨t,rfl⟩:=r1
 exact⟨some i,H1,I1,.int i t,q⟩
def SlR (X:Cx)(r:V->Option Int->Option Int->Hp->VK->Prop):Prop :=
 ∀(pins:List (Addr×Obj)) (s:X5) (σ:St) (H:Hp) (x:V) (v vl vu:X9) (lo hi:Option Int) (sl:Addr) (Q:VK),Inv X pins σ H s->RelV x v->s.heap.IsSliceOf sl vl vu .none->IsPart vl lo->IsPart vu hi->r x lo hi H Q ->
  ∃T id,OW (.type T) "__getitem__"=pure (some (.builtin id))/\s.TypeIs v T/\Xa (Xf X.prog X.w) X.A (Pk v (.ref sl)) (EP X pins σ Q) X.xe s
def tSl (r:V->Option Int->Option Int->Hp->VK->Prop)(te:TE)(tl th:TO):TE:=fun σ H Q=>te σ H fun x H1=>tl σ H1 fun l H2=>th σ H2 fun u H3=>r x l u H3 Q
theorem Qh {r:V->Option Int->Option Int->Hp->VK->Prop}(hr:SlR X r)(he:PE X e te)(hl:PO X lo tl)(hu:PO X hi th):PE X (.Subscript e (.Slice lo hi none p2) pos) (tSl r te tl th):=by
 intro pins s σ H Q I h
 refine Subscript_ (thn (he pins s σ H _ I h) fun v s1 ⟨x,H1,I1,r1,q1⟩=>?_)
 refine wpAny_Slice (thn (hl pins s1 σ H1 _ I1 q1) fun vl s2 ⟨l,H2,I2,pl,q2⟩=>thn (hu pins s2 σ H2 _ I2 q2) fun vu s3 ⟨u,H3,I3,pu,q3⟩=>?_)
 rw[evalPart_none]
 refine XS ?_
 have I4:Inv X pins σ H3 { s3 with heap:=s3.heap.push { cls:=.type "slice",data:=.fields #[vl,vu,.none] } }:=I3.kept (t':=s3.toks) fun b ob q=>XY _ q
 obtain⟨T,id,hT,ht,hg⟩:=hr pins { s3 with heap:=s3.heap.push { cls:=.type "slice",data:=.fields #[vl,vu,.none] } } σ H3 x v vl vu l u s3.heap.objs.size Q I4 r1 (Heap.IsSliceOf.new ..) pl pu q3
 show Xa (Xf X.prog X.w) X.A (O8 e (.Slice lo hi none p2) v (.ref s3.heap.objs.size)) (EP X pins σ Q) X.xe { s3 with heap:=s3.heap.push { cls:=.type "slice",data:=.fields #[vl,vu,.none] } }
 exact tail_any (ops:=[.ref s3.heap.objs.size,v]) ht hT hg (by with_unfolding_all rfl)
noncomputable def zdJ (xs:List V)(lo hi:Option Int):List V:=(xs.drop (HT.sIx xs.length 0 lo)).take (HT.sIx xs.length xs.length hi-HT.sIx xs.length 0 lo)
theorem zf4 (xs:List V)(lo hi:Option Int):(zdJ xs lo hi).length<=xs.length:=by
 unfold zdJ
 rw[XQ,We]
 lia
end
noncomputable def ixN (n:Nat)(i:Int):Option Nat:=if 0<=i then (if i<n then some i.toNat else none) else if -(n:Int)<=i then some (i+n).toNat else none
noncomputable def atI {α:Type}(xs:List α)(i:Int):Option α:=(ixN xs.length i).bind fun j=>xs[j]?
theorem zi8 {n:Nat}{i:Int}{j:Nat}(h:ixN n i=some j):seqIndex? i n=some j/\j<n/\-(n:Int)<=i/\i<n:=by
 unfold ixN at h
 by_cases h0:0<=i
 ·rw[if_pos h0] at h
  by_cases h1:i<n
  ·rw[if_pos h1] at h
   have e:i.toNat=j:=Option.some.inj h
   exact⟨by rw[PJ h0 h1,e],by lia,by lia,h1⟩
  ·rw[if_neg h1] at h;cases h
 ·rw[if_neg h0] at h
  by_cases h1:-(n:Int)<=i
  ·rw[if_pos h1] at h
   have e:(i+n).toNat=j:=Option.some.inj h
   exact⟨by rw[Ri (by lia) h1,e],by lia,h1,by lia⟩
  ·rw[if_neg h1] at h;cases h
theorem zcq {α:Type}{xs:List α}{i:Int}{v:α}(h:atI xs i=some v):∃j,seqIndex? i xs.length=some j/\xs[j]?=some v/\j<xs.length/\-(xs.length:Int)<=i/\i<xs.length:=by
 unfold atI at h
 cases e:ixN xs.length i with
 | none=>rw[e] at h;cases h
 | some j =>
  rw[e] at h
  obtain⟨h1,h2,h3,h4⟩:=zi8 e
  exact⟨j,h1,h,h2,h3,h4⟩
theorem xX {α:Type}{xs:List α}{j:Nat}{v:α}(h:xs[j]?=some v):atI xs (j:Int)=some v:=by
 have hj:j<xs.length:=(X4.mp h).1
 have e:ixN xs.length (j:Int)=some j:=by
  unfold ixN
  rw[if_pos (by lia),if_pos (by lia)];simp
 unfold atI;rw[e];exact h
def zmP (b:Expr):Prop:=∀o i,PH b false o i=operate [o,i] (Pk o i)
def IxR (X:Cx)(r:R2):Prop :=
 ∀(value slice:Expr) (pins:List (Addr×Obj)) (s:X5) (σ:St) (H:Hp) (x y:V) (v u:X9) (Q:VK),Inv X pins σ H s->RelV x v->RelV y u->r x y H Q ->
  PH slice false v u=operate [v,u] (Pk v u)->Xa (Xf X.prog X.w) X.A (O8 value slice v u) (EP X pins σ Q) X.xe s
def MtR (X:Cx)(id:String)(r:V->List V->Hp->VK->Prop):Prop :=
 ∀(pins:List (Addr×Obj)) (s:X5) (σ:St) (H:Hp) (x:V) (xs:List V) (v:X9) (us:List X9) (Q:VK),Inv X pins σ H s->RelV x v->Vals xs us->r x xs H Q ->
  Xa (Xf X.prog X.w) X.A (call (.builtin id) (v::us)) (EP X pins σ Q) X.xe s
section
variable {X:Cx}{a b:Expr}{ta tb:TE}{pos:Pos}
theorem zZ {r:R2}(hr:IxR X r)(ha:PE X a ta)(hb:PE X b tb)(hs:zmP b):PE X (.Subscript a b pos) (tOp r ta tb):=by
 intro pins s σ H Q I h
 exact Subscript_ (zow ha hb I h fun v u s2 x y H2 I2 rx ry q=>hr a b pins s2 σ H2 x y v u Q I2 rx ry q (hs _ _))
def zoG (K:X8):R2:=fun x y H Q=>∃p xs i v,x=.ref p/\y=.int i/\SqL K H p xs/\atI xs i=some v/\Q v H
def zpT (K:X8):R2:=fun x y H Q=>∃p xs i v,x=.ref p/\y=.int i/\SqT K H p xs/\atI xs i=some v/\Q v H
def zqQ:R2:=fun x y H Q=>∃z i c,x=.str z/\y=.int i/\z.length<=XU/\atI z.cps.toList i=some c/\Q (.str ⟨#[c]⟩) H
theorem qS:IxR X (zoG X.K):=by
 intro value slice pins s σ H x y v u Q I rx ry h hs
 obtain⟨p,xs,i,z,rfl,rfl,hq,he,q⟩:=h
 cases rx
 obtain⟨t,rfl⟩:=ry
 obtain⟨its,r,pl,hz⟩:=I.list hq
 obtain⟨j,h1,h2,h3,h4,h5⟩:=zcq he
 obtain⟨w,ew,rw'⟩:=r.get h2
 have hl:=r.length
 have hn:=Qf
 have fin:EP X pins σ Q w s:=⟨z,H,I,rw',q⟩
 by_cases h0:0<=i
 ·have hj:i.toNat=j:=by
   rw[PJ h0 h5] at h1
   exact Option.some.inj h1
  exact item_listR pl.isList h0 (by lia) (by rw[hj];simpa using ew) fin hs
 ·have hj:(i+(its.toArray.size:Int)).toNat=j:=by
   rw[Ri (by lia) h4] at h1
   rw[Xp,<- hl]
   exact Option.some.inj h1
  exact Rb (x:=w) pl.isList.typeIs slot_list_getitem.lookup
   (Ra (Q:=fun r s'=>r=w/\EP X pins σ Q r s') pl.isList (by lia) (by rw[Xp]<;>lia) (by lia) (by rw[hj];simpa using ew) ⟨rfl,fin⟩) hs
theorem qU:IxR X (zpT X.K):=by
 intro value slice pins s σ H x y v u Q I rx ry h hs
 obtain⟨p,xs,i,z,rfl,rfl,hq,he,q⟩:=h
 cases rx
 obtain⟨t,rfl⟩:=ry
 obtain⟨its,r,pl,hz⟩:=I.tuple hq
 obtain⟨j,h1,h2,h3,h4,h5⟩:=zcq he
 obtain⟨w,ew,rw'⟩:=r.get h2
 have hl:=r.length
 have hn:=Qf
 have fin:EP X pins σ Q w s:=⟨z,H,I,rw',q⟩
 exact Rb (x:=w) pl.typeIs slot_tuple_getitem.lookup
  (getItem_tuple (j:=j) (Q:=fun r s'=>r=w/\EP X pins σ Q r s') pl (by lia) (by lia) (by rw[Xp,<- hl];exact h1) (by simpa using ew) ⟨rfl,fin⟩) hs
theorem ZC:IxR X zqQ:=by
 intro value slice pins s σ H x y v u Q I rx ry h hs
 obtain⟨z,i,c,rfl,rfl,hz,he,q⟩:=h
 obtain⟨t,rfl⟩:=rx
 obtain⟨t',rfl⟩:=ry
 obtain⟨j,h1,h2,h3,h4,h5⟩:=zcq he
 have hl:z.cps.toList.length=z.length:=by simp[Str.length]
 rw[hl] at h1 h4 h5
 have hn:=Qf
 exact tail_any (Rj s z t) slot_str_getitem.lookup (getItem_str (c:=c) (by
  have e1:decide (i < -(2^63:Int))=false:=decide_eq_false (by lia)
  have e2:decide (i >= 2^63)=false:=decide_eq_false (by lia)
  rw[e1,e2,Bool.or_false]) (by rw[h1];simpa using h2) ⟨.str ⟨#[c]⟩,H,I.tok _,⟨_,rfl⟩,q⟩) hs
theorem zhH (its:List X9)(n j:Nat)(u:X9):Vc (·.setIfInBounds j u) { cls:=.type "list",data:=.seq its.toArray n }={ cls:=.type "list",data:=.seq (its.set j u).toArray n }:=by
 simp[Vc]
theorem Inv.lst {pins:List (Addr×Obj)}{σ:St}{H:Hp}{s:X5}{p:Addr}{xs:List V}(I:Inv X pins σ H s)(h:H p=some (.lst xs)) :
  ∃(its:List X9) (n:Nat),Vals xs its/\s.heap.get? p=some { cls:=.type "list",data:=.seq its.toArray n }/\xs.length<=XU:=by
 obtain⟨z,its,n,r,e⟩:=I.hok p _ h
 exact⟨its,n,r,e,z⟩
theorem Inv.lstUpd {pins:List (Addr×Obj)}{σ:St}{H:Hp}{s:X5}{p:Addr}{xs ys:List V}{its its':List X9}{n n':Nat}{f:Obj->Obj}(I:Inv X pins σ H s)(h:H p=some (.lst xs))
  (ho:s.heap.get? p=some { cls:=.type "list",data:=.seq its.toArray n }) (hf:f { cls:=.type "list",data:=.seq its.toArray n }={ cls:=.type "list",data:=.seq its'.toArray n' }) (r:Vals ys its') (hz:ys.length<=XU) (t:Nat) :
  Inv X pins σ (upd H p (.lst ys)) { s with heap:=s.heap.update p f,toks:=t }:=by
 have e:(s.heap.update p f).get? p=some { cls:=.type "list",data:=.seq its'.toArray n' }:=by
  rw[VQ f ho (by rw[hf]<;>rfl),hf]
 refine I.write (x:=p) (e:=p) (by rw[h];trivial) (.inl rfl) (fun b u hb q=>(Uk _ _ (T7 hb)).trans q) ⟨_,e⟩ ?_
 exact⟨hz,its',n',r,e⟩
def zpU:V->V->V->Hp->(Hp->Prop)->Prop:=fun o i v H Q=>∃p xs k j,o=.ref p/\i=.int k/\H p=some (.lst xs)/\ixN xs.length k=some j/\Q (upd H p (.lst (xs.set j v)))
theorem set_list:zov X zpU:=by
 intro pins s σ H o i v ov iv u Q I ro ri rv h
 obtain⟨p,xs,k,j,rfl,rfl,hp,hj,q⟩:=h
 cases ro
 obtain⟨t,rfl⟩:=ri
 obtain⟨its,n,r,ho,hz⟩:=I.lst hp
 obtain⟨h1,h2,h3,h4⟩:=zi8 hj
 have hl:=r.length
 have hn:=Qf
 have I':Inv X pins σ (upd H p (.lst (xs.set j v))) { s with heap:=s.heap.update p (Vc (·.setIfInBounds j u)) } :=
  I.lstUpd hp ho (zhH its n j u) (r.set rv j) (by rw[List.length_set];exact hz) s.toks
 by_cases h0:0<=k
 ·have hk:k.toNat=j:=by
   rw[PJ h0 h4] at h1
   exact Option.some.inj h1
  exact PySem.W.ki_setAt ho h0 (by lia) (by rw[Xp,<- hl];exact h4) (by rw[hk];exact⟨_,I',q⟩)
 ·have hk:(k+(its.toArray.size:Int)).toNat=j:=by
   rw[Ri (by lia) h3] at h1
   rw[Xp,<- hl]
   exact Option.some.inj h1
  exact PySem.W.ki_setBack ho (by lia) (by rw[Xp,<- hl];exact h3) (by lia) (by rw[hk];exact⟨_,I',q⟩)
theorem ze4 (lo hi:Option Int)(n:Nat):(Tl lo hi none n).1=((HT.sIx n 0 lo:Nat):Int)/\(Tl lo hi none n).2.1=((HT.sIx n n hi:Nat):Int)/\(Tl lo hi none n).2.2=1:=by
 refine⟨?_,?_,rfl⟩
 ·cases lo with
  | none=>simp[Tl,HT.sIx]
  | some i =>
   simp only[Tl,HT.sIx,Option.getD_none,show (1:Int)>0 by decide,if_true]
   by_cases h:i<0
   ·simp only[h,if_true]<;>lia
   ·simp only[h,if_false]<;>lia
 ·cases hi with
  | none=>simp[Tl,HT.sIx]
  | some i =>
   simp only[Tl,HT.sIx,Option.getD_none,show (1:Int)>0 by decide,if_true]
   by_cases h:i<0
   ·simp only[h,if_true]<;>lia
   ·simp only[h,if_false]<;>lia
theorem zdK (its:List X9)(lo hi:Option Int):slicePick its.toArray lo hi none=((its.drop (HT.sIx its.length 0 lo)).take (HT.sIx its.length its.length hi-HT.sIx its.length 0 lo)).toArray:=by
 obtain⟨h1,h2,h3⟩:=ze4 lo hi its.toArray.size
 unfold slicePick
 rw[h1,h2,h3]
 simp only[sliceRange_one,pick_run,Xp]<;>rfl
def zqR (K:X8):V->Option Int->Option Int->Hp->VK->Prop:=fun x lo hi H Q=>∃a xs,x=.ref a/\SqL K H a xs/\∀p,H p=none->Q (.ref p) (upd H p (.lst (zdJ xs lo hi)))
theorem ze5:SlR X (zqR X.K):=by
 intro pins s σ H x v vl vu lo hi sl Q I rx hs pl pu h
 obtain⟨a,xs,rfl,hx,q⟩:=h
 cases rx
 obtain⟨its,r,ht,hz⟩:=I.list hx
 have hlen:=r.length
 refine⟨"list",_,slot_list_getitem.lookup,ht.isList.typeIs,?_⟩
 refine wpAny_getItem_list_slice ht.isList hs pl pu .none (by simp) ?_ (by rw[Xp]<;>lia)
 rw[zdK,<- hlen]
 refine⟨.ref s.heap.objs.size,_,I.laid (t':=s.toks) (o:=.lst (zdJ xs lo hi)) (fun b ob q=>XY _ q) (XW _) ?_,rfl,q _ (I.hok.fresh (XW _))⟩
 exact⟨X0 (zf4 xs lo hi) hz,_,0,(r.drop (HT.sIx xs.length 0 lo)).take (HT.sIx xs.length xs.length hi-HT.sIx xs.length 0 lo),W5 _ rfl⟩
theorem zE:yQ X (.builtin "len") (fun xs H Q=>∃p ys,xs=[.ref p]/\(SqL X.K H p ys\/SqT X.K H p ys)/\Q (.int ys.length) H):=by
 intro pins s σ H xs us Q I r h
 obtain⟨p,ys,rfl,hq,q⟩:=h
 obtain⟨u,rfl,rx⟩:=vals1 r
 cases rx
 have hn:=Qf
 rcases hq with hq | hq
 ·obtain⟨its,r',pl,hz⟩:=I.list hq
  have hlen:=r'.length
  exact Calls.call_len_list pl.isList (by simp only[Xp]<;>lia) ⟨.int ys.length,H,I.tok _,⟨s.toks+1,by rw[Xp,hlen]⟩,q⟩
 ·obtain⟨its,r',pl,hz⟩:=I.tuple hq
  have hlen:=r'.length
  exact len_tuple pl (by simp only[Xp]<;>lia) ⟨.int ys.length,H,I.tok _,⟨s.toks+1,by rw[Xp,hlen]⟩,q⟩
theorem JD:yQ X (.builtin "len") (fun xs H Q=>∃z,xs=[.str z]/\z.length<=XU/\Q (.int z.length) H):=by
 intro pins s σ H xs us Q I r h
 obtain⟨z,rfl,hz,q⟩:=h
 obtain⟨u,rfl,t,rfl⟩:=vals1 r
 have hn:=Qf
 exact len_str (by lia) ⟨.int z.length,H,I.tok _,⟨_,rfl⟩,q⟩
theorem Yr:yQ X (.type "list") (fun xs H Q=>∃p ys,xs=[.ref p]/\(SqL X.K H p ys\/SqT X.K H p ys)/\∀l,H l=none->Q (.ref l) (upd H l (.lst ys))):=by
 intro pins s σ H xs us Q I r h
 obtain⟨p,ys,rfl,hq,q⟩:=h
 obtain⟨u,rfl,rx⟩:=vals1 r
 cases rx
 have fin:∀(its:List X9),Vals ys its->ys.length<=XU->∀(h':Heap) (c':Nat),(∀b o',s.heap.get? b=some o'->h'.get? b=some o') ->
   h'.get? s.heap.objs.size=some { cls:=.type "list",dict:=none,data:=.seq its.toArray c',slots:=#[] }->EP X pins σ Q (.ref s.heap.objs.size) { s with heap:=h' }:=fun its r' hz h' c' kp e =>
  ⟨.ref s.heap.objs.size,_,I.laid (t':=s.toks) kp (XW _) (show jn X.prog X.w _ h' _ (.lst ys) from ⟨hz,its,c',r',e⟩),rfl,q _ (I.hok.fresh (XW _))⟩
 rcases hq with hq | hq
 ·obtain⟨its,r',pl,hz⟩:=I.list hq
  have hlen:=r'.length
  obtain⟨o,ho,hc,n,hd⟩:=pl.isList
  exact call_list_seq p (.inl rfl) ho hc hd (fun h' c' kp e=>fin its r' hz h' c' kp e) (by simp only[Xp]<;>lia)
 ·obtain⟨its,r',pl,hz⟩:=I.tuple hq
  have hlen:=r'.length
  obtain⟨o,ho,hc,n,hd⟩:=pl
  exact call_list_seq p (.inr rfl) ho hc hd (fun h' c' kp e=>fin its r' hz h' c' kp e) (by simp only[Xp]<;>lia)
def tyV (K:X8)(T:String)(x:V)(H:Hp):Prop:=match x with
 | .str _=>T="str"
 | .int _=>T="int"
 | .ref p=>(T="list"/\∃xs,SqL K H p xs)\/(T="tuple"/\∃o,K.lookup p=some o/\o.cls=.type "tuple"/\o.dict=none) \/
   (T="dict"/\((∃kvs,H p=some (.dK kvs))\/∃kvs,H p=some (.dT kvs)))\/(T="set"/\∃S n,H p=some (.set S n))
 | _=>False
theorem zoH {pins:List (Addr×Obj)}{σ:St}{H:Hp}{s:X5}{T:String}{x:V}{v:X9}(I:Inv X pins σ H s)(r:RelV x v)(ty:tyV X.K T x H) :
  s.TypeIs v T/\∀a,v=.ref a->∃ob,s.heap.get? a=some ob/\ob.dict=none:=by
 cases x with
 | str z =>
  obtain⟨t,rfl⟩:=r
  cases (show T="str" from ty)
  exact⟨Rj s z t,fun _ e=>nomatch e⟩
 | int i =>
  obtain⟨t,rfl⟩:=r
  cases (show T="int" from ty)
  exact⟨typeIs_int s i t,fun _ e=>nomatch e⟩
 | ref p =>
  cases r
  rcases ty with ⟨rfl,xs,hq⟩ | ⟨rfl,o,hk,hc,hd⟩ | ⟨rfl,hk⟩ | ⟨rfl,S,n,hk⟩
  ·obtain⟨its,_,pl,_⟩:=I.list hq
   refine⟨pl.isList.typeIs,fun a e=>?_⟩
   cases e
   obtain⟨o,n,e,c,hd,_⟩:=pl
   exact⟨o,e,hd⟩
  ·refine⟨⟨o,I.kIn p o hk,hc⟩,fun a e=>?_⟩
   cases e
   exact⟨o,I.kIn _ o hk,hd⟩
  ·have z:∃o,s.heap.get? p=some o/\o.ExactDict:=by
    rcases hk with ⟨kvs,hk⟩ | ⟨kvs,hk⟩
    ·obtain⟨_,_,_,_,o,_,_,e,ex,_⟩:=I.hok p _ hk
     exact⟨o,e,ex⟩
    ·obtain⟨_,_,_,_,o,_,_,e,ex,_⟩:=I.hok p _ hk
     exact⟨o,e,ex⟩
   obtain⟨o,e,ex⟩:=z
   refine⟨⟨o,e,ex.1⟩,fun a e2=>?_⟩
   cases e2
   exact⟨o,e,ex.2.1⟩
  ·obtain⟨o,_,_,_,e,ex,_⟩:=I.hok p _ hk
   refine⟨⟨o,e,ex.1⟩,fun a e2=>?_⟩
   cases e2
   exact⟨o,e,ex.2.1⟩
 | _=>exact Wl ty
def tBM (K:X8)(T:String)(r:V->List V->Hp->VK->Prop)(to:TE)(t:TA):TE:=fun σ H Q=>to σ H fun x H1=>tyV K T x H1/\t σ H1 fun xs H2=>r x xs H2 Q
variable {o e:Expr}{es:List Expr}{to:TE}{t:TA}{name:Str}{apos cpos:Pos}{T id:String}{r:V->List V->Hp->VK->Prop}
theorem Jr (pa:PlainAttrs T)(slot:Slot T name id)(hty:typeOf (.builtin id)=pure (.type "method_descriptor"))(hm:MtR X id r)(ho:PE X o to)(ha:PA X (e::es) t)
  (hbase:attributeBase o name X.env (eval o X.env)=eval o X.env:=by rfl)
  (hfew:((RI cpos (Wc (e::es) X.env)).all (fun x=>!x.1)&&(backToKw cpos (keywordEach [] X.env)).all (fun x=>x.1.isSome)
   && decide ((e::es).length+([]:List OF).length+(if ([]:List OF).isEmpty then 0 else 1)<30))=true:=by rfl)
  (hline:(apos.endLine==cpos.line)=true:=by rfl) (hs:Wc (e::es) X.env=(false,eval e X.env)::Wc es X.env:=by rfl) (hplain:(RI cpos (Wc es X.env)).any (·.1)=false:=by rfl) :
  PE X (.Call (.Attribute o name apos) (e::es) [] cpos) (tBM X.K T r to t):=by
 intro pins s σ H Q I h
 refine Q1 hbase hfew hline rfl (thn (ho pins s σ H _ I h) fun v s1 ⟨x,H1,I1,r1,ty,q1⟩=>?_)
 obtain⟨h1,h2⟩:=zoH I1 r1 ty
 refine⟨T,id,pa,slot,hty,h1,h2,?_⟩
 have hA:=ha cpos pins s1 σ H1 _ I1 q1
 rw[hs] at hA ⊢
 refine QR (by show (false || (RI cpos (Wc es X.env)).any (·.1))=false;rw[hplain]<;>rfl) (Pr ?_)
 exact thn hA fun us s2 ⟨vs,H2,I2,r2,q2⟩=>hm pins s2 σ H2 x vs v us Q I2 r1 r2 q2
/- xs.append(e),list.index on a module's tuple .. are MtR facts of 06m -/
end
def MtM (X:Cx)(id:String)(r:V->List V->Hp->VK->Prop):Prop :=
 ∀(pins:List (Addr×Obj)) (s:X5) (σ:St) (H:Hp) (x:V) (xs:List V) (v:X9) (us:List X9) (Q:VK),Inv X pins σ H s->RelV x v->Vals xs us->r x xs H Q ->
  Xa (Xf X.prog X.w) X.A (call (.builtin id) (v::us)) (EP X pins σ Q) X.xe s
theorem Vals.one:∀{x:V} {us:List X9},Vals [x] us->∃u,us=[u]/\RelV x u
 | _,_,.cons r .nil=>⟨_,rfl,r⟩
theorem Vals.two:∀{x y:V} {us:List X9},Vals [x,y] us->∃u v,us=[u,v]/\RelV x u/\RelV y v
 | _,_,_,.cons r (.cons q .nil)=>⟨_,_,rfl,r,q⟩
theorem Vals.rep {xs:List V}{us:List X9}(h:Vals xs us):∀k:Nat,Vals (WF k xs).flatten (WF k us).flatten
 | 0=>.nil
 | k+1=>by
  rw[Va,Va,Wz,Wz]
  exact Vals.append h (Vals.rep h k)
theorem foldl_rep (its:List X9):∀(k:Nat) (acc:List X9),
  OV (fun x1 x2=>x1++x2) acc.toArray (WF k its.toArray)=(acc++(WF k its).flatten).toArray
 | 0,acc=>by simp
 | k+1,acc=>by
  have e:acc.toArray++its.toArray=(acc++its).toArray:=by simp
  have e2:(acc++its)++(WF k its).flatten=acc++(WF (k+1) its).flatten:=by
   rw[Va,Wz,WZ]
  rw[<- e2,<- foldl_rep its k (acc++its),<- e,Va,Wy]
section
variable {X:Cx}{pins:List (Addr×Obj)}{σ:St}{H:Hp}{s:X5}{l b:Addr}{xs ys zs:List V}
theorem Inv.lset {its its':List X9}{n:Nat}{f:Array X9->Array X9}{t':Nat}(I:Inv X pins σ H s)(hH:H l=some (.lst xs))
  (e:s.heap.get? l=some { cls:=.type "list",data:=.seq its.toArray n }) (hf:f its.toArray=its'.toArray) (hv:Vals ys its') (hz:ys.length<=XU) :
  Inv X pins σ (upd H l (.lst ys)) { s with heap:=s.heap.update l (Vc f),toks:=t' }:=by
 have q:=PySem.IsL.update e f
 rw[hf] at q
 refine I.write (x:=l) (e:=l) (by rw[hH];exact trivial) (.inl rfl) (fun b' u hb hu=>(Uk s.heap (Vc f) (T7 hb)).trans hu) ⟨_,q⟩ ?_
 exact⟨hz,its',_,hv,q⟩
theorem Inv.lnew {its:List X9}{t':Nat}(I:Inv X pins σ H s)(hv:Vals ys its)(hz:ys.length<=XU) :
  Inv X pins σ (upd H s.heap.objs.size (.lst ys)) { s with heap:=s.heap.push { cls:=.type "list",data:=.seq its.toArray },toks:=t' } :=
 I.laid (fun _ _ q=>XY _ q) (XW _) ⟨hz,its,0,hv,W5 _ rfl⟩
theorem Inv.fresh (I:Inv X pins σ H s):H s.heap.objs.size=none:=I.hok.fresh (XW _)
theorem Inv.lstM (I:Inv X pins σ H s)(hH:H l=some (.lst xs)):xs.length<=XU/\∃(its:List X9) (n:Nat),Vals xs its/\xs.length=its.length/\s.heap.get? l=some { cls:=.type "list",data:=.seq its.toArray n }:=by
 obtain⟨z,its,n,r,e⟩:=I.hok l _ hH
 exact⟨z,its,n,r,r.length,e⟩
theorem zf5 {n:Nat}(h:n<=XU):UK n=false:=by
 unfold UK
 exact decide_eq_false (by lia)
end
section
variable {X:Cx}
def zmQ:V->List V->Hp->VK->Prop:=fun x vs H Q=>∃l xs y,x=.ref l/\vs=[y]/\H l=some (.lst xs)/\xs.length<XU/\Q .non (upd H l (.lst (xs++[y])))
theorem jj:MtM X "list.append" zmQ:=by
 intro pins s σ H x vs v us Q I rx rv h
 obtain⟨l,xs,y,rfl,rfl,hH,hz,q⟩:=h
 cases rx
 obtain⟨u,rfl,ru⟩:=rv.one
 obtain⟨z,its,n,r,hl,e⟩:=I.lstM hH
 refine Sb F.slot_list_append ⟨_,e,rfl⟩ F.entry_list_append (F.args_list_append_2 _ _) (PySem.list_append l its.toArray n u (by rw[Xp];lia)) ⟨e,?_⟩
 refine⟨.non,_,I.lset (its':=its++[u]) hH e (by simp) (r.append (.cons ru .nil)) ?_,rfl,q⟩
 rw[XZ,VP]
 lia
def zmR:V->List V->Hp->VK->Prop:=fun x vs H Q=>∃l b xs zs,x=.ref l/\vs=[.ref b]/\H l=some (.lst xs)/\H b=some (.lst zs)/\xs.length+zs.length<=XU/\Q .non (upd H l (.lst (xs++zs)))
theorem QU:MtM X "list.extend" zmR:=by
 intro pins s σ H x vs v us Q I rx rv h
 obtain⟨l,b,xs,zs,rfl,rfl,hH,hB,hz,q⟩:=h
 cases rx
 obtain⟨u,rfl,ru⟩:=rv.one
 cases ru
 obtain⟨z,its,n,r,hl,e⟩:=I.lstM hH
 obtain⟨z2,its2,n2,r2,hl2,e2⟩:=I.lstM hB
 have hsz:its.toArray.size+its2.toArray.size<=XU:=by rw[Xp,Xp];lia
 have hlong:¬ (!its.toArray.isEmpty&&UK (its.toArray.size+its2.toArray.size))=true:=by
  rw[zf5 hsz,Bool.and_false]
  exact XV
 refine Sb F.slot_list_extend ⟨_,e,rfl⟩ F.entry_list_extend (F.args_list_extend_2 _ _)
  (AutoSeq1.list_extend_list_list_0 l its.toArray n b its2.toArray n2 hlong (by rw[Xp];lia) (by lia)) ⟨e,e2,?_⟩
 refine⟨.non,_,I.lset (its':=its++its2) hH e (by simp) (r.append r2) ?_,rfl,q⟩
 rw[XZ]
 lia
def zqS:R2:=fun x y H Q=>∃l b xs zs,x=.ref l/\y=.ref b/\H l=some (.lst xs)/\H b=some (.lst zs)/\xs.length+zs.length<=XU/\∀p,H p=none->Q (.ref p) (upd H p (.lst (xs++zs)))
theorem zam:OpR X (UC .Add) zqS:=by
 intro pins s σ H x y v u Q I rx ry h
 obtain⟨l,b,xs,zs,rfl,rfl,hH,hB,hz,q⟩:=h
 cases rx
 cases ry
 obtain⟨z,its,n,r,hl,e⟩:=I.lstM hH
 obtain⟨z2,its2,n2,r2,hl2,e2⟩:=I.lstM hB
 refine PySem.P.add_list e e2 ?_ (by rw[Xp,Xp];lia)
 have ea:its.toArray++its2.toArray=(its++its2).toArray:=by simp
 rw[ea]
 exact⟨.ref _,_,I.lnew (t':=s.toks) (r.append r2) (by rw[XZ];lia),rfl,q _ I.fresh⟩
def zqT:R2:=fun x y H Q=>∃l k xs,x=.ref l/\y=.int k/\H l=some (.lst xs)/\-(2^63)<=k/\k<2^63/\xs.length*k.toNat<=XU /\
 ∀p,H p=none->Q (.ref p) (upd H p (.lst (WF k.toNat xs).flatten))
theorem len_rep {α:Type}(xs:List α)(k:Nat):(WF k xs).flatten.length=k*xs.length:=by
 induction k with
 | zero=>simp
 | succ k ih=>rw[Va,Wz,XZ,ih,Nat.succ_mul,Nat.add_comm]
theorem zk2:OpR X (UC .Mult) zqT:=by
 intro pins s σ H x y v u Q I rx ry h
 obtain⟨l,k,xs,rfl,rfl,hH,h1,h2,hz,q⟩:=h
 cases rx
 obtain⟨t,rfl⟩:=ry
 obtain⟨z,its,n,r,hl,e⟩:=I.lstM hH
 have hlen:its.toArray.size*k.toNat<=XU:=by rw[Xp,<- hl];exact hz
 have hcap:¬ its.toArray.size*k.toNat>(2^63-1)/8:=by
  have:(XU:Nat)<=(2^63-1)/8:=by decide
  lia
 have hfit:¬ (!Builtin.List.listFitsIndex k)=true:=by
  rw[fitsIndex_both h1 h2]
  exact XV
 have hlong:¬ UK (its.toArray.size*k.toNat)=true:=by
  rw[zf5 hlen]
  exact XV
 have hnew:OV (fun x1 x2=>x1++x2) #[] (WF (if its.toArray.isEmpty=true then 0 else k.toNat) its.toArray)=(WF k.toNat its).flatten.toArray:=by
  have f0:∀m:Nat,OV (fun x1 x2=>x1++x2) #[] (WF m its.toArray)=(WF m its).flatten.toArray:=fun m=>by
   have:=foldl_rep its m []
   rw[List.nil_append] at this
   exact this
  rw[f0]
  cases its with
  | nil=>simp
  | cons a r'=>rw[if_neg (by simp)]
 refine wpAny_binaryOp_repeat_ref (T:="list") (U:="int") (by decide) ⟨_,e,rfl⟩ (fun s'=>typeIs_int s' k t) noFill_list_mul F.fills_int_mul F.slot_int_rmul repeat_list F.slot_int_index.lookup
  (Sb F.slot_int_rmul (typeIs_int s k t) F.entry_int_rmul (F.args_int_rmul_2 _ _) (int___rmul___int_list k t l its.toArray n)
   ⟨e,rfl,⟨_,e,rfl⟩,Sb F.slot_list_mul ⟨_,e,rfl⟩ F.entry_list_mul (F.args_list_mul_2 _ _) (AutoListH.list___mul___list_int_3 l its.toArray n k t hfit hcap hlong) ⟨e,?_⟩⟩)
 rw[hnew]
 exact⟨.ref _,_,I.lnew (t':=s.toks) (r.rep k.toNat) (by rw[len_rep,Rh];exact hz),rfl,q _ I.fresh⟩
end
section
variable {prog:Xy}{w:W6}{A:WG}{E:X9->X5->Prop}{s:X5}
end
section
variable {X:Cx}
end
end L2
namespace Att
open PySem PySem.W PySem.Calls PyProof.Rows
theorem zce {P:Params}{h:Heap}:∀(ns:List Int) (vs:List X9),WellAll P h vs (ns.map WData.int)->Pj vs ns:=by
 intro ns
 induction ns with
 | nil =>
  intro vs w
  rw[Td] at w
  cases w
  exact .nil
 | cons n ns ih =>
  intro vs w
  rw[Xb] at w
  cases w with
  | cons a b =>
   cases a
   exact .cons _ _ (ih _ b)
theorem zj0 {l:OpenLaw}{n:Nat}(hn:l.most=some n){P:Params}{h:Heap}{args:List WData}{vals:List X9}
  (hpre:l.row.toRowW.claim.pre args=true) (hwl:WellAll P h vals args) :
  ∃a vs ns,vals=[WE a]/\args=[WData.list (ns.map WData.int)]/\h.get? a=some { cls:=.type "list",data:=.seq vs.toArray }/\Pj vs ns/\ns.length<=n:=by
 have hsh:WShape.hasAll [] args [.list .int]=true:=(pre_splitW hpre).1
 have hc:l.pre.holds [] { args:=args }=true:=(pre_splitW hpre).2
 obtain⟨d,r,rfl,h1,h2⟩:=hasAllW_cons hsh
 obtain rfl:=hasAllW_nil h2
 obtain⟨xs,rfl,h3⟩:=hasW_list h1
 obtain⟨ns,rfl⟩:=items_int h3
 have hlen:ns.length<=n:=by
  unfold OpenLaw.pre at hc
  have h4:(WTm.not (.lt (.lit (.int (n:Int))) (.len (.arg 0)))).holds [] { args:=[.list (ns.map .int)] }=true:=by
   have h4:=(holds_andW hc).1
   rw[hn] at h4
   exact h4
  have h5:=condW_of h4 (w_not (w_lt w_lit (w_len_list (w_arg rfl))))
  rw[ZB] at h5
  refine Nat.le_of_not_lt fun q=>?_
  have q':(n:Int)<((ns.length:Nat):Int):=by lia
  first
   | (rw[decide_eq_true q'] at h5;exact absurd h5 (by decide))
   | (simp at h5;lia)
 cases hwl with
 | cons w1 w2 =>
  cases w2
  cases w1 with
  | list ho hall=>exact⟨_,_,ns,rfl,rfl,ho,zce ns _ hall,hlen⟩
theorem zj1 (l:OpenLaw)(args:List WData):l.row.toRowW.claim.post args (.bool true) args=true :=
 postW_of (r:=l.row.toRowW) (X:=(true==true))
  (show WShape.has [] (.bool true) .bool=true by first | rfl | decide | simp[WShape.has,WShape.arms,WShape.armsAll])
  (show (WTm.eq .res (.lit (.bool true))).value [] { args:=args,res:=some (.bool true),after:=args }=some (.bool (true==true)) from w_eq_bool (w_res rfl) w_lit) rfl
theorem zf6 {l:OpenLaw}{n:Nat}{q:Xy}{loose:List Str}{XP:(Str->Option X9)->Heap->Prop}{YP:W6->Heap->Prop}{d:DefRec}
  (hn:l.most=some n) (hdf:d.params.defaults=[])
  (call:∀(w:W6) (s₀ s₁:X5) (mg mb:Str->Option X9) (fa:Addr) (o:Obj) (pm cd doc:X9) (a:Addr) (vs:List X9) (ns:List Int),
   Ground q loose [] XP w s₀ mg mb s₁.heap->YP w s₁.heap ->
   s₁.heap.get? fa=some o->o.data=.func (docDef d.name d.params d.body d.scope pm cd doc)->s₁.heap.CodeRec cd d.name->mg d.name=some (.ref fa) ->
   s₁.heap.get? a=some { cls:=.type "list",data:=.seq vs.toArray }->Pj vs ns->ns.length<=n->s₁.gens=#[] ->
   Ti (Xf l.prog w) Pi (.call (.ref fa) ⟨[.ref a],[]⟩) (fun r s'=>r=.ok (.ret (.bool true))/\OldK s₁.heap s'.heap/\s'.os=s₁.os/\RN s'.gens) s₁) :
  WalkO q loose XP YP l.row.toRowW d [] (fun f vs=>PySem.call f vs):=by
 intro w s₀ s₁ mg mb G Y fa o pm cd doc dV kV ho hd hcd hD hmg hg args vals as hpre hlay hrd hwl hlo
 obtain rfl:dV=.none:=Dflts.none hD hdf
 obtain rfl:kV=.none:=Dflts.noKw hD
 obtain⟨a,vs,ns,rfl,rfl,hobj,hints,hlen⟩:=zj0 hn hpre hwl
 refine enter_call (Sj (call w s₀ s₁ mg mb fa o pm cd doc a vs ns G Y ho (fd_plain hd) hcd hmg hobj hints hlen hg) fun r s' hq=>?_)
 obtain⟨rfl,h2,h3,h4⟩:=hq
 exact⟨.inl ⟨.bool true,.bool true,[],rfl,fun _=>rfl,.bool true,zj1 l _,fun _=>⟨List.Pairwise.nil,fun _ hm=>(nomatch hm)⟩⟩,h2,h3,h4⟩
section
variable {prog:Xy}{w:W6}{A:WG}{E:X9->X5->Prop}{s:X5}{K:Frag}
end
end Att
namespace L2
open PySem PySem.Spec PyProof.Rows
theorem zeb:∀{vs:List X9} {ns:List Int},Pj vs ns->Vals (ns.map V.int) vs
 | _,_,.nil=>.nil
 | _,_,.cons n t h=>.cons ⟨t,rfl⟩ (zeb h)
def zoI (H:Hp):Prop:=∀b,H b=none\/∃o xs,H b=some (.frz o (.lst xs))
theorem zk3 {P:Xy}{w:W6}{K:X8}{mg mb:Str->Option X9}{CX:CXT}{k:Nat}{fa a:Addr}{fd:XO}{x:Str}{sp:Sp}{s₁:X5}{vs:List X9}{ns:List Int}
  (KX:K.In s₁.heap) (hns:s₁.heap.Ns Xx mg) (hb:s₁.heap.Ns OX mb) (hbb:∀x:Str,x ≠ "__name__"->mb x=Tf x) (hlim:s₁.heap.NoLimit) (hg:s₁.gens=#[])
  (ha:s₁.heap.get? a=some { cls:=.type "list",data:=.seq vs.toArray }) (hi:Pj vs ns) (hl:ns.length<=XU) (hr:Qg k Pi)
  (F:∀base:Heap,K.In base->base.Ns Xx mg->zI P w K mg base CX k fa fd [x] sp) (hbind:∀(s:X5) (u:X9),OQ s fd ⟨[u],[]⟩ [(x,u)])
  (hsp:∀H:Hp,zoI H->SqL K H a (ns.map V.int)->sp [.ref a] H (fun v _=>v=.bl true) fun _ _ _=>False)
  (hCX:∀H e s',CX [] H s₁ (fun _ _ _=>False) e s'->False) :
  Ti (Xf P w) Pi (.call (.ref fa) ⟨[.ref a],[]⟩) (fun r s'=>r=.ok (.ret (.bool true))/\OldK s₁.heap s'.heap/\s'.os=s₁.os/\RN s'.gens) s₁:=by
 have rv:=zeb hi
 have lenV:=hi.length
 have core:∀H:Hp,zoI H->SqL K H a (ns.map V.int)->HOk P w H s₁.heap->(∀b,H b≠none->b=a)->(H a≠none->K.lookup a=none) ->
   Ti (Xf P w) Pi (.call (.ref fa) ⟨[.ref a],[]⟩) (fun r s'=>r=.ok (.ret (.bool true))/\OldK s₁.heap s'.heap/\s'.os=s₁.os/\RN s'.gens) s₁:=by
  intro H hO hS hok hA hK
  have base_of:∀{b:Addr} {o:Obj},s₁.heap.get? b=some o->H b=none->(zeY s₁.heap H).get? b=some o:=fun e n=>zkR e n
  have noA:∀{b:Addr} {o:Obj} {es:Array DictEntry} {ep:Nat},s₁.heap.get? b=some o->o.data=.dict es ep->H b=none:=fun {b o es ep} e d=>by
   cases q:H b with
   | none=>rfl
   | some u =>
    have e':b=a:=hA b (by rw[q];simp)
    subst e'
    rw[ha] at e;cases e
    have d':Data.seq vs.toArray _=Data.dict es ep:=d
    cases d'
  have nsK:∀{b:Addr} {m:Str->Option X9},s₁.heap.Ns b m->(zeY s₁.heap H).Ns b m:=fun {b m} ⟨o,es,ep,e,d,r⟩=>⟨o,es,ep,base_of e (noA e d),d,r⟩
  have hKb:K.In (zeY s₁.heap H):=fun b o e=>base_of (KX b o e) (by
   cases q:H b with
   | none=>rfl
   | some u =>
    have e':b=a:=hA b (by rw[q];simp)
    subst e'
    rw[hK (by rw[q];simp)] at e;cases e)
  have hM:Mod K mg (zeY s₁.heap H):=⟨hKb,nsK hns,⟨mb,nsK hb,hbb⟩,let ⟨mc,h1,h2⟩:=hlim;⟨mc,nsK h1,h2⟩⟩
  have e0:zmN P w K mg (zeY s₁.heap H) Pi [] s₁ H:=⟨rfl,hM,fun b o e=>zmJ e,Nat.le_of_eq (zjT _ _),trivial,fun b hb=>absurd (show b∈([]:List Addr) from hb) (by simp),hok,.of_eq hg⟩
  refine Sj ((F _ hKb (nsK hns)).run Pi [] s₁ H ⟨[.ref a],[]⟩ [.ref a] [.ref a] _ _ hr e0 (hbind s₁ (.ref a)) (.cons rfl .nil) (hsp H hO hS)) fun r s' h=>?_
  cases r with
  | error e=>exact(hCX H e s' h).elim
  | ok fl =>
   cases fl with
   | next=>exact Wl h
   | brk=>exact Wl h
   | cont=>exact Wl h
   | ret u =>
    obtain⟨v,H',os,bare,un,hok',r',q⟩:=h
    have q':v=.bl true:=q
    subst q'
    obtain rfl:u=OY true:=r'
    refine⟨rfl,OldK.of_keep fun b o e=>?_,os,bare⟩
    cases q:H b with
    | none=>exact un.keep b o e q (by intro z;exact absurd (show b∈([]:List Addr) from z) (by simp)) (by simp)
    | some u =>
     rcases hO b with z | ⟨ob,xs,z⟩
     ·rw[q] at z;cases z
     ·have z2:=un.frzs b ob _ z
      obtain⟨e1,_⟩:=hok b _ z
      obtain⟨e2,_⟩:=hok' b _ z2
      rw[e] at e1;cases e1
      exact e2
 cases hk:K.lookup a with
 | some o =>
  have e:=KX a o hk
  rw[ha] at e
  cases e
  refine core (fun _=>none) (fun _=>.inl rfl) (.inr ⟨_,vs.toArray,_,hk,rfl,rfl,rfl,by rw[Xp,lenV];exact hl,by simpa using rv⟩) (fun b u z=>by have z':(none:Option HO)=some u:=z;cases z') (fun b z=>absurd rfl z) fun z=>absurd rfl z
 | none =>
  refine core (fun b=>if b=a then some (.frz { cls:=.type "list",data:=.seq vs.toArray } (.lst (ns.map V.int))) else none) (fun b=>?_) (.inl (.inr ⟨{ cls:=.type "list",data:=.seq vs.toArray },if_pos rfl⟩)) (fun b u z=>?_) (fun b z=>?_) fun _=>hk
  ·by_cases hb:b=a
   ·exact .inr ⟨_,_,if_pos hb⟩
   ·exact .inl (if_neg hb)
  ·by_cases hb:b=a
   ·have z':=(if_pos hb).symm.trans z
    cases z'
    subst hb
    exact⟨ha,by rw[ZB];exact hl,vs,_,rv,ha⟩
   ·have z':=(if_neg hb).symm.trans z
    cases z'
  ·by_cases hb:b=a
   ·exact hb
   ·exact absurd (if_neg hb) z
theorem zi9 {l:P6}{n k:Nat}{q:Xy}{loose:List Str}{XP:(Str->Option X9)->Heap->Prop}{YP:W6->Heap->Prop}{d:DefRec}{K:Params->X8}{CX:W6->CXT}{sp:W6->Sp}{x:Str}
  (hn:l.most=some n) (hn2:n<=XU) (hdf:d.params.defaults=[]) (hr:Qg k Pi)
  (hY:∀(w:W6) (h:Heap),YP w h->(K w.params).In h)
  (F:∀(w:W6) (mg:Str->Option X9) (fa:Addr) (h:Heap),(K w.params).In h->h.Ns Xx mg->mg d.name=some (.ref fa) ->
   ∃fd:XO,(∀(s:X5) (u:X9),OQ s fd ⟨[u],[]⟩ [(x,u)]) /\
    ∀base:Heap,(K w.params).In base->base.Ns Xx mg->zI l.prog w (K w.params) mg base (CX w) k fa fd [x] (sp w))
  (hsp:∀(w:W6) (H:Hp) (a:Addr) (ns:List Int),ns.length<=n->zoI H->SqL (K w.params) H a (ns.map V.int)->sp w [.ref a] H (fun v _=>v=.bl true) fun _ _ _=>False)
  (hCX:∀(w:W6) (H:Hp) (s:X5) (e:X9) (s':X5),CX w [] H s (fun _ _ _=>False) e s'->False) :
  O9 q loose XP YP l.row.toRowW d [] (fun f vs=>PySem.call f vs):=by
 refine Att.zf6 hn hdf fun w s₀ s₁ mg mb fa o pm cd doc a vs ns G Y ho hd hcd hmg hobj hints hlen hg=>?_
 have KX:=hY w _ Y
 obtain⟨fd,hb,hF⟩:=F w mg fa _ KX G.T.g hmg
 exact zk3 KX G.T.g G.T.b G.T.builtins G.T.nolimit hg hobj hints (X0 hlen hn2) hr hF hb (fun H hO hS=>hsp w H a ns hlen hO hS) fun H e s'=>hCX w H s₁ e s'
end L2
/- THE LAST THEOREM (shape;LID,My.* are yours):
   My.Adr: a structure of the addresses that your layer names (classes,functions);My.Txt K t: a structure (Prop) of the equations over K;
   My.txt_mk:{K} {implicit addresses ..} (e1:nsIn K Xx "law"=some (some (.ref f))) (e2:K.lookup f=some ⟨oc,od,.func (fnOf "law" "law" params body scope dV kV doc pm an cdv ct),sl⟩) (e3:codeIn K cdv "law"=true) ..:∃t,My.Txt K t
set_option maxRecDepth 100000 in
set_option maxHeartbeats 0 in
theorem PySem.Challenge.cw_LID_holds : PySem.Challenge.rw_LID.Holds := by
 w_on;o_law;k_head;(case hw=>w_witness2)
 k_fill
 refine L2.zi9 (l:=PySem.Challenge.rw_LID) (n:=63) (k:=40) (x:="script") (CX:=fun w=>..) (sp:=fun _=>My.zqU) rfl (by decide) rfl ⟨rfl,by decide,by decide⟩ (fun w h Y=>PySem.W.kIn_of Y) ?F ?S ?C
 case F =>
  intro w mg fa h KX G hmg
  have T:∃t,My.Txt (L2.KOf KX) t:=by
   dsimp only[L2.KOf]                          -- K must stand as «<heap const> w.params» for k_is
   refine' My.txt_mk ?e1 ?e2 ?e3 ..
   (case e1=>PySem.W.k_is)                    -- in the order: a name->its address->its object->its parts
   (case e2=>PySem.W.k_is)
   ..
  obtain⟨t,T⟩:=T
  have e0:=hmg.symm.trans (UM KX G T.law)
  cases e0                                       -- fa is the law's own address
  exact⟨_,fun s u=>.of_eq rfl,fun base kb nb=>My.law_fn T kb nb⟩     -- if «.of_eq rfl» comes too early: refine' ⟨_,?b,fun base kb nb=>My.law_fn T kb nb⟩;exact fun s u=>.of_eq rfl
 case S=>exact fun w H a ns hl hO hS=>..
 case C=>exact ..
(the tactic k_is has no namespace: write k_is) -/
namespace L2
open PySem PySem.Spec PyProof.Rows
noncomputable def Zd (s:Stmt):Arguments:=match s with
 | .FunctionDef _ a _ _ _ _ _ _ _ _=>a
 | _=>{ posonlyargs:=[],args:=[],vararg:=none,kwonlyargs:=[],kw_defaults:=[],kwarg:=none,defaults:=[] }
noncomputable def Jv (s:Stmt):List Stmt:=match s with
 | .FunctionDef _ _ b _ _ _ _ _ _ _=>b
 | _=>[]
noncomputable def zg (s:Stmt):Uh:=match s with
 | .FunctionDef _ _ _ _ _ _ sc _ _ _=>sc
 | _=>{ kind:=.function,names:=[],isGenerator:=false,isCoroutine:=false }
abbrev CX0:CXT:=fun _ _ _ _ _ _=>False
abbrev E0:XK:=fun _ _ _=>False
theorem zL {X:Cx}:Passes CX0 X E0:=fun _ _ _ _ _ _ _ h=>h.elim
structure Fun (K:X8)(x qual:Str)(st:Stmt)(f:Addr)(fd:XO):Prop where
 ex:∃(oc:X9) (od:Option Addr) (kV doc pm:X9) (an:Option Addr) (cdv ct:X9) (osl:Array (Option X9)),
  fd=UT x qual (Zd st) (Jv st) (zg st) .none kV doc pm an cdv ct/\K.lookup f=some ⟨oc,od,.func fd,osl⟩/\Ta K cdv qual=true
 kp:S9 K (.ref f)=true
section
variable {P:Xy}{w:W6}{K:X8}{mg:Str->Option X9}{base:Heap}
theorem Fun.ok {x qual:Str}{st:Stmt}{f:Addr}{fd:XO}{N ps:List Str}{k:Nat}{sp:Sp}(F:Fun K x qual st f fd)(S:zQ N ps (zg st))(len:∀vs H Q E,sp vs H Q E->vs.length=ps.length)
  (hbody:∀(cdv:X9) (A:WG) (outer:List Env) (s:X5) (H:Hp) (vs:List V) (Q:VK) (E:XK),Qg k (A.deeper (PK qual (zg st) s.heap.objs.size f cdv))->sp vs H Q E ->
   ∃t,PSs (zjY CX0 P w K mg base N qual (zg st) f cdv A outer s H E).nox (Jv st) t/\t { nx:=fun _ H'=>Q .non H',rt:=Q } (start N vs) H):zI P w K mg base CX0 (k+1) f fd ps sp:=by
 obtain⟨oc,od,kV,doc,pm,an,cdv,ct,osl,rfl,lk,hcd⟩:=F.ex
 refine zpR lk hcd S len fun A outer s H vs Q E hr hsp=>?_
 obtain⟨t,h,q⟩:=hbody cdv A outer s H vs Q E hr hsp
 exact⟨t,h.nox,q⟩
theorem Fun.binds {x qual:Str}{st:Stmt}{f:Addr}{fd:XO}{ps:List Str}(F:Fun K x qual st f fd)
  (h:∀(kV doc pm:X9) (an:Option Addr) (cdv ct:X9) (us:List X9),us.length=ps.length->bindArgs (UT x qual (Zd st) (Jv st) (zg st) .none kV doc pm an cdv ct) ⟨us,[]⟩=pure (ps.zip us)):Binds K fd ps []:=by
 obtain⟨oc,od,kV,doc,pm,an,cdv,ct,osl,rfl,lk,hcd⟩:=F.ex
 exact .all (h kV doc pm an cdv ct)
theorem zk4 {x qual:Str}{st:Stmt}{f:Addr}{oc:X9}{od an:Option Addr}{osl:Array (Option X9)}{kV doc pm cdv ct:X9}(l:K.lookup f=some ⟨oc,od,.func (UT x qual (Zd st) (Jv st) (zg st) .none kV doc pm an cdv ct),osl⟩)
  (c:Ta K cdv qual=true) (k:S9 K (.ref f)=true):Fun K x qual st f (UT x qual (Zd st) (Jv st) (zg st) .none kV doc pm an cdv ct):=⟨⟨oc,od,kV,doc,pm,an,cdv,ct,osl,rfl,l,c⟩,k⟩
end
section
variable {X:Cx}
theorem pv (i:Nat){x:Str}{pos:Pos}(hN:X.N[i]?=some x:=by rfl)(hv:Vis X.env.scope x:=by first | exact XM rfl | exact VF (XM rfl) | exact VF (VF rfl))(hd:(x==("__debug__":Str))=false:=by decide)
  (hcd:(x==("__classdict__":Str))=false:=by decide):PE X (.Name x pos) (zoq i):=zor hN hv hd hcd
end
theorem Qd {A B:Prop}(h:B):if false=true then A else B:=by
 rw[if_neg XV]
 exact h
theorem Qi {A B:Prop}(h:A):if true=true then A else B:=by
 rw[if_pos rfl]
 exact h
theorem zcf {c A B:Prop} [Decidable c](h1:c->A)(h2:¬ c->B):if c then A else B:=by
 by_cases h:c
 ·rw[if_pos h]
  exact h1 h
 ·rw[if_neg h]
  exact h2 h
theorem zja {c A B:Prop} [Decidable c](hc:c)(h:B):if (!decide c)=true then A else B:=by
 rw[decide_eq_true hc]
 exact Qd h
def zB (H H':Hp):Prop:=∀b o,H b=some o->H' b=some o
theorem zB.refl (H:Hp):zB H H:=fun _ _ h=>h
theorem zB.trans {H H1 H2:Hp}(a:zB H H1)(b:zB H1 H2):zB H H2:=fun c o h=>b c o (a c o h)
theorem zB.free {H H':Hp}(e:zB H H'){l:Addr}(h:H' l=Option.none):H l=Option.none:=by
 cases q:H l with
 | none=>rfl
 | some o =>
  rw[e l o q] at h
  cases h
theorem zB.seq {K:X8}{H H':Hp}{a:Addr}{xs:List V}(e:zB H H')(h:SqL K H a xs):SqL K H' a xs:=by
 rcases h with (h | ⟨o,h⟩) | h
 ·exact .inl (.inl (e _ _ h))
 ·exact .inl (.inr ⟨o,e _ _ h⟩)
 ·exact .inr h
end L2
set_option maxHeartbeats 4000000
namespace L2
open PySem PySem.Spec PyProof.Rows
section
variable {X:Cx}
theorem Zn:OpR X (UC .Mult) (rI Oz fun i j=>.int (i*j)):=opI fun _ _ _ _ _ _ _ hc q=>mul_int q hc
def JU (_ j:Int):Prop:=0<j/\j.natAbs.log2<9000
theorem jT:OpR X (UC .FloorDiv) (rI JU fun i j=>.int (i/j)):=opI fun i j _ _ _ _ _ hc q=>by
 have h1:(0:Int)<j:=hc.1
 exact floordiv_int (by lia) (by rw[RW i (by lia)];exact q) (.inl (PyProof.noPylong_of_log2 hc.2))
theorem JU.small {i j:Int}(h:0<j)(h':j<1073741824):JU i j:=by
 refine⟨h,?_⟩
 have h0:j.natAbs≠0:=by lia
 have:j.natAbs.log2<30:=(Nat.log2_lt h0).mpr (by lia)
 lia
theorem zoJ {i j:Int}(h1:-(2^64)<j)(h2:j<2^64):Oz i j:=IntMulOk.of_right (intBits_le_64 h1 h2)
theorem mulL {i j:Int}(h1:-(2^64)<i)(h2:i<2^64):Oz i j:=IntMulOk.of_left (intBits_le_64 h1 h2)
theorem zpV {i j:Int}(h1:i.natAbs<2^8000)(h2:j.natAbs<2^8000):Oz i j:=IntMulOk.of_le (m:=8000) (n:=8000) (intBits_le_iff.mpr h1) (intBits_le_iff.mpr h2) (by decide)
noncomputable def zpW (T U:String):Option Bool:=if (Rl T==Rl U)=true then some true else if PySem.W.kitMeta U=true then (fastBuiltinMro T).map (·.contains (.type U)) else none
theorem zoK (K:X8){T U:String}{b:Bool}(e:zpW T U=some b):PySem.W.kitOne K (.type T) (.type U)=some b:=e
theorem Qj:yQ X (.builtin "isinstance") (fun xs H Q=>∃x T U b,xs=[x,.ty U]/\zbr X.K H x (.type T)/\zpW T U=some b/\Q (.bl b) H):=by
 intro pins s σ H xs us Q I r h
 obtain⟨x,T,U,b,rfl,ty,e,q⟩:=h
 obtain⟨u,w',rfl,rx,ru⟩:=vals2 r
 cases ru
 exact zjX I rx ty (zoK X.K e) fun tk=>⟨.bl b,H,I.tok tk,rfl,q⟩
end
theorem JE {b:Bool}{A B:Prop}(e:b=true)(h:A):if b=true then A else B:=by
 rw[if_pos e]
 exact h
theorem xu {b:Bool}{A B:Prop}(e:b=false)(h:B):if b=true then A else B:=by
 subst e
 exact Qd h
structure zk (K:X8)(mg:Str->Option X9)(x:Str)(st:Stmt)(ps:List Str)(f:Addr)(fd:XO):Prop where
 F:Fun K x x st f fd
 g:mg x=some (.ref f)
 b:Binds K fd ps []
theorem jx {α:Type}{xs:List α}{i:Int}{v:α}(h:0<=i)(e:xs[i.toNat]?=some v):atI xs i=some v:=by
 have:=xX e
 rwa [Vw h] at this
def zqV (t u:TS):TS:=fun D σ H=>∃M:St->Hp->Prop,t { D with nx:=M } σ H/\∀ σ' H',M σ' H'->u D σ' H'
theorem zjb {X:Cx}{st:Stmt}{rest:List Stmt}{t u:TS}(h1:PS X st t)(h2:PSs X rest u):PSs X (st::rest) (zqV t u):=by
 intro pins s σ H D I h
 obtain⟨M,h3,h4⟩:=h
 refine TV (thn (h1 pins s σ H _ I h3) fun f s1 q=>?_)
 cases f with
 | next =>
  obtain⟨σ1,H1,I1,q1⟩:=q
  exact h2 pins s1 σ1 H1 D I1 (h4 σ1 H1 q1)
 | brk=>exact q
 | cont=>exact q
 | ret v=>exact q
theorem ze {H:Hp}{l:Addr}{o:HO}(h:H l=none):zB H (upd H l o):=fun b u e=>by rw[zu (zj e h)];exact e
section
variable {X:Cx}{tg:Expr}
end
mutual
inductive Rdv (K:X8)(H:Hp):V->Wm->Prop
 | non:Rdv K H .non .none
 | bl (b:Bool):Rdv K H (.bl b) (.bool b)
 | int (i:Int):Rdv K H (.int i) (.int i)
 | str (x:Str):Rdv K H (.str x) (.str x)
 | lst {a:Addr} {xs:List V} {ds:List Wm}:SqL K H a xs->Jm K H xs ds->Rdv K H (.ref a) (.list ds)
 | tup {a:Addr} {xs:List V} {ds:List Wm}:SqT K H a xs->Jm K H xs ds->Rdv K H (.ref a) (.tuple ds)
inductive Jm (K:X8)(H:Hp):List V->List Wm->Prop
 | nil:Jm K H [] []
 | cons {x:V} {d:Wm} {xs:List V} {ds:List Wm}:Rdv K H x d->Jm K H xs ds->Jm K H (x::xs) (d::ds)
end
section
variable {X:Cx}{pins:List (Addr×Obj)}{σ:St}{H:Hp}{s:X5}
theorem zj2 {a:Addr}{xs:List V}{ds:List Wm}(I:Inv X pins σ H s)(hq:SqL X.K H a xs)(h:∀us,Vals xs us->∃as,OP s.heap us ds as):∀u,RelV (.ref a) u->∃as,Reads s.heap u (.list ds) as:=by
 intro u r
 cases r
 obtain⟨its,rv,p,hz⟩:=I.list hq
 obtain⟨as,ra⟩:=h _ rv
 obtain⟨o,ho,hc,n,hd⟩:=p.isList
 exact⟨_,.list ho hc hd (by simpa using ra)⟩
theorem zj3 {a:Addr}{xs:List V}{ds:List Wm}(I:Inv X pins σ H s)(hq:SqT X.K H a xs)(h:∀us,Vals xs us->∃as,OP s.heap us ds as):∀u,RelV (.ref a) u->∃as,Reads s.heap u (.tuple ds) as:=by
 intro u r
 cases r
 obtain⟨its,rv,p,hz⟩:=I.tuple hq
 obtain⟨as,ra⟩:=h _ rv
 obtain⟨o,ho,hc,n,hd⟩:=p
 exact⟨_,.tuple ho hc hd (by simpa using ra)⟩
theorem zhI {v:V}{vs:List V}{d:Wm}{ds:List Wm}(h:∀u,RelV v u->∃as,Reads s.heap u d as)(t:∀us,Vals vs us->∃as,OP s.heap us ds as):∀us,Vals (v::vs) us->∃as,OP s.heap us (d::ds) as:=by
 intro us r
 cases r with
 | cons r1 r2 =>
  obtain⟨as,ra⟩:=h _ r1
  obtain⟨bs,rb⟩:=t _ r2
  exact⟨_,.cons ra rb⟩
theorem Rdv.reads (I:Inv X pins σ H s){v:V}{d:Wm}{u:X9}(h:Rdv X.K H v d):RelV v u->∃as,Reads s.heap u d as :=
 Rdv.rec (motive_1:=fun v d _=>∀u,RelV v u->∃as,Reads s.heap u d as) (motive_2:=fun vs ds _=>∀us,Vals vs us->∃as,OP s.heap us ds as)
  (fun u r=>by cases r;exact⟨_,.none⟩) (fun b u r=>by cases r;exact⟨_,.bool b⟩) (fun i u r=>by obtain⟨t,rfl⟩:=r;exact⟨_,.int i t⟩) (fun x u r=>by obtain⟨t,rfl⟩:=r;exact⟨_,.str x t⟩)
  (fun hq _ h=>zj2 I hq h) (fun hq _ h=>zj3 I hq h) (fun us r=>by cases r;exact⟨_,.nil⟩) (fun _ _ h t=>zhI h t) h u
structure zhJ (x y:Wm):Prop where
 l1:x.canLay0=true
 l2:y.canLay0=true
 dp:x.depth<=64
def zoL (K:X8)(neg:Bool):R2:=fun x y H Q=>∃dx dy,Rdv K H x dx/\Rdv K H y dy/\zhJ dx dy/\Q (.bl (if neg then !PyData.eqv dx dy else W2 dx dy)) H
theorem Ys (hu:X.A.units+64<U6):OpR X (Vq .Eq) (zoL X.K false):=by
 intro pins s σ H x y v u Q I rx ry h
 obtain⟨dx,dy,hx,hy,c,q⟩:=h
 obtain⟨as,ra⟩:=hx.reads I rx
 obtain⟨bs,rb⟩:=hy.reads I ry
 have:=c.dp
 exact SeqAt.compareEq_reads ra rb c.l1 c.l2 (by lia) ⟨.bl _,H,I,rfl,q⟩
theorem yL (hu:X.A.units+64<U6):OpR X (Vq .NotEq) (zoL X.K true):=by
 intro pins s σ H x y v u Q I rx ry h
 obtain⟨dx,dy,hx,hy,c,q⟩:=h
 obtain⟨as,ra⟩:=hx.reads I rx
 obtain⟨bs,rb⟩:=hy.reads I ry
 have:=c.dp
 exact SeqAt.compareNe_reads ra rb c.l1 c.l2 (by lia) ⟨.bl _,H,I,rfl,q⟩
def zpX (K:X8)(neg:Bool):R2:=fun x y H Q=>∃d ds,Rdv K H x d/\Rdv K H y (.list ds)/\d.canLay0=true/\Wd ds=true/\d.depth<=60/\Q (.bl (if neg then !ds.any (fun z=>W2 z d) else ds.any fun z=>W2 z d)) H
theorem zcI (hu:X.A.units+64<U6):OpR X (Vq .In) (zpX X.K false):=by
 intro pins s σ H x y v u Q I rx ry h
 obtain⟨d,ds,hx,hy,c1,c2,c3,q⟩:=h
 obtain⟨as,ra⟩:=hx.reads I rx
 obtain⟨bs,rb⟩:=hy.reads I ry
 exact SeqAt.in_list_reads rb ra c2 c1 (by lia) ⟨.bl _,H,I,rfl,q⟩
end
noncomputable def jd (X:Cx)(N:List Str)(scope:Uh)(cl:List (Str×Addr))(C:Addr)(fp:List Addr)(pins:List (Addr×Obj))(s:X5)(H:Hp):Cx where
 prog:=X.prog
 w:=X.w
 K:=X.K
 mg:=X.mg
 base:=X.base
 A:=X.A
 N:=N
 s₀:=s
 H₀:=H
 env:=Th scope cl C X.env
 outer:=X.stack
 stack:=X.stack
 ex:=fp
 fn:=fun _=>false
 calm:=X.calm
 pn:=X.pn++pins
 xe:=fun _ _=>False
noncomputable def pull (src:List (Option Nat))(σ:St):St:=src.map fun o=>match o with
 | some j=>(σ[j]?).getD none
 | none=>none
structure zY (X:Cx)(N:List Str)(src:List (Option Nat))(scope:Uh)(cl:List (Str×Addr)):Prop where
 kind:scope.kind=.function
 nocell:∀y∈scope.names,y.2 ≠ .cell
 names:∀y∈scope.names,y.2=.local->scope.names.lookup y.1=some .local
 clos:OU scope X.env=pure cl
 sub:∀x c,cl.lookup x=some c->X.env.cells.lookup x=some c
 has:∀x,((Ut scope X.env).names.lookup x=some .cell\/(Ut scope X.env).names.lookup x=some .free)->∃c,cl.lookup x=some c
 len:src.length=N.length
 pulls:∀(i j:Nat) (x:Str),N[i]?=some x->src[i]?=some (some j)->X.N[j]?=some x/\(X.env.kindOf x=some .cell\/X.env.kindOf x=some .free)/\((Ut scope X.env).names.lookup x=some .cell\/(Ut scope X.env).names.lookup x=some .free)
theorem zdL {scope:Uh}{env:Env}(nf:∀y∈scope.names,y.2 ≠ .free):(Ut scope env).names=scope.names:=by
 show scope.names.map _=scope.names
 refine map_eq_self fun x hx=>?_
 obtain⟨n,k⟩:=x
 have:(k==NameKind.free)=false:=by simpa using nf _ hx
 simp[this]
theorem zY.plain {X:Cx}{N:List Str}{src:List (Option Nat)}{scope:Uh}(kind:scope.kind=.function)(nocell:∀y∈scope.names,y.2 ≠ .cell)(nofree:∀y∈scope.names,y.2 ≠ .free)
  (names:∀y∈scope.names,y.2=.local->scope.names.lookup y.1=some .local) (len:src.length=N.length) (none:∀o∈src,o=none):zY X N src scope [] where
 kind:=kind
 nocell:=nocell
 names:=names
 clos:=closureFor_none nofree
 sub:=fun x c h=>nomatch h
 has:=fun x h=>by
  rw[zdL nofree] at h
  rcases h with h | h
  ·exact absurd rfl (nocell _ (WM h))
  ·exact absurd rfl (nofree _ (WM h))
 len:=len
 pulls:=fun i j x _ h=>by
  have:=none _ (X2 h)
  cases this
def zk5 (X:Cx)(ifs:List Expr)(t:TT):Prop :=
 ∀(pins:List (Addr×Obj)) (s:X5) (σ:St) (H:Hp) (Q:Bool->Hp->Prop),Inv X pins σ H s->t σ H Q ->
  Xa (Xf X.prog X.w) X.A (forIn ifs true fun c r=>if r=true then do let ok <- isTrue c X.env (eval c X.env);pure (Vv ok) else pure (Vv r)) (TP X pins σ Q) X.xe s
def zk6:TT:=fun _ H Q=>Q true H
theorem qL {X:Cx}:zk5 X [] zk6:=fun _ _ _ H _ I h=>wpAny_tests_nil ⟨H,I,h⟩
theorem qh {X:Cx}{c:Expr}{t:TT}(h:PT X c t):zk5 X [c] t:=fun pins s σ H Q I hq=>wpAny_tests_one (h pins s σ H Q I hq)
def JV (J:It)(g:TG)(tc:TT)(te:TE)(Q:VK)(D:Addr)(σ0:St)(H0:Hp):Prop :=
 ∃W:Nat->Nat->St->Hp->Prop,(∃m,W 0 m σ0 H0)/\∀i m σ' H',W i m σ' H' ->
  (J.stop i H'/\Q (.ref D) H')\/(J.go i H'/\∃N:St->Hp->Prop,(∀ σ'' H'',N σ'' H''->∃m',m'<m/\W (i+1) m' σ'' H'') /\
   ∀x H2,J.yld i H' x H2->g x σ' H2 fun σ2 H3=>tc σ2 H3 fun b H4=>if b=true then te σ2 H4 fun y H5=>∃ys,H5 D=some (.lst ys)/\ys.length<XU/\N σ2 (upd H5 D (.lst (ys++[y]))) else N σ2 H4)
def zk7 (wi:TI)(src:List (Option Nat))(g:TG)(tc:TT)(te:TE):TE:=fun σ H Q=>wi σ H fun J H1=>∀D,H1 D=none->JV J g tc te Q D (pull src σ) (upd H1 D (.lst []))
theorem Un.but {fs ex:List Addr}{H H1:Hp}{h h1 h2:Heap}{C:Addr}(u:Un fs ex H H1 h h1)(hC:h.objs.size<=C)(sb:VD C h1 h2):Un fs ex H H1 h h2:=by
 have ne:∀b o,h.get? b=some o->b≠C:=fun b o e=>Xk (Xn (XF e) hC)
 refine⟨fun b o e n hb hx=>(sb.2 b (ne b o e)).trans (u.keep b o e n hb hx),fun b o e n hb hx=>?_,u.free,fun b o e hx=>?_,u.tups,u.frzs,u.tbls⟩
 ·obtain⟨sl,q⟩:=u.slot b o e n hb hx
  exact⟨sl,(sb.2 b (ne b o e)).trans q⟩
 ·obtain⟨o',q⟩:=u.there b o e hx
  exact⟨o',(sb.2 b (ne b o e)).trans q⟩
theorem HOk.but {P:Xy}{w:W6}{H:Hp}{h h':Heap}{C:Addr}(ok:HOk P w H h)(hn:H C=none)(sb:VD C h h'):HOk P w H h':=fun b ob e=>by
 refine(ok b ob e).stay (fun c w' hc q=>(sb.2 c ?_).trans q) (fun _ q=>q) fun _ _ q=>q
 rintro rfl
 rcases hc with rfl | hc
 ·rw[hn] at e;cases e
 ·rw[hn] at hc;cases hc
section
variable {X:Cx}{tg iter elt:Expr}{ifs:List Expr}{scope:Uh}{pos:Pos}{N:List Str}{src:List (Option Nat)}{cl:List (Str×Addr)}{wi:TI}{g:TG}{tc:TT}{te:TE}
theorem zcJ {pins:List (Addr×Obj)}{σ:St}{H:Hp}{s:X5}{fp:List Addr}{h1:Heap}{C:Addr}{tk:Nat}(ok:zY X N src scope cl)(I:Inv X pins σ H s)(hf:∀b∈fp,zaJ X pins H b)(ho:∀b∈fp,∃o,s.heap.get? b=some o)
  (hC:C=s.heap.objs.size+1) (k:∀b u,s.heap.get? b=some u->h1.get? b=some u) (hD:h1.get? s.heap.objs.size=some { cls:=.type "list",data:=.seq #[] }) {m:Str->Option X9} (hn:h1.Ns C m) :
  Inv (jd X N scope cl C fp pins s H) [] (pull src σ) (upd H s.heap.objs.size (.lst [])) { s with heap:=h1,toks:=tk }:=by
 have lt:∀b o,s.heap.get? b=some o->b<s.heap.objs.size:=fun b o e=>XF e
 have nC:∀b o,s.heap.get? b=some o->b≠C:=fun b o e=>by rw[hC];exact Xk (WJ (lt b o e))
 have nD:∀b o,s.heap.get? b=some o->b≠s.heap.objs.size:=fun b o e=>Xk (lt b o e)
 have fr:∀b,s.heap.objs.size<=b->H b=none:=fun b hb=>I.hok.fresh hb
 have nst:∀b,b≠X.env.locals->b ∉ X.fs->b ∉ frs X.stack:=fun b h1 h2 z=>(XB.mp (I.stkSub b z)).elim h1 h2
 have sub:=ok.sub
 refine⟨⟨I.ok.mod,ok.kind,I.ok.glob,I.ok.blt,by rw[show (jd X N scope cl C fp pins s H).env.locals=C from rfl,hC];exact V3 _,fun x y c e1 e2=>I.ok.inj x y c (sub x c e1) (sub y c e2),ok.has,(fun x c z _=>nomatch z),I.ok.hd,I.ok.frames,.inl rfl,fun b hb=>?_,I.bs,X0 I.ok.bsz I.sz,fun b o e hb=>?_,fun b hb hz=>?_,I.stack,I.stkFree⟩,
  rfl,I.bare,Un.laid k (XW _) (fr _ (XW _)),⟨m,hn,fun i x v e1 e2 e3=>?_⟩,fun x c e=>?_,?_,fun x c e=>?_,fun p hp=>?_,I.hok.laid k (XW _) ⟨WW _,[],0,.nil,hD⟩,?_⟩
 ·obtain⟨o,e⟩:=ho b hb
  exact⟨nC b o e,fun x c z=>(hf b hb).2.2.2.2.1 x c (sub x c z)⟩
 ·rcases(hf b hb).2.2.2.1 with z | z
  ·exact I.ok.noex b o e z
  ·exact absurd (Xn (XF (I.ok.bs b o e).1) z) (V6 _)
 ·exact nst b (hf b hb).2.1 (hf b hb).2.2.1 hz
 ·have hi:i<src.length:=by
   have:=(X4.mp e2).1
   unfold pull at this
   rw[ZB] at this
   exact this
  unfold pull at e2
  rw[XE,X7 hi] at e2
  cases q:src[i] with
  | none=>rw[q] at e2;cases e2
  | some j =>
   rw[q] at e2
   have e2':(σ[j]?).getD none=some v:=Option.some.inj e2
   have e4:σ[j]?=some (some v):=by
    cases z:σ[j]? with
    | none=>rw[z] at e2';cases e2'
    | some o=>rw[z] at e2';exact congrArg some e2'
   obtain⟨p1,p2,p3⟩:=ok.pulls i j x e1 (by rw[X7 hi,q])
   obtain⟨m',hn',hl⟩:=I.loc
   obtain⟨u,r,l⟩:=hl j x v p1 e4 (by
    rcases p2 with z | z
    ·exact .inr (.inl z)
    ·exact .inr (.inr z))
   refine⟨u,r,.inr ⟨p3,?_⟩⟩
   obtain⟨c,hc⟩:=ok.has x p3
   refine⟨c,hc,?_⟩
   rcases l with ⟨z,_⟩ | ⟨_,c',hc',o,ho',hd'⟩
   ·rcases p2 with y | y<;>rw[z] at y<;>cases y
   ·rw[sub x c hc] at hc'
    cases hc'
    exact⟨o,k _ o ho',hd'⟩
 ·obtain⟨v,o,e1,e2⟩:=I.cell x c (sub x c e)
  exact⟨v,o,k c o e1,e2⟩
 ·show upd H s.heap.objs.size (.lst []) C=none
  rw[hC,zu (Vp _)]
  exact fr _ (V3 _)
 ·show upd H s.heap.objs.size (.lst []) c=none
  obtain⟨v,o,e1,e2⟩:=I.cell x c (sub x c e)
  rw[zu (nD c o e1)]
  exact I.freeC x c (sub x c e)
 ·have hp':p∈X.pn++pins:=by
   have:p∈(X.pn++pins)++[]:=hp
   simpa using this
  obtain⟨e1,e2,e3,e4,e5⟩:=I.pin p hp'
  refine⟨k _ _ e1,?_,nC _ _ e1,nst _ e3 e4,e5⟩
  show upd H s.heap.objs.size (.lst []) p.1=none
  rw[zu (nD _ _ e1)]
  exact e2
 ·unfold pull
  rw[ZB]
  exact ok.len
theorem qd (ok:zY X N src scope cl)(hcalm:X.calm=true)(hi:PI X tg iter wi)
  (hg:∀C fp pins s H,PG (jd X N scope cl C fp pins s H) tg g) (hc:∀C fp pins s H,zk5 (jd X N scope cl C fp pins s H) ifs tc) (he:∀C fp pins s H,PE (jd X N scope cl C fp pins s H) elt te)
  (hs:∀x,S4 iter X.env x=pure x:=by intro _;rfl):PE X (.ListComp elt [⟨tg,iter,ifs,0⟩] scope pos) (zk7 wi src g tc te):=by
 intro pins s σ H Q I h
 rw[eval_ListComp]
 refine TF (use:=none) rfl hs ok.clos ok.kind ok.names (thn (hi pins s σ H _ I h) fun xv s1 h1=>thn h1 fun itv s2 h2=>?_)
 obtain⟨it,fp,tn,J,H2,e,I2,T,st2,f2,q2⟩:=h2
 subst e
 refine VR (Pq ok.nocell (by intro y hy;simp at hy) (fun h₁ hns₁ hsb₁=>?_) ok.kind)
 dsimp only at hns₁ hsb₁ ⊢
 generalize hP:s2.heap.push { cls:=.type "list",dict:=none,data:=.seq ([]:List X9).toArray }=P2 at hns₁ hsb₁ ⊢
 have hC:P2.objs.size=s2.heap.objs.size+1:=by rw[<- hP,Vj]
 have k:∀b u,s2.heap.get? b=some u->h₁.get? b=some u:=fun b u e=>by
  have lt:=XF e
  exact(hsb₁.2 b (by rw[hC];exact Xk (WJ lt))).trans (XY _ (hP ▸ XY _ e))
 have hD:h₁.get? s2.heap.objs.size=some { cls:=.type "list",data:=.seq #[] }:=(hsb₁.2 _ (by rw[hC];exact(Vp _).symm)).trans (XY _ (hP ▸ W5 _ rfl))
 have ho:∀b∈fp,∃o,s2.heap.get? b=some o:=fun b hb=>let ⟨o,e,_⟩:=T.obj 0 _ st2 b hb;⟨o,e⟩
 obtain⟨W,⟨m0,w0⟩,turn⟩:=q2 s2.heap.objs.size (I2.hok.fresh (XW _))
 have I0:=zcJ (tk:=s2.toks+([]:List (Str×X9)).length) ok I2 f2 ho hC k hD hns₁
 have st0:tn 0 h₁:=T.keep 0 _ _ st2 fun b _ o e=>k b o e
 have fr0:∀b∈fp,upd H2 s2.heap.objs.size (.lst []) b=none:=fun b hb=>by
  obtain⟨o,e⟩:=ho b hb
  rw[zu (Xk (XF e))]
  exact(f2 b hb).1
 have stat:∀{H':Hp},(∀b∈fp,H' b=none)->∀b∈fp,zaJ (jd X N scope cl P2.objs.size fp pins s2 H2) [] H' b:=fun {H'} hn b hb=>by
  obtain⟨o,e⟩:=ho b hb
  have lt:=XF e
  refine⟨hn b hb,?_,fun z=>(XB.mp (I2.stkSub b z)).elim (f2 b hb).2.1 (f2 b hb).2.2.1,.inl hb,fun x c z=>(f2 b hb).2.2.2.2.1 x c (ok.sub x c z),fun p hp=>?_⟩
  ·show b≠P2.objs.size
   rw[hC]
   exact Xk (WJ lt)
  ·have hp':p∈X.pn++pins:=by
    have:p∈(X.pn++pins)++[]:=hp
    simpa using this
   exact(f2 b hb).2.2.2.2.2 p hp'
 have loop:∀s₃:X5,s₃={ s2 with heap:=h₁,toks:=s2.toks+([]:List (Str×X9)).length } ->
   Ti (Xf X.prog X.w) X.A (.compLoop (.ListComp elt [⟨tg,iter,ifs,0⟩] scope pos) 0 (.ref it) (.ref s2.heap.objs.size) (Th scope cl P2.objs.size X.env))
    (compPost (Xf X.prog X.w) X.A X.xe none (EP X pins σ Q) (.ref s2.heap.objs.size) P2.objs.size) s₃:=by
  rintro s₃ rfl
  refine OO rfl (fun n s'=>∃i σ' H',Inv (jd X N scope cl P2.objs.size fp pins s2 H2) [] σ' H' s'/\tn i s'.heap/\(∀b∈fp,H' b=none)/\W i n σ' H') ?_ m0 ⟨0,_,_,I0,st0,fr0,w0⟩
  rintro n s3 ⟨i,σ3,H3,I3,st3,fr3,w3⟩
  show Xa _ X.A ((compTurn (.ListComp elt [⟨tg,iter,ifs,0⟩] scope pos) 0 (.ref it) (.ref s2.heap.objs.size) (Th scope cl P2.objs.size X.env)).onRaise (fun x=>do noteFrame x (Th scope cl P2.objs.size X.env);P1 x)) _ _ s3
  refine OK ?_
  rw[O7]
  rcases turn i n σ3 H3 w3 with ⟨stop,qn⟩ | ⟨go,N',hN,step⟩
  ·refine Y1 (UN (Y1 (thn (T.done (jd X N scope cl P2.objs.size fp pins s2 H2) rfl rfl rfl hcalm i [] s3 σ3 H3 _ I3 (stat fr3) st3 stop) fun r s4 ⟨hr,I4⟩=>?_)))
   subst hr
   refine XS ?_
   obtain⟨m,hm,_⟩:=I4.loc
   refine⟨m,hm,fun h' sb=>⟨.ref s2.heap.objs.size,H3,?_,rfl,qn⟩⟩
   have un:Un (frs X.stack) fp H2 H3 s2.heap h':=Un.but I4.base (by show s2.heap.objs.size<=P2.objs.size;rw[hC];exact V3 _) sb
   have hok:HOk X.prog X.w H3 h':=HOk.but I4.hok I4.free sb
   exact I2.call' (s':={ s4 with heap:=h' }) (ch:=fp) I4.os un hok I4.bare fun b hb=>⟨(f2 b hb).2.2.2.1,(f2 b hb).2.1,(f2 b hb).2.2.2.2.1,(f2 b hb).2.2.2.2.2⟩
  ·refine Y1 (UN (Y1 (thn (T.item (jd X N scope cl P2.objs.size fp pins s2 H2) rfl rfl rfl hcalm i [] s3 σ3 H3 _ I3 (stat fr3) st3 go) fun r s4 ⟨u,hr,h4⟩=>?_)))
   subst hr
   dsimp only
   refine Y1 (thn h4 fun _ s5 ⟨x,H5,I5,r5,y5,st5,fr5⟩=>?_)
   have I5':=I5.pinned (stat fr5) (T.obj _ _ st5)
   refine Y1 (Wr (hg P2.objs.size fp pins s2 H2 _ s5 σ3 H5 x u _ I5' r5 (step x H5 y5)) (fun _ s6 ⟨σ6,H6,I6,q6⟩=>?_) fun _ _ z=>Wl z)
   have RO:∀{s7:X5} {σ7:St} {H7:Hp},Inv (jd X N scope cl P2.objs.size fp pins s2 H2) ([]++zal fp s5.heap) σ7 H7 s7->N' σ7 H7->∃m,m<n/\∃i σ' H',Inv (jd X N scope cl P2.objs.size fp pins s2 H2) [] σ' H' s7/\tn i s7.heap/\(∀b∈fp,H' b=none)/\W i m σ' H':=fun {s7 σ7 H7} I7 n7=>by
    obtain⟨m',hm,w7⟩:=hN σ7 H7 n7
    refine⟨m',hm,i+1,σ7,H7,I7.unpinned,T.keep _ _ _ st5 fun b hb o e=>(I7.pin (b,o) (Xs _ (Xs _ (j6 hb e)))).1,fun b hb=>?_,w7⟩
    obtain⟨o,e,d⟩:=T.obj _ _ st5 b hb
    exact(I7.pin (b,o) (Xs _ (Xs _ (j6 hb e)))).2.1
   refine Y1 (Wr (hc P2.objs.size fp pins s2 H2 _ s6 σ6 H6 _ I6 q6) (fun b s7 ⟨H7,I7,q7⟩=>?_) fun _ _ z=>Wl z)
   cases b with
   | false =>
    rw[if_neg XV] at q7
    exact XS ⟨rfl,RO I7 q7⟩
   | true =>
    rw[if_pos rfl] at q7
    refine Y1 (Y1 (Wr (he P2.objs.size fp pins s2 H2 _ s7 σ6 H7 _ I7 q7) (fun y s8 ⟨v8,H8,I8,r8,ys,hys,hlen,q8⟩=>?_) fun _ _ z=>Wl z))
    refine Y1 (Wr (jj (X:=jd X N scope cl P2.objs.size fp pins s2 H2) _ s8 σ6 H8 (.ref s2.heap.objs.size) [v8] (.ref s2.heap.objs.size) [y] (fun _ H9=>N' σ6 H9) I8 rfl (.cons r8 .nil) ⟨_,ys,v8,rfl,rfl,hys,hlen,q8⟩) (fun _ s9 ⟨v9,H9,I9,_,q9⟩=>?_) fun _ _ z=>Wl z)
    exact XS (XS ⟨rfl,RO I9 q9⟩)
 exact SU (loop _ rfl) (T.self _ 0 _ _ _ st0 (loop _ rfl))
end
section
variable {K:X8}{src:List (Option Nat)}{g:TG}{tc:TT}{te:TE}{Q:VK}{σ:St}{H:Hp}{D:Addr}
theorem qq {a:Addr}{xs:List V}(Pv:Nat->St->Hp->Prop)(h0:Pv 0 σ H)(hl:∀i σ H,i<=xs.length->Pv i σ H->SqL K H a xs)
  (hs:∀i x σ H,xs[i]?=some x->Pv i σ H->g x σ H fun σ2 H3=>tc σ2 H3 fun b H4=>if b=true then te σ2 H4 fun y H5=>∃ys,H5 D=some (.lst ys)/\ys.length<XU/\Pv (i+1) σ2 (upd H5 D (.lst (ys++[y]))) else Pv (i+1) σ2 H4)
  (hd:∀ σ H,Pv xs.length σ H->Q (.ref D) H):JV (Itl K a) g tc te Q D σ H:=by
 refine⟨fun i m σ H=>m=xs.length-i/\i<=xs.length/\Pv i σ H,⟨xs.length,by simp,WW _,h0⟩,?_⟩
 rintro i m σ H ⟨rfl,hi,p⟩
 have q:=hl i σ H hi p
 by_cases hlt:i<xs.length
 ·refine .inr ⟨⟨xs,xs[i],q,by simp[hlt]⟩,Pv (i+1),fun σ' H' p'=>⟨xs.length-(i+1),by lia,rfl,hlt,p'⟩,fun x H' y=>?_⟩
  obtain⟨e,y⟩:=y
  subst e
  exact hs i x σ _ (y xs q) p
 ·have e:i=xs.length:=by lia
  subst e
  exact .inl ⟨⟨xs,q,XW _⟩,hd σ H p⟩
theorem JW {lo:Int}{n:Nat}(Pv:Nat->St->Hp->Prop)(h0:Pv 0 σ H)
  (hs:∀i σ H,i<n->Pv i σ H->g (.int (lo+i)) σ H fun σ2 H3=>tc σ2 H3 fun b H4=>if b=true then te σ2 H4 fun y H5=>∃ys,H5 D=some (.lst ys)/\ys.length<XU/\Pv (i+1) σ2 (upd H5 D (.lst (ys++[y]))) else Pv (i+1) σ2 H4)
  (hd:∀ σ H,Pv n σ H->Q (.ref D) H):JV (Itr lo n) g tc te Q D σ H:=by
 refine⟨fun i m σ H=>m=n-i/\i<=n/\Pv i σ H,⟨n,by simp,WW _,h0⟩,?_⟩
 rintro i m σ H ⟨rfl,hi,p⟩
 by_cases hlt:i<n
 ·refine .inr ⟨hlt,Pv (i+1),fun σ' H' p'=>⟨n-(i+1),by lia,rfl,hlt,p'⟩,fun x H' y=>?_⟩
  obtain⟨e,y⟩:=y
  subst e y
  exact hs i σ _ hlt p
 ·have e:i=n:=by lia
  subst e
  exact .inl ⟨XW _,hd σ H p⟩
end
theorem zf7 {K:X8}{H:Hp}:∀rs:List Str,Jm K H (rs.map V.str) (rs.map UO)
 | []=>.nil
 | t::r=>.cons (.str t) (zf7 r)
section
variable {X:Cx}{K:X8}
theorem zbs {a:Expr}{ta:TE}(hK:X.K=K)(ha:PE X a ta)(he:∀whole,isTrue a X.env whole=(do let v <- whole;standAt a.pos;OR [v] (truthy v))) :
  PT X a (fun σ H Q=>ta σ H fun x H'=>∃k,zoB K x H' k/\Q k H'):=by
 subst hK
 exact JT ha he
theorem ZP (hK:X.K=K):IxR X (zoG K):=by
 subst hK
 exact qS
theorem zaM (hK:X.K=K):IxR X (zpT K):=by
 subst hK
 exact qU
theorem ZD (hK:X.K=K):yQ X (.builtin "len") (fun xs H Q=>∃p ys,xs=[.ref p]/\(SqL K H p ys\/SqT K H p ys)/\Q (.int ys.length) H):=by
 subst hK
 exact zE
theorem zf8 (hK:X.K=K)(hu:X.A.units+64<U6):OpR X (Vq .Eq) (zoL K false):=by
 subst hK
 exact Ys hu
theorem jL (hK:X.K=K)(hu:X.A.units+64<U6):OpR X (Vq .In) (zpX K false):=by
 subst hK
 exact zcI hu
theorem Yt {es:List Expr}{k:Nat}{t:TGs}{n:Nat}{pos:Pos}(hK:X.K=K)(hc:X.calm=true)(h:PGs X es t)
  (hn:(Tx es X.env).length=n:=by rfl) (hst:(Tx es X.env).findIdx? (·.1)=none:=by rfl):PG X (.Tuple es k pos) (zpH K n t):=by
 subst hK
 exact Jl hc h hn hst
end
section
variable {fs ch:List Addr}{H:Hp}{h h':Heap}{a:Addr}{o:HO}
theorem Un.laidX (k:∀b u,b ∉ ch->h.get? b=some u->h'.get? b=some u)(hp:h.objs.size<=a)(hn:H a=none):Un fs ch H (upd H a o) h h' where
 keep:=fun b u q _ _ hx=>k b u hx q
 slot:=fun b u q _ _ hx=>⟨u.slots,k b u hx q⟩
 free:=fun b u q n _=>by rw[zu (Xk (Xn (XF q) hp))];exact n
 there:=fun b u q hx=>⟨u,k b u hx q⟩
 tups:=fun b xs q=>by rw[zu (zj q hn)];exact q
 frzs:=fun b u xs q=>by rw[zu (zj q hn)];exact q
 tbls:=fun b ps q=>⟨#[],by rw[zu (zj q hn),q];simp⟩
theorem Un.keptX (k:∀b u,b ∉ ch->h.get? b=some u->h'.get? b=some u):Un fs ch H H h h' :=
 ⟨fun b ob q _ _ hx=>k b ob hx q,fun b ob q _ _ hx=>⟨ob.slots,k b ob hx q⟩,fun _ _ _ n _=>n,fun b ob q hx=>⟨ob,k b ob hx q⟩,fun _ _ q=>q,fun _ _ _ q=>q,fun _ ps q=>⟨#[],by rw[q];simp⟩⟩
theorem HOk.keptX {P:Xy}{w:W6}(x:HOk P w H h)(k:∀b u,b ∉ ch->h.get? b=some u->h'.get? b=some u)(hch:∀b∈ch,H b=none):HOk P w H h':=fun b u e=>by
 refine(x b u e).stay (fun c v hc q=>k c v (fun z=>?_) q) (fun _ q=>q) fun _ _ q=>q
 have n:=hch c z
 rcases hc with rfl | hc
 ·rw[n] at e;cases e
 ·rw[n] at hc;cases hc
theorem HOk.laidX {P:Xy}{w:W6}(x:HOk P w H h)(k:∀b u,b ∉ ch->h.get? b=some u->h'.get? b=some u)(hch:∀b∈ch,H b=none)(hp:h.objs.size<=a)(new:jn P w (upd H a o) h' a o):HOk P w (upd H a o) h':=fun b u e=>by
 have hn:=x.fresh hp
 by_cases hb:b=a
 ·subst hb;rw[zc] at e;cases e;exact new
 ·rw[zu hb] at e
  refine(x b u e).stay (fun c v hc q=>k c v (fun z=>?_) q) (fun c q=>by rw[zu (zj q hn)];exact q) fun c xs q=>by rw[zu (zj q hn)];exact q
  have n:=hch c z
  rcases hc with rfl | hc
  ·rw[n] at e;cases e
  ·rw[n] at hc;cases hc
end
section
variable {X:Cx}{pins:List (Addr×Obj)}{s:X5}{σ:St}{H:Hp}{E:X9->X5->Prop}{fp wr FP:List Addr}{elts:List Expr}{k:Nat}{pos:Pos}{e:Addr}{n i:Nat}{Pt:Nat->Array X9->Prop}{Sn:Nat->Heap->Prop}{Mid:Nat->Addr->Heap->Prop}{J:It}{tn:Nat->Heap->Prop}
theorem zhK (I:Inv X pins σ H s)(hf:∀b∈fp,zaJ X pins H b)(ho:∀b∈fp,∃o,s.heap.get? b=some o)(hwr:∀b∈wr,b∈fp)(W:WalksT X.prog X.w X.A e FP wr n Pt Sn Mid)(hi:i<n)(st:Sn i s.heap)
  (y:∀T vals,H T=none->Pt i vals->∃vs,Vals vs vals.toList/\vs.length<=XU/\J.yld i H (.ref T) (upd H T (.tup vs))) (nx:∀h'',Sn (i+1) h''->tn (i+1) h'') :
  Xa (Xf X.prog X.w) X.A (Sd (.ref e)) (fun r s1=>∃u,r=some u /\
   Xa (Xf X.prog X.w) X.A (Sq (.Tuple elts k pos) (.ref e) u) (fun _ s2=>∃x H',Inv X pins σ H' s2/\RelV x u/\J.yld i H x H'/\tn (i+1) s2.heap/\∀b∈fp,H' b=none) E s1) E s:=by
 refine W.item i s _ E hi st fun T vals h' tk hP hT0 hT hm kk=>⟨.ref T,rfl,?_⟩
 have hn:H T=none:=I.hok.fresh hT0
 obtain⟨vs,hv,hl,hy⟩:=y T vals hn hP
 refine W.go elts k pos i T { s with heap:=h',toks:=tk } _ E hm fun h'' st'' kk2=>?_
 have k2:∀b o,b ∉ wr->s.heap.get? b=some o->h''.get? b=some o:=fun b o hb e=>kk2 b o hb (kk b o hb e)
 have hTup:OE h'' T vals:=by
  obtain⟨o,e1,c,m,d⟩:=hT
  exact⟨o,kk2 T o (W.apart i T _ hm) e1,c,m,d⟩
 have hch:∀b∈wr,H b=none:=fun b hb=>(hf b (hwr b hb)).1
 refine⟨.ref T,upd H T (.tup vs),?_,rfl,hy,nx _ st'',fun b hb=>?_⟩
 ·exact I.call' (s':={ s with heap:=h'',toks:=tk }) (ch:=wr) rfl (Un.laidX k2 hT0 hn) (HOk.laidX I.hok k2 hch hT0 ⟨hl,vals.toList,hv,by simpa using hTup⟩) I.bare fun b hb=>let f:=hf b (hwr b hb);⟨f.2.2.2.1,f.2.1,f.2.2.2.2.1,f.2.2.2.2.2⟩
 ·obtain⟨o,e1⟩:=ho b hb
  rw[zu (Xk (Xn (XF e1) hT0))]
  exact(hf b hb).1
theorem zhL (I:Inv X pins σ H s)(hf:∀b∈fp,zaJ X pins H b)(hwr:∀b∈wr,b∈fp)(W:WalksT X.prog X.w X.A e FP wr n Pt Sn Mid)(st:Sn n s.heap) :
  Xa (Xf X.prog X.w) X.A (Sd (.ref e)) (fun r s1=>r=none/\Inv X pins σ H s1) E s :=
 W.done s _ E st fun h' tk kk=>⟨rfl,I.call' (s':={ s with heap:=h',toks:=tk }) (ch:=wr) rfl (Un.keptX kk) (HOk.keptX I.hok kk fun b hb=>(hf b (hwr b hb)).1) I.bare fun b hb=>let f:=hf b (hwr b hb);⟨f.2.2.2.1,f.2.1,f.2.2.2.2.1,f.2.2.2.2.2⟩⟩
end
theorem JX {h:Heap}{b:Addr}{o:Obj}{vs:Array X9}(e:h.get? b=some o)(d:o.data=.fields vs):∃o,h.get? b=some o/\∀v,o.data ≠ .cell v:=⟨o,e,fun v z=>by rw[d] at z;cases z⟩
noncomputable def Ite (K:X8)(l:Addr):It:=⟨fun i H=>∃xs,SqL K H l xs/\i<xs.length,fun i H x H'=>∃T,x=.ref T/\H T=none/\∀xs,SqL K H l xs->∃v,xs[i]?=some v/\H'=upd H T (.tup [.int i,v]),fun i H=>∃xs,SqL K H l xs/\i=xs.length⟩
theorem zj4 {P:Xy}{w:W6}{K:X8}{elts:List Expr}{k:Nat}{pos:Pos}(e it l:Addr)(hei:e≠it)(hle:l≠e)(hli:l≠it) :
  Turn P w K (.Tuple elts k pos) (Ite K l) [e,it] e (fun i h=>(∃old,IsEnum h e it i old)/\h.IsListIter it l i) where
 mem:=by simp
 obj:=fun i h st b hb=>by
  obtain⟨⟨old,he⟩,o,e2,c,d⟩:=st
  rcases XB.mp hb with rfl | hb
  ·exact JX he rfl
  ·have z:b=it:=by simpa using hb
   subst z
   exact JX e2 d
 keep:=fun i h h' st kk=>by
  obtain⟨⟨old,he⟩,o,e2,r⟩:=st
  exact⟨⟨old,kk e (by simp) _ he⟩,o,kk it (by simp) o e2,r⟩
 item:=by
  intro X hP hw hK hc i pins s σ H E I hf st hg
  subst hP hw hK
  obtain⟨xs,hq,hlt⟩:=hg
  obtain⟨its,rv,p,hz⟩:=I.list hq
  have hl:=rv.length
  obtain⟨⟨old,he⟩,o2,e2,c2,d2⟩:=id st
  refine zhK (wr:=[e,it]) (J:=Ite X.K l) (tn:=fun i h=>(∃old,IsEnum h e it i old)/\h.IsListIter it l i) I hf (fun b hb=>?_) (fun b hb=>hb) (WalksT.enumerate (I.ok.hd hc) e it l hei hle hli its.toArray) (by simp;lia) ⟨st.1,st.2,p.isList⟩ (fun T vals hn hp=>?_) fun h'' q=>⟨q.1,q.2.1⟩
  ·rcases XB.mp hb with rfl | hb
   ·exact⟨_,he⟩
   ·have z:b=it:=by simpa using hb
    subst z
    exact⟨_,e2⟩
  ·obtain⟨t,x,hx,rfl⟩:=hp
   have hx':its[i]?=some x:=by simpa using hx
   obtain⟨u,hu,ru⟩:=rv.get (i:=i) (x:=xs[i]) (by rw[X7 hlt])
   rw[hu] at hx'
   cases hx'
   exact⟨[.int i,xs[i]],.cons ⟨t,rfl⟩ (.cons ru .nil),(by show 2<=XU;decide),T,rfl,hn,fun ys hy=>⟨xs[i],by rw[I.list_inj hy hq,X7 hlt],rfl⟩⟩
 done:=by
  intro X hP hw hK hc i pins s σ H E I hf st hg
  subst hP hw hK
  obtain⟨xs,hq,rfl⟩:=hg
  obtain⟨its,rv,p,hz⟩:=I.list hq
  have hl:its.toArray.size=xs.length:=by simp[rv.length]
  refine zhL (fp:=[e,it]) (wr:=[e,it]) I hf (fun b hb=>hb) (WalksT.enumerate (I.ok.hd hc) e it l hei hle hli its.toArray) ?_
  rw[hl]
  exact⟨st.1,st.2,p.isList⟩
 self:=fun A i s Q E st h=>by
  obtain⟨⟨old,he⟩,_⟩:=st
  exact S2 he h
noncomputable def zmS (x:Str):It:=⟨fun i _=>i<x.cps.size,fun i H v H'=>∃T c,v=.ref T/\H T=none/\x.cps[i]?=some c/\H'=upd H T (.tup [.int i,.str ⟨#[c]⟩]),fun i _=>i=x.cps.size⟩
theorem zcK {P:Xy}{w:W6}{K:X8}{elts:List Expr}{k:Nat}{pos:Pos}(e it:Addr)(x:Str)(t:Tok)(n:String)(hei:e≠it)
  (D:∀A:WG,A.handled=none->Draws P w A it [it] x.cps.size (fun i v=>∃c u,x.cps[i]?=some c/\v=.str ⟨#[c]⟩ u) (fun i h=>h.IsStrIter it n x t i)) :
  Turn P w K (.Tuple elts k pos) (zmS x) [e,it] e (fun i h=>(∃old,IsEnum h e it i old)/\h.IsStrIter it n x t i) where
 mem:=by simp
 obj:=fun i h st b hb=>by
  obtain⟨⟨old,he⟩,o,e2,c,d⟩:=st
  rcases XB.mp hb with rfl | hb
  ·exact JX he rfl
  ·have z:b=it:=by simpa using hb
   subst z
   exact JX e2 d
 keep:=fun i h h' st kk=>by
  obtain⟨⟨old,he⟩,o,e2,r⟩:=st
  exact⟨⟨old,kk e (by simp) _ he⟩,o,kk it (by simp) o e2,r⟩
 item:=by
  intro X hP hw hK hc i pins s σ H E I hf st hg
  subst hP hw hK
  obtain⟨⟨old,he⟩,o2,e2,c2,d2⟩:=id st
  refine zhK (wr:=[e,it]) (J:=zmS x) (tn:=fun i h=>(∃old,IsEnum h e it i old)/\h.IsStrIter it n x t i) I hf (fun b hb=>?_) (fun b hb=>hb) (WalksT.enumerateD (D X.A.in1 (I.ok.hd hc)) e hei (by simpa using hei) (by simp)) hg st (fun T vals hn hp=>?_) fun h'' q=>q
  ·rcases XB.mp hb with rfl | hb
   ·exact⟨_,he⟩
   ·have z:b=it:=by simpa using hb
    subst z
    exact⟨_,e2⟩
  ·obtain⟨t',v,⟨c,u,hx,rfl⟩,rfl⟩:=hp
   exact⟨[.int i,.str ⟨#[c]⟩],.cons ⟨t',rfl⟩ (.cons ⟨u,rfl⟩ .nil),(by show 2<=XU;decide),T,c,rfl,hn,hx,rfl⟩
 done:=by
  intro X hP hw hK hc i pins s σ H E I hf st hg
  subst hP hw hK
  have z:i=x.cps.size:=hg
  subst z
  exact zhL (fp:=[e,it]) (wr:=[e,it]) I hf (fun b hb=>hb) (WalksT.enumerateD (D X.A.in1 (I.ok.hd hc)) e hei (by simpa using hei) (by simp)) st
 self:=fun A i s Q E st h=>by
  obtain⟨⟨old,he⟩,_⟩:=st
  exact S2 he h
noncomputable def Itz (K:X8)(l1 l2:Addr):It:=⟨fun i H=>∃xs ys,SqL K H l1 xs/\SqL K H l2 ys/\i<xs.length/\i<ys.length,
 fun i H x H'=>∃T,x=.ref T/\H T=none/\∀xs ys,SqL K H l1 xs->SqL K H l2 ys->∃v v',xs[i]?=some v/\ys[i]?=some v'/\H'=upd H T (.tup [v,v']),fun i H=>∃xs ys,SqL K H l1 xs/\SqL K H l2 ys/\i=min xs.length ys.length⟩
theorem zk8 {P:Xy}{w:W6}{K:X8}{elts:List Expr}{k:Nat}{pos:Pos}(z TI TO i1 i2 l1 l2:Addr)(D:ZipApart z TI TO i1 i2 l1 l2) :
  Turn P w K (.Tuple elts k pos) (Itz K l1 l2) [z,TI,TO,i1,i2] z (fun i h=>IsZip h z TI TO .none/\IsPair h TI (.ref i1) (.ref i2)/\(∃a b,IsPair h TO a b)/\h.IsListIter i1 l1 i/\h.IsListIter i2 l2 i) where
 mem:=by simp
 obj:=fun i h st b hb=>by
  obtain⟨hz,hTI,⟨a,b',hTO⟩,⟨o1,e1,c1,d1⟩,⟨o2,e2,c2,d2⟩⟩:=st
  simp only[XB,VH,or_false] at hb
  rcases hb with rfl | rfl | rfl | rfl | rfl
  ·exact JX hz rfl
  ·exact⟨_,hTI,fun v q=>by cases q⟩
  ·exact⟨_,hTO,fun v q=>by cases q⟩
  ·exact JX e1 d1
  ·exact JX e2 d2
 keep:=fun i h h' st kk=>by
  obtain⟨hz,hTI,⟨a,b',hTO⟩,⟨o1,e1,r1⟩,⟨o2,e2,r2⟩⟩:=st
  exact⟨kk z (by simp) _ hz,kk TI (by simp) _ hTI,⟨a,b',kk TO (by simp) _ hTO⟩,⟨o1,kk i1 (by simp) _ e1,r1⟩,⟨o2,kk i2 (by simp) _ e2,r2⟩⟩
 item:=by
  intro X hP hw hK hc i pins s σ H E I hf st hg
  subst hP hw hK
  obtain⟨xs,ys,hq1,hq2,hlt1,hlt2⟩:=hg
  obtain⟨its1,rv1,p1,hz1⟩:=I.list hq1
  obtain⟨its2,rv2,p2,hz2⟩:=I.list hq2
  have g1:=rv1.length
  have g2:=rv2.length
  obtain⟨hz,hTI,⟨a,b',hTO⟩,⟨o1,e1,r1⟩,⟨o2,e2,r2⟩⟩:=id st
  refine zhK (wr:=[z,TO,i1,i2]) (J:=Itz X.K l1 l2) (tn:=fun i h=>IsZip h z TI TO .none/\IsPair h TI (.ref i1) (.ref i2)/\(∃a b,IsPair h TO a b)/\h.IsListIter i1 l1 i/\h.IsListIter i2 l2 i) I hf (fun b hb=>?_) (fun b hb=>?_) (WalksT.zip2 (I.ok.hd hc) z TI TO i1 i2 l1 l2 D its1.toArray its2.toArray) (by simp;lia) ⟨st.1,st.2.1,st.2.2.1,st.2.2.2.1,st.2.2.2.2,p1.isList,p2.isList⟩ (fun T vals hn hp=>?_) fun h'' q=>⟨q.1,q.2.1,q.2.2.1,q.2.2.2.1,q.2.2.2.2.1⟩
  ·simp only[XB,VH,or_false] at hb
   rcases hb with rfl | rfl | rfl | rfl | rfl
   ·exact⟨_,hz⟩
   ·exact⟨_,hTI⟩
   ·exact⟨_,hTO⟩
   ·exact⟨_,e1⟩
   ·exact⟨_,e2⟩
  ·simp only[XB,VH,or_false] at hb ⊢
   rcases hb with rfl | rfl | rfl | rfl<;>simp
  ·obtain⟨x,y,hx,hy,rfl⟩:=hp
   have hx':its1[i]?=some x:=by simpa using hx
   have hy':its2[i]?=some y:=by simpa using hy
   obtain⟨u,hu,ru⟩:=rv1.get (i:=i) (x:=xs[i]) (by rw[X7 hlt1])
   obtain⟨u',hu',ru'⟩:=rv2.get (i:=i) (x:=ys[i]) (by rw[X7 hlt2])
   rw[hu] at hx'
   rw[hu'] at hy'
   cases hx'
   cases hy'
   exact⟨[xs[i],ys[i]],.cons ru (.cons ru' .nil),(by show 2<=XU;decide),T,rfl,hn,fun xs' ys' h1 h2=>⟨xs[i],ys[i],by rw[I.list_inj h1 hq1,X7 hlt1],by rw[I.list_inj h2 hq2,X7 hlt2],rfl⟩⟩
 done:=by
  intro X hP hw hK hc i pins s σ H E I hf st hg
  subst hP hw hK
  obtain⟨xs,ys,hq1,hq2,rfl⟩:=hg
  obtain⟨its1,rv1,p1,hz1⟩:=I.list hq1
  obtain⟨its2,rv2,p2,hz2⟩:=I.list hq2
  have g1:min its1.toArray.size its2.toArray.size=min xs.length ys.length:=by simp[rv1.length,rv2.length]
  refine zhL (fp:=[z,TI,TO,i1,i2]) (wr:=[z,TO,i1,i2]) I hf (fun b hb=>?_) (WalksT.zip2 (I.ok.hd hc) z TI TO i1 i2 l1 l2 D its1.toArray its2.toArray) ?_
  ·simp only[XB,VH,or_false] at hb ⊢
   rcases hb with rfl | rfl | rfl | rfl<;>simp
  ·rw[g1]
   exact⟨st.1,st.2.1,st.2.2.1,st.2.2.2.1,st.2.2.2.2,p1.isList,p2.isList⟩
 self:=fun A i s Q E st h=>wpAny_pyIter_zip st.1 h
section
variable {X:Cx}{elts:List Expr}{k:Nat}{tpos:Pos}
def zoM (K:X8)(ta:TA):TI:=fun σ H R=>ta σ H fun vs H1=>∃l,vs=[.ref l]/\(∃xs,SqL K H1 l xs)/\R (Ite K l) H1
theorem ZQ {a:Expr}{ta:TA}{p pos:Pos}(hg:Gl X "enumerate")(hm:X.mg "enumerate"=none)(ha:PA X [a] ta)(hs:Wc [a] X.env=[(false,eval a X.env)]:=by rfl):PI X (.Tuple elts k tpos) (.Call (.Name "enumerate" p) [a] [] pos) (zoM X.K ta):=by
 intro pins s σ H R I h
 refine Call_ (Qe I hg hm boot_enumerate (VZ (thn (ha pos pins s σ H _ I h) fun us s1 ⟨vs,H1,I1,r1,q1⟩=>?_) hs rfl))
 obtain⟨l,rfl,⟨xs,hq⟩,q⟩:=q1
 obtain⟨u,rfl,ru⟩:=vals1 r1
 cases ru
 obtain⟨its,rv,pl,hz⟩:=I1.list hq
 obtain⟨ol,hol,_⟩:=pl.isList
 have hlt:=XF hol
 refine call_enumerate_list pl.isList fun h' he hit hsz kk=>?_
 have I2:Inv X pins σ H1 { s1 with heap:=h' }:=I1.kept (t':=s1.toks) kk
 refine S2 he ?_
 refine⟨s1.heap.objs.size+1,[s1.heap.objs.size+1,s1.heap.objs.size],_,_,H1,rfl,I2,zj4 (s1.heap.objs.size+1) s1.heap.objs.size l (Vp _) (Xk (WJ hlt)) (Xk hlt),⟨⟨_,he⟩,hit⟩,fun b hb=>?_,q⟩
 have hb':s1.heap.objs.size<=b:=by
  rcases XB.mp hb with e | hb
  ·rw[e];exact V3 _
  ·have e:b=s1.heap.objs.size:=by simpa using hb
   rw[e];exact XW _
 exact I1.fpOk hb' (I1.hok.fresh hb')
def zoN (ta:TA):TI:=fun σ H R=>ta σ H fun vs H1=>∃z,vs=[.str z]/\R (zmS z) H1
theorem zk9 {a:Expr}{ta:TA}{p pos:Pos}(hg:Gl X "enumerate")(hm:X.mg "enumerate"=none)(ha:PA X [a] ta)(hs:Wc [a] X.env=[(false,eval a X.env)]:=by rfl):PI X (.Tuple elts k tpos) (.Call (.Name "enumerate" p) [a] [] pos) (zoN ta):=by
 intro pins s σ H R I h
 refine Call_ (Qe I hg hm boot_enumerate (VZ (thn (ha pos pins s σ H _ I h) fun us s1 ⟨vs,H1,I1,r1,q1⟩=>?_) hs rfl))
 obtain⟨z,rfl,q⟩:=q1
 obtain⟨u,rfl,t,rfl⟩:=vals1 r1
 refine call_enumerate_str fun h' he hit hsz kk=>?_
 have I2:Inv X pins σ H1 { s1 with heap:=h' }:=I1.kept (t':=s1.toks) kk
 refine S2 he ?_
 have fpk:∀b ∈ [s1.heap.objs.size+1,s1.heap.objs.size],zaJ X pins H1 b:=fun b hb=>by
  have hb':s1.heap.objs.size<=b:=by
   rcases XB.mp hb with e | hb
   ·rw[e];exact V3 _
   ·have e:b=s1.heap.objs.size:=by simpa using hb
    rw[e];exact XW _
  exact I1.fpOk hb' (I1.hok.fresh hb')
 unfold strIterType at hit
 by_cases ha:z.cps.all (· < 128)=true
 ·rw[if_pos ha] at hit
  exact⟨s1.heap.objs.size+1,[s1.heap.objs.size+1,s1.heap.objs.size],_,_,H1,rfl,I2,zcK (s1.heap.objs.size+1) s1.heap.objs.size z t "str_ascii_iterator" (Vp _) (fun A hA=>Draws.strAscii hA _ z t),⟨⟨_,he⟩,hit⟩,fpk,q⟩
 ·rw[if_neg ha] at hit
  exact⟨s1.heap.objs.size+1,[s1.heap.objs.size+1,s1.heap.objs.size],_,_,H1,rfl,I2,zcK (s1.heap.objs.size+1) s1.heap.objs.size z t "str_iterator" (Vp _) (fun A hA=>Draws.strWide hA _ z t),⟨⟨_,he⟩,hit⟩,fpk,q⟩
def zqW (K:X8)(ta:TA):TI:=fun σ H R=>ta σ H fun vs H1=>∃l1 l2,vs=[.ref l1,.ref l2]/\(∃xs,SqL K H1 l1 xs)/\(∃ys,SqL K H1 l2 ys)/\R (Itz K l1 l2) H1
theorem zoO {a b:Expr}{ta:TA}{p pos:Pos}(hg:Gl X "zip")(hm:X.mg "zip"=none)(ha:PA X [a,b] ta)(hs:Wc [a,b] X.env=[(false,eval a X.env),(false,eval b X.env)]:=by rfl)(hs2:Wc [b] X.env=[(false,eval b X.env)]:=by rfl) :
  PI X (.Tuple elts k tpos) (.Call (.Name "zip" p) [a,b] [] pos) (zqW X.K ta):=by
 intro pins s σ H R I h
 refine Call_ (Qe I hg hm boot_zip (VZ (thn (ha pos pins s σ H _ I h) fun us s1 ⟨vs,H1,I1,r1,q1⟩=>?_) (by rw[hs,hs2]) (by rw[hs2];rfl)))
 obtain⟨l1,l2,rfl,⟨xs,hq1⟩,⟨ys,hq2⟩,q⟩:=q1
 obtain⟨u,u',rfl,ru,ru'⟩:=vals2 r1
 cases ru
 cases ru'
 obtain⟨its1,rv1,p1,hz1⟩:=I1.list hq1
 obtain⟨its2,rv2,p2,hz2⟩:=I1.list hq2
 obtain⟨o1,ho1,_⟩:=p1.isList
 obtain⟨o2,ho2,_⟩:=p2.isList
 have lt1:@LT.lt Nat _ l1 s1.heap.objs.size:=XF ho1
 have lt2:@LT.lt Nat _ l2 s1.heap.objs.size:=XF ho2
 refine call_zip_2 p1.isList p2.isList fun h' hz hTI hTO hi1 hi2 hsz kk=>?_
 have I2:Inv X pins σ H1 { s1 with heap:=h' }:=I1.kept (t':=s1.toks) kk
 refine wpAny_pyIter_zip hz ?_
 generalize hN:s1.heap.objs.size=N at *
 have apart:ZipApart (N+4) (N+2) (N+3) N (N+1) l1 l2:=by
  constructor<;>first
   | exact Xk (by lia)
   | exact Uq (by lia)
 refine⟨N+4,[N+4,N+2,N+3,N,N+1],_,_,H1,rfl,I2,zk8 (N+4) (N+2) (N+3) N (N+1) l1 l2 apart,⟨hz,hTI,⟨_,_,hTO⟩,hi1,hi2⟩,fun b hb=>?_,q⟩
 have hb':s1.heap.objs.size<=b:=by
  rw[hN]
  simp only[XB,VH,or_false] at hb
  rcases hb with rfl | rfl | rfl | rfl | rfl<;>lia
 exact I1.fpOk hb' (I1.hok.fresh hb')
theorem Yu:yQ X (.type "int") (fun xs H Q=>∃x n,xs=[.str x]/\S8 x=some n/\x.length<=640/\Q (.int n) H):=by
 intro pins s σ H xs us Q I r h
 obtain⟨x,n,rfl,hn,hl,q⟩:=h
 obtain⟨u,rfl,t,rfl⟩:=vals1 r
 exact PySem.W.KIN.call_text hn hl ⟨.int n,H,I.tok _,⟨_,rfl⟩,q⟩
end
theorem ZR {K:X8}{l:Addr}{xs:List V}{g:TG}{tb:TS}{D:Ends}{σ:St}{H:Hp}(Pv:Nat->St->Hp->Prop)(h0:Pv 0 σ H)(hl:∀i σ H,i<=xs.length->Pv i σ H->SqL K H l xs)
  (hs:∀i x T σ H,xs[i]?=some x->H T=none->Pv i σ H->g (.ref T) σ (upd H T (.tup [.int i,x])) fun σ2 H2=>tb { D with nx:=Pv (i+1),ct:=Pv (i+1),bk:=D.nx } σ2 H2) (hd:∀ σ H,Pv xs.length σ H->D.nx σ H) :
  ∃W:Nat->Nat->St->Hp->Prop,(∃m,W 0 m σ H)/\∀i m σ H,W i m σ H ->
   ((Ite K l).stop i H/\D.nx σ H)\/((Ite K l).go i H/\∃N:St->Hp->Prop,(∀ σ' H',N σ' H'->∃m',m'<m/\W (i+1) m' σ' H')/\∀x H',(Ite K l).yld i H x H'->g x σ H' fun σ2 H2=>tb { D with nx:=N,ct:=N,bk:=D.nx } σ2 H2):=by
 refine⟨fun i m σ H=>m=xs.length-i/\i<=xs.length/\Pv i σ H,⟨xs.length,by simp,WW _,h0⟩,?_⟩
 rintro i m σ H ⟨rfl,hi,p⟩
 have q:=hl i σ H hi p
 by_cases hlt:i<xs.length
 ·refine .inr ⟨⟨xs,q,hlt⟩,Pv (i+1),fun σ' H' p'=>⟨xs.length-(i+1),by lia,rfl,hlt,p'⟩,fun x H' y=>?_⟩
  obtain⟨T,rfl,hT,y⟩:=y
  obtain⟨v,hv,rfl⟩:=y xs q
  exact hs i v T σ H hv hT p
 ·have e:i=xs.length:=by lia
  subst e
  exact .inl ⟨⟨xs,q,rfl⟩,hd σ H p⟩
theorem zhM {g:TG}{tc:TT}{te:TE}{Q:VK}{σ:St}{H:Hp}{D:Addr}{x:Str}(Pv:Nat->St->Hp->Prop)(h0:Pv 0 σ H)
  (hs:∀i c T σ H,x.cps[i]?=some c->H T=none->Pv i σ H->g (.ref T) σ (upd H T (.tup [.int i,.str ⟨#[c]⟩])) fun σ2 H3=>tc σ2 H3 fun b H4=>if b=true then te σ2 H4 fun y H5=>∃ys,H5 D=some (.lst ys)/\ys.length<XU/\Pv (i+1) σ2 (upd H5 D (.lst (ys++[y]))) else Pv (i+1) σ2 H4)
  (hd:∀ σ H,Pv x.cps.size σ H->Q (.ref D) H):JV (zmS x) g tc te Q D σ H:=by
 refine⟨fun i m σ H=>m=x.cps.size-i/\i<=x.cps.size/\Pv i σ H,⟨x.cps.size,by simp,WW _,h0⟩,?_⟩
 rintro i m σ H ⟨rfl,hi,p⟩
 by_cases hlt:i<x.cps.size
 ·refine .inr ⟨hlt,Pv (i+1),fun σ' H' p'=>⟨x.cps.size-(i+1),by lia,rfl,hlt,p'⟩,fun v H' y=>?_⟩
  obtain⟨T,c,rfl,hT,hc,rfl⟩:=y
  exact hs i c T σ H hc hT p
 ·have e:i=x.cps.size:=by lia
  subst e
  exact .inl ⟨rfl,hd σ H p⟩
noncomputable def zbt (look:Str->Option Addr):List (Str×TK)->List (Str×Addr)->List (Str×Addr)
 | [],acc=>acc
 | (n,k)::r,acc=>if k == .free then (match look n with
  | some c=>zbt look r ((n,c)::acc)
  | none=>zbt look r acc) else zbt look r acc
theorem ZS {look:Str->Option Addr}:∀(names:List (Str×TK)) (acc:List (Str×Addr)) (p:Str×Addr),p∈zbt look names acc->p∈acc\/look p.1=some p.2
 | [],acc,p,h=>.inl h
 | (n,k)::r,acc,p,h=>by
  unfold zbt at h
  split at h
  ·cases e:look n with
   | none =>
    rw[e] at h
    exact ZS r acc p h
   | some c =>
    rw[e] at h
    rcases ZS r _ p h with h | h
    ·rcases XB.mp h with h | h
     ·subst h
      exact .inr e
     ·exact .inl h
    ·exact .inr h
  ·exact ZS r acc p h
theorem ZT {x n:Str}{c:Addr}{acc:List (Str×Addr)}(h:(acc.lookup x).isSome=true\/x=n):(Sy x ((n,c)::acc)).isSome=true:=by
 rw[Vo]
 cases e:x==n with
 | true=>rfl
 | false =>
  rcases h with h | h
  ·exact h
  ·subst h
   simp at e
theorem zcL {look:Str->Option Addr}{x:Str}(names:List (Str×TK))(acc:List (Str×Addr))(h:(acc.lookup x).isSome=true\/((x,NameKind.free)∈names/\(look x).isSome=true)):((zbt look names acc).lookup x).isSome=true:=by
 induction names generalizing acc with
 | nil =>
  rcases h with h | h
  ·exact h
  ·cases h.1
 | cons y r ih =>
  obtain⟨n,k⟩:=y
  unfold zbt
  split
  ·rename_i hk
   cases e:look n with
   | none =>
    refine ih acc ?_
    rcases h with h | ⟨h,h2⟩
    ·exact .inl h
    ·rcases XB.mp h with h | h
     ·cases h
      rw[e] at h2
      cases h2
     ·exact .inr ⟨h,h2⟩
   | some c =>
    refine ih _ ?_
    rcases h with h | ⟨h,h2⟩
    ·exact .inl (ZT (.inl h))
    ·rcases XB.mp h with h | h
     ·cases h
      exact .inl (ZT (.inr rfl))
     ·exact .inr ⟨h,h2⟩
  ·rename_i hk
   refine ih acc ?_
   rcases h with h | ⟨h,h2⟩
   ·exact .inl h
   ·rcases XB.mp h with h | h
    ·cases h
     exact absurd rfl hk
    ·exact .inr ⟨h,h2⟩
theorem Jo {scope:Uh}{env:Env}(h:∀y∈scope.names,y.2=.free->(env.cells.lookup y.1).isSome=true):OU scope env=pure (zbt (fun x=>env.cells.lookup x) scope.names []):=by
 have go:∀(names:List (Str×TK)) (acc:List (Str×Addr)),(∀y∈names,y.2=.free->(env.cells.lookup y.1).isSome=true) ->
   (forIn names acc fun x cs=>(match x with
    | (name,kind)=>if (kind == .free)=true then do let a <- cellOf env name;pure (Vv ((name,a)::cs)) else pure (Vv cs):Sem (ForInStep (List (Str×Addr)))))=(pure (zbt (fun x=>env.cells.lookup x) names acc):Sem _):=by
  intro names
  induction names with
  | nil=>intro acc _;rfl
  | cons y r ih =>
   intro acc hy
   obtain⟨n,k⟩:=y
   have hr:∀y∈r,y.2=.free->(env.cells.lookup y.1).isSome=true:=fun y hm=>hy y (XT _ hm)
   rw[List.forIn_cons]
   unfold zbt
   by_cases hk:(k==NameKind.free)=true
   ·have hk':k=.free:=by simpa using hk
    have hs:=hy (n,k) XR hk'
    obtain⟨c,hc⟩:=V4.mp hs
    have hc':Sy n env.cells=some c:=hc
    have e1:cellOf env n=pure c:=by
     unfold cellOf
     rw[hc']
    simp only[hk,if_true,e1,hc',pure_bind]
    exact ih _ hr
   ·simp only[hk,Wx,if_false,pure_bind]
    exact ih _ hr
 simp only[OU]
 exact Eq.trans (congrArg (fun m:Sem (List (Str×Addr))=>m >>= fun cs=>pure cs) (go scope.names [] h)) rfl
theorem yR {scope:Uh}{env:Env}{x:Str}{k:TK}(h:(x,k)∈(Ut scope env).names)(hk:k=.cell\/k=.free):(x,U4)∈scope.names\/(x,NameKind.free)∈scope.names:=by
 obtain⟨y,hy,e⟩:=Xj.mp h
 obtain⟨n,k0⟩:=y
 by_cases c:(k0==NameKind.free&&env.scope.kind == .function&&env.kindOf n==some .cell)=true
 ·have e':(if (k0==NameKind.free&&env.scope.kind == .function&&env.kindOf n==some .cell)=true then (n,U4) else (n,k0))=(x,k):=e
  rw[if_pos c] at e'
  cases e'
  have c1:k0=.free:=by
   have:=(Wb.mp (Wb.mp c).1).1
   simpa using this
  subst c1
  exact .inr hy
 ·have e':(if (k0==NameKind.free&&env.scope.kind == .function&&env.kindOf n==some .cell)=true then (n,U4) else (n,k0))=(x,k):=e
  rw[if_neg c] at e'
  cases e'
  rcases hk with rfl | rfl
  ·exact .inl hy
  ·exact .inr hy
theorem ze6 {scope:Uh}{env:Env}{x:Str}(hk:env.scope.kind=.function)(ho:env.kindOf x=some .cell)(h:scope.names.lookup x=some .free):(Ut scope env).names.lookup x=some .cell:=by
 have go:∀names:List (Str×TK),names.lookup x=some .free->(names.map fun (n,k)=>if (k==NameKind.free&&env.scope.kind == .function&&env.kindOf n==some .cell)=true then (n,U4) else (n,k)).lookup x=some .cell:=by
  intro names
  induction names with
  | nil=>intro h;cases h
  | cons y r ih =>
   obtain⟨n,k⟩:=y
   intro h
   show Sy x ((if (k==NameKind.free&&env.scope.kind == .function&&env.kindOf n==some .cell)=true then (n,U4) else (n,k))::_)=_
   rw[Vo] at h
   cases e:x==n with
   | true =>
    rw[e] at h
    have hk':k=.free:=Option.some.inj h
    have hn:x=n:=by simpa using e
    subst hk' hn
    rw[if_pos (by rw[hk,ho];rfl),Vo,beq_self_eq_true]
   | false =>
    rw[e] at h
    by_cases c:(k==NameKind.free&&env.scope.kind == .function&&env.kindOf n==some .cell)=true
    ·rw[if_pos c,Vo,e]
     exact ih h
    ·rw[if_neg c,Vo,e]
     exact ih h
 exact go scope.names h
theorem zY.free {X:Cx}{N:List Str}{src:List (Option Nat)}{scope:Uh}{O:List (Str×TK)}{XN:List Str}(hO:X.env.scope.names=O)(hK:X.env.scope.kind=.function)(hC:∃n,X.env.cells=Se n O [])(hX:X.N=XN)
  (kind:scope.kind=.function) (nocell:∀y∈scope.names,y.2 ≠ .cell) (names:∀y∈scope.names,y.2=.local->scope.names.lookup y.1=some .local) (fr:∀y∈scope.names,y.2=.free->O.lookup y.1=some .cell) (len:src.length=N.length)
  (pc:∀q∈N.zip src,q.2=none\/(∃j∈W9 XN.length,q.2=some j/\XN[j]?=some q.1/\O.lookup q.1=some .cell/\scope.names.lookup q.1=some .free)):zY X N src scope (zbt (fun x=>X.env.cells.lookup x) scope.names []):=by
 have hs:∀y∈scope.names,y.2=.free->(X.env.cells.lookup y.1).isSome=true:=fun y hy e=>by
  obtain⟨n,hn⟩:=hC
  rw[hn]
  exact SV O n [] (.inl (fr y hy e))
 refine⟨kind,nocell,names,Jo hs,fun x c h=>?_,fun x h=>?_,len,fun i j x h1 h2=>?_⟩
 ·rcases ZS _ _ _ (WM h) with z | z
  ·cases z
  ·exact z
 ·refine V4.mp (zcL _ _ (.inr ?_))
  have hm:(x,U4)∈scope.names\/(x,NameKind.free)∈scope.names:=by
   rcases h with h | h
   ·exact yR (WM h) (.inl rfl)
   ·exact yR (WM h) (.inr rfl)
  rcases hm with hm | hm
  ·exact absurd rfl (nocell _ hm)
  ·exact⟨hm,hs _ hm rfl⟩
 ·have hm:(x,some j)∈N.zip src:=by
   refine X2 (i:=i) ?_
   rw[TU]
   exact⟨h1,h2⟩
  rcases pc _ hm with z | ⟨j',_,e,e1,e2,e3⟩
  ·cases z
  ·cases e
   have ko:X.env.kindOf x=some .cell:=by
    show X.env.scope.names.lookup x=some .cell
    rw[hO]
    exact e2
   exact⟨by rw[hX];exact e1,.inl ko,.inl (ze6 hK ko e3)⟩
open PySem PySem.Spec PyProof.Rows PySem.W
section
variable {α β:Type}{R:α->β->Prop}{us us':List α}{cs cs':List β}{i:Nat}{v:α}{c:β}
theorem zcM (h:W0 R us cs)(k:W0 R us' cs'):W0 R (us++us') (cs++cs'):=by
 induction h with
 | nil=>exact k
 | cons q _ ih=>exact .cons q ih
theorem zf9 (h:W0 R us cs)(e:us[i]?=some v):∃c,cs[i]?=some c/\R v c:=by
 induction h generalizing i with
 | nil=>cases e
 | cons q _ ih =>
  cases i with
  | zero =>
   cases e
   exact⟨_,rfl,q⟩
  | succ i=>exact ih (i:=i) e
theorem zla (h:W0 R us cs)(e:v∈us):∃c∈cs,R v c:=by
 induction h with
 | nil=>cases e
 | cons q _ ih =>
  rcases XB.mp e with rfl | e
  ·exact⟨_,XR,q⟩
  ·obtain⟨c,h,r⟩:=ih e
   exact⟨c,XT _ h,r⟩
end
def jC (H:Hp):List V->List (Int×Int)->Prop:=W0 fun v p=>∃a,v=V.ref a/\H a=some (.tup [.int p.1,.int p.2])
def lt2 (p q:Int×Int):Bool:=if p.1=q.1 then decide (p.2<q.2) else decide (p.1<q.1)
structure zM (h:Heap)(v:X9)(p:Int×Int):Prop where
 ex:∃a o n t u,v=.ref a/\h.get? a=some o/\o.cls=.type "tuple"/\o.data=.seq #[.int p.1 t,.int p.2 u] n
section
variable {X:Cx}{pins:List (Addr×Obj)}{σ:St}{H:Hp}{s:X5}
theorem jC.pairs (I:Inv X pins σ H s){us:List V}{ps:List (Int×Int)}{its:List X9}(hp:jC H us ps)(r:Vals us its):W0 (zM s.heap) its ps:=by
 induction hp generalizing its with
 | nil =>
  cases r
  exact .nil
 | cons q _ ih =>
  obtain⟨a,e,h⟩:=q
  subst e
  cases r with
  | cons r1 r2 =>
   cases r1
   refine .cons ?_ (ih r2)
   obtain⟨items,rv,tp,_⟩:=I.tuple (SqT.of h)
   obtain⟨u1,u2,rfl,⟨t1,rfl⟩,⟨t2,rfl⟩⟩:=vals2 rv
   obtain⟨ob,e1,c1,n,d1⟩:=tp
   exact⟨a,ob,n,t1,t2,rfl,e1,c1,d1⟩
end
theorem Yv {h h':Heap}(k:∀b o,h.get? b=some o->h'.get? b=some o):∀{its:List X9} {ps:List (Int×Int)},W0 (zM h) its ps->W0 (zM h') its ps
 | _,_,.nil=>.nil
 | _,_,.cons ⟨a,o,n,t,u,e,e1,r⟩ tl=>.cons ⟨a,o,n,t,u,e,k _ _ e1,r⟩ (Yv k tl)
theorem zaN {h:Heap}:∀{its:List X9} {ps:List (Int×Int)},W0 (zM h) its ps->∃fs:List X9,KatTups h its fs/\fs.length=its.length/\∀v∈fs,∃x t,v=Vy x t
 | _,_,.nil=>⟨[],.nil,rfl,fun _ z=>nomatch z⟩
 | _,_,.cons ⟨a,o,n,t,u,e,e1,c,d⟩ tl=>by
  obtain⟨fs,k,l,q⟩:=zaN tl
  subst e
  refine⟨.int _ t::fs,KatTups.cons e1 c d rfl k,by simp[l],fun v hv=>?_⟩
  rcases XB.mp hv with rfl | hv
  ·exact⟨_,t,rfl⟩
  ·exact q v hv
section
variable {prog:Xy}{w:W6}{A:WG}{E:X9->X5->Prop}{s:X5}
theorem zmT {v v':X9}{p q:Int×Int}{C:Bool->X5->Prop}(hv:zM s.heap v p)(hv':zM s.heap v' q)(h:C (lt2 p q) s):Xa (Xf prog w) A (keyLt' (tuples' true) v v') C E s:=by
 obtain⟨a,o,n,t,u,rfl,e1,c1,d1⟩:=hv
 obtain⟨a',o',n',t',u',rfl,e1',c1',d1'⟩:=hv'
 refine kat_lt e1 d1 e1' d1' ?_
 show KatLex prog w A true _ C [(Vy p.1 t,Vy q.1 t'),(Vy p.2 u,Vy q.2 u')] 0 s
 unfold lt2 at h
 refine kat_cons (SeqAt.EqAt.int_int _ _ _ _ prog w _ _ (kat_go (fun ee=>kat_yes ?_) fun ee=>kat_no ?_))
 ·have e:p.1=q.1:=by simpa using ee
  rw[if_pos e] at h
  refine kat_cons (SeqAt.EqAt.int_int _ _ _ _ prog w _ _ (kat_go (fun e2=>kat_yes (kat_nil ?_)) fun e2=>kat_no ?_))
  ·have e3:p.2=q.2:=by simpa using e2
   have e4:decide (p.2<q.2)=false:=decide_eq_false (by lia)
   rw[e4] at h
   exact h
  ·exact kat_one _ _ (lt_int h)
 ·have e:¬ p.1=q.1:=by simpa using ee
  rw[if_neg e] at h
  exact oneLt_int h
end
section
variable {X:Cx}
end
section
variable {X:Cx}
theorem zga:zpJ X (zoG X.K):=by
 intro pins s σ H x y v u Q I rx ry h
 obtain⟨p,xs,i,z,rfl,rfl,hq,he,q⟩:=h
 cases rx
 obtain⟨t,rfl⟩:=ry
 obtain⟨its,r,pl,hz⟩:=I.list hq
 obtain⟨j,h1,h2,h3,h4,h5⟩:=zcq he
 obtain⟨w,ew,rw'⟩:=r.get h2
 have hl:=r.length
 have hn:=Qf
 have fin:EP X pins σ Q w s:=⟨z,H,I,rw',q⟩
 by_cases h0:0<=i
 ·have hj:i.toNat=j:=by
   rw[PJ h0 h5] at h1
   exact Option.some.inj h1
  exact wpAny_getItem_list pl.isList h0 (by lia) (by rw[hj];simpa using ew) fin
 ·have hj:(i+(its.toArray.size:Int)).toNat=j:=by
   rw[Ri (by lia) h4] at h1
   rw[Xp,<- hl]
   exact Option.some.inj h1
  exact Ra pl.isList (by lia) (by rw[Xp]<;>lia) (by lia) (by rw[hj];simpa using ew) fin
theorem zgb:∀{ns:List Int} {its:List X9},Vals (ns.map V.int) its->Pj its ns
 | [],_,r=>by cases r;exact .nil
 | n::ns,_,r=>by
  cases r with
  | cons r1 r2 =>
   obtain⟨t,rfl⟩:=r1
   exact .cons n t (zgb r2)
theorem zgc (hc:X.calm=true):yQ X (.builtin "sum") (fun xs H Q=>∃(l:Addr) (ns:List Int),xs=[.ref l]/\SqL X.K H l (ns.map V.int)/\Q (.int ns.sum) H):=by
 intro pins s σ H xs us Q I r h
 obtain⟨l,ns,rfl,hq,q⟩:=h
 obtain⟨u,rfl,ru⟩:=vals1 r
 cases ru
 obtain⟨its,rv,pl,hz⟩:=I.list hq
 have hi:Pj its ns:=zgb rv
 obtain⟨ys,ey⟩:=hi.allInts.items
 refine sum_intListG (I.ok.hd hc) (xs:=ys) (ey ▸ pl.isList) fun h' tk t' hk=>?_
 have f1:ns=ys.toList.map (·.1):=by
  rw[<- nums_intItems,<- ey]
  exact(show numsOf its.toArray.toList=ns from hi.numsOf).symm
 have f2:preSum (numAt ys) ys.size=ns.sum:=by
  rw[f1,preSum_eq,W8 (by simp)]
 rw[f2]
 exact⟨.int _,H,I.kept hk,⟨_,rfl⟩,q⟩
theorem zec {bs:List Bool}{its:List X9}(r:Vals (bs.map V.bl) its){i:Nat}{v:X9}(e:its[i]?=some v):∃b,bs[i]?=some b/\v=.bool b:=by
 have hl:=r.length
 rw[ZB] at hl
 have hi:i<bs.length:=by
  have:=(X4.mp e).1
  lia
 obtain⟨u,hu,ru⟩:=r.get (i:=i) (x:=.bl bs[i]) (by rw[XE,X7 hi];rfl)
 rw[hu] at e
 cases e
 exact⟨bs[i],X7 hi,ru⟩
theorem zgd (hc:X.calm=true):yQ X (.builtin "any") (fun xs H Q=>∃(l:Addr) (bs:List Bool),xs=[.ref l]/\SqL X.K H l (bs.map V.bl)/\Q (.bl (bs.any id)) H):=by
 intro pins s σ H xs us Q I r h
 obtain⟨l,bs,rfl,hq,q⟩:=h
 obtain⟨u,rfl,ru⟩:=vals1 r
 cases ru
 obtain⟨its,rv,pl,hz⟩:=I.list hq
 have hl:=pl.isList
 have hlt:l<s.heap.objs.size:=let ⟨_,he,_⟩:=hl;XF he
 have hln:=rv.length
 rw[ZB] at hln
 refine call_any_walk (T6 hl ?_)
 refine⟨s.heap.objs.size,[s.heap.objs.size,l],[s.heap.objs.size],its.toArray.size,_,_,fun i=>(bs[i]?).getD false,rfl,Walks.list (A:=X.A.in1) (I.ok.hd hc) _ l (Xk hlt) its.toArray,
  ⟨⟨_,W5 _ rfl,rfl,rfl⟩,hl.push _⟩,fun i v s' Q' E' hP hQ=>?_,fun h' tk hk=>?_⟩
 ·obtain⟨b,eb,rfl⟩:=zec rv (i:=i) (v:=v) (by simpa using hP)
  simp only[eb,Ux] at hQ
  exact V2 hQ
 ·have e:((W9 its.toArray.size).any fun i=>(bs[i]?).getD false)=bs.any id:=by
   rw[Xp,<- hln];exact LSm.range_any bs
  rw[e]
  exact⟨.bl _,H,I.kept (LSm.kept_iter hk),rfl,q⟩
theorem zlb (hc:X.calm=true):yQ X (.builtin "all") (fun xs H Q=>∃(l:Addr) (bs:List Bool),xs=[.ref l]/\SqL X.K H l (bs.map V.bl)/\Q (.bl (bs.all id)) H):=by
 intro pins s σ H xs us Q I r h
 obtain⟨l,bs,rfl,hq,q⟩:=h
 obtain⟨u,rfl,ru⟩:=vals1 r
 cases ru
 obtain⟨its,rv,pl,hz⟩:=I.list hq
 have hl:=pl.isList
 have hlt:l<s.heap.objs.size:=let ⟨_,he,_⟩:=hl;XF he
 have hln:=rv.length
 rw[ZB] at hln
 refine call_all_walk (T6 hl ?_)
 refine⟨s.heap.objs.size,[s.heap.objs.size,l],[s.heap.objs.size],its.toArray.size,_,_,fun i=>(bs[i]?).getD true,rfl,Walks.list (A:=X.A.in1) (I.ok.hd hc) _ l (Xk hlt) its.toArray,
  ⟨⟨_,W5 _ rfl,rfl,rfl⟩,hl.push _⟩,fun i v s' Q' E' hP hQ=>?_,fun h' tk hk=>?_⟩
 ·obtain⟨b,eb,rfl⟩:=zec rv (i:=i) (v:=v) (by simpa using hP)
  simp only[eb,Ux] at hQ
  exact V2 hQ
 ·have e:((W9 its.toArray.size).all fun i=>(bs[i]?).getD true)=bs.all id:=by
   rw[Xp,<- hln];exact LSm.range_all bs
  rw[e]
  exact⟨.bl _,H,I.kept (LSm.kept_iter hk),rfl,q⟩
end
mutual
inductive Rdn (N:Addr->Prop)(H:Hp):V->Wm->Prop
 | non:Rdn N H .non .none
 | bl (b:Bool):Rdn N H (.bl b) (.bool b)
 | int (i:Int):Rdn N H (.int i) (.int i)
 | str (x:Str):Rdn N H (.str x) (.str x)
 | lst {a:Addr} {xs:List V} {ds:List Wm}:N a->H a=some (.lst xs)->zJ N H xs ds->Rdn N H (.ref a) (.list ds)
 | tup {a:Addr} {xs:List V} {ds:List Wm}:H a=some (.tup xs)->zJ N H xs ds->Rdn N H (.ref a) (.tuple ds)
inductive zJ (N:Addr->Prop)(H:Hp):List V->List Wm->Prop
 | nil:zJ N H [] []
 | cons {x:V} {d:Wm} {xs:List V} {ds:List Wm}:Rdn N H x d->zJ N H xs ds->zJ N H (x::xs) (d::ds)
end
section
variable {K:X8}{N N':Addr->Prop}{H H':Hp}
theorem Rdn.rdv {v:V}{d:Wm}(h:Rdn N H v d):Rdv K H v d :=
 Rdn.rec (motive_1:=fun v d _=>Rdv K H v d) (motive_2:=fun vs ds _=>Jm K H vs ds) .non .bl .int .str (fun _ h _ t=>.lst (SqL.of h) t) (fun h _ t=>.tup (SqT.of h) t) .nil (fun _ _ a t=>.cons a t) h
theorem zJ.rdv {vs:List V}{ds:List Wm}(h:zJ N H vs ds):Jm K H vs ds :=
 zJ.rec (motive_1:=fun v d _=>Rdv K H v d) (motive_2:=fun vs ds _=>Jm K H vs ds) .non .bl .int .str (fun _ h _ t=>.lst (SqL.of h) t) (fun h _ t=>.tup (SqT.of h) t) .nil (fun _ _ a t=>.cons a t) h
theorem Rdn.mono (s:zB H H')(i:∀a,N a->N' a){v:V}{d:Wm}(h:Rdn N H v d):Rdn N' H' v d :=
 Rdn.rec (motive_1:=fun v d _=>Rdn N' H' v d) (motive_2:=fun vs ds _=>zJ N' H' vs ds) .non .bl .int .str (fun n h _ t=>.lst (i _ n) (s _ _ h) t) (fun h _ t=>.tup (s _ _ h) t) .nil (fun _ _ a t=>.cons a t) h
theorem zJ.mono (s:zB H H')(i:∀a,N a->N' a){vs:List V}{ds:List Wm}(h:zJ N H vs ds):zJ N' H' vs ds :=
 zJ.rec (motive_1:=fun v d _=>Rdn N' H' v d) (motive_2:=fun vs ds _=>zJ N' H' vs ds) .non .bl .int .str (fun n h _ t=>.lst (i _ n) (s _ _ h) t) (fun h _ t=>.tup (s _ _ h) t) .nil (fun _ _ a t=>.cons a t) h
theorem zJ.into {D:Addr}{o:HO}{old:List V}(hD:H D=some (.lst old))(i:∀a,N a->a≠D){vs:List V}{ds:List Wm}(h:zJ N H vs ds):zJ N (upd H D o) vs ds :=
 zJ.rec (motive_1:=fun v d _=>Rdn N (upd H D o) v d) (motive_2:=fun vs ds _=>zJ N (upd H D o) vs ds) .non .bl .int .str (fun n h _ t=>.lst n (by rw[zu (i _ n)];exact h) t) (fun h _ t=>.tup (by rw[zu (zfY h hD (by intro z;cases z))];exact h) t) .nil (fun _ _ a t=>.cons a t) h
theorem Rdn.keep (s:zB H H'){v:V}{d:Wm}(h:Rdn N H v d):Rdn N H' v d:=h.mono s fun _ n=>n
theorem zJ.keep (s:zB H H'){vs:List V}{ds:List Wm}(h:zJ N H vs ds):zJ N H' vs ds:=h.mono s fun _ n=>n
theorem zJ.append {vs ws:List V}{ds es:List Wm}(h:zJ N H vs ds)(k:zJ N H ws es):zJ N H (vs++ws) (ds++es) :=
 zJ.rec (motive_1:=fun _ _ _=>True) (motive_2:=fun vs ds _=>zJ N H (vs++ws) (ds++es))
  trivial (fun _=>trivial) (fun _=>trivial) (fun _=>trivial) (fun _ _ _ _=>trivial) (fun _ _ _=>trivial) k (fun a _ _ t=>.cons a t) h
theorem zJ.snoc {vs:List V}{ds:List Wm}{v:V}{d:Wm}(h:zJ N H vs ds)(k:Rdn N H v d):zJ N H (vs++[v]) (ds++[d]):=h.append (.cons k .nil)
theorem zJ.paired {vs:List V}{ds:List Wm}(h:zJ N H vs ds):W0 (Rdn N H) vs ds :=
 zJ.rec (motive_1:=fun _ _ _=>True) (motive_2:=fun vs ds _=>W0 (Rdn N H) vs ds)
  trivial (fun _=>trivial) (fun _=>trivial) (fun _=>trivial) (fun _ _ _ _=>trivial) (fun _ _ _=>trivial) .nil (fun a _ _ t=>.cons a t) h
theorem zJ.length {vs:List V}{ds:List Wm}(h:zJ N H vs ds):vs.length=ds.length:=Paired.length h.paired
theorem zJ.get {vs:List V}{ds:List Wm}{i:Nat}{v:V}(h:zJ N H vs ds)(e:vs[i]?=some v):∃d,ds[i]?=some d/\Rdn N H v d:=zf9 h.paired e
end
section
variable {K:X8}{g:TG}{tc:TT}{te:TE}{Q:VK}{σ0:St}{H1:Hp}{D:Addr}
def zmU (N:Addr->Prop)(inv:St->Prop)(H:Hp)(o:Option Wm)(Y:St->V->Hp->Prop):Prop:=∀d y σ2 H5,o=some d->inv σ2->zB H H5->Rdn N H5 y d->Y σ2 y H5
def zoP (inv:St->Prop)(H:Hp)(o:Option Wm)(Z:St->Hp->Prop):Prop:=∀ σ2 H4,o=none->inv σ2->zB H H4->Z σ2 H4
theorem qI {a:Addr}{xs:List V}(N:Addr->Prop)(outs:List (Option Wm))(inv:St->Prop)(hD:H1 D=none)(hN:∀a,N a->a≠D)(h0:inv σ0)(hlen:outs.length=xs.length)(hz:xs.length<=100000)
  (hl:SqL K H1 a xs)
  (hs:∀(i:Nat) (x:V) (o:Option Wm) (σ:St) (H:Hp),xs[i]?=some x->outs[i]?=some o->zB H1 H->H D≠none->inv σ->∀Y Z,zmU N inv H o Y->zoP inv H o Z ->
   g x σ H fun σ2 H3=>tc σ2 H3 fun b H4=>if b=true then te σ2 H4 fun y H5=>Y σ2 y H5 else Z σ2 H4)
  (hd:∀ys H',zB H1 H'->H' D=some (.lst ys)->zJ N H' ys (outs.filterMap id)->Q (.ref D) H'):JV (Itl K a) g tc te Q D σ0 (upd H1 D (.lst [])):=by
 refine qq (K:=K) (a:=a) (xs:=xs) (fun i σ H'=>inv σ/\zB H1 H'/\∃ys,H' D=some (.lst ys)/\ys.length<=i/\zJ N H' ys ((outs.take i).filterMap id)) ⟨h0,ze hD,[],zc,XW _,.nil⟩ (fun i σ H' _ ⟨_,s,_⟩=>s.seq hl) ?_ ?_
 ·rintro i x σ H hx ⟨hi,s,ys,hy,yl,hr⟩
  have hil:i<xs.length:=(X4.mp hx).1
  obtain⟨o,ho⟩:∃o,outs[i]?=some o:=⟨outs[i]'(by lia),X7 (by lia)⟩
  have step:(outs.take (i+1)).filterMap id=(outs.take i).filterMap id++o.toList:=by
   rw[XJ,ho,List.filterMap_append]
   cases o<;>rfl
  refine hs i x o σ H hx ho s (by rw[hy];exact fun z=>nomatch z) hi _ _ (fun d y σ2 H5 e hi2 s5 hr5=>?_) (fun σ2 H4 e hi2 s4=>?_)
  ·subst e
   refine⟨ys,s5 _ _ hy,XH yl (Xn hil (X0 hz (by decide))),hi2,fun b ob e=>?_,ys++[y],zc,?_,?_⟩
   ·rw[zu (zj e hD)]
    exact s5 _ _ (s _ _ e)
   ·rw[XZ]
    exact Sv yl 1
   ·rw[step]
    exact zJ.into (s5 _ _ hy) hN (zJ.snoc (hr.keep s5) hr5)
  ·subst e
   refine⟨hi2,s.trans s4,ys,s4 _ _ hy,T5 yl,?_⟩
   rw[step]
   simpa using hr.keep s4
 ·rintro σ H ⟨_,s,ys,hy,_,hr⟩
  rw[<- hlen,XG] at hr
  exact hd ys H s hy hr
theorem zhN {a:Addr}{xs:List V}(Pv:Nat->St->Hp->Prop){H:Hp}(h0:Pv 0 σ0 H)(hl:∀i σ H,i<=xs.length->Pv i σ H->SqL K H a xs)
  (hs:∀i x T σ H,xs[i]?=some x->H T=none->Pv i σ H->g (.ref T) σ (upd H T (.tup [.int i,x])) fun σ2 H3=>tc σ2 H3 fun b H4=>if b=true then te σ2 H4 fun y H5=>∃ys,H5 D=some (.lst ys)/\ys.length<XU/\Pv (i+1) σ2 (upd H5 D (.lst (ys++[y]))) else Pv (i+1) σ2 H4)
  (hd:∀ σ H,Pv xs.length σ H->Q (.ref D) H):JV (Ite K a) g tc te Q D σ0 H:=by
 refine⟨fun i m σ H=>m=xs.length-i/\i<=xs.length/\Pv i σ H,⟨xs.length,by simp,WW _,h0⟩,?_⟩
 rintro i m σ H ⟨rfl,hi,p⟩
 have q:=hl i σ H hi p
 by_cases hlt:i<xs.length
 ·refine .inr ⟨⟨xs,q,hlt⟩,Pv (i+1),fun σ' H' p'=>⟨xs.length-(i+1),by lia,rfl,hlt,p'⟩,fun x H' y=>?_⟩
  obtain⟨T,rfl,hT,y⟩:=y
  obtain⟨v,hv,rfl⟩:=y xs q
  exact hs i v T σ H hv hT p
 ·have e:i=xs.length:=by lia
  subst e
  exact .inl ⟨⟨xs,q,rfl⟩,hd σ H p⟩
theorem Zo {i:Nat}{v:V}{σ:St}{H:Hp}{A B:St->Hp->Prop}(h:A (σ.set i (some v)) H):Q9 i v σ H fun σ2 H3=>zk6 σ2 H3 fun b H4=>if b=true then A σ2 H4 else B σ2 H4:=by
 show if true=true then A (σ.set i (some v)) H else B (σ.set i (some v)) H
 exact Qi h
end
noncomputable def JY (z:Str)(lo hi:Option Int):Str:=⟨((z.cps.toList.drop (HT.sIx z.length 0 lo)).take (HT.sIx z.length z.length hi-HT.sIx z.length 0 lo)).toArray⟩
theorem zlc (lo hi:Option Int)(n:Nat):U7 lo hi 1 n=(W9 (HT.sIx n n hi-HT.sIx n 0 lo)).map (HT.sIx n 0 lo + ·):=by
 rw[<- sliceRange_one]
 unfold U7
 simp only[show (1:Int)>0 by decide,if_true]
 have clip:∀(v:Option Int) (d:Nat),(match v with | none=>(d:Int) | some i=>max 0 (min (if i<0 then i+(n:Int) else i) (n:Int)))=((HT.sIx n d v:Nat):Int):=fun v d=>by
  cases v with
  | none=>rfl
  | some i =>
   simp only[HT.sIx]
   by_cases h:i<0
   ·simp only[h,if_true]
    lia
   ·simp only[h,if_false]
    lia
 have e1:=clip lo 0
 have e2:=clip hi n
 rw[<- e1,<- e2]
 rfl
theorem zmV (n:Nat)(hi:Option Int):HT.sIx n n hi<=n:=HT.zoF n n (XW _) hi
theorem zld (z:Str)(lo hi:Option Int):Txt.slice z lo hi=JY z lo hi:=by
 unfold Txt.slice JY
 rw[zlc,pick_run]
 by_cases c:((1:Int)==1&&((W9 (HT.sIx z.length z.length hi-HT.sIx z.length 0 lo)).map (HT.sIx z.length 0 lo + ·)).length==z.length)=true
 ·rw[if_pos c]
  have c2:HT.sIx z.length z.length hi-HT.sIx z.length 0 lo=z.length:=by
   simp only[ZB,WL] at c
   simpa using c
  have h1:=zmV z.length hi
  have e1:HT.sIx z.length z.length hi=z.length:=by lia
  have e0:HT.sIx z.length 0 lo=0\/z.length=0:=by lia
  have el:z.cps.toList.length=z.length:=X6
  rw[c2]
  rcases e0 with e0 | e0
  ·rw[e0,PC,W8 (by lia)]
  ·have e2:z.cps.toList=[]:=Ve.mp (by lia)
   rw[e2]
   simp only[List.drop_nil,List.take_nil]
   cases z with
   | mk cps =>
    have e3:cps=#[]:=by simpa using e2
    rw[e3]
 ·rw[if_neg c]
section
variable {X:Cx}
def zqX:V->Option Int->Option Int->Hp->VK->Prop:=fun x lo hi H Q=>∃z,x=.str z/\z.length<=XU/\Q (.str (JY z lo hi)) H
theorem zge {v:X9}{o:Option Int}(h:IsPart v o):∃p:Option (Int×Tok),v=partValue p/\p.map (·.1)=o:=by
 cases h with
 | none=>exact⟨none,rfl,rfl⟩
 | int i t=>exact⟨some (i,t),rfl,rfl⟩
theorem zlf:SlR X zqX:=by
 intro pins s σ H x v vl vu lo hi sl Q I rx hs pl pu h
 obtain⟨z,rfl,hz,q⟩:=h
 obtain⟨t,rfl⟩:=rx
 obtain⟨p1,rfl,e1⟩:=zge pl
 obtain⟨p2,rfl,e2⟩:=zge pu
 refine⟨"str",_,F.slot_str_getitem.lookup,Rj _ _ _,wpAny_getItem_str_slice (l:=p1) (u:=p2) (st:=none) hs rfl ?_⟩
 have e:sliceMade z t p1 p2 none=if ((1:Int)==1&&(U7 lo hi 1 z.length).length==z.length)=true then Made.val (.str z t) else Made.str ⟨((U7 lo hi 1 z.length).filterMap (z.cps[·]?)).toArray⟩:=by
  rw[<- e1,<- e2]
  rfl
 rw[e]
 refine post_val_or_str ⟨X0 (Txt.slice_le z lo hi) hz,fun t' k=>?_⟩
 rw[<- zld] at q
 exact⟨.str (Txt.slice z lo hi),H,I.tok k,⟨_,rfl⟩,q⟩
end
section
variable {X:Cx}{tg iter elt:Expr}{ifs:List Expr}{scope:Uh}{pos:Pos}{N:List Str}{src:List (Option Nat)}{cl:List (Str×Addr)}{wi:TI}{g:TG}{tc:TT}{te:TE}
theorem JF {i:Nat}{x:Str}{xpos spos:Pos}(hN:X.N.Nodup)(hix:X.N[i]?=some x)(hlx:X.env.scope.names.lookup x=some .local)(ok:zY X N src scope cl)(hcalm:X.calm=true)(hi:PI X tg iter wi)
  (hg:∀C fp pins s H,PG (jd X N scope cl C fp pins s H) tg g) (hc:∀C fp pins s H,zk5 (jd X N scope cl C fp pins s H) ifs tc) (he:∀C fp pins s H,PE (jd X N scope cl C fp pins s H) elt te)
  (hs:∀x,S4 iter X.env x=pure x:=by intro _;rfl) (hsw:Pf (.ListComp elt [⟨tg,iter,ifs,0⟩] scope pos) (some (.Name x xpos)) spos.line X.env=pure true:=by rfl) :
  PS X (.Assign [.Name x xpos] (.ListComp elt [⟨tg,iter,ifs,0⟩] scope pos) spos) (zmK (zk7 wi src g tc te) (Q9 i)):=by
 intro pins s σ H D I h
 rw[exec_Assign_Name_used _ _ _ _ hsw]
 refine Y1 (UN (Y1 ?_))
 unfold evalThenUse
 refine Y1 (Wr (Q:=fun _ s''=>∃ σ' H',Inv X pins σ' H' s''/\D.nx σ' H') ?_ (fun _ s'' ⟨σ',H',I',q'⟩=>XS (XS ⟨σ',H',I',q'⟩)) fun _ _ z=>z)
 refine TF (use:=some (OB (.Name x xpos) X.env)) rfl hs ok.clos ok.kind ok.names (thn (hi pins s σ H _ I h) fun xv s1 h1=>thn h1 fun itv s2 h2=>?_)
 obtain⟨it,fp,tn,J,H2,e,I2,T,st2,f2,q2⟩:=h2
 subst e
 refine VR (Pq ok.nocell (by intro y hy;simp at hy) (fun h₁ hns₁ hsb₁=>?_) ok.kind)
 dsimp only at hns₁ hsb₁ ⊢
 generalize hP:s2.heap.push { cls:=.type "list",dict:=none,data:=.seq ([]:List X9).toArray }=P2 at hns₁ hsb₁ ⊢
 have hC:P2.objs.size=s2.heap.objs.size+1:=by rw[<- hP,Vj]
 have k:∀b u,s2.heap.get? b=some u->h₁.get? b=some u:=fun b u e=>by
  have lt:=XF e
  exact(hsb₁.2 b (by rw[hC];exact Xk (WJ lt))).trans (XY _ (hP ▸ XY _ e))
 have hD:h₁.get? s2.heap.objs.size=some { cls:=.type "list",data:=.seq #[] }:=(hsb₁.2 _ (by rw[hC];exact(Vp _).symm)).trans (XY _ (hP ▸ W5 _ rfl))
 have ho:∀b∈fp,∃o,s2.heap.get? b=some o:=fun b hb=>let ⟨o,e,_⟩:=T.obj 0 _ st2 b hb;⟨o,e⟩
 obtain⟨W,⟨m0,w0⟩,turn⟩:=q2 s2.heap.objs.size (I2.hok.fresh (XW _))
 have I0:=zcJ (tk:=s2.toks+([]:List (Str×X9)).length) ok I2 f2 ho hC k hD hns₁
 have st0:tn 0 h₁:=T.keep 0 _ _ st2 fun b _ o e=>k b o e
 have fr0:∀b∈fp,upd H2 s2.heap.objs.size (.lst []) b=none:=fun b hb=>by
  obtain⟨o,e⟩:=ho b hb
  rw[zu (Xk (XF e))]
  exact(f2 b hb).1
 have stat:∀{H':Hp},(∀b∈fp,H' b=none)->∀b∈fp,zaJ (jd X N scope cl P2.objs.size fp pins s2 H2) [] H' b:=fun {H'} hn b hb=>by
  obtain⟨o,e⟩:=ho b hb
  have lt:=XF e
  refine⟨hn b hb,?_,fun z=>(XB.mp (I2.stkSub b z)).elim (f2 b hb).2.1 (f2 b hb).2.2.1,.inl hb,fun x c z=>(f2 b hb).2.2.2.2.1 x c (ok.sub x c z),fun p hp=>?_⟩
  ·show b≠P2.objs.size
   rw[hC]
   exact Xk (WJ lt)
  ·have hp':p∈X.pn++pins:=by
    have:p∈(X.pn++pins)++[]:=hp
    simpa using this
   exact(f2 b hb).2.2.2.2.2 p hp'
 have loop:∀s₃:X5,s₃={ s2 with heap:=h₁,toks:=s2.toks+([]:List (Str×X9)).length } ->
   Ti (Xf X.prog X.w) X.A (.compLoop (.ListComp elt [⟨tg,iter,ifs,0⟩] scope pos) 0 (.ref it) (.ref s2.heap.objs.size) (Th scope cl P2.objs.size X.env))
    (compPost (Xf X.prog X.w) X.A X.xe (some (OB (.Name x xpos) X.env)) (fun _ s''=>∃ σ' H',Inv X pins σ' H' s''/\D.nx σ' H') (.ref s2.heap.objs.size) P2.objs.size) s₃:=by
  rintro s₃ rfl
  refine OO rfl (fun n s'=>∃i σ' H',Inv (jd X N scope cl P2.objs.size fp pins s2 H2) [] σ' H' s'/\tn i s'.heap/\(∀b∈fp,H' b=none)/\W i n σ' H') ?_ m0 ⟨0,_,_,I0,st0,fr0,w0⟩
  rintro n s3 ⟨i,σ3,H3,I3,st3,fr3,w3⟩
  show Xa _ X.A ((compTurn (.ListComp elt [⟨tg,iter,ifs,0⟩] scope pos) 0 (.ref it) (.ref s2.heap.objs.size) (Th scope cl P2.objs.size X.env)).onRaise (fun x=>do noteFrame x (Th scope cl P2.objs.size X.env);P1 x)) _ _ s3
  refine OK ?_
  rw[O7]
  rcases turn i n σ3 H3 w3 with ⟨stop,qn⟩ | ⟨go,N',hN,step⟩
  ·refine Y1 (UN (Y1 (thn (T.done (jd X N scope cl P2.objs.size fp pins s2 H2) rfl rfl rfl hcalm i [] s3 σ3 H3 _ I3 (stat fr3) st3 stop) fun r s4 ⟨hr,I4⟩=>?_)))
   subst hr
   refine XS ?_
   obtain⟨m,hm,_⟩:=I4.loc
   have leC:s2.heap.objs.size<=P2.objs.size:=by rw[hC];exact V3 _
   have IX:Inv X pins σ H3 s4:=I2.call' (s':=s4) (ch:=fp) I4.os I4.base I4.hok I4.bare fun b hb=>⟨(f2 b hb).2.2.2.1,(f2 b hb).2.1,(f2 b hb).2.2.2.2.1,(f2 b hb).2.2.2.2.2⟩
   have cellLt:∀y c,X.env.cells.lookup y=some c->c≠P2.objs.size:=fun y c e z=>by
    obtain⟨_,o,e1,_⟩:=I2.cell y c e
    have:=XF e1
    rw[z] at this
    exact V6 _ (Xn this leC)
   have locNe:X.env.locals≠P2.objs.size:=fun z=>by
    have:=I2.lt
    rw[z] at this
    exact V6 _ (Xn this leC)
   refine wpAny_assign_Name (zd6 IX hN hix (.inl hlx) (v:=.ref s2.heap.objs.size) rfl (fun s5 I5 ⟨a5,sb5,ha5⟩=>?_) (.inr hlx))
   have na:a5≠P2.objs.size:=by
    rcases ha5 with z | z
    ·rw[z]
     exact locNe
    ·exact cellLt _ _ z
   refine⟨m,hm.sameBut sb5 (T7 na),fun h' sb=>⟨_,H3,?_,qn⟩⟩
   exact I5.turned (t':=s5.toks) (it:=P2.objs.size) (fun b o hb e=>(sb.2 b hb).trans e) I4.free (T7 locNe) (.inr (X0 I2.sz leC)) cellLt fun p hp z=>by
    obtain⟨e1,_⟩:=I2.pin p hp
    have:=XF e1
    rw[z] at this
    exact V6 _ (Xn this leC)
  ·refine Y1 (UN (Y1 (thn (T.item (jd X N scope cl P2.objs.size fp pins s2 H2) rfl rfl rfl hcalm i [] s3 σ3 H3 _ I3 (stat fr3) st3 go) fun r s4 ⟨u,hr,h4⟩=>?_)))
   subst hr
   dsimp only
   refine Y1 (thn h4 fun _ s5 ⟨x,H5,I5,r5,y5,st5,fr5⟩=>?_)
   have I5':=I5.pinned (stat fr5) (T.obj _ _ st5)
   refine Y1 (Wr (hg P2.objs.size fp pins s2 H2 _ s5 σ3 H5 x u _ I5' r5 (step x H5 y5)) (fun _ s6 ⟨σ6,H6,I6,q6⟩=>?_) fun _ _ z=>Wl z)
   have RO:∀{s7:X5} {σ7:St} {H7:Hp},Inv (jd X N scope cl P2.objs.size fp pins s2 H2) ([]++zal fp s5.heap) σ7 H7 s7->N' σ7 H7->∃m,m<n/\∃i σ' H',Inv (jd X N scope cl P2.objs.size fp pins s2 H2) [] σ' H' s7/\tn i s7.heap/\(∀b∈fp,H' b=none)/\W i m σ' H':=fun {s7 σ7 H7} I7 n7=>by
    obtain⟨m',hm,w7⟩:=hN σ7 H7 n7
    refine⟨m',hm,i+1,σ7,H7,I7.unpinned,T.keep _ _ _ st5 fun b hb o e=>(I7.pin (b,o) (Xs _ (Xs _ (j6 hb e)))).1,fun b hb=>?_,w7⟩
    obtain⟨o,e,d⟩:=T.obj _ _ st5 b hb
    exact(I7.pin (b,o) (Xs _ (Xs _ (j6 hb e)))).2.1
   refine Y1 (Wr (hc P2.objs.size fp pins s2 H2 _ s6 σ6 H6 _ I6 q6) (fun b s7 ⟨H7,I7,q7⟩=>?_) fun _ _ z=>Wl z)
   cases b with
   | false =>
    rw[if_neg XV] at q7
    exact XS ⟨rfl,RO I7 q7⟩
   | true =>
    rw[if_pos rfl] at q7
    refine Y1 (Y1 (Wr (he P2.objs.size fp pins s2 H2 _ s7 σ6 H7 _ I7 q7) (fun y s8 ⟨v8,H8,I8,r8,ys,hys,hlen,q8⟩=>?_) fun _ _ z=>Wl z))
    refine Y1 (Wr (jj (X:=jd X N scope cl P2.objs.size fp pins s2 H2) _ s8 σ6 H8 (.ref s2.heap.objs.size) [v8] (.ref s2.heap.objs.size) [y] (fun _ H9=>N' σ6 H9) I8 rfl (.cons r8 .nil) ⟨_,ys,v8,rfl,rfl,hys,hlen,q8⟩) (fun _ s9 ⟨v9,H9,I9,_,q9⟩=>?_) fun _ _ z=>Wl z)
    exact XS (XS ⟨rfl,RO I9 q9⟩)
 exact SU (loop _ rfl) (T.self _ 0 _ _ _ st0 (loop _ rfl))
end
theorem zY.byRfl {X:Cx}{N:List Str}{src:List (Option Nat)}{scope:Uh}(kind:scope.kind=.function)(nocell:∀y∈scope.names,y.2 ≠ .cell)(names:∀y∈scope.names,y.2=.local->scope.names.lookup y.1=some .local)
  (hs:(scope.names.all fun y=>y.2 != .free || (X.env.cells.lookup y.1).isSome)=true) (len:src.length=N.length)
  (pc:((N.zip src).all fun q=>match q.2 with | none=>true | some j=>X.N[j]?==some q.1&&X.env.kindOf q.1==some .cell&&(Ut scope X.env).names.lookup q.1==some .cell)=true):zY X N src scope (zbt (fun x=>X.env.cells.lookup x) scope.names []):=by
 have hs':∀y∈scope.names,y.2=.free->(X.env.cells.lookup y.1).isSome=true:=fun y hy e=>by
  have z:=WT.mp hs y hy
  rw[e] at z
  simpa using z
 refine⟨kind,nocell,names,Jo hs',fun x c h=>?_,fun x h=>?_,len,fun i j x h1 h2=>?_⟩
 ·rcases ZS _ _ _ (WM h) with z | z
  ·cases z
  ·exact z
 ·refine V4.mp (zcL _ _ (.inr ?_))
  have hm:(x,U4)∈scope.names\/(x,NameKind.free)∈scope.names:=by
   rcases h with h | h
   ·exact yR (WM h) (.inl rfl)
   ·exact yR (WM h) (.inr rfl)
  rcases hm with hm | hm
  ·exact absurd rfl (nocell _ hm)
  ·exact⟨hm,hs' _ hm rfl⟩
 ·have hm:(x,some j)∈N.zip src:=X2 (i:=i) (by rw[TU];exact⟨h1,h2⟩)
  have z:=WT.mp pc _ hm
  simp only[Wq,beq_iff_eq] at z
  exact⟨z.1.1,.inl z.1.2,.inl z.2⟩
structure Yw (X:Cx)(N:List Str)(src:List (Option Nat))(scope:Uh)(cl:List (Str×Addr))(y:Str):Prop where
 kind:scope.kind=.function
 one:∀n acc,Se n scope.names acc=(y,n)::acc
 push:∀h,pushCells h scope.names=h.push { cls:=.type "cell",data:=.cell none }
 names:∀y∈scope.names,y.2=.local->scope.names.lookup y.1=some .local
 clos:OU scope X.env=pure cl
 sub:∀x c,cl.lookup x=some c->X.env.cells.lookup x=some c
 has:∀x,((Ut scope X.env).names.lookup x=some .cell\/(Ut scope X.env).names.lookup x=some .free)->x=y\/∃c,cl.lookup x=some c
 len:src.length=N.length
 pulls:∀(i j:Nat) (x:Str),N[i]?=some x->src[i]?=some (some j)->X.N[j]?=some x/\(X.env.kindOf x=some .cell\/X.env.kindOf x=some .free)/\((Ut scope X.env).names.lookup x=some .cell\/(Ut scope X.env).names.lookup x=some .free)
 pny:∀(i j:Nat) (x:Str),N[i]?=some x->src[i]?=some (some j)->x≠y
theorem Yw.has1 {X:Cx}{N:List Str}{src:List (Option Nat)}{scope:Uh}{cl:List (Str×Addr)}{y:Str}{C:Addr}(ok:Yw X N src scope cl y)(x:Str)(h:(Ut scope X.env).names.lookup x=some .cell\/(Ut scope X.env).names.lookup x=some .free):∃c,Sy x ((y,C)::cl)=some c:=by
 rw[Vo]
 cases q:x==y with
 | true=>exact⟨_,rfl⟩
 | false =>
  rcases ok.has x h with z | z
  ·rw[z] at q
   simp at q
  ·exact z
theorem Yw.byRfl {X:Cx}{N:List Str}{src:List (Option Nat)}{scope:Uh}{y:Str}(kind:scope.kind=.function)(one:∀n acc,Se n scope.names acc=(y,n)::acc)(push:∀h,pushCells h scope.names=h.push { cls:=.type "cell",data:=.cell none })
  (only:∀z∈scope.names,z.2=.cell->z.1=y) (names:∀y∈scope.names,y.2=.local->scope.names.lookup y.1=some .local)
  (hs:(scope.names.all fun y=>y.2 != .free || (X.env.cells.lookup y.1).isSome)=true) (len:src.length=N.length)
  (pc:((N.zip src).all fun q=>match q.2 with | none=>true | some j=>X.N[j]?==some q.1&&X.env.kindOf q.1==some .cell&&(Ut scope X.env).names.lookup q.1==some .cell&&q.1 != y)=true):Yw X N src scope (zbt (fun x=>X.env.cells.lookup x) scope.names []) y:=by
 have hs':∀y∈scope.names,y.2=.free->(X.env.cells.lookup y.1).isSome=true:=fun y hy e=>by
  have z:=WT.mp hs y hy
  rw[e] at z
  simpa using z
 have pk:∀(i j:Nat) (x:Str),N[i]?=some x->src[i]?=some (some j)->(X.N[j]?=some x/\X.env.kindOf x=some .cell/\(Ut scope X.env).names.lookup x=some .cell)/\x≠y:=fun i j x h1 h2=>by
  have hm:(x,some j)∈N.zip src:=X2 (i:=i) (by rw[TU];exact⟨h1,h2⟩)
  have z:=WT.mp pc _ hm
  simp only[Wq,beq_iff_eq,bne_iff_ne] at z
  exact⟨⟨z.1.1.1,z.1.1.2,z.1.2⟩,z.2⟩
 refine⟨kind,one,push,names,Jo hs',fun x c h=>?_,fun x h=>?_,len,fun i j x h1 h2=>⟨(pk i j x h1 h2).1.1,.inl (pk i j x h1 h2).1.2.1,.inl (pk i j x h1 h2).1.2.2⟩,fun i j x h1 h2=>(pk i j x h1 h2).2⟩
 ·rcases ZS _ _ _ (WM h) with z | z
  ·cases z
  ·exact z
 ·have hm:(x,U4)∈scope.names\/(x,NameKind.free)∈scope.names:=by
   rcases h with h | h
   ·exact yR (WM h) (.inl rfl)
   ·exact yR (WM h) (.inr rfl)
  rcases hm with hm | hm
  ·exact .inl (only _ hm rfl)
  ·exact .inr (V4.mp (zcL _ _ (.inr ⟨hm,hs' _ hm rfl⟩)))
noncomputable def yH (X:Cx)(N:List Str)(scope:Uh)(cl:List (Str×Addr))(y:Str)(C:Addr)(fp:List Addr)(pins:List (Addr×Obj))(s:X5)(H:Hp):Cx :=
 { jd X N scope ((y,C+1)::cl) C fp pins s H with fn:=fun x=>decide (x=y) }
theorem zmW {M:Model}{A:WG}{E:X9->X5->Prop}{s:X5}{scope:Uh}{globals:Addr}{cl:List (Str×Addr)}{qual:Str}{env:Env}{y:Str}{Q:Env->X5->Prop}(one:∀n acc,Se n scope.names acc=(y,n)::acc)(push:∀h,pushCells h scope.names=h.push { cls:=.type "cell",data:=.cell none })
  (hQ:Q (newEnv scope s.heap.objs.size globals ((y,s.heap.objs.size+1)::cl) qual none .none (some env) OX) { s with heap:=(s.heap.push { cls:=.type "dict",data:=.dict #[] }).push { cls:=.type "cell",data:=.cell none } }) :
  Xa M A (newFunctionEnv scope globals cl [] qual none .none (some env)) Q E s:=by
 simp only[newFunctionEnv,Option.isSome_some,if_true]
 refine Y1 (wpAny_alloc ?_)
 refine Y1 (wpAny_layCells _ (fun name kind cells=>by cases hkc:kind==U4<;>simp[hkc]) _ _ _ _ ?_)
 rw[push,one,show ({ s with heap:=s.heap.push { cls:=.type "dict",data:=.dict #[] } }:X5).heap.objs.size=s.heap.objs.size+1 from Vj ..]
 exact Y1 (XS (XS hQ))
section
variable {X:Cx}{tg iter elt:Expr}{ifs:List Expr}{scope:Uh}{pos:Pos}{N:List Str}{src:List (Option Nat)}{cl:List (Str×Addr)}{wi:TI}{g:TG}{tc:TT}{te:TE}{y:Str}
theorem zgf {pins:List (Addr×Obj)}{σ:St}{H:Hp}{s:X5}{fp:List Addr}{h1:Heap}{C:Addr}{tk:Nat}(ok:Yw X N src scope cl y)(I:Inv X pins σ H s)(hf:∀b∈fp,zaJ X pins H b)(ho:∀b∈fp,∃o,s.heap.get? b=some o)
  (hC:C=s.heap.objs.size+1) (k:∀b u,s.heap.get? b=some u->h1.get? b=some u) (hD:h1.get? s.heap.objs.size=some { cls:=.type "list",data:=.seq #[] }) {m:Str->Option X9} (hn:h1.Ns C m) (hcc:h1.IsCell (C+1) none) :
  Inv (yH X N scope cl y C fp pins s H) [] (pull src σ) (upd H s.heap.objs.size (.lst [])) { s with heap:=h1,toks:=tk }:=by
 have lt:∀b o,s.heap.get? b=some o->b<s.heap.objs.size:=fun b o e=>XF e
 have nC:∀b o,s.heap.get? b=some o->b≠C:=fun b o e=>by rw[hC];exact Xk (WJ (lt b o e))
 have nD:∀b o,s.heap.get? b=some o->b≠s.heap.objs.size:=fun b o e=>Xk (lt b o e)
 have fr:∀b,s.heap.objs.size<=b->H b=none:=fun b hb=>I.hok.fresh hb
 have nst:∀b,b≠X.env.locals->b ∉ X.fs->b ∉ frs X.stack:=fun b h1 h2 z=>(XB.mp (I.stkSub b z)).elim h1 h2
 have nC1:∀b o,s.heap.get? b=some o->b≠C+1:=fun b o e=>by rw[hC];exact Xk (WJ (WJ (lt b o e)))
 have own:∀x c,Sy x ((y,C+1)::cl)=some c->(x=y/\c=C+1)\/(x≠y/\X.env.cells.lookup x=some c):=fun x c e=>by
  rw[Vo] at e
  cases q:x==y with
  | true =>
   rw[q] at e
   exact .inl ⟨by simpa using q,(Option.some.inj e).symm⟩
  | false =>
   rw[q] at e
   exact .inr ⟨by simpa using q,ok.sub x c e⟩
 have oldc:∀x c,X.env.cells.lookup x=some c->c≠C+1:=fun x c e=>by
  obtain⟨_,o,e1,_⟩:=I.cell x c e
  exact nC1 c o e1
 refine⟨⟨I.ok.mod,ok.kind,I.ok.glob,I.ok.blt,by rw[show (yH X N scope cl y C fp pins s H).env.locals=C from rfl,hC];exact V3 _,?inj,ok.has1,?cab,I.ok.hd,I.ok.frames,.inl rfl,fun b hb=>?_,I.bs,X0 I.ok.bsz I.sz,fun b o e hb=>?_,fun b hb hz=>?_,I.stack,I.stkFree⟩,
  rfl,I.bare,Un.laid k (XW _) (fr _ (XW _)),⟨m,hn,fun i x v e1 e2 e3=>?_⟩,fun x c e=>?_,?_,fun x c e=>?_,fun p hp=>?_,I.hok.laid k (XW _) ⟨WW _,[],0,.nil,hD⟩,?_⟩
 case inj =>
  intro x x' c e1 e2
  rcases own x c e1 with ⟨a1,a2⟩ | ⟨a1,a2⟩
  ·rcases own x' c e2 with ⟨b1,b2⟩ | ⟨b1,b2⟩
   ·rw[a1,b1]
   ·exact absurd a2 (oldc x' c b2)
  ·rcases own x' c e2 with ⟨b1,b2⟩ | ⟨b1,b2⟩
   ·exact absurd b2 (oldc x c a2)
   ·exact I.ok.inj x x' c a2 b2
 case cab =>
  intro x c z e
  have zy:x=y:=of_decide_eq_true z
  rcases own x c e with ⟨_,a2⟩ | ⟨a1,_⟩
  ·rw[a2,hC]
   exact T5 (V3 _)
  ·exact absurd zy a1
 ·obtain⟨o,e⟩:=ho b hb
  refine⟨nC b o e,fun x c z=>?_⟩
  rcases own x c z with ⟨_,a2⟩ | ⟨_,a2⟩
  ·rw[a2]
   exact T7 (nC1 b o e)
  ·exact(hf b hb).2.2.2.2.1 x c a2
 ·rcases(hf b hb).2.2.2.1 with z | z
  ·exact I.ok.noex b o e z
  ·exact absurd (Xn (XF (I.ok.bs b o e).1) z) (V6 _)
 ·exact nst b (hf b hb).2.1 (hf b hb).2.2.1 hz
 ·have hi:i<src.length:=by
   have:=(X4.mp e2).1
   unfold pull at this
   rw[ZB] at this
   exact this
  unfold pull at e2
  rw[XE,X7 hi] at e2
  cases q:src[i] with
  | none=>rw[q] at e2;cases e2
  | some j =>
   rw[q] at e2
   have e2':(σ[j]?).getD none=some v:=Option.some.inj e2
   have e4:σ[j]?=some (some v):=by
    cases z:σ[j]? with
    | none=>rw[z] at e2';cases e2'
    | some o=>rw[z] at e2';exact congrArg some e2'
   obtain⟨p1,p2,p3⟩:=ok.pulls i j x e1 (by rw[X7 hi,q])
   obtain⟨m',hn',hl⟩:=I.loc
   obtain⟨u,r,l⟩:=hl j x v p1 e4 (by
    rcases p2 with z | z
    ·exact .inr (.inl z)
    ·exact .inr (.inr z))
   refine⟨u,r,.inr ⟨p3,?_⟩⟩
   obtain⟨c,hc⟩:=ok.has1 x p3
   refine⟨c,hc,?_⟩
   rcases l with ⟨z,_⟩ | ⟨_,c',hc',o,ho',hd'⟩
   ·rcases p2 with y | y<;>rw[z] at y<;>cases y
   ·rcases own x c hc with ⟨a1,_⟩ | ⟨_,a2⟩
    ·exact absurd a1 (ok.pny i j x e1 (by rw[X7 hi,q]))
    ·rw[a2] at hc'
     cases hc'
     exact⟨o,k _ o ho',hd'⟩
 ·rcases own x c e with ⟨_,a2⟩ | ⟨_,a2⟩
  ·rw[a2]
   exact⟨_,hcc⟩
  ·obtain⟨v,o,e1,e2⟩:=I.cell x c a2
   exact⟨v,o,k c o e1,e2⟩
 ·show upd H s.heap.objs.size (.lst []) C=none
  rw[hC,zu (Vp _)]
  exact fr _ (V3 _)
 ·show upd H s.heap.objs.size (.lst []) c=none
  rcases own x c e with ⟨_,a2⟩ | ⟨_,a2⟩
  ·rw[a2,hC,zu (Uq (WJ (Rx _)))]
   exact fr _ (T5 (V3 _))
  ·obtain⟨v,o,e1,e2⟩:=I.cell x c a2
   rw[zu (nD c o e1)]
   exact I.freeC x c a2
 ·have hp':p∈X.pn++pins:=by
   have:p∈(X.pn++pins)++[]:=hp
   simpa using this
  obtain⟨e1,e2,e3,e4,e5⟩:=I.pin p hp'
  refine⟨k _ _ e1,?_,nC _ _ e1,nst _ e3 e4,e5⟩
  show upd H s.heap.objs.size (.lst []) p.1=none
  rw[zu (nD _ _ e1)]
  exact e2
 ·unfold pull
  rw[ZB]
  exact ok.len
theorem zlg {y:Str}(ok:Yw X N src scope cl y)(hcalm:X.calm=true)(hi:PI X tg iter wi)
  (hg:∀C fp pins s H,PG (yH X N scope cl y C fp pins s H) tg g) (hc:∀C fp pins s H,zk5 (yH X N scope cl y C fp pins s H) ifs tc) (he:∀C fp pins s H,PE (yH X N scope cl y C fp pins s H) elt te)
  (hs:∀x,S4 iter X.env x=pure x:=by intro _;rfl):PE X (.ListComp elt [⟨tg,iter,ifs,0⟩] scope pos) (zk7 wi src g tc te):=by
 intro pins s σ H Q I h
 rw[eval_ListComp]
 refine TF (use:=none) rfl hs ok.clos ok.kind ok.names (thn (hi pins s σ H _ I h) fun xv s1 h1=>thn h1 fun itv s2 h2=>?_)
 obtain⟨it,fp,tn,J,H2,e,I2,T,st2,f2,q2⟩:=h2
 subst e
 refine VR (zmW ok.one ok.push ?_)
 generalize hP:s2.heap.push { cls:=.type "list",dict:=none,data:=.seq ([]:List X9).toArray }=P2
 have hC:P2.objs.size=s2.heap.objs.size+1:=by rw[<- hP,Vj]
 have sz1:(P2.push { cls:=.type "dict",data:=.dict #[] }).objs.size=P2.objs.size+1:=Vj ..
 generalize hh1:(P2.push { cls:=.type "dict",data:=.dict #[] }).push { cls:=.type "cell",data:=.cell none }=h₁
 have hns₁:h₁.Ns P2.objs.size (fun _=>none):=by
  rw[<- hh1]
  exact(Heap.Ns.new P2 _).push _
 have hcc:h₁.IsCell (P2.objs.size+1) none:=by
  rw[<- hh1,<- sz1]
  exact⟨_,W5 _ rfl,rfl⟩
 have k:∀b u,s2.heap.get? b=some u->h₁.get? b=some u:=fun b u e=>by
  rw[<- hh1]
  exact XY _ (XY _ (hP ▸ XY _ e))
 have hD:h₁.get? s2.heap.objs.size=some { cls:=.type "list",data:=.seq #[] }:=by
  rw[<- hh1]
  exact XY _ (XY _ (hP ▸ W5 _ rfl))
 have ho:∀b∈fp,∃o,s2.heap.get? b=some o:=fun b hb=>let ⟨o,e,_⟩:=T.obj 0 _ st2 b hb;⟨o,e⟩
 obtain⟨W,⟨m0,w0⟩,turn⟩:=q2 s2.heap.objs.size (I2.hok.fresh (XW _))
 have I0:=zgf (tk:=s2.toks) ok I2 f2 ho hC k hD hns₁ hcc
 have st0:tn 0 h₁:=T.keep 0 _ _ st2 fun b _ o e=>k b o e
 have fr0:∀b∈fp,upd H2 s2.heap.objs.size (.lst []) b=none:=fun b hb=>by
  obtain⟨o,e⟩:=ho b hb
  rw[zu (Xk (XF e))]
  exact(f2 b hb).1
 have stat:∀{H':Hp},(∀b∈fp,H' b=none)->∀b∈fp,zaJ (yH X N scope cl y P2.objs.size fp pins s2 H2) [] H' b:=fun {H'} hn b hb=>by
  obtain⟨o,e⟩:=ho b hb
  have lt:=XF e
  refine⟨hn b hb,?_,fun z=>(XB.mp (I2.stkSub b z)).elim (f2 b hb).2.1 (f2 b hb).2.2.1,.inl hb,fun x c z=>?own,fun p hp=>?_⟩
  case own =>
   have z':Sy x ((y,P2.objs.size+1)::cl)=some c:=z
   rw[Vo] at z'
   cases q:x==y with
   | true =>
    rw[q] at z'
    rw[<- Option.some.inj z',hC]
    exact Uq (WJ (WJ lt))
   | false =>
    rw[q] at z'
    exact(f2 b hb).2.2.2.2.1 x c (ok.sub x c z')
  ·show b≠P2.objs.size
   rw[hC]
   exact Xk (WJ lt)
  ·have hp':p∈X.pn++pins:=by
    have:p∈(X.pn++pins)++[]:=hp
    simpa using this
   exact(f2 b hb).2.2.2.2.2 p hp'
 have loop:∀s₃:X5,s₃={ s2 with heap:=h₁,toks:=s2.toks } ->
   Ti (Xf X.prog X.w) X.A (.compLoop (.ListComp elt [⟨tg,iter,ifs,0⟩] scope pos) 0 (.ref it) (.ref s2.heap.objs.size) (Th scope ((y,P2.objs.size+1)::cl) P2.objs.size X.env))
    (compPost (Xf X.prog X.w) X.A X.xe none (EP X pins σ Q) (.ref s2.heap.objs.size) P2.objs.size) s₃:=by
  rintro s₃ rfl
  refine OO rfl (fun n s'=>∃i σ' H',Inv (yH X N scope cl y P2.objs.size fp pins s2 H2) [] σ' H' s'/\tn i s'.heap/\(∀b∈fp,H' b=none)/\W i n σ' H') ?_ m0 ⟨0,_,_,I0,st0,fr0,w0⟩
  rintro n s3 ⟨i,σ3,H3,I3,st3,fr3,w3⟩
  show Xa _ X.A ((compTurn (.ListComp elt [⟨tg,iter,ifs,0⟩] scope pos) 0 (.ref it) (.ref s2.heap.objs.size) (Th scope ((y,P2.objs.size+1)::cl) P2.objs.size X.env)).onRaise (fun x=>do noteFrame x (Th scope ((y,P2.objs.size+1)::cl) P2.objs.size X.env);P1 x)) _ _ s3
  refine OK ?_
  rw[O7]
  rcases turn i n σ3 H3 w3 with ⟨stop,qn⟩ | ⟨go,N',hN,step⟩
  ·refine Y1 (UN (Y1 (thn (T.done (yH X N scope cl y P2.objs.size fp pins s2 H2) rfl rfl rfl hcalm i [] s3 σ3 H3 _ I3 (stat fr3) st3 stop) fun r s4 ⟨hr,I4⟩=>?_)))
   subst hr
   refine XS ?_
   obtain⟨m,hm,_⟩:=I4.loc
   refine⟨m,hm,fun h' sb=>⟨.ref s2.heap.objs.size,H3,?_,rfl,qn⟩⟩
   have un:Un (frs X.stack) fp H2 H3 s2.heap h':=Un.but I4.base (by show s2.heap.objs.size<=P2.objs.size;rw[hC];exact V3 _) sb
   have hok:HOk X.prog X.w H3 h':=HOk.but I4.hok I4.free sb
   exact I2.call' (s':={ s4 with heap:=h' }) (ch:=fp) I4.os un hok I4.bare fun b hb=>⟨(f2 b hb).2.2.2.1,(f2 b hb).2.1,(f2 b hb).2.2.2.2.1,(f2 b hb).2.2.2.2.2⟩
  ·refine Y1 (UN (Y1 (thn (T.item (yH X N scope cl y P2.objs.size fp pins s2 H2) rfl rfl rfl hcalm i [] s3 σ3 H3 _ I3 (stat fr3) st3 go) fun r s4 ⟨u,hr,h4⟩=>?_)))
   subst hr
   dsimp only
   refine Y1 (thn h4 fun _ s5 ⟨x,H5,I5,r5,y5,st5,fr5⟩=>?_)
   have I5':=I5.pinned (stat fr5) (T.obj _ _ st5)
   refine Y1 (Wr (hg P2.objs.size fp pins s2 H2 _ s5 σ3 H5 x u _ I5' r5 (step x H5 y5)) (fun _ s6 ⟨σ6,H6,I6,q6⟩=>?_) fun _ _ z=>Wl z)
   have RO:∀{s7:X5} {σ7:St} {H7:Hp},Inv (yH X N scope cl y P2.objs.size fp pins s2 H2) ([]++zal fp s5.heap) σ7 H7 s7->N' σ7 H7->∃m,m<n/\∃i σ' H',Inv (yH X N scope cl y P2.objs.size fp pins s2 H2) [] σ' H' s7/\tn i s7.heap/\(∀b∈fp,H' b=none)/\W i m σ' H':=fun {s7 σ7 H7} I7 n7=>by
    obtain⟨m',hm,w7⟩:=hN σ7 H7 n7
    refine⟨m',hm,i+1,σ7,H7,I7.unpinned,T.keep _ _ _ st5 fun b hb o e=>(I7.pin (b,o) (Xs _ (Xs _ (j6 hb e)))).1,fun b hb=>?_,w7⟩
    obtain⟨o,e,d⟩:=T.obj _ _ st5 b hb
    exact(I7.pin (b,o) (Xs _ (Xs _ (j6 hb e)))).2.1
   refine Y1 (Wr (hc P2.objs.size fp pins s2 H2 _ s6 σ6 H6 _ I6 q6) (fun b s7 ⟨H7,I7,q7⟩=>?_) fun _ _ z=>Wl z)
   cases b with
   | false =>
    rw[if_neg XV] at q7
    exact XS ⟨rfl,RO I7 q7⟩
   | true =>
    rw[if_pos rfl] at q7
    refine Y1 (Y1 (Wr (he P2.objs.size fp pins s2 H2 _ s7 σ6 H7 _ I7 q7) (fun yv s8 ⟨v8,H8,I8,r8,ys,hys,hlen,q8⟩=>?_) fun _ _ z=>Wl z))
    refine Y1 (Wr (jj (X:=yH X N scope cl y P2.objs.size fp pins s2 H2) _ s8 σ6 H8 (.ref s2.heap.objs.size) [v8] (.ref s2.heap.objs.size) [yv] (fun _ H9=>N' σ6 H9) I8 rfl (.cons r8 .nil) ⟨_,ys,v8,rfl,rfl,hys,hlen,q8⟩) (fun _ s9 ⟨v9,H9,I9,_,q9⟩=>?_) fun _ _ z=>Wl z)
    exact XS (XS ⟨rfl,RO I9 q9⟩)
 exact SU (loop _ rfl) (T.self _ 0 _ _ _ st0 (loop _ rfl))
end
section
variable {X:Cx}{K:X8}
theorem zed (hK:X.K=K)(hc:X.calm=true):yQ X (.builtin "any") (fun xs H Q=>∃(l:Addr) (bs:List Bool),xs=[.ref l]/\SqL K H l (bs.map V.bl)/\Q (.bl (bs.any id)) H):=by
 subst hK
 exact zgd hc
theorem zgg {tg l:Expr}{tl:TE}(hK:X.K=K)(hl:PE X l tl):PI X tg l (znW K tl):=by
 subst hK
 exact zU hl
end
def PEp (X:Cx)(e:Expr)(t:TE):Prop :=
 ∀(pins:List (Addr×Obj)) (s:X5) (σ:St) (H:Hp) (Q:VK),Inv X pins σ H s->0<s.toks->t σ H Q->Xa (Xf X.prog X.w) X.A (eval e X.env) (EP X pins σ Q) X.xe s
def zpY (X:Cx)(st:List Stmt)(t:TS):Prop :=
 ∀(pins:List (Addr×Obj)) (s:X5) (σ:St) (H:Hp) (D:Ends),Inv X pins σ H s->0<s.toks->t D σ H->Xa (Xf X.prog X.w) X.A (execs st X.env) (SP X pins D) X.xe s
section
variable {X:Cx}
theorem zan {i:Nat}{x:Str}{pos:Pos}{v:V}{pins:List (Addr×Obj)}{s:X5}{σ:St}{H:Hp}{Q:X9->X5->Prop}(hN:X.N[i]?=some x)(hv:Vis X.env.scope x)(hd:(x==("__debug__":Str))=false)(hcd:(x==("__classdict__":Str))=false)
  (I:Inv X pins σ H s) (e:σ[i]?=some (some v)) (q:∀u,RelV v u->Q u s):Xa (Xf X.prog X.w) X.A (eval (.Name x pos) X.env) Q X.xe s:=by
 obtain⟨m,hn,hl⟩:=I.loc
 obtain⟨u,r,l⟩:=hl i x v hN e hv
 have fin:Q u s:=q u r
 rcases l with ⟨hk,hm⟩ | ⟨hk,c,hc,hcell⟩
 ·exact Sc (Pu I.ok.kind hk hn hm fin) hd
 ·rcases hk with hk | hk
  ·exact Sc (Pe I.ok.kind hk hc hcell fin) hd
  ·exact Sc (Pd I.ok.kind hk hc hcell fin hcd) hd
def zpZ (i:Nat)(y z:Str):TE:=fun σ H Q=>∃v,σ[i]?=some (some v)/\∃t:Str,v=.str t/\t.length<=1000000/\Q (.str (PySem.Txt.replace t y z)) H
theorem zmX (i:Nat){x y z:Str}{p apos cpos p1 p2:Pos}{j1 j2:Nat}(hyz:(y==z)=false)(hz:z.length<=14)(hN:X.N[i]?=some x:=by rfl)(hv:Vis X.env.scope x:=by first | exact XM rfl | exact VF (XM rfl) | exact VF (VF rfl))(hd:(x==("__debug__":Str))=false:=by decide)(hcd:(x==("__classdict__":Str))=false:=by decide)
  (hbase:attributeBase (.Name x p) "replace" X.env (eval (.Name x p) X.env)=eval (.Name x p) X.env:=by rfl)
  (hfew:((RI cpos (Wc [.Constant (.str y) j1 p1,.Constant (.str z) j2 p2] X.env)).all (fun x=>!x.1)&&(backToKw cpos (keywordEach [] X.env)).all (fun x=>x.1.isSome)
   && decide (([.Constant (.str y) j1 p1,.Constant (.str z) j2 p2]:List Expr).length+([]:List OF).length+(if ([]:List OF).isEmpty then 0 else 1)<30))=true:=by rfl)
  (hline:(apos.endLine==cpos.line)=true:=by rfl) :
  PEp X (.Call (.Attribute (.Name x p) "replace" apos) [.Constant (.str y) j1 p1,.Constant (.str z) j2 p2] [] cpos) (zpZ i y z):=by
 intro pins s σ H Q I pos h
 obtain⟨v,e,t,rfl,ht,q⟩:=h
 refine Q1 hbase hfew hline rfl (zan hN hv hd hcd I e fun u r=>?_)
 obtain⟨tk,rfl⟩:=r
 refine⟨"str","str.replace",F.plainAttrs_str,F.slot_str_replace,F.type_str_replace,Rj _ _ _,(fun a e=>by cases e),?_⟩
 have hs:Wc [.Constant (.str y) j1 p1,.Constant (.str z) j2 p2] X.env=[(false,eval (.Constant (.str y) j1 p1) X.env),(false,eval (.Constant (.str z) j2 p2) X.env)]:=rfl
 rw[hs]
 refine QR rfl (Pr ?_)
 show Xa _ _ (spliced ((false,eval (.Constant (.str y) j1 p1) X.env)::RI cpos [(false,eval (.Constant (.str z) j2 p2) X.env)])) _ _ s
 refine R5 (Tu ?_)
 show Xa _ _ (spliced ((false,eval (.Constant (.str z) j2 p2) X.env)::RI cpos [])) _ _ _
 refine R5 (Tu ?_)
 refine Calls.spliced_nil ?_
 exact PySem.SC.replaceW (by show s.toks≠0;lia) (by show s.toks+1≠0;lia) (by show s.toks≠s.toks+1;lia) hyz (by lia) hz fun t' k=>⟨.str _,H,I.tok k,⟨_,rfl⟩,q⟩
theorem zmY {op:OA}{r:R2}(i:Nat){x:Str}{p pos:Pos}{b:Expr}{tb:TE}(ho:OpR X (UC op) r)(hb:PEp X b tb)(hN:X.N[i]?=some x:=by rfl)(hv:Vis X.env.scope x:=by first | exact XM rfl | exact VF (XM rfl) | exact VF (VF rfl))(hd:(x==("__debug__":Str))=false:=by decide)(hcd:(x==("__classdict__":Str))=false:=by decide) :
  PEp X (.BinOp (.Name x p) op b pos) (tOp r (zoq i) tb):=by
 intro pins s σ H Q I pos h
 obtain⟨v,e,h⟩:=h
 refine wpAny_BinOp (zan hN hv hd hcd I e fun u ru=>?_)
 exact thn (hb pins s σ H _ I pos h) fun u2 s2 ⟨y,H2,I2,r2,q2⟩=>ho pins s2 σ H2 v y u u2 Q I2 ru r2 q2
theorem zlh {i:Nat}{x:Str}{e:Expr}{te:TE}{pos pos':Pos}{rest:List Stmt}{u:TS}(hN:X.N.Nodup)(hi:X.N[i]?=some x)(hx:Loc X.env.scope x)(he:PEp X e te)(hr:PSs X rest u)(hs:Pf e (some (.Name x pos')) pos.line X.env=pure false:=by rfl)(hf:X.fn x=true\/X.env.scope.names.lookup x=some .local:=by first | exact .inl rfl | exact .inr rfl | assumption) :
  zpY X (.Assign [.Name x pos'] e pos::rest) (zot (zmK te (Q9 i)) u):=by
 intro pins s σ H D I ps h
 refine TV (wpAny_Assign_Name (thn (he pins s σ H _ I ps h) fun v s1 ⟨y,H1,I1,r1,q1⟩=>?_) hs)
 refine zcE I1 hN hi hx r1 (fun s2 I2=>?_) hf
 exact hr pins s2 _ H1 D I2 q1
def zqY (i:Nat)(c:Str)(tb tr tp:TS):TS:=fun D σ H=>∃v,σ[i]?=some (some v)/\∃t:Str,v=.str t/\if (t==c)=true then zot tb tr D σ H else tp D σ H
theorem zmZ (i:Nat){x c:Str}{p p1 p2 pos:Pos}{j:Nat}{body rest:List Stmt}{tb tr tp:TS}(hb:PSs X body tb)(hr:PSs X rest tr)(hp:zpY X rest tp)(hN:X.N[i]?=some x:=by rfl)(hv:Vis X.env.scope x:=by first | exact XM rfl | exact VF (XM rfl) | exact VF (VF rfl))(hd:(x==("__debug__":Str))=false:=by decide)(hcd:(x==("__classdict__":Str))=false:=by decide) :
  PSs X (.If (.Compare (.Name x p) [.Eq] [.Constant (.str c) j p1] p2) body [] pos::rest) (zqY i c tb tr tp):=by
 intro pins s σ H D I h
 obtain⟨v,e,t,rfl,h⟩:=h
 refine TV (wpAny_If (PV (zan hN hv hd hcd I e fun u r=>?_) (z9 _)))
 obtain⟨tk,rfl⟩:=r
 refine Tu ?_
 refine PyProof.Rows.eq_str (V2 ?_)
 have I2:=I.tok (s.toks+1)
 cases hc:(t==c) with
 | true =>
  rw[hc,if_pos rfl] at h
  refine thn (hb pins _ σ H _ I2 h) fun f s1 q=>?_
  cases f with
  | next =>
   obtain⟨σ',H',I',q⟩:=q
   exact hr pins s1 σ' H' D I' q
  | ret v=>exact q
  | brk=>exact q
  | cont=>exact q
 | false =>
  rw[hc,if_neg XV] at h
  exact Sr (hp pins _ σ H D I2 (Uo _) h)
theorem ze7:MtR X "str.replace" (fun x xs H Q=>∃t y z,x=.str t/\xs=[.str y,.str z]/\(VY t y 0 t.length (t.length+1)).isEmpty=true/\Q (.str t) H):=by
 intro pins s σ H x xs v us Q I rx rv h
 obtain⟨t,y,z,rfl,rfl,ho,q⟩:=h
 obtain⟨tk,rfl⟩:=rx
 obtain⟨u1,u2,rfl,⟨k1,rfl⟩,⟨k2,rfl⟩⟩:=rv.two
 have hc:((VY t y 0 t.length (t.length+1)).isEmpty || (y.length==0&&z.length==0))=true:=by rw[ho];rfl
 refine call_gives F.slot_str_replace (Rj _ _ _) F.entry_str_replace (F.args_str_replace_3 _ _ _) (gives_str_replace t y z tk k1 k2 fun h=>absurd (hc.symm.trans h) (by decide)) ?_
 rw[if_pos hc]
 exact⟨.str t,H,I,⟨_,rfl⟩,q⟩
theorem zgh:MtM X "list.count" (fun x vs H Q=>∃(l:Addr) (ts:List Str) (y:Str),x=.ref l/\vs=[.str y]/\H l=some (.lst (ts.map V.str))/\Q (.int ((ts.countP fun t=>t==y:Nat):Int)) H):=by
 intro pins s σ H x vs v us Q I rx rv h
 obtain⟨l,ts,y,rfl,rfl,hH,q⟩:=h
 cases rx
 obtain⟨u,rfl,t,rfl⟩:=rv.one
 obtain⟨z,its,n,r,hl,e⟩:=I.lstM hH
 have hv:∃f:X9->Bool,(∀w∈its,∃a k,w=.str a k/\f w=(a==y))/\its.countP f=ts.countP fun t=>t==y:=by
  refine⟨fun w=>match w with | .str a _=>a==y | _=>false,?_⟩
  clear hl e z hH q
  generalize ew:ts.map V.str=ws at r
  induction r generalizing ts with
  | nil =>
   cases ts with
   | nil=>exact⟨(fun _ h=>nomatch h),rfl⟩
   | cons a b=>cases ew
  | cons r1 r2 ih =>
   cases ts with
   | nil=>cases ew
   | cons a b =>
    rw[Xb] at ew
    obtain⟨e1,e2⟩:=List.cons.inj ew
    subst e1
    obtain⟨k,rfl⟩:=r1
    obtain⟨h1,h2⟩:=ih b e2
    refine⟨fun w hw=>?_,?_⟩
    ·rcases XB.mp hw with rfl | hw
     ·exact⟨a,k,rfl,rfl⟩
     ·exact h1 w hw
    ·rw[WH,WH,h2]
 obtain⟨f,hf,hc⟩:=hv
 refine Sb F.slot_list_count ⟨_,e,rfl⟩ F.entry_list_count (F.args_list_count_2 _ _) (PySem.SeqAt.list_countAt l its.toArray n none #[] (.str y t) f) ⟨e,fun w hw=>?_,?_⟩
 ·obtain⟨a,k,rfl,h2⟩:=hf w (by simpa using hw)
  rw[h2]
  exact PySem.SeqAt.EqAt.str_str a k y t
 ·refine⟨.int _,H,I.tok _,⟨_,rfl⟩,?_⟩
  show Q (.int ((its.countP f:Nat):Int)) H
  rw[hc]
  exact q
end
theorem Yx {α:Type}(d:α)(xs:List α):((W9 xs.length).map fun i=>xs.getD i d)=xs:=by
 refine List.ext_getElem (by simp) fun i h1 h2=>?_
 simp[h2]
theorem zjc (p:Int×Int):lt2 p p=false:=by
 unfold lt2
 rw[if_pos rfl,decide_eq_false (by lia)]
theorem zcr {p q:Int×Int}(h:p≠q):lt2 q p=!lt2 p q:=by
 unfold lt2
 obtain⟨a,b⟩:=p
 obtain⟨c,d⟩:=q
 simp only
 by_cases e:a=c
 ·subst e
  rw[if_pos rfl,if_pos rfl]
  have hb:b≠d:=fun z=>h (by rw[z])
  by_cases l:b<d
  ·rw[decide_eq_true l,decide_eq_false (by lia)]
   rfl
  ·rw[decide_eq_false l,decide_eq_true (by lia)]
   rfl
 ·rw[if_neg e,if_neg (fun z=>e z.symm)]
  by_cases l:a<c
  ·rw[decide_eq_true l,decide_eq_false (by lia)]
   rfl
  ·rw[decide_eq_false l,decide_eq_true (by lia)]
   rfl
theorem zhO {p q r:Int×Int}(h1:lt2 p q=true)(h2:lt2 q r=true):lt2 p r=true:=by
 unfold lt2 at *
 obtain⟨a,b⟩:=p
 obtain⟨c,d⟩:=q
 obtain⟨e,f⟩:=r
 simp only at *
 by_cases e1:a=c
 ·subst e1
  rw[if_pos rfl,decide_eq_true_eq] at h1
  by_cases e2:a=e
  ·subst e2
   rw[if_pos rfl,decide_eq_true_eq] at h2 ⊢
   lia
  ·rw[if_neg e2] at h2 ⊢
   exact h2
 ·rw[if_neg e1,decide_eq_true_eq] at h1
  by_cases e2:c=e
  ·subst e2
   rw[if_neg e1,decide_eq_true_eq]
   exact h1
  ·rw[if_neg e2,decide_eq_true_eq] at h2
   rw[if_neg (by lia),decide_eq_true_eq]
   lia
def Up2 (ps:List (Int×Int)):Prop:=ps.Pairwise fun p q=>lt2 p q=true
section
variable {X:Cx}
end
end L2
namespace PySem.SeqAt
open L2 AutoSeq1 MeetsSeq MeetsSeq2 MeetsSeq3
def zao (A:WG)(s:X5)(y x:X9)(b:Bool):Prop:=∀(prog:Xy) (w:W6) (E:X9->X5->Prop) (Q:X9->X5->Prop),Q (.bool b) s->Xa (Xf prog w) A (richCompare .Lt y x) Q E s
theorem zao.int_int {A:WG}{s:X5}(a:Int)(t:Tok)(b:Int)(u:Tok):zao A s (.int a t) (.int b u) (decide (a<b)):=fun prog w E Q h=>wpAny_lt_int h
theorem zhP (l b:Addr)(x y x2 y2:Int)(t u t2 u2:Tok)(n n2:Nat)(dd dd2:Option Addr)(sl sl2:Array (Option X9)) :
  Meets (UG.«tuple.__lt__» ⟨[.ref l,.ref b],[]⟩)
   (fun _ R s=>s.heap.get? l=some { cls:=.type "tuple",dict:=dd,data:=.seq #[.int x t,.int y u] n,slots:=sl }/\s.heap.get? b=some { cls:=.type "tuple",dict:=dd2,data:=.seq #[.int x2 t2,.int y2 u2] n2,slots:=sl2 } /\
    R (.ok (.ret (.bool (lt2 (x,y) (x2,y2))))) s) :=
 .of_wp fun prog w A R s h=>by
  obtain⟨hp1,g1,d1,tk1,os1⟩:=s
  obtain⟨hL,hB,h⟩:=h
  have fT:=sub_tuple_tuple
  wp_walk using Wh hL,Wh hB
  refine EqAt.int_int x t x2 t2 prog w _ _ ?_
  unfold lt2 at h
  by_cases e:x=x2
  ·have e':(x==x2)=true:=by simpa using e
   rw[e']
   rw[if_pos e] at h
   wp_walk
   refine EqAt.int_int y u y2 u2 prog w _ _ ?_
   by_cases e2:y=y2
   ·have e2':(y==y2)=true:=by simpa using e2
    rw[e2']
    rw[decide_eq_false (by show ¬ y<y2;lia)] at h
    wp_walk
    exact⟨_,rfl,h⟩
   ·have e2':(y==y2)=false:=by simpa using e2
    rw[e2']
    simp only[Bool.not_false,if_true]
    refine Y1 (Ur (Y1 (zao.int_int y u y2 u2 prog w _ _ ?_)))
    wp_walk
    exact⟨_,rfl,h⟩
  ·have e':(x==x2)=false:=by simpa using e
   rw[e']
   rw[if_neg e] at h
   simp only[Bool.not_false,if_true]
   refine Y1 (Ur (Y1 (zao.int_int x t x2 t2 prog w _ _ ?_)))
   wp_walk
   exact⟨_,rfl,h⟩
theorem zao.pairs {A:WG}{s:X5}{v v':X9}{p q:Int×Int}(hv:zM s.heap v p)(hv':zM s.heap v' q)(hu:A.units<U6):zao A s v v' (lt2 p q):=fun prog w E Q h=>by
 obtain⟨a,⟨cls,dd,data,sl⟩,n,t,u,rfl,e1,c1,d1⟩:=hv
 obtain⟨a',⟨cls2,dd2,data2,sl2⟩,n',t',u',rfl,e1',c1',d1'⟩:=hv'
 simp only at c1 d1 c1' d1'
 subst c1 d1 c1' d1'
 exact richCompare_meets_room (op:=.Lt) ⟨_,e1,rfl⟩ ⟨_,e1',rfl⟩ F.slot_tuple_lt F.entry_tuple_lt (F.args_tuple_lt_2 _ _) (zhP a a' p.1 p.2 q.1 q.2 t u t' u' n n' dd dd2 sl sl2)
  ⟨e1,e1',show OY (lt2 p q)≠Value.notImplemented/\Q (.bool (lt2 p q)) s from ⟨(fun x=>nomatch x),h⟩⟩ hu
theorem zab {h:Heap}{v:X9}{p:Int×Int}(hv:zM h v p):∃as,Reads h v (.tuple [.int p.1,.int p.2]) as:=by
 obtain⟨a,o,n,t,u,rfl,e1,c1,d1⟩:=hv
 exact⟨_,.tuple e1 c1 d1 (.cons (.int _ _) (.cons (.int _ _) .nil))⟩
theorem zee (p q:Int×Int):W2 (.tuple [.int p.1,.int p.2]) (.tuple [.int q.1,.int q.2])=decide (p=q):=by
 obtain⟨a,b⟩:=p
 obtain⟨c,d⟩:=q
 show ((a==c)&&((b==d)&&true))=_
 by_cases h1:a=c
 ·by_cases h2:b=d
  ·subst h1 h2
   simp
  ·simp[h2]
 ·simp[h1]
end PySem.SeqAt
namespace L2
open PySem PySem.Spec PyProof.Rows PySem.W PySem.SeqAt
section
variable {X:Cx}{pins:List (Addr×Obj)}{σ:St}{H:Hp}{s:X5}
end
section
variable {X:Cx}
end
open PySem PySem.Spec PyProof.Rows
section
variable {κ:Type} [DecidableEq κ]
noncomputable def Ja (kvs:List (κ × V))(k:κ):Option V:=(kvs.find? fun kv=>decide (kv.1=k)).map (·.2)
noncomputable def putK (kvs:List (κ × V))(k:κ)(v:V):List (κ × V) :=
 if (kvs.any fun kv=>decide (kv.1=k))=true then kvs.map (fun kv=>if kv.1=k then (kv.1,v) else kv) else kvs++[(k,v)]
theorem j7 {p:κ × V}{r:List (κ × V)}{k:κ}(e:p.1=k):Ja (p::r) k=some p.2:=by simp[Ja,UW,e]
theorem j8 {p:κ × V}{r:List (κ × V)}{k:κ}(e:¬ p.1=k):Ja (p::r) k=Ja r k:=by simp[Ja,UW,e]
theorem zaO (k:κ):∀kvs:List (κ × V),(kvs.any fun kv=>decide (kv.1=k))=(Ja kvs k).isSome
 | []=>rfl
 | p::r=>by
  rw[SG]
  by_cases e:p.1=k
  ·simp only[j7 e,decide_eq_true e,Bool.true_or,Option.isSome_some]
  ·rw[j8 e,decide_eq_false e,Bool.false_or];exact zaO k r
theorem zgi (k j:κ)(y:V):∀kvs:List (κ × V),Ja (kvs.map fun kv=>if kv.1=k then (kv.1,y) else kv) j=(Ja kvs j).map fun x=>if j=k then y else x
 | []=>rfl
 | p::r=>by
  have ih:=zgi k j y r
  rw[Xb]
  by_cases h:p.1=k
  ·rw[if_pos h]
   by_cases e:p.1=j
   ·rw[j7 (p:=(p.1,y)) e,j7 e,Ug,if_pos (e.symm.trans h)]
   ·rw[j8 (p:=(p.1,y)) e,j8 e,ih]
  ·rw[if_neg h]
   by_cases e:p.1=j
   ·rw[j7 (p:=p) e,j7 e,Ug,if_neg (fun z=>h (e.trans z))]
   ·rw[j8 (p:=p) e,j8 e,ih]
theorem zef (k j:κ)(y:V):∀kvs:List (κ × V),Ja kvs k=none->Ja (kvs++[(k,y)]) j=if j=k then some y else Ja kvs j
 | [],_=>by
  by_cases e:k=j
  ·rw[if_pos e.symm];exact j7 (p:=(k,y)) e
  ·rw[if_neg (fun z=>e z.symm)];exact j8 (p:=(k,y)) e
 | p::r,hn=>by
  rw[Rw]
  have hk:¬ p.1=k:=fun z=>by rw[j7 z] at hn;cases hn
  rw[j8 hk] at hn
  have ih:=zef k j y r hn
  by_cases e:p.1=j
  ·rw[j7 e,j7 e,if_neg (fun z=>hk (e.trans z))]
  ·rw[j8 e,j8 e,ih]
theorem zgj (kvs:List (κ × V))(k j:κ)(y:V):Ja (putK kvs k y) j=if j=k then some y else Ja kvs j:=by
 unfold putK
 by_cases a:(kvs.any fun kv=>decide (kv.1=k))=true
 ·rw[if_pos a,zgi]
  rw[zaO] at a
  by_cases e:j=k
  ·obtain⟨x,hx⟩:=V4.mp a
   rw[if_pos e,e,hx,Ug,if_pos rfl]
  ·rw[if_neg e]
   cases Ja kvs j with
   | none=>rfl
   | some x=>rw[Ug,if_neg e]
 ·rw[if_neg a]
  refine zef k j y kvs ?_
  rw[zaO] at a
  cases q:Ja kvs k with
  | none=>rfl
  | some x=>rw[q] at a;exact(a rfl).elim
theorem zb0 (kvs:List (κ × V))(k:κ)(v:V):(putK kvs k v).length<=kvs.length+1:=by
 unfold putK
 split
 ·rw[ZB];lia
 ·rw[XZ,Xw,Uf];lia
theorem zcD.isSome_eq {o:Option V}{u:Option X9}(r:zcD o u):o.isSome=u.isSome:=by
 cases o with
 | none=>cases u with
  | none=>rfl
  | some _=>exact(show False from r).elim
 | some _=>cases u with
  | none=>exact(show False from r).elim
  | some _=>rfl
theorem KV.val {kvs:List (κ × V)}{vs:List (κ × X9)}(r:KV kvs vs)(k:κ):zcD (Ja kvs k) (Ph vs k):=by
 unfold KV at r
 induction r with
 | nil=>exact T0
 | @cons p q ps qs h t ih =>
  obtain⟨h1,h2⟩:=h
  by_cases e:p.1=k
  ·have e':q.1=k:=h1.symm.trans e
   have b:Ph (q::qs) k=some q.2:=by simp[Ph,UW,e']
   rw[j7 e,b];exact h2
  ·have e':¬ q.1=k:=fun z=>e (h1.trans z)
   have b:Ph (q::qs) k=Ph qs k:=by simp[Ph,UW,e']
   rw[j8 e,b];exact ih
theorem KV.any {kvs:List (κ × V)}{vs:List (κ × X9)}(r:KV kvs vs)(k:κ):(kvs.any fun kv=>decide (kv.1=k))=vs.any fun kv=>decide (kv.1=k):=by
 unfold KV at r
 induction r with
 | nil=>rfl
 | cons h t ih=>rw[SG,SG,ih,h.1]
theorem KV.repl {kvs:List (κ × V)}{vs:List (κ × X9)}(r:KV kvs vs)(k:κ){y:V}{u:X9}(ry:RelV y u) :
  KV (kvs.map fun kv=>if kv.1=k then (kv.1,y) else kv) (vs.map fun kv=>if kv.1=k then (kv.1,u) else kv):=by
 unfold KV at r ⊢
 induction r with
 | nil=>exact .nil
 | @cons p q ps qs h t ih =>
  rw[Xb,Xb]
  refine .cons ?_ ih
  obtain⟨h1,h2⟩:=h
  by_cases e:p.1=k
  ·rw[if_pos e,if_pos (h1.symm.trans e)];exact⟨h1,ry⟩
  ·rw[if_neg e,if_neg (fun z=>e (h1.trans z))];exact⟨h1,h2⟩
theorem KV.put {kvs:List (κ × V)}{vs:List (κ × X9)}(r:KV kvs vs)(k:κ){y:V}{u:X9}(ry:RelV y u):KV (putK kvs k y) (stored vs k u):=by
 unfold putK stored
 rw[r.any k]
 by_cases e:(vs.any fun kv=>decide (kv.1=k))=true
 ·rw[if_pos e,if_pos e];exact r.repl k ry
 ·rw[if_neg e,if_neg e];exact Paired.snoc r ⟨rfl,ry⟩
theorem KV.length {kvs:List (κ × V)}{vs:List (κ × X9)}(r:KV kvs vs):kvs.length=vs.length:=Paired.length r
end
theorem zli {P:Xy}{w:W6}{k:Key}{u:X9}(r:RelV (kV k) u):(qc P w).is k u=true:=by
 cases k with
 | inl i=>obtain⟨t,e⟩:=(show ∃t,u=Vy i t from r);subst e;exact zfW P w i t
 | inr x=>obtain⟨t,e⟩:=(show ∃t,u=OM x t from r);subst e;exact zfX P w x t
theorem zeg {P:Xy}{w:W6}:∀{ks:List Key} {us:List X9},Vals (ks.map kV) us->ItemsAre (qc P w) ks us
 | [],_,r=>by rw[Td] at r;cases r;exact .nil
 | k::ks,_,r=>by
  rw[Xb] at r
  cases r with
  | cons h t=>exact .cons (zli h) (zeg t)
abbrev KT (H:Hp):List (List Key×V)->List (List Key×Addr×X9)->Prop:=W0 fun p q=>p.1=q.1/\H q.2.1=some (.tup (p.1.map kV))/\RelV p.2 q.2.2
theorem KT.val {H:Hp}{kvs:List (List Key×V)}{xs:List (List Key×Addr×X9)}(r:KT H kvs xs)(k:List Key):zcD (Ja kvs k) ((OL xs k).map (·.2)):=by
 induction r with
 | nil=>exact T0
 | @cons p q ps qs h t ih =>
  obtain⟨h1,_,h2⟩:=h
  by_cases e:p.1=k
  ·have e':q.1=k:=h1.symm.trans e
   have b:OL (q::qs) k=some q.2:=by simp[OL,UW,e']
   rw[j7 e,b];exact h2
  ·have e':¬ q.1=k:=fun z=>e (h1.trans z)
   have b:OL (q::qs) k=OL qs k:=by simp[OL,UW,e']
   rw[j8 e,b];exact ih
theorem KT.repl {H:Hp}{kvs:List (List Key×V)}{xs:List (List Key×Addr×X9)}(r:KT H kvs xs)(k:List Key){y:V}{u:X9}(ry:RelV y u) :
  KT H (kvs.map fun kv=>if kv.1=k then (kv.1,y) else kv) (xs.map (putAt k u)):=by
 induction r with
 | nil=>exact .nil
 | @cons p q ps qs h t ih =>
  rw[Xb,Xb]
  refine .cons ?_ ih
  obtain⟨h1,h2,h3⟩:=h
  unfold putAt
  by_cases e:p.1=k
  ·rw[if_pos e,if_pos (h1.symm.trans e)];exact⟨h1,h2,ry⟩
  ·rw[if_neg e,if_neg (fun z=>e (h1.trans z))];exact⟨h1,h2,h3⟩
theorem KT.put {H:Hp}{kvs:List (List Key×V)}{xs:List (List Key×Addr×X9)}(r:KT H kvs xs)(k:List Key){b:Addr}{y:V}{u:X9}(hb:H b=some (.tup (k.map kV)))(ry:RelV y u) :
  KT H (putK kvs k y) (SI xs k b u):=by
 have e:(kvs.any fun kv=>decide (kv.1=k))=(OL xs k).isSome:=by
  rw[zaO,(r.val k).isSome_eq,Option.isSome_map]
 unfold putK SI
 rw[e]
 by_cases q:(OL xs k).isSome=true
 ·rw[if_pos q,if_pos q];exact r.repl k ry
 ·rw[if_neg q,if_neg q];exact Paired.snoc r ⟨rfl,hb,ry⟩
theorem KT.keeps {H H':Hp}{kvs:List (List Key×V)}{xs:List (List Key×Addr×X9)}(r:KT H kvs xs)(ht:∀b ys,H b=some (.tup ys)->H' b=some (.tup ys)):KT H' kvs xs :=
 Paired.mapP r fun _ _ z=>⟨z.1,ht _ _ z.2.1,z.2.2⟩
section
variable {P:Xy}{w:W6}{H:Hp}{h:Heap}{a:Addr}
theorem znY {u:HO}(ok:HOk P w H h)(e:Rd H a u):jn P w H h a u:=e.ok ok
theorem zlj {kvs:List (Key×V)}(ok:HOk P w H h)(e:Rd H a (.dK kvs)):kvs.length<=XU/\(a==T1)=false/\∃vs,KV kvs vs/\h.DictOf (qc P w) a vs :=
 show jn P w H h a (.dK kvs) from znY ok e
theorem zp0 {kvs:List (Key×V)}(ok:HOk P w H h)(e:H a=some (.dK kvs)):kvs.length<=XU/\(a==T1)=false/\∃vs,KV kvs vs/\h.DictOf (qc P w) a vs:=zlj ok (.inl e)
theorem ze8 {ks:List Key}(ok:HOk P w H h)(e:H a=some (.tup (ks.map kV))):(VV (qc P w)).is h ks a:=by
 obtain⟨_,its,r,o,h1,h2,n,h3⟩:=(show jn P w H h a (.tup (ks.map kV)) from ok a _ e)
 exact⟨o,its.toArray,n,h1,h2,h3,by simpa using zeg r⟩
theorem zlk {kvs:List (List Key×V)}(ok:HOk P w H h)(e:Rd H a (.dT kvs)):kvs.length<=XU/\(a==T1)=false /\
  ∃xs,KT H kvs xs/\h.DictOfH (VV (qc P w)) a xs:=by
 obtain⟨z,y,xs,r,o,es,ep,h1,h2,h3,h4,h5⟩:=(show jn P w H h a (.dT kvs) from znY ok e)
 refine⟨z,y,xs,r,o,es,ep,h1,h2,h3,h4,fun x hx=>?_,h5⟩
 have all:∀{l:List (List Key×V)} {m:List (List Key×Addr×X9)},KT H l m->∀x∈m,(VV (qc P w)).is h x.1 x.2.1:=by
  intro l m q
  induction q with
  | nil=>intro x hx;exact nomatch hx
  | @cons p q ps qs hq t ih =>
   intro x hx
   rcases XB.mp hx with e | hx
   ·subst e
    exact ze8 ok (by rw[<- hq.1];exact hq.2.1)
   ·exact ih x hx
 exact all r x hx
theorem zp1 {kvs:List (List Key×V)}(ok:HOk P w H h)(e:H a=some (.dT kvs)):kvs.length<=XU/\(a==T1)=false /\
  ∃xs,KT H kvs xs/\h.DictOfH (VV (qc P w)) a xs:=zlk ok (.inl e)
end
def zj5 (H:Hp)(a:Addr)(y:V)(r:Option V):Prop :=
 (∃kvs k,Rd H a (.dK kvs)/\y=kV k/\r=Ja kvs k)\/∃kvs k b,Rd H a (.dT kvs)/\y=.ref b/\H b=some (.tup (k.map kV))/\r=Ja kvs k
def zll (H:Hp)(a:Addr)(y v:V)(H':Hp):Prop :=
 (∃kvs k,H a=some (.dK kvs)/\y=kV k/\kvs.length<XU/\H'=upd H a (.dK (putK kvs k v))) \/
 ∃kvs k b,H a=some (.dT kvs)/\y=.ref b/\H b=some (.tup (k.map kV))/\kvs.length<XU/\H'=upd H a (.dT (putK kvs k v))
theorem zj5.t {H:Hp}{a b:Addr}{kvs:List (List Key×V)}{k:List Key}(e:H a=some (.dT kvs))(eb:H b=some (.tup (k.map kV))):zj5 H a (.ref b) (Ja kvs k):=.inr ⟨kvs,k,b,.inl e,rfl,eb,rfl⟩
theorem zll.t {H:Hp}{a b:Addr}{kvs:List (List Key×V)}{k:List Key}{v:V}(e:H a=some (.dT kvs))(eb:H b=some (.tup (k.map kV)))(hl:kvs.length<XU) :
  zll H a (.ref b) v (upd H a (.dT (putK kvs k v))):=.inr ⟨kvs,k,b,e,rfl,eb,hl,rfl⟩
section
variable {X:Cx}{pins:List (Addr×Obj)}{σ:St}{H:Hp}{s:X5}{a:Addr}{y v:V}{u r:X9}{o:Option V}{A:WG}{E:X9->X5->Prop}
theorem Inv.big (I:Inv X pins σ H s):T1<s.heap.objs.size:=by
 have h:Xx<s.heap.objs.size:=(I.mod.glob.keeps I.bk).lt
 exact Si (by decide) h
theorem zj6 {Q:X9->X5->Prop}(hu:A.units+1<U6)(I:Inv X pins σ H s)(g:zj5 H a y (some v))(ry:RelV y u)(h:∀w' s',Inv X pins σ H s'->RelV v w'->Q w' s') :
  Xa (Xf X.prog X.w) A (Pk (.ref a) u) Q E s:=by
 rcases g with ⟨kvs,k,e,ey,l⟩ | ⟨kvs,k,b,e,ey,eb,l⟩
 ·subst ey
  obtain⟨z,hd,vs,rel,dd⟩:=zlj I.hok e
  obtain⟨w',hw,rw'⟩:=zcD.some_of (v:=v) (o:=Ph vs k) (by rw[l];exact rel.val k)
  exact wpAny_getItem_of (zli ry) dd.mapOf hw (h w' _ (I.tok _) rw')
 ·subst ey
  cases (show u=WE b from ry)
  obtain⟨z,hd,xs,rel,dd⟩:=zlk I.hok e
  obtain⟨w',hw,rw'⟩:=zcD.some_of (v:=v) (o:=(OL xs k).map (·.2)) (by rw[l];exact rel.val k)
  obtain⟨p,hp,hp2⟩:=VT.mp hw
  refine wpAny_getItem_heap (tupleKind_room_in1 hu) (ze8 I.hok eb) dd hp ?_
  rw[hp2]
  exact h w' _ (I.tok _) rw'
theorem zjd {h':Heap}{t':Nat}{ob:HO}(I:Inv X pins σ H s)(mu:Mut (H a))(hs:VD a s.heap h')(he:∃q,h'.get? a=some q)(new:jn X.prog X.w (upd H a ob) h' a ob) :
  Inv X pins σ (upd H a ob) { s with heap:=h',toks:=t' } :=
 I.write (x:=a) (e:=a) mu (.inl rfl) (fun b q hb z=>(hs.2 b hb).trans z) he new
theorem zoQ {P:Xy}{w:W6}{H':Hp}{h':Heap}{kvs:List (Key×V)}{vs:List (Key×X9)}(z:kvs.length<=XU)(hd:(a==T1)=false)(rel:KV kvs vs)(dd:h'.DictOf (qc P w) a vs) :
  jn P w H' h' a (.dK kvs):=⟨z,hd,vs,rel,dd⟩
theorem zj7 {H':Hp}{Q:Unit->X5->Prop}(hu:A.units+1<U6)(I:Inv X pins σ H s)(g:zll H a y v H')(ry:RelV y u)(rv:RelV v r)(h:∀s',Inv X pins σ H' s'->Q () s') :
  Xa (Xf X.prog X.w) A (setItem (.ref a) u r) Q E s:=by
 rcases g with ⟨kvs,k,e,ey,l,eH⟩ | ⟨kvs,k,b,e,ey,eb,l,eH⟩
 ·subst ey eH
  obtain⟨z,hd,vs,rel,dd⟩:=zp0 I.hok e
  have hz:vs.length<=XU:=by rw[<- rel.length];exact z
  have hl:(putK kvs k v).length<=XU:=by have:=zb0 kvs k v;lia
  refine wpAny_setItem_pairs (hsz:=hz) (zli ry) dd fun h' dd' hs=>h _ ?_
  have he:∃q,h'.get? a=some q:=let ⟨q,_,_,hq,_⟩:=dd';⟨q,hq⟩
  exact zjd I (by rw[e];exact T0) hs he (zoQ hl hd (rel.put k rv) dd')
 ·subst ey eH
  cases (show u=WE b from ry)
  obtain⟨z,hd,xs,rel,dd⟩:=zp1 I.hok e
  have hz:xs.length<=XU:=by rw[<- Paired.length rel];exact z
  have hl:(putK kvs k v).length<=XU:=by have:=zb0 kvs k v;lia
  refine wpAny_setItem_heap (hsz:=hz) (tupleKind_room_in1 hu) (ze8 I.hok eb) dd fun h' dd' hs=>h _ ?_
  obtain⟨q,es,ep,hq,h2,h3,h4,_,h5⟩:=dd'
  refine zjd I (by rw[e];exact T0) hs ⟨q,hq⟩ ⟨hl,hd,_,(rel.put k eb rv).keeps fun c ys ec=>?_,q,es,ep,hq,h2,h3,h4,h5⟩
  rw[zu (zfY ec e (fun z=>nomatch z))]
  exact ec
end
section
variable {X:Cx}{pins:List (Addr×Obj)}{σ:St}{H:Hp}{s:X5}{a:Addr}{kvs:List (Key×V)}{k:Key}{u:X9}{A:WG}{E:X9->X5->Prop}
end
def zp2 (i:Expr):Prop:=∀ov iv,PH i false ov iv=operate [ov,iv] (Pk ov iv)
theorem zm0 {prog:Xy}{w:W6}{A:WG}{E:X9->X5->Prop}{s:X5}{env:Env}{value slice:Expr}{pos:Pos}{T id:String}{Q:X9->X5->Prop}
  (hl:OW (.type T) "__getitem__"=pure (some (.builtin id))) (hs:zp2 slice)
  (h:Xa (Xf prog w) A (eval value env) (fun o s₁=>Xa (Xf prog w) A (eval slice env) (fun i s₂=>s₂.TypeIs o T/\Xa (Xf prog w) A (Pk o i) Q E s₂) E s₁) E s) :
  Xa (Xf prog w) A (eval (.Subscript value slice pos) env) Q E s:=by
 refine Subscript_ (Wr h (fun o s₁ h₁=>Wr h₁ (fun i s₂ h₂=>?_) fun _ _ x=>x) fun _ _ x=>x)
 obtain⟨hT,h₂⟩:=h₂
 unfold O8
 refine Y1 ?_
 rw[getitemInPython_of_ne hT.not_modules]
 refine Y1 (P0 hT hl ?_)
 have fin:Xa (Xf prog w) A (PH slice false o i) (fun r s₃=>Xa (Xf prog w) A (letTemporaryGo value o r >>= fun _=>pure r) Q E s₃) E s₂:=by
  rw[hs o i]
  exact wpAny_operating (Wr h₂ (fun r s₃ h₃=>Y1 (wpAny_letTemporaryGo (XS h₃))) fun _ _ x=>x)
 first
  | exact XS (Y1 fin)
  | exact Y1 (XS (Y1 fin))
  | exact Y1 fin
theorem zgk {X:Cx}{pins:List (Addr×Obj)}{σ:St}{H:Hp}{s:X5}{a:Addr}{y:V}{o:Option V}(I:Inv X pins σ H s)(g:zj5 H a y o):s.TypeIs (.ref a) "dict":=by
 rcases g with ⟨kvs,k,e,_,_⟩ | ⟨kvs,k,b,e,_,_,_⟩
 ·obtain⟨_,_,vs,_,dd⟩:=zlj I.hok e
  exact dd.typeIs
 ·obtain⟨_,_,xs,_,dd⟩:=zlk I.hok e
  exact dd.typeIs
def zp3 (td ty:TE):TE:=fun σ H Q=>td σ H fun x H1=>ty σ H1 fun y H2=>∃a v,x=.ref a/\zj5 H2 a y (some v)/\Q v H2
def zp4 (td ty tv:TE):TS:=fun D σ H=>tv σ H fun v H1=>td σ H1 fun x H2=>ty σ H2 fun y H3=>∃a H4,x=.ref a/\zll H3 a y v H4/\D.nx σ H4
section
variable {X:Cx}{o i e value:Expr}{pos pos' tpos:Pos}{td ty tv:TE}
theorem zm1 (hu:X.A.units+1<U6)(ho:PE X o td)(hi:PE X i ty)(hs:zp2 i):PE X (.Subscript o i pos) (zp3 td ty):=by
 intro pins s σ H Q I h
 refine zm0 PySem.F.slot_dict_getitem.lookup hs (thn (ho pins s σ H _ I h) fun u s1 ⟨x,H1,I1,rx,q1⟩=>thn (hi pins s1 σ H1 _ I1 q1) fun iv s2 ⟨y,H2,I2,ry,a,v,ex,g,q2⟩=>?_)
 subst ex
 obtain rfl:u=WE a:=rx
 exact⟨zgk I2 g,zj6 hu I2 g ry fun w' s3 I3 rw'=>⟨v,H2,I3,rw',q2⟩⟩
theorem zm2 (hu:X.A.units+1<U6)(ho:PE X o td)(hi:PE X i ty)(hv:PE X value tv)(hs:Pf value (some (.Subscript o i pos')) pos.line X.env=pure false) :
  PS X (.Assign [.Subscript o i pos'] value pos) (zp4 td ty tv):=by
 intro pins s σ H D I h
 refine wpAny_Assign_Subscript (thn (hv pins s σ H _ I h) fun r s1 ⟨v,H1,I1,rv,q1⟩=>thn (ho pins s1 σ H1 _ I1 q1) fun u s2 ⟨x,H2,I2,rx,q2⟩=>thn (hi pins s2 σ H2 _ I2 q2) fun iv s3 ⟨y,H3,I3,ry,a,H4,ex,g,q3⟩=>?_) hs
 subst ex
 obtain rfl:u=WE a:=rx
 exact zj7 hu I3 g ry rv fun s4 I4=>⟨σ,H4,I4,q3⟩
end
section
variable {X:Cx}{pos:Pos}
end
section
variable {X:Cx}{pins:List (Addr×Obj)}{σ:St}{H:Hp}{s:X5}{a:Addr}{y d:V}{u r:X9}{o:Option V}{A:WG}{E:X9->X5->Prop}
end
section
variable {X:Cx}{o e f:Expr}{apos cpos:Pos}{td ty tx:TE}
end
section
variable {X:Cx}{pins:List (Addr×Obj)}{σ:St}{H:Hp}{s:X5}{a:Addr}{kvs:List (Key×V)}{A:WG}{E:X9->X5->Prop}
end
section
variable {X:Cx}{pins:List (Addr×Obj)}{σ:St}{H:Hp}{s:X5}{a:Addr}{y:V}{u:X9}{A:WG}{E:X9->X5->Prop}
end
theorem zj8:OW (.type "list") "keys"=pure none:=by rw[So,T9];kernel_rfl
theorem zj9:OW (.type "list") "__getattr__"=pure none:=by rw[So,T9];kernel_rfl
theorem zcN:isSubtype (.type "AttributeError") (.type "AttributeError")=pure true:=by rw[PB];kernel_rfl
theorem zlm (args:List X9):ownMembersOf (.type "AttributeError") args=#[unsetMember,unsetMember]:=rfl
theorem zhQ:((Manifest.find? "AttributeError").elim false fun t=>t.mro.contains "StopIteration" || t.mro.contains "SystemExit")=false:=by decide +kernel
section
variable {prog:Xy}{w:W6}{A:WG}{E:X9->X5->Prop}{h:Heap}{g:Array Sz}{d:Drawn}{t:Nat}{os:OsState}{a:Addr}{its:Array X9}{n:Nat}
theorem zln {tk:Tok}{Q:Fin->X5->Prop}(hx:h.get? a=some { cls:=.type "list",dict:=none,data:=.seq its n,slots:=#[] })(hh:A.handled=none)
  (he:∀h' t' e,(∀b o',h.get? b=some o'->h'.get? b=some o')->(⟨h',g,d,t',os⟩:X5).TypeIs (.ref e) "AttributeError"->E (.ref e) ⟨h',g,d,t',os⟩) :
  Xa (Xf prog w) A (UG.«object.__getattribute__» ⟨[.ref a,.str "keys" tk],[]⟩) Q E ⟨h,g,d,t,os⟩:=by
 have hT:(⟨h,g,d,t,os⟩:X5).TypeIs (.ref a) "list":=⟨_,hx,rfl⟩
 have f4:=zj8
 have f5:=zcN
 repeat (any_goals (first | assumption | wp_step))
 unfold raiseAttrError
 refine Y1 (wpAny_mkStr (Y1 ?_) (by decide +kernel))
 unfold newExc newTuple
 refine Y1 (VR ?_)
 refine Y1 (m:=R9 _ _) (OJ (a:=Us) (by simp only[R9,zhQ];rfl) ?_)
 rw[zlm]
 refine VR ?_
 refine Y1 (wpAny_mkText ?_)
 refine Y1 ?_
 unfold noteAttr lacksNameAndObj
 repeat (any_goals (first | assumption | wp_step))
 unfold raiseNew
 refine Y1 (wpAny_handled ?_)
 rw[hh]
 refine Y1 (XS (wpAny_throw ?_))
 dsimp only
 refine he _ _ _ (fun b o' hb=>?_) ?_
 ·rw[(UF ..).2 b (Xk ?_)]
  ·exact XY _ (XY _ hb)
  ·rw[Vj]
   exact WJ (XF hb)
 ·refine⟨_,VQ _ (W5 _ rfl) rfl,rfl⟩
theorem zm3 {tk:Tok}{R:Result->X5->Prop}(hx:h.get? a=some { cls:=.type "list",dict:=none,data:=.seq its n,slots:=#[] })(hh:A.handled=none)
  (he:∀h' t' e,(∀b o',h.get? b=some o'->h'.get? b=some o')->(⟨h',g,d,t',os⟩:X5).TypeIs (.ref e) "AttributeError"->R (.error (.ref e)) ⟨h',g,d,t',os⟩) :
  Ti (Xf prog w) A (.call (.builtin "list.__getattribute__") ⟨[.ref a,.str "keys" tk],[]⟩) R ⟨h,g,d,t,os⟩ :=
 Pp PySem.F.slot_list_getattribute.plain PySem.F.entry_list_ga (PySem.F.slot_list_getattribute.check _ _ _ _ _ _ _ _ (show (⟨h,g,d,t,os⟩:X5).TypeIs (.ref a) "list" from ⟨_,hx,rfl⟩) (PySem.F.args_list_getattribute_2 _ _) (zln hx (by simp[hh]) he))
theorem zp5 {tk:Tok}{Q:X9->X5->Prop}(hx:h.get? a=some { cls:=.type "list",dict:=none,data:=.seq its n,slots:=#[] })(hh:A.handled=none)
  (he:∀h' t' e,(∀b o',h.get? b=some o'->h'.get? b=some o')->(⟨h',g,d,t',os⟩:X5).TypeIs (.ref e) "AttributeError"->E (.ref e) ⟨h',g,d,t',os⟩) :
  Xa (Xf prog w) A (getAttrBy (.ref a) (.str "keys" tk) false) Q E ⟨h,g,d,t,os⟩:=by
 have hT:(⟨h,g,d,t,os⟩:X5).TypeIs (.ref a) "list":=⟨_,hx,rfl⟩
 have f2:=PySem.F.slot_list_getattribute.lookup
 have f3:=PySem.F.slot_list_getattribute.bind (.ref a)
 have f4:=zj9
 have f5:=zcN
 repeat (any_goals (first | assumption | wp_step))
 refine zm3 hx (by simp[hh]) fun h' t' e kp hE=>?_
 repeat (any_goals (first | assumption | wp_step))
 exact he _ _ _ kp hE
theorem zm4 {Q:Option X9->X5->Prop}(hx:h.get? a=some { cls:=.type "list",dict:=none,data:=.seq its n,slots:=#[] })(hh:A.handled=none)
  (hq:∀h' t',(∀b o',h.get? b=some o'->h'.get? b=some o')->Q none ⟨h',g,d,t',os⟩) :
  Xa (Xf prog w) A (getAttr? (.ref a) "keys") Q E ⟨h,g,d,t,os⟩:=by
 have f5:=zcN
 unfold getAttr? getAttrBy?
 refine Y1 (wpAny_mkText (Y1 (RF ?_)))
 refine zp5 (t:=t+1) hx hh fun h' t' e kp hE=>?_
 repeat (any_goals (first | assumption | wp_step))
 exact hq _ _ kp
theorem zaP:Oy table "dict.update.loop"=some UG.«dict.update.loop»:=entryFor_of_tree (by kernel_rfl)
theorem JG:plainId "dict.update.loop"=true:=by decide +kernel
end
section
variable {prog:Xy}{w:W6}{A:WG}{R:Result->X5->Prop}{I:Addr}{fp wr:List Addr}{G:Array Sz->Array Sz->Prop}{n:Nat}{P:Nat->X9->Prop}{St:Nat->X5->Prop}
abbrev KQ:=List Key×Addr×X9
noncomputable def putAll (ks:List KQ):List KQ:=ks.foldl (fun acc q=>SI acc q.1 q.2.1 q.2.2) []
theorem putAll_snoc (ks:List KQ)(q:KQ):putAll (ks++[q])=SI (putAll ks) q.1 q.2.1 q.2.2:=by
 unfold putAll
 rw[T4]
 rfl
theorem zgl (xs:List KQ)(k:List Key)(a:Addr)(v:X9):(SI xs k a v).length<=xs.length+1:=by
 unfold SI
 split
 ·rw[ZB]
  lia
 ·rw[XZ]
  exact XW _
theorem zcO (ks:List KQ):(putAll ks).length<=ks.length:=by
 suffices h:∀(ks acc:List KQ),(ks.foldl (fun acc q=>SI acc q.1 q.2.1 q.2.2) acc).length<=acc.length+ks.length by
  have:=h ks []
  simpa[putAll] using this
 intro ks
 induction ks with
 | nil=>intro acc;exact XW _
 | cons q r ih =>
  intro acc
  have h1:=ih (SI acc q.1 q.2.1 q.2.2)
  have h2:=zgl acc q.1 q.2.1 q.2.2
  rw[Wy,Xw]
  lia
theorem ze9 {A:WG}{E:X9->X5->Prop}{s:X5}{ta:Addr}{x y:X9}{Q:List X9->X5->Prop}(h:OE s.heap ta #[x,y])(q:Q [x,y] s):Xa (Xf prog w) A (QQ (.ref ta)) Q E s:=by
 obtain⟨o,h1,h2,n,h3⟩:=h
 have hT:s.TypeIs (.ref ta) "tuple":=⟨o,h1,h2⟩
 unfold QQ
 repeat (any_goals (first | assumption | wp_step))
 rw[h3]
 exact XS (XS q)
end
section
variable {prog:Xy}{w:W6}{A:WG}{R:Result->X5->Prop}{I:Addr}{fp wr:List Addr}{G:Array Sz->Array Sz->Prop}{n:Nat}{P:Nat->X9->Prop}{St:Nat->X5->Prop}
theorem zb1 (T:List Key->Addr->Prop):∀(js acc:List KQ),(∀x∈acc,T x.1 x.2.1)->(∀x∈js,T x.1 x.2.1)->∀x∈js.foldl (fun acc q=>SI acc q.1 q.2.1 q.2.2) acc,T x.1 x.2.1
 | [],_,ha,_=>ha
 | q::r,acc,ha,hj=>by
  rw[Wy]
  refine zb1 T r _ (fun x hx=>?_) fun x hx=>hj x (XT _ hx)
  unfold SI at hx
  split at hx
  ·obtain⟨y,hy,rfl⟩:=Xj.mp hx
   have:=ha y hy
   unfold putAt
   split
   ·exact this
   ·exact this
  ·rcases XI.mp hx with hx | hx
   ·exact ha x hx
   ·have e:x=(q.1,q.2.1,q.2.2):=by simpa using hx
    subst e
    exact hj q XR
theorem zhR {h0:Heap}(W:WalksS prog w A.in1 I fp wr G n P St)(D:Addr)(hDf:D ∉ fp)(hD0:h0.get? D=none)(hw0:∀b∈wr,h0.get? b=none)(ks:List KQ)(hlen:ks.length=n)(hb:n<=XU)(hu:A.units+1<U6)
  (hks:∀q∈ks,(VV (qc prog w)).is h0 q.1 q.2.1) (hP:∀i v,P i v->∃ta q,v=.ref ta/\ks[i]?=some q/\OE h0 ta #[.ref q.2.1,q.2.2]) :
  ∀(k i:Nat) (s:X5),n-i=k->i<=n->St i s->(∀b o,h0.get? b=some o->s.heap.get? b=some o)->s.heap.DictOfH (VV (qc prog w)) D (putAll (ks.take i)) ->
   (∀s',Moved (D::wr) G s s'->s'.heap.DictOfH (VV (qc prog w)) D (putAll ks)->R (.ok (.ret .none)) s') ->
   Ti (Xf prog w) A (.builtin "dict.update.loop" ⟨[.ref D,.ref I,Ua (i:Int),.none],[]⟩) R s:=by
 have hDw:D ∉ wr:=fun h=>hDf (W.sub _ h)
 have more:∀b∈wr,b∈D::wr:=fun b hb=>XT _ hb
 have tup_up:∀{h:Heap} {ta:Addr} {xs:Array X9},(∀b o,h0.get? b=some o->h.get? b=some o)->OE h0 ta xs->OE h ta xs:=fun kp ⟨o,h1,h2,m,h3⟩=>⟨o,kp _ _ h1,h2,m,h3⟩
 have key_up:∀{h:Heap} {ka:Addr} {q:List Key},(∀b o,h0.get? b=some o->h.get? b=some o)->(VV (qc prog w)).is h0 q ka->(VV (qc prog w)).is h q ka:=fun kp ⟨o,xs,m,h1,h2⟩=>⟨o,xs,m,kp _ _ h1,h2⟩
 have dict_to:∀{s s':X5} {xs:List KQ},Moved wr G s s'->(∀b o,h0.get? b=some o->s'.heap.get? b=some o)->(∀x∈xs,(VV (qc prog w)).is h0 x.1 x.2.1)->s.heap.DictOfH (VV (qc prog w)) D xs->s'.heap.DictOfH (VV (qc prog w)) D xs :=
  fun hm kp hk ⟨o,es,ep,e1,e2,e3,e4,_,e6⟩=>⟨o,es,ep,hm.heap D _ hDw e1,e2,e3,e4,fun x hx=>key_up kp (hk x hx),e6⟩
 have keep_to:∀{s s':X5},Moved wr G s s'->(∀b o,h0.get? b=some o->s.heap.get? b=some o)->∀b o,h0.get? b=some o->s'.heap.get? b=some o:=fun hm kp b o e =>
  hm.heap b o (fun hb=>by
   rw[hw0 b hb] at e
   cases e) (kp b o e)
 have keys0:∀i,∀x∈putAll (ks.take i),(VV (qc prog w)).is h0 x.1 x.2.1:=fun i=>zb1 (fun a b=>(VV (qc prog w)).is h0 a b) _ [] (fun x hx=>nomatch hx) fun x hx=>hks x (Wo hx)
 intro k
 induction k with
 | zero =>
  intro i s hk hi hst kp hS hR
  have hin:i=n:=by lia
  subst hin
  refine VL zaP ?_
  rw[Wa JG _]
  show Xa _ A.in1 (Sd (.ref I) >>= _) _ _ s
  refine Y1 (W.done s _ _ hst fun s' hm=>?_)
  show Xa _ A.in1 (Builtin.Dict.addKeywords D [] >>= fun _=>ret Us) _ _ s'
  refine Y1 (XS (XS (hR s' (hm.mono more) ?_)))
  have:=dict_to hm (keep_to hm kp) (keys0 _) hS
  rw[<- hlen,XG] at this
  exact this
 | succ k ih =>
  intro i s hk hi hst kp hS hR
  have hlt:i<n:=by lia
  refine VL zaP ?_
  rw[Wa JG _]
  show Xa _ A.in1 (Sd (.ref I) >>= _) _ _ s
  refine Y1 (W.item i s _ _ hlt hst fun v s' hPv hst' hm=>?_)
  obtain⟨ta,q,rfl,hq,ht⟩:=hP i v hPv
  have kp':=keep_to hm kp
  have hS':=dict_to hm kp' (keys0 _) hS
  have l1:=zcO (ks.take i)
  have l2:(ks.take i).length<=n:=by
   rw[XQ]
   lia
  have tk:ks.take (i+1)=ks.take i++[q]:=by
   rw[XJ,hq]
   rfl
  refine Y1 (V5 (Y1 (wpAny_tryCatch (ze9 (tup_up kp' ht) ?_))))
  refine V5 (wpAny_dictSet_heap (show A.in1.units<U6 from hu) (key_up kp' (hks q (X2 hq))) hS' (fun h' hd' hs'=>?_) (by lia))
  have kp2:∀b o,h0.get? b=some o->h'.get? b=some o:=fun b o e=>by
   rw[hs'.2 b (fun z=>by
    rw[z,hD0] at e
    cases e)]
   exact kp' b o e
  have d2:h'.DictOfH (VV (qc prog w)) D (putAll (ks.take (i+1))):=by
   rw[tk,putAll_snoc]
   exact hd'
  refine XS ⟨UL JG _,?_⟩
  show Ti _ A (.builtin "dict.update.loop" ⟨[.ref D,.ref I,Ua ((i:Int)+1),.none],[]⟩) R _
  rw[show ((i:Int)+1)=((i+1:Nat):Int) by lia]
  refine ih (i+1) _ (by lia) hlt (W.frame _ s' _ _ hst' (Uw _ _) fun b hb o e=>?_) kp2 d2 fun s'' hm'' hS''=>?_
  ·rw[hs'.2 b (fun z=>hDf (by rw[<- z];exact hb))]
   exact e
  ·refine hR s'' (Moved.trans W.gtrans ((hm.mono more).then_heap (Uw _ _) fun b o hb e=>?_) hm'') hS''
   rw[hs'.2 b (fun z=>hb (by rw[z];exact XR))]
   exact e
end
def zp6 (H:Hp)(v:V)(kv:List Key×V):Prop:=∃a b,v=V.ref a/\H a=some (.tup [.ref b,kv.2])/\H b=some (.tup (kv.1.map kV))
def yS (H:Hp):List V->List (List Key×V)->Prop:=W0 (zp6 H)
theorem yS.mono {H H':Hp}(s:zB H H'){vs:List V}{kvs:List (List Key×V)}(hp:yS H vs kvs):yS H' vs kvs:=by
 induction hp with
 | nil=>exact .nil
 | cons q _ ih =>
  obtain⟨a,b,e,h1,h2⟩:=q
  exact .cons ⟨a,b,e,s _ _ h1,s _ _ h2⟩ ih
noncomputable def zac (kvs:List (List Key×V)):List (List Key×V):=kvs.foldl (fun acc kv=>putK acc kv.1 kv.2) []
theorem KT.puts {H:Hp}{kvs:List (List Key×V)}{ks:List KQ}{acc:List (List Key×V)}{xs:List KQ}(hp:KT H kvs ks)(r:KT H acc xs):KT H (kvs.foldl (fun acc kv=>putK acc kv.1 kv.2) acc) (ks.foldl (fun acc q=>SI acc q.1 q.2.1 q.2.2) xs):=by
 induction hp generalizing acc xs with
 | nil=>exact r
 | cons q _ ih =>
  obtain⟨h1,h2,h3⟩:=q
  rw[Wy,Wy]
  refine ih ?_
  rw[<- h1]
  exact r.put _ h2 h3
theorem zm5 {P:Xy}{w:W6}{H:Hp}{h:Heap}(ok:HOk P w H h){kvs:List (List Key×V)}{ks:List KQ}(hp:KT H kvs ks):∀x∈ks,(VV (qc P w)).is h x.1 x.2.1:=by
 induction hp with
 | nil=>exact fun x hx=>nomatch hx
 | cons q _ ih =>
  intro x hx
  rcases XB.mp hx with e | hx
  ·subst e
   exact ze8 ok (by rw[<- q.1];exact q.2.1)
  ·exact ih x hx
theorem zm6 {P:Xy}{w:W6}{H:Hp}{h:Heap}(ok:HOk P w H h){vs:List V}{kvs:List (List Key×V)}{its:List X9}(hp:yS H vs kvs)(hv:Vals vs its):∃ks:List KQ,KT H kvs ks/\ks.length=its.length/\(∀(i:Nat) (v:X9),its[i]?=some v->∃(ta:Addr) (q:KQ),v=WE ta/\ks[i]?=some q/\OE h ta #[.ref q.2.1,q.2.2]):=by
 induction hp generalizing its with
 | nil =>
  cases hv
  exact⟨[],.nil,rfl,fun i v e=>by simp at e⟩
 | @cons x kv xs ys q _ ih =>
  obtain⟨a,b,e,h1,h2⟩:=q
  cases hv with
  | cons rv rs =>
  obtain⟨ks,k1,k2,k3⟩:=ih rs
  subst e
  cases rv
  obtain⟨_,xs,r,tp⟩:=(show jn P w H h a (.tup [.ref b,kv.2]) from ok a _ h1)
  obtain⟨u,u2,rfl,ru,ru2⟩:=vals2 r
  cases ru
  refine⟨(kv.1,b,u2)::ks,.cons ⟨rfl,h2,ru2⟩ k1,by rw[Xw,Xw,k2],fun i v e=>?_⟩
  cases i with
  | zero =>
   have e':WE a=v:=by simpa using e
   exact⟨a,_,e'.symm,rfl,tp⟩
  | succ i =>
   obtain⟨ta,q,h1,h2,h3⟩:=k3 i v (by simpa using e)
   exact⟨ta,q,h1,by simpa using h2,h3⟩
section
variable {X:Cx}
set_option maxHeartbeats 8000000 in
theorem Y8 (hu:X.A.units+64<U6)(hh:X.A.handled=none):yQ X (.type "dict") (fun xs H Q=>∃l us kvs,xs=[.ref l]/\H l=some (.lst us)/\yS H us kvs/\∀d,H d=none->Q (.ref d) (upd H d (.dT (zac kvs)))):=by
 intro pins s σ H xs us' Q I r h
 obtain⟨l,us,kvs,rfl,hl,hp,q⟩:=h
 obtain⟨u,rfl,ru⟩:=vals1 r
 cases ru
 obtain⟨hz,its,n,rv,e⟩:=(show jn X.prog X.w H s.heap l (.lst us) from I.hok l _ hl)
 obtain⟨ks,hkt,hkl,hraw⟩:=zm6 I.hok hp rv
 have big:=I.big
 have hil:its.length<=XU:=by
  rw[<- rv.length]
  exact hz
 have hks:=zm5 I.hok hkt
 refine callType_codes (Q₁:=fun obj s₁=>obj=.ref s.heap.objs.size/\s₁={ s with heap:=s.heap.push { cls:=.type "dict",data:=.dict #[] } }) PySem.F.kt_called_dict (PySem.F.kt_typeCall_dict_1 _) PySem.F.entry_dict_init (kt_code_dict_new _ ⟨rfl,rfl⟩) ?_
 rintro obj s₁ ⟨rfl,rfl⟩
 have hnew:(s.heap.push { cls:=.type "dict",data:=.dict #[] }).DictOfH (VV (qc X.prog X.w)) s.heap.objs.size []:=Heap.DictOfH.new s.heap
 have e1:(s.heap.push { cls:=.type "dict",data:=.dict #[] }).get? l=some { cls:=.type "list",dict:=none,data:=.seq its.toArray n,slots:=#[] }:=XY _ e
 refine⟨hnew.typeIs,PySem.F.args_dict_init_2 _ _,?_⟩
 unfold UG.«dict.__init__»
 refine Y1 ?_
 unfold Builtin.Dict.selfAndRest
 refine Y1 (wpAny_notOrdered_dict hnew.typeIs ?_)
 show Xa _ _ (pure (s.heap.objs.size,[WE l])) _ _ _
 refine XS ?_
 show Xa _ _ (Rs "dict.__init__" s.heap.objs.size (.ref l) [] .none) _ _ _
 unfold Rs
 have hT:SF { s with heap:=s.heap.push { cls:=.type "dict",data:=.dict #[] } } (.ref l) "list":=⟨_,e1,rfl⟩
 refine Y1 (Rg hT ?_)
 rw[if_pos (by decide)]
 refine Y1 (zm4 e1 (by simp[hh]) fun h2 t2 kp=>?_)
 rw[if_pos (show (none:Option X9).isNone=true from rfl)]
 have kp0:∀b o',s.heap.get? b=some o'->h2.get? b=some o':=fun b o' z=>kp b o' (XY _ z)
 have hl2:h2.IsList l its.toArray:=⟨_,kp _ _ e1,rfl,n,rfl⟩
 refine Y1 (Ur (Y1 (T6 hl2 ?_)))
 have hls:l<s.heap.objs.size:=XF e
 have hDl:s.heap.objs.size<h2.objs.size:=by
  obtain⟨o,_,_,ho,_⟩:=hnew
  exact XF (kp _ _ ho)
 have hneI:l≠h2.objs.size:=Xk (Si hls hDl)
 have hDf:s.heap.objs.size ∉ [h2.objs.size,l]:=by
  simp only[XB,VH,or_false,not_or]
  exact⟨Xk hDl,Uq hls⟩
 refine XS ⟨UL JG _,?_⟩
 have hd2:(h2.push { cls:=.type "list_iterator",data:=.fields #[.ref l,.int 0 0] }).DictOfH (VV (qc X.prog X.w)) s.heap.objs.size []:=by
  obtain⟨o,es,ep,ho,h3,h4,h5,_,h6⟩:=hnew
  exact⟨o,es,ep,XY _ (kp _ _ ho),h3,h4,h5,(fun x hx=>nomatch hx),h6⟩
 refine zhR (h0:=s.heap) ((Walks.list (by simp[hh]) h2.objs.size l hneI its.toArray).toS) s.heap.objs.size hDf (UQ (XW _)) (fun b hb=>?_) ks (by rw[hkl];simp) (by simpa using hil) (by show X.A.units+1+1<U6;lia) hks (fun i v hv=>hraw i v (by rw[<- hv];simp)) _ 0 _ rfl (WW _)
  ⟨⟨_,W5 _ rfl,rfl,rfl⟩,hl2.push _⟩ (fun b o z=>XY _ (kp0 b o z)) hd2 ?_
 ·have e:b=h2.objs.size:=by simpa using hb
  rw[e]
  exact UQ (Te hDl)
 ·intro s' hm hS'
  obtain⟨h',g',d',tk',os'⟩:=s'
  have eg:g'=s.gens:=hm.gens
  have ed:d'=s.drawn:=hm.drawn
  have eo:os'=s.os:=hm.os
  subst eg
  subst ed
  subst eo
  have kp3:∀b o',s.heap.get? b=some o'->h'.get? b=some o':=fun b o' z=>by
   have lt:=XF z
   refine hm.heap b o' (fun hb=>?_) (XY _ (kp0 b o' z))
   rcases XB.mp hb with e | hb
   ·exact V6 _ (e ▸ lt)
   ·have e:b=h2.objs.size:=by simpa using hb
    rw[e] at lt
    exact V6 _ (Si lt hDl)
  obtain⟨o,es,ep,ho,h3,h4,h5,_,h6⟩:=hS'
  have hkk:KT H (zac kvs) (putAll ks):=KT.puts hkt .nil
  have hfresh:H s.heap.objs.size=none:=I.hok.fresh (XW _)
  refine⟨rfl,.ref s.heap.objs.size,_,I.laid (a:=s.heap.objs.size) (o:=.dT (zac kvs)) (t':=tk') kp3 (XW _) ⟨?_,beq_eq_false_iff_ne.mpr (T7 (Xk big)),_,KT.keeps hkk fun b ys hb=>?_,o,es,ep,ho,h3,h4,h5,h6⟩,rfl,q _ hfresh⟩
  ·rw[Paired.length hkk]
   exact X0 (zcO ks) (by rw[hkl];exact hil)
  ·rw[zu (zj hb hfresh)]
   exact hb
end
theorem u1 {A:PySem.Around}(h:A.units+64<PySem.cLine):A.units+1<PySem.cLine:=by lia
section
variable {K:X8}{g:TG}{tc:TT}{te:TE}{Q:VK}{σ0:St}{D:Addr}
theorem zlo {l1 l2:Addr}{xs ys:List V}(Pv:Nat->St->Hp->Prop){H:Hp}(he:xs.length=ys.length)(h0:Pv 0 σ0 H)(hl:∀i σ H,i<=xs.length->Pv i σ H->SqL K H l1 xs/\SqL K H l2 ys)
  (hs:∀i x y T σ H,xs[i]?=some x->ys[i]?=some y->H T=none->Pv i σ H->g (.ref T) σ (upd H T (.tup [x,y])) fun σ2 H3=>tc σ2 H3 fun b H4=>if b=true then te σ2 H4 fun y H5=>∃zs,H5 D=some (.lst zs)/\zs.length<XU/\Pv (i+1) σ2 (upd H5 D (.lst (zs++[y]))) else Pv (i+1) σ2 H4)
  (hd:∀ σ H,Pv xs.length σ H->Q (.ref D) H):JV (Itz K l1 l2) g tc te Q D σ0 H:=by
 refine⟨fun i m σ H=>m=xs.length-i/\i<=xs.length/\Pv i σ H,⟨xs.length,by simp,WW _,h0⟩,?_⟩
 rintro i m σ H ⟨rfl,hi,p⟩
 obtain⟨q1,q2⟩:=hl i σ H hi p
 by_cases hlt:i<xs.length
 ·refine .inr ⟨⟨xs,ys,q1,q2,hlt,by lia⟩,Pv (i+1),fun σ' H' p'=>⟨xs.length-(i+1),by lia,rfl,hlt,p'⟩,fun x H' y=>?_⟩
  obtain⟨T,rfl,hT,y⟩:=y
  obtain⟨v,v',hv,hv',rfl⟩:=y xs ys q1 q2
  exact hs i v v' T σ H hv hv' hT p
 ·have e:i=xs.length:=by lia
  subst e
  exact .inl ⟨⟨xs,ys,q1,q2,by lia⟩,hd σ H p⟩
end
theorem yS.into {H:Hp}(z:Addr)(o:HO){old:List V}(hz:H z=some (.lst old)):∀{vs:List V} {kvs:List (List Key×V)},yS H vs kvs->yS (upd H z o) vs kvs
 | _,_,.nil=>.nil
 | _,_,.cons ⟨a,b,e,h1,h2⟩ t=>.cons ⟨a,b,e,by rw[zu (zfY h1 hz (by intro y;cases y))];exact h1,by rw[zu (zfY h2 hz (by intro y;cases y))];exact h2⟩ (yS.into z o hz t)
theorem yS.snoc {H:Hp}{vs:List V}{kvs:List (List Key×V)}{v:V}{kv:List Key×V}(h:yS H vs kvs)(x:zp6 H v kv):yS H (vs++[v]) (kvs++[kv]):=Paired.snoc h x
theorem yS.length {H:Hp}{vs:List V}{kvs:List (List Key×V)}(h:yS H vs kvs):vs.length=kvs.length:=Paired.length h
theorem zbu {v:V}{k:List Key}:∀(ks:List (List Key)) (acc:List (List Key×V)),(k∈ks\/Ja acc k=some v)->Ja ((ks.map fun x=>(x,v)).foldl (fun acc kv=>putK acc kv.1 kv.2) acc) k=some v
 | [],acc,h=>by
  rcases h with h | h
  ·cases h
  ·exact h
 | x::r,acc,h=>by
  rw[Xb,Wy]
  refine zbu r _ ?_
  rw[zgj]
  by_cases e:k=x
  ·rw[if_pos e]
   exact .inr rfl
  ·rw[if_neg e]
   rcases h with h | h
   ·rcases XB.mp h with h | h
    ·exact absurd h e
    ·exact .inl h
   ·exact .inr h
section
variable {prog:Xy}{w:W6}{A:WG}{E:X9->X5->Prop}{s:X5}{d o a:Addr}{xs ys:List KQ}{k:List Key}{v:X9}
abbrev tk2 (prog:Xy)(w:W6):HeapKind prog w (List Key):=VV (qc prog w)
end
def HH (i j:Nat):Int:=reduceHash (Builtin.Tuple.tupleHashOf [hashInt (i:Int),hashInt (j:Int)])
theorem QV (prog:Xy)(w:W6)(i j:Nat):(tk2 prog w).hash [.inl ((i:Nat):Int),.inl ((j:Nat):Int)]=HH i j:=by
 show tupleKeyHash (qc prog w) [.inl ((i:Nat):Int),.inl ((j:Nat):Int)]=HH i j
 unfold tupleKeyHash HH
 rw[Xb,Xb,Td]
 have e:∀n:Nat,(qc prog w).hash (.inl ((n:Nat):Int))=hashInt ((n:Nat):Int):=fun n=>by
  show zol w (.inl ((n:Nat):Int))=_
  unfold zol
  with_reducible rfl
 rw[e,e]
theorem zoR:(W9 64).all fun n=>(W9 64).all fun m=>decide (HH (n/8) (n%8)=HH (m/8) (m%8))==decide (n=m):=by decide +kernel
theorem zlp {i j i' j':Nat}(h1:i<8)(h2:j<8)(h3:i'<8)(h4:j'<8)(e:HH i j=HH i' j'):i=i'/\j=j':=by
 have h:=zoR
 rw[WT] at h
 have a:=h (8*i+j) (Wf.mpr (by lia))
 rw[WT] at a
 have b:=a (8*i'+j') (Wf.mpr (by lia))
 rw[show (8*i+j)/8=i by lia,show (8*i+j)%8=j by lia,show (8*i'+j')/8=i' by lia,show (8*i'+j')%8=j' by lia,decide_eq_true e] at b
 have c:decide (8*i+j=8*i'+j')=true:=by simpa using b
 have d:=of_decide_eq_true c
 lia
section
variable {X:Cx}
end
section
variable {X:Cx}
end
section
variable {prog:Xy}{w:W6}{A:WG}{E:X9->X5->Prop}{s:X5}{a b:Addr}{H:Hp}{kvs:List (List Key×V)}{ka kb:List KQ}
end
section
variable {X:Cx}
end
section
variable {prog:Xy}{w:W6}{A:WG}{E:X9->X5->Prop}{s:X5}{d it:Addr}{od:Obj}{es:Array DictEntry}{ep i:Nat}
end
section
variable {X:Cx}{tg:Expr}
end
open PySem
namespace ST
noncomputable def run (mask i:Nat):List Nat:=(W9 (VJ mask i+1-i)).map (i + ·)
noncomputable def walk (mask:Nat):Nat->Nat->Nat->List Nat
 | 0,_,_=>[]
 | f+1,i,p=>run mask i++walk mask f (Vm mask i p).1 (Vm mask i p).2
theorem zm7 (mask i:Nat):1<=(run mask i).length/\(run mask i).length<=10:=by
 unfold run VJ
 rw[ZB,WL]
 split<;>lia
theorem zcP (mask:Nat):∀f i p,(walk mask f i p).length<=10*f
 | 0,_,_=>XW _
 | f+1,i,p=>by
  rw[walk,XZ]
  have:=(zm7 mask i).2
  have:=zcP mask f (Vm mask i p).1 (Vm mask i p).2
  lia
noncomputable def steps (t:WB):Nat->R8->R8
 | 0,p=>p
 | n+1,p=>steps t n (t.advance p)
theorem zbv (t:WB):∀n m p,steps t (n+m) p=steps t m (steps t n p)
 | 0,m,p=>by rw[V9];rfl
 | n+1,m,p=>by
  rw[show n+1+m=(n+m)+1 from by lia]
  exact zbv t n m (t.advance p)
theorem zbw (t:WB)(i pt:Nat)(dm:Option Nat):∀(d r j:Nat),d<=r->steps t d { j:=j,more:=r,i:=i,perturb:=pt,dummy:=dm }={ j:=j+d,more:=r-d,i:=i,perturb:=pt,dummy:=dm }
 | 0,r,j,_=>rfl
 | d+1,r,j,h=>by
  have e:t.advance { j:=j,more:=r,i:=i,perturb:=pt,dummy:=dm }={ j:=j+1,more:=r-1,i:=i,perturb:=pt,dummy:=dm }:=by
   unfold Rv
   rw[if_pos (by show r>0;lia)]
  show steps t d (t.advance _)=_
  rw[e,zbw t i pt dm d (r-1) (j+1) (by lia)]
  congr 1<;>lia
noncomputable def QW (mask i pt:Nat)(dm:Option Nat):R8:={ j:=i,more:=VJ mask i-i,i:=i,perturb:=pt,dummy:=dm }
theorem zbx (mask i:Nat):i<=VJ mask i:=by
 unfold VJ
 split<;>lia
theorem zhS (t:WB)(i pt:Nat)(dm:Option Nat):steps t (run t.mask i).length (QW t.mask i pt dm)=QW t.mask (Vm t.mask i pt).1 (Vm t.mask i pt).2 dm:=by
 have hl:(run t.mask i).length=(VJ t.mask i-i)+1:=by
  unfold run
  rw[ZB,WL]
  have:=zbx t.mask i
  lia
 rw[hl,zbv]
 unfold QW
 rw[zbw t i pt dm _ _ _ (XW _),Tc]
 rw[steps,steps]
 unfold Rv
 rw[if_neg (by show ¬ 0>0;lia)]
theorem JZ (t:WB):∀(f i pt:Nat) (dm:Option Nat) (n:Nat) (j:Nat),(walk t.mask f i pt)[n]?=some j->(steps t n (QW t.mask i pt dm)).j=j
 | 0,_,_,_,_,_,h=>by simp[walk] at h
 | f+1,i,pt,dm,n,j,h=>by
  rw[walk] at h
  by_cases hn:n<(run t.mask i).length
  ·rw[VS hn] at h
   unfold run at h
   rw[XE,UE (by unfold run at hn;simpa using hn)] at h
   have hl:(run t.mask i).length=(VJ t.mask i-i)+1:=by
    unfold run
    rw[ZB,WL]
    have:=zbx t.mask i
    lia
   unfold QW
   rw[zbw t i pt dm n _ _ (by lia)]
   exact Option.some.inj h
  ·rw[VA (by lia)] at h
   have e:n=(run t.mask i).length+(n-(run t.mask i).length):=by lia
   rw[e,zbv,zhS]
   exact JZ t f _ _ dm _ j h
theorem zfa (t:WB)(VE:Nat->Int)(h:Int):∀(n F:Nat) (p:R8),(∀k,k<n->∃i,t.slot (steps t k p).j=.live i/\(VE i==h)=false)->n<=F->T3 t VE h F p=T3 t VE h (F-n) (steps t n p)
 | 0,F,p,_,_=>rfl
 | n+1,F,p,hk,hF=>by
  obtain⟨F',rfl⟩:∃F',F=F'+1:=⟨F-1,by lia⟩
  obtain⟨i,h1,h2⟩:=hk 0 (by lia)
  have h1':t.slot p.j=.live i:=h1
  rw[T3,h1']
  show (if (VE i==h)=true then _ else _)=_
  rw[if_neg (by rw[h2];decide),zfa t VE h n F' (t.advance p) (fun k hk'=>hk (k+1) (by lia)) (by lia),Nat.add_sub_add_right]
  rfl
def Up (xs:Array Nat):Prop:=∀i j,i<j->j<xs.size->xs.getD i 0<xs.getD j 0
theorem zlq {xs:Array Nat}(U:Up xs)(j:Nat):∀(f lo hi:Nat),hi-lo<=f->lo<=hi->hi<=xs.size->(∀i,i<lo->xs.getD i 0<j)->(∀i,hi<=i->i<xs.size->j<=xs.getD i 0) ->
  VC xs j f lo hi<=xs.size/\(∀i,i<VC xs j f lo hi->xs.getD i 0<j)/\(∀i,VC xs j f lo hi<=i->i<xs.size->j<=xs.getD i 0):=by
 intro f
 induction f with
 | zero =>
  intro lo hi hf hl hs h1 h2
  have:lo=hi:=by lia
  subst this
  exact⟨hs,h1,h2⟩
 | succ f ih =>
  intro lo hi hf hl hs h1 h2
  by_cases hlt:lo<hi
  ·have hm:(lo+hi)/2<hi:=by lia
   have hm2:lo<=(lo+hi)/2:=by lia
   have hms:(lo+hi)/2<xs.size:=by lia
   have e:xs.getD ((lo+hi)/2) j=xs.getD ((lo+hi)/2) 0:=by
    simp[Tw,hms]
   have e2:VC xs j (f+1) lo hi=if xs.getD ((lo+hi)/2) 0<j then VC xs j f ((lo+hi)/2+1) hi else VC xs j f lo ((lo+hi)/2):=by
    rw[VC,if_pos hlt]
    show (if xs.getD ((lo+hi)/2) j<j then _ else _)=_
    rw[e]
   by_cases hx:xs.getD ((lo+hi)/2) 0<j
   ·rw[e2,if_pos hx]
    refine ih ((lo+hi)/2+1) hi (by lia) (by lia) hs (fun i hi'=>?_) h2
    by_cases he:i=(lo+hi)/2
    ·rw[he]
     exact hx
    ·exact Si (U i ((lo+hi)/2) (by lia) hms) hx
   ·rw[e2,if_neg hx]
    refine ih lo ((lo+hi)/2) (by lia) (by lia) (by lia) h1 (fun i hi' hi2=>?_)
    by_cases he:i=(lo+hi)/2
    ·rw[he]
     lia
    ·have:=U ((lo+hi)/2) i (by lia) hi2
     lia
  ·rw[VC,if_neg hlt]
   have:lo=hi:=by lia
   subst this
   exact⟨hs,h1,h2⟩
theorem ZU {xs:Array Nat}(U:Up xs)(j:Nat):Xu xs j<=xs.size/\(∀i,i<Xu xs j->xs.getD i 0<j)/\(∀i,Xu xs j<=i->i<xs.size->j<=xs.getD i 0) :=
 zlq U j xs.size 0 xs.size (by lia) (WW _) (XW _) (fun _ h=>absurd h (TB _)) (fun i h1 h2=>absurd h2 (by lia))
theorem J0 {xs:Array Nat}{i:Nat}(h:i<xs.size):xs[i]?=some (xs.getD i 0):=by
 simp[Tw,h]
theorem ZV {t:WB}(U:Up t.place){i:Nat}(hi:i<t.place.size):t.slot (t.place.getD i 0)=.live i:=by
 have b:=ZU U (t.place.getD i 0)
 have e:Xu t.place (t.place.getD i 0)=i:=by
  rcases RK (Xu t.place (t.place.getD i 0)) i with h | h | h
  ·have h1:=b.2.2 _ (XW _) (by lia)
   have h2:=U _ i h hi
   lia
  ·exact h
  ·have:=b.2.1 i h
   lia
 unfold SetTable.slot
 simp only[e,J0 hi]
 rw[if_pos (by simp)]
theorem slot_of {t:WB}(U:Up t.place)(hd:t.dummies=#[])(j:Nat):(∃i,i<t.place.size/\t.place.getD i 0=j/\t.slot j=.live i)\/(t.slot j=.empty/\∀i,i<t.place.size->t.place.getD i 0≠j):=by
 by_cases h:∃i,i<t.place.size/\t.place.getD i 0=j
 ·obtain⟨i,hi,rfl⟩:=h
  exact .inl ⟨i,hi,rfl,ZV U hi⟩
 ·have hn:∀i,i<t.place.size->t.place.getD i 0≠j:=fun i hi e=>h ⟨i,hi,e⟩
  refine .inr ⟨?_,hn⟩
  unfold SetTable.slot
  have h1:¬ ((t.place[Xu t.place j]?==some j)=true):=fun z=>by
   have z':t.place[Xu t.place j]?=some j:=by simpa using z
   have hl:Xu t.place j<t.place.size:=by
    rcases Tb (Xu t.place j) t.place.size with q | q
    ·exact q
    ·rw[WK q] at z'
     cases z'
   rw[J0 hl] at z'
   exact hn _ hl (Option.some.inj z')
  simp only[]
  rw[if_neg h1,hd]
  rfl
def Reach (t:WB)(h:Int)(j:Nat):Prop:=∃n:Nat,(walk t.mask (W3 t.mask) (XD h%(t.mask+1)) (XD h))[n]?=some j/\∀k:Nat,k<n->∀j',(walk t.mask (W3 t.mask) (XD h%(t.mask+1)) (XD h))[k]?=some j'->∃i,i<t.place.size/\t.place.getD i 0=j'
theorem zaQ (t:WB)(h:Int):t.probeStart h=QW t.mask (XD h%(t.mask+1)) (XD h) none:=rfl
theorem zgm (t:WB):∀n p,(steps t n p).dummy=p.dummy
 | 0,_=>rfl
 | n+1,p=>by
  rw[steps,zgm t n]
  unfold Rv
  split<;>rfl
theorem zgn {t:WB}(U:Up t.place)(VE:Nat->Int){h:Int}{i:Nat}(hi:i<t.place.size)(eh:VE i=h)(one:∀i',i'<t.place.size->VE i'=h->i'=i)(R:Reach t h (t.place.getD i 0)):∃nx,t.probe VE h (t.probeStart h)=some (.candidate (t.place.getD i 0) i nx):=by
 obtain⟨n,hn,hk⟩:=R
 have hlen:=(X4.mp hn).1
 have wl:=zcP t.mask (W3 t.mask) (XD h%(t.mask+1)) (XD h)
 have key:∀m:Nat,m<=n->(∀k,k<m->∃i',t.slot (steps t k (t.probeStart h)).j=.live i'/\(VE i'==h)=false)\/∃m',m'<m/\(∀k,k<m'->∃i',t.slot (steps t k (t.probeStart h)).j=.live i'/\(VE i'==h)=false)/\t.slot (steps t m' (t.probeStart h)).j=.live i/\(steps t m' (t.probeStart h)).j=t.place.getD i 0:=fun m=>by
  induction m with
  | zero=>exact fun _=>.inl fun k hk=>absurd hk (TB _)
  | succ m ih =>
   intro hm
   rcases ih (by lia) with h1 | ⟨m',a,b⟩
   ·have hw:∃j',(walk t.mask (W3 t.mask) (XD h%(t.mask+1)) (XD h))[m]?=some j':=⟨_,X7 (by lia)⟩
    obtain⟨j',hj'⟩:=hw
    obtain⟨i',hi',ei'⟩:=hk m (by lia) j' hj'
    have ej:(steps t m (t.probeStart h)).j=j':=by
     rw[zaQ]
     exact JZ t _ _ _ none m j' hj'
    have sl:t.slot (steps t m (t.probeStart h)).j=.live i':=by
     rw[ej,<- ei']
     exact ZV U hi'
    by_cases he:VE i'=h
    ·have:=one i' hi' he
     subst this
     exact .inr ⟨m,by lia,h1,sl,by rw[ej,ei']⟩
    ·refine .inl fun k hk'=>?_
     by_cases hkm:k=m
     ·subst hkm
      exact⟨i',sl,by simpa using he⟩
     ·exact h1 k (by lia)
   ·exact .inr ⟨m',by lia,b⟩
 have fin:∀m:Nat,m<10*W3 t.mask->(∀k,k<m->∃i',t.slot (steps t k (t.probeStart h)).j=.live i'/\(VE i'==h)=false)->t.slot (steps t m (t.probeStart h)).j=.live i->(steps t m (t.probeStart h)).j=t.place.getD i 0->∃nx,t.probe VE h (t.probeStart h)=some (.candidate (t.place.getD i 0) i nx):=fun m hm hp sl ej=>by
  unfold SetTable.probe
  rw[zfa t VE h m _ _ hp (by lia)]
  obtain⟨F',hF⟩:∃F',10*W3 t.mask-m=F'+1:=⟨10*W3 t.mask-m-1,by lia⟩
  rw[hF,T3,sl]
  simp only[]
  rw[if_pos (by simpa using eh),ej]
  exact⟨_,rfl⟩
 rcases key n (XW _) with h1 | ⟨m',a,b,c,d⟩
 ·have ej:(steps t n (t.probeStart h)).j=t.place.getD i 0:=by
   rw[zaQ]
   exact JZ t _ _ _ none n _ hn
  exact fin n (by lia) h1 (by rw[ej];exact ZV U hi) ej
 ·exact fin m' (by lia) b c d
theorem zfb {t:WB}(U:Up t.place)(hd:t.dummies=#[])(VE:Nat->Int){h:Int}(no:∀i,i<t.place.size->VE i≠h){e:Nat}(he:∀i,i<t.place.size->t.place.getD i 0≠e)(hw:e∈walk t.mask (W3 t.mask) (XD h%(t.mask+1)) (XD h)) :
  ∃j,t.probe VE h (t.probeStart h)=some (.empty j none)/\t.slot j=.empty/\Reach t h j/\j∈walk t.mask (W3 t.mask) (XD h%(t.mask+1)) (XD h):=by
 obtain⟨N,hN⟩:=PU.mp hw
 have hlen:=(X4.mp hN).1
 have wl:=zcP t.mask (W3 t.mask) (XD h%(t.mask+1)) (XD h)
 have key:∀m:Nat,m<=N+1->(∀k:Nat,k<m->∀j',(walk t.mask (W3 t.mask) (XD h%(t.mask+1)) (XD h))[k]?=some j'->∃i,i<t.place.size/\t.place.getD i 0=j')\/∃m' j:Nat,m'<m/\(walk t.mask (W3 t.mask) (XD h%(t.mask+1)) (XD h))[m']?=some j/\t.slot j=.empty/\(∀k:Nat,k<m'->∀j',(walk t.mask (W3 t.mask) (XD h%(t.mask+1)) (XD h))[k]?=some j'->∃i,i<t.place.size/\t.place.getD i 0=j'):=fun m=>by
  induction m with
  | zero=>exact fun _=>.inl fun k hk=>absurd hk (TB _)
  | succ m ih =>
   intro hm
   rcases ih (by lia) with h1 | ⟨m',j,a,b⟩
   ·obtain⟨j',hj'⟩:∃j',(walk t.mask (W3 t.mask) (XD h%(t.mask+1)) (XD h))[m]?=some j':=⟨_,X7 (by lia)⟩
    rcases slot_of U hd j' with ⟨i,hi,ei,_⟩ | ⟨se,_⟩
    ·refine .inl fun k hk' j2 hj2=>?_
     by_cases hkm:k=m
     ·subst hkm
      rw[hj'] at hj2
      exact⟨i,hi,by rw[ei];exact Option.some.inj hj2⟩
     ·exact h1 k (by lia) j2 hj2
    ·exact .inr ⟨m,j',by lia,hj',se,h1⟩
   ·exact .inr ⟨m',j,by lia,b⟩
 rcases key (N+1) (XW _) with h1 | ⟨m',j,a,b,c,d⟩
 ·obtain⟨i,hi,ei⟩:=h1 N (by lia) e hN
  exact absurd ei (he i hi)
 ·refine⟨j,?_,c,⟨m',b,d⟩,X2 b⟩
  have ej:(steps t m' (t.probeStart h)).j=j:=by
   rw[zaQ]
   exact JZ t _ _ _ none m' j b
  have hp:∀k,k<m'->∃i',t.slot (steps t k (t.probeStart h)).j=.live i'/\(VE i'==h)=false:=fun k hk=>by
   obtain⟨j',hj'⟩:∃j',(walk t.mask (W3 t.mask) (XD h%(t.mask+1)) (XD h))[k]?=some j':=⟨_,X7 (by lia)⟩
   obtain⟨i,hi,ei⟩:=d k hk j' hj'
   refine⟨i,?_,by simpa using no i hi⟩
   have:(steps t k (t.probeStart h)).j=j':=by
    rw[zaQ]
    exact JZ t _ _ _ none k j' hj'
   rw[this,<- ei]
   exact ZV U hi
  unfold SetTable.probe
  rw[zfa t VE h m' _ _ hp (by lia)]
  obtain⟨F',hF⟩:∃F',10*W3 t.mask-m'=F'+1:=⟨10*W3 t.mask-m'-1,by lia⟩
  rw[hF,T3,ej,c]
  simp only[zgm]
  rfl
noncomputable def orb (m:Nat):Nat->Nat->Nat
 | 0,i=>i
 | n+1,i=>orb m n ((i*5+1)%m)
noncomputable def zka (m:Nat):Nat->Nat->List Nat
 | 0,_=>[]
 | n+1,i=>i::zka m n ((i*5+1)%m)
theorem zcQ (m:Nat):∀(n i e:Nat),e∈zka m n i->∃k,k<n/\orb m k i=e
 | 0,_,_,h=>nomatch h
 | n+1,i,e,h=>by
  rcases XB.mp h with rfl | h
  ·exact⟨0,Uo _,rfl⟩
  ·obtain⟨k,hk,q⟩:=zcQ m n _ e h
   exact⟨k+1,by lia,q⟩
theorem zcs (m:Nat):∀a b i,orb m (a+b) i=orb m b (orb m a i)
 | 0,b,i=>by rw[V9];rfl
 | a+1,b,i=>by
  rw[show a+1+b=(a+b)+1 from by lia]
  exact zcs m a b _
theorem full {m:Nat}(h1:∀e,e<m->e∈zka m m 0)(h2:orb m m 0=0){i e:Nat}(hi:i<m)(he:e<m):∃k,k<m+1/\orb m k i=e:=by
 obtain⟨a,ha,ea⟩:=zcQ m m 0 i (h1 i hi)
 obtain⟨b,hb,eb⟩:=zcQ m m 0 e (h1 e he)
 rcases Tb b a with q | q
 ·refine⟨m-a+b,by lia,?_⟩
  rw[<- ea,<- zcs,show a+(m-a+b)=m+b from by lia,zcs,h2,eb]
 ·refine⟨b-a,by lia,?_⟩
  rw[<- ea,<- zcs,show a+(b-a)=b from by lia,eb]
theorem znZ:(∀e,e<8->e∈zka 8 8 0)/\orb 8 8 0=0:=by decide +kernel
theorem zlr:(∀e,e<32->e∈zka 32 32 0)/\orb 32 32 0=0:=by decide +kernel
theorem zje:(∀e,e<128->e∈zka 128 128 0)/\orb 128 128 0=0:=by decide +kernel
noncomputable def ZW (mask:Nat):Nat->Nat->Nat->Nat×Nat
 | 0,i,p=>(i,p)
 | n+1,i,p=>ZW mask n (Vm mask i p).1 (Vm mask i p).2
theorem zeh (mask:Nat):∀a b i p,ZW mask (a+b) i p=ZW mask b (ZW mask a i p).1 (ZW mask a i p).2
 | 0,b,i,p=>by rw[V9];rfl
 | a+1,b,i,p=>by
  rw[show a+1+b=(a+b)+1 from by lia]
  exact zeh mask a b _ _
theorem zjf (mask:Nat):∀n i p,(ZW mask n i p).2=p/32^n
 | 0,i,p=>by rw[Nat.pow_zero,Nat.div_one];rfl
 | n+1,i,p=>by
  rw[ZW,zjf mask n]
  show p/32/32^n=_
  rw[SS,VU,Rh]
theorem zgo (mask:Nat):∀n i p,i<mask+1->(ZW mask n i p).1<mask+1
 | 0,i,p,h=>h
 | n+1,i,p,h=>zgo mask n _ _ (Sa _ (Uo _))
theorem zei (mask:Nat):∀n i,(ZW mask n i 0).1=orb (mask+1) n i
 | 0,_=>rfl
 | n+1,i=>by
  have e1:(Vm mask i 0).1=(i*5+1)%(mask+1):=rfl
  have e2:(Vm mask i 0).2=0:=rfl
  rw[ZW,e1,e2]
  exact zei mask n _
theorem head_mem (mask:Nat):∀(f n i p:Nat),n<f->(ZW mask n i p).1∈walk mask f i p
 | 0,_,_,_,h=>absurd h (TB _)
 | f+1,0,i,p,_=>by
  rw[walk]
  refine W1 _ ?_
  unfold run
  refine Xj.mpr ⟨0,Wf.mpr ?_,by rfl⟩
  have:=zbx mask i
  lia
 | f+1,n+1,i,p,h=>by
  rw[walk]
  exact Xs _ (head_mem mask f n _ _ (by lia))
theorem zgp {mask:Nat}(hm:mask=7\/mask=31\/mask=127)(h:Int){e:Nat}(he:e<mask+1):e∈walk mask (W3 mask) (XD h%(mask+1)) (XD h):=by
 have hb:XD h<2^64:=by
  unfold XD
  have h1:=Vu h (show (2^64:Int)≠0 by decide)
  have h2:=VI h (show (0:Int)<2^64 by decide)
  lia
 have hp:(ZW mask 13 (XD h%(mask+1)) (XD h)).2=0:=by
  rw[zjf]
  exact Nat.div_eq_of_lt (Si hb (by decide))
 have hi:=zgo mask 13 (XD h%(mask+1)) (XD h) (Sa _ (Uo _))
 obtain⟨k,hk,ek⟩:∃k,k<mask+1+1/\orb (mask+1) k (ZW mask 13 (XD h%(mask+1)) (XD h)).1=e:=by
  rcases hm with rfl | rfl | rfl
  ·exact full znZ.1 znZ.2 hi he
  ·exact full zlr.1 zlr.2 hi he
  ·exact full zje.1 zje.2 hi he
 have hh:=head_mem mask (W3 mask) (13+k) (XD h%(mask+1)) (XD h) (by unfold W3;lia)
 rw[zeh,hp,zei,ek] at hh
 exact hh
theorem Qk {α:Type}(xs:Array α){p:Nat}(x:α):(Xe xs p x).toList=xs.toList.take p++x::xs.toList.drop p:=by
 unfold Xe
 simp
 rw[W8 (by rw[We,X6];lia)]
theorem zls {α:Type}(xs:Array α){p:Nat}(hp:p<=xs.size)(x:α)(i:Nat):(Xe xs p x)[i]?=if i<p then xs[i]? else if i=p then some x else xs[i-1]?:=by
 have hl:(xs.toList.take p).length=p:=by
  rw[XQ,X6]
  lia
 rw[<- Xr,Qk]
 by_cases h1:i<p
 ·rw[if_pos h1,VS (by lia),RD h1,Xr]
 ·rw[if_neg h1,VA (by lia),hl]
  by_cases h2:i=p
  ·rw[if_pos h2,h2,Tc]
   rfl
  ·rw[if_neg h2,show i-p=(i-p-1)+1 from by lia,Tj,Um,Xr]
   congr 1
   lia
theorem jU {α:Type}(xs:Array α){p:Nat}(hp:p<=xs.size)(x:α):(Xe xs p x).size=xs.size+1:=by
 rw[<- X6,Qk,XZ,Xw,XQ,We,X6]
 lia
theorem ZX (xs:Array Nat){p:Nat}(hp:p<=xs.size)(x i:Nat)(hi:i<xs.size+1):(Xe xs p x).getD i 0=if i<p then xs.getD i 0 else if i=p then x else xs.getD (i-1) 0:=by
 have h:=zls xs hp x i
 rw[J0 (by rw[jU xs hp x];exact hi)] at h
 by_cases h1:i<p
 ·rw[if_pos h1] at h ⊢
  rw[J0 (by lia)] at h
  exact Option.some.inj h
 ·rw[if_neg h1] at h ⊢
  by_cases h2:i=p
  ·rw[if_pos h2] at h ⊢
   exact Option.some.inj h
  ·rw[if_neg h2] at h ⊢
   rw[J0 (by lia)] at h
   exact Option.some.inj h
theorem zlt {t:WB}(U:Up t.place)(hd:t.dummies=#[]){j:Nat}(he:∀i,i<t.place.size->t.place.getD i 0≠j):(t.put j).2=Xu t.place j/\(t.put j).1={ t with place:=Xe t.place (Xu t.place j) j }/\Up (Xe t.place (Xu t.place j) j):=by
 have b:=ZU U j
 refine⟨rfl,?_,fun a c hac hc=>?_⟩
 ·unfold SetTable.put
  simp only[hd]
  rfl
 ·rw[jU _ b.1] at hc
  rw[ZX _ b.1 _ _ (by lia),ZX _ b.1 _ _ hc]
  have lo:∀i,i<Xu t.place j->t.place.getD i 0<j:=b.2.1
  have hi:∀i,Xu t.place j<=i->i<t.place.size->j<t.place.getD i 0:=fun i h1 h2=>by
   have:=b.2.2 i h1 h2
   have:=he i h2
   lia
  by_cases a1:a<Xu t.place j
  ·rw[if_pos a1]
   by_cases c1:c<Xu t.place j
   ·rw[if_pos c1]
    exact U a c hac (by lia)
   ·rw[if_neg c1]
    by_cases c2:c=Xu t.place j
    ·rw[if_pos c2]
     exact lo a a1
    ·rw[if_neg c2]
     have h1:=lo a a1
     have h2:=hi (c-1) (by lia) (by lia)
     lia
  ·have c1:¬ c<Xu t.place j:=by lia
   have c2:¬ c=Xu t.place j:=by lia
   rw[if_neg a1,if_neg c1,if_neg c2]
   by_cases a2:a=Xu t.place j
   ·rw[if_pos a2]
    exact hi (c-1) (by lia) (by lia)
   ·rw[if_neg a2]
    exact U (a-1) (c-1) (by lia) (by lia)
theorem Reach.more {t t':WB}(hm:t'.mask=t.mask)(hp:∀i,i<t.place.size->∃i',i'<t'.place.size/\t'.place.getD i' 0=t.place.getD i 0){h:Int}{j:Nat}(R:Reach t h j):Reach t' h j:=by
 obtain⟨n,h1,h2⟩:=R
 unfold Reach
 rw[hm]
 refine⟨n,h1,fun k hk j' hj'=>?_⟩
 obtain⟨i,hi,ei⟩:=h2 k hk j' hj'
 obtain⟨i',hi',ei'⟩:=hp i hi
 exact⟨i',hi',ei'.trans ei⟩
theorem zlu {t:WB}(U:Up t.place)(j:Nat):∀i,i<t.place.size->∃i',i'<(Xe t.place (Xu t.place j) j).size/\(Xe t.place (Xu t.place j) j).getD i' 0=t.place.getD i 0:=fun i hi=>by
 have b:=ZU U j
 by_cases h:i<Xu t.place j
 ·refine⟨i,by rw[jU _ b.1];lia,?_⟩
  rw[ZX _ b.1 _ _ (by lia),if_pos h]
 ·refine⟨i+1,by rw[jU _ b.1];lia,?_⟩
  rw[ZX _ b.1 _ _ (by lia),if_neg (by lia),if_neg (by lia),R3]
theorem zjg (mask:Nat)(owner:Array (Option Nat)):∀(f i p:Nat),SetTable.layClean.free mask owner f i p=(walk mask f i p).find? fun j=>(owner.getD j (some 0)).isNone
 | 0,_,_=>rfl
 | f+1,i,p=>by
  rw[SetTable.layClean.free,walk,List.find?_append]
  unfold run
  rw[List.find?_map]
  have e:((fun j=>(owner.getD j (some 0)).isNone)∘fun x=>i+x)=fun k=>(owner.getD (i+k) (some 0)).isNone:=rfl
  rw[e]
  cases h:(W9 (VJ mask i+1-i)).find? fun k=>(owner.getD (i+k) (some 0)).isNone with
  | some k=>rfl
  | none =>
   simp only[Option.map_none,Option.none_or]
   exact zjg mask owner f _ _
structure Own (mask:Nat)(hs:List Int)(owner:Array (Option Nat))(k:Nat):Prop where
 sz:owner.size=mask+1
 few:(owner.toList.countP fun o=>o.isNone)+k=mask+1
 at_:∀i,i<k->∃j:Nat,owner[j]?=some (some i)/\∃n:Nat,(walk mask (W3 mask) (XD (hs.getD i 0)%(mask+1)) (XD (hs.getD i 0)))[n]?=some j/\∀m:Nat,m<n->∀j':Nat,(walk mask (W3 mask) (XD (hs.getD i 0)%(mask+1)) (XD (hs.getD i 0)))[m]?=some j'->∃o,owner[j']?=some (some o)
 lt:∀j i:Nat,owner[j]?=some (some i)->i<k
 inj:∀j j' i:Nat,owner[j]?=some (some i)->owner[j']?=some (some i)->j=j'
theorem Own.nil (mask:Nat)(hs:List Int):Own mask hs (Array.replicate (mask+1) none) 0:=by
 refine⟨by simp,by rw[Array.toList_replicate,List.countP_replicate];rfl,fun i h=>absurd h (TB _),fun j i h=>?_,fun j j' i h=>?_⟩
 ·rw[RC] at h
  split at h<;>cases h
 ·rw[RC] at h
  split at h<;>cases h
theorem count_set {l:List (Option Nat)}:∀{j:Nat} (k:Nat),l[j]?=some none->(l.set j (some k)).countP (fun o=>o.isNone)+1=l.countP fun o=>o.isNone:=by
 induction l with
 | nil=>exact fun _ h=>by simp at h
 | cons o r ih =>
  intro j k h
  cases j with
  | zero =>
   have:o=none:=by simpa using h
   subst this
   simp[WH]
  | succ j =>
   have:=ih k (by simpa using h)
   rw[List.set_cons_succ,WH,WH]
   lia
theorem zkb {l:List (Option Nat)}(h:0<l.countP fun o=>o.isNone):∃j:Nat,l[j]?=some none:=by
 obtain⟨o,ho,hn⟩:=List.countP_pos_iff.mp h
 obtain⟨j,hj⟩:=PU.mp ho
 refine⟨j,?_⟩
 rw[hj]
 cases o with
 | none=>rfl
 | some _=>cases hn
theorem getD_none {owner:Array (Option Nat)}{j:Nat}:(owner.getD j (some 0)).isNone=true↔owner[j]?=some none:=by
 by_cases h:j<owner.size
 ·have e:owner[j]?=some (owner.getD j (some 0)):=by simp[Tw,h]
  rw[e]
  cases owner.getD j (some 0)<;>simp
 ·have e:owner.getD j (some 0)=some 0:=by simp[Tw,h]
  rw[e,WK (by lia)]
  simp
theorem zfc (mask:Nat):∀(f i p:Nat),i<mask+1->∀j∈walk mask f i p,j<mask+1
 | 0,_,_,_,_,h=>nomatch h
 | f+1,i,p,hi,j,h=>by
  rw[walk] at h
  rcases XI.mp h with h | h
  ·unfold run at h
   obtain⟨k,hk,rfl⟩:=Xj.mp h
   have hk':=Wf.mp hk
   have:VJ mask i<=mask:=by
    unfold VJ
    split<;>lia
   lia
  ·exact zfc mask f _ _ (Sa _ (Uo _)) j h
theorem Own.step {mask:Nat}(hm:mask=7\/mask=31\/mask=127){hs:List Int}{owner:Array (Option Nat)}{k:Nat}(O:Own mask hs owner k)(hk:k<mask+1):∃j,SetTable.layClean.free mask owner (W3 mask) (XD (hs.getD k 0)%(mask+1)) (XD (hs.getD k 0))=some j/\Own mask hs (owner.setIfInBounds j (some k)) (k+1):=by
 obtain⟨e,he⟩:=zkb (l:=owner.toList) (by have:=O.few;lia)
 rw[Xr] at he
 have hel:e<owner.size:=by
  rcases Tb e owner.size with q | q
  ·exact q
  ·rw[WK q] at he
   cases he
 have hw:=zgp hm (hs.getD k 0) (e:=e) (by have:=O.sz;lia)
 rw[zjg]
 cases hf:(walk mask (W3 mask) (XD (hs.getD k 0)%(mask+1)) (XD (hs.getD k 0))).find? fun j=>(owner.getD j (some 0)).isNone with
 | none =>
  have:=Ts.mp hf e hw
  exact absurd (getD_none.mpr he) this
 | some j =>
  refine⟨j,rfl,?_⟩
  have hj:owner[j]?=some none:=getD_none.mp (List.find?_some (p:=fun j=>(owner.getD j (some 0)).isNone) hf)
  have hjl:j<owner.size:=by
   rcases Tb j owner.size with q | q
   ·exact q
   ·rw[WK q] at hj
    cases hj
  have get:∀i:Nat,(owner.setIfInBounds j (some k))[i]?=if j=i then some (some k) else owner[i]?:=fun i=>by
   rw[Ud]
   by_cases h:j=i
   ·rw[if_pos h,if_pos h]
    simp[hjl]
   ·rw[if_neg h,if_neg h]
  have keep:∀(i o:Nat),owner[i]?=some (some o)->(owner.setIfInBounds j (some k))[i]?=some (some o):=fun i o h=>by
   rw[get,if_neg (fun z=>by rw[<- z,hj] at h;cases h)]
   exact h
  refine⟨by rw[TD];exact O.sz,?_,fun i hi=>?_,fun j' i h=>?_,fun j1 j2 i h1 h2=>?_⟩
  ·rw[RU]
   have:=count_set (l:=owner.toList) (j:=j) k (by rw[Xr];exact hj)
   have:=O.few
   lia
  ·by_cases hik:i=k
   ·subst hik
    refine⟨j,by rw[get,if_pos rfl],?_⟩
    obtain⟨_,as,bs,hab,hn⟩:=List.find?_eq_some_iff_append.mp hf
    refine⟨as.length,by rw[hab];simp,fun m hm' j' hj'=>?_⟩
    rw[hab,VS hm'] at hj'
    have hmem:=X2 hj'
    have hnn:=hn j' hmem
    have hjw:j'∈walk mask (W3 mask) (XD (hs.getD i 0)%(mask+1)) (XD (hs.getD i 0)):=by
     rw[hab]
     exact W1 _ hmem
    cases ho:owner[j']? with
    | none =>
     have:=zfc mask (W3 mask) _ _ (Sa _ (Uo _)) j' hjw
     rw[Vz.mpr ⟨by rw[O.sz];exact this,rfl⟩] at ho
     cases ho
    | some o =>
     cases o with
     | none =>
      rw[getD_none.mpr ho] at hnn
      cases hnn
     | some o=>exact⟨o,keep j' o ho⟩
   ·obtain⟨j0,a,n,b,c⟩:=O.at_ i (by lia)
    refine⟨j0,keep _ _ a,n,b,fun m hm' j' hj'=>?_⟩
    obtain⟨o,ho⟩:=c m hm' j' hj'
    exact⟨o,keep _ _ ho⟩
  ·rw[get] at h
   split at h
   ·have:k=i:=by simpa using h
    lia
   ·have:=O.lt j' i h
    lia
  ·rw[get] at h1 h2
   split at h1<;>split at h2
   ·lia
   ·have:k=i:=by simpa using h1
    have:=O.lt j2 i h2
    lia
   ·have:k=i:=by simpa using h2
    have:=O.lt j1 i h1
    lia
   ·exact O.inj j1 j2 i h1 h2
theorem zgq {mask:Nat}(hm:mask=7\/mask=31\/mask=127)(hs:List Int)(hl:hs.length<=mask+1):∀(l done:List Int) (owner:Array (Option Nat)),hs=done++l->Own mask hs owner done.length ->
  ∃owner',l.foldl (fun (acc:Option (Array (Option Nat)×Nat)) h=>do
   let (owner,k) <- acc
   let j <- SetTable.layClean.free mask owner (W3 mask) (XD h%(mask+1)) (XD h)
   pure (owner.setIfInBounds j (some k),k+1)) (some (owner,done.length))=some (owner',hs.length)/\Own mask hs owner' hs.length
 | [],done,owner,e,O=>by
  rw[W4] at e
  subst e
  exact⟨owner,rfl,O⟩
 | h::r,done,owner,e,O=>by
  have hd:hs.getD done.length 0=h:=by
   rw[e]
   simp[List.getD]
  have hlen:done.length<mask+1:=by
   have:hs.length=done.length+(r.length+1):=by rw[e,XZ,Xw]
   lia
  obtain⟨j,hj,O'⟩:=O.step hm hlen
  rw[hd] at hj
  obtain⟨owner',h1,h2⟩:=zgq hm hs hl r (done++[h]) (owner.setIfInBounds j (some done.length)) (by rw[e,WZ];rfl) (by rw[XZ];exact O')
  refine⟨owner',?_,h2⟩
  rw[XZ] at h1
  rw[Wy]
  have e1:(do
   let (owner,k) <- (some (owner,done.length):Option (Array (Option Nat)×Nat))
   let j <- SetTable.layClean.free mask owner (W3 mask) (XD h%(mask+1)) (XD h)
   pure (owner.setIfInBounds j (some k),k+1))=some (owner.setIfInBounds j (some done.length),done.length+1):=by
   show (SetTable.layClean.free mask owner (W3 mask) (XD h%(mask+1)) (XD h)).bind _=_
   rw[hj]
   rfl
  rw[e1]
  exact h1
theorem zoS {mask:Nat}(hm:mask=7\/mask=31\/mask=127)(hashes:Array Int)(hl:hashes.size<=mask+1):∃owner,SetTable.layClean mask hashes=some owner/\Own mask hashes.toList owner hashes.size:=by
 obtain⟨owner,h1,h2⟩:=zgq hm hashes.toList (by rw[X6];exact hl) hashes.toList [] _ rfl (Own.nil mask _)
 rw[X6] at h1 h2
 refine⟨owner,?_,h2⟩
 unfold SetTable.layClean
 rw[<- Array.foldl_toList]
 exact congrArg (OT (·.1)) h1
noncomputable def qX (mask:Nat)(owner:Array (Option Nat)):List (Nat×Nat):=(W9 (mask+1)).filterMap fun j=>(owner.getD j none).map (j,·)
theorem J1 {mask:Nat}{owner:Array (Option Nat)}(sz:owner.size=mask+1){j i:Nat}:(j,i)∈qX mask owner↔owner[j]?=some (some i):=by
 unfold qX
 rw[Tt]
 constructor
 ·rintro⟨a,ha,h⟩
  have hl:a<owner.size:=by rw[sz];exact Wf.mp ha
  have e:owner[a]?=some (owner.getD a none):=by simp[Tw,hl]
  cases ho:owner.getD a none with
  | none =>
   rw[ho] at h
   cases h
  | some b =>
   rw[ho] at h
   have hb:(a,b)=(j,i):=Option.some.inj h
   cases hb
   rw[e,ho]
 ·intro h
  have hl:j<owner.size:=by
   rcases Tb j owner.size with q | q
   ·exact q
   ·rw[WK q] at h
    cases h
  have e:owner[j]?=some (owner.getD j none):=by simp[Tw,hl]
  refine⟨j,Wf.mpr (by rw[<- sz];exact hl),?_⟩
  rw[e] at h
  rw[Option.some.inj h]
  rfl
theorem zjh (mask:Nat)(owner:Array (Option Nat)):(qX mask owner).Pairwise fun a b=>a.1<b.1:=by
 unfold qX
 rw[List.pairwise_filterMap]
 refine List.pairwise_lt_range.imp fun {a b} hab x hx y hy=>?_
 cases h1:owner.getD a none with
 | none=>rw[h1] at hx;cases hx
 | some p =>
  cases h2:owner.getD b none with
  | none=>rw[h2] at hy;cases hy
  | some q =>
   rw[h1] at hx
   rw[h2] at hy
   have e1:(a,p)=x:=Option.some.inj hx
   have e2:(b,q)=y:=Option.some.inj hy
   rw[<- e1,<- e2]
   exact hab
theorem zkc {mask:Nat}{hs:List Int}{owner:Array (Option Nat)}{k:Nat}(O:Own mask hs owner k):((qX mask owner).map (·.2)).Perm (W9 k):=by
 have nd:((qX mask owner).map (·.2)).Nodup:=by
  refine V1.mpr ((zjh mask owner).imp_of_mem fun {a b} ha hb hab e=>?_)
  obtain⟨a1,a2⟩:=a
  obtain⟨b1,b2⟩:=b
  have e':a2=b2:=e
  subst e'
  have:=O.inj a1 b1 a2 ((J1 O.sz).mp ha) ((J1 O.sz).mp hb)
  have hab':a1<b1:=hab
  lia
 refine(VX nd List.nodup_range).mpr fun i=>?_
 rw[Wf,Xj]
 constructor
 ·rintro⟨⟨j,i'⟩,hm,rfl⟩
  exact O.lt j _ ((J1 O.sz).mp hm)
 ·intro hi
  obtain⟨j,hj,_⟩:=O.at_ i hi
  exact⟨(j,i),(J1 O.sz).mpr hj,rfl⟩
theorem zm8 {mask:Nat}(hm:mask=7\/mask=31\/mask=127)(finger moves:Nat)(led plain:Bool)(hashes:Array Int)(hl:hashes.size<=mask+1):∃place order,SetTable.laid mask finger moves led plain hashes=some ({ mask:=mask,place:=place,dummies:=#[],finger:=finger,led:=led,moves:=moves,plain:=plain },order) /\
  Up place/\place.size=hashes.size/\order.size=hashes.size/\order.toList.Perm (W9 hashes.size)/\(∀i,i<place.size->place.getD i 0<mask+1) /\
  ∀i,i<place.size->Reach { mask:=mask,place:=place,dummies:=#[],finger:=finger,led:=led,moves:=moves,plain:=plain } (hashes.toList.getD (order.getD i 0) 0) (place.getD i 0):=by
 obtain⟨owner,h1,O⟩:=zoS hm hashes hl
 have perm:=zkc O
 have up:=zjh mask owner
 have ll:(qX mask owner).length=hashes.size:=by
  have:=perm.length_eq
  rw[ZB,WL] at this
  exact this
 have pg:∀i (h:i<(qX mask owner).length),((qX mask owner).map (·.1)).toArray.getD i 0=((qX mask owner)[i]).1:=fun i h=>by
  simp[Tw,h]
 have og:∀i (h:i<(qX mask owner).length),((qX mask owner).map (·.2)).toArray.getD i 0=((qX mask owner)[i]).2:=fun i h=>by
  simp[Tw,h]
 refine⟨((qX mask owner).map (·.1)).toArray,((qX mask owner).map (·.2)).toArray,?_,fun i j hij hj=>?_,by simp[ll],by simp[ll],perm,fun i hi=>?_,fun i hi=>?_⟩
 ·unfold SetTable.laid
  rw[h1]
  rfl
 ·have hj':j<(qX mask owner).length:=by simpa using hj
  rw[pg i (by lia),pg j hj']
  exact Vt.mp up i j (by lia) hj' hij
 ·have hi':i<(qX mask owner).length:=by simpa using hi
  rw[pg i hi']
  have hmem:=U3 hi'
  have:=(J1 O.sz (j:=(qX mask owner)[i].1) (i:=(qX mask owner)[i].2)).mp hmem
  rw[<- O.sz]
  rcases Tb (qX mask owner)[i].1 owner.size with q | q
  ·exact q
  ·rw[WK q] at this
   cases this
 ·have hi':i<(qX mask owner).length:=by simpa using hi
  rw[pg i hi',og i hi']
  have hmem:=U3 hi'
  have ho:=(J1 O.sz (j:=(qX mask owner)[i].1) (i:=(qX mask owner)[i].2)).mp hmem
  obtain⟨j0,a,n,b,c⟩:=O.at_ _ (O.lt _ _ ho)
  have ej:=O.inj _ _ _ a ho
  rw[ej] at b
  refine⟨n,b,fun k hk j' hj'=>?_⟩
  obtain⟨o,hoo⟩:=c k hk j' hj'
  obtain⟨x,hx,ex⟩:=TQ ((J1 O.sz).mpr hoo)
  refine⟨x,by simpa using hx,?_⟩
  show ((qX mask owner).map (·.1)).toArray.getD x 0=j'
  rw[pg x hx,ex]
structure Good (t:WB)(hs:Array Int):Prop where
 mask:t.mask=7\/t.mask=31\/t.mask=127
 sz:t.place.size=hs.size
 dum:t.dummies=#[]
 up:Up t.place
 le:∀i,i<t.place.size->t.place.getD i 0<t.mask+1
 room:t.place.size*5<t.mask*3
 reach:∀i,i<t.place.size->Reach t (hs.toList.getD i 0) (t.place.getD i 0)
theorem Good.free {t:WB}{hs:Array Int}(G:Good t hs):∃e,e<t.mask+1/\∀i,i<t.place.size->t.place.getD i 0≠e:=by
 refine RT fun hn=>?_
 have all:∀e,e<t.mask+1->∃i,i<t.place.size/\t.place.getD i 0=e:=fun e he=>RT fun h2=>hn ⟨e,he,fun i hi z=>h2 ⟨i,hi,z⟩⟩
 have hr:=G.room
 have id_:∀e,e<t.mask+1->∃i,i<t.place.size/\e<=i:=fun e=>by
  induction e with
  | zero=>exact fun h=>let ⟨i,hi,_⟩:=all 0 h;⟨i,hi,WW _⟩
  | succ e ih =>
   intro h
   obtain⟨i,hi,hei⟩:=all (e+1) h
   obtain⟨i0,hi0,hei0⟩:=all e (by lia)
   have cnt:∀d,d<=e+1->∃i,i<t.place.size/\t.place.getD i 0=d/\d<=i:=fun d=>by
    induction d with
    | zero=>exact fun _=>let ⟨i,hi,he⟩:=all 0 (by lia);⟨i,hi,he,WW _⟩
    | succ d ihd =>
     intro hd
     obtain⟨a,ha,ea,la⟩:=ihd (by lia)
     obtain⟨b,hb,eb⟩:=all (d+1) (by lia)
     have:a<b:=by
      rcases RK a b with q | q | q
      ·exact q
      ·subst q
       lia
      ·have:=G.up b a q ha
       lia
     exact⟨b,hb,eb,by lia⟩
   obtain⟨x,hx,_,lx⟩:=cnt (e+1) (XW _)
   exact⟨x,hx,lx⟩
 obtain⟨i,hi,le⟩:=id_ t.mask (by lia)
 lia
theorem Good.found {t:WB}{hs:Array Int}(G:Good t hs)(VE:Nat->Int)(hh:∀i,i<hs.size->VE i=hs.toList.getD i 0)(nd:hs.toList.Nodup){i:Nat}(hi:i<hs.size):∃nx,t.probe VE (hs.toList.getD i 0) (t.probeStart (hs.toList.getD i 0))=some (.candidate (t.place.getD i 0) i nx):=by
 have gd:∀k (h:k<hs.size),hs.toList.getD k 0=hs.toList[k]'(by rw[X6];exact h):=fun k h=>by
  rw[WX,X7 (by rw[X6];exact h)]
  rfl
 refine zgn G.up VE (by rw[G.sz];exact hi) (hh i hi) (fun i' hi' e=>?_) (G.reach i (by rw[G.sz];exact hi))
 rw[G.sz] at hi'
 rw[hh i' hi',gd i' hi',gd i hi] at e
 exact(Ry nd).mp e
theorem Good.missed {t:WB}{hs:Array Int}(G:Good t hs)(VE:Nat->Int)(hh:∀i,i<hs.size->VE i=hs.toList.getD i 0){h:Int}(no:h ∉ hs.toList):∃j,t.probe VE h (t.probeStart h)=some (.empty j none)/\j<t.mask+1/\(∀i,i<t.place.size->t.place.getD i 0≠j)/\Reach t h j:=by
 obtain⟨e,he,hn⟩:=G.free
 have no':∀i,i<t.place.size->VE i≠h:=fun i hi z=>by
  rw[G.sz] at hi
  rw[hh i hi,WX,X7 (by rw[X6];exact hi)] at z
  have z':hs.toList[i]'(by rw[X6];exact hi)=h:=z
  exact no (z' ▸ U3 _)
 obtain⟨j,h1,h2,h3,h4⟩:=zfb G.up G.dum VE (h:=h) no' hn (zgp G.mask h he)
 refine⟨j,h1,zfc _ _ _ _ (Sa _ (Uo _)) j h4,fun i hi z=>?_,h3⟩
 rw[<- z,ZV G.up hi] at h2
 cases h2
theorem Good.put {t:WB}{hs:Array Int}(G:Good t hs){h:Int}{j:Nat}(hj:j<t.mask+1)(he:∀i,i<t.place.size->t.place.getD i 0≠j)(R:Reach t h j)(room:(t.place.size+1)*5<t.mask*3):Good (t.put j).1 (Xe hs (t.put j).2 h):=by
 obtain⟨e2,e1,U⟩:=zlt G.up G.dum he
 have b:=ZU G.up j
 rw[e2,e1]
 have bs:Xu t.place j<=hs.size:=by rw[<- G.sz];exact b.1
 have hget:∀i,(Xe hs (Xu t.place j) h).toList.getD i 0=if i<Xu t.place j then hs.toList.getD i 0 else if i=Xu t.place j then h else hs.toList.getD (i-1) 0:=fun i=>by
  rw[WX,Xr,zls hs bs]
  split
  ·rw[WX,Xr]
  ·split
   ·rfl
   ·rw[WX,Xr]
 have more:∀{h':Int} {j':Nat},Reach t h' j'->Reach { t with place:=Xe t.place (Xu t.place j) j } h' j':=fun R'=>Reach.more (t:=t) (t':={ t with place:=Xe t.place (Xu t.place j) j }) rfl (zlu G.up j) R'
 refine⟨G.mask,?_,G.dum,U,fun i hi=>?_,?_,fun i hi=>?_⟩
 ·show (Xe t.place _ j).size=_
  rw[jU _ b.1,jU _ bs,G.sz]
 ·have hi':i<t.place.size+1:=by
   have:=hi
   rw[show ({ t with place:=Xe t.place (Xu t.place j) j }:WB).place=Xe t.place (Xu t.place j) j from rfl,jU _ b.1] at this
   exact this
  show (Xe t.place _ j).getD i 0<t.mask+1
  rw[ZX _ b.1 _ _ hi']
  split
  ·exact G.le i (by lia)
  ·split
   ·exact hj
   ·exact G.le (i-1) (by lia)
 ·show (Xe t.place _ j).size*5<t.mask*3
  rw[jU _ b.1]
  exact room
 ·have hi':i<t.place.size+1:=by
   have:=hi
   rw[show ({ t with place:=Xe t.place (Xu t.place j) j }:WB).place=Xe t.place (Xu t.place j) j from rfl,jU _ b.1] at this
   exact this
  show Reach _ _ ((Xe t.place _ j).getD i 0)
  rw[hget,ZX _ b.1 _ _ hi']
  by_cases h1:i<Xu t.place j
  ·rw[if_pos h1,if_pos h1]
   exact more (G.reach i (by lia))
  ·rw[if_neg h1,if_neg h1]
   by_cases h2:i=Xu t.place j
   ·rw[if_pos h2,if_pos h2]
    exact more R
   ·rw[if_neg h2,if_neg h2]
    exact more (G.reach (i-1) (by lia))
theorem zhT (t:WB)(hs:Array Int)(hn:hs.size=5\/hs.size=19):∃t' order,t.relaid hs (UA hs.size)=some (t',order)/\order.size=hs.size/\order.toList.Perm (W9 hs.size)/\t'.led=t.led/\t'.plain=t.plain/\t'.place.size=hs.size/\Good t' (order.map fun i=>hs.toList.getD i 0):=by
 have key:∀mask,(mask=7\/mask=31\/mask=127)->hs.size<=mask+1->hs.size*5<mask*3->Tr (UA hs.size)-1=mask->∃t' order,t.relaid hs (UA hs.size)=some (t',order)/\order.size=hs.size/\order.toList.Perm (W9 hs.size)/\t'.led=t.led/\t'.plain=t.plain/\t'.place.size=hs.size/\Good t' (order.map fun i=>hs.toList.getD i 0):=fun mask hm hl hr em=>by
  obtain⟨place,order,h1,h2,h3,h4,h5,h6,h7⟩:=zm8 hm t.finger (t.movedTo mask) t.led t.plain hs hl
  refine⟨{ mask:=mask,place:=place,dummies:=#[],finger:=t.finger,led:=t.led,moves:=t.movedTo mask,plain:=t.plain },order,?_,h4,h5,rfl,rfl,h3,hm,?_,rfl,h2,h6,?_,fun i hi=>?_⟩
  ·unfold SetTable.relaid
   rw[em]
   exact h1
  ·show place.size=_
   rw[Vi,h3,h4]
  ·show place.size*5<mask*3
   rw[h3]
   exact hr
  ·have hi':i<order.size:=by
    have:i<place.size:=hi
    lia
   have e:(order.map fun i=>hs.toList.getD i 0).toList.getD i 0=hs.toList.getD (order.getD i 0) 0:=by
    rw[WX,Xr,Array.getElem?_map,J0 hi']
    rfl
   rw[e]
   exact h7 i hi
 rcases hn with e | e
 ·exact key 31 (.inr (.inl rfl)) (by lia) (by lia) (by rw[e];decide +kernel)
 ·exact key 127 (.inr (.inr rfl)) (by lia) (by lia) (by rw[e];decide +kernel)
end ST
namespace ST
noncomputable def qB (es:Array (Int×X9))(ep:Nat)(t:WB):Obj:={ cls:=.type "set",dict:=none,data:=.set es ep t }
noncomputable def kP (p:Int×Int):List Key:=[.inl p.1,.inl p.2]
def InB (p:Int×Int):Prop:=(0<=p.1/\p.1<8)/\(0<=p.2/\p.2<8)
def hP (prog:Xy)(w:W6)(p:Int×Int):Int:=(tk2 prog w).hash (kP p)
section
variable {prog:Xy}{w:W6}{A:WG}{E:X9->X5->Prop}{s:X5}{a:Addr}{es:Array (Int×X9)}{ep:Nat}{t:WB}
theorem zoT {p q:Int×Int}(hp:InB p)(hq:InB q)(e:hP prog w p=hP prog w q):p=q:=by
 obtain⟨p1,p2⟩:=p
 obtain⟨q1,q2⟩:=q
 obtain⟨⟨a1,a2⟩,a3,a4⟩:=hp
 obtain⟨⟨b1,b2⟩,b3,b4⟩:=hq
 simp only at a1 a2 a3 a4 b1 b2 b3 b4
 obtain⟨i,rfl⟩:∃i:Nat,p1=i:=⟨p1.toNat,by lia⟩
 obtain⟨j,rfl⟩:∃i:Nat,p2=i:=⟨p2.toNat,by lia⟩
 obtain⟨k,rfl⟩:∃i:Nat,q1=i:=⟨q1.toNat,by lia⟩
 obtain⟨l,rfl⟩:∃i:Nat,q2=i:=⟨q2.toNat,by lia⟩
 unfold hP kP at e
 rw[QV,QV] at e
 obtain⟨c,d⟩:=zlp (by lia) (by lia) (by lia) (by lia) e
 rw[c,d]
theorem J2 {h:Heap}{x:Addr}{p:Int×Int}(h1:zM h (.ref x) p):(tk2 prog w).is h (kP p) x:=by
 obtain⟨b,o,n,t,u,e,e1,e2,e3⟩:=h1
 cases e
 exact⟨o,#[.int p.1 t,.int p.2 u],n,e1,e2,e3,.cons (zbp p.1 t) (.cons (zbp p.2 u) .nil)⟩
theorem Good.fits {hs:Array Int}(G:Good t hs):t.fits hs.size=true:=by
 have h1:=G.sz
 have h2:=G.room
 unfold SetTable.fits O6
 rw[G.dum,h1]
 simp
 lia
theorem Good.odd {hs:Array Int}(G:Good t hs):t.gaveWay=false:=by
 unfold SetTable.gaveWay
 rcases G.mask with e | e | e<;>rw[e]<;>rfl
theorem Jb {Q:Array (Int×X9)×Nat×WB->X5->Prop}(ho:s.heap.get? a=some (qB es ep t))(G:Good t (es.map (·.1)))(q:Q (es,ep,t) s):Xa (Xf prog w) A (setState a) Q E s:=by
 refine S1 ho rfl ?_ q
 have:=G.fits
 rwa [Vi] at this
theorem zfd (i:Nat)(hi:i<(es.map (·.1)).size):(es[i]?.map (·.1)).getD 0=(es.map (·.1)).toList.getD i 0:=by
 rw[WX,Xr,Array.getElem?_map]
theorem zdM {n:Nat}{h:Int}{x:X9}{Q:SetFound->X5->Prop}(ho:s.heap.get? a=some (qB es ep t))(G:Good t (es.map (·.1)))(no:h ∉ (es.map (·.1)).toList)
  (hQ:∀j,j<t.mask+1->(∀i,i<t.place.size->t.place.getD i 0≠j)->Reach t h j->Q (.free j false) s):Xa (Xf prog w) A (RE a x h true (n+1) none) Q E s:=by
 obtain⟨j,e,h1,h2,h3⟩:=G.missed (fun i=>(es[i]?.map (·.1)).getD 0) zfd no
 rw[RE]
 refine Y1 (Jb ho G ?_)
 dsimp only
 rw[G.odd,if_neg XV]
 generalize hm:t.probe _ h _=m
 have em:m=some (.empty j none):=hm.symm.trans e
 subst em
 exact XS (hQ j h1 h2 h3)
theorem zej {d:Nat}{x:Addr}{p:Int×Int}{Q:Bool->X5->Prop}(hx:zM s.heap (.ref x) p)(q:Q false s):Xa (Xf prog w) A (SZ 8 (.ref x)) Q E s:=by
 obtain⟨b,o,n,t,u,e,e1,e2,e3⟩:=hx
 cases e
 have hT:s.TypeIs (.ref x) "tuple":=⟨o,e1,e2⟩
 unfold SZ
 refine Y1 (Rg hT ?_)
 dsimp only
 rw[if_pos (by decide)]
 refine Y1 (XS ?_)
 rw[if_neg (by decide)]
 refine Y1 (wpAny_seqItems e1 e3 ?_)
 dsimp only
 refine Y1 ?_
 rw[<- Array.forIn_toList]
 refine Ru _ (fun rest r s'=>r.1=none/\s'=s/\∀v∈rest,∃i t,v=Vy i t) _ ?_ ?_ _ _ ⟨rfl,rfl,fun v hv=>?_⟩
 ·rintro v rest r s' ⟨hr,rfl,hall⟩
  obtain⟨i,t,rfl⟩:=hall v XR
  rw[show SZ 7 (Vy i t)=pure false by unfold SZ;rfl]
  refine Y1 (XS ?_)
  rw[if_neg XV]
  exact XS ⟨rfl,rfl,fun u hu'=>hall u (XT _ hu')⟩
 ·rintro⟨r1,r2⟩ s' ⟨hr,rfl,_⟩
  simp only at hr
  subst hr
  exact XS q
 ·simp at hv
  rcases hv with rfl | rfl
  ·exact⟨_,_,rfl⟩
  ·exact⟨_,_,rfl⟩
theorem zlv {x:Addr}{p:Int×Int}{l:List X9}{Q:Bool->X5->Prop}(hx:zM s.heap (.ref x) p)(hl:∀v∈l,∃b q,v=.ref b/\zM s.heap (.ref b) q)(q:Q false s):Xa (Xf prog w) A (searchCouldBeSeen (.ref x) l) Q E s:=by
 unfold searchCouldBeSeen
 refine Y1 ?_
 refine Ru _ (fun rest r s'=>r.1=none/\s'=s/\∀v∈rest,∃b q,v=.ref b/\zM s.heap (.ref b) q) _ ?_ ?_ _ _ ⟨rfl,rfl,hl⟩
 ·rintro v rest r s' ⟨hr,rfl,hall⟩
  obtain⟨b,q',rfl,hb⟩:=hall v XR
  dsimp only
  split
  ·exact XS ⟨rfl,rfl,fun u hu'=>hall u (XT _ hu')⟩
  ·refine Y1 ((tk2 prog w).quiet (J2 hx) ?_)
   rw[if_neg (by decide)]
   refine Y1 ((tk2 prog w).quiet (J2 hb) ?_)
   rw[if_neg (by decide)]
   refine Y1 (zej (d:=0) hx ?_)
   rw[if_neg XV]
   refine Y1 (zej (d:=0) hb ?_)
   rw[if_neg XV]
   exact XS ⟨rfl,rfl,fun u hu'=>hall u (XT _ hu')⟩
 ·rintro⟨r1,r2⟩ s' ⟨hr,rfl,_⟩
  simp only at hr
  subst hr
  exact XS q
theorem zlw {x:Addr}{p:Int×Int}{Q:Bool->X5->Prop}(hx:zM s.heap (.ref x) p)(q:Q true s):Xa (Xf prog w) A (PF 8 (.ref x)) Q E s:=by
 obtain⟨b,o,n,t,u,e,e1,e2,e3⟩:=hx
 cases e
 have hT:s.TypeIs (.ref x) "tuple":=⟨o,e1,e2⟩
 unfold PF
 refine Y1 (P0 hT PySem.F.slot_tuple_hash.lookup ?_)
 dsimp only
 refine Y1 (wpAny_seqItems e1 e3 ?_)
 dsimp only[Option.getD]
 refine Y1 ?_
 rw[<- Array.forIn_toList]
 refine Ru _ (fun rest r s'=>r.1=none/\s'=s/\∀v∈rest,∃i t,v=Vy i t) _ ?_ ?_ _ _ ⟨rfl,rfl,fun v hv=>?_⟩
 ·rintro v rest r s' ⟨hr,rfl,hall⟩
  obtain⟨i,t,rfl⟩:=hall v XR
  rw[show PF 7 (Vy i t)=pure true by unfold PF;rfl]
  refine Y1 (XS ?_)
  rw[if_neg (by decide)]
  exact XS ⟨rfl,rfl,fun u hu'=>hall u (XT _ hu')⟩
 ·rintro⟨r1,r2⟩ s' ⟨hr,rfl,_⟩
  simp only at hr
  subst hr
  exact XS q
 ·simp at hv
  rcases hv with rfl | rfl
  ·exact⟨_,_,rfl⟩
  ·exact⟨_,_,rfl⟩
theorem zfe {n:Nat}{h:Int}{x b:Addr}{p:Int×Int}{i:Nat}{Q:SetFound->X5->Prop}(hu:A.units<U6)(ho:s.heap.get? a=some (qB es ep t))(G:Good t (es.map (·.1)))(nd:(es.map (·.1)).toList.Nodup)
  (all:∀e∈es.toList,∃b q,e.2=WE b/\zM s.heap (.ref b) q) (hi:es[i]?=some (h,.ref b)) (hx:zM s.heap (.ref x) p) (hb:zM s.heap (.ref b) p)
  (hQ:Q (.there none) s):Xa (Xf prog w) A (RE a (.ref x) h true (n+1) none) Q E s:=by
 have hlt:i<(es.map (·.1)).size:=by
  rw[Vi]
  exact(Vz.mp hi).1
 have eh:(es.map (·.1)).toList.getD i 0=h:=by
  rw[<- zfd i hlt,hi]
  rfl
 obtain⟨nx,e⟩:=G.found (fun i=>(es[i]?.map (·.1)).getD 0) zfd nd hlt
 rw[eh] at e
 rw[RE]
 refine Y1 (Jb ho G ?_)
 dsimp only
 rw[G.odd,if_neg XV]
 generalize hm:t.probe _ h _=m
 have em:m=some (.candidate (t.place.getD i 0) i nx):=hm.symm.trans e
 subst em
 dsimp only
 have seen:∀v∈(es.filter (·.1==h)).toList.map (·.2),∃b q,v=WE b/\zM s.heap (.ref b) q:=fun v hv=>by
  obtain⟨e,he,rfl⟩:=Xj.mp hv
  rw[Array.toList_filter] at he
  exact all e (XX.mp he).1
 rw[hi]
 cases hl:t.led with
 | true =>
  rw[if_neg (by decide)]
  refine Y1 (V5 ((tk2 prog w).eqBool hu (J2 hb) (J2 hx) ?_))
  refine Y1 (Jb ho G ?_)
  dsimp only
  rw[decide_eq_true rfl,if_pos (by decide)]
  exact XS hQ
 | false =>
  rw[if_pos (by decide)]
  refine Y1 (zlv hx seen ?_)
  rw[if_neg XV]
  refine Y1 (V5 ((tk2 prog w).eqBool hu (J2 hb) (J2 hx) ?_))
  refine Y1 (Jb ho G ?_)
  dsimp only
  rw[decide_eq_true rfl,if_pos (by decide)]
  exact XS hQ
end
end ST
namespace ST
noncomputable def zcR (f:Int×Int->Int)(q:Addr×(Int×Int)):Int×X9:=(f q.2,WE q.1)
structure zdN (f:Int×Int->Int)(led:Bool)(h:Heap)(a:Addr)(ks:List (Addr×(Int×Int))):Prop where
 ex:∃es ep t,h.get? a=some (qB es ep t)/\es.toList=ks.map (zcR f)/\Good t (es.map (·.1))/\t.led=led/\t.plain=true
 nd:(ks.map (·.2)).Nodup
 cells:∀q∈ks,zM h (.ref q.1) q.2
 inb:∀q∈ks,InB q.2
theorem zM.up {h h':Heap}{x:Addr}{p:Int×Int}(H:zM h (.ref x) p){a:Addr}(hs:VD a h h'){o:Obj}(ho:h.get? a=some o)(hc:o.cls=.type "set"):zM h' (.ref x) p:=by
 obtain⟨b,o',n,t,u,e,e1,e2,e3⟩:=H
 cases e
 refine⟨x,o',n,t,u,rfl,?_,e2,e3⟩
 rw[hs.2 x fun z=>?_]
 ·exact e1
 ·subst z
  rw[ho] at e1
  cases e1
  rw[hc] at e2
  exact absurd e2 (by decide)
section
variable {prog:Xy}{w:W6}{A:WG}{E:X9->X5->Prop}{s:X5}{a:Addr}{es:Array (Int×X9)}{ep:Nat}{t:WB}{ks:List (Addr×(Int×Int))}{f:Int×Int->Int}{led:Bool}
theorem Yy (he:es.toList=ks.map (zcR f)):(es.map (·.1)).toList=ks.map fun q=>f q.2:=by
 rw[U2,he,WD]
 rfl
theorem zkd (inj:∀p q,InB p->InB q->f p=f q->p=q)(nd:(ks.map (·.2)).Nodup)(inb:∀q∈ks,InB q.2):(ks.map fun q=>f q.2).Nodup:=by
 rw[Xg,V1] at nd ⊢
 refine nd.imp_of_mem fun {x y} hx hy h e=>h (inj _ _ (inb x hx) (inb y hy) e)
theorem zgr {es':Array (Int×X9)}{t':WB}{Q:Unit->X5->Prop}(ho:s.heap.get? a=some (qB es ep t))(hz:es'.size<=64)
  (q:∀h',VD a s.heap h'->h'.get? a=some (qB es' (ep+1) t')->Q () { s with heap:=h' }):Xa (Xf prog w) A (storeSet a es' t') Q E s:=by
 refine wpAny_storeSet_of (o:=qB es ep t) ho rfl (q _ (UF ..) ?_) (X0 hz (by rw[Tn];decide))
 have:=VQ (Obj.putSet es' t') ho (by rw[putSet_of es' t' (o:=qB es ep t) rfl];rfl)
 rw[putSet_of es' t' (o:=qB es ep t) rfl] at this
 exact this
theorem zgs {α:Type}(d:α)(xs:Array α):∀(l:List Nat),(∀i∈l,i<xs.size)->l.filterMap (fun i=>xs[i]?)=l.map fun i=>xs.toList.getD i d
 | [],_=>rfl
 | i::l,h=>by
  have hi:=h i XR
  rw[Vx,Xb,Vs hi]
  dsimp only
  rw[zgs d xs l fun j hj=>h j (XT _ hj)]
  congr 1
  rw[WX,Xr,Vs hi]
  rfl
theorem zff {n:Nat}(hn:n=5\/n=19):¬ Tr (UA n)>XU:=by
 rw[Tn]
 rcases hn with rfl | rfl
 ·rw[show Tr (UA 5)=32 by decide +kernel]
  lia
 ·rw[show Tr (UA 19)=128 by decide +kernel]
  lia
theorem zlx {Q:Unit->X5->Prop}(ho:s.heap.get? a=some (qB es ep t))(hf:t.fits es.size=true)(hn:es.size=5\/es.size=19)(he:es.toList=ks.map (zcR f))
  (q:∀(h':Heap) (es':Array (Int×X9)) (t':WB) (ks':List (Addr×(Int×Int))),VD a s.heap h'->h'.get? a=some (qB es' (ep+1) t')->es'.toList=ks'.map (zcR f)->ks'.Perm ks->Good t' (es'.map (·.1))->t'.led=t.led->t'.plain=t.plain->Q () { s with heap:=h' }):Xa (Xf prog w) A (setRelay a (UA es.size)) Q E s:=by
 have hsz:(es.map (·.1)).size=es.size:=Vi ..
 obtain⟨t',order,e1,e2,e3,e4,e5,e6,e7⟩:=zhT t (es.map (·.1)) (by rw[hsz];exact hn)
 rw[hsz] at e1 e2 e3 e6
 have hlt:∀i∈order.toList,i<es.size:=fun i hi=>Wf.mp (e3.mem_iff.mp hi)
 have hkl:ks.length=es.size:=by
  rw[<- X6,he,ZB]
 have d0:Addr×(Int×Int):=(0,(0,0))
 have el:(order.filterMap (es[·]?)).toList=(order.toList.map fun i=>ks.getD i d0).map (zcR f):=by
  rw[Array.toList_filterMap,zgs (zcR f d0) es order.toList hlt,WD]
  refine Xi fun i hi=>?_
  have h1:=hlt i hi
  show es.toList.getD i _=zcR f (ks.getD i d0)
  rw[he,WX,XE,WX,X7 (by lia),Ug,Ux,Ux]
 have es_:(order.filterMap (es[·]?)).size=es.size:=by
  rw[<- X6,el,ZB,ZB,X6,e2]
 unfold setRelay
 refine Y1 (S1 (o:=qB es ep t) ho rfl hf ?_)
 dsimp only
 rw[if_neg (zff hn),e1]
 refine Y1 ?_
 show Xa (Xf prog w) A (do
  let es':=order.filterMap (es[·]?)
  if es'.size != es.size then unsupported "internal:set-table-lost-an-element"
  pure (es',t')) _ _ _
 dsimp only
 rw[es_,if_neg (by simp)]
 refine XS ?_
 dsimp only
 refine zgr ho (by rw[es_];lia) fun h' h1 h2=>q h' _ t' _ h1 h2 el ?_ ?_ e4 e5
 ·have:=e3.map fun i=>ks.getD i d0
  rw[<- hkl,Yx] at this
  exact this
 ·have eh:(order.filterMap (es[·]?)).map (·.1)=order.map fun i=>(es.map (·.1)).toList.getD i 0:=by
   apply Array.toList_inj.mp
   rw[Yy el,U2,WD]
   refine Xi fun i hi=>?_
   have h1:=hlt i hi
   show f (ks.getD i d0).2=_
   rw[Yy he,WX,WX,XE,X7 (by lia),Ug,Ux,Ux]
  rw[eh]
  exact e7
theorem zly {n:Nat}{x:Addr}{p:Int×Int}{Q:Bool->X5->Prop}(inj:∀p q,InB p->InB q->f p=f q->p=q)(hu:A.units<U6)(S:zdN f led s.heap a ks)(hx:zM s.heap (.ref x) p)(hb:InB p)(hn:p ∉ ks.map (·.2)->ks.length<63)
  (q:∀(b:Bool) (h':Heap) (ks':List (Addr×(Int×Int))),VD a s.heap h'->zdN f led h' a ks'->(∀c,c∈ks'.map (·.2)↔c∈ks.map (·.2)\/c=p)->(∀c∈ks',c∈ks\/c=(x,p))->Q b { s with heap:=h' }) :
  Xa (Xf prog w) A (setAddHashedIn a (.ref x) (f p) (n+1)) Q E s:=by
 obtain⟨⟨es,ep,t,ho,he,G,hl,hp⟩,nd,hc,inb⟩:=S
 have hkl:ks.length=es.size:=by
  rw[<- X6,he,ZB]
 generalize hh:f p=h
 rw[setAddHashedIn]
 refine Y1 (Jb ho G ?_)
 dsimp only
 rw[show byScan (.ref x) es=false by simp[byScan,Value.scannable],if_neg XV]
 by_cases hm:p∈ks.map (·.2)
 ·obtain⟨⟨b,p'⟩,hk,e⟩:=Xj.mp hm
  simp only at e
  subst e
  obtain⟨i,hi,ei⟩:=TQ hk
  have eg:es[i]?=some (h,.ref b):=by
   rw[<- Xr,he,XE,X7 hi,ei,<- hh]
   rfl
  unfold setSearch
  refine Y1 (zfe (n:=99999) hu ho G (by rw[Yy he];exact zkd inj nd inb) (fun e hm'=>?_) eg hx (hc _ hk) ?_)
  ·rw[he] at hm'
   obtain⟨c,h1,rfl⟩:=Xj.mp hm'
   exact⟨c.1,c.2,rfl,hc c h1⟩
  ·refine XS (q false s.heap ks (Heap.SameBut.refl _ _) ⟨⟨es,ep,t,ho,he,G,hl,hp⟩,nd,hc,inb⟩ (fun c=>⟨.inl,fun z=>z.elim id fun z=>z ▸ hm⟩) fun c h1=>.inl h1)
 ·have hlen:=hn hm
  have no:h ∉ (es.map (·.1)).toList:=fun z=>by
   rw[Yy he,<- hh] at z
   obtain⟨c,h1,h2⟩:=Xj.mp z
   exact hm (Xj.mpr ⟨c,h1,inj _ _ (inb c h1) hb h2⟩)
  unfold setSearch
  refine Y1 (zdM (n:=99999) ho G no fun j h1 h2 h3=>?_)
  dsimp only
  refine Y1 (Jb ho G ?_)
  obtain⟨f1,f2,f3⟩:=zlt G.up G.dum h2
  have hsz:t.place.size=es.size:=by rw[G.sz,Vi]
  have bs:Xu t.place j<=es.size:=by
   rw[<- hsz]
   exact(ZU G.up j).1
  generalize hpos:Xu t.place j=pos at f1 f2 f3 bs
  have ep1:(t.put j).1.plain=true:=by rw[f2];exact hp
  have el1:(t.put j).1.led=led:=by rw[f2];exact hl
  have hks:∃ks1,ks1=ks.take pos++(x,p)::ks.drop pos:=⟨_,rfl⟩
  obtain⟨ks1,hks⟩:=hks
  have he1:(Xe es pos (h,WE x)).toList=ks1.map (zcR f):=by
   rw[Qk,he,hks,Xv,Xb,SE,O5]
   simp only[zcR,hh]
  have hsz1:(Xe es pos (h,WE x)).size=es.size+1:=jU _ bs _
  have pm:ks1.Perm ((x,p)::ks):=by
   rw[hks]
   refine List.perm_middle.trans (List.Perm.cons _ ?_)
   rw[WR]
  have fits1:(t.put j).1.fits (Xe es pos (h,WE x)).size=true:=by
   have hr:=G.room
   have bp:pos<=t.place.size:=by rw[hsz];exact bs
   rw[hsz1,f2]
   unfold SetTable.fits O6
   simp only[G.dum,jU _ bp,hsz]
   rcases G.mask with e | e | e<;>simp[e]<;>rw[hsz,e] at hr<;>lia
  have fin:∀(h':Heap) (ks':List (Addr×(Int×Int))) (es':Array (Int×X9)) (ep':Nat) (t':WB),VD a s.heap h'->h'.get? a=some (qB es' ep' t')->es'.toList=ks'.map (zcR f)->ks'.Perm ((x,p)::ks)->Good t' (es'.map (·.1))->t'.led=led->t'.plain=true->Q true { s with heap:=h' }:=by
   intro h' ks' es' ep' t' hs hg hel hpm hG hle hpl
   have mem:∀c,c∈ks'↔c=(x,p)\/c∈ks:=fun c=>by rw[hpm.mem_iff,XB]
   refine q true h' ks' hs ⟨⟨es',ep',t',hg,hel,hG,hle,hpl⟩,?_,fun c hc'=>?_,fun c hc'=>?_⟩ (fun c=>?_) fun c hc'=>(mem c).mp hc' |>.symm
   ·rw[(hpm.map (·.2)).nodup_iff,Xb,VM]
    exact⟨hm,nd⟩
   ·rcases(mem c).mp hc' with rfl | z
    ·exact zM.up hx hs ho rfl
    ·exact zM.up (hc c z) hs ho rfl
   ·rcases(mem c).mp hc' with rfl | z
    ·exact hb
    ·exact inb c z
   ·rw[(hpm.map (·.2)).mem_iff,Xb,XB]
    exact Or.comm
  have eT:t.put j=((t.put j).1,pos):=by rw[<- f1]
  have fl:(t.put j).1.tooFull=decide ((es.size+1)*5 >= t.mask*3):=by
   have bp:pos<=t.place.size:=by rw[hsz];exact bs
   rw[f2]
   unfold SetTable.tooFull O6
   simp only[G.dum,jU _ bp,hsz]
   rfl
  have gd:¬ (es.size+1)*5 >= t.mask*3->Good (t.put j).1 ((Xe es pos (h,WE x)).map (·.1)):=fun hr=>by
   have:=G.put (h:=h) h1 h2 h3 (by rw[hsz];lia)
   rw[f1] at this
   have e:(Xe es pos (h,WE x)).map (·.1)=Xe (es.map (·.1)) pos h:=by
    apply Array.toList_inj.mp
    rw[U2,Qk,Qk,U2,Xv,Xb,SE,O5]
   rw[e]
   exact this
  have hroom:=G.room
  have hmask:=G.mask
  rw[hsz] at hroom
  dsimp only
  rw[eT]
  dsimp only
  generalize t.put j=T at ep1 el1 fits1 fl gd
  obtain⟨t1,p1⟩:=T
  dsimp only at ep1 el1 fits1 fl gd ⊢
  rw[ep1,if_pos rfl]
  refine Y1 (zlw hx ?_)
  rw[if_pos rfl]
  refine Y1 (zgr ho (by rw[hsz1];lia) fun h' hs hg=>?_)
  by_cases full:(es.size+1)*5 >= t.mask*3
  ·rw[fl,decide_eq_true full,if_pos (by decide)]
   rw[<- hsz1]
   refine Y1 (zlx (s:={ s with heap:=h' }) hg fits1 (by rw[hsz1];rcases hmask with e | e | e<;>rw[e] at full hroom<;>lia) he1 fun h2' es' t' ks' hs' hg' hel hpm hG hle hpl=>?_)
   exact XS (fin h2' ks' es' _ t' (hs.trans hs') hg' hel (hpm.trans pm) hG (hle.trans el1) (hpl.trans ep1))
  ·rw[fl,decide_eq_false full,if_neg (by decide)]
   exact XS (fin h' ks1 _ _ t1 hs hg he1 pm (gd full) el1 ep1)
theorem zlz {x:Addr}{p:Int×Int}{Q:Bool->X5->Prop}(hu:A.units<U6)(S:zdN (hP prog w) led s.heap a ks)(hx:zM s.heap (.ref x) p)(hb:InB p)(hn:p ∉ ks.map (·.2)->ks.length<63)
  (q:∀(b:Bool) (h':Heap) (ks':List (Addr×(Int×Int))),VD a s.heap h'->zdN (hP prog w) led h' a ks'->(∀c,c∈ks'.map (·.2)↔c∈ks.map (·.2)\/c=p)->(∀c∈ks',c∈ks\/c=(x,p))->Q b { s with heap:=h',toks:=s.toks+3 }) :
  Xa (Xf prog w) A (setAdd a (.ref x)) Q E s:=by
 unfold setAdd
 refine V5 (Y1 ((tk2 prog w).pyHash hu (J2 hx) ?_))
 show Xa (Xf prog w) A (setAddHashed a (.ref x) (hP prog w p)) Q E { s with toks:=s.toks+3 }
 unfold setAddHashed
 refine V5 ?_
 exact zly (n:=99999) (s:={ s with toks:=s.toks+3 }) (fun p q h1 h2 h3=>zoT h1 h2 h3) hu S hx hb hn q
end
end ST
namespace ST
theorem zji {α:Type}(next:Nat->Nat):∀(fuel k:Nat) (left:List α) (out:Array α),left.length=fuel->(pickOrder.go next fuel k left out).toList.Perm (out.toList++left)
 | 0,k,left,out,h=>by
  rw[Ve.mp h,W4]
  exact List.Perm.refl _
 | fuel+1,k,left,out,h=>by
  have hl:next k%left.length<left.length:=Sa _ (by lia)
  rw[pickOrder.go,X7 hl]
  dsimp only
  refine(zji next fuel (k+1) _ _ (by rw[List.length_eraseIdx_of_lt hl];lia)).trans ?_
  rw[SY,WZ]
  refine SN _ ?_
  have e:left=left.take (next k%left.length)++left[next k%left.length]::left.drop (next k%left.length+1):=by
   rw[<- WP hl,WR]
  rw[List.eraseIdx_eq_take_drop_succ]
  have e2:=@List.perm_middle _ left[next k%left.length] (left.take (next k%left.length)) (left.drop (next k%left.length+1))
  rw[<- e] at e2
  exact e2.symm
theorem zke {α:Type}(next:Nat->Nat)(xs:Array α):(Rz next xs).toList.Perm xs.toList:=by
 have h:=zji next xs.size 0 xs.toList #[] (by simp)
 rw[show (#[]:Array α).toList++xs.toList=xs.toList from rfl] at h
 exact h
theorem yT:Slot "set_iterator" "__next__" "set_iterator.__next__" :=
 .of (owner:="set_iterator") (n:="__next__") (by rw[So,T9];kernel_rfl) (by decide +kernel) (by decide +kernel) (by decide +kernel) (.inl (by decide +kernel)) (by rw[PB];kernel_rfl)
theorem zaR:Oy table "set_iterator.__next__"=some UG.«set_iterator.__next__»:=entryFor_of_tree (by kernel_rfl)
theorem zcS:Manifest.owners.lookup (String.ofList ['r','o','t','a','r','e','t','i','_','t','e','s'].reverse)=some Manifest.sig_set_iterator:=by kernel_rfl
theorem zb2 (a:X9):argsOk "set_iterator.__next__" ⟨[a],[]⟩:=by
 unfold argsOk
 rw[signature?_of (id:="set_iterator.__next__") (n:=['_','_','t','x','e','n','_','_']) (o:=['r','o','t','a','r','e','t','i','_','t','e','s']) (by kernel_rfl) zcS]
 kernel_rfl
theorem zfg:Oy table "set.__iter__"=some UG.«frozenset.__iter__»:=entryFor_alias (id':="frozenset.__iter__") (by kernel_rfl) rfl (by decide +kernel) (by kernel_rfl)
noncomputable def zcT (slot i:Nat)(a:Addr)(n ep:Nat):Obj:={ cls:=.type "set_iterator",data:=.fields #[Ua slot,Ua i,.ref a,Ua n,Ua ep] }
noncomputable def slotAt (byText:Bool)(t:WB)(i:Nat):Nat:=if byText then 0 else if i=0 then 0 else t.place.getD (i-1) 0+1
noncomputable def ZY (w:W6)(a:Addr)(ep:Nat)(es:Array (Int×X9)):Array (Int×X9):=if w.params.followText "set-order" then Rz (w.params.setOrder a ep) es else es
theorem zaS (w:W6)(a:Addr)(ep:Nat)(es:Array (Int×X9)):(ZY w a ep es).toList.Perm es.toList:=by
 unfold ZY
 split
 ·exact zke _ _
 ·exact List.Perm.refl _
section
variable {prog:Xy}{w:W6}{A:WG}{E:X9->X5->Prop}{s:X5}{a:Addr}{es:Array (Int×X9)}{ep:Nat}{t:WB}
theorem zfh {Q:Bool->X5->Prop}(q:Q (w.params.followText "set-order") s):Xa (Xf prog w) A setsByText Q E s:=by
 unfold setsByText
 exact Y1 (Rt (XS q))
theorem below_at {t:WB}(U:Up t.place){i:Nat}(hi:i<=t.place.size):Xu t.place (slotAt false t i)=i:=by
 obtain⟨b1,b2,b3⟩:=ZU U (slotAt false t i)
 unfold slotAt at *
 simp only[Wx,if_false] at *
 by_cases h0:i=0
 ·subst h0
  rw[if_pos rfl] at *
  rcases Nat.eq_zero_or_pos (Xu t.place 0) with e | e
  ·exact e
  ·have:=b2 0 e
   lia
 ·rw[if_neg h0] at *
  rcases RK (Xu t.place (t.place.getD (i-1) 0+1)) i with e | e | e
  ·have:=b3 (i-1) (by lia) (by lia)
   lia
  ·exact e
  ·have h1:=b2 i e
   have h2:=U (i-1) i (by lia) (by lia)
   lia
theorem zjj {i:Nat}{Q:Option (X9×Nat)->X5->Prop}(ho:s.heap.get? a=some (qB es ep t))(G:Good t (es.map (·.1)))(hl:t.led=!w.params.followText "set-order")(hp:t.plain=true)(hi:i<=es.size)
  (q1:∀v,(ZY w a ep es)[i]?.map (·.2)=some v->Q (some (v,slotAt (w.params.followText "set-order") t (i+1))) s) (q2:i=es.size->Q none s) :
  Xa (Xf prog w) A (setNext a (slotAt (w.params.followText "set-order") t i) i ep) Q E s:=by
 have hsz:t.place.size=es.size:=by rw[G.sz,Vi]
 have hos:(ZY w a ep es).size=es.size:=by
  rw[<- X6,(zaS w a ep es).length_eq,X6]
 unfold setNext
 refine Y1 (Jb ho G ?_)
 dsimp only
 refine Y1 (zfh ?_)
 cases hb:w.params.followText "set-order" with
 | true =>
  rw[if_pos rfl]
  rw[hb] at q1
  rw[if_neg (by simp)]
  unfold setWalk
  refine Y1 (Y1 (Jb ho G ?_))
  dsimp only
  refine Y1 (zfh ?_)
  rw[hb,if_pos rfl]
  refine Y1 (Rt (XS (XS ?_)))
  have eo:ZY w a ep es=Rz (w.params.setOrder a ep) es:=by
   unfold ZY
   rw[hb,if_pos rfl]
  rw[eo] at q1 hos
  show Q (OT _ (Rz (w.params.setOrder a ep) es)[i]?) s
  by_cases h:i<es.size
  ·have e:(Rz (w.params.setOrder a ep) es)[i]?=some (Rz (w.params.setOrder a ep) es)[i]:=Vs (by lia)
   rw[e] at q1 ⊢
   exact q1 _ rfl
  ·rw[WK (by lia)]
   exact q2 (by lia)
 | false =>
  rw[if_neg XV]
  rw[hb] at q1 hl
  have eo:ZY w a ep es=es:=by
   unfold ZY
   rw[hb,if_neg XV]
  rw[eo] at q1
  split
  ·rename_i h
   exact absurd h (by show ¬ ((!t.plain&&decide (es.size>1))=true);rw[hp];exact XV)
  refine Y1 ?_
  show Xa _ _ (if (!t.led && !es.isEmpty)=true then unsupported "set:maker-not-led" else pure ()) _ _ _
  rw[hl,if_neg (by simp)]
  refine XS ?_
  rw[below_at G.up (by lia)]
  by_cases h:i<es.size
  ·have e:es[i]?=some es[i]:=Vs h
   have e2:t.place[i]?=some (t.place.getD i 0):=J0 (by lia)
   rw[e] at q1 ⊢
   rw[e2]
   refine XS (q1 _ rfl)
  ·rw[WK (by lia)]
   exact XS (q2 (by lia))
end
end ST
namespace ST
theorem zek:Slot "set_iterator" "__iter__" "set_iterator.__iter__" :=
 .of (owner:="set_iterator") (n:="__iter__") (by rw[So,T9];kernel_rfl) (by decide +kernel) (by decide +kernel) (by decide +kernel) (.inl (by decide +kernel)) (by rw[PB];kernel_rfl)
theorem zhU:Oy table "set_iterator.__iter__"=some UG.«dict_keyiterator.__iter__»:=entryFor_alias (id':="dict_keyiterator.__iter__") (by kernel_rfl) rfl (by decide +kernel) (by kernel_rfl)
theorem zkf (a:X9):argsOk "set_iterator.__iter__" ⟨[a],[]⟩:=by
 unfold argsOk
 rw[signature?_of (id:="set_iterator.__iter__") (n:=['_','_','r','e','t','i','_','_']) (o:=['r','o','t','a','r','e','t','i','_','t','e','s']) (by kernel_rfl) zcS]
 kernel_rfl
section
variable {prog:Xy}{w:W6}{A:WG}{E:X9->X5->Prop}{s:X5}{a I:Addr}{es:Array (Int×X9)}{ep:Nat}{t:WB}
theorem zhV {slot i a n ep:Nat}(x y:Nat):SD (·.setIfInBounds 1 (Ua y)) (SD (·.setIfInBounds 0 (Ua x)) (zcT slot i a n ep))=zcT x y a n ep:=rfl
theorem zm9 {i:Nat}{Q:Option X9->X5->Prop}(hI:s.heap.get? I=some (zcT (slotAt (w.params.followText "set-order") t i) i a es.size ep))(ho:s.heap.get? a=some (qB es ep t))(G:Good t (es.map (·.1)))(hl:t.led=!w.params.followText "set-order")(hp:t.plain=true)(hi:i<es.size)
  (q:∀v h',(ZY w a ep es)[i]?.map (·.2)=some v->h'.get? I=some (zcT (slotAt (w.params.followText "set-order") t (i+1)) (i+1) a es.size ep)->VD I s.heap h'->Q (some v) { s with heap:=h' }) :
  Xa (Xf prog w) A (Sd (.ref I)) Q E s:=by
 have hT:s.TypeIs (.ref I) "set_iterator":=⟨_,hI,rfl⟩
 unfold Sd
 refine Y1 (RF (Rr (name:=Str.ofString "__next__") hT yT (Uv yT hT zaR ?_ (zb2 _))))
 unfold UG.«set_iterator.__next__»
 refine Y1 (XS ?_)
 refine Y1 (wpAny_fieldsOf hI rfl ?_)
 dsimp only[Ua]
 refine Y1 (Sl (o:=qB es ep t) ho rfl ?_ ?_)
 ·have:=G.fits
  rwa [Vi] at this
 rw[if_neg (by simp)]
 show Xa _ _ (setNext a (slotAt (w.params.followText "set-order") t i) i ep >>= _) _ _ _
 refine Y1 (zjj ho G hl hp (Te hi) (fun v hv=>?_) fun z=>absurd z (by lia))
 dsimp only
 refine Y1 (Pz hI rfl (by simp[zcT]) ?_)
 have h1:=VQ (SD (·.setIfInBounds 0 (Ua ((slotAt (w.params.followText "set-order") t (i+1):Nat):Int)))) hI rfl
 refine Y1 (Pz h1 rfl (by simp[zcT,SD]) ?_)
 have h2:=VQ (SD (·.setIfInBounds 1 (Ua ((i:Int)+1)))) h1 rfl
 refine XS ⟨_,rfl,XS (q v _ hv ?_ ((UF ..).trans (UF ..)))⟩
 rw[show ((i:Int)+1)=((i+1:Nat):Int) by lia] at h2 ⊢
 rw[zhV] at h2
 exact h2
theorem zoU {Q:Option X9->X5->Prop}(hh:A.handled=none)(hI:s.heap.get? I=some (zcT (slotAt (w.params.followText "set-order") t es.size) es.size a es.size ep))(ho:s.heap.get? a=some (qB es ep t))(G:Good t (es.map (·.1)))(hl:t.led=!w.params.followText "set-order")(hp:t.plain=true)
  (q:∀h',Heap.ExtBut I s.heap h'->Q none { s with heap:=h' }):Xa (Xf prog w) A (Sd (.ref I)) Q E s:=by
 have hT:s.TypeIs (.ref I) "set_iterator":=⟨_,hI,rfl⟩
 unfold Sd
 refine Y1 (RF (Rr (name:=Str.ofString "__next__") hT yT (Uv yT hT zaR ?_ (zb2 _))))
 unfold UG.«set_iterator.__next__»
 refine Y1 (XS ?_)
 refine Y1 (wpAny_fieldsOf hI rfl ?_)
 dsimp only[Ua]
 refine Y1 (Sl (o:=qB es ep t) ho rfl ?_ ?_)
 ·have:=G.fits
  rwa [Vi] at this
 rw[if_neg (by simp)]
 show Xa _ _ (setNext a (slotAt (w.params.followText "set-order") t es.size) es.size ep >>= _) _ _ _
 refine Y1 (zjj ho G hl hp (XW _) (fun v hv=>?_) fun _=>?_)
 ·have hos:(ZY w a ep es).size=es.size:=by
   rw[<- X6,(zaS w a ep es).length_eq,X6]
  rw[WK (by lia)] at hv
  cases hv
 dsimp only
 refine Y1 (Pz hI rfl (by simp[zcT]) ?_)
 refine Y1 ?_
 simp only[newExc,newTuple]
 refine Y1 (VR ?_ (by size_fits))
 refine Y1 (m:=R9 _ _) (OJ (a:=Us) (by first | rfl | (simp only[R9];rfl)) ?_)
 refine VR ?_ (by size_fits)
 simp only[raiseNew]
 refine Y1 (wpAny_handled ?_)
 rw[show A.in1.handled=none from hh]
 refine Y1 (XS (wpAny_throw ?_))
 refine Y1 (wpAny_isInstance (T:="StopIteration") (b:=true) ⟨_,W5 _ rfl,rfl⟩ isSubtype_stop ?_)
 exact XS (q _ (((UF ..).extBut.push _).push _))
theorem zna {slot i n:Nat}{Q:X9->X5->Prop}(hI:s.heap.get? I=some (zcT slot i a n ep))(q:Q (.ref I) s):Xa (Xf prog w) A (pyIter (.ref I)) Q E s:=by
 have hT:s.TypeIs (.ref I) "set_iterator":=⟨_,hI,rfl⟩
 refine wpAny_pyIter_slot hT zek (Uv zek hT zhU ?_ (zkf _))
 exact XS ⟨_,rfl,"set_iterator",_,hT,yT.lookup,q⟩
theorem walks (hh:A.handled=none)(hne:a≠I)(G:Good t (es.map (·.1)))(hl:t.led=!w.params.followText "set-order")(hp:t.plain=true) :
  Walks prog w A I [I,a] [I] es.size (fun i v=>(ZY w a ep es)[i]?.map (·.2)=some v) (fun i h=>h.get? I=some (zcT (slotAt (w.params.followText "set-order") t i) i a es.size ep)/\h.get? a=some (qB es ep t)) where
 sub:=fun b hb=>by simp at hb;simp[hb]
 frame:=fun _ _ _ st hk=>⟨hk I (by simp) _ st.1,hk a (by simp) _ st.2⟩
 item:=fun i s Q E hi st hQ=>zm9 st.1 st.2 G hl hp hi fun v h' hv h1 hs=>hQ v h' s.toks hv ⟨h1,(hs.2 a hne).trans st.2⟩ fun b o hb e=>(hs.2 b fun z=>hb (by simp[z])).trans e
 done:=fun s Q E st hQ=>zoU hh st.1 st.2 G hl hp fun h' he=>hQ h' s.toks fun b o hb e=>he b o (fun z=>hb (by simp[z])) e
 self:=fun _ _ _ _ st hQ=>zna st.1 hQ
theorem zgt:splitId "set.__len__"=some ("set","__len__"):=by decide +kernel
theorem zgu {Q:List X9->X5->Prop}(hh:A.handled=none)(ho:s.heap.get? a=some (qB es ep t))(G:Good t (es.map (·.1)))(hl:t.led=!w.params.followText "set-order")(hp:t.plain=true)(hn:es.size<=64)
  (q:∀vs h' tk,vs.Perm (es.toList.map (·.2))->(∀b o,s.heap.get? b=some o->h'.get? b=some o)->s.heap.objs.size<=h'.objs.size->Q vs { s with heap:=h',toks:=tk }):Xa (Xf prog w) A (collect (.ref a)) Q E s:=by
 have hlt:a<s.heap.objs.size:=XF ho
 unfold collect
 refine Y1 (wpAny_runValue (VL PySem.F.entry_proto_collect ?_))
 rw[Wa PySem.F.plain_proto_collect _]
 show Xa _ A.in1 (newList [] >>= fun l=>RO (.builtin "list.__iadd__" ⟨[l,.ref a],[]⟩)) _ _ s
 refine Y1 (VR ?_)
 refine XS ⟨UL Rq _,VL PySem.F.entry_list_iadd ?_⟩
 rw[Wa Rq _]
 show Xa _ A.in1 (Sf (.ref s.heap.objs.size) (.ref a) (.ref s.heap.objs.size)) _ _ _
 generalize hL:(s.heap.push { cls:=.type "list",data:=.seq ([]:List X9).toArray })=h1
 have ho1:h1.get? a=some (qB es ep t):=by rw[<- hL];exact XY _ ho
 have hS1:h1.get? s.heap.objs.size=some { cls:=.type "list",data:=.seq #[] }:=by rw[<- hL];exact W5 _ rfl
 have kp1:∀b o,s.heap.get? b=some o->h1.get? b=some o:=fun b o e=>by rw[<- hL];exact XY _ e
 have z1:h1.objs.size=s.heap.objs.size+1:=by rw[<- hL];exact Vj ..
 have hT:SF { s with heap:=h1 } (.ref a) "set":=⟨_,ho1,rfl⟩
 have h1':RB (.ref s.heap.objs.size) (.ref a)=false:=by
  simp[RB]
  exact Uq hlt
 unfold Sf
 refine Y1 (Rg hT ?_)
 rw[if_neg (by rw[h1'];decide)]
 have hf:t.fits es.size=true:=by
  have:=G.fits
  rwa [Vi] at this
 refine Y1 (wpAny_pyIter_slot hT PQ (Uv PQ hT zfg ?_ (PySem.F.args_set_iter_1 _)))
 unfold UG.«frozenset.__iter__» Builtin.Frozenset.slot0 slotArgs
 simp only[List.isEmpty_nil,Bool.not_true,Wx,↓reduceIte,bind_assoc,Uf,bne_self_eq_false]
 unfold Builtin.Frozenset.addrOf Builtin.Frozenset.sizeOf
 refine Y1 (XS ?_)
 dsimp only
 refine Y1 (XS ?_)
 refine Y1 (Y1 (Sl (s:={ s with heap:=h1 }) (o:=qB es ep t) ho1 rfl hf (XS ?_)))
 unfold setDrawn
 refine Y1 (Y1 (S1 (s:={ s with heap:=h1 }) (o:=qB es ep t) ho1 rfl hf ?_))
 dsimp only
 refine Y1 (zfh (XS ?_))
 split
 ·rename_i h
  exact absurd h (by show ¬ ((!w.params.followText "set-order" && (!t.plain&&decide (es.size>1)))=true);rw[hp];simp)
 refine Y1 (XS ?_)
 unfold setEpoch
 refine Y1 (Y1 (S1 (s:={ s with heap:=h1 }) (o:=qB es ep t) ho1 rfl hf (XS ?_)))
 unfold newFields
 refine Y1 (VR ?_)
 generalize hI:h1.push { cls:=.type "set_iterator",data:=.fields (List.toArray [Ua 0,Ua 0,WE a,Ua ((es.size:Nat):Int),Ua ((ep:Nat):Int)]) }=h2
 have ho2:h2.get? a=some (qB es ep t):=by rw[<- hI];exact XY _ ho1
 have hS2:h2.get? s.heap.objs.size=some { cls:=.type "list",data:=.seq #[] }:=by rw[<- hI];exact XY _ hS1
 have kp2:∀b o,s.heap.get? b=some o->h2.get? b=some o:=fun b o e=>by rw[<- hI];exact XY _ (kp1 b o e)
 have hI2:h2.get? h1.objs.size=some (zcT 0 0 a es.size ep):=by rw[<- hI];exact W5 _ rfl
 have hTI:SF { s with heap:=h2 } (.ref h1.objs.size) "set_iterator":=⟨_,hI2,rfl⟩
 have hT2:SF { s with heap:=h2 } (.ref a) "set":=⟨_,ho2,rfl⟩
 refine XS ⟨_,rfl,"set_iterator",_,hTI,yT.lookup,?_⟩
 refine Y1 (V5 ?_)
 unfold Builtin.List.listLengthHint
 refine Y1 (P0 hT2 PySem.F.slot_set_len.lookup ?_)
 dsimp only
 rw[zgt]
 dsimp only
 refine Y1 (wpAny_isInstance (b:=true) hT2 sub_set_self ?_)
 rw[if_neg (by decide)]
 show Xa _ _ (typeOf (WE a) >>= _) _ _ _
 refine Y1 (Rg hT2 ?_)
 show Xa _ _ (pure false) _ _ _
 refine XS ?_
 show Xa _ A.in1 (rule "list.extend.makes-room" >>= fun _=>Builtin.List.listTouch (.ref s.heap.objs.size) >>= fun _=>RO (.builtin "list.extend.loop" ⟨[.ref s.heap.objs.size,.ref h1.objs.size,.ref s.heap.objs.size],[]⟩)) _ _ _
 refine Y1 (Ur (Y1 ?_))
 show Xa _ A.in1 (updateSeq s.heap.objs.size (·.push .none) >>= fun _=>updateSeq s.heap.objs.size (·.pop)) _ _ _
 refine Y1 (wpAny_updateSeq hS2 rfl ?_)
 have hS3:=VQ (Vc (·.push Us)) hS2 rfl
 refine wpAny_updateSeq hS3 rfl ?_
 have hS4:=VQ (Vc (·.pop)) hS3 rfl
 have oth:∀b o,b≠s.heap.objs.size->h2.get? b=some o->((h2.update s.heap.objs.size (Vc (·.push Us))).update s.heap.objs.size (Vc (·.pop))).get? b=some o :=
  fun b o hb e=>(Uk _ _ (T7 hb)).trans ((Uk _ _ (T7 hb)).trans e)
 generalize (h2.update s.heap.objs.size (Vc (·.push Us))).update s.heap.objs.size (Vc (·.pop))=h4 at hS4 oth
 have hne:a≠h1.objs.size:=by
  rw[z1]
  exact Xk (WJ hlt)
 have hSf:s.heap.objs.size ∉ [h1.objs.size,a]:=by
  rw[z1]
  simp only[XB,VH,or_false,not_or]
  exact⟨Xk (Rx _),Uq hlt⟩
 have sl0:slotAt (w.params.followText "set-order") t 0=0:=by
  unfold slotAt
  split<;>rfl
 have hos:(ZY w a ep es).size=es.size:=by
  rw[<- X6,(zaS w a ep es).length_eq,X6]
 refine XS ⟨UL PySem.F.plain_extend_loop _,codeAny_extend_loopS ((walks (A:=A.in1) (prog:=prog) (ep:=ep) hh hne G hl hp).toS) (X0 hn (by rw[Tn];decide)) _ hSf _ es.size 0 _ _ _ rfl (WW _)
  ⟨by rw[sl0];exact oth _ _ (by rw[z1];exact Vp _) hI2,oth _ _ (Xk hlt) ho2⟩ hS4 (ItemsOf.nil _) fun s' acc' c' hm hS' hacc=>?_⟩
 show Xa _ A (load s.heap.objs.size >>= _) _ _ s'
 refine Y1 (wpAny_load hS' ?_)
 obtain⟨h',g',d',tk',os'⟩:=s'
 have eg:g'=s.gens:=hm.gens
 have ed:d'=s.drawn:=hm.drawn
 have eo:os'=s.os:=hm.os
 subst eg
 subst ed
 subst eo
 refine XS (q _ _ _ ?_ (fun b o e=>?_) (Te (XF hS')))
 ·have e:acc'.toList=(ZY w a ep es).toList.map (·.2):=by
   refine SX fun i=>?_
   rw[Xr,XE,Xr]
   by_cases hi:i<es.size
   ·have hi':i<acc'.size:=by rw[hacc.1];exact hi
    have e1:acc'[i]?=some acc'[i]:=Vs hi'
    rw[e1]
    exact(hacc.2 i _ e1).symm
   ·rw[WK (by rw[hacc.1];lia),WK (by lia)]
    rfl
  rw[e]
  exact(zaS w a ep es).map _
 ·have hb:b<s.heap.objs.size:=XF e
  refine hm.heap b o (fun z=>?_) (oth b o (Xk hb) (kp2 b o e))
  rcases XB.mp z with z | z
  ·exact V6 _ (z ▸ hb)
  ·have z':b=h1.objs.size:=by simpa using z
   rw[z',z1] at hb
   exact absurd hb (Nat.not_lt.mpr (V3 _))
end
end ST
open PySem PySem.Spec PyProof.Rows PySem.W
namespace ST
noncomputable def zgv (prog:Xy)(w:W6)(d:Addr)(ks:List (Addr×(Int×Int))):HO:=.ext fun h=>∃es ep t,h.get? d=some (qB es ep t)/\es.toList=ks.map (zcR (hP prog w))/\Good t (es.map (·.1))/\t.led=(!w.params.followText "set-order")/\t.plain=true
section
variable {prog:Xy}{w:W6}{A:WG}{R:Result->X5->Prop}{I:Addr}{fp wr:List Addr}{G:Array Sz->Array Sz->Prop}{n:Nat}{P:Nat->X9->Prop}{St:Nat->X5->Prop}{led:Bool}
theorem zlA {h0:Heap}(W:WalksS prog w A.in1 I fp wr G n P St)(D:Addr)(hDf:D ∉ fp)(hD0:h0.get? D=none)(hw0:∀b∈wr,h0.get? b=none)(ps:List (Int×Int))(hlen:ps.length=n)(hu:A.units+1<U6)
  (T:Addr->Int×Int->Prop) (hT:∀x p,T x p->zM h0 (.ref x) p) (hP':∀i v,P i v->∃x p,v=.ref x/\ps[i]?=some p/\T x p) (hb:∀p∈ps,InB p) (few:∀l:List (Int×Int),l.Nodup->(∀c∈l,c∈ps)->l.length<=63) :
  ∀(k i:Nat) (s:X5) (ks:List (Addr×(Int×Int))),n-i=k->i<=n->St i s->(∀b o,h0.get? b=some o->s.heap.get? b=some o)->zdN (hP prog w) led s.heap D ks->(∀c,c∈ks.map (·.2)↔c∈ps.take i)->(∀q∈ks,T q.1 q.2) ->
   (∀s' ks',Moved (D::wr) G s s'->zdN (hP prog w) led s'.heap D ks'->(∀c,c∈ks'.map (·.2)↔c∈ps)->(∀q∈ks',T q.1 q.2)->R (.ok (.ret .none)) s') ->
   Ti (Xf prog w) A (.builtin "set.update.loop" ⟨[.ref D,.ref I],[]⟩) R s:=by
 have hDw:D ∉ wr:=fun h=>hDf (W.sub _ h)
 have more:∀b∈wr,b∈D::wr:=fun b hb=>XT _ hb
 have pair_up:∀{h:Heap} {x:Addr} {p:Int×Int},(∀b o,h0.get? b=some o->h.get? b=some o)->T x p->zM h (.ref x) p:=fun kp hx=>by
  obtain⟨b,o,m,t,u,e,e1,e2,e3⟩:=hT _ _ hx
  exact⟨b,o,m,t,u,e,kp _ _ e1,e2,e3⟩
 have keep_to:∀{s s':X5},Moved wr G s s'->(∀b o,h0.get? b=some o->s.heap.get? b=some o)->∀b o,h0.get? b=some o->s'.heap.get? b=some o:=fun hm kp b o e =>
  hm.heap b o (fun hb=>by
   rw[hw0 b hb] at e
   cases e) (kp b o e)
 have set_to:∀{s s':X5} {ks:List (Addr×(Int×Int))},Moved wr G s s'->(∀b o,h0.get? b=some o->s'.heap.get? b=some o)->(∀q∈ks,T q.1 q.2)->zdN (hP prog w) led s.heap D ks->zdN (hP prog w) led s'.heap D ks :=
  fun hm kp hk ⟨⟨es,ep,t,e1,e2⟩,e3,_,e5⟩=>⟨⟨es,ep,t,hm.heap D _ hDw e1,e2⟩,e3,fun q hq=>pair_up kp (hk q hq),e5⟩
 intro k
 induction k with
 | zero =>
  intro i s ks hk hi hst kp hS hm' hTk hR
  have hin:i=n:=by lia
  subst hin
  refine VL TL ?_
  rw[Wa U8 _]
  show Xa _ A.in1 (Sd (.ref I) >>= _) _ _ s
  refine Y1 (W.done s _ _ hst fun s' hm=>?_)
  refine XS (hR s' ks (hm.mono more) (set_to hm (keep_to hm kp) hTk hS) (fun c=>?_) hTk)
  rw[hm' c,<- hlen,XG]
 | succ k ih =>
  intro i s ks hk hi hst kp hS hm' hTk hR
  have hlt:i<n:=by lia
  refine VL TL ?_
  rw[Wa U8 _]
  show Xa _ A.in1 (Sd (.ref I) >>= _) _ _ s
  refine Y1 (W.item i s _ _ hlt hst fun v s' hPv hst' hm=>?_)
  obtain⟨x,p,rfl,hq,hx⟩:=hP' i v hPv
  have kp':=keep_to hm kp
  have hS':=set_to hm kp' hTk hS
  have hpm:p∈ps:=X2 hq
  have tk:ps.take (i+1)=ps.take i++[p]:=by
   rw[XJ,hq]
   rfl
  refine Y1 (V5 (zlz (show A.in1.units<U6 from hu) hS' (pair_up kp' hx) (hb p hpm) (fun hno=>?_) fun b h' ks' hs' hS2 hmem zp7=>?_))
  ·have:=few (p::ks.map (·.2)) (VM.mpr ⟨hno,hS'.nd⟩) fun c hc=>by
    rcases XB.mp hc with rfl | hc
    ·exact hpm
    ·exact Wo ((hm' c).mp hc)
   rw[Xw,ZB] at this
   lia
  have kp2:∀b o,h0.get? b=some o->h'.get? b=some o:=fun b o e=>by
   rw[hs'.2 b (fun z=>by
    rw[z,hD0] at e
    cases e)]
   exact kp' b o e
  refine XS ⟨UL U8 _,?_⟩
  refine ih (i+1) _ ks' (by lia) hlt (W.frame _ s' _ _ hst' (Uw _ _) fun b hb o e=>?_) kp2 hS2 (fun c=>?_) (fun q hq'=>?_) fun s'' ks'' hm'' hS'' hc'' hT''=>?_
  ·rw[hs'.2 b (fun z=>hDf (by rw[<- z];exact hb))]
   exact e
  ·rw[hmem c,hm' c,tk,XI,List.mem_singleton]
  ·rcases zp7 q hq' with z | z
   ·exact hTk q z
   ·rw[z]
    exact hx
  ·refine hR s'' ks'' (Moved.trans W.gtrans ((hm.mono more).then_heap (Uw _ _) fun b o hb e=>?_) hm'') hS'' hc'' hT''
   rw[hs'.2 b (fun z=>hb (by rw[z];exact XR))]
   exact e
end
section
variable {prog:Xy}{w:W6}{A:WG}{E:X9->X5->Prop}{s:X5}
theorem znb (a:X9){Q₁:X9->X5->Prop}(h:Q₁ (.ref s.heap.objs.size) { s with heap:=s.heap.push (qB #[] 0 (.fresh 0 0 (!w.params.followText "set-order"))) }) :
  Ti (Xf prog w) A (.call (.builtin "set.__new__") ⟨[.type "set",a],[]⟩) (wants Q₁ E) s:=by
 refine codeAny_of_tree ?_
 show Xa _ A.in1 (do checkBuiltinCall "set.__new__" ⟨[.type "set",a],[]⟩;RO (.builtin "set.__new__" ⟨[.type "set",a],[]⟩)) _ _ s
 refine Y1 (OJ (PySem.F.newCall_set_1 a) (XS ⟨UL PP _,VL PySem.F.entry_set_new ?_⟩))
 rw[Wa PP _]
 unfold UG.«set.__new__» Builtin.Frozenset.newClass
 have hsub:=sub_set_self
 obtain⟨hp,g,d,tk,os⟩:=s
 dsimp only
 wp_walk
 refine Rt (XS ?_)
 dsimp only
 simp only[newObj]
 refine Y1 (wpAny_alloc (XS ?_))
 exact XS h
theorem zhW (led:Bool):Good (.fresh 0 0 led) #[]:=⟨.inl rfl,rfl,rfl,fun i j _ h=>absurd h (by simp[SetTable.fresh]),fun i h=>absurd h (by simp[SetTable.fresh]),by simp[SetTable.fresh],fun i h=>absurd h (by simp[SetTable.fresh])⟩
end
end ST
namespace ST
section
variable {prog:Xy}{w:W6}{A:WG}{E:X9->X5->Prop}{s:X5}
set_option maxHeartbeats 8000000 in
theorem zlB {l:Addr}{its:Array X9}{ps:List (Int×Int)}{T:Addr->Int×Int->Prop}{Q:X9->X5->Prop}(hh:A.handled=none)(hu:A.units+64<U6)(hl:s.heap.IsList l its)(hlen:ps.length=its.size)
  (hT:∀x p,T x p->zM s.heap (.ref x) p) (hP':∀(i:Nat) (v:X9),its[i]?=some v->∃x p,v=WE x/\ps[i]?=some p/\T x p) (hb:∀p∈ps,InB p) (few:∀l:List (Int×Int),l.Nodup->(∀c∈l,c∈ps)->l.length<=63)
  (h:∀(h':Heap) (tk:Nat) (ks:List (Addr×(Int×Int))),(∀b o,s.heap.get? b=some o->h'.get? b=some o)->zdN (hP prog w) (!w.params.followText "set-order") h' s.heap.objs.size ks->(∀c,c∈ks.map (·.2)↔c∈ps)->(∀q∈ks,T q.1 q.2)->Q (.ref s.heap.objs.size) { s with heap:=h',toks:=tk }) :
  Xa (Xf prog w) A (call (.type "set") [.ref l]) Q E s:=by
 obtain⟨c,tl,hmro⟩:=PySem.F.called_set.mro
 have hmade:=PySem.F.called_set.made
 have hsub:=PySem.F.called_set.sub
 refine wpAny_call (codeAny_of_tree ?_)
 show Xa _ _ (callAny (.type "set") _) _ _ _
 refine XS ⟨Code.quiet_builtin _ (by decide +kernel),VL PySem.F.entry_type_call ?_⟩
 rw[Around.under_plain (weight_type_call_type "set" [.ref l] []) rfl]
 have h1:=PySem.F.called_set.notType
 have h2:=PySem.F.called_set.canCreate
 have hct:=PySem.F.typeCall_set_1 (.ref l)
 repeat (any_goals (first | assumption | wp_step))
 refine Sj (znb (.ref l) (E:=E) (Q₁:=fun obj s₁=>obj=.ref s.heap.objs.size/\s₁={ s with heap:=s.heap.push (qB #[] 0 (.fresh 0 0 (!w.params.followText "set-order"))) }) ⟨rfl,rfl⟩) fun r s₁ hr=>?_
 cases r with
 | error e=>exact hr
 | ok fl =>
  cases fl with
  | ret obj =>
   obtain⟨rfl,rfl⟩:=hr
   generalize hled:(!w.params.followText "set-order")=led at h ⊢
   have hS:(s.heap.push (qB #[] 0 (.fresh 0 0 led))).get? s.heap.objs.size=some (qB #[] 0 (.fresh 0 0 led)):=W5 _ rfl
   have hTy:SF { s with heap:=s.heap.push (qB #[] 0 (.fresh 0 0 led)) } (.ref s.heap.objs.size) "set":=⟨_,hS,rfl⟩
   have hli:=PySem.F.called_set.init.lookup
   have hbi:=PySem.F.called_set.init.bind (.ref s.heap.objs.size)
   repeat (any_goals (first | assumption | wp_step))
   refine Sj (Pp (R:=wants (fun r s₂=>r=.none/\∃h' tk ks,s₂={ s with heap:=h',toks:=tk }/\zdN (hP prog w) led h' s.heap.objs.size ks/\(∀c,c∈ks.map (·.2)↔c∈ps)/\(∀q∈ks,T q.1 q.2) /\
     (∀b o,s.heap.get? b=some o->h'.get? b=some o)) E) PySem.F.called_set.init.plain PySem.F.entry_set_init (check_set_init_1 hTy ?_)) fun r₂ s₂ hr₂=>?_
   ·obtain⟨ol,hol,hcl,nl,hdl⟩:=hl
    obtain⟨ocls,odict,odata,oslots⟩:=ol
    simp only at hcl hdl
    subst hcl
    subst hdl
    have hol':(s.heap.push (qB #[] 0 (.fresh 0 0 led))).get? l=some { cls:=.type "list",dict:=odict,data:=.seq its nl,slots:=oslots }:=XY _ hol
    have hsls:=PySem.F.sub_list_set
    have hslf:=PySem.F.sub_list_frozenset
    have hne:(Rl "list" == Rl "dict")=false:=by decide
    have hl1:(s.heap.push (qB #[] 0 (.fresh 0 0 led))).IsList l its:=⟨_,hol',rfl,nl,rfl⟩
    unfold UG.«set.__init__» noKeywords Builtin.Frozenset.updateFrom
    unfold qB at hS hTy hol' hl1 ⊢
    generalize hPI:pyIter=PI
    wp_walk
    subst hPI
    refine T6 hl1 ?_
    refine Y1 (wpAny_runValue ?_)
    have hlS:l<s.heap.objs.size:=XF hol
    have zS:(s.heap.push (qB #[] 0 (.fresh 0 0 led))).objs.size=s.heap.objs.size+1:=Vj ..
    have hneI:l≠(s.heap.push (qB #[] 0 (.fresh 0 0 led))).objs.size:=by
     rw[zS]
     exact Xk (WJ hlS)
    have hSf:s.heap.objs.size ∉ [(s.heap.push (qB #[] 0 (.fresh 0 0 led))).objs.size,l]:=by
     rw[zS]
     simp only[XB,VH,or_false,not_or]
     exact⟨Xk (Rx _),Uq hlS⟩
    refine zlA (h0:=s.heap) (led:=led) ((Walks.list (by simp[hh]) (s.heap.push (qB #[] 0 (.fresh 0 0 led))).objs.size l hneI its).toS) s.heap.objs.size hSf (UQ (XW _)) (fun b hb=>?_) ps hlen (by show A.units+1+1+1<U6;lia) T hT hP' hb few (its.size-0) 0 _ [] rfl (WW _)
     ⟨⟨_,W5 _ rfl,rfl,rfl⟩,(hl1.push _)⟩ (fun b o z=>XY _ (XY _ z)) ⟨⟨#[],0,.fresh 0 0 led,XY _ hS,rfl,(by rw[Array.map_empty];exact zhW led),rfl,rfl⟩,TY,(fun q z=>nomatch z),(fun q z=>nomatch z)⟩ (fun c=>by simp) (fun q z=>nomatch z) ?_
    ·have e:b=(s.heap.push (qB #[] 0 (.fresh 0 0 led))).objs.size:=by simpa using hb
     rw[e,zS]
     exact UQ (V3 _)
    ·intro s' ks hm hS' hm' hT'
     obtain⟨h',g',d',tk',os'⟩:=s'
     have eg:g'=s.gens:=hm.gens
     have ed:d'=s.drawn:=hm.drawn
     have eo:os'=s.os:=hm.os
     subst eg
     subst ed
     subst eo
     show Xa _ _ _ _ _ _
     refine XS ?_
     show Xa _ _ (ret Us) _ _ _
     refine XS ⟨rfl,h',tk',ks,rfl,hS',hm',hT',fun b o e=>?_⟩
     have lt:=XF e
     refine hm.heap b o (fun z=>?_) (XY _ (XY _ e))
     rcases XB.mp z with z | z
     ·exact V6 _ (z ▸ lt)
     ·have z':b=(s.heap.push (qB #[] 0 (.fresh 0 0 led))).objs.size:=by simpa using z
      rw[z',zS] at lt
      exact absurd lt (Nat.not_lt.mpr (V3 _))
   ·cases r₂ with
    | error e=>exact hr₂
    | ok fl₂ =>
     cases fl₂ with
     | ret r =>
      obtain⟨rfl,h',tk,ks,rfl,hS',hm',hT',hk'⟩:=hr₂
      repeat (any_goals (first | assumption | wp_step))
      exact h _ _ _ hk' hS' hm' hT'
     | _=>exact hr₂.elim
  | _=>exact hr.elim
end
end ST
namespace ST
theorem zcU {α β:Type}(f:α->β){l l':List β}(h:l.Perm l'):∀ks:List α,l'=ks.map f->∃js:List α,js.Perm ks/\l=js.map f:=by
 induction h with
 | nil=>exact fun ks e=>⟨ks,List.Perm.refl _,e⟩
 | cons x h ih =>
  intro ks e
  cases ks with
  | nil=>simp at e
  | cons k ks =>
   rw[Xb] at e
   injection e with e1 e2
   obtain⟨js,h1,h2⟩:=ih ks e2
   exact⟨k::js,h1.cons k,by rw[Xb,e1,h2]⟩
 | swap x y l =>
  intro ks e
  match ks,e with
  | [],e=>simp at e
  | [k],e=>simp at e
  | k1::k2::ks,e =>
   rw[Xb,Xb] at e
   injection e with e1 e2
   injection e2 with e2 e3
   exact⟨k2::k1::ks,List.Perm.swap k1 k2 ks,by rw[Xb,Xb,e1,e2,e3]⟩
 | trans h1 h2 ih1 ih2 =>
  intro ks e
  obtain⟨js,a,b⟩:=ih2 ks e
  obtain⟨is,c,d⟩:=ih1 js b
  exact⟨is,c.trans a,d⟩
section
variable {X:Cx}
theorem zkg (hu:X.A.units+64<U6)(hh:X.A.handled=none):yQ X (.type "set") (fun xs H Q=>∃l us ps,xs=[.ref l]/\SqL X.K H l us/\jC H us ps/\(∀p∈ps,InB p)/\(∀l:List (Int×Int),l.Nodup->(∀c∈l,c∈ps)->l.length<=63) /\
  ∀d ks,H d=none->(∀q∈ks,H q.1=some (.tup [.int q.2.1,.int q.2.2]))->(ks.map (·.2)).Nodup->(∀c,c∈ks.map (·.2)↔c∈ps)->Q (.ref d) (upd H d (zgv X.prog X.w d ks))):=by
 intro pins s σ H xs us' Q I r h
 obtain⟨l,us,ps,rfl,hq,ht,hb,few,q⟩:=h
 obtain⟨u,rfl,ru⟩:=vals1 r
 cases ru
 obtain⟨its,rv,pl,hz⟩:=I.list hq
 have hp:=jC.pairs I ht rv
 have hlp:its.length=ps.length:=Paired.length hp
 have tw:∀{us:List V} {ps:List (Int×Int)} {its:List X9},jC H us ps->Vals us its->∀(i:Nat) (v:X9),its[i]?=some v->∃x p,v=WE x/\ps[i]?=some p/\H x=some (.tup [.int p.1,.int p.2]):=by
  intro us ps its h1
  induction h1 generalizing its with
  | nil =>
   intro r i v e
   cases r
   simp at e
  | cons a t ih =>
   intro r i v e
   obtain⟨x,rfl,hx⟩:=a
   cases r with
   | cons r1 r2 =>
    cases r1
    cases i with
    | zero =>
     simp at e
     exact⟨x,_,e.symm,rfl,hx⟩
    | succ i =>
     obtain⟨y,p,h1,h2,h3⟩:=ih r2 i v (by simpa using e)
     exact⟨y,p,h1,by simpa using h2,h3⟩
 refine zlB (T:=fun x p=>H x=some (.tup [.int p.1,.int p.2])) hh hu pl.isList (by simp[hlp]) (fun x p hx=>?_) (fun i v e=>tw ht rv i v (by simpa using e)) hb few fun h' tk ks kk hS hm hT=>?_
 ·obtain⟨items,rv',tp,_⟩:=I.tuple (SqT.of hx)
  obtain⟨u1,u2,rfl,⟨t1,rfl⟩,⟨t2,rfl⟩⟩:=vals2 rv'
  obtain⟨ob,e1,c1,n,d1⟩:=tp
  exact⟨x,ob,n,t1,t2,rfl,e1,c1,d1⟩
 ·have hD:H s.heap.objs.size=none:=I.hok.fresh (XW _)
  obtain⟨es,ep,t,ho,rest⟩:=hS.ex
  refine⟨.ref s.heap.objs.size,upd H s.heap.objs.size (zgv X.prog X.w s.heap.objs.size ks),I.laid (t':=tk) kk (XW _) ⟨⟨es,ep,t,ho,rest⟩,⟨_,ho⟩,fun h1 h2 ⟨es,ep,t,ho,rest⟩ k=>⟨es,ep,t,k _ ho,rest⟩⟩,rfl,q _ _ hD hT hS.nd hm⟩
end
end ST
namespace GS
section
variable {prog:Xy}{w:W6}{A:WG}{E:X9->X5->Prop}{s:X5}{rk:W7->Int}{κ:T2}{a0:Array W7}
def Rk (rk:W7->Int)(xs:Array W7)(i:Nat):Int:=match xs[i]? with
 | some p=>rk p
 | none=>0
theorem J3 {xs ys:Array W7}{i j:Nat}(h:xs[i]?=ys[j]?):Rk rk xs i=Rk rk ys j:=by
 unfold Rk
 rw[h]
def Up (rk:W7->Int)(xs:Array W7)(lo hi:Nat):Prop:=∀i j,lo<=i->i<=j->j<hi->Rk rk xs i<=Rk rk xs j
def Tells (prog:Xy)(w:W6)(A:WG)(s:X5)(κ:T2)(rk:W7->Int)(a0:Array W7):Prop :=
 ∀x∈a0.toList,∀y∈a0.toList,∀C:Bool->X5->Prop,C (decide (rk x<rk y)) s->Xa (Xf prog w) A (keyLt' κ x.1 y.1) C (fun _ _=>False) s
structure Ok (κ:T2)(a0:Array W7)(st:WQ):Prop where
 perm:(Xo st).Perm a0
 kind:kindOf st=κ
 good:Tg st=none
theorem Ok.size {st:WQ}(h:Ok κ a0 st):(Xo st).size=a0.size:=h.perm.size_eq
theorem Ok.at {st:WQ}(h:Ok κ a0 st){i:Nat}(hi:i<a0.size):∃x,(Xo st)[i]?=some x/\x∈a0.toList/\Rk rk (Xo st) i=rk x:=by
 have hi':i<(Xo st).size:=by rw[h.size];exact hi
 have e:(Xo st)[i]?=some (Xo st)[i]:=getElem?_pos _ i hi'
 refine⟨(Xo st)[i],e,(U0.mp h.perm).mem_iff.mp (by simp),?_⟩
 unfold Rk
 rw[e]
theorem zlC {st:WQ}{x y:W7}{Q:Option Bool->WQ->Prop}(T:Tells prog w A s κ rk a0)(hk:kindOf st=κ)(hx:x∈a0.toList)(hy:y∈a0.toList)(h:Q (some (decide (rk x<rk y))) st):wpS (Xf prog w) A E s (lt' x y) Q st:=by
 rw[lt'_eq]
 refine XC (SH ?_)
 rw[hk]
 refine XC (RA (RF (Wr (T x hx y hy (fun b s'=>s'=s/\b=decide (rk x<rk y)) ⟨rfl,rfl⟩) (fun b s' hb=>⟨hb.1,?_⟩) fun _ _ hF=>hF.elim)))
 rw[hb.2]
 exact Xq h
theorem je {st:WQ}{xs:Array W7}{i:Nat}{x:W7}{Q:W7->WQ->Prop}(e:xs[i]?=some x)(h:Q x st):wpS (Xf prog w) A E s (elem' xs i) Q st:=by
 rw[elem'_eq,e]
 exact Xq h
theorem zcV {st:WQ}{i j:Nat}{Q:Option Bool->WQ->Prop}(T:Tells prog w A s κ rk a0)(O:Ok κ a0 st)(hi:i<a0.size)(hj:j<a0.size)(h:Q (some (decide (Rk rk (Xo st) i<Rk rk (Xo st) j))) st):wpS (Xf prog w) A E s (ltAt' i j) Q st:=by
 obtain⟨x,e1,m1,r1⟩:=O.at (rk:=rk) hi
 obtain⟨y,e2,m2,r2⟩:=O.at (rk:=rk) hj
 rw[r1,r2] at h
 rw[ltAt'_eq]
 refine XC (SH ?_)
 exact XC (je e1 (XC (je e2 (zlC T O.kind m1 m2 h))))
structure Step (κ:T2)(a0:Array W7)(lo:Nat)(st st':WQ):Prop where
 ok:Ok κ a0 st'
 pend:WO st'=WO st
 low:∀i:Nat,i<lo->(Xo st')[i]?=(Xo st)[i]?
theorem Step.refl {lo:Nat}{st:WQ}(O:Ok κ a0 st):Step κ a0 lo st st:=⟨O,rfl,fun _ _=>rfl⟩
theorem zby {xs:Array W7}{i j:Nat}(hj:j<=xs.size)(k:Nat):Rk rk (mirror xs i j ((j-i)/2)) k=if i<=k/\k<j then Rk rk xs (i+j-1-k) else Rk rk xs k:=by
 have e:=Pc (i:=i) hj k
 by_cases h1:i<=k/\k<j
 ·rw[if_pos h1] at e ⊢
  exact J3 e
 ·rw[if_neg h1] at e ⊢
  exact J3 e
theorem j9 {xs:Array W7}{i j:Nat}(hj:j<=xs.size)(heq:∀k,i<=k->k<j->Rk rk xs k=Rk rk xs (j-1))(k:Nat):Rk rk (mirror xs i j ((j-i)/2)) k=Rk rk xs k:=by
 rw[zby hj]
 split
 ·rw[heq _ (by lia) (by lia),heq k (by lia) (by lia)]
 ·rfl
theorem Step.mirror {lo i j:Nat}{st st':WQ}(x:Step κ a0 lo st st')(hi:lo<=i)(hj:j<=a0.size):Step κ a0 lo st (setArr st' (mirror (Xo st') i j ((j-i)/2))):=by
 refine⟨⟨(mirror_perm _ _ _ _).trans x.ok.perm,x.ok.kind,x.ok.good⟩,x.pend,fun k hk=>?_⟩
 show (PyProof.Rows.mirror (Xo st') i j ((j-i)/2))[k]?=_
 rw[Pc (by rw[x.ok.size];exact hj),if_neg (by lia)]
 exact x.low k hk
theorem zjk {st:WQ}{i j:Nat}{Q:Unit->WQ->Prop}(h:Q () (setArr st (mirror (Xo st) i j ((j-i)/2)))):wpS (Xf prog w) A E s (SB i j) Q st:=by
 rw[reverseSlice'_eq]
 exact Tv h
noncomputable def up1 (lo a nrem:Nat):StateT WQ Sem AscSt :=
 forIn [a:nrem] ((none,a):AscSt) fun _ c=>do
  let x <- ltAt' (lo+c.snd) (lo+c.snd-1)
  match x with
  | some b=>if b=true then pure (ForInStep.done (none,c.snd)) else pure (Vv (none,c.snd+1))
  | _=>pure (ForInStep.done (some none,c.snd))
noncomputable def zlD (lo n nrem:Nat):StateT WQ Sem (Option Nat):=do
 SB lo (lo+n)
 let c <- up1 lo n nrem
 match c.fst with
 | some r=>pure r
 | none=>pure (some c.snd)
noncomputable def zjl (lo n nrem:Nat):StateT WQ Sem DescSt :=
 forIn [n:nrem] ((none,n,0):DescSt) fun _ c=>do
  let x <- ltAt' (lo+c.snd.fst) (lo+c.snd.fst-1)
  match x with
  | some b =>
   if b=true then
    if c.snd.snd>0 then do
     SB (lo+c.snd.fst-(c.snd.snd+1)) (lo+c.snd.fst)
     pure (Vv (none,c.snd.fst+1,0))
    else pure (Vv (none,c.snd.fst+1,0))
   else do
    let x <- ltAt' (lo+c.snd.fst-1) (lo+c.snd.fst)
    match x with
    | some b =>
     if b=true then pure (ForInStep.done (none,c.snd.fst,c.snd.snd))
     else pure (Vv (none,c.snd.fst+1,c.snd.snd+1))
    | _=>pure (ForInStep.done (some none,c.snd.fst,c.snd.snd))
  | _=>pure (ForInStep.done (some none,c.snd.fst,c.snd.snd))
noncomputable def part2 (lo n nrem:Nat):StateT WQ Sem (Option Nat):=do
 liftM (rule "list.sort.descending-run")
 let c <- zjl lo (n+1) nrem
 match c.fst with
 | some r=>pure r
 | none =>
  if c.snd.snd>0 then do
   SB (lo+c.snd.fst-(c.snd.snd+1)) (lo+c.snd.fst)
   zlD lo c.snd.fst nrem
  else zlD lo c.snd.fst nrem
theorem run_eq (lo nrem:Nat):countRun' lo nrem=(do
  let c <- up1 lo 1 nrem
  match c.fst with
  | some r=>pure r
  | none =>
   if (c.snd==nrem)=true then pure (some c.snd)
   else if c.snd>1 then do
    let x <- ltAt' lo (lo+c.snd-1)
    match x with
    | some b=>if b=true then pure (some c.snd) else do
      SB lo (lo+c.snd)
      part2 lo c.snd nrem
    | _=>pure none
   else part2 lo c.snd nrem):=by
 rw[countRun'_eq]
 unfold part2 zlD zjl up1
 refine bind_congr fun c=>?_
 obtain⟨r,n⟩:=c
 cases r with
 | some r=>rfl
 | none =>
  dsimp only
  split
  ·rfl
  ·split
   ·refine bind_congr fun x=>?_
    cases x with
    | none=>rfl
    | some b =>
     dsimp only
     split
     ·rfl
     ·refine bind_congr fun _=>bind_congr fun _=>bind_congr fun c2=>?_
      obtain⟨r2,n2,q2⟩:=c2
      cases r2 with
      | some r2=>rfl
      | none =>
       dsimp only
       split
       ·refine bind_congr fun _=>bind_congr fun _=>bind_congr fun c3=>?_
        obtain⟨r3,n3⟩:=c3
        cases r3<;>rfl
       ·refine bind_congr fun _=>bind_congr fun c3=>?_
        obtain⟨r3,n3⟩:=c3
        cases r3<;>rfl
   ·refine bind_congr fun _=>bind_congr fun c2=>?_
    obtain⟨r2,n2,q2⟩:=c2
    cases r2 with
    | some r2=>rfl
    | none =>
     dsimp only
     split
     ·refine bind_congr fun _=>bind_congr fun _=>bind_congr fun c3=>?_
      obtain⟨r3,n3⟩:=c3
      cases r3<;>rfl
     ·refine bind_congr fun _=>bind_congr fun c3=>?_
      obtain⟨r3,n3⟩:=c3
      cases r3<;>rfl
end
end GS
namespace GS
section
variable {prog:Xy}{w:W6}{A:WG}{E:X9->X5->Prop}{s:X5}{rk:W7->Int}{κ:T2}{a0:Array W7}
def Down (rk:W7->Int)(xs:Array W7)(lo n:Nat):Prop:=∀i j,i<=j->j<n->Rk rk xs (lo+j)<=Rk rk xs (lo+i)
theorem zn0 {st:WQ}{lo a nrem:Nat}{Q:AscSt->WQ->Prop}(T:Tells prog w A s κ rk a0)(O:Ok κ a0 st)(hn:lo+nrem<=a0.size)(ha:1<=a)(han:a<=nrem)(hs:Up rk (Xo st) lo (lo+a))
  (h:∀n,a<=n->n<=nrem->Up rk (Xo st) lo (lo+n)->(n=nrem\/Rk rk (Xo st) (lo+n)<Rk rk (Xo st) (lo+n-1))->Q (none,n) st):wpS (Xf prog w) A E s (up1 lo a nrem) Q st:=by
 unfold up1
 refine V8 (I:=fun x c st'=>st'=st/\c=(none,x)/\Up rk (Xo st) lo (lo+x)) ?step ?fin ⟨rfl,rfl,hs⟩
 case fin =>
  rintro c st' ⟨rfl,rfl,hs'⟩
  rw[show max a nrem=nrem by lia] at hs' ⊢
  exact h nrem han (XW _) hs' (.inl rfl)
 case step =>
  rintro x c st' hax hxn ⟨rfl,rfl,hs'⟩
  dsimp only
  refine XC (zcV T O (by lia) (by lia) ?_)
  by_cases hless:Rk rk (Xo st') (lo+x)<Rk rk (Xo st') (lo+x-1)
  ·simp only[hless,decide_true,if_true]
   exact Xq (h x hax (by lia) hs' (.inr hless))
  ·simp only[hless,decide_false,Wx,if_false]
   refine Xq ⟨rfl,rfl,fun i j hi hij hj=>?_⟩
   by_cases hjx:j<lo+x
   ·exact hs' i j hi hij hjx
   ·obtain rfl:j=lo+x:=by lia
    by_cases hi':i=lo+x
    ·subst hi'
     exact U5 _
    ·exact VN (hs' i (lo+x-1) hi (by lia) (by lia)) (OS.mp hless)
theorem zlE {st0 st:WQ}{lo n nrem:Nat}{Q:Option Nat->WQ->Prop}(T:Tells prog w A s κ rk a0)(S:Step κ a0 lo st0 st)(hn:lo+nrem<=a0.size)(h1:1<=n)(hnn:n<=nrem)(hs:Down rk (Xo st) lo n)
  (h:∀m st',Step κ a0 lo st0 st'->1<=m->m<=nrem->Up rk (Xo st') lo (lo+m)->Q (some m) st'):wpS (Xf prog w) A E s (zlD lo n nrem) Q st:=by
 unfold zlD
 refine XC (zjk ?_)
 have S':=S.mirror (i:=lo) (j:=lo+n) (XW _) (by lia)
 refine XC (zn0 T S'.ok hn h1 hnn ?_ fun m hm1 hm2 hsm _=>Xq (h m _ S' (by lia) hm2 hsm))
 intro i j hi hij hj
 have hsz:lo+n<=(Xo st).size:=by
  rw[S.ok.size]
  lia
 show Rk rk (mirror (Xo st) lo (lo+n) ((lo+n-lo)/2)) i<=Rk rk (mirror (Xo st) lo (lo+n) ((lo+n-lo)/2)) j
 rw[zby hsz,zby hsz,if_pos (by lia),if_pos (by lia)]
 have:=hs (lo+n-1-j) (lo+n-1-i) (by lia) (by lia)
 rw[show lo+(lo+n-1-j)=lo+(lo+n)-1-j by lia,show lo+(lo+n-1-i)=lo+(lo+n)-1-i by lia] at this
 exact this
theorem znc {st0 st:WQ}{lo n nrem:Nat}{Q:DescSt->WQ->Prop}(T:Tells prog w A s κ rk a0)(S:Step κ a0 lo st0 st)(hn:lo+nrem<=a0.size)(h1:1<=n)(hnn:n<=nrem)(hs:Down rk (Xo st) lo n)
  (h:∀m q st',Step κ a0 lo st0 st'->n<=m->m<=nrem->Down rk (Xo st') lo m->q+1<=m->(∀i,m-(q+1)<=i->i<m->Rk rk (Xo st') (lo+i)=Rk rk (Xo st') (lo+(m-1)))->Q (none,m,q) st'):wpS (Xf prog w) A E s (zjl lo n nrem) Q st:=by
 unfold zjl
 refine V8 (I:=fun x c st'=>∃q,c=(none,x,q)/\Step κ a0 lo st0 st'/\Down rk (Xo st') lo x/\q+1<=x /\
   (∀i,x-(q+1)<=i->i<x->Rk rk (Xo st') (lo+i)=Rk rk (Xo st') (lo+(x-1)))) ?step ?fin ⟨0,rfl,S,hs,by lia,fun i h1 h2=>by congr 1;lia⟩
 case fin =>
  rintro c st' ⟨q,rfl,S',hs',hq,he⟩
  rw[show max n nrem=nrem by lia] at hs' hq he ⊢
  exact h nrem q st' S' hnn (XW _) hs' hq he
 case step =>
  rintro x c st' hax hxn ⟨q,rfl,S',hs',hq,he⟩
  dsimp only
  have hsz:lo+x<=(Xo st').size:=by
   rw[S'.ok.size]
   lia
  refine XC (zcV T S'.ok (by lia) (by lia) ?_)
  by_cases hless:Rk rk (Xo st') (lo+x)<Rk rk (Xo st') (lo+x-1)
  ·simp only[hless,decide_true,if_true]
   have step1:∀xs:Array W7,(∀k,Rk rk xs k=Rk rk (Xo st') k)->Down rk xs lo (x+1):=by
    intro xs hk i j hij hj
    rw[hk,hk]
    by_cases hjx:j<x
    ·exact hs' i j hij hjx
    ·obtain rfl:j=x:=by lia
     by_cases hi':i=j
     ·subst hi'
      exact U5 _
     ·have a1:=hs' i (j-1) (by lia) (by lia)
      rw[show lo+(j-1)=lo+j-1 by lia] at a1
      exact VN (V7 hless) a1
   by_cases hq0:q>0
   ·rw[if_pos hq0]
    refine XC (zjk (Xq ⟨0,rfl,S'.mirror (by lia) (by lia),step1 _ (j9 hsz fun k k1 k2=>?_),by lia,fun i h1 h2=>by congr 1;lia⟩))
    have a1:=he (k-lo) (by lia) (by lia)
    rw[show lo+(k-lo)=k by lia,show lo+(x-1)=lo+x-1 by lia] at a1
    exact a1
   ·rw[if_neg hq0]
    exact Xq ⟨0,rfl,S',step1 _ (fun _=>rfl),by lia,fun i h1 h2=>by congr 1;lia⟩
  ·simp only[hless,decide_false,Wx,if_false]
   refine XC (zcV T S'.ok (by lia) (by lia) ?_)
   by_cases hmore:Rk rk (Xo st') (lo+x-1)<Rk rk (Xo st') (lo+x)
   ·simp only[hmore,decide_true,if_true]
    exact Xq (h x q st' S' hax (by lia) hs' hq he)
   ·simp only[hmore,decide_false,Wx,if_false]
    have heqx:Rk rk (Xo st') (lo+x)=Rk rk (Xo st') (lo+(x-1)):=by
     rw[show lo+(x-1)=lo+x-1 by lia]
     lia
    refine Xq ⟨q+1,rfl,S',fun i j hij hj=>?_,by lia,fun i h1 h2=>?_⟩
    ·by_cases hjx:j<x
     ·exact hs' i j hij hjx
     ·obtain rfl:j=x:=by lia
      by_cases hi':i=j
      ·subst hi'
       exact U5 _
      ·rw[heqx]
       exact hs' i (j-1) (by lia) (by lia)
    ·rw[show x+1-1=x by lia]
     by_cases hix:i=x
     ·subst hix
      rfl
     ·rw[heqx]
      exact he i (by lia) (by lia)
theorem zjm {st0 st:WQ}{lo n nrem:Nat}{Q:Option Nat->WQ->Prop}(T:Tells prog w A s κ rk a0)(S:Step κ a0 lo st0 st)(hn:lo+nrem<=a0.size)(hnn:n+1<=nrem)(hs:Down rk (Xo st) lo (n+1))
  (h:∀m st',Step κ a0 lo st0 st'->1<=m->m<=nrem->Up rk (Xo st') lo (lo+m)->Q (some m) st'):wpS (Xf prog w) A E s (part2 lo n nrem) Q st:=by
 unfold part2
 refine XC (RA (Ur ⟨rfl,?_⟩))
 refine XC (znc T S hn (by lia) hnn hs fun m q st' S' hm1 hm2 hs' hq he=>?_)
 dsimp only
 have hsz:lo+m<=(Xo st').size:=by
  rw[S'.ok.size]
  lia
 by_cases hq0:q>0
 ·rw[if_pos hq0]
  refine XC (zjk (zlE T (S'.mirror (by lia) (by lia)) hn (by lia) hm2 ?_ h))
  intro i j hij hj
  show Rk rk (mirror (Xo st') _ _ _) (lo+j)<=Rk rk (mirror (Xo st') _ _ _) (lo+i)
  have same:∀k,lo+m-(q+1)<=k->k<lo+m->Rk rk (Xo st') k=Rk rk (Xo st') (lo+m-1):=fun k k1 k2=>by
   have a1:=he (k-lo) (by lia) (by lia)
   rw[show lo+(k-lo)=k by lia,show lo+(m-1)=lo+m-1 by lia] at a1
   exact a1
  rw[j9 hsz same,j9 hsz same]
  exact hs' i j hij hj
 ·rw[if_neg hq0]
  exact zlE T S' hn (by lia) hm2 hs' h
theorem zp8 {st:WQ}{lo nrem:Nat}{Q:Option Nat->WQ->Prop}(T:Tells prog w A s κ rk a0)(O:Ok κ a0 st)(hn:lo+nrem<=a0.size)(h1:1<=nrem)
  (h:∀m st',Step κ a0 lo st st'->1<=m->m<=nrem->Up rk (Xo st') lo (lo+m)->Q (some m) st'):wpS (Xf prog w) A E s (countRun' lo nrem) Q st:=by
 have S:=Step.refl (lo:=lo) O
 rw[run_eq]
 refine XC (zn0 T O hn (XW 1) h1 (fun i j hi hij hj=>by
  obtain rfl:i=j:=by lia
  exact U5 _) fun n hn1 hn2 hsn hor=>?_)
 dsimp only
 by_cases hnn:n=nrem
 ·rw[if_pos (by simpa using hnn)]
  exact Xq (h n st S hn1 hn2 hsn)
 ·rw[if_neg (by simpa using hnn)]
  have hlt:Rk rk (Xo st) (lo+n)<Rk rk (Xo st) (lo+n-1):=hor.resolve_left hnn
  have hsz:lo+n<=(Xo st).size:=by
   rw[O.size]
   lia
  by_cases hgt:n>1
  ·rw[if_pos hgt]
   refine XC (zcV T O (by lia) (by lia) ?_)
   by_cases hrose:Rk rk (Xo st) lo<Rk rk (Xo st) (lo+n-1)
   ·simp only[hrose,decide_true,if_true]
    exact Xq (h n st S hn1 hn2 hsn)
   ·simp only[hrose,decide_false,Wx,if_false]
    have hall:∀k,lo<=k->k<lo+n->Rk rk (Xo st) k=Rk rk (Xo st) (lo+n-1):=by
     intro k k1 k2
     have a1:=hsn lo k (XW _) k1 k2
     have a2:=hsn k (lo+n-1) k1 (by lia) (by lia)
     lia
    refine XC (zjk (zjm T (S.mirror (XW _) (by lia)) hn (by lia) ?_ h))
    intro i j hij hj
    show Rk rk (mirror (Xo st) _ _ _) (lo+j)<=Rk rk (mirror (Xo st) _ _ _) (lo+i)
    rw[j9 hsz hall,j9 hsz hall]
    by_cases hjn:j<n
    ·rw[hall (lo+i) (by lia) (by lia),hall (lo+j) (by lia) (by lia)]
     exact U5 _
    ·obtain rfl:j=n:=by lia
     by_cases hi':i=j
     ·subst hi'
      exact U5 _
     ·rw[hall (lo+i) (by lia) (by lia)]
      exact V7 hlt
  ·rw[if_neg hgt]
   obtain rfl:n=1:=by lia
   refine zjm T S hn (by lia) ?_ h
   intro i j hij hj
   by_cases hi':i=j
   ·subst hi'
    exact U5 _
   ·obtain rfl:i=0:=by lia
    obtain rfl:j=1:=by lia
    rw[R3] at hlt
    exact V7 hlt
theorem zel {xs:Array W7}{src d:Nat}(hs:src<xs.size)(hd:d<=src)(k:Nat):Rk rk (bubble xs src d) k=if k=src-d then Rk rk xs src else if src-d<k/\k<=src then Rk rk xs (k-1) else Rk rk xs k:=by
 have e:=getElem?_bubble hs d hd k
 by_cases h1:k=src-d
 ·rw[if_pos h1] at e ⊢
  exact J3 e
 ·rw[if_neg h1] at e ⊢
  by_cases h2:src-d<k/\k<=src
  ·rw[if_pos h2] at e ⊢
   exact J3 e
  ·rw[if_neg h2] at e ⊢
   exact J3 e
theorem zp9 {st:WQ}{lo n ok:Nat}{Q:Bool->WQ->Prop}(T:Tells prog w A s κ rk a0)(O:Ok κ a0 st)(hn:lo+n<=a0.size)(hok:ok<=n)(hs:Up rk (Xo st) lo (lo+ok))
  (h:∀st',Step κ a0 lo st st'->Up rk (Xo st') lo (lo+n)->Q true st'):wpS (Xf prog w) A E s (binarySort' lo n ok) Q st:=by
 rw[binarySort'_eq]
 refine XC (UB (V8 (I:=fun k c st'=>c=(none,())/\Step κ a0 lo st st'/\Up rk (Xo st') lo (lo+min k n))
  (Q:=fun c st'=>c=(none,())/\Step κ a0 lo st st'/\Up rk (Xo st') lo (lo+n)) ?step ?fin ?init) ?post)
 case post =>
  rintro c st' ⟨rfl,S',hs'⟩
  exact Xq (h st' S' hs')
 case init =>
  refine⟨rfl,Step.refl O,fun i j hi hij hj=>?_⟩
  by_cases h1:ok=0
  ·obtain rfl:i=j:=by lia
   exact U5 _
  ·exact hs i j hi hij (by lia)
 case fin =>
  rintro c st' ⟨hc,S',hs'⟩
  refine⟨hc,S',?_⟩
  rwa [show min (max (max ok 1) n) n=n by lia] at hs'
 case step =>
  rintro k c st' hak hkn ⟨rfl,S',hs'⟩
  rw[show min k n=k by lia] at hs'
  have O':=S'.ok
  have hk:lo+k<a0.size:=by lia
  refine XC (UB (V8 (I:=fun x c st''=>st''=st'/\∃l r,c=(none,l,r)/\l<=r/\r<=k/\r-l<=k-x /\
    (∀i,i<l->Rk rk (Xo st') (lo+i)<=Rk rk (Xo st') (lo+k))/\(∀i,r<=i->i<k->Rk rk (Xo st') (lo+k)<Rk rk (Xo st') (lo+i)))
   (Q:=fun c st''=>st''=st'/\∃l r,c=(none,l,r)/\l<=k /\
    (∀i,i<l->Rk rk (Xo st') (lo+i)<=Rk rk (Xo st') (lo+k))/\(∀i,l<=i->i<k->Rk rk (Xo st') (lo+k)<Rk rk (Xo st') (lo+i))) ?istep ?ifin ?iinit) ?ipost)
  case iinit=>exact⟨rfl,0,k,rfl,by lia,by lia,by lia,fun i hi=>by lia,fun i h1 h2=>by lia⟩
  case ifin =>
   rintro c st'' ⟨rfl,l,r,rfl,hlr,hrk,hm,hlo,hhi⟩
   obtain rfl:l=r:=by lia
   exact⟨rfl,l,l,rfl,hrk,hlo,hhi⟩
  case istep =>
   rintro x c st'' _ hxk ⟨rfl,l,r,rfl,hlr,hrk,hm,hlo,hhi⟩
   dsimp only
   by_cases hge:l >= r
   ·rw[if_pos hge]
    obtain rfl:l=r:=by lia
    exact Xq ⟨rfl,l,l,rfl,hrk,hlo,hhi⟩
   ·rw[if_neg hge]
    refine XC (zcV T O' hk (by lia) ?_)
    by_cases hless:Rk rk (Xo st'') (lo+k)<Rk rk (Xo st'') (lo+(l+r)/2)
    ·simp only[hless,decide_true,if_true]
     refine Xq ⟨rfl,l,(l+r)/2,rfl,by lia,by lia,by lia,hlo,fun i h1 h2=>?_⟩
     exact R1 hless (hs' _ _ (by lia) (by lia) (by lia))
    ·simp only[hless,decide_false,Wx,if_false]
     refine Xq ⟨rfl,(l+r)/2+1,r,rfl,by lia,by lia,by lia,fun i h1=>?_,hhi⟩
     exact VN (hs' (lo+i) (lo+(l+r)/2) (by lia) (by lia) (by lia)) (OS.mp hless)
  case ipost =>
   rintro c st'' ⟨rfl,l,r,rfl,hlk,hlo,hhi⟩
   show wpS _ _ _ _ (do moveDown' (lo+k) (lo+l);pure (Vv (none,()))) _ _
   rw[moveDown'_eq]
   have hks:lo+k<(Xo st'').size:=by
    rw[O'.size]
    exact hk
   refine XC (Tv (Xq ⟨rfl,⟨⟨(bubble_perm _ _ _).trans O'.perm,O'.kind,O'.good⟩,S'.pend,fun i hi=>?_⟩,?_⟩))
   ·show (bubble (Xo st'') (lo+k) (lo+k-(lo+l)))[i]?=_
    rw[getElem?_bubble hks _ (by lia),if_neg (by lia),if_neg (by lia)]
    exact S'.low i hi
   ·rw[show min (k+1) n=k+1 by lia]
    intro i j hi hij hj
    show Rk rk (bubble (Xo st'') (lo+k) (lo+k-(lo+l))) i<=Rk rk (bubble (Xo st'') (lo+k) (lo+k-(lo+l))) j
    rw[zel hks (by lia),zel hks (by lia),show lo+k-(lo+k-(lo+l))=lo+l by lia]
    have up:∀a b,lo<=a->a<=b->b<lo+k->Rk rk (Xo st'') a<=Rk rk (Xo st'') b:=hs'
    have low:∀a,lo<=a->a<lo+l->Rk rk (Xo st'') a<=Rk rk (Xo st'') (lo+k):=fun a a1 a2=>by
     have:=hlo (a-lo) (by lia)
     rwa [show lo+(a-lo)=a by lia] at this
    have high:∀a,lo+l<=a->a<lo+k->Rk rk (Xo st'') (lo+k)<Rk rk (Xo st'') a:=fun a a1 a2=>by
     have:=hhi (a-lo) (by lia) (by lia)
     rwa [show lo+(a-lo)=a by lia] at this
    repeat' split
    all_goals first
     | (exfalso;lia)
     | exact U5 _
     | exact low _ (by lia) (by lia)
     | exact V7 (high _ (by lia) (by lia))
     | exact up _ _ (by lia) (by lia) (by lia)
end
end GS
namespace GS
noncomputable def gallop':Bool->W7->Array W7->Nat->Nat->Nat->StateT WQ Sem (Option Nat):=sortPriv% PySem.Builtin.gallop
noncomputable def mergeLo':Array W7->Array W7->StateT WQ Sem (Array W7):=sortPriv% PySem.Builtin.mergeLo
noncomputable def mergeHi':Array W7->Array W7->StateT WQ Sem (Array W7):=sortPriv% PySem.Builtin.mergeHi
section
variable {prog:Xy}{w:W6}{A:WG}{E:X9->X5->Prop}{s:X5}{rk:W7->Int}{κ:T2}{a0:Array W7}
def bey (rk:W7->Int)(left:Bool)(key x:W7):Bool:=if left then decide (rk x<rk key) else !decide (rk key<rk x)
theorem zgw {st:WQ}{left:Bool}{key:W7}{arr:Array W7}{base n hint:Nat}{Q:Option Nat->WQ->Prop}(T:Tells prog w A s κ rk a0)(hk:kindOf st=κ)(hkey:key∈a0.toList)(b:Nat->Bool)
  (he:∀i,i<n->∃x,arr[base+i]?=some x/\x∈a0.toList/\b i=bey rk left key x) (mono:∀i j,i<=j->j<n->b j=true->b i=true) (hh:hint<n)
  (h:∀k,k<=n->(∀i,i<k->b i=true)->(∀i,k<=i->i<n->b i=false)->Q (some k) st):wpS (Xf prog w) A E s (gallop' left key arr base n hint) Q st:=by
 have one:∀{i:Nat} {Q':Option Bool->WQ->Prop},i<n->Q' (some (b i)) st->wpS (Xf prog w) A E s (do
   let x <- elem' arr (base+i)
   if left=true then lt' x key
    else do
     let r <- lt' key x
     pure (OT (fun x=>!x) r)) Q' st:=by
  intro i Q' hi hq
  obtain⟨x,e1,e2,e3⟩:=he i hi
  refine XC (je e1 ?_)
  unfold bey at e3
  cases left with
  | true =>
   rw[if_pos rfl] at e3 ⊢
   rw[e3] at hq
   exact zlC T hk e2 hkey hq
  | false =>
   rw[if_neg XV] at e3 ⊢
   rw[e3] at hq
   exact XC (zlC T hk hkey e2 (Xq hq))
 have last:∀{f:Nat->Option (Option Nat)×Nat×Nat->StateT WQ Sem (ForInStep (Option (Option Nat)×Nat×Nat))} {g:Option (Option Nat)×Nat×Nat->StateT WQ Sem (Option Nat)},
   (∀x l r (R:ForInStep (Option (Option Nat)×Nat×Nat)->WQ->Prop),l >= r->R (.done (none,l,r)) st->wpS (Xf prog w) A E s (f x (none,l,r)) R st) ->
   (∀x l r (R:ForInStep (Option (Option Nat)×Nat×Nat)->WQ->Prop),l<r->r<=n->R (.yield (if b (l+(r-l)/2)=true then (none,l+(r-l)/2+1,r) else (none,l,l+(r-l)/2))) st->wpS (Xf prog w) A E s (f x (none,l,r)) R st) ->
   (∀l r,Q (some r) st->wpS (Xf prog w) A E s (g (none,l,r)) Q st) ->
   ∀(lo hi:Nat),lo<=hi->hi<=n->(∀i,i<lo->b i=true)->(∀i,hi<=i->i<n->b i=false)->wpS (Xf prog w) A E s (forIn [:n] ((none,lo,hi):Option (Option Nat)×Nat×Nat) f >>= g) Q st:=by
  intro f g f1 f2 g1 lo hi h1 h2 h3 h4
  refine XC (UB (V8 (I:=fun x c st'=>st'=st/\∃l r,c=(none,l,r)/\l<=r/\r<=n/\r-l<=n-x/\(∀i,i<l->b i=true)/\(∀i,r<=i->i<n->b i=false))
   (Q:=fun c st'=>st'=st/\∃l,c=(none,l,l)/\l<=n/\(∀i,i<l->b i=true)/\(∀i,l<=i->i<n->b i=false)) ?step ?fin ⟨rfl,lo,hi,rfl,h1,h2,by lia,h3,h4⟩) ?post)
  case fin =>
   rintro c st' ⟨rfl,l,r,rfl,a1,a2,a3,a4,a5⟩
   obtain rfl:l=r:=by lia
   exact⟨rfl,l,rfl,a2,a4,a5⟩
  case post =>
   rintro c st' ⟨rfl,l,rfl,a2,a4,a5⟩
   exact g1 l l (h l a2 a4 a5)
  case step =>
   rintro x c st' _ hx ⟨rfl,l,r,rfl,a1,a2,a3,a4,a5⟩
   by_cases hge:l >= r
   ·obtain rfl:l=r:=by lia
    exact f1 x l l _ hge ⟨rfl,l,rfl,a2,a4,a5⟩
   ·refine f2 x l r _ (by lia) a2 ?_
    cases hb:b (l+(r-l)/2) with
    | true =>
     rw[if_pos rfl]
     exact⟨rfl,l+(r-l)/2+1,r,rfl,by lia,a2,by lia,fun i hi=>mono i _ (by lia) (by lia) hb,a5⟩
    | false =>
     rw[if_neg XV]
     refine⟨rfl,l,l+(r-l)/2,rfl,by lia,by lia,by lia,a4,fun i i1 i2=>?_⟩
     cases hbi:b i with
     | false=>rfl
     | true =>
      have:=mono _ i i1 i2 hbi
      rw[hb] at this
      cases this
 refine XC (one hh ?_)
 dsimp only
 cases hb:b hint with
 | true =>
  rw[if_pos rfl]
  refine XC (UB (V8 (I:=fun x c st'=>st'=st/\∃l o,c=(none,l,o)/\l<o/\hint+l<n/\b (hint+l)=true/\x+1<=o)
   (Q:=fun c st'=>st'=st/\∃l o,c=(none,l,o)/\l<o/\hint+l<n/\b (hint+l)=true/\(o >= n-hint\/(hint+o<n/\b (hint+o)=false))) ?step ?fin ⟨rfl,0,1,rfl,by lia,hh,hb,by lia⟩) ?post)
  case fin =>
   rintro c st' ⟨rfl,l,o,rfl,a1,a2,a3,a4⟩
   exact⟨rfl,l,o,rfl,a1,a2,a3,.inl (by lia)⟩
  case step =>
   rintro x c st' _ hx ⟨rfl,l,o,rfl,a1,a2,a3,a4⟩
   dsimp only
   by_cases hge:o >= n-hint
   ·rw[if_pos hge]
    exact Xq ⟨rfl,l,o,rfl,a1,a2,a3,.inl hge⟩
   ·rw[if_neg hge]
    refine XC (one (by lia) ?_)
    dsimp only
    cases hbo:b (hint+o) with
    | false =>
     rw[if_pos (by decide)]
     exact Xq ⟨rfl,l,o,rfl,a1,a2,a3,.inr ⟨by lia,hbo⟩⟩
    | true =>
     rw[if_neg (by decide)]
     exact Xq ⟨rfl,o,2*o+1,rfl,by lia,by lia,hbo,by lia⟩
  case post =>
   rintro c st' ⟨rfl,l,o,rfl,a1,a2,a3,a4⟩
   refine last (fun x l r R hge hR=>?_) (fun x l r R hlt hr hR=>?_) (fun l r hq=>Xq hq) (hint+l+1) (hint+min o (n-hint)) (by lia) (by lia) (fun i hi=>mono i (hint+l) (by lia) a2 a3) fun i i1 i2=>?_
   ·dsimp only
    rw[if_pos hge]
    exact Xq hR
   ·dsimp only
    rw[if_neg (by lia)]
    refine XC (one (by lia) ?_)
    dsimp only
    cases hbm:b (l+(r-l)/2) with
    | true =>
     rw[hbm,if_pos rfl] at hR
     rw[if_pos rfl]
     exact Xq hR
    | false =>
     rw[hbm,if_neg XV] at hR
     rw[if_neg XV]
     exact Xq hR
   ·rcases a4 with a4 | ⟨a4,a5⟩
    ·lia
    ·cases hbi:b i with
     | false=>rfl
     | true =>
      have:=mono _ i (show hint+o<=i by lia) i2 hbi
      rw[a5] at this
      cases this
 | false =>
  rw[if_neg XV]
  refine XC (UB (V8 (I:=fun x c st'=>st'=st/\∃l o,c=(none,l,o)/\l<o/\l<=hint/\b (hint-l)=false/\x+1<=o)
   (Q:=fun c st'=>st'=st/\∃l o,c=(none,l,o)/\l<o/\l<=hint/\b (hint-l)=false/\(o >= hint+1\/(o<=hint/\b (hint-o)=true))) ?step ?fin ⟨rfl,0,1,rfl,by lia,by lia,hb,by lia⟩) ?post)
  case fin =>
   rintro c st' ⟨rfl,l,o,rfl,a1,a2,a3,a4⟩
   exact⟨rfl,l,o,rfl,a1,a2,a3,.inl (by lia)⟩
  case step =>
   rintro x c st' _ hx ⟨rfl,l,o,rfl,a1,a2,a3,a4⟩
   dsimp only
   by_cases hge:o >= hint+1
   ·rw[if_pos hge]
    exact Xq ⟨rfl,l,o,rfl,a1,a2,a3,.inl hge⟩
   ·rw[if_neg hge]
    refine XC (one (by lia) ?_)
    dsimp only
    cases hbo:b (hint-o) with
    | true =>
     rw[if_pos rfl]
     exact Xq ⟨rfl,l,o,rfl,a1,a2,a3,.inr ⟨by lia,hbo⟩⟩
    | false =>
     rw[if_neg (by decide)]
     exact Xq ⟨rfl,o,2*o+1,rfl,by lia,by lia,hbo,by lia⟩
  case post =>
   rintro c st' ⟨rfl,l,o,rfl,a1,a2,a3,a4⟩
   refine last (fun x l r R hge hR=>?_) (fun x l r R hlt hr hR=>?_) (fun l r hq=>Xq hq) (hint+1-min o (hint+1)) (hint-l) (by lia) (by lia) (fun i hi=>?_) fun i i1 i2=>?_
   ·dsimp only
    rw[if_pos hge]
    exact Xq hR
   ·dsimp only
    rw[if_neg (by lia)]
    refine XC (one (by lia) ?_)
    dsimp only
    cases hbm:b (l+(r-l)/2) with
    | true =>
     rw[hbm,if_pos rfl] at hR
     rw[if_pos rfl]
     exact Xq hR
    | false =>
     rw[hbm,if_neg XV] at hR
     rw[if_neg XV]
     exact Xq hR
   ·rcases a4 with a4 | ⟨a4,a5⟩
    ·lia
    ·exact mono i (hint-o) (by lia) (by lia) a5
   ·cases hbi:b i with
    | false=>rfl
    | true =>
     have:=mono _ i i1 i2 hbi
     rw[a3] at this
     cases this
end
end GS
namespace GS
structure MI (rk:W7->Int)(aL bL:List W7)(ia ib:Nat)(oL:List W7):Prop where
 perm:oL.Perm (aL.take ia++bL.take ib)
 srt:oL.Pairwise fun x y=>rk x<=rk y
 la:∀x∈oL,∀y∈aL.drop ia,rk x<=rk y
 lb:∀x∈oL,∀y∈bL.drop ib,rk x<=rk y
section
variable {rk:W7->Int}{aL bL oL:List W7}{ia ib:Nat}
theorem MI.swap (M:MI rk aL bL ia ib oL):MI rk bL aL ib ia oL:=⟨M.perm.trans T8,M.srt,M.lb,M.la⟩
theorem zbz (l:List W7)(i k:Nat):l.take (i+k)=l.take i++(l.drop i).take k:=by
 rw[List.take_add]
theorem MI.takeA (M:MI rk aL bL ia ib oL)(sa:aL.Pairwise fun x y=>rk x<=rk y)(k:Nat)(h:∀x∈(aL.drop ia).take k,∀y∈bL.drop ib,rk x<=rk y):MI rk aL bL (ia+k) ib (oL++(aL.drop ia).take k):=by
 have sd:(aL.drop ia).Pairwise fun x y=>rk x<=rk y:=sa.sublist (SW _ _)
 have e2:(aL.drop ia).drop k=aL.drop (ia+k):=R7
 refine⟨?_,?_,fun x hx y hy=>?_,fun x hx y hy=>?_⟩
 ·rw[zbz,WZ]
  refine(M.perm.append_right _).trans ?_
  rw[WZ]
  exact SN _ T8
 ·rw[TX]
  exact⟨M.srt,sd.sublist (UR _ _),fun x hx y hy=>M.la x hx y (Wo hy)⟩
 ·rw[<- e2] at hy
  rcases XI.mp hx with hx | hx
  ·exact M.la x hx y (Su hy)
  ·have:=sd
   rw[<- WR k (aL.drop ia),TX] at this
   exact this.2.2 x hx y hy
 ·rcases XI.mp hx with hx | hx
  ·exact M.lb x hx y hy
  ·exact h x hx y hy
theorem MI.takeB (M:MI rk aL bL ia ib oL)(sb:bL.Pairwise fun x y=>rk x<=rk y)(k:Nat)(h:∀x∈(bL.drop ib).take k,∀y∈aL.drop ia,rk x<=rk y):MI rk aL bL ia (ib+k) (oL++(bL.drop ib).take k):=(M.swap.takeA sb k h).swap
def Mg (rk:W7->Int)(aL bL oL:List W7):Prop:=oL.Perm (aL++bL)/\oL.Pairwise fun x y=>rk x<=rk y
theorem MI.all (M:MI rk aL bL ia ib oL)(ha:aL.length<=ia)(hb:bL.length<=ib):Mg rk aL bL oL:=by
 have:=M.perm
 rw[W8 ha,W8 hb] at this
 exact⟨this,M.srt⟩
theorem MI.doneB (M:MI rk aL bL ia ib oL)(sa:aL.Pairwise fun x y=>rk x<=rk y)(hb:bL.length<=ib):Mg rk aL bL (oL++aL.drop ia):=by
 have:=M.takeA sa (aL.drop ia).length (fun x _ y hy=>by
  rw[SR hb] at hy
  cases hy)
 rw[XG] at this
 exact this.all (by rw[We];lia) hb
theorem MI.lastA (M:MI rk aL bL ia ib oL)(sa:aL.Pairwise fun x y=>rk x<=rk y)(sb:bL.Pairwise fun x y=>rk x<=rk y)(h:∀x∈bL,∀y∈aL.drop ia,rk x<=rk y):Mg rk aL bL (oL++bL.drop ib++aL.drop ia):=by
 have M2:=M.takeB sb (bL.drop ib).length (fun x hx y hy=>h x (Su (Wo hx)) y hy)
 rw[XG] at M2
 exact M2.doneB sa (by rw[We];lia)
theorem ext_toList (a:Array W7)(i j:Nat)(hj:i<=j):(a.extract i j).toList=(a.toList.drop i).take (j-i):=by
 rw[Po,RS]
theorem zaT (a:Array W7)(i:Nat):(a.extract i a.size).toList=a.toList.drop i:=by
 rw[Po,RS,W8]
 rw[We,X6]
 exact XW _
theorem zlF {a:Array W7}{i:Nat}{x:W7}(h:a[i]?=some x):(a.toList.drop i).take 1=[x]:=by
 have hi:i<a.toList.length:=by
  rw[X6]
  exact(Vz.mp h).1
 rw[WP hi,UD,List.take_zero]
 have:a.toList[i]?=some x:=by rw[Xr];exact h
 rw[X7 hi] at this
 rw[Option.some.inj this]
end
section
variable {prog:Xy}{w:W6}{A:WG}{E:X9->X5->Prop}{s:X5}{rk:W7->Int}{κ:T2}{a0:Array W7}
structure Kept (st st':WQ):Prop where
 arr:Xo st'=Xo st
 kind:kindOf st'=kindOf st
 pend:WO st'=WO st
 bad:Tg st'=Tg st
noncomputable def setG':Nat->StateT WQ Sem Unit:=sortPriv% PySem.Builtin.setMinGallop
theorem Kept.refl (st:WQ):Kept st st:=⟨rfl,rfl,rfl,rfl⟩
theorem zfi {st0 st:WQ}{g:Nat}{Q:Unit->WQ->Prop}(k:Kept st0 st)(h:∀st',Kept st0 st'->Q () st'):wpS (Xf prog w) A E s (setG' g) Q st:=by
 have e:setG' g=modify fun c=>SortSt.mk' (kindOf c) (Xo c) (WO c) g (Tg c):=rfl
 rw[e]
 exact Tv (h _ ⟨k.arr,k.kind,k.pend,k.bad⟩)
theorem qC {α:Type}{c:Prop} [Decidable c]{x y:StateT WQ Sem α}{Q:α->WQ->Prop}{st:WQ}(h1:c->wpS (Xf prog w) A E s x Q st)(h2:¬ c->wpS (Xf prog w) A E s y Q st):wpS (Xf prog w) A E s (if c then x else y) Q st:=by
 by_cases hc:c
 ·rw[if_pos hc]
  exact h1 hc
 ·rw[if_neg hc]
  exact h2 hc
theorem jy {a:Array W7}{i:Nat}(h:i<a.size):∃x,a[i]?=some x/\x∈a.toList:=⟨a[i],getElem?_pos a i h,by simp⟩
theorem Zp {a:Array W7}(sa:a.toList.Pairwise fun x y=>rk x<=rk y){i:Nat}{x:W7}(e:a[i]?=some x):∀y∈a.toList.drop i,rk x<=rk y:=by
 have hi:i<a.toList.length:=by
  rw[X6]
  exact(Vz.mp e).1
 have e':a.toList[i]?=some x:=by rw[Xr];exact e
 rw[X7 hi] at e'
 have ex:=Option.some.inj e'
 have sd:=sa.sublist (SW i a.toList)
 rw[WP hi,ex,R0] at sd
 rw[WP hi,ex]
 intro y hy
 rcases XB.mp hy with rfl | hy
 ·exact U5 _
 ·exact sd.1 y hy
theorem Ql {a b out:Array W7}{ia ib:Nat}(M:MI rk a.toList b.toList ia ib out.toList)(sa:a.toList.Pairwise fun x y=>rk x<=rk y)(hb:b.size<=ib):Mg rk a.toList b.toList (out++a.extract ia a.size++b.extract ib b.size).toList:=by
 rw[WI,WI,zaT,zaT,SR (as:=b.toList) (by rw[X6];exact hb),W4]
 exact M.doneB sa (by rw[X6];exact hb)
theorem Qm {a b out:Array W7}{ia ib:Nat}(M:MI rk a.toList b.toList ia ib out.toList)(sa:a.toList.Pairwise fun x y=>rk x<=rk y)(sb:b.toList.Pairwise fun x y=>rk x<=rk y)(hl:∀x∈b.toList,∀y,a[a.size-1]?=some y->rk x<=rk y)(ha:ia+1=a.size):Mg rk a.toList b.toList (out++b.extract ib b.size++a.extract ia a.size).toList:=by
 rw[WI,WI,zaT,zaT]
 refine M.lastA sa sb fun x hx y hy=>?_
 have hi:ia<a.toList.length:=by rw[X6];lia
 rw[WP hi,SR (by rw[X6];lia)] at hy
 have ey:y=a.toList[ia]:=by simpa using hy
 refine hl x hx y ?_
 rw[show a.size-1=ia by lia,<- Xr,X7 hi,ey]
theorem zkh (out:Array W7)(x:W7):(out.push x).toList=out.toList++[x]:=SY ..
theorem MI.oneB {a b out:Array W7}{ia ib:Nat}{x:W7}(M:MI rk a.toList b.toList ia ib out.toList)(sb:b.toList.Pairwise fun x y=>rk x<=rk y)(e:b[ib]?=some x)(h:∀y∈a.toList.drop ia,rk x<=rk y):MI rk a.toList b.toList ia (ib+1) (out.push x).toList:=by
 rw[zkh,<- zlF e]
 refine M.takeB sb 1 fun z hz y hy=>?_
 rw[zlF e] at hz
 have ez:z=x:=by simpa using hz
 rw[ez]
 exact h y hy
theorem MI.oneA {a b out:Array W7}{ia ib:Nat}{x:W7}(M:MI rk a.toList b.toList ia ib out.toList)(sa:a.toList.Pairwise fun x y=>rk x<=rk y)(e:a[ia]?=some x)(h:∀y∈b.toList.drop ib,rk x<=rk y):MI rk a.toList b.toList (ia+1) ib (out.push x).toList:=(MI.oneB M.swap sa e h).swap
theorem MI.someA {a b out:Array W7}{ia ib k:Nat}{y:W7}(M:MI rk a.toList b.toList ia ib out.toList)(sa:a.toList.Pairwise fun x y=>rk x<=rk y)(sb:b.toList.Pairwise fun x y=>rk x<=rk y)(e:b[ib]?=some y)(h:∀i x,i<k->a[ia+i]?=some x->rk x<=rk y):MI rk a.toList b.toList (ia+k) ib (out++a.extract ia (ia+k)).toList:=by
 rw[WI,ext_toList _ _ _ (Uw _ _),Rp]
 refine M.takeA sa k fun x hx z hz=>VN ?_ (Zp sb e z hz)
 obtain⟨i,hi,ex⟩:=TQ hx
 have hik:i<k:=by
  rw[XQ] at hi
  lia
 refine h i x hik ?_
 have:((a.toList.drop ia).take k)[i]?=some x:=by rw[X7 hi,ex]
 rw[List.getElem?_take,if_pos hik,Um,Xr] at this
 exact this
theorem MI.someB {a b out:Array W7}{ia ib k:Nat}{y:W7}(M:MI rk a.toList b.toList ia ib out.toList)(sa:a.toList.Pairwise fun x y=>rk x<=rk y)(sb:b.toList.Pairwise fun x y=>rk x<=rk y)(e:a[ia]?=some y)(h:∀i x,i<k->b[ib+i]?=some x->rk x<=rk y):MI rk a.toList b.toList ia (ib+k) (out++b.extract ib (ib+k)).toList:=(MI.someA M.swap sb sa e h).swap
end
end GS
namespace GS
section
variable {prog:Xy}{w:W6}{A:WG}{E:X9->X5->Prop}{s:X5}{rk:W7->Int}{κ:T2}{a0:Array W7}
theorem zbA {st:WQ}{key:W7}{a:Array W7}{base n hint:Nat}{Q:Option Nat->WQ->Prop}(T:Tells prog w A s κ rk a0)(hk:kindOf st=κ)(hkey:key∈a0.toList)(ma:∀x∈a.toList,x∈a0.toList)(up:∀i j x y,base<=i->i<=j->j<base+n->a[i]?=some x->a[j]?=some y->rk x<=rk y)(hn:base+n<=a.size)(hh:hint<n)
  (h:∀k,k<=n->(∀i x,i<k->a[base+i]?=some x->rk x<=rk key)->(∀i x,k<=i->i<n->a[base+i]?=some x->rk key<rk x)->Q (some k) st):wpS (Xf prog w) A E s (gallop' false key a base n hint) Q st:=by
 have he:∀i,i<n->∃x,a[base+i]?=some x/\x∈a.toList:=fun i hi=>jy (by lia)
 refine zgw T hk hkey (fun i=>match a[base+i]? with | some x=>bey rk false key x | none=>false) (fun i hi=>?_) (fun i j hij hj hb=>?_) hh fun k hk1 h1 h2=>h k hk1 (fun i x hi e=>?_) fun i x hi1 hi2 e=>?_
 ·obtain⟨x,e,m⟩:=he i hi
  refine⟨x,e,ma x m,?_⟩
  try dsimp only
  rw[e]
 ·obtain⟨x,ex,_⟩:=he i (by lia)
  obtain⟨y,ey,_⟩:=he j hj
  try dsimp only at hb ⊢
  rw[ey] at hb
  rw[ex]
  have:=up (base+i) (base+j) x y (by lia) (by lia) (by lia) ex ey
  unfold bey at hb ⊢
  simp only[Wx,if_false,WC,decide_eq_false_iff_not] at hb ⊢
  lia
 ·have:=h1 i hi
  try dsimp only at this
  rw[e] at this
  unfold bey at this
  simp only[Wx,if_false,WC,decide_eq_false_iff_not] at this
  lia
 ·have:=h2 i hi1 hi2
  try dsimp only at this
  rw[e] at this
  unfold bey at this
  simp only[Wx,if_false,Bool.not_eq_false',decide_eq_true_eq] at this
  exact this
theorem zbB {st:WQ}{key:W7}{a:Array W7}{base n hint:Nat}{Q:Option Nat->WQ->Prop}(T:Tells prog w A s κ rk a0)(hk:kindOf st=κ)(hkey:key∈a0.toList)(ma:∀x∈a.toList,x∈a0.toList)(up:∀i j x y,base<=i->i<=j->j<base+n->a[i]?=some x->a[j]?=some y->rk x<=rk y)(hn:base+n<=a.size)(hh:hint<n)
  (h:∀k,k<=n->(∀i x,i<k->a[base+i]?=some x->rk x<rk key)->(∀i x,k<=i->i<n->a[base+i]?=some x->rk key<=rk x)->Q (some k) st):wpS (Xf prog w) A E s (gallop' true key a base n hint) Q st:=by
 have he:∀i,i<n->∃x,a[base+i]?=some x/\x∈a.toList:=fun i hi=>jy (by lia)
 refine zgw T hk hkey (fun i=>match a[base+i]? with | some x=>bey rk true key x | none=>false) (fun i hi=>?_) (fun i j hij hj hb=>?_) hh fun k hk1 h1 h2=>h k hk1 (fun i x hi e=>?_) fun i x hi1 hi2 e=>?_
 ·obtain⟨x,e,m⟩:=he i hi
  refine⟨x,e,ma x m,?_⟩
  try dsimp only
  rw[e]
 ·obtain⟨x,ex,_⟩:=he i (by lia)
  obtain⟨y,ey,_⟩:=he j hj
  try dsimp only at hb ⊢
  rw[ey] at hb
  rw[ex]
  have:=up (base+i) (base+j) x y (by lia) (by lia) (by lia) ex ey
  unfold bey at hb ⊢
  simp only[if_true,decide_eq_true_eq] at hb ⊢
  lia
 ·have:=h1 i hi
  try dsimp only at this
  rw[e] at this
  unfold bey at this
  simp only[if_true,decide_eq_true_eq] at this
  exact this
 ·have:=h2 i hi1 hi2
  try dsimp only at this
  rw[e] at this
  unfold bey at this
  simp only[if_true,decide_eq_false_iff_not] at this
  lia
theorem zjn {a:Array W7}(sa:a.toList.Pairwise fun x y=>rk x<=rk y){i j:Nat}{x y:W7}(hij:i<=j)(ex:a[i]?=some x)(ey:a[j]?=some y):rk x<=rk y:=by
 refine Zp sa ex y ?_
 have hj:j<a.toList.length:=by
  rw[X6]
  exact(Vz.mp ey).1
 refine X2 (i:=j-i) ?_
 rw[Um,Xr,show i+(j-i)=j by lia]
 exact ey
set_option maxHeartbeats 8000000 in
theorem via {P:Prop}(h:∀G:Prop,(P->G)->G):P:=h P id
structure Key (P:Prop):Prop where
 get:P
theorem cut {P R:Prop}(k:P)(h:Key P->R):R:=h ⟨k⟩
theorem zki {st0:WQ}{a b:Array W7}{Q:Array W7->WQ->Prop}(T:Tells prog w A s κ rk a0)(hk:kindOf st0=κ)(ma:∀x∈a.toList,x∈a0.toList)(mb:∀x∈b.toList,x∈a0.toList)(sa:a.toList.Pairwise fun x y=>rk x<=rk y)(sb:b.toList.Pairwise fun x y=>rk x<=rk y)
  (ha:0<a.size) (hb:0<b.size) (h0:∀x y,b[0]?=some x->y∈a.toList->rk x<=rk y) (hl':∀x∈b.toList,∀y,a[a.size-1]?=some y->rk x<rk y)
  (h:∀out st',Kept st0 st'->Mg rk a.toList b.toList out.toList->Q out st'):wpS (Xf prog w) A E s (mergeLo' a b) Q st0:=by
 have hl:∀x∈b.toList,∀y,a[a.size-1]?=some y->rk x<=rk y:=fun x hx y hy=>V7 (hl' x hx y hy)
 refine XC (RA (Ur ⟨rfl,?_⟩))
 obtain⟨b0,eb0,_⟩:=jy hb
 refine XC (je eb0 ?_)
 have M0:MI rk a.toList b.toList 0 0 (#[]:Array W7).toList:=⟨by simp,List.Pairwise.nil,(fun x hx=>nomatch hx),(fun x hx=>nomatch hx)⟩
 have M1:MI rk a.toList b.toList 0 1 (#[b0]:Array W7).toList:=MI.oneB M0 sb eb0 fun y hy=>h0 b0 y eb0 (by simpa using hy)
 dsimp -zeta only
 refine qC (fun hc=>Xq (h _ _ (Kept.refl _) (Ql M1 sa (by rw[show 1=b.size by simpa using hc];exact XW _)))) fun hc=>?_
 refine qC (fun hc2=>Xq (h _ _ (Kept.refl _) (Qm M1 sa sb hl (by simpa using hc2)))) fun hc2=>?_
 have hb2:1<b.size:=by
  have:¬ 1=b.size:=by simpa using hc
  lia
 have ha2:0+1<a.size:=by
  have:¬ 0+1=a.size:=by simpa using hc2
  lia
 refine XC (SH ?_)
 refine XC (UB (V8 (I:=fun x c st'=>∃out ia ib mg,c=(none,out,ia,ib,mg)/\MI rk a.toList b.toList ia ib out.toList/\ia+1<a.size/\ib<b.size/\x+1<=ia+ib/\Kept st0 st')
  (Q:=fun c st'=>∃res,c.1=some res/\Mg rk a.toList b.toList res.toList/\Kept st0 st') ?step ?fin ⟨_,0,1,_,rfl,M1,ha2,hb2,by lia,Kept.refl _⟩) ?post)
 case fin =>
  rintro c st' ⟨out,ia,ib,mg,rfl,M,h1,h2,h3,k⟩
  lia
 case post =>
  rintro⟨c1,c2⟩ st' ⟨res,e,hM,k⟩
  dsimp only at e ⊢
  subst e
  exact Xq (h _ _ k hM)
 case step =>
  intro x0 c st1 _ hx0 hI
  refine via fun G hG=>?_
  obtain⟨out,ia,ib,mg,rfl,M,h1,h2,h3,k1⟩:=hI
  refine hG ?_
  clear hG
  have hk1:kindOf st1=κ:=k1.kind.trans hk
  dsimp -zeta only
  refine XC (UB (V8 (I:=fun x c st'=>st'=st1/\∃out ia ib ac bc,c=(none,out,ia,ib,ac,bc)/\MI rk a.toList b.toList ia ib out.toList/\ia+1<a.size/\ib<b.size/\x0+1+x<=ia+ib)
   (Q:=fun c st'=>st'=st1/\((∃res,c.1=some res/\Mg rk a.toList b.toList res.toList)\/∃out ia ib ac bc,c=(none,out,ia,ib,ac,bc)/\MI rk a.toList b.toList ia ib out.toList/\ia+1<a.size/\ib<b.size/\x0+2<=ia+ib)) ?step1 ?fin1 ⟨rfl,_,_,_,_,_,rfl,M,h1,h2,by lia⟩) ?post1)
  case fin1 =>
   rintro c st' ⟨rfl,out,ia,ib,ac,bc,rfl,M,h1,h2,h3⟩
   exact⟨rfl,.inr ⟨out,ia,ib,ac,bc,rfl,M,h1,h2,by lia⟩⟩
  case step1 =>
   intro x c st' _ hx hI
   refine via fun G hG=>?_
   obtain⟨rfl,out,ia,ib,ac,bc,rfl,M,h1,h2,h3⟩:=hI
   obtain⟨y,ey,my⟩:=jy h2
   obtain⟨z,ez,mz⟩:=jy (a:=a) (i:=ia) (by lia)
   refine hG ?_
   clear hG
   dsimp -zeta only
   refine XC (je ey (XC (je ez (XC (zlC T hk1 (mb y my) (ma z mz) ?_)))))
   dsimp -zeta only
   refine qC (fun hlt=>?_) fun hlt=>?_
   ·have hlt':rk y<rk z:=of_decide_eq_true hlt
    have M2:=MI.oneB M sb ey fun v hv=>VN (V7 hlt') (Zp sa ez v hv)
    refine XC (je ey ?_)
    refine qC (fun he=>Xq ⟨rfl,.inl ⟨_,rfl,Ql M2 sa (by rw[show ib+1=b.size by simpa using he];exact XW _)⟩⟩) fun he=>?_
    have hb3:ib+1<b.size:=by
     have:¬ ib+1=b.size:=by simpa using he
     lia
    exact qC (fun _=>Xq ⟨rfl,.inr ⟨_,_,_,_,_,rfl,M2,h1,hb3,by lia⟩⟩) fun _=>Xq ⟨rfl,_,_,_,_,_,rfl,M2,h1,hb3,by lia⟩
   ·have hlt':¬ rk y<rk z:=fun q=>hlt (decide_eq_true q)
    have M2:=MI.oneA M sa ez fun v hv=>VN (OS.mp hlt') (Zp sb ey v hv)
    refine XC (je ez ?_)
    refine qC (fun he=>Xq ⟨rfl,.inl ⟨_,rfl,Qm M2 sa sb hl (by simpa using he)⟩⟩) fun he=>?_
    have ha3:ia+1+1<a.size:=by
     have:¬ ia+1+1=a.size:=by simpa using he
     lia
    exact qC (fun _=>Xq ⟨rfl,.inr ⟨_,_,_,_,_,rfl,M2,ha3,h2,by lia⟩⟩) fun _=>Xq ⟨rfl,_,_,_,_,_,rfl,M2,ha3,h2,by lia⟩
  case post1 =>
   intro c st' hI
   refine via fun G hG=>?_
   rcases hI with ⟨rfl,hc1 | ⟨out,ia,ib,ac,bc,rfl,M,h1,h2,h3⟩⟩
   all_goals (refine hG ?_;clear hG)
   ·obtain⟨res,e,hM⟩:=hc1
    obtain⟨c1,c2⟩:=c
    dsimp only at e ⊢
    subst e
    exact Xq ⟨res,rfl,hM,k1⟩
   dsimp -zeta only
   refine XC (RA (Ur ⟨rfl,?_⟩))
   refine XC (UB (V8 (I:=fun x c st2=>∃out ia ib mg ac bc,c=(none,out,ia,ib,mg,ac,bc)/\MI rk a.toList b.toList ia ib out.toList/\ia+1<a.size/\ib<b.size/\x0+2<=ia+ib/\Kept st0 st2)
    (Q:=fun c st2=>(∃res,c.1=some res/\Mg rk a.toList b.toList res.toList/\Kept st0 st2)\/∃out ia ib mg ac bc,c=(none,out,ia,ib,mg,ac,bc)/\MI rk a.toList b.toList ia ib out.toList/\ia+1<a.size/\ib<b.size/\x0+2<=ia+ib/\Kept st0 st2) ?step2 ?fin2 ⟨_,_,_,_,_,_,rfl,M,h1,h2,h3,k1⟩) ?post2)
   case fin2 =>
    rintro c st2 hc
    exact .inr hc
   case post2 =>
    rintro c st2 (⟨res,e,hM,k2⟩ | ⟨out,ia,ib,mg,ac,bc,rfl,M,h1,h2,h3,k2⟩)
    ·obtain⟨c1,c2⟩:=c
     dsimp only at e ⊢
     subst e
     exact Xq ⟨res,rfl,hM,k2⟩
    ·dsimp -zeta only
     exact XC (zfi k2 fun st3 k3=>Xq ⟨_,_,_,_,rfl,M,h1,h2,by lia,k3⟩)
   case step2 =>
    intro x c st2 _ hx hI
    refine via fun G hG=>?_
    obtain⟨out,ia,ib,mg,ac,bc,rfl,M,h1,h2,h3,k2⟩:=hI
    obtain⟨y,ey,my⟩:=jy h2
    refine hG ?_
    clear hG
    dsimp -zeta only
    refine' cut ?key1 fun key=>qC (fun hmg=>?a1) fun hmg=>?b1
    case a1 =>
     generalize mg-1=mg1
     revert mg1
     exact key.get
    case b1=>exact key.get mg
    intro mg1
    dsimp -zeta only
    refine XC (zfi k2 fun st3 k3=>?_)
    have hk3:kindOf st3=κ:=k3.kind.trans hk
    refine XC (je ey (XC (zbA T hk3 (mb y my) ma (fun i j u v _ hij _ eu ev=>zjn sa hij eu ev) (by lia) (by lia) fun k hk4 g1 g2=>?_)))
    dsimp -zeta only
    refine' cut ?key2 fun key=>qC (fun hk0=>?a2) fun hk0=>?b2
    case a2 =>
     have M2:=MI.someA M sa sb ey g1
     refine qC (fun he=>Xq (.inl ⟨_,rfl,Qm M2 sa sb hl (by simpa using he),k3⟩)) fun he=>?_
     have ne1:¬ ia+k+1=a.size:=by simpa using he
     have kl:ia+k<a.size:=by
      refine Nat.lt_of_not_le fun hge=>?_
      obtain⟨v,ev,mv⟩:=jy (a:=a) (i:=a.size-1) (by lia)
      have q1:=g1 (a.size-1-ia) v (by lia) (by rw[show ia+(a.size-1-ia)=a.size-1 by lia];exact ev)
      have q2:=hl' y my v ev
      lia
     refine qC (fun he2=>absurd (show ia+k=a.size by simpa using he2) (by lia)) fun he2=>?_
     have h1':ia+k+1<a.size:=by lia
     have h3':x0+2<=ia+k+ib:=by lia
     have g2':∀z,a[ia+k]?=some z->rk y<=rk z:=fun z ez=>V7 (g2 k z (XW _) (by lia) ez)
     generalize out++a.extract ia (ia+k)=zfj at M2 ⊢
     generalize ia+k=ia1 at M2 h1' h3' g2' ⊢
     revert g2';revert h3';revert h1';revert M2;revert ia1;revert zfj
     exact key.get
    case b2=>exact key.get out ia M h1 h3 fun z ez=>V7 (g2 0 z (by lia) (by lia) (by simpa using ez))
    intro zfj ia1 M2 h1' h3' g2'
    refine via fun G hG=>?_
    obtain⟨z,ez,mz⟩:=jy (a:=a) (i:=ia1) (by lia)
    refine hG ?_
    clear hG
    have M3:=MI.oneB M2 sb ey fun v hv=>VN (g2' z ez) (Zp sa ez v hv)
    refine XC (je ey ?_)
    refine qC (fun he=>Xq (.inl ⟨_,rfl,Ql M3 sa (by rw[show ib+1=b.size by simpa using he];exact XW _),k3⟩)) fun he=>?_
    have hb3:ib+1<b.size:=by
     have:¬ ib+1=b.size:=by simpa using he
     lia
    refine XC (je ez (XC (zbB T hk3 (ma z mz) mb (fun i j u v _ hij _ eu ev=>zjn sb hij eu ev) (by lia) (by lia) fun k' hk5 g3 g4=>?_)))
    dsimp -zeta only
    refine' cut ?key3 fun key=>qC (fun hk0'=>?a3) fun hk0'=>?b3
    case a3 =>
     have M4:=MI.someB M3 sa sb ez fun i u hi eu=>V7 (g3 i u hi eu)
     refine qC (fun he=>Xq (.inl ⟨_,rfl,Ql M4 sa (by rw[show ib+1+k'=b.size by simpa using he];exact XW _),k3⟩)) fun he=>?_
     have hb4:ib+1+k'<b.size:=by
      have:¬ ib+1+k'=b.size:=by simpa using he
      lia
     have g4':∀v,b[ib+1+k']?=some v->rk z<=rk v:=fun v ev=>g4 k' v (XW _) (by lia) ev
     have h3'':x0+2<=ia1+(ib+1+k'):=by lia
     generalize zfj.push y++b.extract (ib+1) (ib+1+k')=zlG at M4 ⊢
     generalize ib+1+k'=ib1 at M4 hb4 g4' h3'' ⊢
     revert h3'';revert g4';revert hb4;revert M4;revert ib1;revert zlG
     exact key.get
    case b3=>exact key.get (zfj.push y) (ib+1) M3 hb3 (fun v ev=>g4 0 v (by lia) (by lia) (by simpa using ev)) (by lia)
    intro zlG ib1 M4 hb4 g4' h3''
    refine via fun G hG=>?_
    obtain⟨v,ev,mv⟩:=jy (a:=b) (i:=ib1) hb4
    refine hG ?_
    clear hG
    have M5:=MI.oneA M4 sa ez fun u hu=>VN (g4' v ev) (Zp sb ev u hu)
    refine XC (je ez ?_)
    refine qC (fun he=>Xq (.inl ⟨_,rfl,Qm M5 sa sb hl (by simpa using he),k3⟩)) fun he=>?_
    have ha3:ia1+1+1<a.size:=by
     have:¬ ia1+1+1=a.size:=by simpa using he
     lia
    exact qC (fun _=>Xq (.inr ⟨_,_,_,_,_,_,rfl,M5,ha3,hb4,by lia,k3⟩)) fun _=>Xq ⟨_,_,_,_,_,_,rfl,M5,ha3,hb4,by lia,k3⟩
end
end GS
namespace GS
noncomputable def neg (rk:W7->Int):W7->Int:=fun x=>- rk x
theorem zct {a:Array W7}{j:Nat}(h:j<a.size):a.reverse[j]?=a[a.size-1-j]?:=by
 rw[QP h]
def Hi (rk:W7->Int)(a b:Array W7)(na nb:Nat)(out:Array W7):Prop:=MI (neg rk) a.reverse.toList b.reverse.toList (a.size-na) (b.size-nb) out.toList
section
variable {rk:W7->Int}{a b out:Array W7}{na nb:Nat}
theorem Yz (sa:a.toList.Pairwise fun x y=>rk x<=rk y):a.reverse.toList.Pairwise fun x y=>neg rk x<=neg rk y:=by
 rw[Vg,PN]
 exact sa.imp fun h=>S7 h
theorem zcW {i:Nat}{x:W7}(h1:1<=i)(h2:i<=a.size)(e:a[i-1]?=some x):a.reverse[a.size-i]?=some x:=by
 rw[zct (by lia),show a.size-1-(a.size-i)=i-1 by lia]
 exact e
theorem Hi.oneA {x y:W7}(M:Hi rk a b na nb out)(sa:a.toList.Pairwise fun x y=>rk x<=rk y)(sb:b.toList.Pairwise fun x y=>rk x<=rk y)(h1:1<=na)(h2:na<=a.size)(h3:1<=nb)(h4:nb<=b.size)(ex:a[na-1]?=some x)(ey:b[nb-1]?=some y)(h:rk y<=rk x):Hi rk a b (na-1) nb (out.push x):=by
 have:=MI.oneA (rk:=neg rk) M (Yz sa) (zcW h1 h2 ex) fun v hv=>VN (S7 h) (Zp (Yz sb) (zcW h3 h4 ey) v hv)
 unfold Hi
 rw[show a.size-(na-1)=a.size-na+1 by lia]
 exact this
theorem Hi.oneB {x y:W7}(M:Hi rk a b na nb out)(sa:a.toList.Pairwise fun x y=>rk x<=rk y)(sb:b.toList.Pairwise fun x y=>rk x<=rk y)(h1:1<=na)(h2:na<=a.size)(h3:1<=nb)(h4:nb<=b.size)(ex:a[na-1]?=some x)(ey:b[nb-1]?=some y)(h:rk x<=rk y):Hi rk a b na (nb-1) (out.push y):=by
 have:=MI.oneB (rk:=neg rk) M (Yz sb) (zcW h3 h4 ey) fun v hv=>VN (S7 h) (Zp (Yz sa) (zcW h1 h2 ex) v hv)
 unfold Hi
 rw[show b.size-(nb-1)=b.size-nb+1 by lia]
 exact this
theorem znd {i j:Nat}(h1:i<=j)(h2:j<=a.size):(a.extract i j).reverse=a.reverse.extract (a.size-j) (a.size-j+(j-i)):=by
 apply Array.ext_getElem?
 intro k
 by_cases hk:k<j-i
 ·rw[QP (by rw[Ul];lia),SQ,SQ,Ul]
  rw[if_pos (by lia),if_pos (by rw[U1];lia),zct (by lia)]
  congr 1
  lia
 ·rw[WK (by rw[U1,Ul];lia),WK (by rw[Ul,U1];lia)]
theorem Hi.someA {i:Nat}{y:W7}(M:Hi rk a b na nb out)(sa:a.toList.Pairwise fun x y=>rk x<=rk y)(sb:b.toList.Pairwise fun x y=>rk x<=rk y)(h1:i<=na)(h2:na<=a.size)(h3:1<=nb)(h4:nb<=b.size)(ey:b[nb-1]?=some y)(h:∀j x,i<=j->j<na->a[j]?=some x->rk y<=rk x):Hi rk a b i nb (out++(a.extract i na).reverse):=by
 have:=MI.someA (rk:=neg rk) (k:=na-i) M (Yz sa) (Yz sb) (zcW h3 h4 ey) fun j x hj ex=>S7 (h (na-1-j) x (by lia) (by lia) (by
  rw[zct (by lia)] at ex
  rw[<- ex]
  congr 1
  lia))
 unfold Hi
 rw[znd h1 h2,show a.size-i=a.size-na+(na-i) by lia]
 exact this
theorem Hi.someB {i:Nat}{y:W7}(M:Hi rk a b na nb out)(sa:a.toList.Pairwise fun x y=>rk x<=rk y)(sb:b.toList.Pairwise fun x y=>rk x<=rk y)(h1:i<=nb)(h2:nb<=b.size)(h3:1<=na)(h4:na<=a.size)(ey:a[na-1]?=some y)(h:∀j x,i<=j->j<nb->b[j]?=some x->rk y<=rk x):Hi rk a b na i (out++(b.extract i nb).reverse):=(Hi.someA (a:=b) (b:=a) M.swap sb sa h1 h2 h3 h4 ey h).swap
theorem zlH {oL:List W7}(h:Mg (neg rk) b.reverse.toList a.reverse.toList oL):Mg rk a.toList b.toList oL.reverse:=by
 obtain⟨p,q⟩:=h
 rw[Vg,Vg] at p
 refine⟨?_,?_⟩
 ·refine(RJ _).trans (p.trans (T8.trans ?_))
  exact List.Perm.append (RJ _) (RJ _)
 ·rw[PN]
  refine q.imp fun {x y} h=>?_
  have h':- rk x<=- rk y:=h
  lia
theorem zcu {i:Nat}(h:i<=a.size):(a.reverse.extract (a.size-i) a.reverse.size).toList.reverse=(a.extract 0 i).toList:=by
 rw[zaT,Vg,ext_toList _ _ _ (WW _),PC,Nat.sub_zero]
 have:=List.reverse_take (l:=a.toList) (i:=i)
 rw[X6] at this
 rw[<- this,Ss]
theorem Hi.done (M:Hi rk a b 0 nb out)(sb:b.toList.Pairwise fun x y=>rk x<=rk y)(h:nb<=b.size):Mg rk a.toList b.toList (a.extract 0 0++b.extract 0 nb++out.reverse).toList:=by
 have h1:=Ql (rk:=neg rk) (a:=b.reverse) (b:=a.reverse) M.swap (Yz sb) (by rw[U1];lia)
 have h2:=zlH h1
 rw[WI,WI,TN,TN,zcu h] at h2
 have e0:=zcu (a:=a) (i:=0) (WW _)
 rw[e0] at h2
 rw[WI,WI,Vg,WZ]
 exact h2
theorem Hi.first (M:Hi rk a b na 1 out)(sa:a.toList.Pairwise fun x y=>rk x<=rk y)(sb:b.toList.Pairwise fun x y=>rk x<=rk y)(hb:0<b.size)(h:na<=a.size)(h0:∀x y,b[0]?=some x->y∈a.toList->rk x<rk y):Mg rk a.toList b.toList (b.extract 0 1++a.extract 0 na++out.reverse).toList:=by
 have h1:=Qm (rk:=neg rk) (a:=b.reverse) (b:=a.reverse) M.swap (Yz sb) (Yz sa) (fun x hx y ey=>by
  rw[U1,zct (by lia),show b.size-1-(b.size-1)=0 by lia] at ey
  have hx':x∈a.toList:=by simpa using hx
  exact S7 (V7 (h0 y x ey hx'))) (by rw[U1];lia)
 have h2:=zlH h1
 rw[WI,WI,TN,TN,zcu h,zcu (by lia)] at h2
 rw[WI,WI,Vg,WZ]
 exact h2
end
section
variable {prog:Xy}{w:W6}{A:WG}{E:X9->X5->Prop}{s:X5}{rk:W7->Int}{κ:T2}{a0:Array W7}
set_option maxHeartbeats 8000000 in
theorem zkj {st0:WQ}{a b:Array W7}{Q:Array W7->WQ->Prop}(T:Tells prog w A s κ rk a0)(hk:kindOf st0=κ)(ma:∀x∈a.toList,x∈a0.toList)(mb:∀x∈b.toList,x∈a0.toList)(sa:a.toList.Pairwise fun x y=>rk x<=rk y)(sb:b.toList.Pairwise fun x y=>rk x<=rk y)
  (ha:0<a.size) (hb:0<b.size) (h0:∀x y,b[0]?=some x->y∈a.toList->rk x<rk y) (hl:∀x∈b.toList,∀y,a[a.size-1]?=some y->rk x<rk y)
  (h:∀out st',Kept st0 st'->Mg rk a.toList b.toList out.toList->Q out st'):wpS (Xf prog w) A E s (mergeHi' a b) Q st0:=by
 refine XC (RA (Ur ⟨rfl,?_⟩))
 obtain⟨z0,ez0,_⟩:=jy (a:=a) (i:=a.size-1) (by lia)
 obtain⟨y0,ey0,my0⟩:=jy (a:=b) (i:=b.size-1) (by lia)
 refine XC (je ez0 ?_)
 have M0:Hi rk a b a.size b.size #[]:=by
  unfold Hi
  rw[Tc,Tc]
  exact⟨by simp,List.Pairwise.nil,(fun x hx=>nomatch hx),(fun x hx=>nomatch hx)⟩
 have M1:Hi rk a b (a.size-1) b.size #[z0]:=M0.oneA sa sb (by lia) (XW _) (by lia) (XW _) ez0 ey0 (V7 (hl y0 my0 z0 ez0))
 dsimp -zeta only
 refine qC (fun hc=>Xq (h _ _ (Kept.refl _) ?_)) fun hc=>?_
 ·have e:a.size-1=0:=by simpa using hc
  rw[e] at M1 ⊢
  exact M1.done sb (XW _)
 refine qC (fun hc2=>Xq (h _ _ (Kept.refl _) ?_)) fun hc2=>?_
 ·have e:b.size=1:=by simpa using hc2
  rw[e] at M1 ⊢
  exact M1.first sa sb hb (by lia) h0
 have ha2:1<=a.size-1:=by
  have:¬ a.size-1=0:=by simpa using hc
  lia
 have hb2:1<b.size:=by
  have:¬ b.size=1:=by simpa using hc2
  lia
 refine XC (SH ?_)
 refine XC (UB (V8 (I:=fun x c st'=>∃na nb out mg,c=(none,na,nb,out,mg)/\Hi rk a b na nb out/\1<=na/\na<a.size/\1<nb/\nb<=b.size/\na+nb+x+1<=a.size+b.size/\Kept st0 st')
  (Q:=fun c st'=>∃res,c.1=some res/\Mg rk a.toList b.toList res.toList/\Kept st0 st') ?step ?fin ⟨_,_,_,_,rfl,M1,ha2,by lia,hb2,XW _,by lia,Kept.refl _⟩) ?post)
 case fin =>
  rintro c st' ⟨na,nb,out,mg,rfl,M,h1,h2,h3,h4,h5,k⟩
  lia
 case post =>
  rintro⟨c1,c2⟩ st' ⟨res,e,hM,k⟩
  dsimp only at e ⊢
  subst e
  exact Xq (h _ _ k hM)
 case step =>
  intro x0 c st1 _ hx0 hI
  refine via fun G hG=>?_
  obtain⟨na,nb,out,mg,rfl,M,h1,h2,h3,h4,h5,k1⟩:=hI
  refine hG ?_
  clear hG
  have hk1:kindOf st1=κ:=k1.kind.trans hk
  dsimp -zeta only
  refine XC (UB (V8 (I:=fun x c st'=>st'=st1/\∃na nb out ac bc,c=(none,na,nb,out,ac,bc)/\Hi rk a b na nb out/\1<=na/\na<a.size/\1<nb/\nb<=b.size/\na+nb+x0+1+x<=a.size+b.size)
   (Q:=fun c st'=>st'=st1/\((∃res,c.1=some res/\Mg rk a.toList b.toList res.toList)\/∃na nb out ac bc,c=(none,na,nb,out,ac,bc)/\Hi rk a b na nb out/\1<=na/\na<a.size/\1<nb/\nb<=b.size/\na+nb+x0+2<=a.size+b.size)) ?step1 ?fin1 ⟨rfl,_,_,_,_,_,rfl,M,h1,h2,h3,h4,by lia⟩) ?post1)
  case fin1 =>
   rintro c st' ⟨rfl,na,nb,out,ac,bc,rfl,M,h1,h2,h3,h4,h5⟩
   exact⟨rfl,.inr ⟨na,nb,out,ac,bc,rfl,M,h1,h2,h3,h4,by lia⟩⟩
  case step1 =>
   intro x c st' _ hx hI
   refine via fun G hG=>?_
   obtain⟨rfl,na,nb,out,ac,bc,rfl,M,h1,h2,h3,h4,h5⟩:=hI
   obtain⟨y,ey,my⟩:=jy (a:=b) (i:=nb-1) (by lia)
   obtain⟨z,ez,mz⟩:=jy (a:=a) (i:=na-1) (by lia)
   refine hG ?_
   clear hG
   dsimp -zeta only
   refine XC (je ey (XC (je ez (XC (zlC T hk1 (mb y my) (ma z mz) ?_)))))
   dsimp -zeta only
   refine qC (fun hlt=>?_) fun hlt=>?_
   ·have hlt':rk y<rk z:=of_decide_eq_true hlt
    have M2:=M.oneA sa sb h1 (by lia) (by lia) h4 ez ey (V7 hlt')
    refine XC (je ez ?_)
    refine qC (fun he=>Xq ⟨rfl,.inl ⟨_,rfl,?_⟩⟩) fun he=>?_
    ·have e:na-1=0:=by simpa using he
     rw[e] at M2 ⊢
     exact M2.done sb h4
    have hn:1<=na-1:=by
     have:¬ na-1=0:=by simpa using he
     lia
    exact qC (fun _=>Xq ⟨rfl,.inr ⟨_,_,_,_,_,rfl,M2,hn,by lia,h3,h4,by lia⟩⟩) fun _=>Xq ⟨rfl,_,_,_,_,_,rfl,M2,hn,by lia,h3,h4,by lia⟩
   ·have hlt':¬ rk y<rk z:=fun q=>hlt (decide_eq_true q)
    have M2:=M.oneB sa sb h1 (by lia) (by lia) h4 ez ey (OS.mp hlt')
    refine XC (je ey ?_)
    refine qC (fun he=>Xq ⟨rfl,.inl ⟨_,rfl,?_⟩⟩) fun he=>?_
    ·have e:nb-1=1:=by simpa using he
     rw[e] at M2 ⊢
     exact M2.first sa sb hb (by lia) h0
    have hn:1<nb-1:=by
     have:¬ nb-1=1:=by simpa using he
     lia
    exact qC (fun _=>Xq ⟨rfl,.inr ⟨_,_,_,_,_,rfl,M2,h1,h2,hn,by lia,by lia⟩⟩) fun _=>Xq ⟨rfl,_,_,_,_,_,rfl,M2,h1,h2,hn,by lia,by lia⟩
  case post1 =>
   intro c st' hI
   refine via fun G hG=>?_
   rcases hI with ⟨rfl,hc1 | ⟨na,nb,out,ac,bc,rfl,M,h1,h2,h3,h4,h5⟩⟩
   all_goals (refine hG ?_;clear hG)
   ·obtain⟨res,e,hM⟩:=hc1
    obtain⟨c1,c2⟩:=c
    dsimp only at e ⊢
    subst e
    exact Xq ⟨res,rfl,hM,k1⟩
   dsimp -zeta only
   refine XC (RA (Ur ⟨rfl,?_⟩))
   refine XC (UB (V8 (I:=fun x c st2=>∃na nb out mg ac bc,c=(none,na,nb,out,mg,ac,bc)/\Hi rk a b na nb out/\1<=na/\na<a.size/\1<nb/\nb<=b.size/\na+nb+x0+2<=a.size+b.size/\Kept st0 st2)
    (Q:=fun c st2=>(∃res,c.1=some res/\Mg rk a.toList b.toList res.toList/\Kept st0 st2)\/∃na nb out mg ac bc,c=(none,na,nb,out,mg,ac,bc)/\Hi rk a b na nb out/\1<=na/\na<a.size/\1<nb/\nb<=b.size/\na+nb+x0+2<=a.size+b.size/\Kept st0 st2) ?step2 ?fin2 ⟨_,_,_,_,_,_,rfl,M,h1,h2,h3,h4,h5,k1⟩) ?post2)
   case fin2 =>
    rintro c st2 hc
    exact .inr hc
   case post2 =>
    rintro c st2 (⟨res,e,hM,k2⟩ | ⟨na,nb,out,mg,ac,bc,rfl,M,h1,h2,h3,h4,h5,k2⟩)
    ·obtain⟨c1,c2⟩:=c
     dsimp only at e ⊢
     subst e
     exact Xq ⟨res,rfl,hM,k2⟩
    ·dsimp -zeta only
     exact XC (zfi k2 fun st3 k3=>Xq ⟨_,_,_,_,rfl,M,h1,h2,h3,h4,by lia,k3⟩)
   case step2 =>
    intro x c st2 _ hx hI
    refine via fun G hG=>?_
    obtain⟨na,nb,out,mg,ac,bc,rfl,M,h1,h2,h3,h4,h5,k2⟩:=hI
    obtain⟨y,ey,my⟩:=jy (a:=b) (i:=nb-1) (by lia)
    refine hG ?_
    clear hG
    dsimp -zeta only
    refine' cut ?key1 fun key=>qC (fun hmg=>?a1) fun hmg=>?b1
    case a1 =>
     generalize mg-1=mg1
     revert mg1
     exact key.get
    case b1=>exact key.get mg
    intro mg1
    dsimp -zeta only
    refine XC (zfi k2 fun st3 k3=>?_)
    have hk3:kindOf st3=κ:=k3.kind.trans hk
    refine XC (je ey (XC (zbA T hk3 (mb y my) ma (fun i j u v _ hij _ eu ev=>zjn sa hij eu ev) (by lia) (by lia) fun k hk4 g1 g2=>?_)))
    dsimp -zeta only
    refine' cut ?key2 fun key=>qC (fun hk0=>?a2) fun hk0=>?b2
    case a2 =>
     have M2:=M.someA sa sb (i:=k) (by lia) (by lia) (by lia) h4 ey fun j u hj1 hj2 eu=>V7 (g2 j u hj1 hj2 (by simpa using eu))
     refine qC (fun he=>Xq (.inl ⟨_,rfl,(by
      have e:k=0:=by simpa using he
      rw[e] at M2 ⊢
      exact M2.done sb h4),k3⟩)) fun he=>?_
     have h1':1<=k:=by
      have:¬ k=0:=by simpa using he
      lia
     have h2':k<a.size:=by lia
     have h5':k+nb+x0+2<=a.size+b.size:=by lia
     have g1':∀z,a[k-1]?=some z->rk z<=rk y:=fun z ez=>g1 (k-1) z (by lia) (by simpa using ez)
     generalize out++(a.extract k na).reverse=zfj at M2 ⊢
     generalize na-k=kk
     generalize k=na1 at M2 h1' h2' h5' g1' ⊢
     revert g1';revert h5';revert h2';revert h1';revert M2;revert na1;revert kk;revert zfj
     exact key.get
    case b2=>exact key.get out (na-k) na M h1 h2 h5 fun z ez=>g1 (na-1) z (by lia) (by simpa using ez)
    intro zfj kk na1 M2 h1' h2' h5' g1'
    refine via fun G hG=>?_
    obtain⟨z,ez,mz⟩:=jy (a:=a) (i:=na1-1) (by lia)
    refine hG ?_
    clear hG
    have M3:=M2.oneB sa sb h1' (by lia) (by lia) h4 ez ey (g1' z ez)
    refine XC (je ey ?_)
    refine qC (fun he=>Xq (.inl ⟨_,rfl,(by
     have e:nb-1=1:=by simpa using he
     rw[e] at M3 ⊢
     exact M3.first sa sb hb (by lia) h0),k3⟩)) fun he=>?_
    have hn:1<nb-1:=by
     have:¬ nb-1=1:=by simpa using he
     lia
    refine XC (je ez (XC (zbB T hk3 (ma z mz) mb (fun i j u v _ hij _ eu ev=>zjn sb hij eu ev) (by lia) (by lia) fun k' hk5 g3 g4=>?_)))
    dsimp -zeta only
    refine' cut ?key3 fun key=>qC (fun hk0'=>?a3) fun hk0'=>?b3
    case a3 =>
     have M4:=M3.someB sa sb (i:=k') (by lia) (by lia) h1' (by lia) ez fun j u hj1 hj2 eu=>g4 j u hj1 hj2 (by simpa using eu)
     refine qC (fun he=>Xq (.inl ⟨_,rfl,(by
      have e:k'=1:=by simpa using he
      rw[e] at M4 ⊢
      exact M4.first sa sb hb (by lia) h0),k3⟩)) fun he=>?_
     have k1':1<=k':=by
      refine Qr.mpr fun hz=>?_
      obtain⟨v,ev,mv⟩:=jy (a:=b) (i:=0) hb
      have q1:=g4 0 v (by lia) (by lia) (by simpa using ev)
      have q2:=h0 v z ev mz
      lia
     refine qC (fun he2=>absurd (show k'=0 by simpa using he2) (by lia)) fun he2=>?_
     have hn':1<k':=by
      have:¬ k'=1:=by simpa using he
      lia
     have hb':k'<=b.size:=by lia
     have h5'':na1+k'+x0+2<=a.size+b.size:=by lia
     have g3':∀v,b[k'-1]?=some v->rk v<=rk z:=fun v ev=>V7 (g3 (k'-1) v (by lia) (by simpa using ev))
     generalize zfj.push y++(b.extract k' (nb-1)).reverse=zlG at M4 ⊢
     generalize nb-1-k'=kk'
     generalize k'=nb1 at M4 hn' hb' h5'' g3' ⊢
     revert g3';revert h5'';revert hb';revert hn';revert M4;revert nb1;revert kk';revert zlG
     exact key.get
    case b3=>exact key.get (zfj.push y) (nb-1-k') (nb-1) M3 hn (by lia) (by lia) fun v ev=>V7 (g3 (nb-1-1) v (by lia) (by simpa using ev))
    intro zlG kk' nb1 M4 hn' hb' h5'' g3'
    obtain⟨v,ev,mv⟩:=jy (a:=b) (i:=nb1-1) (by lia)
    have M5:=M4.oneA sa sb h1' (by lia) (by lia) hb' ez ev (g3' v ev)
    refine XC (je ez ?_)
    refine qC (fun he=>Xq (.inl ⟨_,rfl,(by
     have e:na1-1=0:=by simpa using he
     rw[e] at M5 ⊢
     exact M5.done sb hb'),k3⟩)) fun he=>?_
    have hn2:1<=na1-1:=by
     have:¬ na1-1=0:=by simpa using he
     lia
    exact qC (fun _=>Xq (.inr ⟨_,_,_,_,_,_,rfl,M5,hn2,by lia,hn',hb',by lia,k3⟩)) fun _=>Xq ⟨_,_,_,_,_,_,rfl,M5,hn2,by lia,hn',hb',by lia,k3⟩
end
end GS
namespace GS
theorem zem (sa:Nat):∀(l:List W7) (j:Nat) (arr:Array W7),((l.zipIdx j).foldl (fun a (p:W7×Nat)=>a.setIfInBounds (sa+p.2) p.1) arr).size=arr.size
 | [],_,_=>rfl
 | x::l,j,arr=>by
  rw[List.zipIdx_cons,Wy,zem sa l (j+1)]
  exact TD
theorem zne (sa:Nat):∀(l:List W7) (j:Nat) (arr:Array W7) (i:Nat),sa+j+l.length<=arr.size->((l.zipIdx j).foldl (fun a (p:W7×Nat)=>a.setIfInBounds (sa+p.2) p.1) arr)[i]?=if sa+j<=i/\i<sa+j+l.length then l[i-(sa+j)]? else arr[i]?:=by
 intro l
 induction l with
 | nil =>
  intro j arr i h
  rw[if_neg (by simp only[Uf];lia)]
  rfl
 | cons x l ih =>
  intro j arr i h
  rw[Xw] at h
  rw[List.zipIdx_cons,Wy,ih (j+1) _ i (by rw[TD];lia),Xw]
  by_cases h1:sa+(j+1)<=i/\i<sa+(j+1)+l.length
  ·rw[if_pos h1,if_pos (by lia),show i-(sa+j)=(i-(sa+(j+1)))+1 by lia,Tj]
  ·rw[if_neg h1]
   by_cases h2:i=sa+j
   ·subst h2
    rw[if_pos (by lia),Tc,Ro]
    show (arr.setIfInBounds (sa+j) x)[sa+j]?=some x
    rw[Ud,if_pos rfl,if_pos (by lia)]
   ·rw[if_neg (by lia)]
    show (arr.setIfInBounds (sa+j) x)[i]?=arr[i]?
    rw[Ud,if_neg (fun e=>h2 e.symm)]
section
variable {prog:Xy}{w:W6}{A:WG}{E:X9->X5->Prop}{s:X5}{rk:W7->Int}{κ:T2}{a0:Array W7}
theorem xE {xs:Array W7}{lo hi:Nat}(u:Up rk xs lo hi){i j:Nat}{x y:W7}(h1:lo<=i)(h2:i<=j)(h3:j<hi)(ex:xs[i]?=some x)(ey:xs[j]?=some y):rk x<=rk y:=by
 have:=u i j h1 h2 h3
 unfold Rk at this
 rw[ex,ey] at this
 exact this
theorem zn1 {xs:Array W7}{lo hi:Nat}(hz:hi<=xs.size)(h:∀i j x y,lo<=i->i<=j->j<hi->xs[i]?=some x->xs[j]?=some y->rk x<=rk y):Up rk xs lo hi:=fun i j h1 h2 h3=>by
 obtain⟨x,ex,_⟩:=jy (a:=xs) (i:=i) (by lia)
 obtain⟨y,ey,_⟩:=jy (a:=xs) (i:=j) (by lia)
 unfold Rk
 rw[ex,ey]
 exact h i j x y h1 h2 h3 ex ey
theorem zjo {xs:Array W7}{i:Nat}{x:W7}(e:xs[i]?=some x):x∈xs.toList:=X2 (by rw[Xr];exact e)
theorem ext_get {xs:Array W7}{i j k:Nat}(h1:i<=j)(h2:j<=xs.size)(hk:k<j-i):(xs.extract i j)[k]?=xs[i+k]?:=by
 rw[SQ,if_pos (by lia)]
theorem zaU {xs:Array W7}{i j:Nat}(h2:j<=xs.size):(xs.extract i j).size=j-i:=by
 rw[Ul]
 lia
theorem zlI {xs:Array W7}{lo hi i j:Nat}(u:Up rk xs lo hi)(h1:lo<=i)(h2:j<=hi)(h3:j<=xs.size):(xs.extract i j).toList.Pairwise fun x y=>rk x<=rk y:=by
 rw[Vt]
 intro m n hm hn hmn
 rw[X6,zaU h3] at hm hn
 have em:=ext_get (xs:=xs) (i:=i) (j:=j) (k:=m) (by lia) h3 hm
 have en:=ext_get (xs:=xs) (i:=i) (j:=j) (k:=n) (by lia) h3 hn
 refine xE u (i:=i+m) (j:=i+n) (by lia) (by lia) (by lia) ?_ ?_
 ·rw[<- em,UP]
  exact getElem?_pos _ _ _
 ·rw[<- en,UP]
  exact getElem?_pos _ _ _
theorem ext_mem {xs:Array W7}{i j:Nat}{x:W7}(h3:j<=xs.size)(h:x∈(xs.extract i j).toList):∃k,i<=k/\k<j/\xs[k]?=some x:=by
 obtain⟨k,hk,e⟩:=TQ h
 rw[X6,zaU h3] at hk
 refine⟨i+k,by lia,by lia,?_⟩
 rw[<- ext_get (xs:=xs) (i:=i) (j:=j) (by lia) h3 hk,<- e,UP]
 exact getElem?_pos _ _ _
theorem zqa {st st1:WQ}{Q:PUnit->WQ->Prop}(h:∀st2,st2=st1->Q ⟨⟩ st2):wpS (Xf prog w) A E s (set st1:StateT WQ Sem PUnit) Q st:=by
 unfold wpS
 rw[StateT.run_set]
 exact XS ⟨rfl,h _ rfl⟩
set_option maxHeartbeats 8000000 in
theorem zkk {st:WQ}{i sa na p1 nb p2:Nat}{Q:Bool->WQ->Prop}(T:Tells prog w A s κ rk a0)(O:Ok κ a0 st)(e1:(WO st)[i]?=some (sa,na,p1))(e2:(WO st)[i+1]?=some (sa+na,nb,p2))(hna:1<=na)(hnb:1<=nb)(hz:sa+na+nb<=a0.size)(u1:Up rk (Xo st) sa (sa+na))(u2:Up rk (Xo st) (sa+na) (sa+na+nb))
  (h:∀st',Ok κ a0 st'->WO st'=((WO st).setIfInBounds i (sa,na+nb,p1)).eraseIdxIfInBounds (i+1)->Up rk (Xo st') sa (sa+na+nb)->(∀j:Nat,(j<sa\/sa+na+nb<=j)->(Xo st')[j]?=(Xo st)[j]?)->Q true st'):wpS (Xf prog w) A E s (mergeAt' i) Q st:=by
 have hsz:=O.size
 have mX:∀x∈(Xo st).toList,x∈a0.toList:=fun x hx=>(U0.mp O.perm).mem_iff.mp hx
 obtain⟨b0,eb0,mb0⟩:=jy (a:=Xo st) (i:=sa+na) (by lia)
 refine XC (SH ?_)
 rw[e1,e2]
 dsimp only
 refine XC (zqa fun st1 hst=>?_)
 have k1:kindOf st1=κ:=by rw[hst];exact O.kind
 have ea:Xo st1=Xo st:=by rw[hst]
 have ep:WO st1=((WO st).setIfInBounds i (sa,na+nb,p1)).eraseIdxIfInBounds (i+1):=by rw[hst]
 have ef:Tg st1=none:=by rw[hst];exact O.good
 have O1:Ok κ a0 st1:=⟨by rw[ea];exact O.perm,k1,ef⟩
 refine XC (je eb0 (XC (zbA T k1 (mX b0 mb0) mX (fun p q u v h1 h2 h3 eu ev=>xE u1 h1 h2 h3 eu ev) (by show sa+na<=(Xo st).size;lia) (by lia) fun k hk g1 g2=>?_)))
 dsimp only
 refine qC (fun hc=>Xq (h st1 O1 ep (zn1 (by rw[ea];lia) fun p q u v h1 h2 h3 eu ev=>?_) fun j _=>by rw[ea])) fun hc=>?_
 ·have ek:k=na:=by
   have:na-k=0:=by simpa using hc
   lia
  rw[ea] at eu ev
  by_cases c1:q<sa+na
  ·exact xE u1 h1 h2 c1 eu ev
  ·by_cases c2:p<sa+na
   ·have q1:=g1 (p-sa) u (by lia) (by rw[show sa+(p-sa)=p by lia];exact eu)
    have q2:=xE u2 (XW _) (by lia) h3 eb0 ev
    lia
   ·exact xE u2 (by lia) h2 h3 eu ev
 have hkn:k<na:=by
  have:¬ na-k=0:=by simpa using hc
  lia
 obtain⟨al,eal,mal⟩:=jy (a:=Xo st) (i:=sa+k+(na-k)-1) (by lia)
 have eal':(Xo st)[sa+na-1]?=some al:=by
  rw[<- eal]
  congr 1
  lia
 refine XC (je eal (XC (zbB T k1 (mX al mal) mX (fun p q u v h1 h2 h3 eu ev=>xE u2 h1 h2 h3 eu ev) (by show sa+na+nb<=(Xo st).size;lia) (by lia) fun k' hk' g3 g4=>?_)))
 dsimp only
 have b0a:rk b0<rk al:=g2 (na-1) al (by lia) (by lia) (by rw[show sa+(na-1)=sa+na-1 by lia];exact eal')
 have k'1:1<=k':=by
  refine Qr.mpr fun hz0=>?_
  have:=g4 0 b0 (by lia) (by lia) (by simpa using eb0)
  lia
 refine qC (fun hc=>absurd (show k'=0 by simpa using hc) (by lia)) fun _=>?_
 have X3:sa+na<=(Xo st).size:=by lia
 have Y3:sa+na+k'<=(Xo st).size:=by lia
 have xs:=zlI (i:=sa+k) (j:=sa+na) u1 (by lia) (XW _) X3
 have ys:=zlI (i:=sa+na) (j:=sa+na+k') u2 (XW _) (by lia) Y3
 have xm:∀x∈((Xo st).extract (sa+k) (sa+na)).toList,x∈a0.toList:=fun x hx=>by
  obtain⟨j,_,_,ej⟩:=ext_mem X3 hx
  exact mX x (zjo ej)
 have ym:∀x∈((Xo st).extract (sa+na) (sa+na+k')).toList,x∈a0.toList:=fun x hx=>by
  obtain⟨j,_,_,ej⟩:=ext_mem Y3 hx
  exact mX x (zjo ej)
 have xz:((Xo st).extract (sa+k) (sa+na)).size=na-k:=by
  rw[zaU X3]
  lia
 have yz:((Xo st).extract (sa+na) (sa+na+k')).size=k':=by
  rw[zaU Y3]
  lia
 have first:∀x y,((Xo st).extract (sa+na) (sa+na+k'))[0]?=some x->y∈((Xo st).extract (sa+k) (sa+na)).toList->rk x<rk y:=fun x y ex my=>by
  rw[ext_get (by lia) Y3 (by lia),TW,eb0] at ex
  cases ex
  obtain⟨j,j1,j2,ej⟩:=ext_mem X3 my
  exact g2 (j-sa) y (by lia) (by lia) (by rw[show sa+(j-sa)=j by lia];exact ej)
 have last:∀x∈((Xo st).extract (sa+na) (sa+na+k')).toList,∀y,((Xo st).extract (sa+k) (sa+na))[((Xo st).extract (sa+k) (sa+na)).size-1]?=some y->rk x<rk y:=fun x mx y ey=>by
  rw[xz,ext_get (by lia) X3 (by lia),show sa+k+(na-k-1)=sa+na-1 by lia,eal'] at ey
  cases ey
  obtain⟨j,j1,j2,ej⟩:=ext_mem Y3 mx
  exact g3 (j-(sa+na)) x (by lia) (by rw[show sa+na+(j-(sa+na))=j by lia];exact ej)
 have tail:∀(merged:Array W7) (st2:WQ),Kept st1 st2->Mg rk ((Xo st).extract (sa+k) (sa+na)).toList ((Xo st).extract (sa+na) (sa+na+k')).toList merged.toList ->
   Q true (setArr st2 (merged.toList.zipIdx.foldl (fun a (p:W7×Nat)=>a.setIfInBounds (sa+k+p.2) p.1) (Xo st2))):=fun merged st2 K2 hM=>by
  have ea2:Xo st2=Xo st:=K2.arr.trans ea
  have ml:merged.toList.length=na-k+k':=by
   rw[hM.1.length_eq,XZ,X6,X6,xz,yz]
  have at_:∀j:Nat,(merged.toList.zipIdx.foldl (fun a (p:W7×Nat)=>a.setIfInBounds (sa+k+p.2) p.1) (Xo st2))[j]?=if sa+k<=j/\j<sa+na+k' then merged.toList[j-(sa+k)]? else (Xo st)[j]?:=fun j=>by
   have:=zne (sa+k) merged.toList 0 (Xo st2) j (by rw[ea2,ml];lia)
   rw[this,ea2,TW,ml]
   by_cases c:sa+k<=j/\j<sa+na+k'
   ·rw[if_pos c,if_pos (by lia)]
   ·rw[if_neg c,if_neg (by lia)]
  have zA:=zem (sa+k) merged.toList 0 (Xo st2)
  generalize hN:merged.toList.zipIdx.foldl (fun a (p:W7×Nat)=>a.setIfInBounds (sa+k+p.2) p.1) (Xo st2)=N at at_ zA ⊢
  have zN:N.size=a0.size:=by
   rw[zA,ea2,hsz]
  have nl:N.toList=(Xo st).toList.take (sa+k)++merged.toList++(Xo st).toList.drop (sa+na+k'):=by
   refine SX fun j=>?_
   rw[Xr,at_ j]
   by_cases c1:j<sa+k
   ·rw[if_neg (by lia),WZ,VS (by rw[XQ,X6];lia),List.getElem?_take,if_pos c1,Xr]
   ·rw[WZ,VA (by rw[XQ,X6];lia),XQ,X6,show min (sa+k) (Xo st).size=sa+k by lia]
    by_cases c2:j<sa+na+k'
    ·rw[if_pos ⟨by lia,c2⟩,VS (by rw[ml];lia)]
    ·rw[if_neg (by lia),VA (by rw[ml];lia),Um,Xr,ml]
     congr 1
     lia
  have ol:(Xo st).toList=(Xo st).toList.take (sa+k)++(((Xo st).extract (sa+k) (sa+na)).toList++((Xo st).extract (sa+na) (sa+na+k')).toList)++(Xo st).toList.drop (sa+na+k'):=by
   rw[ext_toList _ _ _ (by lia),ext_toList _ _ _ (by lia)]
   have d1:(Xo st).toList.drop (sa+na)=((Xo st).toList.drop (sa+k)).drop (na-k):=by
    rw[R7]
    congr 1
    lia
   have d2:(Xo st).toList.drop (sa+na+k')=((Xo st).toList.drop (sa+na)).drop k':=by
    rw[R7]
   rw[d2,show sa+na+k'-(sa+na)=k' by lia,WZ,WZ,WR,d1,show sa+na-(sa+k)=na-k by lia,WR,WR]
  refine h _ ⟨?_,K2.kind.trans k1,K2.bad.trans ef⟩ (K2.pend.trans ep) (zn1 (by show _<=N.size;lia) fun p q u v h1 h2 h3 eu ev=>?_) fun j hj=>?_
  ·refine Array.Perm.trans ?_ O.perm
   rw[U0]
   show N.toList.Perm _
   have pm:=List.Perm.append_right ((Xo st).toList.drop (sa+na+k')) (SN ((Xo st).toList.take (sa+k)) hM.1)
   rw[<- ol,<- nl] at pm
   exact pm
  ·have eu':N[p]?=some u:=eu
   have ev':N[q]?=some v:=ev
   rw[at_] at eu' ev'
   have mid:∀{j:Nat} {x:W7},sa+k<=j->j<sa+na+k'->merged.toList[j-(sa+k)]?=some x->(∃m,sa+k<=m/\m<sa+na/\(Xo st)[m]?=some x)\/∃m,sa+na<=m/\m<sa+na+k'/\(Xo st)[m]?=some x:=fun _ _ e=>by
    rcases XI.mp (hM.1.mem_iff.mp (X2 e)) with z | z
    ·exact .inl (ext_mem X3 z)
    ·exact .inr (ext_mem Y3 z)
   by_cases c1:p<sa+k
   ·rw[if_neg (by lia)] at eu'
    by_cases c2:q<sa+k
    ·rw[if_neg (by lia)] at ev'
     exact xE u1 h1 h2 (by lia) eu' ev'
    ·have low:∀{m:Nat} {x:W7},sa+na<=m->m<sa+na+nb->(Xo st)[m]?=some x->rk u<=rk x:=fun m1 m2 em=>by
      have q1:=g1 (p-sa) u (by lia) (by rw[show sa+(p-sa)=p by lia];exact eu')
      exact VN q1 (xE u2 (XW _) m1 m2 eb0 em)
     by_cases c3:q<sa+na+k'
     ·rw[if_pos ⟨by lia,c3⟩] at ev'
      rcases mid (by lia) c3 ev' with ⟨m,m1,m2,em⟩ | ⟨m,m1,m2,em⟩
      ·exact xE u1 h1 (by lia) m2 eu' em
      ·exact low m1 (by lia) em
     ·rw[if_neg (by lia)] at ev'
      exact low (by lia) h3 ev'
   ·by_cases c4:p<sa+na+k'
    ·rw[if_pos ⟨by lia,c4⟩] at eu'
     by_cases c3:q<sa+na+k'
     ·rw[if_pos ⟨by lia,c3⟩] at ev'
      by_cases epq:p=q
      ·subst epq
       rw[eu'] at ev'
       cases ev'
       exact U5 _
      ·have sp:=hM.2
       rw[Vt] at sp
       obtain⟨a1,a2⟩:=X4.mp eu'
       obtain⟨b1,b2⟩:=X4.mp ev'
       have:=sp _ _ a1 b1 (by lia)
       rw[a2,b2] at this
       exact this
     ·rw[if_neg (by lia)] at ev'
      have q4:=g4 (q-(sa+na)) v (by lia) (by lia) (by rw[show sa+na+(q-(sa+na))=q by lia];exact ev')
      rcases mid (by lia) c4 eu' with ⟨m,m1,m2,em⟩ | ⟨m,m1,m2,em⟩
      ·exact VN (xE u1 (by lia) (by lia) (by lia) em eal') q4
      ·exact xE u2 m1 (by lia) h3 em ev'
    ·rw[if_neg (by lia)] at eu' ev'
     exact xE u2 (by lia) h2 h3 eu' ev'
  ·show N[j]?=_
   rw[at_,if_neg (by lia)]
 refine qC (fun _=>?_) fun _=>?_
 ·refine XC (zki T k1 xm ym xs ys (Tq (show 0<na-k by lia) xz.symm) (Tq (show 0<k' by lia) yz.symm) (fun x y ex my=>V7 (first x y ex my)) last fun out st2 K2 hM=>?_)
  refine XC (Tv (XC (SH ?_)))
  rw[show (Tg st2).isNone=true by rw[K2.bad,ef];rfl]
  exact Xq (tail out st2 K2 hM)
 ·refine XC (zkj T k1 xm ym xs ys (Tq (show 0<na-k by lia) xz.symm) (Tq (show 0<k' by lia) yz.symm) first last fun out st2 K2 hM=>?_)
  refine XC (Tv (XC (SH ?_)))
  rw[show (Tg st2).isNone=true by rw[K2.bad,ef];rfl]
  exact Xq (tail out st2 K2 hM)
end
end GS
namespace GS
def zad:List (Nat×Nat×Nat)->Nat->Nat->Prop
 | [],s,e=>s=e
 | r::l,s,e=>r.1=s/\1<=r.2.1/\zad l (s+r.2.1) e
theorem xw:∀{l1 l2:List (Nat×Nat×Nat)} {s e:Nat},zad (l1++l2) s e ↔ ∃m,zad l1 s m/\zad l2 m e
 | [],l2,s,e=>⟨fun h=>⟨s,rfl,h⟩,fun ⟨m,h1,h2⟩=>by
  have e:s=m:=h1
  subst e
  exact h2⟩
 | r::l1,l2,s,e=>by
  constructor
  ·rintro⟨h1,h2,h3⟩
   obtain⟨m,h4,h5⟩:=xw.mp h3
   exact⟨m,⟨h1,h2,h4⟩,h5⟩
  ·rintro⟨m,⟨h1,h2,h3⟩,h4⟩
   exact⟨h1,h2,xw.mpr ⟨m,h3,h4⟩⟩
theorem Qn:∀{l:List (Nat×Nat×Nat)} {s e:Nat},zad l s e->s<=e/\l.length+s<=e/\∀r∈l,s<=r.1/\r.1+r.2.1<=e
 | [],s,e,h=>by
  have e':s=e:=h
  subst e'
  exact⟨XW _,by simp,fun r hr=>nomatch hr⟩
 | r::l,s,e,⟨h1,h2,h3⟩=>by
  obtain⟨a1,a2,a3⟩:=Qn h3
  refine⟨by lia,by rw[Xw];lia,fun q hq=>?_⟩
  rcases XB.mp hq with rfl | hq
  ·lia
  ·have:=a3 q hq
   lia
section
variable {prog:Xy}{w:W6}{A:WG}{E:X9->X5->Prop}{s:X5}{rk:W7->Int}{κ:T2}{a0:Array W7}
structure PI (rk:W7->Int)(κ:T2)(a0:Array W7)(lo:Nat)(st:WQ):Prop where
 ok:Ok κ a0 st
 til:zad (WO st).toList 0 lo
 up:∀r∈(WO st).toList,Up rk (Xo st) r.1 (r.1+r.2.1)
theorem zcv {xs ys:Array W7}{lo hi:Nat}(u:Up rk xs lo hi)(h:∀j:Nat,lo<=j->j<hi->ys[j]?=xs[j]?):Up rk ys lo hi:=fun i j h1 h2 h3=>by
 rw[J3 (h i h1 (by lia)),J3 (h j (by lia) h3)]
 exact u i j h1 h2 h3
theorem zoV {p:List (Nat×Nat×Nat)}{i:Nat}(h:i+1<p.length):∃l1 r1 r2 l2,p=l1++r1::r2::l2/\l1.length=i/\p[i]?=some r1/\p[i+1]?=some r2:=by
 refine⟨p.take i,p[i],p[i+1],p.drop (i+2),?_,by rw[XQ];lia,X7 (by lia),X7 h⟩
 rw[<- WP h,<- WP (by lia),WR]
theorem zgx {st:WQ}{lo i:Nat}{Q:Bool->WQ->Prop}(T:Tells prog w A s κ rk a0)(P:PI rk κ a0 lo st)(hi:i+1<(WO st).size)(hlo:lo<=a0.size)
  (h:∀st',PI rk κ a0 lo st'->(WO st').size+1=(WO st).size->(∀j:Nat,lo<=j->(Xo st')[j]?=(Xo st)[j]?)->Q true st'):wpS (Xf prog w) A E s (mergeAt' i) Q st:=by
 obtain⟨l1,⟨sa,na,p1⟩,⟨sb,nb,p2⟩,l2,ep,el,e1,e2⟩:=zoV (p:=(WO st).toList) (i:=i) (by rw[X6];exact hi)
 have til:=P.til
 rw[ep] at til
 obtain⟨m,t1,⟨a1,a2,a3,a4,a5⟩⟩:=xw.mp til
 dsimp only at a1 a2 a3 a4 a5
 subst a1
 subst a3
 rw[Xr] at e1 e2
 have u1:=P.up (sa,na,p1) (by rw[ep];simp)
 have u2:=P.up (sa+na,nb,p2) (by rw[ep];simp)
 dsimp only at u1 u2
 obtain⟨b1,b2,b3⟩:=Qn a5
 obtain⟨c1,c2,c3⟩:=Qn t1
 refine zkk T P.ok e1 e2 a2 a4 (by lia) u1 u2 fun st' O' ep' up' out'=>?_
 have el':(WO st').toList=l1++(sa,na+nb,p1)::l2:=by
  rw[ep',Array.toList_eraseIdxIfInBounds,RU,ep,<- el]
  rw[List.set_append_right _ _ (XW _),Tc,List.set_cons_zero,List.eraseIdx_append_of_length_le (by lia),show l1.length+1-l1.length=1 by lia]
  rfl
 refine h st' ⟨O',?_,fun r hr=>?_⟩ ?_ fun j hj=>out' j (by lia)
 ·rw[el']
  exact xw.mpr ⟨sa,t1,rfl,by show 1<=na+nb;lia,by rw[show sa+(na+nb)=sa+na+nb by lia];exact a5⟩
 ·rw[el'] at hr
  rcases XI.mp hr with hr | hr
  ·have:=c3 r hr
   exact zcv (P.up r (by rw[ep];exact W1 _ hr)) fun j h1 h2=>out' j (by lia)
  ·rcases XB.mp hr with rfl | hr
   ·show Up rk (Xo st') sa (sa+(na+nb))
    rw[show sa+(na+nb)=sa+na+nb by lia]
    exact up'
   ·have:=b3 r hr
    exact zcv (P.up r (by rw[ep];simp[hr])) fun j h1 h2=>out' j (by lia)
 ·rw[<- X6,el',<- X6,ep]
  simp only[XZ,Xw]
  lia
theorem PI.step {lo lo':Nat}{st st':WQ}(P:PI rk κ a0 lo st)(S:Step κ a0 lo' st st')(h:lo<=lo'):PI rk κ a0 lo st':=by
 refine⟨S.ok,by rw[S.pend];exact P.til,fun r hr=>?_⟩
 rw[S.pend] at hr
 have:=(Qn P.til).2.2 r hr
 exact zcv (P.up r hr) fun j h1 h2=>S.low j (by lia)
theorem zb3 (pw:Nat):∀{l:List (Nat×Nat×Nat)} {k s e:Nat},zad l s e->zad (l.modify k fun r=>(r.1,r.2.1,pw)) s e
 | [],k,s,e,h=>by
  cases k<;>exact h
 | r::l,0,s,e,⟨h1,h2,h3⟩=>⟨h1,h2,h3⟩
 | r::l,k+1,s,e,⟨h1,h2,h3⟩=>⟨h1,h2,zb3 pw h3⟩
theorem zen {pw:Nat}:∀{l:List (Nat×Nat×Nat)} {k:Nat} {r:Nat×Nat×Nat},r∈l.modify k (fun r=>(r.1,r.2.1,pw))->∃q∈l,q.1=r.1/\q.2.1=r.2.1
 | [],k,r,h=>by
  cases k<;>cases h
 | q::l,0,r,h=>by
  rcases XB.mp h with rfl | h
  ·exact⟨q,XR,rfl,rfl⟩
  ·exact⟨r,XT _ h,rfl,rfl⟩
 | q::l,k+1,r,h=>by
  rcases XB.mp h with rfl | h
  ·exact⟨r,XR,rfl,rfl⟩
  ·obtain⟨q',h1,h2⟩:=zen h
   exact⟨q',XT _ h1,h2⟩
theorem ite_le (c:Prop) [Decidable c](n:Nat):(if c then n-1 else n)<=n:=by
 split<;>lia
theorem zoW {st:WQ}{Q:Unit->WQ->Prop}(T:Tells prog w A s κ rk a0)(O:Ok κ a0 st)(hp:WO st=#[])(h:∀st',Ok κ a0 st'->Up rk (Xo st') 0 a0.size->Q () st'):wpS (Xf prog w) A E s sortRuns' Q st:=by
 rw[sortRuns'_eq]
 refine XC (SH ?_)
 dsimp only
 rw[O.size]
 generalize minRun' a0.size a0.size 0=mr
 refine XC (UB (V8 (I:=fun x c st'=>∃lo,c=(none,lo)/\PI rk κ a0 lo st'/\lo<=a0.size/\x<=lo)
  (Q:=fun c st'=>c=(none,a0.size)/\PI rk κ a0 a0.size st') ?step ?fin ⟨0,rfl,⟨O,by rw[hp];rfl,fun r hr=>by rw[hp] at hr;cases hr⟩,WW _,XW _⟩) ?post)
 case fin =>
  rintro c st' ⟨lo,rfl,P,h1,h2⟩
  obtain rfl:lo=a0.size:=by lia
  exact⟨rfl,P⟩
 case step =>
  rintro x c st1 _ hx ⟨lo,rfl,P,h1,h2⟩
  dsimp only
  refine qC (fun hge=>?_) fun hge=>?_
  ·obtain rfl:lo=a0.size:=by lia
   exact Xq ⟨rfl,P⟩
  refine XC (zp8 T P.ok (by lia) (by lia) fun m st2 S m1 m2 hu=>?_)
  dsimp only
  have P2:=P.step S (XW _)
  refine qC (fun hmr=>?_) fun hmr=>?_
  refine XC (RA (Ur ⟨rfl,?_⟩))
  refine XC (zp9 T S.ok (by lia) (by lia) hu fun st3 S3 hu3=>?_)
  rw[if_neg (by decide)]
  have P3:=P2.step S3 (XW _)
  have n1:1<=min (a0.size-lo) mr:=by lia
  have n2:lo+min (a0.size-lo) mr<=a0.size:=by lia
  clear P2 S3
  generalize min (a0.size-lo) mr=n at hu3 n1 n2 ⊢
  rotate_left
  have P3:=P2
  have hu3:=hu
  have n1:=m1
  have n2:lo+m<=a0.size:=by lia
  clear P2
  generalize m=n at hu3 n1 n2 ⊢
  generalize st2=st3 at P3 hu3 ⊢
  rotate_left
  all_goals
   refine XC (SH ?_)
   have fin:∀st4,PI rk κ a0 lo st4->Up rk (Xo st4) lo (lo+n)->PI rk κ a0 (lo+n) (setPending st4 ((WO st4).push (lo,n,0))):=fun st4 P4 u4=>by
    refine⟨⟨P4.ok.perm,P4.ok.kind,P4.ok.good⟩,?_,fun r hr=>?_⟩
    ·show zad ((WO st4).push (lo,n,0)).toList 0 (lo+n)
     rw[SY]
     exact xw.mpr ⟨lo,P4.til,rfl,n1,rfl⟩
    ·have hr':r∈((WO st4).push (lo,n,0)).toList:=hr
     rw[SY] at hr'
     rcases XI.mp hr' with hr' | hr'
     ·exact P4.up r hr'
     ·have er:r=(lo,n,0):=by simpa using hr'
      subst er
      exact u4
   cases hbk:(WO st3).back? with
   | none =>
    dsimp only
    exact XC (Tv (Xq ⟨lo+n,rfl,fin st3 P3 hu3,n2,by lia⟩))
   | some r =>
    obtain⟨s1,k1,q1⟩:=r
    dsimp only
    generalize power' a0.size (2*s1+k1) (2*s1+k1+k1+n) a0.size=pw
    refine XC (UB (V8 (I:=fun _ c st4=>c=(none,())/\PI rk κ a0 lo st4/\Up rk (Xo st4) lo (lo+n)) (Q:=fun c st4=>c=(none,())/\PI rk κ a0 lo st4/\Up rk (Xo st4) lo (lo+n)) ?_ (fun _ _ hh=>hh) ⟨rfl,P3,hu3⟩) ?_)
    ·rintro y c st4 _ _ ⟨rfl,P4,u4⟩
     refine XC (SH ?_)
     by_cases hz:(WO st4).size>1
     ·rw[if_pos hz,getElem?_pos (WO st4) ((WO st4).size-2) (by lia)]
      generalize (WO st4)[(WO st4).size-2]'(by lia)=r2
      obtain⟨r2a,r2b,r2c⟩:=r2
      dsimp only
      refine qC (fun _=>Xq ⟨rfl,P4,u4⟩) fun _=>?_
      refine XC (zgx T P4 (by lia) h1 fun st5 P5 _ zqZ=>?_)
      rw[if_neg (by decide)]
      exact Xq ⟨rfl,P5,zcv u4 fun j j1 _=>zqZ j j1⟩
     ·rw[if_neg hz]
      exact Xq ⟨rfl,P4,u4⟩
    ·rintro c st4 ⟨rfl,P4,u4⟩
     dsimp only
     refine XC (Tv (XC (Tv (Xq ⟨lo+n,rfl,fin _ ⟨⟨P4.ok.perm,P4.ok.kind,P4.ok.good⟩,?_,fun r hr=>?_⟩ u4,n2,by lia⟩))))
     ·show zad ((WO st4).modify ((WO st4).size-1) fun r=>(r.1,r.2.1,pw)).toList 0 lo
      rw[Pb]
      exact zb3 pw P4.til
     ·have hr':r∈((WO st4).modify ((WO st4).size-1) fun r=>(r.1,r.2.1,pw)).toList:=hr
      rw[Pb] at hr'
      obtain⟨q,hq,e1,e2⟩:=zen hr'
      have:=P4.up q hq
      rw[e1,e2] at this
      exact this
 case post =>
  rintro c st1 ⟨rfl,P⟩
  dsimp only
  have len0:=(Qn P.til).2.1
  rw[X6] at len0
  refine XC (UB (V8 (I:=fun x c st2=>c=(none,())/\PI rk κ a0 a0.size st2/\((WO st2).size+x<=a0.size\/(WO st2).size<=1)) (Q:=fun c st2=>c=(none,())/\PI rk κ a0 a0.size st2/\(WO st2).size<=1) ?step2 ?fin2 ⟨rfl,P,.inl (by lia)⟩) ?post2)
  case fin2 =>
   rintro c st2 ⟨rfl,P2,hz⟩
   exact⟨rfl,P2,by lia⟩
  case step2 =>
   rintro x c st2 _ hx ⟨rfl,P2,hz⟩
   refine XC (SH ?_)
   refine qC (fun h1=>Xq ⟨rfl,P2,h1⟩) fun h1=>?_
   refine XC (zgx T P2 ?_ (XW _) fun st3 P3 z3 _=>?_)
   ·exact XH (Sv (ite_le _ _) 1) (show (WO st2).size-2+1<(WO st2).size by lia)
   ·rw[if_neg (by decide)]
    exact Xq ⟨rfl,P3,by lia⟩
  case post2 =>
   rintro c st2 ⟨rfl,P2,hz⟩
   dsimp only
   refine Xq (h st2 P2.ok ?_)
   have til:=P2.til
   have up:=P2.up
   have zl:(WO st2).toList.length<=1:=by rw[X6];exact hz
   cases hl:(WO st2).toList with
   | nil =>
    rw[hl] at til
    have e:0=a0.size:=til
    exact fun i j _ _ h3=>absurd h3 (by lia)
   | cons r l =>
    rw[hl] at til zl up
    obtain rfl:l=[]:=Ve.mp (by rw[Xw] at zl;lia)
    obtain⟨t1,t2,t3⟩:=til
    have t3':0+r.2.1=a0.size:=t3
    have u:=up r XR
    rw[t1,t3'] at u
    exact u
end
end GS
namespace GS
structure Wk {K:Type}(lt:K->K->Bool):Prop where
 tot:∀x y,lt x y=true->lt y x=false
 tr:∀x y z,lt y x=false->lt z y=false->lt z x=false
def rkK {K:Type}(lt:K->K->Bool)(ks:List K)(k:K):Int:=((ks.countP fun q=>lt q k:Nat):Int)
theorem count_le {K:Type}{p q:K->Bool}:∀{ks:List K},(∀x∈ks,p x=true->q x=true)->ks.countP p<=ks.countP q
 | [],_=>XW _
 | x::ks,h=>by
  have ih:=count_le (ks:=ks) fun y hy=>h y (XT _ hy)
  rw[WH,WH]
  have hx:=h x XR
  by_cases c:p x=true
  ·rw[if_pos c,if_pos (hx c)]
   lia
  ·rw[if_neg c]
   lia
theorem zlJ {K:Type}{p q:K->Bool}{ks:List K}(h:∀x∈ks,p x=true->q x=true)(hq:∃x∈ks,p x=false/\q x=true):ks.countP p<ks.countP q:=by
 obtain⟨y,hy,h1,h2⟩:=hq
 induction ks with
 | nil=>cases hy
 | cons x ks ih =>
  rw[WH,WH]
  have hx:=h x XR
  rcases XB.mp hy with rfl | hy
  ·have ih:=count_le (ks:=ks) fun y hy=>h y (XT _ hy)
   rw[h1,h2,if_neg XV,if_pos rfl]
   lia
  ·have ih:=ih (fun y hy=>h y (XT _ hy)) hy
   by_cases c:p x=true
   ·rw[if_pos c,if_pos (hx c)]
    lia
   ·rw[if_neg c]
    lia
theorem Wk.rank {K:Type}{lt:K->K->Bool}(W:Wk lt){ks:List K}{x y:K}(hx:x∈ks):lt x y=decide (rkK lt ks x<rkK lt ks y):=by
 unfold rkK
 cases h:lt x y with
 | true =>
  refine(decide_eq_true ?_).symm
  have:=zlJ (ks:=ks) (p:=fun q=>lt q x) (q:=fun q=>lt q y) (fun q _ hq=>?_) ⟨x,hx,?_,h⟩
  ·lia
  ·cases hc:lt q y with
   | true=>rfl
   | false =>
    have:=W.tr x y q (W.tot x y h) hc
    have hq':lt q x=true:=hq
    rw[this] at hq'
    cases hq'
  ·cases hc:lt x x with
   | false=>rfl
   | true=>exact hc.symm.trans (W.tot x x hc)
 | false =>
  refine(decide_eq_false ?_).symm
  have:=count_le (ks:=ks) (p:=fun q=>lt q y) (q:=fun q=>lt q x) fun q _ hq=>by
   cases hc:lt q x with
   | true=>rfl
   | false =>
    have:=W.tr y x q h hc
    have hq':lt q y=true:=hq
    rw[this] at hq'
    cases hq'
  lia
section
variable {prog:Xy}{w:W6}{A:WG}{E:X9->X5->Prop}{s:X5}
theorem zeo {a:Addr}{vs:List X9}{n:Nat}{P:PySem.Fin->X5->Prop}(ho:s.heap.get? a=some (Uu "list" vs.toArray n))(hz:vs.length<=XU)(r:X9->Int)
  (hk:2<=vs.length->∀s':X5,(∀b o,b≠a->s.heap.get? b=some o->s'.heap.get? b=some o)->Xa (Xf prog w) A (keyKind' vs.toArray) (fun κ s2=>s2=s'/\Tells prog w A s' κ (fun p=>r p.1) (Pg vs)) (fun _ _=>False) s')
  (h:∀(ws:List X9) (h':Heap) (c:Nat),ws.Perm vs->ws.Pairwise (fun x y=>r x<=r y)->(∀b o,b≠a->s.heap.get? b=some o->h'.get? b=some o)->h'.get? a=some (Uu "list" ws.toArray c)->P (.done (.ret .none)) { s with heap:=h' }) :
  Xa (Xf prog w) A (UG.«list.sort» ⟨[.ref a],[]⟩) P E s:=by
 have lta:a<s.heap.objs.size:=XF ho
 have hu1:=get?_update_seq ho fun _=>(#[]:Array X9)
 generalize hX:s.heap.update a (Vc fun _=>(#[]:Array X9))=X1 at hu1
 have zX:X1.objs.size=s.heap.objs.size:=by rw[<- hX,Heap.size_update]
 have kX:∀b o,b≠a->s.heap.get? b=some o->X1.get? b=some o:=fun b o hb e=>by
  rw[<- hX,Sk _ _ _ _ hb]
  exact e
 obtain⟨e1,hu⟩:∃e1,X1.get? a=some (Uu "list" #[] e1):=⟨_,hu1⟩
 generalize hY:(X1.push (Uu "tuple" vs.toArray 0)).push (Uu "list" #[] 0)=Y
 have hYa:Y.get? a=some (Uu "list" #[] e1):=by
  rw[<- hY]
  exact XY _ (XY _ hu)
 have kY:∀b o,b≠a->s.heap.get? b=some o->Y.get? b=some o:=fun b o hb e=>by
  rw[<- hY]
  exact XY _ (XY _ (kX b o hb e))
 have last:∀(st:WQ),(((Xo st).map (·.2)).toList.Perm vs)->(((Xo st).map (·.2)).toList.Pairwise fun x y=>r x<=r y)->Tg st=none ->
   Xa (Xf prog w) A (do
    let touched:=(<- seqEpoch a) != e1
    Builtin.List.listUpdate (.ref a) fun _=>(Xo st).map (·.2)
    if let some e:=Tg st then rule "list.sort.comparison-raised";throw e
    if touched then rule "list.sort.modified";raiseError "ValueError" "list modified during sort"
    ret .none) P E { s with heap:=Y }:=by
  intro st hp hs hf
  generalize ew:(Xo st).map (·.2)=wsA at hp hs
  rw[hf]
  have hlen:wsA.size=vs.length:=by rw[<- X6,hp.length_eq]
  have hu2:=get?_update_seq hYa fun _=>wsA
  refine Y1 (seqEpoch_at hYa rfl (Y1 (listUpdate_at hYa rfl ?_ (WW _) (by rw[hlen];lia))))
  simp only[bne_self_eq_false,Wx,if_false]
  refine XS (h wsA.toList _ _ hp hs (fun b o hb e=>?_) hu2)
  rw[Sk _ _ _ _ hb]
  exact kY b o hb e
 rw[list_sort_plain]
 refine Y1 (listItems_at ho rfl (Y1 (listUpdate_at ho rfl ?_ (by rw[Xp];exact hz) (WW _))))
 rw[hX]
 refine Y1 (seqEpoch_at hu rfl (Y1 (wpAny_newTuple (Y1 (O4 ?_ (WW _))) hz)))
 show Xa (Xf prog w) A _ P E { s with heap:=(X1.push (Uu "tuple" vs.toArray 0)).push (Uu "list" #[] 0) }
 rw[hY]
 refine V5 ?_
 dsimp only
 have e2:((Pg vs).map (·.2)).toList=vs:=by
  rw[U2,Uz]
  exact List.map_snd_zip (XW _)
 by_cases c2:vs.toArray.size<2
 ·have c2':vs.length<2:=by rw[Xp] at c2;exact c2
  rw[if_pos c2,if_pos c2]
  refine Y1 (XS ?_)
  rw[StateT.run_pure]
  refine Y1 (XS ?_)
  refine last (SortSt.mk' general' (Pg vs) #[] 7 none) (by show ((Pg vs).map (·.2)).toList.Perm vs;rw[e2]) (by
   show ((Pg vs).map (·.2)).toList.Pairwise _
   rw[e2,Vt]
   intro i j hi hj hij
   lia) rfl
 ·have c2':2<=vs.length:=by rw[Xp] at c2;lia
  rw[if_neg c2,if_neg c2]
  refine Y1 (Wr (hk c2' { s with heap:=Y } kY) (fun κ s2 ⟨e3,T⟩=>?_) fun _ _ x=>x.elim)
  subst e3
  have run:=zoW (E:=E) (st:=SortSt.mk' κ (Pg vs) #[] 7 none) (Q:=fun _ st'=>(((Xo st').map (·.2)).toList.Perm vs)/\(((Xo st').map (·.2)).toList.Pairwise fun x y=>r x<=r y)/\Tg st'=none) T ⟨Array.Perm.refl _,rfl,rfl⟩ rfl fun st' O hu=>?_
  ·unfold wpS at run
   refine Y1 (Wr run ?_ fun _ _ z=>z)
   rintro⟨⟨⟩,st'⟩ s' ⟨rfl,hp,hs,hf⟩
   exact last st' hp hs hf
  ·have pm:=U0.mp O.perm
   have same:∀p∈(Xo st').toList,p.1=p.2:=fun p hp=>by
    have:=pm.mem_iff.mp hp
    rw[Uz] at this
    exact(Sh this).1
   refine⟨?_,?_,O.good⟩
   ·have:=pm.map (·.2)
    rw[U2]
    rw[Uz,List.map_snd_zip (XW _)] at this
    exact this
   ·rw[U2,V1,Vt]
    intro i j hi hj hij
    have zs:=O.size
    rw[X6] at hi hj
    have u:=xE hu (i:=i) (j:=j) (WW _) (by lia) (by lia) (getElem?_pos _ i hi) (getElem?_pos _ j hj)
    have s1:=same (Xo st')[i] (by simp)
    have s2:=same (Xo st')[j] (by simp)
    rw[UP,UP,<- s1,<- s2]
    exact u
theorem zkl {l:Addr}{vs:List X9}{Q:X9->X5->Prop}(hl:s.heap.IsList l vs.toArray)(hz:vs.length<=XU)(r:X9->Int)
  (hk:2<=vs.length->∀s':X5,(∀b o,s.heap.get? b=some o->s'.heap.get? b=some o)->Xa (Xf prog w) A.in1.in1 (keyKind' vs.toArray) (fun κ s2=>s2=s'/\Tells prog w A.in1.in1 s' κ (fun p=>r p.1) (Pg vs)) (fun _ _=>False) s')
  (h:∀(ws:List X9) (h':Heap) (c:Nat),ws.Perm vs->ws.Pairwise (fun x y=>r x<=r y)->(∀b o,s.heap.get? b=some o->h'.get? b=some o)->h'.get? (s.heap.objs.size+1)=some (Uu "list" ws.toArray c)->Q (.ref (s.heap.objs.size+1)) { s with heap:=h' }) :
  Xa (Xf prog w) A (call (.builtin "sorted") [.ref l]) Q E s:=by
 generalize hX:(s.heap.push (Uu "list" #[] 0)).update s.heap.objs.size (Vc (·++vs.toArray))=X1
 have zX:X1.objs.size=s.heap.objs.size+1:=by rw[<- hX,Heap.size_update,Vj]
 have kX:∀b o,s.heap.get? b=some o->X1.get? b=some o:=fun b o e=>by
  have lt:=XF e
  rw[<- hX,Sk _ _ _ _ (Xk lt)]
  exact XY _ e
 apply RR kind_sorted plain_sorted entry_sorted (args_sorted1 _)
 unfold UG.«sorted»
 refine Y1 (m:=checkCount "sorted" 1 1 _) (XS (Y1 (collect_list hl ?_ hz)))
 rw[hX]
 refine Y1 (O4 ?_ hz)
 show Xa _ _ _ _ _ { s with heap:=X1.push (Uu "list" vs.toArray 0) }
 have hoL:(X1.push (Uu "list" vs.toArray 0)).get? (s.heap.objs.size+1)=some (Uu "list" vs.toArray 0):=by
  rw[<- zX]
  exact W5 _ rfl
 have kL:∀b o,s.heap.get? b=some o->(X1.push (Uu "list" vs.toArray 0)).get? b=some o:=fun b o e=>XY _ (kX b o e)
 have ne:∀b o,s.heap.get? b=some o->b≠s.heap.objs.size+1:=fun b o e=>Xk (WJ (XF e))
 rw[zX]
 refine Y1 (V5 (Uv slot_list_sort ⟨_,hoL,rfl⟩ entry_list_sort (zeo (s:={ s with heap:=X1.push (Uu "list" vs.toArray 0) }) hoL hz r (fun c s' k=>hk c s' fun b o e=>k b o (ne b o e) (kL b o e)) ?_) (args_list_sort _)))
 intro ws h' c hp hs kk ha
 exact⟨_,rfl,XS ⟨_,rfl,h ws h' c hp hs (fun b o e=>kk b o (ne b o e) (kL b o e)) ha⟩⟩
end
theorem zcX {α β:Type}{R:α->β->Prop}{xs:List α}{ys:List β}(hp:W0 R xs ys):(∀p∈xs.zip ys,R p.1 p.2)/\(xs.zip ys).map (·.1)=xs/\(xs.zip ys).map (·.2)=ys:=by
 induction hp with
 | nil=>exact⟨(fun p h=>nomatch h),rfl,rfl⟩
 | cons h _ ih =>
  obtain⟨a,b,c⟩:=ih
  refine⟨fun p hp=>?_,by rw[List.zip_cons_cons,Xb,b],by rw[List.zip_cons_cons,Xb,c]⟩
  rcases XB.mp hp with rfl | hp
  ·exact h
  ·exact a p hp
theorem zep {α β:Type}{R:α->β->Prop}:∀{zs:List (α × β)},(∀p∈zs,R p.1 p.2)->W0 R (zs.map (·.1)) (zs.map (·.2))
 | [],_=>.nil
 | p::zs,h=>.cons (h p XR) (zep fun q hq=>h q (XT _ hq))
end GS
namespace GS
theorem J4 {α β:Type}{R:α->β->Prop}:∀{xs:List α} {ys:List β},W0 R xs ys->∀x∈xs,∃y∈ys,R x y
 | _,_,.nil,x,h=>nomatch h
 | _,_,.cons h t,x,hx=>by
  rcases XB.mp hx with rfl | hx
  ·exact⟨_,XR,h⟩
  ·obtain⟨y,h1,h2⟩:=J4 t x hx
   exact⟨y,XT _ h1,h2⟩
def Tri {K:Type}(RV:V->K->Prop)(RH:X9->K->Prop)(t:V×X9×K):Prop:=RelV t.1 t.2.1/\RV t.1 t.2.2/\RH t.2.1 t.2.2
theorem zoX {K:Type}{RV:V->K->Prop}{RH:X9->K->Prop}{us:List V}{its:List X9}{ks:List K}(h1:Vals us its):W0 RV us ks->W0 RH its ks->∃T:List (V×X9×K),(∀t∈T,Tri RV RH t)/\T.map (·.1)=us/\T.map (·.2.1)=its/\T.map (·.2.2)=ks:=by
 induction h1 generalizing ks with
 | nil =>
  intro h2 h3
  cases h2
  exact⟨[],(fun t h=>nomatch h),rfl,rfl,rfl⟩
 | @cons u i us its r1 t1 ih =>
  intro h2 h3
  cases h2 with
  | @cons _ k _ ks r2 t2 =>
   cases h3 with
   | cons r3 t3 =>
    obtain⟨T,h1,h2,h3,h4⟩:=ih t2 t3
    refine⟨(u,i,k)::T,fun t ht=>?_,by rw[Xb,h2],by rw[Xb,h3],by rw[Xb,h4]⟩
    rcases XB.mp ht with rfl | ht
    ·exact⟨r1,r2,r3⟩
    ·exact h1 t ht
theorem zgy {K:Type}{RV:V->K->Prop}{RH:X9->K->Prop}:∀{T:List (V×X9×K)},(∀t∈T,Tri RV RH t)->Vals (T.map (·.1)) (T.map (·.2.1))/\W0 RV (T.map (·.1)) (T.map (·.2.2))
 | [],_=>⟨.nil,.nil⟩
 | t::T,h=>by
  obtain⟨h1,h2⟩:=zgy fun x hx=>h x (XT _ hx)
  obtain⟨a,b,c⟩:=h t XR
  exact⟨.cons a h1,.cons b h2⟩
section
variable {X:Cx}{pins:List (Addr×Obj)}{σ:St}{H:Hp}{s:X5}{K:Type}
theorem zkm {lt:K->K->Bool}(W:Wk lt){RV:V->K->Prop}{RH:Heap->X9->K->Prop}(fn:∀h v k k',RH h v k->RH h v k'->k=k')(kp:∀h h' v k,(∀b o,h.get? b=some o->h'.get? b=some o)->RH h v k->RH h' v k)
  {l:Addr} {us:List V} {its:List X9} {ks:List K} {Q:VK} (I:Inv X pins σ H s) (hl:s.heap.IsList l its.toArray) (hz:us.length<=1000000) (rv:Vals us its) (hv:W0 RV us ks) (hp:W0 (RH s.heap) its ks)
  (kind:∀s':X5,W0 (RH s'.heap) its ks->2<=its.length->Xa (Xf X.prog X.w) X.A.in1.in1 (keyKind' its.toArray) (fun κ s2=>s2=s'/\∀v v' k k',RH s'.heap v k->RH s'.heap v' k'->∀C:Bool->X5->Prop,C (lt k k') s'->Xa (Xf X.prog X.w) X.A.in1.in1 (keyLt' κ v v') C (fun _ _=>False) s') (fun _ _=>False) s')
  (q:∀d us' ks',H d=none->W0 RV us' ks'->ks'.Perm ks->ks'.Pairwise (fun x y=>lt y x=false)->(us'.Perm us)->Q (.ref d) (upd H d (.lst us'))) :
  Xa (Xf X.prog X.w) X.A (call (.builtin "sorted") [.ref l]) (EP X pins σ Q) X.xe s:=by
 classical
 have hil:=rv.length
 obtain⟨T,hT,e1,e2,e3⟩:=zoX rv hv hp
 let r:X9->Int:=fun v=>if h:∃k,RH s.heap v k then rkK lt ks h.choose else 0
 have rk_:∀{v:X9} {k:K},RH s.heap v k->r v=rkK lt ks k:=fun {v k} h=>by
  have hx:∃k,RH s.heap v k:=⟨k,h⟩
  show (if h:∃k,RH s.heap v k then rkK lt ks h.choose else 0)=_
  rw[dif_pos hx,fn _ _ _ _ hx.choose_spec h]
 have z1:its.length<=XU:=by
  rw[<- hil,Tn]
  lia
 refine zkl (vs:=its) hl z1 r (fun h2 s' kk=>?_) fun ws h' c hpm hs kk ha=>?_
 ·have hp':W0 (RH s'.heap) its ks:=by
   obtain⟨a,b,c⟩:=zcX hp
   have:=zep (R:=RH s'.heap) (zs:=its.zip ks) fun p hp=>kp _ _ _ _ kk (a p hp)
   rw[b,c] at this
   exact this
  refine Wr (kind s' hp' h2) (fun κ s2 ⟨e,hc⟩=>⟨e,fun x hx y hy C hC=>?_⟩) fun _ _ z=>z
  have mx:x.1∈its:=by
   rw[Uz] at hx
   exact(Sh hx).2
  have my:y.1∈its:=by
   rw[Uz] at hy
   exact(Sh hy).2
  obtain⟨k,k1,k2⟩:=J4 hp x.1 mx
  obtain⟨k',k1',k2'⟩:=J4 hp y.1 my
  refine hc x.1 y.1 k k' (kp _ _ _ _ kk k2) (kp _ _ _ _ kk k2') C ?_
  have hC':C (decide (r x.1<r y.1)) s':=hC
  rw[rk_ k2,rk_ k2',<- W.rank k1] at hC'
  exact hC'
 ·obtain⟨T',hT',eT⟩:=ST.zcU (fun t:V×X9×K=>t.2.1) hpm T e2.symm
  have hTr:∀t∈T',Tri RV (RH s.heap) t:=fun t ht=>hT t (hT'.mem_iff.mp ht)
  obtain⟨rv',hv'⟩:=zgy hTr
  rw[<- eT] at rv'
  have hD:H (s.heap.objs.size+1)=none:=I.hok.fresh (V3 _)
  refine⟨.ref (s.heap.objs.size+1),upd H (s.heap.objs.size+1) (.lst (T'.map (·.1))),I.laid (t':=s.toks) kk (V3 _) ⟨?_,ws,c,rv',ha⟩,rfl,q _ _ _ hD hv' (by rw[<- e3];exact hT'.map _) ?_ (by rw[<- e1];exact hT'.map _)⟩
  ·rw[rv'.length,hpm.length_eq]
   exact z1
  ·rw[eT,V1] at hs
   rw[V1]
   refine hs.imp_of_mem fun {x y} hx hy h=>?_
   obtain⟨_,_,h1⟩:=hTr x hx
   obtain⟨_,_,h2⟩:=hTr y hy
   rw[rk_ h1,rk_ h2] at h
   have my:y.2.2∈ks:=by
    rw[<- e3]
    exact Xj.mpr ⟨y,hT'.mem_iff.mp hy,rfl⟩
   rw[W.rank my]
   exact decide_eq_false (by lia)
end
theorem zoY:Wk lt2:=by
 refine⟨fun x y h=>?_,fun x y z h1 h2=>?_⟩
 ·cases e:lt2 y x with
  | false=>rfl
  | true =>
   have:=zhO h e
   rw[zjc] at this
   cases this
 ·cases e:lt2 z x with
  | false=>rfl
  | true =>
   by_cases exy:x=y
   ·subst exy
    rw[e] at h2
    exact h2
   ·have h3:lt2 x y=true:=by
     have:=zcr (p:=x) (q:=y) exy
     rw[h1] at this
     cases hh:lt2 x y with
     | true=>rfl
     | false =>
      rw[hh] at this
      cases this
    have:=zhO e h3
    rw[this] at h2
    exact h2
theorem zjp {h:Heap}{v:X9}{p q:Int×Int}(h1:zM h v p)(h2:zM h v q):p=q:=by
 obtain⟨a,o,n,t,u,e,e1,c1,d1⟩:=h1
 obtain⟨a',o',n',t',u',e',e1',c1',d1'⟩:=h2
 subst e
 cases e'
 rw[e1] at e1'
 cases e1'
 rw[d1] at d1'
 obtain⟨p1,p2⟩:=p
 obtain⟨q1,q2⟩:=q
 injection d1' with d1' _
 have e2:[Vy p1 t,Vy p2 u]=[Vy q1 t',Vy q2 u']:=congrArg Array.toList d1'
 injection e2 with e3 e4
 injection e4 with e4 _
 injection e3 with e3 _
 injection e4 with e4 _
 rw[e3,e4]
section
variable {X:Cx}
end
end GS
end L2
namespace PySem.SeqAt
open L2 AutoSeq1 MeetsSeq MeetsSeq2 MeetsSeq3
end PySem.SeqAt
namespace L2
open PySem PySem.Spec PyProof.Rows PySem.W PySem.SeqAt
section
variable {X:Cx}
end
end L2
namespace PySem.SeqAt
open L2 AutoSeq1 MeetsSeq MeetsSeq2 MeetsSeq3
noncomputable def ltL:List (Int×Int)->List (Int×Int)->Bool
 | _,[]=>false
 | [],_::_=>true
 | p::r,q::t=>if p=q then ltL r t else lt2 p q
theorem zfk (ps:List (Int×Int)):ltL ps []=false:=by cases ps<;>rfl
theorem zjq:∀ps:List (Int×Int),ltL ps ps=false
 | []=>rfl
 | p::r=>by
  unfold ltL
  rw[if_pos rfl]
  exact zjq r
theorem zjr:∀{ps qs:List (Int×Int)},ps≠qs->ltL qs ps=!ltL ps qs
 | [],[],h=>absurd rfl h
 | [],q::t,_=>rfl
 | p::r,[],_=>rfl
 | p::r,q::t,h=>by
  unfold ltL
  by_cases e:p=q
  ·subst e
   rw[if_pos rfl,if_pos rfl]
   exact zjr fun z=>h (by rw[z])
  ·rw[if_neg e,if_neg (T7 e)]
   exact zcr e
theorem zhX:∀{ps qs ss:List (Int×Int)},ltL ps qs=true->ltL qs ss=true->ltL ps ss=true
 | ps,[],_,h,_=>by
  rw[zfk] at h
  cases h
 | _,_::_,[],_,h=>by
  rw[zfk] at h
  cases h
 | [],_::_,_::_,_,_=>rfl
 | p::r,q::t,x::y,h1,h2=>by
  unfold ltL at *
  by_cases e1:p=q
  ·subst e1
   rw[if_pos rfl] at h1
   by_cases e2:p=x
   ·rw[if_pos e2] at h2 ⊢
    exact zhX h1 h2
   ·rw[if_neg e2] at h2 ⊢
    exact h2
  ·rw[if_neg e1] at h1
   by_cases e2:q=x
   ·subst e2
    rw[if_neg e1]
    exact h1
   ·rw[if_neg e2] at h2
    have h3:=zhO h1 h2
    rw[if_neg]
    ·exact h3
    ·intro e
     subst e
     rw[zjc] at h3
     cases h3
theorem zhY {A:WG}{s:X5}{v v':X9}{p q:Int×Int}(h1:zM s.heap v p)(h2:zM s.heap v' q)(hu:A.units+10<U6):EqAt A s v v' (decide (p=q)):=by
 obtain⟨as,ra⟩:=zab h1
 obtain⟨bs,rb⟩:=zab h2
 have:=eqAt_reads _ _ A s _ _ as bs ra rb rfl rfl (by show A.units+min 1 1<U6;lia)
 rw[zee] at this
 exact this
theorem ZZ {h:Heap}{xs:Array X9}{ps:List (Int×Int)}(hp:W0 (zM h) xs.toList ps){i:Nat}(hi:i<xs.size):∃p r,ps.drop i=p::r/\ps.drop (i+1)=r/\zM h xs[i] p:=by
 have hl:xs.toList.length=ps.length:=Paired.length hp
 rw[X6] at hl
 have h2:i<ps.length:=by lia
 obtain⟨a,b,c⟩:=GS.zcX hp
 refine⟨ps[i],ps.drop (i+1),WP h2,rfl,?_⟩
 have hz:i<(xs.toList.zip ps).length:=by
  rw[List.length_zip,X6]
  lia
 have:=a _ (U3 hz)
 rw[List.getElem_zip] at this
 simpa using this
theorem zkn (l b:Addr)(items items2:Array X9)(n n2:Nat)(dd dd2:Option Addr)(sl sl2:Array (Option X9))(ps qs:List (Int×Int))(k:Nat) :
  ∀i:Nat,items.size-i=k->i<=items.size->i<=items2.size->Meets (UG.«list.__eq__.loop» ⟨[.ref l,.ref b,Ua i,Ua 0],[]⟩)
   (fun A R s=>s.heap.get? l=some { cls:=.type "list",dict:=dd,data:=.seq items n,slots:=sl }/\s.heap.get? b=some { cls:=.type "list",dict:=dd2,data:=.seq items2 n2,slots:=sl2 } /\
    W0 (zM s.heap) items.toList ps/\W0 (zM s.heap) items2.toList qs/\A.units+20<U6 /\
    R (.ok (.ret (.bool (ltL (ps.drop i) (qs.drop i))))) s):=by
 induction k with
 | zero =>
  intro i hk h1 h2 prog w A R s h
  obtain⟨hp,g,d,tk,os⟩:=s;obtain⟨hl,hb,hp1,hp2,hu,h⟩:=h
  have l1:items.toList.length=ps.length:=Paired.length hp1
  have l2:items2.toList.length=qs.length:=Paired.length hp2
  rw[X6] at l1 l2
  wp_walk using Wh hl,Wh hb
  have hi1:items[((i:Nat):Int).toNat]?=none:=by simp;lia
  rw[hi1]
  have hd:ps.drop i=[]:=by simp;lia
  have e:ltL (ps.drop i) (qs.drop i)=decide (items.size<items2.size):=by
   rw[hd]
   by_cases hq:i<qs.length
   ·rw[WP hq]
    exact(decide_eq_true (by lia)).symm
   ·rw[List.drop_of_length_le (by lia)]
    exact(decide_eq_false (by lia)).symm
  rw[e] at h
  wp_walk using Wh hl,Wh hb
  exact h
 | succ k ih =>
  intro i hk h1 h2 prog w A R s h
  obtain⟨hp,g,d,tk,os⟩:=s;obtain⟨hl,hb,hp1,hp2,hu,h⟩:=h
  have l1:items.toList.length=ps.length:=Paired.length hp1
  have l2:items2.toList.length=qs.length:=Paired.length hp2
  rw[X6] at l1 l2
  wp_walk using Wh hl,Wh hb
  have hlt:i<items.size:=by lia
  have hi1:items[((i:Nat):Int).toNat]?=some items[i]:=by simp[hlt]
  by_cases hlt2:i<items2.size
  ·have hi2:items2[((i:Nat):Int).toNat]?=some items2[i]:=by simp[hlt2]
   have hc:((i:Int)+1)=((i+1:Nat):Int):=by push_cast;rfl
   obtain⟨p,r,ep,er,rp⟩:=ZZ hp1 hlt
   obtain⟨q,t,eq,et,rq⟩:=ZZ hp2 hlt2
   rw[hi1,hi2]
   refine Y1 (zhY rp rq (by show A.units+1+10<U6;lia) prog w _ _ ?_)
   rw[ep,eq] at h
   unfold ltL at h
   by_cases e:p=q
   ·rw[if_pos e] at h
    rw[decide_eq_true e]
    wp_walk
    rw[hc]
    exact⟨UL plain_eq_loop _,VL entry_eq_loop (by
     rw[Wa plain_eq_loop _]
     exact ih (i+1) (by lia) (by lia) (by lia) prog w A R _ ⟨hl,hb,hp1,hp2,hu,by rw[er,et];exact h⟩)⟩
   ·rw[if_neg e] at h
    rw[decide_eq_false e]
    simp only[Wx,if_false]
    refine Y1 (RQ hl rfl (Y1 (RQ hb rfl ?_)))
    rw[hi1,hi2]
    exact Y1 (zao.pairs rp rq (by show A.units+1<U6;lia) prog w _ _ (XS h))
  ·have hi2:items2[((i:Nat):Int).toNat]?=none:=by simp;lia
   rw[hi1,hi2]
   have hd:qs.drop i=[]:=by simp;lia
   rw[hd,zfk,show false=decide (items.size<items2.size) from (decide_eq_false (by lia)).symm] at h
   wp_walk using Wh hl,Wh hb
   exact h
theorem zhZ (l b:Addr)(items items2:Array X9)(n n2:Nat)(dd dd2:Option Addr)(sl sl2:Array (Option X9))(ps qs:List (Int×Int)) :
  Meets (UG.«list.__lt__» ⟨[.ref l,.ref b],[]⟩)
   (fun A R s=>s.heap.get? l=some { cls:=.type "list",dict:=dd,data:=.seq items n,slots:=sl }/\s.heap.get? b=some { cls:=.type "list",dict:=dd2,data:=.seq items2 n2,slots:=sl2 } /\
    W0 (zM s.heap) items.toList ps/\W0 (zM s.heap) items2.toList qs/\A.units+20<U6/\R (.ok (.ret (.bool (ltL ps qs)))) s):=by
 intro prog w A R s h
 obtain⟨hp1,g1,d1,tk1,os1⟩:=s
 obtain⟨hL,hB,hp,hq,hu,h⟩:=h
 have fL:=sub_list_list
 wp_walk using Wh hL,Wh hB
 exact⟨UL plain_eq_loop _,VL entry_eq_loop (by
  rw[Wa plain_eq_loop _]
  exact zkn l b items items2 n n2 dd dd2 sl sl2 ps qs _ 0 rfl (WW _) (WW _) prog w A R _ ⟨hL,hB,hp,hq,hu,by simpa using h⟩)⟩
structure ListPairs (h:Heap)(v:X9)(ps:List (Int×Int)):Prop where
 ex:∃a o xs n,v=.ref a/\h.get? a=some o/\o.cls=.type "list"/\o.data=.seq xs n/\W0 (zM h) xs.toList ps
theorem zlK {prog:Xy}{w:W6}{A:WG}{E:X9->X5->Prop}{s:X5}{v v':X9}{ps qs:List (Int×Int)}{C:Bool->X5->Prop}(hv:ListPairs s.heap v ps)(hv':ListPairs s.heap v' qs)(hu:A.units+30<U6)(h:C (ltL ps qs) s) :
  Xa (Xf prog w) A (PyProof.Rows.keyLt' PyProof.Rows.oneType' v v') C E s:=by
 obtain⟨a,⟨cls,dd,data,sl⟩,xs,n,rfl,e1,c1,d1,p1⟩:=hv
 obtain⟨a',⟨cls2,dd2,data2,sl2⟩,xs',n',rfl,e1',c1',d1',p1'⟩:=hv'
 simp only at c1 d1 c1' d1'
 subst c1 d1 c1' d1'
 rw[PyProof.Rows.keyLt'_oneType,PyProof.Rows.oneLt'_eq]
 simp only[if_true]
 refine Y1 (wpAny_cRoomFor (by lia) ?_)
 refine Y1 (wpAny_callSpecialIfBound?_slot (T:="list") ⟨_,e1,rfl⟩ F.slot_list_lt ?_)
 refine Sb F.slot_list_lt ⟨_,e1,rfl⟩ F.entry_list_lt (F.args_list_lt_2 _ _) (zhZ a a' xs xs' n n' dd dd2 sl sl2 ps qs) ⟨e1,e1',p1,p1',(by lia),?_⟩
 exact V2 h
end PySem.SeqAt
namespace L2
open PySem PySem.Spec PyProof.Rows PySem.W PySem.SeqAt
namespace GS
theorem zoZ:Wk ltL:=by
 refine⟨fun x y h=>?_,fun x y z h1 h2=>?_⟩
 ·cases e:ltL y x with
  | false=>rfl
  | true =>
   have:=zhX h e
   rw[zjq] at this
   cases this
 ·cases e:ltL z x with
  | false=>rfl
  | true =>
   by_cases exy:x=y
   ·subst exy
    rw[e] at h2
    exact h2
   ·have h3:ltL x y=true:=by
     have:=zjr (ps:=x) (qs:=y) exy
     rw[h1] at this
     cases hh:ltL x y with
     | true=>rfl
     | false =>
      rw[hh] at this
      cases this
    have:=zhX e h3
    rw[this] at h2
    exact h2
def LstAt (H:Hp)(v:V)(ps:List (Int×Int)):Prop:=∃a ws,v=V.ref a/\H a=some (.lst ws)/\jC H ws ps
theorem zko {h:Heap}{vs:List X9}{ps qs:List (Int×Int)}(hp:W0 (zM h) vs ps):W0 (zM h) vs qs->ps=qs:=by
 induction hp generalizing qs with
 | nil =>
  intro hq
  cases hq
  rfl
 | cons a _ ih =>
  intro hq
  cases hq with
  | cons b u=>rw[zjp a b,ih u]
theorem zlL {h:Heap}{v:X9}{ps qs:List (Int×Int)}(h1:ListPairs h v ps)(h2:ListPairs h v qs):ps=qs:=by
 obtain⟨a,o,xs,n,e,e1,c1,d1,p1⟩:=h1
 obtain⟨a',o',xs',n',e',e1',c1',d1',p1'⟩:=h2
 subst e
 cases e'
 rw[e1] at e1'
 cases e1'
 rw[d1] at d1'
 injection d1' with d1' _
 subst d1'
 exact zko p1 p1'
theorem Yv {h h':Heap}(k:∀b o,h.get? b=some o->h'.get? b=some o){vs:List X9}{ps:List (Int×Int)}(hp:W0 (zM h) vs ps):W0 (zM h') vs ps:=by
 induction hp with
 | nil=>exact .nil
 | cons q _ ih =>
  obtain⟨a,o,n,t,u,e,e1,r⟩:=q
  exact .cons ⟨a,o,n,t,u,e,k _ _ e1,r⟩ ih
section
variable {X:Cx}{pins:List (Addr×Obj)}{σ:St}{H:Hp}{s:X5}
theorem zh0 (I:Inv X pins σ H s){us:List V}{ks:List (List (Int×Int))}{its:List X9}(hp:W0 (LstAt H) us ks)(r:Vals us its):W0 (ListPairs s.heap) its ks:=by
 induction hp generalizing its with
 | nil =>
  cases r
  exact .nil
 | cons q _ ih =>
  obtain⟨a,ws,e,h,ht⟩:=q
  subst e
  cases r with
  | cons r1 r2 =>
   cases r1
   refine .cons ?_ (ih r2)
   obtain⟨z,its,n,rv,hl,e⟩:=I.lstM h
   exact⟨a,_,its.toArray,n,rfl,e,rfl,rfl,by rw[TM];exact jC.pairs I ht rv⟩
end
theorem zh1 {h:Heap}{its:List X9}{ks:List (List (Int×Int))}(hp:W0 (ListPairs h) its ks):∀v∈its,∃a o,v=WE a/\h.get? a=some o/\o.cls=.type "list":=by
 induction hp with
 | nil=>exact fun v hv=>nomatch hv
 | cons q _ ih =>
  intro v hv
  rcases XB.mp hv with rfl | hv
  ·obtain⟨a,o,xs,n,e,e1,c,_⟩:=q
   exact⟨a,o,e,e1,c⟩
  ·exact ih v hv
section
variable {X:Cx}
theorem ZE (hu:X.A.units+64<U6):yQ X (.builtin "sorted") (fun xs H Q=>∃l us ks,xs=[.ref l]/\SqL X.K H l us/\W0 (LstAt H) us ks/\us.length<=1000000 /\
  ∀d us' ks',H d=none->W0 (LstAt H) us' ks'->ks'.Perm ks->ks'.Pairwise (fun p q=>ltL q p=false)->us'.Perm us->Q (.ref d) (upd H d (.lst us'))):=by
 intro pins s σ H xs us' Q I r h
 obtain⟨l,us,ks,rfl,hq,ht,hz,q⟩:=h
 obtain⟨u,rfl,ru⟩:=vals1 r
 cases ru
 obtain⟨its,rv,pl,_⟩:=I.list hq
 have hp:=zh0 I ht rv
 refine zkm zoZ (RH:=ListPairs) (fun h v k k'=>zlL) (fun h h' v k kk ⟨a,o,xs,n,e,e1,c,d,r⟩=>⟨a,o,xs,n,e,kk _ _ e1,c,d,Yv kk r⟩) I pl.isList hz rv ht hp (fun s' hp' h2=>?_) fun d us' ks' hd h1 h2 h3 h4=>q d us' ks' hd h1 h2 h3 h4
 refine kas_kind (T:=.type "list") h2 (fun v hv=>?_) (by decide) (by decide) ⟨rfl,fun v v' k k' h1 h2 C hC=>?_⟩
 ·obtain⟨a,o,rfl,e1,c1⟩:=zh1 hp' v hv
  exact c1 ▸ (Looks.ld e1).andThen .now
 ·exact zlK h1 h2 (by show X.A.units+1+1+30<U6;lia) hC
end
end GS
open PySem PySem.Spec PyProof.Rows
section
variable {X:Cx}{K:X8}
end
def HasDef (K:X8)(x:Str)(st:Stmt):Prop:=∃(f:Addr) (oc:X9) (od an:Option Addr) (sl:Array (Option X9)) (kV dc pm cd ct:X9),Xm K Xx x=some (some (.ref f))/\K.lookup f=some ⟨oc,od,.func (UT x x (Zd st) (Jv st) (zg st) .none kV dc pm an cd ct),sl⟩/\Ta K cd x=true/\S9 K (.ref f)=true
theorem HasDef.at {K:X8}{h:Heap}{mg:Str->Option X9}{x:Str}{st:Stmt}{ps:List Str}(H:HasDef K x st)(X:K.In h)(G:h.Ns Xx mg)
  (hb:∀(kV doc pm:X9) (an:Option Addr) (cdv ct:X9) (us:List X9),us.length=ps.length->bindArgs (UT x x (Zd st) (Jv st) (zg st) .none kV doc pm an cdv ct) ⟨us,[]⟩=pure (ps.zip us)):∃f fd,zk K mg x st ps f fd:=by
 obtain⟨f,oc,od,an,sl,kV,dc,pm,cd,ct,a,l,c,k⟩:=H
 have F:=zk4 (st:=st) l c k
 exact⟨f,_,F,UM X G a,F.binds hb⟩
open PySem PySem.W
theorem us0 {P:List X9->Prop}(h:P []):∀us:List X9,us.length=0->P us:=by
 intro us e
 cases us with
 | nil=>exact h
 | cons a t=>cases e
theorem usS {n:Nat}{P:List X9->Prop}(h:∀a t,t.length=n->P (a::t)):∀us:List X9,us.length=n+1->P us:=by
 intro us e
 cases us with
 | nil=>cases e
 | cons a t=>exact h a t (Nat.succ.inj e)
theorem us1 {P:List X9->Prop}(h:∀a,P [a]):∀us:List X9,us.length=1->P us:=usS fun a=>us0 (h a)
theorem us2 {P:List X9->Prop}(h:∀a b,P [a,b]):∀us:List X9,us.length=2->P us:=usS fun a=>us1 (h a)
theorem us3 {P:List X9->Prop}(h:∀a b c,P [a,b,c]):∀us:List X9,us.length=3->P us:=usS fun a=>us2 (h a)
theorem us4 {P:List X9->Prop}(h:∀a b c d,P [a,b,c,d]):∀us:List X9,us.length=4->P us:=usS fun a=>us3 (h a)
open PySem PySem.Spec PyProof.Rows PySem.W
namespace ST
variable {X:Cx}
theorem zdO (hh:X.A.handled=none):yQ X (.builtin "sorted") (fun xs H Q=>∃l ks,xs=[.ref l]/\H l=some (zgv X.prog X.w l ks)/\(∀q∈ks,H q.1=some (.tup [.int q.2.1,.int q.2.2]))/\(ks.map (·.2)).Nodup/\ks.length<64 /\
  ∀d us' ps',H d=none->jC H us' ps'->ps'.Perm (ks.map (·.2))->Up2 ps'->Q (.ref d) (upd H d (.lst us'))):=by
 intro pins s σ H xs us' Q I r h
 obtain⟨l,ks,rfl,hl,hT,hnd,h64,q⟩:=h
 obtain⟨u,rfl,ru⟩:=vals1 r
 cases ru
 obtain⟨⟨es,ep,t,ho,he,G,hled,hpl⟩,_,_⟩:=(show jn X.prog X.w H s.heap l (zgv X.prog X.w l ks) from I.hok l _ hl)
 have hkl:ks.length=es.size:=by
  rw[<- X6,he,ZB]
 apply RR kind_sorted plain_sorted entry_sorted (args_sorted1 _)
 unfold UG.«sorted»
 refine Y1 (m:=checkCount "sorted" 1 1 _) (XS (Y1 (zgu (by simp[hh]) ho G hled hpl (by lia) fun its h1 tk hpm kk1 zle=>?_)))
 have hvs:es.toList.map (·.2)=ks.map fun q=>WE q.1:=by
  rw[he,WD]
  rfl
 rw[hvs] at hpm
 obtain⟨js,hjp,hj⟩:=zcU (fun q:Addr×(Int×Int)=>WE q.1) hpm ks rfl
 have hTj:∀q∈js,H q.1=some (.tup [.int q.2.1,.int q.2.2]):=fun q hq=>hT q (hjp.mem_iff.mp hq)
 have hndj:(js.map (·.2)).Nodup:=(hjp.map (·.2)).nodup_iff.mpr hnd
 have hjl:js.length=ks.length:=hjp.length_eq
 have hil:its.length=js.length:=by rw[hj,ZB]
 have rv:∀{js:List (Addr×(Int×Int))},Vals (js.map fun q=>V.ref q.1) (js.map fun q=>WE q.1):=fun {js}=>by
  induction js with
  | nil=>exact .nil
  | cons a t ih=>exact .cons rfl ih
 have ht:∀{js:List (Addr×(Int×Int))},(∀q∈js,H q.1=some (.tup [.int q.2.1,.int q.2.2]))->jC H (js.map fun q=>V.ref q.1) (js.map (·.2)):=fun {js}=>by
  induction js with
  | nil=>exact fun _=>.nil
  | cons a t ih=>exact fun h=>.cons ⟨a.1,rfl,h a XR⟩ (ih fun q hq=>h q (XT _ hq))
 have hp0:W0 (zM s.heap) its (js.map (·.2)):=by
  rw[hj]
  exact jC.pairs I (ht hTj) rv
 generalize hps:js.map (·.2)=ps at hp0 hndj
 have hlp:its.length=ps.length:=Paired.length hp0
 have W:=GS.zoY
 have ip:∀q:Addr×(Int×Int),H q.1=some (.tup [.int q.2.1,.int q.2.2])->zM s.heap (.ref q.1) q.2:=fun q hq=>by
  have:=jC.pairs I (.cons ⟨q.1,rfl,hq⟩ .nil:jC H [V.ref q.1] [q.2]) (.cons rfl .nil:Vals [V.ref q.1] [WE q.1])
  cases this with
  | cons h _=>exact h
 classical
 let r:X9->Int:=fun v=>if h:∃k,zM s.heap v k then GS.rkK lt2 ps h.choose else 0
 have rk_:∀{v:X9} {k:Int×Int},zM s.heap v k->r v=GS.rkK lt2 ps k:=fun {v k} h=>by
  have hx:∃k,zM s.heap v k:=⟨k,h⟩
  show (if h:∃k,zM s.heap v k then GS.rkK lt2 ps h.choose else 0)=_
  rw[dif_pos hx,GS.zjp hx.choose_spec h]
 have small:its.length<=XU:=by rw[Tn];lia
 refine Y1 (O4 ?_ small)
 have hoL:(h1.push (Uu "list" its.toArray 0)).get? h1.objs.size=some (Uu "list" its.toArray 0):=W5 _ rfl
 have kL:∀b o,s.heap.get? b=some o->(h1.push (Uu "list" its.toArray 0)).get? b=some o:=fun b o e=>XY _ (kk1 b o e)
 have ne:∀b o,s.heap.get? b=some o->b≠h1.objs.size:=fun b o e=>Xk (XF (kk1 b o e))
 show Xa _ _ _ _ _ { s with heap:=h1.push (Uu "list" its.toArray 0),toks:=tk }
 refine Y1 (V5 (Uv slot_list_sort ⟨_,hoL,rfl⟩ entry_list_sort (GS.zeo (s:={ s with heap:=h1.push (Uu "list" its.toArray 0),toks:=tk }) hoL small r (fun h2 s' kk=>?_) ?_) (args_list_sort _)))
 ·have hp':=Yv (fun b o e=>kk b o (ne b o e) (kL b o e)) hp0
  obtain⟨fs,hk,hfl,hint⟩:=zaN hp'
  refine kat_kind (T:=.type "int") hk (by lia) (fun v hv=>?_) (by decide) ⟨rfl,fun x hx y hy C hC=>?_⟩
  ·obtain⟨x,t,rfl⟩:=hint v hv
   exact Looks.of_pure rfl
  ·have mx:x.1∈its:=by
    rw[Uz] at hx
    exact(Sh hx).2
   have my:y.1∈its:=by
    rw[Uz] at hy
    exact(Sh hy).2
   obtain⟨k,k1,k2⟩:=GS.J4 hp0 x.1 mx
   obtain⟨k',k1',k2'⟩:=GS.J4 hp0 y.1 my
   have kp:∀{v:X9} {k:Int×Int},zM s.heap v k->zM s'.heap v k:=fun {v k} ⟨a,o,n,t,u,e,e1,r⟩=>⟨a,o,n,t,u,e,kk _ _ (ne _ _ e1) (kL _ _ e1),r⟩
   have hC':C (decide (r x.1<r y.1)) s':=hC
   rw[rk_ k2,rk_ k2',<- W.rank k1] at hC'
   exact zmT (kp k2) (kp k2') hC'
 ·intro ws h' c hpm' hs kk ha
  obtain⟨js',hjp',ej⟩:=zcU (fun q:Addr×(Int×Int)=>WE q.1) hpm' js hj
  have hD:H h1.objs.size=none:=I.hok.fresh zle
  have hT':∀q∈js',H q.1=some (.tup [.int q.2.1,.int q.2.2]):=fun q hq=>hTj q (hjp'.mem_iff.mp hq)
  have rv':Vals (js'.map fun q=>V.ref q.1) ws:=by
   rw[ej]
   exact rv
  have nd':(js'.map (·.2)).Nodup:=(hjp'.map (·.2)).nodup_iff.mpr (by rw[hps];exact hndj)
  have hup:Up2 (js'.map (·.2)):=by
   unfold Up2
   unfold Xg at nd'
   rw[V1] at nd' ⊢
   rw[ej,V1] at hs
   refine(hs.and nd').imp_of_mem fun {x y} hx hy ⟨h1,h2⟩=>?_
   rw[rk_ (ip x (hT' x hx)),rk_ (ip y (hT' y hy))] at h1
   have my:y.2∈ps:=by
    rw[<- hps]
    exact Xj.mpr ⟨y,hjp'.mem_iff.mp hy,rfl⟩
   have e1:lt2 y.2 x.2=false:=by
    rw[W.rank my]
    exact decide_eq_false (by lia)
   have e2:=zcr h2
   rw[e1] at e2
   cases hh:lt2 x.2 y.2 with
   | true=>rfl
   | false =>
    rw[hh] at e2
    cases e2
  refine⟨_,rfl,XS ⟨_,rfl,.ref h1.objs.size,upd H h1.objs.size (.lst (js'.map fun q=>V.ref q.1)),I.laid (t':=tk) (fun b o e=>kk b o (ne b o e) (kL b o e)) zle ⟨?_,_,c,rv',ha⟩,rfl,q _ _ _ hD (ht hT') ((hjp'.trans hjp).map _) hup⟩⟩
  rw[rv'.length,hpm'.length_eq]
  exact small
end ST
end L2
namespace Cells
noncomputable def qa (p:Nat->Bool)(i:Nat):Nat->List Nat->List (Nat×Nat)
 | _,[]=>[]
 | j,c::r=>(if p c=true then [(i,j)] else [])++qa p i (j+1) r
noncomputable def zV (p:Nat->Bool):Nat->List (List Nat)->List (Nat×Nat)
 | _,[]=>[]
 | i,t::r=>qa p i 0 t++zV p (i+1) r
theorem YA (p:Nat->Bool)(i:Nat):∀(j:Nat) (a b:List Nat),qa p i j (a++b)=qa p i j a++qa p i (j+a.length) b
 | j,[],b=>by simp[qa]
 | j,c::a,b=>by
  simp only[Rw,qa,YA p i (j+1) a b,Xw,WZ]
  rw[show j+1+a.length=j+(a.length+1) by lia]
theorem YB (p:Nat->Bool):∀(i:Nat) (a b:List (List Nat)),zV p i (a++b)=zV p i a++zV p (i+a.length) b
 | i,[],b=>by simp[zV]
 | i,t::a,b=>by
  simp only[Rw,zV,YB p (i+1) a b,Xw,WZ]
  rw[show i+1+a.length=i+(a.length+1) by lia]
theorem YC {p:Nat->Bool}{i j c:Nat}{t:List Nat}(h:t[j]?=some c):qa p i 0 (t.take (j+1))=qa p i 0 (t.take j)++(if p c=true then [(i,j)] else []):=by
 rw[XJ,h,YA]
 have hl:(t.take j).length=j:=by
  have:=(X4.mp h).1
  rw[XQ];lia
 simp[qa,hl]
theorem YD {p:Nat->Bool}{i:Nat}{t:List Nat}{rs:List (List Nat)}(h:rs[i]?=some t):zV p 0 (rs.take (i+1))=zV p 0 (rs.take i)++qa p i 0 t:=by
 rw[XJ,h,YB]
 have hl:(rs.take i).length=i:=by
  have:=(X4.mp h).1
  rw[XQ];lia
 simp[zV,hl]
theorem jo (p:Nat->Bool)(i:Nat):∀(j:Nat) (t:List Nat),(qa p i j t).length<=t.length
 | j,[]=>by simp[qa]
 | j,c::r=>by
  have:=jo p i (j+1) r
  simp only[qa,XZ,Xw]
  split<;>simp<;>lia
theorem jq (p:Nat->Bool):∀(i:Nat) (rs:List (List Nat)),(∀t∈rs,t.length<=8)->(zV p i rs).length<=8*rs.length
 | i,[],_=>by simp[zV]
 | i,t::r,h=>by
  have h1:=jo p i 0 t
  have h2:=jq p (i+1) r fun u hu=>h u (XT _ hu)
  have h3:=h t XR
  simp only[zV,XZ,Xw]
  lia
theorem JQ {p:Nat->Bool}{i:Nat}:∀{j:Nat} {t:List Nat} {x:Nat×Nat},x∈qa p i j t->∃m c,x=(i,j+m)/\t[m]?=some c/\p c=true
 | j,[],x,h=>by simp[qa] at h
 | j,c::r,x,h=>by
  simp only[qa,XI] at h
  rcases h with h | h
  ·split at h
   ·rename_i hp
    have:x=(i,j):=by simpa using h
    exact⟨0,c,this,rfl,hp⟩
   ·cases h
  ·obtain⟨m,c',e,h1,h2⟩:=JQ h
   exact⟨m+1,c',by rw[e,show j+1+m=j+(m+1) by lia],by simpa using h1,h2⟩
theorem xF {p:Nat->Bool}{i:Nat}{rs:List (List Nat)}{x:Nat×Nat}(h:x∈zV p i rs):∃k j t c,x=(i+k,j)/\rs[k]?=some t/\t[j]?=some c/\p c=true:=by
 induction rs generalizing i with
 | nil=>simp[zV] at h
 | cons t r ih =>
  simp only[zV,XI] at h
  rcases h with h | h
  ·obtain⟨m,c,e,h1,h2⟩:=JQ h
   exact⟨0,m,t,c,by simpa using e,rfl,h1,h2⟩
  ·obtain⟨k,j,u,c,e,h1,h2,h3⟩:=ih h
   exact⟨k+1,j,u,c,by rw[e,show i+1+k=i+(k+1) by lia],by simpa using h1,h2,h3⟩
noncomputable def sgn (rs:List (List Nat))(x:Nat×Nat):Nat:=(rs.getD x.1 []).getD x.2 0
theorem zaV {p q:Nat->Bool}{i:Nat}(f:Nat×Nat->Bool):∀(j:Nat) (t:List Nat),(∀m c,t[m]?=some c->f (i,j+m)=q c)->(qa p i j t).filter f=qa (fun c=>p c&&q c) i j t
 | j,[],_=>by simp[qa]
 | j,c::r,h=>by
  have ih:=zaV (p:=p) (q:=q) (i:=i) f (j+1) r fun m c' hm=>by
   have:=h (m+1) c' (by simpa using hm)
   rw[show j+1+m=j+(m+1) by lia];exact this
  have h0:=h 0 c rfl
  simp only[qa,XA,ih]
  congr 1
  simp only[TW] at h0
  by_cases hp:p c=true
  ·by_cases hq:q c=true
   ·simp[hp,hq,h0]
   ·simp[hp,hq,h0]
  ·simp[hp]
theorem zaW {p q:Nat->Bool}(f:Nat×Nat->Bool):∀(i:Nat) (rs:List (List Nat)),(∀k t m c,rs[k]?=some t->t[m]?=some c->f (i+k,m)=q c)->(zV p i rs).filter f=zV (fun c=>p c&&q c) i rs
 | i,[],_=>by simp[zV]
 | i,t::r,h=>by
  have ih:=zaW (p:=p) (q:=q) f (i+1) r fun k u m c hk hm=>by
   have:=h (k+1) u m c (by simpa using hk) hm
   rw[show i+1+k=i+(k+1) by lia];exact this
  simp only[zV,XA,ih]
  rw[zaV (p:=p) (q:=q) f 0 t fun m c hm=>by simpa using h 0 t m c rfl hm]
theorem zfl {rs:List (List Nat)}{i j:Nat}{t:List Nat}{c:Nat}(h:rs[i]?=some t)(h2:t[j]?=some c):sgn rs (i,j)=c:=by
 unfold sgn
 simp[List.getD,h,h2]
theorem all_filter {p q:Nat->Bool}(rs:List (List Nat)):(zV p 0 rs).filter (fun x=>q (sgn rs x))=zV (fun c=>p c&&q c) 0 rs :=
 zaW _ 0 rs fun k t m c hk hm=>by rw[show 0+k=k by lia,zfl hk hm]
theorem zb4 {p q:Nat->Bool}(h:∀c,p c=q c)(i:Nat)(rs:List (List Nat)):zV p i rs=zV q i rs:=by
 rw[show p=q from funext h]
def near (x y:Nat×Nat):Bool:=decide ((if (x.1:Int)-(y.1:Int)<0 then -((x.1:Int)-(y.1:Int)) else (x.1:Int)-(y.1:Int))<2)&&(decide ((if (x.2:Int)-(y.2:Int)<0 then -((x.2:Int)-(y.2:Int)) else (x.2:Int)-(y.2:Int))<2) && !decide (x=y))
theorem yb (x y:Nat×Nat):near x y=true↔(x.1<=y.1+1/\y.1<=x.1+1)/\(x.2<=y.2+1/\y.2<=x.2+1)/\¬ x=y:=by
 unfold near
 rw[Wq,Wq,decide_eq_true_iff,decide_eq_true_iff,WC,decide_eq_false_iff_not]
 constructor
 ·rintro⟨h1,h2,h3⟩
  refine⟨?_,?_,h3⟩
  ·split at h1<;>lia
  ·split at h2<;>lia
 ·rintro⟨h1,h2,h3⟩
  refine⟨?_,?_,h3⟩
  ·split<;>lia
  ·split<;>lia
def lex (a b:Nat×Nat):Prop:=a.1<b.1\/(a.1=b.1/\a.2<b.2)
theorem zeq (p:Nat->Bool)(i:Nat):∀(j:Nat) (t:List Nat),(qa p i j t).Pairwise lex
 | j,[]=>by simp[qa]
 | j,c::r=>by
  simp only[qa]
  rw[TX]
  refine⟨?_,zeq p i (j+1) r,fun a ha b hb=>?_⟩
  ·split<;>simp
  ·split at ha
   ·have e:a=(i,j):=by simpa using ha
    obtain⟨m,c',e',_,_⟩:=JQ hb
    subst e e'
    exact .inr ⟨rfl,by show j<j+1+m;lia⟩
   ·cases ha
theorem xG (p:Nat->Bool):∀(i:Nat) (rs:List (List Nat)),(zV p i rs).Pairwise lex
 | i,[]=>by simp[zV]
 | i,t::r=>by
  simp only[zV]
  rw[TX]
  refine⟨zeq p i 0 t,xG p (i+1) r,fun a ha b hb=>?_⟩
  obtain⟨m,c,e,_,_⟩:=JQ ha
  obtain⟨k,j,u,c',e',_,_,_⟩:=xF hb
  subst e e'
  exact .inl (by show i<i+1+k;lia)
theorem zgz {p:Nat->Bool}{f:Nat×Nat->Bool}{n:Nat}{rs:List (List Nat)}(h:∀r c,r<n->f (r,c)=false):(zV p 0 (rs.take n)).filter f=[]:=by
 rw[Wn]
 intro x hx
 obtain⟨k,j,t,c,e,hk,_,_⟩:=xF hx
 have hkl:k<n:=by
  have:=(X4.mp hk).1
  rw[XQ] at this
  lia
 subst e
 rw[h _ _ (by lia)]
 exact XV
theorem zer {p:Nat->Bool}{f:Nat×Nat->Bool}{n:Nat}{rs:List (List Nat)}(h:∀r c,n<=r->f (r,c)=false):(zV p 0 (rs.take n)).filter f=(zV p 0 rs).filter f:=by
 by_cases hn:n<=rs.length
 ·have e:=WR n rs
  have e2:zV p 0 rs=zV p 0 (rs.take n)++zV p (0+(rs.take n).length) (rs.drop n):=by rw[<- YB,e]
  rw[e2,XA]
  have z:(zV p (0+(rs.take n).length) (rs.drop n)).filter f=[]:=by
   rw[Wn]
   intro x hx
   obtain⟨k,j,t,c,e,hk,_,_⟩:=xF hx
   subst e
   rw[XQ,h _ _ (by lia)]
   exact XV
  rw[z,W4]
 ·rw[W8 (by lia)]
theorem zgA {p:Nat->Bool}{f:Nat×Nat->Bool}{i n:Nat}{t:List Nat}(h:∀c,c<n->f (i,c)=false):(qa p i 0 (t.take n)).filter f=[]:=by
 rw[Wn]
 intro x hx
 obtain⟨m,c,e,hm,_⟩:=JQ hx
 have hml:m<n:=by
  have:=(X4.mp hm).1
  rw[XQ] at this
  lia
 subst e
 rw[h _ (by lia)]
 exact XV
theorem zes {p:Nat->Bool}{f:Nat×Nat->Bool}{i n:Nat}{t:List Nat}(h:∀c,n<=c->f (i,c)=false):(qa p i 0 (t.take n)).filter f=(qa p i 0 t).filter f:=by
 by_cases hn:n<=t.length
 ·have e:=WR n t
  have e2:qa p i 0 t=qa p i 0 (t.take n)++qa p i (0+(t.take n).length) (t.drop n):=by rw[<- YA,e]
  rw[e2,XA]
  have z:(qa p i (0+(t.take n).length) (t.drop n)).filter f=[]:=by
   rw[Wn]
   intro x hx
   obtain⟨m,c,e,hm,_⟩:=JQ hx
   subst e
   rw[XQ,h _ (by lia)]
   exact XV
  rw[z,W4]
 ·rw[W8 (by lia)]
end Cells
namespace Parts
abbrev C:=Nat×Nat
structure Good (cl:C->List C)(done:List C)(gs:List (List C)):Prop where
 ne:∀g∈gs,g ≠ []
 nd:gs.flatten.Nodup
 from_:∀x∈gs.flatten,∃o∈done,x∈cl o
 cov:∀o∈done,cl o ≠ []->∃g∈gs,∀x∈cl o,x∈g
 con:∀g∈gs,∀S:C->Prop,(∀o∈done,(∃x∈cl o,S x)->∀x∈cl o,S x)->(∃x∈g,S x)->∀x∈g,S x
 srt:∀g∈gs,g.Pairwise Cells.lex
theorem Good.start (cl:C->List C):Good cl [] []:=⟨(fun _ h=>nomatch h),TY,(fun _ h=>nomatch h),(fun _ h=>nomatch h),(fun _ h=>nomatch h),(fun _ h=>nomatch h)⟩
theorem Good.skip {cl:C->List C}{done:List C}{gs:List (List C)}(G:Good cl done gs){o:C}(h:cl o=[]):Good cl (done++[o]) gs:=by
 refine⟨G.ne,G.nd,fun x hx=>?_,fun p hp hn=>?_,fun g hg S hS=>G.con g hg S fun p hp=>hS p (W1 _ hp),G.srt⟩
 ·obtain⟨p,hp,hx⟩:=G.from_ x hx
  exact⟨p,W1 _ hp,hx⟩
 ·rcases XI.mp hp with hp | hp
  ·exact G.cov p hp hn
  ·have e:p=o:=by simpa using hp
   subst e
   exact absurd h hn
theorem zet {gs:List (List C)}(nd:gs.flatten.Nodup):∀{g g':List C} {x:C},g∈gs->g'∈gs->x∈g->x∈g'->g=g':=by
 induction gs with
 | nil=>intro g g' x h;cases h
 | cons a r ih =>
  rw[Wz,Wp] at nd
  obtain⟨_,h2,h3⟩:=nd
  intro g g' x hg hg' hx hx'
  rcases XB.mp hg with e1 | g1
  ·rcases XB.mp hg' with e2 | g2
   ·rw[e1,e2]
   ·exact absurd rfl (h3 x (e1 ▸ hx) x (WA.mpr ⟨g',g2,hx'⟩))
  ·rcases XB.mp hg' with e2 | g2
   ·exact absurd rfl (h3 x (e2 ▸ hx') x (WA.mpr ⟨g,g1,hx⟩))
   ·exact ih h2 g1 g2 hx hx'
theorem jf (p:List C->Bool):∀gs:List (List C),(gs.filter p).flatten.Sublist gs.flatten
 | []=>List.Sublist.refl _
 | a::r=>by
  rw[Xl,Wz]
  split
  ·rw[Wz]
   exact List.Sublist.append (List.Sublist.refl _) (jf p r)
  ·exact List.Sublist.trans (jf p r) (RP _ _)
def meets (g0 g:List C):Bool:=!(g.filter fun c=>g0.any fun x=>decide (x=c)).isEmpty
theorem Z0 {g0 g:List C}:meets g0 g=true ↔ ∃x∈g,x∈g0:=by
 unfold meets
 rw[WC,UX]
 constructor
 ·intro h
  obtain⟨x,hx⟩:=TR _ h
  rw[XX,WS] at hx
  obtain⟨h1,y,h2,h3⟩:=hx
  have e:y=x:=of_decide_eq_true h3
  subst e
  exact⟨y,h1,h2⟩
 ·rintro⟨x,h1,h2⟩ hn
  have:x∈g.filter fun c=>g0.any fun x=>decide (x=c):=XX.mpr ⟨h1,WS.mpr ⟨x,h2,decide_eq_true rfl⟩⟩
  rw[hn] at this
  cases this
noncomputable def whole (w:List C):List (List C)->List C
 | []=>w
 | g::r=>whole (w++g.filter fun c=>!(w.any fun x=>decide (x=c))) r
theorem zaX (w:List C)(c:C):(w.any fun x=>decide (x=c))=true↔c∈w:=by
 rw[WS]
 constructor
 ·rintro⟨x,h1,h2⟩
  have e:x=c:=of_decide_eq_true h2
  subst e
  exact h1
 ·intro h
  exact⟨c,h,decide_eq_true rfl⟩
theorem zbC {x:C}:∀{w:List C} {ms:List (List C)},x∈whole w ms↔x∈w\/∃m∈ms,x∈m
 | w,[]=>by simp[whole]
 | w,g::r=>by
  rw[whole,zbC,XI,XX]
  constructor
  ·rintro((h | ⟨h,_⟩) | ⟨m,hm,h⟩)
   ·exact .inl h
   ·exact .inr ⟨g,XR,h⟩
   ·exact .inr ⟨m,XT _ hm,h⟩
  ·rintro(h | ⟨m,hm,h⟩)
   ·exact .inl (.inl h)
   ·rcases XB.mp hm with rfl | hm
    ·by_cases hw:x∈w
     ·exact .inl (.inl hw)
     ·refine .inl (.inr ⟨h,?_⟩)
      rw[WC,Xc]
      exact fun z=>hw ((zaX w x).mp z)
    ·exact .inr ⟨m,hm,h⟩
theorem Qo:∀{w:List C} {ms:List (List C)},w.Nodup->(∀m∈ms,m.Nodup)->(whole w ms).Nodup
 | w,[],h,_=>h
 | w,g::r,h,hm=>by
  rw[whole]
  refine Qo ?_ fun m hm'=>hm m (XT _ hm')
  rw[Wp]
  refine⟨h,(hm g XR).sublist Ww,fun a ha b hb e=>?_⟩
  subst e
  have hb2:=(XX.mp hb).2
  rw[(zaX w a).mpr ha] at hb2
  cases hb2
theorem Good.step {cl:C->List C}{done:List C}{gs:List (List C)}(G:Good cl done gs){o:C}(h:cl o ≠ [])(hn:(cl o).Nodup){rest:List (List C)}{w:List C}(hr:rest=gs.filter fun g=>!((gs.filter (meets (cl o))).any fun m=>decide (m=g)))
  (hw:w.Perm (whole (cl o) (gs.filter (meets (cl o))))) (hs:w.Pairwise Cells.lex):Good cl (done++[o]) (rest++[w]):=by
 have mr:∀g,g∈rest↔g∈gs/\¬ ∃x∈g,x∈cl o:=fun g=>by
  rw[hr,XX,WC,Xc]
  constructor
  ·rintro⟨h1,h2⟩
   exact⟨h1,fun h3=>h2 (WS.mpr ⟨g,XX.mpr ⟨h1,Z0.mpr h3⟩,decide_eq_true rfl⟩)⟩
  ·rintro⟨h1,h2⟩
   refine⟨h1,fun h3=>?_⟩
   obtain⟨m,hm,e⟩:=WS.mp h3
   have e':m=g:=of_decide_eq_true e
   subst e'
   exact h2 (Z0.mp (XX.mp hm).2)
 have mw:∀x,x∈w↔x∈cl o\/∃g∈gs,(∃y∈g,y∈cl o)/\x∈g:=fun x=>by
  rw[hw.mem_iff,zbC]
  constructor
  ·rintro(h1 | ⟨m,hm,h1⟩)
   ·exact .inl h1
   ·obtain⟨h2,h3⟩:=XX.mp hm
    exact .inr ⟨m,h2,Z0.mp h3,h1⟩
  ·rintro(h1 | ⟨g,h2,h3,h1⟩)
   ·exact .inl h1
   ·exact .inr ⟨g,XX.mpr ⟨h2,Z0.mpr h3⟩,h1⟩
 have gn:∀g∈gs,g.Nodup:=fun g hg=>G.nd.sublist (VG hg)
 have wn:w.Nodup:=hw.nodup_iff.mpr (Qo hn fun m hm=>gn m (XX.mp hm).1)
 refine⟨fun g hg=>?_,?_,fun x hx=>?_,fun p hp hne=>?_,fun g hg S hS=>?_,fun g hg=>?_⟩
 ·rcases XI.mp hg with hg | hg
  ·exact G.ne g ((mr g).mp hg).1
  ·have e:g=w:=by simpa using hg
   subst e
   obtain⟨x,hx⟩:=TR _ h
   exact Tp ((mw x).mpr (.inl hx))
 ·rw[Wv,Wp]
  refine⟨G.nd.sublist (by rw[hr];exact jf _ gs),by simpa using wn,fun a ha b hb e=>?_⟩
  subst e
  have hb':a∈w:=by simpa using hb
  obtain⟨g,hg,hx⟩:=WA.mp ha
  obtain⟨g1,g2⟩:=(mr g).mp hg
  rcases(mw a).mp hb' with h1 | ⟨m,m1,m2,m3⟩
  ·exact g2 ⟨a,hx,h1⟩
  ·have e:=zet G.nd g1 m1 hx m3
   subst e
   exact g2 m2
 ·rw[Wv] at hx
  rcases XI.mp hx with hx | hx
  ·obtain⟨g,hg,hx⟩:=WA.mp hx
   obtain⟨p,hp,hx⟩:=G.from_ x (WA.mpr ⟨g,((mr g).mp hg).1,hx⟩)
   exact⟨p,W1 _ hp,hx⟩
  ·have hx':x∈w:=by simpa using hx
   rcases(mw x).mp hx' with h1 | ⟨g,g1,_,g3⟩
   ·exact⟨o,by simp,h1⟩
   ·obtain⟨p,hp,hx⟩:=G.from_ x (WA.mpr ⟨g,g1,g3⟩)
    exact⟨p,W1 _ hp,hx⟩
 ·rcases XI.mp hp with hp | hp
  ·obtain⟨g,hg,hx⟩:=G.cov p hp hne
   by_cases hm:∃x∈g,x∈cl o
   ·exact⟨w,by simp,fun x hx'=>(mw x).mpr (.inr ⟨g,hg,hm,hx x hx'⟩)⟩
   ·exact⟨g,W1 _ ((mr g).mpr ⟨hg,hm⟩),hx⟩
  ·have e:p=o:=by simpa using hp
   subst e
   exact⟨w,by simp,fun x hx=>(mw x).mpr (.inl hx)⟩
 ·have hS':∀p∈done,(∃x∈cl p,S x)->∀x∈cl p,S x:=fun p hp=>hS p (W1 _ hp)
  rcases XI.mp hg with hg | hg
  ·exact G.con g ((mr g).mp hg).1 S hS'
  ·have e:g=w:=by simpa using hg
   subst e
   rintro⟨x,hx,sx⟩
   have all0:∀y∈cl o,S y:=by
    refine hS o (by simp) ?_
    rcases(mw x).mp hx with h1 | ⟨m,m1,⟨y,y1,y2⟩,m3⟩
    ·exact⟨x,h1,sx⟩
    ·exact⟨y,y2,G.con m m1 S hS' ⟨x,m3,sx⟩ y y1⟩
   intro z hz
   rcases(mw z).mp hz with h1 | ⟨m,m1,⟨y,y1,y2⟩,m3⟩
   ·exact all0 z h1
   ·exact G.con m m1 S hS' ⟨y,y1,all0 y y2⟩ z m3
 ·rcases XI.mp hg with hg | hg
  ·exact G.srt g ((mr g).mp hg).1
  ·have e:g=w:=by simpa using hg
   subst e
   exact hs
theorem Good.perm {cl:C->List C}{done:List C}{gs gs':List (List C)}(G:Good cl done gs)(h:gs'.Perm gs):Good cl done gs':=by
 refine⟨fun g hg=>G.ne g (h.mem_iff.mp hg),h.flatten.nodup_iff.mpr G.nd,fun x hx=>G.from_ x (h.flatten.mem_iff.mp hx),fun o ho hn=>?_,fun g hg=>G.con g (h.mem_iff.mp hg),fun g hg=>G.srt g (h.mem_iff.mp hg)⟩
 obtain⟨g,hg,hx⟩:=G.cov o ho hn
 exact⟨g,h.mem_iff.mpr hg,hx⟩
theorem Qp:∀{gs:List (List C)},(∀g∈gs,g ≠ [])->gs.length<=gs.flatten.length
 | [],_=>XW _
 | g::r,h=>by
  have ih:=Qp (gs:=r) fun x hx=>h x (XT _ hx)
  have:1<=g.length:=List.length_pos_iff.mpr (h g XR)
  rw[Wz,XZ,Xw]
  lia
theorem yp:∀{a b:List C},a.Nodup->(∀x∈a,x∈b)->a.length<=b.length
 | [],_,_,_=>WW _
 | x::r,b,h,s=>by
  obtain⟨h1,h2⟩:=VM.mp h
  have hx:=s x XR
  have ih:=yp (a:=r) (b:=b.erase x) h2 fun y hy=>(List.mem_erase_of_ne (fun (e:y=x)=>h1 (by rw[<- e];exact hy))).mpr (s y (XT _ hy))
  rw[List.length_erase_of_mem hx] at ih
  have:=Uj hx
  rw[Xw]
  lia
end Parts
namespace Subs
variable {α:Type}
noncomputable def step (S:List (List α))(c:α):List (List α):=S++S.map (·++[c])
noncomputable def subs (cs:List α):List (List α):=cs.foldl step [[]]
noncomputable def pick:List α->Nat->List α
 | [],_=>[]
 | c::r,b=>(if b%2=1 then [c] else [])++pick r (b/2)
theorem zeu (cs:List α)(c:α):subs (cs++[c])=step (subs cs) c:=by
 unfold subs
 rw[T4]
 rfl
theorem zjs:∀(cs:List α) (c:α) (b:Nat),b<2^cs.length->pick (cs++[c]) b=pick cs b
 | [],c,b,h=>by
  have:b=0:=by
   simp at h
   lia
  subst this
  rfl
 | d::r,c,b,h=>by
  show _++pick (r++[c]) (b/2)=_++pick r (b/2)
  rw[zjs r c (b/2) (by
   rw[Xw,VU] at h
   lia)]
theorem zjt:∀(cs:List α) (c:α) (b:Nat),b<2^cs.length->pick (cs++[c]) (2^cs.length+b)=pick cs b++[c]
 | [],c,b,h=>by
  have:b=0:=by
   simp at h
   lia
  subst this
  rfl
 | d::r,c,b,h=>by
  rw[Xw,VU] at h
  show (if (2^(r.length+1)+b)%2=1 then [d] else [])++pick (r++[c]) ((2^(r.length+1)+b)/2)=((if b%2=1 then [d] else [])++pick r (b/2))++[c]
  have e1:(2^(r.length+1)+b)%2=b%2:=by
   rw[VU]
   lia
  have e2:(2^(r.length+1)+b)/2=2^r.length+b/2:=by
   rw[VU]
   lia
  rw[e1,e2,zjt r c (b/2) (by lia),WZ]
theorem yq (cs:List α):subs cs=(W9 (2^cs.length)).map (pick cs):=by
 rw[<- Ss cs]
 induction cs.reverse with
 | nil=>rfl
 | cons c r ih =>
  rw[List.reverse_cons,zeu,ih,XZ,VP,VU,Nat.mul_two,List.range_add,Xv,WD]
  unfold step
  rw[WD]
  congr 1
  ·refine Xi fun b hb=>?_
   exact(zjs _ _ _ (Wf.mp hb)).symm
  ·refine Xi fun b hb=>?_
   exact(zjt _ _ _ (Wf.mp hb)).symm
noncomputable def Js (n:Int)(F:List (List α))(c:α):List (List α):=F++(F.filter fun p=>decide (((p.length:Nat):Int)<n)).map (·++[c])
theorem zgB (n:Int)(hn:0<=n)(c:α)(S:List (List α)):Js n (S.filter fun p=>decide (((p.length:Nat):Int)<=n)) c=(step S c).filter fun p=>decide (((p.length:Nat):Int)<=n):=by
 unfold Js step
 rw[XA]
 congr 1
 rw[Wj,Vb]
 congr 1
 refine V0 fun p _=>?_
 show (decide (((p.length:Nat):Int)<n)&&decide (((p.length:Nat):Int)<=n))=decide ((((p++[c]).length:Nat):Int)<=n)
 rw[XZ,VP,WU]
 simp only[Wq,decide_eq_true_eq]
 lia
theorem zn2 (n:Int)(hn:0<=n):∀(cs:List α) (S:List (List α)),cs.foldl (Js n) (S.filter fun p=>decide (((p.length:Nat):Int)<=n))=(cs.foldl step S).filter fun p=>decide (((p.length:Nat):Int)<=n)
 | [],_=>rfl
 | c::r,S=>by
  rw[Wy,Wy,zgB n hn,zn2 n hn r]
theorem zkp (n:Int)(hn:0<=n)(cs:List α):(cs.foldl (Js n) [[]]).filter (fun p=>decide (((p.length:Nat):Int)=n))=(subs cs).filter fun p=>decide (((p.length:Nat):Int)=n):=by
 have h:=zn2 n hn cs [[]]
 have e:([[]]:List (List α)).filter (fun p=>decide (((p.length:Nat):Int)<=n))=[[]]:=by
  simp[hn]
 rw[e] at h
 rw[h,Wj]
 refine V0 fun p _=>?_
 rw[WU]
 simp only[Wq,decide_eq_true_eq]
 lia
noncomputable def ones:Nat->List Nat
 | 0=>[0]
 | k+1=>ones k++(ones k).map (· + 1)
theorem zgC:∀k,(ones k).length=2^k
 | 0=>rfl
 | k+1=>by
  show (ones k++(ones k).map (· + 1)).length=_
  rw[XZ,ZB,zgC k,VU]
  lia
theorem zlM (cs:List α):ones cs.length=(subs cs).map List.length:=by
 rw[<- Ss cs]
 induction cs.reverse with
 | nil=>rfl
 | cons c r ih =>
  rw[List.reverse_cons,zeu,XZ,VP]
  show ones r.reverse.length++(ones r.reverse.length).map (· + 1)=_
  unfold step
  rw[Xv,ih,WD,WD]
  congr 1
  refine Xi fun p _=>?_
  show p.length+1=(p++[c]).length
  rw[XZ,VP]
theorem znf (cs:List α){b:Nat}(h:b<2^cs.length):(ones cs.length)[b]?=some (pick cs b).length:=by
 rw[zlM,yq,WD,XE,UE h]
 rfl
noncomputable def mk:List Bool->Nat
 | []=>0
 | f::r=>(if f=true then 1 else 0)+2*mk r
theorem zn3:∀fs:List Bool,mk fs<2^fs.length
 | []=>by decide
 | f::r=>by
  have:=zn3 r
  rw[Xw,VU]
  show (if f=true then 1 else 0)+2*mk r<_
  split<;>lia
theorem zo0 {a b k:Nat}(h:b<2^k):a &&& b<2^k:=XH Nat.and_le_right h
theorem zgD:∀(cs:List α) (p:α->Bool) (b:Nat),(pick cs (b &&& mk (cs.map p))).length=((pick cs b).filter p).length
 | [],_,_=>rfl
 | c::r,p,b=>by
  show ((if (b &&& mk (p c::r.map p))%2=1 then [c] else [])++pick r ((b &&& mk (p c::r.map p))/2)).length=(((if b%2=1 then [c] else [])++pick r (b/2)).filter p).length
  have e2:(b &&& mk (p c::r.map p))/2=(b/2) &&& mk (r.map p):=by
   rw[Nat.and_div_two]
   congr 1
   show ((if p c=true then 1 else 0)+2*mk (r.map p))/2=_
   split<;>lia
  have e1:(b &&& mk (p c::r.map p))%2=1↔b%2=1/\p c=true:=by
   rw[Qb]
   have:mk (p c::r.map p)%2=1↔p c=true:=by
    show ((if p c=true then 1 else 0)+2*mk (r.map p))%2=1↔_
    by_cases h:p c=true
    ·rw[if_pos h]
     exact⟨fun _=>h,fun _=>by lia⟩
    ·rw[if_neg h]
     exact⟨fun z=>by lia,fun z=>absurd z h⟩
   rw[this]
  rw[e2,XZ,XA,XZ,zgD r p (b/2)]
  congr 1
  by_cases hb:b%2=1
  ·by_cases hp:p c=true
   ·rw[if_pos (e1.mpr ⟨hb,hp⟩),if_pos hb,Xl,if_pos hp]
    rfl
   ·rw[if_neg (fun z=>hp (e1.mp z).2),if_pos hb,Xl,if_neg hp]
    rfl
  ·rw[if_neg (fun z=>hb (e1.mp z).1),if_neg hb]
   rfl
theorem zlN:∀(fs:List Bool) (o:Nat),(((W9 fs.length).filter fun k=>fs.getD k false).map fun k=>(2:Int)^(o+k)).sum=2^o*(mk fs:Int)
 | [],o=>by simp[mk]
 | f::r,o=>by
  have ih:=zlN r (o+1)
  rw[Xw,SO,Xl,Vb]
  have e:((W9 r.length).filter ((fun k=>(f::r).getD k false)∘Ox))=(W9 r.length).filter fun k=>r.getD k false:=by
   refine V0 fun k _=>?_
   simp[Function.comp]
  have e2:(UU (fun k=>(2:Int)^(o+k)) (UU Ox ((W9 r.length).filter fun k=>r.getD k false))).sum=2^(o+1)*(mk r:Int):=by
   rw[<- ih,WD]
   congr 1
   refine Xi fun k _=>?_
   show (2:Int)^(o+(k+1))=2^(o+1+k)
   congr 1
   lia
  rw[e]
  show _=2^o*(((if f=true then 1 else 0)+2*mk r:Nat):Int)
  have e3:(f::r).getD 0 false=f:=by simp
  by_cases hf:f=true
  ·rw[if_pos (by rw[e3];exact hf),Xb,O3,e2,if_pos hf,UV,PZ,OI,Int.pow_succ,TW]
   simp[Int.mul_assoc]
  ·rw[if_neg (by rw[e3];exact hf),e2,if_neg hf,V9,PZ,Int.pow_succ,Int.mul_assoc]
   rfl
theorem Yx:∀(cs:List α) (b:Nat),pick cs b=(W9 cs.length).filterMap fun k=>if (b/2^k)%2=1 then cs[k]? else none
 | [],_=>rfl
 | c::r,b=>by
  rw[Xw,SO,Vx,List.filterMap_map]
  have e:(W9 r.length).filterMap ((fun k=>if b/2^k%2=1 then (c::r)[k]? else none)∘Ox)=pick r (b/2):=by
   rw[Yx r (b/2)]
   congr 1
   funext k
   show (if b/2^(k+1)%2=1 then (c::r)[k+1]? else none)=_
   rw[Tj,VU,Rh,<- SS]
  show (if b%2=1 then [c] else [])++pick r (b/2)=_
  rw[e]
  simp only[Nat.pow_zero,Nat.div_one,Ro]
  by_cases hb:b%2=1
  ·simp[hb]
  ·simp[hb]
end Subs
namespace Grow
variable {α β:Type}
noncomputable def cnt (near:β->α->Bool)(o:β)(p:List α):Nat:=(p.filter (near o)).length
def zcY (near:β->α->Bool)(num:β->Int)(rest:List α)(o:β)(p:List α):Bool:=decide (num o-((cnt near o rest:Nat):Int)<=((cnt near o p:Nat):Int))&&decide (((cnt near o p:Nat):Int)<=num o)
def chk (near:β->α->Bool)(num:β->Int)(O:List β)(c:α)(rest:List α)(p:List α):Bool:=(O.filter fun o=>near o c).all fun o=>zcY near num rest o p
noncomputable def grow (near:β->α->Bool)(num:β->Int)(O:List β):List (List α)->List α->List (List α)
 | F,[]=>F
 | F,c::rest=>grow near num O ((Subs.step F c).filter (chk near num O c rest)) rest
def good (near:β->α->Bool)(num:β->Int)(O:List β)(done rest:List α)(p:List α):Bool:=(O.filter fun o=>done.any (near o)).all fun o=>zcY near num rest o p
theorem cnt_cons (near:β->α->Bool)(o:β)(c:α)(r:List α):cnt near o (c::r)=cnt near o r+if near o c=true then 1 else 0:=by
 unfold cnt
 rw[Xl]
 split<;>rfl
theorem Qq (near:β->α->Bool)(o:β)(p:List α)(c:α):cnt near o (p++[c])=cnt near o p+if near o c=true then 1 else 0:=by
 unfold cnt
 rw[XA,XZ]
 congr 1
 rw[Xl]
 split<;>rfl
theorem yI {near:β->α->Bool}{num:β->Int}{rest:List α}{o:β}{p:List α}:zcY near num rest o p=true↔num o-((cnt near o rest:Nat):Int)<=((cnt near o p:Nat):Int)/\((cnt near o p:Nat):Int)<=num o:=by
 unfold zcY
 rw[Wq,decide_eq_true_eq,decide_eq_true_eq]
theorem zju {near:β->α->Bool}{num:β->Int}{O:List β}{c:α}{rest p:List α}:chk near num O c rest p=true ↔ ∀o∈O,near o c=true->zcY near num rest o p=true:=by
 unfold chk
 rw[WT]
 exact⟨fun h o ho hn=>h o (XX.mpr ⟨ho,hn⟩),fun h o ho=>h o (XX.mp ho).1 (XX.mp ho).2⟩
theorem Qs {near:β->α->Bool}{num:β->Int}{O:List β}{done rest p:List α}:good near num O done rest p=true ↔ ∀o∈O,done.any (near o)=true->zcY near num rest o p=true:=by
 unfold good
 rw[WT]
 exact⟨fun h o ho hn=>h o (XX.mpr ⟨ho,hn⟩),fun h o ho=>h o (XX.mp ho).1 (XX.mp ho).2⟩
theorem Z1 (near:β->α->Bool)(o:β)(done:List α)(c:α):(done++[c]).any (near o)=true↔done.any (near o)=true\/near o c=true:=by
 rw[List.any_append,Bool.or_eq_true]
 simp
theorem zng (near:β->α->Bool)(num:β->Int)(O:List β)(done rest:List α)(c:α)(p:List α):(good near num O done (c::rest) p&&chk near num O c rest p)=good near num O (done++[c]) rest p:=by
 rw[WU,Wq,Qs,zju,Qs]
 constructor
 ·rintro⟨h1,h2⟩ o ho hn
  by_cases hc:near o c=true
  ·exact h2 o ho hc
  ·have:=h1 o ho (((Z1 near o done c).mp hn).resolve_right hc)
   rw[yI,cnt_cons,if_neg hc] at this
   exact yI.mpr this
 ·intro h
  refine⟨fun o ho hn=>?_,fun o ho hc=>h o ho ((Z1 near o done c).mpr (.inr hc))⟩
  have:=yI.mp (h o ho ((Z1 near o done c).mpr (.inl hn)))
  rw[yI,cnt_cons]
  split<;>lia
theorem znh (near:β->α->Bool)(num:β->Int)(O:List β)(done rest:List α)(c:α)(p:List α):(good near num O done (c::rest) p&&chk near num O c rest (p++[c]))=good near num O (done++[c]) rest (p++[c]):=by
 rw[WU,Wq,Qs,zju,Qs]
 constructor
 ·rintro⟨h1,h2⟩ o ho hn
  by_cases hc:near o c=true
  ·exact h2 o ho hc
  ·have:=h1 o ho (((Z1 near o done c).mp hn).resolve_right hc)
   rw[yI,cnt_cons,if_neg hc] at this
   rw[yI,Qq,if_neg hc]
   exact this
 ·intro h
  refine⟨fun o ho hn=>?_,fun o ho hc=>h o ho ((Z1 near o done c).mpr (.inr hc))⟩
  have:=yI.mp (h o ho ((Z1 near o done c).mpr (.inl hn)))
  rw[Qq] at this
  rw[yI,cnt_cons]
  split at this<;>rename_i hc
  ·rw[if_pos hc]
   lia
  ·rw[if_neg hc]
   lia
theorem zkq (near:β->α->Bool)(num:β->Int)(O:List β)(done rest:List α)(c:α)(S:List (List α)):(Subs.step (S.filter (good near num O done (c::rest))) c).filter (chk near num O c rest)=(Subs.step S c).filter (good near num O (done++[c]) rest):=by
 unfold Subs.step
 rw[XA,XA]
 congr 1
 ·rw[Wj]
  refine V0 fun p _=>?_
  rw[<- zng,Ub]
 ·rw[Vb,Vb,Wj]
  congr 1
  refine V0 fun p _=>?_
  show (chk near num O c rest (p++[c])&&good near num O done (c::rest) p)=good near num O (done++[c]) rest (p++[c])
  rw[<- znh,Ub]
theorem zew (near:β->α->Bool)(num:β->Int)(O:List β):∀(rest done:List α) (S:List (List α)),grow near num O (S.filter (good near num O done rest)) rest=(rest.foldl Subs.step S).filter (good near num O (done++rest) [])
 | [],done,S=>by
  rw[W4]
  rfl
 | c::r,done,S=>by
  show grow near num O ((Subs.step (S.filter (good near num O done (c::r))) c).filter (chk near num O c r)) r=_
  rw[zkq,zew near num O r (done++[c]) (Subs.step S c),WZ]
  rfl
def fits (near:β->α->Bool)(num:β->Int)(O:List β)(part:List α)(p:List α):Bool:=(O.filter fun o=>part.any (near o)).all fun o=>decide (((cnt near o p:Nat):Int)=num o)
theorem zni (near:β->α->Bool)(num:β->Int)(O:List β)(part:List α):grow near num O [[]] part=(Subs.subs part).filter (fits near num O part):=by
 have h:=zew near num O part [] [[]]
 have e:([[]]:List (List α)).filter (good near num O [] part)=[[]]:=by
  have:good near num O [] part []=true:=Qs.mpr fun o _ hn=>by simp at hn
  rw[Xl,if_pos this]
  rfl
 rw[e] at h
 rw[h]
 show (Subs.subs part).filter _=_
 refine V0 fun p _=>?_
 rw[List.nil_append]
 unfold good fits
 congr 1
 funext o
 rw[WU,yI,decide_eq_true_eq]
 show num o-((0:Nat):Int)<=_/\_↔_
 lia
end Grow
namespace Cnt
variable {α:Type}
noncomputable def xg (g:Nat)(ks:List (List α)):List Int:=(W9 (g+1)).map fun n=>((ks.countP fun k=>decide (k.length=n):Nat):Int)
theorem Qt (g:Nat)(ks:List (List α)):(xg g ks).length=g+1:=by
 unfold xg
 rw[ZB,WL]
theorem zgE (g:Nat):xg g ([]:List (List α))=WF (g+1) 0:=by
 unfold xg
 refine List.eq_replicate_iff.mpr ⟨by rw[ZB,WL],fun b hb=>?_⟩
 obtain⟨n,_,rfl⟩:=Xj.mp hb
 rfl
theorem zaY {g n:Nat}(ks:List (List α))(h:n<=g):(xg g ks)[n]?=some ((ks.countP fun k=>decide (k.length=n):Nat):Int):=by
 unfold xg
 rw[XE,UE (by lia)]
 rfl
theorem zex {g:Nat}(ks:List (List α)){k:List α}(h:k.length<=g):xg g (ks++[k])=(xg g ks).set k.length (((ks.countP fun x=>decide (x.length=k.length):Nat):Int)+1):=by
 refine SX fun n=>?_
 rw[List.getElem?_set]
 by_cases hn:n<=g
 ·rw[zaY _ hn,zaY _ hn,Qt,Vn]
  by_cases e:k.length=n
  ·rw[if_pos e,if_pos (by lia)]
   subst e
   simp
  ·rw[if_neg e]
   simp[e]
 ·have e1:∀xs:List (List α),(xg g xs)[n]?=none:=fun xs=>SM (by rw[Qt];lia)
  rw[e1,e1,Qt,if_neg (by lia)]
theorem zbD {g:Nat}{as bs:List (List α)}(h:as.Perm bs):xg g as=xg g bs:=by
 unfold xg
 refine Xi fun n _=>?_
 rw[h.countP_eq]
end Cnt
namespace Pour
noncomputable def S (h:Nat->Int):Nat->Int
 | 0=>0
 | n+1=>S h n+h n
def F (xs:List Int)(i:Nat):Int:=(xs[i]?).getD 0
def hk (xs ys:List Int)(k i:Nat):Int:=if i<=k then F xs i*F ys (k-i) else 0
noncomputable def ZF (xs ys:List Int):List Int:=(W9 (xs.length+ys.length-1)).map fun k=>S (hk xs ys k) xs.length
def part (xs ys:List Int)(i j k:Nat):Int:=S (hk xs ys k) i+(if i<=k/\k-i<j then F xs i*F ys (k-i) else 0)
noncomputable def st (xs ys:List Int)(i j:Nat):List Int:=(W9 (xs.length+ys.length-1)).map (part xs ys i j)
theorem zcZ {xs:List Int}{i:Nat}(h:xs.length<=i):F xs i=0:=by
 unfold F
 rw[SM h]
 rfl
theorem znj {xs:List Int}{i:Nat}{x:Int}(h:xs[i]?=some x):F xs i=x:=by
 unfold F
 rw[h]
 rfl
theorem Zq {f g:Nat->Int}:∀n,(∀i,i<n->f i=g i)->S f n=S g n
 | 0,_=>rfl
 | n+1,h=>by
  show S f n+f n=S g n+g n
  rw[Zq n fun i hi=>h i (by lia),h n (by lia)]
theorem zlO {f:Nat->Int}{n:Nat}:∀m,(∀i,n<=i->i<n+m->f i=0)->S f (n+m)=S f n
 | 0,_=>rfl
 | m+1,h=>by
  show S f (n+m)+f (n+m)=S f n
  rw[zlO m fun i h1 h2=>h i h1 (by lia),h (n+m) (by lia) (by lia),Sg]
theorem znk {f:Nat->Int}{n m:Nat}(hm:n<=m)(h:∀i,n<=i->i<m->f i=0):S f m=S f n:=by
 obtain⟨d,rfl⟩:∃d,m=n+d:=⟨m-n,by lia⟩
 exact zlO d h
theorem zo1 (xs ys:List Int)(k:Nat):S (hk xs ys k) xs.length=S (fun i=>F xs i*F ys (k-i)) (k+1):=by
 have e1:S (fun i=>F xs i*F ys (k-i)) (k+1)=S (hk xs ys k) (k+1):=Zq _ fun i hi=>by
  unfold hk
  rw[if_pos (by lia)]
 rw[e1]
 by_cases c:xs.length<=k+1
 ·refine(znk c fun i h1 _=>?_).symm
  unfold hk
  rw[zcZ h1]
  split<;>simp
 ·refine znk (by lia) fun i h1 _=>?_
  unfold hk
  rw[if_neg (by lia)]
theorem zh2 (xs ys:List Int)(i j:Nat):(st xs ys i j).length=xs.length+ys.length-1:=by
 unfold st
 rw[ZB,WL]
theorem zh3 {xs ys:List Int}{i j k:Nat}(h:k<xs.length+ys.length-1):(st xs ys i j)[k]?=some (part xs ys i j k):=by
 unfold st
 rw[XE,UE h]
 rfl
theorem zlP (xs ys:List Int):st xs ys 0 0=WF (xs.length+ys.length-1) 0:=by
 unfold st
 have e:∀k,part xs ys 0 0 k=0:=fun k=>by
  unfold part
  rw[if_neg (by lia)]
  rfl
 refine(Xi (g:=fun _=>(0:Int)) fun k _=>e k).trans ?_
 rw[List.map_const',WL]
theorem zlQ (xs ys:List Int)(i k:Nat):part xs ys i ys.length k=part xs ys (i+1) 0 k:=by
 unfold part
 rw[if_neg (show ¬ (i+1<=k/\k-(i+1)<0) by lia),Sg]
 show _=S (hk xs ys k) i+hk xs ys k i
 congr 1
 unfold hk
 by_cases c:i<=k
 ·by_cases d:k-i<ys.length
  ·rw[if_pos ⟨c,d⟩,if_pos c]
  ·rw[if_neg (fun z=>d z.2),if_pos c,zcZ (show ys.length<=k-i by lia),ON]
 ·rw[if_neg (fun z=>c z.1),if_neg c]
theorem zo2 (xs ys:List Int)(i:Nat):st xs ys i ys.length=st xs ys (i+1) 0:=by
 unfold st
 exact Xi fun k _=>zlQ xs ys i k
theorem znl {xs ys:List Int}{i j:Nat}{x y:Int}(hx:xs[i]?=some x)(hy:ys[j]?=some y):(st xs ys i j).set (i+j) (part xs ys i j (i+j)+x*y)=st xs ys i (j+1):=by
 have hi:i<xs.length:=(X4.mp hx).1
 have hj:j<ys.length:=(X4.mp hy).1
 apply SX
 intro k
 rw[List.getElem?_set]
 by_cases c:k<xs.length+ys.length-1
 ·rw[zh3 c,zh3 c]
  by_cases e:i+j=k
  ·subst e
   rw[if_pos rfl,if_pos (by rw[zh2];exact c)]
   congr 1
   unfold part
   rw[if_neg (by lia),if_pos (by lia),Sg,znj hx,Rp,znj hy]
  ·rw[if_neg e]
   congr 1
   unfold part
   congr 1
   by_cases d:i<=k/\k-i<j
   ·rw[if_pos d,if_pos (by lia)]
   ·rw[if_neg d,if_neg (by lia)]
 ·have n1:∀j',(st xs ys i j')[k]?=none:=fun j'=>SM (by rw[zh2];lia)
  rw[n1,n1]
  by_cases e:i+j=k
  ·lia
  ·rw[if_neg e]
theorem zo3 (xs ys:List Int):st xs ys xs.length 0=ZF xs ys:=by
 unfold st ZF
 refine Xi fun k _=>?_
 unfold part
 rw[if_neg (by lia),Sg]
end Pour
namespace Choose
noncomputable def ch:Nat->Nat->Nat
 | _,0=>1
 | 0,_+1=>0
 | n+1,k+1=>ch n k+ch n (k+1)
theorem QX (n:Nat):ch n 0=1:=by cases n<;>rfl
theorem zbE:∀(n k:Nat),n<k->ch n k=0
 | 0,0,h=>absurd h (by lia)
 | 0,k+1,_=>rfl
 | n+1,0,h=>absurd h (by lia)
 | n+1,k+1,h=>by
  show ch n k+ch n (k+1)=0
  rw[zbE n k (by lia),zbE n (k+1) (by lia)]
theorem zcw:∀n k:Nat,(k+1)*ch n (k+1)+k*ch n k=n*ch n k
 | 0,0=>rfl
 | 0,k+1=>by
  show (k+1+1)*0+(k+1)*0=0*0
  simp
 | n+1,0=>by
  have h:=zcw n 0
  rw[QX] at h ⊢
  show (0+1)*(ch n 0+ch n (0+1))+0*1=(n+1)*1
  rw[QX]
  lia
 | n+1,j+1=>by
  have h1:=zcw n (j+1)
  have h2:=zcw n j
  show (j+1+1)*(ch n (j+1)+ch n (j+1+1))+(j+1)*(ch n j+ch n (j+1))=(n+1)*(ch n j+ch n (j+1))
  generalize ch n (j+1+1)=C2 at *
  generalize ch n (j+1)=C1 at *
  generalize ch n j=C0 at *
  simp only[Nat.add_mul,Nat.mul_add,Nat.one_mul] at *
  lia
theorem znm {n k:Nat}(h:k<n):(ch n k:Int)*((n:Int)-k)/((k:Int)+1)=ch n (k+1):=by
 have e:=zcw n k
 have e2:(ch n k:Int)*((n:Int)-k)=(ch n (k+1):Int)*((k:Int)+1):=by
  have:((k+1)*ch n (k+1)+k*ch n k:Int)=(n*ch n k:Int):=by exact_mod_cast e
  rw[Int.mul_sub,Rf (ch n k:Int) n,<- this,Rf (ch n (k+1):Int) ((k:Int)+1),Rf (ch n k:Int) (k:Int)]
  lia
 rw[e2]
 exact Int.mul_ediv_cancel _ (by lia)
theorem zqb (n:Nat):∀k,ch n k<=2^n:=by
 induction n with
 | zero =>
  intro k
  cases k with
  | zero=>decide
  | succ k =>
   show (0:Nat)<=2^0
   decide
 | succ n ih =>
  intro k
  cases k with
  | zero =>
   rw[QX]
   exact Nat.one_le_two_pow
  | succ k =>
   show ch n k+ch n (k+1)<=2^(n+1)
   rw[VU]
   have:=ih k
   have:=ih (k+1)
   lia
end Choose
namespace Tally
open Subs
variable {α:Type}
theorem zaZ:∀(B:List α) (S0:List (List α)),B.foldl step S0=(subs B).flatMap fun b=>S0.map (·++b)
 | [],S0=>by simp[subs]
 | c::r,S0=>by
  have e:subs (c::r)=(subs r).flatMap fun b=>[b,c::b]:=by
   show r.foldl step (step [[]] c)=_
   rw[zaZ r]
   rfl
  show r.foldl step (step S0 c)=_
  rw[zaZ r,e,List.flatMap_assoc]
  congr 1
  funext b
  show (S0++S0.map (·++[c])).map (·++b)=S0.map (·++b)++(S0.map (·++(c::b))++[])
  rw[Xv,W4,WD]
  congr 1
  refine Xi fun x _=>?_
  show x++[c]++b=_
  rw[WZ]
  rfl
theorem zey (c:α)(r:List α):subs (c::r)=(subs r).flatMap fun b=>[b,c::b]:=by
 show r.foldl step (step [[]] c)=_
 rw[zaZ r]
 rfl
theorem za0 (A B:List α):subs (A++B)=(subs B).flatMap fun b=>(subs A).map (·++b):=by
 unfold subs
 rw[T4]
 exact zaZ B _
theorem zez (c:α)(p:List α->Bool):∀L:List (List α),(L.flatMap fun b=>[b,c::b]).countP p=L.countP p+L.countP fun S=>p (c::S)
 | []=>rfl
 | b::L=>by
  have ih:=zez c p L
  rw[List.flatMap_cons,Vn,ih,WH (l:=L),WH (l:=L),WH,WH,PY]
  lia
theorem count_cons (c:α)(r:List α)(p:List α->Bool):(subs (c::r)).countP p=(subs r).countP p+(subs r).countP fun S=>p (c::S):=by
 rw[zey,zez]
def Inv (p:List α->Bool):Prop:=∀a b,a.Perm b->p a=p b
theorem Inv.cons {p:List α->Bool}(h:Inv p)(c:α):Inv fun S=>p (c::S):=fun _ _ e=>h _ _ (e.cons c)
theorem zh4 {cs ds:List α}(e:cs.Perm ds):∀{p:List α->Bool},Inv p->(subs cs).countP p=(subs ds).countP p:=by
 induction e with
 | nil=>intro p _;rfl
 | cons c _ ih =>
  intro p h
  rw[count_cons,count_cons,ih h,ih (h.cons c)]
 | swap x y l =>
  intro p h
  rw[count_cons,count_cons,count_cons,count_cons,count_cons,count_cons]
  have:(subs l).countP (fun S=>p (y::x::S))=(subs l).countP fun S=>p (x::y::S):=Vf fun S _=>by rw[h _ _ (List.Perm.swap x y S)]
  lia
 | trans _ _ i1 i2 =>
  intro p h
  exact(i1 h).trans (i2 h)
noncomputable def T (cs:List α)(p:List α->Bool)(k:Nat):Nat:=(subs cs).countP fun S=>decide (S.length=k)&&p S
theorem zc0 {cs ds:List α}(e:cs.Perm ds){p:List α->Bool}(h:Inv p)(k:Nat):T cs p k=T ds p k:=zh4 e fun a b e=>by rw[h a b e,e.length_eq]
theorem znn {cs:List α}{p q:List α->Bool}(h:∀S∈subs cs,p S=q S)(k:Nat):T cs p k=T cs q k:=Vf fun S hS=>by rw[h S hS]
theorem zn4 (f g:Nat->Int):∀n,Pour.S (fun i=>f i+g i) n=Pour.S f n+Pour.S g n
 | 0=>rfl
 | n+1=>by
  show Pour.S (fun i=>f i+g i) n+(f n+g n)=Pour.S f n+f n+(Pour.S g n+g n)
  rw[zn4 f g n]
  lia
theorem zlR:∀n,Pour.S (fun _=>0) n=0
 | 0=>rfl
 | n+1=>by
  show Pour.S (fun _=>0) n+0=0
  rw[zlR n]
  rfl
theorem zgF (j:Nat)(x:Int):∀n,Pour.S (fun i=>if i=j then x else 0) n=if j<n then x else 0
 | 0=>rfl
 | n+1=>by
  show Pour.S (fun i=>if i=j then x else 0) n+(if n=j then x else 0)=_
  rw[zgF j x n]
  by_cases h:n=j
  ·rw[if_neg (by lia),if_pos h,if_pos (by lia),Wi]
  ·rw[if_neg h,Sg]
   by_cases h2:j<n
   ·rw[if_pos h2,if_pos (by lia)]
   ·rw[if_neg h2,if_neg (by lia)]
theorem zgG (q:List α->Bool)(f:Nat->Nat)(k:Nat):∀L:List (List α),(((L.map fun b=>if (q b&&decide (b.length<=k))=true then f (k-b.length) else 0).sum:Nat):Int)=Pour.S (fun i=>(f i:Int)*((L.countP fun b=>decide (b.length=k-i)&&q b:Nat):Int)) (k+1):=by
 intro L
 induction L with
 | nil =>
  have:Pour.S (fun i=>(f i:Int)*((([]:List (List α)).countP fun b=>decide (b.length=k-i)&&q b:Nat):Int)) (k+1)=Pour.S (fun _=>0) (k+1):=Pour.Zq _ fun i _=>by
   show (f i:Int)*0=0
   lia
  rw[this,zlR]
  rfl
 | cons b L ih =>
  rw[Xb,O3,UV,ih]
  have e:Pour.S (fun i=>(f i:Int)*(((b::L).countP fun b=>decide (b.length=k-i)&&q b:Nat):Int)) (k+1)=Pour.S (fun i=>(f i:Int)*((L.countP fun b=>decide (b.length=k-i)&&q b:Nat):Int)+if i=k-b.length then (if (q b&&decide (b.length<=k))=true then (f (k-b.length):Int) else 0) else 0) (k+1):=Pour.Zq _ fun i hi=>by
   rw[WH]
   by_cases hq:q b=true
   ·by_cases hb:b.length<=k
    ·by_cases hik:i=k-b.length
     ·have h1:b.length=k-i:=by lia
      have h2:k-i<=k:=by lia
      simp only[hq,h1,h2,decide_true,TH,if_true,if_pos hik]
      rw[show k-(k-i)=i by lia,if_pos rfl,UV,OI]
      lia
     ·have h1:¬b.length=k-i:=by lia
      simp only[hq,h1,decide_false,TH,if_neg hik]
      simp
    ·have h1:¬b.length=k-i:=by lia
     simp[hq,h1,hb]
   ·have hq':q b=false:=Xc.mpr hq
    simp[hq']
  rw[e,zn4,zgF,if_pos (show k-b.length<k+1 by lia),Int.add_comm]
  congr 1
  split<;>rfl
theorem zlS {A B:List α}{P pA pB:List α->Bool}(h:∀a∈subs A,∀b∈subs B,P (a++b)=(pA a&&pB b))(k:Nat):(T (A++B) P k:Int)=Pour.S (fun i=>(T A pA i:Int)*(T B pB (k-i):Int)) (k+1):=by
 unfold T
 rw[za0,List.countP_flatMap]
 have e:(subs B).map (Sx (fun S=>decide (S.length=k)&&P S)∘fun b=>(subs A).map (·++b))=(subs B).map fun b=>if (pB b&&decide (b.length<=k))=true then (T A pA) (k-b.length) else 0:=by
  refine Xi fun b hb=>?_
  show Sx _ ((subs A).map (·++b))=_
  rw[Ue]
  by_cases hq:(pB b&&decide (b.length<=k))=true
  ·rw[if_pos hq]
   obtain⟨h1,h2⟩:=Wb.mp hq
   have h2:=of_decide_eq_true h2
   refine Vf fun a ha=>?_
   show (decide ((a++b).length=k)&&P (a++b))=true↔(decide (a.length=k-b.length)&&pA a)=true
   rw[h a ha b hb,h1,TH,XZ,show (decide (a.length+b.length=k))=decide (a.length=k-b.length) from decide_eq_decide.mpr (by lia)]
  ·rw[if_neg hq]
   refine U9.mpr fun a ha hh=>hq ?_
   have hh:(decide ((a++b).length=k)&&P (a++b))=true:=hh
   rw[h a ha b hb] at hh
   obtain⟨h1,h2⟩:=Wb.mp hh
   have h1:=of_decide_eq_true h1
   rw[XZ] at h1
   rw[(Wb.mp h2).2,decide_eq_true (by lia)]
   rfl
 rw[e,zgG]
 rfl
theorem xx {cs S:List α}(h:S∈subs cs):S.Sublist cs:=by
 revert S
 induction cs with
 | nil=>intro S h;simp[subs] at h;subst h;exact List.Sublist.refl _
 | cons c r ih =>
  intro S h
  rw[zey] at h
  obtain⟨b,hb,h⟩:=SJ.mp h
  have:=ih hb
  simp at h
  rcases h with rfl | rfl
  ·exact this.cons c
  ·exact this.cons_cons c
theorem zc1 {cs:List α}{p:List α->Bool}{k:Nat}(h:cs.length<k):T cs p k=0:=by
 refine U9.mpr fun S hS hh=>?_
 have h1:=of_decide_eq_true (Wb.mp hh).1
 have h2:=(xx hS).length_le
 lia
noncomputable def tl (cs:List α)(p:List α->Bool):List Int:=(W9 (cs.length+1)).map fun k=>(T cs p k:Int)
theorem jZ (cs:List α)(p:List α->Bool):(tl cs p).length=cs.length+1:=by
 unfold tl
 rw[ZB,WL]
theorem zkr (cs:List α)(p:List α->Bool)(i:Nat):Pour.F (tl cs p) i=(T cs p i:Int):=by
 by_cases h:i<cs.length+1
 ·refine Pour.znj ?_
  unfold tl
  rw[XE,UE h]
  rfl
 ·rw[Pour.zcZ (by rw[jZ];lia),zc1 (by lia)]
  rfl
theorem zno {A B:List α}{P pA pB:List α->Bool}(h:∀a∈subs A,∀b∈subs B,P (a++b)=(pA a&&pB b)):Pour.ZF (tl A pA) (tl B pB)=tl (A++B) P:=by
 unfold Pour.ZF
 rw[jZ,jZ]
 show _=(W9 ((A++B).length+1)).map fun k=>(T (A++B) P k:Int)
 rw[XZ,show A.length+1+(B.length+1)-1=A.length+B.length+1 by lia]
 refine Xi fun k _=>?_
 have e:=Pour.zo1 (tl A pA) (tl B pB) k
 rw[jZ] at e
 rw[e,zlS h]
 exact Pour.Zq _ fun i _=>by rw[zkr,zkr]
theorem znp {cs ds:List α}(e:cs.Perm ds){p:List α->Bool}(h:Inv p):tl cs p=tl ds p:=by
 unfold tl
 rw[e.length_eq]
 refine Xi fun k _=>by rw[zc0 e h]
theorem zgH {cs:List α}{p q:List α->Bool}(h:∀S∈subs cs,p S=q S):tl cs p=tl cs q:=by
 unfold tl
 refine Xi fun k _=>by rw[znn h]
theorem zgI:∀(cs:List α) (k:Nat),T cs (fun _=>true) k=Choose.ch cs.length k
 | [],0=>rfl
 | [],k+1=>rfl
 | c::r,0=>by
  have e:=zgI r 0
  unfold T at e ⊢
  rw[count_cons,e,Choose.QX,Choose.QX]
  have:(subs r).countP (fun S=>decide ((c::S).length=0)&&true)=0:=U9.mpr fun S _ hh=>by simp at hh
  rw[this]
 | c::r,k+1=>by
  have e1:=zgI r k
  have e2:=zgI r (k+1)
  unfold T at e1 e2 ⊢
  rw[count_cons,e2]
  have:(subs r).countP (fun S=>decide ((c::S).length=k+1)&&true)=(subs r).countP fun S=>decide (S.length=k)&&true:=Vf fun S _=>by
   rw[Xw,show decide (S.length+1=k+1)=decide (S.length=k) from decide_eq_decide.mpr (by lia)]
  rw[this,e1]
  show _=Choose.ch r.length k+Choose.ch r.length (k+1)
  lia
theorem zo4 [DecidableEq α]{cs:List α}{c:α}(hc:c∈cs)(nd:cs.Nodup)(k:Nat):T cs (fun S=>decide (c∈S)) k=if k=0 then 0 else Choose.ch (cs.length-1) (k-1):=by
 have hp:cs.Perm (c::cs.erase c):=List.perm_cons_erase hc
 have hn:c ∉ cs.erase c:=fun h=>by
  have:=hp.nodup_iff.mp nd
  exact(VM.mp this).1 h
 rw[zc0 hp (fun a b e=>decide_eq_decide.mpr e.mem_iff)]
 unfold T
 rw[count_cons]
 have z:(subs (cs.erase c)).countP (fun S=>decide (S.length=k)&&decide (c∈S))=0:=U9.mpr fun S hS hh=>by
  have h1:=of_decide_eq_true (Wb.mp hh).2
  exact hn ((xx hS).subset h1)
 rw[z,V9]
 have el:(cs.erase c).length=cs.length-1:=by rw[List.length_erase,if_pos hc]
 cases k with
 | zero =>
  rw[if_pos rfl]
  exact U9.mpr fun S _ hh=>by simp at hh
 | succ k =>
  rw[if_neg (by lia),<- el,R3,<- zgI]
  unfold T
  refine Vf fun S _=>?_
  rw[Xw,show decide (S.length+1=k+1)=decide (S.length=k) from decide_eq_decide.mpr (by lia)]
  show (_&&decide (c∈c::S))=true↔_
  rw[decide_eq_true XR]
variable {α:Type}
structure Loc (U:List α)(p:List α->Bool)(g:List α):Prop where
 l:∀a b,(∀c∈a,c∈U/\c ∉ g)->p (a++b)=p b
 r:∀a b,(∀c∈b,c∈U/\c ∉ g)->p (a++b)=p a
def yc (fit:List α->List α->Bool)(gs:List (List α))(S:List α):Bool:=gs.all fun g=>fit g S
theorem zc2 (fit:List α->List α->Bool)(as bs:List (List α))(S:List α):yc fit (as++bs) S=(yc fit as S&&yc fit bs S):=List.all_append
theorem zh5 {fit:List α->List α->Bool}{gs:List (List α)}{S S':List α}(h:∀g∈gs,fit g S=fit g S'):yc fit gs S=yc fit gs S':=by
 unfold yc
 induction gs with
 | nil=>rfl
 | cons g r ih =>
  rw[O2,O2,h g XR,ih fun x hx=>h x (XT _ hx)]
theorem zc3 {U:List α}{fit:List α->List α->Bool}{done:List (List α)}{g:List α}{q:List α->Bool}(nd:(done.flatten++g).Nodup)(hU:∀c∈done.flatten++g,c∈U)(hd:∀x∈done,Loc U (fit x) x)(hg:Loc U q g) :
  Pour.ZF (tl done.flatten (yc fit done)) (tl g q)=tl (done.flatten++g) fun S=>yc fit done S&&q S:=by
 obtain⟨_,_,n3⟩:=Wp.mp nd
 refine zno fun a ha b hb=>?_
 have sa:=(xx ha).subset
 have sb:=(xx hb).subset
 rw[hg.l a b fun c hc=>⟨hU c (W1 _ (sa hc)),fun h=>n3 c (sa hc) c h rfl⟩]
 congr 1
 exact zh5 fun x hx=>(hd x hx).r a b fun c hc=>⟨hU c (Xs _ (sb hc)),fun h=>n3 c (WA.mpr ⟨x,hx,h⟩) c (sb hc) rfl⟩
theorem znq {U:List α}{fit:List α->List α->Bool}:∀(gs done:List (List α)),(done++gs).flatten.Nodup->(∀c∈(done++gs).flatten,c∈U)->(∀g∈done++gs,Loc U (fit g) g)->(gs.map fun g=>tl g (fit g)).foldl Pour.ZF (tl done.flatten (yc fit done))=tl (done++gs).flatten (yc fit (done++gs)):=by
 intro gs
 induction gs with
 | nil =>
  intro done _ _ _
  rw[W4]
  rfl
 | cons g r ih =>
  intro done nd hU hL
  have e:done++g::r=(done++[g])++r:=by rw[WZ];rfl
  rw[e] at nd hU hL ⊢
  have e2:(done++[g]).flatten=done.flatten++g:=by rw[Wv];simp
  have nd2:(done.flatten++g).Nodup:=by
   rw[Wv,e2] at nd
   exact(Wp.mp nd).1
  have ih:=ih (done++[g]) nd hU hL
  rw[<- ih,Xb,Wy,e2]
  congr 1
  rw[zc3 nd2 (fun c hc=>hU c (by rw[Wv,e2];exact W1 _ hc)) (fun x hx=>hL x (by simp[hx])) (hL g (by simp))]
  refine zgH fun S _=>?_
  rw[zc2]
  congr 1
  show fit g S=(fit g S&&true)
  rw[TH]
theorem zh6 {U:List α}{fit:List α->List α->Bool}{gs:List (List α)}(nd:gs.flatten.Nodup)(hU:∀c∈gs.flatten,c∈U)(hL:∀g∈gs,Loc U (fit g) g):(gs.map fun g=>tl g (fit g)).foldl Pour.ZF [1]=tl gs.flatten (yc fit gs):=znq gs [] nd hU hL
def chZ (n:Nat)(k:Int):Int:=if k<0 then 0 else (Choose.ch n k.toNat:Nat)
def dl (xs:List Int)(m:Nat)(s:Int):Int:=Pour.S (fun k=>Pour.F xs k*chZ m (s-(k:Nat))) xs.length
theorem zlT (g:Nat->Int){a b:Nat}(ha:∀i,a<=i->g i=0)(hb:∀i,b<=i->g i=0):Pour.S g a=Pour.S g b:=by
 by_cases h:a<=b
 ·exact(Pour.znk h fun i h1 _=>ha i h1).symm
 ·exact Pour.znk (by lia) fun i h1 _=>hb i h1
theorem zn5 {A far:List α}{P pA:List α->Bool}(h:∀a∈subs A,∀b∈subs far,P (a++b)=pA a)(s:Nat):dl (tl A pA) far.length (s:Nat)=(T (A++far) P s:Int):=by
 rw[zlS (pB:=fun _=>true) (fun a ha b hb=>by rw[h a ha b hb,TH]) s]
 unfold dl
 rw[jZ]
 rw[zlT (fun k=>Pour.F (tl A pA) k*chZ far.length ((s:Int)-(k:Nat))) (a:=A.length+1) (b:=s+1) (fun i hi=>by rw[zkr,zc1 (by lia)];simp) (fun i hi=>by
  unfold chZ
  rw[if_pos (by lia),ON])]
 refine Pour.Zq _ fun i hi=>?_
 show Pour.F (tl A pA) i*chZ far.length ((s:Int)-(i:Nat))=_
 rw[zkr,zgI]
 unfold chZ
 rw[if_neg (by lia),show ((s:Int)-(i:Nat)).toNat=s-i by lia]
theorem znr [DecidableEq α]{A far:List α}{P pA:List α->Bool}{c:α}(hc:c∈far)(nd:far.Nodup)(h:∀a∈subs A,∀b∈subs far,P (a++b)=(pA a&&decide (c∈b)))(s:Nat):dl (tl A pA) (far.length-1) ((s:Nat)-1)=(T (A++far) P s:Int):=by
 rw[zlS h s]
 unfold dl
 rw[jZ]
 rw[zlT (fun k=>Pour.F (tl A pA) k*chZ (far.length-1) ((s:Int)-1-(k:Nat))) (a:=A.length+1) (b:=s+1) (fun i hi=>by rw[zkr,zc1 (by lia)];simp) (fun i hi=>by
  unfold chZ
  rw[if_pos (by lia),ON])]
 refine Pour.Zq _ fun i hi=>?_
 show Pour.F (tl A pA) i*chZ (far.length-1) ((s:Int)-1-(i:Nat))=_
 rw[zkr,zo4 hc nd]
 unfold chZ
 by_cases e:s-i=0
 ·rw[if_pos (by lia),if_pos e]
  rfl
 ·rw[if_neg (by lia),if_neg e,show ((s:Int)-1-(i:Nat)).toNat=s-i-1 by lia]
theorem zcx {cs:List α}{p:List α->Bool}(h:∀S∈subs cs,p S=false)(k:Nat):T cs p k=0:=U9.mpr fun S hS hh=>by
 rw[h S hS,Bool.and_false] at hh
 cases hh
theorem zjv (cs:List α)(p:List α->Bool):Cnt.xg cs.length ((subs cs).filter p)=tl cs p:=by
 unfold Cnt.xg tl T
 refine Xi fun k _=>?_
 rw[To]
theorem zgJ {β:Type}(g:Nat)(f:List α->List β)(hf:∀k,(f k).length=k.length)(ks:List (List α)):Cnt.xg g (ks.map f)=Cnt.xg g ks:=by
 unfold Cnt.xg
 refine Xi fun n _=>?_
 rw[Ue]
 congr 1
 refine Vf fun k _=>?_
 show decide ((f k).length=n)=true↔_
 rw[hf]
variable {α β:Type}
end Tally
namespace K90
open PySem L2
abbrev top (i:Nat):Stmt:=zcC.top i
abbrev J5:Stmt:=top 6
abbrev qt:Stmt:=top 7
abbrev jD:Stmt:=top 8
abbrev jr:Stmt:=top 9
abbrev qy:Stmt:=top 10
abbrev qF:Stmt:=top 11
abbrev zcy:Stmt:=top 13
abbrev Z3:Stmt:=top 14
abbrev zgK:Stmt:=top 15
abbrev jP:Stmt:=top 16
abbrev yt:Stmt:=top 17
abbrev qV:Stmt:=top 18
abbrev qM:Stmt:=top 21
abbrev yM:Stmt:=top 22
abbrev xH:Stmt:=top 23
abbrev xY:Stmt:=top 24
abbrev JR:Stmt:=top 25
abbrev xy:Stmt:=top 26
abbrev QY:Stmt:=top 28
abbrev za1:Stmt:=top 29
abbrev yE:Stmt:=top 31
abbrev zcz:Stmt:=top 32
abbrev YE:Stmt:=top 33
abbrev jc:Stmt:=top 34
abbrev JH:Stmt:=top 35
abbrev za2:Stmt:=top 36
abbrev Z4:Stmt:=top 39
abbrev jE:Stmt:=top 40
abbrev jF:Stmt:=top 41
abbrev YF:Stmt:=top 42
abbrev jX:Stmt:=top 44
abbrev Zr:Stmt:=top 45
abbrev xJ:Stmt:=top 46
abbrev Jc:Stmt:=top 47
abbrev yd:Stmt:=top 48
abbrev xK:Stmt:=top 49
abbrev xM:Stmt:=top 50
abbrev Zs:Stmt:=top 51
abbrev Jd:Stmt:=top 52
abbrev yu:Stmt:=top 53
abbrev YG:Stmt:=top 54
abbrev J6:Stmt:=top 55
abbrev Zt:Stmt:=top 56
abbrev Z5:Stmt:=top 57
abbrev jt:Stmt:=top 58
abbrev yU:Stmt:=top 59
abbrev zgL:Stmt:=top 60
structure Txt (mg:Str->Option X9):Prop where
 zqc:mg "all"=none
 zlU:mg "any"=none
 zo5:mg "bool"=none
 zlV:mg "dict"=none
 ye:mg "enumerate"=none
 zc4:mg "int"=none
 YH:mg "isinstance"=none
 qN:mg "len"=none
 zfm:mg "list"=none
 zgM:mg "max"=none
 zgN:mg "min"=none
 ji:mg "range"=none
 zqd:mg "set"=none
 za3:mg "sorted"=none
 zqe:mg "str"=none
 zn6:mg "sum"=none
 zqf:mg "zip"=none
 ZG:∃t,mg "CLOSED_SIGN"=some (.str "?" t)
 zdP:∃t,mg "MOST_CLOSED"=some (.int 12 t)
 zc5:∃t,mg "MOST_OF_PART"=some (.int 14 t)
 Qu:∃t,mg "NO_CELL_SIGN"=some (.str "#" t)
structure Prog (K:X8)(mg:Str->Option X9):Prop where
 closed:∃(f:Addr) (fd:XO),zk K mg "closed" J5 ["board"] f fd
 open_cells:∃(f:Addr) (fd:XO),zk K mg "open_cells" qt ["board"] f fd
 around:∃(f:Addr) (fd:XO),zk K mg "around" jD ["board","cell"] f fd
 number_at:∃(f:Addr) (fd:XO),zk K mg "number_at" jr ["board","cell"] f fd
 cells_of:∃(f:Addr) (fd:XO),zk K mg "cells_of" qy ["board"] f fd
 sign_at:∃(f:Addr) (fd:XO),zk K mg "sign_at" qF ["board","cell"] f fd
 parts:∃(f:Addr) (fd:XO),zk K mg "parts" zcy ["board"] f fd
 joined:∃(f:Addr) (fd:XO),zk K mg "joined" Z3 ["groups","cells"] f fd
 far:∃(f:Addr) (fd:XO),zk K mg "far" zgK ["board"] f fd
 numbers_of:∃(f:Addr) (fd:XO),zk K mg "numbers_of" jP ["board","part"] f fd
 bare_wrong:∃(f:Addr) (fd:XO),zk K mg "bare_wrong" yt ["board"] f fd
 closed_around:∃(f:Addr) (fd:XO),zk K mg "closed_around" qV ["board","cell"] f fd
 part_layings:∃(f:Addr) (fd:XO),zk K mg "part_layings" qM ["board","part"] f fd
 needs_at:∃(f:Addr) (fd:XO),zk K mg "needs_at" yM ["told","cell","rest"] f fd
 may_fit:∃(f:Addr) (fd:XO),zk K mg "may_fit" xH ["needs","pick"] f fd
 part_counts:∃(f:Addr) (fd:XO),zk K mg "part_counts" xY ["board","part"] f fd
 counted:∃(f:Addr) (fd:XO),zk K mg "counted" JR ["found","greatest"] f fd
 counted_at:∃(f:Addr) (fd:XO),zk K mg "counted_at" xy ["found","greatest","cell"] f fd
 choices:∃(f:Addr) (fd:XO),zk K mg "choices" QY ["n","k"] f fd
 poured:∃(f:Addr) (fd:XO),zk K mg "poured" za1 ["one","other"] f fd
 near_counts:∃(f:Addr) (fd:XO),zk K mg "near_counts" yE ["board"] f fd
 count:∃(f:Addr) (fd:XO),zk K mg "count" zcz ["board"] f fd
 count_at:∃(f:Addr) (fd:XO),zk K mg "count_at" YE ["board","cell"] f fd
 counts_by_cell:∃(f:Addr) (fd:XO),zk K mg "counts_by_cell" jc ["board"] f fd
 all_poured:∃(f:Addr) (fd:XO),zk K mg "all_poured" JH ["lists"] f fd
 dealt:∃(f:Addr) (fd:XO),zk K mg "dealt" za2 ["counts","cells","stones"] f fd
 layings:∃(f:Addr) (fd:XO),zk K mg "layings" Z4 ["board"] f fd
 numbers_told:∃(f:Addr) (fd:XO),zk K mg "numbers_told" jE ["board"] f fd
 wrong_number:∃(f:Addr) (fd:XO),zk K mg "wrong_number" jF ["told","cells"] f fd
 picks:∃(f:Addr) (fd:XO),zk K mg "picks" YF ["cells","size"] f fd
 law_cell_at:∃(f:Addr) (fd:XO),zk K mg "_law_cell_at" jX ["_law_script","_law_k"] f fd
 law_whole:∃(f:Addr) (fd:XO),zk K mg "_law_whole" Zr ["_law_found"] f fd
 law_sign:∃(f:Addr) (fd:XO),zk K mg "_law_sign" xJ ["_law_way","_law_cell","_law_turn"] f fd
 law_signs:∃(f:Addr) (fd:XO),zk K mg "_law_signs" Jc ["_law_script","_law_places","_law_most"] f fd
 law_near:∃(f:Addr) (fd:XO),zk K mg "_law_near" yd ["_law_cell","_law_high","_law_wide"] f fd
 law_rows:∃(f:Addr) (fd:XO),zk K mg "_law_rows" xK ["_law_signs_here","_law_high","_law_wide"] f fd
 law_bent:∃(f:Addr) (fd:XO),zk K mg "_law_bent" xM ["_law_rows_here","_law_cell"] f fd
 law_board:∃(f:Addr) (fd:XO),zk K mg "_law_board" Zs ["_law_script","_law_high","_law_wide","_law_most"] f fd
 law_cells:∃(f:Addr) (fd:XO),zk K mg "_law_cells" Jd ["_law_rows_here","_law_signs_here"] f fd
 law_around:∃(f:Addr) (fd:XO),zk K mg "_law_around" yu ["_law_rows_here","_law_cell"] f fd
 law_ones:∃(f:Addr) (fd:XO),zk K mg "_law_ones" YG ["_law_many"] f fd
 law_mask:∃(f:Addr) (fd:XO),zk K mg "_law_mask" J6 ["_law_rows_here","_law_cells_here","_law_cell"] f fd
 law_masks:∃(f:Addr) (fd:XO),zk K mg "_law_masks" Zt ["_law_rows_here","_law_cells_here"] f fd
 law_fit:∃(f:Addr) (fd:XO),zk K mg "_law_fit" Z5 ["_law_masks_here","_law_many"] f fd
 law_near_counts:∃(f:Addr) (fd:XO),zk K mg "_law_near_counts" jt ["_law_rows_here","_law_cells_here"] f fd
 law_right:∃(f:Addr) (fd:XO),zk K mg "_law_right" yU ["_law_board_here","_law_cells_here","_law_fits"] f fd
def zfn (K:X8):Sp:=fun vs H Q _=>∃(a:Addr) (ns:List Int) (k:Int),vs=[.ref a,.int k]/\SqL K H a (ns.map V.int)/\0<=k/\∀z:Int,Q (.int z) H
structure Row (signs:List Nat)(n:Nat)(t:Str):Prop where
 len:t.cps.size=n
 mem:∀c∈t.cps.toList,c∈signs
structure Rows (signs:List Nat)(rs:List Str):Prop where
 lo:1<=rs.length
 hi:rs.length<=8
 ex:∃n,1<=n/\n<=8/\∀t∈rs,Row signs n t
noncomputable def bd:Str:="?012345678#"
section
variable {P:Xy}{w:W6}{K:X8}{mg:Str->Option X9}{base:Heap}{f:Addr}{fd:XO}
theorem zc6:zQ ["_law_script","_law_k"] ["_law_script","_law_k"] (zg jX):=⟨rfl,rfl,rfl,by decide +kernel,rfl,by decide +kernel,by decide +kernel⟩
theorem J7 (T:Txt mg)(D:zk K mg "_law_cell_at" jX ["_law_script","_law_k"] f fd):zI P w K mg base CX0 1 f fd ["_law_script","_law_k"] (zfn K):=by
 refine D.F.ok zc6 (fun vs H Q E h=>?_) (fun cdv A outer s H vs Q E hr h=>?_)
 ·obtain⟨a,ns,i,rfl,_⟩:=h
  rfl
 ·obtain⟨a,ns,i,rfl,hS,hi,k⟩:=h
  refine⟨_,(zd (jA (zP zk1 (pv 1) (zz zE (by rfl) T.qN Xh (za (pv 0) zb)) (z9 _)) (zh (zO (zZ qS (pv 0) (pv 1) (fun _ _=>rfl)))) qp)
   (zh (zO zf))),?_⟩
  refine⟨_,rfl,_,rfl,a,_,rfl,.inl hS,_,_,rfl,rfl,_,rfl,?_⟩
  refine zcf (fun c=>?_) (fun c=>?_)
  ·have c':i<((ns.map V.int).length:Nat):=of_decide_eq_true c
   rw[ZB] at c'
   have hl:i.toNat<ns.length:=by lia
   refine⟨_,rfl,_,rfl,a,_,i,.int ns[i.toNat],rfl,rfl,hS,jx hi (by rw[XE,X7 hl];rfl),?_⟩
   exact k _
  ·exact k 0
end
structure qj (H:Hp)(p l:Addr)(rs:List Str)(n:Int):Prop where
 tp:H p=some (.tup [.ref l,.int n])
 rw:H l=some (.lst (rs.map V.str))
theorem zlW:∀c∈bd.cps.toList,c<1114112:=by decide +kernel
theorem zns {n:Nat}{t:Str}(r:Row bd.cps.toList n t):Vh (.str t)=true:=by
 show t.cps.all (· < 0x110000)=true
 rw[Array.all_eq_true']
 intro c hc
 exact decide_eq_true (zlW c (r.mem c (Ps.mpr hc)))
theorem zgO {rs:List Str}{n:Nat}(h:∀t∈rs,Row bd.cps.toList n t):Wd (rs.map UO)=true:=by
 induction rs with
 | nil=>rfl
 | cons t r ih =>
  show (Vh (.str t)&&Wd (r.map UO))=true
  rw[zns (h t XR),ih fun u hu=>h u (XT _ hu)]
  rfl
theorem zc7 (rs:List Str):Wg (rs.map UO)=0:=by
 induction rs with
 | nil=>rfl
 | cons t r ih =>
  show max (PyData.depth (.str t)) (Wg (r.map UO))=0
  rw[ih]
  rfl
theorem Rows.cmp {rs:List Str}(R:Rows bd.cps.toList rs):zhJ (.list (rs.map UO)) (.list (rs.map UO)):=by
 obtain⟨n,_,_,h⟩:=R.ex
 refine⟨zgO h,zgO h,?_⟩
 show Wg (rs.map UO)+1<=64
 rw[zc7]
 decide
noncomputable def bData (rs:List Str)(n:Int):Wm:=.tuple [.list (rs.map UO),.int n]
theorem Rows.cmpB {rs:List Str}(R:Rows bd.cps.toList rs)(n:Int):zhJ (bData rs n) (bData rs n):=by
 have c:=R.cmp
 have h1:Vh (bData rs n)=true:=by
  show (Vh (.list (rs.map UO))&&(Vh (.int n)&&true))=true
  rw[c.l1]
  rfl
 refine⟨h1,h1,?_⟩
 show max (Wg (rs.map UO)+1) (max 0 0)+1<=64
 rw[zc7]
 decide
theorem qj.rdv {K:X8}{H:Hp}{p l:Addr}{rs:List Str}{n:Int}(b:qj H p l rs n):Rdv K H (.ref p) (bData rs n):=.tup (SqT.of b.tp) (.cons (.lst (SqL.of b.rw) (zf7 rs)) (.cons (.int n) .nil))
theorem qj.mono {H H':Hp}{p l:Addr}{rs:List Str}{n:Int}(b:qj H p l rs n)(s:zB H H'):qj H' p l rs n:=⟨s _ _ b.tp,s _ _ b.rw⟩
noncomputable def codes (rs:List Str):List (List Nat):=rs.map fun t=>t.cps.toList
theorem yw {rs:List Str}{i:Nat}{t:Str}(h:rs[i]?=some t):(codes rs)[i]?=some t.cps.toList:=by
 unfold codes
 rw[XE,h]
 rfl
theorem zbF {rs:List Str}{i:Nat}{u:List Nat}(h:(codes rs)[i]?=some u):∃t,rs[i]?=some t/\u=t.cps.toList:=by
 unfold codes at h
 rw[XE] at h
 cases e:rs[i]? with
 | none =>
  rw[e] at h
  cases h
 | some t =>
  rw[e] at h
  cases h
  exact⟨t,rfl,rfl⟩
theorem jG (rs:List Str):(codes rs).length=rs.length:=by
 unfold codes
 rw[ZB]
theorem Rows.short {s:List Nat}{rs:List Str}(R:Rows s rs):∀u∈codes rs,u.length<=8:=fun u hu=>by
 obtain⟨t,ht,rfl⟩:=Xj.mp hu
 obtain⟨n,_,h8,q⟩:=R.ex
 have:=(q t ht).len
 rw[X6]
 lia
theorem Rows.tlen {s:List Nat}{rs:List Str}{i:Nat}{t:Str}(R:Rows s rs)(h:rs[i]?=some t):t.length<=XU:=by
 obtain⟨n,_,h8,q⟩:=R.ex
 have e:t.length=n:=(q t (X2 h)).len
 rw[e]
 exact X0 h8 (by decide)
def JI (H:Hp)(v:V)(c:Nat×Nat):Prop:=∃a,v=V.ref a/\H a=some (.tup [.int (c.1:Nat),.int (c.2:Nat)])
def Cel (H:Hp):List V->List (Nat×Nat)->Prop:=W0 (JI H)
theorem Cel.mono {H H':Hp}(s:zB H H'){vs:List V}{cs:List (Nat×Nat)}(hp:Cel H vs cs):Cel H' vs cs:=by
 induction hp with
 | nil=>exact .nil
 | cons q _ ih =>
  obtain⟨a,e,h⟩:=q
  exact .cons ⟨a,e,s _ _ h⟩ ih
theorem Cel.snoc {H:Hp}{vs:List V}{cs:List (Nat×Nat)}{v:V}{c:Nat×Nat}(h:Cel H vs cs)(x:JI H v c):Cel H (vs++[v]) (cs++[c]):=Paired.snoc h x
theorem Cel.append {H:Hp}{vs ws:List V}{cs ds:List (Nat×Nat)}(h:Cel H vs cs)(k:Cel H ws ds):Cel H (vs++ws) (cs++ds):=zcM h k
theorem Cel.into {H:Hp}(z:Addr)(o:HO){old:List V}(hz:H z=some (.lst old)){vs:List V}{cs:List (Nat×Nat)}(hp:Cel H vs cs):Cel (upd H z o) vs cs:=by
 induction hp with
 | nil=>exact .nil
 | cons q _ ih =>
  obtain⟨a,e,h⟩:=q
  exact .cons ⟨a,e,by rw[zu (zfY h hz (by intro y;cases y))];exact h⟩ ih
theorem Cel.length {H:Hp}{vs:List V}{cs:List (Nat×Nat)}(h:Cel H vs cs):vs.length=cs.length:=Paired.length h
theorem Cel.get {H:Hp}:∀{vs:List V} {cs:List (Nat×Nat)} {i:Nat} {v:V},Cel H vs cs->vs[i]?=some v->∃c,cs[i]?=some c/\JI H v c
 | _,_,_,_,.nil,e=>by simp at e
 | _,_,0,_,.cons r _,e=>by
  simp at e
  subst e
  exact⟨_,rfl,r⟩
 | _,_,i+1,v,.cons _ t,e=>by
  obtain⟨c,h1,h2⟩:=Cel.get (i:=i) (v:=v) t (by simpa using e)
  exact⟨c,by simpa using h1,h2⟩
noncomputable def zx (c:Nat×Nat):Wm:=.tuple [.int (c.1:Nat),.int (c.2:Nat)]
theorem JI.rdv {K:X8}{H:Hp}{v:V}{c:Nat×Nat}(h:JI H v c):Rdv K H v (zx c):=by
 obtain⟨a,rfl,h⟩:=h
 exact .tup (SqT.of h) (.cons (.int _) (.cons (.int _) .nil))
theorem zeA (c d:Nat×Nat):zhJ (zx c) (zx d):=⟨rfl,rfl,by show max 0 (max 0 0)+1<=64;decide⟩
theorem zbG (c d:Nat×Nat):W2 (zx c) (zx d)=decide (c=d):=by
 obtain⟨a,b⟩:=c
 obtain⟨x,y⟩:=d
 show ((((a:Nat):Int)==((x:Nat):Int))&&((((b:Nat):Int)==((y:Nat):Int))&&true))=decide ((a,b)=(x,y))
 by_cases h1:a=x
 ·by_cases h2:b=y
  ·subst h1 h2
   simp
  ·have:¬ ((b:Int)=(y:Int)):=by lia
   simp[h2,this]
 ·have:¬ ((a:Int)=(x:Int)):=by lia
  simp[h1,this]
theorem zbH (c k:Nat):(V.str ⟨#[c]⟩=V.str ⟨#[k]⟩)=(c=k):=by
 apply propext
 constructor
 ·intro h
  have h2:(⟨#[c]⟩:Str)=⟨#[k]⟩:=V.str.inj h
  have h3:(#[c]:Array Nat)=#[k]:=congrArg Str.cps h2
  simpa using h3
 ·rintro rfl
  rfl
theorem QV:("#":Str)=⟨#[35]⟩:=by decide +kernel
theorem zh7:("?":Str)=⟨#[63]⟩:=by decide +kernel
def qi (c:Nat):Bool:=!decide (c=35)
def jV (c:Nat):Bool:=decide (c=63)
def Jt (c:Nat):Bool:=qi c && !decide (c=63)
def zc8:Sp:=fun vs H Q _=>∃(p l c:Addr) (rs:List Str) (n:Int) (i j:Nat) (t:Str) (k:Nat),vs=[.ref p,.ref c]/\qj H p l rs n/\H c=some (.tup [.int (i:Nat),.int (j:Nat)])/\rs[i]?=some t/\t.cps.toList[j]?=some k/\t.length<=XU/\Q (.str ⟨#[k]⟩) H
def xN (p:Nat->Bool):Sp:=fun vs H Q _=>∃(a l:Addr) (rs:List Str) (n:Int),vs=[.ref a]/\qj H a l rs n/\Rows bd.cps.toList rs /\
 ∀(d:Addr) (ws:List V) (H':Hp),H d=none->H' d=some (.lst ws)->Cel H' ws (Cells.zV p 0 (codes rs))->zB H H'->Q (.ref d) H'
def za4:Sp:=fun vs H Q _=>∃(p l c:Addr) (rs:List Str) (n:Int) (i j:Nat) (t:Str) (k:Nat),vs=[.ref p,.ref c]/\qj H p l rs n/\H c=some (.tup [.int (i:Nat),.int (j:Nat)])/\rs[i]?=some t/\t.cps.toList[j]?=some k/\t.length<=XU/\48<=k/\k<=56/\Q (.int ((k:Int)-48)) H
theorem int_sign {k:Nat}(h1:48<=k)(h2:k<=56):S8 ⟨#[k]⟩=some ((k:Int)-48):=by
 have:∀k∈W9 57,48<=k->S8 ⟨#[k]⟩=some ((k:Int)-48):=by decide +kernel
 exact this k (Wf.mpr (by lia)) h1
section
variable {P:Xy}{w:W6}{K:X8}{mg:Str->Option X9}{base:Heap}{f:Addr}{fd:XO}
theorem zh8:zQ ["board","cell"] ["board","cell"] (zg qF):=⟨rfl,rfl,rfl,by decide +kernel,rfl,by decide +kernel,by decide +kernel⟩
theorem YI (D:zk K mg "sign_at" qF ["board","cell"] f fd):zI P w K mg base CX0 1 f fd ["board","cell"] zc8:=by
 refine D.F.ok zh8 (fun vs H Q E h=>?_) (fun cdv A outer s H vs Q E hr h=>?_)
 ·obtain⟨p,l,c,rs,n,i,j,t,k,rfl,_⟩:=h
  rfl
 ·obtain⟨p,l,c,rs,n,i,j,t,k,rfl,b,hc,hi,hj,hl,q⟩:=h
  refine⟨_,(zh (zO (zZ ZC (zZ qS (zZ qU (pv 0) zf (fun _ _=>rfl)) (zZ qU (pv 1) zf (fun _ _=>rfl)) (fun _ _=>rfl)) (zZ qU (pv 1) zf (fun _ _=>rfl)) (fun _ _=>rfl)))),?_⟩
  exact⟨_,rfl,p,_,0,_,rfl,rfl,SqT.of b.tp,rfl,_,rfl,c,_,0,_,rfl,rfl,SqT.of hc,rfl,l,_,_,_,rfl,rfl,SqL.of b.rw,xX (v:=V.str t) (by rw[XE,hi];rfl),_,rfl,c,_,1,_,rfl,rfl,SqT.of hc,rfl,t,_,k,rfl,rfl,hl,xX hj,q⟩
theorem Zu:zQ ["board","found","row","text"] ["board"] (zg qy):=⟨rfl,rfl,rfl,by decide +kernel,rfl,by decide +kernel,by decide +kernel⟩
theorem zb5 (T:Txt mg)(D:zk K mg "cells_of" qy ["board"] f fd):zI P w K mg base CX0 1 f fd ["board"] (xN qi):=by
 refine D.F.ok Zu (fun vs H Q E h=>?_) (fun cdv A outer s H vs Q E hr h=>?_)
 ·obtain⟨a,l,rs,n,rfl,_⟩:=h
  rfl
 ·obtain⟨a,l,rs,n,rfl,b,R,q⟩:=h
  refine⟨_,(zd (zD (i:=1) Zu.nd rfl (XM rfl) (qu zb))
   (zd (qA Xd rfl (ZQ (by rfl) T.ye (za (zZ qU (pv 0) zf (fun _ _=>rfl)) zb)) (Jl rfl (zT (zm (i:=2) Zu.nd rfl (VF rfl)) (zT (zm (i:=3) Zu.nd rfl (XM rfl)) jh))) (zh (yk (Jr WY UJ UI QU (pv 1) (za (qd (N:=["column","sign","row"]) (src:=[none,none,some 2]) (zY.free (O:=(zg qy).names) (XN:=["board","found","row","text"]) rfl rfl ⟨_,rfl⟩ rfl rfl (by decide +kernel) (by decide +kernel) (by decide +kernel) rfl (by decide +kernel)) rfl (zk9 (by rfl) T.ye (za (pv 3) zb)) (fun _ _ _ _ _=>(Yt (n:=2) (K:=K) (by rfl) rfl (zT (zm (i:=0) (by show Xg (["column","sign","row"]:List Str);decide +kernel) rfl (XM rfl)) (zT (zm (i:=1) (by show Xg (["column","sign","row"]:List Str);decide +kernel) rfl (XM rfl)) jh)))) (fun _ _ _ _ _=>(qh (zP zaa (pv 1) (Yp (v:=.str "#") (by rfl) T.Qu.choose_spec (by exact⟨_,rfl⟩)) (z9 _)))) (fun _ _ _ _ _=>(jO (za (pv 2) (za (pv 0) zb))))) zb)))))
   (zh (zO (pv 1))))),?_⟩
  refine⟨(by show 0<=XU;decide),fun d hd=>?_⟩
  have s0:zB H (upd H d (.lst [])):=ze hd
  refine⟨_,rfl,a,_,0,_,rfl,rfl,SqT.of (b.mono s0).tp,rfl,l,rfl,⟨_,SqL.of (b.mono s0).rw⟩,?_⟩
  refine ZR (K:=K) (l:=l) (xs:=rs.map V.str) (fun i σ H'=>∃(v2 v3:Option V) (ws:List V),σ=[some (.ref a),some (.ref d),v2,v3]/\zB H H'/\H' d=some (.lst ws)/\Cel H' ws (Cells.zV qi 0 ((codes rs).take i)))
   ⟨_,_,[],rfl,s0,zc,.nil⟩ (fun i σ H' _ ⟨_,_,_,_,s1,_⟩=>SqL.of (b.mono s1).rw) ?_ ?_
  ·rintro i x tt σ H1 hx htt ⟨v2,v3,ws,rfl,s1,hd1,hc1⟩
   rw[XE] at hx
   cases e:rs[i]? with
   | none =>
    rw[e] at hx
    cases hx
   | some t =>
    rw[e] at hx
    cases hx
    have hil:i<rs.length:=(X4.mp e).1
    have st:zB H1 (upd H1 tt (.tup [.int (i:Nat),.str t])):=ze htt
    refine⟨tt,_,rfl,SqT.of zc,rfl,_,_,rfl,_,_,rfl,rfl,?_⟩
    have hd2:upd H1 tt (.tup [.int (i:Nat),.str t]) d=some (.lst ws):=st _ _ hd1
    refine⟨_,rfl,.inl ⟨rfl,_,SqL.of hd2⟩,_,rfl,t,rfl,fun z hz=>?_⟩
    refine zhM (x:=t) (fun j σ H'=>∃(u0 u1:Option V) (ys:List V),σ=[u0,u1,some (.int (i:Nat))]/\zB (upd H1 tt (.tup [.int (i:Nat),.str t])) H'/\H' z=some (.lst ys)/\Cel H' ys (Cells.qa qi i 0 (t.cps.toList.take j)))
     ⟨_,_,[],rfl,ze hz,zc,.nil⟩ ?_ ?_
    ·rintro j c t2 σ H2 hc ht2 ⟨u0,u1,ys,rfl,s2,hz2,hc2⟩
     refine⟨t2,_,rfl,SqT.of zc,rfl,_,_,rfl,_,_,rfl,rfl,?_⟩
     refine⟨_,rfl,rfl,_,rfl,?_⟩
     have hc':t.cps.toList[j]?=some c:=by rw[Xr];exact hc
     have s3:zB H2 (upd H2 t2 (.tup [.int (j:Nat),.str ⟨#[c]⟩])):=ze ht2
     have step:=Cells.YC (p:=qi) (i:=i) hc'
     have ed:(!decide (V.str ⟨#[c]⟩=V.str "#"))=qi c:=by
      rw[QV]
      simp only[zbH]
      rfl
     rw[ed]
     by_cases hp:qi c=true
     ·rw[hp] at step
      refine JE hp ?_
      refine⟨_,rfl,_,rfl,(by show 2<=XU;decide),fun t3 ht3=>?_⟩
      have nz3:z≠t3:=zj (s3 _ _ hz2) ht3
      have s4:zB (upd H2 t2 (.tup [.int (j:Nat),.str ⟨#[c]⟩])) (upd (upd H2 t2 (.tup [.int (j:Nat),.str ⟨#[c]⟩])) t3 (.tup [.int (i:Nat),.int (j:Nat)])):=ze ht3
      have hlen:ys.length<=8:=by
       rw[hc2.length]
       refine X0 (Cells.jo _ _ _ _) ?_
       have:=R.short _ (X2 (yw e))
       rw[XQ]
       lia
      refine⟨ys,s4 _ _ (s3 _ _ hz2),XH hlen (by decide),some (.int (j:Nat)),some (.str ⟨#[c]⟩),ys++[.ref t3],rfl,fun b' o e'=>?_,zc,?_⟩
      ·have hb:b'≠z:=fun y=>by
        subst y
        rw[hz] at e'
        cases e'
       rw[zu hb]
       exact s4 _ _ (s3 _ _ (s2 _ _ e'))
      ·rw[step]
       have keep:∀x o,x≠z->upd (upd H2 t2 (.tup [.int (j:Nat),.str ⟨#[c]⟩])) t3 (.tup [.int (i:Nat),.int (j:Nat)]) x=some o->upd (upd (upd H2 t2 (.tup [.int (j:Nat),.str ⟨#[c]⟩])) t3 (.tup [.int (i:Nat),.int (j:Nat)])) z (.lst (ys++[.ref t3])) x=some o:=fun x o hx e'=>by
        rw[zu hx]
        exact e'
       refine Cel.snoc ?_ ⟨t3,rfl,keep _ _ nz3.symm zc⟩
       exact Cel.into z (.lst (ys++[.ref t3])) (s4 _ _ (s3 _ _ hz2)) (Cel.mono s4 (Cel.mono s3 hc2))
     ·have hp':qi c=false:=by simpa using hp
      rw[hp'] at step
      refine xu hp' ?_
      refine⟨some (.int (j:Nat)),some (.str ⟨#[c]⟩),ys,rfl,s2.trans s3,s3 _ _ hz2,?_⟩
      rw[step]
      simpa using Cel.mono s3 hc2
    ·rintro σ H2 ⟨u0,u1,ys,rfl,s2,hz2,hc2⟩
     have hne:d≠z:=zj hd2 hz
     have hd3:H2 d=some (.lst ws):=s2 _ _ hd2
     have full:t.cps.toList.take t.cps.size=t.cps.toList:=by
      rw[<- X6,XG]
     rw[full] at hc2
     have step:=Cells.YD (p:=qi) (yw e)
     have l1:ws.length<=64:=by
      rw[hc1.length]
      refine X0 (Cells.jq _ _ _ fun u hu=>R.short u (Wo hu)) ?_
      have:=R.hi
      rw[XQ,jG]
      lia
     have l2:ys.length<=8:=by
      rw[hc2.length]
      exact X0 (Cells.jo _ _ _ _) (R.short _ (X2 (yw e)))
     refine⟨d,z,ws,ys,rfl,rfl,hd3,hz2,X0 (S6 l1 l2) (by decide),?_⟩
     refine⟨_,_,ws++ys,rfl,fun b' o e'=>?_,zc,?_⟩
     ·have hb:b'≠d:=fun y=>by
       subst y
       rw[hd] at e'
       cases e'
      rw[zu hb]
      exact s2 _ _ (st _ _ (s1 _ _ e'))
     ·rw[step]
      exact Cel.into d _ hd3 (Cel.append (Cel.mono s2 (Cel.mono st hc1)) hc2)
  ·rintro σ H1 ⟨v2,v3,ws,rfl,s1,hd1,hc1⟩
   rw[ZB,<- jG,XG] at hc1
   exact⟨_,rfl,q d ws H1 hd hd1 hc1 s1⟩
end
theorem znt (c:Nat):(qi c&&decide (c=63))=jV c:=by
 unfold qi jV
 by_cases h:c=63
 ·subst h
  rfl
 ·simp[h]
section
variable {P:Xy}{w:W6}{K:X8}{mg:Str->Option X9}{base:Heap}{f:Addr}{fd:XO}
theorem zks:zQ ["board"] ["board"] (zg J5):=⟨rfl,rfl,rfl,by decide +kernel,rfl,by decide +kernel,by decide +kernel⟩
theorem zbI {f1 f2:Addr}{fd1 fd2:XO}(T:Txt mg)(D:zk K mg "closed" J5 ["board"] f fd)(zC:zk K mg "cells_of" qy ["board"] f1 fd1)(zv:zk K mg "sign_at" qF ["board","cell"] f2 fd2) :
  zI P w K mg base CX0 2 f fd ["board"] (xN jV):=by
 have zap:zI P w K mg base CX0 1 f1 fd1 ["board"] (xN qi):=zb5 T zC
 have xO:zI P w K mg base CX0 1 f2 fd2 ["board","cell"] zc8:=YI zv
 refine D.F.ok zks (fun vs H Q E h=>?_) (fun cdv A outer s H vs Q E hr h=>?_)
 ·obtain⟨a,l,rs,n,rfl,_⟩:=h
  rfl
 ·obtain⟨a,l,rs,n,rfl,b,R,q⟩:=h
  refine⟨_,(zh (zO (qd (N:=["cell","board"]) (src:=[none,some 0]) (zY.free (O:=(zg J5).names) (XN:=["board"]) rfl rfl ⟨_,rfl⟩ rfl rfl (by decide +kernel) (by decide +kernel) (by decide +kernel) rfl (by decide +kernel)) rfl (zU (zo zap (hr.mono (by decide)) (by rfl) zC.g zC.F.kp zC.b .nil zL (za (pv 0) zb))) (fun _ _ _ _ _=>(zm (i:=0) (by show Xg (["cell","board"]:List Str);decide +kernel) rfl (XM rfl))) (fun _ _ _ _ _=>(qh (zP Jq (zo xO (hr.mono (by decide)) (by rfl) zv.g zv.F.kp zv.b .nil zL (za (pv 1) (za (pv 0) zb))) (Yp (v:=.str "?") (by rfl) T.ZG.choose_spec (by exact⟨_,rfl⟩)) (z9 _)))) (fun _ _ _ _ _=>(pv 0))))),?_⟩
  refine⟨_,rfl,a,l,rs,n,rfl,b,R,fun d ws H1 hd hd1 hc1 s1=>⟨d,rfl,⟨_,SqL.of hd1⟩,fun z hz=>?_⟩⟩
  have nz:d≠z:=zj hd1 hz
  refine qq (K:=K) (a:=d) (xs:=ws) (fun i σ H'=>∃(u0:Option V) (ys:List V),σ=[u0,some (.ref a)]/\zB H1 H'/\H' z=some (.lst ys)/\Cel H' ys (((Cells.zV qi 0 (codes rs)).take i).filter fun x=>decide (Cells.sgn (codes rs) x=63)))
   ⟨_,[],rfl,ze hz,zc,.nil⟩ (fun i σ H' _ ⟨_,_,_,s2,_⟩=>SqL.of (s2 _ _ hd1)) ?_ ?_
  ·rintro i x σ H2 hx ⟨u0,ys,rfl,s2,hz2,hc2⟩
   obtain⟨c,hci,ca,rfl,hca⟩:=Cel.get (Cel.mono s2 hc1) hx
   obtain⟨k0,j,u,k,ec,hk0,hj,hpc⟩:=Cells.xF (X2 hci)
   obtain⟨t,ht,rfl⟩:=zbF hk0
   rw[V9] at ec
   subst ec
   refine⟨_,rfl,_,rfl,a,l,ca,rs,n,k0,j,t,k,rfl,(b.mono s1).mono s2,hca,ht,hj,R.tlen ht,rfl,_,rfl,?_⟩
   have es:Cells.sgn (codes rs) (k0,j)=k:=Cells.zfl hk0 hj
   have step:((Cells.zV qi 0 (codes rs)).take (i+1)).filter (fun x=>decide (Cells.sgn (codes rs) x=63))=((Cells.zV qi 0 (codes rs)).take i).filter (fun x=>decide (Cells.sgn (codes rs) x=63))++(if decide (k=63)=true then [(k0,j)] else []):=by
    rw[XJ,hci,XA]
    congr 1
    show OH _ [(k0,j)]=_
    rw[Xl]
    try dsimp only
    rw[es]
    split<;>rfl
   have ed:decide (V.str ⟨#[k]⟩=V.str "?")=decide (k=63):=by
    rw[zh7]
    simp only[zbH]
   rw[ed]
   by_cases hp:decide (k=63)=true
   ·rw[if_pos hp] at step
    refine JE hp ?_
    have hlen:ys.length<=64:=by
     rw[hc2.length]
     refine X0 (Xz _ _) ?_
     rw[XQ]
     have h1:=Cells.jq qi 0 (codes rs) R.short
     have h2:=R.hi
     rw[jG] at h1
     lia
    refine⟨_,rfl,ys,hz2,XH hlen (by decide),_,ys++[.ref ca],rfl,fun b' o e'=>?_,zc,?_⟩
    ·have hb:b'≠z:=fun y=>by
      subst y
      rw[hz] at e'
      cases e'
     rw[zu hb]
     exact s2 _ _ e'
    ·rw[step]
     exact Cel.into z _ hz2 (Cel.snoc hc2 ⟨ca,rfl,hca⟩)
   ·rw[if_neg hp] at step
    refine xu (by simpa using hp) ?_
    refine⟨_,ys,rfl,s2,hz2,?_⟩
    rw[step]
    simpa using hc2
  ·rintro σ H2 ⟨u0,ys,rfl,s2,hz2,hc2⟩
   rw[hc1.length,XG,Cells.all_filter (p:=qi) (q:=fun k=>decide (k=63)) (codes rs)] at hc2
   have hz0:H z=none:=s1.free hz
   exact q z ys H2 hz0 hz2 (by rw[Cells.zb4 (q:=jV) znt] at hc2;exact hc2) (s1.trans s2)
end
section
variable {P:Xy}{w:W6}{K:X8}{mg:Str->Option X9}{base:Heap}{f:Addr}{fd:XO}
theorem zdQ:zQ ["board"] ["board"] (zg qt):=⟨rfl,rfl,rfl,by decide +kernel,rfl,by decide +kernel,by decide +kernel⟩
theorem yF {f1 f2:Addr}{fd1 fd2:XO}(T:Txt mg)(D:zk K mg "open_cells" qt ["board"] f fd)(zC:zk K mg "cells_of" qy ["board"] f1 fd1)(zv:zk K mg "sign_at" qF ["board","cell"] f2 fd2) :
  zI P w K mg base CX0 2 f fd ["board"] (xN Jt):=by
 have zap:zI P w K mg base CX0 1 f1 fd1 ["board"] (xN qi):=zb5 T zC
 have xO:zI P w K mg base CX0 1 f2 fd2 ["board","cell"] zc8:=YI zv
 refine D.F.ok zdQ (fun vs H Q E h=>?_) (fun cdv A outer s H vs Q E hr h=>?_)
 ·obtain⟨a,l,rs,n,rfl,_⟩:=h
  rfl
 ·obtain⟨a,l,rs,n,rfl,b,R,q⟩:=h
  refine⟨_,(zh (zO (qd (N:=["cell","board"]) (src:=[none,some 0]) (zY.free (O:=(zg qt).names) (XN:=["board"]) rfl rfl ⟨_,rfl⟩ rfl rfl (by decide +kernel) (by decide +kernel) (by decide +kernel) rfl (by decide +kernel)) rfl (zU (zo zap (hr.mono (by decide)) (by rfl) zC.g zC.F.kp zC.b .nil zL (za (pv 0) zb))) (fun _ _ _ _ _=>(zm (i:=0) (by show Xg (["cell","board"]:List Str);decide +kernel) rfl (XM rfl))) (fun _ _ _ _ _=>(qh (zP zaa (zo xO (hr.mono (by decide)) (by rfl) zv.g zv.F.kp zv.b .nil zL (za (pv 1) (za (pv 0) zb))) (Yp (v:=.str "?") (by rfl) T.ZG.choose_spec (by exact⟨_,rfl⟩)) (z9 _)))) (fun _ _ _ _ _=>(pv 0))))),?_⟩
  refine⟨_,rfl,a,l,rs,n,rfl,b,R,fun d ws H1 hd hd1 hc1 s1=>⟨d,rfl,⟨_,SqL.of hd1⟩,fun z hz=>?_⟩⟩
  have nz:d≠z:=zj hd1 hz
  refine qq (K:=K) (a:=d) (xs:=ws) (fun i σ H'=>∃(u0:Option V) (ys:List V),σ=[u0,some (.ref a)]/\zB H1 H'/\H' z=some (.lst ys)/\Cel H' ys (((Cells.zV qi 0 (codes rs)).take i).filter fun x=>!decide (Cells.sgn (codes rs) x=63)))
   ⟨_,[],rfl,ze hz,zc,.nil⟩ (fun i σ H' _ ⟨_,_,_,s2,_⟩=>SqL.of (s2 _ _ hd1)) ?_ ?_
  ·rintro i x σ H2 hx ⟨u0,ys,rfl,s2,hz2,hc2⟩
   obtain⟨c,hci,ca,rfl,hca⟩:=Cel.get (Cel.mono s2 hc1) hx
   obtain⟨k0,j,u,k,ec,hk0,hj,hpc⟩:=Cells.xF (X2 hci)
   obtain⟨t,ht,rfl⟩:=zbF hk0
   rw[V9] at ec
   subst ec
   refine⟨_,rfl,_,rfl,a,l,ca,rs,n,k0,j,t,k,rfl,(b.mono s1).mono s2,hca,ht,hj,R.tlen ht,rfl,_,rfl,?_⟩
   have es:Cells.sgn (codes rs) (k0,j)=k:=Cells.zfl hk0 hj
   have step:((Cells.zV qi 0 (codes rs)).take (i+1)).filter (fun x=>!decide (Cells.sgn (codes rs) x=63))=((Cells.zV qi 0 (codes rs)).take i).filter (fun x=>!decide (Cells.sgn (codes rs) x=63))++(if (!decide (k=63))=true then [(k0,j)] else []):=by
    rw[XJ,hci,XA]
    congr 1
    show OH _ [(k0,j)]=_
    rw[Xl]
    try dsimp only
    rw[es]
    split<;>rfl
   have ed:(!decide (V.str ⟨#[k]⟩=V.str "?"))=(!decide (k=63)):=by
    rw[zh7]
    simp only[zbH]
   rw[ed]
   by_cases hp:(!decide (k=63))=true
   ·rw[if_pos hp] at step
    refine JE hp ?_
    have hlen:ys.length<=64:=by
     rw[hc2.length]
     refine X0 (Xz _ _) ?_
     rw[XQ]
     have h1:=Cells.jq qi 0 (codes rs) R.short
     have h2:=R.hi
     rw[jG] at h1
     lia
    refine⟨_,rfl,ys,hz2,XH hlen (by decide),_,ys++[.ref ca],rfl,fun b' o e'=>?_,zc,?_⟩
    ·have hb:b'≠z:=fun y=>by
      subst y
      rw[hz] at e'
      cases e'
     rw[zu hb]
     exact s2 _ _ e'
    ·rw[step]
     exact Cel.into z _ hz2 (Cel.snoc hc2 ⟨ca,rfl,hca⟩)
   ·rw[if_neg hp] at step
    refine xu (by simpa using hp) ?_
    refine⟨_,ys,rfl,s2,hz2,?_⟩
    rw[step]
    simpa using hc2
  ·rintro σ H2 ⟨u0,ys,rfl,s2,hz2,hc2⟩
   rw[hc1.length,XG,Cells.all_filter (p:=qi) (q:=fun k=>(!decide (k=63))) (codes rs)] at hc2
   have hz0:H z=none:=s1.free hz
   exact q z ys H2 hz0 hz2 hc2 (s1.trans s2)
end
section
variable {P:Xy}{w:W6}{K:X8}{mg:Str->Option X9}{base:Heap}{f:Addr}{fd:XO}
theorem zfo:zQ ["board","cell"] ["board","cell"] (zg jr):=⟨rfl,rfl,rfl,by decide +kernel,rfl,by decide +kernel,by decide +kernel⟩
theorem YJ {f1:Addr}{fd1:XO}(T:Txt mg)(D:zk K mg "number_at" jr ["board","cell"] f fd)(zv:zk K mg "sign_at" qF ["board","cell"] f1 fd1):zI P w K mg base CX0 2 f fd ["board","cell"] za4:=by
 have xO:zI P w K mg base CX0 1 f1 fd1 ["board","cell"] zc8:=YI zv
 refine D.F.ok zfo (fun vs H Q E h=>?_) (fun cdv A outer s H vs Q E hr h=>?_)
 ·obtain⟨p,l,c,rs,n,i,j,t,k,rfl,_⟩:=h
  rfl
 ·obtain⟨p,l,c,rs,n,i,j,t,k,rfl,b,hc,hi,hj,hl,k1,k2,q⟩:=h
  refine⟨_,(zh (zO (jb Yu (by rfl) T.zc4 VO (za (zo xO (hr.mono (by decide)) (by rfl) zv.g zv.F.kp zv.b .nil zL (za (pv 0) (za (pv 1) zb))) zb)))),?_⟩
  exact⟨_,rfl,_,rfl,p,l,c,rs,n,i,j,t,k,rfl,b,hc,hi,hj,hl,⟨#[k]⟩,_,rfl,int_sign k1 k2,(by show 1<=640;decide),q⟩
end
theorem QZ {k:Nat}(h:k∈bd.cps.toList)(hp:Jt k=true):48<=k/\k<=56:=by
 have:∀k∈bd.cps.toList,Jt k=true->48<=k/\k<=56:=by decide +kernel
 exact this k h hp
noncomputable def zK (rs:List Str)(y:Nat×Nat):List (Nat×Nat):=(Cells.zV qi 0 (codes rs)).filter fun x=>Cells.near x y
def Z6:Sp:=fun vs H Q _=>∃(p l ca:Addr) (rs:List Str) (n:Int) (i j:Nat),vs=[.ref p,.ref ca]/\qj H p l rs n/\Rows bd.cps.toList rs/\H ca=some (.tup [.int (i:Nat),.int (j:Nat)])/\i<64/\j<64 /\
 ∀(d:Addr) (ws:List V) (H':Hp),H d=none->H' d=some (.lst ws)->Cel H' ws (zK rs (i,j))->zB H H'->Q (.ref d) H'
theorem zgP (i:Nat):(if (0:Int)>(i:Int)-1 then (0:Int) else (i:Int)-1)=((i-1:Nat):Int):=by
 split<;>lia
theorem zgQ (i m:Nat):(if ((m:Nat):Int)<(i:Int)+2 then ((m:Nat):Int) else (i:Int)+2)=((min (i+2) m:Nat):Int):=by
 split<;>lia
theorem zgR {f:Nat×Nat->Bool}{l:List (Nat×Nat)}{x:Nat×Nat}(a:Bool):(l++(if a=true then [x] else [])).filter f=l.filter f++(if (a&&f x)=true then [x] else []):=by
 rw[XA]
 congr 1
 by_cases h:a=true
 ·by_cases h2:f x=true
  ·simp[h,h2]
  ·simp[h,h2]
 ·simp[h]
section
variable {P:Xy}{w:W6}{K:X8}{mg:Str->Option X9}{base:Heap}{f:Addr}{fd:XO}
theorem Z7:zQ ["board","cell","rows","found","row","column"] ["board","cell"] (zg jD):=⟨rfl,rfl,rfl,by decide +kernel,rfl,by decide +kernel,by decide +kernel⟩
theorem Z8 (T:Txt mg)(D:zk K mg "around" jD ["board","cell"] f fd):zI P w K mg base CX0 1 f fd ["board","cell"] Z6:=by
 refine D.F.ok Z7 (fun vs H Q E h=>?_) (fun cdv A outer s H vs Q E hr h=>?_)
 ·obtain⟨p,l,ca,rs,n,i,j,rfl,_⟩:=h
  rfl
 ·obtain⟨p,l,ca,rs,n,i,j,rfl,b,R,hca,hi64,hj64,q⟩:=h
  refine⟨_,(zd (zD (i:=2) Z7.nd rfl (XM rfl) (zZ qU (pv 0) zf (fun _ _=>rfl)))
   (zd (zD (i:=3) Z7.nd rfl (XM rfl) (qu zb))
   (zd (qA Xd rfl (QO (by rfl) T.ji (za (zz (ZN rfl) (by rfl) T.zgM UZ (za (zG ZA (zZ qU (pv 1) zf (fun _ _=>rfl)) zf) (za zf zb))) (za (zz (ZO rfl) (by rfl) T.zgN UY (za (zG qT (zZ qU (pv 1) zf (fun _ _=>rfl)) zf) (za (zz zE (by rfl) T.qN Xh (za (pv 2) zb)) zb))) zb))) (zm (i:=4) Z7.nd rfl (XM rfl)) (zh (qA Xd rfl (QO (by rfl) T.ji (za (zz (ZN rfl) (by rfl) T.zgM UZ (za (zG ZA (zZ qU (pv 1) zf (fun _ _=>rfl)) zf) (za zf zb))) (za (zz (ZO rfl) (by rfl) T.zgN UY (za (zG qT (zZ qU (pv 1) zf (fun _ _=>rfl)) zf) (za (zz JD (by rfl) T.qN Xh (za (zZ qS (pv 2) (pv 4) (fun _ _=>rfl)) zb)) zb))) zb))) (zm (i:=5) Z7.nd rfl (XM rfl)) (zh (jA (PW.pt (zhC (zP zaa (zZ ZC (zZ qS (pv 2) (pv 4) (fun _ _=>rfl)) (pv 5) (fun _ _=>rfl)) (Yp (v:=.str "#") (by rfl) T.Qu.choose_spec (by exact⟨_,rfl⟩)) (z9 _)) (ze0 (zP (yL hr.units) (jO (za (pv 4) (za (pv 5) zb))) (pv 1) (z9 _))))) (zh (yk (Jr WY Wt Ws jj (pv 3) (za (jO (za (pv 4) (za (pv 5) zb))) zb)))) qp)))))
   (zh (zO (pv 3)))))),?_⟩
  refine⟨_,rfl,p,_,0,_,rfl,rfl,SqT.of b.tp,rfl,?_⟩
  refine⟨(by show 0<=XU;decide),fun d hd=>?_⟩
  have s0:zB H (upd H d (.lst [])):=ze hd
  have r8:=R.hi
  refine⟨_,rfl,ca,_,0,_,rfl,rfl,SqT.of (s0 _ _ hca),rfl,_,_,rfl,rfl,_,_,rfl,_,rfl,ca,_,0,_,rfl,rfl,SqT.of (s0 _ _ hca),rfl,_,_,rfl,rfl,_,rfl,l,_,rfl,.inl (SqL.of (b.mono s0).rw),_,_,rfl,((i-1:Nat):Int),((min (i+2) rs.length:Nat):Int),?_,⟨by lia,by lia,by lia,by lia⟩,?_⟩
  ·show [V.int (if (0:Int)>(i:Int)-1 then (0:Int) else (i:Int)-1),V.int (if (((rs.map V.str).length:Nat):Int)<(i:Int)+2 then (((rs.map V.str).length:Nat):Int) else (i:Int)+2)]=_
   rw[ZB,zgP,zgQ]
  refine ja (lo:=((i-1:Nat):Int)) (fun k σ H'=>∃(v4 v5:Option V) (ws:List V),σ=[some (.ref p),some (.ref ca),some (.ref l),some (.ref d),v4,v5]/\zB H H'/\H' d=some (.lst ws)/\Cel H' ws ((Cells.zV qi 0 ((codes rs).take (i-1+k))).filter fun x=>Cells.near x (i,j)))
   ⟨_,_,[],rfl,s0,zc,?_⟩ ?_ ?_
  ·rw[Cells.zgz]
   ·exact .nil
   ·intro r c hr'
    rw[Xc,ne_eq,Cells.yb]
    rintro⟨⟨_,h2⟩,_⟩
    dsimp only at h2
    lia
  ·rintro k σ H1 hk ⟨v4,v5,ws,rfl,s1,hd1,hc1⟩
   have hrl:i-1+k<rs.length:=by lia
   have ecast:((i-1:Nat):Int)+(k:Nat)=((i-1+k:Nat):Int):=by lia
   rw[ecast]
   generalize hr0:i-1+k=r at *
   obtain⟨t,ht⟩:∃t,rs[r]?=some t:=⟨_,X7 hrl⟩
   have htl:t.length<=XU:=R.tlen ht
   have ht8:t.cps.toList.length<=8:=R.short _ (X2 (yw ht))
   have hat:atI (rs.map V.str) ((r:Nat):Int)=some (V.str t):=xX (by rw[XE,ht];rfl)
   refine⟨_,rfl,ca,_,1,_,rfl,rfl,SqT.of (s1 _ _ hca),rfl,_,_,rfl,rfl,_,_,rfl,_,rfl,ca,_,1,_,rfl,rfl,SqT.of (s1 _ _ hca),rfl,_,_,rfl,rfl,_,rfl,_,rfl,l,_,_,_,rfl,rfl,SqL.of (b.mono s1).rw,hat,t,rfl,htl,_,_,rfl,((j-1:Nat):Int),((min (j+2) t.cps.size:Nat):Int),?_,⟨by lia,by lia,by lia,?_⟩,?_⟩
   ·show [V.int (if (0:Int)>(j:Int)-1 then (0:Int) else (j:Int)-1),V.int (if ((t.cps.size:Nat):Int)<(j:Int)+2 then ((t.cps.size:Nat):Int) else (j:Int)+2)]=_
    rw[zgP,zgQ]
   ·lia
   have hsz:t.cps.toList.length=t.cps.size:=X6
   refine ja (lo:=((j-1:Nat):Int)) (fun m σ H'=>∃(v5:Option V) (ws:List V),σ=[some (.ref p),some (.ref ca),some (.ref l),some (.ref d),some (.int (r:Nat)),v5]/\zB H H'/\H' d=some (.lst ws)/\Cel H' ws ((Cells.zV qi 0 ((codes rs).take r)).filter (fun x=>Cells.near x (i,j))++(Cells.qa qi r 0 (t.cps.toList.take (j-1+m))).filter fun x=>Cells.near x (i,j)))
    ⟨_,ws,rfl,s1,hd1,?_⟩ ?_ ?_
   ·rw[Cells.zgA (t:=t.cps.toList),W4]
    ·exact hc1
    ·intro c hc'
     rw[Xc,ne_eq,Cells.yb]
     rintro⟨_,⟨_,h2⟩,_⟩
     dsimp only at h2
     lia
   ·rintro m σ H2 hm ⟨v5,ws2,rfl,s2,hd2,hc2⟩
    have hcl:j-1+m<t.cps.size:=by lia
    have ecast2:((j-1:Nat):Int)+(m:Nat)=((j-1+m:Nat):Int):=by lia
    rw[ecast2]
    generalize hc0:j-1+m=c at *
    have hc0':j-1+(m+1)=c+1:=by lia
    obtain⟨k0,hk0⟩:∃k0,t.cps.toList[c]?=some k0:=⟨_,X7 (by lia)⟩
    have step:=Cells.YC (p:=qi) (i:=r) hk0
    have step2:(Cells.qa qi r 0 (t.cps.toList.take (c+1))).filter (fun x=>Cells.near x (i,j))=(Cells.qa qi r 0 (t.cps.toList.take c)).filter (fun x=>Cells.near x (i,j))++(if (qi k0&&Cells.near (r,c) (i,j))=true then [(r,c)] else []):=by
     rw[step,zgR]
    have nr:Cells.near (r,c) (i,j)=!decide ((r,c)=(i,j)):=by
     rw[WU,Cells.yb]
     simp only[WC,decide_eq_false_iff_not]
     constructor
     ·exact fun h=>h.2.2
     ·intro h
      refine⟨⟨?_,?_⟩,⟨?_,?_⟩,h⟩<;>(try dsimp only)<;>lia
    refine⟨_,rfl,_,rfl,l,_,_,_,rfl,rfl,SqL.of (b.mono s2).rw,hat,_,rfl,t,_,k0,rfl,rfl,htl,xX hk0,rfl,_,rfl,?_⟩
    have ed:(!decide (V.str ⟨#[k0]⟩=V.str "#"))=qi k0:=by
     rw[QV]
     simp only[zbH]
     rfl
    rw[ed]
    by_cases hp:qi k0=true
    ·refine JE hp ?_
     refine⟨_,rfl,_,rfl,(by show 2<=XU;decide),fun tp htp=>?_⟩
     have s3:zB H2 (upd H2 tp (.tup [.int (r:Nat),.int (c:Nat)])):=ze htp
     have zh9:=s3 _ _ (s2 _ _ hca)
     refine⟨_,rfl,_,_,JI.rdv (c:=(r,c)) ⟨tp,rfl,zc⟩,JI.rdv (c:=(i,j)) ⟨ca,rfl,zh9⟩,zeA _ _,_,rfl,?_⟩
     have ee:(if true=true then !PyData.eqv (zx (r,c)) (zx (i,j)) else W2 (zx (r,c)) (zx (i,j)))=Cells.near (r,c) (i,j):=by
      rw[zbG,nr]
      rfl
     rw[ee]
     rw[hp,SA] at step2
     by_cases hn:Cells.near (r,c) (i,j)=true
     ·refine JE hn ?_
      rw[if_pos hn] at step2
      have hd3:=s3 _ _ hd2
      refine⟨_,rfl,.inl ⟨rfl,_,SqL.of hd3⟩,_,rfl,_,rfl,(by show 2<=XU;decide),fun tq htq=>?_⟩
      have s4:zB (upd H2 tp (.tup [.int (r:Nat),.int (c:Nat)])) (upd (upd H2 tp (.tup [.int (r:Nat),.int (c:Nat)])) tq (.tup [.int (r:Nat),.int (c:Nat)])):=ze htq
      have hlen:ws2.length<=128:=by
       rw[hc2.length,XZ]
       have h1:=Xz (fun x=>Cells.near x (i,j)) (Cells.zV qi 0 ((codes rs).take r))
       have h2:=Xz (fun x=>Cells.near x (i,j)) (Cells.qa qi r 0 (t.cps.toList.take c))
       have h3:=Cells.jq qi 0 ((codes rs).take r) fun u hu=>R.short u (Wo hu)
       have h4:=Cells.jo qi r 0 (t.cps.toList.take c)
       rw[XQ,jG] at h3
       rw[XQ] at h4
       lia
      refine⟨d,_,_,rfl,rfl,s4 _ _ hd3,XH hlen (by decide),?_⟩
      refine⟨_,ws2++[.ref tq],rfl,fun b' o e'=>?_,zc,?_⟩
      ·rw[zu (zj e' hd)]
       exact s4 _ _ (s3 _ _ (s2 _ _ e'))
      ·rw[hc0',step2,<- WZ]
       exact Cel.into d _ (s4 _ _ hd3) (Cel.snoc (Cel.mono s4 (Cel.mono s3 hc2)) ⟨tq,rfl,zc⟩)
     ·have hn':Cells.near (r,c) (i,j)=false:=by simpa using hn
      refine xu hn' ?_
      rw[if_neg hn,W4] at step2
      refine⟨_,ws2,rfl,s2.trans s3,s3 _ _ hd2,?_⟩
      rw[hc0',step2]
      exact Cel.mono s3 hc2
    ·have hp':qi k0=false:=by simpa using hp
     refine xu hp' ?_
     refine Qd ?_
     rw[hp',TZ,if_neg XV,W4] at step2
     refine⟨_,ws2,rfl,s2,hd2,?_⟩
     rw[hc0',step2]
     exact hc2
   ·rintro σ H2 ⟨v5,ws2,rfl,s2,hd2,hc2⟩
    refine⟨_,_,ws2,rfl,s2,hd2,?_⟩
    have full:(Cells.qa qi r 0 (t.cps.toList.take (j-1+(((min (j+2) t.cps.size:Nat):Int)-((j-1:Nat):Int)).toNat))).filter (fun x=>Cells.near x (i,j))=(Cells.qa qi r 0 t.cps.toList).filter fun x=>Cells.near x (i,j):=by
     by_cases hbig:t.cps.size<=j-1+(((min (j+2) t.cps.size:Nat):Int)-((j-1:Nat):Int)).toNat
     ·rw[W8 (by lia)]
     ·refine Cells.zes fun c hc'=>?_
      rw[Xc,ne_eq,Cells.yb]
      rintro⟨_,⟨h2,_⟩,_⟩
      dsimp only at h2
      lia
    rw[full] at hc2
    have e1:i-1+(k+1)=r+1:=by lia
    rw[e1,Cells.YD (yw ht),XA]
    exact hc2
  ·rintro σ H1 ⟨v4,v5,ws,rfl,s1,hd1,hc1⟩
   have full:(Cells.zV qi 0 ((codes rs).take (i-1+(((min (i+2) rs.length:Nat):Int)-((i-1:Nat):Int)).toNat))).filter (fun x=>Cells.near x (i,j))=zK rs (i,j):=by
    by_cases hbig:rs.length<=i-1+(((min (i+2) rs.length:Nat):Int)-((i-1:Nat):Int)).toNat
    ·rw[W8 (by rw[jG];lia)]
     rfl
    ·refine Cells.zer fun r c hr'=>?_
     rw[Xc,ne_eq,Cells.yb]
     rintro⟨⟨h2,_⟩,_⟩
     dsimp only at h2
     lia
   rw[full] at hc1
   exact⟨_,rfl,q d ws H1 hd hd1 hc1 s1⟩
end
theorem JI.rdn {N:Addr->Prop}{H:Hp}{v:V}{c:Nat×Nat}(h:JI H v c):Rdn N H v (zx c):=by
 obtain⟨a,rfl,h⟩:=h
 exact .tup h (.cons (.int _) (.cons (.int _) .nil))
theorem Cel.rdn {N:Addr->Prop}{H:Hp}{vs:List V}{cs:List (Nat×Nat)}(hp:Cel H vs cs):zJ N H vs (cs.map zx):=by
 induction hp with
 | nil=>exact .nil
 | cons h _ ih =>
  exact .cons (JI.rdn h) ih
theorem Rdn.celR {N:Addr->Prop}{H:Hp}{v:V}{c:Nat×Nat}(h:Rdn N H v (zx c)):JI H v c:=by
 cases h with
 | tup h t =>
  cases t with
  | cons a t =>
   cases a
   cases t with
   | cons b t =>
    cases b
    cases t
    exact⟨_,rfl,h⟩
theorem zJ.cel {N:Addr->Prop}{H:Hp}:∀{cs:List (Nat×Nat)} {vs:List V},zJ N H vs (cs.map zx)->Cel H vs cs
 | [],_,h=>by cases h;exact .nil
 | c::r,_,h=>by
  cases h with
  | cons a t=>exact .cons (Rdn.celR a) (zJ.cel t)
theorem zJ.bools {N:Addr->Prop}{H:Hp}:∀{bs:List Bool} {vs:List V},zJ N H vs (bs.map Tk)->vs=bs.map V.bl
 | [],_,h=>by cases h;rfl
 | b::r,_,h=>by
  cases h with
  | cons a t =>
   cases a
   rw[zJ.bools t]
   rfl
theorem qO {α:Type}(p:α->Bool)(g:α->Wm):∀cs:List α,(cs.map fun x=>if p x=true then some (g x) else none).filterMap id=(cs.filter p).map g
 | []=>rfl
 | c::r=>by
  rw[Xb,Vx,Xl]
  by_cases h:p c=true
  ·rw[if_pos h,if_pos h]
   show g c::_=g c::_
   rw[qO p g r]
  ·rw[if_neg h,if_neg h]
   exact qO p g r
theorem J8 {α:Type}(g:α->Wm):∀cs:List α,(cs.map fun x=>some (g x)).filterMap id=cs.map g
 | []=>rfl
 | c::r=>by
  rw[Xb,Vx]
  show g c::_=g c::_
  rw[J8 g r]
theorem yN {α β:Type}{g:α->β}{cs:List α}{i:Nat}{c:α}{o:β}(h:cs[i]?=some c)(ho:(cs.map g)[i]?=some o):o=g c:=by
 rw[XE,h] at ho
 exact(Option.some.inj ho).symm
noncomputable def clA (rs:List Str)(c:Nat×Nat):List (Nat×Nat):=(zK rs c).filter fun x=>decide (Cells.sgn (codes rs) x=63)
noncomputable def zp (rs:List Str):List (Nat×Nat):=Cells.zV jV 0 (codes rs)
noncomputable def zF (rs:List Str):List (Nat×Nat):=Cells.zV Jt 0 (codes rs)
noncomputable def j5 (rs:List Str):List (Nat×Nat):=(zp rs).filter fun c=>!((zF rs).map fun o=>(zK rs o).any fun z=>decide (z=c)).any id
noncomputable def jM (rs:List Str):List (Nat×Nat):=((zF rs).filter fun o=>(clA rs o).isEmpty).filter fun o=>!decide (Cells.sgn (codes rs) o=48)
theorem qJ {p:Nat->Bool}{rs:List Str}(R:Rows bd.cps.toList rs):(Cells.zV p 0 (codes rs)).length<=64:=by
 have h1:=Cells.jq p 0 (codes rs) R.short
 have h2:=R.hi
 rw[jG] at h1
 lia
theorem xZ {rs:List Str}(R:Rows bd.cps.toList rs)(c:Nat×Nat):(zK rs c).length<=64:=X0 (Xz _ _) (qJ R)
theorem qe {p:Nat->Bool}{rs:List Str}{c:Nat×Nat}(h:c∈Cells.zV p 0 (codes rs)):∃t k,rs[c.1]?=some t/\t.cps.toList[c.2]?=some k/\p k=true/\Cells.sgn (codes rs) c=k:=by
 obtain⟨k0,j,u,k,ec,hk0,hj,hpc⟩:=Cells.xF h
 obtain⟨t,ht,rfl⟩:=zbF hk0
 rw[V9] at ec
 subst ec
 exact⟨t,k,ht,hj,hpc,Cells.zfl hk0 hj⟩
theorem yO {rs:List Str}{c:Nat×Nat}{t:Str}{k:Nat}(R:Rows bd.cps.toList rs)(h1:rs[c.1]?=some t)(h2:t.cps.toList[c.2]?=some k):c.1<64/\c.2<64:=by
 have a:=(X4.mp h1).1
 have b:=(X4.mp h2).1
 have e:=R.hi
 have f:=R.short _ (X2 (yw h1))
 lia
theorem zcA {rs:List Str}{i j:Nat}{t:Str}{k:Nat}(R:Rows bd.cps.toList rs)(h1:rs[i]?=some t)(h2:t.cps.toList[j]?=some k):k∈bd.cps.toList:=by
 obtain⟨n,_,_,h⟩:=R.ex
 exact(h t (X2 h1)).mem k (X2 h2)
def zlX:Sp:=fun vs H Q _=>∃(p l ca:Addr) (rs:List Str) (n:Int) (c:Nat×Nat),vs=[.ref p,.ref ca]/\qj H p l rs n/\Rows bd.cps.toList rs/\H ca=some (.tup [.int (c.1:Nat),.int (c.2:Nat)])/\c.1<64/\c.2<64 /\
 ∀(d:Addr) (ws:List V) (H':Hp),H d=none->H' d=some (.lst ws)->Cel H' ws (clA rs c)->zB H H'->Q (.ref d) H'
def zeB (g:List Str->List (Nat×Nat)):Sp:=fun vs H Q _=>∃(a l:Addr) (rs:List Str) (n:Int),vs=[.ref a]/\qj H a l rs n/\Rows bd.cps.toList rs /\
 ∀(d:Addr) (ws:List V) (H':Hp),H d=none->H' d=some (.lst ws)->Cel H' ws (g rs)->zB H H'->Q (.ref d) H'
section
variable {P:Xy}{w:W6}{K:X8}{mg:Str->Option X9}{base:Heap}{f:Addr}{fd:XO}
theorem zbJ:zQ ["board","cell"] ["board","cell"] (zg qV):=⟨rfl,rfl,rfl,by decide +kernel,rfl,by decide +kernel,by decide +kernel⟩
theorem Z9 {f1 f2:Addr}{fd1 fd2:XO}(T:Txt mg)(D:zk K mg "closed_around" qV ["board","cell"] f fd)(zH:zk K mg "around" jD ["board","cell"] f1 fd1)(zv:zk K mg "sign_at" qF ["board","cell"] f2 fd2) :
  zI P w K mg base CX0 2 f fd ["board","cell"] zlX:=by
 have xA:zI P w K mg base CX0 1 f1 fd1 ["board","cell"] Z6:=Z8 T zH
 have xO:zI P w K mg base CX0 1 f2 fd2 ["board","cell"] zc8:=YI zv
 refine D.F.ok zbJ (fun vs H Q E h=>?_) (fun cdv A outer s H vs Q E hr h=>?_)
 ·obtain⟨p,l,ca,rs,n,c,rfl,_⟩:=h
  rfl
 ·obtain⟨p,l,ca,rs,n,c,rfl,b,R,hca,ci,cj,q⟩:=h
  refine⟨_,(zh (zO (qd (N:=["place","board"]) (src:=[none,some 0]) (zY.free (O:=(zg qV).names) (XN:=["board","cell"]) rfl rfl ⟨_,rfl⟩ rfl rfl (by decide +kernel) (by decide +kernel) (by decide +kernel) rfl (by decide +kernel)) rfl (zU (zo xA (hr.mono (by decide)) (by rfl) zH.g zH.F.kp zH.b .nil zL (za (pv 0) (za (pv 1) zb)))) (fun _ _ _ _ _=>(zm (i:=0) (by show Xg (["place","board"]:List Str);decide +kernel) rfl (XM rfl))) (fun _ _ _ _ _=>(qh (zP Jq (zo xO (hr.mono (by decide)) (by rfl) zv.g zv.F.kp zv.b .nil zL (za (pv 1) (za (pv 0) zb))) (Yp (v:=.str "?") (by rfl) T.ZG.choose_spec (by exact⟨_,rfl⟩)) (z9 _)))) (fun _ _ _ _ _=>(pv 0))))),?_⟩
  refine⟨_,rfl,_,rfl,p,l,ca,rs,n,c.1,c.2,rfl,b,R,hca,ci,cj,fun d ws H1 hd hd1 hc1 s1=>⟨d,rfl,⟨_,SqL.of hd1⟩,fun z hz=>?_⟩⟩
  refine qI (K:=K) (a:=d) (xs:=ws) (fun a=>a≠z) ((zK rs c).map fun x=>if decide (Cells.sgn (codes rs) x=63)=true then some (zx x) else none) (fun σ=>∃u0,σ=[u0,some (.ref p)]) hz (fun _ h=>h) ⟨_,rfl⟩ (by rw[ZB];exact hc1.length.symm) (by rw[hc1.length];exact X0 (xZ R c) (by decide)) (SqL.of hd1) ?_ ?_
  ·rintro k x o σ H2 hx ho s2 _ ⟨u0,rfl⟩ Y Z yes no
   obtain⟨y,hy,r1⟩:=Cel.get hc1 hx
   have eo:=yN hy ho
   obtain⟨t,sg,ht,hj,_,es⟩:=qe (XX.mp (X2 hy)).1
   obtain⟨ya,rfl,hya⟩:=r1
   refine⟨_,rfl,_,rfl,p,l,ya,rs,n,y.1,y.2,t,sg,rfl,(b.mono s1).mono s2,s2 _ _ hya,ht,hj,R.tlen ht,rfl,_,rfl,?_⟩
   have ed:decide (V.str ⟨#[sg]⟩=V.str "?")=decide (sg=63):=by
    rw[zh7]
    simp only[zbH]
   rw[ed]
   rw[es] at eo
   by_cases hp:sg=63
   ·rw[decide_eq_true hp]
    rw[if_pos (decide_eq_true hp)] at eo
    exact Qi ⟨_,rfl,yes _ _ _ _ eo ⟨_,rfl⟩ (zB.refl _) (JI.rdn ⟨ya,rfl,s2 _ _ hya⟩)⟩
   ·rw[decide_eq_false hp]
    rw[if_neg (by rw[decide_eq_false hp];exact XV)] at eo
    exact Qd (no _ _ eo ⟨_,rfl⟩ (zB.refl _))
  ·rintro ys H2 s2 hz2 hr2
   rw[qO] at hr2
   exact q z ys H2 (s1.free hz) hz2 (zJ.cel hr2) (s1.trans s2)
theorem zfp (cs:List (Nat×Nat)):Wd (cs.map zx)=true:=by
 induction cs with
 | nil=>rfl
 | cons c r ih =>
  show (Vh (zx c)&&Wd (r.map zx))=true
  rw[ih]
  rfl
theorem zo6 (cs:List (Nat×Nat)):Wg (cs.map zx)<=1:=by
 induction cs with
 | nil=>exact WW _
 | cons c r ih =>
  show max (PyData.depth (zx c)) (Wg (r.map zx))<=1
  have:PyData.depth (zx c)=1:=rfl
  lia
theorem zfq (cs ds:List (Nat×Nat)):zhJ (.list (cs.map zx)) (.list (ds.map zx)):=⟨zfp cs,zfp ds,by
 show Wg (cs.map zx)+1<=64
 have:=zo6 cs
 lia⟩
theorem J9 (cs:List (Nat×Nat))(c:Nat×Nat):(cs.map zx).any (fun z=>W2 z (zx c))=cs.any fun z=>decide (z=c):=by
 rw[US]
 congr 1
 funext z
 exact zbG z c
theorem eq_nil (cs:List (Nat×Nat)):W2 (.list (cs.map zx)) (.list [])=cs.isEmpty:=by
 cases cs<;>rfl
theorem zlY:zQ ["board","told"] ["board"] (zg zgK):=⟨rfl,rfl,rfl,by decide +kernel,rfl,by decide +kernel,by decide +kernel⟩
theorem zlZ {f1 f2 f3 f4 f5:Addr}{fd1 fd2 fd3 fd4 fd5:XO}(T:Txt mg)(D:zk K mg "far" zgK ["board"] f fd)(zH:zk K mg "around" jD ["board","cell"] f1 fd1)(zv:zk K mg "sign_at" qF ["board","cell"] f2 fd2)
  (zC:zk K mg "cells_of" qy ["board"] f3 fd3) (qD:zk K mg "closed" J5 ["board"] f4 fd4) (zq:zk K mg "open_cells" qt ["board"] f5 fd5):zI P w K mg base CX0 3 f fd ["board"] (zeB j5):=by
 have xA:zI P w K mg base CX0 1 f1 fd1 ["board","cell"] Z6:=Z8 T zH
 have Qv:zI P w K mg base CX0 2 f4 fd4 ["board"] (xN jV):=zbI T qD zC zv
 have qY:zI P w K mg base CX0 2 f5 fd5 ["board"] (xN Jt):=yF T zq zC zv
 refine D.F.ok zlY (fun vs H Q E h=>?_) (fun cdv A outer s H vs Q E hr h=>?_)
 ·obtain⟨a,l,rs,n,rfl,_⟩:=h
  rfl
 ·obtain⟨a,l,rs,n,rfl,b,R,q⟩:=h
  refine⟨_,(zd (zD (i:=1) zlY.nd rfl (VF rfl) (qd (N:=["cell","board"]) (src:=[none,some 0]) (zY.free (O:=(zg zgK).names) (XN:=["board","told"]) rfl rfl ⟨_,rfl⟩ rfl rfl (by decide +kernel) (by decide +kernel) (by decide +kernel) rfl (by decide +kernel)) rfl (zU (zo qY (hr.mono (by decide)) (by rfl) zq.g zq.F.kp zq.b .nil zL (za (pv 0) zb))) (fun _ _ _ _ _=>(zm (i:=0) (by show Xg (["cell","board"]:List Str);decide +kernel) rfl (XM rfl))) (fun _ _ _ _ _=>qL) (fun _ _ _ _ _=>(zo xA (hr.mono (by decide)) (by rfl) zH.g zH.F.kp zH.b .nil zL (za (pv 1) (za (pv 0) zb))))))
   (zh (zO (zlg (N:=["cell","told"]) (src:=[none,some 1]) (Yw.byRfl (y:="cell") rfl (fun _ _=>rfl) (fun _=>rfl) (by decide +kernel) (by decide +kernel) (by rfl) rfl (by rfl)) rfl (zU (zo Qv (hr.mono (by decide)) (by rfl) qD.g qD.F.kp qD.b .nil zL (za (pv 0) zb))) (fun _ _ _ _ _=>(zm (i:=0) (by show Xg (["cell","told"]:List Str);decide +kernel) rfl (VF rfl))) (fun _ _ _ _ _=>(qh (zak (zbs (K:=K) (by rfl) (zz (zed (K:=K) (by rfl) (by rfl)) (by rfl) T.zlU SL (za (qd (N:=["near","cell"]) (src:=[none,some 0]) (zY.byRfl rfl (by decide +kernel) (by decide +kernel) (by rfl) rfl (by rfl)) (by rfl) (zgg (K:=K) (by rfl) (pv 1)) (fun _ _ _ _ _=>(zm (i:=0) (by show Xg (["near","cell"]:List Str);decide +kernel) rfl (XM rfl))) (fun _ _ _ _ _=>qL) (fun _ _ _ _ _=>(Zm (jL (K:=K) (by rfl) hr.units) (pv 1) (pv 0) (by rfl)))) zb)) (fun _=>rfl))))) (fun _ _ _ _ _=>(pv 0)))))),?_⟩
  refine⟨_,rfl,a,l,rs,n,rfl,b,R,fun d ws H1 hd hd1 hc1 s1=>⟨d,rfl,⟨_,SqL.of hd1⟩,fun z hz=>?_⟩⟩
  have b1:=b.mono s1
  refine qI (K:=K) (a:=d) (xs:=ws) (fun a=>a≠z) ((zF rs).map fun o=>some (.list ((zK rs o).map zx))) (fun σ=>∃u0,σ=[u0,some (.ref a)]) hz (fun _ h=>h) ⟨_,rfl⟩ (by rw[ZB];exact hc1.length.symm) (by rw[hc1.length];exact X0 (qJ R) (by decide)) (SqL.of hd1) ?_ ?_
  ·rintro k x o σ H2 hx ho s2 hzn ⟨u0,rfl⟩ Y Z yes no
   obtain⟨y,hy,r1⟩:=Cel.get hc1 hx
   have eo:=yN hy ho
   obtain⟨t,sg,ht,hj,_,es⟩:=qe (X2 hy)
   obtain⟨ya,rfl,hya⟩:=r1
   obtain⟨l1,l2⟩:=yO R ht hj
   refine Zo ⟨_,rfl,_,rfl,a,l,ya,rs,n,y.1,y.2,rfl,b1.mono s2,R,s2 _ _ hya,l1,l2,fun d2 ws2 H3 hd2 hd3 hc2 s3=>?_⟩
   refine yes _ _ _ _ eo ⟨_,rfl⟩ s3 (.lst (fun e=>hzn (e ▸ hd2)) hd3 (Cel.rdn hc2))
  ·rintro ys H2 s2 hz2 hr2
   rw[J8] at hr2
   have b2:=b1.mono s2
   refine⟨_,rfl,a,l,rs,n,rfl,b2,R,fun d3 ws3 H3 hd3 hd4 hc3 s3=>⟨d3,rfl,⟨_,SqL.of hd4⟩,fun z3 hz3=>?_⟩⟩
   have hz4:=s3 _ _ hz2
   have hr3:=hr2.keep s3
   refine qI (K:=K) (a:=d3) (xs:=ws3) (fun a=>a≠z3) ((zp rs).map fun c=>if (!((zF rs).map fun o=>(zK rs o).any fun z=>decide (z=c)).any id)=true then some (zx c) else none) (fun σ=>∃u0,σ=[u0,some (.ref z)]) hz3 (fun _ h=>h) ⟨_,rfl⟩ (by rw[ZB];exact hc3.length.symm) (by rw[hc3.length];exact X0 (qJ R) (by decide)) (SqL.of hd4) ?_ ?_
   ·rintro k x o σ H4 hx ho s4 _ ⟨u0,rfl⟩ Y Z yes no
    obtain⟨y,hy,r1⟩:=Cel.get hc3 hx
    have eo:=yN hy ho
    have r2:JI H4 x y:=by
     obtain⟨ya,e,hya⟩:=r1
     exact⟨ya,e,s4 _ _ hya⟩
    refine⟨_,rfl,z,rfl,⟨_,SqL.of (s4 _ _ hz4)⟩,fun z5 hz5=>?_⟩
    have hyl:ys.length=(zF rs).length:=by rw[hr2.length,ZB]
    refine qI (K:=K) (a:=z) (xs:=ys) (fun a=>a≠z5) ((zF rs).map fun o=>some (.bool ((zK rs o).any fun z=>decide (z=y)))) (fun σ=>∃u0,σ=[u0,some x]) hz5 (fun _ h=>h) ⟨_,rfl⟩ (by rw[ZB];exact hyl.symm) (by rw[hyl];exact X0 (qJ R) (by decide)) (SqL.of (s4 _ _ hz4)) ?_ ?_
    ·rintro m v o2 σ H5 hv ho2 s5 _ ⟨u1,rfl⟩ Y2 Z2 yes2 no2
     obtain⟨dv,hdv,rv⟩:=hr3.get hv
     rw[XE] at hdv
     cases eoc:(zF rs)[m]? with
     | none=>rw[eoc] at hdv;cases hdv
     | some oc =>
      rw[eoc] at hdv
      cases hdv
      have eo2:=yN eoc ho2
      have r3:JI H5 x y:=by
       obtain⟨ya,e,hya⟩:=r2
       exact⟨ya,e,s5 _ _ hya⟩
      refine Zo ⟨_,rfl,_,rfl,zx y,(zK rs oc).map zx,r3.rdv,(((rv.keep s4).keep s5).rdv),rfl,zfp _,(by show 1<=60;decide),?_⟩
      have ei:(if false=true then !((zK rs oc).map zx).any (fun z=>W2 z (zx y)) else ((zK rs oc).map zx).any fun z=>W2 z (zx y))=(zK rs oc).any fun z=>decide (z=y):=J9 _ _
      rw[ei]
      exact yes2 _ _ _ _ eo2 ⟨_,rfl⟩ (zB.refl _) (.bl _)
    ·rintro ys5 H5 s5 hz6 hr5
     rw[J8,show ((zF rs).map fun o=>Tk ((zK rs o).any fun z=>decide (z=y)))=((zF rs).map fun o=>(zK rs o).any fun z=>decide (z=y)).map Tk by rw[WD];rfl] at hr5
     rw[zJ.bools hr5] at hz6
     refine⟨z5,_,rfl,SqL.of hz6,_,rfl,?_⟩
     by_cases hp:(!((zF rs).map fun o=>(zK rs o).any fun z=>decide (z=y)).any id)=true
     ·rw[if_pos hp] at eo
      refine JE hp ⟨_,rfl,yes _ _ _ _ eo ⟨_,rfl⟩ s5 (JI.rdn ?_)⟩
      obtain⟨ya,e,hya⟩:=r2
      exact⟨ya,e,s5 _ _ hya⟩
     ·rw[if_neg hp] at eo
      exact xu (by simpa using hp) (no _ _ eo ⟨_,rfl⟩ s5)
   ·rintro ys4 H4 s4 hz6 hr4
    rw[qO] at hr4
    exact q z3 ys4 H4 (s1.free (s2.free (s3.free hz3))) hz6 (zJ.cel hr4) (((s1.trans s2).trans s3).trans s4)
theorem zae:zQ ["board","bare"] ["board"] (zg yt):=⟨rfl,rfl,rfl,by decide +kernel,rfl,by decide +kernel,by decide +kernel⟩
theorem zaf {f1 f2 f3 f4 f5 f6:Addr}{fd1 fd2 fd3 fd4 fd5 fd6:XO}(T:Txt mg)(D:zk K mg "bare_wrong" yt ["board"] f fd)(zH:zk K mg "around" jD ["board","cell"] f1 fd1)(zv:zk K mg "sign_at" qF ["board","cell"] f2 fd2)
  (zC:zk K mg "cells_of" qy ["board"] f3 fd3) (zW:zk K mg "closed_around" qV ["board","cell"] f4 fd4) (zq:zk K mg "open_cells" qt ["board"] f5 fd5) (zR:zk K mg "number_at" jr ["board","cell"] f6 fd6):zI P w K mg base CX0 3 f fd ["board"] (zeB jM):=by
 have Jp:zI P w K mg base CX0 2 f4 fd4 ["board","cell"] zlX:=Z9 T zW zH zv
 have qY:zI P w K mg base CX0 2 f5 fd5 ["board"] (xN Jt):=yF T zq zC zv
 have Je:zI P w K mg base CX0 2 f6 fd6 ["board","cell"] za4:=YJ T zR zv
 refine D.F.ok zae (fun vs H Q E h=>?_) (fun cdv A outer s H vs Q E hr h=>?_)
 ·obtain⟨a,l,rs,n,rfl,_⟩:=h
  rfl
 ·obtain⟨a,l,rs,n,rfl,b,R,q⟩:=h
  refine⟨_,(zd (JF (i:=1) zae.nd rfl rfl (N:=["cell","board"]) (src:=[none,some 0]) (zY.free (O:=(zg yt).names) (XN:=["board","bare"]) rfl rfl ⟨_,rfl⟩ rfl rfl (by decide +kernel) (by decide +kernel) (by decide +kernel) rfl (by decide +kernel)) rfl (zU (zo qY (hr.mono (by decide)) (by rfl) zq.g zq.F.kp zq.b .nil zL (za (pv 0) zb))) (fun _ _ _ _ _=>(zm (i:=0) (by show Xg (["cell","board"]:List Str);decide +kernel) rfl (XM rfl))) (fun _ _ _ _ _=>(qh (zP (zf8 (K:=K) (by rfl) hr.units) (zo Jp (hr.mono (by decide)) (by rfl) zW.g zW.F.kp zW.b .nil zL (za (pv 1) (za (pv 0) zb))) (qu zb) (z9 _)))) (fun _ _ _ _ _=>(pv 0)))
   (zh (zO (qd (N:=["cell","board"]) (src:=[none,some 0]) (zY.free (O:=(zg yt).names) (XN:=["board","bare"]) rfl rfl ⟨_,rfl⟩ rfl rfl (by decide +kernel) (by decide +kernel) (by decide +kernel) rfl (by decide +kernel)) rfl (zU (pv 1)) (fun _ _ _ _ _=>(zm (i:=0) (by show Xg (["cell","board"]:List Str);decide +kernel) rfl (XM rfl))) (fun _ _ _ _ _=>(qh (zP zaa (zo Je (hr.mono (by decide)) (by rfl) zR.g zR.F.kp zR.b .nil zL (za (pv 1) (za (pv 0) zb))) zf (z9 _)))) (fun _ _ _ _ _=>(pv 0)))))),?_⟩
  refine⟨_,rfl,a,l,rs,n,rfl,b,R,fun d ws H1 hd hd1 hc1 s1=>⟨d,rfl,⟨_,SqL.of hd1⟩,fun z hz=>?_⟩⟩
  have b1:=b.mono s1
  refine qI (K:=K) (a:=d) (xs:=ws) (fun a=>a≠z) ((zF rs).map fun o=>if (clA rs o).isEmpty=true then some (zx o) else none) (fun σ=>∃u0,σ=[u0,some (.ref a)]) hz (fun _ h=>h) ⟨_,rfl⟩ (by rw[ZB];exact hc1.length.symm) (by rw[hc1.length];exact X0 (qJ R) (by decide)) (SqL.of hd1) ?_ ?_
  ·rintro k x o σ H2 hx ho s2 hzn ⟨u0,rfl⟩ Y Z yes no
   obtain⟨y,hy,r1⟩:=Cel.get hc1 hx
   have eo:=yN hy ho
   obtain⟨t,sg,ht,hj,_,es⟩:=qe (X2 hy)
   obtain⟨ya,rfl,hya⟩:=r1
   obtain⟨l1,l2⟩:=yO R ht hj
   refine⟨_,rfl,_,rfl,a,l,ya,rs,n,y,rfl,b1.mono s2,R,s2 _ _ hya,l1,l2,fun d2 ws2 H3 hd2 hd3 hc2 s3=>⟨(by show 0<=XU;decide),fun e he=>?_⟩⟩
   have s4:=ze (o:=.lst []) he
   refine⟨.list ((clA rs y).map zx),.list [],.lst (SqL.of (s4 _ _ hd3)) (zJ.rdv (N:=fun _=>True) (Cel.rdn (Cel.mono s4 hc2))),.lst (SqL.of zc) .nil,zfq _ [],_,rfl,?_⟩
   have ee:(if false=true then !PyData.eqv (.list ((clA rs y).map zx)) (.list []) else W2 (.list ((clA rs y).map zx)) (.list []))=(clA rs y).isEmpty:=eq_nil _
   rw[ee]
   by_cases hp:(clA rs y).isEmpty=true
   ·rw[if_pos hp] at eo
    exact JE hp ⟨_,rfl,yes _ _ _ _ eo ⟨_,rfl⟩ (s3.trans s4) (JI.rdn ⟨ya,rfl,s4 _ _ (s3 _ _ (s2 _ _ hya))⟩)⟩
   ·rw[if_neg hp] at eo
    exact xu (by simpa using hp) (no _ _ eo ⟨_,rfl⟩ (s3.trans s4))
  ·rintro ys H2 s2 hz2 hr2
   rw[qO] at hr2
   have hc2:=zJ.cel hr2
   have b2:=b1.mono s2
   refine⟨_,rfl,z,rfl,⟨_,SqL.of hz2⟩,fun z3 hz3=>?_⟩
   refine qI (K:=K) (a:=z) (xs:=ys) (fun a=>a≠z3) (((zF rs).filter fun o=>(clA rs o).isEmpty).map fun o=>if (!decide (Cells.sgn (codes rs) o=48))=true then some (zx o) else none) (fun σ=>∃u0,σ=[u0,some (.ref a)]) hz3 (fun _ h=>h) ⟨_,rfl⟩ (by rw[ZB];exact hc2.length.symm) (by rw[hc2.length];exact X0 (Xz _ _) (X0 (qJ R) (by decide))) (SqL.of hz2) ?_ ?_
   ·rintro k x o σ H4 hx ho s4 _ ⟨u0,rfl⟩ Y Z yes no
    obtain⟨y,hy,r1⟩:=Cel.get hc2 hx
    have eo:=yN hy ho
    obtain⟨t,sg,ht,hj,hpo,es⟩:=qe (XX.mp (X2 hy)).1
    obtain⟨ya,rfl,hya⟩:=r1
    obtain⟨k1,k2⟩:=QZ (zcA R ht hj) hpo
    refine⟨_,rfl,_,rfl,a,l,ya,rs,n,y.1,y.2,t,sg,rfl,b2.mono s4,s4 _ _ hya,ht,hj,R.tlen ht,k1,k2,rfl,_,rfl,?_⟩
    have ed:(!decide (V.int ((sg:Int)-48)=V.int 0))=!decide (Cells.sgn (codes rs) y=48):=by
     rw[es,ze2]
     congr 1
     by_cases h:sg=48
     ·rw[decide_eq_true h,h]
      rfl
     ·rw[decide_eq_false h]
      simp only[beq_eq_false_iff_ne,ne_eq]
      lia
    rw[ed]
    by_cases hp:(!decide (Cells.sgn (codes rs) y=48))=true
    ·rw[if_pos hp] at eo
     exact JE hp ⟨_,rfl,yes _ _ _ _ eo ⟨_,rfl⟩ (zB.refl _) (JI.rdn ⟨ya,rfl,s4 _ _ hya⟩)⟩
    ·rw[if_neg hp] at eo
     exact xu (by simpa using hp) (no _ _ eo ⟨_,rfl⟩ (zB.refl _))
   ·rintro ys4 H4 s4 hz6 hr4
    rw[qO] at hr4
    exact q z3 ys4 H4 (s1.free (s2.free hz3)) hz6 (zJ.cel hr4) ((s1.trans s2).trans s4)
end
noncomputable def zdR:List Nat:=[63,111,35,48,49,50,51,52,53,54,55,56,46]
structure zl0 (ts:List Str)(n:Nat):Prop where
 len:ts.length=n
 mem:∀t∈ts,∃c∈zdR,t=⟨#[c]⟩
theorem zl1 (z:Str)(h:∀c∈z.cps.toList,c∈zdR){i:Int}(h0:0<=i)(h1:i<(z.cps.toList.length:Nat)):∃c,atI z.cps.toList i=some c/\c∈zdR:=by
 have hl:i.toNat<z.cps.toList.length:=by lia
 exact⟨_,jx h0 (X7 hl),h _ (U3 hl)⟩
def zjw:Sp:=fun vs H Q _=>∃a b c:Int,vs=[.int a,.int b,.int c]/\∀(k:Nat) (H':Hp),k∈zdR->zB H H'->Q (.str ⟨#[k]⟩) H'
def zjx:Sp:=fun vs H Q _=>∃(ca:Addr) (i j:Nat) (hi wi:Int),vs=[.ref ca,.int hi,.int wi]/\H ca=some (.tup [.int (i:Nat),.int (j:Nat)])/\(i:Int)<hi/\(j:Int)<wi/\hi<=8/\wi<=8 /\
 ∀(d:Addr) (ws:List V) (cs:List (Nat×Nat)) (H':Hp),H d=none->H' d=some (.lst ws)->Cel H' ws cs->(∀c∈cs,(c.1:Int)<hi/\(c.2:Int)<wi)->cs.length<=8->zB H H'->Q (.ref d) H'
theorem zia:∀d:Nat,d<9->((toString (d:Int):String):Str)=⟨#[48+d]⟩:=by decide +kernel
theorem zq0:∀{d:Nat},d<9->48+d∈bd.cps.toList:=fun {d} h=>by
 have:∀d:Nat,d<9->48+d∈bd.cps.toList:=by decide +kernel
 exact this d h
theorem znu:∀k∈zdR,k≠46->PySem.Txt.replace ⟨#[k]⟩ "o" "?"=⟨#[if k=111 then 63 else k]⟩/\(if k=111 then 63 else k)∈bd.cps.toList:=by decide +kernel
theorem grow {signs:List Nat}{n:Nat}{t:Str}{c:Nat}(r:Row signs n t)(h:c∈signs):Row signs (n+1) (t++⟨#[c]⟩):=by
 have e:(t++(⟨#[c]⟩:Str)).cps=t.cps++#[c]:=rfl
 refine⟨?_,fun d hd=>?_⟩
 ·rw[e,Array.size_append,r.len]
  rfl
 ·rw[e,WI] at hd
  rcases XI.mp hd with hd | hd
  ·exact r.mem d hd
  ·have z:d=c:=by simpa using hd
   rw[z]
   exact h
def zqg (rs:List Str)(cs:List (Nat×Nat)):Prop:=∀c∈cs,∃t k,rs[c.1]?=some t/\t.cps.toList[c.2]?=some k/\48<=k/\k<=56
theorem zo7:∀k∈bd.cps.toList,(!(VY ("012345678":Str) ⟨#[k]⟩ 0 ("012345678":Str).length 1).isEmpty)=decide (48<=k/\k<=56):=by decide +kernel
theorem int_is (k:Nat)(h0:48<=k)(h1:k<=56):∃v,S8 ⟨#[k]⟩=some v:=by
 have:∀d:Nat,d<9->(S8 ⟨#[48+d]⟩).isSome=true:=by decide +kernel
 have e:=this (k-48) (by lia)
 rw[show 48+(k-48)=k by lia] at e
 exact V4.mp e
theorem zib {K:X8}{H:Hp}{vs:List V}{cs:List (Nat×Nat)}(hp:Cel H vs cs):Jm K H vs (cs.map zx):=by
 induction hp with
 | nil=>exact .nil
 | cons h _ ih =>
  exact .cons (JI.rdv h) ih
theorem zo8 (cs:List (Nat×Nat)):Wd (cs.map zx)=true:=by
 induction cs with
 | nil=>rfl
 | cons c r ih =>
  show (Vh (zx c)&&Wd (r.map zx))=true
  rw[ih]
  rfl
theorem zl2 (cs:List (Nat×Nat)):Wg (cs.map zx)<=1:=by
 induction cs with
 | nil=>exact WW _
 | cons c r ih =>
  show max (PyData.depth (zx c)) (Wg (r.map zx))<=1
  have:PyData.depth (zx c)=1:=rfl
  lia
theorem zqh (cs:List (Nat×Nat)):zhJ (.list (cs.map zx)) (.list []):=⟨zo8 cs,rfl,by
 show Wg (cs.map zx)+1<=64
 have:=zl2 cs
 lia⟩
theorem zaq (a b:Str):(a++b).cps.toList=a.cps.toList++b.cps.toList:=by
 have e:(a++b).cps=a.cps++b.cps:=rfl
 rw[e,WI]
theorem zo9 (a b:Str):(a++b).cps.size=a.length+b.length:=by
 have e:(a++b).cps=a.cps++b.cps:=rfl
 rw[e,Array.size_append]
 rfl
theorem zpa (t:Str)(lo hi:Option Int):(JY t lo hi).length<=t.length:=by
 show (JY t lo hi).cps.size<=t.cps.size
 rw[<- X6,<- X6]
 unfold JY
 show (List.take _ (List.drop _ t.cps.toList)).toArray.toList.length<=_
 simp only[TM,XQ,We]
 lia
theorem zl3 {s:List Nat}{n j c:Nat}{t:Str}(r:Row s n t)(hj:j<n)(hc:c∈s):Row s n (JY t none (some (j:Int))++⟨#[c]⟩++JY t (some ((j:Int)+1)) none):=by
 have tl:t.cps.toList.length=n:=by
  rw[X6]
  exact r.len
 have te:t.length=n:=r.len
 have e1:(JY t none (some (j:Int))).cps.toList=t.cps.toList.take j:=by
  have e:HT.sIx t.length t.length (some (j:Int))=j:=by
   rw[HT.QT]
   lia
  unfold JY
  rw[e]
  show ((t.cps.toList.drop 0).take (j-0)).toArray.toList=_
  simp
 have e2:(JY t (some ((j:Int)+1)) none).cps.toList=t.cps.toList.drop (j+1):=by
  have e:HT.sIx t.length 0 (some ((j:Int)+1))=j+1:=by
   have:=HT.QT t.length 0 (j+1)
   rw[UV] at this
   rw[show ((j:Int)+1)=(j:Int)+((1:Nat):Int) from rfl,this]
   lia
  unfold JY
  rw[e]
  show ((t.cps.toList.drop (j+1)).take (t.length-(j+1))).toArray.toList=_
  rw[TM,W8 (by rw[We];lia)]
 refine⟨?_,fun d hd=>?_⟩
 ·rw[<- X6,zaq,zaq,e1,e2,XZ,XZ,XQ,We,tl]
  show min j n+1+(n-(j+1))=n
  lia
 ·rw[zaq,zaq,e1,e2] at hd
  rcases XI.mp hd with hd | hd
  ·rcases XI.mp hd with hd | hd
   ·exact r.mem d (Wo hd)
   ·have z:d=c:=by simpa using hd
    rw[z]
    exact hc
  ·exact r.mem d (Su hd)
def stI (st:Int):Int:=if (if st>0 then st else 0)<64 then (if st>0 then st else 0) else 64
theorem zpb (st:Int):0<=stI st/\stI st<=64:=by
 unfold stI
 split<;>split<;>lia
section
variable {P:Xy}{w:W6}{K:X8}{mg:Str->Option X9}{base:Heap}{f:Addr}{fd:XO}
theorem zgS:zQ ["_law_way","_law_cell","_law_turn"] ["_law_way","_law_cell","_law_turn"] (zg xJ):=⟨rfl,rfl,rfl,by decide +kernel,rfl,by decide +kernel,by decide +kernel⟩
theorem zgT (T:Txt mg)(D:zk K mg "_law_sign" xJ ["_law_way","_law_cell","_law_turn"] f fd):zI P w K mg base CX0 1 f fd ["_law_way","_law_cell","_law_turn"] zjw:=by
 refine D.F.ok zgS (fun vs H Q E h=>?_) (fun cdv A outer s H vs Q E hr h=>?_)
 ·obtain⟨a,b,c,rfl,_⟩:=h
  rfl
 ·obtain⟨a,b,c,rfl,q⟩:=h
  refine⟨_,(zd (jA (zP Jq (pv 0) zf (z9 _)) (zh (zO (zZ ZC jw (zG jB (pv 1) zf) (fun _ _=>rfl)))) qp)
   (zd (jA (zP Jq (pv 0) zf (z9 _)) (zh (zO (zZ ZC jw (zG jB (pv 1) zf) (fun _ _=>rfl)))) qp)
   (zd (jA (zP Jq (zG jB (pv 2) zf) zf (z9 _)) (zh (zO jw)) qp)
   (zd (jA (zP zk1 (zG jB (zG jT (pv 2) zf) zf) zf (z9 _)) (zh (zO jw)) qp)
   (zh (zO (zZ qS (qu (za jw (za jw zb))) (jb zbq (by rfl) T.zc4 VO (za (Zm Jq (zG jB (zG jT (pv 2) zf) zf) zf (z9 _)) zb)) (fun _ _=>rfl)))))))),?_⟩
  refine⟨_,rfl,rfl,_,rfl,zcf (fun _=>?_) (fun _=>?_)⟩
  ·have m0:=Vu b (show (12:Int)≠0 by decide)
   have m1:=VI b (show (0:Int)<12 by decide)
   obtain⟨k,hk,hin⟩:=zl1 "?o#012345678" (by decide +kernel) m0 (R1 m1 (by decide +kernel))
   exact⟨_,rfl,_,_,rfl,rfl,(by show (0:Int)<12;decide),_,_,k,rfl,rfl,(by decide +kernel),hk,q k H hin (zB.refl _)⟩
  refine⟨_,rfl,rfl,_,rfl,zcf (fun _=>?_) (fun _=>?_)⟩
  ·have m0:=Vu b (show (4:Int)≠0 by decide)
   have m1:=VI b (show (0:Int)<4 by decide)
   obtain⟨k,hk,hin⟩:=zl1 ".o?#" (by decide +kernel) m0 (R1 m1 (by decide +kernel))
   exact⟨_,rfl,_,_,rfl,rfl,(by show (0:Int)<4;decide),_,_,k,rfl,rfl,(by decide +kernel),hk,q k H hin (zB.refl _)⟩
  refine⟨_,rfl,_,_,rfl,rfl,(by show (0:Int)<23;decide),rfl,_,rfl,zcf (fun _=>?_) (fun _=>?_)⟩
  ·have e:("#":Str)=⟨#[35]⟩:=by decide +kernel
   show Q (.str "#") H
   rw[e]
   exact q 35 H (by decide) (zB.refl _)
  refine⟨_,rfl,_,_,rfl,rfl,JU.small (by decide) (by decide),_,_,rfl,rfl,(by show (0:Int)<7;decide),_,_,rfl,rfl,_,rfl,zcf (fun _=>?_) (fun _=>?_)⟩
  ·have e:("o":Str)=⟨#[111]⟩:=by decide +kernel
   show Q (.str "o") H
   rw[e]
   exact q 111 H (by decide) (zB.refl _)
  refine⟨(by show 2<=XU;decide),fun p hp=>?_⟩
  have s1:=ze (o:=.lst [.str ".",.str "?"]) hp
  refine⟨_,rfl,_,_,rfl,rfl,JU.small (by decide) (by decide),_,_,rfl,rfl,(by show (0:Int)<4;decide),rfl,.inr ⟨_,rfl,?_⟩⟩
  have e:((".":Str)=⟨#[46]⟩)/\(("?":Str)=⟨#[63]⟩):=by decide +kernel
  have pk:∀b:Bool,∃k,atI [V.str ".",V.str "?"] (if b=true then (1:Int) else 0)=some (.str ⟨#[k]⟩)/\k∈zdR:=fun b=>by
   rw[e.1,e.2]
   cases b with
   | true=>exact⟨63,rfl,by decide⟩
   | false=>exact⟨46,rfl,by decide⟩
  obtain⟨k,hk,hin⟩:=pk (decide (V.int (c/161%4)=V.int 1))
  exact⟨p,_,_,_,rfl,rfl,SqL.of zc,hk,q k _ hin s1⟩
theorem qE:zQ ["_law_script","_law_places","_law_most","_law_way","_law_number","_law_signs_here","_law_shut","_law_k","_law_cell","_law_sign_here"] ["_law_script","_law_places","_law_most"] (zg Jc):=⟨rfl,rfl,rfl,by decide +kernel,rfl,by decide +kernel,by decide +kernel⟩
theorem Zv:zQ ["_law_cell","_law_high","_law_wide","_law_found","_law_row","_law_column"] ["_law_cell","_law_high","_law_wide"] (zg yd):=⟨rfl,rfl,rfl,by decide +kernel,rfl,by decide +kernel,by decide +kernel⟩
theorem qP:zQ ["_law_signs_here","_law_high","_law_wide","_law_rows_here","_law_row","_law_text","_law_column","_law_sign_here","_law_near_here","_law_some"] ["_law_signs_here","_law_high","_law_wide"] (zg xK):=⟨rfl,rfl,rfl,by decide +kernel,rfl,by decide +kernel,by decide +kernel⟩
theorem jN:zQ ["_law_rows_here","_law_cell","_law_spots","_law_k","_law_j","_law_text","_law_sign_here","_law_found"] ["_law_rows_here","_law_cell"] (zg xM):=⟨rfl,rfl,rfl,by decide +kernel,rfl,by decide +kernel,by decide +kernel⟩
theorem xB:zQ ["_law_script","_law_high","_law_wide","_law_most","_law_signs_here","_law_rows_here","_law_stones"] ["_law_script","_law_high","_law_wide","_law_most"] (zg Zs):=⟨rfl,rfl,rfl,by decide +kernel,rfl,by decide +kernel,by decide +kernel⟩
end
def pIn (z:Str)(k:Nat):Bool:=!(VY z ⟨#[k]⟩ 0 z.length 1).isEmpty
def zc9:Sp:=fun vs H Q _=>∃(l:Addr) (rs:List Str) (z:Str),vs=[.ref l,.str z]/\H l=some (.lst (rs.map V.str))/\Rows bd.cps.toList rs /\
 ∀(d:Addr) (ws:List V) (H':Hp),H d=none->H' d=some (.lst ws)->Cel H' ws (Cells.zV (pIn z) 0 (codes rs))->zB H H'->Q (.ref d) H'
def zgU:Sp:=fun vs H Q _=>∃n:Int,vs=[.int n]/\Q (.bl true) H
section
variable {P:Xy}{w:W6}{K:X8}{mg:Str->Option X9}{base:Heap}{f:Addr}{fd:XO}
theorem YK:zQ ["_law_rows_here","_law_signs_here","_law_found","_law_k"] ["_law_rows_here","_law_signs_here"] (zg Jd):=⟨rfl,rfl,rfl,by decide +kernel,rfl,by decide +kernel,by decide +kernel⟩
theorem za5 (T:Txt mg)(D:zk K mg "_law_cells" Jd ["_law_rows_here","_law_signs_here"] f fd):zI P w K mg base CX0 1 f fd ["_law_rows_here","_law_signs_here"] zc9:=by
 refine D.F.ok YK (fun vs H Q E h=>?_) (fun cdv A outer s H vs Q E hr h=>?_)
 ·obtain⟨l,rs,z,rfl,_⟩:=h
  rfl
 ·obtain⟨l,rs,sg,rfl,hl,R,q⟩:=h
  obtain⟨n,n1,n8,ZH⟩:=R.ex
  have rlo:=R.lo
  have r8:=R.hi
  refine⟨_,(zd (zD (i:=2) YK.nd rfl (XM rfl) (qu zb))
   (zd (qA Xd rfl (qR (by rfl) T.ji (za (zz zE (by rfl) T.qN Xh (za (pv 0) zb)) zb)) (zm (i:=3) YK.nd rfl (VF rfl)) (zh (yk (Jr WY UJ UI QU (pv 2) (za (qd (N:=["_law_j","_law_k","_law_signs_here","_law_rows_here"]) (src:=[none,some 3,some 1,some 0]) (zY.free (O:=(zg Jd).names) (XN:=["_law_rows_here","_law_signs_here","_law_found","_law_k"]) rfl rfl ⟨_,rfl⟩ rfl rfl (by decide +kernel) (by decide +kernel) (by decide +kernel) rfl (by decide +kernel)) rfl (qR (by rfl) T.ji (za (zz JD (by rfl) T.qN Xh (za (zZ qS (pv 0) (pv 3) (fun _ _=>rfl)) zb)) zb)) (fun _ _ _ _ _=>(zm (i:=0) (by show Xg (["_law_j","_law_k","_law_signs_here","_law_rows_here"]:List Str);decide +kernel) rfl (XM rfl))) (fun _ _ _ _ _=>(qh (zP QS (zZ ZC (zZ (ZP (K:=K) (by rfl)) (pv 3) (pv 1) (fun _ _=>rfl)) (pv 0) (fun _ _=>rfl)) (pv 2) (by rfl)))) (fun _ _ _ _ _=>(jO (za (pv 1) (za (pv 0) zb))))) zb)))))
   (zh (zO (pv 2))))),?_⟩
  refine⟨(by show 0<=XU;decide),fun sp hsp=>?_⟩
  have s0:zB H (upd H sp (.lst [])):=ze hsp
  have rl:(rs.map V.str).length=rs.length:=ZB _
  have hat:∀{i:Nat} {t:Str},rs[i]?=some t->(rs.map V.str)[i]?=some (V.str t):=fun h=>by rw[XE,h];rfl
  refine⟨_,rfl,l,_,rfl,.inl (SqL.of (s0 _ _ hl)),_,rfl,by lia,by lia,?_⟩
  rw[WV,rl]
  refine ja (lo:=0) (n:=rs.length) (fun i σ H'=>∃(v3:Option V) (ws:List V),σ=[some (.ref l),some (.str sg),some (.ref sp),v3]/\zB H H'/\H' sp=some (.lst ws)/\Cel H' ws (Cells.zV (pIn sg) 0 ((codes rs).take i))) ⟨_,[],rfl,s0,zc,.nil⟩ ?_ ?_
  ·rintro i σ H1 hi ⟨v3,ws,rfl,s1,hp1,hc1⟩
   obtain⟨t,ht⟩:∃t,rs[i]?=some t:=⟨_,X7 hi⟩
   have tm:=X2 ht
   have tl:t.cps.toList.length=n:=by
    rw[X6]
    exact(ZH t tm).len
   have tl2:t.length=n:=(ZH t tm).len
   refine⟨_,rfl,.inl ⟨rfl,_,SqL.of hp1⟩,_,rfl,_,rfl,l,_,_,.str t,rfl,rfl,SqL.of (s1 _ _ hl),jx (by lia) (by rw[show ((0:Int)+(i:Int)).toNat=i by lia];exact hat ht),t,rfl,R.tlen ht,_,rfl,?_,?_,fun z hz=>?_⟩
   ·show -(2^62)<=((t.length:Nat):Int)
    lia
   ·show ((t.length:Nat):Int)<2^62
    lia
   rw[WV,tl2]
   refine JW (lo:=0) (n:=n) (fun j σ' H'=>∃(u0:Option V) (ys:List V),σ'=[u0,some (.int (0+(i:Int))),some (.str sg),some (.ref l)]/\zB H1 H'/\H' z=some (.lst ys)/\Cel H' ys (Cells.qa (pIn sg) i 0 (t.cps.toList.take j))) ⟨_,[],rfl,ze hz,zc,.nil⟩ ?_ ?_
   ·rintro j σ' H2 hj ⟨u0,ys,rfl,s2,hz2,hc2⟩
    obtain⟨k,hk⟩:∃k,t.cps.toList[j]?=some k:=⟨_,X7 (by lia)⟩
    have st:=Cells.YC (p:=pIn sg) (i:=i) hk
    refine⟨_,rfl,_,rfl,l,_,_,.str t,rfl,rfl,SqL.of (s2 _ _ (s1 _ _ hl)),jx (by lia) (by rw[show ((0:Int)+(i:Int)).toNat=i by lia];exact hat ht),_,rfl,t,_,k,rfl,rfl,R.tlen ht,jx (by lia) (by rw[show ((0:Int)+(j:Int)).toNat=j by lia];exact hk),_,rfl,_,_,rfl,rfl,_,rfl,?_⟩
    have hlen:ys.length<=8:=by
     rw[hc2.length]
     have:=Cells.jo (pIn sg) i 0 (t.cps.toList.take j)
     rw[XQ] at this
     lia
    refine zcf (fun kd=>?_) (fun kd=>?_)
    ·rw[if_pos (show pIn sg k=true from kd)] at st
     refine⟨_,rfl,_,rfl,(by show 2<=XU;decide),fun p hp=>?_⟩
     have s3:=ze (o:=.tup [.int (0+(i:Int)),.int (0+(j:Int))]) hp
     refine⟨_,s3 _ _ hz2,XH hlen (by decide),_,ys++[.ref p],rfl,fun b o e=>?_,zc,?_⟩
     ·rw[zu (zj e hz)]
      exact s3 _ _ (s2 _ _ e)
     ·rw[st]
      refine Cel.into z _ (s3 _ _ hz2) (Cel.snoc (Cel.mono s3 hc2) ⟨p,rfl,?_⟩)
      rw[zc,Wi,Wi]
    ·rw[if_neg (show ¬ pIn sg k=true from kd),W4] at st
     refine⟨_,ys,rfl,s2,hz2,?_⟩
     rw[st]
     exact hc2
   ·rintro σ' H2 ⟨u0,ys,rfl,s2,hz2,hc2⟩
    have hp2:=s2 _ _ hp1
    rw[W8 (l:=t.cps.toList) (by lia)] at hc2
    refine⟨sp,z,_,_,rfl,rfl,hp2,hz2,?_,?_⟩
    ·rw[hc1.length,hc2.length]
     have a1:=Cells.jo (pIn sg) i 0 t.cps.toList
     have a2:=Cells.jq (pIn sg) 0 ((codes rs).take i) fun u hu=>R.short u (Wo hu)
     rw[XQ] at a2
     exact X0 (show _<=1000 by lia) (by decide)
    refine⟨_,ws++ys,rfl,fun b o e=>?_,zc,?_⟩
    ·rw[zu (zj e hsp)]
     exact s2 _ _ (s1 _ _ e)
    ·rw[Cells.YD (yw ht)]
     exact Cel.into sp _ hp2 (Cel.append (Cel.mono s2 hc1) hc2)
  ·rintro σ H1 ⟨v3,ws,rfl,s1,hp1,hc1⟩
   rw[W8 (by rw[jG];exact XW _)] at hc1
   exact⟨_,rfl,q sp ws H1 hsp hp1 hc1 s1⟩
end
def tt1 (_:Nat):Bool:=true
noncomputable def za6 (gs:List (List Nat))(i j:Nat):List (Nat×Nat):=(Cells.zV tt1 0 gs).filter fun x=>Cells.near x (i,j)
def zda:Sp:=fun vs H Q _=>∃(ca:Addr) (i j:Nat) (gs:List (List Nat)) (n:Nat),vs=[.ref ca,.int (gs.length:Nat),.int (n:Nat)]/\H ca=some (.tup [.int (i:Nat),.int (j:Nat)])/\gs.length<=8/\n<=8/\i<64/\j<64/\(∀u∈gs,u.length=n) /\
 ∀(d:Addr) (ws:List V) (H':Hp),H d=none->H' d=some (.lst ws)->Cel H' ws (za6 gs i j)->zB H H'->Q (.ref d) H'
theorem zn7 (i:Nat):(if (i:Int)-1>0 then (i:Int)-1 else 0)=((i-1:Nat):Int):=by
 split<;>lia
theorem zn8 (i m:Nat):(if (i:Int)+2<((m:Nat):Int) then (i:Int)+2 else ((m:Nat):Int))=((min (i+2) m:Nat):Int):=by
 split<;>lia
theorem zpc {f:Nat×Nat->Bool}{l:List (Nat×Nat)}{x:Nat×Nat}(a:Bool):(l++(if a=true then [x] else [])).filter f=l.filter f++(if (a&&f x)=true then [x] else []):=by
 rw[XA]
 congr 1
 by_cases h:a=true
 ·by_cases h2:f x=true
  ·simp[h,h2]
  ·simp[h,h2]
 ·simp[h]
section
variable {P:Xy}{w:W6}{K:X8}{mg:Str->Option X9}{base:Heap}{f:Addr}{fd:XO}
theorem za7 (T:Txt mg)(D:zk K mg "_law_near" yd ["_law_cell","_law_high","_law_wide"] f fd):zI P w K mg base CX0 1 f fd ["_law_cell","_law_high","_law_wide"] zda:=by
 refine D.F.ok Zv (fun vs H Q E h=>?_) (fun cdv A outer s H vs Q E hr h=>?_)
 ·obtain⟨ca,i,j,gs,n,rfl,_⟩:=h
  rfl
 ·obtain⟨ca,i,j,gs,n,rfl,hca,h8,w8,i64,j64,hgs,q⟩:=h
  refine⟨_,(zd (zD (i:=3) Zv.nd rfl (XM rfl) (qu zb))
   (zd (qA Xd rfl (QO (by rfl) T.ji (za (zz (ZN rfl) (by rfl) T.zgM UZ (za zf (za (zG ZA (zZ qU (pv 0) zf (fun _ _=>rfl)) zf) zb))) (za (zz (ZO rfl) (by rfl) T.zgN UY (za (pv 1) (za (zG qT (zZ qU (pv 0) zf (fun _ _=>rfl)) zf) zb))) zb))) (zm (i:=4) Zv.nd rfl (XM rfl)) (zh (qA Xd rfl (QO (by rfl) T.ji (za (zz (ZN rfl) (by rfl) T.zgM UZ (za zf (za (zG ZA (zZ qU (pv 0) zf (fun _ _=>rfl)) zf) zb))) (za (zz (ZO rfl) (by rfl) T.zgN UY (za (pv 2) (za (zG qT (zZ qU (pv 0) zf (fun _ _=>rfl)) zf) zb))) zb))) (zm (i:=5) Zv.nd rfl (XM rfl)) (zh (jA (zP (yL hr.units) (jO (za (pv 4) (za (pv 5) zb))) (pv 0) (z9 _)) (zh (yk (Jr WY Wt Ws jj (pv 3) (za (jO (za (pv 4) (za (pv 5) zb))) zb)))) qp)))))
   (zh (zO (pv 3))))),?_⟩
  refine⟨(by show 0<=XU;decide),fun d hd=>?_⟩
  have s0:zB H (upd H d (.lst [])):=ze hd
  refine⟨_,rfl,ca,_,0,_,rfl,rfl,SqT.of (s0 _ _ hca),rfl,_,_,rfl,rfl,0,_,rfl,_,rfl,_,rfl,ca,_,0,_,rfl,rfl,SqT.of (s0 _ _ hca),rfl,_,_,rfl,rfl,_,_,rfl,((i-1:Nat):Int),((min (i+2) gs.length:Nat):Int),?_,⟨by lia,by lia,by lia,by lia⟩,?_⟩
  ·show [V.int (if (i:Int)-1>0 then (i:Int)-1 else 0),V.int (if (i:Int)+2<((gs.length:Nat):Int) then (i:Int)+2 else ((gs.length:Nat):Int))]=_
   rw[zn7,zn8]
  refine ja (lo:=((i-1:Nat):Int)) (fun k σ H'=>∃(v4 v5:Option V) (ws:List V),σ=[some (.ref ca),some (.int (gs.length:Nat)),some (.int (n:Nat)),some (.ref d),v4,v5]/\zB H H'/\H' d=some (.lst ws)/\Cel H' ws ((Cells.zV tt1 0 (gs.take (i-1+k))).filter fun x=>Cells.near x (i,j)))
   ⟨_,_,[],rfl,s0,zc,?_⟩ ?_ ?_
  ·rw[Cells.zgz]
   ·exact .nil
   ·intro r c hr'
    rw[Xc,ne_eq,Cells.yb]
    rintro⟨⟨_,h2⟩,_⟩
    dsimp only at h2
    lia
  ·rintro k σ H1 hk ⟨v4,v5,ws,rfl,s1,hd1,hc1⟩
   have hrl:i-1+k<gs.length:=by lia
   have ecast:((i-1:Nat):Int)+(k:Nat)=((i-1+k:Nat):Int):=by lia
   rw[ecast]
   generalize hr0:i-1+k=r at *
   obtain⟨t,ht⟩:∃t,gs[r]?=some t:=⟨_,X7 hrl⟩
   have tl:t.length=n:=hgs t (X2 ht)
   refine⟨_,rfl,ca,_,1,_,rfl,rfl,SqT.of (s1 _ _ hca),rfl,_,_,rfl,rfl,0,_,rfl,_,rfl,_,rfl,ca,_,1,_,rfl,rfl,SqT.of (s1 _ _ hca),rfl,_,_,rfl,rfl,_,_,rfl,((j-1:Nat):Int),((min (j+2) n:Nat):Int),?_,⟨by lia,by lia,by lia,by lia⟩,?_⟩
   ·show [V.int (if (j:Int)-1>0 then (j:Int)-1 else 0),V.int (if (j:Int)+2<((n:Nat):Int) then (j:Int)+2 else ((n:Nat):Int))]=_
    rw[zn7,zn8]
   refine ja (lo:=((j-1:Nat):Int)) (fun m σ H'=>∃(v5:Option V) (ws:List V),σ=[some (.ref ca),some (.int (gs.length:Nat)),some (.int (n:Nat)),some (.ref d),some (.int (r:Nat)),v5]/\zB H H'/\H' d=some (.lst ws)/\Cel H' ws ((Cells.zV tt1 0 (gs.take r)).filter (fun x=>Cells.near x (i,j))++(Cells.qa tt1 r 0 (t.take (j-1+m))).filter fun x=>Cells.near x (i,j)))
    ⟨_,ws,rfl,s1,hd1,?_⟩ ?_ ?_
   ·rw[Cells.zgA (t:=t),W4]
    ·exact hc1
    ·intro c hc'
     rw[Xc,ne_eq,Cells.yb]
     rintro⟨_,⟨_,h2⟩,_⟩
     dsimp only at h2
     lia
   ·rintro m σ H2 hm ⟨v5,ws2,rfl,s2,hd2,hc2⟩
    have hcl:j-1+m<t.length:=by lia
    have ecast2:((j-1:Nat):Int)+(m:Nat)=((j-1+m:Nat):Int):=by lia
    rw[ecast2]
    generalize hc0:j-1+m=c at *
    have hc0':j-1+(m+1)=c+1:=by lia
    obtain⟨k0,hk0⟩:∃k0,t[c]?=some k0:=⟨_,X7 hcl⟩
    have step:=Cells.YC (p:=tt1) (i:=r) hk0
    have step2:(Cells.qa tt1 r 0 (t.take (c+1))).filter (fun x=>Cells.near x (i,j))=(Cells.qa tt1 r 0 (t.take c)).filter (fun x=>Cells.near x (i,j))++(if (tt1 k0&&Cells.near (r,c) (i,j))=true then [(r,c)] else []):=by
     rw[step,zpc]
    have nr:Cells.near (r,c) (i,j)=!decide ((r,c)=(i,j)):=by
     rw[WU,Cells.yb]
     simp only[WC,decide_eq_false_iff_not]
     constructor
     ·exact fun h=>h.2.2
     ·intro h
      refine⟨⟨?_,?_⟩,⟨?_,?_⟩,h⟩<;>(try dsimp only)<;>lia
    refine⟨_,rfl,_,rfl,(by show 2<=XU;decide),fun tp htp=>?_⟩
    have s3:=ze (o:=.tup [.int (r:Nat),.int (c:Nat)]) htp
    refine⟨_,rfl,zx (r,c),zx (i,j),JI.rdv ⟨tp,rfl,zc⟩,JI.rdv ⟨ca,rfl,s3 _ _ (s2 _ _ hca)⟩,zeA _ _,_,rfl,?_⟩
    have ee:(if true=true then !PyData.eqv (zx (r,c)) (zx (i,j)) else W2 (zx (r,c)) (zx (i,j)))=(tt1 k0&&Cells.near (r,c) (i,j)):=by
     show (!PyData.eqv _ _)=_
     rw[zbG,nr]
     rfl
    rw[ee]
    rw[hc0']
    have hlen:ws2.length<=1000:=by
     rw[hc2.length,XZ]
     have a1:=Xz (fun x=>Cells.near x (i,j)) (Cells.zV tt1 0 (gs.take r))
     have a2:=Xz (fun x=>Cells.near x (i,j)) (Cells.qa tt1 r 0 (t.take c))
     have a3:=Cells.jo tt1 r 0 (t.take c)
     have a4:=Cells.jq tt1 0 (gs.take r) fun u hu=>by
      rw[hgs u (Wo hu)]
      exact w8
     rw[XQ] at a3 a4
     lia
    by_cases hp:(tt1 k0&&Cells.near (r,c) (i,j))=true
    ·rw[if_pos hp] at step2
     refine JE hp ?_
     refine⟨_,rfl,.inl ⟨rfl,_,SqL.of (s3 _ _ hd2)⟩,_,rfl,_,rfl,(by show 2<=XU;decide),fun tq htq=>?_⟩
     have s4:=ze (o:=.tup [.int (r:Nat),.int (c:Nat)]) htq
     have s34:=s3.trans s4
     refine⟨d,_,_,rfl,rfl,s34 _ _ hd2,XH hlen (by decide),?_⟩
     refine⟨_,ws2++[.ref tq],rfl,fun b' o e'=>?_,zc,?_⟩
     ·rw[zu (zj e' hd)]
      exact s34 _ _ (s2 _ _ e')
     ·rw[step2,<- WZ]
      exact Cel.into d _ (s34 _ _ hd2) (Cel.snoc (Cel.mono s34 hc2) ⟨tq,rfl,zc⟩)
    ·rw[if_neg hp,W4] at step2
     refine xu (by simpa using hp) ⟨_,ws2,rfl,s2.trans s3,s3 _ _ hd2,?_⟩
     rw[step2]
     exact Cel.mono s3 hc2
   ·rintro σ H2 ⟨v5,ws2,rfl,s2,hd2,hc2⟩
    refine⟨_,_,ws2,rfl,s2,hd2,?_⟩
    have e:i-1+(k+1)=r+1:=by lia
    rw[e,Cells.YD ht,XA]
    have e2:(Cells.qa tt1 r 0 (t.take (j-1+(((min (j+2) n:Nat):Int)-((j-1:Nat):Int)).toNat))).filter (fun x=>Cells.near x (i,j))=(Cells.qa tt1 r 0 t).filter fun x=>Cells.near x (i,j):=by
     by_cases c1:j-1<min (j+2) n
     ·rw[show j-1+(((min (j+2) n:Nat):Int)-((j-1:Nat):Int)).toNat=min (j+2) n by lia]
      by_cases c2:j+2<=n
      ·rw[PX c2]
       refine Cells.zes fun c hc=>?_
       rw[Xc,ne_eq,Cells.yb]
       rintro⟨_,⟨h2,_⟩,_⟩
       dsimp only at h2
       lia
      ·rw[Nat.min_eq_right (by lia),W8 (by lia)]
     ·rw[W8 (by lia)]
    rw[<- e2]
    exact hc2
  ·rintro σ H1 ⟨v4,v5,ws,rfl,s1,hd1,hc1⟩
   refine⟨_,rfl,q d ws H1 hd hd1 ?_ s1⟩
   have e2:(Cells.zV tt1 0 (gs.take (i-1+(((min (i+2) gs.length:Nat):Int)-((i-1:Nat):Int)).toNat))).filter (fun x=>Cells.near x (i,j))=za6 gs i j:=by
    unfold za6
    by_cases c1:i-1<min (i+2) gs.length
    ·rw[show i-1+(((min (i+2) gs.length:Nat):Int)-((i-1:Nat):Int)).toNat=min (i+2) gs.length by lia]
     by_cases c2:i+2<=gs.length
     ·rw[PX c2]
      refine Cells.zer fun r c hc=>?_
      rw[Xc,ne_eq,Cells.yb]
      rintro⟨⟨h2,_⟩,_⟩
      dsimp only at h2
      lia
     ·rw[Nat.min_eq_right (by lia),W8 (XW _)]
    ·rw[W8 (by lia)]
   rw[<- e2]
   exact hc1
end
theorem zgV {rs:List Str}(i j:Nat):(za6 (codes rs) i j).filter (fun x=>qi (Cells.sgn (codes rs) x))=zK rs (i,j):=by
 unfold za6 zK
 rw[Wj]
 have e:(Cells.zV tt1 0 (codes rs)).filter (fun x=>qi (Cells.sgn (codes rs) x))=Cells.zV qi 0 (codes rs):=by
  rw[Cells.all_filter]
  exact Cells.zb4 (fun c=>by show (true&&qi c)=qi c;rfl) 0 _
 rw[<- e,Wj]
 congr 1
 funext x
 exact Ub _ _
def zeC (g:List Str->Nat×Nat->List (Nat×Nat)):Sp:=fun vs H Q _=>∃(l ca:Addr) (rs:List Str) (c:Nat×Nat),vs=[.ref l,.ref ca]/\H l=some (.lst (rs.map V.str))/\Rows bd.cps.toList rs/\H ca=some (.tup [.int (c.1:Nat),.int (c.2:Nat)])/\c.1<64/\c.2<64 /\
 ∀(d:Addr) (ws:List V) (H':Hp),H d=none->H' d=some (.lst ws)->Cel H' ws (g rs c)->zB H H'->Q (.ref d) H'
section
variable {P:Xy}{w:W6}{K:X8}{mg:Str->Option X9}{base:Heap}{f:Addr}{fd:XO}
theorem zag:zQ ["_law_rows_here","_law_cell","_law_some"] ["_law_rows_here","_law_cell"] (zg yu):=⟨rfl,rfl,rfl,by decide +kernel,rfl,by decide +kernel,by decide +kernel⟩
theorem zdS {f1:Addr}{fd1:XO}(T:Txt mg)(D:zk K mg "_law_around" yu ["_law_rows_here","_law_cell"] f fd)(qk:zk K mg "_law_near" yd ["_law_cell","_law_high","_law_wide"] f1 fd1):zI P w K mg base CX0 2 f fd ["_law_rows_here","_law_cell"] (zeC zK):=by
 have zar:zI P w K mg base CX0 1 f1 fd1 ["_law_cell","_law_high","_law_wide"] zda:=za7 T qk
 refine D.F.ok zag (fun vs H Q E h=>?_) (fun cdv A outer s H vs Q E hr h=>?_)
 ·obtain⟨l,ca,rs,c,rfl,_⟩:=h
  rfl
 ·obtain⟨l,ca,rs,c,rfl,hl,R,hca,i64,j64,q⟩:=h
  obtain⟨n,n1,n8,ZH⟩:=R.ex
  have rlo:=R.lo
  have rhi:=R.hi
  obtain⟨t0,ht0⟩:∃t0,rs[0]?=some t0:=⟨_,X7 (by lia)⟩
  have e0:t0.length=n:=(ZH t0 (X2 ht0)).len
  refine⟨_,(zd (zD (i:=2) zag.nd rfl (XM rfl) (zo zar (hr.mono (by decide)) (by rfl) qk.g qk.F.kp qk.b .nil zL (za (pv 1) (za (zz zE (by rfl) T.qN Xh (za (pv 0) zb)) (za (zz JD (by rfl) T.qN Xh (za (zZ qS (pv 0) zf (fun _ _=>rfl)) zb)) zb)))))
   (zh (zO (qd (N:=["_law_one","_law_rows_here"]) (src:=[none,some 0]) (zY.free (O:=(zg yu).names) (XN:=["_law_rows_here","_law_cell","_law_some"]) rfl rfl ⟨_,rfl⟩ rfl rfl (by decide +kernel) (by decide +kernel) (by decide +kernel) rfl (by decide +kernel)) rfl (zU (pv 2)) (fun _ _ _ _ _=>(zm (i:=0) (by show Xg (["_law_one","_law_rows_here"]:List Str);decide +kernel) rfl (XM rfl))) (fun _ _ _ _ _=>(qh (zP zaa (zZ ZC (zZ (ZP (K:=K) (by rfl)) (pv 1) (zZ (zaM (K:=K) (by rfl)) (pv 0) zf (fun _ _=>rfl)) (fun _ _=>rfl)) (zZ (zaM (K:=K) (by rfl)) (pv 0) zf (fun _ _=>rfl)) (fun _ _=>rfl)) jw (z9 _)))) (fun _ _ _ _ _=>(pv 0)))))),?_⟩
  refine⟨_,rfl,_,rfl,l,_,rfl,.inl (SqL.of hl),_,rfl,l,_,_,.str t0,rfl,rfl,SqL.of hl,jx (by decide) (by rw[XE];show OT V.str rs[0]?=_;rw[ht0];rfl),t0,rfl,R.tlen ht0,ca,c.1,c.2,codes rs,n,?_,hca,?_,n8,i64,j64,?_,fun d ws H1 hd hd1 hc1 s1=>?_⟩
  ·show [V.ref ca,V.int (((rs.map V.str).length:Nat):Int),V.int ((t0.length:Nat):Int)]=_
   rw[ZB,jG,e0]
  ·rw[jG]
   exact rhi
  ·intro u hu
   obtain⟨t,ht,rfl⟩:=Xj.mp hu
   rw[X6]
   exact(ZH t ht).len
  refine⟨_,rfl,d,rfl,⟨_,SqL.of hd1⟩,fun z hz=>?_⟩
  have hsh:(za6 (codes rs) c.1 c.2).length<=64:=X0 (Xz _ _) (qJ R)
  refine qI (K:=K) (a:=d) (xs:=ws) (fun a=>a≠z) ((za6 (codes rs) c.1 c.2).map fun x=>if qi (Cells.sgn (codes rs) x)=true then some (zx x) else none) (fun σ=>∃u0,σ=[u0,some (.ref l)]) hz (fun _ h=>h) ⟨_,rfl⟩ (by rw[ZB];exact hc1.length.symm) (by rw[hc1.length];exact X0 hsh (by decide)) (SqL.of hd1) ?_ ?_
  ·rintro k x o σ H2 hx ho s2 _ ⟨u0,rfl⟩ Y Z yes no
   obtain⟨y,hy,r1⟩:=Cel.get hc1 hx
   have eo:=yN hy ho
   obtain⟨t,sg,ht,hj,_,es⟩:=qe (XX.mp (X2 hy)).1
   obtain⟨ya,rfl,hya⟩:=r1
   have hya2:=s2 _ _ hya
   refine⟨_,rfl,_,rfl,ya,_,0,_,rfl,rfl,SqT.of hya2,rfl,l,_,_,.str t,rfl,rfl,SqL.of (s2 _ _ (s1 _ _ hl)),xX (by rw[XE,ht];rfl),_,rfl,ya,_,1,_,rfl,rfl,SqT.of hya2,rfl,t,_,sg,rfl,rfl,R.tlen ht,xX hj,rfl,_,rfl,?_⟩
   have ed:(!decide (V.str ⟨#[sg]⟩=V.str "#"))=qi sg:=by
    rw[QV]
    simp only[zbH]
    rfl
   rw[ed]
   rw[es] at eo
   by_cases hp:qi sg=true
   ·rw[if_pos hp] at eo
    exact JE hp ⟨_,rfl,yes _ _ _ _ eo ⟨_,rfl⟩ (zB.refl _) (JI.rdn ⟨ya,rfl,hya2⟩)⟩
   ·rw[if_neg hp] at eo
    exact xu (by simpa using hp) (no _ _ eo ⟨_,rfl⟩ (zB.refl _))
  ·rintro ys H2 s2 hz2 hr2
   rw[qO,zgV] at hr2
   exact q z ys H2 (s1.free hz) hz2 (zJ.cel hr2) (s1.trans s2)
end
theorem zl4:∀k∈bd.cps.toList,pIn "012345678" k=Jt k:=by decide +kernel
theorem zl5:∀k∈bd.cps.toList,pIn "?" k=jV k:=by decide +kernel
theorem zgW {p q:Nat->Bool}(i:Nat):∀(j:Nat) (t:List Nat),(∀k∈t,p k=q k)->Cells.qa p i j t=Cells.qa q i j t
 | _,[],_=>rfl
 | j,c::r,h=>by
  rw[Cells.qa,Cells.qa,h c XR,zgW i (j+1) r fun k hk=>h k (XT _ hk)]
theorem zdb {p q:Nat->Bool}:∀(i:Nat) (gs:List (List Nat)),(∀t∈gs,∀k∈t,p k=q k)->Cells.zV p i gs=Cells.zV q i gs
 | _,[],_=>rfl
 | i,t::r,h=>by
  rw[Cells.zV,Cells.zV,zgW i 0 t (h t XR),zdb (i+1) r fun u hu=>h u (XT _ hu)]
theorem Rows.signs {rs:List Str}(R:Rows bd.cps.toList rs):∀t∈codes rs,∀k∈t,k∈bd.cps.toList:=fun t ht k hk=>by
 obtain⟨u,hu,rfl⟩:=Xj.mp ht
 obtain⟨n,_,_,q⟩:=R.ex
 exact(q u hu).mem k hk
theorem zic {rs:List Str}(R:Rows bd.cps.toList rs):Cells.zV (pIn "012345678") 0 (codes rs)=zF rs:=zdb 0 _ fun t ht k hk=>zl4 k (R.signs t ht k hk)
theorem zid {rs:List Str}(R:Rows bd.cps.toList rs):Cells.zV (pIn "?") 0 (codes rs)=zp rs:=zdb 0 _ fun t ht k hk=>zl5 k (R.signs t ht k hk)
noncomputable def toI (c:Nat×Nat):Int×Int:=(((c.1:Nat):Int),((c.2:Nat):Int))
noncomputable def ofI (p:Int×Int):Nat×Nat:=(p.1.toNat,p.2.toNat)
theorem zjy (c:Nat×Nat):ofI (toI c)=c:=rfl
theorem znv {c d:Nat×Nat}(h:toI c=toI d):c=d:=by rw[<- zjy c,h,zjy]
theorem znw {c d:Nat×Nat}:lt2 (toI c) (toI d)=true↔Cells.lex c d:=by
 obtain⟨a,b⟩:=c
 obtain⟨x,y⟩:=d
 unfold lt2 Cells.lex
 show (if ((a:Nat):Int)=((x:Nat):Int) then decide (((b:Nat):Int)<((y:Nat):Int)) else decide (((a:Nat):Int)<((x:Nat):Int)))=true↔a<x\/(a=x/\b<y)
 by_cases e:a=x
 ·rw[if_pos (by lia),decide_eq_true_eq]
  lia
 ·rw[if_neg (by lia),decide_eq_true_eq]
  lia
theorem Cel.tup2 {H:Hp}{vs:List V}{cs:List (Nat×Nat)}(hp:Cel H vs cs):jC H vs (cs.map toI):=by
 induction hp with
 | nil=>exact .nil
 | cons q _ ih =>
  obtain⟨a,e,h⟩:=q
  exact .cons ⟨a,e,h⟩ ih
theorem Jf {H:Hp}:∀{cs:List (Nat×Nat)} {vs:List V},jC H vs (cs.map toI)->Cel H vs cs
 | [],_,.nil=>.nil
 | _::_,_,.cons ⟨a,e,h⟩ t=>.cons ⟨a,e,h⟩ (Jf t)
theorem znx {ps:List (Int×Int)}{cs:List (Nat×Nat)}(h:ps.Perm (cs.map toI)):∃ds:List (Nat×Nat),ps=ds.map toI/\ds.Perm cs:=by
 refine⟨ps.map ofI,?_,?_⟩
 ·rw[WD]
  refine(Sw ps).symm.trans (Xi fun p hp=>?_)
  obtain⟨c,_,rfl⟩:=Xj.mp (h.mem_iff.mp hp)
  rfl
 ·have:=h.map ofI
  rw[WD] at this
  have e:cs.map (ofI∘toI)=cs:=(Xi fun c _=>zjy c).trans (Sw cs)
  rwa [e] at this
theorem zpd {cs:List (Nat×Nat)}(h:Up2 (cs.map toI)):cs.Pairwise Cells.lex:=by
 unfold Up2 at h
 rw[V1] at h
 exact h.imp fun z=>znw.mp z
theorem yV {cs:List (Nat×Nat)}(h:cs.Pairwise Cells.lex):cs.Nodup:=h.imp fun {a b} z e=>by
 subst e
 unfold Cells.lex at z
 lia
def zkt (H:Hp)(v:V)(g:List (Nat×Nat)):Prop:=∃a us,v=V.ref a/\H a=some (.lst us)/\Cel H us g
def yP (H:Hp):List V->List (List (Nat×Nat))->Prop:=W0 (zkt H)
theorem zkt.mono {H H':Hp}{v:V}{g:List (Nat×Nat)}(s:zB H H')(h:zkt H v g):zkt H' v g:=by
 obtain⟨a,us,e,h1,h2⟩:=h
 exact⟨a,us,e,s _ _ h1,h2.mono s⟩
theorem yP.mono {H H':Hp}(s:zB H H'){vs:List V}{gs:List (List (Nat×Nat))}(hp:yP H vs gs):yP H' vs gs:=by
 induction hp with
 | nil=>exact .nil
 | cons h _ ih =>
  exact .cons (h.mono s) ih
theorem yP.get {H:Hp}:∀{vs:List V} {gs:List (List (Nat×Nat))} {i:Nat} {v:V},yP H vs gs->vs[i]?=some v->∃g,gs[i]?=some g/\zkt H v g
 | _,_,_,_,.nil,e=>by simp at e
 | _,_,0,_,.cons r _,e=>by
  simp at e
  subst e
  exact⟨_,rfl,r⟩
 | _,_,i+1,v,.cons _ t,e=>by
  obtain⟨c,h1,h2⟩:=yP.get (i:=i) (v:=v) t (by simpa using e)
  exact⟨c,by simpa using h1,h2⟩
theorem yP.length {H:Hp}{vs:List V}{gs:List (List (Nat×Nat))}(h:yP H vs gs):vs.length=gs.length:=Paired.length h
theorem yP.snoc {H:Hp}{vs:List V}{gs:List (List (Nat×Nat))}{v:V}{g:List (Nat×Nat)}(h:yP H vs gs)(x:zkt H v g):yP H (vs++[v]) (gs++[g]):=Paired.snoc h x
noncomputable def lD (g:List (Nat×Nat)):Wm:=.list (g.map zx)
theorem zeD {p q:Nat->Bool}(h:∀c,p c=true->q c=false)(i:Nat):∀(j:Nat) (t:List Nat),(Cells.qa p i j t).length+(Cells.qa q i j t).length<=t.length
 | _,[]=>XW _
 | j,c::r=>by
  have ih:=zeD h i (j+1) r
  rw[Cells.qa,Cells.qa,XZ,XZ,Xw]
  by_cases hp:p c=true
  ·rw[if_pos hp,if_neg (by rw[h c hp];exact XV)]
   simp only[Xw,Uf]
   lia
  ·rw[if_neg hp]
   split<;>simp only[Xw,Uf]<;>lia
theorem zeE {p q:Nat->Bool}(h:∀c,p c=true->q c=false):∀(i:Nat) (rs:List (List Nat)),(∀t∈rs,t.length<=8)->(Cells.zV p i rs).length+(Cells.zV q i rs).length<=8*rs.length
 | _,[],_=>XW _
 | i,t::r,ht=>by
  have ih:=zeE h (i+1) r fun u hu=>ht u (XT _ hu)
  have h1:=zeD h i 0 t
  have h2:=ht t XR
  rw[Cells.zV,Cells.zV,XZ,XZ,Xw]
  lia
theorem zeF {rs:List Str}(R:Rows bd.cps.toList rs):(zF rs).length+(zp rs).length<=64:=by
 have:=zeE (p:=Jt) (q:=jV) (fun c hc=>by
  unfold Jt at hc
  rw[Wq,WC] at hc
  exact hc.2) 0 (codes rs) R.short
 have h2:=R.hi
 rw[jG] at this
 unfold zF zp
 lia
theorem za8 {p:Nat->Bool}{i:Nat}:∀{j m:Nat} {t:List Nat} {c:Nat},t[m]?=some c->p c=true->(i,j+m)∈Cells.qa p i j t
 | j,m,[],c,h,_=>by simp at h
 | j,0,d::r,c,h,hp=>by
  have e:d=c:=by simpa using h
  subst e
  rw[Cells.qa,if_pos hp]
  exact W1 _ XR
 | j,m+1,d::r,c,h,hp=>by
  rw[Cells.qa]
  refine Xs _ ?_
  have:=za8 (i:=i) (j:=j+1) (m:=m) (t:=r) (c:=c) (by simpa using h) hp
  rwa [show j+1+m=j+(m+1) by lia] at this
theorem za9 {p:Nat->Bool}:∀{i m:Nat} {rs:List (List Nat)} {t:List Nat} {j c:Nat},rs[m]?=some t->t[j]?=some c->p c=true->(i+m,j)∈Cells.zV p i rs
 | i,m,[],t,j,c,h,_,_=>by simp at h
 | i,0,d::r,t,j,c,h,hj,hp=>by
  have e:d=t:=by simpa using h
  subst e
  rw[Cells.zV]
  refine W1 _ ?_
  have:=za8 (i:=i) (j:=0) hj hp
  rwa [show 0+j=j by lia] at this
 | i,m+1,d::r,t,j,c,h,hj,hp=>by
  rw[Cells.zV]
  refine Xs _ ?_
  have:=za9 (i:=i+1) (m:=m) (rs:=r) (t:=t) (j:=j) (c:=c) (by simpa using h) hj hp
  rwa [show i+1+m=i+(m+1) by lia] at this
theorem zeG (rs:List Str)(c:Nat×Nat):(clA rs c).Nodup:=((yV (Cells.xG _ 0 (codes rs))).sublist Ww).sublist Ww
theorem Jg {rs:List Str}{c x:Nat×Nat}(h:x∈clA rs c):x∈zp rs:=by
 unfold clA at h
 obtain⟨h1,h2⟩:=XX.mp h
 obtain⟨t,k,ht,hj,_,es⟩:=qe (XX.mp h1).1
 have e63:k=63:=by
  have:=of_decide_eq_true h2
  lia
 subst e63
 have:=za9 (p:=jV) (i:=0) (yw ht) hj (by decide)
 rwa [V9] at this
noncomputable def heads (gs:List (List (Nat×Nat))):List (Int×Int):=gs.map fun g=>toI (g.headD (0,0))
theorem head_mem {g:List (Nat×Nat)}(h:g ≠ []):g.headD (0,0)∈g:=by
 cases g with
 | nil=>exact absurd rfl h
 | cons a r=>exact XR
theorem zb6:∀{gs:List (List (Nat×Nat))},(∀g∈gs,g ≠ [])->gs.flatten.Nodup->(heads gs).Nodup
 | [],_,_=>TY
 | g::r,h,nd=>by
  rw[Wz,Wp] at nd
  obtain⟨_,h2,h3⟩:=nd
  unfold heads
  rw[Xb,VM]
  refine⟨fun hm=>?_,zb6 (fun x hx=>h x (XT _ hx)) h2⟩
  obtain⟨g2,hg2,e⟩:=Xj.mp hm
  have e':=znv e
  have m1:=head_mem (h g XR)
  have m2:=head_mem (h g2 (XT _ hg2))
  rw[e'] at m2
  exact h3 _ m1 _ (WA.mpr ⟨g2,hg2,m2⟩) rfl
noncomputable def JJ (rs:List Str)(part:List (Nat×Nat)):List (Nat×Nat):=(zF rs).filter fun o=>((zK rs o).map fun z=>part.any fun x=>decide (x=z)).any id
def zl6:Sp:=fun vs H Q _=>∃(a l pa:Addr) (rs:List Str) (n:Int) (ps:List V) (part:List (Nat×Nat)),vs=[.ref a,.ref pa]/\qj H a l rs n/\Rows bd.cps.toList rs/\H pa=some (.lst ps)/\Cel H ps part /\
 ∀(d:Addr) (ws:List V) (H':Hp),H d=none->H' d=some (.lst ws)->Cel H' ws (JJ rs part)->zB H H'->Q (.ref d) H'
section
variable {P:Xy}{w:W6}{K:X8}{mg:Str->Option X9}{base:Heap}{f:Addr}{fd:XO}
theorem zdT:zQ ["board","part"] ["board","part"] (zg jP):=⟨rfl,rfl,rfl,by decide +kernel,rfl,by decide +kernel,by decide +kernel⟩
theorem zdU {f1 f2 f3 f5:Addr}{fd1 fd2 fd3 fd5:XO}(T:Txt mg)(D:zk K mg "numbers_of" jP ["board","part"] f fd)(zH:zk K mg "around" jD ["board","cell"] f1 fd1)(zv:zk K mg "sign_at" qF ["board","cell"] f2 fd2)
  (zC:zk K mg "cells_of" qy ["board"] f3 fd3) (zq:zk K mg "open_cells" qt ["board"] f5 fd5):zI P w K mg base CX0 3 f fd ["board","part"] zl6:=by
 have xA:zI P w K mg base CX0 1 f1 fd1 ["board","cell"] Z6:=Z8 T zH
 have qY:zI P w K mg base CX0 2 f5 fd5 ["board"] (xN Jt):=yF T zq zC zv
 refine D.F.ok zdT (fun vs H Q E h=>?_) (fun cdv A outer s H vs Q E hr h=>?_)
 ·obtain⟨a,l,pa,rs,n,ps,part,rfl,_⟩:=h
  rfl
 ·obtain⟨a,l,pa,rs,n,ps,part,rfl,b,R,hpa,hpt,q⟩:=h
  refine⟨_,(zh (zO (qd (N:=["cell","part","board"]) (src:=[none,some 1,some 0]) (zY.free (O:=(zg jP).names) (XN:=["board","part"]) rfl rfl ⟨_,rfl⟩ rfl rfl (by decide +kernel) (by decide +kernel) (by decide +kernel) rfl (by decide +kernel)) rfl (zU (zo qY (hr.mono (by decide)) (by rfl) zq.g zq.F.kp zq.b .nil zL (za (pv 0) zb))) (fun _ _ _ _ _=>(zm (i:=0) (by show Xg (["cell","part","board"]:List Str);decide +kernel) rfl (XM rfl))) (fun _ _ _ _ _=>(qh (zbs (K:=K) (by rfl) (zz (zed (K:=K) (by rfl) (by rfl)) (by rfl) T.zlU SL (za (qd (N:=["place","part"]) (src:=[none,some 1]) (zY.byRfl rfl (by decide +kernel) (by decide +kernel) (by rfl) rfl (by rfl)) (by rfl) (zgg (K:=K) (by rfl) (zo xA (hr.mono (by decide)) (by rfl) zH.g zH.F.kp zH.b .nil zL (za (pv 2) (za (pv 0) zb)))) (fun _ _ _ _ _=>(zm (i:=0) (by show Xg (["place","part"]:List Str);decide +kernel) rfl (XM rfl))) (fun _ _ _ _ _=>qL) (fun _ _ _ _ _=>(Zm (jL (K:=K) (by rfl) hr.units) (pv 0) (pv 1) (by rfl)))) zb)) (fun _=>rfl)))) (fun _ _ _ _ _=>(pv 0))))),?_⟩
  refine⟨_,rfl,a,l,rs,n,rfl,b,R,fun d ws H1 hd hd1 hc1 s1=>⟨d,rfl,⟨_,SqL.of hd1⟩,fun z hz=>?_⟩⟩
  have b1:=b.mono s1
  refine qI (K:=K) (a:=d) (xs:=ws) (fun a=>a≠z) ((zF rs).map fun o=>if (((zK rs o).map fun z=>part.any fun x=>decide (x=z)).any id)=true then some (zx o) else none) (fun σ=>∃u0,σ=[u0,some (.ref pa),some (.ref a)]) hz (fun _ h=>h) ⟨_,rfl⟩ (by rw[ZB];exact hc1.length.symm) (by rw[hc1.length];exact X0 (qJ R) (by decide)) (SqL.of hd1) ?_ ?_
  ·rintro k x o σ H2 hx ho s2 hzn ⟨u0,rfl⟩ Y Z yes no
   obtain⟨y,hy,r1⟩:=Cel.get hc1 hx
   have eo:=yN hy ho
   obtain⟨t,sg,ht,hj,_,es⟩:=qe (X2 hy)
   obtain⟨ya,rfl,hya⟩:=r1
   obtain⟨l1,l2⟩:=yO R ht hj
   refine⟨_,rfl,_,rfl,a,l,ya,rs,n,y.1,y.2,rfl,b1.mono s2,R,s2 _ _ hya,l1,l2,fun d2 ws2 H3 hd2 hd3 hc2 s3=>⟨d2,rfl,⟨_,SqL.of hd3⟩,fun z5 hz5=>?_⟩⟩
   refine qI (K:=K) (a:=d2) (xs:=ws2) (fun a=>a≠z5) ((zK rs y).map fun c=>some (.bool (part.any fun x=>decide (x=c)))) (fun σ=>∃u0,σ=[u0,some (.ref pa)]) hz5 (fun _ h=>h) ⟨_,rfl⟩ (by rw[ZB];exact hc2.length.symm) (by rw[hc2.length];exact X0 (xZ R y) (by decide)) (SqL.of hd3) ?_ ?_
   ·rintro m v o2 σ H5 hv ho2 s5 _ ⟨u1,rfl⟩ Y2 Z2 yes2 no2
    obtain⟨c,hc,rc⟩:=Cel.get (Cel.mono s5 hc2) hv
    have eo2:=yN hc ho2
    have sA:=((s1.trans s2).trans s3).trans s5
    refine Zo ⟨_,rfl,_,rfl,zx c,part.map zx,rc.rdv,.lst (SqL.of (sA _ _ hpa)) (zJ.rdv (N:=fun _=>True) (Cel.rdn (Cel.mono sA hpt))),rfl,zfp _,(by show 1<=60;decide),?_⟩
    have ei:(if false=true then !(part.map zx).any (fun z=>W2 z (zx c)) else (part.map zx).any fun z=>W2 z (zx c))=part.any fun z=>decide (z=c):=J9 _ _
    rw[ei]
    exact yes2 _ _ _ _ eo2 ⟨_,rfl⟩ (zB.refl _) (.bl _)
   ·rintro ys5 H5 s5 hz6 hr5
    rw[J8,show ((zK rs y).map fun c=>Tk (part.any fun x=>decide (x=c)))=((zK rs y).map fun c=>part.any fun x=>decide (x=c)).map Tk by rw[WD];rfl] at hr5
    rw[zJ.bools hr5] at hz6
    refine⟨z5,_,rfl,SqL.of hz6,_,rfl,?_⟩
    by_cases hp:(((zK rs y).map fun z=>part.any fun x=>decide (x=z)).any id)=true
    ·rw[if_pos hp] at eo
     exact JE hp ⟨_,rfl,yes _ _ _ _ eo ⟨_,rfl⟩ (s3.trans s5) (JI.rdn ⟨ya,rfl,s5 _ _ (s3 _ _ (s2 _ _ hya))⟩)⟩
    ·rw[if_neg hp] at eo
     exact xu (by simpa using hp) (no _ _ eo ⟨_,rfl⟩ (s3.trans s5))
  ·rintro ys H2 s2 hz2 hr2
   rw[qO] at hr2
   exact q z ys H2 (s1.free hz) hz2 (zJ.cel hr2) (s1.trans s2)
end
theorem zie {cl:Nat×Nat->List (Nat×Nat)}{done:List (Nat×Nat)}{gs:List (List (Nat×Nat))}{o:Nat×Nat}(G:Parts.Good cl done gs)(h:cl o ≠ [])(hn:(cl o).Nodup){w:List (Nat×Nat)}(hs:w.Pairwise Cells.lex)(hw:∀x,x∈w↔x∈cl o\/∃g∈gs,Parts.meets (cl o) g=true/\x∈g):Parts.Good cl (done++[o]) ((gs.filter fun g=>!Parts.meets (cl o) g)++[w]):=by
 refine G.step h hn ?_ ?_ hs
 ·refine V0 fun g hg=>?_
  congr 1
  rw[WU,WS]
  constructor
  ·exact fun z=>⟨g,XX.mpr ⟨hg,z⟩,decide_eq_true rfl⟩
  ·rintro⟨m,hm,e⟩
   have e':m=g:=of_decide_eq_true e
   subst e'
   exact(XX.mp hm).2
 ·refine(VX (yV hs) (Parts.Qo hn fun m hm=>G.nd.sublist (VG (XX.mp hm).1))).mpr fun x=>?_
  rw[hw,Parts.zbC]
  constructor
  ·rintro(z | ⟨g,h1,h2,h3⟩)
   ·exact .inl z
   ·exact .inr ⟨g,XX.mpr ⟨h1,h2⟩,h3⟩
  ·rintro(z | ⟨g,h1,h3⟩)
   ·exact .inl z
   ·exact .inr ⟨g,(XX.mp h1).1,(XX.mp h1).2,h3⟩
theorem zku (cs g:List (Nat×Nat)):(cs.map fun c=>g.any fun z=>decide (z=c)).any id=Parts.meets cs g:=by
 rw[WU,Parts.Z0,US,WS]
 constructor
 ·rintro⟨c,h1,h2⟩
  have h2':(g.any fun z=>decide (z=c))=true:=h2
  obtain⟨z,h3,h4⟩:=WS.mp h2'
  have e:z=c:=of_decide_eq_true h4
  subst e
  exact⟨z,h3,h1⟩
 ·rintro⟨x,h1,h2⟩
  refine⟨x,h2,?_⟩
  show (g.any fun z=>decide (z=x))=true
  exact WS.mpr ⟨x,h1,decide_eq_true rfl⟩
noncomputable def Zw (p:List (Nat×Nat)->Bool):List V->List (List (Nat×Nat))->List V
 | v::vs,g::gs=>if p g=true then v::Zw p vs gs else Zw p vs gs
 | _,_=>[]
theorem Yb (p:List (Nat×Nat)->Bool):∀(vs:List V) (gs:List (List (Nat×Nat))),(Zw p vs gs).Sublist vs
 | [],_=>List.nil_sublist _
 | _::_,[]=>List.nil_sublist _
 | v::vs,g::gs=>by
  rw[Zw]
  split
  ·exact(Yb p vs gs).cons_cons v
  ·exact(Yb p vs gs).cons v
theorem zas {H:Hp}(p:List (Nat×Nat)->Bool):∀{vs:List V} {gs:List (List (Nat×Nat))},yP H vs gs->yP H (Zw p vs gs) (gs.filter p)
 | _,_,.nil=>.nil
 | _,_,.cons (a:=v) (b:=g) h t=>by
  rw[Zw,Xl]
  by_cases hp:p g=true
  ·rw[if_pos hp,if_pos hp]
   exact .cons h (zas p t)
  ·rw[if_neg hp,if_neg hp]
   exact zas p t
theorem zif (p:List (Nat×Nat)->Bool){vs:List V}{gs:List (List (Nat×Nat))}{i:Nat}{v:V}{g:List (Nat×Nat)}(h1:vs[i]?=some v)(h2:gs[i]?=some g):Zw p (vs.take (i+1)) (gs.take (i+1))=Zw p (vs.take i) (gs.take i)++if p g=true then [v] else []:=by
 induction vs generalizing gs i with
 | nil=>cases h1
 | cons w vs ih =>
  cases gs with
  | nil=>cases h2
  | cons k gs =>
   cases i with
   | zero =>
    cases h1
    cases h2
    simp[Zw]
   | succ i =>
    rw[UD,UD,UD,UD,Zw,Zw,ih h1 h2]
    split<;>rfl
theorem zfr {m:List (Int×Int)}{l:List (Nat×Nat)}(h:∀c∈m,c∈l.map toI):m=(m.map ofI).map toI:=by
 rw[WD]
 refine(Sw m).symm.trans (Xi fun c hc=>?_)
 obtain⟨x,_,rfl⟩:=Xj.mp (h c hc)
 rfl
def zgX:Sp:=fun vs H Q _=>∃(ga ca:Addr) (ws us:List V) (gs:List (List (Nat×Nat))) (cs B:List (Nat×Nat)),vs=[.ref ga,.ref ca]/\H ga=some (.lst ws)/\yP H ws gs/\H ca=some (.lst us)/\Cel H us cs/\cs.Nodup/\gs.flatten.Nodup/\(∀x∈cs,x∈B)/\(∀x∈gs.flatten,x∈B)/\(∀x∈B,x.1<8/\x.2<8)/\B.length<=63/\gs.length<=63 /\
 (cs=[]->∀H',zB H H'->Q (.ref ga) H') /\
 (cs ≠ []->∀(d wa:Addr) (va:List V) (w:List (Nat×Nat)) (H':Hp),H d=none->H wa=none->H' d=some (.lst (va++[.ref wa]))->va.Sublist ws->yP H' (va++[.ref wa]) ((gs.filter fun g=>!Parts.meets cs g)++[w])->w.Pairwise Cells.lex->(∀x,x∈w↔x∈cs\/∃g∈gs,Parts.meets cs g=true/\x∈g)->zB H H'->Q (.ref d) H')
section
variable {P:Xy}{w:W6}{K:X8}{mg:Str->Option X9}{base:Heap}{f:Addr}{fd:XO}
theorem Q0:zQ ["groups","cells","apart","together","group"] ["groups","cells"] (zg Z3):=⟨rfl,rfl,rfl,by decide +kernel,rfl,by decide +kernel,by decide +kernel⟩
theorem zkv (T:Txt mg)(D:zk K mg "joined" Z3 ["groups","cells"] f fd):zI P w K mg base CX0 1 f fd ["groups","cells"] zgX:=by
 refine D.F.ok Q0 (fun vs H Q E h=>?_) (fun cdv A outer s H vs Q E hr h=>?_)
 ·obtain⟨ga,ca,ws,us,gs,cs,B,rfl,_⟩:=h
  rfl
 ·obtain⟨ga,ca,ws,us,gs,cs,B,rfl,hga,hG,hca,hC,cnd,gnd,cB,gB,B8,B63,g63,q1,q2⟩:=h
  have cl63:cs.length<=63:=X0 (Parts.yp cnd cB) B63
  have fl63:gs.flatten.length<=63:=X0 (Parts.yp gnd gB) B63
  refine⟨_,(zd (jA (zP (Ys hr.units) (pv 1) (qu zb) (z9 _)) (zh (zO (pv 0))) qp)
   (zd (zD (i:=2) Q0.nd rfl (XM rfl) (qu zb))
   (zd (zD (i:=3) Q0.nd rfl (XM rfl) (jb Yr (by rfl) T.zfm Ui (za (pv 1) zb)))
   (zd (qA Xd rfl (zU (pv 0)) (zm (i:=4) Q0.nd rfl (VF rfl)) (zh (jA (JT (zz (zgd rfl) (by rfl) T.zlU SL (za (qd (N:=["cell","group"]) (src:=[none,some 4]) (zY.free (O:=(zg Z3).names) (XN:=["groups","cells","apart","together","group"]) rfl rfl ⟨_,rfl⟩ rfl rfl (by decide +kernel) (by decide +kernel) (by decide +kernel) rfl (by decide +kernel)) rfl (zU (pv 1)) (fun _ _ _ _ _=>(zm (i:=0) (by show Xg (["cell","group"]:List Str);decide +kernel) rfl (XM rfl))) (fun _ _ _ _ _=>qL) (fun _ _ _ _ _=>(Zm (jL (K:=K) (by rfl) hr.units) (pv 0) (pv 1) (by rfl)))) zb)) (fun _=>rfl)) (zh (yk (Jr WY UJ UI QU (pv 3) (za (pv 4) zb)))) (zh (yk (Jr WY Wt Ws jj (pv 2) (za (pv 4) zb)))))))
   (zh (zO (zG zam (pv 2) (qu (za (zz (ST.zdO hr.hd) (by rfl) T.za3 UH (za (jb (ST.zkg hr.units hr.hd) (by rfl) T.zqd PyProof.Rows.boot_set (za (pv 3) zb)) zb)) zb))))))))),?_⟩
  refine⟨_,rfl,(by show 0<=XU;decide),fun e he=>?_⟩
  have s1:zB H (upd H e (.lst [])):=ze he
  refine⟨lD cs,.list [],.lst (SqL.of (s1 _ _ hca)) (zib (hC.mono s1)),.lst (SqL.of zc) .nil,zfq _ [],_,rfl,?_⟩
  have en:(if false=true then !PyData.eqv (lD cs) (.list []) else W2 (lD cs) (.list []))=cs.isEmpty:=by
   show W2 _ _=_
   exact eq_nil cs
  rw[en]
  by_cases zkw:cs=[]
  ·rw[show cs.isEmpty=true by rw[zkw];rfl]
   exact Qi ⟨_,rfl,q1 zkw _ s1⟩
  rw[show cs.isEmpty=false by rw[UX];exact zkw]
  refine Qd ?_
  generalize upd H e (.lst [])=H1 at *
  refine⟨(by show 0<=XU;decide),fun ap hap=>?_⟩
  have s2:=s1.trans (ze (o:=.lst []) hap)
  have ha2:upd H1 ap (.lst []) ap=some (.lst []):=zc
  have hap0:=s1.free hap
  generalize upd H1 ap (.lst [])=H2 at *
  refine⟨_,rfl,ca,_,rfl,.inl (SqL.of (s2 _ _ hca)),fun tg htg=>?_⟩
  have z3:=ze (o:=.lst us) htg
  have s3:=s2.trans z3
  have ha3:=z3 _ _ ha2
  have ht3:upd H2 tg (.lst us) tg=some (.lst us):=zc
  have htg0:=s2.free htg
  have nat:ap≠tg:=zj ha2 htg
  generalize upd H2 tg (.lst us)=H3 at *
  refine⟨_,rfl,ga,rfl,⟨_,SqL.of (s3 _ _ hga)⟩,?_⟩
  refine jS (K:=K) (a:=ga) (xs:=ws) (fun i σ H'=>∃(ut:List V) (v4:Option V),σ=[some (.ref ga),some (.ref ca),some (.ref ap),some (.ref tg),v4]/\zB H H'/\H' ap=some (.lst (Zw (fun g=>!Parts.meets cs g) (ws.take i) (gs.take i)))/\H' tg=some (.lst ut)/\Cel H ut (cs++((gs.take i).filter (Parts.meets cs)).flatten))
   ⟨us,_,rfl,s3,ha3,ht3,by simpa using hC⟩ (fun i σ H' _ ⟨_,_,_,z,_⟩=>SqL.of (z _ _ hga)) ?_ ?_
  ·rintro i x σ H4 hx ⟨ut,v4,rfl,s4,ha4,ht4,hct⟩
   obtain⟨g,hg,gad,ug,rfl,hgad,hcg⟩:=yP.get hG hx
   have gm:=X2 hg
   have tk:(gs.take (i+1)).filter (Parts.meets cs)=(gs.take i).filter (Parts.meets cs)++if Parts.meets cs g=true then [g] else []:=by
    rw[XJ,hg,XA]
    congr 1
    show [g].filter _=_
    rw[Xl]
    rfl
   have pk:=zif (fun g=>!Parts.meets cs g) hx hg
   refine⟨_,rfl,ca,rfl,⟨_,SqL.of (s4 _ _ hca)⟩,fun z hz=>?_⟩
   refine qI (K:=K) (a:=ca) (xs:=us) (fun a=>a≠z) (cs.map fun c=>some (.bool (g.any fun z=>decide (z=c)))) (fun σ=>∃u0,σ=[u0,some (.ref gad)]) hz (fun _ h=>h) ⟨_,rfl⟩ (by rw[ZB];exact hC.length.symm) (by rw[hC.length];exact X0 cl63 (by decide)) (SqL.of (s4 _ _ hca)) ?_ ?_
   ·rintro m v o σ H5 hv ho s5 _ ⟨u1,rfl⟩ Y Z yes no
    have s05:=s4.trans s5
    obtain⟨c,hc,rc⟩:=Cel.get (hC.mono s05) hv
    have eo:=yN hc ho
    refine Zo ⟨_,rfl,_,rfl,zx c,g.map zx,rc.rdv,.lst (SqL.of (s05 _ _ hgad)) (zib (hcg.mono s05)),rfl,zfp _,(by show 1<=60;decide),?_⟩
    have ei:(if false=true then !(g.map zx).any (fun z=>W2 z (zx c)) else (g.map zx).any fun z=>W2 z (zx c))=g.any fun z=>decide (z=c):=J9 _ _
    rw[ei]
    exact yes _ _ _ _ eo ⟨_,rfl⟩ (zB.refl _) (.bl _)
   ·rintro ys H5 s5 hz5 hr5
    rw[J8,show (cs.map fun c=>Tk (g.any fun z=>decide (z=c)))=(cs.map fun c=>g.any fun z=>decide (z=c)).map Tk by rw[WD];rfl] at hr5
    rw[zJ.bools hr5] at hz5
    refine⟨z,_,rfl,SqL.of hz5,_,rfl,?_⟩
    rw[zku]
    have s05:=s4.trans s5
    have ha5:=s5 _ _ ha4
    have ht5:=s5 _ _ ht4
    have gsub:∀(q:List (Nat×Nat)->Bool) (j:Nat),(((gs.take j).filter q).flatten).length<=63:=fun q j=>by
     refine X0 (VB ?_) fl63
     refine List.Sublist.trans (Parts.jf q (gs.take j)) ?_
     have e2:gs=gs.take j++gs.drop j:=(WR j gs).symm
     conv=>rhs;rw[e2,Wv]
     exact Vl _ _
    by_cases hp:Parts.meets cs g=true
    ·refine JE hp ?_
     refine⟨_,rfl,.inl ⟨rfl,_,SqL.of ht5⟩,_,rfl,tg,gad,ut,ug,rfl,rfl,ht5,s05 _ _ hgad,?_,?_⟩
     ·rw[hct.length,hcg.length,XZ]
      have a1:=gsub (Parts.meets cs) i
      have a2:g.length<=63:=X0 (VB (VG gm)) fl63
      exact X0 (show _<=200 by lia) (by decide)
     ·refine⟨ut++ug,_,rfl,fun b o eb=>?_,?_,zc,?_⟩
      ·rw[zu (zj eb htg0)]
       exact s05 _ _ eb
      ·rw[zu nat,pk,hp]
       simpa using ha5
      ·rw[tk,if_pos hp,Wv,<- WZ]
       simpa using Cel.append hct hcg
    ·have hp2:=Xc.mpr hp
     refine xu hp2 ?_
     refine⟨_,rfl,.inl ⟨rfl,_,SqL.of ha5⟩,_,rfl,ap,_,_,rfl,rfl,ha5,?_,?_⟩
     ·refine XH (VB ((Yb _ _ _).trans (UR _ _))) ?_
      rw[hG.length]
      exact XH g63 (by decide)
     ·refine⟨ut,_,rfl,fun b o eb=>?_,?_,?_,?_⟩
      ·rw[zu (zj eb hap0)]
       exact s05 _ _ eb
      ·rw[zc,pk,hp2]
       rfl
      ·rw[zu (T7 nat)]
       exact ht5
      ·rw[tk,if_neg hp,W4]
       exact hct
  ·rintro σ H4 ⟨ut,v4,rfl,s4,ha4,ht4,hct⟩
   rw[XG,hG.length,XG] at ha4
   rw[hG.length,XG] at hct
   generalize hl:cs++(gs.filter (Parts.meets cs)).flatten=l at hct
   have lB:∀x∈l,x∈B:=fun x hx=>by
    rw[<- hl] at hx
    rcases XI.mp hx with hx | hx
    ·exact cB x hx
    ·exact gB x ((Parts.jf _ gs).subset hx)
   refine⟨_,rfl,_,rfl,tg,ut,_,rfl,SqL.of ht4,Cel.tup2 (hct.mono s4),(fun p hp=>?_),(fun m hm hs=>?_),fun ds ks hds hT hnd hmem=>?_⟩
   ·obtain⟨x,hx,rfl⟩:=Xj.mp hp
    have:=B8 x (lB x hx)
    unfold ST.InB toI
    show (0<=((x.1:Nat):Int)/\((x.1:Nat):Int)<8)/\(0<=((x.2:Nat):Int)/\((x.2:Nat):Int)<8)
    lia
   ·have h1:=zfr hs
    have h2:(m.map ofI).Nodup:=by
     rw[h1] at hm
     unfold Xg at hm ⊢
     rw[V1] at hm
     exact hm.imp fun z e=>z (by rw[e])
    have h3:=Parts.yp (b:=B) h2 fun x hx=>by
     obtain⟨c,hc,rfl⟩:=Xj.mp hx
     obtain⟨y,hy,rfl⟩:=Xj.mp (hs c hc)
     exact lB y hy
    rw[ZB] at h3
    lia
   have z5:=ze (o:=ST.zgv P w ds ks) hds
   have hks:∀c∈ks.map (·.2),c∈l.map toI:=fun c hc=>(hmem c).mp hc
   have kl:ks.length<=63:=by
    have h1:=zfr hks
    have h2:((ks.map (·.2)).map ofI).Nodup:=by
     rw[h1] at hnd
     unfold Xg at hnd ⊢
     rw[V1] at hnd
     exact hnd.imp fun z e=>z (by rw[e])
    have h3:=Parts.yp (b:=B) h2 fun x hx=>by
     obtain⟨c,hc,rfl⟩:=Xj.mp hx
     obtain⟨y,hy,rfl⟩:=Xj.mp (hks c hc)
     exact lB y hy
    rw[ZB,ZB] at h3
    lia
   have hds5:upd H4 ds (ST.zgv P w ds ks) ds=some (ST.zgv P w ds ks):=zc
   have s5:=s4.trans z5
   have ha5:=z5 _ _ ha4
   have hT5:∀q∈ks,upd H4 ds (ST.zgv P w ds ks) q.1=some (.tup [.int q.2.1,.int q.2.2]):=fun q hq=>z5 _ _ (hT q hq)
   refine⟨ds,ks,rfl,hds5,hT5,hnd,(by lia),fun wa us' ps' hwa ht zb7 hup=>?_⟩
   rw[zfr hks] at zb7
   obtain⟨wc,rfl,hperm2⟩:=znx zb7
   have z6:=ze (o:=.lst us') hwa
   refine⟨(by show 1<=XU;decide),fun p1 hp1=>?_⟩
   have z7:=ze (o:=.lst [V.ref wa]) hp1
   have z67:=z6.trans z7
   refine⟨ap,p1,_,[.ref wa],rfl,rfl,z67 _ _ ha5,zc,?_,fun k2 hk2=>?_⟩
   ·have a1:(Zw (fun g=>!Parts.meets cs g) ws gs).length<=63:=X0 (VB (Yb _ _ _)) (by rw[hG.length];exact g63)
    exact X0 (show _+1<=200 by lia) (by decide)
   ·have z8:=ze (o:=.lst (Zw (fun g=>!Parts.meets cs g) ws gs++[.ref wa])) hk2
    have s8:=s5.trans (z67.trans z8)
    refine q2 zkw k2 wa _ wc _ ((s5.trans z67).free hk2) (s5.free hwa) zc (Yb _ _ _) ?_ (zpd hup) (fun x=>?_) s8
    ·exact yP.snoc ((zas _ hG).mono s8) ⟨wa,us',rfl,z8 _ _ (z7 _ _ zc),Cel.mono (z67.trans z8) (Jf ht)⟩
    ·rw[hperm2.mem_iff,Xj]
     have hx:(∃a,a∈ks.map (·.2)/\ofI a=x)↔x∈l:=by
      constructor
      ·rintro⟨c,hc,rfl⟩
       obtain⟨y,hy,rfl⟩:=Xj.mp (hks c hc)
       exact hy
      ·intro h
       exact⟨toI x,(hmem _).mpr (Xj.mpr ⟨x,h,rfl⟩),rfl⟩
     rw[hx,<- hl,XI,WA]
     constructor
     ·rintro(h | ⟨g,h1,h2⟩)
      ·exact .inl h
      ·exact .inr ⟨g,(XX.mp h1).1,(XX.mp h1).2,h2⟩
     ·rintro(h | ⟨g,h1,h2,h3⟩)
      ·exact .inl h
      ·exact .inr ⟨g,XX.mpr ⟨h1,h2⟩,h3⟩
end
def zfs:Sp:=fun vs H Q _=>∃(p l:Addr) (rs:List Str) (n:Int),vs=[.ref p]/\qj H p l rs n/\Rows bd.cps.toList rs /\
 ∀(d:Addr) (ws:List V) (gs:List (List (Nat×Nat))) (H':Hp),H d=none->H' d=some (.lst ws)->yP H' ws gs->ws.Nodup->(∀v∈ws,∃a,v=V.ref a/\H a=none/\a≠d)->Parts.Good (clA rs) (zF rs) gs->Up2 (heads gs)->zB H H'->Q (.ref d) H'
theorem zig {rs:List Str}(R:Rows bd.cps.toList rs){x:Nat×Nat}(h:x∈zp rs):x.1<8/\x.2<8:=by
 obtain⟨t,k,ht,hj,_,_⟩:=qe h
 have a:=(X4.mp ht).1
 have b:=(X4.mp hj).1
 have e:=R.hi
 have g:=R.short _ (X2 (yw ht))
 lia
theorem yP.some {H:Hp}{ws:List V}{gs:List (List (Nat×Nat))}(h:yP H ws gs):∀v∈ws,∃a us,v=V.ref a/\H a=some (.lst us):=by
 intro v hv
 obtain⟨_,_,a,us,e,h1,_⟩:=zla h hv
 exact⟨a,us,e,h1⟩
theorem zl7 {H:Hp}{ws:List V}{gs:List (List (Nat×Nat))}(h:yP H ws gs):W0 (GS.LstAt H) ws (gs.map (UU toI)):=by
 induction h with
 | nil=>exact .nil
 | cons r _ ih =>
  obtain⟨a,us,e,h1,h2⟩:=r
  exact .cons ⟨a,us,e,h1,h2.tup2⟩ ih
theorem zl8 {H:Hp}:∀{gs:List (List (Nat×Nat))} {ws:List V},W0 (GS.LstAt H) ws (gs.map (UU toI))->yP H ws gs:=by
 intro gs
 induction gs with
 | nil =>
  intro ws h
  cases h
  exact .nil
 | cons g r ih =>
  intro ws h
  cases h with
  | cons q t =>
   obtain⟨a,us,e,h1,h2⟩:=q
   exact .cons ⟨a,us,e,h1,Jf h2⟩ (ih t)
theorem zgY {ks:List (List (Int×Int))}{gs:List (List (Nat×Nat))}(h:ks.Perm (gs.map (UU toI))):∃ds:List (List (Nat×Nat)),ks=ds.map (UU toI)/\ds.Perm gs:=by
 have oo:∀g:List (Nat×Nat),(g.map toI).map ofI=g:=fun g=>by
  rw[WD]
  exact(Xi fun c _=>zjy c).trans (Sw g)
 refine⟨ks.map (UU ofI),?_,?_⟩
 ·rw[WD]
  refine(Sw ks).symm.trans (Xi fun p hp=>?_)
  obtain⟨c,_,rfl⟩:=Xj.mp (h.mem_iff.mp hp)
  show c.map toI=((c.map toI).map ofI).map toI
  rw[oo]
 ·have:=h.map (UU ofI)
  rw[WD] at this
  have e:gs.map (UU ofI∘UU toI)=gs:=(Xi fun c _=>oo c).trans (Sw gs)
  rwa [e] at this
theorem zl9 {gs:List (List (Nat×Nat))}(h:(gs.map (UU toI)).Pairwise (fun p q=>PySem.SeqAt.ltL q p=false))(ne:∀g∈gs,g ≠ [])(nd:(heads gs).Nodup):Up2 (heads gs):=by
 induction gs with
 | nil=>exact List.Pairwise.nil
 | cons g r ih =>
  rw[Xb,R0] at h
  have nd':toI (g.headD (0,0)) ∉ heads r/\(heads r).Nodup:=VM.mp nd
  refine R0.mpr ⟨fun p hp=>?_,ih h.2 (fun x hx=>ne x (XT _ hx)) nd'.2⟩
  obtain⟨g2,hg2,rfl⟩:=Xj.mp hp
  have a:=h.1 _ (Xj.mpr ⟨g2,hg2,rfl⟩)
  have hne:toI (g.headD (0,0))≠toI (g2.headD (0,0)):=fun e=>nd'.1 (e ▸ hp)
  have n1:=ne g XR
  have n2:=ne g2 (XT _ hg2)
  cases g with
  | nil=>exact absurd rfl n1
  | cons x xs =>
   cases g2 with
   | nil=>exact absurd rfl n2
   | cons y ys =>
    have hne':toI x≠toI y:=hne
    show lt2 (toI x) (toI y)=true
    have a':(if toI y=toI x then PySem.SeqAt.ltL (ys.map toI) (xs.map toI) else lt2 (toI y) (toI x))=false:=a
    rw[if_neg (T7 hne')] at a'
    have:=zcr hne'
    rw[a'] at this
    cases hh:lt2 (toI x) (toI y) with
    | true=>rfl
    | false =>
     rw[hh] at this
     cases this
section
variable {P:Xy}{w:W6}{K:X8}{mg:Str->Option X9}{base:Heap}{f:Addr}{fd:XO}
theorem zba:zQ ["board","found","cell"] ["board"] (zg zcy):=⟨rfl,rfl,rfl,by decide +kernel,rfl,by decide +kernel,by decide +kernel⟩
theorem zgZ {f1 f2 f3 f4 f5 f6:Addr}{fd1 fd2 fd3 fd4 fd5 fd6:XO}(T:Txt mg)(D:zk K mg "parts" zcy ["board"] f fd)(zH:zk K mg "around" jD ["board","cell"] f1 fd1)(zv:zk K mg "sign_at" qF ["board","cell"] f2 fd2)
  (zC:zk K mg "cells_of" qy ["board"] f3 fd3) (zq:zk K mg "open_cells" qt ["board"] f4 fd4) (zW:zk K mg "closed_around" qV ["board","cell"] f5 fd5) (Jh:zk K mg "joined" Z3 ["groups","cells"] f6 fd6):zI P w K mg base CX0 3 f fd ["board"] zfs:=by
 have qY:zI P w K mg base CX0 2 f4 fd4 ["board"] (xN Jt):=yF T zq zC zv
 have Jp:zI P w K mg base CX0 2 f5 fd5 ["board","cell"] zlX:=Z9 T zW zH zv
 have zma:zI P w K mg base CX0 1 f6 fd6 ["groups","cells"] zgX:=zkv T Jh
 refine D.F.ok zba (fun vs H Q E h=>?_) (fun cdv A outer s H vs Q E hr h=>?_)
 ·obtain⟨p,l,rs,n,rfl,_⟩:=h
  rfl
 ·obtain⟨p,l,rs,n,rfl,b,R,q⟩:=h
  refine⟨_,(zd (zD (i:=1) zba.nd rfl (XM rfl) (qu zb))
   (zd (qA Xd rfl (zU (zo qY (hr.mono (by decide)) (by rfl) zq.g zq.F.kp zq.b .nil zL (za (pv 0) zb))) (zm (i:=2) zba.nd rfl (XM rfl)) (zh (zD (i:=1) zba.nd rfl (XM rfl) (zo zma (hr.mono (by decide)) (by rfl) Jh.g Jh.F.kp Jh.b .nil zL (za (pv 1) (za (zo Jp (hr.mono (by decide)) (by rfl) zW.g zW.F.kp zW.b .nil zL (za (pv 0) (za (pv 2) zb))) zb))))))
   (zh (zO (zz (GS.ZE hr.units) (by rfl) T.za3 UH (za (pv 1) zb)))))),?_⟩
  refine⟨(by show 0<=XU;decide),fun k0 hk0=>?_⟩
  have s0:zB H (upd H k0 (.lst [])):=ze hk0
  have hk00:upd H k0 (.lst []) k0=some (.lst []):=zc
  generalize upd H k0 (.lst [])=H0 at *
  refine⟨_,rfl,p,l,rs,n,rfl,b.mono s0,R,fun dc wc H1 hdc zqi hcc s1=>⟨dc,rfl,⟨_,SqL.of zqi⟩,?_⟩⟩
  have s01:=s0.trans s1
  have b1:=b.mono s01
  have hcc:Cel H1 wc (zF rs):=hcc
  have o64:=zeF R
  refine jS (K:=K) (a:=dc) (xs:=wc) (fun i σ H'=>∃(k:Addr) (ws:List V) (gs:List (List (Nat×Nat))) (v2:Option V),σ=[some (.ref p),some (.ref k),v2]/\zB H1 H'/\H' k=some (.lst ws)/\yP H' ws gs/\ws.Nodup/\(∀v∈ws,∃a,v=V.ref a/\H a=none)/\Parts.Good (clA rs) ((zF rs).take i) gs)
   ⟨k0,[],[],_,rfl,zB.refl _,s1 _ _ hk00,.nil,TY,(fun v h=>nomatch h),Parts.Good.start _⟩ (fun i σ H' _ ⟨_,_,_,_,_,z,_⟩=>SqL.of (z _ _ zqi)) ?_ ?_
  ·rintro i x σ H2 hx ⟨k,ws,gs,v2,rfl,s2,hk,hG,wnd,wnew,G⟩
   obtain⟨c,hc,ca,rfl,hca⟩:=Cel.get (Cel.mono s2 hcc) hx
   have cm:=X2 hc
   obtain⟨t,sg,ht,hj,_,es⟩:=qe cm
   obtain⟨l1,l2⟩:=yO R ht hj
   have tk:(zF rs).take (i+1)=(zF rs).take i++[c]:=by
    rw[XJ,hc]
    rfl
   have lshut:(zp rs).length<=63:=by
    have:=Uj cm
    lia
   have gB:∀x∈gs.flatten,x∈zp rs:=fun x hx=>by
    obtain⟨o,_,h2⟩:=G.from_ x hx
    exact Jg h2
   refine⟨_,rfl,_,rfl,_,rfl,p,l,ca,rs,n,c,rfl,(b1.mono s2),R,hca,l1,l2,fun d ws1 H3 hd hd3 hc3 s3=>?_⟩
   have s03:=s01.trans (s2.trans s3)
   refine⟨k,d,ws,ws1,gs,clA rs c,zp rs,rfl,s3 _ _ hk,hG.mono s3,hd3,hc3,zeG rs c,G.nd,(fun x hx=>Jg hx),gB,(fun x hx=>zig R hx),lshut,X0 (Parts.Qp G.ne) (X0 (Parts.yp G.nd gB) lshut),(fun zkw H' s'=>?_),fun hne d2 wa va wc2 H' hd2 hwa hd2' hsub hG' zq1 hmem s'=>?_⟩
   ·refine⟨k,ws,gs,_,rfl,s2.trans (s3.trans s'),s' _ _ (s3 _ _ hk),(hG.mono s3).mono s',wnd,wnew,?_⟩
    rw[tk]
    exact G.skip zkw
   ·refine⟨d2,_,_,_,rfl,s2.trans (s3.trans s'),hd2',hG',?_,(fun v hv=>?_),?_⟩
    ·rw[Wp]
     refine⟨wnd.sublist hsub,by simp,fun a ha b hb e=>?_⟩
     have hb':b=V.ref wa:=by simpa using hb
     subst e
     obtain⟨a',us',e1,e2⟩:=yP.some (hG.mono s3) a (hsub.subset ha)
     rw[hb'] at e1
     injection e1 with e1
     rw[<- e1,hwa] at e2
     cases e2
    ·rcases XI.mp hv with hv | hv
     ·exact wnew v (hsub.subset hv)
     ·have hb':v=V.ref wa:=by simpa using hv
      exact⟨wa,hb',s03.free hwa⟩
    ·rw[tk]
     exact zie G hne (zeG rs c) zq1 hmem
  ·rintro σ H2 ⟨k,ws,gs,v2,rfl,s2,hk,hG,wnd,wnew,G⟩
   rw[hcc.length,XG] at G
   have gsh:∀x∈gs.flatten,x∈zp rs:=fun x hx=>by
    obtain⟨o,_,h2⟩:=G.from_ x hx
    exact Jg h2
   have wl:gs.length<=63:=by
    cases gs with
    | nil=>exact WW _
    | cons g r =>
     have m1:=head_mem (G.ne g XR)
     obtain⟨o,ho,_⟩:=G.from_ _ (WA.mpr ⟨g,XR,m1⟩)
     have:=Uj ho
     have h3:=X0 (Parts.Qp G.ne) (Parts.yp (b:=zp rs) G.nd gsh)
     lia
   refine⟨_,rfl,k,ws,_,rfl,SqL.of hk,zl7 hG,(by rw[hG.length];lia),fun d us' ks' hd hl zb7 zqj pw=>?_⟩
   have s3:=ze (o:=.lst us') hd
   obtain⟨ds,rfl,pg⟩:=zgY zb7
   have G':=G.perm pg
   refine q d us' ds _ ((s01.trans s2).free hd) zc ((zl8 hl).mono s3) (pw.nodup_iff.mpr wnd) (fun v hv=>?_) G' (zl9 zqj G'.ne (zb6 G'.ne G'.nd)) ((s01.trans s2).trans s3)
   have hv':=pw.mem_iff.mp hv
   obtain⟨a,e1,e2⟩:=wnew v hv'
   obtain⟨a',us',e3,e4⟩:=yP.some hG v hv'
   refine⟨a,e1,e2,fun z=>?_⟩
   rw[e1] at e3
   injection e3 with e3
   rw[<- e3,z,hd] at e4
   cases e4
end
noncomputable def pD (p:Int×Int):Wm:=.tuple [.int p.1,.int p.2]
theorem zpe (p q:Int×Int):W2 (pD p) (pD q)=decide (p=q):=PySem.SeqAt.zee p q
def PR (H:Hp)(v:V)(p:Int×Int):Prop:=∃a,v=V.ref a/\H a=some (.tup [.int p.1,.int p.2])
theorem PR.mono {H H':Hp}(s:zB H H'){v:V}{p:Int×Int}(h:PR H v p):PR H' v p:=let ⟨a,e,h⟩:=h;⟨a,e,s _ _ h⟩
theorem qf {H H':Hp}(s:zB H H'){us:List V}{ps:List (Int×Int)}(hp:jC H us ps):jC H' us ps:=by
 induction hp with
 | nil=>exact .nil
 | cons h _ ih =>
  exact .cons (PR.mono s h) ih
theorem Ji {H:Hp}:∀{us:List V} {ps:List (Int×Int)} {i:Nat} {v:V},jC H us ps->us[i]?=some v->∃p,ps[i]?=some p/\PR H v p
 | _,_,_,_,.nil,e=>by simp at e
 | _,_,0,_,.cons r _,e=>by
  simp at e
  subst e
  exact⟨_,rfl,r⟩
 | _,_,i+1,v,.cons _ t,e=>by
  obtain⟨c,h1,h2⟩:=Ji (i:=i) (v:=v) t (by simpa using e)
  exact⟨c,by simpa using h1,h2⟩
theorem jH {H:Hp}{us:List V}{ps:List (Int×Int)}(h:jC H us ps):us.length=ps.length:=Paired.length h
theorem PR.rdv {K:X8}{H:Hp}{v:V}{p:Int×Int}(h:PR H v p):Rdv K H v (pD p):=by
 obtain⟨a,rfl,h⟩:=h
 exact .tup (SqT.of h) (.cons (.int _) (.cons (.int _) .nil))
theorem zg0 {K:X8}{H:Hp}{us:List V}{ps:List (Int×Int)}(hp:jC H us ps):Jm K H us (ps.map pD):=by
 induction hp with
 | nil=>exact .nil
 | cons h _ ih =>
  exact .cons (PR.rdv h) ih
theorem zih:∀ps:List (Int×Int),Wd (ps.map pD)=true
 | []=>rfl
 | p::r=>by
  show (Vh (pD p)&&Wd (r.map pD))=true
  rw[zih r]
  rfl
theorem zpf (ps:List (Int×Int))(p:Int×Int):(ps.map pD).any (fun z=>W2 z (pD p))=ps.any fun z=>decide (z=p):=by
 rw[US]
 congr 1
 funext z
 exact zpe z p
theorem zmb (ps:List (Int×Int))(c:Nat×Nat):(ps.map pD).any (fun z=>W2 z (zx c))=ps.any fun z=>decide (z=toI c):=zpf ps (toI c)
theorem zpg {H:Hp}{a z:Addr}{o o':HO}(h:H a=some o)(hz:H z=some o')(hne:o≠o'):a≠z:=fun e=>by
 subst e
 rw[h] at hz
 exact hne (Option.some.inj hz)
theorem zny {H:Hp}{z:Addr}{ys ys':List V}(hz:H z=some (.lst ys)){v:V}{p:Int×Int}(h:PR H v p):PR (upd H z (.lst ys')) v p:=by
 obtain⟨a,e,h⟩:=h
 refine⟨a,e,?_⟩
 rw[zu (zpg h hz (fun z=>nomatch z))]
 exact h
theorem jk {H:Hp}{z:Addr}{ys ys':List V}(hz:H z=some (.lst ys)){us:List V}{ps:List (Int×Int)}(hp:jC H us ps):jC (upd H z (.lst ys')) us ps:=by
 induction hp with
 | nil=>exact .nil
 | cons h _ ih =>
  exact .cons (zny hz h) ih
def jg (N:Addr->Prop)(H:Hp):List V->List (List (Int×Int))->Prop:=W0 fun v k=>∃a ws,v=V.ref a/\N a/\H a=some (.lst ws)/\jC H ws k
theorem ql {N:Addr->Prop}{H H':Hp}(s:zB H H'){us:List V}{ks:List (List (Int×Int))}(hp:jg N H us ks):jg N H' us ks:=by
 induction hp with
 | nil=>exact .nil
 | cons q _ ih =>
  obtain⟨a,ws,e,n,h,t⟩:=q
  exact .cons ⟨a,ws,e,n,s _ _ h,qf s t⟩ ih
theorem YL {N M:Addr->Prop}{H:Hp}(w:∀a,N a->M a){us:List V}{ks:List (List (Int×Int))}(hp:jg N H us ks):jg M H us ks:=by
 induction hp with
 | nil=>exact .nil
 | cons q _ ih =>
  obtain⟨a,ws,e,n,h,t⟩:=q
  exact .cons ⟨a,ws,e,w a n,h,t⟩ ih
theorem yf {N:Addr->Prop}{H:Hp}{z:Addr}{ys ys':List V}(hz:H z=some (.lst ys))(w:∀a,N a->a≠z){us:List V}{ks:List (List (Int×Int))}(hp:jg N H us ks):jg N (upd H z (.lst ys')) us ks:=by
 induction hp with
 | nil=>exact .nil
 | cons q _ ih =>
  obtain⟨a,ws,e,n,h,t⟩:=q
  exact .cons ⟨a,ws,e,n,by rw[zu (w a n)];exact h,jk hz t⟩ ih
theorem yW {N:Addr->Prop}{H:Hp}{us:List V}{ks:List (List (Int×Int))}{us':List V}{ks':List (List (Int×Int))}(h:jg N H us ks)(k:jg N H us' ks'):jg N H (us++us') (ks++ks'):=zcM h k
theorem qg {N:Addr->Prop}{H:Hp}{us:List V}{ks:List (List (Int×Int))}(h:jg N H us ks):us.length=ks.length:=Paired.length h
theorem Za {N:Addr->Prop}{H:Hp}{us:List V}{ks:List (List (Int×Int))}{i:Nat}{v:V}(h:jg N H us ks)(e:us[i]?=some v):∃k a ws,ks[i]?=some k/\v=V.ref a/\N a/\H a=some (.lst ws)/\jC H ws k:=by
 obtain⟨k,h1,a,ws,h2⟩:=zf9 h e
 exact⟨k,a,ws,h1,h2⟩
theorem zeH {N:Addr->Prop}{H:Hp}{us:List V}{ks:List (List (Int×Int))}(hp:jg N H us ks):W0 (GS.LstAt H) us ks:=by
 induction hp with
 | nil=>exact .nil
 | cons q _ ih =>
  obtain⟨a,ws,e,_,h,t⟩:=q
  exact .cons ⟨a,ws,e,h,t⟩ ih
theorem zg1 {N:Addr->Prop}{H:Hp}{us:List V}{ks:List (List (Int×Int))}(hp:W0 (GS.LstAt H) us ks)(n:∀v∈us,∃a,v=V.ref a/\N a):jg N H us ks:=by
 induction hp with
 | nil=>exact .nil
 | cons q _ ih =>
  obtain⟨a,ws,e,h,t⟩:=q
  obtain⟨b,e2,n2⟩:=n _ XR
  subst e
  cases e2
  exact .cons ⟨_,ws,rfl,n2,h,t⟩ (ih fun v hv=>n v (XT _ hv))
theorem yX {N:Addr->Prop}{H:Hp}{us:List V}{ks:List (List (Int×Int))}{v:V}(h:jg N H us ks)(e:v∈us):∃a ws,v=V.ref a/\N a/\H a=some (.lst ws):=by
 obtain⟨k,_,a,ws,h1,h2,h3,_⟩:=zla h e
 exact⟨a,ws,h1,h2,h3⟩
theorem Qw {H:Hp}{us:List V}{ps:List (Int×Int)}{us':List V}{ps':List (Int×Int)}(h:jC H us ps)(k:jC H us' ps'):jC H (us++us') (ps++ps'):=zcM h k
def nearF (rs:List Str)(c x:Nat×Nat):Bool:=(zK rs c).any fun z=>decide (z=x)
def qQ (rs:List Str)(c:Nat×Nat):Int:=((Cells.sgn (codes rs) c:Nat):Int)-48
theorem zbK (rs:List Str)(c:Nat×Nat):(zK rs c).Nodup:=(yV (Cells.xG _ 0 (codes rs))).sublist Ww
theorem zmc {rs:List Str}{o:Nat×Nat}{q:List (Nat×Nat)}(hq:q.Nodup):((zK rs o).filter fun x=>q.any fun z=>decide (z=x)).length=Grow.cnt (nearF rs) o q:=by
 unfold Grow.cnt
 refine Pa ((VX ((zbK rs o).sublist Ww) (hq.sublist Ww)).mpr fun x=>?_)
 rw[XX,XX]
 unfold nearF
 rw[WS,WS]
 constructor
 ·rintro⟨h1,y,hy,e⟩
  have e2:y=x:=of_decide_eq_true e
  subst e2
  exact⟨hy,y,h1,decide_eq_true rfl⟩
 ·rintro⟨h1,y,hy,e⟩
  have e2:y=x:=of_decide_eq_true e
  subst e2
  exact⟨hy,y,h1,decide_eq_true rfl⟩
def zg2 (H:Hp)(rs:List Str)(v:V)(o:Nat×Nat):Prop:=∃a na wn,v=V.ref a/\H a=some (.tup [.int (qQ rs o),.ref na])/\H na=some (.lst wn)/\Cel H wn (zK rs o)
def zg3 (H:Hp)(rs:List Str)(rest:List (Nat×Nat))(v:V)(o:Nat×Nat):Prop:=∃a na wn,v=V.ref a/\H a=some (.tup [.int (qQ rs o-((Grow.cnt (nearF rs) o rest:Nat):Int)),.int (qQ rs o),.ref na])/\H na=some (.lst wn)/\Cel H wn (zK rs o)
theorem zkx {H H':Hp}(s:zB H H'){rs:List Str}{vs:List V}{cs:List (Nat×Nat)}(hp:W0 (zg2 H rs) vs cs):W0 (zg2 H' rs) vs cs:=by
 induction hp with
 | nil=>exact .nil
 | cons q _ ih =>
  obtain⟨a,na,wn,e,h1,h3,h4⟩:=q
  exact .cons ⟨a,na,wn,e,s _ _ h1,s _ _ h3,h4.mono s⟩ ih
theorem zbL {H H':Hp}(s:zB H H'){rs:List Str}{rest:List (Nat×Nat)}{vs:List V}{cs:List (Nat×Nat)}(hp:W0 (zg3 H rs rest) vs cs):W0 (zg3 H' rs rest) vs cs:=by
 induction hp with
 | nil=>exact .nil
 | cons q _ ih =>
  obtain⟨a,na,wn,e,h1,h3,h4⟩:=q
  exact .cons ⟨a,na,wn,e,s _ _ h1,s _ _ h3,h4.mono s⟩ ih
theorem ZZ {α β:Type}{R:α->β->Prop}{vs:List α}{cs:List β}{i:Nat}{v:α}(h:W0 R vs cs)(e:vs[i]?=some v):∃c,cs[i]?=some c/\R v c:=zf9 h e
theorem zii {α β:Type}{R:α->β->Prop}{us:List α}{cs:List β}{us':List α}{cs':List β}(h:W0 R us cs)(k:W0 R us' cs'):W0 R (us++us') (cs++cs'):=zcM h k
def zeI (H H':Hp)(rs:List Str)(rest:List (Nat×Nat))(v:V)(o:Nat×Nat):Prop:=∃a na wn,v=V.ref a/\H' a=some (.tup [.int (qQ rs o-((Grow.cnt (nearF rs) o rest:Nat):Int)),.int (qQ rs o),.ref na])/\H na=some (.lst wn)/\Cel H wn (zK rs o)
theorem zij {H H1 H2:Hp}(s:zB H1 H2){rs:List Str}{rest:List (Nat×Nat)}{vs:List V}{cs:List (Nat×Nat)}(hp:W0 (zeI H H1 rs rest) vs cs):W0 (zeI H H2 rs rest) vs cs:=by
 induction hp with
 | nil=>exact .nil
 | cons q _ ih =>
  obtain⟨a,na,wn,e,h1,h3,h4⟩:=q
  exact .cons ⟨a,na,wn,e,s _ _ h1,h3,h4⟩ ih
theorem zdc {H H1:Hp}{z:Addr}{ys ys':List V}(hz:H1 z=some (.lst ys)){rs:List Str}{rest:List (Nat×Nat)}:∀{vs:List V} {cs:List (Nat×Nat)},W0 (zeI H H1 rs rest) vs cs->W0 (zeI H (upd H1 z (.lst ys')) rs rest) vs cs
 | _,_,.nil=>.nil
 | _,_,.cons ⟨a,na,wn,e,h1,h3,h4⟩ t=>.cons ⟨a,na,wn,e,by
   have ne:a≠z:=fun e=>by
    subst e
    rw[h1] at hz
    cases hz
   rw[zu ne]
   exact h1,h3,h4⟩ (zdc hz t)
theorem zik {H H1:Hp}(s:zB H H1){rs:List Str}{rest:List (Nat×Nat)}{vs:List V}{cs:List (Nat×Nat)}(hp:W0 (zeI H H1 rs rest) vs cs):W0 (zg3 H1 rs rest) vs cs:=by
 induction hp with
 | nil=>exact .nil
 | cons q _ ih =>
  obtain⟨a,na,wn,e,h1,h3,h4⟩:=q
  exact .cons ⟨a,na,wn,e,h1,s _ _ h3,h4.mono s⟩ ih
def zjz:Sp:=fun vs H Q _=>∃(ta ca ra:Addr) (ut ur:List V) (rs:List Str) (O rest:List (Nat×Nat)) (c:Nat×Nat),vs=[.ref ta,.ref ca,.ref ra]/\H ta=some (.lst ut)/\W0 (zg2 H rs) ut O/\O.length<=64/\Rows bd.cps.toList rs/\H ca=some (.tup [.int (c.1:Nat),.int (c.2:Nat)])/\H ra=some (.lst ur)/\Cel H ur rest/\rest.Nodup /\
 ∀(d:Addr) (uw:List V) (H':Hp),H' d=some (.lst uw)->W0 (zg3 H' rs rest) uw (O.filter fun o=>nearF rs o c)->zB H H'->Q (.ref d) H'
def zn9:Sp:=fun vs H Q _=>∃(na pa:Addr) (un up:List V) (rs:List Str) (rest O q:List (Nat×Nat)),vs=[.ref na,.ref pa]/\H na=some (.lst un)/\W0 (zg3 H rs rest) un O/\H pa=some (.lst up)/\Cel H up q/\q.length<=64 /\
 ∀H':Hp,zB H H'->Q (.bl (O.all fun o=>Grow.zcY (nearF rs) (qQ rs) rest o q)) H'
section
variable {P:Xy}{w:W6}{K:X8}{mg:Str->Option X9}{base:Heap}{f:Addr}{fd:XO}
theorem Jj:zQ ["told","cell","rest","needs","number","near","left"] ["told","cell","rest"] (zg yM):=⟨rfl,rfl,rfl,by decide +kernel,rfl,by decide +kernel,by decide +kernel⟩
theorem zg4 (T:Txt mg)(D:zk K mg "needs_at" yM ["told","cell","rest"] f fd):zI P w K mg base CX0 1 f fd ["told","cell","rest"] zjz:=by
 refine D.F.ok Jj (fun vs H Q E h=>?_) (fun cdv A outer s H vs Q E hr h=>?_)
 ·obtain⟨ta,ca,ra,ut,ur,rs,O,rest,c,rfl,_⟩:=h
  rfl
 ·obtain⟨ta,ca,ra,ut,ur,rs,O,rest,c,rfl,hta,hT,ol,R,hca,hra,hcr,rnd,q⟩:=h
  refine⟨_,(zd (zD (i:=3) Jj.nd rfl (XM rfl) (qu zb))
   (zd (qA Xd rfl (zU (pv 0)) (Jl rfl (zT (zm (i:=4) Jj.nd rfl (XM rfl)) (zT (zm (i:=5) Jj.nd rfl (XM rfl)) jh))) (zh (jA (zP (zcI hr.units) (pv 1) (pv 5) (by rfl)) (zd (zD (i:=6) Jj.nd rfl (XM rfl) (zz zE (by rfl) T.qN Xh (za (qd (N:=["place","rest"]) (src:=[none,some 2]) (zY.free (O:=(zg yM).names) (XN:=["told","cell","rest","needs","number","near","left"]) rfl rfl ⟨_,rfl⟩ rfl rfl (by decide +kernel) (by decide +kernel) (by decide +kernel) rfl (by decide +kernel)) rfl (zU (pv 5)) (fun _ _ _ _ _=>(zm (i:=0) (by show Xg (["place","rest"]:List Str);decide +kernel) rfl (XM rfl))) (fun _ _ _ _ _=>(qh (zP (jL (K:=K) (by rfl) hr.units) (pv 0) (pv 1) (by rfl)))) (fun _ _ _ _ _=>(pv 0))) zb)))
   (zh (yk (Jr WY Wt Ws jj (pv 3) (za (jO (za (zG ZA (pv 4) (pv 6)) (za (pv 4) (za (pv 5) zb)))) zb))))) qp)))
   (zh (zO (pv 3))))),?_⟩
  refine⟨(by show 0<=XU;decide),fun d hd=>?_⟩
  have s0:=ze (o:=.lst []) hd
  refine⟨_,rfl,ta,rfl,⟨_,SqL.of (s0 _ _ hta)⟩,?_⟩
  refine jS (K:=K) (a:=ta) (xs:=ut) (fun i σ H'=>∃(uw:List V) (v4 v5 v6:Option V),σ=[some (.ref ta),some (.ref ca),some (.ref ra),some (.ref d),v4,v5,v6]/\zB H H'/\H' d=some (.lst uw)/\W0 (zeI H H' rs rest) uw ((O.take i).filter fun o=>nearF rs o c))
   ⟨[],_,_,_,rfl,s0,zc,.nil⟩ (fun i σ H' _ ⟨_,_,_,_,_,z,_⟩=>SqL.of (z _ _ hta)) ?_ ?_
  ·rintro i x σ H1 hx ⟨uw,v4,v5,v6,rfl,s1,hd1,hN⟩
   obtain⟨o,ho,a,na,wn,rfl,ha0,hna0,hcn0⟩:=ZZ hT hx
   have ha:=s1 _ _ ha0
   have hna:=s1 _ _ hna0
   have hcn:=hcn0.mono s1
   have tk:O.take (i+1)=O.take i++[o]:=by
    rw[XJ,ho]
    rfl
   refine⟨a,_,rfl,SqT.of ha,rfl,_,_,rfl,_,_,rfl,rfl,?_⟩
   refine⟨_,rfl,_,rfl,zx c,(zK rs o).map zx,JI.rdv ⟨ca,rfl,s1 _ _ hca⟩,.lst (SqL.of hna) (zib hcn),rfl,zfp _,(by show 1<=60;decide),_,rfl,?_⟩
   have ei:(if false=true then !((zK rs o).map zx).any (fun z=>W2 z (zx c)) else ((zK rs o).map zx).any fun z=>W2 z (zx c))=nearF rs o c:=J9 _ _
   rw[ei,tk,XA,Xl]
   by_cases hp:nearF rs o c=true
   ·rw[if_pos hp]
    refine JE hp ⟨_,rfl,na,rfl,⟨_,SqL.of hna⟩,fun z hz=>?_⟩
    refine qI (K:=K) (a:=na) (xs:=wn) (fun a=>a≠z) ((zK rs o).map fun x=>if (rest.any fun z=>decide (z=x))=true then some (zx x) else none) (fun σ=>∃u0,σ=[u0,some (.ref ra)]) hz (fun _ h=>h) ⟨_,rfl⟩ (by rw[ZB];exact hcn.length.symm) (by rw[hcn.length];exact X0 (xZ R o) (by decide)) (SqL.of hna) ?_ ?_
    ·rintro m v u σ H2 hv hu s2 _ ⟨u1,rfl⟩ Y Z yes no
     obtain⟨e,he,rc⟩:=Cel.get (hcn.mono s2) hv
     have eo:=yN he hu
     refine⟨_,rfl,_,rfl,zx e,rest.map zx,rc.rdv,.lst (SqL.of (s2 _ _ (s1 _ _ hra))) (zib ((hcr.mono s1).mono s2)),rfl,zfp _,(by show 1<=60;decide),_,rfl,?_⟩
     have ei:(if false=true then !(rest.map zx).any (fun z=>W2 z (zx e)) else (rest.map zx).any fun z=>W2 z (zx e))=rest.any fun z=>decide (z=e):=J9 _ _
     rw[ei]
     by_cases hp:(rest.any fun z=>decide (z=e))=true
     ·rw[if_pos hp] at eo
      exact JE hp ⟨_,rfl,yes _ _ _ _ eo ⟨_,rfl⟩ (zB.refl _) rc.rdn⟩
     ·rw[if_neg hp] at eo
      exact xu (Xc.mpr hp) (no _ _ eo ⟨_,rfl⟩ (zB.refl _))
    rintro ys H2 s2 hz2 hr2
    have er:((zK rs o).map fun x=>if (rest.any fun z=>decide (z=x))=true then some (zx x) else none).filterMap id=((zK rs o).filter fun x=>rest.any fun z=>decide (z=x)).map zx:=qO _ _ _
    rw[er] at hr2
    have yl:ys.length=Grow.cnt (nearF rs) o rest:=(zJ.cel hr2).length.trans (zmc rnd)
    have hd2:=s2 _ _ hd1
    refine⟨z,ys,rfl,.inl (SqL.of hz2),?_⟩
    rw[yl]
    refine⟨_,rfl,.inl ⟨rfl,_,SqL.of hd2⟩,_,rfl,_,rfl,_,_,rfl,rfl,_,rfl,_,rfl,(by show 3<=XU;decide),fun tt htt=>?_⟩
    have z3:=ze (o:=.tup [.int (qQ rs o-((Grow.cnt (nearF rs) o rest:Nat):Int)),.int (qQ rs o),.ref na]) htt
    have s23:=s2.trans z3
    have uwl:uw.length<=64:=by
     rw[Paired.length hN]
     refine X0 (Xz _ _) ?_
     rw[XQ]
     lia
    have hd3:=z3 _ _ hd2
    refine⟨d,uw,_,rfl,rfl,hd3,XH uwl (by decide),uw++[.ref tt],_,_,_,rfl,fun b e' h'=>?_,zc,zii (zdc hd3 (zij s23 hN)) (.cons ⟨tt,na,wn,rfl,?_,hna0,hcn0⟩ .nil)⟩
    ·rw[zu (zj h' hd)]
     exact s23 _ _ (s1 _ _ h')
    ·have ne:tt≠d:=fun e=>by
      subst e
      rw[hd2] at htt
      cases htt
     rw[zu ne,zc]
   ·rw[if_neg hp]
    refine xu (Xc.mpr hp) ⟨uw,_,_,_,rfl,s1,hd1,?_⟩
    rw[List.filter_nil,W4]
    exact hN
  ·rintro σ H1 ⟨uw,v4,v5,v6,rfl,s1,hd1,hN⟩
   rw[Paired.length hT,XG] at hN
   exact⟨_,rfl,q d uw H1 hd1 (zik s1 hN) s1⟩
theorem YM:zQ ["needs","pick","least","most","near"] ["needs","pick"] (zg xH):=⟨rfl,rfl,rfl,by decide +kernel,rfl,by decide +kernel,by decide +kernel⟩
theorem zil (T:Txt mg)(D:zk K mg "may_fit" xH ["needs","pick"] f fd):zI P w K mg base CX0 1 f fd ["needs","pick"] zn9:=by
 refine D.F.ok YM (fun vs H Q E h=>?_) (fun cdv A outer s H vs Q E hr h=>?_)
 ·obtain⟨na,pa,un,up,rs,rest,O,p,rfl,_⟩:=h
  rfl
 ·obtain⟨na,pa,un,up,rs,rest,O,p,rfl,hna,hN,hpa,hcp,pl,q⟩:=h
  refine⟨_,(zd (qA Xd rfl (zU (pv 0)) (Jl rfl (zT (zm (i:=2) YM.nd rfl (XM rfl)) (zT (zm (i:=3) YM.nd rfl (XM rfl)) (zT (zm (i:=4) YM.nd rfl (VF rfl)) jh)))) (zh (jA (zak (zf2 zi6 zi6 (pv 2) (zz zE (by rfl) T.qN Xh (za (qd (N:=["cell","near"]) (src:=[none,some 4]) (zY.free (O:=(zg xH).names) (XN:=["needs","pick","least","most","near"]) rfl rfl ⟨_,rfl⟩ rfl rfl (by decide +kernel) (by decide +kernel) (by decide +kernel) rfl (by decide +kernel)) rfl (zU (pv 1)) (fun _ _ _ _ _=>(zm (i:=0) (by show Xg (["cell","near"]:List Str);decide +kernel) rfl (XM rfl))) (fun _ _ _ _ _=>(qh (zP (jL (K:=K) (by rfl) hr.units) (pv 0) (pv 1) (by rfl)))) (fun _ _ _ _ _=>(pv 0))) zb)) (pv 3))) (zh (zO zbZ)) qp)))
   (zh (zO zbZ))),?_⟩
  refine⟨_,rfl,na,rfl,⟨_,SqL.of hna⟩,?_⟩
  refine jS (K:=K) (a:=na) (xs:=un) (fun i σ H'=>∃(v2 v3 v4:Option V),σ=[some (.ref na),some (.ref pa),v2,v3,v4]/\zB H H'/\∀o∈O.take i,Grow.zcY (nearF rs) (qQ rs) rest o p=true)
   ⟨_,_,_,rfl,zB.refl _,fun o ho=>by simp at ho⟩ (fun i σ H' _ ⟨_,_,_,_,z,_⟩=>SqL.of (z _ _ hna)) ?_ ?_
  ·rintro i x σ H1 hx ⟨v2,v3,v4,rfl,s1,hall⟩
   obtain⟨o,ho,a,ra,wn,rfl,ha,hra,hcn⟩:=ZZ (zbL s1 hN) hx
   refine⟨a,_,rfl,SqT.of ha,rfl,_,_,rfl,_,_,rfl,_,_,rfl,rfl,?_⟩
   refine⟨_,rfl,_,rfl,pa,rfl,⟨_,SqL.of (s1 _ _ hpa)⟩,fun z hz=>?_⟩
   refine qI (K:=K) (a:=pa) (xs:=up) (fun a=>a≠z) (p.map fun x=>if nearF rs o x=true then some (zx x) else none) (fun σ=>∃u0,σ=[u0,some (.ref ra)]) hz (fun _ h=>h) ⟨_,rfl⟩ (by rw[ZB];exact hcp.length.symm) (by rw[hcp.length];exact X0 pl (by decide)) (SqL.of (s1 _ _ hpa)) ?_ ?_
   ·rintro m v u σ H2 hv hu s2 _ ⟨u1,rfl⟩ Y Z yes no
    obtain⟨e,he,rc⟩:=Cel.get ((hcp.mono s1).mono s2) hv
    have eo:=yN he hu
    refine⟨_,rfl,_,rfl,zx e,(zK rs o).map zx,rc.rdv,.lst (SqL.of (s2 _ _ hra)) (zib (hcn.mono s2)),rfl,zfp _,(by show 1<=60;decide),_,rfl,?_⟩
    have ei:(if false=true then !((zK rs o).map zx).any (fun z=>W2 z (zx e)) else ((zK rs o).map zx).any fun z=>W2 z (zx e))=nearF rs o e:=J9 _ _
    rw[ei]
    by_cases hp:nearF rs o e=true
    ·rw[if_pos hp] at eo
     exact JE hp ⟨_,rfl,yes _ _ _ _ eo ⟨_,rfl⟩ (zB.refl _) rc.rdn⟩
    ·rw[if_neg hp] at eo
     exact xu (Xc.mpr hp) (no _ _ eo ⟨_,rfl⟩ (zB.refl _))
   rintro ys H2 s2 hz2 hr2
   have er:(p.map fun x=>if nearF rs o x=true then some (zx x) else none).filterMap id=(p.filter (nearF rs o)).map zx:=qO _ _ _
   rw[er] at hr2
   have yl:ys.length=Grow.cnt (nearF rs) o p:=(zJ.cel hr2).length
   refine⟨z,ys,rfl,.inl (SqL.of hz2),?_⟩
   rw[yl]
   have om:=X2 ho
   have tk:O.take (i+1)=O.take i++[o]:=by
    rw[XJ,ho]
    rfl
   have bad:Grow.zcY (nearF rs) (qQ rs) rest o p=false->Q (.bl false) H2:=fun e=>by
    have e2:(O.all fun o=>Grow.zcY (nearF rs) (qQ rs) rest o p)=false:=Xc.mpr fun z=>by
     have:=WT.mp z o om
     rw[e] at this
     cases this
    rw[e2] at q
    exact q _ (s1.trans s2)
   refine⟨_,_,rfl,rfl,_,rfl,?_⟩
   by_cases h1:qQ rs o-((Grow.cnt (nearF rs) o rest:Nat):Int)<=((Grow.cnt (nearF rs) o p:Nat):Int)
   ·rw[decide_eq_true h1]
    refine Qi ⟨_,rfl,_,_,rfl,rfl,_,rfl,?_⟩
    by_cases h2:((Grow.cnt (nearF rs) o p:Nat):Int)<=qQ rs o
    ·rw[decide_eq_true h2]
     refine Qd ⟨_,_,_,rfl,s1.trans s2,fun o' ho'=>?_⟩
     rw[tk] at ho'
     rcases XI.mp ho' with ho' | ho'
     ·exact hall o' ho'
     ·have e:o'=o:=by simpa using ho'
      rw[e]
      exact Grow.yI.mpr ⟨h1,h2⟩
    ·rw[decide_eq_false h2]
     exact Qi (bad (Xc.mpr fun z=>h2 (Grow.yI.mp z).2))
   ·rw[decide_eq_false h1]
    refine Qd ⟨_,rfl,?_⟩
    exact Qi (bad (Xc.mpr fun z=>h1 (Grow.yI.mp z).1))
  ·rintro σ H1 ⟨v2,v3,v4,rfl,s1,hall⟩
   rw[Paired.length hN,XG] at hall
   have e:(O.all fun o=>Grow.zcY (nearF rs) (qQ rs) rest o p)=true:=WT.mpr hall
   rw[e] at q
   exact q H1 s1
end
noncomputable def toL (q:List (Nat×Nat)):List (Int×Int):=q.map toI
def zph:Sp:=fun vs H Q _=>∃(a l pa:Addr) (rs:List Str) (n:Int) (ups:List V) (part:List (Nat×Nat)),vs=[.ref a,.ref pa]/\qj H a l rs n/\Rows bd.cps.toList rs/\H pa=some (.lst ups)/\Cel H ups part/\part.Nodup/\part.length<=14 /\
 ∀(d:Addr) (ws:List V) (ks:List (List (Int×Int))) (H':Hp),H d=none->H' d=some (.lst ws)->jg (fun a=>H a=none/\a≠d) H' ws ks->ws.Nodup->ks.Perm (((Subs.subs part).filter (Grow.fits (nearF rs) (qQ rs) (JJ rs part) part)).map toL)->ks.Pairwise (fun p q=>PySem.SeqAt.ltL q p=false)->zB H H'->Q (.ref d) H'
noncomputable def jQ (rs:List Str)(part:List (Nat×Nat)):Nat->List (List (Nat×Nat))
 | 0=>[[]]
 | i+1=>match part[i]? with
  | some c=>(Subs.step (jQ rs part i) c).filter (Grow.chk (nearF rs) (qQ rs) (JJ rs part) c (part.drop (i+1)))
  | none=>jQ rs part i
theorem zdd {rs:List Str}{part:List (Nat×Nat)}{i:Nat}{c:Nat×Nat}(h:part[i]?=some c):jQ rs part (i+1)=(Subs.step (jQ rs part i) c).filter (Grow.chk (nearF rs) (qQ rs) (JJ rs part) c (part.drop (i+1))):=by
 show (match part[i]? with | some c=>_ | none=>_)=_
 rw[h]
theorem zde {rs:List Str}{part:List (Nat×Nat)}:∀(k i:Nat),part.length-i=k->i<=part.length->Grow.grow (nearF rs) (qQ rs) (JJ rs part) (jQ rs part i) (part.drop i)=jQ rs part part.length
 | 0,i,h,hi=>by
  have e:i=part.length:=by lia
  subst e
  rw[List.drop_length]
  rfl
 | k+1,i,h,hi=>by
  have hl:i<part.length:=by lia
  rw[WP hl]
  show Grow.grow _ _ _ ((Subs.step (jQ rs part i) part[i]).filter _) (part.drop (i+1))=_
  rw[<- zdd (X7 hl)]
  exact zde k (i+1) (by lia) (by lia)
theorem zeJ (rs:List Str)(part:List (Nat×Nat)):jQ rs part part.length=(Subs.subs part).filter (Grow.fits (nearF rs) (qQ rs) (JJ rs part) part):=by
 rw[<- Grow.zni]
 exact(zde (rs:=rs) (part:=part) part.length 0 (by lia) (WW _)).symm
theorem Q2 (rs:List Str)(part:List (Nat×Nat)):∀i,(jQ rs part i).length<=2^i
 | 0=>XW _
 | i+1=>by
  have ih:=Q2 rs part i
  show (match part[i]? with | some c=>_ | none=>_:List (List (Nat×Nat))).length<=_
  rw[VU]
  split
  ·refine X0 (Xz _ _) ?_
   unfold Subs.step
   rw[XZ,ZB]
   lia
  ·lia
theorem zdf (rs:List Str)(part:List (Nat×Nat)):∀i,∀q∈jQ rs part i,q.length<=i
 | 0,q,h=>by
  have e:q=[]:=by simpa[jQ] using h
  rw[e]
  exact XW _
 | i+1,q,h=>by
  have ih:=zdf rs part i
  cases e:part[i]? with
  | none =>
   have e2:jQ rs part (i+1)=jQ rs part i:=by
    show (match part[i]? with | some c=>_ | none=>_)=_
    rw[e]
   rw[e2] at h
   exact T5 (ih q h)
  | some c =>
   rw[zdd e] at h
   have h:=(XX.mp h).1
   rcases XI.mp h with h | h
   ·exact T5 (ih q h)
   ·obtain⟨p,hp,rfl⟩:=Xj.mp h
    rw[XZ]
    exact Nat.succ_le_succ (ih p hp)
noncomputable def tD2 (rs:List Str)(c:Nat×Nat):Wm:=.tuple [.int (qQ rs c),.list ((zK rs c).map zx)]
theorem zmd {N:Addr->Prop}{H:Hp}{rs:List Str}{v:V}{c:Nat×Nat}(h:Rdn N H v (tD2 rs c)):zg2 H rs v c:=by
 unfold tD2 at h
 generalize ed:(zK rs c).map zx=ds at h
 cases h with
 | tup h t =>
  cases t with
  | cons b t =>
   cases b
   cases t with
   | cons d t =>
    cases t
    cases d with
    | lst n h1 h2 =>
     subst ed
     exact⟨_,_,_,rfl,h,h1,zJ.cel h2⟩
theorem zeK {N:Addr->Prop}{H:Hp}{rs:List Str}:∀{cs:List (Nat×Nat)} {vs:List V},zJ N H vs (cs.map (tD2 rs))->W0 (zg2 H rs) vs cs
 | [],_,.nil=>.nil
 | _::_,_,.cons h t=>.cons (zmd h) (zeK t)
theorem zat {σ:St}{H:Hp}{A B:Hp->Prop}(h:A H):zk6 σ H fun b H4=>if b=true then A H4 else B H4:=by
 show if true=true then A H else B H
 rw[if_pos rfl]
 exact h
theorem zme {F:List (List (Nat×Nat))}{j:Nat}{k:List (Int×Int)}(h:(F.map toL)[j]?=some k):∃q,F[j]?=some q/\k=toL q:=by
 rw[XE] at h
 cases e:F[j]? with
 | none=>rw[e] at h;cases h
 | some q =>
  rw[e] at h
  cases h
  exact⟨q,rfl,rfl⟩
theorem zg5 (xs:List V)(i:Nat)(hi:i<xs.length):zdJ xs (some (((i:Nat):Int)+1)) none=xs.drop (i+1):=by
 have e:HT.sIx xs.length 0 (some (((i:Nat):Int)+1))=i+1:=by
  have:=HT.QT xs.length 0 (i+1)
  rw[UV] at this
  rw[show (((i:Nat):Int)+1)=((i:Nat):Int)+((1:Nat):Int) from rfl,this]
  lia
 unfold zdJ
 rw[e]
 show (xs.drop (i+1)).take (xs.length-(i+1))=_
 rw[W8 (by rw[We];lia)]
theorem zg6 {H:Hp}:∀{us:List V} {cs:List (Nat×Nat)} (i:Nat),Cel H us cs->Cel H (us.drop i) (cs.drop i)
 | _,_,0,h=>h
 | _,_,i+1,.nil=>.nil
 | _,_,i+1,.cons _ t=>zg6 i t
section
variable {P:Xy}{w:W6}{K:X8}{mg:Str->Option X9}{base:Heap}{f:Addr}{fd:XO}
theorem qG:zQ ["board","part","told","found","place","cell","needs","grown"] ["board","part"] (zg qM):=⟨rfl,rfl,rfl,by decide +kernel,rfl,by decide +kernel,by decide +kernel⟩
theorem Y9 {f1 f2 f3 f4 f5 f6 f7 f8:Addr}{fd1 fd2 fd3 fd4 fd5 fd6 fd7 fd8:XO}(T:Txt mg)(D:zk K mg "part_layings" qM ["board","part"] f fd)(zH:zk K mg "around" jD ["board","cell"] f1 fd1)(zv:zk K mg "sign_at" qF ["board","cell"] f2 fd2)
  (zC:zk K mg "cells_of" qy ["board"] f3 fd3) (zq:zk K mg "open_cells" qt ["board"] f4 fd4) (zR:zk K mg "number_at" jr ["board","cell"] f5 fd5) (qK:zk K mg "numbers_of" jP ["board","part"] f6 fd6)
  (jz:zk K mg "needs_at" yM ["told","cell","rest"] f7 fd7) (jY:zk K mg "may_fit" xH ["needs","pick"] f8 fd8):zI P w K mg base CX0 4 f fd ["board","part"] zph:=by
 have xA:zI P w K mg base CX0 1 f1 fd1 ["board","cell"] Z6:=Z8 T zH
 have Je:zI P w K mg base CX0 2 f5 fd5 ["board","cell"] za4:=YJ T zR zv
 have zft:zI P w K mg base CX0 3 f6 fd6 ["board","part"] zl6:=zdU T qK zH zv zC zq
 have zim:zI P w K mg base CX0 1 f7 fd7 ["told","cell","rest"] zjz:=zg4 T jz
 have zky:zI P w K mg base CX0 1 f8 fd8 ["needs","pick"] zn9:=zil T jY
 refine D.F.ok qG (fun vs H Q E h=>?_) (fun cdv A outer s H vs Q E hr h=>?_)
 ·obtain⟨a,l,pa,rs,n,ups,part,rfl,_⟩:=h
  rfl
 ·obtain⟨a,l,pa,rs,n,ups,part,rfl,b,R,hpa,hcp,pnd,pl,q⟩:=h
  have ul:=hcp.length
  refine⟨_,(zd (jA (zP zi7 (zz zE (by rfl) T.qN Xh (za (pv 1) zb)) (Yp (v:=.int 14) (by rfl) T.zc5.choose_spec (by exact⟨_,rfl⟩)) (z9 _)) (zh zf0) qp)
   (zd (JF (i:=2) qG.nd rfl rfl (N:=["cell","board"]) (src:=[none,some 0]) (zY.free (O:=(zg qM).names) (XN:=["board","part","told","found","place","cell","needs","grown"]) rfl rfl ⟨_,rfl⟩ rfl rfl (by decide +kernel) (by decide +kernel) (by decide +kernel) rfl (by decide +kernel)) rfl (zU (zo zft (hr.mono (by decide)) (by rfl) qK.g qK.F.kp qK.b .nil zL (za (pv 0) (za (pv 1) zb)))) (fun _ _ _ _ _=>(zm (i:=0) (by show Xg (["cell","board"]:List Str);decide +kernel) rfl (XM rfl))) (fun _ _ _ _ _=>qL) (fun _ _ _ _ _=>(jO (za (zo Je (hr.mono (by decide)) (by rfl) zR.g zR.F.kp zR.b .nil zL (za (pv 1) (za (pv 0) zb))) (za (zo xA (hr.mono (by decide)) (by rfl) zH.g zH.F.kp zH.b .nil zL (za (pv 1) (za (pv 0) zb))) zb)))))
   (zd (zD (i:=3) qG.nd rfl (XM rfl) (qu (za (qu zb) zb)))
   (zd (qA Xd rfl (ZQ (by rfl) T.ye (za (pv 1) zb)) (Jl rfl (zT (zm (i:=4) qG.nd rfl (XM rfl)) (zT (zm (i:=5) qG.nd rfl (VF rfl)) jh))) (zd (zD (i:=6) qG.nd rfl (VF rfl) (zo zim (hr.mono (by decide)) (by rfl) jz.g jz.F.kp jz.b .nil zL (za (pv 2) (za (pv 5) (za (Qh ze5 (pv 1) (zaL (zG qT (pv 4) zf)) zaK) zb)))))
   (zd (zD (i:=7) qG.nd rfl (XM rfl) (zG zam (pv 3) (qd (N:=["pick","cell"]) (src:=[none,some 5]) (zY.free (O:=(zg qM).names) (XN:=["board","part","told","found","place","cell","needs","grown"]) rfl rfl ⟨_,rfl⟩ rfl rfl (by decide +kernel) (by decide +kernel) (by decide +kernel) rfl (by decide +kernel)) rfl (zU (pv 3)) (fun _ _ _ _ _=>(zm (i:=0) (by show Xg (["pick","cell"]:List Str);decide +kernel) rfl (XM rfl))) (fun _ _ _ _ _=>qL) (fun _ _ _ _ _=>(zG zam (pv 0) (qu (za (pv 1) zb)))))))
   (zh (JF (i:=3) qG.nd rfl rfl (N:=["pick","needs"]) (src:=[none,some 6]) (zY.free (O:=(zg qM).names) (XN:=["board","part","told","found","place","cell","needs","grown"]) rfl rfl ⟨_,rfl⟩ rfl rfl (by decide +kernel) (by decide +kernel) (by decide +kernel) rfl (by decide +kernel)) rfl (zU (pv 7)) (fun _ _ _ _ _=>(zm (i:=0) (by show Xg (["pick","needs"]:List Str);decide +kernel) rfl (XM rfl))) (fun _ _ _ _ _=>(qh (zbs (K:=K) (by rfl) (zo zky (hr.mono (by decide)) (by rfl) jY.g jY.F.kp jY.b .nil zL (za (pv 1) (za (pv 0) zb))) (fun _=>rfl)))) (fun _ _ _ _ _=>(pv 0)))))))
   (zh (zO (zz (GS.ZE hr.units) (by rfl) T.za3 UH (za (pv 3) zb)))))))),?_⟩
  refine⟨_,rfl,pa,ups,rfl,.inl (SqL.of hpa),_,_,rfl,rfl,_,rfl,?_⟩
  refine xu (decide_eq_false (by lia)) ?_
  refine⟨_,rfl,_,rfl,a,l,pa,rs,n,ups,part,rfl,b,R,hpa,hcp,fun d ws H1 hd hd1 hc1 s1=>⟨d,rfl,⟨_,SqL.of hd1⟩,fun z hz=>?_⟩⟩
  have b1:=b.mono s1
  have nl:(JJ rs part).length<=64:=X0 (Xz _ _) (qJ (p:=Jt) R)
  refine qI (K:=K) (a:=d) (xs:=ws) (fun a=>a≠z) ((JJ rs part).map fun c=>some (tD2 rs c)) (fun σ=>∃u0,σ=[u0,some (.ref a)]) hz (fun _ h=>h) ⟨_,rfl⟩ (by rw[ZB];exact hc1.length.symm) (by rw[hc1.length];exact X0 nl (by decide)) (SqL.of hd1) ?_ ?_
  ·rintro k x o σ H2 hx ho s2 hzn ⟨u0,rfl⟩ Y Z yes no
   obtain⟨y,hy,r1⟩:=Cel.get hc1 hx
   have eo:=yN hy ho
   have yo:y∈zF rs:=(XX.mp (X2 hy)).1
   obtain⟨t,sg,ht,hj,hop,es⟩:=qe yo
   obtain⟨ya,rfl,hya⟩:=r1
   obtain⟨l1,l2⟩:=yO R ht hj
   obtain⟨o1,o2⟩:=QZ (zcA R ht hj) hop
   have b2:=b1.mono s2
   have hya2:=s2 _ _ hya
   refine Zo ⟨_,rfl,_,rfl,a,l,ya,rs,n,y.1,y.2,t,sg,rfl,b2,hya2,ht,hj,R.tlen ht,o1,o2,_,rfl,_,rfl,a,l,ya,rs,n,y.1,y.2,rfl,b2,R,hya2,l1,l2,fun d2 ws2 H3 hd2 hd3 hc2 s3=>⟨(by show 2<=XU;decide),fun tt htt=>?_⟩⟩
   have s4:=ze (o:=.tup [.int (((sg:Nat):Int)-48),.ref d2]) htt
   have en:qQ rs y=((sg:Nat):Int)-48:=by
    unfold qQ
    rw[es]
   refine yes _ _ _ _ eo ⟨_,rfl⟩ (s3.trans s4) (.tup zc (.cons ?_ (.cons (.lst (fun e=>hzn (e ▸ hd2)) (s4 _ _ hd3) (Cel.rdn (hc2.mono s4))) .nil)))
   rw[en]
   exact .int _
  rintro ut H2 s2 hz2 hr2
  rw[J8] at hr2
  have hT:=zeK hr2
  have s02:=s1.trans s2
  refine⟨(by show 0<=XU;decide),fun e0 he0=>⟨(by show 1<=XU;decide),fun f0 hf0=>?_⟩⟩
  have y1:=ze (o:=.lst []) he0
  have y2:=ze (o:=.lst [.ref e0]) hf0
  have y12:=y1.trans y2
  have hL0:jg (fun a=>H2 a=none) (upd (upd H2 e0 (.lst [])) f0 (.lst [.ref e0])) [.ref e0] ([[]]:List (List (Int×Int))):=.cons ⟨e0,[],rfl,he0,y2 _ _ zc,.nil⟩ .nil
  have hf3:upd (upd H2 e0 (.lst [])) f0 (.lst [.ref e0]) f0=some (.lst [.ref e0]):=zc
  generalize upd (upd H2 e0 (.lst [])) f0 (.lst [.ref e0])=H3 at *
  have hpa2:=s02 _ _ hpa
  refine⟨_,rfl,pa,rfl,⟨_,SqL.of (y12 _ _ hpa2)⟩,?_⟩
  refine ZR (K:=K) (l:=pa) (xs:=ups) (fun i σ H'=>∃(fa:Addr) (fs:List V) (v4 v5 v6 v7:Option V),σ=[some (.ref a),some (.ref pa),some (.ref z),some (.ref fa),v4,v5,v6,v7]/\zB H2 H'/\H' fa=some (.lst fs)/\jg (fun a=>H2 a=none) H' fs ((jQ rs part i).map toL)/\fs.Nodup)
   ⟨f0,_,_,_,_,_,rfl,y12,hf3,hL0,by simp⟩ (fun i σ H' _ ⟨_,_,_,_,_,_,_,y,_⟩=>SqL.of (y _ _ hpa2)) ?_ ?_
  ·rintro i x tt σ H4 hx htt ⟨fa,fs,v4,v5,v6,v7,rfl,s4,hfa,hL,hnd⟩
   obtain⟨c,hc,ca,rfl,hca⟩:=Cel.get ((hcp.mono s02).mono s4) hx
   have il:=(X4.mp hx).1
   have z5:=ze (o:=.tup [.int (i:Nat),.ref ca]) htt
   refine⟨tt,_,rfl,SqT.of zc,rfl,_,_,rfl,_,_,rfl,rfl,?_⟩
   have s5:=s4.trans z5
   have hca5:=z5 _ _ hca
   have znz:=z5 _ _ hfa
   have hL5:=ql z5 hL
   generalize upd H4 tt (.tup [.int (i:Nat),.ref ca])=H5 at *
   refine⟨_,rfl,_,rfl,_,rfl,_,rfl,_,_,rfl,rfl,_,rfl,pa,ups,rfl,SqL.of (s5 _ _ hpa2),fun x1 hx1=>?_⟩
   have e1:=zg5 ups i il
   rw[e1] at *
   have z6:=ze (o:=.lst (ups.drop (i+1))) hx1
   have s6:=s5.trans z6
   refine⟨z,ca,x1,ut,ups.drop (i+1),rs,JJ rs part,part.drop (i+1),c,rfl,s6 _ _ hz2,zkx s6 hT,nl,R,z6 _ _ hca5,zc,zg6 _ ((hcp.mono s02).mono s6),pnd.sublist (SW _ _),fun nd un H6 zq2 hN s7=>?_⟩
   have s56:=z6.trans s7
   have s26:=s5.trans s56
   have zg7:=s56 _ _ znz
   have hL6:=ql s56 hL5
   have hca6:=s56 _ _ hca5
   have i14:i<=13:=by lia
   have fl:fs.length<=8192:=by
    rw[qg hL,ZB]
    exact X0 (Q2 rs part i) (Wu (by decide) i14)
   have dp:=zdf rs part i
   have eG:=zdd (rs:=rs) hc
   have gl:=Q2 rs part i
   generalize jQ rs part i=F at *
   refine⟨_,rfl,_,rfl,fa,rfl,⟨_,SqL.of zg7⟩,fun y hy=>?_⟩
   refine qq (K:=K) (a:=fa) (xs:=fs) (fun j σ' H'=>∃(u0:Option V) (ys:List V),σ'=[u0,some (.ref ca)]/\zB H6 H'/\H' y=some (.lst ys)/\jg (fun a=>H6 a=none/\a≠y) H' ys (((F.take j).map (·++[c])).map toL)/\ys.Nodup)
    ⟨_,[],rfl,ze hy,zc,.nil,TY⟩ (fun j σ' H' _ ⟨_,_,_,z,_⟩=>SqL.of (z _ _ zg7)) ?_ ?_
   ·rintro j v σ' H7 hv ⟨u0,ys,rfl,s8,hy7,hL7,nd7⟩
    obtain⟨k,a1,w1,hk,rfl,an,ha1,t1⟩:=Za hL6 hv
    obtain⟨q1,hq1,rfl⟩:=zme hk
    have kd:=dp q1 (X2 hq1)
    have wl:w1.length=q1.length:=(jH t1).trans (ZB _)
    have tj:((F.take (j+1)).map (·++[c])).map toL=((F.take j).map (·++[c])).map toL++[toL q1++[toI c]]:=by
     rw[XJ,hq1,Xv,Xv]
     simp[toL]
    rw[tj]
    unfold Q9
    refine zat ?_
    refine⟨_,rfl,_,rfl,(by show 1<=XU;decide),fun t2 ht2=>?_⟩
    have y5:=ze (o:=.lst [.ref ca]) ht2
    refine⟨a1,t2,w1,[.ref ca],rfl,rfl,y5 _ _ (s8 _ _ ha1),zc,X0 (show w1.length+1<=100 by lia) (by decide),fun t3 ht3=>?_⟩
    have y6:=ze (o:=.lst (w1++[.ref ca])) ht3
    have y56:=y5.trans y6
    have h6:upd (upd H7 t2 (.lst [.ref ca])) t3 (.lst (w1++[.ref ca])) t3=some (.lst (w1++[.ref ca])):=zc
    have tz:t3≠y:=fun e=>by
     subst e
     rw[y5 _ _ hy7] at ht3
     cases ht3
    have n4:=y5.free ht3
    have n3:=s8.free n4
    have c1:jC (upd (upd H7 t2 (.lst [.ref ca])) t3 (.lst (w1++[.ref ca]))) [.ref ca] [toI c]:=.cons ⟨ca,rfl,y56 _ _ (s8 _ _ hca6)⟩ .nil
    have tw6:=Qw (qf (s8.trans y56) t1) c1
    generalize upd (upd H7 t2 (.lst [.ref ca])) t3 (.lst (w1++[.ref ca]))=H8 at *
    have hy8:=y56 _ _ hy7
    have yl:ys.length<=8192:=by
     rw[qg hL7,ZB,ZB,XQ]
     have:=qg hL
     rw[ZB] at this
     lia
    refine⟨ys,hy8,XH yl (by decide),_,ys++[.ref t3],rfl,fun b' o e=>?_,zc,yW (yf hy8 (fun a h=>h.2) (ql y56 hL7)) (.cons ⟨t3,w1++[.ref ca],rfl,⟨n3,tz⟩,by rw[zu tz];exact h6,jk hy8 tw6⟩ .nil),?_⟩
    ·rw[zu (zj e hy)]
     exact y56 _ _ (s8 _ _ e)
    ·refine Wp.mpr ⟨nd7,by simp,fun u hu u' hu' e=>?_⟩
     obtain⟨b',wb,rfl,_,hb⟩:=yX hL7 hu
     have e2:u'=.ref t3:=by simpa using hu'
     rw[e2] at e
     cases e
     rw[hb] at n4
     cases n4
   rintro σ' H7 ⟨u0,ys,rfl,s8,hy7,hL7,nd7⟩
   have fsl:fs.length=F.length:=(qg hL).trans (ZB _)
   rw[fsl,XG] at hL7
   have yl:ys.length<=8192:=by
    rw[qg hL7,ZB,ZB]
    lia
   refine⟨fa,y,fs,ys,rfl,rfl,s8 _ _ zg7,hy7,X0 (S6 fl yl) (by decide),fun g hg=>?_⟩
   have y9:=ze (o:=.lst (fs++ys)) hg
   have s27:=s26.trans s8
   have s28:=s27.trans y9
   have hg8:upd H7 g (.lst (fs++ys)) g=some (.lst (fs++ys)):=zc
   have hLg:jg (fun a=>H2 a=none) (upd H7 g (.lst (fs++ys))) (fs++ys) ((Subs.step F c).map toL):=by
    unfold Subs.step
    rw[Xv]
    exact yW (ql (s8.trans y9) hL6) (ql y9 (YL (fun a h=>s26.free h.1) hL7))
   have gnd:(fs++ys).Nodup:=by
    refine Wp.mpr ⟨hnd,nd7,fun u hu u' hu' e=>?_⟩
    obtain⟨b',wb,rfl,_,hb⟩:=yX hL6 hu
    obtain⟨b2,wb2,rfl,hb2,_⟩:=yX hL7 hu'
    cases e
    rw[hb] at hb2
    cases hb2.1
   have hnd8:=(s8.trans y9) _ _ zq2
   have hN8:=zbL (s8.trans y9) hN
   have gll:(fs++ys).length<=16384:=by
    rw[XZ]
    lia
   have dps:∀q∈Subs.step F c,q.length<=64:=fun q hq=>by
    rcases XI.mp hq with hq | hq
    ·have:=dp q hq
     lia
    ·obtain⟨p',hp',rfl⟩:=Xj.mp hq
     have:=dp p' hp'
     rw[XZ]
     show p'.length+1<=64
     lia
   generalize fs++ys=gs at *
   generalize Subs.step F c=S at *
   generalize upd H7 g (.lst gs)=H8 at *
   refine⟨_,rfl,g,rfl,⟨_,SqL.of hg8⟩,fun y2 hy2=>?_⟩
   refine qq (K:=K) (a:=g) (xs:=gs) (fun j σ' H'=>∃(u0:Option V) (ys:List V),σ'=[u0,some (.ref nd)]/\zB H8 H'/\H' y2=some (.lst ys)/\jg (fun a=>H2 a=none/\a≠y2) H' ys (((S.take j).filter (Grow.chk (nearF rs) (qQ rs) (JJ rs part) c (part.drop (i+1)))).map toL)/\ys.Sublist (gs.take j))
    ⟨_,[],rfl,ze hy2,zc,.nil,RZ⟩ (fun j σ' H' _ ⟨_,_,_,z,_⟩=>SqL.of (z _ _ hg8)) ?_ ?_
   ·rintro j v σ' H9 hv ⟨u0,ys,rfl,s9,hz9,hL9,sb9⟩
    obtain⟨k,a1,w1,hk,rfl,an,ha1,t1⟩:=Za hLg hv
    obtain⟨q1,hq1,rfl⟩:=zme hk
    have tf:gs.take (j+1)=gs.take j++[.ref a1]:=by
     rw[XJ,hv]
     rfl
    refine⟨_,rfl,_,rfl,nd,a1,un,w1,rs,part.drop (i+1),_,q1,rfl,s9 _ _ hnd8,zbL s9 hN8,s9 _ _ ha1,(Jf t1).mono s9,dps q1 (X2 hq1),fun H10 s10=>⟨_,rfl,?_⟩⟩
    rw[tf]
    have hz10:=s10 _ _ hz9
    show if Grow.chk (nearF rs) (qQ rs) (JJ rs part) c (part.drop (i+1)) q1=true then _ else _
    by_cases hlt:Grow.chk (nearF rs) (qQ rs) (JJ rs part) c (part.drop (i+1)) q1=true
    ·have e1:((S.take (j+1)).filter (Grow.chk (nearF rs) (qQ rs) (JJ rs part) c (part.drop (i+1)))).map toL=((S.take j).filter (Grow.chk (nearF rs) (qQ rs) (JJ rs part) c (part.drop (i+1)))).map toL++[toL q1]:=by
      rw[XJ,hq1,XA,Xv]
      simp[hlt]
     rw[e1]
     have az:a1≠y2:=zj ha1 hy2
     have yl:ys.length<=16384:=by
      have:=sb9.length_le
      rw[XQ] at this
      lia
     refine JE hlt ⟨_,rfl,ys,hz10,XH yl (by decide),_,ys++[.ref a1],rfl,fun b' o e=>?_,zc,yW (yf hz10 (fun a h=>h.2) (ql s10 hL9)) (.cons ⟨a1,w1,rfl,⟨an,az⟩,by rw[zu az];exact s10 _ _ (s9 _ _ ha1),jk hz10 (qf (s9.trans s10) t1)⟩ .nil),List.Sublist.append sb9 (List.Sublist.refl _)⟩
     rw[zu (zj e hy2)]
     exact s10 _ _ (s9 _ _ e)
    ·have e1:((S.take (j+1)).filter (Grow.chk (nearF rs) (qQ rs) (JJ rs part) c (part.drop (i+1)))).map toL=((S.take j).filter (Grow.chk (nearF rs) (qQ rs) (JJ rs part) c (part.drop (i+1)))).map toL:=by
      rw[XJ,hq1,XA,Xv]
      simp[hlt]
     rw[e1]
     exact xu (Xc.mpr hlt) ⟨_,ys,rfl,s9.trans s10,hz10,ql s10 hL9,sb9.trans (Vl _ _)⟩
   ·rintro σ' H9 ⟨u0,ys,rfl,s9,hz9,hL9,sb9⟩
    have gsl:gs.length=S.length:=(qg hLg).trans (ZB _)
    rw[gsl,XG,<- eG] at hL9
    rw[gsl,<- gsl,XG] at sb9
    exact⟨y2,ys,_,_,_,_,rfl,s28.trans s9,hz9,YL (fun a h=>h.1) hL9,gnd.sublist sb9⟩
  ·rintro σ H4 ⟨fa,fs,v4,v5,v6,v7,rfl,s4,hfa,hL,hnd⟩
   have gl:=Q2 rs part part.length
   rw[ul,zeJ] at hL
   rw[zeJ] at gl
   have fl:fs.length<=16384:=by
    rw[qg hL,ZB]
    exact X0 gl (Wu (by decide) pl)
   refine⟨_,rfl,fa,fs,_,rfl,SqL.of hfa,zeH hL,by lia,fun d' us' ks' hd' hp' zb7 hpw hup=>?_⟩
   have y5:=ze (o:=.lst us') hd'
   have s04:=s02.trans s4
   refine q d' us' ks' _ (s04.free hd') zc (ql y5 (zg1 hp' fun v hv=>?_)) (hup.nodup_iff.mpr hnd) zb7 hpw (s04.trans y5)
   obtain⟨a1,wa,e,na,ha⟩:=yX hL (hup.mem_iff.mp hv)
   exact⟨a1,e,s02.free na,zj ha hd'⟩
end
abbrev iL (xs:List Int):List V:=xs.map V.int
noncomputable def Qx (xs:List Int):Wm:=.list (xs.map SK)
theorem zb8 {K:X8}{H:Hp}:∀xs:List Int,Jm K H (iL xs) (xs.map SK)
 | []=>.nil
 | x::r=>.cons (.int x) (zb8 r)
theorem zbb {K:X8}{H:Hp}{a:Addr}{xs:List Int}(h:SqL K H a (iL xs)):Rdv K H (.ref a) (Qx xs):=.lst h (zb8 xs)
theorem lay_ints:∀xs:List Int,Wd (xs.map SK)=true
 | []=>rfl
 | x::r=>by
  show (Vh (.int x)&&Wd (r.map SK))=true
  rw[lay_ints r]
  rfl
theorem zdg:∀xs:List Int,Wg (xs.map SK)=0
 | []=>rfl
 | x::r=>by
  show max (PyData.depth (.int x)) (Wg (r.map SK))=0
  rw[zdg r]
  rfl
theorem zbM (xs:List Int):(Qx xs).canLay0=true:=lay_ints xs
theorem zg8 (xs:List Int):(Qx xs).depth=1:=by
 show Wg (xs.map SK)+1=1
 rw[zdg]
theorem zeL (xs ys:List Int):zhJ (Qx xs) (Qx ys):=⟨zbM xs,zbM ys,by rw[zg8];decide⟩
theorem zin (xs:List Int):W2 (Qx xs) (Qx xs)=true:=Py _ (zbM xs)
theorem ints_get {xs:List Int}{i:Nat}{v:V}(h:(iL xs)[i]?=some v):∃x,xs[i]?=some x/\v=.int x:=by
 rw[XE] at h
 cases e:xs[i]? with
 | none=>rw[e] at h;cases h
 | some x =>
  rw[e] at h
  cases h
  exact⟨x,rfl,rfl⟩
theorem zfu {xs:List Int}{i:Nat}{x:Int}(h:xs[i]?=some x):(iL xs)[i]?=some (.int x):=by
 rw[XE,h]
 rfl
theorem zio {n:Nat}{k:Int}(h0:0<=k)(h1:k<n):ixN n k=some k.toNat:=by
 unfold ixN
 rw[if_pos h0,if_pos h1]
theorem zjA (xs:List Int)(z:Int):iL (xs++[z])=iL xs++[.int z]:=by
 show UU V.int (xs++[z])=_
 rw[Xv]
 rfl
def zcg (c:Nat×Nat)(k:List (Int×Int)):Bool:=k.any fun z=>decide (z=toI c)
noncomputable def YN (rs:List Str)(part:List (Nat×Nat)):List (List (Int×Int)):=((Subs.subs part).filter (Grow.fits (nearF rs) (qQ rs) (JJ rs part) part)).map toL
def zjB:Sp:=fun vs H Q _=>∃(fa:Addr) (us:List V) (ks:List (List (Int×Int))) (N:Addr->Prop) (g:Nat),vs=[.ref fa,.int (g:Nat)]/\H fa=some (.lst us)/\jg N H us ks/\(∀k∈ks,k.length<=g)/\g<=64 /\
 ∀(d:Addr) (H':Hp),H d=none->H' d=some (.lst (iL (Cnt.xg g ks)))->zB H H'->Q (.ref d) H'
def zjC:Sp:=fun vs H Q _=>∃(fa ca:Addr) (us:List V) (ks:List (List (Int×Int))) (N:Addr->Prop) (g:Nat) (c:Nat×Nat),vs=[.ref fa,.int (g:Nat),.ref ca]/\H fa=some (.lst us)/\jg N H us ks/\(∀k∈ks,k.length<=g)/\g<=64/\ks.length<=16384/\H ca=some (.tup [.int (c.1:Nat),.int (c.2:Nat)]) /\
 ∀(d:Addr) (H':Hp),H d=none->H' d=some (.lst (iL (Cnt.xg g (ks.filter (zcg c)))))->zB H H'->Q (.ref d) H'
def zqk:Sp:=fun vs H Q _=>∃(a l pa:Addr) (rs:List Str) (n:Int) (ups:List V) (part:List (Nat×Nat)),vs=[.ref a,.ref pa]/\qj H a l rs n/\Rows bd.cps.toList rs/\H pa=some (.lst ups)/\Cel H ups part/\part.Nodup/\part.length<=14 /\
 ∀(d:Addr) (H':Hp),H d=none->H' d=some (.lst (iL (Cnt.xg part.length (YN rs part))))->zB H H'->Q (.ref d) H'
theorem zg9 (n:Nat):(WF n [V.int 0]).flatten=iL (WF n 0):=by
 induction n with
 | zero=>rfl
 | succ n ih =>
  rw[Va,Wz,ih]
  rfl
theorem zha {α:Type}:∀(cs:List α) (b:Nat),(Subs.pick cs b).length<=cs.length
 | [],_=>WW _
 | c::r,b=>by
  have:=zha r (b/2)
  show ((if b%2=1 then [c] else [])++Subs.pick r (b/2)).length<=r.length+1
  rw[XZ]
  split
  ·show 1+_<=_
   lia
  ·show 0+_<=_
   lia
theorem zmf {α:Type}{cs q:List α}(h:q∈Subs.subs cs):q.length<=cs.length:=by
 rw[Subs.yq] at h
 obtain⟨b,_,rfl⟩:=Xj.mp h
 exact zha cs b
theorem zdh {rs:List Str}{part:List (Nat×Nat)}{k:List (Int×Int)}(h:k∈YN rs part):k.length<=part.length:=by
 obtain⟨q1,h1,rfl⟩:=Xj.mp h
 show (q1.map toI).length<=_
 rw[ZB]
 exact zmf (XX.mp h1).1
theorem zkz {rs:List Str}{part:List (Nat×Nat)}(h:part.length<=14):(YN rs part).length<=16384:=by
 unfold YN
 rw[ZB]
 refine X0 (Xz _ _) ?_
 rw[Subs.yq,ZB,WL]
 exact X0 (Wu (by decide) h) (by decide)
section
variable {P:Xy}{w:W6}{K:X8}{mg:Str->Option X9}{base:Heap}{f:Addr}{fd:XO}
theorem zau:zQ ["found","greatest","counts","laying"] ["found","greatest"] (zg JR):=⟨rfl,rfl,rfl,by decide +kernel,rfl,by decide +kernel,by decide +kernel⟩
theorem zav (T:Txt mg)(D:zk K mg "counted" JR ["found","greatest"] f fd):zI P w K mg base CX0 1 f fd ["found","greatest"] zjB:=by
 refine D.F.ok zau (fun vs H Q E h=>?_) (fun cdv A outer s H vs Q E hr h=>?_)
 ·obtain⟨fa,us,ks,N,g,rfl,_⟩:=h
  rfl
 ·obtain⟨fa,us,ks,N,g,rfl,hfa,hL,hk,g64,q⟩:=h
  refine⟨_,(zd (zD (i:=2) zau.nd rfl (XM rfl) (zG zk2 (qu (za zf zb)) (zG qT (pv 1) zf)))
   (zd (qA Xd rfl (zU (pv 0)) (zm (i:=3) zau.nd rfl (XM rfl)) (zh (zi3 (pv 2) (zz zE (by rfl) T.qN Xh (za (pv 3) zb)) zga zf zkX set_list)))
   (zh (zO (pv 2))))),?_⟩
  refine⟨(by show 1<=XU;decide),fun l0 hl0=>?_⟩
  have s0:zB H (upd H l0 (.lst [.int 0])):=ze hl0
  refine⟨_,rfl,_,_,rfl,rfl,l0,_,_,rfl,rfl,zc,by lia,by lia,?_,fun p hp=>?_⟩
  ·exact X0 (show 1*((g:Int)+1).toNat<=120 by lia) (by decide)
  rw[show ((g:Int)+1).toNat=g+1 by lia,zg9,<- Cnt.zgE (α:=Int×Int)]
  have s1:=s0.trans (ze (o:=.lst (iL (Cnt.xg g ([]:List (List (Int×Int)))))) hp)
  have hp0:H p=none:=s0.free hp
  refine⟨_,rfl,fa,rfl,⟨_,SqL.of (s1 _ _ hfa)⟩,?_⟩
  refine jS (K:=K) (a:=fa) (xs:=us) (fun i σ H'=>∃v3,σ=[some (.ref fa),some (.int (g:Nat)),some (.ref p),v3]/\zB H H'/\H' p=some (.lst (iL (Cnt.xg g (ks.take i)))))
   ⟨_,rfl,s1,zc⟩ (fun i σ H' _ ⟨_,_,y,_⟩=>SqL.of (y _ _ hfa)) ?_ ?_
  ·rintro i v σ H1 hv ⟨v3,rfl,s2,hp2⟩
   obtain⟨k,a1,wa,hk1,rfl,_,ha1,t1⟩:=Za hL hv
   have kl:=hk k (X2 hk1)
   have wl:=jH t1
   refine⟨_,rfl,_,rfl,a1,wa,rfl,.inl (SqL.of (s2 _ _ ha1)),p,_,_,_,rfl,rfl,SqL.of hp2,jx (by lia) (zfu (Cnt.zaY (n:=wa.length) _ (by lia))),_,_,rfl,rfl,p,_,_,_,rfl,rfl,hp2,zio (by lia) (by rw[ZB,Cnt.Qt];lia),?_⟩
   refine⟨_,rfl,fun c o e=>?_,?_⟩
   ·rw[zu (zj e hp0)]
    exact s2 _ _ e
   ·rw[zc,XJ,hk1]
    show _=some (HO.lst (iL (Cnt.xg g (ks.take i++[k]))))
    rw[Cnt.zex _ kl,wl]
    show some (HO.lst ((UU V.int _).set _ (V.int _)))=_
    rw[<- Re]
    rfl
  ·rintro σ H1 ⟨v3,rfl,s2,hp2⟩
   rw[qg hL,XG] at hp2
   exact⟨_,rfl,q p H1 hp0 hp2 s2⟩
theorem zdi:zQ ["board","part"] ["board","part"] (zg xY):=⟨rfl,rfl,rfl,by decide +kernel,rfl,by decide +kernel,by decide +kernel⟩
theorem zdj {f1 f2 f3 f4 f5 f6 f7 f8 f9 f10:Addr}{fd1 fd2 fd3 fd4 fd5 fd6 fd7 fd8 fd9 fd10:XO}(T:Txt mg)(D:zk K mg "part_counts" xY ["board","part"] f fd)(zH:zk K mg "around" jD ["board","cell"] f1 fd1)(zv:zk K mg "sign_at" qF ["board","cell"] f2 fd2)
  (zC:zk K mg "cells_of" qy ["board"] f3 fd3) (zq:zk K mg "open_cells" qt ["board"] f4 fd4) (zR:zk K mg "number_at" jr ["board","cell"] f5 fd5) (qK:zk K mg "numbers_of" jP ["board","part"] f6 fd6)
  (jz:zk K mg "needs_at" yM ["told","cell","rest"] f7 fd7) (jY:zk K mg "may_fit" xH ["needs","pick"] f8 fd8) (qm:zk K mg "part_layings" qM ["board","part"] f9 fd9) (qz:zk K mg "counted" JR ["found","greatest"] f10 fd10):zI P w K mg base CX0 5 f fd ["board","part"] zqk:=by
 have Zb:zI P w K mg base CX0 4 f9 fd9 ["board","part"] zph:=Y9 T qm zH zv zC zq zR qK jz jY
 have Yc:zI P w K mg base CX0 1 f10 fd10 ["found","greatest"] zjB:=zav T qz
 refine D.F.ok zdi (fun vs H Q E h=>?_) (fun cdv A outer s H vs Q E hr h=>?_)
 ·obtain⟨a,l,pa,rs,n,ups,part,rfl,_⟩:=h
  rfl
 ·obtain⟨a,l,pa,rs,n,ups,part,rfl,b,R,hpa,hcp,pnd,pl,q⟩:=h
  refine⟨_,(zh (zO (zo Yc (hr.mono (by decide)) (by rfl) qz.g qz.F.kp qz.b .nil zL (za (zo Zb (hr.mono (by decide)) (by rfl) qm.g qm.F.kp qm.b .nil zL (za (pv 0) (za (pv 1) zb))) (za (zz zE (by rfl) T.qN Xh (za (pv 1) zb)) zb))))),?_⟩
  refine⟨_,rfl,_,rfl,a,l,pa,rs,n,ups,part,rfl,b,R,hpa,hcp,pnd,pl,fun d ws ks H1 hd hd1 hL _ hpm _ s1=>?_⟩
  refine⟨_,rfl,pa,ups,rfl,.inl (SqL.of (s1 _ _ hpa)),d,ws,ks,_,ups.length,rfl,hd1,hL,fun k hk=>?_,?_,fun e H2 he he2 s2=>?_⟩
  ·rw[hcp.length]
   exact zdh (hpm.mem_iff.mp hk)
  ·rw[hcp.length]
   lia
  ·rw[hcp.length,Cnt.zbD hpm] at he2
   exact q e H2 (s1.free he) he2 (s1.trans s2)
end
def qW (rs:List Str)(g S:List (Nat×Nat)):Bool:=Grow.fits (nearF rs) (qQ rs) (JJ rs g) g S
theorem zbN {rs:List Str}{o x:Nat×Nat}:nearF rs o x=true↔x∈zK rs o:=Parts.zaX _ _
theorem zpi {rs:List Str}{x:Nat×Nat}(h:x∈zp rs):Cells.sgn (codes rs) x=63:=by
 obtain⟨t,k,ht,hj,hk,es⟩:=qe h
 have:k=63:=by
  unfold jV at hk
  simpa using hk
 rw[es,this]
theorem JK {rs:List Str}{o x:Nat×Nat}(hx:x∈zp rs):nearF rs o x=true↔x∈clA rs o:=by
 rw[zbN]
 constructor
 ·exact fun h=>XX.mpr ⟨h,decide_eq_true (zpi hx)⟩
 ·exact fun h=>(XX.mp h).1
theorem zfv {rs:List Str}{g:List (Nat×Nat)}{o:Nat×Nat}:o∈JJ rs g↔o∈zF rs/\∃x∈g,nearF rs o x=true:=by
 unfold JJ
 rw[XX,US,WS]
 refine and_congr_right fun _=>?_
 constructor
 ·rintro⟨z,hz,h⟩
  have h':(g.any fun x=>decide (x=z))=true:=h
  exact⟨z,(Parts.zaX _ _).mp h',zbN.mpr hz⟩
 ·rintro⟨x,hx,h⟩
  exact⟨x,zbN.mp h,(Parts.zaX _ _).mpr hx⟩
section
variable {rs:List Str}{gs:List (List (Nat×Nat))}(G:Parts.Good (clA rs) (zF rs) gs)
include G
theorem yJ:∀c∈gs.flatten,c∈zp rs:=fun c hc=>by
 obtain⟨o,_,h⟩:=G.from_ c hc
 exact Jg h
theorem znA {g:List (Nat×Nat)}(hg:g∈gs){o x:Nat×Nat}(ho:o∈JJ rs g)(hx:x∈zp rs)(hn:nearF rs o x=true):x∈g:=by
 obtain⟨h1,y,hy,h2⟩:=zfv.mp ho
 have hys:=yJ G y (WA.mpr ⟨g,hg,hy⟩)
 have hyc:=(JK hys).mp h2
 obtain⟨g',hg',hall⟩:=G.cov o h1 (Tp hyc)
 have e:=Parts.zet G.nd hg' hg (hall y hyc) hy
 rw[<- e]
 exact hall x ((JK hx).mp hn)
theorem zjD {g:List (Nat×Nat)}(hg:g∈gs){o:Nat×Nat}(ho:o∈JJ rs g){a:List (Nat×Nat)}(h:∀c∈a,c∈zp rs/\c ∉ g):Grow.cnt (nearF rs) o a=0:=by
 unfold Grow.cnt
 rw[Ve,Wn]
 intro c hc hn
 exact(h c hc).2 (znA G hg ho (h c hc).1 hn)
theorem zbc {g:List (Nat×Nat)}(hg:g∈gs):Tally.Loc (zp rs) (qW rs g) g:=by
 have key:∀S S':List (Nat×Nat),(∀o∈JJ rs g,Grow.cnt (nearF rs) o S=Grow.cnt (nearF rs) o S')->qW rs g S=qW rs g S':=fun S S' h=>by
  unfold qW Grow.fits
  rw[WU,WT,WT]
  constructor
  ·intro k o ho
   have:=k o ho
   rwa [h o (XX.mp ho).1] at this
  ·intro k o ho
   have:=k o ho
   rwa [<- h o (XX.mp ho).1] at this
 have app:∀(o:Nat×Nat) (a b:List (Nat×Nat)),Grow.cnt (nearF rs) o (a++b)=Grow.cnt (nearF rs) o a+Grow.cnt (nearF rs) o b:=fun o a b=>by
  unfold Grow.cnt
  rw[XA,XZ]
 refine⟨fun a b h=>key _ _ fun o ho=>?_,fun a b h=>key _ _ fun o ho=>?_⟩
 ·rw[app,zjD G hg ho h,V9]
 ·rw[app,zjD G hg ho h,TW]
theorem zhb:(gs.map fun g=>Tally.tl g (qW rs g)).foldl Pour.ZF [1]=Tally.tl gs.flatten (Tally.yc (qW rs) gs):=Tally.zh6 G.nd (yJ G) fun g hg=>zbc G hg
theorem zkA (i:Nat):((gs.take i).map fun g=>Tally.tl g (qW rs g)).foldl Pour.ZF [1]=Tally.tl (gs.take i).flatten (Tally.yc (qW rs) (gs.take i)):=by
 have sub:(gs.take i).flatten.Sublist gs.flatten:=by
  have e:gs.flatten=(gs.take i).flatten++(gs.drop i).flatten:=by rw[<- Wv,WR]
  rw[e]
  exact Vl _ _
 exact Tally.zh6 (G.nd.sublist sub) (fun c hc=>yJ G c (sub.subset hc)) fun g hg=>zbc G (Wo hg)
theorem Qy (R:Rows bd.cps.toList rs):gs.flatten.length<=64:=by
 have h1:=Parts.yp G.nd (yJ G)
 have h2:=zeF R
 lia
end
theorem zeM (rs:List Str)(part:List (Nat×Nat)):Cnt.xg part.length (YN rs part)=Tally.tl part (qW rs part):=by
 unfold YN
 rw[Tally.zgJ part.length toL (fun k=>ZB _)]
 exact Tally.zjv part _
def zkB (xs:List Int):Prop:=∀z∈xs,z.natAbs<2^8000
theorem znB {cs:List (Nat×Nat)}{p:List (Nat×Nat)->Bool}{k:Nat}(h:cs.length<=64):Tally.T cs p k<=2^64:=by
 refine X0 PM ?_
 rw[Subs.yq,ZB,WL]
 exact Wu (by decide) h
theorem YO {cs:List (Nat×Nat)}{p:List (Nat×Nat)->Bool}(h:cs.length<=64):zkB (Tally.tl cs p):=fun z hz=>by
 unfold Tally.tl at hz
 obtain⟨k,_,rfl⟩:=Xj.mp hz
 rw[RY]
 exact XH (znB h) (Pn (by decide) (by decide))
def qH (rs:List Str)(S:List (Nat×Nat)):Bool:=((zF rs).filter fun o=>!(clA rs o).isEmpty).all fun o=>decide (((Grow.cnt (nearF rs) o S:Nat):Int)=qQ rs o)
theorem jR {rs:List Str}{S:List (Nat×Nat)}:qH rs S=true ↔ ∀o∈zF rs,clA rs o ≠ []->((Grow.cnt (nearF rs) o S:Nat):Int)=qQ rs o:=by
 unfold qH
 rw[WT]
 constructor
 ·intro h o ho hc
  exact of_decide_eq_true (h o (XX.mpr ⟨ho,by rw[WC];exact UX.mpr hc⟩))
 ·intro h o ho
  obtain⟨h1,h2⟩:=XX.mp ho
  rw[WC] at h2
  exact decide_eq_true (h o h1 (UX.mp h2))
theorem Q3 {rs:List Str}{gs:List (List (Nat×Nat))}(G:Parts.Good (clA rs) (zF rs) gs)(S:List (Nat×Nat)):Tally.yc (qW rs) gs S=qH rs S:=by
 rw[WU,jR]
 unfold Tally.yc qW Grow.fits
 rw[WT]
 constructor
 ·intro h o ho hc
  obtain⟨x,hx⟩:=TR _ hc
  obtain⟨g,hg,hall⟩:=G.cov o ho hc
  have hn:nearF rs o x=true:=(JK (Jg hx)).mpr hx
  have:=h g hg
  rw[WT] at this
  exact of_decide_eq_true (this o (XX.mpr ⟨zfv.mpr ⟨ho,x,hall x hx,hn⟩,WS.mpr ⟨x,hall x hx,hn⟩⟩))
 ·intro h g hg
  rw[WT]
  intro o ho
  obtain⟨h1,x,hx,hn⟩:=zfv.mp (XX.mp ho).1
  have hxs:=yJ G x (WA.mpr ⟨g,hg,hx⟩)
  exact decide_eq_true (h o h1 (Tp ((JK hxs).mp hn)))
theorem zfw (rs:List Str):Tally.Inv (qH rs):=fun a b e=>by
 rw[WU,jR,jR]
 have:∀o,Grow.cnt (nearF rs) o a=Grow.cnt (nearF rs) o b:=fun o=>(e.filter _).length_eq
 constructor
 ·intro h o ho hc
  rw[<- this o]
  exact h o ho hc
 ·intro h o ho hc
  rw[this o]
  exact h o ho hc
theorem zhc {rs:List Str}{gs:List (List (Nat×Nat))}(G:Parts.Good (clA rs) (zF rs) gs){c:Nat×Nat}:c∈gs.flatten↔c∈zp rs/\∃o∈zF rs,nearF rs o c=true:=by
 constructor
 ·intro h
  obtain⟨o,ho,hc⟩:=G.from_ c h
  have hs:=Jg hc
  exact⟨hs,o,ho,(JK hs).mpr hc⟩
 ·rintro⟨hs,o,ho,hn⟩
  have hc:=(JK hs).mp hn
  obtain⟨g,hg,hall⟩:=G.cov o ho (Tp hc)
  exact WA.mpr ⟨g,hg,hall c hc⟩
def jI (rs:List Str)(S:List (Nat×Nat)):Bool:=(zF rs).all fun o=>decide (((Grow.cnt (nearF rs) o S:Nat):Int)=qQ rs o)
theorem zaw {rs:List Str}{S:List (Nat×Nat)}:jI rs S=true ↔ ∀o∈zF rs,((Grow.cnt (nearF rs) o S:Nat):Int)=qQ rs o:=by
 unfold jI
 rw[WT]
 exact⟨fun h o ho=>of_decide_eq_true (h o ho),fun h o ho=>decide_eq_true (h o ho)⟩
theorem zdk (rs:List Str):Tally.Inv (jI rs):=fun a b e=>by
 rw[WU,zaw,zaw]
 have:∀o,Grow.cnt (nearF rs) o a=Grow.cnt (nearF rs) o b:=fun o=>(e.filter _).length_eq
 constructor
 ·intro h o ho
  rw[<- this o]
  exact h o ho
 ·intro h o ho
  rw[this o]
  exact h o ho
theorem zmg {rs:List Str}:(jM rs).isEmpty=true ↔ ∀o∈zF rs,clA rs o=[]->qQ rs o=0:=by
 rw[List.isEmpty_iff]
 unfold jM qQ
 rw[Wn]
 constructor
 ·intro h o ho hc
  have:=h o (XX.mpr ⟨ho,by rw[hc];rfl⟩)
  rw[WC,Bool.not_eq_false] at this
  rw[of_decide_eq_true this]
  rfl
 ·intro h o ho
  obtain⟨h1,h2⟩:=XX.mp ho
  have:=h o h1 (List.isEmpty_iff.mp h2)
  rw[WC,Bool.not_eq_false]
  exact decide_eq_true (by lia)
theorem zbd {rs:List Str}{S:List (Nat×Nat)}(hS:∀c∈S,c∈zp rs):jI rs S=((jM rs).isEmpty&&qH rs S):=by
 have z:∀o,clA rs o=[]->Grow.cnt (nearF rs) o S=0:=fun o ho=>by
  unfold Grow.cnt
  rw[Ve,Wn]
  intro c hc hn
  have:=(JK (hS c hc)).mp hn
  rw[ho] at this
  cases this
 rw[WU,Wq,zaw,zmg,jR]
 constructor
 ·intro h
  refine⟨fun o ho hc=>?_,fun o ho _=>h o ho⟩
  rw[<- h o ho,z o hc]
  rfl
 ·rintro⟨h1,h2⟩ o ho
  by_cases hc:clA rs o=[]
  ·rw[z o hc,h1 o ho hc]
   rfl
  ·exact h2 o ho hc
theorem zjE {rs:List Str}{c o:Nat×Nat}(hc:c∈j5 rs)(ho:o∈zF rs):nearF rs o c=false:=by
 unfold j5 at hc
 have h:=(XX.mp hc).2
 rw[WC,US,RL] at h
 exact Xc.mpr (h o ho)
theorem zdl {rs:List Str}{a b:List (Nat×Nat)}(hb:∀c∈b,c∈j5 rs):qH rs (a++b)=qH rs a:=by
 have e:∀o∈zF rs,Grow.cnt (nearF rs) o (a++b)=Grow.cnt (nearF rs) o a:=fun o ho=>by
  unfold Grow.cnt
  rw[XA,XZ]
  have:b.filter (nearF rs o)=[]:=Wn.mpr fun c hc hn=>by
   rw[zjE (hb c hc) ho] at hn
   cases hn
  rw[this]
  rfl
 rw[WU,jR,jR]
 constructor
 ·intro h o ho hc
  rw[<- e o ho]
  exact h o ho hc
 ·intro h o ho hc
  rw[e o ho]
  exact h o ho hc
theorem zbe {rs:List Str}{c:Nat×Nat}(h:c∈j5 rs):c∈zp rs:=(XX.mp h).1
theorem YQ (rs:List Str):(zp rs).Nodup:=yV (Cells.xG _ 0 (codes rs))
theorem zeN (rs:List Str):(j5 rs).Nodup:=(YQ rs).sublist Ww
section
variable {rs:List Str}{gs:List (List (Nat×Nat))}(G:Parts.Good (clA rs) (zF rs) gs)
include G
theorem zbf {c:Nat×Nat}:c∈j5 rs↔c∈zp rs/\c ∉ gs.flatten:=by
 rw[zhc G]
 constructor
 ·intro h
  refine⟨zbe h,?_⟩
  rintro⟨_,o,ho,hn⟩
  rw[zjE h ho] at hn
  cases hn
 ·rintro⟨h1,h2⟩
  unfold j5
  refine XX.mpr ⟨h1,?_⟩
  rw[WC,US,RL]
  intro o ho hn
  exact h2 ⟨h1,o,ho,hn⟩
theorem zbO:(zp rs).Perm (gs.flatten++j5 rs):=by
 refine(VX (YQ rs) (Wp.mpr ⟨G.nd,zeN rs,fun a ha b hb e=>?_⟩)).mpr fun c=>?_
 ·subst e
  exact((zbf G).mp hb).2 ha
 ·rw[XI,zbf G]
  constructor
  ·intro h
   by_cases hc:c∈gs.flatten
   ·exact .inl hc
   ·exact .inr ⟨h,hc⟩
  ·rintro(h | h)
   ·exact yJ G c h
   ·exact h.1
theorem count_is (s:Nat):(if (jM rs).isEmpty=true then Tally.dl (Tally.tl gs.flatten (Tally.yc (qW rs) gs)) (j5 rs).length ((s:Nat):Int) else 0)=((Tally.T (zp rs) (jI rs) s:Nat):Int):=by
 rw[Tally.zc0 (zbO G) (zdk rs)]
 have key:∀a∈Subs.subs gs.flatten,∀b∈Subs.subs (j5 rs),jI rs (a++b)=((jM rs).isEmpty&&Tally.yc (qW rs) gs a):=fun a ha b hb=>by
  have sa:=(Tally.xx ha).subset
  have sb:=(Tally.xx hb).subset
  rw[zbd fun c hc=>(XI.mp hc).elim (fun h=>yJ G c (sa h)) fun h=>zbe (sb h),zdl fun c hc=>sb hc,Q3 G]
 cases hb:(jM rs).isEmpty with
 | true =>
  rw[if_pos rfl]
  refine Tally.zn5 (fun a ha b hb'=>?_) s
  rw[key a ha b hb',hb,SA]
 | false =>
  rw[if_neg (by decide),Tally.zcx fun S hS=>?_]
  ·rfl
  ·rw[Tally.za0] at hS
   obtain⟨b,hb',hS⟩:=SJ.mp hS
   obtain⟨a,ha,rfl⟩:=Xj.mp hS
   rw[key a ha b hb',hb,TZ]
theorem zmh (c:Nat×Nat):Tally.Inv fun S=>jI rs S&&decide (c∈S):=fun a b e=>by
 show (jI rs a&&decide (c∈a))=(jI rs b&&decide (c∈b))
 rw[zdk rs a b e,show decide (c∈a)=decide (c∈b) from decide_eq_decide.mpr e.mem_iff]
theorem zpj {c:Nat×Nat}(hc:c∈j5 rs)(s:Nat):(if (jM rs).isEmpty=true then Tally.dl (Tally.tl gs.flatten (Tally.yc (qW rs) gs)) ((j5 rs).length-1) (((s:Nat):Int)-1) else 0)=((Tally.T (zp rs) (fun S=>jI rs S&&decide (c∈S)) s:Nat):Int):=by
 rw[Tally.zc0 (zbO G) (zmh G c)]
 have key:∀a∈Subs.subs gs.flatten,∀b∈Subs.subs (j5 rs),(jI rs (a++b)&&decide (c∈a++b))=((jM rs).isEmpty&&(Tally.yc (qW rs) gs a&&decide (c∈b))):=fun a ha b hb=>by
  have sa:=(Tally.xx ha).subset
  have sb:=(Tally.xx hb).subset
  have e:decide (c∈a++b)=decide (c∈b):=decide_eq_decide.mpr ⟨fun h=>(XI.mp h).elim (fun h=>absurd (sa h) ((zbf G).mp hc).2) id,fun h=>Xs _ h⟩
  rw[zbd fun c hc=>(XI.mp hc).elim (fun h=>yJ G c (sa h)) fun h=>zbe (sb h),zdl fun c hc=>sb hc,Q3 G,e,S5]
 cases hb:(jM rs).isEmpty with
 | true =>
  rw[if_pos rfl]
  refine Tally.znr hc (zeN rs) (fun a ha b hb'=>?_) s
  rw[key a ha b hb',hb,SA]
  exact congrArg _ (decide_eq_decide.mpr Iff.rfl)
 | false =>
  rw[if_neg (by decide),Tally.zcx fun S hS=>?_]
  ·rfl
  ·rw[Tally.za0] at hS
   obtain⟨b,hb',hS⟩:=SJ.mp hS
   obtain⟨a,ha,rfl⟩:=Xj.mp hS
   rw[key a ha b hb',hb,TZ]
end
theorem zfx (A B:List (List (Nat×Nat)))(g:List (Nat×Nat)):(A++g::B).flatten.Perm ((A++B).flatten++g):=by
 rw[Wv,Wv,Wz,WZ]
 exact(T8 (l₁:=g) (l₂:=B.flatten)).append_left _
theorem zjF {rs:List Str}{A B:List (List (Nat×Nat))}{g:List (Nat×Nat)}(G:Parts.Good (clA rs) (zF rs) (A++g::B)){c:Nat×Nat}(hc:c∈g):Pour.ZF (Tally.tl (A++B).flatten (Tally.yc (qW rs) (A++B))) (Tally.tl g fun S=>qW rs g S&&decide (c∈S))=Tally.tl ((A++B).flatten++g) fun S=>Tally.yc (qW rs) (A++B) S&&(qW rs g S&&decide (c∈S)):=by
 have hp:=zfx A B g
 have nd:((A++B).flatten++g).Nodup:=hp.nodup_iff.mp G.nd
 have hU:∀x∈(A++B).flatten++g,x∈zp rs:=fun x hx=>yJ G x (hp.mem_iff.mpr hx)
 have hgm:g∈A++g::B:=by simp
 have hAB:∀x∈A++B,x∈A++g::B:=fun x hx=>by
  rcases XI.mp hx with h | h
  ·exact W1 _ h
  ·exact Xs _ (XT _ h)
 have L:=zbc G hgm
 have Lc:Tally.Loc (zp rs) (fun S=>qW rs g S&&decide (c∈S)) g:=by
  refine⟨fun a b h=>?_,fun a b h=>?_⟩
  ·show (qW rs g (a++b)&&decide (c∈a++b))=(qW rs g b&&decide (c∈b))
   rw[L.l a b h,show decide (c∈a++b)=decide (c∈b) from decide_eq_decide.mpr ⟨fun k=>(XI.mp k).elim (fun k=>absurd hc (h c k).2) id,fun k=>Xs _ k⟩]
  ·show (qW rs g (a++b)&&decide (c∈a++b))=(qW rs g a&&decide (c∈a))
   rw[L.r a b h,show decide (c∈a++b)=decide (c∈a) from decide_eq_decide.mpr ⟨fun k=>(XI.mp k).elim id fun k=>absurd hc (h c k).2,fun k=>W1 _ k⟩]
 exact Tally.zc3 nd hU (fun x hx=>zbc G (hAB x hx)) Lc
theorem znC {rs:List Str}{A B:List (List (Nat×Nat))}{g:List (Nat×Nat)}(G:Parts.Good (clA rs) (zF rs) (A++g::B)){c:Nat×Nat}(hc:c∈g)(s:Nat) :
  (if (jM rs).isEmpty=true then Tally.dl (Pour.ZF (Tally.tl (A++B).flatten (Tally.yc (qW rs) (A++B))) (Tally.tl g fun S=>qW rs g S&&decide (c∈S))) (j5 rs).length ((s:Nat):Int) else 0)=((Tally.T (zp rs) (fun S=>jI rs S&&decide (c∈S)) s:Nat):Int):=by
 have hp:=zfx A B g
 have hU:∀x∈(A++B).flatten++g,x∈zp rs:=fun x hx=>yJ G x (hp.mem_iff.mpr hx)
 have hgm:g∈A++g::B:=by simp
 rw[zjF G hc]
 have hP:(zp rs).Perm ((A++B).flatten++g++j5 rs):=(zbO G).trans (hp.append_right _)
 rw[Tally.zc0 hP (zmh G c)]
 have key:∀a∈Subs.subs ((A++B).flatten++g),∀b∈Subs.subs (j5 rs),(jI rs (a++b)&&decide (c∈a++b))=((jM rs).isEmpty&&(Tally.yc (qW rs) (A++B) a&&(qW rs g a&&decide (c∈a)))):=fun a ha b hb=>by
  have sa:=(Tally.xx ha).subset
  have sb:=(Tally.xx hb).subset
  have e:decide (c∈a++b)=decide (c∈a):=decide_eq_decide.mpr ⟨fun h=>(XI.mp h).elim id fun h=>absurd (WA.mpr ⟨g,hgm,hc⟩) ((zbf G).mp (sb h)).2,fun h=>W1 _ h⟩
  have ep:Tally.yc (qW rs) (A++g::B) a=(Tally.yc (qW rs) (A++B) a&&qW rs g a):=by
   rw[Tally.zc2,Tally.zc2]
   show (_&&(qW rs g a&&Tally.yc (qW rs) B a))=_
   rw[Ub (qW rs g a),S5]
  rw[zbd fun c hc=>(XI.mp hc).elim (fun h=>hU c (sa h)) fun h=>zbe (sb h),zdl fun c hc=>sb hc,<- Q3 G,ep,e,S5,S5]
 cases hb:(jM rs).isEmpty with
 | true =>
  rw[if_pos rfl]
  refine Tally.zn5 (fun a ha b hb'=>?_) s
  show (jI rs (a++b)&&decide (c∈a++b))=_
  rw[key a ha b hb',hb,SA]
 | false =>
  rw[if_neg (by decide),Tally.zcx fun S hS=>?_]
  ·rfl
  ·rw[Tally.za0] at hS
   obtain⟨b,hb',hS⟩:=SJ.mp hS
   obtain⟨a,ha,rfl⟩:=Xj.mp hS
   rw[key a ha b hb',hb,TZ]
def ziq (K:X8):Sp:=fun vs H Q _=>∃(a b:Addr) (xs ys:List Int),vs=[.ref a,.ref b]/\SqL K H a (iL xs)/\SqL K H b (iL ys)/\1<=xs.length/\xs.length<=70/\1<=ys.length/\ys.length<=70/\zkB xs/\zkB ys /\
 ∀(l:Addr) (H':Hp),H l=none->H' l=some (.lst (iL (Pour.ZF xs ys)))->zB H H'->Q (.ref l) H'
def xD (H:Hp):List V->List (List Int)->Prop:=W0 fun v xs=>∃a,v=V.ref a/\H a=some (.lst (iL xs))
theorem xP {H H':Hp}(s:zB H H'){us:List V}{xss:List (List Int)}(hp:xD H us xss):xD H' us xss:=by
 induction hp with
 | nil=>exact .nil
 | cons q _ ih =>
  obtain⟨a,e,h⟩:=q
  exact .cons ⟨a,e,s _ _ h⟩ ih
theorem Q4 {H:Hp}{us:List V}{xss:List (List Int)}(h:xD H us xss):us.length=xss.length:=Paired.length h
theorem zmi {H:Hp}{us:List V}{xss:List (List Int)}{i:Nat}{v:V}(h:xD H us xss)(e:us[i]?=some v):∃xs a,xss[i]?=some xs/\v=V.ref a/\H a=some (.lst (iL xs)):=by
 obtain⟨S,h1,a,h2⟩:=zf9 h e
 exact⟨S,a,h1,h2⟩
structure zir (xss:List (List Int)):Prop where
 one:∀xs∈xss,1<=xs.length/\xs.length<=70/\zkB xs
 acc:∀i,1<=((xss.take i).foldl Pour.ZF [1]).length/\((xss.take i).foldl Pour.ZF [1]).length<=70/\zkB ((xss.take i).foldl Pour.ZF [1])
def zis:Sp:=fun vs H Q _=>∃(la:Addr) (us:List V) (xss:List (List Int)),vs=[.ref la]/\H la=some (.lst us)/\xD H us xss/\zir xss /\
 ∀(d:Addr) (H':Hp),H d=none->H' d=some (.lst (iL (xss.foldl Pour.ZF [1])))->zB H H'->Q (.ref d) H'
def Small (rs:List Str):Prop:=∀gs,Parts.Good (clA rs) (zF rs) gs->∀g∈gs,g.length<=14
theorem zdm {rs:List Str}(h:(zp rs).length<=14):Small rs:=fun gs G g hg=>by
 have:=Parts.yp (yV (G.srt g hg)) fun x hx=>yJ G x (WA.mpr ⟨g,hg,hx⟩)
 lia
noncomputable def tls (rs:List Str)(gs:List (List (Nat×Nat))):List (List Int):=gs.map fun g=>Tally.tl g (qW rs g)
theorem zmj {rs:List Str}(R:Rows bd.cps.toList rs){gs:List (List (Nat×Nat))}(G:Parts.Good (clA rs) (zF rs) gs):zir (tls rs gs):=by
 have n64:=Qy G R
 refine⟨fun xs hx=>?_,fun i=>?_⟩
 ·obtain⟨g,hg,rfl⟩:=Xj.mp hx
  have gl:g.length<=64:=X0 (VB (VG hg)) n64
  rw[Tally.jZ]
  exact⟨by lia,by lia,YO gl⟩
 ·unfold tls
  rw[<- SE,zkA G i]
  have tl64:(gs.take i).flatten.length<=64:=by
   have e:gs.flatten=(gs.take i).flatten++(gs.drop i).flatten:=by rw[<- Wv,WR]
   rw[e,XZ] at n64
   lia
  rw[Tally.jZ]
  exact⟨by lia,by lia,YO tl64⟩
def zit:Sp:=fun vs H Q _=>∃(p l:Addr) (rs:List Str) (n:Int),vs=[.ref p]/\qj H p l rs n/\Rows bd.cps.toList rs/\Small rs /\
 ∀(d:Addr) (gs:List (List (Nat×Nat))) (H':Hp),H d=none->Parts.Good (clA rs) (zF rs) gs->Up2 (heads gs)->H' d=some (.lst (iL (Tally.tl gs.flatten (Tally.yc (qW rs) gs))))->zB H H'->Q (.ref d) H'
section
variable {P:Xy}{w:W6}{K:X8}{mg:Str->Option X9}{base:Heap}{f:Addr}{fd:XO}
theorem JS:zQ ["one","other","counts","i","many","j","more"] ["one","other"] (zg za1):=⟨rfl,rfl,rfl,by decide +kernel,rfl,by decide +kernel,by decide +kernel⟩
theorem zeO (T:Txt mg)(D:zk K mg "poured" za1 ["one","other"] f fd):zI P w K mg base CX0 1 f fd ["one","other"] (ziq K):=by
 refine D.F.ok JS (fun vs H Q E h=>?_) (fun cdv A outer s H vs Q E hr h=>?_)
 ·obtain⟨a,b,xs,ys,rfl,_⟩:=h
  rfl
 ·obtain⟨a,b,xs,ys,rfl,ha,hb,x1,x2,y1,y2,bx,bY,q⟩:=h
  refine⟨_,(zd (zD (i:=2) JS.nd rfl (XM rfl) (zG zk2 (qu (za zf zb)) (zG ZA (zG qT (zz zE (by rfl) T.qN Xh (za (pv 0) zb)) (zz zE (by rfl) T.qN Xh (za (pv 1) zb))) zf)))
   (zd (qA Xd rfl (ZQ (by rfl) T.ye (za (pv 0) zb)) (Jl rfl (zT (zm (i:=3) JS.nd rfl (XM rfl)) (zT (zm (i:=4) JS.nd rfl (XM rfl)) jh))) (zh (qA Xd rfl (ZQ (by rfl) T.ye (za (pv 1) zb)) (Jl rfl (zT (zm (i:=5) JS.nd rfl (XM rfl)) (zT (zm (i:=6) JS.nd rfl (XM rfl)) jh))) (zh (zi3 (pv 2) (zG qT (pv 3) (pv 5)) zga (zG Zn (pv 4) (pv 6)) zkX set_list)))))
   (zh (zO (pv 2))))),?_⟩
  refine⟨(by show 1<=XU;decide),fun l0 hl0=>?_⟩
  have s0:zB H (upd H l0 (.lst [.int 0])):=ze hl0
  refine⟨_,rfl,a,_,rfl,.inl (s0.seq ha),_,rfl,b,_,rfl,.inl (s0.seq hb),_,_,rfl,rfl,_,_,rfl,rfl,l0,_,_,rfl,rfl,zc,?_,?_,?_,fun p hp=>?_⟩
  ·rw[ZB,ZB];lia
  ·rw[ZB,ZB];lia
  ·rw[ZB,ZB]
   exact X0 (show 1*((xs.length:Int)+(ys.length:Int)-1).toNat<=140 by lia) (by decide)
  have en:(((iL xs).length:Nat)+((iL ys).length:Nat)-1:Int).toNat=xs.length+ys.length-1:=by
   rw[ZB,ZB];lia
  rw[en,zg9,<- Pour.zlP]
  have s1:zB H (upd (upd H l0 (.lst [.int 0])) p (.lst (iL (Pour.st xs ys 0 0)))):=s0.trans (ze hp)
  have hp0:H p=none:=s0.free hp
  refine⟨_,rfl,a,rfl,⟨_,s1.seq ha⟩,?_⟩
  refine ZR (K:=K) (l:=a) (xs:=iL xs) (fun i σ H'=>∃v3 v4 v5 v6,σ=[some (.ref a),some (.ref b),some (.ref p),v3,v4,v5,v6]/\zB H H'/\H' p=some (.lst (iL (Pour.st xs ys i 0))))
   ⟨_,_,_,_,rfl,s1,zc⟩ (fun i σ H' _ ⟨_,_,_,_,_,s,_⟩=>s.seq ha) ?_ ?_
  ·rintro i v t σ H1 hv ht ⟨v3,v4,v5,v6,rfl,s2,hp2⟩
   obtain⟨x,hx,rfl⟩:=ints_get hv
   have st:zB H1 (upd H1 t (.tup [.int (i:Nat),.int x])):=ze ht
   refine⟨t,_,rfl,SqT.of zc,rfl,_,_,rfl,_,_,rfl,rfl,?_⟩
   refine⟨_,rfl,b,rfl,⟨_,(s2.trans st).seq hb⟩,?_⟩
   refine ZR (K:=K) (l:=b) (xs:=iL ys) (fun j σ H'=>∃v5 v6,σ=[some (.ref a),some (.ref b),some (.ref p),some (.int (i:Nat)),some (.int x),v5,v6]/\zB H H'/\H' p=some (.lst (iL (Pour.st xs ys i j))))
    ⟨_,_,rfl,s2.trans st,st _ _ hp2⟩ (fun j σ H' _ ⟨_,_,_,s,_⟩=>s.seq hb) ?_ ?_
   ·rintro j v t2 σ H2 hv2 ht2 ⟨v5,v6,rfl,s3,hp3⟩
    obtain⟨y,hy,rfl⟩:=ints_get hv2
    have st2:zB H2 (upd H2 t2 (.tup [.int (j:Nat),.int y])):=ze ht2
    have hp4:=st2 _ _ hp3
    have hi:i<xs.length:=(X4.mp hx).1
    have hj:j<ys.length:=(X4.mp hy).1
    have en2:((i:Int)+(j:Int)).toNat=i+j:=by lia
    refine⟨t2,_,rfl,SqT.of zc,rfl,_,_,rfl,_,_,rfl,rfl,?_⟩
    refine⟨_,rfl,_,rfl,_,rfl,_,_,rfl,rfl,p,_,_,_,rfl,rfl,SqL.of hp4,jx (by lia) (by rw[en2];exact zfu (Pour.zh3 (by lia))),?_⟩
    refine⟨_,rfl,_,rfl,_,_,rfl,rfl,zpV (bx _ (X2 hx)) (bY _ (X2 hy)),_,_,rfl,rfl,p,_,_,_,rfl,rfl,hp4,zio (by lia) (by rw[ZB,Pour.zh2];lia),?_⟩
    refine⟨_,_,rfl,fun c o e=>?_,?_⟩
    ·have hc:c≠p:=fun z=>by
      subst z
      rw[hp0] at e
      cases e
     rw[zu hc]
     exact st2 _ _ (s3 _ _ e)
    ·rw[zc,en2,<- Pour.znl hx hy]
     show some (HO.lst ((UU V.int _).set _ (V.int _)))=_
     rw[<- Re]
   ·rintro σ H2 ⟨v5,v6,rfl,s3,hp3⟩
    rw[ZB,Pour.zo2] at hp3
    exact⟨_,_,_,_,rfl,s3,hp3⟩
  ·rintro σ H1 ⟨v3,v4,v5,v6,rfl,s2,hp2⟩
   rw[ZB,Pour.zo3] at hp2
   exact⟨_,rfl,q p H1 hp0 hp2 s2⟩
theorem x6:zQ ["lists","counts","others"] ["lists"] (zg JH):=⟨rfl,rfl,rfl,by decide +kernel,rfl,by decide +kernel,by decide +kernel⟩
theorem zah (T:Txt mg)(Z:Prog K mg)(D:zk K mg "all_poured" JH ["lists"] f fd):zI P w K mg base CX0 2 f fd ["lists"] zis:=by
 obtain⟨zdn,zbP,xC⟩:=Z.poured
 have zdo:zI P w K mg base CX0 1 zdn zbP ["one","other"] (ziq K):=zeO T xC
 refine D.F.ok x6 (fun vs H Q E h=>?_) (fun cdv A outer s H vs Q E hr h=>?_)
 ·obtain⟨la,us,xss,rfl,_⟩:=h
  rfl
 ·obtain⟨la,us,xss,rfl,hla,hx,ok,q⟩:=h
  refine⟨_,(zd (zD (i:=1) x6.nd rfl (XM rfl) (qu (za zf zb)))
   (zd (qA Xd rfl (zU (pv 0)) (zm (i:=2) x6.nd rfl (XM rfl)) (zh (zD (i:=1) x6.nd rfl (XM rfl) (zo zdo (hr.mono (by decide)) (by rfl) xC.g xC.F.kp xC.b .nil zL (za (pv 1) (za (pv 2) zb))))))
   (zh (zO (pv 1))))),?_⟩
  refine⟨(by show 1<=XU;decide),fun c0 hc0=>?_⟩
  have s0:zB H (upd H c0 (.lst [.int 1])):=ze hc0
  refine⟨_,rfl,la,rfl,⟨_,SqL.of (s0 _ _ hla)⟩,?_⟩
  refine jS (K:=K) (a:=la) (xs:=us) (fun i σ H'=>∃(c:Addr) (v2:Option V),σ=[some (.ref la),some (.ref c),v2]/\zB H H'/\H c=none/\H' c=some (.lst (iL ((xss.take i).foldl Pour.ZF [1]))))
   ⟨c0,_,rfl,s0,hc0,zc⟩ (fun i σ H' _ ⟨_,_,_,y,_⟩=>SqL.of (y _ _ hla)) ?_ ?_
  ·rintro i v σ H1 hv ⟨c,v2,rfl,s1,hc,hc1⟩
   obtain⟨xs,a1,hxs,rfl,ha1⟩:=zmi hx hv
   obtain⟨o1,o2,o3⟩:=ok.one xs (X2 hxs)
   obtain⟨p1,p2,p3⟩:=ok.acc i
   refine⟨_,rfl,_,rfl,c,a1,_,xs,rfl,SqL.of hc1,SqL.of (s1 _ _ ha1),p1,p2,o1,o2,p3,o3,fun d H2 hd hd2 s2=>?_⟩
   refine⟨d,_,rfl,s1.trans s2,s1.free hd,?_⟩
   rw[hd2,XJ,hxs,T4]
   rfl
  ·rintro σ H1 ⟨c,v2,rfl,s1,hc,hc1⟩
   rw[Q4 hx,XG] at hc1
   exact⟨_,rfl,q c H1 hc hc1 s1⟩
theorem zdp:zQ ["board"] ["board"] (zg yE):=⟨rfl,rfl,rfl,by decide +kernel,rfl,by decide +kernel,by decide +kernel⟩
theorem Qz (T:Txt mg)(Z:Prog K mg)(D:zk K mg "near_counts" yE ["board"] f fd):zI P w K mg base CX0 6 f fd ["board"] zit:=by
 obtain⟨zdq,zbQ,zH⟩:=Z.around
 obtain⟨zbR,zax,zv⟩:=Z.sign_at
 obtain⟨zay,QA,zC⟩:=Z.cells_of
 obtain⟨YR,ZI,zq⟩:=Z.open_cells
 obtain⟨QB,YS,zR⟩:=Z.number_at
 obtain⟨zfy,zdV,qK⟩:=Z.numbers_of
 obtain⟨ziu,zhd,jz⟩:=Z.needs_at
 obtain⟨zkC,ziv,jY⟩:=Z.may_fit
 obtain⟨QC,Qa,qm⟩:=Z.part_layings
 obtain⟨zeP,zdr,qz⟩:=Z.counted
 obtain⟨zdW,zds,x8⟩:=Z.part_counts
 obtain⟨Qc,Yd,zW⟩:=Z.closed_around
 obtain⟨zmk,zkD,Jh⟩:=Z.joined
 obtain⟨zfz,zdu,JL⟩:=Z.parts
 obtain⟨YT,ZJ,qx⟩:=Z.all_poured
 have zfA:zI P w K mg base CX0 3 zfz zdu ["board"] zfs:=zgZ T JL zH zv zC zq zW Jh
 have zdX:zI P w K mg base CX0 5 zdW zds ["board","part"] zqk:=zdj T x8 zH zv zC zq zR qK jz jY qm qz
 have JM:zI P w K mg base CX0 2 YT ZJ ["lists"] zis:=zah T Z qx
 refine D.F.ok zdp (fun vs H Q E h=>?_) (fun cdv A outer s H vs Q E hr h=>?_)
 ·obtain⟨p,l,rs,n,rfl,_⟩:=h
  rfl
 ·obtain⟨p,l,rs,n,rfl,b,R,sm,q⟩:=h
  refine⟨_,(zh (zO (zo JM (hr.mono (by decide)) (by rfl) qx.g qx.F.kp qx.b .nil zL (za (qd (N:=["part","board"]) (src:=[none,some 0]) (zY.free (O:=(zg yE).names) (XN:=["board"]) rfl rfl ⟨_,rfl⟩ rfl rfl (by decide +kernel) (by decide +kernel) (by decide +kernel) rfl (by decide +kernel)) rfl (zU (zo zfA (hr.mono (by decide)) (by rfl) JL.g JL.F.kp JL.b .nil zL (za (pv 0) zb))) (fun _ _ _ _ _=>(zm (i:=0) (by show Xg (["part","board"]:List Str);decide +kernel) rfl (XM rfl))) (fun _ _ _ _ _=>qL) (fun _ _ _ _ _=>(zo zdX (hr.mono (by decide)) (by rfl) x8.g x8.F.kp x8.b .nil zL (za (pv 1) (za (pv 0) zb))))) zb)))),?_⟩
  refine⟨_,rfl,p,l,rs,n,rfl,b,R,fun d ws gs H1 hd hd1 hG _ _ G up s1=>⟨d,rfl,⟨_,SqL.of hd1⟩,fun z hz=>?_⟩⟩
  have g64:gs.length<=64:=X0 (Parts.Qp G.ne) (Qy G R)
  refine qq (K:=K) (a:=d) (xs:=ws) (fun j σ' H'=>∃(u0:Option V) (ys:List V),σ'=[u0,some (.ref p)]/\zB H1 H'/\H' z=some (.lst ys)/\(∀v∈ys,∀a,v=V.ref a->a≠z)/\xD H' ys (tls rs (gs.take j)))
   ⟨_,[],rfl,ze hz,zc,(fun _ h=>nomatch h),.nil⟩ (fun j σ' H' _ ⟨_,_,_,y,_⟩=>SqL.of (y _ _ hd1)) ?_ ?_
  ·rintro j v σ' H2 hv ⟨u0,ys,rfl,s2,hz2,nz,hy2⟩
   obtain⟨g,hg,ga,ug,rfl,hga,hcg⟩:=yP.get (hG.mono s2) hv
   have gm:=X2 hg
   have il:=(X4.mp hg).1
   unfold Q9
   refine zat ?_
   refine⟨_,rfl,_,rfl,p,l,ga,rs,n,ug,g,rfl,(b.mono s1).mono s2,R,hga,hcg,yV (G.srt g gm),sm gs G g gm,fun e H3 he he3 s3=>?_⟩
   rw[zeM] at he3
   have ez:e≠z:=fun y=>by
    subst y
    rw[hz2] at he
    cases he
   refine⟨_,s3 _ _ hz2,?_,_,ys++[.ref e],rfl,fun b o e'=>?_,zc,fun v hv a ea=>?_,?_⟩
   ·rw[Q4 hy2]
    unfold tls
    rw[ZB,XQ]
    exact XH (show _<=64 by lia) (by decide)
   ·rw[zu (zj e' hz)]
    exact s3 _ _ (s2 _ _ e')
   ·rcases XI.mp hv with hv | hv
    ·exact nz v hv a ea
    ·have:v=V.ref e:=by simpa using hv
     rw[this] at ea
     cases ea
     exact ez
   ·have t1:tls rs (gs.take (j+1))=tls rs (gs.take j)++[Tally.tl g (qW rs g)]:=by
     unfold tls
     rw[XJ,hg,Xv]
     rfl
    rw[t1]
    have into:∀{us:List V} {xss:List (List Int)},xD H3 us xss->(∀v∈us,∀a,v=V.ref a->a≠z)->xD (upd H3 z (.lst (ys++[.ref e]))) us xss:=by
     intro us xss h
     induction h with
     | nil=>exact fun _=>.nil
     | cons h t ih =>
      intro nz
      obtain⟨a,rfl,ha⟩:=h
      exact .cons ⟨a,rfl,by rw[zu (nz _ XR a rfl)];exact ha⟩ (ih fun v hv=>nz v (XT _ hv))
    exact Paired.snoc (into (xP s3 hy2) nz) ⟨e,rfl,by rw[zu ez];exact he3⟩
  rintro σ' H2 ⟨u0,ys,rfl,s2,hz2,_,hy2⟩
  rw[hG.length,XG] at hy2
  refine⟨z,ys,tls rs gs,rfl,hz2,hy2,zmj R G,fun e H3 he he3 s3=>?_⟩
  have s12:=s1.trans s2
  rw[show (tls rs gs).foldl Pour.ZF [1]=Tally.tl gs.flatten (Tally.yc (qW rs) gs) from zhb G] at he3
  exact q e gs H3 (s12.free he) G up he3 (s12.trans s3)
end
def chV (n k:Int):Int:=if 0<=k/\k<=n then ((Choose.ch n.toNat k.toNat:Nat):Int) else 0
theorem znD (m:Nat)(k:Int):chV (m:Nat) k=Tally.chZ m k:=by
 unfold chV Tally.chZ
 rw[WV]
 by_cases h0:k<0
 ·rw[if_neg (by lia),if_pos h0]
 ·rw[if_neg h0]
  by_cases h1:k<=(m:Int)
  ·rw[if_pos ⟨by lia,h1⟩]
  ·rw[if_neg (by lia),Choose.zbE m k.toNat (by lia)]
   rfl
theorem znE {n k:Int}(h:n<=64):(chV n k).natAbs<2^8000:=by
 have h1:(2:Nat)^64<2^8000:=Pn (by decide) (by decide)
 have hz:(0:Nat)<2^8000:=XH (WW _) h1
 unfold chV
 split
 ·rw[RY]
  exact XH (X0 (Choose.zqb _ _) (Wu (by decide) (show n.toNat<=64 by lia))) h1
 ·exact hz
def dlV (xs:List Int)(m st:Int):Int:=Pour.S (fun k=>Pour.F xs k*chV m (st-(k:Nat))) xs.length
theorem zfB (xs:List Int)(m:Nat)(st:Int):dlV xs (m:Nat) st=Tally.dl xs m st:=by
 unfold dlV Tally.dl
 exact Pour.Zq _ fun i _=>by rw[znD]
theorem zoa (h:Nat->Int):∀n,((W9 n).map h).sum=Pour.S h n
 | 0=>rfl
 | n+1=>by
  rw[Tz,Xv,List.sum_append,zoa h n]
  show _+(h n+0)=Pour.S h n+h n
  lia
def zql:Sp:=fun vs H Q _=>∃(n k:Int),vs=[.int n,.int k]/\n<=64/\Q (.int (chV n k)) H
def zfC:Sp:=fun vs H Q _=>∃(c:Addr) (xs:List Int) (m st:Int),vs=[.ref c,.int m,.int st]/\H c=some (.lst (iL xs))/\zkB xs/\xs.length<=150/\m<=64/\∀H',zB H H'->Q (.int (dlV xs m st)) H'
def zbg (rs:List Str)(n:Int):Int:=((Tally.T (zp rs) (jI rs) n.toNat:Nat):Int)
def zfD:Sp:=fun vs H Q _=>∃(p l:Addr) (rs:List Str) (n:Int),vs=[.ref p]/\qj H p l rs n/\Rows bd.cps.toList rs/\Small rs/\0<=n/\∀H',zB H H'->Q (.int (zbg rs n)) H'
section
variable {P:Xy}{w:W6}{K:X8}{mg:Str->Option X9}{base:Heap}{f:Addr}{fd:XO}
theorem YU:zQ ["n","k","found","step"] ["n","k"] (zg QY):=⟨rfl,rfl,rfl,by decide +kernel,rfl,by decide +kernel,by decide +kernel⟩
theorem ziw (T:Txt mg)(D:zk K mg "choices" QY ["n","k"] f fd):zI P w K mg base CX0 1 f fd ["n","k"] zql:=by
 refine D.F.ok YU (fun vs H Q E h=>?_) (fun cdv A outer s H vs Q E hr h=>?_)
 ·obtain⟨n,k,rfl,_⟩:=h
  rfl
 ·obtain⟨n,k,rfl,n1,q⟩:=h
  refine⟨_,(zd (jA (zak (zf2 zi6 zi6 zf (pv 1) (pv 0))) (zh (zO zf)) qp)
   (zd (zD (i:=2) YU.nd rfl (XM rfl) zf)
   (zd (qA Xd rfl (qR (by rfl) T.ji (za (pv 1) zb)) (zm (i:=3) YU.nd rfl (XM rfl)) (zh (zD (i:=2) YU.nd rfl (XM rfl) (zG jT (zG Zn (pv 2) (zG ZA (pv 0) (pv 3))) (zG qT (pv 3) zf)))))
   (zh (zO (pv 2)))))),?_⟩
  refine⟨_,rfl,_,_,rfl,rfl,_,rfl,?_⟩
  unfold chV at q
  refine zcf (fun c=>?_) (fun c=>?_)
  ·have k0:(0:Int)<=k:=of_decide_eq_true c
   refine⟨_,rfl,_,_,rfl,rfl,_,rfl,?_⟩
   by_cases c:k<=n
   ·rw[if_pos ⟨k0,c⟩] at q
    rw[decide_eq_true c]
    refine Qd ?_
    refine⟨_,rfl,k,rfl,by lia,by lia,?_⟩
    refine ja (lo:=0) (n:=k.toNat) (fun i σ H'=>∃v,σ=[some (.int n),some (.int k),some (.int (Choose.ch n.toNat i)),v]/\H'=H) ⟨_,by rw[Choose.QX];rfl,rfl⟩ ?_ ?_
    ·rintro i σ H' hi ⟨v,rfl,rfl⟩
     refine⟨_,rfl,_,rfl,_,rfl,_,_,rfl,rfl,_,_,rfl,rfl,zoJ (by lia) (by lia),_,rfl,_,_,rfl,rfl,_,_,rfl,rfl,JU.small (by lia) (by lia),?_⟩
     refine⟨some (.int (0+(i:Int))),?_,rfl⟩
     have e:=Choose.znm (n:=n.toNat) (k:=i) (by lia)
     have e1:((n.toNat:Nat):Int)=n:=Vw (by lia)
     rw[e1] at e
     have e2:(Choose.ch n.toNat i:Int)*(n-(0+(i:Int)))/(0+(i:Int)+1)=Choose.ch n.toNat (i+1):=by
      rw[Wi]
      exact e
     show [_,_,some (V.int ((Choose.ch n.toNat i:Int)*(n-(0+(i:Int)))/(0+(i:Int)+1))),_]=_
     rw[e2]
    ·rintro σ H' ⟨v,rfl,rfl⟩
     exact⟨_,rfl,q⟩
   ·rw[if_neg (fun h=>c h.2)] at q
    rw[decide_eq_false c]
    exact Qi q
  ·have k0:¬ (0:Int)<=k:=fun z=>c (decide_eq_true z)
   rw[if_neg (fun h=>k0 h.1)] at q
   exact⟨_,rfl,Qi q⟩
theorem zml:zQ ["counts","cells","stones"] ["counts","cells","stones"] (zg za2):=⟨rfl,rfl,rfl,by decide +kernel,rfl,by decide +kernel,by decide +kernel⟩
theorem zhe (T:Txt mg)(Z:Prog K mg)(D:zk K mg "dealt" za2 ["counts","cells","stones"] f fd):zI P w K mg base CX0 2 f fd ["counts","cells","stones"] zfC:=by
 obtain⟨zkE,zix,Q5⟩:=Z.choices
 have zkF:zI P w K mg base CX0 1 zkE zix ["n","k"] zql:=ziw T Q5
 refine D.F.ok zml (fun vs H Q E h=>?_) (fun cdv A outer s H vs Q E hr h=>?_)
 ·obtain⟨c,xs,m,st,rfl,_⟩:=h
  rfl
 ·obtain⟨c,xs,m,st,rfl,hc,bx,xl,m1,q⟩:=h
  refine⟨_,(zh (zO (zz (zgc rfl) (by rfl) T.zn6 PL (za (qd (N:=["k","many","cells","stones"]) (src:=[none,none,some 1,some 2]) (zY.free (O:=(zg za2).names) (XN:=["counts","cells","stones"]) rfl rfl ⟨_,rfl⟩ rfl rfl (by decide +kernel) (by decide +kernel) (by decide +kernel) rfl (by decide +kernel)) rfl (ZQ (by rfl) T.ye (za (pv 0) zb)) (fun _ _ _ _ _=>(Yt (n:=2) (K:=K) (by rfl) rfl (zT (zm (i:=0) (by show Xg (["k","many","cells","stones"]:List Str);decide +kernel) rfl (XM rfl)) (zT (zm (i:=1) (by show Xg (["k","many","cells","stones"]:List Str);decide +kernel) rfl (XM rfl)) jh)))) (fun _ _ _ _ _=>qL) (fun _ _ _ _ _=>(zG Zn (pv 1) (zo zkF (hr.mono (by decide)) (by rfl) Q5.g Q5.F.kp Q5.b .nil zL (za (pv 2) (za (zG ZA (pv 3) (pv 0)) zb)))))) zb)))),?_⟩
  refine⟨_,rfl,c,rfl,⟨_,SqL.of hc⟩,fun z hz=>?_⟩
  refine zhN (K:=K) (a:=c) (xs:=iL xs) (fun i σ H'=>(∃u0 u1,σ=[u0,u1,some (.int m),some (.int st)])/\zB H H'/\H' z=some (.lst (iL ((W9 i).map fun k=>Pour.F xs k*chV m (st-(k:Nat)))))) ⟨⟨_,_,rfl⟩,ze hz,zc⟩ (fun i σ H' _ ⟨_,s3,_⟩=>SqL.of (s3 _ _ hc)) ?_ ?_
  ·rintro i x tt σ H3 hx htt ⟨⟨u0,u1,rfl⟩,s3,hz3⟩
   obtain⟨y,hy,rfl⟩:=ints_get hx
   have il:=(X4.mp hy).1
   have s4:=ze (o:=.tup [.int ((i:Nat):Int),.int y]) htt
   refine⟨tt,_,rfl,SqT.of zc,rfl,_,_,rfl,_,_,rfl,rfl,?_⟩
   unfold zk6
   refine Qi ⟨_,rfl,_,rfl,_,rfl,_,rfl,_,_,rfl,rfl,m,_,rfl,m1,_,_,rfl,rfl,zpV (bx y (X2 hy)) (znE m1),_,s4 _ _ hz3,?_,⟨_,_,rfl⟩,fun b' o e'=>?_,?_⟩
   ·rw[ZB,ZB,WL]
    exact Xn (show i<150 by lia) (by decide)
   ·rw[zu (zj e' hz)]
    exact s4 _ _ (s3 _ _ e')
   ·rw[zc,Tz,Xv]
    show _=some (HO.lst (iL (_++[Pour.F xs i*chV m (st-(i:Nat))])))
    rw[zjA,Pour.znj hy]
  ·rintro σ H3 ⟨_,s3,hz3⟩
   refine⟨z,_,rfl,SqL.of hz3,?_⟩
   rw[ZB,zoa]
   exact q _ s3
theorem zhf:zQ ["board","near"] ["board"] (zg zcz):=⟨rfl,rfl,rfl,by decide +kernel,rfl,by decide +kernel,by decide +kernel⟩
theorem zhg (T:Txt mg)(Z:Prog K mg)(D:zk K mg "count" zcz ["board"] f fd):zI P w K mg base CX0 7 f fd ["board"] zfD:=by
 obtain⟨zdq,zbQ,zH⟩:=Z.around
 obtain⟨zbR,zax,zv⟩:=Z.sign_at
 obtain⟨zay,QA,zC⟩:=Z.cells_of
 obtain⟨zdv,zbS,qD⟩:=Z.closed
 obtain⟨YR,ZI,zq⟩:=Z.open_cells
 obtain⟨QB,YS,zR⟩:=Z.number_at
 obtain⟨Qc,Yd,zW⟩:=Z.closed_around
 obtain⟨zmm,ziy,zbh⟩:=Z.far
 obtain⟨YV,ZK,qZ⟩:=Z.bare_wrong
 obtain⟨ZL,Zc,qo⟩:=Z.near_counts
 obtain⟨zfE,zdw,yK⟩:=Z.dealt
 have x9:zI P w K mg base CX0 6 ZL Zc ["board"] zit:=Qz T Z qo
 have zmn:zI P w K mg base CX0 3 zmm ziy ["board"] (zeB j5):=zlZ T zbh zH zv zC qD zq
 have YW:zI P w K mg base CX0 3 YV ZK ["board"] (zeB jM):=zaf T qZ zH zv zC zW zq zR
 have zcB:zI P w K mg base CX0 2 zfE zdw ["counts","cells","stones"] zfC:=zhe T Z yK
 refine D.F.ok zhf (fun vs H Q E h=>?_) (fun cdv A outer s H vs Q E hr h=>?_)
 ·obtain⟨p,l,rs,n,rfl,_⟩:=h
  rfl
 ·obtain⟨p,l,rs,n,rfl,b,R,sm,n0,q⟩:=h
  refine⟨_,(zd (zD (i:=1) zhf.nd rfl (XM rfl) (zo x9 (hr.mono (by decide)) (by rfl) qo.g qo.F.kp qo.b .nil zL (za (pv 0) zb)))
   (zd (jA (zP (yL hr.units) (zo YW (hr.mono (by decide)) (by rfl) qZ.g qZ.F.kp qZ.b .nil zL (za (pv 0) zb)) (qu zb) (z9 _)) (zh (zO zf)) qp)
   (zh (zO (zo zcB (hr.mono (by decide)) (by rfl) yK.g yK.F.kp yK.b .nil zL (za (pv 1) (za (zz zE (by rfl) T.qN Xh (za (zo zmn (hr.mono (by decide)) (by rfl) zbh.g zbh.F.kp zbh.b .nil zL (za (pv 0) zb)) zb)) (za (zZ qU (pv 0) zf (fun _ _=>rfl)) zb)))))))),?_⟩
  refine⟨_,rfl,p,l,rs,n,rfl,b,R,sm,fun d1 gs H1 hd1 G up zmo s1=>?_⟩
  refine⟨_,rfl,p,l,rs,n,rfl,b.mono s1,R,fun d2 w2 H2 hd2 zq3 hc2 s2=>⟨(by show 0<=XU;decide),fun e he=>?_⟩⟩
  have s3:=ze (o:=.lst []) he
  have ci:=count_is G n.toNat
  rw[Vw n0] at ci
  unfold zbg at q
  rw[<- ci] at q
  refine⟨.list ((jM rs).map zx),.list [],.lst (SqL.of (s3 _ _ zq3)) (zJ.rdv (N:=fun _=>True) (Cel.rdn (Cel.mono s3 hc2))),.lst (SqL.of zc) .nil,zfq _ [],_,rfl,?_⟩
  have ee:(if true=true then !PyData.eqv (.list ((jM rs).map zx)) (.list []) else W2 (.list ((jM rs).map zx)) (.list []))=!(jM rs).isEmpty:=by
   show (!PyData.eqv _ _)=_
   rw[eq_nil]
  rw[ee]
  have s13:=(s1.trans s2).trans s3
  have hd13:=s3 _ _ (s2 _ _ zmo)
  generalize upd H2 e (.lst [])=H3 at *
  cases hb:(jM rs).isEmpty with
  | false =>
   rw[hb,if_neg XV] at q
   exact Qi (q _ s13)
  | true =>
   rw[hb,if_pos rfl] at q
   refine Qd ?_
   have b3:=b.mono s13
   refine⟨_,rfl,_,rfl,p,l,rs,n,rfl,b3,R,fun d4 ws4 H4 _ hd4 hc4 s4=>⟨d4,_,rfl,.inl (SqL.of hd4),?_⟩⟩
   have hl:=hc4.length
   have h64:(j5 rs).length<=64:=X0 (Xz _ _) (qJ (p:=jV) R)
   have g64:=Qy G R
   refine⟨_,rfl,p,_,1,_,rfl,rfl,SqT.of (b3.mono s4).tp,rfl,d1,_,(ws4.length:Nat),n,rfl,s4 _ _ hd13,YO g64,by rw[Tally.jZ];lia,by lia,fun H' s'=>?_⟩
   rw[hl,zfB]
   exact q _ ((s13.trans s4).trans s')
end
section
variable {P:Xy}{w:W6}{K:X8}{mg:Str->Option X9}{base:Heap}{f:Addr}{fd:XO}
theorem zdY:zQ ["found","greatest","cell"] ["found","greatest","cell"] (zg xy):=⟨rfl,rfl,rfl,by decide +kernel,rfl,by decide +kernel,by decide +kernel⟩
theorem zdZ {f1:Addr}{fd1:XO}(T:Txt mg)(D:zk K mg "counted_at" xy ["found","greatest","cell"] f fd)(qz:zk K mg "counted" JR ["found","greatest"] f1 fd1):zI P w K mg base CX0 2 f fd ["found","greatest","cell"] zjC:=by
 have Yc:zI P w K mg base CX0 1 f1 fd1 ["found","greatest"] zjB:=zav T qz
 refine D.F.ok zdY (fun vs H Q E h=>?_) (fun cdv A outer s H vs Q E hr h=>?_)
 ·obtain⟨fa,ca,us,ks,N,g,c,rfl,_⟩:=h
  rfl
 ·obtain⟨fa,ca,us,ks,N,g,c,rfl,hfa,hL,hk,g64,kl,hca,q⟩:=h
  refine⟨_,(zh (zO (zo Yc (hr.mono (by decide)) (by rfl) qz.g qz.F.kp qz.b .nil zL (za (qd (N:=["laying","cell"]) (src:=[none,some 2]) (zY.free (O:=(zg xy).names) (XN:=["found","greatest","cell"]) rfl rfl ⟨_,rfl⟩ rfl rfl (by decide +kernel) (by decide +kernel) (by decide +kernel) rfl (by decide +kernel)) rfl (zU (pv 0)) (fun _ _ _ _ _=>(zm (i:=0) (by show Xg (["laying","cell"]:List Str);decide +kernel) rfl (XM rfl))) (fun _ _ _ _ _=>(qh (zP (jL (K:=K) (by rfl) hr.units) (pv 1) (pv 0) (by rfl)))) (fun _ _ _ _ _=>(pv 0))) (za (pv 1) zb))))),?_⟩
  refine⟨_,rfl,fa,rfl,⟨_,SqL.of hfa⟩,fun z hz=>?_⟩
  refine qq (K:=K) (a:=fa) (xs:=us) (fun j σ' H'=>∃(u0:Option V) (ys:List V),σ'=[u0,some (.ref ca)]/\zB H H'/\H' z=some (.lst ys)/\jg (fun a=>a≠z) H' ys ((ks.take j).filter (zcg c)))
   ⟨_,[],rfl,ze hz,zc,.nil⟩ (fun j σ' H' _ ⟨_,_,_,y,_⟩=>SqL.of (y _ _ hfa)) ?_ ?_
  ·rintro j v σ' H1 hv ⟨u0,ys,rfl,s1,hz1,hy1⟩
   obtain⟨k,a1,wa,hk1,rfl,_,ha1,t1⟩:=Za hL hv
   have jl:j<ks.length:=(X4.mp hk1).1
   have e1:(ks.take (j+1)).filter (zcg c)=(ks.take j).filter (zcg c)++if zcg c k=true then [k] else []:=by
    rw[XJ,hk1,XA]
    congr 1
    show OH _ [k]=_
    rw[Xl]
    split<;>rfl
   refine⟨_,rfl,_,rfl,zx c,k.map pD,.tup (SqT.of (s1 _ _ hca)) (.cons (.int _) (.cons (.int _) .nil)),.lst (SqL.of (s1 _ _ ha1)) (zg0 (qf s1 t1)),rfl,zih _,(by show 1<=60;decide),_,rfl,?_⟩
   have ei:(if false=true then !(k.map pD).any (fun z=>W2 z (zx c)) else (k.map pD).any fun z=>W2 z (zx c))=zcg c k:=zmb k c
   rw[ei]
   by_cases hh:zcg c k=true
   ·rw[if_pos hh] at e1
    refine JE hh ?_
    have yl:ys.length<=16384:=by
     rw[qg hy1]
     refine X0 (Xz _ _) ?_
     rw[XQ]
     lia
    refine⟨_,rfl,ys,hz1,XH yl (by decide),_,ys++[.ref a1],rfl,fun b o e=>?_,zc,?_⟩
    ·rw[zu (zj e hz)]
     exact s1 _ _ e
    ·rw[e1]
     have nz:a1≠z:=zj ha1 hz
     exact yW (yf hz1 (fun _ h=>h) hy1) (.cons ⟨a1,wa,rfl,nz,by rw[zu nz];exact s1 _ _ ha1,jk hz1 (qf s1 t1)⟩ .nil)
   ·rw[if_neg hh,W4] at e1
    refine xu (Xc.mpr hh) ?_
    exact⟨_,ys,rfl,s1,hz1,by rw[e1];exact hy1⟩
  rintro σ' H1 ⟨u0,ys,rfl,s1,hz1,hy1⟩
  rw[qg hL,XG] at hy1
  refine⟨_,rfl,z,ys,_,_,g,rfl,hz1,hy1,fun k hk2=>hk k (XX.mp hk2).1,g64,fun d H2 hd hd2 s2=>?_⟩
  exact q d H2 (s1.free hd) hd2 (s1.trans s2)
end
noncomputable def Jk (c:Nat×Nat):List Key:=[.inl ((c.1:Nat):Int),.inl ((c.2:Nat):Int)]
theorem zmp {c d:Nat×Nat}(h:Jk c=Jk d):c=d:=by
 unfold Jk at h
 obtain⟨a,b⟩:=c
 obtain⟨x,y⟩:=d
 simp only[List.cons.injEq,Sum.inl.injEq,and_true] at h
 obtain⟨h1,h2⟩:=h
 have e1:a=x:=by lia
 have e2:b=y:=by lia
 rw[e1,e2]
def Ju (rs:List Str)(n:Int)(c:Nat×Nat):Int:=((Tally.T (zp rs) (fun S=>jI rs S&&decide (c∈S)) n.toNat:Nat):Int)
theorem ziz {rs:List Str}{n:Int}{c:Nat×Nat}(h:(jM rs).isEmpty=false):Ju rs n c=0:=by
 unfold Ju
 rw[Tally.zcx fun S hS=>?_]
 ·rfl
 ·rw[zbd fun c hc=>(Tally.xx hS).subset hc,h]
  rfl
theorem znF (c:Nat×Nat)(q:List (Nat×Nat)):zcg c (toL q)=decide (c∈q):=by
 unfold zcg toL
 rw[US,WU,WS,decide_eq_true_eq]
 constructor
 ·rintro⟨x,hx,h⟩
  have h':toI x=toI c:=of_decide_eq_true h
  have:x=c:=by
   unfold toI at h'
   obtain⟨a,b⟩:=x
   obtain⟨d,e⟩:=c
   simp only[O0] at h'
   have e1:a=d:=by lia
   have e2:b=e:=by lia
   rw[e1,e2]
  rw[<- this]
  exact hx
 ·intro h
  exact⟨c,h,decide_eq_true rfl⟩
theorem zfF (rs:List Str)(g:List (Nat×Nat))(c:Nat×Nat):Cnt.xg g.length ((YN rs g).filter (zcg c))=Tally.tl g fun S=>qW rs g S&&decide (c∈S):=by
 unfold YN
 rw[Vb,Tally.zgJ g.length toL (fun k=>ZB _),Wj]
 have e:(fun a=>(zcg c∘toL) a&&Grow.fits (nearF rs) (qQ rs) (JJ rs g) g a)=fun S=>qW rs g S&&decide (c∈S):=by
  funext S
  show (zcg c (toL S)&&qW rs g S)=_
  rw[znF,Ub]
 rw[e]
 exact Tally.zjv g _
theorem QD {A B:List (List (Nat×Nat))}(h:A.Sublist B):A.flatten.Sublist B.flatten:=by
 induction h with
 | slnil=>exact List.Sublist.refl _
 | cons a _ ih=>rw[Wz];exact List.Sublist.trans ih (RP _ _)
 | cons_cons a _ ih=>rw[Wz,Wz];exact List.Sublist.append (List.Sublist.refl _) ih
theorem zjG {rs:List Str}{gs A:List (List (Nat×Nat))}(G:Parts.Good (clA rs) (zF rs) gs)(h:A.Sublist gs):(tls rs A).foldl Pour.ZF [1]=Tally.tl A.flatten (Tally.yc (qW rs) A) :=
 Tally.zh6 (G.nd.sublist (QD h)) (fun c hc=>yJ G c ((QD h).subset hc)) fun g hg=>zbc G (h.subset hg)
theorem zpk {rs:List Str}(R:Rows bd.cps.toList rs){gs A:List (List (Nat×Nat))}(G:Parts.Good (clA rs) (zF rs) gs)(h:A.Sublist gs):zir (tls rs A):=by
 have n64:=Qy G R
 refine⟨fun xs hx=>?_,fun i=>?_⟩
 ·obtain⟨g,hg,rfl⟩:=Xj.mp hx
  have gl:g.length<=64:=X0 (VB (VG (h.subset hg))) n64
  rw[Tally.jZ]
  exact⟨by lia,by lia,YO gl⟩
 ·have h2:=(UR i A).trans h
  have e:(tls rs A).take i=tls rs (A.take i):=by
   unfold tls
   rw[SE]
  have tl64:(A.take i).flatten.length<=64:=X0 (QD h2).length_le n64
  rw[e,zjG G h2,Tally.jZ]
  exact⟨by lia,by lia,YO tl64⟩
def zmq (rs:List Str)(z:Addr)(H:Hp)(v:V)(g:List (Nat×Nat)):Prop:=∃a ws ks,v=V.ref a/\a≠z/\H a=some (.lst ws)/\jg (fun b=>b≠z) H ws ks/\ks.Perm (YN rs g)
def zbT (rs:List Str)(z:Addr)(H:Hp):List V->List (List (Nat×Nat))->Prop:=W0 (zmq rs z H)
theorem Zx {rs:List Str}{z:Addr}{H H':Hp}(s:zB H H'){us:List V}{gs:List (List (Nat×Nat))}(hp:zbT rs z H us gs):zbT rs z H' us gs:=by
 induction hp with
 | nil=>exact .nil
 | cons q _ ih =>
  obtain⟨a,ws,ks,e,n,h,l,p⟩:=q
  exact .cons ⟨a,ws,ks,e,n,s _ _ h,ql s l,p⟩ ih
theorem zhh {rs:List Str}{z:Addr}{H:Hp}{xs ys:List V}(hz:H z=some (.lst xs)){us:List V}{gs:List (List (Nat×Nat))}(hp:zbT rs z H us gs):zbT rs z (upd H z (.lst ys)) us gs:=by
 induction hp with
 | nil=>exact .nil
 | cons q _ ih =>
  obtain⟨a,ws,ks,e,n,h,l,p⟩:=q
  exact .cons ⟨a,ws,ks,e,n,by rw[zu n];exact h,yf hz (fun _ h=>h) l,p⟩ ih
theorem zeQ {rs:List Str}{z:Addr}{H:Hp}{us:List V}{gs:List (List (Nat×Nat))}{i:Nat}{v:V}(h:zbT rs z H us gs)(e:us[i]?=some v):∃g,gs[i]?=some g/\zmq rs z H v g:=zf9 h e
theorem ziA {H:Hp}{z:Addr}{o:HO}{us:List V}{ks:List (List Int)}(hp:xD H us ks)(n:∀v∈us,v≠V.ref z):xD (upd H z o) us ks:=by
 induction hp with
 | nil=>exact .nil
 | cons q _ ih =>
  obtain⟨a,e,h⟩:=q
  exact .cons ⟨a,e,by rw[zu fun y=>n _ XR (by rw[e,y])];exact h⟩ (ih fun v hv=>n v (XT _ hv))
theorem zdx {H:Hp}:∀{us:List V} {xss:List (List Int)} (i:Nat),xD H us xss->xD H (us.take i) (xss.take i)
 | _,_,0,_=>.nil
 | _,_,_+1,.nil=>.nil
 | _,_,i+1,.cons h t=>.cons h (zdx i t)
theorem zdy {H:Hp}:∀{us:List V} {xss:List (List Int)} (i:Nat),xD H us xss->xD H (us.drop i) (xss.drop i)
 | _,_,0,h=>h
 | _,_,_+1,.nil=>.nil
 | _,_,i+1,.cons _ t=>zdy i t
theorem zkG {H:Hp}{us:List V}{xss:List (List Int)}{us':List V}{xss':List (List Int)}(h:xD H us xss)(k:xD H us' xss'):xD H (us++us') (xss++xss'):=zcM h k
theorem zjH (kvs:List (List Key×V))(k:List Key)(v:V):(putK kvs k v).length<=kvs.length+1:=by
 unfold putK
 split
 ·rw[ZB]
  exact V3 _
 ·rw[XZ]
  exact XW _
theorem zmr (l:List (List Key×V)):(zac l).length<=l.length:=by
 have:∀(l acc:List (List Key×V)),(l.foldl (fun acc kv=>putK acc kv.1 kv.2) acc).length<=acc.length+l.length:=fun l=>by
  induction l with
  | nil=>exact fun acc=>XW _
  | cons x r ih =>
   intro acc
   rw[Wy,Xw]
   have h1:=ih (putK acc x.1 x.2)
   have h2:=zjH acc x.1 x.2
   lia
 have:=this l []
 rw[Uf,V9] at this
 exact this
theorem zpl (xs:List V){i:Nat}(h:i<=xs.length):zdJ xs none (some ((i:Nat):Int))=xs.take i:=by
 unfold zdJ
 rw[HT.QT,PX h]
 show (xs.drop 0).take (i-0)=_
 rw[PC,Nat.sub_zero]
def zhi:Sp:=fun vs H Q _=>∃(p l:Addr) (rs:List Str) (n:Int),vs=[.ref p]/\qj H p l rs n/\Rows bd.cps.toList rs/\Small rs/\0<=n /\
 ∀(d:Addr) (kvs:List (List Key×V)) (H':Hp),H d=none->H' d=some (.dT kvs)->(∀c∈zp rs,Ja kvs (Jk c)=some (V.int (Ju rs n c)))->zB H H'->Q (.ref d) H'
def zeR:Sp:=fun vs H Q _=>∃(p l ca:Addr) (rs:List Str) (n:Int) (c:Nat×Nat),vs=[.ref p,.ref ca]/\qj H p l rs n/\Rows bd.cps.toList rs/\Small rs/\0<=n/\H ca=some (.tup [.int (c.1:Nat),.int (c.2:Nat)])/\c∈zp rs/\∀H',zB H H'->Q (.int (Ju rs n c)) H'
section
variable {P:Xy}{w:W6}{K:X8}{mg:Str->Option X9}{base:Heap}{f:Addr}{fd:XO}
theorem z4:zQ ["board","pieces","found","counts","rest","at_far","told","place","part","others","cell","near"] ["board"] (zg jc):=⟨rfl,rfl,rfl,by decide +kernel,rfl,by decide +kernel,by decide +kernel⟩
theorem zbi (T:Txt mg)(Z:Prog K mg)(D:zk K mg "counts_by_cell" jc ["board"] f fd):zI P w K mg base CX0 7 f fd ["board"] zhi:=by
 obtain⟨zdq,zbQ,zH⟩:=Z.around
 obtain⟨zbR,zax,zv⟩:=Z.sign_at
 obtain⟨zay,QA,zC⟩:=Z.cells_of
 obtain⟨zdv,zbS,qD⟩:=Z.closed
 obtain⟨YR,ZI,zq⟩:=Z.open_cells
 obtain⟨QB,YS,zR⟩:=Z.number_at
 obtain⟨zfy,zdV,qK⟩:=Z.numbers_of
 obtain⟨ziu,zhd,jz⟩:=Z.needs_at
 obtain⟨zkC,ziv,jY⟩:=Z.may_fit
 obtain⟨QC,Qa,qm⟩:=Z.part_layings
 obtain⟨zeP,zdr,qz⟩:=Z.counted
 obtain⟨zfG,zd0,JN⟩:=Z.counted_at
 obtain⟨Qc,Yd,zW⟩:=Z.closed_around
 obtain⟨zmk,zkD,Jh⟩:=Z.joined
 obtain⟨zfz,zdu,JL⟩:=Z.parts
 obtain⟨zmm,ziy,zbh⟩:=Z.far
 obtain⟨YV,ZK,qZ⟩:=Z.bare_wrong
 obtain⟨zdn,zbP,xC⟩:=Z.poured
 obtain⟨YT,ZJ,qx⟩:=Z.all_poured
 obtain⟨zfE,zdw,yK⟩:=Z.dealt
 have zfA:zI P w K mg base CX0 3 zfz zdu ["board"] zfs:=zgZ T JL zH zv zC zq zW Jh
 have Zb:zI P w K mg base CX0 4 QC Qa ["board","part"] zph:=Y9 T qm zH zv zC zq zR qK jz jY
 have Yc:zI P w K mg base CX0 1 zeP zdr ["found","greatest"] zjB:=zav T qz
 have zfH:zI P w K mg base CX0 2 zfG zd0 ["found","greatest","cell"] zjC:=zdZ T JN qz
 have Qv:zI P w K mg base CX0 2 zdv zbS ["board"] (xN jV):=zbI T qD zC zv
 have zmn:zI P w K mg base CX0 3 zmm ziy ["board"] (zeB j5):=zlZ T zbh zH zv zC qD zq
 have YW:zI P w K mg base CX0 3 YV ZK ["board"] (zeB jM):=zaf T qZ zH zv zC zW zq zR
 have zdo:zI P w K mg base CX0 1 zdn zbP ["one","other"] (ziq K):=zeO T xC
 have JM:zI P w K mg base CX0 2 YT ZJ ["lists"] zis:=zah T Z qx
 have zcB:zI P w K mg base CX0 2 zfE zdw ["counts","cells","stones"] zfC:=zhe T Z yK
 refine D.F.ok z4 (fun vs H Q E h=>?_) (fun cdv A outer s H vs Q E hr h=>?_)
 ·obtain⟨p,l,rs,n,rfl,_⟩:=h
  rfl
 ·obtain⟨p,l,rs,n,rfl,b,R,sm,n0,q⟩:=h
  have h64:(zp rs).length<=64:=qJ R
  refine⟨_,(zd (zD (i:=1) z4.nd rfl (XM rfl) (zo zfA (hr.mono (by decide)) (by rfl) JL.g JL.F.kp JL.b .nil zL (za (pv 0) zb)))
   (zd (JF (i:=2) z4.nd rfl rfl (N:=["part","board"]) (src:=[none,some 0]) (zY.free (O:=(zg jc).names) (XN:=["board","pieces","found","counts","rest","at_far","told","place","part","others","cell","near"]) rfl rfl ⟨_,rfl⟩ rfl rfl (by decide +kernel) (by decide +kernel) (by decide +kernel) rfl (by decide +kernel)) rfl (zU (pv 1)) (fun _ _ _ _ _=>(zm (i:=0) (by show Xg (["part","board"]:List Str);decide +kernel) rfl (XM rfl))) (fun _ _ _ _ _=>qL) (fun _ _ _ _ _=>(zo Zb (hr.mono (by decide)) (by rfl) qm.g qm.F.kp qm.b .nil zL (za (pv 1) (za (pv 0) zb)))))
   (zd (jA (zP (yL hr.units) (zo YW (hr.mono (by decide)) (by rfl) qZ.g qZ.F.kp qZ.b .nil zL (za (pv 0) zb)) (qu zb) (z9 _)) (zh (zO (jb (Y8 hr.units hr.hd) (by rfl) T.zlV P9 (za (qd (N:=["cell"]) (src:=[none]) (zY.plain rfl (by decide +kernel) (by decide +kernel) (by decide +kernel) rfl (by decide)) rfl (zU (zo Qv (hr.mono (by decide)) (by rfl) qD.g qD.F.kp qD.b .nil zL (za (pv 0) zb))) (fun _ _ _ _ _=>(zm (i:=0) (by show Xg (["cell"]:List Str);decide +kernel) rfl (XM rfl))) (fun _ _ _ _ _=>qL) (fun _ _ _ _ _=>(jO (za (pv 0) (za zf zb))))) zb)))) qp)
   (zd (JF (i:=3) z4.nd rfl rfl (N:=["part","some"]) (src:=[none,none]) (zY.plain rfl (by decide +kernel) (by decide +kernel) (by decide +kernel) rfl (by decide)) rfl (zoO (by rfl) T.zqf (za (pv 1) (za (pv 2) zb))) (fun _ _ _ _ _=>(Yt (n:=2) (K:=K) (by rfl) rfl (zT (zm (i:=0) (by show Xg (["part","some"]:List Str);decide +kernel) rfl (XM rfl)) (zT (zm (i:=1) (by show Xg (["part","some"]:List Str);decide +kernel) rfl (XM rfl)) jh)))) (fun _ _ _ _ _=>qL) (fun _ _ _ _ _=>(zo Yc (hr.mono (by decide)) (by rfl) qz.g qz.F.kp qz.b .nil zL (za (pv 1) (za (zz (ZD (K:=K) (by rfl)) (by rfl) T.qN Xh (za (pv 0) zb)) zb)))))
   (zd (zD (i:=4) z4.nd rfl (XM rfl) (zo zmn (hr.mono (by decide)) (by rfl) zbh.g zbh.F.kp zbh.b .nil zL (za (pv 0) zb)))
   (zd (zD (i:=5) z4.nd rfl (VF rfl) (zo zcB (hr.mono (by decide)) (by rfl) yK.g yK.F.kp yK.b .nil zL (za (zo JM (hr.mono (by decide)) (by rfl) qx.g qx.F.kp qx.b .nil zL (za (pv 3) zb)) (za (zG ZA (zz zE (by rfl) T.qN Xh (za (pv 4) zb)) zf) (za (zG ZA (zZ qU (pv 0) zf (fun _ _=>rfl)) zf) zb)))))
   (zd (zD (i:=6) z4.nd rfl (XM rfl) (jb (Y8 hr.units hr.hd) (by rfl) T.zlV P9 (za (qd (N:=["cell","at_far"]) (src:=[none,some 5]) (zY.free (O:=(zg jc).names) (XN:=["board","pieces","found","counts","rest","at_far","told","place","part","others","cell","near"]) rfl rfl ⟨_,rfl⟩ rfl rfl (by decide +kernel) (by decide +kernel) (by decide +kernel) rfl (by decide +kernel)) rfl (zU (pv 4)) (fun _ _ _ _ _=>(zm (i:=0) (by show Xg (["cell","at_far"]:List Str);decide +kernel) rfl (XM rfl))) (fun _ _ _ _ _=>qL) (fun _ _ _ _ _=>(jO (za (pv 0) (za (pv 1) zb))))) zb)))
   (zd (qA Xd rfl (ZQ (by rfl) T.ye (za (pv 1) zb)) (Jl rfl (zT (zm (i:=7) z4.nd rfl (XM rfl)) (zT (zm (i:=8) z4.nd rfl (XM rfl)) jh))) (zd (zD (i:=9) z4.nd rfl (XM rfl) (zo JM (hr.mono (by decide)) (by rfl) qx.g qx.F.kp qx.b .nil zL (za (zG zam (Qh ze5 (pv 3) zaK (zaL (pv 7))) (Qh ze5 (pv 3) (zaL (zG qT (pv 7) zf)) zaK)) zb)))
   (zh (qA Xd rfl (zU (pv 8)) (zm (i:=10) z4.nd rfl (XM rfl)) (zd (zD (i:=11) z4.nd rfl (XM rfl) (zo zdo (hr.mono (by decide)) (by rfl) xC.g xC.F.kp xC.b .nil zL (za (pv 9) (za (zo zfH (hr.mono (by decide)) (by rfl) JN.g JN.F.kp JN.b .nil zL (za (zZ qS (pv 2) (pv 7) (fun _ _=>rfl)) (za (zz zE (by rfl) T.qN Xh (za (pv 8) zb)) (za (pv 10) zb)))) zb))))
   (zh (zm2 (u1 hr.units) (pv 6) (pv 10) (zo zcB (hr.mono (by decide)) (by rfl) yK.g yK.F.kp yK.b .nil zL (za (pv 11) (za (zz zE (by rfl) T.qN Xh (za (pv 4) zb)) (za (zZ qU (pv 0) zf (fun _ _=>rfl)) zb)))) rfl)))))))
   (zh (zO (pv 6))))))))))),?_⟩
  refine⟨_,rfl,p,l,rs,n,rfl,b,R,fun d1 w1 gs H1 hd1 zmo hG _ _ G up s1=>?_⟩
  have g64:=Qy G R
  have gl64:gs.length<=64:=X0 (Parts.Qp G.ne) g64
  refine⟨_,rfl,d1,rfl,⟨_,SqL.of zmo⟩,fun z hz=>?_⟩
  refine qq (K:=K) (a:=d1) (xs:=w1) (fun j σ' H'=>∃(u0:Option V) (ys:List V),σ'=[u0,some (.ref p)]/\zB H1 H'/\H' z=some (.lst ys)/\zbT rs z H' ys (gs.take j))
   ⟨_,[],rfl,ze hz,zc,.nil⟩ (fun j σ' H' _ ⟨_,_,_,y,_⟩=>SqL.of (y _ _ zmo)) ?_ ?_
  ·rintro j v σ' H2 hv ⟨u0,ys,rfl,s2,hz2,hy2⟩
   obtain⟨g,hg,ga,ug,rfl,hga,hcg⟩:=yP.get (hG.mono s2) hv
   have gm:=X2 hg
   have il:=(X4.mp hg).1
   unfold Q9
   refine zat ?_
   refine⟨_,rfl,_,rfl,p,l,ga,rs,n,ug,g,rfl,(b.mono s1).mono s2,R,hga,hcg,yV (G.srt g gm),sm gs G g gm,fun e we ks H3 he he3 hL _ hpm _ s3=>?_⟩
   have ez:e≠z:=fun y=>by
    subst y
    rw[hz2] at he
    cases he
   have nz:∀a,(H2 a=none/\a≠e)->a≠z:=fun a h y=>by
    subst y
    rw[hz2] at h
    cases h.1
   have t1:gs.take (j+1)=gs.take j++[g]:=by
    rw[XJ,hg]
    rfl
   refine⟨_,s3 _ _ hz2,?_,_,ys++[.ref e],rfl,fun b' o e'=>?_,zc,?_⟩
   ·rw[show ys.length=(gs.take j).length from Paired.length hy2,XQ]
    exact XH (show _<=64 by lia) (by decide)
   ·rw[zu (zj e' hz)]
    exact s3 _ _ (s2 _ _ e')
   ·rw[t1]
    exact Paired.snoc (zhh (s3 _ _ hz2) (Zx s3 hy2)) ⟨e,we,ks,rfl,ez,by rw[zu ez];exact he3,yf (s3 _ _ hz2) (fun _ h=>h) (YL nz hL),hpm⟩
  rintro σ' H2 ⟨u0,ys,rfl,s2,hz2,hF2⟩
  rw[hG.length,XG] at hF2
  have s02:=s1.trans s2
  have hG2:=hG.mono s2
  have hd12:=s2 _ _ zmo
  refine⟨_,rfl,p,l,rs,n,rfl,b.mono s02,R,fun d w2 H3 hd hd3 hc3 s3=>⟨(by show 0<=XU;decide),fun e he=>?_⟩⟩
  have s4:=ze (o:=.lst []) he
  refine⟨.list ((jM rs).map zx),.list [],.lst (SqL.of (s4 _ _ hd3)) (zJ.rdv (N:=fun _=>True) (Cel.rdn (Cel.mono s4 hc3))),.lst (SqL.of zc) .nil,zfq _ [],_,rfl,?_⟩
  have ee:(if true=true then !PyData.eqv (.list ((jM rs).map zx)) (.list []) else W2 (.list ((jM rs).map zx)) (.list []))=!(jM rs).isEmpty:=by
   show (!PyData.eqv _ _)=_
   rw[eq_nil]
  rw[ee]
  have s24:=s3.trans s4
  have s04:=s02.trans s24
  have b4:=b.mono s04
  have hd14:=s24 _ _ hd12
  have hz4:=s24 _ _ hz2
  have hG4:=hG2.mono s24
  have hF4:=Zx s24 hF2
  generalize upd H3 e (.lst [])=H4 at *
  cases hb:(jM rs).isEmpty with
  | false =>
   refine Qi ?_
   refine⟨_,rfl,p,l,rs,n,rfl,b4,R,fun d5 w5 H5 hd5 hd5' hc5 s5=>⟨d5,rfl,⟨_,SqL.of hd5'⟩,fun y hy=>?_⟩⟩
   have hcs:Cel H5 w5 (zp rs):=hc5
   refine qq (K:=K) (a:=d5) (xs:=w5) (fun i σ H'=>(∃u0,σ=[u0])/\zB H5 H'/\∃ys,H' y=some (.lst ys)/\yS H' ys (((zp rs).take i).map fun c=>(Jk c,V.int 0))) ⟨⟨_,rfl⟩,ze hy,[],zc,.nil⟩ (fun i σ H' _ ⟨_,s6,_⟩=>SqL.of (s6 _ _ hd5')) ?_ ?_
   ·rintro i x σ H6 hx ⟨⟨u0,rfl⟩,s6,ys,hy6,hp6⟩
    obtain⟨c,hci,ca,rfl,hca⟩:=Cel.get (Cel.mono s6 hcs) hx
    refine Zo ⟨_,rfl,(by show 2<=XU;decide),fun p hp=>?_⟩
    have s7:=ze (o:=.tup [.ref ca,.int 0]) hp
    have hlen:ys.length<=64:=by
     rw[hp6.length,ZB,XQ]
     lia
    refine⟨ys,s7 _ _ hy6,XH hlen (by decide),⟨_,rfl⟩,fun b' o e'=>?_,ys++[.ref p],zc,?_⟩
    ·rw[zu (zj e' hy)]
     exact s7 _ _ (s6 _ _ e')
    ·rw[XJ,hci,Xv]
     exact yS.into y _ (s7 _ _ hy6) (yS.snoc (hp6.mono s7) ⟨p,ca,rfl,zc,s7 _ _ hca⟩)
   ·rintro σ H6 ⟨_,s6,ys,hy6,hp6⟩
    rw[hcs.length,XG] at hp6
    refine⟨y,ys,_,rfl,hy6,hp6,fun dd hdd=>?_⟩
    refine q dd _ _ ((s04.trans (s5.trans s6)).free hdd) zc (fun c hc=>?_) ((s04.trans (s5.trans s6)).trans (ze hdd))
    rw[ziz hb]
    have:=zbu (v:=V.int 0) (k:=Jk c) ((zp rs).map Jk) [] (.inl (Xj.mpr ⟨c,hc,rfl⟩))
    rw[WD] at this
    exact this
  | true =>
   refine Qd ?_
   refine⟨_,rfl,_,rfl,d1,z,rfl,⟨_,SqL.of hd14⟩,⟨_,SqL.of hz4⟩,fun t0 ht0=>?_⟩
   refine zlo (K:=K) (l1:=d1) (l2:=z) (xs:=w1) (ys:=ys) (fun j σ' H'=>∃(u0 u1:Option V) (cs:List V),σ'=[u0,u1]/\zB H4 H'/\H' t0=some (.lst cs)/\(∀v∈cs,v≠V.ref t0)/\xD H' cs (tls rs (gs.take j))) (hG.length.trans (Paired.length hF2).symm)
    ⟨_,_,[],rfl,ze ht0,zc,(fun _ h=>nomatch h),.nil⟩ (fun j σ' H' _ ⟨_,_,_,_,y,_⟩=>⟨SqL.of (y _ _ hd14),SqL.of (y _ _ hz4)⟩) ?_ ?_
   ·rintro j v v' tt σ' H5 hv hv' htt ⟨u0,u1,cs,rfl,s5,ht5,nt,hI5⟩
    obtain⟨g,hg,ga,ug,rfl,hga,hcg⟩:=yP.get (hG4.mono s5) hv
    obtain⟨g',hg',fa,wf,ks,rfl,fz,hfa,hLf,hpf⟩:=zeQ (Zx s5 hF4) hv'
    rw[hg] at hg'
    cases hg'
    have gm:=X2 hg
    have il:=(X4.mp hg).1
    have z6:=ze (o:=.tup [V.ref ga,V.ref fa]) htt
    refine⟨tt,_,rfl,SqT.of zc,rfl,_,_,rfl,_,_,rfl,rfl,?_⟩
    have ht6:=z6 _ _ ht5
    have hga6:=z6 _ _ hga
    have zg7:=z6 _ _ hfa
    have hLf6:=ql z6 hLf
    have s46:=s5.trans z6
    have hI6:=xP z6 hI5
    generalize upd H5 tt (.tup [V.ref ga,V.ref fa])=H6 at *
    refine zat ?_
    refine⟨_,rfl,_,rfl,ga,_,rfl,.inl (SqL.of hga6),fa,wf,ks,_,ug.length,rfl,zg7,hLf6,fun k hk=>?_,?_,fun e7 H7 he7 zqm s7=>?_⟩
    ·rw[hcg.length]
     exact zdh (hpf.mem_iff.mp hk)
    ·rw[hcg.length]
     have:=sm gs G g gm
     lia
    ·rw[hcg.length,Cnt.zbD hpf,zeM] at zqm
     have et:e7≠t0:=fun y=>by
      subst y
      rw[ht6] at he7
      cases he7
     have t1:tls rs (gs.take (j+1))=tls rs (gs.take j)++[Tally.tl g (qW rs g)]:=by
      unfold tls
      rw[XJ,hg,Xv]
      rfl
     refine⟨_,s7 _ _ ht6,?_,_,_,cs++[.ref e7],rfl,fun b' o e'=>?_,zc,fun v hv=>?_,?_⟩
     ·rw[Q4 hI5]
      unfold tls
      rw[ZB,XQ]
      exact XH (show _<=64 by lia) (by decide)
     ·rw[zu (zj e' ht0)]
      exact s7 _ _ (s46 _ _ e')
     ·rcases XI.mp hv with hv | hv
      ·exact nt v hv
      ·have:v=V.ref e7:=by simpa using hv
       rw[this]
       intro y
       cases y
       exact et rfl
     ·rw[t1]
      exact Paired.snoc (ziA (xP s7 hI6) nt) ⟨e7,rfl,by rw[zu et];exact zqm⟩
   rintro σ' H5 ⟨u0,u1,cs,rfl,s5,ht5,_,hI5⟩
   rw[hG.length,XG] at hI5
   have s05:=s04.trans s5
   refine⟨_,rfl,p,l,rs,n,rfl,b.mono s05,R,fun d5 w5 H6 hd5 zqn hc5 s6=>?_⟩
   have wl:=hc5.length
   have f64:(j5 rs).length<=64:=X0 (Xz _ _) h64
   refine⟨_,rfl,t0,cs,tls rs gs,rfl,s6 _ _ ht5,xP s6 hI5,zmj R G,fun d7 H7 hd7 zqo s7=>?_⟩
   rw[show (tls rs gs).foldl Pour.ZF [1]=Tally.tl gs.flatten (Tally.yc (qW rs) gs) from zhb G] at zqo
   have b7:=((b.mono s05).mono s6).mono s7
   refine⟨_,rfl,d5,_,rfl,.inl (SqL.of (s7 _ _ zqn)),_,_,rfl,rfl,_,rfl,p,_,1,_,rfl,rfl,SqT.of b7.tp,rfl,_,_,rfl,rfl,d7,_,_,_,rfl,zqo,YO g64,by rw[Tally.jZ];lia,by lia,fun H8 s8=>?_⟩
   have s68:=s7.trans s8
   have s58:=s6.trans s68
   have s08:=s05.trans s58
   have hd58:=s68 _ _ zqn
   have hc8:=hc5.mono s68
   have farv:∀c∈j5 rs,dlV (Tally.tl gs.flatten (Tally.yc (qW rs) gs)) (((w5.length:Nat):Int)-1) (n-1)=Ju rs n c:=fun c hc=>by
    have pos:=Uj hc
    have ci:=zpj G hc n.toNat
    rw[hb,if_pos rfl,Vw n0] at ci
    unfold Ju
    rw[<- ci,wl,show (((j5 rs).length:Nat):Int)-1=(((j5 rs).length-1:Nat):Int) by lia,zfB]
   generalize dlV (Tally.tl gs.flatten (Tally.yc (qW rs) gs)) (((w5.length:Nat):Int)-1) (n-1)=val at *
   refine⟨_,rfl,d5,rfl,⟨_,SqL.of hd58⟩,fun y hy=>?_⟩
   refine qq (K:=K) (a:=d5) (xs:=w5) (fun i σ H'=>(∃u0,σ=[u0,some (.int val)])/\zB H8 H'/\∃ys,H' y=some (.lst ys)/\yS H' ys (((j5 rs).take i).map fun c=>(Jk c,V.int val))) ⟨⟨_,rfl⟩,ze hy,[],zc,.nil⟩ (fun i σ H' _ ⟨_,s6,_⟩=>SqL.of (s6 _ _ hd58)) ?_ ?_
   ·rintro i x σ H6' hx ⟨⟨u0,rfl⟩,s6',ys',hy6,hp6⟩
    obtain⟨c,hci,ca,rfl,hca⟩:=Cel.get (Cel.mono s6' hc8) hx
    refine Zo ⟨_,rfl,_,rfl,(by show 2<=XU;decide),fun p hp=>?_⟩
    have s7':=ze (o:=.tup [.ref ca,.int val]) hp
    have hlen:ys'.length<=64:=by
     rw[hp6.length,ZB,XQ]
     lia
    refine⟨ys',s7' _ _ hy6,XH hlen (by decide),⟨_,rfl⟩,fun b' o e'=>?_,ys'++[.ref p],zc,?_⟩
    ·rw[zu (zj e' hy)]
     exact s7' _ _ (s6' _ _ e')
    ·rw[XJ,hci,Xv]
     exact yS.into y _ (s7' _ _ hy6) (yS.snoc (hp6.mono s7') ⟨p,ca,rfl,zc,s7' _ _ hca⟩)
   rintro σ H9 ⟨_,s9,ys',hy9,hp9⟩
   rw[hc8.length,XG] at hp9
   refine⟨y,ys',_,rfl,hy9,hp9,fun dd hdd=>?_⟩
   have z10:=ze (o:=.dT (zac ((j5 rs).map fun c=>(Jk c,V.int val)))) hdd
   have hdd10:upd H9 dd (.dT (zac ((j5 rs).map fun c=>(Jk c,V.int val)))) dd=some (.dT (zac ((j5 rs).map fun c=>(Jk c,V.int val)))):=zc
   have kl0:(zac ((j5 rs).map fun c=>(Jk c,V.int val))).length<=64:=by
    have:=zmr ((j5 rs).map fun c=>(Jk c,V.int val))
    rw[ZB] at this
    lia
   have kv0:∀c∈j5 rs,Ja (zac ((j5 rs).map fun c=>(Jk c,V.int val))) (Jk c)=some (V.int (Ju rs n c)):=fun c hc=>by
    have:=zbu (v:=V.int val) (k:=Jk c) ((j5 rs).map Jk) [] (.inl (Xj.mpr ⟨c,hc,rfl⟩))
    rw[WD] at this
    rw[<- farv c hc]
    exact this
   generalize zac ((j5 rs).map fun c=>(Jk c,V.int val))=kvs0 at *
   generalize upd H9 dd (.dT kvs0)=H10 at *
   have s49:=s5.trans (s58.trans s9)
   have s09:=s08.trans s9
   have ddn:H dd=none:=s09.free hdd
   have hd19:=s49 _ _ hd14
   have hz9:=s49 _ _ hz4
   have hG9:=hG4.mono s49
   have hF9:=Zx s49 hF4
   have ht9:=(s58.trans s9) _ _ ht5
   have hI9:=xP (s58.trans s9) hI5
   have hd59:=s9 _ _ hd58
   have b9:=b.mono s09
   refine⟨_,rfl,d1,rfl,⟨_,SqL.of (z10 _ _ hd19)⟩,?_⟩
   refine ZR (K:=K) (l:=d1) (xs:=w1) (fun i σ H'=>∃(kvs:List (List Key×V)) (v7 v8 v9 v10 v11:Option V),σ=[some (.ref p),some (.ref d1),some (.ref z),some (.ref t0),some (.ref d5),some (.int val),some (.ref dd),v7,v8,v9,v10,v11]/\zB H9 H'/\H' dd=some (.dT kvs)/\kvs.length<=64+(gs.take i).flatten.length/\(∀c,c∈j5 rs\/c∈(gs.take i).flatten->Ja kvs (Jk c)=some (V.int (Ju rs n c))))
    ⟨kvs0,_,_,_,_,_,rfl,z10,hdd10,by simpa using kl0,fun c hc=>hc.elim (kv0 c) (fun h=>by simp at h)⟩ (fun i σ H' _ ⟨_,_,_,_,_,_,_,y,_⟩=>SqL.of (y _ _ hd19)) ?_ ?_
   ·rintro i v tt σ H11 hv htt ⟨kvs,v7,v8,v9,v10,v11,rfl,s11,hdd11,kl,kv⟩
    obtain⟨g,hg,ga,ug,rfl,hga,hcg⟩:=yP.get (hG9.mono s11) hv
    have gm:=X2 hg
    have il:=(X4.mp hg).1
    have g14:=sm gs G g gm
    have egs:gs=gs.take i++g::gs.drop (i+1):=by
     have e1:=(WR i gs).symm
     rw[WP il] at e1
     have e2:gs[i]=g:=by
      rw[X7 il] at hg
      exact Option.some.inj hg
     rwa [e2] at e1
    have tk:(gs.take (i+1)).flatten=(gs.take i).flatten++g:=by
     rw[XJ,hg,Wv]
     congr 1
     simp
    have AB:(gs.take i++gs.drop (i+1)).Sublist gs:=by
     conv=>rhs;rw[egs]
     exact List.Sublist.append (List.Sublist.refl _) (List.sublist_cons_self _ _)
    have tdd:tt≠dd:=fun y=>by
     subst y
     rw[hdd11] at htt
     cases htt
    have z12:=ze (o:=.tup [.int (i:Nat),V.ref ga]) htt
    refine⟨tt,_,rfl,SqT.of zc,rfl,_,_,rfl,_,_,rfl,rfl,?_⟩
    have s12:=s11.trans z12
    have hdd12:=z12 _ _ hdd11
    generalize upd H11 tt (.tup [.int (i:Nat),V.ref ga])=H12 at *
    have cl:=Q4 hI9
    have tlen:(tls rs gs).length=gs.length:=ZB _
    refine⟨_,rfl,_,rfl,_,rfl,t0,cs,rfl,SqL.of (s12 _ _ ht9),fun c1 hc1=>?_⟩
    have z13:=ze (o:=.lst (zdJ cs none (some ((i:Nat):Int)))) hc1
    refine⟨_,rfl,_,rfl,_,_,rfl,rfl,_,rfl,t0,cs,rfl,SqL.of (z13 _ _ (s12 _ _ ht9)),fun c2 hc2=>?_⟩
    have z14:=ze (o:=.lst (zdJ cs (some (((i:Nat):Int)+1)) none)) hc2
    rw[zpl cs (show i<=cs.length by lia),zg5 cs i (by lia)] at *
    refine⟨c1,c2,_,_,rfl,rfl,z14 _ _ zc,zc,?_,fun c3 hc3=>?_⟩
    ·rw[XQ,We]
     exact X0 (show _<=128 by lia) (by decide)
    have z15:=ze (o:=.lst (cs.take i++cs.drop (i+1))) hc3
    have s1215:=z13.trans (z14.trans z15)
    have s15:=s12.trans s1215
    have hdd15:=s1215 _ _ hdd12
    have hI15:=xP s15 hI9
    have et:tls rs (gs.take i++gs.drop (i+1))=(tls rs gs).take i++(tls rs gs).drop (i+1):=by
     unfold tls
     rw[Xv,SE,O5]
    have hc315:upd (upd (upd H12 c1 (.lst (cs.take i))) c2 (.lst (cs.drop (i+1)))) c3 (.lst (cs.take i++cs.drop (i+1))) c3=some (.lst (cs.take i++cs.drop (i+1))):=zc
    generalize upd (upd (upd H12 c1 (.lst (cs.take i))) c2 (.lst (cs.drop (i+1)))) c3 (.lst (cs.take i++cs.drop (i+1)))=H15 at *
    refine⟨c3,_,tls rs (gs.take i++gs.drop (i+1)),rfl,hc315,by rw[et];exact zkG (zdx i hI15) (zdy (i+1) hI15),zpk R G AB,fun oa H16 hoa zob s16=>?_⟩
    rw[zjG G AB] at zob
    have s916:=s15.trans s16
    have hdd16:=s16 _ _ hdd15
    have oadd:oa≠dd:=fun y=>by
     subst y
     rw[hdd15] at hoa
     cases hoa
    have fl64:(gs.take i++gs.drop (i+1)).flatten.length<=64:=X0 (QD AB).length_le g64
    have hga9:H9 ga=some (.lst ug):=by
     obtain⟨g',hg',ga',ug',e',h1',_⟩:=yP.get hG9 hv
     cases e'
     have:=s11 _ _ h1'
     rw[hga] at this
     cases this
     exact h1'
    have hcg9:Cel H9 ug g:=by
     obtain⟨g',hg',ga',ug',e',h1',h2'⟩:=yP.get hG9 hv
     cases e'
     rw[hg] at hg'
     cases hg'
     rw[hga9] at h1'
     cases h1'
     exact h2'
    have zl:i<ys.length:=by
     rw[show ys.length=gs.length from Paired.length hF2]
     exact il
    obtain⟨g2,hg2,fa,wf,ks,efa,fz,hfa,hLf,hpf⟩:=zeQ hF9 (X7 zl)
    rw[hg] at hg2
    cases hg2
    refine⟨_,rfl,ga,rfl,⟨_,SqL.of (s916 _ _ hga9)⟩,?_⟩
    refine jS (K:=K) (a:=ga) (xs:=ug) (fun j σ H'=>∃(kvs:List (List Key×V)) (v10 v11:Option V),σ=[some (.ref p),some (.ref d1),some (.ref z),some (.ref t0),some (.ref d5),some (.int val),some (.ref dd),some (.int (i:Nat)),some (.ref ga),some (.ref oa),v10,v11]/\zB H9 H'/\H' oa=some (.lst (iL (Tally.tl (gs.take i++gs.drop (i+1)).flatten (Tally.yc (qW rs) (gs.take i++gs.drop (i+1))))))/\H' dd=some (.dT kvs)/\kvs.length<=64+(gs.take i).flatten.length+j/\(∀c,c∈j5 rs\/c∈(gs.take i).flatten\/c∈g.take j->Ja kvs (Jk c)=some (V.int (Ju rs n c))))
     ⟨kvs,_,_,rfl,s916,zob,hdd16,by lia,fun c hc=>kv c (hc.elim .inl fun h=>h.elim .inr fun h=>by simp at h)⟩ (fun j σ H' _ ⟨_,_,_,_,y,_⟩=>SqL.of (y _ _ hga9)) ?_ ?_
    ·rintro j x σ H17 hx ⟨kvs',w10,w11,rfl,s17,hoa17,hdd17,kl17,kv17⟩
     obtain⟨c,hc,ca,rfl,hca⟩:=Cel.get (hcg9.mono s17) hx
     have cm:=X2 hc
     have jl:=(X4.mp hc).1
     have Gi:Parts.Good (clA rs) (zF rs) (gs.take i++g::gs.drop (i+1)):=by
      rw[<- egs]
      exact G
     have ap:=znC Gi cm n.toNat
     rw[hb,if_pos rfl,Vw n0] at ap
     refine⟨_,rfl,_,rfl,_,rfl,z,_,_,_,rfl,rfl,SqL.of (s17 _ _ hz9),jx (by lia) (by rw[WV];exact X7 zl),_,rfl,ga,_,rfl,.inl (SqL.of (s17 _ _ hga9)),_,rfl,?_⟩
     rw[efa]
     refine⟨fa,ca,wf,ks,_,ug.length,c,rfl,s17 _ _ hfa,ql s17 hLf,fun k hk=>?_,?_,?_,hca,fun ea H18 hea zoc s18=>?_⟩
     ·rw[hcg9.length]
      exact zdh (hpf.mem_iff.mp hk)
     ·rw[hcg9.length]
      lia
     ·rw[hpf.length_eq]
      exact zkz g14
     rw[hcg9.length,Cnt.zbD (hpf.filter _),zfF] at zoc
     have gl64:g.length<=64:=by lia
     refine⟨oa,ea,_,_,rfl,SqL.of (s18 _ _ hoa17),SqL.of zoc,?_,?_,?_,?_,YO fl64,YO gl64,fun na H19 hna zqp s19=>?_⟩
     ·rw[Tally.jZ];lia
     ·rw[Tally.jZ];lia
     ·rw[Tally.jZ];lia
     ·rw[Tally.jZ];lia
     have s1719:=s18.trans s19
     have s919:=s17.trans s1719
     have t64:(gs.take i).flatten.length<=64:=X0 (QD (UR i gs)).length_le g64
     have ab64:((gs.take i++gs.drop (i+1)).flatten++g).length<=64:=by
      rw[<- (zfx _ _ _).length_eq,<- egs]
      exact g64
     have epi:=zjF Gi cm
     refine⟨_,rfl,_,rfl,d5,_,rfl,.inl (SqL.of (s919 _ _ hd59)),_,rfl,p,_,1,_,rfl,rfl,SqT.of (b9.mono s919).tp,rfl,na,_,_,_,rfl,zqp,by rw[epi];exact YO ab64,by rw[epi,Tally.jZ];lia,by lia,fun H20 s20=>?_⟩
     have s1720:=s1719.trans s20
     have hdd20:=s1720 _ _ hdd17
     have ev:dlV (Pour.ZF (Tally.tl (gs.take i++gs.drop (i+1)).flatten (Tally.yc (qW rs) (gs.take i++gs.drop (i+1)))) (Tally.tl g fun S=>qW rs g S&&decide (c∈S))) (w5.length:Nat) n=Ju rs n c:=by
      unfold Ju
      rw[zfB,wl,ap]
     rw[ev]
     refine⟨_,rfl,_,rfl,dd,_,rfl,zll.t (k:=Jk c) hdd20 (s1720 _ _ hca) (XH (show kvs'.length<=200 by lia) (by decide)),?_⟩
     refine⟨putK kvs' (Jk c) (V.int (Ju rs n c)),_,_,rfl,fun b' o e'=>?_,?_,zc,?_,fun c' hc'=>?_⟩
     ·rw[zu (zj e' hdd)]
      exact s1720 _ _ (s17 _ _ e')
     ·rw[zu oadd]
      exact s1720 _ _ hoa17
     ·have:=zjH kvs' (Jk c) (V.int (Ju rs n c))
      lia
     ·rw[zgj]
      by_cases ec:Jk c'=Jk c
      ·rw[if_pos ec,zmp ec]
      ·rw[if_neg ec]
       refine kv17 c' (hc'.elim .inl fun h=>h.elim (fun h=>.inr (.inl h)) fun h=>?_)
       rw[XJ,hc] at h
       rcases XI.mp h with h | h
       ·exact .inr (.inr h)
       ·have:c'=c:=by simpa using h
        exact absurd (by rw[this]) ec
    rintro σ H17 ⟨kvs',w10,w11,rfl,s17,hoa17,hdd17,kl17,kv17⟩
    have ul:ug.length=g.length:=hcg9.length
    refine⟨kvs',_,_,_,_,_,rfl,s17,hdd17,?_,fun c hc=>?_⟩
    ·rw[tk,XZ]
     lia
    ·rw[tk] at hc
     rw[ul,XG] at kv17
     exact kv17 c (hc.elim .inl fun h=>(XI.mp h).elim (fun h=>.inr (.inl h)) fun h=>.inr (.inr h))
   rintro σ H11 ⟨kvs,v7,v8,v9,v10,v11,rfl,s11,hdd11,kl,kv⟩
   rw[hG.length,XG] at kv
   refine⟨_,rfl,q dd kvs H11 ddn hdd11 (fun c hc=>kv c ?_) (s09.trans s11)⟩
   by_cases hm:c∈gs.flatten
   ·exact .inr hm
   ·exact .inl ((zbf G).mpr ⟨hc,hm⟩)
theorem zhj:zQ ["board","cell"] ["board","cell"] (zg YE):=⟨rfl,rfl,rfl,by decide +kernel,rfl,by decide +kernel,by decide +kernel⟩
theorem zhk (T:Txt mg)(Z:Prog K mg)(D:zk K mg "count_at" YE ["board","cell"] f fd):zI P w K mg base CX0 8 f fd ["board","cell"] zeR:=by
 obtain⟨zbU,zbj,yx⟩:=Z.counts_by_cell
 have zbV:zI P w K mg base CX0 7 zbU zbj ["board"] zhi:=zbi T Z yx
 refine D.F.ok zhj (fun vs H Q E h=>?_) (fun cdv A outer s H vs Q E hr h=>?_)
 ·obtain⟨p,l,ca,rs,n,c,rfl,_⟩:=h
  rfl
 ·obtain⟨p,l,ca,rs,n,c,rfl,b,R,sm,n0,hca,hc,q⟩:=h
  refine⟨_,(zh (zO (zm1 (u1 hr.units) (zo zbV (hr.mono (by decide)) (by rfl) yx.g yx.F.kp yx.b .nil zL (za (pv 0) zb)) (pv 1) (fun _ _=>rfl)))),?_⟩
  refine⟨_,rfl,p,l,rs,n,rfl,b,R,sm,n0,fun d kvs H1 _ hd kv s1=>⟨_,rfl,d,_,rfl,?_,q _ s1⟩⟩
  have g:=zj5.t (k:=Jk c) hd (s1 _ _ hca)
  rw[kv c hc] at g
  exact g
end
namespace LY
inductive Why
 | ok
 | cell (p:Int×Int)
 | order (p:Int×Int)
 | many (n:Nat)
 | num (c:Nat×Nat) (n:Nat)
def zod (H:Hp)(v:V):Why->Prop
 | .ok=>v=.non
 | .cell p=>∃a c,v=V.ref a/\H a=some (.tup [.str "cell",.ref c])/\H c=some (.tup [.int p.1,.int p.2])
 | .order p=>∃a c,v=V.ref a/\H a=some (.tup [.str "order",.ref c])/\H c=some (.tup [.int p.1,.int p.2])
 | .many n=>∃a,v=V.ref a/\H a=some (.tup [.str "many",.int (n:Nat)])
 | .num c n=>∃a ca,v=V.ref a/\H a=some (.tup [.str "number",.ref ca,.int (n:Nat)])/\H ca=some (.tup [.int (c.1:Nat),.int (c.2:Nat)])
noncomputable def Why.isOk:Why->Bool
 | .ok=>true
 | _=>false
noncomputable def zbg (rs:List Str)(ps:List (Int×Int))(c:Nat×Nat):Nat:=((zK rs c).filter fun x=>ps.any fun z=>decide (z=toI x)).length
def qQ (rs:List Str)(c:Nat×Nat):Int:=((Cells.sgn (codes rs) c:Nat):Int)-48
def zfI (rs:List Str)(ps:List (Int×Int))(c:Nat×Nat):Bool:=!decide (((zbg rs ps c:Nat):Int)=qQ rs c)
noncomputable def zms (rs:List Str)(ps:List (Int×Int)):Why:=match (zF rs).find? (zfI rs ps) with
 | some c=>.num c (zbg rs ps c)
 | none=>.ok
theorem znG {α:Type}{p:α->Bool}{l:List α}{i:Nat}{x:α}(hx:l[i]?=some x)(h:p x=true)(hb:∀y∈l.take i,p y=false):l.find? p=some x:=by
 obtain⟨hi,e⟩:=X4.mp hx
 have e2:l=l.take i++x::l.drop (i+1):=by rw[<- e,<- WP hi,WR]
 rw[e2,List.find?_append,Ts.mpr (fun y hy=>by rw[hb y hy];exact XV),UW,h]
 rfl
theorem znH {α:Type}{p:α->Bool}{l:List α}(h:∀y∈l,p y=false):l.find? p=none:=Ts.mpr fun y hy=>by rw[h y hy];exact XV
theorem zkH {α:Type}{P:α->Prop}{l:List α}{i:Nat}{x:α}(hx:l[i]?=some x)(h:∀y∈l.take i,P y)(hp:P x):∀y∈l.take (i+1),P y:=fun y hy=>by
 rw[XJ,hx] at hy
 rcases XI.mp hy with hy | hy
 ·exact h y hy
 ·have e:y=x:=by simpa using hy
  rw[e]
  exact hp
def zb9 (H:Hp)(rs:List Str)(v:V)(c:Nat×Nat):Prop:=∃a ca na wn,v=V.ref a/\H a=some (.tup [.ref ca,.int (qQ rs c),.ref na])/\H ca=some (.tup [.int (c.1:Nat),.int (c.2:Nat)])/\H na=some (.lst wn)/\Cel H wn (zK rs c)
noncomputable def tD (rs:List Str)(c:Nat×Nat):Wm:=.tuple [zx c,.int (qQ rs c),.list ((zK rs c).map zx)]
theorem znI {N:Addr->Prop}{H:Hp}{rs:List Str}{v:V}{c:Nat×Nat}(h:Rdn N H v (tD rs c)):zb9 H rs v c:=by
 unfold tD at h
 generalize ed:(zK rs c).map zx=ds at h
 cases h with
 | tup h t =>
  cases t with
  | cons a t =>
   obtain⟨ca,rfl,hca⟩:=Rdn.celR a
   cases t with
   | cons b t =>
    cases b
    cases t with
    | cons d t =>
     cases t
     cases d with
     | lst n h1 h2 =>
      subst ed
      exact⟨_,ca,_,_,rfl,h,hca,h1,zJ.cel h2⟩
theorem zhl {N:Addr->Prop}{H:Hp}{rs:List Str}:∀{cs:List (Nat×Nat)} {vs:List V},zJ N H vs (cs.map (tD rs))->W0 (zb9 H rs) vs cs
 | [],_,.nil=>.nil
 | _::_,_,.cons h t=>.cons (znI h) (zhl t)
theorem zdz {H H':Hp}(s:zB H H'){rs:List Str}{cs:List (Nat×Nat)}{vs:List V}(hp:W0 (zb9 H rs) vs cs):W0 (zb9 H' rs) vs cs:=by
 induction hp with
 | nil=>exact .nil
 | cons q _ ih =>
  obtain⟨a,ca,na,wn,e,h1,h2,h3,h4⟩:=q
  exact .cons ⟨a,ca,na,wn,e,s _ _ h1,s _ _ h2,s _ _ h3,h4.mono s⟩ ih
theorem zeS {H:Hp}{rs:List Str}:∀{vs:List V} {cs:List (Nat×Nat)} {i:Nat} {v:V},W0 (zb9 H rs) vs cs->vs[i]?=some v->∃c,cs[i]?=some c/\zb9 H rs v c
 | _,_,_,_,.nil,e=>by simp at e
 | _,_,0,_,.cons r _,e=>by
  simp at e
  subst e
  exact⟨_,rfl,r⟩
 | _,_,i+1,v,.cons _ t,e=>by
  obtain⟨c,h1,h2⟩:=zeS (i:=i) (v:=v) t (by simpa using e)
  exact⟨c,by simpa using h1,h2⟩
def zmt:Sp:=fun vs H Q _=>∃(p l:Addr) (rs:List Str) (n:Int),vs=[.ref p]/\qj H p l rs n/\Rows bd.cps.toList rs /\
 ∀(d:Addr) (ws:List V) (H':Hp),H d=none->H' d=some (.lst ws)->W0 (zb9 H' rs) ws (zF rs)->zB H H'->Q (.ref d) H'
def zjI:Sp:=fun vs H Q _=>∃(ta ca:Addr) (ut us:List V) (rs:List Str) (ps:List (Int×Int)),vs=[.ref ta,.ref ca]/\H ta=some (.lst ut)/\W0 (zb9 H rs) ut (zF rs)/\Rows bd.cps.toList rs/\H ca=some (.lst us)/\jC H us ps /\
 ∀(v:V) (H':Hp),zB H H'->zod H' v (zms rs ps)->Q v H'
section
variable {P:Xy}{w:W6}{K:X8}{mg:Str->Option X9}{base:Heap}{f:Addr}{fd:XO}
theorem zch:zQ ["board"] ["board"] (zg jE):=⟨rfl,rfl,rfl,by decide +kernel,rfl,by decide +kernel,by decide +kernel⟩
theorem zci {f1 f2 f3 f4 f5:Addr}{fd1 fd2 fd3 fd4 fd5:XO}(T:Txt mg)(D:zk K mg "numbers_told" jE ["board"] f fd)(zH:zk K mg "around" jD ["board","cell"] f1 fd1)(zv:zk K mg "sign_at" qF ["board","cell"] f2 fd2)
  (zC:zk K mg "cells_of" qy ["board"] f3 fd3) (zq:zk K mg "open_cells" qt ["board"] f4 fd4) (zR:zk K mg "number_at" jr ["board","cell"] f5 fd5):zI P w K mg base CX0 3 f fd ["board"] zmt:=by
 have xA:zI P w K mg base CX0 1 f1 fd1 ["board","cell"] Z6:=Z8 T zH
 have qY:zI P w K mg base CX0 2 f4 fd4 ["board"] (xN Jt):=yF T zq zC zv
 have Je:zI P w K mg base CX0 2 f5 fd5 ["board","cell"] za4:=YJ T zR zv
 refine D.F.ok zch (fun vs H Q E h=>?_) (fun cdv A outer s H vs Q E hr h=>?_)
 ·obtain⟨p,l,rs,n,rfl,_⟩:=h
  rfl
 ·obtain⟨p,l,rs,n,rfl,b,R,q⟩:=h
  refine⟨_,(zh (zO (qd (N:=["cell","board"]) (src:=[none,some 0]) (zY.free (O:=(zg jE).names) (XN:=["board"]) rfl rfl ⟨_,rfl⟩ rfl rfl (by decide +kernel) (by decide +kernel) (by decide +kernel) rfl (by decide +kernel)) rfl (zU (zo qY (hr.mono (by decide)) (by rfl) zq.g zq.F.kp zq.b .nil zL (za (pv 0) zb))) (fun _ _ _ _ _=>(zm (i:=0) (by show Xg (["cell","board"]:List Str);decide +kernel) rfl (XM rfl))) (fun _ _ _ _ _=>qL) (fun _ _ _ _ _=>(jO (za (pv 0) (za (zo Je (hr.mono (by decide)) (by rfl) zR.g zR.F.kp zR.b .nil zL (za (pv 1) (za (pv 0) zb))) (za (zo xA (hr.mono (by decide)) (by rfl) zH.g zH.F.kp zH.b .nil zL (za (pv 1) (za (pv 0) zb))) zb)))))))),?_⟩
  refine⟨_,rfl,p,l,rs,n,rfl,b,R,fun d ws H1 hd hd1 hc1 s1=>⟨d,rfl,⟨_,SqL.of hd1⟩,fun z hz=>?_⟩⟩
  have hc1:Cel H1 ws (zF rs):=hc1
  have b1:=b.mono s1
  refine qI (K:=K) (a:=d) (xs:=ws) (fun a=>a≠z) ((zF rs).map fun c=>some (tD rs c)) (fun σ=>∃u0,σ=[u0,some (.ref p)]) hz (fun _ h=>h) ⟨_,rfl⟩ (by rw[ZB];exact hc1.length.symm) (by rw[hc1.length];exact X0 (qJ R) (by decide)) (SqL.of hd1) ?_ ?_
  ·rintro k x o σ H2 hx ho s2 hzn ⟨u0,rfl⟩ Y Z yes no
   obtain⟨y,hy,r1⟩:=Cel.get hc1 hx
   have eo:=yN hy ho
   obtain⟨t,sg,ht,hj,hop,es⟩:=qe (X2 hy)
   obtain⟨ya,rfl,hya⟩:=r1
   obtain⟨l1,l2⟩:=yO R ht hj
   obtain⟨o1,o2⟩:=QZ (zcA R ht hj) hop
   have b2:=b1.mono s2
   have hya2:=s2 _ _ hya
   refine Zo ⟨_,rfl,_,rfl,_,rfl,p,l,ya,rs,n,y.1,y.2,t,sg,rfl,b2,hya2,ht,hj,R.tlen ht,o1,o2,_,rfl,_,rfl,p,l,ya,rs,n,y.1,y.2,rfl,b2,R,hya2,l1,l2,fun d2 ws2 H3 hd2 hd3 hc2 s3=>⟨(by show 3<=XU;decide),fun tt htt=>?_⟩⟩
   have s4:=ze (o:=.tup [.ref ya,.int (((sg:Nat):Int)-48),.ref d2]) htt
   have en:qQ rs y=((sg:Nat):Int)-48:=by
    unfold qQ
    rw[es]
   refine yes _ _ _ _ eo ⟨_,rfl⟩ (s3.trans s4) (.tup zc (.cons (JI.rdn ⟨ya,rfl,s4 _ _ (s3 _ _ hya2)⟩) (.cons ?_ (.cons (.lst (fun e=>hzn (e ▸ hd2)) (s4 _ _ hd3) (Cel.rdn (hc2.mono s4))) .nil))))
   rw[en]
   exact .int _
  ·rintro ys H2 s2 hz2 hr2
   rw[J8] at hr2
   exact q z ys H2 (s1.free hz) hz2 (zhl hr2) (s1.trans s2)
theorem jW:zQ ["told","cells","cell","number","near","lying"] ["told","cells"] (zg jF):=⟨rfl,rfl,rfl,by decide +kernel,rfl,by decide +kernel,by decide +kernel⟩
theorem zcj (T:Txt mg)(D:zk K mg "wrong_number" jF ["told","cells"] f fd):zI P w K mg base CX0 1 f fd ["told","cells"] zjI:=by
 refine D.F.ok jW (fun vs H Q E h=>?_) (fun cdv A outer s H vs Q E hr h=>?_)
 ·obtain⟨ta,ca,ut,us,rs,ps,rfl,_⟩:=h
  rfl
 ·obtain⟨ta,ca,ut,us,rs,ps,rfl,hta,hT,R,hca,ht,q⟩:=h
  refine⟨_,(zd (qA Xd rfl (zU (pv 0)) (Jl rfl (zT (zm (i:=2) jW.nd rfl (XM rfl)) (zT (zm (i:=3) jW.nd rfl (XM rfl)) (zT (zm (i:=4) jW.nd rfl (XM rfl)) jh)))) (zd (zD (i:=5) jW.nd rfl (XM rfl) (zz zE (by rfl) T.qN Xh (za (qd (N:=["place","cells"]) (src:=[none,some 1]) (zY.free (O:=(zg jF).names) (XN:=["told","cells","cell","number","near","lying"]) rfl rfl ⟨_,rfl⟩ rfl rfl (by decide +kernel) (by decide +kernel) (by decide +kernel) rfl (by decide +kernel)) rfl (zU (pv 4)) (fun _ _ _ _ _=>(zm (i:=0) (by show Xg (["place","cells"]:List Str);decide +kernel) rfl (XM rfl))) (fun _ _ _ _ _=>(qh (zP (jL (K:=K) (by rfl) hr.units) (pv 0) (pv 1) (by rfl)))) (fun _ _ _ _ _=>(pv 0))) zb)))
   (zh (jA (zP zaa (pv 5) (pv 3) (z9 _)) (zh (zO (jO (za jw (za (pv 2) (za (pv 5) zb)))))) qp))))
   (zh (zO zkS))),?_⟩
  refine⟨_,rfl,ta,rfl,⟨_,SqL.of hta⟩,?_⟩
  have tl:ut.length=(zF rs).length:=Paired.length hT
  refine jS (K:=K) (a:=ta) (xs:=ut) (fun i σ H'=>∃v2 v3 v4 v5,σ=[some (.ref ta),some (.ref ca),v2,v3,v4,v5]/\zB H H'/\∀y∈(zF rs).take i,zfI rs ps y=false) ⟨_,_,_,_,rfl,zB.refl _,fun y hy=>by simp at hy⟩ (fun i σ H' _ ⟨_,_,_,_,_,s1,_⟩=>SqL.of (s1 _ _ hta)) ?_ ?_
  ·rintro i x σ H1 hx ⟨v2,v3,v4,v5,rfl,s1,hb⟩
   obtain⟨c,hc,a,cc,na,wn,rfl,h1,h2,h3,h4⟩:=zeS (zdz s1 hT) hx
   refine⟨a,_,rfl,SqT.of h1,rfl,_,_,rfl,_,_,rfl,_,_,rfl,rfl,?_⟩
   refine⟨_,rfl,na,rfl,⟨_,SqL.of h3⟩,fun z hz=>?_⟩
   refine qI (K:=K) (a:=na) (xs:=wn) (fun a=>a≠z) ((zK rs c).map fun x=>if (ps.any fun z=>decide (z=toI x))=true then some (zx x) else none) (fun σ=>∃u0,σ=[u0,some (.ref ca)]) hz (fun _ h=>h) ⟨_,rfl⟩ (by rw[ZB];exact h4.length.symm) (by rw[h4.length];exact X0 (xZ R c) (by decide)) (SqL.of h3) ?_ ?_
   ·rintro m v o σ H2 hv ho s2 _ ⟨u1,rfl⟩ Y Z yes no
    have s02:=s1.trans s2
    obtain⟨e,he,rc⟩:=Cel.get (h4.mono s2) hv
    have eo:=yN he ho
    refine⟨_,rfl,_,rfl,zx e,ps.map pD,rc.rdv,.lst (SqL.of (s02 _ _ hca)) (zg0 (qf s02 ht)),rfl,zih _,(by show 1<=60;decide),_,rfl,?_⟩
    have ei:(if false=true then !(ps.map pD).any (fun z=>W2 z (zx e)) else (ps.map pD).any fun z=>W2 z (zx e))=ps.any fun z=>decide (z=toI e):=zmb _ _
    rw[ei]
    by_cases hp:(ps.any fun z=>decide (z=toI e))=true
    ·rw[if_pos hp] at eo
     exact JE hp ⟨_,rfl,yes _ _ _ _ eo ⟨_,rfl⟩ (zB.refl _) rc.rdn⟩
    ·rw[if_neg hp] at eo
     exact xu (Xc.mpr hp) (no _ _ eo ⟨_,rfl⟩ (zB.refl _))
   rintro ys H2 s2 hz2 hr2
   have er:((zK rs c).map fun x=>if (ps.any fun z=>decide (z=toI x))=true then some (zx x) else none).filterMap id=((zK rs c).filter fun x=>ps.any fun z=>decide (z=toI x)).map zx:=qO _ _ _
   rw[er] at hr2
   have hcy:=zJ.cel hr2
   have yl:ys.length=zbg rs ps c:=hcy.length
   refine⟨z,ys,rfl,.inl (SqL.of hz2),?_⟩
   refine⟨_,rfl,_,rfl,rfl,_,rfl,?_⟩
   rw[yl]
   have ed:(!decide (V.int ((zbg rs ps c:Nat):Int)=V.int (qQ rs c)))=zfI rs ps c:=by
    unfold zfI
    simp only[V.int.injEq]
   rw[ed]
   have s02:=s1.trans s2
   cases hbc:zfI rs ps c with
   | true =>
    refine Qi ⟨_,rfl,_,rfl,(by show 3<=XU;decide),fun tt htt=>?_⟩
    have s3:=ze (o:=.tup [.str "number",.ref cc,.int ((zbg rs ps c:Nat):Int)]) htt
    refine q _ _ (s02.trans s3) ?_
    unfold zms
    rw[znG hc hbc hb]
    exact⟨tt,cc,rfl,zc,s3 _ _ (s2 _ _ h2)⟩
   | false=>exact Qd ⟨_,_,_,_,rfl,s02,zkH (P:=fun y=>zfI rs ps y=false) hc hb hbc⟩
  ·rintro σ H1 ⟨v2,v3,v4,v5,rfl,s1,hb⟩
   rw[tl,XG] at hb
   refine q _ _ s1 ?_
   unfold zms
   rw[znH hb]
   exact rfl
end
noncomputable def zaz (n:Int)(ps:List (Int×Int)):List (List (Int×Int)):=(Subs.subs ps).filter fun p=>decide (((p.length:Nat):Int)=n)
def zjJ:Sp:=fun vs H Q _=>∃(ca:Addr) (us:List V) (ps:List (Int×Int)) (n:Int),vs=[.ref ca,.int n]/\H ca=some (.lst us)/\jC H us ps/\ps.length<=14/\0<=n /\
 ∀(d:Addr) (ws:List V) (ks:List (List (Int×Int))) (H':Hp),H d=none->H' d=some (.lst ws)->jg (fun a=>H a=none/\a≠d) H' ws ks->ws.Nodup->ks.Perm (zaz n ps)->ks.Pairwise (fun p q=>PySem.SeqAt.ltL q p=false)->zB H H'->Q (.ref d) H'
theorem zmu (n:Int)(F:List (List (Int×Int)))(c:Int×Int):(Subs.Js n F c).length<=2*F.length:=by
 unfold Subs.Js
 rw[XZ,ZB]
 have:=Xz (fun p:List (Int×Int)=>decide (((p.length:Nat):Int)<n)) F
 lia
theorem zdA (n:Int):∀(cs:List (Int×Int)) (F:List (List (Int×Int))),(cs.foldl (Subs.Js n) F).length<=2^cs.length*F.length
 | [],F=>by simp
 | c::r,F=>by
  rw[Wy,Xw,VU,Nat.mul_assoc]
  exact X0 (zdA n r _) (Nat.mul_le_mul_left _ (zmu n F c))
theorem ziB (n:Int){F:List (List (Int×Int))}{c:Int×Int}{k:Nat}(h:∀p∈F,p.length<=k):∀p∈Subs.Js n F c,p.length<=k+1:=by
 intro p hp
 rcases XI.mp hp with hp | hp
 ·have:=h p hp
  lia
 ·obtain⟨q,hq,rfl⟩:=Xj.mp hp
  have:=h q (XX.mp hq).1
  rw[XZ]
  exact Nat.succ_le_succ this
theorem zdB (n:Int):∀(cs:List (Int×Int)) (F:List (List (Int×Int))) (k:Nat),(∀p∈F,p.length<=k)->∀p∈cs.foldl (Subs.Js n) F,p.length<=k+cs.length
 | [],F,k,h,p,hp=>h p hp
 | c::r,F,k,h,p,hp=>by
  have:=zdB n r _ (k+1) (ziB n h) p hp
  rw[Xw]
  lia
section
variable {P:Xy}{w:W6}{K:X8}{mg:Str->Option X9}{base:Heap}{f:Addr}{fd:XO}
theorem zbk:zQ ["cells","size","found","cell"] ["cells","size"] (zg YF):=⟨rfl,rfl,rfl,by decide +kernel,rfl,by decide +kernel,by decide +kernel⟩
theorem zmv (T:Txt mg)(D:zk K mg "picks" YF ["cells","size"] f fd):zI P w K mg base CX0 1 f fd ["cells","size"] zjJ:=by
 refine D.F.ok zbk (fun vs H Q E h=>?_) (fun cdv A outer s H vs Q E hr h=>?_)
 ·obtain⟨ca,us,ps,n,rfl,_⟩:=h
  rfl
 ·obtain⟨ca,us,ps,n,rfl,hca,ht,pl,n0,q⟩:=h
  have ul:=jH ht
  refine⟨_,(zd (zD (i:=2) zbk.nd rfl (XM rfl) (qu (za (qu zb) zb)))
   (zd (qA Xd rfl (zU (pv 0)) (zm (i:=3) zbk.nd rfl (VF rfl)) (zh (zD (i:=2) zbk.nd rfl (XM rfl) (zG zam (pv 2) (qd (N:=["pick","cell","size"]) (src:=[none,some 3,some 1]) (zY.free (O:=(zg YF).names) (XN:=["cells","size","found","cell"]) rfl rfl ⟨_,rfl⟩ rfl rfl (by decide +kernel) (by decide +kernel) (by decide +kernel) rfl (by decide +kernel)) rfl (zU (pv 2)) (fun _ _ _ _ _=>(zm (i:=0) (by show Xg (["pick","cell","size"]:List Str);decide +kernel) rfl (XM rfl))) (fun _ _ _ _ _=>(qh (zP zk1 (zz (ZD (K:=K) (by rfl)) (by rfl) T.qN Xh (za (pv 0) zb)) (pv 2) (z9 _)))) (fun _ _ _ _ _=>(zG zam (pv 0) (qu (za (pv 1) zb)))))))))
   (zh (zO (zz (GS.ZE hr.units) (by rfl) T.za3 UH (za (qd (N:=["pick","size"]) (src:=[none,some 1]) (zY.free (O:=(zg YF).names) (XN:=["cells","size","found","cell"]) rfl rfl ⟨_,rfl⟩ rfl rfl (by decide +kernel) (by decide +kernel) (by decide +kernel) rfl (by decide +kernel)) rfl (zU (pv 2)) (fun _ _ _ _ _=>(zm (i:=0) (by show Xg (["pick","size"]:List Str);decide +kernel) rfl (XM rfl))) (fun _ _ _ _ _=>(qh (zP Jq (zz (ZD (K:=K) (by rfl)) (by rfl) T.qN Xh (za (pv 0) zb)) (pv 1) (z9 _)))) (fun _ _ _ _ _=>(pv 0))) zb)))))),?_⟩
  refine⟨(by show 0<=XU;decide),fun e0 he0=>⟨(by show 1<=XU;decide),fun f0 hf0=>?_⟩⟩
  have y1:=ze (o:=.lst []) he0
  have y2:=ze (o:=.lst [.ref e0]) hf0
  have y12:=y1.trans y2
  have hL0:jg (fun a=>H a=none) (upd (upd H e0 (.lst [])) f0 (.lst [.ref e0])) [.ref e0] [[]]:=.cons ⟨e0,[],rfl,he0,y2 _ _ zc,.nil⟩ .nil
  have hf2:upd (upd H e0 (.lst [])) f0 (.lst [.ref e0]) f0=some (.lst [.ref e0]):=zc
  have fn:=y1.free hf0
  generalize upd (upd H e0 (.lst [])) f0 (.lst [.ref e0])=H2 at *
  refine⟨_,rfl,ca,rfl,⟨_,SqL.of (y12 _ _ hca)⟩,?_⟩
  refine jS (K:=K) (a:=ca) (xs:=us) (fun i σ H'=>∃(fa:Addr) (fs:List V) (v3:Option V),σ=[some (.ref ca),some (.int n),some (.ref fa),v3]/\zB H H'/\H' fa=some (.lst fs)/\H fa=none/\jg (fun a=>H a=none) H' fs ((ps.take i).foldl (Subs.Js n) [[]])/\fs.Nodup)
   ⟨f0,_,_,rfl,y12,hf2,fn,hL0,by simp⟩ (fun i σ H' _ ⟨_,_,_,_,z,_⟩=>SqL.of (z _ _ hca)) ?_ ?_
  ·rintro i x σ H3 hx ⟨fa,fs,v3,rfl,s3,hfa,fan,hL,hnd⟩
   obtain⟨c,hc,rc⟩:=Ji (qf s3 ht) hx
   have il:=(X4.mp hc).1
   have tk:ps.take (i+1)=ps.take i++[c]:=by
    rw[XJ,hc]
    rfl
   have ll:=zdA n (ps.take i) [[]]
   have lt14:(ps.take i).length<=13:=by
    rw[XQ]
    lia
   have fl:fs.length<=8192:=by
    rw[qg hL]
    refine X0 ll ?_
    rw[VP,Nat.mul_one]
    exact Wu (by decide) lt14
   have dp:=zdB n (ps.take i) [[]] 0 (by simp)
   have eF:(ps.take (i+1)).foldl (Subs.Js n) [[]]=Subs.Js n ((ps.take i).foldl (Subs.Js n) [[]]) c:=by
    rw[tk,T4]
    rfl
   generalize (ps.take i).foldl (Subs.Js n) [[]]=F at *
   refine⟨_,rfl,_,rfl,fa,rfl,⟨_,SqL.of hfa⟩,fun z hz=>?_⟩
   refine qq (K:=K) (a:=fa) (xs:=fs) (fun j σ' H'=>∃(u0:Option V) (ys:List V),σ'=[u0,some x,some (.int n)]/\zB H3 H'/\H' z=some (.lst ys)/\jg (fun a=>H3 a=none/\a≠z) H' ys (((F.take j).filter fun p=>decide (((p.length:Nat):Int)<n)).map (·++[c]))/\ys.Nodup)
    ⟨_,[],rfl,ze hz,zc,.nil,TY⟩ (fun j σ' H' _ ⟨_,_,_,z,_⟩=>SqL.of (z _ _ hfa)) ?_ ?_
   ·rintro j v σ' H4 hv ⟨u0,ys,rfl,s4,hz4,hL4,nd4⟩
    obtain⟨k,a,ws,hk,rfl,an,ha,tw⟩:=Za hL hv
    have wl:=jH tw
    have kd:=dp k (X2 hk)
    have jl:=(X4.mp hk).1
    have tj:F.take (j+1)=F.take j++[k]:=by
     rw[XJ,hk]
     rfl
    refine⟨_,rfl,a,ws,rfl,.inl (SqL.of (s4 _ _ ha)),_,rfl,_,_,rfl,rfl,_,rfl,?_⟩
    rw[wl]
    by_cases hlt:((k.length:Nat):Int)<n
    ·have e1:((F.take (j+1)).filter fun p=>decide (((p.length:Nat):Int)<n)).map (·++[c])=((F.take j).filter fun p=>decide (((p.length:Nat):Int)<n)).map (·++[c])++[k++[c]]:=by
      rw[tj,XA,Xv,Xl,if_pos (decide_eq_true hlt)]
      rfl
     rw[e1]
     refine JE (decide_eq_true hlt) ⟨_,rfl,_,rfl,(by show 1<=XU;decide),fun t1 ht1=>?_⟩
     have y5:=ze (o:=.lst [x]) ht1
     refine⟨a,t1,ws,[x],rfl,rfl,y5 _ _ (s4 _ _ ha),zc,X0 (show ws.length+1<=100 by lia) (by decide),fun t2 ht2=>?_⟩
     have y6:=ze (o:=.lst (ws++[x])) ht2
     have y56:=y5.trans y6
     have h6:upd (upd H4 t1 (.lst [x])) t2 (.lst (ws++[x])) t2=some (.lst (ws++[x])):=zc
     have tz:t2≠z:=fun e=>by
      subst e
      rw[y5 _ _ hz4] at ht2
      cases ht2
     have n4:=y5.free ht2
     have n3:=s4.free n4
     have tw6:=Qw (qf (s4.trans y56) tw) (.cons (PR.mono (s4.trans y56) rc) .nil)
     generalize upd (upd H4 t1 (.lst [x])) t2 (.lst (ws++[x]))=H6 at *
     have hz6:=y56 _ _ hz4
     have yl:ys.length<=8192:=by
      rw[qg hL4,ZB]
      have h1:=Xz (fun p:List (Int×Int)=>decide (((p.length:Nat):Int)<n)) (F.take j)
      rw[XQ] at h1
      have:=qg hL
      lia
     refine⟨ys,hz6,XH yl (by decide),_,ys++[.ref t2],rfl,fun b o e=>?_,zc,yW (yf hz6 (fun a h=>h.2) (ql y56 hL4)) (.cons ⟨t2,ws++[x],rfl,⟨n3,tz⟩,by rw[zu tz];exact h6,jk hz6 tw6⟩ .nil),?_⟩
     ·rw[zu (zj e hz)]
      exact y56 _ _ (s4 _ _ e)
     ·refine Wp.mpr ⟨nd4,by simp,fun u hu u' hu' e=>?_⟩
      obtain⟨b,wb,rfl,_,hb⟩:=yX hL4 hu
      have e2:u'=.ref t2:=by simpa using hu'
      rw[e2] at e
      cases e
      rw[hb] at n4
      cases n4
    ·have e1:((F.take (j+1)).filter fun p=>decide (((p.length:Nat):Int)<n)).map (·++[c])=((F.take j).filter fun p=>decide (((p.length:Nat):Int)<n)).map (·++[c]):=by
      rw[tj,XA,Xv,Xl,if_neg (by simpa using hlt)]
      simp
     rw[e1]
     exact xu (decide_eq_false hlt) ⟨_,ys,rfl,s4,hz4,hL4,nd4⟩
   ·rintro σ' H4 ⟨u0,ys,rfl,s4,hz4,hL4,nd4⟩
    rw[qg hL,XG] at hL4
    have yl:ys.length<=8192:=by
     rw[qg hL4,ZB]
     have h1:=Xz (fun p:List (Int×Int)=>decide (((p.length:Nat):Int)<n)) F
     have:=qg hL
     lia
    refine⟨fa,z,fs,ys,rfl,rfl,s4 _ _ hfa,hz4,X0 (S6 fl yl) (by decide),fun g hg=>?_⟩
    have y5:=ze (o:=.lst (fs++ys)) hg
    have s34:=s3.trans s4
    refine⟨g,fs++ys,_,rfl,s34.trans y5,zc,s34.free hg,?_,?_⟩
    ·rw[eF]
     exact yW (ql (s4.trans y5) hL) (ql y5 (YL (fun a h=>s3.free h.1) hL4))
    ·refine Wp.mpr ⟨hnd,nd4,fun u hu u' hu' e=>?_⟩
     obtain⟨b,wb,rfl,_,hb⟩:=yX hL hu
     obtain⟨b',wb',rfl,hb',_⟩:=yX hL4 hu'
     cases e
     rw[hb] at hb'
     cases hb'.1
  ·rintro σ H3 ⟨fa,fs,v3,rfl,s3,hfa,fan,hL,hnd⟩
   rw[ul,XG] at hL
   have ll:=zdA n ps [[]]
   have fl:fs.length<=16384:=by
    rw[qg hL]
    refine X0 ll ?_
    rw[VP,Nat.mul_one]
    exact Wu (by decide) pl
   have ep:(ps.foldl (Subs.Js n) [[]]).filter (fun p=>decide (((p.length:Nat):Int)=n))=zaz n ps:=Subs.zkp n n0 ps
   generalize ps.foldl (Subs.Js n) [[]]=F at *
   refine⟨_,rfl,fa,rfl,⟨_,SqL.of hfa⟩,fun z hz=>?_⟩
   refine qq (K:=K) (a:=fa) (xs:=fs) (fun j σ' H'=>∃(u0:Option V) (ys:List V),σ'=[u0,some (.int n)]/\zB H3 H'/\H' z=some (.lst ys)/\jg (fun a=>H a=none/\a≠z) H' ys ((F.take j).filter fun p=>decide (((p.length:Nat):Int)=n))/\ys.Sublist (fs.take j))
    ⟨_,[],rfl,ze hz,zc,.nil,RZ⟩ (fun j σ' H' _ ⟨_,_,_,z,_⟩=>SqL.of (z _ _ hfa)) ?_ ?_
   ·rintro j v σ' H4 hv ⟨u0,ys,rfl,s4,hz4,hL4,sb4⟩
    obtain⟨k,a,ws,hk,rfl,an,ha,tw⟩:=Za hL hv
    have wl:=jH tw
    have tj:F.take (j+1)=F.take j++[k]:=by
     rw[XJ,hk]
     rfl
    have tf:fs.take (j+1)=fs.take j++[.ref a]:=by
     rw[XJ,hv]
     rfl
    refine⟨_,rfl,a,ws,rfl,.inl (SqL.of (s4 _ _ ha)),_,rfl,rfl,_,rfl,?_⟩
    rw[wl,tf]
    have ed:decide (V.int ((k.length:Nat):Int)=V.int n)=decide (((k.length:Nat):Int)=n):=by simp only[V.int.injEq]
    rw[ed]
    by_cases hlt:((k.length:Nat):Int)=n
    ·have e1:((F.take (j+1)).filter fun p=>decide (((p.length:Nat):Int)=n))=((F.take j).filter fun p=>decide (((p.length:Nat):Int)=n))++[k]:=by
      rw[tj,XA,Xl,if_pos (decide_eq_true hlt)]
      rfl
     rw[e1]
     have az:a≠z:=zj ha hz
     have yl:ys.length<=16384:=by
      have:=sb4.length_le
      rw[XQ] at this
      lia
     refine JE (decide_eq_true hlt) ⟨_,rfl,ys,hz4,XH yl (by decide),_,ys++[.ref a],rfl,fun b o e=>?_,zc,yW (yf hz4 (fun a h=>h.2) hL4) (.cons ⟨a,ws,rfl,⟨an,az⟩,by rw[zu az];exact s4 _ _ ha,jk hz4 (qf s4 tw)⟩ .nil),List.Sublist.append sb4 (List.Sublist.refl _)⟩
     rw[zu (zj e hz)]
     exact s4 _ _ e
    ·have e1:((F.take (j+1)).filter fun p=>decide (((p.length:Nat):Int)=n))=((F.take j).filter fun p=>decide (((p.length:Nat):Int)=n)):=by
      rw[tj,XA,Xl,if_neg (by simpa using hlt)]
      simp
     rw[e1]
     exact xu (decide_eq_false hlt) ⟨_,ys,rfl,s4,hz4,hL4,sb4.trans (Vl _ _)⟩
   ·rintro σ' H4 ⟨u0,ys,rfl,s4,hz4,hL4,sb4⟩
    rw[qg hL,XG,ep] at hL4
    rw[XG] at sb4
    have yl:ys.length<=1000000:=X0 sb4.length_le (by lia)
    refine⟨z,ys,_,rfl,SqL.of hz4,zeH hL4,yl,fun d us' ks' hd hp' zb7 hpw hup=>?_⟩
    have y5:=ze (o:=.lst us') hd
    have s34:=s3.trans s4
    refine q d us' ks' _ (s34.free hd) zc (ql y5 (zg1 hp' fun v hv=>?_)) (hup.nodup_iff.mpr (hnd.sublist sb4)) zb7 hpw (s34.trans y5)
    obtain⟨a,ws,e,na,ha⟩:=yX hL4 (hup.mem_iff.mp hv)
    exact⟨a,e,na.1,zj ha hd⟩
end
noncomputable def ZM (rs:List Str):List (Int×Int):=(zp rs).map toI
def zck (rs:List Str)(p:List (Int×Int)):Bool:=(zms rs p).isOk
theorem znJ {H:Hp}{v:V}{y:Why}(h:zod H v y):decide (v=.non)=y.isOk:=by
 cases y with
 | ok=>exact decide_eq_true h
 | cell p=>obtain⟨a,c,rfl,_⟩:=h;rfl
 | order p=>obtain⟨a,c,rfl,_⟩:=h;rfl
 | many n=>obtain⟨a,rfl,_⟩:=h;rfl
 | num c n=>obtain⟨a,ca,rfl,_⟩:=h;rfl
def zoe:Sp:=fun vs H Q _=>∃(p l:Addr) (rs:List Str) (n:Int),vs=[.ref p]/\qj H p l rs n/\Rows bd.cps.toList rs/\(zp rs).length<=12/\0<=n /\
 ∀(d:Addr) (ws:List V) (ks:List (List (Int×Int))) (H':Hp),H d=none->H' d=some (.lst ws)->jg (fun a=>H a=none/\a≠d) H' ws ks->ws.Nodup->ks.Perm ((zaz n (ZM rs)).filter (zck rs))->ks.Pairwise (fun p q=>PySem.SeqAt.ltL q p=false)->zB H H'->Q (.ref d) H'
section
variable {P:Xy}{w:W6}{K:X8}{mg:Str->Option X9}{base:Heap}{f:Addr}{fd:XO}
theorem zaA:zQ ["board","hidden","told"] ["board"] (zg Z4):=⟨rfl,rfl,rfl,by decide +kernel,rfl,by decide +kernel,by decide +kernel⟩
theorem ziC {f1 f2 f3 f4 f5 f6 f7 f8 f9:Addr}{fd1 fd2 fd3 fd4 fd5 fd6 fd7 fd8 fd9:XO}(T:Txt mg)(D:zk K mg "layings" Z4 ["board"] f fd)(zH:zk K mg "around" jD ["board","cell"] f1 fd1)(zv:zk K mg "sign_at" qF ["board","cell"] f2 fd2)
  (zC:zk K mg "cells_of" qy ["board"] f3 fd3) (qD:zk K mg "closed" J5 ["board"] f4 fd4) (zq:zk K mg "open_cells" qt ["board"] f5 fd5) (zR:zk K mg "number_at" jr ["board","cell"] f6 fd6)
  (jJ:zk K mg "numbers_told" jE ["board"] f7 fd7) (jK:zk K mg "wrong_number" jF ["told","cells"] f8 fd8) (Q6:zk K mg "picks" YF ["cells","size"] f9 fd9):zI P w K mg base CX0 4 f fd ["board"] zoe:=by
 have Qv:zI P w K mg base CX0 2 f4 fd4 ["board"] (xN jV):=zbI T qD zC zv
 have zdC:zI P w K mg base CX0 3 f7 fd7 ["board"] zmt:=zci T jJ zH zv zC zq zR
 have zdD:zI P w K mg base CX0 1 f8 fd8 ["told","cells"] zjI:=zcj T jK
 have znK:zI P w K mg base CX0 1 f9 fd9 ["cells","size"] zjJ:=zmv T Q6
 refine D.F.ok zaA (fun vs H Q E h=>?_) (fun cdv A outer s H vs Q E hr h=>?_)
 ·obtain⟨p,l,rs,n,rfl,_⟩:=h
  rfl
 ·obtain⟨p,l,rs,n,rfl,b,R,h12,n0,q⟩:=h
  refine⟨_,(zd (zD (i:=1) zaA.nd rfl (XM rfl) (zo Qv (hr.mono (by decide)) (by rfl) qD.g qD.F.kp qD.b .nil zL (za (pv 0) zb)))
   (zd (jA (zP zi7 (zz zE (by rfl) T.qN Xh (za (pv 1) zb)) (Yp (v:=.int 12) (by rfl) T.zdP.choose_spec (by exact⟨_,rfl⟩)) (z9 _)) (zh zf0) qp)
   (zd (zD (i:=2) zaA.nd rfl (VF rfl) (zo zdC (hr.mono (by decide)) (by rfl) jJ.g jJ.F.kp jJ.b .nil zL (za (pv 0) zb)))
   (zh (zO (qd (N:=["pick","told"]) (src:=[none,some 2]) (zY.free (O:=(zg Z4).names) (XN:=["board","hidden","told"]) rfl rfl ⟨_,rfl⟩ rfl rfl (by decide +kernel) (by decide +kernel) (by decide +kernel) rfl (by decide +kernel)) rfl (zU (zo znK (hr.mono (by decide)) (by rfl) Q6.g Q6.F.kp Q6.b .nil zL (za (pv 1) (za (zZ qU (pv 0) zf (fun _ _=>rfl)) zb)))) (fun _ _ _ _ _=>(zm (i:=0) (by show Xg (["pick","told"]:List Str);decide +kernel) rfl (XM rfl))) (fun _ _ _ _ _=>(qh (zP zoz (zo zdD (hr.mono (by decide)) (by rfl) jK.g jK.F.kp jK.b .nil zL (za (pv 1) (za (pv 0) zb))) zkS (z9 _)))) (fun _ _ _ _ _=>(pv 0)))))))),?_⟩
  refine⟨_,rfl,p,l,rs,n,rfl,b,R,fun d ws H1 hd hd1 hc1 s1=>?_⟩
  have wl:ws.length<=12:=by
   rw[hc1.length]
   exact h12
  refine⟨_,rfl,d,ws,rfl,.inl (SqL.of hd1),_,_,rfl,rfl,_,rfl,?_⟩
  refine xu (decide_eq_false (by lia)) ?_
  refine⟨_,rfl,p,l,rs,n,rfl,b.mono s1,R,fun td ut H2 htd zq4 hT s2=>?_⟩
  have s12:=s1.trans s2
  have tp:=Cel.tup2 (hc1.mono s2)
  refine⟨_,rfl,_,rfl,p,_,1,_,rfl,rfl,SqT.of (b.mono s12).tp,rfl,d,ws,ZM rs,n,rfl,s2 _ _ hd1,tp,?_,n0,fun pa fs F H3 hpa zqq hL hnd hpm hpw s3=>?_⟩
  ·show ((zp rs).map toI).length<=14
   rw[ZB]
   lia
  have s13:=s12.trans s3
  have fl:fs.length<=16384:=by
   rw[qg hL,hpm.length_eq]
   unfold zaz
   refine X0 (Xz _ _) ?_
   rw[Subs.yq,ZB,WL]
   have e:(ZM rs).length<=14:=by
    show ((zp rs).map toI).length<=14
    rw[ZB]
    lia
   exact Wu (by decide) e
  refine⟨pa,rfl,⟨_,SqL.of zqq⟩,fun z hz=>?_⟩
  refine qq (K:=K) (a:=pa) (xs:=fs) (fun j σ' H'=>∃(u0:Option V) (ys:List V),σ'=[u0,some (.ref td)]/\zB H3 H'/\H' z=some (.lst ys)/\jg (fun a=>H a=none/\a≠z) H' ys ((F.take j).filter (zck rs))/\ys.Sublist (fs.take j))
   ⟨_,[],rfl,ze hz,zc,.nil,RZ⟩ (fun j σ' H' _ ⟨_,_,_,z,_⟩=>SqL.of (z _ _ zqq)) ?_ ?_
  ·rintro j v σ' H4 hv ⟨u0,ys,rfl,s4,hz4,hL4,sb4⟩
   obtain⟨k,a,us,hk,rfl,an,ha,tw⟩:=Za hL hv
   have tj:F.take (j+1)=F.take j++[k]:=by
    rw[XJ,hk]
    rfl
   have tf:fs.take (j+1)=fs.take j++[.ref a]:=by
    rw[XJ,hv]
    rfl
   have s34:=s3.trans s4
   refine⟨_,rfl,_,rfl,td,a,ut,us,rs,k,rfl,s34 _ _ zq4,zdz s34 hT,R,s4 _ _ ha,qf s4 tw,fun v H5 s5 hw=>⟨rfl,_,rfl,?_⟩⟩
   rw[znJ hw,tf]
   have hz5:=s5 _ _ hz4
   by_cases hlt:zck rs k=true
   ·have e1:((F.take (j+1)).filter (zck rs))=((F.take j).filter (zck rs))++[k]:=by
     rw[tj,XA,Xl,if_pos hlt]
     rfl
    rw[e1]
    have az:a≠z:=zj ha hz
    have yl:ys.length<=16384:=by
     have:=sb4.length_le
     rw[XQ] at this
     lia
    refine JE hlt ⟨_,rfl,ys,hz5,XH yl (by decide),_,ys++[.ref a],rfl,fun b o e=>?_,zc,yW (yf hz5 (fun a h=>h.2) (ql s5 hL4)) (.cons ⟨a,us,rfl,⟨s12.free an.1,az⟩,by rw[zu az];exact s5 _ _ (s4 _ _ ha),jk hz5 (qf (s4.trans s5) tw)⟩ .nil),List.Sublist.append sb4 (List.Sublist.refl _)⟩
    rw[zu (zj e hz)]
    exact s5 _ _ (s4 _ _ e)
   ·have e1:((F.take (j+1)).filter (zck rs))=((F.take j).filter (zck rs)):=by
     rw[tj,XA,Xl,if_neg hlt]
     simp
    rw[e1]
    exact xu (Xc.mpr hlt) ⟨_,ys,rfl,s4.trans s5,hz5,ql s5 hL4,sb4.trans (Vl _ _)⟩
  ·rintro σ' H4 ⟨u0,ys,rfl,s4,hz4,hL4,sb4⟩
   rw[qg hL,XG] at hL4
   rw[XG] at sb4
   exact q z ys _ H4 (s13.free hz) hz4 hL4 (hnd.sublist sb4) (hpm.filter _) (hpw.filter _) (s13.trans s4)
end
end LY
noncomputable def nV (xs:List Nat):List V:=xs.map fun k=>V.int ((k:Nat):Int)
def zmw:Sp:=fun vs H Q _=>∃m:Nat,vs=[.int (m:Nat)]/\m<=14/\∀(d:Addr) (H':Hp),H' d=some (.lst (nV (Subs.ones m)))->zB H H'->Q (.ref d) H'
def zmx:Sp:=fun vs H Q _=>∃(l ca cell:Addr) (us:List V) (rs:List Str) (cs:List (Nat×Nat)) (c:Nat×Nat),vs=[.ref l,.ref ca,.ref cell]/\H l=some (.lst (rs.map V.str))/\Rows bd.cps.toList rs/\H ca=some (.lst us)/\Cel H us cs/\cs.length<=64/\H cell=some (.tup [.int (c.1:Nat),.int (c.2:Nat)])/\c.1<64/\c.2<64 /\
 ∀H':Hp,zB H H'->Q (.int (Subs.mk (cs.map (nearF rs c)):Nat)) H'
section
variable {P:Xy}{w:W6}{K:X8}{mg:Str->Option X9}{base:Heap}{f:Addr}{fd:XO}
theorem Zy:zQ ["_law_many","_law_ones_here","_law_k"] ["_law_many"] (zg YG):=⟨rfl,rfl,rfl,by decide +kernel,rfl,by decide +kernel,by decide +kernel⟩
theorem zhm (T:Txt mg)(D:zk K mg "_law_ones" YG ["_law_many"] f fd):zI P w K mg base CX0 1 f fd ["_law_many"] zmw:=by
 refine D.F.ok Zy (fun vs H Q E h=>?_) (fun cdv A outer s H vs Q E hr h=>?_)
 ·obtain⟨m,rfl,_⟩:=h
  rfl
 ·obtain⟨m,rfl,hm,q⟩:=h
  refine⟨_,(zd (zD (i:=1) Zy.nd rfl (XM rfl) (qu (za zf zb)))
   (zd (qA Xd rfl (qR (by rfl) T.ji (za (pv 0) zb)) (zm (i:=2) Zy.nd rfl (XM rfl)) (zh (zD (i:=1) Zy.nd rfl (XM rfl) (zG zam (pv 1) (qd (N:=["_law_one"]) (src:=[none]) (zY.plain rfl (by decide +kernel) (by decide +kernel) (by decide +kernel) rfl (by decide)) rfl (zU (pv 1)) (fun _ _ _ _ _=>(zm (i:=0) (by show Xg (["_law_one"]:List Str);decide +kernel) rfl (XM rfl))) (fun _ _ _ _ _=>qL) (fun _ _ _ _ _=>(zG qT (pv 0) zf)))))))
   (zh (zO (pv 1))))),?_⟩
  refine⟨(by show 1<=XU;decide),fun f0 hf0=>?_⟩
  refine⟨_,rfl,_,rfl,by lia,by lia,?_⟩
  rw[WV]
  refine ja (lo:=0) (n:=m) (fun i σ H'=>∃(fa:Addr) (v2:Option V),σ=[some (.int (m:Nat)),some (.ref fa),v2]/\zB H H'/\H' fa=some (.lst (nV (Subs.ones i)))) ⟨f0,_,rfl,ze hf0,zc⟩ ?_ ?_
  ·rintro i σ H1 hi ⟨fa,v2,rfl,s1,hfa⟩
   have ol:(Subs.ones i).length<=16384:=by
    rw[Subs.zgC]
    exact Wu (by decide) (show i<=14 by lia)
   have vl:(nV (Subs.ones i)).length=(Subs.ones i).length:=ZB _
   refine⟨_,rfl,_,rfl,fa,rfl,⟨_,SqL.of hfa⟩,fun z hz=>?_⟩
   refine qq (K:=K) (a:=fa) (xs:=nV (Subs.ones i)) (fun j σ' H'=>∃(u0:Option V),σ'=[u0]/\zB H1 H'/\H' z=some (.lst (nV (((Subs.ones i).take j).map (· + 1)))))
    ⟨_,rfl,ze hz,zc⟩ (fun j σ' H' _ ⟨_,_,z,_⟩=>SqL.of (z _ _ hfa)) ?_ ?_
   ·rintro j v σ' H2 hv ⟨u0,rfl,s2,hz2⟩
    obtain⟨k,hk,rfl⟩:∃k,(Subs.ones i)[j]?=some k/\v=.int ((k:Nat):Int):=by
     unfold nV at hv
     rw[XE] at hv
     cases e:(Subs.ones i)[j]? with
     | none=>rw[e] at hv;cases hv
     | some k =>
      rw[e] at hv
      cases hv
      exact⟨k,rfl,rfl⟩
    have jl:=(X4.mp hk).1
    unfold Q9
    refine zat ?_
    refine⟨_,rfl,_,_,rfl,rfl,_,hz2,?_,_,rfl,fun b o e=>?_,?_⟩
    ·show (nV _).length<_
     unfold nV
     rw[ZB,ZB,XQ]
     exact XH (show _<=16384 by lia) (by decide)
    ·rw[zu (zj e hz)]
     exact s2 _ _ e
    ·rw[zc,XJ,hk]
     unfold nV
     simp[Xv]
   ·rintro σ' H2 ⟨u0,rfl,s2,hz2⟩
    rw[vl,XG] at hz2
    refine⟨fa,z,_,_,rfl,rfl,s2 _ _ hfa,hz2,?_,fun g hg=>?_⟩
    ·rw[vl]
     refine X0 (S6 ol (show _<=16384 from ?_)) (by decide)
     unfold nV
     rw[ZB,ZB]
     exact ol
    refine⟨g,_,rfl,(s1.trans s2).trans (ze hg),?_⟩
    rw[zc]
    show _=some (HO.lst (nV (Subs.ones i++(Subs.ones i).map (· + 1))))
    unfold nV
    rw[Xv]
  ·rintro σ H1 ⟨fa,v2,rfl,s1,hfa⟩
   exact⟨_,rfl,q fa H1 hfa s1⟩
theorem zca:zQ ["_law_rows_here","_law_cells_here","_law_cell","_law_near_here"] ["_law_rows_here","_law_cells_here","_law_cell"] (zg J6):=⟨rfl,rfl,rfl,by decide +kernel,rfl,by decide +kernel,by decide +kernel⟩
theorem zhn {f1 f2:Addr}{fd1 fd2:XO}(T:Txt mg)(D:zk K mg "_law_mask" J6 ["_law_rows_here","_law_cells_here","_law_cell"] f fd)(qk:zk K mg "_law_near" yd ["_law_cell","_law_high","_law_wide"] f1 fd1)(yy:zk K mg "_law_around" yu ["_law_rows_here","_law_cell"] f2 fd2):zI P w K mg base CX0 3 f fd ["_law_rows_here","_law_cells_here","_law_cell"] zmx:=by
 have zfJ:zI P w K mg base CX0 2 f2 fd2 ["_law_rows_here","_law_cell"] (zeC zK):=zdS T yy qk
 refine D.F.ok zca (fun vs H Q E h=>?_) (fun cdv A outer s H vs Q E hr h=>?_)
 ·obtain⟨l,ca,cell,us,rs,cs,c,rfl,_⟩:=h
  rfl
 ·obtain⟨l,ca,cell,us,rs,cs,c,rfl,hl,R,hca,hcs,cl,hcell,c1,c2,q⟩:=h
  have ul:=hcs.length
  refine⟨_,(zd (zD (i:=3) zca.nd rfl (VF rfl) (zo zfJ (hr.mono (by decide)) (by rfl) yy.g yy.F.kp yy.b .nil zL (za (pv 0) (za (pv 2) zb))))
   (zh (zO (zz (zgc rfl) (by rfl) T.zn6 PL (za (qd (N:=["_law_k","_law_near_here","_law_cells_here"]) (src:=[none,some 3,some 1]) (zY.free (O:=(zg J6).names) (XN:=["_law_rows_here","_law_cells_here","_law_cell","_law_near_here"]) rfl rfl ⟨_,rfl⟩ rfl rfl (by decide +kernel) (by decide +kernel) (by decide +kernel) rfl (by decide +kernel)) rfl (qR (by rfl) T.ji (za (zz zE (by rfl) T.qN Xh (za (pv 1) zb)) zb)) (fun _ _ _ _ _=>(zm (i:=0) (by show Xg (["_law_k","_law_near_here","_law_cells_here"]:List Str);decide +kernel) rfl (XM rfl))) (fun _ _ _ _ _=>(qh (zP (jL (K:=K) (by rfl) hr.units) (zZ (ZP (K:=K) (by rfl)) (pv 2) (pv 0) (fun _ _=>rfl)) (pv 1) (by rfl)))) (fun _ _ _ _ _=>(zG zkY zf (pv 0)))) zb))))),?_⟩
  refine⟨_,rfl,_,rfl,l,cell,rs,c,rfl,hl,R,hcell,c1,c2,fun dn wn H1 hdn zq5 hcn s1=>?_⟩
  refine⟨_,rfl,ca,us,rfl,.inl (SqL.of (s1 _ _ hca)),_,rfl,by lia,by lia,fun z hz=>?_⟩
  rw[WV,ul]
  refine JW (lo:=0) (n:=cs.length) (fun j σ' H'=>∃(u0:Option V),σ'=[u0,some (.ref dn),some (.ref ca)]/\zB H1 H'/\H' z=some (.lst ((((W9 j).filter fun k=>(cs.map (nearF rs c)).getD k false).map fun k=>(2:Int)^k).map V.int)))
   ⟨_,rfl,ze hz,zc⟩ ?_ ?_
  ·rintro j σ' H2 hj ⟨u0,rfl,s2,hz2⟩
   have hv:us[j]?=some (us[j]'(by lia)):=X7 (by lia)
   obtain⟨e,he,rc⟩:=Cel.get (hcs.mono (s1.trans s2)) hv
   have eg:(cs.map (nearF rs c)).getD j false=nearF rs c e:=by
    rw[WX,XE,he]
    rfl
   refine⟨_,rfl,_,rfl,ca,_,_,_,rfl,rfl,SqL.of (s2 _ _ (s1 _ _ hca)),jx (by lia) (by rw[show ((0:Int)+(j:Int)).toNat=j by lia];exact hv),_,rfl,zx e,(zK rs c).map zx,rc.rdv,.lst (SqL.of (s2 _ _ zq5)) (zib (hcn.mono s2)),rfl,zfp _,(by show 1<=60;decide),_,rfl,?_⟩
   have ei:(if false=true then !((zK rs c).map zx).any (fun z=>W2 z (zx e)) else ((zK rs c).map zx).any fun z=>W2 z (zx e))=nearF rs c e:=J9 _ _
   rw[ei]
   have er:(W9 (j+1)).filter (fun k=>(cs.map (nearF rs c)).getD k false)=(W9 j).filter (fun k=>(cs.map (nearF rs c)).getD k false)++(if nearF rs c e=true then [j] else []):=by
    rw[Tz,XA,Xl,eg]
    rfl
   rw[er]
   by_cases hp:nearF rs c e=true
   ·rw[if_pos hp]
    refine JE hp ⟨_,rfl,_,_,rfl,rfl,⟨by lia,by lia,by decide⟩,_,hz2,?_,_,rfl,fun b o e=>?_,?_⟩
    ·rw[ZB,ZB]
     have:=Xz (fun k=>(cs.map (nearF rs c)).getD k false) (W9 j)
     rw[WL] at this
     exact XH (show _<=64 by lia) (by decide)
    ·rw[zu (zj e hz)]
     exact s2 _ _ e
    ·rw[zc,Xv,Xv]
     have e9:V.int (1*2^((0:Int)+(j:Int)).toNat)=V.int (2^j):=by
      rw[show ((0:Int)+(j:Int)).toNat=j by lia,OG]
     exact congrArg (fun x=>some (HO.lst (_++[x]))) e9
   ·rw[if_neg hp]
    refine xu (Xc.mpr hp) ⟨_,rfl,s2,?_⟩
    rw[W4]
    exact hz2
  ·rintro σ' H2 ⟨u0,rfl,s2,hz2⟩
   refine⟨z,_,rfl,SqL.of hz2,?_⟩
   have e:=Subs.zlN (cs.map (nearF rs c)) 0
   rw[ZB] at e
   simp only[V9,Int.pow_zero,OG] at e
   rw[e]
   exact q _ (s1.trans s2)
end
theorem zI.imp {P:Xy}{w:W6}{K:X8}{mg:Str->Option X9}{base:Heap}{CX:CXT}{k:Nat}{f:Addr}{fd:XO}{ps:List Str}{sp sp':Sp}(F:zI P w K mg base CX k f fd ps sp)(h:∀vs H Q E,sp' vs H Q E->sp vs H Q E):zI P w K mg base CX k f fd ps sp' :=
 ⟨fun vs H Q E z=>F.len _ _ _ _ (h vs H Q E z),fun A outer s H args us vs Q E hr e0 hb r z=>F.run A outer s H args us vs Q E hr e0 hb r (h vs H Q E z)⟩
theorem zpm (gs:List (List Nat))(i j:Nat):(za6 gs i j).length<=8:=by
 refine(((yV (Cells.xG tt1 0 gs)).sublist Ww).length_le_of_subset (l₂:=[(i-1,j-1),(i-1,j),(i-1,j+1),(i,j-1),(i,j+1),(i+1,j-1),(i+1,j),(i+1,j+1)]) fun x hx=>?_)
 obtain⟨a,b⟩:=x
 obtain⟨⟨h1,h2⟩,⟨h3,h4⟩,h5⟩:=(Cells.yb _ _).mp (XX.mp hx).2
 simp only[O0] at h1 h2 h3 h4 h5
 simp only[XB,O0,VH,or_false]
 lia
theorem zd1 {gs:List (List Nat)}{n i j:Nat}(hn:∀u∈gs,u.length=n){c:Nat×Nat}(h:c∈za6 gs i j):c.1<gs.length/\c.2<n:=by
 obtain⟨k,j',t,y,rfl,ht,hy,_⟩:=Cells.xF (XX.mp h).1
 have h1:=(X4.mp ht).1
 have h2:=(X4.mp hy).1
 rw[hn t (X2 ht)] at h2
 exact⟨by show 0+k<_;lia,h2⟩
theorem zqr {vs:List V}{H:Hp}{Q:VK}{E:XK}(h:zjx vs H Q E):zda vs H Q E:=by
 obtain⟨ca,i,j,hi,wi,rfl,hc,h1,h2,h3,h4,q⟩:=h
 have hn:∀u∈WF hi.toNat (WF wi.toNat 0),u.length=wi.toNat:=fun u hu=>by
  rw[(List.mem_replicate.mp hu).2,Vr]
 refine⟨ca,i,j,_,_,?_,hc,?_,?_,?_,?_,hn,fun d ws H' hd hd' zq6 s=>q d ws _ H' hd hd' zq6 (fun c hcm=>?_) (zpm _ _ _) s⟩
 ·rw[Vr,Vw (by lia),Vw (by lia)]
 ·rw[Vr]
  lia
 ·lia
 ·lia
 ·lia
 ·obtain⟨a1,a2⟩:=zd1 hn hcm
  rw[Vr] at a1
  exact⟨by lia,by lia⟩
def isO (t:Str):Bool:=decide (t=⟨#[63]⟩) || decide (t=⟨#[111]⟩)
noncomputable def Ye (ts:List Str):Nat:=ts.countP isO
noncomputable def JO (t:Str):Nat:=t.cps.toList.countP jV
theorem zpn:∀k∈zdR,(!(VY ("o?":Str) ⟨#[k]⟩ 0 ("o?":Str).length 1).isEmpty)=isO ⟨#[k]⟩:=by decide +kernel
theorem zho (ts us:List Str):Ye (ts++us)=Ye ts+Ye us:=Vn
theorem zbW (ts:List Str)(t:Str):Ye (ts++[t])=Ye ts+if isO t=true then 1 else 0:=by
 rw[zho]
 congr 1
 unfold Ye
 rw[WH,PY,V9]
theorem zkI (ts:List Str)(n:Nat):Ye (ts.take n)<=Ye ts:=(UR n ts).countP_le
theorem zbz {α:Type}(ts:List α)(a b:Nat):ts.take (a+b)=ts.take a++(ts.drop a).take b:=by
 rw[List.take_add]
theorem Qq (t:Str)(k:Nat):JO (t++⟨#[k]⟩)=JO t+if jV k=true then 1 else 0:=by
 unfold JO
 rw[zaq,Vn]
 congr 1
 show Sx jV [k]=_
 rw[WH,PY,V9]
theorem zqs:∀k∈zdR,isO ⟨#[k]⟩=jV (if k=111 then 63 else k):=by decide +kernel
theorem zq7 {d:Nat}(h:d<9):jV (48+d)=false:=by
 have:∀d:Nat,d<9->jV (48+d)=false:=by decide
 exact this d h
theorem zpo {i:Int}(h0:0<=i)(h1:i<9):∃c,atI ("012345678":Str).cps.toList i=some c/\c∈bd.cps.toList/\jV c=false:=by
 have hl:("012345678":Str).cps.toList.length=9:=by decide +kernel
 have hm:∀c∈("012345678":Str).cps.toList,c∈bd.cps.toList/\jV c=false:=by decide +kernel
 have h2:i.toNat<("012345678":Str).cps.toList.length:=by lia
 exact⟨_,jx h0 (X7 h2),hm _ (U3 h2)⟩
theorem sum_set:∀{rs:List Str} {i:Nat} {t u:Str},rs[i]?=some t->JO u<=JO t->((rs.set i u).map JO).sum<=(rs.map JO).sum
 | [],_,_,_,h,_=>by simp at h
 | r::rs,0,t,u,h,hc=>by
  simp at h
  subst h
  show JO u+(rs.map JO).sum<=JO r+(rs.map JO).sum
  lia
 | r::rs,i+1,t,u,h,hc=>by
  have:=sum_set (rs:=rs) (i:=i) (by simpa using h) hc
  show JO r+((rs.set i u).map JO).sum<=JO r+(rs.map JO).sum
  lia
theorem zmy {s:List Nat}{n j c:Nat}{t:Str}(r:Row s n t)(hj:j<n)(hc:jV c=false):JO (JY t none (some (j:Int))++⟨#[c]⟩++JY t (some ((j:Int)+1)) none)<=JO t:=by
 have te:t.length=n:=r.len
 have tl:t.cps.toList.length=n:=by
  rw[X6]
  exact r.len
 have e1:(JY t none (some (j:Int))).cps.toList=t.cps.toList.take j:=by
  have e:HT.sIx t.length t.length (some (j:Int))=j:=by
   rw[HT.QT]
   lia
  unfold JY
  rw[e]
  show ((t.cps.toList.drop 0).take (j-0)).toArray.toList=_
  simp
 have e2:(JY t (some ((j:Int)+1)) none).cps.toList=t.cps.toList.drop (j+1):=by
  have e:HT.sIx t.length 0 (some ((j:Int)+1))=j+1:=by
   have:=HT.QT t.length 0 (j+1)
   rw[UV] at this
   rw[show ((j:Int)+1)=(j:Int)+((1:Nat):Int) from rfl,this]
   lia
  unfold JY
  rw[e]
  show ((t.cps.toList.drop (j+1)).take (t.length-(j+1))).toArray.toList=_
  rw[TM,W8 (by rw[We];lia)]
 unfold JO
 rw[zaq,zaq,e1,e2,Vn,Vn]
 have e3:Sx jV (⟨#[c]⟩:Str).cps.toList=0:=by
  show Sx jV [c]=0
  rw[WH,hc]
  rfl
 rw[e3,TW,<- Vn]
 refine List.Sublist.countP_le ?_
 have e4:t.cps.toList=t.cps.toList.take j++t.cps.toList.drop j:=(WR j _).symm
 conv=>rhs;rw[e4]
 refine List.Sublist.append (List.Sublist.refl _) ?_
 rw[show t.cps.toList.drop (j+1)=(t.cps.toList.drop j).drop 1 by rw[R7]]
 exact SW _ _
theorem zjK (p:Nat->Bool)(i:Nat):∀(j:Nat) (cs:List Nat),(Cells.qa p i j cs).length=cs.countP p
 | _,[]=>rfl
 | j,c::r=>by
  show ((if p c=true then [(i,j)] else [])++Cells.qa p i (j+1) r).length=_
  rw[XZ,zjK p i (j+1) r,WH]
  split
  ·exact Nat.add_comm _ _
  ·exact V9 _
theorem zjL (p:Nat->Bool):∀(i:Nat) (gs:List (List Nat)),(Cells.zV p i gs).length=(gs.map fun g=>g.countP p).sum
 | _,[]=>rfl
 | i,g::r=>by
  show (Cells.qa p i 0 g++Cells.zV p (i+1) r).length=g.countP p+(r.map fun g=>g.countP p).sum
  rw[XZ,zjK,zjL p (i+1) r]
theorem zmz (rs:List Str):(zp rs).length=(rs.map JO).sum:=by
 unfold zp
 rw[zjL]
 unfold codes
 rw[WD]
 rfl
def zeT (K:X8):Sp:=fun vs H Q _=>∃(a:Addr) (ns:List Int) (n m:Int),vs=[.ref a,.int n,.int m]/\SqL K H a (ns.map V.int)/\0<=n/\n<=64/\0<=m /\
 ∀(l:Addr) (ts:List Str) (H':Hp),H l=none->H' l=some (.lst (ts.map V.str))->zl0 ts n.toNat->((Ye ts:Nat):Int)<=m->zB H H'->Q (.ref l) H'
def zhp:Sp:=fun vs H Q _=>∃(l:Addr) (ts:List Str) (hi wi:Int),vs=[.ref l,.int hi,.int wi]/\H l=some (.lst (ts.map V.str))/\zl0 ts (hi*wi).toNat/\1<=hi/\hi<=8/\1<=wi/\wi<=8 /\
 ∀(d:Addr) (rs:List Str) (H':Hp),H d=none->H' d=some (.lst (rs.map V.str))->rs.length=hi.toNat->(∀t∈rs,Row bd.cps.toList wi.toNat t)->(rs.map JO).sum<=Ye ts->zB H H'->Q (.ref d) H'
def zhq:Sp:=fun vs H Q _=>∃(l:Addr) (rs:List Str) (n:Nat) (c:Int),vs=[.ref l,.int c]/\H l=some (.lst (rs.map V.str))/\1<=rs.length/\rs.length<=8/\1<=n/\n<=8/\(∀t∈rs,Row bd.cps.toList n t) /\
 ∀(d:Addr) (rs':List Str) (H':Hp),H' d=some (.lst (rs'.map V.str))->rs'.length=rs.length->(∀t∈rs',Row bd.cps.toList n t)->(rs'.map JO).sum<=(rs.map JO).sum->zB H H'->Q (.ref d) H'
def zeU (K:X8):Sp:=fun vs H Q _=>∃(a:Addr) (ns:List Int) (hi wi m:Int),vs=[.ref a,.int hi,.int wi,.int m]/\SqL K H a (ns.map V.int)/\1<=hi/\hi<=8/\1<=wi/\wi<=8/\0<=m /\
 ∀(p l:Addr) (rs:List Str) (n:Int) (H':Hp),H p=none->qj H' p l rs n->Rows bd.cps.toList rs->0<=n->n<=64->(((zp rs).length:Nat):Int)<=m->zB H H'->Q (.ref p) H'
section
variable {P:Xy}{w:W6}{K:X8}{mg:Str->Option X9}{base:Heap}{f:Addr}{fd:XO}
theorem zd2 {f1 f2:Addr}{fd1 fd2:XO}(T:Txt mg)(D:zk K mg "_law_signs" Jc ["_law_script","_law_places","_law_most"] f fd)(zw:zk K mg "_law_cell_at" jX ["_law_script","_law_k"] f1 fd1)(yg:zk K mg "_law_sign" xJ ["_law_way","_law_cell","_law_turn"] f2 fd2) :
  zI P w K mg base CX0 2 f fd ["_law_script","_law_places","_law_most"] (zeT K):=by
 have qw:zI P w K mg base CX0 1 f1 fd1 ["_law_script","_law_k"] (zfn K):=J7 T zw
 have ziD:zI P w K mg base CX0 1 f2 fd2 ["_law_way","_law_cell","_law_turn"] zjw:=zgT T yg
 refine D.F.ok qE (fun vs H Q E h=>?_) (fun cdv A outer s H vs Q E hr h=>?_)
 ·obtain⟨a,ns,n,m,rfl,_⟩:=h
  rfl
 ·obtain⟨a,ns,n,m,rfl,hS,n0,n1,m0,q⟩:=h
  refine⟨_,(zd (zD (i:=3) qE.nd rfl (XM rfl) (zG jB (zo qw (hr.mono (by decide)) (by rfl) zw.g zw.F.kp zw.b .nil zL (za (pv 0) (za zf zb))) zf))
   (zd (zD (i:=4) qE.nd rfl (XM rfl) (zG jB (zo qw (hr.mono (by decide)) (by rfl) zw.g zw.F.kp zw.b .nil zL (za (pv 0) (za zf zb))) zf))
   (zd (zD (i:=5) qE.nd rfl (XM rfl) (qu zb))
   (zd (zD (i:=6) qE.nd rfl (XM rfl) zf)
   (zd (qA Xd rfl (qR (by rfl) T.ji (za (pv 1) zb)) (zm (i:=7) qE.nd rfl (XM rfl)) (zd (zD (i:=8) qE.nd rfl (XM rfl) (zo qw (hr.mono (by decide)) (by rfl) zw.g zw.F.kp zw.b .nil zL (za (pv 0) (za (zG qT zf (zG jB (pv 7) zf)) zb))))
   (zd (zD (i:=4) qE.nd rfl (XM rfl) (zG jB (zG qT (zG qT (zG Zn (pv 4) zf) (pv 8)) (pv 7)) zf))
   (zd (zD (i:=9) qE.nd rfl (XM rfl) (zo ziD (hr.mono (by decide)) (by rfl) yg.g yg.F.kp yg.b .nil zL (za (pv 3) (za (zG jT (pv 8) (zZ qS (qu (za zf (za zf zb))) (zG jT (pv 7) zf) (fun _ _=>rfl))) (za (zG jT (zG jB (zG Zn (pv 4) zf) zf) zf) zb)))))
   (zjb (jA (PW.pt (zhC (zP QS (pv 9) jw (by rfl)) (ze0 (zP Jq (pv 6) (pv 2) (z9 _))))) (zh (zD (i:=9) qE.nd rfl (XM rfl) jw)) qp)
   (zd (zD (i:=6) qE.nd rfl (XM rfl) (zG qT (pv 6) (jb zbq (by rfl) T.zc4 VO (za (Zm QS (pv 9) jw (by rfl)) zb))))
   (zh (yk (Jr WY Wt Ws jj (pv 5) (za (pv 9) zb))))))))))
   (zh (zO (pv 5)))))))),?_⟩
  refine⟨_,rfl,a,ns,_,rfl,hS,by decide,fun c0=>⟨_,_,rfl,rfl,(by show (0:Int)<4;decide),?_⟩⟩
  refine⟨_,rfl,a,ns,_,rfl,hS,by decide,fun c1=>⟨_,_,rfl,rfl,(by show (0:Int)<2147483647;decide),?_⟩⟩
  refine⟨(by show 0<=XU;decide),fun l hl=>?_⟩
  have s0:zB H (upd H l (.lst [])):=ze hl
  refine⟨_,rfl,n,rfl,by lia,by lia,?_⟩
  refine ja (lo:=0) (n:=n.toNat) (fun i σ H'=>∃(x y:Int) (v7 v8 v9:Option V) (ts:List Str),σ=[some (.ref a),some (.int n),some (.int m),some (.int (c0%4)),some (.int x),some (.ref l),some (.int y),v7,v8,v9]/\zB H H'/\H' l=some (.lst (ts.map V.str))/\zl0 ts i/\y=((Ye ts:Nat):Int)/\y<=m)
   ⟨_,_,_,_,_,[],rfl,s0,zc,⟨rfl,(fun _ h=>nomatch h)⟩,rfl,m0⟩ ?_ ?_
  ·rintro i σ H1 hi ⟨x,y,v7,v8,v9,ts,rfl,s1,hl1,hts,hy,hym⟩
   have k0:=Vu (0+(i:Int)) (show (60:Int)≠0 by decide)
   refine⟨_,rfl,_,rfl,_,_,rfl,rfl,(by show (0:Int)<60;decide),_,_,rfl,rfl,a,ns,_,rfl,s1.seq hS,by lia,fun c=>?_⟩
   refine⟨_,rfl,_,_,rfl,rfl,zoJ (by decide) (by decide),_,rfl,_,_,rfl,rfl,_,rfl,_,_,rfl,rfl,_,_,rfl,rfl,(by show (0:Int)<2147483647;decide),?_⟩
   refine⟨_,rfl,_,rfl,(by show 2<=XU;decide),fun p hp=>?_⟩
   have s2:=ze (o:=.lst [.int 1,.int 12]) hp
   have pk:∃d:Int,atI [V.int 1,V.int 12] ((0+(i:Int))/60)=some (.int d)/\0<d/\d<1073741824:=by
    have:(0+(i:Int))/60=0\/(0+(i:Int))/60=1:=by lia
    rcases this with e | e<;>rw[e]
    ·exact⟨1,rfl,by decide,by decide⟩
    ·exact⟨12,rfl,by decide,by decide⟩
   obtain⟨d,hd,d0,d1⟩:=pk
   refine⟨_,rfl,_,_,rfl,rfl,JU.small (by decide) (by decide),p,_,_,_,rfl,rfl,SqL.of zc,hd,_,_,rfl,rfl,JU.small d0 d1,?_⟩
   refine⟨_,rfl,_,_,rfl,rfl,zoJ (by decide) (by decide),_,_,rfl,rfl,(by show (0:Int)<2147483629;decide),_,_,rfl,rfl,JU.small (by decide) (by decide),_,_,_,rfl,fun k H3 hk s3=>?_⟩
   have s23:=s2.trans s3
   refine⟨fun σ' H'=>∃k',k'∈zdR/\(isO ⟨#[k']⟩=true->y<m)/\σ'=[some (.ref a),some (.int n),some (.int m),some (.int (c0%4)),some (.int ((x*48271+c+(0+(i:Int)))%2147483647)),some (.ref l),some (.int y),some (.int (0+(i:Int))),some (.int c),some (.str ⟨#[k']⟩)]/\H'=H3,?_,?_⟩
   ·refine⟨_,rfl,_,_,rfl,rfl,_,rfl,zcf (fun _=>?_) (fun h1=>?_)⟩
    ·refine⟨_,rfl,_,rfl,rfl,_,rfl,zcf (fun _=>?_) (fun h2=>?_)⟩
     ·refine⟨35,by decide,(fun z=>absurd z (by decide)),?_,rfl⟩
      have e:("#":Str)=⟨#[35]⟩:=by decide +kernel
      rw[<- e]
      rfl
     ·refine⟨k,hk,fun _=>?_,rfl,rfl⟩
      have:y≠m:=fun z=>h2 (by rw[z];exact decide_eq_true rfl)
      lia
    ·refine⟨k,hk,fun z=>?_,rfl,rfl⟩
     rw[zpn k hk] at h1
     exact absurd z h1
   rintro σ' H4 ⟨k',hk',hko,rfl,rfl⟩
   refine⟨_,rfl,_,rfl,_,_,rfl,rfl,.inr ⟨_,rfl,_,_,rfl,rfl,?_⟩⟩
   have hl3:=s23 _ _ hl1
   refine⟨_,rfl,.inl ⟨rfl,_,SqL.of hl3⟩,_,rfl,l,_,_,rfl,rfl,hl3,?_,?_⟩
   ·rw[ZB,hts.len]
    exact Xn (show i<65 by lia) (by decide)
   ·refine⟨_,_,_,_,_,ts++[⟨#[k']⟩],rfl,fun b o e=>?_,?_,⟨?_,?_⟩,?_,?_⟩
    ·rw[zu (zj e hl)]
     exact s23 _ _ (s1 b o e)
    ·rw[zc,Xv]
     rfl
    ·rw[XZ,hts.len]
     rfl
    ·intro u hu
     rcases XI.mp hu with hu | hu
     ·exact hts.mem u hu
     ·exact⟨k',hk',by simpa using hu⟩
    ·rw[zpn k' hk',zbW,hy]
     cases isO ⟨#[k']⟩<;>rfl
    ·rw[zpn k' hk']
     cases e:isO ⟨#[k']⟩ with
     | true =>
      have:=hko e
      show y+1<=m
      lia
     | false =>
      show y+0<=m
      lia
  ·rintro σ H1 ⟨x,y,v7,v8,v9,ts,rfl,s1,hl1,hts,hy,hym⟩
   exact⟨_,rfl,q l ts H1 hl hl1 hts (by rw[<- hy];exact hym) s1⟩
theorem zfK {f1:Addr}{fd1:XO}(T:Txt mg)(D:zk K mg "_law_rows" xK ["_law_signs_here","_law_high","_law_wide"] f fd)(qk:zk K mg "_law_near" yd ["_law_cell","_law_high","_law_wide"] f1 fd1):zI P w K mg base CX0 2 f fd ["_law_signs_here","_law_high","_law_wide"] zhp:=by
 have zar:zI P w K mg base CX0 1 f1 fd1 ["_law_cell","_law_high","_law_wide"] zjx:=zI.imp (za7 T qk) fun _ _ _ _=>zqr
 refine D.F.ok qP (fun vs H Q E h=>?_) (fun cdv A outer s H vs Q E hr h=>?_)
 ·obtain⟨l,ts,hi,wi,rfl,_⟩:=h
  rfl
 ·obtain⟨l,ts,hi,wi,rfl,hl,hts,h1,h8,w1,w8,q⟩:=h
  refine⟨_,(zd (zD (i:=3) qP.nd rfl (XM rfl) (qu zb))
   (zd (qA Xd rfl (qR (by rfl) T.ji (za (pv 1) zb)) (zm (i:=4) qP.nd rfl (XM rfl)) (zd (zD (i:=5) qP.nd rfl (XM rfl) jw)
   (zd (qA Xd rfl (qR (by rfl) T.ji (za (pv 2) zb)) (zm (i:=6) qP.nd rfl (XM rfl)) (zd (zD (i:=7) qP.nd rfl (XM rfl) (zZ qS (pv 0) (zG qT (zG Zn (pv 2) (pv 4)) (pv 6)) (fun _ _=>rfl)))
   (zd (zD (i:=8) qP.nd rfl (XM rfl) (zo zar (hr.mono (by decide)) (by rfl) qk.g qk.F.kp qk.b .nil zL (za (jO (za (pv 4) (za (pv 6) zb))) (za (pv 1) (za (pv 2) zb)))))
   (zmZ 7 (zd (JF (i:=9) qP.nd rfl rfl (N:=["_law_k","_law_j","_law_signs_here","_law_wide"]) (src:=[none,none,some 0,some 2]) (zY.free (O:=(zg xK).names) (XN:=["_law_signs_here","_law_high","_law_wide","_law_rows_here","_law_row","_law_text","_law_column","_law_sign_here","_law_near_here","_law_some"]) rfl rfl ⟨_,rfl⟩ rfl rfl (by decide +kernel) (by decide +kernel) (by decide +kernel) rfl (by decide +kernel)) rfl (zU (pv 8)) (fun _ _ _ _ _=>(Yt (n:=2) (K:=K) (by rfl) rfl (zT (zm (i:=0) (by show Xg (["_law_k","_law_j","_law_signs_here","_law_wide"]:List Str);decide +kernel) rfl (XM rfl)) (zT (zm (i:=1) (by show Xg (["_law_k","_law_j","_law_signs_here","_law_wide"]:List Str);decide +kernel) rfl (XM rfl)) jh)))) (fun _ _ _ _ _=>qL) (fun _ _ _ _ _=>(zZ (ZP (K:=K) (by rfl)) (pv 2) (zG qT (zG Zn (pv 3) (pv 0)) (pv 1)) (fun _ _=>rfl))))
   (zh (zD (i:=7) qP.nd rfl (XM rfl) (jb ze3 (by rfl) T.zqe PyProof.Rows.boot_str (za (Jr WY Rn Rm zgh (pv 9) (za jw zb)) zb)))))
   (zh (zD (i:=5) qP.nd rfl (XM rfl) (zG Yq (pv 5) (Jr PySem.F.plainAttrs_str PySem.F.slot_str_replace PySem.F.type_str_replace ze7 (pv 7) (za jw (za jw zb))))))
   (zlh (i:=5) qP.nd rfl (XM rfl) (zmY 5 Yq (zmX 7 (by decide +kernel) (by decide +kernel))) qp)))))
   (zh (yk (Jr WY Wt Ws jj (pv 3) (za (pv 5) zb)))))))
   (zh (zO (pv 3))))),?_⟩
  refine⟨(by show 0<=XU;decide),fun d hd=>?_⟩
  have s0:zB H (upd H d (.lst [])):=ze hd
  have at_:∀r c:Nat,(r:Int)<hi->(c:Int)<wi->∃k,k∈zdR/\(ts.map V.str)[(wi*(r:Int)+(c:Int)).toNat]?=some (.str ⟨#[k]⟩):=fun r c hr hc=>by
   have a0:0<=wi*(r:Int):=Px (by lia) (by lia)
   have a1:wi*((r:Int)+1)<=wi*hi:=Int.mul_le_mul_of_nonneg_left (by lia) (by lia)
   rw[OI,Int.mul_one] at a1
   have a2:(wi*hi).toNat=ts.length:=by rw[Rf,hts.len]
   have a3:(wi*(r:Int)+(c:Int)).toNat<ts.length:=by lia
   obtain⟨k,hk,e⟩:=hts.mem _ (U3 a3)
   refine⟨k,hk,?_⟩
   rw[XE,X7 a3,e]
   rfl
  have atM:∀(r c k:Nat),(r:Int)<hi->(c:Int)<wi->(ts.map V.str)[(wi*(r:Int)+(c:Int)).toNat]?=some (.str ⟨#[k]⟩)->(ts.drop (wi.toNat*r)).take (c+1)=(ts.drop (wi.toNat*r)).take c++[⟨#[k]⟩]:=fun r c k _ _ h=>by
   have e1:(wi*(r:Int)+(c:Int)).toNat=wi.toNat*r+c:=by
    obtain⟨W,rfl⟩:∃W:Nat,wi=W:=⟨wi.toNat,by lia⟩
    rw[WV,<- PZ,<- UV,WV]
   rw[e1,XE] at h
   rw[XJ,Um]
   cases e:ts[wi.toNat*r+c]? with
   | none=>rw[e] at h;cases h
   | some t =>
    rw[e] at h
    cases h
    rfl
  have nn:∀r:Nat,0<=wi*(r:Int):=fun r=>Px (by lia) (by lia)
  refine⟨_,rfl,hi,rfl,by lia,by lia,?_⟩
  refine ja (lo:=0) (n:=hi.toNat) (fun i σ H'=>∃(v4 v5 v6 v7 v8 v9:Option V) (rs:List Str),σ=[some (.ref l),some (.int hi),some (.int wi),some (.ref d),v4,v5,v6,v7,v8,v9]/\zB H H'/\H' d=some (.lst (rs.map V.str))/\rs.length=i/\(∀t∈rs,Row bd.cps.toList wi.toNat t)/\(rs.map JO).sum<=Ye (ts.take (wi.toNat*i)))
   ⟨_,_,_,_,_,_,[],rfl,s0,zc,rfl,(fun _ h=>nomatch h),WW _⟩ ?_ ?_
  ·rintro i σ H1 hi1 ⟨v4,v5,v6,v7,v8,v9,rs,rfl,s1,hd1,hlen,ZH,hsum⟩
   refine⟨_,rfl,wi,rfl,by lia,by lia,?_⟩
   refine ja (lo:=0) (n:=wi.toNat) (fun j σ H'=>∃(v6 v7 v8 v9:Option V) (t:Str),σ=[some (.ref l),some (.int hi),some (.int wi),some (.ref d),some (.int (0+(i:Int))),some (.str t),v6,v7,v8,v9]/\zB H1 H'/\Row bd.cps.toList j t/\JO t<=Ye ((ts.drop (wi.toNat*i)).take j))
    ⟨_,_,_,_,_,rfl,zB.refl _,⟨rfl,(fun _ h=>nomatch h)⟩,WW _⟩ ?_ ?_
   ·rintro j σ H2 hj ⟨v6,v7,v8,v9,t,rfl,s2,hr1,hct⟩
    obtain⟨k,hk,hat⟩:=at_ i j (by lia) (by lia)
    have hl2:=s2 _ _ (s1 _ _ hl)
    have tkM:=atM i j k (by lia) (by lia) hat
    have ni:=nn i
    refine⟨_,rfl,_,rfl,_,rfl,_,_,rfl,rfl,mulL (by lia) (by lia),_,rfl,_,_,rfl,rfl,l,_,_,.str ⟨#[k]⟩,rfl,rfl,SqL.of hl2,jx (by rw[Wi,Wi];lia) (by rw[Wi,Wi];exact hat),?_⟩
    refine⟨_,rfl,_,rfl,(by show 2<=XU;decide),fun p hp=>?_⟩
    have s3:=ze (o:=.tup [.int (0+(i:Int)),.int (0+(j:Int))]) hp
    refine⟨_,rfl,_,rfl,p,i,j,hi,wi,rfl,by rw[zc,Wi,Wi],by lia,by lia,h8,w8,fun e ws cs H4 he he4 hc4 hb4 hn4 s4=>?_⟩
    have s14:=(s2.trans s3).trans s4
    have hl4:=s14 _ _ (s1 _ _ hl)
    have tl:t.length=j:=hr1.len
    refine⟨_,rfl,⟨#[k]⟩,rfl,zcf (fun c=>?_) (fun c=>?_)⟩
    ·-- an open cell: its number
     refine⟨_,rfl,e,rfl,⟨_,SqL.of he4⟩,fun z hz=>?_⟩
     refine qq (K:=K) (a:=e) (xs:=ws) (fun m σ' H'=>∃(u0 u1:Option V) (us:List Str),σ'=[u0,u1,some (.ref l),some (.int wi)]/\zB H4 H'/\us.length=m/\H' z=some (.lst (us.map V.str)))
      ⟨_,_,[],rfl,ze hz,rfl,zc⟩ (fun m σ' H' _ ⟨_,_,_,_,s5,_⟩=>SqL.of (s5 _ _ he4)) ?_ ?_
     ·rintro m x σ' H5 hx ⟨u0,u1,us,rfl,s5,hm,hz5⟩
      obtain⟨y,hy,ya,rfl,hya⟩:=Cel.get (Cel.mono s5 hc4) hx
      obtain⟨b1,b2⟩:=hb4 y (X2 hy)
      obtain⟨k2,hk2,hat2⟩:=at_ y.1 y.2 b1 b2
      have ny:=nn y.1
      have hml:=(X4.mp hy).1
      refine⟨ya,_,rfl,SqT.of hya,rfl,_,_,rfl,_,_,rfl,rfl,?_⟩
      unfold zk6
      refine Qi ?_
      refine⟨_,rfl,_,rfl,_,rfl,_,_,rfl,rfl,mulL (by lia) (by lia),_,rfl,_,_,rfl,rfl,l,_,_,.str ⟨#[k2]⟩,rfl,rfl,SqL.of (s5 _ _ hl4),jx (by lia) hat2,_,hz5,?_,?_⟩
      ·rw[ZB,hm]
       exact Xn (show m<9 by lia) (by decide)
      ·refine⟨_,_,us++[⟨#[k2]⟩],rfl,fun b o e'=>?_,?_,?_⟩
       ·rw[zu (zj e' hz)]
        exact s5 _ _ e'
       ·rw[XZ,hm]
        rfl
       ·rw[zc,Xv]
        rfl
     ·rintro σ' H5 ⟨u0,u1,us,rfl,s5,hm,hz5⟩
      have hcnt:(us.countP fun t=>t==("o":Str))<9:=by
       have:=PM (p:=fun t=>t==("o":Str)) (l:=us)
       rw[hm,hc4.length] at this
       lia
      refine⟨_,rfl,.inl ⟨rfl,_,SqL.of hz5⟩,z,us,"o",rfl,rfl,hz5,_,rfl,?_,?_⟩
      ·show (((us.countP fun t=>t==("o":Str)):Nat):Int).natAbs.log2<1920
       rw[RY]
       have:∀d:Nat,d<9->d.log2<1920:=by decide +kernel
       exact this _ hcnt
      refine⟨_,rfl,_,rfl,rfl,_,_,_,rfl,rfl,?_,_,_,rfl,rfl,?_,?_⟩
      ·have:∀d:Nat,d<9->(VY ((toString (d:Int):String):Str) "o" 0 ((toString (d:Int):String):Str).length (((toString (d:Int):String):Str).length+1)).isEmpty=true:=by decide +kernel
       exact this _ hcnt
      ·rw[zia _ hcnt,tl]
       show j+1<=XU
       exact X0 (show j+1<=8 by lia) (by decide)
      ·refine⟨_,_,_,_,_,rfl,s14.trans s5,?_,?_⟩
       ·rw[zia _ hcnt]
        exact grow hr1 (zq0 hcnt)
       ·rw[zia _ hcnt,tkM,Qq,zbW,show jV (48+Sx (fun t=>t==("o":Str)) us)=false from zq7 hcnt]
        exact X0 hct (Uw _ _)
    ·-- any other sign
     have hr:=znu k hk (fun z=>c (by rw[z];decide +kernel))
     refine⟨_,rfl,_,rfl,⟨#[k]⟩,rfl,(by show 1<=1000000;decide),_,_,rfl,rfl,?_,?_⟩
     ·rw[hr.1,tl]
      show j+1<=XU
      exact X0 (show j+1<=8 by lia) (by decide)
     ·refine⟨_,_,_,_,_,rfl,s14,?_,?_⟩
      ·rw[hr.1]
       exact grow hr1 hr.2
      ·rw[hr.1,tkM,Qq,zbW,zqs k hk]
       exact Sv hct _
   ·rintro σ H2 ⟨v6,v7,v8,v9,t,rfl,s2,hr1,hct⟩
    have hd2:=s2 _ _ hd1
    refine⟨_,rfl,.inl ⟨rfl,_,SqL.of hd2⟩,_,rfl,d,_,_,rfl,rfl,hd2,?_,?_⟩
    ·rw[ZB,hlen]
     exact Xn (show i<9 by lia) (by decide)
    ·refine⟨_,_,_,_,_,_,rs++[t],rfl,fun b o e=>?_,?_,?_,?_,?_⟩
     ·rw[zu (zj e hd)]
      exact s2 _ _ (s1 b o e)
     ·rw[zc,Xv]
      rfl
     ·rw[XZ,hlen]
      rfl
     ·intro u hu
      rcases XI.mp hu with hu | hu
      ·exact ZH u hu
      ·have e6:u=t:=by simpa using hu
       rw[e6]
       exact hr1
     ·rw[Xv,List.sum_append,Nat.mul_succ,zbz,zho]
      simp only[Xb,Td,O3,List.sum_nil,TW]
      exact S6 hsum hct
  ·rintro σ H1 ⟨v4,v5,v6,v7,v8,v9,rs,rfl,s1,hd1,hlen,ZH,hsum⟩
   exact⟨_,rfl,q d rs H1 hd hd1 hlen ZH (X0 hsum (zkI _ _)) s1⟩
theorem zfL (T:Txt mg)(D:zk K mg "_law_bent" xM ["_law_rows_here","_law_cell"] f fd):zI P w K mg base CX0 1 f fd ["_law_rows_here","_law_cell"] zhq:=by
 refine D.F.ok jN (fun vs H Q E h=>?_) (fun cdv A outer s H vs Q E hr h=>?_)
 ·obtain⟨l,rs,n,c,rfl,_⟩:=h
  rfl
 ·obtain⟨l,rs,n,c,rfl,hl,r1,r8,n1,n8,ZH,q⟩:=h
  refine⟨_,(zd (zD (i:=2) jN.nd rfl (XM rfl) (qu zb))
   (zd (qA Xd rfl (qR (by rfl) T.ji (za (zz zE (by rfl) T.qN Xh (za (pv 0) zb)) zb)) (zm (i:=3) jN.nd rfl (VF rfl)) (zh (yk (Jr WY UJ UI QU (pv 2) (za (qd (N:=["_law_j","_law_k","_law_rows_here"]) (src:=[none,some 3,some 0]) (zY.free (O:=(zg xM).names) (XN:=["_law_rows_here","_law_cell","_law_spots","_law_k","_law_j","_law_text","_law_sign_here","_law_found"]) rfl rfl ⟨_,rfl⟩ rfl rfl (by decide +kernel) (by decide +kernel) (by decide +kernel) rfl (by decide +kernel)) rfl (qR (by rfl) T.ji (za (zz JD (by rfl) T.qN Xh (za (zZ qS (pv 0) (pv 3) (fun _ _=>rfl)) zb)) zb)) (fun _ _ _ _ _=>(zm (i:=0) (by show Xg (["_law_j","_law_k","_law_rows_here"]:List Str);decide +kernel) rfl (XM rfl))) (fun _ _ _ _ _=>(qh (zP QS (zZ ZC (zZ (ZP (K:=K) (by rfl)) (pv 2) (pv 1) (fun _ _=>rfl)) (pv 0) (fun _ _=>rfl)) jw (by rfl)))) (fun _ _ _ _ _=>(jO (za (pv 1) (za (pv 0) zb))))) zb)))))
   (zd (jA (PW.pt (zcG (zP zi7 (zG jB (pv 1) zf) zf (z9 _)) (zcF (zP (Ys hr.units) (pv 2) (qu zb) (z9 _))))) (zh (zO (pv 0))) qp)
   (zd (zhD (zZ qS (pv 2) (zG jB (zG jT (pv 1) zf) (zz zE (by rfl) T.qN Xh (za (pv 2) zb))) (fun _ _=>rfl)) (Jl rfl (zT (zm (i:=3) jN.nd rfl (VF rfl)) (zT (zm (i:=4) jN.nd rfl (XM rfl)) jh))))
   (zd (zD (i:=5) jN.nd rfl (XM rfl) (zZ qS (pv 0) (pv 3) (fun _ _=>rfl)))
   (zd (zD (i:=6) jN.nd rfl (XM rfl) (zZ ZC jw (zG jB (zG qT (zG qT (jb Yu (by rfl) T.zc4 VO (za (zZ ZC (pv 5) (pv 4) (fun _ _=>rfl)) zb)) zf) (zG jB (zG jT (pv 1) zf) zf)) zf) (fun _ _=>rfl)))
   (zd (zD (i:=7) jN.nd rfl (XM rfl) (jb Yr (by rfl) T.zfm Ui (za (pv 0) zb)))
   (zd (zhD (zG Yq (zG Yq (Qh zlf (pv 5) zaK (zaL (pv 4))) (pv 6)) (Qh zlf (pv 5) (zaL (zG qT (pv 4) zf)) zaK)) (zkW (pv 7) (pv 3) set_list))
   (zh (zO (pv 7))))))))))),?_⟩
  refine⟨(by show 0<=XU;decide),fun sp hsp=>?_⟩
  have s0:zB H (upd H sp (.lst [])):=ze hsp
  have rl:(rs.map V.str).length=rs.length:=ZB _
  have hat:∀{i:Nat} {t:Str},rs[i]?=some t->(rs.map V.str)[i]?=some (V.str t):=fun h=>by rw[XE,h];rfl
  have tl8:∀t∈rs,t.length=n:=fun t ht=>(ZH t ht).len
  have szl:∀t∈rs,t.length<=XU:=fun t ht=>X0 (show t.length<=8 by rw[tl8 t ht];exact n8) (by decide)
  refine⟨_,rfl,l,_,rfl,.inl (SqL.of (s0 _ _ hl)),_,rfl,by lia,by lia,?_⟩
  rw[WV,rl]
  refine ja (lo:=0) (n:=rs.length) (fun i σ H'=>∃(v3:Option V) (ws:List V) (cs:List (Nat×Nat)),σ=[some (.ref l),some (.int c),some (.ref sp),v3,none,none,none,none]/\zB H H'/\H' sp=some (.lst ws)/\Cel H' ws cs/\zqg rs cs/\cs.length<=8*i) ⟨_,[],[],rfl,s0,zc,.nil,(fun _ h=>nomatch h),XW _⟩ ?_ ?_
  ·rintro i σ H1 hi ⟨v3,ws,cs,rfl,s1,hp1,hc1,hg1,hn1⟩
   obtain⟨t,ht⟩:∃t,rs[i]?=some t:=⟨_,X7 hi⟩
   have tm:=X2 ht
   have tl:t.cps.toList.length=n:=by
    rw[X6]
    exact(ZH t tm).len
   have tl2:=tl8 t tm
   refine⟨_,rfl,.inl ⟨rfl,_,SqL.of hp1⟩,_,rfl,_,rfl,l,_,_,.str t,rfl,rfl,SqL.of (s1 _ _ hl),jx (by lia) (by rw[show ((0:Int)+(i:Int)).toNat=i by lia];exact hat ht),t,rfl,szl t tm,_,rfl,?_,?_,fun z hz=>?_⟩
   ·show -(2^62)<=((t.length:Nat):Int)
    lia
   ·show ((t.length:Nat):Int)<2^62
    lia
   rw[WV,tl2]
   refine JW (lo:=0) (n:=n) (fun j σ' H'=>∃(u0:Option V) (ys:List V) (ds:List (Nat×Nat)),σ'=[u0,some (.int (0+(i:Int))),some (.ref l)]/\zB H1 H'/\H' z=some (.lst ys)/\Cel H' ys ds/\zqg rs ds/\ds.length<=j) ⟨_,[],[],rfl,ze hz,zc,.nil,(fun _ h=>nomatch h),XW _⟩ ?_ ?_
   ·rintro j σ' H2 hj ⟨u0,ys,ds,rfl,s2,hz2,hc2,hg2,hn2⟩
    obtain⟨k,hk⟩:∃k,t.cps.toList[j]?=some k:=⟨_,X7 (by lia)⟩
    have kin:=(ZH t tm).mem k (X2 hk)
    refine⟨_,rfl,_,rfl,l,_,_,.str t,rfl,rfl,SqL.of (s2 _ _ (s1 _ _ hl)),jx (by lia) (by rw[show ((0:Int)+(i:Int)).toNat=i by lia];exact hat ht),_,rfl,t,_,k,rfl,rfl,szl t tm,jx (by lia) (by rw[show ((0:Int)+(j:Int)).toNat=j by lia];exact hk),_,_,rfl,rfl,_,rfl,?_⟩
    rw[zo7 k kin]
    by_cases kd:48<=k/\k<=56
    ·rw[decide_eq_true kd]
     refine Qi ⟨_,rfl,_,rfl,(by show 2<=XU;decide),fun p hp=>?_⟩
     have s3:=ze (o:=.tup [.int (0+(i:Int)),.int (0+(j:Int))]) hp
     refine⟨_,s3 _ _ hz2,?_,_,ys++[.ref p],ds++[(i,j)],rfl,fun b o e=>?_,zc,?_,?_,?_⟩
     ·rw[hc2.length]
      exact Xn (show ds.length<9 by lia) (by decide)
     ·rw[zu (zj e hz)]
      exact s3 _ _ (s2 _ _ e)
     ·refine Cel.into z _ (s3 _ _ hz2) (Cel.snoc (Cel.mono s3 hc2) ⟨p,rfl,?_⟩)
      rw[zc,Wi,Wi]
     ·intro x hx
      rcases XI.mp hx with hx | hx
      ·exact hg2 x hx
      ·have ex:x=(i,j):=by simpa using hx
       rw[ex]
       exact⟨t,k,ht,hk,kd⟩
     ·rw[XZ]
      show ds.length+1<=j+1
      lia
    ·rw[decide_eq_false kd]
     exact Qd ⟨_,ys,ds,rfl,s2,hz2,hc2,hg2,by lia⟩
   ·rintro σ' H2 ⟨u0,ys,ds,rfl,s2,hz2,hc2,hg2,hn2⟩
    have hp2:=s2 _ _ hp1
    refine⟨sp,z,_,_,rfl,rfl,hp2,hz2,?_,?_⟩
    ·rw[hc1.length,hc2.length]
     exact X0 (show cs.length+ds.length<=72 by lia) (by decide)
    refine⟨_,ws++ys,cs++ds,rfl,fun b o e=>?_,zc,Cel.into sp _ hp2 (Cel.append (Cel.mono s2 hc1) hc2),?_,?_⟩
    ·rw[zu (zj e hsp)]
     exact s2 _ _ (s1 _ _ e)
    ·intro x hx
     rcases XI.mp hx with hx | hx
     ·exact hg1 x hx
     ·exact hg2 x hx
    ·rw[XZ]
     lia
  ·rintro σ H1 ⟨v3,ws,cs,rfl,s1,hp1,hc1,hg1,hn1⟩
   refine⟨_,rfl,_,_,rfl,rfl,(by show (0:Int)<3;decide),_,_,rfl,rfl,_,rfl,zcf (fun _=>?_) (fun _=>?_)⟩
   ·exact⟨_,rfl,q l rs H1 (s1 _ _ hl) rfl ZH (XW _) s1⟩
   refine⟨_,rfl,(by show 0<=XU;decide),fun e he=>?_⟩
   have s2:=ze (o:=.lst []) he
   refine⟨.list (cs.map zx),.list [],.lst (SqL.of (s2 _ _ hp1)) (zib (Cel.mono s2 hc1)),.lst (SqL.of zc) .nil,zqh cs,_,rfl,?_⟩
   have ee:(if false=true then !PyData.eqv (.list (cs.map zx)) (.list []) else W2 (.list (cs.map zx)) (.list []))=cs.isEmpty:=by
    show W2 _ _=_
    cases cs<;>rfl
   rw[ee]
   cases hb:cs.isEmpty with
   | true=>exact Qi ⟨_,rfl,q l rs _ (s2 _ _ (s1 _ _ hl)) rfl ZH (XW _) (s1.trans s2)⟩
   | false =>
    refine Qd ?_
    have pos:0<cs.length:=by
     cases cs with
     | nil=>cases hb
     | cons x y=>exact Uo _
    have s12:=s1.trans s2
    have hp2:=s2 _ _ hp1
    have hc2:=Cel.mono s2 hc1
    have wl:=hc1.length
    have m0:=Vu (c/3) (show ((ws.length:Nat):Int)≠0 by lia)
    have m1:=VI (c/3) (show (0:Int)<((ws.length:Nat):Int) by lia)
    obtain⟨x,hx⟩:∃x,ws[(c/3%((ws.length:Nat):Int)).toNat]?=some x:=⟨_,X7 (by lia)⟩
    obtain⟨y,hy,ya,rfl,hya⟩:=Cel.get hc2 hx
    obtain⟨t,k,ht,hk,k0,k1⟩:=hg1 y (X2 hy)
    have tm:=X2 ht
    have tl2:=tl8 t tm
    have yl:=(X4.mp hk).1
    have tl:t.cps.toList.length=n:=by
     rw[X6]
     exact(ZH t tm).len
    have yr:=(X4.mp ht).1
    refine⟨_,rfl,_,rfl,_,_,rfl,rfl,JU.small (by decide) (by decide),_,rfl,sp,_,rfl,.inl (SqL.of hp2),_,_,rfl,rfl,(by show (0:Int)<((ws.length:Nat):Int);lia),sp,_,_,_,rfl,rfl,SqL.of hp2,jx m0 hx,?_⟩
    refine⟨ya,_,rfl,SqT.of hya,rfl,_,_,rfl,_,_,rfl,rfl,?_⟩
    refine⟨_,rfl,_,rfl,l,_,_,.str t,rfl,rfl,SqL.of (s12 _ _ hl),jx (by lia) (by rw[WV];exact hat ht),?_⟩
    obtain⟨v,hv⟩:=int_is k k0 k1
    have d0:=Vu (v+1+c/200%8) (show (9:Int)≠0 by decide)
    have d1:=VI (v+1+c/200%8) (show (0:Int)<9 by decide)
    obtain⟨k2,hk2,hin,hq2⟩:=zpo d0 d1
    refine⟨_,rfl,_,rfl,t,_,k,rfl,rfl,szl t tm,jx (by lia) (by rw[WV];exact hk),_,v,rfl,hv,(by show 1<=640;decide),_,_,rfl,rfl,_,rfl,_,_,rfl,rfl,JU.small (by decide) (by decide),_,_,rfl,rfl,(by show (0:Int)<8;decide),_,_,rfl,rfl,_,_,rfl,rfl,(by show (0:Int)<9;decide),_,_,k2,rfl,rfl,(by decide +kernel),hk2,?_⟩
    refine⟨_,rfl,l,_,rfl,.inl (SqL.of (s12 _ _ hl)),fun d hd=>?_⟩
    have s3:=ze (o:=.lst (rs.map V.str)) hd
    have br:=zl3 (j:=y.2) (c:=k2) (ZH t tm) (by lia) hin
    refine⟨_,rfl,_,rfl,_,rfl,t,rfl,szl t tm,_,rfl,_,_,rfl,rfl,?_,_,rfl,_,rfl,_,_,rfl,rfl,_,rfl,t,rfl,szl t tm,_,_,rfl,rfl,?_,?_⟩
    ·refine X0 (show _<=20 from ?_) (by decide)
     have:=zpa t none (some ((y.2:Nat):Int))
     show (JY t none (some ((y.2:Nat):Int))).length+1<=20
     lia
    ·refine X0 (show _<=20 from ?_) (by decide)
     have:=br.len
     rw[zo9] at this
     show (JY t none (some ((y.2:Nat):Int))++(⟨#[k2]⟩:Str)).length+(JY t (some (((y.2:Nat):Int)+1)) none).length<=20
     lia
    refine⟨_,rfl,_,rfl,d,_,_,y.1,rfl,rfl,zc,?_,?_⟩
    ·rw[rl]
     unfold ixN
     rw[if_pos (by lia),if_pos (by lia),WV]
    refine⟨_,rfl,q d (rs.set y.1 (JY t none (some ((y.2:Nat):Int))++⟨#[k2]⟩++JY t (some (((y.2:Nat):Int)+1)) none)) _ ?_ (List.length_set) ?_ ?_ ?_⟩
    ·rw[zc,Re]
    ·intro u hu
     rcases List.mem_or_eq_of_mem_set hu with hu | hu
     ·exact ZH u hu
     ·rw[hu]
      exact br
    ·exact sum_set ht (zmy (ZH t tm) (by lia) hq2)
    ·intro b o e'
     have:=s12 b o e'
     rw[zu (zj this hd)]
     exact s3 _ _ this
theorem zd3 {f1 f2 f3 f4 f5 f6:Addr}{fd1 fd2 fd3 fd4 fd5 fd6:XO}(T:Txt mg)(D:zk K mg "_law_board" Zs ["_law_script","_law_high","_law_wide","_law_most"] f fd)(zw:zk K mg "_law_cell_at" jX ["_law_script","_law_k"] f1 fd1)(yg:zk K mg "_law_sign" xJ ["_law_way","_law_cell","_law_turn"] f2 fd2)
  (yY:zk K mg "_law_signs" Jc ["_law_script","_law_places","_law_most"] f3 fd3) (qk:zk K mg "_law_near" yd ["_law_cell","_law_high","_law_wide"] f4 fd4) (xQ:zk K mg "_law_rows" xK ["_law_signs_here","_law_high","_law_wide"] f5 fd5) (xR:zk K mg "_law_bent" xM ["_law_rows_here","_law_cell"] f6 fd6) :
  zI P w K mg base CX0 3 f fd ["_law_script","_law_high","_law_wide","_law_most"] (zeU K):=by
 have qw:zI P w K mg base CX0 1 f1 fd1 ["_law_script","_law_k"] (zfn K):=J7 T zw
 have zhr:zI P w K mg base CX0 2 f3 fd3 ["_law_script","_law_places","_law_most"] (zeT K):=zd2 T yY zw yg
 have ziE:zI P w K mg base CX0 2 f5 fd5 ["_law_signs_here","_law_high","_law_wide"] zhp:=zfK T xQ qk
 have ziF:zI P w K mg base CX0 1 f6 fd6 ["_law_rows_here","_law_cell"] zhq:=zfL T xR
 refine D.F.ok xB (fun vs H Q E h=>?_) (fun cdv A outer s H vs Q E hr h=>?_)
 ·obtain⟨a,ns,hi,wi,m,rfl,_⟩:=h
  rfl
 ·obtain⟨a,ns,hi,wi,m,rfl,hS,h1,h8,w1,w8,m0,q⟩:=h
  refine⟨_,(zd (zD (i:=4) xB.nd rfl (XM rfl) (zo zhr (hr.mono (by decide)) (by rfl) yY.g yY.F.kp yY.b .nil zL (za (pv 0) (za (zG Zn (pv 1) (pv 2)) (za (pv 3) zb)))))
   (zd (zD (i:=5) xB.nd rfl (XM rfl) (zo ziF (hr.mono (by decide)) (by rfl) xR.g xR.F.kp xR.b .nil zL (za (zo ziE (hr.mono (by decide)) (by rfl) xQ.g xQ.F.kp xQ.b .nil zL (za (pv 4) (za (pv 1) (za (pv 2) zb)))) (za (zG jT (zo qw (hr.mono (by decide)) (by rfl) zw.g zw.F.kp zw.b .nil zL (za (pv 0) (za zf zb))) zf) zb))))
   (zd (zD (i:=6) xB.nd rfl (XM rfl) (zG qT (Jr WY Rn Rm zgh (pv 4) (za jw zb)) (zZ qS (qu (za zf (za zf (za zf (za zf (za zf (za (zpM zoy zf) zb))))))) (zG jB (zo qw (hr.mono (by decide)) (by rfl) zw.g zw.F.kp zw.b .nil zL (za (pv 0) (za zf zb))) zf) (fun _ _=>rfl))))
   (zjb (jA (zP Jq (zG jB (zo qw (hr.mono (by decide)) (by rfl) zw.g zw.F.kp zw.b .nil zL (za (pv 0) (za zf zb))) zf) zf (z9 _)) (zh (zD (i:=6) xB.nd rfl (XM rfl) (zG jB (zG jT (zo qw (hr.mono (by decide)) (by rfl) zw.g zw.F.kp zw.b .nil zL (za (pv 0) (za zf zb))) zf) zf))) qp)
   (zh (zO (jO (za (pv 5) (za (zz (ZO rfl) (by rfl) T.zgN UY (za zf (za (zz (ZN rfl) (by rfl) T.zgM UZ (za zf (za (pv 6) zb))) zb))) zb))))))))),?_⟩
  have p0:0<=hi*wi:=Px (by lia) (by lia)
  have p1:hi*wi<=8*8:=Int.mul_le_mul h8 w8 (by lia) (by lia)
  refine⟨_,rfl,_,rfl,_,rfl,_,_,rfl,rfl,mulL (by lia) (by lia),_,rfl,a,ns,_,_,rfl,hS,p0,by lia,m0,fun l ts H1 hl hl1 hts hsm s1=>?_⟩
  refine⟨_,rfl,_,rfl,_,rfl,l,ts,hi,wi,rfl,hl1,hts,h1,h8,w1,w8,fun d rs H2 hd hd2 hlen ZH hsr s2=>?_⟩
  have s12:=s1.trans s2
  refine⟨_,rfl,a,ns,_,rfl,s12.seq hS,by decide,fun c1=>⟨_,_,rfl,rfl,JU.small (by decide) (by decide),d,rs,wi.toNat,_,rfl,hd2,by lia,by lia,by lia,by lia,ZH,fun e rs' H3 he3 hlen3 zqt hsb s3=>?_⟩⟩
  have s13:=s12.trans s3
  have hl3:=s3 _ _ (s2 _ _ hl1)
  refine⟨_,rfl,.inl ⟨rfl,_,SqL.of hl3⟩,l,ts,"o",rfl,rfl,hl3,_,rfl,(by show 6<=XU;decide),fun p hp=>?_⟩
  have s4:=ze (o:=.lst [.int 0,.int 0,.int 0,.int 0,.int 1,.int (-1)]) hp
  have s14:=s13.trans s4
  refine⟨_,rfl,a,ns,_,rfl,s14.seq hS,by decide,fun c2=>?_⟩
  have pk:∃x:Int,atI [V.int 0,V.int 0,V.int 0,V.int 0,V.int 1,V.int (-1)] (c2%6)=some (.int x):=by
   have a0:=Vu c2 (show (6:Int)≠0 by decide)
   have a1:=VI c2 (show (0:Int)<6 by decide)
   have:c2%6=0\/c2%6=1\/c2%6=2\/c2%6=3\/c2%6=4\/c2%6=5:=by lia
   rcases this with e | e | e | e | e | e<;>rw[e]<;>exact⟨_,rfl⟩
  obtain⟨x,hx⟩:=pk
  refine⟨_,_,rfl,rfl,(by show (0:Int)<6;decide),p,_,_,_,rfl,rfl,SqL.of zc,hx,_,_,rfl,rfl,?_⟩
  refine⟨fun σ' H'=>∃st:Int,σ'=[some (.ref a),some (.int hi),some (.int wi),some (.int m),some (.ref l),some (.ref e),some (.int st)]/\H'=upd H3 p (.lst [.int 0,.int 0,.int 0,.int 0,.int 1,.int (-1)]),?_,?_⟩
  ·refine⟨_,rfl,a,ns,_,rfl,s14.seq hS,by decide,fun c3=>⟨_,_,rfl,rfl,(by show (0:Int)<8;decide),rfl,_,rfl,zcf (fun _=>?_) (fun _=>?_)⟩⟩
   ·exact⟨_,rfl,a,ns,_,rfl,s14.seq hS,by decide,fun c4=>⟨_,_,rfl,rfl,JU.small (by decide) (by decide),_,_,rfl,rfl,(by show (0:Int)<65;decide),_,rfl,rfl⟩⟩
   ·exact⟨_,rfl,rfl⟩
  rintro σ' H4 ⟨st,rfl,rfl⟩
  refine⟨_,rfl,_,rfl,0,_,rfl,64,_,rfl,(by show 2<=XU;decide),fun o ho=>?_⟩
  have B:=zpb st
  exact q o e rs' (stI st) _ (s14.free ho) ⟨zc,(ze ho) _ _ (s4 _ _ he3)⟩ ⟨by lia,by lia,wi.toNat,by lia,by lia,zqt⟩ B.1 B.2 (by rw[zmz];lia) (s14.trans (ze ho))
end
namespace LY
theorem zhs {α β:Type}(g:α->β):∀(cs:List α) (b:Nat),Subs.pick (cs.map g) b=(Subs.pick cs b).map g
 | [],_=>rfl
 | c::r,b=>by
  show (if b%2=1 then [g c] else [])++Subs.pick (r.map g) (b/2)=((if b%2=1 then [c] else [])++Subs.pick r (b/2)).map g
  rw[Xv,zhs g r]
  split<;>rfl
theorem zbl {α:Type}:∀(cs:List α) (b:Nat),(Subs.pick cs b).Sublist cs
 | [],_=>.slnil
 | c::r,b=>by
  show ((if b%2=1 then [c] else [])++Subs.pick r (b/2)).Sublist (c::r)
  split
  ·exact(zbl r _).cons₂ c
  ·exact(zbl r _).cons c
theorem zqu:∀{cs:List (Nat×Nat)},cs.Pairwise Cells.lex->cs.Nodup:=fun h=>h.imp fun {a b} z e=>by
 subst e
 unfold Cells.lex at z
 lia
theorem znL (rs:List Str):(zp rs).Nodup:=zqu (Cells.xG _ 0 (codes rs))
theorem zbK (rs:List Str)(c:Nat×Nat):(zK rs c).Nodup:=(zqu (Cells.xG _ 0 (codes rs))).sublist Ww
theorem zpp {rs:List Str}{c:Nat×Nat}{q:List (Nat×Nat)}(hq:q.Nodup):zbg rs (q.map toI) c=(q.filter (nearF rs c)).length:=by
 unfold zbg
 refine Pa ((VX ((zbK rs c).sublist Ww) (hq.sublist Ww)).mpr fun x=>?_)
 rw[XX,XX,US,WS]
 unfold nearF
 rw[WS]
 constructor
 ·rintro⟨h1,y,hy,e⟩
  have e2:toI y=toI x:=of_decide_eq_true e
  have:y=x:=by
   obtain⟨a,b⟩:=y
   obtain⟨a',b'⟩:=x
   have e3:(((a:Nat):Int),((b:Nat):Int))=(((a':Nat):Int),((b':Nat):Int)):=e2
   injection e3 with p1 p2
   rw[OZ.mp p1,OZ.mp p2]
  subst this
  exact⟨hy,y,h1,decide_eq_true rfl⟩
 ·rintro⟨h1,y,hy,e⟩
  have e2:y=x:=of_decide_eq_true e
  subst e2
  exact⟨hy,y,h1,decide_eq_true rfl⟩
def tellB (rs:List Str)(q:List (Nat×Nat))(c:Nat×Nat):Bool:=decide ((((q.filter (nearF rs c)).length:Nat):Int)=qQ rs c)
theorem zpq {rs:List Str}{q:List (Nat×Nat)}(hq:q.Nodup):zck rs (q.map toI)=(zF rs).all (tellB rs q):=by
 have hb:∀c,zfI rs (q.map toI) c=!tellB rs q c:=fun c=>by
  unfold zfI tellB
  rw[zpp hq]
 unfold zck zms
 cases e:(zF rs).find? (zfI rs (q.map toI)) with
 | none =>
  have h:=Ts.mp e
  symm
  refine WT.mpr fun c hc=>?_
  have:=h c hc
  rw[hb c] at this
  cases ht:tellB rs q c with
  | true=>rfl
  | false =>
   rw[ht] at this
   exact absurd rfl this
 | some c =>
  have h1:=List.find?_some e
  have h2:=List.mem_of_find?_eq_some e
  rw[hb c] at h1
  symm
  show (zF rs).all (tellB rs q)=false
  refine Xc.mpr fun z=>?_
  have:=WT.mp z c h2
  rw[this] at h1
  cases h1
def zof (rs:List Str)(n:Int)(b:Nat):Bool:=decide ((((Subs.pick (zp rs) b).length:Nat):Int)=n)&&(zF rs).all (tellB rs (Subs.pick (zp rs) b))
theorem zpr (rs:List Str)(n:Int):((W9 (2^(zp rs).length)).filter (zof rs n)).map (Subs.pick (ZM rs))=(zaz n (ZM rs)).filter (zck rs):=by
 unfold zaz
 rw[Subs.yq,Wj,Vb]
 have e:(ZM rs).length=(zp rs).length:=ZB _
 rw[e]
 congr 1
 refine V0 fun b _=>?_
 show zof rs n b=(zck rs (Subs.pick (ZM rs) b)&&decide ((((Subs.pick (ZM rs) b).length:Nat):Int)=n))
 have e2:Subs.pick (ZM rs) b=(Subs.pick (zp rs) b).map toI:=zhs toI _ _
 rw[e2,zpq ((znL rs).sublist (zbl _ _)),ZB,Ub]
 rfl
end LY
theorem zfM (x y:Nat):Vk ((x:Nat):Int) ((y:Nat):Int)=((x &&& y:Nat):Int):=by
 unfold Vk
 rw[decide_eq_true (by lia),decide_eq_true (by lia)]
 rfl
theorem zps (x y:Nat):TJ ((x:Nat):Int) ((y:Nat):Int)=((x ||| y:Nat):Int):=by
 have n:∀z:Nat,Uy (Uy ((z:Nat):Int))=((z:Nat):Int):=fun z=>by
  unfold Uy
  lia
 have g:∀z:Nat,decide (0<=Uy ((z:Nat):Int))=false:=fun z=>decide_eq_false (by
  unfold Uy
  lia)
 unfold TJ Vk
 rw[g,g]
 show Uy (Uy _)=_
 rw[n,n,n]
 rfl
theorem znM (b k:Nat):Vk (((b:Nat):Int)/2^k) 1=((b/2^k%2:Nat):Int):=by
 have e:((b:Nat):Int)/2^k=((b/2^k:Nat):Int):=by
  rw[Int.natCast_ediv,Int.natCast_pow]
  rfl
 rw[e]
 have:=zfM (b/2^k) 1
 rw[Nat.and_one_is_mod] at this
 exact this
theorem zjM (b k:Nat):decide (V.int (Vk (((b:Nat):Int)/2^k) 1)=V.int 1)=decide (b/2^k%2=1):=by
 rw[znM]
 refine decide_eq_decide.mpr ⟨fun h=>?_,fun h=>by rw[h];rfl⟩
 injection h with h
 lia
theorem zqv {xs:List Nat}{i k:Nat}(h:xs[i]?=some k):(nV xs)[i]?=some (.int ((k:Nat):Int)):=by
 unfold nV
 rw[XE,h]
 rfl
theorem Q7 (f:Bool)(r:List Bool):Subs.mk (f::r)=(if f=true then 1 else 0)+2*Subs.mk r:=rfl
theorem mk_pos (fs:List Bool):decide (((0:Nat):Int)<((Subs.mk fs:Nat):Int))=fs.any id:=by
 induction fs with
 | nil=>rfl
 | cons f r ih =>
  rw[SG,<- ih,Q7]
  cases f with
  | true=>simp;lia
  | false =>
   show decide _=(false || _)
   rw[if_neg (by decide),Bool.false_or,V9]
   exact decide_eq_decide.mpr (by lia)
theorem zqw {α:Type}(p q:α->Bool)(cs:List α):Subs.mk (cs.map p) ||| Subs.mk (cs.map q)=Subs.mk (cs.map fun x=>p x || q x):=by
 induction cs with
 | nil=>exact Nat.or_self 0
 | cons c r ih =>
  show Subs.mk (p c::r.map p) ||| Subs.mk (q c::r.map q)=Subs.mk ((p c || q c)::r.map fun x=>p x || q x)
  have d:∀(f:Bool) (x:Nat),((if f=true then 1 else 0)+2*x)/2=x:=fun f x=>by cases f<;>simp<;>lia
  have m:∀(f:Bool) (x:Nat),((if f=true then 1 else 0)+2*x)%2=1↔f=true:=fun f x=>by cases f<;>simp<;>lia
  rw[Q7,Q7,Q7]
  obtain⟨z,hz⟩:∃z,z=((if p c=true then 1 else 0)+2*Subs.mk (r.map p)) ||| ((if q c=true then 1 else 0)+2*Subs.mk (r.map q)):=⟨_,rfl⟩
  have h1:z/2=Subs.mk (r.map fun x=>p x || q x):=by rw[hz,Nat.or_div_two,d,d,ih]
  have h2:z%2=1↔p c=true\/q c=true:=by rw[hz,Nat.or_mod_two_eq_one,m,m]
  rw[<- hz,<- h1]
  clear hz h1
  revert h2
  cases p c<;>cases q c<;>intro h2<;>simp at h2 ⊢ <;> lia
theorem zpt (fs:List Bool):∀k,decide (Subs.mk fs/2^k%2=1)=fs.getD k false:=by
 induction fs with
 | nil =>
  intro k
  refine decide_eq_false fun h=>?_
  have:(0:Nat)/2^k%2=1:=h
  rw[Nat.zero_div] at this
  cases this
 | cons f r ih =>
  intro k
  rw[Q7]
  cases k with
  | zero =>
   cases f<;>simp<;>lia
  | succ k =>
   have e:((if f=true then 1 else 0)+2*Subs.mk r)/2^(k+1)=Subs.mk r/2^k:=by
    rw[VU,Rh (2^k),<- SS]
    congr 1
    cases f<;>simp<;>lia
   rw[e,ih k]
   rfl
theorem zkJ {α:Type}(p:α->Bool)(cs:List α):((W9 cs.length).filter fun k=>(cs.map p).getD k false).length=(cs.filter p).length:=by
 induction cs with
 | nil=>rfl
 | cons c r ih =>
  rw[Xw,SO,Xl,Vb,Xl]
  have e:((W9 r.length).filter ((fun k=>((c::r).map p).getD k false)∘Ox))=(W9 r.length).filter fun k=>(r.map p).getD k false:=rfl
  rw[e]
  have e0:((c::r).map p).getD 0 false=p c:=rfl
  rw[e0]
  cases p c
  ·rw[if_neg (by decide),if_neg (by decide),ZB,ih]
  ·rw[if_pos rfl,if_pos rfl,Xw,Xw,ZB,ih]
theorem within {α:Type}(p:α->Bool)(cs:List α):∀b,b<2^cs.length->decide (b &&& Subs.mk (cs.map p)=b)=(Subs.pick cs b).all p:=by
 induction cs with
 | nil =>
  intro b h
  have:b=0:=by simpa using h
  subst this
  exact decide_eq_true (Nat.zero_and _)
 | cons c r ih =>
  intro b h
  rw[Xw,VU] at h
  show decide (b &&& Subs.mk (p c::r.map p)=b)=((if b%2=1 then [c] else [])++Subs.pick r (b/2)).all p
  rw[List.all_append,<- ih (b/2) (by lia),Q7]
  have e2:(b &&& ((if p c=true then 1 else 0)+2*Subs.mk (r.map p)))/2=(b/2) &&& Subs.mk (r.map p):=by
   rw[Nat.and_div_two]
   congr 1
   cases p c<;>simp<;>lia
  have e1:=Qb (a:=b) (b:=(if p c=true then 1 else 0)+2*Subs.mk (r.map p))
  have e3:((if p c=true then 1 else 0)+2*Subs.mk (r.map p))%2=1↔p c=true:=by
   cases p c<;>simp<;>lia
  rw[e3] at e1
  rw[<- e2]
  generalize b &&& ((if p c=true then 1 else 0)+2*Subs.mk (r.map p))=x at e1 ⊢
  rw[WU,Wq,decide_eq_true_eq,decide_eq_true_eq]
  constructor
  ·intro e
   subst e
   refine⟨?_,rfl⟩
   split
   ·rename_i hb
    rw[O2,(e1.mp hb).2]
    rfl
   ·rfl
  ·rintro⟨h1,h2⟩
   by_cases hb:b%2=1
   ·rw[if_pos hb] at h1
    have hp:p c=true:=by simpa using h1
    have:=e1.mpr ⟨hb,hp⟩
    lia
   ·have:¬ x%2=1:=fun z=>hb (e1.mp z).1
    lia
theorem zht {α:Type}(q:α->Bool)(cs:List α):(Subs.subs cs).filter (fun S=>S.all q)=Subs.subs (cs.filter q):=by
 have key:∀(cs:List α) (S:List (List α)),(cs.foldl Subs.step S).filter (fun S=>S.all q)=(cs.filter q).foldl Subs.step (S.filter fun S=>S.all q):=by
  intro cs
  induction cs with
  | nil=>intro S;rfl
  | cons c r ih =>
   intro S
   rw[Wy,ih,Xl]
   have e:(fun S:List α=>S.all q)∘(fun x=>x++[c])=fun S=>S.all q&&q c:=by
    funext S
    simp
   have st:(Subs.step S c).filter (fun S=>S.all q)=S.filter (fun S=>S.all q)++(S.filter fun S=>S.all q&&q c).map (·++[c]):=by
    show (S++S.map (·++[c])).filter _=_
    rw[XA,Vb,e]
   rw[st]
   cases q c
   ·rw[if_neg (by decide)]
    have z:S.filter (fun S=>S.all q&&false)=[]:=Wn.mpr fun x _ h=>by simp at h
    rw[z]
    exact congrArg (fun y=>OV Subs.step y _) (W4 _)
   ·rw[if_pos rfl,Wy]
    simp only[TH]
    rfl
 exact key cs [[]]
theorem zpu {α:Type}{cs:List α}(nd:cs.Nodup){k:Nat}{c:α}(hk:cs[k]?=some c)(b:Nat):c∈Subs.pick cs b↔b/2^k%2=1:=by
 rw[Subs.Yx,Tt]
 constructor
 ·rintro⟨j,_,h⟩
  by_cases e:b/2^j%2=1
  ·rw[if_pos e] at h
   have:j=k:=by
    obtain⟨h1,h2⟩:=X4.mp h
    obtain⟨h3,h4⟩:=X4.mp hk
    exact(Ry nd).mp (h2.trans h4.symm)
   subst this
   exact e
  ·rw[if_neg e] at h
   cases h
 ·intro e
  refine⟨k,Wf.mpr (X4.mp hk).1,?_⟩
  rw[if_pos e,hk]
def tellP (rs:List Str)(q:List (Nat×Nat))(c:Nat×Nat):Bool:=decide (((Grow.cnt (nearF rs) c q:Nat):Int)=qQ rs c)
noncomputable def mcQ (rs:List Str)(part:List (Nat×Nat))(c:Nat×Nat):Int×Int:=(((Subs.mk (part.map (nearF rs c)):Nat):Int),qQ rs c)
def zai (rs:List Str)(os:List (Nat×Nat))(b:Nat):Bool:=os.all (tellP rs (Subs.pick (zp rs) b))
noncomputable def bsO (rs:List Str)(os:List (Nat×Nat)):List Nat:=(W9 (2^(zp rs).length)).filter (zai rs os)
noncomputable def bz (rs:List Str)(b:Nat):Int×Int:=(((b:Nat):Int),(((Subs.pick (zp rs) b).length:Nat):Int))
theorem zdE (rs:List Str)(b:Nat):zai rs (zF rs) b=jI rs (Subs.pick (zp rs) b):=rfl
theorem znN {rs:List Str}{n:Int}(n0:0<=n):zbg rs n=(((bsO rs (zF rs)).filter (fun b=>decide ((bz rs b).2=n))).length:Nat):=by
 unfold zbg Tally.T bsO
 rw[Subs.yq,Ue,Sm,Wj]
 congr 2
 refine V0 fun b _=>?_
 show (decide ((Subs.pick (zp rs) b).length=n.toNat)&&jI rs (Subs.pick (zp rs) b))=(decide ((bz rs b).2=n)&&zai rs (zF rs) b)
 rw[zdE]
 congr 1
 refine decide_eq_decide.mpr ?_
 show _↔(((Subs.pick (zp rs) b).length:Nat):Int)=n
 lia
theorem zqx {rs:List Str}{n:Int}(n0:0<=n){k:Nat}{c:Nat×Nat}(hk:(zp rs)[k]?=some c):Ju rs n c=(((bsO rs (zF rs)).filter (fun b=>decide ((bz rs b).2=n)&&decide (b/2^k%2=1))).length:Nat):=by
 unfold Ju Tally.T bsO
 rw[Subs.yq,Ue,Sm,Wj]
 congr 2
 refine V0 fun b _=>?_
 show (decide ((Subs.pick (zp rs) b).length=n.toNat)&&(jI rs (Subs.pick (zp rs) b)&&decide (c∈Subs.pick (zp rs) b)))=((decide ((bz rs b).2=n)&&decide (b/2^k%2=1))&&zai rs (zF rs) b)
 rw[zdE,show decide (c∈Subs.pick (zp rs) b)=decide (b/2^k%2=1) from decide_eq_decide.mpr (zpu (YQ rs) hk b),Ub (jI rs _),<- S5]
 congr 2
 refine decide_eq_decide.mpr ?_
 show _↔(((Subs.pick (zp rs) b).length:Nat):Int)=n
 lia
theorem znO {rs:List Str}{n:Int}{ks:List (List (Int×Int))}(h:ks.Perm ((LY.zaz n (LY.ZM rs)).filter (LY.zck rs))):ks.length=((bsO rs (zF rs)).filter (fun b=>decide ((bz rs b).2=n))).length:=by
 rw[h.length_eq,<- LY.zpr,ZB]
 unfold bsO
 rw[Wj]
 rfl
def nrF (rs:List Str)(x:Nat×Nat):Bool:=(zF rs).any fun o=>nearF rs o x
noncomputable def yZ (rs:List Str):List (Nat×Nat):=(zp rs).filter (nrF rs)
noncomputable def osC (rs:List Str):List (Nat×Nat):=(zF rs).filter fun c=>(zp rs).any (nearF rs c)
theorem znP {rs:List Str}{x:Nat×Nat}(hx:x∈zp rs):((osC rs).any fun o=>nearF rs o x)=nrF rs x:=by
 unfold nrF osC
 rw[WU,WS,WS]
 constructor
 ·rintro⟨o,ho,h⟩
  exact⟨o,(XX.mp ho).1,h⟩
 ·rintro⟨o,ho,h⟩
  exact⟨o,XX.mpr ⟨ho,WS.mpr ⟨x,hx,h⟩⟩,h⟩
theorem znQ (rs:List Str)(S:List (Nat×Nat)):(osC rs).all (tellP rs S)=qH rs S:=by
 rw[WU,jR,WT]
 unfold osC
 have key:∀o,(zp rs).any (nearF rs o)=true↔clA rs o ≠ []:=fun o=>by
  rw[WS]
  constructor
  ·rintro⟨x,hx,h⟩ e
   have:=(JK hx).mp h
   rw[e] at this
   cases this
  ·intro h
   cases e:clA rs o with
   | nil=>exact absurd e h
   | cons x r =>
    have hx:x∈clA rs o:=by rw[e];exact XR
    exact⟨x,Jg hx,(JK (Jg hx)).mpr hx⟩
 constructor
 ·intro h o ho hc
  exact of_decide_eq_true (h o (XX.mpr ⟨ho,(key o).mpr hc⟩))
 ·intro h o ho
  obtain⟨h1,h2⟩:=XX.mp ho
  exact decide_eq_true (h o h1 ((key o).mp h2))
theorem zjN {rs:List Str}{gs:List (List (Nat×Nat))}(G:Parts.Good (clA rs) (zF rs) gs):Tally.tl gs.flatten (Tally.yc (qW rs) gs)=Tally.tl (yZ rs) (qH rs):=by
 rw[Tally.zgH fun S _=>Q3 G S]
 refine Tally.znp ((VX G.nd ((YQ rs).sublist Ww)).mpr fun c=>?_) (zfw rs)
 rw[zhc G]
 show _↔c∈(zp rs).filter (nrF rs)
 unfold nrF
 rw[XX,WS]
theorem zkK (rs:List Str):Cnt.xg (yZ rs).length (((bsO rs (osC rs)).filter fun b=>(Subs.pick (zp rs) b).all (nrF rs)).map (Subs.pick (zp rs)))=Tally.tl (yZ rs) (qH rs):=by
 unfold Cnt.xg Tally.tl Tally.T
 refine Xi fun k _=>?_
 congr 1
 unfold yZ
 rw[<- zht,Subs.yq,To,Ue,Ue,To]
 unfold bsO
 rw[To]
 refine Vf fun b _=>?_
 simp only[Function.comp,Wq,decide_eq_true_eq]
 unfold zai
 rw[znQ]
 constructor
 ·rintro⟨⟨h1,h2⟩,h3⟩
  exact⟨⟨h1,h3⟩,h2⟩
 ·rintro⟨⟨h1,h3⟩,h2⟩
  exact⟨⟨h1,h2⟩,h3⟩
theorem ziG {rs:List Str}{b:Nat}(h:(Subs.pick (zp rs) b).all (nrF rs)=true):(Subs.pick (zp rs) b).length<=(yZ rs).length:=by
 have s:=(LY.zbl (zp rs) b).filter (nrF rs)
 rw[List.filter_eq_self.mpr fun x hx=>WT.mp h x hx] at s
 exact s.length_le
def zfN:Sp:=fun vs H Q _=>∃(l ca:Addr) (us:List V) (rs:List Str) (cs:List (Nat×Nat)),vs=[.ref l,.ref ca]/\H l=some (.lst (rs.map V.str))/\Rows bd.cps.toList rs/\H ca=some (.lst us)/\Cel H us cs/\cs.length<=64 /\
 ∀(d:Addr) (ws:List V) (H':Hp),H d=none->H' d=some (.lst ws)->jC H' ws ((zF rs).map (mcQ rs cs))->zB H H'->Q (.ref d) H'
def zmA:Sp:=fun vs H Q _=>∃(ma:Addr) (mw:List V) (rs:List Str) (os:List (Nat×Nat)),vs=[.ref ma,.int (((zp rs).length:Nat):Int)]/\H ma=some (.lst mw)/\jC H mw (os.map (mcQ rs (zp rs)))/\(zp rs).length<=14/\os.length<=64 /\
 ∀(d:Addr) (ws:List V) (H':Hp),H d=none->H' d=some (.lst ws)->jC H' ws ((bsO rs os).map (bz rs))->zB H H'->Q (.ref d) H'
section
variable {P:Xy}{w:W6}{K:X8}{mg:Str->Option X9}{base:Heap}{f:Addr}{fd:XO}
theorem YX:zQ ["_law_rows_here","_law_cells_here","_law_masks_here","_law_cell"] ["_law_rows_here","_law_cells_here"] (zg Zt):=⟨rfl,rfl,rfl,by decide +kernel,rfl,by decide +kernel,by decide +kernel⟩
theorem zbm (T:Txt mg)(Z:Prog K mg)(D:zk K mg "_law_masks" Zt ["_law_rows_here","_law_cells_here"] f fd):zI P w K mg base CX0 4 f fd ["_law_rows_here","_law_cells_here"] zfN:=by
 obtain⟨QE,YY,ju⟩:=Z.law_cells
 obtain⟨ziH,zhu,qk⟩:=Z.law_near
 obtain⟨znR,zmI,yy⟩:=Z.law_around
 obtain⟨ziI,zhv,YZ⟩:=Z.law_mask
 have QF:zI P w K mg base CX0 1 QE YY ["_law_rows_here","_law_signs_here"] zc9:=za5 T ju
 have ziJ:zI P w K mg base CX0 3 ziI zhv ["_law_rows_here","_law_cells_here","_law_cell"] zmx:=zhn T YZ qk yy
 refine D.F.ok YX (fun vs H Q E h=>?_) (fun cdv A outer s H vs Q E hr h=>?_)
 ·obtain⟨l,ca,us,rs,cs,rfl,_⟩:=h
  rfl
 ·obtain⟨l,ca,us,rs,cs,rfl,hl,R,hca,hcs,cl,q⟩:=h
  refine⟨_,(zd (zD (i:=2) YX.nd rfl (XM rfl) (qu zb))
   (zd (qA Xd rfl (zU (zo QF (hr.mono (by decide)) (by rfl) ju.g ju.F.kp ju.b .nil zL (za (pv 0) (za jw zb)))) (zm (i:=3) YX.nd rfl (XM rfl)) (zh (yk (Jr WY Wt Ws jj (pv 2) (za (jO (za (zo ziJ (hr.mono (by decide)) (by rfl) YZ.g YZ.F.kp YZ.b .nil zL (za (pv 0) (za (pv 1) (za (pv 3) zb)))) (za (jb Yu (by rfl) T.zc4 VO (za (zZ ZC (zZ qS (pv 0) (zZ qU (pv 3) zf (fun _ _=>rfl)) (fun _ _=>rfl)) (zZ qU (pv 3) zf (fun _ _=>rfl)) (fun _ _=>rfl)) zb)) zb))) zb)))))
   (zh (zO (pv 2))))),?_⟩
  refine⟨(by show 0<=XU;decide),fun ma hma=>?_⟩
  refine⟨_,rfl,l,rs,"012345678",rfl,ze hma _ _ hl,R,fun dc wc H2 hdc zqy hcc s2=>?_⟩
  rw[zic R] at hcc
  have hma2:=s2 _ _ (zc (H:=H) (a:=ma) (o:=.lst []))
  have s12:zB H H2:=(ze hma).trans s2
  have ol:(zF rs).length<=64:=qJ (p:=Jt) R
  refine⟨dc,rfl,⟨_,SqL.of zqy⟩,?_⟩
  refine jS (K:=K) (a:=dc) (xs:=wc) (fun j σ' H'=>∃(mw:List V) (v3:Option V),σ'=[some (.ref l),some (.ref ca),some (.ref ma),v3]/\zB H H'/\H' dc=some (.lst wc)/\Cel H' wc (zF rs)/\H' ma=some (.lst mw)/\jC H' mw (((zF rs).take j).map (mcQ rs cs)))
   ⟨[],_,rfl,s12,zqy,hcc,hma2,.nil⟩ (fun j σ' H' _ ⟨_,_,_,_,y,_⟩=>SqL.of y) ?_ ?_
  ·rintro j v σ' H3 hv ⟨mw,v3,rfl,s3,hdc3,hcc3,hma3,ht3⟩
   obtain⟨c,hc,ya,rfl,hya⟩:=Cel.get hcc3 hv
   obtain⟨t,sg,ht',hj,hop,es⟩:=qe (X2 hc)
   obtain⟨l1,l2⟩:=yO R ht' hj
   obtain⟨o1,o2⟩:=QZ (zcA R ht' hj) hop
   have en:qQ rs c=((sg:Nat):Int)-48:=by
    unfold qQ
    rw[es]
   refine⟨_,rfl,.inl ⟨rfl,_,SqL.of hma3⟩,_,rfl,_,rfl,_,rfl,l,ca,ya,us,rs,cs,c,rfl,s3 _ _ hl,R,s3 _ _ hca,hcs.mono s3,cl,hya,l1,l2,fun H4 s4=>?_⟩
   have s04:=s3.trans s4
   have zpv:=s4 _ _ hma3
   have mwl:mw.length<=64:=by
    rw[jH ht3,ZB,XQ]
    lia
   have tk:((zF rs).take (j+1)).map (mcQ rs cs)=((zF rs).take j).map (mcQ rs cs)++[mcQ rs cs c]:=by
    rw[XJ,hc,Xv]
    rfl
   rw[tk]
   refine⟨_,rfl,_,rfl,ya,_,0,_,rfl,rfl,SqT.of (s4 _ _ hya),rfl,l,_,_,.str t,rfl,rfl,SqL.of (s04 _ _ hl),xX (by rw[XE,ht'];rfl),_,rfl,ya,_,1,_,rfl,rfl,SqT.of (s4 _ _ hya),rfl,t,_,sg,rfl,rfl,R.tlen ht',xX hj,⟨#[sg]⟩,_,rfl,int_sign o1 o2,(by show 1<=640;decide),(by show 2<=XU;decide),fun tt htt=>?_⟩
   rw[<- en] at *
   have s5:=ze (o:=.tup [.int (Subs.mk (cs.map (nearF rs c)):Nat),.int (qQ rs c)]) htt
   have hma5:=s5 _ _ zpv
   have r5:jC (upd H4 tt (.tup [.int (Subs.mk (cs.map (nearF rs c)):Nat),.int (qQ rs c)])) [.ref tt] [mcQ rs cs c]:=.cons ⟨tt,rfl,zc⟩ .nil
   have dne:dc≠ma:=fun e=>by
    rw[e] at hdc
    rw[zc] at hdc
    cases hdc
   refine⟨ma,mw,_,rfl,rfl,hma5,XH mwl (by decide),mw++[.ref tt],_,rfl,fun b' o e=>?_,?_,?_,zc,jk hma5 (Qw (qf (s4.trans s5) ht3) r5)⟩
   ·rw[zu (zj e hma)]
    exact s5 _ _ (s04 _ _ e)
   ·rw[zu dne]
    exact s5 _ _ (s4 _ _ hdc3)
   ·exact Jf (jk hma5 (Cel.tup2 ((hcc3.mono s4).mono s5)))
  ·rintro σ' H3 ⟨mw,v3,rfl,s3,hdc3,hcc3,hma3,ht3⟩
   rw[hcc.length,XG] at ht3
   exact⟨_,rfl,q ma mw H3 hma hma3 ht3 s3⟩
theorem Y0:zQ ["_law_masks_here","_law_many","_law_ones_here","_law_found","_law_bits"] ["_law_masks_here","_law_many"] (zg Z5):=⟨rfl,rfl,rfl,by decide +kernel,rfl,by decide +kernel,by decide +kernel⟩
theorem zdF (T:Txt mg)(Z:Prog K mg)(D:zk K mg "_law_fit" Z5 ["_law_masks_here","_law_many"] f fd):zI P w K mg base CX0 2 f fd ["_law_masks_here","_law_many"] zmA:=by
 obtain⟨ziK,zhw,Y4⟩:=Z.law_ones
 have ziL:zI P w K mg base CX0 1 ziK zhw ["_law_many"] zmw:=zhm T Y4
 refine D.F.ok Y0 (fun vs H Q E h=>?_) (fun cdv A outer s H vs Q E hr h=>?_)
 ·obtain⟨ma,mw,rs,os,rfl,_⟩:=h
  rfl
 ·obtain⟨ma,mw,rs,os,rfl,hma,ht,cl,ol,q⟩:=h
  have p14:2^(zp rs).length<=16384:=Wu (by decide) cl
  refine⟨_,(zd (zD (i:=2) Y0.nd rfl (VF rfl) (zo ziL (hr.mono (by decide)) (by rfl) Y4.g Y4.F.kp Y4.b .nil zL (za (pv 1) zb)))
   (zd (zD (i:=3) Y0.nd rfl (XM rfl) (qu zb))
   (zd (qA Xd rfl (qR (by rfl) T.ji (za (zG zkY zf (pv 1)) zb)) (zm (i:=4) Y0.nd rfl (VF rfl)) (zh (jA (JT (zz (zlb rfl) (by rfl) T.zqc PyProof.Rows.boot_all (za (qd (N:=["_law_mask_here","_law_number","_law_ones_here","_law_bits"]) (src:=[none,none,some 2,some 4]) (zY.free (O:=(zg Z5).names) (XN:=["_law_masks_here","_law_many","_law_ones_here","_law_found","_law_bits"]) rfl rfl ⟨_,rfl⟩ rfl rfl (by decide +kernel) (by decide +kernel) (by decide +kernel) rfl (by decide +kernel)) rfl (zU (pv 0)) (fun _ _ _ _ _=>(Yt (n:=2) (K:=K) (by rfl) rfl (zT (zm (i:=0) (by show Xg (["_law_mask_here","_law_number","_law_ones_here","_law_bits"]:List Str);decide +kernel) rfl (XM rfl)) (zT (zm (i:=1) (by show Xg (["_law_mask_here","_law_number","_law_ones_here","_law_bits"]:List Str);decide +kernel) rfl (XM rfl)) jh)))) (fun _ _ _ _ _=>qL) (fun _ _ _ _ _=>(Zm Jq (zZ (ZP (K:=K) (by rfl)) (pv 2) (zG ze1 (pv 3) (pv 0)) (fun _ _=>rfl)) (pv 1) (z9 _)))) zb)) (fun _=>rfl)) (zh (yk (Jr WY Wt Ws jj (pv 3) (za (jO (za (pv 4) (za (zZ qS (pv 2) (pv 4) (fun _ _=>rfl)) zb))) zb)))) qp)))
   (zh (zO (pv 3)))))),?_⟩
  refine⟨_,rfl,(zp rs).length,rfl,cl,fun oa H1 hoa s1=>?_⟩
  refine⟨(by show 0<=XU;decide),fun da hda=>?_⟩
  refine⟨_,rfl,_,_,rfl,rfl,⟨by lia,by lia,by decide⟩,((2^(zp rs).length:Nat):Int),?_,VN (by decide) (R6 _),Int.lt_of_le_of_lt (Int.ofNat_le.mpr p14) (by decide),?_⟩
  ·show [V.int (1*2^(((zp rs).length:Nat):Int).toNat)]=_
   rw[WV,OG,Int.natCast_pow]
   rfl
  rw[WV]
  refine ja (lo:=0) (n:=2^(zp rs).length) (fun i σ H'=>∃(dw:List V) (v4:Option V),σ=[some (.ref ma),some (.int (((zp rs).length:Nat):Int)),some (.ref oa),some (.ref da),v4]/\zB H1 H'/\H' da=some (.lst dw)/\jC H' dw (((W9 i).filter (zai rs os)).map (bz rs))) ⟨[],_,rfl,ze hda,zc,.nil⟩ ?_ ?_
  ·rintro i σ H5 hi ⟨dw,v4,rfl,s5,hda5,hL5⟩
   have o_at:∀{x:Nat},x<2^(zp rs).length->∀v,v=(0:Int)+((x:Nat):Int)->atI (nV (Subs.ones (zp rs).length)) v=some (.int (((Subs.pick (zp rs) x).length:Nat):Int)):=fun {x} hx v e=>by
    subst e
    exact jx (by lia) (by rw[show ((0:Int)+((x:Nat):Int)).toNat=x by lia];exact zqv (Subs.znf _ hx))
   have er:(W9 (i+1)).filter (zai rs os)=(W9 i).filter (zai rs os)++(if zai rs os i=true then [i] else []):=by
    rw[Tz,XA,Xl]
    rfl
   rw[er]
   have hma5:=s5 _ _ (s1 _ _ hma)
   refine⟨_,rfl,ma,rfl,⟨_,SqL.of hma5⟩,fun z2 hz2=>?_⟩
   refine qq (K:=K) (a:=ma) (xs:=mw) (fun j σ' H'=>∃(u0 u1:Option V),σ'=[u0,u1,some (.ref oa),some (.int (0+(i:Int)))]/\zB H5 H'/\H' z2=some (.lst (((os.take j).map (tellP rs (Subs.pick (zp rs) i))).map V.bl)))
    ⟨_,_,rfl,ze hz2,zc⟩ (fun j σ' H' _ ⟨_,_,_,y,_⟩=>SqL.of (y _ _ hma5)) ?_ ?_
   ·rintro j v σ' H6 hv ⟨u0,u1,rfl,s6,hz6⟩
    obtain⟨pq,hpq,va,rfl,hva⟩:=Ji (qf (s1.trans (s5.trans s6)) ht) hv
    obtain⟨c,hc,rfl⟩:∃c,os[j]?=some c/\mcQ rs (zp rs) c=pq:=by
     rw[XE] at hpq
     exact VT.mp hpq
    have jl:=(X4.mp hc).1
    have mlt:i &&& Subs.mk ((zp rs).map (nearF rs c))<2^(zp rs).length:=Subs.zo0 (by
     have:=Subs.zn3 ((zp rs).map (nearF rs c))
     rw[ZB] at this
     exact this)
    refine⟨va,_,rfl,SqT.of hva,rfl,_,_,rfl,_,_,rfl,rfl,?_⟩
    refine zat ?_
    refine⟨_,rfl,_,rfl,_,rfl,_,_,rfl,rfl,oa,_,_,_,rfl,rfl,SqL.of (s6 _ _ (s5 _ _ hoa)),o_at mlt _ ?_,_,rfl,rfl,_,hz6,?_,_,_,rfl,fun b' o e=>?_,?_⟩
    ·show Vk (0+(i:Int)) ((Subs.mk ((zp rs).map (nearF rs c)):Nat):Int)=_
     rw[Wi,Wi,zfM]
    ·rw[ZB,ZB,XQ]
     exact XH (X0 (Nat.min_le_right _ _) ol) (by decide)
    ·rw[zu (zj e hz2)]
     exact s6 _ _ e
    ·rw[zc,XJ,hc,Subs.zgD,Xv,Xv]
     have e9:decide (V.int ((((Subs.pick (zp rs) i).filter (nearF rs c)).length:Nat):Int)=V.int (mcQ rs (zp rs) c).2)=tellP rs (Subs.pick (zp rs) i) c:=by
      simp only[V.int.injEq]
      rfl
     rw[e9]
     rfl
   ·rintro σ' H6 ⟨u0,u1,rfl,s6,hz6⟩
    have mo:mw.length=os.length:=by
     rw[jH ht,ZB]
    rw[mo,XG] at hz6
    refine⟨z2,_,rfl,SqL.of hz6,_,rfl,?_⟩
    rw[List.all_map]
    have s46:=s5.trans s6
    have zmB:=s6 _ _ hda5
    by_cases ha:zai rs os i=true
    ·have dl:dw.length<=16384:=by
      rw[jH hL5,ZB]
      refine X0 (Xz _ _) ?_
      rw[WL]
      lia
     refine JE ha ⟨_,rfl,.inl ⟨rfl,_,SqL.of zmB⟩,_,rfl,_,rfl,_,rfl,oa,_,_,_,rfl,rfl,SqL.of (s46 _ _ hoa),o_at (x:=i) hi _ rfl,(by show 2<=XU;decide),fun tt htt=>?_⟩
     have eb:(HO.tup [.int (0+(i:Int)),.int (((Subs.pick (zp rs) i).length:Nat):Int)])=.tup [.int (bz rs i).1,.int (bz rs i).2]:=by
      rw[Wi]
      rfl
     rw[eb]
     have s7:=ze (o:=.tup [.int (bz rs i).1,.int (bz rs i).2]) htt
     have hda7:=s7 _ _ zmB
     refine⟨da,dw,_,rfl,rfl,hda7,XH dl (by decide),dw++[.ref tt],_,rfl,fun b' o e=>?_,zc,?_⟩
     ·rw[zu (zj e hda)]
      exact s7 _ _ (s46 _ _ e)
     ·rw[if_pos ha,Xv]
      exact jk hda7 (Qw (qf (s6.trans s7) hL5) (.cons ⟨tt,rfl,zc⟩ .nil))
    ·refine xu (Xc.mpr ha) ⟨dw,_,rfl,s46,zmB,?_⟩
     rw[if_neg ha,W4]
     exact qf s6 hL5
  ·rintro σ H5 ⟨dw,v4,rfl,s5,hda5,hL5⟩
   exact⟨_,rfl,q da dw H5 (s1.free hda) hda5 hL5 (s1.trans s5)⟩
end
theorem zmC {P Q:Prop}{b c:Bool}(h:b=c)(hp:c=true->P)(hq:c=false->Q):if b=true then P else Q:=by
 subst h
 cases b
 ·exact hq rfl
 ·exact hp rfl
def zjO:Sp:=fun vs H Q _=>∃(l ca:Addr) (us:List V) (rs:List Str),vs=[.ref l,.ref ca]/\H l=some (.lst (rs.map V.str))/\Rows bd.cps.toList rs/\H ca=some (.lst us)/\Cel H us (zp rs)/\(zp rs).length<=14 /\
 ∀(d:Addr) (H':Hp),H d=none->H' d=some (.lst (iL (Tally.tl (yZ rs) (qH rs))))->zB H H'->Q (.ref d) H'
noncomputable def nmO (rs:List Str)(os:List (Nat×Nat)):Nat:=Subs.mk ((zp rs).map fun x=>os.any fun o=>nearF rs o x)
theorem znS (rs:List Str)(os:List (Nat×Nat))(o:Nat×Nat):TJ ((nmO rs os:Nat):Int) (mcQ rs (zp rs) o).1=((nmO rs (os++[o]):Nat):Int):=by
 show TJ ((nmO rs os:Nat):Int) ((Subs.mk ((zp rs).map (nearF rs o)):Nat):Int)=_
 rw[zps]
 unfold nmO
 rw[zqw]
 simp only[List.any_append,SG,List.any_nil,Bool.or_false]
theorem zpw (rs:List Str):nmO rs []=0:=by
 unfold nmO
 induction zp rs with
 | nil=>rfl
 | cons c r ih =>
  show (if false=true then 1 else 0)+2*Subs.mk (r.map fun x=>[].any fun o=>nearF rs o x)=0
  rw[ih]
  rfl
theorem zqz (rs:List Str):nmO rs (osC rs)=Subs.mk ((zp rs).map (nrF rs)):=by
 unfold nmO
 rw[Xi fun x hx=>znP hx]
theorem zmD (rs:List Str){b:Nat}(h:b<2^(zp rs).length):decide (V.int (Vk (bz rs b).1 ((Subs.mk ((zp rs).map (nrF rs)):Nat):Int))=V.int (bz rs b).1)=(Subs.pick (zp rs) b).all (nrF rs):=by
 rw[<- within (nrF rs) (zp rs) b h]
 show decide (V.int (Vk ((b:Nat):Int) _)=V.int ((b:Nat):Int))=_
 rw[zfM]
 refine decide_eq_decide.mpr ⟨fun h=>?_,fun h=>by rw[h]⟩
 injection h with h
 exact OZ.mp h
theorem znT (rs:List Str)(c:Nat×Nat):decide ((0:Int)<(mcQ rs (zp rs) c).1)=(zp rs).any (nearF rs c):=by
 have:=mk_pos ((zp rs).map (nearF rs c))
 rw[US] at this
 exact this
section
variable {P:Xy}{w:W6}{K:X8}{mg:Str->Option X9}{base:Heap}{f:Addr}{fd:XO}
theorem qb:zQ ["_law_rows_here","_law_cells_here","_law_masks_here","_law_near_here","_law_mask_here","_law_number","_law_some","_law_counts","_law_bits","_law_size"] ["_law_rows_here","_law_cells_here"] (zg jt):=⟨rfl,rfl,rfl,by decide +kernel,rfl,by decide +kernel,by decide +kernel⟩
theorem zaB (T:Txt mg)(Z:Prog K mg)(D:zk K mg "_law_near_counts" jt ["_law_rows_here","_law_cells_here"] f fd):zI P w K mg base CX0 5 f fd ["_law_rows_here","_law_cells_here"] zjO:=by
 obtain⟨QG,Y5,jv⟩:=Z.law_masks
 obtain⟨zbX,zaC,yC⟩:=Z.law_fit
 have QH:zI P w K mg base CX0 4 QG Y5 ["_law_rows_here","_law_cells_here"] zfN:=zbm T Z jv
 have zbY:zI P w K mg base CX0 2 zbX zaC ["_law_masks_here","_law_many"] zmA:=zdF T Z yC
 refine D.F.ok qb (fun vs H Q E h=>?_) (fun cdv A outer s H vs Q E hr h=>?_)
 ·obtain⟨l,ca,us,rs,rfl,_⟩:=h
  rfl
 ·obtain⟨l,ca,us,rs,rfl,hl,R,hca,hcs,cl,q⟩:=h
  have ul:=hcs.length
  have ol:(zF rs).length<=64:=qJ (p:=Jt) R
  have ol2:(osC rs).length<=64:=X0 (Xz _ _) ol
  refine⟨_,(zd (JF (i:=2) qb.nd rfl rfl (N:=["_law_pair"]) (src:=[none]) (zY.plain rfl (by decide +kernel) (by decide +kernel) (by decide +kernel) rfl (by decide)) rfl (zU (zo QH (hr.mono (by decide)) (by rfl) jv.g jv.F.kp jv.b .nil zL (za (pv 0) (za (pv 1) zb)))) (fun _ _ _ _ _=>(zm (i:=0) (by show Xg (["_law_pair"]:List Str);decide +kernel) rfl (XM rfl))) (fun _ _ _ _ _=>(qh (zP zi7 (zZ (zaM (K:=K) (by rfl)) (pv 0) zf (fun _ _=>rfl)) zf (z9 _)))) (fun _ _ _ _ _=>(pv 0)))
   (zd (zD (i:=3) qb.nd rfl (VF rfl) zf)
   (zd (qA Xd rfl (zU (pv 2)) (Jl rfl (zT (zm (i:=4) qb.nd rfl (XM rfl)) (zT (zm (i:=5) qb.nd rfl (XM rfl)) jh))) (zh (zD (i:=3) qb.nd rfl (VF rfl) (zG zpN (pv 3) (pv 4)))))
   (zd (JF (i:=6) qb.nd rfl rfl (N:=["_law_k","_law_near_here"]) (src:=[none,some 3]) (zY.free (O:=(zg jt).names) (XN:=["_law_rows_here","_law_cells_here","_law_masks_here","_law_near_here","_law_mask_here","_law_number","_law_some","_law_counts","_law_bits","_law_size"]) rfl rfl ⟨_,rfl⟩ rfl rfl (by decide +kernel) (by decide +kernel) (by decide +kernel) rfl (by decide +kernel)) rfl (qR (by rfl) T.ji (za (zz zE (by rfl) T.qN Xh (za (pv 1) zb)) zb)) (fun _ _ _ _ _=>(zm (i:=0) (by show Xg (["_law_k","_law_near_here"]:List Str);decide +kernel) rfl (XM rfl))) (fun _ _ _ _ _=>(qh (zP Jq (zG ze1 (zG zkZ (pv 1) (pv 0)) zf) zf (z9 _)))) (fun _ _ _ _ _=>(pv 0)))
   (zd (JF (i:=7) qb.nd rfl rfl (N:=["_law_k"]) (src:=[none]) (zY.plain rfl (by decide +kernel) (by decide +kernel) (by decide +kernel) rfl (by decide)) rfl (qR (by rfl) T.ji (za (zG qT (zz zE (by rfl) T.qN Xh (za (pv 6) zb)) zf) zb)) (fun _ _ _ _ _=>(zm (i:=0) (by show Xg (["_law_k"]:List Str);decide +kernel) rfl (XM rfl))) (fun _ _ _ _ _=>qL) (fun _ _ _ _ _=>zf))
   (zd (qA Xd rfl (zU (zo zbY (hr.mono (by decide)) (by rfl) yC.g yC.F.kp yC.b .nil zL (za (pv 2) (za (zz zE (by rfl) T.qN Xh (za (pv 1) zb)) zb)))) (Jl rfl (zT (zm (i:=8) qb.nd rfl (XM rfl)) (zT (zm (i:=9) qb.nd rfl (XM rfl)) jh))) (zh (jA (zP Jq (zG ze1 (pv 8) (pv 3)) (pv 8) (z9 _)) (zh (zhD (zG qT (zZ qS (pv 7) (pv 9) (fun _ _=>rfl)) zf) (zkW (pv 7) (pv 9) set_list))) qp)))
   (zh (zO (pv 7))))))))),?_⟩
  refine⟨_,rfl,_,rfl,l,ca,us,rs,zp rs,rfl,hl,R,hca,hcs,by lia,fun dm wm H1 hdm zqA htm s1=>?_⟩
  refine⟨dm,rfl,⟨_,SqL.of zqA⟩,fun z hz=>?_⟩
  have wml:wm.length=(zF rs).length:=by
   rw[jH htm,ZB]
  refine qq (K:=K) (a:=dm) (xs:=wm) (fun j σ' H'=>∃(u0:Option V) (ys:List V),σ'=[u0]/\zB H1 H'/\H' z=some (.lst ys)/\jC H' ys ((((zF rs).take j).filter fun c=>(zp rs).any (nearF rs c)).map (mcQ rs (zp rs))))
   ⟨_,[],rfl,ze hz,zc,.nil⟩ (fun j σ' H' _ ⟨_,_,_,y,_⟩=>SqL.of (y _ _ zqA)) ?_ ?_
  ·rintro j v σ' H2 hv ⟨u0,ys,rfl,s2,hz2,ht2⟩
   obtain⟨pq,hpq,va,rfl,hva⟩:=Ji (qf s2 htm) hv
   obtain⟨c,hc,rfl⟩:∃c,(zF rs)[j]?=some c/\mcQ rs (zp rs) c=pq:=by
    rw[XE] at hpq
    exact VT.mp hpq
   have yl:ys.length<=64:=by
    rw[jH ht2,ZB]
    refine X0 (Xz _ _) ?_
    rw[XQ]
    lia
   refine⟨_,rfl,va,_,0,_,rfl,rfl,SqT.of hva,rfl,_,_,rfl,rfl,_,rfl,?_⟩
   rw[XJ,hc,XA,Xv]
   refine zmC (znT rs c) (fun hp=>?_) fun hp=>?_
   ·have e1:([c].filter fun c=>(zp rs).any (nearF rs c))=[c]:=by
     rw[Xl,if_pos hp]
     rfl
    refine⟨_,rfl,ys,hz2,XH yl (by decide),_,ys++[.ref va],rfl,fun b' o e=>?_,zc,?_⟩
    ·rw[zu (zj e hz)]
     exact s2 _ _ e
    ·show jC _ _ (_++([c].filter fun c=>(zp rs).any (nearF rs c)).map _)
     rw[e1]
     exact jk hz2 (Qw ht2 (.cons ⟨va,rfl,hva⟩ .nil))
   ·have e1:([c].filter fun c=>(zp rs).any (nearF rs c))=[]:=by
     rw[Xl,if_neg (by rw[hp];decide)]
     rfl
    refine⟨_,ys,rfl,s2,hz2,?_⟩
    show jC _ _ (_++([c].filter fun c=>(zp rs).any (nearF rs c)).map _)
    rw[e1,Td,W4]
    exact ht2
  ·rintro σ' H2 ⟨u0,ys,rfl,s2,hz2,ht2⟩
   rw[wml,XG] at ht2
   have ht2:jC H2 ys ((osC rs).map (mcQ rs (zp rs))):=ht2
   have s12:=s1.trans s2
   have yl:ys.length=(osC rs).length:=by
    rw[jH ht2,ZB]
   refine⟨_,rfl,z,rfl,⟨_,SqL.of hz2⟩,?_⟩
   refine jS (K:=K) (a:=z) (xs:=ys) (fun j σ' H'=>∃(v4 v5:Option V),σ'=[some (.ref l),some (.ref ca),some (.ref z),some (.int (nmO rs ((osC rs).take j):Nat)),v4,v5,none,none,none,none]/\H'=H2)
    ⟨none,none,by rw[List.take_zero,zpw];rfl,rfl⟩ (fun j σ' H' _ ⟨_,_,_,y⟩=>by rw[y];exact SqL.of hz2) ?_ ?_
   ·rintro j v σ' H3 hv ⟨v4,v5,rfl,rfl⟩
    obtain⟨pq,hpq,va,rfl,hva⟩:=Ji ht2 hv
    obtain⟨c,hc,rfl⟩:∃c,(osC rs)[j]?=some c/\mcQ rs (zp rs) c=pq:=by
     rw[XE] at hpq
     exact VT.mp hpq
    refine⟨va,_,rfl,SqT.of hva,rfl,_,_,rfl,_,_,rfl,rfl,?_⟩
    refine⟨_,rfl,_,rfl,_,_,rfl,rfl,some (.int (mcQ rs (zp rs) c).1),some (.int (mcQ rs (zp rs) c).2),?_,rfl⟩
    rw[XJ,hc]
    show [_,_,_,some (V.int (TJ _ _)),_,_,_,_,_,_]=_
    rw[znS]
    rfl
   ·rintro σ' H3 ⟨v4,v5,rfl,rfl⟩
    rw[yl,XG,zqz]
    have hca2:=s12 _ _ hca
    refine⟨_,rfl,ca,us,rfl,.inl (SqL.of hca2),_,rfl,by lia,by lia,fun sa hsa=>?_⟩
    rw[WV,ul]
    refine JW (lo:=0) (n:=(zp rs).length) (fun k σ' H'=>∃(u0:Option V),σ'=[u0,some (.int (Subs.mk ((zp rs).map (nrF rs)):Nat))]/\zB H3 H'/\H' sa=some (.lst (nV ((W9 k).filter fun k=>((zp rs).map (nrF rs)).getD k false))))
     ⟨_,rfl,ze hsa,zc⟩ ?_ ?_
    ·rintro k σ' H4 hk ⟨u0,rfl,s4,hs4⟩
     have bn:=zjM (Subs.mk ((zp rs).map (nrF rs))) k
     rw[zpt] at bn
     have er:nV ((W9 (k+1)).filter fun k=>((zp rs).map (nrF rs)).getD k false)=nV ((W9 k).filter fun k=>((zp rs).map (nrF rs)).getD k false)++(if ((zp rs).map (nrF rs)).getD k false=true then [.int (k:Nat)] else []):=by
      unfold nV
      rw[Tz,XA,Xv,Xl]
      split<;>rfl
     rw[er]
     have nl:(nV ((W9 k).filter fun k=>((zp rs).map (nrF rs)).getD k false)).length<=14:=by
      unfold nV
      rw[ZB]
      refine X0 (Xz _ _) ?_
      rw[WL]
      lia
     refine⟨_,rfl,_,rfl,_,_,rfl,rfl,(by show (0:Int)<=0+(k:Int);lia),_,_,rfl,rfl,rfl,_,rfl,?_⟩
     rw[Wi,WV]
     refine zmC bn (fun hp=>?_) fun hp=>?_
     ·rw[if_pos hp]
      refine⟨_,rfl,_,hs4,XH nl (by decide),_,rfl,fun b' o e=>?_,zc⟩
      rw[zu (zj e hsa)]
      exact s4 _ _ e
     ·rw[if_neg (by rw[hp];decide),W4]
      exact⟨_,rfl,s4,hs4⟩
    ·rintro σ' H4 ⟨u0,rfl,s4,hs4⟩
     have sl:(nV ((W9 (zp rs).length).filter fun k=>((zp rs).map (nrF rs)).getD k false)).length=(yZ rs).length:=by
      unfold nV
      rw[ZB,zkJ]
      rfl
     have ncl:(yZ rs).length<=14:=X0 (Xz _ _) cl
     refine⟨_,rfl,sa,_,rfl,.inl (SqL.of hs4),_,_,rfl,rfl,_,rfl,by lia,by lia,fun na hna=>?_⟩
     rw[sl,show (((yZ rs).length:Nat)+1:Int).toNat=(yZ rs).length+1 by lia]
     refine JW (lo:=0) (n:=(yZ rs).length+1) (fun k σ' H'=>∃(u0:Option V),σ'=[u0]/\zB H4 H'/\H' na=some (.lst (iL (WF k 0))))
      ⟨_,rfl,ze hna,zc⟩ ?_ ?_
     ·rintro k σ' H5 hk ⟨u0,rfl,s5,hn5⟩
      unfold Q9
      refine zat ?_
      refine⟨_,hn5,?_,_,rfl,fun b' o e=>?_,?_⟩
      ·rw[ZB,Vr]
       exact XH (show k<=64 by lia) (by decide)
      ·rw[zu (zj e hna)]
       exact s5 _ _ e
      ·rw[zc,List.replicate_succ',zjA]
     ·rintro σ' H5 ⟨u0,rfl,s5,hn5⟩
      have s25:=s4.trans s5
      have s05:=s12.trans s25
      rw[<- Cnt.zgE (α:=Nat×Nat)] at hn5
      have hz5:=s25 _ _ hz2
      have ht5:=qf s25 ht2
      have na0:H na=none:=s12.free (s4.free hna)
      refine⟨_,rfl,_,rfl,ca,us,rfl,.inl (SqL.of (s05 _ _ hca)),z,ys,rs,osC rs,?_,hz5,ht5,cl,ol2,fun fa wf H6 hfa zg7 htf s6=>?_⟩
      ·rw[ul]
       rfl
      have hn6:=s6 _ _ hn5
      refine⟨fa,rfl,⟨_,SqL.of zg7⟩,?_⟩
      refine jS (K:=K) (a:=fa) (xs:=wf) (fun j σ' H'=>∃(v8 v9:Option V),σ'=[some (.ref l),some (.ref ca),some (.ref z),some (.int (Subs.mk ((zp rs).map (nrF rs)):Nat)),v4,v5,some (.ref sa),some (.ref na),v8,v9]/\zB H H'/\H' fa=some (.lst wf)/\jC H' wf ((bsO rs (osC rs)).map (bz rs))/\H' na=some (.lst (iL (Cnt.xg (yZ rs).length ((((bsO rs (osC rs)).take j).filter fun b=>(Subs.pick (zp rs) b).all (nrF rs)).map (Subs.pick (zp rs)))))))
       ⟨_,_,rfl,s05.trans s6,zg7,htf,hn6⟩ (fun j σ' H' _ ⟨_,_,_,_,y,_⟩=>SqL.of y) ?_ ?_
      ·rintro j v σ' H7 hv ⟨v8,v9,rfl,s7,hfa7,ht7,hn7⟩
       obtain⟨pq,hpq,va,rfl,hva⟩:=Ji ht7 hv
       obtain⟨b,hb,rfl⟩:∃b,(bsO rs (osC rs))[j]?=some b/\bz rs b=pq:=by
        rw[XE] at hpq
        exact VT.mp hpq
       have bl:b<2^(zp rs).length:=Wf.mp (XX.mp (X2 hb)).1
       refine⟨va,_,rfl,SqT.of hva,rfl,_,_,rfl,_,_,rfl,rfl,?_⟩
       refine⟨_,rfl,_,rfl,_,_,rfl,rfl,_,rfl,rfl,_,rfl,?_⟩
       rw[XJ,hb,XA,Xv]
       refine zmC (zmD rs bl) (fun hp=>?_) fun hp=>?_
       ·have e1:([b].filter fun b=>(Subs.pick (zp rs) b).all (nrF rs))=[b]:=by
         rw[Xl,if_pos hp]
         rfl
        have kl:=ziG hp
        refine⟨_,rfl,_,rfl,na,_,_,_,rfl,rfl,SqL.of hn7,xX (zfu (Cnt.zaY _ kl)),_,_,rfl,rfl,_,rfl,_,rfl,na,_,_,_,rfl,rfl,hn7,zio (R6 _) (by rw[ZB,Cnt.Qt];show (((Subs.pick (zp rs) b).length:Nat):Int)<_;lia),?_⟩
        have fne:fa≠na:=fun e=>by
         rw[e,hn5] at hfa
         cases hfa
        refine⟨_,_,rfl,fun b' o e=>?_,?_,jk hn7 ht7,?_⟩
        ·rw[zu (zj e na0)]
         exact s7 _ _ e
        ·rw[zu fne]
         exact hfa7
        ·show _=some (HO.lst (iL (Cnt.xg _ (_++([b].filter fun b=>(Subs.pick (zp rs) b).all (nrF rs)).map _))))
         rw[e1,zc,List.map_singleton,Cnt.zex _ kl]
         show some (HO.lst ((UU V.int _).set _ (V.int _)))=_
         rw[<- Re]
         rfl
       ·have e1:([b].filter fun b=>(Subs.pick (zp rs) b).all (nrF rs))=[]:=by
         rw[Xl,if_neg (by rw[hp];decide)]
         rfl
        refine⟨_,_,rfl,s7,hfa7,ht7,?_⟩
        show _=some (HO.lst (iL (Cnt.xg _ (_++([b].filter fun b=>(Subs.pick (zp rs) b).all (nrF rs)).map _))))
        rw[e1,Td,W4]
        exact hn7
      ·rintro σ' H7 ⟨v8,v9,rfl,s7,hfa7,ht7,hn7⟩
       have wfl:wf.length=(bsO rs (osC rs)).length:=by
        rw[jH htf,ZB]
       rw[wfl,XG,zkK] at hn7
       exact⟨_,rfl,q na H7 na0 hn7 s7⟩
end
section
variable {P:Xy}{w:W6}{K:X8}{mg:Str->Option X9}{base:Heap}{f:Addr}{fd:XO}
theorem zfO:zQ ["_law_found"] ["_law_found"] (zg Zr):=⟨rfl,rfl,rfl,by decide +kernel,rfl,by decide +kernel,by decide +kernel⟩
theorem zfP (T:Txt mg)(D:zk K mg "_law_whole" Zr ["_law_found"] f fd):zI P w K mg base CX0 1 f fd ["_law_found"] zgU:=by
 refine D.F.ok zfO (fun vs H Q E h=>?_) (fun cdv A outer s H vs Q E hr h=>?_)
 ·obtain⟨n,rfl,_⟩:=h
  rfl
 ·obtain⟨n,rfl,k⟩:=h
  refine⟨_,(zh (zO (zkU (zz Qj (by rfl) T.YH Uc (za (pv 0) (za (zeZ (v:=.ty "int") (by rfl) T.zc4 VO (by rfl)) zb))) (zkT (zos (zz Qj (by rfl) T.YH Uc (za (pv 0) (za (zeZ (v:=.ty "bool") (by rfl) T.zo5 PyProof.Rows.boot_bool (by rfl)) zb)))))))),?_⟩
  refine⟨_,rfl,_,"int","int",true,rfl,.int n,(by decide +kernel),true,rfl,Qi ?_⟩
  exact⟨_,rfl,_,"int","bool",false,rfl,.int n,(by decide +kernel),false,rfl,k⟩
end
def zjP:Sp:=fun vs H Q _=>∃(p l ca fa:Addr) (rs:List Str) (n:Int) (us ws:List V),vs=[.ref p,.ref ca,.ref fa]/\qj H p l rs n/\Rows bd.cps.toList rs/\0<=n/\H ca=some (.lst us)/\Cel H us (zp rs)/\(zp rs).length<=12/\H fa=some (.lst ws)/\jC H ws ((bsO rs (zF rs)).map (bz rs)) /\
 ∀H',zB H H'->Q (.bl true) H'
noncomputable def zaj (rs:List Str)(n:Int)(bs:List Nat):List Nat:=bs.filter fun b=>decide ((bz rs b).2=n)
noncomputable def zcb (rs:List Str)(n:Int)(k:Nat)(bs:List Nat):List Nat:=bs.filter fun b=>decide ((bz rs b).2=n)&&decide (b/2^k%2=1)
theorem zpx {rs:List Str}(os:List (Nat×Nat))(h:(zp rs).length<=12):(bsO rs os).length<=4096:=by
 refine X0 (Xz _ _) ?_
 rw[WL]
 exact Wu (n:=2) (by decide) h
theorem ziM (i j:Int):decide (V.int i=V.int j)=decide (i=j):=decide_eq_decide.mpr ⟨fun h=>by injection h,fun h=>by rw[h]⟩
theorem zdG {α:Type}(p:α->Bool)(b:α):[b].filter p=if p b=true then [b] else []:=by
 rw[Xl]
 rfl
section
variable {P:Xy}{w:W6}{K:X8}{mg:Str->Option X9}{base:Heap}{f:Addr}{fd:XO}
theorem yD:zQ ["_law_board_here","_law_cells_here","_law_fits","_law_many","_law_found","_law_k","_law_at","_law_due"] ["_law_board_here","_law_cells_here","_law_fits"] (zg yU):=⟨rfl,rfl,rfl,by decide +kernel,rfl,by decide +kernel,by decide +kernel⟩
theorem zfQ (T:Txt mg)(Z:Prog K mg)(D:zk K mg "_law_right" yU ["_law_board_here","_law_cells_here","_law_fits"] f fd):zI P w K mg base CX0 9 f fd ["_law_board_here","_law_cells_here","_law_fits"] zjP:=by
 obtain⟨zhx,zfR,yh⟩:=Z.law_whole
 obtain⟨zfS,zdH,JP⟩:=Z.count
 obtain⟨ziN,zhy,Y6⟩:=Z.count_at
 obtain⟨zkL,ziO,Q8⟩:=Z.layings
 obtain⟨zdq,zbQ,zH⟩:=Z.around
 obtain⟨zbR,zax,zv⟩:=Z.sign_at
 obtain⟨zay,QA,zC⟩:=Z.cells_of
 obtain⟨zdv,zbS,qD⟩:=Z.closed
 obtain⟨YR,ZI,zq⟩:=Z.open_cells
 obtain⟨QB,YS,zR⟩:=Z.number_at
 obtain⟨zmE,zkP,jJ⟩:=Z.numbers_told
 obtain⟨zmF,zkQ,jK⟩:=Z.wrong_number
 obtain⟨zqC,zqB,Q6⟩:=Z.picks
 have zcc:zI P w K mg base CX0 1 zhx zfR ["_law_found"] zgU:=zfP T yh
 have zfT:zI P w K mg base CX0 7 zfS zdH ["board"] zfD:=zhg T Z JP
 have ziP:zI P w K mg base CX0 8 ziN zhy ["board","cell"] zeR:=zhk T Z Y6
 have zkM:zI P w K mg base CX0 4 zkL ziO ["board"] LY.zoe:=LY.ziC T Q8 zH zv zC qD zq zR jJ jK Q6
 refine D.F.ok yD (fun vs H Q E h=>?_) (fun cdv A outer s H vs Q E hr h=>?_)
 ·obtain⟨p,l,ca,fa,rs,n,us,ws,rfl,_⟩:=h
  rfl
 ·obtain⟨p,l,ca,fa,rs,n,us,ws,rfl,B,R,n0,hca,hcs,cl,hfa,ht,q⟩:=h
  have ul:=hcs.length
  have wl:ws.length=(bsO rs (zF rs)).length:=by
   rw[jH ht,ZB]
  have bl:=zpx (zF rs) cl
  have sm:Small rs:=zdm (by lia)
  refine⟨_,(zd (zD (i:=3) yD.nd rfl (XM rfl) (zz zE (by rfl) T.qN Xh (za (qd (N:=["_law_bits","_law_size","_law_board_here"]) (src:=[none,none,some 0]) (zY.free (O:=(zg yU).names) (XN:=["_law_board_here","_law_cells_here","_law_fits","_law_many","_law_found","_law_k","_law_at","_law_due"]) rfl rfl ⟨_,rfl⟩ rfl rfl (by decide +kernel) (by decide +kernel) (by decide +kernel) rfl (by decide +kernel)) rfl (zU (pv 2)) (fun _ _ _ _ _=>(Yt (n:=2) (K:=K) (by rfl) rfl (zT (zm (i:=0) (by show Xg (["_law_bits","_law_size","_law_board_here"]:List Str);decide +kernel) rfl (XM rfl)) (zT (zm (i:=1) (by show Xg (["_law_bits","_law_size","_law_board_here"]:List Str);decide +kernel) rfl (XM rfl)) jh)))) (fun _ _ _ _ _=>(qh (zP Jq (pv 1) (zZ (zaM (K:=K) (by rfl)) (pv 2) zf (fun _ _=>rfl)) (z9 _)))) (fun _ _ _ _ _=>(pv 0))) zb)))
   (zd (zD (i:=4) yD.nd rfl (XM rfl) (zo zfT (hr.mono (by decide)) (by rfl) JP.g JP.F.kp JP.b .nil zL (za (pv 0) zb)))
   (zd (jA (PW.pt (zcG (zak (JT (zo zcc (hr.mono (by decide)) (by rfl) yh.g yh.F.kp yh.b .nil zL (za (pv 4) zb)) (fun _=>rfl))) (zcG (zP zaa (pv 4) (pv 3) (z9 _)) (zcF (zP zaa (zz zE (by rfl) T.qN Xh (za (zo zkM (hr.mono (by decide)) (by rfl) Q8.g Q8.F.kp Q8.b .nil zL (za (pv 0) zb)) zb)) (pv 3) (z9 _)))))) (zh (zO zbZ)) qp)
   (zd (qA Xd rfl (qR (by rfl) T.ji (za (zz zE (by rfl) T.qN Xh (za (pv 1) zb)) zb)) (zm (i:=5) yD.nd rfl (VF rfl)) (zd (zD (i:=6) yD.nd rfl (XM rfl) (zo ziP (hr.mono (by decide)) (by rfl) Y6.g Y6.F.kp Y6.b .nil zL (za (pv 0) (za (zZ qS (pv 1) (pv 5) (fun _ _=>rfl)) zb))))
   (zd (zD (i:=7) yD.nd rfl (XM rfl) (zz zE (by rfl) T.qN Xh (za (qd (N:=["_law_bits","_law_size","_law_board_here","_law_k"]) (src:=[none,none,some 0,some 5]) (zY.free (O:=(zg yU).names) (XN:=["_law_board_here","_law_cells_here","_law_fits","_law_many","_law_found","_law_k","_law_at","_law_due"]) rfl rfl ⟨_,rfl⟩ rfl rfl (by decide +kernel) (by decide +kernel) (by decide +kernel) rfl (by decide +kernel)) rfl (zU (pv 2)) (fun _ _ _ _ _=>(Yt (n:=2) (K:=K) (by rfl) rfl (zT (zm (i:=0) (by show Xg (["_law_bits","_law_size","_law_board_here","_law_k"]:List Str);decide +kernel) rfl (XM rfl)) (zT (zm (i:=1) (by show Xg (["_law_bits","_law_size","_law_board_here","_law_k"]:List Str);decide +kernel) rfl (XM rfl)) jh)))) (fun _ _ _ _ _=>(qh (PW.pt (zhC (zP Jq (pv 1) (zZ (zaM (K:=K) (by rfl)) (pv 2) zf (fun _ _=>rfl)) (z9 _)) (ze0 (zP Jq (zG ze1 (zG zkZ (pv 0) (pv 3)) zf) zf (z9 _))))))) (fun _ _ _ _ _=>(pv 0))) zb)))
   (zh (jA (PW.pt (zcG (zak (JT (zo zcc (hr.mono (by decide)) (by rfl) yh.g yh.F.kp yh.b .nil zL (za (pv 6) zb)) (fun _=>rfl))) (zcF (zP zaa (pv 6) (pv 7) (z9 _))))) (zh (zO zbZ)) qp)))))
   (zh (zO zbZ)))))),?_⟩
  refine⟨_,rfl,fa,rfl,⟨_,SqL.of hfa⟩,fun z hz=>?_⟩
  refine qq (K:=K) (a:=fa) (xs:=ws) (fun j σ' H'=>∃(u0 u1:Option V),σ'=[u0,u1,some (.ref p)]/\zB H H'/\H' z=some (.lst (nV (zaj rs n ((bsO rs (zF rs)).take j)))))
   ⟨_,_,rfl,ze hz,zc⟩ (fun j σ' H' _ ⟨_,_,_,y,_⟩=>SqL.of (y _ _ hfa)) ?_ ?_
  ·rintro j v σ' H2 hv ⟨u0,u1,rfl,s2,hz2⟩
   obtain⟨pq,hpq,va,rfl,hva⟩:=Ji (qf s2 ht) hv
   obtain⟨b,hb,rfl⟩:∃b,(bsO rs (zF rs))[j]?=some b/\bz rs b=pq:=by
    rw[XE] at hpq
    exact VT.mp hpq
   refine⟨va,_,rfl,SqT.of hva,rfl,_,_,rfl,_,_,rfl,rfl,?_⟩
   refine⟨_,rfl,_,rfl,p,_,1,_,rfl,rfl,SqT.of (B.mono s2).tp,rfl,rfl,_,rfl,?_⟩
   rw[XJ,hb]
   have e1:zaj rs n ((bsO rs (zF rs)).take j++(some b).toList)=zaj rs n ((bsO rs (zF rs)).take j)++(if decide ((bz rs b).2=n)=true then [b] else []):=by
    unfold zaj
    rw[XA]
    exact congrArg _ (zdG _ b)
   rw[e1]
   have ml:(nV (zaj rs n ((bsO rs (zF rs)).take j))).length<=4096:=by
    unfold nV
    rw[ZB]
    refine X0 (Xz _ _) ?_
    rw[XQ]
    lia
   refine zmC (ziM _ _) (fun hp=>?_) fun hp=>?_
   ·rw[if_pos hp]
    refine⟨_,rfl,_,hz2,XH ml (by decide),_,_,rfl,fun b' o e=>?_,?_⟩
    ·rw[zu (zj e hz)]
     exact s2 _ _ e
    ·rw[zc]
     unfold nV
     rw[Xv]
     rfl
   ·rw[if_neg (by rw[hp];decide),W4]
    exact⟨_,_,rfl,s2,hz2⟩
  ·rintro σ' H2 ⟨u0,u1,rfl,s2,hz2⟩
   rw[wl,XG] at hz2
   have nl:(nV (zaj rs n (bsO rs (zF rs)))).length=(zaj rs n (bsO rs (zF rs))).length:=ZB _
   have cw:zbg rs n=(((zaj rs n (bsO rs (zF rs))).length:Nat):Int):=znN n0
   refine⟨z,_,rfl,.inl (SqL.of hz2),?_⟩
   rw[nl]
   refine⟨_,rfl,p,l,rs,n,rfl,B.mono s2,R,sm,n0,fun H3 s3=>?_⟩
   rw[cw]
   have s23:=s2.trans s3
   refine⟨_,rfl,_,rfl,true,rfl,Qd ?_⟩
   refine⟨_,rfl,_,rfl,rfl,_,rfl,zja rfl ?_⟩
   refine⟨_,rfl,p,l,rs,n,rfl,B.mono s23,R,cl,n0,fun dl wd ks H4 hdl zq8 hL _ hpm _ s4=>?_⟩
   refine⟨dl,wd,rfl,.inl (SqL.of zq8),_,rfl,rfl,_,rfl,zja ?_ ?_⟩
   ·rw[qg hL,znO hpm]
    rfl
   have s24:=s23.trans s4
   refine⟨_,rfl,ca,us,rfl,.inl (SqL.of (s24 _ _ hca)),_,rfl,by lia,by lia,?_⟩
   rw[WV,ul]
   refine ja (lo:=0) (n:=(zp rs).length) (fun i σ H'=>∃(v5 v6 v7:Option V),σ=[some (.ref p),some (.ref ca),some (.ref fa),some (.int ((zaj rs n (bsO rs (zF rs))).length:Nat)),some (.int ((zaj rs n (bsO rs (zF rs))).length:Nat)),v5,v6,v7]/\zB H H') ⟨_,_,_,rfl,s24⟩ ?_ ?_
   ·rintro i σ H5 hi ⟨v5,v6,v7,rfl,s5⟩
    have hu:us[i]?=some (us[i]'(by lia)):=X7 (by lia)
    obtain⟨c,hc,ya,ey,hya⟩:=Cel.get (hcs.mono s5) hu
    have cm:=X2 hc
    have ce:Ju rs n c=(((zcb rs n i (bsO rs (zF rs))).length:Nat):Int):=zqx n0 hc
    rw[ey] at hu
    refine⟨_,rfl,_,rfl,_,rfl,ca,_,_,_,rfl,rfl,SqL.of (s5 _ _ hca),jx (by lia) (by rw[show ((0:Int)+(i:Int)).toNat=i by lia];exact hu),p,l,ya,rs,n,c,rfl,B.mono s5,R,sm,n0,hya,cm,fun H6 s6=>?_⟩
    rw[ce]
    have s56:=s5.trans s6
    refine⟨_,rfl,fa,rfl,⟨_,SqL.of (s56 _ _ hfa)⟩,fun z2 hz2'=>?_⟩
    refine qq (K:=K) (a:=fa) (xs:=ws) (fun j σ' H'=>∃(u0 u1:Option V),σ'=[u0,u1,some (.ref p),some (.int (0+(i:Int)))]/\zB H6 H'/\H' z2=some (.lst (nV (zcb rs n i ((bsO rs (zF rs)).take j)))))
     ⟨_,_,rfl,ze hz2',zc⟩ (fun j σ' H' _ ⟨_,_,_,y,_⟩=>SqL.of (y _ _ (s56 _ _ hfa))) ?_ ?_
    ·rintro j v σ' H7 hv ⟨u0,u1,rfl,s7,hz7⟩
     have s57:=s56.trans s7
     obtain⟨pq,hpq,va,rfl,hva⟩:=Ji (qf s57 ht) hv
     obtain⟨b,hb,rfl⟩:∃b,(bsO rs (zF rs))[j]?=some b/\bz rs b=pq:=by
      rw[XE] at hpq
      exact VT.mp hpq
     refine⟨va,_,rfl,SqT.of hva,rfl,_,_,rfl,_,_,rfl,rfl,?_⟩
     refine⟨_,rfl,_,rfl,p,_,1,_,rfl,rfl,SqT.of (B.mono s57).tp,rfl,rfl,_,rfl,?_⟩
     rw[XJ,hb]
     have e1:zcb rs n i ((bsO rs (zF rs)).take j++(some b).toList)=zcb rs n i ((bsO rs (zF rs)).take j)++(if (decide ((bz rs b).2=n)&&decide (b/2^i%2=1))=true then [b] else []):=by
      unfold zcb
      rw[XA]
      exact congrArg _ (zdG _ b)
     rw[e1]
     have ml:(nV (zcb rs n i ((bsO rs (zF rs)).take j))).length<=4096:=by
      unfold nV
      rw[ZB]
      refine X0 (Xz _ _) ?_
      rw[XQ]
      lia
     by_cases h1:(bz rs b).2=n
     ·refine JE ((ziM _ _).trans (decide_eq_true h1)) ?_
      refine⟨_,rfl,_,rfl,_,_,rfl,rfl,(by show (0:Int)<=0+(i:Int);lia),_,_,rfl,rfl,rfl,_,rfl,?_⟩
      rw[decide_eq_true h1,SA,Wi,WV]
      refine zmC (zjM b i) (fun hp=>?_) fun hp=>?_
      ·rw[if_pos hp]
       refine⟨_,rfl,_,hz7,XH ml (by decide),_,_,rfl,fun b' o e=>?_,?_⟩
       ·rw[zu (zj e hz2')]
        exact s7 _ _ e
       ·rw[zc]
        unfold nV
        rw[Xv]
        rfl
      ·rw[if_neg (by rw[hp];decide),W4]
       exact⟨_,_,rfl,s7,hz7⟩
     ·rw[decide_eq_false h1,TZ,if_neg (by decide),W4]
      exact xu ((ziM _ _).trans (decide_eq_false h1)) (Qd ⟨_,_,rfl,s7,hz7⟩)
    ·rintro σ' H7 ⟨u0,u1,rfl,s7,hz7⟩
     rw[wl,XG] at hz7
     have nl2:(nV (zcb rs n i (bsO rs (zF rs)))).length=(zcb rs n i (bsO rs (zF rs))).length:=ZB _
     refine⟨z2,_,rfl,.inl (SqL.of hz7),?_⟩
     rw[nl2]
     refine⟨_,rfl,_,rfl,true,rfl,Qd ?_⟩
     exact⟨_,rfl,_,rfl,rfl,_,rfl,zja rfl ⟨_,_,_,rfl,s56.trans s7⟩⟩
   ·rintro σ H5 ⟨v5,v6,v7,rfl,s5⟩
    exact q H5 s5
end
def zjQ (K:X8):Sp:=fun vs H Q _=>∃(a:Addr) (ns:List Int),vs=[.ref a]/\SqL K H a (ns.map V.int)/\ns.length<=63/\∀H',Q (.bl true) H'
theorem zmG:Rows bd.cps.toList ["?"]:=⟨by decide,by decide,1,by decide,by decide,fun t ht=>by
 rw[List.mem_singleton.mp ht]
 exact⟨by decide +kernel,by decide +kernel⟩⟩
theorem zkN:zbg ["?"] 1=1:=by decide +kernel
theorem zkO:Small ["?"]:=zdm (by decide +kernel)
section
variable {P:Xy}{w:W6}{K:X8}{mg:Str->Option X9}{base:Heap}{f:Addr}{fd:XO}
theorem Y7:zQ ["_law_script","_law_cell","_law_most","_law_board_here","_law_handed","_law_cells_here","_law_fits","_law_due","_law_found"] ["_law_script"] (zg zgL):=⟨rfl,rfl,rfl,by decide +kernel,rfl,by decide +kernel,by decide +kernel⟩
theorem zpy (T:Txt mg)(Z:Prog K mg)(D:zk K mg "law" zgL ["_law_script"] f fd):zI P w K mg base CX0 10 f fd ["_law_script"] (zjQ K):=by
 obtain⟨zd4,zdI,zw⟩:=Z.law_cell_at
 obtain⟨zpz,zog,yg⟩:=Z.law_sign
 obtain⟨zoh,znU,yY⟩:=Z.law_signs
 obtain⟨ziH,zhu,qk⟩:=Z.law_near
 obtain⟨zpA,zoi,xQ⟩:=Z.law_rows
 obtain⟨zpB,zoj,xR⟩:=Z.law_bent
 obtain⟨zhz,zfU,Zz⟩:=Z.law_board
 obtain⟨QE,YY,ju⟩:=Z.law_cells
 obtain⟨QG,Y5,jv⟩:=Z.law_masks
 obtain⟨zbX,zaC,yC⟩:=Z.law_fit
 obtain⟨zbn,zaD,j4⟩:=Z.law_near_counts
 obtain⟨zhA,zfV,yi⟩:=Z.law_right
 obtain⟨ZL,Zc,qo⟩:=Z.near_counts
 obtain⟨zfS,zdH,JP⟩:=Z.count
 have qw:zI P w K mg base CX0 1 zd4 zdI ["_law_script","_law_k"] (zfn K):=J7 T zw
 have zhB:zI P w K mg base CX0 3 zhz zfU ["_law_script","_law_high","_law_wide","_law_most"] (zeU K):=zd3 T Zz zw yg yY qk xQ xR
 have QF:zI P w K mg base CX0 1 QE YY ["_law_rows_here","_law_signs_here"] zc9:=za5 T ju
 have QH:zI P w K mg base CX0 4 QG Y5 ["_law_rows_here","_law_cells_here"] zfN:=zbm T Z jv
 have zbY:zI P w K mg base CX0 2 zbX zaC ["_law_masks_here","_law_many"] zmA:=zdF T Z yC
 have zbo:zI P w K mg base CX0 5 zbn zaD ["_law_rows_here","_law_cells_here"] zjO:=zaB T Z j4
 have zcd:zI P w K mg base CX0 9 zhA zfV ["_law_board_here","_law_cells_here","_law_fits"] zjP:=zfQ T Z yi
 have x9:zI P w K mg base CX0 6 ZL Zc ["board"] zit:=Qz T Z qo
 have zfT:zI P w K mg base CX0 7 zfS zdH ["board"] zfD:=zhg T Z JP
 refine D.F.ok Y7 (fun vs H Q E h=>?_) (fun cdv A outer s H vs Q E hr h=>?_)
 ·obtain⟨a,ns,rfl,_⟩:=h
  rfl
 ·obtain⟨a,ns,rfl,hS,hlen,q⟩:=h
  refine⟨_,(zd (zD (i:=1) Y7.nd rfl (XM rfl) (zo qw (hr.mono (by decide)) (by rfl) zw.g zw.F.kp zw.b .nil zL (za (pv 0) (za zf zb))))
   (zd (zD (i:=2) Y7.nd rfl (XM rfl) (zZ qS (qu (za zf (za zf zb))) (jb zbq (by rfl) T.zc4 VO (za (Zm Jq (zG jB (zG jT (zo qw (hr.mono (by decide)) (by rfl) zw.g zw.F.kp zw.b .nil zL (za (pv 0) (za zf zb))) zf) zf) zf (z9 _)) zb)) (fun _ _=>rfl)))
   (zd (zD (i:=3) Y7.nd rfl (XM rfl) (zo zhB (hr.mono (by decide)) (by rfl) Zz.g Zz.F.kp Zz.b .nil zL (za (pv 0) (za (zG qT zf (zG jB (pv 1) zf)) (za (zG qT zf (zG jB (zG jT (pv 1) zf) zf)) (za (pv 2) zb))))))
   (zd (zD (i:=4) Y7.nd rfl (XM rfl) (jO (za (jb Yr (by rfl) T.zfm Ui (za (zZ qU (pv 3) zf (fun _ _=>rfl)) zb)) (za (zZ qU (pv 3) zf (fun _ _=>rfl)) zb))))
   (zd (zD (i:=5) Y7.nd rfl (XM rfl) (zo QF (hr.mono (by decide)) (by rfl) ju.g ju.F.kp ju.b .nil zL (za (zZ qU (pv 3) zf (fun _ _=>rfl)) (za jw zb))))
   (zd (zD (i:=6) Y7.nd rfl (XM rfl) (zo zbY (hr.mono (by decide)) (by rfl) yC.g yC.F.kp yC.b .nil zL (za (zo QH (hr.mono (by decide)) (by rfl) jv.g jv.F.kp jv.b .nil zL (za (zZ qU (pv 3) zf (fun _ _=>rfl)) (za (pv 5) zb))) (za (zz zE (by rfl) T.qN Xh (za (pv 5) zb)) zb))))
   (zd (zD (i:=7) Y7.nd rfl (XM rfl) (zo zbo (hr.mono (by decide)) (by rfl) j4.g j4.F.kp j4.b .nil zL (za (zZ qU (pv 3) zf (fun _ _=>rfl)) (za (pv 5) zb))))
   (zd (jA (zak (JT (zo zcd (hr.mono (by decide)) (by rfl) yi.g yi.F.kp yi.b .nil zL (za (pv 4) (za (pv 5) (za (pv 6) zb)))) (fun _=>rfl))) (zh (zO zbZ)) qp)
   (zd (zD (i:=8) Y7.nd rfl (XM rfl) (zo x9 (hr.mono (by decide)) (by rfl) qo.g qo.F.kp qo.b .nil zL (za (pv 4) zb)))
   (zd (jA (PW.pt (zcG (zak (JT (zz Qj (by rfl) T.YH Uc (za (pv 8) (za (zeZ (v:=.ty "list") (by rfl) T.zfm Ui (by rfl)) zb))) (fun _=>rfl))) (zcG (zP (yL hr.units) (pv 8) (pv 7) (z9 _)) (zcF (zP (yL hr.units) (pv 4) (pv 3) (z9 _)))))) (zh (zO zbZ)) qp)
   (zd (yk (Jr WY Wt Ws jj (pv 8) (za zf zb)))
   (zd (jA (PW.pt (zcG (zP (yL hr.units) (zo x9 (hr.mono (by decide)) (by rfl) qo.g qo.F.kp qo.b .nil zL (za (pv 4) zb)) (pv 7) (z9 _)) (zcF (zP zaa (zo zfT (hr.mono (by decide)) (by rfl) JP.g JP.F.kp JP.b .nil zL (za (jO (za (qu (za jw zb)) (za zf zb))) zb)) zf (z9 _))))) (zh (zO zbZ)) qp)
   (zh (zO (zkU (zo zcd (hr.mono (by decide)) (by rfl) yi.g yi.F.kp yi.b .nil zL (za (pv 4) (za (pv 5) (za (pv 6) zb)))) (zkT (Zm (Ys hr.units) (pv 4) (pv 3) (z9 _)))))))))))))))))),?_⟩
  refine⟨_,rfl,a,ns,_,rfl,hS,by decide,fun c=>?_⟩
  refine⟨(by show 2<=XU;decide),fun ml hml=>?_⟩
  have z0:=ze (o:=.lst [.int 7,.int 10]) hml
  have pk:∀b:Bool,∃m:Int,atI [V.int 7,V.int 10] (if b=true then (1:Int) else 0)=some (.int m)/\0<=m/\m<=12:=fun b=>by
   cases b with
   | true=>exact⟨10,rfl,by decide,by decide⟩
   | false=>exact⟨7,rfl,by decide,by decide⟩
  refine⟨_,rfl,a,ns,_,rfl,z0.seq hS,by decide,fun c2=>?_⟩
  obtain⟨m,hm,m0,m12⟩:=pk (decide (V.int (c2/6%4)=V.int 1))
  refine⟨_,_,rfl,rfl,JU.small (by decide) (by decide),_,_,rfl,rfl,(by show (0:Int)<4;decide),rfl,.inr ⟨_,rfl,ml,_,_,_,rfl,rfl,SqL.of zc,hm,?_⟩⟩
  have e1:=Vu c (show (8:Int)≠0 by decide)
  have e2:=VI c (show (0:Int)<8 by decide)
  have e3:=Vu (c/8) (show (8:Int)≠0 by decide)
  have e4:=VI (c/8) (show (0:Int)<8 by decide)
  have h1:1<=1+c%8:=by lia
  have h2:1+c%8<=8:=by lia
  have w1:1<=1+c/8%8:=by lia
  have w2:1+c/8%8<=8:=by lia
  refine⟨_,rfl,_,rfl,_,_,rfl,rfl,(by show (0:Int)<8;decide),_,_,rfl,rfl,_,rfl,_,_,rfl,rfl,JU.small (by decide) (by decide),_,_,rfl,rfl,(by show (0:Int)<8;decide),_,_,rfl,rfl,_,rfl,a,ns,_,_,m,rfl,z0.seq hS,h1,h2,w1,w2,m0,fun p l rs n H1 hp B R n0 n1 hsh s1=>?_⟩
  have h12:(zp rs).length<=12:=by lia
  have sm:Small rs:=zdm (by lia)
  refine⟨_,rfl,p,_,0,_,rfl,rfl,SqT.of B.tp,rfl,l,_,rfl,.inl (SqL.of B.rw),fun l2 hl2=>⟨_,rfl,p,_,1,_,rfl,rfl,SqT.of (ze hl2 _ _ B.tp),rfl,(by show 2<=XU;decide),fun h hh=>?_⟩⟩
  have z1:=ze (o:=.lst (rs.map V.str)) hl2
  have z2:=ze (o:=.tup [.ref l2,.int n]) hh
  have B2:=(B.mono z1).mono z2
  have BH:qj (upd (upd H1 l2 (.lst (rs.map V.str))) h (.tup [.ref l2,.int n])) h l2 rs n:=⟨zc,z2 _ _ zc⟩
  generalize upd (upd H1 l2 (.lst (rs.map V.str))) h (.tup [.ref l2,.int n])=H2 at *
  refine⟨_,rfl,p,_,0,_,rfl,rfl,SqT.of B2.tp,rfl,l,rs,"?",rfl,B2.rw,R,fun ca us H3 hca zh9 hcs s3=>?_⟩
  rw[zid R] at hcs
  have ul:=hcs.length
  have B3:=B2.mono s3
  refine⟨_,rfl,p,_,0,_,rfl,rfl,SqT.of B3.tp,rfl,_,rfl,l,ca,us,rs,zp rs,rfl,B3.rw,R,zh9,hcs,by lia,fun ma wm H4 hma zpv htm s4=>?_⟩
  have ol:(zF rs).length<=64:=qJ (p:=Jt) R
  refine⟨_,rfl,ca,us,rfl,.inl (SqL.of (s4 _ _ zh9)),ma,wm,rs,zF rs,?_,zpv,htm,by lia,ol,fun fa wf H5 hfa znz htf s5=>?_⟩
  ·rw[ul]
   rfl
  have s35:=s4.trans s5
  have B5:=B3.mono s35
  refine⟨_,rfl,p,_,0,_,rfl,rfl,SqT.of B5.tp,rfl,_,rfl,l,ca,us,rs,rfl,B5.rw,R,s35 _ _ zh9,hcs.mono s35,by lia,fun da H6 hda zmB s6=>?_⟩
  have s36:=s35.trans s6
  have BH6:=(BH.mono s3).mono s36
  have B6:=B3.mono s36
  refine⟨_,rfl,_,rfl,_,rfl,h,l2,ca,fa,rs,n,us,wf,rfl,BH6,R,n0,s36 _ _ zh9,hcs.mono s36,h12,s6 _ _ znz,qf s6 htf,fun H7 s7=>⟨true,rfl,Qd ?_⟩⟩
  have BH7:=BH6.mono s7
  refine⟨_,rfl,h,l2,rs,n,rfl,BH7,R,sm,fun na gs H8 hna G _ zmH s8=>?_⟩
  rw[zjN G] at zmH
  have s37:=s36.trans s7
  have B7:=B6.mono s7
  have hda7:=s7 _ _ zmB
  have ee:(if true=true then !PyData.eqv (Qx (Tally.tl (yZ rs) (qH rs))) (Qx (Tally.tl (yZ rs) (qH rs))) else W2 (Qx (Tally.tl (yZ rs) (qH rs))) (Qx (Tally.tl (yZ rs) (qH rs))))=false:=by
   rw[if_pos rfl,zin]
   rfl
  have eb:(if true=true then !PyData.eqv (bData rs n) (bData rs n) else W2 (bData rs n) (bData rs n))=false:=by
   rw[if_pos rfl,Py _ (R.cmpB n).l1]
   rfl
  refine⟨_,rfl,_,"list","list",true,rfl,.lst zmH,(by decide +kernel),true,rfl,Qd ?_⟩
  refine⟨_,rfl,_,rfl,_,_,zbb (SqL.of zmH),zbb (SqL.of (s8 _ _ hda7)),zeL _ _,_,rfl,xu ee ?_⟩
  refine⟨_,rfl,_,rfl,_,_,qj.rdv (BH7.mono s8),qj.rdv (B7.mono s8),R.cmpB n,_,rfl,xu eb ?_⟩
  have tlen:(iL (Tally.tl (yZ rs) (qH rs))).length<=64:=by
   have:(yZ rs).length<=(zp rs).length:=Xz _ _
   rw[ZB,Tally.jZ]
   lia
  refine⟨_,rfl,.inl ⟨rfl,_,SqL.of zmH⟩,na,_,_,rfl,rfl,zmH,XH tlen (by decide),?_⟩
  have s9:zB H7 (upd H8 na (.lst (iL (Tally.tl (yZ rs) (qH rs))++[.int 1]))):=fun b o e=>by
   rw[zu (zj e hna)]
   exact s8 _ _ e
  generalize upd H8 na (.lst (iL (Tally.tl (yZ rs) (qH rs))++[.int 1]))=H9 at *
  refine⟨_,rfl,h,l2,rs,n,rfl,BH7.mono s9,R,sm,fun nb gs2 H10 hnb G2 _ zok s10=>?_⟩
  rw[zjN G2] at zok
  have s70:=s9.trans s10
  refine⟨_,rfl,_,_,zbb (SqL.of zok),zbb (SqL.of (s70 _ _ hda7)),zeL _ _,_,rfl,xu ee ?_⟩
  refine⟨(by show 1<=XU;decide),fun la hla=>⟨(by show 2<=XU;decide),fun ta hta=>?_⟩⟩
  have s71:=(s70.trans (ze (o:=.lst [.str "?"]) hla)).trans (ze (o:=.tup [.ref la,.int 1]) hta)
  refine⟨ta,la,["?"],1,rfl,⟨zc,ze hta _ _ zc⟩,zmG,zkO,by decide,fun H12 s12=>?_⟩
  rw[zkN]
  refine⟨rfl,_,rfl,zja rfl ?_⟩
  have s72:=s71.trans s12
  have s32:=s37.trans s72
  refine⟨_,rfl,_,rfl,_,rfl,h,l2,ca,fa,rs,n,us,wf,rfl,BH7.mono s72,R,n0,s32 _ _ zh9,hcs.mono s32,h12,s72 _ _ (s7 _ _ (s6 _ _ znz)),qf (s6.trans (s7.trans s72)) htf,fun H13 s13=>⟨true,rfl,Qi ?_⟩⟩
  have s73:=s72.trans s13
  refine⟨_,rfl,_,rfl,_,_,qj.rdv (BH7.mono s73),qj.rdv (B7.mono s73),R.cmpB n,?_⟩
  have e9:(if false=true then !PyData.eqv (bData rs n) (bData rs n) else W2 (bData rs n) (bData rs n))=true:=by
   show W2 _ _=true
   exact Py _ (R.cmpB n).l1
  rw[e9]
  exact q _
end
theorem all_mk {l:P6}{w:W6}{K:X8}{h:Heap}{mg:Str->Option X9}{fa:Addr}{t_CLOSED_SIGN:Tok}{t_MOST_CLOSED:Tok}{t_MOST_OF_PART:Tok}{t_NO_CELL_SIGN:Tok}(X:K.In h)(G:h.Ns Xx mg)(hfa:mg "law"=some (.ref fa))
  (zaE:HasDef K "closed" J5)
  (Jw:HasDef K "open_cells" qt)
  (zaF:HasDef K "around" jD)
  (Ze:HasDef K "number_at" jr)
  (Yg:HasDef K "cells_of" qy)
  (QI:HasDef K "sign_at" qF)
  (zcl:HasDef K "parts" zcy)
  (zaG:HasDef K "joined" Z3)
  (ziQ:HasDef K "far" zgK)
  (Jx:HasDef K "numbers_of" jP)
  (Jy:HasDef K "bare_wrong" yt)
  (yG:HasDef K "closed_around" qV)
  (xh:HasDef K "part_layings" qM)
  (Yh:HasDef K "needs_at" yM)
  (QJ:HasDef K "may_fit" xH)
  (xS:HasDef K "part_counts" xY)
  (QK:HasDef K "counted" JR)
  (Jz:HasDef K "counted_at" xy)
  (QL:HasDef K "choices" QY)
  (zaH:HasDef K "poured" za1)
  (xT:HasDef K "near_counts" yE)
  (zcm:HasDef K "count" zcz)
  (Yi:HasDef K "count_at" YE)
  (yj:HasDef K "counts_by_cell" jc)
  (JA:HasDef K "all_poured" JH)
  (zcn:HasDef K "dealt" za2)
  (QM:HasDef K "layings" Z4)
  (xj:HasDef K "numbers_told" jE)
  (xo:HasDef K "wrong_number" jF)
  (zco:HasDef K "picks" YF)
  (xU:HasDef K "_law_cell_at" jX)
  (Zf:HasDef K "_law_whole" Zr)
  (Yj:HasDef K "_law_sign" xJ)
  (Zg:HasDef K "_law_signs" Jc)
  (Yk:HasDef K "_law_near" yd)
  (Yl:HasDef K "_law_rows" xK)
  (Ym:HasDef K "_law_bent" xM)
  (Zh:HasDef K "_law_board" Zs)
  (Zi:HasDef K "_law_cells" Jd)
  (JB:HasDef K "_law_around" yu)
  (Yn:HasDef K "_law_ones" YG)
  (Yo:HasDef K "_law_mask" J6)
  (Zj:HasDef K "_law_masks" Zt)
  (QN:HasDef K "_law_fit" Z5)
  (j3:HasDef K "_law_near_counts" jt)
  (Zk:HasDef K "_law_right" yU)
  (ziR:HasDef K "law" zgL)
  (ziS:Xm K Xx "all"=some none)
  (ziT:Xm K Xx "any"=some none)
  (zeV:Xm K Xx "bool"=some none)
  (zeW:Xm K Xx "dict"=some none)
  (Zl:Xm K Xx "enumerate"=some none)
  (ziU:Xm K Xx "int"=some none)
  (JC:Xm K Xx "isinstance"=some none)
  (ziV:Xm K Xx "len"=some none)
  (zeX:Xm K Xx "list"=some none)
  (ziW:Xm K Xx "max"=some none)
  (ziX:Xm K Xx "min"=some none)
  (zcp:Xm K Xx "range"=some none)
  (ziY:Xm K Xx "set"=some none)
  (zaI:Xm K Xx "sorted"=some none)
  (ziZ:Xm K Xx "str"=some none)
  (zi0:Xm K Xx "sum"=some none)
  (zi1:Xm K Xx "zip"=some none)
  (xV:Xm K Xx "CLOSED_SIGN"=some (some (.str "?" t_CLOSED_SIGN)))
  (xW:Xm K Xx "MOST_CLOSED"=some (some (.int 12 t_MOST_CLOSED)))
  (xq:Xm K Xx "MOST_OF_PART"=some (some (.int 14 t_MOST_OF_PART)))
  (xr:Xm K Xx "NO_CELL_SIGN"=some (some (.str "#" t_NO_CELL_SIGN))) :
  ∃fd:XO,(∀(s:X5) (v:X9),OQ s fd ⟨[v],[]⟩ [("_law_script",v)])/\∀base:Heap,K.In base->base.Ns Xx mg->zI l.prog w K mg base CX0 10 fa fd ["_law_script"] (zjQ K):=by
 obtain⟨f,oc,od,an,sl,kV,dc,pm,cd,ct,a,l0,c,k⟩:=ziR
 have e:=hfa.symm.trans (UM X G a)
 cases e
 have T:Txt mg:=⟨WN X G ziS,WN X G ziT,WN X G zeV,WN X G zeW,WN X G Zl,WN X G ziU,WN X G JC,WN X G ziV,WN X G zeX,WN X G ziW,WN X G ziX,WN X G zcp,WN X G ziY,WN X G zaI,WN X G ziZ,WN X G zi0,WN X G zi1,⟨_,UM X G xV⟩,⟨_,UM X G xW⟩,⟨_,UM X G xq⟩,⟨_,UM X G xr⟩⟩
 have Z:Prog K mg:=⟨zaE.at X G (fun _ _ _ _ _ _=>us1 fun _=>rfl),Jw.at X G (fun _ _ _ _ _ _=>us1 fun _=>rfl),zaF.at X G (fun _ _ _ _ _ _=>us2 fun _ _=>rfl),Ze.at X G (fun _ _ _ _ _ _=>us2 fun _ _=>rfl),Yg.at X G (fun _ _ _ _ _ _=>us1 fun _=>rfl),QI.at X G (fun _ _ _ _ _ _=>us2 fun _ _=>rfl),zcl.at X G (fun _ _ _ _ _ _=>us1 fun _=>rfl),zaG.at X G (fun _ _ _ _ _ _=>us2 fun _ _=>rfl),ziQ.at X G (fun _ _ _ _ _ _=>us1 fun _=>rfl),Jx.at X G (fun _ _ _ _ _ _=>us2 fun _ _=>rfl),Jy.at X G (fun _ _ _ _ _ _=>us1 fun _=>rfl),yG.at X G (fun _ _ _ _ _ _=>us2 fun _ _=>rfl),xh.at X G (fun _ _ _ _ _ _=>us2 fun _ _=>rfl),Yh.at X G (fun _ _ _ _ _ _=>us3 fun _ _ _=>rfl),QJ.at X G (fun _ _ _ _ _ _=>us2 fun _ _=>rfl),xS.at X G (fun _ _ _ _ _ _=>us2 fun _ _=>rfl),QK.at X G (fun _ _ _ _ _ _=>us2 fun _ _=>rfl),Jz.at X G (fun _ _ _ _ _ _=>us3 fun _ _ _=>rfl),QL.at X G (fun _ _ _ _ _ _=>us2 fun _ _=>rfl),zaH.at X G (fun _ _ _ _ _ _=>us2 fun _ _=>rfl),xT.at X G (fun _ _ _ _ _ _=>us1 fun _=>rfl),zcm.at X G (fun _ _ _ _ _ _=>us1 fun _=>rfl),Yi.at X G (fun _ _ _ _ _ _=>us2 fun _ _=>rfl),yj.at X G (fun _ _ _ _ _ _=>us1 fun _=>rfl),JA.at X G (fun _ _ _ _ _ _=>us1 fun _=>rfl),zcn.at X G (fun _ _ _ _ _ _=>us3 fun _ _ _=>rfl),QM.at X G (fun _ _ _ _ _ _=>us1 fun _=>rfl),xj.at X G (fun _ _ _ _ _ _=>us1 fun _=>rfl),xo.at X G (fun _ _ _ _ _ _=>us2 fun _ _=>rfl),zco.at X G (fun _ _ _ _ _ _=>us2 fun _ _=>rfl),xU.at X G (fun _ _ _ _ _ _=>us2 fun _ _=>rfl),Zf.at X G (fun _ _ _ _ _ _=>us1 fun _=>rfl),Yj.at X G (fun _ _ _ _ _ _=>us3 fun _ _ _=>rfl),Zg.at X G (fun _ _ _ _ _ _=>us3 fun _ _ _=>rfl),Yk.at X G (fun _ _ _ _ _ _=>us3 fun _ _ _=>rfl),Yl.at X G (fun _ _ _ _ _ _=>us3 fun _ _ _=>rfl),Ym.at X G (fun _ _ _ _ _ _=>us2 fun _ _=>rfl),Zh.at X G (fun _ _ _ _ _ _=>us4 fun _ _ _ _=>rfl),Zi.at X G (fun _ _ _ _ _ _=>us2 fun _ _=>rfl),JB.at X G (fun _ _ _ _ _ _=>us2 fun _ _=>rfl),Yn.at X G (fun _ _ _ _ _ _=>us1 fun _=>rfl),Yo.at X G (fun _ _ _ _ _ _=>us3 fun _ _ _=>rfl),Zj.at X G (fun _ _ _ _ _ _=>us2 fun _ _=>rfl),QN.at X G (fun _ _ _ _ _ _=>us2 fun _ _=>rfl),j3.at X G (fun _ _ _ _ _ _=>us2 fun _ _=>rfl),Zk.at X G (fun _ _ _ _ _ _=>us3 fun _ _ _=>rfl)⟩
 have F:=zk4 (st:=zgL) l0 c k
 have D:zk K mg "law" zgL ["_law_script"] _ _:=⟨F,UM X G a,F.binds (ps:=["_law_script"]) (fun _ _ _ _ _ _=>us1 fun _=>rfl)⟩
 exact⟨_,fun s v=>.of_eq rfl,fun base _ _=>zpy T Z D⟩
theorem walk {l:P6}{q:Xy}{loose:List Str}{XP:(Str->Option X9)->Heap->Prop}{YP:W6->Heap->Prop}{d:DefRec}{K:Params->X8}(hn:l.most=some 63)(hdf:d.params.defaults=[])
  (hY:∀(w:W6) (h:Heap),YP w h->(K w.params).In h)
  (F:∀(w:W6) (mg:Str->Option X9) (fa:Addr) (h:Heap),(K w.params).In h->h.Ns Xx mg->mg d.name=some (.ref fa) ->
   ∃fd:XO,(∀(s:X5) (u:X9),OQ s fd ⟨[u],[]⟩ [("_law_script",u)])/\∀base:Heap,(K w.params).In base->base.Ns Xx mg->zI l.prog w (K w.params) mg base CX0 10 fa fd ["_law_script"] (zjQ (K w.params))) :
  O9 q loose XP YP l.row.toRowW d [] (fun f vs=>PySem.call f vs) :=
 L2.zi9 (n:=63) (k:=10) (x:="_law_script") (CX:=fun _=>CX0) (sp:=fun w=>zjQ (K w.params)) hn (by decide) hdf ⟨rfl,by decide,by decide⟩ hY F (fun _ _ a ns hl _ hS=>⟨a,ns,rfl,hS,hl,fun _=>rfl⟩) fun _ _ _ _ _ z=>z
end K90
open PySem PySem.W PyProof.Rows
set_option maxRecDepth 100000 in
set_option maxHeartbeats 0 in
theorem PySem.Challenge.cw_stonelay_k90_whole_counts_holds : PySem.Challenge.rw_stonelay_k90_whole_counts.Holds := by
 refine zcC.early fun {q XP YP d K} hdf hY hn F=>?_
 refine K90.walk (l:=PySem.Challenge.rw_stonelay_k90_whole_counts) rfl hdf hY fun w mg fa h KX G hmg=>?_
 rw[hn] at hmg
 obtain⟨zaE,Jw,zaF,Ze,Yg,QI,zcl,zaG,ziQ,Jx,Jy,yG,xh,Yh,QJ,xS,QK,Jz,QL,zaH,xT,zcm,Yi,yj,JA,zcn,QM,xj,xo,zco,xU,Zf,Yj,Zg,Yk,Yl,Ym,Zh,Zi,JB,Yn,Yo,Zj,QN,j3,Zk,ziR,ziS,ziT,zeV,zeW,Zl,ziU,JC,ziV,zeX,ziW,ziX,zcp,ziY,zaI,ziZ,zi0,zi1,⟨_,xV⟩,⟨_,xW⟩,⟨_,xq⟩,⟨_,xr⟩⟩:=F w
 exact K90.all_mk KX G hmg zaE Jw zaF Ze Yg QI zcl zaG ziQ Jx Jy yG xh Yh QJ xS QK Jz QL zaH xT zcm Yi yj JA zcn QM xj xo zco xU Zf Yj Zg Yk Yl Ym Zh Zi JB Yn Yo Zj QN j3 Zk ziR ziS ziT zeV zeW Zl ziU JC ziV zeX ziW ziX zcp ziY zaI ziZ zi0 zi1 xV xW xq xr