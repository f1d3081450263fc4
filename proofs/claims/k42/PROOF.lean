import PyProof.Rows.All
import KE.IntBitsLaws
import KE.KDictOf
import KE.KDictSum
import KE.KIntText
import KE.KSortTup
import KE.LcSums
import KE.RegKIsAll
import KE.KNestM
import KE.KPairComp
import Lean
import PySem.Challenge.RW_stonelay_k42_witnesses
open List renaming length_map→ZB,mem_filter→X6,length_append→X5,getElem?_eq_some_iff→X2,mem_of_getElem?→XY,getElem?_eq_getElem→XX,mem_map→XU,mem_cons_self→XT,mem_cons_of_mem→XR,mem_append→XO,range→XF,mem_append_right→XE,map_append→XC,length_cons→XB,mem_cons→Xz,take_length→Xy,getD_eq_getElem?_getD→Xx,length_take→Xw,take_add_one→Xu,size_toArray→Xn,mem_range→Xl,getElem?_map→Xk,length_range→Xj,append_nil→Xh,map_congr_left→Xg,length_filter_le→Xc,filter_append→Xa,map_cons→W9,mem_append_left→W5,filter_sublist→W1,filter_cons→W0,Nodup→WY,append_assoc→WV,all_eq_true→WR,countP_cons→WQ,replicate→WN,map_map→WJ,mem_flatten→WI,flatten_append→WD,any_eq_true→WC,take_of_length_le→WB,nodup_append→Ww,take_append_drop→Ws,mem_of_mem_take→Wo,drop_eq_getElem_cons→Wn,flatten_cons→Wm,pairwise_map→We,perm_ext_iff_of_nodup→Wd,mem_flatMap→Wb,filter_eq_nil_iff→V9,getElem?_append_left→V3,mem_singleton→V0,length_eq_zero_iff→VW,getElem?_append_right→VR,isEmpty_eq_false_iff→VO,nodup_cons→VG,foldl_cons→VF,replicate_succ→Vv,range_succ→Vt,pairwise_iff_getElem→Vr,length_drop→Vp,lookup_cons→Vn,countP_append→Vm,filter→Vj,foldl_append→Vf,filter_congr→Ve,countP_congr→Vd,filterMap_cons→U9,sublist_flatten_of_mem→U6,getElem?_eq_none→UX,length_nil→UT,map→UP,any_map→UM,getElem?_range→UC,take_succ_cons→UB,nodup_nil→Uy,ne_nil_of_mem→Uj,find?_cons→Ug,any_cons→Ud,perm_append_comm→T9,take_sublist→T7,ext_getElem?→T5,pairwise_append→TW,getElem_mem→TN,getElem?_zip_eq_some→TK,exists_mem_of_ne_nil→TJ,getElem_of_mem→TF,reverse_append→TD,countP_eq_zero→TC,sublist_append_left→Tu,countP_map→Tn,filter_map→Tl,mem_filterMap→Te,getElem?_drop→Tc,countP→S8,take_zero→SN,getElem?_set_self→SA,drop_eq_nil_of_le→Sx,length_pos_of_mem→Sv,isEmpty_iff→Sg,lookup→Sa,map_id→R9,getElem?_set_ne→R8,mem_of_mem_drop→R6,length_set→R4,countP_nil→R0,dropLast_concat_getLast→RZ,map_nil→RT,pairwise_cons→RJ,extract_eq_take_drop→Rz,any_eq_false→Ru,drop_sublist→Rs,reverse_perm→Rr,all_cons→Rq,map_take→Rm,getElem?_take_of_lt→Rj,not_mem_nil→P7,getElem?_cons_succ→P6,of_mem_zip→Pw,nil_append→Pu,length_replicate→Pp,length_singleton→Po,mem_iff_getElem?→Pn,countP_replicate→Pm,pairwise_reverse→Pj,countP_le_length→Pi,drop_drop→O9,reverse_reverse→O3,length_dropLast→OZ,countP_pos_iff→OP,flatMap_append→OL,map_drop→OF,sum_cons→OC,map_set→Om
open PySem renaming wpAny_bind→Y1,Value→X9,Shared→X8,wpAny_pure→XS,mainGlobals→XQ,sizeLine→Xv,FuncData→Xp,Program→Xi,model→Xf,wpAny→W7,Paired→WU,World→WS,boot_len→WP,Around→WL,mem_of_lookup→WE,starEach→Wp,SetTable→Wj,wpAny_mono→Wg,compareOp→Wf,PyData→V8,wpAny_loadPart'→V7,wpAny_holding→VY,wpAny_loadPart_at→VX,codeAny_builtin→VQ,wpAny_truthy_bool→VN,wpAny_newObj_type→VM,cLine→Vl,Spec→Vb,GenState→U2,Builtin→UR,wpAny_standAt→UI,plainId_quiet→UH,wpAny_call_entry→Uw,Scope→Uv,sizeLine_eq→Uu,relabel→Us,sysModules→Uq,wpAny_rule→Uo,binaryOp→Uh,rawInt→Ub,builtinLookup_eq_fast→Ua,codeAny_call_builtin→TX,codeAny→TV,bootBuiltins→TU,NameKind→Tz,behindInMarks→Tx,wpAny_comprehension_free→Tw,wpAny_execs_nil→Tr,wpAny_passesOwn→Tq,assignEach→Ti,call_meets→Th,wpAny_Call_Name_kw→Td,sliceBounds→S9,backTo→S4,compEnvC→S2,codeAny_mono→SY,wpAny_pyIter_list→SK,foldedSetIterable→SJ,wpAny_pyIter_enum→SH,wpAny_setState_of→SG,ofAClassStatement→SF,codeAny_compStart_list→Sy,wpAny_isTrue_Compare1→Sr,wpAny_execs_cons→Sh,letOwnedTupleGo→R5,typeLookup_type→R3,wpAny_setEntries_of→RX,cellsFrom→RO,pyNext→RN,firstArgMember→RM,tupleKind_room_in1→RK,again→Rw,wpAny_attempt→Ro,setSearchFrom→Rn,tupleKind→Ra,pickOrder→QR,checkBuiltinCall→QQ,wpAny_forIn_list→Qb,wpAny_askSetting→P8,wpAny_callSpecial?_slot→P1,stored→PN,seqIndex_neg→PL,wpAny_typeOf→PK,wpAny_getItem_list_neg→PH,wpAny_pyNext_items_end→Py,theTreesLotGoes→Pr,wpAny_specialOf→Pq,seqIndex_of→Pg,subscripted→Pf,hashByValue→Pe,intText?→Pc,isSubtype_type→Pb,wpAny_setField→Pa,wpAny_newFunctionEnv→O6,getItem→OX,callerA→OV,valueAt→OU,swapsWith→OR,attributeBase→OI,compTurn_list→OH,wpAny_newList→OE,Result→OA,builtinsNs→Oz,typeLookup→Oy,closureFor→Ox,holding→Ov,BindsTo→Ou,OsState→Ot,ReadsAll→Os,codeAny_loop→Op,DictEntry→Oi,atKey→Oh,wpAny_noted→Og,wpAny_of_eq→Of,Keyword→Oe,Drawn→Oc,Model→Ob,bindL→Oa,bindC→N9,assign→N8,getAttr?→N7,entryFor→N6,CmpOp→N5
open PySem.Heap renaming get?_push_of_some→X7,lt_size→XI,get?_push_size→Xd,get?_update_self→VJ,SameBut→VA,size_push→Vi,get?_none_of_le→UL,get?_update_other→Ui,get?_update_ne→RW,FlyingW→Oo
open Nat renaming le_trans→X4,le_refl→XW,lt_of_lt_of_le→XJ,lt_of_le_of_lt→XA,ne_of_lt→Xe,zero_le→W4,lt_succ_of_lt→Wx,lt_irrefl→V5,le_succ→VT,pow_le_pow_right→VS,zero_add→VP,le_succ_of_le→VL,succ_ne_self→Vo,ne_of_gt→UN,pow_succ→Um,min_eq_left→Uf,mul_le_mul→TZ,add_comm→TR,le_add_right→TM,succ_le_succ→TL,not_lt_zero→Tp,lt_of_lt_of_eq→Ta,add_sub_cancel_left→S6,le_of_lt→SZ,mul_comm→SX,sub_self→SW,lt_or_ge→SV,succ_pos→SU,add_zero→SS,add_le_add→SL,mod_lt→Sj,succ_mul→RU,lt_trans→RS,lt_trichotomy→Rt,lt_succ_self→QP,one_le_iff_ne_zero→Pz,add_le_add_right→O5,pow_lt_pow_right→O2,mul_le_mul_right→O0,add_assoc→OB,mul_succ→Ol
open PySem.W renaming Frag→X0,nsIn→XM,kitOne→W6,mg_none_of→WF,excIn→Wu,mg_of→Wc,kia_one→VZ,findIn→VI,mroIn→VC,hashAt→VB,fnOf→UO,keepIn→T1,hideAll_get→TH,isClsIn→Ts,codeIn→SQ,cellsFrom_some→Sz,looks_findIn→R7,looks_mroIn→RY,methodObj→Rv,instObj→Px,OpenLaw→Ps,lookIn→Pd,WalkO→OK
open Array renaming length_toList→XZ,getElem?_toList→Xq,getElem?_eq_none→WA,toList_append→Wv,getElem?_eq_some_iff→Vx,getElem?_eq_getElem→Vq,size_map→Vh,toList_reverse→Vg,toList_map→U3,size_reverse→UZ,perm_iff_toList_perm→UY,getElem_toList→UK,size_extract→Uk,getElem?_setIfInBounds→Ue,mem_toList_iff→TY,size_setIfInBounds→Tv,getD→Tg,toList_push→SD,getElem?_extract→Sw,toList_setIfInBounds→RC,getElem?_replicate→Rh,toList_inj→P9,getElem?_reverse→PB,toList_extract→O4,toList_modify→ON,toList→Oq
open Bool renaming false_ne_true→XV,eq_false_iff→Xs,not_eq_true'→WT,eq_iff_iff→WO,and_eq_true_iff→Wt,false_eq_true→Wh,and_eq_true→V6,and_true→Uc,false_and→SO,not_eq_false→SC,or_eq_true→R1,true_and→Rl,and_comm→OD
open Or renaming inl→XH,inr→UU
open PySem.SetTable renaming bits→XG,below→Xr,insertAt→W8,turns→WZ,runEnd→VE,leap→Vk,grown→Uz,sizeAbove→Tb,Probe→RL,advance→Qr,fill→OG
open PyProof.Rows renaming wpS_bind→XD,wpS_pure→Xo,arrOf→Xm,Keyed→W3,boot_isinstance→WX,SortSt→WH,pendingOf→WG,wpS_forRange→V2,callWith_type1→VD,boot_max→UW,boot_min→UV,boot_sorted→UF,wpS_mono→UA,pairsOf_toList→Ux,seqObj→Ut,boot_int→T8,SortKind→T3,wpS_modify→Tf,failedOf→S1,boot_list→Su,boot_any→So,AllBare→Sf,wpS_get→Se,reverseSlice'→Sb,mem_zip_self→RR,listItems_at→Rx,boot_divmod→Rc,wpS_lift→Rb,boot_tuple→PQ,envOfC→PP,subscriptTail_builtinR→PJ,boot_str→Ph,IntsAre→OW,pairsOf→OT,getElem?_mirror_all→OO,subscriptTail→OJ,IsTup→Od
open PySem.PassesOwn renaming never→Xb
open PySem.PyData renaming eqv→W2,depthAll→Wl,canLayAll0→Wa,canLay0→U0,str→UJ,bool→S7,int→Si
open PySem.F renaming plainAttrs_list→WW,slot_list_append→Wr,type_list_append→Wq,typeOf_object_class→T4,slot_dict_items→S5,plainAttrs_str→Ss,slot_str_join→Sm,type_str_join→Sk,excBase_ValueError→RD,slot_list_extend→Rf,type_list_extend→Re,plain_list_iadd→P0,slot_list_count→PY,type_list_count→PX,plainAttrs_dict→PV,type_dict_items→PU,slot_set_iter→Pl,plain_set_new→Pk,args_list_count_2→OQ
open Int renaming toNat_natCast→WM,le_of_lt→V1,le_trans→Vz,le_refl→U5,natCast_mul→US,toNat_of_nonneg→UE,emod_lt_of_pos→Ul,emod_nonneg→To,natCast_add→Tk,zero_add→SR,neg_le_neg→SM,add_zero→RQ,natAbs_natCast→RI,fmod_eq_emod_of_nonneg→RF,fdiv_eq_ediv_of_nonneg→RE,not_lt→Ow,mul_comm→On
open PySem.Value renaming ref→Wz,int→Vw,none→Ur,bool→Tj,builtin→Rp,type→PM,str→Oj
open False renaming elim→Wi
open PySem.Around renaming under_plainId→V4
open Sum renaming inl→VU,inr→OY
open Option renaming isSome_iff_exists→VH,getD_some→TQ
open PySem.SetTable.below renaming go→Vy
open ForInStep renaming yield→Vu
open Ne renaming symm→Vs
open PySem.Builtin.Str renaming occurrences→Vc
open PySem.Obj renaming mapSeq→Va,mapFields→Sd
open PyProof.Rows.F renaming plain_set_update_loop→U8,entry_set_update_loop→TB
open List.Sublist renaming length_le→U7
open PySem.NameKind renaming cell→U4
open True renaming intro→U1
open PySem.Str renaming join→UQ
open PySem.Builtin.List renaming listTooLong→UG,listExtendWith→RP,listSameRef→Rg
open PySem.Heap.SameBut renaming update→UD
open PySem.SetTable.probe renaming go→T6
open List.Perm renaming append_left→Sq,length_eq→OM
open PySem.Shared renaming TypeIs→Sc
open PySem.Calls renaming Name_function_global→RG,call_function_entry→Ry,callWith_builtin→PF,evalArgs_plain→O7
open PySem.SeqAt.EqAt renaming bool_bool→RB
open Classical renaming byContradiction→RA
open PySem.SeqAt renaming list_countAt→Ri,eqv_refl→O8
open PySem.Builtin.Dict renaming updateFrom→PZ,pairItems→PD
set_option Elab.async false
set_option linter.all false
set_option maxRecDepth 100000
theorem bq {c:Prop}{h:Decidable c}(n:¬c){α:Sort _}{t e:α}:ite c t e=e:=if_neg n
theorem bw {c:Prop}{h:Decidable c}(n:c){α:Sort _}{t e:α}:ite c t e=t:=if_pos n
theorem br {p:Prop}[Decidable p](h:p):decide p=true:=decide_eq_true h
theorem bu {p:Prop}[Decidable p]:(decide p=true)=p:=decide_eq_true_eq
theorem bg {p:Prop}[Decidable p](h:¬p):decide p=false:=decide_eq_false h
theorem bh {p:Prop}[Decidable p](h:decide p=true):p:=of_decide_eq_true h
namespace zbV
open PySem PySem.W
noncomputable def sel:List Nat->Nat->List Stmt->List Stmt
 | _,_,[]=>[]
 | ns,i,x::xs=>match ns.contains i with
  | true=>sel ns (i+1) xs
  | false=>x::sel ns (i+1) xs
theorem zjl {r:OpenRow}{q:Xi}{H:Hook}{d:DefRec}{kwd:List (PySem.Str×Expr)}{N:Nat}(left:LeftO r.prog q [] (fun s=>xlAt q [] s&&recOk (RowW.records r.toRowW) s) (Hook.obs H) (Hook.val H) N)
  (hdef:defOf q r.name=some (d,kwd)) (hp:r.prog.theDef r.name=some (d.params,d.body,d.scope)) (hk:kwWritten? d.params.kwonlyargs d.params.kw_defaults=some kwd) (hwr:(!r.writes || r.records.isEmpty)=true)
  (k1:r.wellSaid=true) (ok:(chainsOk q&&opensWell r.prog&&(frees r.toRowW&&r.within.isEmpty))=true) (hb:r.prog.bare) (hw:r.toRowW.promised)
  (call:WalkO q [] (XL q []) (Hook.says H) r.toRowW d kwd fun f vs=>PySem.call f vs):r.Holds :=
 holds_open (q:=q) (loose:=[]) (Xt:=fun s=>xlAt q [] s&&recOk (RowW.records r.toRowW) s) (XP:=XL q []) (Yf:=Hook.obs H) (Ya:=Hook.val H) (YP:=Hook.says H) (N:=N) left (Hook.of H) (Hook.keeps H) (fun s e=>xl_of s (Wt.mp e).1) XL.keeps hdef hp hk
  (fun s e=>recFacts_of (Wt.mp e).2) hwr k1 ok hb hw call
noncomputable def top (i:Nat):Stmt:=PySem.Challenge.pw_stonelay_k42_witnesses.main.body.getD i (.Pass ⟨0,0,0,0⟩)
noncomputable def JK (s:Stmt):Arguments:=match s with
 | .FunctionDef _ a _ _ _ _ _ _ _ _=>a
 | _=>{ posonlyargs:=[],args:=[],vararg:=none,kwonlyargs:=[],kw_defaults:=[],kwarg:=none,defaults:=[] }
noncomputable def yU (s:Stmt):List Stmt:=match s with
 | .FunctionDef _ _ b _ _ _ _ _ _ _=>b
 | _=>[]
noncomputable def zj (s:Stmt):Uv:=match s with
 | .FunctionDef _ _ _ _ _ _ sc _ _ _=>sc
 | _=>{ kind:=.function,names:=[],isGenerator:=false,isCoroutine:=false }
def HD (K:X0)(x:Str)(i:Nat):Prop:=∃(f:Addr) (oc:X9) (od an:Option Addr) (sl:Array (Option X9)) (kV dc pm cd ct:X9),XM K XQ x=some (some (.ref f))/\K.lookup f=some ⟨oc,od,.func (UO x x (JK (top i)) (yU (top i)) (zj (top i)) .none kV dc pm an cd ct),sl⟩/\SQ K cd x=true/\T1 K (.ref f)=true
def xW:List X9:=[.type "ValueError",.type "Exception",.type "BaseException",.type "object"]
structure Facts (K:X0):Prop where
 QV:HD K "closed" 14
 xX:HD K "open_cells" 15
 QW:HD K "around" 16
 JL:HD K "number_at" 17
 ZI:HD K "cells_of" 18
 YN:HD K "sign_at" 19
 zbB:HD K "parts" 21
 QX:HD K "joined" 22
 zid:HD K "far" 23
 xY:HD K "numbers_of" 24
 xZ:HD K "bare_wrong" 25
 yf:HD K "closed_around" 26
 yy:HD K "part_layings" 29
 ZJ:HD K "needs_at" 30
 YO:HD K "may_fit" 31
 yV:HD K "part_counts" 32
 YQ:HD K "counted" 33
 YR:HD K "choices" 35
 QY:HD K "poured" 36
 yW:HD K "near_counts" 38
 zbC:HD K "count" 39
 x6:HD K "all_poured" 40
 zbD:HD K "dealt" 41
 x8:HD K "some_count" 43
 JM:HD K "witnesses" 44
 JN:HD K "far_picks" 45
 yX:HD K "some_laying" 46
 zbE:HD K "grown" 47
 yY:HD K "_law_cell_at" 49
 ZK:HD K "_law_near" 50
 JO:HD K "_law_signs" 51
 JP:HD K "_law_texts" 52
 YS:HD K "_law_dug" 53
 JQ:HD K "_law_board" 54
 yZ:HD K "_law_numbers" 55
 ZL:HD K "_law_fits" 56
 xg:HD K "_law_choices" 57
 xh:HD K "_law_layings" 58
 x9:HD K "_law_closed" 59
 xj:HD K "_law_outcome" 60
 ZM:HD K "_law_told" 61
 JR:HD K "_law_right" 62
 zie:HD K "law" 63
 Ja:XM K XQ "ValueError"=some none
 zif:XM K XQ "any"=some none
 zeB:XM K XQ "dict"=some none
 QZ:XM K XQ "divmod"=some none
 JS:XM K XQ "enumerate"=some none
 zig:XM K XQ "int"=some none
 Jb:XM K XQ "isinstance"=some none
 zih:XM K XQ "len"=some none
 zeC:XM K XQ "list"=some none
 zii:XM K XQ "max"=some none
 zij:XM K XQ "min"=some none
 zbF:XM K XQ "range"=some none
 zik:XM K XQ "set"=some none
 Q0:XM K XQ "sorted"=some none
 zil:XM K XQ "str"=some none
 zim:XM K XQ "sum"=some none
 zbG:XM K XQ "tuple"=some none
 xo:∃t,XM K XQ "CLOSED_SIGN"=some (some (.str "?" t))
 yC:∃t,XM K XQ "MOST_OF_PART"=some (some (.int 14 t))
 yD:∃t,XM K XQ "NO_CELL_SIGN"=some (some (.str "#" t))
 cls:∃jai jaj jad jaa jac jab jah jaf jae jag:Addr,XM K XQ "StoneError"=some (some (.ref jai))/\XM K XQ "TooGreat"=some (some (.ref jaj))/\XM K XQ "NoLaying"=some (some (.ref jad))/\XM K XQ "NoBoard"=some (some (.ref jaa))/\XM K XQ "NoCount"=some (some (.ref jac))/\XM K XQ "NoCell"=some (some (.ref jab))/\XM K XQ "NoText"=some (some (.ref jah))/\XM K XQ "NoRow"=some (some (.ref jaf))/\XM K XQ "NoNumber"=some (some (.ref jae))/\XM K XQ "NoTable"=some (some (.ref jag))/\Wu K jai xW "ValueError.__new__"=true/\Wu K jaj xW "ValueError.__new__"=true/\Wu K jad xW "ValueError.__new__"=true/\Wu K jaa xW "ValueError.__new__"=true/\Wu K jac xW "ValueError.__new__"=true/\Wu K jab xW "ValueError.__new__"=true/\Wu K jah xW "ValueError.__new__"=true/\Wu K jaf xW "ValueError.__new__"=true/\Wu K jae xW "ValueError.__new__"=true/\Wu K jag xW "ValueError.__new__"=true/\VI K (.ref jad) "__getattribute__"=some (some (.builtin "BaseException.__getattribute__"))/\VI K (.ref jad) "__getattr__"=some none/\VI K (.ref jad) "__class__"=some (some (.builtin "object.__class__"))/\VC K jad (.type "BaseException")=some true/\VC K jad (.type "object")=some true/\Ts K jad=true/\VC K jad (.ref jai)=some true/\W6 K (.ref jad) (.ref jaj)=some false/\W6 K (.ref jad) (.ref jad)=some true/\W6 K (.ref jad) (.ref jaa)=some false/\W6 K (.ref jad) (.ref jac)=some false/\W6 K (.ref jad) (.ref jab)=some false/\W6 K (.ref jad) (.ref jah)=some false/\W6 K (.ref jad) (.ref jaf)=some false/\W6 K (.ref jad) (.ref jae)=some false/\W6 K (.ref jad) (.ref jag)=some false/\W6 K (.ref jad) (.type "ValueError")=some true
end zbV
noncomputable def zbV.view:PySem.Program:={ PySem.Challenge.rw_stonelay_k42_witnesses.prog with main:={ PySem.Challenge.rw_stonelay_k42_witnesses.prog.main with body:=zbV.sel [0,11,20,27,34,37,42,48] 0 PySem.Challenge.rw_stonelay_k42_witnesses.prog.main.body } }
namespace zbV
open PySem PySem.W
abbrev rr:=PySem.Challenge.rw_stonelay_k42_witnesses.row
noncomputable abbrev OS:=openSeen view [] (importedModules rr.prog.main.body) (fun s=>xlAt view [] s&&recOk (RowW.records rr.toRowW) s) true
noncomputable abbrev GG:=openGood view []
noncomputable abbrev EN (w:World):=openEnds treeTable rr.prog w 6994
abbrev ob {β γ:Type}(O:Shared->β)(g:β)(w:World)(f:β->γ):Prop:=(EN w).map (fun s=>f (O s))=some (f g)
set_option maxRecDepth 100000
set_option maxHeartbeats 0
theorem sb w:ob OS GG w (·.2.1):=by kernel_rfl
theorem sc w:ob OS GG w (·.2.2.1):=by kernel_rfl
theorem sd w:ob OS GG w fun x=>(x.2.2.2.1,x.2.2.2.2.1):=by kernel_rfl
theorem se w:ob OS GG w (·.2.2.2.2.2):=by kernel_rfl
theorem sa w:ob OS GG w (·.1):=by kernel_rfl
theorem l5 {w}{α:Type}{Y:Shared->α}{y:α}(h:(EN w).map Y=some y):(EN w).map (fun s=>(OS s,Y s))=some (GG,y):=by
 have a:=sa w;have b:=sb w;have c:=sc w;have d:=sd w;have e:=se w
 unfold ob at a b c d e
 generalize EN w=E at a b c d e h ⊢
 cases E with
 | none=>cases a
 | some s=>exact congrArg some (Prod.ext (Prod.ext (Option.some.inj a) (Prod.ext (Option.some.inj b) (Prod.ext (Option.some.inj c) (Prod.ext (congrArg (·.1) (Option.some.inj d)) (Prod.ext (congrArg (·.2) (Option.some.inj d)) (Option.some.inj e)))))) (Option.some.inj h))
end zbV
local macro_rules | `(tactic| o_head $H)=>`(tactic| (refine' zbV.zjl (q:=zbV.view) (H:=$H) (N:=6994) (fun _=>zbV.l5 (by kernel_rfl)) (by rfl) (by rfl) (by rfl) (by rfl) (by first | assumption | decide +kernel) (by decide +kernel) ⟨rfl,rfl,rfl,rfl,rfl,by decide +kernel⟩ ?_ ?_))
open PySem PySem.W PyProof.Rows in
set_option maxRecDepth 100000 in
set_option maxHeartbeats 0 in
theorem zbV.look:PySem.Challenge.rw_stonelay_k42_witnesses.wellSaid=true:=by kernel_rfl
open PySem PySem.W PyProof.Rows in
set_option maxRecDepth 100000 in
set_option maxHeartbeats 0 in
theorem zbV.early (h:∀{q:Xi} {XP:(Str->Option X9)->Heap->Prop} {YP:WS->Heap->Prop} {d:DefRec} {K:Params->X0},d.params.defaults=[]->(∀(w:WS) (h:Heap),YP w h->(K w.params).In h)->d.name="law"->(∀w:WS,zbV.Facts (K w.params))->OK q [] XP YP PySem.Challenge.rw_stonelay_k42_witnesses.row.toRowW d [] (fun f vs=>PySem.call f vs)):PySem.Challenge.rw_stonelay_k42_witnesses.Holds:=by
 w_on;refine holds_law zbV.look fun said=>?_;k_head;w_witness2;k_fill;refine h rfl (fun w h Y=>PySem.W.kIn_of Y) rfl fun w=>?_;constructor;all_goals first | k_is | exact⟨_,_,_,_,_,_,_,_,_,_,by k_is,by k_is,by k_is,by k_is⟩ | exact⟨_,by k_is⟩ | exact⟨_,_,_,_,_,_,_,_,_,_,by k_is,by k_is,by k_is,by k_is,by k_is,by k_is,by k_is,by k_is,by k_is,by k_is,by k_exc,by k_exc,by k_exc,by k_exc,by k_exc,by k_exc,by k_exc,by k_exc,by k_exc,by k_exc,by k_is,by k_is,by k_is,by k_is,by k_is,by k_is,by k_is,by kit_is,by kit_is,by kit_is,by kit_is,by kit_is,by kit_is,by kit_is,by kit_is,by kit_is,by kit_is⟩
noncomputable section
namespace L2
open PySem PySem.Spec PyProof.Rows
abbrev Key:=Sum Int Str
def zba:Key->X9->Bool
 | .inl k,v=>Value.isInt k v
 | .inr x,v=>Value.isStrOf x v
def zoy (w:WS):Key->Int
 | .inl k=>hashInt k
 | .inr x=>hashStr w x
theorem qR:∀{k:Key} {v:X9},zba k v=true->(∃i t,k=VU i/\v=Vw i t)\/(∃x t,k=OY x/\v=Oj x t)
 | .inl i,v,h=>by
  obtain⟨t,e⟩:=Value.isInt_shape (k:=i) (v:=v) h;exact .inl ⟨i,t,rfl,e⟩
 | .inr x,v,h=>by
  obtain⟨t,e⟩:=Value.isStrOf_shape (x:=x) (v:=v) h;exact .inr ⟨x,t,rfl,e⟩
theorem zaM (i:Int)(t:Tok):zba (.inl i) (.int i t)=true:=by simp[zba,Value.isInt]
theorem zjm (x:Str)(t:Tok):zba (.inr x) (.str x t)=true:=by simp[zba,Value.isStrOf]
theorem zoz (a b:Int):decide ((VU a:Key)=VU b)=(a==b):=by
 by_cases e:a=b
 ·subst e;simp
 ·have h:¬ (VU a:Key)=VU b:=fun q=>e (Sum.inl.inj q);rw[bg h];exact(beq_eq_false_iff_ne.mpr e).symm
theorem zoA (a b:Str):decide ((OY a:Key)=OY b)=decide (a=b):=by
 by_cases e:a=b
 ·subst e;simp
 ·have h:¬ (OY a:Key)=OY b:=fun q=>e (Sum.inr.inj q);rw[bg h,bg e]
theorem zoB (a:Int)(b:Str):decide ((VU a:Key)=OY b)=false:=bg (fun q=>nomatch q)
theorem zoC (a:Str)(b:Int):decide ((OY a:Key)=VU b)=false:=bg (fun q=>nomatch q)
def zU (prog:Xi)(w:WS):PySem.KeyKind prog w Key where
 is:=zba
 hash:=zoy w
 inj:=fun v a b ha hb=>by
  rcases qR ha with ⟨i,t,rfl,rfl⟩ | ⟨x,t,rfl,rfl⟩
  ·rcases qR hb with ⟨j,u,rfl,e⟩ | ⟨y,u,rfl,e⟩
   ·injection e with e1 _;rw[e1]
   ·exact nomatch e
  ·rcases qR hb with ⟨j,u,rfl,e⟩ | ⟨y,u,rfl,e⟩
   ·exact nomatch e
   ·injection e with e1 _;rw[e1]
 byValue:=fun k v h=>by
  rcases qR h with ⟨i,t,rfl,rfl⟩ | ⟨x,t,rfl,rfl⟩<;>rfl
 pyHash:=fun hv h=>by
  rcases qR hv with ⟨i,t,rfl,rfl⟩ | ⟨x,t,rfl,rfl⟩
  ·exact wpAny_pyHash_int h
  ·exact wpAny_pyHash_str h
 eqBool:=fun hu hv h=>by
  rcases qR hu with ⟨i,t,rfl,rfl⟩ | ⟨x,t,rfl,rfl⟩
  ·rcases qR hv with ⟨j,u,rfl,rfl⟩ | ⟨y,u,rfl,rfl⟩
   ·rw[zoz] at h;exact wpAny_eqBool_int h
   ·rw[zoB] at h;exact SeqAt.EqAt.int_str i t y u _ _ _ _ h
  ·rcases qR hv with ⟨j,u,rfl,rfl⟩ | ⟨y,u,rfl,rfl⟩
   ·rw[zoC] at h;exact SeqAt.EqAt.str_int x t j u _ _ _ _ h
   ·rw[zoA] at h;exact wpAny_eqBool_str h
 «strs»:=fun k x t v h=>by
  rcases qR h with ⟨i,u,rfl,e⟩ | ⟨y,u,rfl,e⟩
  ·exact nomatch e
  ·injection e with e1 _
   subst e1;cases v<;>rfl
theorem zfw (prog:Xi)(w:WS)(i:Int)(t:Tok):(zU prog w).is (.inl i) (.int i t)=true:=zaM i t
theorem zfx (prog:Xi)(w:WS)(x:Str)(t:Tok):(zU prog w).is (.inr x) (.str x t)=true:=zjm x t
inductive V where
 | non | bl (b:Bool) | int (i:Int) | str (x:Str) | byt (b:Array UInt8) | flt (b:UInt64) | ref (a:Addr) | ty (n:String)
 deriving DecidableEq
def RelV:V->X9->Prop
 | .non,u=>u=Ur
 | .bl b,u=>u=Tj b
 | .int i,u=>∃t,u=Vw i t
 | .str x,u=>∃t,u=Oj x t
 | .byt b,u=>∃t,u=Value.bytes b t
 | .flt b,u=>∃t,u=Value.float b t
 | .ref a,u=>u=Wz a
 | .ty n,u=>u=PM n
abbrev Vals:List V->List X9->Prop:=WU RelV
theorem Vals.length {xs:List V}{us:List X9}(r:Vals xs us):xs.length=us.length:=Paired.length r
theorem Vals.get:∀{xs:List V} {us:List X9} {i:Nat} {x:V},Vals xs us->xs[i]?=some x->∃u,us[i]?=some u/\RelV x u
 | _,_,_,_,.nil,e=>by simp at e
 | _,_,0,_,.cons r _,e=>by simp at e;subst e;exact⟨_,rfl,r⟩
 | _,_,i+1,x,.cons _ t,e=>by
  obtain⟨u,h1,h2⟩:=Vals.get (i:=i) (x:=x) t (by simpa using e);exact⟨u,by simpa using h1,h2⟩
theorem Vals.set {x:V}{u:X9}(r:RelV x u):∀{xs:List V} {us:List X9} (i:Nat),Vals xs us->Vals (xs.set i x) (us.set i u)
 | _,_,_,.nil=>.nil
 | _,_,0,.cons _ t=>.cons r t
 | _,_,i+1,.cons q t=>.cons q (Vals.set r i t)
theorem Vals.append:∀{xs ys:List V} {us ws:List X9},Vals xs us->Vals ys ws->Vals (xs++ys) (us++ws)
 | _,_,_,_,.nil,s=>s
 | _,_,_,_,.cons r t,s=>.cons r (Vals.append t s)
theorem Vals.take:∀{xs:List V} {us:List X9} (n:Nat),Vals xs us->Vals (xs.take n) (us.take n)
 | _,_,0,_=>.nil
 | _,_,_+1,.nil=>.nil
 | _,_,n+1,.cons r t=>.cons r (Vals.take n t)
theorem Vals.drop:∀{xs:List V} {us:List X9} (n:Nat),Vals xs us->Vals (xs.drop n) (us.drop n)
 | _,_,0,r=>r
 | _,_,_+1,.nil=>.nil
 | _,_,n+1,.cons _ t=>Vals.drop n t
def zbW:Option V->Option X9->Prop
 | some v,some u=>RelV v u
 | none,none=>True
 | _,_=>False
def KV {κ:Type}:List (κ × V)->List (κ × X9)->Prop:=WU fun (p:κ × V) (q:κ × X9)=>p.1=q.1/\RelV p.2 q.2
def kV:Key->V
 | .inl i=>.int i
 | .inr x=>.str x
inductive HO where
  | lst (xs:List V)
  | tup (xs:List V)
  | dK (kvs:List (Key×V)) | dT (kvs:List (List Key×V))
  | set (S:Int->Bool) (n:Nat)
  | ins (C dx:Addr) (fs:List (Str×V))
  | own (x:Addr)
  | xd (fs:List (Str×V))
  | met (f x:Addr)
  | rng (lo hi:Int)
  | frz (o:Obj) (u:HO)
  | tbl (ps:Array X9)
  | ext (φ:Heap->Prop)
abbrev Hp:=Addr->Option HO
def upd (H:Hp)(a:Addr)(o:HO):Hp:=fun b=>if b=a then some o else H b
theorem zb {H:Hp}{a:Addr}{o:HO}:upd H a o a=some o:=by unfold upd;rw[bw rfl]
theorem zf {H:Hp}{a b:Addr}{o:HO}(h:b≠a):upd H a o b=H b:=by unfold upd;rw[bq h]
theorem zkp {H:Hp}{a b:Addr}{o u:HO}(h:H a=some o)(h':H b=some u)(d:o≠u):a≠b:=by
 intro e;subst e;rw[h] at h';exact d (Option.some.inj h')
theorem zg {H:Hp}{a b:Addr}{o:HO}(h:H a=some o)(h':H b=none):a≠b:=by
 intro e;subst e;rw[h] at h';cases h'
section
variable (P:Xi)(w:WS)
def qA (H:Hp)(h:Heap)(a:Addr):HO->Prop
 | .lst xs=>xs.length<=Xv/\∃(its:List X9) (n:Nat),Vals xs its/\h.get? a=some { cls:=.type "list",data:=.seq its.toArray n }
 | .tup xs=>xs.length<=Xv/\∃its:List X9,Vals xs its/\Od h a its.toArray
 | .dK kvs=>kvs.length<=Xv/\(a==Uq)=false/\∃vs,KV kvs vs/\h.DictOf (zU P w) a vs
 | .dT kvs=>kvs.length<=Xv/\(a==Uq)=false/\∃xs:List (List Key×Addr×X9),
   WU (fun (p:List Key×V) (q:List Key×Addr×X9)=>p.1=q.1/\H q.2.1=some (.tup (p.1.map kV))/\RelV p.2 q.2.2) kvs xs /\
   ∃o es ep,h.get? a=some o/\o.ExactDict/\o.data=.dict es ep/\es.toList=xs.map (entryOfKey (Ra (zU P w)))/\(xs.map (·.1)).Nodup
 | .set S n=>h.SetOf (intKind P w) a S n
 | .ins C dx fs=>H dx=some (.own a)/\fs.length<=1000/\dx≠a/\h.get? a=some (Px C dx) /\
   ∃mA,h.Ns1 dx mA/\(∀f,zbW (fs.lookup f) (mA f))/\PySem.Within mA (fs.map (·.1))
 | .own _=>∃o,h.get? a=some o
 | .xd fs=>∃mA,h.Ns1 a mA/\∀f,zbW (fs.lookup f) (mA f)
 | .rng lo hi=>∃t u v,h.get? a=some { cls:=.type "range",data:=.fields #[.int lo t,.int hi u,.int 1 v] }
 | .frz o u=>h.get? a=some o/\qA H h a u
 | .tbl ps=>h.get? a=some { cls:=.none,data:=.fields ps }
 | .met f x=>h.get? a=some (Rv (.ref f) (.ref x))
 | .ext φ=>φ h/\(∃o,h.get? a=some o)/\∀h1 h2:Heap,φ h1->(∀o,h1.get? a=some o->h2.get? a=some o)->φ h2
def HOk (H:Hp)(h:Heap):Prop:=∀a o,H a=some o->qA P w H h a o
end
section
variable {P:Xi}{w:WS}{H H':Hp}{h h':Heap}{a:Addr}{o:HO}
theorem qA.lt (x:qA P w H h a o):a<h.objs.size:=by
 cases o with
 | lst xs=>obtain⟨_,_,_,_,e⟩:=x;exact XI e
 | tup xs=>obtain⟨_,_,_,p⟩:=x;exact p.lt
 | dK kvs=>obtain⟨_,_,_,_,o,_,_,e,_⟩:=x;exact XI e
 | dT kvs=>obtain⟨_,_,_,_,o,_,_,e,_⟩:=x;exact XI e
 | set S n=>obtain⟨o,_,_,_,e,_⟩:=x;exact XI e
 | ins C dx fs=>obtain⟨_,_,_,e,_⟩:=x;exact XI e
 | own y=>obtain⟨_,e⟩:=x;exact XI e
 | xd fs=>obtain⟨_,⟨_,_,_,e,_⟩,_⟩:=x;exact XI e
 | rng lo hi=>obtain⟨_,_,_,e⟩:=x;exact XI e
 | frz ob u=>obtain⟨e,_⟩:=x;exact XI e
 | tbl ps=>exact XI (show h.get? a=some _ from x)
 | met f y=>exact XI (show h.get? a=some _ from x)
 | ext φ=>obtain⟨_,⟨_,e⟩,_⟩:=x;exact XI e
theorem Paired.mapP {α β:Type}{F G:α->β->Prop}:∀{l₁:List α} {l₂:List β},WU F l₁ l₂->(∀a b,F a b->G a b)->WU G l₁ l₂
 | _,_,.nil,_=>.nil
 | _,_,.cons r t,f=>.cons (f _ _ r) (Paired.mapP t f)
theorem qA.stay (x:qA P w H h a o)(k:∀b u,(b=a\/H b=some (.own a))->h.get? b=some u->h'.get? b=some u)
  (ho:∀b,H b=some (.own a)->H' b=some (.own a)) (ht:∀b xs,H b=some (.tup xs)->H' b=some (.tup xs)):qA P w H' h' a o:=by
 induction o with
 | lst xs=>obtain⟨z,its,n,r,e⟩:=x;exact⟨z,its,n,r,k _ _ (.inl rfl) e⟩
 | tup xs=>obtain⟨z,its,r,ob,e,c⟩:=x;exact⟨z,its,r,ob,k _ _ (.inl rfl) e,c⟩
 | dK kvs=>obtain⟨z,y,vs,r,ob,es,ep,e,c⟩:=x;exact⟨z,y,vs,r,ob,es,ep,k _ _ (.inl rfl) e,c⟩
 | dT kvs =>
  obtain⟨z,y,xs,r,ob,es,ep,e,c⟩:=x;exact⟨z,y,xs,Paired.mapP r fun p q z=>⟨z.1,ht _ _ z.2.1,z.2.2⟩,ob,es,ep,k _ _ (.inl rfl) e,c⟩
 | set S n=>obtain⟨ob,es,ep,t,e,c⟩:=x;exact⟨ob,es,ep,t,k _ _ (.inl rfl) e,c⟩
 | ins C dx fs =>
  obtain⟨d,z,ne,e,mA,⟨od,es,ep,e2,c⟩,r⟩:=x;exact⟨ho _ d,z,ne,k _ _ (.inl rfl) e,mA,⟨od,es,ep,k _ _ (.inr d) e2,c⟩,r⟩
 | own y=>obtain⟨ob,e⟩:=x;exact⟨ob,k _ _ (.inl rfl) e⟩
 | xd fs=>obtain⟨mA,⟨od,es,ep,e,c⟩,r⟩:=x;exact⟨mA,⟨od,es,ep,k _ _ (.inl rfl) e,c⟩,r⟩
 | rng lo hi=>obtain⟨t,u,v,e⟩:=x;exact⟨t,u,v,k _ _ (.inl rfl) e⟩
 | frz ob u ih=>obtain⟨e,q⟩:=x;exact⟨k _ _ (.inl rfl) e,ih q⟩
 | tbl ps =>
  have e:h.get? a=some { cls:=.none,data:=.fields ps }:=x;show h'.get? a=some { cls:=.none,data:=.fields ps };exact k a _ (.inl rfl) e
 | met f y =>
  have e:h.get? a=some (Rv (.ref f) (.ref y)):=x;show h'.get? a=some (Rv (.ref f) (.ref y));exact k a _ (.inl rfl) e
 | ext φ=>obtain⟨p,⟨o,e⟩,st⟩:=x;exact⟨st _ _ p fun o q=>k _ _ (.inl rfl) q,⟨o,k _ _ (.inl rfl) e⟩,st⟩
theorem HOk.lt (x:HOk P w H h)(e:H a=some o):a<h.objs.size:=(x a o e).lt
theorem HOk.fresh (x:HOk P w H h)(e:h.objs.size<=a):H a=none:=by
 cases q:H a with
 | none=>rfl
 | some u=>exact absurd (XJ (x.lt q) e) (V5 _)
theorem HOk.kept (x:HOk P w H h)(k:∀b u,h.get? b=some u->h'.get? b=some u):HOk P w H h':=fun a o e =>
 (x a o e).stay (fun b u _ q=>k b u q) (fun _ q=>q) fun _ _ q=>q
theorem HOk.laid (x:HOk P w H h)(k:∀b u,h.get? b=some u->h'.get? b=some u)(hp:h.objs.size<=a)(new:qA P w (upd H a o) h' a o):HOk P w (upd H a o) h':=fun b u e=>by
 have hn:=x.fresh hp;by_cases hb:b=a
 ·subst hb;rw[zb] at e;cases e;exact new
 ·rw[zf hb] at e;exact(x b u e).stay (fun c v _ q=>k c v q) (fun c q=>by rw[zf (zg q hn)];exact q) fun c xs q=>by rw[zf (zg q hn)];exact q
end
def Rd (H:Hp)(a:Addr)(u:HO):Prop:=H a=some u\/∃o,H a=some (.frz o u)
theorem Rd.ok {P:Xi}{w:WS}{H:Hp}{h:Heap}{a:Addr}{u:HO}(r:Rd H a u)(x:HOk P w H h):qA P w H h a u:=by
 rcases r with r | ⟨o,r⟩
 ·exact x a u r
 ·obtain⟨_,q⟩:=x a _ r;exact q
def Mut:Option HO->Prop
 | some (.lst _)=>True
 | some (.dK _)=>True
 | some (.dT _)=>True
 | some (.set _ _)=>True
 | some (.ins _ _ _)=>True
 | some (.ext _)=>True
 | _=>False
section
variable {P:Xi}{w:WS}{H:Hp}{h h':Heap}{x e:Addr}{o':HO}
theorem HOk.write (ok:HOk P w H h)(mu:Mut (H x))(he:e=x\/H e=some (.own x))(k:∀b u,b≠e->h.get? b=some u->h'.get? b=some u)(heo:∃u,h'.get? e=some u)
  (new:qA P w (upd H x o') h' x o'):HOk P w (upd H x o') h':=fun b u q=>by
 have nown:∀c y,H c=some (.own y)->c≠x:=fun c y r z=>by subst z;rw[r] at mu;exact mu
 have ntup:∀c xs,H c=some (.tup xs)->c≠x:=fun c xs r z=>by subst z;rw[r] at mu;exact mu
 by_cases hb:b=x
 ·subst hb;rw[zb] at q;cases q;exact new
 ·rw[zf hb] at q;by_cases hbe:b=e
  ·have q':H b=some (.own x):=by
    rcases he with z | z
    ·exact absurd (hbe.trans z) hb
    ·rw[hbe];exact z
   rw[q] at q';cases q';obtain⟨v,hv⟩:=heo;exact⟨v,by rw[hbe];exact hv⟩
  ·refine(ok b u q).stay (fun c v hc r=>k c v ?_ r) (fun c r=>by rw[zf (nown c b r)];exact r) fun c xs r=>by rw[zf (ntup c xs r)];exact r
   rcases hc with rfl | hc
   ·exact hbe
   ·rintro rfl;rcases he with z | z
    ·exact nown c b hc z
    ·rw[hc] at z;cases z;exact hb rfl
end
structure Un (fs ex:List Addr)(H H':Hp)(h h':Heap):Prop where
 keep:∀b o,h.get? b=some o->H b=none->b ∉ fs->b ∉ ex->h'.get? b=some o
 slot:∀b o,h.get? b=some o->H b=none->b∈fs->b ∉ ex->∃sl,h'.get? b=some { o with slots:=sl }
 free:∀b o,h.get? b=some o->H b=none->b ∉ ex->H' b=none
 there:∀b o,h.get? b=some o->b ∉ ex->∃o',h'.get? b=some o'
 tups:∀b xs,H b=some (.tup xs)->H' b=some (.tup xs)
 frzs:∀b o u,H b=some (.frz o u)->H' b=some (.frz o u)
 tbls:∀b ps,H b=some (.tbl ps)->∃more,H' b=some (.tbl (ps++more))
section
variable {fs fs' ex ex':List Addr}{H H1 H2:Hp}{h h1 h2 h':Heap}{a x e:Addr}{o:HO}
theorem Un.any (u:Un fs ex H H1 h h1){b:Addr}{ob:Obj}(q:h.get? b=some ob)(n:H b=none)(hx:b ∉ ex):∃sl,h1.get? b=some { ob with slots:=sl }:=by
 by_cases hb:b∈fs
 ·exact u.slot b ob q n hb hx
 ·exact⟨ob.slots,u.keep b ob q n hb hx⟩
theorem Un.kept (k:∀b u,h.get? b=some u->h'.get? b=some u):Un fs ex H H h h' :=
 ⟨fun b ob q _ _ _=>k b ob q,fun b ob q _ _ _=>⟨ob.slots,k b ob q⟩,fun _ _ _ n _=>n,fun b ob q _=>⟨ob,k b ob q⟩,fun _ _ q=>q,fun _ _ _ q=>q,fun _ ps q=>⟨#[],by rw[q];simp⟩⟩
theorem Un.refl:Un fs ex H H h h:=Un.kept fun _ _ q=>q
theorem Un.laid (k:∀b u,h.get? b=some u->h'.get? b=some u)(hp:h.objs.size<=a)(hn:H a=none):Un fs ex H (upd H a o) h h' where
 keep:=fun b u q _ _ _=>k b u q
 slot:=fun b u q _ _ _=>⟨u.slots,k b u q⟩
 free:=fun b u q n _=>by rw[zf (Xe (XJ (XI q) hp))];exact n
 there:=fun b u q _=>⟨u,k b u q⟩
 tups:=fun b xs q=>by rw[zf (zg q hn)];exact q
 frzs:=fun b u xs q=>by rw[zf (zg q hn)];exact q
 tbls:=fun b ps q=>⟨#[],by rw[zf (zg q hn),q];simp⟩
theorem Un.write (mu:Mut (H x))(he:e=x\/H e=some (.own x))(k:∀b u,b≠e->h.get? b=some u->h'.get? b=some u)(heo:∃u,h'.get? e=some u):Un fs ex H (upd H x o) h h':=by
 have hx:∀b,H b=none->b≠x:=fun b n z=>by subst z;rw[n] at mu;exact mu
 have hb:∀b,H b=none->b≠e:=fun b n z=>by
  subst z;rcases he with r | r
  ·exact hx b n r
  ·rw[n] at r;cases r
 have hm:∀b u,H b=some u->¬ Mut (some u)->b≠x:=fun b u q nm z=>by subst z;rw[q] at mu;exact nm mu
 refine⟨fun b u q n _ _=>k b u (hb b n) q,fun b u q n _ _=>⟨u.slots,k b u (hb b n) q⟩,fun b u q n _=>by rw[zf (hx b n)];exact n,fun b u q _=>?_,
  fun b xs q=>by rw[zf (hm b _ q fun z=>z)];exact q,fun b u xs q=>by rw[zf (hm b _ q fun z=>z)];exact q,fun b ps q=>⟨#[],by rw[zf (hm b _ q fun z=>z),q];simp⟩⟩
 by_cases hbe:b=e
 ·subst hbe;exact heo
 ·exact⟨u,k b u hbe q⟩
end
def trk (h:Heap)(H:Hp):List Addr:=(XF h.objs.size).filter fun a=>(H a).isSome
def zeD (h:Heap)(H:Hp):Heap:=PySem.W.hideAll h (trk h H)
theorem zjn (h:Heap)(H:Hp):(zeD h H).objs.size=h.objs.size:=PySem.W.hideAll_size _ _
theorem zkq {h:Heap}{H:Hp}{b:Addr}{o:Obj}(e:h.get? b=some o)(n:H b=none):(zeD h H).get? b=some o :=
 TH _ e fun hm=>by
  have q:(H b).isSome=true:=(X6.mp hm).2;rw[n] at q;simp at q
theorem zmL {h:Heap}{H:Hp}{b:Addr}{o:Obj}(e:(zeD h H).get? b=some o):h.get? b=some o/\H b=none:=by
 have e':h.get? b=some o:=PySem.W.of_hideAll (trk h H) e;refine⟨e',?_⟩;cases q:H b with
 | none=>rfl
 | some x =>
  have hm:b∈trk h H:=X6.mpr ⟨Xl.mpr (XI e'),by simp[q]⟩;have z:(zeD h H).get? b=none:=PySem.W.hideAll_none (trk h H) hm;rw[z] at e;cases e
structure Mod (K:X0)(mg:Str->Option X9)(base:Heap):Prop where
 kin:K.In base
 glob:base.Ns XQ mg
 blt:∃mb,base.Ns Oz mb/\∀x:Str,x ≠ "__name__"->mb x=TU x
 nolimit:base.NoLimit
structure Cx where
 prog:Xi
 w:WS
 K:X0
 mg:Str->Option X9
 base:Heap
 A:WL
 N:List Str
 s₀:X8
 H₀:Hp
 env:Env
 outer:List Env
 stack:List Env
 ex:List Addr
 fn:Str->Bool
 calm:Bool
 pn:List (Addr×Obj)
 xe:X9->X8->Prop
def frs (l:List Env):List Addr:=l.filterMap (·.frame)
abbrev Cx.fs (X:Cx):List Addr:=frs X.outer
def Vis (sc:Uv)(x:Str):Prop:=sc.names.lookup x=some .local\/sc.names.lookup x=some .cell\/sc.names.lookup x=some .free
def Loc (sc:Uv)(x:Str):Prop:=sc.names.lookup x=some .local\/sc.names.lookup x=some .cell
def Look (env:Env)(h:Heap)(m:Str->Option X9)(x:Str)(u:X9):Prop :=
 (env.kindOf x=some .local/\m x=some u)\/((env.kindOf x=some .cell\/env.kindOf x=some .free)/\∃c,env.cells.lookup x=some c/\h.IsCell c (some u))
structure Cx.Ok (X:Cx):Prop where
 mod:Mod X.K X.mg X.base
 kind:X.env.scope.kind=.function
 glob:X.env.globals=XQ
 blt:X.env.builtins=Oz
 above:X.s₀.heap.objs.size<=X.env.locals
 inj:∀x y c,X.env.cells.lookup x=some c->X.env.cells.lookup y=some c->x=y
 has:∀x,(X.env.kindOf x=some .cell\/X.env.kindOf x=some .free)->∃c,X.env.cells.lookup x=some c
 cab:∀x c,X.fn x=true->X.env.cells.lookup x=some c->X.s₀.heap.objs.size<=c
 hd:X.calm=true->X.A.handled=none
 frames:X.A.frames=some X.stack
 stk:X.stack=X.outer\/(X.stack=X.env::X.outer/\X.env.frame=some X.env.locals)
 exf:∀b∈X.ex,b≠X.env.locals/\∀x c,X.env.cells.lookup x=some c->c≠b
 bs:∀b o,X.base.get? b=some o->X.s₀.heap.get? b=some o/\X.H₀ b=none
 bsz:X.base.objs.size<=X.s₀.heap.objs.size
 noex:∀b o,X.base.get? b=some o->b ∉ X.ex
 exfs:∀b∈X.ex,b ∉ X.fs
 funs:X.s₀.heap.FunFrames X.base X.outer
 frf:∀b∈X.fs,X.H₀ b=none
structure Inv (X:Cx)(bQ:List (Addr×Obj))(σ:List (Option V))(H:Hp)(s:X8):Prop where
 ok:X.Ok
 os:s.os=X.s₀.os
 bare:Sf s.gens
 base:Un X.fs X.ex X.H₀ H X.s₀.heap s.heap
 loc:∃m,s.heap.Ns X.env.locals m/\∀(i:Nat) (x:Str) (v:V),X.N[i]?=some x->σ[i]?=some (some v)->Vis X.env.scope x->∃u,RelV v u/\Look X.env s.heap m x u
 cell:∀x c,X.env.cells.lookup x=some c->∃v,s.heap.IsCell c v
 free:H X.env.locals=none
 freeC:∀x c,X.env.cells.lookup x=some c->H c=none
 pin:∀p∈X.pn++bQ,s.heap.get? p.1=some p.2/\H p.1=none/\p.1≠X.env.locals/\p.1 ∉ X.fs/\∀v,p.2.data ≠ .cell v
 hok:HOk X.prog X.w H s.heap
 len:σ.length=X.N.length
section
variable {X:Cx}{bQ:List (Addr×Obj)}{σ:List (Option V)}{H H':Hp}{s:X8}{h':Heap}
theorem Cx.Ok.nofr (ok:X.Ok){b:Addr}{o:Obj}(e:X.base.get? b=some o):b ∉ X.fs:=fun hb=>by
 have:=(ok.funs.mem hb).1;rw[e] at this;cases this
theorem Inv.bs (I:Inv X bQ σ H s):∀b o,X.base.get? b=some o->s.heap.get? b=some o/\H b=none:=fun b o e =>
 ⟨I.base.keep b o (I.ok.bs b o e).1 (I.ok.bs b o e).2 (I.ok.nofr e) (I.ok.noex b o e),I.base.free b o (I.ok.bs b o e).1 (I.ok.bs b o e).2 (I.ok.noex b o e)⟩
theorem Inv.bk (I:Inv X bQ σ H s):∀b o,X.base.get? b=some o->s.heap.get? b=some o:=fun b o e=>(I.bs b o e).1
theorem Inv.mod (I:Inv X bQ σ H s):Mod X.K X.mg X.base:=I.ok.mod
theorem Inv.kIn (I:Inv X bQ σ H s):X.K.In s.heap:=I.ok.mod.kin.keeps I.bk
theorem Inv.lt (I:Inv X bQ σ H s):X.env.locals<s.heap.objs.size:=let ⟨_,hn,_⟩:=I.loc;hn.lt
theorem Inv.sz (I:Inv X bQ σ H s):X.s₀.heap.objs.size<=s.heap.objs.size:=X4 I.ok.above (SZ I.lt)
theorem Inv.nofs (I:Inv X bQ σ H s){a:Addr}(h:s.heap.objs.size<=a):a ∉ X.fs:=fun hb=>by
 obtain⟨_,o,ho,_⟩:=I.ok.funs.mem hb;exact absurd (XJ (XI ho) (X4 I.sz h)) (V5 _)
theorem Inv.cne (I:Inv X bQ σ H s):∀x c,X.env.cells.lookup x=some c->c≠X.env.locals:=fun x c e z=>by
 obtain⟨v,o,ho,hd⟩:=I.cell x c e;obtain⟨m,⟨o',es,ep,ho',hd',_⟩,_⟩:=I.loc;rw[z,ho'] at ho;cases ho;rw[hd'] at hd;cases hd
theorem Inv.funs (I:Inv X bQ σ H s):s.heap.FunFrames X.base X.outer:=by
 have all:∀(l:List Env),(∀b∈frs l,b∈X.fs)->X.s₀.heap.FunFrames X.base l->s.heap.FunFrames X.base l:=by
  intro l;induction l with
  | nil=>intro _ _;trivial
  | cons env r ih =>
   intro hs hl;obtain⟨hk,⟨L,o,hf,hn,ho,hd⟩,hr⟩:=hl;have hL:L∈X.fs:=hs L (by unfold frs;rw[U9,hf];exact XT);obtain⟨sl,e⟩:=I.base.slot L o ho (I.ok.frf L hL) hL fun z=>I.ok.exfs L z hL;exact⟨hk,⟨L,_,hf,hn,e,hd⟩,ih (fun b hb=>hs b (by unfold frs;rw[U9,hf];exact XR _ hb)) hr⟩
 exact all X.outer (fun _ hb=>hb) I.ok.funs
theorem Inv.stack (I:Inv X bQ σ H s):s.heap.FunFrames X.base X.stack:=by
 rcases I.ok.stk with e | ⟨e,hf⟩
 ·rw[e];exact I.funs
 ·rw[e];obtain⟨m,hn,_⟩:=I.loc;refine .cons (by rw[I.ok.kind];decide) hf hn ?_ I.funs;exact UL (X4 I.ok.bsz I.ok.above)
theorem Inv.stkSub (I:Inv X bQ σ H s):∀b∈frs X.stack,b∈X.env.locals::X.fs:=fun b hb=>by
 rcases I.ok.stk with e | ⟨e,hf⟩
 ·rw[e] at hb;exact XR _ hb
 ·rw[e] at hb;unfold frs at hb;rw[U9,hf] at hb;exact hb
theorem Inv.stkFree (I:Inv X bQ σ H s):∀b∈frs X.stack,H b=none:=fun b hb=>by
 rcases Xz.mp (I.stkSub b hb) with e | hb
 ·rw[e];exact I.free
 ·obtain⟨_,o,ho,_⟩:=I.ok.funs.mem hb;exact I.base.free b o ho (I.ok.frf b hb) fun z=>I.ok.exfs b z hb
theorem Inv.step {g':Array U2}{t':Nat}{d':Oc}{ch:List Addr}(I:Inv X bQ σ H s)
  (hch:∀b∈ch,(b∈X.ex\/X.s₀.heap.objs.size<=b)/\b≠X.env.locals/\(∀x c,X.env.cells.lookup x=some c->c≠b)/\∀p∈X.pn++bQ,p.1≠b)
  (keep:∀b o,b≠X.env.locals->b ∉ X.fs->b ∉ ch->s.heap.get? b=some o->H b=none->h'.get? b=some o)
  (slot:∀b o,b≠X.env.locals->b∈X.fs->b ∉ ch->s.heap.get? b=some o->H b=none->∃sl,h'.get? b=some { o with slots:=sl }) (free:∀b o,b ∉ ch->s.heap.get? b=some o->H b=none->H' b=none)
  (there:∀b o,b ∉ ch->s.heap.get? b=some o->∃o',h'.get? b=some o')
  (tups:∀b xs,H b=some (.tup xs)->H' b=some (.tup xs)) (frzs:∀b o u,H b=some (.frz o u)->H' b=some (.frz o u)) (tbls:∀b ps,H b=some (.tbl ps)->∃more,H' b=some (.tbl (ps++more)))
  (ns:∀m,s.heap.Ns X.env.locals m->h'.Ns X.env.locals m) (hok:HOk X.prog X.w H' h') (hg:Sf g') :
  Inv X bQ σ H' { s with heap:=h',gens:=g',drawn:=d',toks:=t' }:=by
 have neL:∀b o,X.s₀.heap.get? b=some o->b≠X.env.locals:=fun b o e=>Xe (XJ (XI e) I.ok.above);have neC:∀b o,X.s₀.heap.get? b=some o->b ∉ X.ex->b ∉ ch:=fun b o e hx hb=>by
  rcases(hch b hb).1 with z | z
  ·exact hx z
  ·exact absurd (XJ (XI e) z) (V5 _)
 have cellK:∀x c,X.env.cells.lookup x=some c->∀v,s.heap.IsCell c v->h'.IsCell c v:=fun x c e v ⟨o,ho,hd⟩=>by
  have nch:c ∉ ch:=fun z=>(hch c z).2.2.1 x c e rfl;by_cases hc:c∈X.fs
  ·obtain⟨sl,q⟩:=slot c o (I.cne x c e) hc nch ho (I.freeC x c e);exact⟨_,q,hd⟩
  ·exact⟨o,keep c o (I.cne x c e) hc nch ho (I.freeC x c e),hd⟩
 refine⟨I.ok,I.os,hg,⟨fun b o e n hb hx=>?_,fun b o e n hb hx=>?_,fun b o e n hx=>?_,fun b o e hx=>?_,fun b xs e=>tups b xs (I.base.tups b xs e),fun b o xs e=>frzs b o xs (I.base.frzs b o xs e),fun b ps e=>?_⟩,?_,fun x c e=>?_,?_,fun x c e=>?_,fun p hp=>?_,hok,I.len⟩
 ·exact keep b o (neL b o e) hb (neC b o e hx) (I.base.keep b o e n hb hx) (I.base.free b o e n hx)
 ·obtain⟨sl,e1⟩:=I.base.slot b o e n hb hx;obtain⟨sl',e2⟩:=slot b _ (neL b o e) hb (neC b o e hx) e1 (I.base.free b o e n hx);exact⟨sl',e2⟩
 ·obtain⟨o',e1⟩:=I.base.there b o e hx;exact free b o' (neC b o e hx) e1 (I.base.free b o e n hx)
 ·obtain⟨o',e1⟩:=I.base.there b o e hx;exact there b o' (neC b o e hx) e1
 ·obtain⟨m1,e1⟩:=I.base.tbls b ps e;obtain⟨m2,e2⟩:=tbls b _ e1;exact⟨m1++m2,by rw[e2,Array.append_assoc]⟩
 ·obtain⟨m,hn,hl⟩:=I.loc;refine⟨m,ns m hn,fun i x v e1 e2 e3=>?_⟩;obtain⟨u,r,l⟩:=hl i x v e1 e2 e3;refine⟨u,r,?_⟩;rcases l with l | ⟨k,c,e,z⟩
  ·exact .inl l
  ·exact .inr ⟨k,c,e,cellK x c e _ z⟩
 ·obtain⟨v,z⟩:=I.cell x c e;exact⟨v,cellK x c e v z⟩
 ·obtain⟨m,⟨o,_,_,ho,_⟩,_⟩:=I.loc;exact free _ o (fun z=>(hch _ z).2.1 rfl) ho I.free
 ·obtain⟨v,o,ho,hd⟩:=I.cell x c e;exact free c o (fun z=>(hch c z).2.2.1 x c e rfl) ho (I.freeC x c e)
 ·obtain⟨e,n,ne,nf,d⟩:=I.pin p hp;have nch:p.1 ∉ ch:=fun z=>(hch p.1 z).2.2.2 p hp rfl;exact⟨keep p.1 p.2 ne nf nch e n,free p.1 p.2 nch e n,ne,nf,d⟩
theorem Inv.un {t':Nat}(I:Inv X bQ σ H s)(u:Un X.fs [] H H' s.heap h')(hok:HOk X.prog X.w H' h'):Inv X bQ σ H' { s with heap:=h',toks:=t' }:=by
 obtain⟨m,⟨o,es,ep,ho,r⟩,_⟩:=id I.loc;obtain⟨sl,hL⟩:=u.any ho I.free (by simp);exact I.step (g':=s.gens) (d':=s.drawn) (ch:=[]) (fun _ z=>nomatch z) (fun b o _ hb _ e n=>u.keep b o e n hb (by simp)) (fun b o _ hb _ e n=>u.slot b o e n hb (by simp)) (fun b o _ e n=>u.free b o e n (by simp)) (fun b o _ e=>u.there b o e (by simp)) u.tups u.frzs u.tbls (fun m' hm=>by
  obtain⟨o',es',ep',ho',r'⟩:=hm;rw[ho] at ho';cases ho';exact⟨_,es',ep',hL,r'⟩) hok I.bare
theorem Inv.call {g':Array U2}{t':Nat}{d':Oc}{ch:List Addr}(I:Inv X bQ σ H s)(u:Un (frs X.stack) ch H H' s.heap h')(hok:HOk X.prog X.w H' h')(hg:Sf g')
  (hch:∀b∈ch,(b∈X.ex\/X.s₀.heap.objs.size<=b)/\b≠X.env.locals/\(∀x c,X.env.cells.lookup x=some c->c≠b)/\∀p∈X.pn++bQ,p.1≠b) :
  Inv X bQ σ H' { s with heap:=h',gens:=g',drawn:=d',toks:=t' }:=by
 obtain⟨m,⟨o,es,ep,ho,r⟩,_⟩:=id I.loc;obtain⟨sl,hL⟩:=u.any ho I.free fun z=>(hch _ z).2.1 rfl;exact I.step (ch:=ch) hch (fun b o hL hb hc e n=>u.keep b o e n (fun z=>(Xz.mp (I.stkSub b z)).elim hL hb) hc) (fun b o _ _ hc e n=>u.any e n hc) (fun b o hc e n=>u.free b o e n hc) (fun b o hc e=>u.there b o e hc) u.tups u.frzs u.tbls (fun m' hm=>by
  obtain⟨o',es',ep',ho',r'⟩:=hm;rw[ho] at ho';cases ho';exact⟨_,es',ep',hL,r'⟩) hok hg
theorem Inv.turned {t':Nat}{it:Addr}(I:Inv X bQ σ H s)(k:∀b o,b≠it->s.heap.get? b=some o->h'.get? b=some o)(hn:H it=none)(hL:it≠X.env.locals)
  (h1:it∈X.ex\/X.s₀.heap.objs.size<=it) (h2:∀x c,X.env.cells.lookup x=some c->c≠it) (h3:∀p∈X.pn++bQ,p.1≠it):Inv X bQ σ H { s with heap:=h',toks:=t' }:=by
 have nit:∀b u,H b=some u->b≠it:=fun b u e z=>by rw[z,hn] at e;cases e
 refine I.step (g':=s.gens) (d':=s.drawn) (ch:=[it]) (fun b hb=>?_) (fun b o _ _ hc e _=>k b o (fun z=>hc (by simp[z])) e) (fun b o _ _ hc e _=>⟨o.slots,k b o (fun z=>hc (by simp[z])) e⟩) (fun _ _ _ _ n=>n)
  (fun b o hc e=>⟨o,k b o (fun z=>hc (by simp[z])) e⟩) (fun _ _ e=>e) (fun _ _ _ e=>e) (fun b ps e=>⟨#[],by rw[e];simp⟩) (fun m hm=>?_) (fun b u e=>?_) I.bare
 ·have e:b=it:=by simpa using hb
  subst e;exact⟨h1,hL,h2,h3⟩
 ·obtain⟨o,es,ep,ho,r⟩:=hm;exact⟨o,es,ep,k _ o (Vs hL) ho,r⟩
 ·refine(I.hok b u e).stay (fun c v hc q=>k c v ?_ q) (fun _ q=>q) fun _ _ q=>q;rcases hc with z | z
  ·rw[z];exact nit b u e
  ·exact nit c _ z
theorem Inv.tok (I:Inv X bQ σ H s)(t:Nat):Inv X bQ σ H { s with toks:=t }:=I.un (h':=s.heap) (t':=t) Un.refl I.hok
theorem Inv.kept {t':Nat}(I:Inv X bQ σ H s)(k:∀b u,s.heap.get? b=some u->h'.get? b=some u):Inv X bQ σ H { s with heap:=h',toks:=t' }:=I.un (Un.kept k) (I.hok.kept k)
theorem Inv.laid {a:Addr}{o:HO}{t':Nat}(I:Inv X bQ σ H s)(k:∀b u,s.heap.get? b=some u->h'.get? b=some u)(hp:s.heap.objs.size<=a)(new:qA X.prog X.w (upd H a o) h' a o) :
  Inv X bQ σ (upd H a o) { s with heap:=h',toks:=t' }:=I.un (Un.laid k hp (I.hok.fresh hp)) (I.hok.laid k hp new)
theorem Inv.write {x e:Addr}{o:HO}{t':Nat}(I:Inv X bQ σ H s)(mu:Mut (H x))(he:e=x\/H e=some (.own x))(k:∀b u,b≠e->s.heap.get? b=some u->h'.get? b=some u)(heo:∃u,h'.get? e=some u)
  (new:qA X.prog X.w (upd H x o) h' x o):Inv X bQ σ (upd H x o) { s with heap:=h',toks:=t' }:=I.un (Un.write mu he k heo) (I.hok.write mu he k heo new)
theorem Inv.pins_of {pins':List (Addr×Obj)}(I:Inv X bQ σ H s)(h:∀p∈pins',s.heap.get? p.1=some p.2/\H p.1=none/\p.1≠X.env.locals/\p.1 ∉ X.fs/\∀v,p.2.data ≠ .cell v):Inv X pins' σ H s :=
 ⟨I.ok,I.os,I.bare,I.base,I.loc,I.cell,I.free,I.freeC,fun p hp=>(XO.mp hp).elim (fun z=>I.pin p (W5 _ z)) (h p),I.hok,I.len⟩
theorem zbX {N:List Str}(hN:N.Nodup){i j:Nat}{x:Str}(a:N[i]?=some x)(b:N[j]?=some x):i=j:=by
 obtain⟨h1,e1⟩:=X2.mp a;obtain⟨h2,e2⟩:=X2.mp b;exact(List.getElem_inj hN).mp (e1.trans e2.symm)
theorem zdC {M:Ob}{A:WL}{E:X9->X8->Prop}{i:Nat}{x:Str}{v:V}{u:X9}{Q:Unit->X8->Prop}(I:Inv X bQ σ H s)(hN:X.N.Nodup)(hi:X.N[i]?=some x)(hx:Loc X.env.scope x)(r:RelV v u)
  (h:∀s',Inv X bQ (σ.set i (some v)) H s'->(∃a,VA a s.heap s'.heap/\(a=X.env.locals\/X.env.cells.lookup x=some a))->Q () s') (hf:X.fn x=true\/X.env.scope.names.lookup x=some .local:=by first | exact .inl rfl | exact .inr rfl | assumption):W7 M A (storeName X.env x u) Q E s:=by
 obtain⟨m,hn,hl⟩:=id I.loc;have hcls:(X.env.scope.kind == .class || (X.env.scope.kind == .module&&X.env.locals != X.env.globals))=false:=by rw[I.ok.kind];rfl
 have hiσ:i < σ.length:=by rw[I.len];exact(X2.mp hi).1
 have cne:=I.cne;have tracked:∀{a:Addr} {h':Heap},(∃o,s.heap.get? a=some o/\H a=none)->VA a s.heap h'->HOk X.prog X.w H h':=fun {a h'} ha hs b ob e=>by
  obtain⟨_,_,hfree⟩:=ha;refine(I.hok b ob e).stay (fun c w' hc q=>(hs.2 c ?_).trans q) (fun _ q=>q) fun _ _ q=>q;rintro rfl;rcases hc with rfl | hc
  ·rw[hfree] at e;cases e
  ·rw[hfree] at hc;cases hc
 rcases hx with hk | hk
 ·refine wpAny_storeName_local hk hn (fun h' hn' hs=>?_) hcls;obtain⟨oL,_,_,hoL,_⟩:=id hn;refine h _ ⟨I.ok,I.os,I.bare,⟨fun b o e n hb hx=>?_,fun b o e n hb hx=>?_,I.base.free,fun b o e hx=>?_,I.base.tups,I.base.frzs,I.base.tbls⟩,⟨_,hn',fun j y v' e1 e2 e3=>?_⟩,fun y c e=>?_,I.free,I.freeC,fun p hp=>?_,tracked ⟨oL,hoL,I.free⟩ hs,by simpa using I.len⟩ ⟨_,hs,.inl rfl⟩
  ·exact(hs.2 b (Xe (XJ (XI e) I.ok.above))).trans (I.base.keep b o e n hb hx)
  ·obtain⟨sl,e1⟩:=I.base.slot b o e n hb hx;exact⟨sl,(hs.2 b (Xe (XJ (XI e) I.ok.above))).trans e1⟩
  ·obtain⟨o',e1⟩:=I.base.there b o e hx;exact⟨o',(hs.2 b (Xe (XJ (XI e) I.ok.above))).trans e1⟩
  ·by_cases hj:j=i
   ·subst hj;rw[hi] at e1;cases e1;rw[SA hiσ] at e2;cases e2;exact⟨u,r,.inl ⟨hk,by simp⟩⟩
   ·rw[R8 (Vs hj)] at e2;obtain⟨u',r',q⟩:=hl j y v' e1 e2 e3;refine⟨u',r',?_⟩;rcases q with ⟨k,e⟩ | ⟨k,c,e,z⟩
    ·refine .inl ⟨k,?_⟩;have:y≠x:=fun e=>hj (zbX hN e1 (e ▸ hi));simp[this,e]
    ·exact .inr ⟨k,c,e,z.sameBut hs (cne y c e)⟩
  ·obtain⟨w',z⟩:=I.cell y c e;exact⟨w',z.sameBut hs (cne y c e)⟩
  ·obtain⟨e,n,ne,nf,d⟩:=I.pin p hp;exact⟨(hs.2 p.1 ne).trans e,n,ne,nf,d⟩
 ·have hfn:X.fn x=true:=by
   rcases hf with z | z
   ·exact z
   ·rw[z] at hk;cases hk
  obtain⟨c,hc⟩:=I.ok.has x (.inl hk);obtain⟨w',z⟩:=I.cell x c hc;refine wpAny_storeName_cell I.ok.kind hk hc z (fun h' hc' hs=>?_);obtain⟨oc,hoc,hocd⟩:=id z;refine h { s with heap:=h' } ⟨I.ok,I.os,I.bare,⟨fun b o e n hb hx=>?_,fun b o e n hb hx=>?_,I.base.free,fun b o e hx=>?_,I.base.tups,I.base.frzs,I.base.tbls⟩,⟨m,hn.sameBut hs (Vs (cne x c hc)),fun j y v' e1 e2 e3=>?_⟩,fun y c' e=>?_,I.free,I.freeC,fun p hp=>?_,tracked ⟨oc,hoc,I.freeC x c hc⟩ hs,by simpa using I.len⟩ ⟨c,hs,.inr hc⟩
  ·exact(hs.2 b (Xe (XJ (XI e) (I.ok.cab x c hfn hc)))).trans (I.base.keep b o e n hb hx)
  ·obtain⟨sl,e1⟩:=I.base.slot b o e n hb hx;exact⟨sl,(hs.2 b (Xe (XJ (XI e) (I.ok.cab x c hfn hc)))).trans e1⟩
  ·obtain⟨o',e1⟩:=I.base.there b o e hx;exact⟨o',(hs.2 b (Xe (XJ (XI e) (I.ok.cab x c hfn hc)))).trans e1⟩
  ·by_cases hj:j=i
   ·subst hj;rw[hi] at e1;cases e1;rw[SA hiσ] at e2;cases e2;exact⟨u,r,.inr ⟨.inl hk,c,hc,hc'⟩⟩
   ·rw[R8 (Vs hj)] at e2;obtain⟨u',r',q⟩:=hl j y v' e1 e2 e3;refine⟨u',r',?_⟩;rcases q with q | ⟨k,c',e,z'⟩
    ·exact .inl q
    ·refine .inr ⟨k,c',e,z'.sameBut hs ?_⟩;rintro rfl;exact hj (zbX hN e1 (I.ok.inj _ _ _ e hc ▸ hi))
  ·by_cases hcc:c'=c
   ·subst hcc;exact⟨_,hc'⟩
   ·obtain⟨w2,z2⟩:=I.cell y c' e;exact⟨w2,z2.sameBut hs hcc⟩
  ·obtain⟨e,n,ne,nf,d⟩:=I.pin p hp;refine⟨(hs.2 p.1 ?_).trans e,n,ne,nf,d⟩;intro q;rw[q,hoc] at e;have q':oc=p.2:=Option.some.inj e;exact d w' (by rw[<- q'];exact hocd)
theorem Q2 {M:Ob}{A:WL}{E:X9->X8->Prop}{i:Nat}{x:Str}{v:V}{u:X9}{Q:Unit->X8->Prop}(I:Inv X bQ σ H s)(hN:X.N.Nodup)(hi:X.N[i]?=some x)(hx:Loc X.env.scope x)(r:RelV v u)
  (h:∀s',Inv X bQ (σ.set i (some v)) H s'->Q () s') (hf:X.fn x=true\/X.env.scope.names.lookup x=some .local:=by first | exact .inl rfl | exact .inr rfl | assumption):W7 M A (storeName X.env x u) Q E s :=
 zdC I hN hi hx r (fun s' I' _=>h s' I') hf
theorem Inv.call' {s':X8}{ch:List Addr}(I:Inv X bQ σ H s)(ho:s'.os=s.os)(u:Un (frs X.stack) ch H H' s.heap s'.heap)(hok:HOk X.prog X.w H' s'.heap)(hg:Sf s'.gens)
  (hch:∀b∈ch,(b∈X.ex\/X.s₀.heap.objs.size<=b)/\b≠X.env.locals/\(∀x c,X.env.cells.lookup x=some c->c≠b)/\∀p∈X.pn++bQ,p.1≠b):Inv X bQ σ H' s':=by
 obtain⟨h',g',d',t',o'⟩:=s';have e:o'=s.os:=ho;subst e;exact I.call (g':=g') (t':=t') (d':=d') u hok hg hch
end
abbrev XK:=X9->Option Addr->Hp->Prop
abbrev St:=List (Option V)
abbrev VK:=V->Hp->Prop
abbrev TE:=St->Hp->VK->Prop
abbrev TT:=St->Hp->(Bool->Hp->Prop)->Prop
abbrev TA:=St->Hp->(List V->Hp->Prop)->Prop
structure Ends where
 nx:St->Hp->Prop
 rt:VK
 bk:St->Hp->Prop:=fun _ _=>False
 ct:St->Hp->Prop:=fun _ _=>False
abbrev TS:=Ends->St->Hp->Prop
def EP (X:Cx)(bQ:List (Addr×Obj))(σ:St)(Q:VK)(u:X9)(s':X8):Prop:=∃v H',Inv X bQ σ H' s'/\RelV v u/\Q v H'
def TP (X:Cx)(bQ:List (Addr×Obj))(σ:St)(Q:Bool->Hp->Prop)(b:Bool)(s':X8):Prop:=∃H',Inv X bQ σ H' s'/\Q b H'
def AP (X:Cx)(bQ:List (Addr×Obj))(σ:St)(Q:List V->Hp->Prop)(us:List X9)(s':X8):Prop:=∃vs H',Inv X bQ σ H' s'/\Vals vs us/\Q vs H'
def SP (X:Cx)(bQ:List (Addr×Obj))(D:Ends)(f:Flow)(s':X8):Prop :=
 match f with
 | .next=>∃ σ' H',Inv X bQ σ' H' s'/\D.nx σ' H'
 | .brk=>∃ σ' H',Inv X bQ σ' H' s'/\D.bk σ' H'
 | .cont=>∃ σ' H',Inv X bQ σ' H' s'/\D.ct σ' H'
 | .ret u=>∃v σ' H',Inv X bQ σ' H' s'/\RelV v u/\D.rt v H'
def PE (X:Cx)(e:Expr)(t:TE):Prop :=
 ∀(bQ:List (Addr×Obj)) (s:X8) (σ:St) (H:Hp) (Q:VK),Inv X bQ σ H s->t σ H Q->W7 (Xf X.prog X.w) X.A (eval e X.env) (EP X bQ σ Q) X.xe s
def PT (X:Cx)(e:Expr)(t:TT):Prop :=
 ∀(bQ:List (Addr×Obj)) (s:X8) (σ:St) (H:Hp) (Q:Bool->Hp->Prop),Inv X bQ σ H s->t σ H Q->W7 (Xf X.prog X.w) X.A (isTrue e X.env (eval e X.env)) (TP X bQ σ Q) X.xe s
def PW (X:Cx)(e:Expr)(t:TT):Prop :=
 ∀(whole:Sem X9) (bQ:List (Addr×Obj)) (s:X8) (σ:St) (H:Hp) (Q:Bool->Hp->Prop),Inv X bQ σ H s->t σ H Q->W7 (Xf X.prog X.w) X.A (isTrue e X.env whole) (TP X bQ σ Q) X.xe s
theorem PW.pt {X:Cx}{e:Expr}{t:TT}(h:PW X e t):PT X e t:=h _
def PA (X:Cx)(es:List Expr)(t:TA):Prop :=
 ∀(pos:Pos) (bQ:List (Addr×Obj)) (s:X8) (σ:St) (H:Hp) (Q:List V->Hp->Prop),Inv X bQ σ H s->t σ H Q->W7 (Xf X.prog X.w) X.A (spliced (S4 pos (Wp es X.env))) (AP X bQ σ Q) X.xe s
def PS (X:Cx)(st:Stmt)(t:TS):Prop :=
 ∀(bQ:List (Addr×Obj)) (s:X8) (σ:St) (H:Hp) (D:Ends),Inv X bQ σ H s->t D σ H->W7 (Xf X.prog X.w) X.A (exec st X.env) (SP X bQ D) X.xe s
def PSs (X:Cx)(st:List Stmt)(t:TS):Prop :=
 ∀(bQ:List (Addr×Obj)) (s:X8) (σ:St) (H:Hp) (D:Ends),Inv X bQ σ H s->t D σ H->W7 (Xf X.prog X.w) X.A (execs st X.env) (SP X bQ D) X.xe s
theorem thn {α:Type}{t:Sem α}{Q Q':α->X8->Prop}{M:Ob}{A:WL}{E:X9->X8->Prop}{s:X8}(h:W7 M A t Q E s)(hQ:∀a s,Q a s->Q' a s):W7 M A t Q' E s:=Wg h hQ fun _ _ x=>x
section
variable {X:Cx}
def zp1 (i:Nat):TE:=fun σ H Q=>∃v,σ[i]?=some (some v)/\Q v H
def tC (v:V):TE:=fun _ H Q=>Q v H
theorem zoD {i:Nat}{x:Str}{pos:Pos}(hN:X.N[i]?=some x)(hv:Vis X.env.scope x)(hd:(x==("__debug__":Str))=false:=by decide)(hcd:(x==("__classdict__":Str))=false:=by decide):PE X (.Name x pos) (zp1 i):=by
 intro bQ s σ H Q I h;obtain⟨v,e,h⟩:=h;obtain⟨m,hn,hl⟩:=I.loc;obtain⟨u,r,l⟩:=hl i x v hN e hv;have fin:EP X bQ σ Q u s:=⟨v,H,I,r,h⟩;rcases l with ⟨hk,hm⟩ | ⟨hk,c,hc,hcell⟩
 ·exact wpAny_Name (wpAny_loadName_local I.ok.kind hk hn hm fin) hd
 ·rcases hk with hk | hk
  ·exact wpAny_Name (wpAny_loadName_cell I.ok.kind hk hc hcell fin) hd
  ·exact wpAny_Name (wpAny_loadName_free I.ok.kind hk hc hcell fin hcd) hd
theorem zo {i j pos}:PE X (.Constant (.int i) j pos) (tC (.int i)):=fun _ _ _ H _ I h=>wpAny_Constant_int ⟨.int i,H,I.tok _,⟨_,rfl⟩,h⟩
theorem Yn {b j pos}:PE X (.Constant (.bool b) j pos) (tC (.bl b)):=fun _ _ _ H _ I h=>Constant_bool ⟨.bl b,H,I,rfl,h⟩
theorem zaN {j pos}:PE X (.Constant .none j pos) (tC .non):=fun _ _ _ H _ I h=>Constant_none ⟨.non,H,I,rfl,h⟩
theorem qw {x j pos}:PE X (.Constant (.str x) j pos) (tC (.str x)):=fun _ _ _ H _ I h=>Calls.Constant_str ⟨.str x,H,I.tok _,⟨_,rfl⟩,h⟩
def Gl (X:Cx)(x:Str):Prop:=X.env.kindOf x=some .globalImplicit
theorem Q3 {E:X9->X8->Prop}{bQ:List (Addr×Obj)}{s:X8}{σ:St}{H:Hp}{x:Str}{u:X9}{pos:Pos}{Q:X9->X8->Prop}(I:Inv X bQ σ H s)(hg:Gl X x)(hm:X.mg x=some u)(h:Q u s)
  (hd:(x==("__debug__":Str))=false:=by decide):W7 (Xf X.prog X.w) X.A (eval (.Name x pos) X.env) Q E s :=
 RG I.ok.kind hg (Calls.loadGlobal_global (by rw[I.ok.glob];exact I.mod.glob.keeps I.bk) hm h) hd
theorem QE {E:X9->X8->Prop}{bQ:List (Addr×Obj)}{s:X8}{σ:St}{H:Hp}{x:Str}{u:X9}{pos:Pos}{Q:X9->X8->Prop}(I:Inv X bQ σ H s)(hg:Gl X x)(hm:X.mg x=none)(hv:TU x=some u)(h:Q u s)
  (hn:x ≠ "__name__":=by decide) (hd:(x==("__debug__":Str))=false:=by decide):W7 (Xf X.prog X.w) X.A (eval (.Name x pos) X.env) Q E s:=by
 obtain⟨mb,h1,h2⟩:=I.mod.blt;exact RG I.ok.kind hg (Calls.loadGlobal_builtin (by rw[I.ok.glob];exact I.mod.glob.keeps I.bk) hm (by rw[I.ok.blt];exact h1.keeps I.bk) ((h2 x hn).trans hv) h) hd
theorem jt {x:Str}{v:V}{u:X9}{pos:Pos}(hg:Gl X x)(hm:X.mg x=some u)(r:RelV v u)(hd:(x==("__debug__":Str))=false:=by decide):PE X (.Name x pos) (tC v) :=
 fun _ _ _ H _ I h=>Q3 I hg hm ⟨v,H,I,r,h⟩ hd
theorem zbH {x:Str}{v:V}{u:X9}{pos:Pos}(hg:Gl X x)(hm:X.mg x=none)(hv:TU x=some u)(r:RelV v u)(hn:x ≠ "__name__":=by decide)(hd:(x==("__debug__":Str))=false:=by decide):PE X (.Name x pos) (tC v) :=
 fun _ _ _ H _ I h=>QE I hg hm hv ⟨v,H,I,r,h⟩ hn hd
variable {a b:Expr}{ta tb:TE}{pos:Pos}
def PC (X:Cx)(op:N5)(a b:Expr)(t:TE):Prop :=
 ∀(bQ:List (Addr×Obj)) (s:X8) (σ:St) (H:Hp) (Q:VK),Inv X bQ σ H s->t σ H Q ->
  W7 (Xf X.prog X.w) X.A (eval a X.env) (fun v s₁=>W7 (Xf X.prog X.w) X.A (eval b X.env) (fun u s₂=>W7 (Xf X.prog X.w) X.A (Wf op v u) (EP X bQ σ Q) X.xe s₂) X.xe s₁) X.xe s
def tB (t:TE):TT:=fun σ H Q=>t σ H fun x H1=>∃c,x=.bl c/\Q c H1
theorem zoE {op:N5}{t:TE}(h:PC X op a b t)(h1:Tx op b=false:=by first | exact nobehind _ (by decide) (by decide) | rfl):PT X (.Compare a [op] [b] pos) (tB t):=by
 intro bQ s σ H Q I hw;refine Sr (thn (h bQ s σ H _ I hw) fun v s1 h1=>thn h1 fun u s2 h2=>thn h2 fun c s3 ⟨x,H1,I1,r1,q1⟩=>?_) h1;obtain⟨d,rfl,q⟩:=q1;cases r1;exact VN ⟨H1,I1,q⟩
variable {tA tB':TT}{rest:List Expr}
def zq5 (t u:TT):TT:=fun σ H Q=>t σ H fun c H1=>if c=true then u σ H1 Q else Q false H1
def tOr (t u:TT):TT:=fun σ H Q=>t σ H fun c H1=>if c=true then Q true H1 else u σ H1 Q
def zq6 (t:TT):TT:=fun σ H Q=>t σ H fun c H1=>Q (!c) H1
theorem zbI (ha:PT X a tA):PW X (.BoolOp .And [a] pos) tA:=by
 intro wh bQ s σ H Q I h;refine isTrue_and (thn (ha bQ s σ H Q I h) fun c s1 e=>?_);cases c with
 | true=>exact isTrue_and_nil e
 | false=>exact e
theorem zbY (ha:PT X a tA):PW X (.BoolOp .Or [a] pos) tA:=by
 intro wh bQ s σ H Q I h;refine isTrue_or (thn (ha bQ s σ H Q I h) fun c s1 e=>?_);cases c with
 | false=>exact isTrue_or_nil e
 | true=>exact e
theorem zeE (ha:PT X a tA)(hb:PW X (.BoolOp .And (b::rest) pos) tB'):PW X (.BoolOp .And (a::b::rest) pos) (zq5 tA tB'):=by
 intro wh bQ s σ H Q I h;refine isTrue_and (thn (ha bQ s σ H _ I h) fun c s1 ⟨H1,I1,q1⟩=>?_);cases c with
 | true=>exact hb wh bQ s1 σ H1 Q I1 q1
 | false=>exact⟨H1,I1,q1⟩
theorem zfy (ha:PT X a tA)(hb:PW X (.BoolOp .Or (b::rest) pos) tB'):PW X (.BoolOp .Or (a::b::rest) pos) (tOr tA tB'):=by
 intro wh bQ s σ H Q I h;refine isTrue_or (thn (ha bQ s σ H _ I h) fun c s1 ⟨H1,I1,q1⟩=>?_);cases c with
 | true=>exact⟨H1,I1,q1⟩
 | false=>exact hb wh bQ s1 σ H1 Q I1 q1
theorem Yo (ha:PT X a tA):PT X (.UnaryOp .Not a pos) (zq6 tA):=by
 intro bQ s σ H Q I h;exact isTrue_not (ha bQ s σ H (fun c H1=>Q (!c) H1) I h)
def zp2 (ta tb:TE):TE:=fun σ H Q=>ta σ H fun x H1=>∃c,x=.bl c/\if c=true then tb σ H1 Q else Q (.bl false) H1
theorem zoF {op}{t:TE}(h:PE X a t):PE X (.BoolOp op [a] pos) t:=fun bQ s σ H Q I hw=>BoolOp_one (h bQ s σ H Q I hw)
theorem zkr (ha:PE X a ta)(hb:PE X (.BoolOp .And (b::rest) pos) tb):PE X (.BoolOp .And (a::b::rest) pos) (zp2 ta tb):=by
 intro bQ s σ H Q I h;refine BoolOp_and (thn (ha bQ s σ H _ I h) fun v s1 ⟨x,H1,I1,r1,q1⟩=>?_);obtain⟨c,rfl,q1⟩:=q1;cases r1;refine VN ?_;cases c with
 | true=>exact hb bQ s1 σ H1 Q I1 q1
 | false=>exact⟨.bl false,H1,I1,rfl,q1⟩
end
def SqL (K:X0)(H:Hp)(a:Addr)(xs:List V):Prop :=
 Rd H a (.lst xs) \/
  ∃(o:Obj) (its:Array X9) (n:Nat),K.lookup a=some o/\o.cls=.type "list"/\o.dict=none/\o.data=.seq its n/\its.size<=Xv/\Vals xs its.toList
def SqT (K:X0)(H:Hp)(a:Addr)(xs:List V):Prop :=
 Rd H a (.tup xs) \/
  ∃(o:Obj) (its:Array X9) (n:Nat),K.lookup a=some o/\o.cls=.type "tuple"/\o.data=.seq its n/\its.size<=Xv/\Vals xs its.toList
def zq7:X9->Option V
 | .none=>some .non
 | .bool b=>some (.bl b)
 | .int i _=>some (.int i)
 | .str x _=>some (.str x)
 | .bytes b _=>some (.byt b)
 | .float b _=>some (.flt b)
 | .ref a=>some (.ref a)
 | .type n=>some (.ty n)
 | _=>none
theorem RelV.abs {x:V}{u:X9}(r:RelV x u):zq7 u=some x:=by
 cases x with
 | non=>cases r;rfl
 | bl _=>cases r;rfl
 | int _=>obtain⟨t,rfl⟩:=r;rfl
 | str _=>obtain⟨t,rfl⟩:=r;rfl
 | byt _=>obtain⟨t,rfl⟩:=r;rfl
 | flt _=>obtain⟨t,rfl⟩:=r;rfl
 | ref _=>cases r;rfl
 | ty _=>cases r;rfl
theorem RelV.inj {x y:V}{u:X9}(r:RelV x u)(q:RelV y u):x=y:=Option.some.inj (r.abs.symm.trans q.abs)
theorem Vals.inj:∀{xs ys:List V} {us:List X9},Vals xs us->Vals ys us->xs=ys
 | _,_,_,.nil,.nil=>rfl
 | _,_,_,.cons r t,.cons r' t'=>by rw[r.inj r',Vals.inj t t']
section
variable {X:Cx}{bQ:List (Addr×Obj)}{σ:St}{H:Hp}{s:X8}{a:Addr}{xs ys:List V}
theorem SqL.of {K:X0}(h:H a=some (.lst xs)):SqL K H a xs:=.inl (.inl h)
theorem SqT.of {K:X0}(h:H a=some (.tup xs)):SqT K H a xs:=.inl (.inl h)
theorem Inv.list (I:Inv X bQ σ H s)(h:SqL X.K H a xs):∃its:List X9,Vals xs its/\PlainL s.heap a its.toArray/\xs.length<=Xv:=by
 rcases h with h | ⟨o,its,n,hk,hc,hd,hs,hz,r⟩
 ·obtain⟨z,its,n,r,e⟩:=h.ok I.hok;exact⟨its,r,⟨_,n,e,rfl,rfl,rfl⟩,z⟩
 ·refine⟨its.toList,r,⟨o,n,I.kIn a o hk,hc,hd,by simpa using hs⟩,?_⟩;have e:=r.length;simp only[XZ] at e;lia
theorem Inv.tuple (I:Inv X bQ σ H s)(h:SqT X.K H a xs):∃its:List X9,Vals xs its/\Od s.heap a its.toArray/\xs.length<=Xv:=by
 rcases h with h | ⟨o,its,n,hk,hc,hs,hz,r⟩
 ·obtain⟨z,its,r,p⟩:=h.ok I.hok;exact⟨its,r,p,z⟩
 ·refine⟨its.toList,r,⟨o,I.kIn a o hk,hc,n,by simpa using hs⟩,?_⟩;have e:=r.length;simp only[XZ] at e;lia
theorem Inv.list_inj (I:Inv X bQ σ H s)(h:SqL X.K H a xs)(h':SqL X.K H a ys):xs=ys:=by
 obtain⟨its,r,⟨o,n,e,_,_,d⟩,_⟩:=I.list h;obtain⟨its',r',⟨o',n',e',_,_,d'⟩,_⟩:=I.list h';rw[e] at e';cases e';rw[d] at d';injection d' with d1 _
 have:its=its':=by simpa using congrArg Oq d1
 subst this;exact r.inj r'
theorem Inv.tuple_inj (I:Inv X bQ σ H s)(h:SqT X.K H a xs)(h':SqT X.K H a ys):xs=ys:=by
 obtain⟨its,r,⟨o,e,_,n,d⟩,_⟩:=I.tuple h;obtain⟨its',r',⟨o',e',_,n',d'⟩,_⟩:=I.tuple h';rw[e] at e';cases e';rw[d] at d';injection d' with d1 _
 have:its=its':=by simpa using congrArg Oq d1
 subst this;exact r.inj r'
end
abbrev Cx.wish (X:Cx)(E:X9->X8->Prop):Cx:={ X with xe:=E }
abbrev Cx.nox (X:Cx):Cx:=X.wish fun _ _=>False
theorem Cx.Ok.wish {X:Cx}(ok:X.Ok)(E:X9->X8->Prop):(X.wish E).Ok :=
 ⟨ok.mod,ok.kind,ok.glob,ok.blt,ok.above,ok.inj,ok.has,ok.cab,ok.hd,ok.frames,ok.stk,ok.exf,ok.bs,ok.bsz,ok.noex,ok.exfs,ok.funs,ok.frf⟩
theorem Cx.Ok.unwish {X:Cx}{E:X9->X8->Prop}(ok:(X.wish E).Ok):X.Ok :=
 ⟨ok.mod,ok.kind,ok.glob,ok.blt,ok.above,ok.inj,ok.has,ok.cab,ok.hd,ok.frames,ok.stk,ok.exf,ok.bs,ok.bsz,ok.noex,ok.exfs,ok.funs,ok.frf⟩
section
variable {X:Cx}{bQ:List (Addr×Obj)}{σ:St}{H:Hp}{s:X8}{E:X9->X8->Prop}
theorem Inv.wish (I:Inv X bQ σ H s)(E:X9->X8->Prop):Inv (X.wish E) bQ σ H s:=⟨I.ok.wish E,I.os,I.bare,I.base,I.loc,I.cell,I.free,I.freeC,I.pin,I.hok,I.len⟩
theorem Inv.unwish (I:Inv (X.wish E) bQ σ H s):Inv X bQ σ H s:=⟨I.ok.unwish,I.os,I.bare,I.base,I.loc,I.cell,I.free,I.freeC,I.pin,I.hok,I.len⟩
theorem SP.unwish {D:Ends}{f:Flow}{s':X8}(h:SP (X.wish E) bQ D f s'):SP X bQ D f s':=by
 cases f with
 | next=>obtain⟨σ',H',I,q⟩:=h;exact⟨σ',H',I.unwish,q⟩
 | brk=>obtain⟨σ',H',I,q⟩:=h;exact⟨σ',H',I.unwish,q⟩
 | cont=>obtain⟨σ',H',I,q⟩:=h;exact⟨σ',H',I.unwish,q⟩
 | ret u=>obtain⟨v,σ',H',I,r,q⟩:=h;exact⟨v,σ',H',I.unwish,r,q⟩
theorem PSs.nox {st:List Stmt}{t:TS}(h:PSs X.nox st t):PSs X st t:=fun bQ s σ H D I hw =>
 Wg (h bQ s σ H D (I.wish _) hw) (fun _ _ q=>q.unwish) fun _ _ z=>Wi z
end
section
variable {X:Cx}{st:Stmt}{rest:List Stmt}{t u:TS}{e:Expr}{te:TE}{pos:Pos}
def zp3:TS:=fun D σ H=>D.nx σ H
def zq8 (t u:TS):TS:=fun D σ H=>t { D with nx:=u D } σ H
theorem zV:PSs X [] zp3:=fun _ _ σ H _ I h=>Tr ⟨σ,H,I,h⟩
theorem ze (h1:PS X st t)(h2:PSs X rest u):PSs X (st::rest) (zq8 t u):=by
 intro bQ s σ H D I h;refine Sh (thn (h1 bQ s σ H { D with nx:=u D } I h) fun f s1 q=>?_);cases f with
 | next =>
  obtain⟨σ',H',I',q⟩:=q;exact h2 bQ s1 σ' H' D I' q
 | ret v=>exact q
 | brk=>exact q
 | cont=>exact q
theorem zh (h1:PS X st t):PSs X [st] t:=by
 intro bQ s σ H D I h;refine Sh (thn (h1 bQ s σ H D I h) fun f s1 q=>?_);cases f with
 | next=>exact Tr q
 | ret v=>exact q
 | brk=>exact q
 | cont=>exact q
def zp4:TS:=fun D σ H=>D.ct σ H
theorem zfz:PS X (.Continue pos) zp4:=fun _ _ σ H _ I h=>wpAny_Continue ⟨σ,H,I,h⟩
theorem Inv.quiet {bQ:List (Addr×Obj)}{σ:St}{H:Hp}{s:X8}(I:Inv X bQ σ H s):interactive X.env=false:=by simp[interactive,I.ok.kind]
def zp5 (te:TE):TS:=fun D σ H=>te σ H fun _ H1=>D.nx σ H1
theorem jK (he:PE X e te)(hs:OR e none pos.line X.env=pure false:=by rfl):PS X (.Expr e pos) (zp5 te):=by
 intro bQ s σ H D I h;exact wpAny_Expr_any (thn (he bQ s σ H _ I h) fun v s1 ⟨x,H1,I1,r1,q1⟩=>⟨σ,H1,I1,q1⟩) I.quiet hs
def zq9 (te:TE):TS:=fun D σ H=>te σ H D.rt
theorem zF (he:PE X e te):PS X (.Return (some e) pos) (zq9 te):=by
 intro bQ s σ H D I h;exact wpAny_Return_some (thn (he bQ s σ H _ I h) fun v s1 ⟨x,H1,I1,r1,q1⟩=>⟨x,σ,H1,I1,r1,q1⟩)
def zra (c:TT)(t u:TS):TS:=fun D σ H=>c σ H fun b H1=>if b=true then t D σ H1 else u D σ H1
theorem qS {c:Expr}{a b:List Stmt}{tc:TT}(hc:PT X c tc)(ha:PSs X a t)(hb:PSs X b u):PS X (.If c a b pos) (zra tc t u):=by
 intro bQ s σ H D I h;refine wpAny_If (thn (hc bQ s σ H _ I h) fun d s1 ⟨H1,I1,q1⟩=>?_);cases d with
 | true=>exact ha bQ s1 σ H1 D I1 q1
 | false=>exact hb bQ s1 σ H1 D I1 q1
def zoG:TS:=fun _ _ _=>False
theorem zks:PS X st zoG:=fun _ _ _ _ _ _ h=>h.elim
end
abbrev TG:=V->St->Hp->(St->Hp->Prop)->Prop
abbrev TGs:=List V->St->Hp->(St->Hp->Prop)->Prop
def PG (X:Cx)(target:Expr)(t:TG):Prop :=
 ∀(bQ:List (Addr×Obj)) (s:X8) (σ:St) (H:Hp) (v:V) (u:X9) (Q:St->Hp->Prop),Inv X bQ σ H s->RelV v u->t v σ H Q ->
  W7 (Xf X.prog X.w) X.A (N8 target X.env u) (fun _ s'=>∃ σ' H',Inv X bQ σ' H' s'/\Q σ' H') X.xe s
def PGs (X:Cx)(ts:List Expr)(t:TGs):Prop :=
 ∀(bQ:List (Addr×Obj)) (s:X8) (σ:St) (H:Hp) (vs:List V) (us:List X9) (Q:St->Hp->Prop),Inv X bQ σ H s->Vals vs us->t vs σ H Q ->
  W7 (Xf X.prog X.w) X.A (assignInOrder ((Ti ts X.env).map (·.2)) us) (fun _ s'=>∃ σ' H',Inv X bQ σ' H' s'/\Q σ' H') X.xe s
abbrev zkt:=V->V->V->Hp->(Hp->Prop)->Prop
def zoH (X:Cx)(t:zkt):Prop :=
 ∀(bQ:List (Addr×Obj)) (s:X8) (σ:St) (H:Hp) (o i v:V) (ov iv u:X9) (Q:Hp->Prop),Inv X bQ σ H s->RelV o ov->RelV i iv->RelV v u->t o i v H Q ->
  W7 (Xf X.prog X.w) X.A (setItem ov iv u) (fun _ s'=>∃H',Inv X bQ σ H' s'/\Q H') X.xe s
abbrev TIp:=V->V->Hp->VK->Prop
def PIp (X:Cx)(op:Operator)(t:TIp):Prop :=
 ∀(bQ:List (Addr×Obj)) (s:X8) (σ:St) (H:Hp) (x y:V) (v u:X9) (Q:VK),Inv X bQ σ H s->RelV x v->RelV y u->t x y H Q ->
  W7 (Xf X.prog X.w) X.A (inplaceOp op v u) (EP X bQ σ Q) X.xe s
section
variable {X:Cx}{pos:Pos}
def yE (i:Nat):TG:=fun v σ H Q=>Q (σ.set i (some v)) H
theorem zk {i:Nat}{x:Str}(hN:X.N.Nodup)(hi:X.N[i]?=some x)(hx:Loc X.env.scope x)(hf:X.fn x=true\/X.env.scope.names.lookup x=some .local:=by first | exact .inl rfl | exact .inr rfl | assumption):PG X (.Name x pos) (yE i):=by
 intro bQ s σ H v u Q I r h;exact wpAny_assign_Name (Q2 I hN hi hx r (fun s' I'=>⟨_,H,I',h⟩) hf)
def zrb:TGs:=fun vs σ H Q=>vs=[]/\Q σ H
def zp6 (t:TG)(u:TGs):TGs:=fun vs σ H Q=>∃v r,vs=v::r/\t v σ H fun σ' H'=>u r σ' H' Q
theorem jL:PGs X [] zrb:=by
 intro bQ s σ H vs us Q I r h;obtain⟨e,h⟩:=h;subst e;cases r;exact assignInOrder_nil ⟨σ,H,I,h⟩
theorem zL {e:Expr}{es:List Expr}{t:TG}{u:TGs}(h1:PG X e t)(h2:PGs X es u)
  (hs:(Ti (e::es) X.env).map (·.2)=N8 e X.env::(Ti es X.env).map (·.2):=by rfl):PGs X (e::es) (zp6 t u):=by
 intro bQ s σ H vs us Q I r h;obtain⟨v,vr,e1,h⟩:=h;subst e1;cases r with
 | cons r rr =>
  rw[hs];refine assignInOrder_cons (thn (h1 bQ s σ H _ _ _ I r h) fun _ s1 ⟨σ1,H1,I1,q1⟩=>?_);exact h2 bQ s1 σ1 H1 _ _ Q I1 rr q1
def zp7 (K:X0)(n:Nat)(t:TGs):TG:=fun v σ H Q=>∃a xs,v=.ref a/\SqT K H a xs/\xs.length=n/\t xs σ H Q
theorem yP {es:List Expr}{k:Nat}{t:TGs}{n:Nat}(hc:X.calm=true)(h:PGs X es t)
  (hn:(Ti es X.env).length=n:=by rfl) (hst:(Ti es X.env).findIdx? (·.1)=none:=by rfl):PG X (.Tuple es k pos) (zp7 X.K n t):=by
 intro bQ s σ H v u Q I r hw;obtain⟨a,xs,e1,hq,hl,hw⟩:=hw;subst e1;cases r;obtain⟨its,rv,ht,hz⟩:=I.tuple hq;refine assign_Tuple_tuple (I.ok.hd hc) ht (by simp[hn,<- hl,rv.length]) hst fun h' hx=>?_;have I1:Inv X bQ σ H { s with heap:=h' }:=I.kept (t':=s.toks) fun b o e=>hx b o (Xe (XI e)) e;exact h bQ _ σ H xs _ Q I1 (by simpa using rv) hw
def zrc (to ti:TE)(t:zkt):TG:=fun v σ H Q=>to σ H fun o H1=>ti σ H1 fun i H2=>t o i v H2 fun H3=>Q σ H3
theorem zg4 {o i:Expr}{to ti:TE}{t:zkt}(ho:PE X o to)(hi:PE X i ti)(hs:zoH X t)
  (ha:∀v,N8 (.Subscript o i pos) X.env v=(do
   let ov <- Ov [v] (eval o X.env)
   let iv <- Ov [v,ov] (eval i X.env)
   standAt pos
   Ov [v,ov,iv] (setItem ov iv v)
   release [v,ov,iv] []):=by intro _;rfl):PG X (.Subscript o i pos) (zrc to ti t):=by
 intro bQ s σ H v u Q I r h;rw[ha];refine Y1 (VY (thn (ho bQ s σ H _ I h) fun ov s1 ⟨x,H1,I1,r1,q1⟩=>?_));refine Y1 (VY (thn (hi bQ s1 σ H1 _ I1 q1) fun iv s2 ⟨y,H2,I2,r2,q2⟩=>?_));refine Y1 (UI (Y1 (VY (thn (hs bQ s2 σ H2 x y v ov iv u _ I2 r1 r2 r q2) fun _ s3 ⟨H3,I3,q3⟩=>?_))));exact wpAny_release ⟨σ,H3,I3,q3⟩
def zoI (te:TE)(g:TG):TS:=fun D σ H=>te σ H fun x H1=>g x σ H1 D.nx
theorem zbZ {tg e:Expr}{te:TE}{g:TG}(he:PE X e te)(hg:PG X tg g)(hs:swapsWithSole [tg] e pos.line X.env=pure false:=by rfl)(hw:swappedStores [tg] e X.env=pure none:=by rfl)
  (h1:(Ti [tg] X.env).map (·.2)=[N8 tg X.env]:=by rfl):PS X (.Assign [tg] e pos) (zoI te g):=by
 intro bQ s σ H D I h;refine wpAny_Assign_stores (thn (he bQ s σ H _ I h) fun v s1 ⟨x,H1,I1,r1,q1⟩=>?_) hs hw;rw[h1];exact thn (hg bQ s1 σ H1 x v _ I1 r1 q1) fun _ s2 q=>q
theorem zv {i:Nat}{x:Str}{e:Expr}{te:TE}{pos':Pos}(hN:X.N.Nodup)(hi:X.N[i]?=some x)(hx:Loc X.env.scope x)(he:PE X e te)(hs:OR e (some (.Name x pos')) pos.line X.env=pure false:=by rfl)(hf:X.fn x=true\/X.env.scope.names.lookup x=some .local:=by first | exact .inl rfl | exact .inr rfl | assumption) :
  PS X (.Assign [.Name x pos'] e pos) (zoI te (yE i)):=by
 intro bQ s σ H D I h;refine wpAny_Assign_Name (thn (he bQ s σ H _ I h) fun v s1 ⟨y,H1,I1,r1,q1⟩=>?_) hs;exact Q2 I1 hN hi hx r1 (fun s2 I2=>⟨_,H1,I2,q1⟩) hf
def zp8 (to ti te:TE)(tget:V->V->Hp->VK->Prop)(tip:TIp)(tset:zkt):TS:=fun D σ H=>to σ H fun o H1=>ti σ H1 fun i H2=>tget o i H2 fun x H3=>te σ H3 fun y H4=>tip x y H4 fun z H5=>tset o i z H5 fun H6=>D.nx σ H6
def zp9 (X:Cx)(t:V->V->Hp->VK->Prop):Prop :=
 ∀(bQ:List (Addr×Obj)) (s:X8) (σ:St) (H:Hp) (o i:V) (ov iv:X9) (Q:VK),Inv X bQ σ H s->RelV o ov->RelV i iv->t o i H Q ->
  W7 (Xf X.prog X.w) X.A (OX ov iv) (EP X bQ σ Q) X.xe s
theorem zin {o i e:Expr}{to ti te:TE}{tget:V->V->Hp->VK->Prop}{tip:TIp}{tset:zkt}{op:Operator}{tpos:Pos}(ho:PE X o to)(hi:PE X i ti)(hg:zp9 X tget)(he:PE X e te)(hp:PIp X op tip)(hs:zoH X tset)
  (ha:∀ov iv new,augStore i ov iv new=(do Ov [new,ov,iv] (setItem ov iv new);release [new,ov,iv] [];pure .next):=by intros;rfl):PS X (.AugAssign (.Subscript o i tpos) op e pos) (zp8 to ti te tget tip tset):=by
 intro bQ s σ H D I h;refine wpAny_AugAssign_SubscriptAny (thn (ho bQ s σ H _ I h) fun ov s1 ⟨x1,H1,I1,r1,q1⟩=>?_) ha;refine thn (hi bQ s1 σ H1 _ I1 q1) fun iv s2 ⟨x2,H2,I2,r2,q2⟩=>?_;refine thn (hg bQ s2 σ H2 x1 x2 ov iv _ I2 r1 r2 q2) fun old s3 ⟨x3,H3,I3,r3,q3⟩=>?_;refine thn (he bQ s3 σ H3 _ I3 q3) fun v s4 ⟨x4,H4,I4,r4,q4⟩=>?_;refine thn (hp bQ s4 σ H4 x3 x4 old v _ I4 r3 r4 q4) fun new s5 ⟨x5,H5,I5,r5,q5⟩=>?_;exact thn (hs bQ s5 σ H5 x1 x2 x5 ov iv new _ I5 r1 r2 r5 q5) fun _ s6 ⟨H6,I6,q6⟩=>⟨σ,H6,I6,q6⟩
def ipI (f:Int->Int->Int):TIp:=fun x y H Q=>∃i j,x=.int i/\y=.int j/\Q (.int (f i j)) H
theorem zku:PIp X .Add (ipI fun i j=>i+j):=by
 intro bQ s σ H x y v u Q I r1 r2 h;obtain⟨i,j,e1,e2,q⟩:=h;subst e1;subst e2;obtain⟨t,rfl⟩:=r1;obtain⟨t',rfl⟩:=r2;exact iadd_int ⟨.int _,H,I.tok _,⟨_,rfl⟩,q⟩
end
structure It where
 go:Nat->Hp->Prop
 yld:Nat->Hp->V->Hp->Prop
 stop:Nat->Hp->Prop
def Q4 (X:Cx)(bQ:List (Addr×Obj))(H:Hp)(b:Addr):Prop :=
 H b=none/\b≠X.env.locals/\b ∉ X.fs/\(b∈X.ex\/X.s₀.heap.objs.size<=b)/\(∀x c,X.env.cells.lookup x=some c->c≠b)/\∀p∈X.pn++bQ,p.1≠b
theorem Inv.fpOk {X:Cx}{bQ:List (Addr×Obj)}{σ:St}{H H':Hp}{s:X8}{b:Addr}(I:Inv X bQ σ H s)(hb:s.heap.objs.size<=b)(hn:H' b=none):Q4 X bQ H' b:=by
 refine⟨hn,UN (XJ I.lt hb),I.nofs hb,.inr (X4 I.sz hb),fun x c e z=>?_,fun p hp z=>?_⟩
 ·obtain⟨v,q⟩:=I.cell x c e;exact absurd (XJ q.lt (by rw[z];exact hb)) (V5 _)
 ·exact absurd (XJ (XI (I.pin p hp).1) (by rw[z];exact hb)) (V5 _)
structure Turn (P:Xi)(w:WS)(K:X0)(tg:Expr)(J:It)(fp:List Addr)(it:Addr)(tn:Nat->Heap->Prop):Prop where
 mem:it∈fp
 obj:∀i h,tn i h->∀b∈fp,∃o,h.get? b=some o/\∀v,o.data ≠ .cell v
 keep:∀i h h',tn i h->(∀b∈fp,∀o,h.get? b=some o->h'.get? b=some o)->tn i h'
 item:∀(X:Cx),X.prog=P->X.w=w->X.K=K->X.calm=true->∀(i:Nat) (bQ:List (Addr×Obj)) (s:X8) (σ:St) (H:Hp) (E:X9->X8->Prop),Inv X bQ σ H s->(∀b∈fp,Q4 X bQ H b)->tn i s.heap->J.go i H ->
  W7 (Xf P w) X.A (RN (.ref it)) (fun r s1=>∃u,r=some u /\
   W7 (Xf P w) X.A (R5 tg (.ref it) u) (fun _ s2=>∃x H',Inv X bQ σ H' s2/\RelV x u/\J.yld i H x H'/\tn (i+1) s2.heap/\∀b∈fp,H' b=none) E s1) E s
 done:∀(X:Cx),X.prog=P->X.w=w->X.K=K->X.calm=true->∀(i:Nat) (bQ:List (Addr×Obj)) (s:X8) (σ:St) (H:Hp) (E:X9->X8->Prop),Inv X bQ σ H s->(∀b∈fp,Q4 X bQ H b)->tn i s.heap->J.stop i H ->
  W7 (Xf P w) X.A (RN (.ref it)) (fun r s1=>r=none/\Inv X bQ σ H s1) E s
 self:∀(A:WL) (i:Nat) (s:X8) (Q:X9->X8->Prop) (E:X9->X8->Prop),tn i s.heap->Q (.ref it) s->W7 (Xf P w) A (pyIter (.ref it)) Q E s
abbrev TI:=St->Hp->(It->Hp->Prop)->Prop
def PIE (X:Cx)(bQ:List (Addr×Obj))(σ:St)(tg:Expr)(R:It->Hp->Prop)(itv:X9)(s2:X8):Prop :=
 ∃(it:Addr) (fp:List Addr) (tn:Nat->Heap->Prop) (J:It) (H':Hp),itv=.ref it/\Inv X bQ σ H' s2/\Turn X.prog X.w X.K tg J fp it tn/\tn 0 s2.heap/\(∀b∈fp,Q4 X bQ H' b)/\R J H'
def PI (X:Cx)(tg iter:Expr)(wi:TI):Prop :=
 ∀(bQ:List (Addr×Obj)) (s:X8) (σ:St) (H:Hp) (R:It->Hp->Prop),Inv X bQ σ H s->wi σ H R ->
  W7 (Xf X.prog X.w) X.A (eval iter X.env) (fun v s1=>W7 (Xf X.prog X.w) X.A (pyIter v) (PIE X bQ σ tg R) X.xe s1) X.xe s
theorem zkv {M:Ob}{A:WL}{E:X9->X8->Prop}{s:X8}{tg:Expr}{it:Addr}{u:X9}{o:Obj}{n:String}{vs:Array X9}{Q:Unit->X8->Prop}(ho:s.heap.get? it=some o)(hc:o.cls=.type n)(hd:o.data=.fields vs)
    (hn:["enumerate","zip","dict_itemiterator","dict_reverseitemiterator","odict_iterator","itertools.zip_longest","itertools.pairwise"].contains n=false) (hQ:Q () s):W7 M A (R5 tg (.ref it) u) Q E s:=by
  unfold R5;cases tg<;>first
    | exact XS hQ
    | (cases u<;>first
        | exact XS hQ
        | (refine Y1 (wpAny_load ho ?_)
           rw[hc,hd]
           show W7 M A (if (["enumerate","zip","dict_itemiterator","dict_reverseitemiterator","odict_iterator","itertools.zip_longest","itertools.pairwise"].contains n&&vs[0]?==some (Ub _))=true then _ else _) Q E s
           rw[bq (by intro h;rw[hn,SO] at h;cases h)]
           exact XS hQ))
def Itl (K:X0)(a:Addr):It :=
 ⟨fun i H=>∃xs x,SqL K H a xs/\xs[i]?=some x,fun i H x H'=>H'=H/\∀xs,SqL K H a xs->xs[i]?=some x,fun i H=>∃xs,SqL K H a xs/\xs.length<=i⟩
def Itt (K:X0)(a:Addr):It :=
 ⟨fun i H=>∃xs x,SqT K H a xs/\xs[i]?=some x,fun i H x H'=>H'=H/\∀xs,SqT K H a xs->xs[i]?=some x,fun i H=>∃xs,SqT K H a xs/\xs.length<=i⟩
def Itr (lo:Int)(n:Nat):It:=⟨fun i _=>i<n,fun i H x H'=>H'=H/\x=.int (lo+i),fun i _=>n<=i⟩
theorem zjo {P:Xi}{w:WS}{K:X0}{tg:Expr}(a it:Addr):Turn P w K tg (Itl K a) [it] it (fun i h=>h.IsListIter it a i) where
 mem:=by simp
 obj:=fun i h st b hb=>by
  have e:b=it:=by simpa using hb
  subst e;obtain⟨o,e,c,d⟩:=st;exact⟨o,e,fun v z=>by rw[d] at z;cases z⟩
 keep:=fun i h h' st k=>st.at fun o e=>k it (by simp) o e
 item:=by
  intro X hP hw hK hc i bQ s σ H E I hf st hg;subst hP hw hK;obtain⟨xs,x,hq,hx⟩:=hg;obtain⟨its,rv,p,hz⟩:=I.list hq;obtain⟨u,hu,ru⟩:=rv.get hx;obtain⟨f0,f1,f2,f3,f4,f5⟩:=hf it (by simp);refine wpAny_pyNext_list_item st p.isList (x:=u) (by simpa using hu) fun h' st' sb=>?_;have I1:Inv X bQ σ H { s with heap:=h' }:=I.turned (t':=s.toks) (fun b o hb e=>(sb.2 b hb).trans e) f0 f1 f3 f4 f5;obtain⟨o,e,c,d⟩:=id st';exact⟨u,rfl,zkv (s:={ s with heap:=h' }) e c d (by decide) ⟨x,H,I1,ru,⟨rfl,fun ys hy=>by rw[I.list_inj hy hq];exact hx⟩,st',fun b hb=>(hf b hb).1⟩⟩
 done:=by
  intro X hP hw hK hc i bQ s σ H E I hf st hg;subst hP hw hK;obtain⟨xs,hq,hx⟩:=hg;obtain⟨its,rv,p,hz⟩:=I.list hq;obtain⟨f0,f1,f2,f3,f4,f5⟩:=hf it (by simp);have hl:=rv.length;exact wpAny_pyNext_list_end (I.ok.hd hc) st p.isList (by simp;lia) fun h' eb=>⟨rfl,I.turned (t':=s.toks) (fun b o hb e=>eb b o hb e) f0 f1 f3 f4 f5⟩
 self:=fun _ _ _ _ _ st h=>wpAny_pyIter_listiter st h
theorem zg5 {P:Xi}{w:WS}{K:X0}{tg:Expr}(a it:Addr):Turn P w K tg (Itt K a) [it] it (fun i h=>h.IsTupleIter it a i) where
 mem:=by simp
 obj:=fun i h st b hb=>by
  have e:b=it:=by simpa using hb
  subst e;obtain⟨o,e,c,d⟩:=st;exact⟨o,e,fun v z=>by rw[d] at z;cases z⟩
 keep:=fun i h h' st k=>st.at fun o e=>k it (by simp) o e
 item:=by
  intro X hP hw hK hc i bQ s σ H E I hf st hg;subst hP hw hK;obtain⟨xs,x,hq,hx⟩:=hg;obtain⟨its,rv,p,hz⟩:=I.tuple hq;obtain⟨u,hu,ru⟩:=rv.get hx;obtain⟨f0,f1,f2,f3,f4,f5⟩:=hf it (by simp);refine wpAny_pyNext_tuple_item st (show s.heap.IsTuple a its.toArray from p) (x:=u) (by simpa using hu) fun h' st' sb=>?_;have I1:Inv X bQ σ H { s with heap:=h' }:=I.turned (t':=s.toks) (fun b o hb e=>(sb.2 b hb).trans e) f0 f1 f3 f4 f5;obtain⟨o,e,c,d⟩:=id st';exact⟨u,rfl,zkv (s:={ s with heap:=h' }) e c d (by decide) ⟨x,H,I1,ru,⟨rfl,fun ys hy=>by rw[I.tuple_inj hy hq];exact hx⟩,st',fun b hb=>(hf b hb).1⟩⟩
 done:=by
  intro X hP hw hK hc i bQ s σ H E I hf st hg;subst hP hw hK;obtain⟨xs,hq,hx⟩:=hg;obtain⟨its,rv,p,hz⟩:=I.tuple hq;obtain⟨f0,f1,f2,f3,f4,f5⟩:=hf it (by simp);have hl:=rv.length;exact wpAny_pyNext_tuple_end (I.ok.hd hc) st (show s.heap.IsTuple a its.toArray from p) (by simp;lia) fun h' eb=>⟨rfl,I.turned (t':=s.toks) (fun b o hb e=>eb b o hb e) f0 f1 f3 f4 f5⟩
 self:=fun _ _ _ _ _ st h=>wpAny_pyIter_tupleiter st h
theorem zg6 {P:Xi}{w:WS}{K:X0}{tg:Expr}(it:Addr)(lo:Int)(n:Nat):Turn P w K tg (Itr lo n) [it] it (fun i h=>IsRangeIter h it (lo+(i:Nat)*1) ((n:Int)-(i:Nat)) 1) where
 mem:=by simp
 obj:=fun i h st b hb=>by
  have e:b=it:=by simpa using hb
  subst e;exact⟨_,st,fun v z=>by
   have z':Data.fields _=Data.cell v:=z;cases z'⟩
 keep:=fun i h h' st k=>k it (by simp) _ st
 item:=by
  intro X hP hw hK hc i bQ s σ H E I hf st hg;subst hP hw hK;obtain⟨f0,f1,f2,f3,f4,f5⟩:=hf it (by simp);have W:=Walks.range (prog:=X.prog) (w:=X.w) (I.ok.hd hc) it lo 1 n;refine W.item i s _ _ hg st fun v h' tk hv st' kk=>?_;obtain⟨t,rfl⟩:=hv;have I1:Inv X bQ σ H { s with heap:=h',toks:=tk }:=I.turned (fun b o hb e=>kk b o (by simpa using hb) e) f0 f1 f3 f4 f5;refine⟨_,rfl,zkv (s:={ s with heap:=h',toks:=tk }) (n:="range_iterator") st' rfl rfl (by decide) ⟨.int (lo+i),H,I1,⟨t,?_⟩,⟨rfl,rfl⟩,st',fun b hb=>(hf b hb).1⟩⟩;rw[Int.mul_one]
 done:=by
  intro X hP hw hK hc i bQ s σ H E I hf st hg;subst hP hw hK;obtain⟨f0,f1,f2,f3,f4,f5⟩:=hf it (by simp);exact wpAny_pyNext_range_end (I.ok.hd hc) st (by have:n<=i:=hg;lia) fun h' eb=>⟨rfl,I.turned (t':=s.toks) (fun b o hb e=>eb b o hb e) f0 f1 f3 f4 f5⟩
 self:=fun _ _ _ _ _ st h=>wpAny_pyIter_rangeiter st h
section
variable {X:Cx}{tg:Expr}
def zn8 (K:X0)(tl:TE):TI:=fun σ H R=>tl σ H fun x H1=>∃a,x=.ref a/\(∃xs,SqL K H1 a xs)/\R (Itl K a) H1
def zrd (K:X0)(tl:TE):TI:=fun σ H R=>tl σ H fun x H1=>∃a,x=.ref a/\(∃xs,SqT K H1 a xs)/\R (Itt K a) H1
theorem zK {l:Expr}{tl:TE}(hl:PE X l tl):PI X tg l (zn8 X.K tl):=by
 intro bQ s σ H R I h;refine thn (hl bQ s σ H _ I h) fun v s1 ⟨x,H1,I1,r1,q1⟩=>?_;obtain⟨a,e,⟨xs,hq⟩,q⟩:=q1;subst e;cases r1;obtain⟨its,rv,p,hz⟩:=I1.list hq;refine SK p.isList ?_;refine⟨s1.heap.objs.size,[s1.heap.objs.size],_,_,H1,rfl,I1.kept (t':=s1.toks) fun b o e=>X7 _ e,zjo a _,⟨_,Xd _ rfl,rfl,rfl⟩,fun b hb=>?_,q⟩;have e:b=s1.heap.objs.size:=by simpa using hb
 subst e;exact I1.fpOk (XW _) (I1.hok.fresh (XW _))
theorem zoJ {l:Expr}{tl:TE}(hl:PE X l tl):PI X tg l (zrd X.K tl):=by
 intro bQ s σ H R I h;refine thn (hl bQ s σ H _ I h) fun v s1 ⟨x,H1,I1,r1,q1⟩=>?_;obtain⟨a,e,⟨xs,hq⟩,q⟩:=q1;subst e;cases r1;obtain⟨its,rv,p,hz⟩:=I1.tuple hq;refine wpAny_pyIter_tuple (show s1.heap.IsTuple a its.toArray from p) ?_;refine⟨s1.heap.objs.size,[s1.heap.objs.size],_,_,H1,rfl,I1.kept (t':=s1.toks) fun b o e=>X7 _ e,zg5 a _,⟨_,Xd _ rfl,rfl,rfl⟩,fun b hb=>?_,q⟩;have e:b=s1.heap.objs.size:=by simpa using hb
 subst e;exact I1.fpOk (XW _) (I1.hok.fresh (XW _))
theorem zfA {bQ:List (Addr×Obj)}{σ:St}{H:Hp}{s:X8}{R:It->Hp->Prop}{E:X9->X8->Prop}{lo hi:Int}{t u v:Tok}{tk:Nat}(I:Inv X bQ σ H s)(h1:-(2^62)<=lo)(h2:lo<2^62)(h3:-(2^62)<=hi)(h4:hi<2^62)
  (q:R (Itr lo (hi-lo).toNat) H):W7 (Xf X.prog X.w) X.A (pyIter (.ref s.heap.objs.size)) (PIE X bQ σ tg R) E { s with heap:=s.heap.push { cls:=.type "range",data:=.fields #[.int lo t,.int hi u,.int 1 v] },toks:=tk }:=by
 refine wpAny_pyIter_range (IsRange.new ..) (small_one h1 h2 h3 h4) ?_;have I1:Inv X bQ σ H { s with heap:=s.heap.push { cls:=.type "range",data:=.fields #[.int lo t,.int hi u,.int 1 v] },toks:=tk }:=I.kept fun b o e=>X7 _ e;refine⟨(s.heap.push { cls:=.type "range",data:=.fields #[.int lo t,.int hi u,.int 1 v] }).objs.size,[(s.heap.push { cls:=.type "range",data:=.fields #[.int lo t,.int hi u,.int 1 v] }).objs.size],_,_,H,rfl,
  I1.kept (t':=tk) fun b o e=>X7 _ e,zg6 _ lo (hi-lo).toNat,?_,fun b hb=>?_,q⟩
 ·have e1:lo+((0:Nat):Int)*1=lo:=by simp
  have e2:(((hi-lo).toNat:Nat):Int)-((0:Nat):Int)=Builtin.Range.rangeSize lo hi 1:=by rw[rangeSize_one];split<;>lia
  show IsRangeIter _ _ (lo+((0:Nat):Int)*1) ((((hi-lo).toNat:Nat):Int)-((0:Nat):Int)) 1;rw[e1,e2];exact Xd _ rfl
 ·have e:b=(s.heap.push { cls:=.type "range",data:=.fields #[.int lo t,.int hi u,.int 1 v] }).objs.size:=by simpa using hb
  subst e;exact I1.fpOk (XW _) (I1.hok.fresh (XW _))
def zqa (ta:TA):TI:=fun σ H R=>ta σ H fun vs H1=>∃j:Int,vs=[.int j]/\-(2^62)<=j/\j<2^62/\R (Itr 0 j.toNat) H1
def zqb (ta:TA):TI:=fun σ H R=>ta σ H fun vs H1=>∃i j:Int,vs=[.int i,.int j]/\(-(2^62)<=i/\i<2^62/\-(2^62)<=j/\j<2^62)/\R (Itr i (j-i).toNat) H1
theorem qB {a:Expr}{ta:TA}{p pos:Pos}(hg:Gl X "range")(hm:X.mg "range"=none)(ha:PA X [a] ta)(hs:Wp [a] X.env=[(false,eval a X.env)]:=by rfl):PI X tg (.Call (.Name "range" p) [a] [] pos) (zqa ta):=by
 intro bQ s σ H R I h;refine Call_ (QE I hg hm boot_range (VD (thn (ha pos bQ s σ H _ I h) fun us s1 ⟨vs,H1,I1,r1,q1⟩=>?_) hs rfl));obtain⟨j,e,q1,q2,q⟩:=q1;subst e;cases r1 with
 | cons r rr =>
  cases rr;obtain⟨t,rfl⟩:=r;exact call_range_1 (zfA I1 (by lia) (by lia) q1 q2 (by simpa using q))
theorem YT {a b:Expr}{ta:TA}{p pos:Pos}(hg:Gl X "range")(hm:X.mg "range"=none)(ha:PA X [a,b] ta)(hs:Wp [a,b] X.env=[(false,eval a X.env),(false,eval b X.env)]:=by rfl)(hs2:Wp [b] X.env=[(false,eval b X.env)]:=by rfl) :
  PI X tg (.Call (.Name "range" p) [a,b] [] pos) (zqb ta):=by
 intro bQ s σ H R I h;refine Call_ (QE I hg hm boot_range (VD (thn (ha pos bQ s σ H _ I h) fun us s1 ⟨vs,H1,I1,r1,q1⟩=>?_) (by rw[hs,hs2]) (by rw[hs2];rfl)));obtain⟨i,j,e,⟨q1,q2,q3,q4⟩,q⟩:=q1;subst e;cases r1 with
 | cons r rr =>
  cases rr with
  | cons r' rr =>
   cases rr;obtain⟨t,rfl⟩:=r;obtain⟨t',rfl⟩:=r';exact call_range_2 (zfA I1 q1 q2 q3 q4 q)
def zre (wi:TI)(g:TG)(tb:TS):TS:=fun D σ H=>wi σ H fun J H1=>∃W:Nat->Nat->St->Hp->Prop,(∃m,W 0 m σ H1)/\∀i m σ H,W i m σ H ->
 (J.stop i H/\D.nx σ H)\/(J.go i H/\∃N:St->Hp->Prop,(∀ σ' H',N σ' H'->∃m',m'<m/\W (i+1) m' σ' H')/\∀x H',J.yld i H x H'->g x σ H' fun σ2 H2=>tb { D with nx:=N,ct:=N,bk:=D.nx } σ2 H2)
def QF (fp:List Addr)(h:Heap):List (Addr×Obj):=fp.filterMap fun b=>(h.get? b).map fun o=>(b,o)
theorem jO {fp:List Addr}{h:Heap}{b:Addr}{o:Obj}(hb:b∈fp)(e:h.get? b=some o):(b,o)∈QF fp h:=Te.mpr ⟨b,hb,by rw[e];rfl⟩
theorem zjp {fp:List Addr}{h:Heap}{p:Addr×Obj}(hp:p∈QF fp h):p.1∈fp/\h.get? p.1=some p.2:=by
 obtain⟨b,hb,e⟩:=Te.mp hp;cases q:h.get? b with
 | none=>rw[q] at e;cases e
 | some o =>
  rw[q] at e;have e':(b,o)=p:=Option.some.inj e;subst e';exact⟨hb,q⟩
theorem Inv.pinned {bQ:List (Addr×Obj)}{σ:St}{H:Hp}{s:X8}{fp:List Addr}(I:Inv X bQ σ H s)(hf:∀b∈fp,Q4 X bQ H b)(ho:∀b∈fp,∃o,s.heap.get? b=some o/\∀v,o.data ≠ .cell v):Inv X (bQ++QF fp s.heap) σ H s :=
 I.pins_of fun p hp=>(XO.mp hp).elim (fun z=>I.pin p (XE _ z)) fun z=>by
  obtain⟨hb,e⟩:=zjp z;obtain⟨f0,f1,f2,_⟩:=hf p.1 hb;obtain⟨o,e',d⟩:=ho p.1 hb;rw[e] at e';cases e';exact⟨e,f0,f1,f2,d⟩
theorem Inv.unpinned {bQ pl:List (Addr×Obj)}{σ:St}{H:Hp}{s:X8}(I:Inv X (bQ++pl) σ H s):Inv X bQ σ H s:=I.pins_of fun p hp=>I.pin p (XE _ (W5 _ hp))
theorem qg {iter:Expr}{body:List Stmt}{wi:TI}{g:TG}{tb:TS}{pos:Pos}(hp:PassesOwn (Xf X.prog X.w) X.A X.env X.xe)(hc:X.calm=true)(hi:PI X tg iter wi)(hg:PG X tg g)(hb:PSs X body tb)
  (hs:∀x,SJ iter X.env x=pure x:=by intro _;rfl):PS X (.For tg iter body [] pos) (zre wi g tb):=by
 intro bQ s σ H D I h;refine wpAny_For (thn (hi bQ s σ H _ I h) fun v s1 h1=>thn h1 fun itv s2 h2=>?_) hs;obtain⟨it,fp,tn,J,H2,e,I2,T,st2,f2,W,⟨m0,w0⟩,turn⟩:=h2;subst e;have stat:∀{H':Hp},(∀b∈fp,H' b=none)->∀b∈fp,Q4 X bQ H' b:=fun hn b hb=>⟨hn b hb,(f2 b hb).2⟩;refine codeAny_forLoop_any (fun n s'=>∃i σ' H',Inv X bQ σ' H' s'/\tn i s'.heap/\(∀b∈fp,H' b=none)/\W i n σ' H') ?_ m0 ⟨0,σ,H2,I2,st2,fun b hb=>(f2 b hb).1,w0⟩;rintro n s3 ⟨i,σ3,H3,I3,st3,fr3,w3⟩;rcases turn i n σ3 H3 w3 with ⟨stop,qn⟩ | ⟨go,N,hN,step⟩
 ·refine Tq hp (thn (T.done X rfl rfl rfl hc i bQ s3 σ3 H3 X.xe I3 (stat fr3) st3 stop) fun r s4 ⟨hr,I4⟩=>?_);subst hr;exact Tr ⟨σ3,H3,I4,qn⟩
 ·refine Tq hp (thn (T.item X rfl rfl rfl hc i bQ s3 σ3 H3 X.xe I3 (stat fr3) st3 go) fun r s4 ⟨u,hr,h4⟩=>?_);subst hr;refine Tq hp (thn h4 fun _ s5 ⟨x,H5,I5,r5,y5,st5,fr5⟩=>?_);have I5':=I5.pinned (stat fr5) (T.obj _ _ st5);refine Tq hp (thn (hg _ s5 σ3 H5 x u _ I5' r5 (step x H5 y5)) fun _ s6 ⟨σ6,H6,I6,q6⟩=>?_);refine Tq hp (thn (hb _ s6 σ6 H6 _ I6 q6) fun f s7 q7=>?_);have Rw:∀{σ7:St} {H7:Hp},Inv X (bQ++QF fp s5.heap) σ7 H7 s7->N σ7 H7->∃m,m<n/\∃i σ' H',Inv X bQ σ' H' s7/\tn i s7.heap/\(∀b∈fp,H' b=none)/\W i m σ' H':=fun {σ7 H7} I7 n7=>by
   obtain⟨m',hm,w7⟩:=hN σ7 H7 n7;refine⟨m',hm,i+1,σ7,H7,I7.unpinned,T.keep _ _ _ st5 fun b hb o e=>(I7.pin (b,o) (XE _ (XE _ (jO hb e)))).1,fun b hb=>?_,w7⟩;obtain⟨o,e,d⟩:=T.obj _ _ st5 b hb;exact(I7.pin (b,o) (XE _ (XE _ (jO hb e)))).2.1
  cases f with
  | next=>obtain⟨σ7,H7,I7,n7⟩:=q7;exact Rw I7 n7
  | cont=>obtain⟨σ7,H7,I7,n7⟩:=q7;exact Rw I7 n7
  | brk=>obtain⟨σ7,H7,I7,q7⟩:=q7;exact⟨σ7,H7,I7.unpinned,q7⟩
  | ret v=>obtain⟨x7,σ7,H7,I7,r7,q7⟩:=q7;exact⟨x7,σ7,H7,I7.unpinned,r7,q7⟩
end
theorem j7 {K:X0}{a:Addr}{xs:List V}{g:TG}{tb:TS}{D:Ends}{σ:St}{H:Hp}(Pv:Nat->St->Hp->Prop)(h0:Pv 0 σ H)(hl:∀i σ H,i<=xs.length->Pv i σ H->SqL K H a xs)
  (hs:∀i x σ H,xs[i]?=some x->Pv i σ H->g x σ H fun σ2 H2=>tb { D with nx:=Pv (i+1),ct:=Pv (i+1),bk:=D.nx } σ2 H2) (hd:∀ σ H,Pv xs.length σ H->D.nx σ H) :
  ∃W:Nat->Nat->St->Hp->Prop,(∃m,W 0 m σ H)/\∀i m σ H,W i m σ H ->
   ((Itl K a).stop i H/\D.nx σ H)\/((Itl K a).go i H/\∃N:St->Hp->Prop,(∀ σ' H',N σ' H'->∃m',m'<m/\W (i+1) m' σ' H')/\∀x H',(Itl K a).yld i H x H'->g x σ H' fun σ2 H2=>tb { D with nx:=N,ct:=N,bk:=D.nx } σ2 H2):=by
 refine⟨fun i m σ H=>m=xs.length-i/\i<=xs.length/\Pv i σ H,⟨xs.length,by simp,W4 _,h0⟩,?_⟩;rintro i m σ H ⟨rfl,hi,p⟩;have q:=hl i σ H hi p;by_cases hlt:i<xs.length
 ·refine .inr ⟨⟨xs,xs[i],q,by simp[hlt]⟩,Pv (i+1),fun σ' H' p'=>⟨xs.length-(i+1),by lia,rfl,hlt,p'⟩,fun x H' y=>?_⟩;obtain⟨e,y⟩:=y;subst e;exact hs i x σ _ (y xs q) p
 ·have e:i=xs.length:=by lia
  subst e;exact .inl ⟨⟨xs,q,XW _⟩,hd σ H p⟩
theorem zmM {K:X0}{a:Addr}{xs:List V}{g:TG}{tb:TS}{D:Ends}{σ:St}{H:Hp}(Pv:Nat->St->Hp->Prop)(h0:Pv 0 σ H)(hl:∀i σ H,i<=xs.length->Pv i σ H->SqT K H a xs)
  (hs:∀i x σ H,xs[i]?=some x->Pv i σ H->g x σ H fun σ2 H2=>tb { D with nx:=Pv (i+1),ct:=Pv (i+1),bk:=D.nx } σ2 H2) (hd:∀ σ H,Pv xs.length σ H->D.nx σ H) :
  ∃W:Nat->Nat->St->Hp->Prop,(∃m,W 0 m σ H)/\∀i m σ H,W i m σ H ->
   ((Itt K a).stop i H/\D.nx σ H)\/((Itt K a).go i H/\∃N:St->Hp->Prop,(∀ σ' H',N σ' H'->∃m',m'<m/\W (i+1) m' σ' H')/\∀x H',(Itt K a).yld i H x H'->g x σ H' fun σ2 H2=>tb { D with nx:=N,ct:=N,bk:=D.nx } σ2 H2):=by
 refine⟨fun i m σ H=>m=xs.length-i/\i<=xs.length/\Pv i σ H,⟨xs.length,by simp,W4 _,h0⟩,?_⟩;rintro i m σ H ⟨rfl,hi,p⟩;have q:=hl i σ H hi p;by_cases hlt:i<xs.length
 ·refine .inr ⟨⟨xs,xs[i],q,by simp[hlt]⟩,Pv (i+1),fun σ' H' p'=>⟨xs.length-(i+1),by lia,rfl,hlt,p'⟩,fun x H' y=>?_⟩;obtain⟨e,y⟩:=y;subst e;exact hs i x σ _ (y xs q) p
 ·have e:i=xs.length:=by lia
  subst e;exact .inl ⟨⟨xs,q,XW _⟩,hd σ H p⟩
theorem qC {lo:Int}{n:Nat}{g:TG}{tb:TS}{D:Ends}{σ:St}{H:Hp}(Pv:Nat->St->Hp->Prop)(h0:Pv 0 σ H)
  (hs:∀i σ H,i<n->Pv i σ H->g (.int (lo+i)) σ H fun σ2 H2=>tb { D with nx:=Pv (i+1),ct:=Pv (i+1),bk:=D.nx } σ2 H2) (hd:∀ σ H,Pv n σ H->D.nx σ H) :
  ∃W:Nat->Nat->St->Hp->Prop,(∃m,W 0 m σ H)/\∀i m σ H,W i m σ H ->
   ((Itr lo n).stop i H/\D.nx σ H)\/((Itr lo n).go i H/\∃N:St->Hp->Prop,(∀ σ' H',N σ' H'->∃m',m'<m/\W (i+1) m' σ' H')/\∀x H',(Itr lo n).yld i H x H'->g x σ H' fun σ2 H2=>tb { D with nx:=N,ct:=N,bk:=D.nx } σ2 H2):=by
 refine⟨fun i m σ H=>m=n-i/\i<=n/\Pv i σ H,⟨n,by simp,W4 _,h0⟩,?_⟩;rintro i m σ H ⟨rfl,hi,p⟩;by_cases hlt:i<n
 ·refine .inr ⟨hlt,Pv (i+1),fun σ' H' p'=>⟨n-(i+1),by lia,rfl,hlt,p'⟩,fun x H' y=>?_⟩;obtain⟨e,y⟩:=y;subst e y;exact hs i σ _ hlt p
 ·have e:i=n:=by lia
  subst e;exact .inl ⟨XW _,hd σ H p⟩
abbrev R2:=V->V->Hp->VK->Prop
def OpR (X:Cx)(f:X9->X9->Sem X9)(r:R2):Prop :=
 ∀(bQ:List (Addr×Obj)) (s:X8) (σ:St) (H:Hp) (x y:V) (v u:X9) (Q:VK),Inv X bQ σ H s->RelV x v->RelV y u->r x y H Q ->
  W7 (Xf X.prog X.w) X.A (f v u) (EP X bQ σ Q) X.xe s
def UnR (X:Cx)(f:X9->Sem X9)(r:V->Hp->VK->Prop):Prop :=
 ∀(bQ:List (Addr×Obj)) (s:X8) (σ:St) (H:Hp) (x:V) (v:X9) (Q:VK),Inv X bQ σ H s->RelV x v->r x H Q ->
  W7 (Xf X.prog X.w) X.A (f v) (EP X bQ σ Q) X.xe s
def jM (X:Cx)(f:X9)(r:List V->Hp->VK->Prop):Prop :=
 ∀(bQ:List (Addr×Obj)) (s:X8) (σ:St) (H:Hp) (xs:List V) (us:List X9) (Q:VK),Inv X bQ σ H s->Vals xs us->r xs H Q ->
  W7 (Xf X.prog X.w) X.A (call f us) (EP X bQ σ Q) X.xe s
def zrf (X:Cx)(r:V->Hp->(Bool->Hp->Prop)->Prop):Prop :=
 ∀(bQ:List (Addr×Obj)) (s:X8) (σ:St) (H:Hp) (x:V) (v:X9) (Q:Bool->Hp->Prop),Inv X bQ σ H s->RelV x v->r x H Q ->
  W7 (Xf X.prog X.w) X.A (truthy v) (TP X bQ σ Q) X.xe s
def tOp (r:R2)(ta tb:TE):TE:=fun σ H Q=>ta σ H fun x H1=>tb σ H1 fun y H2=>r x y H2 Q
def tUn (r:V->Hp->VK->Prop)(ta:TE):TE:=fun σ H Q=>ta σ H fun x H1=>r x H1 Q
def rI (C:Int->Int->Prop)(g:Int->Int->V):R2:=fun x y H Q=>∃i j,x=.int i/\y=.int j/\C i j/\Q (g i j) H
def rI0 (g:Int->Int->V):R2:=fun x y H Q=>∃i j,x=.int i/\y=.int j/\Q (g i j) H
def rU (g:Int->V):V->Hp->VK->Prop:=fun x H Q=>∃i,x=.int i/\Q (g i) H
section
variable {X:Cx}{a b c:Expr}{ta tb tc:TE}{pos:Pos}
theorem zoK (ha:PE X a ta)(hb:PE X b tb){bQ:List (Addr×Obj)}{s:X8}{σ:St}{H:Hp}{R:V->V->Hp->Prop}(I:Inv X bQ σ H s)
  (h:ta σ H fun x H1=>tb σ H1 fun y H2=>R x y H2) {Q:X9->X8->Prop} {f:X9->X9->Sem X9}
  (hf:∀v u s2 x y H2,Inv X bQ σ H2 s2->RelV x v->RelV y u->R x y H2->W7 (Xf X.prog X.w) X.A (f v u) Q X.xe s2) :
  W7 (Xf X.prog X.w) X.A (eval a X.env) (fun v s₁=>W7 (Xf X.prog X.w) X.A (eval b X.env) (fun u s₂=>W7 (Xf X.prog X.w) X.A (f v u) Q X.xe s₂) X.xe s₁) X.xe s:=by
 refine thn (ha bQ s σ H _ I h) fun v s1 ⟨x,H1,I1,r1,q1⟩=>?_;refine thn (hb bQ s1 σ H1 _ I1 q1) fun u s2 ⟨y,H2,I2,r2,q2⟩=>?_;exact hf v u s2 x y H2 I2 r1 r2 q2
theorem zx {op:Operator}{r:R2}(ho:OpR X (Uh op) r)(ha:PE X a ta)(hb:PE X b tb):PE X (.BinOp a op b pos) (tOp r ta tb):=by
 intro bQ s σ H Q I h;exact wpAny_BinOp (zoK ha hb I h fun v u s2 x y H2 I2 rx ry q=>ho bQ s2 σ H2 x y v u Q I2 rx ry q)
theorem zqc {op:UnaryOp}{r:V->Hp->VK->Prop}(ho:UnR X (unaryOp op) r)(ha:PE X a ta):PE X (.UnaryOp op a pos) (tUn r ta):=by
 intro bQ s σ H Q I h;exact UnaryOp_ (thn (ha bQ s σ H _ I h) fun v s1 ⟨x,H1,I1,r1,q1⟩=>ho bQ s1 σ H1 x v Q I1 r1 q1)
theorem opI {f:X9->X9->Sem X9}{C:Int->Int->Prop}{g:Int->Int->Int}
  (rule:∀(i j:Int) (t u:Tok) (s:X8) (Q:X9->X8->Prop) (E:X9->X8->Prop),C i j->Q (.int (g i j) s.toks) { s with toks:=s.toks+1 }->W7 (Xf X.prog X.w) X.A (f (.int i t) (.int j u)) Q E s) :
  OpR X f (rI C fun i j=>.int (g i j)):=by
 intro bQ s σ H x y v u Q I rx ry h;obtain⟨i,j,rfl,rfl,hc,q⟩:=h;obtain⟨t,rfl⟩:=rx;obtain⟨t',rfl⟩:=ry;exact rule i j t t' s _ _ hc ⟨.int (g i j),H,I.tok _,⟨_,rfl⟩,q⟩
theorem zqd {f:X9->X9->Sem X9}{g:Int->Int->Int}
  (rule:∀(i j:Int) (t u:Tok) (s:X8) (Q:X9->X8->Prop) (E:X9->X8->Prop),Q (.int (g i j) s.toks) { s with toks:=s.toks+1 }->W7 (Xf X.prog X.w) X.A (f (.int i t) (.int j u)) Q E s) :
  OpR X f (rI0 fun i j=>.int (g i j)):=by
 intro bQ s σ H x y v u Q I rx ry h;obtain⟨i,j,rfl,rfl,q⟩:=h;obtain⟨t,rfl⟩:=rx;obtain⟨t',rfl⟩:=ry;exact rule i j t t' s _ _ ⟨.int (g i j),H,I.tok _,⟨_,rfl⟩,q⟩
theorem zoL {f:X9->X9->Sem X9}{g:Int->Int->Bool}
  (rule:∀(i j:Int) (t u:Tok) (s:X8) (Q:X9->X8->Prop) (E:X9->X8->Prop),Q (.bool (g i j)) s->W7 (Xf X.prog X.w) X.A (f (.int i t) (.int j u)) Q E s) :
  OpR X f (rI0 fun i j=>.bl (g i j)):=by
 intro bQ s σ H x y v u Q I rx ry h;obtain⟨i,j,rfl,rfl,q⟩:=h;obtain⟨t,rfl⟩:=rx;obtain⟨t',rfl⟩:=ry;exact rule i j t t' s _ _ ⟨.bl (g i j),H,I,rfl,q⟩
def zrg (i j:Int):Prop:=0<j/\j<1073741824
theorem zg7:OpR X (Uh .Add) (rI0 fun i j=>.int (i+j)):=zqd fun _ _ _ _ _ _ _ q=>add_int q
theorem zoM:OpR X (Uh .Sub) (rI0 fun i j=>.int (i-j)):=zqd fun _ _ _ _ _ _ _ q=>sub_int q
theorem zoN:OpR X (Uh .Mod) (rI (fun _ j=>0<j) fun i j=>.int (i%j)):=opI fun i j _ _ _ _ _ hc q=>by
 have h1:(0:Int)<j:=hc;exact mod_int' (by lia) (by rw[RF i (by lia)];exact q)
theorem unI {f:X9->Sem X9}{g:Int->Int}
  (rule:∀(i:Int) (t:Tok) (s:X8) (Q:X9->X8->Prop) (E:X9->X8->Prop),Q (.int (g i) s.toks) { s with toks:=s.toks+1 }->W7 (Xf X.prog X.w) X.A (f (.int i t)) Q E s) :
  UnR X f (rU fun i=>.int (g i)):=by
 intro bQ s σ H x v Q I rx h;obtain⟨i,rfl,q⟩:=h;obtain⟨t,rfl⟩:=rx;exact rule i t s _ _ ⟨.int (g i),H,I.tok _,⟨_,rfl⟩,q⟩
theorem zoO:UnR X (unaryOp .USub) (rU fun i=>.int (-i)):=unI fun _ _ _ _ _ q=>neg_int q
end
def zqe:V->V->Bool
 | .non,.non=>true | .non,.int _=>true | .int _,.non=>true | .non,.bl _=>true | .bl _,.non=>true | .non,.str _=>true | .str _,.non=>true
 | .int _,.int _=>true | .bl _,.bl _=>true | .str _,.str _=>true | .byt _,.byt _=>true
 | .int _,.str _=>true | .str _,.int _=>true | .bl _,.str _=>true | .str _,.bl _=>true
 | _,_=>false
def rEq:R2:=fun x y H Q=>zqe x y=true/\Q (.bl (decide (x=y))) H
def rNe:R2:=fun x y H Q=>zqe x y=true/\Q (.bl (!decide (x=y))) H
theorem zeF {i j:Int}:decide (V.int i=V.int j)=(i==j):=by
 rw[WO];simp
theorem zkw {i j:Bool}:decide (V.bl i=V.bl j)=(i==j):=by
 rw[WO];simp
theorem zio {i j:Str}:decide (V.str i=V.str j)=(i==j):=by
 rw[WO];simp
theorem ziq {i j:Array UInt8}:decide (V.byt i=V.byt j)=(i.toList==j.toList):=by
 rw[WO];cases i;cases j;simp
section
variable {X:Cx}{a b c:Expr}{ta tb tc:TE}{pos:Pos}
theorem qh {bQ:List (Addr×Obj)}{σ:St}{H:Hp}{s:X8}{Q:VK}{k k':Bool}(I:Inv X bQ σ H s)(q:Q (.bl k) H)(e:k=k'):EP X bQ σ Q (.bool k') s:=by
 subst e;exact⟨.bl k,H,I,rfl,q⟩
theorem xU:OpR X (Wf .Eq) rEq:=by
 intro bQ s σ H x y v u Q I rx ry h;obtain⟨hs,q⟩:=h;cases x with
 | non =>
  cases rx;cases y with
  | non=>cases ry;exact PySem.EqNone.eq_none_none (qh I q (by simp))
  | bl j=>cases ry;exact PySem.EqNone.eq_none_bool (qh I q (by simp))
  | int j=>obtain⟨t',rfl⟩:=ry;exact PySem.EqNone.eq_none_int (qh I q (by simp))
  | str j=>obtain⟨t',rfl⟩:=ry;exact PySem.EqNone.eq_none_str (qh I q (by simp))
  | _=>exact absurd (show false=true from hs) XV
 | bl i =>
  cases rx;cases y with
  | non=>cases ry;exact PySem.EqNone.eq_bool_none (qh I q (by simp))
  | bl j=>cases ry;exact eq_bool (qh I q zkw)
  | str j=>obtain⟨t',rfl⟩:=ry;exact PySem.EqMixed.eq_bool_str (qh I q (by simp))
  | _=>exact absurd (show false=true from hs) XV
 | int i =>
  obtain⟨t,rfl⟩:=rx;cases y with
  | non=>cases ry;exact PySem.EqNone.eq_int_none (qh I q (by simp))
  | int j=>obtain⟨t',rfl⟩:=ry;exact eq_int (qh I q zeF)
  | str j=>obtain⟨t',rfl⟩:=ry;exact PySem.EqMixed.eq_int_str (qh I q (by simp))
  | _=>exact absurd (show false=true from hs) XV
 | str i =>
  obtain⟨t,rfl⟩:=rx;cases y with
  | non=>cases ry;exact PySem.EqNone.eq_str_none (qh I q (by simp))
  | bl j=>cases ry;exact PySem.EqMixed.eq_str_bool (qh I q (by simp))
  | int j=>obtain⟨t',rfl⟩:=ry;exact PySem.EqMixed.eq_str_int (qh I q (by simp))
  | str j=>obtain⟨t',rfl⟩:=ry;exact eq_str (qh I q zio)
  | _=>exact absurd (show false=true from hs) XV
 | byt i =>
  obtain⟨t,rfl⟩:=rx;cases y with
  | byt j=>obtain⟨t',rfl⟩:=ry;exact PySem.W.eq_bytes (qh I q ziq)
  | _=>exact absurd (show false=true from hs) XV
 | _=>cases y<;>exact absurd (show false=true from hs) XV
theorem Q5:OpR X (Wf .NotEq) rNe:=by
 intro bQ s σ H x y v u Q I rx ry h;obtain⟨hs,q⟩:=h;cases x with
 | non =>
  cases rx;cases y with
  | non=>cases ry;exact PySem.EqNone.ne_none_none (qh I q (by simp))
  | bl j=>cases ry;exact PySem.EqNone.ne_none_bool (qh I q (by simp))
  | int j=>obtain⟨t',rfl⟩:=ry;exact PySem.EqNone.ne_none_int (qh I q (by simp))
  | str j=>obtain⟨t',rfl⟩:=ry;exact PySem.EqNone.ne_none_str (qh I q (by simp))
  | _=>exact absurd (show false=true from hs) XV
 | bl i =>
  cases rx;cases y with
  | non=>cases ry;exact PySem.EqNone.ne_bool_none (qh I q (by simp))
  | bl j=>cases ry;exact ne_bool (qh I q (congrArg not zkw))
  | str j=>obtain⟨t',rfl⟩:=ry;exact PySem.EqMixed.ne_bool_str (qh I q (by simp))
  | _=>exact absurd (show false=true from hs) XV
 | int i =>
  obtain⟨t,rfl⟩:=rx;cases y with
  | non=>cases ry;exact PySem.EqNone.ne_int_none (qh I q (by simp))
  | int j=>obtain⟨t',rfl⟩:=ry;exact ne_int (qh I q (congrArg not zeF))
  | str j=>obtain⟨t',rfl⟩:=ry;exact PySem.EqMixed.ne_int_str (qh I q (by simp))
  | _=>exact absurd (show false=true from hs) XV
 | str i =>
  obtain⟨t,rfl⟩:=rx;cases y with
  | non=>cases ry;exact PySem.EqNone.ne_str_none (qh I q (by simp))
  | bl j=>cases ry;exact PySem.EqMixed.ne_str_bool (qh I q (by simp))
  | int j=>obtain⟨t',rfl⟩:=ry;exact PySem.EqMixed.ne_str_int (qh I q (by simp))
  | str j=>obtain⟨t',rfl⟩:=ry;exact ne_str (qh I q (congrArg not zio))
  | _=>exact absurd (show false=true from hs) XV
 | byt i =>
  obtain⟨t,rfl⟩:=rx;cases y with
  | byt j=>obtain⟨t',rfl⟩:=ry;exact PySem.W.ne_bytes (qh I q (congrArg not ziq))
  | _=>exact absurd (show false=true from hs) XV
 | _=>cases y<;>exact absurd (show false=true from hs) XV
theorem zqf:OpR X (Wf .Lt) (rI0 fun i j=>.bl (decide (i<j))):=zoL fun _ _ _ _ _ _ _ q=>lt_int q
theorem zqg:OpR X (Wf .LtE) (rI0 fun i j=>.bl (decide (i<=j))):=zoL fun _ _ _ _ _ _ _ q=>le_int q
theorem zqh:OpR X (Wf .Gt) (rI0 fun i j=>.bl (decide (j<i))):=zoL fun _ _ _ _ _ _ _ q=>gt_int q
theorem zoP:OpR X (Wf .Is) (fun x y H Q=>y=.non/\Q (.bl (decide (x=.non))) H):=by
 intro bQ s σ H x y v u Q I rx ry h;obtain⟨rfl,q⟩:=h;cases ry;refine is_none_gen (qh I q ?_);cases x<;>first
  | (cases rx;rfl)
  | (obtain⟨t,rfl⟩:=rx;rfl)
theorem zir:OpR X (Wf .IsNot) (fun x y H Q=>y=.non/\Q (.bl (!decide (x=.non))) H):=by
 intro bQ s σ H x y v u Q I rx ry h;obtain⟨rfl,q⟩:=h;cases ry;refine isnot_none_gen (qh I q ?_);cases x<;>first
  | (cases rx;rfl)
  | (obtain⟨t,rfl⟩:=rx;rfl)
theorem zT (b:Expr){op:N5}(h:op ≠ .In:=by decide)(h2:op ≠ .NotIn:=by decide):Tx op b=false:=by
 have e1:(op==CmpOp.In)=false:=by cases op<;>first | rfl | exact absurd rfl h
 have e2:(op==CmpOp.NotIn)=false:=by cases op<;>first | rfl | exact absurd rfl h2
 cases b<;>simp[Tx,e1,e2]
theorem Jc {op:N5}{r:R2}(ho:OpR X (Wf op) r)(ha:PE X a ta)(hb:PE X b tb)(hm:Tx op b=false):PE X (.Compare a [op] [b] pos) (tOp r ta tb):=by
 intro bQ s σ H Q I h;exact wpAny_Compare1 (zoK ha hb I h fun v u s2 x y H2 I2 rx ry q=>ho bQ s2 σ H2 x y v u Q I2 rx ry q) hm
def zn9 (t:TE):TT:=fun σ H Q=>t σ H fun x H'=>∃k,x=.bl k/\Q k H'
theorem jN {op:N5}{r:R2}(ho:OpR X (Wf op) r)(ha:PE X a ta)(hb:PE X b tb)(hm:Tx op b=false):PT X (.Compare a [op] [b] pos) (zn9 (tOp r ta tb)):=by
 intro bQ s σ H Q I h;refine Sr (thn (ha bQ s σ H _ I h) fun v s1 ⟨x,H1,I1,r1,q1⟩=>thn (hb bQ s1 σ H1 _ I1 q1) fun u s2 ⟨y,H2,I2,r2,q2⟩ =>
  thn (ho bQ s2 σ H2 x y v u _ I2 r1 r2 q2) fun c s3 ⟨z,H3,I3,r3,k,e,q3⟩=>?_) hm
 subst e;cases r3;exact VN ⟨H3,I3,q3⟩
def zoQ (r r':R2)(ta tb tc:TE):TE:=fun σ H Q=>ta σ H fun x H1=>tb σ H1 fun y H2=>r x y H2 fun z H3=>∃k,z=.bl k /\
 (if k=true then tc σ H3 fun w' H4=>r' y w' H4 Q else Q (.bl false) H3)
theorem zfB {op op':N5}{r r':R2}(ho:OpR X (Wf op) r)(ho':OpR X (Wf op') r')(ha:PE X a ta)(hb:PE X b tb)(hc:PE X c tc)
  (hm:lastMarks [op,op'] [b,c]=false:=by with_unfolding_all rfl):PT X (.Compare a [op,op'] [b,c] pos) (zn9 (zoQ r r' ta tb tc)):=by
 intro bQ s σ H Q I h;refine isTrue_chain (thn (ha bQ s σ H _ I h) fun v s1 ⟨x,H1,I1,r1,q1⟩=>test_link (thn (hb bQ s1 σ H1 _ I1 q1) fun u s2 ⟨y,H2,I2,r2,q2⟩ =>
  thn (ho bQ s2 σ H2 x y v u _ I2 r1 r2 q2) fun d s3 ⟨z,H3,I3,r3,k,e,q3⟩=>?_)) hm
 subst e;cases r3;refine VN ?_;cases k with
 | false =>
  obtain⟨k',e',q'⟩:=q3;cases e';exact ite_ff ⟨H3,I3,q'⟩
 | true =>
  refine ite_tt (test_last (thn (hc bQ s3 σ H3 _ I3 q3) fun w' s4 ⟨z',H4,I4,r4,q4⟩=>thn (ho' bQ s4 σ H4 y z' u w' _ I4 r2 r4 q4) fun d' s5 ⟨z2,H5,I5,r5,k2,e2,q5⟩=>?_));subst e2;cases r5;exact VN ⟨H5,I5,q5⟩
def zoR (K:X0)(x:V)(H:Hp)(k:Bool):Prop :=
 match x with
 | .non=>k=false
 | .bl b=>k=b
 | .int i=>k=(i != 0)
 | .str y=>y.length<=Xv/\k=((y.length:Int) != 0)
 | .byt y=>y.size<=Xv/\k=((y.size:Int) != 0)
 | .ref p=>(∃xs,SqL K H p xs/\k=!xs.isEmpty)\/(∃xs,SqT K H p xs/\k=!xs.isEmpty)\/∃kvs,H p=some (.dK kvs)/\k=!kvs.isEmpty
 | _=>False
theorem zg8 {κ:Type}{kvs:List (κ × V)}{vs:List (κ × X9)}(r:KV kvs vs):(!vs.isEmpty)=!kvs.isEmpty:=by
 cases r<;>rfl
theorem zb0 {xs:List V}{its:List X9}(r:Vals xs its):(!its.toArray.isEmpty)=!xs.isEmpty:=by
 cases r<;>simp
theorem Yp:(Xv:Nat)<2^63:=by rw[Uu];decide
theorem zoS:zrf X (fun x H Q=>∃k,zoR X.K x H k/\Q k H):=by
 intro bQ s σ H x v Q I rx h;obtain⟨k,e,q⟩:=h;have hl:=Yp;have hs:Xv=16777216:=Uu;cases x with
 | non =>
  cases rx;have e':k=false:=e;subst e';exact truthy_none ⟨H,I,q⟩
 | bl b =>
  cases rx;have e':k=b:=e;subst e';exact VN ⟨H,I,q⟩
 | int i =>
  obtain⟨t,rfl⟩:=rx;have e':k=(i != 0):=e;subst e';exact PySem.P.truthy_int ⟨H,I,q⟩
 | str y =>
  obtain⟨t,rfl⟩:=rx;obtain⟨hy,e'⟩:y.length<=Xv/\k=((y.length:Int) != 0):=e;subst e';exact PySem.P.truthy_str (by lia) ⟨H,I.tok _,q⟩
 | byt y =>
  obtain⟨t,rfl⟩:=rx;obtain⟨hy,e'⟩:y.size<=Xv/\k=((y.size:Int) != 0):=e;subst e';exact PySem.W.truthy_bytes (by lia) ⟨H,I.tok _,q⟩
 | ref p =>
  cases rx;have e':(∃xs,SqL X.K H p xs/\k=!xs.isEmpty)\/(∃xs,SqT X.K H p xs/\k=!xs.isEmpty)\/∃kvs,H p=some (.dK kvs)/\k=!kvs.isEmpty:=e;rcases e' with ⟨xs,hx,e'⟩ | ⟨xs,hx,e'⟩ | ⟨kvs,hx,e'⟩
  ·subst e';obtain⟨its,r,pl,hz⟩:=I.list hx;have hlen:=r.length;exact wpAny_truthy_list pl.isList (by simp only[Xn];lia) ⟨H,I.tok _,by rw[zb0 r];exact q⟩
  ·subst e';obtain⟨its,r,pl,hz⟩:=I.tuple hx;have hlen:=r.length;exact truthy_tuple pl (by simp only[Xn];lia) ⟨H,I.tok _,by rw[zb0 r];exact q⟩
  ·subst e';obtain⟨hz,hS,vs,r,m⟩:kvs.length<=Xv/\(p==Uq)=false/\∃vs,KV kvs vs/\s.heap.DictOf (zU X.prog X.w) p vs:=I.hok p _ hx;have hlen:kvs.length=vs.length:=Paired.length r;exact wpAny_truthy_dict hS m (by lia) ⟨H,I.tok _,by rw[zg8 r];exact q⟩
 | _=>exact(show False from e).elim
theorem Js (ha:PE X a ta)(he:∀whole,isTrue a X.env whole=(do let v <- whole;standAt a.pos;Ov [v] (truthy v))) :
  PT X a (fun σ H Q=>ta σ H fun x H'=>∃k,zoR X.K x H' k/\Q k H'):=by
 intro bQ s σ H Q I h;exact isTrue_plain (thn (ha bQ s σ H _ I h) fun v s1 ⟨x,H1,I1,r1,q1⟩=>zoS bQ s1 σ H1 x v Q I1 r1 q1) (he _)
theorem zg9:OpR X (Uh .Add) (fun x y H Q=>∃i j,x=.str i/\y=.str j/\i.length+j.length<=Xv/\Q (.str (i++j)) H):=by
 intro bQ s σ H x y v u Q I rx ry h;obtain⟨i,j,rfl,rfl,hz,q⟩:=h;obtain⟨t,rfl⟩:=rx;obtain⟨t',rfl⟩:=ry;exact add_str (fun t' tk=>⟨.str (i++j),H,I.tok _,⟨_,rfl⟩,q⟩) hz
theorem vals1 {x:V}{us:List X9}(r:Vals [x] us):∃u,us=[u]/\RelV x u:=by
 cases r with
 | cons r1 r2=>cases r2;exact⟨_,rfl,r1⟩
theorem vals2 {x y:V}{us:List X9}(r:Vals [x,y] us):∃u w',us=[u,w']/\RelV x u/\RelV y w':=by
 cases r with
 | cons r1 r2 =>
  cases r2 with
  | cons r3 r4=>cases r4;exact⟨_,_,rfl,r1,r3⟩
theorem Zc (hc:X.calm=true):jM X (.builtin "max") (fun xs H Q=>∃i j,xs=[.int i,.int j]/\Q (.int (if j>i then j else i)) H):=by
 intro bQ s σ H xs us Q I r h;obtain⟨i,j,rfl,q⟩:=h;obtain⟨u,w',rfl,⟨t,rfl⟩,⟨t',rfl⟩⟩:=vals2 r;refine max_two_ints (I.ok.hd hc) fun h' tk k=>⟨_,H,I.kept k,?_,q⟩;by_cases hj:j>i
 ·rw[bw hj,bw hj];exact⟨_,rfl⟩
 ·rw[bq hj,bq hj];exact⟨_,rfl⟩
theorem Zd (hc:X.calm=true):jM X (.builtin "min") (fun xs H Q=>∃i j,xs=[.int i,.int j]/\Q (.int (if j<i then j else i)) H):=by
 intro bQ s σ H xs us Q I r h;obtain⟨i,j,rfl,q⟩:=h;obtain⟨u,w',rfl,⟨t,rfl⟩,⟨t',rfl⟩⟩:=vals2 r;refine min_two_ints (I.ok.hd hc) fun h' tk k=>⟨_,H,I.kept k,?_,q⟩;by_cases hj:j<i
 ·rw[bw hj,bw hj];exact⟨_,rfl⟩
 ·rw[bq hj,bq hj];exact⟨_,rfl⟩
theorem zjq:jM X (.type "int") (fun xs H Q=>(∃i,xs=[.int i]/\Q (.int i) H)\/∃k,xs=[.bl k]/\Q (.int (if k then 1 else 0)) H):=by
 intro bQ s σ H xs us Q I r h;rcases h with ⟨i,rfl,q⟩ | ⟨k,rfl,q⟩
 ·obtain⟨u,rfl,t,rfl⟩:=vals1 r;exact call_int_int ⟨.int i,H,I,⟨_,rfl⟩,q⟩
 ·obtain⟨u,rfl,r1⟩:=vals1 r;cases r1;exact call_int_bool ⟨.int (if k then 1 else 0),H,I.tok _,⟨_,rfl⟩,q⟩
theorem Q6:jM X (.type "str") (fun xs H Q=>∃i,xs=[.int i]/\i.natAbs.log2<1920/\Q (.str (toString i)) H):=by
 intro bQ s σ H xs us Q I r h;obtain⟨i,rfl,hz,q⟩:=h;obtain⟨u,rfl,t,rfl⟩:=vals1 r;exact PySem.P.str_of_int hz ⟨.str _,H,I.tok _,⟨_,rfl⟩,q⟩
theorem zbb:jM X (.builtin "divmod") (fun xs H Q=>∃i j,xs=[.int i,.int j]/\zrg i j/\∀p,H p=none->Q (.ref p) (upd H p (.tup [.int (i/j),.int (i%j)]))):=by
 intro bQ s σ H xs us Q I r h;obtain⟨i,j,rfl,⟨h1,h2⟩,q⟩:=h;obtain⟨u,w',rfl,⟨t,rfl⟩,⟨t',rfl⟩⟩:=vals2 r;refine divmod_int (by lia) ?_ (.inl (PyProof.noPylong_small (by lia)));rw[RE i (by lia),RF i (by lia)];have hn:H s.heap.objs.size=none:=I.hok.fresh (XW _);refine⟨.ref s.heap.objs.size,_,?_,rfl,q _ hn⟩;refine I.laid (fun b o e=>X7 _ e) (XW _) ⟨by simp only[XB,UT];rw[Uu];decide,[.int (i/j) s.toks,.int (i%j) (s.toks+1)],.cons ⟨_,rfl⟩ (.cons ⟨_,rfl⟩ .nil),?_⟩;exact⟨_,Xd s.heap rfl,rfl,0,rfl⟩
end
structure zoT (h:Heap)(x dx C:Addr)(mA:Str->Option X9):Prop where
 obj:h.get? x=some (Px C dx)
 ns:h.Ns1 dx mA
 ne:dx≠x
theorem zjr {h:Heap}{dx:Addr}{mA:Str->Option X9}(n:h.Ns1 dx mA):∃od,h.get? dx=some od/\∀name,Pd name od=some (mA name):=by
 obtain⟨o,es,ep,ho,hd,hk,_,hm⟩:=n;refine⟨o,ho,fun name=>?_⟩;have e:=hm name;unfold nsFind findBy at e;rw[<- Array.find?_toList] at e;unfold Pd;rw[hd];dsimp only;split
 ·rename_i y q;rw[q] at e;exact congrArg some e
 ·rename_i q;rw[q] at e;have a:es.toList.any (·.refKey)=false:=by
   rw[Ru];intro y hy;obtain⟨z,t,hkey⟩:=hk y (TY.mp hy);simp[DictEntry.refKey,hkey]
  have a':¬ es.toList.any (·.refKey)=true:=by rw[a];exact XV
  rw[bq a'];exact congrArg some e
theorem zoT.look {h:Heap}{x dx C:Addr}{mA:Str->Option X9}(I:zoT h x dx C mA):∃od,PySem.W.InstAt h x (Px C dx) C (some od)/\∀name,Pd name od=some (mA name) :=
 let ⟨od,ho,hl⟩:=zjr I.ns
 ⟨od,⟨I.obj,rfl,rfl,ho⟩,hl⟩
theorem zbW.some_of {v:V}{o:Option X9}(r:zbW (some v) o):∃u,o=some u/\RelV v u:=by
 cases o with
 | none=>exact(show False from r).elim
 | some u=>exact⟨u,rfl,r⟩
section
variable {P:Xi}{w:WS}{H H':Hp}{h h':Heap}{a C dx:Addr}{fs fs':List (Str×V)}
theorem zmN (hok:HOk P w H h)(e:H a=some (.ins C dx fs)):∃mA,zoT h a dx C mA/\(∀f,zbW (fs.lookup f) (mA f))/\PySem.Within mA (fs.map (·.1))/\fs.length<=1000/\H dx=some (.own a):=by
 obtain⟨d,z,ne,ob,mA,n,r,q⟩:=(show qA P w H h a (.ins C dx fs) from hok a _ e);exact⟨mA,⟨ob,n,ne⟩,r,q,z,d⟩
end
structure Cls (K:X0)(C:Addr):Prop where
 pg:PySem.W.plainGet K C Str.empty=true
 hd:PySem.W.hasDictIn K C=true
 po:PySem.W.plainOver K C=true
 sa:VI K (.ref C) "__setattr__"=some (some (.builtin "object.__setattr__"))
theorem Cls.get {K:X0}{C:Addr}(c:Cls K C)(f:Str):PySem.W.plainGet K C f=true:=c.pg
section
variable {X:Cx}{bQ:List (Addr×Obj)}{σ:St}{H:Hp}{s:X8}{A:WL}{E:X9->X8->Prop}{Q:X9->X8->Prop}{c:X9}{b:Bool}
inductive Q7 (K:X0)(H:Hp):V->X9->Prop where
 | non:Q7 K H .non (.type "NoneType")
 | bl (x:Bool):Q7 K H (.bl x) (.type "bool")
 | int (i:Int):Q7 K H (.int i) (.type "int")
 | str (x:Str):Q7 K H (.str x) (.type "str")
 | flt (x:UInt64):Q7 K H (.flt x) (.type "float")
 | lst {a:Addr} {xs:List V} (e:H a=some (.lst xs)):Q7 K H (.ref a) (.type "list")
 | frz {a:Addr} {o:Obj} {xs:List V} (e:H a=some (.frz o (.lst xs))):Q7 K H (.ref a) (.type "list")
 | tup {a:Addr} {xs:List V} (e:H a=some (.tup xs)):Q7 K H (.ref a) (.type "tuple")
 | dK {a:Addr} {kvs:List (Key×V)} (e:H a=some (.dK kvs)):Q7 K H (.ref a) (.type "dict")
 | dT {a:Addr} {kvs:List (List Key×V)} (e:H a=some (.dT kvs)):Q7 K H (.ref a) (.type "dict")
 | ins {a C dx:Addr} {fs:List (Str×V)} (e:H a=some (.ins C dx fs)) (cl:Cls K C) (ha:VI K (.ref C) "__class__"=some (some (.builtin "object.__class__")))
   (hn:PySem.W.specialIn K (.builtin "object.__class__") "__get__"=some (some (.builtin "getset_descriptor.__get__"))) (htk:PySem.W.takesIn K (.builtin "object.__class__")=some true)
   (hm:VC K C (.type "object")=some true):Q7 K H (.ref a) (.ref C)
theorem zjs {x:V}{u t:X9}(I:Inv X bQ σ H s)(rx:RelV x u)(ty:Q7 X.K H x t)(e:W6 X.K t c=some b)(h:∀tk,Q (.bool b) { s with toks:=tk }) :
  W7 (Xf X.prog X.w) A (call (.builtin "isinstance") [u,c]) Q E s:=by
 cases ty with
 | non=>cases (show u=Ur from rx);exact VZ PySem.W.kitx_none I.kIn U1 e (fun z=>nomatch z) h
 | bl y=>cases (show u=Tj y from rx);exact VZ PySem.W.kitx_bool I.kIn U1 e (fun z=>nomatch z) h
 | int i=>obtain⟨t,q⟩:=(show ∃t,u=Vw i t from rx);cases q;exact VZ PySem.W.kitx_int I.kIn U1 e (fun z=>nomatch z) h
 | str y=>obtain⟨t,q⟩:=(show ∃t,u=Oj y t from rx);cases q;exact VZ PySem.W.kitx_str I.kIn U1 e (fun z=>nomatch z) h
 | flt y=>obtain⟨t,q⟩:=(show ∃t,u=Value.float y t from rx);cases q;exact VZ PySem.W.kitx_float I.kIn U1 e (fun z=>nomatch z) h
 | @lst a xs ea =>
  cases (show u=Wz a from rx);obtain⟨_,_,n,_,h1⟩:=(show qA X.prog X.w H s.heap a (.lst xs) from I.hok a _ ea);exact VZ PySem.W.kitx_list I.kIn ⟨_,h1,rfl⟩ e (fun z=>nomatch z) h
 | @frz a ob xs ea =>
  cases (show u=Wz a from rx);obtain⟨_,_,_,n,_,h1⟩:=(show qA X.prog X.w H s.heap a (.frz ob (.lst xs)) from I.hok a _ ea);exact VZ PySem.W.kitx_list I.kIn ⟨_,h1,rfl⟩ e (fun z=>nomatch z) h
 | @tup a xs ea =>
  cases (show u=Wz a from rx);obtain⟨_,_,_,p⟩:=(show qA X.prog X.w H s.heap a (.tup xs) from I.hok a _ ea);obtain⟨o,h1,h2,_⟩:=p;exact VZ PySem.W.kitx_tuple I.kIn ⟨o,h1,h2⟩ e (fun z=>nomatch z) h
 | @dK a kvs ea =>
  cases (show u=Wz a from rx);obtain⟨_,_,vs,_,p⟩:=(show qA X.prog X.w H s.heap a (.dK kvs) from I.hok a _ ea);obtain⟨o,es,ep,h1,h2,_⟩:=p;exact VZ PySem.W.kitx_dict I.kIn ⟨o,h1,h2.1⟩ e (fun z=>nomatch z) h
 | @dT a kvs ea =>
  cases (show u=Wz a from rx);obtain⟨_,_,xs,_,o,es,ep,h1,h2,_⟩:=(show qA X.prog X.w H s.heap a (.dT kvs) from I.hok a _ ea);exact VZ PySem.W.kitx_dict I.kIn ⟨o,h1,h2.1⟩ e (fun z=>nomatch z) h
 | @ins a C dx fs ea cl ha hn htk hm =>
  cases (show u=Wz a from rx);obtain⟨mA,O,_⟩:=zmN I.hok ea;obtain⟨od,J,_⟩:=O.look;exact VZ (PySem.W.kitx_own (cl.get _) cl.hd ha hn htk hm) I.kIn J e (fun z=>nomatch z) h
end
structure J4 (k:Nat)(A:WL):Prop where
 hd:A.handled=none
 dp:A.depth+3*k+5<recursionLimit
 un:A.units+16*k+200<Vl
theorem J4.mono {j k:Nat}{A:WL}(r:J4 k A)(h:j<=k):J4 j A:=⟨r.hd,by have:=r.dp;lia,by have:=r.un;lia⟩
theorem J4.deeper {k:Nat}{A:WL}(r:J4 (k+1) A)(env:Env):J4 k (A.deeper env) :=
 ⟨r.hd,by have:=r.dp;show A.depth+1+3*k+5<_;lia,by have:=r.un;show A.units+3+16*k+200<_;lia⟩
theorem J4.depth {k:Nat}{A:WL}(r:J4 k A):A.depth<recursionLimit:=by have:=r.dp;lia
theorem J4.units {k:Nat}{A:WL}(r:J4 k A):A.units+64<Vl:=by have:=r.un;lia
def zrh:TA:=fun _ H Q=>Q [] H
def zqi (ta:TE)(tr:TA):TA:=fun σ H Q=>ta σ H fun x H1=>tr σ H1 fun xs H2=>Q (x::xs) H2
section
variable {X:Cx}{e:Expr}{es:List Expr}{te:TE}{t:TA}{pos:Pos}
theorem zc:PA X [] zrh:=fun _ _ _ _ H Q I h=>Calls.spliced_nil ⟨[],H,I,.nil,h⟩
theorem za (ha:PE X e te)(hr:PA X es t)(hs:Wp (e::es) X.env=(false,eval e X.env)::Wp es X.env:=by rfl):PA X (e::es) (zqi te t):=by
 intro pos bQ s σ H Q I h;rw[hs];show W7 _ _ (spliced ((false,eval e X.env)::S4 pos (Wp es X.env))) _ _ s;refine Calls.spliced_cons (thn (ha bQ s σ H _ I h) fun u s1 ⟨x,H1,I1,r1,q1⟩=>?_);exact thn (hr pos bQ s1 σ H1 _ I1 q1) fun us s2 ⟨xs,H2,I2,r2,q2⟩=>⟨x::xs,H2,I2,.cons r1 r2,q2⟩
def zri (t:TA):TE:=fun σ H Q=>t σ H fun xs H1=>xs.length<=Xv/\∀p,H1 p=none->Q (.ref p) (upd H1 p (.tup xs))
def zrj (t:TA):TE:=fun σ H Q=>t σ H fun xs H1=>xs.length<=Xv/\∀p,H1 p=none->Q (.ref p) (upd H1 p (.lst xs))
theorem j6 {x1}(h:PA X es t):PE X (.Tuple es x1 pos) (zri t):=by
 intro bQ s σ H Q I hq;refine wpAny_Tuple_spliced (thn (h pos bQ s σ H _ I hq) fun us s1 ⟨xs,H1,I1,r,z,q⟩=>⟨by rw[<- r.length];exact z,?_⟩);have hf:H1 s1.heap.objs.size=none:=I1.hok.fresh (XW _);refine⟨.ref s1.heap.objs.size,upd H1 s1.heap.objs.size (.tup xs),I1.laid (t':=s1.toks) (fun b u e=>X7 _ e) (XW _) ?_,rfl,q _ hf⟩;exact⟨z,us,r,⟨_,Xd _ rfl,rfl,_,rfl⟩⟩
theorem qa (h:PA X es t):PE X (.List es pos) (zrj t):=by
 intro bQ s σ H Q I hq;refine wpAny_List_spliced (thn (h pos bQ s σ H _ I hq) fun us s1 ⟨xs,H1,I1,r,z,q⟩=>⟨by rw[<- r.length];exact z,?_⟩);have hf:H1 s1.heap.objs.size=none:=I1.hok.fresh (XW _);refine⟨.ref s1.heap.objs.size,upd H1 s1.heap.objs.size (.lst xs),I1.laid (t':=s1.toks) (fun b u e=>X7 _ e) (XW _) ?_,rfl,q _ hf⟩;exact⟨z,us,0,r,Xd _ rfl⟩
end
abbrev Sp:=List V->Hp->VK->XK->Prop
abbrev CXT:=List Env->Hp->X8->XK->X9->X8->Prop
structure zmO (P:Xi)(w:WS)(K:X0)(mg:Str->Option X9)(base:Heap)(A:WL)(outer:List Env)(s:X8)(H:Hp):Prop where
 frames:A.frames=some outer
 mod:Mod K mg base
 bs:∀b o,base.get? b=some o->s.heap.get? b=some o/\H b=none
 bsz:base.objs.size<=s.heap.objs.size
 funs:s.heap.FunFrames base outer
 frf:∀b∈frs outer,H b=none
 hok:HOk P w H s.heap
 bare:Sf s.gens
def CE (outer:List Env)(P:Xi)(w:WS)(H:Hp)(s:X8)(Q:VK)(u:X9)(s':X8):Prop :=
 ∃v H',s'.os=s.os/\Sf s'.gens/\Un (frs outer) [] H H' s.heap s'.heap/\HOk P w H' s'.heap/\RelV v u/\Q v H'
def CR (CX:CXT)(outer:List Env)(P:Xi)(w:WS)(H:Hp)(s:X8)(Q:VK)(E:XK)(r:OA)(s':X8):Prop :=
 match r with
 | .ok (.ret u)=>CE outer P w H s Q u s'
 | .ok _=>False
 | .error e=>CX outer H s E e s'
structure zY (P:Xi)(w:WS)(K:X0)(mg:Str->Option X9)(base:Heap)(CX:CXT)(k:Nat)(f:Addr)(fd:Xp)(ps:List Str)(sp:Sp):Prop where
 len:∀vs H Q E,sp vs H Q E->vs.length=ps.length
 run:∀(A:WL) (outer:List Env) (s:X8) (H:Hp) (args:Args) (us:List X9) (vs:List V) (Q:VK) (E:XK),J4 k A->zmO P w K mg base A outer s H->Ou s fd args (ps.zip us)->Vals vs us->sp vs H Q E ->
  TV (Xf P w) A (.call (.ref f) args) (CR CX outer P w H s Q E) s
theorem zY.mono {P:Xi}{w:WS}{K:X0}{mg:Str->Option X9}{base:Heap}{CX:CXT}{j k:Nat}{f:Addr}{fd:Xp}{ps:List Str}{sp:Sp}(F:zY P w K mg base CX j f fd ps sp)(h:j<=k) :
  zY P w K mg base CX k f fd ps sp:=⟨F.len,fun A outer s H args us vs Q E hr=>F.run A outer s H args us vs Q E (hr.mono h)⟩
section
variable {X:Cx}{bQ:List (Addr×Obj)}{σ:St}{H:Hp}{s s':X8}
theorem Inv.env0 (I:Inv X bQ σ H s):zmO X.prog X.w X.K X.mg X.base X.A X.stack s H :=
 ⟨I.ok.frames,I.ok.mod,I.bs,X4 I.ok.bsz I.sz,I.stack,I.stkFree,I.hok,I.bare⟩
theorem Inv.after {Q:VK}{u:X9}(I:Inv X bQ σ H s)(h:CE X.stack X.prog X.w H s Q u s'):EP X bQ σ Q u s':=by
 obtain⟨v,H',os,bare,un,hok,r,q⟩:=h;obtain⟨hh,g,d,t,os'⟩:=s';obtain rfl:os'=s.os:=os;exact⟨v,H',I.call (h':=hh) (g':=g) (d':=d) (t':=t) (ch:=[]) un hok bare (fun b z=>absurd z (by simp)),r,q⟩
end
def zkx (sp:Sp)(dvs:List V)(E:XK)(t:TA):TE:=fun σ H Q=>t σ H fun vs H1=>sp (vs++dvs) H1 Q E
def Binds (K:X0)(fd:Xp)(ps:List Str)(ds:List X9):Prop :=
 ∀(s:X8) (us:List X9),K.In s.heap->(us++ds).length=ps.length->Ou s fd ⟨us,[]⟩ (ps.zip (us++ds))
theorem Binds.all {K:X0}{fd:Xp}{ps:List Str}(h:∀us:List X9,us.length=ps.length->bindArgs fd ⟨us,[]⟩=pure (ps.zip us)):Binds K fd ps []:=fun s us _ hl=>by
 rw[Xh] at hl ⊢;exact .of_eq (h us hl)
def Passes (CX:CXT)(X:Cx)(E:XK):Prop:=∀(bQ:List (Addr×Obj)) (σ:St) (H:Hp) (s:X8) (e:X9) (s':X8),Inv X bQ σ H s->CX X.stack H s E e s'->X.xe e s'
section
variable {X:Cx}{CX:CXT}{k:Nat}{f C:Addr}{fd:Xp}{ps:List Str}{sp:Sp}{dvs:List V}{ds:List X9}{E:XK}{x m:Str}{p pos apos:Pos}{e o:Expr}{es:List Expr}{ta:TE}{t:TA}
theorem zoU {bQ:List (Addr×Obj)}{σ:St}{H:Hp}{s:X8}{Q:VK}{us:List X9}{vs:List V}(F:zY X.prog X.w X.K X.mg X.base CX k f fd ps sp)(hr:J4 k X.A)(hb:Binds X.K fd ps ds)(hd:Vals dvs ds)(hx:Passes CX X E)
  (I:Inv X bQ σ H s) (r:Vals vs us) (h:sp (vs++dvs) H Q E):W7 (Xf X.prog X.w) X.A (call (.ref f) us) (EP X bQ σ Q) X.xe s:=by
 have r2:Vals (vs++dvs) (us++ds):=r.append hd;have hl:(us++ds).length=ps.length:=by rw[<- r2.length];exact F.len _ _ _ _ h
 refine wpAny_call (SY (F.run X.A X.stack s H ⟨us,[]⟩ (us++ds) (vs++dvs) Q E hr I.env0 (hb s us I.kIn hl) r2 h) fun r s' hq=>?_);cases r with
 | error e=>exact hx bQ σ H s e s' I hq
 | ok fl =>
  cases fl with
  | ret u=>exact I.after hq
  | next=>exact Wi hq
  | brk=>exact Wi hq
  | cont=>exact Wi hq
theorem zis (F:zY X.prog X.w X.K X.mg X.base CX k f fd ps sp)(hr:J4 k X.A)(hg:Gl X x)(hm:X.mg x=some (.ref f))(hk:T1 X.K (.ref f)=true)(hb:Binds X.K fd ps ds)(hd:Vals dvs ds)(hx:Passes CX X E)
  (ha:PA X (e::es) t) (hdb:(x==("__debug__":Str))=false:=by decide) (he:Wp (e::es) X.env=(false,eval e X.env)::Wp es X.env:=by rfl) (hpl:(S4 pos (Wp es X.env)).any (·.1)=false:=by rfl) :
  PE X (.Call (.Name x p) (e::es) [] pos) (zkx sp dvs E t):=by
 intro bQ s σ H Q I h;refine Td (Q3 I hg hm ?_ hdb);refine PySem.W.callWith_K (h₀:=X.base) I.ok.mod.kin hk (thn (ha pos bQ s σ H _ I h) fun us s1 ⟨vs,H1,I1,r,q⟩=>⟨I1.kIn,?_⟩) he hpl;exact zoU F hr hb hd hx I1 r q
end
structure zD (N P:List Str)(sc:Uv):Prop where
 kind:sc.kind=.function
 co:sc.isCoroutine=false
 gen:sc.isGenerator=false
 nd:N.Nodup
 pre:N.take P.length=P
 par:∀x∈P,sc.names.lookup x=some .local\/sc.names.lookup x=some .cell
 nofree:∀y∈sc.names,y.2 ≠ .free
theorem bz {N P:List Str}{sc:Uv}(k:sc.kind=.function)(a:sc.isCoroutine=false)(b:sc.isGenerator=false)(p:N.take P.length=P)(h:(N.Nodup)/\(∀x∈P,sc.names.lookup x=some .local\/sc.names.lookup x=some .cell)/\∀y∈sc.names,y.2 ≠ .free):zD N P sc:=⟨k,a,b,h.1,p,h.2.1,h.2.2⟩
theorem zdD {kindOf:Str->Option Tz}{x:Str}:∀{binds:List (Str×X9)} {m:Str->Option X9},(∀v,(x,v) ∉ binds)->Oa kindOf binds m x=m x
 | [],_,_=>rfl
 | (n,v)::r,m,h=>by
  unfold Oa;rw[zdD fun w hw=>h w (XR _ hw)];split
  ·have:x≠n:=by rintro rfl;exact h v XT
   simp[this]
  ·rfl
theorem zdE {kindOf:Str->Option Tz}{x:Str}:∀{binds:List (Str×X9)} {m:Str->Option X9},(∀v,(x,v) ∉ binds)->N9 kindOf binds m x=m x
 | [],_,_=>rfl
 | (n,v)::r,m,h=>by
  unfold N9;rw[zdE fun w hw=>h w (XR _ hw)];split
  ·rfl
  ·have:x≠n:=by rintro rfl;exact h v XT
   simp[this]
theorem zdF {kindOf:Str->Option Tz}{x:Str}{v:X9}:∀{P:List Str} {vs:List X9} {i:Nat} {m:Str->Option X9},P.Nodup->P[i]?=some x->vs[i]?=some v->kindOf x=some .local ->
  Oa kindOf (P.zip vs) m x=some v
 | [],_,_,_,_,h,_,_=>by simp at h
 | _::_,[],_,_,_,_,h,_=>by simp at h
 | p::P,w::vs,0,m,nd,h1,h2,hk=>by
  simp at h1 h2;subst h1;subst h2;show Oa kindOf ((p,w)::P.zip vs) m p=_;unfold Oa;rw[zdD fun v hv=>(VG.mp nd).1 (Pw hv).1,bw hk];simp
 | p::P,w::vs,i+1,m,nd,h1,h2,hk=>by
  show Oa kindOf ((p,w)::P.zip vs) m x=_;unfold Oa;exact zdF (i:=i) (VG.mp nd).2 (by simpa using h1) (by simpa using h2) hk
theorem zdG {kindOf:Str->Option Tz}{x:Str}{v:X9}:∀{P:List Str} {vs:List X9} {i:Nat} {m:Str->Option X9},P.Nodup->P[i]?=some x->vs[i]?=some v->kindOf x≠some .local ->
  N9 kindOf (P.zip vs) m x=some v
 | [],_,_,_,_,h,_,_=>by simp at h
 | _::_,[],_,_,_,_,h,_=>by simp at h
 | p::P,w::vs,0,m,nd,h1,h2,hk=>by
  simp at h1 h2;subst h1;subst h2;show N9 kindOf ((p,w)::P.zip vs) m p=_;unfold N9;rw[zdE fun v hv=>(VG.mp nd).1 (Pw hv).1,bq hk];simp
 | p::P,w::vs,i+1,m,nd,h1,h2,hk=>by
  show N9 kindOf ((p,w)::P.zip vs) m x=_;unfold N9;exact zdG (i:=i) (VG.mp nd).2 (by simpa using h1) (by simpa using h2) hk
def start (N:List Str)(vs:List V):St:=vs.map some++WN (N.length-vs.length) none
def zfC (CX:CXT)(P:Xi)(w:WS)(K:X0)(mg:Str->Option X9)(base:Heap)(N:List Str)(qual:Str)(scope:Uv)(f:Addr)(cd:X9)(A:WL)(outer:List Env)(s:X8)(H:Hp)(E:XK):Cx where
 prog:=P
 w:=w
 K:=K
 mg:=mg
 base:=base
 A:=A.deeper (PP qual scope s.heap.objs.size f cd)
 N:=N
 s₀:=s
 H₀:=H
 env:=PP qual scope s.heap.objs.size f cd
 outer:=outer
 stack:=PP qual scope s.heap.objs.size f cd::outer
 ex:=[]
 calm:=true
 fn:=fun _=>true
 pn:=[]
 xe:=fun e s'=>W7 (Xf P w) (A.deeper (PP qual scope s.heap.objs.size f cd)) (leaving (PP qual scope s.heap.objs.size f cd) e) (fun _ s''=>CX outer H s E e s'') (fun e' s''=>CX outer H s E e' s'') s'
theorem zfD {sc:Uv}{n:Nat}{x:Str}(h:sc.names.lookup x=some .cell):∃c,(RO n sc.names []).lookup x=some c:=by
 have q:=Sz sc.names n [] (.inl h);exact VH.mp q
theorem zjt {CX:CXT}{P:Xi}{w:WS}{K:X0}{mg:Str->Option X9}{base:Heap}{N ps:List Str}{qual:Str}{scope:Uv}{f:Addr}{cd:X9}{A:WL}{outer:List Env}{s s1:X8}{H:Hp}{E:XK}{us:List X9}{vs:List V}
  (S:zD N ps scope) (hd:A.handled=none) (e0:zmO P w K mg base A outer s H) (hl:vs.length=ps.length) (r:Vals vs us)
  (x:InCallC s s.heap.objs.size (Oa (PP qual scope s.heap.objs.size f cd).kindOf (ps.zip us) fun _=>none) (RO (s.heap.objs.size+1) scope.names []) (N9 (PP qual scope s.heap.objs.size f cd).kindOf (ps.zip us) fun _=>none) s1) :
  Inv (zfC CX P w K mg base N qual scope f cd A outer s H E) [] (start N vs) H s1:=by
 have hpl:ps.length<=N.length:=by have:=congrArg List.length S.pre;rw[Xw] at this;lia
 obtain⟨h1,tk,rfl,hk⟩:=x.done;have noA:∀b:Addr,b ∉ (zfC CX P w K mg base N qual scope f cd A outer s H E).ex:=fun b z=>absurd (show b∈([]:List Addr) from z) (by simp);refine⟨⟨e0.mod,S.kind,rfl,rfl,XW _,fun y z c h1 h2=>?_,fun y hy=>?_,fun y c _ h=>?_,fun _=>hd,Around.frames_deeper e0.frames,.inr ⟨rfl,rfl⟩,fun b z=>absurd z (noA b),e0.bs,e0.bsz,fun b _ _=>noA b,fun b z=>absurd z (noA b),e0.funs,e0.frf⟩,
  rfl,e0.bare,Un.kept hk,⟨_,x.toInCall.ns,fun i y v h1 h2 h3=>?_⟩,fun y c h=>⟨_,x.cell y c h⟩,e0.hok.fresh (XW _),fun y c h=>?_,fun p hp=>absurd (show p∈([]:List (Addr×Obj)) from hp) (by simp),e0.hok.kept hk,?_⟩
 ·exact name_of_addr x.apart (WE h1) (WE h2)
 ·have hy:scope.names.lookup y=some .cell\/scope.names.lookup y=some .free:=hy;rcases hy with hy | hy
  ·exact zfD hy
  ·exact absurd rfl (S.nofree _ (WE hy))
 ·exact SZ (x.above y c (WE h))
 ·have hi:i<vs.length:=by
   unfold start at h2;by_cases hi:i<vs.length
   ·exact hi
   ·rw[VR (by simpa using hi)] at h2;rw[List.getElem?_replicate] at h2;split at h2<;>cases h2
  have ha:vs[i]?=some v:=by
   unfold start at h2;rw[V3 (by simpa using hi),Xk] at h2;cases e:vs[i]? with
   | none=>rw[e] at h2;cases h2
   | some a=>rw[e] at h2;cases h2;rfl
  obtain⟨u,hu,rv⟩:=r.get ha;have hp:ps[i]?=some y:=by
   rw[<- S.pre,Rj (by lia)];exact h1
  have ndP:ps.Nodup:=by rw[<- S.pre];exact S.nd.sublist (T7 _ _)
  refine⟨u,rv,?_⟩;rcases S.par y (XY hp) with k | k
  ·exact .inl ⟨k,zdF ndP hp hu k⟩
  ·obtain⟨c,e⟩:=zfD (n:=s.heap.objs.size+1) k;refine .inr ⟨.inl k,c,e,?_⟩;have q:=x.cell y c e;rw[zdG ndP hp hu (by show scope.names.lookup y≠_;rw[k];decide)] at q;exact q
 ·exact e0.hok.fresh (SZ (x.above y c (WE h)))
 ·unfold start;show _=N.length;rw[X5,ZB,Pp];lia
theorem zoa {CX:CXT}{P:Xi}{w:WS}{K:X0}{mg:Str->Option X9}{base:Heap}{k:Nat}{f:Addr}{name qual:Str}{params:Arguments}{body:List Stmt}{scope:Uv}{dV kV doc pm cdv ct oc:X9}{an od:Option Addr}
  {osl:Array (Option X9)} {N ps:List Str} {sp:Sp} (lk:K.lookup f=some ⟨oc,od,.func (UO name qual params body scope dV kV doc pm an cdv ct),osl⟩) (hcd:SQ K cdv qual=true) (S:zD N ps scope)
  (len:∀vs H Q E,sp vs H Q E->vs.length=ps.length)
  (hbody:∀(A:WL) (outer:List Env) (s:X8) (H:Hp) (vs:List V) (Q:VK) (E:XK),J4 k (A.deeper (PP qual scope s.heap.objs.size f cdv))->sp vs H Q E ->
   ∃t,PSs (zfC CX P w K mg base N qual scope f cdv A outer s H E) body t/\t { nx:=fun _ H'=>Q .non H',rt:=Q } (start N vs) H) :
  zY P w K mg base CX (k+1) f (UO name qual params body scope dV kV doc pm an cdv ct) ps sp:=by
 refine⟨len,fun A outer s H args us vs Q E hr e0 hb r hsp=>?_⟩;have hl:=len _ _ _ _ hsp;have KX:K.In s.heap:=e0.mod.kin.keeps fun b o e=>(e0.bs b o e).1;have lim:s.heap.NoLimit:=e0.mod.nolimit.keeps fun b o e=>(e0.bs b o e).1;have hkind:∀y∈ps.zip us,scope.names.lookup y.1=some .local\/(scope.names.lookup y.1=some .cell/\((RO (s.heap.objs.size+1) scope.names []).lookup y.1).isSome=true):=fun ⟨n,v⟩ hy=>by
  rcases S.par n (Pw hy).1 with q | q
  ·exact .inl q
  ·exact .inr ⟨q,Sz _ _ _ (.inl q)⟩
 refine codeAny_call_function hr.depth (KX _ _ lk) rfl S.co S.gen rfl (PySem.W.codeRec_of KX hcd) (hb _ _ _ _ ?_);refine wpAny_newFunctionEnv_cells S.kind hkind fun env he s1 x=>?_;subst he;refine⟨lim.keeps x.toInCall.keep,codeAny_func ?_⟩;obtain⟨t,ht,hq⟩:=hbody A outer s H vs Q E (hr.deeper _) hsp;have I:Inv (zfC CX P w K mg base N qual scope f cdv A outer s H E) [] (start N vs) H s1:=zjt S hr.hd e0 hl r x;refine Wg (ht [] s1 (start N vs) H _ I hq) (fun fl s' hs=>?_) fun e s' hs=>hs;have fin:∀{σ':St} {H':Hp} {v:V} {u:X9},Inv (zfC CX P w K mg base N qual scope f cdv A outer s H E) [] σ' H' s'->RelV v u->Q v H'->CE outer P w H s Q u s' :=
  fun {σ' H' v u} J rv q=>⟨v,H',J.os,J.bare,J.base,J.hok,rv,q⟩
 cases fl with
 | ret u =>
  obtain⟨v,σ',H',J,rv,q⟩:=hs;exact fin J rv q
 | next =>
  obtain⟨σ',H',J,q⟩:=hs;exact fin (v:=V.non) (u:=Ur) J rfl q
 | brk =>
  obtain⟨_,_,_,q⟩:=hs;exact Wi q
 | cont =>
  obtain⟨_,_,_,q⟩:=hs;exact Wi q
section
variable {X:Cx}{x:Str}{p pos:Pos}{e:Expr}{es:List Expr}{t:TA}{id T:String}{r:List V->Hp->VK->Prop}
def tCB (r:List V->Hp->VK->Prop)(t:TA):TE:=fun σ H Q=>t σ H fun vs H1=>r vs H1 Q
theorem zp (hc:jM X (.builtin id) r)(hg:Gl X x)(hm:X.mg x=none)(hv:TU x=some (.builtin id))(ha:PA X (e::es) t)(hn:x ≠ "__name__":=by decide)(hdb:(x==("__debug__":Str))=false:=by decide)
  (he:Wp (e::es) X.env=(false,eval e X.env)::Wp es X.env:=by rfl) (hpl:(S4 pos (Wp es X.env)).any (·.1)=false:=by rfl):PE X (.Call (.Name x p) (e::es) [] pos) (tCB r t):=by
 intro bQ s σ H Q I h;refine Td (QE I hg hm hv ?_ hn hdb);exact PyProof.Rows.callWith_builtin1 (thn (ha pos bQ s σ H _ I h) fun us s1 ⟨vs,H1,I1,r1,q1⟩=>hc bQ s1 σ H1 vs us Q I1 r1 q1) he hpl
theorem jD (hc:jM X (.type T) r)(hg:Gl X x)(hm:X.mg x=none)(hv:TU x=some (.type T))(ha:PA X (e::es) t)(hn:x ≠ "__name__":=by decide)(hdb:(x==("__debug__":Str))=false:=by decide)
  (he:Wp (e::es) X.env=(false,eval e X.env)::Wp es X.env:=by rfl) (hpl:(S4 pos (Wp es X.env)).any (·.1)=false:=by rfl):PE X (.Call (.Name x p) (e::es) [] pos) (tCB r t):=by
 intro bQ s σ H Q I h;refine Td (QE I hg hm hv ?_ hn hdb);exact VD (thn (ha pos bQ s σ H _ I h) fun us s1 ⟨vs,H1,I1,r1,q1⟩=>hc bQ s1 σ H1 vs us Q I1 r1 q1) he hpl
end
end L2
namespace HT
open PySem PyProof.Rows
section
variable {prog:Xi}{w:WS}{A:WL}{E:X9->X8->Prop}{s:X8}
def sIx (n d:Nat):Option Int->Nat
 | none=>d
 | some v=>if v<0 then (v+(n:Int)).toNat else min v.toNat n
theorem zbJ (n d k:Nat):sIx n d (some (k:Int))=min k n:=by
 show (if (k:Int)<0 then ((k:Int)+(n:Int)).toNat else min (k:Int).toNat n)=min k n;rw[bq (by lia),WM]
end
end HT
namespace L2
open PySem PySem.Spec PyProof.Rows
abbrev TO:=St->Hp->(Option Int->Hp->Prop)->Prop
def PO (X:Cx)(e:Option Expr)(t:TO):Prop :=
 ∀(bQ:List (Addr×Obj)) (s:X8) (σ:St) (H:Hp) (Q:Option Int->Hp->Prop),Inv X bQ σ H s->t σ H Q ->
  W7 (Xf X.prog X.w) X.A (evalPart e X.env) (fun u s'=>∃o H',Inv X bQ σ H' s'/\IsPart u o/\Q o H') X.xe s
def zmP:TO:=fun _ H Q=>Q none H
def zqj (t:TE):TO:=fun σ H Q=>t σ H fun x H1=>∃i,x=.int i/\Q (some i) H1
section
variable {X:Cx}{e:Expr}{te:TE}{lo hi:Option Expr}{tl th:TO}{pos p2:Pos}
theorem zit:PO X none zmP:=by
 intro bQ s σ H Q I h;rw[evalPart_none];exact XS ⟨none,H,I,.none,h⟩
theorem zbK (h:PE X e te):PO X (some e) (zqj te):=by
 intro bQ s σ H Q I hw;rw[evalPart_some];refine thn (h bQ s σ H _ I hw) fun u s1 ⟨x,H1,I1,r1,q1⟩=>?_;obtain⟨i,rfl,q⟩:=q1;obtain⟨t,rfl⟩:=r1;exact⟨some i,H1,I1,.int i t,q⟩
def SlR (X:Cx)(r:V->Option Int->Option Int->Hp->VK->Prop):Prop :=
 ∀(bQ:List (Addr×Obj)) (s:X8) (σ:St) (H:Hp) (x:V) (v vl vu:X9) (lo hi:Option Int) (sl:Addr) (Q:VK),Inv X bQ σ H s->RelV x v->s.heap.IsSliceOf sl vl vu .none->IsPart vl lo->IsPart vu hi->r x lo hi H Q ->
  ∃T id,Oy (.type T) "__getitem__"=pure (some (.builtin id))/\s.TypeIs v T/\W7 (Xf X.prog X.w) X.A (OX v (.ref sl)) (EP X bQ σ Q) X.xe s
def tSl (r:V->Option Int->Option Int->Hp->VK->Prop)(te:TE)(tl th:TO):TE:=fun σ H Q=>te σ H fun x H1=>tl σ H1 fun l H2=>th σ H2 fun u H3=>r x l u H3 Q
theorem zb1 {r:V->Option Int->Option Int->Hp->VK->Prop}(hr:SlR X r)(he:PE X e te)(hl:PO X lo tl)(hu:PO X hi th):PE X (.Subscript e (.Slice lo hi none p2) pos) (tSl r te tl th):=by
 intro bQ s σ H Q I h;refine Subscript_ (thn (he bQ s σ H _ I h) fun v s1 ⟨x,H1,I1,r1,q1⟩=>?_);refine wpAny_Slice (thn (hl bQ s1 σ H1 _ I1 q1) fun vl s2 ⟨l,H2,I2,pl,q2⟩=>thn (hu bQ s2 σ H2 _ I2 q2) fun vu s3 ⟨u,H3,I3,pu,q3⟩=>?_);rw[evalPart_none];refine XS ?_;have I4:Inv X bQ σ H3 { s3 with heap:=s3.heap.push { cls:=.type "slice",data:=.fields #[vl,vu,.none] } }:=I3.kept (t':=s3.toks) fun b ob q=>X7 _ q;obtain⟨T,id,hT,ht,hg⟩:=hr bQ { s3 with heap:=s3.heap.push { cls:=.type "slice",data:=.fields #[vl,vu,.none] } } σ H3 x v vl vu l u s3.heap.objs.size Q I4 r1 (Heap.IsSliceOf.new ..) pl pu q3;show W7 (Xf X.prog X.w) X.A (OJ e (.Slice lo hi none p2) v (.ref s3.heap.objs.size)) (EP X bQ σ Q) X.xe { s3 with heap:=s3.heap.push { cls:=.type "slice",data:=.fields #[vl,vu,.none] } };exact tail_any (ops:=[.ref s3.heap.objs.size,v]) ht hT hg (by with_unfolding_all rfl)
def zbv (xs:List V)(lo hi:Option Int):List V:=(xs.drop (HT.sIx xs.length 0 lo)).take (HT.sIx xs.length xs.length hi-HT.sIx xs.length 0 lo)
theorem zfE (xs:List V)(lo hi:Option Int):(zbv xs lo hi).length<=xs.length:=by
 unfold zbv;rw[Xw,Vp];lia
end
def ixN (n:Nat)(i:Int):Option Nat:=if 0<=i then (if i<n then some i.toNat else none) else if -(n:Int)<=i then some (i+n).toNat else none
def atI {α:Type}(xs:List α)(i:Int):Option α:=(ixN xs.length i).bind fun j=>xs[j]?
theorem ziu {n:Nat}{i:Int}{j:Nat}(h:ixN n i=some j):seqIndex? i n=some j/\j<n/\-(n:Int)<=i/\i<n:=by
 unfold ixN at h;by_cases h0:0<=i
 ·rw[bw h0] at h;by_cases h1:i<n
  ·rw[bw h1] at h;have e:i.toNat=j:=Option.some.inj h;exact⟨by rw[Pg h0 h1,e],by lia,by lia,h1⟩
  ·rw[bq h1] at h;cases h
 ·rw[bq h0] at h;by_cases h1:-(n:Int)<=i
  ·rw[bw h1] at h;have e:(i+n).toNat=j:=Option.some.inj h;exact⟨by rw[PL (by lia) h1,e],by lia,h1,by lia⟩
  ·rw[bq h1] at h;cases h
theorem zbL {α:Type}{xs:List α}{i:Int}{v:α}(h:atI xs i=some v):∃j,seqIndex? i xs.length=some j/\xs[j]?=some v/\j<xs.length/\-(xs.length:Int)<=i/\i<xs.length:=by
 unfold atI at h;cases e:ixN xs.length i with
 | none=>rw[e] at h;cases h
 | some j =>
  rw[e] at h;obtain⟨h1,h2,h3,h4⟩:=ziu e;exact⟨j,h1,h,h2,h3,h4⟩
theorem Q8 {α:Type}{xs:List α}{j:Nat}{v:α}(h:xs[j]?=some v):atI xs (j:Int)=some v:=by
 have hj:j<xs.length:=(X2.mp h).1;have e:ixN xs.length (j:Int)=some j:=by
  unfold ixN;rw[bw (by lia),bw (by lia)];simp
 unfold atI;rw[e];exact h
def zmQ (b:Expr):Prop:=∀o i,Pf b false o i=operate [o,i] (OX o i)
def IxR (X:Cx)(r:R2):Prop :=
 ∀(value slice:Expr) (bQ:List (Addr×Obj)) (s:X8) (σ:St) (H:Hp) (x y:V) (v u:X9) (Q:VK),Inv X bQ σ H s->RelV x v->RelV y u->r x y H Q ->
  Pf slice false v u=operate [v,u] (OX v u)->W7 (Xf X.prog X.w) X.A (OJ value slice v u) (EP X bQ σ Q) X.xe s
def MtR (X:Cx)(id:String)(r:V->List V->Hp->VK->Prop):Prop :=
 ∀(bQ:List (Addr×Obj)) (s:X8) (σ:St) (H:Hp) (x:V) (xs:List V) (v:X9) (us:List X9) (Q:VK),Inv X bQ σ H s->RelV x v->Vals xs us->r x xs H Q ->
  W7 (Xf X.prog X.w) X.A (call (.builtin id) (v::us)) (EP X bQ σ Q) X.xe s
section
variable {X:Cx}{a b:Expr}{ta tb:TE}{pos:Pos}
theorem qq {r:R2}(hr:IxR X r)(ha:PE X a ta)(hb:PE X b tb)(hs:zmQ b):PE X (.Subscript a b pos) (tOp r ta tb):=by
 intro bQ s σ H Q I h;exact Subscript_ (zoK ha hb I h fun v u s2 x y H2 I2 rx ry q=>hr a b bQ s2 σ H2 x y v u Q I2 rx ry q (hs _ _))
def zqk (K:X0):R2:=fun x y H Q=>∃p xs i v,x=.ref p/\y=.int i/\SqL K H p xs/\atI xs i=some v/\Q v H
def zrk (K:X0):R2:=fun x y H Q=>∃p xs i v,x=.ref p/\y=.int i/\SqT K H p xs/\atI xs i=some v/\Q v H
def zrl:R2:=fun x y H Q=>∃z i c,x=.str z/\y=.int i/\z.length<=Xv/\atI z.cps.toList i=some c/\Q (.str ⟨#[c]⟩) H
theorem ziv:IxR X (zqk X.K):=by
 intro value slice bQ s σ H x y v u Q I rx ry h hs;obtain⟨p,xs,i,z,rfl,rfl,hq,he,q⟩:=h;cases rx;obtain⟨t,rfl⟩:=ry;obtain⟨its,r,pl,hz⟩:=I.list hq;obtain⟨j,h1,h2,h3,h4,h5⟩:=zbL he;obtain⟨w,ew,rw'⟩:=r.get h2;have hl:=r.length;have hn:=Yp;have fin:EP X bQ σ Q w s:=⟨z,H,I,rw',q⟩;by_cases h0:0<=i
 ·have hj:i.toNat=j:=by
   rw[Pg h0 h5] at h1;exact Option.some.inj h1
  exact item_listR pl.isList h0 (by lia) (by rw[hj];simpa using ew) fin hs
 ·have hj:(i+(its.toArray.size:Int)).toNat=j:=by
   rw[PL (by lia) h4] at h1;rw[Xn,<- hl];exact Option.some.inj h1
  exact PJ (x:=w) pl.isList.typeIs slot_list_getitem.lookup
   (PH (Q:=fun r s'=>r=w/\EP X bQ σ Q r s') pl.isList (by lia) (by rw[Xn]<;>lia) (by lia) (by rw[hj];simpa using ew) ⟨rfl,fin⟩) hs
theorem zb2:IxR X (zrk X.K):=by
 intro value slice bQ s σ H x y v u Q I rx ry h hs;obtain⟨p,xs,i,z,rfl,rfl,hq,he,q⟩:=h;cases rx;obtain⟨t,rfl⟩:=ry;obtain⟨its,r,pl,hz⟩:=I.tuple hq;obtain⟨j,h1,h2,h3,h4,h5⟩:=zbL he;obtain⟨w,ew,rw'⟩:=r.get h2;have hl:=r.length;have hn:=Yp;have fin:EP X bQ σ Q w s:=⟨z,H,I,rw',q⟩;exact PJ (x:=w) pl.typeIs slot_tuple_getitem.lookup
  (getItem_tuple (j:=j) (Q:=fun r s'=>r=w/\EP X bQ σ Q r s') pl (by lia) (by lia) (by rw[Xn,<- hl];exact h1) (by simpa using ew) ⟨rfl,fin⟩) hs
theorem zoV:IxR X zrl:=by
 intro value slice bQ s σ H x y v u Q I rx ry h hs;obtain⟨z,i,c,rfl,rfl,hz,he,q⟩:=h;obtain⟨t,rfl⟩:=rx;obtain⟨t',rfl⟩:=ry;obtain⟨j,h1,h2,h3,h4,h5⟩:=zbL he;have hl:z.cps.toList.length=z.length:=by simp[Str.length]
 rw[hl] at h1 h4 h5;have hn:=Yp;exact tail_any (typeIs_str s z t) slot_str_getitem.lookup (getItem_str (c:=c) (by
  have e1:decide (i < -(2^63:Int))=false:=bg (by lia);have e2:decide (i >= 2^63)=false:=bg (by lia);rw[e1,e2,Bool.or_false]) (by rw[h1];simpa using h2) ⟨.str ⟨#[c]⟩,H,I.tok _,⟨_,rfl⟩,q⟩) hs
theorem zha (its:List X9)(n j:Nat)(u:X9):Va (·.setIfInBounds j u) { cls:=.type "list",data:=.seq its.toArray n }={ cls:=.type "list",data:=.seq (its.set j u).toArray n }:=by
 simp[Va]
theorem Inv.lst {bQ:List (Addr×Obj)}{σ:St}{H:Hp}{s:X8}{p:Addr}{xs:List V}(I:Inv X bQ σ H s)(h:H p=some (.lst xs)) :
  ∃(its:List X9) (n:Nat),Vals xs its/\s.heap.get? p=some { cls:=.type "list",data:=.seq its.toArray n }/\xs.length<=Xv:=by
 obtain⟨z,its,n,r,e⟩:=I.hok p _ h;exact⟨its,n,r,e,z⟩
theorem Inv.lstUpd {bQ:List (Addr×Obj)}{σ:St}{H:Hp}{s:X8}{p:Addr}{xs ys:List V}{its its':List X9}{n n':Nat}{f:Obj->Obj}(I:Inv X bQ σ H s)(h:H p=some (.lst xs))
  (ho:s.heap.get? p=some { cls:=.type "list",data:=.seq its.toArray n }) (hf:f { cls:=.type "list",data:=.seq its.toArray n }={ cls:=.type "list",data:=.seq its'.toArray n' }) (r:Vals ys its') (hz:ys.length<=Xv) (t:Nat) :
  Inv X bQ σ (upd H p (.lst ys)) { s with heap:=s.heap.update p f,toks:=t }:=by
 have e:(s.heap.update p f).get? p=some { cls:=.type "list",data:=.seq its'.toArray n' }:=by
  rw[VJ f ho (by rw[hf]<;>rfl),hf]
 refine I.write (x:=p) (e:=p) (by rw[h];trivial) (.inl rfl) (fun b u hb q=>(Ui _ _ (Vs hb)).trans q) ⟨_,e⟩ ?_;exact⟨hz,its',n',r,e⟩
def zql:V->V->V->Hp->(Hp->Prop)->Prop:=fun o i v H Q=>∃p xs k j,o=.ref p/\i=.int k/\H p=some (.lst xs)/\ixN xs.length k=some j/\Q (upd H p (.lst (xs.set j v)))
theorem set_list:zoH X zql:=by
 intro bQ s σ H o i v ov iv u Q I ro ri rv h;obtain⟨p,xs,k,j,rfl,rfl,hp,hj,q⟩:=h;cases ro;obtain⟨t,rfl⟩:=ri;obtain⟨its,n,r,ho,hz⟩:=I.lst hp;obtain⟨h1,h2,h3,h4⟩:=ziu hj;have hl:=r.length;have hn:=Yp;have I':Inv X bQ σ (upd H p (.lst (xs.set j v))) { s with heap:=s.heap.update p (Va (·.setIfInBounds j u)) } :=
  I.lstUpd hp ho (zha its n j u) (r.set rv j) (by rw[R4];exact hz) s.toks
 by_cases h0:0<=k
 ·have hk:k.toNat=j:=by
   rw[Pg h0 h4] at h1;exact Option.some.inj h1
  exact PySem.W.ki_setAt ho h0 (by lia) (by rw[Xn,<- hl];exact h4) (by rw[hk];exact⟨_,I',q⟩)
 ·have hk:(k+(its.toArray.size:Int)).toNat=j:=by
   rw[PL (by lia) h3] at h1;rw[Xn,<- hl];exact Option.some.inj h1
  exact PySem.W.ki_setBack ho (by lia) (by rw[Xn,<- hl];exact h3) (by lia) (by rw[hk];exact⟨_,I',q⟩)
theorem zeG (lo hi:Option Int)(n:Nat):(S9 lo hi none n).1=((HT.sIx n 0 lo:Nat):Int)/\(S9 lo hi none n).2.1=((HT.sIx n n hi:Nat):Int)/\(S9 lo hi none n).2.2=1:=by
 refine⟨?_,?_,rfl⟩
 ·cases lo with
  | none=>simp[S9,HT.sIx]
  | some i =>
   simp only[S9,HT.sIx,Option.getD_none,show (1:Int)>0 by decide,if_true];by_cases h:i<0
   ·simp only[h,if_true]<;>lia
   ·simp only[h,if_false]<;>lia
 ·cases hi with
  | none=>simp[S9,HT.sIx]
  | some i =>
   simp only[S9,HT.sIx,Option.getD_none,show (1:Int)>0 by decide,if_true];by_cases h:i<0
   ·simp only[h,if_true]<;>lia
   ·simp only[h,if_false]<;>lia
theorem zde (its:List X9)(lo hi:Option Int):slicePick its.toArray lo hi none=((its.drop (HT.sIx its.length 0 lo)).take (HT.sIx its.length its.length hi-HT.sIx its.length 0 lo)).toArray:=by
 obtain⟨h1,h2,h3⟩:=zeG lo hi its.toArray.size;unfold slicePick;rw[h1,h2,h3];simp only[sliceRange_one,pick_run,Xn]<;>rfl
def zqm (K:X0):V->Option Int->Option Int->Hp->VK->Prop:=fun x lo hi H Q=>∃a xs,x=.ref a/\SqL K H a xs/\∀p,H p=none->Q (.ref p) (upd H p (.lst (zbv xs lo hi)))
theorem ziw:SlR X (zqm X.K):=by
 intro bQ s σ H x v vl vu lo hi sl Q I rx hs pl pu h;obtain⟨a,xs,rfl,hx,q⟩:=h;cases rx;obtain⟨its,r,ht,hz⟩:=I.list hx;have hlen:=r.length;refine⟨"list",_,slot_list_getitem.lookup,ht.isList.typeIs,?_⟩;refine wpAny_getItem_list_slice ht.isList hs pl pu .none (by simp) ?_ (by rw[Xn]<;>lia);rw[zde,<- hlen];refine⟨.ref s.heap.objs.size,_,I.laid (t':=s.toks) (o:=.lst (zbv xs lo hi)) (fun b ob q=>X7 _ q) (XW _) ?_,rfl,q _ (I.hok.fresh (XW _))⟩;exact⟨X4 (zfE xs lo hi) hz,_,0,(r.drop (HT.sIx xs.length 0 lo)).take (HT.sIx xs.length xs.length hi-HT.sIx xs.length 0 lo),Xd _ rfl⟩
def Q9:V->Bool
 | .non=>true
 | .bl _=>true
 | .int _=>true
 | .str _=>true
 | _=>false
def eqV:V->V->Bool
 | .non,.non=>true
 | .bl a,.bl b=>a==b
 | .bl a,.int b=>(if a then 1 else 0)==b
 | .int a,.bl b=>a==(if b then 1 else 0)
 | .int a,.int b=>a==b
 | .str a,.str b=>a==b
 | _,_=>false
theorem zoW {A:WL}{s:X8}{y x:V}{u v:X9}(ry:RelV y u)(rx:RelV x v)(fy:Q9 y=true)(fx:Q9 x=true):SeqAt.EqAt A s u v (eqV y x):=by
 cases y with
 | non =>
  cases ry;cases x with
  | non=>cases rx;exact SeqAt.EqAt.same _
  | bl b=>cases rx;exact SeqAt.EqAt.none_bool b
  | int b=>obtain⟨t,rfl⟩:=rx;exact SeqAt.EqAt.none_int b t
  | str b=>obtain⟨t,rfl⟩:=rx;exact SeqAt.EqAt.none_str b t
  | _=>exact absurd (show false=true from fx) XV
 | bl a =>
  cases ry;cases x with
  | non=>cases rx;exact SeqAt.EqAt.bool_none a
  | bl b=>cases rx;exact SeqAt.EqAt.bool_bool a b
  | int b=>obtain⟨t,rfl⟩:=rx;exact SeqAt.EqAt.bool_int a b t
  | str b=>obtain⟨t,rfl⟩:=rx;exact SeqAt.EqAt.bool_str a b t
  | _=>exact absurd (show false=true from fx) XV
 | int a =>
  obtain⟨t',rfl⟩:=ry;cases x with
  | non=>cases rx;exact SeqAt.EqAt.int_none a t'
  | bl b=>cases rx;exact SeqAt.EqAt.int_bool a t' b
  | int b=>obtain⟨t,rfl⟩:=rx;exact SeqAt.EqAt.int_int a t' b t
  | str b=>obtain⟨t,rfl⟩:=rx;exact SeqAt.EqAt.int_str a t' b t
  | _=>exact absurd (show false=true from fx) XV
 | str a =>
  obtain⟨t',rfl⟩:=ry;cases x with
  | non=>cases rx;exact SeqAt.EqAt.str_none a t'
  | bl b=>cases rx;exact SeqAt.EqAt.str_bool a t' b
  | int b=>obtain⟨t,rfl⟩:=rx;exact SeqAt.EqAt.str_int a t' b t
  | str b=>obtain⟨t,rfl⟩:=rx;exact SeqAt.EqAt.str_str a t' b t
  | _=>exact absurd (show false=true from fx) XV
 | _=>exact absurd (show false=true from fy) XV
def eqU (x:V)(u:X9):Bool:=match u with
 | .none=>eqV .non x
 | .bool b=>eqV (.bl b) x
 | .int i _=>eqV (.int i) x
 | .str z _=>eqV (.str z) x
 | _=>false
theorem zky {x y:V}{u:X9}(r:RelV y u)(f:Q9 y=true):eqU x u=eqV y x:=by
 cases y with
 | non=>cases r;rfl
 | bl b=>cases r;rfl
 | int i=>obtain⟨t,rfl⟩:=r;rfl
 | str z=>obtain⟨t,rfl⟩:=r;rfl
 | _=>exact absurd (show false=true from f) XV
theorem zeH {x:V}:∀{xs:List V} {us:List X9},Vals xs us->xs.all Q9=true->us.any (eqU x)=xs.any fun y=>eqV y x
 | _,_,.nil,_=>rfl
 | y::xs,u::us,.cons r t,f=>by
  rw[Rq,V6] at f;rw[Ud,Ud,zky r f.1,zeH t f.2]
theorem zb3 {A:WL}{s:X8}{x:V}{v:X9}(rx:RelV x v)(fx:Q9 x=true):∀{xs:List V} {us:List X9},Vals xs us->xs.all Q9=true->∀u∈us,SeqAt.EqAt A s u v (eqU x u)
 | _,_,.nil,_=>fun u hu=>by cases hu
 | y::xs,u::us,.cons r t,f=>fun u' hu=>by
  rw[Rq,V6] at f;rcases Xz.mp hu with rfl | hu
  ·rw[zky r f.1];exact zoW r rx f.1 fx
  ·exact zb3 rx fx t f.2 u' hu
def inV (x:V)(xs:List V):Bool:=xs.any fun y=>eqV y x
def rIn (K:X0)(neg:Bool):R2:=fun x y H Q=>∃p xs,y=.ref p/\(SqL K H p xs\/SqT K H p xs)/\Q9 x=true/\xs.all Q9=true/\Q (.bl (if neg then !inV x xs else inV x xs)) H
theorem zju:OpR X (Wf .In) (rIn X.K false):=by
 intro bQ s σ H x y v u Q I rx ry h;obtain⟨p,xs,rfl,hq,fx,fs,q⟩:=h;cases ry;rcases hq with hq | hq
 ·obtain⟨its,r,pl,hz⟩:=I.list hq;refine SeqAt.in_listAt (eqU x) pl.isList (fun w hw=>zb3 rx fx r fs w (by simpa using hw)) ⟨.bl _,H,I,rfl,?_⟩;rw[show its.toArray.any (eqU x)=its.any (eqU x) by simp,zeH r fs];exact q
 ·obtain⟨its,r,pl,hz⟩:=I.tuple hq;refine SeqAt.in_tupleAt (eqU x) pl (fun w hw=>zb3 rx fx r fs w (by simpa using hw)) ⟨.bl _,H,I,rfl,?_⟩;rw[show its.toArray.any (eqU x)=its.any (eqU x) by simp,zeH r fs];exact q
theorem zaa:OpR X (Wf .NotIn) (fun x y H Q=>∃i j,x=.str i/\y=.str j/\Q (.bl (!(!(Vc j i 0 j.length 1).isEmpty))) H):=by
 intro bQ s σ H x y v u Q I rx ry h;obtain⟨i,j,rfl,rfl,q⟩:=h;obtain⟨t,rfl⟩:=rx;obtain⟨t',rfl⟩:=ry;exact notIn_str ⟨.bl _,H,I,rfl,q⟩
theorem Jd:jM X (.builtin "len") (fun xs H Q=>∃p ys,xs=[.ref p]/\(SqL X.K H p ys\/SqT X.K H p ys)/\Q (.int ys.length) H):=by
 intro bQ s σ H xs us Q I r h;obtain⟨p,ys,rfl,hq,q⟩:=h;obtain⟨u,rfl,rx⟩:=vals1 r;cases rx;have hn:=Yp;rcases hq with hq | hq
 ·obtain⟨its,r',pl,hz⟩:=I.list hq;have hlen:=r'.length;exact Calls.call_len_list pl.isList (by simp only[Xn]<;>lia) ⟨.int ys.length,H,I.tok _,⟨s.toks+1,by rw[Xn,hlen]⟩,q⟩
 ·obtain⟨its,r',pl,hz⟩:=I.tuple hq;have hlen:=r'.length;exact len_tuple pl (by simp only[Xn]<;>lia) ⟨.int ys.length,H,I.tok _,⟨s.toks+1,by rw[Xn,hlen]⟩,q⟩
theorem yF:jM X (.builtin "len") (fun xs H Q=>∃z,xs=[.str z]/\z.length<=Xv/\Q (.int z.length) H):=by
 intro bQ s σ H xs us Q I r h;obtain⟨z,rfl,hz,q⟩:=h;obtain⟨u,rfl,t,rfl⟩:=vals1 r;have hn:=Yp;exact len_str (by lia) ⟨.int z.length,H,I.tok _,⟨_,rfl⟩,q⟩
theorem zab:jM X (.type "list") (fun xs H Q=>∃p ys,xs=[.ref p]/\(SqL X.K H p ys\/SqT X.K H p ys)/\∀l,H l=none->Q (.ref l) (upd H l (.lst ys))):=by
 intro bQ s σ H xs us Q I r h;obtain⟨p,ys,rfl,hq,q⟩:=h;obtain⟨u,rfl,rx⟩:=vals1 r;cases rx;have fin:∀(its:List X9),Vals ys its->ys.length<=Xv->∀(h':Heap) (c':Nat),(∀b o',s.heap.get? b=some o'->h'.get? b=some o') ->
   h'.get? s.heap.objs.size=some { cls:=.type "list",dict:=none,data:=.seq its.toArray c',slots:=#[] }->EP X bQ σ Q (.ref s.heap.objs.size) { s with heap:=h' }:=fun its r' hz h' c' kp e =>
  ⟨.ref s.heap.objs.size,_,I.laid (t':=s.toks) kp (XW _) (show qA X.prog X.w _ h' _ (.lst ys) from ⟨hz,its,c',r',e⟩),rfl,q _ (I.hok.fresh (XW _))⟩
 rcases hq with hq | hq
 ·obtain⟨its,r',pl,hz⟩:=I.list hq;have hlen:=r'.length;obtain⟨o,ho,hc,n,hd⟩:=pl.isList;exact call_list_seq p (.inl rfl) ho hc hd (fun h' c' kp e=>fin its r' hz h' c' kp e) (by simp only[Xn]<;>lia)
 ·obtain⟨its,r',pl,hz⟩:=I.tuple hq;have hlen:=r'.length;obtain⟨o,ho,hc,n,hd⟩:=pl;exact call_list_seq p (.inr rfl) ho hc hd (fun h' c' kp e=>fin its r' hz h' c' kp e) (by simp only[Xn]<;>lia)
def tyV (K:X0)(T:String)(x:V)(H:Hp):Prop:=match x with
 | .str _=>T="str"
 | .int _=>T="int"
 | .ref p=>(T="list"/\∃xs,SqL K H p xs)\/(T="tuple"/\∃o,K.lookup p=some o/\o.cls=.type "tuple"/\o.dict=none) \/
   (T="dict"/\((∃kvs,H p=some (.dK kvs))\/∃kvs,H p=some (.dT kvs)))\/(T="set"/\∃S n,H p=some (.set S n))
 | _=>False
theorem zkz {bQ:List (Addr×Obj)}{σ:St}{H:Hp}{s:X8}{T:String}{x:V}{v:X9}(I:Inv X bQ σ H s)(r:RelV x v)(ty:tyV X.K T x H) :
  s.TypeIs v T/\∀a,v=.ref a->∃ob,s.heap.get? a=some ob/\ob.dict=none:=by
 cases x with
 | str z =>
  obtain⟨t,rfl⟩:=r;cases (show T="str" from ty);exact⟨typeIs_str s z t,fun _ e=>nomatch e⟩
 | int i =>
  obtain⟨t,rfl⟩:=r;cases (show T="int" from ty);exact⟨typeIs_int s i t,fun _ e=>nomatch e⟩
 | ref p =>
  cases r;rcases ty with ⟨rfl,xs,hq⟩ | ⟨rfl,o,hk,hc,hd⟩ | ⟨rfl,hk⟩ | ⟨rfl,S,n,hk⟩
  ·obtain⟨its,_,pl,_⟩:=I.list hq;refine⟨pl.isList.typeIs,fun a e=>?_⟩;cases e;obtain⟨o,n,e,c,hd,_⟩:=pl;exact⟨o,e,hd⟩
  ·refine⟨⟨o,I.kIn p o hk,hc⟩,fun a e=>?_⟩;cases e;exact⟨o,I.kIn _ o hk,hd⟩
  ·have z:∃o,s.heap.get? p=some o/\o.ExactDict:=by
    rcases hk with ⟨kvs,hk⟩ | ⟨kvs,hk⟩
    ·obtain⟨_,_,_,_,o,_,_,e,ex,_⟩:=I.hok p _ hk;exact⟨o,e,ex⟩
    ·obtain⟨_,_,_,_,o,_,_,e,ex,_⟩:=I.hok p _ hk;exact⟨o,e,ex⟩
   obtain⟨o,e,ex⟩:=z;refine⟨⟨o,e,ex.1⟩,fun a e2=>?_⟩;cases e2;exact⟨o,e,ex.2.1⟩
  ·obtain⟨o,_,_,_,e,ex,_⟩:=I.hok p _ hk;refine⟨⟨o,e,ex.1⟩,fun a e2=>?_⟩;cases e2;exact⟨o,e,ex.2.1⟩
 | _=>exact Wi ty
def zrm (K:X0)(T:String)(r:V->List V->Hp->VK->Prop)(to:TE):TE:=fun σ H Q=>to σ H fun x H1=>tyV K T x H1/\r x [] H1 Q
def tBM (K:X0)(T:String)(r:V->List V->Hp->VK->Prop)(to:TE)(t:TA):TE:=fun σ H Q=>to σ H fun x H1=>tyV K T x H1/\t σ H1 fun xs H2=>r x xs H2 Q
variable {o e:Expr}{es:List Expr}{to:TE}{t:TA}{name:Str}{apos cpos:Pos}{T id:String}{r:V->List V->Hp->VK->Prop}
theorem zkA (pa:PlainAttrs T)(slot:Slot T name id)(hty:typeOf (.builtin id)=pure (.type "method_descriptor"))(hm:MtR X id r)(ho:PE X o to)
  (hbase:OI o name X.env (eval o X.env)=eval o X.env:=by rfl) (hline:(apos.endLine==cpos.line)=true:=by rfl):PE X (.Call (.Attribute o name apos) [] [] cpos) (zrm X.K T r to):=by
 intro bQ s σ H Q I h;refine wpAny_Call_method0_late hbase hline (thn (ho bQ s σ H _ I h) fun v s1 ⟨x,H1,I1,r1,ty,q1⟩=>?_);obtain⟨h1,h2⟩:=zkz I1 r1 ty;exact⟨T,id,pa,slot,hty,h1,h2,PF rfl (PySem.evalArgs_none (hm bQ s1 σ H1 x [] v [] Q I1 r1 .nil q1))⟩
theorem yG (pa:PlainAttrs T)(slot:Slot T name id)(hty:typeOf (.builtin id)=pure (.type "method_descriptor"))(hm:MtR X id r)(ho:PE X o to)(ha:PA X (e::es) t)
  (hbase:OI o name X.env (eval o X.env)=eval o X.env:=by rfl)
  (hfew:((S4 cpos (Wp (e::es) X.env)).all (fun x=>!x.1)&&(backToKw cpos (keywordEach [] X.env)).all (fun x=>x.1.isSome)
   && decide ((e::es).length+([]:List Oe).length+(if ([]:List Oe).isEmpty then 0 else 1)<30))=true:=by rfl)
  (hline:(apos.endLine==cpos.line)=true:=by rfl) (hs:Wp (e::es) X.env=(false,eval e X.env)::Wp es X.env:=by rfl) (hplain:(S4 cpos (Wp es X.env)).any (·.1)=false:=by rfl) :
  PE X (.Call (.Attribute o name apos) (e::es) [] cpos) (tBM X.K T r to t):=by
 intro bQ s σ H Q I h;refine wpAny_Call_method_late hbase hfew hline rfl (thn (ho bQ s σ H _ I h) fun v s1 ⟨x,H1,I1,r1,ty,q1⟩=>?_);obtain⟨h1,h2⟩:=zkz I1 r1 ty;refine⟨T,id,pa,slot,hty,h1,h2,?_⟩;have hA:=ha cpos bQ s1 σ H1 _ I1 q1;rw[hs] at hA ⊢;refine PF (by show (false || (S4 cpos (Wp es X.env)).any (·.1))=false;rw[hplain]<;>rfl) (O7 ?_);exact thn hA fun us s2 ⟨vs,H2,I2,r2,q2⟩=>hm bQ s2 σ H2 x vs v us Q I2 r1 r2 q2
/- xs.append(e),list.index on a module's tuple .. are MtR facts of 06m -/
end
def MtM (X:Cx)(id:String)(r:V->List V->Hp->VK->Prop):Prop :=
 ∀(bQ:List (Addr×Obj)) (s:X8) (σ:St) (H:Hp) (x:V) (xs:List V) (v:X9) (us:List X9) (Q:VK),Inv X bQ σ H s->RelV x v->Vals xs us->r x xs H Q ->
  W7 (Xf X.prog X.w) X.A (call (.builtin id) (v::us)) (EP X bQ σ Q) X.xe s
theorem Vals.one:∀{x:V} {us:List X9},Vals [x] us->∃u,us=[u]/\RelV x u
 | _,_,.cons r .nil=>⟨_,rfl,r⟩
theorem Vals.rep {xs:List V}{us:List X9}(h:Vals xs us):∀k:Nat,Vals (WN k xs).flatten (WN k us).flatten
 | 0=>.nil
 | k+1=>by
  rw[Vv,Vv,Wm,Wm];exact Vals.append h (Vals.rep h k)
theorem foldl_rep (its:List X9):∀(k:Nat) (acc:List X9),
  List.foldl (fun x1 x2=>x1++x2) acc.toArray (WN k its.toArray)=(acc++(WN k its).flatten).toArray
 | 0,acc=>by simp
 | k+1,acc=>by
  have e:acc.toArray++its.toArray=(acc++its).toArray:=by simp
  have e2:(acc++its)++(WN k its).flatten=acc++(WN (k+1) its).flatten:=by
   rw[Vv,Wm,WV]
  rw[<- e2,<- foldl_rep its k (acc++its),<- e,Vv,VF]
section
variable {X:Cx}{bQ:List (Addr×Obj)}{σ:St}{H:Hp}{s:X8}{l b:Addr}{xs ys zs:List V}
theorem Inv.lset {its its':List X9}{n:Nat}{f:Array X9->Array X9}{t':Nat}(I:Inv X bQ σ H s)(hH:H l=some (.lst xs))
  (e:s.heap.get? l=some { cls:=.type "list",data:=.seq its.toArray n }) (hf:f its.toArray=its'.toArray) (hv:Vals ys its') (hz:ys.length<=Xv) :
  Inv X bQ σ (upd H l (.lst ys)) { s with heap:=s.heap.update l (Va f),toks:=t' }:=by
 have q:=PySem.IsL.update e f;rw[hf] at q;refine I.write (x:=l) (e:=l) (by rw[hH];exact trivial) (.inl rfl) (fun b' u hb hu=>(Ui s.heap (Va f) (Vs hb)).trans hu) ⟨_,q⟩ ?_;exact⟨hz,its',_,hv,q⟩
theorem Inv.lnew {its:List X9}{t':Nat}(I:Inv X bQ σ H s)(hv:Vals ys its)(hz:ys.length<=Xv) :
  Inv X bQ σ (upd H s.heap.objs.size (.lst ys)) { s with heap:=s.heap.push { cls:=.type "list",data:=.seq its.toArray },toks:=t' } :=
 I.laid (fun _ _ q=>X7 _ q) (XW _) ⟨hz,its,0,hv,Xd _ rfl⟩
theorem Inv.fresh (I:Inv X bQ σ H s):H s.heap.objs.size=none:=I.hok.fresh (XW _)
theorem Inv.lstM (I:Inv X bQ σ H s)(hH:H l=some (.lst xs)):xs.length<=Xv/\∃(its:List X9) (n:Nat),Vals xs its/\xs.length=its.length/\s.heap.get? l=some { cls:=.type "list",data:=.seq its.toArray n }:=by
 obtain⟨z,its,n,r,e⟩:=I.hok l _ hH;exact⟨z,its,n,r,r.length,e⟩
theorem zfF {n:Nat}(h:n<=Xv):UG n=false:=by
 unfold UG;exact bg (by lia)
end
section
variable {X:Cx}
def zmR:V->List V->Hp->VK->Prop:=fun x vs H Q=>∃l xs y,x=.ref l/\vs=[y]/\H l=some (.lst xs)/\xs.length<Xv/\Q .non (upd H l (.lst (xs++[y])))
theorem Jm:MtM X "list.append" zmR:=by
 intro bQ s σ H x vs v us Q I rx rv h;obtain⟨l,xs,y,rfl,rfl,hH,hz,q⟩:=h;cases rx;obtain⟨u,rfl,ru⟩:=rv.one;obtain⟨z,its,n,r,hl,e⟩:=I.lstM hH;refine Th F.slot_list_append ⟨_,e,rfl⟩ F.entry_list_append (F.args_list_append_2 _ _) (PySem.list_append l its.toArray n u (by rw[Xn];lia)) ⟨e,?_⟩;refine⟨.non,_,I.lset (its':=its++[u]) hH e (by simp) (r.append (.cons ru .nil)) ?_,rfl,q⟩;rw[X5,Po];lia
def zmS:V->List V->Hp->VK->Prop:=fun x vs H Q=>∃l b xs zs,x=.ref l/\vs=[.ref b]/\H l=some (.lst xs)/\H b=some (.lst zs)/\xs.length+zs.length<=Xv/\Q .non (upd H l (.lst (xs++zs)))
theorem zdH:MtM X "list.extend" zmS:=by
 intro bQ s σ H x vs v us Q I rx rv h;obtain⟨l,b,xs,zs,rfl,rfl,hH,hB,hz,q⟩:=h;cases rx;obtain⟨u,rfl,ru⟩:=rv.one;cases ru;obtain⟨z,its,n,r,hl,e⟩:=I.lstM hH;obtain⟨z2,its2,n2,r2,hl2,e2⟩:=I.lstM hB;have hsz:its.toArray.size+its2.toArray.size<=Xv:=by rw[Xn,Xn];lia
 have hlong:¬ (!its.toArray.isEmpty&&UG (its.toArray.size+its2.toArray.size))=true:=by
  rw[zfF hsz,Bool.and_false];exact XV
 refine Th F.slot_list_extend ⟨_,e,rfl⟩ F.entry_list_extend (F.args_list_extend_2 _ _)
  (AutoSeq1.list_extend_list_list_0 l its.toArray n b its2.toArray n2 hlong (by rw[Xn];lia) (by lia)) ⟨e,e2,?_⟩
 refine⟨.non,_,I.lset (its':=its++its2) hH e (by simp) (r.append r2) ?_,rfl,q⟩;rw[X5];lia
def zrn:R2:=fun x y H Q=>∃l b xs zs,x=.ref l/\y=.ref b/\H l=some (.lst xs)/\H b=some (.lst zs)/\xs.length+zs.length<=Xv/\∀p,H p=none->Q (.ref p) (upd H p (.lst (xs++zs)))
theorem J5:OpR X (Uh .Add) zrn:=by
 intro bQ s σ H x y v u Q I rx ry h;obtain⟨l,b,xs,zs,rfl,rfl,hH,hB,hz,q⟩:=h;cases rx;cases ry;obtain⟨z,its,n,r,hl,e⟩:=I.lstM hH;obtain⟨z2,its2,n2,r2,hl2,e2⟩:=I.lstM hB;refine PySem.P.add_list e e2 ?_ (by rw[Xn,Xn];lia);have ea:its.toArray++its2.toArray=(its++its2).toArray:=by simp
 rw[ea];exact⟨.ref _,_,I.lnew (t':=s.toks) (r.append r2) (by rw[X5];lia),rfl,q _ I.fresh⟩
def zro:R2:=fun x y H Q=>∃l k xs,x=.ref l/\y=.int k/\H l=some (.lst xs)/\-(2^63)<=k/\k<2^63/\xs.length*k.toNat<=Xv /\
 ∀p,H p=none->Q (.ref p) (upd H p (.lst (WN k.toNat xs).flatten))
theorem len_rep {α:Type}(xs:List α)(k:Nat):(WN k xs).flatten.length=k*xs.length:=by
 induction k with
 | zero=>simp
 | succ k ih=>rw[Vv,Wm,X5,ih,RU,TR]
theorem zhb:OpR X (Uh .Mult) zro:=by
 intro bQ s σ H x y v u Q I rx ry h;obtain⟨l,k,xs,rfl,rfl,hH,h1,h2,hz,q⟩:=h;cases rx;obtain⟨t,rfl⟩:=ry;obtain⟨z,its,n,r,hl,e⟩:=I.lstM hH;have hlen:its.toArray.size*k.toNat<=Xv:=by rw[Xn,<- hl];exact hz
 have hcap:¬ its.toArray.size*k.toNat>(2^63-1)/8:=by
  have:(Xv:Nat)<=(2^63-1)/8:=by decide
  lia
 have hfit:¬ (!Builtin.List.listFitsIndex k)=true:=by
  rw[fitsIndex_both h1 h2];exact XV
 have hlong:¬ UG (its.toArray.size*k.toNat)=true:=by
  rw[zfF hlen];exact XV
 have hnew:List.foldl (fun x1 x2=>x1++x2) #[] (WN (if its.toArray.isEmpty=true then 0 else k.toNat) its.toArray)=(WN k.toNat its).flatten.toArray:=by
  have f0:∀m:Nat,List.foldl (fun x1 x2=>x1++x2) #[] (WN m its.toArray)=(WN m its).flatten.toArray:=fun m=>by
   have:=foldl_rep its m [];rw[Pu] at this;exact this
  rw[f0];cases its with
  | nil=>simp
  | cons a r'=>rw[bq (by simp)]
 refine wpAny_binaryOp_repeat_ref (T:="list") (U:="int") (by decide) ⟨_,e,rfl⟩ (fun s'=>typeIs_int s' k t) noFill_list_mul F.fills_int_mul F.slot_int_rmul repeat_list F.slot_int_index.lookup
  (Th F.slot_int_rmul (typeIs_int s k t) F.entry_int_rmul (F.args_int_rmul_2 _ _) (int___rmul___int_list k t l its.toArray n)
   ⟨e,rfl,⟨_,e,rfl⟩,Th F.slot_list_mul ⟨_,e,rfl⟩ F.entry_list_mul (F.args_list_mul_2 _ _) (AutoListH.list___mul___list_int_3 l its.toArray n k t hfit hcap hlong) ⟨e,?_⟩⟩)
 rw[hnew];exact⟨.ref _,_,I.lnew (t':=s.toks) (r.rep k.toNat) (by rw[len_rep,SX];exact hz),rfl,q _ I.fresh⟩
end
end L2
namespace Att
open PySem PySem.W PySem.Calls PyProof.Rows
theorem zbw {P:Params}{h:Heap}:∀(ns:List Int) (vs:List X9),WellAll P h vs (ns.map WData.int)->OW vs ns:=by
 intro ns;induction ns with
 | nil =>
  intro vs w;rw[RT] at w;cases w;exact .nil
 | cons n ns ih =>
  intro vs w;rw[W9] at w;cases w with
  | cons a b =>
   cases a;exact .cons _ _ (ih _ b)
theorem zjv {l:OpenLaw}{n:Nat}(hn:l.most=some n){P:Params}{h:Heap}{args:List WData}{vals:List X9}
  (hpre:l.row.toRowW.claim.pre args=true) (hwl:WellAll P h vals args) :
  ∃a vs ns,vals=[Wz a]/\args=[WData.list (ns.map WData.int)]/\h.get? a=some { cls:=.type "list",data:=.seq vs.toArray }/\OW vs ns/\ns.length<=n:=by
 have hsh:WShape.hasAll [] args [.list .int]=true:=(pre_splitW hpre).1;have hc:l.pre.holds [] { args:=args }=true:=(pre_splitW hpre).2;obtain⟨d,r,rfl,h1,h2⟩:=hasAllW_cons hsh;obtain rfl:=hasAllW_nil h2;obtain⟨xs,rfl,h3⟩:=hasW_list h1;obtain⟨ns,rfl⟩:=items_int h3;have hlen:ns.length<=n:=by
  unfold OpenLaw.pre at hc;have h4:(WTm.not (.lt (.lit (.int (n:Int))) (.len (.arg 0)))).holds [] { args:=[.list (ns.map .int)] }=true:=by
   have h4:=(holds_andW hc).1;rw[hn] at h4;exact h4
  have h5:=condW_of h4 (w_not (w_lt w_lit (w_len_list (w_arg rfl))));rw[ZB] at h5;refine Nat.le_of_not_lt fun q=>?_;have q':(n:Int)<((ns.length:Nat):Int):=by lia
  first
   | (rw[br q'] at h5;exact absurd h5 (by decide))
   | (simp at h5;lia)
 cases hwl with
 | cons w1 w2 =>
  cases w2;cases w1 with
  | list ho hall=>exact⟨_,_,ns,rfl,rfl,ho,zbw ns _ hall,hlen⟩
theorem zjw (l:OpenLaw)(args:List WData):l.row.toRowW.claim.post args (.bool true) args=true :=
 postW_of (r:=l.row.toRowW) (X:=(true==true))
  (show WShape.has [] (.bool true) .bool=true by first | rfl | decide | simp[WShape.has,WShape.arms,WShape.armsAll])
  (show (WTm.eq .res (.lit (.bool true))).value [] { args:=args,res:=some (.bool true),after:=args }=some (.bool (true==true)) from w_eq_bool (w_res rfl) w_lit) rfl
theorem zfG {l:OpenLaw}{n:Nat}{q:Xi}{loose:List Str}{XP:(Str->Option X9)->Heap->Prop}{YP:WS->Heap->Prop}{d:DefRec}
  (hn:l.most=some n) (hdf:d.params.defaults=[])
  (call:∀(w:WS) (s₀ s₁:X8) (mg mb:Str->Option X9) (fa:Addr) (o:Obj) (pm cd doc:X9) (a:Addr) (vs:List X9) (ns:List Int),
   Ground q loose [] XP w s₀ mg mb s₁.heap->YP w s₁.heap ->
   s₁.heap.get? fa=some o->o.data=.func (docDef d.name d.params d.body d.scope pm cd doc)->s₁.heap.CodeRec cd d.name->mg d.name=some (.ref fa) ->
   s₁.heap.get? a=some { cls:=.type "list",data:=.seq vs.toArray }->OW vs ns->ns.length<=n->s₁.gens=#[] ->
   TV (Xf l.prog w) OV (.call (.ref fa) ⟨[.ref a],[]⟩) (fun r s'=>r=.ok (.ret (.bool true))/\OldK s₁.heap s'.heap/\s'.os=s₁.os/\Sf s'.gens) s₁) :
  WalkO q loose XP YP l.row.toRowW d [] (fun f vs=>PySem.call f vs):=by
 intro w s₀ s₁ mg mb G Y fa o pm cd doc dV kV ho hd hcd hD hmg hg args vals as hpre hlay hrd hwl hlo;obtain rfl:dV=.none:=Dflts.none hD hdf;obtain rfl:kV=.none:=Dflts.noKw hD;obtain⟨a,vs,ns,rfl,rfl,hobj,hints,hlen⟩:=zjv hn hpre hwl;refine enter_call (SY (call w s₀ s₁ mg mb fa o pm cd doc a vs ns G Y ho (fd_plain hd) hcd hmg hobj hints hlen hg) fun r s' hq=>?_);obtain⟨rfl,h2,h3,h4⟩:=hq;exact⟨.inl ⟨.bool true,.bool true,[],rfl,fun _=>rfl,.bool true,zjw l _,fun _=>⟨List.Pairwise.nil,fun _ hm=>(nomatch hm)⟩⟩,h2,h3,h4⟩
end Att
namespace L2
open PySem PySem.Spec PyProof.Rows
theorem zdI:∀{vs:List X9} {ns:List Int},OW vs ns->Vals (ns.map V.int) vs
 | _,_,.nil=>.nil
 | _,_,.cons n t h=>.cons ⟨t,rfl⟩ (zdI h)
def zoX (H:Hp):Prop:=∀b,H b=none\/∃o xs,H b=some (.frz o (.lst xs))
theorem zkB {P:Xi}{w:WS}{K:X0}{mg mb:Str->Option X9}{CX:CXT}{k:Nat}{fa a:Addr}{fd:Xp}{x:Str}{sp:Sp}{s₁:X8}{vs:List X9}{ns:List Int}
  (KX:K.In s₁.heap) (hns:s₁.heap.Ns XQ mg) (hb:s₁.heap.Ns Oz mb) (hbb:∀x:Str,x ≠ "__name__"->mb x=TU x) (hlim:s₁.heap.NoLimit) (hg:s₁.gens=#[])
  (ha:s₁.heap.get? a=some { cls:=.type "list",data:=.seq vs.toArray }) (hi:OW vs ns) (hl:ns.length<=Xv) (hr:J4 k OV)
  (F:∀base:Heap,K.In base->base.Ns XQ mg->zY P w K mg base CX k fa fd [x] sp) (hbind:∀(s:X8) (u:X9),Ou s fd ⟨[u],[]⟩ [(x,u)])
  (hsp:∀H:Hp,zoX H->SqL K H a (ns.map V.int)->sp [.ref a] H (fun v _=>v=.bl true) fun _ _ _=>False)
  (hCX:∀H e s',CX [] H s₁ (fun _ _ _=>False) e s'->False) :
  TV (Xf P w) OV (.call (.ref fa) ⟨[.ref a],[]⟩) (fun r s'=>r=.ok (.ret (.bool true))/\OldK s₁.heap s'.heap/\s'.os=s₁.os/\Sf s'.gens) s₁:=by
 have rv:=zdI hi;have lenV:=hi.length;have core:∀H:Hp,zoX H->SqL K H a (ns.map V.int)->HOk P w H s₁.heap->(∀b,H b≠none->b=a)->(H a≠none->K.lookup a=none) ->
   TV (Xf P w) OV (.call (.ref fa) ⟨[.ref a],[]⟩) (fun r s'=>r=.ok (.ret (.bool true))/\OldK s₁.heap s'.heap/\s'.os=s₁.os/\Sf s'.gens) s₁:=by
  intro H hO hS hok hA hK;have base_of:∀{b:Addr} {o:Obj},s₁.heap.get? b=some o->H b=none->(zeD s₁.heap H).get? b=some o:=fun e n=>zkq e n;have noA:∀{b:Addr} {o:Obj} {es:Array Oi} {ep:Nat},s₁.heap.get? b=some o->o.data=.dict es ep->H b=none:=fun {b o es ep} e d=>by
   cases q:H b with
   | none=>rfl
   | some u =>
    have e':b=a:=hA b (by rw[q];simp);subst e';rw[ha] at e;cases e;have d':Data.seq vs.toArray _=Data.dict es ep:=d;cases d'
  have nsK:∀{b:Addr} {m:Str->Option X9},s₁.heap.Ns b m->(zeD s₁.heap H).Ns b m:=fun {b m} ⟨o,es,ep,e,d,r⟩=>⟨o,es,ep,base_of e (noA e d),d,r⟩;have hKb:K.In (zeD s₁.heap H):=fun b o e=>base_of (KX b o e) (by
   cases q:H b with
   | none=>rfl
   | some u =>
    have e':b=a:=hA b (by rw[q];simp);subst e';rw[hK (by rw[q];simp)] at e;cases e)
  have hM:Mod K mg (zeD s₁.heap H):=⟨hKb,nsK hns,⟨mb,nsK hb,hbb⟩,let ⟨mc,h1,h2⟩:=hlim;⟨mc,nsK h1,h2⟩⟩;have e0:zmO P w K mg (zeD s₁.heap H) OV [] s₁ H:=⟨rfl,hM,fun b o e=>zmL e,Nat.le_of_eq (zjn _ _),trivial,fun b hb=>absurd (show b∈([]:List Addr) from hb) (by simp),hok,.of_eq hg⟩;refine SY ((F _ hKb (nsK hns)).run OV [] s₁ H ⟨[.ref a],[]⟩ [.ref a] [.ref a] _ _ hr e0 (hbind s₁ (.ref a)) (.cons rfl .nil) (hsp H hO hS)) fun r s' h=>?_;cases r with
  | error e=>exact(hCX H e s' h).elim
  | ok fl =>
   cases fl with
   | next=>exact Wi h
   | brk=>exact Wi h
   | cont=>exact Wi h
   | ret u =>
    obtain⟨v,H',os,bare,un,hok',r',q⟩:=h;have q':v=.bl true:=q;subst q';obtain rfl:u=Tj true:=r';refine⟨rfl,OldK.of_keep fun b o e=>?_,os,bare⟩;cases q:H b with
    | none=>exact un.keep b o e q (by intro z;exact absurd (show b∈([]:List Addr) from z) (by simp)) (by simp)
    | some u =>
     rcases hO b with z | ⟨ob,xs,z⟩
     ·rw[q] at z;cases z
     ·have z2:=un.frzs b ob _ z;obtain⟨e1,_⟩:=hok b _ z;obtain⟨e2,_⟩:=hok' b _ z2;rw[e] at e1;cases e1;exact e2
 cases hk:K.lookup a with
 | some o =>
  have e:=KX a o hk;rw[ha] at e;cases e;refine core (fun _=>none) (fun _=>.inl rfl) (.inr ⟨_,vs.toArray,_,hk,rfl,rfl,rfl,by rw[Xn,lenV];exact hl,by simpa using rv⟩) (fun b u z=>by have z':(none:Option HO)=some u:=z;cases z') (fun b z=>absurd rfl z) fun z=>absurd rfl z
 | none =>
  refine core (fun b=>if b=a then some (.frz { cls:=.type "list",data:=.seq vs.toArray } (.lst (ns.map V.int))) else none) (fun b=>?_) (.inl (.inr ⟨{ cls:=.type "list",data:=.seq vs.toArray },bw rfl⟩)) (fun b u z=>?_) (fun b z=>?_) fun _=>hk
  ·by_cases hb:b=a
   ·exact .inr ⟨_,_,bw hb⟩
   ·exact .inl (bq hb)
  ·by_cases hb:b=a
   ·have z':=(bw hb).symm.trans z;cases z';subst hb;exact⟨ha,by rw[ZB];exact hl,vs,_,rv,ha⟩
   ·have z':=(bq hb).symm.trans z;cases z'
  ·by_cases hb:b=a
   ·exact hb
   ·exact absurd (bq hb) z
theorem zix {l:Ps}{n k:Nat}{q:Xi}{loose:List Str}{XP:(Str->Option X9)->Heap->Prop}{YP:WS->Heap->Prop}{d:DefRec}{K:Params->X0}{CX:WS->CXT}{sp:WS->Sp}{x:Str}
  (hn:l.most=some n) (hn2:n<=Xv) (hdf:d.params.defaults=[]) (hr:J4 k OV)
  (hY:∀(w:WS) (h:Heap),YP w h->(K w.params).In h)
  (F:∀(w:WS) (mg:Str->Option X9) (fa:Addr) (h:Heap),(K w.params).In h->h.Ns XQ mg->mg d.name=some (.ref fa) ->
   ∃fd:Xp,(∀(s:X8) (u:X9),Ou s fd ⟨[u],[]⟩ [(x,u)]) /\
    ∀base:Heap,(K w.params).In base->base.Ns XQ mg->zY l.prog w (K w.params) mg base (CX w) k fa fd [x] (sp w))
  (hsp:∀(w:WS) (H:Hp) (a:Addr) (ns:List Int),ns.length<=n->zoX H->SqL (K w.params) H a (ns.map V.int)->sp w [.ref a] H (fun v _=>v=.bl true) fun _ _ _=>False)
  (hCX:∀(w:WS) (H:Hp) (s:X8) (e:X9) (s':X8),CX w [] H s (fun _ _ _=>False) e s'->False) :
  OK q loose XP YP l.row.toRowW d [] (fun f vs=>PySem.call f vs):=by
 refine Att.zfG hn hdf fun w s₀ s₁ mg mb fa o pm cd doc a vs ns G Y ho hd hcd hmg hobj hints hlen hg=>?_;have KX:=hY w _ Y;obtain⟨fd,hb,hF⟩:=F w mg fa _ KX G.T.g hmg;exact zkB KX G.T.g G.T.b G.T.builtins G.T.nolimit hg hobj hints (X4 hlen hn2) hr hF hb (fun H hO hS=>hsp w H a ns hlen hO hS) fun H e s'=>hCX w H s₁ e s'
end L2
/- THE LAST THEOREM (shape;LID,My.* are yours):
   My.Adr: a structure of the addresses that your layer names (classes,functions);My.Txt K t: a structure (Prop) of the equations over K;
   My.txt_mk:{K} {implicit addresses ..} (e1:nsIn K XQ "law"=some (some (.ref f))) (e2:K.lookup f=some ⟨oc,od,.func (fnOf "law" "law" params body scope dV kV doc pm an cdv ct),sl⟩) (e3:codeIn K cdv "law"=true) ..:∃t,My.Txt K t
set_option maxRecDepth 100000 in
set_option maxHeartbeats 0 in
theorem PySem.Challenge.cw_LID_holds : PySem.Challenge.rw_LID.Holds := by
 w_on;o_law;k_head;(case hw=>w_witness2);k_fill;refine L2.zix (l:=PySem.Challenge.rw_LID) (n:=63) (k:=40) (x:="script") (CX:=fun w=>..) (sp:=fun _=>My.zrp) rfl (by decide) rfl ⟨rfl,by decide,by decide⟩ (fun w h Y=>PySem.W.kIn_of Y) ?F ?S ?C
 case F =>
  intro w mg fa h KX G hmg
  have T:∃t,My.Txt (L2.KOf KX) t:=by
   dsimp only[L2.KOf]                          -- K must stand as «<heap const> w.params» for k_is;refine' My.txt_mk ?e1 ?e2 ?e3 ..;(case e1=>PySem.W.k_is)                    -- in the order: a name->its address->its object->its parts;(case e2=>PySem.W.k_is);..
  obtain⟨t,T⟩:=T
  have e0:=hmg.symm.trans (Wc KX G T.law)
  cases e0                                       -- fa is the law's own address
  exact⟨_,fun s u=>.of_eq rfl,fun base kb nb=>My.law_fn T kb nb⟩     -- if «.of_eq rfl» comes too early: refine' ⟨_,?b,fun base kb nb=>My.law_fn T kb nb⟩;exact fun s u=>.of_eq rfl
 case S=>exact fun w H a ns hl hO hS=>..
 case C=>exact ..
(the tactic k_is has no namespace: write k_is) -/
namespace L2
open PySem PySem.Spec PyProof.Rows
def JK (s:Stmt):Arguments:=match s with
 | .FunctionDef _ a _ _ _ _ _ _ _ _=>a
 | _=>{ posonlyargs:=[],args:=[],vararg:=none,kwonlyargs:=[],kw_defaults:=[],kwarg:=none,defaults:=[] }
def yU (s:Stmt):List Stmt:=match s with
 | .FunctionDef _ _ b _ _ _ _ _ _ _=>b
 | _=>[]
def zj (s:Stmt):Uv:=match s with
 | .FunctionDef _ _ _ _ _ _ sc _ _ _=>sc
 | _=>{ kind:=.function,names:=[],isGenerator:=false,isCoroutine:=false }
abbrev CX0:CXT:=fun _ _ _ _ _ _=>False
abbrev E0:XK:=fun _ _ _=>False
theorem zqn {X:Cx}:Passes CX0 X E0:=fun _ _ _ _ _ _ _ h=>h.elim
structure Fun (K:X0)(x qual:Str)(st:Stmt)(f:Addr)(fd:Xp):Prop where
 ex:∃(oc:X9) (od:Option Addr) (kV doc pm:X9) (an:Option Addr) (cdv ct:X9) (osl:Array (Option X9)),
  fd=UO x qual (JK st) (yU st) (zj st) .none kV doc pm an cdv ct/\K.lookup f=some ⟨oc,od,.func fd,osl⟩/\SQ K cdv qual=true
 kp:T1 K (.ref f)=true
section
variable {P:Xi}{w:WS}{K:X0}{mg:Str->Option X9}{base:Heap}
theorem Fun.ok {x qual:Str}{st:Stmt}{f:Addr}{fd:Xp}{N ps:List Str}{k:Nat}{sp:Sp}(F:Fun K x qual st f fd)(S:zD N ps (zj st))(len:∀vs H Q E,sp vs H Q E->vs.length=ps.length)
  (hbody:∀(cdv:X9) (A:WL) (outer:List Env) (s:X8) (H:Hp) (vs:List V) (Q:VK) (E:XK),J4 k (A.deeper (PP qual (zj st) s.heap.objs.size f cdv))->sp vs H Q E ->
   ∃t,PSs (zfC CX0 P w K mg base N qual (zj st) f cdv A outer s H E).nox (yU st) t/\t { nx:=fun _ H'=>Q .non H',rt:=Q } (start N vs) H):zY P w K mg base CX0 (k+1) f fd ps sp:=by
 obtain⟨oc,od,kV,doc,pm,an,cdv,ct,osl,rfl,lk,hcd⟩:=F.ex;refine zoa lk hcd S len fun A outer s H vs Q E hr hsp=>?_;obtain⟨t,h,q⟩:=hbody cdv A outer s H vs Q E hr hsp;exact⟨t,h.nox,q⟩
theorem Fun.binds {x qual:Str}{st:Stmt}{f:Addr}{fd:Xp}{ps:List Str}(F:Fun K x qual st f fd)
  (h:∀(kV doc pm:X9) (an:Option Addr) (cdv ct:X9) (us:List X9),us.length=ps.length->bindArgs (UO x qual (JK st) (yU st) (zj st) .none kV doc pm an cdv ct) ⟨us,[]⟩=pure (ps.zip us)):Binds K fd ps []:=by
 obtain⟨oc,od,kV,doc,pm,an,cdv,ct,osl,rfl,lk,hcd⟩:=F.ex;exact .all (h kV doc pm an cdv ct)
theorem zkC {x qual:Str}{st:Stmt}{f:Addr}{oc:X9}{od an:Option Addr}{osl:Array (Option X9)}{kV doc pm cdv ct:X9}(l:K.lookup f=some ⟨oc,od,.func (UO x qual (JK st) (yU st) (zj st) .none kV doc pm an cdv ct),osl⟩)
  (c:SQ K cdv qual=true) (k:T1 K (.ref f)=true):Fun K x qual st f (UO x qual (JK st) (yU st) (zj st) .none kV doc pm an cdv ct):=⟨⟨oc,od,kV,doc,pm,an,cdv,ct,osl,rfl,l,c⟩,k⟩
end
section
variable {X:Cx}
theorem pv (i:Nat){x:Str}{pos:Pos}(hN:X.N[i]?=some x:=by rfl)(hv:Vis X.env.scope x:=by first | exact XH rfl | exact UU (XH rfl) | exact UU (UU rfl))(hd:(x==("__debug__":Str))=false:=by decide)
  (hcd:(x==("__classdict__":Str))=false:=by decide):PE X (.Name x pos) (zp1 i):=zoD hN hv hd hcd
end
theorem Qi {A B:Prop}(h:B):if false=true then A else B:=by
 rw[bq XV];exact h
theorem Qj {A B:Prop}(h:A):if true=true then A else B:=by
 rw[bw rfl];exact h
theorem zeI {c A B:Prop} [Decidable c](h1:c->A)(h2:¬ c->B):if c then A else B:=by
 by_cases h:c
 ·rw[bw h];exact h1 h
 ·rw[bq h];exact h2 h
def zq (H H':Hp):Prop:=∀b o,H b=some o->H' b=some o
theorem zq.refl (H:Hp):zq H H:=fun _ _ h=>h
theorem zq.trans {H H1 H2:Hp}(a:zq H H1)(b:zq H1 H2):zq H H2:=fun c o h=>b c o (a c o h)
theorem zq.free {H H':Hp}(e:zq H H'){l:Addr}(h:H' l=Option.none):H l=Option.none:=by
 cases q:H l with
 | none=>rfl
 | some o =>
  rw[e l o q] at h;cases h
theorem zq.seq {K:X0}{H H':Hp}{a:Addr}{xs:List V}(e:zq H H')(h:SqL K H a xs):SqL K H' a xs:=by
 rcases h with (h | ⟨o,h⟩) | h
 ·exact .inl (.inl (e _ _ h))
 ·exact .inl (.inr ⟨o,e _ _ h⟩)
 ·exact .inr h
end L2
set_option maxHeartbeats 4000000
namespace L2
open PySem PySem.Spec PyProof.Rows
section
variable {X:Cx}
theorem yH:OpR X (Uh .Mult) (rI IntMulOk fun i j=>.int (i*j)):=opI fun _ _ _ _ _ _ _ hc q=>mul_int q hc
def Jt (_ j:Int):Prop:=0<j/\j.natAbs.log2<9000
theorem zkD:OpR X (Uh .FloorDiv) (rI Jt fun i j=>.int (i/j)):=opI fun i j _ _ _ _ _ hc q=>by
 have h1:(0:Int)<j:=hc.1;exact floordiv_int (by lia) (by rw[RE i (by lia)];exact q) (.inl (PyProof.noPylong_of_log2 hc.2))
theorem Jt.small {i j:Int}(h:0<j)(h':j<1073741824):Jt i j:=by
 refine⟨h,?_⟩;have h0:j.natAbs≠0:=by lia
 have:j.natAbs.log2<30:=(Nat.log2_lt h0).mpr (by lia);lia
theorem zeJ {i j:Int}(h1:-(2^64)<j)(h2:j<2^64):IntMulOk i j:=IntMulOk.of_right (intBits_le_64 h1 h2)
theorem zqo {i j:Int}(h1:i.natAbs<2^8000)(h2:j.natAbs<2^8000):IntMulOk i j:=IntMulOk.of_le (m:=8000) (n:=8000) (intBits_le_iff.mpr h1) (intBits_le_iff.mpr h2) (by decide)
def zoY (T U:String):Option Bool:=if (PM T==PM U)=true then some true else if PySem.W.kitMeta U=true then (fastBuiltinMro T).map (·.contains (.type U)) else none
theorem zoZ (K:X0){T U:String}{b:Bool}(e:zoY T U=some b):W6 K (.type T) (.type U)=some b:=e
theorem Yq:jM X (.builtin "isinstance") (fun xs H Q=>∃x T U b,xs=[x,.ty U]/\Q7 X.K H x (.type T)/\zoY T U=some b/\Q (.bl b) H):=by
 intro bQ s σ H xs us Q I r h;obtain⟨x,T,U,b,rfl,ty,e,q⟩:=h;obtain⟨u,w',rfl,rx,ru⟩:=vals2 r;cases ru;exact zjs I rx ty (zoZ X.K e) fun tk=>⟨.bl b,H,I.tok tk,rfl,q⟩
end
theorem jJ {b:Bool}{A B:Prop}(e:b=true)(h:A):if b=true then A else B:=by
 rw[bw e];exact h
theorem jj {b:Bool}{A B:Prop}(e:b=false)(h:B):if b=true then A else B:=by
 subst e;exact Qi h
structure zm (K:X0)(mg:Str->Option X9)(x:Str)(st:Stmt)(ps:List Str)(f:Addr)(fd:Xp):Prop where
 F:Fun K x x st f fd
 g:mg x=some (.ref f)
 b:Binds K fd ps []
theorem jP {α:Type}{xs:List α}{i:Int}{v:α}(h:0<=i)(e:xs[i.toNat]?=some v):atI xs i=some v:=by
 have:=Q8 e;rwa [UE h] at this
def zrq (t u:TS):TS:=fun D σ H=>∃M:St->Hp->Prop,t { D with nx:=M } σ H/\∀ σ' H',M σ' H'->u D σ' H'
theorem YU {X:Cx}{st:Stmt}{rest:List Stmt}{t u:TS}(h1:PS X st t)(h2:PSs X rest u):PSs X (st::rest) (zrq t u):=by
 intro bQ s σ H D I h;obtain⟨M,h3,h4⟩:=h;refine Sh (thn (h1 bQ s σ H _ I h3) fun f s1 q=>?_);cases f with
 | next =>
  obtain⟨σ1,H1,I1,q1⟩:=q;exact h2 bQ s1 σ1 H1 D I1 (h4 σ1 H1 q1)
 | brk=>exact q
 | cont=>exact q
 | ret v=>exact q
theorem zd {H:Hp}{l:Addr}{o:HO}(h:H l=none):zq H (upd H l o):=fun b u e=>by rw[zf (zg e h)];exact e
mutual
inductive Rdv (K:X0)(H:Hp):V->V8->Prop
 | non:Rdv K H .non .none
 | bl (b:Bool):Rdv K H (.bl b) (.bool b)
 | int (i:Int):Rdv K H (.int i) (.int i)
 | str (x:Str):Rdv K H (.str x) (.str x)
 | lst {a:Addr} {xs:List V} {ds:List V8}:SqL K H a xs->yQ K H xs ds->Rdv K H (.ref a) (.list ds)
 | tup {a:Addr} {xs:List V} {ds:List V8}:SqT K H a xs->yQ K H xs ds->Rdv K H (.ref a) (.tuple ds)
inductive yQ (K:X0)(H:Hp):List V->List V8->Prop
 | nil:yQ K H [] []
 | cons {x:V} {d:V8} {xs:List V} {ds:List V8}:Rdv K H x d->yQ K H xs ds->yQ K H (x::xs) (d::ds)
end
section
variable {X:Cx}{bQ:List (Addr×Obj)}{σ:St}{H:Hp}{s:X8}
theorem zjx {a:Addr}{xs:List V}{ds:List V8}(I:Inv X bQ σ H s)(hq:SqL X.K H a xs)(h:∀us,Vals xs us->∃as,Os s.heap us ds as):∀u,RelV (.ref a) u->∃as,Reads s.heap u (.list ds) as:=by
 intro u r;cases r;obtain⟨its,rv,p,hz⟩:=I.list hq;obtain⟨as,ra⟩:=h _ rv;obtain⟨o,ho,hc,n,hd⟩:=p.isList;exact⟨_,.list ho hc hd (by simpa using ra)⟩
theorem zjy {a:Addr}{xs:List V}{ds:List V8}(I:Inv X bQ σ H s)(hq:SqT X.K H a xs)(h:∀us,Vals xs us->∃as,Os s.heap us ds as):∀u,RelV (.ref a) u->∃as,Reads s.heap u (.tuple ds) as:=by
 intro u r;cases r;obtain⟨its,rv,p,hz⟩:=I.tuple hq;obtain⟨as,ra⟩:=h _ rv;obtain⟨o,ho,hc,n,hd⟩:=p;exact⟨_,.tuple ho hc hd (by simpa using ra)⟩
theorem zhc {v:V}{vs:List V}{d:V8}{ds:List V8}(h:∀u,RelV v u->∃as,Reads s.heap u d as)(t:∀us,Vals vs us->∃as,Os s.heap us ds as):∀us,Vals (v::vs) us->∃as,Os s.heap us (d::ds) as:=by
 intro us r;cases r with
 | cons r1 r2 =>
  obtain⟨as,ra⟩:=h _ r1;obtain⟨bs,rb⟩:=t _ r2;exact⟨_,.cons ra rb⟩
theorem Rdv.reads (I:Inv X bQ σ H s){v:V}{d:V8}{u:X9}(h:Rdv X.K H v d):RelV v u->∃as,Reads s.heap u d as :=
 Rdv.rec (motive_1:=fun v d _=>∀u,RelV v u->∃as,Reads s.heap u d as) (motive_2:=fun vs ds _=>∀us,Vals vs us->∃as,Os s.heap us ds as)
  (fun u r=>by cases r;exact⟨_,.none⟩) (fun b u r=>by cases r;exact⟨_,.bool b⟩) (fun i u r=>by obtain⟨t,rfl⟩:=r;exact⟨_,.int i t⟩) (fun x u r=>by obtain⟨t,rfl⟩:=r;exact⟨_,.str x t⟩)
  (fun hq _ h=>zjx I hq h) (fun hq _ h=>zjy I hq h) (fun us r=>by cases r;exact⟨_,.nil⟩) (fun _ _ h t=>zhc h t) h u
structure zfH (x y:V8):Prop where
 l1:x.canLay0=true
 l2:y.canLay0=true
 dp:x.depth<=64
def zmT (K:X0)(neg:Bool):R2:=fun x y H Q=>∃dx dy,Rdv K H x dx/\Rdv K H y dy/\zfH dx dy/\Q (.bl (if neg then !PyData.eqv dx dy else W2 dx dy)) H
theorem yR (hu:X.A.units+64<Vl):OpR X (Wf .Eq) (zmT X.K false):=by
 intro bQ s σ H x y v u Q I rx ry h;obtain⟨dx,dy,hx,hy,c,q⟩:=h;obtain⟨as,ra⟩:=hx.reads I rx;obtain⟨bs,rb⟩:=hy.reads I ry;have:=c.dp;exact SeqAt.compareEq_reads ra rb c.l1 c.l2 (by lia) ⟨.bl _,H,I,rfl,q⟩
theorem Ju (hu:X.A.units+64<Vl):OpR X (Wf .NotEq) (zmT X.K true):=by
 intro bQ s σ H x y v u Q I rx ry h;obtain⟨dx,dy,hx,hy,c,q⟩:=h;obtain⟨as,ra⟩:=hx.reads I rx;obtain⟨bs,rb⟩:=hy.reads I ry;have:=c.dp;exact SeqAt.compareNe_reads ra rb c.l1 c.l2 (by lia) ⟨.bl _,H,I,rfl,q⟩
def zmU (K:X0)(neg:Bool):R2:=fun x y H Q=>∃d ds,Rdv K H x d/\Rdv K H y (.list ds)/\d.canLay0=true/\Wa ds=true/\d.depth<=60/\Q (.bl (if neg then !ds.any (fun z=>W2 z d) else ds.any fun z=>W2 z d)) H
theorem QG (hu:X.A.units+64<Vl):OpR X (Wf .In) (zmU X.K false):=by
 intro bQ s σ H x y v u Q I rx ry h;obtain⟨d,ds,hx,hy,c1,c2,c3,q⟩:=h;obtain⟨as,ra⟩:=hx.reads I rx;obtain⟨bs,rb⟩:=hy.reads I ry;exact SeqAt.in_list_reads rb ra c2 c1 (by lia) ⟨.bl _,H,I,rfl,q⟩
theorem Ql (hu:X.A.units+64<Vl):OpR X (Wf .NotIn) (zmU X.K true):=by
 intro bQ s σ H x y v u Q I rx ry h;obtain⟨d,ds,hx,hy,c1,c2,c3,q⟩:=h;obtain⟨as,ra⟩:=hx.reads I rx;obtain⟨bs,rb⟩:=hy.reads I ry;exact SeqAt.notIn_list_reads rb ra c2 c1 (by lia) ⟨.bl _,H,I,rfl,q⟩
end
def qV (X:Cx)(N:List Str)(scope:Uv)(cl:List (Str×Addr))(C:Addr)(fp:List Addr)(bQ:List (Addr×Obj))(s:X8)(H:Hp):Cx where
 prog:=X.prog
 w:=X.w
 K:=X.K
 mg:=X.mg
 base:=X.base
 A:=X.A
 N:=N
 s₀:=s
 H₀:=H
 env:=S2 scope cl C X.env
 outer:=X.stack
 stack:=X.stack
 ex:=fp
 fn:=fun _=>false
 calm:=X.calm
 pn:=X.pn++bQ
 xe:=fun _ _=>False
def pull (src:List (Option Nat))(σ:St):St:=src.map fun o=>match o with
 | some j=>(σ[j]?).getD none
 | none=>none
structure zO (X:Cx)(N:List Str)(src:List (Option Nat))(scope:Uv)(cl:List (Str×Addr)):Prop where
 kind:scope.kind=.function
 nocell:∀y∈scope.names,y.2 ≠ .cell
 names:∀y∈scope.names,y.2=.local->scope.names.lookup y.1=some .local
 clos:Ox scope X.env=pure cl
 sub:∀x c,cl.lookup x=some c->X.env.cells.lookup x=some c
 has:∀x,((Us scope X.env).names.lookup x=some .cell\/(Us scope X.env).names.lookup x=some .free)->∃c,cl.lookup x=some c
 len:src.length=N.length
 pulls:∀(i j:Nat) (x:Str),N[i]?=some x->src[i]?=some (some j)->X.N[j]?=some x/\(X.env.kindOf x=some .cell\/X.env.kindOf x=some .free)/\((Us scope X.env).names.lookup x=some .cell\/(Us scope X.env).names.lookup x=some .free)
theorem zdf {scope:Uv}{env:Env}(nf:∀y∈scope.names,y.2 ≠ .free):(Us scope env).names=scope.names:=by
 show scope.names.map _=scope.names;refine map_eq_self fun x hx=>?_;obtain⟨n,k⟩:=x;have:(k==NameKind.free)=false:=by simpa using nf _ hx
 simp[this]
theorem zO.plain {X:Cx}{N:List Str}{src:List (Option Nat)}{scope:Uv}(kind:scope.kind=.function)(nocell:∀y∈scope.names,y.2 ≠ .cell)(nofree:∀y∈scope.names,y.2 ≠ .free)
  (names:∀y∈scope.names,y.2=.local->scope.names.lookup y.1=some .local) (len:src.length=N.length) (none:∀o∈src,o=none):zO X N src scope [] where
 kind:=kind
 nocell:=nocell
 names:=names
 clos:=closureFor_none nofree
 sub:=fun x c h=>nomatch h
 has:=fun x h=>by
  rw[zdf nofree] at h;rcases h with h | h
  ·exact absurd rfl (nocell _ (WE h))
  ·exact absurd rfl (nofree _ (WE h))
 len:=len
 pulls:=fun i j x _ h=>by
  have:=none _ (XY h);cases this
def zkE (X:Cx)(ifs:List Expr)(t:TT):Prop :=
 ∀(bQ:List (Addr×Obj)) (s:X8) (σ:St) (H:Hp) (Q:Bool->Hp->Prop),Inv X bQ σ H s->t σ H Q ->
  W7 (Xf X.prog X.w) X.A (forIn ifs true fun c r=>if r=true then do let ok <- isTrue c X.env (eval c X.env);pure (Vu ok) else pure (Vu r)) (TP X bQ σ Q) X.xe s
def zmV:TT:=fun _ H Q=>Q true H
theorem qW {X:Cx}:zkE X [] zmV:=fun _ _ _ H _ I h=>wpAny_tests_nil ⟨H,I,h⟩
theorem qm {X:Cx}{c:Expr}{t:TT}(h:PT X c t):zkE X [c] t:=fun bQ s σ H Q I hq=>wpAny_tests_one (h bQ s σ H Q I hq)
def Ze (J:It)(g:TG)(tc:TT)(te:TE)(Q:VK)(D:Addr)(σ0:St)(H0:Hp):Prop :=
 ∃W:Nat->Nat->St->Hp->Prop,(∃m,W 0 m σ0 H0)/\∀i m σ' H',W i m σ' H' ->
  (J.stop i H'/\Q (.ref D) H')\/(J.go i H'/\∃N:St->Hp->Prop,(∀ σ'' H'',N σ'' H''->∃m',m'<m/\W (i+1) m' σ'' H'') /\
   ∀x H2,J.yld i H' x H2->g x σ' H2 fun σ2 H3=>tc σ2 H3 fun b H4=>if b=true then te σ2 H4 fun y H5=>∃ys,H5 D=some (.lst ys)/\ys.length<Xv/\N σ2 (upd H5 D (.lst (ys++[y]))) else N σ2 H4)
def zkF (wi:TI)(src:List (Option Nat))(g:TG)(tc:TT)(te:TE):TE:=fun σ H Q=>wi σ H fun J H1=>∀D,H1 D=none->Ze J g tc te Q D (pull src σ) (upd H1 D (.lst []))
theorem Un.but {fs ex:List Addr}{H H1:Hp}{h h1 h2:Heap}{C:Addr}(u:Un fs ex H H1 h h1)(hC:h.objs.size<=C)(sb:VA C h1 h2):Un fs ex H H1 h h2:=by
 have ne:∀b o,h.get? b=some o->b≠C:=fun b o e=>Xe (XJ (XI e) hC);refine⟨fun b o e n hb hx=>(sb.2 b (ne b o e)).trans (u.keep b o e n hb hx),fun b o e n hb hx=>?_,u.free,fun b o e hx=>?_,u.tups,u.frzs,u.tbls⟩
 ·obtain⟨sl,q⟩:=u.slot b o e n hb hx;exact⟨sl,(sb.2 b (ne b o e)).trans q⟩
 ·obtain⟨o',q⟩:=u.there b o e hx;exact⟨o',(sb.2 b (ne b o e)).trans q⟩
theorem HOk.but {P:Xi}{w:WS}{H:Hp}{h h':Heap}{C:Addr}(ok:HOk P w H h)(hn:H C=none)(sb:VA C h h'):HOk P w H h':=fun b ob e=>by
 refine(ok b ob e).stay (fun c w' hc q=>(sb.2 c ?_).trans q) (fun _ q=>q) fun _ _ q=>q;rintro rfl;rcases hc with rfl | hc
 ·rw[hn] at e;cases e
 ·rw[hn] at hc;cases hc
section
variable {X:Cx}{tg iter elt:Expr}{ifs:List Expr}{scope:Uv}{pos:Pos}{N:List Str}{src:List (Option Nat)}{cl:List (Str×Addr)}{wi:TI}{g:TG}{tc:TT}{te:TE}
theorem zb4 {bQ:List (Addr×Obj)}{σ:St}{H:Hp}{s:X8}{fp:List Addr}{h1:Heap}{C:Addr}{tk:Nat}(ok:zO X N src scope cl)(I:Inv X bQ σ H s)(hf:∀b∈fp,Q4 X bQ H b)(ho:∀b∈fp,∃o,s.heap.get? b=some o)
  (hC:C=s.heap.objs.size+1) (k:∀b u,s.heap.get? b=some u->h1.get? b=some u) (hD:h1.get? s.heap.objs.size=some { cls:=.type "list",data:=.seq #[] }) {m:Str->Option X9} (hn:h1.Ns C m) :
  Inv (qV X N scope cl C fp bQ s H) [] (pull src σ) (upd H s.heap.objs.size (.lst [])) { s with heap:=h1,toks:=tk }:=by
 have lt:∀b o,s.heap.get? b=some o->b<s.heap.objs.size:=fun b o e=>XI e;have nC:∀b o,s.heap.get? b=some o->b≠C:=fun b o e=>by rw[hC];exact Xe (Wx (lt b o e))
 have nD:∀b o,s.heap.get? b=some o->b≠s.heap.objs.size:=fun b o e=>Xe (lt b o e);have fr:∀b,s.heap.objs.size<=b->H b=none:=fun b hb=>I.hok.fresh hb;have nst:∀b,b≠X.env.locals->b ∉ X.fs->b ∉ frs X.stack:=fun b h1 h2 z=>(Xz.mp (I.stkSub b z)).elim h1 h2;have sub:=ok.sub;refine⟨⟨I.ok.mod,ok.kind,I.ok.glob,I.ok.blt,by rw[show (qV X N scope cl C fp bQ s H).env.locals=C from rfl,hC];exact VT _,fun x y c e1 e2=>I.ok.inj x y c (sub x c e1) (sub y c e2),ok.has,(fun x c z _=>nomatch z),I.ok.hd,I.ok.frames,.inl rfl,fun b hb=>?_,I.bs,X4 I.ok.bsz I.sz,fun b o e hb=>?_,fun b hb hz=>?_,I.stack,I.stkFree⟩,
  rfl,I.bare,Un.laid k (XW _) (fr _ (XW _)),⟨m,hn,fun i x v e1 e2 e3=>?_⟩,fun x c e=>?_,?_,fun x c e=>?_,fun p hp=>?_,I.hok.laid k (XW _) ⟨W4 _,[],0,.nil,hD⟩,?_⟩
 ·obtain⟨o,e⟩:=ho b hb;exact⟨nC b o e,fun x c z=>(hf b hb).2.2.2.2.1 x c (sub x c z)⟩
 ·rcases(hf b hb).2.2.2.1 with z | z
  ·exact I.ok.noex b o e z
  ·exact absurd (XJ (XI (I.ok.bs b o e).1) z) (V5 _)
 ·exact nst b (hf b hb).2.1 (hf b hb).2.2.1 hz
 ·have hi:i<src.length:=by
   have:=(X2.mp e2).1;unfold pull at this;rw[ZB] at this;exact this
  unfold pull at e2;rw[Xk,XX hi] at e2;cases q:src[i] with
  | none=>rw[q] at e2;cases e2
  | some j =>
   rw[q] at e2;have e2':(σ[j]?).getD none=some v:=Option.some.inj e2;have e4:σ[j]?=some (some v):=by
    cases z:σ[j]? with
    | none=>rw[z] at e2';cases e2'
    | some o=>rw[z] at e2';exact congrArg some e2'
   obtain⟨p1,p2,p3⟩:=ok.pulls i j x e1 (by rw[XX hi,q]);obtain⟨m',hn',hl⟩:=I.loc;obtain⟨u,r,l⟩:=hl j x v p1 e4 (by
    rcases p2 with z | z
    ·exact .inr (.inl z)
    ·exact .inr (.inr z))
   refine⟨u,r,.inr ⟨p3,?_⟩⟩;obtain⟨c,hc⟩:=ok.has x p3;refine⟨c,hc,?_⟩;rcases l with ⟨z,_⟩ | ⟨_,c',hc',o,ho',hd'⟩
   ·rcases p2 with y | y<;>rw[z] at y<;>cases y
   ·rw[sub x c hc] at hc';cases hc';exact⟨o,k _ o ho',hd'⟩
 ·obtain⟨v,o,e1,e2⟩:=I.cell x c (sub x c e);exact⟨v,o,k c o e1,e2⟩
 ·show upd H s.heap.objs.size (.lst []) C=none;rw[hC,zf (Vo _)];exact fr _ (VT _)
 ·show upd H s.heap.objs.size (.lst []) c=none;obtain⟨v,o,e1,e2⟩:=I.cell x c (sub x c e);rw[zf (nD c o e1)];exact I.freeC x c (sub x c e)
 ·have hp':p∈X.pn++bQ:=by
   have:p∈(X.pn++bQ)++[]:=hp;simpa using this
  obtain⟨e1,e2,e3,e4,e5⟩:=I.pin p hp';refine⟨k _ _ e1,?_,nC _ _ e1,nst _ e3 e4,e5⟩;show upd H s.heap.objs.size (.lst []) p.1=none;rw[zf (nD _ _ e1)];exact e2
 ·unfold pull;rw[ZB];exact ok.len
theorem qj (ok:zO X N src scope cl)(hcalm:X.calm=true)(hi:PI X tg iter wi)
  (hg:∀C fp bQ s H,PG (qV X N scope cl C fp bQ s H) tg g) (hc:∀C fp bQ s H,zkE (qV X N scope cl C fp bQ s H) ifs tc) (he:∀C fp bQ s H,PE (qV X N scope cl C fp bQ s H) elt te)
  (hs:∀x,SJ iter X.env x=pure x:=by intro _;rfl):PE X (.ListComp elt [⟨tg,iter,ifs,0⟩] scope pos) (zkF wi src g tc te):=by
 intro bQ s σ H Q I h;rw[eval_ListComp];refine Tw (use:=none) rfl hs ok.clos ok.kind ok.names (thn (hi bQ s σ H _ I h) fun xv s1 h1=>thn h1 fun itv s2 h2=>?_);obtain⟨it,fp,tn,J,H2,e,I2,T,st2,f2,q2⟩:=h2;subst e;refine VM (O6 ok.nocell (by intro y hy;simp at hy) (fun h₁ hns₁ hsb₁=>?_) ok.kind);dsimp only at hns₁ hsb₁ ⊢;generalize hP:s2.heap.push { cls:=.type "list",dict:=none,data:=.seq ([]:List X9).toArray }=P2 at hns₁ hsb₁ ⊢;have hC:P2.objs.size=s2.heap.objs.size+1:=by rw[<- hP,Vi]
 have k:∀b u,s2.heap.get? b=some u->h₁.get? b=some u:=fun b u e=>by
  have lt:=XI e;exact(hsb₁.2 b (by rw[hC];exact Xe (Wx lt))).trans (X7 _ (hP ▸ X7 _ e))
 have hD:h₁.get? s2.heap.objs.size=some { cls:=.type "list",data:=.seq #[] }:=(hsb₁.2 _ (by rw[hC];exact(Vo _).symm)).trans (X7 _ (hP ▸ Xd _ rfl));have ho:∀b∈fp,∃o,s2.heap.get? b=some o:=fun b hb=>let ⟨o,e,_⟩:=T.obj 0 _ st2 b hb;⟨o,e⟩
 obtain⟨W,⟨m0,w0⟩,turn⟩:=q2 s2.heap.objs.size (I2.hok.fresh (XW _));have I0:=zb4 (tk:=s2.toks+([]:List (Str×X9)).length) ok I2 f2 ho hC k hD hns₁;have st0:tn 0 h₁:=T.keep 0 _ _ st2 fun b _ o e=>k b o e;have fr0:∀b∈fp,upd H2 s2.heap.objs.size (.lst []) b=none:=fun b hb=>by
  obtain⟨o,e⟩:=ho b hb;rw[zf (Xe (XI e))];exact(f2 b hb).1
 have stat:∀{H':Hp},(∀b∈fp,H' b=none)->∀b∈fp,Q4 (qV X N scope cl P2.objs.size fp bQ s2 H2) [] H' b:=fun {H'} hn b hb=>by
  obtain⟨o,e⟩:=ho b hb;have lt:=XI e;refine⟨hn b hb,?_,fun z=>(Xz.mp (I2.stkSub b z)).elim (f2 b hb).2.1 (f2 b hb).2.2.1,.inl hb,fun x c z=>(f2 b hb).2.2.2.2.1 x c (ok.sub x c z),fun p hp=>?_⟩
  ·show b≠P2.objs.size;rw[hC];exact Xe (Wx lt)
  ·have hp':p∈X.pn++bQ:=by
    have:p∈(X.pn++bQ)++[]:=hp;simpa using this
   exact(f2 b hb).2.2.2.2.2 p hp'
 have loop:∀s₃:X8,s₃={ s2 with heap:=h₁,toks:=s2.toks+([]:List (Str×X9)).length } ->
   TV (Xf X.prog X.w) X.A (.compLoop (.ListComp elt [⟨tg,iter,ifs,0⟩] scope pos) 0 (.ref it) (.ref s2.heap.objs.size) (S2 scope cl P2.objs.size X.env))
    (compPost (Xf X.prog X.w) X.A X.xe none (EP X bQ σ Q) (.ref s2.heap.objs.size) P2.objs.size) s₃:=by
  rintro s₃ rfl;refine Op rfl (fun n s'=>∃i σ' H',Inv (qV X N scope cl P2.objs.size fp bQ s2 H2) [] σ' H' s'/\tn i s'.heap/\(∀b∈fp,H' b=none)/\W i n σ' H') ?_ m0 ⟨0,_,_,I0,st0,fr0,w0⟩;rintro n s3 ⟨i,σ3,H3,I3,st3,fr3,w3⟩;show W7 _ X.A ((compTurn (.ListComp elt [⟨tg,iter,ifs,0⟩] scope pos) 0 (.ref it) (.ref s2.heap.objs.size) (S2 scope cl P2.objs.size X.env)).onRaise (fun x=>do noteFrame x (S2 scope cl P2.objs.size X.env);Pr x)) _ _ s3;refine Og ?_;rw[OH];rcases turn i n σ3 H3 w3 with ⟨stop,qn⟩ | ⟨go,N',hN,step⟩
  ·refine Y1 (UI (Y1 (thn (T.done (qV X N scope cl P2.objs.size fp bQ s2 H2) rfl rfl rfl hcalm i [] s3 σ3 H3 _ I3 (stat fr3) st3 stop) fun r s4 ⟨hr,I4⟩=>?_)));subst hr;refine XS ?_;obtain⟨m,hm,_⟩:=I4.loc;refine⟨m,hm,fun h' sb=>⟨.ref s2.heap.objs.size,H3,?_,rfl,qn⟩⟩;have un:Un (frs X.stack) fp H2 H3 s2.heap h':=Un.but I4.base (by show s2.heap.objs.size<=P2.objs.size;rw[hC];exact VT _) sb;have hok:HOk X.prog X.w H3 h':=HOk.but I4.hok I4.free sb;exact I2.call' (s':={ s4 with heap:=h' }) (ch:=fp) I4.os un hok I4.bare fun b hb=>⟨(f2 b hb).2.2.2.1,(f2 b hb).2.1,(f2 b hb).2.2.2.2.1,(f2 b hb).2.2.2.2.2⟩
  ·refine Y1 (UI (Y1 (thn (T.item (qV X N scope cl P2.objs.size fp bQ s2 H2) rfl rfl rfl hcalm i [] s3 σ3 H3 _ I3 (stat fr3) st3 go) fun r s4 ⟨u,hr,h4⟩=>?_)));subst hr;dsimp only;refine Y1 (thn h4 fun _ s5 ⟨x,H5,I5,r5,y5,st5,fr5⟩=>?_);have I5':=I5.pinned (stat fr5) (T.obj _ _ st5);refine Y1 (Wg (hg P2.objs.size fp bQ s2 H2 _ s5 σ3 H5 x u _ I5' r5 (step x H5 y5)) (fun _ s6 ⟨σ6,H6,I6,q6⟩=>?_) fun _ _ z=>Wi z);have Rw:∀{s7:X8} {σ7:St} {H7:Hp},Inv (qV X N scope cl P2.objs.size fp bQ s2 H2) ([]++QF fp s5.heap) σ7 H7 s7->N' σ7 H7->∃m,m<n/\∃i σ' H',Inv (qV X N scope cl P2.objs.size fp bQ s2 H2) [] σ' H' s7/\tn i s7.heap/\(∀b∈fp,H' b=none)/\W i m σ' H':=fun {s7 σ7 H7} I7 n7=>by
    obtain⟨m',hm,w7⟩:=hN σ7 H7 n7;refine⟨m',hm,i+1,σ7,H7,I7.unpinned,T.keep _ _ _ st5 fun b hb o e=>(I7.pin (b,o) (XE _ (XE _ (jO hb e)))).1,fun b hb=>?_,w7⟩;obtain⟨o,e,d⟩:=T.obj _ _ st5 b hb;exact(I7.pin (b,o) (XE _ (XE _ (jO hb e)))).2.1
   refine Y1 (Wg (hc P2.objs.size fp bQ s2 H2 _ s6 σ6 H6 _ I6 q6) (fun b s7 ⟨H7,I7,q7⟩=>?_) fun _ _ z=>Wi z);cases b with
   | false =>
    rw[bq XV] at q7;exact XS ⟨rfl,Rw I7 q7⟩
   | true =>
    rw[bw rfl] at q7;refine Y1 (Y1 (Wg (he P2.objs.size fp bQ s2 H2 _ s7 σ6 H7 _ I7 q7) (fun y s8 ⟨v8,H8,I8,r8,ys,hys,hlen,q8⟩=>?_) fun _ _ z=>Wi z));refine Y1 (Wg (Jm (X:=qV X N scope cl P2.objs.size fp bQ s2 H2) _ s8 σ6 H8 (.ref s2.heap.objs.size) [v8] (.ref s2.heap.objs.size) [y] (fun _ H9=>N' σ6 H9) I8 rfl (.cons r8 .nil) ⟨_,ys,v8,rfl,rfl,hys,hlen,q8⟩) (fun _ s9 ⟨v9,H9,I9,_,q9⟩=>?_) fun _ _ z=>Wi z);exact XS (XS ⟨rfl,Rw I9 q9⟩)
 exact Sy (loop _ rfl) (T.self _ 0 _ _ _ st0 (loop _ rfl))
end
section
variable {K:X0}{src:List (Option Nat)}{g:TG}{tc:TT}{te:TE}{Q:VK}{σ:St}{H:Hp}{D:Addr}
theorem qf {a:Addr}{xs:List V}(Pv:Nat->St->Hp->Prop)(h0:Pv 0 σ H)(hl:∀i σ H,i<=xs.length->Pv i σ H->SqL K H a xs)
  (hs:∀i x σ H,xs[i]?=some x->Pv i σ H->g x σ H fun σ2 H3=>tc σ2 H3 fun b H4=>if b=true then te σ2 H4 fun y H5=>∃ys,H5 D=some (.lst ys)/\ys.length<Xv/\Pv (i+1) σ2 (upd H5 D (.lst (ys++[y]))) else Pv (i+1) σ2 H4)
  (hd:∀ σ H,Pv xs.length σ H->Q (.ref D) H):Ze (Itl K a) g tc te Q D σ H:=by
 refine⟨fun i m σ H=>m=xs.length-i/\i<=xs.length/\Pv i σ H,⟨xs.length,by simp,W4 _,h0⟩,?_⟩;rintro i m σ H ⟨rfl,hi,p⟩;have q:=hl i σ H hi p;by_cases hlt:i<xs.length
 ·refine .inr ⟨⟨xs,xs[i],q,by simp[hlt]⟩,Pv (i+1),fun σ' H' p'=>⟨xs.length-(i+1),by lia,rfl,hlt,p'⟩,fun x H' y=>?_⟩;obtain⟨e,y⟩:=y;subst e;exact hs i x σ _ (y xs q) p
 ·have e:i=xs.length:=by lia
  subst e;exact .inl ⟨⟨xs,q,XW _⟩,hd σ H p⟩
theorem ZN {lo:Int}{n:Nat}(Pv:Nat->St->Hp->Prop)(h0:Pv 0 σ H)
  (hs:∀i σ H,i<n->Pv i σ H->g (.int (lo+i)) σ H fun σ2 H3=>tc σ2 H3 fun b H4=>if b=true then te σ2 H4 fun y H5=>∃ys,H5 D=some (.lst ys)/\ys.length<Xv/\Pv (i+1) σ2 (upd H5 D (.lst (ys++[y]))) else Pv (i+1) σ2 H4)
  (hd:∀ σ H,Pv n σ H->Q (.ref D) H):Ze (Itr lo n) g tc te Q D σ H:=by
 refine⟨fun i m σ H=>m=n-i/\i<=n/\Pv i σ H,⟨n,by simp,W4 _,h0⟩,?_⟩;rintro i m σ H ⟨rfl,hi,p⟩;by_cases hlt:i<n
 ·refine .inr ⟨hlt,Pv (i+1),fun σ' H' p'=>⟨n-(i+1),by lia,rfl,hlt,p'⟩,fun x H' y=>?_⟩;obtain⟨e,y⟩:=y;subst e y;exact hs i σ _ hlt p
 ·have e:i=n:=by lia
  subst e;exact .inl ⟨XW _,hd σ H p⟩
end
theorem zfI {K:X0}{H:Hp}:∀rs:List Str,yQ K H (rs.map V.str) (rs.map UJ)
 | []=>.nil
 | t::r=>.cons (.str t) (zfI r)
section
variable {X:Cx}{K:X0}
theorem YV {a:Expr}{ta:TE}(hK:X.K=K)(ha:PE X a ta)(he:∀whole,isTrue a X.env whole=(do let v <- whole;standAt a.pos;Ov [v] (truthy v))) :
  PT X a (fun σ H Q=>ta σ H fun x H'=>∃k,zoR K x H' k/\Q k H'):=by
 subst hK;exact Js ha he
theorem zeK (hK:X.K=K):jM X (.builtin "isinstance") (fun xs H Q=>∃x T U b,xs=[x,.ty U]/\Q7 K H x (.type T)/\zoY T U=some b/\Q (.bl b) H):=by
 subst hK;exact Yq
theorem zdg (hK:X.K=K):jM X (.builtin "len") (fun xs H Q=>∃p ys,xs=[.ref p]/\(SqL K H p ys\/SqT K H p ys)/\Q (.int ys.length) H):=by
 subst hK;exact Jd
theorem zfJ (hK:X.K=K)(hu:X.A.units+64<Vl):OpR X (Wf .Eq) (zmT K false):=by
 subst hK;exact yR hu
theorem zfK (hK:X.K=K)(hu:X.A.units+64<Vl):OpR X (Wf .NotEq) (zmT K true):=by
 subst hK;exact Ju hu
theorem jQ (hK:X.K=K)(hu:X.A.units+64<Vl):OpR X (Wf .In) (zmU K false):=by
 subst hK;exact QG hu
theorem Yr (hK:X.K=K)(hu:X.A.units+64<Vl):OpR X (Wf .NotIn) (zmU K true):=by
 subst hK;exact Ql hu
theorem ziy {es:List Expr}{k:Nat}{t:TGs}{n:Nat}{pos:Pos}(hK:X.K=K)(hc:X.calm=true)(h:PGs X es t)
  (hn:(Ti es X.env).length=n:=by rfl) (hst:(Ti es X.env).findIdx? (·.1)=none:=by rfl):PG X (.Tuple es k pos) (zp7 K n t):=by
 subst hK;exact yP hc h hn hst
end
section
variable {fs ch:List Addr}{H:Hp}{h h':Heap}{a:Addr}{o:HO}
theorem Un.laidX (k:∀b u,b ∉ ch->h.get? b=some u->h'.get? b=some u)(hp:h.objs.size<=a)(hn:H a=none):Un fs ch H (upd H a o) h h' where
 keep:=fun b u q _ _ hx=>k b u hx q
 slot:=fun b u q _ _ hx=>⟨u.slots,k b u hx q⟩
 free:=fun b u q n _=>by rw[zf (Xe (XJ (XI q) hp))];exact n
 there:=fun b u q hx=>⟨u,k b u hx q⟩
 tups:=fun b xs q=>by rw[zf (zg q hn)];exact q
 frzs:=fun b u xs q=>by rw[zf (zg q hn)];exact q
 tbls:=fun b ps q=>⟨#[],by rw[zf (zg q hn),q];simp⟩
theorem Un.keptX (k:∀b u,b ∉ ch->h.get? b=some u->h'.get? b=some u):Un fs ch H H h h' :=
 ⟨fun b ob q _ _ hx=>k b ob hx q,fun b ob q _ _ hx=>⟨ob.slots,k b ob hx q⟩,fun _ _ _ n _=>n,fun b ob q hx=>⟨ob,k b ob hx q⟩,fun _ _ q=>q,fun _ _ _ q=>q,fun _ ps q=>⟨#[],by rw[q];simp⟩⟩
theorem HOk.keptX {P:Xi}{w:WS}(x:HOk P w H h)(k:∀b u,b ∉ ch->h.get? b=some u->h'.get? b=some u)(hch:∀b∈ch,H b=none):HOk P w H h':=fun b u e=>by
 refine(x b u e).stay (fun c v hc q=>k c v (fun z=>?_) q) (fun _ q=>q) fun _ _ q=>q;have n:=hch c z;rcases hc with rfl | hc
 ·rw[n] at e;cases e
 ·rw[n] at hc;cases hc
theorem HOk.laidX {P:Xi}{w:WS}(x:HOk P w H h)(k:∀b u,b ∉ ch->h.get? b=some u->h'.get? b=some u)(hch:∀b∈ch,H b=none)(hp:h.objs.size<=a)(new:qA P w (upd H a o) h' a o):HOk P w (upd H a o) h':=fun b u e=>by
 have hn:=x.fresh hp;by_cases hb:b=a
 ·subst hb;rw[zb] at e;cases e;exact new
 ·rw[zf hb] at e;refine(x b u e).stay (fun c v hc q=>k c v (fun z=>?_) q) (fun c q=>by rw[zf (zg q hn)];exact q) fun c xs q=>by rw[zf (zg q hn)];exact q
  have n:=hch c z;rcases hc with rfl | hc
  ·rw[n] at e;cases e
  ·rw[n] at hc;cases hc
end
section
variable {X:Cx}{bQ:List (Addr×Obj)}{s:X8}{σ:St}{H:Hp}{E:X9->X8->Prop}{fp wr FP:List Addr}{elts:List Expr}{k:Nat}{pos:Pos}{e:Addr}{n i:Nat}{Pt:Nat->Array X9->Prop}{Sn:Nat->Heap->Prop}{Mid:Nat->Addr->Heap->Prop}{J:It}{tn:Nat->Heap->Prop}
theorem zhd (I:Inv X bQ σ H s)(hf:∀b∈fp,Q4 X bQ H b)(ho:∀b∈fp,∃o,s.heap.get? b=some o)(hwr:∀b∈wr,b∈fp)(W:WalksT X.prog X.w X.A e FP wr n Pt Sn Mid)(hi:i<n)(st:Sn i s.heap)
  (y:∀T vals,H T=none->Pt i vals->∃vs,Vals vs vals.toList/\vs.length<=Xv/\J.yld i H (.ref T) (upd H T (.tup vs))) (nx:∀h'',Sn (i+1) h''->tn (i+1) h'') :
  W7 (Xf X.prog X.w) X.A (RN (.ref e)) (fun r s1=>∃u,r=some u /\
   W7 (Xf X.prog X.w) X.A (R5 (.Tuple elts k pos) (.ref e) u) (fun _ s2=>∃x H',Inv X bQ σ H' s2/\RelV x u/\J.yld i H x H'/\tn (i+1) s2.heap/\∀b∈fp,H' b=none) E s1) E s:=by
 refine W.item i s _ E hi st fun T vals h' tk hP hT0 hT hm kk=>⟨.ref T,rfl,?_⟩;have hn:H T=none:=I.hok.fresh hT0;obtain⟨vs,hv,hl,hy⟩:=y T vals hn hP;refine W.go elts k pos i T { s with heap:=h',toks:=tk } _ E hm fun h'' st'' kk2=>?_;have k2:∀b o,b ∉ wr->s.heap.get? b=some o->h''.get? b=some o:=fun b o hb e=>kk2 b o hb (kk b o hb e);have hTup:Od h'' T vals:=by
  obtain⟨o,e1,c,m,d⟩:=hT;exact⟨o,kk2 T o (W.apart i T _ hm) e1,c,m,d⟩
 have hch:∀b∈wr,H b=none:=fun b hb=>(hf b (hwr b hb)).1;refine⟨.ref T,upd H T (.tup vs),?_,rfl,hy,nx _ st'',fun b hb=>?_⟩
 ·exact I.call' (s':={ s with heap:=h'',toks:=tk }) (ch:=wr) rfl (Un.laidX k2 hT0 hn) (HOk.laidX I.hok k2 hch hT0 ⟨hl,vals.toList,hv,by simpa using hTup⟩) I.bare fun b hb=>let f:=hf b (hwr b hb);⟨f.2.2.2.1,f.2.1,f.2.2.2.2.1,f.2.2.2.2.2⟩
 ·obtain⟨o,e1⟩:=ho b hb;rw[zf (Xe (XJ (XI e1) hT0))];exact(hf b hb).1
theorem zkG (I:Inv X bQ σ H s)(hf:∀b∈fp,Q4 X bQ H b)(hwr:∀b∈wr,b∈fp)(W:WalksT X.prog X.w X.A e FP wr n Pt Sn Mid)(st:Sn n s.heap) :
  W7 (Xf X.prog X.w) X.A (RN (.ref e)) (fun r s1=>r=none/\Inv X bQ σ H s1) E s :=
 W.done s _ E st fun h' tk kk=>⟨rfl,I.call' (s':={ s with heap:=h',toks:=tk }) (ch:=wr) rfl (Un.keptX kk) (HOk.keptX I.hok kk fun b hb=>(hf b (hwr b hb)).1) I.bare fun b hb=>let f:=hf b (hwr b hb);⟨f.2.2.2.1,f.2.1,f.2.2.2.2.1,f.2.2.2.2.2⟩⟩
end
theorem Ys {h:Heap}{b:Addr}{o:Obj}{vs:Array X9}(e:h.get? b=some o)(d:o.data=.fields vs):∃o,h.get? b=some o/\∀v,o.data ≠ .cell v:=⟨o,e,fun v z=>by rw[d] at z;cases z⟩
def Ite (K:X0)(l:Addr):It:=⟨fun i H=>∃xs,SqL K H l xs/\i<xs.length,fun i H x H'=>∃T,x=.ref T/\H T=none/\∀xs,SqL K H l xs->∃v,xs[i]?=some v/\H'=upd H T (.tup [.int i,v]),fun i H=>∃xs,SqL K H l xs/\i=xs.length⟩
theorem zjz {P:Xi}{w:WS}{K:X0}{elts:List Expr}{k:Nat}{pos:Pos}(e it l:Addr)(hei:e≠it)(hle:l≠e)(hli:l≠it) :
  Turn P w K (.Tuple elts k pos) (Ite K l) [e,it] e (fun i h=>(∃old,IsEnum h e it i old)/\h.IsListIter it l i) where
 mem:=by simp
 obj:=fun i h st b hb=>by
  obtain⟨⟨old,he⟩,o,e2,c,d⟩:=st;rcases Xz.mp hb with rfl | hb
  ·exact Ys he rfl
  ·have z:b=it:=by simpa using hb
   subst z;exact Ys e2 d
 keep:=fun i h h' st kk=>by
  obtain⟨⟨old,he⟩,o,e2,r⟩:=st;exact⟨⟨old,kk e (by simp) _ he⟩,o,kk it (by simp) o e2,r⟩
 item:=by
  intro X hP hw hK hc i bQ s σ H E I hf st hg;subst hP hw hK;obtain⟨xs,hq,hlt⟩:=hg;obtain⟨its,rv,p,hz⟩:=I.list hq;have hl:=rv.length;obtain⟨⟨old,he⟩,o2,e2,c2,d2⟩:=id st;refine zhd (wr:=[e,it]) (J:=Ite X.K l) (tn:=fun i h=>(∃old,IsEnum h e it i old)/\h.IsListIter it l i) I hf (fun b hb=>?_) (fun b hb=>hb) (WalksT.enumerate (I.ok.hd hc) e it l hei hle hli its.toArray) (by simp;lia) ⟨st.1,st.2,p.isList⟩ (fun T vals hn hp=>?_) fun h'' q=>⟨q.1,q.2.1⟩
  ·rcases Xz.mp hb with rfl | hb
   ·exact⟨_,he⟩
   ·have z:b=it:=by simpa using hb
    subst z;exact⟨_,e2⟩
  ·obtain⟨t,x,hx,rfl⟩:=hp;have hx':its[i]?=some x:=by simpa using hx
   obtain⟨u,hu,ru⟩:=rv.get (i:=i) (x:=xs[i]) (by rw[XX hlt]);rw[hu] at hx';cases hx';exact⟨[.int i,xs[i]],.cons ⟨t,rfl⟩ (.cons ru .nil),(by show 2<=Xv;decide),T,rfl,hn,fun ys hy=>⟨xs[i],by rw[I.list_inj hy hq,XX hlt],rfl⟩⟩
 done:=by
  intro X hP hw hK hc i bQ s σ H E I hf st hg;subst hP hw hK;obtain⟨xs,hq,rfl⟩:=hg;obtain⟨its,rv,p,hz⟩:=I.list hq;have hl:its.toArray.size=xs.length:=by simp[rv.length]
  refine zkG (fp:=[e,it]) (wr:=[e,it]) I hf (fun b hb=>hb) (WalksT.enumerate (I.ok.hd hc) e it l hei hle hli its.toArray) ?_;rw[hl];exact⟨st.1,st.2,p.isList⟩
 self:=fun A i s Q E st h=>by
  obtain⟨⟨old,he⟩,_⟩:=st;exact SH he h
def zmW (x:Str):It:=⟨fun i _=>i<x.cps.size,fun i H v H'=>∃T c,v=.ref T/\H T=none/\x.cps[i]?=some c/\H'=upd H T (.tup [.int i,.str ⟨#[c]⟩]),fun i _=>i=x.cps.size⟩
theorem zb5 {P:Xi}{w:WS}{K:X0}{elts:List Expr}{k:Nat}{pos:Pos}(e it:Addr)(x:Str)(t:Tok)(n:String)(hei:e≠it)
  (D:∀A:WL,A.handled=none->Draws P w A it [it] x.cps.size (fun i v=>∃c u,x.cps[i]?=some c/\v=.str ⟨#[c]⟩ u) (fun i h=>h.IsStrIter it n x t i)) :
  Turn P w K (.Tuple elts k pos) (zmW x) [e,it] e (fun i h=>(∃old,IsEnum h e it i old)/\h.IsStrIter it n x t i) where
 mem:=by simp
 obj:=fun i h st b hb=>by
  obtain⟨⟨old,he⟩,o,e2,c,d⟩:=st;rcases Xz.mp hb with rfl | hb
  ·exact Ys he rfl
  ·have z:b=it:=by simpa using hb
   subst z;exact Ys e2 d
 keep:=fun i h h' st kk=>by
  obtain⟨⟨old,he⟩,o,e2,r⟩:=st;exact⟨⟨old,kk e (by simp) _ he⟩,o,kk it (by simp) o e2,r⟩
 item:=by
  intro X hP hw hK hc i bQ s σ H E I hf st hg;subst hP hw hK;obtain⟨⟨old,he⟩,o2,e2,c2,d2⟩:=id st;refine zhd (wr:=[e,it]) (J:=zmW x) (tn:=fun i h=>(∃old,IsEnum h e it i old)/\h.IsStrIter it n x t i) I hf (fun b hb=>?_) (fun b hb=>hb) (WalksT.enumerateD (D X.A.in1 (I.ok.hd hc)) e hei (by simpa using hei) (by simp)) hg st (fun T vals hn hp=>?_) fun h'' q=>q
  ·rcases Xz.mp hb with rfl | hb
   ·exact⟨_,he⟩
   ·have z:b=it:=by simpa using hb
    subst z;exact⟨_,e2⟩
  ·obtain⟨t',v,⟨c,u,hx,rfl⟩,rfl⟩:=hp;exact⟨[.int i,.str ⟨#[c]⟩],.cons ⟨t',rfl⟩ (.cons ⟨u,rfl⟩ .nil),(by show 2<=Xv;decide),T,c,rfl,hn,hx,rfl⟩
 done:=by
  intro X hP hw hK hc i bQ s σ H E I hf st hg;subst hP hw hK;have z:i=x.cps.size:=hg;subst z;exact zkG (fp:=[e,it]) (wr:=[e,it]) I hf (fun b hb=>hb) (WalksT.enumerateD (D X.A.in1 (I.ok.hd hc)) e hei (by simpa using hei) (by simp)) st
 self:=fun A i s Q E st h=>by
  obtain⟨⟨old,he⟩,_⟩:=st;exact SH he h
section
variable {X:Cx}{elts:List Expr}{k:Nat}{tpos:Pos}
def zo0 (K:X0)(ta:TA):TI:=fun σ H R=>ta σ H fun vs H1=>∃l,vs=[.ref l]/\(∃xs,SqL K H1 l xs)/\R (Ite K l) H1
theorem Yt {a:Expr}{ta:TA}{p pos:Pos}(hg:Gl X "enumerate")(hm:X.mg "enumerate"=none)(ha:PA X [a] ta)(hs:Wp [a] X.env=[(false,eval a X.env)]:=by rfl):PI X (.Tuple elts k tpos) (.Call (.Name "enumerate" p) [a] [] pos) (zo0 X.K ta):=by
 intro bQ s σ H R I h;refine Call_ (QE I hg hm boot_enumerate (VD (thn (ha pos bQ s σ H _ I h) fun us s1 ⟨vs,H1,I1,r1,q1⟩=>?_) hs rfl));obtain⟨l,rfl,⟨xs,hq⟩,q⟩:=q1;obtain⟨u,rfl,ru⟩:=vals1 r1;cases ru;obtain⟨its,rv,pl,hz⟩:=I1.list hq;obtain⟨ol,hol,_⟩:=pl.isList;have hlt:=XI hol;refine call_enumerate_list pl.isList fun h' he hit hsz kk=>?_;have I2:Inv X bQ σ H1 { s1 with heap:=h' }:=I1.kept (t':=s1.toks) kk;refine SH he ?_;refine⟨s1.heap.objs.size+1,[s1.heap.objs.size+1,s1.heap.objs.size],_,_,H1,rfl,I2,zjz (s1.heap.objs.size+1) s1.heap.objs.size l (Vo _) (Xe (Wx hlt)) (Xe hlt),⟨⟨_,he⟩,hit⟩,fun b hb=>?_,q⟩;have hb':s1.heap.objs.size<=b:=by
  rcases Xz.mp hb with e | hb
  ·rw[e];exact VT _
  ·have e:b=s1.heap.objs.size:=by simpa using hb
   rw[e];exact XW _
 exact I1.fpOk hb' (I1.hok.fresh hb')
def zo1 (ta:TA):TI:=fun σ H R=>ta σ H fun vs H1=>∃z,vs=[.str z]/\R (zmW z) H1
theorem zkH {a:Expr}{ta:TA}{p pos:Pos}(hg:Gl X "enumerate")(hm:X.mg "enumerate"=none)(ha:PA X [a] ta)(hs:Wp [a] X.env=[(false,eval a X.env)]:=by rfl):PI X (.Tuple elts k tpos) (.Call (.Name "enumerate" p) [a] [] pos) (zo1 ta):=by
 intro bQ s σ H R I h;refine Call_ (QE I hg hm boot_enumerate (VD (thn (ha pos bQ s σ H _ I h) fun us s1 ⟨vs,H1,I1,r1,q1⟩=>?_) hs rfl));obtain⟨z,rfl,q⟩:=q1;obtain⟨u,rfl,t,rfl⟩:=vals1 r1;refine call_enumerate_str fun h' he hit hsz kk=>?_;have I2:Inv X bQ σ H1 { s1 with heap:=h' }:=I1.kept (t':=s1.toks) kk;refine SH he ?_;have fpk:∀b ∈ [s1.heap.objs.size+1,s1.heap.objs.size],Q4 X bQ H1 b:=fun b hb=>by
  have hb':s1.heap.objs.size<=b:=by
   rcases Xz.mp hb with e | hb
   ·rw[e];exact VT _
   ·have e:b=s1.heap.objs.size:=by simpa using hb
    rw[e];exact XW _
  exact I1.fpOk hb' (I1.hok.fresh hb')
 unfold strIterType at hit;by_cases ha:z.cps.all (· < 128)=true
 ·rw[bw ha] at hit;exact⟨s1.heap.objs.size+1,[s1.heap.objs.size+1,s1.heap.objs.size],_,_,H1,rfl,I2,zb5 (s1.heap.objs.size+1) s1.heap.objs.size z t "str_ascii_iterator" (Vo _) (fun A hA=>Draws.strAscii hA _ z t),⟨⟨_,he⟩,hit⟩,fpk,q⟩
 ·rw[bq ha] at hit;exact⟨s1.heap.objs.size+1,[s1.heap.objs.size+1,s1.heap.objs.size],_,_,H1,rfl,I2,zb5 (s1.heap.objs.size+1) s1.heap.objs.size z t "str_iterator" (Vo _) (fun A hA=>Draws.strWide hA _ z t),⟨⟨_,he⟩,hit⟩,fpk,q⟩
theorem ZO:jM X (.type "int") (fun xs H Q=>∃x n,xs=[.str x]/\Pc x=some n/\x.length<=640/\Q (.int n) H):=by
 intro bQ s σ H xs us Q I r h;obtain⟨x,n,rfl,hn,hl,q⟩:=h;obtain⟨u,rfl,t,rfl⟩:=vals1 r;exact PySem.W.KIN.call_text hn hl ⟨.int n,H,I.tok _,⟨_,rfl⟩,q⟩
end
theorem YW {K:X0}{l:Addr}{xs:List V}{g:TG}{tb:TS}{D:Ends}{σ:St}{H:Hp}(Pv:Nat->St->Hp->Prop)(h0:Pv 0 σ H)(hl:∀i σ H,i<=xs.length->Pv i σ H->SqL K H l xs)
  (hs:∀i x T σ H,xs[i]?=some x->H T=none->Pv i σ H->g (.ref T) σ (upd H T (.tup [.int i,x])) fun σ2 H2=>tb { D with nx:=Pv (i+1),ct:=Pv (i+1),bk:=D.nx } σ2 H2) (hd:∀ σ H,Pv xs.length σ H->D.nx σ H) :
  ∃W:Nat->Nat->St->Hp->Prop,(∃m,W 0 m σ H)/\∀i m σ H,W i m σ H ->
   ((Ite K l).stop i H/\D.nx σ H)\/((Ite K l).go i H/\∃N:St->Hp->Prop,(∀ σ' H',N σ' H'->∃m',m'<m/\W (i+1) m' σ' H')/\∀x H',(Ite K l).yld i H x H'->g x σ H' fun σ2 H2=>tb { D with nx:=N,ct:=N,bk:=D.nx } σ2 H2):=by
 refine⟨fun i m σ H=>m=xs.length-i/\i<=xs.length/\Pv i σ H,⟨xs.length,by simp,W4 _,h0⟩,?_⟩;rintro i m σ H ⟨rfl,hi,p⟩;have q:=hl i σ H hi p;by_cases hlt:i<xs.length
 ·refine .inr ⟨⟨xs,q,hlt⟩,Pv (i+1),fun σ' H' p'=>⟨xs.length-(i+1),by lia,rfl,hlt,p'⟩,fun x H' y=>?_⟩;obtain⟨T,rfl,hT,y⟩:=y;obtain⟨v,hv,rfl⟩:=y xs q;exact hs i v T σ H hv hT p
 ·have e:i=xs.length:=by lia
  subst e;exact .inl ⟨⟨xs,q,rfl⟩,hd σ H p⟩
theorem zhe {g:TG}{tc:TT}{te:TE}{Q:VK}{σ:St}{H:Hp}{D:Addr}{x:Str}(Pv:Nat->St->Hp->Prop)(h0:Pv 0 σ H)
  (hs:∀i c T σ H,x.cps[i]?=some c->H T=none->Pv i σ H->g (.ref T) σ (upd H T (.tup [.int i,.str ⟨#[c]⟩])) fun σ2 H3=>tc σ2 H3 fun b H4=>if b=true then te σ2 H4 fun y H5=>∃ys,H5 D=some (.lst ys)/\ys.length<Xv/\Pv (i+1) σ2 (upd H5 D (.lst (ys++[y]))) else Pv (i+1) σ2 H4)
  (hd:∀ σ H,Pv x.cps.size σ H->Q (.ref D) H):Ze (zmW x) g tc te Q D σ H:=by
 refine⟨fun i m σ H=>m=x.cps.size-i/\i<=x.cps.size/\Pv i σ H,⟨x.cps.size,by simp,W4 _,h0⟩,?_⟩;rintro i m σ H ⟨rfl,hi,p⟩;by_cases hlt:i<x.cps.size
 ·refine .inr ⟨hlt,Pv (i+1),fun σ' H' p'=>⟨x.cps.size-(i+1),by lia,rfl,hlt,p'⟩,fun v H' y=>?_⟩;obtain⟨T,c,rfl,hT,hc,rfl⟩:=y;exact hs i c T σ H hc hT p
 ·have e:i=x.cps.size:=by lia
  subst e;exact .inl ⟨rfl,hd σ H p⟩
def zaO (look:Str->Option Addr):List (Str×Tz)->List (Str×Addr)->List (Str×Addr)
 | [],acc=>acc
 | (n,k)::r,acc=>if k == .free then (match look n with
  | some c=>zaO look r ((n,c)::acc)
  | none=>zaO look r acc) else zaO look r acc
theorem Zf {look:Str->Option Addr}:∀(names:List (Str×Tz)) (acc:List (Str×Addr)) (p:Str×Addr),p∈zaO look names acc->p∈acc\/look p.1=some p.2
 | [],acc,p,h=>.inl h
 | (n,k)::r,acc,p,h=>by
  unfold zaO at h;split at h
  ·cases e:look n with
   | none =>
    rw[e] at h;exact Zf r acc p h
   | some c =>
    rw[e] at h;rcases Zf r _ p h with h | h
    ·rcases Xz.mp h with h | h
     ·subst h;exact .inr e
     ·exact .inl h
    ·exact .inr h
  ·exact Zf r acc p h
theorem Zg {x n:Str}{c:Addr}{acc:List (Str×Addr)}(h:(acc.lookup x).isSome=true\/x=n):(Sa x ((n,c)::acc)).isSome=true:=by
 rw[Vn];cases e:x==n with
 | true=>rfl
 | false =>
  rcases h with h | h
  ·exact h
  ·subst h;simp at e
theorem zb6 {look:Str->Option Addr}{x:Str}(names:List (Str×Tz))(acc:List (Str×Addr))(h:(acc.lookup x).isSome=true\/((x,NameKind.free)∈names/\(look x).isSome=true)):((zaO look names acc).lookup x).isSome=true:=by
 induction names generalizing acc with
 | nil =>
  rcases h with h | h
  ·exact h
  ·cases h.1
 | cons y r ih =>
  obtain⟨n,k⟩:=y;unfold zaO;split
  ·rename_i hk;cases e:look n with
   | none =>
    refine ih acc ?_;rcases h with h | ⟨h,h2⟩
    ·exact .inl h
    ·rcases Xz.mp h with h | h
     ·cases h;rw[e] at h2;cases h2
     ·exact .inr ⟨h,h2⟩
   | some c =>
    refine ih _ ?_;rcases h with h | ⟨h,h2⟩
    ·exact .inl (Zg (.inl h))
    ·rcases Xz.mp h with h | h
     ·cases h;exact .inl (Zg (.inr rfl))
     ·exact .inr ⟨h,h2⟩
  ·rename_i hk;refine ih acc ?_;rcases h with h | ⟨h,h2⟩
   ·exact .inl h
   ·rcases Xz.mp h with h | h
    ·cases h;exact absurd rfl hk
    ·exact .inr ⟨h,h2⟩
theorem xR {scope:Uv}{env:Env}(h:∀y∈scope.names,y.2=.free->(env.cells.lookup y.1).isSome=true):Ox scope env=pure (zaO (fun x=>env.cells.lookup x) scope.names []):=by
 have go:∀(names:List (Str×Tz)) (acc:List (Str×Addr)),(∀y∈names,y.2=.free->(env.cells.lookup y.1).isSome=true) ->
   (forIn names acc fun x cs=>(match x with
    | (name,kind)=>if (kind == .free)=true then do let a <- cellOf env name;pure (Vu ((name,a)::cs)) else pure (Vu cs):Sem (ForInStep (List (Str×Addr)))))=(pure (zaO (fun x=>env.cells.lookup x) names acc):Sem _):=by
  intro names;induction names with
  | nil=>intro acc _;rfl
  | cons y r ih =>
   intro acc hy;obtain⟨n,k⟩:=y;have hr:∀y∈r,y.2=.free->(env.cells.lookup y.1).isSome=true:=fun y hm=>hy y (XR _ hm);rw[List.forIn_cons];unfold zaO;by_cases hk:(k==NameKind.free)=true
   ·have hk':k=.free:=by simpa using hk
    have hs:=hy (n,k) XT hk';obtain⟨c,hc⟩:=VH.mp hs;have hc':Sa n env.cells=some c:=hc;have e1:cellOf env n=pure c:=by
     unfold cellOf;rw[hc']
    simp only[hk,if_true,e1,hc',pure_bind];exact ih _ hr
   ·simp only[hk,Wh,if_false,pure_bind];exact ih _ hr
 simp only[Ox];exact Eq.trans (congrArg (fun m:Sem (List (Str×Addr))=>m >>= fun cs=>pure cs) (go scope.names [] h)) rfl
theorem yq {scope:Uv}{env:Env}{x:Str}{k:Tz}(h:(x,k)∈(Us scope env).names)(hk:k=.cell\/k=.free):(x,U4)∈scope.names\/(x,NameKind.free)∈scope.names:=by
 obtain⟨y,hy,e⟩:=XU.mp h;obtain⟨n,k0⟩:=y;by_cases c:(k0==NameKind.free&&env.scope.kind == .function&&env.kindOf n==some .cell)=true
 ·have e':(if (k0==NameKind.free&&env.scope.kind == .function&&env.kindOf n==some .cell)=true then (n,U4) else (n,k0))=(x,k):=e;rw[bw c] at e';cases e';have c1:k0=.free:=by
   have:=(Wt.mp (Wt.mp c).1).1;simpa using this
  subst c1;exact .inr hy
 ·have e':(if (k0==NameKind.free&&env.scope.kind == .function&&env.kindOf n==some .cell)=true then (n,U4) else (n,k0))=(x,k):=e;rw[bq c] at e';cases e';rcases hk with rfl | rfl
  ·exact .inl hy
  ·exact .inr hy
theorem zeL {scope:Uv}{env:Env}{x:Str}(hk:env.scope.kind=.function)(ho:env.kindOf x=some .cell)(h:scope.names.lookup x=some .free):(Us scope env).names.lookup x=some .cell:=by
 have go:∀names:List (Str×Tz),names.lookup x=some .free->(names.map fun (n,k)=>if (k==NameKind.free&&env.scope.kind == .function&&env.kindOf n==some .cell)=true then (n,U4) else (n,k)).lookup x=some .cell:=by
  intro names;induction names with
  | nil=>intro h;cases h
  | cons y r ih =>
   obtain⟨n,k⟩:=y;intro h;show Sa x ((if (k==NameKind.free&&env.scope.kind == .function&&env.kindOf n==some .cell)=true then (n,U4) else (n,k))::_)=_;rw[Vn] at h;cases e:x==n with
   | true =>
    rw[e] at h;have hk':k=.free:=Option.some.inj h;have hn:x=n:=by simpa using e
    subst hk' hn;rw[bw (by rw[hk,ho];rfl),Vn,beq_self_eq_true]
   | false =>
    rw[e] at h;by_cases c:(k==NameKind.free&&env.scope.kind == .function&&env.kindOf n==some .cell)=true
    ·rw[bw c,Vn,e];exact ih h
    ·rw[bq c,Vn,e];exact ih h
 exact go scope.names h
theorem zO.free {X:Cx}{N:List Str}{src:List (Option Nat)}{scope:Uv}{O:List (Str×Tz)}{XN:List Str}(hO:X.env.scope.names=O)(hK:X.env.scope.kind=.function)(hC:∃n,X.env.cells=RO n O [])(hX:X.N=XN)
  (kind:scope.kind=.function) (nocell:∀y∈scope.names,y.2 ≠ .cell) (names:∀y∈scope.names,y.2=.local->scope.names.lookup y.1=some .local) (fr:∀y∈scope.names,y.2=.free->O.lookup y.1=some .cell) (len:src.length=N.length)
  (pc:∀q∈N.zip src,q.2=none\/(∃j∈XF XN.length,q.2=some j/\XN[j]?=some q.1/\O.lookup q.1=some .cell/\scope.names.lookup q.1=some .free)):zO X N src scope (zaO (fun x=>X.env.cells.lookup x) scope.names []):=by
 have hs:∀y∈scope.names,y.2=.free->(X.env.cells.lookup y.1).isSome=true:=fun y hy e=>by
  obtain⟨n,hn⟩:=hC;rw[hn];exact Sz O n [] (.inl (fr y hy e))
 refine⟨kind,nocell,names,xR hs,fun x c h=>?_,fun x h=>?_,len,fun i j x h1 h2=>?_⟩
 ·rcases Zf _ _ _ (WE h) with z | z
  ·cases z
  ·exact z
 ·refine VH.mp (zb6 _ _ (.inr ?_));have hm:(x,U4)∈scope.names\/(x,NameKind.free)∈scope.names:=by
   rcases h with h | h
   ·exact yq (WE h) (.inl rfl)
   ·exact yq (WE h) (.inr rfl)
  rcases hm with hm | hm
  ·exact absurd rfl (nocell _ hm)
  ·exact⟨hm,hs _ hm rfl⟩
 ·have hm:(x,some j)∈N.zip src:=by
   refine XY (i:=i) ?_;rw[TK];exact⟨h1,h2⟩
  rcases pc _ hm with z | ⟨j',_,e,e1,e2,e3⟩
  ·cases z
  ·cases e;have ko:X.env.kindOf x=some .cell:=by
    show X.env.scope.names.lookup x=some .cell;rw[hO];exact e2
   exact⟨by rw[hX];exact e1,.inl ko,.inl (zeL hK ko e3)⟩
open PySem PySem.Spec PyProof.Rows PySem.W
section
variable {α β:Type}{R:α->β->Prop}{us us':List α}{cs cs':List β}{i:Nat}{v:α}{c:β}
theorem ZP (h:WU R us cs)(k:WU R us' cs'):WU R (us++us') (cs++cs'):=by
 induction h with
 | nil=>exact k
 | cons q _ ih=>exact .cons q ih
theorem zbc (h:WU R us cs)(e:us[i]?=some v):∃c,cs[i]?=some c/\R v c:=by
 induction h generalizing i with
 | nil=>cases e
 | cons q _ ih =>
  cases i with
  | zero =>
   cases e;exact⟨_,rfl,q⟩
  | succ i=>exact ih (i:=i) e
theorem zkI (h:WU R us cs)(e:v∈us):∃c∈cs,R v c:=by
 induction h with
 | nil=>cases e
 | cons q _ ih =>
  rcases Xz.mp e with rfl | e
  ·exact⟨_,XT,q⟩
  ·obtain⟨c,h,r⟩:=ih e;exact⟨c,XR _ h,r⟩
end
def ju (H:Hp):List V->List (Int×Int)->Prop:=WU fun v p=>∃a,v=V.ref a/\H a=some (.tup [.int p.1,.int p.2])
def lt2 (p q:Int×Int):Bool:=if p.1=q.1 then decide (p.2<q.2) else decide (p.1<q.1)
structure zw (h:Heap)(v:X9)(p:Int×Int):Prop where
 ex:∃a o n t u,v=.ref a/\h.get? a=some o/\o.cls=.type "tuple"/\o.data=.seq #[.int p.1 t,.int p.2 u] n
section
variable {X:Cx}{bQ:List (Addr×Obj)}{σ:St}{H:Hp}{s:X8}
theorem ju.pairs (I:Inv X bQ σ H s){us:List V}{ps:List (Int×Int)}{its:List X9}(hp:ju H us ps)(r:Vals us its):WU (zw s.heap) its ps:=by
 induction hp generalizing its with
 | nil =>
  cases r;exact .nil
 | cons q _ ih =>
  obtain⟨a,e,h⟩:=q;subst e;cases r with
  | cons r1 r2 =>
   cases r1;refine .cons ?_ (ih r2);obtain⟨items,rv,tp,_⟩:=I.tuple (SqT.of h);obtain⟨u1,u2,rfl,⟨t1,rfl⟩,⟨t2,rfl⟩⟩:=vals2 rv;obtain⟨ob,e1,c1,n,d1⟩:=tp;exact⟨a,ob,n,t1,t2,rfl,e1,c1,d1⟩
end
theorem ZQ {h h':Heap}(k:∀b o,h.get? b=some o->h'.get? b=some o):∀{its:List X9} {ps:List (Int×Int)},WU (zw h) its ps->WU (zw h') its ps
 | _,_,.nil=>.nil
 | _,_,.cons ⟨a,o,n,t,u,e,e1,r⟩ tl=>.cons ⟨a,o,n,t,u,e,k _ _ e1,r⟩ (ZQ k tl)
theorem ZR {h:Heap}:∀{its:List X9} {ps:List (Int×Int)},WU (zw h) its ps->∃fs:List X9,KatTups h its fs/\fs.length=its.length/\∀v∈fs,∃x t,v=Vw x t
 | _,_,.nil=>⟨[],.nil,rfl,fun _ z=>nomatch z⟩
 | _,_,.cons ⟨a,o,n,t,u,e,e1,c,d⟩ tl=>by
  obtain⟨fs,k,l,q⟩:=ZR tl;subst e;refine⟨.int _ t::fs,KatTups.cons e1 c d rfl k,by simp[l],fun v hv=>?_⟩;rcases Xz.mp hv with rfl | hv
  ·exact⟨_,t,rfl⟩
  ·exact q v hv
section
variable {prog:Xi}{w:WS}{A:WL}{E:X9->X8->Prop}{s:X8}
theorem ziz {v v':X9}{p q:Int×Int}{C:Bool->X8->Prop}(hv:zw s.heap v p)(hv':zw s.heap v' q)(h:C (lt2 p q) s):W7 (Xf prog w) A (keyLt' (tuples' true) v v') C E s:=by
 obtain⟨a,o,n,t,u,rfl,e1,c1,d1⟩:=hv;obtain⟨a',o',n',t',u',rfl,e1',c1',d1'⟩:=hv';refine kat_lt e1 d1 e1' d1' ?_;show KatLex prog w A true _ C [(Vw p.1 t,Vw q.1 t'),(Vw p.2 u,Vw q.2 u')] 0 s;unfold lt2 at h;refine kat_cons (SeqAt.EqAt.int_int _ _ _ _ prog w _ _ (kat_go (fun ee=>kat_yes ?_) fun ee=>kat_no ?_))
 ·have e:p.1=q.1:=by simpa using ee
  rw[bw e] at h;refine kat_cons (SeqAt.EqAt.int_int _ _ _ _ prog w _ _ (kat_go (fun e2=>kat_yes (kat_nil ?_)) fun e2=>kat_no ?_))
  ·have e3:p.2=q.2:=by simpa using e2
   have e4:decide (p.2<q.2)=false:=bg (by lia);rw[e4] at h;exact h
  ·exact kat_one _ _ (lt_int h)
 ·have e:¬ p.1=q.1:=by simpa using ee
  rw[bq e] at h;exact oneLt_int h
end
section
variable {X:Cx}
theorem zfL:zp9 X (zqk X.K):=by
 intro bQ s σ H x y v u Q I rx ry h;obtain⟨p,xs,i,z,rfl,rfl,hq,he,q⟩:=h;cases rx;obtain⟨t,rfl⟩:=ry;obtain⟨its,r,pl,hz⟩:=I.list hq;obtain⟨j,h1,h2,h3,h4,h5⟩:=zbL he;obtain⟨w,ew,rw'⟩:=r.get h2;have hl:=r.length;have hn:=Yp;have fin:EP X bQ σ Q w s:=⟨z,H,I,rw',q⟩;by_cases h0:0<=i
 ·have hj:i.toNat=j:=by
   rw[Pg h0 h5] at h1;exact Option.some.inj h1
  exact wpAny_getItem_list pl.isList h0 (by lia) (by rw[hj];simpa using ew) fin
 ·have hj:(i+(its.toArray.size:Int)).toNat=j:=by
   rw[PL (by lia) h4] at h1;rw[Xn,<- hl];exact Option.some.inj h1
  exact PH pl.isList (by lia) (by rw[Xn]<;>lia) (by lia) (by rw[hj];simpa using ew) fin
theorem zfM:∀{ns:List Int} {its:List X9},Vals (ns.map V.int) its->OW its ns
 | [],_,r=>by cases r;exact .nil
 | n::ns,_,r=>by
  cases r with
  | cons r1 r2 =>
   obtain⟨t,rfl⟩:=r1;exact .cons n t (zfM r2)
theorem zkJ (hc:X.calm=true):jM X (.builtin "sum") (fun xs H Q=>∃(l:Addr) (ns:List Int),xs=[.ref l]/\SqL X.K H l (ns.map V.int)/\Q (.int ns.sum) H):=by
 intro bQ s σ H xs us Q I r h;obtain⟨l,ns,rfl,hq,q⟩:=h;obtain⟨u,rfl,ru⟩:=vals1 r;cases ru;obtain⟨its,rv,pl,hz⟩:=I.list hq;have hi:OW its ns:=zfM rv;obtain⟨ys,ey⟩:=hi.allInts.items;refine sum_intListG (I.ok.hd hc) (xs:=ys) (ey ▸ pl.isList) fun h' tk t' hk=>?_;have f1:ns=ys.toList.map (·.1):=by
  rw[<- nums_intItems,<- ey];exact(show numsOf its.toArray.toList=ns from hi.numsOf).symm
 have f2:preSum (numAt ys) ys.size=ns.sum:=by
  rw[f1,preSum_eq,WB (by simp)]
 rw[f2];exact⟨.int _,H,I.kept hk,⟨_,rfl⟩,q⟩
theorem zjA {bs:List Bool}{its:List X9}(r:Vals (bs.map V.bl) its){i:Nat}{v:X9}(e:its[i]?=some v):∃b,bs[i]?=some b/\v=.bool b:=by
 have hl:=r.length;rw[ZB] at hl;have hi:i<bs.length:=by
  have:=(X2.mp e).1;lia
 obtain⟨u,hu,ru⟩:=r.get (i:=i) (x:=.bl bs[i]) (by rw[Xk,XX hi];rfl);rw[hu] at e;cases e;exact⟨bs[i],XX hi,ru⟩
theorem zfN (hc:X.calm=true):jM X (.builtin "any") (fun xs H Q=>∃(l:Addr) (bs:List Bool),xs=[.ref l]/\SqL X.K H l (bs.map V.bl)/\Q (.bl (bs.any id)) H):=by
 intro bQ s σ H xs us Q I r h;obtain⟨l,bs,rfl,hq,q⟩:=h;obtain⟨u,rfl,ru⟩:=vals1 r;cases ru;obtain⟨its,rv,pl,hz⟩:=I.list hq;have hl:=pl.isList;have hlt:l<s.heap.objs.size:=let ⟨_,he,_⟩:=hl;XI he
 have hln:=rv.length;rw[ZB] at hln;refine call_any_walk (SK hl ?_);refine⟨s.heap.objs.size,[s.heap.objs.size,l],[s.heap.objs.size],its.toArray.size,_,_,fun i=>(bs[i]?).getD false,rfl,Walks.list (A:=X.A.in1) (I.ok.hd hc) _ l (Xe hlt) its.toArray,
  ⟨⟨_,Xd _ rfl,rfl,rfl⟩,hl.push _⟩,fun i v s' Q' E' hP hQ=>?_,fun h' tk hk=>?_⟩
 ·obtain⟨b,eb,rfl⟩:=zjA rv (i:=i) (v:=v) (by simpa using hP);simp only[eb,TQ] at hQ;exact VN hQ
 ·have e:((XF its.toArray.size).any fun i=>(bs[i]?).getD false)=bs.any id:=by
   rw[Xn,<- hln];exact LSm.range_any bs
  rw[e];exact⟨.bl _,H,I.kept (LSm.kept_iter hk),rfl,q⟩
end
mutual
inductive Rdn (N:Addr->Prop)(H:Hp):V->V8->Prop
 | non:Rdn N H .non .none
 | bl (b:Bool):Rdn N H (.bl b) (.bool b)
 | int (i:Int):Rdn N H (.int i) (.int i)
 | str (x:Str):Rdn N H (.str x) (.str x)
 | lst {a:Addr} {xs:List V} {ds:List V8}:N a->H a=some (.lst xs)->zB N H xs ds->Rdn N H (.ref a) (.list ds)
 | tup {a:Addr} {xs:List V} {ds:List V8}:H a=some (.tup xs)->zB N H xs ds->Rdn N H (.ref a) (.tuple ds)
inductive zB (N:Addr->Prop)(H:Hp):List V->List V8->Prop
 | nil:zB N H [] []
 | cons {x:V} {d:V8} {xs:List V} {ds:List V8}:Rdn N H x d->zB N H xs ds->zB N H (x::xs) (d::ds)
end
section
variable {K:X0}{N N':Addr->Prop}{H H':Hp}
theorem Rdn.rdv {v:V}{d:V8}(h:Rdn N H v d):Rdv K H v d :=
 Rdn.rec (motive_1:=fun v d _=>Rdv K H v d) (motive_2:=fun vs ds _=>yQ K H vs ds) .non .bl .int .str (fun _ h _ t=>.lst (SqL.of h) t) (fun h _ t=>.tup (SqT.of h) t) .nil (fun _ _ a t=>.cons a t) h
theorem zB.rdv {vs:List V}{ds:List V8}(h:zB N H vs ds):yQ K H vs ds :=
 zB.rec (motive_1:=fun v d _=>Rdv K H v d) (motive_2:=fun vs ds _=>yQ K H vs ds) .non .bl .int .str (fun _ h _ t=>.lst (SqL.of h) t) (fun h _ t=>.tup (SqT.of h) t) .nil (fun _ _ a t=>.cons a t) h
theorem Rdn.mono (s:zq H H')(i:∀a,N a->N' a){v:V}{d:V8}(h:Rdn N H v d):Rdn N' H' v d :=
 Rdn.rec (motive_1:=fun v d _=>Rdn N' H' v d) (motive_2:=fun vs ds _=>zB N' H' vs ds) .non .bl .int .str (fun n h _ t=>.lst (i _ n) (s _ _ h) t) (fun h _ t=>.tup (s _ _ h) t) .nil (fun _ _ a t=>.cons a t) h
theorem zB.mono (s:zq H H')(i:∀a,N a->N' a){vs:List V}{ds:List V8}(h:zB N H vs ds):zB N' H' vs ds :=
 zB.rec (motive_1:=fun v d _=>Rdn N' H' v d) (motive_2:=fun vs ds _=>zB N' H' vs ds) .non .bl .int .str (fun n h _ t=>.lst (i _ n) (s _ _ h) t) (fun h _ t=>.tup (s _ _ h) t) .nil (fun _ _ a t=>.cons a t) h
theorem zB.into {D:Addr}{o:HO}{old:List V}(hD:H D=some (.lst old))(i:∀a,N a->a≠D){vs:List V}{ds:List V8}(h:zB N H vs ds):zB N (upd H D o) vs ds :=
 zB.rec (motive_1:=fun v d _=>Rdn N (upd H D o) v d) (motive_2:=fun vs ds _=>zB N (upd H D o) vs ds) .non .bl .int .str (fun n h _ t=>.lst n (by rw[zf (i _ n)];exact h) t) (fun h _ t=>.tup (by rw[zf (zkp h hD (by intro z;cases z))];exact h) t) .nil (fun _ _ a t=>.cons a t) h
theorem Rdn.keep (s:zq H H'){v:V}{d:V8}(h:Rdn N H v d):Rdn N H' v d:=h.mono s fun _ n=>n
theorem zB.keep (s:zq H H'){vs:List V}{ds:List V8}(h:zB N H vs ds):zB N H' vs ds:=h.mono s fun _ n=>n
theorem zB.append {vs ws:List V}{ds es:List V8}(h:zB N H vs ds)(k:zB N H ws es):zB N H (vs++ws) (ds++es) :=
 zB.rec (motive_1:=fun _ _ _=>True) (motive_2:=fun vs ds _=>zB N H (vs++ws) (ds++es))
  trivial (fun _=>trivial) (fun _=>trivial) (fun _=>trivial) (fun _ _ _ _=>trivial) (fun _ _ _=>trivial) k (fun a _ _ t=>.cons a t) h
theorem zB.snoc {vs:List V}{ds:List V8}{v:V}{d:V8}(h:zB N H vs ds)(k:Rdn N H v d):zB N H (vs++[v]) (ds++[d]):=h.append (.cons k .nil)
theorem zB.paired {vs:List V}{ds:List V8}(h:zB N H vs ds):WU (Rdn N H) vs ds :=
 zB.rec (motive_1:=fun _ _ _=>True) (motive_2:=fun vs ds _=>WU (Rdn N H) vs ds)
  trivial (fun _=>trivial) (fun _=>trivial) (fun _=>trivial) (fun _ _ _ _=>trivial) (fun _ _ _=>trivial) .nil (fun a _ _ t=>.cons a t) h
theorem zB.length {vs:List V}{ds:List V8}(h:zB N H vs ds):vs.length=ds.length:=Paired.length h.paired
theorem zB.get {vs:List V}{ds:List V8}{i:Nat}{v:V}(h:zB N H vs ds)(e:vs[i]?=some v):∃d,ds[i]?=some d/\Rdn N H v d:=zbc h.paired e
end
section
variable {K:X0}{g:TG}{tc:TT}{te:TE}{Q:VK}{σ0:St}{H1:Hp}{D:Addr}
def zmX (N:Addr->Prop)(inv:St->Prop)(H:Hp)(o:Option V8)(Y:St->V->Hp->Prop):Prop:=∀d y σ2 H5,o=some d->inv σ2->zq H H5->Rdn N H5 y d->Y σ2 y H5
def zo2 (inv:St->Prop)(H:Hp)(o:Option V8)(Z:St->Hp->Prop):Prop:=∀ σ2 H4,o=none->inv σ2->zq H H4->Z σ2 H4
theorem jd {a:Addr}{xs:List V}(N:Addr->Prop)(outs:List (Option V8))(inv:St->Prop)(hD:H1 D=none)(hN:∀a,N a->a≠D)(h0:inv σ0)(hlen:outs.length=xs.length)(hz:xs.length<=100000)
  (hl:SqL K H1 a xs)
  (hs:∀(i:Nat) (x:V) (o:Option V8) (σ:St) (H:Hp),xs[i]?=some x->outs[i]?=some o->zq H1 H->H D≠none->inv σ->∀Y Z,zmX N inv H o Y->zo2 inv H o Z ->
   g x σ H fun σ2 H3=>tc σ2 H3 fun b H4=>if b=true then te σ2 H4 fun y H5=>Y σ2 y H5 else Z σ2 H4)
  (hd:∀ys H',zq H1 H'->H' D=some (.lst ys)->zB N H' ys (outs.filterMap id)->Q (.ref D) H'):Ze (Itl K a) g tc te Q D σ0 (upd H1 D (.lst [])):=by
 refine qf (K:=K) (a:=a) (xs:=xs) (fun i σ H'=>inv σ/\zq H1 H'/\∃ys,H' D=some (.lst ys)/\ys.length<=i/\zB N H' ys ((outs.take i).filterMap id)) ⟨h0,zd hD,[],zb,XW _,.nil⟩ (fun i σ H' _ ⟨_,s,_⟩=>s.seq hl) ?_ ?_
 ·rintro i x σ H hx ⟨hi,s,ys,hy,yl,hr⟩;have hil:i<xs.length:=(X2.mp hx).1;obtain⟨o,ho⟩:∃o,outs[i]?=some o:=⟨outs[i]'(by lia),XX (by lia)⟩;have step:(outs.take (i+1)).filterMap id=(outs.take i).filterMap id++o.toList:=by
   rw[Xu,ho,List.filterMap_append];cases o<;>rfl
  refine hs i x o σ H hx ho s (by rw[hy];exact fun z=>nomatch z) hi _ _ (fun d y σ2 H5 e hi2 s5 hr5=>?_) (fun σ2 H4 e hi2 s4=>?_)
  ·subst e;refine⟨ys,s5 _ _ hy,XA yl (XJ hil (X4 hz (by decide))),hi2,fun b ob e=>?_,ys++[y],zb,?_,?_⟩
   ·rw[zf (zg e hD)];exact s5 _ _ (s _ _ e)
   ·rw[X5];exact O5 yl 1
   ·rw[step];exact zB.into (s5 _ _ hy) hN (zB.snoc (hr.keep s5) hr5)
  ·subst e;refine⟨hi2,s.trans s4,ys,s4 _ _ hy,VL yl,?_⟩;rw[step];simpa using hr.keep s4
 ·rintro σ H ⟨_,s,ys,hy,_,hr⟩;rw[<- hlen,Xy] at hr;exact hd ys H s hy hr
theorem zhf {a:Addr}{xs:List V}(Pv:Nat->St->Hp->Prop){H:Hp}(h0:Pv 0 σ0 H)(hl:∀i σ H,i<=xs.length->Pv i σ H->SqL K H a xs)
  (hs:∀i x T σ H,xs[i]?=some x->H T=none->Pv i σ H->g (.ref T) σ (upd H T (.tup [.int i,x])) fun σ2 H3=>tc σ2 H3 fun b H4=>if b=true then te σ2 H4 fun y H5=>∃ys,H5 D=some (.lst ys)/\ys.length<Xv/\Pv (i+1) σ2 (upd H5 D (.lst (ys++[y]))) else Pv (i+1) σ2 H4)
  (hd:∀ σ H,Pv xs.length σ H->Q (.ref D) H):Ze (Ite K a) g tc te Q D σ0 H:=by
 refine⟨fun i m σ H=>m=xs.length-i/\i<=xs.length/\Pv i σ H,⟨xs.length,by simp,W4 _,h0⟩,?_⟩;rintro i m σ H ⟨rfl,hi,p⟩;have q:=hl i σ H hi p;by_cases hlt:i<xs.length
 ·refine .inr ⟨⟨xs,q,hlt⟩,Pv (i+1),fun σ' H' p'=>⟨xs.length-(i+1),by lia,rfl,hlt,p'⟩,fun x H' y=>?_⟩;obtain⟨T,rfl,hT,y⟩:=y;obtain⟨v,hv,rfl⟩:=y xs q;exact hs i v T σ H hv hT p
 ·have e:i=xs.length:=by lia
  subst e;exact .inl ⟨⟨xs,q,rfl⟩,hd σ H p⟩
theorem zac {i:Nat}{v:V}{σ:St}{H:Hp}{A B:St->Hp->Prop}(h:A (σ.set i (some v)) H):yE i v σ H fun σ2 H3=>zmV σ2 H3 fun b H4=>if b=true then A σ2 H4 else B σ2 H4:=by
 show if true=true then A (σ.set i (some v)) H else B (σ.set i (some v)) H
 exact Qj h
end
def xW:List X9:=[.type "ValueError",.type "Exception",.type "BaseException",.type "object"]
structure Fly (P:Xi)(w:WS)(outer:List Env)(H:Hp)(s:X8)(e C:Addr)(a0:X9)(B:Heap)(H':Hp)(s':X8):Prop where
 fly:Oo B outer e (.ref C) a0 s'.heap
 os:s'.os=s.os
 bare:Sf s'.gens
 un:Un (frs outer) [] H H' s.heap s'.heap
 ok:HOk P w H' B
 kB:∀b o,s.heap.get? b=some o->H b=none->b ∉ frs outer->B.get? b=some o
 tB:∀b o,s.heap.get? b=some o->b ∉ frs outer->∃o',B.get? b=some o'
 new:s.heap.get? e=none
 free:H' e=none
def CXE (P:Xi)(w:WS):CXT:=fun outer H s E x s'=>∃(e C:Addr) (a0:X9) (B:Heap) (H':Hp),x=.ref e/\Fly P w outer H s e C a0 B H' s'/\E (.ref C) none H'
theorem zkK {P:Xi}{w:WS}{H:Hp}{h:Heap}{a:Addr}:∀{o:HO},qA P w H h a o->∃ob,h.get? a=some ob
 | .lst _,x=>by obtain⟨_,_,_,_,q⟩:=x;exact⟨_,q⟩
 | .tup _,x=>by obtain⟨_,_,_,ob,q,_⟩:=x;exact⟨ob,q⟩
 | .dK _,x=>by obtain⟨_,_,_,_,ob,_,_,q,_⟩:=x;exact⟨ob,q⟩
 | .dT _,x=>by obtain⟨_,_,_,_,ob,_,_,q,_⟩:=x;exact⟨ob,q⟩
 | .set _ _,x=>by obtain⟨ob,_,_,_,q,_⟩:=x;exact⟨ob,q⟩
 | .ins _ _ _,x=>by obtain⟨_,_,_,q,_⟩:=x;exact⟨_,q⟩
 | .own _,x=>x
 | .xd _,x=>by obtain⟨_,⟨ob,_,_,q,_⟩,_⟩:=x;exact⟨ob,q⟩
 | .met _ _,x=>⟨_,x⟩
 | .rng _ _,x=>by obtain⟨_,_,_,q⟩:=x;exact⟨_,q⟩
 | .frz _ _,x=>⟨_,x.1⟩
 | .tbl _,x=>⟨_,x⟩
 | .ext _,x=>x.2.1
section
variable {X:Cx}{bQ:List (Addr×Obj)}{σ:St}{H H':Hp}{s s':X8}{e C:Addr}{a0:X9}{B h2:Heap}
theorem Inv.notLoc (I:Inv X bQ σ H s){b:Addr}{o:Obj}(q:X.s₀.heap.get? b=some o):b≠X.env.locals:=fun z=>V5 _ (XJ (z ▸ XI q) I.ok.above)
theorem Inv.notStk (I:Inv X bQ σ H s){b:Addr}{o:Obj}(q:X.s₀.heap.get? b=some o)(hb:b ∉ X.fs):b ∉ frs X.stack:=fun z=>by
 rcases Xz.mp (I.stkSub b z) with r | r
 ·exact I.notLoc q r
 ·exact hb r
theorem Inv.flies (I:Inv X bQ σ H s)(hex:X.ex=[])(F:Oo B X.outer e (.ref C) a0 h2)(up:s'.heap.UpToSlots h2)(os:s'.os=s.os)(bare:Sf s'.gens)(un:Un (frs X.stack) [] H H' s.heap s'.heap)(ok:HOk X.prog X.w H' B)
  (kB:∀b o,s.heap.get? b=some o->H b=none->b ∉ frs X.stack->B.get? b=some o) (tB:∀b o,s.heap.get? b=some o->b ∉ frs X.stack->∃o',B.get? b=some o') (new:s.heap.get? e=none) (free:H' e=none) :
  Fly X.prog X.w X.outer X.H₀ X.s₀ e C a0 B H' { s' with heap:=h2 }:=by
 have nx:∀b,b ∉ X.ex:=fun b z=>by rw[hex] at z;cases z
 have keep:∀b o,X.s₀.heap.get? b=some o->X.H₀ b=none->b ∉ X.fs->B.get? b=some o:=fun b o q n hb =>
  kB b o (I.base.keep b o q n hb (nx b)) (I.base.free b o q n (nx b)) (I.notStk q hb)
 have there:∀b o,X.s₀.heap.get? b=some o->b ∉ X.fs->∃o',B.get? b=some o':=fun b o q hb=>by
  obtain⟨o',q'⟩:=I.base.there b o q (nx b);exact tB b o' q' (I.notStk q hb)
 have slot:∀b o,X.s₀.heap.get? b=some o->b∈X.fs->∃sl,h2.get? b=some { o with slots:=sl }:=fun b o q hb=>by
  obtain⟨_,o1,q1,nf⟩:=I.ok.funs.mem hb;rw[q] at q1;cases q1;obtain⟨sl,q2⟩:=I.base.slot b o q (I.ok.frf b hb) hb (nx b);obtain⟨sl2,q3⟩:=un.any q2 (I.base.free b o q (I.ok.frf b hb) (nx b)) (fun z=>nomatch z);obtain⟨sl3,q4⟩:=up b _ q3 nf;exact⟨sl3,q4⟩
 refine⟨F,os.trans I.os,bare,⟨fun b o q n hb _=>F.1 b o (keep b o q n hb),fun b o q _ hb _=>slot b o q hb,fun b o q n _=>?_,fun b o q _=>?_,fun b xs q=>un.tups b xs (I.base.tups b xs q),fun b o u q=>un.frzs b o u (I.base.frzs b o u q),fun b ps q=>?_⟩,ok,keep,there,?_,free⟩
 ·obtain⟨o',q'⟩:=I.base.there b o q (nx b);exact un.free b o' q' (I.base.free b o q n (nx b)) fun z=>nomatch z
 ·by_cases hb:b∈X.fs
  ·obtain⟨sl,r⟩:=slot b o q hb;exact⟨_,r⟩
  ·obtain⟨o',r⟩:=there b o q hb;exact⟨o',F.1 b o' r⟩
 ·obtain⟨m1,r1⟩:=I.base.tbls b ps q;obtain⟨m2,r2⟩:=un.tbls b _ r1;exact⟨m1++m2,by rw[r2,Array.append_assoc]⟩
 ·cases q:X.s₀.heap.get? e with
  | none=>rfl
  | some o =>
   obtain⟨o',q'⟩:=I.base.there e o q (nx e);rw[new] at q';cases q'
structure Yu (X:Cx)(E:XK):Prop where
 stk:X.stack=X.env::X.outer
 fr:X.env.frame=some X.env.locals
 ex:X.ex=[]
 xe:X.xe=fun x s'=>W7 (Xf X.prog X.w) X.A (leaving X.env x) (fun _ s''=>CXE X.prog X.w X.outer X.H₀ X.s₀ E x s'') (fun x' s''=>CXE X.prog X.w X.outer X.H₀ X.s₀ E x' s'') s'
theorem zdJ {P:Xi}{w:WS}{K:X0}{mg:Str->Option X9}{base:Heap}{N:List Str}{qual:Str}{scope:Uv}{f:Addr}{cd:X9}{A:WL}{outer:List Env}{s:X8}{H:Hp}{E:XK} :
  Yu (zfC (CXE P w) P w K mg base N qual scope f cd A outer s H E) E:=⟨rfl,rfl,rfl,rfl⟩
theorem zo3 {l:List Env}:∀env∈l,∀a,env.frame=some a->a∈frs l:=fun env he a hf=>Te.mpr ⟨env,he,hf⟩
theorem Yu.made {E:XK}(L:Yu X E)(I:Inv X bQ σ H s){h1:Heap}{vs:List X9}(hx:Heap.MadeExcOf s.heap h1 e (.ref C) vs)(hE:E (.ref C) none H):X.xe (.ref e) { s with heap:=h1 }:=by
 rw[L.xe];have hs:=I.stack;have nb:∀a o,H a=some o->a ∉ frs X.stack:=fun a o q z=>by
  rw[I.stkFree a z] at q;cases q
 have own:∀a b,H b=some (.own a)->b ∉ frs X.stack:=fun a b q=>nb b _ q;have fresh:H e=none:=by
  cases q:H e with
  | none=>rfl
  | some o =>
   obtain⟨o',q'⟩:∃o',s.heap.get? e=some o':=by
    exact zkK (I.hok e o q)
   rw[hx.new] at q';cases q'
 refine wpAny_leaves_madeW (base:=PySem.W.hideAll s.heap (frs X.stack)) (L:=X.env.locals) (by rw[I.ok.frames,L.stk]) L.fr (fun b o q=>PySem.W.of_hideAll _ q) (PySem.W.funFrames_hide (by rw[<- L.stk];exact hs) (by rw[<- L.stk];exact zo3)) hx fun h' t x1 x2 x3 x4=>?_;refine⟨e,C,_,_,H,rfl,I.flies (s':={ s with heap:=h1 }) L.ex x1 x4 rfl I.bare (Un.kept hx.keeps) ?_ (fun b o q _ hb=>TH _ q hb) (fun b o q hb=>⟨o,TH _ q hb⟩) hx.new fresh,hE⟩;exact fun a o q=>(I.hok a o q).stay (fun b u hb r=>TH _ r (by
  rcases hb with hb | hb
  ·rw[hb];exact nb a o q
  ·exact own a b hb)) (fun _ r=>r) fun _ _ r=>r
theorem Yu.passes {E:XK}(L:Yu X E):Passes (CXE X.prog X.w) X E:=by
 intro bQ σ H s x s' I h;obtain⟨e,C,a0,B,H',rfl,F,hE⟩:=h;rw[L.xe];have ff:=F.fly;rw[L.stk] at ff;refine wpAny_leaves_onW (by rw[I.ok.frames,L.stk]) L.fr ff fun h2 x1 x2=>?_;exact⟨e,C,a0,B,H',rfl,I.flies L.ex x1 x2 F.os F.bare F.un F.ok F.kB F.tB F.new F.free,hE⟩
end
structure qK (K:X0)(mg:Str->Option X9)(x:Str)(C:Addr):Prop where
 g:mg x=some (.ref C)
 q:Wu K C xW "ValueError.__new__"=true
structure zob (h:Heap)(C:Addr)(bm:List X9):Prop where
 ex:∃N nm qn bs hdct sn sub ab col dd k0 k1 k2 k3 k5 mN,h.get? C=some (excClassObj nm qn C N bs bm hdct sn sub ab col dd k0 k1 k2 k3 k5 "ValueError.__new__")/\h.Ns N mN/\mN "__init__"=none
 tl:OwnTail h xW bm
theorem zoc {K:X0}{h:Heap}{C:Addr}(kin:K.In h)(hq:Wu K C xW "ValueError.__new__"=true):∃bm,zob h C bm:=by
 unfold Wu at hq;split at hq
 ·rename_i dd cd sl look;split at hq
  ·rename_i C' bm k0 k1 k2 k3 n k5 em es;simp only[V6,beq_iff_eq,WT] at hq;obtain⟨⟨⟨⟨⟨rfl,rfl⟩,nodel⟩,tailok⟩,nsok⟩,noinit⟩:=hq;obtain⟨nm,bs,mro,ns,qn,hd,sn,sub,ab,col,del⟩:=cd;dsimp only at em nodel nsok noinit;subst em nodel;have esl:sl=#[k0,k1,k2,k3,some (.builtin "ValueError.__new__"),k5]:=by
    obtain⟨l⟩:=sl;simp only at es;rw[es]
   subst esl;exact⟨bm,⟨ns,nm,qn,bs,hd,sn,sub,ab,col,dd,k0,k1,k2,k3,k5,_,kin _ _ look,.of_isNs (PySem.W.isNs_of_in kin nsok),PySem.W.nsMap_none_of_in kin nsok noinit⟩,PySem.W.tail_of_in kin tailok⟩
  ·cases hq
 ·cases hq
section
variable {X:Cx}
def zo4 (E:XK)(C:Addr)(t:TA):TS:=fun _ σ H=>t σ H fun vs H1=>vs.length<=Xv/\E (.ref C) none H1
theorem zkL {x:Str}{C:Addr}{np cpos pos:Pos}{e0:Expr}{rest:List Expr}{t:TA}{E:XK}(L:Yu X E)(O:qK X.K X.mg x C)(hg:Gl X x)(hc:X.calm=true)(ha:PA X (e0::rest) t)
  (he:Wp (e0::rest) X.env=(false,eval e0 X.env)::Wp rest X.env:=by rfl) (hp:(S4 cpos (Wp rest X.env)).any (·.1)=false:=by rfl) (hdb:(x==("__debug__":Str))=false:=by decide) :
  PS X (.Raise (some (.Call (.Name x np) (e0::rest) [] cpos)) none pos) (zo4 E C t):=by
 intro bQ s σ H D I h;obtain⟨bm,⟨N,nm,qn,bs,hdct,sn,sub,ab,col,dd,k0,k1,k2,k3,k5,mN,hC,hN,hni⟩,T⟩:=zoc I.ok.mod.kin O.q;refine wpAny_Raise_call_subU (C:=C) (nm:=nm) (q:=qn) (N:=N) (bs:=bs) (bm:=bm) (hdct:=hdct) (sn:=sn) (sub:=sub) (ab:=ab) (col:=col) (dd:=dd) (k0:=k0) (k1:=k1) (k2:=k2) (k3:=k3) (k5:=k5)
  RD (by decide) RD (mN:=mN) (T.hasType PySem.F.excBase_ValueError.hasBase) (I.ok.hd hc) (by rw[he];show (false || (S4 cpos (Wp rest X.env)).any (·.1))=false;rw[hp];rfl) hni (Q3 I hg O.g ⟨rfl,?_⟩ hdb)
 have a:=ha cpos bQ s σ H _ I h;rw[he] at a ⊢;refine O7 (thn a fun us s2 ⟨vs,H1,I1,r,hz,q⟩=>?_);exact⟨rfl,by rw[<- r.length];exact hz,I1.bk _ _ hC,hN.keeps I1.bk,T.keeps I1.bk,fun h' e hx=>L.made I1 hx q⟩
def markX (X:Cx)(e:Addr):Cx:={ X with A:=X.A.mark (some (.ref e)),calm:=false,xe:=fun _ _=>False }
variable {bQ:List (Addr×Obj)}{σ:St}{H:Hp}{s:X8}
theorem Cx.Ok.mark (ok:X.Ok)(e:Addr):(markX X e).Ok :=
 ⟨ok.mod,ok.kind,ok.glob,ok.blt,ok.above,ok.inj,ok.has,ok.cab,(fun z=>nomatch z),ok.frames,ok.stk,ok.exf,ok.bs,ok.bsz,ok.noex,ok.exfs,ok.funs,ok.frf⟩
theorem Inv.mark (I:Inv X bQ σ H s)(e:Addr):Inv (markX X e) bQ σ H s:=⟨I.ok.mark e,I.os,I.bare,I.base,I.loc,I.cell,I.free,I.freeC,I.pin,I.hok,I.len⟩
theorem Inv.unmark {e:Addr}(I:Inv (markX X e) bQ σ H s)(ok:X.Ok):Inv X bQ σ H s:=⟨ok,I.os,I.bare,I.base,I.loc,I.cell,I.free,I.freeC,I.pin,I.hok,I.len⟩
def zo5 (e C:Addr)(h:Heap):Prop:=∃ob vs,h.get? e=some ob/\ob.cls=.ref C/\ob.data=.fields vs
def exO (e C:Addr):HO:=.ext (zo5 e C)
theorem Inv.nameGoes {M:Ob}{A:WL}{E:X9->X8->Prop}{j:Nat}{n:Str}{pos:Pos}{Q:Unit->X8->Prop}(I:Inv X bQ σ H s)(hN:X.N.Nodup)(hj:X.N[j]?=some n)(hl:X.env.scope.names.lookup n=some .local)
  (h:∀s',Inv X bQ (σ.set j none) H s'->Q () s'):W7 M A (do bindName X.env n .none;unbindBehindTheSuite X.env n pos) Q E s:=by
 obtain⟨m,hn,hlk⟩:=id I.loc;refine wpAny_nameGoes_keeps hl hn (by rw[I.ok.kind];rfl) fun h' v hn' sb=>h _ ?_;have other:∀b o,b≠X.env.locals->s.heap.get? b=some o->h'.get? b=some o:=fun b o hb q=>(sb.2 b hb).trans q;obtain⟨oL,_,_,hoL,_⟩:=id hn;have low:∀b o,X.s₀.heap.get? b=some o->b≠X.env.locals:=fun b o q=>I.notLoc q;refine⟨I.ok,I.os,I.bare,⟨fun b o q n hb hx=>other b o (low b o q) (I.base.keep b o q n hb hx),fun b o q n hb hx=>?_,I.base.free,fun b o q hx=>?_,I.base.tups,I.base.frzs,I.base.tbls⟩,⟨_,hn',fun i y v' e1 e2 e3=>?_⟩,fun y c q=>?_,I.free,I.freeC,fun p hp=>?_,fun b ob q=>?_,by simpa using I.len⟩
 ·obtain⟨sl,r⟩:=I.base.slot b o q n hb hx;exact⟨sl,other b _ (low b o q) r⟩
 ·obtain⟨o',r⟩:=I.base.there b o q hx;exact⟨o',other b _ (low b o q) r⟩
 ·by_cases hij:i=j
  ·subst hij;have hiσ:i < σ.length:=by rw[I.len];exact(X2.mp hj).1
   rw[SA hiσ] at e2;cases e2
  ·rw[R8 (Vs hij)] at e2;obtain⟨u',r',z⟩:=hlk i y v' e1 e2 e3;refine⟨u',r',?_⟩;rcases z with ⟨k,q⟩ | ⟨k,c,q,z⟩
   ·refine .inl ⟨k,?_⟩;have ny:y≠n:=fun q=>hij (zbX hN e1 (q ▸ hj));simp[ny,q]
   ·exact .inr ⟨k,c,q,z.sameBut sb (I.cne y c q)⟩
 ·obtain⟨w',z⟩:=I.cell y c q;exact⟨w',z.sameBut sb (I.cne y c q)⟩
 ·obtain⟨q,n',ne,nf,d⟩:=I.pin p hp;exact⟨other p.1 _ ne q,n',ne,nf,d⟩
 ·refine(I.hok b ob q).stay (fun c w' hc r=>other c w' ?_ r) (fun _ r=>r) fun _ _ r=>r;rintro rfl;rcases hc with rfl | hc
  ·rw[I.free] at q;cases q
  ·rw[I.free] at hc;cases hc
theorem Fly.caught {H1 H':Hp}{s1 s':X8}{e C:Addr}{a0:X9}{B h:Heap}(I:Inv X bQ σ H1 s1)(F:Fly X.prog X.w X.stack H1 s1 e C a0 B H' s')(fl:Oo B X.stack e (.ref C) a0 h)(up:s'.heap.UpToSlots h) :
  Inv X bQ σ (upd H' e (exO e C)) { s' with heap:=h }:=by
 have ne:∀b o,s1.heap.get? b=some o->b≠e:=fun b o q z=>by
  rw[z,F.new] at q;cases q
 have nt:∀b u,H' b=some u->b≠e:=fun b u q=>zg q F.free;have slot:∀b o,s1.heap.get? b=some o->H1 b=none->b∈frs X.stack->∃sl,h.get? b=some { o with slots:=sl }:=fun b o q n hb=>by
  obtain⟨_,o1,q1,nf⟩:=I.stack.mem hb;rw[q] at q1;cases q1;obtain⟨sl,q2⟩:=F.un.slot b o q n hb (fun z=>nomatch z);obtain⟨sl2,q3⟩:=up b _ q2 nf;exact⟨sl2,q3⟩
 refine I.call' (ch:=[]) F.os ⟨fun b o q n hb _=>fl.1 b o (F.kB b o q n hb),fun b o q n hb _=>slot b o q n hb,fun b o q n _=>?_,fun b o q _=>?_,fun b xs q=>?_,fun b o u q=>?_,fun b ps q=>?_⟩ (fun b ob q=>?_) F.bare fun b z=>nomatch z
 ·rw[zf (ne b o q)];exact F.un.free b o q n fun z=>nomatch z
 ·by_cases hb:b∈frs X.stack
  ·obtain⟨sl,r⟩:=slot b o q (I.stkFree b hb) hb;exact⟨_,r⟩
  ·obtain⟨o',r⟩:=F.tB b o q hb;exact⟨o',fl.1 b o' r⟩
 ·have r:=F.un.tups b xs q;rw[zf (nt b _ r)];exact r
 ·have r:=F.un.frzs b o u q;rw[zf (nt b _ r)];exact r
 ·obtain⟨m,r⟩:=F.un.tbls b ps q;exact⟨m,by rw[zf (nt b _ r)];exact r⟩
 ·by_cases hb:b=e
  ·subst hb;rw[zb] at q;cases q;obtain⟨oe,vs,q1,q2,q3,_⟩:=fl.first;exact⟨⟨oe,vs,q1,q2,q3⟩,⟨oe,q1⟩,fun g1 g2 ⟨o1,v1,r1,r2,r3⟩ k=>⟨o1,v1,k _ r1,r2,r3⟩⟩
  ·rw[zf hb] at q;refine(F.ok b ob q).stay (fun c u _ r=>fl.1 c u r) (fun c r=>?_) fun c xs r=>?_
   ·rw[zf (nt c _ r)];exact r
   ·rw[zf (nt c _ r)];exact r
theorem zmY {M:Ob}{A:WL}{E:X9->X8->Prop}{s:X8}{S e C:Addr}{bm:List X9}{oe:Obj}{Q:Bool->X8->Prop}(O:zob s.heap S bm)(he:s.heap.get? e=some oe)(hcls:oe.cls=.ref C)
  (hL:PySem.W.Looks M s.heap (isSubtype (.ref C) (.ref S)) true) (hq:Q true s):W7 M A (excMatches (.ref e) (.ref S)) Q E s:=by
 obtain⟨⟨N,nm,qn,bs,hdct,sn,sub,ab,col,dd,k0,k1,k2,k3,k5,mN,hS,hN,hni⟩,T⟩:=O;have hb:=T.hasType PySem.F.excBase_ValueError.hasBase;obtain⟨h,g,d,t,os⟩:=s;have hcB:(Wz S::bm).contains (.type "BaseException")=true:=by rw[List.contains_cons,hb,Bool.or_true]
 have f:=tc_notTuple;unfold excMatches;repeat (first | (with_reducible refine VX he ?_;rw[hcls]) | with_reducible refine VX hS ?_ | (with_reducible refine wpAny_isSubtype_exc hS ?_;rw[hcB]) | wp_step)
 refine hL A _ E _ (fun _ _ q=>q) ?_;rw[bw rfl];exact XS (XS (XS hq))
def zrr (K:X0)(S:Addr)(i j:Nat)(sp:Sp)(ta:TA)(ts:TS):TS:=fun D σ H=>ta σ H fun vs H1=>sp vs H1 (fun v H2=>D.nx (σ.set i (some v)) H2)
 (fun c _ H2=>∃C,c=.ref C/\VC K C (.ref S)=some true/\∀e,H2 e=none ->
  ts { nx:=fun σ3 H3=>D.nx (σ3.set j none) H3,rt:=D.rt,bk:=fun σ3 H3=>D.bk (σ3.set j none) H3,ct:=fun σ3 H3=>D.ct (σ3.set j none) H3 } (σ.set j (some (.ref e))) (upd H2 e (exO e C)))
theorem zo6 {k i j:Nat}{x n f xS:Str}{fA S:Addr}{fd:Xp}{ps:List Str}{sp:Sp}{ta:TA}{ts:TS}{e0:Expr}{es:List Expr}{xp fp cp ap sp0 hp pos:Pos}{b0:Stmt}{suite:List Stmt}
  (hst:X.stack=X.env::X.outer) (hfr:X.env.frame=some X.env.locals) (F:zY X.prog X.w X.K X.mg X.base (CXE X.prog X.w) k fA fd ps sp) (hr:J4 k X.A) (hg:Gl X f) (hm:X.mg f=some (.ref fA)) (hk:T1 X.K (.ref fA)=true) (hb:Binds X.K fd ps [])
  (hN:X.N.Nodup) (hi:X.N[i]?=some x) (hx:Loc X.env.scope x) (hf:X.fn x=true\/X.env.scope.names.lookup x=some .local) (hj:X.N[j]?=some n) (hl:X.env.scope.names.lookup n=some .local) (gS:Gl X xS) (O:qK X.K X.mg xS S)
  (ha:PA X.nox (e0::es) ta) (hs:∀e,PSs (markX X e) (b0::suite) ts)
  (he:Wp (e0::es) X.env=(false,eval e0 X.env)::Wp es X.env:=by rfl) (hpl:(S4 cp (Wp es X.env)).any (·.1)=false:=by rfl) (hdb:(f==("__debug__":Str))=false:=by decide) (hdS:(xS==("__debug__":Str))=false:=by decide)
  (hsw:OR (.Call (.Name f fp) (e0::es) [] cp) (some (.Name x xp)) ap.line X.env=pure false:=by rfl) :
  PS X (.Try [.Assign [.Name x xp] (.Call (.Name f fp) (e0::es) [] cp) ap] [.ExceptHandler (some (.Name xS sp0)) (some n) (b0::suite) hp] [] [] pos) (zrr X.K S i j sp ta ts):=by
 intro bQ s σ H D I h;refine wpAny_Try_except (Sh ?_);refine wpAny_Assign_Name (Td (Q3 I hg hm ?_ hdb)) hsw;refine PySem.W.callWith_K (h₀:=X.base) I.ok.mod.kin hk (Wg (ha cp bQ s σ H _ (I.wish _) h) (fun us s1 ⟨vs,H1,I1',r,q⟩=>⟨I1'.kIn,?_⟩) fun _ _ z=>Wi z) he hpl;have I1:Inv X bQ σ H1 s1:=I1'.unwish;have hlen:us.length=ps.length:=by rw[<- r.length];exact F.len _ _ _ _ q
 have bt:=hb s1 us I1.kIn (by rw[Xh];exact hlen);rw[Xh] at bt;refine wpAny_call (SY (F.run X.A X.stack s1 H1 ⟨us,[]⟩ us vs _ _ hr I1.env0 bt r q) fun res s' hq=>?_);cases res with
 | ok fl =>
  cases fl with
  | ret u =>
   obtain⟨v,H2,I2,rv,q2⟩:=I1.after hq;exact Q2 I2 hN hi hx rv (fun s3 I3=>Tr (Tr ⟨_,H2,I3,q2⟩)) hf
  | next=>exact Wi hq
  | brk=>exact Wi hq
  | cont=>exact Wi hq
 | error y =>
  obtain⟨e,C,a0,B,H',rfl,Fl,C',ec,hmr,hsu⟩:=hq;cases ec;have ff:=Fl.fly;rw[hst] at ff;refine wpAny_looks_onW (by rw[I1.ok.frames,hst]) hfr ff fun h4 zqp up4=>?_;refine wpAny_landsW zqp fun h5 zo7 up5=>?_;have up:=up4.trans up5;have I5:=Fl.caught I1 (h:=h5) (by rw[hst];exact zo7) up;refine wpAny_handleBy_cons (codeAny_handlers_test (Q3 (X:=markX X e) (I5.mark e) gS O.g ?_ hdS)) (by intro z;cases z);obtain⟨bm,OS⟩:=zoc I5.kIn O.q;obtain⟨oe,vs5,q1,q2,q3,_⟩:=zo7.first;refine zmY OS q1 q2 (RY I5.kIn hmr) (codeAny_handlers_suite_as ?_);refine lands_againW zo7 fun h6 zrs up6=>?_;have I6:=Fl.caught I1 (h:=h6) (by rw[hst];exact zrs) (up.trans up6);refine Q2 (X:=markX X e) (I6.mark e) hN hj (.inl hl) (v:=.ref e) rfl (fun s7 I7=>?_) (.inr hl);refine Wg (hs e bQ s7 _ _ _ I7 (hsu e Fl.free)) (fun fl s8 q8=>?_) fun _ _ z=>z.elim;cases fl with
  | next =>
   obtain⟨σ8,H8,I8,q8⟩:=q8;exact(I8.unmark I.ok).nameGoes hN hj hl fun s9 I9=>⟨_,H8,I9,q8⟩
  | brk =>
   obtain⟨σ8,H8,I8,q8⟩:=q8;exact(I8.unmark I.ok).nameGoes hN hj hl fun s9 I9=>⟨_,H8,I9,q8⟩
  | cont =>
   obtain⟨σ8,H8,I8,q8⟩:=q8;exact(I8.unmark I.ok).nameGoes hN hj hl fun s9 I9=>⟨_,H8,I9,q8⟩
  | ret u =>
   obtain⟨v8,σ8,H8,I8,r8,q8⟩:=q8;exact(I8.unmark I.ok).nameGoes hN hj hl fun s9 I9=>⟨v8,_,H8,I9,r8,q8⟩
end
theorem Fun.okX {P:Xi}{w:WS}{K:X0}{mg:Str->Option X9}{base:Heap}{x qual:Str}{st:Stmt}{f:Addr}{fd:Xp}{N ps:List Str}{k:Nat}{sp:Sp}(F:Fun K x qual st f fd)(S:zD N ps (zj st))(len:∀vs H Q E,sp vs H Q E->vs.length=ps.length)
  (hbody:∀(cdv:X9) (A:WL) (outer:List Env) (s:X8) (H:Hp) (vs:List V) (Q:VK) (E:XK),J4 k (A.deeper (PP qual (zj st) s.heap.objs.size f cdv))->sp vs H Q E ->
   ∃t,PSs (zfC (CXE P w) P w K mg base N qual (zj st) f cdv A outer s H E) (yU st) t/\t { nx:=fun _ H'=>Q .non H',rt:=Q } (start N vs) H):zY P w K mg base (CXE P w) (k+1) f fd ps sp:=by
 obtain⟨oc,od,kV,doc,pm,an,cdv,ct,osl,rfl,lk,hcd⟩:=F.ex;exact zoa lk hcd S len fun A outer s H vs Q E hr hsp=>hbody cdv A outer s H vs Q E hr hsp
structure Yv (K:X0)(C:Addr):Prop where
 ga:VI K (.ref C) "__getattribute__"=some (some (.builtin "BaseException.__getattribute__"))
 gh:VI K (.ref C) "__getattr__"=some none
 cl:VI K (.ref C) "__class__"=some (some (.builtin "object.__class__"))
 mb:VC K C (.type "BaseException")=some true
 mo:VC K C (.type "object")=some true
 ci:Ts K C=true
section
variable {prog:Xi}{w:WS}{A:WL}{E:X9->X8->Prop}{K:X0}{e C:Addr}
theorem zdh {R:OA->X8->Prop}{h:Heap}{g:Array U2}{d:Oc}{t:Nat}{os:Ot}(F:Yv K C)(kin:K.In h){o:Obj}(hx:h.get? e=some o)(hc:o.cls=.ref C)(hq:R (.ok (.ret (.ref C))) ⟨h,g,d,t,os⟩) :
  TV (Xf prog w) A (.call (.builtin "getset_descriptor.__get__") ⟨[.builtin "object.__class__",.ref e,.ref C],[]⟩) R ⟨h,g,d,t,os⟩:=by
 have hT5:(⟨h,g,d,t,os⟩:X8).TypeIs (.builtin "object.__class__") "getset_descriptor":=T4;have lo:=RY (M:=Xf prog w) kin F.mo;rw[<- PySem.F.owner_object_class] at lo;refine TX PySem.F.slot_gs_get.plain PySem.F.entry_gs_get (PySem.F.slot_gs_get.check _ _ _ _ _ _ _ _ hT5 (PySem.F.args_gs_get _ _ _) ?_);repeat (any_goals (first | assumption | (with_reducible refine VX hx ?_;rw[hc]) | wp_step))
 refine lo _ _ _ _ (fun _ _ z=>z) ?_;repeat (any_goals (first | assumption | wp_step))
 refine⟨Code.quiet_builtin _ (by decide +kernel),VQ PySem.F.entry_object_class ?_⟩;repeat (any_goals (first | assumption | (with_reducible refine VX hx ?_;rw[hc]) | wp_step))
theorem zbx {tk:Tok}{Q:Fin->X8->Prop}{h:Heap}{g:Array U2}{d:Oc}{t:Nat}{os:Ot}(F:Yv K C)(kin:K.In h){o:Obj}(hx:h.get? e=some o)(hc:o.cls=.ref C)(hq:Q (.done (.ret (.ref C))) ⟨h,g,d,t,os⟩) :
  W7 (Xf prog w) A (UR.«object.__getattribute__» ⟨[.ref e,.str "__class__" tk],[]⟩) Q E ⟨h,g,d,t,os⟩:=by
 have hT5:(⟨h,g,d,t,os⟩:X8).TypeIs (.builtin "object.__class__") "getset_descriptor":=T4;have f5:=T4;have f6:=PySem.F.slot_gs_get.lookup;have f7:=PySem.F.slot_gs_set.lookup;have lc:=R7 (M:=Xf prog w) kin F.cl;repeat (any_goals (first | assumption | (with_reducible refine VX hx ?_;rw[hc]) | wp_step))
 refine lc _ _ _ _ (fun _ _ z=>z) ?_;repeat (any_goals (first | assumption | (with_reducible refine VX hx ?_;rw[hc]) | wp_step))
 refine zdh F kin hx hc ?_;repeat (any_goals (first | assumption | wp_step))
theorem zeM {M:Ob}{nameV:X9}{Q:Unit->X8->Prop}{h:Heap}{g:Array U2}{d:Oc}{t:Nat}{os:Ot}(F:Yv K C)(kin:K.In h){o:Obj}(hx:h.get? e=some o)(hc:o.cls=.ref C)(hq:Q () ⟨h,g,d,t,os⟩) :
  W7 M A (QQ "BaseException.__getattribute__" ⟨[.ref e,nameV],[]⟩) Q E ⟨h,g,d,t,os⟩:=by
 have kd:builtinKind "BaseException.__getattribute__"=some .slot:=by decide +kernel
 have sp:splitId "BaseException.__getattribute__"=some ("BaseException","__getattribute__"):=by decide +kernel
 have ha:=PySem.F.args_bexc_ga (.ref e) nameV;have lb:=RY (M:=M) kin F.mb;simp only[QQ,kd,sp];refine Y1 ?_;unfold isInstance;repeat (first | (with_reducible refine VX hx ?_;rw[hc]) | wp_step)
 refine lb _ _ _ _ (fun _ _ z=>z) ?_;repeat (any_goals (first | assumption | wp_step))
theorem zb7 {tk:Tok}{R:OA->X8->Prop}{h:Heap}{g:Array U2}{d:Oc}{t:Nat}{os:Ot}(F:Yv K C)(kin:K.In h){o:Obj}(hx:h.get? e=some o)(hc:o.cls=.ref C)(hq:R (.ok (.ret (.ref C))) ⟨h,g,d,t,os⟩) :
  TV (Xf prog w) A (.call (.builtin "BaseException.__getattribute__") ⟨[.ref e,.str "__class__" tk],[]⟩) R ⟨h,g,d,t,os⟩ :=
 TX PySem.F.attr_ValueError.ga.plain PySem.F.entry_bexc_ga (zeM F kin hx hc (zbx F kin hx hc hq))
theorem zb8 {Q:Option X9->X8->Prop}{h:Heap}{g:Array U2}{d:Oc}{t:Nat}{os:Ot}(F:Yv K C)(kin:K.In h){o:Obj}(hx:h.get? e=some o)(hc:o.cls=.ref C)(hq:Q (some (.ref C)) ⟨h,g,d,t+1,os⟩) :
  W7 (Xf prog w) A (N7 (.ref e) "__class__") Q E ⟨h,g,d,t,os⟩:=by
 have f3:=PySem.F.attr_ValueError.ga.bind (.ref e);have hx2:(Rp "BaseException.__getattribute__" == Rp "object.__getattribute__")=false:=by decide +kernel
 have hx1:(onTheHeap (Wz C)&&Rp "BaseException.__getattribute__" == Rp "object.__getattribute__")=false:=by rw[hx2];rfl
 have l1:=R7 (M:=Xf prog w) kin F.ga;have l2:=R7 (M:=Xf prog w) kin F.gh;unfold N7 getAttrBy? getAttrBy;repeat (any_goals (first | assumption | (with_reducible refine VX hx ?_;rw[hc]) | wp_step))
 refine l1 _ _ _ _ (fun _ _ z=>z) ?_;repeat (any_goals (first | assumption | (with_reducible refine VX hx ?_;rw[hc]) | wp_step))
 refine l2 _ _ _ _ (fun _ _ z=>z) ?_;repeat (any_goals (first | assumption | (with_reducible refine VX hx ?_;rw[hc]) | wp_step))
 refine zb7 F kin hx hc ?_;repeat (any_goals (first | assumption | wp_step))
theorem zkM (F:Yv K C):PySem.W.KitX K (.ref e) (.ref C) (zo5 e C) where
 ty:=fun M h _ p=>by
  obtain⟨ob,vs,q1,q2,_⟩:=p;exact q2 ▸ (PySem.W.Looks.ld q1).andThen .now
 it:=fun M h kin _=>by
  have ci:=F.ci;unfold Ts PySem.W.clsIn at ci;split at ci
  ·rename_i c1 d1 cd1 sl1 lk;intro A1 Q1 E1 s1 k q;unfold isType loadHead;exact Y1 (wpAny_loadPart (k _ _ (kin _ _ lk)) (XS q))
  ·cases ci
 ne:=fun h tp dd its n sl kin htp=>by
  refine Xs.mpr fun q=>?_;have ec:C=tp:=Value.ref.inj (beq_iff_eq.mp q);subst ec;have ci:=F.ci;unfold Ts PySem.W.clsIn at ci;split at ci
  ·rename_i c1 d1 cd1 sl1 lk;have z:=(kin _ _ lk).symm.trans htp;cases z
  ·cases ci
 ca:=fun {prog w A E Q s} kin p k=>by
  obtain⟨ob,vs,q1,q2,_⟩:=p;obtain⟨h,g,d,t,os⟩:=s;exact zb8 F kin q1 q2 k
def zkN:V->X9
 | .ref D=>.ref D
 | .ty n=>.type n
 | _=>.none
theorem qG {X:Cx}(hK:X.K=K):jM X (.builtin "isinstance") (fun xs H Q=>∃e C c b,xs=[.ref e,c]/\H e=some (exO e C)/\Yv K C/\((∃D,c=.ref D)\/∃n,c=.ty n)/\W6 K (.ref C) (zkN c)=some b/\Q (.bl b) H):=by
 intro bQ s σ H xs us Q I r h;obtain⟨e,C,c,b,rfl,he,F,hc,hk,q⟩:=h;obtain⟨u,u2,rfl,rx,ru⟩:=vals2 r;cases rx;have p:zo5 e C s.heap:=(I.hok e _ he).1;have kin:=I.kIn;rw[hK] at kin;have e2:u2=zkN c:=by
  rcases hc with ⟨D,rfl⟩ | ⟨n,rfl⟩
  ·cases ru;rfl
  ·cases ru;rfl
 subst e2;exact VZ (zkM F) kin p hk (fun z=>nomatch z) fun tk=>⟨.bl b,H,I.tok tk,rfl,q⟩
end
section
variable {X:Cx}{tg iter elt:Expr}{ifs:List Expr}{scope:Uv}{pos:Pos}{N:List Str}{src:List (Option Nat)}{cl:List (Str×Addr)}{wi:TI}{g:TG}{tc:TT}{te:TE}
theorem Je {i:Nat}{x:Str}{xpos spos:Pos}(hN:X.N.Nodup)(hix:X.N[i]?=some x)(hlx:X.env.scope.names.lookup x=some .local)(ok:zO X N src scope cl)(hcalm:X.calm=true)(hi:PI X tg iter wi)
  (hg:∀C fp bQ s H,PG (qV X N scope cl C fp bQ s H) tg g) (hc:∀C fp bQ s H,zkE (qV X N scope cl C fp bQ s H) ifs tc) (he:∀C fp bQ s H,PE (qV X N scope cl C fp bQ s H) elt te)
  (hs:∀x,SJ iter X.env x=pure x:=by intro _;rfl) (hsw:OR (.ListComp elt [⟨tg,iter,ifs,0⟩] scope pos) (some (.Name x xpos)) spos.line X.env=pure true:=by rfl) :
  PS X (.Assign [.Name x xpos] (.ListComp elt [⟨tg,iter,ifs,0⟩] scope pos) spos) (zoI (zkF wi src g tc te) (yE i)):=by
 intro bQ s σ H D I h;rw[exec_Assign_Name_used _ _ _ _ hsw];refine Y1 (UI (Y1 ?_));unfold evalThenUse;refine Y1 (Wg (Q:=fun _ s''=>∃ σ' H',Inv X bQ σ' H' s''/\D.nx σ' H') ?_ (fun _ s'' ⟨σ',H',I',q'⟩=>XS (XS ⟨σ',H',I',q'⟩)) fun _ _ z=>z);refine Tw (use:=some (N8 (.Name x xpos) X.env)) rfl hs ok.clos ok.kind ok.names (thn (hi bQ s σ H _ I h) fun xv s1 h1=>thn h1 fun itv s2 h2=>?_);obtain⟨it,fp,tn,J,H2,e,I2,T,st2,f2,q2⟩:=h2;subst e;refine VM (O6 ok.nocell (by intro y hy;simp at hy) (fun h₁ hns₁ hsb₁=>?_) ok.kind);dsimp only at hns₁ hsb₁ ⊢;generalize hP:s2.heap.push { cls:=.type "list",dict:=none,data:=.seq ([]:List X9).toArray }=P2 at hns₁ hsb₁ ⊢;have hC:P2.objs.size=s2.heap.objs.size+1:=by rw[<- hP,Vi]
 have k:∀b u,s2.heap.get? b=some u->h₁.get? b=some u:=fun b u e=>by
  have lt:=XI e;exact(hsb₁.2 b (by rw[hC];exact Xe (Wx lt))).trans (X7 _ (hP ▸ X7 _ e))
 have hD:h₁.get? s2.heap.objs.size=some { cls:=.type "list",data:=.seq #[] }:=(hsb₁.2 _ (by rw[hC];exact(Vo _).symm)).trans (X7 _ (hP ▸ Xd _ rfl));have ho:∀b∈fp,∃o,s2.heap.get? b=some o:=fun b hb=>let ⟨o,e,_⟩:=T.obj 0 _ st2 b hb;⟨o,e⟩
 obtain⟨W,⟨m0,w0⟩,turn⟩:=q2 s2.heap.objs.size (I2.hok.fresh (XW _));have I0:=zb4 (tk:=s2.toks+([]:List (Str×X9)).length) ok I2 f2 ho hC k hD hns₁;have st0:tn 0 h₁:=T.keep 0 _ _ st2 fun b _ o e=>k b o e;have fr0:∀b∈fp,upd H2 s2.heap.objs.size (.lst []) b=none:=fun b hb=>by
  obtain⟨o,e⟩:=ho b hb;rw[zf (Xe (XI e))];exact(f2 b hb).1
 have stat:∀{H':Hp},(∀b∈fp,H' b=none)->∀b∈fp,Q4 (qV X N scope cl P2.objs.size fp bQ s2 H2) [] H' b:=fun {H'} hn b hb=>by
  obtain⟨o,e⟩:=ho b hb;have lt:=XI e;refine⟨hn b hb,?_,fun z=>(Xz.mp (I2.stkSub b z)).elim (f2 b hb).2.1 (f2 b hb).2.2.1,.inl hb,fun x c z=>(f2 b hb).2.2.2.2.1 x c (ok.sub x c z),fun p hp=>?_⟩
  ·show b≠P2.objs.size;rw[hC];exact Xe (Wx lt)
  ·have hp':p∈X.pn++bQ:=by
    have:p∈(X.pn++bQ)++[]:=hp;simpa using this
   exact(f2 b hb).2.2.2.2.2 p hp'
 have loop:∀s₃:X8,s₃={ s2 with heap:=h₁,toks:=s2.toks+([]:List (Str×X9)).length } ->
   TV (Xf X.prog X.w) X.A (.compLoop (.ListComp elt [⟨tg,iter,ifs,0⟩] scope pos) 0 (.ref it) (.ref s2.heap.objs.size) (S2 scope cl P2.objs.size X.env))
    (compPost (Xf X.prog X.w) X.A X.xe (some (N8 (.Name x xpos) X.env)) (fun _ s''=>∃ σ' H',Inv X bQ σ' H' s''/\D.nx σ' H') (.ref s2.heap.objs.size) P2.objs.size) s₃:=by
  rintro s₃ rfl;refine Op rfl (fun n s'=>∃i σ' H',Inv (qV X N scope cl P2.objs.size fp bQ s2 H2) [] σ' H' s'/\tn i s'.heap/\(∀b∈fp,H' b=none)/\W i n σ' H') ?_ m0 ⟨0,_,_,I0,st0,fr0,w0⟩;rintro n s3 ⟨i,σ3,H3,I3,st3,fr3,w3⟩;show W7 _ X.A ((compTurn (.ListComp elt [⟨tg,iter,ifs,0⟩] scope pos) 0 (.ref it) (.ref s2.heap.objs.size) (S2 scope cl P2.objs.size X.env)).onRaise (fun x=>do noteFrame x (S2 scope cl P2.objs.size X.env);Pr x)) _ _ s3;refine Og ?_;rw[OH];rcases turn i n σ3 H3 w3 with ⟨stop,qn⟩ | ⟨go,N',hN,step⟩
  ·refine Y1 (UI (Y1 (thn (T.done (qV X N scope cl P2.objs.size fp bQ s2 H2) rfl rfl rfl hcalm i [] s3 σ3 H3 _ I3 (stat fr3) st3 stop) fun r s4 ⟨hr,I4⟩=>?_)));subst hr;refine XS ?_;obtain⟨m,hm,_⟩:=I4.loc;have leC:s2.heap.objs.size<=P2.objs.size:=by rw[hC];exact VT _
   have IX:Inv X bQ σ H3 s4:=I2.call' (s':=s4) (ch:=fp) I4.os I4.base I4.hok I4.bare fun b hb=>⟨(f2 b hb).2.2.2.1,(f2 b hb).2.1,(f2 b hb).2.2.2.2.1,(f2 b hb).2.2.2.2.2⟩;have cellLt:∀y c,X.env.cells.lookup y=some c->c≠P2.objs.size:=fun y c e z=>by
    obtain⟨_,o,e1,_⟩:=I2.cell y c e;have:=XI e1;rw[z] at this;exact V5 _ (XJ this leC)
   have locNe:X.env.locals≠P2.objs.size:=fun z=>by
    have:=I2.lt;rw[z] at this;exact V5 _ (XJ this leC)
   refine wpAny_assign_Name (zdC IX hN hix (.inl hlx) (v:=.ref s2.heap.objs.size) rfl (fun s5 I5 ⟨a5,sb5,ha5⟩=>?_) (.inr hlx));have na:a5≠P2.objs.size:=by
    rcases ha5 with z | z
    ·rw[z];exact locNe
    ·exact cellLt _ _ z
   refine⟨m,hm.sameBut sb5 (Vs na),fun h' sb=>⟨_,H3,?_,qn⟩⟩;exact I5.turned (t':=s5.toks) (it:=P2.objs.size) (fun b o hb e=>(sb.2 b hb).trans e) I4.free (Vs locNe) (.inr (X4 I2.sz leC)) cellLt fun p hp z=>by
    obtain⟨e1,_⟩:=I2.pin p hp;have:=XI e1;rw[z] at this;exact V5 _ (XJ this leC)
  ·refine Y1 (UI (Y1 (thn (T.item (qV X N scope cl P2.objs.size fp bQ s2 H2) rfl rfl rfl hcalm i [] s3 σ3 H3 _ I3 (stat fr3) st3 go) fun r s4 ⟨u,hr,h4⟩=>?_)));subst hr;dsimp only;refine Y1 (thn h4 fun _ s5 ⟨x,H5,I5,r5,y5,st5,fr5⟩=>?_);have I5':=I5.pinned (stat fr5) (T.obj _ _ st5);refine Y1 (Wg (hg P2.objs.size fp bQ s2 H2 _ s5 σ3 H5 x u _ I5' r5 (step x H5 y5)) (fun _ s6 ⟨σ6,H6,I6,q6⟩=>?_) fun _ _ z=>Wi z);have Rw:∀{s7:X8} {σ7:St} {H7:Hp},Inv (qV X N scope cl P2.objs.size fp bQ s2 H2) ([]++QF fp s5.heap) σ7 H7 s7->N' σ7 H7->∃m,m<n/\∃i σ' H',Inv (qV X N scope cl P2.objs.size fp bQ s2 H2) [] σ' H' s7/\tn i s7.heap/\(∀b∈fp,H' b=none)/\W i m σ' H':=fun {s7 σ7 H7} I7 n7=>by
    obtain⟨m',hm,w7⟩:=hN σ7 H7 n7;refine⟨m',hm,i+1,σ7,H7,I7.unpinned,T.keep _ _ _ st5 fun b hb o e=>(I7.pin (b,o) (XE _ (XE _ (jO hb e)))).1,fun b hb=>?_,w7⟩;obtain⟨o,e,d⟩:=T.obj _ _ st5 b hb;exact(I7.pin (b,o) (XE _ (XE _ (jO hb e)))).2.1
   refine Y1 (Wg (hc P2.objs.size fp bQ s2 H2 _ s6 σ6 H6 _ I6 q6) (fun b s7 ⟨H7,I7,q7⟩=>?_) fun _ _ z=>Wi z);cases b with
   | false =>
    rw[bq XV] at q7;exact XS ⟨rfl,Rw I7 q7⟩
   | true =>
    rw[bw rfl] at q7;refine Y1 (Y1 (Wg (he P2.objs.size fp bQ s2 H2 _ s7 σ6 H7 _ I7 q7) (fun y s8 ⟨v8,H8,I8,r8,ys,hys,hlen,q8⟩=>?_) fun _ _ z=>Wi z));refine Y1 (Wg (Jm (X:=qV X N scope cl P2.objs.size fp bQ s2 H2) _ s8 σ6 H8 (.ref s2.heap.objs.size) [v8] (.ref s2.heap.objs.size) [y] (fun _ H9=>N' σ6 H9) I8 rfl (.cons r8 .nil) ⟨_,ys,v8,rfl,rfl,hys,hlen,q8⟩) (fun _ s9 ⟨v9,H9,I9,_,q9⟩=>?_) fun _ _ z=>Wi z);exact XS (XS ⟨rfl,Rw I9 q9⟩)
 exact Sy (loop _ rfl) (T.self _ 0 _ _ _ st0 (loop _ rfl))
end
theorem zO.byRfl {X:Cx}{N:List Str}{src:List (Option Nat)}{scope:Uv}(kind:scope.kind=.function)(nocell:∀y∈scope.names,y.2 ≠ .cell)(names:∀y∈scope.names,y.2=.local->scope.names.lookup y.1=some .local)
  (hs:(scope.names.all fun y=>y.2 != .free || (X.env.cells.lookup y.1).isSome)=true) (len:src.length=N.length)
  (pc:((N.zip src).all fun q=>match q.2 with | none=>true | some j=>X.N[j]?==some q.1&&X.env.kindOf q.1==some .cell&&(Us scope X.env).names.lookup q.1==some .cell)=true):zO X N src scope (zaO (fun x=>X.env.cells.lookup x) scope.names []):=by
 have hs':∀y∈scope.names,y.2=.free->(X.env.cells.lookup y.1).isSome=true:=fun y hy e=>by
  have z:=WR.mp hs y hy;rw[e] at z;simpa using z
 refine⟨kind,nocell,names,xR hs',fun x c h=>?_,fun x h=>?_,len,fun i j x h1 h2=>?_⟩
 ·rcases Zf _ _ _ (WE h) with z | z
  ·cases z
  ·exact z
 ·refine VH.mp (zb6 _ _ (.inr ?_));have hm:(x,U4)∈scope.names\/(x,NameKind.free)∈scope.names:=by
   rcases h with h | h
   ·exact yq (WE h) (.inl rfl)
   ·exact yq (WE h) (.inr rfl)
  rcases hm with hm | hm
  ·exact absurd rfl (nocell _ hm)
  ·exact⟨hm,hs' _ hm rfl⟩
 ·have hm:(x,some j)∈N.zip src:=XY (i:=i) (by rw[TK];exact⟨h1,h2⟩);have z:=WR.mp pc _ hm;simp only[V6,beq_iff_eq] at z;exact⟨z.1.1,.inl z.1.2,.inl z.2⟩
structure ZS (X:Cx)(N:List Str)(src:List (Option Nat))(scope:Uv)(cl:List (Str×Addr))(y:Str):Prop where
 kind:scope.kind=.function
 one:∀n acc,RO n scope.names acc=(y,n)::acc
 push:∀h,pushCells h scope.names=h.push { cls:=.type "cell",data:=.cell none }
 names:∀y∈scope.names,y.2=.local->scope.names.lookup y.1=some .local
 clos:Ox scope X.env=pure cl
 sub:∀x c,cl.lookup x=some c->X.env.cells.lookup x=some c
 has:∀x,((Us scope X.env).names.lookup x=some .cell\/(Us scope X.env).names.lookup x=some .free)->x=y\/∃c,cl.lookup x=some c
 len:src.length=N.length
 pulls:∀(i j:Nat) (x:Str),N[i]?=some x->src[i]?=some (some j)->X.N[j]?=some x/\(X.env.kindOf x=some .cell\/X.env.kindOf x=some .free)/\((Us scope X.env).names.lookup x=some .cell\/(Us scope X.env).names.lookup x=some .free)
 pny:∀(i j:Nat) (x:Str),N[i]?=some x->src[i]?=some (some j)->x≠y
theorem ZS.has1 {X:Cx}{N:List Str}{src:List (Option Nat)}{scope:Uv}{cl:List (Str×Addr)}{y:Str}{C:Addr}(ok:ZS X N src scope cl y)(x:Str)(h:(Us scope X.env).names.lookup x=some .cell\/(Us scope X.env).names.lookup x=some .free):∃c,Sa x ((y,C)::cl)=some c:=by
 rw[Vn];cases q:x==y with
 | true=>exact⟨_,rfl⟩
 | false =>
  rcases ok.has x h with z | z
  ·rw[z] at q;simp at q
  ·exact z
theorem ZS.byRfl {X:Cx}{N:List Str}{src:List (Option Nat)}{scope:Uv}{y:Str}(kind:scope.kind=.function)(one:∀n acc,RO n scope.names acc=(y,n)::acc)(push:∀h,pushCells h scope.names=h.push { cls:=.type "cell",data:=.cell none })
  (only:∀z∈scope.names,z.2=.cell->z.1=y) (names:∀y∈scope.names,y.2=.local->scope.names.lookup y.1=some .local)
  (hs:(scope.names.all fun y=>y.2 != .free || (X.env.cells.lookup y.1).isSome)=true) (len:src.length=N.length)
  (pc:((N.zip src).all fun q=>match q.2 with | none=>true | some j=>X.N[j]?==some q.1&&X.env.kindOf q.1==some .cell&&(Us scope X.env).names.lookup q.1==some .cell&&q.1 != y)=true):ZS X N src scope (zaO (fun x=>X.env.cells.lookup x) scope.names []) y:=by
 have hs':∀y∈scope.names,y.2=.free->(X.env.cells.lookup y.1).isSome=true:=fun y hy e=>by
  have z:=WR.mp hs y hy;rw[e] at z;simpa using z
 have pk:∀(i j:Nat) (x:Str),N[i]?=some x->src[i]?=some (some j)->(X.N[j]?=some x/\X.env.kindOf x=some .cell/\(Us scope X.env).names.lookup x=some .cell)/\x≠y:=fun i j x h1 h2=>by
  have hm:(x,some j)∈N.zip src:=XY (i:=i) (by rw[TK];exact⟨h1,h2⟩);have z:=WR.mp pc _ hm;simp only[V6,beq_iff_eq,bne_iff_ne] at z;exact⟨⟨z.1.1.1,z.1.1.2,z.1.2⟩,z.2⟩
 refine⟨kind,one,push,names,xR hs',fun x c h=>?_,fun x h=>?_,len,fun i j x h1 h2=>⟨(pk i j x h1 h2).1.1,.inl (pk i j x h1 h2).1.2.1,.inl (pk i j x h1 h2).1.2.2⟩,fun i j x h1 h2=>(pk i j x h1 h2).2⟩
 ·rcases Zf _ _ _ (WE h) with z | z
  ·cases z
  ·exact z
 ·have hm:(x,U4)∈scope.names\/(x,NameKind.free)∈scope.names:=by
   rcases h with h | h
   ·exact yq (WE h) (.inl rfl)
   ·exact yq (WE h) (.inr rfl)
  rcases hm with hm | hm
  ·exact .inl (only _ hm rfl)
  ·exact .inr (VH.mp (zb6 _ _ (.inr ⟨hm,hs' _ hm rfl⟩)))
def yg (X:Cx)(N:List Str)(scope:Uv)(cl:List (Str×Addr))(y:Str)(C:Addr)(fp:List Addr)(bQ:List (Addr×Obj))(s:X8)(H:Hp):Cx :=
 { qV X N scope ((y,C+1)::cl) C fp bQ s H with fn:=fun x=>decide (x=y) }
theorem zmZ {M:Ob}{A:WL}{E:X9->X8->Prop}{s:X8}{scope:Uv}{globals:Addr}{cl:List (Str×Addr)}{qual:Str}{env:Env}{y:Str}{Q:Env->X8->Prop}(one:∀n acc,RO n scope.names acc=(y,n)::acc)(push:∀h,pushCells h scope.names=h.push { cls:=.type "cell",data:=.cell none })
  (hQ:Q (newEnv scope s.heap.objs.size globals ((y,s.heap.objs.size+1)::cl) qual none .none (some env) Oz) { s with heap:=(s.heap.push { cls:=.type "dict",data:=.dict #[] }).push { cls:=.type "cell",data:=.cell none } }) :
  W7 M A (newFunctionEnv scope globals cl [] qual none .none (some env)) Q E s:=by
 simp only[newFunctionEnv,Option.isSome_some,if_true];refine Y1 (wpAny_alloc ?_);refine Y1 (wpAny_layCells _ (fun name kind cells=>by cases hkc:kind==U4<;>simp[hkc]) _ _ _ _ ?_);rw[push,one,show ({ s with heap:=s.heap.push { cls:=.type "dict",data:=.dict #[] } }:X8).heap.objs.size=s.heap.objs.size+1 from Vi ..];exact Y1 (XS (XS hQ))
section
variable {X:Cx}{tg iter elt:Expr}{ifs:List Expr}{scope:Uv}{pos:Pos}{N:List Str}{src:List (Option Nat)}{cl:List (Str×Addr)}{wi:TI}{g:TG}{tc:TT}{te:TE}{y:Str}
theorem zfO {bQ:List (Addr×Obj)}{σ:St}{H:Hp}{s:X8}{fp:List Addr}{h1:Heap}{C:Addr}{tk:Nat}(ok:ZS X N src scope cl y)(I:Inv X bQ σ H s)(hf:∀b∈fp,Q4 X bQ H b)(ho:∀b∈fp,∃o,s.heap.get? b=some o)
  (hC:C=s.heap.objs.size+1) (k:∀b u,s.heap.get? b=some u->h1.get? b=some u) (hD:h1.get? s.heap.objs.size=some { cls:=.type "list",data:=.seq #[] }) {m:Str->Option X9} (hn:h1.Ns C m) (hcc:h1.IsCell (C+1) none) :
  Inv (yg X N scope cl y C fp bQ s H) [] (pull src σ) (upd H s.heap.objs.size (.lst [])) { s with heap:=h1,toks:=tk }:=by
 have lt:∀b o,s.heap.get? b=some o->b<s.heap.objs.size:=fun b o e=>XI e;have nC:∀b o,s.heap.get? b=some o->b≠C:=fun b o e=>by rw[hC];exact Xe (Wx (lt b o e))
 have nD:∀b o,s.heap.get? b=some o->b≠s.heap.objs.size:=fun b o e=>Xe (lt b o e);have fr:∀b,s.heap.objs.size<=b->H b=none:=fun b hb=>I.hok.fresh hb;have nst:∀b,b≠X.env.locals->b ∉ X.fs->b ∉ frs X.stack:=fun b h1 h2 z=>(Xz.mp (I.stkSub b z)).elim h1 h2;have nC1:∀b o,s.heap.get? b=some o->b≠C+1:=fun b o e=>by rw[hC];exact Xe (Wx (Wx (lt b o e)))
 have own:∀x c,Sa x ((y,C+1)::cl)=some c->(x=y/\c=C+1)\/(x≠y/\X.env.cells.lookup x=some c):=fun x c e=>by
  rw[Vn] at e;cases q:x==y with
  | true =>
   rw[q] at e;exact .inl ⟨by simpa using q,(Option.some.inj e).symm⟩
  | false =>
   rw[q] at e;exact .inr ⟨by simpa using q,ok.sub x c e⟩
 have oldc:∀x c,X.env.cells.lookup x=some c->c≠C+1:=fun x c e=>by
  obtain⟨_,o,e1,_⟩:=I.cell x c e;exact nC1 c o e1
 refine⟨⟨I.ok.mod,ok.kind,I.ok.glob,I.ok.blt,by rw[show (yg X N scope cl y C fp bQ s H).env.locals=C from rfl,hC];exact VT _,?inj,ok.has1,?cab,I.ok.hd,I.ok.frames,.inl rfl,fun b hb=>?_,I.bs,X4 I.ok.bsz I.sz,fun b o e hb=>?_,fun b hb hz=>?_,I.stack,I.stkFree⟩,
  rfl,I.bare,Un.laid k (XW _) (fr _ (XW _)),⟨m,hn,fun i x v e1 e2 e3=>?_⟩,fun x c e=>?_,?_,fun x c e=>?_,fun p hp=>?_,I.hok.laid k (XW _) ⟨W4 _,[],0,.nil,hD⟩,?_⟩
 case inj =>
  intro x x' c e1 e2
  rcases own x c e1 with ⟨a1,a2⟩ | ⟨a1,a2⟩
  ·rcases own x' c e2 with ⟨b1,b2⟩ | ⟨b1,b2⟩
   ·rw[a1,b1]
   ·exact absurd a2 (oldc x' c b2)
  ·rcases own x' c e2 with ⟨b1,b2⟩ | ⟨b1,b2⟩
   ·exact absurd b2 (oldc x c a2)
   ·exact I.ok.inj x x' c a2 b2
 case cab =>
  intro x c z e
  have zy:x=y:=bh z
  rcases own x c e with ⟨_,a2⟩ | ⟨a1,_⟩
  ·rw[a2,hC];exact VL (VT _)
  ·exact absurd zy a1
 ·obtain⟨o,e⟩:=ho b hb;refine⟨nC b o e,fun x c z=>?_⟩;rcases own x c z with ⟨_,a2⟩ | ⟨_,a2⟩
  ·rw[a2];exact Vs (nC1 b o e)
  ·exact(hf b hb).2.2.2.2.1 x c a2
 ·rcases(hf b hb).2.2.2.1 with z | z
  ·exact I.ok.noex b o e z
  ·exact absurd (XJ (XI (I.ok.bs b o e).1) z) (V5 _)
 ·exact nst b (hf b hb).2.1 (hf b hb).2.2.1 hz
 ·have hi:i<src.length:=by
   have:=(X2.mp e2).1;unfold pull at this;rw[ZB] at this;exact this
  unfold pull at e2;rw[Xk,XX hi] at e2;cases q:src[i] with
  | none=>rw[q] at e2;cases e2
  | some j =>
   rw[q] at e2;have e2':(σ[j]?).getD none=some v:=Option.some.inj e2;have e4:σ[j]?=some (some v):=by
    cases z:σ[j]? with
    | none=>rw[z] at e2';cases e2'
    | some o=>rw[z] at e2';exact congrArg some e2'
   obtain⟨p1,p2,p3⟩:=ok.pulls i j x e1 (by rw[XX hi,q]);obtain⟨m',hn',hl⟩:=I.loc;obtain⟨u,r,l⟩:=hl j x v p1 e4 (by
    rcases p2 with z | z
    ·exact .inr (.inl z)
    ·exact .inr (.inr z))
   refine⟨u,r,.inr ⟨p3,?_⟩⟩;obtain⟨c,hc⟩:=ok.has1 x p3;refine⟨c,hc,?_⟩;rcases l with ⟨z,_⟩ | ⟨_,c',hc',o,ho',hd'⟩
   ·rcases p2 with y | y<;>rw[z] at y<;>cases y
   ·rcases own x c hc with ⟨a1,_⟩ | ⟨_,a2⟩
    ·exact absurd a1 (ok.pny i j x e1 (by rw[XX hi,q]))
    ·rw[a2] at hc';cases hc';exact⟨o,k _ o ho',hd'⟩
 ·rcases own x c e with ⟨_,a2⟩ | ⟨_,a2⟩
  ·rw[a2];exact⟨_,hcc⟩
  ·obtain⟨v,o,e1,e2⟩:=I.cell x c a2;exact⟨v,o,k c o e1,e2⟩
 ·show upd H s.heap.objs.size (.lst []) C=none;rw[hC,zf (Vo _)];exact fr _ (VT _)
 ·show upd H s.heap.objs.size (.lst []) c=none;rcases own x c e with ⟨_,a2⟩ | ⟨_,a2⟩
  ·rw[a2,hC,zf (UN (Wx (QP _)))];exact fr _ (VL (VT _))
  ·obtain⟨v,o,e1,e2⟩:=I.cell x c a2;rw[zf (nD c o e1)];exact I.freeC x c a2
 ·have hp':p∈X.pn++bQ:=by
   have:p∈(X.pn++bQ)++[]:=hp;simpa using this
  obtain⟨e1,e2,e3,e4,e5⟩:=I.pin p hp';refine⟨k _ _ e1,?_,nC _ _ e1,nst _ e3 e4,e5⟩;show upd H s.heap.objs.size (.lst []) p.1=none;rw[zf (nD _ _ e1)];exact e2
 ·unfold pull;rw[ZB];exact ok.len
theorem zkO {y:Str}(ok:ZS X N src scope cl y)(hcalm:X.calm=true)(hi:PI X tg iter wi)
  (hg:∀C fp bQ s H,PG (yg X N scope cl y C fp bQ s H) tg g) (hc:∀C fp bQ s H,zkE (yg X N scope cl y C fp bQ s H) ifs tc) (he:∀C fp bQ s H,PE (yg X N scope cl y C fp bQ s H) elt te)
  (hs:∀x,SJ iter X.env x=pure x:=by intro _;rfl):PE X (.ListComp elt [⟨tg,iter,ifs,0⟩] scope pos) (zkF wi src g tc te):=by
 intro bQ s σ H Q I h;rw[eval_ListComp];refine Tw (use:=none) rfl hs ok.clos ok.kind ok.names (thn (hi bQ s σ H _ I h) fun xv s1 h1=>thn h1 fun itv s2 h2=>?_);obtain⟨it,fp,tn,J,H2,e,I2,T,st2,f2,q2⟩:=h2;subst e;refine VM (zmZ ok.one ok.push ?_);generalize hP:s2.heap.push { cls:=.type "list",dict:=none,data:=.seq ([]:List X9).toArray }=P2;have hC:P2.objs.size=s2.heap.objs.size+1:=by rw[<- hP,Vi]
 have sz1:(P2.push { cls:=.type "dict",data:=.dict #[] }).objs.size=P2.objs.size+1:=Vi ..;generalize hh1:(P2.push { cls:=.type "dict",data:=.dict #[] }).push { cls:=.type "cell",data:=.cell none }=h₁;have hns₁:h₁.Ns P2.objs.size (fun _=>none):=by
  rw[<- hh1];exact(Heap.Ns.new P2 _).push _
 have hcc:h₁.IsCell (P2.objs.size+1) none:=by
  rw[<- hh1,<- sz1];exact⟨_,Xd _ rfl,rfl⟩
 have k:∀b u,s2.heap.get? b=some u->h₁.get? b=some u:=fun b u e=>by
  rw[<- hh1];exact X7 _ (X7 _ (hP ▸ X7 _ e))
 have hD:h₁.get? s2.heap.objs.size=some { cls:=.type "list",data:=.seq #[] }:=by
  rw[<- hh1];exact X7 _ (X7 _ (hP ▸ Xd _ rfl))
 have ho:∀b∈fp,∃o,s2.heap.get? b=some o:=fun b hb=>let ⟨o,e,_⟩:=T.obj 0 _ st2 b hb;⟨o,e⟩
 obtain⟨W,⟨m0,w0⟩,turn⟩:=q2 s2.heap.objs.size (I2.hok.fresh (XW _));have I0:=zfO (tk:=s2.toks) ok I2 f2 ho hC k hD hns₁ hcc;have st0:tn 0 h₁:=T.keep 0 _ _ st2 fun b _ o e=>k b o e;have fr0:∀b∈fp,upd H2 s2.heap.objs.size (.lst []) b=none:=fun b hb=>by
  obtain⟨o,e⟩:=ho b hb;rw[zf (Xe (XI e))];exact(f2 b hb).1
 have stat:∀{H':Hp},(∀b∈fp,H' b=none)->∀b∈fp,Q4 (yg X N scope cl y P2.objs.size fp bQ s2 H2) [] H' b:=fun {H'} hn b hb=>by
  obtain⟨o,e⟩:=ho b hb;have lt:=XI e;refine⟨hn b hb,?_,fun z=>(Xz.mp (I2.stkSub b z)).elim (f2 b hb).2.1 (f2 b hb).2.2.1,.inl hb,fun x c z=>?own,fun p hp=>?_⟩
  case own =>
   have z':Sa x ((y,P2.objs.size+1)::cl)=some c:=z
   rw[Vn] at z'
   cases q:x==y with
   | true =>
    rw[q] at z';rw[<- Option.some.inj z',hC];exact UN (Wx (Wx lt))
   | false =>
    rw[q] at z';exact(f2 b hb).2.2.2.2.1 x c (ok.sub x c z')
  ·show b≠P2.objs.size;rw[hC];exact Xe (Wx lt)
  ·have hp':p∈X.pn++bQ:=by
    have:p∈(X.pn++bQ)++[]:=hp;simpa using this
   exact(f2 b hb).2.2.2.2.2 p hp'
 have loop:∀s₃:X8,s₃={ s2 with heap:=h₁,toks:=s2.toks } ->
   TV (Xf X.prog X.w) X.A (.compLoop (.ListComp elt [⟨tg,iter,ifs,0⟩] scope pos) 0 (.ref it) (.ref s2.heap.objs.size) (S2 scope ((y,P2.objs.size+1)::cl) P2.objs.size X.env))
    (compPost (Xf X.prog X.w) X.A X.xe none (EP X bQ σ Q) (.ref s2.heap.objs.size) P2.objs.size) s₃:=by
  rintro s₃ rfl;refine Op rfl (fun n s'=>∃i σ' H',Inv (yg X N scope cl y P2.objs.size fp bQ s2 H2) [] σ' H' s'/\tn i s'.heap/\(∀b∈fp,H' b=none)/\W i n σ' H') ?_ m0 ⟨0,_,_,I0,st0,fr0,w0⟩;rintro n s3 ⟨i,σ3,H3,I3,st3,fr3,w3⟩;show W7 _ X.A ((compTurn (.ListComp elt [⟨tg,iter,ifs,0⟩] scope pos) 0 (.ref it) (.ref s2.heap.objs.size) (S2 scope ((y,P2.objs.size+1)::cl) P2.objs.size X.env)).onRaise (fun x=>do noteFrame x (S2 scope ((y,P2.objs.size+1)::cl) P2.objs.size X.env);Pr x)) _ _ s3;refine Og ?_;rw[OH];rcases turn i n σ3 H3 w3 with ⟨stop,qn⟩ | ⟨go,N',hN,step⟩
  ·refine Y1 (UI (Y1 (thn (T.done (yg X N scope cl y P2.objs.size fp bQ s2 H2) rfl rfl rfl hcalm i [] s3 σ3 H3 _ I3 (stat fr3) st3 stop) fun r s4 ⟨hr,I4⟩=>?_)));subst hr;refine XS ?_;obtain⟨m,hm,_⟩:=I4.loc;refine⟨m,hm,fun h' sb=>⟨.ref s2.heap.objs.size,H3,?_,rfl,qn⟩⟩;have un:Un (frs X.stack) fp H2 H3 s2.heap h':=Un.but I4.base (by show s2.heap.objs.size<=P2.objs.size;rw[hC];exact VT _) sb;have hok:HOk X.prog X.w H3 h':=HOk.but I4.hok I4.free sb;exact I2.call' (s':={ s4 with heap:=h' }) (ch:=fp) I4.os un hok I4.bare fun b hb=>⟨(f2 b hb).2.2.2.1,(f2 b hb).2.1,(f2 b hb).2.2.2.2.1,(f2 b hb).2.2.2.2.2⟩
  ·refine Y1 (UI (Y1 (thn (T.item (yg X N scope cl y P2.objs.size fp bQ s2 H2) rfl rfl rfl hcalm i [] s3 σ3 H3 _ I3 (stat fr3) st3 go) fun r s4 ⟨u,hr,h4⟩=>?_)));subst hr;dsimp only;refine Y1 (thn h4 fun _ s5 ⟨x,H5,I5,r5,y5,st5,fr5⟩=>?_);have I5':=I5.pinned (stat fr5) (T.obj _ _ st5);refine Y1 (Wg (hg P2.objs.size fp bQ s2 H2 _ s5 σ3 H5 x u _ I5' r5 (step x H5 y5)) (fun _ s6 ⟨σ6,H6,I6,q6⟩=>?_) fun _ _ z=>Wi z);have Rw:∀{s7:X8} {σ7:St} {H7:Hp},Inv (yg X N scope cl y P2.objs.size fp bQ s2 H2) ([]++QF fp s5.heap) σ7 H7 s7->N' σ7 H7->∃m,m<n/\∃i σ' H',Inv (yg X N scope cl y P2.objs.size fp bQ s2 H2) [] σ' H' s7/\tn i s7.heap/\(∀b∈fp,H' b=none)/\W i m σ' H':=fun {s7 σ7 H7} I7 n7=>by
    obtain⟨m',hm,w7⟩:=hN σ7 H7 n7;refine⟨m',hm,i+1,σ7,H7,I7.unpinned,T.keep _ _ _ st5 fun b hb o e=>(I7.pin (b,o) (XE _ (XE _ (jO hb e)))).1,fun b hb=>?_,w7⟩;obtain⟨o,e,d⟩:=T.obj _ _ st5 b hb;exact(I7.pin (b,o) (XE _ (XE _ (jO hb e)))).2.1
   refine Y1 (Wg (hc P2.objs.size fp bQ s2 H2 _ s6 σ6 H6 _ I6 q6) (fun b s7 ⟨H7,I7,q7⟩=>?_) fun _ _ z=>Wi z);cases b with
   | false =>
    rw[bq XV] at q7;exact XS ⟨rfl,Rw I7 q7⟩
   | true =>
    rw[bw rfl] at q7;refine Y1 (Y1 (Wg (he P2.objs.size fp bQ s2 H2 _ s7 σ6 H7 _ I7 q7) (fun yv s8 ⟨v8,H8,I8,r8,ys,hys,hlen,q8⟩=>?_) fun _ _ z=>Wi z));refine Y1 (Wg (Jm (X:=yg X N scope cl y P2.objs.size fp bQ s2 H2) _ s8 σ6 H8 (.ref s2.heap.objs.size) [v8] (.ref s2.heap.objs.size) [yv] (fun _ H9=>N' σ6 H9) I8 rfl (.cons r8 .nil) ⟨_,ys,v8,rfl,rfl,hys,hlen,q8⟩) (fun _ s9 ⟨v9,H9,I9,_,q9⟩=>?_) fun _ _ z=>Wi z);exact XS (XS ⟨rfl,Rw I9 q9⟩)
 exact Sy (loop _ rfl) (T.self _ 0 _ _ _ st0 (loop _ rfl))
end
section
variable {X:Cx}{K:X0}
theorem zdK (hK:X.K=K)(hc:X.calm=true):jM X (.builtin "any") (fun xs H Q=>∃(l:Addr) (bs:List Bool),xs=[.ref l]/\SqL K H l (bs.map V.bl)/\Q (.bl (bs.any id)) H):=by
 subst hK;exact zfN hc
theorem zfP {tg l:Expr}{tl:TE}(hK:X.K=K)(hl:PE X l tl):PI X tg l (zn8 K tl):=by
 subst hK;exact zK hl
end
section
variable {X:Cx}
theorem zkP:MtM X "list.count" (fun x vs H Q=>∃(l:Addr) (ts:List Str) (y:Str),x=.ref l/\vs=[.str y]/\H l=some (.lst (ts.map V.str))/\Q (.int ((ts.countP fun t=>t==y:Nat):Int)) H):=by
 intro bQ s σ H x vs v us Q I rx rv h;obtain⟨l,ts,y,rfl,rfl,hH,q⟩:=h;cases rx;obtain⟨u,rfl,t,rfl⟩:=rv.one;obtain⟨z,its,n,r,hl,e⟩:=I.lstM hH;have hv:∃f:X9->Bool,(∀w∈its,∃a k,w=.str a k/\f w=(a==y))/\its.countP f=ts.countP fun t=>t==y:=by
  refine⟨fun w=>match w with | .str a _=>a==y | _=>false,?_⟩;clear hl e z hH q;generalize ew:ts.map V.str=ws at r;induction r generalizing ts with
  | nil =>
   cases ts with
   | nil=>exact⟨(fun _ h=>nomatch h),rfl⟩
   | cons a b=>cases ew
  | cons r1 r2 ih =>
   cases ts with
   | nil=>cases ew
   | cons a b =>
    rw[W9] at ew;obtain⟨e1,e2⟩:=List.cons.inj ew;subst e1;obtain⟨k,rfl⟩:=r1;obtain⟨h1,h2⟩:=ih b e2;refine⟨fun w hw=>?_,?_⟩
    ·rcases Xz.mp hw with rfl | hw
     ·exact⟨a,k,rfl,rfl⟩
     ·exact h1 w hw
    ·rw[WQ,WQ,h2]
 obtain⟨f,hf,hc⟩:=hv;refine Th F.slot_list_count ⟨_,e,rfl⟩ F.entry_list_count (OQ _ _) (Ri l its.toArray n none #[] (.str y t) f) ⟨e,fun w hw=>?_,?_⟩
 ·obtain⟨a,k,rfl,h2⟩:=hf w (by simpa using hw);rw[h2];exact PySem.SeqAt.EqAt.str_str a k y t
 ·refine⟨.int _,H,I.tok _,⟨_,rfl⟩,?_⟩;show Q (.int ((its.countP f:Nat):Int)) H;rw[hc];exact q
end
theorem zdL:∀{ts:List Str} {its:List X9},Vals (ts.map V.str) its->StrsAre its ts
 | [],_,.nil=>.nil
 | t::_,_,.cons ⟨k,e⟩ h=>by
  subst e;exact .cons t k (zdL h)
section
variable {X:Cx}
def rJoin (K:X0):V->List V->Hp->VK->Prop:=fun x xs H Q=>∃(z:Str) (l:Addr) (ts:List Str),x=.str z/\xs=[.ref l]/\SqL K H l (ts.map V.str)/\(ts.map (·.length)).sum+ts.length*z.length<=16777216/\Q (.str (UQ z ts)) H
theorem zeN:MtR X "str.join" (rJoin X.K):=by
 intro bQ s σ H x xs v us Q I rx rv h;obtain⟨z,l,ts,rfl,rfl,hl,hsz,q⟩:=h;obtain⟨tk,rfl⟩:=rx;obtain⟨u,rfl,r⟩:=rv.one;cases r;obtain⟨its,rv2,p,hz⟩:=I.list hl;refine join_list (ys:=ts) p.isList (by simpa using zdL rv2) hsz fun t' k=>⟨.str (UQ z ts),H,I.tok k,⟨t',?_⟩,q⟩;rw[show Txt.join z ts=UQ z ts from StrLaws.glued_eq_join z ts]
end
theorem zhg {α:Type}(d:α)(xs:List α):((XF xs.length).map fun i=>xs.getD i d)=xs:=by
 refine List.ext_getElem (by simp) fun i h1 h2=>?_;simp[h2]
theorem ziA (p:Int×Int):lt2 p p=false:=by
 unfold lt2;rw[bw rfl,bg (by lia)]
theorem zad {p q:Int×Int}(h:p≠q):lt2 q p=!lt2 p q:=by
 unfold lt2;obtain⟨a,b⟩:=p;obtain⟨c,d⟩:=q;simp only;by_cases e:a=c
 ·subst e;rw[bw rfl,bw rfl];have hb:b≠d:=fun z=>h (by rw[z]);by_cases l:b<d
  ·rw[br l,bg (by lia)];rfl
  ·rw[bg l,br (by lia)];rfl
 ·rw[bq e,bq (fun z=>e z.symm)];by_cases l:a<c
  ·rw[br l,bg (by lia)];rfl
  ·rw[bg l,br (by lia)];rfl
theorem zhh {p q r:Int×Int}(h1:lt2 p q=true)(h2:lt2 q r=true):lt2 p r=true:=by
 unfold lt2 at *
 obtain⟨a,b⟩:=p;obtain⟨c,d⟩:=q;obtain⟨e,f⟩:=r;simp only at *
 by_cases e1:a=c
 ·subst e1;rw[bw rfl,bu] at h1;by_cases e2:a=e
  ·subst e2;rw[bw rfl,bu] at h2 ⊢;lia
  ·rw[bq e2] at h2 ⊢;exact h2
 ·rw[bq e1,bu] at h1;by_cases e2:c=e
  ·subst e2;rw[bq e1,bu];exact h1
  ·rw[bq e2,bu] at h2;rw[bq (by lia),bu];lia
def Up2 (ps:List (Int×Int)):Prop:=ps.Pairwise fun p q=>lt2 p q=true
end L2
namespace PySem.SeqAt
open L2 AutoSeq1 MeetsSeq MeetsSeq2 MeetsSeq3
def QH (A:WL)(s:X8)(y x:X9)(b:Bool):Prop:=∀(prog:Xi) (w:WS) (E:X9->X8->Prop) (Q:X9->X8->Prop),Q (.bool b) s->W7 (Xf prog w) A (richCompare .Lt y x) Q E s
theorem QH.int_int {A:WL}{s:X8}(a:Int)(t:Tok)(b:Int)(u:Tok):QH A s (.int a t) (.int b u) (decide (a<b)):=fun prog w E Q h=>wpAny_lt_int h
theorem zhi (l b:Addr)(x y x2 y2:Int)(t u t2 u2:Tok)(n n2:Nat)(dd dd2:Option Addr)(sl sl2:Array (Option X9)) :
  Meets (UR.«tuple.__lt__» ⟨[.ref l,.ref b],[]⟩)
   (fun _ R s=>s.heap.get? l=some { cls:=.type "tuple",dict:=dd,data:=.seq #[.int x t,.int y u] n,slots:=sl }/\s.heap.get? b=some { cls:=.type "tuple",dict:=dd2,data:=.seq #[.int x2 t2,.int y2 u2] n2,slots:=sl2 } /\
    R (.ok (.ret (.bool (lt2 (x,y) (x2,y2))))) s) :=
 .of_wp fun prog w A R s h=>by
  obtain⟨hp1,g1,d1,tk1,os1⟩:=s;obtain⟨hL,hB,h⟩:=h;have fT:=sub_tuple_tuple;wp_walk using V7 hL,V7 hB;refine EqAt.int_int x t x2 t2 prog w _ _ ?_;unfold lt2 at h;by_cases e:x=x2
  ·have e':(x==x2)=true:=by simpa using e
   rw[e'];rw[bw e] at h;wp_walk;refine EqAt.int_int y u y2 u2 prog w _ _ ?_;by_cases e2:y=y2
   ·have e2':(y==y2)=true:=by simpa using e2
    rw[e2'];rw[bg (by show ¬ y<y2;lia)] at h;wp_walk;exact⟨_,rfl,h⟩
   ·have e2':(y==y2)=false:=by simpa using e2
    rw[e2'];simp only[Bool.not_false,if_true];refine Y1 (Uo (Y1 (QH.int_int y u y2 u2 prog w _ _ ?_)));wp_walk;exact⟨_,rfl,h⟩
  ·have e':(x==x2)=false:=by simpa using e
   rw[e'];rw[bq e] at h;simp only[Bool.not_false,if_true];refine Y1 (Uo (Y1 (QH.int_int x t x2 t2 prog w _ _ ?_)));wp_walk;exact⟨_,rfl,h⟩
theorem QH.pairs {A:WL}{s:X8}{v v':X9}{p q:Int×Int}(hv:zw s.heap v p)(hv':zw s.heap v' q)(hu:A.units<Vl):QH A s v v' (lt2 p q):=fun prog w E Q h=>by
 obtain⟨a,⟨cls,dd,data,sl⟩,n,t,u,rfl,e1,c1,d1⟩:=hv;obtain⟨a',⟨cls2,dd2,data2,sl2⟩,n',t',u',rfl,e1',c1',d1'⟩:=hv';simp only at c1 d1 c1' d1';subst c1 d1 c1' d1';exact richCompare_meets_room (op:=.Lt) ⟨_,e1,rfl⟩ ⟨_,e1',rfl⟩ F.slot_tuple_lt F.entry_tuple_lt (F.args_tuple_lt_2 _ _) (zhi a a' p.1 p.2 q.1 q.2 t u t' u' n n' dd dd2 sl sl2)
  ⟨e1,e1',show Tj (lt2 p q)≠Value.notImplemented/\Q (.bool (lt2 p q)) s from ⟨(fun x=>nomatch x),h⟩⟩ hu
theorem Qm {h:Heap}{v:X9}{p:Int×Int}(hv:zw h v p):∃as,Reads h v (.tuple [.int p.1,.int p.2]) as:=by
 obtain⟨a,o,n,t,u,rfl,e1,c1,d1⟩:=hv;exact⟨_,.tuple e1 c1 d1 (.cons (.int _ _) (.cons (.int _ _) .nil))⟩
theorem zdM (p q:Int×Int):W2 (.tuple [.int p.1,.int p.2]) (.tuple [.int q.1,.int q.2])=decide (p=q):=by
 obtain⟨a,b⟩:=p;obtain⟨c,d⟩:=q;show ((a==c)&&((b==d)&&true))=_;by_cases h1:a=c
 ·by_cases h2:b=d
  ·subst h1 h2;simp
  ·simp[h2]
 ·simp[h1]
end PySem.SeqAt
namespace L2
open PySem PySem.Spec PyProof.Rows PySem.W PySem.SeqAt
open PySem PySem.Spec PyProof.Rows
section
variable {κ:Type} [DecidableEq κ]
def zae (kvs:List (κ × V))(k:κ):Option V:=(kvs.find? fun kv=>decide (kv.1=k)).map (·.2)
def putK (kvs:List (κ × V))(k:κ)(v:V):List (κ × V) :=
 if (kvs.any fun kv=>decide (kv.1=k))=true then kvs.map (fun kv=>if kv.1=k then (kv.1,v) else kv) else kvs++[(k,v)]
theorem zaf {p:κ × V}{r:List (κ × V)}{k:κ}(e:p.1=k):zae (p::r) k=some p.2:=by simp[zae,Ug,e]
theorem zag {p:κ × V}{r:List (κ × V)}{k:κ}(e:¬ p.1=k):zae (p::r) k=zae r k:=by simp[zae,Ug,e]
theorem zb9 (k:κ):∀kvs:List (κ × V),(kvs.any fun kv=>decide (kv.1=k))=(zae kvs k).isSome
 | []=>rfl
 | p::r=>by
  rw[Ud];by_cases e:p.1=k
  ·simp only[zaf e,br e,Bool.true_or,Option.isSome_some]
  ·rw[zag e,bg e,Bool.false_or];exact zb9 k r
theorem Yw (kvs:List (κ × V))(k:κ)(v:V):(putK kvs k v).length<=kvs.length+1:=by
 unfold putK;split
 ·rw[ZB];lia
 ·rw[X5,XB,UT];lia
theorem zbW.isSome_eq {o:Option V}{u:Option X9}(r:zbW o u):o.isSome=u.isSome:=by
 cases o with
 | none=>cases u with
  | none=>rfl
  | some _=>exact(show False from r).elim
 | some _=>cases u with
  | none=>exact(show False from r).elim
  | some _=>rfl
theorem KV.val {kvs:List (κ × V)}{vs:List (κ × X9)}(r:KV kvs vs)(k:κ):zbW (zae kvs k) (OU vs k):=by
 unfold KV at r;induction r with
 | nil=>exact U1
 | @cons p q ps qs h t ih =>
  obtain⟨h1,h2⟩:=h;by_cases e:p.1=k
  ·have e':q.1=k:=h1.symm.trans e;have b:OU (q::qs) k=some q.2:=by simp[OU,Ug,e']
   rw[zaf e,b];exact h2
  ·have e':¬ q.1=k:=fun z=>e (h1.trans z);have b:OU (q::qs) k=OU qs k:=by simp[OU,Ug,e']
   rw[zag e,b];exact ih
theorem KV.any {kvs:List (κ × V)}{vs:List (κ × X9)}(r:KV kvs vs)(k:κ):(kvs.any fun kv=>decide (kv.1=k))=vs.any fun kv=>decide (kv.1=k):=by
 unfold KV at r;induction r with
 | nil=>rfl
 | cons h t ih=>rw[Ud,Ud,ih,h.1]
theorem KV.repl {kvs:List (κ × V)}{vs:List (κ × X9)}(r:KV kvs vs)(k:κ){y:V}{u:X9}(ry:RelV y u) :
  KV (kvs.map fun kv=>if kv.1=k then (kv.1,y) else kv) (vs.map fun kv=>if kv.1=k then (kv.1,u) else kv):=by
 unfold KV at r ⊢;induction r with
 | nil=>exact .nil
 | @cons p q ps qs h t ih =>
  rw[W9,W9];refine .cons ?_ ih;obtain⟨h1,h2⟩:=h;by_cases e:p.1=k
  ·rw[bw e,bw (h1.symm.trans e)];exact⟨h1,ry⟩
  ·rw[bq e,bq (fun z=>e (h1.trans z))];exact⟨h1,h2⟩
theorem KV.put {kvs:List (κ × V)}{vs:List (κ × X9)}(r:KV kvs vs)(k:κ){y:V}{u:X9}(ry:RelV y u):KV (putK kvs k y) (PN vs k u):=by
 unfold putK PN;rw[r.any k];by_cases e:(vs.any fun kv=>decide (kv.1=k))=true
 ·rw[bw e,bw e];exact r.repl k ry
 ·rw[bq e,bq e];exact Paired.snoc r ⟨rfl,ry⟩
theorem KV.length {kvs:List (κ × V)}{vs:List (κ × X9)}(r:KV kvs vs):kvs.length=vs.length:=Paired.length r
end
theorem zdN {P:Xi}{w:WS}{k:Key}{u:X9}(r:RelV (kV k) u):(zU P w).is k u=true:=by
 cases k with
 | inl i=>obtain⟨t,e⟩:=(show ∃t,u=Vw i t from r);subst e;exact zfw P w i t
 | inr x=>obtain⟨t,e⟩:=(show ∃t,u=Oj x t from r);subst e;exact zfx P w x t
theorem zdO {P:Xi}{w:WS}:∀{ks:List Key} {us:List X9},Vals (ks.map kV) us->ItemsAre (zU P w) ks us
 | [],_,r=>by rw[RT] at r;cases r;exact .nil
 | k::ks,_,r=>by
  rw[W9] at r;cases r with
  | cons h t=>exact .cons (zdN h) (zdO t)
abbrev KT (H:Hp):List (List Key×V)->List (List Key×Addr×X9)->Prop:=WU fun p q=>p.1=q.1/\H q.2.1=some (.tup (p.1.map kV))/\RelV p.2 q.2.2
theorem KT.val {H:Hp}{kvs:List (List Key×V)}{xs:List (List Key×Addr×X9)}(r:KT H kvs xs)(k:List Key):zbW (zae kvs k) ((Oh xs k).map (·.2)):=by
 induction r with
 | nil=>exact U1
 | @cons p q ps qs h t ih =>
  obtain⟨h1,_,h2⟩:=h;by_cases e:p.1=k
  ·have e':q.1=k:=h1.symm.trans e;have b:Oh (q::qs) k=some q.2:=by simp[Oh,Ug,e']
   rw[zaf e,b];exact h2
  ·have e':¬ q.1=k:=fun z=>e (h1.trans z);have b:Oh (q::qs) k=Oh qs k:=by simp[Oh,Ug,e']
   rw[zag e,b];exact ih
theorem KT.repl {H:Hp}{kvs:List (List Key×V)}{xs:List (List Key×Addr×X9)}(r:KT H kvs xs)(k:List Key){y:V}{u:X9}(ry:RelV y u) :
  KT H (kvs.map fun kv=>if kv.1=k then (kv.1,y) else kv) (xs.map (putAt k u)):=by
 induction r with
 | nil=>exact .nil
 | @cons p q ps qs h t ih =>
  rw[W9,W9];refine .cons ?_ ih;obtain⟨h1,h2,h3⟩:=h;unfold putAt;by_cases e:p.1=k
  ·rw[bw e,bw (h1.symm.trans e)];exact⟨h1,h2,ry⟩
  ·rw[bq e,bq (fun z=>e (h1.trans z))];exact⟨h1,h2,h3⟩
theorem KT.put {H:Hp}{kvs:List (List Key×V)}{xs:List (List Key×Addr×X9)}(r:KT H kvs xs)(k:List Key){b:Addr}{y:V}{u:X9}(hb:H b=some (.tup (k.map kV)))(ry:RelV y u) :
  KT H (putK kvs k y) (storedH xs k b u):=by
 have e:(kvs.any fun kv=>decide (kv.1=k))=(Oh xs k).isSome:=by
  rw[zb9,(r.val k).isSome_eq,Option.isSome_map]
 unfold putK storedH;rw[e];by_cases q:(Oh xs k).isSome=true
 ·rw[bw q,bw q];exact r.repl k ry
 ·rw[bq q,bq q];exact Paired.snoc r ⟨rfl,hb,ry⟩
theorem KT.keeps {H H':Hp}{kvs:List (List Key×V)}{xs:List (List Key×Addr×X9)}(r:KT H kvs xs)(ht:∀b ys,H b=some (.tup ys)->H' b=some (.tup ys)):KT H' kvs xs :=
 Paired.mapP r fun _ _ z=>⟨z.1,ht _ _ z.2.1,z.2.2⟩
section
variable {P:Xi}{w:WS}{H:Hp}{h:Heap}{a:Addr}
theorem zod {u:HO}(ok:HOk P w H h)(e:Rd H a u):qA P w H h a u:=e.ok ok
theorem ziB {kvs:List (Key×V)}(ok:HOk P w H h)(e:Rd H a (.dK kvs)):kvs.length<=Xv/\(a==Uq)=false/\∃vs,KV kvs vs/\h.DictOf (zU P w) a vs :=
 show qA P w H h a (.dK kvs) from zod ok e
theorem zkQ {kvs:List (Key×V)}(ok:HOk P w H h)(e:H a=some (.dK kvs)):kvs.length<=Xv/\(a==Uq)=false/\∃vs,KV kvs vs/\h.DictOf (zU P w) a vs:=ziB ok (.inl e)
theorem zeO {ks:List Key}(ok:HOk P w H h)(e:H a=some (.tup (ks.map kV))):(Ra (zU P w)).is h ks a:=by
 obtain⟨_,its,r,o,h1,h2,n,h3⟩:=(show qA P w H h a (.tup (ks.map kV)) from ok a _ e);exact⟨o,its.toArray,n,h1,h2,h3,by simpa using zdO r⟩
theorem ziC {kvs:List (List Key×V)}(ok:HOk P w H h)(e:Rd H a (.dT kvs)):kvs.length<=Xv/\(a==Uq)=false /\
  ∃xs,KT H kvs xs/\h.DictOfH (Ra (zU P w)) a xs:=by
 obtain⟨z,y,xs,r,o,es,ep,h1,h2,h3,h4,h5⟩:=(show qA P w H h a (.dT kvs) from zod ok e);refine⟨z,y,xs,r,o,es,ep,h1,h2,h3,h4,fun x hx=>?_,h5⟩;have all:∀{l:List (List Key×V)} {m:List (List Key×Addr×X9)},KT H l m->∀x∈m,(Ra (zU P w)).is h x.1 x.2.1:=by
  intro l m q;induction q with
  | nil=>intro x hx;exact nomatch hx
  | @cons p q ps qs hq t ih =>
   intro x hx;rcases Xz.mp hx with e | hx
   ·subst e;exact zeO ok (by rw[<- hq.1];exact hq.2.1)
   ·exact ih x hx
 exact all r x hx
theorem zqq {kvs:List (List Key×V)}(ok:HOk P w H h)(e:H a=some (.dT kvs)):kvs.length<=Xv/\(a==Uq)=false /\
  ∃xs,KT H kvs xs/\h.DictOfH (Ra (zU P w)) a xs:=ziC ok (.inl e)
end
def zeP (H:Hp)(a:Addr)(y:V)(r:Option V):Prop :=
 (∃kvs k,Rd H a (.dK kvs)/\y=kV k/\r=zae kvs k)\/∃kvs k b,Rd H a (.dT kvs)/\y=.ref b/\H b=some (.tup (k.map kV))/\r=zae kvs k
def zkR (H:Hp)(a:Addr)(y v:V)(H':Hp):Prop :=
 (∃kvs k,H a=some (.dK kvs)/\y=kV k/\kvs.length<Xv/\H'=upd H a (.dK (putK kvs k v))) \/
 ∃kvs k b,H a=some (.dT kvs)/\y=.ref b/\H b=some (.tup (k.map kV))/\kvs.length<Xv/\H'=upd H a (.dT (putK kvs k v))
theorem zeP.k {H:Hp}{a:Addr}{kvs:List (Key×V)}{k:Key}(e:H a=some (.dK kvs)):zeP H a (kV k) (zae kvs k):=.inl ⟨kvs,k,.inl e,rfl,rfl⟩
theorem zkR.k {H:Hp}{a:Addr}{kvs:List (Key×V)}{k:Key}{v:V}(e:H a=some (.dK kvs))(hl:kvs.length<Xv):zkR H a (kV k) v (upd H a (.dK (putK kvs k v))):=.inl ⟨kvs,k,e,rfl,hl,rfl⟩
section
variable {X:Cx}{bQ:List (Addr×Obj)}{σ:St}{H:Hp}{s:X8}{a:Addr}{y v:V}{u r:X9}{o:Option V}{A:WL}{E:X9->X8->Prop}
theorem Inv.big (I:Inv X bQ σ H s):Uq<s.heap.objs.size:=by
 have h:XQ<s.heap.objs.size:=(I.mod.glob.keeps I.bk).lt;exact RS (by decide) h
theorem zjB {Q:X9->X8->Prop}(hu:A.units+1<Vl)(I:Inv X bQ σ H s)(g:zeP H a y (some v))(ry:RelV y u)(h:∀w' s',Inv X bQ σ H s'->RelV v w'->Q w' s') :
  W7 (Xf X.prog X.w) A (OX (.ref a) u) Q E s:=by
 rcases g with ⟨kvs,k,e,ey,l⟩ | ⟨kvs,k,b,e,ey,eb,l⟩
 ·subst ey;obtain⟨z,hd,vs,rel,dd⟩:=ziB I.hok e;obtain⟨w',hw,rw'⟩:=zbW.some_of (v:=v) (o:=OU vs k) (by rw[l];exact rel.val k);exact wpAny_getItem_of (zdN ry) dd.mapOf hw (h w' _ (I.tok _) rw')
 ·subst ey;cases (show u=Wz b from ry);obtain⟨z,hd,xs,rel,dd⟩:=ziC I.hok e;obtain⟨w',hw,rw'⟩:=zbW.some_of (v:=v) (o:=(Oh xs k).map (·.2)) (by rw[l];exact rel.val k);obtain⟨p,hp,hp2⟩:=Option.map_eq_some_iff.mp hw;refine wpAny_getItem_heap (RK hu) (zeO I.hok eb) dd hp ?_;rw[hp2];exact h w' _ (I.tok _) rw'
theorem zm0 {Q:X9->X8->Prop}(hu:A.units+1<Vl)(I:Inv X bQ σ H s)(g:zeP H a y o)(ry:RelV y u)(h:∀s',Inv X bQ σ H s'->Q (.bool (!o.isSome)) s') :
  W7 (Xf X.prog X.w) A (Wf .NotIn u (.ref a)) Q E s:=by
 rcases g with ⟨kvs,k,e,ey,l⟩ | ⟨kvs,k,b,e,ey,eb,l⟩
 ·subst ey;obtain⟨z,hd,vs,rel,dd⟩:=ziB I.hok e;refine wpAny_notIn_of (zdN ry) hd dd.mapOf ?_;rw[<- (rel.val k).isSome_eq,<- l];exact h _ (I.tok _)
 ·subst ey;cases (show u=Wz b from ry);obtain⟨z,hd,xs,rel,dd⟩:=ziC I.hok e;refine wpAny_notIn_heap (RK hu) (zeO I.hok eb) hd dd ?_;have q:=(rel.val k).isSome_eq;rw[Option.isSome_map] at q;rw[<- q,<- l];exact h _ (I.tok _)
theorem zeQ {h':Heap}{t':Nat}{ob:HO}(I:Inv X bQ σ H s)(mu:Mut (H a))(hs:VA a s.heap h')(he:∃q,h'.get? a=some q)(new:qA X.prog X.w (upd H a ob) h' a ob) :
  Inv X bQ σ (upd H a ob) { s with heap:=h',toks:=t' } :=
 I.write (x:=a) (e:=a) mu (.inl rfl) (fun b q hb z=>(hs.2 b hb).trans z) he new
theorem zkS {P:Xi}{w:WS}{H':Hp}{h':Heap}{kvs:List (Key×V)}{vs:List (Key×X9)}(z:kvs.length<=Xv)(hd:(a==Uq)=false)(rel:KV kvs vs)(dd:h'.DictOf (zU P w) a vs) :
  qA P w H' h' a (.dK kvs):=⟨z,hd,vs,rel,dd⟩
theorem zjC {H':Hp}{Q:Unit->X8->Prop}(hu:A.units+1<Vl)(I:Inv X bQ σ H s)(g:zkR H a y v H')(ry:RelV y u)(rv:RelV v r)(h:∀s',Inv X bQ σ H' s'->Q () s') :
  W7 (Xf X.prog X.w) A (setItem (.ref a) u r) Q E s:=by
 rcases g with ⟨kvs,k,e,ey,l,eH⟩ | ⟨kvs,k,b,e,ey,eb,l,eH⟩
 ·subst ey eH;obtain⟨z,hd,vs,rel,dd⟩:=zkQ I.hok e;have hz:vs.length<=Xv:=by rw[<- rel.length];exact z
  have hl:(putK kvs k v).length<=Xv:=by have:=Yw kvs k v;lia
  refine wpAny_setItem_pairs (hsz:=hz) (zdN ry) dd fun h' dd' hs=>h _ ?_;have he:∃q,h'.get? a=some q:=let ⟨q,_,_,hq,_⟩:=dd';⟨q,hq⟩
  exact zeQ I (by rw[e];exact U1) hs he (zkS hl hd (rel.put k rv) dd')
 ·subst ey eH;cases (show u=Wz b from ry);obtain⟨z,hd,xs,rel,dd⟩:=zqq I.hok e;have hz:xs.length<=Xv:=by rw[<- Paired.length rel];exact z
  have hl:(putK kvs k v).length<=Xv:=by have:=Yw kvs k v;lia
  refine wpAny_setItem_heap (hsz:=hz) (RK hu) (zeO I.hok eb) dd fun h' dd' hs=>h _ ?_;obtain⟨q,es,ep,hq,h2,h3,h4,_,h5⟩:=dd';refine zeQ I (by rw[e];exact U1) hs ⟨q,hq⟩ ⟨hl,hd,_,(rel.put k eb rv).keeps fun c ys ec=>?_,q,es,ep,hq,h2,h3,h4,h5⟩;rw[zf (zkp ec e (fun z=>nomatch z))];exact ec
end
def zqr (i:Expr):Prop:=∀ov iv,Pf i false ov iv=operate [ov,iv] (OX ov iv)
theorem zm1 {prog:Xi}{w:WS}{A:WL}{E:X9->X8->Prop}{s:X8}{env:Env}{value slice:Expr}{pos:Pos}{T id:String}{Q:X9->X8->Prop}
  (hl:Oy (.type T) "__getitem__"=pure (some (.builtin id))) (hs:zqr slice)
  (h:W7 (Xf prog w) A (eval value env) (fun o s₁=>W7 (Xf prog w) A (eval slice env) (fun i s₂=>s₂.TypeIs o T/\W7 (Xf prog w) A (OX o i) Q E s₂) E s₁) E s) :
  W7 (Xf prog w) A (eval (.Subscript value slice pos) env) Q E s:=by
 refine Subscript_ (Wg h (fun o s₁ h₁=>Wg h₁ (fun i s₂ h₂=>?_) fun _ _ x=>x) fun _ _ x=>x);obtain⟨hT,h₂⟩:=h₂;unfold OJ;refine Y1 ?_;rw[getitemInPython_of_ne hT.not_modules];refine Y1 (Pq hT hl ?_);have fin:W7 (Xf prog w) A (Pf slice false o i) (fun r s₃=>W7 (Xf prog w) A (letTemporaryGo value o r >>= fun _=>pure r) Q E s₃) E s₂:=by
  rw[hs o i];exact wpAny_operating (Wg h₂ (fun r s₃ h₃=>Y1 (wpAny_letTemporaryGo (XS h₃))) fun _ _ x=>x)
 first
  | exact XS (Y1 fin)
  | exact Y1 (XS (Y1 fin))
  | exact Y1 fin
theorem zfQ {X:Cx}{bQ:List (Addr×Obj)}{σ:St}{H:Hp}{s:X8}{a:Addr}{y:V}{o:Option V}(I:Inv X bQ σ H s)(g:zeP H a y o):s.TypeIs (.ref a) "dict":=by
 rcases g with ⟨kvs,k,e,_,_⟩ | ⟨kvs,k,b,e,_,_,_⟩
 ·obtain⟨_,_,vs,_,dd⟩:=ziB I.hok e;exact dd.typeIs
 ·obtain⟨_,_,xs,_,dd⟩:=ziC I.hok e;exact dd.typeIs
def zqs (td ty:TE):TE:=fun σ H Q=>td σ H fun x H1=>ty σ H1 fun y H2=>∃a v,x=.ref a/\zeP H2 a y (some v)/\Q v H2
def zm2 (ty td:TE):TE:=fun σ H Q=>ty σ H fun y H1=>td σ H1 fun x H2=>∃a o,x=.ref a/\zeP H2 a y o/\Q (.bl (!o.isSome)) H2
def zqt (td ty tv:TE):TS:=fun D σ H=>tv σ H fun v H1=>td σ H1 fun x H2=>ty σ H2 fun y H3=>∃a H4,x=.ref a/\zkR H3 a y v H4/\D.nx σ H4
section
variable {X:Cx}{o i e value:Expr}{pos pos' tpos:Pos}{td ty tv:TE}
theorem zm3 (hu:X.A.units+1<Vl)(ho:PE X o td)(hi:PE X i ty)(hs:zqr i):PE X (.Subscript o i pos) (zqs td ty):=by
 intro bQ s σ H Q I h;refine zm1 PySem.F.slot_dict_getitem.lookup hs (thn (ho bQ s σ H _ I h) fun u s1 ⟨x,H1,I1,rx,q1⟩=>thn (hi bQ s1 σ H1 _ I1 q1) fun iv s2 ⟨y,H2,I2,ry,a,v,ex,g,q2⟩=>?_);subst ex;obtain rfl:u=Wz a:=rx;exact⟨zfQ I2 g,zjB hu I2 g ry fun w' s3 I3 rw'=>⟨v,H2,I3,rw',q2⟩⟩
theorem zjD (hu:X.A.units+1<Vl)(hi:PE X i ty)(ho:PE X o td):PC X .NotIn i o (zm2 ty td):=by
 intro bQ s σ H Q I h;refine thn (hi bQ s σ H _ I h) fun iv s1 ⟨y,H1,I1,ry,q1⟩=>thn (ho bQ s1 σ H1 _ I1 q1) fun u s2 ⟨x,H2,I2,rx,a,ov,ex,g,q2⟩=>?_;subst ex;obtain rfl:u=Wz a:=rx;exact zm0 hu I2 g ry fun s3 I3=>⟨.bl (!ov.isSome),H2,I3,rfl,q2⟩
theorem zm4 (hu:X.A.units+1<Vl)(ho:PE X o td)(hi:PE X i ty)(hv:PE X value tv)(hs:OR value (some (.Subscript o i pos')) pos.line X.env=pure false) :
  PS X (.Assign [.Subscript o i pos'] value pos) (zqt td ty tv):=by
 intro bQ s σ H D I h;refine wpAny_Assign_Subscript (thn (hv bQ s σ H _ I h) fun r s1 ⟨v,H1,I1,rv,q1⟩=>thn (ho bQ s1 σ H1 _ I1 q1) fun u s2 ⟨x,H2,I2,rx,q2⟩=>thn (hi bQ s2 σ H2 _ I2 q2) fun iv s3 ⟨y,H3,I3,ry,a,H4,ex,g,q3⟩=>?_) hs;subst ex;obtain rfl:u=Wz a:=rx;exact zjC hu I3 g ry rv fun s4 I4=>⟨σ,H4,I4,q3⟩
end
theorem zfR {P:Xi}{w:WS}{H:Hp}(h:Heap)(hb:Uq<h.objs.size):qA P w H (h.push { cls:=.type "dict",data:=.dict #[] }) h.objs.size (.dK []) :=
 ⟨W4 _,beq_eq_false_iff_ne.mpr (Vs (Xe hb)),[],.nil,Heap.DictOf.new h⟩
def zo8:TE:=fun _ H Q=>∀p,H p=none->Q (.ref p) (upd H p (.dK []))
section
variable {X:Cx}{pos:Pos}
theorem zkT:PE X (.Dict [] [] pos) zo8:=fun bQ s σ H Q I h =>
 wpAny_Dict_empty ⟨.ref s.heap.objs.size,_,I.laid (a:=s.heap.objs.size) (o:=.dK []) (t':=s.toks) (fun _ _ q=>X7 _ q) (XW _) (zfR s.heap I.big),rfl,h _ (I.hok.fresh (XW _))⟩
end
def zhj:List (TE×TE)->St->Hp->(List (V×V)->Hp->Prop)->Prop
 | [],_,H,Q=>Q [] H
 | (tk,tv)::r,σ,H,Q=>tk σ H fun x H1=>tv σ H1 fun y H2=>zhj r σ H2 fun ps H3=>Q ((x,y)::ps) H3
abbrev VV:List (V×V)->List (X9×X9)->Prop:=WU fun p q=>RelV p.1 q.1/\RelV p.2 q.2
def PPs (X:Cx)(pos:Pos)(keys:List (Option Expr))(values:List Expr)(trs:List (TE×TE)):Prop :=
 ∀(bQ:List (Addr×Obj)) (s:X8) (σ:St) (H:Hp) (Q:List (V×V)->Hp->Prop),Inv X bQ σ H s->zhj trs σ H Q ->
  W7 (Xf X.prog X.w) X.A (evalPairs (pairTrees keys values X.env pos)) (fun vs s'=>∃ps H',Inv X bQ σ H' s'/\VV ps vs/\Q ps H') X.xe s
theorem zm5 {X:Cx}{pos:Pos}:PPs X pos [] [] []:=fun bQ s σ H Q I h=>pairTrees_nil_walk ⟨[],H,I,.nil,h⟩
theorem zkU {X:Cx}{pos:Pos}{k v:Expr}{ks:List (Option Expr)}{vs:List Expr}{tk tv:TE}{trs:List (TE×TE)}(hk:PE X k tk)(hv:PE X v tv)(hr:PPs X pos ks vs trs) :
  PPs X pos (some k::ks) (v::vs) ((tk,tv)::trs):=fun bQ s σ H Q I h =>
 pairTrees_cons_walk (thn (hk bQ s σ H _ I h) fun u s1 ⟨x,H1,I1,rx,q1⟩=>thn (hv bQ s1 σ H1 _ I1 q1) fun w2 s2 ⟨y,H2,I2,ry,q2⟩ =>
  thn (hr bQ s2 σ H2 _ I2 q2) fun ws s3 ⟨ps,H3,I3,rel,q3⟩=>⟨(x,y)::ps,H3,I3,.cons ⟨rx,ry⟩ rel,q3⟩)
def J6 (kvs more:List (Key×V)):List (Key×V):=more.foldl (fun acc kv=>putK acc kv.1 kv.2) kvs
theorem KV.merge:∀{more:List (Key×V)} {rs:List (Key×X9)} {kvs:List (Key×V)} {vs:List (Key×X9)},KV more rs->KV kvs vs->KV (J6 kvs more) (merged vs rs):=by
 intro more rs kvs vs r;unfold KV at r;induction r generalizing kvs vs with
 | nil=>intro q;exact q
 | @cons p q ps qs h t ih =>
  intro r0;have e:KV (putK kvs p.1 p.2) (PN vs q.1 q.2):=by
   have:=r0.put p.1 h.2;rw[<- h.1];exact this
  exact ih e
theorem Qo:∀(more kvs:List (Key×V)),(J6 kvs more).length<=kvs.length+more.length
 | [],kvs=>by show kvs.length<=kvs.length+0;lia
 | p::r,kvs=>by
  have h1:=Qo r (putK kvs p.1 p.2);have h2:=Yw kvs p.1 p.2;show (J6 (putK kvs p.1 p.2) r).length<=_;rw[XB];lia
theorem zca {P:Xi}{w:WS}:∀{kvs:List (Key×V)} {ws:List (X9×X9)},VV (kvs.map fun kv=>(kV kv.1,kv.2)) ws->∃rs,Carries (zU P w) ws rs/\KV kvs rs
 | [],_,r=>by rw[RT] at r;cases r;exact⟨[],U1,.nil⟩
 | p::kvs,_,r=>by
  rw[W9] at r;cases r with
  | @cons a b as bs h t =>
   obtain⟨rs,c,q⟩:=zca (P:=P) (w:=w) t;obtain⟨b1,b2⟩:=b;exact⟨(p.1,b2)::rs,⟨zdN h.1,rfl,c⟩,.cons ⟨rfl,h.2⟩ q⟩
def zqu (trs:List (TE×TE)):TE:=fun σ H Q=>∀p,H p=none->zhj trs σ (upd H p (.dK [])) fun ps H2=>H2 p=some (.dK [])/\∃kvs:List (Key×V),ps=kvs.map (fun kv=>(kV kv.1,kv.2))/\kvs.length<=15/\Q (.ref p) (upd H2 p (.dK (J6 [] kvs)))
theorem zm6 {X:Cx}{pos:Pos}{keys:List (Option Expr)}{values:List Expr}{trs:List (TE×TE)}(h:PPs X pos keys values trs)(hall:keys.all (·.isSome)=true)(hl:keys.length=values.length)(h0:keys ≠ [])
  (h15:keys.length<=15):PE X (.Dict keys values pos) (zqu trs):=by
 intro bQ s σ H Q I q;have hn:=I.hok.fresh (XW s.heap.objs.size);have I1:=I.laid (a:=s.heap.objs.size) (o:=.dK []) (h':=s.heap.push { cls:=.type "dict",data:=.dict #[] }) (t':=s.toks) (fun _ _ q=>X7 _ q) (XW _) (zfR s.heap I.big);refine wpAny_Dict_walk (knd:=zU X.prog X.w) hall hl h0 h15 (thn (h bQ _ σ _ _ I1 (q _ hn)) fun ws s2 ⟨ps,H2,I2,rel,e,kvs,ep,lk,q2⟩=>?_);subst ep;obtain⟨rs,c,rk⟩:=zca (P:=X.prog) (w:=X.w) rel;obtain⟨z,hd,vs0,r0,dd⟩:=zkQ I2.hok e;cases r0;refine⟨rs,c,dd,fun h' dd' hs=>⟨.ref s.heap.objs.size,_,?_,rfl,q2⟩⟩;have hz:(J6 [] kvs).length<=Xv:=by
  have h1:=Qo kvs [];rw[UT] at h1;rw[Uu];lia
 have he:∃q,h'.get? s.heap.objs.size=some q:=let ⟨q,_,_,hq,_⟩:=dd';⟨q,hq⟩
 exact zeQ I2 (by rw[e];exact U1) hs he (zkS hz hd (rk.merge .nil) dd')
theorem zjE:Oy (.type "list") "keys"=pure none:=by rw[R3,Ua];kernel_rfl
theorem zjF:Oy (.type "list") "__getattr__"=pure none:=by rw[R3,Ua];kernel_rfl
theorem zcb:isSubtype (.type "AttributeError") (.type "AttributeError")=pure true:=by rw[Pb];kernel_rfl
theorem zkV (args:List X9):ownMembersOf (.type "AttributeError") args=#[unsetMember,unsetMember]:=rfl
theorem zhk:((Manifest.find? "AttributeError").elim false fun t=>t.mro.contains "StopIteration" || t.mro.contains "SystemExit")=false:=by decide +kernel
section
variable {prog:Xi}{w:WS}{A:WL}{E:X9->X8->Prop}{h:Heap}{g:Array U2}{d:Oc}{t:Nat}{os:Ot}{a:Addr}{its:Array X9}{n:Nat}
theorem zkW {tk:Tok}{Q:Fin->X8->Prop}(hx:h.get? a=some { cls:=.type "list",dict:=none,data:=.seq its n,slots:=#[] })(hh:A.handled=none)
  (he:∀h' t' e,(∀b o',h.get? b=some o'->h'.get? b=some o')->(⟨h',g,d,t',os⟩:X8).TypeIs (.ref e) "AttributeError"->E (.ref e) ⟨h',g,d,t',os⟩) :
  W7 (Xf prog w) A (UR.«object.__getattribute__» ⟨[.ref a,.str "keys" tk],[]⟩) Q E ⟨h,g,d,t,os⟩:=by
 have hT:(⟨h,g,d,t,os⟩:X8).TypeIs (.ref a) "list":=⟨_,hx,rfl⟩;have f4:=zjE;have f5:=zcb;repeat (any_goals (first | assumption | wp_step))
 unfold raiseAttrError;refine Y1 (wpAny_mkStr (Y1 ?_) (by decide +kernel));unfold newExc newTuple;refine Y1 (VM ?_);refine Y1 (m:=RM _ _) (Of (a:=Ur) (by simp only[RM,zhk];rfl) ?_);rw[zkV];refine VM ?_;refine Y1 (wpAny_mkText ?_);refine Y1 ?_;unfold noteAttr lacksNameAndObj;repeat (any_goals (first | assumption | wp_step))
 unfold raiseNew;refine Y1 (wpAny_handled ?_);rw[hh];refine Y1 (XS (wpAny_throw ?_));dsimp only;refine he _ _ _ (fun b o' hb=>?_) ?_
 ·rw[(UD ..).2 b (Xe ?_)]
  ·exact X7 _ (X7 _ hb)
  ·rw[Vi];exact Wx (XI hb)
 ·refine⟨_,VJ _ (Xd _ rfl) rfl,rfl⟩
theorem zm7 {tk:Tok}{R:OA->X8->Prop}(hx:h.get? a=some { cls:=.type "list",dict:=none,data:=.seq its n,slots:=#[] })(hh:A.handled=none)
  (he:∀h' t' e,(∀b o',h.get? b=some o'->h'.get? b=some o')->(⟨h',g,d,t',os⟩:X8).TypeIs (.ref e) "AttributeError"->R (.error (.ref e)) ⟨h',g,d,t',os⟩) :
  TV (Xf prog w) A (.call (.builtin "list.__getattribute__") ⟨[.ref a,.str "keys" tk],[]⟩) R ⟨h,g,d,t,os⟩ :=
 TX PySem.F.slot_list_getattribute.plain PySem.F.entry_list_ga (PySem.F.slot_list_getattribute.check _ _ _ _ _ _ _ _ (show (⟨h,g,d,t,os⟩:X8).TypeIs (.ref a) "list" from ⟨_,hx,rfl⟩) (PySem.F.args_list_getattribute_2 _ _) (zkW hx (by simp[hh]) he))
theorem zqv {tk:Tok}{Q:X9->X8->Prop}(hx:h.get? a=some { cls:=.type "list",dict:=none,data:=.seq its n,slots:=#[] })(hh:A.handled=none)
  (he:∀h' t' e,(∀b o',h.get? b=some o'->h'.get? b=some o')->(⟨h',g,d,t',os⟩:X8).TypeIs (.ref e) "AttributeError"->E (.ref e) ⟨h',g,d,t',os⟩) :
  W7 (Xf prog w) A (getAttrBy (.ref a) (.str "keys" tk) false) Q E ⟨h,g,d,t,os⟩:=by
 have hT:(⟨h,g,d,t,os⟩:X8).TypeIs (.ref a) "list":=⟨_,hx,rfl⟩;have f2:=PySem.F.slot_list_getattribute.lookup;have f3:=PySem.F.slot_list_getattribute.bind (.ref a);have f4:=zjF;have f5:=zcb;repeat (any_goals (first | assumption | wp_step))
 refine zm7 hx (by simp[hh]) fun h' t' e kp hE=>?_;repeat (any_goals (first | assumption | wp_step))
 exact he _ _ _ kp hE
theorem zm8 {Q:Option X9->X8->Prop}(hx:h.get? a=some { cls:=.type "list",dict:=none,data:=.seq its n,slots:=#[] })(hh:A.handled=none)
  (hq:∀h' t',(∀b o',h.get? b=some o'->h'.get? b=some o')->Q none ⟨h',g,d,t',os⟩) :
  W7 (Xf prog w) A (N7 (.ref a) "keys") Q E ⟨h,g,d,t,os⟩:=by
 have f5:=zcb;unfold N7 getAttrBy?;refine Y1 (wpAny_mkText (Y1 (Ro ?_)));refine zqv (t:=t+1) hx hh fun h' t' e kp hE=>?_;repeat (any_goals (first | assumption | wp_step))
 exact hq _ _ kp
theorem zah:N6 table "dict.update.loop"=some UR.«dict.update.loop»:=entryFor_of_tree (by kernel_rfl)
theorem Jf:plainId "dict.update.loop"=true:=by decide +kernel
end
section
variable {prog:Xi}{w:WS}{A:WL}{R:OA->X8->Prop}{I:Addr}{fp wr:List Addr}{G:Array U2->Array U2->Prop}{n:Nat}{P:Nat->X9->Prop}{St:Nat->X8->Prop}
theorem zeR {A:WL}{E:X9->X8->Prop}{s:X8}{ta:Addr}{x y:X9}{Q:List X9->X8->Prop}(h:Od s.heap ta #[x,y])(q:Q [x,y] s):W7 (Xf prog w) A (PD (.ref ta)) Q E s:=by
 obtain⟨o,h1,h2,n,h3⟩:=h;have hT:s.TypeIs (.ref ta) "tuple":=⟨o,h1,h2⟩;unfold PD;repeat (any_goals (first | assumption | wp_step))
 rw[h3];exact XS (XS q)
end
theorem u1 {A:PySem.Around}(h:A.units+64<PySem.cLine):A.units+1<PySem.cLine:=by lia
section
variable {prog:Xi}{w:WS}{A:WL}{E:X9->X8->Prop}{s:X8}{d o a:Addr}{xs ys:List KQ}{k:List Key}{v:X9}
abbrev tk2 (prog:Xi)(w:WS):HeapKind prog w (List Key):=Ra (zU prog w)
end
def HH (i j:Nat):Int:=reduceHash (Builtin.Tuple.tupleHashOf [hashInt (i:Int),hashInt (j:Int)])
theorem zai (prog:Xi)(w:WS)(i j:Nat):(tk2 prog w).hash [.inl ((i:Nat):Int),.inl ((j:Nat):Int)]=HH i j:=by
 show tupleKeyHash (zU prog w) [.inl ((i:Nat):Int),.inl ((j:Nat):Int)]=HH i j;unfold tupleKeyHash HH;rw[W9,W9,RT];have e:∀n:Nat,(zU prog w).hash (.inl ((n:Nat):Int))=hashInt ((n:Nat):Int):=fun n=>by
  show zoy w (.inl ((n:Nat):Int))=_;unfold zoy;with_reducible rfl
 rw[e,e]
theorem zo9:(XF 64).all fun n=>(XF 64).all fun m=>decide (HH (n/8) (n%8)=HH (m/8) (m%8))==decide (n=m):=by decide +kernel
theorem zkX {i j i' j':Nat}(h1:i<8)(h2:j<8)(h3:i'<8)(h4:j'<8)(e:HH i j=HH i' j'):i=i'/\j=j':=by
 have h:=zo9;rw[WR] at h;have a:=h (8*i+j) (Xl.mpr (by lia));rw[WR] at a;have b:=a (8*i'+j') (Xl.mpr (by lia));rw[show (8*i+j)/8=i by lia,show (8*i+j)%8=j by lia,show (8*i'+j')/8=i' by lia,show (8*i'+j')%8=j' by lia,br e] at b;have c:decide (8*i+j=8*i'+j')=true:=by simpa using b
 have d:=bh c;lia
open PySem
namespace ST
def run (mask i:Nat):List Nat:=(XF (VE mask i+1-i)).map (i + ·)
def walk (mask:Nat):Nat->Nat->Nat->List Nat
 | 0,_,_=>[]
 | f+1,i,p=>run mask i++walk mask f (Vk mask i p).1 (Vk mask i p).2
theorem zm9 (mask i:Nat):1<=(run mask i).length/\(run mask i).length<=10:=by
 unfold run VE;rw[ZB,Xj];split<;>lia
theorem zcc (mask:Nat):∀f i p,(walk mask f i p).length<=10*f
 | 0,_,_=>XW _
 | f+1,i,p=>by
  rw[walk,X5];have:=(zm9 mask i).2;have:=zcc mask f (Vk mask i p).1 (Vk mask i p).2;lia
def steps (t:Wj):Nat->RL->RL
 | 0,p=>p
 | n+1,p=>steps t n (t.advance p)
theorem zaP (t:Wj):∀n m p,steps t (n+m) p=steps t m (steps t n p)
 | 0,m,p=>by rw[VP];rfl
 | n+1,m,p=>by
  rw[show n+1+m=(n+m)+1 from by lia];exact zaP t n m (t.advance p)
theorem zaQ (t:Wj)(i pt:Nat)(dm:Option Nat):∀(d r j:Nat),d<=r->steps t d { j:=j,more:=r,i:=i,perturb:=pt,dummy:=dm }={ j:=j+d,more:=r-d,i:=i,perturb:=pt,dummy:=dm }
 | 0,r,j,_=>rfl
 | d+1,r,j,h=>by
  have e:t.advance { j:=j,more:=r,i:=i,perturb:=pt,dummy:=dm }={ j:=j+1,more:=r-1,i:=i,perturb:=pt,dummy:=dm }:=by
   unfold Qr;rw[bw (by show r>0;lia)]
  show steps t d (t.advance _)=_;rw[e,zaQ t i pt dm d (r-1) (j+1) (by lia)];congr 1<;>lia
def YX (mask i pt:Nat)(dm:Option Nat):RL:={ j:=i,more:=VE mask i-i,i:=i,perturb:=pt,dummy:=dm }
theorem zaR (mask i:Nat):i<=VE mask i:=by
 unfold VE;split<;>lia
theorem zhl (t:Wj)(i pt:Nat)(dm:Option Nat):steps t (run t.mask i).length (YX t.mask i pt dm)=YX t.mask (Vk t.mask i pt).1 (Vk t.mask i pt).2 dm:=by
 have hl:(run t.mask i).length=(VE t.mask i-i)+1:=by
  unfold run;rw[ZB,Xj];have:=zaR t.mask i;lia
 rw[hl,zaP];unfold YX;rw[zaQ t i pt dm _ _ _ (XW _),SW];rw[steps,steps];unfold Qr;rw[bq (by show ¬ 0>0;lia)]
theorem Jv (t:Wj):∀(f i pt:Nat) (dm:Option Nat) (n:Nat) (j:Nat),(walk t.mask f i pt)[n]?=some j->(steps t n (YX t.mask i pt dm)).j=j
 | 0,_,_,_,_,_,h=>by simp[walk] at h
 | f+1,i,pt,dm,n,j,h=>by
  rw[walk] at h;by_cases hn:n<(run t.mask i).length
  ·rw[V3 hn] at h;unfold run at h;rw[Xk,UC (by unfold run at hn;simpa using hn)] at h;have hl:(run t.mask i).length=(VE t.mask i-i)+1:=by
    unfold run;rw[ZB,Xj];have:=zaR t.mask i;lia
   unfold YX;rw[zaQ t i pt dm n _ _ (by lia)];exact Option.some.inj h
  ·rw[VR (by lia)] at h;have e:n=(run t.mask i).length+(n-(run t.mask i).length):=by lia
   rw[e,zaP,zhl];exact Jv t f _ _ dm _ j h
theorem zeS (t:Wj)(VB:Nat->Int)(h:Int):∀(n F:Nat) (p:RL),(∀k,k<n->∃i,t.slot (steps t k p).j=.live i/\(VB i==h)=false)->n<=F->T6 t VB h F p=T6 t VB h (F-n) (steps t n p)
 | 0,F,p,_,_=>rfl
 | n+1,F,p,hk,hF=>by
  obtain⟨F',rfl⟩:∃F',F=F'+1:=⟨F-1,by lia⟩;obtain⟨i,h1,h2⟩:=hk 0 (by lia);have h1':t.slot p.j=.live i:=h1;rw[T6,h1'];show (if (VB i==h)=true then _ else _)=_;rw[bq (by rw[h2];decide),zeS t VB h n F' (t.advance p) (fun k hk'=>hk (k+1) (by lia)) (by lia),Nat.add_sub_add_right];rfl
def Up (xs:Array Nat):Prop:=∀i j,i<j->j<xs.size->xs.getD i 0<xs.getD j 0
theorem zkY {xs:Array Nat}(U:Up xs)(j:Nat):∀(f lo hi:Nat),hi-lo<=f->lo<=hi->hi<=xs.size->(∀i,i<lo->xs.getD i 0<j)->(∀i,hi<=i->i<xs.size->j<=xs.getD i 0) ->
  Vy xs j f lo hi<=xs.size/\(∀i,i<Vy xs j f lo hi->xs.getD i 0<j)/\(∀i,Vy xs j f lo hi<=i->i<xs.size->j<=xs.getD i 0):=by
 intro f;induction f with
 | zero =>
  intro lo hi hf hl hs h1 h2;have:lo=hi:=by lia
  subst this;exact⟨hs,h1,h2⟩
 | succ f ih =>
  intro lo hi hf hl hs h1 h2;by_cases hlt:lo<hi
  ·have hm:(lo+hi)/2<hi:=by lia
   have hm2:lo<=(lo+hi)/2:=by lia
   have hms:(lo+hi)/2<xs.size:=by lia
   have e:xs.getD ((lo+hi)/2) j=xs.getD ((lo+hi)/2) 0:=by
    simp[Tg,hms]
   have e2:Vy xs j (f+1) lo hi=if xs.getD ((lo+hi)/2) 0<j then Vy xs j f ((lo+hi)/2+1) hi else Vy xs j f lo ((lo+hi)/2):=by
    rw[Vy,bw hlt];show (if xs.getD ((lo+hi)/2) j<j then _ else _)=_;rw[e]
   by_cases hx:xs.getD ((lo+hi)/2) 0<j
   ·rw[e2,bw hx];refine ih ((lo+hi)/2+1) hi (by lia) (by lia) hs (fun i hi'=>?_) h2;by_cases he:i=(lo+hi)/2
    ·rw[he];exact hx
    ·exact RS (U i ((lo+hi)/2) (by lia) hms) hx
   ·rw[e2,bq hx];refine ih lo ((lo+hi)/2) (by lia) (by lia) (by lia) h1 (fun i hi' hi2=>?_);by_cases he:i=(lo+hi)/2
    ·rw[he];lia
    ·have:=U ((lo+hi)/2) i (by lia) hi2;lia
  ·rw[Vy,bq hlt];have:lo=hi:=by lia
   subst this;exact⟨hs,h1,h2⟩
theorem Zh {xs:Array Nat}(U:Up xs)(j:Nat):Xr xs j<=xs.size/\(∀i,i<Xr xs j->xs.getD i 0<j)/\(∀i,Xr xs j<=i->i<xs.size->j<=xs.getD i 0) :=
 zkY U j xs.size 0 xs.size (by lia) (W4 _) (XW _) (fun _ h=>absurd h (Tp _)) (fun i h1 h2=>absurd h2 (by lia))
theorem Jw {xs:Array Nat}{i:Nat}(h:i<xs.size):xs[i]?=some (xs.getD i 0):=by
 simp[Tg,h]
theorem Zi {t:Wj}(U:Up t.place){i:Nat}(hi:i<t.place.size):t.slot (t.place.getD i 0)=.live i:=by
 have b:=Zh U (t.place.getD i 0);have e:Xr t.place (t.place.getD i 0)=i:=by
  rcases Rt (Xr t.place (t.place.getD i 0)) i with h | h | h
  ·have h1:=b.2.2 _ (XW _) (by lia);have h2:=U _ i h hi;lia
  ·exact h
  ·have:=b.2.1 i h;lia
 unfold SetTable.slot;simp only[e,Jw hi];rw[bw (by simp)]
theorem slot_of {t:Wj}(U:Up t.place)(hd:t.dummies=#[])(j:Nat):(∃i,i<t.place.size/\t.place.getD i 0=j/\t.slot j=.live i)\/(t.slot j=.empty/\∀i,i<t.place.size->t.place.getD i 0≠j):=by
 by_cases h:∃i,i<t.place.size/\t.place.getD i 0=j
 ·obtain⟨i,hi,rfl⟩:=h;exact .inl ⟨i,hi,rfl,Zi U hi⟩
 ·have hn:∀i,i<t.place.size->t.place.getD i 0≠j:=fun i hi e=>h ⟨i,hi,e⟩;refine .inr ⟨?_,hn⟩;unfold SetTable.slot;have h1:¬ ((t.place[Xr t.place j]?==some j)=true):=fun z=>by
   have z':t.place[Xr t.place j]?=some j:=by simpa using z
   have hl:Xr t.place j<t.place.size:=by
    rcases SV (Xr t.place j) t.place.size with q | q
    ·exact q
    ·rw[WA q] at z';cases z'
   rw[Jw hl] at z';exact hn _ hl (Option.some.inj z')
  simp only[];rw[bq h1,hd];rfl
def Reach (t:Wj)(h:Int)(j:Nat):Prop:=∃n:Nat,(walk t.mask (WZ t.mask) (XG h%(t.mask+1)) (XG h))[n]?=some j/\∀k:Nat,k<n->∀j',(walk t.mask (WZ t.mask) (XG h%(t.mask+1)) (XG h))[k]?=some j'->∃i,i<t.place.size/\t.place.getD i 0=j'
theorem zaj (t:Wj)(h:Int):t.probeStart h=YX t.mask (XG h%(t.mask+1)) (XG h) none:=rfl
theorem zfS (t:Wj):∀n p,(steps t n p).dummy=p.dummy
 | 0,_=>rfl
 | n+1,p=>by
  rw[steps,zfS t n];unfold Qr;split<;>rfl
theorem zfT {t:Wj}(U:Up t.place)(VB:Nat->Int){h:Int}{i:Nat}(hi:i<t.place.size)(eh:VB i=h)(one:∀i',i'<t.place.size->VB i'=h->i'=i)(R:Reach t h (t.place.getD i 0)):∃nx,t.probe VB h (t.probeStart h)=some (.candidate (t.place.getD i 0) i nx):=by
 obtain⟨n,hn,hk⟩:=R;have hlen:=(X2.mp hn).1;have wl:=zcc t.mask (WZ t.mask) (XG h%(t.mask+1)) (XG h);have key:∀m:Nat,m<=n->(∀k,k<m->∃i',t.slot (steps t k (t.probeStart h)).j=.live i'/\(VB i'==h)=false)\/∃m',m'<m/\(∀k,k<m'->∃i',t.slot (steps t k (t.probeStart h)).j=.live i'/\(VB i'==h)=false)/\t.slot (steps t m' (t.probeStart h)).j=.live i/\(steps t m' (t.probeStart h)).j=t.place.getD i 0:=fun m=>by
  induction m with
  | zero=>exact fun _=>.inl fun k hk=>absurd hk (Tp _)
  | succ m ih =>
   intro hm;rcases ih (by lia) with h1 | ⟨m',a,b⟩
   ·have hw:∃j',(walk t.mask (WZ t.mask) (XG h%(t.mask+1)) (XG h))[m]?=some j':=⟨_,XX (by lia)⟩;obtain⟨j',hj'⟩:=hw;obtain⟨i',hi',ei'⟩:=hk m (by lia) j' hj';have ej:(steps t m (t.probeStart h)).j=j':=by
     rw[zaj];exact Jv t _ _ _ none m j' hj'
    have sl:t.slot (steps t m (t.probeStart h)).j=.live i':=by
     rw[ej,<- ei'];exact Zi U hi'
    by_cases he:VB i'=h
    ·have:=one i' hi' he;subst this;exact .inr ⟨m,by lia,h1,sl,by rw[ej,ei']⟩
    ·refine .inl fun k hk'=>?_;by_cases hkm:k=m
     ·subst hkm;exact⟨i',sl,by simpa using he⟩
     ·exact h1 k (by lia)
   ·exact .inr ⟨m',by lia,b⟩
 have fin:∀m:Nat,m<10*WZ t.mask->(∀k,k<m->∃i',t.slot (steps t k (t.probeStart h)).j=.live i'/\(VB i'==h)=false)->t.slot (steps t m (t.probeStart h)).j=.live i->(steps t m (t.probeStart h)).j=t.place.getD i 0->∃nx,t.probe VB h (t.probeStart h)=some (.candidate (t.place.getD i 0) i nx):=fun m hm hp sl ej=>by
  unfold SetTable.probe;rw[zeS t VB h m _ _ hp (by lia)];obtain⟨F',hF⟩:∃F',10*WZ t.mask-m=F'+1:=⟨10*WZ t.mask-m-1,by lia⟩;rw[hF,T6,sl];simp only[];rw[bw (by simpa using eh),ej];exact⟨_,rfl⟩
 rcases key n (XW _) with h1 | ⟨m',a,b,c,d⟩
 ·have ej:(steps t n (t.probeStart h)).j=t.place.getD i 0:=by
   rw[zaj];exact Jv t _ _ _ none n _ hn
  exact fin n (by lia) h1 (by rw[ej];exact Zi U hi) ej
 ·exact fin m' (by lia) b c d
theorem zeT {t:Wj}(U:Up t.place)(hd:t.dummies=#[])(VB:Nat->Int){h:Int}(no:∀i,i<t.place.size->VB i≠h){e:Nat}(he:∀i,i<t.place.size->t.place.getD i 0≠e)(hw:e∈walk t.mask (WZ t.mask) (XG h%(t.mask+1)) (XG h)) :
  ∃j,t.probe VB h (t.probeStart h)=some (.empty j none)/\t.slot j=.empty/\Reach t h j/\j∈walk t.mask (WZ t.mask) (XG h%(t.mask+1)) (XG h):=by
 obtain⟨N,hN⟩:=Pn.mp hw;have hlen:=(X2.mp hN).1;have wl:=zcc t.mask (WZ t.mask) (XG h%(t.mask+1)) (XG h);have key:∀m:Nat,m<=N+1->(∀k:Nat,k<m->∀j',(walk t.mask (WZ t.mask) (XG h%(t.mask+1)) (XG h))[k]?=some j'->∃i,i<t.place.size/\t.place.getD i 0=j')\/∃m' j:Nat,m'<m/\(walk t.mask (WZ t.mask) (XG h%(t.mask+1)) (XG h))[m']?=some j/\t.slot j=.empty/\(∀k:Nat,k<m'->∀j',(walk t.mask (WZ t.mask) (XG h%(t.mask+1)) (XG h))[k]?=some j'->∃i,i<t.place.size/\t.place.getD i 0=j'):=fun m=>by
  induction m with
  | zero=>exact fun _=>.inl fun k hk=>absurd hk (Tp _)
  | succ m ih =>
   intro hm;rcases ih (by lia) with h1 | ⟨m',j,a,b⟩
   ·obtain⟨j',hj'⟩:∃j',(walk t.mask (WZ t.mask) (XG h%(t.mask+1)) (XG h))[m]?=some j':=⟨_,XX (by lia)⟩;rcases slot_of U hd j' with ⟨i,hi,ei,_⟩ | ⟨se,_⟩
    ·refine .inl fun k hk' j2 hj2=>?_;by_cases hkm:k=m
     ·subst hkm;rw[hj'] at hj2;exact⟨i,hi,by rw[ei];exact Option.some.inj hj2⟩
     ·exact h1 k (by lia) j2 hj2
    ·exact .inr ⟨m,j',by lia,hj',se,h1⟩
   ·exact .inr ⟨m',j,by lia,b⟩
 rcases key (N+1) (XW _) with h1 | ⟨m',j,a,b,c,d⟩
 ·obtain⟨i,hi,ei⟩:=h1 N (by lia) e hN;exact absurd ei (he i hi)
 ·refine⟨j,?_,c,⟨m',b,d⟩,XY b⟩;have ej:(steps t m' (t.probeStart h)).j=j:=by
   rw[zaj];exact Jv t _ _ _ none m' j b
  have hp:∀k,k<m'->∃i',t.slot (steps t k (t.probeStart h)).j=.live i'/\(VB i'==h)=false:=fun k hk=>by
   obtain⟨j',hj'⟩:∃j',(walk t.mask (WZ t.mask) (XG h%(t.mask+1)) (XG h))[k]?=some j':=⟨_,XX (by lia)⟩;obtain⟨i,hi,ei⟩:=d k hk j' hj';refine⟨i,?_,by simpa using no i hi⟩;have:(steps t k (t.probeStart h)).j=j':=by
    rw[zaj];exact Jv t _ _ _ none k j' hj'
   rw[this,<- ei];exact Zi U hi
  unfold SetTable.probe;rw[zeS t VB h m' _ _ hp (by lia)];obtain⟨F',hF⟩:∃F',10*WZ t.mask-m'=F'+1:=⟨10*WZ t.mask-m'-1,by lia⟩;rw[hF,T6,ej,c];simp only[zfS];rfl
def orb (m:Nat):Nat->Nat->Nat
 | 0,i=>i
 | n+1,i=>orb m n ((i*5+1)%m)
def zjG (m:Nat):Nat->Nat->List Nat
 | 0,_=>[]
 | n+1,i=>i::zjG m n ((i*5+1)%m)
theorem zcd (m:Nat):∀(n i e:Nat),e∈zjG m n i->∃k,k<n/\orb m k i=e
 | 0,_,_,h=>nomatch h
 | n+1,i,e,h=>by
  rcases Xz.mp h with rfl | h
  ·exact⟨0,SU _,rfl⟩
  ·obtain⟨k,hk,q⟩:=zcd m n _ e h;exact⟨k+1,by lia,q⟩
theorem zbM (m:Nat):∀a b i,orb m (a+b) i=orb m b (orb m a i)
 | 0,b,i=>by rw[VP];rfl
 | a+1,b,i=>by
  rw[show a+1+b=(a+b)+1 from by lia];exact zbM m a b _
theorem full {m:Nat}(h1:∀e,e<m->e∈zjG m m 0)(h2:orb m m 0=0){i e:Nat}(hi:i<m)(he:e<m):∃k,k<m+1/\orb m k i=e:=by
 obtain⟨a,ha,ea⟩:=zcd m m 0 i (h1 i hi);obtain⟨b,hb,eb⟩:=zcd m m 0 e (h1 e he);rcases SV b a with q | q
 ·refine⟨m-a+b,by lia,?_⟩;rw[<- ea,<- zbM,show a+(m-a+b)=m+b from by lia,zbM,h2,eb]
 ·refine⟨b-a,by lia,?_⟩;rw[<- ea,<- zbM,show a+(b-a)=b from by lia,eb]
theorem zoe:(∀e,e<8->e∈zjG 8 8 0)/\orb 8 8 0=0:=by decide +kernel
theorem zkZ:(∀e,e<32->e∈zjG 32 32 0)/\orb 32 32 0=0:=by decide +kernel
theorem ziD:(∀e,e<128->e∈zjG 128 128 0)/\orb 128 128 0=0:=by decide +kernel
def Zj (mask:Nat):Nat->Nat->Nat->Nat×Nat
 | 0,i,p=>(i,p)
 | n+1,i,p=>Zj mask n (Vk mask i p).1 (Vk mask i p).2
theorem zdP (mask:Nat):∀a b i p,Zj mask (a+b) i p=Zj mask b (Zj mask a i p).1 (Zj mask a i p).2
 | 0,b,i,p=>by rw[VP];rfl
 | a+1,b,i,p=>by
  rw[show a+1+b=(a+b)+1 from by lia];exact zdP mask a b _ _
theorem ziE (mask:Nat):∀n i p,(Zj mask n i p).2=p/32^n
 | 0,i,p=>by rw[Nat.pow_zero,Nat.div_one];rfl
 | n+1,i,p=>by
  rw[Zj,ziE mask n];show p/32/32^n=_;rw[Nat.div_div_eq_div_mul,Um,SX]
theorem zfU (mask:Nat):∀n i p,i<mask+1->(Zj mask n i p).1<mask+1
 | 0,i,p,h=>h
 | n+1,i,p,h=>zfU mask n _ _ (Sj _ (SU _))
theorem zdQ (mask:Nat):∀n i,(Zj mask n i 0).1=orb (mask+1) n i
 | 0,_=>rfl
 | n+1,i=>by
  have e1:(Vk mask i 0).1=(i*5+1)%(mask+1):=rfl;have e2:(Vk mask i 0).2=0:=rfl;rw[Zj,e1,e2];exact zdQ mask n _
theorem head_mem (mask:Nat):∀(f n i p:Nat),n<f->(Zj mask n i p).1∈walk mask f i p
 | 0,_,_,_,h=>absurd h (Tp _)
 | f+1,0,i,p,_=>by
  rw[walk];refine W5 _ ?_;unfold run;refine XU.mpr ⟨0,Xl.mpr ?_,by rfl⟩;have:=zaR mask i;lia
 | f+1,n+1,i,p,h=>by
  rw[walk];exact XE _ (head_mem mask f n _ _ (by lia))
theorem zfV {mask:Nat}(hm:mask=7\/mask=31\/mask=127)(h:Int){e:Nat}(he:e<mask+1):e∈walk mask (WZ mask) (XG h%(mask+1)) (XG h):=by
 have hb:XG h<2^64:=by
  unfold XG;have h1:=To h (show (2^64:Int)≠0 by decide);have h2:=Ul h (show (0:Int)<2^64 by decide);lia
 have hp:(Zj mask 13 (XG h%(mask+1)) (XG h)).2=0:=by
  rw[ziE];exact Nat.div_eq_of_lt (RS hb (by decide))
 have hi:=zfU mask 13 (XG h%(mask+1)) (XG h) (Sj _ (SU _));obtain⟨k,hk,ek⟩:∃k,k<mask+1+1/\orb (mask+1) k (Zj mask 13 (XG h%(mask+1)) (XG h)).1=e:=by
  rcases hm with rfl | rfl | rfl
  ·exact full zoe.1 zoe.2 hi he
  ·exact full zkZ.1 zkZ.2 hi he
  ·exact full ziD.1 ziD.2 hi he
 have hh:=head_mem mask (WZ mask) (13+k) (XG h%(mask+1)) (XG h) (by unfold WZ;lia);rw[zdP,hp,zdQ,ek] at hh;exact hh
theorem Yx {α:Type}(xs:Array α){p:Nat}(x:α):(W8 xs p x).toList=xs.toList.take p++x::xs.toList.drop p:=by
 unfold W8;simp;rw[WB (by rw[Vp,XZ];lia)]
theorem zk0 {α:Type}(xs:Array α){p:Nat}(hp:p<=xs.size)(x:α)(i:Nat):(W8 xs p x)[i]?=if i<p then xs[i]? else if i=p then some x else xs[i-1]?:=by
 have hl:(xs.toList.take p).length=p:=by
  rw[Xw,XZ];lia
 rw[<- Xq,Yx];by_cases h1:i<p
 ·rw[bw h1,V3 (by lia),Rj h1,Xq]
 ·rw[bq h1,VR (by lia),hl];by_cases h2:i=p
  ·rw[bw h2,h2,SW];rfl
  ·rw[bq h2,show i-p=(i-p-1)+1 from by lia,P6,Tc,Xq];congr 1;lia
theorem jA {α:Type}(xs:Array α){p:Nat}(hp:p<=xs.size)(x:α):(W8 xs p x).size=xs.size+1:=by
 rw[<- XZ,Yx,X5,XB,Xw,Vp,XZ];lia
theorem Zk (xs:Array Nat){p:Nat}(hp:p<=xs.size)(x i:Nat)(hi:i<xs.size+1):(W8 xs p x).getD i 0=if i<p then xs.getD i 0 else if i=p then x else xs.getD (i-1) 0:=by
 have h:=zk0 xs hp x i;rw[Jw (by rw[jA xs hp x];exact hi)] at h;by_cases h1:i<p
 ·rw[bw h1] at h ⊢;rw[Jw (by lia)] at h;exact Option.some.inj h
 ·rw[bq h1] at h ⊢;by_cases h2:i=p
  ·rw[bw h2] at h ⊢;exact Option.some.inj h
  ·rw[bq h2] at h ⊢;rw[Jw (by lia)] at h;exact Option.some.inj h
theorem zk1 {t:Wj}(U:Up t.place)(hd:t.dummies=#[]){j:Nat}(he:∀i,i<t.place.size->t.place.getD i 0≠j):(t.put j).2=Xr t.place j/\(t.put j).1={ t with place:=W8 t.place (Xr t.place j) j }/\Up (W8 t.place (Xr t.place j) j):=by
 have b:=Zh U j;refine⟨rfl,?_,fun a c hac hc=>?_⟩
 ·unfold SetTable.put;simp only[hd];rfl
 ·rw[jA _ b.1] at hc;rw[Zk _ b.1 _ _ (by lia),Zk _ b.1 _ _ hc];have lo:∀i,i<Xr t.place j->t.place.getD i 0<j:=b.2.1;have hi:∀i,Xr t.place j<=i->i<t.place.size->j<t.place.getD i 0:=fun i h1 h2=>by
   have:=b.2.2 i h1 h2;have:=he i h2;lia
  by_cases a1:a<Xr t.place j
  ·rw[bw a1];by_cases c1:c<Xr t.place j
   ·rw[bw c1];exact U a c hac (by lia)
   ·rw[bq c1];by_cases c2:c=Xr t.place j
    ·rw[bw c2];exact lo a a1
    ·rw[bq c2];have h1:=lo a a1;have h2:=hi (c-1) (by lia) (by lia);lia
  ·have c1:¬ c<Xr t.place j:=by lia
   have c2:¬ c=Xr t.place j:=by lia
   rw[bq a1,bq c1,bq c2];by_cases a2:a=Xr t.place j
   ·rw[bw a2];exact hi (c-1) (by lia) (by lia)
   ·rw[bq a2];exact U (a-1) (c-1) (by lia) (by lia)
theorem Reach.more {t t':Wj}(hm:t'.mask=t.mask)(hp:∀i,i<t.place.size->∃i',i'<t'.place.size/\t'.place.getD i' 0=t.place.getD i 0){h:Int}{j:Nat}(R:Reach t h j):Reach t' h j:=by
 obtain⟨n,h1,h2⟩:=R;unfold Reach;rw[hm];refine⟨n,h1,fun k hk j' hj'=>?_⟩;obtain⟨i,hi,ei⟩:=h2 k hk j' hj';obtain⟨i',hi',ei'⟩:=hp i hi;exact⟨i',hi',ei'.trans ei⟩
theorem zk2 {t:Wj}(U:Up t.place)(j:Nat):∀i,i<t.place.size->∃i',i'<(W8 t.place (Xr t.place j) j).size/\(W8 t.place (Xr t.place j) j).getD i' 0=t.place.getD i 0:=fun i hi=>by
 have b:=Zh U j;by_cases h:i<Xr t.place j
 ·refine⟨i,by rw[jA _ b.1];lia,?_⟩;rw[Zk _ b.1 _ _ (by lia),bw h]
 ·refine⟨i+1,by rw[jA _ b.1];lia,?_⟩;rw[Zk _ b.1 _ _ (by lia),bq (by lia),bq (by lia),Nat.add_sub_cancel]
theorem ziF (mask:Nat)(owner:Array (Option Nat)):∀(f i p:Nat),SetTable.layClean.free mask owner f i p=(walk mask f i p).find? fun j=>(owner.getD j (some 0)).isNone
 | 0,_,_=>rfl
 | f+1,i,p=>by
  rw[SetTable.layClean.free,walk,List.find?_append];unfold run;rw[List.find?_map];have e:((fun j=>(owner.getD j (some 0)).isNone)∘fun x=>i+x)=fun k=>(owner.getD (i+k) (some 0)).isNone:=rfl;rw[e];cases h:(XF (VE mask i+1-i)).find? fun k=>(owner.getD (i+k) (some 0)).isNone with
  | some k=>rfl
  | none =>
   simp only[Option.map_none,Option.none_or];exact ziF mask owner f _ _
structure Own (mask:Nat)(hs:List Int)(owner:Array (Option Nat))(k:Nat):Prop where
 sz:owner.size=mask+1
 few:(owner.toList.countP fun o=>o.isNone)+k=mask+1
 at_:∀i,i<k->∃j:Nat,owner[j]?=some (some i)/\∃n:Nat,(walk mask (WZ mask) (XG (hs.getD i 0)%(mask+1)) (XG (hs.getD i 0)))[n]?=some j/\∀m:Nat,m<n->∀j':Nat,(walk mask (WZ mask) (XG (hs.getD i 0)%(mask+1)) (XG (hs.getD i 0)))[m]?=some j'->∃o,owner[j']?=some (some o)
 lt:∀j i:Nat,owner[j]?=some (some i)->i<k
 inj:∀j j' i:Nat,owner[j]?=some (some i)->owner[j']?=some (some i)->j=j'
theorem Own.nil (mask:Nat)(hs:List Int):Own mask hs (Array.replicate (mask+1) none) 0:=by
 refine⟨by simp,by rw[Array.toList_replicate,Pm];rfl,fun i h=>absurd h (Tp _),fun j i h=>?_,fun j j' i h=>?_⟩
 ·rw[Rh] at h;split at h<;>cases h
 ·rw[Rh] at h;split at h<;>cases h
theorem count_set {l:List (Option Nat)}:∀{j:Nat} (k:Nat),l[j]?=some none->(l.set j (some k)).countP (fun o=>o.isNone)+1=l.countP fun o=>o.isNone:=by
 induction l with
 | nil=>exact fun _ h=>by simp at h
 | cons o r ih =>
  intro j k h;cases j with
  | zero =>
   have:o=none:=by simpa using h
   subst this;simp[WQ]
  | succ j =>
   have:=ih k (by simpa using h);rw[List.set_cons_succ,WQ,WQ];lia
theorem zjH {l:List (Option Nat)}(h:0<l.countP fun o=>o.isNone):∃j:Nat,l[j]?=some none:=by
 obtain⟨o,ho,hn⟩:=OP.mp h;obtain⟨j,hj⟩:=Pn.mp ho;refine⟨j,?_⟩;rw[hj];cases o with
 | none=>rfl
 | some _=>cases hn
theorem getD_none {owner:Array (Option Nat)}{j:Nat}:(owner.getD j (some 0)).isNone=true↔owner[j]?=some none:=by
 by_cases h:j<owner.size
 ·have e:owner[j]?=some (owner.getD j (some 0)):=by simp[Tg,h]
  rw[e];cases owner.getD j (some 0)<;>simp
 ·have e:owner.getD j (some 0)=some 0:=by simp[Tg,h]
  rw[e,WA (by lia)];simp
theorem zeU (mask:Nat):∀(f i p:Nat),i<mask+1->∀j∈walk mask f i p,j<mask+1
 | 0,_,_,_,_,h=>nomatch h
 | f+1,i,p,hi,j,h=>by
  rw[walk] at h;rcases XO.mp h with h | h
  ·unfold run at h;obtain⟨k,hk,rfl⟩:=XU.mp h;have hk':=Xl.mp hk;have:VE mask i<=mask:=by
    unfold VE;split<;>lia
   lia
  ·exact zeU mask f _ _ (Sj _ (SU _)) j h
theorem Own.step {mask:Nat}(hm:mask=7\/mask=31\/mask=127){hs:List Int}{owner:Array (Option Nat)}{k:Nat}(O:Own mask hs owner k)(hk:k<mask+1):∃j,SetTable.layClean.free mask owner (WZ mask) (XG (hs.getD k 0)%(mask+1)) (XG (hs.getD k 0))=some j/\Own mask hs (owner.setIfInBounds j (some k)) (k+1):=by
 obtain⟨e,he⟩:=zjH (l:=owner.toList) (by have:=O.few;lia);rw[Xq] at he;have hel:e<owner.size:=by
  rcases SV e owner.size with q | q
  ·exact q
  ·rw[WA q] at he;cases he
 have hw:=zfV hm (hs.getD k 0) (e:=e) (by have:=O.sz;lia);rw[ziF];cases hf:(walk mask (WZ mask) (XG (hs.getD k 0)%(mask+1)) (XG (hs.getD k 0))).find? fun j=>(owner.getD j (some 0)).isNone with
 | none =>
  have:=List.find?_eq_none.mp hf e hw;exact absurd (getD_none.mpr he) this
 | some j =>
  refine⟨j,rfl,?_⟩;have hj:owner[j]?=some none:=getD_none.mp (List.find?_some (p:=fun j=>(owner.getD j (some 0)).isNone) hf);have hjl:j<owner.size:=by
   rcases SV j owner.size with q | q
   ·exact q
   ·rw[WA q] at hj;cases hj
  have get:∀i:Nat,(owner.setIfInBounds j (some k))[i]?=if j=i then some (some k) else owner[i]?:=fun i=>by
   rw[Ue];by_cases h:j=i
   ·rw[bw h,bw h];simp[hjl]
   ·rw[bq h,bq h]
  have keep:∀(i o:Nat),owner[i]?=some (some o)->(owner.setIfInBounds j (some k))[i]?=some (some o):=fun i o h=>by
   rw[get,bq (fun z=>by rw[<- z,hj] at h;cases h)];exact h
  refine⟨by rw[Tv];exact O.sz,?_,fun i hi=>?_,fun j' i h=>?_,fun j1 j2 i h1 h2=>?_⟩
  ·rw[RC];have:=count_set (l:=owner.toList) (j:=j) k (by rw[Xq];exact hj);have:=O.few;lia
  ·by_cases hik:i=k
   ·subst hik;refine⟨j,by rw[get,bw rfl],?_⟩;obtain⟨_,as,bs,hab,hn⟩:=List.find?_eq_some_iff_append.mp hf;refine⟨as.length,by rw[hab];simp,fun m hm' j' hj'=>?_⟩;rw[hab,V3 hm'] at hj';have hmem:=XY hj';have hnn:=hn j' hmem;have hjw:j'∈walk mask (WZ mask) (XG (hs.getD i 0)%(mask+1)) (XG (hs.getD i 0)):=by
     rw[hab];exact W5 _ hmem
    cases ho:owner[j']? with
    | none =>
     have:=zeU mask (WZ mask) _ _ (Sj _ (SU _)) j' hjw;rw[Vx.mpr ⟨by rw[O.sz];exact this,rfl⟩] at ho;cases ho
    | some o =>
     cases o with
     | none =>
      rw[getD_none.mpr ho] at hnn;cases hnn
     | some o=>exact⟨o,keep j' o ho⟩
   ·obtain⟨j0,a,n,b,c⟩:=O.at_ i (by lia);refine⟨j0,keep _ _ a,n,b,fun m hm' j' hj'=>?_⟩;obtain⟨o,ho⟩:=c m hm' j' hj';exact⟨o,keep _ _ ho⟩
  ·rw[get] at h;split at h
   ·have:k=i:=by simpa using h
    lia
   ·have:=O.lt j' i h;lia
  ·rw[get] at h1 h2;split at h1<;>split at h2
   ·lia
   ·have:k=i:=by simpa using h1
    have:=O.lt j2 i h2;lia
   ·have:k=i:=by simpa using h2
    have:=O.lt j1 i h1;lia
   ·exact O.inj j1 j2 i h1 h2
theorem zfW {mask:Nat}(hm:mask=7\/mask=31\/mask=127)(hs:List Int)(hl:hs.length<=mask+1):∀(l done:List Int) (owner:Array (Option Nat)),hs=done++l->Own mask hs owner done.length ->
  ∃owner',l.foldl (fun (acc:Option (Array (Option Nat)×Nat)) h=>do
   let (owner,k) <- acc
   let j <- SetTable.layClean.free mask owner (WZ mask) (XG h%(mask+1)) (XG h)
   pure (owner.setIfInBounds j (some k),k+1)) (some (owner,done.length))=some (owner',hs.length)/\Own mask hs owner' hs.length
 | [],done,owner,e,O=>by
  rw[Xh] at e;subst e;exact⟨owner,rfl,O⟩
 | h::r,done,owner,e,O=>by
  have hd:hs.getD done.length 0=h:=by
   rw[e];simp[List.getD]
  have hlen:done.length<mask+1:=by
   have:hs.length=done.length+(r.length+1):=by rw[e,X5,XB]
   lia
  obtain⟨j,hj,O'⟩:=O.step hm hlen;rw[hd] at hj;obtain⟨owner',h1,h2⟩:=zfW hm hs hl r (done++[h]) (owner.setIfInBounds j (some done.length)) (by rw[e,WV];rfl) (by rw[X5];exact O');refine⟨owner',?_,h2⟩;rw[X5] at h1;rw[VF];have e1:(do
   let (owner,k) <- (some (owner,done.length):Option (Array (Option Nat)×Nat))
   let j <- SetTable.layClean.free mask owner (WZ mask) (XG h%(mask+1)) (XG h)
   pure (owner.setIfInBounds j (some k),k+1))=some (owner.setIfInBounds j (some done.length),done.length+1):=by
   show (SetTable.layClean.free mask owner (WZ mask) (XG h%(mask+1)) (XG h)).bind _=_;rw[hj];rfl
  rw[e1];exact h1
theorem zpa {mask:Nat}(hm:mask=7\/mask=31\/mask=127)(hashes:Array Int)(hl:hashes.size<=mask+1):∃owner,SetTable.layClean mask hashes=some owner/\Own mask hashes.toList owner hashes.size:=by
 obtain⟨owner,h1,h2⟩:=zfW hm hashes.toList (by rw[XZ];exact hl) hashes.toList [] _ rfl (Own.nil mask _);rw[XZ] at h1 h2;refine⟨owner,?_,h2⟩;unfold SetTable.layClean;rw[<- Array.foldl_toList];exact congrArg (Option.map (·.1)) h1
def qP (mask:Nat)(owner:Array (Option Nat)):List (Nat×Nat):=(XF (mask+1)).filterMap fun j=>(owner.getD j none).map (j,·)
theorem Jx {mask:Nat}{owner:Array (Option Nat)}(sz:owner.size=mask+1){j i:Nat}:(j,i)∈qP mask owner↔owner[j]?=some (some i):=by
 unfold qP;rw[Te];constructor
 ·rintro⟨a,ha,h⟩;have hl:a<owner.size:=by rw[sz];exact Xl.mp ha
  have e:owner[a]?=some (owner.getD a none):=by simp[Tg,hl]
  cases ho:owner.getD a none with
  | none =>
   rw[ho] at h;cases h
  | some b =>
   rw[ho] at h;have hb:(a,b)=(j,i):=Option.some.inj h;cases hb;rw[e,ho]
 ·intro h;have hl:j<owner.size:=by
   rcases SV j owner.size with q | q
   ·exact q
   ·rw[WA q] at h;cases h
  have e:owner[j]?=some (owner.getD j none):=by simp[Tg,hl]
  refine⟨j,Xl.mpr (by rw[<- sz];exact hl),?_⟩;rw[e] at h;rw[Option.some.inj h];rfl
theorem ziG (mask:Nat)(owner:Array (Option Nat)):(qP mask owner).Pairwise fun a b=>a.1<b.1:=by
 unfold qP;rw[List.pairwise_filterMap];refine List.pairwise_lt_range.imp fun {a b} hab x hx y hy=>?_;cases h1:owner.getD a none with
 | none=>rw[h1] at hx;cases hx
 | some p =>
  cases h2:owner.getD b none with
  | none=>rw[h2] at hy;cases hy
  | some q =>
   rw[h1] at hx;rw[h2] at hy;have e1:(a,p)=x:=Option.some.inj hx;have e2:(b,q)=y:=Option.some.inj hy;rw[<- e1,<- e2];exact hab
theorem zjI {mask:Nat}{hs:List Int}{owner:Array (Option Nat)}{k:Nat}(O:Own mask hs owner k):((qP mask owner).map (·.2)).Perm (XF k):=by
 have nd:((qP mask owner).map (·.2)).Nodup:=by
  refine We.mpr ((ziG mask owner).imp_of_mem fun {a b} ha hb hab e=>?_);obtain⟨a1,a2⟩:=a;obtain⟨b1,b2⟩:=b;have e':a2=b2:=e;subst e';have:=O.inj a1 b1 a2 ((Jx O.sz).mp ha) ((Jx O.sz).mp hb);have hab':a1<b1:=hab;lia
 refine(Wd nd List.nodup_range).mpr fun i=>?_;rw[Xl,XU];constructor
 ·rintro⟨⟨j,i'⟩,hm,rfl⟩;exact O.lt j _ ((Jx O.sz).mp hm)
 ·intro hi;obtain⟨j,hj,_⟩:=O.at_ i hi;exact⟨(j,i),(Jx O.sz).mpr hj,rfl⟩
theorem zna {mask:Nat}(hm:mask=7\/mask=31\/mask=127)(finger moves:Nat)(led plain:Bool)(hashes:Array Int)(hl:hashes.size<=mask+1):∃place order,SetTable.laid mask finger moves led plain hashes=some ({ mask:=mask,place:=place,dummies:=#[],finger:=finger,led:=led,moves:=moves,plain:=plain },order) /\
  Up place/\place.size=hashes.size/\order.size=hashes.size/\order.toList.Perm (XF hashes.size)/\(∀i,i<place.size->place.getD i 0<mask+1) /\
  ∀i,i<place.size->Reach { mask:=mask,place:=place,dummies:=#[],finger:=finger,led:=led,moves:=moves,plain:=plain } (hashes.toList.getD (order.getD i 0) 0) (place.getD i 0):=by
 obtain⟨owner,h1,O⟩:=zpa hm hashes hl;have perm:=zjI O;have up:=ziG mask owner;have ll:(qP mask owner).length=hashes.size:=by
  have:=perm.length_eq;rw[ZB,Xj] at this;exact this
 have pg:∀i (h:i<(qP mask owner).length),((qP mask owner).map (·.1)).toArray.getD i 0=((qP mask owner)[i]).1:=fun i h=>by
  simp[Tg,h]
 have og:∀i (h:i<(qP mask owner).length),((qP mask owner).map (·.2)).toArray.getD i 0=((qP mask owner)[i]).2:=fun i h=>by
  simp[Tg,h]
 refine⟨((qP mask owner).map (·.1)).toArray,((qP mask owner).map (·.2)).toArray,?_,fun i j hij hj=>?_,by simp[ll],by simp[ll],perm,fun i hi=>?_,fun i hi=>?_⟩
 ·unfold SetTable.laid;rw[h1];rfl
 ·have hj':j<(qP mask owner).length:=by simpa using hj
  rw[pg i (by lia),pg j hj'];exact Vr.mp up i j (by lia) hj' hij
 ·have hi':i<(qP mask owner).length:=by simpa using hi
  rw[pg i hi'];have hmem:=TN hi';have:=(Jx O.sz (j:=(qP mask owner)[i].1) (i:=(qP mask owner)[i].2)).mp hmem;rw[<- O.sz];rcases SV (qP mask owner)[i].1 owner.size with q | q
  ·exact q
  ·rw[WA q] at this;cases this
 ·have hi':i<(qP mask owner).length:=by simpa using hi
  rw[pg i hi',og i hi'];have hmem:=TN hi';have ho:=(Jx O.sz (j:=(qP mask owner)[i].1) (i:=(qP mask owner)[i].2)).mp hmem;obtain⟨j0,a,n,b,c⟩:=O.at_ _ (O.lt _ _ ho);have ej:=O.inj _ _ _ a ho;rw[ej] at b;refine⟨n,b,fun k hk j' hj'=>?_⟩;obtain⟨o,hoo⟩:=c k hk j' hj';obtain⟨x,hx,ex⟩:=TF ((Jx O.sz).mpr hoo);refine⟨x,by simpa using hx,?_⟩;show ((qP mask owner).map (·.1)).toArray.getD x 0=j';rw[pg x hx,ex]
structure Good (t:Wj)(hs:Array Int):Prop where
 mask:t.mask=7\/t.mask=31\/t.mask=127
 sz:t.place.size=hs.size
 dum:t.dummies=#[]
 up:Up t.place
 le:∀i,i<t.place.size->t.place.getD i 0<t.mask+1
 room:t.place.size*5<t.mask*3
 reach:∀i,i<t.place.size->Reach t (hs.toList.getD i 0) (t.place.getD i 0)
theorem Good.free {t:Wj}{hs:Array Int}(G:Good t hs):∃e,e<t.mask+1/\∀i,i<t.place.size->t.place.getD i 0≠e:=by
 refine RA fun hn=>?_;have all:∀e,e<t.mask+1->∃i,i<t.place.size/\t.place.getD i 0=e:=fun e he=>RA fun h2=>hn ⟨e,he,fun i hi z=>h2 ⟨i,hi,z⟩⟩;have hr:=G.room;have id_:∀e,e<t.mask+1->∃i,i<t.place.size/\e<=i:=fun e=>by
  induction e with
  | zero=>exact fun h=>let ⟨i,hi,_⟩:=all 0 h;⟨i,hi,W4 _⟩
  | succ e ih =>
   intro h;obtain⟨i,hi,hei⟩:=all (e+1) h;obtain⟨i0,hi0,hei0⟩:=all e (by lia);have cnt:∀d,d<=e+1->∃i,i<t.place.size/\t.place.getD i 0=d/\d<=i:=fun d=>by
    induction d with
    | zero=>exact fun _=>let ⟨i,hi,he⟩:=all 0 (by lia);⟨i,hi,he,W4 _⟩
    | succ d ihd =>
     intro hd;obtain⟨a,ha,ea,la⟩:=ihd (by lia);obtain⟨b,hb,eb⟩:=all (d+1) (by lia);have:a<b:=by
      rcases Rt a b with q | q | q
      ·exact q
      ·subst q;lia
      ·have:=G.up b a q ha;lia
     exact⟨b,hb,eb,by lia⟩
   obtain⟨x,hx,_,lx⟩:=cnt (e+1) (XW _);exact⟨x,hx,lx⟩
 obtain⟨i,hi,le⟩:=id_ t.mask (by lia);lia
theorem Good.found {t:Wj}{hs:Array Int}(G:Good t hs)(VB:Nat->Int)(hh:∀i,i<hs.size->VB i=hs.toList.getD i 0)(nd:hs.toList.Nodup){i:Nat}(hi:i<hs.size):∃nx,t.probe VB (hs.toList.getD i 0) (t.probeStart (hs.toList.getD i 0))=some (.candidate (t.place.getD i 0) i nx):=by
 have gd:∀k (h:k<hs.size),hs.toList.getD k 0=hs.toList[k]'(by rw[XZ];exact h):=fun k h=>by
  rw[Xx,XX (by rw[XZ];exact h)];rfl
 refine zfT G.up VB (by rw[G.sz];exact hi) (hh i hi) (fun i' hi' e=>?_) (G.reach i (by rw[G.sz];exact hi));rw[G.sz] at hi';rw[hh i' hi',gd i' hi',gd i hi] at e;exact(List.getElem_inj nd).mp e
theorem Good.missed {t:Wj}{hs:Array Int}(G:Good t hs)(VB:Nat->Int)(hh:∀i,i<hs.size->VB i=hs.toList.getD i 0){h:Int}(no:h ∉ hs.toList):∃j,t.probe VB h (t.probeStart h)=some (.empty j none)/\j<t.mask+1/\(∀i,i<t.place.size->t.place.getD i 0≠j)/\Reach t h j:=by
 obtain⟨e,he,hn⟩:=G.free;have no':∀i,i<t.place.size->VB i≠h:=fun i hi z=>by
  rw[G.sz] at hi;rw[hh i hi,Xx,XX (by rw[XZ];exact hi)] at z;have z':hs.toList[i]'(by rw[XZ];exact hi)=h:=z;exact no (z' ▸ TN _)
 obtain⟨j,h1,h2,h3,h4⟩:=zeT G.up G.dum VB (h:=h) no' hn (zfV G.mask h he);refine⟨j,h1,zeU _ _ _ _ (Sj _ (SU _)) j h4,fun i hi z=>?_,h3⟩;rw[<- z,Zi G.up hi] at h2;cases h2
theorem Good.put {t:Wj}{hs:Array Int}(G:Good t hs){h:Int}{j:Nat}(hj:j<t.mask+1)(he:∀i,i<t.place.size->t.place.getD i 0≠j)(R:Reach t h j)(room:(t.place.size+1)*5<t.mask*3):Good (t.put j).1 (W8 hs (t.put j).2 h):=by
 obtain⟨e2,e1,U⟩:=zk1 G.up G.dum he;have b:=Zh G.up j;rw[e2,e1];have bs:Xr t.place j<=hs.size:=by rw[<- G.sz];exact b.1
 have hget:∀i,(W8 hs (Xr t.place j) h).toList.getD i 0=if i<Xr t.place j then hs.toList.getD i 0 else if i=Xr t.place j then h else hs.toList.getD (i-1) 0:=fun i=>by
  rw[Xx,Xq,zk0 hs bs];split
  ·rw[Xx,Xq]
  ·split
   ·rfl
   ·rw[Xx,Xq]
 have more:∀{h':Int} {j':Nat},Reach t h' j'->Reach { t with place:=W8 t.place (Xr t.place j) j } h' j':=fun R'=>Reach.more (t:=t) (t':={ t with place:=W8 t.place (Xr t.place j) j }) rfl (zk2 G.up j) R';refine⟨G.mask,?_,G.dum,U,fun i hi=>?_,?_,fun i hi=>?_⟩
 ·show (W8 t.place _ j).size=_;rw[jA _ b.1,jA _ bs,G.sz]
 ·have hi':i<t.place.size+1:=by
   have:=hi;rw[show ({ t with place:=W8 t.place (Xr t.place j) j }:Wj).place=W8 t.place (Xr t.place j) j from rfl,jA _ b.1] at this;exact this
  show (W8 t.place _ j).getD i 0<t.mask+1;rw[Zk _ b.1 _ _ hi'];split
  ·exact G.le i (by lia)
  ·split
   ·exact hj
   ·exact G.le (i-1) (by lia)
 ·show (W8 t.place _ j).size*5<t.mask*3;rw[jA _ b.1];exact room
 ·have hi':i<t.place.size+1:=by
   have:=hi;rw[show ({ t with place:=W8 t.place (Xr t.place j) j }:Wj).place=W8 t.place (Xr t.place j) j from rfl,jA _ b.1] at this;exact this
  show Reach _ _ ((W8 t.place _ j).getD i 0);rw[hget,Zk _ b.1 _ _ hi'];by_cases h1:i<Xr t.place j
  ·rw[bw h1,bw h1];exact more (G.reach i (by lia))
  ·rw[bq h1,bq h1];by_cases h2:i=Xr t.place j
   ·rw[bw h2,bw h2];exact more R
   ·rw[bq h2,bq h2];exact more (G.reach (i-1) (by lia))
theorem zhm (t:Wj)(hs:Array Int)(hn:hs.size=5\/hs.size=19):∃t' order,t.relaid hs (Uz hs.size)=some (t',order)/\order.size=hs.size/\order.toList.Perm (XF hs.size)/\t'.led=t.led/\t'.plain=t.plain/\t'.place.size=hs.size/\Good t' (order.map fun i=>hs.toList.getD i 0):=by
 have key:∀mask,(mask=7\/mask=31\/mask=127)->hs.size<=mask+1->hs.size*5<mask*3->Tb (Uz hs.size)-1=mask->∃t' order,t.relaid hs (Uz hs.size)=some (t',order)/\order.size=hs.size/\order.toList.Perm (XF hs.size)/\t'.led=t.led/\t'.plain=t.plain/\t'.place.size=hs.size/\Good t' (order.map fun i=>hs.toList.getD i 0):=fun mask hm hl hr em=>by
  obtain⟨place,order,h1,h2,h3,h4,h5,h6,h7⟩:=zna hm t.finger (t.movedTo mask) t.led t.plain hs hl;refine⟨{ mask:=mask,place:=place,dummies:=#[],finger:=t.finger,led:=t.led,moves:=t.movedTo mask,plain:=t.plain },order,?_,h4,h5,rfl,rfl,h3,hm,?_,rfl,h2,h6,?_,fun i hi=>?_⟩
  ·unfold SetTable.relaid;rw[em];exact h1
  ·show place.size=_;rw[Vh,h3,h4]
  ·show place.size*5<mask*3;rw[h3];exact hr
  ·have hi':i<order.size:=by
    have:i<place.size:=hi;lia
   have e:(order.map fun i=>hs.toList.getD i 0).toList.getD i 0=hs.toList.getD (order.getD i 0) 0:=by
    rw[Xx,Xq,Array.getElem?_map,Jw hi'];rfl
   rw[e];exact h7 i hi
 rcases hn with e | e
 ·exact key 31 (.inr (.inl rfl)) (by lia) (by lia) (by rw[e];decide +kernel)
 ·exact key 127 (.inr (.inr rfl)) (by lia) (by lia) (by rw[e];decide +kernel)
end ST
namespace ST
def qt (es:Array (Int×X9))(ep:Nat)(t:Wj):Obj:={ cls:=.type "set",dict:=none,data:=.set es ep t }
def kP (p:Int×Int):List Key:=[.inl p.1,.inl p.2]
def InB (p:Int×Int):Prop:=(0<=p.1/\p.1<8)/\(0<=p.2/\p.2<8)
def hP (prog:Xi)(w:WS)(p:Int×Int):Int:=(tk2 prog w).hash (kP p)
section
variable {prog:Xi}{w:WS}{A:WL}{E:X9->X8->Prop}{s:X8}{a:Addr}{es:Array (Int×X9)}{ep:Nat}{t:Wj}
theorem zpb {p q:Int×Int}(hp:InB p)(hq:InB q)(e:hP prog w p=hP prog w q):p=q:=by
 obtain⟨p1,p2⟩:=p;obtain⟨q1,q2⟩:=q;obtain⟨⟨a1,a2⟩,a3,a4⟩:=hp;obtain⟨⟨b1,b2⟩,b3,b4⟩:=hq;simp only at a1 a2 a3 a4 b1 b2 b3 b4;obtain⟨i,rfl⟩:∃i:Nat,p1=i:=⟨p1.toNat,by lia⟩;obtain⟨j,rfl⟩:∃i:Nat,p2=i:=⟨p2.toNat,by lia⟩;obtain⟨k,rfl⟩:∃i:Nat,q1=i:=⟨q1.toNat,by lia⟩;obtain⟨l,rfl⟩:∃i:Nat,q2=i:=⟨q2.toNat,by lia⟩;unfold hP kP at e;rw[zai,zai] at e;obtain⟨c,d⟩:=zkX (by lia) (by lia) (by lia) (by lia) e;rw[c,d]
theorem Jy {h:Heap}{x:Addr}{p:Int×Int}(h1:zw h (.ref x) p):(tk2 prog w).is h (kP p) x:=by
 obtain⟨b,o,n,t,u,e,e1,e2,e3⟩:=h1;cases e;exact⟨o,#[.int p.1 t,.int p.2 u],n,e1,e2,e3,.cons (zaM p.1 t) (.cons (zaM p.2 u) .nil)⟩
theorem Good.fits {hs:Array Int}(G:Good t hs):t.fits hs.size=true:=by
 have h1:=G.sz;have h2:=G.room;unfold SetTable.fits OG;rw[G.dum,h1];simp;lia
theorem Good.odd {hs:Array Int}(G:Good t hs):t.gaveWay=false:=by
 unfold SetTable.gaveWay;rcases G.mask with e | e | e<;>rw[e]<;>rfl
theorem xE {Q:Array (Int×X9)×Nat×Wj->X8->Prop}(ho:s.heap.get? a=some (qt es ep t))(G:Good t (es.map (·.1)))(q:Q (es,ep,t) s):W7 (Xf prog w) A (setState a) Q E s:=by
 refine SG ho rfl ?_ q;have:=G.fits;rwa [Vh] at this
theorem zeV (i:Nat)(hi:i<(es.map (·.1)).size):(es[i]?.map (·.1)).getD 0=(es.map (·.1)).toList.getD i 0:=by
 rw[Xx,Xq,Array.getElem?_map]
theorem zdi {n:Nat}{h:Int}{x:X9}{Q:SetFound->X8->Prop}(ho:s.heap.get? a=some (qt es ep t))(G:Good t (es.map (·.1)))(no:h ∉ (es.map (·.1)).toList)
  (hQ:∀j,j<t.mask+1->(∀i,i<t.place.size->t.place.getD i 0≠j)->Reach t h j->Q (.free j false) s):W7 (Xf prog w) A (Rn a x h true (n+1) none) Q E s:=by
 obtain⟨j,e,h1,h2,h3⟩:=G.missed (fun i=>(es[i]?.map (·.1)).getD 0) zeV no;rw[Rn];refine Y1 (xE ho G ?_);dsimp only;rw[G.odd,bq XV];generalize hm:t.probe _ h _=m;have em:m=some (.empty j none):=hm.symm.trans e;subst em;exact XS (hQ j h1 h2 h3)
theorem zdR {d:Nat}{x:Addr}{p:Int×Int}{Q:Bool->X8->Prop}(hx:zw s.heap (.ref x) p)(q:Q false s):W7 (Xf prog w) A (SF 8 (.ref x)) Q E s:=by
 obtain⟨b,o,n,t,u,e,e1,e2,e3⟩:=hx;cases e;have hT:s.TypeIs (.ref x) "tuple":=⟨o,e1,e2⟩;unfold SF;refine Y1 (PK hT ?_);dsimp only;rw[bw (by decide)];refine Y1 (XS ?_);rw[bq (by decide)];refine Y1 (wpAny_seqItems e1 e3 ?_);dsimp only;refine Y1 ?_;rw[<- Array.forIn_toList];refine Qb _ (fun rest r s'=>r.1=none/\s'=s/\∀v∈rest,∃i t,v=Vw i t) _ ?_ ?_ _ _ ⟨rfl,rfl,fun v hv=>?_⟩
 ·rintro v rest r s' ⟨hr,rfl,hall⟩;obtain⟨i,t,rfl⟩:=hall v XT;rw[show SF 7 (Vw i t)=pure false by unfold SF;rfl];refine Y1 (XS ?_);rw[bq XV];exact XS ⟨rfl,rfl,fun u hu'=>hall u (XR _ hu')⟩
 ·rintro⟨r1,r2⟩ s' ⟨hr,rfl,_⟩;simp only at hr;subst hr;exact XS q
 ·simp at hv;rcases hv with rfl | rfl
  ·exact⟨_,_,rfl⟩
  ·exact⟨_,_,rfl⟩
theorem zk3 {x:Addr}{p:Int×Int}{l:List X9}{Q:Bool->X8->Prop}(hx:zw s.heap (.ref x) p)(hl:∀v∈l,∃b q,v=.ref b/\zw s.heap (.ref b) q)(q:Q false s):W7 (Xf prog w) A (searchCouldBeSeen (.ref x) l) Q E s:=by
 unfold searchCouldBeSeen;refine Y1 ?_;refine Qb _ (fun rest r s'=>r.1=none/\s'=s/\∀v∈rest,∃b q,v=.ref b/\zw s.heap (.ref b) q) _ ?_ ?_ _ _ ⟨rfl,rfl,hl⟩
 ·rintro v rest r s' ⟨hr,rfl,hall⟩;obtain⟨b,q',rfl,hb⟩:=hall v XT;dsimp only;split
  ·exact XS ⟨rfl,rfl,fun u hu'=>hall u (XR _ hu')⟩
  ·refine Y1 ((tk2 prog w).quiet (Jy hx) ?_);rw[bq (by decide)];refine Y1 ((tk2 prog w).quiet (Jy hb) ?_);rw[bq (by decide)];refine Y1 (zdR (d:=0) hx ?_);rw[bq XV];refine Y1 (zdR (d:=0) hb ?_);rw[bq XV];exact XS ⟨rfl,rfl,fun u hu'=>hall u (XR _ hu')⟩
 ·rintro⟨r1,r2⟩ s' ⟨hr,rfl,_⟩;simp only at hr;subst hr;exact XS q
theorem zk4 {x:Addr}{p:Int×Int}{Q:Bool->X8->Prop}(hx:zw s.heap (.ref x) p)(q:Q true s):W7 (Xf prog w) A (Pe 8 (.ref x)) Q E s:=by
 obtain⟨b,o,n,t,u,e,e1,e2,e3⟩:=hx;cases e;have hT:s.TypeIs (.ref x) "tuple":=⟨o,e1,e2⟩;unfold Pe;refine Y1 (Pq hT PySem.F.slot_tuple_hash.lookup ?_);dsimp only;refine Y1 (wpAny_seqItems e1 e3 ?_);dsimp only[Option.getD];refine Y1 ?_;rw[<- Array.forIn_toList];refine Qb _ (fun rest r s'=>r.1=none/\s'=s/\∀v∈rest,∃i t,v=Vw i t) _ ?_ ?_ _ _ ⟨rfl,rfl,fun v hv=>?_⟩
 ·rintro v rest r s' ⟨hr,rfl,hall⟩;obtain⟨i,t,rfl⟩:=hall v XT;rw[show Pe 7 (Vw i t)=pure true by unfold Pe;rfl];refine Y1 (XS ?_);rw[bq (by decide)];exact XS ⟨rfl,rfl,fun u hu'=>hall u (XR _ hu')⟩
 ·rintro⟨r1,r2⟩ s' ⟨hr,rfl,_⟩;simp only at hr;subst hr;exact XS q
 ·simp at hv;rcases hv with rfl | rfl
  ·exact⟨_,_,rfl⟩
  ·exact⟨_,_,rfl⟩
theorem zeW {n:Nat}{h:Int}{x b:Addr}{p:Int×Int}{i:Nat}{Q:SetFound->X8->Prop}(hu:A.units<Vl)(ho:s.heap.get? a=some (qt es ep t))(G:Good t (es.map (·.1)))(nd:(es.map (·.1)).toList.Nodup)
  (all:∀e∈es.toList,∃b q,e.2=Wz b/\zw s.heap (.ref b) q) (hi:es[i]?=some (h,.ref b)) (hx:zw s.heap (.ref x) p) (hb:zw s.heap (.ref b) p)
  (hQ:Q (.there none) s):W7 (Xf prog w) A (Rn a (.ref x) h true (n+1) none) Q E s:=by
 have hlt:i<(es.map (·.1)).size:=by
  rw[Vh];exact(Vx.mp hi).1
 have eh:(es.map (·.1)).toList.getD i 0=h:=by
  rw[<- zeV i hlt,hi];rfl
 obtain⟨nx,e⟩:=G.found (fun i=>(es[i]?.map (·.1)).getD 0) zeV nd hlt;rw[eh] at e;rw[Rn];refine Y1 (xE ho G ?_);dsimp only;rw[G.odd,bq XV];generalize hm:t.probe _ h _=m;have em:m=some (.candidate (t.place.getD i 0) i nx):=hm.symm.trans e;subst em;dsimp only;have seen:∀v∈(es.filter (·.1==h)).toList.map (·.2),∃b q,v=Wz b/\zw s.heap (.ref b) q:=fun v hv=>by
  obtain⟨e,he,rfl⟩:=XU.mp hv;rw[Array.toList_filter] at he;exact all e (X6.mp he).1
 rw[hi];cases hl:t.led with
 | true =>
  rw[bq (by decide)];refine Y1 (VY ((tk2 prog w).eqBool hu (Jy hb) (Jy hx) ?_));refine Y1 (xE ho G ?_);dsimp only;rw[br rfl,bw (by decide)];exact XS hQ
 | false =>
  rw[bw (by decide)];refine Y1 (zk3 hx seen ?_);rw[bq XV];refine Y1 (VY ((tk2 prog w).eqBool hu (Jy hb) (Jy hx) ?_));refine Y1 (xE ho G ?_);dsimp only;rw[br rfl,bw (by decide)];exact XS hQ
end
end ST
namespace ST
def zce (f:Int×Int->Int)(q:Addr×(Int×Int)):Int×X9:=(f q.2,Wz q.1)
structure zdj (f:Int×Int->Int)(led:Bool)(h:Heap)(a:Addr)(ks:List (Addr×(Int×Int))):Prop where
 ex:∃es ep t,h.get? a=some (qt es ep t)/\es.toList=ks.map (zce f)/\Good t (es.map (·.1))/\t.led=led/\t.plain=true
 nd:(ks.map (·.2)).Nodup
 cells:∀q∈ks,zw h (.ref q.1) q.2
 inb:∀q∈ks,InB q.2
theorem zw.up {h h':Heap}{x:Addr}{p:Int×Int}(H:zw h (.ref x) p){a:Addr}(hs:VA a h h'){o:Obj}(ho:h.get? a=some o)(hc:o.cls=.type "set"):zw h' (.ref x) p:=by
 obtain⟨b,o',n,t,u,e,e1,e2,e3⟩:=H;cases e;refine⟨x,o',n,t,u,rfl,?_,e2,e3⟩;rw[hs.2 x fun z=>?_]
 ·exact e1
 ·subst z;rw[ho] at e1;cases e1;rw[hc] at e2;exact absurd e2 (by decide)
section
variable {prog:Xi}{w:WS}{A:WL}{E:X9->X8->Prop}{s:X8}{a:Addr}{es:Array (Int×X9)}{ep:Nat}{t:Wj}{ks:List (Addr×(Int×Int))}{f:Int×Int->Int}{led:Bool}
theorem ZT (he:es.toList=ks.map (zce f)):(es.map (·.1)).toList=ks.map fun q=>f q.2:=by
 rw[U3,he,WJ];rfl
theorem zjJ (inj:∀p q,InB p->InB q->f p=f q->p=q)(nd:(ks.map (·.2)).Nodup)(inb:∀q∈ks,InB q.2):(ks.map fun q=>f q.2).Nodup:=by
 rw[WY,We] at nd ⊢;refine nd.imp_of_mem fun {x y} hx hy h e=>h (inj _ _ (inb x hx) (inb y hy) e)
theorem zfX {es':Array (Int×X9)}{t':Wj}{Q:Unit->X8->Prop}(ho:s.heap.get? a=some (qt es ep t))(hz:es'.size<=64)
  (q:∀h',VA a s.heap h'->h'.get? a=some (qt es' (ep+1) t')->Q () { s with heap:=h' }):W7 (Xf prog w) A (storeSet a es' t') Q E s:=by
 refine wpAny_storeSet_of (o:=qt es ep t) ho rfl (q _ (UD ..) ?_) (X4 hz (by rw[Uu];decide));have:=VJ (Obj.putSet es' t') ho (by rw[putSet_of es' t' (o:=qt es ep t) rfl];rfl);rw[putSet_of es' t' (o:=qt es ep t) rfl] at this;exact this
theorem zfY {α:Type}(d:α)(xs:Array α):∀(l:List Nat),(∀i∈l,i<xs.size)->l.filterMap (fun i=>xs[i]?)=l.map fun i=>xs.toList.getD i d
 | [],_=>rfl
 | i::l,h=>by
  have hi:=h i XT;rw[U9,W9,Vq hi];dsimp only;rw[zfY d xs l fun j hj=>h j (XR _ hj)];congr 1;rw[Xx,Xq,Vq hi];rfl
theorem zeX {n:Nat}(hn:n=5\/n=19):¬ Tb (Uz n)>Xv:=by
 rw[Uu];rcases hn with rfl | rfl
 ·rw[show Tb (Uz 5)=32 by decide +kernel];lia
 ·rw[show Tb (Uz 19)=128 by decide +kernel];lia
theorem zk5 {Q:Unit->X8->Prop}(ho:s.heap.get? a=some (qt es ep t))(hf:t.fits es.size=true)(hn:es.size=5\/es.size=19)(he:es.toList=ks.map (zce f))
  (q:∀(h':Heap) (es':Array (Int×X9)) (t':Wj) (ks':List (Addr×(Int×Int))),VA a s.heap h'->h'.get? a=some (qt es' (ep+1) t')->es'.toList=ks'.map (zce f)->ks'.Perm ks->Good t' (es'.map (·.1))->t'.led=t.led->t'.plain=t.plain->Q () { s with heap:=h' }):W7 (Xf prog w) A (setRelay a (Uz es.size)) Q E s:=by
 have hsz:(es.map (·.1)).size=es.size:=Vh ..;obtain⟨t',order,e1,e2,e3,e4,e5,e6,e7⟩:=zhm t (es.map (·.1)) (by rw[hsz];exact hn);rw[hsz] at e1 e2 e3 e6;have hlt:∀i∈order.toList,i<es.size:=fun i hi=>Xl.mp (e3.mem_iff.mp hi);have hkl:ks.length=es.size:=by
  rw[<- XZ,he,ZB]
 have d0:Addr×(Int×Int):=(0,(0,0));have el:(order.filterMap (es[·]?)).toList=(order.toList.map fun i=>ks.getD i d0).map (zce f):=by
  rw[Array.toList_filterMap,zfY (zce f d0) es order.toList hlt,WJ];refine Xg fun i hi=>?_;have h1:=hlt i hi;show es.toList.getD i _=zce f (ks.getD i d0);rw[he,Xx,Xk,Xx,XX (by lia),Option.map_some,TQ,TQ]
 have es_:(order.filterMap (es[·]?)).size=es.size:=by
  rw[<- XZ,el,ZB,ZB,XZ,e2]
 unfold setRelay;refine Y1 (SG (o:=qt es ep t) ho rfl hf ?_);dsimp only;rw[bq (zeX hn),e1];refine Y1 ?_;show W7 (Xf prog w) A (do
  let es':=order.filterMap (es[·]?)
  if es'.size != es.size then unsupported "internal:set-table-lost-an-element"
  pure (es',t')) _ _ _
 dsimp only;rw[es_,bq (by simp)];refine XS ?_;dsimp only;refine zfX ho (by rw[es_];lia) fun h' h1 h2=>q h' _ t' _ h1 h2 el ?_ ?_ e4 e5
 ·have:=e3.map fun i=>ks.getD i d0;rw[<- hkl,zhg] at this;exact this
 ·have eh:(order.filterMap (es[·]?)).map (·.1)=order.map fun i=>(es.map (·.1)).toList.getD i 0:=by
   apply P9.mp;rw[ZT el,U3,WJ];refine Xg fun i hi=>?_;have h1:=hlt i hi;show f (ks.getD i d0).2=_;rw[ZT he,Xx,Xx,Xk,XX (by lia),Option.map_some,TQ,TQ]
  rw[eh];exact e7
theorem zk6 {n:Nat}{x:Addr}{p:Int×Int}{Q:Bool->X8->Prop}(inj:∀p q,InB p->InB q->f p=f q->p=q)(hu:A.units<Vl)(S:zdj f led s.heap a ks)(hx:zw s.heap (.ref x) p)(hb:InB p)(hn:p ∉ ks.map (·.2)->ks.length<63)
  (q:∀(b:Bool) (h':Heap) (ks':List (Addr×(Int×Int))),VA a s.heap h'->zdj f led h' a ks'->(∀c,c∈ks'.map (·.2)↔c∈ks.map (·.2)\/c=p)->(∀c∈ks',c∈ks\/c=(x,p))->Q b { s with heap:=h' }) :
  W7 (Xf prog w) A (setAddHashedIn a (.ref x) (f p) (n+1)) Q E s:=by
 obtain⟨⟨es,ep,t,ho,he,G,hl,hp⟩,nd,hc,inb⟩:=S;have hkl:ks.length=es.size:=by
  rw[<- XZ,he,ZB]
 generalize hh:f p=h;rw[setAddHashedIn];refine Y1 (xE ho G ?_);dsimp only;rw[show byScan (.ref x) es=false by simp[byScan,Value.scannable],bq XV];by_cases hm:p∈ks.map (·.2)
 ·obtain⟨⟨b,p'⟩,hk,e⟩:=XU.mp hm;simp only at e;subst e;obtain⟨i,hi,ei⟩:=TF hk;have eg:es[i]?=some (h,.ref b):=by
   rw[<- Xq,he,Xk,XX hi,ei,<- hh];rfl
  unfold setSearch;refine Y1 (zeW (n:=99999) hu ho G (by rw[ZT he];exact zjJ inj nd inb) (fun e hm'=>?_) eg hx (hc _ hk) ?_)
  ·rw[he] at hm';obtain⟨c,h1,rfl⟩:=XU.mp hm';exact⟨c.1,c.2,rfl,hc c h1⟩
  ·refine XS (q false s.heap ks (Heap.SameBut.refl _ _) ⟨⟨es,ep,t,ho,he,G,hl,hp⟩,nd,hc,inb⟩ (fun c=>⟨.inl,fun z=>z.elim id fun z=>z ▸ hm⟩) fun c h1=>.inl h1)
 ·have hlen:=hn hm;have no:h ∉ (es.map (·.1)).toList:=fun z=>by
   rw[ZT he,<- hh] at z;obtain⟨c,h1,h2⟩:=XU.mp z;exact hm (XU.mpr ⟨c,h1,inj _ _ (inb c h1) hb h2⟩)
  unfold setSearch;refine Y1 (zdi (n:=99999) ho G no fun j h1 h2 h3=>?_);dsimp only;refine Y1 (xE ho G ?_);obtain⟨f1,f2,f3⟩:=zk1 G.up G.dum h2;have hsz:t.place.size=es.size:=by rw[G.sz,Vh]
  have bs:Xr t.place j<=es.size:=by
   rw[<- hsz];exact(Zh G.up j).1
  generalize hpos:Xr t.place j=pos at f1 f2 f3 bs;have ep1:(t.put j).1.plain=true:=by rw[f2];exact hp
  have el1:(t.put j).1.led=led:=by rw[f2];exact hl
  have hks:∃ks1,ks1=ks.take pos++(x,p)::ks.drop pos:=⟨_,rfl⟩;obtain⟨ks1,hks⟩:=hks;have he1:(W8 es pos (h,Wz x)).toList=ks1.map (zce f):=by
   rw[Yx,he,hks,XC,W9,Rm,OF];simp only[zce,hh]
  have hsz1:(W8 es pos (h,Wz x)).size=es.size+1:=jA _ bs _;have pm:ks1.Perm ((x,p)::ks):=by
   rw[hks];refine List.perm_middle.trans (List.Perm.cons _ ?_);rw[Ws]
  have fits1:(t.put j).1.fits (W8 es pos (h,Wz x)).size=true:=by
   have hr:=G.room;have bp:pos<=t.place.size:=by rw[hsz];exact bs
   rw[hsz1,f2];unfold SetTable.fits OG;simp only[G.dum,jA _ bp,hsz];rcases G.mask with e | e | e<;>simp[e]<;>rw[hsz,e] at hr<;>lia
  have fin:∀(h':Heap) (ks':List (Addr×(Int×Int))) (es':Array (Int×X9)) (ep':Nat) (t':Wj),VA a s.heap h'->h'.get? a=some (qt es' ep' t')->es'.toList=ks'.map (zce f)->ks'.Perm ((x,p)::ks)->Good t' (es'.map (·.1))->t'.led=led->t'.plain=true->Q true { s with heap:=h' }:=by
   intro h' ks' es' ep' t' hs hg hel hpm hG hle hpl;have mem:∀c,c∈ks'↔c=(x,p)\/c∈ks:=fun c=>by rw[hpm.mem_iff,Xz]
   refine q true h' ks' hs ⟨⟨es',ep',t',hg,hel,hG,hle,hpl⟩,?_,fun c hc'=>?_,fun c hc'=>?_⟩ (fun c=>?_) fun c hc'=>(mem c).mp hc' |>.symm
   ·rw[(hpm.map (·.2)).nodup_iff,W9,VG];exact⟨hm,nd⟩
   ·rcases(mem c).mp hc' with rfl | z
    ·exact zw.up hx hs ho rfl
    ·exact zw.up (hc c z) hs ho rfl
   ·rcases(mem c).mp hc' with rfl | z
    ·exact hb
    ·exact inb c z
   ·rw[(hpm.map (·.2)).mem_iff,W9,Xz];exact Or.comm
  have eT:t.put j=((t.put j).1,pos):=by rw[<- f1]
  have fl:(t.put j).1.tooFull=decide ((es.size+1)*5 >= t.mask*3):=by
   have bp:pos<=t.place.size:=by rw[hsz];exact bs
   rw[f2];unfold SetTable.tooFull OG;simp only[G.dum,jA _ bp,hsz];rfl
  have gd:¬ (es.size+1)*5 >= t.mask*3->Good (t.put j).1 ((W8 es pos (h,Wz x)).map (·.1)):=fun hr=>by
   have:=G.put (h:=h) h1 h2 h3 (by rw[hsz];lia);rw[f1] at this;have e:(W8 es pos (h,Wz x)).map (·.1)=W8 (es.map (·.1)) pos h:=by
    apply P9.mp;rw[U3,Yx,Yx,U3,XC,W9,Rm,OF]
   rw[e];exact this
  have hroom:=G.room;have hmask:=G.mask;rw[hsz] at hroom;dsimp only;rw[eT];dsimp only;generalize t.put j=T at ep1 el1 fits1 fl gd;obtain⟨t1,p1⟩:=T;dsimp only at ep1 el1 fits1 fl gd ⊢;rw[ep1,bw rfl];refine Y1 (zk4 hx ?_);rw[bw rfl];refine Y1 (zfX ho (by rw[hsz1];lia) fun h' hs hg=>?_);by_cases full:(es.size+1)*5 >= t.mask*3
  ·rw[fl,br full,bw (by decide)];rw[<- hsz1];refine Y1 (zk5 (s:={ s with heap:=h' }) hg fits1 (by rw[hsz1];rcases hmask with e | e | e<;>rw[e] at full hroom<;>lia) he1 fun h2' es' t' ks' hs' hg' hel hpm hG hle hpl=>?_);exact XS (fin h2' ks' es' _ t' (hs.trans hs') hg' hel (hpm.trans pm) hG (hle.trans el1) (hpl.trans ep1))
  ·rw[fl,bg full,bq (by decide)];exact XS (fin h' ks1 _ _ t1 hs hg he1 pm (gd full) el1 ep1)
theorem zk7 {x:Addr}{p:Int×Int}{Q:Bool->X8->Prop}(hu:A.units<Vl)(S:zdj (hP prog w) led s.heap a ks)(hx:zw s.heap (.ref x) p)(hb:InB p)(hn:p ∉ ks.map (·.2)->ks.length<63)
  (q:∀(b:Bool) (h':Heap) (ks':List (Addr×(Int×Int))),VA a s.heap h'->zdj (hP prog w) led h' a ks'->(∀c,c∈ks'.map (·.2)↔c∈ks.map (·.2)\/c=p)->(∀c∈ks',c∈ks\/c=(x,p))->Q b { s with heap:=h',toks:=s.toks+3 }) :
  W7 (Xf prog w) A (setAdd a (.ref x)) Q E s:=by
 unfold setAdd;refine VY (Y1 ((tk2 prog w).pyHash hu (Jy hx) ?_));show W7 (Xf prog w) A (setAddHashed a (.ref x) (hP prog w p)) Q E { s with toks:=s.toks+3 };unfold setAddHashed;refine VY ?_;exact zk6 (n:=99999) (s:={ s with toks:=s.toks+3 }) (fun p q h1 h2 h3=>zpb h1 h2 h3) hu S hx hb hn q
end
end ST
namespace ST
theorem ziH {α:Type}(next:Nat->Nat):∀(fuel k:Nat) (left:List α) (out:Array α),left.length=fuel->(pickOrder.go next fuel k left out).toList.Perm (out.toList++left)
 | 0,k,left,out,h=>by
  rw[VW.mp h,Xh];exact List.Perm.refl _
 | fuel+1,k,left,out,h=>by
  have hl:next k%left.length<left.length:=Sj _ (by lia)
  rw[pickOrder.go,XX hl];dsimp only;refine(ziH next fuel (k+1) _ _ (by rw[List.length_eraseIdx_of_lt hl];lia)).trans ?_;rw[SD,WV];refine Sq _ ?_;have e:left=left.take (next k%left.length)++left[next k%left.length]::left.drop (next k%left.length+1):=by
   rw[<- Wn hl,Ws]
  rw[List.eraseIdx_eq_take_drop_succ];have e2:=@List.perm_middle _ left[next k%left.length] (left.take (next k%left.length)) (left.drop (next k%left.length+1));rw[<- e] at e2;exact e2.symm
theorem zjK {α:Type}(next:Nat->Nat)(xs:Array α):(QR next xs).toList.Perm xs.toList:=by
 have h:=ziH next xs.size 0 xs.toList #[] (by simp)
 rw[show (#[]:Array α).toList++xs.toList=xs.toList from rfl] at h;exact h
theorem yr:Slot "set_iterator" "__next__" "set_iterator.__next__" :=
 .of (owner:="set_iterator") (n:="__next__") (by rw[R3,Ua];kernel_rfl) (by decide +kernel) (by decide +kernel) (by decide +kernel) (.inl (by decide +kernel)) (by rw[Pb];kernel_rfl)
theorem zak:N6 table "set_iterator.__next__"=some UR.«set_iterator.__next__»:=entryFor_of_tree (by kernel_rfl)
theorem zcf:Manifest.owners.lookup (String.ofList ['r','o','t','a','r','e','t','i','_','t','e','s'].reverse)=some Manifest.sig_set_iterator:=by kernel_rfl
theorem zbd (a:X9):argsOk "set_iterator.__next__" ⟨[a],[]⟩:=by
 unfold argsOk;rw[signature?_of (id:="set_iterator.__next__") (n:=['_','_','t','x','e','n','_','_']) (o:=['r','o','t','a','r','e','t','i','_','t','e','s']) (by kernel_rfl) zcf];kernel_rfl
theorem zeY:N6 table "set.__iter__"=some UR.«frozenset.__iter__»:=entryFor_alias (id':="frozenset.__iter__") (by kernel_rfl) rfl (by decide +kernel) (by kernel_rfl)
def zcg (slot i:Nat)(a:Addr)(n ep:Nat):Obj:={ cls:=.type "set_iterator",data:=.fields #[Ub slot,Ub i,.ref a,Ub n,Ub ep] }
def slotAt (byText:Bool)(t:Wj)(i:Nat):Nat:=if byText then 0 else if i=0 then 0 else t.place.getD (i-1) 0+1
def Zl (w:WS)(a:Addr)(ep:Nat)(es:Array (Int×X9)):Array (Int×X9):=if w.params.followText "set-order" then QR (w.params.setOrder a ep) es else es
theorem zal (w:WS)(a:Addr)(ep:Nat)(es:Array (Int×X9)):(Zl w a ep es).toList.Perm es.toList:=by
 unfold Zl;split
 ·exact zjK _ _
 ·exact List.Perm.refl _
section
variable {prog:Xi}{w:WS}{A:WL}{E:X9->X8->Prop}{s:X8}{a:Addr}{es:Array (Int×X9)}{ep:Nat}{t:Wj}
theorem zeZ {Q:Bool->X8->Prop}(q:Q (w.params.followText "set-order") s):W7 (Xf prog w) A setsByText Q E s:=by
 unfold setsByText;exact Y1 (P8 (XS q))
theorem below_at {t:Wj}(U:Up t.place){i:Nat}(hi:i<=t.place.size):Xr t.place (slotAt false t i)=i:=by
 obtain⟨b1,b2,b3⟩:=Zh U (slotAt false t i);unfold slotAt at *
 simp only[Wh,if_false] at *
 by_cases h0:i=0
 ·subst h0;rw[bw rfl] at *
  rcases Nat.eq_zero_or_pos (Xr t.place 0) with e | e
  ·exact e
  ·have:=b2 0 e;lia
 ·rw[bq h0] at *
  rcases Rt (Xr t.place (t.place.getD (i-1) 0+1)) i with e | e | e
  ·have:=b3 (i-1) (by lia) (by lia);lia
  ·exact e
  ·have h1:=b2 i e;have h2:=U (i-1) i (by lia) (by lia);lia
theorem ziI {i:Nat}{Q:Option (X9×Nat)->X8->Prop}(ho:s.heap.get? a=some (qt es ep t))(G:Good t (es.map (·.1)))(hl:t.led=!w.params.followText "set-order")(hp:t.plain=true)(hi:i<=es.size)
  (q1:∀v,(Zl w a ep es)[i]?.map (·.2)=some v->Q (some (v,slotAt (w.params.followText "set-order") t (i+1))) s) (q2:i=es.size->Q none s) :
  W7 (Xf prog w) A (setNext a (slotAt (w.params.followText "set-order") t i) i ep) Q E s:=by
 have hsz:t.place.size=es.size:=by rw[G.sz,Vh]
 have hos:(Zl w a ep es).size=es.size:=by
  rw[<- XZ,(zal w a ep es).length_eq,XZ]
 unfold setNext;refine Y1 (xE ho G ?_);dsimp only;refine Y1 (zeZ ?_);cases hb:w.params.followText "set-order" with
 | true =>
  rw[bw rfl];rw[hb] at q1;rw[bq (by simp)];unfold setWalk;refine Y1 (Y1 (xE ho G ?_));dsimp only;refine Y1 (zeZ ?_);rw[hb,bw rfl];refine Y1 (P8 (XS (XS ?_)));have eo:Zl w a ep es=QR (w.params.setOrder a ep) es:=by
   unfold Zl;rw[hb,bw rfl]
  rw[eo] at q1 hos;show Q (Option.map _ (QR (w.params.setOrder a ep) es)[i]?) s;by_cases h:i<es.size
  ·have e:(QR (w.params.setOrder a ep) es)[i]?=some (QR (w.params.setOrder a ep) es)[i]:=Vq (by lia);rw[e] at q1 ⊢;exact q1 _ rfl
  ·rw[WA (by lia)];exact q2 (by lia)
 | false =>
  rw[bq XV];rw[hb] at q1 hl;have eo:Zl w a ep es=es:=by
   unfold Zl;rw[hb,bq XV]
  rw[eo] at q1;split
  ·rename_i h;exact absurd h (by show ¬ ((!t.plain&&decide (es.size>1))=true);rw[hp];exact XV)
  refine Y1 ?_;show W7 _ _ (if (!t.led && !es.isEmpty)=true then unsupported "set:maker-not-led" else pure ()) _ _ _;rw[hl,bq (by simp)];refine XS ?_;rw[below_at G.up (by lia)];by_cases h:i<es.size
  ·have e:es[i]?=some es[i]:=Vq h;have e2:t.place[i]?=some (t.place.getD i 0):=Jw (by lia);rw[e] at q1 ⊢;rw[e2];refine XS (q1 _ rfl)
  ·rw[WA (by lia)];exact XS (q2 (by lia))
end
end ST
namespace ST
theorem zdS:Slot "set_iterator" "__iter__" "set_iterator.__iter__" :=
 .of (owner:="set_iterator") (n:="__iter__") (by rw[R3,Ua];kernel_rfl) (by decide +kernel) (by decide +kernel) (by decide +kernel) (.inl (by decide +kernel)) (by rw[Pb];kernel_rfl)
theorem zhn:N6 table "set_iterator.__iter__"=some UR.«dict_keyiterator.__iter__»:=entryFor_alias (id':="dict_keyiterator.__iter__") (by kernel_rfl) rfl (by decide +kernel) (by kernel_rfl)
theorem zjL (a:X9):argsOk "set_iterator.__iter__" ⟨[a],[]⟩:=by
 unfold argsOk;rw[signature?_of (id:="set_iterator.__iter__") (n:=['_','_','r','e','t','i','_','_']) (o:=['r','o','t','a','r','e','t','i','_','t','e','s']) (by kernel_rfl) zcf];kernel_rfl
section
variable {prog:Xi}{w:WS}{A:WL}{E:X9->X8->Prop}{s:X8}{a I:Addr}{es:Array (Int×X9)}{ep:Nat}{t:Wj}
theorem zho {slot i a n ep:Nat}(x y:Nat):Sd (·.setIfInBounds 1 (Ub y)) (Sd (·.setIfInBounds 0 (Ub x)) (zcg slot i a n ep))=zcg x y a n ep:=rfl
theorem znb {i:Nat}{Q:Option X9->X8->Prop}(hI:s.heap.get? I=some (zcg (slotAt (w.params.followText "set-order") t i) i a es.size ep))(ho:s.heap.get? a=some (qt es ep t))(G:Good t (es.map (·.1)))(hl:t.led=!w.params.followText "set-order")(hp:t.plain=true)(hi:i<es.size)
  (q:∀v h',(Zl w a ep es)[i]?.map (·.2)=some v->h'.get? I=some (zcg (slotAt (w.params.followText "set-order") t (i+1)) (i+1) a es.size ep)->VA I s.heap h'->Q (some v) { s with heap:=h' }) :
  W7 (Xf prog w) A (RN (.ref I)) Q E s:=by
 have hT:s.TypeIs (.ref I) "set_iterator":=⟨_,hI,rfl⟩;unfold RN;refine Y1 (Ro (P1 (name:=Str.ofString "__next__") hT yr (Uw yr hT zak ?_ (zbd _))));unfold UR.«set_iterator.__next__»;refine Y1 (XS ?_);refine Y1 (wpAny_fieldsOf hI rfl ?_);dsimp only[Ub];refine Y1 (RX (o:=qt es ep t) ho rfl ?_ ?_)
 ·have:=G.fits;rwa [Vh] at this
 rw[bq (by simp)];show W7 _ _ (setNext a (slotAt (w.params.followText "set-order") t i) i ep >>= _) _ _ _;refine Y1 (ziI ho G hl hp (SZ hi) (fun v hv=>?_) fun z=>absurd z (by lia));dsimp only;refine Y1 (Pa hI rfl (by simp[zcg]) ?_);have h1:=VJ (Sd (·.setIfInBounds 0 (Ub ((slotAt (w.params.followText "set-order") t (i+1):Nat):Int)))) hI rfl;refine Y1 (Pa h1 rfl (by simp[zcg,Sd]) ?_);have h2:=VJ (Sd (·.setIfInBounds 1 (Ub ((i:Int)+1)))) h1 rfl;refine XS ⟨_,rfl,XS (q v _ hv ?_ ((UD ..).trans (UD ..)))⟩;rw[show ((i:Int)+1)=((i+1:Nat):Int) by lia] at h2 ⊢;rw[zho] at h2;exact h2
theorem zpc {Q:Option X9->X8->Prop}(hh:A.handled=none)(hI:s.heap.get? I=some (zcg (slotAt (w.params.followText "set-order") t es.size) es.size a es.size ep))(ho:s.heap.get? a=some (qt es ep t))(G:Good t (es.map (·.1)))(hl:t.led=!w.params.followText "set-order")(hp:t.plain=true)
  (q:∀h',Heap.ExtBut I s.heap h'->Q none { s with heap:=h' }):W7 (Xf prog w) A (RN (.ref I)) Q E s:=by
 have hT:s.TypeIs (.ref I) "set_iterator":=⟨_,hI,rfl⟩;unfold RN;refine Y1 (Ro (P1 (name:=Str.ofString "__next__") hT yr (Uw yr hT zak ?_ (zbd _))));unfold UR.«set_iterator.__next__»;refine Y1 (XS ?_);refine Y1 (wpAny_fieldsOf hI rfl ?_);dsimp only[Ub];refine Y1 (RX (o:=qt es ep t) ho rfl ?_ ?_)
 ·have:=G.fits;rwa [Vh] at this
 rw[bq (by simp)];show W7 _ _ (setNext a (slotAt (w.params.followText "set-order") t es.size) es.size ep >>= _) _ _ _;refine Y1 (ziI ho G hl hp (XW _) (fun v hv=>?_) fun _=>?_)
 ·have hos:(Zl w a ep es).size=es.size:=by
   rw[<- XZ,(zal w a ep es).length_eq,XZ]
  rw[WA (by lia)] at hv;cases hv
 dsimp only;refine Y1 (Pa hI rfl (by simp[zcg]) ?_);refine Y1 ?_;simp only[newExc,newTuple];refine Y1 (VM ?_ (by size_fits));refine Y1 (m:=RM _ _) (Of (a:=Ur) (by first | rfl | (simp only[RM];rfl)) ?_);refine VM ?_ (by size_fits);simp only[raiseNew];refine Y1 (wpAny_handled ?_);rw[show A.in1.handled=none from hh];refine Y1 (XS (wpAny_throw ?_));refine Y1 (wpAny_isInstance (T:="StopIteration") (b:=true) ⟨_,Xd _ rfl,rfl⟩ isSubtype_stop ?_);exact XS (q _ (((UD ..).extBut.push _).push _))
theorem znc {slot i n:Nat}{Q:X9->X8->Prop}(hI:s.heap.get? I=some (zcg slot i a n ep))(q:Q (.ref I) s):W7 (Xf prog w) A (pyIter (.ref I)) Q E s:=by
 have hT:s.TypeIs (.ref I) "set_iterator":=⟨_,hI,rfl⟩;refine wpAny_pyIter_slot hT zdS (Uw zdS hT zhn ?_ (zjL _));exact XS ⟨_,rfl,"set_iterator",_,hT,yr.lookup,q⟩
theorem walks (hh:A.handled=none)(hne:a≠I)(G:Good t (es.map (·.1)))(hl:t.led=!w.params.followText "set-order")(hp:t.plain=true) :
  Walks prog w A I [I,a] [I] es.size (fun i v=>(Zl w a ep es)[i]?.map (·.2)=some v) (fun i h=>h.get? I=some (zcg (slotAt (w.params.followText "set-order") t i) i a es.size ep)/\h.get? a=some (qt es ep t)) where
 sub:=fun b hb=>by simp at hb;simp[hb]
 frame:=fun _ _ _ st hk=>⟨hk I (by simp) _ st.1,hk a (by simp) _ st.2⟩
 item:=fun i s Q E hi st hQ=>znb st.1 st.2 G hl hp hi fun v h' hv h1 hs=>hQ v h' s.toks hv ⟨h1,(hs.2 a hne).trans st.2⟩ fun b o hb e=>(hs.2 b fun z=>hb (by simp[z])).trans e
 done:=fun s Q E st hQ=>zpc hh st.1 st.2 G hl hp fun h' he=>hQ h' s.toks fun b o hb e=>he b o (fun z=>hb (by simp[z])) e
 self:=fun _ _ _ _ st hQ=>znc st.1 hQ
theorem zfZ:splitId "set.__len__"=some ("set","__len__"):=by decide +kernel
theorem zf0 {Q:List X9->X8->Prop}(hh:A.handled=none)(ho:s.heap.get? a=some (qt es ep t))(G:Good t (es.map (·.1)))(hl:t.led=!w.params.followText "set-order")(hp:t.plain=true)(hn:es.size<=64)
  (q:∀vs h' tk,vs.Perm (es.toList.map (·.2))->(∀b o,s.heap.get? b=some o->h'.get? b=some o)->s.heap.objs.size<=h'.objs.size->Q vs { s with heap:=h',toks:=tk }):W7 (Xf prog w) A (collect (.ref a)) Q E s:=by
 have hlt:a<s.heap.objs.size:=XI ho;unfold collect;refine Y1 (wpAny_runValue (VQ PySem.F.entry_proto_collect ?_));rw[V4 PySem.F.plain_proto_collect _];show W7 _ A.in1 (newList [] >>= fun l=>Rw (.builtin "list.__iadd__" ⟨[l,.ref a],[]⟩)) _ _ s;refine Y1 (VM ?_);refine XS ⟨UH P0 _,VQ PySem.F.entry_list_iadd ?_⟩;rw[V4 P0 _];show W7 _ A.in1 (RP (.ref s.heap.objs.size) (.ref a) (.ref s.heap.objs.size)) _ _ _;generalize hL:(s.heap.push { cls:=.type "list",data:=.seq ([]:List X9).toArray })=h1;have ho1:h1.get? a=some (qt es ep t):=by rw[<- hL];exact X7 _ ho
 have hS1:h1.get? s.heap.objs.size=some { cls:=.type "list",data:=.seq #[] }:=by rw[<- hL];exact Xd _ rfl
 have kp1:∀b o,s.heap.get? b=some o->h1.get? b=some o:=fun b o e=>by rw[<- hL];exact X7 _ e
 have z1:h1.objs.size=s.heap.objs.size+1:=by rw[<- hL];exact Vi ..
 have hT:Sc { s with heap:=h1 } (.ref a) "set":=⟨_,ho1,rfl⟩;have h1':Rg (.ref s.heap.objs.size) (.ref a)=false:=by
  simp[Rg];exact UN hlt
 unfold RP;refine Y1 (PK hT ?_);rw[bq (by rw[h1'];decide)];have hf:t.fits es.size=true:=by
  have:=G.fits;rwa [Vh] at this
 refine Y1 (wpAny_pyIter_slot hT Pl (Uw Pl hT zeY ?_ (PySem.F.args_set_iter_1 _)));unfold UR.«frozenset.__iter__» Builtin.Frozenset.slot0 slotArgs;simp only[List.isEmpty_nil,Bool.not_true,Wh,↓reduceIte,bind_assoc,UT,bne_self_eq_false];unfold Builtin.Frozenset.addrOf Builtin.Frozenset.sizeOf;refine Y1 (XS ?_);dsimp only;refine Y1 (XS ?_);refine Y1 (Y1 (RX (s:={ s with heap:=h1 }) (o:=qt es ep t) ho1 rfl hf (XS ?_)));unfold setDrawn;refine Y1 (Y1 (SG (s:={ s with heap:=h1 }) (o:=qt es ep t) ho1 rfl hf ?_));dsimp only;refine Y1 (zeZ (XS ?_));split
 ·rename_i h;exact absurd h (by show ¬ ((!w.params.followText "set-order" && (!t.plain&&decide (es.size>1)))=true);rw[hp];simp)
 refine Y1 (XS ?_);unfold setEpoch;refine Y1 (Y1 (SG (s:={ s with heap:=h1 }) (o:=qt es ep t) ho1 rfl hf (XS ?_)));unfold newFields;refine Y1 (VM ?_);generalize hI:h1.push { cls:=.type "set_iterator",data:=.fields (List.toArray [Ub 0,Ub 0,Wz a,Ub ((es.size:Nat):Int),Ub ((ep:Nat):Int)]) }=h2;have ho2:h2.get? a=some (qt es ep t):=by rw[<- hI];exact X7 _ ho1
 have hS2:h2.get? s.heap.objs.size=some { cls:=.type "list",data:=.seq #[] }:=by rw[<- hI];exact X7 _ hS1
 have kp2:∀b o,s.heap.get? b=some o->h2.get? b=some o:=fun b o e=>by rw[<- hI];exact X7 _ (kp1 b o e)
 have hI2:h2.get? h1.objs.size=some (zcg 0 0 a es.size ep):=by rw[<- hI];exact Xd _ rfl
 have hTI:Sc { s with heap:=h2 } (.ref h1.objs.size) "set_iterator":=⟨_,hI2,rfl⟩;have hT2:Sc { s with heap:=h2 } (.ref a) "set":=⟨_,ho2,rfl⟩;refine XS ⟨_,rfl,"set_iterator",_,hTI,yr.lookup,?_⟩;refine Y1 (VY ?_);unfold Builtin.List.listLengthHint;refine Y1 (Pq hT2 PySem.F.slot_set_len.lookup ?_);dsimp only;rw[zfZ];dsimp only;refine Y1 (wpAny_isInstance (b:=true) hT2 sub_set_self ?_);rw[bq (by decide)];show W7 _ _ (typeOf (Wz a) >>= _) _ _ _;refine Y1 (PK hT2 ?_);show W7 _ _ (pure false) _ _ _;refine XS ?_;show W7 _ A.in1 (rule "list.extend.makes-room" >>= fun _=>Builtin.List.listTouch (.ref s.heap.objs.size) >>= fun _=>Rw (.builtin "list.extend.loop" ⟨[.ref s.heap.objs.size,.ref h1.objs.size,.ref s.heap.objs.size],[]⟩)) _ _ _;refine Y1 (Uo (Y1 ?_));show W7 _ A.in1 (updateSeq s.heap.objs.size (·.push .none) >>= fun _=>updateSeq s.heap.objs.size (·.pop)) _ _ _;refine Y1 (wpAny_updateSeq hS2 rfl ?_);have hS3:=VJ (Va (·.push Ur)) hS2 rfl;refine wpAny_updateSeq hS3 rfl ?_;have hS4:=VJ (Va (·.pop)) hS3 rfl;have oth:∀b o,b≠s.heap.objs.size->h2.get? b=some o->((h2.update s.heap.objs.size (Va (·.push Ur))).update s.heap.objs.size (Va (·.pop))).get? b=some o :=
  fun b o hb e=>(Ui _ _ (Vs hb)).trans ((Ui _ _ (Vs hb)).trans e)
 generalize (h2.update s.heap.objs.size (Va (·.push Ur))).update s.heap.objs.size (Va (·.pop))=h4 at hS4 oth;have hne:a≠h1.objs.size:=by
  rw[z1];exact Xe (Wx hlt)
 have hSf:s.heap.objs.size ∉ [h1.objs.size,a]:=by
  rw[z1];simp only[Xz,P7,or_false,not_or];exact⟨Xe (QP _),UN hlt⟩
 have sl0:slotAt (w.params.followText "set-order") t 0=0:=by
  unfold slotAt;split<;>rfl
 have hos:(Zl w a ep es).size=es.size:=by
  rw[<- XZ,(zal w a ep es).length_eq,XZ]
 refine XS ⟨UH PySem.F.plain_extend_loop _,codeAny_extend_loopS ((walks (A:=A.in1) (prog:=prog) (ep:=ep) hh hne G hl hp).toS) (X4 hn (by rw[Uu];decide)) _ hSf _ es.size 0 _ _ _ rfl (W4 _)
  ⟨by rw[sl0];exact oth _ _ (by rw[z1];exact Vo _) hI2,oth _ _ (Xe hlt) ho2⟩ hS4 (ItemsOf.nil _) fun s' acc' c' hm hS' hacc=>?_⟩
 show W7 _ A (load s.heap.objs.size >>= _) _ _ s';refine Y1 (wpAny_load hS' ?_);obtain⟨h',g',d',tk',os'⟩:=s';have eg:g'=s.gens:=hm.gens;have ed:d'=s.drawn:=hm.drawn;have eo:os'=s.os:=hm.os;subst eg;subst ed;subst eo;refine XS (q _ _ _ ?_ (fun b o e=>?_) (SZ (XI hS')))
 ·have e:acc'.toList=(Zl w a ep es).toList.map (·.2):=by
   refine T5 fun i=>?_;rw[Xq,Xk,Xq];by_cases hi:i<es.size
   ·have hi':i<acc'.size:=by rw[hacc.1];exact hi
    have e1:acc'[i]?=some acc'[i]:=Vq hi';rw[e1];exact(hacc.2 i _ e1).symm
   ·rw[WA (by rw[hacc.1];lia),WA (by lia)];rfl
  rw[e];exact(zal w a ep es).map _
 ·have hb:b<s.heap.objs.size:=XI e;refine hm.heap b o (fun z=>?_) (oth b o (Xe hb) (kp2 b o e));rcases Xz.mp z with z | z
  ·exact V5 _ (z ▸ hb)
  ·have z':b=h1.objs.size:=by simpa using z
   rw[z',z1] at hb;exact absurd hb (Nat.not_lt.mpr (VT _))
end
end ST
open PySem PySem.Spec PyProof.Rows PySem.W
namespace ST
def zf1 (prog:Xi)(w:WS)(d:Addr)(ks:List (Addr×(Int×Int))):HO:=.ext fun h=>∃es ep t,h.get? d=some (qt es ep t)/\es.toList=ks.map (zce (hP prog w))/\Good t (es.map (·.1))/\t.led=(!w.params.followText "set-order")/\t.plain=true
section
variable {prog:Xi}{w:WS}{A:WL}{R:OA->X8->Prop}{I:Addr}{fp wr:List Addr}{G:Array U2->Array U2->Prop}{n:Nat}{P:Nat->X9->Prop}{St:Nat->X8->Prop}{led:Bool}
theorem zk8 {h0:Heap}(W:WalksS prog w A.in1 I fp wr G n P St)(D:Addr)(hDf:D ∉ fp)(hD0:h0.get? D=none)(hw0:∀b∈wr,h0.get? b=none)(ps:List (Int×Int))(hlen:ps.length=n)(hu:A.units+1<Vl)
  (T:Addr->Int×Int->Prop) (hT:∀x p,T x p->zw h0 (.ref x) p) (hP':∀i v,P i v->∃x p,v=.ref x/\ps[i]?=some p/\T x p) (hb:∀p∈ps,InB p) (few:∀l:List (Int×Int),l.Nodup->(∀c∈l,c∈ps)->l.length<=63) :
  ∀(k i:Nat) (s:X8) (ks:List (Addr×(Int×Int))),n-i=k->i<=n->St i s->(∀b o,h0.get? b=some o->s.heap.get? b=some o)->zdj (hP prog w) led s.heap D ks->(∀c,c∈ks.map (·.2)↔c∈ps.take i)->(∀q∈ks,T q.1 q.2) ->
   (∀s' ks',Moved (D::wr) G s s'->zdj (hP prog w) led s'.heap D ks'->(∀c,c∈ks'.map (·.2)↔c∈ps)->(∀q∈ks',T q.1 q.2)->R (.ok (.ret .none)) s') ->
   TV (Xf prog w) A (.builtin "set.update.loop" ⟨[.ref D,.ref I],[]⟩) R s:=by
 have hDw:D ∉ wr:=fun h=>hDf (W.sub _ h);have more:∀b∈wr,b∈D::wr:=fun b hb=>XR _ hb;have pair_up:∀{h:Heap} {x:Addr} {p:Int×Int},(∀b o,h0.get? b=some o->h.get? b=some o)->T x p->zw h (.ref x) p:=fun kp hx=>by
  obtain⟨b,o,m,t,u,e,e1,e2,e3⟩:=hT _ _ hx;exact⟨b,o,m,t,u,e,kp _ _ e1,e2,e3⟩
 have keep_to:∀{s s':X8},Moved wr G s s'->(∀b o,h0.get? b=some o->s.heap.get? b=some o)->∀b o,h0.get? b=some o->s'.heap.get? b=some o:=fun hm kp b o e =>
  hm.heap b o (fun hb=>by
   rw[hw0 b hb] at e;cases e) (kp b o e)
 have set_to:∀{s s':X8} {ks:List (Addr×(Int×Int))},Moved wr G s s'->(∀b o,h0.get? b=some o->s'.heap.get? b=some o)->(∀q∈ks,T q.1 q.2)->zdj (hP prog w) led s.heap D ks->zdj (hP prog w) led s'.heap D ks :=
  fun hm kp hk ⟨⟨es,ep,t,e1,e2⟩,e3,_,e5⟩=>⟨⟨es,ep,t,hm.heap D _ hDw e1,e2⟩,e3,fun q hq=>pair_up kp (hk q hq),e5⟩
 intro k;induction k with
 | zero =>
  intro i s ks hk hi hst kp hS hm' hTk hR;have hin:i=n:=by lia
  subst hin;refine VQ TB ?_;rw[V4 U8 _];show W7 _ A.in1 (RN (.ref I) >>= _) _ _ s;refine Y1 (W.done s _ _ hst fun s' hm=>?_);refine XS (hR s' ks (hm.mono more) (set_to hm (keep_to hm kp) hTk hS) (fun c=>?_) hTk);rw[hm' c,<- hlen,Xy]
 | succ k ih =>
  intro i s ks hk hi hst kp hS hm' hTk hR;have hlt:i<n:=by lia
  refine VQ TB ?_;rw[V4 U8 _];show W7 _ A.in1 (RN (.ref I) >>= _) _ _ s;refine Y1 (W.item i s _ _ hlt hst fun v s' hPv hst' hm=>?_);obtain⟨x,p,rfl,hq,hx⟩:=hP' i v hPv;have kp':=keep_to hm kp;have hS':=set_to hm kp' hTk hS;have hpm:p∈ps:=XY hq;have tk:ps.take (i+1)=ps.take i++[p]:=by
   rw[Xu,hq];rfl
  refine Y1 (VY (zk7 (show A.in1.units<Vl from hu) hS' (pair_up kp' hx) (hb p hpm) (fun hno=>?_) fun b h' ks' hs' hS2 hmem zqw=>?_))
  ·have:=few (p::ks.map (·.2)) (VG.mpr ⟨hno,hS'.nd⟩) fun c hc=>by
    rcases Xz.mp hc with rfl | hc
    ·exact hpm
    ·exact Wo ((hm' c).mp hc)
   rw[XB,ZB] at this;lia
  have kp2:∀b o,h0.get? b=some o->h'.get? b=some o:=fun b o e=>by
   rw[hs'.2 b (fun z=>by
    rw[z,hD0] at e;cases e)]
   exact kp' b o e
  refine XS ⟨UH U8 _,?_⟩;refine ih (i+1) _ ks' (by lia) hlt (W.frame _ s' _ _ hst' (TM _ _) fun b hb o e=>?_) kp2 hS2 (fun c=>?_) (fun q hq'=>?_) fun s'' ks'' hm'' hS'' hc'' hT''=>?_
  ·rw[hs'.2 b (fun z=>hDf (by rw[<- z];exact hb))];exact e
  ·rw[hmem c,hm' c,tk,XO,V0]
  ·rcases zqw q hq' with z | z
   ·exact hTk q z
   ·rw[z];exact hx
  ·refine hR s'' ks'' (Moved.trans W.gtrans ((hm.mono more).then_heap (TM _ _) fun b o hb e=>?_) hm'') hS'' hc'' hT'';rw[hs'.2 b (fun z=>hb (by rw[z];exact XT))];exact e
end
section
variable {prog:Xi}{w:WS}{A:WL}{E:X9->X8->Prop}{s:X8}
theorem znd (a:X9){Q₁:X9->X8->Prop}(h:Q₁ (.ref s.heap.objs.size) { s with heap:=s.heap.push (qt #[] 0 (.fresh 0 0 (!w.params.followText "set-order"))) }) :
  TV (Xf prog w) A (.call (.builtin "set.__new__") ⟨[.type "set",a],[]⟩) (wants Q₁ E) s:=by
 refine codeAny_of_tree ?_;show W7 _ A.in1 (do QQ "set.__new__" ⟨[.type "set",a],[]⟩;Rw (.builtin "set.__new__" ⟨[.type "set",a],[]⟩)) _ _ s;refine Y1 (Of (PySem.F.newCall_set_1 a) (XS ⟨UH Pk _,VQ PySem.F.entry_set_new ?_⟩));rw[V4 Pk _];unfold UR.«set.__new__» Builtin.Frozenset.newClass;have hsub:=sub_set_self;obtain⟨hp,g,d,tk,os⟩:=s;dsimp only;wp_walk;refine P8 (XS ?_);dsimp only;simp only[newObj];refine Y1 (wpAny_alloc (XS ?_));exact XS h
theorem zhp (led:Bool):Good (.fresh 0 0 led) #[]:=⟨.inl rfl,rfl,rfl,fun i j _ h=>absurd h (by simp[SetTable.fresh]),fun i h=>absurd h (by simp[SetTable.fresh]),by simp[SetTable.fresh],fun i h=>absurd h (by simp[SetTable.fresh])⟩
end
end ST
namespace ST
section
variable {prog:Xi}{w:WS}{A:WL}{E:X9->X8->Prop}{s:X8}
set_option maxHeartbeats 8000000 in
theorem zk9 {l:Addr}{its:Array X9}{ps:List (Int×Int)}{T:Addr->Int×Int->Prop}{Q:X9->X8->Prop}(hh:A.handled=none)(hu:A.units+64<Vl)(hl:s.heap.IsList l its)(hlen:ps.length=its.size)
  (hT:∀x p,T x p->zw s.heap (.ref x) p) (hP':∀(i:Nat) (v:X9),its[i]?=some v->∃x p,v=Wz x/\ps[i]?=some p/\T x p) (hb:∀p∈ps,InB p) (few:∀l:List (Int×Int),l.Nodup->(∀c∈l,c∈ps)->l.length<=63)
  (h:∀(h':Heap) (tk:Nat) (ks:List (Addr×(Int×Int))),(∀b o,s.heap.get? b=some o->h'.get? b=some o)->zdj (hP prog w) (!w.params.followText "set-order") h' s.heap.objs.size ks->(∀c,c∈ks.map (·.2)↔c∈ps)->(∀q∈ks,T q.1 q.2)->Q (.ref s.heap.objs.size) { s with heap:=h',toks:=tk }) :
  W7 (Xf prog w) A (call (.type "set") [.ref l]) Q E s:=by
 obtain⟨c,tl,hmro⟩:=PySem.F.called_set.mro;have hmade:=PySem.F.called_set.made;have hsub:=PySem.F.called_set.sub;refine wpAny_call (codeAny_of_tree ?_);show W7 _ _ (callAny (.type "set") _) _ _ _;refine XS ⟨Code.quiet_builtin _ (by decide +kernel),VQ PySem.F.entry_type_call ?_⟩;rw[Around.under_plain (weight_type_call_type "set" [.ref l] []) rfl];have h1:=PySem.F.called_set.notType;have h2:=PySem.F.called_set.canCreate;have hct:=PySem.F.typeCall_set_1 (.ref l);repeat (any_goals (first | assumption | wp_step))
 refine SY (znd (.ref l) (E:=E) (Q₁:=fun obj s₁=>obj=.ref s.heap.objs.size/\s₁={ s with heap:=s.heap.push (qt #[] 0 (.fresh 0 0 (!w.params.followText "set-order"))) }) ⟨rfl,rfl⟩) fun r s₁ hr=>?_;cases r with
 | error e=>exact hr
 | ok fl =>
  cases fl with
  | ret obj =>
   obtain⟨rfl,rfl⟩:=hr;generalize hled:(!w.params.followText "set-order")=led at h ⊢;have hS:(s.heap.push (qt #[] 0 (.fresh 0 0 led))).get? s.heap.objs.size=some (qt #[] 0 (.fresh 0 0 led)):=Xd _ rfl;have hTy:Sc { s with heap:=s.heap.push (qt #[] 0 (.fresh 0 0 led)) } (.ref s.heap.objs.size) "set":=⟨_,hS,rfl⟩;have hli:=PySem.F.called_set.init.lookup;have hbi:=PySem.F.called_set.init.bind (.ref s.heap.objs.size);repeat (any_goals (first | assumption | wp_step))
   refine SY (TX (R:=wants (fun r s₂=>r=.none/\∃h' tk ks,s₂={ s with heap:=h',toks:=tk }/\zdj (hP prog w) led h' s.heap.objs.size ks/\(∀c,c∈ks.map (·.2)↔c∈ps)/\(∀q∈ks,T q.1 q.2) /\
     (∀b o,s.heap.get? b=some o->h'.get? b=some o)) E) PySem.F.called_set.init.plain PySem.F.entry_set_init (check_set_init_1 hTy ?_)) fun r₂ s₂ hr₂=>?_
   ·obtain⟨ol,hol,hcl,nl,hdl⟩:=hl;obtain⟨ocls,odict,odata,oslots⟩:=ol;simp only at hcl hdl;subst hcl;subst hdl;have hol':(s.heap.push (qt #[] 0 (.fresh 0 0 led))).get? l=some { cls:=.type "list",dict:=odict,data:=.seq its nl,slots:=oslots }:=X7 _ hol;have hsls:=PySem.F.sub_list_set;have hslf:=PySem.F.sub_list_frozenset;have hne:(PM "list" == PM "dict")=false:=by decide
    have hl1:(s.heap.push (qt #[] 0 (.fresh 0 0 led))).IsList l its:=⟨_,hol',rfl,nl,rfl⟩;unfold UR.«set.__init__» noKeywords Builtin.Frozenset.updateFrom;unfold qt at hS hTy hol' hl1 ⊢;generalize hPI:pyIter=PI;wp_walk;subst hPI;refine SK hl1 ?_;refine Y1 (wpAny_runValue ?_);have hlS:l<s.heap.objs.size:=XI hol;have zS:(s.heap.push (qt #[] 0 (.fresh 0 0 led))).objs.size=s.heap.objs.size+1:=Vi ..;have hneI:l≠(s.heap.push (qt #[] 0 (.fresh 0 0 led))).objs.size:=by
     rw[zS];exact Xe (Wx hlS)
    have hSf:s.heap.objs.size ∉ [(s.heap.push (qt #[] 0 (.fresh 0 0 led))).objs.size,l]:=by
     rw[zS];simp only[Xz,P7,or_false,not_or];exact⟨Xe (QP _),UN hlS⟩
    refine zk8 (h0:=s.heap) (led:=led) ((Walks.list (by simp[hh]) (s.heap.push (qt #[] 0 (.fresh 0 0 led))).objs.size l hneI its).toS) s.heap.objs.size hSf (UL (XW _)) (fun b hb=>?_) ps hlen (by show A.units+1+1+1<Vl;lia) T hT hP' hb few (its.size-0) 0 _ [] rfl (W4 _)
     ⟨⟨_,Xd _ rfl,rfl,rfl⟩,(hl1.push _)⟩ (fun b o z=>X7 _ (X7 _ z)) ⟨⟨#[],0,.fresh 0 0 led,X7 _ hS,rfl,(by rw[Array.map_empty];exact zhp led),rfl,rfl⟩,Uy,(fun q z=>nomatch z),(fun q z=>nomatch z)⟩ (fun c=>by simp) (fun q z=>nomatch z) ?_
    ·have e:b=(s.heap.push (qt #[] 0 (.fresh 0 0 led))).objs.size:=by simpa using hb
     rw[e,zS];exact UL (VT _)
    ·intro s' ks hm hS' hm' hT';obtain⟨h',g',d',tk',os'⟩:=s';have eg:g'=s.gens:=hm.gens;have ed:d'=s.drawn:=hm.drawn;have eo:os'=s.os:=hm.os;subst eg;subst ed;subst eo;show W7 _ _ _ _ _ _;refine XS ?_;show W7 _ _ (ret Ur) _ _ _;refine XS ⟨rfl,h',tk',ks,rfl,hS',hm',hT',fun b o e=>?_⟩;have lt:=XI e;refine hm.heap b o (fun z=>?_) (X7 _ (X7 _ e));rcases Xz.mp z with z | z
     ·exact V5 _ (z ▸ lt)
     ·have z':b=(s.heap.push (qt #[] 0 (.fresh 0 0 led))).objs.size:=by simpa using z
      rw[z',zS] at lt;exact absurd lt (Nat.not_lt.mpr (VT _))
   ·cases r₂ with
    | error e=>exact hr₂
    | ok fl₂ =>
     cases fl₂ with
     | ret r =>
      obtain⟨rfl,h',tk,ks,rfl,hS',hm',hT',hk'⟩:=hr₂;repeat (any_goals (first | assumption | wp_step))
      exact h _ _ _ hk' hS' hm' hT'
     | _=>exact hr₂.elim
  | _=>exact hr.elim
end
end ST
namespace ST
theorem zch {α β:Type}(f:α->β){l l':List β}(h:l.Perm l'):∀ks:List α,l'=ks.map f->∃js:List α,js.Perm ks/\l=js.map f:=by
 induction h with
 | nil=>exact fun ks e=>⟨ks,List.Perm.refl _,e⟩
 | cons x h ih =>
  intro ks e;cases ks with
  | nil=>simp at e
  | cons k ks =>
   rw[W9] at e;injection e with e1 e2
   obtain⟨js,h1,h2⟩:=ih ks e2;exact⟨k::js,h1.cons k,by rw[W9,e1,h2]⟩
 | swap x y l =>
  intro ks e;match ks,e with
  | [],e=>simp at e
  | [k],e=>simp at e
  | k1::k2::ks,e =>
   rw[W9,W9] at e;injection e with e1 e2
   injection e2 with e2 e3
   exact⟨k2::k1::ks,List.Perm.swap k1 k2 ks,by rw[W9,W9,e1,e2,e3]⟩
 | trans h1 h2 ih1 ih2 =>
  intro ks e;obtain⟨js,a,b⟩:=ih2 ks e;obtain⟨is,c,d⟩:=ih1 js b;exact⟨is,c.trans a,d⟩
section
variable {X:Cx}
theorem zjM (hu:X.A.units+64<Vl)(hh:X.A.handled=none):jM X (.type "set") (fun xs H Q=>∃l us ps,xs=[.ref l]/\SqL X.K H l us/\ju H us ps/\(∀p∈ps,InB p)/\(∀l:List (Int×Int),l.Nodup->(∀c∈l,c∈ps)->l.length<=63) /\
  ∀d ks,H d=none->(∀q∈ks,H q.1=some (.tup [.int q.2.1,.int q.2.2]))->(ks.map (·.2)).Nodup->(∀c,c∈ks.map (·.2)↔c∈ps)->Q (.ref d) (upd H d (zf1 X.prog X.w d ks))):=by
 intro bQ s σ H xs us' Q I r h;obtain⟨l,us,ps,rfl,hq,ht,hb,few,q⟩:=h;obtain⟨u,rfl,ru⟩:=vals1 r;cases ru;obtain⟨its,rv,pl,hz⟩:=I.list hq;have hp:=ju.pairs I ht rv;have hlp:its.length=ps.length:=Paired.length hp;have tw:∀{us:List V} {ps:List (Int×Int)} {its:List X9},ju H us ps->Vals us its->∀(i:Nat) (v:X9),its[i]?=some v->∃x p,v=Wz x/\ps[i]?=some p/\H x=some (.tup [.int p.1,.int p.2]):=by
  intro us ps its h1;induction h1 generalizing its with
  | nil =>
   intro r i v e;cases r;simp at e
  | cons a t ih =>
   intro r i v e;obtain⟨x,rfl,hx⟩:=a;cases r with
   | cons r1 r2 =>
    cases r1;cases i with
    | zero =>
     simp at e;exact⟨x,_,e.symm,rfl,hx⟩
    | succ i =>
     obtain⟨y,p,h1,h2,h3⟩:=ih r2 i v (by simpa using e);exact⟨y,p,h1,by simpa using h2,h3⟩
 refine zk9 (T:=fun x p=>H x=some (.tup [.int p.1,.int p.2])) hh hu pl.isList (by simp[hlp]) (fun x p hx=>?_) (fun i v e=>tw ht rv i v (by simpa using e)) hb few fun h' tk ks kk hS hm hT=>?_
 ·obtain⟨items,rv',tp,_⟩:=I.tuple (SqT.of hx);obtain⟨u1,u2,rfl,⟨t1,rfl⟩,⟨t2,rfl⟩⟩:=vals2 rv';obtain⟨ob,e1,c1,n,d1⟩:=tp;exact⟨x,ob,n,t1,t2,rfl,e1,c1,d1⟩
 ·have hD:H s.heap.objs.size=none:=I.hok.fresh (XW _);obtain⟨es,ep,t,ho,rest⟩:=hS.ex;refine⟨.ref s.heap.objs.size,upd H s.heap.objs.size (zf1 X.prog X.w s.heap.objs.size ks),I.laid (t':=tk) kk (XW _) ⟨⟨es,ep,t,ho,rest⟩,⟨_,ho⟩,fun h1 h2 ⟨es,ep,t,ho,rest⟩ k=>⟨es,ep,t,k _ ho,rest⟩⟩,rfl,q _ _ hD hT hS.nd hm⟩
end
end ST
namespace GS
section
variable {prog:Xi}{w:WS}{A:WL}{E:X9->X8->Prop}{s:X8}{rk:W3->Int}{κ:T3}{a0:Array W3}
def Rk (rk:W3->Int)(xs:Array W3)(i:Nat):Int:=match xs[i]? with
 | some p=>rk p
 | none=>0
theorem Jz {xs ys:Array W3}{i j:Nat}(h:xs[i]?=ys[j]?):Rk rk xs i=Rk rk ys j:=by
 unfold Rk;rw[h]
def Up (rk:W3->Int)(xs:Array W3)(lo hi:Nat):Prop:=∀i j,lo<=i->i<=j->j<hi->Rk rk xs i<=Rk rk xs j
def Tells (prog:Xi)(w:WS)(A:WL)(s:X8)(κ:T3)(rk:W3->Int)(a0:Array W3):Prop :=
 ∀x∈a0.toList,∀y∈a0.toList,∀C:Bool->X8->Prop,C (decide (rk x<rk y)) s->W7 (Xf prog w) A (keyLt' κ x.1 y.1) C (fun _ _=>False) s
structure Ok (κ:T3)(a0:Array W3)(st:WH):Prop where
 perm:(Xm st).Perm a0
 kind:kindOf st=κ
 good:S1 st=none
theorem Ok.size {st:WH}(h:Ok κ a0 st):(Xm st).size=a0.size:=h.perm.size_eq
theorem Ok.at {st:WH}(h:Ok κ a0 st){i:Nat}(hi:i<a0.size):∃x,(Xm st)[i]?=some x/\x∈a0.toList/\Rk rk (Xm st) i=rk x:=by
 have hi':i<(Xm st).size:=by rw[h.size];exact hi
 have e:(Xm st)[i]?=some (Xm st)[i]:=getElem?_pos _ i hi';refine⟨(Xm st)[i],e,(UY.mp h.perm).mem_iff.mp (by simp),?_⟩;unfold Rk;rw[e]
theorem zla {st:WH}{x y:W3}{Q:Option Bool->WH->Prop}(T:Tells prog w A s κ rk a0)(hk:kindOf st=κ)(hx:x∈a0.toList)(hy:y∈a0.toList)(h:Q (some (decide (rk x<rk y))) st):wpS (Xf prog w) A E s (lt' x y) Q st:=by
 rw[lt'_eq];refine XD (Se ?_);rw[hk];refine XD (Rb (Ro (Wg (T x hx y hy (fun b s'=>s'=s/\b=decide (rk x<rk y)) ⟨rfl,rfl⟩) (fun b s' hb=>⟨hb.1,?_⟩) fun _ _ hF=>hF.elim)));rw[hb.2];exact Xo h
theorem qX {st:WH}{xs:Array W3}{i:Nat}{x:W3}{Q:W3->WH->Prop}(e:xs[i]?=some x)(h:Q x st):wpS (Xf prog w) A E s (elem' xs i) Q st:=by
 rw[elem'_eq,e];exact Xo h
theorem zci {st:WH}{i j:Nat}{Q:Option Bool->WH->Prop}(T:Tells prog w A s κ rk a0)(O:Ok κ a0 st)(hi:i<a0.size)(hj:j<a0.size)(h:Q (some (decide (Rk rk (Xm st) i<Rk rk (Xm st) j))) st):wpS (Xf prog w) A E s (ltAt' i j) Q st:=by
 obtain⟨x,e1,m1,r1⟩:=O.at (rk:=rk) hi;obtain⟨y,e2,m2,r2⟩:=O.at (rk:=rk) hj;rw[r1,r2] at h;rw[ltAt'_eq];refine XD (Se ?_);exact XD (qX e1 (XD (qX e2 (zla T O.kind m1 m2 h))))
structure Step (κ:T3)(a0:Array W3)(lo:Nat)(st st':WH):Prop where
 ok:Ok κ a0 st'
 pend:WG st'=WG st
 low:∀i:Nat,i<lo->(Xm st')[i]?=(Xm st)[i]?
theorem Step.refl {lo:Nat}{st:WH}(O:Ok κ a0 st):Step κ a0 lo st st:=⟨O,rfl,fun _ _=>rfl⟩
theorem zaS {xs:Array W3}{i j:Nat}(hj:j<=xs.size)(k:Nat):Rk rk (mirror xs i j ((j-i)/2)) k=if i<=k/\k<j then Rk rk xs (i+j-1-k) else Rk rk xs k:=by
 have e:=OO (i:=i) hj k;by_cases h1:i<=k/\k<j
 ·rw[bw h1] at e ⊢;exact Jz e
 ·rw[bq h1] at e ⊢;exact Jz e
theorem jR {xs:Array W3}{i j:Nat}(hj:j<=xs.size)(heq:∀k,i<=k->k<j->Rk rk xs k=Rk rk xs (j-1))(k:Nat):Rk rk (mirror xs i j ((j-i)/2)) k=Rk rk xs k:=by
 rw[zaS hj];split
 ·rw[heq _ (by lia) (by lia),heq k (by lia) (by lia)]
 ·rfl
theorem Step.mirror {lo i j:Nat}{st st':WH}(x:Step κ a0 lo st st')(hi:lo<=i)(hj:j<=a0.size):Step κ a0 lo st (setArr st' (mirror (Xm st') i j ((j-i)/2))):=by
 refine⟨⟨(mirror_perm _ _ _ _).trans x.ok.perm,x.ok.kind,x.ok.good⟩,x.pend,fun k hk=>?_⟩;show (PyProof.Rows.mirror (Xm st') i j ((j-i)/2))[k]?=_;rw[OO (by rw[x.ok.size];exact hj),bq (by lia)];exact x.low k hk
theorem ziJ {st:WH}{i j:Nat}{Q:Unit->WH->Prop}(h:Q () (setArr st (mirror (Xm st) i j ((j-i)/2)))):wpS (Xf prog w) A E s (Sb i j) Q st:=by
 rw[reverseSlice'_eq];exact Tf h
def up1 (lo a nrem:Nat):StateT WH Sem AscSt :=
 forIn [a:nrem] ((none,a):AscSt) fun _ c=>do
  let x <- ltAt' (lo+c.snd) (lo+c.snd-1)
  match x with
  | some b=>if b=true then pure (ForInStep.done (none,c.snd)) else pure (Vu (none,c.snd+1))
  | _=>pure (ForInStep.done (some none,c.snd))
def zlb (lo n nrem:Nat):StateT WH Sem (Option Nat):=do
 Sb lo (lo+n)
 let c <- up1 lo n nrem
 match c.fst with
 | some r=>pure r
 | none=>pure (some c.snd)
def ziK (lo n nrem:Nat):StateT WH Sem DescSt :=
 forIn [n:nrem] ((none,n,0):DescSt) fun _ c=>do
  let x <- ltAt' (lo+c.snd.fst) (lo+c.snd.fst-1)
  match x with
  | some b =>
   if b=true then
    if c.snd.snd>0 then do
     Sb (lo+c.snd.fst-(c.snd.snd+1)) (lo+c.snd.fst)
     pure (Vu (none,c.snd.fst+1,0))
    else pure (Vu (none,c.snd.fst+1,0))
   else do
    let x <- ltAt' (lo+c.snd.fst-1) (lo+c.snd.fst)
    match x with
    | some b =>
     if b=true then pure (ForInStep.done (none,c.snd.fst,c.snd.snd))
     else pure (Vu (none,c.snd.fst+1,c.snd.snd+1))
    | _=>pure (ForInStep.done (some none,c.snd.fst,c.snd.snd))
  | _=>pure (ForInStep.done (some none,c.snd.fst,c.snd.snd))
def part2 (lo n nrem:Nat):StateT WH Sem (Option Nat):=do
 liftM (rule "list.sort.descending-run")
 let c <- ziK lo (n+1) nrem
 match c.fst with
 | some r=>pure r
 | none =>
  if c.snd.snd>0 then do
   Sb (lo+c.snd.fst-(c.snd.snd+1)) (lo+c.snd.fst)
   zlb lo c.snd.fst nrem
  else zlb lo c.snd.fst nrem
theorem run_eq (lo nrem:Nat):countRun' lo nrem=(do
  let c <- up1 lo 1 nrem
  match c.fst with
  | some r=>pure r
  | none =>
   if (c.snd==nrem)=true then pure (some c.snd)
   else if c.snd>1 then do
    let x <- ltAt' lo (lo+c.snd-1)
    match x with
    | some b=>if b=true then pure (some c.snd) else do
      Sb lo (lo+c.snd)
      part2 lo c.snd nrem
    | _=>pure none
   else part2 lo c.snd nrem):=by
 rw[countRun'_eq];unfold part2 zlb ziK up1;refine bind_congr fun c=>?_;obtain⟨r,n⟩:=c;cases r with
 | some r=>rfl
 | none =>
  dsimp only;split
  ·rfl
  ·split
   ·refine bind_congr fun x=>?_;cases x with
    | none=>rfl
    | some b =>
     dsimp only;split
     ·rfl
     ·refine bind_congr fun _=>bind_congr fun _=>bind_congr fun c2=>?_;obtain⟨r2,n2,q2⟩:=c2;cases r2 with
      | some r2=>rfl
      | none =>
       dsimp only;split
       ·refine bind_congr fun _=>bind_congr fun _=>bind_congr fun c3=>?_;obtain⟨r3,n3⟩:=c3;cases r3<;>rfl
       ·refine bind_congr fun _=>bind_congr fun c3=>?_;obtain⟨r3,n3⟩:=c3;cases r3<;>rfl
   ·refine bind_congr fun _=>bind_congr fun c2=>?_;obtain⟨r2,n2,q2⟩:=c2;cases r2 with
    | some r2=>rfl
    | none =>
     dsimp only;split
     ·refine bind_congr fun _=>bind_congr fun _=>bind_congr fun c3=>?_;obtain⟨r3,n3⟩:=c3;cases r3<;>rfl
     ·refine bind_congr fun _=>bind_congr fun c3=>?_;obtain⟨r3,n3⟩:=c3;cases r3<;>rfl
end
end GS
namespace GS
section
variable {prog:Xi}{w:WS}{A:WL}{E:X9->X8->Prop}{s:X8}{rk:W3->Int}{κ:T3}{a0:Array W3}
def Down (rk:W3->Int)(xs:Array W3)(lo n:Nat):Prop:=∀i j,i<=j->j<n->Rk rk xs (lo+j)<=Rk rk xs (lo+i)
theorem zof {st:WH}{lo a nrem:Nat}{Q:AscSt->WH->Prop}(T:Tells prog w A s κ rk a0)(O:Ok κ a0 st)(hn:lo+nrem<=a0.size)(ha:1<=a)(han:a<=nrem)(hs:Up rk (Xm st) lo (lo+a))
  (h:∀n,a<=n->n<=nrem->Up rk (Xm st) lo (lo+n)->(n=nrem\/Rk rk (Xm st) (lo+n)<Rk rk (Xm st) (lo+n-1))->Q (none,n) st):wpS (Xf prog w) A E s (up1 lo a nrem) Q st:=by
 unfold up1;refine V2 (I:=fun x c st'=>st'=st/\c=(none,x)/\Up rk (Xm st) lo (lo+x)) ?step ?fin ⟨rfl,rfl,hs⟩
 case fin =>
  rintro c st' ⟨rfl,rfl,hs'⟩
  rw[show max a nrem=nrem by lia] at hs' ⊢
  exact h nrem han (XW _) hs' (.inl rfl)
 case step =>
  rintro x c st' hax hxn ⟨rfl,rfl,hs'⟩
  dsimp only
  refine XD (zci T O (by lia) (by lia) ?_)
  by_cases hless:Rk rk (Xm st') (lo+x)<Rk rk (Xm st') (lo+x-1)
  ·simp only[hless,decide_true,if_true];exact Xo (h x hax (by lia) hs' (.inr hless))
  ·simp only[hless,decide_false,Wh,if_false];refine Xo ⟨rfl,rfl,fun i j hi hij hj=>?_⟩;by_cases hjx:j<lo+x
   ·exact hs' i j hi hij hjx
   ·obtain rfl:j=lo+x:=by lia
    by_cases hi':i=lo+x
    ·subst hi';exact U5 _
    ·exact Vz (hs' i (lo+x-1) hi (by lia) (by lia)) (Ow.mp hless)
theorem zlc {st0 st:WH}{lo n nrem:Nat}{Q:Option Nat->WH->Prop}(T:Tells prog w A s κ rk a0)(S:Step κ a0 lo st0 st)(hn:lo+nrem<=a0.size)(h1:1<=n)(hnn:n<=nrem)(hs:Down rk (Xm st) lo n)
  (h:∀m st',Step κ a0 lo st0 st'->1<=m->m<=nrem->Up rk (Xm st') lo (lo+m)->Q (some m) st'):wpS (Xf prog w) A E s (zlb lo n nrem) Q st:=by
 unfold zlb;refine XD (ziJ ?_);have S':=S.mirror (i:=lo) (j:=lo+n) (XW _) (by lia);refine XD (zof T S'.ok hn h1 hnn ?_ fun m hm1 hm2 hsm _=>Xo (h m _ S' (by lia) hm2 hsm));intro i j hi hij hj;have hsz:lo+n<=(Xm st).size:=by
  rw[S.ok.size];lia
 show Rk rk (mirror (Xm st) lo (lo+n) ((lo+n-lo)/2)) i<=Rk rk (mirror (Xm st) lo (lo+n) ((lo+n-lo)/2)) j;rw[zaS hsz,zaS hsz,bw (by lia),bw (by lia)];have:=hs (lo+n-1-j) (lo+n-1-i) (by lia) (by lia);rw[show lo+(lo+n-1-j)=lo+(lo+n)-1-j by lia,show lo+(lo+n-1-i)=lo+(lo+n)-1-i by lia] at this;exact this
theorem zne {st0 st:WH}{lo n nrem:Nat}{Q:DescSt->WH->Prop}(T:Tells prog w A s κ rk a0)(S:Step κ a0 lo st0 st)(hn:lo+nrem<=a0.size)(h1:1<=n)(hnn:n<=nrem)(hs:Down rk (Xm st) lo n)
  (h:∀m q st',Step κ a0 lo st0 st'->n<=m->m<=nrem->Down rk (Xm st') lo m->q+1<=m->(∀i,m-(q+1)<=i->i<m->Rk rk (Xm st') (lo+i)=Rk rk (Xm st') (lo+(m-1)))->Q (none,m,q) st'):wpS (Xf prog w) A E s (ziK lo n nrem) Q st:=by
 unfold ziK;refine V2 (I:=fun x c st'=>∃q,c=(none,x,q)/\Step κ a0 lo st0 st'/\Down rk (Xm st') lo x/\q+1<=x /\
   (∀i,x-(q+1)<=i->i<x->Rk rk (Xm st') (lo+i)=Rk rk (Xm st') (lo+(x-1)))) ?step ?fin ⟨0,rfl,S,hs,by lia,fun i h1 h2=>by congr 1;lia⟩
 case fin =>
  rintro c st' ⟨q,rfl,S',hs',hq,he⟩
  rw[show max n nrem=nrem by lia] at hs' hq he ⊢
  exact h nrem q st' S' hnn (XW _) hs' hq he
 case step =>
  rintro x c st' hax hxn ⟨q,rfl,S',hs',hq,he⟩
  dsimp only
  have hsz:lo+x<=(Xm st').size:=by
   rw[S'.ok.size];lia
  refine XD (zci T S'.ok (by lia) (by lia) ?_)
  by_cases hless:Rk rk (Xm st') (lo+x)<Rk rk (Xm st') (lo+x-1)
  ·simp only[hless,decide_true,if_true];have step1:∀xs:Array W3,(∀k,Rk rk xs k=Rk rk (Xm st') k)->Down rk xs lo (x+1):=by
    intro xs hk i j hij hj;rw[hk,hk];by_cases hjx:j<x
    ·exact hs' i j hij hjx
    ·obtain rfl:j=x:=by lia
     by_cases hi':i=j
     ·subst hi';exact U5 _
     ·have a1:=hs' i (j-1) (by lia) (by lia);rw[show lo+(j-1)=lo+j-1 by lia] at a1;exact Vz (V1 hless) a1
   by_cases hq0:q>0
   ·rw[bw hq0];refine XD (ziJ (Xo ⟨0,rfl,S'.mirror (by lia) (by lia),step1 _ (jR hsz fun k k1 k2=>?_),by lia,fun i h1 h2=>by congr 1;lia⟩));have a1:=he (k-lo) (by lia) (by lia);rw[show lo+(k-lo)=k by lia,show lo+(x-1)=lo+x-1 by lia] at a1;exact a1
   ·rw[bq hq0];exact Xo ⟨0,rfl,S',step1 _ (fun _=>rfl),by lia,fun i h1 h2=>by congr 1;lia⟩
  ·simp only[hless,decide_false,Wh,if_false];refine XD (zci T S'.ok (by lia) (by lia) ?_);by_cases hmore:Rk rk (Xm st') (lo+x-1)<Rk rk (Xm st') (lo+x)
   ·simp only[hmore,decide_true,if_true];exact Xo (h x q st' S' hax (by lia) hs' hq he)
   ·simp only[hmore,decide_false,Wh,if_false];have heqx:Rk rk (Xm st') (lo+x)=Rk rk (Xm st') (lo+(x-1)):=by
     rw[show lo+(x-1)=lo+x-1 by lia];lia
    refine Xo ⟨q+1,rfl,S',fun i j hij hj=>?_,by lia,fun i h1 h2=>?_⟩
    ·by_cases hjx:j<x
     ·exact hs' i j hij hjx
     ·obtain rfl:j=x:=by lia
      by_cases hi':i=j
      ·subst hi';exact U5 _
      ·rw[heqx];exact hs' i (j-1) (by lia) (by lia)
    ·rw[show x+1-1=x by lia];by_cases hix:i=x
     ·subst hix;rfl
     ·rw[heqx];exact he i (by lia) (by lia)
theorem ziL {st0 st:WH}{lo n nrem:Nat}{Q:Option Nat->WH->Prop}(T:Tells prog w A s κ rk a0)(S:Step κ a0 lo st0 st)(hn:lo+nrem<=a0.size)(hnn:n+1<=nrem)(hs:Down rk (Xm st) lo (n+1))
  (h:∀m st',Step κ a0 lo st0 st'->1<=m->m<=nrem->Up rk (Xm st') lo (lo+m)->Q (some m) st'):wpS (Xf prog w) A E s (part2 lo n nrem) Q st:=by
 unfold part2;refine XD (Rb (Uo ⟨rfl,?_⟩));refine XD (zne T S hn (by lia) hnn hs fun m q st' S' hm1 hm2 hs' hq he=>?_);dsimp only;have hsz:lo+m<=(Xm st').size:=by
  rw[S'.ok.size];lia
 by_cases hq0:q>0
 ·rw[bw hq0];refine XD (ziJ (zlc T (S'.mirror (by lia) (by lia)) hn (by lia) hm2 ?_ h));intro i j hij hj;show Rk rk (mirror (Xm st') _ _ _) (lo+j)<=Rk rk (mirror (Xm st') _ _ _) (lo+i);have same:∀k,lo+m-(q+1)<=k->k<lo+m->Rk rk (Xm st') k=Rk rk (Xm st') (lo+m-1):=fun k k1 k2=>by
   have a1:=he (k-lo) (by lia) (by lia);rw[show lo+(k-lo)=k by lia,show lo+(m-1)=lo+m-1 by lia] at a1;exact a1
  rw[jR hsz same,jR hsz same];exact hs' i j hij hj
 ·rw[bq hq0];exact zlc T S' hn (by lia) hm2 hs' h
theorem zqx {st:WH}{lo nrem:Nat}{Q:Option Nat->WH->Prop}(T:Tells prog w A s κ rk a0)(O:Ok κ a0 st)(hn:lo+nrem<=a0.size)(h1:1<=nrem)
  (h:∀m st',Step κ a0 lo st st'->1<=m->m<=nrem->Up rk (Xm st') lo (lo+m)->Q (some m) st'):wpS (Xf prog w) A E s (countRun' lo nrem) Q st:=by
 have S:=Step.refl (lo:=lo) O;rw[run_eq];refine XD (zof T O hn (XW 1) h1 (fun i j hi hij hj=>by
  obtain rfl:i=j:=by lia
  exact U5 _) fun n hn1 hn2 hsn hor=>?_)
 dsimp only;by_cases hnn:n=nrem
 ·rw[bw (by simpa using hnn)];exact Xo (h n st S hn1 hn2 hsn)
 ·rw[bq (by simpa using hnn)];have hlt:Rk rk (Xm st) (lo+n)<Rk rk (Xm st) (lo+n-1):=hor.resolve_left hnn;have hsz:lo+n<=(Xm st).size:=by
   rw[O.size];lia
  by_cases hgt:n>1
  ·rw[bw hgt];refine XD (zci T O (by lia) (by lia) ?_);by_cases hrose:Rk rk (Xm st) lo<Rk rk (Xm st) (lo+n-1)
   ·simp only[hrose,decide_true,if_true];exact Xo (h n st S hn1 hn2 hsn)
   ·simp only[hrose,decide_false,Wh,if_false];have hall:∀k,lo<=k->k<lo+n->Rk rk (Xm st) k=Rk rk (Xm st) (lo+n-1):=by
     intro k k1 k2;have a1:=hsn lo k (XW _) k1 k2;have a2:=hsn k (lo+n-1) k1 (by lia) (by lia);lia
    refine XD (ziJ (ziL T (S.mirror (XW _) (by lia)) hn (by lia) ?_ h));intro i j hij hj;show Rk rk (mirror (Xm st) _ _ _) (lo+j)<=Rk rk (mirror (Xm st) _ _ _) (lo+i);rw[jR hsz hall,jR hsz hall];by_cases hjn:j<n
    ·rw[hall (lo+i) (by lia) (by lia),hall (lo+j) (by lia) (by lia)];exact U5 _
    ·obtain rfl:j=n:=by lia
     by_cases hi':i=j
     ·subst hi';exact U5 _
     ·rw[hall (lo+i) (by lia) (by lia)];exact V1 hlt
  ·rw[bq hgt];obtain rfl:n=1:=by lia
   refine ziL T S hn (by lia) ?_ h;intro i j hij hj;by_cases hi':i=j
   ·subst hi';exact U5 _
   ·obtain rfl:i=0:=by lia
    obtain rfl:j=1:=by lia
    rw[Nat.add_sub_cancel] at hlt;exact V1 hlt
theorem zdT {xs:Array W3}{src d:Nat}(hs:src<xs.size)(hd:d<=src)(k:Nat):Rk rk (bubble xs src d) k=if k=src-d then Rk rk xs src else if src-d<k/\k<=src then Rk rk xs (k-1) else Rk rk xs k:=by
 have e:=getElem?_bubble hs d hd k;by_cases h1:k=src-d
 ·rw[bw h1] at e ⊢;exact Jz e
 ·rw[bq h1] at e ⊢;by_cases h2:src-d<k/\k<=src
  ·rw[bw h2] at e ⊢;exact Jz e
  ·rw[bq h2] at e ⊢;exact Jz e
theorem zqy {st:WH}{lo n ok:Nat}{Q:Bool->WH->Prop}(T:Tells prog w A s κ rk a0)(O:Ok κ a0 st)(hn:lo+n<=a0.size)(hok:ok<=n)(hs:Up rk (Xm st) lo (lo+ok))
  (h:∀st',Step κ a0 lo st st'->Up rk (Xm st') lo (lo+n)->Q true st'):wpS (Xf prog w) A E s (binarySort' lo n ok) Q st:=by
 rw[binarySort'_eq];refine XD (UA (V2 (I:=fun k c st'=>c=(none,())/\Step κ a0 lo st st'/\Up rk (Xm st') lo (lo+min k n))
  (Q:=fun c st'=>c=(none,())/\Step κ a0 lo st st'/\Up rk (Xm st') lo (lo+n)) ?step ?fin ?init) ?post)
 case post =>
  rintro c st' ⟨rfl,S',hs'⟩
  exact Xo (h st' S' hs')
 case init =>
  refine⟨rfl,Step.refl O,fun i j hi hij hj=>?_⟩
  by_cases h1:ok=0
  ·obtain rfl:i=j:=by lia
   exact U5 _
  ·exact hs i j hi hij (by lia)
 case fin =>
  rintro c st' ⟨hc,S',hs'⟩
  refine⟨hc,S',?_⟩
  rwa [show min (max (max ok 1) n) n=n by lia] at hs'
 case step =>
  rintro k c st' hak hkn ⟨rfl,S',hs'⟩
  rw[show min k n=k by lia] at hs'
  have O':=S'.ok
  have hk:lo+k<a0.size:=by lia
  refine XD (UA (V2 (I:=fun x c st''=>st''=st'/\∃l r,c=(none,l,r)/\l<=r/\r<=k/\r-l<=k-x /\
    (∀i,i<l->Rk rk (Xm st') (lo+i)<=Rk rk (Xm st') (lo+k))/\(∀i,r<=i->i<k->Rk rk (Xm st') (lo+k)<Rk rk (Xm st') (lo+i)))
   (Q:=fun c st''=>st''=st'/\∃l r,c=(none,l,r)/\l<=k /\
    (∀i,i<l->Rk rk (Xm st') (lo+i)<=Rk rk (Xm st') (lo+k))/\(∀i,l<=i->i<k->Rk rk (Xm st') (lo+k)<Rk rk (Xm st') (lo+i))) ?istep ?ifin ?iinit) ?ipost)
  case iinit=>exact⟨rfl,0,k,rfl,by lia,by lia,by lia,fun i hi=>by lia,fun i h1 h2=>by lia⟩
  case ifin =>
   rintro c st'' ⟨rfl,l,r,rfl,hlr,hrk,hm,hlo,hhi⟩
   obtain rfl:l=r:=by lia
   exact⟨rfl,l,l,rfl,hrk,hlo,hhi⟩
  case istep =>
   rintro x c st'' _ hxk ⟨rfl,l,r,rfl,hlr,hrk,hm,hlo,hhi⟩
   dsimp only
   by_cases hge:l >= r
   ·rw[bw hge];obtain rfl:l=r:=by lia
    exact Xo ⟨rfl,l,l,rfl,hrk,hlo,hhi⟩
   ·rw[bq hge];refine XD (zci T O' hk (by lia) ?_);by_cases hless:Rk rk (Xm st'') (lo+k)<Rk rk (Xm st'') (lo+(l+r)/2)
    ·simp only[hless,decide_true,if_true];refine Xo ⟨rfl,l,(l+r)/2,rfl,by lia,by lia,by lia,hlo,fun i h1 h2=>?_⟩;exact Int.lt_of_lt_of_le hless (hs' _ _ (by lia) (by lia) (by lia))
    ·simp only[hless,decide_false,Wh,if_false];refine Xo ⟨rfl,(l+r)/2+1,r,rfl,by lia,by lia,by lia,fun i h1=>?_,hhi⟩;exact Vz (hs' (lo+i) (lo+(l+r)/2) (by lia) (by lia) (by lia)) (Ow.mp hless)
  case ipost =>
   rintro c st'' ⟨rfl,l,r,rfl,hlk,hlo,hhi⟩
   show wpS _ _ _ _ (do moveDown' (lo+k) (lo+l);pure (Vu (none,()))) _ _
   rw[moveDown'_eq]
   have hks:lo+k<(Xm st'').size:=by
    rw[O'.size];exact hk
   refine XD (Tf (Xo ⟨rfl,⟨⟨(bubble_perm _ _ _).trans O'.perm,O'.kind,O'.good⟩,S'.pend,fun i hi=>?_⟩,?_⟩))
   ·show (bubble (Xm st'') (lo+k) (lo+k-(lo+l)))[i]?=_;rw[getElem?_bubble hks _ (by lia),bq (by lia),bq (by lia)];exact S'.low i hi
   ·rw[show min (k+1) n=k+1 by lia];intro i j hi hij hj;show Rk rk (bubble (Xm st'') (lo+k) (lo+k-(lo+l))) i<=Rk rk (bubble (Xm st'') (lo+k) (lo+k-(lo+l))) j;rw[zdT hks (by lia),zdT hks (by lia),show lo+k-(lo+k-(lo+l))=lo+l by lia];have up:∀a b,lo<=a->a<=b->b<lo+k->Rk rk (Xm st'') a<=Rk rk (Xm st'') b:=hs';have low:∀a,lo<=a->a<lo+l->Rk rk (Xm st'') a<=Rk rk (Xm st'') (lo+k):=fun a a1 a2=>by
     have:=hlo (a-lo) (by lia);rwa [show lo+(a-lo)=a by lia] at this
    have high:∀a,lo+l<=a->a<lo+k->Rk rk (Xm st'') (lo+k)<Rk rk (Xm st'') a:=fun a a1 a2=>by
     have:=hhi (a-lo) (by lia) (by lia);rwa [show lo+(a-lo)=a by lia] at this
    repeat' split
    all_goals first
     | (exfalso;lia)
     | exact U5 _
     | exact low _ (by lia) (by lia)
     | exact V1 (high _ (by lia) (by lia))
     | exact up _ _ (by lia) (by lia) (by lia)
end
end GS
namespace GS
def gallop':Bool->W3->Array W3->Nat->Nat->Nat->StateT WH Sem (Option Nat):=sortPriv% PySem.Builtin.gallop
def mergeLo':Array W3->Array W3->StateT WH Sem (Array W3):=sortPriv% PySem.Builtin.mergeLo
def mergeHi':Array W3->Array W3->StateT WH Sem (Array W3):=sortPriv% PySem.Builtin.mergeHi
section
variable {prog:Xi}{w:WS}{A:WL}{E:X9->X8->Prop}{s:X8}{rk:W3->Int}{κ:T3}{a0:Array W3}
def bey (rk:W3->Int)(left:Bool)(key x:W3):Bool:=if left then decide (rk x<rk key) else !decide (rk key<rk x)
theorem zf2 {st:WH}{left:Bool}{key:W3}{arr:Array W3}{base n hint:Nat}{Q:Option Nat->WH->Prop}(T:Tells prog w A s κ rk a0)(hk:kindOf st=κ)(hkey:key∈a0.toList)(b:Nat->Bool)
  (he:∀i,i<n->∃x,arr[base+i]?=some x/\x∈a0.toList/\b i=bey rk left key x) (mono:∀i j,i<=j->j<n->b j=true->b i=true) (hh:hint<n)
  (h:∀k,k<=n->(∀i,i<k->b i=true)->(∀i,k<=i->i<n->b i=false)->Q (some k) st):wpS (Xf prog w) A E s (gallop' left key arr base n hint) Q st:=by
 have one:∀{i:Nat} {Q':Option Bool->WH->Prop},i<n->Q' (some (b i)) st->wpS (Xf prog w) A E s (do
   let x <- elem' arr (base+i)
   if left=true then lt' x key
    else do
     let r <- lt' key x
     pure (Option.map (fun x=>!x) r)) Q' st:=by
  intro i Q' hi hq;obtain⟨x,e1,e2,e3⟩:=he i hi;refine XD (qX e1 ?_);unfold bey at e3;cases left with
  | true =>
   rw[bw rfl] at e3 ⊢;rw[e3] at hq;exact zla T hk e2 hkey hq
  | false =>
   rw[bq XV] at e3 ⊢;rw[e3] at hq;exact XD (zla T hk hkey e2 (Xo hq))
 have last:∀{f:Nat->Option (Option Nat)×Nat×Nat->StateT WH Sem (ForInStep (Option (Option Nat)×Nat×Nat))} {g:Option (Option Nat)×Nat×Nat->StateT WH Sem (Option Nat)},
   (∀x l r (R:ForInStep (Option (Option Nat)×Nat×Nat)->WH->Prop),l >= r->R (.done (none,l,r)) st->wpS (Xf prog w) A E s (f x (none,l,r)) R st) ->
   (∀x l r (R:ForInStep (Option (Option Nat)×Nat×Nat)->WH->Prop),l<r->r<=n->R (.yield (if b (l+(r-l)/2)=true then (none,l+(r-l)/2+1,r) else (none,l,l+(r-l)/2))) st->wpS (Xf prog w) A E s (f x (none,l,r)) R st) ->
   (∀l r,Q (some r) st->wpS (Xf prog w) A E s (g (none,l,r)) Q st) ->
   ∀(lo hi:Nat),lo<=hi->hi<=n->(∀i,i<lo->b i=true)->(∀i,hi<=i->i<n->b i=false)->wpS (Xf prog w) A E s (forIn [:n] ((none,lo,hi):Option (Option Nat)×Nat×Nat) f >>= g) Q st:=by
  intro f g f1 f2 g1 lo hi h1 h2 h3 h4;refine XD (UA (V2 (I:=fun x c st'=>st'=st/\∃l r,c=(none,l,r)/\l<=r/\r<=n/\r-l<=n-x/\(∀i,i<l->b i=true)/\(∀i,r<=i->i<n->b i=false))
   (Q:=fun c st'=>st'=st/\∃l,c=(none,l,l)/\l<=n/\(∀i,i<l->b i=true)/\(∀i,l<=i->i<n->b i=false)) ?step ?fin ⟨rfl,lo,hi,rfl,h1,h2,by lia,h3,h4⟩) ?post)
  case fin =>
   rintro c st' ⟨rfl,l,r,rfl,a1,a2,a3,a4,a5⟩
   obtain rfl:l=r:=by lia
   exact⟨rfl,l,rfl,a2,a4,a5⟩
  case post =>
   rintro c st' ⟨rfl,l,rfl,a2,a4,a5⟩
   exact g1 l l (h l a2 a4 a5)
  case step =>
   rintro x c st' _ hx ⟨rfl,l,r,rfl,a1,a2,a3,a4,a5⟩
   by_cases hge:l >= r
   ·obtain rfl:l=r:=by lia
    exact f1 x l l _ hge ⟨rfl,l,rfl,a2,a4,a5⟩
   ·refine f2 x l r _ (by lia) a2 ?_;cases hb:b (l+(r-l)/2) with
    | true =>
     rw[bw rfl];exact⟨rfl,l+(r-l)/2+1,r,rfl,by lia,a2,by lia,fun i hi=>mono i _ (by lia) (by lia) hb,a5⟩
    | false =>
     rw[bq XV];refine⟨rfl,l,l+(r-l)/2,rfl,by lia,by lia,by lia,a4,fun i i1 i2=>?_⟩;cases hbi:b i with
     | false=>rfl
     | true =>
      have:=mono _ i i1 i2 hbi;rw[hb] at this;cases this
 refine XD (one hh ?_);dsimp only;cases hb:b hint with
 | true =>
  rw[bw rfl];refine XD (UA (V2 (I:=fun x c st'=>st'=st/\∃l o,c=(none,l,o)/\l<o/\hint+l<n/\b (hint+l)=true/\x+1<=o)
   (Q:=fun c st'=>st'=st/\∃l o,c=(none,l,o)/\l<o/\hint+l<n/\b (hint+l)=true/\(o >= n-hint\/(hint+o<n/\b (hint+o)=false))) ?step ?fin ⟨rfl,0,1,rfl,by lia,hh,hb,by lia⟩) ?post)
  case fin =>
   rintro c st' ⟨rfl,l,o,rfl,a1,a2,a3,a4⟩
   exact⟨rfl,l,o,rfl,a1,a2,a3,.inl (by lia)⟩
  case step =>
   rintro x c st' _ hx ⟨rfl,l,o,rfl,a1,a2,a3,a4⟩
   dsimp only
   by_cases hge:o >= n-hint
   ·rw[bw hge];exact Xo ⟨rfl,l,o,rfl,a1,a2,a3,.inl hge⟩
   ·rw[bq hge];refine XD (one (by lia) ?_);dsimp only;cases hbo:b (hint+o) with
    | false =>
     rw[bw (by decide)];exact Xo ⟨rfl,l,o,rfl,a1,a2,a3,.inr ⟨by lia,hbo⟩⟩
    | true =>
     rw[bq (by decide)];exact Xo ⟨rfl,o,2*o+1,rfl,by lia,by lia,hbo,by lia⟩
  case post =>
   rintro c st' ⟨rfl,l,o,rfl,a1,a2,a3,a4⟩
   refine last (fun x l r R hge hR=>?_) (fun x l r R hlt hr hR=>?_) (fun l r hq=>Xo hq) (hint+l+1) (hint+min o (n-hint)) (by lia) (by lia) (fun i hi=>mono i (hint+l) (by lia) a2 a3) fun i i1 i2=>?_
   ·dsimp only;rw[bw hge];exact Xo hR
   ·dsimp only;rw[bq (by lia)];refine XD (one (by lia) ?_);dsimp only;cases hbm:b (l+(r-l)/2) with
    | true =>
     rw[hbm,bw rfl] at hR;rw[bw rfl];exact Xo hR
    | false =>
     rw[hbm,bq XV] at hR;rw[bq XV];exact Xo hR
   ·rcases a4 with a4 | ⟨a4,a5⟩
    ·lia
    ·cases hbi:b i with
     | false=>rfl
     | true =>
      have:=mono _ i (show hint+o<=i by lia) i2 hbi;rw[a5] at this;cases this
 | false =>
  rw[bq XV];refine XD (UA (V2 (I:=fun x c st'=>st'=st/\∃l o,c=(none,l,o)/\l<o/\l<=hint/\b (hint-l)=false/\x+1<=o)
   (Q:=fun c st'=>st'=st/\∃l o,c=(none,l,o)/\l<o/\l<=hint/\b (hint-l)=false/\(o >= hint+1\/(o<=hint/\b (hint-o)=true))) ?step ?fin ⟨rfl,0,1,rfl,by lia,by lia,hb,by lia⟩) ?post)
  case fin =>
   rintro c st' ⟨rfl,l,o,rfl,a1,a2,a3,a4⟩
   exact⟨rfl,l,o,rfl,a1,a2,a3,.inl (by lia)⟩
  case step =>
   rintro x c st' _ hx ⟨rfl,l,o,rfl,a1,a2,a3,a4⟩
   dsimp only
   by_cases hge:o >= hint+1
   ·rw[bw hge];exact Xo ⟨rfl,l,o,rfl,a1,a2,a3,.inl hge⟩
   ·rw[bq hge];refine XD (one (by lia) ?_);dsimp only;cases hbo:b (hint-o) with
    | true =>
     rw[bw rfl];exact Xo ⟨rfl,l,o,rfl,a1,a2,a3,.inr ⟨by lia,hbo⟩⟩
    | false =>
     rw[bq (by decide)];exact Xo ⟨rfl,o,2*o+1,rfl,by lia,by lia,hbo,by lia⟩
  case post =>
   rintro c st' ⟨rfl,l,o,rfl,a1,a2,a3,a4⟩
   refine last (fun x l r R hge hR=>?_) (fun x l r R hlt hr hR=>?_) (fun l r hq=>Xo hq) (hint+1-min o (hint+1)) (hint-l) (by lia) (by lia) (fun i hi=>?_) fun i i1 i2=>?_
   ·dsimp only;rw[bw hge];exact Xo hR
   ·dsimp only;rw[bq (by lia)];refine XD (one (by lia) ?_);dsimp only;cases hbm:b (l+(r-l)/2) with
    | true =>
     rw[hbm,bw rfl] at hR;rw[bw rfl];exact Xo hR
    | false =>
     rw[hbm,bq XV] at hR;rw[bq XV];exact Xo hR
   ·rcases a4 with a4 | ⟨a4,a5⟩
    ·lia
    ·exact mono i (hint-o) (by lia) (by lia) a5
   ·cases hbi:b i with
    | false=>rfl
    | true =>
     have:=mono _ i i1 i2 hbi;rw[a3] at this;cases this
end
end GS
namespace GS
structure MI (rk:W3->Int)(aL bL:List W3)(ia ib:Nat)(oL:List W3):Prop where
 perm:oL.Perm (aL.take ia++bL.take ib)
 srt:oL.Pairwise fun x y=>rk x<=rk y
 la:∀x∈oL,∀y∈aL.drop ia,rk x<=rk y
 lb:∀x∈oL,∀y∈bL.drop ib,rk x<=rk y
section
variable {rk:W3->Int}{aL bL oL:List W3}{ia ib:Nat}
theorem MI.swap (M:MI rk aL bL ia ib oL):MI rk bL aL ib ia oL:=⟨M.perm.trans T9,M.srt,M.lb,M.la⟩
theorem zjN (l:List W3)(i k:Nat):l.take (i+k)=l.take i++(l.drop i).take k:=by
 rw[List.take_add]
theorem MI.takeA (M:MI rk aL bL ia ib oL)(sa:aL.Pairwise fun x y=>rk x<=rk y)(k:Nat)(h:∀x∈(aL.drop ia).take k,∀y∈bL.drop ib,rk x<=rk y):MI rk aL bL (ia+k) ib (oL++(aL.drop ia).take k):=by
 have sd:(aL.drop ia).Pairwise fun x y=>rk x<=rk y:=sa.sublist (Rs _ _);have e2:(aL.drop ia).drop k=aL.drop (ia+k):=O9;refine⟨?_,?_,fun x hx y hy=>?_,fun x hx y hy=>?_⟩
 ·rw[zjN,WV];refine(M.perm.append_right _).trans ?_;rw[WV];exact Sq _ T9
 ·rw[TW];exact⟨M.srt,sd.sublist (T7 _ _),fun x hx y hy=>M.la x hx y (Wo hy)⟩
 ·rw[<- e2] at hy;rcases XO.mp hx with hx | hx
  ·exact M.la x hx y (R6 hy)
  ·have:=sd;rw[<- Ws k (aL.drop ia),TW] at this;exact this.2.2 x hx y hy
 ·rcases XO.mp hx with hx | hx
  ·exact M.lb x hx y hy
  ·exact h x hx y hy
theorem MI.takeB (M:MI rk aL bL ia ib oL)(sb:bL.Pairwise fun x y=>rk x<=rk y)(k:Nat)(h:∀x∈(bL.drop ib).take k,∀y∈aL.drop ia,rk x<=rk y):MI rk aL bL ia (ib+k) (oL++(bL.drop ib).take k):=(M.swap.takeA sb k h).swap
def Mg (rk:W3->Int)(aL bL oL:List W3):Prop:=oL.Perm (aL++bL)/\oL.Pairwise fun x y=>rk x<=rk y
theorem MI.all (M:MI rk aL bL ia ib oL)(ha:aL.length<=ia)(hb:bL.length<=ib):Mg rk aL bL oL:=by
 have:=M.perm;rw[WB ha,WB hb] at this;exact⟨this,M.srt⟩
theorem MI.doneB (M:MI rk aL bL ia ib oL)(sa:aL.Pairwise fun x y=>rk x<=rk y)(hb:bL.length<=ib):Mg rk aL bL (oL++aL.drop ia):=by
 have:=M.takeA sa (aL.drop ia).length (fun x _ y hy=>by
  rw[Sx hb] at hy;cases hy)
 rw[Xy] at this;exact this.all (by rw[Vp];lia) hb
theorem MI.lastA (M:MI rk aL bL ia ib oL)(sa:aL.Pairwise fun x y=>rk x<=rk y)(sb:bL.Pairwise fun x y=>rk x<=rk y)(h:∀x∈bL,∀y∈aL.drop ia,rk x<=rk y):Mg rk aL bL (oL++bL.drop ib++aL.drop ia):=by
 have M2:=M.takeB sb (bL.drop ib).length (fun x hx y hy=>h x (R6 (Wo hx)) y hy);rw[Xy] at M2;exact M2.doneB sa (by rw[Vp];lia)
theorem ext_toList (a:Array W3)(i j:Nat)(hj:i<=j):(a.extract i j).toList=(a.toList.drop i).take (j-i):=by
 rw[O4,Rz]
theorem zam (a:Array W3)(i:Nat):(a.extract i a.size).toList=a.toList.drop i:=by
 rw[O4,Rz,WB];rw[Vp,XZ];exact XW _
theorem zld {a:Array W3}{i:Nat}{x:W3}(h:a[i]?=some x):(a.toList.drop i).take 1=[x]:=by
 have hi:i<a.toList.length:=by
  rw[XZ];exact(Vx.mp h).1
 rw[Wn hi,UB,SN];have:a.toList[i]?=some x:=by rw[Xq];exact h
 rw[XX hi] at this;rw[Option.some.inj this]
end
section
variable {prog:Xi}{w:WS}{A:WL}{E:X9->X8->Prop}{s:X8}{rk:W3->Int}{κ:T3}{a0:Array W3}
structure Kept (st st':WH):Prop where
 arr:Xm st'=Xm st
 kind:kindOf st'=kindOf st
 pend:WG st'=WG st
 bad:S1 st'=S1 st
def setG':Nat->StateT WH Sem Unit:=sortPriv% PySem.Builtin.setMinGallop
theorem Kept.refl (st:WH):Kept st st:=⟨rfl,rfl,rfl,rfl⟩
theorem ze0 {st0 st:WH}{g:Nat}{Q:Unit->WH->Prop}(k:Kept st0 st)(h:∀st',Kept st0 st'->Q () st'):wpS (Xf prog w) A E s (setG' g) Q st:=by
 have e:setG' g=modify fun c=>SortSt.mk' (kindOf c) (Xm c) (WG c) g (S1 c):=rfl;rw[e];exact Tf (h _ ⟨k.arr,k.kind,k.pend,k.bad⟩)
theorem qx {α:Type}{c:Prop} [Decidable c]{x y:StateT WH Sem α}{Q:α->WH->Prop}{st:WH}(h1:c->wpS (Xf prog w) A E s x Q st)(h2:¬ c->wpS (Xf prog w) A E s y Q st):wpS (Xf prog w) A E s (if c then x else y) Q st:=by
 by_cases hc:c
 ·rw[bw hc];exact h1 hc
 ·rw[bq hc];exact h2 hc
theorem ji {a:Array W3}{i:Nat}(h:i<a.size):∃x,a[i]?=some x/\x∈a.toList:=⟨a[i],getElem?_pos a i h,by simp⟩
theorem JT {a:Array W3}(sa:a.toList.Pairwise fun x y=>rk x<=rk y){i:Nat}{x:W3}(e:a[i]?=some x):∀y∈a.toList.drop i,rk x<=rk y:=by
 have hi:i<a.toList.length:=by
  rw[XZ];exact(Vx.mp e).1
 have e':a.toList[i]?=some x:=by rw[Xq];exact e
 rw[XX hi] at e';have ex:=Option.some.inj e';have sd:=sa.sublist (Rs i a.toList);rw[Wn hi,ex,RJ] at sd;rw[Wn hi,ex];intro y hy;rcases Xz.mp hy with rfl | hy
 ·exact U5 _
 ·exact sd.1 y hy
theorem Yy {a b out:Array W3}{ia ib:Nat}(M:MI rk a.toList b.toList ia ib out.toList)(sa:a.toList.Pairwise fun x y=>rk x<=rk y)(hb:b.size<=ib):Mg rk a.toList b.toList (out++a.extract ia a.size++b.extract ib b.size).toList:=by
 rw[Wv,Wv,zam,zam,Sx (as:=b.toList) (by rw[XZ];exact hb),Xh];exact M.doneB sa (by rw[XZ];exact hb)
theorem Yz {a b out:Array W3}{ia ib:Nat}(M:MI rk a.toList b.toList ia ib out.toList)(sa:a.toList.Pairwise fun x y=>rk x<=rk y)(sb:b.toList.Pairwise fun x y=>rk x<=rk y)(hl:∀x∈b.toList,∀y,a[a.size-1]?=some y->rk x<=rk y)(ha:ia+1=a.size):Mg rk a.toList b.toList (out++b.extract ib b.size++a.extract ia a.size).toList:=by
 rw[Wv,Wv,zam,zam];refine M.lastA sa sb fun x hx y hy=>?_;have hi:ia<a.toList.length:=by rw[XZ];lia
 rw[Wn hi,Sx (by rw[XZ];lia)] at hy;have ey:y=a.toList[ia]:=by simpa using hy
 refine hl x hx y ?_;rw[show a.size-1=ia by lia,<- Xq,XX hi,ey]
theorem zjO (out:Array W3)(x:W3):(out.push x).toList=out.toList++[x]:=SD ..
theorem MI.oneB {a b out:Array W3}{ia ib:Nat}{x:W3}(M:MI rk a.toList b.toList ia ib out.toList)(sb:b.toList.Pairwise fun x y=>rk x<=rk y)(e:b[ib]?=some x)(h:∀y∈a.toList.drop ia,rk x<=rk y):MI rk a.toList b.toList ia (ib+1) (out.push x).toList:=by
 rw[zjO,<- zld e];refine M.takeB sb 1 fun z hz y hy=>?_;rw[zld e] at hz;have ez:z=x:=by simpa using hz
 rw[ez];exact h y hy
theorem MI.oneA {a b out:Array W3}{ia ib:Nat}{x:W3}(M:MI rk a.toList b.toList ia ib out.toList)(sa:a.toList.Pairwise fun x y=>rk x<=rk y)(e:a[ia]?=some x)(h:∀y∈b.toList.drop ib,rk x<=rk y):MI rk a.toList b.toList (ia+1) ib (out.push x).toList:=(MI.oneB M.swap sa e h).swap
theorem MI.someA {a b out:Array W3}{ia ib k:Nat}{y:W3}(M:MI rk a.toList b.toList ia ib out.toList)(sa:a.toList.Pairwise fun x y=>rk x<=rk y)(sb:b.toList.Pairwise fun x y=>rk x<=rk y)(e:b[ib]?=some y)(h:∀i x,i<k->a[ia+i]?=some x->rk x<=rk y):MI rk a.toList b.toList (ia+k) ib (out++a.extract ia (ia+k)).toList:=by
 rw[Wv,ext_toList _ _ _ (TM _ _),S6];refine M.takeA sa k fun x hx z hz=>Vz ?_ (JT sb e z hz);obtain⟨i,hi,ex⟩:=TF hx;have hik:i<k:=by
  rw[Xw] at hi;lia
 refine h i x hik ?_;have:((a.toList.drop ia).take k)[i]?=some x:=by rw[XX hi,ex]
 rw[List.getElem?_take,bw hik,Tc,Xq] at this;exact this
theorem MI.someB {a b out:Array W3}{ia ib k:Nat}{y:W3}(M:MI rk a.toList b.toList ia ib out.toList)(sa:a.toList.Pairwise fun x y=>rk x<=rk y)(sb:b.toList.Pairwise fun x y=>rk x<=rk y)(e:a[ia]?=some y)(h:∀i x,i<k->b[ib+i]?=some x->rk x<=rk y):MI rk a.toList b.toList ia (ib+k) (out++b.extract ib (ib+k)).toList:=(MI.someA M.swap sb sa e h).swap
end
end GS
namespace GS
section
variable {prog:Xi}{w:WS}{A:WL}{E:X9->X8->Prop}{s:X8}{rk:W3->Int}{κ:T3}{a0:Array W3}
theorem zaT {st:WH}{key:W3}{a:Array W3}{base n hint:Nat}{Q:Option Nat->WH->Prop}(T:Tells prog w A s κ rk a0)(hk:kindOf st=κ)(hkey:key∈a0.toList)(ma:∀x∈a.toList,x∈a0.toList)(up:∀i j x y,base<=i->i<=j->j<base+n->a[i]?=some x->a[j]?=some y->rk x<=rk y)(hn:base+n<=a.size)(hh:hint<n)
  (h:∀k,k<=n->(∀i x,i<k->a[base+i]?=some x->rk x<=rk key)->(∀i x,k<=i->i<n->a[base+i]?=some x->rk key<rk x)->Q (some k) st):wpS (Xf prog w) A E s (gallop' false key a base n hint) Q st:=by
 have he:∀i,i<n->∃x,a[base+i]?=some x/\x∈a.toList:=fun i hi=>ji (by lia);refine zf2 T hk hkey (fun i=>match a[base+i]? with | some x=>bey rk false key x | none=>false) (fun i hi=>?_) (fun i j hij hj hb=>?_) hh fun k hk1 h1 h2=>h k hk1 (fun i x hi e=>?_) fun i x hi1 hi2 e=>?_
 ·obtain⟨x,e,m⟩:=he i hi;refine⟨x,e,ma x m,?_⟩;try dsimp only
  rw[e]
 ·obtain⟨x,ex,_⟩:=he i (by lia);obtain⟨y,ey,_⟩:=he j hj;try dsimp only at hb ⊢
  rw[ey] at hb;rw[ex];have:=up (base+i) (base+j) x y (by lia) (by lia) (by lia) ex ey;unfold bey at hb ⊢;simp only[Wh,if_false,WT,decide_eq_false_iff_not] at hb ⊢;lia
 ·have:=h1 i hi;try dsimp only at this
  rw[e] at this;unfold bey at this;simp only[Wh,if_false,WT,decide_eq_false_iff_not] at this;lia
 ·have:=h2 i hi1 hi2;try dsimp only at this
  rw[e] at this;unfold bey at this;simp only[Wh,if_false,Bool.not_eq_false',bu] at this;exact this
theorem zaU {st:WH}{key:W3}{a:Array W3}{base n hint:Nat}{Q:Option Nat->WH->Prop}(T:Tells prog w A s κ rk a0)(hk:kindOf st=κ)(hkey:key∈a0.toList)(ma:∀x∈a.toList,x∈a0.toList)(up:∀i j x y,base<=i->i<=j->j<base+n->a[i]?=some x->a[j]?=some y->rk x<=rk y)(hn:base+n<=a.size)(hh:hint<n)
  (h:∀k,k<=n->(∀i x,i<k->a[base+i]?=some x->rk x<rk key)->(∀i x,k<=i->i<n->a[base+i]?=some x->rk key<=rk x)->Q (some k) st):wpS (Xf prog w) A E s (gallop' true key a base n hint) Q st:=by
 have he:∀i,i<n->∃x,a[base+i]?=some x/\x∈a.toList:=fun i hi=>ji (by lia);refine zf2 T hk hkey (fun i=>match a[base+i]? with | some x=>bey rk true key x | none=>false) (fun i hi=>?_) (fun i j hij hj hb=>?_) hh fun k hk1 h1 h2=>h k hk1 (fun i x hi e=>?_) fun i x hi1 hi2 e=>?_
 ·obtain⟨x,e,m⟩:=he i hi;refine⟨x,e,ma x m,?_⟩;try dsimp only
  rw[e]
 ·obtain⟨x,ex,_⟩:=he i (by lia);obtain⟨y,ey,_⟩:=he j hj;try dsimp only at hb ⊢
  rw[ey] at hb;rw[ex];have:=up (base+i) (base+j) x y (by lia) (by lia) (by lia) ex ey;unfold bey at hb ⊢;simp only[if_true,bu] at hb ⊢;lia
 ·have:=h1 i hi;try dsimp only at this
  rw[e] at this;unfold bey at this;simp only[if_true,bu] at this;exact this
 ·have:=h2 i hi1 hi2;try dsimp only at this
  rw[e] at this;unfold bey at this;simp only[if_true,decide_eq_false_iff_not] at this;lia
theorem ziM {a:Array W3}(sa:a.toList.Pairwise fun x y=>rk x<=rk y){i j:Nat}{x y:W3}(hij:i<=j)(ex:a[i]?=some x)(ey:a[j]?=some y):rk x<=rk y:=by
 refine JT sa ex y ?_;have hj:j<a.toList.length:=by
  rw[XZ];exact(Vx.mp ey).1
 refine XY (i:=j-i) ?_;rw[Tc,Xq,show i+(j-i)=j by lia];exact ey
set_option maxHeartbeats 8000000 in
theorem via {P:Prop}(h:∀G:Prop,(P->G)->G):P:=h P id
structure Key (P:Prop):Prop where
 get:P
theorem cut {P R:Prop}(k:P)(h:Key P->R):R:=h ⟨k⟩
theorem zjP {st0:WH}{a b:Array W3}{Q:Array W3->WH->Prop}(T:Tells prog w A s κ rk a0)(hk:kindOf st0=κ)(ma:∀x∈a.toList,x∈a0.toList)(mb:∀x∈b.toList,x∈a0.toList)(sa:a.toList.Pairwise fun x y=>rk x<=rk y)(sb:b.toList.Pairwise fun x y=>rk x<=rk y)
  (ha:0<a.size) (hb:0<b.size) (h0:∀x y,b[0]?=some x->y∈a.toList->rk x<=rk y) (hl':∀x∈b.toList,∀y,a[a.size-1]?=some y->rk x<rk y)
  (h:∀out st',Kept st0 st'->Mg rk a.toList b.toList out.toList->Q out st'):wpS (Xf prog w) A E s (mergeLo' a b) Q st0:=by
 have hl:∀x∈b.toList,∀y,a[a.size-1]?=some y->rk x<=rk y:=fun x hx y hy=>V1 (hl' x hx y hy);refine XD (Rb (Uo ⟨rfl,?_⟩));obtain⟨b0,eb0,_⟩:=ji hb;refine XD (qX eb0 ?_);have M0:MI rk a.toList b.toList 0 0 (#[]:Array W3).toList:=⟨by simp,List.Pairwise.nil,(fun x hx=>nomatch hx),(fun x hx=>nomatch hx)⟩;have M1:MI rk a.toList b.toList 0 1 (#[b0]:Array W3).toList:=MI.oneB M0 sb eb0 fun y hy=>h0 b0 y eb0 (by simpa using hy);dsimp -zeta only;refine qx (fun hc=>Xo (h _ _ (Kept.refl _) (Yy M1 sa (by rw[show 1=b.size by simpa using hc];exact XW _)))) fun hc=>?_;refine qx (fun hc2=>Xo (h _ _ (Kept.refl _) (Yz M1 sa sb hl (by simpa using hc2)))) fun hc2=>?_;have hb2:1<b.size:=by
  have:¬ 1=b.size:=by simpa using hc
  lia
 have ha2:0+1<a.size:=by
  have:¬ 0+1=a.size:=by simpa using hc2
  lia
 refine XD (Se ?_);refine XD (UA (V2 (I:=fun x c st'=>∃out ia ib mg,c=(none,out,ia,ib,mg)/\MI rk a.toList b.toList ia ib out.toList/\ia+1<a.size/\ib<b.size/\x+1<=ia+ib/\Kept st0 st')
  (Q:=fun c st'=>∃res,c.1=some res/\Mg rk a.toList b.toList res.toList/\Kept st0 st') ?step ?fin ⟨_,0,1,_,rfl,M1,ha2,hb2,by lia,Kept.refl _⟩) ?post)
 case fin =>
  rintro c st' ⟨out,ia,ib,mg,rfl,M,h1,h2,h3,k⟩
  lia
 case post =>
  rintro⟨c1,c2⟩ st' ⟨res,e,hM,k⟩
  dsimp only at e ⊢
  subst e
  exact Xo (h _ _ k hM)
 case step =>
  intro x0 c st1 _ hx0 hI
  refine via fun G hG=>?_
  obtain⟨out,ia,ib,mg,rfl,M,h1,h2,h3,k1⟩:=hI
  refine hG ?_
  clear hG
  have hk1:kindOf st1=κ:=k1.kind.trans hk
  dsimp -zeta only
  refine XD (UA (V2 (I:=fun x c st'=>st'=st1/\∃out ia ib ac bc,c=(none,out,ia,ib,ac,bc)/\MI rk a.toList b.toList ia ib out.toList/\ia+1<a.size/\ib<b.size/\x0+1+x<=ia+ib)
   (Q:=fun c st'=>st'=st1/\((∃res,c.1=some res/\Mg rk a.toList b.toList res.toList)\/∃out ia ib ac bc,c=(none,out,ia,ib,ac,bc)/\MI rk a.toList b.toList ia ib out.toList/\ia+1<a.size/\ib<b.size/\x0+2<=ia+ib)) ?step1 ?fin1 ⟨rfl,_,_,_,_,_,rfl,M,h1,h2,by lia⟩) ?post1)
  case fin1 =>
   rintro c st' ⟨rfl,out,ia,ib,ac,bc,rfl,M,h1,h2,h3⟩
   exact⟨rfl,.inr ⟨out,ia,ib,ac,bc,rfl,M,h1,h2,by lia⟩⟩
  case step1 =>
   intro x c st' _ hx hI
   refine via fun G hG=>?_
   obtain⟨rfl,out,ia,ib,ac,bc,rfl,M,h1,h2,h3⟩:=hI
   obtain⟨y,ey,my⟩:=ji h2
   obtain⟨z,ez,mz⟩:=ji (a:=a) (i:=ia) (by lia)
   refine hG ?_
   clear hG
   dsimp -zeta only
   refine XD (qX ey (XD (qX ez (XD (zla T hk1 (mb y my) (ma z mz) ?_)))))
   dsimp -zeta only
   refine qx (fun hlt=>?_) fun hlt=>?_
   ·have hlt':rk y<rk z:=bh hlt;have M2:=MI.oneB M sb ey fun v hv=>Vz (V1 hlt') (JT sa ez v hv);refine XD (qX ey ?_);refine qx (fun he=>Xo ⟨rfl,.inl ⟨_,rfl,Yy M2 sa (by rw[show ib+1=b.size by simpa using he];exact XW _)⟩⟩) fun he=>?_;have hb3:ib+1<b.size:=by
     have:¬ ib+1=b.size:=by simpa using he
     lia
    exact qx (fun _=>Xo ⟨rfl,.inr ⟨_,_,_,_,_,rfl,M2,h1,hb3,by lia⟩⟩) fun _=>Xo ⟨rfl,_,_,_,_,_,rfl,M2,h1,hb3,by lia⟩
   ·have hlt':¬ rk y<rk z:=fun q=>hlt (br q);have M2:=MI.oneA M sa ez fun v hv=>Vz (Ow.mp hlt') (JT sb ey v hv);refine XD (qX ez ?_);refine qx (fun he=>Xo ⟨rfl,.inl ⟨_,rfl,Yz M2 sa sb hl (by simpa using he)⟩⟩) fun he=>?_;have ha3:ia+1+1<a.size:=by
     have:¬ ia+1+1=a.size:=by simpa using he
     lia
    exact qx (fun _=>Xo ⟨rfl,.inr ⟨_,_,_,_,_,rfl,M2,ha3,h2,by lia⟩⟩) fun _=>Xo ⟨rfl,_,_,_,_,_,rfl,M2,ha3,h2,by lia⟩
  case post1 =>
   intro c st' hI
   refine via fun G hG=>?_
   rcases hI with ⟨rfl,hc1 | ⟨out,ia,ib,ac,bc,rfl,M,h1,h2,h3⟩⟩
   all_goals (refine hG ?_;clear hG)
   ·obtain⟨res,e,hM⟩:=hc1;obtain⟨c1,c2⟩:=c;dsimp only at e ⊢;subst e;exact Xo ⟨res,rfl,hM,k1⟩
   dsimp -zeta only
   refine XD (Rb (Uo ⟨rfl,?_⟩))
   refine XD (UA (V2 (I:=fun x c st2=>∃out ia ib mg ac bc,c=(none,out,ia,ib,mg,ac,bc)/\MI rk a.toList b.toList ia ib out.toList/\ia+1<a.size/\ib<b.size/\x0+2<=ia+ib/\Kept st0 st2)
    (Q:=fun c st2=>(∃res,c.1=some res/\Mg rk a.toList b.toList res.toList/\Kept st0 st2)\/∃out ia ib mg ac bc,c=(none,out,ia,ib,mg,ac,bc)/\MI rk a.toList b.toList ia ib out.toList/\ia+1<a.size/\ib<b.size/\x0+2<=ia+ib/\Kept st0 st2) ?step2 ?fin2 ⟨_,_,_,_,_,_,rfl,M,h1,h2,h3,k1⟩) ?post2)
   case fin2 =>
    rintro c st2 hc
    exact .inr hc
   case post2 =>
    rintro c st2 (⟨res,e,hM,k2⟩ | ⟨out,ia,ib,mg,ac,bc,rfl,M,h1,h2,h3,k2⟩)
    ·obtain⟨c1,c2⟩:=c;dsimp only at e ⊢;subst e;exact Xo ⟨res,rfl,hM,k2⟩
    ·dsimp -zeta only;exact XD (ze0 k2 fun st3 k3=>Xo ⟨_,_,_,_,rfl,M,h1,h2,by lia,k3⟩)
   case step2 =>
    intro x c st2 _ hx hI
    refine via fun G hG=>?_
    obtain⟨out,ia,ib,mg,ac,bc,rfl,M,h1,h2,h3,k2⟩:=hI
    obtain⟨y,ey,my⟩:=ji h2
    refine hG ?_
    clear hG
    dsimp -zeta only
    refine' cut ?key1 fun key=>qx (fun hmg=>?a1) fun hmg=>?b1
    case a1 =>
     generalize mg-1=mg1
     revert mg1
     exact key.get
    case b1=>exact key.get mg
    intro mg1
    dsimp -zeta only
    refine XD (ze0 k2 fun st3 k3=>?_)
    have hk3:kindOf st3=κ:=k3.kind.trans hk
    refine XD (qX ey (XD (zaT T hk3 (mb y my) ma (fun i j u v _ hij _ eu ev=>ziM sa hij eu ev) (by lia) (by lia) fun k hk4 g1 g2=>?_)))
    dsimp -zeta only
    refine' cut ?key2 fun key=>qx (fun hk0=>?a2) fun hk0=>?b2
    case a2 =>
     have M2:=MI.someA M sa sb ey g1
     refine qx (fun he=>Xo (.inl ⟨_,rfl,Yz M2 sa sb hl (by simpa using he),k3⟩)) fun he=>?_
     have ne1:¬ ia+k+1=a.size:=by simpa using he
     have kl:ia+k<a.size:=by
      refine Nat.lt_of_not_le fun hge=>?_;obtain⟨v,ev,mv⟩:=ji (a:=a) (i:=a.size-1) (by lia);have q1:=g1 (a.size-1-ia) v (by lia) (by rw[show ia+(a.size-1-ia)=a.size-1 by lia];exact ev);have q2:=hl' y my v ev;lia
     refine qx (fun he2=>absurd (show ia+k=a.size by simpa using he2) (by lia)) fun he2=>?_
     have h1':ia+k+1<a.size:=by lia
     have h3':x0+2<=ia+k+ib:=by lia
     have g2':∀z,a[ia+k]?=some z->rk y<=rk z:=fun z ez=>V1 (g2 k z (XW _) (by lia) ez)
     generalize out++a.extract ia (ia+k)=ze1 at M2 ⊢
     generalize ia+k=ia1 at M2 h1' h3' g2' ⊢
     revert g2';revert h3';revert h1';revert M2;revert ia1;revert ze1
     exact key.get
    case b2=>exact key.get out ia M h1 h3 fun z ez=>V1 (g2 0 z (by lia) (by lia) (by simpa using ez))
    intro ze1 ia1 M2 h1' h3' g2'
    refine via fun G hG=>?_
    obtain⟨z,ez,mz⟩:=ji (a:=a) (i:=ia1) (by lia)
    refine hG ?_
    clear hG
    have M3:=MI.oneB M2 sb ey fun v hv=>Vz (g2' z ez) (JT sa ez v hv)
    refine XD (qX ey ?_)
    refine qx (fun he=>Xo (.inl ⟨_,rfl,Yy M3 sa (by rw[show ib+1=b.size by simpa using he];exact XW _),k3⟩)) fun he=>?_
    have hb3:ib+1<b.size:=by
     have:¬ ib+1=b.size:=by simpa using he
     lia
    refine XD (qX ez (XD (zaU T hk3 (ma z mz) mb (fun i j u v _ hij _ eu ev=>ziM sb hij eu ev) (by lia) (by lia) fun k' hk5 g3 g4=>?_)))
    dsimp -zeta only
    refine' cut ?key3 fun key=>qx (fun hk0'=>?a3) fun hk0'=>?b3
    case a3 =>
     have M4:=MI.someB M3 sa sb ez fun i u hi eu=>V1 (g3 i u hi eu)
     refine qx (fun he=>Xo (.inl ⟨_,rfl,Yy M4 sa (by rw[show ib+1+k'=b.size by simpa using he];exact XW _),k3⟩)) fun he=>?_
     have hb4:ib+1+k'<b.size:=by
      have:¬ ib+1+k'=b.size:=by simpa using he
      lia
     have g4':∀v,b[ib+1+k']?=some v->rk z<=rk v:=fun v ev=>g4 k' v (XW _) (by lia) ev
     have h3'':x0+2<=ia1+(ib+1+k'):=by lia
     generalize ze1.push y++b.extract (ib+1) (ib+1+k')=zlf at M4 ⊢
     generalize ib+1+k'=ib1 at M4 hb4 g4' h3'' ⊢
     revert h3'';revert g4';revert hb4;revert M4;revert ib1;revert zlf
     exact key.get
    case b3=>exact key.get (ze1.push y) (ib+1) M3 hb3 (fun v ev=>g4 0 v (by lia) (by lia) (by simpa using ev)) (by lia)
    intro zlf ib1 M4 hb4 g4' h3''
    refine via fun G hG=>?_
    obtain⟨v,ev,mv⟩:=ji (a:=b) (i:=ib1) hb4
    refine hG ?_
    clear hG
    have M5:=MI.oneA M4 sa ez fun u hu=>Vz (g4' v ev) (JT sb ev u hu)
    refine XD (qX ez ?_)
    refine qx (fun he=>Xo (.inl ⟨_,rfl,Yz M5 sa sb hl (by simpa using he),k3⟩)) fun he=>?_
    have ha3:ia1+1+1<a.size:=by
     have:¬ ia1+1+1=a.size:=by simpa using he
     lia
    exact qx (fun _=>Xo (.inr ⟨_,_,_,_,_,_,rfl,M5,ha3,hb4,by lia,k3⟩)) fun _=>Xo ⟨_,_,_,_,_,_,rfl,M5,ha3,hb4,by lia,k3⟩
end
end GS
namespace GS
def neg (rk:W3->Int):W3->Int:=fun x=>- rk x
theorem zbN {a:Array W3}{j:Nat}(h:j<a.size):a.reverse[j]?=a[a.size-1-j]?:=by
 rw[PB h]
def Hi (rk:W3->Int)(a b:Array W3)(na nb:Nat)(out:Array W3):Prop:=MI (neg rk) a.reverse.toList b.reverse.toList (a.size-na) (b.size-nb) out.toList
section
variable {rk:W3->Int}{a b out:Array W3}{na nb:Nat}
theorem ZU (sa:a.toList.Pairwise fun x y=>rk x<=rk y):a.reverse.toList.Pairwise fun x y=>neg rk x<=neg rk y:=by
 rw[Vg,Pj];exact sa.imp fun h=>SM h
theorem zcj {i:Nat}{x:W3}(h1:1<=i)(h2:i<=a.size)(e:a[i-1]?=some x):a.reverse[a.size-i]?=some x:=by
 rw[zbN (by lia),show a.size-1-(a.size-i)=i-1 by lia];exact e
theorem Hi.oneA {x y:W3}(M:Hi rk a b na nb out)(sa:a.toList.Pairwise fun x y=>rk x<=rk y)(sb:b.toList.Pairwise fun x y=>rk x<=rk y)(h1:1<=na)(h2:na<=a.size)(h3:1<=nb)(h4:nb<=b.size)(ex:a[na-1]?=some x)(ey:b[nb-1]?=some y)(h:rk y<=rk x):Hi rk a b (na-1) nb (out.push x):=by
 have:=MI.oneA (rk:=neg rk) M (ZU sa) (zcj h1 h2 ex) fun v hv=>Vz (SM h) (JT (ZU sb) (zcj h3 h4 ey) v hv);unfold Hi;rw[show a.size-(na-1)=a.size-na+1 by lia];exact this
theorem Hi.oneB {x y:W3}(M:Hi rk a b na nb out)(sa:a.toList.Pairwise fun x y=>rk x<=rk y)(sb:b.toList.Pairwise fun x y=>rk x<=rk y)(h1:1<=na)(h2:na<=a.size)(h3:1<=nb)(h4:nb<=b.size)(ex:a[na-1]?=some x)(ey:b[nb-1]?=some y)(h:rk x<=rk y):Hi rk a b na (nb-1) (out.push y):=by
 have:=MI.oneB (rk:=neg rk) M (ZU sb) (zcj h3 h4 ey) fun v hv=>Vz (SM h) (JT (ZU sa) (zcj h1 h2 ex) v hv);unfold Hi;rw[show b.size-(nb-1)=b.size-nb+1 by lia];exact this
theorem znf {i j:Nat}(h1:i<=j)(h2:j<=a.size):(a.extract i j).reverse=a.reverse.extract (a.size-j) (a.size-j+(j-i)):=by
 apply Array.ext_getElem?;intro k;by_cases hk:k<j-i
 ·rw[PB (by rw[Uk];lia),Sw,Sw,Uk];rw[bw (by lia),bw (by rw[UZ];lia),zbN (by lia)];congr 1;lia
 ·rw[WA (by rw[UZ,Uk];lia),WA (by rw[Uk,UZ];lia)]
theorem Hi.someA {i:Nat}{y:W3}(M:Hi rk a b na nb out)(sa:a.toList.Pairwise fun x y=>rk x<=rk y)(sb:b.toList.Pairwise fun x y=>rk x<=rk y)(h1:i<=na)(h2:na<=a.size)(h3:1<=nb)(h4:nb<=b.size)(ey:b[nb-1]?=some y)(h:∀j x,i<=j->j<na->a[j]?=some x->rk y<=rk x):Hi rk a b i nb (out++(a.extract i na).reverse):=by
 have:=MI.someA (rk:=neg rk) (k:=na-i) M (ZU sa) (ZU sb) (zcj h3 h4 ey) fun j x hj ex=>SM (h (na-1-j) x (by lia) (by lia) (by
  rw[zbN (by lia)] at ex;rw[<- ex];congr 1;lia))
 unfold Hi;rw[znf h1 h2,show a.size-i=a.size-na+(na-i) by lia];exact this
theorem Hi.someB {i:Nat}{y:W3}(M:Hi rk a b na nb out)(sa:a.toList.Pairwise fun x y=>rk x<=rk y)(sb:b.toList.Pairwise fun x y=>rk x<=rk y)(h1:i<=nb)(h2:nb<=b.size)(h3:1<=na)(h4:na<=a.size)(ey:a[na-1]?=some y)(h:∀j x,i<=j->j<nb->b[j]?=some x->rk y<=rk x):Hi rk a b na i (out++(b.extract i nb).reverse):=(Hi.someA (a:=b) (b:=a) M.swap sb sa h1 h2 h3 h4 ey h).swap
theorem zlg {oL:List W3}(h:Mg (neg rk) b.reverse.toList a.reverse.toList oL):Mg rk a.toList b.toList oL.reverse:=by
 obtain⟨p,q⟩:=h;rw[Vg,Vg] at p;refine⟨?_,?_⟩
 ·refine(Rr _).trans (p.trans (T9.trans ?_));exact List.Perm.append (Rr _) (Rr _)
 ·rw[Pj];refine q.imp fun {x y} h=>?_;have h':- rk x<=- rk y:=h;lia
theorem zbO {i:Nat}(h:i<=a.size):(a.reverse.extract (a.size-i) a.reverse.size).toList.reverse=(a.extract 0 i).toList:=by
 rw[zam,Vg,ext_toList _ _ _ (W4 _),List.drop_zero,Nat.sub_zero];have:=List.reverse_take (l:=a.toList) (i:=i);rw[XZ] at this;rw[<- this,O3]
theorem Hi.done (M:Hi rk a b 0 nb out)(sb:b.toList.Pairwise fun x y=>rk x<=rk y)(h:nb<=b.size):Mg rk a.toList b.toList (a.extract 0 0++b.extract 0 nb++out.reverse).toList:=by
 have h1:=Yy (rk:=neg rk) (a:=b.reverse) (b:=a.reverse) M.swap (ZU sb) (by rw[UZ];lia);have h2:=zlg h1;rw[Wv,Wv,TD,TD,zbO h] at h2;have e0:=zbO (a:=a) (i:=0) (W4 _);rw[e0] at h2;rw[Wv,Wv,Vg,WV];exact h2
theorem Hi.first (M:Hi rk a b na 1 out)(sa:a.toList.Pairwise fun x y=>rk x<=rk y)(sb:b.toList.Pairwise fun x y=>rk x<=rk y)(hb:0<b.size)(h:na<=a.size)(h0:∀x y,b[0]?=some x->y∈a.toList->rk x<rk y):Mg rk a.toList b.toList (b.extract 0 1++a.extract 0 na++out.reverse).toList:=by
 have h1:=Yz (rk:=neg rk) (a:=b.reverse) (b:=a.reverse) M.swap (ZU sb) (ZU sa) (fun x hx y ey=>by
  rw[UZ,zbN (by lia),show b.size-1-(b.size-1)=0 by lia] at ey;have hx':x∈a.toList:=by simpa using hx
  exact SM (V1 (h0 y x ey hx'))) (by rw[UZ];lia)
 have h2:=zlg h1;rw[Wv,Wv,TD,TD,zbO h,zbO (by lia)] at h2;rw[Wv,Wv,Vg,WV];exact h2
end
section
variable {prog:Xi}{w:WS}{A:WL}{E:X9->X8->Prop}{s:X8}{rk:W3->Int}{κ:T3}{a0:Array W3}
set_option maxHeartbeats 8000000 in
theorem zjQ {st0:WH}{a b:Array W3}{Q:Array W3->WH->Prop}(T:Tells prog w A s κ rk a0)(hk:kindOf st0=κ)(ma:∀x∈a.toList,x∈a0.toList)(mb:∀x∈b.toList,x∈a0.toList)(sa:a.toList.Pairwise fun x y=>rk x<=rk y)(sb:b.toList.Pairwise fun x y=>rk x<=rk y)
  (ha:0<a.size) (hb:0<b.size) (h0:∀x y,b[0]?=some x->y∈a.toList->rk x<rk y) (hl:∀x∈b.toList,∀y,a[a.size-1]?=some y->rk x<rk y)
  (h:∀out st',Kept st0 st'->Mg rk a.toList b.toList out.toList->Q out st'):wpS (Xf prog w) A E s (mergeHi' a b) Q st0:=by
 refine XD (Rb (Uo ⟨rfl,?_⟩));obtain⟨z0,ez0,_⟩:=ji (a:=a) (i:=a.size-1) (by lia);obtain⟨y0,ey0,my0⟩:=ji (a:=b) (i:=b.size-1) (by lia);refine XD (qX ez0 ?_);have M0:Hi rk a b a.size b.size #[]:=by
  unfold Hi;rw[SW,SW];exact⟨by simp,List.Pairwise.nil,(fun x hx=>nomatch hx),(fun x hx=>nomatch hx)⟩
 have M1:Hi rk a b (a.size-1) b.size #[z0]:=M0.oneA sa sb (by lia) (XW _) (by lia) (XW _) ez0 ey0 (V1 (hl y0 my0 z0 ez0));dsimp -zeta only;refine qx (fun hc=>Xo (h _ _ (Kept.refl _) ?_)) fun hc=>?_
 ·have e:a.size-1=0:=by simpa using hc
  rw[e] at M1 ⊢;exact M1.done sb (XW _)
 refine qx (fun hc2=>Xo (h _ _ (Kept.refl _) ?_)) fun hc2=>?_
 ·have e:b.size=1:=by simpa using hc2
  rw[e] at M1 ⊢;exact M1.first sa sb hb (by lia) h0
 have ha2:1<=a.size-1:=by
  have:¬ a.size-1=0:=by simpa using hc
  lia
 have hb2:1<b.size:=by
  have:¬ b.size=1:=by simpa using hc2
  lia
 refine XD (Se ?_);refine XD (UA (V2 (I:=fun x c st'=>∃na nb out mg,c=(none,na,nb,out,mg)/\Hi rk a b na nb out/\1<=na/\na<a.size/\1<nb/\nb<=b.size/\na+nb+x+1<=a.size+b.size/\Kept st0 st')
  (Q:=fun c st'=>∃res,c.1=some res/\Mg rk a.toList b.toList res.toList/\Kept st0 st') ?step ?fin ⟨_,_,_,_,rfl,M1,ha2,by lia,hb2,XW _,by lia,Kept.refl _⟩) ?post)
 case fin =>
  rintro c st' ⟨na,nb,out,mg,rfl,M,h1,h2,h3,h4,h5,k⟩
  lia
 case post =>
  rintro⟨c1,c2⟩ st' ⟨res,e,hM,k⟩
  dsimp only at e ⊢
  subst e
  exact Xo (h _ _ k hM)
 case step =>
  intro x0 c st1 _ hx0 hI
  refine via fun G hG=>?_
  obtain⟨na,nb,out,mg,rfl,M,h1,h2,h3,h4,h5,k1⟩:=hI
  refine hG ?_
  clear hG
  have hk1:kindOf st1=κ:=k1.kind.trans hk
  dsimp -zeta only
  refine XD (UA (V2 (I:=fun x c st'=>st'=st1/\∃na nb out ac bc,c=(none,na,nb,out,ac,bc)/\Hi rk a b na nb out/\1<=na/\na<a.size/\1<nb/\nb<=b.size/\na+nb+x0+1+x<=a.size+b.size)
   (Q:=fun c st'=>st'=st1/\((∃res,c.1=some res/\Mg rk a.toList b.toList res.toList)\/∃na nb out ac bc,c=(none,na,nb,out,ac,bc)/\Hi rk a b na nb out/\1<=na/\na<a.size/\1<nb/\nb<=b.size/\na+nb+x0+2<=a.size+b.size)) ?step1 ?fin1 ⟨rfl,_,_,_,_,_,rfl,M,h1,h2,h3,h4,by lia⟩) ?post1)
  case fin1 =>
   rintro c st' ⟨rfl,na,nb,out,ac,bc,rfl,M,h1,h2,h3,h4,h5⟩
   exact⟨rfl,.inr ⟨na,nb,out,ac,bc,rfl,M,h1,h2,h3,h4,by lia⟩⟩
  case step1 =>
   intro x c st' _ hx hI
   refine via fun G hG=>?_
   obtain⟨rfl,na,nb,out,ac,bc,rfl,M,h1,h2,h3,h4,h5⟩:=hI
   obtain⟨y,ey,my⟩:=ji (a:=b) (i:=nb-1) (by lia)
   obtain⟨z,ez,mz⟩:=ji (a:=a) (i:=na-1) (by lia)
   refine hG ?_
   clear hG
   dsimp -zeta only
   refine XD (qX ey (XD (qX ez (XD (zla T hk1 (mb y my) (ma z mz) ?_)))))
   dsimp -zeta only
   refine qx (fun hlt=>?_) fun hlt=>?_
   ·have hlt':rk y<rk z:=bh hlt;have M2:=M.oneA sa sb h1 (by lia) (by lia) h4 ez ey (V1 hlt');refine XD (qX ez ?_);refine qx (fun he=>Xo ⟨rfl,.inl ⟨_,rfl,?_⟩⟩) fun he=>?_
    ·have e:na-1=0:=by simpa using he
     rw[e] at M2 ⊢;exact M2.done sb h4
    have hn:1<=na-1:=by
     have:¬ na-1=0:=by simpa using he
     lia
    exact qx (fun _=>Xo ⟨rfl,.inr ⟨_,_,_,_,_,rfl,M2,hn,by lia,h3,h4,by lia⟩⟩) fun _=>Xo ⟨rfl,_,_,_,_,_,rfl,M2,hn,by lia,h3,h4,by lia⟩
   ·have hlt':¬ rk y<rk z:=fun q=>hlt (br q);have M2:=M.oneB sa sb h1 (by lia) (by lia) h4 ez ey (Ow.mp hlt');refine XD (qX ey ?_);refine qx (fun he=>Xo ⟨rfl,.inl ⟨_,rfl,?_⟩⟩) fun he=>?_
    ·have e:nb-1=1:=by simpa using he
     rw[e] at M2 ⊢;exact M2.first sa sb hb (by lia) h0
    have hn:1<nb-1:=by
     have:¬ nb-1=1:=by simpa using he
     lia
    exact qx (fun _=>Xo ⟨rfl,.inr ⟨_,_,_,_,_,rfl,M2,h1,h2,hn,by lia,by lia⟩⟩) fun _=>Xo ⟨rfl,_,_,_,_,_,rfl,M2,h1,h2,hn,by lia,by lia⟩
  case post1 =>
   intro c st' hI
   refine via fun G hG=>?_
   rcases hI with ⟨rfl,hc1 | ⟨na,nb,out,ac,bc,rfl,M,h1,h2,h3,h4,h5⟩⟩
   all_goals (refine hG ?_;clear hG)
   ·obtain⟨res,e,hM⟩:=hc1;obtain⟨c1,c2⟩:=c;dsimp only at e ⊢;subst e;exact Xo ⟨res,rfl,hM,k1⟩
   dsimp -zeta only
   refine XD (Rb (Uo ⟨rfl,?_⟩))
   refine XD (UA (V2 (I:=fun x c st2=>∃na nb out mg ac bc,c=(none,na,nb,out,mg,ac,bc)/\Hi rk a b na nb out/\1<=na/\na<a.size/\1<nb/\nb<=b.size/\na+nb+x0+2<=a.size+b.size/\Kept st0 st2)
    (Q:=fun c st2=>(∃res,c.1=some res/\Mg rk a.toList b.toList res.toList/\Kept st0 st2)\/∃na nb out mg ac bc,c=(none,na,nb,out,mg,ac,bc)/\Hi rk a b na nb out/\1<=na/\na<a.size/\1<nb/\nb<=b.size/\na+nb+x0+2<=a.size+b.size/\Kept st0 st2) ?step2 ?fin2 ⟨_,_,_,_,_,_,rfl,M,h1,h2,h3,h4,h5,k1⟩) ?post2)
   case fin2 =>
    rintro c st2 hc
    exact .inr hc
   case post2 =>
    rintro c st2 (⟨res,e,hM,k2⟩ | ⟨na,nb,out,mg,ac,bc,rfl,M,h1,h2,h3,h4,h5,k2⟩)
    ·obtain⟨c1,c2⟩:=c;dsimp only at e ⊢;subst e;exact Xo ⟨res,rfl,hM,k2⟩
    ·dsimp -zeta only;exact XD (ze0 k2 fun st3 k3=>Xo ⟨_,_,_,_,rfl,M,h1,h2,h3,h4,by lia,k3⟩)
   case step2 =>
    intro x c st2 _ hx hI
    refine via fun G hG=>?_
    obtain⟨na,nb,out,mg,ac,bc,rfl,M,h1,h2,h3,h4,h5,k2⟩:=hI
    obtain⟨y,ey,my⟩:=ji (a:=b) (i:=nb-1) (by lia)
    refine hG ?_
    clear hG
    dsimp -zeta only
    refine' cut ?key1 fun key=>qx (fun hmg=>?a1) fun hmg=>?b1
    case a1 =>
     generalize mg-1=mg1
     revert mg1
     exact key.get
    case b1=>exact key.get mg
    intro mg1
    dsimp -zeta only
    refine XD (ze0 k2 fun st3 k3=>?_)
    have hk3:kindOf st3=κ:=k3.kind.trans hk
    refine XD (qX ey (XD (zaT T hk3 (mb y my) ma (fun i j u v _ hij _ eu ev=>ziM sa hij eu ev) (by lia) (by lia) fun k hk4 g1 g2=>?_)))
    dsimp -zeta only
    refine' cut ?key2 fun key=>qx (fun hk0=>?a2) fun hk0=>?b2
    case a2 =>
     have M2:=M.someA sa sb (i:=k) (by lia) (by lia) (by lia) h4 ey fun j u hj1 hj2 eu=>V1 (g2 j u hj1 hj2 (by simpa using eu))
     refine qx (fun he=>Xo (.inl ⟨_,rfl,(by
      have e:k=0:=by simpa using he
      rw[e] at M2 ⊢;exact M2.done sb h4),k3⟩)) fun he=>?_
     have h1':1<=k:=by
      have:¬ k=0:=by simpa using he
      lia
     have h2':k<a.size:=by lia
     have h5':k+nb+x0+2<=a.size+b.size:=by lia
     have g1':∀z,a[k-1]?=some z->rk z<=rk y:=fun z ez=>g1 (k-1) z (by lia) (by simpa using ez)
     generalize out++(a.extract k na).reverse=ze1 at M2 ⊢
     generalize na-k=kk
     generalize k=na1 at M2 h1' h2' h5' g1' ⊢
     revert g1';revert h5';revert h2';revert h1';revert M2;revert na1;revert kk;revert ze1
     exact key.get
    case b2=>exact key.get out (na-k) na M h1 h2 h5 fun z ez=>g1 (na-1) z (by lia) (by simpa using ez)
    intro ze1 kk na1 M2 h1' h2' h5' g1'
    refine via fun G hG=>?_
    obtain⟨z,ez,mz⟩:=ji (a:=a) (i:=na1-1) (by lia)
    refine hG ?_
    clear hG
    have M3:=M2.oneB sa sb h1' (by lia) (by lia) h4 ez ey (g1' z ez)
    refine XD (qX ey ?_)
    refine qx (fun he=>Xo (.inl ⟨_,rfl,(by
     have e:nb-1=1:=by simpa using he
     rw[e] at M3 ⊢;exact M3.first sa sb hb (by lia) h0),k3⟩)) fun he=>?_
    have hn:1<nb-1:=by
     have:¬ nb-1=1:=by simpa using he
     lia
    refine XD (qX ez (XD (zaU T hk3 (ma z mz) mb (fun i j u v _ hij _ eu ev=>ziM sb hij eu ev) (by lia) (by lia) fun k' hk5 g3 g4=>?_)))
    dsimp -zeta only
    refine' cut ?key3 fun key=>qx (fun hk0'=>?a3) fun hk0'=>?b3
    case a3 =>
     have M4:=M3.someB sa sb (i:=k') (by lia) (by lia) h1' (by lia) ez fun j u hj1 hj2 eu=>g4 j u hj1 hj2 (by simpa using eu)
     refine qx (fun he=>Xo (.inl ⟨_,rfl,(by
      have e:k'=1:=by simpa using he
      rw[e] at M4 ⊢;exact M4.first sa sb hb (by lia) h0),k3⟩)) fun he=>?_
     have k1':1<=k':=by
      refine Pz.mpr fun hz=>?_;obtain⟨v,ev,mv⟩:=ji (a:=b) (i:=0) hb;have q1:=g4 0 v (by lia) (by lia) (by simpa using ev);have q2:=h0 v z ev mz;lia
     refine qx (fun he2=>absurd (show k'=0 by simpa using he2) (by lia)) fun he2=>?_
     have hn':1<k':=by
      have:¬ k'=1:=by simpa using he
      lia
     have hb':k'<=b.size:=by lia
     have h5'':na1+k'+x0+2<=a.size+b.size:=by lia
     have g3':∀v,b[k'-1]?=some v->rk v<=rk z:=fun v ev=>V1 (g3 (k'-1) v (by lia) (by simpa using ev))
     generalize ze1.push y++(b.extract k' (nb-1)).reverse=zlf at M4 ⊢
     generalize nb-1-k'=kk'
     generalize k'=nb1 at M4 hn' hb' h5'' g3' ⊢
     revert g3';revert h5'';revert hb';revert hn';revert M4;revert nb1;revert kk';revert zlf
     exact key.get
    case b3=>exact key.get (ze1.push y) (nb-1-k') (nb-1) M3 hn (by lia) (by lia) fun v ev=>V1 (g3 (nb-1-1) v (by lia) (by simpa using ev))
    intro zlf kk' nb1 M4 hn' hb' h5'' g3'
    obtain⟨v,ev,mv⟩:=ji (a:=b) (i:=nb1-1) (by lia)
    have M5:=M4.oneA sa sb h1' (by lia) (by lia) hb' ez ev (g3' v ev)
    refine XD (qX ez ?_)
    refine qx (fun he=>Xo (.inl ⟨_,rfl,(by
     have e:na1-1=0:=by simpa using he
     rw[e] at M5 ⊢;exact M5.done sb hb'),k3⟩)) fun he=>?_
    have hn2:1<=na1-1:=by
     have:¬ na1-1=0:=by simpa using he
     lia
    exact qx (fun _=>Xo (.inr ⟨_,_,_,_,_,_,rfl,M5,hn2,by lia,hn',hb',by lia,k3⟩)) fun _=>Xo ⟨_,_,_,_,_,_,rfl,M5,hn2,by lia,hn',hb',by lia,k3⟩
end
end GS
namespace GS
theorem zdU (sa:Nat):∀(l:List W3) (j:Nat) (arr:Array W3),((l.zipIdx j).foldl (fun a (p:W3×Nat)=>a.setIfInBounds (sa+p.2) p.1) arr).size=arr.size
 | [],_,_=>rfl
 | x::l,j,arr=>by
  rw[List.zipIdx_cons,VF,zdU sa l (j+1)];exact Tv
theorem zng (sa:Nat):∀(l:List W3) (j:Nat) (arr:Array W3) (i:Nat),sa+j+l.length<=arr.size->((l.zipIdx j).foldl (fun a (p:W3×Nat)=>a.setIfInBounds (sa+p.2) p.1) arr)[i]?=if sa+j<=i/\i<sa+j+l.length then l[i-(sa+j)]? else arr[i]?:=by
 intro l;induction l with
 | nil =>
  intro j arr i h;rw[bq (by simp only[UT];lia)];rfl
 | cons x l ih =>
  intro j arr i h;rw[XB] at h;rw[List.zipIdx_cons,VF,ih (j+1) _ i (by rw[Tv];lia),XB];by_cases h1:sa+(j+1)<=i/\i<sa+(j+1)+l.length
  ·rw[bw h1,bw (by lia),show i-(sa+j)=(i-(sa+(j+1)))+1 by lia,P6]
  ·rw[bq h1];by_cases h2:i=sa+j
   ·subst h2;rw[bw (by lia),SW,List.getElem?_cons_zero];show (arr.setIfInBounds (sa+j) x)[sa+j]?=some x;rw[Ue,bw rfl,bw (by lia)]
   ·rw[bq (by lia)];show (arr.setIfInBounds (sa+j) x)[i]?=arr[i]?;rw[Ue,bq (fun e=>h2 e.symm)]
section
variable {prog:Xi}{w:WS}{A:WL}{E:X9->X8->Prop}{s:X8}{rk:W3->Int}{κ:T3}{a0:Array W3}
theorem yS {xs:Array W3}{lo hi:Nat}(u:Up rk xs lo hi){i j:Nat}{x y:W3}(h1:lo<=i)(h2:i<=j)(h3:j<hi)(ex:xs[i]?=some x)(ey:xs[j]?=some y):rk x<=rk y:=by
 have:=u i j h1 h2 h3;unfold Rk at this;rw[ex,ey] at this;exact this
theorem zog {xs:Array W3}{lo hi:Nat}(hz:hi<=xs.size)(h:∀i j x y,lo<=i->i<=j->j<hi->xs[i]?=some x->xs[j]?=some y->rk x<=rk y):Up rk xs lo hi:=fun i j h1 h2 h3=>by
 obtain⟨x,ex,_⟩:=ji (a:=xs) (i:=i) (by lia);obtain⟨y,ey,_⟩:=ji (a:=xs) (i:=j) (by lia);unfold Rk;rw[ex,ey];exact h i j x y h1 h2 h3 ex ey
theorem ziN {xs:Array W3}{i:Nat}{x:W3}(e:xs[i]?=some x):x∈xs.toList:=XY (by rw[Xq];exact e)
theorem ext_get {xs:Array W3}{i j k:Nat}(h1:i<=j)(h2:j<=xs.size)(hk:k<j-i):(xs.extract i j)[k]?=xs[i+k]?:=by
 rw[Sw,bw (by lia)]
theorem zan {xs:Array W3}{i j:Nat}(h2:j<=xs.size):(xs.extract i j).size=j-i:=by
 rw[Uk];lia
theorem zlh {xs:Array W3}{lo hi i j:Nat}(u:Up rk xs lo hi)(h1:lo<=i)(h2:j<=hi)(h3:j<=xs.size):(xs.extract i j).toList.Pairwise fun x y=>rk x<=rk y:=by
 rw[Vr];intro m n hm hn hmn;rw[XZ,zan h3] at hm hn;have em:=ext_get (xs:=xs) (i:=i) (j:=j) (k:=m) (by lia) h3 hm;have en:=ext_get (xs:=xs) (i:=i) (j:=j) (k:=n) (by lia) h3 hn;refine yS u (i:=i+m) (j:=i+n) (by lia) (by lia) (by lia) ?_ ?_
 ·rw[<- em,UK];exact getElem?_pos _ _ _
 ·rw[<- en,UK];exact getElem?_pos _ _ _
theorem ext_mem {xs:Array W3}{i j:Nat}{x:W3}(h3:j<=xs.size)(h:x∈(xs.extract i j).toList):∃k,i<=k/\k<j/\xs[k]?=some x:=by
 obtain⟨k,hk,e⟩:=TF h;rw[XZ,zan h3] at hk;refine⟨i+k,by lia,by lia,?_⟩;rw[<- ext_get (xs:=xs) (i:=i) (j:=j) (by lia) h3 hk,<- e,UK];exact getElem?_pos _ _ _
theorem zqz {st st1:WH}{Q:PUnit->WH->Prop}(h:∀st2,st2=st1->Q ⟨⟩ st2):wpS (Xf prog w) A E s (set st1:StateT WH Sem PUnit) Q st:=by
 unfold wpS;rw[StateT.run_set];exact XS ⟨rfl,h _ rfl⟩
set_option maxHeartbeats 8000000 in
theorem zjR {st:WH}{i sa na p1 nb p2:Nat}{Q:Bool->WH->Prop}(T:Tells prog w A s κ rk a0)(O:Ok κ a0 st)(e1:(WG st)[i]?=some (sa,na,p1))(e2:(WG st)[i+1]?=some (sa+na,nb,p2))(hna:1<=na)(hnb:1<=nb)(hz:sa+na+nb<=a0.size)(u1:Up rk (Xm st) sa (sa+na))(u2:Up rk (Xm st) (sa+na) (sa+na+nb))
  (h:∀st',Ok κ a0 st'->WG st'=((WG st).setIfInBounds i (sa,na+nb,p1)).eraseIdxIfInBounds (i+1)->Up rk (Xm st') sa (sa+na+nb)->(∀j:Nat,(j<sa\/sa+na+nb<=j)->(Xm st')[j]?=(Xm st)[j]?)->Q true st'):wpS (Xf prog w) A E s (mergeAt' i) Q st:=by
 have hsz:=O.size;have mX:∀x∈(Xm st).toList,x∈a0.toList:=fun x hx=>(UY.mp O.perm).mem_iff.mp hx;obtain⟨b0,eb0,mb0⟩:=ji (a:=Xm st) (i:=sa+na) (by lia);refine XD (Se ?_);rw[e1,e2];dsimp only;refine XD (zqz fun st1 hst=>?_);have k1:kindOf st1=κ:=by rw[hst];exact O.kind
 have ea:Xm st1=Xm st:=by rw[hst]
 have ep:WG st1=((WG st).setIfInBounds i (sa,na+nb,p1)).eraseIdxIfInBounds (i+1):=by rw[hst]
 have ef:S1 st1=none:=by rw[hst];exact O.good
 have O1:Ok κ a0 st1:=⟨by rw[ea];exact O.perm,k1,ef⟩;refine XD (qX eb0 (XD (zaT T k1 (mX b0 mb0) mX (fun p q u v h1 h2 h3 eu ev=>yS u1 h1 h2 h3 eu ev) (by show sa+na<=(Xm st).size;lia) (by lia) fun k hk g1 g2=>?_)));dsimp only;refine qx (fun hc=>Xo (h st1 O1 ep (zog (by rw[ea];lia) fun p q u v h1 h2 h3 eu ev=>?_) fun j _=>by rw[ea])) fun hc=>?_
 ·have ek:k=na:=by
   have:na-k=0:=by simpa using hc
   lia
  rw[ea] at eu ev;by_cases c1:q<sa+na
  ·exact yS u1 h1 h2 c1 eu ev
  ·by_cases c2:p<sa+na
   ·have q1:=g1 (p-sa) u (by lia) (by rw[show sa+(p-sa)=p by lia];exact eu);have q2:=yS u2 (XW _) (by lia) h3 eb0 ev;lia
   ·exact yS u2 (by lia) h2 h3 eu ev
 have hkn:k<na:=by
  have:¬ na-k=0:=by simpa using hc
  lia
 obtain⟨al,eal,mal⟩:=ji (a:=Xm st) (i:=sa+k+(na-k)-1) (by lia);have eal':(Xm st)[sa+na-1]?=some al:=by
  rw[<- eal];congr 1;lia
 refine XD (qX eal (XD (zaU T k1 (mX al mal) mX (fun p q u v h1 h2 h3 eu ev=>yS u2 h1 h2 h3 eu ev) (by show sa+na+nb<=(Xm st).size;lia) (by lia) fun k' hk' g3 g4=>?_)));dsimp only;have b0a:rk b0<rk al:=g2 (na-1) al (by lia) (by lia) (by rw[show sa+(na-1)=sa+na-1 by lia];exact eal');have k'1:1<=k':=by
  refine Pz.mpr fun hz0=>?_;have:=g4 0 b0 (by lia) (by lia) (by simpa using eb0);lia
 refine qx (fun hc=>absurd (show k'=0 by simpa using hc) (by lia)) fun _=>?_;have X3:sa+na<=(Xm st).size:=by lia
 have Y3:sa+na+k'<=(Xm st).size:=by lia
 have xs:=zlh (i:=sa+k) (j:=sa+na) u1 (by lia) (XW _) X3;have ys:=zlh (i:=sa+na) (j:=sa+na+k') u2 (XW _) (by lia) Y3;have xm:∀x∈((Xm st).extract (sa+k) (sa+na)).toList,x∈a0.toList:=fun x hx=>by
  obtain⟨j,_,_,ej⟩:=ext_mem X3 hx;exact mX x (ziN ej)
 have ym:∀x∈((Xm st).extract (sa+na) (sa+na+k')).toList,x∈a0.toList:=fun x hx=>by
  obtain⟨j,_,_,ej⟩:=ext_mem Y3 hx;exact mX x (ziN ej)
 have xz:((Xm st).extract (sa+k) (sa+na)).size=na-k:=by
  rw[zan X3];lia
 have yz:((Xm st).extract (sa+na) (sa+na+k')).size=k':=by
  rw[zan Y3];lia
 have first:∀x y,((Xm st).extract (sa+na) (sa+na+k'))[0]?=some x->y∈((Xm st).extract (sa+k) (sa+na)).toList->rk x<rk y:=fun x y ex my=>by
  rw[ext_get (by lia) Y3 (by lia),SS,eb0] at ex;cases ex;obtain⟨j,j1,j2,ej⟩:=ext_mem X3 my;exact g2 (j-sa) y (by lia) (by lia) (by rw[show sa+(j-sa)=j by lia];exact ej)
 have last:∀x∈((Xm st).extract (sa+na) (sa+na+k')).toList,∀y,((Xm st).extract (sa+k) (sa+na))[((Xm st).extract (sa+k) (sa+na)).size-1]?=some y->rk x<rk y:=fun x mx y ey=>by
  rw[xz,ext_get (by lia) X3 (by lia),show sa+k+(na-k-1)=sa+na-1 by lia,eal'] at ey;cases ey;obtain⟨j,j1,j2,ej⟩:=ext_mem Y3 mx;exact g3 (j-(sa+na)) x (by lia) (by rw[show sa+na+(j-(sa+na))=j by lia];exact ej)
 have tail:∀(merged:Array W3) (st2:WH),Kept st1 st2->Mg rk ((Xm st).extract (sa+k) (sa+na)).toList ((Xm st).extract (sa+na) (sa+na+k')).toList merged.toList ->
   Q true (setArr st2 (merged.toList.zipIdx.foldl (fun a (p:W3×Nat)=>a.setIfInBounds (sa+k+p.2) p.1) (Xm st2))):=fun merged st2 K2 hM=>by
  have ea2:Xm st2=Xm st:=K2.arr.trans ea;have ml:merged.toList.length=na-k+k':=by
   rw[hM.1.length_eq,X5,XZ,XZ,xz,yz]
  have at_:∀j:Nat,(merged.toList.zipIdx.foldl (fun a (p:W3×Nat)=>a.setIfInBounds (sa+k+p.2) p.1) (Xm st2))[j]?=if sa+k<=j/\j<sa+na+k' then merged.toList[j-(sa+k)]? else (Xm st)[j]?:=fun j=>by
   have:=zng (sa+k) merged.toList 0 (Xm st2) j (by rw[ea2,ml];lia);rw[this,ea2,SS,ml];by_cases c:sa+k<=j/\j<sa+na+k'
   ·rw[bw c,bw (by lia)]
   ·rw[bq c,bq (by lia)]
  have zA:=zdU (sa+k) merged.toList 0 (Xm st2);generalize hN:merged.toList.zipIdx.foldl (fun a (p:W3×Nat)=>a.setIfInBounds (sa+k+p.2) p.1) (Xm st2)=N at at_ zA ⊢;have zN:N.size=a0.size:=by
   rw[zA,ea2,hsz]
  have nl:N.toList=(Xm st).toList.take (sa+k)++merged.toList++(Xm st).toList.drop (sa+na+k'):=by
   refine T5 fun j=>?_;rw[Xq,at_ j];by_cases c1:j<sa+k
   ·rw[bq (by lia),WV,V3 (by rw[Xw,XZ];lia),List.getElem?_take,bw c1,Xq]
   ·rw[WV,VR (by rw[Xw,XZ];lia),Xw,XZ,show min (sa+k) (Xm st).size=sa+k by lia];by_cases c2:j<sa+na+k'
    ·rw[bw ⟨by lia,c2⟩,V3 (by rw[ml];lia)]
    ·rw[bq (by lia),VR (by rw[ml];lia),Tc,Xq,ml];congr 1;lia
  have ol:(Xm st).toList=(Xm st).toList.take (sa+k)++(((Xm st).extract (sa+k) (sa+na)).toList++((Xm st).extract (sa+na) (sa+na+k')).toList)++(Xm st).toList.drop (sa+na+k'):=by
   rw[ext_toList _ _ _ (by lia),ext_toList _ _ _ (by lia)];have d1:(Xm st).toList.drop (sa+na)=((Xm st).toList.drop (sa+k)).drop (na-k):=by
    rw[O9];congr 1;lia
   have d2:(Xm st).toList.drop (sa+na+k')=((Xm st).toList.drop (sa+na)).drop k':=by
    rw[O9]
   rw[d2,show sa+na+k'-(sa+na)=k' by lia,WV,WV,Ws,d1,show sa+na-(sa+k)=na-k by lia,Ws,Ws]
  refine h _ ⟨?_,K2.kind.trans k1,K2.bad.trans ef⟩ (K2.pend.trans ep) (zog (by show _<=N.size;lia) fun p q u v h1 h2 h3 eu ev=>?_) fun j hj=>?_
  ·refine Array.Perm.trans ?_ O.perm;rw[UY];show N.toList.Perm _;have pm:=List.Perm.append_right ((Xm st).toList.drop (sa+na+k')) (Sq ((Xm st).toList.take (sa+k)) hM.1);rw[<- ol,<- nl] at pm;exact pm
  ·have eu':N[p]?=some u:=eu;have ev':N[q]?=some v:=ev;rw[at_] at eu' ev';have mid:∀{j:Nat} {x:W3},sa+k<=j->j<sa+na+k'->merged.toList[j-(sa+k)]?=some x->(∃m,sa+k<=m/\m<sa+na/\(Xm st)[m]?=some x)\/∃m,sa+na<=m/\m<sa+na+k'/\(Xm st)[m]?=some x:=fun _ _ e=>by
    rcases XO.mp (hM.1.mem_iff.mp (XY e)) with z | z
    ·exact .inl (ext_mem X3 z)
    ·exact .inr (ext_mem Y3 z)
   by_cases c1:p<sa+k
   ·rw[bq (by lia)] at eu';by_cases c2:q<sa+k
    ·rw[bq (by lia)] at ev';exact yS u1 h1 h2 (by lia) eu' ev'
    ·have low:∀{m:Nat} {x:W3},sa+na<=m->m<sa+na+nb->(Xm st)[m]?=some x->rk u<=rk x:=fun m1 m2 em=>by
      have q1:=g1 (p-sa) u (by lia) (by rw[show sa+(p-sa)=p by lia];exact eu');exact Vz q1 (yS u2 (XW _) m1 m2 eb0 em)
     by_cases c3:q<sa+na+k'
     ·rw[bw ⟨by lia,c3⟩] at ev';rcases mid (by lia) c3 ev' with ⟨m,m1,m2,em⟩ | ⟨m,m1,m2,em⟩
      ·exact yS u1 h1 (by lia) m2 eu' em
      ·exact low m1 (by lia) em
     ·rw[bq (by lia)] at ev';exact low (by lia) h3 ev'
   ·by_cases c4:p<sa+na+k'
    ·rw[bw ⟨by lia,c4⟩] at eu';by_cases c3:q<sa+na+k'
     ·rw[bw ⟨by lia,c3⟩] at ev';by_cases epq:p=q
      ·subst epq;rw[eu'] at ev';cases ev';exact U5 _
      ·have sp:=hM.2;rw[Vr] at sp;obtain⟨a1,a2⟩:=X2.mp eu';obtain⟨b1,b2⟩:=X2.mp ev';have:=sp _ _ a1 b1 (by lia);rw[a2,b2] at this;exact this
     ·rw[bq (by lia)] at ev';have q4:=g4 (q-(sa+na)) v (by lia) (by lia) (by rw[show sa+na+(q-(sa+na))=q by lia];exact ev');rcases mid (by lia) c4 eu' with ⟨m,m1,m2,em⟩ | ⟨m,m1,m2,em⟩
      ·exact Vz (yS u1 (by lia) (by lia) (by lia) em eal') q4
      ·exact yS u2 m1 (by lia) h3 em ev'
    ·rw[bq (by lia)] at eu' ev';exact yS u2 (by lia) h2 h3 eu' ev'
  ·show N[j]?=_;rw[at_,bq (by lia)]
 refine qx (fun _=>?_) fun _=>?_
 ·refine XD (zjP T k1 xm ym xs ys (Ta (show 0<na-k by lia) xz.symm) (Ta (show 0<k' by lia) yz.symm) (fun x y ex my=>V1 (first x y ex my)) last fun out st2 K2 hM=>?_);refine XD (Tf (XD (Se ?_)));rw[show (S1 st2).isNone=true by rw[K2.bad,ef];rfl];exact Xo (tail out st2 K2 hM)
 ·refine XD (zjQ T k1 xm ym xs ys (Ta (show 0<na-k by lia) xz.symm) (Ta (show 0<k' by lia) yz.symm) first last fun out st2 K2 hM=>?_);refine XD (Tf (XD (Se ?_)));rw[show (S1 st2).isNone=true by rw[K2.bad,ef];rfl];exact Xo (tail out st2 K2 hM)
end
end GS
namespace GS
def Qp:List (Nat×Nat×Nat)->Nat->Nat->Prop
 | [],s,e=>s=e
 | r::l,s,e=>r.1=s/\1<=r.2.1/\Qp l (s+r.2.1) e
theorem yI:∀{l1 l2:List (Nat×Nat×Nat)} {s e:Nat},Qp (l1++l2) s e ↔ ∃m,Qp l1 s m/\Qp l2 m e
 | [],l2,s,e=>⟨fun h=>⟨s,rfl,h⟩,fun ⟨m,h1,h2⟩=>by
  have e:s=m:=h1;subst e;exact h2⟩
 | r::l1,l2,s,e=>by
  constructor
  ·rintro⟨h1,h2,h3⟩;obtain⟨m,h4,h5⟩:=yI.mp h3;exact⟨m,⟨h1,h2,h4⟩,h5⟩
  ·rintro⟨m,⟨h1,h2,h3⟩,h4⟩;exact⟨h1,h2,yI.mpr ⟨m,h3,h4⟩⟩
theorem YA:∀{l:List (Nat×Nat×Nat)} {s e:Nat},Qp l s e->s<=e/\l.length+s<=e/\∀r∈l,s<=r.1/\r.1+r.2.1<=e
 | [],s,e,h=>by
  have e':s=e:=h;subst e';exact⟨XW _,by simp,fun r hr=>nomatch hr⟩
 | r::l,s,e,⟨h1,h2,h3⟩=>by
  obtain⟨a1,a2,a3⟩:=YA h3;refine⟨by lia,by rw[XB];lia,fun q hq=>?_⟩;rcases Xz.mp hq with rfl | hq
  ·lia
  ·have:=a3 q hq;lia
section
variable {prog:Xi}{w:WS}{A:WL}{E:X9->X8->Prop}{s:X8}{rk:W3->Int}{κ:T3}{a0:Array W3}
structure PI (rk:W3->Int)(κ:T3)(a0:Array W3)(lo:Nat)(st:WH):Prop where
 ok:Ok κ a0 st
 til:Qp (WG st).toList 0 lo
 up:∀r∈(WG st).toList,Up rk (Xm st) r.1 (r.1+r.2.1)
theorem zbP {xs ys:Array W3}{lo hi:Nat}(u:Up rk xs lo hi)(h:∀j:Nat,lo<=j->j<hi->ys[j]?=xs[j]?):Up rk ys lo hi:=fun i j h1 h2 h3=>by
 rw[Jz (h i h1 (by lia)),Jz (h j (by lia) h3)];exact u i j h1 h2 h3
theorem zpd {p:List (Nat×Nat×Nat)}{i:Nat}(h:i+1<p.length):∃l1 r1 r2 l2,p=l1++r1::r2::l2/\l1.length=i/\p[i]?=some r1/\p[i+1]?=some r2:=by
 refine⟨p.take i,p[i],p[i+1],p.drop (i+2),?_,by rw[Xw];lia,XX (by lia),XX h⟩;rw[<- Wn h,<- Wn (by lia),Ws]
theorem zf3 {st:WH}{lo i:Nat}{Q:Bool->WH->Prop}(T:Tells prog w A s κ rk a0)(P:PI rk κ a0 lo st)(hi:i+1<(WG st).size)(hlo:lo<=a0.size)
  (h:∀st',PI rk κ a0 lo st'->(WG st').size+1=(WG st).size->(∀j:Nat,lo<=j->(Xm st')[j]?=(Xm st)[j]?)->Q true st'):wpS (Xf prog w) A E s (mergeAt' i) Q st:=by
 obtain⟨l1,⟨sa,na,p1⟩,⟨sb,nb,p2⟩,l2,ep,el,e1,e2⟩:=zpd (p:=(WG st).toList) (i:=i) (by rw[XZ];exact hi);have til:=P.til;rw[ep] at til;obtain⟨m,t1,⟨a1,a2,a3,a4,a5⟩⟩:=yI.mp til;dsimp only at a1 a2 a3 a4 a5;subst a1;subst a3;rw[Xq] at e1 e2;have u1:=P.up (sa,na,p1) (by rw[ep];simp);have u2:=P.up (sa+na,nb,p2) (by rw[ep];simp);dsimp only at u1 u2;obtain⟨b1,b2,b3⟩:=YA a5;obtain⟨c1,c2,c3⟩:=YA t1;refine zjR T P.ok e1 e2 a2 a4 (by lia) u1 u2 fun st' O' ep' up' out'=>?_;have el':(WG st').toList=l1++(sa,na+nb,p1)::l2:=by
  rw[ep',Array.toList_eraseIdxIfInBounds,RC,ep,<- el];rw[List.set_append_right _ _ (XW _),SW,List.set_cons_zero,List.eraseIdx_append_of_length_le (by lia),show l1.length+1-l1.length=1 by lia];rfl
 refine h st' ⟨O',?_,fun r hr=>?_⟩ ?_ fun j hj=>out' j (by lia)
 ·rw[el'];exact yI.mpr ⟨sa,t1,rfl,by show 1<=na+nb;lia,by rw[show sa+(na+nb)=sa+na+nb by lia];exact a5⟩
 ·rw[el'] at hr;rcases XO.mp hr with hr | hr
  ·have:=c3 r hr;exact zbP (P.up r (by rw[ep];exact W5 _ hr)) fun j h1 h2=>out' j (by lia)
  ·rcases Xz.mp hr with rfl | hr
   ·show Up rk (Xm st') sa (sa+(na+nb));rw[show sa+(na+nb)=sa+na+nb by lia];exact up'
   ·have:=b3 r hr;exact zbP (P.up r (by rw[ep];simp[hr])) fun j h1 h2=>out' j (by lia)
 ·rw[<- XZ,el',<- XZ,ep];simp only[X5,XB];lia
theorem PI.step {lo lo':Nat}{st st':WH}(P:PI rk κ a0 lo st)(S:Step κ a0 lo' st st')(h:lo<=lo'):PI rk κ a0 lo st':=by
 refine⟨S.ok,by rw[S.pend];exact P.til,fun r hr=>?_⟩;rw[S.pend] at hr;have:=(YA P.til).2.2 r hr;exact zbP (P.up r hr) fun j h1 h2=>S.low j (by lia)
theorem zbe (pw:Nat):∀{l:List (Nat×Nat×Nat)} {k s e:Nat},Qp l s e->Qp (l.modify k fun r=>(r.1,r.2.1,pw)) s e
 | [],k,s,e,h=>by
  cases k<;>exact h
 | r::l,0,s,e,⟨h1,h2,h3⟩=>⟨h1,h2,h3⟩
 | r::l,k+1,s,e,⟨h1,h2,h3⟩=>⟨h1,h2,zbe pw h3⟩
theorem zdV {pw:Nat}:∀{l:List (Nat×Nat×Nat)} {k:Nat} {r:Nat×Nat×Nat},r∈l.modify k (fun r=>(r.1,r.2.1,pw))->∃q∈l,q.1=r.1/\q.2.1=r.2.1
 | [],k,r,h=>by
  cases k<;>cases h
 | q::l,0,r,h=>by
  rcases Xz.mp h with rfl | h
  ·exact⟨q,XT,rfl,rfl⟩
  ·exact⟨r,XR _ h,rfl,rfl⟩
 | q::l,k+1,r,h=>by
  rcases Xz.mp h with rfl | h
  ·exact⟨r,XT,rfl,rfl⟩
  ·obtain⟨q',h1,h2⟩:=zdV h;exact⟨q',XR _ h1,h2⟩
theorem ite_le (c:Prop) [Decidable c](n:Nat):(if c then n-1 else n)<=n:=by
 split<;>lia
theorem zpe {st:WH}{Q:Unit->WH->Prop}(T:Tells prog w A s κ rk a0)(O:Ok κ a0 st)(hp:WG st=#[])(h:∀st',Ok κ a0 st'->Up rk (Xm st') 0 a0.size->Q () st'):wpS (Xf prog w) A E s sortRuns' Q st:=by
 rw[sortRuns'_eq];refine XD (Se ?_);dsimp only;rw[O.size];generalize minRun' a0.size a0.size 0=mr;refine XD (UA (V2 (I:=fun x c st'=>∃lo,c=(none,lo)/\PI rk κ a0 lo st'/\lo<=a0.size/\x<=lo)
  (Q:=fun c st'=>c=(none,a0.size)/\PI rk κ a0 a0.size st') ?step ?fin ⟨0,rfl,⟨O,by rw[hp];rfl,fun r hr=>by rw[hp] at hr;cases hr⟩,W4 _,XW _⟩) ?post)
 case fin =>
  rintro c st' ⟨lo,rfl,P,h1,h2⟩
  obtain rfl:lo=a0.size:=by lia
  exact⟨rfl,P⟩
 case step =>
  rintro x c st1 _ hx ⟨lo,rfl,P,h1,h2⟩
  dsimp only
  refine qx (fun hge=>?_) fun hge=>?_
  ·obtain rfl:lo=a0.size:=by lia
   exact Xo ⟨rfl,P⟩
  refine XD (zqx T P.ok (by lia) (by lia) fun m st2 S m1 m2 hu=>?_)
  dsimp only
  have P2:=P.step S (XW _)
  refine qx (fun hmr=>?_) fun hmr=>?_
  refine XD (Rb (Uo ⟨rfl,?_⟩))
  refine XD (zqy T S.ok (by lia) (by lia) hu fun st3 S3 hu3=>?_)
  rw[bq (by decide)]
  have P3:=P2.step S3 (XW _)
  have n1:1<=min (a0.size-lo) mr:=by lia
  have n2:lo+min (a0.size-lo) mr<=a0.size:=by lia
  clear P2 S3
  generalize min (a0.size-lo) mr=n at hu3 n1 n2 ⊢
  rotate_left
  have P3:=P2
  have hu3:=hu
  have n1:=m1
  have n2:lo+m<=a0.size:=by lia
  clear P2
  generalize m=n at hu3 n1 n2 ⊢
  generalize st2=st3 at P3 hu3 ⊢
  rotate_left
  all_goals
   refine XD (Se ?_)
   have fin:∀st4,PI rk κ a0 lo st4->Up rk (Xm st4) lo (lo+n)->PI rk κ a0 (lo+n) (setPending st4 ((WG st4).push (lo,n,0))):=fun st4 P4 u4=>by
    refine⟨⟨P4.ok.perm,P4.ok.kind,P4.ok.good⟩,?_,fun r hr=>?_⟩
    ·show Qp ((WG st4).push (lo,n,0)).toList 0 (lo+n);rw[SD];exact yI.mpr ⟨lo,P4.til,rfl,n1,rfl⟩
    ·have hr':r∈((WG st4).push (lo,n,0)).toList:=hr;rw[SD] at hr';rcases XO.mp hr' with hr' | hr'
     ·exact P4.up r hr'
     ·have er:r=(lo,n,0):=by simpa using hr'
      subst er;exact u4
   cases hbk:(WG st3).back? with
   | none =>
    dsimp only;exact XD (Tf (Xo ⟨lo+n,rfl,fin st3 P3 hu3,n2,by lia⟩))
   | some r =>
    obtain⟨s1,k1,q1⟩:=r;dsimp only;generalize power' a0.size (2*s1+k1) (2*s1+k1+k1+n) a0.size=pw;refine XD (UA (V2 (I:=fun _ c st4=>c=(none,())/\PI rk κ a0 lo st4/\Up rk (Xm st4) lo (lo+n)) (Q:=fun c st4=>c=(none,())/\PI rk κ a0 lo st4/\Up rk (Xm st4) lo (lo+n)) ?_ (fun _ _ hh=>hh) ⟨rfl,P3,hu3⟩) ?_)
    ·rintro y c st4 _ _ ⟨rfl,P4,u4⟩;refine XD (Se ?_);by_cases hz:(WG st4).size>1
     ·rw[bw hz,getElem?_pos (WG st4) ((WG st4).size-2) (by lia)];generalize (WG st4)[(WG st4).size-2]'(by lia)=r2;obtain⟨r2a,r2b,r2c⟩:=r2;dsimp only;refine qx (fun _=>Xo ⟨rfl,P4,u4⟩) fun _=>?_;refine XD (zf3 T P4 (by lia) h1 fun st5 P5 _ zrt=>?_);rw[bq (by decide)];exact Xo ⟨rfl,P5,zbP u4 fun j j1 _=>zrt j j1⟩
     ·rw[bq hz];exact Xo ⟨rfl,P4,u4⟩
    ·rintro c st4 ⟨rfl,P4,u4⟩;dsimp only;refine XD (Tf (XD (Tf (Xo ⟨lo+n,rfl,fin _ ⟨⟨P4.ok.perm,P4.ok.kind,P4.ok.good⟩,?_,fun r hr=>?_⟩ u4,n2,by lia⟩))))
     ·show Qp ((WG st4).modify ((WG st4).size-1) fun r=>(r.1,r.2.1,pw)).toList 0 lo;rw[ON];exact zbe pw P4.til
     ·have hr':r∈((WG st4).modify ((WG st4).size-1) fun r=>(r.1,r.2.1,pw)).toList:=hr;rw[ON] at hr';obtain⟨q,hq,e1,e2⟩:=zdV hr';have:=P4.up q hq;rw[e1,e2] at this;exact this
 case post =>
  rintro c st1 ⟨rfl,P⟩
  dsimp only
  have len0:=(YA P.til).2.1
  rw[XZ] at len0
  refine XD (UA (V2 (I:=fun x c st2=>c=(none,())/\PI rk κ a0 a0.size st2/\((WG st2).size+x<=a0.size\/(WG st2).size<=1)) (Q:=fun c st2=>c=(none,())/\PI rk κ a0 a0.size st2/\(WG st2).size<=1) ?step2 ?fin2 ⟨rfl,P,.inl (by lia)⟩) ?post2)
  case fin2 =>
   rintro c st2 ⟨rfl,P2,hz⟩
   exact⟨rfl,P2,by lia⟩
  case step2 =>
   rintro x c st2 _ hx ⟨rfl,P2,hz⟩
   refine XD (Se ?_)
   refine qx (fun h1=>Xo ⟨rfl,P2,h1⟩) fun h1=>?_
   refine XD (zf3 T P2 ?_ (XW _) fun st3 P3 z3 _=>?_)
   ·exact XA (O5 (ite_le _ _) 1) (show (WG st2).size-2+1<(WG st2).size by lia)
   ·rw[bq (by decide)];exact Xo ⟨rfl,P3,by lia⟩
  case post2 =>
   rintro c st2 ⟨rfl,P2,hz⟩
   dsimp only
   refine Xo (h st2 P2.ok ?_)
   have til:=P2.til
   have up:=P2.up
   have zl:(WG st2).toList.length<=1:=by rw[XZ];exact hz
   cases hl:(WG st2).toList with
   | nil =>
    rw[hl] at til;have e:0=a0.size:=til;exact fun i j _ _ h3=>absurd h3 (by lia)
   | cons r l =>
    rw[hl] at til zl up;obtain rfl:l=[]:=VW.mp (by rw[XB] at zl;lia);obtain⟨t1,t2,t3⟩:=til;have t3':0+r.2.1=a0.size:=t3;have u:=up r XT;rw[t1,t3'] at u;exact u
end
end GS
namespace GS
structure Wk {K:Type}(lt:K->K->Bool):Prop where
 tot:∀x y,lt x y=true->lt y x=false
 tr:∀x y z,lt y x=false->lt z y=false->lt z x=false
def rkK {K:Type}(lt:K->K->Bool)(ks:List K)(k:K):Int:=((ks.countP fun q=>lt q k:Nat):Int)
theorem count_le {K:Type}{p q:K->Bool}:∀{ks:List K},(∀x∈ks,p x=true->q x=true)->ks.countP p<=ks.countP q
 | [],_=>XW _
 | x::ks,h=>by
  have ih:=count_le (ks:=ks) fun y hy=>h y (XR _ hy);rw[WQ,WQ];have hx:=h x XT;by_cases c:p x=true
  ·rw[bw c,bw (hx c)];lia
  ·rw[bq c];lia
theorem zli {K:Type}{p q:K->Bool}{ks:List K}(h:∀x∈ks,p x=true->q x=true)(hq:∃x∈ks,p x=false/\q x=true):ks.countP p<ks.countP q:=by
 obtain⟨y,hy,h1,h2⟩:=hq;induction ks with
 | nil=>cases hy
 | cons x ks ih =>
  rw[WQ,WQ];have hx:=h x XT;rcases Xz.mp hy with rfl | hy
  ·have ih:=count_le (ks:=ks) fun y hy=>h y (XR _ hy);rw[h1,h2,bq XV,bw rfl];lia
  ·have ih:=ih (fun y hy=>h y (XR _ hy)) hy;by_cases c:p x=true
   ·rw[bw c,bw (hx c)];lia
   ·rw[bq c];lia
theorem Wk.rank {K:Type}{lt:K->K->Bool}(W:Wk lt){ks:List K}{x y:K}(hx:x∈ks):lt x y=decide (rkK lt ks x<rkK lt ks y):=by
 unfold rkK;cases h:lt x y with
 | true =>
  refine(br ?_).symm;have:=zli (ks:=ks) (p:=fun q=>lt q x) (q:=fun q=>lt q y) (fun q _ hq=>?_) ⟨x,hx,?_,h⟩
  ·lia
  ·cases hc:lt q y with
   | true=>rfl
   | false =>
    have:=W.tr x y q (W.tot x y h) hc;have hq':lt q x=true:=hq;rw[this] at hq';cases hq'
  ·cases hc:lt x x with
   | false=>rfl
   | true=>exact hc.symm.trans (W.tot x x hc)
 | false =>
  refine(bg ?_).symm;have:=count_le (ks:=ks) (p:=fun q=>lt q y) (q:=fun q=>lt q x) fun q _ hq=>by
   cases hc:lt q x with
   | true=>rfl
   | false =>
    have:=W.tr y x q h hc;have hq':lt q y=true:=hq;rw[this] at hq';cases hq'
  lia
section
variable {prog:Xi}{w:WS}{A:WL}{E:X9->X8->Prop}{s:X8}
theorem zdW {a:Addr}{vs:List X9}{n:Nat}{P:PySem.Fin->X8->Prop}(ho:s.heap.get? a=some (Ut "list" vs.toArray n))(hz:vs.length<=Xv)(r:X9->Int)
  (hk:2<=vs.length->∀s':X8,(∀b o,b≠a->s.heap.get? b=some o->s'.heap.get? b=some o)->W7 (Xf prog w) A (keyKind' vs.toArray) (fun κ s2=>s2=s'/\Tells prog w A s' κ (fun p=>r p.1) (OT vs)) (fun _ _=>False) s')
  (h:∀(ws:List X9) (h':Heap) (c:Nat),ws.Perm vs->ws.Pairwise (fun x y=>r x<=r y)->(∀b o,b≠a->s.heap.get? b=some o->h'.get? b=some o)->h'.get? a=some (Ut "list" ws.toArray c)->P (.done (.ret .none)) { s with heap:=h' }) :
  W7 (Xf prog w) A (UR.«list.sort» ⟨[.ref a],[]⟩) P E s:=by
 have lta:a<s.heap.objs.size:=XI ho;have hu1:=get?_update_seq ho fun _=>(#[]:Array X9);generalize hX:s.heap.update a (Va fun _=>(#[]:Array X9))=X1 at hu1;have zX:X1.objs.size=s.heap.objs.size:=by rw[<- hX,Heap.size_update]
 have kX:∀b o,b≠a->s.heap.get? b=some o->X1.get? b=some o:=fun b o hb e=>by
  rw[<- hX,RW _ _ _ _ hb];exact e
 obtain⟨e1,hu⟩:∃e1,X1.get? a=some (Ut "list" #[] e1):=⟨_,hu1⟩;generalize hY:(X1.push (Ut "tuple" vs.toArray 0)).push (Ut "list" #[] 0)=Y;have hYa:Y.get? a=some (Ut "list" #[] e1):=by
  rw[<- hY];exact X7 _ (X7 _ hu)
 have kY:∀b o,b≠a->s.heap.get? b=some o->Y.get? b=some o:=fun b o hb e=>by
  rw[<- hY];exact X7 _ (X7 _ (kX b o hb e))
 have last:∀(st:WH),(((Xm st).map (·.2)).toList.Perm vs)->(((Xm st).map (·.2)).toList.Pairwise fun x y=>r x<=r y)->S1 st=none ->
   W7 (Xf prog w) A (do
    let touched:=(<- seqEpoch a) != e1
    Builtin.List.listUpdate (.ref a) fun _=>(Xm st).map (·.2)
    if let some e:=S1 st then rule "list.sort.comparison-raised";throw e
    if touched then rule "list.sort.modified";raiseError "ValueError" "list modified during sort"
    ret .none) P E { s with heap:=Y }:=by
  intro st hp hs hf;generalize ew:(Xm st).map (·.2)=wsA at hp hs;rw[hf];have hlen:wsA.size=vs.length:=by rw[<- XZ,hp.length_eq]
  have hu2:=get?_update_seq hYa fun _=>wsA;refine Y1 (seqEpoch_at hYa rfl (Y1 (listUpdate_at hYa rfl ?_ (W4 _) (by rw[hlen];lia))));simp only[bne_self_eq_false,Wh,if_false];refine XS (h wsA.toList _ _ hp hs (fun b o hb e=>?_) hu2);rw[RW _ _ _ _ hb];exact kY b o hb e
 rw[list_sort_plain];refine Y1 (listItems_at ho rfl (Y1 (listUpdate_at ho rfl ?_ (by rw[Xn];exact hz) (W4 _))));rw[hX];refine Y1 (seqEpoch_at hu rfl (Y1 (wpAny_newTuple (Y1 (OE ?_ (W4 _))) hz)));show W7 (Xf prog w) A _ P E { s with heap:=(X1.push (Ut "tuple" vs.toArray 0)).push (Ut "list" #[] 0) };rw[hY];refine VY ?_;dsimp only;have e2:((OT vs).map (·.2)).toList=vs:=by
  rw[U3,Ux];exact List.map_snd_zip (XW _)
 by_cases c2:vs.toArray.size<2
 ·have c2':vs.length<2:=by rw[Xn] at c2;exact c2
  rw[bw c2,bw c2];refine Y1 (XS ?_);rw[StateT.run_pure];refine Y1 (XS ?_);refine last (SortSt.mk' general' (OT vs) #[] 7 none) (by show ((OT vs).map (·.2)).toList.Perm vs;rw[e2]) (by
   show ((OT vs).map (·.2)).toList.Pairwise _;rw[e2,Vr];intro i j hi hj hij;lia) rfl
 ·have c2':2<=vs.length:=by rw[Xn] at c2;lia
  rw[bq c2,bq c2];refine Y1 (Wg (hk c2' { s with heap:=Y } kY) (fun κ s2 ⟨e3,T⟩=>?_) fun _ _ x=>x.elim);subst e3;have run:=zpe (E:=E) (st:=SortSt.mk' κ (OT vs) #[] 7 none) (Q:=fun _ st'=>(((Xm st').map (·.2)).toList.Perm vs)/\(((Xm st').map (·.2)).toList.Pairwise fun x y=>r x<=r y)/\S1 st'=none) T ⟨Array.Perm.refl _,rfl,rfl⟩ rfl fun st' O hu=>?_
  ·unfold wpS at run;refine Y1 (Wg run ?_ fun _ _ z=>z);rintro⟨⟨⟩,st'⟩ s' ⟨rfl,hp,hs,hf⟩;exact last st' hp hs hf
  ·have pm:=UY.mp O.perm;have same:∀p∈(Xm st').toList,p.1=p.2:=fun p hp=>by
    have:=pm.mem_iff.mp hp;rw[Ux] at this;exact(RR this).1
   refine⟨?_,?_,O.good⟩
   ·have:=pm.map (·.2);rw[U3];rw[Ux,List.map_snd_zip (XW _)] at this;exact this
   ·rw[U3,We,Vr];intro i j hi hj hij;have zs:=O.size;rw[XZ] at hi hj;have u:=yS hu (i:=i) (j:=j) (W4 _) (by lia) (by lia) (getElem?_pos _ i hi) (getElem?_pos _ j hj);have s1:=same (Xm st')[i] (by simp);have s2:=same (Xm st')[j] (by simp);rw[UK,UK,<- s1,<- s2];exact u
theorem zjS {l:Addr}{vs:List X9}{Q:X9->X8->Prop}(hl:s.heap.IsList l vs.toArray)(hz:vs.length<=Xv)(r:X9->Int)
  (hk:2<=vs.length->∀s':X8,(∀b o,s.heap.get? b=some o->s'.heap.get? b=some o)->W7 (Xf prog w) A.in1.in1 (keyKind' vs.toArray) (fun κ s2=>s2=s'/\Tells prog w A.in1.in1 s' κ (fun p=>r p.1) (OT vs)) (fun _ _=>False) s')
  (h:∀(ws:List X9) (h':Heap) (c:Nat),ws.Perm vs->ws.Pairwise (fun x y=>r x<=r y)->(∀b o,s.heap.get? b=some o->h'.get? b=some o)->h'.get? (s.heap.objs.size+1)=some (Ut "list" ws.toArray c)->Q (.ref (s.heap.objs.size+1)) { s with heap:=h' }) :
  W7 (Xf prog w) A (call (.builtin "sorted") [.ref l]) Q E s:=by
 generalize hX:(s.heap.push (Ut "list" #[] 0)).update s.heap.objs.size (Va (·++vs.toArray))=X1;have zX:X1.objs.size=s.heap.objs.size+1:=by rw[<- hX,Heap.size_update,Vi]
 have kX:∀b o,s.heap.get? b=some o->X1.get? b=some o:=fun b o e=>by
  have lt:=XI e;rw[<- hX,RW _ _ _ _ (Xe lt)];exact X7 _ e
 apply Ry kind_sorted plain_sorted entry_sorted (args_sorted1 _);unfold UR.«sorted»;refine Y1 (m:=checkCount "sorted" 1 1 _) (XS (Y1 (collect_list hl ?_ hz)));rw[hX];refine Y1 (OE ?_ hz);show W7 _ _ _ _ _ { s with heap:=X1.push (Ut "list" vs.toArray 0) };have hoL:(X1.push (Ut "list" vs.toArray 0)).get? (s.heap.objs.size+1)=some (Ut "list" vs.toArray 0):=by
  rw[<- zX];exact Xd _ rfl
 have kL:∀b o,s.heap.get? b=some o->(X1.push (Ut "list" vs.toArray 0)).get? b=some o:=fun b o e=>X7 _ (kX b o e);have ne:∀b o,s.heap.get? b=some o->b≠s.heap.objs.size+1:=fun b o e=>Xe (Wx (XI e));rw[zX];refine Y1 (VY (Uw slot_list_sort ⟨_,hoL,rfl⟩ entry_list_sort (zdW (s:={ s with heap:=X1.push (Ut "list" vs.toArray 0) }) hoL hz r (fun c s' k=>hk c s' fun b o e=>k b o (ne b o e) (kL b o e)) ?_) (args_list_sort _)));intro ws h' c hp hs kk ha;exact⟨_,rfl,XS ⟨_,rfl,h ws h' c hp hs (fun b o e=>kk b o (ne b o e) (kL b o e)) ha⟩⟩
end
theorem zck {α β:Type}{R:α->β->Prop}{xs:List α}{ys:List β}(hp:WU R xs ys):(∀p∈xs.zip ys,R p.1 p.2)/\(xs.zip ys).map (·.1)=xs/\(xs.zip ys).map (·.2)=ys:=by
 induction hp with
 | nil=>exact⟨(fun p h=>nomatch h),rfl,rfl⟩
 | cons h _ ih =>
  obtain⟨a,b,c⟩:=ih;refine⟨fun p hp=>?_,by rw[List.zip_cons_cons,W9,b],by rw[List.zip_cons_cons,W9,c]⟩;rcases Xz.mp hp with rfl | hp
  ·exact h
  ·exact a p hp
theorem zdX {α β:Type}{R:α->β->Prop}:∀{zs:List (α × β)},(∀p∈zs,R p.1 p.2)->WU R (zs.map (·.1)) (zs.map (·.2))
 | [],_=>.nil
 | p::zs,h=>.cons (h p XT) (zdX fun q hq=>h q (XR _ hq))
end GS
namespace GS
theorem JA {α β:Type}{R:α->β->Prop}:∀{xs:List α} {ys:List β},WU R xs ys->∀x∈xs,∃y∈ys,R x y
 | _,_,.nil,x,h=>nomatch h
 | _,_,.cons h t,x,hx=>by
  rcases Xz.mp hx with rfl | hx
  ·exact⟨_,XT,h⟩
  ·obtain⟨y,h1,h2⟩:=JA t x hx;exact⟨y,XR _ h1,h2⟩
def Tri {K:Type}(RV:V->K->Prop)(RH:X9->K->Prop)(t:V×X9×K):Prop:=RelV t.1 t.2.1/\RV t.1 t.2.2/\RH t.2.1 t.2.2
theorem zpf {K:Type}{RV:V->K->Prop}{RH:X9->K->Prop}{us:List V}{its:List X9}{ks:List K}(h1:Vals us its):WU RV us ks->WU RH its ks->∃T:List (V×X9×K),(∀t∈T,Tri RV RH t)/\T.map (·.1)=us/\T.map (·.2.1)=its/\T.map (·.2.2)=ks:=by
 induction h1 generalizing ks with
 | nil =>
  intro h2 h3;cases h2;exact⟨[],(fun t h=>nomatch h),rfl,rfl,rfl⟩
 | @cons u i us its r1 t1 ih =>
  intro h2 h3;cases h2 with
  | @cons _ k _ ks r2 t2 =>
   cases h3 with
   | cons r3 t3 =>
    obtain⟨T,h1,h2,h3,h4⟩:=ih t2 t3;refine⟨(u,i,k)::T,fun t ht=>?_,by rw[W9,h2],by rw[W9,h3],by rw[W9,h4]⟩;rcases Xz.mp ht with rfl | ht
    ·exact⟨r1,r2,r3⟩
    ·exact h1 t ht
theorem zf4 {K:Type}{RV:V->K->Prop}{RH:X9->K->Prop}:∀{T:List (V×X9×K)},(∀t∈T,Tri RV RH t)->Vals (T.map (·.1)) (T.map (·.2.1))/\WU RV (T.map (·.1)) (T.map (·.2.2))
 | [],_=>⟨.nil,.nil⟩
 | t::T,h=>by
  obtain⟨h1,h2⟩:=zf4 fun x hx=>h x (XR _ hx);obtain⟨a,b,c⟩:=h t XT;exact⟨.cons a h1,.cons b h2⟩
section
variable {X:Cx}{bQ:List (Addr×Obj)}{σ:St}{H:Hp}{s:X8}{K:Type}
theorem zdY {lt:K->K->Bool}(W:Wk lt){RV:V->K->Prop}{RH:Heap->X9->K->Prop}(fn:∀h v k k',RH h v k->RH h v k'->k=k')(kp:∀h h' v k,(∀b o,h.get? b=some o->h'.get? b=some o)->RH h v k->RH h' v k)
  {l:Addr} {us:List V} {its:List X9} {ks:List K} {Q:VK} (I:Inv X bQ σ H s) (hl:s.heap.IsList l its.toArray) (hz:us.length<=1000000) (rv:Vals us its) (hv:WU RV us ks) (hp:WU (RH s.heap) its ks)
  (kind:∀s':X8,WU (RH s'.heap) its ks->2<=its.length->W7 (Xf X.prog X.w) X.A.in1.in1 (keyKind' its.toArray) (fun κ s2=>s2=s'/\∀v v' k k',RH s'.heap v k->RH s'.heap v' k'->∀C:Bool->X8->Prop,C (lt k k') s'->W7 (Xf X.prog X.w) X.A.in1.in1 (keyLt' κ v v') C (fun _ _=>False) s') (fun _ _=>False) s')
  (q:∀d us' ks',H d=none->WU RV us' ks'->ks'.Perm ks->ks'.Pairwise (fun x y=>lt y x=false)->(us'.Perm us)->Q (.ref d) (upd H d (.lst us'))) :
  W7 (Xf X.prog X.w) X.A (call (.builtin "sorted") [.ref l]) (EP X bQ σ Q) X.xe s:=by
 classical
 have hil:=rv.length;obtain⟨T,hT,e1,e2,e3⟩:=zpf rv hv hp;let r:X9->Int:=fun v=>if h:∃k,RH s.heap v k then rkK lt ks h.choose else 0
 have rk_:∀{v:X9} {k:K},RH s.heap v k->r v=rkK lt ks k:=fun {v k} h=>by
  have hx:∃k,RH s.heap v k:=⟨k,h⟩;show (if h:∃k,RH s.heap v k then rkK lt ks h.choose else 0)=_;rw[dif_pos hx,fn _ _ _ _ hx.choose_spec h]
 have z1:its.length<=Xv:=by
  rw[<- hil,Uu];lia
 refine zjS (vs:=its) hl z1 r (fun h2 s' kk=>?_) fun ws h' c hpm hs kk ha=>?_
 ·have hp':WU (RH s'.heap) its ks:=by
   obtain⟨a,b,c⟩:=zck hp;have:=zdX (R:=RH s'.heap) (zs:=its.zip ks) fun p hp=>kp _ _ _ _ kk (a p hp);rw[b,c] at this;exact this
  refine Wg (kind s' hp' h2) (fun κ s2 ⟨e,hc⟩=>⟨e,fun x hx y hy C hC=>?_⟩) fun _ _ z=>z;have mx:x.1∈its:=by
   rw[Ux] at hx;exact(RR hx).2
  have my:y.1∈its:=by
   rw[Ux] at hy;exact(RR hy).2
  obtain⟨k,k1,k2⟩:=JA hp x.1 mx;obtain⟨k',k1',k2'⟩:=JA hp y.1 my;refine hc x.1 y.1 k k' (kp _ _ _ _ kk k2) (kp _ _ _ _ kk k2') C ?_;have hC':C (decide (r x.1<r y.1)) s':=hC;rw[rk_ k2,rk_ k2',<- W.rank k1] at hC';exact hC'
 ·obtain⟨T',hT',eT⟩:=ST.zch (fun t:V×X9×K=>t.2.1) hpm T e2.symm;have hTr:∀t∈T',Tri RV (RH s.heap) t:=fun t ht=>hT t (hT'.mem_iff.mp ht);obtain⟨rv',hv'⟩:=zf4 hTr;rw[<- eT] at rv';have hD:H (s.heap.objs.size+1)=none:=I.hok.fresh (VT _);refine⟨.ref (s.heap.objs.size+1),upd H (s.heap.objs.size+1) (.lst (T'.map (·.1))),I.laid (t':=s.toks) kk (VT _) ⟨?_,ws,c,rv',ha⟩,rfl,q _ _ _ hD hv' (by rw[<- e3];exact hT'.map _) ?_ (by rw[<- e1];exact hT'.map _)⟩
  ·rw[rv'.length,hpm.length_eq];exact z1
  ·rw[eT,We] at hs;rw[We];refine hs.imp_of_mem fun {x y} hx hy h=>?_;obtain⟨_,_,h1⟩:=hTr x hx;obtain⟨_,_,h2⟩:=hTr y hy;rw[rk_ h1,rk_ h2] at h;have my:y.2.2∈ks:=by
    rw[<- e3];exact XU.mpr ⟨y,hT'.mem_iff.mp hy,rfl⟩
   rw[W.rank my];exact bg (by lia)
end
theorem zlj:Wk lt2:=by
 refine⟨fun x y h=>?_,fun x y z h1 h2=>?_⟩
 ·cases e:lt2 y x with
  | false=>rfl
  | true =>
   have:=zhh h e;rw[ziA] at this;cases this
 ·cases e:lt2 z x with
  | false=>rfl
  | true =>
   by_cases exy:x=y
   ·subst exy;rw[e] at h2;exact h2
   ·have h3:lt2 x y=true:=by
     have:=zad (p:=x) (q:=y) exy;rw[h1] at this;cases hh:lt2 x y with
     | true=>rfl
     | false =>
      rw[hh] at this;cases this
    have:=zhh e h3;rw[this] at h2;exact h2
theorem ze2 {h:Heap}{v:X9}{p q:Int×Int}(h1:zw h v p)(h2:zw h v q):p=q:=by
 obtain⟨a,o,n,t,u,e,e1,c1,d1⟩:=h1;obtain⟨a',o',n',t',u',e',e1',c1',d1'⟩:=h2;subst e;cases e';rw[e1] at e1';cases e1';rw[d1] at d1';obtain⟨p1,p2⟩:=p;obtain⟨q1,q2⟩:=q;injection d1' with d1' _
 have e2:[Vw p1 t,Vw p2 u]=[Vw q1 t',Vw q2 u']:=congrArg Oq d1';injection e2 with e3 e4
 injection e4 with e4 _
 injection e3 with e3 _
 injection e4 with e4 _
 rw[e3,e4]
section
variable {X:Cx}
theorem zdk:jM X (.builtin "sorted") (fun xs H Q=>∃l us ps,xs=[.ref l]/\SqL X.K H l us/\ju H us ps/\us.length<=1000000 /\
  ∀d us' ps',H d=none->ju H us' ps'->ps'.Perm ps->ps'.Pairwise (fun p q=>lt2 q p=false)->Q (.ref d) (upd H d (.lst us'))):=by
 intro bQ s σ H xs us' Q I r h;obtain⟨l,us,ps,rfl,hq,ht,hz,q⟩:=h;obtain⟨u,rfl,ru⟩:=vals1 r;cases ru;obtain⟨its,rv,pl,_⟩:=I.list hq;have hp:=ju.pairs I ht rv;refine zdY zlj (RH:=zw) (fun h v k k'=>ze2) (fun h h' v k kk ⟨a,o,n,t,u,e,e1,r⟩=>⟨a,o,n,t,u,e,kk _ _ e1,r⟩) I pl.isList hz rv ht hp (fun s' hp' h2=>?_) fun d us' ks' hd h1 h2 h3 _=>q d us' ks' hd h1 h2 h3;obtain⟨fs,hk,hfl,hint⟩:=ZR hp';refine kat_kind (T:=.type "int") hk (by lia) (fun v hv=>?_) (by decide) ⟨rfl,fun v v' k k' h1 h2 C hC=>?_⟩
 ·obtain⟨x,t,rfl⟩:=hint v hv;exact Looks.of_pure rfl
 ·exact ziz h1 h2 hC
end
end GS
end L2
namespace PySem.SeqAt
open L2 AutoSeq1 MeetsSeq MeetsSeq2 MeetsSeq3
end PySem.SeqAt
namespace L2
open PySem PySem.Spec PyProof.Rows PySem.W PySem.SeqAt
end L2
namespace PySem.SeqAt
open L2 AutoSeq1 MeetsSeq MeetsSeq2 MeetsSeq3
def ltL:List (Int×Int)->List (Int×Int)->Bool
 | _,[]=>false
 | [],_::_=>true
 | p::r,q::t=>if p=q then ltL r t else lt2 p q
theorem ze3 (ps:List (Int×Int)):ltL ps []=false:=by cases ps<;>rfl
theorem ziO:∀ps:List (Int×Int),ltL ps ps=false
 | []=>rfl
 | p::r=>by
  unfold ltL;rw[bw rfl];exact ziO r
theorem ziP:∀{ps qs:List (Int×Int)},ps≠qs->ltL qs ps=!ltL ps qs
 | [],[],h=>absurd rfl h
 | [],q::t,_=>rfl
 | p::r,[],_=>rfl
 | p::r,q::t,h=>by
  unfold ltL;by_cases e:p=q
  ·subst e;rw[bw rfl,bw rfl];exact ziP fun z=>h (by rw[z])
  ·rw[bq e,bq (Vs e)];exact zad e
theorem zhq:∀{ps qs ss:List (Int×Int)},ltL ps qs=true->ltL qs ss=true->ltL ps ss=true
 | ps,[],_,h,_=>by
  rw[ze3] at h;cases h
 | _,_::_,[],_,h=>by
  rw[ze3] at h;cases h
 | [],_::_,_::_,_,_=>rfl
 | p::r,q::t,x::y,h1,h2=>by
  unfold ltL at *
  by_cases e1:p=q
  ·subst e1;rw[bw rfl] at h1;by_cases e2:p=x
   ·rw[bw e2] at h2 ⊢;exact zhq h1 h2
   ·rw[bq e2] at h2 ⊢;exact h2
  ·rw[bq e1] at h1;by_cases e2:q=x
   ·subst e2;rw[bq e1];exact h1
   ·rw[bq e2] at h2;have h3:=zhh h1 h2;rw[bq]
    ·exact h3
    ·intro e;subst e;rw[ziA] at h3;cases h3
theorem zhr {A:WL}{s:X8}{v v':X9}{p q:Int×Int}(h1:zw s.heap v p)(h2:zw s.heap v' q)(hu:A.units+10<Vl):EqAt A s v v' (decide (p=q)):=by
 obtain⟨as,ra⟩:=Qm h1;obtain⟨bs,rb⟩:=Qm h2;have:=eqAt_reads _ _ A s _ _ as bs ra rb rfl rfl (by show A.units+min 1 1<Vl;lia);rw[zdM] at this;exact this
theorem Zm {h:Heap}{xs:Array X9}{ps:List (Int×Int)}(hp:WU (zw h) xs.toList ps){i:Nat}(hi:i<xs.size):∃p r,ps.drop i=p::r/\ps.drop (i+1)=r/\zw h xs[i] p:=by
 have hl:xs.toList.length=ps.length:=Paired.length hp;rw[XZ] at hl;have h2:i<ps.length:=by lia
 obtain⟨a,b,c⟩:=GS.zck hp;refine⟨ps[i],ps.drop (i+1),Wn h2,rfl,?_⟩;have hz:i<(xs.toList.zip ps).length:=by
  rw[List.length_zip,XZ];lia
 have:=a _ (TN hz);rw[List.getElem_zip] at this;simpa using this
theorem zjT (l b:Addr)(items items2:Array X9)(n n2:Nat)(dd dd2:Option Addr)(sl sl2:Array (Option X9))(ps qs:List (Int×Int))(k:Nat) :
  ∀i:Nat,items.size-i=k->i<=items.size->i<=items2.size->Meets (UR.«list.__eq__.loop» ⟨[.ref l,.ref b,Ub i,Ub 0],[]⟩)
   (fun A R s=>s.heap.get? l=some { cls:=.type "list",dict:=dd,data:=.seq items n,slots:=sl }/\s.heap.get? b=some { cls:=.type "list",dict:=dd2,data:=.seq items2 n2,slots:=sl2 } /\
    WU (zw s.heap) items.toList ps/\WU (zw s.heap) items2.toList qs/\A.units+20<Vl /\
    R (.ok (.ret (.bool (ltL (ps.drop i) (qs.drop i))))) s):=by
 induction k with
 | zero =>
  intro i hk h1 h2 prog w A R s h;obtain⟨hp,g,d,tk,os⟩:=s;obtain⟨hl,hb,hp1,hp2,hu,h⟩:=h;have l1:items.toList.length=ps.length:=Paired.length hp1;have l2:items2.toList.length=qs.length:=Paired.length hp2;rw[XZ] at l1 l2;wp_walk using V7 hl,V7 hb;have hi1:items[((i:Nat):Int).toNat]?=none:=by simp;lia
  rw[hi1];have hd:ps.drop i=[]:=by simp;lia
  have e:ltL (ps.drop i) (qs.drop i)=decide (items.size<items2.size):=by
   rw[hd];by_cases hq:i<qs.length
   ·rw[Wn hq];exact(br (by lia)).symm
   ·rw[List.drop_of_length_le (by lia)];exact(bg (by lia)).symm
  rw[e] at h;wp_walk using V7 hl,V7 hb;exact h
 | succ k ih =>
  intro i hk h1 h2 prog w A R s h;obtain⟨hp,g,d,tk,os⟩:=s;obtain⟨hl,hb,hp1,hp2,hu,h⟩:=h;have l1:items.toList.length=ps.length:=Paired.length hp1;have l2:items2.toList.length=qs.length:=Paired.length hp2;rw[XZ] at l1 l2;wp_walk using V7 hl,V7 hb;have hlt:i<items.size:=by lia
  have hi1:items[((i:Nat):Int).toNat]?=some items[i]:=by simp[hlt]
  by_cases hlt2:i<items2.size
  ·have hi2:items2[((i:Nat):Int).toNat]?=some items2[i]:=by simp[hlt2]
   have hc:((i:Int)+1)=((i+1:Nat):Int):=by push_cast;rfl
   obtain⟨p,r,ep,er,rp⟩:=Zm hp1 hlt;obtain⟨q,t,eq,et,rq⟩:=Zm hp2 hlt2;rw[hi1,hi2];refine Y1 (zhr rp rq (by show A.units+1+10<Vl;lia) prog w _ _ ?_);rw[ep,eq] at h;unfold ltL at h;by_cases e:p=q
   ·rw[bw e] at h;rw[br e];wp_walk;rw[hc];exact⟨UH plain_eq_loop _,VQ entry_eq_loop (by
     rw[V4 plain_eq_loop _];exact ih (i+1) (by lia) (by lia) (by lia) prog w A R _ ⟨hl,hb,hp1,hp2,hu,by rw[er,et];exact h⟩)⟩
   ·rw[bq e] at h;rw[bg e];simp only[Wh,if_false];refine Y1 (Rx hl rfl (Y1 (Rx hb rfl ?_)));rw[hi1,hi2];exact Y1 (QH.pairs rp rq (by show A.units+1<Vl;lia) prog w _ _ (XS h))
  ·have hi2:items2[((i:Nat):Int).toNat]?=none:=by simp;lia
   rw[hi1,hi2];have hd:qs.drop i=[]:=by simp;lia
   rw[hd,ze3,show false=decide (items.size<items2.size) from (bg (by lia)).symm] at h;wp_walk using V7 hl,V7 hb;exact h
theorem zhs (l b:Addr)(items items2:Array X9)(n n2:Nat)(dd dd2:Option Addr)(sl sl2:Array (Option X9))(ps qs:List (Int×Int)) :
  Meets (UR.«list.__lt__» ⟨[.ref l,.ref b],[]⟩)
   (fun A R s=>s.heap.get? l=some { cls:=.type "list",dict:=dd,data:=.seq items n,slots:=sl }/\s.heap.get? b=some { cls:=.type "list",dict:=dd2,data:=.seq items2 n2,slots:=sl2 } /\
    WU (zw s.heap) items.toList ps/\WU (zw s.heap) items2.toList qs/\A.units+20<Vl/\R (.ok (.ret (.bool (ltL ps qs)))) s):=by
 intro prog w A R s h;obtain⟨hp1,g1,d1,tk1,os1⟩:=s;obtain⟨hL,hB,hp,hq,hu,h⟩:=h;have fL:=sub_list_list;wp_walk using V7 hL,V7 hB;exact⟨UH plain_eq_loop _,VQ entry_eq_loop (by
  rw[V4 plain_eq_loop _];exact zjT l b items items2 n n2 dd dd2 sl sl2 ps qs _ 0 rfl (W4 _) (W4 _) prog w A R _ ⟨hL,hB,hp,hq,hu,by simpa using h⟩)⟩
structure ListPairs (h:Heap)(v:X9)(ps:List (Int×Int)):Prop where
 ex:∃a o xs n,v=.ref a/\h.get? a=some o/\o.cls=.type "list"/\o.data=.seq xs n/\WU (zw h) xs.toList ps
theorem zlk {prog:Xi}{w:WS}{A:WL}{E:X9->X8->Prop}{s:X8}{v v':X9}{ps qs:List (Int×Int)}{C:Bool->X8->Prop}(hv:ListPairs s.heap v ps)(hv':ListPairs s.heap v' qs)(hu:A.units+30<Vl)(h:C (ltL ps qs) s) :
  W7 (Xf prog w) A (PyProof.Rows.keyLt' PyProof.Rows.oneType' v v') C E s:=by
 obtain⟨a,⟨cls,dd,data,sl⟩,xs,n,rfl,e1,c1,d1,p1⟩:=hv;obtain⟨a',⟨cls2,dd2,data2,sl2⟩,xs',n',rfl,e1',c1',d1',p1'⟩:=hv';simp only at c1 d1 c1' d1';subst c1 d1 c1' d1';rw[PyProof.Rows.keyLt'_oneType,PyProof.Rows.oneLt'_eq];simp only[if_true];refine Y1 (wpAny_cRoomFor (by lia) ?_);refine Y1 (wpAny_callSpecialIfBound?_slot (T:="list") ⟨_,e1,rfl⟩ F.slot_list_lt ?_);refine Th F.slot_list_lt ⟨_,e1,rfl⟩ F.entry_list_lt (F.args_list_lt_2 _ _) (zhs a a' xs xs' n n' dd dd2 sl sl2 ps qs) ⟨e1,e1',p1,p1',(by lia),?_⟩;exact VN h
end PySem.SeqAt
namespace L2
open PySem PySem.Spec PyProof.Rows PySem.W PySem.SeqAt
namespace GS
theorem zpg:Wk ltL:=by
 refine⟨fun x y h=>?_,fun x y z h1 h2=>?_⟩
 ·cases e:ltL y x with
  | false=>rfl
  | true =>
   have:=zhq h e;rw[ziO] at this;cases this
 ·cases e:ltL z x with
  | false=>rfl
  | true =>
   by_cases exy:x=y
   ·subst exy;rw[e] at h2;exact h2
   ·have h3:ltL x y=true:=by
     have:=ziP (ps:=x) (qs:=y) exy;rw[h1] at this;cases hh:ltL x y with
     | true=>rfl
     | false =>
      rw[hh] at this;cases this
    have:=zhq e h3;rw[this] at h2;exact h2
def LstAt (H:Hp)(v:V)(ps:List (Int×Int)):Prop:=∃a ws,v=V.ref a/\H a=some (.lst ws)/\ju H ws ps
theorem zjU {h:Heap}{vs:List X9}{ps qs:List (Int×Int)}(hp:WU (zw h) vs ps):WU (zw h) vs qs->ps=qs:=by
 induction hp generalizing qs with
 | nil =>
  intro hq;cases hq;rfl
 | cons a _ ih =>
  intro hq;cases hq with
  | cons b u=>rw[ze2 a b,ih u]
theorem zll {h:Heap}{v:X9}{ps qs:List (Int×Int)}(h1:ListPairs h v ps)(h2:ListPairs h v qs):ps=qs:=by
 obtain⟨a,o,xs,n,e,e1,c1,d1,p1⟩:=h1;obtain⟨a',o',xs',n',e',e1',c1',d1',p1'⟩:=h2;subst e;cases e';rw[e1] at e1';cases e1';rw[d1] at d1';injection d1' with d1' _
 subst d1';exact zjU p1 p1'
theorem ZQ {h h':Heap}(k:∀b o,h.get? b=some o->h'.get? b=some o){vs:List X9}{ps:List (Int×Int)}(hp:WU (zw h) vs ps):WU (zw h') vs ps:=by
 induction hp with
 | nil=>exact .nil
 | cons q _ ih =>
  obtain⟨a,o,n,t,u,e,e1,r⟩:=q;exact .cons ⟨a,o,n,t,u,e,k _ _ e1,r⟩ ih
section
variable {X:Cx}{bQ:List (Addr×Obj)}{σ:St}{H:Hp}{s:X8}
theorem zht (I:Inv X bQ σ H s){us:List V}{ks:List (List (Int×Int))}{its:List X9}(hp:WU (LstAt H) us ks)(r:Vals us its):WU (ListPairs s.heap) its ks:=by
 induction hp generalizing its with
 | nil =>
  cases r;exact .nil
 | cons q _ ih =>
  obtain⟨a,ws,e,h,ht⟩:=q;subst e;cases r with
  | cons r1 r2 =>
   cases r1;refine .cons ?_ (ih r2);obtain⟨z,its,n,rv,hl,e⟩:=I.lstM h;exact⟨a,_,its.toArray,n,rfl,e,rfl,rfl,by rw[List.toList_toArray];exact ju.pairs I ht rv⟩
end
theorem zhu {h:Heap}{its:List X9}{ks:List (List (Int×Int))}(hp:WU (ListPairs h) its ks):∀v∈its,∃a o,v=Wz a/\h.get? a=some o/\o.cls=.type "list":=by
 induction hp with
 | nil=>exact fun v hv=>nomatch hv
 | cons q _ ih =>
  intro v hv;rcases Xz.mp hv with rfl | hv
  ·obtain⟨a,o,xs,n,e,e1,c,_⟩:=q;exact⟨a,o,e,e1,c⟩
  ·exact ih v hv
section
variable {X:Cx}
theorem Qq (hu:X.A.units+64<Vl):jM X (.builtin "sorted") (fun xs H Q=>∃l us ks,xs=[.ref l]/\SqL X.K H l us/\WU (LstAt H) us ks/\us.length<=1000000 /\
  ∀d us' ks',H d=none->WU (LstAt H) us' ks'->ks'.Perm ks->ks'.Pairwise (fun p q=>ltL q p=false)->us'.Perm us->Q (.ref d) (upd H d (.lst us'))):=by
 intro bQ s σ H xs us' Q I r h;obtain⟨l,us,ks,rfl,hq,ht,hz,q⟩:=h;obtain⟨u,rfl,ru⟩:=vals1 r;cases ru;obtain⟨its,rv,pl,_⟩:=I.list hq;have hp:=zht I ht rv;refine zdY zpg (RH:=ListPairs) (fun h v k k'=>zll) (fun h h' v k kk ⟨a,o,xs,n,e,e1,c,d,r⟩=>⟨a,o,xs,n,e,kk _ _ e1,c,d,ZQ kk r⟩) I pl.isList hz rv ht hp (fun s' hp' h2=>?_) fun d us' ks' hd h1 h2 h3 h4=>q d us' ks' hd h1 h2 h3 h4;refine kas_kind (T:=.type "list") h2 (fun v hv=>?_) (by decide) (by decide) ⟨rfl,fun v v' k k' h1 h2 C hC=>?_⟩
 ·obtain⟨a,o,rfl,e1,c1⟩:=zhu hp' v hv;exact c1 ▸ (Looks.ld e1).andThen .now
 ·exact zlk h1 h2 (by show X.A.units+1+1+30<Vl;lia) hC
end
end GS
open PySem PySem.Spec PyProof.Rows
section
variable {X:Cx}{K:X0}
theorem zlm (hK:X.K=K):MtR X "str.join" (rJoin K):=by
 subst hK;exact zeN
theorem zf5 (hK:X.K=K):SlR X (zqm K):=by
 subst hK;exact ziw
theorem zcl (hK:X.K=K):OpR X (Wf .In) (rIn K false):=by
 subst hK;exact zju
theorem zph {T:String}{name:Str}{id:String}{r:V->List V->Hp->VK->Prop}{o e:Expr}{es:List Expr}{to:TE}{t:TA}{apos cpos:Pos}(hK:X.K=K)(pa:PlainAttrs T)(slot:Slot T name id)(hty:typeOf (.builtin id)=pure (.type "method_descriptor"))(hm:MtR X id r)(ho:PE X o to)(ha:PA X (e::es) t)
  (h1:OI o name X.env (eval o X.env)=eval o X.env:=by rfl)
  (h2:((S4 cpos (Wp (e::es) X.env)).all (fun x=>!x.1)&&(backToKw cpos (keywordEach [] X.env)).all (fun x=>x.1.isSome)
   && decide ((e::es).length+([]:List Oe).length+(if ([]:List Oe).isEmpty then 0 else 1)<30))=true:=by rfl)
  (h3:(apos.endLine==cpos.line)=true:=by rfl) (h4:Wp (e::es) X.env=(false,eval e X.env)::Wp es X.env:=by rfl) (h5:(S4 cpos (Wp es X.env)).any (·.1)=false:=by rfl) :
  PE X (.Call (.Attribute o name apos) (e::es) [] cpos) (tBM K T r to t):=by
 subst hK;exact yG pa slot hty hm ho ha h1 h2 h3 h4 h5
end
def HasDef (K:X0)(x:Str)(st:Stmt):Prop:=∃(f:Addr) (oc:X9) (od an:Option Addr) (sl:Array (Option X9)) (kV dc pm cd ct:X9),XM K XQ x=some (some (.ref f))/\K.lookup f=some ⟨oc,od,.func (UO x x (JK st) (yU st) (zj st) .none kV dc pm an cd ct),sl⟩/\SQ K cd x=true/\T1 K (.ref f)=true
theorem HasDef.at {K:X0}{h:Heap}{mg:Str->Option X9}{x:Str}{st:Stmt}{ps:List Str}(H:HasDef K x st)(X:K.In h)(G:h.Ns XQ mg)
  (hb:∀(kV doc pm:X9) (an:Option Addr) (cdv ct:X9) (us:List X9),us.length=ps.length->bindArgs (UO x x (JK st) (yU st) (zj st) .none kV doc pm an cdv ct) ⟨us,[]⟩=pure (ps.zip us)):∃f fd,zm K mg x st ps f fd:=by
 obtain⟨f,oc,od,an,sl,kV,dc,pm,cd,ct,a,l,c,k⟩:=H;have F:=zkC (st:=st) l c k;exact⟨f,_,F,Wc X G a,F.binds hb⟩
open PySem PySem.W
theorem us0 {P:List X9->Prop}(h:P []):∀us:List X9,us.length=0->P us:=by
 intro us e;cases us with
 | nil=>exact h
 | cons a t=>cases e
theorem usS {n:Nat}{P:List X9->Prop}(h:∀a t,t.length=n->P (a::t)):∀us:List X9,us.length=n+1->P us:=by
 intro us e;cases us with
 | nil=>cases e
 | cons a t=>exact h a t (Nat.succ.inj e)
theorem us1 {P:List X9->Prop}(h:∀a,P [a]):∀us:List X9,us.length=1->P us:=usS fun a=>us0 (h a)
theorem us2 {P:List X9->Prop}(h:∀a b,P [a,b]):∀us:List X9,us.length=2->P us:=usS fun a=>us1 (h a)
theorem us3 {P:List X9->Prop}(h:∀a b c,P [a,b,c]):∀us:List X9,us.length=3->P us:=usS fun a=>us2 (h a)
theorem us4 {P:List X9->Prop}(h:∀a b c d,P [a,b,c,d]):∀us:List X9,us.length=4->P us:=usS fun a=>us3 (h a)
open PySem PySem.Spec PyProof.Rows PySem.W
namespace ST
variable {X:Cx}
theorem zdl (hh:X.A.handled=none):jM X (.builtin "sorted") (fun xs H Q=>∃l ks,xs=[.ref l]/\H l=some (zf1 X.prog X.w l ks)/\(∀q∈ks,H q.1=some (.tup [.int q.2.1,.int q.2.2]))/\(ks.map (·.2)).Nodup/\ks.length<64 /\
  ∀d us' ps',H d=none->ju H us' ps'->ps'.Perm (ks.map (·.2))->Up2 ps'->Q (.ref d) (upd H d (.lst us'))):=by
 intro bQ s σ H xs us' Q I r h;obtain⟨l,ks,rfl,hl,hT,hnd,h64,q⟩:=h;obtain⟨u,rfl,ru⟩:=vals1 r;cases ru;obtain⟨⟨es,ep,t,ho,he,G,hled,hpl⟩,_,_⟩:=(show qA X.prog X.w H s.heap l (zf1 X.prog X.w l ks) from I.hok l _ hl);have hkl:ks.length=es.size:=by
  rw[<- XZ,he,ZB]
 apply Ry kind_sorted plain_sorted entry_sorted (args_sorted1 _);unfold UR.«sorted»;refine Y1 (m:=checkCount "sorted" 1 1 _) (XS (Y1 (zf0 (by simp[hh]) ho G hled hpl (by lia) fun its h1 tk hpm kk1 zle=>?_)));have hvs:es.toList.map (·.2)=ks.map fun q=>Wz q.1:=by
  rw[he,WJ];rfl
 rw[hvs] at hpm;obtain⟨js,hjp,hj⟩:=zch (fun q:Addr×(Int×Int)=>Wz q.1) hpm ks rfl;have hTj:∀q∈js,H q.1=some (.tup [.int q.2.1,.int q.2.2]):=fun q hq=>hT q (hjp.mem_iff.mp hq);have hndj:(js.map (·.2)).Nodup:=(hjp.map (·.2)).nodup_iff.mpr hnd;have hjl:js.length=ks.length:=hjp.length_eq;have hil:its.length=js.length:=by rw[hj,ZB]
 have rv:∀{js:List (Addr×(Int×Int))},Vals (js.map fun q=>V.ref q.1) (js.map fun q=>Wz q.1):=fun {js}=>by
  induction js with
  | nil=>exact .nil
  | cons a t ih=>exact .cons rfl ih
 have ht:∀{js:List (Addr×(Int×Int))},(∀q∈js,H q.1=some (.tup [.int q.2.1,.int q.2.2]))->ju H (js.map fun q=>V.ref q.1) (js.map (·.2)):=fun {js}=>by
  induction js with
  | nil=>exact fun _=>.nil
  | cons a t ih=>exact fun h=>.cons ⟨a.1,rfl,h a XT⟩ (ih fun q hq=>h q (XR _ hq))
 have hp0:WU (zw s.heap) its (js.map (·.2)):=by
  rw[hj];exact ju.pairs I (ht hTj) rv
 generalize hps:js.map (·.2)=ps at hp0 hndj;have hlp:its.length=ps.length:=Paired.length hp0;have W:=GS.zlj;have ip:∀q:Addr×(Int×Int),H q.1=some (.tup [.int q.2.1,.int q.2.2])->zw s.heap (.ref q.1) q.2:=fun q hq=>by
  have:=ju.pairs I (.cons ⟨q.1,rfl,hq⟩ .nil:ju H [V.ref q.1] [q.2]) (.cons rfl .nil:Vals [V.ref q.1] [Wz q.1]);cases this with
  | cons h _=>exact h
 classical
 let r:X9->Int:=fun v=>if h:∃k,zw s.heap v k then GS.rkK lt2 ps h.choose else 0
 have rk_:∀{v:X9} {k:Int×Int},zw s.heap v k->r v=GS.rkK lt2 ps k:=fun {v k} h=>by
  have hx:∃k,zw s.heap v k:=⟨k,h⟩;show (if h:∃k,zw s.heap v k then GS.rkK lt2 ps h.choose else 0)=_;rw[dif_pos hx,GS.ze2 hx.choose_spec h]
 have small:its.length<=Xv:=by rw[Uu];lia
 refine Y1 (OE ?_ small);have hoL:(h1.push (Ut "list" its.toArray 0)).get? h1.objs.size=some (Ut "list" its.toArray 0):=Xd _ rfl;have kL:∀b o,s.heap.get? b=some o->(h1.push (Ut "list" its.toArray 0)).get? b=some o:=fun b o e=>X7 _ (kk1 b o e);have ne:∀b o,s.heap.get? b=some o->b≠h1.objs.size:=fun b o e=>Xe (XI (kk1 b o e));show W7 _ _ _ _ _ { s with heap:=h1.push (Ut "list" its.toArray 0),toks:=tk };refine Y1 (VY (Uw slot_list_sort ⟨_,hoL,rfl⟩ entry_list_sort (GS.zdW (s:={ s with heap:=h1.push (Ut "list" its.toArray 0),toks:=tk }) hoL small r (fun h2 s' kk=>?_) ?_) (args_list_sort _)))
 ·have hp':=ZQ (fun b o e=>kk b o (ne b o e) (kL b o e)) hp0;obtain⟨fs,hk,hfl,hint⟩:=ZR hp';refine kat_kind (T:=.type "int") hk (by lia) (fun v hv=>?_) (by decide) ⟨rfl,fun x hx y hy C hC=>?_⟩
  ·obtain⟨x,t,rfl⟩:=hint v hv;exact Looks.of_pure rfl
  ·have mx:x.1∈its:=by
    rw[Ux] at hx;exact(RR hx).2
   have my:y.1∈its:=by
    rw[Ux] at hy;exact(RR hy).2
   obtain⟨k,k1,k2⟩:=GS.JA hp0 x.1 mx;obtain⟨k',k1',k2'⟩:=GS.JA hp0 y.1 my;have kp:∀{v:X9} {k:Int×Int},zw s.heap v k->zw s'.heap v k:=fun {v k} ⟨a,o,n,t,u,e,e1,r⟩=>⟨a,o,n,t,u,e,kk _ _ (ne _ _ e1) (kL _ _ e1),r⟩;have hC':C (decide (r x.1<r y.1)) s':=hC;rw[rk_ k2,rk_ k2',<- W.rank k1] at hC';exact ziz (kp k2) (kp k2') hC'
 ·intro ws h' c hpm' hs kk ha;obtain⟨js',hjp',ej⟩:=zch (fun q:Addr×(Int×Int)=>Wz q.1) hpm' js hj;have hD:H h1.objs.size=none:=I.hok.fresh zle;have hT':∀q∈js',H q.1=some (.tup [.int q.2.1,.int q.2.2]):=fun q hq=>hTj q (hjp'.mem_iff.mp hq);have rv':Vals (js'.map fun q=>V.ref q.1) ws:=by
   rw[ej];exact rv
  have nd':(js'.map (·.2)).Nodup:=(hjp'.map (·.2)).nodup_iff.mpr (by rw[hps];exact hndj);have hup:Up2 (js'.map (·.2)):=by
   unfold Up2;unfold WY at nd';rw[We] at nd' ⊢;rw[ej,We] at hs;refine(hs.and nd').imp_of_mem fun {x y} hx hy ⟨h1,h2⟩=>?_;rw[rk_ (ip x (hT' x hx)),rk_ (ip y (hT' y hy))] at h1;have my:y.2∈ps:=by
    rw[<- hps];exact XU.mpr ⟨y,hjp'.mem_iff.mp hy,rfl⟩
   have e1:lt2 y.2 x.2=false:=by
    rw[W.rank my];exact bg (by lia)
   have e2:=zad h2;rw[e1] at e2;cases hh:lt2 x.2 y.2 with
   | true=>rfl
   | false =>
    rw[hh] at e2;cases e2
  refine⟨_,rfl,XS ⟨_,rfl,.ref h1.objs.size,upd H h1.objs.size (.lst (js'.map fun q=>V.ref q.1)),I.laid (t':=tk) (fun b o e=>kk b o (ne b o e) (kL b o e)) zle ⟨?_,_,c,rv',ha⟩,rfl,q _ _ _ hD (ht hT') ((hjp'.trans hjp).map _) hup⟩⟩;rw[rv'.length,hpm'.length_eq];exact small
end ST
inductive Rd1 (σ:St)(i:Nat)(Q:VK)(H:Hp):Prop
 | mk (v:V) (h:σ[i]?=some (some v)) (q:Q v H):Rd1 σ i Q H
def tVS (i:Nat):TE:=fun σ H Q=>Rd1 σ i Q H
section
variable {X:Cx}
theorem pvS (i:Nat){x:Str}{pos:Pos}(hN:X.N[i]?=some x:=by rfl)(hv:Vis X.env.scope x:=by first | exact XH rfl | exact UU (XH rfl) | exact UU (UU rfl))(hd:(x==("__debug__":Str))=false:=by decide)
  (hcd:(x==("__classdict__":Str))=false:=by decide):PE X (.Name x pos) (tVS i):=by
 intro bQ s σ H Q I h;obtain⟨v,e,q⟩:=h;exact pv i hN hv hd hcd bQ s σ H Q I ⟨v,e,q⟩
theorem OpR.imp {f:X9->X9->Sem X9}{r r':R2}(h:OpR X f r)(k:∀x y H Q,r' x y H Q->r x y H Q):OpR X f r':=fun bQ s σ H x y v u Q I rx ry z=>h bQ s σ H x y v u Q I rx ry (k x y H Q z)
theorem IxR.imp {r r':R2}(h:IxR X r)(k:∀x y H Q,r' x y H Q->r x y H Q):IxR X r':=fun value slice bQ s σ H x y v u Q I rx ry z hs=>h value slice bQ s σ H x y v u Q I rx ry (k x y H Q z) hs
inductive SI0 (g:Int->Int->V)(x y:V)(H:Hp)(Q:VK):Prop
 | mk (i j:Int) (hx:x=.int i) (hy:y=.int j) (q:Q (g i j) H):SI0 g x y H Q
inductive SI (C:Int->Int->Prop)(g:Int->Int->V)(x y:V)(H:Hp)(Q:VK):Prop
 | mk (i j:Int) (hx:x=.int i) (hy:y=.int j) (hc:C i j) (q:Q (g i j) H):SI C g x y H Q
theorem OpR.s0 {f:X9->X9->Sem X9}{g:Int->Int->V}(h:OpR X f (rI0 g)):OpR X f (SI0 g):=h.imp fun _ _ _ _ ⟨i,j,a,b,q⟩=>⟨i,j,a,b,q⟩
theorem OpR.s1 {f:X9->X9->Sem X9}{C:Int->Int->Prop}{g:Int->Int->V}(h:OpR X f (rI C g)):OpR X f (SI C g):=h.imp fun _ _ _ _ ⟨i,j,a,b,c,q⟩=>⟨i,j,a,b,c,q⟩
theorem qb:OpR X (Uh .Add) (SI0 fun i j=>.int (i+j)):=zg7.s0
theorem JU:OpR X (Uh .Sub) (SI0 fun i j=>.int (i-j)):=zoM.s0
theorem jk:OpR X (Uh .Mod) (SI (fun _ j=>0<j) fun i j=>.int (i%j)):=zoN.s1
theorem jm:OpR X (Uh .FloorDiv) (SI Jt fun i j=>.int (i/j)):=zkD.s1
theorem zpi:OpR X (Wf .Lt) (SI0 fun i j=>.bl (decide (i<j))):=zqf.s0
theorem ze4:OpR X (Wf .LtE) (SI0 fun i j=>.bl (decide (i<=j))):=zqg.s0
theorem zpj:OpR X (Wf .Gt) (SI0 fun i j=>.bl (decide (j<i))):=zqh.s0
inductive zpk (K:X0)(x y:V)(H:Hp)(Q:VK):Prop
 | mk (p:Addr) (xs:List V) (i:Int) (v:V) (hx:x=.ref p) (hy:y=.int i) (hq:SqL K H p xs) (he:atI xs i=some v) (q:Q v H):zpk K x y H Q
inductive zqA (K:X0)(x y:V)(H:Hp)(Q:VK):Prop
 | mk (p:Addr) (xs:List V) (i:Int) (v:V) (hx:x=.ref p) (hy:y=.int i) (hq:SqT K H p xs) (he:atI xs i=some v) (q:Q v H):zqA K x y H Q
inductive zqB (x y:V)(H:Hp)(Q:VK):Prop
 | mk (z:Str) (i:Int) (c:Nat) (hx:x=.str z) (hy:y=.int i) (hl:z.length<=Xv) (he:atI z.cps.toList i=some c) (q:Q (.str ⟨#[c]⟩) H):zqB x y H Q
theorem je:IxR X (zpk X.K):=ziv.imp fun _ _ _ _ ⟨p,xs,i,v,a,b,c,d,q⟩=>⟨p,xs,i,v,a,b,c,d,q⟩
theorem xq:IxR X (zqA X.K):=zb2.imp fun _ _ _ _ ⟨p,xs,i,v,a,b,c,d,q⟩=>⟨p,xs,i,v,a,b,c,d,q⟩
theorem JV:IxR X zqB:=zoV.imp fun _ _ _ _ ⟨z,i,c,a,b,d,e,q⟩=>⟨z,i,c,a,b,d,e,q⟩
theorem YY {K:X0}(hK:X.K=K):IxR X (zpk K):=hK ▸ je
inductive SB (x:V)(Q:Bool->Hp->Prop)(H:Hp):Prop
 | mk (k:Bool) (h:x=.bl k) (q:Q k H):SB x Q H
def zpl (t:TE):TT:=fun σ H Q=>t σ H fun x H'=>SB x Q H'
theorem zQ {op:N5}{r:R2}{a b:Expr}{ta tb:TE}{pos:Pos}(ho:OpR X (Wf op) r)(ha:PE X a ta)(hb:PE X b tb)(hm:Tx op b=false):PT X (.Compare a [op] [b] pos) (zpl (tOp r ta tb)):=by
 intro bQ s σ H Q I h;refine Sr (thn (ha bQ s σ H _ I h) fun v s1 ⟨x,H1,I1,r1,q1⟩=>thn (hb bQ s1 σ H1 _ I1 q1) fun u s2 ⟨y,H2,I2,r2,q2⟩=>thn (ho bQ s2 σ H2 x y v u _ I2 r1 r2 q2) fun c s3 ⟨z,H3,I3,r3,q3⟩=>?_) hm;obtain⟨k,rfl,q⟩:=q3;cases r3;exact VN ⟨H3,I3,q⟩
inductive zqC (K:X0)(xs:List V)(H:Hp)(Q:VK):Prop
 | mk (p:Addr) (ys:List V) (hx:xs=[.ref p]) (hq:SqL K H p ys\/SqT K H p ys) (q:Q (.int ys.length) H):zqC K xs H Q
theorem zJ:jM X (.builtin "len") (zqC X.K):=fun bQ s σ H xs us Q I r ⟨p,ys,a,b,q⟩=>Jd bQ s σ H xs us Q I r ⟨p,ys,a,b,q⟩
inductive zqD (x:V)(vs:List V)(H:Hp)(Q:VK):Prop
 | mk (l:Addr) (xs:List V) (y:V) (hx:x=.ref l) (hv:vs=[y]) (hl:H l=some (.lst xs)) (hz:xs.length<Xv) (q:Q .non (upd H l (.lst (xs++[y])))):zqD x vs H Q
theorem jv:MtM X "list.append" zqD:=fun bQ s σ H x xs v us Q I rx rv ⟨l,ys,y,a,b,c,d,q⟩=>Jm bQ s σ H x xs v us Q I rx rv ⟨l,ys,y,a,b,c,d,q⟩
end
section
variable {X:Cx}
theorem zdZ {ts:List Bool}{ws:List V}{its:List X9}(ew:ts.map V.bl=ws)(r:Vals ws its):its=ts.map Tj:=by
 induction r generalizing ts with
 | nil =>
  cases ts with
  | nil=>rfl
  | cons a b=>cases ew
 | cons r1 r2 ih =>
  cases ts with
  | nil=>cases ew
  | cons a b =>
   rw[W9] at ew;obtain⟨e1,e2⟩:=List.cons.inj ew;subst e1;cases r1;rw[ih e2];rfl
def eqT (y:Bool):X9->Bool
 | .bool a=>a==y
 | _=>false
theorem zjV:MtM X "list.count" (fun x vs H Q=>∃(l:Addr) (ts:List Bool) (y:Bool),x=.ref l/\vs=[.bl y]/\H l=some (.lst (ts.map V.bl))/\Q (.int ((ts.countP fun t=>t==y:Nat):Int)) H):=by
 intro bQ s σ H x vs v us Q I rx rv h;obtain⟨l,ts,y,rfl,rfl,hH,q⟩:=h;cases rx;obtain⟨u,rfl,r1⟩:=rv.one;cases r1;obtain⟨z,its,n,r,hl,e⟩:=I.lstM hH;have ei:=zdZ rfl r;subst ei;refine Th F.slot_list_count ⟨_,e,rfl⟩ F.entry_list_count (OQ _ _) (Ri l (ts.map Tj).toArray n none #[] (.bool y) (eqT y)) ⟨e,fun w hw=>?_,?_⟩
 ·obtain⟨a,_,rfl⟩:=XU.mp (TY.mpr hw);exact RB a y
 ·refine⟨.int _,H,I.tok _,⟨_,rfl⟩,?_⟩;show Q (.int (((ts.map Tj).countP (eqT y):Nat):Int)) H;rw[Tn];exact q
theorem zjW:MtM X "list.index" (fun x vs H Q=>∃(l:Addr) (ts:List Bool) (y:Bool) (j:Nat),x=.ref l/\vs=[.bl y]/\H l=some (.lst (ts.map V.bl))/\ts[j]?=some y/\(∀m<j,ts[m]?=some (!y))/\j<=1000/\Q (.int (j:Nat)) H):=by
 intro bQ s σ H x vs v us Q I rx rv h;obtain⟨l,ts,y,j,rfl,rfl,hH,hj,hm,js,q⟩:=h;cases rx;obtain⟨u,rfl,r1⟩:=rv.one;cases r1;obtain⟨z,its,n,r,hl,e⟩:=I.lstM hH;have ei:=zdZ rfl r;subst ei;obtain⟨h1,h2⟩:=X2.mp hj;refine Th F.slot_list_index ⟨_,e,rfl⟩ F.entry_list_index (F.args_list_index_2 _ _) (PySem.SeqAt.list_indexAt l (ts.map Tj).toArray n none #[] (.bool y) (eqT y) j (by simpa using h1) (by lia) ?_ ?_) ⟨e,fun w hw=>?_,?_⟩
 ·simp[eqT,h2]
 ·intro m hm1 hm2;obtain⟨a1,a2⟩:=X2.mp (hm m hm2);simp[eqT,a2]
 ·obtain⟨a,_,rfl⟩:=XU.mp (TY.mpr hw);exact RB a y
 ·exact⟨.int _,H,I.tok _,⟨_,rfl⟩,q⟩
end
section
variable {X:Cx}{k k0:Nat}{f:Addr}{fd:Xp}{ps:List Str}{sp:Sp}{x:Str}{st:Stmt}{p pos:Pos}{e:Expr}{es:List Expr}{t:TA}
theorem pc0 (F:zY X.prog X.w X.K X.mg X.base CX0 k f fd ps sp)(hr:J4 k0 X.A)(D:zm X.K X.mg x st ps f fd)(ha:PA X (e::es) t)(hk:k<=k0:=by decide)(hg:Gl X x:=by rfl)
  (hdb:(x==("__debug__":Str))=false:=by decide) (he:Wp (e::es) X.env=(false,eval e X.env)::Wp es X.env:=by rfl) (hpl:(S4 pos (Wp es X.env)).any (·.1)=false:=by rfl) :
  PE X (.Call (.Name x p) (e::es) [] pos) (zkx sp [] E0 t):=zis F (hr.mono hk) hg D.g D.F.kp D.b .nil zqn ha hdb he hpl
theorem pcL {E:XK}(L:Yu X E)(F:zY X.prog X.w X.K X.mg X.base (CXE X.prog X.w) k f fd ps sp)(hr:J4 k0 X.A)(D:zm X.K X.mg x st ps f fd)(ha:PA X (e::es) t)(hk:k<=k0:=by decide)(hg:Gl X x:=by rfl)
  (hdb:(x==("__debug__":Str))=false:=by decide) (he:Wp (e::es) X.env=(false,eval e X.env)::Wp es X.env:=by rfl) (hpl:(S4 pos (Wp es X.env)).any (·.1)=false:=by rfl) :
  PE X (.Call (.Name x p) (e::es) [] pos) (zkx sp [] E t):=zis F (hr.mono hk) hg D.g D.F.kp D.b .nil (Yu.passes L) ha hdb he hpl
end
theorem JJ:0<=Xv:=by decide
theorem sz_1:1<=Xv:=by decide
theorem ZV:2<=Xv:=by decide
theorem zln:3<=Xv:=by decide
theorem zqE:6<=Xv:=by decide
theorem zqF {kvs:List (Key×V)}{vs:List (Key×X9)}{i:Nat}{p:Key×X9}(r:KV kvs vs)(h:vs[i]?=some p):∃kv,kvs[i]?=some kv/\kv.1=p.1/\RelV kv.2 p.2:=by
 induction r generalizing i with
 | nil=>cases h
 | cons r1 _ ih =>
  cases i with
  | zero =>
   cases h;exact⟨_,rfl,r1⟩
  | succ i=>exact ih (by simpa using h)
theorem zlo {P:Xi}{w:WS}{H:Hp}{h:Heap}{d:Addr}{o:Obj}{kvs:List (Key×V)}{es:Array Oi}{ep:Nat}(hdd:o.data=.dict es ep)(x:qA P w H h d (.frz o (.dK kvs))):∃vs,KV kvs vs/\h.DictAt (zU P w) d vs ep:=by
 obtain⟨ho,_,_,vs,rel,dd⟩:=x;obtain⟨ep',da⟩:=dd.dictAt;obtain⟨o',es',ho',hc,hdat,r⟩:=id da;rw[ho] at ho';cases ho';rw[hdd] at hdat;injection hdat with _ e2
 subst e2;exact⟨vs,rel,da⟩
theorem znh {k:Key}{v:X9}(h:zba k v=true):RelV (kV k) v:=by
 rcases qR h with ⟨i,t,rfl,rfl⟩ | ⟨x,t,rfl,rfl⟩
 ·exact⟨t,rfl⟩
 ·exact⟨t,rfl⟩
def ze5 (v d:Addr):HO:=.ext fun h=>h.IsItemsView v d
def Itp (d:Addr)(o:Obj)(kvs:List (Key×V)):It :=
 ⟨fun i H=>H d=some (.frz o (.dK kvs))/\i<kvs.length,fun i H x H'=>∃(T:Addr) (kv:Key×V),kvs[i]?=some kv/\x=.ref T/\H T=none/\H'=upd H T (.tup [kV kv.1,kv.2]),fun i H=>H d=some (.frz o (.dK kvs))/\kvs.length<=i⟩
theorem zhv {P:Xi}{w:WS}{A:WL}(hh:A.handled=none)(I d:Addr)(hne:d≠I)(kvs:List (Key×X9))(ep:Nat):WalksT P w A I [I,d] [I] kvs.length (fun i vals=>∃key k x,vals=#[key,x]/\kvs[i]?=some (k,x)/\zba k key=true)
  (fun i h=>(∃ok ov,IsItemIter h I d i kvs.length ep ok ov)/\h.DictAt (zU P w) d kvs ep) (fun i T h=>(∃ok ov,IsItemIterOut h I d (i+1) kvs.length ep ok ov T)/\h.DictAt (zU P w) d kvs ep/\T≠I) where
 sub:=fun b hb=>by simp at hb;simp[hb]
 frame:=fun i h h' st hk=>by
  obtain⟨⟨ok,ov,he⟩,hm⟩:=st;exact⟨⟨ok,ov,hk I (by simp) _ he⟩,hm.at' fun o e=>hk d (by simp) o e⟩
 item:=fun i s Q E hi st hQ=>by
  obtain⟨⟨ok,ov,he⟩,hm⟩:=st;obtain⟨⟨k,x⟩,hx⟩:∃p,kvs[i]?=some p:=⟨kvs[i],by simp[hi]⟩;refine wpAny_pyNext_items_item he hm hx fun key h' hkey ho hT hsz hk=>?_;exact hQ s.heap.objs.size #[key,x] h' s.toks ⟨key,k,x,rfl,hx,hkey⟩ (XW _) ⟨_,hT,rfl,_,rfl⟩ ⟨⟨key,x,ho⟩,hm.at' (fun o e=>hk d o hne e),UN (XI he)⟩ fun b o hb e=>hk b o (fun h=>hb (by simp[h])) e
 go:=fun elts k pos i T s Q E hm hQ=>by
  obtain⟨⟨ok,ov,ho⟩,hd,hTI⟩:=hm;refine wpAny_letOwnedTupleGo_items ho fun h' he hs=>?_;exact hQ h' ⟨⟨ok,ov,he⟩,hd.extBut hs.extBut hne⟩ fun b o hb e=>hs.extBut b o (fun h=>hb (by simp[h])) e
 apart:=fun i T h hm hT=>hm.2.2 (by simpa using hT)
 done:=fun s Q E st hQ=>by
  obtain⟨⟨ok,ov,he⟩,hm⟩:=st;exact Py hh he hm (by simp) fun h' hx=>hQ h' s.toks fun b o hb e=>hx b o (fun h=>hb (by simp[h])) e
 self:=fun i s Q E st h=>by
  obtain⟨⟨ok,ov,he⟩,_⟩:=st;exact kcp_self he h
theorem zhw {P:Xi}{w:WS}{K:X0}{elts:List Expr}{kk:Nat}{pos:Pos}(d it:Addr)(hne:d≠it)(o:Obj)(kvs:List (Key×V))(es:Array Oi)(ep:Nat)(hdd:o.data=.dict es ep):Turn P w K (.Tuple elts kk pos) (Itp d o kvs) [it] it (fun i h=>∃ok ov,IsItemIter h it d i kvs.length ep ok ov) where
 mem:=by simp
 obj:=fun i h st b hb=>by
  have e:b=it:=by simpa using hb
  subst e;obtain⟨ok,ov,he⟩:=st;exact Ys he rfl
 keep:=fun i h h' ⟨ok,ov,he⟩ k=>⟨ok,ov,k it (by simp) _ he⟩
 item:=by
  intro X hP hw hK hc i bQ s σ H E I hf st hg;subst hP hw hK;obtain⟨hd,hi⟩:=hg;obtain⟨vs,rel,da⟩:=zlo hdd (show qA X.prog X.w H s.heap d (.frz o (.dK kvs)) from I.hok d _ hd);have hl:=rel.length;obtain⟨ok,ov,he⟩:=id st;rw[hl] at st;refine zhd (wr:=[it]) (J:=Itp d o kvs) (tn:=fun i h=>∃ok ov,IsItemIter h it d i kvs.length ep ok ov) I hf (fun b hb=>?_) (fun b hb=>hb) (zhv (I.ok.hd hc) it d hne vs ep) (by lia) ⟨st,da⟩ (fun T vals hn hp=>?_) fun h'' q=>by rw[hl];exact q.1
  ·have e:b=it:=by simpa using hb
   subst e;exact⟨_,he⟩
  ·obtain⟨key,k,x,rfl,hx,hkey⟩:=hp;obtain⟨kv,hkv,ek,rv⟩:=zqF rel hx;have e2:kv.1=k:=ek;exact⟨[kV kv.1,kv.2],.cons (by rw[e2];exact znh hkey) (.cons rv .nil),(by show 2<=Xv;decide),T,kv,hkv,rfl,hn,rfl⟩
 done:=by
  intro X hP hw hK hc i bQ s σ H E I hf st hg;subst hP hw hK;obtain⟨hd,hi⟩:=hg;obtain⟨vs,rel,da⟩:=zlo hdd (show qA X.prog X.w H s.heap d (.frz o (.dK kvs)) from I.hok d _ hd);have hl:=rel.length;obtain⟨ok,ov,he⟩:=st;obtain⟨f0,f1,f2,f3,f4,f5⟩:=hf it (by simp);rw[hl] at he;exact Py (I.ok.hd hc) he da (List.getElem?_eq_none_iff.mpr (by rw[<- hl];exact hi)) fun h' eb=>⟨rfl,I.turned (t':=s.toks) (fun b ob hb e=>eb b ob hb e) f0 f1 f3 f4 f5⟩
 self:=fun A i s Q E st h=>by
  obtain⟨ok,ov,he⟩:=st;exact kcp_self he h
section
variable {X:Cx}{tg:Expr}
def zpm (tl:TE):TI:=fun σ H R=>tl σ H fun x H1=>∃(v a:Addr) (kvs:List (Key×V)),x=.ref v/\H1 v=some (ze5 v a)/\H1 a=some (.dK kvs)/\∀o,R (Itp a o kvs) (upd H1 a (.frz o (.dK kvs)))
theorem zf6 {l:Expr}{tl:TE}{elts:List Expr}{kk:Nat}{pos:Pos}(hl:PE X l tl):PI X (.Tuple elts kk pos) l (zpm tl):=by
 intro bQ s σ H R I h;refine thn (hl bQ s σ H _ I h) fun v s1 ⟨x,H1,I1,r1,q1⟩=>?_;obtain⟨va,a,kvs,e,hv,hd,q⟩:=q1;subst e;cases r1;obtain⟨hz,hS,vs,rel,dd⟩:=(show qA X.prog X.w H1 s1.heap a (.dK kvs) from I1.hok a _ hd);have hview:s1.heap.IsItemsView va a:=(show qA X.prog X.w H1 s1.heap va (ze5 va a) from I1.hok va _ hv).1;obtain⟨ep,da⟩:=dd.dictAt;obtain⟨o,es,ho,hc,hdd,hr⟩:=id da;refine wpAny_pyIter_items hview da ?_;have ha:a<s1.heap.objs.size:=XI ho;have hfr:H1 s1.heap.objs.size=none:=I1.hok.fresh (XW _);refine⟨s1.heap.objs.size,[s1.heap.objs.size],_,Itp a o kvs,upd H1 a (.frz o (.dK kvs)),rfl,?_,zhw a _ (Xe ha) o kvs es ep hdd,⟨.none,.none,by rw[rel.length];exact Xd _ rfl⟩,fun b hb=>?_,q o⟩
 ·refine I1.write (x:=a) (e:=a) (t':=s1.toks) (by rw[hd];exact U1) (.inl rfl) (fun b u _ z=>X7 _ z) ⟨o,X7 _ ho⟩ ⟨X7 _ ho,hz,hS,vs,rel,?_⟩;obtain⟨o2,es2,ep2,h1,h2⟩:=dd;exact⟨o2,es2,ep2,X7 _ h1,h2⟩
 ·have e:b=s1.heap.objs.size:=by simpa using hb
  subst e;refine I1.fpOk (XW _) ?_;rw[zf (UN ha)];exact hfr
theorem zd0:MtM X "dict.items" (fun x vs H Q=>∃d kvs,x=.ref d/\vs=[]/\H d=some (.dK kvs)/\∀v,H v=none->Q (.ref v) (upd H v (ze5 v d))):=by
 intro bQ s σ H x vs v us Q I rx rv h;obtain⟨d,kvs,rfl,rfl,hd,q⟩:=h;cases rx;cases rv;obtain⟨z,hS,ws,rel,dd⟩:=zkQ I.hok hd;refine call_meetsIn S5 dd.typeIs PySem.F.entry_dict_items (PySem.F.args_dict_items_1 _) (meets_dict_items (zU X.prog X.w) d hS) ⟨⟨ws,dd⟩,?_⟩;have hf:H s.heap.objs.size=none:=I.hok.fresh (XW _);have hv:(s.heap.push { cls:=.type "dict_items",data:=.fields #[.ref d] }).IsItemsView s.heap.objs.size d:=⟨_,Xd _ rfl,rfl,rfl⟩;refine⟨.ref s.heap.objs.size,upd H s.heap.objs.size (ze5 s.heap.objs.size d),I.laid (t':=s.toks) (fun b u e=>X7 _ e) (XW _) ?_,rfl,q _ hf⟩;exact⟨hv,⟨_,Xd _ rfl⟩,fun g1 g2 ⟨o1,r1,r2,r3⟩ k=>⟨o1,k _ r1,r2,r3⟩⟩
end
theorem zd1 {d:Addr}{o:Obj}{kvs:List (Key×V)}{g:TG}{tb:TS}{D:Ends}{σ:St}{H:Hp}(Pv:Nat->St->Hp->Prop)(h0:Pv 0 σ H)(hl:∀i σ H,i<=kvs.length->Pv i σ H->H d=some (.frz o (.dK kvs)))
  (hs:∀i kv T σ H,kvs[i]?=some kv->H T=none->Pv i σ H->g (.ref T) σ (upd H T (.tup [kV kv.1,kv.2])) fun σ2 H2=>tb { D with nx:=Pv (i+1),ct:=Pv (i+1),bk:=D.nx } σ2 H2) (hd:∀ σ H,Pv kvs.length σ H->D.nx σ H) :
  ∃W:Nat->Nat->St->Hp->Prop,(∃m,W 0 m σ H)/\∀i m σ H,W i m σ H ->
   ((Itp d o kvs).stop i H/\D.nx σ H)\/((Itp d o kvs).go i H/\∃N:St->Hp->Prop,(∀ σ' H',N σ' H'->∃m',m'<m/\W (i+1) m' σ' H')/\∀x H',(Itp d o kvs).yld i H x H'->g x σ H' fun σ2 H2=>tb { D with nx:=N,ct:=N,bk:=D.nx } σ2 H2):=by
 refine⟨fun i m σ H=>m=kvs.length-i/\i<=kvs.length/\Pv i σ H,⟨kvs.length,by simp,W4 _,h0⟩,?_⟩;rintro i m σ H ⟨rfl,hi,p⟩;have q:=hl i σ H hi p;by_cases hlt:i<kvs.length
 ·refine .inr ⟨⟨q,hlt⟩,Pv (i+1),fun σ' H' p'=>⟨kvs.length-(i+1),by lia,rfl,hlt,p'⟩,fun x H' y=>?_⟩;obtain⟨T,kv,hk,rfl,hn,rfl⟩:=y;exact hs i kv T σ H hk hn p
 ·have e:i=kvs.length:=by lia
  subst e;exact .inl ⟨⟨q,XW _⟩,hd σ H p⟩
section
variable {X:Cx}
theorem Inv.thaw {bQ:List (Addr×Obj)}{σ:St}{H:Hp}{s:X8}{d:Addr}{o:Obj}{kvs:List (Key×V)}(I:Inv X bQ σ H s)(hd:H d=some (.frz o (.dK kvs)))(h0:∀o u,X.H₀ d≠some (.frz o u)):Inv X bQ σ (upd H d (.dK kvs)) s:=by
 have hx:qA X.prog X.w H s.heap d (.frz o (.dK kvs)):=I.hok d _ hd;refine⟨I.ok,I.os,I.bare,?_,I.loc,I.cell,?_,?_,?_,?_,I.len⟩
 ·have u:=I.base;refine⟨u.keep,u.slot,fun b ob e1 e2 e3=>?_,u.there,fun b xs e=>?_,fun b ob v e=>?_,fun b ps e=>?_⟩
  ·have n:=u.free b ob e1 e2 e3;rw[zf (fun e=>by rw[e,hd] at n;cases n)];exact n
  ·have n:=u.tups b xs e;rw[zf (fun z=>by rw[z,hd] at n;cases n)];exact n
  ·have n:=u.frzs b ob v e;rw[zf (fun z=>by subst z;exact h0 _ _ e)];exact n
  ·obtain⟨more,n⟩:=u.tbls b ps e;exact⟨more,by rw[zf (fun z=>by rw[z,hd] at n;cases n)];exact n⟩
 ·rw[zf (fun z=>by have n:=I.free;rw[z,hd] at n;cases n)];exact I.free
 ·intro x c e;have n:=I.freeC x c e;rw[zf (fun z=>by rw[z,hd] at n;cases n)];exact n
 ·intro p hp;obtain⟨h1,h2,h3⟩:=I.pin p hp;refine⟨h1,?_,h3⟩;rw[zf (fun z=>by rw[z,hd] at h2;cases h2)];exact h2
 ·intro b u e;by_cases hb:b=d
  ·subst hb;rw[zb] at e;cases e;obtain⟨_,z,hS,vs,rel,dd⟩:=hx;exact⟨z,hS,vs,rel,dd⟩
  ·rw[zf hb] at e;refine(I.hok b u e).stay (fun c v _ q=>q) (fun c q=>?_) fun c xs q=>?_
   ·by_cases hc:c=d
    ·subst hc;rw[hd] at q;cases q
    ·rw[zf hc];exact q
   ·rw[zf (fun z=>by rw[z,hd] at q;cases q)];exact q
def zqG (t:TS):TS:=fun D σ H=>t { D with nx:=fun σ' H'=>∃(d:Addr) (o:Obj) (kvs:List (Key×V)),H' d=some (.frz o (.dK kvs))/\(∀o u,H d≠some (.frz o u))/\D.nx σ' (upd H' d (.dK kvs)) } σ H
theorem ziQ {st:Stmt}{t:TS}(h:PS X st t):PS X st (zqG t):=by
 intro bQ s σ H D I ht;refine thn (h bQ s σ H _ I ht) fun fl s' e=>?_;cases fl with
 | next =>
  obtain⟨σ',H',I',d,o,kvs,hd,hn,q⟩:=e;exact⟨σ',_,I'.thaw hd fun o u z=>hn _ _ (I.base.frzs d _ _ z),q⟩
 | brk=>exact e
 | cont=>exact e
 | ret u=>exact e
end
abbrev KI:=Key×X9×X9
def Jg (ks:List KI):List (Key×X9):=ks.foldl (fun acc q=>PN acc q.1 q.2.2) []
theorem ze6 (ks:List KI)(q:KI):Jg (ks++[q])=PN (Jg ks) q.1 q.2.2:=by
 unfold Jg;rw[Vf];rfl
theorem zhx (xs:List (Key×X9))(k:Key)(v:X9):(PN xs k v).length<=xs.length+1:=by
 unfold PN;split
 ·rw[ZB];lia
 ·rw[X5];exact XW _
theorem zbf (ks:List KI):(Jg ks).length<=ks.length:=by
 suffices h:∀(ks:List KI) (acc:List (Key×X9)),(ks.foldl (fun acc q=>PN acc q.1 q.2.2) acc).length<=acc.length+ks.length by
  have:=h ks [];simpa[Jg] using this
 intro ks;induction ks with
 | nil=>intro acc;exact XW _
 | cons q r ih =>
  intro acc;have h1:=ih (PN acc q.1 q.2.2);have h2:=zhx acc q.1 q.2.2;rw[VF,XB];lia
section
variable {prog:Xi}{w:WS}{A:WL}{R:OA->X8->Prop}{I:Addr}{fp wr:List Addr}{G:Array U2->Array U2->Prop}{n:Nat}{P:Nat->X9->Prop}{St:Nat->X8->Prop}
theorem zf7 {h0:Heap}(W:WalksS prog w A.in1 I fp wr G n P St)(D:Addr)(hDf:D ∉ fp)(hD0:h0.get? D=none)(hw0:∀b∈wr,h0.get? b=none)(ks:List KI)(hlen:ks.length=n)(hb:n<=Xv)(hu:A.units+1<Vl)
  (hks:∀q∈ks,(zU prog w).is q.1 q.2.1=true) (hP:∀i v,P i v->∃ta q,v=.ref ta/\ks[i]?=some q/\Od h0 ta #[q.2.1,q.2.2]) :
  ∀(k i:Nat) (s:X8),n-i=k->i<=n->St i s->(∀b o,h0.get? b=some o->s.heap.get? b=some o)->s.heap.DictOf (zU prog w) D (Jg (ks.take i)) ->
   (∀s',Moved (D::wr) G s s'->s'.heap.DictOf (zU prog w) D (Jg ks)->R (.ok (.ret .none)) s') ->
   TV (Xf prog w) A (.builtin "dict.update.loop" ⟨[.ref D,.ref I,Ub (i:Int),.none],[]⟩) R s:=by
 have hDw:D ∉ wr:=fun h=>hDf (W.sub _ h);have more:∀b∈wr,b∈D::wr:=fun b hb=>XR _ hb;have tup_up:∀{h:Heap} {ta:Addr} {xs:Array X9},(∀b o,h0.get? b=some o->h.get? b=some o)->Od h0 ta xs->Od h ta xs:=fun kp ⟨o,h1,h2,m,h3⟩=>⟨o,kp _ _ h1,h2,m,h3⟩;have dict_to:∀{s s':X8} {xs:List (Key×X9)},Moved wr G s s'->s.heap.DictOf (zU prog w) D xs->s'.heap.DictOf (zU prog w) D xs :=
  fun hm ⟨o,es,ep,e1,e2⟩=>⟨o,es,ep,hm.heap D _ hDw e1,e2⟩
 have keep_to:∀{s s':X8},Moved wr G s s'->(∀b o,h0.get? b=some o->s.heap.get? b=some o)->∀b o,h0.get? b=some o->s'.heap.get? b=some o:=fun hm kp b o e =>
  hm.heap b o (fun hb=>by
   rw[hw0 b hb] at e;cases e) (kp b o e)
 intro k;induction k with
 | zero =>
  intro i s hk hi hst kp hS hR;have hin:i=n:=by lia
  subst hin;refine VQ zah ?_;rw[V4 Jf _];show W7 _ A.in1 (RN (.ref I) >>= _) _ _ s;refine Y1 (W.done s _ _ hst fun s' hm=>?_);show W7 _ A.in1 (Builtin.Dict.addKeywords D [] >>= fun _=>ret Ur) _ _ s';refine Y1 (XS (XS (hR s' (hm.mono more) ?_)));have:=dict_to hm hS;rw[<- hlen,Xy] at this;exact this
 | succ k ih =>
  intro i s hk hi hst kp hS hR;have hlt:i<n:=by lia
  refine VQ zah ?_;rw[V4 Jf _];show W7 _ A.in1 (RN (.ref I) >>= _) _ _ s;refine Y1 (W.item i s _ _ hlt hst fun v s' hPv hst' hm=>?_);obtain⟨ta,q,rfl,hq,ht⟩:=hP i v hPv;have kp':=keep_to hm kp;have hS':=dict_to hm hS;have l1:=zbf (ks.take i);have l2:(ks.take i).length<=n:=by
   rw[Xw];lia
  have tk:ks.take (i+1)=ks.take i++[q]:=by
   rw[Xu,hq];rfl
  refine Y1 (VY (Y1 (wpAny_tryCatch (zeR (tup_up kp' ht) ?_))));refine VY (wpAny_dictSet_pairs (hks q (XY hq)) hS' (fun h' hd' hs'=>?_) (by lia));have kp2:∀b o,h0.get? b=some o->h'.get? b=some o:=fun b o e=>by
   rw[hs'.2 b (fun z=>by
    rw[z,hD0] at e;cases e)]
   exact kp' b o e
  have d2:h'.DictOf (zU prog w) D (Jg (ks.take (i+1))):=by
   rw[tk,ze6];exact hd'
  refine XS ⟨UH Jf _,?_⟩;show TV _ A (.builtin "dict.update.loop" ⟨[.ref D,.ref I,Ub ((i:Int)+1),.none],[]⟩) R _;rw[show ((i:Int)+1)=((i+1:Nat):Int) by lia];refine ih (i+1) _ (by lia) hlt (W.frame _ s' _ _ hst' (TM _ _) fun b hb o e=>?_) kp2 d2 fun s'' hm'' hS''=>?_
  ·rw[hs'.2 b (fun z=>hDf (by rw[<- z];exact hb))];exact e
  ·refine hR s'' (Moved.trans W.gtrans ((hm.mono more).then_heap (TM _ _) fun b o hb e=>?_) hm'') hS'';rw[hs'.2 b (fun z=>hb (by rw[z];exact XT))];exact e
end
def zf8 (H:Hp):List V->List (Key×V)->Prop:=WU fun v kv=>∃a,v=V.ref a/\H a=some (.tup [kV kv.1,kv.2])
def YB (kvs:List (Key×V)):List (Key×V):=kvs.foldl (fun acc kv=>putK acc kv.1 kv.2) []
theorem zni {kvs:List (Key×V)}{ks:List KI}{acc:List (Key×V)}{xs:List (Key×X9)}(hp:WU (fun (p:Key×V) (q:KI)=>p.1=q.1/\RelV (kV q.1) q.2.1/\RelV p.2 q.2.2) kvs ks)(r:KV acc xs):KV (kvs.foldl (fun acc kv=>putK acc kv.1 kv.2) acc) (ks.foldl (fun acc q=>PN acc q.1 q.2.2) xs):=by
 induction hp generalizing acc xs with
 | nil=>exact r
 | cons q _ ih =>
  obtain⟨h1,_,h3⟩:=q;rw[VF,VF];refine ih ?_;rw[<- h1];exact r.put _ h3
theorem znj {P:Xi}{w:WS}{H:Hp}{h:Heap}(ok:HOk P w H h){vs:List V}{kvs:List (Key×V)}{its:List X9}(hp:zf8 H vs kvs)(hv:Vals vs its):∃ks:List KI,WU (fun (p:Key×V) (q:KI)=>p.1=q.1/\RelV (kV q.1) q.2.1/\RelV p.2 q.2.2) kvs ks/\ks.length=its.length/\(∀q∈ks,(zU P w).is q.1 q.2.1=true)/\(∀(i:Nat) (v:X9),its[i]?=some v->∃(ta:Addr) (q:KI),v=Wz ta/\ks[i]?=some q/\Od h ta #[q.2.1,q.2.2]):=by
 induction hp generalizing its with
 | nil =>
  cases hv;exact⟨[],.nil,rfl,(fun q hq=>nomatch hq),fun i v e=>by simp at e⟩
 | @cons x kv xs ys q _ ih =>
  obtain⟨a,e,h1⟩:=q;cases hv with
  | cons rv rs =>
  obtain⟨ks,k1,k2,k4,k3⟩:=ih rs;subst e;cases rv;obtain⟨_,xs,r,tp⟩:=(show qA P w H h a (.tup [kV kv.1,kv.2]) from ok a _ h1);obtain⟨u,u2,rfl,ru,ru2⟩:=vals2 r;refine⟨(kv.1,u,u2)::ks,.cons ⟨rfl,ru,ru2⟩ k1,by rw[XB,XB,k2],fun q hq=>?_,fun i v e=>?_⟩
  ·rcases Xz.mp hq with e | hq
   ·subst e;exact zdN ru
   ·exact k4 q hq
  ·cases i with
   | zero =>
    have e':Wz a=v:=by simpa using e
    exact⟨a,_,e'.symm,rfl,tp⟩
   | succ i =>
    obtain⟨ta,q,h1,h2,h3⟩:=k3 i v (by simpa using e);exact⟨ta,q,h1,by simpa using h2,h3⟩
section
variable {X:Cx}
set_option maxHeartbeats 8000000 in
theorem zcm (hu:X.A.units+64<Vl)(hh:X.A.handled=none):jM X (.type "dict") (fun xs H Q=>∃l us kvs,xs=[.ref l]/\H l=some (.lst us)/\zf8 H us kvs/\∀d,H d=none->Q (.ref d) (upd H d (.dK (YB kvs)))):=by
 intro bQ s σ H xs us' Q I r h;obtain⟨l,us,kvs,rfl,hl,hp,q⟩:=h;obtain⟨u,rfl,ru⟩:=vals1 r;cases ru;obtain⟨hz,its,n,rv,e⟩:=(show qA X.prog X.w H s.heap l (.lst us) from I.hok l _ hl);obtain⟨ks,hkt,hkl,hks,hraw⟩:=znj I.hok hp rv;have big:=I.big;have hil:its.length<=Xv:=by
  rw[<- rv.length];exact hz
 refine callType_codes (Q₁:=fun obj s₁=>obj=.ref s.heap.objs.size/\s₁={ s with heap:=s.heap.push { cls:=.type "dict",data:=.dict #[] } }) PySem.F.kt_called_dict (PySem.F.kt_typeCall_dict_1 _) PySem.F.entry_dict_init (kt_code_dict_new _ ⟨rfl,rfl⟩) ?_;rintro obj s₁ ⟨rfl,rfl⟩;have hnew:(s.heap.push { cls:=.type "dict",data:=.dict #[] }).DictOf (zU X.prog X.w) s.heap.objs.size []:=Heap.DictOf.new s.heap;have e1:(s.heap.push { cls:=.type "dict",data:=.dict #[] }).get? l=some { cls:=.type "list",dict:=none,data:=.seq its.toArray n,slots:=#[] }:=X7 _ e;refine⟨hnew.typeIs,PySem.F.args_dict_init_2 _ _,?_⟩;unfold UR.«dict.__init__»;refine Y1 ?_;unfold Builtin.Dict.selfAndRest;refine Y1 (wpAny_notOrdered_dict hnew.typeIs ?_);show W7 _ _ (pure (s.heap.objs.size,[Wz l])) _ _ _;refine XS ?_;show W7 _ _ (PZ "dict.__init__" s.heap.objs.size (.ref l) [] .none) _ _ _;unfold PZ;have hT:Sc { s with heap:=s.heap.push { cls:=.type "dict",data:=.dict #[] } } (.ref l) "list":=⟨_,e1,rfl⟩;refine Y1 (PK hT ?_);rw[bw (by decide)];refine Y1 (zm8 e1 (by simp[hh]) fun h2 t2 kp=>?_);rw[bw (show (none:Option X9).isNone=true from rfl)];have kp0:∀b o',s.heap.get? b=some o'->h2.get? b=some o':=fun b o' z=>kp b o' (X7 _ z);have hl2:h2.IsList l its.toArray:=⟨_,kp _ _ e1,rfl,n,rfl⟩;refine Y1 (Uo (Y1 (SK hl2 ?_)));have hls:l<s.heap.objs.size:=XI e;have hDl:s.heap.objs.size<h2.objs.size:=by
  obtain⟨o,_,_,ho,_⟩:=hnew;exact XI (kp _ _ ho)
 have hneI:l≠h2.objs.size:=Xe (RS hls hDl);have hDf:s.heap.objs.size ∉ [h2.objs.size,l]:=by
  simp only[Xz,P7,or_false,not_or];exact⟨Xe hDl,UN hls⟩
 refine XS ⟨UH Jf _,?_⟩;have hd2:(h2.push { cls:=.type "list_iterator",data:=.fields #[.ref l,.int 0 0] }).DictOf (zU X.prog X.w) s.heap.objs.size []:=by
  obtain⟨o,es,ep,ho,h3⟩:=hnew;exact⟨o,es,ep,X7 _ (kp _ _ ho),h3⟩
 refine zf7 (h0:=s.heap) ((Walks.list (by simp[hh]) h2.objs.size l hneI its.toArray).toS) s.heap.objs.size hDf (UL (XW _)) (fun b hb=>?_) ks (by rw[hkl];simp) (by simpa using hil) (by show X.A.units+1+1<Vl;lia) hks (fun i v hv=>hraw i v (by rw[<- hv];simp)) _ 0 _ rfl (W4 _)
  ⟨⟨_,Xd _ rfl,rfl,rfl⟩,hl2.push _⟩ (fun b o z=>X7 _ (kp0 b o z)) hd2 ?_
 ·have e:b=h2.objs.size:=by simpa using hb
  rw[e];exact UL (SZ hDl)
 ·intro s' hm hS';obtain⟨h',g',d',tk',os'⟩:=s';have eg:g'=s.gens:=hm.gens;have ed:d'=s.drawn:=hm.drawn;have eo:os'=s.os:=hm.os;subst eg;subst ed;subst eo;have kp3:∀b o',s.heap.get? b=some o'->h'.get? b=some o':=fun b o' z=>by
   have lt:=XI z;refine hm.heap b o' (fun hb=>?_) (X7 _ (kp0 b o' z));rcases Xz.mp hb with e | hb
   ·exact V5 _ (e ▸ lt)
   ·have e:b=h2.objs.size:=by simpa using hb
    rw[e] at lt;exact V5 _ (RS lt hDl)
  have hkk:KV (YB kvs) (Jg ks):=zni hkt .nil;have hfresh:H s.heap.objs.size=none:=I.hok.fresh (XW _);refine⟨rfl,.ref s.heap.objs.size,_,I.laid (a:=s.heap.objs.size) (o:=.dK (YB kvs)) (t':=tk') kp3 (XW _) ⟨?_,beq_eq_false_iff_ne.mpr (Vs (Xe big)),_,hkk,hS'⟩,rfl,q _ hfresh⟩;rw[Paired.length hkk];exact X4 (zbf ks) (by rw[hkl];exact hil)
end
end L2
namespace Cells
def zZ (p:Nat->Bool)(i:Nat):Nat->List Nat->List (Nat×Nat)
 | _,[]=>[]
 | j,c::r=>(if p c=true then [(i,j)] else [])++zZ p i (j+1) r
def zI (p:Nat->Bool):Nat->List (List Nat)->List (Nat×Nat)
 | _,[]=>[]
 | i,t::r=>zZ p i 0 t++zI p (i+1) r
theorem ZW (p:Nat->Bool)(i:Nat):∀(j:Nat) (a b:List Nat),zZ p i j (a++b)=zZ p i j a++zZ p i (j+a.length) b
 | j,[],b=>by simp[zZ]
 | j,c::a,b=>by
  simp only[List.cons_append,zZ,ZW p i (j+1) a b,XB,WV];rw[show j+1+a.length=j+(a.length+1) by lia]
theorem ZX (p:Nat->Bool):∀(i:Nat) (a b:List (List Nat)),zI p i (a++b)=zI p i a++zI p (i+a.length) b
 | i,[],b=>by simp[zI]
 | i,t::a,b=>by
  simp only[List.cons_append,zI,ZX p (i+1) a b,XB,WV];rw[show i+1+a.length=i+(a.length+1) by lia]
theorem QI {p:Nat->Bool}{i j c:Nat}{t:List Nat}(h:t[j]?=some c):zZ p i 0 (t.take (j+1))=zZ p i 0 (t.take j)++(if p c=true then [(i,j)] else []):=by
 rw[Xu,h,ZW];have hl:(t.take j).length=j:=by
  have:=(X2.mp h).1;rw[Xw];lia
 simp[zZ,hl]
theorem QJ {p:Nat->Bool}{i:Nat}{t:List Nat}{rs:List (List Nat)}(h:rs[i]?=some t):zI p 0 (rs.take (i+1))=zI p 0 (rs.take i)++zZ p i 0 t:=by
 rw[Xu,h,ZX];have hl:(rs.take i).length=i:=by
  have:=(X2.mp h).1;rw[Xw];lia
 simp[zI,hl]
theorem jY (p:Nat->Bool)(i:Nat):∀(j:Nat) (t:List Nat),(zZ p i j t).length<=t.length
 | j,[]=>by simp[zZ]
 | j,c::r=>by
  have:=jY p i (j+1) r;simp only[zZ,X5,XB];split<;>simp<;>lia
theorem jw (p:Nat->Bool):∀(i:Nat) (rs:List (List Nat)),(∀t∈rs,t.length<=8)->(zI p i rs).length<=8*rs.length
 | i,[],_=>by simp[zI]
 | i,t::r,h=>by
  have h1:=jY p i 0 t;have h2:=jw p (i+1) r fun u hu=>h u (XR _ hu);have h3:=h t XT;simp only[zI,X5,XB];lia
theorem Jo {p:Nat->Bool}{i:Nat}:∀{j:Nat} {t:List Nat} {x:Nat×Nat},x∈zZ p i j t->∃m c,x=(i,j+m)/\t[m]?=some c/\p c=true
 | j,[],x,h=>by simp[zZ] at h
 | j,c::r,x,h=>by
  simp only[zZ,XO] at h;rcases h with h | h
  ·split at h
   ·rename_i hp;have:x=(i,j):=by simpa using h
    exact⟨0,c,this,rfl,hp⟩
   ·cases h
  ·obtain⟨m,c',e,h1,h2⟩:=Jo h;exact⟨m+1,c',by rw[e,show j+1+m=j+(m+1) by lia],by simpa using h1,h2⟩
theorem Jp {p:Nat->Bool}{i:Nat}{rs:List (List Nat)}{x:Nat×Nat}(h:x∈zI p i rs):∃k j t c,x=(i+k,j)/\rs[k]?=some t/\t[j]?=some c/\p c=true:=by
 induction rs generalizing i with
 | nil=>simp[zI] at h
 | cons t r ih =>
  simp only[zI,XO] at h;rcases h with h | h
  ·obtain⟨m,c,e,h1,h2⟩:=Jo h;exact⟨0,m,t,c,by simpa using e,rfl,h1,h2⟩
  ·obtain⟨k,j,u,c,e,h1,h2,h3⟩:=ih h;exact⟨k+1,j,u,c,by rw[e,show i+1+k=i+(k+1) by lia],by simpa using h1,h2,h3⟩
def sgn (rs:List (List Nat))(x:Nat×Nat):Nat:=(rs.getD x.1 []).getD x.2 0
theorem zao {p q:Nat->Bool}{i:Nat}(f:Nat×Nat->Bool):∀(j:Nat) (t:List Nat),(∀m c,t[m]?=some c->f (i,j+m)=q c)->(zZ p i j t).filter f=zZ (fun c=>p c&&q c) i j t
 | j,[],_=>by simp[zZ]
 | j,c::r,h=>by
  have ih:=zao (p:=p) (q:=q) (i:=i) f (j+1) r fun m c' hm=>by
   have:=h (m+1) c' (by simpa using hm);rw[show j+1+m=j+(m+1) by lia];exact this
  have h0:=h 0 c rfl;simp only[zZ,Xa,ih];congr 1;simp only[SS] at h0;by_cases hp:p c=true
  ·by_cases hq:q c=true
   ·simp[hp,hq,h0]
   ·simp[hp,hq,h0]
  ·simp[hp]
theorem zap {p q:Nat->Bool}(f:Nat×Nat->Bool):∀(i:Nat) (rs:List (List Nat)),(∀k t m c,rs[k]?=some t->t[m]?=some c->f (i+k,m)=q c)->(zI p i rs).filter f=zI (fun c=>p c&&q c) i rs
 | i,[],_=>by simp[zI]
 | i,t::r,h=>by
  have ih:=zap (p:=p) (q:=q) f (i+1) r fun k u m c hk hm=>by
   have:=h (k+1) u m c (by simpa using hk) hm;rw[show i+1+k=i+(k+1) by lia];exact this
  simp only[zI,Xa,ih];rw[zao (p:=p) (q:=q) f 0 t fun m c hm=>by simpa using h 0 t m c rfl hm]
theorem ze7 {rs:List (List Nat)}{i j:Nat}{t:List Nat}{c:Nat}(h:rs[i]?=some t)(h2:t[j]?=some c):sgn rs (i,j)=c:=by
 unfold sgn;simp[List.getD,h,h2]
theorem all_filter {p q:Nat->Bool}(rs:List (List Nat)):(zI p 0 rs).filter (fun x=>q (sgn rs x))=zI (fun c=>p c&&q c) 0 rs :=
 zap _ 0 rs fun k t m c hk hm=>by rw[show 0+k=k by lia,ze7 hk hm]
theorem zf9 {p q:Nat->Bool}(h:∀c,p c=q c)(i:Nat)(rs:List (List Nat)):zI p i rs=zI q i rs:=by
 rw[show p=q from funext h]
def near (x y:Nat×Nat):Bool:=decide ((if (x.1:Int)-(y.1:Int)<0 then -((x.1:Int)-(y.1:Int)) else (x.1:Int)-(y.1:Int))<2)&&(decide ((if (x.2:Int)-(y.2:Int)<0 then -((x.2:Int)-(y.2:Int)) else (x.2:Int)-(y.2:Int))<2) && !decide (x=y))
theorem YC (x y:Nat×Nat):near x y=true↔(x.1<=y.1+1/\y.1<=x.1+1)/\(x.2<=y.2+1/\y.2<=x.2+1)/\¬ x=y:=by
 unfold near;rw[V6,V6,decide_eq_true_iff,decide_eq_true_iff,WT,decide_eq_false_iff_not];constructor
 ·rintro⟨h1,h2,h3⟩;refine⟨?_,?_,h3⟩
  ·split at h1<;>lia
  ·split at h2<;>lia
 ·rintro⟨h1,h2,h3⟩;refine⟨?_,?_,h3⟩
  ·split<;>lia
  ·split<;>lia
def lex (a b:Nat×Nat):Prop:=a.1<b.1\/(a.1=b.1/\a.2<b.2)
theorem zd2 (p:Nat->Bool)(i:Nat):∀(j:Nat) (t:List Nat),(zZ p i j t).Pairwise lex
 | j,[]=>by simp[zZ]
 | j,c::r=>by
  simp only[zZ];rw[TW];refine⟨?_,zd2 p i (j+1) r,fun a ha b hb=>?_⟩
  ·split<;>simp
  ·split at ha
   ·have e:a=(i,j):=by simpa using ha
    obtain⟨m,c',e',_,_⟩:=Jo hb;subst e e';exact .inr ⟨rfl,by show j<j+1+m;lia⟩
   ·cases ha
theorem Zn (p:Nat->Bool):∀(i:Nat) (rs:List (List Nat)),(zI p i rs).Pairwise lex
 | i,[]=>by simp[zI]
 | i,t::r=>by
  simp only[zI];rw[TW];refine⟨zd2 p i 0 t,Zn p (i+1) r,fun a ha b hb=>?_⟩;obtain⟨m,c,e,_,_⟩:=Jo ha;obtain⟨k,j,u,c',e',_,_,_⟩:=Jp hb;subst e e';exact .inl (by show i<i+1+k;lia)
theorem zlp {p:Nat->Bool}{f:Nat×Nat->Bool}{n:Nat}{rs:List (List Nat)}(h:∀r c,r<n->f (r,c)=false):(zI p 0 (rs.take n)).filter f=[]:=by
 rw[V9];intro x hx;obtain⟨k,j,t,c,e,hk,_,_⟩:=Jp hx;have hkl:k<n:=by
  have:=(X2.mp hk).1;rw[Xw] at this;lia
 subst e;rw[h _ _ (by lia)];exact XV
theorem zjX {p:Nat->Bool}{f:Nat×Nat->Bool}{n:Nat}{rs:List (List Nat)}(h:∀r c,n<=r->f (r,c)=false):(zI p 0 (rs.take n)).filter f=(zI p 0 rs).filter f:=by
 by_cases hn:n<=rs.length
 ·have e:=Ws n rs;have e2:zI p 0 rs=zI p 0 (rs.take n)++zI p (0+(rs.take n).length) (rs.drop n):=by rw[<- ZX,e]
  rw[e2,Xa];have z:(zI p (0+(rs.take n).length) (rs.drop n)).filter f=[]:=by
   rw[V9];intro x hx;obtain⟨k,j,t,c,e,hk,_,_⟩:=Jp hx;subst e;rw[Xw,h _ _ (by lia)];exact XV
  rw[z,Xh]
 ·rw[WB (by lia)]
theorem zlq {p:Nat->Bool}{f:Nat×Nat->Bool}{i n:Nat}{t:List Nat}(h:∀c,c<n->f (i,c)=false):(zZ p i 0 (t.take n)).filter f=[]:=by
 rw[V9];intro x hx;obtain⟨m,c,e,hm,_⟩:=Jo hx;have hml:m<n:=by
  have:=(X2.mp hm).1;rw[Xw] at this;lia
 subst e;rw[h _ (by lia)];exact XV
theorem zjY {p:Nat->Bool}{f:Nat×Nat->Bool}{i n:Nat}{t:List Nat}(h:∀c,n<=c->f (i,c)=false):(zZ p i 0 (t.take n)).filter f=(zZ p i 0 t).filter f:=by
 by_cases hn:n<=t.length
 ·have e:=Ws n t;have e2:zZ p i 0 t=zZ p i 0 (t.take n)++zZ p i (0+(t.take n).length) (t.drop n):=by rw[<- ZW,e]
  rw[e2,Xa];have z:(zZ p i (0+(t.take n).length) (t.drop n)).filter f=[]:=by
   rw[V9];intro x hx;obtain⟨m,c,e,hm,_⟩:=Jo hx;subst e;rw[Xw,h _ (by lia)];exact XV
  rw[z,Xh]
 ·rw[WB (by lia)]
end Cells
namespace Parts
abbrev C:=Nat×Nat
structure Good (cl:C->List C)(done:List C)(gs:List (List C)):Prop where
 ne:∀g∈gs,g ≠ []
 nd:gs.flatten.Nodup
 from_:∀x∈gs.flatten,∃o∈done,x∈cl o
 cov:∀o∈done,cl o ≠ []->∃g∈gs,∀x∈cl o,x∈g
 con:∀g∈gs,∀S:C->Prop,(∀o∈done,(∃x∈cl o,S x)->∀x∈cl o,S x)->(∃x∈g,S x)->∀x∈g,S x
 srt:∀g∈gs,g.Pairwise Cells.lex
theorem Good.start (cl:C->List C):Good cl [] []:=⟨(fun _ h=>nomatch h),Uy,(fun _ h=>nomatch h),(fun _ h=>nomatch h),(fun _ h=>nomatch h),(fun _ h=>nomatch h)⟩
theorem Good.skip {cl:C->List C}{done:List C}{gs:List (List C)}(G:Good cl done gs){o:C}(h:cl o=[]):Good cl (done++[o]) gs:=by
 refine⟨G.ne,G.nd,fun x hx=>?_,fun p hp hn=>?_,fun g hg S hS=>G.con g hg S fun p hp=>hS p (W5 _ hp),G.srt⟩
 ·obtain⟨p,hp,hx⟩:=G.from_ x hx;exact⟨p,W5 _ hp,hx⟩
 ·rcases XO.mp hp with hp | hp
  ·exact G.cov p hp hn
  ·have e:p=o:=by simpa using hp
   subst e;exact absurd h hn
theorem zd3 {gs:List (List C)}(nd:gs.flatten.Nodup):∀{g g':List C} {x:C},g∈gs->g'∈gs->x∈g->x∈g'->g=g':=by
 induction gs with
 | nil=>intro g g' x h;cases h
 | cons a r ih =>
  rw[Wm,Ww] at nd;obtain⟨_,h2,h3⟩:=nd;intro g g' x hg hg' hx hx';rcases Xz.mp hg with e1 | g1
  ·rcases Xz.mp hg' with e2 | g2
   ·rw[e1,e2]
   ·exact absurd rfl (h3 x (e1 ▸ hx) x (WI.mpr ⟨g',g2,hx'⟩))
  ·rcases Xz.mp hg' with e2 | g2
   ·exact absurd rfl (h3 x (e2 ▸ hx') x (WI.mpr ⟨g,g1,hx⟩))
   ·exact ih h2 g1 g2 hx hx'
theorem qY (p:List C->Bool):∀gs:List (List C),(gs.filter p).flatten.Sublist gs.flatten
 | []=>List.Sublist.refl _
 | a::r=>by
  rw[W0,Wm];split
  ·rw[Wm];exact List.Sublist.append (List.Sublist.refl _) (qY p r)
  ·exact List.Sublist.trans (qY p r) (List.sublist_append_right _ _)
def meets (g0 g:List C):Bool:=!(g.filter fun c=>g0.any fun x=>decide (x=c)).isEmpty
theorem Zo {g0 g:List C}:meets g0 g=true ↔ ∃x∈g,x∈g0:=by
 unfold meets;rw[WT,VO];constructor
 ·intro h;obtain⟨x,hx⟩:=TJ _ h;rw[X6,WC] at hx;obtain⟨h1,y,h2,h3⟩:=hx;have e:y=x:=bh h3;subst e;exact⟨y,h1,h2⟩
 ·rintro⟨x,h1,h2⟩ hn;have:x∈g.filter fun c=>g0.any fun x=>decide (x=c):=X6.mpr ⟨h1,WC.mpr ⟨x,h2,br rfl⟩⟩;rw[hn] at this;cases this
def whole (w:List C):List (List C)->List C
 | []=>w
 | g::r=>whole (w++g.filter fun c=>!(w.any fun x=>decide (x=c))) r
theorem ZY (w:List C)(c:C):(w.any fun x=>decide (x=c))=true↔c∈w:=by
 rw[WC];constructor
 ·rintro⟨x,h1,h2⟩;have e:x=c:=bh h2;subst e;exact h1
 ·intro h;exact⟨c,h,br rfl⟩
theorem zaV {x:C}:∀{w:List C} {ms:List (List C)},x∈whole w ms↔x∈w\/∃m∈ms,x∈m
 | w,[]=>by simp[whole]
 | w,g::r=>by
  rw[whole,zaV,XO,X6];constructor
  ·rintro((h | ⟨h,_⟩) | ⟨m,hm,h⟩)
   ·exact .inl h
   ·exact .inr ⟨g,XT,h⟩
   ·exact .inr ⟨m,XR _ hm,h⟩
  ·rintro(h | ⟨m,hm,h⟩)
   ·exact .inl (.inl h)
   ·rcases Xz.mp hm with rfl | hm
    ·by_cases hw:x∈w
     ·exact .inl (.inl hw)
     ·refine .inl (.inr ⟨h,?_⟩);rw[WT,Xs];exact fun z=>hw ((ZY w x).mp z)
    ·exact .inr ⟨m,hm,h⟩
theorem YD:∀{w:List C} {ms:List (List C)},w.Nodup->(∀m∈ms,m.Nodup)->(whole w ms).Nodup
 | w,[],h,_=>h
 | w,g::r,h,hm=>by
  rw[whole];refine YD ?_ fun m hm'=>hm m (XR _ hm');rw[Ww];refine⟨h,(hm g XT).sublist W1,fun a ha b hb e=>?_⟩;subst e;have hb2:=(X6.mp hb).2;rw[(ZY w a).mpr ha] at hb2;cases hb2
theorem Good.step {cl:C->List C}{done:List C}{gs:List (List C)}(G:Good cl done gs){o:C}(h:cl o ≠ [])(hn:(cl o).Nodup){rest:List (List C)}{w:List C}(hr:rest=gs.filter fun g=>!((gs.filter (meets (cl o))).any fun m=>decide (m=g)))
  (hw:w.Perm (whole (cl o) (gs.filter (meets (cl o))))) (hs:w.Pairwise Cells.lex):Good cl (done++[o]) (rest++[w]):=by
 have mr:∀g,g∈rest↔g∈gs/\¬ ∃x∈g,x∈cl o:=fun g=>by
  rw[hr,X6,WT,Xs];constructor
  ·rintro⟨h1,h2⟩;exact⟨h1,fun h3=>h2 (WC.mpr ⟨g,X6.mpr ⟨h1,Zo.mpr h3⟩,br rfl⟩)⟩
  ·rintro⟨h1,h2⟩;refine⟨h1,fun h3=>?_⟩;obtain⟨m,hm,e⟩:=WC.mp h3;have e':m=g:=bh e;subst e';exact h2 (Zo.mp (X6.mp hm).2)
 have mw:∀x,x∈w↔x∈cl o\/∃g∈gs,(∃y∈g,y∈cl o)/\x∈g:=fun x=>by
  rw[hw.mem_iff,zaV];constructor
  ·rintro(h1 | ⟨m,hm,h1⟩)
   ·exact .inl h1
   ·obtain⟨h2,h3⟩:=X6.mp hm;exact .inr ⟨m,h2,Zo.mp h3,h1⟩
  ·rintro(h1 | ⟨g,h2,h3,h1⟩)
   ·exact .inl h1
   ·exact .inr ⟨g,X6.mpr ⟨h2,Zo.mpr h3⟩,h1⟩
 have gn:∀g∈gs,g.Nodup:=fun g hg=>G.nd.sublist (U6 hg);have wn:w.Nodup:=hw.nodup_iff.mpr (YD hn fun m hm=>gn m (X6.mp hm).1);refine⟨fun g hg=>?_,?_,fun x hx=>?_,fun p hp hne=>?_,fun g hg S hS=>?_,fun g hg=>?_⟩
 ·rcases XO.mp hg with hg | hg
  ·exact G.ne g ((mr g).mp hg).1
  ·have e:g=w:=by simpa using hg
   subst e;obtain⟨x,hx⟩:=TJ _ h;exact Uj ((mw x).mpr (.inl hx))
 ·rw[WD,Ww];refine⟨G.nd.sublist (by rw[hr];exact qY _ gs),by simpa using wn,fun a ha b hb e=>?_⟩;subst e;have hb':a∈w:=by simpa using hb
  obtain⟨g,hg,hx⟩:=WI.mp ha;obtain⟨g1,g2⟩:=(mr g).mp hg;rcases(mw a).mp hb' with h1 | ⟨m,m1,m2,m3⟩
  ·exact g2 ⟨a,hx,h1⟩
  ·have e:=zd3 G.nd g1 m1 hx m3;subst e;exact g2 m2
 ·rw[WD] at hx;rcases XO.mp hx with hx | hx
  ·obtain⟨g,hg,hx⟩:=WI.mp hx;obtain⟨p,hp,hx⟩:=G.from_ x (WI.mpr ⟨g,((mr g).mp hg).1,hx⟩);exact⟨p,W5 _ hp,hx⟩
  ·have hx':x∈w:=by simpa using hx
   rcases(mw x).mp hx' with h1 | ⟨g,g1,_,g3⟩
   ·exact⟨o,by simp,h1⟩
   ·obtain⟨p,hp,hx⟩:=G.from_ x (WI.mpr ⟨g,g1,g3⟩);exact⟨p,W5 _ hp,hx⟩
 ·rcases XO.mp hp with hp | hp
  ·obtain⟨g,hg,hx⟩:=G.cov p hp hne;by_cases hm:∃x∈g,x∈cl o
   ·exact⟨w,by simp,fun x hx'=>(mw x).mpr (.inr ⟨g,hg,hm,hx x hx'⟩)⟩
   ·exact⟨g,W5 _ ((mr g).mpr ⟨hg,hm⟩),hx⟩
  ·have e:p=o:=by simpa using hp
   subst e;exact⟨w,by simp,fun x hx=>(mw x).mpr (.inl hx)⟩
 ·have hS':∀p∈done,(∃x∈cl p,S x)->∀x∈cl p,S x:=fun p hp=>hS p (W5 _ hp);rcases XO.mp hg with hg | hg
  ·exact G.con g ((mr g).mp hg).1 S hS'
  ·have e:g=w:=by simpa using hg
   subst e;rintro⟨x,hx,sx⟩;have all0:∀y∈cl o,S y:=by
    refine hS o (by simp) ?_;rcases(mw x).mp hx with h1 | ⟨m,m1,⟨y,y1,y2⟩,m3⟩
    ·exact⟨x,h1,sx⟩
    ·exact⟨y,y2,G.con m m1 S hS' ⟨x,m3,sx⟩ y y1⟩
   intro z hz;rcases(mw z).mp hz with h1 | ⟨m,m1,⟨y,y1,y2⟩,m3⟩
   ·exact all0 z h1
   ·exact G.con m m1 S hS' ⟨y,y1,all0 y y2⟩ z m3
 ·rcases XO.mp hg with hg | hg
  ·exact G.srt g ((mr g).mp hg).1
  ·have e:g=w:=by simpa using hg
   subst e;exact hs
theorem Good.perm {cl:C->List C}{done:List C}{gs gs':List (List C)}(G:Good cl done gs)(h:gs'.Perm gs):Good cl done gs':=by
 refine⟨fun g hg=>G.ne g (h.mem_iff.mp hg),h.flatten.nodup_iff.mpr G.nd,fun x hx=>G.from_ x (h.flatten.mem_iff.mp hx),fun o ho hn=>?_,fun g hg=>G.con g (h.mem_iff.mp hg),fun g hg=>G.srt g (h.mem_iff.mp hg)⟩;obtain⟨g,hg,hx⟩:=G.cov o ho hn;exact⟨g,h.mem_iff.mpr hg,hx⟩
theorem Zp:∀{gs:List (List C)},(∀g∈gs,g ≠ [])->gs.length<=gs.flatten.length
 | [],_=>XW _
 | g::r,h=>by
  have ih:=Zp (gs:=r) fun x hx=>h x (XR _ hx);have:1<=g.length:=List.length_pos_iff.mpr (h g XT);rw[Wm,X5,XB];lia
theorem qc:∀{a b:List C},a.Nodup->(∀x∈a,x∈b)->a.length<=b.length
 | [],_,_,_=>W4 _
 | x::r,b,h,s=>by
  obtain⟨h1,h2⟩:=VG.mp h;have hx:=s x XT;have ih:=qc (a:=r) (b:=b.erase x) h2 fun y hy=>(List.mem_erase_of_ne (fun (e:y=x)=>h1 (by rw[<- e];exact hy))).mpr (s y (XR _ hy));rw[List.length_erase_of_mem hx] at ih;have:=Sv hx;rw[XB];lia
end Parts
namespace Subs
variable {α:Type}
def step (S:List (List α))(c:α):List (List α):=S++S.map (·++[c])
def subs (cs:List α):List (List α):=cs.foldl step [[]]
def pick:List α->Nat->List α
 | [],_=>[]
 | c::r,b=>(if b%2=1 then [c] else [])++pick r (b/2)
theorem zd4 (cs:List α)(c:α):subs (cs++[c])=step (subs cs) c:=by
 unfold subs;rw[Vf];rfl
theorem ziR:∀(cs:List α) (c:α) (b:Nat),b<2^cs.length->pick (cs++[c]) b=pick cs b
 | [],c,b,h=>by
  have:b=0:=by
   simp at h;lia
  subst this;rfl
 | d::r,c,b,h=>by
  show _++pick (r++[c]) (b/2)=_++pick r (b/2);rw[ziR r c (b/2) (by
   rw[XB,Um] at h;lia)]
theorem ziS:∀(cs:List α) (c:α) (b:Nat),b<2^cs.length->pick (cs++[c]) (2^cs.length+b)=pick cs b++[c]
 | [],c,b,h=>by
  have:b=0:=by
   simp at h;lia
  subst this;rfl
 | d::r,c,b,h=>by
  rw[XB,Um] at h;show (if (2^(r.length+1)+b)%2=1 then [d] else [])++pick (r++[c]) ((2^(r.length+1)+b)/2)=((if b%2=1 then [d] else [])++pick r (b/2))++[c];have e1:(2^(r.length+1)+b)%2=b%2:=by
   rw[Um];lia
  have e2:(2^(r.length+1)+b)/2=2^r.length+b/2:=by
   rw[Um];lia
  rw[e1,e2,ziS r c (b/2) (by lia),WV]
theorem YZ (cs:List α):subs cs=(XF (2^cs.length)).map (pick cs):=by
 rw[<- O3 cs];induction cs.reverse with
 | nil=>rfl
 | cons c r ih =>
  rw[List.reverse_cons,zd4,ih,X5,Po,Um,Nat.mul_two,List.range_add,XC,WJ];unfold step;rw[WJ];congr 1
  ·refine Xg fun b hb=>?_;exact(ziR _ _ _ (Xl.mp hb)).symm
  ·refine Xg fun b hb=>?_;exact(ziS _ _ _ (Xl.mp hb)).symm
end Subs
namespace Grow
variable {α β:Type}
def cnt (near:β->α->Bool)(o:β)(p:List α):Nat:=(p.filter (near o)).length
def zcn (near:β->α->Bool)(num:β->Int)(rest:List α)(o:β)(p:List α):Bool:=decide (num o-((cnt near o rest:Nat):Int)<=((cnt near o p:Nat):Int))&&decide (((cnt near o p:Nat):Int)<=num o)
def chk (near:β->α->Bool)(num:β->Int)(O:List β)(c:α)(rest:List α)(p:List α):Bool:=(O.filter fun o=>near o c).all fun o=>zcn near num rest o p
def grow (near:β->α->Bool)(num:β->Int)(O:List β):List (List α)->List α->List (List α)
 | F,[]=>F
 | F,c::rest=>grow near num O ((Subs.step F c).filter (chk near num O c rest)) rest
def good (near:β->α->Bool)(num:β->Int)(O:List β)(done rest:List α)(p:List α):Bool:=(O.filter fun o=>done.any (near o)).all fun o=>zcn near num rest o p
theorem cnt_cons (near:β->α->Bool)(o:β)(c:α)(r:List α):cnt near o (c::r)=cnt near o r+if near o c=true then 1 else 0:=by
 unfold cnt;rw[W0];split<;>rfl
theorem zga (near:β->α->Bool)(o:β)(p:List α)(c:α):cnt near o (p++[c])=cnt near o p+if near o c=true then 1 else 0:=by
 unfold cnt;rw[Xa,X5];congr 1;rw[W0];split<;>rfl
theorem yh {near:β->α->Bool}{num:β->Int}{rest:List α}{o:β}{p:List α}:zcn near num rest o p=true↔num o-((cnt near o rest:Nat):Int)<=((cnt near o p:Nat):Int)/\((cnt near o p:Nat):Int)<=num o:=by
 unfold zcn;rw[V6,bu,bu]
theorem ziT {near:β->α->Bool}{num:β->Int}{O:List β}{c:α}{rest p:List α}:chk near num O c rest p=true ↔ ∀o∈O,near o c=true->zcn near num rest o p=true:=by
 unfold chk;rw[WR];exact⟨fun h o ho hn=>h o (X6.mpr ⟨ho,hn⟩),fun h o ho=>h o (X6.mp ho).1 (X6.mp ho).2⟩
theorem YE {near:β->α->Bool}{num:β->Int}{O:List β}{done rest p:List α}:good near num O done rest p=true ↔ ∀o∈O,done.any (near o)=true->zcn near num rest o p=true:=by
 unfold good;rw[WR];exact⟨fun h o ho hn=>h o (X6.mpr ⟨ho,hn⟩),fun h o ho=>h o (X6.mp ho).1 (X6.mp ho).2⟩
theorem Zq (near:β->α->Bool)(o:β)(done:List α)(c:α):(done++[c]).any (near o)=true↔done.any (near o)=true\/near o c=true:=by
 rw[List.any_append,R1];simp
theorem znk (near:β->α->Bool)(num:β->Int)(O:List β)(done rest:List α)(c:α)(p:List α):(good near num O done (c::rest) p&&chk near num O c rest p)=good near num O (done++[c]) rest p:=by
 rw[WO,V6,YE,ziT,YE];constructor
 ·rintro⟨h1,h2⟩ o ho hn;by_cases hc:near o c=true
  ·exact h2 o ho hc
  ·have:=h1 o ho (((Zq near o done c).mp hn).resolve_right hc);rw[yh,cnt_cons,bq hc] at this;exact yh.mpr this
 ·intro h;refine⟨fun o ho hn=>?_,fun o ho hc=>h o ho ((Zq near o done c).mpr (.inr hc))⟩;have:=yh.mp (h o ho ((Zq near o done c).mpr (.inl hn)));rw[yh,cnt_cons];split<;>lia
theorem znl (near:β->α->Bool)(num:β->Int)(O:List β)(done rest:List α)(c:α)(p:List α):(good near num O done (c::rest) p&&chk near num O c rest (p++[c]))=good near num O (done++[c]) rest (p++[c]):=by
 rw[WO,V6,YE,ziT,YE];constructor
 ·rintro⟨h1,h2⟩ o ho hn;by_cases hc:near o c=true
  ·exact h2 o ho hc
  ·have:=h1 o ho (((Zq near o done c).mp hn).resolve_right hc);rw[yh,cnt_cons,bq hc] at this;rw[yh,zga,bq hc];exact this
 ·intro h;refine⟨fun o ho hn=>?_,fun o ho hc=>h o ho ((Zq near o done c).mpr (.inr hc))⟩;have:=yh.mp (h o ho ((Zq near o done c).mpr (.inl hn)));rw[zga] at this;rw[yh,cnt_cons];split at this<;>rename_i hc
  ·rw[bw hc];lia
  ·rw[bq hc];lia
theorem zjZ (near:β->α->Bool)(num:β->Int)(O:List β)(done rest:List α)(c:α)(S:List (List α)):(Subs.step (S.filter (good near num O done (c::rest))) c).filter (chk near num O c rest)=(Subs.step S c).filter (good near num O (done++[c]) rest):=by
 unfold Subs.step;rw[Xa,Xa];congr 1
 ·rw[List.filter_filter];refine Ve fun p _=>?_;rw[<- znk,OD]
 ·rw[Tl,Tl,List.filter_filter];congr 1;refine Ve fun p _=>?_;show (chk near num O c rest (p++[c])&&good near num O done (c::rest) p)=good near num O (done++[c]) rest (p++[c]);rw[<- znl,OD]
theorem zd5 (near:β->α->Bool)(num:β->Int)(O:List β):∀(rest done:List α) (S:List (List α)),grow near num O (S.filter (good near num O done rest)) rest=(rest.foldl Subs.step S).filter (good near num O (done++rest) [])
 | [],done,S=>by
  rw[Xh];rfl
 | c::r,done,S=>by
  show grow near num O ((Subs.step (S.filter (good near num O done (c::r))) c).filter (chk near num O c r)) r=_;rw[zjZ,zd5 near num O r (done++[c]) (Subs.step S c),WV];rfl
def fits (near:β->α->Bool)(num:β->Int)(O:List β)(part:List α)(p:List α):Bool:=(O.filter fun o=>part.any (near o)).all fun o=>decide (((cnt near o p:Nat):Int)=num o)
theorem znm (near:β->α->Bool)(num:β->Int)(O:List β)(part:List α):grow near num O [[]] part=(Subs.subs part).filter (fits near num O part):=by
 have h:=zd5 near num O part [] [[]];have e:([[]]:List (List α)).filter (good near num O [] part)=[[]]:=by
  have:good near num O [] part []=true:=YE.mpr fun o _ hn=>by simp at hn
  rw[W0,bw this];rfl
 rw[e] at h;rw[h];show (Subs.subs part).filter _=_;refine Ve fun p _=>?_;rw[Pu];unfold good fits;congr 1;funext o;rw[WO,yh,bu];show num o-((0:Nat):Int)<=_/\_↔_;lia
end Grow
namespace Cnt
variable {α:Type}
def JB (g:Nat)(ks:List (List α)):List Int:=(XF (g+1)).map fun n=>((ks.countP fun k=>decide (k.length=n):Nat):Int)
theorem zaq (g:Nat)(ks:List (List α)):(JB g ks).length=g+1:=by
 unfold JB;rw[ZB,Xj]
theorem zlr (g:Nat):JB g ([]:List (List α))=WN (g+1) 0:=by
 unfold JB;refine List.eq_replicate_iff.mpr ⟨by rw[ZB,Xj],fun b hb=>?_⟩;obtain⟨n,_,rfl⟩:=XU.mp hb;rfl
theorem zco {g n:Nat}(ks:List (List α))(h:n<=g):(JB g ks)[n]?=some ((ks.countP fun k=>decide (k.length=n):Nat):Int):=by
 unfold JB;rw[Xk,UC (by lia)];rfl
theorem zj0 {g:Nat}(ks:List (List α)){k:List α}(h:k.length<=g):JB g (ks++[k])=(JB g ks).set k.length (((ks.countP fun x=>decide (x.length=k.length):Nat):Int)+1):=by
 refine T5 fun n=>?_;rw[List.getElem?_set];by_cases hn:n<=g
 ·rw[zco _ hn,zco _ hn,zaq,Vm];by_cases e:k.length=n
  ·rw[bw e,bw (by lia)];subst e;simp
  ·rw[bq e];simp[e]
 ·have e1:∀xs:List (List α),(JB g xs)[n]?=none:=fun xs=>UX (by rw[zaq];lia);rw[e1,e1,zaq,bq (by lia)]
theorem zj1 {g:Nat}{as bs:List (List α)}(h:as.Perm bs):JB g as=JB g bs:=by
 unfold JB;refine Xg fun n _=>?_;rw[h.countP_eq]
end Cnt
namespace Pour
def S (h:Nat->Int):Nat->Int
 | 0=>0
 | n+1=>S h n+h n
def F (xs:List Int)(i:Nat):Int:=(xs[i]?).getD 0
def hk (xs ys:List Int)(k i:Nat):Int:=if i<=k then F xs i*F ys (k-i) else 0
def Qk (xs ys:List Int):List Int:=(XF (xs.length+ys.length-1)).map fun k=>S (hk xs ys k) xs.length
def part (xs ys:List Int)(i j k:Nat):Int:=S (hk xs ys k) i+(if i<=k/\k-i<j then F xs i*F ys (k-i) else 0)
def st (xs ys:List Int)(i j:Nat):List Int:=(XF (xs.length+ys.length-1)).map (part xs ys i j)
theorem zcp {xs:List Int}{i:Nat}(h:xs.length<=i):F xs i=0:=by
 unfold F;rw[UX h];rfl
theorem znn {xs:List Int}{i:Nat}{x:Int}(h:xs[i]?=some x):F xs i=x:=by
 unfold F;rw[h];rfl
theorem ZZ {f g:Nat->Int}:∀n,(∀i,i<n->f i=g i)->S f n=S g n
 | 0,_=>rfl
 | n+1,h=>by
  show S f n+f n=S g n+g n;rw[ZZ n fun i hi=>h i (by lia),h n (by lia)]
theorem zls {f:Nat->Int}{n:Nat}:∀m,(∀i,n<=i->i<n+m->f i=0)->S f (n+m)=S f n
 | 0,_=>rfl
 | m+1,h=>by
  show S f (n+m)+f (n+m)=S f n;rw[zls m fun i h1 h2=>h i h1 (by lia),h (n+m) (by lia) (by lia),RQ]
theorem zno {f:Nat->Int}{n m:Nat}(hm:n<=m)(h:∀i,n<=i->i<m->f i=0):S f m=S f n:=by
 obtain⟨d,rfl⟩:∃d,m=n+d:=⟨m-n,by lia⟩;exact zls d h
theorem zpn (xs ys:List Int)(k:Nat):S (hk xs ys k) xs.length=S (fun i=>F xs i*F ys (k-i)) (k+1):=by
 have e1:S (fun i=>F xs i*F ys (k-i)) (k+1)=S (hk xs ys k) (k+1):=ZZ _ fun i hi=>by
  unfold hk;rw[bw (by lia)]
 rw[e1];by_cases c:xs.length<=k+1
 ·refine(zno c fun i h1 _=>?_).symm;unfold hk;rw[zcp h1];split<;>simp
 ·refine zno (by lia) fun i h1 _=>?_;unfold hk;rw[bq (by lia)]
theorem zhy (xs ys:List Int)(i j:Nat):(st xs ys i j).length=xs.length+ys.length-1:=by
 unfold st;rw[ZB,Xj]
theorem zhz {xs ys:List Int}{i j k:Nat}(h:k<xs.length+ys.length-1):(st xs ys i j)[k]?=some (part xs ys i j k):=by
 unfold st;rw[Xk,UC h];rfl
theorem zlt (xs ys:List Int):st xs ys 0 0=WN (xs.length+ys.length-1) 0:=by
 unfold st;have e:∀k,part xs ys 0 0 k=0:=fun k=>by
  unfold part;rw[bq (by lia)];rfl
 refine(Xg (g:=fun _=>(0:Int)) fun k _=>e k).trans ?_;rw[List.map_const',Xj]
theorem zlu (xs ys:List Int)(i k:Nat):part xs ys i ys.length k=part xs ys (i+1) 0 k:=by
 unfold part;rw[bq (show ¬ (i+1<=k/\k-(i+1)<0) by lia),RQ];show _=S (hk xs ys k) i+hk xs ys k i;congr 1;unfold hk;by_cases c:i<=k
 ·by_cases d:k-i<ys.length
  ·rw[bw ⟨c,d⟩,bw c]
  ·rw[bq (fun z=>d z.2),bw c,zcp (show ys.length<=k-i by lia),Int.mul_zero]
 ·rw[bq (fun z=>c z.1),bq c]
theorem zpo (xs ys:List Int)(i:Nat):st xs ys i ys.length=st xs ys (i+1) 0:=by
 unfold st;exact Xg fun k _=>zlu xs ys i k
theorem znp {xs ys:List Int}{i j:Nat}{x y:Int}(hx:xs[i]?=some x)(hy:ys[j]?=some y):(st xs ys i j).set (i+j) (part xs ys i j (i+j)+x*y)=st xs ys i (j+1):=by
 have hi:i<xs.length:=(X2.mp hx).1;have hj:j<ys.length:=(X2.mp hy).1;apply T5;intro k;rw[List.getElem?_set];by_cases c:k<xs.length+ys.length-1
 ·rw[zhz c,zhz c];by_cases e:i+j=k
  ·subst e;rw[bw rfl,bw (by rw[zhy];exact c)];congr 1;unfold part;rw[bq (by lia),bw (by lia),RQ,znn hx,S6,znn hy]
  ·rw[bq e];congr 1;unfold part;congr 1;by_cases d:i<=k/\k-i<j
   ·rw[bw d,bw (by lia)]
   ·rw[bq d,bq (by lia)]
 ·have n1:∀j',(st xs ys i j')[k]?=none:=fun j'=>UX (by rw[zhy];lia);rw[n1,n1];by_cases e:i+j=k
  ·lia
  ·rw[bq e]
theorem zpp (xs ys:List Int):st xs ys xs.length 0=Qk xs ys:=by
 unfold st Qk;refine Xg fun k _=>?_;unfold part;rw[bq (by lia),RQ]
end Pour
namespace Choose
def ch:Nat->Nat->Nat
 | _,0=>1
 | 0,_+1=>0
 | n+1,k+1=>ch n k+ch n (k+1)
theorem Y0 (n:Nat):ch n 0=1:=by cases n<;>rfl
theorem zaW:∀(n k:Nat),n<k->ch n k=0
 | 0,0,h=>absurd h (by lia)
 | 0,k+1,_=>rfl
 | n+1,0,h=>absurd h (by lia)
 | n+1,k+1,h=>by
  show ch n k+ch n (k+1)=0;rw[zaW n k (by lia),zaW n (k+1) (by lia)]
theorem zbQ:∀n k:Nat,(k+1)*ch n (k+1)+k*ch n k=n*ch n k
 | 0,0=>rfl
 | 0,k+1=>by
  show (k+1+1)*0+(k+1)*0=0*0;simp
 | n+1,0=>by
  have h:=zbQ n 0;rw[Y0] at h ⊢;show (0+1)*(ch n 0+ch n (0+1))+0*1=(n+1)*1;rw[Y0];lia
 | n+1,j+1=>by
  have h1:=zbQ n (j+1);have h2:=zbQ n j;show (j+1+1)*(ch n (j+1)+ch n (j+1+1))+(j+1)*(ch n j+ch n (j+1))=(n+1)*(ch n j+ch n (j+1));generalize ch n (j+1+1)=C2 at *
  generalize ch n (j+1)=C1 at *
  generalize ch n j=C0 at *
  simp only[Nat.add_mul,Nat.mul_add,Nat.one_mul] at *
  lia
theorem znq {n k:Nat}(h:k<n):(ch n k:Int)*((n:Int)-k)/((k:Int)+1)=ch n (k+1):=by
 have e:=zbQ n k;have e2:(ch n k:Int)*((n:Int)-k)=(ch n (k+1):Int)*((k:Int)+1):=by
  have:((k+1)*ch n (k+1)+k*ch n k:Int)=(n*ch n k:Int):=by exact_mod_cast e
  rw[Int.mul_sub,On (ch n k:Int) n,<- this,On (ch n (k+1):Int) ((k:Int)+1),On (ch n k:Int) (k:Int)];lia
 rw[e2];exact Int.mul_ediv_cancel _ (by lia)
theorem zqH (n:Nat):∀k,ch n k<=2^n:=by
 induction n with
 | zero =>
  intro k;cases k with
  | zero=>decide
  | succ k =>
   show (0:Nat)<=2^0;decide
 | succ n ih =>
  intro k;cases k with
  | zero =>
   rw[Y0];exact Nat.one_le_two_pow
  | succ k =>
   show ch n k+ch n (k+1)<=2^(n+1);rw[Um];have:=ih k;have:=ih (k+1);lia
end Choose
namespace Tally
open Subs
variable {α:Type}
theorem zar:∀(B:List α) (S0:List (List α)),B.foldl step S0=(subs B).flatMap fun b=>S0.map (·++b)
 | [],S0=>by simp[subs]
 | c::r,S0=>by
  have e:subs (c::r)=(subs r).flatMap fun b=>[b,c::b]:=by
   show r.foldl step (step [[]] c)=_;rw[zar r];rfl
  show r.foldl step (step S0 c)=_;rw[zar r,e,List.flatMap_assoc];congr 1;funext b;show (S0++S0.map (·++[c])).map (·++b)=S0.map (·++b)++(S0.map (·++(c::b))++[]);rw[XC,Xh,WJ];congr 1;refine Xg fun x _=>?_;show x++[c]++b=_;rw[WV];rfl
theorem Zr (c:α)(r:List α):subs (c::r)=(subs r).flatMap fun b=>[b,c::b]:=by
 show r.foldl step (step [[]] c)=_;rw[zar r];rfl
theorem zgb (A B:List α):subs (A++B)=(subs B).flatMap fun b=>(subs A).map (·++b):=by
 unfold subs;rw[Vf];exact zar B _
theorem zd6 (c:α)(p:List α->Bool):∀L:List (List α),(L.flatMap fun b=>[b,c::b]).countP p=L.countP p+L.countP fun S=>p (c::S)
 | []=>rfl
 | b::L=>by
  have ih:=zd6 c p L;rw[List.flatMap_cons,Vm,ih,WQ (l:=L),WQ (l:=L),WQ,WQ,R0];lia
theorem count_cons (c:α)(r:List α)(p:List α->Bool):(subs (c::r)).countP p=(subs r).countP p+(subs r).countP fun S=>p (c::S):=by
 rw[Zr,zd6]
def Inv (p:List α->Bool):Prop:=∀a b,a.Perm b->p a=p b
theorem Inv.cons {p:List α->Bool}(h:Inv p)(c:α):Inv fun S=>p (c::S):=fun _ _ e=>h _ _ (e.cons c)
theorem zhA {cs ds:List α}(e:cs.Perm ds):∀{p:List α->Bool},Inv p->(subs cs).countP p=(subs ds).countP p:=by
 induction e with
 | nil=>intro p _;rfl
 | cons c _ ih =>
  intro p h;rw[count_cons,count_cons,ih h,ih (h.cons c)]
 | swap x y l =>
  intro p h;rw[count_cons,count_cons,count_cons,count_cons,count_cons,count_cons];have:(subs l).countP (fun S=>p (y::x::S))=(subs l).countP fun S=>p (x::y::S):=Vd fun S _=>by rw[h _ _ (List.Perm.swap x y S)]
  lia
 | trans _ _ i1 i2 =>
  intro p h;exact(i1 h).trans (i2 h)
def T (cs:List α)(p:List α->Bool)(k:Nat):Nat:=(subs cs).countP fun S=>decide (S.length=k)&&p S
theorem zpq {cs ds:List α}(e:cs.Perm ds){p:List α->Bool}(h:Inv p)(k:Nat):T cs p k=T ds p k:=zhA e fun a b e=>by rw[h a b e,e.length_eq]
theorem ziU {cs:List α}{p q:List α->Bool}(h:∀S∈subs cs,p S=q S)(k:Nat):T cs p k=T cs q k:=Vd fun S hS=>by rw[h S hS]
theorem zoh (f g:Nat->Int):∀n,Pour.S (fun i=>f i+g i) n=Pour.S f n+Pour.S g n
 | 0=>rfl
 | n+1=>by
  show Pour.S (fun i=>f i+g i) n+(f n+g n)=Pour.S f n+f n+(Pour.S g n+g n);rw[zoh f g n];lia
theorem zlv:∀n,Pour.S (fun _=>0) n=0
 | 0=>rfl
 | n+1=>by
  show Pour.S (fun _=>0) n+0=0;rw[zlv n];rfl
theorem zgc (j:Nat)(x:Int):∀n,Pour.S (fun i=>if i=j then x else 0) n=if j<n then x else 0
 | 0=>rfl
 | n+1=>by
  show Pour.S (fun i=>if i=j then x else 0) n+(if n=j then x else 0)=_;rw[zgc j x n];by_cases h:n=j
  ·rw[bq (by lia),bw h,bw (by lia),SR]
  ·rw[bq h,RQ];by_cases h2:j<n
   ·rw[bw h2,bw (by lia)]
   ·rw[bq h2,bq (by lia)]
theorem zgd (q:List α->Bool)(f:Nat->Nat)(k:Nat):∀L:List (List α),(((L.map fun b=>if (q b&&decide (b.length<=k))=true then f (k-b.length) else 0).sum:Nat):Int)=Pour.S (fun i=>(f i:Int)*((L.countP fun b=>decide (b.length=k-i)&&q b:Nat):Int)) (k+1):=by
 intro L;induction L with
 | nil =>
  have:Pour.S (fun i=>(f i:Int)*((([]:List (List α)).countP fun b=>decide (b.length=k-i)&&q b:Nat):Int)) (k+1)=Pour.S (fun _=>0) (k+1):=Pour.ZZ _ fun i _=>by
   show (f i:Int)*0=0;lia
  rw[this,zlv];rfl
 | cons b L ih =>
  rw[W9,OC,Tk,ih];have e:Pour.S (fun i=>(f i:Int)*(((b::L).countP fun b=>decide (b.length=k-i)&&q b:Nat):Int)) (k+1)=Pour.S (fun i=>(f i:Int)*((L.countP fun b=>decide (b.length=k-i)&&q b:Nat):Int)+if i=k-b.length then (if (q b&&decide (b.length<=k))=true then (f (k-b.length):Int) else 0) else 0) (k+1):=Pour.ZZ _ fun i hi=>by
   rw[WQ];by_cases hq:q b=true
   ·by_cases hb:b.length<=k
    ·by_cases hik:i=k-b.length
     ·have h1:b.length=k-i:=by lia
      have h2:k-i<=k:=by lia
      simp only[hq,h1,h2,decide_true,Uc,if_true,bw hik];rw[show k-(k-i)=i by lia,bw rfl,Tk,Int.mul_add];lia
     ·have h1:¬b.length=k-i:=by lia
      simp only[hq,h1,decide_false,Uc,bq hik];simp
    ·have h1:¬b.length=k-i:=by lia
     simp[hq,h1,hb]
   ·have hq':q b=false:=Xs.mpr hq;simp[hq']
  rw[e,zoh,zgc,bw (show k-b.length<k+1 by lia),Int.add_comm];congr 1;split<;>rfl
theorem zoi {A B:List α}{P pA pB:List α->Bool}(h:∀a∈subs A,∀b∈subs B,P (a++b)=(pA a&&pB b))(k:Nat):(T (A++B) P k:Int)=Pour.S (fun i=>(T A pA i:Int)*(T B pB (k-i):Int)) (k+1):=by
 unfold T;rw[zgb,List.countP_flatMap];have e:(subs B).map (S8 (fun S=>decide (S.length=k)&&P S)∘fun b=>(subs A).map (·++b))=(subs B).map fun b=>if (pB b&&decide (b.length<=k))=true then (T A pA) (k-b.length) else 0:=by
  refine Xg fun b hb=>?_;show S8 _ ((subs A).map (·++b))=_;rw[Tn];by_cases hq:(pB b&&decide (b.length<=k))=true
  ·rw[bw hq];obtain⟨h1,h2⟩:=Wt.mp hq;have h2:=bh h2;refine Vd fun a ha=>?_;show (decide ((a++b).length=k)&&P (a++b))=true↔(decide (a.length=k-b.length)&&pA a)=true;rw[h a ha b hb,h1,Uc,X5,show (decide (a.length+b.length=k))=decide (a.length=k-b.length) from decide_eq_decide.mpr (by lia)]
  ·rw[bq hq];refine TC.mpr fun a ha hh=>hq ?_;have hh:(decide ((a++b).length=k)&&P (a++b))=true:=hh;rw[h a ha b hb] at hh;obtain⟨h1,h2⟩:=Wt.mp hh;have h1:=bh h1;rw[X5] at h1;rw[(Wt.mp h2).2,br (by lia)];rfl
 rw[e,zgd];rfl
theorem yi {cs S:List α}(h:S∈subs cs):S.Sublist cs:=by
 revert S;induction cs with
 | nil=>intro S h;simp[subs] at h;subst h;exact List.Sublist.refl _
 | cons c r ih =>
  intro S h;rw[Zr] at h;obtain⟨b,hb,h⟩:=Wb.mp h;have:=ih hb;simp at h;rcases h with rfl | rfl
  ·exact this.cons c
  ·exact this.cons_cons c
theorem ziV {cs:List α}:∀{S:List α},S.Sublist cs->S∈subs cs:=by
 induction cs with
 | nil=>intro S h;cases h;simp[subs]
 | cons c r ih =>
  intro S h;rw[Zr];cases h with
  | cons _ h=>exact Wb.mpr ⟨S,ih h,by simp⟩
  | cons_cons _ h=>exact Wb.mpr ⟨_,ih h,by simp⟩
theorem zge {cs:List α}{p:List α->Bool}{k:Nat}(h:cs.length<k):T cs p k=0:=by
 refine TC.mpr fun S hS hh=>?_;have h1:=bh (Wt.mp hh).1;have h2:=(yi hS).length_le;lia
def tl (cs:List α)(p:List α->Bool):List Int:=(XF (cs.length+1)).map fun k=>(T cs p k:Int)
theorem YF (cs:List α)(p:List α->Bool):(tl cs p).length=cs.length+1:=by
 unfold tl;rw[ZB,Xj]
theorem znr (cs:List α)(p:List α->Bool)(i:Nat):Pour.F (tl cs p) i=(T cs p i:Int):=by
 by_cases h:i<cs.length+1
 ·refine Pour.znn ?_;unfold tl;rw[Xk,UC h];rfl
 ·rw[Pour.zcp (by rw[YF];lia),zge (by lia)];rfl
theorem zns {A B:List α}{P pA pB:List α->Bool}(h:∀a∈subs A,∀b∈subs B,P (a++b)=(pA a&&pB b)):Pour.Qk (tl A pA) (tl B pB)=tl (A++B) P:=by
 unfold Pour.Qk;rw[YF,YF];show _=(XF ((A++B).length+1)).map fun k=>(T (A++B) P k:Int);rw[X5,show A.length+1+(B.length+1)-1=A.length+B.length+1 by lia];refine Xg fun k _=>?_;have e:=Pour.zpn (tl A pA) (tl B pB) k;rw[YF] at e;rw[e,zoi h];exact Pour.ZZ _ fun i _=>by rw[znr,znr]
theorem zlw {cs:List α}{p q:List α->Bool}(h:∀S∈subs cs,p S=q S):tl cs p=tl cs q:=by
 unfold tl;refine Xg fun k _=>by rw[ziU h]
theorem ziW:∀(cs:List α) (k:Nat),T cs (fun _=>true) k=Choose.ch cs.length k
 | [],0=>rfl
 | [],k+1=>rfl
 | c::r,0=>by
  have e:=ziW r 0;unfold T at e ⊢;rw[count_cons,e,Choose.Y0,Choose.Y0];have:(subs r).countP (fun S=>decide ((c::S).length=0)&&true)=0:=TC.mpr fun S _ hh=>by simp at hh
  rw[this]
 | c::r,k+1=>by
  have e1:=ziW r k;have e2:=ziW r (k+1);unfold T at e1 e2 ⊢;rw[count_cons,e2];have:(subs r).countP (fun S=>decide ((c::S).length=k+1)&&true)=(subs r).countP fun S=>decide (S.length=k)&&true:=Vd fun S _=>by
   rw[XB,show decide (S.length+1=k+1)=decide (S.length=k) from decide_eq_decide.mpr (by lia)]
  rw[this,e1];show _=Choose.ch r.length k+Choose.ch r.length (k+1);lia
variable {α:Type}
structure Loc (U:List α)(p:List α->Bool)(g:List α):Prop where
 l:∀a b,(∀c∈a,c∈U/\c ∉ g)->p (a++b)=p b
 r:∀a b,(∀c∈b,c∈U/\c ∉ g)->p (a++b)=p a
def Zs (fit:List α->List α->Bool)(gs:List (List α))(S:List α):Bool:=gs.all fun g=>fit g S
theorem zlx (fit:List α->List α->Bool)(as bs:List (List α))(S:List α):Zs fit (as++bs) S=(Zs fit as S&&Zs fit bs S):=List.all_append
theorem zhB {fit:List α->List α->Bool}{gs:List (List α)}{S S':List α}(h:∀g∈gs,fit g S=fit g S'):Zs fit gs S=Zs fit gs S':=by
 unfold Zs;induction gs with
 | nil=>rfl
 | cons g r ih =>
  rw[Rq,Rq,h g XT,ih fun x hx=>h x (XR _ hx)]
theorem zhC {U:List α}{fit:List α->List α->Bool}{done:List (List α)}{g:List α}{q:List α->Bool}(nd:(done.flatten++g).Nodup)(hU:∀c∈done.flatten++g,c∈U)(hd:∀x∈done,Loc U (fit x) x)(hg:Loc U q g) :
  Pour.Qk (tl done.flatten (Zs fit done)) (tl g q)=tl (done.flatten++g) fun S=>Zs fit done S&&q S:=by
 obtain⟨_,_,n3⟩:=Ww.mp nd;refine zns fun a ha b hb=>?_;have sa:=(yi ha).subset;have sb:=(yi hb).subset;rw[hg.l a b fun c hc=>⟨hU c (W5 _ (sa hc)),fun h=>n3 c (sa hc) c h rfl⟩];congr 1;exact zhB fun x hx=>(hd x hx).r a b fun c hc=>⟨hU c (XE _ (sb hc)),fun h=>n3 c (WI.mpr ⟨x,hx,h⟩) c (sb hc) rfl⟩
theorem znt {U:List α}{fit:List α->List α->Bool}:∀(gs done:List (List α)),(done++gs).flatten.Nodup->(∀c∈(done++gs).flatten,c∈U)->(∀g∈done++gs,Loc U (fit g) g)->(gs.map fun g=>tl g (fit g)).foldl Pour.Qk (tl done.flatten (Zs fit done))=tl (done++gs).flatten (Zs fit (done++gs)):=by
 intro gs;induction gs with
 | nil =>
  intro done _ _ _;rw[Xh];rfl
 | cons g r ih =>
  intro done nd hU hL;have e:done++g::r=(done++[g])++r:=by rw[WV];rfl
  rw[e] at nd hU hL ⊢;have e2:(done++[g]).flatten=done.flatten++g:=by rw[WD];simp
  have nd2:(done.flatten++g).Nodup:=by
   rw[WD,e2] at nd;exact(Ww.mp nd).1
  have ih:=ih (done++[g]) nd hU hL;rw[<- ih,W9,VF,e2];congr 1;rw[zhC nd2 (fun c hc=>hU c (by rw[WD,e2];exact W5 _ hc)) (fun x hx=>hL x (by simp[hx])) (hL g (by simp))];refine zlw fun S _=>?_;rw[zlx];congr 1;show fit g S=(fit g S&&true);rw[Uc]
theorem zly {U:List α}{fit:List α->List α->Bool}{gs:List (List α)}(nd:gs.flatten.Nodup)(hU:∀c∈gs.flatten,c∈U)(hL:∀g∈gs,Loc U (fit g) g):(gs.map fun g=>tl g (fit g)).foldl Pour.Qk [1]=tl gs.flatten (Zs fit gs):=znt gs [] nd hU hL
def chZ (n:Nat)(k:Int):Int:=if k<0 then 0 else (Choose.ch n k.toNat:Nat)
def dl (xs:List Int)(m:Nat)(s:Int):Int:=Pour.S (fun k=>Pour.F xs k*chZ m (s-(k:Nat))) xs.length
theorem zpr (g:Nat->Int){a b:Nat}(ha:∀i,a<=i->g i=0)(hb:∀i,b<=i->g i=0):Pour.S g a=Pour.S g b:=by
 by_cases h:a<=b
 ·exact(Pour.zno h fun i h1 _=>ha i h1).symm
 ·exact Pour.zno (by lia) fun i h1 _=>hb i h1
theorem zqI {A far:List α}{P pA:List α->Bool}(h:∀a∈subs A,∀b∈subs far,P (a++b)=pA a)(s:Nat):dl (tl A pA) far.length (s:Nat)=(T (A++far) P s:Int):=by
 rw[zoi (pB:=fun _=>true) (fun a ha b hb=>by rw[h a ha b hb,Uc]) s];unfold dl;rw[YF];rw[zpr (fun k=>Pour.F (tl A pA) k*chZ far.length ((s:Int)-(k:Nat))) (a:=A.length+1) (b:=s+1) (fun i hi=>by rw[znr,zge (by lia)];simp) (fun i hi=>by
  unfold chZ;rw[bw (by lia),Int.mul_zero])]
 refine Pour.ZZ _ fun i hi=>?_;show Pour.F (tl A pA) i*chZ far.length ((s:Int)-(i:Nat))=_;rw[znr,ziW];unfold chZ;rw[bq (by lia),show ((s:Int)-(i:Nat)).toNat=s-i by lia]
theorem znu {cs:List α}{p:List α->Bool}(h:∀S∈subs cs,p S=false)(k:Nat):T cs p k=0:=TC.mpr fun S hS hh=>by
 rw[h S hS,Bool.and_false] at hh;cases hh
theorem znv (cs:List α)(p:List α->Bool):Cnt.JB cs.length ((subs cs).filter p)=tl cs p:=by
 unfold Cnt.JB tl T;refine Xg fun k _=>?_;rw[List.countP_filter]
theorem zlz {β:Type}(g:Nat)(f:List α->List β)(hf:∀k,(f k).length=k.length)(ks:List (List α)):Cnt.JB g (ks.map f)=Cnt.JB g ks:=by
 unfold Cnt.JB;refine Xg fun n _=>?_;rw[Tn];congr 1;refine Vd fun k _=>?_;show decide ((f k).length=n)=true↔_;rw[hf]
variable {α β:Type}
theorem zgf (f:α->β):∀L:List α,subs (L.map f)=(subs L).map (UP f)
 | []=>rfl
 | c::r=>by
  rw[W9,Zr,Zr,zgf f r,List.map_flatMap,List.flatMap_map];rfl
theorem zqJ (f:α->β)(L:List α)(p:List β->Bool)(k:Nat):T (L.map f) p k=T L (fun S=>p (S.map f)) k:=by
 unfold T;rw[zgf,Tn];refine Vd fun S _=>?_;show (decide ((S.map f).length=k)&&p (S.map f))=true↔_;rw[ZB]
theorem zlA [DecidableEq α]{a b:List α}(ha:a.Nodup)(hb:b.Nodup):(a.filter fun x=>decide (x∈b)).length=(b.filter fun x=>decide (x∈a)).length:=by
 refine OM ((Wd (ha.sublist W1) (hb.sublist W1)).mpr fun x=>?_);rw[X6,X6,bu,bu];exact⟨fun h=>⟨h.2,h.1⟩,fun h=>⟨h.2,h.1⟩⟩
theorem zcq (L:List α)(d:α):(XF L.length).map (fun k=>L.getD k d)=L:=by
 refine T5 fun k=>?_;rw[Xk];by_cases h:k<L.length
 ·rw[UC h,XX h];show some (L.getD k d)=_;rw[Xx,XX h];rfl
 ·rw[UX (by rw[Xj];lia),UX (by lia)];rfl
end Tally
namespace K42
open PySem L2
variable {P:Xi}{w:WS}{K:X0}{mg:Str->Option X9}{base:Heap}{f:Addr}{fd:Xp}
abbrev top (i:Nat):Stmt:=zbV.top i
abbrev Zt:Stmt:=top 14
abbrev qy:Stmt:=top 15
abbrev jS:Stmt:=top 16
abbrev jT:Stmt:=top 17
abbrev qD:Stmt:=top 18
abbrev qL:Stmt:=top 19
abbrev zbR:Stmt:=top 21
abbrev Zu:Stmt:=top 22
abbrev zgg:Stmt:=top 23
abbrev jx:Stmt:=top 24
abbrev jZ:Stmt:=top 25
abbrev qM:Stmt:=top 26
abbrev qI:Stmt:=top 29
abbrev yj:Stmt:=top 30
abbrev yT:Stmt:=top 31
abbrev xr:Stmt:=top 32
abbrev Zv:Stmt:=top 33
abbrev Y4:Stmt:=top 35
abbrev zas:Stmt:=top 36
abbrev j8:Stmt:=top 38
abbrev zbS:Stmt:=top 39
abbrev Jh:Stmt:=top 40
abbrev zau:Stmt:=top 41
abbrev Ji:Stmt:=top 43
abbrev xF:Stmt:=top 44
abbrev jU:Stmt:=top 45
abbrev j9:Stmt:=top 46
abbrev zbT:Stmt:=top 47
abbrev xw:Stmt:=top 49
abbrev Z0:Stmt:=top 50
abbrev JW:Stmt:=top 51
abbrev xG:Stmt:=top 52
abbrev Y5:Stmt:=top 53
abbrev xH:Stmt:=top 54
abbrev yb:Stmt:=top 55
abbrev JC:Stmt:=top 56
abbrev yc:Stmt:=top 57
abbrev jE:Stmt:=top 58
abbrev Jj:Stmt:=top 59
abbrev xx:Stmt:=top 60
abbrev Z1:Stmt:=top 61
abbrev JX:Stmt:=top 62
abbrev zbg:Stmt:=top 63
structure Txt (mg:Str->Option X9):Prop where
 ze8:mg "ValueError"=none
 zlB:mg "any"=none
 zps:mg "dict"=none
 zgh:mg "divmod"=none
 yt:mg "enumerate"=none
 ziX:mg "int"=none
 qd:mg "isinstance"=none
 jB:mg "len"=none
 zhD:mg "list"=none
 zgi:mg "max"=none
 zgj:mg "min"=none
 qQ:mg "range"=none
 zqK:mg "set"=none
 zav:mg "sorted"=none
 zoj:mg "str"=none
 zqL:mg "sum"=none
 ziY:mg "tuple"=none
 J7:∃t,mg "CLOSED_SIGN"=some (.str "?" t)
 zcr:∃t,mg "MOST_OF_PART"=some (.int 14 t)
 YG:∃t,mg "NO_CELL_SIGN"=some (.str "#" t)
structure Prog (K:X0)(mg:Str->Option X9):Prop where
 closed:∃(f:Addr) (fd:Xp),zm K mg "closed" Zt ["board"] f fd
 open_cells:∃(f:Addr) (fd:Xp),zm K mg "open_cells" qy ["board"] f fd
 around:∃(f:Addr) (fd:Xp),zm K mg "around" jS ["board","cell"] f fd
 number_at:∃(f:Addr) (fd:Xp),zm K mg "number_at" jT ["board","cell"] f fd
 cells_of:∃(f:Addr) (fd:Xp),zm K mg "cells_of" qD ["board"] f fd
 sign_at:∃(f:Addr) (fd:Xp),zm K mg "sign_at" qL ["board","cell"] f fd
 parts:∃(f:Addr) (fd:Xp),zm K mg "parts" zbR ["board"] f fd
 joined:∃(f:Addr) (fd:Xp),zm K mg "joined" Zu ["groups","cells"] f fd
 far:∃(f:Addr) (fd:Xp),zm K mg "far" zgg ["board"] f fd
 numbers_of:∃(f:Addr) (fd:Xp),zm K mg "numbers_of" jx ["board","part"] f fd
 bare_wrong:∃(f:Addr) (fd:Xp),zm K mg "bare_wrong" jZ ["board"] f fd
 closed_around:∃(f:Addr) (fd:Xp),zm K mg "closed_around" qM ["board","cell"] f fd
 part_layings:∃(f:Addr) (fd:Xp),zm K mg "part_layings" qI ["board","part"] f fd
 needs_at:∃(f:Addr) (fd:Xp),zm K mg "needs_at" yj ["told","cell","rest"] f fd
 may_fit:∃(f:Addr) (fd:Xp),zm K mg "may_fit" yT ["needs","pick"] f fd
 part_counts:∃(f:Addr) (fd:Xp),zm K mg "part_counts" xr ["board","part"] f fd
 counted:∃(f:Addr) (fd:Xp),zm K mg "counted" Zv ["found","greatest"] f fd
 choices:∃(f:Addr) (fd:Xp),zm K mg "choices" Y4 ["n","k"] f fd
 poured:∃(f:Addr) (fd:Xp),zm K mg "poured" zas ["one","other"] f fd
 near_counts:∃(f:Addr) (fd:Xp),zm K mg "near_counts" j8 ["board"] f fd
 count:∃(f:Addr) (fd:Xp),zm K mg "count" zbS ["board"] f fd
 all_poured:∃(f:Addr) (fd:Xp),zm K mg "all_poured" Jh ["lists"] f fd
 dealt:∃(f:Addr) (fd:Xp),zm K mg "dealt" zau ["counts","cells","stones"] f fd
 some_count:∃(f:Addr) (fd:Xp),zm K mg "some_count" Ji ["board"] f fd
 witnesses:∃(f:Addr) (fd:Xp),zm K mg "witnesses" xF ["board","cell"] f fd
 far_picks:∃(f:Addr) (fd:Xp),zm K mg "far_picks" jU ["cells","cell"] f fd
 some_laying:∃(f:Addr) (fd:Xp),zm K mg "some_laying" j9 ["groups","cell","lies","stones"] f fd
 grown:∃(f:Addr) (fd:Xp),zm K mg "grown" zbT ["ways","picks"] f fd
 law_cell_at:∃(f:Addr) (fd:Xp),zm K mg "_law_cell_at" xw ["_law_script","_law_k"] f fd
 law_near:∃(f:Addr) (fd:Xp),zm K mg "_law_near" Z0 ["_law_at","_law_rows","_law_columns"] f fd
 law_signs:∃(f:Addr) (fd:Xp),zm K mg "_law_signs" JW ["_law_script","_law_start","_law_rows","_law_columns"] f fd
 law_texts:∃(f:Addr) (fd:Xp),zm K mg "_law_texts" xG ["_law_signs_here","_law_rows","_law_columns"] f fd
 law_dug:∃(f:Addr) (fd:Xp),zm K mg "_law_dug" Y5 ["_law_script","_law_start","_law_rows","_law_columns"] f fd
 law_board:∃(f:Addr) (fd:Xp),zm K mg "_law_board" xH ["_law_script","_law_start"] f fd
 law_numbers:∃(f:Addr) (fd:Xp),zm K mg "_law_numbers" yb ["_law_texts_here","_law_shut"] f fd
 law_fits:∃(f:Addr) (fd:Xp),zm K mg "_law_fits" JC ["_law_some","_law_numbers_here"] f fd
 law_choices:∃(f:Addr) (fd:Xp),zm K mg "_law_choices" yc ["_law_many"] f fd
 law_layings:∃(f:Addr) (fd:Xp),zm K mg "_law_layings" jE ["_law_texts_here","_law_stones"] f fd
 law_closed:∃(f:Addr) (fd:Xp),zm K mg "_law_closed" Jj ["_law_texts_here"] f fd
 law_outcome:∃(f:Addr) (fd:Xp),zm K mg "_law_outcome" xx ["_law_error"] f fd
 law_told:∃(f:Addr) (fd:Xp),zm K mg "_law_told" Z1 ["_law_board_here","_law_cell"] f fd
 law_right:∃(f:Addr) (fd:Xp),zm K mg "_law_right" JX ["_law_found","_law_some"] f fd
def zhE (K:X0):Sp:=fun vs H Q _=>∃(a:Addr) (ns:List Int) (k:Int),vs=[.ref a,.int k]/\SqL K H a (ns.map V.int)/\0<=k/\∀z:Int,Q (.int z) H
structure Row (signs:List Nat)(n:Nat)(t:Str):Prop where
 len:t.cps.size=n
 mem:∀c∈t.cps.toList,c∈signs
structure Rows (signs:List Nat)(rs:List Str):Prop where
 lo:1<=rs.length
 hi:rs.length<=8
 ex:∃n,1<=n/\n<=8/\∀t∈rs,Row signs n t
def bd:Str:="?012345678#"
theorem zcs:zD ["_law_script","_law_k"] ["_law_script","_law_k"] (zj xw):=bz rfl rfl rfl rfl (by decide +kernel)
theorem yJ (T:Txt mg)(D:zm K mg "_law_cell_at" xw ["_law_script","_law_k"] f fd):zY P w K mg base CX0 1 f fd ["_law_script","_law_k"] (zhE K):=by
 refine D.F.ok zcs (fun vs H Q E h=>?_) (fun cdv A outer s H vs Q E hr h=>?_)
 ·obtain⟨a,ns,i,rfl,_⟩:=h;rfl
 ·obtain⟨a,ns,i,rfl,hS,hi,k⟩:=h;refine⟨_,(ze (qS (zQ zpi (pvS 1) (zp zJ (by rfl) T.jB WP (za (pvS 0) zc)) (zT _)) (zh (zF (qq je (pvS 0) (pvS 1) (fun _ _=>rfl)))) zV)
   (zh (zF zo))),?_⟩
  refine⟨_,rfl,_,rfl,a,_,rfl,.inl hS,_,_,rfl,rfl,_,rfl,?_⟩;refine zeI (fun c=>?_) (fun c=>?_)
  ·have c':i<((ns.map V.int).length:Nat):=bh c;rw[ZB] at c';have hl:i.toNat<ns.length:=by lia
   refine⟨_,rfl,_,rfl,a,_,i,.int ns[i.toNat],rfl,rfl,hS,jP hi (by rw[Xk,XX hl];rfl),?_⟩;exact k _
  ·exact k 0
structure qk (H:Hp)(p l:Addr)(rs:List Str)(n:Int):Prop where
 tp:H p=some (.tup [.ref l,.int n])
 rw:H l=some (.lst (rs.map V.str))
theorem zlC:∀c∈bd.cps.toList,c<1114112:=by decide +kernel
theorem znw {n:Nat}{t:Str}(r:Row bd.cps.toList n t):U0 (.str t)=true:=by
 show t.cps.all (· < 0x110000)=true;rw[Array.all_eq_true'];intro c hc;exact br (zlC c (r.mem c (TY.mpr hc)))
theorem zgk {rs:List Str}{n:Nat}(h:∀t∈rs,Row bd.cps.toList n t):Wa (rs.map UJ)=true:=by
 induction rs with
 | nil=>rfl
 | cons t r ih =>
  show (U0 (.str t)&&Wa (r.map UJ))=true;rw[znw (h t XT),ih fun u hu=>h u (XR _ hu)];rfl
theorem zct (rs:List Str):Wl (rs.map UJ)=0:=by
 induction rs with
 | nil=>rfl
 | cons t r ih =>
  show max (PyData.depth (.str t)) (Wl (r.map UJ))=0;rw[ih];rfl
theorem Rows.cmp {rs:List Str}(R:Rows bd.cps.toList rs):zfH (.list (rs.map UJ)) (.list (rs.map UJ)):=by
 obtain⟨n,_,_,h⟩:=R.ex;refine⟨zgk h,zgk h,?_⟩;show Wl (rs.map UJ)+1<=64;rw[zct];decide
def bData (rs:List Str)(n:Int):V8:=.tuple [.list (rs.map UJ),.int n]
theorem Rows.cmpB {rs:List Str}(R:Rows bd.cps.toList rs)(n:Int):zfH (bData rs n) (bData rs n):=by
 have c:=R.cmp;have h1:U0 (bData rs n)=true:=by
  show (U0 (.list (rs.map UJ))&&(U0 (.int n)&&true))=true;rw[c.l1];rfl
 refine⟨h1,h1,?_⟩;show max (Wl (rs.map UJ)+1) (max 0 0)+1<=64;rw[zct];decide
theorem qk.rdv {K:X0}{H:Hp}{p l:Addr}{rs:List Str}{n:Int}(b:qk H p l rs n):Rdv K H (.ref p) (bData rs n):=.tup (SqT.of b.tp) (.cons (.lst (SqL.of b.rw) (zfI rs)) (.cons (.int n) .nil))
theorem qk.mono {H H':Hp}{p l:Addr}{rs:List Str}{n:Int}(b:qk H p l rs n)(s:zq H H'):qk H' p l rs n:=⟨s _ _ b.tp,s _ _ b.rw⟩
def codes (rs:List Str):List (List Nat):=rs.map fun t=>t.cps.toList
theorem jF {rs:List Str}{i:Nat}{t:Str}(h:rs[i]?=some t):(codes rs)[i]?=some t.cps.toList:=by
 unfold codes;rw[Xk,h];rfl
theorem zaX {rs:List Str}{i:Nat}{u:List Nat}(h:(codes rs)[i]?=some u):∃t,rs[i]?=some t/\u=t.cps.toList:=by
 unfold codes at h;rw[Xk] at h;cases e:rs[i]? with
 | none =>
  rw[e] at h;cases h
 | some t =>
  rw[e] at h;cases h;exact⟨t,rfl,rfl⟩
theorem jo (rs:List Str):(codes rs).length=rs.length:=by
 unfold codes;rw[ZB]
theorem Rows.short {s:List Nat}{rs:List Str}(R:Rows s rs):∀u∈codes rs,u.length<=8:=fun u hu=>by
 obtain⟨t,ht,rfl⟩:=XU.mp hu;obtain⟨n,_,h8,q⟩:=R.ex;have:=(q t ht).len;rw[XZ];lia
theorem Rows.tlen {s:List Nat}{rs:List Str}{i:Nat}{t:Str}(R:Rows s rs)(h:rs[i]?=some t):t.length<=Xv:=by
 obtain⟨n,_,h8,q⟩:=R.ex;have e:t.length=n:=(q t (XY h)).len;rw[e];exact X4 h8 (by decide)
def xJ (H:Hp)(v:V)(c:Nat×Nat):Prop:=∃a,v=V.ref a/\H a=some (.tup [.int (c.1:Nat),.int (c.2:Nat)])
def Cel (H:Hp):List V->List (Nat×Nat)->Prop:=WU (xJ H)
theorem Cel.mono {H H':Hp}(s:zq H H'){vs:List V}{cs:List (Nat×Nat)}(hp:Cel H vs cs):Cel H' vs cs:=by
 induction hp with
 | nil=>exact .nil
 | cons q _ ih =>
  obtain⟨a,e,h⟩:=q;exact .cons ⟨a,e,s _ _ h⟩ ih
theorem Cel.snoc {H:Hp}{vs:List V}{cs:List (Nat×Nat)}{v:V}{c:Nat×Nat}(h:Cel H vs cs)(x:xJ H v c):Cel H (vs++[v]) (cs++[c]):=Paired.snoc h x
theorem Cel.append {H:Hp}{vs ws:List V}{cs ds:List (Nat×Nat)}(h:Cel H vs cs)(k:Cel H ws ds):Cel H (vs++ws) (cs++ds):=ZP h k
theorem Cel.into {H:Hp}(z:Addr)(o:HO){old:List V}(hz:H z=some (.lst old)){vs:List V}{cs:List (Nat×Nat)}(hp:Cel H vs cs):Cel (upd H z o) vs cs:=by
 induction hp with
 | nil=>exact .nil
 | cons q _ ih =>
  obtain⟨a,e,h⟩:=q;exact .cons ⟨a,e,by rw[zf (zkp h hz (by intro y;cases y))];exact h⟩ ih
theorem Cel.length {H:Hp}{vs:List V}{cs:List (Nat×Nat)}(h:Cel H vs cs):vs.length=cs.length:=Paired.length h
theorem Cel.get {H:Hp}:∀{vs:List V} {cs:List (Nat×Nat)} {i:Nat} {v:V},Cel H vs cs->vs[i]?=some v->∃c,cs[i]?=some c/\xJ H v c
 | _,_,_,_,.nil,e=>by simp at e
 | _,_,0,_,.cons r _,e=>by
  simp at e;subst e;exact⟨_,rfl,r⟩
 | _,_,i+1,v,.cons _ t,e=>by
  obtain⟨c,h1,h2⟩:=Cel.get (i:=i) (v:=v) t (by simpa using e);exact⟨c,by simpa using h1,h2⟩
def zu (c:Nat×Nat):V8:=.tuple [.int (c.1:Nat),.int (c.2:Nat)]
theorem xJ.rdv {K:X0}{H:Hp}{v:V}{c:Nat×Nat}(h:xJ H v c):Rdv K H v (zu c):=by
 obtain⟨a,rfl,h⟩:=h;exact .tup (SqT.of h) (.cons (.int _) (.cons (.int _) .nil))
theorem zd7 (c d:Nat×Nat):zfH (zu c) (zu d):=⟨rfl,rfl,by show max 0 (max 0 0)+1<=64;decide⟩
theorem zaY (c d:Nat×Nat):W2 (zu c) (zu d)=decide (c=d):=by
 obtain⟨a,b⟩:=c;obtain⟨x,y⟩:=d;show ((((a:Nat):Int)==((x:Nat):Int))&&((((b:Nat):Int)==((y:Nat):Int))&&true))=decide ((a,b)=(x,y));by_cases h1:a=x
 ·by_cases h2:b=y
  ·subst h1 h2;simp
  ·have:¬ ((b:Int)=(y:Int)):=by lia
   simp[h2,this]
 ·have:¬ ((a:Int)=(x:Int)):=by lia
  simp[h1,this]
theorem QK (c k:Nat):(V.str ⟨#[c]⟩=V.str ⟨#[k]⟩)=(c=k):=by
 apply propext;constructor
 ·intro h;have h2:(⟨#[c]⟩:Str)=⟨#[k]⟩:=V.str.inj h;have h3:(#[c]:Array Nat)=#[k]:=congrArg Str.cps h2;simpa using h3
 ·rintro rfl;rfl
theorem zai:("#":Str)=⟨#[35]⟩:=by decide +kernel
theorem Z3:("?":Str)=⟨#[63]⟩:=by decide +kernel
def qu (c:Nat):Bool:=!decide (c=35)
def qO (c:Nat):Bool:=decide (c=63)
def Yi (c:Nat):Bool:=qu c && !decide (c=63)
def zpt:Sp:=fun vs H Q _=>∃(p l c:Addr) (rs:List Str) (n:Int) (i j:Nat) (t:Str) (k:Nat),vs=[.ref p,.ref c]/\qk H p l rs n/\H c=some (.tup [.int (i:Nat),.int (j:Nat)])/\rs[i]?=some t/\t.cps.toList[j]?=some k/\t.length<=Xv/\Q (.str ⟨#[k]⟩) H
def zhF (p:Nat->Bool):Sp:=fun vs H Q _=>∃(a l:Addr) (rs:List Str) (n:Int),vs=[.ref a]/\qk H a l rs n/\Rows bd.cps.toList rs /\
 ∀(d:Addr) (ws:List V) (H':Hp),H d=none->H' d=some (.lst ws)->Cel H' ws (Cells.zI p 0 (codes rs))->zq H H'->Q (.ref d) H'
def zlD:Sp:=fun vs H Q _=>∃(p l c:Addr) (rs:List Str) (n:Int) (i j:Nat) (t:Str) (k:Nat),vs=[.ref p,.ref c]/\qk H p l rs n/\H c=some (.tup [.int (i:Nat),.int (j:Nat)])/\rs[i]?=some t/\t.cps.toList[j]?=some k/\t.length<=Xv/\48<=k/\k<=56/\Q (.int ((k:Int)-48)) H
theorem int_sign {k:Nat}(h1:48<=k)(h2:k<=56):Pc ⟨#[k]⟩=some ((k:Int)-48):=by
 have:∀k∈XF 57,48<=k->Pc ⟨#[k]⟩=some ((k:Int)-48):=by decide +kernel
 exact this k (Xl.mpr (by lia)) h1
theorem zhG:zD ["board","cell"] ["board","cell"] (zj qL):=bz rfl rfl rfl rfl (by decide +kernel)
theorem Z4 (D:zm K mg "sign_at" qL ["board","cell"] f fd):zY P w K mg base CX0 1 f fd ["board","cell"] zpt:=by
 refine D.F.ok zhG (fun vs H Q E h=>?_) (fun cdv A outer s H vs Q E hr h=>?_)
 ·obtain⟨p,l,c,rs,n,i,j,t,k,rfl,_⟩:=h;rfl
 ·obtain⟨p,l,c,rs,n,i,j,t,k,rfl,b,hc,hi,hj,hl,q⟩:=h;refine⟨_,(zh (zF (qq JV (qq je (qq xq (pvS 0) zo (fun _ _=>rfl)) (qq xq (pvS 1) zo (fun _ _=>rfl)) (fun _ _=>rfl)) (qq xq (pvS 1) zo (fun _ _=>rfl)) (fun _ _=>rfl)))),?_⟩;exact⟨_,rfl,p,_,0,_,rfl,rfl,SqT.of b.tp,rfl,_,rfl,c,_,0,_,rfl,rfl,SqT.of hc,rfl,l,_,_,_,rfl,rfl,SqL.of b.rw,Q8 (v:=V.str t) (by rw[Xk,hi];rfl),_,rfl,c,_,1,_,rfl,rfl,SqT.of hc,rfl,t,_,k,rfl,rfl,hl,Q8 hj,q⟩
theorem JY:zD ["board","found","row","text"] ["board"] (zj qD):=bz rfl rfl rfl rfl (by decide +kernel)
theorem zbh (T:Txt mg)(D:zm K mg "cells_of" qD ["board"] f fd):zY P w K mg base CX0 1 f fd ["board"] (zhF qu):=by
 refine D.F.ok JY (fun vs H Q E h=>?_) (fun cdv A outer s H vs Q E hr h=>?_)
 ·obtain⟨a,l,rs,n,rfl,_⟩:=h;rfl
 ·obtain⟨a,l,rs,n,rfl,b,R,q⟩:=h;refine⟨_,(ze (zv (i:=1) JY.nd rfl (XH rfl) (qa zc))
   (ze (qg Xb rfl (Yt (by rfl) T.yt (za (qq xq (pvS 0) zo (fun _ _=>rfl)) zc)) (yP rfl (zL (zk (i:=2) JY.nd rfl (UU rfl)) (zL (zk (i:=3) JY.nd rfl (XH rfl)) jL))) (zh (jK (yG WW Rf Re zdH (pvS 1) (za (qj (N:=["column","sign","row"]) (src:=[none,none,some 2]) (zO.free (O:=(zj qD).names) (XN:=["board","found","row","text"]) rfl rfl ⟨_,rfl⟩ rfl rfl (by decide +kernel) (by decide +kernel) (by decide +kernel) rfl (by decide +kernel)) rfl (zkH (by rfl) T.yt (za (pvS 3) zc)) (fun _ _ _ _ _=>(ziy (n:=2) (K:=K) (by rfl) rfl (zL (zk (i:=0) (by show WY (["column","sign","row"]:List Str);decide +kernel) rfl (XH rfl)) (zL (zk (i:=1) (by show WY (["column","sign","row"]:List Str);decide +kernel) rfl (XH rfl)) jL)))) (fun _ _ _ _ _=>(qm (zQ Q5 (pvS 1) (jt (v:=.str "#") (by rfl) T.YG.choose_spec (by exact⟨_,rfl⟩)) (zT _)))) (fun _ _ _ _ _=>(j6 (za (pvS 2) (za (pvS 0) zc))))) zc)))))
   (zh (zF (pvS 1))))),?_⟩
  refine⟨JJ,fun d hd=>?_⟩;have s0:zq H (upd H d (.lst [])):=zd hd;refine⟨_,rfl,a,_,0,_,rfl,rfl,SqT.of (b.mono s0).tp,rfl,l,rfl,⟨_,SqL.of (b.mono s0).rw⟩,?_⟩;refine YW (K:=K) (l:=l) (xs:=rs.map V.str) (fun i σ H'=>∃(v2 v3:Option V) (ws:List V),σ=[some (.ref a),some (.ref d),v2,v3]/\zq H H'/\H' d=some (.lst ws)/\Cel H' ws (Cells.zI qu 0 ((codes rs).take i)))
   ⟨_,_,[],rfl,s0,zb,.nil⟩ (fun i σ H' _ ⟨_,_,_,_,s1,_⟩=>SqL.of (b.mono s1).rw) ?_ ?_
  ·rintro i x tt σ H1 hx htt ⟨v2,v3,ws,rfl,s1,hd1,hc1⟩;rw[Xk] at hx;cases e:rs[i]? with
   | none =>
    rw[e] at hx;cases hx
   | some t =>
    rw[e] at hx;cases hx;have hil:i<rs.length:=(X2.mp e).1;have st:zq H1 (upd H1 tt (.tup [.int (i:Nat),.str t])):=zd htt;refine⟨tt,_,rfl,SqT.of zb,rfl,_,_,rfl,_,_,rfl,rfl,?_⟩;have hd2:upd H1 tt (.tup [.int (i:Nat),.str t]) d=some (.lst ws):=st _ _ hd1;refine⟨_,rfl,.inl ⟨rfl,_,SqL.of hd2⟩,_,rfl,t,rfl,fun z hz=>?_⟩;refine zhe (x:=t) (fun j σ H'=>∃(u0 u1:Option V) (ys:List V),σ=[u0,u1,some (.int (i:Nat))]/\zq (upd H1 tt (.tup [.int (i:Nat),.str t])) H'/\H' z=some (.lst ys)/\Cel H' ys (Cells.zZ qu i 0 (t.cps.toList.take j)))
     ⟨_,_,[],rfl,zd hz,zb,.nil⟩ ?_ ?_
    ·rintro j c t2 σ H2 hc ht2 ⟨u0,u1,ys,rfl,s2,hz2,hc2⟩;refine⟨t2,_,rfl,SqT.of zb,rfl,_,_,rfl,_,_,rfl,rfl,?_⟩;refine⟨_,rfl,rfl,_,rfl,?_⟩;have hc':t.cps.toList[j]?=some c:=by rw[Xq];exact hc
     have s3:zq H2 (upd H2 t2 (.tup [.int (j:Nat),.str ⟨#[c]⟩])):=zd ht2;have step:=Cells.QI (p:=qu) (i:=i) hc';have ed:(!decide (V.str ⟨#[c]⟩=V.str "#"))=qu c:=by
      rw[zai];simp only[QK];rfl
     rw[ed];by_cases hp:qu c=true
     ·rw[hp] at step;refine jJ hp ?_;refine⟨_,rfl,_,rfl,ZV,fun t3 ht3=>?_⟩;have nz3:z≠t3:=zg (s3 _ _ hz2) ht3;have s4:zq (upd H2 t2 (.tup [.int (j:Nat),.str ⟨#[c]⟩])) (upd (upd H2 t2 (.tup [.int (j:Nat),.str ⟨#[c]⟩])) t3 (.tup [.int (i:Nat),.int (j:Nat)])):=zd ht3;have hlen:ys.length<=8:=by
       rw[hc2.length];refine X4 (Cells.jY _ _ _ _) ?_;have:=R.short _ (XY (jF e));rw[Xw];lia
      refine⟨ys,s4 _ _ (s3 _ _ hz2),XA hlen (by decide),some (.int (j:Nat)),some (.str ⟨#[c]⟩),ys++[.ref t3],rfl,fun b' o e'=>?_,zb,?_⟩
      ·have hb:b'≠z:=fun y=>by
        subst y;rw[hz] at e';cases e'
       rw[zf hb];exact s4 _ _ (s3 _ _ (s2 _ _ e'))
      ·rw[step];have keep:∀x o,x≠z->upd (upd H2 t2 (.tup [.int (j:Nat),.str ⟨#[c]⟩])) t3 (.tup [.int (i:Nat),.int (j:Nat)]) x=some o->upd (upd (upd H2 t2 (.tup [.int (j:Nat),.str ⟨#[c]⟩])) t3 (.tup [.int (i:Nat),.int (j:Nat)])) z (.lst (ys++[.ref t3])) x=some o:=fun x o hx e'=>by
        rw[zf hx];exact e'
       refine Cel.snoc ?_ ⟨t3,rfl,keep _ _ nz3.symm zb⟩;exact Cel.into z (.lst (ys++[.ref t3])) (s4 _ _ (s3 _ _ hz2)) (Cel.mono s4 (Cel.mono s3 hc2))
     ·have hp':qu c=false:=by simpa using hp
      rw[hp'] at step;refine jj hp' ?_;refine⟨some (.int (j:Nat)),some (.str ⟨#[c]⟩),ys,rfl,s2.trans s3,s3 _ _ hz2,?_⟩;rw[step];simpa using Cel.mono s3 hc2
    ·rintro σ H2 ⟨u0,u1,ys,rfl,s2,hz2,hc2⟩;have hne:d≠z:=zg hd2 hz;have hd3:H2 d=some (.lst ws):=s2 _ _ hd2;have full:t.cps.toList.take t.cps.size=t.cps.toList:=by
      rw[<- XZ,Xy]
     rw[full] at hc2;have step:=Cells.QJ (p:=qu) (jF e);have l1:ws.length<=64:=by
      rw[hc1.length];refine X4 (Cells.jw _ _ _ fun u hu=>R.short u (Wo hu)) ?_;have:=R.hi;rw[Xw,jo];lia
     have l2:ys.length<=8:=by
      rw[hc2.length];exact X4 (Cells.jY _ _ _ _) (R.short _ (XY (jF e)))
     refine⟨d,z,ws,ys,rfl,rfl,hd3,hz2,X4 (SL l1 l2) (by decide),?_⟩;refine⟨_,_,ws++ys,rfl,fun b' o e'=>?_,zb,?_⟩
     ·have hb:b'≠d:=fun y=>by
       subst y;rw[hd] at e';cases e'
      rw[zf hb];exact s2 _ _ (st _ _ (s1 _ _ e'))
     ·rw[step];exact Cel.into d _ hd3 (Cel.append (Cel.mono s2 (Cel.mono st hc1)) hc2)
  ·rintro σ H1 ⟨v2,v3,ws,rfl,s1,hd1,hc1⟩;rw[ZB,<- jo,Xy] at hc1;exact⟨_,rfl,q d ws H1 hd hd1 hc1 s1⟩
theorem znx (c:Nat):(qu c&&decide (c=63))=qO c:=by
 unfold qu qO;by_cases h:c=63
 ·subst h;rfl
 ·simp[h]
theorem zj2:zD ["board"] ["board"] (zj Zt):=bz rfl rfl rfl rfl (by decide +kernel)
theorem zj3 {f1 f2:Addr}{fd1 fd2:Xp}(T:Txt mg)(D:zm K mg "closed" Zt ["board"] f fd)(zG:zm K mg "cells_of" qD ["board"] f1 fd1)(zz:zm K mg "sign_at" qL ["board","cell"] f2 fd2) :
  zY P w K mg base CX0 2 f fd ["board"] (zhF qO):=by
 refine D.F.ok zj2 (fun vs H Q E h=>?_) (fun cdv A outer s H vs Q E hr h=>?_)
 ·obtain⟨a,l,rs,n,rfl,_⟩:=h;rfl
 ·obtain⟨a,l,rs,n,rfl,b,R,q⟩:=h;refine⟨_,(zh (zF (qj (N:=["cell","board"]) (src:=[none,some 0]) (zO.free (O:=(zj Zt).names) (XN:=["board"]) rfl rfl ⟨_,rfl⟩ rfl rfl (by decide +kernel) (by decide +kernel) (by decide +kernel) rfl (by decide +kernel)) rfl (zK (pc0 (zbh T zG) hr zG (za (pvS 0) zc))) (fun _ _ _ _ _=>(zk (i:=0) (by show WY (["cell","board"]:List Str);decide +kernel) rfl (XH rfl))) (fun _ _ _ _ _=>(qm (zQ xU (pc0 (Z4 zz) hr zz (za (pvS 1) (za (pvS 0) zc))) (jt (v:=.str "?") (by rfl) T.J7.choose_spec (by exact⟨_,rfl⟩)) (zT _)))) (fun _ _ _ _ _=>(pvS 0))))),?_⟩;refine⟨_,rfl,a,l,rs,n,rfl,b,R,fun d ws H1 hd hd1 hc1 s1=>⟨d,rfl,⟨_,SqL.of hd1⟩,fun z hz=>?_⟩⟩;have nz:d≠z:=zg hd1 hz;refine qf (K:=K) (a:=d) (xs:=ws) (fun i σ H'=>∃(u0:Option V) (ys:List V),σ=[u0,some (.ref a)]/\zq H1 H'/\H' z=some (.lst ys)/\Cel H' ys (((Cells.zI qu 0 (codes rs)).take i).filter fun x=>decide (Cells.sgn (codes rs) x=63)))
   ⟨_,[],rfl,zd hz,zb,.nil⟩ (fun i σ H' _ ⟨_,_,_,s2,_⟩=>SqL.of (s2 _ _ hd1)) ?_ ?_
  ·rintro i x σ H2 hx ⟨u0,ys,rfl,s2,hz2,hc2⟩;obtain⟨c,hci,ca,rfl,hca⟩:=Cel.get (Cel.mono s2 hc1) hx;obtain⟨k0,j,u,k,ec,hk0,hj,hpc⟩:=Cells.Jp (XY hci);obtain⟨t,ht,rfl⟩:=zaX hk0;rw[VP] at ec;subst ec;refine⟨_,rfl,_,rfl,a,l,ca,rs,n,k0,j,t,k,rfl,(b.mono s1).mono s2,hca,ht,hj,R.tlen ht,rfl,_,rfl,?_⟩;have es:Cells.sgn (codes rs) (k0,j)=k:=Cells.ze7 hk0 hj;have step:((Cells.zI qu 0 (codes rs)).take (i+1)).filter (fun x=>decide (Cells.sgn (codes rs) x=63))=((Cells.zI qu 0 (codes rs)).take i).filter (fun x=>decide (Cells.sgn (codes rs) x=63))++(if decide (k=63)=true then [(k0,j)] else []):=by
    rw[Xu,hci,Xa];congr 1;show Vj _ [(k0,j)]=_;rw[W0];try dsimp only
    rw[es];split<;>rfl
   have ed:decide (V.str ⟨#[k]⟩=V.str "?")=decide (k=63):=by
    rw[Z3];simp only[QK]
   rw[ed];by_cases hp:decide (k=63)=true
   ·rw[bw hp] at step;refine jJ hp ?_;have hlen:ys.length<=64:=by
     rw[hc2.length];refine X4 (Xc _ _) ?_;rw[Xw];have h1:=Cells.jw qu 0 (codes rs) R.short;have h2:=R.hi;rw[jo] at h1;lia
    refine⟨_,rfl,ys,hz2,XA hlen (by decide),_,ys++[.ref ca],rfl,fun b' o e'=>?_,zb,?_⟩
    ·have hb:b'≠z:=fun y=>by
      subst y;rw[hz] at e';cases e'
     rw[zf hb];exact s2 _ _ e'
    ·rw[step];exact Cel.into z _ hz2 (Cel.snoc hc2 ⟨ca,rfl,hca⟩)
   ·rw[bq hp] at step;refine jj (by simpa using hp) ?_;refine⟨_,ys,rfl,s2,hz2,?_⟩;rw[step];simpa using hc2
  ·rintro σ H2 ⟨u0,ys,rfl,s2,hz2,hc2⟩;rw[hc1.length,Xy,Cells.all_filter (p:=qu) (q:=fun k=>decide (k=63)) (codes rs)] at hc2;have hz0:H z=none:=s1.free hz;exact q z ys H2 hz0 hz2 (by rw[Cells.zf9 (q:=qO) znx] at hc2;exact hc2) (s1.trans s2)
theorem zdm:zD ["board"] ["board"] (zj qy):=bz rfl rfl rfl rfl (by decide +kernel)
theorem xy {f1 f2:Addr}{fd1 fd2:Xp}(T:Txt mg)(D:zm K mg "open_cells" qy ["board"] f fd)(zG:zm K mg "cells_of" qD ["board"] f1 fd1)(zz:zm K mg "sign_at" qL ["board","cell"] f2 fd2) :
  zY P w K mg base CX0 2 f fd ["board"] (zhF Yi):=by
 refine D.F.ok zdm (fun vs H Q E h=>?_) (fun cdv A outer s H vs Q E hr h=>?_)
 ·obtain⟨a,l,rs,n,rfl,_⟩:=h;rfl
 ·obtain⟨a,l,rs,n,rfl,b,R,q⟩:=h;refine⟨_,(zh (zF (qj (N:=["cell","board"]) (src:=[none,some 0]) (zO.free (O:=(zj qy).names) (XN:=["board"]) rfl rfl ⟨_,rfl⟩ rfl rfl (by decide +kernel) (by decide +kernel) (by decide +kernel) rfl (by decide +kernel)) rfl (zK (pc0 (zbh T zG) hr zG (za (pvS 0) zc))) (fun _ _ _ _ _=>(zk (i:=0) (by show WY (["cell","board"]:List Str);decide +kernel) rfl (XH rfl))) (fun _ _ _ _ _=>(qm (zQ Q5 (pc0 (Z4 zz) hr zz (za (pvS 1) (za (pvS 0) zc))) (jt (v:=.str "?") (by rfl) T.J7.choose_spec (by exact⟨_,rfl⟩)) (zT _)))) (fun _ _ _ _ _=>(pvS 0))))),?_⟩;refine⟨_,rfl,a,l,rs,n,rfl,b,R,fun d ws H1 hd hd1 hc1 s1=>⟨d,rfl,⟨_,SqL.of hd1⟩,fun z hz=>?_⟩⟩;have nz:d≠z:=zg hd1 hz;refine qf (K:=K) (a:=d) (xs:=ws) (fun i σ H'=>∃(u0:Option V) (ys:List V),σ=[u0,some (.ref a)]/\zq H1 H'/\H' z=some (.lst ys)/\Cel H' ys (((Cells.zI qu 0 (codes rs)).take i).filter fun x=>!decide (Cells.sgn (codes rs) x=63)))
   ⟨_,[],rfl,zd hz,zb,.nil⟩ (fun i σ H' _ ⟨_,_,_,s2,_⟩=>SqL.of (s2 _ _ hd1)) ?_ ?_
  ·rintro i x σ H2 hx ⟨u0,ys,rfl,s2,hz2,hc2⟩;obtain⟨c,hci,ca,rfl,hca⟩:=Cel.get (Cel.mono s2 hc1) hx;obtain⟨k0,j,u,k,ec,hk0,hj,hpc⟩:=Cells.Jp (XY hci);obtain⟨t,ht,rfl⟩:=zaX hk0;rw[VP] at ec;subst ec;refine⟨_,rfl,_,rfl,a,l,ca,rs,n,k0,j,t,k,rfl,(b.mono s1).mono s2,hca,ht,hj,R.tlen ht,rfl,_,rfl,?_⟩;have es:Cells.sgn (codes rs) (k0,j)=k:=Cells.ze7 hk0 hj;have step:((Cells.zI qu 0 (codes rs)).take (i+1)).filter (fun x=>!decide (Cells.sgn (codes rs) x=63))=((Cells.zI qu 0 (codes rs)).take i).filter (fun x=>!decide (Cells.sgn (codes rs) x=63))++(if (!decide (k=63))=true then [(k0,j)] else []):=by
    rw[Xu,hci,Xa];congr 1;show Vj _ [(k0,j)]=_;rw[W0];try dsimp only
    rw[es];split<;>rfl
   have ed:(!decide (V.str ⟨#[k]⟩=V.str "?"))=(!decide (k=63)):=by
    rw[Z3];simp only[QK]
   rw[ed];by_cases hp:(!decide (k=63))=true
   ·rw[bw hp] at step;refine jJ hp ?_;have hlen:ys.length<=64:=by
     rw[hc2.length];refine X4 (Xc _ _) ?_;rw[Xw];have h1:=Cells.jw qu 0 (codes rs) R.short;have h2:=R.hi;rw[jo] at h1;lia
    refine⟨_,rfl,ys,hz2,XA hlen (by decide),_,ys++[.ref ca],rfl,fun b' o e'=>?_,zb,?_⟩
    ·have hb:b'≠z:=fun y=>by
      subst y;rw[hz] at e';cases e'
     rw[zf hb];exact s2 _ _ e'
    ·rw[step];exact Cel.into z _ hz2 (Cel.snoc hc2 ⟨ca,rfl,hca⟩)
   ·rw[bq hp] at step;refine jj (by simpa using hp) ?_;refine⟨_,ys,rfl,s2,hz2,?_⟩;rw[step];simpa using hc2
  ·rintro σ H2 ⟨u0,ys,rfl,s2,hz2,hc2⟩;rw[hc1.length,Xy,Cells.all_filter (p:=qu) (q:=fun k=>(!decide (k=63))) (codes rs)] at hc2;have hz0:H z=none:=s1.free hz;exact q z ys H2 hz0 hz2 hc2 (s1.trans s2)
theorem ze9:zD ["board","cell"] ["board","cell"] (zj jT):=bz rfl rfl rfl rfl (by decide +kernel)
theorem zaw {f1:Addr}{fd1:Xp}(T:Txt mg)(D:zm K mg "number_at" jT ["board","cell"] f fd)(zz:zm K mg "sign_at" qL ["board","cell"] f1 fd1):zY P w K mg base CX0 2 f fd ["board","cell"] zlD:=by
 refine D.F.ok ze9 (fun vs H Q E h=>?_) (fun cdv A outer s H vs Q E hr h=>?_)
 ·obtain⟨p,l,c,rs,n,i,j,t,k,rfl,_⟩:=h;rfl
 ·obtain⟨p,l,c,rs,n,i,j,t,k,rfl,b,hc,hi,hj,hl,k1,k2,q⟩:=h;refine⟨_,(zh (zF (jD ZO (by rfl) T.ziX T8 (za (pc0 (Z4 zz) hr zz (za (pvS 0) (za (pvS 1) zc))) zc)))),?_⟩;exact⟨_,rfl,_,rfl,p,l,c,rs,n,i,j,t,k,rfl,b,hc,hi,hj,hl,⟨#[k]⟩,_,rfl,int_sign k1 k2,(by show 1<=640;decide),q⟩
theorem zlE {k:Nat}(h1:48<=k)(h2:k<=56):V.str (toString ((k:Int)-48))=V.str ⟨#[k]⟩:=by
 have:∀k∈XF 57,48<=k->((toString ((k:Int)-48):String):Str)=⟨#[k]⟩:=by decide +kernel
 exact congrArg V.str (this k (Xl.mpr (by lia)) h1)
theorem zaZ {k:Nat}(h:k∈bd.cps.toList)(hp:Yi k=true):48<=k/\k<=56:=by
 have:∀k∈bd.cps.toList,Yi k=true->48<=k/\k<=56:=by decide +kernel
 exact this k h hp
def zH (rs:List Str)(y:Nat×Nat):List (Nat×Nat):=(Cells.zI qu 0 (codes rs)).filter fun x=>Cells.near x y
def zlF:Sp:=fun vs H Q _=>∃(p l ca:Addr) (rs:List Str) (n:Int) (i j:Nat),vs=[.ref p,.ref ca]/\qk H p l rs n/\Rows bd.cps.toList rs/\H ca=some (.tup [.int (i:Nat),.int (j:Nat)])/\i<64/\j<64 /\
 ∀(d:Addr) (ws:List V) (H':Hp),H d=none->H' d=some (.lst ws)->Cel H' ws (zH rs (i,j))->zq H H'->Q (.ref d) H'
theorem zgl (i:Nat):(if (0:Int)>(i:Int)-1 then (0:Int) else (i:Int)-1)=((i-1:Nat):Int):=by
 split<;>lia
theorem zgm (i m:Nat):(if ((m:Nat):Int)<(i:Int)+2 then ((m:Nat):Int) else (i:Int)+2)=((min (i+2) m:Nat):Int):=by
 split<;>lia
theorem zgn {f:Nat×Nat->Bool}{l:List (Nat×Nat)}{x:Nat×Nat}(a:Bool):(l++(if a=true then [x] else [])).filter f=l.filter f++(if (a&&f x)=true then [x] else []):=by
 rw[Xa];congr 1;by_cases h:a=true
 ·by_cases h2:f x=true
  ·simp[h,h2]
  ·simp[h,h2]
 ·simp[h]
theorem Zw:zD ["board","cell","rows","found","row","column"] ["board","cell"] (zj jS):=bz rfl rfl rfl rfl (by decide +kernel)
theorem Y6 (T:Txt mg)(D:zm K mg "around" jS ["board","cell"] f fd):zY P w K mg base CX0 1 f fd ["board","cell"] zlF:=by
 refine D.F.ok Zw (fun vs H Q E h=>?_) (fun cdv A outer s H vs Q E hr h=>?_)
 ·obtain⟨p,l,ca,rs,n,i,j,rfl,_⟩:=h;rfl
 ·obtain⟨p,l,ca,rs,n,i,j,rfl,b,R,hca,hi64,hj64,q⟩:=h;refine⟨_,(ze (zv (i:=2) Zw.nd rfl (XH rfl) (qq xq (pvS 0) zo (fun _ _=>rfl)))
   (ze (zv (i:=3) Zw.nd rfl (XH rfl) (qa zc))
   (ze (qg Xb rfl (YT (by rfl) T.qQ (za (zp (Zc rfl) (by rfl) T.zgi UW (za (zx JU (qq xq (pvS 1) zo (fun _ _=>rfl)) zo) (za zo zc))) (za (zp (Zd rfl) (by rfl) T.zgj UV (za (zx qb (qq xq (pvS 1) zo (fun _ _=>rfl)) zo) (za (zp zJ (by rfl) T.jB WP (za (pvS 2) zc)) zc))) zc))) (zk (i:=4) Zw.nd rfl (XH rfl)) (zh (qg Xb rfl (YT (by rfl) T.qQ (za (zp (Zc rfl) (by rfl) T.zgi UW (za (zx JU (qq xq (pvS 1) zo (fun _ _=>rfl)) zo) (za zo zc))) (za (zp (Zd rfl) (by rfl) T.zgj UV (za (zx qb (qq xq (pvS 1) zo (fun _ _=>rfl)) zo) (za (zp yF (by rfl) T.jB WP (za (qq je (pvS 2) (pvS 4) (fun _ _=>rfl)) zc)) zc))) zc))) (zk (i:=5) Zw.nd rfl (XH rfl)) (zh (qS (PW.pt (zeE (zQ Q5 (qq JV (qq je (pvS 2) (pvS 4) (fun _ _=>rfl)) (pvS 5) (fun _ _=>rfl)) (jt (v:=.str "#") (by rfl) T.YG.choose_spec (by exact⟨_,rfl⟩)) (zT _)) (zbI (zQ (Ju hr.units) (j6 (za (pvS 4) (za (pvS 5) zc))) (pvS 1) (zT _))))) (zh (jK (yG WW Wr Wq jv (pvS 3) (za (j6 (za (pvS 4) (za (pvS 5) zc))) zc)))) zV)))))
   (zh (zF (pvS 3)))))),?_⟩
  refine⟨_,rfl,p,_,0,_,rfl,rfl,SqT.of b.tp,rfl,?_⟩;refine⟨JJ,fun d hd=>?_⟩;have s0:zq H (upd H d (.lst [])):=zd hd;have r8:=R.hi;refine⟨_,rfl,ca,_,0,_,rfl,rfl,SqT.of (s0 _ _ hca),rfl,_,_,rfl,rfl,_,_,rfl,_,rfl,ca,_,0,_,rfl,rfl,SqT.of (s0 _ _ hca),rfl,_,_,rfl,rfl,_,rfl,l,_,rfl,.inl (SqL.of (b.mono s0).rw),_,_,rfl,((i-1:Nat):Int),((min (i+2) rs.length:Nat):Int),?_,⟨by lia,by lia,by lia,by lia⟩,?_⟩
  ·show [V.int (if (0:Int)>(i:Int)-1 then (0:Int) else (i:Int)-1),V.int (if (((rs.map V.str).length:Nat):Int)<(i:Int)+2 then (((rs.map V.str).length:Nat):Int) else (i:Int)+2)]=_;rw[ZB,zgl,zgm]
  refine qC (lo:=((i-1:Nat):Int)) (fun k σ H'=>∃(v4 v5:Option V) (ws:List V),σ=[some (.ref p),some (.ref ca),some (.ref l),some (.ref d),v4,v5]/\zq H H'/\H' d=some (.lst ws)/\Cel H' ws ((Cells.zI qu 0 ((codes rs).take (i-1+k))).filter fun x=>Cells.near x (i,j)))
   ⟨_,_,[],rfl,s0,zb,?_⟩ ?_ ?_
  ·rw[Cells.zlp]
   ·exact .nil
   ·intro r c hr';rw[Xs,ne_eq,Cells.YC];rintro⟨⟨_,h2⟩,_⟩;dsimp only at h2;lia
  ·rintro k σ H1 hk ⟨v4,v5,ws,rfl,s1,hd1,hc1⟩;have hrl:i-1+k<rs.length:=by lia
   have ecast:((i-1:Nat):Int)+(k:Nat)=((i-1+k:Nat):Int):=by lia
   rw[ecast];generalize hr0:i-1+k=r at *
   obtain⟨t,ht⟩:∃t,rs[r]?=some t:=⟨_,XX hrl⟩;have htl:t.length<=Xv:=R.tlen ht;have ht8:t.cps.toList.length<=8:=R.short _ (XY (jF ht));have hat:atI (rs.map V.str) ((r:Nat):Int)=some (V.str t):=Q8 (by rw[Xk,ht];rfl);refine⟨_,rfl,ca,_,1,_,rfl,rfl,SqT.of (s1 _ _ hca),rfl,_,_,rfl,rfl,_,_,rfl,_,rfl,ca,_,1,_,rfl,rfl,SqT.of (s1 _ _ hca),rfl,_,_,rfl,rfl,_,rfl,_,rfl,l,_,_,_,rfl,rfl,SqL.of (b.mono s1).rw,hat,t,rfl,htl,_,_,rfl,((j-1:Nat):Int),((min (j+2) t.cps.size:Nat):Int),?_,⟨by lia,by lia,by lia,?_⟩,?_⟩
   ·show [V.int (if (0:Int)>(j:Int)-1 then (0:Int) else (j:Int)-1),V.int (if ((t.cps.size:Nat):Int)<(j:Int)+2 then ((t.cps.size:Nat):Int) else (j:Int)+2)]=_;rw[zgl,zgm]
   ·lia
   have hsz:t.cps.toList.length=t.cps.size:=XZ;refine qC (lo:=((j-1:Nat):Int)) (fun m σ H'=>∃(v5:Option V) (ws:List V),σ=[some (.ref p),some (.ref ca),some (.ref l),some (.ref d),some (.int (r:Nat)),v5]/\zq H H'/\H' d=some (.lst ws)/\Cel H' ws ((Cells.zI qu 0 ((codes rs).take r)).filter (fun x=>Cells.near x (i,j))++(Cells.zZ qu r 0 (t.cps.toList.take (j-1+m))).filter fun x=>Cells.near x (i,j)))
    ⟨_,ws,rfl,s1,hd1,?_⟩ ?_ ?_
   ·rw[Cells.zlq (t:=t.cps.toList),Xh]
    ·exact hc1
    ·intro c hc';rw[Xs,ne_eq,Cells.YC];rintro⟨_,⟨_,h2⟩,_⟩;dsimp only at h2;lia
   ·rintro m σ H2 hm ⟨v5,ws2,rfl,s2,hd2,hc2⟩;have hcl:j-1+m<t.cps.size:=by lia
    have ecast2:((j-1:Nat):Int)+(m:Nat)=((j-1+m:Nat):Int):=by lia
    rw[ecast2];generalize hc0:j-1+m=c at *
    have hc0':j-1+(m+1)=c+1:=by lia
    obtain⟨k0,hk0⟩:∃k0,t.cps.toList[c]?=some k0:=⟨_,XX (by lia)⟩;have step:=Cells.QI (p:=qu) (i:=r) hk0;have step2:(Cells.zZ qu r 0 (t.cps.toList.take (c+1))).filter (fun x=>Cells.near x (i,j))=(Cells.zZ qu r 0 (t.cps.toList.take c)).filter (fun x=>Cells.near x (i,j))++(if (qu k0&&Cells.near (r,c) (i,j))=true then [(r,c)] else []):=by
     rw[step,zgn]
    have nr:Cells.near (r,c) (i,j)=!decide ((r,c)=(i,j)):=by
     rw[WO,Cells.YC];simp only[WT,decide_eq_false_iff_not];constructor
     ·exact fun h=>h.2.2
     ·intro h;refine⟨⟨?_,?_⟩,⟨?_,?_⟩,h⟩<;>(try dsimp only)<;>lia
    refine⟨_,rfl,_,rfl,l,_,_,_,rfl,rfl,SqL.of (b.mono s2).rw,hat,_,rfl,t,_,k0,rfl,rfl,htl,Q8 hk0,rfl,_,rfl,?_⟩;have ed:(!decide (V.str ⟨#[k0]⟩=V.str "#"))=qu k0:=by
     rw[zai];simp only[QK];rfl
    rw[ed];by_cases hp:qu k0=true
    ·refine jJ hp ?_;refine⟨_,rfl,_,rfl,ZV,fun tp htp=>?_⟩;have s3:zq H2 (upd H2 tp (.tup [.int (r:Nat),.int (c:Nat)])):=zd htp;have hca3:=s3 _ _ (s2 _ _ hca);refine⟨_,rfl,_,_,xJ.rdv (c:=(r,c)) ⟨tp,rfl,zb⟩,xJ.rdv (c:=(i,j)) ⟨ca,rfl,hca3⟩,zd7 _ _,_,rfl,?_⟩;have ee:(if true=true then !PyData.eqv (zu (r,c)) (zu (i,j)) else W2 (zu (r,c)) (zu (i,j)))=Cells.near (r,c) (i,j):=by
      rw[zaY,nr];rfl
     rw[ee];rw[hp,Rl] at step2;by_cases hn:Cells.near (r,c) (i,j)=true
     ·refine jJ hn ?_;rw[bw hn] at step2;have hd3:=s3 _ _ hd2;refine⟨_,rfl,.inl ⟨rfl,_,SqL.of hd3⟩,_,rfl,_,rfl,ZV,fun tq htq=>?_⟩;have s4:zq (upd H2 tp (.tup [.int (r:Nat),.int (c:Nat)])) (upd (upd H2 tp (.tup [.int (r:Nat),.int (c:Nat)])) tq (.tup [.int (r:Nat),.int (c:Nat)])):=zd htq;have hlen:ws2.length<=128:=by
       rw[hc2.length,X5];have h1:=Xc (fun x=>Cells.near x (i,j)) (Cells.zI qu 0 ((codes rs).take r));have h2:=Xc (fun x=>Cells.near x (i,j)) (Cells.zZ qu r 0 (t.cps.toList.take c));have h3:=Cells.jw qu 0 ((codes rs).take r) fun u hu=>R.short u (Wo hu);have h4:=Cells.jY qu r 0 (t.cps.toList.take c);rw[Xw,jo] at h3;rw[Xw] at h4;lia
      refine⟨d,_,_,rfl,rfl,s4 _ _ hd3,XA hlen (by decide),?_⟩;refine⟨_,ws2++[.ref tq],rfl,fun b' o e'=>?_,zb,?_⟩
      ·rw[zf (zg e' hd)];exact s4 _ _ (s3 _ _ (s2 _ _ e'))
      ·rw[hc0',step2,<- WV];exact Cel.into d _ (s4 _ _ hd3) (Cel.snoc (Cel.mono s4 (Cel.mono s3 hc2)) ⟨tq,rfl,zb⟩)
     ·have hn':Cells.near (r,c) (i,j)=false:=by simpa using hn
      refine jj hn' ?_;rw[bq hn,Xh] at step2;refine⟨_,ws2,rfl,s2.trans s3,s3 _ _ hd2,?_⟩;rw[hc0',step2];exact Cel.mono s3 hc2
    ·have hp':qu k0=false:=by simpa using hp
     refine jj hp' ?_;refine Qi ?_;rw[hp',SO,bq XV,Xh] at step2;refine⟨_,ws2,rfl,s2,hd2,?_⟩;rw[hc0',step2];exact hc2
   ·rintro σ H2 ⟨v5,ws2,rfl,s2,hd2,hc2⟩;refine⟨_,_,ws2,rfl,s2,hd2,?_⟩;have full:(Cells.zZ qu r 0 (t.cps.toList.take (j-1+(((min (j+2) t.cps.size:Nat):Int)-((j-1:Nat):Int)).toNat))).filter (fun x=>Cells.near x (i,j))=(Cells.zZ qu r 0 t.cps.toList).filter fun x=>Cells.near x (i,j):=by
     by_cases hbig:t.cps.size<=j-1+(((min (j+2) t.cps.size:Nat):Int)-((j-1:Nat):Int)).toNat
     ·rw[WB (by lia)]
     ·refine Cells.zjY fun c hc'=>?_;rw[Xs,ne_eq,Cells.YC];rintro⟨_,⟨h2,_⟩,_⟩;dsimp only at h2;lia
    rw[full] at hc2;have e1:i-1+(k+1)=r+1:=by lia
    rw[e1,Cells.QJ (jF ht),Xa];exact hc2
  ·rintro σ H1 ⟨v4,v5,ws,rfl,s1,hd1,hc1⟩;have full:(Cells.zI qu 0 ((codes rs).take (i-1+(((min (i+2) rs.length:Nat):Int)-((i-1:Nat):Int)).toNat))).filter (fun x=>Cells.near x (i,j))=zH rs (i,j):=by
    by_cases hbig:rs.length<=i-1+(((min (i+2) rs.length:Nat):Int)-((i-1:Nat):Int)).toNat
    ·rw[WB (by rw[jo];lia)];rfl
    ·refine Cells.zjX fun r c hr'=>?_;rw[Xs,ne_eq,Cells.YC];rintro⟨⟨h2,_⟩,_⟩;dsimp only at h2;lia
   rw[full] at hc1;exact⟨_,rfl,q d ws H1 hd hd1 hc1 s1⟩
theorem xJ.rdn {N:Addr->Prop}{H:Hp}{v:V}{c:Nat×Nat}(h:xJ H v c):Rdn N H v (zu c):=by
 obtain⟨a,rfl,h⟩:=h;exact .tup h (.cons (.int _) (.cons (.int _) .nil))
theorem Cel.rdn {N:Addr->Prop}{H:Hp}{vs:List V}{cs:List (Nat×Nat)}(hp:Cel H vs cs):zB N H vs (cs.map zu):=by
 induction hp with
 | nil=>exact .nil
 | cons h _ ih =>
  exact .cons (xJ.rdn h) ih
theorem Rdn.celR {N:Addr->Prop}{H:Hp}{v:V}{c:Nat×Nat}(h:Rdn N H v (zu c)):xJ H v c:=by
 cases h with
 | tup h t =>
  cases t with
  | cons a t =>
   cases a;cases t with
   | cons b t =>
    cases b;cases t;exact⟨_,rfl,h⟩
theorem zB.cel {N:Addr->Prop}{H:Hp}:∀{cs:List (Nat×Nat)} {vs:List V},zB N H vs (cs.map zu)->Cel H vs cs
 | [],_,h=>by cases h;exact .nil
 | c::r,_,h=>by
  cases h with
  | cons a t=>exact .cons (Rdn.celR a) (zB.cel t)
theorem zB.bools {N:Addr->Prop}{H:Hp}:∀{bs:List Bool} {vs:List V},zB N H vs (bs.map S7)->vs=bs.map V.bl
 | [],_,h=>by cases h;rfl
 | b::r,_,h=>by
  cases h with
  | cons a t =>
   cases a;rw[zB.bools t];rfl
theorem jf {α:Type}(p:α->Bool)(g:α->V8):∀cs:List α,(cs.map fun x=>if p x=true then some (g x) else none).filterMap id=(cs.filter p).map g
 | []=>rfl
 | c::r=>by
  rw[W9,U9,W0];by_cases h:p c=true
  ·rw[bw h,bw h];show g c::_=g c::_;rw[jf p g r]
  ·rw[bq h,bq h];exact jf p g r
theorem Zx {α:Type}(g:α->V8):∀cs:List α,(cs.map fun x=>some (g x)).filterMap id=cs.map g
 | []=>rfl
 | c::r=>by
  rw[W9,U9];show g c::_=g c::_;rw[Zx g r]
theorem xT {α β:Type}{g:α->β}{cs:List α}{i:Nat}{c:α}{o:β}(h:cs[i]?=some c)(ho:(cs.map g)[i]?=some o):o=g c:=by
 rw[Xk,h] at ho;exact(Option.some.inj ho).symm
def clA (rs:List Str)(c:Nat×Nat):List (Nat×Nat):=(zH rs c).filter fun x=>decide (Cells.sgn (codes rs) x=63)
def zM (rs:List Str):List (Nat×Nat):=Cells.zI qO 0 (codes rs)
def qv (rs:List Str):List (Nat×Nat):=Cells.zI Yi 0 (codes rs)
def J8 (rs:List Str):List (Nat×Nat):=(zM rs).filter fun c=>!((qv rs).map fun o=>(zH rs o).any fun z=>decide (z=c)).any id
def Zy (rs:List Str):List (Nat×Nat):=((qv rs).filter fun o=>(clA rs o).isEmpty).filter fun o=>!decide (Cells.sgn (codes rs) o=48)
theorem jG {p:Nat->Bool}{rs:List Str}(R:Rows bd.cps.toList rs):(Cells.zI p 0 (codes rs)).length<=64:=by
 have h1:=Cells.jw p 0 (codes rs) R.short;have h2:=R.hi;rw[jo] at h1;lia
theorem J9 {rs:List Str}(R:Rows bd.cps.toList rs)(c:Nat×Nat):(zH rs c).length<=64:=X4 (Xc _ _) (jG R)
theorem qi {p:Nat->Bool}{rs:List Str}{c:Nat×Nat}(h:c∈Cells.zI p 0 (codes rs)):∃t k,rs[c.1]?=some t/\t.cps.toList[c.2]?=some k/\p k=true/\Cells.sgn (codes rs) c=k:=by
 obtain⟨k0,j,u,k,ec,hk0,hj,hpc⟩:=Cells.Jp h;obtain⟨t,ht,rfl⟩:=zaX hk0;rw[VP] at ec;subst ec;exact⟨t,k,ht,hj,hpc,Cells.ze7 hk0 hj⟩
theorem JD {rs:List Str}{c:Nat×Nat}{t:Str}{k:Nat}(R:Rows bd.cps.toList rs)(h1:rs[c.1]?=some t)(h2:t.cps.toList[c.2]?=some k):c.1<64/\c.2<64:=by
 have a:=(X2.mp h1).1;have b:=(X2.mp h2).1;have e:=R.hi;have f:=R.short _ (XY (jF h1));lia
theorem ziZ {rs:List Str}{i j:Nat}{t:Str}{k:Nat}(R:Rows bd.cps.toList rs)(h1:rs[i]?=some t)(h2:t.cps.toList[j]?=some k):k∈bd.cps.toList:=by
 obtain⟨n,_,_,h⟩:=R.ex;exact(h t (XY h1)).mem k (XY h2)
def zqM:Sp:=fun vs H Q _=>∃(p l ca:Addr) (rs:List Str) (n:Int) (c:Nat×Nat),vs=[.ref p,.ref ca]/\qk H p l rs n/\Rows bd.cps.toList rs/\H ca=some (.tup [.int (c.1:Nat),.int (c.2:Nat)])/\c.1<64/\c.2<64 /\
 ∀(d:Addr) (ws:List V) (H':Hp),H d=none->H' d=some (.lst ws)->Cel H' ws (clA rs c)->zq H H'->Q (.ref d) H'
def zlG (g:List Str->List (Nat×Nat)):Sp:=fun vs H Q _=>∃(a l:Addr) (rs:List Str) (n:Int),vs=[.ref a]/\qk H a l rs n/\Rows bd.cps.toList rs /\
 ∀(d:Addr) (ws:List V) (H':Hp),H d=none->H' d=some (.lst ws)->Cel H' ws (g rs)->zq H H'->Q (.ref d) H'
theorem za0:zD ["board","cell"] ["board","cell"] (zj qM):=bz rfl rfl rfl rfl (by decide +kernel)
theorem Zz {f1 f2:Addr}{fd1 fd2:Xp}(T:Txt mg)(D:zm K mg "closed_around" qM ["board","cell"] f fd)(zR:zm K mg "around" jS ["board","cell"] f1 fd1)(zz:zm K mg "sign_at" qL ["board","cell"] f2 fd2) :
  zY P w K mg base CX0 2 f fd ["board","cell"] zqM:=by
 refine D.F.ok za0 (fun vs H Q E h=>?_) (fun cdv A outer s H vs Q E hr h=>?_)
 ·obtain⟨p,l,ca,rs,n,c,rfl,_⟩:=h;rfl
 ·obtain⟨p,l,ca,rs,n,c,rfl,b,R,hca,ci,cj,q⟩:=h;refine⟨_,(zh (zF (qj (N:=["place","board"]) (src:=[none,some 0]) (zO.free (O:=(zj qM).names) (XN:=["board","cell"]) rfl rfl ⟨_,rfl⟩ rfl rfl (by decide +kernel) (by decide +kernel) (by decide +kernel) rfl (by decide +kernel)) rfl (zK (pc0 (Y6 T zR) hr zR (za (pvS 0) (za (pvS 1) zc)))) (fun _ _ _ _ _=>(zk (i:=0) (by show WY (["place","board"]:List Str);decide +kernel) rfl (XH rfl))) (fun _ _ _ _ _=>(qm (zQ xU (pc0 (Z4 zz) hr zz (za (pvS 1) (za (pvS 0) zc))) (jt (v:=.str "?") (by rfl) T.J7.choose_spec (by exact⟨_,rfl⟩)) (zT _)))) (fun _ _ _ _ _=>(pvS 0))))),?_⟩;refine⟨_,rfl,_,rfl,p,l,ca,rs,n,c.1,c.2,rfl,b,R,hca,ci,cj,fun d ws H1 hd hd1 hc1 s1=>⟨d,rfl,⟨_,SqL.of hd1⟩,fun z hz=>?_⟩⟩;refine jd (K:=K) (a:=d) (xs:=ws) (fun a=>a≠z) ((zH rs c).map fun x=>if decide (Cells.sgn (codes rs) x=63)=true then some (zu x) else none) (fun σ=>∃u0,σ=[u0,some (.ref p)]) hz (fun _ h=>h) ⟨_,rfl⟩ (by rw[ZB];exact hc1.length.symm) (by rw[hc1.length];exact X4 (J9 R c) (by decide)) (SqL.of hd1) ?_ ?_
  ·rintro k x o σ H2 hx ho s2 _ ⟨u0,rfl⟩ Y Z yes no;obtain⟨y,hy,r1⟩:=Cel.get hc1 hx;have eo:=xT hy ho;obtain⟨t,sg,ht,hj,_,es⟩:=qi (X6.mp (XY hy)).1;obtain⟨ya,rfl,hya⟩:=r1;refine⟨_,rfl,_,rfl,p,l,ya,rs,n,y.1,y.2,t,sg,rfl,(b.mono s1).mono s2,s2 _ _ hya,ht,hj,R.tlen ht,rfl,_,rfl,?_⟩;have ed:decide (V.str ⟨#[sg]⟩=V.str "?")=decide (sg=63):=by
    rw[Z3];simp only[QK]
   rw[ed];rw[es] at eo;by_cases hp:sg=63
   ·rw[br hp];rw[bw (br hp)] at eo;exact Qj ⟨_,rfl,yes _ _ _ _ eo ⟨_,rfl⟩ (zq.refl _) (xJ.rdn ⟨ya,rfl,s2 _ _ hya⟩)⟩
   ·rw[bg hp];rw[bq (by rw[bg hp];exact XV)] at eo;exact Qi (no _ _ eo ⟨_,rfl⟩ (zq.refl _))
  ·rintro ys H2 s2 hz2 hr2;rw[jf] at hr2;exact q z ys H2 (s1.free hz) hz2 (zB.cel hr2) (s1.trans s2)
theorem zdn (cs:List (Nat×Nat)):Wa (cs.map zu)=true:=by
 induction cs with
 | nil=>rfl
 | cons c r ih =>
  show (U0 (zu c)&&Wa (r.map zu))=true;rw[ih];rfl
theorem zpu (cs:List (Nat×Nat)):Wl (cs.map zu)<=1:=by
 induction cs with
 | nil=>exact W4 _
 | cons c r ih =>
  show max (PyData.depth (zu c)) (Wl (r.map zu))<=1;have:PyData.depth (zu c)=1:=rfl;lia
theorem zhH (cs ds:List (Nat×Nat)):zfH (.list (cs.map zu)) (.list (ds.map zu)):=⟨zdn cs,zdn ds,by
 show Wl (cs.map zu)+1<=64;have:=zpu cs;lia⟩
theorem xK (cs:List (Nat×Nat))(c:Nat×Nat):(cs.map zu).any (fun z=>W2 z (zu c))=cs.any fun z=>decide (z=c):=by
 rw[UM];congr 1;funext z;exact zaY z c
theorem eq_nil (cs:List (Nat×Nat)):W2 (.list (cs.map zu)) (.list [])=cs.isEmpty:=by
 cases cs<;>rfl
theorem zlH:zD ["board","told"] ["board"] (zj zgg):=bz rfl rfl rfl rfl (by decide +kernel)
theorem zlI {f1 f2 f3 f4 f5:Addr}{fd1 fd2 fd3 fd4 fd5:Xp}(T:Txt mg)(D:zm K mg "far" zgg ["board"] f fd)(zR:zm K mg "around" jS ["board","cell"] f1 fd1)(zz:zm K mg "sign_at" qL ["board","cell"] f2 fd2)
  (zG:zm K mg "cells_of" qD ["board"] f3 fd3) (ZA:zm K mg "closed" Zt ["board"] f4 fd4) (zC:zm K mg "open_cells" qy ["board"] f5 fd5):zY P w K mg base CX0 3 f fd ["board"] (zlG J8):=by
 refine D.F.ok zlH (fun vs H Q E h=>?_) (fun cdv A outer s H vs Q E hr h=>?_)
 ·obtain⟨a,l,rs,n,rfl,_⟩:=h;rfl
 ·obtain⟨a,l,rs,n,rfl,b,R,q⟩:=h;refine⟨_,(ze (zv (i:=1) zlH.nd rfl (UU rfl) (qj (N:=["cell","board"]) (src:=[none,some 0]) (zO.free (O:=(zj zgg).names) (XN:=["board","told"]) rfl rfl ⟨_,rfl⟩ rfl rfl (by decide +kernel) (by decide +kernel) (by decide +kernel) rfl (by decide +kernel)) rfl (zK (pc0 (xy T zC zG zz) hr zC (za (pvS 0) zc))) (fun _ _ _ _ _=>(zk (i:=0) (by show WY (["cell","board"]:List Str);decide +kernel) rfl (XH rfl))) (fun _ _ _ _ _=>qW) (fun _ _ _ _ _=>(pc0 (Y6 T zR) hr zR (za (pvS 1) (za (pvS 0) zc))))))
   (zh (zF (zkO (N:=["cell","told"]) (src:=[none,some 1]) (ZS.byRfl (y:="cell") rfl (fun _ _=>rfl) (fun _=>rfl) (by decide +kernel) (by decide +kernel) (by rfl) rfl (by rfl)) rfl (zK (pc0 (zj3 T ZA zG zz) hr ZA (za (pvS 0) zc))) (fun _ _ _ _ _=>(zk (i:=0) (by show WY (["cell","told"]:List Str);decide +kernel) rfl (UU rfl))) (fun _ _ _ _ _=>(qm (Yo (YV (K:=K) (by rfl) (zp (zdK (K:=K) (by rfl) (by rfl)) (by rfl) T.zlB So (za (qj (N:=["near","cell"]) (src:=[none,some 0]) (zO.byRfl rfl (by decide +kernel) (by decide +kernel) (by rfl) rfl (by rfl)) (by rfl) (zfP (K:=K) (by rfl) (pvS 1)) (fun _ _ _ _ _=>(zk (i:=0) (by show WY (["near","cell"]:List Str);decide +kernel) rfl (XH rfl))) (fun _ _ _ _ _=>qW) (fun _ _ _ _ _=>(Jc (jQ (K:=K) (by rfl) hr.units) (pvS 1) (pvS 0) (by rfl)))) zc)) (fun _=>rfl))))) (fun _ _ _ _ _=>(pvS 0)))))),?_⟩
  refine⟨_,rfl,a,l,rs,n,rfl,b,R,fun d ws H1 hd hd1 hc1 s1=>⟨d,rfl,⟨_,SqL.of hd1⟩,fun z hz=>?_⟩⟩;have b1:=b.mono s1;refine jd (K:=K) (a:=d) (xs:=ws) (fun a=>a≠z) ((qv rs).map fun o=>some (.list ((zH rs o).map zu))) (fun σ=>∃u0,σ=[u0,some (.ref a)]) hz (fun _ h=>h) ⟨_,rfl⟩ (by rw[ZB];exact hc1.length.symm) (by rw[hc1.length];exact X4 (jG R) (by decide)) (SqL.of hd1) ?_ ?_
  ·rintro k x o σ H2 hx ho s2 hzn ⟨u0,rfl⟩ Y Z yes no;obtain⟨y,hy,r1⟩:=Cel.get hc1 hx;have eo:=xT hy ho;obtain⟨t,sg,ht,hj,_,es⟩:=qi (XY hy);obtain⟨ya,rfl,hya⟩:=r1;obtain⟨l1,l2⟩:=JD R ht hj;refine zac ⟨_,rfl,_,rfl,a,l,ya,rs,n,y.1,y.2,rfl,b1.mono s2,R,s2 _ _ hya,l1,l2,fun d2 ws2 H3 hd2 hd3 hc2 s3=>?_⟩;refine yes _ _ _ _ eo ⟨_,rfl⟩ s3 (.lst (fun e=>hzn (e ▸ hd2)) hd3 (Cel.rdn hc2))
  ·rintro ys H2 s2 hz2 hr2;rw[Zx] at hr2;have b2:=b1.mono s2;refine⟨_,rfl,a,l,rs,n,rfl,b2,R,fun d3 ws3 H3 hd3 hd4 hc3 s3=>⟨d3,rfl,⟨_,SqL.of hd4⟩,fun z3 hz3=>?_⟩⟩;have hz4:=s3 _ _ hz2;have hr3:=hr2.keep s3;refine jd (K:=K) (a:=d3) (xs:=ws3) (fun a=>a≠z3) ((zM rs).map fun c=>if (!((qv rs).map fun o=>(zH rs o).any fun z=>decide (z=c)).any id)=true then some (zu c) else none) (fun σ=>∃u0,σ=[u0,some (.ref z)]) hz3 (fun _ h=>h) ⟨_,rfl⟩ (by rw[ZB];exact hc3.length.symm) (by rw[hc3.length];exact X4 (jG R) (by decide)) (SqL.of hd4) ?_ ?_
   ·rintro k x o σ H4 hx ho s4 _ ⟨u0,rfl⟩ Y Z yes no;obtain⟨y,hy,r1⟩:=Cel.get hc3 hx;have eo:=xT hy ho;have r2:xJ H4 x y:=by
     obtain⟨ya,e,hya⟩:=r1;exact⟨ya,e,s4 _ _ hya⟩
    refine⟨_,rfl,z,rfl,⟨_,SqL.of (s4 _ _ hz4)⟩,fun z5 hz5=>?_⟩;have hyl:ys.length=(qv rs).length:=by rw[hr2.length,ZB]
    refine jd (K:=K) (a:=z) (xs:=ys) (fun a=>a≠z5) ((qv rs).map fun o=>some (.bool ((zH rs o).any fun z=>decide (z=y)))) (fun σ=>∃u0,σ=[u0,some x]) hz5 (fun _ h=>h) ⟨_,rfl⟩ (by rw[ZB];exact hyl.symm) (by rw[hyl];exact X4 (jG R) (by decide)) (SqL.of (s4 _ _ hz4)) ?_ ?_
    ·rintro m v o2 σ H5 hv ho2 s5 _ ⟨u1,rfl⟩ Y2 Z2 yes2 no2;obtain⟨dv,hdv,rv⟩:=hr3.get hv;rw[Xk] at hdv;cases eoc:(qv rs)[m]? with
     | none=>rw[eoc] at hdv;cases hdv
     | some oc =>
      rw[eoc] at hdv;cases hdv;have eo2:=xT eoc ho2;have r3:xJ H5 x y:=by
       obtain⟨ya,e,hya⟩:=r2;exact⟨ya,e,s5 _ _ hya⟩
      refine zac ⟨_,rfl,_,rfl,zu y,(zH rs oc).map zu,r3.rdv,(((rv.keep s4).keep s5).rdv),rfl,zdn _,(by show 1<=60;decide),?_⟩;have ei:(if false=true then !((zH rs oc).map zu).any (fun z=>W2 z (zu y)) else ((zH rs oc).map zu).any fun z=>W2 z (zu y))=(zH rs oc).any fun z=>decide (z=y):=xK _ _;rw[ei];exact yes2 _ _ _ _ eo2 ⟨_,rfl⟩ (zq.refl _) (.bl _)
    ·rintro ys5 H5 s5 hz6 hr5;rw[Zx,show ((qv rs).map fun o=>S7 ((zH rs o).any fun z=>decide (z=y)))=((qv rs).map fun o=>(zH rs o).any fun z=>decide (z=y)).map S7 by rw[WJ];rfl] at hr5;rw[zB.bools hr5] at hz6;refine⟨z5,_,rfl,SqL.of hz6,_,rfl,?_⟩;by_cases hp:(!((qv rs).map fun o=>(zH rs o).any fun z=>decide (z=y)).any id)=true
     ·rw[bw hp] at eo;refine jJ hp ⟨_,rfl,yes _ _ _ _ eo ⟨_,rfl⟩ s5 (xJ.rdn ?_)⟩;obtain⟨ya,e,hya⟩:=r2;exact⟨ya,e,s5 _ _ hya⟩
     ·rw[bq hp] at eo;exact jj (by simpa using hp) (no _ _ eo ⟨_,rfl⟩ s5)
   ·rintro ys4 H4 s4 hz6 hr4;rw[jf] at hr4;exact q z3 ys4 H4 (s1.free (s2.free (s3.free hz3))) hz6 (zB.cel hr4) (((s1.trans s2).trans s3).trans s4)
theorem Qs:zD ["board","bare"] ["board"] (zj jZ):=bz rfl rfl rfl rfl (by decide +kernel)
theorem zdo {f1 f2 f3 f4 f5 f6:Addr}{fd1 fd2 fd3 fd4 fd5 fd6:Xp}(T:Txt mg)(D:zm K mg "bare_wrong" jZ ["board"] f fd)(zR:zm K mg "around" jS ["board","cell"] f1 fd1)(zz:zm K mg "sign_at" qL ["board","cell"] f2 fd2)
  (zG:zm K mg "cells_of" qD ["board"] f3 fd3) (zW:zm K mg "closed_around" qM ["board","cell"] f4 fd4) (zC:zm K mg "open_cells" qy ["board"] f5 fd5) (qo:zm K mg "number_at" jT ["board","cell"] f6 fd6):zY P w K mg base CX0 3 f fd ["board"] (zlG Zy):=by
 refine D.F.ok Qs (fun vs H Q E h=>?_) (fun cdv A outer s H vs Q E hr h=>?_)
 ·obtain⟨a,l,rs,n,rfl,_⟩:=h;rfl
 ·obtain⟨a,l,rs,n,rfl,b,R,q⟩:=h;refine⟨_,(ze (Je (i:=1) Qs.nd rfl rfl (N:=["cell","board"]) (src:=[none,some 0]) (zO.free (O:=(zj jZ).names) (XN:=["board","bare"]) rfl rfl ⟨_,rfl⟩ rfl rfl (by decide +kernel) (by decide +kernel) (by decide +kernel) rfl (by decide +kernel)) rfl (zK (pc0 (xy T zC zG zz) hr zC (za (pvS 0) zc))) (fun _ _ _ _ _=>(zk (i:=0) (by show WY (["cell","board"]:List Str);decide +kernel) rfl (XH rfl))) (fun _ _ _ _ _=>(qm (zQ (zfJ (K:=K) (by rfl) hr.units) (pc0 (Zz T zW zR zz) hr zW (za (pvS 1) (za (pvS 0) zc))) (qa zc) (zT _)))) (fun _ _ _ _ _=>(pvS 0)))
   (zh (zF (qj (N:=["cell","board"]) (src:=[none,some 0]) (zO.free (O:=(zj jZ).names) (XN:=["board","bare"]) rfl rfl ⟨_,rfl⟩ rfl rfl (by decide +kernel) (by decide +kernel) (by decide +kernel) rfl (by decide +kernel)) rfl (zK (pvS 1)) (fun _ _ _ _ _=>(zk (i:=0) (by show WY (["cell","board"]:List Str);decide +kernel) rfl (XH rfl))) (fun _ _ _ _ _=>(qm (zQ Q5 (pc0 (zaw T qo zz) hr qo (za (pvS 1) (za (pvS 0) zc))) zo (zT _)))) (fun _ _ _ _ _=>(pvS 0)))))),?_⟩
  refine⟨_,rfl,a,l,rs,n,rfl,b,R,fun d ws H1 hd hd1 hc1 s1=>⟨d,rfl,⟨_,SqL.of hd1⟩,fun z hz=>?_⟩⟩;have b1:=b.mono s1;refine jd (K:=K) (a:=d) (xs:=ws) (fun a=>a≠z) ((qv rs).map fun o=>if (clA rs o).isEmpty=true then some (zu o) else none) (fun σ=>∃u0,σ=[u0,some (.ref a)]) hz (fun _ h=>h) ⟨_,rfl⟩ (by rw[ZB];exact hc1.length.symm) (by rw[hc1.length];exact X4 (jG R) (by decide)) (SqL.of hd1) ?_ ?_
  ·rintro k x o σ H2 hx ho s2 hzn ⟨u0,rfl⟩ Y Z yes no;obtain⟨y,hy,r1⟩:=Cel.get hc1 hx;have eo:=xT hy ho;obtain⟨t,sg,ht,hj,_,es⟩:=qi (XY hy);obtain⟨ya,rfl,hya⟩:=r1;obtain⟨l1,l2⟩:=JD R ht hj;refine⟨_,rfl,_,rfl,a,l,ya,rs,n,y,rfl,b1.mono s2,R,s2 _ _ hya,l1,l2,fun d2 ws2 H3 hd2 hd3 hc2 s3=>⟨JJ,fun e he=>?_⟩⟩;have s4:=zd (o:=.lst []) he;refine⟨.list ((clA rs y).map zu),.list [],.lst (SqL.of (s4 _ _ hd3)) (zB.rdv (N:=fun _=>True) (Cel.rdn (Cel.mono s4 hc2))),.lst (SqL.of zb) .nil,zhH _ [],_,rfl,?_⟩;have ee:(if false=true then !PyData.eqv (.list ((clA rs y).map zu)) (.list []) else W2 (.list ((clA rs y).map zu)) (.list []))=(clA rs y).isEmpty:=eq_nil _;rw[ee];by_cases hp:(clA rs y).isEmpty=true
   ·rw[bw hp] at eo;exact jJ hp ⟨_,rfl,yes _ _ _ _ eo ⟨_,rfl⟩ (s3.trans s4) (xJ.rdn ⟨ya,rfl,s4 _ _ (s3 _ _ (s2 _ _ hya))⟩)⟩
   ·rw[bq hp] at eo;exact jj (by simpa using hp) (no _ _ eo ⟨_,rfl⟩ (s3.trans s4))
  ·rintro ys H2 s2 hz2 hr2;rw[jf] at hr2;have hc2:=zB.cel hr2;have b2:=b1.mono s2;refine⟨_,rfl,z,rfl,⟨_,SqL.of hz2⟩,fun z3 hz3=>?_⟩;refine jd (K:=K) (a:=z) (xs:=ys) (fun a=>a≠z3) (((qv rs).filter fun o=>(clA rs o).isEmpty).map fun o=>if (!decide (Cells.sgn (codes rs) o=48))=true then some (zu o) else none) (fun σ=>∃u0,σ=[u0,some (.ref a)]) hz3 (fun _ h=>h) ⟨_,rfl⟩ (by rw[ZB];exact hc2.length.symm) (by rw[hc2.length];exact X4 (Xc _ _) (X4 (jG R) (by decide))) (SqL.of hz2) ?_ ?_
   ·rintro k x o σ H4 hx ho s4 _ ⟨u0,rfl⟩ Y Z yes no;obtain⟨y,hy,r1⟩:=Cel.get hc2 hx;have eo:=xT hy ho;obtain⟨t,sg,ht,hj,hpo,es⟩:=qi (X6.mp (XY hy)).1;obtain⟨ya,rfl,hya⟩:=r1;obtain⟨k1,k2⟩:=zaZ (ziZ R ht hj) hpo;refine⟨_,rfl,_,rfl,a,l,ya,rs,n,y.1,y.2,t,sg,rfl,b2.mono s4,s4 _ _ hya,ht,hj,R.tlen ht,k1,k2,rfl,_,rfl,?_⟩;have ed:(!decide (V.int ((sg:Int)-48)=V.int 0))=!decide (Cells.sgn (codes rs) y=48):=by
     rw[es,zeF];congr 1;by_cases h:sg=48
     ·rw[br h,h];rfl
     ·rw[bg h];simp only[beq_eq_false_iff_ne,ne_eq];lia
    rw[ed];by_cases hp:(!decide (Cells.sgn (codes rs) y=48))=true
    ·rw[bw hp] at eo;exact jJ hp ⟨_,rfl,yes _ _ _ _ eo ⟨_,rfl⟩ (zq.refl _) (xJ.rdn ⟨ya,rfl,s4 _ _ hya⟩)⟩
    ·rw[bq hp] at eo;exact jj (by simpa using hp) (no _ _ eo ⟨_,rfl⟩ (zq.refl _))
   ·rintro ys4 H4 s4 hz6 hr4;rw[jf] at hr4;exact q z3 ys4 H4 (s1.free (s2.free hz3)) hz6 (zB.cel hr4) ((s1.trans s2).trans s4)
theorem zhI {K:X0}{H:Hp}{vs:List V}{cs:List (Nat×Nat)}(hp:Cel H vs cs):yQ K H vs (cs.map zu):=by
 induction hp with
 | nil=>exact .nil
 | cons h _ ih =>
  exact .cons (xJ.rdv h) ih
def toI (c:Nat×Nat):Int×Int:=(((c.1:Nat):Int),((c.2:Nat):Int))
def ofI (p:Int×Int):Nat×Nat:=(p.1.toNat,p.2.toNat)
theorem zi0 (c:Nat×Nat):ofI (toI c)=c:=rfl
theorem zbU {c d:Nat×Nat}(h:toI c=toI d):c=d:=by rw[<- zi0 c,h,zi0]
theorem zi1 {c d:Nat×Nat}:lt2 (toI c) (toI d)=true↔Cells.lex c d:=by
 obtain⟨a,b⟩:=c;obtain⟨x,y⟩:=d;unfold lt2 Cells.lex;show (if ((a:Nat):Int)=((x:Nat):Int) then decide (((b:Nat):Int)<((y:Nat):Int)) else decide (((a:Nat):Int)<((x:Nat):Int)))=true↔a<x\/(a=x/\b<y);by_cases e:a=x
 ·rw[bw (by lia),bu];lia
 ·rw[bq (by lia),bu];lia
theorem Cel.tup2 {H:Hp}{vs:List V}{cs:List (Nat×Nat)}(hp:Cel H vs cs):ju H vs (cs.map toI):=by
 induction hp with
 | nil=>exact .nil
 | cons q _ ih =>
  obtain⟨a,e,h⟩:=q;exact .cons ⟨a,e,h⟩ ih
theorem JZ {H:Hp}:∀{cs:List (Nat×Nat)} {vs:List V},ju H vs (cs.map toI)->Cel H vs cs
 | [],_,.nil=>.nil
 | _::_,_,.cons ⟨a,e,h⟩ t=>.cons ⟨a,e,h⟩ (JZ t)
theorem zi2 {ps:List (Int×Int)}{cs:List (Nat×Nat)}(h:ps.Perm (cs.map toI)):∃ds:List (Nat×Nat),ps=ds.map toI/\ds.Perm cs:=by
 refine⟨ps.map ofI,?_,?_⟩
 ·rw[WJ];refine(R9 ps).symm.trans (Xg fun p hp=>?_);obtain⟨c,_,rfl⟩:=XU.mp (h.mem_iff.mp hp);rfl
 ·have:=h.map ofI;rw[WJ] at this;have e:cs.map (ofI∘toI)=cs:=(Xg fun c _=>zi0 c).trans (R9 cs);rwa [e] at this
theorem zpv {cs:List (Nat×Nat)}(h:Up2 (cs.map toI)):cs.Pairwise Cells.lex:=by
 unfold Up2 at h;rw[We] at h;exact h.imp fun z=>zi1.mp z
theorem j3 {cs:List (Nat×Nat)}(h:cs.Pairwise Cells.lex):cs.Nodup:=h.imp fun {a b} z e=>by
 subst e;unfold Cells.lex at z;lia
def zj4 (H:Hp)(v:V)(g:List (Nat×Nat)):Prop:=∃a us,v=V.ref a/\H a=some (.lst us)/\Cel H us g
def yO (H:Hp):List V->List (List (Nat×Nat))->Prop:=WU (zj4 H)
theorem zj4.mono {H H':Hp}{v:V}{g:List (Nat×Nat)}(s:zq H H')(h:zj4 H v g):zj4 H' v g:=by
 obtain⟨a,us,e,h1,h2⟩:=h;exact⟨a,us,e,s _ _ h1,h2.mono s⟩
theorem yO.mono {H H':Hp}(s:zq H H'){vs:List V}{gs:List (List (Nat×Nat))}(hp:yO H vs gs):yO H' vs gs:=by
 induction hp with
 | nil=>exact .nil
 | cons h _ ih =>
  exact .cons (h.mono s) ih
theorem yO.get {H:Hp}:∀{vs:List V} {gs:List (List (Nat×Nat))} {i:Nat} {v:V},yO H vs gs->vs[i]?=some v->∃g,gs[i]?=some g/\zj4 H v g
 | _,_,_,_,.nil,e=>by simp at e
 | _,_,0,_,.cons r _,e=>by
  simp at e;subst e;exact⟨_,rfl,r⟩
 | _,_,i+1,v,.cons _ t,e=>by
  obtain⟨c,h1,h2⟩:=yO.get (i:=i) (v:=v) t (by simpa using e);exact⟨c,by simpa using h1,h2⟩
theorem yO.length {H:Hp}{vs:List V}{gs:List (List (Nat×Nat))}(h:yO H vs gs):vs.length=gs.length:=Paired.length h
theorem yO.snoc {H:Hp}{vs:List V}{gs:List (List (Nat×Nat))}{v:V}{g:List (Nat×Nat)}(h:yO H vs gs)(x:zj4 H v g):yO H (vs++[v]) (gs++[g]):=Paired.snoc h x
def lD (g:List (Nat×Nat)):V8:=.list (g.map zu)
theorem zd8 {p q:Nat->Bool}(h:∀c,p c=true->q c=false)(i:Nat):∀(j:Nat) (t:List Nat),(Cells.zZ p i j t).length+(Cells.zZ q i j t).length<=t.length
 | _,[]=>XW _
 | j,c::r=>by
  have ih:=zd8 h i (j+1) r;rw[Cells.zZ,Cells.zZ,X5,X5,XB];by_cases hp:p c=true
  ·rw[bw hp,bq (by rw[h c hp];exact XV)];simp only[XB,UT];lia
  ·rw[bq hp];split<;>simp only[XB,UT]<;>lia
theorem zd9 {p q:Nat->Bool}(h:∀c,p c=true->q c=false):∀(i:Nat) (rs:List (List Nat)),(∀t∈rs,t.length<=8)->(Cells.zI p i rs).length+(Cells.zI q i rs).length<=8*rs.length
 | _,[],_=>XW _
 | i,t::r,ht=>by
  have ih:=zd9 h (i+1) r fun u hu=>ht u (XR _ hu);have h1:=zd8 h i 0 t;have h2:=ht t XT;rw[Cells.zI,Cells.zI,X5,X5,XB];lia
theorem zea {rs:List Str}(R:Rows bd.cps.toList rs):(qv rs).length+(zM rs).length<=64:=by
 have:=zd9 (p:=Yi) (q:=qO) (fun c hc=>by
  unfold Yi at hc;rw[V6,WT] at hc;exact hc.2) 0 (codes rs) R.short
 have h2:=R.hi;rw[jo] at this;unfold qv zM;lia
theorem zax {p:Nat->Bool}{i:Nat}:∀{j m:Nat} {t:List Nat} {c:Nat},t[m]?=some c->p c=true->(i,j+m)∈Cells.zZ p i j t
 | j,m,[],c,h,_=>by simp at h
 | j,0,d::r,c,h,hp=>by
  have e:d=c:=by simpa using h
  subst e;rw[Cells.zZ,bw hp];exact W5 _ XT
 | j,m+1,d::r,c,h,hp=>by
  rw[Cells.zZ];refine XE _ ?_;have:=zax (i:=i) (j:=j+1) (m:=m) (t:=r) (c:=c) (by simpa using h) hp;rwa [show j+1+m=j+(m+1) by lia] at this
theorem Z5 {p:Nat->Bool}:∀{i m:Nat} {rs:List (List Nat)} {t:List Nat} {j c:Nat},rs[m]?=some t->t[j]?=some c->p c=true->(i+m,j)∈Cells.zI p i rs
 | i,m,[],t,j,c,h,_,_=>by simp at h
 | i,0,d::r,t,j,c,h,hj,hp=>by
  have e:d=t:=by simpa using h
  subst e;rw[Cells.zI];refine W5 _ ?_;have:=zax (i:=i) (j:=0) hj hp;rwa [show 0+j=j by lia] at this
 | i,m+1,d::r,t,j,c,h,hj,hp=>by
  rw[Cells.zI];refine XE _ ?_;have:=Z5 (i:=i+1) (m:=m) (rs:=r) (t:=t) (j:=j) (c:=c) (by simpa using h) hj hp;rwa [show i+1+m=i+(m+1) by lia] at this
theorem zeb (rs:List Str)(c:Nat×Nat):(clA rs c).Nodup:=((j3 (Cells.Zn _ 0 (codes rs))).sublist W1).sublist W1
theorem ZC {rs:List Str}{c x:Nat×Nat}(h:x∈clA rs c):x∈zM rs:=by
 unfold clA at h;obtain⟨h1,h2⟩:=X6.mp h;obtain⟨t,k,ht,hj,_,es⟩:=qi (X6.mp h1).1;have e63:k=63:=by
  have:=bh h2;lia
 subst e63;have:=Z5 (p:=qO) (i:=0) (jF ht) hj (by decide);rwa [VP] at this
def heads (gs:List (List (Nat×Nat))):List (Int×Int):=gs.map fun g=>toI (g.headD (0,0))
theorem head_mem {g:List (Nat×Nat)}(h:g ≠ []):g.headD (0,0)∈g:=by
 cases g with
 | nil=>exact absurd rfl h
 | cons a r=>exact XT
theorem zbi:∀{gs:List (List (Nat×Nat))},(∀g∈gs,g ≠ [])->gs.flatten.Nodup->(heads gs).Nodup
 | [],_,_=>Uy
 | g::r,h,nd=>by
  rw[Wm,Ww] at nd;obtain⟨_,h2,h3⟩:=nd;unfold heads;rw[W9,VG];refine⟨fun hm=>?_,zbi (fun x hx=>h x (XR _ hx)) h2⟩;obtain⟨g2,hg2,e⟩:=XU.mp hm;have e':=zbU e;have m1:=head_mem (h g XT);have m2:=head_mem (h g2 (XR _ hg2));rw[e'] at m2;exact h3 _ m1 _ (WI.mpr ⟨g2,hg2,m2⟩) rfl
def JE (rs:List Str)(part:List (Nat×Nat)):List (Nat×Nat):=(qv rs).filter fun o=>((zH rs o).map fun z=>part.any fun x=>decide (x=z)).any id
def zpw:Sp:=fun vs H Q _=>∃(a l pa:Addr) (rs:List Str) (n:Int) (ps:List V) (part:List (Nat×Nat)),vs=[.ref a,.ref pa]/\qk H a l rs n/\Rows bd.cps.toList rs/\H pa=some (.lst ps)/\Cel H ps part /\
 ∀(d:Addr) (ws:List V) (H':Hp),H d=none->H' d=some (.lst ws)->Cel H' ws (JE rs part)->zq H H'->Q (.ref d) H'
theorem zdp:zD ["board","part"] ["board","part"] (zj jx):=bz rfl rfl rfl rfl (by decide +kernel)
theorem zdq {f1 f2 f3 f5:Addr}{fd1 fd2 fd3 fd5:Xp}(T:Txt mg)(D:zm K mg "numbers_of" jx ["board","part"] f fd)(zR:zm K mg "around" jS ["board","cell"] f1 fd1)(zz:zm K mg "sign_at" qL ["board","cell"] f2 fd2)
  (zG:zm K mg "cells_of" qD ["board"] f3 fd3) (zC:zm K mg "open_cells" qy ["board"] f5 fd5):zY P w K mg base CX0 3 f fd ["board","part"] zpw:=by
 refine D.F.ok zdp (fun vs H Q E h=>?_) (fun cdv A outer s H vs Q E hr h=>?_)
 ·obtain⟨a,l,pa,rs,n,ps,part,rfl,_⟩:=h;rfl
 ·obtain⟨a,l,pa,rs,n,ps,part,rfl,b,R,hpa,hpt,q⟩:=h;refine⟨_,(zh (zF (qj (N:=["cell","part","board"]) (src:=[none,some 1,some 0]) (zO.free (O:=(zj jx).names) (XN:=["board","part"]) rfl rfl ⟨_,rfl⟩ rfl rfl (by decide +kernel) (by decide +kernel) (by decide +kernel) rfl (by decide +kernel)) rfl (zK (pc0 (xy T zC zG zz) hr zC (za (pvS 0) zc))) (fun _ _ _ _ _=>(zk (i:=0) (by show WY (["cell","part","board"]:List Str);decide +kernel) rfl (XH rfl))) (fun _ _ _ _ _=>(qm (YV (K:=K) (by rfl) (zp (zdK (K:=K) (by rfl) (by rfl)) (by rfl) T.zlB So (za (qj (N:=["place","part"]) (src:=[none,some 1]) (zO.byRfl rfl (by decide +kernel) (by decide +kernel) (by rfl) rfl (by rfl)) (by rfl) (zfP (K:=K) (by rfl) (pc0 (Y6 T zR) hr zR (za (pvS 2) (za (pvS 0) zc)))) (fun _ _ _ _ _=>(zk (i:=0) (by show WY (["place","part"]:List Str);decide +kernel) rfl (XH rfl))) (fun _ _ _ _ _=>qW) (fun _ _ _ _ _=>(Jc (jQ (K:=K) (by rfl) hr.units) (pvS 0) (pvS 1) (by rfl)))) zc)) (fun _=>rfl)))) (fun _ _ _ _ _=>(pvS 0))))),?_⟩;refine⟨_,rfl,a,l,rs,n,rfl,b,R,fun d ws H1 hd hd1 hc1 s1=>⟨d,rfl,⟨_,SqL.of hd1⟩,fun z hz=>?_⟩⟩;have b1:=b.mono s1;refine jd (K:=K) (a:=d) (xs:=ws) (fun a=>a≠z) ((qv rs).map fun o=>if (((zH rs o).map fun z=>part.any fun x=>decide (x=z)).any id)=true then some (zu o) else none) (fun σ=>∃u0,σ=[u0,some (.ref pa),some (.ref a)]) hz (fun _ h=>h) ⟨_,rfl⟩ (by rw[ZB];exact hc1.length.symm) (by rw[hc1.length];exact X4 (jG R) (by decide)) (SqL.of hd1) ?_ ?_
  ·rintro k x o σ H2 hx ho s2 hzn ⟨u0,rfl⟩ Y Z yes no;obtain⟨y,hy,r1⟩:=Cel.get hc1 hx;have eo:=xT hy ho;obtain⟨t,sg,ht,hj,_,es⟩:=qi (XY hy);obtain⟨ya,rfl,hya⟩:=r1;obtain⟨l1,l2⟩:=JD R ht hj;refine⟨_,rfl,_,rfl,a,l,ya,rs,n,y.1,y.2,rfl,b1.mono s2,R,s2 _ _ hya,l1,l2,fun d2 ws2 H3 hd2 hd3 hc2 s3=>⟨d2,rfl,⟨_,SqL.of hd3⟩,fun z5 hz5=>?_⟩⟩;refine jd (K:=K) (a:=d2) (xs:=ws2) (fun a=>a≠z5) ((zH rs y).map fun c=>some (.bool (part.any fun x=>decide (x=c)))) (fun σ=>∃u0,σ=[u0,some (.ref pa)]) hz5 (fun _ h=>h) ⟨_,rfl⟩ (by rw[ZB];exact hc2.length.symm) (by rw[hc2.length];exact X4 (J9 R y) (by decide)) (SqL.of hd3) ?_ ?_
   ·rintro m v o2 σ H5 hv ho2 s5 _ ⟨u1,rfl⟩ Y2 Z2 yes2 no2;obtain⟨c,hc,rc⟩:=Cel.get (Cel.mono s5 hc2) hv;have eo2:=xT hc ho2;have sA:=((s1.trans s2).trans s3).trans s5;refine zac ⟨_,rfl,_,rfl,zu c,part.map zu,rc.rdv,.lst (SqL.of (sA _ _ hpa)) (zB.rdv (N:=fun _=>True) (Cel.rdn (Cel.mono sA hpt))),rfl,zdn _,(by show 1<=60;decide),?_⟩;have ei:(if false=true then !(part.map zu).any (fun z=>W2 z (zu c)) else (part.map zu).any fun z=>W2 z (zu c))=part.any fun z=>decide (z=c):=xK _ _;rw[ei];exact yes2 _ _ _ _ eo2 ⟨_,rfl⟩ (zq.refl _) (.bl _)
   ·rintro ys5 H5 s5 hz6 hr5;rw[Zx,show ((zH rs y).map fun c=>S7 (part.any fun x=>decide (x=c)))=((zH rs y).map fun c=>part.any fun x=>decide (x=c)).map S7 by rw[WJ];rfl] at hr5;rw[zB.bools hr5] at hz6;refine⟨z5,_,rfl,SqL.of hz6,_,rfl,?_⟩;by_cases hp:(((zH rs y).map fun z=>part.any fun x=>decide (x=z)).any id)=true
    ·rw[bw hp] at eo;exact jJ hp ⟨_,rfl,yes _ _ _ _ eo ⟨_,rfl⟩ (s3.trans s5) (xJ.rdn ⟨ya,rfl,s5 _ _ (s3 _ _ (s2 _ _ hya))⟩)⟩
    ·rw[bq hp] at eo;exact jj (by simpa using hp) (no _ _ eo ⟨_,rfl⟩ (s3.trans s5))
  ·rintro ys H2 s2 hz2 hr2;rw[jf] at hr2;exact q z ys H2 (s1.free hz) hz2 (zB.cel hr2) (s1.trans s2)
theorem zny {a b:List (Nat×Nat)}(p:a.Perm b)(ha:a.Pairwise Cells.lex)(hb:b.Pairwise Cells.lex):a=b:=p.eq_of_pairwise (fun x y _ _ h1 h2=>by
 unfold Cells.lex at h1 h2;lia) ha hb
theorem zhJ {cl:Nat×Nat->List (Nat×Nat)}{done:List (Nat×Nat)}{gs:List (List (Nat×Nat))}{o:Nat×Nat}(G:Parts.Good cl done gs)(h:cl o ≠ [])(hn:(cl o).Nodup){w:List (Nat×Nat)}(hs:w.Pairwise Cells.lex)(hw:∀x,x∈w↔x∈cl o\/∃g∈gs,Parts.meets (cl o) g=true/\x∈g):Parts.Good cl (done++[o]) ((gs.filter fun g=>!Parts.meets (cl o) g)++[w]):=by
 refine G.step h hn ?_ ?_ hs
 ·refine Ve fun g hg=>?_;congr 1;rw[WO,WC];constructor
  ·exact fun z=>⟨g,X6.mpr ⟨hg,z⟩,br rfl⟩
  ·rintro⟨m,hm,e⟩;have e':m=g:=bh e;subst e';exact(X6.mp hm).2
 ·refine(Wd (j3 hs) (Parts.YD hn fun m hm=>G.nd.sublist (U6 (X6.mp hm).1))).mpr fun x=>?_;rw[hw,Parts.zaV];constructor
  ·rintro(z | ⟨g,h1,h2,h3⟩)
   ·exact .inl z
   ·exact .inr ⟨g,X6.mpr ⟨h1,h2⟩,h3⟩
  ·rintro(z | ⟨g,h1,h3⟩)
   ·exact .inl z
   ·exact .inr ⟨g,(X6.mp h1).1,(X6.mp h1).2,h3⟩
theorem zj5 (cs g:List (Nat×Nat)):(cs.map fun c=>g.any fun z=>decide (z=c)).any id=Parts.meets cs g:=by
 rw[WO,Parts.Zo,UM,WC];constructor
 ·rintro⟨c,h1,h2⟩;have h2':(g.any fun z=>decide (z=c))=true:=h2;obtain⟨z,h3,h4⟩:=WC.mp h2';have e:z=c:=bh h4;subst e;exact⟨z,h3,h1⟩
 ·rintro⟨x,h1,h2⟩;refine⟨x,h2,?_⟩;show (g.any fun z=>decide (z=x))=true;exact WC.mpr ⟨x,h1,br rfl⟩
def J0 (p:List (Nat×Nat)->Bool):List V->List (List (Nat×Nat))->List V
 | v::vs,g::gs=>if p g=true then v::J0 p vs gs else J0 p vs gs
 | _,_=>[]
theorem ZD (p:List (Nat×Nat)->Bool):∀(vs:List V) (gs:List (List (Nat×Nat))),(J0 p vs gs).Sublist vs
 | [],_=>List.nil_sublist _
 | _::_,[]=>List.nil_sublist _
 | v::vs,g::gs=>by
  rw[J0];split
  ·exact(ZD p vs gs).cons_cons v
  ·exact(ZD p vs gs).cons v
theorem QL {H:Hp}(p:List (Nat×Nat)->Bool):∀{vs:List V} {gs:List (List (Nat×Nat))},yO H vs gs->yO H (J0 p vs gs) (gs.filter p)
 | _,_,.nil=>.nil
 | _,_,.cons (a:=v) (b:=g) h t=>by
  rw[J0,W0];by_cases hp:p g=true
  ·rw[bw hp,bw hp];exact .cons h (QL p t)
  ·rw[bq hp,bq hp];exact QL p t
theorem zhK (p:List (Nat×Nat)->Bool){vs:List V}{gs:List (List (Nat×Nat))}{i:Nat}{v:V}{g:List (Nat×Nat)}(h1:vs[i]?=some v)(h2:gs[i]?=some g):J0 p (vs.take (i+1)) (gs.take (i+1))=J0 p (vs.take i) (gs.take i)++if p g=true then [v] else []:=by
 induction vs generalizing gs i with
 | nil=>cases h1
 | cons w vs ih =>
  cases gs with
  | nil=>cases h2
  | cons k gs =>
   cases i with
   | zero =>
    cases h1;cases h2;simp[J0]
   | succ i =>
    rw[UB,UB,UB,UB,J0,J0,ih h1 h2];split<;>rfl
theorem zfa {m:List (Int×Int)}{l:List (Nat×Nat)}(h:∀c∈m,c∈l.map toI):m=(m.map ofI).map toI:=by
 rw[WJ];refine(R9 m).symm.trans (Xg fun c hc=>?_);obtain⟨x,_,rfl⟩:=XU.mp (h c hc);rfl
def zlJ:Sp:=fun vs H Q _=>∃(ga ca:Addr) (ws us:List V) (gs:List (List (Nat×Nat))) (cs B:List (Nat×Nat)),vs=[.ref ga,.ref ca]/\H ga=some (.lst ws)/\yO H ws gs/\H ca=some (.lst us)/\Cel H us cs/\cs.Nodup/\gs.flatten.Nodup/\(∀x∈cs,x∈B)/\(∀x∈gs.flatten,x∈B)/\(∀x∈B,x.1<8/\x.2<8)/\B.length<=63/\gs.length<=63 /\
 (cs=[]->∀H',zq H H'->Q (.ref ga) H') /\
 (cs ≠ []->∀(d wa:Addr) (va:List V) (w:List (Nat×Nat)) (H':Hp),H d=none->H wa=none->H' d=some (.lst (va++[.ref wa]))->va.Sublist ws->yO H' (va++[.ref wa]) ((gs.filter fun g=>!Parts.meets cs g)++[w])->w.Pairwise Cells.lex->(∀x,x∈w↔x∈cs\/∃g∈gs,Parts.meets cs g=true/\x∈g)->zq H H'->Q (.ref d) H')
theorem Y7:zD ["groups","cells","apart","together","group"] ["groups","cells"] (zj Zu):=bz rfl rfl rfl rfl (by decide +kernel)
theorem zj6 (T:Txt mg)(D:zm K mg "joined" Zu ["groups","cells"] f fd):zY P w K mg base CX0 1 f fd ["groups","cells"] zlJ:=by
 refine D.F.ok Y7 (fun vs H Q E h=>?_) (fun cdv A outer s H vs Q E hr h=>?_)
 ·obtain⟨ga,ca,ws,us,gs,cs,B,rfl,_⟩:=h;rfl
 ·obtain⟨ga,ca,ws,us,gs,cs,B,rfl,hga,hG,hca,hC,cnd,gnd,cB,gB,B8,B63,g63,q1,q2⟩:=h;have cl63:cs.length<=63:=X4 (Parts.qc cnd cB) B63;have fl63:gs.flatten.length<=63:=X4 (Parts.qc gnd gB) B63;refine⟨_,(ze (qS (zQ (yR hr.units) (pvS 1) (qa zc) (zT _)) (zh (zF (pvS 0))) zV)
   (ze (zv (i:=2) Y7.nd rfl (XH rfl) (qa zc))
   (ze (zv (i:=3) Y7.nd rfl (XH rfl) (jD zab (by rfl) T.zhD Su (za (pvS 1) zc)))
   (ze (qg Xb rfl (zK (pvS 0)) (zk (i:=4) Y7.nd rfl (UU rfl)) (zh (qS (Js (zp (zfN rfl) (by rfl) T.zlB So (za (qj (N:=["cell","group"]) (src:=[none,some 4]) (zO.free (O:=(zj Zu).names) (XN:=["groups","cells","apart","together","group"]) rfl rfl ⟨_,rfl⟩ rfl rfl (by decide +kernel) (by decide +kernel) (by decide +kernel) rfl (by decide +kernel)) rfl (zK (pvS 1)) (fun _ _ _ _ _=>(zk (i:=0) (by show WY (["cell","group"]:List Str);decide +kernel) rfl (XH rfl))) (fun _ _ _ _ _=>qW) (fun _ _ _ _ _=>(Jc (jQ (K:=K) (by rfl) hr.units) (pvS 0) (pvS 1) (by rfl)))) zc)) (fun _=>rfl)) (zh (jK (yG WW Rf Re zdH (pvS 3) (za (pvS 4) zc)))) (zh (jK (yG WW Wr Wq jv (pvS 2) (za (pvS 4) zc)))))))
   (zh (zF (zx J5 (pvS 2) (qa (za (zp (ST.zdl hr.hd) (by rfl) T.zav UF (za (jD (ST.zjM hr.units hr.hd) (by rfl) T.zqK PyProof.Rows.boot_set (za (pvS 3) zc)) zc)) zc))))))))),?_⟩
  refine⟨_,rfl,JJ,fun e he=>?_⟩;have s1:zq H (upd H e (.lst [])):=zd he;refine⟨lD cs,.list [],.lst (SqL.of (s1 _ _ hca)) (zhI (hC.mono s1)),.lst (SqL.of zb) .nil,zhH _ [],_,rfl,?_⟩;have en:(if false=true then !PyData.eqv (lD cs) (.list []) else W2 (lD cs) (.list []))=cs.isEmpty:=by
   show W2 _ _=_;exact eq_nil cs
  rw[en];by_cases zj7:cs=[]
  ·rw[show cs.isEmpty=true by rw[zj7];rfl];exact Qj ⟨_,rfl,q1 zj7 _ s1⟩
  rw[show cs.isEmpty=false by rw[VO];exact zj7];refine Qi ?_;generalize upd H e (.lst [])=H1 at *
  refine⟨JJ,fun ap hap=>?_⟩;have s2:=s1.trans (zd (o:=.lst []) hap);have ha2:upd H1 ap (.lst []) ap=some (.lst []):=zb;have hap0:=s1.free hap;generalize upd H1 ap (.lst [])=H2 at *
  refine⟨_,rfl,ca,_,rfl,.inl (SqL.of (s2 _ _ hca)),fun tg htg=>?_⟩;have z3:=zd (o:=.lst us) htg;have s3:=s2.trans z3;have ha3:=z3 _ _ ha2;have ht3:upd H2 tg (.lst us) tg=some (.lst us):=zb;have htg0:=s2.free htg;have nat:ap≠tg:=zg ha2 htg;generalize upd H2 tg (.lst us)=H3 at *
  refine⟨_,rfl,ga,rfl,⟨_,SqL.of (s3 _ _ hga)⟩,?_⟩;refine j7 (K:=K) (a:=ga) (xs:=ws) (fun i σ H'=>∃(ut:List V) (v4:Option V),σ=[some (.ref ga),some (.ref ca),some (.ref ap),some (.ref tg),v4]/\zq H H'/\H' ap=some (.lst (J0 (fun g=>!Parts.meets cs g) (ws.take i) (gs.take i)))/\H' tg=some (.lst ut)/\Cel H ut (cs++((gs.take i).filter (Parts.meets cs)).flatten))
   ⟨us,_,rfl,s3,ha3,ht3,by simpa using hC⟩ (fun i σ H' _ ⟨_,_,_,z,_⟩=>SqL.of (z _ _ hga)) ?_ ?_
  ·rintro i x σ H4 hx ⟨ut,v4,rfl,s4,ha4,ht4,hct⟩;obtain⟨g,hg,gad,ug,rfl,hgad,hcg⟩:=yO.get hG hx;have gm:=XY hg;have tk:(gs.take (i+1)).filter (Parts.meets cs)=(gs.take i).filter (Parts.meets cs)++if Parts.meets cs g=true then [g] else []:=by
    rw[Xu,hg,Xa];congr 1;show [g].filter _=_;rw[W0];rfl
   have pk:=zhK (fun g=>!Parts.meets cs g) hx hg;refine⟨_,rfl,ca,rfl,⟨_,SqL.of (s4 _ _ hca)⟩,fun z hz=>?_⟩;refine jd (K:=K) (a:=ca) (xs:=us) (fun a=>a≠z) (cs.map fun c=>some (.bool (g.any fun z=>decide (z=c)))) (fun σ=>∃u0,σ=[u0,some (.ref gad)]) hz (fun _ h=>h) ⟨_,rfl⟩ (by rw[ZB];exact hC.length.symm) (by rw[hC.length];exact X4 cl63 (by decide)) (SqL.of (s4 _ _ hca)) ?_ ?_
   ·rintro m v o σ H5 hv ho s5 _ ⟨u1,rfl⟩ Y Z yes no;have s05:=s4.trans s5;obtain⟨c,hc,rc⟩:=Cel.get (hC.mono s05) hv;have eo:=xT hc ho;refine zac ⟨_,rfl,_,rfl,zu c,g.map zu,rc.rdv,.lst (SqL.of (s05 _ _ hgad)) (zhI (hcg.mono s05)),rfl,zdn _,(by show 1<=60;decide),?_⟩;have ei:(if false=true then !(g.map zu).any (fun z=>W2 z (zu c)) else (g.map zu).any fun z=>W2 z (zu c))=g.any fun z=>decide (z=c):=xK _ _;rw[ei];exact yes _ _ _ _ eo ⟨_,rfl⟩ (zq.refl _) (.bl _)
   ·rintro ys H5 s5 hz5 hr5;rw[Zx,show (cs.map fun c=>S7 (g.any fun z=>decide (z=c)))=(cs.map fun c=>g.any fun z=>decide (z=c)).map S7 by rw[WJ];rfl] at hr5;rw[zB.bools hr5] at hz5;refine⟨z,_,rfl,SqL.of hz5,_,rfl,?_⟩;rw[zj5];have s05:=s4.trans s5;have ha5:=s5 _ _ ha4;have ht5:=s5 _ _ ht4;have gsub:∀(q:List (Nat×Nat)->Bool) (j:Nat),(((gs.take j).filter q).flatten).length<=63:=fun q j=>by
     refine X4 (U7 ?_) fl63;refine List.Sublist.trans (Parts.qY q (gs.take j)) ?_;have e2:gs=gs.take j++gs.drop j:=(Ws j gs).symm;conv=>rhs;rw[e2,WD]
     exact Tu _ _
    by_cases hp:Parts.meets cs g=true
    ·refine jJ hp ?_;refine⟨_,rfl,.inl ⟨rfl,_,SqL.of ht5⟩,_,rfl,tg,gad,ut,ug,rfl,rfl,ht5,s05 _ _ hgad,?_,?_⟩
     ·rw[hct.length,hcg.length,X5];have a1:=gsub (Parts.meets cs) i;have a2:g.length<=63:=X4 (U7 (U6 gm)) fl63;exact X4 (show _<=200 by lia) (by decide)
     ·refine⟨ut++ug,_,rfl,fun b o eb=>?_,?_,zb,?_⟩
      ·rw[zf (zg eb htg0)];exact s05 _ _ eb
      ·rw[zf nat,pk,hp];simpa using ha5
      ·rw[tk,bw hp,WD,<- WV];simpa using Cel.append hct hcg
    ·have hp2:=Xs.mpr hp;refine jj hp2 ?_;refine⟨_,rfl,.inl ⟨rfl,_,SqL.of ha5⟩,_,rfl,ap,_,_,rfl,rfl,ha5,?_,?_⟩
     ·refine XA (U7 ((ZD _ _ _).trans (T7 _ _))) ?_;rw[hG.length];exact XA g63 (by decide)
     ·refine⟨ut,_,rfl,fun b o eb=>?_,?_,?_,?_⟩
      ·rw[zf (zg eb hap0)];exact s05 _ _ eb
      ·rw[zb,pk,hp2];rfl
      ·rw[zf (Vs nat)];exact ht5
      ·rw[tk,bq hp,Xh];exact hct
  ·rintro σ H4 ⟨ut,v4,rfl,s4,ha4,ht4,hct⟩;rw[Xy,hG.length,Xy] at ha4;rw[hG.length,Xy] at hct;generalize hl:cs++(gs.filter (Parts.meets cs)).flatten=l at hct;have lB:∀x∈l,x∈B:=fun x hx=>by
    rw[<- hl] at hx;rcases XO.mp hx with hx | hx
    ·exact cB x hx
    ·exact gB x ((Parts.qY _ gs).subset hx)
   refine⟨_,rfl,_,rfl,tg,ut,_,rfl,SqL.of ht4,Cel.tup2 (hct.mono s4),(fun p hp=>?_),(fun m hm hs=>?_),fun ds ks hds hT hnd hmem=>?_⟩
   ·obtain⟨x,hx,rfl⟩:=XU.mp hp;have:=B8 x (lB x hx);unfold ST.InB toI;show (0<=((x.1:Nat):Int)/\((x.1:Nat):Int)<8)/\(0<=((x.2:Nat):Int)/\((x.2:Nat):Int)<8);lia
   ·have h1:=zfa hs;have h2:(m.map ofI).Nodup:=by
     rw[h1] at hm;unfold WY at hm ⊢;rw[We] at hm;exact hm.imp fun z e=>z (by rw[e])
    have h3:=Parts.qc (b:=B) h2 fun x hx=>by
     obtain⟨c,hc,rfl⟩:=XU.mp hx;obtain⟨y,hy,rfl⟩:=XU.mp (hs c hc);exact lB y hy
    rw[ZB] at h3;lia
   have z5:=zd (o:=ST.zf1 P w ds ks) hds;have hks:∀c∈ks.map (·.2),c∈l.map toI:=fun c hc=>(hmem c).mp hc;have kl:ks.length<=63:=by
    have h1:=zfa hks;have h2:((ks.map (·.2)).map ofI).Nodup:=by
     rw[h1] at hnd;unfold WY at hnd ⊢;rw[We] at hnd;exact hnd.imp fun z e=>z (by rw[e])
    have h3:=Parts.qc (b:=B) h2 fun x hx=>by
     obtain⟨c,hc,rfl⟩:=XU.mp hx;obtain⟨y,hy,rfl⟩:=XU.mp (hks c hc);exact lB y hy
    rw[ZB,ZB] at h3;lia
   have hds5:upd H4 ds (ST.zf1 P w ds ks) ds=some (ST.zf1 P w ds ks):=zb;have s5:=s4.trans z5;have ha5:=z5 _ _ ha4;have hT5:∀q∈ks,upd H4 ds (ST.zf1 P w ds ks) q.1=some (.tup [.int q.2.1,.int q.2.2]):=fun q hq=>z5 _ _ (hT q hq);refine⟨ds,ks,rfl,hds5,hT5,hnd,(by lia),fun wa us' ps' hwa ht zec hup=>?_⟩;rw[zfa hks] at zec;obtain⟨wc,rfl,hperm2⟩:=zi2 zec;have z6:=zd (o:=.lst us') hwa;refine⟨sz_1,fun p1 hp1=>?_⟩;have z7:=zd (o:=.lst [V.ref wa]) hp1;have z67:=z6.trans z7;refine⟨ap,p1,_,[.ref wa],rfl,rfl,z67 _ _ ha5,zb,?_,fun k2 hk2=>?_⟩
   ·have a1:(J0 (fun g=>!Parts.meets cs g) ws gs).length<=63:=X4 (U7 (ZD _ _ _)) (by rw[hG.length];exact g63);exact X4 (show _+1<=200 by lia) (by decide)
   ·have z8:=zd (o:=.lst (J0 (fun g=>!Parts.meets cs g) ws gs++[.ref wa])) hk2;have s8:=s5.trans (z67.trans z8);refine q2 zj7 k2 wa _ wc _ ((s5.trans z67).free hk2) (s5.free hwa) zb (ZD _ _ _) ?_ (zpv hup) (fun x=>?_) s8
    ·exact yO.snoc ((QL _ hG).mono s8) ⟨wa,us',rfl,z8 _ _ (z7 _ _ zb),Cel.mono (z67.trans z8) (JZ ht)⟩
    ·rw[hperm2.mem_iff,XU];have hx:(∃a,a∈ks.map (·.2)/\ofI a=x)↔x∈l:=by
      constructor
      ·rintro⟨c,hc,rfl⟩;obtain⟨y,hy,rfl⟩:=XU.mp (hks c hc);exact hy
      ·intro h;exact⟨toI x,(hmem _).mpr (XU.mpr ⟨x,h,rfl⟩),rfl⟩
     rw[hx,<- hl,XO,WI];constructor
     ·rintro(h | ⟨g,h1,h2⟩)
      ·exact .inl h
      ·exact .inr ⟨g,(X6.mp h1).1,(X6.mp h1).2,h2⟩
     ·rintro(h | ⟨g,h1,h2,h3⟩)
      ·exact .inl h
      ·exact .inr ⟨g,X6.mpr ⟨h1,h2⟩,h3⟩
def zi3:Sp:=fun vs H Q _=>∃(p l:Addr) (rs:List Str) (n:Int),vs=[.ref p]/\qk H p l rs n/\Rows bd.cps.toList rs /\
 ∀(d:Addr) (ws:List V) (gs:List (List (Nat×Nat))) (H':Hp),H d=none->H' d=some (.lst ws)->yO H' ws gs->ws.Nodup->(∀v∈ws,∃a,v=V.ref a/\H a=none/\a≠d)->Parts.Good (clA rs) (qv rs) gs->Up2 (heads gs)->zq H H'->Q (.ref d) H'
theorem zhL {rs:List Str}(R:Rows bd.cps.toList rs){x:Nat×Nat}(h:x∈zM rs):x.1<8/\x.2<8:=by
 obtain⟨t,k,ht,hj,_,_⟩:=qi h;have a:=(X2.mp ht).1;have b:=(X2.mp hj).1;have e:=R.hi;have g:=R.short _ (XY (jF ht));lia
theorem yO.some {H:Hp}{ws:List V}{gs:List (List (Nat×Nat))}(h:yO H ws gs):∀v∈ws,∃a us,v=V.ref a/\H a=some (.lst us):=by
 intro v hv;obtain⟨_,_,a,us,e,h1,_⟩:=zkI h hv;exact⟨a,us,e,h1⟩
theorem zlK {H:Hp}{ws:List V}{gs:List (List (Nat×Nat))}(h:yO H ws gs):WU (GS.LstAt H) ws (gs.map (UP toI)):=by
 induction h with
 | nil=>exact .nil
 | cons r _ ih =>
  obtain⟨a,us,e,h1,h2⟩:=r;exact .cons ⟨a,us,e,h1,h2.tup2⟩ ih
theorem zlL {H:Hp}:∀{gs:List (List (Nat×Nat))} {ws:List V},WU (GS.LstAt H) ws (gs.map (UP toI))->yO H ws gs:=by
 intro gs;induction gs with
 | nil =>
  intro ws h;cases h;exact .nil
 | cons g r ih =>
  intro ws h;cases h with
  | cons q t =>
   obtain⟨a,us,e,h1,h2⟩:=q;exact .cons ⟨a,us,e,h1,JZ h2⟩ (ih t)
theorem zbj {ks:List (List (Int×Int))}{gs:List (List (Nat×Nat))}(h:ks.Perm (gs.map (UP toI))):∃ds:List (List (Nat×Nat)),ks=ds.map (UP toI)/\ds.Perm gs:=by
 have oo:∀g:List (Nat×Nat),(g.map toI).map ofI=g:=fun g=>by
  rw[WJ];exact(Xg fun c _=>zi0 c).trans (R9 g)
 refine⟨ks.map (UP ofI),?_,?_⟩
 ·rw[WJ];refine(R9 ks).symm.trans (Xg fun p hp=>?_);obtain⟨c,_,rfl⟩:=XU.mp (h.mem_iff.mp hp);show c.map toI=((c.map toI).map ofI).map toI;rw[oo]
 ·have:=h.map (UP ofI);rw[WJ] at this;have e:gs.map (UP ofI∘UP toI)=gs:=(Xg fun c _=>oo c).trans (R9 gs);rwa [e] at this
theorem zlM {gs:List (List (Nat×Nat))}(h:(gs.map (UP toI)).Pairwise (fun p q=>PySem.SeqAt.ltL q p=false))(ne:∀g∈gs,g ≠ [])(nd:(heads gs).Nodup):Up2 (heads gs):=by
 induction gs with
 | nil=>exact List.Pairwise.nil
 | cons g r ih =>
  rw[W9,RJ] at h;have nd':toI (g.headD (0,0)) ∉ heads r/\(heads r).Nodup:=VG.mp nd;refine RJ.mpr ⟨fun p hp=>?_,ih h.2 (fun x hx=>ne x (XR _ hx)) nd'.2⟩;obtain⟨g2,hg2,rfl⟩:=XU.mp hp;have a:=h.1 _ (XU.mpr ⟨g2,hg2,rfl⟩);have hne:toI (g.headD (0,0))≠toI (g2.headD (0,0)):=fun e=>nd'.1 (e ▸ hp);have n1:=ne g XT;have n2:=ne g2 (XR _ hg2);cases g with
  | nil=>exact absurd rfl n1
  | cons x xs =>
   cases g2 with
   | nil=>exact absurd rfl n2
   | cons y ys =>
    have hne':toI x≠toI y:=hne;show lt2 (toI x) (toI y)=true;have a':(if toI y=toI x then PySem.SeqAt.ltL (ys.map toI) (xs.map toI) else lt2 (toI y) (toI x))=false:=a;rw[bq (Vs hne')] at a';have:=zad hne';rw[a'] at this;cases hh:lt2 (toI x) (toI y) with
    | true=>rfl
    | false =>
     rw[hh] at this;cases this
theorem zay:zD ["board","found","cell"] ["board"] (zj zbR):=bz rfl rfl rfl rfl (by decide +kernel)
theorem zgo {f1 f2 f3 f4 f5 f6:Addr}{fd1 fd2 fd3 fd4 fd5 fd6:Xp}(T:Txt mg)(D:zm K mg "parts" zbR ["board"] f fd)(zR:zm K mg "around" jS ["board","cell"] f1 fd1)(zz:zm K mg "sign_at" qL ["board","cell"] f2 fd2)
  (zG:zm K mg "cells_of" qD ["board"] f3 fd3) (zC:zm K mg "open_cells" qy ["board"] f4 fd4) (zW:zm K mg "closed_around" qM ["board","cell"] f5 fd5) (ZE:zm K mg "joined" Zu ["groups","cells"] f6 fd6):zY P w K mg base CX0 3 f fd ["board"] zi3:=by
 refine D.F.ok zay (fun vs H Q E h=>?_) (fun cdv A outer s H vs Q E hr h=>?_)
 ·obtain⟨p,l,rs,n,rfl,_⟩:=h;rfl
 ·obtain⟨p,l,rs,n,rfl,b,R,q⟩:=h;refine⟨_,(ze (zv (i:=1) zay.nd rfl (XH rfl) (qa zc))
   (ze (qg Xb rfl (zK (pc0 (xy T zC zG zz) hr zC (za (pvS 0) zc))) (zk (i:=2) zay.nd rfl (XH rfl)) (zh (zv (i:=1) zay.nd rfl (XH rfl) (pc0 (zj6 T ZE) hr ZE (za (pvS 1) (za (pc0 (Zz T zW zR zz) hr zW (za (pvS 0) (za (pvS 2) zc))) zc))))))
   (zh (zF (zp (GS.Qq hr.units) (by rfl) T.zav UF (za (pvS 1) zc)))))),?_⟩
  refine⟨JJ,fun k0 hk0=>?_⟩;have s0:zq H (upd H k0 (.lst [])):=zd hk0;have hk00:upd H k0 (.lst []) k0=some (.lst []):=zb;generalize upd H k0 (.lst [])=H0 at *
  refine⟨_,rfl,p,l,rs,n,rfl,b.mono s0,R,fun dc wc H1 hdc zqN hcc s1=>⟨dc,rfl,⟨_,SqL.of zqN⟩,?_⟩⟩;have s01:=s0.trans s1;have b1:=b.mono s01;have hcc:Cel H1 wc (qv rs):=hcc;have o64:=zea R;refine j7 (K:=K) (a:=dc) (xs:=wc) (fun i σ H'=>∃(k:Addr) (ws:List V) (gs:List (List (Nat×Nat))) (v2:Option V),σ=[some (.ref p),some (.ref k),v2]/\zq H1 H'/\H' k=some (.lst ws)/\yO H' ws gs/\ws.Nodup/\(∀v∈ws,∃a,v=V.ref a/\H a=none)/\Parts.Good (clA rs) ((qv rs).take i) gs)
   ⟨k0,[],[],_,rfl,zq.refl _,s1 _ _ hk00,.nil,Uy,(fun v h=>nomatch h),Parts.Good.start _⟩ (fun i σ H' _ ⟨_,_,_,_,_,z,_⟩=>SqL.of (z _ _ zqN)) ?_ ?_
  ·rintro i x σ H2 hx ⟨k,ws,gs,v2,rfl,s2,hk,hG,wnd,wnew,G⟩;obtain⟨c,hc,ca,rfl,hca⟩:=Cel.get (Cel.mono s2 hcc) hx;have cm:=XY hc;obtain⟨t,sg,ht,hj,_,es⟩:=qi cm;obtain⟨l1,l2⟩:=JD R ht hj;have tk:(qv rs).take (i+1)=(qv rs).take i++[c]:=by
    rw[Xu,hc];rfl
   have lshut:(zM rs).length<=63:=by
    have:=Sv cm;lia
   have gB:∀x∈gs.flatten,x∈zM rs:=fun x hx=>by
    obtain⟨o,_,h2⟩:=G.from_ x hx;exact ZC h2
   refine⟨_,rfl,_,rfl,_,rfl,p,l,ca,rs,n,c,rfl,(b1.mono s2),R,hca,l1,l2,fun d ws1 H3 hd hd3 hc3 s3=>?_⟩;have s03:=s01.trans (s2.trans s3);refine⟨k,d,ws,ws1,gs,clA rs c,zM rs,rfl,s3 _ _ hk,hG.mono s3,hd3,hc3,zeb rs c,G.nd,(fun x hx=>ZC hx),gB,(fun x hx=>zhL R hx),lshut,X4 (Parts.Zp G.ne) (X4 (Parts.qc G.nd gB) lshut),(fun zj7 H' s'=>?_),fun hne d2 wa va wc2 H' hd2 hwa hd2' hsub hG' zru hmem s'=>?_⟩
   ·refine⟨k,ws,gs,_,rfl,s2.trans (s3.trans s'),s' _ _ (s3 _ _ hk),(hG.mono s3).mono s',wnd,wnew,?_⟩;rw[tk];exact G.skip zj7
   ·refine⟨d2,_,_,_,rfl,s2.trans (s3.trans s'),hd2',hG',?_,(fun v hv=>?_),?_⟩
    ·rw[Ww];refine⟨wnd.sublist hsub,by simp,fun a ha b hb e=>?_⟩;have hb':b=V.ref wa:=by simpa using hb
     subst e;obtain⟨a',us',e1,e2⟩:=yO.some (hG.mono s3) a (hsub.subset ha);rw[hb'] at e1;injection e1 with e1
     rw[<- e1,hwa] at e2;cases e2
    ·rcases XO.mp hv with hv | hv
     ·exact wnew v (hsub.subset hv)
     ·have hb':v=V.ref wa:=by simpa using hv
      exact⟨wa,hb',s03.free hwa⟩
    ·rw[tk];exact zhJ G hne (zeb rs c) zru hmem
  ·rintro σ H2 ⟨k,ws,gs,v2,rfl,s2,hk,hG,wnd,wnew,G⟩;rw[hcc.length,Xy] at G;have gsh:∀x∈gs.flatten,x∈zM rs:=fun x hx=>by
    obtain⟨o,_,h2⟩:=G.from_ x hx;exact ZC h2
   have wl:gs.length<=63:=by
    cases gs with
    | nil=>exact W4 _
    | cons g r =>
     have m1:=head_mem (G.ne g XT);obtain⟨o,ho,_⟩:=G.from_ _ (WI.mpr ⟨g,XT,m1⟩);have:=Sv ho;have h3:=X4 (Parts.Zp G.ne) (Parts.qc (b:=zM rs) G.nd gsh);lia
   refine⟨_,rfl,k,ws,_,rfl,SqL.of hk,zlK hG,(by rw[hG.length];lia),fun d us' ks' hd hl zec zqO pw=>?_⟩;have s3:=zd (o:=.lst us') hd;obtain⟨ds,rfl,pg⟩:=zbj zec;have G':=G.perm pg;refine q d us' ds _ ((s01.trans s2).free hd) zb ((zlL hl).mono s3) (pw.nodup_iff.mpr wnd) (fun v hv=>?_) G' (zlM zqO G'.ne (zbi G'.ne G'.nd)) ((s01.trans s2).trans s3);have hv':=pw.mem_iff.mp hv;obtain⟨a,e1,e2⟩:=wnew v hv';obtain⟨a',us',e3,e4⟩:=yO.some hG v hv';refine⟨a,e1,e2,fun z=>?_⟩;rw[e1] at e3;injection e3 with e3
   rw[<- e3,z,hd] at e4;cases e4
def pD (p:Int×Int):V8:=.tuple [.int p.1,.int p.2]
theorem zpx (p q:Int×Int):W2 (pD p) (pD q)=decide (p=q):=PySem.SeqAt.zdM p q
def PR (H:Hp)(v:V)(p:Int×Int):Prop:=∃a,v=V.ref a/\H a=some (.tup [.int p.1,.int p.2])
theorem PR.mono {H H':Hp}(s:zq H H'){v:V}{p:Int×Int}(h:PR H v p):PR H' v p:=let ⟨a,e,h⟩:=h;⟨a,e,s _ _ h⟩
theorem qp {H H':Hp}(s:zq H H'){us:List V}{ps:List (Int×Int)}(hp:ju H us ps):ju H' us ps:=by
 induction hp with
 | nil=>exact .nil
 | cons h _ ih =>
  exact .cons (PR.mono s h) ih
theorem zgp {H:Hp}:∀{us:List V} {ps:List (Int×Int)} {i:Nat} {v:V},ju H us ps->us[i]?=some v->∃p,ps[i]?=some p/\PR H v p
 | _,_,_,_,.nil,e=>by simp at e
 | _,_,0,_,.cons r _,e=>by
  simp at e;subst e;exact⟨_,rfl,r⟩
 | _,_,i+1,v,.cons _ t,e=>by
  obtain⟨c,h1,h2⟩:=zgp (i:=i) (v:=v) t (by simpa using e);exact⟨c,by simpa using h1,h2⟩
theorem yd {H:Hp}{us:List V}{ps:List (Int×Int)}(h:ju H us ps):us.length=ps.length:=Paired.length h
theorem PR.rdv {K:X0}{H:Hp}{v:V}{p:Int×Int}(h:PR H v p):Rdv K H v (pD p):=by
 obtain⟨a,rfl,h⟩:=h;exact .tup (SqT.of h) (.cons (.int _) (.cons (.int _) .nil))
theorem YH {K:X0}{H:Hp}{us:List V}{ps:List (Int×Int)}(hp:ju H us ps):yQ K H us (ps.map pD):=by
 induction hp with
 | nil=>exact .nil
 | cons h _ ih =>
  exact .cons (PR.rdv h) ih
theorem QM:∀ps:List (Int×Int),Wa (ps.map pD)=true
 | []=>rfl
 | p::r=>by
  show (U0 (pD p)&&Wa (r.map pD))=true;rw[QM r];rfl
theorem zcu:∀ps:List (Int×Int),Wl (ps.map pD)<=1
 | []=>W4 _
 | p::r=>by
  show max (PyData.depth (pD p)) (Wl (r.map pD))<=1;have:=zcu r;have e:PyData.depth (pD p)=1:=rfl;lia
theorem zpy (ps:List (Int×Int))(p:Int×Int):(ps.map pD).any (fun z=>W2 z (pD p))=ps.any fun z=>decide (z=p):=by
 rw[UM];congr 1;funext z;exact zpx z p
theorem zhM (ps:List (Int×Int))(c:Nat×Nat):(ps.map pD).any (fun z=>W2 z (zu c))=ps.any fun z=>decide (z=toI c):=zpy ps (toI c)
theorem zlN {H:Hp}{a z:Addr}{o o':HO}(h:H a=some o)(hz:H z=some o')(hne:o≠o'):a≠z:=fun e=>by
 subst e;rw[h] at hz;exact hne (Option.some.inj hz)
theorem znz {H:Hp}{z:Addr}{ys ys':List V}(hz:H z=some (.lst ys)){v:V}{p:Int×Int}(h:PR H v p):PR (upd H z (.lst ys')) v p:=by
 obtain⟨a,e,h⟩:=h;refine⟨a,e,?_⟩;rw[zf (zlN h hz (fun z=>nomatch z))];exact h
theorem jH {H:Hp}{z:Addr}{ys ys':List V}(hz:H z=some (.lst ys)){us:List V}{ps:List (Int×Int)}(hp:ju H us ps):ju (upd H z (.lst ys')) us ps:=by
 induction hp with
 | nil=>exact .nil
 | cons h _ ih =>
  exact .cons (znz hz h) ih
def qF (N:Addr->Prop)(H:Hp):List V->List (List (Int×Int))->Prop:=WU fun v k=>∃a ws,v=V.ref a/\N a/\H a=some (.lst ws)/\ju H ws k
theorem zE {N:Addr->Prop}{H H':Hp}(s:zq H H'){us:List V}{ks:List (List (Int×Int))}(hp:qF N H us ks):qF N H' us ks:=by
 induction hp with
 | nil=>exact .nil
 | cons q _ ih =>
  obtain⟨a,ws,e,n,h,t⟩:=q;exact .cons ⟨a,ws,e,n,s _ _ h,qp s t⟩ ih
theorem jV {N M:Addr->Prop}{H:Hp}(w:∀a,N a->M a){us:List V}{ks:List (List (Int×Int))}(hp:qF N H us ks):qF M H us ks:=by
 induction hp with
 | nil=>exact .nil
 | cons q _ ih =>
  obtain⟨a,ws,e,n,h,t⟩:=q;exact .cons ⟨a,ws,e,w a n,h,t⟩ ih
theorem qZ {N:Addr->Prop}{H:Hp}{z:Addr}{ys ys':List V}(hz:H z=some (.lst ys))(w:∀a,N a->a≠z){us:List V}{ks:List (List (Int×Int))}(hp:qF N H us ks):qF N (upd H z (.lst ys')) us ks:=by
 induction hp with
 | nil=>exact .nil
 | cons q _ ih =>
  obtain⟨a,ws,e,n,h,t⟩:=q;exact .cons ⟨a,ws,e,n,by rw[zf (w a n)];exact h,jH hz t⟩ ih
theorem jI {N:Addr->Prop}{H:Hp}{us:List V}{ks:List (List (Int×Int))}{us':List V}{ks':List (List (Int×Int))}(h:qF N H us ks)(k:qF N H us' ks'):qF N H (us++us') (ks++ks'):=ZP h k
theorem qU {N:Addr->Prop}{H:Hp}{us:List V}{ks:List (List (Int×Int))}(h:qF N H us ks):us.length=ks.length:=Paired.length h
theorem xM {N:Addr->Prop}{H:Hp}{us:List V}{ks:List (List (Int×Int))}{i:Nat}{v:V}(h:qF N H us ks)(e:us[i]?=some v):∃k a ws,ks[i]?=some k/\v=V.ref a/\N a/\H a=some (.lst ws)/\ju H ws k:=by
 obtain⟨k,h1,a,ws,h2⟩:=zbc h e;exact⟨k,a,ws,h1,h2⟩
theorem zj8 {N:Addr->Prop}{H:Hp}{us:List V}{ks:List (List (Int×Int))}(hp:qF N H us ks):WU (GS.LstAt H) us ks:=by
 induction hp with
 | nil=>exact .nil
 | cons q _ ih =>
  obtain⟨a,ws,e,_,h,t⟩:=q;exact .cons ⟨a,ws,e,h,t⟩ ih
theorem zlO {N:Addr->Prop}{H:Hp}{us:List V}{ks:List (List (Int×Int))}(hp:WU (GS.LstAt H) us ks)(n:∀v∈us,∃a,v=V.ref a/\N a):qF N H us ks:=by
 induction hp with
 | nil=>exact .nil
 | cons q _ ih =>
  obtain⟨a,ws,e,h,t⟩:=q;obtain⟨b,e2,n2⟩:=n _ XT;subst e;cases e2;exact .cons ⟨_,ws,rfl,n2,h,t⟩ (ih fun v hv=>n v (XR _ hv))
theorem Y8 {N:Addr->Prop}{H:Hp}{us:List V}{ks:List (List (Int×Int))}{v:V}(h:qF N H us ks)(e:v∈us):∃a ws,v=V.ref a/\N a/\H a=some (.lst ws):=by
 obtain⟨k,_,a,ws,h1,h2,h3,_⟩:=zkI h e;exact⟨a,ws,h1,h2,h3⟩
theorem zaz {H:Hp}{us:List V}{ps:List (Int×Int)}{us':List V}{ps':List (Int×Int)}(h:ju H us ps)(k:ju H us' ps'):ju H (us++us') (ps++ps'):=ZP h k
def nearF (rs:List Str)(c x:Nat×Nat):Bool:=(zH rs c).any fun z=>decide (z=x)
def jy (rs:List Str)(c:Nat×Nat):Int:=((Cells.sgn (codes rs) c:Nat):Int)-48
theorem zj9 (rs:List Str)(c:Nat×Nat):(zH rs c).Nodup:=(j3 (Cells.Zn _ 0 (codes rs))).sublist W1
theorem zlP {rs:List Str}{o:Nat×Nat}{q:List (Nat×Nat)}(hq:q.Nodup):((zH rs o).filter fun x=>q.any fun z=>decide (z=x)).length=Grow.cnt (nearF rs) o q:=by
 unfold Grow.cnt;refine OM ((Wd ((zj9 rs o).sublist W1) (hq.sublist W1)).mpr fun x=>?_);rw[X6,X6];unfold nearF;rw[WC,WC];constructor
 ·rintro⟨h1,y,hy,e⟩;have e2:y=x:=bh e;subst e2;exact⟨hy,y,h1,br rfl⟩
 ·rintro⟨h1,y,hy,e⟩;have e2:y=x:=bh e;subst e2;exact⟨hy,y,h1,br rfl⟩
def zgq (H:Hp)(rs:List Str)(v:V)(o:Nat×Nat):Prop:=∃a na wn,v=V.ref a/\H a=some (.tup [.int (jy rs o),.ref na])/\H na=some (.lst wn)/\Cel H wn (zH rs o)
def zgr (H:Hp)(rs:List Str)(rest:List (Nat×Nat))(v:V)(o:Nat×Nat):Prop:=∃a na wn,v=V.ref a/\H a=some (.tup [.int (jy rs o-((Grow.cnt (nearF rs) o rest:Nat):Int)),.int (jy rs o),.ref na])/\H na=some (.lst wn)/\Cel H wn (zH rs o)
theorem zka {H H':Hp}(s:zq H H'){rs:List Str}{vs:List V}{cs:List (Nat×Nat)}(hp:WU (zgq H rs) vs cs):WU (zgq H' rs) vs cs:=by
 induction hp with
 | nil=>exact .nil
 | cons q _ ih =>
  obtain⟨a,na,wn,e,h1,h3,h4⟩:=q;exact .cons ⟨a,na,wn,e,s _ _ h1,s _ _ h3,h4.mono s⟩ ih
theorem za1 {H H':Hp}(s:zq H H'){rs:List Str}{rest:List (Nat×Nat)}{vs:List V}{cs:List (Nat×Nat)}(hp:WU (zgr H rs rest) vs cs):WU (zgr H' rs rest) vs cs:=by
 induction hp with
 | nil=>exact .nil
 | cons q _ ih =>
  obtain⟨a,na,wn,e,h1,h3,h4⟩:=q;exact .cons ⟨a,na,wn,e,s _ _ h1,s _ _ h3,h4.mono s⟩ ih
theorem Zm {α β:Type}{R:α->β->Prop}{vs:List α}{cs:List β}{i:Nat}{v:α}(h:WU R vs cs)(e:vs[i]?=some v):∃c,cs[i]?=some c/\R v c:=zbc h e
theorem zhN {α β:Type}{R:α->β->Prop}{us:List α}{cs:List β}{us':List α}{cs':List β}(h:WU R us cs)(k:WU R us' cs'):WU R (us++us') (cs++cs'):=ZP h k
def zed (H H':Hp)(rs:List Str)(rest:List (Nat×Nat))(v:V)(o:Nat×Nat):Prop:=∃a na wn,v=V.ref a/\H' a=some (.tup [.int (jy rs o-((Grow.cnt (nearF rs) o rest:Nat):Int)),.int (jy rs o),.ref na])/\H na=some (.lst wn)/\Cel H wn (zH rs o)
theorem zhO {H H1 H2:Hp}(s:zq H1 H2){rs:List Str}{rest:List (Nat×Nat)}{vs:List V}{cs:List (Nat×Nat)}(hp:WU (zed H H1 rs rest) vs cs):WU (zed H H2 rs rest) vs cs:=by
 induction hp with
 | nil=>exact .nil
 | cons q _ ih =>
  obtain⟨a,na,wn,e,h1,h3,h4⟩:=q;exact .cons ⟨a,na,wn,e,s _ _ h1,h3,h4⟩ ih
theorem zcv {H H1:Hp}{z:Addr}{ys ys':List V}(hz:H1 z=some (.lst ys)){rs:List Str}{rest:List (Nat×Nat)}:∀{vs:List V} {cs:List (Nat×Nat)},WU (zed H H1 rs rest) vs cs->WU (zed H (upd H1 z (.lst ys')) rs rest) vs cs
 | _,_,.nil=>.nil
 | _,_,.cons ⟨a,na,wn,e,h1,h3,h4⟩ t=>.cons ⟨a,na,wn,e,by
   have ne:a≠z:=fun e=>by
    subst e;rw[h1] at hz;cases hz
   rw[zf ne];exact h1,h3,h4⟩ (zcv hz t)
theorem zhP {H H1:Hp}(s:zq H H1){rs:List Str}{rest:List (Nat×Nat)}{vs:List V}{cs:List (Nat×Nat)}(hp:WU (zed H H1 rs rest) vs cs):WU (zgr H1 rs rest) vs cs:=by
 induction hp with
 | nil=>exact .nil
 | cons q _ ih =>
  obtain⟨a,na,wn,e,h1,h3,h4⟩:=q;exact .cons ⟨a,na,wn,e,h1,s _ _ h3,h4.mono s⟩ ih
def znA:Sp:=fun vs H Q _=>∃(ta ca ra:Addr) (ut ur:List V) (rs:List Str) (O rest:List (Nat×Nat)) (c:Nat×Nat),vs=[.ref ta,.ref ca,.ref ra]/\H ta=some (.lst ut)/\WU (zgq H rs) ut O/\O.length<=64/\Rows bd.cps.toList rs/\H ca=some (.tup [.int (c.1:Nat),.int (c.2:Nat)])/\H ra=some (.lst ur)/\Cel H ur rest/\rest.Nodup /\
 ∀(d:Addr) (uw:List V) (H':Hp),H' d=some (.lst uw)->WU (zgr H' rs rest) uw (O.filter fun o=>nearF rs o c)->zq H H'->Q (.ref d) H'
def zqP:Sp:=fun vs H Q _=>∃(na pa:Addr) (un up:List V) (rs:List Str) (rest O q:List (Nat×Nat)),vs=[.ref na,.ref pa]/\H na=some (.lst un)/\WU (zgr H rs rest) un O/\H pa=some (.lst up)/\Cel H up q/\q.length<=64 /\
 ∀H':Hp,zq H H'->Q (.bl (O.all fun o=>Grow.zcn (nearF rs) (jy rs) rest o q)) H'
theorem xN:zD ["told","cell","rest","needs","number","near","left"] ["told","cell","rest"] (zj yj):=bz rfl rfl rfl rfl (by decide +kernel)
theorem zgs (T:Txt mg)(D:zm K mg "needs_at" yj ["told","cell","rest"] f fd):zY P w K mg base CX0 1 f fd ["told","cell","rest"] znA:=by
 refine D.F.ok xN (fun vs H Q E h=>?_) (fun cdv A outer s H vs Q E hr h=>?_)
 ·obtain⟨ta,ca,ra,ut,ur,rs,O,rest,c,rfl,_⟩:=h;rfl
 ·obtain⟨ta,ca,ra,ut,ur,rs,O,rest,c,rfl,hta,hT,ol,R,hca,hra,hcr,rnd,q⟩:=h;refine⟨_,(ze (zv (i:=3) xN.nd rfl (XH rfl) (qa zc))
   (ze (qg Xb rfl (zK (pvS 0)) (yP rfl (zL (zk (i:=4) xN.nd rfl (XH rfl)) (zL (zk (i:=5) xN.nd rfl (XH rfl)) jL))) (zh (qS (zQ (QG hr.units) (pvS 1) (pvS 5) (by rfl)) (ze (zv (i:=6) xN.nd rfl (XH rfl) (zp zJ (by rfl) T.jB WP (za (qj (N:=["place","rest"]) (src:=[none,some 2]) (zO.free (O:=(zj yj).names) (XN:=["told","cell","rest","needs","number","near","left"]) rfl rfl ⟨_,rfl⟩ rfl rfl (by decide +kernel) (by decide +kernel) (by decide +kernel) rfl (by decide +kernel)) rfl (zK (pvS 5)) (fun _ _ _ _ _=>(zk (i:=0) (by show WY (["place","rest"]:List Str);decide +kernel) rfl (XH rfl))) (fun _ _ _ _ _=>(qm (zQ (jQ (K:=K) (by rfl) hr.units) (pvS 0) (pvS 1) (by rfl)))) (fun _ _ _ _ _=>(pvS 0))) zc)))
   (zh (jK (yG WW Wr Wq jv (pvS 3) (za (j6 (za (zx JU (pvS 4) (pvS 6)) (za (pvS 4) (za (pvS 5) zc)))) zc))))) zV)))
   (zh (zF (pvS 3))))),?_⟩
  refine⟨JJ,fun d hd=>?_⟩;have s0:=zd (o:=.lst []) hd;refine⟨_,rfl,ta,rfl,⟨_,SqL.of (s0 _ _ hta)⟩,?_⟩;refine j7 (K:=K) (a:=ta) (xs:=ut) (fun i σ H'=>∃(uw:List V) (v4 v5 v6:Option V),σ=[some (.ref ta),some (.ref ca),some (.ref ra),some (.ref d),v4,v5,v6]/\zq H H'/\H' d=some (.lst uw)/\WU (zed H H' rs rest) uw ((O.take i).filter fun o=>nearF rs o c))
   ⟨[],_,_,_,rfl,s0,zb,.nil⟩ (fun i σ H' _ ⟨_,_,_,_,_,z,_⟩=>SqL.of (z _ _ hta)) ?_ ?_
  ·rintro i x σ H1 hx ⟨uw,v4,v5,v6,rfl,s1,hd1,hN⟩;obtain⟨o,ho,a,na,wn,rfl,ha0,hna0,hcn0⟩:=Zm hT hx;have ha:=s1 _ _ ha0;have hna:=s1 _ _ hna0;have hcn:=hcn0.mono s1;have tk:O.take (i+1)=O.take i++[o]:=by
    rw[Xu,ho];rfl
   refine⟨a,_,rfl,SqT.of ha,rfl,_,_,rfl,_,_,rfl,rfl,?_⟩;refine⟨_,rfl,_,rfl,zu c,(zH rs o).map zu,xJ.rdv ⟨ca,rfl,s1 _ _ hca⟩,.lst (SqL.of hna) (zhI hcn),rfl,zdn _,(by show 1<=60;decide),_,rfl,?_⟩;have ei:(if false=true then !((zH rs o).map zu).any (fun z=>W2 z (zu c)) else ((zH rs o).map zu).any fun z=>W2 z (zu c))=nearF rs o c:=xK _ _;rw[ei,tk,Xa];by_cases hp:nearF rs o c=true
   ·have ef:[o].filter (fun o=>nearF rs o c)=[o]:=by
     rw[W0,bw hp];rfl
    rw[ef];refine jJ hp ⟨_,rfl,na,rfl,⟨_,SqL.of hna⟩,fun z hz=>?_⟩;refine jd (K:=K) (a:=na) (xs:=wn) (fun a=>a≠z) ((zH rs o).map fun x=>if (rest.any fun z=>decide (z=x))=true then some (zu x) else none) (fun σ=>∃u0,σ=[u0,some (.ref ra)]) hz (fun _ h=>h) ⟨_,rfl⟩ (by rw[ZB];exact hcn.length.symm) (by rw[hcn.length];exact X4 (J9 R o) (by decide)) (SqL.of hna) ?_ ?_
    ·rintro m v u σ H2 hv hu s2 _ ⟨u1,rfl⟩ Y Z yes no;obtain⟨e,he,rc⟩:=Cel.get (hcn.mono s2) hv;have eo:=xT he hu;refine⟨_,rfl,_,rfl,zu e,rest.map zu,rc.rdv,.lst (SqL.of (s2 _ _ (s1 _ _ hra))) (zhI ((hcr.mono s1).mono s2)),rfl,zdn _,(by show 1<=60;decide),_,rfl,?_⟩;have ei:(if false=true then !(rest.map zu).any (fun z=>W2 z (zu e)) else (rest.map zu).any fun z=>W2 z (zu e))=rest.any fun z=>decide (z=e):=xK _ _;rw[ei];by_cases hp:(rest.any fun z=>decide (z=e))=true
     ·rw[bw hp] at eo;exact jJ hp ⟨_,rfl,yes _ _ _ _ eo ⟨_,rfl⟩ (zq.refl _) rc.rdn⟩
     ·rw[bq hp] at eo;exact jj (Xs.mpr hp) (no _ _ eo ⟨_,rfl⟩ (zq.refl _))
    rintro ys H2 s2 hz2 hr2;have er:((zH rs o).map fun x=>if (rest.any fun z=>decide (z=x))=true then some (zu x) else none).filterMap id=((zH rs o).filter fun x=>rest.any fun z=>decide (z=x)).map zu:=jf _ _ _;rw[er] at hr2;have yl:ys.length=Grow.cnt (nearF rs) o rest:=(zB.cel hr2).length.trans (zlP rnd);have hd2:=s2 _ _ hd1;refine⟨z,ys,rfl,.inl (SqL.of hz2),?_⟩;rw[yl];refine⟨_,rfl,.inl ⟨rfl,_,SqL.of hd2⟩,_,rfl,_,rfl,_,_,rfl,rfl,_,rfl,_,rfl,zln,fun tt htt=>?_⟩;have z3:=zd (o:=.tup [.int (jy rs o-((Grow.cnt (nearF rs) o rest:Nat):Int)),.int (jy rs o),.ref na]) htt;have s23:=s2.trans z3;have uwl:uw.length<=64:=by
     rw[Paired.length hN];refine X4 (Xc _ _) ?_;rw[Xw];lia
    have hd3:=z3 _ _ hd2;refine⟨d,uw,_,rfl,rfl,hd3,XA uwl (by decide),uw++[.ref tt],_,_,_,rfl,fun b e' h'=>?_,zb,zhN (zcv hd3 (zhO s23 hN)) (.cons ⟨tt,na,wn,rfl,?_,hna0,hcn0⟩ .nil)⟩
    ·rw[zf (zg h' hd)];exact s23 _ _ (s1 _ _ h')
    ·have ne:tt≠d:=fun e=>by
      subst e;rw[hd2] at htt;cases htt
     rw[zf ne,zb]
   ·have ef:[o].filter (fun o=>nearF rs o c)=[]:=by
     rw[W0,bq hp];rfl
    rw[ef,Xh];exact jj (Xs.mpr hp) ⟨uw,_,_,_,rfl,s1,hd1,hN⟩
  ·rintro σ H1 ⟨uw,v4,v5,v6,rfl,s1,hd1,hN⟩;rw[Paired.length hT,Xy] at hN;exact⟨_,rfl,q d uw H1 hd1 (zhP s1 hN) s1⟩
theorem Z6:zD ["needs","pick","least","most","near"] ["needs","pick"] (zj yT):=bz rfl rfl rfl rfl (by decide +kernel)
theorem zhQ (T:Txt mg)(D:zm K mg "may_fit" yT ["needs","pick"] f fd):zY P w K mg base CX0 1 f fd ["needs","pick"] zqP:=by
 refine D.F.ok Z6 (fun vs H Q E h=>?_) (fun cdv A outer s H vs Q E hr h=>?_)
 ·obtain⟨na,pa,un,up,rs,rest,O,p,rfl,_⟩:=h;rfl
 ·obtain⟨na,pa,un,up,rs,rest,O,p,rfl,hna,hN,hpa,hcp,pl,q⟩:=h;refine⟨_,(ze (qg Xb rfl (zK (pvS 0)) (yP rfl (zL (zk (i:=2) Z6.nd rfl (XH rfl)) (zL (zk (i:=3) Z6.nd rfl (XH rfl)) (zL (zk (i:=4) Z6.nd rfl (UU rfl)) jL)))) (zh (qS (Yo (zfB ze4 ze4 (pvS 2) (zp zJ (by rfl) T.jB WP (za (qj (N:=["cell","near"]) (src:=[none,some 4]) (zO.free (O:=(zj yT).names) (XN:=["needs","pick","least","most","near"]) rfl rfl ⟨_,rfl⟩ rfl rfl (by decide +kernel) (by decide +kernel) (by decide +kernel) rfl (by decide +kernel)) rfl (zK (pvS 1)) (fun _ _ _ _ _=>(zk (i:=0) (by show WY (["cell","near"]:List Str);decide +kernel) rfl (XH rfl))) (fun _ _ _ _ _=>(qm (zQ (jQ (K:=K) (by rfl) hr.units) (pvS 0) (pvS 1) (by rfl)))) (fun _ _ _ _ _=>(pvS 0))) zc)) (pvS 3))) (zh (zF Yn)) zV)))
   (zh (zF Yn))),?_⟩
  refine⟨_,rfl,na,rfl,⟨_,SqL.of hna⟩,?_⟩;refine j7 (K:=K) (a:=na) (xs:=un) (fun i σ H'=>∃(v2 v3 v4:Option V),σ=[some (.ref na),some (.ref pa),v2,v3,v4]/\zq H H'/\∀o∈O.take i,Grow.zcn (nearF rs) (jy rs) rest o p=true)
   ⟨_,_,_,rfl,zq.refl _,fun o ho=>by simp at ho⟩ (fun i σ H' _ ⟨_,_,_,_,z,_⟩=>SqL.of (z _ _ hna)) ?_ ?_
  ·rintro i x σ H1 hx ⟨v2,v3,v4,rfl,s1,hall⟩;obtain⟨o,ho,a,ra,wn,rfl,ha,hra,hcn⟩:=Zm (za1 s1 hN) hx;refine⟨a,_,rfl,SqT.of ha,rfl,_,_,rfl,_,_,rfl,_,_,rfl,rfl,?_⟩;refine⟨_,rfl,_,rfl,pa,rfl,⟨_,SqL.of (s1 _ _ hpa)⟩,fun z hz=>?_⟩;refine jd (K:=K) (a:=pa) (xs:=up) (fun a=>a≠z) (p.map fun x=>if nearF rs o x=true then some (zu x) else none) (fun σ=>∃u0,σ=[u0,some (.ref ra)]) hz (fun _ h=>h) ⟨_,rfl⟩ (by rw[ZB];exact hcp.length.symm) (by rw[hcp.length];exact X4 pl (by decide)) (SqL.of (s1 _ _ hpa)) ?_ ?_
   ·rintro m v u σ H2 hv hu s2 _ ⟨u1,rfl⟩ Y Z yes no;obtain⟨e,he,rc⟩:=Cel.get ((hcp.mono s1).mono s2) hv;have eo:=xT he hu;refine⟨_,rfl,_,rfl,zu e,(zH rs o).map zu,rc.rdv,.lst (SqL.of (s2 _ _ hra)) (zhI (hcn.mono s2)),rfl,zdn _,(by show 1<=60;decide),_,rfl,?_⟩;have ei:(if false=true then !((zH rs o).map zu).any (fun z=>W2 z (zu e)) else ((zH rs o).map zu).any fun z=>W2 z (zu e))=nearF rs o e:=xK _ _;rw[ei];by_cases hp:nearF rs o e=true
    ·rw[bw hp] at eo;exact jJ hp ⟨_,rfl,yes _ _ _ _ eo ⟨_,rfl⟩ (zq.refl _) rc.rdn⟩
    ·rw[bq hp] at eo;exact jj (Xs.mpr hp) (no _ _ eo ⟨_,rfl⟩ (zq.refl _))
   rintro ys H2 s2 hz2 hr2;have er:(p.map fun x=>if nearF rs o x=true then some (zu x) else none).filterMap id=(p.filter (nearF rs o)).map zu:=jf _ _ _;rw[er] at hr2;have yl:ys.length=Grow.cnt (nearF rs) o p:=(zB.cel hr2).length;refine⟨z,ys,rfl,.inl (SqL.of hz2),?_⟩;rw[yl];have om:=XY ho;have tk:O.take (i+1)=O.take i++[o]:=by
    rw[Xu,ho];rfl
   have bad:Grow.zcn (nearF rs) (jy rs) rest o p=false->Q (.bl false) H2:=fun e=>by
    have e2:(O.all fun o=>Grow.zcn (nearF rs) (jy rs) rest o p)=false:=Xs.mpr fun z=>by
     have:=WR.mp z o om;rw[e] at this;cases this
    rw[e2] at q;exact q _ (s1.trans s2)
   refine⟨_,_,rfl,rfl,_,rfl,?_⟩;by_cases h1:jy rs o-((Grow.cnt (nearF rs) o rest:Nat):Int)<=((Grow.cnt (nearF rs) o p:Nat):Int)
   ·rw[br h1];refine Qj ⟨_,rfl,_,_,rfl,rfl,_,rfl,?_⟩;by_cases h2:((Grow.cnt (nearF rs) o p:Nat):Int)<=jy rs o
    ·rw[br h2];refine Qi ⟨_,_,_,rfl,s1.trans s2,fun o' ho'=>?_⟩;rw[tk] at ho';rcases XO.mp ho' with ho' | ho'
     ·exact hall o' ho'
     ·have e:o'=o:=by simpa using ho'
      rw[e];exact Grow.yh.mpr ⟨h1,h2⟩
    ·rw[bg h2];exact Qj (bad (Xs.mpr fun z=>h2 (Grow.yh.mp z).2))
   ·rw[bg h1];refine Qi ⟨_,rfl,?_⟩;exact Qj (bad (Xs.mpr fun z=>h1 (Grow.yh.mp z).1))
  ·rintro σ H1 ⟨v2,v3,v4,rfl,s1,hall⟩;rw[Paired.length hN,Xy] at hall;have e:(O.all fun o=>Grow.zcn (nearF rs) (jy rs) rest o p)=true:=WR.mpr hall;rw[e] at q;exact q H1 s1
def toL (q:List (Nat×Nat)):List (Int×Int):=q.map toI
def zqQ:Sp:=fun vs H Q _=>∃(a l pa:Addr) (rs:List Str) (n:Int) (ups:List V) (part:List (Nat×Nat)),vs=[.ref a,.ref pa]/\qk H a l rs n/\Rows bd.cps.toList rs/\H pa=some (.lst ups)/\Cel H ups part/\part.Nodup/\part.length<=14 /\
 ∀(d:Addr) (ws:List V) (ks:List (List (Int×Int))) (H':Hp),H d=none->H' d=some (.lst ws)->qF (fun a=>H a=none/\a≠d) H' ws ks->ws.Nodup->ks.Perm (((Subs.subs part).filter (Grow.fits (nearF rs) (jy rs) (JE rs part) part)).map toL)->ks.Pairwise (fun p q=>PySem.SeqAt.ltL q p=false)->zq H H'->Q (.ref d) H'
def jz (rs:List Str)(part:List (Nat×Nat)):Nat->List (List (Nat×Nat))
 | 0=>[[]]
 | i+1=>match part[i]? with
  | some c=>(Subs.step (jz rs part i) c).filter (Grow.chk (nearF rs) (jy rs) (JE rs part) c (part.drop (i+1)))
  | none=>jz rs part i
theorem zcw {rs:List Str}{part:List (Nat×Nat)}{i:Nat}{c:Nat×Nat}(h:part[i]?=some c):jz rs part (i+1)=(Subs.step (jz rs part i) c).filter (Grow.chk (nearF rs) (jy rs) (JE rs part) c (part.drop (i+1))):=by
 show (match part[i]? with | some c=>_ | none=>_)=_;rw[h]
theorem zcx {rs:List Str}{part:List (Nat×Nat)}:∀(k i:Nat),part.length-i=k->i<=part.length->Grow.grow (nearF rs) (jy rs) (JE rs part) (jz rs part i) (part.drop i)=jz rs part part.length
 | 0,i,h,hi=>by
  have e:i=part.length:=by lia
  subst e;rw[List.drop_length];rfl
 | k+1,i,h,hi=>by
  have hl:i<part.length:=by lia
  rw[Wn hl];show Grow.grow _ _ _ ((Subs.step (jz rs part i) part[i]).filter _) (part.drop (i+1))=_;rw[<- zcw (XX hl)];exact zcx k (i+1) (by lia) (by lia)
theorem zee (rs:List Str)(part:List (Nat×Nat)):jz rs part part.length=(Subs.subs part).filter (Grow.fits (nearF rs) (jy rs) (JE rs part) part):=by
 rw[<- Grow.znm];exact(zcx (rs:=rs) (part:=part) part.length 0 (by lia) (W4 _)).symm
theorem Y9 (rs:List Str)(part:List (Nat×Nat)):∀i,(jz rs part i).length<=2^i
 | 0=>XW _
 | i+1=>by
  have ih:=Y9 rs part i;show (match part[i]? with | some c=>_ | none=>_:List (List (Nat×Nat))).length<=_;rw[Um];split
  ·refine X4 (Xc _ _) ?_;unfold Subs.step;rw[X5,ZB];lia
  ·lia
theorem zcy (rs:List Str)(part:List (Nat×Nat)):∀i,∀q∈jz rs part i,q.length<=i
 | 0,q,h=>by
  have e:q=[]:=by simpa[jz] using h
  rw[e];exact XW _
 | i+1,q,h=>by
  have ih:=zcy rs part i;cases e:part[i]? with
  | none =>
   have e2:jz rs part (i+1)=jz rs part i:=by
    show (match part[i]? with | some c=>_ | none=>_)=_;rw[e]
   rw[e2] at h;exact VL (ih q h)
  | some c =>
   rw[zcw e] at h;have h:=(X6.mp h).1;rcases XO.mp h with h | h
   ·exact VL (ih q h)
   ·obtain⟨p,hp,rfl⟩:=XU.mp h;rw[X5];exact TL (ih p hp)
def tD2 (rs:List Str)(c:Nat×Nat):V8:=.tuple [.int (jy rs c),.list ((zH rs c).map zu)]
theorem zlQ {N:Addr->Prop}{H:Hp}{rs:List Str}{v:V}{c:Nat×Nat}(h:Rdn N H v (tD2 rs c)):zgq H rs v c:=by
 unfold tD2 at h;generalize ed:(zH rs c).map zu=ds at h;cases h with
 | tup h t =>
  cases t with
  | cons b t =>
   cases b;cases t with
   | cons d t =>
    cases t;cases d with
    | lst n h1 h2 =>
     subst ed;exact⟨_,_,_,rfl,h,h1,zB.cel h2⟩
theorem zef {N:Addr->Prop}{H:Hp}{rs:List Str}:∀{cs:List (Nat×Nat)} {vs:List V},zB N H vs (cs.map (tD2 rs))->WU (zgq H rs) vs cs
 | [],_,.nil=>.nil
 | _::_,_,.cons h t=>.cons (zlQ h) (zef t)
theorem Z7 {σ:St}{H:Hp}{A B:Hp->Prop}(h:A H):zmV σ H fun b H4=>if b=true then A H4 else B H4:=by
 show if true=true then A H else B H
 rw[bw rfl];exact h
theorem zfb {F:List (List (Nat×Nat))}{j:Nat}{k:List (Int×Int)}(h:(F.map toL)[j]?=some k):∃q,F[j]?=some q/\k=toL q:=by
 rw[Xk] at h;cases e:F[j]? with
 | none=>rw[e] at h;cases h
 | some q =>
  rw[e] at h;cases h;exact⟨q,rfl,rfl⟩
theorem zlR (xs:List V)(i:Nat)(hi:i<xs.length):zbv xs (some (((i:Nat):Int)+1)) none=xs.drop (i+1):=by
 have e:HT.sIx xs.length 0 (some (((i:Nat):Int)+1))=i+1:=by
  have:=HT.zbJ xs.length 0 (i+1);rw[Tk] at this;rw[show (((i:Nat):Int)+1)=((i:Nat):Int)+((1:Nat):Int) from rfl,this];lia
 unfold zbv;rw[e];show (xs.drop (i+1)).take (xs.length-(i+1))=_;rw[WB (by rw[Vp];lia)]
theorem zgt {H:Hp}:∀{us:List V} {cs:List (Nat×Nat)} (i:Nat),Cel H us cs->Cel H (us.drop i) (cs.drop i)
 | _,_,0,h=>h
 | _,_,i+1,.nil=>.nil
 | _,_,i+1,.cons _ t=>zgt i t
theorem qz:zD ["board","part","told","found","place","cell","needs","grown"] ["board","part"] (zj qI):=bz rfl rfl rfl rfl (by decide +kernel)
theorem Yj {f1 f2 f3 f4 f5 f6 f7 f8:Addr}{fd1 fd2 fd3 fd4 fd5 fd6 fd7 fd8:Xp}(T:Txt mg)(D:zm K mg "part_layings" qI ["board","part"] f fd)(zR:zm K mg "around" jS ["board","cell"] f1 fd1)(zz:zm K mg "sign_at" qL ["board","cell"] f2 fd2)
  (zG:zm K mg "cells_of" qD ["board"] f3 fd3) (zC:zm K mg "open_cells" qy ["board"] f4 fd4) (qo:zm K mg "number_at" jT ["board","cell"] f5 fd5) (jg:zm K mg "numbers_of" jx ["board","part"] f6 fd6)
  (jW:zm K mg "needs_at" yj ["told","cell","rest"] f7 fd7) (yw:zm K mg "may_fit" yT ["needs","pick"] f8 fd8):zY P w K mg base CX0 4 f fd ["board","part"] zqQ:=by
 refine D.F.ok qz (fun vs H Q E h=>?_) (fun cdv A outer s H vs Q E hr h=>?_)
 ·obtain⟨a,l,pa,rs,n,ups,part,rfl,_⟩:=h;rfl
 ·obtain⟨a,l,pa,rs,n,ups,part,rfl,b,R,hpa,hcp,pnd,pl,q⟩:=h;have ul:=hcp.length;refine⟨_,(ze (qS (zQ zpj (zp zJ (by rfl) T.jB WP (za (pvS 1) zc)) (jt (v:=.int 14) (by rfl) T.zcr.choose_spec (by exact⟨_,rfl⟩)) (zT _)) (zh zks) zV)
   (ze (Je (i:=2) qz.nd rfl rfl (N:=["cell","board"]) (src:=[none,some 0]) (zO.free (O:=(zj qI).names) (XN:=["board","part","told","found","place","cell","needs","grown"]) rfl rfl ⟨_,rfl⟩ rfl rfl (by decide +kernel) (by decide +kernel) (by decide +kernel) rfl (by decide +kernel)) rfl (zK (pc0 (zdq T jg zR zz zG zC) hr jg (za (pvS 0) (za (pvS 1) zc)))) (fun _ _ _ _ _=>(zk (i:=0) (by show WY (["cell","board"]:List Str);decide +kernel) rfl (XH rfl))) (fun _ _ _ _ _=>qW) (fun _ _ _ _ _=>(j6 (za (pc0 (zaw T qo zz) hr qo (za (pvS 1) (za (pvS 0) zc))) (za (pc0 (Y6 T zR) hr zR (za (pvS 1) (za (pvS 0) zc))) zc)))))
   (ze (zv (i:=3) qz.nd rfl (XH rfl) (qa (za (qa zc) zc)))
   (ze (qg Xb rfl (Yt (by rfl) T.yt (za (pvS 1) zc)) (yP rfl (zL (zk (i:=4) qz.nd rfl (XH rfl)) (zL (zk (i:=5) qz.nd rfl (UU rfl)) jL))) (ze (zv (i:=6) qz.nd rfl (UU rfl) (pc0 (zgs T jW) hr jW (za (pvS 2) (za (pvS 5) (za (zb1 ziw (pvS 1) (zbK (zx qb (pvS 4) zo)) zit) zc)))))
   (ze (zv (i:=7) qz.nd rfl (XH rfl) (zx J5 (pvS 3) (qj (N:=["pick","cell"]) (src:=[none,some 5]) (zO.free (O:=(zj qI).names) (XN:=["board","part","told","found","place","cell","needs","grown"]) rfl rfl ⟨_,rfl⟩ rfl rfl (by decide +kernel) (by decide +kernel) (by decide +kernel) rfl (by decide +kernel)) rfl (zK (pvS 3)) (fun _ _ _ _ _=>(zk (i:=0) (by show WY (["pick","cell"]:List Str);decide +kernel) rfl (XH rfl))) (fun _ _ _ _ _=>qW) (fun _ _ _ _ _=>(zx J5 (pvS 0) (qa (za (pvS 1) zc)))))))
   (zh (Je (i:=3) qz.nd rfl rfl (N:=["pick","needs"]) (src:=[none,some 6]) (zO.free (O:=(zj qI).names) (XN:=["board","part","told","found","place","cell","needs","grown"]) rfl rfl ⟨_,rfl⟩ rfl rfl (by decide +kernel) (by decide +kernel) (by decide +kernel) rfl (by decide +kernel)) rfl (zK (pvS 7)) (fun _ _ _ _ _=>(zk (i:=0) (by show WY (["pick","needs"]:List Str);decide +kernel) rfl (XH rfl))) (fun _ _ _ _ _=>(qm (YV (K:=K) (by rfl) (pc0 (zhQ T yw) hr yw (za (pvS 1) (za (pvS 0) zc))) (fun _=>rfl)))) (fun _ _ _ _ _=>(pvS 0)))))))
   (zh (zF (zp (GS.Qq hr.units) (by rfl) T.zav UF (za (pvS 3) zc)))))))),?_⟩
  refine⟨_,rfl,pa,ups,rfl,.inl (SqL.of hpa),_,_,rfl,rfl,_,rfl,?_⟩;refine jj (bg (by lia)) ?_;refine⟨_,rfl,_,rfl,a,l,pa,rs,n,ups,part,rfl,b,R,hpa,hcp,fun d ws H1 hd hd1 hc1 s1=>⟨d,rfl,⟨_,SqL.of hd1⟩,fun z hz=>?_⟩⟩;have b1:=b.mono s1;have nl:(JE rs part).length<=64:=X4 (Xc _ _) (jG (p:=Yi) R);refine jd (K:=K) (a:=d) (xs:=ws) (fun a=>a≠z) ((JE rs part).map fun c=>some (tD2 rs c)) (fun σ=>∃u0,σ=[u0,some (.ref a)]) hz (fun _ h=>h) ⟨_,rfl⟩ (by rw[ZB];exact hc1.length.symm) (by rw[hc1.length];exact X4 nl (by decide)) (SqL.of hd1) ?_ ?_
  ·rintro k x o σ H2 hx ho s2 hzn ⟨u0,rfl⟩ Y Z yes no;obtain⟨y,hy,r1⟩:=Cel.get hc1 hx;have eo:=xT hy ho;have yo:y∈qv rs:=(X6.mp (XY hy)).1;obtain⟨t,sg,ht,hj,hop,es⟩:=qi yo;obtain⟨ya,rfl,hya⟩:=r1;obtain⟨l1,l2⟩:=JD R ht hj;obtain⟨o1,o2⟩:=zaZ (ziZ R ht hj) hop;have b2:=b1.mono s2;have hya2:=s2 _ _ hya;refine zac ⟨_,rfl,_,rfl,a,l,ya,rs,n,y.1,y.2,t,sg,rfl,b2,hya2,ht,hj,R.tlen ht,o1,o2,_,rfl,_,rfl,a,l,ya,rs,n,y.1,y.2,rfl,b2,R,hya2,l1,l2,fun d2 ws2 H3 hd2 hd3 hc2 s3=>⟨ZV,fun tt htt=>?_⟩⟩;have s4:=zd (o:=.tup [.int (((sg:Nat):Int)-48),.ref d2]) htt;have en:jy rs y=((sg:Nat):Int)-48:=by
    unfold jy;rw[es]
   refine yes _ _ _ _ eo ⟨_,rfl⟩ (s3.trans s4) (.tup zb (.cons ?_ (.cons (.lst (fun e=>hzn (e ▸ hd2)) (s4 _ _ hd3) (Cel.rdn (hc2.mono s4))) .nil)));rw[en];exact .int _
  rintro ut H2 s2 hz2 hr2;rw[Zx] at hr2;have hT:=zef hr2;have s02:=s1.trans s2;refine⟨JJ,fun e0 he0=>⟨sz_1,fun f0 hf0=>?_⟩⟩;have y1:=zd (o:=.lst []) he0;have y2:=zd (o:=.lst [.ref e0]) hf0;have y12:=y1.trans y2;have hL0:qF (fun a=>H2 a=none) (upd (upd H2 e0 (.lst [])) f0 (.lst [.ref e0])) [.ref e0] ([[]]:List (List (Int×Int))):=.cons ⟨e0,[],rfl,he0,y2 _ _ zb,.nil⟩ .nil;have hf3:upd (upd H2 e0 (.lst [])) f0 (.lst [.ref e0]) f0=some (.lst [.ref e0]):=zb;generalize upd (upd H2 e0 (.lst [])) f0 (.lst [.ref e0])=H3 at *
  have hpa2:=s02 _ _ hpa;refine⟨_,rfl,pa,rfl,⟨_,SqL.of (y12 _ _ hpa2)⟩,?_⟩;refine YW (K:=K) (l:=pa) (xs:=ups) (fun i σ H'=>∃(fa:Addr) (fs:List V) (v4 v5 v6 v7:Option V),σ=[some (.ref a),some (.ref pa),some (.ref z),some (.ref fa),v4,v5,v6,v7]/\zq H2 H'/\H' fa=some (.lst fs)/\qF (fun a=>H2 a=none) H' fs ((jz rs part i).map toL)/\fs.Nodup)
   ⟨f0,_,_,_,_,_,rfl,y12,hf3,hL0,by simp⟩ (fun i σ H' _ ⟨_,_,_,_,_,_,_,y,_⟩=>SqL.of (y _ _ hpa2)) ?_ ?_
  ·rintro i x tt σ H4 hx htt ⟨fa,fs,v4,v5,v6,v7,rfl,s4,hfa,hL,hnd⟩;obtain⟨c,hc,ca,rfl,hca⟩:=Cel.get ((hcp.mono s02).mono s4) hx;have il:=(X2.mp hx).1;have z5:=zd (o:=.tup [.int (i:Nat),.ref ca]) htt;refine⟨tt,_,rfl,SqT.of zb,rfl,_,_,rfl,_,_,rfl,rfl,?_⟩;have s5:=s4.trans z5;have hca5:=z5 _ _ hca;have hfa5:=z5 _ _ hfa;have hL5:=zE z5 hL;generalize upd H4 tt (.tup [.int (i:Nat),.ref ca])=H5 at *
   refine⟨_,rfl,_,rfl,_,rfl,_,rfl,_,_,rfl,rfl,_,rfl,pa,ups,rfl,SqL.of (s5 _ _ hpa2),fun x1 hx1=>?_⟩;have e1:=zlR ups i il;rw[e1] at *
   have z6:=zd (o:=.lst (ups.drop (i+1))) hx1;have s6:=s5.trans z6;refine⟨z,ca,x1,ut,ups.drop (i+1),rs,JE rs part,part.drop (i+1),c,rfl,s6 _ _ hz2,zka s6 hT,nl,R,z6 _ _ hca5,zb,zgt _ ((hcp.mono s02).mono s6),pnd.sublist (Rs _ _),fun nd un H6 zrv hN s7=>?_⟩;have s56:=z6.trans s7;have s26:=s5.trans s56;have hfa6:=s56 _ _ hfa5;have hL6:=zE s56 hL5;have hca6:=s56 _ _ hca5;have i14:i<=13:=by lia
   have fl:fs.length<=8192:=by
    rw[qU hL,ZB];exact X4 (Y9 rs part i) (VS (by decide) i14)
   have dp:=zcy rs part i;have eG:=zcw (rs:=rs) hc;have gl:=Y9 rs part i;generalize jz rs part i=F at *
   refine⟨_,rfl,_,rfl,fa,rfl,⟨_,SqL.of hfa6⟩,fun y hy=>?_⟩;refine qf (K:=K) (a:=fa) (xs:=fs) (fun j σ' H'=>∃(u0:Option V) (ys:List V),σ'=[u0,some (.ref ca)]/\zq H6 H'/\H' y=some (.lst ys)/\qF (fun a=>H6 a=none/\a≠y) H' ys (((F.take j).map (·++[c])).map toL)/\ys.Nodup)
    ⟨_,[],rfl,zd hy,zb,.nil,Uy⟩ (fun j σ' H' _ ⟨_,_,_,z,_⟩=>SqL.of (z _ _ hfa6)) ?_ ?_
   ·rintro j v σ' H7 hv ⟨u0,ys,rfl,s8,hy7,hL7,nd7⟩;obtain⟨k,a1,w1,hk,rfl,an,ha1,t1⟩:=xM hL6 hv;obtain⟨q1,hq1,rfl⟩:=zfb hk;have kd:=dp q1 (XY hq1);have wl:w1.length=q1.length:=(yd t1).trans (ZB _);have tj:((F.take (j+1)).map (·++[c])).map toL=((F.take j).map (·++[c])).map toL++[toL q1++[toI c]]:=by
     rw[Xu,hq1,XC,XC];simp[toL]
    rw[tj];unfold yE;refine Z7 ?_;refine⟨_,rfl,_,rfl,sz_1,fun t2 ht2=>?_⟩;have y5:=zd (o:=.lst [.ref ca]) ht2;refine⟨a1,t2,w1,[.ref ca],rfl,rfl,y5 _ _ (s8 _ _ ha1),zb,X4 (show w1.length+1<=100 by lia) (by decide),fun t3 ht3=>?_⟩;have y6:=zd (o:=.lst (w1++[.ref ca])) ht3;have y56:=y5.trans y6;have h6:upd (upd H7 t2 (.lst [.ref ca])) t3 (.lst (w1++[.ref ca])) t3=some (.lst (w1++[.ref ca])):=zb;have tz:t3≠y:=fun e=>by
     subst e;rw[y5 _ _ hy7] at ht3;cases ht3
    have n4:=y5.free ht3;have n3:=s8.free n4;have c1:ju (upd (upd H7 t2 (.lst [.ref ca])) t3 (.lst (w1++[.ref ca]))) [.ref ca] [toI c]:=.cons ⟨ca,rfl,y56 _ _ (s8 _ _ hca6)⟩ .nil;have tw6:=zaz (qp (s8.trans y56) t1) c1;generalize upd (upd H7 t2 (.lst [.ref ca])) t3 (.lst (w1++[.ref ca]))=H8 at *
    have hy8:=y56 _ _ hy7;have yl:ys.length<=8192:=by
     rw[qU hL7,ZB,ZB,Xw];have:=qU hL;rw[ZB] at this;lia
    refine⟨ys,hy8,XA yl (by decide),_,ys++[.ref t3],rfl,fun b' o e=>?_,zb,jI (qZ hy8 (fun a h=>h.2) (zE y56 hL7)) (.cons ⟨t3,w1++[.ref ca],rfl,⟨n3,tz⟩,by rw[zf tz];exact h6,jH hy8 tw6⟩ .nil),?_⟩
    ·rw[zf (zg e hy)];exact y56 _ _ (s8 _ _ e)
    ·refine Ww.mpr ⟨nd7,by simp,fun u hu u' hu' e=>?_⟩;obtain⟨b',wb,rfl,_,hb⟩:=Y8 hL7 hu;have e2:u'=.ref t3:=by simpa using hu'
     rw[e2] at e;cases e;rw[hb] at n4;cases n4
   rintro σ' H7 ⟨u0,ys,rfl,s8,hy7,hL7,nd7⟩;have fsl:fs.length=F.length:=(qU hL).trans (ZB _);rw[fsl,Xy] at hL7;have yl:ys.length<=8192:=by
    rw[qU hL7,ZB,ZB];lia
   refine⟨fa,y,fs,ys,rfl,rfl,s8 _ _ hfa6,hy7,X4 (SL fl yl) (by decide),fun g hg=>?_⟩;have y9:=zd (o:=.lst (fs++ys)) hg;have s27:=s26.trans s8;have s28:=s27.trans y9;have hg8:upd H7 g (.lst (fs++ys)) g=some (.lst (fs++ys)):=zb;have hLg:qF (fun a=>H2 a=none) (upd H7 g (.lst (fs++ys))) (fs++ys) ((Subs.step F c).map toL):=by
    unfold Subs.step;rw[XC];exact jI (zE (s8.trans y9) hL6) (zE y9 (jV (fun a h=>s26.free h.1) hL7))
   have gnd:(fs++ys).Nodup:=by
    refine Ww.mpr ⟨hnd,nd7,fun u hu u' hu' e=>?_⟩;obtain⟨b',wb,rfl,_,hb⟩:=Y8 hL6 hu;obtain⟨b2,wb2,rfl,hb2,_⟩:=Y8 hL7 hu';cases e;rw[hb] at hb2;cases hb2.1
   have hnd8:=(s8.trans y9) _ _ zrv;have hN8:=za1 (s8.trans y9) hN;have gll:(fs++ys).length<=16384:=by
    rw[X5];lia
   have dps:∀q∈Subs.step F c,q.length<=64:=fun q hq=>by
    rcases XO.mp hq with hq | hq
    ·have:=dp q hq;lia
    ·obtain⟨p',hp',rfl⟩:=XU.mp hq;have:=dp p' hp';rw[X5];show p'.length+1<=64;lia
   generalize fs++ys=gs at *
   generalize Subs.step F c=S at *
   generalize upd H7 g (.lst gs)=H8 at *
   refine⟨_,rfl,g,rfl,⟨_,SqL.of hg8⟩,fun y2 hy2=>?_⟩;refine qf (K:=K) (a:=g) (xs:=gs) (fun j σ' H'=>∃(u0:Option V) (ys:List V),σ'=[u0,some (.ref nd)]/\zq H8 H'/\H' y2=some (.lst ys)/\qF (fun a=>H2 a=none/\a≠y2) H' ys (((S.take j).filter (Grow.chk (nearF rs) (jy rs) (JE rs part) c (part.drop (i+1)))).map toL)/\ys.Sublist (gs.take j))
    ⟨_,[],rfl,zd hy2,zb,.nil,List.Sublist.slnil⟩ (fun j σ' H' _ ⟨_,_,_,z,_⟩=>SqL.of (z _ _ hg8)) ?_ ?_
   ·rintro j v σ' H9 hv ⟨u0,ys,rfl,s9,hz9,hL9,sb9⟩;obtain⟨k,a1,w1,hk,rfl,an,ha1,t1⟩:=xM hLg hv;obtain⟨q1,hq1,rfl⟩:=zfb hk;have tf:gs.take (j+1)=gs.take j++[.ref a1]:=by
     rw[Xu,hv];rfl
    refine⟨_,rfl,_,rfl,nd,a1,un,w1,rs,part.drop (i+1),_,q1,rfl,s9 _ _ hnd8,za1 s9 hN8,s9 _ _ ha1,(JZ t1).mono s9,dps q1 (XY hq1),fun H10 s10=>⟨_,rfl,?_⟩⟩;rw[tf];have hz10:=s10 _ _ hz9;show if Grow.chk (nearF rs) (jy rs) (JE rs part) c (part.drop (i+1)) q1=true then _ else _
    by_cases hlt:Grow.chk (nearF rs) (jy rs) (JE rs part) c (part.drop (i+1)) q1=true
    ·have e1:((S.take (j+1)).filter (Grow.chk (nearF rs) (jy rs) (JE rs part) c (part.drop (i+1)))).map toL=((S.take j).filter (Grow.chk (nearF rs) (jy rs) (JE rs part) c (part.drop (i+1)))).map toL++[toL q1]:=by
      rw[Xu,hq1,Xa,XC];simp[hlt]
     rw[e1];have az:a1≠y2:=zg ha1 hy2;have yl:ys.length<=16384:=by
      have:=sb9.length_le;rw[Xw] at this;lia
     refine jJ hlt ⟨_,rfl,ys,hz10,XA yl (by decide),_,ys++[.ref a1],rfl,fun b' o e=>?_,zb,jI (qZ hz10 (fun a h=>h.2) (zE s10 hL9)) (.cons ⟨a1,w1,rfl,⟨an,az⟩,by rw[zf az];exact s10 _ _ (s9 _ _ ha1),jH hz10 (qp (s9.trans s10) t1)⟩ .nil),List.Sublist.append sb9 (List.Sublist.refl _)⟩;rw[zf (zg e hy2)];exact s10 _ _ (s9 _ _ e)
    ·have e1:((S.take (j+1)).filter (Grow.chk (nearF rs) (jy rs) (JE rs part) c (part.drop (i+1)))).map toL=((S.take j).filter (Grow.chk (nearF rs) (jy rs) (JE rs part) c (part.drop (i+1)))).map toL:=by
      rw[Xu,hq1,Xa,XC];simp[hlt]
     rw[e1];exact jj (Xs.mpr hlt) ⟨_,ys,rfl,s9.trans s10,hz10,zE s10 hL9,sb9.trans (Tu _ _)⟩
   ·rintro σ' H9 ⟨u0,ys,rfl,s9,hz9,hL9,sb9⟩;have gsl:gs.length=S.length:=(qU hLg).trans (ZB _);rw[gsl,Xy,<- eG] at hL9;rw[gsl,<- gsl,Xy] at sb9;exact⟨y2,ys,_,_,_,_,rfl,s28.trans s9,hz9,jV (fun a h=>h.1) hL9,gnd.sublist sb9⟩
  ·rintro σ H4 ⟨fa,fs,v4,v5,v6,v7,rfl,s4,hfa,hL,hnd⟩;have gl:=Y9 rs part part.length;rw[ul,zee] at hL;rw[zee] at gl;have fl:fs.length<=16384:=by
    rw[qU hL,ZB];exact X4 gl (VS (by decide) pl)
   refine⟨_,rfl,fa,fs,_,rfl,SqL.of hfa,zj8 hL,by lia,fun d' us' ks' hd' hp' zec hpw hup=>?_⟩;have y5:=zd (o:=.lst us') hd';have s04:=s02.trans s4;refine q d' us' ks' _ (s04.free hd') zb (zE y5 (zlO hp' fun v hv=>?_)) (hup.nodup_iff.mpr hnd) zec hpw (s04.trans y5);obtain⟨a1,wa,e,na,ha⟩:=Y8 hL (hup.mem_iff.mp hv);exact⟨a1,e,s02.free na,zg ha hd'⟩
abbrev iL (xs:List Int):List V:=xs.map V.int
def yK (xs:List Int):V8:=.list (xs.map Si)
theorem zbk {K:X0}{H:Hp}:∀xs:List Int,yQ K H (iL xs) (xs.map Si)
 | []=>.nil
 | x::r=>.cons (.int x) (zbk r)
theorem zgu {K:X0}{H:Hp}{a:Addr}{xs:List Int}(h:SqL K H a (iL xs)):Rdv K H (.ref a) (yK xs):=.lst h (zbk xs)
theorem lay_ints:∀xs:List Int,Wa (xs.map Si)=true
 | []=>rfl
 | x::r=>by
  show (U0 (.int x)&&Wa (r.map Si))=true;rw[lay_ints r];rfl
theorem zcz:∀xs:List Int,Wl (xs.map Si)=0
 | []=>rfl
 | x::r=>by
  show max (PyData.depth (.int x)) (Wl (r.map Si))=0;rw[zcz r];rfl
theorem za2 (xs:List Int):(yK xs).canLay0=true:=lay_ints xs
theorem zgv (xs:List Int):(yK xs).depth=1:=by
 show Wl (xs.map Si)+1=1;rw[zcz]
theorem zeg (xs ys:List Int):zfH (yK xs) (yK ys):=⟨za2 xs,za2 ys,by rw[zgv];decide⟩
theorem zcA (xs:List Int):W2 (yK xs) (yK xs)=true:=O8 _ (za2 xs)
theorem ints_get {xs:List Int}{i:Nat}{v:V}(h:(iL xs)[i]?=some v):∃x,xs[i]?=some x/\v=.int x:=by
 rw[Xk] at h;cases e:xs[i]? with
 | none=>rw[e] at h;cases h
 | some x =>
  rw[e] at h;cases h;exact⟨x,rfl,rfl⟩
theorem zi4 {xs:List Int}{i:Nat}{x:Int}(h:xs[i]?=some x):(iL xs)[i]?=some (.int x):=by
 rw[Xk,h];rfl
theorem zcB {n:Nat}{k:Int}(h0:0<=k)(h1:k<n):ixN n k=some k.toNat:=by
 unfold ixN;rw[bw h0,bw h1]
theorem znB (xs:List Int)(z:Int):iL (xs++[z])=iL xs++[.int z]:=by
 show UP V.int (xs++[z])=_;rw[XC];rfl
def Yl (c:Nat×Nat)(k:List (Int×Int)):Bool:=k.any fun z=>decide (z=toI c)
def zfc (rs:List Str)(part:List (Nat×Nat)):List (List (Int×Int)):=((Subs.subs part).filter (Grow.fits (nearF rs) (jy rs) (JE rs part) part)).map toL
def zqR:Sp:=fun vs H Q _=>∃(fa:Addr) (us:List V) (ks:List (List (Int×Int))) (N:Addr->Prop) (g:Nat),vs=[.ref fa,.int (g:Nat)]/\H fa=some (.lst us)/\qF N H us ks/\(∀k∈ks,k.length<=g)/\g<=64 /\
 ∀(d:Addr) (H':Hp),H d=none->H' d=some (.lst (iL (Cnt.JB g ks)))->zq H H'->Q (.ref d) H'
def zrw:Sp:=fun vs H Q _=>∃(a l pa:Addr) (rs:List Str) (n:Int) (ups:List V) (part:List (Nat×Nat)),vs=[.ref a,.ref pa]/\qk H a l rs n/\Rows bd.cps.toList rs/\H pa=some (.lst ups)/\Cel H ups part/\part.Nodup/\part.length<=14 /\
 ∀(d:Addr) (H':Hp),H d=none->H' d=some (.lst (iL (Cnt.JB part.length (zfc rs part))))->zq H H'->Q (.ref d) H'
theorem zgw (n:Nat):(WN n [V.int 0]).flatten=iL (WN n 0):=by
 induction n with
 | zero=>rfl
 | succ n ih =>
  rw[Vv,Wm,ih];rfl
theorem zgx {α:Type}:∀(cs:List α) (b:Nat),(Subs.pick cs b).length<=cs.length
 | [],_=>W4 _
 | c::r,b=>by
  have:=zgx r (b/2);show ((if b%2=1 then [c] else [])++Subs.pick r (b/2)).length<=r.length+1;rw[X5];split
  ·show 1+_<=_;lia
  ·show 0+_<=_;lia
theorem zlS {α:Type}{cs q:List α}(h:q∈Subs.subs cs):q.length<=cs.length:=by
 rw[Subs.YZ] at h;obtain⟨b,_,rfl⟩:=XU.mp h;exact zgx cs b
theorem zlT {rs:List Str}{part:List (Nat×Nat)}{k:List (Int×Int)}(h:k∈zfc rs part):k.length<=part.length:=by
 obtain⟨q1,h1,rfl⟩:=XU.mp h;show (q1.map toI).length<=_;rw[ZB];exact zlS (X6.mp h1).1
theorem QN:zD ["found","greatest","counts","laying"] ["found","greatest"] (zj Zv):=bz rfl rfl rfl rfl (by decide +kernel)
theorem zhR (T:Txt mg)(D:zm K mg "counted" Zv ["found","greatest"] f fd):zY P w K mg base CX0 1 f fd ["found","greatest"] zqR:=by
 refine D.F.ok QN (fun vs H Q E h=>?_) (fun cdv A outer s H vs Q E hr h=>?_)
 ·obtain⟨fa,us,ks,N,g,rfl,_⟩:=h;rfl
 ·obtain⟨fa,us,ks,N,g,rfl,hfa,hL,hk,g64,q⟩:=h;refine⟨_,(ze (zv (i:=2) QN.nd rfl (XH rfl) (zx zhb (qa (za zo zc)) (zx qb (pvS 1) zo)))
   (ze (qg Xb rfl (zK (pvS 0)) (zk (i:=3) QN.nd rfl (XH rfl)) (zh (zin (pvS 2) (zp zJ (by rfl) T.jB WP (za (pvS 3) zc)) zfL zo zku set_list)))
   (zh (zF (pvS 2))))),?_⟩
  refine⟨sz_1,fun l0 hl0=>?_⟩;have s0:zq H (upd H l0 (.lst [.int 0])):=zd hl0;refine⟨_,rfl,_,_,rfl,rfl,l0,_,_,rfl,rfl,zb,by lia,by lia,?_,fun p hp=>?_⟩
  ·exact X4 (show 1*((g:Int)+1).toNat<=120 by lia) (by decide)
  rw[show ((g:Int)+1).toNat=g+1 by lia,zgw,<- Cnt.zlr (α:=Int×Int)];have s1:=s0.trans (zd (o:=.lst (iL (Cnt.JB g ([]:List (List (Int×Int)))))) hp);have hp0:H p=none:=s0.free hp;refine⟨_,rfl,fa,rfl,⟨_,SqL.of (s1 _ _ hfa)⟩,?_⟩;refine j7 (K:=K) (a:=fa) (xs:=us) (fun i σ H'=>∃v3,σ=[some (.ref fa),some (.int (g:Nat)),some (.ref p),v3]/\zq H H'/\H' p=some (.lst (iL (Cnt.JB g (ks.take i)))))
   ⟨_,rfl,s1,zb⟩ (fun i σ H' _ ⟨_,_,y,_⟩=>SqL.of (y _ _ hfa)) ?_ ?_
  ·rintro i v σ H1 hv ⟨v3,rfl,s2,hp2⟩;obtain⟨k,a1,wa,hk1,rfl,_,ha1,t1⟩:=xM hL hv;have kl:=hk k (XY hk1);have wl:=yd t1;refine⟨_,rfl,_,rfl,a1,wa,rfl,.inl (SqL.of (s2 _ _ ha1)),p,_,_,_,rfl,rfl,SqL.of hp2,jP (by lia) (zi4 (Cnt.zco (n:=wa.length) _ (by lia))),_,_,rfl,rfl,p,_,_,_,rfl,rfl,hp2,zcB (by lia) (by rw[ZB,Cnt.zaq];lia),?_⟩;refine⟨_,rfl,fun c o e=>?_,?_⟩
   ·rw[zf (zg e hp0)];exact s2 _ _ e
   ·rw[zb,Xu,hk1];show _=some (HO.lst (iL (Cnt.JB g (ks.take i++[k]))));rw[Cnt.zj0 _ kl,wl];show some (HO.lst ((UP V.int _).set _ (V.int _)))=_;rw[<- Om];rfl
  ·rintro σ H1 ⟨v3,rfl,s2,hp2⟩;rw[qU hL,Xy] at hp2;exact⟨_,rfl,q p H1 hp0 hp2 s2⟩
theorem zcC:zD ["board","part"] ["board","part"] (zj xr):=bz rfl rfl rfl rfl (by decide +kernel)
theorem zcD {f1 f2 f3 f4 f5 f6 f7 f8 f9 f10:Addr}{fd1 fd2 fd3 fd4 fd5 fd6 fd7 fd8 fd9 fd10:Xp}(T:Txt mg)(D:zm K mg "part_counts" xr ["board","part"] f fd)(zR:zm K mg "around" jS ["board","cell"] f1 fd1)(zz:zm K mg "sign_at" qL ["board","cell"] f2 fd2)
  (zG:zm K mg "cells_of" qD ["board"] f3 fd3) (zC:zm K mg "open_cells" qy ["board"] f4 fd4) (qo:zm K mg "number_at" jT ["board","cell"] f5 fd5) (jg:zm K mg "numbers_of" jx ["board","part"] f6 fd6)
  (jW:zm K mg "needs_at" yj ["told","cell","rest"] f7 fd7) (yw:zm K mg "may_fit" yT ["needs","pick"] f8 fd8) (ja:zm K mg "part_layings" qI ["board","part"] f9 fd9) (Qa:zm K mg "counted" Zv ["found","greatest"] f10 fd10):zY P w K mg base CX0 5 f fd ["board","part"] zrw:=by
 refine D.F.ok zcC (fun vs H Q E h=>?_) (fun cdv A outer s H vs Q E hr h=>?_)
 ·obtain⟨a,l,pa,rs,n,ups,part,rfl,_⟩:=h;rfl
 ·obtain⟨a,l,pa,rs,n,ups,part,rfl,b,R,hpa,hcp,pnd,pl,q⟩:=h;refine⟨_,(zh (zF (pc0 (zhR T Qa) hr Qa (za (pc0 (Yj T ja zR zz zG zC qo jg jW yw) hr ja (za (pvS 0) (za (pvS 1) zc))) (za (zp zJ (by rfl) T.jB WP (za (pvS 1) zc)) zc))))),?_⟩;refine⟨_,rfl,_,rfl,a,l,pa,rs,n,ups,part,rfl,b,R,hpa,hcp,pnd,pl,fun d ws ks H1 hd hd1 hL _ hpm _ s1=>?_⟩;refine⟨_,rfl,pa,ups,rfl,.inl (SqL.of (s1 _ _ hpa)),d,ws,ks,_,ups.length,rfl,hd1,hL,fun k hk=>?_,?_,fun e H2 he he2 s2=>?_⟩
  ·rw[hcp.length];exact zlT (hpm.mem_iff.mp hk)
  ·rw[hcp.length];lia
  ·rw[hcp.length,Cnt.zj1 hpm] at he2;exact q e H2 (s1.free he) he2 (s1.trans s2)
def xO (rs:List Str)(g S:List (Nat×Nat)):Bool:=Grow.fits (nearF rs) (jy rs) (JE rs g) g S
theorem Qc {rs:List Str}{o x:Nat×Nat}:nearF rs o x=true↔x∈zH rs o:=Parts.ZY _ _
theorem zpz {rs:List Str}{x:Nat×Nat}(h:x∈zM rs):Cells.sgn (codes rs) x=63:=by
 obtain⟨t,k,ht,hj,hk,es⟩:=qi h;have:k=63:=by
  unfold qO at hk;simpa using hk
 rw[es,this]
theorem Z8 {rs:List Str}{o x:Nat×Nat}(hx:x∈zM rs):nearF rs o x=true↔x∈clA rs o:=by
 rw[Qc];constructor
 ·exact fun h=>X6.mpr ⟨h,br (zpz hx)⟩
 ·exact fun h=>(X6.mp h).1
theorem zfd {rs:List Str}{g:List (Nat×Nat)}{o:Nat×Nat}:o∈JE rs g↔o∈qv rs/\∃x∈g,nearF rs o x=true:=by
 unfold JE;rw[X6,UM,WC];refine and_congr_right fun _=>?_;constructor
 ·rintro⟨z,hz,h⟩;have h':(g.any fun x=>decide (x=z))=true:=h;exact⟨z,(Parts.ZY _ _).mp h',Qc.mpr hz⟩
 ·rintro⟨x,hx,h⟩;exact⟨x,Qc.mp h,(Parts.ZY _ _).mpr hx⟩
section
variable {rs:List Str}{gs:List (List (Nat×Nat))}(G:Parts.Good (clA rs) (qv rs) gs)
include G
theorem j4:∀c∈gs.flatten,c∈zM rs:=fun c hc=>by
 obtain⟨o,_,h⟩:=G.from_ c hc;exact ZC h
theorem znC {g:List (Nat×Nat)}(hg:g∈gs){o x:Nat×Nat}(ho:o∈JE rs g)(hx:x∈zM rs)(hn:nearF rs o x=true):x∈g:=by
 obtain⟨h1,y,hy,h2⟩:=zfd.mp ho;have hys:=j4 G y (WI.mpr ⟨g,hg,hy⟩);have hyc:=(Z8 hys).mp h2;obtain⟨g',hg',hall⟩:=G.cov o h1 (Uj hyc);have e:=Parts.zd3 G.nd hg' hg (hall y hyc) hy;rw[<- e];exact hall x ((Z8 hx).mp hn)
theorem zi5 {g:List (Nat×Nat)}(hg:g∈gs){o:Nat×Nat}(ho:o∈JE rs g){a:List (Nat×Nat)}(h:∀c∈a,c∈zM rs/\c ∉ g):Grow.cnt (nearF rs) o a=0:=by
 unfold Grow.cnt;rw[VW,V9];intro c hc hn;exact(h c hc).2 (znC G hg ho (h c hc).1 hn)
theorem zaA {g:List (Nat×Nat)}(hg:g∈gs):Tally.Loc (zM rs) (xO rs g) g:=by
 have key:∀S S':List (Nat×Nat),(∀o∈JE rs g,Grow.cnt (nearF rs) o S=Grow.cnt (nearF rs) o S')->xO rs g S=xO rs g S':=fun S S' h=>by
  unfold xO Grow.fits;rw[WO,WR,WR];constructor
  ·intro k o ho;have:=k o ho;rwa [h o (X6.mp ho).1] at this
  ·intro k o ho;have:=k o ho;rwa [<- h o (X6.mp ho).1] at this
 have app:∀(o:Nat×Nat) (a b:List (Nat×Nat)),Grow.cnt (nearF rs) o (a++b)=Grow.cnt (nearF rs) o a+Grow.cnt (nearF rs) o b:=fun o a b=>by
  unfold Grow.cnt;rw[Xa,X5]
 refine⟨fun a b h=>key _ _ fun o ho=>?_,fun a b h=>key _ _ fun o ho=>?_⟩
 ·rw[app,zi5 G hg ho h,VP]
 ·rw[app,zi5 G hg ho h,SS]
theorem zlU:(gs.map fun g=>Tally.tl g (xO rs g)).foldl Pour.Qk [1]=Tally.tl gs.flatten (Tally.Zs (xO rs) gs):=Tally.zly G.nd (j4 G) fun g hg=>zaA G hg
theorem zkb (i:Nat):((gs.take i).map fun g=>Tally.tl g (xO rs g)).foldl Pour.Qk [1]=Tally.tl (gs.take i).flatten (Tally.Zs (xO rs) (gs.take i)):=by
 have sub:(gs.take i).flatten.Sublist gs.flatten:=by
  have e:gs.flatten=(gs.take i).flatten++(gs.drop i).flatten:=by rw[<- WD,Ws]
  rw[e];exact Tu _ _
 exact Tally.zly (G.nd.sublist sub) (fun c hc=>j4 G c (sub.subset hc)) fun g hg=>zaA G (Wo hg)
theorem zcE (R:Rows bd.cps.toList rs):gs.flatten.length<=64:=by
 have h1:=Parts.qc G.nd (j4 G);have h2:=zea R;lia
end
theorem zkc (rs:List Str)(part:List (Nat×Nat)):Cnt.JB part.length (zfc rs part)=Tally.tl part (xO rs part):=by
 unfold zfc;rw[Tally.zlz part.length toL (fun k=>ZB _)];exact Tally.znv part _
def zkd (xs:List Int):Prop:=∀z∈xs,z.natAbs<2^8000
theorem znD {cs:List (Nat×Nat)}{p:List (Nat×Nat)->Bool}{k:Nat}(h:cs.length<=64):Tally.T cs p k<=2^64:=by
 refine X4 Pi ?_;rw[Subs.YZ,ZB,Xj];exact VS (by decide) h
theorem zhS {cs:List (Nat×Nat)}{p:List (Nat×Nat)->Bool}(h:cs.length<=64):zkd (Tally.tl cs p):=fun z hz=>by
 unfold Tally.tl at hz;obtain⟨k,_,rfl⟩:=XU.mp hz;rw[RI];exact XA (znD h) (O2 (by decide) (by decide))
def xP (rs:List Str)(S:List (Nat×Nat)):Bool:=((qv rs).filter fun o=>!(clA rs o).isEmpty).all fun o=>decide (((Grow.cnt (nearF rs) o S:Nat):Int)=jy rs o)
theorem Jk {rs:List Str}{S:List (Nat×Nat)}:xP rs S=true ↔ ∀o∈qv rs,clA rs o ≠ []->((Grow.cnt (nearF rs) o S:Nat):Int)=jy rs o:=by
 unfold xP;rw[WR];constructor
 ·intro h o ho hc;exact bh (h o (X6.mpr ⟨ho,by rw[WT];exact VO.mpr hc⟩))
 ·intro h o ho;obtain⟨h1,h2⟩:=X6.mp ho;rw[WT] at h2;exact br (h o h1 (VO.mp h2))
theorem za3 {rs:List Str}{gs:List (List (Nat×Nat))}(G:Parts.Good (clA rs) (qv rs) gs)(S:List (Nat×Nat)):Tally.Zs (xO rs) gs S=xP rs S:=by
 rw[WO,Jk];unfold Tally.Zs xO Grow.fits;rw[WR];constructor
 ·intro h o ho hc;obtain⟨x,hx⟩:=TJ _ hc;obtain⟨g,hg,hall⟩:=G.cov o ho hc;have hn:nearF rs o x=true:=(Z8 (ZC hx)).mpr hx;have:=h g hg;rw[WR] at this;exact bh (this o (X6.mpr ⟨zfd.mpr ⟨ho,x,hall x hx,hn⟩,WC.mpr ⟨x,hall x hx,hn⟩⟩))
 ·intro h g hg;rw[WR];intro o ho;obtain⟨h1,x,hx,hn⟩:=zfd.mp (X6.mp ho).1;have hxs:=j4 G x (WI.mpr ⟨g,hg,hx⟩);exact br (h o h1 (Uj ((Z8 hxs).mp hn)))
theorem zlV {rs:List Str}{gs:List (List (Nat×Nat))}(G:Parts.Good (clA rs) (qv rs) gs){c:Nat×Nat}:c∈gs.flatten↔c∈zM rs/\∃o∈qv rs,nearF rs o c=true:=by
 constructor
 ·intro h;obtain⟨o,ho,hc⟩:=G.from_ c h;have hs:=ZC hc;exact⟨hs,o,ho,(Z8 hs).mpr hc⟩
 ·rintro⟨hs,o,ho,hn⟩;have hc:=(Z8 hs).mp hn;obtain⟨g,hg,hall⟩:=G.cov o ho (Uj hc);exact WI.mpr ⟨g,hg,hall c hc⟩
def yp (rs:List Str)(S:List (Nat×Nat)):Bool:=(qv rs).all fun o=>decide (((Grow.cnt (nearF rs) o S:Nat):Int)=jy rs o)
theorem Z9 {rs:List Str}{S:List (Nat×Nat)}:yp rs S=true ↔ ∀o∈qv rs,((Grow.cnt (nearF rs) o S:Nat):Int)=jy rs o:=by
 unfold yp;rw[WR];exact⟨fun h o ho=>bh (h o ho),fun h o ho=>br (h o ho)⟩
theorem zcF (rs:List Str):Tally.Inv (yp rs):=fun a b e=>by
 rw[WO,Z9,Z9];have:∀o,Grow.cnt (nearF rs) o a=Grow.cnt (nearF rs) o b:=fun o=>(e.filter _).length_eq;constructor
 ·intro h o ho;rw[<- this o];exact h o ho
 ·intro h o ho;rw[this o];exact h o ho
theorem zlW {rs:List Str}:(Zy rs).isEmpty=true ↔ ∀o∈qv rs,clA rs o=[]->jy rs o=0:=by
 rw[Sg];unfold Zy jy;rw[V9];constructor
 ·intro h o ho hc;have:=h o (X6.mpr ⟨ho,by rw[hc];rfl⟩);rw[WT,SC] at this;rw[bh this];rfl
 ·intro h o ho;obtain⟨h1,h2⟩:=X6.mp ho;have:=h o h1 (Sg.mp h2);rw[WT,SC];exact br (by lia)
theorem zaB {rs:List Str}{S:List (Nat×Nat)}(hS:∀c∈S,c∈zM rs):yp rs S=((Zy rs).isEmpty&&xP rs S):=by
 have z:∀o,clA rs o=[]->Grow.cnt (nearF rs) o S=0:=fun o ho=>by
  unfold Grow.cnt;rw[VW,V9];intro c hc hn;have:=(Z8 (hS c hc)).mp hn;rw[ho] at this;cases this
 rw[WO,V6,Z9,zlW,Jk];constructor
 ·intro h;refine⟨fun o ho hc=>?_,fun o ho _=>h o ho⟩;rw[<- h o ho,z o hc];rfl
 ·rintro⟨h1,h2⟩ o ho;by_cases hc:clA rs o=[]
  ·rw[z o hc,h1 o ho hc];rfl
  ·exact h2 o ho hc
theorem zi6 {rs:List Str}{c o:Nat×Nat}(hc:c∈J8 rs)(ho:o∈qv rs):nearF rs o c=false:=by
 unfold J8 at hc;have h:=(X6.mp hc).2;rw[WT,UM,Ru] at h;exact Xs.mpr (h o ho)
theorem zgy {rs:List Str}{a b:List (Nat×Nat)}(hb:∀c∈b,c∈J8 rs):xP rs (a++b)=xP rs a:=by
 have e:∀o∈qv rs,Grow.cnt (nearF rs) o (a++b)=Grow.cnt (nearF rs) o a:=fun o ho=>by
  unfold Grow.cnt;rw[Xa,X5];have:b.filter (nearF rs o)=[]:=V9.mpr fun c hc hn=>by
   rw[zi6 (hb c hc) ho] at hn;cases hn
  rw[this];rfl
 rw[WO,Jk,Jk];constructor
 ·intro h o ho hc;rw[<- e o ho];exact h o ho hc
 ·intro h o ho hc;rw[e o ho];exact h o ho hc
theorem zcG {rs:List Str}{c:Nat×Nat}(h:c∈J8 rs):c∈zM rs:=(X6.mp h).1
theorem Yb (rs:List Str):(zM rs).Nodup:=j3 (Cells.Zn _ 0 (codes rs))
theorem Qd (rs:List Str):(J8 rs).Nodup:=(Yb rs).sublist W1
section
variable {rs:List Str}{gs:List (List (Nat×Nat))}(G:Parts.Good (clA rs) (qv rs) gs)
include G
theorem Qe {c:Nat×Nat}:c∈J8 rs↔c∈zM rs/\c ∉ gs.flatten:=by
 rw[zlV G];constructor
 ·intro h;refine⟨zcG h,?_⟩;rintro⟨_,o,ho,hn⟩;rw[zi6 h ho] at hn;cases hn
 ·rintro⟨h1,h2⟩;unfold J8;refine X6.mpr ⟨h1,?_⟩;rw[WT,UM,Ru];intro o ho hn;exact h2 ⟨h1,o,ho,hn⟩
theorem zke:(zM rs).Perm (gs.flatten++J8 rs):=by
 refine(Wd (Yb rs) (Ww.mpr ⟨G.nd,Qd rs,fun a ha b hb e=>?_⟩)).mpr fun c=>?_
 ·subst e;exact((Qe G).mp hb).2 ha
 ·rw[XO,Qe G];constructor
  ·intro h;by_cases hc:c∈gs.flatten
   ·exact .inl hc
   ·exact .inr ⟨h,hc⟩
  ·rintro(h | h)
   ·exact j4 G c h
   ·exact h.1
theorem count_is (s:Nat):(if (Zy rs).isEmpty=true then Tally.dl (Tally.tl gs.flatten (Tally.Zs (xO rs) gs)) (J8 rs).length ((s:Nat):Int) else 0)=((Tally.T (zM rs) (yp rs) s:Nat):Int):=by
 rw[Tally.zpq (zke G) (zcF rs)];have key:∀a∈Subs.subs gs.flatten,∀b∈Subs.subs (J8 rs),yp rs (a++b)=((Zy rs).isEmpty&&Tally.Zs (xO rs) gs a):=fun a ha b hb=>by
  have sa:=(Tally.yi ha).subset;have sb:=(Tally.yi hb).subset;rw[zaB fun c hc=>(XO.mp hc).elim (fun h=>j4 G c (sa h)) fun h=>zcG (sb h),zgy fun c hc=>sb hc,za3 G]
 cases hb:(Zy rs).isEmpty with
 | true =>
  rw[bw rfl];refine Tally.zqI (fun a ha b hb'=>?_) s;rw[key a ha b hb',hb,Rl]
 | false =>
  rw[bq (by decide),Tally.znu fun S hS=>?_]
  ·rfl
  ·rw[Tally.zgb] at hS;obtain⟨b,hb',hS⟩:=Wb.mp hS;obtain⟨a,ha,rfl⟩:=XU.mp hS;rw[key a ha b hb',hb,SO]
end
def zpA (K:X0):Sp:=fun vs H Q _=>∃(a b:Addr) (xs ys:List Int),vs=[.ref a,.ref b]/\SqL K H a (iL xs)/\SqL K H b (iL ys)/\1<=xs.length/\xs.length<=70/\1<=ys.length/\ys.length<=70/\zkd xs/\zkd ys /\
 ∀(l:Addr) (H':Hp),H l=none->H' l=some (.lst (iL (Pour.Qk xs ys)))->zq H H'->Q (.ref l) H'
def zbl (H:Hp):List V->List (List Int)->Prop:=WU fun v xs=>∃a,v=V.ref a/\H a=some (.lst (iL xs))
theorem zhT {H H':Hp}(s:zq H H'){us:List V}{xss:List (List Int)}(hp:zbl H us xss):zbl H' us xss:=by
 induction hp with
 | nil=>exact .nil
 | cons q _ ih =>
  obtain⟨a,e,h⟩:=q;exact .cons ⟨a,e,s _ _ h⟩ ih
theorem zeh {H:Hp}{us:List V}{xss:List (List Int)}(h:zbl H us xss):us.length=xss.length:=Paired.length h
theorem zlX {H:Hp}{us:List V}{xss:List (List Int)}{i:Nat}{v:V}(h:zbl H us xss)(e:us[i]?=some v):∃xs a,xss[i]?=some xs/\v=V.ref a/\H a=some (.lst (iL xs)):=by
 obtain⟨S,h1,a,h2⟩:=zbc h e;exact⟨S,a,h1,h2⟩
structure zlY (xss:List (List Int)):Prop where
 one:∀xs∈xss,1<=xs.length/\xs.length<=70/\zkd xs
 acc:∀i,1<=((xss.take i).foldl Pour.Qk [1]).length/\((xss.take i).foldl Pour.Qk [1]).length<=70/\zkd ((xss.take i).foldl Pour.Qk [1])
def zpB:Sp:=fun vs H Q _=>∃(la:Addr) (us:List V) (xss:List (List Int)),vs=[.ref la]/\H la=some (.lst us)/\zbl H us xss/\zlY xss /\
 ∀(d:Addr) (H':Hp),H d=none->H' d=some (.lst (iL (xss.foldl Pour.Qk [1])))->zq H H'->Q (.ref d) H'
def Small (rs:List Str):Prop:=∀gs,Parts.Good (clA rs) (qv rs) gs->∀g∈gs,g.length<=14
theorem zlZ {rs:List Str}(h:(zM rs).length<=14):Small rs:=fun gs G g hg=>by
 have:=Parts.qc (j3 (G.srt g hg)) fun x hx=>j4 G x (WI.mpr ⟨g,hg,hx⟩);lia
def tls (rs:List Str)(gs:List (List (Nat×Nat))):List (List Int):=gs.map fun g=>Tally.tl g (xO rs g)
theorem zpC {rs:List Str}(R:Rows bd.cps.toList rs){gs:List (List (Nat×Nat))}(G:Parts.Good (clA rs) (qv rs) gs):zlY (tls rs gs):=by
 have n64:=zcE G R;refine⟨fun xs hx=>?_,fun i=>?_⟩
 ·obtain⟨g,hg,rfl⟩:=XU.mp hx;have gl:g.length<=64:=X4 (U7 (U6 hg)) n64;rw[Tally.YF];exact⟨by lia,by lia,zhS gl⟩
 ·unfold tls;rw[<- Rm,zkb G i];have tl64:(gs.take i).flatten.length<=64:=by
   have e:gs.flatten=(gs.take i).flatten++(gs.drop i).flatten:=by rw[<- WD,Ws]
   rw[e,X5] at n64;lia
  rw[Tally.YF];exact⟨by lia,by lia,zhS tl64⟩
def zpD:Sp:=fun vs H Q _=>∃(p l:Addr) (rs:List Str) (n:Int),vs=[.ref p]/\qk H p l rs n/\Rows bd.cps.toList rs/\Small rs /\
 ∀(d:Addr) (gs:List (List (Nat×Nat))) (H':Hp),H d=none->Parts.Good (clA rs) (qv rs) gs->Up2 (heads gs)->H' d=some (.lst (iL (Tally.tl gs.flatten (Tally.Zs (xO rs) gs))))->zq H H'->Q (.ref d) H'
theorem Jq:zD ["one","other","counts","i","many","j","more"] ["one","other"] (zj zas):=bz rfl rfl rfl rfl (by decide +kernel)
theorem zkf (T:Txt mg)(D:zm K mg "poured" zas ["one","other"] f fd):zY P w K mg base CX0 1 f fd ["one","other"] (zpA K):=by
 refine D.F.ok Jq (fun vs H Q E h=>?_) (fun cdv A outer s H vs Q E hr h=>?_)
 ·obtain⟨a,b,xs,ys,rfl,_⟩:=h;rfl
 ·obtain⟨a,b,xs,ys,rfl,ha,hb,x1,x2,y1,y2,bx,bY,q⟩:=h;refine⟨_,(ze (zv (i:=2) Jq.nd rfl (XH rfl) (zx zhb (qa (za zo zc)) (zx JU (zx qb (zp zJ (by rfl) T.jB WP (za (pvS 0) zc)) (zp zJ (by rfl) T.jB WP (za (pvS 1) zc))) zo)))
   (ze (qg Xb rfl (Yt (by rfl) T.yt (za (pvS 0) zc)) (yP rfl (zL (zk (i:=3) Jq.nd rfl (XH rfl)) (zL (zk (i:=4) Jq.nd rfl (XH rfl)) jL))) (zh (qg Xb rfl (Yt (by rfl) T.yt (za (pvS 1) zc)) (yP rfl (zL (zk (i:=5) Jq.nd rfl (XH rfl)) (zL (zk (i:=6) Jq.nd rfl (XH rfl)) jL))) (zh (zin (pvS 2) (zx qb (pvS 3) (pvS 5)) zfL (zx yH (pvS 4) (pvS 6)) zku set_list)))))
   (zh (zF (pvS 2))))),?_⟩
  refine⟨sz_1,fun l0 hl0=>?_⟩;have s0:zq H (upd H l0 (.lst [.int 0])):=zd hl0;refine⟨_,rfl,a,_,rfl,.inl (s0.seq ha),_,rfl,b,_,rfl,.inl (s0.seq hb),_,_,rfl,rfl,_,_,rfl,rfl,l0,_,_,rfl,rfl,zb,?_,?_,?_,fun p hp=>?_⟩
  ·rw[ZB,ZB];lia
  ·rw[ZB,ZB];lia
  ·rw[ZB,ZB];exact X4 (show 1*((xs.length:Int)+(ys.length:Int)-1).toNat<=140 by lia) (by decide)
  have en:(((iL xs).length:Nat)+((iL ys).length:Nat)-1:Int).toNat=xs.length+ys.length-1:=by
   rw[ZB,ZB];lia
  rw[en,zgw,<- Pour.zlt];have s1:zq H (upd (upd H l0 (.lst [.int 0])) p (.lst (iL (Pour.st xs ys 0 0)))):=s0.trans (zd hp);have hp0:H p=none:=s0.free hp;refine⟨_,rfl,a,rfl,⟨_,s1.seq ha⟩,?_⟩;refine YW (K:=K) (l:=a) (xs:=iL xs) (fun i σ H'=>∃v3 v4 v5 v6,σ=[some (.ref a),some (.ref b),some (.ref p),v3,v4,v5,v6]/\zq H H'/\H' p=some (.lst (iL (Pour.st xs ys i 0))))
   ⟨_,_,_,_,rfl,s1,zb⟩ (fun i σ H' _ ⟨_,_,_,_,_,s,_⟩=>s.seq ha) ?_ ?_
  ·rintro i v t σ H1 hv ht ⟨v3,v4,v5,v6,rfl,s2,hp2⟩;obtain⟨x,hx,rfl⟩:=ints_get hv;have st:zq H1 (upd H1 t (.tup [.int (i:Nat),.int x])):=zd ht;refine⟨t,_,rfl,SqT.of zb,rfl,_,_,rfl,_,_,rfl,rfl,?_⟩;refine⟨_,rfl,b,rfl,⟨_,(s2.trans st).seq hb⟩,?_⟩;refine YW (K:=K) (l:=b) (xs:=iL ys) (fun j σ H'=>∃v5 v6,σ=[some (.ref a),some (.ref b),some (.ref p),some (.int (i:Nat)),some (.int x),v5,v6]/\zq H H'/\H' p=some (.lst (iL (Pour.st xs ys i j))))
    ⟨_,_,rfl,s2.trans st,st _ _ hp2⟩ (fun j σ H' _ ⟨_,_,_,s,_⟩=>s.seq hb) ?_ ?_
   ·rintro j v t2 σ H2 hv2 ht2 ⟨v5,v6,rfl,s3,hp3⟩;obtain⟨y,hy,rfl⟩:=ints_get hv2;have st2:zq H2 (upd H2 t2 (.tup [.int (j:Nat),.int y])):=zd ht2;have hp4:=st2 _ _ hp3;have hi:i<xs.length:=(X2.mp hx).1;have hj:j<ys.length:=(X2.mp hy).1;have en2:((i:Int)+(j:Int)).toNat=i+j:=by lia
    refine⟨t2,_,rfl,SqT.of zb,rfl,_,_,rfl,_,_,rfl,rfl,?_⟩;refine⟨_,rfl,_,rfl,_,rfl,_,_,rfl,rfl,p,_,_,_,rfl,rfl,SqL.of hp4,jP (by lia) (by rw[en2];exact zi4 (Pour.zhz (by lia))),?_⟩;refine⟨_,rfl,_,rfl,_,_,rfl,rfl,zqo (bx _ (XY hx)) (bY _ (XY hy)),_,_,rfl,rfl,p,_,_,_,rfl,rfl,hp4,zcB (by lia) (by rw[ZB,Pour.zhy];lia),?_⟩;refine⟨_,_,rfl,fun c o e=>?_,?_⟩
    ·have hc:c≠p:=fun z=>by
      subst z;rw[hp0] at e;cases e
     rw[zf hc];exact st2 _ _ (s3 _ _ e)
    ·rw[zb,en2,<- Pour.znp hx hy];show some (HO.lst ((UP V.int _).set _ (V.int _)))=_;rw[<- Om]
   ·rintro σ H2 ⟨v5,v6,rfl,s3,hp3⟩;rw[ZB,Pour.zpo] at hp3;exact⟨_,_,_,_,rfl,s3,hp3⟩
  ·rintro σ H1 ⟨v3,v4,v5,v6,rfl,s2,hp2⟩;rw[ZB,Pour.zpp] at hp2;exact⟨_,rfl,q p H1 hp0 hp2 s2⟩
theorem xA:zD ["lists","counts","others"] ["lists"] (zj Jh):=bz rfl rfl rfl rfl (by decide +kernel)
theorem zdr (T:Txt mg)(Z:Prog K mg)(D:zm K mg "all_poured" Jh ["lists"] f fd):zY P w K mg base CX0 2 f fd ["lists"] zpB:=by
 obtain⟨zqS,zpX,zgz⟩:=Z.poured;refine D.F.ok xA (fun vs H Q E h=>?_) (fun cdv A outer s H vs Q E hr h=>?_)
 ·obtain⟨la,us,xss,rfl,_⟩:=h;rfl
 ·obtain⟨la,us,xss,rfl,hla,hx,ok,q⟩:=h;refine⟨_,(ze (zv (i:=1) xA.nd rfl (XH rfl) (qa (za zo zc)))
   (ze (qg Xb rfl (zK (pvS 0)) (zk (i:=2) xA.nd rfl (XH rfl)) (zh (zv (i:=1) xA.nd rfl (XH rfl) (pc0 (zkf T zgz) hr zgz (za (pvS 1) (za (pvS 2) zc))))))
   (zh (zF (pvS 1))))),?_⟩
  refine⟨sz_1,fun c0 hc0=>?_⟩;have s0:zq H (upd H c0 (.lst [.int 1])):=zd hc0;refine⟨_,rfl,la,rfl,⟨_,SqL.of (s0 _ _ hla)⟩,?_⟩;refine j7 (K:=K) (a:=la) (xs:=us) (fun i σ H'=>∃(c:Addr) (v2:Option V),σ=[some (.ref la),some (.ref c),v2]/\zq H H'/\H c=none/\H' c=some (.lst (iL ((xss.take i).foldl Pour.Qk [1]))))
   ⟨c0,_,rfl,s0,hc0,zb⟩ (fun i σ H' _ ⟨_,_,_,y,_⟩=>SqL.of (y _ _ hla)) ?_ ?_
  ·rintro i v σ H1 hv ⟨c,v2,rfl,s1,hc,hc1⟩;obtain⟨xs,a1,hxs,rfl,ha1⟩:=zlX hx hv;obtain⟨o1,o2,o3⟩:=ok.one xs (XY hxs);obtain⟨p1,p2,p3⟩:=ok.acc i;refine⟨_,rfl,_,rfl,c,a1,_,xs,rfl,SqL.of hc1,SqL.of (s1 _ _ ha1),p1,p2,o1,o2,p3,o3,fun d H2 hd hd2 s2=>?_⟩;refine⟨d,_,rfl,s1.trans s2,s1.free hd,?_⟩;rw[hd2,Xu,hxs,Vf];rfl
  ·rintro σ H1 ⟨c,v2,rfl,s1,hc,hc1⟩;rw[zeh hx,Xy] at hc1;exact⟨_,rfl,q c H1 hc hc1 s1⟩
theorem zcH:zD ["board"] ["board"] (zj j8):=bz rfl rfl rfl rfl (by decide +kernel)
theorem zcI (T:Txt mg)(Z:Prog K mg)(D:zm K mg "near_counts" j8 ["board"] f fd):zY P w K mg base CX0 6 f fd ["board"] zpD:=by
 obtain⟨zgA,zei,zR⟩:=Z.around;obtain⟨zej,zcJ,zz⟩:=Z.sign_at;obtain⟨zcK,zbm,zG⟩:=Z.cells_of;obtain⟨zaC,Qt,zC⟩:=Z.open_cells;obtain⟨zbn,zaD,qo⟩:=Z.number_at;obtain⟨zfe,zds,jg⟩:=Z.numbers_of;obtain⟨zhU,zgB,jW⟩:=Z.needs_at;obtain⟨zkg,zhV,yw⟩:=Z.may_fit;obtain⟨zcL,zby,ja⟩:=Z.part_layings;obtain⟨zpY,zpE,Qa⟩:=Z.counted;obtain⟨zmD,zl0,Qu⟩:=Z.part_counts;obtain⟨Yk,ZF,zW⟩:=Z.closed_around;obtain⟨zl1,zkh,ZE⟩:=Z.joined;obtain⟨znE,zl2,zaE⟩:=Z.parts;obtain⟨znF,zmE,zaF⟩:=Z.all_poured;refine D.F.ok zcH (fun vs H Q E h=>?_) (fun cdv A outer s H vs Q E hr h=>?_)
 ·obtain⟨p,l,rs,n,rfl,_⟩:=h;rfl
 ·obtain⟨p,l,rs,n,rfl,b,R,sm,q⟩:=h;refine⟨_,(zh (zF (pc0 (zdr T Z zaF) hr zaF (za (qj (N:=["part","board"]) (src:=[none,some 0]) (zO.free (O:=(zj j8).names) (XN:=["board"]) rfl rfl ⟨_,rfl⟩ rfl rfl (by decide +kernel) (by decide +kernel) (by decide +kernel) rfl (by decide +kernel)) rfl (zK (pc0 (zgo T zaE zR zz zG zC zW ZE) hr zaE (za (pvS 0) zc))) (fun _ _ _ _ _=>(zk (i:=0) (by show WY (["part","board"]:List Str);decide +kernel) rfl (XH rfl))) (fun _ _ _ _ _=>qW) (fun _ _ _ _ _=>(pc0 (zcD T Qu zR zz zG zC qo jg jW yw ja Qa) hr Qu (za (pvS 1) (za (pvS 0) zc))))) zc)))),?_⟩;refine⟨_,rfl,p,l,rs,n,rfl,b,R,fun d ws gs H1 hd hd1 hG _ _ G up s1=>⟨d,rfl,⟨_,SqL.of hd1⟩,fun z hz=>?_⟩⟩;have g64:gs.length<=64:=X4 (Parts.Zp G.ne) (zcE G R);refine qf (K:=K) (a:=d) (xs:=ws) (fun j σ' H'=>∃(u0:Option V) (ys:List V),σ'=[u0,some (.ref p)]/\zq H1 H'/\H' z=some (.lst ys)/\(∀v∈ys,∀a,v=V.ref a->a≠z)/\zbl H' ys (tls rs (gs.take j)))
   ⟨_,[],rfl,zd hz,zb,(fun _ h=>nomatch h),.nil⟩ (fun j σ' H' _ ⟨_,_,_,y,_⟩=>SqL.of (y _ _ hd1)) ?_ ?_
  ·rintro j v σ' H2 hv ⟨u0,ys,rfl,s2,hz2,nz,hy2⟩;obtain⟨g,hg,ga,ug,rfl,hga,hcg⟩:=yO.get (hG.mono s2) hv;have gm:=XY hg;have il:=(X2.mp hg).1;unfold yE;refine Z7 ?_;refine⟨_,rfl,_,rfl,p,l,ga,rs,n,ug,g,rfl,(b.mono s1).mono s2,R,hga,hcg,j3 (G.srt g gm),sm gs G g gm,fun e H3 he he3 s3=>?_⟩;rw[zkc] at he3;have ez:e≠z:=fun y=>by
    subst y;rw[hz2] at he;cases he
   refine⟨_,s3 _ _ hz2,?_,_,ys++[.ref e],rfl,fun b o e'=>?_,zb,fun v hv a ea=>?_,?_⟩
   ·rw[zeh hy2];unfold tls;rw[ZB,Xw];exact XA (show _<=64 by lia) (by decide)
   ·rw[zf (zg e' hz)];exact s3 _ _ (s2 _ _ e')
   ·rcases XO.mp hv with hv | hv
    ·exact nz v hv a ea
    ·have:v=V.ref e:=by simpa using hv
     rw[this] at ea;cases ea;exact ez
   ·have t1:tls rs (gs.take (j+1))=tls rs (gs.take j)++[Tally.tl g (xO rs g)]:=by
     unfold tls;rw[Xu,hg,XC];rfl
    rw[t1];have into:∀{us:List V} {xss:List (List Int)},zbl H3 us xss->(∀v∈us,∀a,v=V.ref a->a≠z)->zbl (upd H3 z (.lst (ys++[.ref e]))) us xss:=by
     intro us xss h;induction h with
     | nil=>exact fun _=>.nil
     | cons h t ih =>
      intro nz;obtain⟨a,rfl,ha⟩:=h;exact .cons ⟨a,rfl,by rw[zf (nz _ XT a rfl)];exact ha⟩ (ih fun v hv=>nz v (XR _ hv))
    exact Paired.snoc (into (zhT s3 hy2) nz) ⟨e,rfl,by rw[zf ez];exact he3⟩
  rintro σ' H2 ⟨u0,ys,rfl,s2,hz2,_,hy2⟩;rw[hG.length,Xy] at hy2;refine⟨z,ys,tls rs gs,rfl,hz2,hy2,zpC R G,fun e H3 he he3 s3=>?_⟩;have s12:=s1.trans s2;rw[show (tls rs gs).foldl Pour.Qk [1]=Tally.tl gs.flatten (Tally.Zs (xO rs) gs) from zlU G] at he3;exact q e gs H3 (s12.free he) G up he3 (s12.trans s3)
def chV (n k:Int):Int:=if 0<=k/\k<=n then ((Choose.ch n.toNat k.toNat:Nat):Int) else 0
theorem znG (m:Nat)(k:Int):chV (m:Nat) k=Tally.chZ m k:=by
 unfold chV Tally.chZ;rw[WM];by_cases h0:k<0
 ·rw[bq (by lia),bw h0]
 ·rw[bq h0];by_cases h1:k<=(m:Int)
  ·rw[bw ⟨by lia,h1⟩]
  ·rw[bq (by lia),Choose.zaW m k.toNat (by lia)];rfl
theorem znH {n k:Int}(h:n<=64):(chV n k).natAbs<2^8000:=by
 have h1:(2:Nat)^64<2^8000:=O2 (by decide) (by decide);have hz:(0:Nat)<2^8000:=XA (W4 _) h1;unfold chV;split
 ·rw[RI];exact XA (X4 (Choose.zqH _ _) (VS (by decide) (show n.toNat<=64 by lia))) h1
 ·exact hz
def dlV (xs:List Int)(m st:Int):Int:=Pour.S (fun k=>Pour.F xs k*chV m (st-(k:Nat))) xs.length
theorem znI (xs:List Int)(m:Nat)(st:Int):dlV xs (m:Nat) st=Tally.dl xs m st:=by
 unfold dlV Tally.dl;exact Pour.ZZ _ fun i _=>by rw[znG]
theorem zok (h:Nat->Int):∀n,((XF n).map h).sum=Pour.S h n
 | 0=>rfl
 | n+1=>by
  rw[Vt,XC,List.sum_append,zok h n];show _+(h n+0)=Pour.S h n+h n;lia
def zrx:Sp:=fun vs H Q _=>∃(n k:Int),vs=[.int n,.int k]/\n<=64/\Q (.int (chV n k)) H
def znJ:Sp:=fun vs H Q _=>∃(c:Addr) (xs:List Int) (m st:Int),vs=[.ref c,.int m,.int st]/\H c=some (.lst (iL xs))/\zkd xs/\xs.length<=150/\m<=64/\∀H',zq H H'->Q (.int (dlV xs m st)) H'
def QO (rs:List Str)(n:Int):Int:=((Tally.T (zM rs) (yp rs) n.toNat:Nat):Int)
def zi7:Sp:=fun vs H Q _=>∃(p l:Addr) (rs:List Str) (n:Int),vs=[.ref p]/\qk H p l rs n/\Rows bd.cps.toList rs/\Small rs/\0<=n/\∀H',zq H H'->Q (.int (QO rs n)) H'
theorem Yc:zD ["n","k","found","step"] ["n","k"] (zj Y4):=bz rfl rfl rfl rfl (by decide +kernel)
theorem zhW (T:Txt mg)(D:zm K mg "choices" Y4 ["n","k"] f fd):zY P w K mg base CX0 1 f fd ["n","k"] zrx:=by
 refine D.F.ok Yc (fun vs H Q E h=>?_) (fun cdv A outer s H vs Q E hr h=>?_)
 ·obtain⟨n,k,rfl,_⟩:=h;rfl
 ·obtain⟨n,k,rfl,n1,q⟩:=h;refine⟨_,(ze (qS (Yo (zfB ze4 ze4 zo (pvS 1) (pvS 0))) (zh (zF zo)) zV)
   (ze (zv (i:=2) Yc.nd rfl (XH rfl) zo)
   (ze (qg Xb rfl (qB (by rfl) T.qQ (za (pvS 1) zc)) (zk (i:=3) Yc.nd rfl (XH rfl)) (zh (zv (i:=2) Yc.nd rfl (XH rfl) (zx jm (zx yH (pvS 2) (zx JU (pvS 0) (pvS 3))) (zx qb (pvS 3) zo)))))
   (zh (zF (pvS 2)))))),?_⟩
  refine⟨_,rfl,_,_,rfl,rfl,_,rfl,?_⟩;unfold chV at q;refine zeI (fun c=>?_) (fun c=>?_)
  ·have k0:(0:Int)<=k:=bh c;refine⟨_,rfl,_,_,rfl,rfl,_,rfl,?_⟩;by_cases c:k<=n
   ·rw[bw ⟨k0,c⟩] at q;rw[br c];refine Qi ?_;refine⟨_,rfl,k,rfl,by lia,by lia,?_⟩;refine qC (lo:=0) (n:=k.toNat) (fun i σ H'=>∃v,σ=[some (.int n),some (.int k),some (.int (Choose.ch n.toNat i)),v]/\H'=H) ⟨_,by rw[Choose.Y0];rfl,rfl⟩ ?_ ?_
    ·rintro i σ H' hi ⟨v,rfl,rfl⟩;refine⟨_,rfl,_,rfl,_,rfl,_,_,rfl,rfl,_,_,rfl,rfl,zeJ (by lia) (by lia),_,rfl,_,_,rfl,rfl,_,_,rfl,rfl,Jt.small (by lia) (by lia),?_⟩;refine⟨some (.int (0+(i:Int))),?_,rfl⟩;have e:=Choose.znq (n:=n.toNat) (k:=i) (by lia);have e1:((n.toNat:Nat):Int)=n:=UE (by lia);rw[e1] at e;have e2:(Choose.ch n.toNat i:Int)*(n-(0+(i:Int)))/(0+(i:Int)+1)=Choose.ch n.toNat (i+1):=by
      rw[SR];exact e
     show [_,_,some (V.int ((Choose.ch n.toNat i:Int)*(n-(0+(i:Int)))/(0+(i:Int)+1))),_]=_;rw[e2]
    ·rintro σ H' ⟨v,rfl,rfl⟩;exact⟨_,rfl,q⟩
   ·rw[bq (fun h=>c h.2)] at q;rw[bg c];exact Qj q
  ·have k0:¬ (0:Int)<=k:=fun z=>c (br z);rw[bq (fun h=>k0 h.1)] at q;exact⟨_,rfl,Qj q⟩
theorem zl3:zD ["counts","cells","stones"] ["counts","cells","stones"] (zj zau):=bz rfl rfl rfl rfl (by decide +kernel)
theorem zl4 (T:Txt mg)(Z:Prog K mg)(D:zm K mg "dealt" zau ["counts","cells","stones"] f fd):zY P w K mg base CX0 2 f fd ["counts","cells","stones"] znJ:=by
 obtain⟨zpZ,zpF,zek⟩:=Z.choices;refine D.F.ok zl3 (fun vs H Q E h=>?_) (fun cdv A outer s H vs Q E hr h=>?_)
 ·obtain⟨c,xs,m,st,rfl,_⟩:=h;rfl
 ·obtain⟨c,xs,m,st,rfl,hc,bx,xl,m1,q⟩:=h;refine⟨_,(zh (zF (zp (zkJ rfl) (by rfl) T.zqL PyProof.Rows.boot_sum (za (qj (N:=["k","many","cells","stones"]) (src:=[none,none,some 1,some 2]) (zO.free (O:=(zj zau).names) (XN:=["counts","cells","stones"]) rfl rfl ⟨_,rfl⟩ rfl rfl (by decide +kernel) (by decide +kernel) (by decide +kernel) rfl (by decide +kernel)) rfl (Yt (by rfl) T.yt (za (pvS 0) zc)) (fun _ _ _ _ _=>(ziy (n:=2) (K:=K) (by rfl) rfl (zL (zk (i:=0) (by show WY (["k","many","cells","stones"]:List Str);decide +kernel) rfl (XH rfl)) (zL (zk (i:=1) (by show WY (["k","many","cells","stones"]:List Str);decide +kernel) rfl (XH rfl)) jL)))) (fun _ _ _ _ _=>qW) (fun _ _ _ _ _=>(zx yH (pvS 1) (pc0 (zhW T zek) hr zek (za (pvS 2) (za (zx JU (pvS 3) (pvS 0)) zc)))))) zc)))),?_⟩;refine⟨_,rfl,c,rfl,⟨_,SqL.of hc⟩,fun z hz=>?_⟩;refine zhf (K:=K) (a:=c) (xs:=iL xs) (fun i σ H'=>(∃u0 u1,σ=[u0,u1,some (.int m),some (.int st)])/\zq H H'/\H' z=some (.lst (iL ((XF i).map fun k=>Pour.F xs k*chV m (st-(k:Nat)))))) ⟨⟨_,_,rfl⟩,zd hz,zb⟩ (fun i σ H' _ ⟨_,s3,_⟩=>SqL.of (s3 _ _ hc)) ?_ ?_
  ·rintro i x tt σ H3 hx htt ⟨⟨u0,u1,rfl⟩,s3,hz3⟩;obtain⟨y,hy,rfl⟩:=ints_get hx;have il:=(X2.mp hy).1;have s4:=zd (o:=.tup [.int ((i:Nat):Int),.int y]) htt;refine⟨tt,_,rfl,SqT.of zb,rfl,_,_,rfl,_,_,rfl,rfl,?_⟩;unfold zmV;refine Qj ⟨_,rfl,_,rfl,_,rfl,_,rfl,_,_,rfl,rfl,m,_,rfl,m1,_,_,rfl,rfl,zqo (bx y (XY hy)) (znH m1),_,s4 _ _ hz3,?_,⟨_,_,rfl⟩,fun b' o e'=>?_,?_⟩
   ·rw[ZB,ZB,Xj];exact XJ (show i<150 by lia) (by decide)
   ·rw[zf (zg e' hz)];exact s4 _ _ (s3 _ _ e')
   ·rw[zb,Vt,XC];show _=some (HO.lst (iL (_++[Pour.F xs i*chV m (st-(i:Nat))])));rw[znB,Pour.znn hy]
  ·rintro σ H3 ⟨_,s3,hz3⟩;refine⟨z,_,rfl,SqL.of hz3,?_⟩;rw[ZB,zok];exact q _ s3
theorem zgC:zD ["board","near"] ["board"] (zj zbS):=bz rfl rfl rfl rfl (by decide +kernel)
theorem zl5 (T:Txt mg)(Z:Prog K mg)(D:zm K mg "count" zbS ["board"] f fd):zY P w K mg base CX0 7 f fd ["board"] zi7:=by
 obtain⟨zgA,zei,zR⟩:=Z.around;obtain⟨zej,zcJ,zz⟩:=Z.sign_at;obtain⟨zcK,zbm,zG⟩:=Z.cells_of;obtain⟨zl6,zki,ZA⟩:=Z.closed;obtain⟨zaC,Qt,zC⟩:=Z.open_cells;obtain⟨zbn,zaD,qo⟩:=Z.number_at;obtain⟨Yk,ZF,zW⟩:=Z.closed_around;obtain⟨zqT,zpG,zel⟩:=Z.far;obtain⟨znK,zmF,zaG⟩:=Z.bare_wrong;obtain⟨zmG,zl7,Qv⟩:=Z.near_counts;obtain⟨zq3,zqU,zi8⟩:=Z.dealt;refine D.F.ok zgC (fun vs H Q E h=>?_) (fun cdv A outer s H vs Q E hr h=>?_)
 ·obtain⟨p,l,rs,n,rfl,_⟩:=h;rfl
 ·obtain⟨p,l,rs,n,rfl,b,R,sm,n0,q⟩:=h;refine⟨_,(ze (zv (i:=1) zgC.nd rfl (XH rfl) (pc0 (zcI T Z Qv) hr Qv (za (pvS 0) zc)))
   (ze (qS (zQ (Ju hr.units) (pc0 (zdo T zaG zR zz zG zW zC qo) hr zaG (za (pvS 0) zc)) (qa zc) (zT _)) (zh (zF zo)) zV)
   (zh (zF (pc0 (zl4 T Z zi8) hr zi8 (za (pvS 1) (za (zp zJ (by rfl) T.jB WP (za (pc0 (zlI T zel zR zz zG ZA zC) hr zel (za (pvS 0) zc)) zc)) (za (qq xq (pvS 0) zo (fun _ _=>rfl)) zc)))))))),?_⟩
  refine⟨_,rfl,p,l,rs,n,rfl,b,R,sm,fun d1 gs H1 hd1 G up zry s1=>?_⟩;refine⟨_,rfl,p,l,rs,n,rfl,b.mono s1,R,fun d2 w2 H2 hd2 zrz hc2 s2=>⟨JJ,fun e he=>?_⟩⟩;have s3:=zd (o:=.lst []) he;have ci:=count_is G n.toNat;rw[UE n0] at ci;unfold QO at q;rw[<- ci] at q;refine⟨.list ((Zy rs).map zu),.list [],.lst (SqL.of (s3 _ _ zrz)) (zB.rdv (N:=fun _=>True) (Cel.rdn (Cel.mono s3 hc2))),.lst (SqL.of zb) .nil,zhH _ [],_,rfl,?_⟩;have ee:(if true=true then !PyData.eqv (.list ((Zy rs).map zu)) (.list []) else W2 (.list ((Zy rs).map zu)) (.list []))=!(Zy rs).isEmpty:=by
   show (!PyData.eqv _ _)=_;rw[eq_nil]
  rw[ee];have s13:=(s1.trans s2).trans s3;have hd13:=s3 _ _ (s2 _ _ zry);generalize upd H2 e (.lst [])=H3 at *
  cases hb:(Zy rs).isEmpty with
  | false =>
   rw[hb,bq XV] at q;exact Qj (q _ s13)
  | true =>
   rw[hb,bw rfl] at q;refine Qi ?_;have b3:=b.mono s13;refine⟨_,rfl,_,rfl,p,l,rs,n,rfl,b3,R,fun d4 ws4 H4 _ hd4 hc4 s4=>⟨d4,_,rfl,.inl (SqL.of hd4),?_⟩⟩;have hl:=hc4.length;have h64:(J8 rs).length<=64:=X4 (Xc _ _) (jG (p:=qO) R);have g64:=zcE G R;refine⟨_,rfl,p,_,1,_,rfl,rfl,SqT.of (b3.mono s4).tp,rfl,d1,_,(ws4.length:Nat),n,rfl,s4 _ _ hd13,zhS g64,by rw[Tally.YF];lia,by lia,fun H' s'=>?_⟩;rw[hl,znI];exact q _ ((s13.trans s4).trans s')
def pV (xs:List Nat):List V:=xs.map fun x=>V.int (x:Nat)
def nrP (n at_ x:Nat):Bool:=Cells.near (x/n,x%n) (at_/n,at_%n)
def xV (R n at_:Nat):List Nat:=(XF (R*n)).filter (nrP n at_)
def zcM (n at_ r c0 m:Nat):List Nat:=((XF m).map fun i=>r*n+(c0+i)).filter fun x=>!decide (x=at_)
def Qw (n at_ r0 k c0 m:Nat):List Nat:=(XF k).flatMap fun i=>zcM n at_ (r0+i) c0 m
theorem zkj (n at_ r c0 m:Nat):zcM n at_ r c0 (m+1)=zcM n at_ r c0 m++if (!decide (r*n+(c0+m)=at_))=true then [r*n+(c0+m)] else []:=by
 unfold zcM;rw[Vt,XC,Xa];congr 1;show Vj _ [r*n+(c0+m)]=_;rw[W0];split<;>rfl
theorem zcN (n at_ r0 k c0 m:Nat):Qw n at_ r0 (k+1) c0 m=Qw n at_ r0 k c0 m++zcM n at_ (r0+k) c0 m:=by
 unfold Qw;rw[Vt,OL];simp
theorem zl8 {R n at_:Nat}(hR:R<=5)(hn:n<=5)(ha:at_<R*n):Qw n at_ (at_/n-1) (min (at_/n+2) R-(at_/n-1)) (at_%n-1) (min (at_%n+2) n-(at_%n-1))=xV R n at_:=by
 have h:∀R∈XF 6,∀n∈XF 6,∀a∈XF (R*n),Qw n a (a/n-1) (min (a/n+2) R-(a/n-1)) (a%n-1) (min (a%n+2) n-(a%n-1))=xV R n a:=by decide +kernel
 exact h R (Xl.mpr (by lia)) n (Xl.mpr (by lia)) at_ (Xl.mpr ha)
theorem zcO {R n at_:Nat}(hR:R<=5)(hn:n<=5)(ha:at_<R*n):(xV R n at_).length<=8:=by
 have h:∀R∈XF 6,∀n∈XF 6,∀a∈XF (R*n),(xV R n a).length<=8:=by decide +kernel
 exact h R (Xl.mpr (by lia)) n (Xl.mpr (by lia)) at_ (Xl.mpr ha)
theorem zgD (n at_ r c0 m:Nat):(zcM n at_ r c0 m).length<=m:=by
 unfold zcM;refine X4 (Xc _ _) ?_;rw[ZB,Xj];exact XW _
theorem zem (n at_ r0 c0 m:Nat):∀k,(Qw n at_ r0 k c0 m).length<=k*m
 | 0=>W4 _
 | k+1=>by
  rw[zcN,X5,RU];exact SL (zem n at_ r0 c0 m k) (zgD _ _ _ _ _)
theorem zol (i:Nat):(if (i:Int)-1>0 then (i:Int)-1 else 0)=((i-1:Nat):Int):=by
 split<;>lia
theorem zom (i m:Nat):(if (i:Int)+2<((m:Nat):Int) then (i:Int)+2 else ((m:Nat):Int))=((min (i+2) m:Nat):Int):=by
 split<;>lia
theorem zpH {a b:Nat}:decide (V.int ((a:Nat):Int)=V.int ((b:Nat):Int))=decide (a=b):=decide_eq_decide.mpr ⟨fun h=>by injection h with h;lia,fun h=>by rw[h]⟩
def znL:Sp:=fun vs H Q _=>∃(a R n:Nat),vs=[.int (a:Nat),.int (R:Nat),.int (n:Nat)]/\R<=5/\1<=n/\n<=5/\a<R*n/\∀(d:Addr) (H':Hp),H d=none->H' d=some (.lst (pV (xV R n a)))->zq H H'->Q (.ref d) H'
theorem yx:zD ["_law_at","_law_rows","_law_columns","_law_row","_law_column","_law_found","_law_r","_law_c"] ["_law_at","_law_rows","_law_columns"] (zj Z0):=bz rfl rfl rfl rfl (by decide +kernel)
theorem zbo (T:Txt mg)(D:zm K mg "_law_near" Z0 ["_law_at","_law_rows","_law_columns"] f fd):zY P w K mg base CX0 1 f fd ["_law_at","_law_rows","_law_columns"] znL:=by
 refine D.F.ok yx (fun vs H Q E h=>?_) (fun cdv A outer s H vs Q E hr h=>?_)
 ·obtain⟨a,R,n,rfl,_⟩:=h;rfl
 ·obtain⟨a,R,n,rfl,hR,n1,hn,ha,q⟩:=h;have hrow:a/n<R:=Nat.div_lt_of_lt_mul (by rw[SX];exact ha);have hcol:a%n<n:=Sj _ (by lia);refine⟨_,(ze (zbZ (zp zbb (by rfl) T.zgh Rc (za (pvS 0) (za (pvS 2) zc))) (yP rfl (zL (zk (i:=3) yx.nd rfl (XH rfl)) (zL (zk (i:=4) yx.nd rfl (XH rfl)) jL))))
   (ze (zv (i:=5) yx.nd rfl (XH rfl) (qa zc))
   (ze (qg Xb rfl (YT (by rfl) T.qQ (za (zp (Zc rfl) (by rfl) T.zgi UW (za zo (za (zx JU (pvS 3) zo) zc))) (za (zp (Zd rfl) (by rfl) T.zgj UV (za (pvS 1) (za (zx qb (pvS 3) zo) zc))) zc))) (zk (i:=6) yx.nd rfl (XH rfl)) (zh (qg Xb rfl (YT (by rfl) T.qQ (za (zp (Zc rfl) (by rfl) T.zgi UW (za zo (za (zx JU (pvS 4) zo) zc))) (za (zp (Zd rfl) (by rfl) T.zgj UV (za (pvS 2) (za (zx qb (pvS 4) zo) zc))) zc))) (zk (i:=7) yx.nd rfl (XH rfl)) (zh (qS (zQ Q5 (zx qb (zx yH (pvS 6) (pvS 2)) (pvS 7)) (pvS 0) (zT _)) (zh (jK (yG WW Wr Wq jv (pvS 5) (za (zx qb (zx yH (pvS 6) (pvS 2)) (pvS 7)) zc)))) zV)))))
   (zh (zF (pvS 5)))))),?_⟩
  refine⟨_,rfl,_,rfl,_,_,rfl,⟨by lia,by lia⟩,fun p hp=>?_⟩;have s0:=zd (o:=.tup [.int (((a:Nat):Int)/((n:Nat):Int)),.int (((a:Nat):Int)%((n:Nat):Int))]) hp;refine⟨p,_,rfl,SqT.of zb,rfl,_,_,rfl,_,_,rfl,rfl,?_⟩;generalize upd H p (.tup [.int (((a:Nat):Int)/((n:Nat):Int)),.int (((a:Nat):Int)%((n:Nat):Int))])=H0 at *
  rw[<- Int.natCast_ediv,<- Int.natCast_emod];generalize hr0:a/n=row at *
  generalize hc0:a%n=col at *
  refine⟨JJ,fun d hd=>?_⟩;have s1:zq H0 (upd H0 d (.lst [])):=zd hd;refine⟨_,rfl,_,_,rfl,rfl,0,_,rfl,_,rfl,_,rfl,_,_,rfl,rfl,_,_,rfl,((row-1:Nat):Int),((min (row+2) R:Nat):Int),?_,⟨by lia,by lia,by lia,by lia⟩,?_⟩
  ·show [V.int (if (row:Int)-1>0 then (row:Int)-1 else 0),V.int (if (row:Int)+2<((R:Nat):Int) then (row:Int)+2 else ((R:Nat):Int))]=_;rw[zol,zom]
  have hn9:∀k m:Nat,k<=5->m<=5->k*m<=25:=fun k m h1 h2=>TZ h1 h2;refine qC (lo:=((row-1:Nat):Int)) (fun k σ H'=>∃(v6 v7:Option V),σ=[some (.int (a:Nat)),some (.int (R:Nat)),some (.int (n:Nat)),some (.int (row:Nat)),some (.int (col:Nat)),some (.ref d),v6,v7]/\zq H0 H'/\H' d=some (.lst (pV (Qw n a (row-1) k (col-1) (min (col+2) n-(col-1))))))
   ⟨_,_,rfl,s1,zb⟩ ?_ ?_
  ·rintro k σ H1 hk ⟨v6,v7,rfl,s2,hd1⟩;rw[show ((row-1:Nat):Int)+(k:Nat)=((row-1+k:Nat):Int) by lia];refine⟨_,rfl,_,_,rfl,rfl,0,_,rfl,_,rfl,_,rfl,_,_,rfl,rfl,_,_,rfl,((col-1:Nat):Int),((min (col+2) n:Nat):Int),?_,⟨by lia,by lia,by lia,by lia⟩,?_⟩
   ·show [V.int (if (col:Int)-1>0 then (col:Int)-1 else 0),V.int (if (col:Int)+2<((n:Nat):Int) then (col:Int)+2 else ((n:Nat):Int))]=_;rw[zol,zom]
   refine qC (lo:=((col-1:Nat):Int)) (fun m σ H'=>∃(v7:Option V),σ=[some (.int (a:Nat)),some (.int (R:Nat)),some (.int (n:Nat)),some (.int (row:Nat)),some (.int (col:Nat)),some (.ref d),some (.int ((row-1+k:Nat):Int)),v7]/\zq H0 H'/\H' d=some (.lst (pV (Qw n a (row-1) k (col-1) (min (col+2) n-(col-1))++zcM n a (row-1+k) (col-1) m))))
    ⟨_,rfl,s2,by rw[hd1];unfold zcM;simp⟩ ?_ ?_
   ·rintro m σ H2 hm ⟨v7,rfl,s3,hd2⟩;rw[show ((col-1:Nat):Int)+(m:Nat)=((col-1+m:Nat):Int) by lia];have ev:((row-1+k:Nat):Int)*((n:Nat):Int)+((col-1+m:Nat):Int)=(((row-1+k)*n+(col-1+m):Nat):Int):=by
     simp only[Tk,US]
    have hb:(!decide (V.int (((row-1+k:Nat):Int)*((n:Nat):Int)+((col-1+m:Nat):Int))=V.int ((a:Nat):Int)))=!decide ((row-1+k)*n+(col-1+m)=a):=by rw[ev,zpH]
    refine⟨_,rfl,_,rfl,_,_,rfl,rfl,zeJ (by lia) (by lia),_,rfl,_,_,rfl,rfl,_,rfl,rfl,_,rfl,?_⟩;have e1:=zkj n a (row-1+k) (col-1) m;by_cases hp:(!decide ((row-1+k)*n+(col-1+m)=a))=true
    ·rw[bw hp] at e1;refine jJ (hb.trans hp) ?_;refine⟨_,rfl,.inl ⟨rfl,_,SqL.of hd2⟩,_,rfl,_,rfl,_,_,rfl,rfl,zeJ (by lia) (by lia),_,rfl,_,_,rfl,rfl,d,_,_,rfl,rfl,hd2,?_,_,rfl,fun b o e=>?_,?_⟩
     ·unfold pV;rw[ZB,X5];have a1:=zem n a (row-1) (col-1) (min (col+2) n-(col-1)) k;have a2:=zgD n a (row-1+k) (col-1) m;have a3:=hn9 k (min (col+2) n-(col-1)) (by lia) (by lia);exact XA (X4 (SL (X4 a1 a3) (X4 a2 (show m<=5 by lia))) (by decide:25+5<=64)) (by decide)
     ·rw[zf (zg e hd)];exact s3 _ _ e
     ·have e2:pV (Qw n a (row-1) k (col-1) (min (col+2) n-(col-1))++zcM n a (row-1+k) (col-1) (m+1))=pV (Qw n a (row-1) k (col-1) (min (col+2) n-(col-1))++zcM n a (row-1+k) (col-1) m)++[V.int (((row-1+k:Nat):Int)*((n:Nat):Int)+((col-1+m:Nat):Int))]:=by
       rw[ev,e1,<- WV];unfold pV;rw[XC (l₂:=[_])];rfl
      rw[zb,e2]
    ·rw[bq hp,Xh] at e1;refine jj (hb.trans (Xs.mpr hp)) ?_;exact⟨_,rfl,s3,by rw[e1];exact hd2⟩
   ·rintro σ H2 ⟨v7,rfl,s3,hd2⟩;rw[show (((min (col+2) n:Nat):Int)-((col-1:Nat):Int)).toNat=min (col+2) n-(col-1) by lia] at hd2;refine⟨_,_,rfl,s3,?_⟩;rw[zcN];exact hd2
  ·rintro σ H1 ⟨v6,v7,rfl,s2,hd1⟩;rw[show (((min (row+2) R:Nat):Int)-((row-1:Nat):Int)).toNat=min (row+2) R-(row-1) by lia,<- hr0,<- hc0,zl8 hR hn ha] at hd1;exact⟨_,rfl,q d H1 (s0.free hd) hd1 (s0.trans s2)⟩
def cV (ts:List Nat):List V:=ts.map fun c=>V.str ⟨#[c]⟩
def sg4:List Nat:=[46,63,111,35]
def QS (c:Nat):Bool:=decide (c=63) || decide (c=111)
theorem zcP (ts:List Nat):(cV ts).length=ts.length:=ZB _
theorem zhX (ts:List Nat)(j c:Nat):(cV ts).set j (V.str ⟨#[c]⟩)=cV (ts.set j c):=by
 unfold cV;rw[Om]
theorem zgE {ts:List Nat}{j:Nat}(h:j<ts.length):(cV ts)[j]?=some (V.str ⟨#[ts.getD j 0]⟩):=by
 unfold cV;rw[Xk,XX h,Xx,XX h];rfl
theorem getD_mem {ts:List Nat}{j:Nat}(h:j<ts.length):ts.getD j 0∈ts:=by
 rw[Xx,XX h];exact TN h
theorem xB (p:Nat->Bool)(c:Nat):∀(ts:List Nat) (j:Nat),(ts.set j c).countP p<=ts.countP p+if p c=true then 1 else 0
 | [],_=>W4 _
 | t::r,0=>by
  show (c::r).countP p<=_;rw[WQ,WQ];lia
 | t::r,j+1=>by
  have:=xB p c r j;show (t::r.set j c).countP p<=_;rw[WQ,WQ];lia
theorem mem_set {c:Nat}{S:List Nat}(hc:c∈S){ts:List Nat}(h:∀x∈ts,x∈S)(j:Nat):∀x∈ts.set j c,x∈S:=fun x hx=>by
 rcases List.mem_or_eq_of_mem_set hx with h1 | h1
 ·exact h x h1
 ·rw[h1];exact hc
theorem zpI (n:Nat):(WN n [V.str "."]).flatten=cV (WN n 46):=by
 induction n with
 | zero=>rfl
 | succ n ih =>
  rw[Vv,Wm,ih];have:(".":Str)=⟨#[46]⟩:=by decide +kernel
  rw[this];rfl
theorem zl9:(".":Str)=⟨#[46]⟩:=by decide +kernel
theorem znM:("#":Str)=⟨#[35]⟩:=by decide +kernel
theorem zpJ:("o":Str)=⟨#[111]⟩:=by decide +kernel
theorem znN (x:Int):∃c:Nat,atI [V.str "?",V.str "o"] (x%2)=some (V.str ⟨#[c]⟩)/\c∈sg4:=by
 have h:x%2=0\/x%2=1:=by lia
 rw[Z3,zpJ];rcases h with h | h<;>rw[h]
 ·exact⟨63,rfl,by decide⟩
 ·exact⟨111,rfl,by decide⟩
theorem YI {x:Int}{M:Nat}(h:0<M):0<=x%(M:Int)/\x%(M:Int)<(M:Int):=⟨To _ (by lia),Ul _ (by lia)⟩
def zrA (K:X0):Sp:=fun vs H Q _=>∃(a:Addr) (ns:List Int) (st:Int) (R n:Nat),vs=[.ref a,.int st,.int (R:Nat),.int (n:Nat)]/\SqL K H a (ns.map V.int)/\0<=st/\1<=R/\R<=5/\1<=n/\n<=5 /\
 ∀(d:Addr) (ts:List Nat) (H':Hp),H d=none->H' d=some (.lst (cV ts))->ts.length=R*n->(∀c∈ts,c∈sg4)->ts.countP QS<=10->zq H H'->Q (.ref d) H'
theorem jh:zD ["_law_script","_law_start","_law_rows","_law_columns","_law_many","_law_signs_here","_law_k","_law_cell","_law_holes"] ["_law_script","_law_start","_law_rows","_law_columns"] (zj JW):=bz rfl rfl rfl rfl (by decide +kernel)
theorem zff (T:Txt mg)(Z:Prog K mg)(D:zm K mg "_law_signs" JW ["_law_script","_law_start","_law_rows","_law_columns"] f fd):zY P w K mg base CX0 2 f fd ["_law_script","_law_start","_law_rows","_law_columns"] (zrA K):=by
 obtain⟨xC,yL,zP⟩:=Z.law_cell_at;have qT:zY P w K mg base CX0 1 xC yL ["_law_script","_law_k"] (zhE K):=yJ T zP;refine D.F.ok jh (fun vs H Q E h=>?_) (fun cdv A outer s H vs Q E hr h=>?_)
 ·obtain⟨a,ns,st,R,n,rfl,_⟩:=h;rfl
 ·obtain⟨a,ns,st,R,n,rfl,hS,st0,r1,r5,n1,n5,q⟩:=h;have m1:0<R*n:=Nat.mul_pos (by lia) (by lia);have m25:R*n<=5*5:=TZ r5 n5;refine⟨_,(ze (zv (i:=4) jh.nd rfl (XH rfl) (zx yH (pvS 2) (pvS 3)))
   (ze (zv (i:=5) jh.nd rfl (XH rfl) (zx zhb (qa (za qw zc)) (pvS 4)))
   (ze (qg Xb rfl (qB (by rfl) T.qQ (za (zx jk (zx jm (pc0 qT hr zP (za (pvS 0) (za (pvS 1) zc))) zo) zo) zc)) (zk (i:=6) jh.nd rfl (XH rfl)) (ze (zv (i:=7) jh.nd rfl (XH rfl) (pc0 qT hr zP (za (pvS 0) (za (zx qb (zx qb (pvS 1) zo) (pvS 6)) zc))))
   (zh (zbZ (qq je (qa (za qw (za qw zc))) (zx jk (zx jm (pvS 7) (pvS 4)) zo) (fun _ _=>rfl)) (zg4 (pvS 5) (zx jk (pvS 7) (pvS 4)) set_list)))))
   (ze (zv (i:=8) jh.nd rfl (XH rfl) (zx jm (pc0 qT hr zP (za (pvS 0) (za (zx qb (pvS 1) zo) zc))) zo))
   (ze (qg Xb rfl (qB (by rfl) T.qQ (za (zx jk (pc0 qT hr zP (za (pvS 0) (za (zx qb (pvS 1) zo) zc))) zo) zc)) (zk (i:=6) jh.nd rfl (XH rfl)) (YU (qS (zQ xU (qq je (pvS 5) (zx jk (pvS 8) (pvS 4)) (fun _ _=>rfl)) qw (zT _)) (zh (zbZ qw (zg4 (pvS 5) (zx jk (pvS 8) (pvS 4)) set_list))) zV)
   (zh (zv (i:=8) jh.nd rfl (XH rfl) (zx jm (pvS 8) (pvS 4))))))
   (zh (zF (pvS 5)))))))),?_⟩
  refine⟨_,rfl,_,rfl,_,_,rfl,rfl,zeJ (by lia) (by lia),?_⟩;show yE 4 (V.int ((R*n:Nat):Int)) _ _ _;generalize hM:R*n=M at *
  refine⟨sz_1,fun l0 hl0=>?_⟩;have s0:=zd (o:=.lst [.str "."]) hl0;refine⟨_,rfl,l0,_,_,rfl,rfl,zb,by lia,by lia,?_,fun d hd=>?_⟩
  ·exact X4 (show 1*((M:Nat):Int).toNat<=120 by lia) (by decide)
  rw[WM,zpI];have s1:=s0.trans (zd (o:=.lst (cV (WN M 46))) hd);have hd0:H d=none:=s0.free hd;have hd1:upd (upd H l0 (.lst [.str "."])) d (.lst (cV (WN M 46))) d=some (.lst (cV (WN M 46))):=zb;generalize upd (upd H l0 (.lst [.str "."])) d (.lst (cV (WN M 46)))=H1 at *
  refine⟨_,rfl,_,rfl,a,ns,_,rfl,s1.seq hS,st0,fun c0=>⟨_,_,rfl,rfl,Jt.small (by decide) (by decide),_,_,rfl,rfl,(by show (0:Int)<11;decide),?_⟩⟩;obtain⟨k0,k1⟩:=YI (x:=c0/64) (M:=11) (by decide);refine⟨_,rfl,by lia,by lia,?_⟩;refine qC (lo:=0) (n:=(c0/64%11).toNat) (fun i σ H'=>∃(ts:List Nat) (v6 v7:Option V),σ=[some (.ref a),some (.int st),some (.int (R:Nat)),some (.int (n:Nat)),some (.int (M:Nat)),some (.ref d),v6,v7,none]/\zq H H'/\H' d=some (.lst (cV ts))/\ts.length=M/\(∀c∈ts,c∈sg4)/\ts.countP QS<=i)
   ⟨WN M 46,_,_,rfl,s1,hd1,Pp,fun c hc=>by rw[(List.mem_replicate.mp hc).2];decide,by rw[Pm];simp[QS]⟩ ?_ ?_
  ·rintro i σ H2 hi ⟨ts,v6,v7,rfl,s2,hd2,tl,tm,tc⟩;refine⟨_,rfl,_,rfl,_,_,rfl,rfl,_,rfl,_,_,rfl,rfl,a,ns,_,rfl,s2.seq hS,by lia,fun c=>?_⟩;obtain⟨e0,e1⟩:=YI (x:=c) (M:=M) m1;obtain⟨ch,hch,hc4⟩:=znN (c/(M:Int));refine⟨ZV,fun ml hml=>?_⟩;have z3:=zd (o:=.lst [.str "?",.str "o"]) hml;refine⟨_,rfl,_,rfl,_,_,rfl,rfl,Jt.small (by lia) (by lia),_,_,rfl,rfl,(by show (0:Int)<2;decide),ml,_,_,_,rfl,rfl,SqL.of zb,hch,?_⟩;refine⟨_,rfl,_,rfl,_,rfl,_,_,rfl,rfl,(by lia),d,_,_,_,rfl,rfl,z3 _ _ hd2,zcB e0 (by rw[zcP,tl];exact e1),?_⟩;refine⟨ts.set (c%(M:Int)).toNat ch,_,_,rfl,fun b o e=>?_,?_,?_,mem_set hc4 tm _,?_⟩
   ·rw[zf (zg e hd0)];exact z3 _ _ (s2 _ _ e)
   ·rw[zb,zhX]
   ·rw[R4,tl]
   ·refine X4 (xB QS ch ts _) ?_;split<;>lia
  rintro σ H2 ⟨ts,v6,v7,rfl,s2,hd2,tl,tm,tc⟩;have tc10:ts.countP QS<=10:=by lia
  refine⟨_,rfl,_,rfl,_,_,rfl,rfl,a,ns,_,rfl,s2.seq hS,by lia,fun c1=>⟨_,_,rfl,rfl,Jt.small (by decide) (by decide),?_⟩⟩;refine⟨_,rfl,_,rfl,_,_,rfl,rfl,a,ns,_,rfl,s2.seq hS,by lia,fun c2=>⟨_,_,rfl,rfl,(by show (0:Int)<4;decide),?_⟩⟩;obtain⟨h0,h1⟩:=YI (x:=c2) (M:=4) (by decide);refine⟨_,rfl,by lia,by lia,?_⟩;refine qC (lo:=0) (n:=(c2%4).toNat) (fun i σ H'=>∃(ts:List Nat) (v6 v7:Option V) (ho:Int),σ=[some (.ref a),some (.int st),some (.int (R:Nat)),some (.int (n:Nat)),some (.int (M:Nat)),some (.ref d),v6,v7,some (.int ho)]/\zq H H'/\H' d=some (.lst (cV ts))/\ts.length=M/\(∀c∈ts,c∈sg4)/\ts.countP QS<=10)
   ⟨ts,_,_,_,rfl,s2,hd2,tl,tm,tc10⟩ ?_ ?_
  ·rintro i σ H3 hi ⟨us,w6,w7,ho,rfl,s3,hd3,ul,um,uc⟩;obtain⟨e0,e1⟩:=YI (x:=ho) (M:=M) m1;have jl:(ho%(M:Int)).toNat<us.length:=by lia
   refine⟨fun σ' H'=>∃(ts:List Nat),σ'=[some (.ref a),some (.int st),some (.int (R:Nat)),some (.int (n:Nat)),some (.int (M:Nat)),some (.ref d),some (.int (0+(i:Int))),w7,some (.int ho)]/\zq H H'/\H' d=some (.lst (cV ts))/\ts.length=M/\(∀c∈ts,c∈sg4)/\ts.countP QS<=10,?_,?_⟩
   ·refine⟨_,rfl,_,rfl,_,rfl,_,_,rfl,rfl,(by lia),d,_,_,_,rfl,rfl,SqL.of hd3,jP e0 (zgE jl),rfl,_,rfl,zeI (fun hc=>?_) (fun _=>?_)⟩
    ·refine⟨_,rfl,_,rfl,_,rfl,_,_,rfl,rfl,(by lia),d,_,_,_,rfl,rfl,hd3,zcB e0 (by rw[zcP,ul];exact e1),?_⟩;refine⟨us.set (ho%(M:Int)).toNat 35,rfl,fun b o e=>?_,?_,?_,mem_set (by decide) um _,?_⟩
     ·rw[zf (zg e hd0)];exact s3 _ _ e
     ·rw[zb,znM,zhX]
     ·rw[R4,ul]
     ·refine X4 (xB QS 35 us _) ?_;rw[bq (by decide)];exact uc
    ·exact⟨us,rfl,s3,hd3,ul,um,uc⟩
   rintro σ' H4 ⟨ts',rfl,s4,hd4,tl4,tm4,tc4⟩;exact⟨_,rfl,_,rfl,_,_,rfl,rfl,Jt.small (by lia) (by lia),ts',_,_,_,rfl,s4,hd4,tl4,tm4,tc4⟩
  rintro σ H3 ⟨us,w6,w7,ho,rfl,s3,hd3,ul,um,uc⟩;exact⟨_,rfl,q d us H3 hd0 hd3 ul um uc s3⟩
theorem ZG:bd.cps.toList=[63,48,49,50,51,52,53,54,55,56,35]:=by decide +kernel
def zrB:Sp:=fun vs H Q _=>∃(l:Addr) (ts:List Nat) (R n:Nat),vs=[.ref l,.int (R:Nat),.int (n:Nat)]/\H l=some (.lst (cV ts))/\ts.length=R*n/\(∀c∈ts,c∈sg4)/\ts.countP QS<=10/\1<=R/\R<=5/\1<=n/\n<=5 /\
 ∀(d:Addr) (us:List Nat) (H':Hp),H d=none->H' d=some (.lst (cV us))->us.length=R*n->(∀c∈us,c∈bd.cps.toList)->us.countP qO<=10->zq H H'->Q (.ref d) H'
theorem zkk {c:Nat}(h:c∈sg4):c=46\/c=63\/c=111\/c=35:=by
 simpa[sg4] using h
theorem zcQ {m:Nat}(h:m<=8):48+m∈bd.cps.toList:=by
 rw[ZG];have:∀m∈XF 9,48+m ∈ [63,48,49,50,51,52,53,54,55,56,35]:=by decide
 exact this m (Xl.mpr (by lia))
theorem zen {m:Nat}(h:m<=8):V.str (toString ((m:Nat):Int))=V.str ⟨#[48+m]⟩:=by
 have:=zlE (k:=48+m) (by lia) (by lia);rwa [show (((48+m:Nat):Int)-48)=((m:Nat):Int) by lia] at this
theorem zma {xs:List Nat}{i:Nat}{v:V}(h:(pV xs)[i]?=some v):∃x,xs[i]?=some x/\v=.int ((x:Nat):Int):=by
 unfold pV at h;rw[Xk] at h;cases e:xs[i]? with
 | none=>rw[e] at h;cases h
 | some x =>
  rw[e] at h;cases h;exact⟨x,rfl,rfl⟩
theorem J1 (c k:Nat):decide (V.str ⟨#[c]⟩=V.str ⟨#[k]⟩)=decide (c=k):=decide_eq_decide.mpr (by rw[QK])
theorem j5:zD ["_law_signs_here","_law_rows","_law_columns","_law_found","_law_at","_law_sign"] ["_law_signs_here","_law_rows","_law_columns"] (zj xG):=bz rfl rfl rfl rfl (by decide +kernel)
theorem zfg (T:Txt mg)(Z:Prog K mg)(D:zm K mg "_law_texts" xG ["_law_signs_here","_law_rows","_law_columns"] f fd):zY P w K mg base CX0 2 f fd ["_law_signs_here","_law_rows","_law_columns"] zrB:=by
 obtain⟨zhY,zgF,JF⟩:=Z.law_near;refine D.F.ok j5 (fun vs H Q E h=>?_) (fun cdv A outer s H vs Q E hr h=>?_)
 ·obtain⟨l,ts,R,n,rfl,_⟩:=h;rfl
 ·obtain⟨l,ts,R,n,rfl,hl,tl,tm,tc,r1,r5,n1,n5,q⟩:=h;have m25:R*n<=5*5:=TZ r5 n5;refine⟨_,(ze (zv (i:=3) j5.nd rfl (XH rfl) (qa zc))
   (ze (qg Xb rfl (qB (by rfl) T.qQ (za (zx yH (pvS 1) (pvS 2)) zc)) (zk (i:=4) j5.nd rfl (XH rfl)) (ze (zv (i:=5) j5.nd rfl (XH rfl) (qq je (pvS 0) (pvS 4) (fun _ _=>rfl)))
   (YU (qS (zQ xU (pvS 5) qw (zT _)) (zh (zv (i:=5) j5.nd rfl (XH rfl) (jD Q6 (by rfl) T.zoj Ph (za (zp zJ (by rfl) T.jB WP (za (qj (N:=["_law_one","_law_signs_here"]) (src:=[none,some 0]) (zO.free (O:=(zj xG).names) (XN:=["_law_signs_here","_law_rows","_law_columns","_law_found","_law_at","_law_sign"]) rfl rfl ⟨_,rfl⟩ rfl rfl (by decide +kernel) (by decide +kernel) (by decide +kernel) rfl (by decide +kernel)) rfl (zK (pc0 (zbo T JF) hr JF (za (pvS 4) (za (pvS 1) (za (pvS 2) zc))))) (fun _ _ _ _ _=>(zk (i:=0) (by show WY (["_law_one","_law_signs_here"]:List Str);decide +kernel) rfl (XH rfl))) (fun _ _ _ _ _=>(qm (zQ xU (qq (YY (K:=K) (by rfl)) (pvS 1) (pvS 0) (fun _ _=>rfl)) qw (zT _)))) (fun _ _ _ _ _=>(pvS 0))) zc)) zc)))) zV)
   (YU (qS (zQ xU (pvS 5) qw (zT _)) (zh (zv (i:=5) j5.nd rfl (XH rfl) qw)) zV)
   (zh (jK (yG WW Wr Wq jv (pvS 3) (za (pvS 5) zc))))))))
   (zh (zF (pvS 3))))),?_⟩
  refine⟨JJ,fun d hd=>?_⟩;have s0:zq H (upd H d (.lst [])):=zd hd;have em:(((R:Nat):Int)*((n:Nat):Int))=((R*n:Nat):Int):=(US R n).symm;refine⟨_,rfl,_,rfl,_,_,rfl,rfl,zeJ (by lia) (by lia),_,rfl,by lia,by lia,?_⟩;refine qC (lo:=0) (n:=(((R:Nat):Int)*((n:Nat):Int)).toNat) (fun i σ H'=>∃(us:List Nat) (v4 v5:Option V),σ=[some (.ref l),some (.int (R:Nat)),some (.int (n:Nat)),some (.ref d),v4,v5]/\zq H H'/\H' d=some (.lst (cV us))/\us.length=i/\(∀c∈us,c∈bd.cps.toList)/\us.countP qO<=(ts.take i).countP QS)
   ⟨[],_,_,rfl,s0,zb,rfl,(fun _ h=>nomatch h),W4 _⟩ ?_ ?_
  ·rintro i σ H1 hi ⟨us,v4,v5,rfl,s1,hd1,ul,um,uc⟩;have iM:i<R*n:=by lia
   have jl:i<ts.length:=by lia
   have c4:=tm _ (getD_mem jl);have tk:(ts.take (i+1)).countP QS=(ts.take i).countP QS+if QS (ts.getD i 0)=true then 1 else 0:=by
    rw[Xu,Vm,XX jl,Xx,XX jl];show _+S8 QS [_]=_;rw[WQ,R0,VP];rfl
   rw[show (0:Int)+(i:Nat)=((i:Nat):Int) by lia];refine⟨_,rfl,_,rfl,l,_,_,_,rfl,rfl,SqL.of (s1 _ _ hl),jP (by lia) (by rw[WM];exact zgE jl),?_⟩;generalize hc:ts.getD i 0=c at *
   refine⟨fun σ' H'=>∃(k:Nat),σ'=[some (.ref l),some (.int (R:Nat)),some (.int (n:Nat)),some (.ref d),some (.int ((i:Nat):Int)),some (.str ⟨#[k]⟩)]/\zq H1 H'/\(c=46->48<=k/\k<=56)/\(c≠46->k=c),?_,?_⟩
   ·refine⟨_,rfl,rfl,_,rfl,zeI (fun hx=>?_) (fun hx=>?_)⟩
    ·rw[zl9,J1] at hx;have e46:c=46:=bh hx;refine⟨_,rfl,_,rfl,_,rfl,i,R,n,rfl,r5,n1,n5,iM,fun np H2 hnp zqV s2=>⟨np,rfl,⟨_,SqL.of zqV⟩,fun z hz=>?_⟩⟩;refine qf (K:=K) (a:=np) (xs:=pV (xV R n i)) (fun j σ' H'=>∃(u0:Option V) (ys:List V),σ'=[u0,some (.ref l)]/\zq H2 H'/\H' z=some (.lst ys)/\ys.length<=j)
      ⟨_,[],rfl,zd hz,zb,W4 _⟩ (fun j σ' H' _ ⟨_,_,_,y,_⟩=>SqL.of (y _ _ zqV)) ?_ ?_
     ·rintro j v σ' H3 hv ⟨u0,ys,rfl,s3,hz3,yl⟩;obtain⟨x,hx',rfl⟩:=zma hv;have xm:=Xl.mp (X6.mp (XY hx')).1;have jn:=(X2.mp hx').1;have n8:=zcO r5 n5 iM;refine⟨_,rfl,_,rfl,l,_,_,_,rfl,rfl,SqL.of (s3 _ _ (s2 _ _ (s1 _ _ hl))),jP (by lia) (by rw[WM];exact zgE (j:=x) (by lia)),rfl,_,rfl,zeI (fun _=>?_) (fun _=>?_)⟩
      ·refine⟨_,rfl,_,hz3,XA (show _<=64 by lia) (by decide),_,_,rfl,fun b o e=>?_,zb,?_⟩
       ·rw[zf (zg e hz)];exact s3 _ _ e
       ·rw[X5];show _+1<=_;lia
      ·exact⟨_,ys,rfl,s3,hz3,by lia⟩
     rintro σ' H3 ⟨u0,ys,rfl,s3,hz3,yl⟩;have n8:=zcO r5 n5 iM;have y8:ys.length<=8:=by
      unfold pV at yl;rw[ZB] at yl;lia
     refine⟨z,ys,rfl,.inl (SqL.of hz3),_,rfl,?_,?_⟩
     ·show (((ys.length:Nat):Int).natAbs).log2<1920;rw[RI];exact XA (Nat.log2_le_self _) (by lia)
     ·exact⟨48+ys.length,congrArg (fun v=>[some (V.ref l),some (.int (R:Nat)),some (.int (n:Nat)),some (.ref d),some (.int ((i:Nat):Int)),some v]) (zen y8),s2.trans s3,fun _=>by lia,fun h=>absurd e46 h⟩
    ·rw[zl9,J1] at hx;have e46:c≠46:=fun e=>hx (br e);exact⟨c,rfl,zq.refl _,fun e=>absurd e e46,fun _=>rfl⟩
   rintro σ' H2 ⟨k,rfl,s2,k1,k2⟩;refine⟨fun σ' H'=>σ'=[some (.ref l),some (.int (R:Nat)),some (.int (n:Nat)),some (.ref d),some (.int ((i:Nat):Int)),some (.str ⟨#[if k=111 then 63 else k]⟩)]/\H'=H2,?_,?_⟩
   ·refine⟨_,rfl,rfl,_,rfl,zeI (fun hx=>?_) (fun hx=>?_)⟩
    ·rw[zpJ,J1] at hx;rw[bw (bh hx)];exact⟨congrArg (fun v=>[some (V.ref l),some (.int (R:Nat)),some (.int (n:Nat)),some (.ref d),some (.int ((i:Nat):Int)),some (V.str v)]) Z3,rfl⟩
    ·rw[zpJ,J1] at hx;rw[bq fun e=>hx (br e)];exact⟨rfl,rfl⟩
   rintro σ' H3 ⟨rfl,rfl⟩;have kk:(if k=111 then 63 else k)∈bd.cps.toList/\(if qO (if k=111 then 63 else k)=true then 1 else 0)<=(if QS c=true then 1 else 0):=by
    rcases zkk c4 with e | e | e | e
    ·obtain⟨a1,a2⟩:=k1 e;rw[bq (by lia),show k=48+(k-48) by lia];refine⟨zcQ (by lia),?_⟩;rw[bq (by unfold qO;rw[bu];lia)];exact W4 _
    ·rw[k2 (by lia),e];exact⟨by rw[ZG];decide,by decide⟩
    ·rw[k2 (by lia),e];exact⟨by rw[ZG];decide,by decide⟩
    ·rw[k2 (by lia),e];exact⟨by rw[ZG];decide,by decide⟩
   generalize (if k=111 then 63 else k)=k' at *
   have hd3:=s2 _ _ hd1;refine⟨_,rfl,.inl ⟨rfl,_,SqL.of hd3⟩,_,rfl,d,_,_,rfl,rfl,hd3,?_,us++[k'],_,_,rfl,fun b o e=>?_,?_,?_,fun x hx=>?_,?_⟩
   ·rw[zcP,ul];exact XJ (show i<64 by lia) (by decide)
   ·rw[zf (zg e hd)];exact s2 _ _ (s1 _ _ e)
   ·rw[zb];unfold cV;rw[XC];rfl
   ·rw[X5,ul];rfl
   ·rcases XO.mp hx with hx | hx
    ·exact um x hx
    ·have:x=k':=by simpa using hx
     rw[this];exact kk.1
   ·rw[Vm,tk];refine SL uc ?_;rw[WQ,R0,VP];exact kk.2
  ·rintro σ H1 ⟨us,v4,v5,rfl,s1,hd1,ul,um,uc⟩;rw[em,WM] at ul;refine⟨_,rfl,q d us H1 hd hd1 ul um (X4 uc (X4 (T7 _ ts).countP_le tc)) s1⟩
theorem zi9:("0":Str)=⟨#[48]⟩:=by decide +kernel
theorem zcR (a b:Str):(a++b).cps.toList=a.cps.toList++b.cps.toList:=by
 have e:(a++b).cps=a.cps++b.cps:=rfl;rw[e,Wv]
theorem zeo (p:Nat->Bool)(i:Nat):∀(j:Nat) (t:List Nat),(Cells.zZ p i j t).length=t.countP p
 | _,[]=>rfl
 | j,c::r=>by
  rw[Cells.zZ,X5,zeo p i (j+1) r,WQ];split<;>simp<;>lia
theorem zep (p:Nat->Bool):∀(i:Nat) (gs:List (List Nat)),(Cells.zI p i gs).length=gs.flatten.countP p
 | _,[]=>rfl
 | i,t::r=>by rw[Cells.zI,X5,zeo,zep p (i+1) r,Wm,Vm]
theorem zeq (rs:List Str):(zM rs).length=(codes rs).flatten.countP qO:=zep qO 0 (codes rs)
theorem zhZ (rs:List Str)(t:Str):(codes (rs++[t])).flatten=(codes rs).flatten++t.cps.toList:=by
 unfold codes;rw[XC,WD];simp
theorem zpK (x:Int):∃c:Nat,atI ("??#012345678":Str).cps.toList (x%12)=some c/\c∈bd.cps.toList:=by
 have e:("??#012345678":Str).cps.toList=[63,63,35,48,49,50,51,52,53,54,55,56]:=by decide +kernel
 rw[e,ZG];have a0:=To x (show (12:Int)≠0 by decide);have a1:=Ul x (show (0:Int)<12 by decide);have t:∀m∈XF 12,((atI [63,63,35,48,49,50,51,52,53,54,55,56] ((m:Nat):Int)).any fun c=>[63,48,49,50,51,52,53,54,55,56,35].contains c)=true:=by decide +kernel
 have h:=t (x%12).toNat (Xl.mpr (by lia));rw[UE a0] at h;cases ha:atI [63,63,35,48,49,50,51,52,53,54,55,56] (x%12) with
 | none =>
  rw[ha] at h;cases h
 | some c =>
  rw[ha] at h;exact⟨c,rfl,List.contains_iff_mem.mp h⟩
def zqW (K:X0):Sp:=fun vs H Q _=>∃(a:Addr) (ns:List Int) (st:Int) (R n:Nat),vs=[.ref a,.int st,.int (R:Nat),.int (n:Nat)]/\SqL K H a (ns.map V.int)/\0<=st/\1<=R/\R<=5/\1<=n/\n<=5 /\
 ∀(p l:Addr) (rs:List Str) (c:Int) (H':Hp),qk H' p l rs c->rs.length=R->(∀t∈rs,Row bd.cps.toList n t)->(zM rs).length<=10->0<=c->c<=64->zq H H'->Q (.ref p) H'
theorem qN:zD ["_law_script","_law_start","_law_rows","_law_columns","_law_texts_here","_law_shut","_law_row","_law_number","_law_text","_law_column","_law_sign"] ["_law_script","_law_start","_law_rows","_law_columns"] (zj Y5):=bz rfl rfl rfl rfl (by decide +kernel)
theorem zh0 (T:Txt mg)(Z:Prog K mg)(D:zm K mg "_law_dug" Y5 ["_law_script","_law_start","_law_rows","_law_columns"] f fd):zY P w K mg base CX0 2 f fd ["_law_script","_law_start","_law_rows","_law_columns"] (zqW K):=by
 obtain⟨xC,yL,zP⟩:=Z.law_cell_at;refine D.F.ok qN (fun vs H Q E h=>?_) (fun cdv A outer s H vs Q E hr h=>?_)
 ·obtain⟨a,ns,st,R,n,rfl,_⟩:=h;rfl
 ·obtain⟨a,ns,st,R,n,rfl,hS,st0,r1,r5,n1,n5,q⟩:=h;refine⟨_,(ze (zv (i:=4) qN.nd rfl (XH rfl) (qa zc))
   (ze (zv (i:=5) qN.nd rfl (XH rfl) zo)
   (ze (qg Xb rfl (qB (by rfl) T.qQ (za (pvS 2) zc)) (zk (i:=6) qN.nd rfl (XH rfl)) (ze (zv (i:=7) qN.nd rfl (XH rfl) (pc0 (yJ T zP) hr zP (za (pvS 0) (za (zx qb (zx qb (pvS 1) zo) (pvS 6)) zc))))
   (ze (zv (i:=8) qN.nd rfl (XH rfl) qw)
   (ze (qg Xb rfl (qB (by rfl) T.qQ (za (pvS 3) zc)) (zk (i:=9) qN.nd rfl (XH rfl)) (ze (zv (i:=10) qN.nd rfl (XH rfl) (qq JV qw (zx jk (pvS 7) zo) (fun _ _=>rfl)))
   (ze (zv (i:=7) qN.nd rfl (XH rfl) (zx jm (pvS 7) zo))
   (YU (qS (PW.pt (zeE (zQ xU (pvS 10) qw (zT _)) (zbI (zQ xU (pvS 5) zo (zT _))))) (zh (zv (i:=10) qN.nd rfl (XH rfl) qw)) zV)
   (ze (zv (i:=5) qN.nd rfl (XH rfl) (zx qb (pvS 5) (jD zjq (by rfl) T.ziX T8 (za (Jc xU (pvS 10) qw (zT _)) zc))))
   (zh (zv (i:=8) qN.nd rfl (XH rfl) (zx zg9 (pvS 8) (pvS 10)))))))))
   (zh (jK (yG WW Wr Wq jv (pvS 4) (za (pvS 8) zc))))))))
   (zh (zF (j6 (za (pvS 4) (za (zx jk (pc0 (yJ T zP) hr zP (za (pvS 0) (za (zx qb (pvS 1) zo) zc))) (zx qb (pvS 5) zo)) zc)))))))),?_⟩
  refine⟨JJ,fun d hd=>?_⟩;have s0:zq H (upd H d (.lst [])):=zd hd;refine⟨_,rfl,_,rfl,by lia,by lia,?_⟩;refine qC (lo:=0) (n:=((R:Nat):Int).toNat) (fun i σ H'=>∃(rs:List Str) (m:Nat) (v6 v7 v8 v9 v10:Option V),σ=[some (.ref a),some (.int st),some (.int (R:Nat)),some (.int (n:Nat)),some (.ref d),some (.int (m:Nat)),v6,v7,v8,v9,v10]/\zq H H'/\H' d=some (.lst (rs.map V.str))/\rs.length=i/\(∀t∈rs,Row bd.cps.toList n t)/\(codes rs).flatten.countP qO=m/\m<=10)
   ⟨[],0,_,_,_,_,_,rfl,s0,zb,rfl,(fun _ h=>nomatch h),rfl,W4 _⟩ ?_ ?_
  ·rintro i σ H1 hi ⟨rs,m,v6,v7,v8,v9,v10,rfl,s1,hd1,rl,rr,rc,m10⟩;refine⟨_,rfl,_,rfl,_,_,rfl,rfl,_,rfl,_,_,rfl,rfl,a,ns,_,rfl,s1.seq hS,by lia,fun c=>?_⟩;refine⟨_,rfl,_,rfl,by lia,by lia,?_⟩;refine qC (lo:=0) (n:=((n:Nat):Int).toNat) (fun j σ H'=>∃(t:Str) (k:Nat) (x:Int) (v9 v10:Option V),σ=[some (.ref a),some (.int st),some (.int (R:Nat)),some (.int (n:Nat)),some (.ref d),some (.int (k:Nat)),some (.int (0+(i:Int))),some (.int x),some (.str t),v9,v10]/\H'=H1/\t.cps.toList.length=j/\(∀c∈t.cps.toList,c∈bd.cps.toList)/\m+t.cps.toList.countP qO=k/\k<=10)
    ⟨"",m,c,_,_,rfl,rfl,rfl,(by intro c hc;cases hc),rfl,m10⟩ ?_ ?_
   ·rintro j σ H2 hj ⟨t,k,x,w9,w10,rfl,rfl,tl,tm,tk,k10⟩;obtain⟨ch,hch,hcb⟩:=zpK x;refine⟨_,rfl,_,_,rfl,rfl,(by show (0:Int)<12;decide),_,_,ch,rfl,rfl,(by decide +kernel),hch,?_⟩;refine⟨_,rfl,_,_,rfl,rfl,Jt.small (by decide) (by decide),?_⟩;refine⟨fun σ' H'=>∃(e:Nat),σ'=[some (.ref a),some (.int st),some (.int (R:Nat)),some (.int (n:Nat)),some (.ref d),some (.int (k:Nat)),some (.int (0+(i:Int))),some (.int (x/12)),some (.str t),some (.int (0+(j:Int))),some (.str ⟨#[e]⟩)]/\H'=H2/\e∈bd.cps.toList/\(e=63->k<10),?_,?_⟩
    ·refine⟨_,rfl,rfl,_,rfl,?_⟩;have hb:decide (V.str ⟨#[ch]⟩=V.str "?")=decide (ch=63):=by rw[Z3,J1]
     by_cases hq:ch=63
     ·refine jJ (hb.trans (br hq)) ?_;refine⟨_,rfl,rfl,_,rfl,?_⟩;have hb2:decide (V.int ((k:Nat):Int)=V.int 10)=decide (k=10):=decide_eq_decide.mpr ⟨fun h=>by injection h with h;lia,fun h=>by rw[h];rfl⟩;by_cases hk:k=10
      ·refine jJ (hb2.trans (br hk)) ?_;refine⟨48,congrArg (fun v:Str=>[some (V.ref a),some (.int st),some (.int (R:Nat)),some (.int (n:Nat)),some (.ref d),some (.int (k:Nat)),some (.int (0+(i:Int))),some (.int (x/12)),some (.str t),some (.int (0+(j:Int))),some (V.str v)]) zi9,rfl,zcQ (m:=0) (by decide),fun e=>by lia⟩
      ·refine jj (hb2.trans (bg hk)) ?_;exact⟨ch,rfl,rfl,hcb,fun _=>by lia⟩
     ·refine jj (hb.trans (bg hq)) ?_;exact⟨ch,rfl,rfl,hcb,fun e=>absurd e hq⟩
    rintro σ' H3 ⟨e,rfl,rfl,eb,e10⟩;have hb:decide (V.str ⟨#[e]⟩=V.str "?")=decide (e=63):=by rw[Z3,J1]
    refine⟨_,rfl,_,rfl,rfl,.inr ⟨_,rfl,_,_,rfl,rfl,?_⟩⟩;refine⟨_,rfl,_,rfl,_,_,rfl,rfl,?_,?_⟩
    ·show t.cps.size+1<=Xv;have:t.cps.size=j:=by rw[<- tl,XZ]
     exact X4 (show _<=64 by lia) (by decide)
    ·have hv:V.int (((k:Nat):Int)+(if decide (V.str ⟨#[e]⟩=V.str "?")=true then 1 else 0))=V.int ((k+(if e=63 then 1 else 0):Nat):Int):=by
      rw[hb];by_cases h63:e=63
      ·rw[bw h63,br h63];rfl
      ·rw[bq h63,bg h63];rfl
     refine⟨t++⟨#[e]⟩,k+(if e=63 then 1 else 0),x/12,some (.int (0+(j:Int))),some (.str ⟨#[e]⟩),congrArg (fun v:V=>[some (V.ref a),some (.int st),some (.int (R:Nat)),some (.int (n:Nat)),some (.ref d),some v,some (.int (0+(i:Int))),some (.int (x/12)),some (.str (t++⟨#[e]⟩)),some (.int (0+(j:Int))),some (.str ⟨#[e]⟩)]) hv,rfl,?_,fun c hc=>?_,?_,?_⟩
     ·rw[zcR,X5,tl];rfl
     ·rw[zcR] at hc;rcases XO.mp hc with hc | hc
      ·exact tm c hc
      ·have:c=e:=by simpa using hc
       rw[this];exact eb
     ·rw[zcR,Vm,<- tk];have:S8 qO (⟨#[e]⟩:Str).cps.toList=if e=63 then 1 else 0:=by
       show S8 qO [e]=_;rw[WQ,R0,VP];unfold qO;by_cases h63:e=63
       ·rw[bw h63,bw (br h63)]
       ·rw[bq h63,bq (fun h=>h63 (bh h))]
      rw[this];lia
     ·by_cases h63:e=63
      ·rw[bw h63];exact e10 h63
      ·rw[bq h63];exact k10
   rintro σ H2 ⟨t,k,x,w9,w10,rfl,rfl,tl,tm,tk,k10⟩;rw[WM] at tl;refine⟨_,rfl,.inl ⟨rfl,_,SqL.of hd1⟩,_,rfl,d,_,_,rfl,rfl,hd1,?_,rs++[t],k,_,_,_,_,_,rfl,fun b o e=>?_,?_,?_,fun u hu=>?_,?_,k10⟩
   ·rw[ZB,rl];exact XJ (show i<64 by lia) (by decide)
   ·rw[zf (zg e hd)];exact s1 _ _ e
   ·rw[zb,XC];rfl
   ·rw[X5,rl];rfl
   ·rcases XO.mp hu with hu | hu
    ·exact rr u hu
    ·have:u=t:=by simpa using hu
     rw[this];exact⟨by rw[<- tl,XZ],tm⟩
   ·rw[zhZ,Vm,rc,tk]
  rintro σ H1 ⟨rs,m,v6,v7,v8,v9,v10,rfl,s1,hd1,rl,rr,rc,m10⟩;rw[WM] at rl;refine⟨_,rfl,_,rfl,_,rfl,_,_,rfl,rfl,a,ns,_,rfl,s1.seq hS,by lia,fun c=>⟨_,rfl,_,_,rfl,rfl,_,_,rfl,rfl,(by lia),ZV,fun p hp=>?_⟩⟩;have z2:=zd (o:=.tup [.ref d,.int (c%(((m:Nat):Int)+2))]) hp;have c0:=To c (show ((m:Nat):Int)+2≠0 by lia);have c1:=Ul c (show 0<((m:Nat):Int)+2 by lia);exact q p d rs _ _ ⟨zb,z2 _ _ hd1⟩ rl rr (by rw[zeq,rc];exact m10) c0 (by lia) (s1.trans z2)
theorem zkl {u:Nat}(h:u∈bd.cps.toList)(k:(!(!(Vc ("?#":Str) ⟨#[u]⟩ 0 ("?#":Str).length 1).isEmpty))=true):48<=u/\u<=56:=by
 have:∀u∈bd.cps.toList,(!(!(Vc ("?#":Str) ⟨#[u]⟩ 0 ("?#":Str).length 1).isEmpty))=true->48<=u/\u<=56:=by decide +kernel
 exact this u h k
theorem join_one:∀ts:List Nat,(UQ "" (ts.map fun c=>(⟨#[c]⟩:Str)))=⟨ts.toArray⟩
 | []=>rfl
 | [c]=>rfl
 | c::c'::r=>by
  have ih:=join_one (c'::r);show (⟨#[c]⟩:Str)++("":Str)++UQ "" ((c'::r).map fun c=>(⟨#[c]⟩:Str))=_;rw[ih];have e:((⟨#[c]⟩:Str)++("":Str))=⟨#[c]⟩:=by
   show (⟨#[c]++("":Str).cps⟩:Str)=_;have:("":Str).cps=#[]:=by decide +kernel
   rw[this];rfl
  rw[e];show (⟨#[c]++(c'::r).toArray⟩:Str)=⟨(c::c'::r).toArray⟩;congr 1;apply P9.mp;rw[Wv];rfl
def rowOf (us:List Nat)(n k:Nat):List Nat:=(us.drop (n*k)).take n
def rowsOf (us:List Nat)(n R:Nat):List Str:=(XF R).map fun k=>(⟨(rowOf us n k).toArray⟩:Str)
theorem zfh (us:List Nat)(n R:Nat):codes (rowsOf us n R)=(XF R).map (rowOf us n):=by
 unfold codes rowsOf;rw[WJ];rfl
theorem zbp (us:List Nat)(n:Nat):∀R,((XF R).map (rowOf us n)).flatten=us.take (n*R)
 | 0=>by simp
 | R+1=>by
  rw[Vt,XC,WD,zbp us n R];show _++(rowOf us n R++[])=_;rw[Xh];unfold rowOf;rw[Ol,List.take_add]
theorem zer {us:List Nat}{n R k:Nat}(h:us.length=R*n)(hk:k<R):(rowOf us n k).length=n:=by
 unfold rowOf;rw[Xw,Vp,h];have:n*k+n<=R*n:=by
  rw[<- Ol,SX];exact O0 n hk
 lia
theorem znO {us:List Nat}{n R k:Nat}(h:us.length=R*n)(hk:k<R):zbv (cV us) (some (((n*k:Nat):Nat):Int)) (some (((n*k+n:Nat):Nat):Int))=cV (rowOf us n k):=by
 have:n*k+n<=R*n:=by
  rw[<- Ol,SX];exact O0 n hk
 unfold zbv rowOf;rw[zcP,HT.zbJ,HT.zbJ,Uf (by lia),Uf (by lia),show n*k+n-n*k=n by lia];unfold cV;rw[Rm,OF]
theorem zqX (x:Int):∃z:Int,atI [V.int 0,V.int 0,V.int 0,V.int 1,V.int (-1),V.int 0] (x%6)=some (.int z)/\z<=1:=by
 have a0:=To x (show (6:Int)≠0 by decide);have a1:=Ul x (show (0:Int)<6 by decide);have t:∀m∈XF 6,∃z ∈ [(0:Int),1,-1],atI [V.int 0,V.int 0,V.int 0,V.int 1,V.int (-1),V.int 0] ((m:Nat):Int)=some (.int z):=by decide +kernel
 obtain⟨z,h1,h2⟩:=t (x%6).toNat (Xl.mpr (by lia));rw[UE a0] at h2;have t2:∀z ∈ [(0:Int),1,-1],z<=1:=by decide
 exact⟨z,h2,t2 z h1⟩
structure Brd (rs:List Str):Prop where
 r1:1<=rs.length
 r5:rs.length<=5
 ex:∃n,1<=n/\n<=5/\∀t∈rs,Row bd.cps.toList n t
 sh:(zM rs).length<=10
theorem Brd.rows {rs:List Str}(B:Brd rs):Rows bd.cps.toList rs:=by
 obtain⟨n,h1,h2,h3⟩:=B.ex;exact⟨B.r1,X4 B.r5 (by decide),n,h1,by lia,h3⟩
def zqY (K:X0):Sp:=fun vs H Q _=>∃(a:Addr) (ns:List Int) (st:Int),vs=[.ref a,.int st]/\SqL K H a (ns.map V.int)/\0<=st /\
 ∀(p l:Addr) (rs:List Str) (c:Int) (H':Hp),qk H' p l rs c->Brd rs->0<=c->c<=64->zq H H'->Q (.ref p) H'
theorem qH:zD ["_law_script","_law_start","_law_head","_law_rows","_law_columns","_law_bent","_law_signs_here","_law_told_here","_law_stones","_law_at","_law_texts_here"] ["_law_script","_law_start"] (zj xH):=bz rfl rfl rfl rfl (by decide +kernel)
theorem zfi (T:Txt mg)(Z:Prog K mg)(D:zm K mg "_law_board" xH ["_law_script","_law_start"] f fd):zY P w K mg base CX0 3 f fd ["_law_script","_law_start"] (zqY K):=by
 obtain⟨xC,yL,zP⟩:=Z.law_cell_at;obtain⟨zon,znP,zbq⟩:=Z.law_signs;obtain⟨zoo,znQ,zbr⟩:=Z.law_texts;obtain⟨zp0,zpL,zes⟩:=Z.law_dug;have qT:zY P w K mg base CX0 1 xC yL ["_law_script","_law_k"] (zhE K):=yJ T zP;refine D.F.ok qH (fun vs H Q E h=>?_) (fun cdv A outer s H vs Q E hr h=>?_)
 ·obtain⟨a,ns,st,rfl,_⟩:=h;rfl
 ·obtain⟨a,ns,st,rfl,hS,st0,q⟩:=h;refine⟨_,(ze (zv (i:=2) qH.nd rfl (XH rfl) (pc0 qT hr zP (za (pvS 0) (za (pvS 1) zc))))
   (ze (zv (i:=3) qH.nd rfl (XH rfl) (zx qb zo (zx jk (pvS 2) zo)))
   (ze (zv (i:=4) qH.nd rfl (UU rfl) (zx qb zo (zx jk (zx jm (pvS 2) zo) zo)))
   (ze (zv (i:=5) qH.nd rfl (XH rfl) (zx jm (pc0 qT hr zP (za (pvS 0) (za (zx qb (pvS 1) zo) zc))) zo))
   (ze (qS (zQ xU (zx jk (pc0 qT hr zP (za (pvS 0) (za (zx qb (pvS 1) zo) zc))) zo) zo (zT _)) (zh (zF (pc0 (zh0 T Z zes) hr zes (za (pvS 0) (za (pvS 1) (za (pvS 3) (za (pvS 4) zc))))))) zV)
   (ze (zv (i:=6) qH.nd rfl (XH rfl) (pc0 (zff T Z zbq) hr zbq (za (pvS 0) (za (pvS 1) (za (pvS 3) (za (pvS 4) zc))))))
   (ze (zv (i:=7) qH.nd rfl (UU rfl) (pc0 (zfg T Z zbr) hr zbr (za (pvS 6) (za (pvS 3) (za (pvS 4) zc)))))
   (ze (zv (i:=8) qH.nd rfl (XH rfl) (zp (Zc rfl) (by rfl) T.zgi UW (za zo (za (zx qb (yG WW PY PX zkP (pvS 6) (za qw zc)) (qq je (qa (za zo (za zo (za zo (za zo (za (zqc zoO zo) (za zo zc))))))) (zx jk (pvS 5) zo) (fun _ _=>rfl))) zc))))
   (ze (zv (i:=9) qH.nd rfl (XH rfl) (zx jk (zx jm (pvS 5) zo) (zx yH (pvS 3) (pvS 4))))
   (YU (qS (PW.pt (zeE (zQ xU (zx jk (zx jm (pvS 5) zo) zo) zo (zT _)) (zbI (zQ zaa (qq je (pvS 7) (pvS 9) (fun _ _=>rfl)) qw (by rfl))))) (zh (zbZ (jD Q6 (by rfl) T.zoj Ph (za (zx jk (zx qb (zx qb (jD ZO (by rfl) T.ziX T8 (za (qq je (pvS 7) (pvS 9) (fun _ _=>rfl)) zc)) zo) (zx jk (zx jm (pvS 5) zo) zo)) zo) zc)) (zg4 (pvS 7) (pvS 9) set_list))) zV)
   (ze (Je (i:=10) qH.nd rfl rfl (N:=["_law_k","_law_told_here","_law_columns"]) (src:=[none,some 7,some 4]) (zO.free (O:=(zj xH).names) (XN:=["_law_script","_law_start","_law_head","_law_rows","_law_columns","_law_bent","_law_signs_here","_law_told_here","_law_stones","_law_at","_law_texts_here"]) rfl rfl ⟨_,rfl⟩ rfl rfl (by decide +kernel) (by decide +kernel) (by decide +kernel) rfl (by decide +kernel)) rfl (qB (by rfl) T.qQ (za (pvS 3) zc)) (fun _ _ _ _ _=>(zk (i:=0) (by show WY (["_law_k","_law_told_here","_law_columns"]:List Str);decide +kernel) rfl (XH rfl))) (fun _ _ _ _ _=>qW) (fun _ _ _ _ _=>(zph (K:=K) (by rfl) Ss Sm Sk (zlm (K:=K) (by rfl)) qw (za (zb1 (zf5 (K:=K) (by rfl)) (pvS 1) (zbK (zx yH (pvS 2) (pvS 0))) (zbK (zx qb (zx yH (pvS 2) (pvS 0)) (pvS 2)))) zc))))
   (zh (zF (j6 (za (pvS 10) (za (pvS 8) zc)))))))))))))))),?_⟩
  refine⟨_,rfl,_,rfl,a,ns,_,rfl,hS,st0,fun c=>?_⟩;refine⟨_,rfl,_,_,rfl,rfl,(by show (0:Int)<5;decide),_,_,rfl,rfl,?_⟩;show yE 3 (V.int (1+c%5)) _ _ _;obtain⟨x0,x1⟩:=YI (x:=c) (M:=5) (by decide);obtain⟨R,hR⟩:∃R:Nat,1+c%5=(R:Int):=⟨(1+c%5).toNat,by lia⟩;rw[hR];refine⟨_,rfl,_,_,rfl,rfl,Jt.small (by decide) (by decide),_,_,rfl,rfl,(by show (0:Int)<5;decide),_,_,rfl,rfl,?_⟩;show yE 4 (V.int (1+c/5%5)) _ _ _;obtain⟨y0,y1⟩:=YI (x:=c/5) (M:=5) (by decide);obtain⟨n,hn⟩:∃n:Nat,1+c/5%5=(n:Int):=⟨(1+c/5%5).toNat,by lia⟩;rw[hn];have r1:1<=R:=by lia
  have r5:R<=5:=by lia
  have n1:1<=n:=by lia
  have n5:n<=5:=by lia
  have m1:0<R*n:=Nat.mul_pos (by lia) (by lia);have m25:R*n<=5*5:=TZ r5 n5;refine⟨_,rfl,_,rfl,_,_,rfl,rfl,a,ns,_,rfl,hS,by lia,fun c2=>⟨_,_,rfl,rfl,Jt.small (by decide) (by decide),?_⟩⟩;show yE 5 (V.int (c2/2)) _ _ _;generalize c2/2=bent;refine⟨_,rfl,_,rfl,_,_,rfl,rfl,a,ns,_,rfl,hS,by lia,fun c3=>⟨_,_,rfl,rfl,(by show (0:Int)<2;decide),rfl,_,rfl,zeI (fun _=>?_) (fun _=>?_)⟩⟩
  ·refine⟨_,rfl,_,rfl,_,rfl,_,rfl,a,ns,st,R,n,rfl,hS,st0,r1,r5,n1,n5,fun p l rs b H1 B rl rr sh b0 b1 s1=>?_⟩;exact q p l rs b H1 B ⟨by lia,by lia,⟨n,n1,n5,rr⟩,sh⟩ b0 b1 s1
  refine⟨_,rfl,_,rfl,_,rfl,_,rfl,a,ns,st,R,n,rfl,hS,st0,r1,r5,n1,n5,fun d ts H1 hd hd1 tl tm tc s1=>?_⟩;refine⟨_,rfl,_,rfl,_,rfl,d,ts,R,n,rfl,hd1,tl,tm,tc,r1,r5,n1,n5,fun e us H2 he he2 ul um uc s2=>?_⟩;have hd2:=s2 _ _ hd1;have s02:=s1.trans s2;have he0:H e=none:=s1.free he;have ecv:cV ts=(ts.map fun c=>(⟨#[c]⟩:Str)).map V.str:=by
   unfold cV;rw[WJ];rfl
  obtain⟨z,hz,z1⟩:=zqX bent;refine⟨_,rfl,.inl ⟨rfl,_,SqL.of hd2⟩,d,ts.map fun c=>(⟨#[c]⟩:Str),"o",rfl,rfl,by rw[<- ecv];exact hd2,_,rfl,zqE,fun ml hml=>?_⟩;have z3:=zd (o:=.lst [.int 0,.int 0,.int 0,.int 1,.int (-1),.int 0]) hml;refine⟨_,rfl,_,_,rfl,rfl,(by show (0:Int)<6;decide),ml,_,_,_,rfl,rfl,SqL.of zb,hz,_,_,rfl,rfl,_,_,rfl,?_⟩;have he3:=z3 _ _ he2;have s03:=s02.trans z3;generalize upd H2 ml (.lst [.int 0,.int 0,.int 0,.int 1,.int (-1),.int 0])=H3 at *
  have cl:(S8 (fun t=>t==("o":Str)) (ts.map fun c=>(⟨#[c]⟩:Str)))<=25:=by
   have:=Pi (p:=fun t=>t==("o":Str)) (l:=ts.map fun c=>(⟨#[c]⟩:Str));rw[ZB] at this;lia
  generalize S8 (fun t=>t==("o":Str)) (ts.map fun c=>(⟨#[c]⟩:Str))=cn at *
  show yE 8 (V.int (if ((cn:Nat):Int)+z>0 then ((cn:Nat):Int)+z else 0)) _ _ _;obtain⟨so,hso,so0,so1⟩:∃so:Int,(if ((cn:Nat):Int)+z>0 then ((cn:Nat):Int)+z else 0)=so/\0<=so/\so<=64:=⟨_,rfl,by split<;>lia,by split<;>lia⟩;rw[hso];refine⟨_,rfl,_,_,rfl,rfl,Jt.small (by decide) (by decide),_,rfl,_,rfl,_,_,rfl,rfl,zeJ (by lia) (by lia),_,_,rfl,rfl,(by rw[<- US];lia),?_⟩;show yE 9 (V.int (bent/18%(((R:Nat):Int)*((n:Nat):Int)))) _ _ _;rw[<- US];obtain⟨a0,a1⟩:=YI (x:=bent/18) (M:=R*n) m1;generalize bent/18%((R*n:Nat):Int)=at_ at *
  have jl:at_.toNat<us.length:=by lia
  refine⟨fun σ' H'=>∃(vs:List Nat),σ'=[some (.ref a),some (.int st),some (.int c),some (.int (R:Nat)),some (.int (n:Nat)),some (.int bent),some (.ref d),some (.ref e),some (.int so),some (.int at_),none]/\zq H H'/\H' e=some (.lst (cV vs))/\vs.length=R*n/\(∀c∈vs,c∈bd.cps.toList)/\vs.countP qO<=10,?_,?_⟩
  ·refine⟨_,rfl,_,_,rfl,rfl,Jt.small (by decide) (by decide),_,_,rfl,rfl,(by show (0:Int)<3;decide),rfl,_,rfl,zeI (fun _=>?_) (fun _=>?_)⟩
   ·refine⟨_,rfl,_,rfl,e,_,_,_,rfl,rfl,SqL.of he3,jP a0 (zgE jl),_,_,rfl,rfl,_,rfl,zeI (fun hx=>?_) (fun _=>?_)⟩
    ·obtain⟨g1,g2⟩:=zkl (um _ (getD_mem jl)) hx;obtain⟨w0,w1⟩:=YI (x:=((us.getD at_.toNat 0:Nat):Int)-48+1+bent/450%8) (M:=9) (by decide);refine⟨_,rfl,_,rfl,e,_,_,_,rfl,rfl,SqL.of he3,jP a0 (zgE jl),_,_,rfl,int_sign g1 g2,(by show 1<=640;decide),_,_,rfl,rfl,_,rfl,_,_,rfl,rfl,Jt.small (by decide) (by decide),_,_,rfl,rfl,(by show (0:Int)<8;decide),_,_,rfl,rfl,_,_,rfl,rfl,(by show (0:Int)<9;decide),_,rfl,?_,?_⟩
     ·show (((((us.getD at_.toNat 0:Nat):Int)-48+1+bent/450%8)%9).natAbs).log2<1920;exact XA (Nat.log2_le_self _) (by lia)
     ·obtain⟨dg,hdg⟩:∃dg:Nat,(((us.getD at_.toNat 0:Nat):Int)-48+1+bent/450%8)%9=(dg:Int):=⟨((((us.getD at_.toNat 0:Nat):Int)-48+1+bent/450%8)%9).toNat,by lia⟩;have ed:V.str (toString ((((us.getD at_.toNat 0:Nat):Int)-48+1+bent/450%8)%9))=V.str ⟨#[48+dg]⟩:=by
       rw[hdg];exact zen (by lia)
      refine⟨_,rfl,_,rfl,e,_,_,_,rfl,rfl,he3,zcB a0 (by rw[zcP,ul];exact a1),?_⟩;refine⟨us.set at_.toNat (48+dg),rfl,fun b o ee=>?_,?_,?_,mem_set (zcQ (by lia)) um _,?_⟩
      ·rw[zf (zg ee he0)];exact s03 _ _ ee
      ·rw[zb,<- zhX];exact congrArg (fun v=>some (HO.lst ((cV us).set at_.toNat v))) ed
      ·rw[R4,ul]
      ·refine X4 (xB qO (48+dg) us _) ?_;rw[bq (by unfold qO;rw[bu];lia)];exact uc
    ·exact⟨us,rfl,s03,he3,ul,um,uc⟩
   ·exact⟨us,rfl,s03,he3,ul,um,uc⟩
  rintro σ' H4 ⟨vs,rfl,s4,he4,vl,vm,vc⟩;refine⟨_,rfl,_,rfl,by lia,by lia,fun p hp=>?_⟩;refine ZN (lo:=0) (n:=((R:Nat):Int).toNat) (fun k σ' H'=>∃u0,σ'=[u0,some (.ref e),some (.int (n:Nat))]/\zq H4 H'/\H' p=some (.lst ((rowsOf vs n k).map V.str)))
   ⟨_,rfl,zd hp,zb⟩ ?_ ?_
  ·rintro k σ' H5 hk ⟨u0,rfl,s5,hp5⟩;have kR:k<R:=by lia
   have e1:((n:Nat):Int)*(0+(k:Int))=((n*k:Nat):Int):=by
    rw[SR,US]
   have rl:=zer vl kR;unfold yE;refine Z7 ?_;refine⟨rfl,_,rfl,_,rfl,_,rfl,_,_,rfl,rfl,zeJ (by lia) (by lia),_,rfl,_,rfl,_,rfl,_,_,rfl,rfl,zeJ (by lia) (by lia),_,rfl,_,_,rfl,rfl,_,rfl,e,_,rfl,SqL.of (s5 _ _ he4),fun cp hcp=>?_⟩;have ec:zbv (cV vs) (some (((n:Nat):Int)*(0+(k:Int)))) (some (((n:Nat):Int)*(0+(k:Int))+((n:Nat):Int)))=((rowOf vs n k).map fun c=>(⟨#[c]⟩:Str)).map V.str:=by
    rw[e1,<- Tk,znO vl kR];unfold cV;rw[WJ];rfl
   have z6:=zd (o:=.lst (zbv (cV vs) (some (((n:Nat):Int)*(0+(k:Int)))) (some (((n:Nat):Int)*(0+(k:Int))+((n:Nat):Int))))) hcp;refine⟨"",cp,(rowOf vs n k).map fun c=>(⟨#[c]⟩:Str),rfl,rfl,SqL.of (by rw[<- ec];exact zb),?_,?_⟩
   ·have e0:("":Str).length=0:=by decide +kernel
    rw[e0,Nat.mul_zero,SS,WJ];have:∀l:List Nat,(l.map ((fun t:Str=>t.length)∘fun c=>(⟨#[c]⟩:Str))).sum=l.length:=fun l=>by
     induction l with
     | nil=>rfl
     | cons c r ih =>
      rw[W9,OC,ih,XB];show 1+_=_;lia
    have e2:=this (rowOf vs n k);rw[rl] at e2;exact X4 (Nat.le_of_eq e2) (by lia)
   ·refine⟨_,z6 _ _ hp5,?_,_,rfl,fun b o ee=>?_,?_⟩
    ·unfold rowsOf;rw[ZB,ZB,Xj];exact XJ (show k<64 by lia) (by decide)
    ·rw[zf (zg ee hp)];exact z6 _ _ (s5 _ _ ee)
    ·rw[zb,join_one];unfold rowsOf;rw[Vt,XC,XC];rfl
  rintro σ' H5 ⟨u0,rfl,s5,hp5⟩;rw[WM] at hp5;refine⟨_,rfl,_,rfl,ZV,fun o ho=>?_⟩;have z6:=zd (o:=.tup [.ref p,.int so]) ho;refine q o p (rowsOf vs n R) so _ ⟨zb,z6 _ _ hp5⟩ ⟨?_,?_,⟨n,n1,n5,fun t ht=>?_⟩,?_⟩ so0 so1 ((s4.trans s5).trans z6)
  ·unfold rowsOf;rw[ZB,Xj];exact r1
  ·unfold rowsOf;rw[ZB,Xj];exact r5
  ·obtain⟨k,hk,rfl⟩:=XU.mp ht;refine⟨?_,fun x hx=>vm x ?_⟩
   ·show (rowOf vs n k).toArray.size=n;rw[Xn];exact zer vl (Xl.mp hk)
   ·exact R6 (Wo hx)
  ·rw[zeq,zfh,zbp,SX,<- vl,Xy];exact vc
theorem zop (x:Nat)(xs:List Nat):inV (.int ((x:Nat):Int)) (pV xs)=decide (x∈xs):=by
 unfold inV pV;rw[UM,WO,WC,bu];constructor
 ·rintro⟨y,hy,h⟩;have h':eqV (.int ((y:Nat):Int)) (.int ((x:Nat):Int))=true:=h;have:y=x:=by
   unfold eqV at h';have h2:((y:Nat):Int)=((x:Nat):Int):=by simpa using h'
   lia
  rw[<- this];exact hy
 ·intro h;refine⟨x,h,?_⟩;show eqV (.int ((x:Nat):Int)) (.int ((x:Nat):Int))=true;unfold eqV;simp
theorem zja (xs:List Nat):(pV xs).all Q9=true:=by
 unfold pV;rw[List.all_map,WR];intro x _;rfl
theorem Za (xs:List Nat):(pV xs).length=xs.length:=ZB _
theorem zfj (xs:List Nat)(x:Nat):pV (xs++[x])=pV xs++[.int ((x:Nat):Int)]:=by
 unfold pV;rw[XC];rfl
abbrev Qn:=Int×List Nat
def za4 (H:Hp):List V->List Qn->Prop:=WU fun v q=>∃t l,v=V.ref t/\H t=some (.tup [.int q.1,.ref l])/\H l=some (.lst (pV q.2))
theorem zet {H H':Hp}(s:zq H H'){us:List V}{qs:List Qn}(hp:za4 H us qs):za4 H' us qs:=by
 induction hp with
 | nil=>exact .nil
 | cons q _ ih =>
  obtain⟨t,l,e,h1,h2⟩:=q;exact .cons ⟨t,l,e,s _ _ h1,s _ _ h2⟩ ih
theorem znR {H:Hp}{us:List V}{qs:List Qn}{i:Nat}{v:V}(h:za4 H us qs)(e:us[i]?=some v):∃q t l,qs[i]?=some q/\v=V.ref t/\H t=some (.tup [.int q.1,.ref l])/\H l=some (.lst (pV q.2)):=by
 obtain⟨q,h1,t,l,h2⟩:=zbc h e;exact⟨q,t,l,h1,h2⟩
def zh1 (S:List Nat)(q:Qn):Bool:=decide ((((q.2.filter fun k=>decide (k∈S)).length:Nat):Int)=q.1)
def zaH (qs:List Qn)(S:List Nat):Bool:=qs.all (zh1 S)
def zpM:Sp:=fun vs H Q _=>∃(sa na:Addr) (S:List Nat) (us:List V) (qs:List Qn),vs=[.ref sa,.ref na]/\H sa=some (.lst (pV S))/\H na=some (.lst us)/\za4 H us qs/\(∀q∈qs,q.2.length<=64)/\∀H',zq H H'->Q (.bl (zaH qs S)) H'
def PLs (H:Hp):List V->List (List Nat)->Prop:=WU fun v S=>∃a,v=V.ref a/\H a=some (.lst (pV S))
theorem YJ {H H':Hp}(s:zq H H'){us:List V}{ks:List (List Nat)}(hp:PLs H us ks):PLs H' us ks:=by
 induction hp with
 | nil=>exact .nil
 | cons q _ ih =>
  obtain⟨a,e,h⟩:=q;exact .cons ⟨a,e,s _ _ h⟩ ih
theorem Yd {H:Hp}{us:List V}{ks:List (List Nat)}(h:PLs H us ks):us.length=ks.length:=Paired.length h
theorem zjb {H:Hp}{us:List V}{ks:List (List Nat)}{us':List V}{ks':List (List Nat)}(h:PLs H us ks)(k:PLs H us' ks'):PLs H (us++us') (ks++ks'):=ZP h k
theorem zmb {H:Hp}{us:List V}{ks:List (List Nat)}{i:Nat}{v:V}(h:PLs H us ks)(e:us[i]?=some v):∃S a,ks[i]?=some S/\v=V.ref a/\H a=some (.lst (pV S)):=by
 obtain⟨S,h1,a,h2⟩:=zbc h e;exact⟨S,a,h1,h2⟩
theorem zgG {H:Hp}{z:Addr}{o:HO}{us:List V}{ks:List (List Nat)}(hp:PLs H us ks)(n:∀v∈us,v≠V.ref z):PLs (upd H z o) us ks:=by
 induction hp with
 | nil=>exact .nil
 | cons q _ ih =>
  obtain⟨a,e,h⟩:=q;exact .cons ⟨a,e,by rw[zf fun y=>n _ XT (by rw[e,y])];exact h⟩ (ih fun v hv=>n v (XR _ hv))
def zpN:Sp:=fun vs H Q _=>∃m:Nat,vs=[.int (m:Nat)]/\m<=14/\∀(d:Addr) (us:List V) (H':Hp),H d=none->H' d=some (.lst us)->PLs H' us (Subs.subs (XF m))->(∀v∈us,∀a,v=V.ref a->H a=none)->zq H H'->Q (.ref d) H'
theorem za5 {α:Type}(cs:List α):(Subs.subs cs).length=2^cs.length:=by
 rw[Subs.YZ,ZB,Xj]
theorem YK:zD ["_law_some","_law_numbers_here","_law_number","_law_spots"] ["_law_some","_law_numbers_here"] (zj JC):=bz rfl rfl rfl rfl (by decide +kernel)
theorem zgH (T:Txt mg)(D:zm K mg "_law_fits" JC ["_law_some","_law_numbers_here"] f fd):zY P w K mg base CX0 1 f fd ["_law_some","_law_numbers_here"] zpM:=by
 refine D.F.ok YK (fun vs H Q E h=>?_) (fun cdv A outer s H vs Q E hr h=>?_)
 ·obtain⟨sa,na,S,us,qs,rfl,_⟩:=h;rfl
 ·obtain⟨sa,na,S,us,qs,rfl,hsa,hna,hq,ql,q⟩:=h;refine⟨_,(ze (qg Xb rfl (zK (pvS 1)) (yP rfl (zL (zk (i:=2) YK.nd rfl (XH rfl)) (zL (zk (i:=3) YK.nd rfl (XH rfl)) jL))) (zh (qS (zQ Q5 (zp zJ (by rfl) T.jB WP (za (qj (N:=["_law_k","_law_some"]) (src:=[none,some 0]) (zO.free (O:=(zj JC).names) (XN:=["_law_some","_law_numbers_here","_law_number","_law_spots"]) rfl rfl ⟨_,rfl⟩ rfl rfl (by decide +kernel) (by decide +kernel) (by decide +kernel) rfl (by decide +kernel)) rfl (zK (pvS 3)) (fun _ _ _ _ _=>(zk (i:=0) (by show WY (["_law_k","_law_some"]:List Str);decide +kernel) rfl (XH rfl))) (fun _ _ _ _ _=>(qm (zQ (zcl (K:=K) (by rfl)) (pvS 0) (pvS 1) (by rfl)))) (fun _ _ _ _ _=>(pvS 0))) zc)) (pvS 2) (zT _)) (zh (zF Yn)) zV)))
   (zh (zF Yn))),?_⟩
  refine⟨_,rfl,na,rfl,⟨_,SqL.of hna⟩,?_⟩;refine j7 (K:=K) (a:=na) (xs:=us) (fun i σ H'=>∃(v2 v3:Option V),σ=[some (.ref sa),some (.ref na),v2,v3]/\zq H H'/\zaH (qs.take i) S=true)
   ⟨_,_,rfl,zq.refl _,rfl⟩ (fun i σ H' _ ⟨_,_,_,y,_⟩=>SqL.of (y _ _ hna)) ?_ ?_
  ·rintro i v σ H1 hv ⟨v2,v3,rfl,s1,hf⟩;obtain⟨qn,t,l,hqi,rfl,ht,hl⟩:=znR hq hv;have q64:=ql qn (XY hqi);have tk:zaH (qs.take (i+1)) S=(zaH (qs.take i) S&&zh1 S qn):=by
    unfold zaH;rw[Xu,hqi,List.all_append];show (_&&(zh1 S qn&&true))=_;rw[Uc]
   refine⟨t,_,rfl,SqT.of (s1 _ _ ht),rfl,_,_,rfl,_,_,rfl,rfl,?_⟩;refine⟨_,rfl,l,rfl,⟨_,SqL.of (s1 _ _ hl)⟩,fun z hz=>?_⟩;refine qf (K:=K) (a:=l) (xs:=pV qn.2) (fun j σ' H'=>∃(u0:Option V) (ys:List V),σ'=[u0,some (.ref sa)]/\zq H1 H'/\H' z=some (.lst ys)/\ys.length=((qn.2.take j).filter fun k=>decide (k∈S)).length)
    ⟨_,[],rfl,zd hz,zb,rfl⟩ (fun j σ' H' _ ⟨_,_,_,y,_⟩=>SqL.of (y _ _ (s1 _ _ hl))) ?_ ?_
   ·rintro j x σ' H2 hx ⟨u0,ys,rfl,s2,hz2,yl⟩;obtain⟨k,hk,rfl⟩:=zma hx;have jl:=(X2.mp hk).1;have e1:(qn.2.take (j+1)).filter (fun k=>decide (k∈S))=(qn.2.take j).filter (fun k=>decide (k∈S))++if decide (k∈S)=true then [k] else []:=by
     rw[Xu,hk,Xa];congr 1;show Vj _ [k]=_;rw[W0];split<;>rfl
    refine⟨_,rfl,_,rfl,sa,_,rfl,.inl (SqL.of (s2 _ _ (s1 _ _ hsa))),rfl,zja S,_,rfl,?_⟩;have hb:(if false=true then !inV (.int ((k:Nat):Int)) (pV S) else inV (.int ((k:Nat):Int)) (pV S))=decide (k∈S):=zop k S;by_cases hp:decide (k∈S)=true
    ·rw[bw hp] at e1;refine jJ (hb.trans hp) ⟨_,rfl,_,hz2,?_,_,_,rfl,fun b o e=>?_,zb,?_⟩
     ·rw[yl];refine XA (X4 (Xc _ _) ?_) (show 64<Xv by decide);rw[Xw];lia
     ·rw[zf (zg e hz)];exact s2 _ _ e
     ·rw[e1,X5,X5,yl];rfl
    ·rw[bq hp,Xh] at e1;exact jj (hb.trans (Xs.mpr hp)) ⟨_,ys,rfl,s2,hz2,by rw[e1];exact yl⟩
   rintro σ' H2 ⟨u0,ys,rfl,s2,hz2,yl⟩;rw[Za,Xy] at yl;refine⟨z,ys,rfl,.inl (SqL.of hz2),_,rfl,rfl,_,rfl,?_⟩;have hb:(!decide (V.int ((ys.length:Nat):Int)=V.int qn.1))=!zh1 S qn:=by
    unfold zh1;rw[yl];congr 1;exact decide_eq_decide.mpr ⟨fun h=>by injection h,fun h=>by rw[h]⟩
   by_cases hp:zh1 S qn=true
   ·refine jj (hb.trans (by rw[hp];rfl)) ?_;refine⟨_,_,rfl,s1.trans s2,?_⟩;rw[tk,hf,hp];rfl
   ·have hp':zh1 S qn=false:=Xs.mpr hp;refine jJ (hb.trans (by rw[hp'];rfl)) ?_;have:zaH qs S=false:=by
     rw[Xs];intro h;unfold zaH at h;rw[WR] at h;exact hp (h qn (XY hqi))
    rw[this] at q;exact q H2 (s1.trans s2)
  ·rintro σ H1 ⟨v2,v3,rfl,s1,hf⟩;rw[show us.length=qs.length from Paired.length hq,Xy] at hf;rw[hf] at q;exact q H1 s1
theorem yM:zD ["_law_many","_law_found","_law_k"] ["_law_many"] (zj yc):=bz rfl rfl rfl rfl (by decide +kernel)
theorem zcS (T:Txt mg)(D:zm K mg "_law_choices" yc ["_law_many"] f fd):zY P w K mg base CX0 1 f fd ["_law_many"] zpN:=by
 refine D.F.ok yM (fun vs H Q E h=>?_) (fun cdv A outer s H vs Q E hr h=>?_)
 ·obtain⟨m,rfl,_⟩:=h;rfl
 ·obtain⟨m,rfl,m14,q⟩:=h;refine⟨_,(ze (zv (i:=1) yM.nd rfl (XH rfl) (qa (za (qa zc) zc)))
   (ze (qg Xb rfl (qB (by rfl) T.qQ (za (pvS 0) zc)) (zk (i:=2) yM.nd rfl (UU rfl)) (zh (zv (i:=1) yM.nd rfl (XH rfl) (zx J5 (pvS 1) (qj (N:=["_law_one","_law_k"]) (src:=[none,some 2]) (zO.free (O:=(zj yc).names) (XN:=["_law_many","_law_found","_law_k"]) rfl rfl ⟨_,rfl⟩ rfl rfl (by decide +kernel) (by decide +kernel) (by decide +kernel) rfl (by decide +kernel)) rfl (zK (pvS 1)) (fun _ _ _ _ _=>(zk (i:=0) (by show WY (["_law_one","_law_k"]:List Str);decide +kernel) rfl (XH rfl))) (fun _ _ _ _ _=>qW) (fun _ _ _ _ _=>(zx J5 (pvS 0) (qa (za (pvS 1) zc)))))))))
   (zh (zF (pvS 1))))),?_⟩
  refine⟨JJ,fun e0 he0=>⟨sz_1,fun f0 hf0=>?_⟩⟩;have y1:=zd (o:=.lst []) he0;have y2:=zd (o:=.lst [.ref e0]) hf0;have y12:=y1.trans y2;have hL0:PLs (upd (upd H e0 (.lst [])) f0 (.lst [.ref e0])) [.ref e0] [[]]:=.cons ⟨e0,rfl,y2 _ _ zb⟩ .nil;have hf2:upd (upd H e0 (.lst [])) f0 (.lst [.ref e0]) f0=some (.lst [.ref e0]):=zb;have fn:=y1.free hf0;generalize upd (upd H e0 (.lst [])) f0 (.lst [.ref e0])=H2 at *
  refine⟨_,rfl,_,rfl,by lia,by lia,?_⟩;refine qC (lo:=0) (n:=((m:Nat):Int).toNat) (fun i σ H'=>∃(fa:Addr) (fs:List V) (v2:Option V),σ=[some (.int (m:Nat)),some (.ref fa),v2]/\zq H H'/\H fa=none/\H' fa=some (.lst fs)/\PLs H' fs (Subs.subs (XF i))/\∀v∈fs,∀a,v=V.ref a->H a=none)
   ⟨f0,_,_,rfl,y12,fn,hf2,hL0,fun v hv a ea=>by
    have:v=V.ref e0:=by simpa using hv
    rw[this] at ea;cases ea;exact he0⟩ ?_ ?_
  ·rintro i σ H3 hi ⟨fa,fs,v2,rfl,s3,fan,hfa,hL,hnw⟩;have im:i<m:=by lia
   have fl:fs.length<=8192:=by
    rw[Yd hL,za5,Xj];exact X4 (VS (by decide) (show i<=13 by lia)) (by decide)
   have eF:Subs.subs (XF (i+1))=Subs.step (Subs.subs (XF i)) i:=by
    rw[Vt];exact Subs.zd4 _ _
   generalize hF:Subs.subs (XF i)=F at *
   have fd:∀S∈F,S.length<=64:=fun S hS=>by
    rw[<- hF] at hS;have:=(Tally.yi hS).length_le;rw[Xj] at this;lia
   refine⟨_,rfl,_,rfl,fa,rfl,⟨_,SqL.of hfa⟩,fun z hz=>?_⟩;refine qf (K:=K) (a:=fa) (xs:=fs) (fun j σ' H'=>∃(u0:Option V) (ys:List V),σ'=[u0,some (.int (0+(i:Int)))]/\zq H3 H'/\H' z=some (.lst ys)/\(∀v∈ys,v≠V.ref z)/\PLs H' ys ((F.take j).map (·++[i]))/\∀v∈ys,∀a,v=V.ref a->H a=none)
    ⟨_,[],rfl,zd hz,zb,(fun _ h=>nomatch h),.nil,(fun _ h=>nomatch h)⟩ (fun j σ' H' _ ⟨_,_,_,z,_⟩=>SqL.of (z _ _ hfa)) ?_ ?_
   ·rintro j v σ' H4 hv ⟨u0,ys,rfl,s4,hz4,nz,hL4,hnw4⟩;obtain⟨S,a,hS,rfl,ha⟩:=zmb hL hv;have jl:=(X2.mp hS).1;have Sl:=fd S (XY hS);unfold yE;refine Z7 ?_;refine⟨_,rfl,_,rfl,sz_1,fun t1 ht1=>?_⟩;have y5:=zd (o:=.lst [V.int (0+(i:Int))]) ht1;refine⟨a,t1,pV S,_,rfl,rfl,y5 _ _ (s4 _ _ ha),zb,X4 (show (pV S).length+1<=100 by rw[Za];lia) (by decide),fun t2 ht2=>?_⟩;have y6:=zd (o:=.lst (pV S++[V.int (0+(i:Int))])) ht2;have y56:=y5.trans y6;have h6:upd (upd H4 t1 (.lst [V.int (0+(i:Int))])) t2 (.lst (pV S++[V.int (0+(i:Int))])) t2=some (.lst (pV (S++[i]))):=by
     rw[zb,zfj,show (0:Int)+(i:Int)=((i:Nat):Int) by lia]
    have tz:t2≠z:=fun e=>by
     subst e;rw[y5 _ _ hz4] at ht2;cases ht2
    have n0:H t2=none:=s3.free (s4.free (y5.free ht2));generalize upd (upd H4 t1 (.lst [V.int (0+(i:Int))])) t2 (.lst (pV S++[V.int (0+(i:Int))]))=H6 at *
    refine⟨_,y56 _ _ hz4,?_,_,ys++[.ref t2],rfl,fun b o e=>?_,zb,fun v hv=>?_,?_,fun v hv a' ea=>?_⟩
    ·rw[Yd hL4,ZB,Xw];have:=Yd hL;exact XA (show _<=8192 by lia) (by decide)
    ·rw[zf (zg e hz)];exact y56 _ _ (s4 _ _ e)
    ·rcases XO.mp hv with hv | hv
     ·exact nz v hv
     ·have:v=V.ref t2:=by simpa using hv
      rw[this];intro y;cases y;exact tz rfl
    ·have e1:(F.take (j+1)).map (·++[i])=(F.take j).map (·++[i])++[S++[i]]:=by
      rw[Xu,hS,XC];rfl
     rw[e1];exact zjb (zgG (YJ y56 hL4) nz) (.cons ⟨t2,rfl,by rw[zf tz];exact h6⟩ .nil)
    ·rcases XO.mp hv with hv | hv
     ·exact hnw4 v hv a' ea
     ·have:v=V.ref t2:=by simpa using hv
      rw[this] at ea;cases ea;exact n0
   rintro σ' H4 ⟨u0,ys,rfl,s4,hz4,_,hL4,hnw4⟩;rw[Yd hL,Xy] at hL4;have yl:ys.length<=8192:=by
    rw[Yd hL4,ZB,<- Yd hL];exact fl
   refine⟨fa,z,fs,ys,rfl,rfl,s4 _ _ hfa,hz4,X4 (show _<=16384 by lia) (by decide),fun g hg=>?_⟩;have y7:=zd (o:=.lst (fs++ys)) hg;refine⟨g,fs++ys,_,rfl,(s3.trans s4).trans y7,(s3.trans s4).free hg,zb,?_,fun v hv=>?_⟩
   ·rw[eF];exact YJ y7 (zjb (YJ s4 hL) hL4)
   ·rcases XO.mp hv with hv | hv
    ·exact hnw v hv
    ·exact hnw4 v hv
  ·rintro σ H3 ⟨fa,fs,v2,rfl,s3,fan,hfa,hL,hnw⟩;rw[WM] at hL;exact⟨_,rfl,q fa fs H3 fan hfa hL hnw s3⟩
def pos (n x:Nat):Nat×Nat:=(x/n,x%n)
def jC (rs:List Str):List Nat:=(codes rs).flatten
theorem zgI {a b:List Nat}{x:Nat}(h:x<a.length):(a++b).getD x 0=a.getD x 0:=by
 rw[Xx,Xx,V3 h]
theorem zgJ {a b:List Nat}(x:Nat):(a++b).getD (a.length+x) 0=b.getD x 0:=by
 rw[Xx,Xx,VR (by lia),S6]
theorem zcT (p:Nat->Bool)(i:Nat):∀(t:List Nat) (j:Nat),Cells.zZ p i j t=((XF t.length).filter fun x=>p (t.getD x 0)).map fun x=>(i,j+x)
 | [],_=>rfl
 | c::r,j=>by
  rw[Cells.zZ,zcT p i r (j+1),XB,List.range_succ_eq_map,W0,Tl];have e:Vj ((fun x=>p ((c::r).getD x 0))∘Nat.succ) (XF r.length)=Vj (fun x=>p (r.getD x 0)) (XF r.length):=rfl;rw[e];by_cases h:p c=true
  ·rw[bw h,bw (show p ((c::r).getD 0 0)=true from h),W9,WJ];show [(i,j)]++_=_;refine congrArg (fun l=>(i,j)::l) (Xg fun x _=>?_);show (i,j+1+x)=(i,j+(x+1));rw[OB,TR 1 x]
  ·rw[bq h,bq (show ¬p ((c::r).getD 0 0)=true from h),Pu,WJ];refine Xg fun x _=>?_;show (i,j+1+x)=(i,j+(x+1));rw[OB,TR 1 x]
theorem zgK {n:Nat}:∀{gs:List (List Nat)},(∀t∈gs,t.length=n)->gs.flatten.length=gs.length*n
 | [],_=>by simp
 | t::r,h=>by
  rw[Wm,X5,zgK fun u hu=>h u (XR _ hu),h t XT,XB,RU,TR]
theorem zh2 (p:Nat->Bool){n:Nat}(n1:1<=n):∀(gs:List (List Nat)) (i:Nat),(∀t∈gs,t.length=n)->Cells.zI p i gs=((XF (gs.length*n)).filter fun x=>p (gs.flatten.getD x 0)).map fun x=>(i+x/n,x%n):=by
 intro gs;induction gs with
 | nil=>exact fun _ _=>by simp[Cells.zI]
 | cons t r ih =>
  intro i h;have tl:=h t XT;rw[Cells.zI,zcT,ih (i+1) fun u hu=>h u (XR _ hu),XB,RU,TR (r.length*n) n,List.range_add,Xa,XC,tl];congr 1
  ·have e:(XF n).filter (fun x=>p ((t::r).flatten.getD x 0))=(XF n).filter fun x=>p (t.getD x 0):=Ve fun x hx=>by
    rw[Wm,zgI (by rw[tl];exact Xl.mp hx)]
   rw[e];refine Xg fun x hx=>?_;have hx:=Xl.mp (X6.mp hx).1;rw[Nat.div_eq_of_lt hx,Nat.mod_eq_of_lt hx,VP];rfl
  ·rw[Tl,WJ];have e:(XF (r.length*n)).filter ((fun x=>p ((t::r).flatten.getD x 0))∘fun x=>n+x)=(XF (r.length*n)).filter fun x=>p (r.flatten.getD x 0):=Ve fun x _=>by
    show p ((t::r).flatten.getD (n+x) 0)=_;rw[Wm,<- tl,zgJ]
   rw[e];refine Xg fun x _=>?_;show (i+1+x/n,x%n)=(i+(n+x)/n,(n+x)%n);rw[Nat.add_div_left x (by lia),Nat.add_mod_left,OB,TR 1]
structure Wide (rs:List Str)(n:Nat):Prop where
 n1:1<=n
 n5:n<=5
 row:∀t∈rs,Row bd.cps.toList n t
section
variable {rs:List Str}{n:Nat}(W:Wide rs n)
include W
theorem Wide.lens:∀t∈codes rs,t.length=n:=fun t ht=>by
 obtain⟨u,hu,rfl⟩:=XU.mp ht;rw[XZ];exact(W.row u hu).len
theorem Wide.flat:(jC rs).length=rs.length*n:=by
 unfold jC;rw[zgK W.lens,jo]
theorem Wide.cells (p:Nat->Bool):Cells.zI p 0 (codes rs)=((XF (rs.length*n)).filter fun x=>p ((jC rs).getD x 0)).map (pos n):=by
 rw[zh2 p W.n1 _ 0 W.lens,jo];refine Xg fun x _=>?_;unfold pos;rw[VP]
theorem Wide.mem {p:Nat->Bool}{c:Nat×Nat}:c∈Cells.zI p 0 (codes rs) ↔ ∃x,x<rs.length*n/\p ((jC rs).getD x 0)=true/\c=pos n x:=by
 rw[W.cells p,XU];constructor
 ·rintro⟨x,hx,rfl⟩;obtain⟨h1,h2⟩:=X6.mp hx;exact⟨x,Xl.mp h1,h2,rfl⟩
 ·rintro⟨x,h1,h2,rfl⟩;exact⟨x,X6.mpr ⟨Xl.mpr h1,h2⟩,rfl⟩
theorem Wide.inj {x y:Nat}(h:pos n x=pos n y):x=y:=by
 have h1:x/n=y/n:=congrArg Prod.fst h;have h2:x%n=y%n:=congrArg Prod.snd h;rw[<- Nat.div_add_mod x n,<- Nat.div_add_mod y n,h1,h2]
theorem Wide.sgn {x:Nat}(hx:x<rs.length*n):Cells.sgn (codes rs) (pos n x)=(jC rs).getD x 0:=by
 have hm:pos n x∈Cells.zI (fun _=>true) 0 (codes rs):=W.mem.mpr ⟨x,hx,rfl,rfl⟩;have hk:pos n x∈Cells.zI (fun k=>decide (k=Cells.sgn (codes rs) (pos n x))) 0 (codes rs):=by
  obtain⟨t,k,ht,hj,_,es⟩:=qi hm;have:=Z5 (p:=fun k=>decide (k=Cells.sgn (codes rs) (pos n x))) (i:=0) (jF ht) hj (br es.symm);rwa [VP] at this
 obtain⟨y,_,h2,h3⟩:=W.mem.mp hk;rw[<- W.inj h3] at h2;exact(bh h2).symm
theorem Wide.near {x y:Nat}(hy:y<rs.length*n)(hc:qu ((jC rs).getD y 0)=true):nearF rs (pos n x) (pos n y)=true↔y∈xV rs.length n x:=by
 unfold xV nrP;rw[Qc,X6,Xl];unfold zH;rw[X6];constructor
 ·rintro⟨_,h⟩;exact⟨hy,h⟩
 ·rintro⟨_,h⟩;exact⟨W.mem.mpr ⟨y,hy,hc,rfl⟩,h⟩
end
def jb (rs:List Str)(n:Nat)(nh:List Nat)(x:Nat):List Nat:=(XF nh.length).filter fun k=>decide (nh.getD k 0∈xV rs.length n x)
def jc (rs:List Str)(n:Nat):List Nat:=(XF (rs.length*n)).filter fun x=>decide ((jC rs).getD x 0=63)
def ZH (rs:List Str)(n:Nat)(sh:List Nat)(N:Nat):List Qn:=((XF N).filter fun x=>Yi ((jC rs).getD x 0)&&(!(jb rs n sh x).isEmpty || !decide ((jC rs).getD x 0=48))).map fun x=>(((((jC rs).getD x 0:Nat):Int)-48),jb rs n sh x)
def ye (rs:List Str)(n:Nat)(st:Int):List (List (Int×Int)):=((Subs.subs (XF (jc rs n).length)).filter fun S=>decide (((S.length:Nat):Int)=st)&&zaH (ZH rs n (jc rs n) (rs.length*n)) S).map fun S=>S.map fun k=>toI (pos n ((jc rs n).getD k 0))
section
variable {rs:List Str}{n:Nat}(W:Wide rs n)
include W
theorem zcU:(jc rs n).map (pos n)=zM rs:=(W.cells qO).symm
theorem zmc {x:Nat}:x∈jc rs n↔x<rs.length*n/\(jC rs).getD x 0=63:=by
 unfold jc;rw[X6,Xl,bu]
theorem zmd {x:Nat}{S:List Nat}(hS:S.Sublist (XF (jc rs n).length)):Grow.cnt (nearF rs) (pos n x) (S.map fun k=>pos n ((jc rs n).getD k 0))=((jb rs n (jc rs n) x).filter fun k=>decide (k∈S)).length:=by
 have nS:S.Nodup:=List.nodup_range.sublist hS;have nP:(jb rs n (jc rs n) x).Nodup:=List.nodup_range.sublist W1;rw[Tally.zlA nP nS];unfold Grow.cnt;rw[Tl,ZB];congr 1;refine Ve fun k hk=>?_;have kl:=Xl.mp (hS.subset hk);obtain⟨a1,a2⟩:=(zmc W).mp (getD_mem kl);show nearF rs (pos n x) (pos n ((jc rs n).getD k 0))=decide (k∈jb rs n (jc rs n) x);rw[WO,W.near a1 (by rw[a2];decide),bu];unfold jb;rw[X6,Xl,bu];exact⟨fun h=>⟨kl,h⟩,fun h=>h.2⟩
theorem QT {S:List Nat}(hS:S.Sublist (XF (jc rs n).length)):zaH (ZH rs n (jc rs n) (rs.length*n)) S=yp rs (S.map fun k=>pos n ((jc rs n).getD k 0)):=by
 rw[WO,Z9];unfold zaH ZH;rw[List.all_map,WR];constructor
 ·intro h o ho;obtain⟨x,hx,hp,rfl⟩:=W.mem.mp ho;rw[zmd W hS];unfold jy;rw[W.sgn hx];by_cases hs:(!(jb rs n (jc rs n) x).isEmpty || !decide ((jC rs).getD x 0=48))=true
  ·exact bh (h x (X6.mpr ⟨Xl.mpr hx,by rw[hp,hs];rfl⟩))
  ·rw[R1,not_or] at hs;have e1:jb rs n (jc rs n) x=[]:=by
    have:=hs.1;rw[WT,SC] at this;exact Sg.mp this
   have e2:(jC rs).getD x 0=48:=by
    have:=hs.2;rw[WT,SC] at this;exact bh this
   rw[e1,e2];rfl
 ·intro h x hx;obtain⟨h1,h2⟩:=X6.mp hx;have hxN:=Xl.mp h1;have hp:=(Wt.mp h2).1;have hh:=h (pos n x) (W.mem.mpr ⟨x,hxN,hp,rfl⟩);rw[zmd W hS] at hh;unfold jy at hh;rw[W.sgn hxN] at hh;exact br hh
theorem zcV:(XF (jc rs n).length).map (fun k=>pos n ((jc rs n).getD k 0))=zM rs:=by
 rw[<- zcU W,show (fun k=>pos n ((jc rs n).getD k 0))=pos n∘fun k=>(jc rs n).getD k 0 from rfl,<- WJ,Tally.zcq]
theorem zme {st:Int}(h:0<=st)(p:List (Nat×Nat)->Bool)(q:List (Int×Int)->Bool)(hq:∀T,q (toL T)=p T):(((ye rs n st).countP q:Nat):Int)=((Tally.T (zM rs) (fun S=>yp rs S&&p S) st.toNat:Nat):Int):=by
 congr 1;rw[<- zcV W,Tally.zqJ];unfold ye Tally.T;rw[Tn,List.countP_filter];refine Vd fun S hS=>?_;have e1:=QT W (Tally.yi hS);have e2:decide (((S.length:Nat):Int)=st)=decide (S.length=st.toNat):=decide_eq_decide.mpr (by lia);have e3:q (S.map fun k=>toI (pos n ((jc rs n).getD k 0)))=p (S.map fun k=>pos n ((jc rs n).getD k 0)):=by
  rw[<- hq];unfold toL;rw[WJ];rfl
 show (q (S.map fun k=>toI (pos n ((jc rs n).getD k 0)))&&(decide (((S.length:Nat):Int)=st)&&zaH (ZH rs n (jc rs n) (rs.length*n)) S))=true↔_;rw[e1,e2,e3,OD,Bool.and_assoc]
theorem zmf {st:Int}(h:0<=st):(((ye rs n st).length:Nat):Int)=QO rs st:=by
 have:=zme W h (fun _=>true) (fun _=>true) fun _=>rfl;rw[List.countP_true] at this;unfold QO;rw[this];congr 1;exact Tally.ziU (fun S _=>Uc _) _
end
theorem za6:∀rs:List Str,(UQ "" rs).cps.toList=(codes rs).flatten
 | []=>by decide +kernel
 | [t]=>by
  show t.cps.toList=_;unfold codes;simp
 | t::u::r=>by
  have ih:=za6 (u::r);show (t++("":Str)++UQ "" (u::r)).cps.toList=_;rw[zcR,zcR,ih];have e:("":Str).cps.toList=[]:=by decide +kernel
  rw[e,Xh];rfl
theorem zqZ (xs:List Nat):pV xs=iL (xs.map fun x=>((x:Nat):Int)):=by
 unfold pV;show _=UP V.int _;rw[WJ];rfl
theorem zkm:∀xs:List Int,W2 (yK xs) (yK [])=xs.isEmpty
 | []=>zcA []
 | _::_=>rfl
theorem zh3 {c:Nat}(h:c∈bd.cps.toList):(!(!(Vc ("?#":Str) ⟨#[c]⟩ 0 ("?#":Str).length 1).isEmpty))=Yi c:=by
 have:∀c∈bd.cps.toList,(!(!(Vc ("?#":Str) ⟨#[c]⟩ 0 ("?#":Str).length 1).isEmpty))=Yi c:=by decide +kernel
 exact this c h
theorem zgL {α:Type}{p:α->Bool}{L:List α}{j:Nat}{k:α}(hk:L[j]?=some k):(L.take (j+1)).filter p=(L.take j).filter p++if p k=true then [k] else []:=by
 rw[Xu,hk,Xa];congr 1;show Vj _ [k]=_;rw[W0];split<;>rfl
theorem Ye {p:Nat->Bool}(j:Nat):(XF (j+1)).filter p=(XF j).filter p++if p j=true then [j] else []:=by
 rw[Vt,Xa];congr 1;show Vj _ [j]=_;rw[W0];split<;>rfl
theorem zoq {rs:List Str}{n:Nat}(W:Wide rs n){x:Nat}(h:x<rs.length*n):(jC rs).getD x 0∈bd.cps.toList:=by
 have hm:(jC rs).getD x 0∈jC rs:=getD_mem (by rw[W.flat];exact h);obtain⟨t,ht,hx⟩:=WI.mp hm;obtain⟨u,hu,rfl⟩:=XU.mp ht;exact(W.row u hu).mem _ hx
theorem zor {rs:List Str}{n:Nat}(W:Wide rs n){x:Nat}(h:x<rs.length*n):(jC rs)[x]?=some ((jC rs).getD x 0):=by
 rw[Xx,XX (by rw[W.flat];exact h)];rfl
def zmg:Sp:=fun vs H Q _=>∃(l:Addr) (rs:List Str),vs=[.ref l]/\H l=some (.lst (rs.map V.str))/\Rows bd.cps.toList rs /\
 ∀(d:Addr) (ws:List V) (H':Hp),H d=none->H' d=some (.lst ws)->Cel H' ws (zM rs)->zq H H'->Q (.ref d) H'
theorem xD:zD ["_law_texts_here","_law_found","_law_row","_law_column"] ["_law_texts_here"] (zj Jj):=bz rfl rfl rfl rfl (by decide +kernel)
theorem zdu (T:Txt mg)(D:zm K mg "_law_closed" Jj ["_law_texts_here"] f fd):zY P w K mg base CX0 1 f fd ["_law_texts_here"] zmg:=by
 refine D.F.ok xD (fun vs H Q E h=>?_) (fun cdv A outer s H vs Q E hr h=>?_)
 ·obtain⟨l,rs,rfl,_⟩:=h;rfl
 ·obtain⟨l,rs,rfl,hl,R,q⟩:=h;obtain⟨C,c1,c8,hC⟩:=R.ex;have hlo:=R.lo;have hhi:=R.hi;refine⟨_,(ze (zv (i:=1) xD.nd rfl (XH rfl) (qa zc))
   (ze (qg Xb rfl (qB (by rfl) T.qQ (za (zp zJ (by rfl) T.jB WP (za (pvS 0) zc)) zc)) (zk (i:=2) xD.nd rfl (XH rfl)) (zh (qg Xb rfl (qB (by rfl) T.qQ (za (zp yF (by rfl) T.jB WP (za (qq je (pvS 0) zo (fun _ _=>rfl)) zc)) zc)) (zk (i:=3) xD.nd rfl (XH rfl)) (zh (qS (zQ xU (qq JV (qq je (pvS 0) (pvS 2) (fun _ _=>rfl)) (pvS 3) (fun _ _=>rfl)) qw (zT _)) (zh (jK (yG WW Wr Wq jv (pvS 1) (za (j6 (za (pvS 2) (za (pvS 3) zc))) zc)))) zV)))))
   (zh (zF (pvS 1))))),?_⟩
  refine⟨JJ,fun d hd=>?_⟩;have s0:zq H (upd H d (.lst [])):=zd hd;have rl:(rs.map V.str).length=rs.length:=ZB _;refine⟨_,rfl,l,_,rfl,.inl (SqL.of (s0 _ _ hl)),_,rfl,by lia,by lia,?_⟩;rw[WM,rl];refine qC (lo:=0) (n:=rs.length) (fun i σ H'=>∃(v2 v3:Option V) (ws:List V),σ=[some (.ref l),some (.ref d),v2,v3]/\zq H H'/\H' d=some (.lst ws)/\Cel H' ws (Cells.zI qO 0 ((codes rs).take i))) ⟨_,_,[],rfl,s0,zb,.nil⟩ ?_ ?_
  ·rintro i σ H1 hi ⟨v2,v3,ws,rfl,s1,hd1,hc1⟩;obtain⟨t0,ht0⟩:∃t0,rs[0]?=some t0:=⟨_,XX (by lia)⟩;obtain⟨t,ht⟩:∃t,rs[i]?=some t:=⟨_,XX hi⟩;have e0:t0.length=C:=(hC t0 (XY ht0)).len;have et:t.cps.toList.length=C:=by
    rw[XZ];exact(hC t (XY ht)).len
   have hat:∀{i:Nat} {t:Str},rs[i]?=some t->(rs.map V.str)[i]?=some (V.str t):=fun h=>by rw[Xk,h];rfl
   refine⟨_,rfl,l,_,_,.str t0,rfl,rfl,SqL.of (s1 _ _ hl),jP (by decide) (hat ht0),t0,rfl,R.tlen ht0,_,rfl,?_,?_,?_⟩
   ·show -(2^62)<=((t0.length:Nat):Int);lia
   ·show ((t0.length:Nat):Int)<2^62;lia
   rw[WM,e0];refine qC (lo:=0) (n:=C) (fun j σ H'=>∃(v3:Option V) (ws:List V),σ=[some (.ref l),some (.ref d),some (.int (0+(i:Int))),v3]/\zq H H'/\H' d=some (.lst ws)/\Cel H' ws (Cells.zI qO 0 ((codes rs).take i)++Cells.zZ qO i 0 (t.cps.toList.take j))) ⟨_,ws,rfl,s1,hd1,by rw[SN];show Cel H1 ws (_++[]);rw[Xh];exact hc1⟩ ?_ ?_
   ·rintro j σ H2 hj ⟨v3,ws2,rfl,s2,hd2,hc2⟩;obtain⟨k,hk⟩:∃k,t.cps.toList[j]?=some k:=⟨_,XX (by lia)⟩;have st:=Cells.QI (p:=qO) (i:=i) hk;refine⟨_,rfl,_,rfl,l,_,_,.str t,rfl,rfl,SqL.of (s2 _ _ hl),jP (by lia) (by rw[show ((0:Int)+(i:Int)).toNat=i by lia];exact hat ht),_,rfl,t,_,k,rfl,rfl,R.tlen ht,jP (by lia) (by rw[show ((0:Int)+(j:Int)).toNat=j by lia];exact hk),rfl,_,rfl,?_⟩;have ed:decide (V.str ⟨#[k]⟩=V.str "?")=decide (k=63):=by
     rw[Z3];simp only[QK]
    rw[ed];by_cases hp:k=63
    ·rw[br hp];rw[bw (show qO k=true from br hp)] at st;refine Qj ?_;have hlen:ws2.length<=1000:=by
      rw[hc2.length,X5];have a1:=Cells.jY qO i 0 (t.cps.toList.take j);have a2:=Cells.jw qO 0 ((codes rs).take i) fun u hu=>R.short u (Wo hu);rw[Xw] at a1 a2;lia
     refine⟨_,rfl,.inl ⟨rfl,_,SqL.of hd2⟩,_,rfl,_,rfl,ZV,fun p hp=>?_⟩;have s3:=zd (o:=.tup [.int (0+(i:Int)),.int (0+(j:Int))]) hp;refine⟨d,_,_,rfl,rfl,s3 _ _ hd2,XA hlen (by decide),?_⟩;refine⟨_,ws2++[.ref p],rfl,fun b o e=>?_,zb,?_⟩
     ·rw[zf (zg e hd)];exact s3 _ _ (s2 _ _ e)
     ·rw[st,<- WV];refine Cel.into d _ (s3 _ _ hd2) (Cel.snoc (Cel.mono s3 hc2) ⟨p,rfl,?_⟩);rw[zb,SR,SR]
    ·rw[bg hp];rw[bq (show ¬ qO k=true from fun y=>hp (bh y)),Xh] at st;refine Qi ⟨_,ws2,rfl,s2,hd2,?_⟩;rw[st];exact hc2
   ·rintro σ H2 ⟨v3,ws2,rfl,s2,hd2,hc2⟩;refine⟨_,_,ws2,rfl,s2,hd2,?_⟩;rw[WB (l:=t.cps.toList) (by lia)] at hc2;rw[Cells.QJ (jF ht)];exact hc2
  ·rintro σ H1 ⟨v2,v3,ws,rfl,s1,hd1,hc1⟩;rw[WB (by rw[jo];exact XW _)] at hc1;exact⟨_,rfl,q d ws H1 hd hd1 hc1 s1⟩
def zeu (na:Addr)(H:Hp):List V->List Qn->Prop:=WU fun v q=>∃t l,v=V.ref t/\H t=some (.tup [.int q.1,.ref l])/\l≠na/\H l=some (.lst (pV q.2))
theorem zcW {na:Addr}{H H':Hp}(s:zq H H'){us:List V}{qs:List Qn}(hp:zeu na H us qs):zeu na H' us qs:=by
 induction hp with
 | nil=>exact .nil
 | cons q _ ih =>
  obtain⟨t,l,e,h1,n,h2⟩:=q;exact .cons ⟨t,l,e,s _ _ h1,n,s _ _ h2⟩ ih
theorem zh4 {na:Addr}{H:Hp}{us:List V}{qs:List Qn}(hp:zeu na H us qs):za4 H us qs:=by
 induction hp with
 | nil=>exact .nil
 | cons q _ ih =>
  obtain⟨t,l,e,h1,_,h2⟩:=q;exact .cons ⟨t,l,e,h1,h2⟩ ih
theorem zh5 {na:Addr}{H:Hp}{xs ys:List V}(hz:H na=some (.lst xs)){us:List V}{qs:List Qn}(hp:zeu na H us qs):zeu na (upd H na (.lst ys)) us qs:=by
 induction hp with
 | nil=>exact .nil
 | cons q _ ih =>
  obtain⟨t,l,e,h1,n,h2⟩:=q;exact .cons ⟨t,l,e,by rw[zf (zlN h1 hz (fun z=>nomatch z))];exact h1,n,by rw[zf n];exact h2⟩ ih
def znS:Sp:=fun vs H Q _=>∃(l sa:Addr) (rs:List Str) (n:Nat) (sh:List Nat),vs=[.ref l,.ref sa]/\H l=some (.lst (rs.map V.str))/\H sa=some (.lst (pV sh))/\sh.length<=25/\Brd rs/\Wide rs n /\
 ∀(d:Addr) (us:List V) (H':Hp),H d=none->H' d=some (.lst us)->za4 H' us (ZH rs n sh (rs.length*n))->zq H H'->Q (.ref d) H'
theorem zh6 (rs:List Str)(n:Nat)(sh:List Nat)(j:Nat):ZH rs n sh (j+1)=ZH rs n sh j++if (Yi ((jC rs).getD j 0)&&(!(jb rs n sh j).isEmpty || !decide ((jC rs).getD j 0=48)))=true then [(((((jC rs).getD j 0:Nat):Int)-48),jb rs n sh j)] else []:=by
 unfold ZH;rw[Ye,XC];congr 1;split<;>rfl
theorem zmh {xs:List Nat}{k:Nat}(hk:k<xs.length):(pV xs)[k]?=some (.int ((xs.getD k 0:Nat):Int)):=by
 unfold pV;rw[Xk,Xx,XX hk];rfl
theorem zgM {n:Nat}:∀ts:List Str,(∀t∈ts,t.length=n)->(ts.map (·.length)).sum+ts.length*("":Str).length=ts.length*n:=fun ts h=>by
 have e0:("":Str).length=0:=by decide +kernel
 rw[e0,Nat.mul_zero,SS];induction ts with
 | nil=>simp
 | cons t r ih=>rw[W9,OC,ih fun u hu=>h u (XR _ hu),h t XT,XB,RU,TR]
theorem qJ:zD ["_law_texts_here","_law_shut","_law_rows","_law_columns","_law_signs_here","_law_found","_law_at","_law_near_here","_law_spots"] ["_law_texts_here","_law_shut"] (zj yb):=bz rfl rfl rfl rfl (by decide +kernel)
theorem zcX (T:Txt mg)(Z:Prog K mg)(D:zm K mg "_law_numbers" yb ["_law_texts_here","_law_shut"] f fd):zY P w K mg base CX0 2 f fd ["_law_texts_here","_law_shut"] znS:=by
 obtain⟨zhY,zgF,JF⟩:=Z.law_near;refine D.F.ok qJ (fun vs H Q E h=>?_) (fun cdv A outer s H vs Q E hr h=>?_)
 ·obtain⟨l,sa,rs,n,sh,rfl,_⟩:=h;rfl
 ·obtain⟨l,sa,rs,n,sh,rfl,hl,hsa,sl,B,W,q⟩:=h;have r1:=B.r1;have r5:=B.r5;have n1:=W.n1;have n5:=W.n5;have N25:rs.length*n<=5*5:=TZ r5 n5;obtain⟨t0,ht0⟩:∃t,rs[0]?=some t:=⟨_,XX (by lia)⟩;have t0n:t0.length=n:=(W.row t0 (XY ht0)).len;have em:(((rs.length:Nat):Int)*((n:Nat):Int)).toNat=rs.length*n:=by
   rw[<- US,WM]
  have emi:(((rs.length:Nat):Int)*((n:Nat):Int))=((rs.length*n:Nat):Int):=(US _ _).symm;refine⟨_,(ze (zv (i:=2) qJ.nd rfl (XH rfl) (zp zJ (by rfl) T.jB WP (za (pvS 0) zc)))
   (ze (zv (i:=3) qJ.nd rfl (XH rfl) (zp yF (by rfl) T.jB WP (za (qq je (pvS 0) zo (fun _ _=>rfl)) zc)))
   (ze (zv (i:=4) qJ.nd rfl (XH rfl) (yG Ss Sm Sk zeN qw (za (pvS 0) zc)))
   (ze (zv (i:=5) qJ.nd rfl (XH rfl) (qa zc))
   (ze (qg Xb rfl (qB (by rfl) T.qQ (za (zx yH (pvS 2) (pvS 3)) zc)) (zk (i:=6) qJ.nd rfl (XH rfl)) (zh (qS (zQ zaa (qq JV (pvS 4) (pvS 6) (fun _ _=>rfl)) qw (by rfl)) (ze (zv (i:=7) qJ.nd rfl (UU rfl) (pc0 (zbo T JF) hr JF (za (pvS 6) (za (pvS 2) (za (pvS 3) zc)))))
   (ze (Je (i:=8) qJ.nd rfl rfl (N:=["_law_k","_law_near_here","_law_shut"]) (src:=[none,some 7,some 1]) (zO.free (O:=(zj yb).names) (XN:=["_law_texts_here","_law_shut","_law_rows","_law_columns","_law_signs_here","_law_found","_law_at","_law_near_here","_law_spots"]) rfl rfl ⟨_,rfl⟩ rfl rfl (by decide +kernel) (by decide +kernel) (by decide +kernel) rfl (by decide +kernel)) rfl (qB (by rfl) T.qQ (za (zp zJ (by rfl) T.jB WP (za (pvS 1) zc)) zc)) (fun _ _ _ _ _=>(zk (i:=0) (by show WY (["_law_k","_law_near_here","_law_shut"]:List Str);decide +kernel) rfl (XH rfl))) (fun _ _ _ _ _=>(qm (zQ (zcl (K:=K) (by rfl)) (qq (YY (K:=K) (by rfl)) (pvS 2) (pvS 0) (fun _ _=>rfl)) (pvS 1) (by rfl)))) (fun _ _ _ _ _=>(pvS 0)))
   (zh (qS (PW.pt (zfy (zQ (Ju hr.units) (pvS 8) (qa zc) (zT _)) (zbY (zQ Q5 (qq JV (pvS 4) (pvS 6) (fun _ _=>rfl)) qw (zT _))))) (zh (jK (yG WW Wr Wq jv (pvS 5) (za (j6 (za (jD ZO (by rfl) T.ziX T8 (za (qq JV (pvS 4) (pvS 6) (fun _ _=>rfl)) zc)) (za (pvS 8) zc))) zc)))) zV)))) zV)))
   (zh (zF (pvS 5)))))))),?_⟩
  refine⟨_,rfl,l,_,rfl,.inl (SqL.of hl),?_⟩;rw[ZB];refine⟨_,rfl,l,_,0,.str t0,rfl,rfl,SqL.of hl,jP (by lia) (by show (rs.map V.str)[0]?=_;rw[Xk,ht0];rfl),t0,rfl,?_⟩;rw[t0n];have fz:(UQ "" rs).cps.toList=jC rs:=za6 rs;have zl:(UQ "" rs).length=rs.length*n:=by
   show (UQ "" rs).cps.size=_;rw[<- XZ,fz,W.flat]
  refine⟨X4 (show n<=64 by lia) (by decide),rfl,_,rfl,"",l,rs,rfl,rfl,SqL.of hl,?_,?_⟩
  ·rw[zgM rs fun t ht=>(W.row t ht).len];exact X4 N25 (by decide)
  generalize UQ "" rs=z at *
  have zat:∀{x:Nat},x<rs.length*n->atI z.cps.toList ((x:Nat):Int)=some ((jC rs).getD x 0):=fun {x} hx=>jP (by lia) (by rw[WM,fz];exact zor W hx);have zsz:z.length<=Xv:=X4 (show z.length<=64 by lia) (by decide);refine⟨JJ,fun na hna=>?_⟩;have s0:zq H (upd H na (.lst [])):=zd hna;refine⟨_,rfl,_,rfl,_,_,rfl,rfl,zeJ (by lia) (by lia),_,rfl,by lia,by lia,?_⟩;refine qC (lo:=0) (n:=(((rs.length:Nat):Int)*((n:Nat):Int)).toNat) (fun j σ H'=>∃(v6 v7 v8:Option V) (us:List V),σ=[some (.ref l),some (.ref sa),some (.int (rs.length:Nat)),some (.int (n:Nat)),some (.str z),some (.ref na),v6,v7,v8]/\zq H H'/\H' na=some (.lst us)/\zeu na H' us (ZH rs n sh j)/\us.length<=j)
   ⟨_,_,_,[],rfl,s0,zb,.nil,W4 _⟩ ?_ ?_
  ·rintro j σ H2 hj' ⟨v6,v7,v8,us,rfl,s2,zgN,hN2,usl⟩;have hj:j<rs.length*n:=by lia
   rw[show (0:Int)+(j:Nat)=((j:Nat):Int) by lia];have st:=zh6 rs n sh j;refine⟨_,rfl,_,rfl,z,_,_,rfl,rfl,zsz,zat hj,_,_,rfl,rfl,_,rfl,?_⟩;have hb:=zh3 (zoq W hj);by_cases hp:Yi ((jC rs).getD j 0)=true
   ·refine jJ (hb.trans hp) ?_;rw[hp,Rl] at st;refine⟨_,rfl,_,rfl,_,rfl,j,rs.length,n,rfl,r5,n1,n5,hj,fun np H3 hnp zrC s3=>?_⟩;have hs3:=(s2.trans s3) _ _ hsa;refine⟨_,rfl,sa,_,rfl,.inl (SqL.of hs3),_,rfl,by lia,by rw[Za];lia,fun y hy=>?_⟩;rw[WM,Za];have yna:y≠na:=fun e=>by
     subst e;rw[s3 _ _ zgN] at hy;cases hy
    refine ZN (lo:=0) (n:=sh.length) (fun i σ' H'=>∃(u0:Option V),σ'=[u0,some (.ref np),some (.ref sa)]/\zq H3 H'/\H' y=some (.lst (pV ((XF i).filter fun k=>decide (sh.getD k 0∈xV rs.length n j)))))
     ⟨_,rfl,zd hy,zb⟩ ?_ ?_
    ·rintro i σ' H4 hi ⟨u0,rfl,s4,hy4⟩;rw[show (0:Int)+(i:Nat)=((i:Nat):Int) by lia];have st2:=Ye (p:=fun k=>decide (sh.getD k 0∈xV rs.length n j)) i;refine⟨_,rfl,_,rfl,sa,_,_,_,rfl,rfl,SqL.of (s4 _ _ hs3),jP (by lia) (by rw[WM];exact zmh hi),_,rfl,np,_,rfl,.inl (SqL.of (s4 _ _ zrC)),rfl,zja _,_,rfl,?_⟩;have hb2:(if false=true then !inV (.int ((sh.getD i 0:Nat):Int)) (pV (xV rs.length n j)) else inV (.int ((sh.getD i 0:Nat):Int)) (pV (xV rs.length n j)))=decide (sh.getD i 0∈xV rs.length n j):=zop _ _;by_cases hp2:decide (sh.getD i 0∈xV rs.length n j)=true
     ·rw[bw hp2] at st2;refine jJ (hb2.trans hp2) ⟨_,rfl,_,hy4,?_,_,rfl,fun b o e=>?_,?_⟩
      ·rw[Za];refine XA (X4 (Xc _ _) ?_) (show 64<Xv by decide);rw[Xj];lia
      ·rw[zf (zg e hy)];exact s4 _ _ e
      ·rw[zb,st2,zfj]
     ·rw[bq hp2,Xh] at st2;exact jj (hb2.trans (Xs.mpr hp2)) ⟨_,rfl,s4,by rw[st2];exact hy4⟩
    rintro σ' H4 ⟨u0,rfl,s4,hy4⟩;have esp:(XF sh.length).filter (fun k=>decide (sh.getD k 0∈xV rs.length n j))=jb rs n sh j:=rfl;rw[esp] at hy4;refine⟨_,rfl,JJ,fun t ht=>?_⟩;have z5:=zd (o:=.lst []) ht;refine⟨_,_,zgu (SqL.of (by rw[<- zqZ];exact z5 _ _ hy4)),zgu (xs:=[]) (SqL.of zb),zeg _ _,_,rfl,?_⟩;have hb3:(if true=true then !PyData.eqv (yK ((jb rs n sh j).map fun x=>((x:Nat):Int))) (yK []) else W2 (yK ((jb rs n sh j).map fun x=>((x:Nat):Int))) (yK []))=!(jb rs n sh j).isEmpty:=by
     rw[bw rfl,zkm,List.isEmpty_map]
    have s25:=(s3.trans s4).trans z5;have hna5:=s25 _ _ zgN;have hN5:=zcW s25 hN2;have hy5:=z5 _ _ hy4;generalize upd H4 t (.lst [])=H5 at *
    obtain⟨g1,g2⟩:=zaZ (zoq W hj) hp;have hb4:(!decide (V.str ⟨#[(jC rs).getD j 0]⟩=V.str "0"))=!decide ((jC rs).getD j 0=48):=by rw[zi9,J1]
    by_cases hp3:(!(jb rs n sh j).isEmpty || !decide ((jC rs).getD j 0=48))=true
    ·rw[bw hp3] at st;by_cases h1:(!(jb rs n sh j).isEmpty)=true
     case' pos=>refine jJ (hb3.trans h1) (Qj ?_)
     case' neg =>
      have h2:(!decide ((jC rs).getD j 0=48))=true:=by
       rw[Xs.mpr h1,Bool.false_or] at hp3;exact hp3
      refine jj (hb3.trans (Xs.mpr h1)) ?_
      refine⟨_,rfl,_,rfl,z,_,_,rfl,rfl,zsz,zat hj,rfl,_,rfl,jJ (hb4.trans h2) ?_⟩
     all_goals
      refine⟨_,rfl,.inl ⟨rfl,_,SqL.of hna5⟩,_,rfl,_,rfl,z,_,_,rfl,rfl,zsz,zat hj,_,_,rfl,int_sign g1 g2,(by show 1<=640;decide),_,rfl,ZV,fun tp htp=>?_⟩
      have z6:=zd (o:=.tup [.int ((((jC rs).getD j 0:Nat):Int)-48),.ref y]) htp
      have tna:tp≠na:=fun e=>by
       subst e;rw[hna5] at htp;cases htp
      refine⟨na,us,_,rfl,rfl,z6 _ _ hna5,XA (show us.length<=64 by lia) (by decide),_,_,_,us++[.ref tp],rfl,fun b o e=>?_,zb,?_,?_⟩
      ·rw[zf (zg e hna)];exact z6 _ _ (s25 _ _ (s2 _ _ e))
      ·rw[st];exact Paired.snoc (zh5 (z6 _ _ hna5) (zcW z6 hN5)) ⟨tp,y,rfl,by rw[zf tna];exact zb,yna,by rw[zf yna];exact z6 _ _ hy5⟩
      ·rw[X5];show _+1<=_;lia
    ·have h1:(!(jb rs n sh j).isEmpty)=false:=by
      rw[R1,not_or] at hp3;exact Xs.mpr hp3.1
     have h2:(!decide ((jC rs).getD j 0=48))=false:=by
      rw[R1,not_or] at hp3;exact Xs.mpr hp3.2
     rw[bq hp3,Xh] at st;refine jj (hb3.trans h1) ⟨_,rfl,_,rfl,z,_,_,rfl,rfl,zsz,zat hj,rfl,_,rfl,jj (hb4.trans h2) ⟨_,_,_,us,rfl,s2.trans s25,hna5,?_,by lia⟩⟩;rw[st];exact hN5
   ·rw[Xs.mpr hp,SO,bq (by decide),Xh] at st;refine jj (hb.trans (Xs.mpr hp)) ⟨_,_,_,us,rfl,s2,zgN,?_,by lia⟩;rw[st];exact hN2
  rintro σ H2 ⟨v6,v7,v8,us,rfl,s2,zgN,hN2',_⟩;rw[em] at hN2';exact⟨_,rfl,q na us H2 hna zgN (zh4 hN2') s2⟩
def zmi:Sp:=fun vs H Q _=>∃(l:Addr) (rs:List Str) (n:Nat) (st:Int),vs=[.ref l,.int st]/\H l=some (.lst (rs.map V.str))/\Brd rs/\Wide rs n /\
 ∀(d:Addr) (us:List V) (N:Addr->Prop) (H':Hp),H d=none->H' d=some (.lst us)->qF N H' us (ye rs n st)->zq H H'->Q (.ref d) H'
def za7 (rs:List Str)(n:Nat)(S:List Nat):List (Int×Int):=S.map fun k=>toI (pos n ((jc rs n).getD k 0))
theorem jq:zD ["_law_texts_here","_law_stones","_law_signs_here","_law_shut","_law_numbers_here","_law_found","_law_some"] ["_law_texts_here","_law_stones"] (zj jE):=bz rfl rfl rfl rfl (by decide +kernel)
theorem zcY (T:Txt mg)(Z:Prog K mg)(D:zm K mg "_law_layings" jE ["_law_texts_here","_law_stones"] f fd):zY P w K mg base CX0 3 f fd ["_law_texts_here","_law_stones"] zmi:=by
 obtain⟨zmH,zmj,Qx⟩:=Z.law_numbers;obtain⟨zpO,zos,zcZ⟩:=Z.law_fits;obtain⟨zmI,zmk,Qy⟩:=Z.law_choices;refine D.F.ok jq (fun vs H Q E h=>?_) (fun cdv A outer s H vs Q E hr h=>?_)
 ·obtain⟨l,rs,n,st,rfl,_⟩:=h;rfl
 ·obtain⟨l,rs,n,st,rfl,hl,B,W,q⟩:=h;have r1:=B.r1;have r5:=B.r5;have n1:=W.n1;have n5:=W.n5;have N25:rs.length*n<=5*5:=TZ r5 n5;obtain⟨t0,ht0⟩:∃t,rs[0]?=some t:=⟨_,XX (by lia)⟩;have t0n:t0.length=n:=(W.row t0 (XY ht0)).len;have fz:(UQ "" rs).cps.toList=jC rs:=za6 rs;have zl:(UQ "" rs).length=rs.length*n:=by
   show (UQ "" rs).cps.size=_;rw[<- XZ,fz,W.flat]
  refine⟨_,(ze (zv (i:=2) jq.nd rfl (UU rfl) (yG Ss Sm Sk zeN qw (za (pvS 0) zc)))
   (ze (zv (i:=3) jq.nd rfl (UU rfl) (qj (N:=["_law_at","_law_signs_here"]) (src:=[none,some 2]) (zO.free (O:=(zj jE).names) (XN:=["_law_texts_here","_law_stones","_law_signs_here","_law_shut","_law_numbers_here","_law_found","_law_some"]) rfl rfl ⟨_,rfl⟩ rfl rfl (by decide +kernel) (by decide +kernel) (by decide +kernel) rfl (by decide +kernel)) rfl (qB (by rfl) T.qQ (za (zp yF (by rfl) T.jB WP (za (pvS 2) zc)) zc)) (fun _ _ _ _ _=>(zk (i:=0) (by show WY (["_law_at","_law_signs_here"]:List Str);decide +kernel) rfl (XH rfl))) (fun _ _ _ _ _=>(qm (zQ xU (qq JV (pvS 1) (pvS 0) (fun _ _=>rfl)) qw (zT _)))) (fun _ _ _ _ _=>(pvS 0))))
   (ze (zv (i:=4) jq.nd rfl (XH rfl) (pc0 (zcX T Z Qx) hr Qx (za (pvS 0) (za (pvS 3) zc))))
   (ze (zv (i:=5) jq.nd rfl (XH rfl) (qa zc))
   (ze (qg Xb rfl (zK (pc0 (zcS T Qy) hr Qy (za (zp zJ (by rfl) T.jB WP (za (pvS 3) zc)) zc))) (zk (i:=6) jq.nd rfl (XH rfl)) (zh (qS (PW.pt (zeE (zQ xU (zp zJ (by rfl) T.jB WP (za (pvS 6) zc)) (pvS 1) (zT _)) (zbI (Js (pc0 (zgH T zcZ) hr zcZ (za (pvS 6) (za (pvS 4) zc))) (fun _=>rfl))))) (zh (jK (yG WW Wr Wq jv (pvS 5) (za (qj (N:=["_law_k","_law_shut","_law_texts_here"]) (src:=[none,some 3,some 0]) (zO.free (O:=(zj jE).names) (XN:=["_law_texts_here","_law_stones","_law_signs_here","_law_shut","_law_numbers_here","_law_found","_law_some"]) rfl rfl ⟨_,rfl⟩ rfl rfl (by decide +kernel) (by decide +kernel) (by decide +kernel) rfl (by decide +kernel)) rfl (zK (pvS 6)) (fun _ _ _ _ _=>(zk (i:=0) (by show WY (["_law_k","_law_shut","_law_texts_here"]:List Str);decide +kernel) rfl (XH rfl))) (fun _ _ _ _ _=>qW) (fun _ _ _ _ _=>(zp zbb (by rfl) T.zgh Rc (za (qq (YY (K:=K) (by rfl)) (pvS 1) (pvS 0) (fun _ _=>rfl)) (za (zp yF (by rfl) T.jB WP (za (qq (YY (K:=K) (by rfl)) (pvS 2) zo (fun _ _=>rfl)) zc)) zc))))) zc)))) zV)))
   (zh (zF (pvS 5)))))))),?_⟩
  refine⟨rfl,_,rfl,"",l,rs,rfl,rfl,SqL.of hl,?_,?_⟩
  ·rw[zgM rs fun t ht=>(W.row t ht).len];exact X4 N25 (by decide)
  generalize UQ "" rs=z at *
  have zat:∀{x:Nat},x<rs.length*n->atI z.cps.toList ((x:Nat):Int)=some ((jC rs).getD x 0):=fun {x} hx=>jP (by lia) (by rw[WM,fz];exact zor W hx);have zsz:z.length<=Xv:=X4 (show z.length<=64 by lia) (by decide);refine⟨_,rfl,z,rfl,zsz,_,rfl,by lia,by lia,fun sa hsa=>?_⟩;rw[zl,WM];refine ZN (lo:=0) (n:=rs.length*n) (fun i σ' H'=>∃(u0:Option V),σ'=[u0,some (.str z)]/\zq H H'/\H' sa=some (.lst (pV ((XF i).filter fun x=>decide ((jC rs).getD x 0=63)))))
   ⟨_,rfl,zd hsa,zb⟩ ?_ ?_
  ·rintro i σ' H1 hi ⟨u0,rfl,s1,hs1⟩;rw[show (0:Int)+(i:Nat)=((i:Nat):Int) by lia];have st2:=Ye (p:=fun x=>decide ((jC rs).getD x 0=63)) i;refine⟨_,rfl,_,rfl,z,_,_,rfl,rfl,zsz,zat hi,rfl,_,rfl,?_⟩;have hb:decide (V.str ⟨#[(jC rs).getD i 0]⟩=V.str "?")=decide ((jC rs).getD i 0=63):=by rw[Z3,J1]
   by_cases h63:decide ((jC rs).getD i 0=63)=true
   ·rw[bw h63] at st2;refine jJ (hb.trans h63) ⟨_,rfl,_,hs1,?_,_,rfl,fun b o e=>?_,?_⟩
    ·rw[Za];refine XA (X4 (Xc _ _) ?_) (show 64<Xv by decide);rw[Xj];lia
    ·rw[zf (zg e hsa)];exact s1 _ _ e
    ·rw[zb,st2,zfj]
   ·rw[bq h63,Xh] at st2;exact jj (hb.trans (Xs.mpr h63)) ⟨_,rfl,s1,by rw[st2];exact hs1⟩
  rintro σ' H1 ⟨u0,rfl,s1,hs1⟩;rw[show (XF (rs.length*n)).filter (fun x=>decide ((jC rs).getD x 0=63))=jc rs n from rfl] at hs1;have m10:(jc rs n).length<=10:=by
   have h1:=B.sh;rw[<- zcU W,ZB] at h1;exact h1
  have shN:∀{k:Nat},k<(jc rs n).length->(jc rs n).getD k 0<64:=fun hk=>by
   have:=((zmc W).mp (getD_mem hk)).1;lia
  refine⟨_,rfl,_,rfl,l,sa,rs,n,jc rs n,rfl,s1 _ _ hl,hs1,by lia,B,W,fun na un H2 hna zgN hN2 s2=>?_⟩;have hs2:=s2 _ _ hs1;have q64:∀q∈ZH rs n (jc rs n) (rs.length*n),q.2.length<=64:=fun q hq=>by
   obtain⟨x,_,rfl⟩:=XU.mp hq;show (jb rs n (jc rs n) x).length<=64;refine X4 (Xc _ _) ?_;rw[Xj];lia
  refine⟨JJ,fun fo hfo=>?_⟩;have z3:=zd (o:=.lst []) hfo;have hfo3:upd H2 fo (.lst []) fo=some (.lst []):=zb;have s03:=(s1.trans s2).trans z3;have hs3:=z3 _ _ hs2;have hna3:=z3 _ _ zgN;have hN3:=zet z3 hN2;have fo0:H fo=none:=(s1.trans s2).free hfo;generalize upd H2 fo (.lst [])=H3 at *
  have hl3:=s03 _ _ hl;refine⟨_,rfl,sa,_,rfl,.inl (SqL.of hs3),(pV (jc rs n)).length,rfl,by rw[Za];lia,fun d us5 H5 hd hd5 hP5 hnw s5=>⟨d,rfl,⟨_,SqL.of hd5⟩,?_⟩⟩;rw[Za] at hP5;have np5:∀v∈us5,v≠V.ref fo:=fun v hv e=>by
   have:=hnw v hv fo e;rw[hfo3] at this;cases this
  have hfo5:=s5 _ _ hfo3;have dfo:fo≠d:=fun e=>by
   subst e;rw[hfo3] at hd;cases hd
  have s25:=z3.trans s5;refine j7 (K:=K) (a:=d) (xs:=us5) (fun i σ H'=>∃(v6:Option V) (ws:List V),σ=[some (.ref l),some (.int st),some (.str z),some (.ref sa),some (.ref na),some (.ref fo),v6]/\zq H2 H'/\H' d=some (.lst us5)/\PLs H' us5 (Subs.subs (XF (jc rs n).length))/\H' fo=some (.lst ws)/\qF (fun a=>a≠fo) H' ws ((((Subs.subs (XF (jc rs n).length)).take i).filter fun S=>decide (((S.length:Nat):Int)=st)&&zaH (ZH rs n (jc rs n) (rs.length*n)) S).map (za7 rs n)))
   ⟨_,[],rfl,s25,hd5,hP5,hfo5,.nil⟩ (fun i σ H' _ ⟨_,_,_,_,y,_⟩=>SqL.of y) ?_ ?_
  ·rintro i v σ H6 hv ⟨v6,ws,rfl,s6,hd6,hP6,hfo6,hL6⟩;obtain⟨S,a,hS,rfl,ha⟩:=zmb hP6 hv;have il:=(X2.mp hS).1;have i1024:i<1024:=by
    rw[za5,Xj] at il;exact XJ il (X4 (VS (by decide) m10) (by decide))
   have Ssub:=Tally.yi (XY hS);have Sl:S.length<=10:=by
    have:=Ssub.length_le;rw[Xj] at this;lia
   have st2:=zgL (p:=fun S=>decide (((S.length:Nat):Int)=st)&&zaH (ZH rs n (jc rs n) (rs.length*n)) S) hS;have wlen:ws.length<=1024:=by
    rw[qU hL6,ZB];refine X4 (Xc _ _) ?_;rw[Xw];lia
   refine⟨_,rfl,a,_,rfl,.inl (SqL.of ha),_,rfl,rfl,_,rfl,?_⟩;have hb:decide (V.int (((pV S).length:Nat):Int)=V.int st)=decide (((S.length:Nat):Int)=st):=by
    rw[Za];exact decide_eq_decide.mpr ⟨fun h=>by injection h,fun h=>by rw[h]⟩
   by_cases h1:decide (((S.length:Nat):Int)=st)=true
   ·rw[h1,Rl] at st2;refine jJ (hb.trans h1) ?_;refine⟨_,rfl,_,rfl,a,na,S,un,_,rfl,ha,s6 _ _ zgN,zet s6 hN2,q64,fun H7 s7=>?_⟩;have ha7:=s7 _ _ ha;have hfo7:=s7 _ _ hfo6;have hL7:=zE s7 hL6;have s27:=s6.trans s7;by_cases hf:zaH (ZH rs n (jc rs n) (rs.length*n)) S=true
    ·rw[bw hf] at st2;rw[hf];refine⟨true,rfl,Qj ?_⟩;refine⟨_,rfl,.inl ⟨rfl,_,SqL.of hfo7⟩,_,rfl,a,rfl,⟨_,SqL.of ha7⟩,fun y hy=>?_⟩;have yfo:y≠fo:=fun e=>by
      subst e;rw[hfo7] at hy;cases hy
     refine qf (K:=K) (a:=a) (xs:=pV S) (fun j σ' H'=>∃(u0:Option V) (ys:List V),σ'=[u0,some (.ref sa),some (.ref l)]/\zq H7 H'/\H' y=some (.lst ys)/\ju H' ys (za7 rs n (S.take j)))
      ⟨_,[],rfl,zd hy,zb,.nil⟩ (fun j σ' H' _ ⟨_,_,_,s8,_⟩=>SqL.of (s8 _ _ ha7)) ?_ ?_
     ·rintro j x σ' H8 hx ⟨u0,ys,rfl,s8,hy8,hT8⟩;obtain⟨k,hk,rfl⟩:=zma hx;have jl:=(X2.mp hk).1;have kl:=Xl.mp (Ssub.subset (XY hk));have s28:=s27.trans s8;unfold yE;refine Z7 ?_;refine⟨_,rfl,_,rfl,sa,_,_,_,rfl,rfl,SqL.of (s28 _ _ hs2),jP (by lia) (by rw[WM];exact zmh kl),_,rfl,l,_,0,.str t0,rfl,rfl,SqL.of (s28 _ _ (s2 _ _ (s1 _ _ hl))),jP (by lia) (by show (rs.map V.str)[0]?=_;rw[Xk,ht0];rfl),t0,rfl,?_⟩;rw[t0n];refine⟨X4 (show n<=64 by lia) (by decide),_,_,rfl,⟨by lia,by lia⟩,fun tp htp=>?_⟩;have z9:=zd (o:=.tup [.int ((((jc rs n).getD k 0:Nat):Int)/((n:Nat):Int)),.int ((((jc rs n).getD k 0:Nat):Int)%((n:Nat):Int))]) htp;have ty:tp≠y:=fun e=>by
       subst e;rw[hy8] at htp;cases htp
      refine⟨_,z9 _ _ hy8,?_,_,ys++[.ref tp],rfl,fun b o e=>?_,zb,?_⟩
      ·rw[yd hT8];unfold za7;rw[ZB,Xw];exact XA (show _<=64 by lia) (by decide)
      ·rw[zf (zg e hy)];exact z9 _ _ (s8 _ _ e)
      ·have e1:za7 rs n (S.take (j+1))=za7 rs n (S.take j)++[toI (pos n ((jc rs n).getD k 0))]:=by
        unfold za7;rw[Xu,hk,XC];rfl
       rw[e1];refine zaz (jH (z9 _ _ hy8) (qp z9 hT8)) (.cons ⟨tp,rfl,?_⟩ .nil);rw[zf ty];exact zb
     rintro σ' H8 ⟨u0,ys,rfl,s8,hy8,hT8⟩;rw[Za,Xy] at hT8;have hfo8:=s8 _ _ hfo7;refine⟨fo,ws,_,rfl,rfl,hfo8,XA wlen (by decide),_,ws++[.ref y],rfl,fun b o e=>?_,?_,?_,zb,?_⟩
     ·rw[zf (zg e hfo)];exact s8 _ _ (s27 _ _ e)
     ·rw[zf (Vs dfo)];exact s8 _ _ (s7 _ _ hd6)
     ·exact zgG (YJ (s7.trans s8) hP6) np5
     ·rw[st2,XC];exact jI (qZ hfo8 (fun _ h=>h) (zE s8 hL7)) (.cons ⟨y,ys,rfl,yfo,by rw[zf yfo];exact hy8,jH hfo8 hT8⟩ .nil)
    ·have hf':=Xs.mpr hf;rw[bq hf,Xh] at st2;rw[hf'];refine⟨false,rfl,Qi ?_⟩;exact⟨_,ws,rfl,s27,s7 _ _ hd6,YJ s7 hP6,hfo7,by rw[st2];exact hL7⟩
   ·have h1':=Xs.mpr h1;rw[h1',SO,bq (by decide),Xh] at st2;refine jj (hb.trans h1') (Qi ?_);exact⟨_,ws,rfl,s6,hd6,hP6,hfo6,by rw[st2];exact hL6⟩
  rintro σ H6 ⟨v6,ws,rfl,s6,hd6,hP6,hfo6,hL6⟩;rw[Yd hP5,Xy] at hL6;exact⟨_,rfl,q fo ws _ H6 fo0 hfo6 hL6 ((s1.trans s2).trans s6)⟩
abbrev Wy:=Nat×List (Int×Int)
def putN (m:List Wy)(n:Nat)(c:List (Int×Int)):List Wy:=if (m.any fun q=>decide (q.1=n))=true then m.map (fun q=>if q.1=n then (q.1,c) else q) else m++[(n,c)]
def Ym (ps:List Wy):List Wy:=ps.foldl (fun acc p=>putN acc p.1 p.2) []
theorem zew (ps:List Wy)(p:Wy):Ym (ps++[p])=putN (Ym ps) p.1 p.2:=by
 unfold Ym;rw[Vf];rfl
theorem zml {m:List Wy}{n:Nat}{c:List (Int×Int)}{q:Wy}(h:q∈putN m n c):q=(n,c)\/q∈m:=by
 unfold putN at h;split at h
 ·obtain⟨x,hx,e⟩:=XU.mp h;by_cases z:x.1=n
  ·rw[bw z] at e;exact .inl (by rw[<- e,z])
  ·rw[bq z] at e;exact .inr (e ▸ hx)
 ·rcases XO.mp h with h | h
  ·exact .inr h
  ·exact .inl (by simpa using h)
theorem zex (m:List Wy)(n:Nat)(c:List (Int×Int)):(putN m n c).map (·.1)=if n∈m.map (·.1) then m.map (·.1) else m.map (·.1)++[n]:=by
 unfold putN;have e:(m.any fun q=>decide (q.1=n))=true↔n∈m.map (·.1):=by
  rw[WC,XU];exact⟨fun ⟨x,h1,h2⟩=>⟨x,h1,bh h2⟩,fun ⟨x,h1,h2⟩=>⟨x,h1,br h2⟩⟩
 by_cases h:n∈m.map (·.1)
 ·rw[bw h,bw (e.mpr h),WJ];refine Xg fun x _=>?_;show (if x.1=n then (x.1,c) else x).1=x.1;split<;>rfl
 ·rw[bq h,bq fun z=>h (e.mp z),XC];rfl
theorem zc0 {P:List Wy->List Wy->Prop}(h0:P [] [])(h1:∀ps p,P ps (Ym ps)->P (ps++[p]) (putN (Ym ps) p.1 p.2)):∀(m:Nat) (ps:List Wy),ps.length=m->P ps (Ym ps):=by
 intro m;induction m with
 | zero =>
  intro ps h;rw[VW.mp h];exact h0
 | succ m ih =>
  intro ps h;have hne:ps ≠ []:=fun e=>by rw[e] at h;cases h
  have e:=RZ hne;rw[<- e,zew];refine h1 _ _ (ih _ ?_);rw[OZ,h];rfl
theorem zc1 {ps:List Wy}{q:Wy}(h:q∈Ym ps):q∈ps:=by
 refine zc0 (P:=fun ps m=>∀q∈m,q∈ps) (fun q h=>h) (fun ps p ih q h=>?_) _ ps rfl q h;rcases zml h with e | h
 ·rw[e];exact XE _ XT
 ·exact W5 _ (ih q h)
theorem zgO {ps:List Wy}{n:Nat}:n∈(Ym ps).map (·.1)↔n∈ps.map (·.1):=by
 refine zc0 (P:=fun ps m=>n∈m.map (·.1)↔n∈ps.map (·.1)) Iff.rfl (fun ps p ih=>?_) _ ps rfl;rw[zex,XC,XO,<- ih];show _↔_\/n ∈ [p.1];split
 ·rename_i h;exact⟨.inl,fun z=>z.elim id fun z=>by rw[V0.mp z];exact h⟩
 ·rw[XO]
theorem zc2 (ps:List Wy):((Ym ps).map (·.1)).Nodup:=by
 refine zc0 (P:=fun _ m=>(m.map (·.1)).Nodup) Uy (fun ps p ih=>?_) _ ps rfl;rw[zex];split
 ·exact ih
 ·rename_i h;rw[Ww];refine⟨ih,by simp,fun a ha b hb e=>h ?_⟩;rw[<- V0.mp hb,<- e];exact ha
theorem zgP {ps:List Wy}{b:Nat}(h:∀p∈ps,p.1<=b):(Ym ps).length<=b+1:=by
 have nd:(((Ym ps).map (·.1)).map fun n=>(0,n)).Nodup:=by
  have:=zc2 ps;unfold WY at this ⊢;rw[We];exact this.imp fun z e=>z (Prod.mk.inj e).2
 have:=Parts.qc (b:=(XF (b+1)).map fun n=>(0,n)) nd fun x hx=>by
  obtain⟨n,hn,rfl⟩:=XU.mp hx;obtain⟨q,hq,rfl⟩:=XU.mp hn;have:=h q (zc1 hq);exact XU.mpr ⟨q.1,Xl.mpr (by lia),rfl⟩
 rw[ZB,ZB,ZB,Xj] at this;exact this
structure WK (H H':Hp):Prop where
 l:∀a xs,H a=some (.lst xs)->H' a=some (.lst xs)
 t:∀a xs,H a=some (.tup xs)->H' a=some (.tup xs)
theorem WK.of {H H':Hp}(s:zq H H'):WK H H':=⟨fun _ _ e=>s _ _ e,fun _ _ e=>s _ _ e⟩
theorem WK.trans {H H' H'':Hp}(a:WK H H')(b:WK H' H''):WK H H'':=⟨fun x xs e=>b.l _ _ (a.l _ _ e),fun x xs e=>b.t _ _ (a.t _ _ e)⟩
theorem WK.put {H:Hp}{d:Addr}{o:HO}(h:∀o',H d=some o'->(∀xs,o' ≠ .lst xs)/\∀xs,o' ≠ .tup xs):WK H (upd H d o):=⟨fun a xs e=>by
  rw[zf (fun z=>by subst z;exact(h _ e).1 _ rfl)];exact e,fun a xs e=>by
  rw[zf (fun z=>by subst z;exact(h _ e).2 _ rfl)];exact e⟩
theorem zfk {H H':Hp}(s:WK H H'){us:List V}{ps:List (Int×Int)}(hp:ju H us ps):ju H' us ps:=by
 induction hp with
 | nil=>exact .nil
 | cons h _ ih =>
  obtain⟨a,e,h⟩:=h;exact .cons ⟨a,e,s.t _ _ h⟩ ih
def zdv (H:Hp)(kv:Key×V)(q:Wy):Prop:=kv.1=VU ((q.1:Nat):Int)/\∃a us,kv.2=V.ref a/\H a=some (.lst us)/\ju H us q.2
def JG (H:Hp):List (Key×V)->List Wy->Prop:=WU (zdv H)
theorem zdv.wk {H H':Hp}(s:WK H H'){kv:Key×V}{q:Wy}(h:zdv H kv q):zdv H' kv q:=by
 obtain⟨e,a,us,e2,h1,h2⟩:=h;exact⟨e,a,us,e2,s.l _ _ h1,zfk s h2⟩
theorem JG.wk {H H':Hp}(s:WK H H'){kvs:List (Key×V)}{m:List Wy}(hp:JG H kvs m):JG H' kvs m:=by
 induction hp with
 | nil=>exact .nil
 | cons h _ ih=>exact .cons (h.wk s) ih
theorem zfl {H:Hp}{kv:Key×V}{q:Wy}(h:zdv H kv q)(n:Nat):kv.1=VU ((n:Nat):Int)↔q.1=n:=by
 rw[h.1];constructor
 ·intro e;have:=Sum.inl.inj e;lia
 ·intro e;rw[e]
theorem zgQ {H:Hp}{kvs:List (Key×V)}{m:List Wy}(hp:JG H kvs m)(n:Nat):(kvs.any fun kv=>decide (kv.1=VU ((n:Nat):Int)))=m.any fun q=>decide (q.1=n):=by
 induction hp with
 | nil=>rfl
 | cons h _ ih =>
  rw[Ud,Ud,ih,decide_eq_decide.mpr (zfl h n)]
theorem zgR {H:Hp}{kvs:List (Key×V)}{m:List Wy}(hp:JG H kvs m){n:Nat}{v:V}{c:List (Int×Int)}(h:zdv H (VU ((n:Nat):Int),v) (n,c)):JG H (putK kvs (VU ((n:Nat):Int)) v) (putN m n c):=by
 unfold putK putN;rw[zgQ hp n];split
 ·rename_i hh;clear hh;induction hp with
  | nil=>exact .nil
  | @cons kv q _ _ hq _ ih =>
   refine .cons ?_ ih;by_cases z:q.1=n
   ·have z':=(zfl hq n).mpr z;show zdv H (if kv.1=_ then (kv.1,v) else kv) (if q.1=n then (q.1,c) else q);rw[bw z',bw z,z',z];exact h
   ·have z':=fun y=>z ((zfl hq n).mp y);show zdv H (if kv.1=_ then (kv.1,v) else kv) (if q.1=n then (q.1,c) else q);rw[bq z',bq z];exact hq
 ·exact Paired.snoc hp h
theorem zkn {H:Hp}{kvs:List (Key×V)}{ps:List Wy}(hp:JG H kvs ps):JG H (YB kvs) (Ym ps):=by
 suffices g:∀(acc:List (Key×V)) (m:List Wy),JG H acc m->JG H (kvs.foldl (fun acc kv=>putK acc kv.1 kv.2) acc) (ps.foldl (fun acc p=>putN acc p.1 p.2) m) from g [] [] .nil
 induction hp with
 | nil=>exact fun acc m h=>h
 | @cons kv q _ _ hq _ ih =>
  intro acc m h;rw[VF,VF];refine ih _ _ ?_;have e:kv=(VU ((q.1:Nat):Int),kv.2):=by rw[<- hq.1]
  rw[hq.1];exact zgR h (e ▸ hq)
def zaI (ks:List (List (Int×Int))):List Wy:=Ym (ks.map fun k=>(k.length,k))
def QU (m:List Wy)(b:List Wy):List Wy:=m.flatMap fun x=>b.map fun y=>(x.1+y.1,x.2++y.2)
def zjc:Sp:=fun vs H Q _=>∃(wa pa:Addr) (kw:List (Key×V)) (m:List Wy) (us:List V) (ks:List (List (Int×Int))) (N:Addr->Prop),vs=[.ref wa,.ref pa]/\H wa=some (.dK kw)/\JG H kw m/\H pa=some (.lst us)/\qF N H us ks/\(∀k∈ks,k.length<=64)/\ks.length<=16384/\(∀q∈m,q.1=q.2.length/\q.1<=64)/\m.length<=65 /\
 ∀(d:Addr) (kf:List (Key×V)) (H':Hp),H d=none->H' d=some (.dK kf)->JG H' kf (Ym (QU m (zaI ks)))->zq H H'->Q (.ref d) H'
theorem zaJ {ks:List (List (Int×Int))}{q:Wy}(h:q∈zaI ks):q.2∈ks/\q.1=q.2.length:=by
 obtain⟨k,hk,rfl⟩:=XU.mp (zc1 h);exact⟨hk,rfl⟩
theorem zmm {H H':Hp}(s:∀a xs,H a=some (.tup xs)->H' a=some (.tup xs)){us:List V}{kvs:List (Key×V)}(hp:zf8 H us kvs):zf8 H' us kvs:=by
 induction hp with
 | nil=>exact .nil
 | cons h _ ih =>
  obtain⟨b,e,hb⟩:=h;exact .cons ⟨b,e,s _ _ hb⟩ ih
theorem zjd {H:Hp}{kvs:List (Key×V)}{m:List Wy}{i:Nat}{kv:Key×V}(hp:JG H kvs m)(e:kvs[i]?=some kv):∃q,m[i]?=some q/\zdv H kv q:=zbc hp e
theorem zh7 {m b:List Wy}{i:Nat}{x:Wy}(h:m[i]?=some x):QU (m.take (i+1)) b=QU (m.take i) b++b.map fun y=>(x.1+y.1,x.2++y.2):=by
 unfold QU;rw[Xu,h,OL];congr 1;exact Xh _
theorem JH:zD ["ways","picks","by_size","found","size","cells","more","pick"] ["ways","picks"] (zj zbT):=bz rfl rfl rfl rfl (by decide +kernel)
theorem zmn (T:Txt mg)(D:zm K mg "grown" zbT ["ways","picks"] f fd):zY P w K mg base CX0 1 f fd ["ways","picks"] zjc:=by
 refine D.F.ok JH (fun vs H Q E h=>?_) (fun cdv A outer s H vs Q E hr h=>?_)
 ·obtain⟨wa,pa,kw,m,us,ks,N,rfl,_⟩:=h;rfl
 ·obtain⟨wa,pa,kw,m,us,ks,N,rfl,hwa,hW,hpa,hL,k64,kl,hm,ml,q⟩:=h;refine⟨_,(ze (zv (i:=2) JH.nd rfl (XH rfl) (jD (zcm hr.units hr.hd) (by rfl) T.zps PyProof.Rows.boot_dict (za (qj (N:=["pick"]) (src:=[none]) (zO.plain rfl (by decide +kernel) (by decide +kernel) (by decide +kernel) rfl (by decide)) rfl (zK (pv 1)) (fun _ _ _ _ _=>(zk (i:=0) (by show WY (["pick"]:List Str);decide +kernel) rfl (XH rfl))) (fun _ _ _ _ _=>qW) (fun _ _ _ _ _=>(j6 (za (zp (zdg (K:=K) (by rfl)) (by rfl) T.jB WP (za (pv 0) zc)) (za (pv 0) zc))))) zc)))
   (ze (zv (i:=3) JH.nd rfl (XH rfl) zkT)
   (ze (ziQ (qg Xb rfl (zf6 (zkA PV S5 PU zd0 (pv 0))) (yP rfl (zL (zk (i:=4) JH.nd rfl (XH rfl)) (zL (zk (i:=5) JH.nd rfl (XH rfl)) jL))) (zh (ziQ (qg Xb rfl (zf6 (zkA PV S5 PU zd0 (pv 2))) (yP rfl (zL (zk (i:=6) JH.nd rfl (XH rfl)) (zL (zk (i:=7) JH.nd rfl (XH rfl)) jL))) (zh (zm4 (u1 hr.units) (pv 3) (zx zg7 (pv 4) (pv 6)) (zx J5 (pv 5) (pv 7)) rfl)))))))
   (zh (zF (pv 3)))))),?_⟩
  refine⟨_,rfl,pa,rfl,⟨_,SqL.of hpa⟩,fun z hz=>?_⟩;refine qf (K:=K) (a:=pa) (xs:=us) (fun i σ' H'=>∃(u0:Option V) (ys:List V) (kvs:List (Key×V)),σ'=[u0]/\zq H H'/\H' z=some (.lst ys)/\zf8 H' ys kvs/\JG H kvs ((ks.take i).map fun k=>(k.length,k))/\ys.length=i) ⟨none,[],[],rfl,zd hz,zb,.nil,.nil,rfl⟩ (fun i σ' H' _ ⟨_,_,_,_,y,_⟩=>SqL.of (y _ _ hpa)) ?_ ?_
  ·rintro i v σ' H1 hv ⟨u0,ys,kvs,rfl,s1,hz1,hP,hWy,yl⟩;obtain⟨k,a,wk,hk,rfl,_,ha,tk⟩:=xM hL hv;have ha1:=s1 _ _ ha;have tk1:=qp s1 tk;have wl:=yd tk;unfold yE;refine Z7 ?_;refine⟨_,rfl,a,wk,rfl,.inl (SqL.of ha1),_,rfl,ZV,fun t ht=>?_⟩;have y2:=zd (o:=.tup [.int (wk.length:Nat),.ref a]) ht;have hz2:=y2 _ _ hz1;have tz:t≠z:=fun e=>by
    rw[e,hz1] at ht;cases ht
   have il:i<ks.length:=(X2.mp hk).1;refine⟨ys,hz2,?_,_,ys++[.ref t],kvs++[(VU ((k.length:Nat):Int),.ref a)],rfl,fun b o e=>?_,zb,?_,?_,?_⟩
   ·rw[yl];exact XJ (XJ il kl) (by decide)
   ·rw[zf (zg e hz)];exact(s1.trans y2) _ _ e
   ·refine ZP ?_ (.cons ⟨t,rfl,?_⟩ .nil)
    ·exact zmm (fun b xs e=>by rw[zf (fun e2=>by rw[e2,hz1] at e;cases e)];exact y2 _ _ e) hP
    ·rw[zf tz,zb,wl];rfl
   ·rw[Xu,hk,XC];exact ZP hWy (.cons ⟨rfl,a,wk,rfl,ha,tk⟩ .nil)
   ·rw[X5,yl];rfl
  rintro σ' H1 ⟨u0,ys,kvs,rfl,s1,hz1,hP,hWy,yl⟩;rw[qU hL,Xy] at hWy;refine⟨z,ys,kvs,rfl,hz1,hP,fun bd hbd=>?_⟩;have y1:=zd (o:=.dK (YB kvs)) hbd;refine fun fd hfd=>?_;have y2:=zd (o:=.dK []) hfd;have hbd2:=y2 _ _ (zb (H:=H1) (a:=bd) (o:=.dK (YB kvs)));have hfd2:=zb (H:=upd H1 bd (.dK (YB kvs))) (a:=fd) (o:=.dK []);have s2:=s1.trans (y1.trans y2);have bn:H bd=none:=s1.free hbd;have fn:H fd=none:=(s1.trans y1).free hfd;have bf:bd≠fd:=fun e=>by
   rw[<- e,zb] at hfd;cases hfd
  generalize upd (upd H1 bd (.dK (YB kvs))) fd (.dK [])=H2 at *
  have hwa2:=s2 _ _ hwa;have wb:wa≠bd:=zg hwa bn;have wf:wa≠fd:=zg hwa fn;have hB0:JG H (YB kvs) (zaI ks):=zkn hWy;have bl:(zaI ks).length<=65:=zgP fun p hp=>by
   obtain⟨k,hk,rfl⟩:=XU.mp hp;exact k64 k hk
  refine⟨_,rfl,.inr (.inr (.inl ⟨rfl,.inl ⟨_,hwa2⟩⟩)),wa,kw,rfl,rfl,hwa2,fun v hv=>?_⟩;have wv:wa≠v:=zg hwa2 hv;refine⟨v,wa,kw,rfl,zb,by rw[zf wv];exact hwa2,fun o=>?_⟩;refine zd1 (fun i σ H'=>∃(kf:List (Key×V)) (v4 v5 v6 v7:Option V),σ=[some (.ref wa),some (.ref pa),some (.ref bd),some (.ref fd),v4,v5,v6,v7]/\H' wa=some (.frz o (.dK kw))/\(∀b o',b≠wa->H b=some o'->H' b=some o')/\H' bd=some (.dK (YB kvs))/\H' fd=some (.dK kf)/\JG H' kf (Ym (QU (m.take i) (zaI ks))))
   ⟨[],_,_,_,_,rfl,zb,fun b o' h1 e=>?_,?_,?_,.nil⟩ (fun i σ H' _ ⟨_,_,_,_,_,_,h,_⟩=>h) ?_ ?_
  ·rw[zf h1,zf (zg (s2 _ _ e) hv)];exact s2 _ _ e
  ·rw[zf (Vs wb),zf (zg hbd2 hv)];exact hbd2
  ·rw[zf (Vs wf),zf (zg hfd2 hv)];exact hfd2
  ·rintro i kv Tt σ H3 hk hT ⟨kf,v4,v5,v6,v7,rfl,hw3,fr3,hb3,hf3,hWf⟩;obtain⟨x,hx,hxr⟩:=zjd hW hk;obtain⟨xk,xa,xu,exv,hxa,txu⟩:=hxr;have y4:=zd (o:=.tup [kV kv.1,kv.2]) hT;have xm:=hm x (XY hx);refine⟨Tt,_,rfl,SqT.of zb,rfl,_,_,rfl,_,_,rfl,rfl,?_⟩;have hw4:=y4 _ _ hw3;have hb4:=y4 _ _ hb3;have hf4:=y4 _ _ hf3;have hWf4:=hWf.wk (WK.of y4);have fr4:∀b o',b≠wa->H b=some o'->upd H3 Tt (.tup [kV kv.1,kv.2]) b=some o':=fun b o' h1 e=>y4 _ _ (fr3 b o' h1 e);generalize upd H3 Tt (.tup [kV kv.1,kv.2])=H4 at *
   refine⟨_,rfl,.inr (.inr (.inl ⟨rfl,.inl ⟨_,hb4⟩⟩)),bd,_,rfl,rfl,hb4,fun v' hv'=>?_⟩;have bv:bd≠v':=zg hb4 hv';refine⟨v',bd,_,rfl,zb,by rw[zf bv];exact hb4,fun o2=>?_⟩;rw[xk,exv];refine zd1 (fun j σ H'=>∃(kf:List (Key×V)) (v6 v7:Option V),σ=[some (.ref wa),some (.ref pa),some (.ref bd),some (.ref fd),some (.int (x.1:Nat)),some (.ref xa),v6,v7]/\H' bd=some (.frz o2 (.dK (YB kvs)))/\H' wa=some (.frz o (.dK kw))/\(∀b o',b≠wa->H b=some o'->H' b=some o')/\H' fd=some (.dK kf)/\JG H' kf (Ym (QU (m.take i) (zaI ks)++((zaI ks).take j).map fun y=>(x.1+y.1,x.2++y.2))))
    ⟨kf,_,_,rfl,zb,?_,fun b o' h1 e=>?_,?_,?_⟩ (fun j σ H' _ ⟨_,_,_,_,h,_⟩=>h) ?_ ?_
   ·rw[zf wb,zf (zg hw4 hv')];exact hw4
   ·rw[zf (zg e bn),zf (zg (fr4 b o' h1 e) hv')];exact fr4 b o' h1 e
   ·rw[zf (Vs bf),zf (zg hf4 hv')];exact hf4
   ·rw[SN,RT,Xh];exact hWf4.wk ((WK.of (zd hv')).trans (WK.put fun o' e=>by
     rw[zf bv,hb4] at e;cases e;exact⟨(fun xs z=>nomatch z),(fun xs z=>nomatch z)⟩))
   ·rintro j kv2 T2 σ H5 hk2 hT2 ⟨kf5,v6,v7,rfl,hb5,hw5,fr5,hf5,hWf5⟩;obtain⟨y,hy,hyr⟩:=zjd hB0 hk2;obtain⟨yk,ya,yu,eyv,hya,tyu⟩:=hyr;obtain⟨yin,ylen⟩:=zaJ (XY hy);have y64:=k64 _ yin;have y6:=zd (o:=.tup [kV kv2.1,kv2.2]) hT2;have nw:∀(b:Addr) (o':HO),H b=some o'->o' ≠ .dK kw->b≠wa:=fun b o' e hne z=>by
     subst z;rw[hwa] at e;exact hne (Option.some.inj e).symm
    have wkH:WK H H5:=⟨fun b xs e=>fr5 b _ (nw b _ e (fun z=>nomatch z)) e,fun b xs e=>fr5 b _ (nw b _ e (fun z=>nomatch z)) e⟩;rw[yk,eyv] at *
    refine⟨T2,_,rfl,SqT.of zb,rfl,_,_,rfl,_,_,rfl,rfl,?_⟩;have xl:xu.length<=64:=by
     rw[yd txu];lia
    have yl2:yu.length<=64:=by
     rw[yd tyu];exact y64
    have wk6:=wkH.trans (WK.of y6);refine⟨_,rfl,_,rfl,xa,ya,xu,yu,rfl,rfl,wk6.l _ _ hxa,wk6.l _ _ hya,X4 (show xu.length+yu.length<=200 by lia) (by decide),fun c hc=>?_⟩;have y7:=zd (o:=.lst (xu++yu)) hc;have wk7:=wk6.trans (WK.of y7);have hc7:=zb (H:=upd H5 T2 (.tup [kV (VU ((y.1:Nat):Int)),V.ref ya])) (a:=c) (o:=.lst (xu++yu));have hf7:=y7 _ _ (y6 _ _ hf5);have hb7:=y7 _ _ (y6 _ _ hb5);have hw7:=y7 _ _ (y6 _ _ hw5);have hWf7:=hWf5.wk (WK.of (y6.trans y7));have fr7:∀b o',b≠wa->H b=some o'->upd (upd H5 T2 (.tup [kV (VU ((y.1:Nat):Int)),V.ref ya])) c (.lst (xu++yu)) b=some o':=fun b o' h1 e=>y7 _ _ (y6 _ _ (fr5 b o' h1 e));generalize upd (upd H5 T2 (.tup [kV (VU ((y.1:Nat):Int)),V.ref ya])) c (.lst (xu++yu))=H7 at *
    have kl5:kf5.length<=200:=by
     rw[Paired.length hWf7];refine X4 (zgP (b:=128) fun p hp=>?_) (by decide);rcases XO.mp hp with hp | hp
     ·obtain⟨x',hx',hp⟩:=Wb.mp hp;obtain⟨y',hy',rfl⟩:=XU.mp hp;have a1:=(hm x' (Wo hx')).2;obtain⟨b1,b2⟩:=zaJ hy';have b3:=k64 _ b1;show x'.1+y'.1<=128;lia
     ·obtain⟨y',hy',rfl⟩:=XU.mp hp;obtain⟨b1,b2⟩:=zaJ (Wo hy');have b3:=k64 _ b1;show x.1+y'.1<=128;lia
    have ek:((x.1:Nat):Int)+((y.1:Nat):Int)=((x.1+y.1:Nat):Int):=by lia
    refine⟨_,rfl,_,rfl,_,rfl,_,_,rfl,rfl,fd,_,rfl,zkR.k (k:=VU (((x.1:Nat):Int)+((y.1:Nat):Int))) hf7 (XA kl5 (by decide)),?_⟩;have wk8:WK H7 (upd H7 fd (.dK (putK kf5 (VU (((x.1:Nat):Int)+((y.1:Nat):Int))) (.ref c)))):=WK.put fun o' e=>by
     rw[hf7] at e;cases e;exact⟨(fun xs z=>nomatch z),(fun xs z=>nomatch z)⟩
    refine⟨_,_,_,rfl,by rw[zf bf];exact hb7,by rw[zf wf];exact hw7,fun b o' h1 e=>by rw[zf (zg e fn)];exact fr7 b o' h1 e,zb,?_⟩;rw[Xu,hy,XC,<- WV];show JG _ _ (Ym (_++[(x.1+y.1,x.2++y.2)]));rw[zew,ek];refine zgR (JG.wk ?_ hWf7) ⟨rfl,c,xu++yu,rfl,?_,?_⟩
    ·rw[<- ek];exact wk8
    ·rw[<- ek];exact wk8.l _ _ hc7
    ·rw[<- ek];exact zaz (zfk (wk7.trans wk8) txu) (zfk (wk7.trans wk8) tyu)
   ·rintro σ H5 ⟨kf5,v6,v7,rfl,hb5,hw5,fr5,hf5,hWf5⟩;refine⟨bd,o2,_,hb5,(fun o' u z=>by rw[hb4] at z;cases z),?_⟩;refine⟨kf5,_,_,_,_,rfl,by rw[zf wb];exact hw5,fun b o' h1 e=>by rw[zf (zg e bn)];exact fr5 b o' h1 e,zb,by rw[zf (Vs bf)];exact hf5,?_⟩;rw[Paired.length hB0,Xy,<- zh7 hx] at hWf5;exact hWf5.wk (WK.put fun o' e=>by
     rw[hb5] at e;cases e;exact⟨(fun xs z=>nomatch z),(fun xs z=>nomatch z)⟩)
  ·rintro σ H3 ⟨kf,v4,v5,v6,v7,rfl,hw3,fr3,hb3,hf3,hWf⟩;rw[Paired.length hW,Xy] at hWf;refine⟨wa,o,kw,hw3,(fun o' u z=>by rw[hwa2] at z;cases z),?_⟩;refine⟨_,rfl,q fd kf _ fn (by rw[zf (Vs wf)];exact hf3) (hWf.wk (WK.put fun o' e=>by
     rw[hw3] at e;cases e;exact⟨(fun xs z=>nomatch z),(fun xs z=>nomatch z)⟩)) fun b o' e=>?_⟩
   by_cases z:b=wa
   ·subst z;rw[zb];rw[hwa] at e;exact e
   ·rw[zf z];exact fr3 b o' z e
def oth (F:List (Nat×Nat))(c:Nat×Nat):List (Nat×Nat):=F.filter fun x=>!decide (x=c)
def Qz (l:List (Nat×Nat)):List (List (Nat×Nat)):=(XF (l.length+1)).map l.take
def zbz (F:List (Nat×Nat))(c:Nat×Nat):List (List (Nat×Nat)):=if c∈F then Qz (oth F c)++(Qz (oth F c)).map (·++[c]) else Qz (oth F c)
def zmo:Sp:=fun vs H Q _=>∃(fa ca:Addr) (us:List V) (F:List (Nat×Nat)) (c:Nat×Nat),vs=[.ref fa,.ref ca]/\H fa=some (.lst us)/\Cel H us F/\F.length<=63/\H ca=some (.tup [.int (c.1:Nat),.int (c.2:Nat)]) /\
 ∀(d:Addr) (ws:List V) (H':Hp),H d=none->H' d=some (.lst ws)->qF (fun a=>H a=none) H' ws ((zbz F c).map toL)->zq H H'->Q (.ref d) H'
theorem zpP (xs:List V){i:Nat}(h:i<=xs.length):zbv xs none (some ((i:Nat):Int))=xs.take i:=by
 have e:=HT.zbJ xs.length xs.length i;unfold zbv;rw[e];show (xs.drop 0).take (min i xs.length-0)=_;rw[List.drop_zero,Nat.sub_zero,Uf h]
theorem zgS {H:Hp}:∀{us:List V} {cs:List (Nat×Nat)} (i:Nat),Cel H us cs->Cel H (us.take i) (cs.take i)
 | _,_,0,_=>by
  rw[SN,SN];exact .nil
 | _,_,i+1,.nil=>.nil
 | _,_,i+1,.cons h t=>.cons h (zgS i t)
theorem zh8 (l:List (Nat×Nat))(i:Nat):(XF (i+1)).map l.take=(XF i).map l.take++[l.take i]:=by
 rw[Vt,XC];rfl
theorem Yg:zD ["cells","cell","others","picks"] ["cells","cell"] (zj jU):=bz rfl rfl rfl rfl (by decide +kernel)
theorem zfm (T:Txt mg)(D:zm K mg "far_picks" jU ["cells","cell"] f fd):zY P w K mg base CX0 1 f fd ["cells","cell"] zmo:=by
 refine D.F.ok Yg (fun vs H Q E h=>?_) (fun cdv A outer s H vs Q E hr h=>?_)
 ·obtain⟨fa,ca,us,F,c,rfl,_⟩:=h;rfl
 ·obtain⟨fa,ca,us,F,c,rfl,hfa,hC,f63,hca,q⟩:=h;have ul:=hC.length;refine⟨_,(ze (zv (i:=2) Yg.nd rfl (UU rfl) (qj (N:=["place","cell"]) (src:=[none,some 1]) (zO.free (O:=(zj jU).names) (XN:=["cells","cell","others","picks"]) rfl rfl ⟨_,rfl⟩ rfl rfl (by decide +kernel) (by decide +kernel) (by decide +kernel) rfl (by decide +kernel)) rfl (zK (pv 0)) (fun _ _ _ _ _=>(zk (i:=0) (by show WY (["place","cell"]:List Str);decide +kernel) rfl (XH rfl))) (fun _ _ _ _ _=>(qm (jN (zfK (K:=K) (by rfl) hr.units) (pv 0) (pv 1) (zT _)))) (fun _ _ _ _ _=>(pv 0))))
   (ze (Je (i:=3) Yg.nd rfl rfl (N:=["size","others"]) (src:=[none,some 2]) (zO.free (O:=(zj jU).names) (XN:=["cells","cell","others","picks"]) rfl rfl ⟨_,rfl⟩ rfl rfl (by decide +kernel) (by decide +kernel) (by decide +kernel) rfl (by decide +kernel)) rfl (qB (by rfl) T.qQ (za (zx zg7 (zp Jd (by rfl) T.jB WP (za (pv 2) zc)) zo) zc)) (fun _ _ _ _ _=>(zk (i:=0) (by show WY (["size","others"]:List Str);decide +kernel) rfl (XH rfl))) (fun _ _ _ _ _=>qW) (fun _ _ _ _ _=>(zb1 (zf5 (K:=K) (by rfl)) (pv 1) zit (zbK (pv 0)))))
   (ze (qS (jN (Ql hr.units) (pv 1) (pv 0) (by rfl)) (zh (zF (pv 3))) zV)
   (zh (zF (zx J5 (pv 3) (qj (N:=["pick","cell"]) (src:=[none,some 1]) (zO.free (O:=(zj jU).names) (XN:=["cells","cell","others","picks"]) rfl rfl ⟨_,rfl⟩ rfl rfl (by decide +kernel) (by decide +kernel) (by decide +kernel) rfl (by decide +kernel)) rfl (zK (pv 3)) (fun _ _ _ _ _=>(zk (i:=0) (by show WY (["pick","cell"]:List Str);decide +kernel) rfl (XH rfl))) (fun _ _ _ _ _=>qW) (fun _ _ _ _ _=>(zx J5 (pv 0) (qa (za (pv 1) zc))))))))))),?_⟩
  refine⟨_,rfl,fa,rfl,⟨_,SqL.of hfa⟩,fun z hz=>?_⟩;refine qf (K:=K) (a:=fa) (xs:=us) (fun i σ' H'=>∃(u0:Option V) (ys:List V),σ'=[u0,some (.ref ca)]/\zq H H'/\H' z=some (.lst ys)/\Cel H' ys (oth (F.take i) c)/\ys.length<=i) ⟨none,[],rfl,zd hz,zb,.nil,XW _⟩ (fun i σ' H' _ ⟨_,_,_,y,_⟩=>SqL.of (y _ _ hfa)) ?_ ?_
  ·rintro i v σ' H1 hv ⟨u0,ys,rfl,s1,hz1,hcy,yl⟩;obtain⟨x,hx,xa,rfl,hxa⟩:=Cel.get (hC.mono s1) hv;have il:i<us.length:=(X2.mp hv).1;have et:oth (F.take (i+1)) c=oth (F.take i) c++if (!decide (x=c))=true then [x] else []:=by
    unfold oth;rw[Xu,hx,Xa];congr 1;show Vj _ [x]=_;rw[W0];rfl
   refine⟨_,rfl,_,rfl,zu x,zu c,xJ.rdv ⟨xa,rfl,hxa⟩,xJ.rdv ⟨ca,rfl,s1 _ _ hca⟩,zd7 x c,_,rfl,?_⟩;have ei:(if true=true then !PyData.eqv (zu x) (zu c) else W2 (zu x) (zu c))=!decide (x=c):=by
    rw[bw rfl,zaY]
   rw[ei,et];by_cases hh:(!decide (x=c))=true
   ·refine jJ hh ?_;rw[bw hh];refine⟨_,rfl,ys,hz1,XA yl (XJ (show i<100 by lia) (by decide)),_,ys++[.ref xa],rfl,fun b o e=>?_,zb,?_,?_⟩
    ·rw[zf (zg e hz)];exact s1 _ _ e
    ·refine Cel.append (Cel.into _ _ hz1 hcy) (.cons ⟨xa,rfl,?_⟩ .nil);rw[zf (fun e=>by rw[e,hz1] at hxa;cases hxa)];exact hxa
    ·rw[X5];exact TL yl
   ·refine jj (Xs.mpr hh) ?_;rw[bq hh,Xh];exact⟨_,ys,rfl,s1,hz1,hcy,VL yl⟩
  rintro σ' H1 ⟨u0,ys,rfl,s1,hz1,hcy,yl⟩;rw[ul,Xy] at hcy;have ol:=hcy.length;have o63:ys.length<=63:=by lia
  refine⟨_,rfl,z,_,rfl,.inl (SqL.of hz1),_,_,rfl,rfl,_,rfl,?_,?_,fun d hd=>?_⟩
  ·lia
  ·lia
  rw[show (((ys.length:Nat):Int)+1).toNat=ys.length+1 by lia];refine ZN (lo:=0) (fun i σ' H'=>∃(u0:Option V) (ws:List V),σ'=[u0,some (.ref z)]/\zq H1 H'/\H' d=some (.lst ws)/\qF (fun a=>a≠d/\H a=none) H' ws (((XF i).map (oth F c).take).map toL)/\ws.length=i) ⟨none,[],rfl,zd hd,zb,.nil,rfl⟩ ?_ ?_
  ·rintro i σ' H2 hi ⟨u0,ws,rfl,s2,hd2,hL2,wl⟩;rw[SR];unfold yE;refine Z7 ?_;have hz2:=s2 _ _ hz1;refine⟨_,rfl,_,rfl,_,rfl,z,_,rfl,SqL.of hz2,fun x hx=>?_⟩;rw[zpP ys (by lia)] at *
   have y3:=zd (o:=.lst (ys.take i)) hx;have xd:x≠d:=fun e=>by
    rw[e,hd2] at hx;cases hx
   refine⟨ws,y3 _ _ hd2,?_,_,ws++[.ref x],rfl,fun b o e=>?_,zb,?_,?_⟩
   ·rw[wl];exact XJ (show i<100 by lia) (by decide)
   ·rw[zf (zg e hd)];exact(s2.trans y3) _ _ e
   ·rw[zh8,XC];refine jI (qZ (y3 _ _ hd2) (fun _ h=>h.1) (zE y3 hL2)) (.cons ⟨x,ys.take i,rfl,⟨xd,(s1.trans s2).free hx⟩,by rw[zf xd];exact zb,?_⟩ .nil);exact jH (y3 _ _ hd2) (Cel.tup2 (zgS i ((hcy.mono s2).mono y3)))
   ·rw[X5,wl];rfl
  rintro σ' H2 ⟨u0,ws,rfl,s2,hd2,hL2,wl⟩;have s02:=s1.trans s2;have dn:H d=none:=s1.free hd;have hLp:qF (fun a=>a≠d/\H a=none) H2 ws ((Qz (oth F c)).map toL):=by
   unfold Qz;rw[<- ol];exact hL2
  have ein:(if true=true then !(F.map zu).any (fun z=>W2 z (zu c)) else (F.map zu).any fun z=>W2 z (zu c))=!decide (c∈F):=by
   rw[bw rfl,xK];congr 1;rw[WO,Parts.ZY,bu]
  refine⟨_,rfl,_,rfl,zu c,F.map zu,xJ.rdv ⟨ca,rfl,s02 _ _ hca⟩,.lst (SqL.of (s02 _ _ hfa)) (zhI (hC.mono s02)),rfl,zdn _,(by show 1<=60;decide),_,rfl,?_⟩;rw[ein];by_cases hc:c∈F
  ·refine jj (by rw[br hc];rfl) ?_;refine⟨_,rfl,_,rfl,d,rfl,⟨_,SqL.of hd2⟩,fun e he=>?_⟩;refine qf (K:=K) (a:=d) (xs:=ws) (fun i σ' H'=>∃(u0:Option V) (ys:List V),σ'=[u0,some (.ref ca)]/\zq H2 H'/\H' e=some (.lst ys)/\qF (fun a=>a≠e/\H a=none) H' ys ((((Qz (oth F c)).take i).map (·++[c])).map toL)/\ys.length=i) ⟨none,[],rfl,zd he,zb,.nil,rfl⟩ (fun i σ' H' _ ⟨_,_,_,y,_⟩=>SqL.of (y _ _ hd2)) ?_ ?_
   ·rintro i v σ' H3 hv ⟨u0,es,rfl,s3,he3,hL3,el⟩;obtain⟨k,a,wa,hk,rfl,_,ha,ta⟩:=xM hLp hv;obtain⟨k',hk',rfl⟩:=zfb hk;have il:i<ws.length:=(X2.mp hv).1;unfold yE;refine Z7 ?_;refine⟨_,rfl,_,rfl,sz_1,fun t ht=>?_⟩;have y4:=zd (o:=.lst [V.ref ca]) ht;have kl:wa.length<=63:=by
     rw[yd ta];show (k'.map toI).length<=63;rw[ZB];obtain⟨j,hj,rfl⟩:=XU.mp (XY hk');rw[Xw];lia
    refine⟨a,t,wa,[.ref ca],rfl,rfl,y4 _ _ (s3 _ _ ha),zb,X4 (show wa.length+1<=100 by lia) (by decide),fun x hx=>?_⟩;have y5:=zd (o:=.lst (wa++[.ref ca])) hx;have y45:=y4.trans y5;have hx5:=zb (H:=upd H3 t (.lst [V.ref ca])) (a:=x) (o:=.lst (wa++[.ref ca]));have xe:x≠e:=fun z=>by
     subst z;rw[y4 _ _ he3] at hx;cases hx
    have xn:H x=none:=((s02.trans s3).trans y4).free hx;have he5:=y45 _ _ he3;have hca5:=y45 _ _ (s3 _ _ (s02 _ _ hca));have ta5:=qp (s3.trans y45) ta;have hL5:=zE y45 hL3;have s5:=s3.trans y45;generalize upd (upd H3 t (.lst [V.ref ca])) x (.lst (wa++[.ref ca]))=H5 at *
    refine⟨es,he5,?_,_,es++[.ref x],rfl,fun b o z=>?_,zb,?_,?_⟩
    ·rw[el];exact XJ (show i<100 by lia) (by decide)
    ·rw[zf (zg z he)];exact s5 _ _ z
    ·rw[Xu,hk',XC,XC];refine jI (qZ he5 (fun _ h=>h.1) hL5) (.cons ⟨x,_,rfl,⟨xe,xn⟩,by rw[zf xe];exact hx5,?_⟩ .nil);show ju _ (wa++[.ref ca]) ((k'++[c]).map toI);rw[XC];exact jH he5 (zaz ta5 (.cons ⟨ca,rfl,hca5⟩ .nil))
    ·rw[X5,el];rfl
   rintro σ' H3 ⟨u0,es,rfl,s3,he3,hL3,el⟩;have wl2:ws.length=(Qz (oth F c)).length:=by rw[qU hLp,ZB]
   rw[wl2,Xy] at hL3;refine⟨d,e,ws,es,rfl,rfl,s3 _ _ hd2,he3,X4 (show ws.length+es.length<=200 by lia) (by decide),fun g hg=>?_⟩;have y4:=zd (o:=.lst (ws++es)) hg;refine q g (ws++es) _ ((s02.trans s3).free hg) zb ?_ ((s02.trans s3).trans y4);unfold zbz;rw[bw hc,XC];exact jI (zE (s3.trans y4) (jV (fun _ h=>h.2) hLp)) (zE y4 (jV (fun _ h=>h.2) hL3))
  ·refine jJ (by rw[bg hc];rfl) ?_;refine⟨_,rfl,q d ws H2 dn hd2 ?_ s02⟩;unfold zbz;rw[bq hc];exact jV (fun _ h=>h.2) hLp
abbrev Gp:=List (Nat×Nat)×List (List (Nat×Nat))
def okP (c:Nat×Nat)(b:Bool)(g:Gp)(k:List (Nat×Nat)):Bool:=!decide (c∈g.1) || decide (decide (c∈k)=b)
def Qf (c:Nat×Nat)(b:Bool)(g:Gp):List (List (Nat×Nat)):=g.2.filter (okP c b g)
def zot (c:Nat×Nat)(b:Bool)(acc:List (List (Nat×Nat)))(g:Gp):List (List (Nat×Nat)):=acc.flatMap fun x=>(Qf c b g).map (x++·)
def comb (c:Nat×Nat)(b:Bool)(G:List Gp):List (List (Nat×Nat)):=G.foldl (zot c b) [[]]
theorem Jr (c:Nat×Nat)(b:Bool)(G:List Gp)(g:Gp):comb c b (G++[g])=zot c b (comb c b G) g:=by
 unfold comb;rw[Vf];rfl
def zq0 (c:Nat×Nat)(b:Bool)(m:List Wy)(g:Gp):List Wy:=Ym (QU m (zaI ((Qf c b g).map toL)))
def jr (c:Nat×Nat)(b:Bool)(G:List Gp):List Wy:=G.foldl (zq0 c b) [(0,[])]
theorem Qg (c:Nat×Nat)(b:Bool)(G:List Gp)(g:Gp):jr c b (G++[g])=zq0 c b (jr c b G) g:=by
 unfold jr;rw[Vf];rfl
theorem Yh (k:List (Nat×Nat)):(toL k).length=k.length:=ZB _
theorem znT (a k:List (Nat×Nat)):toL (a++k)=toL a++toL k:=XC
theorem YL {α:Type}{P:List α->Prop}(h0:P [])(h1:∀l x,P l->P (l++[x])):∀(m:Nat) (l:List α),l.length=m->P l:=by
 intro m;induction m with
 | zero =>
  intro l h;rw[VW.mp h];exact h0
 | succ m ih =>
  intro l h;have hne:l ≠ []:=fun e=>by rw[e] at h;cases h
  rw[<- RZ hne];refine h1 _ _ (ih _ ?_);rw[OZ,h];rfl
theorem zc3 (c:Nat×Nat)(b:Bool)(G:List Gp):∀q∈jr c b G,∃S∈comb c b G,q=(S.length,toL S):=by
 refine YL (P:=fun G=>∀q∈jr c b G,∃S∈comb c b G,q=(S.length,toL S)) ?_ (fun G g ih q hq=>?_) _ G rfl
 ·intro q hq;rw[V0.mp (show q ∈ [((0:Nat),([]:List (Int×Int)))] from hq)];exact⟨[],XT,rfl⟩
 ·rw[Qg] at hq;obtain⟨x,hx,hq⟩:=Wb.mp (zc1 hq);obtain⟨y,hy,rfl⟩:=XU.mp hq;obtain⟨S,hS,rfl⟩:=ih x hx;obtain⟨h1,h2⟩:=zaJ hy;obtain⟨k,hk,e⟩:=XU.mp h1;refine⟨S++k,?_,?_⟩
  ·rw[Jr];exact Wb.mpr ⟨S,hS,XU.mpr ⟨k,hk,rfl⟩⟩
  ·rw[h2,<- e,Yh,X5,znT]
theorem zmp (c:Nat×Nat)(b:Bool)(G:List Gp):∀S∈comb c b G,S.length∈(jr c b G).map (·.1):=by
 refine YL (P:=fun G=>∀S∈comb c b G,S.length∈(jr c b G).map (·.1)) ?_ (fun G g ih S hS=>?_) _ G rfl
 ·intro S hS;rw[V0.mp (show S ∈ [([]:List (Nat×Nat))] from hS)];exact XT
 ·rw[Jr] at hS;obtain⟨x,hx,hS⟩:=Wb.mp hS;obtain⟨k,hk,rfl⟩:=XU.mp hS;obtain⟨p,hp,e1⟩:=XU.mp (ih x hx);have hk2:k.length∈(zaI ((Qf c b g).map toL)).map (·.1):=zgO.mpr (XU.mpr ⟨(k.length,toL k),XU.mpr ⟨toL k,XU.mpr ⟨k,hk,rfl⟩,by rw[Yh]⟩,rfl⟩);obtain⟨y,hy,e2⟩:=XU.mp hk2;rw[Qg];refine zgO.mpr (XU.mpr ⟨(p.1+y.1,p.2++y.2),Wb.mpr ⟨p,hp,XU.mpr ⟨y,hy,rfl⟩⟩,?_⟩);show p.1+y.1=_;rw[X5,<- e1,<- e2]
theorem zmq (c:Nat×Nat)(b:Bool)(G:List Gp)(h:∀q∈jr c b G,q.1<=64):(jr c b G).length<=65:=by
 have nd:((jr c b G).map (·.1)).Nodup:=by
  refine YL (P:=fun G=>((jr c b G).map (·.1)).Nodup) (by simp[jr]) (fun G g _=>?_) _ G rfl;rw[Qg];exact zc2 _
 have nd2:(((jr c b G).map (·.1)).map fun n=>(0,n)).Nodup:=by
  unfold WY at nd ⊢;rw[We];exact nd.imp fun z e=>z (Prod.mk.inj e).2
 have:=Parts.qc (b:=(XF 65).map fun n=>(0,n)) nd2 fun x hx=>by
  obtain⟨n,hn,rfl⟩:=XU.mp hx;obtain⟨q,hq,rfl⟩:=XU.mp hn;have:=h q hq;exact XU.mpr ⟨q.1,Xl.mpr (by lia),rfl⟩
 rw[ZB,ZB,ZB,Xj] at this;exact this
theorem zpQ {H:Hp}{kvs:List (Key×V)}{m:List Wy}(hp:JG H kvs m){k:Key}{v:V}(h:zae kvs k=some v):∃q∈m,zdv H (k,v) q:=by
 induction hp with
 | nil=>cases h
 | @cons kv q _ _ hq _ ih =>
  by_cases e:kv.1=k
  ·rw[zaf e] at h;cases h;exact⟨q,XT,e ▸ hq⟩
  ·rw[zag e] at h;obtain⟨p,h1,h2⟩:=ih h;exact⟨p,XR _ h1,h2⟩
def znU (H:Hp)(v:V)(g:Gp):Prop:=∃t cl pl cu pu,v=V.ref t/\H t=some (.tup [.ref cl,.ref pl])/\H cl=some (.lst cu)/\Cel H cu g.1/\H pl=some (.lst pu)/\qF (fun _=>True) H pu (g.2.map toL)
def zey (H:Hp):List V->List Gp->Prop:=WU (znU H)
theorem znU.mono {H H':Hp}(s:zq H H'){v:V}{g:Gp}(h:znU H v g):znU H' v g:=by
 obtain⟨t,cl,pl,cu,pu,e,h1,h2,h3,h4,h5⟩:=h;exact⟨t,cl,pl,cu,pu,e,s _ _ h1,s _ _ h2,h3.mono s,s _ _ h4,zE s h5⟩
theorem zey.mono {H H':Hp}(s:zq H H'){us:List V}{G:List Gp}(hp:zey H us G):zey H' us G:=by
 induction hp with
 | nil=>exact .nil
 | cons h _ ih=>exact .cons (h.mono s) ih
def zpR (c:Nat×Nat)(b:Bool)(G:List Gp):Prop:=(∀i,∀S∈comb c b (G.take i),S.length<=64)/\∀g∈G,g.2.length<=16384/\∀k∈g.2,k.length<=64
def zmr:Sp:=fun vs H Q _=>∃(ga ca:Addr) (b:Bool) (st:Nat) (us:List V) (G:List Gp) (c:Nat×Nat),vs=[.ref ga,.ref ca,.bl b,.int (st:Nat)]/\H ga=some (.lst us)/\zey H us G/\H ca=some (.tup [.int (c.1:Nat),.int (c.2:Nat)])/\zpR c b G /\
 ((∀S∈comb c b G,S.length≠st)->∀H',zq H H'->Q .non H') /\
 (∀S∈comb c b G,S.length=st->∀(d:Addr) (ws:List V) (ps:List (Int×Int)) (H':Hp),ps.Perm (toL S)->ps.Pairwise (fun p q=>lt2 q p=false)->H d=none->H' d=some (.lst ws)->ju H' ws ps->zq H H'->Q (.ref d) H')
theorem jX:zD ["groups","cell","lies","stones","ways","cells","picks"] ["groups","cell","lies","stones"] (zj j9):=bz rfl rfl rfl rfl (by decide +kernel)
theorem zc4 (T:Txt mg)(Z:Prog K mg){f:Addr}{fd:Xp}(D:zm K mg "some_laying" j9 ["groups","cell","lies","stones"] f fd):zY P w K mg base CX0 2 f fd ["groups","cell","lies","stones"] zmr:=by
 obtain⟨zq4,zq1,zje⟩:=Z.grown;have  znV:zY P w K mg base CX0 1 _ _ ["ways","picks"] zjc:=zmn T zje;refine D.F.ok jX (fun vs H Q E h=>?_) (fun cdv A outer s H vs Q E hr h=>?_)
 ·obtain⟨ga,ca,b,st,us,G,c,rfl,_⟩:=h;rfl
 ·obtain⟨ga,ca,b,st,us,G,c,rfl,hga,hG,hca,hF,q1,q2⟩:=h;refine⟨_,(ze (zv (i:=4) jX.nd rfl (XH rfl) (zm6 (zkU zo (qa zc) zm5) rfl rfl (by simp) (by decide)))
   (ze (qg Xb rfl (zK (pv 0)) (yP rfl (zL (zk (i:=5) jX.nd rfl (UU rfl)) (zL (zk (i:=6) jX.nd rfl (XH rfl)) jL))) (zh (zv (i:=4) jX.nd rfl (XH rfl) (pc0 znV hr zje (za (pv 4) (za (qj (N:=["pick","cell","cells","lies"]) (src:=[none,some 1,some 5,some 2]) (zO.free (O:=(zj j9).names) (XN:=["groups","cell","lies","stones","ways","cells","picks"]) rfl rfl ⟨_,rfl⟩ rfl rfl (by decide +kernel) (by decide +kernel) (by decide +kernel) rfl (by decide +kernel)) rfl (zK (pv 6)) (fun _ _ _ _ _=>(zk (i:=0) (by show WY (["pick","cell","cells","lies"]:List Str);decide +kernel) rfl (XH rfl))) (fun _ _ _ _ _=>(qm (PW.pt (zfy (jN (Yr (K:=K) (by rfl) hr.units) (pv 1) (pv 2) (by rfl)) (zbY (jN xU (Jc (jQ (K:=K) (by rfl) hr.units) (pv 1) (pv 0) (by rfl)) (pv 3) (zT _))))))) (fun _ _ _ _ _=>(pv 0))) zc))))))
   (ze (qS (zoE (zjD (u1 hr.units) (pv 3) (pv 4))) (zh (zF zaN)) zV)
   (zh (zF (zp GS.zdk (by rfl) T.zav UF (za (zm3 (u1 hr.units) (pv 4) (pv 3) (fun _ _=>rfl)) zc))))))),?_⟩
  refine fun wa hwa=>?_;refine⟨JJ,fun e he=>?_⟩;have y1:=zd (o:=.dK []) hwa;have y2:=zd (o:=.lst []) he;have hwa1:=y2 _ _ (zb (H:=H) (a:=wa) (o:=.dK []));have he1:=zb (H:=upd H wa (.dK [])) (a:=e) (o:=.lst []);refine⟨hwa1,[(VU 0,.ref e)],rfl,(by show 1<=15;decide),?_⟩;have ew:e≠wa:=fun z=>by
   rw[z,zb] at he;cases he
  have s0:zq H (upd (upd (upd H wa (.dK [])) e (.lst [])) wa (.dK (J6 [] [(VU 0,V.ref e)]))):=fun b' o z=>by
   rw[zf (zg z hwa)];exact(y1.trans y2) _ _ z
  have hw2:=zb (H:=upd (upd H wa (.dK [])) e (.lst [])) (a:=wa) (o:=.dK (J6 [] [(VU 0,V.ref e)]));have hW2:JG (upd (upd (upd H wa (.dK [])) e (.lst [])) wa (.dK (J6 [] [(VU 0,V.ref e)]))) (J6 [] [(VU 0,V.ref e)]) (jr c b []):=.cons ⟨rfl,e,[],rfl,by rw[zf ew];exact he1,.nil⟩ .nil;generalize J6 [] [(VU 0,V.ref e)]=kw0 at *
  generalize upd (upd (upd H wa (.dK [])) e (.lst [])) wa (.dK kw0)=H2 at *
  refine⟨_,rfl,ga,rfl,⟨_,SqL.of (s0 _ _ hga)⟩,?_⟩;refine j7 (K:=K) (a:=ga) (xs:=us) (fun i σ H'=>∃(wd:Addr) (kw:List (Key×V)) (v5 v6:Option V),σ=[some (.ref ga),some (.ref ca),some (.bl b),some (.int (st:Nat)),some (.ref wd),v5,v6]/\zq H H'/\H' wd=some (.dK kw)/\JG H' kw (jr c b (G.take i)))
   ⟨wa,kw0,_,_,rfl,s0,hw2,hW2⟩ (fun i σ H' _ ⟨_,_,_,_,_,y,_⟩=>SqL.of (y _ _ hga)) ?_ ?_
  ·rintro i x σ H3 hx ⟨wd,kw,v5,v6,rfl,s3,hw3,hW3⟩;obtain⟨g,hg,t,cl,pl,cu,pu,rfl,ht,hcl,hcu,hpl,hpu⟩:=zbc (hG.mono s3) hx;refine⟨t,_,rfl,SqT.of ht,rfl,_,_,rfl,_,_,rfl,rfl,?_⟩;have gm:=XY hg;obtain⟨gl,gk⟩:=hF.2 g gm;have pul:pu.length=g.2.length:=by rw[qU hpu,ZB]
   refine⟨_,rfl,_,rfl,pl,rfl,⟨_,SqL.of hpl⟩,fun z hz=>?_⟩;refine qf (K:=K) (a:=pl) (xs:=pu) (fun j σ' H'=>∃(u0:Option V) (ys:List V),σ'=[u0,some (.ref ca),some (.ref cl),some (.bl b)]/\zq H3 H'/\H' z=some (.lst ys)/\qF (fun a=>a≠z) H' ys (((g.2.take j).filter (okP c b g)).map toL)/\ys.length<=j) ⟨none,[],rfl,zd hz,zb,.nil,XW _⟩ (fun j σ' H' _ ⟨_,_,_,y,_⟩=>SqL.of (y _ _ hpl)) ?_ ?_
   ·rintro j v σ' H4 hv ⟨u0,ys,rfl,s4,hz4,hL4,yl⟩;obtain⟨k0,a,wk,hk0,rfl,_,ha,tk⟩:=xM hpu hv;obtain⟨k,hk,rfl⟩:=zfb hk0;have jl:j<pu.length:=(X2.mp hv).1;have s34:=s3.trans s4;have rc:Rdv K H4 (.ref ca) (zu c):=xJ.rdv ⟨ca,rfl,s34 _ _ hca⟩;have et:((g.2.take (j+1)).filter (okP c b g)).map toL=((g.2.take j).filter (okP c b g)).map toL++if okP c b g k=true then [toL k] else []:=by
     rw[Xu,hk,Xa,XC];congr 1;show UP toL (Vj _ [k])=_;rw[W0];split<;>rfl
    have e1:(if true=true then !(g.1.map zu).any (fun z=>W2 z (zu c)) else (g.1.map zu).any fun z=>W2 z (zu c))=!decide (c∈g.1):=by
     rw[bw rfl,xK];congr 1;rw[WO,Parts.ZY,bu]
    have e2:(if false=true then !((toL k).map pD).any (fun z=>W2 z (zu c)) else ((toL k).map pD).any fun z=>W2 z (zu c))=decide (c∈k):=by
     rw[bq XV,zhM];unfold toL;rw[UM,WO,WC,bu];exact⟨fun ⟨x,h1,h2⟩=>(zbU (bh h2):x=c) ▸ h1,fun h=>⟨c,h,br rfl⟩⟩
    have yes:okP c b g k=true->∃xs,H4 z=some (.lst xs)/\xs.length<Xv/\∃(u:Option V) (ys':List V),[some (V.ref a),some (V.ref ca),some (V.ref cl),some (V.bl b)]=[u,some (.ref ca),some (.ref cl),some (.bl b)]/\zq H3 (upd H4 z (.lst (xs++[.ref a])))/\upd H4 z (.lst (xs++[.ref a])) z=some (.lst ys')/\qF (fun a=>a≠z) (upd H4 z (.lst (xs++[.ref a]))) ys' (((g.2.take (j+1)).filter (okP c b g)).map toL)/\ys'.length<=j+1:=fun hh=>by
     rw[bw hh] at et;refine⟨ys,hz4,XA yl (XJ (show j<20000 by lia) (by decide)),_,ys++[.ref a],rfl,fun b' o z'=>?_,zb,?_,?_⟩
     ·rw[zf (zg z' hz)];exact s4 _ _ z'
     ·rw[et];have az:a≠z:=zg ha hz;exact jI (qZ hz4 (fun _ h=>h) hL4) (.cons ⟨a,wk,rfl,az,by rw[zf az];exact s4 _ _ ha,jH hz4 (qp s4 tk)⟩ .nil)
     ·rw[X5];exact TL yl
    refine⟨_,rfl,_,rfl,zu c,g.1.map zu,rc,.lst (SqL.of (s4 _ _ hcl)) (zhI (hcu.mono s4)),rfl,zdn _,(by show 1<=60;decide),_,rfl,?_⟩;rw[e1];by_cases hc:c∈g.1
    ·refine jj (by rw[br hc];rfl) ?_;refine⟨_,rfl,_,rfl,zu c,(toL k).map pD,rc,.lst (SqL.of (s4 _ _ ha)) (YH (qp s4 tk)),rfl,QM _,(by show 1<=60;decide),?_⟩;rw[e2];have eo:okP c b g k=decide (decide (c∈k)=b):=by
      unfold okP;rw[br hc];rfl
     refine⟨_,rfl,rfl,_,rfl,?_⟩;by_cases hh:decide (c∈k)=b
     ·refine jJ (br (by rw[hh])) ?_;exact⟨_,rfl,yes (by rw[eo];exact br hh)⟩
     ·refine jj (bg fun z'=>hh (V.bl.inj z')) ?_;rw[bq (by rw[eo,bu];exact hh),Xh] at et;refine⟨_,ys,rfl,s4,hz4,?_,VL yl⟩;rw[et];exact hL4
    ·refine jJ (by rw[bg hc];rfl) (Qj ?_);refine⟨_,rfl,yes ?_⟩;unfold okP;rw[bg hc];rfl
   rintro σ' H4 ⟨u0,ys,rfl,s4,hz4,hL4,yl⟩;rw[pul,Xy] at hL4;have kin:∀k∈(Qf c b g).map toL,k.length<=64:=fun k hk=>by
    obtain⟨k',hk',rfl⟩:=XU.mp hk;rw[Yh];exact gk k' (X6.mp hk').1
   have sm:=zc3 c b (G.take i);have hmm:∀q∈jr c b (G.take i),q.1=q.2.length/\q.1<=64:=fun q hq=>by
    obtain⟨S,hS,rfl⟩:=sm q hq;exact⟨(Yh S).symm,hF.1 i S hS⟩
   have ml:(jr c b (G.take i)).length<=65:=zmq c b (G.take i) fun q hq=>(hmm q hq).2;refine⟨wd,z,kw,_,ys,(Qf c b g).map toL,_,rfl,s4 _ _ hw3,hW3.wk (WK.of s4),hz4,hL4,kin,?_,hmm,ml,fun d kf H5 hd hd5 hW5 s5=>?_⟩
   ·rw[ZB];exact X4 (Xc _ _) gl
   ·refine⟨d,kf,_,_,rfl,(s3.trans s4).trans s5,hd5,?_⟩;rw[Xu,hg];show JG _ _ (jr c b (G.take i++[g]));rw[Qg];exact hW5
  ·rintro σ H3 ⟨wd,kw,v5,v6,rfl,s3,hw3,hW3⟩;rw[Paired.length hG,Xy] at hW3;have hk:(zae kw (VU ((st:Nat):Int))).isSome=decide (st∈(jr c b G).map (·.1)):=by
    rw[<- zb9,zgQ hW3,WO,WC,bu,XU];exact⟨fun ⟨x,h1,h2⟩=>⟨x,h1,bh h2⟩,fun ⟨x,h1,h2⟩=>⟨x,h1,br h2⟩⟩
   refine⟨_,rfl,_,rfl,wd,_,rfl,zeP.k (k:=VU ((st:Nat):Int)) hw3,_,rfl,?_⟩;rw[hk];by_cases hs:st∈(jr c b G).map (·.1)
   ·refine jj (by rw[br hs];rfl) ?_;have hso:(zae kw (VU ((st:Nat):Int))).isSome=true:=by rw[hk];exact br hs
    obtain⟨v,hv⟩:=VH.mp hso;obtain⟨p,hp,r⟩:=zpQ hW3 hv;obtain⟨S,hS,rfl⟩:=zc3 c b G p hp;obtain⟨e1,a,ws,e2,ha,tw⟩:=r;have e2:v=.ref a:=e2;subst e2;have es:S.length=st:=by
     have:=Sum.inl.inj e1;lia
    have sl:=hF.1 G.length S (by rw[Xy];exact hS);refine⟨_,rfl,_,rfl,wd,.ref a,rfl,hv ▸ zeP.k (k:=VU ((st:Nat):Int)) hw3,a,ws,toL S,rfl,SqL.of ha,tw,?_,fun d us' ps' hd ht hpm hpw=>?_⟩
    ·rw[yd tw,Yh];lia
    ·have y5:=zd (o:=.lst us') hd;exact q2 S hS es d us' ps' _ hpm hpw (s3.free hd) zb (qp y5 ht) (s3.trans y5)
   ·refine jJ (by rw[bg hs];rfl) ?_;exact q1 (fun S hS e=>hs (e ▸ zmp c b G S hS)) H3 s3
structure zbA (rs:List Str)(gs:List (List (Nat×Nat)))(PG:List Gp):Prop where
 nd:(PG.map (·.1)).flatten.Nodup
 mem:∀p∈PG,p.1∈gs/\∀k,k∈p.2↔k∈Subs.subs p.1/\xO rs p.1 k=true
theorem zgT (rs:List Str)(g:List (Nat×Nat)):Tally.Inv (xO rs g):=fun a b e=>by
 have h:∀o,Grow.cnt (nearF rs) o a=Grow.cnt (nearF rs) o b:=fun o=>(e.filter _).length_eq;unfold xO Grow.fits;simp only[h]
theorem zms {c:Nat×Nat}{b:Bool}{g:Gp}{k:List (Nat×Nat)}(h:okP c b g k=true)(hc:c∈g.1):decide (c∈k)=b:=by
 unfold okP at h;rw[br hc] at h;exact bh h
theorem zmt {c:Nat×Nat}{b:Bool}{g:Gp}{k:List (Nat×Nat)}(h:c∈g.1->decide (c∈k)=b):okP c b g k=true:=by
 unfold okP;by_cases hc:c∈g.1
 ·rw[h hc,br rfl,Bool.or_true]
 ·rw[bg hc];rfl
theorem zbA.init {rs:List Str}{gs:List (List (Nat×Nat))}{PG:List Gp}{p:Gp}(h:zbA rs gs (PG++[p])):zbA rs gs PG:=by
 refine⟨?_,fun q hq=>h.mem q (W5 _ hq)⟩;have:=h.nd;rw[XC,WD] at this;exact(Ww.mp this).1
theorem zbA.off {rs:List Str}{gs:List (List (Nat×Nat))}{PG:List Gp}{p:Gp}(h:zbA rs gs (PG++[p])){x:Nat×Nat}(hx:x∈(PG.map (·.1)).flatten):x ∉ p.1:=fun z=>by
 have:=h.nd;rw[XC,WD] at this;exact(Ww.mp this).2.2 x hx x (by simpa using z) rfl
section
variable {rs:List Str}{gs:List (List (Nat×Nat))}(G:Parts.Good (clA rs) (qv rs) gs){c:Nat×Nat}{b:Bool}
include G
theorem zc5:∀PG:List Gp,zbA rs gs PG->∀S∈comb c b PG,(∀x∈S,x∈(PG.map (·.1)).flatten)/\S.Nodup/\(∀p∈PG,xO rs p.1 S=true)/\(c∈(PG.map (·.1)).flatten->decide (c∈S)=b):=by
 intro PG;refine YL (P:=fun PG=>zbA rs gs PG->∀S∈comb c b PG,(∀x∈S,x∈(PG.map (·.1)).flatten)/\S.Nodup/\(∀p∈PG,xO rs p.1 S=true)/\(c∈(PG.map (·.1)).flatten->decide (c∈S)=b)) ?_ (fun PG p ih ok S hS=>?_) _ PG rfl
 ·intro _ S hS;rw[V0.mp (show S ∈ [([]:List (Nat×Nat))] from hS)];exact⟨(fun x h=>nomatch h),Uy,(fun p h=>nomatch h),(fun h=>nomatch h)⟩
 ·rw[Jr] at hS;obtain⟨S0,hS0,hS⟩:=Wb.mp hS;obtain⟨k,hk,rfl⟩:=XU.mp hS;obtain⟨a1,a2,a3,a4⟩:=ih ok.init S0 hS0;obtain⟨hk1,hk2⟩:=X6.mp hk;obtain⟨pg,pm⟩:=ok.mem p (XE _ XT);obtain⟨k1,k2⟩:=(pm k).mp hk1;have ksub:=Tally.yi k1;have gin:∀g∈gs,∀x∈g,x∈zM rs:=fun g hg x hx=>j4 G x (WI.mpr ⟨g,hg,hx⟩);have gnd:p.1.Nodup:=j3 (G.srt _ pg);have inP:∀x∈S0,x ∉ p.1:=fun x hx=>ok.off (a1 x hx);have S0sh:∀x∈S0,x∈zM rs:=fun x hx=>by
   obtain⟨l,hl,hxl⟩:=WI.mp (a1 x hx);obtain⟨q,hq,rfl⟩:=XU.mp hl;exact gin _ (ok.init.mem q hq).1 x hxl
  have fl:((PG++[p]).map (·.1)).flatten=(PG.map (·.1)).flatten++p.1:=by
   rw[XC,WD];simp
  rw[fl];refine⟨fun x hx=>?_,?_,fun q hq=>?_,fun hc=>?_⟩
  ·rcases XO.mp hx with hx | hx
   ·exact W5 _ (a1 x hx)
   ·exact XE _ (ksub.subset hx)
  ·exact Ww.mpr ⟨a2,gnd.sublist ksub,fun x hx y hy e=>inP x hx (e ▸ ksub.subset hy)⟩
  ·rcases XO.mp hq with hq | hq
   ·rw[(zaA G (ok.init.mem q hq).1).r S0 k fun x hx=>⟨gin _ pg x (ksub.subset hx),fun z=>ok.off (WI.mpr ⟨q.1,XU.mpr ⟨q,hq,rfl⟩,z⟩) (ksub.subset hx)⟩];exact a3 q hq
   ·rw[V0.mp hq,(zaA G pg).l S0 k fun x hx=>⟨S0sh x hx,inP x hx⟩];exact k2
  ·rcases XO.mp hc with hc | hc
   ·have:c ∉ k:=fun z=>ok.off hc (ksub.subset z);rw[<- a4 hc];exact decide_eq_decide.mpr ⟨fun z=>(XO.mp z).resolve_right this,W5 _⟩
   ·rw[<- zms hk2 hc];exact decide_eq_decide.mpr ⟨fun z=>(XO.mp z).resolve_left fun y=>inP c y hc,XE _⟩
theorem zko {T:List (Nat×Nat)}(hT:T.Nodup)(hsh:∀x∈T,x∈zM rs)(hfit:∀g∈gs,xO rs g T=true)(hb:decide (c∈T)=b):∀PG:List Gp,zbA rs gs PG->∃S∈comb c b PG,S.length=(T.filter fun x=>decide (x∈(PG.map (·.1)).flatten)).length:=by
 intro PG;refine YL (P:=fun PG=>zbA rs gs PG->∃S∈comb c b PG,S.length=(T.filter fun x=>decide (x∈(PG.map (·.1)).flatten)).length) ?_ (fun PG p ih ok=>?_) _ PG rfl
 ·intro _;refine⟨[],XT,?_⟩;rw[V9.mpr fun x _=>by simp]
 ·obtain⟨S0,hS0,e0⟩:=ih ok.init;obtain⟨pg,pm⟩:=ok.mem p (XE _ XT);have gnd:p.1.Nodup:=j3 (G.srt _ pg);have fl:((PG++[p]).map (·.1)).flatten=(PG.map (·.1)).flatten++p.1:=by
   rw[XC,WD];simp
  have pm2:(p.1.filter fun x=>decide (x∈T)).Perm (T.filter fun x=>decide (x∈p.1)):=(Wd (gnd.sublist W1) (hT.sublist W1)).mpr fun x=>by
   rw[X6,X6,bu,bu];exact And.comm
  have kf:xO rs p.1 (p.1.filter fun x=>decide (x∈T))=true:=by
   rw[zgT rs p.1 _ _ pm2,<- hfit p.1 pg];have e1:T.Perm ((T.filter fun x=>!decide (x∈p.1))++T.filter fun x=>decide (x∈p.1)):=by
    refine(T9.trans ?_).symm;exact List.filter_append_perm _ _
   rw[zgT rs p.1 _ _ e1,(zaA G pg).l _ _ fun x hx=>?_];obtain⟨h1,h2⟩:=X6.mp hx;rw[WT,decide_eq_false_iff_not] at h2;exact⟨hsh x h1,h2⟩
  have kin:(p.1.filter fun x=>decide (x∈T))∈Qf c b p:=by
   refine X6.mpr ⟨(pm _).mpr ⟨Tally.ziV W1,kf⟩,zmt fun hc=>?_⟩;rw[<- hb];refine decide_eq_decide.mpr ?_;rw[X6,bu];exact⟨fun z=>z.2,fun z=>⟨hc,z⟩⟩
  refine⟨S0++p.1.filter fun x=>decide (x∈T),?_,?_⟩
  ·rw[Jr];exact Wb.mpr ⟨S0,hS0,XU.mpr ⟨_,kin,rfl⟩⟩
  ·rw[X5,e0,pm2.length_eq,fl];have:∀l:List (Nat×Nat),(l.filter fun x=>decide (x∈(PG.map (·.1)).flatten)).length+(l.filter fun x=>decide (x∈p.1)).length=(l.filter fun x=>decide (x∈(PG.map (·.1)).flatten++p.1)).length:=fun l=>by
    induction l with
    | nil=>rfl
    | cons x r ih2 =>
     rw[W0,W0,W0];by_cases h1:x∈(PG.map (·.1)).flatten
     ·have h2:x ∉ p.1:=ok.off h1;rw[bw (br h1),bq (by rw[bu];exact h2),bw (br (W5 _ h1)),XB,XB,<- ih2];lia
     ·by_cases h2:x∈p.1
      ·rw[bq (by rw[bu];exact h1),bw (br h2),bw (br (XE _ h2)),XB,XB,<- ih2];lia
      ·rw[bq (by rw[bu];exact h1),bq (by rw[bu];exact h2),bq (by rw[bu,XO];exact fun z=>z.elim h1 h2)];exact ih2
   exact this T
end
def za8 (rs:List Str)(PG:List Gp)(c:Nat×Nat):List Gp:=PG++[(J8 rs,zbz (J8 rs) c)]
theorem J2 {F:List (Nat×Nat)}{c x:Nat×Nat}:x∈oth F c↔x∈F/\x≠c:=by
 unfold oth;rw[X6,WT,decide_eq_false_iff_not]
theorem zjf {F:List (Nat×Nat)}(nd:F.Nodup){c:Nat×Nat}{k:List (Nat×Nat)}(h:k∈zbz F c):k.Nodup/\(∀x∈k,x∈F)/\k.length<=F.length:=by
 have on:(oth F c).Nodup:=nd.sublist W1;have key:∀k∈Qz (oth F c),k.Nodup/\(∀x∈k,x∈F/\x≠c):=fun k hk=>by
  obtain⟨j,_,rfl⟩:=XU.mp hk;exact⟨on.sublist (T7 _ _),fun x hx=>J2.mp (Wo hx)⟩
 have fin:k.Nodup/\∀x∈k,x∈F:=by
  unfold zbz at h;split at h
  ·rename_i hc;rcases XO.mp h with h | h
   ·exact⟨(key k h).1,fun x hx=>((key k h).2 x hx).1⟩
   ·obtain⟨k',hk',rfl⟩:=XU.mp h;obtain⟨a,b⟩:=key k' hk';refine⟨Ww.mpr ⟨a,by simp,fun x hx y hy e=>(b x hx).2 (by rw[e];simpa using hy)⟩,fun x hx=>?_⟩;rcases XO.mp hx with hx | hx
    ·exact(b x hx).1
    ·rw[V0.mp hx];exact hc
  ·exact⟨(key k h).1,fun x hx=>((key k h).2 x hx).1⟩
 exact⟨fin.1,fin.2,Parts.qc fin.1 fin.2⟩
theorem zmu {F:List (Nat×Nat)}(nd:F.Nodup){c:Nat×Nat}{b:Bool}{T:List (Nat×Nat)}(hT:T.Nodup)(hb:decide (c∈T)=b):∃k∈zbz F c,k.length=(T.filter fun x=>decide (x∈F)).length/\(c∈F->decide (c∈k)=b):=by
 have on:(oth F c).Nodup:=nd.sublist W1;have cO:c ∉ oth F c:=fun z=>(J2.mp z).2 rfl;have tn:(T.filter fun x=>decide (x∈F)).Nodup:=hT.sublist W1;have tm:∀x,x∈(T.filter fun x=>decide (x∈F))↔x∈T/\x∈F:=fun x=>by rw[X6,bu]
 have pin:∀j,j<=(oth F c).length->(oth F c).take j∈Qz (oth F c):=fun j hj=>XU.mpr ⟨j,Xl.mpr (by lia),rfl⟩;by_cases hc:c∈F
 ·by_cases hct:c∈T
  ·have le:(oth (T.filter fun x=>decide (x∈F)) c).length<=(oth F c).length:=Parts.qc (tn.sublist W1) fun x hx=>by
    obtain⟨h1,h2⟩:=J2.mp hx;exact J2.mpr ⟨((tm x).mp h1).2,h2⟩
   have el:(T.filter fun x=>decide (x∈F)).length=(oth (T.filter fun x=>decide (x∈F)) c).length+1:=by
    have hp:(T.filter fun x=>decide (x∈F)).Perm (c::oth (T.filter fun x=>decide (x∈F)) c):=(Wd tn (VG.mpr ⟨fun z=>(J2.mp z).2 rfl,tn.sublist W1⟩)).mpr fun x=>by
     rw[Xz,J2];constructor
     ·intro h;by_cases e:x=c
      ·exact .inl e
      ·exact .inr ⟨h,e⟩
     ·rintro(e | h)
      ·rw[e];exact(tm c).mpr ⟨hct,hc⟩
      ·exact h.1
    rw[hp.length_eq];rfl
   refine⟨(oth F c).take (oth (T.filter fun x=>decide (x∈F)) c).length++[c],?_,?_,fun _=>?_⟩
   ·unfold zbz;rw[bw hc];exact XE _ (XU.mpr ⟨_,pin _ le,rfl⟩)
   ·rw[X5,Xw,el,Uf le];rfl
   ·rw[<- hb,br hct];exact br (XE _ XT)
  ·have le:(T.filter fun x=>decide (x∈F)).length<=(oth F c).length:=Parts.qc tn fun x hx=>J2.mpr ⟨((tm x).mp hx).2,fun e=>hct (e ▸ ((tm x).mp hx).1)⟩;refine⟨(oth F c).take (T.filter fun x=>decide (x∈F)).length,?_,?_,fun _=>?_⟩
   ·unfold zbz;rw[bw hc];exact W5 _ (pin _ le)
   ·rw[Xw,Uf le]
   ·rw[<- hb,bg hct];exact bg fun z=>cO (Wo z)
 ·have le:(T.filter fun x=>decide (x∈F)).length<=(oth F c).length:=Parts.qc tn fun x hx=>J2.mpr ⟨((tm x).mp hx).2,fun e=>hc (e ▸ ((tm x).mp hx).2)⟩;refine⟨(oth F c).take (T.filter fun x=>decide (x∈F)).length,?_,?_,fun z=>absurd z hc⟩
  ·unfold zbz;rw[bq hc];exact pin _ le
  ·rw[Xw,Uf le]
section
variable {rs:List Str}{gs:List (List (Nat×Nat))}(G:Parts.Good (clA rs) (qv rs) gs){c:Nat×Nat}{b:Bool}{PG:List Gp}(ok:zbA rs gs PG)(eg:PG.map (·.1)=gs)
include G ok eg
theorem zjg {S:List (Nat×Nat)}(h:S∈comb c b (za8 rs PG c)):S.Nodup/\(∀x∈S,x∈zM rs)/\xP rs S=true/\(c∈zM rs->decide (c∈S)=b):=by
 unfold za8 at h;rw[Jr] at h;obtain⟨S0,hS0,h⟩:=Wb.mp h;obtain⟨k,hk,rfl⟩:=XU.mp h;obtain⟨a1,a2,a3,a4⟩:=zc5 G PG ok S0 hS0;rw[eg] at a1 a4;obtain⟨k1,k2⟩:=X6.mp hk;obtain⟨b1,b2,b3⟩:=zjf (Qd rs) k1;have offk:∀x∈k,x ∉ gs.flatten:=fun x hx=>((Qe G).mp (b2 x hx)).2;refine⟨Ww.mpr ⟨a2,b1,fun x hx y hy e=>offk y hy (e ▸ a1 x hx)⟩,fun x hx=>?_,?_,fun hc=>?_⟩
 ·rcases XO.mp hx with hx | hx
  ·exact j4 G x (a1 x hx)
  ·exact zcG (b2 x hx)
 ·rw[zgy b2,<- za3 G];unfold Tally.Zs;rw[WR];intro g hg;rw[<- eg] at hg;obtain⟨p,hp,rfl⟩:=XU.mp hg;exact a3 p hp
 ·by_cases hn:c∈gs.flatten
  ·rw[<- a4 hn];exact decide_eq_decide.mpr ⟨fun z=>(XO.mp z).resolve_right fun y=>offk c y hn,W5 _⟩
  ·rw[<- zms k2 ((Qe G).mpr ⟨hc,hn⟩)];exact decide_eq_decide.mpr ⟨fun z=>(XO.mp z).resolve_left fun y=>hn (a1 c y),XE _⟩
theorem zmv {T:List (Nat×Nat)}(hT:T.Nodup)(hsh:∀x∈T,x∈zM rs)(hf:xP rs T=true)(hb:decide (c∈T)=b):∃S∈comb c b (za8 rs PG c),S.length=T.length:=by
 have hfit:∀g∈gs,xO rs g T=true:=by
  rw[<- za3 G] at hf;exact WR.mp hf
 obtain⟨S0,hS0,e0⟩:=zko G hT hsh hfit hb PG ok;obtain⟨k,hk,ek,okk⟩:=zmu (Qd rs) hT hb;refine⟨S0++k,?_,?_⟩
 ·unfold za8;rw[Jr];exact Wb.mpr ⟨S0,hS0,XU.mpr ⟨k,X6.mpr ⟨hk,zmt okk⟩,rfl⟩⟩
 ·rw[X5,e0,ek,eg];have:∀l:List (Nat×Nat),(∀x∈l,x∈zM rs)->(l.filter fun x=>decide (x∈gs.flatten)).length+(l.filter fun x=>decide (x∈J8 rs)).length=l.length:=fun l=>by
   induction l with
   | nil=>exact fun _=>rfl
   | cons x r ih =>
    intro h;have ih:=ih fun y hy=>h y (XR _ hy);have hx:=h x XT;rw[W0,W0,XB,<- ih];by_cases h1:x∈gs.flatten
    ·rw[bw (br h1),bq (by rw[bu];exact fun z=>((Qe G).mp z).2 h1),XB];lia
    ·rw[bq (by rw[bu];exact h1),bw (br ((Qe G).mpr ⟨hx,h1⟩)),XB];lia
  exact this T hsh
theorem zmw (R:Rows bd.cps.toList rs)(s14:Small rs)(pk:∀p∈PG,p.2.length<=16384):zpR c b (za8 rs PG c):=by
 have sl:(zM rs).length<=64:=jG (p:=qO) R;refine⟨fun i S hS=>?_,fun p hp=>?_⟩
 ·by_cases hi:i<=PG.length
  ·unfold za8 at hS;rw[List.take_append_of_le_length hi] at hS;have ok':zbA rs gs (PG.take i):=by
    refine⟨?_,fun p hp=>ok.mem p (Wo hp)⟩;have e:(PG.map (·.1)).flatten=((PG.take i).map (·.1)).flatten++((PG.drop i).map (·.1)).flatten:=by
     rw[<- WD,<- XC,Ws]
    have:=ok.nd;rw[e] at this;exact(Ww.mp this).1
   obtain⟨a1,a2,_,_⟩:=zc5 G (PG.take i) ok' S hS;refine X4 (Parts.qc a2 fun x hx=>?_) sl;obtain⟨l,hl,hxl⟩:=WI.mp (a1 x hx);obtain⟨p,hp,rfl⟩:=XU.mp hl;exact j4 G x (WI.mpr ⟨p.1,(ok'.mem p hp).1,hxl⟩)
  ·have e:(za8 rs PG c).take i=za8 rs PG c:=WB (by unfold za8;rw[X5];show PG.length+1<=i;lia);rw[e] at hS;obtain⟨a1,a2,_⟩:=zjg G ok eg hS;exact X4 (Parts.qc a1 a2) sl
 ·rcases XO.mp hp with hp | hp
  ·refine⟨pk p hp,fun k hk=>?_⟩;obtain⟨pg,pm⟩:=ok.mem p hp;have:=(Tally.yi ((pm k).mp hk).1).length_le;have:=s14 gs G p.1 pg;lia
  ·rw[V0.mp hp];have fl:(J8 rs).length<=64:=X4 (Xc _ _) sl;refine⟨?_,fun k hk=>X4 (zjf (Qd rs) hk).2.2 fl⟩;have ol:(oth (J8 rs) c).length<=64:=X4 (Xc _ _) fl;show (zbz (J8 rs) c).length<=16384;unfold zbz Qz;split
   ·simp only[X5,ZB,Xj];lia
   ·simp only[ZB,Xj];lia
end
def zjh (C:Addr):Sp:=fun vs H Q E=>∃(p l:Addr) (rs:List Str) (n:Int),vs=[.ref p]/\qk H p l rs n/\Rows bd.cps.toList rs/\Small rs/\0<=n/\(QO rs n≠0->∀H',zq H H'->Q (.int (QO rs n)) H')/\(QO rs n=0->∀H',zq H H'->E (.ref C) none H')
def zrD (z:Addr)(H:Hp)(v:V)(g:Gp):Prop:=∃t cl pl cu pu,v=V.ref t/\H t=some (.tup [.ref cl,.ref pl])/\cl≠z/\H cl=some (.lst cu)/\Cel H cu g.1/\pl≠z/\H pl=some (.lst pu)/\qF (fun a=>a≠z) H pu (g.2.map toL)
def zez (z:Addr)(H:Hp):List V->List Gp->Prop:=WU (zrD z H)
theorem zc6 {z:Addr}{H H':Hp}(s:zq H H'){us:List V}{G:List Gp}(hp:zez z H us G):zez z H' us G:=by
 induction hp with
 | nil=>exact .nil
 | cons h _ ih =>
  obtain⟨t,cl,pl,cu,pu,e,h1,n1,h2,h3,n2,h4,h5⟩:=h;exact .cons ⟨t,cl,pl,cu,pu,e,s _ _ h1,n1,s _ _ h2,h3.mono s,n2,s _ _ h4,zE s h5⟩ ih
theorem zc7 {z:Addr}{H:Hp}{old new:List V}(hz:H z=some (.lst old)){us:List V}{G:List Gp}(hp:zez z H us G):zez z (upd H z (.lst new)) us G:=by
 induction hp with
 | nil=>exact .nil
 | cons h _ ih =>
  obtain⟨t,cl,pl,cu,pu,e,h1,n1,h2,h3,n2,h4,h5⟩:=h;exact .cons ⟨t,cl,pl,cu,pu,e,by rw[zf (fun e2=>by rw[e2,hz] at h1;cases h1)];exact h1,n1,by rw[zf n1];exact h2,Cel.into _ _ hz h3,n2,by rw[zf n2];exact h4,qZ hz (fun _ h=>h) h5⟩ ih
theorem znW {z:Addr}{H:Hp}{us:List V}{G:List Gp}(hp:zez z H us G):zey H us G:=by
 induction hp with
 | nil=>exact .nil
 | cons h _ ih =>
  obtain⟨t,cl,pl,cu,pu,e,h1,n1,h2,h3,n2,h4,h5⟩:=h;exact .cons ⟨t,cl,pl,cu,pu,e,h1,h2,h3,h4,jV (fun _ _=>trivial) h5⟩ ih
def zc8 (rs:List Str)(n:Int)(c:Nat×Nat)(b:Bool)(H:Hp)(H':Hp)(x:V):Prop :=
 (x=.non/\∀T:List (Nat×Nat),T.Sublist (zM rs)->((T.length:Nat):Int)=n->yp rs T=true->decide (c∈T)≠b) \/
 ∃d us T,x=.ref d/\H d=none/\H' d=some (.lst us)/\ju H' us (toL T)/\T.Sublist (zM rs)/\((T.length:Nat):Int)=n/\yp rs T=true/\decide (c∈T)=b
theorem zc8.mono {rs:List Str}{n:Int}{c:Nat×Nat}{b:Bool}{H H1 H2:Hp}{x:V}(h:zc8 rs n c b H H1 x)(s:zq H1 H2):zc8 rs n c b H H2 x:=by
 rcases h with h | ⟨d,us,T,e,h1,h2,h3,h4⟩
 ·exact .inl h
 ·exact .inr ⟨d,us,T,e,h1,s _ _ h2,qp s h3,h4⟩
def zou (C:Addr):Sp:=fun vs H Q E=>∃(p l ca:Addr) (rs:List Str) (n:Int) (c:Nat×Nat),vs=[.ref p,.ref ca]/\qk H p l rs n/\Rows bd.cps.toList rs/\(zM rs).length<=14/\0<=n/\H ca=some (.tup [.int (c.1:Nat),.int (c.2:Nat)])/\c∈zM rs /\
 (QO rs n≠0->∀(t:Addr) (x y:V) (H':Hp),H t=none->H' t=some (.tup [x,y])->zc8 rs n c true H H' x->zc8 rs n c false H H' y->(∀d,x=.ref d->y ≠ .ref d)->zq H H'->Q (.ref t) H')/\(QO rs n=0->∀H',zq H H'->E (.ref C) none H')
theorem znX {rs:List Str}{n:Int}(h:QO rs n≠0):(Zy rs).isEmpty=true:=by
 unfold QO Tally.T at h;have h2:(Subs.subs (zM rs)).countP (fun S=>decide (S.length=n.toNat)&&yp rs S)≠0:=fun e=>h (by rw[e];rfl);obtain⟨S,hS,hp⟩:=OP.mp (Nat.pos_of_ne_zero h2);have:=(Wt.mp hp).2;rw[zaB fun x hx=>(Tally.yi hS).subset hx] at this;exact(Wt.mp this).1
theorem zmx (rs:List Str):(zM rs).Pairwise Cells.lex:=Cells.Zn _ 0 (codes rs)
theorem znY {rs:List Str}{S:List (Nat×Nat)}(nd:S.Nodup)(sh:∀x∈S,x∈zM rs){ps:List (Int×Int)}(hp:ps.Perm (toL S))(hs:ps.Pairwise (fun p q=>lt2 q p=false)):∃T,ps=toL T/\T.Perm S/\T.Sublist (zM rs):=by
 obtain⟨T,rfl,hT⟩:=zi2 hp;refine⟨T,rfl,hT,?_⟩;have ns:T.Nodup:=hT.nodup_iff.mpr nd;have tl:T.Pairwise Cells.lex:=by
  rw[We] at hs;refine List.Pairwise.imp₂ (fun a b h1 h2=>?_) hs ns;have hne:toI a≠toI b:=fun z=>h2 (zbU z);have:=zad hne;rw[h1] at this;refine zi1.mp ?_;cases hh:lt2 (toI a) (toI b) with
  | true=>rfl
  | false =>
   rw[hh] at this;cases this
 have e:T=(zM rs).filter fun x=>decide (x∈T):=zny ((Wd ns ((Yb rs).sublist W1)).mpr fun x=>by
  rw[X6,bu];exact⟨fun h=>⟨sh x (hT.mem_iff.mp h),h⟩,fun h=>h.2⟩) tl ((zmx rs).sublist W1)
 rw[e];exact W1
section
variable {P:Xi}{w:WS}{K:X0}{mg:Str->Option X9}{base:Heap}{f:Addr}{fd:Xp}{jad:Addr}
theorem QA:zD ["board","every"] ["board"] (zj Ji):=bz rfl rfl rfl rfl (by decide +kernel)
theorem zdw (T:Txt mg)(jan:qK K mg "NoLaying" jad)(Z:Prog K mg){f:Addr}{fd:Xp}(D:zm K mg "some_count" Ji ["board"] f fd):zY P w K mg base (CXE P w) 8 f fd ["board"] (zjh jad):=by
 obtain⟨znZ,zmy,zji⟩:=Z.count;have  zn0:zY P w K mg base CX0 7 znZ zmy ["board"] zi7:=zl5 T Z zji;refine D.F.okX QA (fun vs H Q E h=>?_) (fun cdv A outer s H vs Q E hr h=>?_)
 ·obtain⟨p,l,rs,n,rfl,_⟩:=h;rfl
 ·obtain⟨p,l,rs,n,rfl,B,R,sm,n0,q,e⟩:=h;refine⟨_,(ze (zv (i:=1) QA.nd rfl (XH rfl) (pc0 zn0 hr zji (za (pv 0) zc)))
   (ze (qS (jN xU (pv 1) zo (zT _)) (zh (zkL zdJ jan (by rfl) rfl (za qw zc))) zV)
   (zh (zF (pv 1))))),?_⟩
  refine⟨_,rfl,p,l,rs,n,rfl,B,R,sm,n0,fun H1 s1=>?_⟩;by_cases hz:QO rs n=0
  ·exact⟨_,rfl,rfl,_,rfl,jJ (br (by rw[hz])) ⟨sz_1,e hz H1 s1⟩⟩
  ·exact⟨_,rfl,rfl,_,rfl,jj (bg fun h=>hz (V.int.inj h)) ⟨_,rfl,q hz H1 s1⟩⟩
theorem Jl:zD ["board","cell","groups","having","lacking"] ["board","cell"] (zj xF):=bz rfl rfl rfl rfl (by decide +kernel)
theorem zfn (T:Txt mg)(jan:qK K mg "NoLaying" jad)(Z:Prog K mg){f:Addr}{fd:Xp}(D:zm K mg "witnesses" xF ["board","cell"] f fd):zY P w K mg base (CXE P w) 9 f fd ["board","cell"] (zou jad):=by
 obtain⟨zn1,zmJ,zaK⟩:=Z.some_count;obtain⟨zgA,zei,zR⟩:=Z.around;obtain⟨zej,zcJ,zz⟩:=Z.sign_at;obtain⟨zcK,zbm,zG⟩:=Z.cells_of;obtain⟨zl6,zki,ZA⟩:=Z.closed;obtain⟨zaC,Qt,zC⟩:=Z.open_cells;obtain⟨zbn,zaD,qo⟩:=Z.number_at;obtain⟨zfe,zds,jg⟩:=Z.numbers_of;obtain⟨zhU,zgB,jW⟩:=Z.needs_at;obtain⟨zkg,zhV,yw⟩:=Z.may_fit;obtain⟨zcL,zby,ja⟩:=Z.part_layings;obtain⟨Yk,ZF,zW⟩:=Z.closed_around;obtain⟨zl1,zkh,ZE⟩:=Z.joined;obtain⟨znE,zl2,zaE⟩:=Z.parts;obtain⟨zqT,zpG,zel⟩:=Z.far;obtain⟨zov,zn2,zbs⟩:=Z.far_picks;obtain⟨zmK,zmz,Zb⟩:=Z.some_laying;have  zfo:zY P w K mg base (CXE P w) 8 _ _ ["board"] (zjh jad):=zdw T jan Z zaK;have  zn3:zY P w K mg base CX0 3 _ _ ["board"] zi3:=zgo T zaE zR zz zG zC zW ZE;have  zc9:zY P w K mg base CX0 4 _ _ ["board","part"] zqQ:=Yj T ja zR zz zG zC qo jg jW yw;have  zow:zY P w K mg base CX0 3 _ _ ["board"] (zlG J8):=zlI T zel zR zz zG ZA zC;have  zgU:zY P w K mg base CX0 1 _ _ ["cells","cell"] zmo:=zfm T zbs;have  QB:zY P w K mg base CX0 2 _ _ ["groups","cell","lies","stones"] zmr:=zc4 T Z Zb;refine D.F.okX Jl (fun vs H Q E h=>?_) (fun cdv A outer s H vs Q E hr h=>?_)
 ·obtain⟨p,l,ca,rs,n,c,rfl,_⟩:=h;rfl
 ·obtain⟨p,l,ca,rs,n,c,rfl,B,R,s14,n0,hca,hc,q,qe⟩:=h;have sm:=zlZ s14;obtain⟨m,rfl⟩:=Int.eq_ofNat_of_zero_le n0;refine⟨_,(ze (jK (pcL zdJ zfo hr zaK (za (pv 0) zc)))
   (ze (Je (i:=2) Jl.nd rfl rfl (N:=["part","board"]) (src:=[none,some 0]) (zO.free (O:=(zj xF).names) (XN:=["board","cell","groups","having","lacking"]) rfl rfl ⟨_,rfl⟩ rfl rfl (by decide +kernel) (by decide +kernel) (by decide +kernel) rfl (by decide +kernel)) rfl (zK (pc0 zn3 hr zaE (za (pv 0) zc))) (fun _ _ _ _ _=>(zk (i:=0) (by show WY (["part","board"]:List Str);decide +kernel) rfl (XH rfl))) (fun _ _ _ _ _=>qW) (fun _ _ _ _ _=>(j6 (za (pv 0) (za (pc0 zc9 hr ja (za (pv 1) (za (pv 0) zc))) zc)))))
   (ze (jK (yG WW Wr Wq Jm (pv 2) (za (j6 (za (pc0 zow hr zel (za (pv 0) zc)) (za (pc0 zgU hr zbs (za (pc0 zow hr zel (za (pv 0) zc)) (za (pv 1) zc))) zc))) zc)))
   (ze (zv (i:=3) Jl.nd rfl (XH rfl) (pc0 QB hr Zb (za (pv 2) (za (pv 1) (za Yn (za (qq zb2 (pv 0) zo (fun _ _=>rfl)) zc))))))
   (ze (zv (i:=4) Jl.nd rfl (XH rfl) (pc0 QB hr Zb (za (pv 2) (za (pv 1) (za Yn (za (qq zb2 (pv 0) zo (fun _ _=>rfl)) zc))))))
   (zh (zF (j6 (za (pv 3) (za (pv 4) zc)))))))))),?_⟩
  refine⟨_,rfl,p,l,rs,(m:Nat),rfl,B,R,sm,n0,fun hz H1 s1=>?_,fun hz H1 s1=>qe hz H1 s1⟩;have q:=q hz;have bare:=znX hz;refine⟨_,rfl,p,l,rs,(m:Nat),rfl,B.mono s1,R,fun d wp gs H2 hd hd2 hG _ _ G up s2=>⟨d,rfl,⟨_,SqL.of hd2⟩,fun z hz2=>?_⟩⟩;have s12:=s1.trans s2;have B2:=B.mono s12;refine qf (K:=K) (a:=d) (xs:=wp) (fun i σ' H'=>∃(u0:Option V) (ys:List V) (PG:List Gp),σ'=[u0,some (.ref p)]/\zq H2 H'/\H' z=some (.lst ys)/\zez z H' ys PG/\PG.map (·.1)=gs.take i/\(∀g∈PG,g.2.length<=16384/\∀k,k∈g.2↔k∈Subs.subs g.1/\xO rs g.1 k=true)) ⟨none,[],[],rfl,zd hz2,zb,.nil,rfl,(fun g h=>nomatch h)⟩ (fun i σ' H' _ ⟨_,_,_,_,y,_⟩=>SqL.of (y _ _ hd2)) ?_ ?_
  ·rintro i v σ' H3 hv ⟨u0,ys,PG,rfl,s3,hz3,hQ,ePG,hPG⟩;obtain⟨g,hg,pa,pu,rfl,hpa,hpc⟩:=yO.get (hG.mono s3) hv;have gm:=XY hg;have gnd:g.Nodup:=j3 (G.srt g gm);have g14:=sm gs G g gm;have il:i<gs.length:=(X2.mp hg).1;have gl:gs.length<=14:=by
    have h1:=Parts.Zp G.ne;have h2:=Parts.qc G.nd (j4 G);lia
   have yl:ys.length=i:=by
    have h1:=congrArg List.length ePG;rw[ZB,Xw] at h1;rw[Paired.length hQ,h1];lia
   unfold yE;refine Z7 ?_;refine⟨_,rfl,_,rfl,_,rfl,p,l,pa,rs,(m:Nat),pu,g,rfl,B2.mono s3,R,hpa,hpc,gnd,g14,fun e ws ks H4 he he4 hL4 _ hpm _ s4=>?_⟩;obtain⟨ds,eks,hds⟩:=zbj hpm;refine⟨ZV,fun t ht=>?_⟩;have y5:=zd (o:=.tup [.ref pa,.ref e]) ht;have s35:=s4.trans y5;have hz5:=s35 _ _ hz3;have paz:pa≠z:=by
    obtain⟨g',_,pa',pu',e1,hp',_⟩:=yO.get hG hv;cases e1;exact zg hp' hz2
   have ez:e≠z:=fun x=>by
    rw[x,hz3] at he;cases he
   refine⟨ys,hz5,?_,_,ys++[.ref t],PG++[(g,ds)],rfl,fun b' o x=>?_,zb,?_,?_,?_⟩
   ·rw[yl];exact XJ (show i<20 by lia) (by decide)
   ·rw[zf (zg x hz2)];exact(s3.trans s35) _ _ x
   ·refine ZP (zc7 hz5 (zc6 s35 hQ)) (.cons ⟨t,pa,e,pu,ws,rfl,?_,paz,?_,?_,ez,?_,?_⟩ .nil)
    ·rw[zf (fun x=>by rw[x] at ht;rw[s4 _ _ hz3] at ht;cases ht),zb]
    ·rw[zf paz];exact s35 _ _ hpa
    ·exact Cel.into _ _ hz5 (hpc.mono s35)
    ·rw[zf ez];exact y5 _ _ he4
    ·have e1:ks=ds.map toL:=eks;rw[e1] at hL4;refine qZ hz5 (fun _ h=>h) (zE y5 (jV (fun a h x=>?_) hL4));have h1:=h.1;rw[x,hz3] at h1;cases h1
   ·rw[XC,ePG,Xu,hg];rfl
   ·intro g' hg';rcases XO.mp hg' with hg' | hg'
    ·exact hPG g' hg'
    ·rw[V0.mp hg'];refine⟨?_,fun k=>?_⟩
     ·show ds.length<=16384;rw[hds.length_eq];refine X4 (Xc _ _) ?_;rw[Subs.YZ,ZB,Xj];exact X4 (VS (by decide) g14) (by decide)
     ·show k∈ds↔_;rw[hds.mem_iff,X6];rfl
  rintro σ' H3 ⟨u0,ys,PG,rfl,s3,hz3,hQ,ePG,hPG⟩;rw[hG.length,Xy] at ePG;have ok:zbA rs gs PG:=⟨by rw[ePG];exact G.nd,fun g hg=>⟨by rw[<- ePG];exact XU.mpr ⟨g,hg,rfl⟩,(hPG g hg).2⟩⟩;have s03:=s12.trans s3;have B3:=B.mono s03;have fl:(J8 rs).length<=14:=X4 (Xc _ _) s14;refine⟨_,rfl,.inl ⟨rfl,_,SqL.of hz3⟩,_,rfl,p,l,rs,(m:Nat),rfl,B3,R,fun d4 w4 H4 hd4 zrE hc4 s4=>?_⟩;refine⟨_,rfl,p,l,rs,(m:Nat),rfl,B3.mono s4,R,fun d5 w5 H5 hd5 zrF hc5 s5=>?_⟩;have s05:=s03.trans (s4.trans s5);refine⟨_,rfl,d5,ca,w5,J8 rs,c,rfl,zrF,hc5,by lia,s05 _ _ hca,fun d6 w6 H6 hd6 zrG hL6 s6=>?_⟩;refine⟨ZV,fun t7 ht7=>?_⟩;have y7:=zd (o:=.tup [.ref d4,.ref d6]) ht7;have s37:=(s4.trans s5).trans (s6.trans y7);have hz7:=s37 _ _ hz3;have z4:d4≠z:=fun x=>by
   rw[x,hz3] at hd4;cases hd4
  have z6:d6≠z:=fun x=>by
   rw[x,(s4.trans s5) _ _ hz3] at hd6;cases hd6
  have gl:gs.length<=14:=by
   have h1:=Parts.Zp G.ne;have h2:=Parts.qc G.nd (j4 G);lia
  have yl:ys.length<=14:=by
   have h1:=congrArg List.length ePG;rw[ZB] at h1;rw[Paired.length hQ];lia
  refine⟨z,_,_,rfl,rfl,hz7,XA yl (by decide),?_⟩;have gAll:zey (upd (upd H6 t7 (.tup [.ref d4,.ref d6])) z (.lst (ys++[.ref t7]))) (ys++[.ref t7]) (za8 rs PG c):=by
   refine znW (z:=z) (ZP (zc7 hz7 (zc6 s37 hQ)) (.cons ⟨t7,d4,d6,w4,w6,rfl,?_,z4,?_,?_,z6,?_,?_⟩ .nil))
   ·rw[zf (fun x=>by rw[x] at ht7;rw[((s4.trans s5).trans s6) _ _ hz3] at ht7;cases ht7),zb]
   ·rw[zf z4];exact y7 _ _ (s6 _ _ (s5 _ _ zrE))
   ·exact Cel.into _ _ hz7 (((hc4.mono s5).mono s6).mono y7)
   ·rw[zf z6];exact y7 _ _ zrG
   ·refine qZ hz7 (fun _ h=>h) (zE y7 (jV (fun a h x=>?_) hL6));rw[x,(s4.trans s5) _ _ hz3] at h;cases h
  have zn:H z=none:=s12.free hz2;have s8:zq H (upd (upd H6 t7 (.tup [.ref d4,.ref d6])) z (.lst (ys++[.ref t7]))):=fun b' o x=>by
   rw[zf (zg x zn)];exact(s03.trans s37) _ _ x
  have hz8:=zb (H:=upd H6 t7 (.tup [.ref d4,.ref d6])) (a:=z) (o:=.lst (ys++[.ref t7]));generalize upd (upd H6 t7 (.tup [.ref d4,.ref d6])) z (.lst (ys++[.ref t7]))=H8 at *
  generalize ys++[.ref t7]=us8 at *
  have fine:∀b,zpR c b (za8 rs PG c):=fun b=>zmw G ok ePG R sm fun g hg=>(hPG g hg).1;have none_of:∀b,(∀S∈comb c b (za8 rs PG c),S.length≠m)->∀T:List (Nat×Nat),T.Sublist (zM rs)->((T.length:Nat):Int)=((m:Nat):Int)->yp rs T=true->decide (c∈T)≠b:=fun b h T hT hl hw hb=>by
   have sh:∀x∈T,x∈zM rs:=fun x hx=>hT.subset hx;rw[zaB sh] at hw;obtain⟨S,hS,e⟩:=zmv G ok ePG ((Yb rs).sublist hT) sh (Wt.mp hw).2 hb;exact h S hS (by lia)
  have some_of:∀b S,S∈comb c b (za8 rs PG c)->S.length=m->∀ps:List (Int×Int),ps.Perm (toL S)->ps.Pairwise (fun p q=>lt2 q p=false)->∃T,ps=toL T/\T.Sublist (zM rs)/\((T.length:Nat):Int)=((m:Nat):Int)/\yp rs T=true/\decide (c∈T)=b:=fun b S hS hl ps hp hs=>by
   obtain⟨a1,a2,a3,a4⟩:=zjg G ok ePG hS;obtain⟨T,e,hT,hsub⟩:=znY a1 a2 hp hs;refine⟨T,e,hsub,by rw[hT.length_eq,hl],?_,?_⟩
   ·rw[zcF rs _ _ hT,zaB a2,bare,a3];rfl
   ·rw[<- a4 hc];exact decide_eq_decide.mpr hT.mem_iff
  refine⟨_,rfl,_,rfl,_,rfl,p,_,_,_,rfl,rfl,SqT.of (B.mono s8).tp,rfl,z,ca,true,m,us8,_,c,rfl,hz8,gAll,s8 _ _ hca,fine true,?_,?_⟩
  ·intro h1 H9 s9;have w1:zc8 rs ((m:Nat):Int) c true H H9 .non:=.inl ⟨rfl,none_of true h1⟩;refine⟨_,rfl,_,rfl,_,rfl,p,_,_,_,rfl,rfl,SqT.of (B.mono (s8.trans s9)).tp,rfl,z,ca,false,m,us8,_,c,rfl,s9 _ _ hz8,gAll.mono s9,(s8.trans s9) _ _ hca,fine false,fun h2 H10 s10=>?_,fun S hS hl d us ps H10 hp hs hd zpS zpT s10=>?_⟩
   ·refine⟨_,rfl,_,rfl,ZV,fun t ht=>?_⟩;have y:=zd (o:=.tup [.non,.non]) ht;exact q t .non .non _ ((s8.trans (s9.trans s10)).free ht) zb (w1.mono (s10.trans y)) (.inl ⟨rfl,none_of false h2⟩) (fun d e=>nomatch e) ((s8.trans (s9.trans s10)).trans y)
   ·obtain⟨T,rfl,t1,t2,t3,t4⟩:=some_of false S hS hl ps hp hs;refine⟨_,rfl,_,rfl,ZV,fun t ht=>?_⟩;have y:=zd (o:=.tup [.non,.ref d]) ht;exact q t .non (.ref d) _ ((s8.trans (s9.trans s10)).free ht) zb (w1.mono (s10.trans y)) (.inr ⟨d,us,T,rfl,(s8.trans s9).free hd,y _ _ zpS,qp y zpT,t1,t2,t3,t4⟩) (fun d e=>nomatch e) ((s8.trans (s9.trans s10)).trans y)
  ·intro S0 hS0 hl0 d0 us0 ps0 H9 hp0 hs0 hd0 zq2 zrH s9;obtain⟨T0,rfl,a1,a2,a3,a4⟩:=some_of true S0 hS0 hl0 ps0 hp0 hs0;have w1:zc8 rs ((m:Nat):Int) c true H H9 (.ref d0):=.inr ⟨d0,us0,T0,rfl,s8.free hd0,zq2,zrH,a1,a2,a3,a4⟩;refine⟨_,rfl,_,rfl,_,rfl,p,_,_,_,rfl,rfl,SqT.of (B.mono (s8.trans s9)).tp,rfl,z,ca,false,m,us8,_,c,rfl,s9 _ _ hz8,gAll.mono s9,(s8.trans s9) _ _ hca,fine false,fun h2 H10 s10=>?_,fun S hS hl d us ps H10 hp hs hd zpS zpT s10=>?_⟩
   ·refine⟨_,rfl,_,rfl,ZV,fun t ht=>?_⟩;have y:=zd (o:=.tup [.ref d0,.non]) ht;exact q t (.ref d0) .non _ ((s8.trans (s9.trans s10)).free ht) zb (w1.mono (s10.trans y)) (.inl ⟨rfl,none_of false h2⟩) (fun d e e2=>nomatch e2) ((s8.trans (s9.trans s10)).trans y)
   ·obtain⟨T,rfl,t1,t2,t3,t4⟩:=some_of false S hS hl ps hp hs;refine⟨_,rfl,_,rfl,ZV,fun t ht=>?_⟩;have y:=zd (o:=.tup [.ref d0,.ref d]) ht;refine q t (.ref d0) (.ref d) _ ((s8.trans (s9.trans s10)).free ht) zb (w1.mono (s10.trans y)) (.inr ⟨d,us,T,rfl,(s8.trans s9).free hd,y _ _ zpS,qp y zpT,t1,t2,t3,t4⟩) (fun x e e2=>?_) ((s8.trans (s9.trans s10)).trans y);cases e;cases e2;rw[zq2] at hd;cases hd
end
structure Facts (K:X0)(C SE C1 C2 C3 C4 C5 C6 C7 C8 C9:Addr)(b1 b2:Bool):Prop where
 fd:Yv K C
 mro:VC K C (.ref SE)=some true
 k1:W6 K (.ref C) (.ref C1)=some b1
 k2:W6 K (.ref C) (.ref C2)=some b2
 k3:W6 K (.ref C) (.ref C3)=some false
 k4:W6 K (.ref C) (.ref C4)=some false
 k5:W6 K (.ref C) (.ref C5)=some false
 k6:W6 K (.ref C) (.ref C6)=some false
 k7:W6 K (.ref C) (.ref C7)=some false
 k8:W6 K (.ref C) (.ref C8)=some false
 k9:W6 K (.ref C) (.ref C9)=some false
 kv:W6 K (.ref C) (.type "ValueError")=some true
theorem zn4:TU "ValueError"=some (.type "ValueError"):=by with_unfolding_all rfl
structure zpU (K:X0)(mg:Str->Option X9)(C0 C1 C2 C3 C4 C5 C6 C7 C8 C9:Addr):Prop where
 o0:qK K mg "StoneError" C0
 o1:qK K mg "TooGreat" C1
 o2:qK K mg "NoLaying" C2
 o3:qK K mg "NoBoard" C3
 o4:qK K mg "NoCount" C4
 o5:qK K mg "NoCell" C5
 o6:qK K mg "NoText" C6
 o7:qK K mg "NoRow" C7
 o8:qK K mg "NoNumber" C8
 o9:qK K mg "NoTable" C9
 fl:Facts K C2 C0 C1 C2 C3 C4 C5 C6 C7 C8 C9 false true
def zox (C:Addr):Sp:=fun vs H Q _=>∃e:Addr,vs=[.ref e]/\H e=some (exO e C)/\∀H',zq H H'->Q (.str "laying") H'
def zjj:Sp:=fun vs H Q _=>∃(p l ca:Addr) (rs:List Str) (n:Int) (c:Nat×Nat),vs=[.ref p,.ref ca]/\qk H p l rs n/\Rows bd.cps.toList rs/\(zM rs).length<=14/\0<=n/\H ca=some (.tup [.int (c.1:Nat),.int (c.2:Nat)])/\c∈zM rs /\
 (QO rs n≠0->∀(t:Addr) (x y:V) (H':Hp),H t=none->H' t=some (.tup [x,y])->zc8 rs n c true H H' x->zc8 rs n c false H H' y->(∀d,x=.ref d->y ≠ .ref d)->zq H H'->Q (.ref t) H')/\(QO rs n=0->∀H',zq H H'->Q (.str "laying") H')
section
variable {P:Xi}{w:WS}{K:X0}{mg:Str->Option X9}{base:Heap}{f:Addr}{fd:Xp}{jai jaj jad jaa jac jab jah jaf jae jag:Addr}
theorem yN:zD ["_law_error","_law_kinds"] ["_law_error"] (zj xx):=bz rfl rfl rfl rfl (by decide +kernel)
theorem zda (T:Txt mg)(U:zpU K mg jai jaj jad jaa jac jab jah jaf jae jag)(D:zm K mg "_law_outcome" xx ["_law_error"] f fd):zY P w K mg base CX0 1 f fd ["_law_error"] (zox jad):=by
 obtain⟨jas,jat,jan,jak,jam,jal,jar,jap,jao,jaq,F⟩:=U;refine D.F.ok yN (fun vs H Q E h=>?_) (fun cdv A outer s H vs Q E hr h=>?_)
 ·obtain⟨e,rfl,_⟩:=h;rfl
 ·obtain⟨e,rfl,he,q⟩:=h;refine⟨_,(ze (zv (i:=1) yN.nd rfl (XH rfl) (qa (za (zp (qG (K:=K) (by rfl)) (by rfl) T.qd WX (za (pv 0) (za (jt (v:=.ref jaj) (by rfl) jat.g (by exact rfl)) zc))) (za (zp (qG (K:=K) (by rfl)) (by rfl) T.qd WX (za (pv 0) (za (jt (v:=.ref jad) (by rfl) jan.g (by exact rfl)) zc))) (za (zp (qG (K:=K) (by rfl)) (by rfl) T.qd WX (za (pv 0) (za (jt (v:=.ref jaa) (by rfl) jak.g (by exact rfl)) zc))) zc)))))
   (ze (zv (i:=1) yN.nd rfl (XH rfl) (zx J5 (pv 1) (qa (za (zp (qG (K:=K) (by rfl)) (by rfl) T.qd WX (za (pv 0) (za (jt (v:=.ref jac) (by rfl) jam.g (by exact rfl)) zc))) (za (zp (qG (K:=K) (by rfl)) (by rfl) T.qd WX (za (pv 0) (za (jt (v:=.ref jab) (by rfl) jal.g (by exact rfl)) zc))) (za (zp (qG (K:=K) (by rfl)) (by rfl) T.qd WX (za (pv 0) (za (jt (v:=.ref jah) (by rfl) jar.g (by exact rfl)) zc))) zc))))))
   (ze (zv (i:=1) yN.nd rfl (XH rfl) (zx J5 (pv 1) (qa (za (zp (qG (K:=K) (by rfl)) (by rfl) T.qd WX (za (pv 0) (za (jt (v:=.ref jaf) (by rfl) jap.g (by exact rfl)) zc))) (za (zp (qG (K:=K) (by rfl)) (by rfl) T.qd WX (za (pv 0) (za (jt (v:=.ref jae) (by rfl) jao.g (by exact rfl)) zc))) (za (zp (qG (K:=K) (by rfl)) (by rfl) T.qd WX (za (pv 0) (za (jt (v:=.ref jag) (by rfl) jaq.g (by exact rfl)) zc))) zc))))))
   (ze (qS (PW.pt (zfy (jN Q5 (yG WW PY PX zjV (pv 1) (za Yn zc)) zo (zT _)) (zbY (Yo (Js (zp (qG (K:=K) (by rfl)) (by rfl) T.qd WX (za (pv 0) (za (zbH (v:=.ty "ValueError") (by rfl) T.ze8 zn4 (by rfl)) zc))) (fun _=>rfl)))))) (zh (zF qw)) zV)
   (zh (zF (qq ziv (qa (za qw (za qw (za qw zc)))) (zp (Zd rfl) (by rfl) T.zgj UV (za zo (za (yG WW PySem.F.slot_list_index PySem.F.type_list_index zjW (pv 1) (za Yn zc)) zc))) (fun _ _=>rfl)))))))),?_⟩
  refine⟨_,rfl,e,_,_,_,rfl,he,F.fd,.inl ⟨_,rfl⟩,F.k1,_,rfl,e,_,_,_,rfl,he,F.fd,.inl ⟨_,rfl⟩,F.k2,_,rfl,e,_,_,_,rfl,he,F.fd,.inl ⟨_,rfl⟩,F.k3,zln,fun d1 hd1=>?_⟩;have s1:=zd (o:=.lst [.bl false,.bl true,.bl false]) hd1;have he1:=s1 _ _ he;refine⟨_,rfl,_,rfl,e,_,_,_,rfl,he1,F.fd,.inl ⟨_,rfl⟩,F.k4,_,rfl,e,_,_,_,rfl,he1,F.fd,.inl ⟨_,rfl⟩,F.k5,_,rfl,e,_,_,_,rfl,he1,F.fd,.inl ⟨_,rfl⟩,F.k6,zln,fun d2 hd2=>⟨d1,d2,_,_,rfl,rfl,zd hd2 _ _ zb,zb,zqE,fun d3 hd3=>?_⟩⟩;have s3:=(s1.trans (zd (o:=.lst [.bl false,.bl false,.bl false]) hd2)).trans (zd (o:=.lst ([.bl false,.bl true,.bl false]++[.bl false,.bl false,.bl false])) hd3);have he3:=s3 _ _ he;refine⟨_,rfl,_,rfl,e,_,_,_,rfl,he3,F.fd,.inl ⟨_,rfl⟩,F.k7,_,rfl,e,_,_,_,rfl,he3,F.fd,.inl ⟨_,rfl⟩,F.k8,_,rfl,e,_,_,_,rfl,he3,F.fd,.inl ⟨_,rfl⟩,F.k9,zln,fun d4 hd4=>⟨d3,d4,_,_,rfl,rfl,zd hd4 _ _ zb,zb,(by show 9<=Xv;decide),fun d5 hd5=>?_⟩⟩;have s5:=(s3.trans (zd (o:=.lst [.bl false,.bl false,.bl false]) hd4)).trans (zd (o:=.lst (([.bl false,.bl true,.bl false]++[.bl false,.bl false,.bl false])++[.bl false,.bl false,.bl false])) hd5);have he5:=s5 _ _ he;refine⟨_,rfl,.inl ⟨rfl,_,SqL.of zb⟩,d5,[false,true,false,false,false,false,false,false,false],true,rfl,rfl,zb,rfl,_,rfl,jj (by decide) ?_⟩;refine⟨_,rfl,e,_,_,_,rfl,he5,F.fd,.inr ⟨_,rfl⟩,F.kv,true,rfl,Qi ?_⟩;refine⟨zln,fun d6 hd6=>⟨_,rfl,.inl ⟨rfl,_,SqL.of (zd hd6 _ _ zb)⟩,d5,[false,true,false,false,false,false,false,false,false],true,1,rfl,rfl,zd hd6 _ _ zb,rfl,?_,by decide,_,_,rfl,d6,_,_,_,rfl,rfl,SqL.of zb,rfl,?_⟩⟩
  ·intro m hm;obtain rfl:m=0:=by lia
   rfl
  ·exact q _ (s5.trans (zd hd6))
theorem xQ:zD ["_law_board_here","_law_cell","_law_found","_law_error","e"] ["_law_board_here","_law_cell"] (zj Z1):=bz rfl rfl rfl rfl (by decide +kernel)
theorem zgV (T:Txt mg)(U:zpU K mg jai jaj jad jaa jac jab jah jaf jae jag)(Z:Prog K mg){f:Addr}{fd:Xp}(D:zm K mg "_law_told" Z1 ["_law_board_here","_law_cell"] f fd):zY P w K mg base CX0 10 f fd ["_law_board_here","_law_cell"] zjj:=by
 obtain⟨zgW,zfp,J3⟩:=Z.witnesses;obtain⟨zdx,zdb,QC⟩:=Z.law_outcome;have  zgX:zY P w K mg base (CXE P w) 9 zgW zfp ["board","cell"] (zou jad):=zfn T U.o2 Z J3;have  zdy:zY P w K mg base CX0 1 zdx zdb ["_law_error"] (zox jad):=zda T U QC;have jas:=U.o0;refine D.F.ok xQ (fun vs H Q E h=>?_) (fun cdv A outer s H vs Q E hr h=>?_)
 ·obtain⟨p,l,ca,rs,n,c,rfl,_⟩:=h;rfl
 ·obtain⟨p,l,ca,rs,n,c,rfl,B,R,s14,n0,hca,hc,q,qE⟩:=h;refine⟨_,(ze (zv (i:=2) xQ.nd rfl (XH rfl) zaN)
   (ze (zv (i:=3) xQ.nd rfl (XH rfl) zaN)
   (YU (zo6 (i:=2) (j:=4) rfl rfl zgX (hr.mono (by decide)) (by rfl) J3.g J3.F.kp J3.b xQ.nd rfl (XH rfl) (UU rfl) rfl rfl (by rfl) jas (za (pv 0) (za (pv 1) zc)) (fun eN=>(zh (zv (i:=3) xQ.nd rfl (XH rfl) (pv 4)))))
   (ze (qS (jN zir (pv 3) zaN (zT _)) (zh (zF (pc0 zdy hr QC (za (pv 3) zc)))) zV)
   (zh (zF (pv 2))))))),?_⟩
  refine⟨fun σ' H'=>(∃t:Addr,σ'=[some (.ref p),some (.ref ca),some (.ref t),some .non,none]/\Q (.ref t) H')\/(QO rs n=0/\∃e:Addr,σ'=[some (.ref p),some (.ref ca),some .non,some (.ref e),none]/\zq H H'/\H' e=some (exO e jad)),?_,?_⟩
  ·refine⟨_,rfl,_,rfl,p,l,ca,rs,n,c,rfl,B,R,s14,n0,hca,hc,fun hz t x y H' ht ht' hx hy hne s1=>.inl ⟨t,rfl,q hz t x y H' ht ht' hx hy hne s1⟩,fun hz H' s1=>⟨jad,rfl,U.fl.mro,fun e hn=>?_⟩⟩;exact⟨_,rfl,.inr ⟨hz,e,rfl,s1.trans (zd hn),zb⟩⟩
  ·rintro σ' H' (⟨t,rfl,q⟩ | ⟨hz,e,rfl,s1,he⟩)
   ·exact⟨_,rfl,rfl,_,rfl,jj rfl ⟨_,rfl,q⟩⟩
   ·exact⟨_,rfl,rfl,_,rfl,jJ rfl ⟨_,rfl,e,rfl,he,fun H2 s2=>qE hz H2 (s1.trans s2)⟩⟩
end
def lk1 (k:List (Int×Int)):V8:=.list (k.map pD)
theorem Qh {K:X0}{N:Addr->Prop}{H:Hp}{us:List V}{ks:List (List (Int×Int))}(h:qF N H us ks):yQ K H us (ks.map lk1):=by
 induction h with
 | nil=>exact .nil
 | cons h _ ih =>
  obtain⟨a,ws,rfl,_,h1,h2⟩:=h;exact .cons (.lst (SqL.of h1) (YH h2)) ih
theorem zmA (ks:List (List (Int×Int))):Wa (ks.map lk1)=true:=by
 induction ks with
 | nil=>rfl
 | cons k r ih =>
  show (Wa (k.map pD)&&Wa (r.map lk1))=true;rw[QM,ih];rfl
theorem zpV (ks:List (List (Int×Int))):Wl (ks.map lk1)<=2:=by
 induction ks with
 | nil=>exact W4 _
 | cons k r ih =>
  show max (Wl (k.map pD)+1) (Wl (r.map lk1))<=2;have:=zcu k;lia
theorem zh9 (ks:List (List (Int×Int))):zfH (.list (ks.map lk1)) (.list []):=⟨zmA ks,rfl,by
 show Wl (ks.map lk1)+1<=64;have:=zpV ks;lia⟩
theorem zia (ks:List (List (Int×Int))):(if false=true then !PyData.eqv (.list (ks.map lk1)) (.list []) else W2 (.list (ks.map lk1)) (.list []))=ks.isEmpty:=by
 cases ks<;>rfl
theorem zn5:zfH (.str "laying") (.str "laying"):=⟨by decide +kernel,by decide +kernel,by decide +kernel⟩
theorem zn6 (k:List (Int×Int)):(lk1 k).depth<=2:=by
 show Wl (k.map pD)+1<=2;have:=zcu k;lia
def zjk:Sp:=fun vs H Q _=>∃(x:V) (sa:Addr) (us:List V) (ks:List (List (Int×Int))) (N:Addr->Prop),vs=[x,.ref sa]/\H sa=some (.lst us)/\qF N H us ks/\((ks=[]/\x=.non)\/(ks ≠ []/\∃d ws k,x=.ref d/\H d=some (.lst ws)/\ju H ws k/\k∈ks/\ws.length<=100))/\∀H',zq H H'->Q (.bl true) H'
theorem zfq:zD ["_law_found","_law_some"] ["_law_found","_law_some"] (zj JX):=bz rfl rfl rfl rfl (by decide +kernel)
theorem zfr (T:Txt mg)(D:zm K mg "_law_right" JX ["_law_found","_law_some"] f fd):zY P w K mg base CX0 1 f fd ["_law_found","_law_some"] zjk:=by
 refine D.F.ok zfq (fun vs H Q E h=>?_) (fun cdv A outer s H vs Q E hr h=>?_)
 ·obtain⟨x,sa,us,ks,N,rfl,_⟩:=h;rfl
 ·obtain⟨x,sa,us,ks,N,rfl,hsa,hL,hx,q⟩:=h;refine⟨_,(ze (qS (jN (yR hr.units) (pv 1) (qa zc) (zT _)) (zh (zF (Jc zoP (pv 0) zaN (zT _)))) zV)
   (zh (zF (zkr (zp Yq (by rfl) T.qd WX (za (pv 0) (za (zbH (v:=.ty "list") (by rfl) T.zhD Su (by rfl)) zc))) (zkr (Jc (QG hr.units) (pv 0) (pv 1) (by rfl)) (zoF (Jc (yR hr.units) (qj (N:=["_law_cell"]) (src:=[none]) (zO.plain rfl (by decide +kernel) (by decide +kernel) (by decide +kernel) rfl (by decide)) rfl (zK (pv 0)) (fun _ _ _ _ _=>(zk (i:=0) (by show WY (["_law_cell"]:List Str);decide +kernel) rfl (XH rfl))) (fun _ _ _ _ _=>(qm (Yo (YV (K:=K) (by rfl) (zp (zeK (K:=K) (by rfl)) (by rfl) T.qd WX (za (pv 0) (za (zbH (v:=.ty "tuple") (by rfl) T.ziY PQ (by rfl)) zc))) (fun _=>rfl))))) (fun _ _ _ _ _=>(pv 0))) (qa zc) (zT _)))))))),?_⟩
  refine⟨_,rfl,JJ,fun e he=>?_⟩;have y1:=zd (o:=.lst []) he;refine⟨.list (ks.map lk1),.list [],.lst (SqL.of (y1 _ _ hsa)) (Qh (zE y1 hL)),.lst (SqL.of zb) .nil,zh9 ks,_,rfl,?_⟩;rw[zia];have hsa1:=y1 _ _ hsa;have hL1:=zE y1 hL;have q:=fun H' s'=>q H' (y1.trans s');rcases hx with ⟨rfl,rfl⟩ | ⟨hne,d,ws,k,rfl,hd,tw,hk,wl⟩
  ·refine jJ rfl ?_;exact⟨_,rfl,rfl,q _ (zq.refl _)⟩
  ·have hd1:=y1 _ _ hd;have tw1:=qp y1 tw;refine jj (VO.mpr hne) ?_;generalize upd H e (.lst [])=H1 at *
   refine⟨_,rfl,_,"list","list",true,rfl,.lst hd1,(by decide +kernel),true,rfl,Qj ?_⟩;have ein:(if false=true then !(ks.map lk1).any (fun z=>W2 z (lk1 k)) else (ks.map lk1).any fun z=>W2 z (lk1 k))=true:=by
    rw[bq XV,WC];exact⟨lk1 k,XU.mpr ⟨k,hk,rfl⟩,O8 _ (QM k)⟩
   refine⟨_,rfl,_,rfl,lk1 k,ks.map lk1,.lst (SqL.of hd1) (YH tw1),.lst (SqL.of hsa1) (Qh hL1),QM k,zmA ks,(by have:=zn6 k;lia),?_⟩;rw[ein];refine⟨true,rfl,Qj ?_⟩;refine⟨_,rfl,d,rfl,⟨_,SqL.of hd1⟩,fun z hz=>?_⟩;refine qf (K:=K) (a:=d) (xs:=ws) (fun i σ' H'=>∃(u0:Option V),σ'=[u0]/\zq H1 H'/\H' z=some (.lst [])) ⟨none,rfl,zd hz,zb⟩ (fun i σ' H' _ ⟨_,_,y,_⟩=>SqL.of (y _ _ hd1)) ?_ ?_
   ·rintro i v σ' H2 hv ⟨u0,rfl,s2,hz2⟩;obtain⟨p,_,a,rfl,ha⟩:=zgp tw1 hv;exact⟨_,rfl,_,"tuple","tuple",true,rfl,.tup (s2 _ _ ha),(by decide +kernel),true,rfl,Qi ⟨_,rfl,s2,hz2⟩⟩
   rintro σ' H2 ⟨u0,rfl,s2,hz2⟩;refine⟨JJ,fun g hg=>?_⟩;have y3:=zd (o:=.lst []) hg;refine⟨yK [],yK [],.lst (SqL.of (y3 _ _ hz2)) .nil,.lst (SqL.of zb) .nil,zeg [] [],?_⟩;have kq:(if false=true then !PyData.eqv (yK []) (yK []) else W2 (yK []) (yK []))=true:=zcA [];rw[kq];exact q _ (s2.trans y3)
def zgY (K:X0):Sp:=fun vs H Q _=>∃(a:Addr) (ns:List Int),vs=[.ref a]/\SqL K H a (ns.map V.int)/\ns.length<=63/\∀H',Q (.bl true) H'
theorem zgZ {rs:List Str}{n:Nat}(W:Wide rs n){st:Int}{X:List (Int×Int)}:X∈ye rs n st ↔ ∃T:List (Nat×Nat),T.Sublist (zM rs)/\((T.length:Nat):Int)=st/\yp rs T=true/\X=toL T:=by
 unfold ye;rw[XU];have et:∀S:List Nat,(S.map fun k=>toI (pos n ((jc rs n).getD k 0)))=toL (S.map fun k=>pos n ((jc rs n).getD k 0)):=fun S=>by
  unfold toL;rw[WJ];rfl
 constructor
 ·rintro⟨S,hS,rfl⟩;obtain⟨h1,h2⟩:=X6.mp hS;obtain⟨h3,h4⟩:=Wt.mp h2;have hs:=Tally.yi h1;refine⟨S.map fun k=>pos n ((jc rs n).getD k 0),?_,?_,?_,et S⟩
  ·rw[<- zcV W];exact hs.map _
  ·rw[ZB];exact bh h3
  ·rw[<- QT W hs];exact h4
 ·rintro⟨T,hT,hl,hw,rfl⟩;rw[<- zcV W] at hT;obtain⟨S,hS,rfl⟩:=List.sublist_map_iff.mp hT;rw[ZB] at hl;exact⟨S,X6.mpr ⟨Tally.ziV hS,Wt.mpr ⟨br hl,by rw[QT W hS];exact hw⟩⟩,et S⟩
theorem zmB (c:Nat×Nat)(T:List (Nat×Nat)):Yl c (toL T)=decide (c∈T):=by
 unfold Yl toL;rw[UM,WO,WC,bu];exact⟨fun ⟨x,h1,h2⟩=>(zbU (bh h2):x=c) ▸ h1,fun h=>⟨c,h,br rfl⟩⟩
theorem za9 {rs:List Str}{n:Nat}(W:Wide rs n){st:Int}{c:Nat×Nat}{b:Bool}{H H':Hp}{x:V}(h:zc8 rs st c b H H' x)(sl:(zM rs).length<=10){ks:List (List (Int×Int))}(hk:∀X,X∈ks↔X∈ye rs n st/\Yl c X=b):(ks=[]/\x=.non)\/(ks ≠ []/\∃d ws k,x=.ref d/\H' d=some (.lst ws)/\ju H' ws k/\k∈ks/\ws.length<=100):=by
 rcases h with ⟨rfl,h⟩ | ⟨d,us,T,rfl,_,h2,h3,h4,h5,h6,h7⟩
 ·refine .inl ⟨List.eq_nil_iff_forall_not_mem.mpr fun X hX=>?_,rfl⟩;obtain⟨h1,h2⟩:=(hk X).mp hX;obtain⟨T,t1,t2,t3,rfl⟩:=(zgZ W).mp h1;rw[zmB] at h2;exact h T t1 t2 t3 h2
 ·have hm:toL T∈ks:=(hk _).mpr ⟨(zgZ W).mpr ⟨T,h4,h5,h6,rfl⟩,by rw[zmB];exact h7⟩;refine .inr ⟨Uj hm,d,us,toL T,rfl,h2,h3,hm,?_⟩;rw[yd h3,Yh];have:=h4.length_le;lia
def zeA (H H':Hp)(v:V):Prop:=v=.non\/∃d ws,v=.ref d/\H d=none/\H' d=some (.lst ws)/\ws.length<=100
theorem zmC {rs:List Str}{st:Int}{c:Nat×Nat}{b:Bool}{H H':Hp}{x:V}(h:zc8 rs st c b H H' x)(sl:(zM rs).length<=10):zeA H H' x:=by
 rcases h with ⟨rfl,_⟩ | ⟨d,us,T,rfl,h1,h2,h3,h4,_⟩
 ·exact .inl rfl
 ·refine .inr ⟨d,us,rfl,h1,h2,?_⟩;rw[yd h3,Yh];have:=h4.length_le;lia
section
variable {P:Xi}{w:WS}{K:X0}{mg:Str->Option X9}{base:Heap}{f:Addr}{fd:Xp}{jai jaj jad jaa jac jab jah jaf jae jag:Addr}
theorem JI:zD ["_law_script","_law_texts_here","_law_stones","_law_board_here","_law_fitting","_law_cell","_law_having","_law_lacking","_law_turn","_law_found","_law_one"] ["_law_script"] (zj zbg):=bz rfl rfl rfl rfl (by decide +kernel)
theorem zn7 (T:Txt mg)(U:zpU K mg jai jaj jad jaa jac jab jah jaf jae jag)(Z:Prog K mg){f:Addr}{fd:Xp}(D:zm K mg "law" zbg ["_law_script"] f fd):zY P w K mg base CX0 11 f fd ["_law_script"] (zgY K):=by
 obtain⟨zg0,zfs,zbt⟩:=Z.law_board;obtain⟨zdz,zdc,QD⟩:=Z.law_layings;obtain⟨zft,zdA,zaL⟩:=Z.law_closed;obtain⟨zib,zg1,zdd⟩:=Z.law_told;obtain⟨zg2,zfu,YM⟩:=Z.law_right;have  zg3:zY P w K mg base CX0 3 zg0 zfs ["_law_script","_law_start"] (zqY K):=zfi T Z zbt;have  zdB:zY P w K mg base CX0 3 zdz zdc ["_law_texts_here","_law_stones"] zmi:=zcY T Z QD;have  zfv:zY P w K mg base CX0 1 zft zdA ["_law_texts_here"] zmg:=zdu T zaL;have  zic:zY P w K mg base CX0 10 zib zg1 ["_law_board_here","_law_cell"] zjj:=zgV T U Z zdd;have  zbu:zY P w K mg base CX0 1 zg2 zfu ["_law_found","_law_some"] zjk:=zfr T YM;refine D.F.ok JI (fun vs H Q E h=>?_) (fun cdv A outer s H vs Q E hr h=>?_)
 ·obtain⟨a,ns,rfl,_⟩:=h;rfl
 ·obtain⟨a,ns,rfl,hS,hlen,q⟩:=h;refine⟨_,(ze (zbZ (pc0 zg3 hr zbt (za (pv 0) (za zo zc))) (yP rfl (zL (zk (i:=1) JI.nd rfl (XH rfl)) (zL (zk (i:=2) JI.nd rfl (XH rfl)) jL))))
   (ze (zv (i:=3) JI.nd rfl (XH rfl) (j6 (za (jD zab (by rfl) T.zhD Su (za (pv 1) zc)) (za (pv 2) zc))))
   (ze (zv (i:=4) JI.nd rfl (XH rfl) (pc0 zdB hr QD (za (pv 1) (za (pv 2) zc))))
   (ze (qg Xb rfl (zK (pc0 zfv hr zaL (za (pv 1) zc))) (zk (i:=5) JI.nd rfl (UU rfl)) (ze (Je (i:=6) JI.nd rfl rfl (N:=["_law_one","_law_cell"]) (src:=[none,some 5]) (zO.free (O:=(zj zbg).names) (XN:=["_law_script","_law_texts_here","_law_stones","_law_board_here","_law_fitting","_law_cell","_law_having","_law_lacking","_law_turn","_law_found","_law_one"]) rfl rfl ⟨_,rfl⟩ rfl rfl (by decide +kernel) (by decide +kernel) (by decide +kernel) rfl (by decide +kernel)) rfl (zK (pv 4)) (fun _ _ _ _ _=>(zk (i:=0) (by show WY (["_law_one","_law_cell"]:List Str);decide +kernel) rfl (XH rfl))) (fun _ _ _ _ _=>(qm (jN (jQ (K:=K) (by rfl) hr.units) (pv 1) (pv 0) (by rfl)))) (fun _ _ _ _ _=>(pv 0)))
   (ze (Je (i:=7) JI.nd rfl rfl (N:=["_law_one","_law_cell"]) (src:=[none,some 5]) (zO.free (O:=(zj zbg).names) (XN:=["_law_script","_law_texts_here","_law_stones","_law_board_here","_law_fitting","_law_cell","_law_having","_law_lacking","_law_turn","_law_found","_law_one"]) rfl rfl ⟨_,rfl⟩ rfl rfl (by decide +kernel) (by decide +kernel) (by decide +kernel) rfl (by decide +kernel)) rfl (zK (pv 4)) (fun _ _ _ _ _=>(zk (i:=0) (by show WY (["_law_one","_law_cell"]:List Str);decide +kernel) rfl (XH rfl))) (fun _ _ _ _ _=>(qm (jN (Yr (K:=K) (by rfl) hr.units) (pv 1) (pv 0) (by rfl)))) (fun _ _ _ _ _=>(pv 0)))
   (zh (qg Xb rfl (qB (by rfl) T.qQ (za zo zc)) (zk (i:=8) JI.nd rfl (XH rfl)) (ze (zv (i:=9) JI.nd rfl (XH rfl) (pc0 zic hr zdd (za (pv 3) (za (pv 5) zc))))
   (ze (qS (jN (yR hr.units) (pv 4) (qa zc) (zT _)) (ze (qS (jN (Ju hr.units) (pv 9) qw (zT _)) (zh (zF Yn)) zV)
   (zh zfz)) zV)
   (ze (qS (PW.pt (zfy (Yo (Js (zp Yq (by rfl) T.qd WX (za (pv 9) (za (zbH (v:=.ty "tuple") (by rfl) T.ziY PQ (by rfl)) zc))) (fun _=>rfl))) (zbY (jN Q5 (zp Jd (by rfl) T.jB WP (za (pv 9) zc)) zo (zT _))))) (zh (zF Yn)) zV)
   (ze (qS (PW.pt (zfy (Yo (Js (pc0 zbu hr YM (za (qq zb2 (pv 9) zo (fun _ _=>rfl)) (za (pv 6) zc))) (fun _=>rfl))) (zbY (Yo (Js (pc0 zbu hr YM (za (qq zb2 (pv 9) zo (fun _ _=>rfl)) (za (pv 7) zc))) (fun _=>rfl)))))) (zh (zF Yn)) zV)
   (zh (qg Xb rfl (zoJ (pv 9)) (zk (i:=10) JI.nd rfl (XH rfl)) (zh (qS (jN zir (pv 10) zaN (zT _)) (zh (jK (yG WW Wr Wq Jm (pv 10) (za (j6 (za zo (za zo zc))) zc)))) zV)))))))))))))
   (zh (zF (Jc (yR hr.units) (pv 3) (j6 (za (pv 1) (za (pv 2) zc))) (zT _)))))))),?_⟩
  refine⟨_,rfl,a,ns,_,rfl,hS,by decide,fun p l rs st H1 B0 Br b0 b1 s1=>?_⟩;refine⟨p,_,rfl,SqT.of B0.tp,rfl,_,_,rfl,_,_,rfl,rfl,?_⟩;have hl:=B0.rw;obtain⟨n,n1,n5,hrow⟩:=Br.ex;have W:Wide rs n:=⟨n1,n5,hrow⟩;have R:=Br.rows;have s10:=Br.sh;refine⟨_,rfl,l,_,rfl,.inl (SqL.of hl),fun l2 hl2=>⟨_,rfl,ZV,fun h hh=>?_⟩⟩;have z1:=zd (o:=.lst (rs.map V.str)) hl2;have z2:=zd (o:=.tup [.ref l2,.int st]) hh;have BH:qk (upd (upd H1 l2 (.lst (rs.map V.str))) h (.tup [.ref l2,.int st])) h l2 rs st:=⟨zb,z2 _ _ zb⟩;have hl2':=(z1.trans z2) _ _ hl;generalize upd (upd H1 l2 (.lst (rs.map V.str))) h (.tup [.ref l2,.int st])=H2 at *
  refine⟨_,rfl,_,rfl,l,rs,n,st,rfl,hl2',Br,W,fun fa us N H3 hfa zrI hL3 s3=>?_⟩;have ul:=qU hL3;have ea:=zmf W b0;have u64:us.length<=1024:=by
   rw[ul];unfold ye;rw[ZB];refine X4 (Xc _ _) ?_;rw[za5,Xj];refine X4 (VS (by decide) (show (jc rs n).length<=10 from ?_)) (by decide);have h1:=Br.sh;rw[<- zcU W,ZB] at h1;exact h1
  refine⟨_,rfl,l,rs,rfl,s3 _ _ hl2',R,fun d wd H4 hd hd4 hc4 s4=>⟨d,rfl,⟨_,SqL.of hd4⟩,?_⟩⟩;have BH4:=BH.mono (s3.trans s4);have hl4:=s4 _ _ (s3 _ _ hl2');have hfa4:=s4 _ _ zrI;have hL4:=zE s4 hL3;refine j7 (K:=K) (a:=d) (xs:=wd) (fun i σ H'=>∃(v5 v6 v7 v8 v9 v10:Option V),σ=[some (.ref a),some (.ref l),some (.int st),some (.ref h),some (.ref fa),v5,v6,v7,v8,v9,v10]/\zq H4 H')
   ⟨_,_,_,_,_,_,rfl,zq.refl _⟩ (fun i σ H' _ ⟨_,_,_,_,_,_,_,y⟩=>SqL.of (y _ _ hd4)) ?_ ?_
  ·rintro i x σ H5 hx ⟨v5,v6,v7,v8,v9,v10,rfl,s5⟩;obtain⟨c,hc,ca,rfl,hca⟩:=Cel.get (hc4.mono s5) hx;have cm:=XY hc;have hfa5:=s5 _ _ hfa4;have hL5:=zE s5 hL4;refine⟨_,rfl,fa,rfl,⟨_,SqL.of hfa5⟩,fun z hz=>?_⟩;refine qf (K:=K) (a:=fa) (xs:=us) (fun j σ' H'=>∃(u0:Option V) (ys:List V),σ'=[u0,some (.ref ca)]/\zq H5 H'/\H' z=some (.lst ys)/\qF (fun a=>a≠z) H' ys (((ye rs n st).take j).filter (Yl c))/\ys.length<=j) ⟨none,[],rfl,zd hz,zb,.nil,XW _⟩ (fun j σ' H' _ ⟨_,_,_,y,_⟩=>SqL.of (y _ _ hfa5)) ?_ ?_
   ·rintro j v σ' H6 hv ⟨u0,ys,rfl,s6,hz6,hL6,yl⟩;obtain⟨k,a1,wa,hk1,rfl,_,ha1,t1⟩:=xM hL5 hv;have jl:j<us.length:=(X2.mp hv).1;have e1:((ye rs n st).take (j+1)).filter (Yl c)=((ye rs n st).take j).filter (Yl c)++if Yl c k=true then [k] else []:=by
     rw[Xu,hk1,Xa];congr 1;show Vj _ [k]=_;rw[W0];split<;>rfl
    refine⟨_,rfl,_,rfl,zu c,k.map pD,xJ.rdv ⟨ca,rfl,s6 _ _ hca⟩,.lst (SqL.of (s6 _ _ ha1)) (YH (qp s6 t1)),rfl,QM _,(by show 1<=60;decide),_,rfl,?_⟩;have ei:(if false=true then !(k.map pD).any (fun z=>W2 z (zu c)) else (k.map pD).any fun z=>W2 z (zu c))=Yl c k:=zhM k c;rw[ei,e1];by_cases hh:Yl c k=true
    ·refine jJ hh ?_;rw[bw hh];refine⟨_,rfl,ys,hz6,XA yl (XJ (show j<2000 by lia) (by decide)),_,ys++[.ref a1],rfl,fun b o e=>?_,zb,?_,?_⟩
     ·rw[zf (zg e hz)];exact s6 _ _ e
     ·have nz:a1≠z:=zg ha1 hz;exact jI (qZ hz6 (fun _ h=>h) hL6) (.cons ⟨a1,wa,rfl,nz,by rw[zf nz];exact s6 _ _ ha1,jH hz6 (qp s6 t1)⟩ .nil)
     ·rw[X5];exact TL yl
    ·refine jj (Xs.mpr hh) ?_;rw[bq hh,Xh];exact⟨_,ys,rfl,s6,hz6,hL6,VL yl⟩
   rintro σ' H6 ⟨u0,ys,rfl,s6,hz6,hL6,yl⟩;rw[ul,Xy] at hL6;have hfa6:=s6 _ _ hfa5;have hLf6:=zE s6 hL5;have hca6:=s6 _ _ hca;refine⟨_,rfl,fa,rfl,⟨_,SqL.of hfa6⟩,fun z' hz'=>?_⟩;refine qf (K:=K) (a:=fa) (xs:=us) (fun j σ' H'=>∃(u0:Option V) (ys:List V),σ'=[u0,some (.ref ca)]/\zq H6 H'/\H' z'=some (.lst ys)/\qF (fun a=>a≠z') H' ys (((ye rs n st).take j).filter fun k=>!Yl c k)/\ys.length<=j) ⟨none,[],rfl,zd hz',zb,.nil,XW _⟩ (fun j σ' H' _ ⟨_,_,_,y,_⟩=>SqL.of (y _ _ hfa6)) ?_ ?_
   ·rintro j v σ' H7 hv ⟨u0,ys',rfl,s7,hz7,hL7,yl'⟩;obtain⟨k,a1,wa,hk1,rfl,_,ha1,t1⟩:=xM hLf6 hv;have jl:j<us.length:=(X2.mp hv).1;have e1:((ye rs n st).take (j+1)).filter (fun k=>!Yl c k)=((ye rs n st).take j).filter (fun k=>!Yl c k)++if (!Yl c k)=true then [k] else []:=by
     rw[Xu,hk1,Xa];congr 1;show Vj _ [k]=_;rw[W0];split<;>rfl
    refine⟨_,rfl,_,rfl,zu c,k.map pD,xJ.rdv ⟨ca,rfl,s7 _ _ hca6⟩,.lst (SqL.of (s7 _ _ ha1)) (YH (qp s7 t1)),rfl,QM _,(by show 1<=60;decide),_,rfl,?_⟩;have ei:(if true=true then !(k.map pD).any (fun z=>W2 z (zu c)) else (k.map pD).any fun z=>W2 z (zu c))=!Yl c k:=by
     rw[bw rfl,zhM];rfl
    rw[ei,e1];by_cases hh:(!Yl c k)=true
    ·refine jJ hh ?_;rw[bw hh];refine⟨_,rfl,ys',hz7,XA yl' (XJ (show j<2000 by lia) (by decide)),_,ys'++[.ref a1],rfl,fun b o e=>?_,zb,?_,?_⟩
     ·rw[zf (zg e hz')];exact s7 _ _ e
     ·have nz:a1≠z':=zg ha1 hz';exact jI (qZ hz7 (fun _ h=>h) hL7) (.cons ⟨a1,wa,rfl,nz,by rw[zf nz];exact s7 _ _ ha1,jH hz7 (qp s7 t1)⟩ .nil)
     ·rw[X5];exact TL yl'
    ·refine jj (Xs.mpr hh) ?_;rw[bq hh,Xh];exact⟨_,ys',rfl,s7,hz7,hL7,VL yl'⟩
   rintro σ' H7 ⟨u0',ys',rfl,s7,hz7,hL7,yl'⟩;rw[ul,Xy] at hL7;have s57:=s6.trans s7;have s47:=s5.trans s57;have BH7:=BH4.mono s47;have hfa7:=s7 _ _ hfa6;have hLf7:=zE s7 hLf6;have hca7:=s7 _ _ hca6;have hzz:=s7 _ _ hz6;have hLz:=zE s7 hL6;refine⟨2,rfl,by decide,by decide,?_⟩;refine qC (lo:=0) (fun j σ H'=>∃(v8 v9 v10:Option V),σ=[some (.ref a),some (.ref l),some (.int st),some (.ref h),some (.ref fa),some (.ref ca),some (.ref z),some (.ref z'),v8,v9,v10]/\zq H7 H') ⟨_,_,_,rfl,zq.refl _⟩ ?_ ?_
   ·rintro j σ H8 hj ⟨v8,v9,v10,rfl,s8⟩;refine⟨_,rfl,_,rfl,h,l2,ca,rs,st,c,rfl,BH7.mono s8,R,by lia,b0,s8 _ _ hca7,cm,fun hnz t x y H9 ht ht9 wx wy hne s9=>?_,fun hz0 H9 s9=>?_⟩
    ·have s89:=s8.trans s9;have F0:(ye rs n st).isEmpty=false:=by
      refine VO.mpr fun e=>hnz ?_;rw[<- ea,e];rfl
     refine⟨_,rfl,JJ,fun e he=>?_⟩;have y9:=zd (o:=.lst []) he;have wx:=wx.mono y9;have wy:=wy.mono y9;have s9y:=s89.trans y9;have ht':=y9 _ _ ht9;refine⟨.list ((ye rs n st).map lk1),.list [],.lst (SqL.of (s9y _ _ hfa7)) (Qh (zE s9y hLf7)),.lst (SqL.of zb) .nil,zh9 _,_,rfl,?_⟩;refine jj ((zia _).trans F0) ?_;generalize upd H9 e (.lst [])=H10 at *
     refine⟨_,rfl,_,"tuple","tuple",true,rfl,.tup ht',(by decide +kernel),true,rfl,Qi ?_⟩;refine⟨_,rfl,t,_,rfl,.inr (SqT.of ht'),rfl,_,rfl,jj (by rw[br (show V.int (([x,y].length:Nat):Int)=V.int 2 from rfl)];rfl) ?_⟩;have rx:=za9 W wx s10 (ks:=(ye rs n st).filter (Yl c)) fun X=>X6;have ry:=za9 W wy s10 (ks:=(ye rs n st).filter fun k=>!Yl c k) fun X=>by rw[X6,WT]
     refine⟨_,rfl,t,_,_,_,rfl,rfl,SqT.of ht',rfl,_,rfl,x,z,ys,_,_,rfl,s9y _ _ hzz,zE s9y hLz,rx,fun H11 s11=>⟨true,rfl,Qi ?_⟩⟩;have ry:=za9 W (wy.mono s11) s10 (ks:=(ye rs n st).filter fun k=>!Yl c k) fun X=>by rw[X6,WT]
     have ht11:=s11 _ _ ht';have s911:=s9y.trans s11;refine⟨_,rfl,t,_,_,_,rfl,rfl,SqT.of ht11,rfl,_,rfl,y,z',ys',_,_,rfl,s911 _ _ hz7,zE s911 hL7,ry,fun H12 s12=>⟨true,rfl,Qi ?_⟩⟩;have ht12:=s12 _ _ ht11;have s912:=s911.trans s12;have l1:=zmC (wx.mono (s11.trans s12)) s10;have l2:=zmC (wy.mono (s11.trans s12)) s10;have up:∀{v:V},zeA H8 H12 v->zeA H7 H12 v:=fun h=>by
      rcases h with h | ⟨d,ws,e1,e2,e3⟩
      ·exact .inl h
      ·exact .inr ⟨d,ws,e1,s8.free e2,e3⟩
     refine⟨_,rfl,t,rfl,⟨_,SqT.of ht12⟩,?_⟩;refine zmM (K:=K) (a:=t) (xs:=[x,y]) (fun i σ H'=>∃(v10:Option V),σ=[some (.ref a),some (.ref l),some (.int st),some (.ref h),some (.ref fa),some (.ref ca),some (.ref z),some (.ref z'),some (.int (0+(j:Nat))),some (.ref t),v10]/\zq H7 H'/\H' t=some (.tup [x,y])/\(i<1->zeA H7 H' x)/\(i<2->zeA H7 H' y)) ⟨_,rfl,s912,ht12,fun _=>up l1,fun _=>up l2⟩ (fun i σ H' _ ⟨_,_,_,h,_⟩=>SqT.of h) ?_ ?_
     ·rintro i v σ H13 hv ⟨v10,rfl,s13,ht13,lx,ly⟩;have i2:i<2:=(X2.mp hv).1;have lv:zeA H7 H13 v:=by
       match i,i2 with
       | 0,_ =>
        cases hv;exact lx (by decide)
       | 1,_ =>
        cases hv;exact ly (by decide)
      rcases lv with rfl | ⟨d,ws,rfl,dn,hd13,wl⟩
      ·refine⟨_,rfl,rfl,_,rfl,jj rfl ?_⟩;exact⟨_,rfl,s13,ht13,(fun z=>absurd z (by lia)),fun z=>ly (by lia)⟩
      ·refine⟨_,rfl,rfl,_,rfl,jJ rfl ?_⟩;refine⟨_,rfl,.inl ⟨rfl,_,SqL.of hd13⟩,ZV,fun t2 ht2=>?_⟩;have y14:=zd (o:=.tup [.int 9,.int 9]) ht2;refine⟨d,_,_,rfl,rfl,y14 _ _ hd13,XA wl (by decide),?_⟩;refine⟨_,rfl,fun b o e=>?_,?_,(fun z=>absurd z (by lia)),fun z=>?_⟩
       ·rw[zf (zg e dn)];exact(s13.trans y14) _ _ e
       ·rw[zf (fun e=>by rw[e] at ht13;rw[hd13] at ht13;cases ht13)];exact y14 _ _ ht13
       ·have i0:i=0:=by lia
        subst i0;cases hv;rcases ly (by decide) with e | ⟨d',ws',e1,e2,e3,e4⟩
        ·exact .inl e
        ·refine .inr ⟨d',ws',e1,e2,?_,e4⟩;rw[zf (fun e=>hne d rfl (by rw[e1,e]))];exact y14 _ _ e3
     ·rintro σ H13 ⟨v10,rfl,s13,_⟩;exact⟨_,_,_,rfl,s13⟩
    ·have F0:(ye rs n st).isEmpty=true:=by
      rw[Sg,<- VW];lia
     refine⟨_,rfl,JJ,fun e he=>?_⟩;have y9:=zd (o:=.lst []) he;have s9y:=(s8.trans s9).trans y9;refine⟨.list ((ye rs n st).map lk1),.list [],.lst (SqL.of (s9y _ _ hfa7)) (Qh (zE s9y hLf7)),.lst (SqL.of zb) .nil,zh9 _,_,rfl,?_⟩;refine jJ ((zia _).trans F0) ?_;refine⟨_,rfl,.str "laying",.str "laying",.str _,.str _,zn5,_,rfl,jj (by decide +kernel) ?_⟩;exact⟨_,_,_,rfl,s9y⟩
   ·rintro σ H8 ⟨v8,v9,v10,rfl,s8⟩;exact⟨_,_,_,_,_,_,rfl,s47.trans s8⟩
  ·rintro σ H5 ⟨v5,v6,v7,v8,v9,v10,rfl,s5⟩;have eb:(if false=true then !PyData.eqv (bData rs st) (bData rs st) else W2 (bData rs st) (bData rs st))=true:=O8 _ (R.cmpB st).l1;refine⟨_,rfl,_,rfl,_,rfl,ZV,fun tq htq=>?_⟩;have z7:=zd (o:=.tup [.ref l,.int st]) htq;refine⟨_,_,qk.rdv ((BH4.mono s5).mono z7),qk.rdv ⟨zb,z7 _ _ (s5 _ _ hl4)⟩,R.cmpB st,?_⟩;rw[eb];exact q _
theorem zpW (T:Txt mg)(jas:qK K mg "StoneError" jai)(jat:qK K mg "TooGreat" jaj)(jan:qK K mg "NoLaying" jad)(jak:qK K mg "NoBoard" jaa)(jam:qK K mg "NoCount" jac)(jal:qK K mg "NoCell" jab)(jar:qK K mg "NoText" jah)(jap:qK K mg "NoRow" jaf)(jao:qK K mg "NoNumber" jae)(jaq:qK K mg "NoTable" jag)
  (FL:Facts K jad jai jaj jad jaa jac jab jah jaf jae jag false true) (Z:Prog K mg) {f:Addr} {fd:Xp} (D:zm K mg "law" zbg ["_law_script"] f fd):zY P w K mg base CX0 13 f fd ["_law_script"] (zgY K) :=
 (zn7 T ⟨jas,jat,jan,jak,jam,jal,jar,jap,jao,jaq,FL⟩ Z D).mono (by decide)
end
theorem all_mk {l:Ps}{w:WS}{K:X0}{h:Heap}{mg:Str->Option X9}{fa:Addr}{jaE:Tok}{jaF:Tok}{jaG:Tok}{jai:Addr}{jaj:Addr}{jad:Addr}{jaa:Addr}{jac:Addr}{jab:Addr}{jah:Addr}{jaf:Addr}{jae:Addr}{jag:Addr}(X:K.In h)(G:h.Ns XQ mg)(hfa:mg "law"=some (.ref fa))
  (QV:HasDef K "closed" Zt)
  (xX:HasDef K "open_cells" qy)
  (QW:HasDef K "around" jS)
  (JL:HasDef K "number_at" jT)
  (ZI:HasDef K "cells_of" qD)
  (YN:HasDef K "sign_at" qL)
  (zbB:HasDef K "parts" zbR)
  (QX:HasDef K "joined" Zu)
  (zid:HasDef K "far" zgg)
  (xY:HasDef K "numbers_of" jx)
  (xZ:HasDef K "bare_wrong" jZ)
  (yf:HasDef K "closed_around" qM)
  (yy:HasDef K "part_layings" qI)
  (ZJ:HasDef K "needs_at" yj)
  (YO:HasDef K "may_fit" yT)
  (yV:HasDef K "part_counts" xr)
  (YQ:HasDef K "counted" Zv)
  (YR:HasDef K "choices" Y4)
  (QY:HasDef K "poured" zas)
  (yW:HasDef K "near_counts" j8)
  (zbC:HasDef K "count" zbS)
  (x6:HasDef K "all_poured" Jh)
  (zbD:HasDef K "dealt" zau)
  (x8:HasDef K "some_count" Ji)
  (JM:HasDef K "witnesses" xF)
  (JN:HasDef K "far_picks" jU)
  (yX:HasDef K "some_laying" j9)
  (zbE:HasDef K "grown" zbT)
  (yY:HasDef K "_law_cell_at" xw)
  (ZK:HasDef K "_law_near" Z0)
  (JO:HasDef K "_law_signs" JW)
  (JP:HasDef K "_law_texts" xG)
  (YS:HasDef K "_law_dug" Y5)
  (JQ:HasDef K "_law_board" xH)
  (yZ:HasDef K "_law_numbers" yb)
  (ZL:HasDef K "_law_fits" JC)
  (xg:HasDef K "_law_choices" yc)
  (xh:HasDef K "_law_layings" jE)
  (x9:HasDef K "_law_closed" Jj)
  (xj:HasDef K "_law_outcome" xx)
  (ZM:HasDef K "_law_told" Z1)
  (JR:HasDef K "_law_right" JX)
  (zie:HasDef K "law" zbg)
  (Ja:XM K XQ "ValueError"=some none)
  (zif:XM K XQ "any"=some none)
  (zeB:XM K XQ "dict"=some none)
  (QZ:XM K XQ "divmod"=some none)
  (JS:XM K XQ "enumerate"=some none)
  (zig:XM K XQ "int"=some none)
  (Jb:XM K XQ "isinstance"=some none)
  (zih:XM K XQ "len"=some none)
  (zeC:XM K XQ "list"=some none)
  (zii:XM K XQ "max"=some none)
  (zij:XM K XQ "min"=some none)
  (zbF:XM K XQ "range"=some none)
  (zik:XM K XQ "set"=some none)
  (Q0:XM K XQ "sorted"=some none)
  (zil:XM K XQ "str"=some none)
  (zim:XM K XQ "sum"=some none)
  (zbG:XM K XQ "tuple"=some none)
  (xo:XM K XQ "CLOSED_SIGN"=some (some (.str "?" jaE)))
  (yC:XM K XQ "MOST_OF_PART"=some (some (.int 14 jaF)))
  (yD:XM K XQ "NO_CELL_SIGN"=some (some (.str "#" jaG)))
  (jaC:XM K XQ "StoneError"=some (some (.ref jai)))
  (jaP:Wu K jai xW "ValueError.__new__"=true)
  (jaD:XM K XQ "TooGreat"=some (some (.ref jaj)))
  (jaQ:Wu K jaj xW "ValueError.__new__"=true)
  (jax:XM K XQ "NoLaying"=some (some (.ref jad)))
  (jaK:Wu K jad xW "ValueError.__new__"=true)
  (jau:XM K XQ "NoBoard"=some (some (.ref jaa)))
  (jaH:Wu K jaa xW "ValueError.__new__"=true)
  (jaw:XM K XQ "NoCount"=some (some (.ref jac)))
  (jaJ:Wu K jac xW "ValueError.__new__"=true)
  (jav:XM K XQ "NoCell"=some (some (.ref jab)))
  (jaI:Wu K jab xW "ValueError.__new__"=true)
  (jaB:XM K XQ "NoText"=some (some (.ref jah)))
  (jaO:Wu K jah xW "ValueError.__new__"=true)
  (jaz:XM K XQ "NoRow"=some (some (.ref jaf)))
  (jaM:Wu K jaf xW "ValueError.__new__"=true)
  (jay:XM K XQ "NoNumber"=some (some (.ref jae)))
  (jaL:Wu K jae xW "ValueError.__new__"=true)
  (jaA:XM K XQ "NoTable"=some (some (.ref jag)))
  (jaN:Wu K jag xW "ValueError.__new__"=true)
  (jaR:VI K (.ref jad) "__getattribute__"=some (some (.builtin "BaseException.__getattribute__")))
  (jaS:VI K (.ref jad) "__getattr__"=some none)
  (ja0:VI K (.ref jad) "__class__"=some (some (.builtin "object.__class__")))
  (ja1:VC K jad (.type "BaseException")=some true)
  (ja2:VC K jad (.type "object")=some true)
  (ja3:Ts K jad=true)
  (ja4:VC K jad (.ref jai)=some true)
  (ja5:W6 K (.ref jad) (.ref jaj)=some false)
  (ja6:W6 K (.ref jad) (.ref jad)=some true)
  (ja7:W6 K (.ref jad) (.ref jaa)=some false)
  (jaT:W6 K (.ref jad) (.ref jac)=some false)
  (jaU:W6 K (.ref jad) (.ref jab)=some false)
  (jaV:W6 K (.ref jad) (.ref jah)=some false)
  (jaW:W6 K (.ref jad) (.ref jaf)=some false)
  (jaX:W6 K (.ref jad) (.ref jae)=some false)
  (jaY:W6 K (.ref jad) (.ref jag)=some false)
  (jaZ:W6 K (.ref jad) (.type "ValueError")=some true) :
  ∃fd:Xp,(∀(s:X8) (v:X9),Ou s fd ⟨[v],[]⟩ [("_law_script",v)])/\∀base:Heap,K.In base->base.Ns XQ mg->zY l.prog w K mg base CX0 13 fa fd ["_law_script"] (zgY K):=by
 obtain⟨f,oc,od,an,sl,kV,dc,pm,cd,ct,a,l0,c,k⟩:=zie;have e:=hfa.symm.trans (Wc X G a);cases e;have T:Txt mg:=⟨WF X G Ja,WF X G zif,WF X G zeB,WF X G QZ,WF X G JS,WF X G zig,WF X G Jb,WF X G zih,WF X G zeC,WF X G zii,WF X G zij,WF X G zbF,WF X G zik,WF X G Q0,WF X G zil,WF X G zim,WF X G zbG,⟨_,Wc X G xo⟩,⟨_,Wc X G yC⟩,⟨_,Wc X G yD⟩⟩;have Z:Prog K mg:=⟨QV.at X G (fun _ _ _ _ _ _=>us1 fun _=>rfl),xX.at X G (fun _ _ _ _ _ _=>us1 fun _=>rfl),QW.at X G (fun _ _ _ _ _ _=>us2 fun _ _=>rfl),JL.at X G (fun _ _ _ _ _ _=>us2 fun _ _=>rfl),ZI.at X G (fun _ _ _ _ _ _=>us1 fun _=>rfl),YN.at X G (fun _ _ _ _ _ _=>us2 fun _ _=>rfl),zbB.at X G (fun _ _ _ _ _ _=>us1 fun _=>rfl),QX.at X G (fun _ _ _ _ _ _=>us2 fun _ _=>rfl),zid.at X G (fun _ _ _ _ _ _=>us1 fun _=>rfl),xY.at X G (fun _ _ _ _ _ _=>us2 fun _ _=>rfl),xZ.at X G (fun _ _ _ _ _ _=>us1 fun _=>rfl),yf.at X G (fun _ _ _ _ _ _=>us2 fun _ _=>rfl),yy.at X G (fun _ _ _ _ _ _=>us2 fun _ _=>rfl),ZJ.at X G (fun _ _ _ _ _ _=>us3 fun _ _ _=>rfl),YO.at X G (fun _ _ _ _ _ _=>us2 fun _ _=>rfl),yV.at X G (fun _ _ _ _ _ _=>us2 fun _ _=>rfl),YQ.at X G (fun _ _ _ _ _ _=>us2 fun _ _=>rfl),YR.at X G (fun _ _ _ _ _ _=>us2 fun _ _=>rfl),QY.at X G (fun _ _ _ _ _ _=>us2 fun _ _=>rfl),yW.at X G (fun _ _ _ _ _ _=>us1 fun _=>rfl),zbC.at X G (fun _ _ _ _ _ _=>us1 fun _=>rfl),x6.at X G (fun _ _ _ _ _ _=>us1 fun _=>rfl),zbD.at X G (fun _ _ _ _ _ _=>us3 fun _ _ _=>rfl),x8.at X G (fun _ _ _ _ _ _=>us1 fun _=>rfl),JM.at X G (fun _ _ _ _ _ _=>us2 fun _ _=>rfl),JN.at X G (fun _ _ _ _ _ _=>us2 fun _ _=>rfl),yX.at X G (fun _ _ _ _ _ _=>us4 fun _ _ _ _=>rfl),zbE.at X G (fun _ _ _ _ _ _=>us2 fun _ _=>rfl),yY.at X G (fun _ _ _ _ _ _=>us2 fun _ _=>rfl),ZK.at X G (fun _ _ _ _ _ _=>us3 fun _ _ _=>rfl),JO.at X G (fun _ _ _ _ _ _=>us4 fun _ _ _ _=>rfl),JP.at X G (fun _ _ _ _ _ _=>us3 fun _ _ _=>rfl),YS.at X G (fun _ _ _ _ _ _=>us4 fun _ _ _ _=>rfl),JQ.at X G (fun _ _ _ _ _ _=>us2 fun _ _=>rfl),yZ.at X G (fun _ _ _ _ _ _=>us2 fun _ _=>rfl),ZL.at X G (fun _ _ _ _ _ _=>us2 fun _ _=>rfl),xg.at X G (fun _ _ _ _ _ _=>us1 fun _=>rfl),xh.at X G (fun _ _ _ _ _ _=>us2 fun _ _=>rfl),x9.at X G (fun _ _ _ _ _ _=>us1 fun _=>rfl),xj.at X G (fun _ _ _ _ _ _=>us1 fun _=>rfl),ZM.at X G (fun _ _ _ _ _ _=>us2 fun _ _=>rfl),JR.at X G (fun _ _ _ _ _ _=>us2 fun _ _=>rfl)⟩;have F:=zkC (st:=zbg) l0 c k;have D:zm K mg "law" zbg ["_law_script"] _ _:=⟨F,Wc X G a,F.binds (ps:=["_law_script"]) (fun _ _ _ _ _ _=>us1 fun _=>rfl)⟩;have jas:qK K mg "StoneError" jai:=⟨Wc X G jaC,jaP⟩;have jat:qK K mg "TooGreat" jaj:=⟨Wc X G jaD,jaQ⟩;have jan:qK K mg "NoLaying" jad:=⟨Wc X G jax,jaK⟩;have jak:qK K mg "NoBoard" jaa:=⟨Wc X G jau,jaH⟩;have jam:qK K mg "NoCount" jac:=⟨Wc X G jaw,jaJ⟩;have jal:qK K mg "NoCell" jab:=⟨Wc X G jav,jaI⟩;have jar:qK K mg "NoText" jah:=⟨Wc X G jaB,jaO⟩;have jap:qK K mg "NoRow" jaf:=⟨Wc X G jaz,jaM⟩;have jao:qK K mg "NoNumber" jae:=⟨Wc X G jay,jaL⟩;have jaq:qK K mg "NoTable" jag:=⟨Wc X G jaA,jaN⟩;have FL:Facts K jad jai jaj jad jaa jac jab jah jaf jae jag false true:=⟨⟨jaR,jaS,ja0,ja1,ja2,ja3⟩,ja4,ja5,ja6,ja7,jaT,jaU,jaV,jaW,jaX,jaY,jaZ⟩;exact⟨_,fun s v=>.of_eq rfl,fun base _ _=>zpW T jas jat jan jak jam jal jar jap jao jaq FL Z D⟩
theorem walk {l:Ps}{q:Xi}{loose:List Str}{XP:(Str->Option X9)->Heap->Prop}{YP:WS->Heap->Prop}{d:DefRec}{K:Params->X0}(hn:l.most=some 63)(hdf:d.params.defaults=[])
  (hY:∀(w:WS) (h:Heap),YP w h->(K w.params).In h)
  (F:∀(w:WS) (mg:Str->Option X9) (fa:Addr) (h:Heap),(K w.params).In h->h.Ns XQ mg->mg d.name=some (.ref fa) ->
   ∃fd:Xp,(∀(s:X8) (u:X9),Ou s fd ⟨[u],[]⟩ [("_law_script",u)])/\∀base:Heap,(K w.params).In base->base.Ns XQ mg->zY l.prog w (K w.params) mg base CX0 13 fa fd ["_law_script"] (zgY (K w.params))) :
  OK q loose XP YP l.row.toRowW d [] (fun f vs=>PySem.call f vs) :=
 L2.zix (n:=63) (k:=13) (x:="_law_script") (CX:=fun _=>CX0) (sp:=fun w=>zgY (K w.params)) hn (by decide) hdf ⟨rfl,by decide,by decide⟩ hY F (fun _ _ a ns hl _ hS=>⟨a,ns,rfl,hS,hl,fun _=>rfl⟩) fun _ _ _ _ _ z=>z
end K42
open PySem PySem.W PyProof.Rows
set_option maxRecDepth 100000 in
set_option maxHeartbeats 0 in
theorem PySem.Challenge.cw_stonelay_k42_witnesses_holds : PySem.Challenge.rw_stonelay_k42_witnesses.Holds := by
 refine zbV.early fun {q XP YP d K} hdf hY hn F=>?_;refine K42.walk (l:=PySem.Challenge.rw_stonelay_k42_witnesses) rfl hdf hY fun w mg fa h KX G hmg=>?_;rw[hn] at hmg;obtain⟨QV,xX,QW,JL,ZI,YN,zbB,QX,zid,xY,xZ,yf,yy,ZJ,YO,yV,YQ,YR,QY,yW,zbC,x6,zbD,x8,JM,JN,yX,zbE,yY,ZK,JO,JP,YS,JQ,yZ,ZL,xg,xh,x9,xj,ZM,JR,zie,Ja,zif,zeB,QZ,JS,zig,Jb,zih,zeC,zii,zij,zbF,zik,Q0,zil,zim,zbG,⟨_,xo⟩,⟨_,yC⟩,⟨_,yD⟩,⟨_,_,_,_,_,_,_,_,_,_,jaC,jaD,jax,jau,jaw,jav,jaB,jaz,jay,jaA,jaP,jaQ,jaK,jaH,jaJ,jaI,jaO,jaM,jaL,jaN,jaR,jaS,ja0,ja1,ja2,ja3,ja4,ja5,ja6,ja7,jaT,jaU,jaV,jaW,jaX,jaY,jaZ⟩⟩:=F w;exact K42.all_mk KX G hmg QV xX QW JL ZI YN zbB QX zid xY xZ yf yy ZJ YO yV YQ YR QY yW zbC x6 zbD x8 JM JN yX zbE yY ZK JO JP YS JQ yZ ZL xg xh x9 xj ZM JR zie Ja zif zeB QZ JS zig Jb zih zeC zii zij zbF zik Q0 zil zim zbG xo yC yD jaC jaP jaD jaQ jax jaK jau jaH jaw jaJ jav jaI jaB jaO jaz jaM jay jaL jaA jaN jaR jaS ja0 ja1 ja2 ja3 ja4 ja5 ja6 ja7 jaT jaU jaV jaW jaX jaY jaZ