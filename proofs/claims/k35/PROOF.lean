import PyProof.Rows.All
import KE.IntBitsLaws
import KE.KDictOf
import KE.KDictSum
import KE.KIntText
import KE.KSortTup
import KE.LcSums
import KE.RegKIsAll
import KE.KNestM
import KE.KPairComp
import Lean
import PySem.Challenge.RW_stonelay_k35_counts_too_great
open PySem renaming wpAny_bind→ZB,Value→X9,Shared→X8,wpAny_pure→XY,mainGlobals→XO,sizeLine→XC,model→Xr,wpAny→Xo,Program→Xl,FuncData→Xk,wpAny_mono→Xa,Paired→W9,World→W3,Around→WW,mem_of_lookup→WQ,wpAny_holding→WN,starEach→WB,boot_len→Wt,SetTable→Wr,wpAny_loadPart'→Wb,PyData→Wa,wpAny_standAt→V6,wpAny_newObj_type→V5,compEnvC→V3,wpAny_loadPart_at→VL,codeAny_builtin→VI,tupleKind→VH,relabel→Vx,compareOp→Vu,wpAny_truthy_bool→Vo,foldedSetIterable→Vn,Scope→Vb,Spec→U7,codeAny_compStart_list→U1,cLine→U0,codeAny→UR,Builtin→UQ,binaryOp→UP,wpAny_rule→UG,plainId_quiet→UF,GenState→Uz,wpAny_call_entry→Uv,rawInt→Ut,codeAny_mono→Uo,builtinLookup_eq_fast→Ub,sysModules→T3,wpAny_newFunctionEnv→TY,codeAny_call_builtin→TX,bootBuiltins→TV,NameKind→Tz,wpAny_attempt→Tx,wpAny_comprehension_free→Tu,wpAny_passesOwn→To,theTreesLotGoes→Tn,assignEach→Tj,wpAny_Call_Name_kw→Tg,again→Tc,sizeLine_eq→Tb,sliceBounds→Ta,wpAny_pyIter_list→SV,wpAny_pyIter_enum→SU,wpAny_setState_of→SR,ofAClassStatement→SQ,backTo→SG,noteFrame→SD,call_meets→SC,wpAny_comp_letGo→Sz,storedH→Sy,compTurn_list→Sw,wpAny_execs_nil→Sm,letOwnedTupleGo→Sl,typeLookup_type→Sk,wpAny_setEntries_of→Sc,codeAny_loop→Sa,cellsFrom→R5,pyNext→R4,closureFor→R3,newFunctionEnv→RZ,firstArgMember→RY,wpAny_setField→RW,wpAny_noted→RI,wpAny_of_eq→RG,wpAny_assign_Name→RE,behindInMarks→Rw,setSearchFrom→Ru,Comprehension→Rt,comprehension→Rs,pickOrder→Rj,wpAny_execs_cons→Ri,checkBuiltinCall→Rh,wpAny_forIn_list→Rc,wpAny_askSetting→Rb,wpAny_callSpecial?_slot→QQ,seqIndex_neg→P8,wpAny_typeOf→P7,wpAny_getItem_list_neg→P1,Model→PQ,wpAny_specialOf→PL,exec_Assign_Name_used→PH,assign→Pu,Result→Ps,seqIndex_of→Pr,subscripted→Pq,hashByValue→Pp,intText?→Pn,isSubtype_type→Pm,lookup_relabel_local→Pg,getItem→Pb,callerA→O9,valueAt→O8,swapsWith→O6,eval_ListComp→O0,wpAny_newList→OX,builtinsNs→OW,typeLookup→OV,holding→OR,BindsTo→OQ,OsState→OP,ReadsAll→OO,compTurn→ON,pyIter→OE,atKey→OB,wpAny_throw→OA,Drawn→Ow,bindL→Ov,bindC→Ou,getAttr?→Ot,entryFor→Os
open List renaming length_map→Y1,getElem?_eq_getElem→X4,getElem?_eq_some_iff→X2,mem_of_getElem?→X0,length_append→XZ,mem_cons_of_mem→XX,mem_cons_self→XU,mem_filter→XS,mem_cons→XR,getD_eq_getElem?_getD→XM,mem_append_right→XJ,mem_append→XI,length_take→XD,mem_map→XB,size_toArray→Xv,map_cons→Xs,take_length→Xq,length_cons→Xp,getElem?_map→Xn,take_add_one→Xm,replicate→Xj,map_congr_left→Xi,map_append→Xf,mem_append_left→Xd,append_assoc→W7,filter_append→W6,Nodup→W2,append_nil→W0,length_replicate→WY,length_filter_le→WX,range→WO,take_of_length_le→WL,drop_eq_getElem_cons→WF,mem_flatten→WE,all_eq_true→WD,take_append_drop→WC,flatten_cons→WA,length_range→Wz,filter_cons→Wx,mem_range→Wv,sublist_flatten_of_mem→Wu,getElem?_append_right→Ws,flatten_append→Wo,countP_cons→Wl,any_eq_true→Wj,mem_singleton→Wi,map_map→We,pairwise_map→Wd,filter_eq_nil_iff→Wc,length_drop→V9,perm_ext_iff_of_nodup→V7,nodup_append→V4,mem_of_mem_take→V1,getElem?_append_left→VZ,nodup_cons→VU,foldl_cons→VT,filter_sublist→VQ,countP_eq_zero→VP,getElem?_eq_none→VO,replicate_succ→VE,sum_cons→VC,ne_nil_of_mem→Vv,length_eq_zero_iff→Vt,pairwise_iff_getElem→Vh,not_mem_nil→Vf,lookup_cons→Ve,mem_filterMap→Vd,filterMap_cons→U4,getElem?_range→U3,isEmpty_eq_false_iff→US,ext_getElem?→UM,filter_congr→UL,countP_congr→UK,pairwise_append→UI,map_take→UE,map_drop→UD,take_succ_cons→UA,mem_flatMap→Uu,getElem?_drop→Um,filter_filter→Uk,countP_append→Uj,length_pos_of_mem→Ui,map→Uh,find?_cons→Ug,length_nil→Ue,perm_append_comm→Ua,take_sublist→T8,nodup_nil→T0,mem_of_mem_drop→TW,any_map→TQ,getElem_mem→TL,getElem?_zip_eq_some→TK,exists_mem_of_ne_nil→TJ,getElem_of_mem→TF,reverse_append→TD,eq_of_mem_replicate→Tt,sublist_append_left→Tq,getElem?_replicate→S8,append_cancel_left→S7,foldl_append→SS,getElem?_set_self→SN,drop_eq_nil_of_le→SL,lookup→Ss,map_id→Sr,getElem?_set_ne→Sq,countP_map→Sj,range_succ→Sh,sum_append→Sg,filter_nil→Sf,dropLast_concat_getLast→Se,pairwise_cons→RS,extract_eq_take_drop→RM,sublist_append_right→RJ,any_eq_false→RD,drop_sublist→RA,reverse_perm→Rz,getElem?_set→Ry,flatMap_cons→Rx,getElem?_take_of_lt→Rr,cons_append→Rf,getElem?_cons_succ→QR,of_mem_zip→PN,filter_map→PK,length_singleton→PJ,mem_iff_getElem?→PF,pairwise_reverse→PB,eq_replicate_iff→Pz,countP_singleton→Py,drop_drop→Pl,reverse_reverse→Ph,getElem?_append→Pe,any_cons→OZ,map_nil→OL,map_set→OF,filter→Oy
open PySem.Heap renaming get?_push_of_some→X7,lt_size→XQ,get?_push_size→Xb,get?_update_self→Wh,SameBut→VN,get?_update_other→VF,size_push→VA,get?_none_of_le→UJ,get?_update_ne→Sb,HeldW→OT,FlyingW→OK
open PySem.W renaming Frag→X6,nsIn→XH,kitOne→Xg,mg_none_of→WS,excIn→WG,mg_of→Wf,kia_one→VV,findIn→VB,mroIn→Vs,hashAt→Vr,fnOf→UO,keepIn→T1,hideAll_get→TH,isClsIn→Tp,codeIn→SY,cellsFrom_some→SM,looks_findIn→So,looks_mroIn→Sd,methodObj→RF,instObj→PP,OpenLaw→PM,lookIn→Po,WalkO→O3
open Array renaming length_toList→X5,getElem?_toList→Xx,toList_append→WP,getElem?_eq_none→WK,getElem?_eq_some_iff→V8,getElem?_eq_getElem→Vg,size_map→Va,toList_reverse→U9,getElem?_setIfInBounds→U5,toList_map→UX,size_reverse→UW,perm_iff_toList_perm→UV,getElem_toList→UH,size_extract→Ul,mem_toList_iff→TZ,size_setIfInBounds→Ts,getD→Ti,toList_push→SO,getElem?_extract→SK,append_assoc→RT,toList_setIfInBounds→RP,getElem?_replicate→Rq,getElem?_reverse→PY,toList_extract→Pi,toList_modify→O4
open Nat renaming le_refl→XW,le_trans→XV,lt_of_lt_of_le→XE,ne_of_lt→XA,lt_of_le_of_lt→Xe,lt_succ_of_lt→W5,zero_le→W1,lt_irrefl→Wq,le_succ→Wg,zero_add→VM,succ_ne_self→VG,pow_le_pow_right→U8,pow_succ→UN,ne_of_gt→Uq,le_succ_of_le→T7,sub_self→TU,add_zero→TR,le_add_right→TM,not_lt_zero→Tl,add_sub_cancel→Tf,lt_of_lt_of_eq→Td,le_of_lt→S4,lt_or_ge→S2,succ_pos→S1,lt_trans→R9,mod_lt→R1,lt_trichotomy→RB,lt_succ_self→Rg,add_sub_cancel_left→Qr,one_le_iff_ne_zero→PX,add_le_add_right→Pj,pow_lt_pow_right→Pf,mul_comm→OM,sub_zero→OI,one_mul→Oz
open Bool renaming false_ne_true→XT,eq_false_iff→WZ,eq_iff_iff→WM,not_eq_true'→WH,false_eq_true→Wp,and_eq_true→Wm,and_eq_true_iff→V2,false_and→Vp,true_and→Uc,and_comm→Tw,and_true→Tv,and_false→R0,and_assoc→RU
open PySem.SetTable renaming bits→XG,below→Xz,insertAt→Xh,turns→W8,runEnd→Vw,leap→Vc,grown→Ux,sizeAbove→Te,Probe→RX,advance→Re,fill→OY
open PyProof.Rows renaming wpS_bind→XF,wpS_pure→Xw,arrOf→Xu,Keyed→Xc,boot_isinstance→W4,SortSt→WV,pendingOf→WU,wpS_forRange→VY,callWith_type1→VJ,boot_max→UU,boot_sum→UT,wpS_mono→Uy,pairsOf_toList→Uw,seqObj→Us,boot_min→T9,SortKind→T4,boot_sorted→Tr,wpS_modify→Th,AllBare→S6,failedOf→S5,boot_any→SH,wpS_get→Sx,reverseSlice'→Su,mem_zip_self→R8,listItems_at→RK,wpS_lift→Rl,envOfC→Qb,subscriptTail_builtinR→P6,boot_list→PV,boot_dict→PU,boot_int→Px,boot_str→Pw,IntsAre→Pa,pairsOf→O7,getElem?_mirror_all→O5,subscriptTail→O2,IsTup→Ox
open Or renaming inl→Xy,inr→SF
open PySem.PassesOwn renaming never→WT
open PySem.Value renaming ref→WJ,int→Vl,bool→Tk,builtin→Rv,type→P9,str→OD
open PySem.PyData renaming eqv→WI,canLayAll0→VD,depthAll→Vi,str→Ur,bool→S9,canLay0→SW,int→SA
open PySem.F renaming plainAttrs_list→Ww,slot_list_append→VS,type_list_append→VR,typeOf_object_class→T5,excBase_ValueError→RQ,slot_list_extend→Ro,type_list_extend→Rn,plain_list_iadd→QP,slot_set_iter→PD,plain_set_new→PC
open False renaming elim→Wn
open PySem.Around renaming under_plainId→V0
open Int renaming le_of_lt→VX,le_trans→Vq,toNat_of_nonneg→Vk,le_refl→UZ,add_zero→SZ,neg_le_neg→SX,natCast_add→Si,zero_add→R7,toNat_natCast→RC,not_lt→OU,mul_zero→OH,mul_comm→OG,toNat→OC
open List.Sublist renaming length_le→VW
open Option renaming isSome_iff_exists→Vz,map_some→Uf,getD_some→TN,map_eq_some_iff→P0
open Ne renaming symm→Vy
open PySem.SetTable.below renaming go→Vm
open ForInStep renaming yield→Vj
open PySem.Obj renaming mapSeq→U6,mapFields→Ud
open PyProof.Rows.F renaming plain_set_update_loop→U2,entry_set_update_loop→TB
open PySem.NameKind renaming cell→UY
open PySem.Builtin.List renaming listTooLong→UC,listExtendWith→R6,listSameRef→Rp
open PySem.Heap.SameBut renaming update→UB
open PySem.SetTable.probe renaming go→T6
open True renaming intro→T2
open List.Perm renaming append_left→SJ
open PySem.Shared renaming TypeIs→Sv
open PySem.Calls renaming Name_function_global→RR,call_function_entry→RL,evalArgs_plain→Pk
open PySem.SeqAt.EqAt renaming bool_bool→RO
open Classical renaming byContradiction→RN
open PySem.Str renaming join→Rm,ofString→OJ
open PySem.Builtin.Dict renaming updateFrom→Ra,pairItems→PZ
open Sum renaming inl→Pd,inr→Pc
set_option Elab.async false
set_option linter.all false
set_option maxRecDepth 100000
namespace zaV
open PySem PySem.W
noncomputable def sel:List Nat->Nat->List Stmt->List Stmt
 | _,_,[]=>[]
 | ns,i,x::xs=>match ns.contains i with
  | true=>sel ns (i+1) xs
  | false=>x::sel ns (i+1) xs
theorem zhh {r:OpenRow}{q:Xl}{H:Hook}{d:DefRec}{kwd:List (PySem.Str×Expr)}{N:Nat}(left:LeftO r.prog q [] (fun s=>xlAt q [] s&&recOk (RowW.records r.toRowW) s) (Hook.obs H) (Hook.val H) N)
  (hdef:defOf q r.name=some (d,kwd)) (hp:r.prog.theDef r.name=some (d.params,d.body,d.scope)) (hk:kwWritten? d.params.kwonlyargs d.params.kw_defaults=some kwd) (hwr:(!r.writes || r.records.isEmpty)=true)
  (k1:r.wellSaid=true) (ok:(chainsOk q&&opensWell r.prog&&(frees r.toRowW&&r.within.isEmpty))=true) (hb:r.prog.bare) (hw:r.toRowW.promised)
  (call:WalkO q [] (XL q []) (Hook.says H) r.toRowW d kwd fun f vs=>PySem.call f vs):r.Holds :=
 holds_open (q:=q) (loose:=[]) (Xt:=fun s=>xlAt q [] s&&recOk (RowW.records r.toRowW) s) (XP:=XL q []) (Yf:=Hook.obs H) (Ya:=Hook.val H) (YP:=Hook.says H) (N:=N) left (Hook.of H) (Hook.keeps H) (fun s e=>xl_of s (V2.mp e).1) XL.keeps hdef hp hk
  (fun s e=>recFacts_of (V2.mp e).2) hwr k1 ok hb hw call
noncomputable def top (i:Nat):Stmt:=PySem.Challenge.pw_stonelay_k35_counts_too_great.main.body.getD i (.Pass ⟨0,0,0,0⟩)
noncomputable def Jl (s:Stmt):Arguments:=match s with
 | .FunctionDef _ a _ _ _ _ _ _ _ _=>a
 | _=>{ posonlyargs:=[],args:=[],vararg:=none,kwonlyargs:=[],kw_defaults:=[],kwarg:=none,defaults:=[] }
noncomputable def yC (s:Stmt):List Stmt:=match s with
 | .FunctionDef _ _ b _ _ _ _ _ _ _=>b
 | _=>[]
noncomputable def zh (s:Stmt):Vb:=match s with
 | .FunctionDef _ _ _ _ _ _ sc _ _ _=>sc
 | _=>{ kind:=.function,names:=[],isGenerator:=false,isCoroutine:=false }
def HD (K:X6)(x:Str)(i:Nat):Prop:=∃(f:Addr) (oc:X9) (od an:Option Addr) (sl:Array (Option X9)) (kV dc pm cd ct:X9),XH K XO x=some (some (.ref f))/\K.lookup f=some ⟨oc,od,.func (UO x x (Jl (top i)) (yC (top i)) (zh (top i)) .none kV dc pm an cd ct),sl⟩/\SY K cd x=true/\T1 K (.ref f)=true
def xr:List X9:=[.type "ValueError",.type "Exception",.type "BaseException",.type "object"]
structure Facts (K:X6):Prop where
 Qa:HD K "closed" 14
 xu:HD K "open_cells" 15
 Qc:HD K "around" 16
 Jm:HD K "number_at" 17
 Zh:HD K "cells_of" 18
 Yj:HD K "sign_at" 19
 zaH:HD K "parts" 21
 Qd:HD K "joined" 22
 zgn:HD K "far" 23
 xw:HD K "numbers_of" 24
 xx:HD K "bare_wrong" 25
 jK:HD K "closed_around" 26
 j5:HD K "part_layings" 29
 Zi:HD K "needs_at" 30
 Yk:HD K "may_fit" 31
 yD:HD K "part_counts" 32
 Yl:HD K "counted" 33
 xy:HD K "counted_at" 34
 Ym:HD K "choices" 36
 Qe:HD K "poured" 37
 yE:HD K "near_counts" 39
 zaI:HD K "count" 40
 Zj:HD K "count_at" 41
 jB:HD K "counts_by_cell" 42
 xA:HD K "all_poured" 43
 zaJ:HD K "dealt" 44
 yF:HD K "_law_cell_at" 46
 Jo:HD K "_law_whole" 47
 yG:HD K "_law_outcome" 48
 Zk:HD K "_law_rows" 49
 Jp:HD K "_law_texts" 50
 Yn:HD K "_law_due" 51
 Zl:HD K "_law_told" 52
 zgo:HD K "law" 53
 xB:XH K XO "ValueError"=some none
 zgp:XH K XO "any"=some none
 zdd:XH K XO "bool"=some none
 zde:XH K XO "dict"=some none
 Jq:XH K XO "enumerate"=some none
 zgq:XH K XO "int"=some none
 xC:XH K XO "isinstance"=some none
 zgr:XH K XO "len"=some none
 zdf:XH K XO "list"=some none
 zgs:XH K XO "max"=some none
 zgt:XH K XO "min"=some none
 zaK:XH K XO "range"=some none
 zgu:XH K XO "set"=some none
 Qf:XH K XO "sorted"=some none
 zgv:XH K XO "str"=some none
 zgw:XH K XO "sum"=some none
 zgx:XH K XO "zip"=some none
 yH:∃t,XH K XO "CLOSED_SIGN"=some (some (.str "?" t))
 j6:∃t,XH K XO "MOST_OF_PART"=some (some (.int 14 t))
 j7:∃t,XH K XO "NO_CELL_SIGN"=some (some (.str "#" t))
 cls:∃jai jaj jad jaa jac jab jah jaf jae jag:Addr,XH K XO "StoneError"=some (some (.ref jai))/\XH K XO "TooGreat"=some (some (.ref jaj))/\XH K XO "NoLaying"=some (some (.ref jad))/\XH K XO "NoBoard"=some (some (.ref jaa))/\XH K XO "NoCount"=some (some (.ref jac))/\XH K XO "NoCell"=some (some (.ref jab))/\XH K XO "NoText"=some (some (.ref jah))/\XH K XO "NoRow"=some (some (.ref jaf))/\XH K XO "NoNumber"=some (some (.ref jae))/\XH K XO "NoTable"=some (some (.ref jag))/\WG K jai xr "ValueError.__new__"=true/\WG K jaj xr "ValueError.__new__"=true/\WG K jad xr "ValueError.__new__"=true/\WG K jaa xr "ValueError.__new__"=true/\WG K jac xr "ValueError.__new__"=true/\WG K jab xr "ValueError.__new__"=true/\WG K jah xr "ValueError.__new__"=true/\WG K jaf xr "ValueError.__new__"=true/\WG K jae xr "ValueError.__new__"=true/\WG K jag xr "ValueError.__new__"=true/\VB K (.ref jaj) "__getattribute__"=some (some (.builtin "BaseException.__getattribute__"))/\VB K (.ref jaj) "__getattr__"=some none/\VB K (.ref jaj) "__class__"=some (some (.builtin "object.__class__"))/\Vs K jaj (.type "BaseException")=some true/\Vs K jaj (.type "object")=some true/\Tp K jaj=true/\Vs K jaj (.ref jai)=some true/\Xg K (.ref jaj) (.ref jaj)=some true/\Xg K (.ref jaj) (.ref jad)=some false/\Xg K (.ref jaj) (.ref jaa)=some false/\Xg K (.ref jaj) (.ref jac)=some false/\Xg K (.ref jaj) (.ref jab)=some false/\Xg K (.ref jaj) (.ref jah)=some false/\Xg K (.ref jaj) (.ref jaf)=some false/\Xg K (.ref jaj) (.ref jae)=some false/\Xg K (.ref jaj) (.ref jag)=some false/\Xg K (.ref jaj) (.type "ValueError")=some true
end zaV
noncomputable def zaV.view:PySem.Program:={ PySem.Challenge.rw_stonelay_k35_counts_too_great.prog with main:={ PySem.Challenge.rw_stonelay_k35_counts_too_great.prog.main with body:=zaV.sel [0,11,20,27,35,38,45] 0 PySem.Challenge.rw_stonelay_k35_counts_too_great.prog.main.body } }
namespace zaV
open PySem PySem.W
theorem left4 {E:Option Shared}{β γ δ ε α:Type}{O:Shared->β×γ×δ×ε}{g:β×γ×δ×ε}{Y:Shared->α}{y:α}(a:E.map (fun s=>(O s).1)=some g.1)(b:E.map (fun s=>((O s).2.1,(O s).2.2.1))=some (g.2.1,g.2.2.1))(c:E.map (fun s=>(O s).2.2.2)=some g.2.2.2)(d:E.map Y=some y):E.map (fun s=>(O s,Y s))=some (g,y):=by
 cases E with
 | none=>cases a
 | some s=>exact congrArg some (Prod.ext (Prod.ext (Option.some.inj a) (Prod.ext (congrArg (·.1) (Option.some.inj b)) (Prod.ext (congrArg (·.2) (Option.some.inj b)) (Option.some.inj c)))) (Option.some.inj d))
noncomputable abbrev OS:=openSeen view [] (importedModules PySem.Challenge.rw_stonelay_k35_counts_too_great.row.prog.main.body) (fun s=>xlAt view [] s&&recOk (RowW.records PySem.Challenge.rw_stonelay_k35_counts_too_great.row.toRowW) s) true
noncomputable abbrev GG:=openGood view []
set_option maxRecDepth 100000
set_option maxHeartbeats 0
theorem sa (w:World):(openEnds treeTable PySem.Challenge.rw_stonelay_k35_counts_too_great.row.prog w 6484).map (fun s=>(OS s).1)=some GG.1:=by kernel_rfl
theorem sb (w:World):(openEnds treeTable PySem.Challenge.rw_stonelay_k35_counts_too_great.row.prog w 6484).map (fun s=>((OS s).2.1,(OS s).2.2.1))=some (GG.2.1,GG.2.2.1):=by kernel_rfl
theorem sc (w:World):(openEnds treeTable PySem.Challenge.rw_stonelay_k35_counts_too_great.row.prog w 6484).map (fun s=>(OS s).2.2.2)=some GG.2.2.2:=by kernel_rfl
end zaV
local macro_rules | `(tactic| o_head $H)=>`(tactic| (refine' zaV.zhh (q:=zaV.view) (H:=$H) (N:=6484) (fun w=>zaV.left4 (O:=zaV.OS) (zaV.sa w) (zaV.sb w) (zaV.sc w) (by kernel_rfl)) (by rfl) (by rfl) (by rfl) (by rfl) (by first | assumption | decide +kernel) (by decide +kernel) ⟨rfl,rfl,rfl,rfl,rfl,by decide +kernel⟩ ?_ ?_))
open PySem PySem.W PyProof.Rows in
set_option maxRecDepth 100000 in
set_option maxHeartbeats 0 in
theorem zaV.look:PySem.Challenge.rw_stonelay_k35_counts_too_great.wellSaid=true:=by kernel_rfl
open PySem PySem.W PyProof.Rows in
set_option maxRecDepth 100000 in
set_option maxHeartbeats 0 in
theorem zaV.early (h:∀{q:Xl} {XP:(Str->Option X9)->Heap->Prop} {YP:W3->Heap->Prop} {d:DefRec} {K:Params->X6},d.params.defaults=[]->(∀(w:W3) (h:Heap),YP w h->(K w.params).In h)->d.name="law"->(∀w:W3,zaV.Facts (K w.params))->O3 q [] XP YP PySem.Challenge.rw_stonelay_k35_counts_too_great.row.toRowW d [] (fun f vs=>PySem.call f vs)):PySem.Challenge.rw_stonelay_k35_counts_too_great.Holds:=by
 w_on;refine holds_law zaV.look fun said=>?_;k_head;w_witness2;k_fill;refine h rfl (fun w h Y=>PySem.W.kIn_of Y) rfl fun w=>?_;constructor;all_goals first | k_is | exact⟨_,_,_,_,_,_,_,_,_,_,by k_is,by k_is,by k_is,by k_is⟩ | exact⟨_,by k_is⟩ | exact⟨_,_,_,_,_,_,_,_,_,_,by k_is,by k_is,by k_is,by k_is,by k_is,by k_is,by k_is,by k_is,by k_is,by k_is,by k_exc,by k_exc,by k_exc,by k_exc,by k_exc,by k_exc,by k_exc,by k_exc,by k_exc,by k_exc,by k_is,by k_is,by k_is,by k_is,by k_is,by k_is,by k_is,by kit_is,by kit_is,by kit_is,by kit_is,by kit_is,by kit_is,by kit_is,by kit_is,by kit_is,by kit_is⟩
noncomputable section
namespace L2
open PySem PySem.Spec PyProof.Rows
abbrev Key:=Sum Int Str
def zch:Key->X9->Bool
 | .inl k,v=>Value.isInt k v
 | .inr x,v=>Value.isStrOf x v
def zlL (w:W3):Key->Int
 | .inl k=>hashInt k
 | .inr x=>hashStr w x
theorem qQ:∀{k:Key} {v:X9},zch k v=true->(∃i t,k=Pd i/\v=Vl i t)\/(∃x t,k=Pc x/\v=OD x t)
 | .inl i,v,h=>by
  obtain⟨t,e⟩:=Value.isInt_shape (k:=i) (v:=v) h;exact .inl ⟨i,t,rfl,e⟩
 | .inr x,v,h=>by
  obtain⟨t,e⟩:=Value.isStrOf_shape (x:=x) (v:=v) h;exact .inr ⟨x,t,rfl,e⟩
theorem QX (i:Int)(t:Tok):zch (.inl i) (.int i t)=true:=by simp[zch,Value.isInt]
theorem zhi (x:Str)(t:Tok):zch (.inr x) (.str x t)=true:=by simp[zch,Value.isStrOf]
theorem zlM (a b:Int):decide ((Pd a:Key)=Pd b)=(a==b):=by
 by_cases e:a=b
 ·subst e;simp
 ·have h:¬ (Pd a:Key)=Pd b:=fun q=>e (Sum.inl.inj q);rw[decide_eq_false h];exact(beq_eq_false_iff_ne.mpr e).symm
theorem zlN (a b:Str):decide ((Pc a:Key)=Pc b)=decide (a=b):=by
 by_cases e:a=b
 ·subst e;simp
 ·have h:¬ (Pc a:Key)=Pc b:=fun q=>e (Sum.inr.inj q);rw[decide_eq_false h,decide_eq_false e]
theorem zlO (a:Int)(b:Str):decide ((Pd a:Key)=Pc b)=false:=decide_eq_false (fun q=>nomatch q)
theorem zlP (a:Str)(b:Int):decide ((Pc a:Key)=Pd b)=false:=decide_eq_false (fun q=>nomatch q)
def zP (prog:Xl)(w:W3):PySem.KeyKind prog w Key where
 is:=zch
 hash:=zlL w
 inj:=fun v a b ha hb=>by
  rcases qQ ha with ⟨i,t,rfl,rfl⟩ | ⟨x,t,rfl,rfl⟩
  ·rcases qQ hb with ⟨j,u,rfl,e⟩ | ⟨y,u,rfl,e⟩
   ·injection e with e1 _;rw[e1]
   ·exact nomatch e
  ·rcases qQ hb with ⟨j,u,rfl,e⟩ | ⟨y,u,rfl,e⟩
   ·exact nomatch e
   ·injection e with e1 _;rw[e1]
 byValue:=fun k v h=>by
  rcases qQ h with ⟨i,t,rfl,rfl⟩ | ⟨x,t,rfl,rfl⟩<;>rfl
 pyHash:=fun hv h=>by
  rcases qQ hv with ⟨i,t,rfl,rfl⟩ | ⟨x,t,rfl,rfl⟩
  ·exact wpAny_pyHash_int h
  ·exact wpAny_pyHash_str h
 eqBool:=fun hu hv h=>by
  rcases qQ hu with ⟨i,t,rfl,rfl⟩ | ⟨x,t,rfl,rfl⟩
  ·rcases qQ hv with ⟨j,u,rfl,rfl⟩ | ⟨y,u,rfl,rfl⟩
   ·rw[zlM] at h;exact wpAny_eqBool_int h
   ·rw[zlO] at h;exact SeqAt.EqAt.int_str i t y u _ _ _ _ h
  ·rcases qQ hv with ⟨j,u,rfl,rfl⟩ | ⟨y,u,rfl,rfl⟩
   ·rw[zlP] at h;exact SeqAt.EqAt.str_int x t j u _ _ _ _ h
   ·rw[zlN] at h;exact wpAny_eqBool_str h
 «strs»:=fun k x t v h=>by
  rcases qQ h with ⟨i,u,rfl,e⟩ | ⟨y,u,rfl,e⟩
  ·exact nomatch e
  ·injection e with e1 _
   subst e1;cases v<;>rfl
theorem zdY (prog:Xl)(w:W3)(i:Int)(t:Tok):(zP prog w).is (.inl i) (.int i t)=true:=QX i t
theorem zdZ (prog:Xl)(w:W3)(x:Str)(t:Tok):(zP prog w).is (.inr x) (.str x t)=true:=zhi x t
inductive V where
 | non | bl (b:Bool) | int (i:Int) | str (x:Str) | byt (b:Array UInt8) | flt (b:UInt64) | ref (a:Addr) | ty (n:String)
 deriving DecidableEq
def RelV:V->X9->Prop
 | .non,u=>u=Value.none
 | .bl b,u=>u=Tk b
 | .int i,u=>∃t,u=Vl i t
 | .str x,u=>∃t,u=OD x t
 | .byt b,u=>∃t,u=Value.bytes b t
 | .flt b,u=>∃t,u=Value.float b t
 | .ref a,u=>u=WJ a
 | .ty n,u=>u=P9 n
abbrev Vals:List V->List X9->Prop:=W9 RelV
theorem Vals.length {xs:List V}{us:List X9}(r:Vals xs us):xs.length=us.length:=Paired.length r
theorem Vals.get:∀{xs:List V} {us:List X9} {i:Nat} {x:V},Vals xs us->xs[i]?=some x->∃u,us[i]?=some u/\RelV x u
 | _,_,_,_,.nil,e=>by simp at e
 | _,_,0,_,.cons r _,e=>by simp at e;subst e;exact⟨_,rfl,r⟩
 | _,_,i+1,x,.cons _ t,e=>by
  obtain⟨u,h1,h2⟩:=Vals.get (i:=i) (x:=x) t (by simpa using e);exact⟨u,by simpa using h1,h2⟩
theorem Vals.set {x:V}{u:X9}(r:RelV x u):∀{xs:List V} {us:List X9} (i:Nat),Vals xs us->Vals (xs.set i x) (us.set i u)
 | _,_,_,.nil=>.nil
 | _,_,0,.cons _ t=>.cons r t
 | _,_,i+1,.cons q t=>.cons q (Vals.set r i t)
theorem Vals.append:∀{xs ys:List V} {us ws:List X9},Vals xs us->Vals ys ws->Vals (xs++ys) (us++ws)
 | _,_,_,_,.nil,s=>s
 | _,_,_,_,.cons r t,s=>.cons r (Vals.append t s)
theorem Vals.take:∀{xs:List V} {us:List X9} (n:Nat),Vals xs us->Vals (xs.take n) (us.take n)
 | _,_,0,_=>.nil
 | _,_,_+1,.nil=>.nil
 | _,_,n+1,.cons r t=>.cons r (Vals.take n t)
theorem Vals.drop:∀{xs:List V} {us:List X9} (n:Nat),Vals xs us->Vals (xs.drop n) (us.drop n)
 | _,_,0,r=>r
 | _,_,_+1,.nil=>.nil
 | _,_,n+1,.cons _ t=>Vals.drop n t
def zaW:Option V->Option X9->Prop
 | some v,some u=>RelV v u
 | none,none=>True
 | _,_=>False
def KV {κ:Type}:List (κ × V)->List (κ × X9)->Prop:=W9 fun (p:κ × V) (q:κ × X9)=>p.1=q.1/\RelV p.2 q.2
def kV:Key->V
 | .inl i=>.int i
 | .inr x=>.str x
inductive HO where
  | lst (xs:List V)
  | tup (xs:List V)
  | dK (kvs:List (Key×V)) | dT (kvs:List (List Key×V))
  | set (S:Int->Bool) (n:Nat)
  | ins (C dx:Addr) (fs:List (Str×V))
  | own (x:Addr)
  | xd (fs:List (Str×V))
  | met (f x:Addr)
  | rng (lo hi:Int)
  | frz (o:Obj) (u:HO)
  | tbl (ps:Array X9)
  | ext (φ:Heap->Prop)
abbrev Hp:=Addr->Option HO
def upd (H:Hp)(a:Addr)(o:HO):Hp:=fun b=>if b=a then some o else H b
theorem zb {H:Hp}{a:Addr}{o:HO}:upd H a o a=some o:=by unfold upd;rw[if_pos rfl]
theorem zj {H:Hp}{a b:Addr}{o:HO}(h:b≠a):upd H a o b=H b:=by unfold upd;rw[if_neg h]
theorem zd0 {H:Hp}{a b:Addr}{o u:HO}(h:H a=some o)(h':H b=some u)(d:o≠u):a≠b:=by
 intro e;subst e;rw[h] at h';exact d (Option.some.inj h')
theorem zk {H:Hp}{a b:Addr}{o:HO}(h:H a=some o)(h':H b=none):a≠b:=by
 intro e;subst e;rw[h] at h';cases h'
section
variable (P:Xl)(w:W3)
def qM (H:Hp)(h:Heap)(a:Addr):HO->Prop
 | .lst xs=>xs.length<=XC/\∃(its:List X9) (n:Nat),Vals xs its/\h.get? a=some { cls:=.type "list",data:=.seq its.toArray n }
 | .tup xs=>xs.length<=XC/\∃its:List X9,Vals xs its/\Ox h a its.toArray
 | .dK kvs=>kvs.length<=XC/\(a==T3)=false/\∃vs,KV kvs vs/\h.DictOf (zP P w) a vs
 | .dT kvs=>kvs.length<=XC/\(a==T3)=false/\∃xs:List (List Key×Addr×X9),
   W9 (fun (p:List Key×V) (q:List Key×Addr×X9)=>p.1=q.1/\H q.2.1=some (.tup (p.1.map kV))/\RelV p.2 q.2.2) kvs xs /\
   ∃o es ep,h.get? a=some o/\o.ExactDict/\o.data=.dict es ep/\es.toList=xs.map (entryOfKey (VH (zP P w)))/\(xs.map (·.1)).Nodup
 | .set S n=>h.SetOf (intKind P w) a S n
 | .ins C dx fs=>H dx=some (.own a)/\fs.length<=1000/\dx≠a/\h.get? a=some (PP C dx) /\
   ∃mA,h.Ns1 dx mA/\(∀f,zaW (fs.lookup f) (mA f))/\PySem.Within mA (fs.map (·.1))
 | .own _=>∃o,h.get? a=some o
 | .xd fs=>∃mA,h.Ns1 a mA/\∀f,zaW (fs.lookup f) (mA f)
 | .rng lo hi=>∃t u v,h.get? a=some { cls:=.type "range",data:=.fields #[.int lo t,.int hi u,.int 1 v] }
 | .frz o u=>h.get? a=some o/\qM H h a u
 | .tbl ps=>h.get? a=some { cls:=.none,data:=.fields ps }
 | .met f x=>h.get? a=some (RF (.ref f) (.ref x))
 | .ext φ=>φ h/\(∃o,h.get? a=some o)/\∀h1 h2:Heap,φ h1->(∀o,h1.get? a=some o->h2.get? a=some o)->φ h2
def HOk (H:Hp)(h:Heap):Prop:=∀a o,H a=some o->qM P w H h a o
end
section
variable {P:Xl}{w:W3}{H H':Hp}{h h':Heap}{a:Addr}{o:HO}
theorem qM.lt (x:qM P w H h a o):a<h.objs.size:=by
 cases o with
 | lst xs=>obtain⟨_,_,_,_,e⟩:=x;exact XQ e
 | tup xs=>obtain⟨_,_,_,p⟩:=x;exact p.lt
 | dK kvs=>obtain⟨_,_,_,_,o,_,_,e,_⟩:=x;exact XQ e
 | dT kvs=>obtain⟨_,_,_,_,o,_,_,e,_⟩:=x;exact XQ e
 | set S n=>obtain⟨o,_,_,_,e,_⟩:=x;exact XQ e
 | ins C dx fs=>obtain⟨_,_,_,e,_⟩:=x;exact XQ e
 | own y=>obtain⟨_,e⟩:=x;exact XQ e
 | xd fs=>obtain⟨_,⟨_,_,_,e,_⟩,_⟩:=x;exact XQ e
 | rng lo hi=>obtain⟨_,_,_,e⟩:=x;exact XQ e
 | frz ob u=>obtain⟨e,_⟩:=x;exact XQ e
 | tbl ps=>exact XQ (show h.get? a=some _ from x)
 | met f y=>exact XQ (show h.get? a=some _ from x)
 | ext φ=>obtain⟨_,⟨_,e⟩,_⟩:=x;exact XQ e
theorem Paired.mapP {α β:Type}{F G:α->β->Prop}:∀{l₁:List α} {l₂:List β},W9 F l₁ l₂->(∀a b,F a b->G a b)->W9 G l₁ l₂
 | _,_,.nil,_=>.nil
 | _,_,.cons r t,f=>.cons (f _ _ r) (Paired.mapP t f)
theorem Paired.imp' {α β:Type}{F G:α->β->Prop}(f:∀a b,F a b->G a b){l₁:List α}{l₂:List β}(r:W9 F l₁ l₂):W9 G l₁ l₂:=Paired.mapP r f
theorem qM.stay (x:qM P w H h a o)(k:∀b u,(b=a\/H b=some (.own a))->h.get? b=some u->h'.get? b=some u)
  (ho:∀b,H b=some (.own a)->H' b=some (.own a)) (ht:∀b xs,H b=some (.tup xs)->H' b=some (.tup xs)):qM P w H' h' a o:=by
 induction o with
 | lst xs=>obtain⟨z,its,n,r,e⟩:=x;exact⟨z,its,n,r,k _ _ (.inl rfl) e⟩
 | tup xs=>obtain⟨z,its,r,ob,e,c⟩:=x;exact⟨z,its,r,ob,k _ _ (.inl rfl) e,c⟩
 | dK kvs=>obtain⟨z,y,vs,r,ob,es,ep,e,c⟩:=x;exact⟨z,y,vs,r,ob,es,ep,k _ _ (.inl rfl) e,c⟩
 | dT kvs =>
  obtain⟨z,y,xs,r,ob,es,ep,e,c⟩:=x;exact⟨z,y,xs,Paired.mapP r fun p q z=>⟨z.1,ht _ _ z.2.1,z.2.2⟩,ob,es,ep,k _ _ (.inl rfl) e,c⟩
 | set S n=>obtain⟨ob,es,ep,t,e,c⟩:=x;exact⟨ob,es,ep,t,k _ _ (.inl rfl) e,c⟩
 | ins C dx fs =>
  obtain⟨d,z,ne,e,mA,⟨od,es,ep,e2,c⟩,r⟩:=x;exact⟨ho _ d,z,ne,k _ _ (.inl rfl) e,mA,⟨od,es,ep,k _ _ (.inr d) e2,c⟩,r⟩
 | own y=>obtain⟨ob,e⟩:=x;exact⟨ob,k _ _ (.inl rfl) e⟩
 | xd fs=>obtain⟨mA,⟨od,es,ep,e,c⟩,r⟩:=x;exact⟨mA,⟨od,es,ep,k _ _ (.inl rfl) e,c⟩,r⟩
 | rng lo hi=>obtain⟨t,u,v,e⟩:=x;exact⟨t,u,v,k _ _ (.inl rfl) e⟩
 | frz ob u ih=>obtain⟨e,q⟩:=x;exact⟨k _ _ (.inl rfl) e,ih q⟩
 | tbl ps =>
  have e:h.get? a=some { cls:=.none,data:=.fields ps }:=x;show h'.get? a=some { cls:=.none,data:=.fields ps };exact k a _ (.inl rfl) e
 | met f y =>
  have e:h.get? a=some (RF (.ref f) (.ref y)):=x;show h'.get? a=some (RF (.ref f) (.ref y));exact k a _ (.inl rfl) e
 | ext φ=>obtain⟨p,⟨o,e⟩,st⟩:=x;exact⟨st _ _ p fun o q=>k _ _ (.inl rfl) q,⟨o,k _ _ (.inl rfl) e⟩,st⟩
theorem HOk.lt (x:HOk P w H h)(e:H a=some o):a<h.objs.size:=(x a o e).lt
theorem HOk.fresh (x:HOk P w H h)(e:h.objs.size<=a):H a=none:=by
 cases q:H a with
 | none=>rfl
 | some u=>exact absurd (XE (x.lt q) e) (Wq _)
theorem HOk.kept (x:HOk P w H h)(k:∀b u,h.get? b=some u->h'.get? b=some u):HOk P w H h':=fun a o e =>
 (x a o e).stay (fun b u _ q=>k b u q) (fun _ q=>q) fun _ _ q=>q
theorem HOk.laid (x:HOk P w H h)(k:∀b u,h.get? b=some u->h'.get? b=some u)(hp:h.objs.size<=a)(new:qM P w (upd H a o) h' a o):HOk P w (upd H a o) h':=fun b u e=>by
 have hn:=x.fresh hp;by_cases hb:b=a
 ·subst hb;rw[zb] at e;cases e;exact new
 ·rw[zj hb] at e;exact(x b u e).stay (fun c v _ q=>k c v q) (fun c q=>by rw[zj (zk q hn)];exact q) fun c xs q=>by rw[zj (zk q hn)];exact q
end
def Rd (H:Hp)(a:Addr)(u:HO):Prop:=H a=some u\/∃o,H a=some (.frz o u)
theorem Rd.ok {P:Xl}{w:W3}{H:Hp}{h:Heap}{a:Addr}{u:HO}(r:Rd H a u)(x:HOk P w H h):qM P w H h a u:=by
 rcases r with r | ⟨o,r⟩
 ·exact x a u r
 ·obtain⟨_,q⟩:=x a _ r;exact q
def Mut:Option HO->Prop
 | some (.lst _)=>True
 | some (.dK _)=>True
 | some (.dT _)=>True
 | some (.set _ _)=>True
 | some (.ins _ _ _)=>True
 | some (.ext _)=>True
 | _=>False
section
variable {P:Xl}{w:W3}{H:Hp}{h h':Heap}{x e:Addr}{o':HO}
theorem HOk.write (ok:HOk P w H h)(mu:Mut (H x))(he:e=x\/H e=some (.own x))(k:∀b u,b≠e->h.get? b=some u->h'.get? b=some u)(heo:∃u,h'.get? e=some u)
  (new:qM P w (upd H x o') h' x o'):HOk P w (upd H x o') h':=fun b u q=>by
 have nown:∀c y,H c=some (.own y)->c≠x:=fun c y r z=>by subst z;rw[r] at mu;exact mu
 have ntup:∀c xs,H c=some (.tup xs)->c≠x:=fun c xs r z=>by subst z;rw[r] at mu;exact mu
 by_cases hb:b=x
 ·subst hb;rw[zb] at q;cases q;exact new
 ·rw[zj hb] at q;by_cases hbe:b=e
  ·have q':H b=some (.own x):=by
    rcases he with z | z
    ·exact absurd (hbe.trans z) hb
    ·rw[hbe];exact z
   rw[q] at q';cases q';obtain⟨v,hv⟩:=heo;exact⟨v,by rw[hbe];exact hv⟩
  ·refine(ok b u q).stay (fun c v hc r=>k c v ?_ r) (fun c r=>by rw[zj (nown c b r)];exact r) fun c xs r=>by rw[zj (ntup c xs r)];exact r
   rcases hc with rfl | hc
   ·exact hbe
   ·rintro rfl;rcases he with z | z
    ·exact nown c b hc z
    ·rw[hc] at z;cases z;exact hb rfl
end
structure Un (fs ex:List Addr)(H H':Hp)(h h':Heap):Prop where
 keep:∀b o,h.get? b=some o->H b=none->b ∉ fs->b ∉ ex->h'.get? b=some o
 slot:∀b o,h.get? b=some o->H b=none->b∈fs->b ∉ ex->∃sl,h'.get? b=some { o with slots:=sl }
 free:∀b o,h.get? b=some o->H b=none->b ∉ ex->H' b=none
 there:∀b o,h.get? b=some o->b ∉ ex->∃o',h'.get? b=some o'
 tups:∀b xs,H b=some (.tup xs)->H' b=some (.tup xs)
 frzs:∀b o u,H b=some (.frz o u)->H' b=some (.frz o u)
 tbls:∀b ps,H b=some (.tbl ps)->∃more,H' b=some (.tbl (ps++more))
section
variable {fs fs' ex ex':List Addr}{H H1 H2:Hp}{h h1 h2 h':Heap}{a x e:Addr}{o:HO}
theorem Un.any (u:Un fs ex H H1 h h1){b:Addr}{ob:Obj}(q:h.get? b=some ob)(n:H b=none)(hx:b ∉ ex):∃sl,h1.get? b=some { ob with slots:=sl }:=by
 by_cases hb:b∈fs
 ·exact u.slot b ob q n hb hx
 ·exact⟨ob.slots,u.keep b ob q n hb hx⟩
theorem Un.kept (k:∀b u,h.get? b=some u->h'.get? b=some u):Un fs ex H H h h' :=
 ⟨fun b ob q _ _ _=>k b ob q,fun b ob q _ _ _=>⟨ob.slots,k b ob q⟩,fun _ _ _ n _=>n,fun b ob q _=>⟨ob,k b ob q⟩,fun _ _ q=>q,fun _ _ _ q=>q,fun _ ps q=>⟨#[],by rw[q];simp⟩⟩
theorem Un.refl:Un fs ex H H h h:=Un.kept fun _ _ q=>q
theorem Un.laid (k:∀b u,h.get? b=some u->h'.get? b=some u)(hp:h.objs.size<=a)(hn:H a=none):Un fs ex H (upd H a o) h h' where
 keep:=fun b u q _ _ _=>k b u q
 slot:=fun b u q _ _ _=>⟨u.slots,k b u q⟩
 free:=fun b u q n _=>by rw[zj (XA (XE (XQ q) hp))];exact n
 there:=fun b u q _=>⟨u,k b u q⟩
 tups:=fun b xs q=>by rw[zj (zk q hn)];exact q
 frzs:=fun b u xs q=>by rw[zj (zk q hn)];exact q
 tbls:=fun b ps q=>⟨#[],by rw[zj (zk q hn),q];simp⟩
theorem Un.write (mu:Mut (H x))(he:e=x\/H e=some (.own x))(k:∀b u,b≠e->h.get? b=some u->h'.get? b=some u)(heo:∃u,h'.get? e=some u):Un fs ex H (upd H x o) h h':=by
 have hx:∀b,H b=none->b≠x:=fun b n z=>by subst z;rw[n] at mu;exact mu
 have hb:∀b,H b=none->b≠e:=fun b n z=>by
  subst z;rcases he with r | r
  ·exact hx b n r
  ·rw[n] at r;cases r
 have hm:∀b u,H b=some u->¬ Mut (some u)->b≠x:=fun b u q nm z=>by subst z;rw[q] at mu;exact nm mu
 refine⟨fun b u q n _ _=>k b u (hb b n) q,fun b u q n _ _=>⟨u.slots,k b u (hb b n) q⟩,fun b u q n _=>by rw[zj (hx b n)];exact n,fun b u q _=>?_,
  fun b xs q=>by rw[zj (hm b _ q fun z=>z)];exact q,fun b u xs q=>by rw[zj (hm b _ q fun z=>z)];exact q,fun b ps q=>⟨#[],by rw[zj (hm b _ q fun z=>z),q];simp⟩⟩
 by_cases hbe:b=e
 ·subst hbe;exact heo
 ·exact⟨u,k b u hbe q⟩
end
def trk (h:Heap)(H:Hp):List Addr:=(WO h.objs.size).filter fun a=>(H a).isSome
def zdg (h:Heap)(H:Hp):Heap:=PySem.W.hideAll h (trk h H)
theorem zhj (h:Heap)(H:Hp):(zdg h H).objs.size=h.objs.size:=PySem.W.hideAll_size _ _
theorem zik {h:Heap}{H:Hp}{b:Addr}{o:Obj}(e:h.get? b=some o)(n:H b=none):(zdg h H).get? b=some o :=
 TH _ e fun hm=>by
  have q:(H b).isSome=true:=(XS.mp hm).2;rw[n] at q;simp at q
theorem zkb {h:Heap}{H:Hp}{b:Addr}{o:Obj}(e:(zdg h H).get? b=some o):h.get? b=some o/\H b=none:=by
 have e':h.get? b=some o:=PySem.W.of_hideAll (trk h H) e;refine⟨e',?_⟩;cases q:H b with
 | none=>rfl
 | some x =>
  have hm:b∈trk h H:=XS.mpr ⟨Wv.mpr (XQ e'),by simp[q]⟩;have z:(zdg h H).get? b=none:=PySem.W.hideAll_none (trk h H) hm;rw[z] at e;cases e
structure Mod (K:X6)(mg:Str->Option X9)(base:Heap):Prop where
 kin:K.In base
 glob:base.Ns XO mg
 blt:∃mb,base.Ns OW mb/\∀x:Str,x ≠ "__name__"->mb x=TV x
 nolimit:base.NoLimit
structure Cx where
 prog:Xl
 w:W3
 K:X6
 mg:Str->Option X9
 base:Heap
 A:WW
 N:List Str
 s₀:X8
 H₀:Hp
 env:Env
 outer:List Env
 stack:List Env
 ex:List Addr
 fn:Str->Bool
 calm:Bool
 pn:List (Addr×Obj)
 xe:X9->X8->Prop
def frs (l:List Env):List Addr:=l.filterMap (·.frame)
abbrev Cx.fs (X:Cx):List Addr:=frs X.outer
def Vis (sc:Vb)(x:Str):Prop:=sc.names.lookup x=some .local\/sc.names.lookup x=some .cell\/sc.names.lookup x=some .free
def Loc (sc:Vb)(x:Str):Prop:=sc.names.lookup x=some .local\/sc.names.lookup x=some .cell
def Look (env:Env)(h:Heap)(m:Str->Option X9)(x:Str)(u:X9):Prop :=
 (env.kindOf x=some .local/\m x=some u)\/((env.kindOf x=some .cell\/env.kindOf x=some .free)/\∃c,env.cells.lookup x=some c/\h.IsCell c (some u))
structure Cx.Ok (X:Cx):Prop where
 mod:Mod X.K X.mg X.base
 kind:X.env.scope.kind=.function
 glob:X.env.globals=XO
 blt:X.env.builtins=OW
 above:X.s₀.heap.objs.size<=X.env.locals
 inj:∀x y c,X.env.cells.lookup x=some c->X.env.cells.lookup y=some c->x=y
 has:∀x,(X.env.kindOf x=some .cell\/X.env.kindOf x=some .free)->∃c,X.env.cells.lookup x=some c
 cab:∀x c,X.fn x=true->X.env.cells.lookup x=some c->X.s₀.heap.objs.size<=c
 hd:X.calm=true->X.A.handled=none
 frames:X.A.frames=some X.stack
 stk:X.stack=X.outer\/(X.stack=X.env::X.outer/\X.env.frame=some X.env.locals)
 exf:∀b∈X.ex,b≠X.env.locals/\∀x c,X.env.cells.lookup x=some c->c≠b
 bs:∀b o,X.base.get? b=some o->X.s₀.heap.get? b=some o/\X.H₀ b=none
 bsz:X.base.objs.size<=X.s₀.heap.objs.size
 noex:∀b o,X.base.get? b=some o->b ∉ X.ex
 exfs:∀b∈X.ex,b ∉ X.fs
 funs:X.s₀.heap.FunFrames X.base X.outer
 frf:∀b∈X.fs,X.H₀ b=none
structure Inv (X:Cx)(pins:List (Addr×Obj))(σ:List (Option V))(H:Hp)(s:X8):Prop where
 ok:X.Ok
 os:s.os=X.s₀.os
 bare:S6 s.gens
 base:Un X.fs X.ex X.H₀ H X.s₀.heap s.heap
 loc:∃m,s.heap.Ns X.env.locals m/\∀(i:Nat) (x:Str) (v:V),X.N[i]?=some x->σ[i]?=some (some v)->Vis X.env.scope x->∃u,RelV v u/\Look X.env s.heap m x u
 cell:∀x c,X.env.cells.lookup x=some c->∃v,s.heap.IsCell c v
 free:H X.env.locals=none
 freeC:∀x c,X.env.cells.lookup x=some c->H c=none
 pin:∀p∈X.pn++pins,s.heap.get? p.1=some p.2/\H p.1=none/\p.1≠X.env.locals/\p.1 ∉ X.fs/\∀v,p.2.data ≠ .cell v
 hok:HOk X.prog X.w H s.heap
 len:σ.length=X.N.length
section
variable {X:Cx}{pins:List (Addr×Obj)}{σ:List (Option V)}{H H':Hp}{s:X8}{h':Heap}
theorem Cx.Ok.nofr (ok:X.Ok){b:Addr}{o:Obj}(e:X.base.get? b=some o):b ∉ X.fs:=fun hb=>by
 have:=(ok.funs.mem hb).1;rw[e] at this;cases this
theorem Inv.bs (I:Inv X pins σ H s):∀b o,X.base.get? b=some o->s.heap.get? b=some o/\H b=none:=fun b o e =>
 ⟨I.base.keep b o (I.ok.bs b o e).1 (I.ok.bs b o e).2 (I.ok.nofr e) (I.ok.noex b o e),I.base.free b o (I.ok.bs b o e).1 (I.ok.bs b o e).2 (I.ok.noex b o e)⟩
theorem Inv.bk (I:Inv X pins σ H s):∀b o,X.base.get? b=some o->s.heap.get? b=some o:=fun b o e=>(I.bs b o e).1
theorem Inv.mod (I:Inv X pins σ H s):Mod X.K X.mg X.base:=I.ok.mod
theorem Inv.kIn (I:Inv X pins σ H s):X.K.In s.heap:=I.ok.mod.kin.keeps I.bk
theorem Inv.lt (I:Inv X pins σ H s):X.env.locals<s.heap.objs.size:=let ⟨_,hn,_⟩:=I.loc;hn.lt
theorem Inv.sz (I:Inv X pins σ H s):X.s₀.heap.objs.size<=s.heap.objs.size:=XV I.ok.above (S4 I.lt)
theorem Inv.nofs (I:Inv X pins σ H s){a:Addr}(h:s.heap.objs.size<=a):a ∉ X.fs:=fun hb=>by
 obtain⟨_,o,ho,_⟩:=I.ok.funs.mem hb;exact absurd (XE (XQ ho) (XV I.sz h)) (Wq _)
theorem Inv.cne (I:Inv X pins σ H s):∀x c,X.env.cells.lookup x=some c->c≠X.env.locals:=fun x c e z=>by
 obtain⟨v,o,ho,hd⟩:=I.cell x c e;obtain⟨m,⟨o',es,ep,ho',hd',_⟩,_⟩:=I.loc;rw[z,ho'] at ho;cases ho;rw[hd'] at hd;cases hd
theorem Inv.funs (I:Inv X pins σ H s):s.heap.FunFrames X.base X.outer:=by
 have all:∀(l:List Env),(∀b∈frs l,b∈X.fs)->X.s₀.heap.FunFrames X.base l->s.heap.FunFrames X.base l:=by
  intro l;induction l with
  | nil=>intro _ _;trivial
  | cons env r ih =>
   intro hs hl;obtain⟨hk,⟨L,o,hf,hn,ho,hd⟩,hr⟩:=hl;have hL:L∈X.fs:=hs L (by unfold frs;rw[U4,hf];exact XU);obtain⟨sl,e⟩:=I.base.slot L o ho (I.ok.frf L hL) hL fun z=>I.ok.exfs L z hL;exact⟨hk,⟨L,_,hf,hn,e,hd⟩,ih (fun b hb=>hs b (by unfold frs;rw[U4,hf];exact XX _ hb)) hr⟩
 exact all X.outer (fun _ hb=>hb) I.ok.funs
theorem Inv.stack (I:Inv X pins σ H s):s.heap.FunFrames X.base X.stack:=by
 rcases I.ok.stk with e | ⟨e,hf⟩
 ·rw[e];exact I.funs
 ·rw[e];obtain⟨m,hn,_⟩:=I.loc;refine .cons (by rw[I.ok.kind];decide) hf hn ?_ I.funs;exact UJ (XV I.ok.bsz I.ok.above)
theorem Inv.stkSub (I:Inv X pins σ H s):∀b∈frs X.stack,b∈X.env.locals::X.fs:=fun b hb=>by
 rcases I.ok.stk with e | ⟨e,hf⟩
 ·rw[e] at hb;exact XX _ hb
 ·rw[e] at hb;unfold frs at hb;rw[U4,hf] at hb;exact hb
theorem Inv.stkFree (I:Inv X pins σ H s):∀b∈frs X.stack,H b=none:=fun b hb=>by
 rcases XR.mp (I.stkSub b hb) with e | hb
 ·rw[e];exact I.free
 ·obtain⟨_,o,ho,_⟩:=I.ok.funs.mem hb;exact I.base.free b o ho (I.ok.frf b hb) fun z=>I.ok.exfs b z hb
theorem Inv.step {g':Array Uz}{t':Nat}{d':Ow}{ch:List Addr}(I:Inv X pins σ H s)
  (hch:∀b∈ch,(b∈X.ex\/X.s₀.heap.objs.size<=b)/\b≠X.env.locals/\(∀x c,X.env.cells.lookup x=some c->c≠b)/\∀p∈X.pn++pins,p.1≠b)
  (keep:∀b o,b≠X.env.locals->b ∉ X.fs->b ∉ ch->s.heap.get? b=some o->H b=none->h'.get? b=some o)
  (slot:∀b o,b≠X.env.locals->b∈X.fs->b ∉ ch->s.heap.get? b=some o->H b=none->∃sl,h'.get? b=some { o with slots:=sl }) (free:∀b o,b ∉ ch->s.heap.get? b=some o->H b=none->H' b=none)
  (there:∀b o,b ∉ ch->s.heap.get? b=some o->∃o',h'.get? b=some o')
  (tups:∀b xs,H b=some (.tup xs)->H' b=some (.tup xs)) (frzs:∀b o u,H b=some (.frz o u)->H' b=some (.frz o u)) (tbls:∀b ps,H b=some (.tbl ps)->∃more,H' b=some (.tbl (ps++more)))
  (ns:∀m,s.heap.Ns X.env.locals m->h'.Ns X.env.locals m) (hok:HOk X.prog X.w H' h') (hg:S6 g') :
  Inv X pins σ H' { s with heap:=h',gens:=g',drawn:=d',toks:=t' }:=by
 have neL:∀b o,X.s₀.heap.get? b=some o->b≠X.env.locals:=fun b o e=>XA (XE (XQ e) I.ok.above);have neC:∀b o,X.s₀.heap.get? b=some o->b ∉ X.ex->b ∉ ch:=fun b o e hx hb=>by
  rcases(hch b hb).1 with z | z
  ·exact hx z
  ·exact absurd (XE (XQ e) z) (Wq _)
 have cellK:∀x c,X.env.cells.lookup x=some c->∀v,s.heap.IsCell c v->h'.IsCell c v:=fun x c e v ⟨o,ho,hd⟩=>by
  have nch:c ∉ ch:=fun z=>(hch c z).2.2.1 x c e rfl;by_cases hc:c∈X.fs
  ·obtain⟨sl,q⟩:=slot c o (I.cne x c e) hc nch ho (I.freeC x c e);exact⟨_,q,hd⟩
  ·exact⟨o,keep c o (I.cne x c e) hc nch ho (I.freeC x c e),hd⟩
 refine⟨I.ok,I.os,hg,⟨fun b o e n hb hx=>?_,fun b o e n hb hx=>?_,fun b o e n hx=>?_,fun b o e hx=>?_,fun b xs e=>tups b xs (I.base.tups b xs e),fun b o xs e=>frzs b o xs (I.base.frzs b o xs e),fun b ps e=>?_⟩,?_,fun x c e=>?_,?_,fun x c e=>?_,fun p hp=>?_,hok,I.len⟩
 ·exact keep b o (neL b o e) hb (neC b o e hx) (I.base.keep b o e n hb hx) (I.base.free b o e n hx)
 ·obtain⟨sl,e1⟩:=I.base.slot b o e n hb hx;obtain⟨sl',e2⟩:=slot b _ (neL b o e) hb (neC b o e hx) e1 (I.base.free b o e n hx);exact⟨sl',e2⟩
 ·obtain⟨o',e1⟩:=I.base.there b o e hx;exact free b o' (neC b o e hx) e1 (I.base.free b o e n hx)
 ·obtain⟨o',e1⟩:=I.base.there b o e hx;exact there b o' (neC b o e hx) e1
 ·obtain⟨m1,e1⟩:=I.base.tbls b ps e;obtain⟨m2,e2⟩:=tbls b _ e1;exact⟨m1++m2,by rw[e2,RT]⟩
 ·obtain⟨m,hn,hl⟩:=I.loc;refine⟨m,ns m hn,fun i x v e1 e2 e3=>?_⟩;obtain⟨u,r,l⟩:=hl i x v e1 e2 e3;refine⟨u,r,?_⟩;rcases l with l | ⟨k,c,e,z⟩
  ·exact .inl l
  ·exact .inr ⟨k,c,e,cellK x c e _ z⟩
 ·obtain⟨v,z⟩:=I.cell x c e;exact⟨v,cellK x c e v z⟩
 ·obtain⟨m,⟨o,_,_,ho,_⟩,_⟩:=I.loc;exact free _ o (fun z=>(hch _ z).2.1 rfl) ho I.free
 ·obtain⟨v,o,ho,hd⟩:=I.cell x c e;exact free c o (fun z=>(hch c z).2.2.1 x c e rfl) ho (I.freeC x c e)
 ·obtain⟨e,n,ne,nf,d⟩:=I.pin p hp;have nch:p.1 ∉ ch:=fun z=>(hch p.1 z).2.2.2 p hp rfl;exact⟨keep p.1 p.2 ne nf nch e n,free p.1 p.2 nch e n,ne,nf,d⟩
theorem Inv.un {t':Nat}(I:Inv X pins σ H s)(u:Un X.fs [] H H' s.heap h')(hok:HOk X.prog X.w H' h'):Inv X pins σ H' { s with heap:=h',toks:=t' }:=by
 obtain⟨m,⟨o,es,ep,ho,r⟩,_⟩:=id I.loc;obtain⟨sl,hL⟩:=u.any ho I.free (by simp);exact I.step (g':=s.gens) (d':=s.drawn) (ch:=[]) (fun _ z=>nomatch z) (fun b o _ hb _ e n=>u.keep b o e n hb (by simp)) (fun b o _ hb _ e n=>u.slot b o e n hb (by simp)) (fun b o _ e n=>u.free b o e n (by simp)) (fun b o _ e=>u.there b o e (by simp)) u.tups u.frzs u.tbls (fun m' hm=>by
  obtain⟨o',es',ep',ho',r'⟩:=hm;rw[ho] at ho';cases ho';exact⟨_,es',ep',hL,r'⟩) hok I.bare
theorem Inv.call {g':Array Uz}{t':Nat}{d':Ow}{ch:List Addr}(I:Inv X pins σ H s)(u:Un (frs X.stack) ch H H' s.heap h')(hok:HOk X.prog X.w H' h')(hg:S6 g')
  (hch:∀b∈ch,(b∈X.ex\/X.s₀.heap.objs.size<=b)/\b≠X.env.locals/\(∀x c,X.env.cells.lookup x=some c->c≠b)/\∀p∈X.pn++pins,p.1≠b) :
  Inv X pins σ H' { s with heap:=h',gens:=g',drawn:=d',toks:=t' }:=by
 obtain⟨m,⟨o,es,ep,ho,r⟩,_⟩:=id I.loc;obtain⟨sl,hL⟩:=u.any ho I.free fun z=>(hch _ z).2.1 rfl;exact I.step (ch:=ch) hch (fun b o hL hb hc e n=>u.keep b o e n (fun z=>(XR.mp (I.stkSub b z)).elim hL hb) hc) (fun b o _ _ hc e n=>u.any e n hc) (fun b o hc e n=>u.free b o e n hc) (fun b o hc e=>u.there b o e hc) u.tups u.frzs u.tbls (fun m' hm=>by
  obtain⟨o',es',ep',ho',r'⟩:=hm;rw[ho] at ho';cases ho';exact⟨_,es',ep',hL,r'⟩) hok hg
theorem Inv.turned {t':Nat}{it:Addr}(I:Inv X pins σ H s)(k:∀b o,b≠it->s.heap.get? b=some o->h'.get? b=some o)(hn:H it=none)(hL:it≠X.env.locals)
  (h1:it∈X.ex\/X.s₀.heap.objs.size<=it) (h2:∀x c,X.env.cells.lookup x=some c->c≠it) (h3:∀p∈X.pn++pins,p.1≠it):Inv X pins σ H { s with heap:=h',toks:=t' }:=by
 have nit:∀b u,H b=some u->b≠it:=fun b u e z=>by rw[z,hn] at e;cases e
 refine I.step (g':=s.gens) (d':=s.drawn) (ch:=[it]) (fun b hb=>?_) (fun b o _ _ hc e _=>k b o (fun z=>hc (by simp[z])) e) (fun b o _ _ hc e _=>⟨o.slots,k b o (fun z=>hc (by simp[z])) e⟩) (fun _ _ _ _ n=>n)
  (fun b o hc e=>⟨o,k b o (fun z=>hc (by simp[z])) e⟩) (fun _ _ e=>e) (fun _ _ _ e=>e) (fun b ps e=>⟨#[],by rw[e];simp⟩) (fun m hm=>?_) (fun b u e=>?_) I.bare
 ·have e:b=it:=by simpa using hb
  subst e;exact⟨h1,hL,h2,h3⟩
 ·obtain⟨o,es,ep,ho,r⟩:=hm;exact⟨o,es,ep,k _ o (Vy hL) ho,r⟩
 ·refine(I.hok b u e).stay (fun c v hc q=>k c v ?_ q) (fun _ q=>q) fun _ _ q=>q;rcases hc with z | z
  ·rw[z];exact nit b u e
  ·exact nit c _ z
theorem Inv.tok (I:Inv X pins σ H s)(t:Nat):Inv X pins σ H { s with toks:=t }:=I.un (h':=s.heap) (t':=t) Un.refl I.hok
theorem Inv.kept {t':Nat}(I:Inv X pins σ H s)(k:∀b u,s.heap.get? b=some u->h'.get? b=some u):Inv X pins σ H { s with heap:=h',toks:=t' }:=I.un (Un.kept k) (I.hok.kept k)
theorem Inv.laid {a:Addr}{o:HO}{t':Nat}(I:Inv X pins σ H s)(k:∀b u,s.heap.get? b=some u->h'.get? b=some u)(hp:s.heap.objs.size<=a)(new:qM X.prog X.w (upd H a o) h' a o) :
  Inv X pins σ (upd H a o) { s with heap:=h',toks:=t' }:=I.un (Un.laid k hp (I.hok.fresh hp)) (I.hok.laid k hp new)
theorem Inv.write {x e:Addr}{o:HO}{t':Nat}(I:Inv X pins σ H s)(mu:Mut (H x))(he:e=x\/H e=some (.own x))(k:∀b u,b≠e->s.heap.get? b=some u->h'.get? b=some u)(heo:∃u,h'.get? e=some u)
  (new:qM X.prog X.w (upd H x o) h' x o):Inv X pins σ (upd H x o) { s with heap:=h',toks:=t' }:=I.un (Un.write mu he k heo) (I.hok.write mu he k heo new)
theorem Inv.pins_of {pins':List (Addr×Obj)}(I:Inv X pins σ H s)(h:∀p∈pins',s.heap.get? p.1=some p.2/\H p.1=none/\p.1≠X.env.locals/\p.1 ∉ X.fs/\∀v,p.2.data ≠ .cell v):Inv X pins' σ H s :=
 ⟨I.ok,I.os,I.bare,I.base,I.loc,I.cell,I.free,I.freeC,fun p hp=>(XI.mp hp).elim (fun z=>I.pin p (Xd _ z)) (h p),I.hok,I.len⟩
theorem zaX {N:List Str}(hN:N.Nodup){i j:Nat}{x:Str}(a:N[i]?=some x)(b:N[j]?=some x):i=j:=by
 obtain⟨h1,e1⟩:=X2.mp a;obtain⟨h2,e2⟩:=X2.mp b;exact(List.getElem_inj hN).mp (e1.trans e2.symm)
theorem QY {M:PQ}{A:WW}{E:X9->X8->Prop}{i:Nat}{x:Str}{v:V}{u:X9}{Q:Unit->X8->Prop}(I:Inv X pins σ H s)(hN:X.N.Nodup)(hi:X.N[i]?=some x)(hx:Loc X.env.scope x)(r:RelV v u)
  (h:∀s',Inv X pins (σ.set i (some v)) H s'->(∃a,VN a s.heap s'.heap/\(a=X.env.locals\/X.env.cells.lookup x=some a))->Q () s') (hf:X.fn x=true\/X.env.scope.names.lookup x=some .local:=by first | exact .inl rfl | exact .inr rfl | assumption):Xo M A (storeName X.env x u) Q E s:=by
 obtain⟨m,hn,hl⟩:=id I.loc;have hcls:(X.env.scope.kind == .class || (X.env.scope.kind == .module&&X.env.locals != X.env.globals))=false:=by rw[I.ok.kind];rfl
 have hiσ:i < σ.length:=by rw[I.len];exact(X2.mp hi).1
 have cne:=I.cne;have tracked:∀{a:Addr} {h':Heap},(∃o,s.heap.get? a=some o/\H a=none)->VN a s.heap h'->HOk X.prog X.w H h':=fun {a h'} ha hs b ob e=>by
  obtain⟨_,_,hfree⟩:=ha;refine(I.hok b ob e).stay (fun c w' hc q=>(hs.2 c ?_).trans q) (fun _ q=>q) fun _ _ q=>q;rintro rfl;rcases hc with rfl | hc
  ·rw[hfree] at e;cases e
  ·rw[hfree] at hc;cases hc
 rcases hx with hk | hk
 ·refine wpAny_storeName_local hk hn (fun h' hn' hs=>?_) hcls;obtain⟨oL,_,_,hoL,_⟩:=id hn;refine h _ ⟨I.ok,I.os,I.bare,⟨fun b o e n hb hx=>?_,fun b o e n hb hx=>?_,I.base.free,fun b o e hx=>?_,I.base.tups,I.base.frzs,I.base.tbls⟩,⟨_,hn',fun j y v' e1 e2 e3=>?_⟩,fun y c e=>?_,I.free,I.freeC,fun p hp=>?_,tracked ⟨oL,hoL,I.free⟩ hs,by simpa using I.len⟩ ⟨_,hs,.inl rfl⟩
  ·exact(hs.2 b (XA (XE (XQ e) I.ok.above))).trans (I.base.keep b o e n hb hx)
  ·obtain⟨sl,e1⟩:=I.base.slot b o e n hb hx;exact⟨sl,(hs.2 b (XA (XE (XQ e) I.ok.above))).trans e1⟩
  ·obtain⟨o',e1⟩:=I.base.there b o e hx;exact⟨o',(hs.2 b (XA (XE (XQ e) I.ok.above))).trans e1⟩
  ·by_cases hj:j=i
   ·subst hj;rw[hi] at e1;cases e1;rw[SN hiσ] at e2;cases e2;exact⟨u,r,.inl ⟨hk,by simp⟩⟩
   ·rw[Sq (Vy hj)] at e2;obtain⟨u',r',q⟩:=hl j y v' e1 e2 e3;refine⟨u',r',?_⟩;rcases q with ⟨k,e⟩ | ⟨k,c,e,z⟩
    ·refine .inl ⟨k,?_⟩;have:y≠x:=fun e=>hj (zaX hN e1 (e ▸ hi));simp[this,e]
    ·exact .inr ⟨k,c,e,z.sameBut hs (cne y c e)⟩
  ·obtain⟨w',z⟩:=I.cell y c e;exact⟨w',z.sameBut hs (cne y c e)⟩
  ·obtain⟨e,n,ne,nf,d⟩:=I.pin p hp;exact⟨(hs.2 p.1 ne).trans e,n,ne,nf,d⟩
 ·have hfn:X.fn x=true:=by
   rcases hf with z | z
   ·exact z
   ·rw[z] at hk;cases hk
  obtain⟨c,hc⟩:=I.ok.has x (.inl hk);obtain⟨w',z⟩:=I.cell x c hc;refine wpAny_storeName_cell I.ok.kind hk hc z (fun h' hc' hs=>?_);obtain⟨oc,hoc,hocd⟩:=id z;refine h { s with heap:=h' } ⟨I.ok,I.os,I.bare,⟨fun b o e n hb hx=>?_,fun b o e n hb hx=>?_,I.base.free,fun b o e hx=>?_,I.base.tups,I.base.frzs,I.base.tbls⟩,⟨m,hn.sameBut hs (Vy (cne x c hc)),fun j y v' e1 e2 e3=>?_⟩,fun y c' e=>?_,I.free,I.freeC,fun p hp=>?_,tracked ⟨oc,hoc,I.freeC x c hc⟩ hs,by simpa using I.len⟩ ⟨c,hs,.inr hc⟩
  ·exact(hs.2 b (XA (XE (XQ e) (I.ok.cab x c hfn hc)))).trans (I.base.keep b o e n hb hx)
  ·obtain⟨sl,e1⟩:=I.base.slot b o e n hb hx;exact⟨sl,(hs.2 b (XA (XE (XQ e) (I.ok.cab x c hfn hc)))).trans e1⟩
  ·obtain⟨o',e1⟩:=I.base.there b o e hx;exact⟨o',(hs.2 b (XA (XE (XQ e) (I.ok.cab x c hfn hc)))).trans e1⟩
  ·by_cases hj:j=i
   ·subst hj;rw[hi] at e1;cases e1;rw[SN hiσ] at e2;cases e2;exact⟨u,r,.inr ⟨.inl hk,c,hc,hc'⟩⟩
   ·rw[Sq (Vy hj)] at e2;obtain⟨u',r',q⟩:=hl j y v' e1 e2 e3;refine⟨u',r',?_⟩;rcases q with q | ⟨k,c',e,z'⟩
    ·exact .inl q
    ·refine .inr ⟨k,c',e,z'.sameBut hs ?_⟩;rintro rfl;exact hj (zaX hN e1 (I.ok.inj _ _ _ e hc ▸ hi))
  ·by_cases hcc:c'=c
   ·subst hcc;exact⟨_,hc'⟩
   ·obtain⟨w2,z2⟩:=I.cell y c' e;exact⟨w2,z2.sameBut hs hcc⟩
  ·obtain⟨e,n,ne,nf,d⟩:=I.pin p hp;refine⟨(hs.2 p.1 ?_).trans e,n,ne,nf,d⟩;intro q;rw[q,hoc] at e;have q':oc=p.2:=Option.some.inj e;exact d w' (by rw[<- q'];exact hocd)
theorem zaY {M:PQ}{A:WW}{E:X9->X8->Prop}{i:Nat}{x:Str}{v:V}{u:X9}{Q:Unit->X8->Prop}(I:Inv X pins σ H s)(hN:X.N.Nodup)(hi:X.N[i]?=some x)(hx:Loc X.env.scope x)(r:RelV v u)
  (h:∀s',Inv X pins (σ.set i (some v)) H s'->Q () s') (hf:X.fn x=true\/X.env.scope.names.lookup x=some .local:=by first | exact .inl rfl | exact .inr rfl | assumption):Xo M A (storeName X.env x u) Q E s :=
 QY I hN hi hx r (fun s' I' _=>h s' I') hf
theorem Inv.call' {s':X8}{ch:List Addr}(I:Inv X pins σ H s)(ho:s'.os=s.os)(u:Un (frs X.stack) ch H H' s.heap s'.heap)(hok:HOk X.prog X.w H' s'.heap)(hg:S6 s'.gens)
  (hch:∀b∈ch,(b∈X.ex\/X.s₀.heap.objs.size<=b)/\b≠X.env.locals/\(∀x c,X.env.cells.lookup x=some c->c≠b)/\∀p∈X.pn++pins,p.1≠b):Inv X pins σ H' s':=by
 obtain⟨h',g',d',t',o'⟩:=s';have e:o'=s.os:=ho;subst e;exact I.call (g':=g') (t':=t') (d':=d') u hok hg hch
end
abbrev XK:=X9->Option Addr->Hp->Prop
abbrev St:=List (Option V)
abbrev VK:=V->Hp->Prop
abbrev TE:=St->Hp->VK->Prop
abbrev TT:=St->Hp->(Bool->Hp->Prop)->Prop
abbrev TA:=St->Hp->(List V->Hp->Prop)->Prop
structure Ends where
 nx:St->Hp->Prop
 rt:VK
 bk:St->Hp->Prop:=fun _ _=>False
 ct:St->Hp->Prop:=fun _ _=>False
abbrev TS:=Ends->St->Hp->Prop
def EP (X:Cx)(pins:List (Addr×Obj))(σ:St)(Q:VK)(u:X9)(s':X8):Prop:=∃v H',Inv X pins σ H' s'/\RelV v u/\Q v H'
def TP (X:Cx)(pins:List (Addr×Obj))(σ:St)(Q:Bool->Hp->Prop)(b:Bool)(s':X8):Prop:=∃H',Inv X pins σ H' s'/\Q b H'
def AP (X:Cx)(pins:List (Addr×Obj))(σ:St)(Q:List V->Hp->Prop)(us:List X9)(s':X8):Prop:=∃vs H',Inv X pins σ H' s'/\Vals vs us/\Q vs H'
def SP (X:Cx)(pins:List (Addr×Obj))(D:Ends)(f:Flow)(s':X8):Prop :=
 match f with
 | .next=>∃ σ' H',Inv X pins σ' H' s'/\D.nx σ' H'
 | .brk=>∃ σ' H',Inv X pins σ' H' s'/\D.bk σ' H'
 | .cont=>∃ σ' H',Inv X pins σ' H' s'/\D.ct σ' H'
 | .ret u=>∃v σ' H',Inv X pins σ' H' s'/\RelV v u/\D.rt v H'
def PE (X:Cx)(e:Expr)(t:TE):Prop :=
 ∀(pins:List (Addr×Obj)) (s:X8) (σ:St) (H:Hp) (Q:VK),Inv X pins σ H s->t σ H Q->Xo (Xr X.prog X.w) X.A (eval e X.env) (EP X pins σ Q) X.xe s
def PT (X:Cx)(e:Expr)(t:TT):Prop :=
 ∀(pins:List (Addr×Obj)) (s:X8) (σ:St) (H:Hp) (Q:Bool->Hp->Prop),Inv X pins σ H s->t σ H Q->Xo (Xr X.prog X.w) X.A (isTrue e X.env (eval e X.env)) (TP X pins σ Q) X.xe s
def PW (X:Cx)(e:Expr)(t:TT):Prop :=
 ∀(whole:Sem X9) (pins:List (Addr×Obj)) (s:X8) (σ:St) (H:Hp) (Q:Bool->Hp->Prop),Inv X pins σ H s->t σ H Q->Xo (Xr X.prog X.w) X.A (isTrue e X.env whole) (TP X pins σ Q) X.xe s
theorem PW.pt {X:Cx}{e:Expr}{t:TT}(h:PW X e t):PT X e t:=h _
def PA (X:Cx)(es:List Expr)(t:TA):Prop :=
 ∀(pos:Pos) (pins:List (Addr×Obj)) (s:X8) (σ:St) (H:Hp) (Q:List V->Hp->Prop),Inv X pins σ H s->t σ H Q->Xo (Xr X.prog X.w) X.A (spliced (SG pos (WB es X.env))) (AP X pins σ Q) X.xe s
def PS (X:Cx)(st:Stmt)(t:TS):Prop :=
 ∀(pins:List (Addr×Obj)) (s:X8) (σ:St) (H:Hp) (D:Ends),Inv X pins σ H s->t D σ H->Xo (Xr X.prog X.w) X.A (exec st X.env) (SP X pins D) X.xe s
def PSs (X:Cx)(st:List Stmt)(t:TS):Prop :=
 ∀(pins:List (Addr×Obj)) (s:X8) (σ:St) (H:Hp) (D:Ends),Inv X pins σ H s->t D σ H->Xo (Xr X.prog X.w) X.A (execs st X.env) (SP X pins D) X.xe s
theorem thn {α:Type}{t:Sem α}{Q Q':α->X8->Prop}{M:PQ}{A:WW}{E:X9->X8->Prop}{s:X8}(h:Xo M A t Q E s)(hQ:∀a s,Q a s->Q' a s):Xo M A t Q' E s:=Xa h hQ fun _ _ x=>x
section
variable {X:Cx}
def zm6 (i:Nat):TE:=fun σ H Q=>∃v,σ[i]?=some (some v)/\Q v H
def tC (v:V):TE:=fun _ H Q=>Q v H
theorem zlQ {i:Nat}{x:Str}{pos:Pos}(hN:X.N[i]?=some x)(hv:Vis X.env.scope x)(hd:(x==("__debug__":Str))=false:=by decide)(hcd:(x==("__classdict__":Str))=false:=by decide):PE X (.Name x pos) (zm6 i):=by
 intro pins s σ H Q I h;obtain⟨v,e,h⟩:=h;obtain⟨m,hn,hl⟩:=I.loc;obtain⟨u,r,l⟩:=hl i x v hN e hv;have fin:EP X pins σ Q u s:=⟨v,H,I,r,h⟩;rcases l with ⟨hk,hm⟩ | ⟨hk,c,hc,hcell⟩
 ·exact wpAny_Name (wpAny_loadName_local I.ok.kind hk hn hm fin) hd
 ·rcases hk with hk | hk
  ·exact wpAny_Name (wpAny_loadName_cell I.ok.kind hk hc hcell fin) hd
  ·exact wpAny_Name (wpAny_loadName_free I.ok.kind hk hc hcell fin hcd) hd
theorem zf {i j pos}:PE X (.Constant (.int i) j pos) (tC (.int i)):=fun _ _ _ H _ I h=>wpAny_Constant_int ⟨.int i,H,I.tok _,⟨_,rfl⟩,h⟩
theorem zci {b j pos}:PE X (.Constant (.bool b) j pos) (tC (.bl b)):=fun _ _ _ H _ I h=>Constant_bool ⟨.bl b,H,I,rfl,h⟩
theorem zfn {j pos}:PE X (.Constant .none j pos) (tC .non):=fun _ _ _ H _ I h=>Constant_none ⟨.non,H,I,rfl,h⟩
theorem yZ {x j pos}:PE X (.Constant (.str x) j pos) (tC (.str x)):=fun _ _ _ H _ I h=>Calls.Constant_str ⟨.str x,H,I.tok _,⟨_,rfl⟩,h⟩
def Gl (X:Cx)(x:Str):Prop:=X.env.kindOf x=some .globalImplicit
theorem Qg {E:X9->X8->Prop}{pins:List (Addr×Obj)}{s:X8}{σ:St}{H:Hp}{x:Str}{u:X9}{pos:Pos}{Q:X9->X8->Prop}(I:Inv X pins σ H s)(hg:Gl X x)(hm:X.mg x=some u)(h:Q u s)
  (hd:(x==("__debug__":Str))=false:=by decide):Xo (Xr X.prog X.w) X.A (eval (.Name x pos) X.env) Q E s :=
 RR I.ok.kind hg (Calls.loadGlobal_global (by rw[I.ok.glob];exact I.mod.glob.keeps I.bk) hm h) hd
theorem ZQ {E:X9->X8->Prop}{pins:List (Addr×Obj)}{s:X8}{σ:St}{H:Hp}{x:Str}{u:X9}{pos:Pos}{Q:X9->X8->Prop}(I:Inv X pins σ H s)(hg:Gl X x)(hm:X.mg x=none)(hv:TV x=some u)(h:Q u s)
  (hn:x ≠ "__name__":=by decide) (hd:(x==("__debug__":Str))=false:=by decide):Xo (Xr X.prog X.w) X.A (eval (.Name x pos) X.env) Q E s:=by
 obtain⟨mb,h1,h2⟩:=I.mod.blt;exact RR I.ok.kind hg (Calls.loadGlobal_builtin (by rw[I.ok.glob];exact I.mod.glob.keeps I.bk) hm (by rw[I.ok.blt];exact h1.keeps I.bk) ((h2 x hn).trans hv) h) hd
theorem qZ {x:Str}{v:V}{u:X9}{pos:Pos}(hg:Gl X x)(hm:X.mg x=some u)(r:RelV v u)(hd:(x==("__debug__":Str))=false:=by decide):PE X (.Name x pos) (tC v) :=
 fun _ _ _ H _ I h=>Qg I hg hm ⟨v,H,I,r,h⟩ hd
theorem zdh {x:Str}{v:V}{u:X9}{pos:Pos}(hg:Gl X x)(hm:X.mg x=none)(hv:TV x=some u)(r:RelV v u)(hn:x ≠ "__name__":=by decide)(hd:(x==("__debug__":Str))=false:=by decide):PE X (.Name x pos) (tC v) :=
 fun _ _ _ H _ I h=>ZQ I hg hm hv ⟨v,H,I,r,h⟩ hn hd
variable {a b:Expr}{ta tb:TE}{pos:Pos}
variable {tA tB':TT}{rest:List Expr}
def zn7 (t u:TT):TT:=fun σ H Q=>t σ H fun c H1=>if c=true then u σ H1 Q else Q false H1
def tOr (t u:TT):TT:=fun σ H Q=>t σ H fun c H1=>if c=true then Q true H1 else u σ H1 Q
def zn8 (t:TT):TT:=fun σ H Q=>t σ H fun c H1=>Q (!c) H1
theorem zkc (ha:PT X a tA):PW X (.BoolOp .And [a] pos) tA:=by
 intro wh pins s σ H Q I h;refine isTrue_and (thn (ha pins s σ H Q I h) fun c s1 e=>?_);cases c with
 | true=>exact isTrue_and_nil e
 | false=>exact e
theorem zil (ha:PT X a tA):PW X (.BoolOp .Or [a] pos) tA:=by
 intro wh pins s σ H Q I h;refine isTrue_or (thn (ha pins s σ H Q I h) fun c s1 e=>?_);cases c with
 | false=>exact isTrue_or_nil e
 | true=>exact e
theorem zlR (ha:PT X a tA)(hb:PW X (.BoolOp .And (b::rest) pos) tB'):PW X (.BoolOp .And (a::b::rest) pos) (zn7 tA tB'):=by
 intro wh pins s σ H Q I h;refine isTrue_and (thn (ha pins s σ H _ I h) fun c s1 ⟨H1,I1,q1⟩=>?_);cases c with
 | true=>exact hb wh pins s1 σ H1 Q I1 q1
 | false=>exact⟨H1,I1,q1⟩
theorem zlp (ha:PT X a tA)(hb:PW X (.BoolOp .Or (b::rest) pos) tB'):PW X (.BoolOp .Or (a::b::rest) pos) (tOr tA tB'):=by
 intro wh pins s σ H Q I h;refine isTrue_or (thn (ha pins s σ H _ I h) fun c s1 ⟨H1,I1,q1⟩=>?_);cases c with
 | true=>exact⟨H1,I1,q1⟩
 | false=>exact hb wh pins s1 σ H1 Q I1 q1
theorem zdi (ha:PT X a tA):PT X (.UnaryOp .Not a pos) (zn8 tA):=by
 intro pins s σ H Q I h;exact isTrue_not (ha pins s σ H (fun c H1=>Q (!c) H1) I h)
def zm7 (ta tb:TE):TE:=fun σ H Q=>ta σ H fun x H1=>∃c,x=.bl c/\if c=true then tb σ H1 Q else Q (.bl false) H1
def zm8 (ta:TE):TE:=fun σ H Q=>ta σ H fun x H1=>∃c,x=.bl c/\Q (.bl (!c)) H1
theorem zfo {op}{t:TE}(h:PE X a t):PE X (.BoolOp op [a] pos) t:=fun pins s σ H Q I hw=>BoolOp_one (h pins s σ H Q I hw)
theorem zfp (ha:PE X a ta)(hb:PE X (.BoolOp .And (b::rest) pos) tb):PE X (.BoolOp .And (a::b::rest) pos) (zm7 ta tb):=by
 intro pins s σ H Q I h;refine BoolOp_and (thn (ha pins s σ H _ I h) fun v s1 ⟨x,H1,I1,r1,q1⟩=>?_);obtain⟨c,rfl,q1⟩:=q1;cases r1;refine Vo ?_;cases c with
 | true=>exact hb pins s1 σ H1 Q I1 q1
 | false=>exact⟨.bl false,H1,I1,rfl,q1⟩
theorem zlS (ha:PE X a ta):PE X (.UnaryOp .Not a pos) (zm8 ta):=by
 intro pins s σ H Q I h;refine UnaryOp_ (thn (ha pins s σ H _ I h) fun v s1 ⟨x,H1,I1,r1,q1⟩=>?_);obtain⟨c,rfl,q1⟩:=q1;cases r1;exact not_of (Vo ⟨.bl (!c),H1,I1,rfl,q1⟩)
end
def SqL (K:X6)(H:Hp)(a:Addr)(xs:List V):Prop :=
 Rd H a (.lst xs) \/
  ∃(o:Obj) (its:Array X9) (n:Nat),K.lookup a=some o/\o.cls=.type "list"/\o.dict=none/\o.data=.seq its n/\its.size<=XC/\Vals xs its.toList
def SqT (K:X6)(H:Hp)(a:Addr)(xs:List V):Prop :=
 Rd H a (.tup xs) \/
  ∃(o:Obj) (its:Array X9) (n:Nat),K.lookup a=some o/\o.cls=.type "tuple"/\o.data=.seq its n/\its.size<=XC/\Vals xs its.toList
def zn9:X9->Option V
 | .none=>some .non
 | .bool b=>some (.bl b)
 | .int i _=>some (.int i)
 | .str x _=>some (.str x)
 | .bytes b _=>some (.byt b)
 | .float b _=>some (.flt b)
 | .ref a=>some (.ref a)
 | .type n=>some (.ty n)
 | _=>none
theorem RelV.abs {x:V}{u:X9}(r:RelV x u):zn9 u=some x:=by
 cases x with
 | non=>cases r;rfl
 | bl _=>cases r;rfl
 | int _=>obtain⟨t,rfl⟩:=r;rfl
 | str _=>obtain⟨t,rfl⟩:=r;rfl
 | byt _=>obtain⟨t,rfl⟩:=r;rfl
 | flt _=>obtain⟨t,rfl⟩:=r;rfl
 | ref _=>cases r;rfl
 | ty _=>cases r;rfl
theorem RelV.inj {x y:V}{u:X9}(r:RelV x u)(q:RelV y u):x=y:=Option.some.inj (r.abs.symm.trans q.abs)
theorem Vals.inj:∀{xs ys:List V} {us:List X9},Vals xs us->Vals ys us->xs=ys
 | _,_,_,.nil,.nil=>rfl
 | _,_,_,.cons r t,.cons r' t'=>by rw[r.inj r',Vals.inj t t']
section
variable {X:Cx}{pins:List (Addr×Obj)}{σ:St}{H:Hp}{s:X8}{a:Addr}{xs ys:List V}
theorem SqL.of {K:X6}(h:H a=some (.lst xs)):SqL K H a xs:=.inl (.inl h)
theorem SqT.of {K:X6}(h:H a=some (.tup xs)):SqT K H a xs:=.inl (.inl h)
theorem Inv.list (I:Inv X pins σ H s)(h:SqL X.K H a xs):∃its:List X9,Vals xs its/\PlainL s.heap a its.toArray/\xs.length<=XC:=by
 rcases h with h | ⟨o,its,n,hk,hc,hd,hs,hz,r⟩
 ·obtain⟨z,its,n,r,e⟩:=h.ok I.hok;exact⟨its,r,⟨_,n,e,rfl,rfl,rfl⟩,z⟩
 ·refine⟨its.toList,r,⟨o,n,I.kIn a o hk,hc,hd,by simpa using hs⟩,?_⟩;have e:=r.length;simp only[X5] at e;lia
theorem Inv.tuple (I:Inv X pins σ H s)(h:SqT X.K H a xs):∃its:List X9,Vals xs its/\Ox s.heap a its.toArray/\xs.length<=XC:=by
 rcases h with h | ⟨o,its,n,hk,hc,hs,hz,r⟩
 ·obtain⟨z,its,r,p⟩:=h.ok I.hok;exact⟨its,r,p,z⟩
 ·refine⟨its.toList,r,⟨o,I.kIn a o hk,hc,n,by simpa using hs⟩,?_⟩;have e:=r.length;simp only[X5] at e;lia
theorem Inv.list_inj (I:Inv X pins σ H s)(h:SqL X.K H a xs)(h':SqL X.K H a ys):xs=ys:=by
 obtain⟨its,r,⟨o,n,e,_,_,d⟩,_⟩:=I.list h;obtain⟨its',r',⟨o',n',e',_,_,d'⟩,_⟩:=I.list h';rw[e] at e';cases e';rw[d] at d';injection d' with d1 _
 have:its=its':=by simpa using congrArg Array.toList d1
 subst this;exact r.inj r'
end
abbrev Cx.wish (X:Cx)(E:X9->X8->Prop):Cx:={ X with xe:=E }
abbrev Cx.nox (X:Cx):Cx:=X.wish fun _ _=>False
theorem Cx.Ok.wish {X:Cx}(ok:X.Ok)(E:X9->X8->Prop):(X.wish E).Ok :=
 ⟨ok.mod,ok.kind,ok.glob,ok.blt,ok.above,ok.inj,ok.has,ok.cab,ok.hd,ok.frames,ok.stk,ok.exf,ok.bs,ok.bsz,ok.noex,ok.exfs,ok.funs,ok.frf⟩
theorem Cx.Ok.unwish {X:Cx}{E:X9->X8->Prop}(ok:(X.wish E).Ok):X.Ok :=
 ⟨ok.mod,ok.kind,ok.glob,ok.blt,ok.above,ok.inj,ok.has,ok.cab,ok.hd,ok.frames,ok.stk,ok.exf,ok.bs,ok.bsz,ok.noex,ok.exfs,ok.funs,ok.frf⟩
section
variable {X:Cx}{pins:List (Addr×Obj)}{σ:St}{H:Hp}{s:X8}{E:X9->X8->Prop}
theorem Inv.wish (I:Inv X pins σ H s)(E:X9->X8->Prop):Inv (X.wish E) pins σ H s:=⟨I.ok.wish E,I.os,I.bare,I.base,I.loc,I.cell,I.free,I.freeC,I.pin,I.hok,I.len⟩
theorem Inv.unwish (I:Inv (X.wish E) pins σ H s):Inv X pins σ H s:=⟨I.ok.unwish,I.os,I.bare,I.base,I.loc,I.cell,I.free,I.freeC,I.pin,I.hok,I.len⟩
theorem SP.unwish {D:Ends}{f:Flow}{s':X8}(h:SP (X.wish E) pins D f s'):SP X pins D f s':=by
 cases f with
 | next=>obtain⟨σ',H',I,q⟩:=h;exact⟨σ',H',I.unwish,q⟩
 | brk=>obtain⟨σ',H',I,q⟩:=h;exact⟨σ',H',I.unwish,q⟩
 | cont=>obtain⟨σ',H',I,q⟩:=h;exact⟨σ',H',I.unwish,q⟩
 | ret u=>obtain⟨v,σ',H',I,r,q⟩:=h;exact⟨v,σ',H',I.unwish,r,q⟩
theorem PSs.nox {st:List Stmt}{t:TS}(h:PSs X.nox st t):PSs X st t:=fun pins s σ H D I hw =>
 Xa (h pins s σ H D (I.wish _) hw) (fun _ _ q=>q.unwish) fun _ _ z=>Wn z
end
section
variable {X:Cx}{st:Stmt}{rest:List Stmt}{t u:TS}{e:Expr}{te:TE}{pos:Pos}
def zm9:TS:=fun D σ H=>D.nx σ H
def zoa (t u:TS):TS:=fun D σ H=>t { D with nx:=u D } σ H
theorem qt:PSs X [] zm9:=fun _ _ σ H _ I h=>Sm ⟨σ,H,I,h⟩
theorem ze (h1:PS X st t)(h2:PSs X rest u):PSs X (st::rest) (zoa t u):=by
 intro pins s σ H D I h;refine Ri (thn (h1 pins s σ H { D with nx:=u D } I h) fun f s1 q=>?_);cases f with
 | next =>
  obtain⟨σ',H',I',q⟩:=q;exact h2 pins s1 σ' H' D I' q
 | ret v=>exact q
 | brk=>exact q
 | cont=>exact q
theorem zg (h1:PS X st t):PSs X [st] t:=by
 intro pins s σ H D I h;refine Ri (thn (h1 pins s σ H D I h) fun f s1 q=>?_);cases f with
 | next=>exact Sm q
 | ret v=>exact q
 | brk=>exact q
 | cont=>exact q
theorem Inv.quiet {pins:List (Addr×Obj)}{σ:St}{H:Hp}{s:X8}(I:Inv X pins σ H s):interactive X.env=false:=by simp[interactive,I.ok.kind]
def zna (te:TE):TS:=fun D σ H=>te σ H fun _ H1=>D.nx σ H1
theorem xD (he:PE X e te)(hs:O6 e none pos.line X.env=pure false:=by rfl):PS X (.Expr e pos) (zna te):=by
 intro pins s σ H D I h;exact wpAny_Expr_any (thn (he pins s σ H _ I h) fun v s1 ⟨x,H1,I1,r1,q1⟩=>⟨σ,H1,I1,q1⟩) I.quiet hs
def zob (te:TE):TS:=fun D σ H=>te σ H D.rt
theorem zH (he:PE X e te):PS X (.Return (some e) pos) (zob te):=by
 intro pins s σ H D I h;exact wpAny_Return_some (thn (he pins s σ H _ I h) fun v s1 ⟨x,H1,I1,r1,q1⟩=>⟨x,σ,H1,I1,r1,q1⟩)
def zoc (c:TT)(t u:TS):TS:=fun D σ H=>c σ H fun b H1=>if b=true then t D σ H1 else u D σ H1
theorem jt {c:Expr}{a b:List Stmt}{tc:TT}(hc:PT X c tc)(ha:PSs X a t)(hb:PSs X b u):PS X (.If c a b pos) (zoc tc t u):=by
 intro pins s σ H D I h;refine wpAny_If (thn (hc pins s σ H _ I h) fun d s1 ⟨H1,I1,q1⟩=>?_);cases d with
 | true=>exact ha pins s1 σ H1 D I1 q1
 | false=>exact hb pins s1 σ H1 D I1 q1
end
abbrev TG:=V->St->Hp->(St->Hp->Prop)->Prop
abbrev TGs:=List V->St->Hp->(St->Hp->Prop)->Prop
def PG (X:Cx)(target:Expr)(t:TG):Prop :=
 ∀(pins:List (Addr×Obj)) (s:X8) (σ:St) (H:Hp) (v:V) (u:X9) (Q:St->Hp->Prop),Inv X pins σ H s->RelV v u->t v σ H Q ->
  Xo (Xr X.prog X.w) X.A (Pu target X.env u) (fun _ s'=>∃ σ' H',Inv X pins σ' H' s'/\Q σ' H') X.xe s
def PGs (X:Cx)(ts:List Expr)(t:TGs):Prop :=
 ∀(pins:List (Addr×Obj)) (s:X8) (σ:St) (H:Hp) (vs:List V) (us:List X9) (Q:St->Hp->Prop),Inv X pins σ H s->Vals vs us->t vs σ H Q ->
  Xo (Xr X.prog X.w) X.A (assignInOrder ((Tj ts X.env).map (·.2)) us) (fun _ s'=>∃ σ' H',Inv X pins σ' H' s'/\Q σ' H') X.xe s
abbrev zim:=V->V->V->Hp->(Hp->Prop)->Prop
def zlT (X:Cx)(t:zim):Prop :=
 ∀(pins:List (Addr×Obj)) (s:X8) (σ:St) (H:Hp) (o i v:V) (ov iv u:X9) (Q:Hp->Prop),Inv X pins σ H s->RelV o ov->RelV i iv->RelV v u->t o i v H Q ->
  Xo (Xr X.prog X.w) X.A (setItem ov iv u) (fun _ s'=>∃H',Inv X pins σ H' s'/\Q H') X.xe s
abbrev TIp:=V->V->Hp->VK->Prop
def PIp (X:Cx)(op:Operator)(t:TIp):Prop :=
 ∀(pins:List (Addr×Obj)) (s:X8) (σ:St) (H:Hp) (x y:V) (v u:X9) (Q:VK),Inv X pins σ H s->RelV x v->RelV y u->t x y H Q ->
  Xo (Xr X.prog X.w) X.A (inplaceOp op v u) (EP X pins σ Q) X.xe s
section
variable {X:Cx}{pos:Pos}
def ZR (i:Nat):TG:=fun v σ H Q=>Q (σ.set i (some v)) H
theorem zm {i:Nat}{x:Str}(hN:X.N.Nodup)(hi:X.N[i]?=some x)(hx:Loc X.env.scope x)(hf:X.fn x=true\/X.env.scope.names.lookup x=some .local:=by first | exact .inl rfl | exact .inr rfl | assumption):PG X (.Name x pos) (ZR i):=by
 intro pins s σ H v u Q I r h;exact RE (zaY I hN hi hx r (fun s' I'=>⟨_,H,I',h⟩) hf)
def zod:TGs:=fun vs σ H Q=>vs=[]/\Q σ H
def znb (t:TG)(u:TGs):TGs:=fun vs σ H Q=>∃v r,vs=v::r/\t v σ H fun σ' H'=>u r σ' H' Q
theorem ja:PGs X [] zod:=by
 intro pins s σ H vs us Q I r h;obtain⟨e,h⟩:=h;subst e;cases r;exact assignInOrder_nil ⟨σ,H,I,h⟩
theorem zI {e:Expr}{es:List Expr}{t:TG}{u:TGs}(h1:PG X e t)(h2:PGs X es u)
  (hs:(Tj (e::es) X.env).map (·.2)=Pu e X.env::(Tj es X.env).map (·.2):=by rfl):PGs X (e::es) (znb t u):=by
 intro pins s σ H vs us Q I r h;obtain⟨v,vr,e1,h⟩:=h;subst e1;cases r with
 | cons r rr =>
  rw[hs];refine assignInOrder_cons (thn (h1 pins s σ H _ _ _ I r h) fun _ s1 ⟨σ1,H1,I1,q1⟩=>?_);exact h2 pins s1 σ1 H1 _ _ Q I1 rr q1
def znc (K:X6)(n:Nat)(t:TGs):TG:=fun v σ H Q=>∃a xs,v=.ref a/\SqT K H a xs/\xs.length=n/\t xs σ H Q
theorem yq {es:List Expr}{k:Nat}{t:TGs}{n:Nat}(hc:X.calm=true)(h:PGs X es t)
  (hn:(Tj es X.env).length=n:=by rfl) (hst:(Tj es X.env).findIdx? (·.1)=none:=by rfl):PG X (.Tuple es k pos) (znc X.K n t):=by
 intro pins s σ H v u Q I r hw;obtain⟨a,xs,e1,hq,hl,hw⟩:=hw;subst e1;cases r;obtain⟨its,rv,ht,hz⟩:=I.tuple hq;refine assign_Tuple_tuple (I.ok.hd hc) ht (by simp[hn,<- hl,rv.length]) hst fun h' hx=>?_;have I1:Inv X pins σ H { s with heap:=h' }:=I.kept (t':=s.toks) fun b o e=>hx b o (XA (XQ e)) e;exact h pins _ σ H xs _ Q I1 (by simpa using rv) hw
def zoe (to ti:TE)(t:zim):TG:=fun v σ H Q=>to σ H fun o H1=>ti σ H1 fun i H2=>t o i v H2 fun H3=>Q σ H3
theorem zlU {o i:Expr}{to ti:TE}{t:zim}(ho:PE X o to)(hi:PE X i ti)(hs:zlT X t)
  (ha:∀v,Pu (.Subscript o i pos) X.env v=(do
   let ov <- OR [v] (eval o X.env)
   let iv <- OR [v,ov] (eval i X.env)
   standAt pos
   OR [v,ov,iv] (setItem ov iv v)
   release [v,ov,iv] []):=by intro _;rfl):PG X (.Subscript o i pos) (zoe to ti t):=by
 intro pins s σ H v u Q I r h;rw[ha];refine ZB (WN (thn (ho pins s σ H _ I h) fun ov s1 ⟨x,H1,I1,r1,q1⟩=>?_));refine ZB (WN (thn (hi pins s1 σ H1 _ I1 q1) fun iv s2 ⟨y,H2,I2,r2,q2⟩=>?_));refine ZB (V6 (ZB (WN (thn (hs pins s2 σ H2 x y v ov iv u _ I2 r1 r2 r q2) fun _ s3 ⟨H3,I3,q3⟩=>?_))));exact wpAny_release ⟨σ,H3,I3,q3⟩
def zkd (te:TE)(g:TG):TS:=fun D σ H=>te σ H fun x H1=>g x σ H1 D.nx
theorem zfq {tg e:Expr}{te:TE}{g:TG}(he:PE X e te)(hg:PG X tg g)(hs:swapsWithSole [tg] e pos.line X.env=pure false:=by rfl)(hw:swappedStores [tg] e X.env=pure none:=by rfl)
  (h1:(Tj [tg] X.env).map (·.2)=[Pu tg X.env]:=by rfl):PS X (.Assign [tg] e pos) (zkd te g):=by
 intro pins s σ H D I h;refine wpAny_Assign_stores (thn (he pins s σ H _ I h) fun v s1 ⟨x,H1,I1,r1,q1⟩=>?_) hs hw;rw[h1];exact thn (hg pins s1 σ H1 x v _ I1 r1 q1) fun _ s2 q=>q
theorem zC {i:Nat}{x:Str}{e:Expr}{te:TE}{pos':Pos}(hN:X.N.Nodup)(hi:X.N[i]?=some x)(hx:Loc X.env.scope x)(he:PE X e te)(hs:O6 e (some (.Name x pos')) pos.line X.env=pure false:=by rfl)(hf:X.fn x=true\/X.env.scope.names.lookup x=some .local:=by first | exact .inl rfl | exact .inr rfl | assumption) :
  PS X (.Assign [.Name x pos'] e pos) (zkd te (ZR i)):=by
 intro pins s σ H D I h;refine wpAny_Assign_Name (thn (he pins s σ H _ I h) fun v s1 ⟨y,H1,I1,r1,q1⟩=>?_) hs;exact zaY I1 hN hi hx r1 (fun s2 I2=>⟨_,H1,I2,q1⟩) hf
def znd (to ti te:TE)(tget:V->V->Hp->VK->Prop)(tip:TIp)(tset:zim):TS:=fun D σ H=>to σ H fun o H1=>ti σ H1 fun i H2=>tget o i H2 fun x H3=>te σ H3 fun y H4=>tip x y H4 fun z H5=>tset o i z H5 fun H6=>D.nx σ H6
def zne (X:Cx)(t:V->V->Hp->VK->Prop):Prop :=
 ∀(pins:List (Addr×Obj)) (s:X8) (σ:St) (H:Hp) (o i:V) (ov iv:X9) (Q:VK),Inv X pins σ H s->RelV o ov->RelV i iv->t o i H Q ->
  Xo (Xr X.prog X.w) X.A (Pb ov iv) (EP X pins σ Q) X.xe s
theorem zgy {o i e:Expr}{to ti te:TE}{tget:V->V->Hp->VK->Prop}{tip:TIp}{tset:zim}{op:Operator}{tpos:Pos}(ho:PE X o to)(hi:PE X i ti)(hg:zne X tget)(he:PE X e te)(hp:PIp X op tip)(hs:zlT X tset)
  (ha:∀ov iv new,augStore i ov iv new=(do OR [new,ov,iv] (setItem ov iv new);release [new,ov,iv] [];pure .next):=by intros;rfl):PS X (.AugAssign (.Subscript o i tpos) op e pos) (znd to ti te tget tip tset):=by
 intro pins s σ H D I h;refine wpAny_AugAssign_SubscriptAny (thn (ho pins s σ H _ I h) fun ov s1 ⟨x1,H1,I1,r1,q1⟩=>?_) ha;refine thn (hi pins s1 σ H1 _ I1 q1) fun iv s2 ⟨x2,H2,I2,r2,q2⟩=>?_;refine thn (hg pins s2 σ H2 x1 x2 ov iv _ I2 r1 r2 q2) fun old s3 ⟨x3,H3,I3,r3,q3⟩=>?_;refine thn (he pins s3 σ H3 _ I3 q3) fun v s4 ⟨x4,H4,I4,r4,q4⟩=>?_;refine thn (hp pins s4 σ H4 x3 x4 old v _ I4 r3 r4 q4) fun new s5 ⟨x5,H5,I5,r5,q5⟩=>?_;exact thn (hs pins s5 σ H5 x1 x2 x5 ov iv new _ I5 r1 r2 r5 q5) fun _ s6 ⟨H6,I6,q6⟩=>⟨σ,H6,I6,q6⟩
def ipI (f:Int->Int->Int):TIp:=fun x y H Q=>∃i j,x=.int i/\y=.int j/\Q (.int (f i j)) H
theorem zin:PIp X .Add (ipI fun i j=>i+j):=by
 intro pins s σ H x y v u Q I r1 r2 h;obtain⟨i,j,e1,e2,q⟩:=h;subst e1;subst e2;obtain⟨t,rfl⟩:=r1;obtain⟨t',rfl⟩:=r2;exact iadd_int ⟨.int _,H,I.tok _,⟨_,rfl⟩,q⟩
end
section
variable {X:Cx}{pos:Pos}
end
structure It where
 go:Nat->Hp->Prop
 yld:Nat->Hp->V->Hp->Prop
 stop:Nat->Hp->Prop
def ZS (X:Cx)(pins:List (Addr×Obj))(H:Hp)(b:Addr):Prop :=
 H b=none/\b≠X.env.locals/\b ∉ X.fs/\(b∈X.ex\/X.s₀.heap.objs.size<=b)/\(∀x c,X.env.cells.lookup x=some c->c≠b)/\∀p∈X.pn++pins,p.1≠b
theorem Inv.fpOk {X:Cx}{pins:List (Addr×Obj)}{σ:St}{H H':Hp}{s:X8}{b:Addr}(I:Inv X pins σ H s)(hb:s.heap.objs.size<=b)(hn:H' b=none):ZS X pins H' b:=by
 refine⟨hn,Uq (XE I.lt hb),I.nofs hb,.inr (XV I.sz hb),fun x c e z=>?_,fun p hp z=>?_⟩
 ·obtain⟨v,q⟩:=I.cell x c e;exact absurd (XE q.lt (by rw[z];exact hb)) (Wq _)
 ·exact absurd (XE (XQ (I.pin p hp).1) (by rw[z];exact hb)) (Wq _)
structure Turn (P:Xl)(w:W3)(K:X6)(tg:Expr)(J:It)(fp:List Addr)(it:Addr)(tn:Nat->Heap->Prop):Prop where
 mem:it∈fp
 obj:∀i h,tn i h->∀b∈fp,∃o,h.get? b=some o/\∀v,o.data ≠ .cell v
 keep:∀i h h',tn i h->(∀b∈fp,∀o,h.get? b=some o->h'.get? b=some o)->tn i h'
 item:∀(X:Cx),X.prog=P->X.w=w->X.K=K->X.calm=true->∀(i:Nat) (pins:List (Addr×Obj)) (s:X8) (σ:St) (H:Hp) (E:X9->X8->Prop),Inv X pins σ H s->(∀b∈fp,ZS X pins H b)->tn i s.heap->J.go i H ->
  Xo (Xr P w) X.A (R4 (.ref it)) (fun r s1=>∃u,r=some u /\
   Xo (Xr P w) X.A (Sl tg (.ref it) u) (fun _ s2=>∃x H',Inv X pins σ H' s2/\RelV x u/\J.yld i H x H'/\tn (i+1) s2.heap/\∀b∈fp,H' b=none) E s1) E s
 done:∀(X:Cx),X.prog=P->X.w=w->X.K=K->X.calm=true->∀(i:Nat) (pins:List (Addr×Obj)) (s:X8) (σ:St) (H:Hp) (E:X9->X8->Prop),Inv X pins σ H s->(∀b∈fp,ZS X pins H b)->tn i s.heap->J.stop i H ->
  Xo (Xr P w) X.A (R4 (.ref it)) (fun r s1=>r=none/\Inv X pins σ H s1) E s
 self:∀(A:WW) (i:Nat) (s:X8) (Q:X9->X8->Prop) (E:X9->X8->Prop),tn i s.heap->Q (.ref it) s->Xo (Xr P w) A (OE (.ref it)) Q E s
abbrev TI:=St->Hp->(It->Hp->Prop)->Prop
def PIE (X:Cx)(pins:List (Addr×Obj))(σ:St)(tg:Expr)(R:It->Hp->Prop)(itv:X9)(s2:X8):Prop :=
 ∃(it:Addr) (fp:List Addr) (tn:Nat->Heap->Prop) (J:It) (H':Hp),itv=.ref it/\Inv X pins σ H' s2/\Turn X.prog X.w X.K tg J fp it tn/\tn 0 s2.heap/\(∀b∈fp,ZS X pins H' b)/\R J H'
def PI (X:Cx)(tg iter:Expr)(wi:TI):Prop :=
 ∀(pins:List (Addr×Obj)) (s:X8) (σ:St) (H:Hp) (R:It->Hp->Prop),Inv X pins σ H s->wi σ H R ->
  Xo (Xr X.prog X.w) X.A (eval iter X.env) (fun v s1=>Xo (Xr X.prog X.w) X.A (OE v) (PIE X pins σ tg R) X.xe s1) X.xe s
theorem zlq {M:PQ}{A:WW}{E:X9->X8->Prop}{s:X8}{tg:Expr}{it:Addr}{u:X9}{o:Obj}{n:String}{vs:Array X9}{Q:Unit->X8->Prop}(ho:s.heap.get? it=some o)(hc:o.cls=.type n)(hd:o.data=.fields vs)
    (hn:["enumerate","zip","dict_itemiterator","dict_reverseitemiterator","odict_iterator","itertools.zip_longest","itertools.pairwise"].contains n=false) (hQ:Q () s):Xo M A (Sl tg (.ref it) u) Q E s:=by
  unfold Sl;cases tg<;>first
    | exact XY hQ
    | (cases u<;>first
        | exact XY hQ
        | (refine ZB (wpAny_load ho ?_)
           rw[hc,hd]
           show Xo M A (if (["enumerate","zip","dict_itemiterator","dict_reverseitemiterator","odict_iterator","itertools.zip_longest","itertools.pairwise"].contains n&&vs[0]?==some (Ut _))=true then _ else _) Q E s
           rw[if_neg (by intro h;rw[hn,Vp] at h;cases h)]
           exact XY hQ))
def Itl (K:X6)(a:Addr):It :=
 ⟨fun i H=>∃xs x,SqL K H a xs/\xs[i]?=some x,fun i H x H'=>H'=H/\∀xs,SqL K H a xs->xs[i]?=some x,fun i H=>∃xs,SqL K H a xs/\xs.length<=i⟩
def Itr (lo:Int)(n:Nat):It:=⟨fun i _=>i<n,fun i H x H'=>H'=H/\x=.int (lo+i),fun i _=>n<=i⟩
theorem zhk {P:Xl}{w:W3}{K:X6}{tg:Expr}(a it:Addr):Turn P w K tg (Itl K a) [it] it (fun i h=>h.IsListIter it a i) where
 mem:=by simp
 obj:=fun i h st b hb=>by
  have e:b=it:=by simpa using hb
  subst e;obtain⟨o,e,c,d⟩:=st;exact⟨o,e,fun v z=>by rw[d] at z;cases z⟩
 keep:=fun i h h' st k=>st.at fun o e=>k it (by simp) o e
 item:=by
  intro X hP hw hK hc i pins s σ H E I hf st hg;subst hP hw hK;obtain⟨xs,x,hq,hx⟩:=hg;obtain⟨its,rv,p,hz⟩:=I.list hq;obtain⟨u,hu,ru⟩:=rv.get hx;obtain⟨f0,f1,f2,f3,f4,f5⟩:=hf it (by simp);refine wpAny_pyNext_list_item st p.isList (x:=u) (by simpa using hu) fun h' st' sb=>?_;have I1:Inv X pins σ H { s with heap:=h' }:=I.turned (t':=s.toks) (fun b o hb e=>(sb.2 b hb).trans e) f0 f1 f3 f4 f5;obtain⟨o,e,c,d⟩:=id st';exact⟨u,rfl,zlq (s:={ s with heap:=h' }) e c d (by decide) ⟨x,H,I1,ru,⟨rfl,fun ys hy=>by rw[I.list_inj hy hq];exact hx⟩,st',fun b hb=>(hf b hb).1⟩⟩
 done:=by
  intro X hP hw hK hc i pins s σ H E I hf st hg;subst hP hw hK;obtain⟨xs,hq,hx⟩:=hg;obtain⟨its,rv,p,hz⟩:=I.list hq;obtain⟨f0,f1,f2,f3,f4,f5⟩:=hf it (by simp);have hl:=rv.length;exact wpAny_pyNext_list_end (I.ok.hd hc) st p.isList (by simp;lia) fun h' eb=>⟨rfl,I.turned (t':=s.toks) (fun b o hb e=>eb b o hb e) f0 f1 f3 f4 f5⟩
 self:=fun _ _ _ _ _ st h=>wpAny_pyIter_listiter st h
theorem zfr {P:Xl}{w:W3}{K:X6}{tg:Expr}(it:Addr)(lo:Int)(n:Nat):Turn P w K tg (Itr lo n) [it] it (fun i h=>IsRangeIter h it (lo+(i:Nat)*1) ((n:Int)-(i:Nat)) 1) where
 mem:=by simp
 obj:=fun i h st b hb=>by
  have e:b=it:=by simpa using hb
  subst e;exact⟨_,st,fun v z=>by
   have z':Data.fields _=Data.cell v:=z;cases z'⟩
 keep:=fun i h h' st k=>k it (by simp) _ st
 item:=by
  intro X hP hw hK hc i pins s σ H E I hf st hg;subst hP hw hK;obtain⟨f0,f1,f2,f3,f4,f5⟩:=hf it (by simp);have W:=Walks.range (prog:=X.prog) (w:=X.w) (I.ok.hd hc) it lo 1 n;refine W.item i s _ _ hg st fun v h' tk hv st' kk=>?_;obtain⟨t,rfl⟩:=hv;have I1:Inv X pins σ H { s with heap:=h',toks:=tk }:=I.turned (fun b o hb e=>kk b o (by simpa using hb) e) f0 f1 f3 f4 f5;refine⟨_,rfl,zlq (s:={ s with heap:=h',toks:=tk }) (n:="range_iterator") st' rfl rfl (by decide) ⟨.int (lo+i),H,I1,⟨t,?_⟩,⟨rfl,rfl⟩,st',fun b hb=>(hf b hb).1⟩⟩;rw[Int.mul_one]
 done:=by
  intro X hP hw hK hc i pins s σ H E I hf st hg;subst hP hw hK;obtain⟨f0,f1,f2,f3,f4,f5⟩:=hf it (by simp);exact wpAny_pyNext_range_end (I.ok.hd hc) st (by have:n<=i:=hg;lia) fun h' eb=>⟨rfl,I.turned (t':=s.toks) (fun b o hb e=>eb b o hb e) f0 f1 f3 f4 f5⟩
 self:=fun _ _ _ _ _ st h=>wpAny_pyIter_rangeiter st h
section
variable {X:Cx}{tg:Expr}
def zlr (K:X6)(tl:TE):TI:=fun σ H R=>tl σ H fun x H1=>∃a,x=.ref a/\(∃xs,SqL K H1 a xs)/\R (Itl K a) H1
theorem zM {l:Expr}{tl:TE}(hl:PE X l tl):PI X tg l (zlr X.K tl):=by
 intro pins s σ H R I h;refine thn (hl pins s σ H _ I h) fun v s1 ⟨x,H1,I1,r1,q1⟩=>?_;obtain⟨a,e,⟨xs,hq⟩,q⟩:=q1;subst e;cases r1;obtain⟨its,rv,p,hz⟩:=I1.list hq;refine SV p.isList ?_;refine⟨s1.heap.objs.size,[s1.heap.objs.size],_,_,H1,rfl,I1.kept (t':=s1.toks) fun b o e=>X7 _ e,zhk a _,⟨_,Xb _ rfl,rfl,rfl⟩,fun b hb=>?_,q⟩;have e:b=s1.heap.objs.size:=by simpa using hb
 subst e;exact I1.fpOk (XW _) (I1.hok.fresh (XW _))
theorem zd1 {pins:List (Addr×Obj)}{σ:St}{H:Hp}{s:X8}{R:It->Hp->Prop}{E:X9->X8->Prop}{lo hi:Int}{t u v:Tok}{tk:Nat}(I:Inv X pins σ H s)(h1:-(2^62)<=lo)(h2:lo<2^62)(h3:-(2^62)<=hi)(h4:hi<2^62)
  (q:R (Itr lo (hi-lo).toNat) H):Xo (Xr X.prog X.w) X.A (OE (.ref s.heap.objs.size)) (PIE X pins σ tg R) E { s with heap:=s.heap.push { cls:=.type "range",data:=.fields #[.int lo t,.int hi u,.int 1 v] },toks:=tk }:=by
 refine wpAny_pyIter_range (IsRange.new ..) (small_one h1 h2 h3 h4) ?_;have I1:Inv X pins σ H { s with heap:=s.heap.push { cls:=.type "range",data:=.fields #[.int lo t,.int hi u,.int 1 v] },toks:=tk }:=I.kept fun b o e=>X7 _ e;refine⟨(s.heap.push { cls:=.type "range",data:=.fields #[.int lo t,.int hi u,.int 1 v] }).objs.size,[(s.heap.push { cls:=.type "range",data:=.fields #[.int lo t,.int hi u,.int 1 v] }).objs.size],_,_,H,rfl,
  I1.kept (t':=tk) fun b o e=>X7 _ e,zfr _ lo (hi-lo).toNat,?_,fun b hb=>?_,q⟩
 ·have e1:lo+((0:Nat):Int)*1=lo:=by simp
  have e2:(((hi-lo).toNat:Nat):Int)-((0:Nat):Int)=Builtin.Range.rangeSize lo hi 1:=by rw[rangeSize_one];split<;>lia
  show IsRangeIter _ _ (lo+((0:Nat):Int)*1) ((((hi-lo).toNat:Nat):Int)-((0:Nat):Int)) 1;rw[e1,e2];exact Xb _ rfl
 ·have e:b=(s.heap.push { cls:=.type "range",data:=.fields #[.int lo t,.int hi u,.int 1 v] }).objs.size:=by simpa using hb
  subst e;exact I1.fpOk (XW _) (I1.hok.fresh (XW _))
def znf (ta:TA):TI:=fun σ H R=>ta σ H fun vs H1=>∃j:Int,vs=[.int j]/\-(2^62)<=j/\j<2^62/\R (Itr 0 j.toNat) H1
def zng (ta:TA):TI:=fun σ H R=>ta σ H fun vs H1=>∃i j:Int,vs=[.int i,.int j]/\(-(2^62)<=i/\i<2^62/\-(2^62)<=j/\j<2^62)/\R (Itr i (j-i).toNat) H1
theorem yr {a:Expr}{ta:TA}{p pos:Pos}(hg:Gl X "range")(hm:X.mg "range"=none)(ha:PA X [a] ta)(hs:WB [a] X.env=[(false,eval a X.env)]:=by rfl):PI X tg (.Call (.Name "range" p) [a] [] pos) (znf ta):=by
 intro pins s σ H R I h;refine Call_ (ZQ I hg hm boot_range (VJ (thn (ha pos pins s σ H _ I h) fun us s1 ⟨vs,H1,I1,r1,q1⟩=>?_) hs rfl));obtain⟨j,e,q1,q2,q⟩:=q1;subst e;cases r1 with
 | cons r rr =>
  cases rr;obtain⟨t,rfl⟩:=r;exact call_range_1 (zd1 I1 (by lia) (by lia) q1 q2 (by simpa using q))
theorem zcj {a b:Expr}{ta:TA}{p pos:Pos}(hg:Gl X "range")(hm:X.mg "range"=none)(ha:PA X [a,b] ta)(hs:WB [a,b] X.env=[(false,eval a X.env),(false,eval b X.env)]:=by rfl)(hs2:WB [b] X.env=[(false,eval b X.env)]:=by rfl) :
  PI X tg (.Call (.Name "range" p) [a,b] [] pos) (zng ta):=by
 intro pins s σ H R I h;refine Call_ (ZQ I hg hm boot_range (VJ (thn (ha pos pins s σ H _ I h) fun us s1 ⟨vs,H1,I1,r1,q1⟩=>?_) (by rw[hs,hs2]) (by rw[hs2];rfl)));obtain⟨i,j,e,⟨q1,q2,q3,q4⟩,q⟩:=q1;subst e;cases r1 with
 | cons r rr =>
  cases rr with
  | cons r' rr =>
   cases rr;obtain⟨t,rfl⟩:=r;obtain⟨t',rfl⟩:=r';exact call_range_2 (zd1 I1 q1 q2 q3 q4 q)
def zof (wi:TI)(g:TG)(tb:TS):TS:=fun D σ H=>wi σ H fun J H1=>∃W:Nat->Nat->St->Hp->Prop,(∃m,W 0 m σ H1)/\∀i m σ H,W i m σ H ->
 (J.stop i H/\D.nx σ H)\/(J.go i H/\∃N:St->Hp->Prop,(∀ σ' H',N σ' H'->∃m',m'<m/\W (i+1) m' σ' H')/\∀x H',J.yld i H x H'->g x σ H' fun σ2 H2=>tb { D with nx:=N,ct:=N,bk:=D.nx } σ2 H2)
def Zm (fp:List Addr)(h:Heap):List (Addr×Obj):=fp.filterMap fun b=>(h.get? b).map fun o=>(b,o)
theorem qu {fp:List Addr}{h:Heap}{b:Addr}{o:Obj}(hb:b∈fp)(e:h.get? b=some o):(b,o)∈Zm fp h:=Vd.mpr ⟨b,hb,by rw[e];rfl⟩
theorem zhl {fp:List Addr}{h:Heap}{p:Addr×Obj}(hp:p∈Zm fp h):p.1∈fp/\h.get? p.1=some p.2:=by
 obtain⟨b,hb,e⟩:=Vd.mp hp;cases q:h.get? b with
 | none=>rw[q] at e;cases e
 | some o =>
  rw[q] at e;have e':(b,o)=p:=Option.some.inj e;subst e';exact⟨hb,q⟩
theorem Inv.pinned {pins:List (Addr×Obj)}{σ:St}{H:Hp}{s:X8}{fp:List Addr}(I:Inv X pins σ H s)(hf:∀b∈fp,ZS X pins H b)(ho:∀b∈fp,∃o,s.heap.get? b=some o/\∀v,o.data ≠ .cell v):Inv X (pins++Zm fp s.heap) σ H s :=
 I.pins_of fun p hp=>(XI.mp hp).elim (fun z=>I.pin p (XJ _ z)) fun z=>by
  obtain⟨hb,e⟩:=zhl z;obtain⟨f0,f1,f2,_⟩:=hf p.1 hb;obtain⟨o,e',d⟩:=ho p.1 hb;rw[e] at e';cases e';exact⟨e,f0,f1,f2,d⟩
theorem Inv.unpinned {pins pl:List (Addr×Obj)}{σ:St}{H:Hp}{s:X8}(I:Inv X (pins++pl) σ H s):Inv X pins σ H s:=I.pins_of fun p hp=>I.pin p (XJ _ (Xd _ hp))
theorem qy {iter:Expr}{body:List Stmt}{wi:TI}{g:TG}{tb:TS}{pos:Pos}(hp:PassesOwn (Xr X.prog X.w) X.A X.env X.xe)(hc:X.calm=true)(hi:PI X tg iter wi)(hg:PG X tg g)(hb:PSs X body tb)
  (hs:∀x,Vn iter X.env x=pure x:=by intro _;rfl):PS X (.For tg iter body [] pos) (zof wi g tb):=by
 intro pins s σ H D I h;refine wpAny_For (thn (hi pins s σ H _ I h) fun v s1 h1=>thn h1 fun itv s2 h2=>?_) hs;obtain⟨it,fp,tn,J,H2,e,I2,T,st2,f2,W,⟨m0,w0⟩,turn⟩:=h2;subst e;have stat:∀{H':Hp},(∀b∈fp,H' b=none)->∀b∈fp,ZS X pins H' b:=fun hn b hb=>⟨hn b hb,(f2 b hb).2⟩;refine codeAny_forLoop_any (fun n s'=>∃i σ' H',Inv X pins σ' H' s'/\tn i s'.heap/\(∀b∈fp,H' b=none)/\W i n σ' H') ?_ m0 ⟨0,σ,H2,I2,st2,fun b hb=>(f2 b hb).1,w0⟩;rintro n s3 ⟨i,σ3,H3,I3,st3,fr3,w3⟩;rcases turn i n σ3 H3 w3 with ⟨stop,qn⟩ | ⟨go,N,hN,step⟩
 ·refine To hp (thn (T.done X rfl rfl rfl hc i pins s3 σ3 H3 X.xe I3 (stat fr3) st3 stop) fun r s4 ⟨hr,I4⟩=>?_);subst hr;exact Sm ⟨σ3,H3,I4,qn⟩
 ·refine To hp (thn (T.item X rfl rfl rfl hc i pins s3 σ3 H3 X.xe I3 (stat fr3) st3 go) fun r s4 ⟨u,hr,h4⟩=>?_);subst hr;refine To hp (thn h4 fun _ s5 ⟨x,H5,I5,r5,y5,st5,fr5⟩=>?_);have I5':=I5.pinned (stat fr5) (T.obj _ _ st5);refine To hp (thn (hg _ s5 σ3 H5 x u _ I5' r5 (step x H5 y5)) fun _ s6 ⟨σ6,H6,I6,q6⟩=>?_);refine To hp (thn (hb _ s6 σ6 H6 _ I6 q6) fun f s7 q7=>?_);have Tc:∀{σ7:St} {H7:Hp},Inv X (pins++Zm fp s5.heap) σ7 H7 s7->N σ7 H7->∃m,m<n/\∃i σ' H',Inv X pins σ' H' s7/\tn i s7.heap/\(∀b∈fp,H' b=none)/\W i m σ' H':=fun {σ7 H7} I7 n7=>by
   obtain⟨m',hm,w7⟩:=hN σ7 H7 n7;refine⟨m',hm,i+1,σ7,H7,I7.unpinned,T.keep _ _ _ st5 fun b hb o e=>(I7.pin (b,o) (XJ _ (XJ _ (qu hb e)))).1,fun b hb=>?_,w7⟩;obtain⟨o,e,d⟩:=T.obj _ _ st5 b hb;exact(I7.pin (b,o) (XJ _ (XJ _ (qu hb e)))).2.1
  cases f with
  | next=>obtain⟨σ7,H7,I7,n7⟩:=q7;exact Tc I7 n7
  | cont=>obtain⟨σ7,H7,I7,n7⟩:=q7;exact Tc I7 n7
  | brk=>obtain⟨σ7,H7,I7,q7⟩:=q7;exact⟨σ7,H7,I7.unpinned,q7⟩
  | ret v=>obtain⟨x7,σ7,H7,I7,r7,q7⟩:=q7;exact⟨x7,σ7,H7,I7.unpinned,r7,q7⟩
end
theorem jg {K:X6}{a:Addr}{xs:List V}{g:TG}{tb:TS}{D:Ends}{σ:St}{H:Hp}(Pv:Nat->St->Hp->Prop)(h0:Pv 0 σ H)(hl:∀i σ H,i<=xs.length->Pv i σ H->SqL K H a xs)
  (hs:∀i x σ H,xs[i]?=some x->Pv i σ H->g x σ H fun σ2 H2=>tb { D with nx:=Pv (i+1),ct:=Pv (i+1),bk:=D.nx } σ2 H2) (hd:∀ σ H,Pv xs.length σ H->D.nx σ H) :
  ∃W:Nat->Nat->St->Hp->Prop,(∃m,W 0 m σ H)/\∀i m σ H,W i m σ H ->
   ((Itl K a).stop i H/\D.nx σ H)\/((Itl K a).go i H/\∃N:St->Hp->Prop,(∀ σ' H',N σ' H'->∃m',m'<m/\W (i+1) m' σ' H')/\∀x H',(Itl K a).yld i H x H'->g x σ H' fun σ2 H2=>tb { D with nx:=N,ct:=N,bk:=D.nx } σ2 H2):=by
 refine⟨fun i m σ H=>m=xs.length-i/\i<=xs.length/\Pv i σ H,⟨xs.length,by simp,W1 _,h0⟩,?_⟩;rintro i m σ H ⟨rfl,hi,p⟩;have q:=hl i σ H hi p;by_cases hlt:i<xs.length
 ·refine .inr ⟨⟨xs,xs[i],q,by simp[hlt]⟩,Pv (i+1),fun σ' H' p'=>⟨xs.length-(i+1),by lia,rfl,hlt,p'⟩,fun x H' y=>?_⟩;obtain⟨e,y⟩:=y;subst e;exact hs i x σ _ (y xs q) p
 ·have e:i=xs.length:=by lia
  subst e;exact .inl ⟨⟨xs,q,XW _⟩,hd σ H p⟩
theorem yt {lo:Int}{n:Nat}{g:TG}{tb:TS}{D:Ends}{σ:St}{H:Hp}(Pv:Nat->St->Hp->Prop)(h0:Pv 0 σ H)
  (hs:∀i σ H,i<n->Pv i σ H->g (.int (lo+i)) σ H fun σ2 H2=>tb { D with nx:=Pv (i+1),ct:=Pv (i+1),bk:=D.nx } σ2 H2) (hd:∀ σ H,Pv n σ H->D.nx σ H) :
  ∃W:Nat->Nat->St->Hp->Prop,(∃m,W 0 m σ H)/\∀i m σ H,W i m σ H ->
   ((Itr lo n).stop i H/\D.nx σ H)\/((Itr lo n).go i H/\∃N:St->Hp->Prop,(∀ σ' H',N σ' H'->∃m',m'<m/\W (i+1) m' σ' H')/\∀x H',(Itr lo n).yld i H x H'->g x σ H' fun σ2 H2=>tb { D with nx:=N,ct:=N,bk:=D.nx } σ2 H2):=by
 refine⟨fun i m σ H=>m=n-i/\i<=n/\Pv i σ H,⟨n,by simp,W1 _,h0⟩,?_⟩;rintro i m σ H ⟨rfl,hi,p⟩;by_cases hlt:i<n
 ·refine .inr ⟨hlt,Pv (i+1),fun σ' H' p'=>⟨n-(i+1),by lia,rfl,hlt,p'⟩,fun x H' y=>?_⟩;obtain⟨e,y⟩:=y;subst e y;exact hs i σ _ hlt p
 ·have e:i=n:=by lia
  subst e;exact .inl ⟨XW _,hd σ H p⟩
abbrev R2:=V->V->Hp->VK->Prop
def OpR (X:Cx)(f:X9->X9->Sem X9)(r:R2):Prop :=
 ∀(pins:List (Addr×Obj)) (s:X8) (σ:St) (H:Hp) (x y:V) (v u:X9) (Q:VK),Inv X pins σ H s->RelV x v->RelV y u->r x y H Q ->
  Xo (Xr X.prog X.w) X.A (f v u) (EP X pins σ Q) X.xe s
def jR (X:Cx)(f:X9)(r:List V->Hp->VK->Prop):Prop :=
 ∀(pins:List (Addr×Obj)) (s:X8) (σ:St) (H:Hp) (xs:List V) (us:List X9) (Q:VK),Inv X pins σ H s->Vals xs us->r xs H Q ->
  Xo (Xr X.prog X.w) X.A (call f us) (EP X pins σ Q) X.xe s
def zog (X:Cx)(r:V->Hp->(Bool->Hp->Prop)->Prop):Prop :=
 ∀(pins:List (Addr×Obj)) (s:X8) (σ:St) (H:Hp) (x:V) (v:X9) (Q:Bool->Hp->Prop),Inv X pins σ H s->RelV x v->r x H Q ->
  Xo (Xr X.prog X.w) X.A (truthy v) (TP X pins σ Q) X.xe s
def tOp (r:R2)(ta tb:TE):TE:=fun σ H Q=>ta σ H fun x H1=>tb σ H1 fun y H2=>r x y H2 Q
def rI (C:Int->Int->Prop)(g:Int->Int->V):R2:=fun x y H Q=>∃i j,x=.int i/\y=.int j/\C i j/\Q (g i j) H
def rI0 (g:Int->Int->V):R2:=fun x y H Q=>∃i j,x=.int i/\y=.int j/\Q (g i j) H
section
variable {X:Cx}{a b c:Expr}{ta tb tc:TE}{pos:Pos}
theorem zlV (ha:PE X a ta)(hb:PE X b tb){pins:List (Addr×Obj)}{s:X8}{σ:St}{H:Hp}{R:V->V->Hp->Prop}(I:Inv X pins σ H s)
  (h:ta σ H fun x H1=>tb σ H1 fun y H2=>R x y H2) {Q:X9->X8->Prop} {f:X9->X9->Sem X9}
  (hf:∀v u s2 x y H2,Inv X pins σ H2 s2->RelV x v->RelV y u->R x y H2->Xo (Xr X.prog X.w) X.A (f v u) Q X.xe s2) :
  Xo (Xr X.prog X.w) X.A (eval a X.env) (fun v s₁=>Xo (Xr X.prog X.w) X.A (eval b X.env) (fun u s₂=>Xo (Xr X.prog X.w) X.A (f v u) Q X.xe s₂) X.xe s₁) X.xe s:=by
 refine thn (ha pins s σ H _ I h) fun v s1 ⟨x,H1,I1,r1,q1⟩=>?_;refine thn (hb pins s1 σ H1 _ I1 q1) fun u s2 ⟨y,H2,I2,r2,q2⟩=>?_;exact hf v u s2 x y H2 I2 r1 r2 q2
theorem zz {op:Operator}{r:R2}(ho:OpR X (UP op) r)(ha:PE X a ta)(hb:PE X b tb):PE X (.BinOp a op b pos) (tOp r ta tb):=by
 intro pins s σ H Q I h;exact wpAny_BinOp (zlV ha hb I h fun v u s2 x y H2 I2 rx ry q=>ho pins s2 σ H2 x y v u Q I2 rx ry q)
theorem opI {f:X9->X9->Sem X9}{C:Int->Int->Prop}{g:Int->Int->Int}
  (rule:∀(i j:Int) (t u:Tok) (s:X8) (Q:X9->X8->Prop) (E:X9->X8->Prop),C i j->Q (.int (g i j) s.toks) { s with toks:=s.toks+1 }->Xo (Xr X.prog X.w) X.A (f (.int i t) (.int j u)) Q E s) :
  OpR X f (rI C fun i j=>.int (g i j)):=by
 intro pins s σ H x y v u Q I rx ry h;obtain⟨i,j,rfl,rfl,hc,q⟩:=h;obtain⟨t,rfl⟩:=rx;obtain⟨t',rfl⟩:=ry;exact rule i j t t' s _ _ hc ⟨.int (g i j),H,I.tok _,⟨_,rfl⟩,q⟩
theorem znh {f:X9->X9->Sem X9}{g:Int->Int->Int}
  (rule:∀(i j:Int) (t u:Tok) (s:X8) (Q:X9->X8->Prop) (E:X9->X8->Prop),Q (.int (g i j) s.toks) { s with toks:=s.toks+1 }->Xo (Xr X.prog X.w) X.A (f (.int i t) (.int j u)) Q E s) :
  OpR X f (rI0 fun i j=>.int (g i j)):=by
 intro pins s σ H x y v u Q I rx ry h;obtain⟨i,j,rfl,rfl,q⟩:=h;obtain⟨t,rfl⟩:=rx;obtain⟨t',rfl⟩:=ry;exact rule i j t t' s _ _ ⟨.int (g i j),H,I.tok _,⟨_,rfl⟩,q⟩
theorem zlW {f:X9->X9->Sem X9}{g:Int->Int->Bool}
  (rule:∀(i j:Int) (t u:Tok) (s:X8) (Q:X9->X8->Prop) (E:X9->X8->Prop),Q (.bool (g i j)) s->Xo (Xr X.prog X.w) X.A (f (.int i t) (.int j u)) Q E s) :
  OpR X f (rI0 fun i j=>.bl (g i j)):=by
 intro pins s σ H x y v u Q I rx ry h;obtain⟨i,j,rfl,rfl,q⟩:=h;obtain⟨t,rfl⟩:=rx;obtain⟨t',rfl⟩:=ry;exact rule i j t t' s _ _ ⟨.bl (g i j),H,I,rfl,q⟩
def zoh (i j:Int):Prop:=0<=j/\j<=1000000/\i.natAbs<2^64
theorem zlX:OpR X (UP .Add) (rI0 fun i j=>.int (i+j)):=znh fun _ _ _ _ _ _ _ q=>add_int q
theorem zlY:OpR X (UP .Sub) (rI0 fun i j=>.int (i-j)):=znh fun _ _ _ _ _ _ _ q=>sub_int q
theorem zlZ:OpR X (UP .Mod) (rI (fun _ j=>0<j) fun i j=>.int (i%j)):=opI fun i j _ _ _ _ _ hc q=>by
 have h1:(0:Int)<j:=hc;exact mod_int' (by lia) (by rw[Int.fmod_eq_emod_of_nonneg i (by lia)];exact q)
theorem zl0:OpR X (UP .Pow) (rI zoh fun i j=>.int (i^j.toNat)):=opI fun _ _ _ _ _ _ _ hc q=>pow_int_small hc.1 hc.2.1 hc.2.2 q
end
def zni:V->V->Bool
 | .non,.non=>true | .non,.int _=>true | .int _,.non=>true | .non,.bl _=>true | .bl _,.non=>true | .non,.str _=>true | .str _,.non=>true
 | .int _,.int _=>true | .bl _,.bl _=>true | .str _,.str _=>true | .byt _,.byt _=>true
 | .int _,.str _=>true | .str _,.int _=>true | .bl _,.str _=>true | .str _,.bl _=>true
 | _,_=>false
def rEq:R2:=fun x y H Q=>zni x y=true/\Q (.bl (decide (x=y))) H
def rNe:R2:=fun x y H Q=>zni x y=true/\Q (.bl (!decide (x=y))) H
theorem zdj {i j:Int}:decide (V.int i=V.int j)=(i==j):=by
 rw[WM];simp
theorem zio {i j:Bool}:decide (V.bl i=V.bl j)=(i==j):=by
 rw[WM];simp
theorem zgz {i j:Str}:decide (V.str i=V.str j)=(i==j):=by
 rw[WM];simp
theorem zgA {i j:Array UInt8}:decide (V.byt i=V.byt j)=(i.toList==j.toList):=by
 rw[WM];cases i;cases j;simp
section
variable {X:Cx}{a b c:Expr}{ta tb tc:TE}{pos:Pos}
theorem qb {pins:List (Addr×Obj)}{σ:St}{H:Hp}{s:X8}{Q:VK}{k k':Bool}(I:Inv X pins σ H s)(q:Q (.bl k) H)(e:k=k'):EP X pins σ Q (.bool k') s:=by
 subst e;exact⟨.bl k,H,I,rfl,q⟩
theorem ZJ:OpR X (Vu .Eq) rEq:=by
 intro pins s σ H x y v u Q I rx ry h;obtain⟨hs,q⟩:=h;cases x with
 | non =>
  cases rx;cases y with
  | non=>cases ry;exact PySem.EqNone.eq_none_none (qb I q (by simp))
  | bl j=>cases ry;exact PySem.EqNone.eq_none_bool (qb I q (by simp))
  | int j=>obtain⟨t',rfl⟩:=ry;exact PySem.EqNone.eq_none_int (qb I q (by simp))
  | str j=>obtain⟨t',rfl⟩:=ry;exact PySem.EqNone.eq_none_str (qb I q (by simp))
  | _=>exact absurd (show false=true from hs) XT
 | bl i =>
  cases rx;cases y with
  | non=>cases ry;exact PySem.EqNone.eq_bool_none (qb I q (by simp))
  | bl j=>cases ry;exact eq_bool (qb I q zio)
  | str j=>obtain⟨t',rfl⟩:=ry;exact PySem.EqMixed.eq_bool_str (qb I q (by simp))
  | _=>exact absurd (show false=true from hs) XT
 | int i =>
  obtain⟨t,rfl⟩:=rx;cases y with
  | non=>cases ry;exact PySem.EqNone.eq_int_none (qb I q (by simp))
  | int j=>obtain⟨t',rfl⟩:=ry;exact eq_int (qb I q zdj)
  | str j=>obtain⟨t',rfl⟩:=ry;exact PySem.EqMixed.eq_int_str (qb I q (by simp))
  | _=>exact absurd (show false=true from hs) XT
 | str i =>
  obtain⟨t,rfl⟩:=rx;cases y with
  | non=>cases ry;exact PySem.EqNone.eq_str_none (qb I q (by simp))
  | bl j=>cases ry;exact PySem.EqMixed.eq_str_bool (qb I q (by simp))
  | int j=>obtain⟨t',rfl⟩:=ry;exact PySem.EqMixed.eq_str_int (qb I q (by simp))
  | str j=>obtain⟨t',rfl⟩:=ry;exact eq_str (qb I q zgz)
  | _=>exact absurd (show false=true from hs) XT
 | byt i =>
  obtain⟨t,rfl⟩:=rx;cases y with
  | byt j=>obtain⟨t',rfl⟩:=ry;exact PySem.W.eq_bytes (qb I q zgA)
  | _=>exact absurd (show false=true from hs) XT
 | _=>cases y<;>exact absurd (show false=true from hs) XT
theorem zd2:OpR X (Vu .NotEq) rNe:=by
 intro pins s σ H x y v u Q I rx ry h;obtain⟨hs,q⟩:=h;cases x with
 | non =>
  cases rx;cases y with
  | non=>cases ry;exact PySem.EqNone.ne_none_none (qb I q (by simp))
  | bl j=>cases ry;exact PySem.EqNone.ne_none_bool (qb I q (by simp))
  | int j=>obtain⟨t',rfl⟩:=ry;exact PySem.EqNone.ne_none_int (qb I q (by simp))
  | str j=>obtain⟨t',rfl⟩:=ry;exact PySem.EqNone.ne_none_str (qb I q (by simp))
  | _=>exact absurd (show false=true from hs) XT
 | bl i =>
  cases rx;cases y with
  | non=>cases ry;exact PySem.EqNone.ne_bool_none (qb I q (by simp))
  | bl j=>cases ry;exact ne_bool (qb I q (congrArg not zio))
  | str j=>obtain⟨t',rfl⟩:=ry;exact PySem.EqMixed.ne_bool_str (qb I q (by simp))
  | _=>exact absurd (show false=true from hs) XT
 | int i =>
  obtain⟨t,rfl⟩:=rx;cases y with
  | non=>cases ry;exact PySem.EqNone.ne_int_none (qb I q (by simp))
  | int j=>obtain⟨t',rfl⟩:=ry;exact ne_int (qb I q (congrArg not zdj))
  | str j=>obtain⟨t',rfl⟩:=ry;exact PySem.EqMixed.ne_int_str (qb I q (by simp))
  | _=>exact absurd (show false=true from hs) XT
 | str i =>
  obtain⟨t,rfl⟩:=rx;cases y with
  | non=>cases ry;exact PySem.EqNone.ne_str_none (qb I q (by simp))
  | bl j=>cases ry;exact PySem.EqMixed.ne_str_bool (qb I q (by simp))
  | int j=>obtain⟨t',rfl⟩:=ry;exact PySem.EqMixed.ne_str_int (qb I q (by simp))
  | str j=>obtain⟨t',rfl⟩:=ry;exact ne_str (qb I q (congrArg not zgz))
  | _=>exact absurd (show false=true from hs) XT
 | byt i =>
  obtain⟨t,rfl⟩:=rx;cases y with
  | byt j=>obtain⟨t',rfl⟩:=ry;exact PySem.W.ne_bytes (qb I q (congrArg not zgA))
  | _=>exact absurd (show false=true from hs) XT
 | _=>cases y<;>exact absurd (show false=true from hs) XT
theorem znj:OpR X (Vu .Lt) (rI0 fun i j=>.bl (decide (i<j))):=zlW fun _ _ _ _ _ _ _ q=>lt_int q
theorem znk:OpR X (Vu .LtE) (rI0 fun i j=>.bl (decide (i<=j))):=zlW fun _ _ _ _ _ _ _ q=>le_int q
theorem znl:OpR X (Vu .Gt) (rI0 fun i j=>.bl (decide (j<i))):=zlW fun _ _ _ _ _ _ _ q=>gt_int q
theorem zke:OpR X (Vu .IsNot) (fun x y H Q=>y=.non/\Q (.bl (!decide (x=.non))) H):=by
 intro pins s σ H x y v u Q I rx ry h;obtain⟨rfl,q⟩:=h;cases ry;refine isnot_none_gen (qb I q ?_);cases x<;>first
  | (cases rx;rfl)
  | (obtain⟨t,rfl⟩:=rx;rfl)
theorem qc (b:Expr){op:CmpOp}(h:op ≠ .In:=by decide)(h2:op ≠ .NotIn:=by decide):Rw op b=false:=by
 have e1:(op==CmpOp.In)=false:=by cases op<;>first | rfl | exact absurd rfl h
 have e2:(op==CmpOp.NotIn)=false:=by cases op<;>first | rfl | exact absurd rfl h2
 cases b<;>simp[Rw,e1,e2]
theorem xE {op:CmpOp}{r:R2}(ho:OpR X (Vu op) r)(ha:PE X a ta)(hb:PE X b tb)(hm:Rw op b=false):PE X (.Compare a [op] [b] pos) (tOp r ta tb):=by
 intro pins s σ H Q I h;exact wpAny_Compare1 (zlV ha hb I h fun v u s2 x y H2 I2 rx ry q=>ho pins s2 σ H2 x y v u Q I2 rx ry q) hm
def znm (t:TE):TT:=fun σ H Q=>t σ H fun x H'=>∃k,x=.bl k/\Q k H'
def zl1 (r r':R2)(ta tb tc:TE):TE:=fun σ H Q=>ta σ H fun x H1=>tb σ H1 fun y H2=>r x y H2 fun z H3=>∃k,z=.bl k /\
 (if k=true then tc σ H3 fun w' H4=>r' y w' H4 Q else Q (.bl false) H3)
theorem zd3 {op op':CmpOp}{r r':R2}(ho:OpR X (Vu op) r)(ho':OpR X (Vu op') r')(ha:PE X a ta)(hb:PE X b tb)(hc:PE X c tc)
  (hm:lastMarks [op,op'] [b,c]=false:=by with_unfolding_all rfl):PT X (.Compare a [op,op'] [b,c] pos) (znm (zl1 r r' ta tb tc)):=by
 intro pins s σ H Q I h;refine isTrue_chain (thn (ha pins s σ H _ I h) fun v s1 ⟨x,H1,I1,r1,q1⟩=>test_link (thn (hb pins s1 σ H1 _ I1 q1) fun u s2 ⟨y,H2,I2,r2,q2⟩ =>
  thn (ho pins s2 σ H2 x y v u _ I2 r1 r2 q2) fun d s3 ⟨z,H3,I3,r3,k,e,q3⟩=>?_)) hm
 subst e;cases r3;refine Vo ?_;cases k with
 | false =>
  obtain⟨k',e',q'⟩:=q3;cases e';exact ite_ff ⟨H3,I3,q'⟩
 | true =>
  refine ite_tt (test_last (thn (hc pins s3 σ H3 _ I3 q3) fun w' s4 ⟨z',H4,I4,r4,q4⟩=>thn (ho' pins s4 σ H4 y z' u w' _ I4 r2 r4 q4) fun d' s5 ⟨z2,H5,I5,r5,k2,e2,q5⟩=>?_));subst e2;cases r5;exact Vo ⟨H5,I5,q5⟩
def zl2 (K:X6)(x:V)(H:Hp)(k:Bool):Prop :=
 match x with
 | .non=>k=false
 | .bl b=>k=b
 | .int i=>k=(i != 0)
 | .str y=>y.length<=XC/\k=((y.length:Int) != 0)
 | .byt y=>y.size<=XC/\k=((y.size:Int) != 0)
 | .ref p=>(∃xs,SqL K H p xs/\k=!xs.isEmpty)\/(∃xs,SqT K H p xs/\k=!xs.isEmpty)\/∃kvs,H p=some (.dK kvs)/\k=!kvs.isEmpty
 | _=>False
theorem zfs {κ:Type}{kvs:List (κ × V)}{vs:List (κ × X9)}(r:KV kvs vs):(!vs.isEmpty)=!kvs.isEmpty:=by
 cases r<;>rfl
theorem zaZ {xs:List V}{its:List X9}(r:Vals xs its):(!its.toArray.isEmpty)=!xs.isEmpty:=by
 cases r<;>simp
theorem ZT:(XC:Nat)<2^63:=by rw[Tb];decide
theorem zl3:zog X (fun x H Q=>∃k,zl2 X.K x H k/\Q k H):=by
 intro pins s σ H x v Q I rx h;obtain⟨k,e,q⟩:=h;have hl:=ZT;have hs:XC=16777216:=Tb;cases x with
 | non =>
  cases rx;have e':k=false:=e;subst e';exact truthy_none ⟨H,I,q⟩
 | bl b =>
  cases rx;have e':k=b:=e;subst e';exact Vo ⟨H,I,q⟩
 | int i =>
  obtain⟨t,rfl⟩:=rx;have e':k=(i != 0):=e;subst e';exact PySem.P.truthy_int ⟨H,I,q⟩
 | str y =>
  obtain⟨t,rfl⟩:=rx;obtain⟨hy,e'⟩:y.length<=XC/\k=((y.length:Int) != 0):=e;subst e';exact PySem.P.truthy_str (by lia) ⟨H,I.tok _,q⟩
 | byt y =>
  obtain⟨t,rfl⟩:=rx;obtain⟨hy,e'⟩:y.size<=XC/\k=((y.size:Int) != 0):=e;subst e';exact PySem.W.truthy_bytes (by lia) ⟨H,I.tok _,q⟩
 | ref p =>
  cases rx;have e':(∃xs,SqL X.K H p xs/\k=!xs.isEmpty)\/(∃xs,SqT X.K H p xs/\k=!xs.isEmpty)\/∃kvs,H p=some (.dK kvs)/\k=!kvs.isEmpty:=e;rcases e' with ⟨xs,hx,e'⟩ | ⟨xs,hx,e'⟩ | ⟨kvs,hx,e'⟩
  ·subst e';obtain⟨its,r,pl,hz⟩:=I.list hx;have hlen:=r.length;exact wpAny_truthy_list pl.isList (by simp only[Xv];lia) ⟨H,I.tok _,by rw[zaZ r];exact q⟩
  ·subst e';obtain⟨its,r,pl,hz⟩:=I.tuple hx;have hlen:=r.length;exact truthy_tuple pl (by simp only[Xv];lia) ⟨H,I.tok _,by rw[zaZ r];exact q⟩
  ·subst e';obtain⟨hz,hS,vs,r,m⟩:kvs.length<=XC/\(p==T3)=false/\∃vs,KV kvs vs/\s.heap.DictOf (zP X.prog X.w) p vs:=I.hok p _ hx;have hlen:kvs.length=vs.length:=Paired.length r;exact wpAny_truthy_dict hS m (by lia) ⟨H,I.tok _,by rw[zfs r];exact q⟩
 | _=>exact(show False from e).elim
theorem ZU (ha:PE X a ta)(he:∀whole,isTrue a X.env whole=(do let v <- whole;standAt a.pos;OR [v] (truthy v))) :
  PT X a (fun σ H Q=>ta σ H fun x H'=>∃k,zl2 X.K x H' k/\Q k H'):=by
 intro pins s σ H Q I h;exact isTrue_plain (thn (ha pins s σ H _ I h) fun v s1 ⟨x,H1,I1,r1,q1⟩=>zl3 pins s1 σ H1 x v Q I1 r1 q1) (he _)
theorem zft:OpR X (UP .Add) (fun x y H Q=>∃i j,x=.str i/\y=.str j/\i.length+j.length<=XC/\Q (.str (i++j)) H):=by
 intro pins s σ H x y v u Q I rx ry h;obtain⟨i,j,rfl,rfl,hz,q⟩:=h;obtain⟨t,rfl⟩:=rx;obtain⟨t',rfl⟩:=ry;exact add_str (fun t' tk=>⟨.str (i++j),H,I.tok _,⟨_,rfl⟩,q⟩) hz
theorem vals1 {x:V}{us:List X9}(r:Vals [x] us):∃u,us=[u]/\RelV x u:=by
 cases r with
 | cons r1 r2=>cases r2;exact⟨_,rfl,r1⟩
theorem vals2 {x y:V}{us:List X9}(r:Vals [x,y] us):∃u w',us=[u,w']/\RelV x u/\RelV y w':=by
 cases r with
 | cons r1 r2 =>
  cases r2 with
  | cons r3 r4=>cases r4;exact⟨_,_,rfl,r1,r3⟩
theorem JL (hc:X.calm=true):jR X (.builtin "max") (fun xs H Q=>∃i j,xs=[.int i,.int j]/\Q (.int (if j>i then j else i)) H):=by
 intro pins s σ H xs us Q I r h;obtain⟨i,j,rfl,q⟩:=h;obtain⟨u,w',rfl,⟨t,rfl⟩,⟨t',rfl⟩⟩:=vals2 r;refine max_two_ints (I.ok.hd hc) fun h' tk k=>⟨_,H,I.kept k,?_,q⟩;by_cases hj:j>i
 ·rw[if_pos hj,if_pos hj];exact⟨_,rfl⟩
 ·rw[if_neg hj,if_neg hj];exact⟨_,rfl⟩
theorem Yo (hc:X.calm=true):jR X (.builtin "min") (fun xs H Q=>∃i j,xs=[.int i,.int j]/\Q (.int (if j<i then j else i)) H):=by
 intro pins s σ H xs us Q I r h;obtain⟨i,j,rfl,q⟩:=h;obtain⟨u,w',rfl,⟨t,rfl⟩,⟨t',rfl⟩⟩:=vals2 r;refine min_two_ints (I.ok.hd hc) fun h' tk k=>⟨_,H,I.kept k,?_,q⟩;by_cases hj:j<i
 ·rw[if_pos hj,if_pos hj];exact⟨_,rfl⟩
 ·rw[if_neg hj,if_neg hj];exact⟨_,rfl⟩
theorem Qh:jR X (.type "str") (fun xs H Q=>∃i,xs=[.int i]/\i.natAbs.log2<1920/\Q (.str (toString i)) H):=by
 intro pins s σ H xs us Q I r h;obtain⟨i,rfl,hz,q⟩:=h;obtain⟨u,rfl,t,rfl⟩:=vals1 r;exact PySem.P.str_of_int hz ⟨.str _,H,I.tok _,⟨_,rfl⟩,q⟩
end
structure zl4 (h:Heap)(x dx C:Addr)(mA:Str->Option X9):Prop where
 obj:h.get? x=some (PP C dx)
 ns:h.Ns1 dx mA
 ne:dx≠x
theorem zhm {h:Heap}{dx:Addr}{mA:Str->Option X9}(n:h.Ns1 dx mA):∃od,h.get? dx=some od/\∀name,Po name od=some (mA name):=by
 obtain⟨o,es,ep,ho,hd,hk,_,hm⟩:=n;refine⟨o,ho,fun name=>?_⟩;have e:=hm name;unfold nsFind findBy at e;rw[<- Array.find?_toList] at e;unfold Po;rw[hd];dsimp only;split
 ·rename_i y q;rw[q] at e;exact congrArg some e
 ·rename_i q;rw[q] at e;have a:es.toList.any (·.refKey)=false:=by
   rw[RD];intro y hy;obtain⟨z,t,hkey⟩:=hk y (TZ.mp hy);simp[DictEntry.refKey,hkey]
  have a':¬ es.toList.any (·.refKey)=true:=by rw[a];exact XT
  rw[if_neg a'];exact congrArg some e
theorem zl4.look {h:Heap}{x dx C:Addr}{mA:Str->Option X9}(I:zl4 h x dx C mA):∃od,PySem.W.InstAt h x (PP C dx) C (some od)/\∀name,Po name od=some (mA name) :=
 let ⟨od,ho,hl⟩:=zhm I.ns
 ⟨od,⟨I.obj,rfl,rfl,ho⟩,hl⟩
section
variable {prog:Xl}{w:W3}{A:WW}{E:X9->X8->Prop}{s:X8}{K:X6}{x dx C f:Addr}{mA:Str->Option X9}{name:Str}{v:X9}
end
theorem zaW.some_of {v:V}{o:Option X9}(r:zaW (some v) o):∃u,o=some u/\RelV v u:=by
 cases o with
 | none=>exact(show False from r).elim
 | some u=>exact⟨u,rfl,r⟩
section
variable {P:Xl}{w:W3}{H H':Hp}{h h':Heap}{a C dx:Addr}{fs fs':List (Str×V)}
theorem zkf (hok:HOk P w H h)(e:H a=some (.ins C dx fs)):∃mA,zl4 h a dx C mA/\(∀f,zaW (fs.lookup f) (mA f))/\PySem.Within mA (fs.map (·.1))/\fs.length<=1000/\H dx=some (.own a):=by
 obtain⟨d,z,ne,ob,mA,n,r,q⟩:=(show qM P w H h a (.ins C dx fs) from hok a _ e);exact⟨mA,⟨ob,n,ne⟩,r,q,z,d⟩
end
structure Cls (K:X6)(C:Addr):Prop where
 pg:PySem.W.plainGet K C Str.empty=true
 hd:PySem.W.hasDictIn K C=true
 po:PySem.W.plainOver K C=true
 sa:VB K (.ref C) "__setattr__"=some (some (.builtin "object.__setattr__"))
theorem Cls.get {K:X6}{C:Addr}(c:Cls K C)(f:Str):PySem.W.plainGet K C f=true:=c.pg
section
variable {X:Cx}{pins:List (Addr×Obj)}{σ:St}{H:Hp}{s:X8}{a C dx:Addr}{fs:List (Str×V)}{f:Str}{v:V}{A:WW}{E:X9->X8->Prop}
end
section
variable {X:Cx}{o e value:Expr}{f:Str}{pos pos' tpos:Pos}{ta tv:TE}
end
section
variable {X:Cx}{pins:List (Addr×Obj)}{σ:St}{H:Hp}{s:X8}{A:WW}{E:X9->X8->Prop}{Q:X9->X8->Prop}{c:X9}{b:Bool}
inductive QZ (K:X6)(H:Hp):V->X9->Prop where
 | non:QZ K H .non (.type "NoneType")
 | bl (x:Bool):QZ K H (.bl x) (.type "bool")
 | int (i:Int):QZ K H (.int i) (.type "int")
 | str (x:Str):QZ K H (.str x) (.type "str")
 | flt (x:UInt64):QZ K H (.flt x) (.type "float")
 | lst {a:Addr} {xs:List V} (e:H a=some (.lst xs)):QZ K H (.ref a) (.type "list")
 | frz {a:Addr} {o:Obj} {xs:List V} (e:H a=some (.frz o (.lst xs))):QZ K H (.ref a) (.type "list")
 | tup {a:Addr} {xs:List V} (e:H a=some (.tup xs)):QZ K H (.ref a) (.type "tuple")
 | dK {a:Addr} {kvs:List (Key×V)} (e:H a=some (.dK kvs)):QZ K H (.ref a) (.type "dict")
 | dT {a:Addr} {kvs:List (List Key×V)} (e:H a=some (.dT kvs)):QZ K H (.ref a) (.type "dict")
 | ins {a C dx:Addr} {fs:List (Str×V)} (e:H a=some (.ins C dx fs)) (cl:Cls K C) (ha:VB K (.ref C) "__class__"=some (some (.builtin "object.__class__")))
   (hn:PySem.W.specialIn K (.builtin "object.__class__") "__get__"=some (some (.builtin "getset_descriptor.__get__"))) (htk:PySem.W.takesIn K (.builtin "object.__class__")=some true)
   (hm:Vs K C (.type "object")=some true):QZ K H (.ref a) (.ref C)
theorem zhn {x:V}{u t:X9}(I:Inv X pins σ H s)(rx:RelV x u)(ty:QZ X.K H x t)(e:Xg X.K t c=some b)(h:∀tk,Q (.bool b) { s with toks:=tk }) :
  Xo (Xr X.prog X.w) A (call (.builtin "isinstance") [u,c]) Q E s:=by
 cases ty with
 | non=>cases (show u=Value.none from rx);exact VV PySem.W.kitx_none I.kIn T2 e (fun z=>nomatch z) h
 | bl y=>cases (show u=Tk y from rx);exact VV PySem.W.kitx_bool I.kIn T2 e (fun z=>nomatch z) h
 | int i=>obtain⟨t,q⟩:=(show ∃t,u=Vl i t from rx);cases q;exact VV PySem.W.kitx_int I.kIn T2 e (fun z=>nomatch z) h
 | str y=>obtain⟨t,q⟩:=(show ∃t,u=OD y t from rx);cases q;exact VV PySem.W.kitx_str I.kIn T2 e (fun z=>nomatch z) h
 | flt y=>obtain⟨t,q⟩:=(show ∃t,u=Value.float y t from rx);cases q;exact VV PySem.W.kitx_float I.kIn T2 e (fun z=>nomatch z) h
 | @lst a xs ea =>
  cases (show u=WJ a from rx);obtain⟨_,_,n,_,h1⟩:=(show qM X.prog X.w H s.heap a (.lst xs) from I.hok a _ ea);exact VV PySem.W.kitx_list I.kIn ⟨_,h1,rfl⟩ e (fun z=>nomatch z) h
 | @frz a ob xs ea =>
  cases (show u=WJ a from rx);obtain⟨_,_,_,n,_,h1⟩:=(show qM X.prog X.w H s.heap a (.frz ob (.lst xs)) from I.hok a _ ea);exact VV PySem.W.kitx_list I.kIn ⟨_,h1,rfl⟩ e (fun z=>nomatch z) h
 | @tup a xs ea =>
  cases (show u=WJ a from rx);obtain⟨_,_,_,p⟩:=(show qM X.prog X.w H s.heap a (.tup xs) from I.hok a _ ea);obtain⟨o,h1,h2,_⟩:=p;exact VV PySem.W.kitx_tuple I.kIn ⟨o,h1,h2⟩ e (fun z=>nomatch z) h
 | @dK a kvs ea =>
  cases (show u=WJ a from rx);obtain⟨_,_,vs,_,p⟩:=(show qM X.prog X.w H s.heap a (.dK kvs) from I.hok a _ ea);obtain⟨o,es,ep,h1,h2,_⟩:=p;exact VV PySem.W.kitx_dict I.kIn ⟨o,h1,h2.1⟩ e (fun z=>nomatch z) h
 | @dT a kvs ea =>
  cases (show u=WJ a from rx);obtain⟨_,_,xs,_,o,es,ep,h1,h2,_⟩:=(show qM X.prog X.w H s.heap a (.dT kvs) from I.hok a _ ea);exact VV PySem.W.kitx_dict I.kIn ⟨o,h1,h2.1⟩ e (fun z=>nomatch z) h
 | @ins a C dx fs ea cl ha hn htk hm =>
  cases (show u=WJ a from rx);obtain⟨mA,O,_⟩:=zkf I.hok ea;obtain⟨od,J,_⟩:=O.look;exact VV (PySem.W.kitx_own (cl.get _) cl.hd ha hn htk hm) I.kIn J e (fun z=>nomatch z) h
end
structure Jj (k:Nat)(A:WW):Prop where
 hd:A.handled=none
 dp:A.depth+3*k+5<recursionLimit
 un:A.units+16*k+200<U0
theorem Jj.mono {j k:Nat}{A:WW}(r:Jj k A)(h:j<=k):Jj j A:=⟨r.hd,by have:=r.dp;lia,by have:=r.un;lia⟩
theorem Jj.deeper {k:Nat}{A:WW}(r:Jj (k+1) A)(env:Env):Jj k (A.deeper env) :=
 ⟨r.hd,by have:=r.dp;show A.depth+1+3*k+5<_;lia,by have:=r.un;show A.units+3+16*k+200<_;lia⟩
theorem Jj.depth {k:Nat}{A:WW}(r:Jj k A):A.depth<recursionLimit:=by have:=r.dp;lia
theorem Jj.units {k:Nat}{A:WW}(r:Jj k A):A.units+64<U0:=by have:=r.un;lia
def zl5:TA:=fun _ H Q=>Q [] H
def ZV (ta:TE)(tr:TA):TA:=fun σ H Q=>ta σ H fun x H1=>tr σ H1 fun xs H2=>Q (x::xs) H2
section
variable {X:Cx}{e:Expr}{es:List Expr}{te:TE}{t:TA}{pos:Pos}
theorem zc:PA X [] zl5:=fun _ _ _ _ H Q I h=>Calls.spliced_nil ⟨[],H,I,.nil,h⟩
theorem za (ha:PE X e te)(hr:PA X es t)(hs:WB (e::es) X.env=(false,eval e X.env)::WB es X.env:=by rfl):PA X (e::es) (ZV te t):=by
 intro pos pins s σ H Q I h;rw[hs];show Xo _ _ (spliced ((false,eval e X.env)::SG pos (WB es X.env))) _ _ s;refine Calls.spliced_cons (thn (ha pins s σ H _ I h) fun u s1 ⟨x,H1,I1,r1,q1⟩=>?_);exact thn (hr pos pins s1 σ H1 _ I1 q1) fun us s2 ⟨xs,H2,I2,r2,q2⟩=>⟨x::xs,H2,I2,.cons r1 r2,q2⟩
def zoi (t:TA):TE:=fun σ H Q=>t σ H fun xs H1=>xs.length<=XC/\∀p,H1 p=none->Q (.ref p) (upd H1 p (.tup xs))
def znn (t:TA):TE:=fun σ H Q=>t σ H fun xs H1=>xs.length<=XC/\∀p,H1 p=none->Q (.ref p) (upd H1 p (.lst xs))
theorem jN {x1}(h:PA X es t):PE X (.Tuple es x1 pos) (zoi t):=by
 intro pins s σ H Q I hq;refine wpAny_Tuple_spliced (thn (h pos pins s σ H _ I hq) fun us s1 ⟨xs,H1,I1,r,z,q⟩=>⟨by rw[<- r.length];exact z,?_⟩);have hf:H1 s1.heap.objs.size=none:=I1.hok.fresh (XW _);refine⟨.ref s1.heap.objs.size,upd H1 s1.heap.objs.size (.tup xs),I1.laid (t':=s1.toks) (fun b u e=>X7 _ e) (XW _) ?_,rfl,q _ hf⟩;exact⟨z,us,r,⟨_,Xb _ rfl,rfl,_,rfl⟩⟩
theorem zY (h:PA X es t):PE X (.List es pos) (znn t):=by
 intro pins s σ H Q I hq;refine wpAny_List_spliced (thn (h pos pins s σ H _ I hq) fun us s1 ⟨xs,H1,I1,r,z,q⟩=>⟨by rw[<- r.length];exact z,?_⟩);have hf:H1 s1.heap.objs.size=none:=I1.hok.fresh (XW _);refine⟨.ref s1.heap.objs.size,upd H1 s1.heap.objs.size (.lst xs),I1.laid (t':=s1.toks) (fun b u e=>X7 _ e) (XW _) ?_,rfl,q _ hf⟩;exact⟨z,us,0,r,Xb _ rfl⟩
end
abbrev Sp:=List V->Hp->VK->XK->Prop
abbrev CXT:=List Env->Hp->X8->XK->X9->X8->Prop
structure zkg (P:Xl)(w:W3)(K:X6)(mg:Str->Option X9)(base:Heap)(A:WW)(outer:List Env)(s:X8)(H:Hp):Prop where
 frames:A.frames=some outer
 mod:Mod K mg base
 bs:∀b o,base.get? b=some o->s.heap.get? b=some o/\H b=none
 bsz:base.objs.size<=s.heap.objs.size
 funs:s.heap.FunFrames base outer
 frf:∀b∈frs outer,H b=none
 hok:HOk P w H s.heap
 bare:S6 s.gens
def CE (outer:List Env)(P:Xl)(w:W3)(H:Hp)(s:X8)(Q:VK)(u:X9)(s':X8):Prop :=
 ∃v H',s'.os=s.os/\S6 s'.gens/\Un (frs outer) [] H H' s.heap s'.heap/\HOk P w H' s'.heap/\RelV v u/\Q v H'
def CR (CX:CXT)(outer:List Env)(P:Xl)(w:W3)(H:Hp)(s:X8)(Q:VK)(E:XK)(r:Ps)(s':X8):Prop :=
 match r with
 | .ok (.ret u)=>CE outer P w H s Q u s'
 | .ok _=>False
 | .error e=>CX outer H s E e s'
structure qi (P:Xl)(w:W3)(K:X6)(mg:Str->Option X9)(base:Heap)(CX:CXT)(k:Nat)(f:Addr)(fd:Xk)(ps:List Str)(sp:Sp):Prop where
 len:∀vs H Q E,sp vs H Q E->vs.length=ps.length
 run:∀(A:WW) (outer:List Env) (s:X8) (H:Hp) (args:Args) (us:List X9) (vs:List V) (Q:VK) (E:XK),Jj k A->zkg P w K mg base A outer s H->OQ s fd args (ps.zip us)->Vals vs us->sp vs H Q E ->
  UR (Xr P w) A (.call (.ref f) args) (CR CX outer P w H s Q E) s
section
variable {X:Cx}{pins:List (Addr×Obj)}{σ:St}{H:Hp}{s s':X8}
theorem Inv.env0 (I:Inv X pins σ H s):zkg X.prog X.w X.K X.mg X.base X.A X.stack s H :=
 ⟨I.ok.frames,I.ok.mod,I.bs,XV I.ok.bsz I.sz,I.stack,I.stkFree,I.hok,I.bare⟩
theorem Inv.after {Q:VK}{u:X9}(I:Inv X pins σ H s)(h:CE X.stack X.prog X.w H s Q u s'):EP X pins σ Q u s':=by
 obtain⟨v,H',os,bare,un,hok,r,q⟩:=h;obtain⟨hh,g,d,t,os'⟩:=s';obtain rfl:os'=s.os:=os;exact⟨v,H',I.call (h':=hh) (g':=g) (d':=d) (t':=t) (ch:=[]) un hok bare (fun b z=>absurd z (by simp)),r,q⟩
end
def zd4 (sp:Sp)(dvs:List V)(E:XK)(t:TA):TE:=fun σ H Q=>t σ H fun vs H1=>sp (vs++dvs) H1 Q E
def Binds (K:X6)(fd:Xk)(ps:List Str)(ds:List X9):Prop :=
 ∀(s:X8) (us:List X9),K.In s.heap->(us++ds).length=ps.length->OQ s fd ⟨us,[]⟩ (ps.zip (us++ds))
theorem Binds.all {K:X6}{fd:Xk}{ps:List Str}(h:∀us:List X9,us.length=ps.length->bindArgs fd ⟨us,[]⟩=pure (ps.zip us)):Binds K fd ps []:=fun s us _ hl=>by
 rw[W0] at hl ⊢;exact .of_eq (h us hl)
def Passes (CX:CXT)(X:Cx)(E:XK):Prop:=∀(pins:List (Addr×Obj)) (σ:St) (H:Hp) (s:X8) (e:X9) (s':X8),Inv X pins σ H s->CX X.stack H s E e s'->X.xe e s'
section
variable {X:Cx}{CX:CXT}{k:Nat}{f C:Addr}{fd:Xk}{ps:List Str}{sp:Sp}{dvs:List V}{ds:List X9}{E:XK}{x m:Str}{p pos apos:Pos}{e o:Expr}{es:List Expr}{ta:TE}{t:TA}
theorem zl6 {pins:List (Addr×Obj)}{σ:St}{H:Hp}{s:X8}{Q:VK}{us:List X9}{vs:List V}(F:qi X.prog X.w X.K X.mg X.base CX k f fd ps sp)(hr:Jj k X.A)(hb:Binds X.K fd ps ds)(hd:Vals dvs ds)(hx:Passes CX X E)
  (I:Inv X pins σ H s) (r:Vals vs us) (h:sp (vs++dvs) H Q E):Xo (Xr X.prog X.w) X.A (call (.ref f) us) (EP X pins σ Q) X.xe s:=by
 have r2:Vals (vs++dvs) (us++ds):=r.append hd;have hl:(us++ds).length=ps.length:=by rw[<- r2.length];exact F.len _ _ _ _ h
 refine wpAny_call (Uo (F.run X.A X.stack s H ⟨us,[]⟩ (us++ds) (vs++dvs) Q E hr I.env0 (hb s us I.kIn hl) r2 h) fun r s' hq=>?_);cases r with
 | error e=>exact hx pins σ H s e s' I hq
 | ok fl =>
  cases fl with
  | ret u=>exact I.after hq
  | next=>exact Wn hq
  | brk=>exact Wn hq
  | cont=>exact Wn hq
theorem Qi (F:qi X.prog X.w X.K X.mg X.base CX k f fd ps sp)(hr:Jj k X.A)(hg:Gl X x)(hm:X.mg x=some (.ref f))(hk:T1 X.K (.ref f)=true)(hb:Binds X.K fd ps ds)(hd:Vals dvs ds)(hx:Passes CX X E)
  (ha:PA X (e::es) t) (hdb:(x==("__debug__":Str))=false:=by decide) (he:WB (e::es) X.env=(false,eval e X.env)::WB es X.env:=by rfl) (hpl:(SG pos (WB es X.env)).any (·.1)=false:=by rfl) :
  PE X (.Call (.Name x p) (e::es) [] pos) (zd4 sp dvs E t):=by
 intro pins s σ H Q I h;refine Tg (Qg I hg hm ?_ hdb);refine PySem.W.callWith_K (h₀:=X.base) I.ok.mod.kin hk (thn (ha pos pins s σ H _ I h) fun us s1 ⟨vs,H1,I1,r,q⟩=>⟨I1.kIn,?_⟩) he hpl;exact zl6 F hr hb hd hx I1 r q
end
section
variable {X:Cx}{CX:CXT}{k:Nat}{f C:Addr}{fd:Xk}{ps ks:List Str}{sp:Sp}{E:XK}{x m:Str}{p pos apos kpos:Pos}{e o:Expr}{es:List Expr}{kws:List Keyword}{te ta:TE}{t tk:TA}{nm:Option Str}
variable {g:List X9->List X9->List X9}{gV:List V->List V->List V}
end
structure zF (N P:List Str)(sc:Vb):Prop where
 kind:sc.kind=.function
 co:sc.isCoroutine=false
 gen:sc.isGenerator=false
 nd:N.Nodup
 pre:N.take P.length=P
 par:∀x∈P,sc.names.lookup x=some .local\/sc.names.lookup x=some .cell
 nofree:∀y∈sc.names,y.2 ≠ .free
theorem zck {kindOf:Str->Option Tz}{x:Str}:∀{binds:List (Str×X9)} {m:Str->Option X9},(∀v,(x,v) ∉ binds)->Ov kindOf binds m x=m x
 | [],_,_=>rfl
 | (n,v)::r,m,h=>by
  unfold Ov;rw[zck fun w hw=>h w (XX _ hw)];split
  ·have:x≠n:=by rintro rfl;exact h v XU
   simp[this]
  ·rfl
theorem zcl {kindOf:Str->Option Tz}{x:Str}:∀{binds:List (Str×X9)} {m:Str->Option X9},(∀v,(x,v) ∉ binds)->Ou kindOf binds m x=m x
 | [],_,_=>rfl
 | (n,v)::r,m,h=>by
  unfold Ou;rw[zcl fun w hw=>h w (XX _ hw)];split
  ·rfl
  ·have:x≠n:=by rintro rfl;exact h v XU
   simp[this]
theorem zcm {kindOf:Str->Option Tz}{x:Str}{v:X9}:∀{P:List Str} {vs:List X9} {i:Nat} {m:Str->Option X9},P.Nodup->P[i]?=some x->vs[i]?=some v->kindOf x=some .local ->
  Ov kindOf (P.zip vs) m x=some v
 | [],_,_,_,_,h,_,_=>by simp at h
 | _::_,[],_,_,_,_,h,_=>by simp at h
 | p::P,w::vs,0,m,nd,h1,h2,hk=>by
  simp at h1 h2;subst h1;subst h2;show Ov kindOf ((p,w)::P.zip vs) m p=_;unfold Ov;rw[zck fun v hv=>(VU.mp nd).1 (PN hv).1,if_pos hk];simp
 | p::P,w::vs,i+1,m,nd,h1,h2,hk=>by
  show Ov kindOf ((p,w)::P.zip vs) m x=_;unfold Ov;exact zcm (i:=i) (VU.mp nd).2 (by simpa using h1) (by simpa using h2) hk
theorem zcn {kindOf:Str->Option Tz}{x:Str}{v:X9}:∀{P:List Str} {vs:List X9} {i:Nat} {m:Str->Option X9},P.Nodup->P[i]?=some x->vs[i]?=some v->kindOf x≠some .local ->
  Ou kindOf (P.zip vs) m x=some v
 | [],_,_,_,_,h,_,_=>by simp at h
 | _::_,[],_,_,_,_,h,_=>by simp at h
 | p::P,w::vs,0,m,nd,h1,h2,hk=>by
  simp at h1 h2;subst h1;subst h2;show Ou kindOf ((p,w)::P.zip vs) m p=_;unfold Ou;rw[zcl fun v hv=>(VU.mp nd).1 (PN hv).1,if_neg hk];simp
 | p::P,w::vs,i+1,m,nd,h1,h2,hk=>by
  show Ou kindOf ((p,w)::P.zip vs) m x=_;unfold Ou;exact zcn (i:=i) (VU.mp nd).2 (by simpa using h1) (by simpa using h2) hk
def start (N:List Str)(vs:List V):St:=vs.map some++Xj (N.length-vs.length) none
def zd5 (CX:CXT)(P:Xl)(w:W3)(K:X6)(mg:Str->Option X9)(base:Heap)(N:List Str)(qual:Str)(scope:Vb)(f:Addr)(cd:X9)(A:WW)(outer:List Env)(s:X8)(H:Hp)(E:XK):Cx where
 prog:=P
 w:=w
 K:=K
 mg:=mg
 base:=base
 A:=A.deeper (Qb qual scope s.heap.objs.size f cd)
 N:=N
 s₀:=s
 H₀:=H
 env:=Qb qual scope s.heap.objs.size f cd
 outer:=outer
 stack:=Qb qual scope s.heap.objs.size f cd::outer
 ex:=[]
 calm:=true
 fn:=fun _=>true
 pn:=[]
 xe:=fun e s'=>Xo (Xr P w) (A.deeper (Qb qual scope s.heap.objs.size f cd)) (leaving (Qb qual scope s.heap.objs.size f cd) e) (fun _ s''=>CX outer H s E e s'') (fun e' s''=>CX outer H s E e' s'') s'
theorem zd6 {sc:Vb}{n:Nat}{x:Str}(h:sc.names.lookup x=some .cell):∃c,(R5 n sc.names []).lookup x=some c:=by
 have q:=SM sc.names n [] (.inl h);exact Vz.mp q
theorem zho {CX:CXT}{P:Xl}{w:W3}{K:X6}{mg:Str->Option X9}{base:Heap}{N ps:List Str}{qual:Str}{scope:Vb}{f:Addr}{cd:X9}{A:WW}{outer:List Env}{s s1:X8}{H:Hp}{E:XK}{us:List X9}{vs:List V}
  (S:zF N ps scope) (hd:A.handled=none) (e0:zkg P w K mg base A outer s H) (hl:vs.length=ps.length) (r:Vals vs us)
  (x:InCallC s s.heap.objs.size (Ov (Qb qual scope s.heap.objs.size f cd).kindOf (ps.zip us) fun _=>none) (R5 (s.heap.objs.size+1) scope.names []) (Ou (Qb qual scope s.heap.objs.size f cd).kindOf (ps.zip us) fun _=>none) s1) :
  Inv (zd5 CX P w K mg base N qual scope f cd A outer s H E) [] (start N vs) H s1:=by
 have hpl:ps.length<=N.length:=by have:=congrArg List.length S.pre;rw[XD] at this;lia
 obtain⟨h1,tk,rfl,hk⟩:=x.done;have noA:∀b:Addr,b ∉ (zd5 CX P w K mg base N qual scope f cd A outer s H E).ex:=fun b z=>absurd (show b∈([]:List Addr) from z) (by simp);refine⟨⟨e0.mod,S.kind,rfl,rfl,XW _,fun y z c h1 h2=>?_,fun y hy=>?_,fun y c _ h=>?_,fun _=>hd,Around.frames_deeper e0.frames,.inr ⟨rfl,rfl⟩,fun b z=>absurd z (noA b),e0.bs,e0.bsz,fun b _ _=>noA b,fun b z=>absurd z (noA b),e0.funs,e0.frf⟩,
  rfl,e0.bare,Un.kept hk,⟨_,x.toInCall.ns,fun i y v h1 h2 h3=>?_⟩,fun y c h=>⟨_,x.cell y c h⟩,e0.hok.fresh (XW _),fun y c h=>?_,fun p hp=>absurd (show p∈([]:List (Addr×Obj)) from hp) (by simp),e0.hok.kept hk,?_⟩
 ·exact name_of_addr x.apart (WQ h1) (WQ h2)
 ·have hy:scope.names.lookup y=some .cell\/scope.names.lookup y=some .free:=hy;rcases hy with hy | hy
  ·exact zd6 hy
  ·exact absurd rfl (S.nofree _ (WQ hy))
 ·exact S4 (x.above y c (WQ h))
 ·have hi:i<vs.length:=by
   unfold start at h2;by_cases hi:i<vs.length
   ·exact hi
   ·rw[Ws (by simpa using hi)] at h2;rw[S8] at h2;split at h2<;>cases h2
  have ha:vs[i]?=some v:=by
   unfold start at h2;rw[VZ (by simpa using hi),Xn] at h2;cases e:vs[i]? with
   | none=>rw[e] at h2;cases h2
   | some a=>rw[e] at h2;cases h2;rfl
  obtain⟨u,hu,rv⟩:=r.get ha;have hp:ps[i]?=some y:=by
   rw[<- S.pre,Rr (by lia)];exact h1
  have ndP:ps.Nodup:=by rw[<- S.pre];exact S.nd.sublist (T8 _ _)
  refine⟨u,rv,?_⟩;rcases S.par y (X0 hp) with k | k
  ·exact .inl ⟨k,zcm ndP hp hu k⟩
  ·obtain⟨c,e⟩:=zd6 (n:=s.heap.objs.size+1) k;refine .inr ⟨.inl k,c,e,?_⟩;have q:=x.cell y c e;rw[zcn ndP hp hu (by show scope.names.lookup y≠_;rw[k];decide)] at q;exact q
 ·exact e0.hok.fresh (S4 (x.above y c (WQ h)))
 ·unfold start;show _=N.length;rw[XZ,Y1,WY];lia
theorem zls {CX:CXT}{P:Xl}{w:W3}{K:X6}{mg:Str->Option X9}{base:Heap}{k:Nat}{f:Addr}{name qual:Str}{params:Arguments}{body:List Stmt}{scope:Vb}{dV kV doc pm cdv ct oc:X9}{an od:Option Addr}
  {osl:Array (Option X9)} {N ps:List Str} {sp:Sp} (lk:K.lookup f=some ⟨oc,od,.func (UO name qual params body scope dV kV doc pm an cdv ct),osl⟩) (hcd:SY K cdv qual=true) (S:zF N ps scope)
  (len:∀vs H Q E,sp vs H Q E->vs.length=ps.length)
  (hbody:∀(A:WW) (outer:List Env) (s:X8) (H:Hp) (vs:List V) (Q:VK) (E:XK),Jj k (A.deeper (Qb qual scope s.heap.objs.size f cdv))->sp vs H Q E ->
   ∃t,PSs (zd5 CX P w K mg base N qual scope f cdv A outer s H E) body t/\t { nx:=fun _ H'=>Q .non H',rt:=Q } (start N vs) H) :
  qi P w K mg base CX (k+1) f (UO name qual params body scope dV kV doc pm an cdv ct) ps sp:=by
 refine⟨len,fun A outer s H args us vs Q E hr e0 hb r hsp=>?_⟩;have hl:=len _ _ _ _ hsp;have KX:K.In s.heap:=e0.mod.kin.keeps fun b o e=>(e0.bs b o e).1;have lim:s.heap.NoLimit:=e0.mod.nolimit.keeps fun b o e=>(e0.bs b o e).1;have hkind:∀y∈ps.zip us,scope.names.lookup y.1=some .local\/(scope.names.lookup y.1=some .cell/\((R5 (s.heap.objs.size+1) scope.names []).lookup y.1).isSome=true):=fun ⟨n,v⟩ hy=>by
  rcases S.par n (PN hy).1 with q | q
  ·exact .inl q
  ·exact .inr ⟨q,SM _ _ _ (.inl q)⟩
 refine codeAny_call_function hr.depth (KX _ _ lk) rfl S.co S.gen rfl (PySem.W.codeRec_of KX hcd) (hb _ _ _ _ ?_);refine wpAny_newFunctionEnv_cells S.kind hkind fun env he s1 x=>?_;subst he;refine⟨lim.keeps x.toInCall.keep,codeAny_func ?_⟩;obtain⟨t,ht,hq⟩:=hbody A outer s H vs Q E (hr.deeper _) hsp;have I:Inv (zd5 CX P w K mg base N qual scope f cdv A outer s H E) [] (start N vs) H s1:=zho S hr.hd e0 hl r x;refine Xa (ht [] s1 (start N vs) H _ I hq) (fun fl s' hs=>?_) fun e s' hs=>hs;have fin:∀{σ':St} {H':Hp} {v:V} {u:X9},Inv (zd5 CX P w K mg base N qual scope f cdv A outer s H E) [] σ' H' s'->RelV v u->Q v H'->CE outer P w H s Q u s' :=
  fun {σ' H' v u} J rv q=>⟨v,H',J.os,J.bare,J.base,J.hok,rv,q⟩
 cases fl with
 | ret u =>
  obtain⟨v,σ',H',J,rv,q⟩:=hs;exact fin J rv q
 | next =>
  obtain⟨σ',H',J,q⟩:=hs;exact fin (v:=V.non) (u:=Value.none) J rfl q
 | brk =>
  obtain⟨_,_,_,q⟩:=hs;exact Wn q
 | cont =>
  obtain⟨_,_,_,q⟩:=hs;exact Wn q
section
variable {X:Cx}{x:Str}{p pos:Pos}{e:Expr}{es:List Expr}{t:TA}{id T:String}{r:List V->Hp->VK->Prop}
def tCB (r:List V->Hp->VK->Prop)(t:TA):TE:=fun σ H Q=>t σ H fun vs H1=>r vs H1 Q
theorem zp (hc:jR X (.builtin id) r)(hg:Gl X x)(hm:X.mg x=none)(hv:TV x=some (.builtin id))(ha:PA X (e::es) t)(hn:x ≠ "__name__":=by decide)(hdb:(x==("__debug__":Str))=false:=by decide)
  (he:WB (e::es) X.env=(false,eval e X.env)::WB es X.env:=by rfl) (hpl:(SG pos (WB es X.env)).any (·.1)=false:=by rfl):PE X (.Call (.Name x p) (e::es) [] pos) (tCB r t):=by
 intro pins s σ H Q I h;refine Tg (ZQ I hg hm hv ?_ hn hdb);exact PyProof.Rows.callWith_builtin1 (thn (ha pos pins s σ H _ I h) fun us s1 ⟨vs,H1,I1,r1,q1⟩=>hc pins s1 σ H1 vs us Q I1 r1 q1) he hpl
theorem jS (hc:jR X (.type T) r)(hg:Gl X x)(hm:X.mg x=none)(hv:TV x=some (.type T))(ha:PA X (e::es) t)(hn:x ≠ "__name__":=by decide)(hdb:(x==("__debug__":Str))=false:=by decide)
  (he:WB (e::es) X.env=(false,eval e X.env)::WB es X.env:=by rfl) (hpl:(SG pos (WB es X.env)).any (·.1)=false:=by rfl):PE X (.Call (.Name x p) (e::es) [] pos) (tCB r t):=by
 intro pins s σ H Q I h;refine Tg (ZQ I hg hm hv ?_ hn hdb);exact VJ (thn (ha pos pins s σ H _ I h) fun us s1 ⟨vs,H1,I1,r1,q1⟩=>hc pins s1 σ H1 vs us Q I1 r1 q1) he hpl
end
end L2
namespace HT
open PySem PyProof.Rows
section
open PySem.SeqAt
open PySem.AutoSeq1 (wpAny_loadPart')
open PySem.MeetsSeq PySem.MeetsSeq2 PySem.MeetsSeq3
end
section
variable {prog:Xl}{w:W3}{A:WW}{E:X9->X8->Prop}{s:X8}
def sIx (n d:Nat):Option Int->Nat
 | none=>d
 | some v=>if v<0 then (v+(n:Int)).toNat else min v.toNat n
theorem Jr (n d k:Nat):sIx n d (some (k:Int))=min k n:=by
 show (if (k:Int)<0 then ((k:Int)+(n:Int)).toNat else min (k:Int).toNat n)=min k n;rw[if_neg (by lia),RC]
end
end HT
namespace L2
open PySem PySem.Spec PyProof.Rows
abbrev TO:=St->Hp->(Option Int->Hp->Prop)->Prop
def PO (X:Cx)(e:Option Expr)(t:TO):Prop :=
 ∀(pins:List (Addr×Obj)) (s:X8) (σ:St) (H:Hp) (Q:Option Int->Hp->Prop),Inv X pins σ H s->t σ H Q ->
  Xo (Xr X.prog X.w) X.A (evalPart e X.env) (fun u s'=>∃o H',Inv X pins σ H' s'/\IsPart u o/\Q o H') X.xe s
def zkh:TO:=fun _ H Q=>Q none H
def zno (t:TE):TO:=fun σ H Q=>t σ H fun x H1=>∃i,x=.int i/\Q (some i) H1
section
variable {X:Cx}{e:Expr}{te:TE}{lo hi:Option Expr}{tl th:TO}{pos p2:Pos}
theorem Qj:PO X none zkh:=by
 intro pins s σ H Q I h;rw[evalPart_none];exact XY ⟨none,H,I,.none,h⟩
theorem j8 (h:PE X e te):PO X (some e) (zno te):=by
 intro pins s σ H Q I hw;rw[evalPart_some];refine thn (h pins s σ H _ I hw) fun u s1 ⟨x,H1,I1,r1,q1⟩=>?_;obtain⟨i,rfl,q⟩:=q1;obtain⟨t,rfl⟩:=r1;exact⟨some i,H1,I1,.int i t,q⟩
def SlR (X:Cx)(r:V->Option Int->Option Int->Hp->VK->Prop):Prop :=
 ∀(pins:List (Addr×Obj)) (s:X8) (σ:St) (H:Hp) (x:V) (v vl vu:X9) (lo hi:Option Int) (sl:Addr) (Q:VK),Inv X pins σ H s->RelV x v->s.heap.IsSliceOf sl vl vu .none->IsPart vl lo->IsPart vu hi->r x lo hi H Q ->
  ∃T id,OV (.type T) "__getitem__"=pure (some (.builtin id))/\s.TypeIs v T/\Xo (Xr X.prog X.w) X.A (Pb v (.ref sl)) (EP X pins σ Q) X.xe s
def tSl (r:V->Option Int->Option Int->Hp->VK->Prop)(te:TE)(tl th:TO):TE:=fun σ H Q=>te σ H fun x H1=>tl σ H1 fun l H2=>th σ H2 fun u H3=>r x l u H3 Q
theorem yP {r:V->Option Int->Option Int->Hp->VK->Prop}(hr:SlR X r)(he:PE X e te)(hl:PO X lo tl)(hu:PO X hi th):PE X (.Subscript e (.Slice lo hi none p2) pos) (tSl r te tl th):=by
 intro pins s σ H Q I h;refine Subscript_ (thn (he pins s σ H _ I h) fun v s1 ⟨x,H1,I1,r1,q1⟩=>?_);refine wpAny_Slice (thn (hl pins s1 σ H1 _ I1 q1) fun vl s2 ⟨l,H2,I2,pl,q2⟩=>thn (hu pins s2 σ H2 _ I2 q2) fun vu s3 ⟨u,H3,I3,pu,q3⟩=>?_);rw[evalPart_none];refine XY ?_;have I4:Inv X pins σ H3 { s3 with heap:=s3.heap.push { cls:=.type "slice",data:=.fields #[vl,vu,.none] } }:=I3.kept (t':=s3.toks) fun b ob q=>X7 _ q;obtain⟨T,id,hT,ht,hg⟩:=hr pins { s3 with heap:=s3.heap.push { cls:=.type "slice",data:=.fields #[vl,vu,.none] } } σ H3 x v vl vu l u s3.heap.objs.size Q I4 r1 (Heap.IsSliceOf.new ..) pl pu q3;show Xo (Xr X.prog X.w) X.A (O2 e (.Slice lo hi none p2) v (.ref s3.heap.objs.size)) (EP X pins σ Q) X.xe { s3 with heap:=s3.heap.push { cls:=.type "slice",data:=.fields #[vl,vu,.none] } };exact tail_any (ops:=[.ref s3.heap.objs.size,v]) ht hT hg (by with_unfolding_all rfl)
def ZP (xs:List V)(lo hi:Option Int):List V:=(xs.drop (HT.sIx xs.length 0 lo)).take (HT.sIx xs.length xs.length hi-HT.sIx xs.length 0 lo)
theorem zd7 (xs:List V)(lo hi:Option Int):(ZP xs lo hi).length<=xs.length:=by
 unfold ZP;rw[XD,V9];lia
end
def ixN (n:Nat)(i:Int):Option Nat:=if 0<=i then (if i<n then some i.toNat else none) else if -(n:Int)<=i then some (i+n).toNat else none
def atI {α:Type}(xs:List α)(i:Int):Option α:=(ixN xs.length i).bind fun j=>xs[j]?
theorem zgB {n:Nat}{i:Int}{j:Nat}(h:ixN n i=some j):seqIndex? i n=some j/\j<n/\-(n:Int)<=i/\i<n:=by
 unfold ixN at h;by_cases h0:0<=i
 ·rw[if_pos h0] at h;by_cases h1:i<n
  ·rw[if_pos h1] at h;have e:i.toNat=j:=Option.some.inj h;exact⟨by rw[Pr h0 h1,e],by lia,by lia,h1⟩
  ·rw[if_neg h1] at h;cases h
 ·rw[if_neg h0] at h;by_cases h1:-(n:Int)<=i
  ·rw[if_pos h1] at h;have e:(i+n).toNat=j:=Option.some.inj h;exact⟨by rw[P8 (by lia) h1,e],by lia,h1,by lia⟩
  ·rw[if_neg h1] at h;cases h
theorem zaL {α:Type}{xs:List α}{i:Int}{v:α}(h:atI xs i=some v):∃j,seqIndex? i xs.length=some j/\xs[j]?=some v/\j<xs.length/\-(xs.length:Int)<=i/\i<xs.length:=by
 unfold atI at h;cases e:ixN xs.length i with
 | none=>rw[e] at h;cases h
 | some j =>
  rw[e] at h;obtain⟨h1,h2,h3,h4⟩:=zgB e;exact⟨j,h1,h,h2,h3,h4⟩
theorem xF {α:Type}{xs:List α}{j:Nat}{v:α}(h:xs[j]?=some v):atI xs (j:Int)=some v:=by
 have hj:j<xs.length:=(X2.mp h).1;have e:ixN xs.length (j:Int)=some j:=by
  unfold ixN;rw[if_pos (by lia),if_pos (by lia)];simp
 unfold atI;rw[e];exact h
def zki (b:Expr):Prop:=∀o i,Pq b false o i=operate [o,i] (Pb o i)
def IxR (X:Cx)(r:R2):Prop :=
 ∀(value slice:Expr) (pins:List (Addr×Obj)) (s:X8) (σ:St) (H:Hp) (x y:V) (v u:X9) (Q:VK),Inv X pins σ H s->RelV x v->RelV y u->r x y H Q ->
  Pq slice false v u=operate [v,u] (Pb v u)->Xo (Xr X.prog X.w) X.A (O2 value slice v u) (EP X pins σ Q) X.xe s
def MtR (X:Cx)(id:String)(r:V->List V->Hp->VK->Prop):Prop :=
 ∀(pins:List (Addr×Obj)) (s:X8) (σ:St) (H:Hp) (x:V) (xs:List V) (v:X9) (us:List X9) (Q:VK),Inv X pins σ H s->RelV x v->Vals xs us->r x xs H Q ->
  Xo (Xr X.prog X.w) X.A (call (.builtin id) (v::us)) (EP X pins σ Q) X.xe s
section
variable {X:Cx}{a b:Expr}{ta tb:TE}{pos:Pos}
theorem qw {r:R2}(hr:IxR X r)(ha:PE X a ta)(hb:PE X b tb)(hs:zki b):PE X (.Subscript a b pos) (tOp r ta tb):=by
 intro pins s σ H Q I h;exact Subscript_ (zlV ha hb I h fun v u s2 x y H2 I2 rx ry q=>hr a b pins s2 σ H2 x y v u Q I2 rx ry q (hs _ _))
def znp (K:X6):R2:=fun x y H Q=>∃p xs i v,x=.ref p/\y=.int i/\SqL K H p xs/\atI xs i=some v/\Q v H
def zoj (K:X6):R2:=fun x y H Q=>∃p xs i v,x=.ref p/\y=.int i/\SqT K H p xs/\atI xs i=some v/\Q v H
def zok:R2:=fun x y H Q=>∃z i c,x=.str z/\y=.int i/\z.length<=XC/\atI z.cps.toList i=some c/\Q (.str ⟨#[c]⟩) H
theorem zkj:IxR X (znp X.K):=by
 intro value slice pins s σ H x y v u Q I rx ry h hs;obtain⟨p,xs,i,z,rfl,rfl,hq,he,q⟩:=h;cases rx;obtain⟨t,rfl⟩:=ry;obtain⟨its,r,pl,hz⟩:=I.list hq;obtain⟨j,h1,h2,h3,h4,h5⟩:=zaL he;obtain⟨w,ew,rw'⟩:=r.get h2;have hl:=r.length;have hn:=ZT;have fin:EP X pins σ Q w s:=⟨z,H,I,rw',q⟩;by_cases h0:0<=i
 ·have hj:i.toNat=j:=by
   rw[Pr h0 h5] at h1;exact Option.some.inj h1
  exact item_listR pl.isList h0 (by lia) (by rw[hj];simpa using ew) fin hs
 ·have hj:(i+(its.toArray.size:Int)).toNat=j:=by
   rw[P8 (by lia) h4] at h1;rw[Xv,<- hl];exact Option.some.inj h1
  exact P6 (x:=w) pl.isList.typeIs slot_list_getitem.lookup
   (P1 (Q:=fun r s'=>r=w/\EP X pins σ Q r s') pl.isList (by lia) (by rw[Xv]<;>lia) (by lia) (by rw[hj];simpa using ew) ⟨rfl,fin⟩) hs
theorem zl7:IxR X (zoj X.K):=by
 intro value slice pins s σ H x y v u Q I rx ry h hs;obtain⟨p,xs,i,z,rfl,rfl,hq,he,q⟩:=h;cases rx;obtain⟨t,rfl⟩:=ry;obtain⟨its,r,pl,hz⟩:=I.tuple hq;obtain⟨j,h1,h2,h3,h4,h5⟩:=zaL he;obtain⟨w,ew,rw'⟩:=r.get h2;have hl:=r.length;have hn:=ZT;have fin:EP X pins σ Q w s:=⟨z,H,I,rw',q⟩;exact P6 (x:=w) pl.typeIs slot_tuple_getitem.lookup
  (getItem_tuple (j:=j) (Q:=fun r s'=>r=w/\EP X pins σ Q r s') pl (by lia) (by lia) (by rw[Xv,<- hl];exact h1) (by simpa using ew) ⟨rfl,fin⟩) hs
theorem zl8:IxR X zok:=by
 intro value slice pins s σ H x y v u Q I rx ry h hs;obtain⟨z,i,c,rfl,rfl,hz,he,q⟩:=h;obtain⟨t,rfl⟩:=rx;obtain⟨t',rfl⟩:=ry;obtain⟨j,h1,h2,h3,h4,h5⟩:=zaL he;have hl:z.cps.toList.length=z.length:=by simp[Str.length]
 rw[hl] at h1 h4 h5;have hn:=ZT;exact tail_any (typeIs_str s z t) slot_str_getitem.lookup (getItem_str (c:=c) (by
  have e1:decide (i < -(2^63:Int))=false:=decide_eq_false (by lia);have e2:decide (i >= 2^63)=false:=decide_eq_false (by lia);rw[e1,e2,Bool.or_false]) (by rw[h1];simpa using h2) ⟨.str ⟨#[c]⟩,H,I.tok _,⟨_,rfl⟩,q⟩) hs
theorem zfu (its:List X9)(n j:Nat)(u:X9):U6 (·.setIfInBounds j u) { cls:=.type "list",data:=.seq its.toArray n }={ cls:=.type "list",data:=.seq (its.set j u).toArray n }:=by
 simp[U6]
theorem Inv.lst {pins:List (Addr×Obj)}{σ:St}{H:Hp}{s:X8}{p:Addr}{xs:List V}(I:Inv X pins σ H s)(h:H p=some (.lst xs)) :
  ∃(its:List X9) (n:Nat),Vals xs its/\s.heap.get? p=some { cls:=.type "list",data:=.seq its.toArray n }/\xs.length<=XC:=by
 obtain⟨z,its,n,r,e⟩:=I.hok p _ h;exact⟨its,n,r,e,z⟩
theorem Inv.lstUpd {pins:List (Addr×Obj)}{σ:St}{H:Hp}{s:X8}{p:Addr}{xs ys:List V}{its its':List X9}{n n':Nat}{f:Obj->Obj}(I:Inv X pins σ H s)(h:H p=some (.lst xs))
  (ho:s.heap.get? p=some { cls:=.type "list",data:=.seq its.toArray n }) (hf:f { cls:=.type "list",data:=.seq its.toArray n }={ cls:=.type "list",data:=.seq its'.toArray n' }) (r:Vals ys its') (hz:ys.length<=XC) (t:Nat) :
  Inv X pins σ (upd H p (.lst ys)) { s with heap:=s.heap.update p f,toks:=t }:=by
 have e:(s.heap.update p f).get? p=some { cls:=.type "list",data:=.seq its'.toArray n' }:=by
  rw[Wh f ho (by rw[hf]<;>rfl),hf]
 refine I.write (x:=p) (e:=p) (by rw[h];trivial) (.inl rfl) (fun b u hb q=>(VF _ _ (Vy hb)).trans q) ⟨_,e⟩ ?_;exact⟨hz,its',n',r,e⟩
def znq:V->V->V->Hp->(Hp->Prop)->Prop:=fun o i v H Q=>∃p xs k j,o=.ref p/\i=.int k/\H p=some (.lst xs)/\ixN xs.length k=some j/\Q (upd H p (.lst (xs.set j v)))
theorem set_list:zlT X znq:=by
 intro pins s σ H o i v ov iv u Q I ro ri rv h;obtain⟨p,xs,k,j,rfl,rfl,hp,hj,q⟩:=h;cases ro;obtain⟨t,rfl⟩:=ri;obtain⟨its,n,r,ho,hz⟩:=I.lst hp;obtain⟨h1,h2,h3,h4⟩:=zgB hj;have hl:=r.length;have hn:=ZT;have I':Inv X pins σ (upd H p (.lst (xs.set j v))) { s with heap:=s.heap.update p (U6 (·.setIfInBounds j u)) } :=
  I.lstUpd hp ho (zfu its n j u) (r.set rv j) (by rw[List.length_set];exact hz) s.toks
 by_cases h0:0<=k
 ·have hk:k.toNat=j:=by
   rw[Pr h0 h4] at h1;exact Option.some.inj h1
  exact PySem.W.ki_setAt ho h0 (by lia) (by rw[Xv,<- hl];exact h4) (by rw[hk];exact⟨_,I',q⟩)
 ·have hk:(k+(its.toArray.size:Int)).toNat=j:=by
   rw[P8 (by lia) h3] at h1;rw[Xv,<- hl];exact Option.some.inj h1
  exact PySem.W.ki_setBack ho (by lia) (by rw[Xv,<- hl];exact h3) (by lia) (by rw[hk];exact⟨_,I',q⟩)
theorem zdk (lo hi:Option Int)(n:Nat):(Ta lo hi none n).1=((HT.sIx n 0 lo:Nat):Int)/\(Ta lo hi none n).2.1=((HT.sIx n n hi:Nat):Int)/\(Ta lo hi none n).2.2=1:=by
 refine⟨?_,?_,rfl⟩
 ·cases lo with
  | none=>simp[Ta,HT.sIx]
  | some i =>
   simp only[Ta,HT.sIx,Option.getD_none,show (1:Int)>0 by decide,if_true];by_cases h:i<0
   ·simp only[h,if_true]<;>lia
   ·simp only[h,if_false]<;>lia
 ·cases hi with
  | none=>simp[Ta,HT.sIx]
  | some i =>
   simp only[Ta,HT.sIx,Option.getD_none,show (1:Int)>0 by decide,if_true];by_cases h:i<0
   ·simp only[h,if_true]<;>lia
   ·simp only[h,if_false]<;>lia
theorem zb3 (its:List X9)(lo hi:Option Int):slicePick its.toArray lo hi none=((its.drop (HT.sIx its.length 0 lo)).take (HT.sIx its.length its.length hi-HT.sIx its.length 0 lo)).toArray:=by
 obtain⟨h1,h2,h3⟩:=zdk lo hi its.toArray.size;unfold slicePick;rw[h1,h2,h3];simp only[sliceRange_one,pick_run,Xv]<;>rfl
def zol (K:X6):V->Option Int->Option Int->Hp->VK->Prop:=fun x lo hi H Q=>∃a xs,x=.ref a/\SqL K H a xs/\∀p,H p=none->Q (.ref p) (upd H p (.lst (ZP xs lo hi)))
theorem Js:SlR X (zol X.K):=by
 intro pins s σ H x v vl vu lo hi sl Q I rx hs pl pu h;obtain⟨a,xs,rfl,hx,q⟩:=h;cases rx;obtain⟨its,r,ht,hz⟩:=I.list hx;have hlen:=r.length;refine⟨"list",_,slot_list_getitem.lookup,ht.isList.typeIs,?_⟩;refine wpAny_getItem_list_slice ht.isList hs pl pu .none (by simp) ?_ (by rw[Xv]<;>lia);rw[zb3,<- hlen];refine⟨.ref s.heap.objs.size,_,I.laid (t':=s.toks) (o:=.lst (ZP xs lo hi)) (fun b ob q=>X7 _ q) (XW _) ?_,rfl,q _ (I.hok.fresh (XW _))⟩;exact⟨XV (zd7 xs lo hi) hz,_,0,(r.drop (HT.sIx xs.length 0 lo)).take (HT.sIx xs.length xs.length hi-HT.sIx xs.length 0 lo),Xb _ rfl⟩
theorem zdl:jR X (.builtin "len") (fun xs H Q=>∃p ys,xs=[.ref p]/\(SqL X.K H p ys\/SqT X.K H p ys)/\Q (.int ys.length) H):=by
 intro pins s σ H xs us Q I r h;obtain⟨p,ys,rfl,hq,q⟩:=h;obtain⟨u,rfl,rx⟩:=vals1 r;cases rx;have hn:=ZT;rcases hq with hq | hq
 ·obtain⟨its,r',pl,hz⟩:=I.list hq;have hlen:=r'.length;exact Calls.call_len_list pl.isList (by simp only[Xv]<;>lia) ⟨.int ys.length,H,I.tok _,⟨s.toks+1,by rw[Xv,hlen]⟩,q⟩
 ·obtain⟨its,r',pl,hz⟩:=I.tuple hq;have hlen:=r'.length;exact len_tuple pl (by simp only[Xv]<;>lia) ⟨.int ys.length,H,I.tok _,⟨s.toks+1,by rw[Xv,hlen]⟩,q⟩
theorem Qk:jR X (.builtin "len") (fun xs H Q=>∃z,xs=[.str z]/\z.length<=XC/\Q (.int z.length) H):=by
 intro pins s σ H xs us Q I r h;obtain⟨z,rfl,hz,q⟩:=h;obtain⟨u,rfl,t,rfl⟩:=vals1 r;have hn:=ZT;exact len_str (by lia) ⟨.int z.length,H,I.tok _,⟨_,rfl⟩,q⟩
theorem Ql:jR X (.type "list") (fun xs H Q=>∃p ys,xs=[.ref p]/\(SqL X.K H p ys\/SqT X.K H p ys)/\∀l,H l=none->Q (.ref l) (upd H l (.lst ys))):=by
 intro pins s σ H xs us Q I r h;obtain⟨p,ys,rfl,hq,q⟩:=h;obtain⟨u,rfl,rx⟩:=vals1 r;cases rx;have fin:∀(its:List X9),Vals ys its->ys.length<=XC->∀(h':Heap) (c':Nat),(∀b o',s.heap.get? b=some o'->h'.get? b=some o') ->
   h'.get? s.heap.objs.size=some { cls:=.type "list",dict:=none,data:=.seq its.toArray c',slots:=#[] }->EP X pins σ Q (.ref s.heap.objs.size) { s with heap:=h' }:=fun its r' hz h' c' kp e =>
  ⟨.ref s.heap.objs.size,_,I.laid (t':=s.toks) kp (XW _) (show qM X.prog X.w _ h' _ (.lst ys) from ⟨hz,its,c',r',e⟩),rfl,q _ (I.hok.fresh (XW _))⟩
 rcases hq with hq | hq
 ·obtain⟨its,r',pl,hz⟩:=I.list hq;have hlen:=r'.length;obtain⟨o,ho,hc,n,hd⟩:=pl.isList;exact call_list_seq p (.inl rfl) ho hc hd (fun h' c' kp e=>fin its r' hz h' c' kp e) (by simp only[Xv]<;>lia)
 ·obtain⟨its,r',pl,hz⟩:=I.tuple hq;have hlen:=r'.length;obtain⟨o,ho,hc,n,hd⟩:=pl;exact call_list_seq p (.inr rfl) ho hc hd (fun h' c' kp e=>fin its r' hz h' c' kp e) (by simp only[Xv]<;>lia)
def tyV (K:X6)(T:String)(x:V)(H:Hp):Prop:=match x with
 | .str _=>T="str"
 | .int _=>T="int"
 | .ref p=>(T="list"/\∃xs,SqL K H p xs)\/(T="tuple"/\∃o,K.lookup p=some o/\o.cls=.type "tuple"/\o.dict=none) \/
   (T="dict"/\((∃kvs,H p=some (.dK kvs))\/∃kvs,H p=some (.dT kvs)))\/(T="set"/\∃S n,H p=some (.set S n))
 | _=>False
theorem zl9 {pins:List (Addr×Obj)}{σ:St}{H:Hp}{s:X8}{T:String}{x:V}{v:X9}(I:Inv X pins σ H s)(r:RelV x v)(ty:tyV X.K T x H) :
  s.TypeIs v T/\∀a,v=.ref a->∃ob,s.heap.get? a=some ob/\ob.dict=none:=by
 cases x with
 | str z =>
  obtain⟨t,rfl⟩:=r;cases (show T="str" from ty);exact⟨typeIs_str s z t,fun _ e=>nomatch e⟩
 | int i =>
  obtain⟨t,rfl⟩:=r;cases (show T="int" from ty);exact⟨typeIs_int s i t,fun _ e=>nomatch e⟩
 | ref p =>
  cases r;rcases ty with ⟨rfl,xs,hq⟩ | ⟨rfl,o,hk,hc,hd⟩ | ⟨rfl,hk⟩ | ⟨rfl,S,n,hk⟩
  ·obtain⟨its,_,pl,_⟩:=I.list hq;refine⟨pl.isList.typeIs,fun a e=>?_⟩;cases e;obtain⟨o,n,e,c,hd,_⟩:=pl;exact⟨o,e,hd⟩
  ·refine⟨⟨o,I.kIn p o hk,hc⟩,fun a e=>?_⟩;cases e;exact⟨o,I.kIn _ o hk,hd⟩
  ·have z:∃o,s.heap.get? p=some o/\o.ExactDict:=by
    rcases hk with ⟨kvs,hk⟩ | ⟨kvs,hk⟩
    ·obtain⟨_,_,_,_,o,_,_,e,ex,_⟩:=I.hok p _ hk;exact⟨o,e,ex⟩
    ·obtain⟨_,_,_,_,o,_,_,e,ex,_⟩:=I.hok p _ hk;exact⟨o,e,ex⟩
   obtain⟨o,e,ex⟩:=z;refine⟨⟨o,e,ex.1⟩,fun a e2=>?_⟩;cases e2;exact⟨o,e,ex.2.1⟩
  ·obtain⟨o,_,_,_,e,ex,_⟩:=I.hok p _ hk;refine⟨⟨o,e,ex.1⟩,fun a e2=>?_⟩;cases e2;exact⟨o,e,ex.2.1⟩
 | _=>exact Wn ty
def tBM (K:X6)(T:String)(r:V->List V->Hp->VK->Prop)(to:TE)(t:TA):TE:=fun σ H Q=>to σ H fun x H1=>tyV K T x H1/\t σ H1 fun xs H2=>r x xs H2 Q
variable {o e:Expr}{es:List Expr}{to:TE}{t:TA}{name:Str}{apos cpos:Pos}{T id:String}{r:V->List V->Hp->VK->Prop}
theorem ZK (pa:PlainAttrs T)(slot:Slot T name id)(hty:typeOf (.builtin id)=pure (.type "method_descriptor"))(hm:MtR X id r)(ho:PE X o to)(ha:PA X (e::es) t)
  (hbase:attributeBase o name X.env (eval o X.env)=eval o X.env:=by rfl)
  (hfew:((SG cpos (WB (e::es) X.env)).all (fun x=>!x.1)&&(backToKw cpos (keywordEach [] X.env)).all (fun x=>x.1.isSome)
   && decide ((e::es).length+([]:List Keyword).length+(if ([]:List Keyword).isEmpty then 0 else 1)<30))=true:=by rfl)
  (hline:(apos.endLine==cpos.line)=true:=by rfl) (hs:WB (e::es) X.env=(false,eval e X.env)::WB es X.env:=by rfl) (hplain:(SG cpos (WB es X.env)).any (·.1)=false:=by rfl) :
  PE X (.Call (.Attribute o name apos) (e::es) [] cpos) (tBM X.K T r to t):=by
 intro pins s σ H Q I h;refine wpAny_Call_method_late hbase hfew hline rfl (thn (ho pins s σ H _ I h) fun v s1 ⟨x,H1,I1,r1,ty,q1⟩=>?_);obtain⟨h1,h2⟩:=zl9 I1 r1 ty;refine⟨T,id,pa,slot,hty,h1,h2,?_⟩;have hA:=ha cpos pins s1 σ H1 _ I1 q1;rw[hs] at hA ⊢;refine Calls.callWith_builtin (by show (false || (SG cpos (WB es X.env)).any (·.1))=false;rw[hplain]<;>rfl) (Pk ?_);exact thn hA fun us s2 ⟨vs,H2,I2,r2,q2⟩=>hm pins s2 σ H2 x vs v us Q I2 r1 r2 q2
/- xs.append(e),list.index on a module's tuple .. are MtR facts of 06m -/
end
def MtM (X:Cx)(id:String)(r:V->List V->Hp->VK->Prop):Prop :=
 ∀(pins:List (Addr×Obj)) (s:X8) (σ:St) (H:Hp) (x:V) (xs:List V) (v:X9) (us:List X9) (Q:VK),Inv X pins σ H s->RelV x v->Vals xs us->r x xs H Q ->
  Xo (Xr X.prog X.w) X.A (call (.builtin id) (v::us)) (EP X pins σ Q) X.xe s
theorem Vals.one:∀{x:V} {us:List X9},Vals [x] us->∃u,us=[u]/\RelV x u
 | _,_,.cons r .nil=>⟨_,rfl,r⟩
theorem Vals.rep {xs:List V}{us:List X9}(h:Vals xs us):∀k:Nat,Vals (Xj k xs).flatten (Xj k us).flatten
 | 0=>.nil
 | k+1=>by
  rw[VE,VE,WA,WA];exact Vals.append h (Vals.rep h k)
theorem foldl_rep (its:List X9):∀(k:Nat) (acc:List X9),
  List.foldl (fun x1 x2=>x1++x2) acc.toArray (Xj k its.toArray)=(acc++(Xj k its).flatten).toArray
 | 0,acc=>by simp
 | k+1,acc=>by
  have e:acc.toArray++its.toArray=(acc++its).toArray:=by simp
  have e2:(acc++its)++(Xj k its).flatten=acc++(Xj (k+1) its).flatten:=by
   rw[VE,WA,W7]
  rw[<- e2,<- foldl_rep its k (acc++its),<- e,VE,VT]
section
variable {X:Cx}{pins:List (Addr×Obj)}{σ:St}{H:Hp}{s:X8}{l b:Addr}{xs ys zs:List V}
theorem Inv.lset {its its':List X9}{n:Nat}{f:Array X9->Array X9}{t':Nat}(I:Inv X pins σ H s)(hH:H l=some (.lst xs))
  (e:s.heap.get? l=some { cls:=.type "list",data:=.seq its.toArray n }) (hf:f its.toArray=its'.toArray) (hv:Vals ys its') (hz:ys.length<=XC) :
  Inv X pins σ (upd H l (.lst ys)) { s with heap:=s.heap.update l (U6 f),toks:=t' }:=by
 have q:=PySem.IsL.update e f;rw[hf] at q;refine I.write (x:=l) (e:=l) (by rw[hH];exact trivial) (.inl rfl) (fun b' u hb hu=>(VF s.heap (U6 f) (Vy hb)).trans hu) ⟨_,q⟩ ?_;exact⟨hz,its',_,hv,q⟩
theorem Inv.lnew {its:List X9}{t':Nat}(I:Inv X pins σ H s)(hv:Vals ys its)(hz:ys.length<=XC) :
  Inv X pins σ (upd H s.heap.objs.size (.lst ys)) { s with heap:=s.heap.push { cls:=.type "list",data:=.seq its.toArray },toks:=t' } :=
 I.laid (fun _ _ q=>X7 _ q) (XW _) ⟨hz,its,0,hv,Xb _ rfl⟩
theorem Inv.fresh (I:Inv X pins σ H s):H s.heap.objs.size=none:=I.hok.fresh (XW _)
theorem Inv.lstM (I:Inv X pins σ H s)(hH:H l=some (.lst xs)):xs.length<=XC/\∃(its:List X9) (n:Nat),Vals xs its/\xs.length=its.length/\s.heap.get? l=some { cls:=.type "list",data:=.seq its.toArray n }:=by
 obtain⟨z,its,n,r,e⟩:=I.hok l _ hH;exact⟨z,its,n,r,r.length,e⟩
theorem zd8 {n:Nat}(h:n<=XC):UC n=false:=by
 unfold UC;exact decide_eq_false (by lia)
end
section
variable {X:Cx}
def zkk:V->List V->Hp->VK->Prop:=fun x vs H Q=>∃l xs y,x=.ref l/\vs=[y]/\H l=some (.lst xs)/\xs.length<XC/\Q .non (upd H l (.lst (xs++[y])))
theorem xN:MtM X "list.append" zkk:=by
 intro pins s σ H x vs v us Q I rx rv h;obtain⟨l,xs,y,rfl,rfl,hH,hz,q⟩:=h;cases rx;obtain⟨u,rfl,ru⟩:=rv.one;obtain⟨z,its,n,r,hl,e⟩:=I.lstM hH;refine SC F.slot_list_append ⟨_,e,rfl⟩ F.entry_list_append (F.args_list_append_2 _ _) (PySem.list_append l its.toArray n u (by rw[Xv];lia)) ⟨e,?_⟩;refine⟨.non,_,I.lset (its':=its++[u]) hH e (by simp) (r.append (.cons ru .nil)) ?_,rfl,q⟩;rw[XZ,PJ];lia
def zkl:V->List V->Hp->VK->Prop:=fun x vs H Q=>∃l b xs zs,x=.ref l/\vs=[.ref b]/\H l=some (.lst xs)/\H b=some (.lst zs)/\xs.length+zs.length<=XC/\Q .non (upd H l (.lst (xs++zs)))
theorem zco:MtM X "list.extend" zkl:=by
 intro pins s σ H x vs v us Q I rx rv h;obtain⟨l,b,xs,zs,rfl,rfl,hH,hB,hz,q⟩:=h;cases rx;obtain⟨u,rfl,ru⟩:=rv.one;cases ru;obtain⟨z,its,n,r,hl,e⟩:=I.lstM hH;obtain⟨z2,its2,n2,r2,hl2,e2⟩:=I.lstM hB;have hsz:its.toArray.size+its2.toArray.size<=XC:=by rw[Xv,Xv];lia
 have hlong:¬ (!its.toArray.isEmpty&&UC (its.toArray.size+its2.toArray.size))=true:=by
  rw[zd8 hsz,R0];exact XT
 refine SC F.slot_list_extend ⟨_,e,rfl⟩ F.entry_list_extend (F.args_list_extend_2 _ _)
  (AutoSeq1.list_extend_list_list_0 l its.toArray n b its2.toArray n2 hlong (by rw[Xv];lia) (by lia)) ⟨e,e2,?_⟩
 refine⟨.non,_,I.lset (its':=its++its2) hH e (by simp) (r.append r2) ?_,rfl,q⟩;rw[XZ];lia
def zom:R2:=fun x y H Q=>∃l b xs zs,x=.ref l/\y=.ref b/\H l=some (.lst xs)/\H b=some (.lst zs)/\xs.length+zs.length<=XC/\∀p,H p=none->Q (.ref p) (upd H p (.lst (xs++zs)))
theorem Zn:OpR X (UP .Add) zom:=by
 intro pins s σ H x y v u Q I rx ry h;obtain⟨l,b,xs,zs,rfl,rfl,hH,hB,hz,q⟩:=h;cases rx;cases ry;obtain⟨z,its,n,r,hl,e⟩:=I.lstM hH;obtain⟨z2,its2,n2,r2,hl2,e2⟩:=I.lstM hB;refine PySem.P.add_list e e2 ?_ (by rw[Xv,Xv];lia);have ea:its.toArray++its2.toArray=(its++its2).toArray:=by simp
 rw[ea];exact⟨.ref _,_,I.lnew (t':=s.toks) (r.append r2) (by rw[XZ];lia),rfl,q _ I.fresh⟩
def zon:R2:=fun x y H Q=>∃l k xs,x=.ref l/\y=.int k/\H l=some (.lst xs)/\-(2^63)<=k/\k<2^63/\xs.length*k.toNat<=XC /\
 ∀p,H p=none->Q (.ref p) (upd H p (.lst (Xj k.toNat xs).flatten))
theorem len_rep {α:Type}(xs:List α)(k:Nat):(Xj k xs).flatten.length=k*xs.length:=by
 induction k with
 | zero=>simp
 | succ k ih=>rw[VE,WA,XZ,ih,Nat.succ_mul,Nat.add_comm]
theorem zfv:OpR X (UP .Mult) zon:=by
 intro pins s σ H x y v u Q I rx ry h;obtain⟨l,k,xs,rfl,rfl,hH,h1,h2,hz,q⟩:=h;cases rx;obtain⟨t,rfl⟩:=ry;obtain⟨z,its,n,r,hl,e⟩:=I.lstM hH;have hlen:its.toArray.size*k.toNat<=XC:=by rw[Xv,<- hl];exact hz
 have hcap:¬ its.toArray.size*k.toNat>(2^63-1)/8:=by
  have:(XC:Nat)<=(2^63-1)/8:=by decide
  lia
 have hfit:¬ (!Builtin.List.listFitsIndex k)=true:=by
  rw[fitsIndex_both h1 h2];exact XT
 have hlong:¬ UC (its.toArray.size*k.toNat)=true:=by
  rw[zd8 hlen];exact XT
 have hnew:List.foldl (fun x1 x2=>x1++x2) #[] (Xj (if its.toArray.isEmpty=true then 0 else k.toNat) its.toArray)=(Xj k.toNat its).flatten.toArray:=by
  have f0:∀m:Nat,List.foldl (fun x1 x2=>x1++x2) #[] (Xj m its.toArray)=(Xj m its).flatten.toArray:=fun m=>by
   have:=foldl_rep its m [];rw[List.nil_append] at this;exact this
  rw[f0];cases its with
  | nil=>simp
  | cons a r'=>rw[if_neg (by simp)]
 refine wpAny_binaryOp_repeat_ref (T:="list") (U:="int") (by decide) ⟨_,e,rfl⟩ (fun s'=>typeIs_int s' k t) noFill_list_mul F.fills_int_mul F.slot_int_rmul repeat_list F.slot_int_index.lookup
  (SC F.slot_int_rmul (typeIs_int s k t) F.entry_int_rmul (F.args_int_rmul_2 _ _) (int___rmul___int_list k t l its.toArray n)
   ⟨e,rfl,⟨_,e,rfl⟩,SC F.slot_list_mul ⟨_,e,rfl⟩ F.entry_list_mul (F.args_list_mul_2 _ _) (AutoListH.list___mul___list_int_3 l its.toArray n k t hfit hcap hlong) ⟨e,?_⟩⟩)
 rw[hnew];exact⟨.ref _,_,I.lnew (t':=s.toks) (r.rep k.toNat) (by rw[len_rep,OM];exact hz),rfl,q _ I.fresh⟩
end
section
variable {prog:Xl}{w:W3}{A:WW}{E:X9->X8->Prop}{s:X8}
end
section
variable {X:Cx}
end
end L2
namespace Att
open PySem PySem.W PySem.Calls PyProof.Rows
theorem zaE {P:Params}{h:Heap}:∀(ns:List Int) (vs:List X9),WellAll P h vs (ns.map WData.int)->Pa vs ns:=by
 intro ns;induction ns with
 | nil =>
  intro vs w;rw[OL] at w;cases w;exact .nil
 | cons n ns ih =>
  intro vs w;rw[Xs] at w;cases w with
  | cons a b =>
   cases a;exact .cons _ _ (ih _ b)
theorem zhp {l:OpenLaw}{n:Nat}(hn:l.most=some n){P:Params}{h:Heap}{args:List WData}{vals:List X9}
  (hpre:l.row.toRowW.claim.pre args=true) (hwl:WellAll P h vals args) :
  ∃a vs ns,vals=[WJ a]/\args=[WData.list (ns.map WData.int)]/\h.get? a=some { cls:=.type "list",data:=.seq vs.toArray }/\Pa vs ns/\ns.length<=n:=by
 have hsh:WShape.hasAll [] args [.list .int]=true:=(pre_splitW hpre).1;have hc:l.pre.holds [] { args:=args }=true:=(pre_splitW hpre).2;obtain⟨d,r,rfl,h1,h2⟩:=hasAllW_cons hsh;obtain rfl:=hasAllW_nil h2;obtain⟨xs,rfl,h3⟩:=hasW_list h1;obtain⟨ns,rfl⟩:=items_int h3;have hlen:ns.length<=n:=by
  unfold OpenLaw.pre at hc;have h4:(WTm.not (.lt (.lit (.int (n:Int))) (.len (.arg 0)))).holds [] { args:=[.list (ns.map .int)] }=true:=by
   have h4:=(holds_andW hc).1;rw[hn] at h4;exact h4
  have h5:=condW_of h4 (w_not (w_lt w_lit (w_len_list (w_arg rfl))));rw[Y1] at h5;refine Nat.le_of_not_lt fun q=>?_;have q':(n:Int)<((ns.length:Nat):Int):=by lia
  first
   | (rw[decide_eq_true q'] at h5;exact absurd h5 (by decide))
   | (simp at h5;lia)
 cases hwl with
 | cons w1 w2 =>
  cases w2;cases w1 with
  | list ho hall=>exact⟨_,_,ns,rfl,rfl,ho,zaE ns _ hall,hlen⟩
theorem zhq (l:OpenLaw)(args:List WData):l.row.toRowW.claim.post args (.bool true) args=true :=
 postW_of (r:=l.row.toRowW) (X:=(true==true))
  (show WShape.has [] (.bool true) .bool=true by first | rfl | decide | simp[WShape.has,WShape.arms,WShape.armsAll])
  (show (WTm.eq .res (.lit (.bool true))).value [] { args:=args,res:=some (.bool true),after:=args }=some (.bool (true==true)) from w_eq_bool (w_res rfl) w_lit) rfl
theorem zd9 {l:OpenLaw}{n:Nat}{q:Xl}{loose:List Str}{XP:(Str->Option X9)->Heap->Prop}{YP:W3->Heap->Prop}{d:DefRec}
  (hn:l.most=some n) (hdf:d.params.defaults=[])
  (call:∀(w:W3) (s₀ s₁:X8) (mg mb:Str->Option X9) (fa:Addr) (o:Obj) (pm cd doc:X9) (a:Addr) (vs:List X9) (ns:List Int),
   Ground q loose [] XP w s₀ mg mb s₁.heap->YP w s₁.heap ->
   s₁.heap.get? fa=some o->o.data=.func (docDef d.name d.params d.body d.scope pm cd doc)->s₁.heap.CodeRec cd d.name->mg d.name=some (.ref fa) ->
   s₁.heap.get? a=some { cls:=.type "list",data:=.seq vs.toArray }->Pa vs ns->ns.length<=n->s₁.gens=#[] ->
   UR (Xr l.prog w) O9 (.call (.ref fa) ⟨[.ref a],[]⟩) (fun r s'=>r=.ok (.ret (.bool true))/\OldK s₁.heap s'.heap/\s'.os=s₁.os/\S6 s'.gens) s₁) :
  WalkO q loose XP YP l.row.toRowW d [] (fun f vs=>PySem.call f vs):=by
 intro w s₀ s₁ mg mb G Y fa o pm cd doc dV kV ho hd hcd hD hmg hg args vals as hpre hlay hrd hwl hlo;obtain rfl:dV=.none:=Dflts.none hD hdf;obtain rfl:kV=.none:=Dflts.noKw hD;obtain⟨a,vs,ns,rfl,rfl,hobj,hints,hlen⟩:=zhp hn hpre hwl;refine enter_call (Uo (call w s₀ s₁ mg mb fa o pm cd doc a vs ns G Y ho (fd_plain hd) hcd hmg hobj hints hlen hg) fun r s' hq=>?_);obtain⟨rfl,h2,h3,h4⟩:=hq;exact⟨.inl ⟨.bool true,.bool true,[],rfl,fun _=>rfl,.bool true,zhq l _,fun _=>⟨List.Pairwise.nil,fun _ hm=>(nomatch hm)⟩⟩,h2,h3,h4⟩
section
variable {prog:Xl}{w:W3}{A:WW}{E:X9->X8->Prop}{s:X8}{K:Frag}
end
end Att
namespace L2
open PySem PySem.Spec PyProof.Rows
theorem zcp:∀{vs:List X9} {ns:List Int},Pa vs ns->Vals (ns.map V.int) vs
 | _,_,.nil=>.nil
 | _,_,.cons n t h=>.cons ⟨t,rfl⟩ (zcp h)
def zma (H:Hp):Prop:=∀b,H b=none\/∃o xs,H b=some (.frz o (.lst xs))
theorem ziq {P:Xl}{w:W3}{K:X6}{mg mb:Str->Option X9}{CX:CXT}{k:Nat}{fa a:Addr}{fd:Xk}{x:Str}{sp:Sp}{s₁:X8}{vs:List X9}{ns:List Int}
  (KX:K.In s₁.heap) (hns:s₁.heap.Ns XO mg) (hb:s₁.heap.Ns OW mb) (hbb:∀x:Str,x ≠ "__name__"->mb x=TV x) (hlim:s₁.heap.NoLimit) (hg:s₁.gens=#[])
  (ha:s₁.heap.get? a=some { cls:=.type "list",data:=.seq vs.toArray }) (hi:Pa vs ns) (hl:ns.length<=XC) (hr:Jj k O9)
  (F:∀base:Heap,K.In base->base.Ns XO mg->qi P w K mg base CX k fa fd [x] sp) (hbind:∀(s:X8) (u:X9),OQ s fd ⟨[u],[]⟩ [(x,u)])
  (hsp:∀H:Hp,zma H->SqL K H a (ns.map V.int)->sp [.ref a] H (fun v _=>v=.bl true) fun _ _ _=>False)
  (hCX:∀H e s',CX [] H s₁ (fun _ _ _=>False) e s'->False) :
  UR (Xr P w) O9 (.call (.ref fa) ⟨[.ref a],[]⟩) (fun r s'=>r=.ok (.ret (.bool true))/\OldK s₁.heap s'.heap/\s'.os=s₁.os/\S6 s'.gens) s₁:=by
 have rv:=zcp hi;have lenV:=hi.length;have core:∀H:Hp,zma H->SqL K H a (ns.map V.int)->HOk P w H s₁.heap->(∀b,H b≠none->b=a)->(H a≠none->K.lookup a=none) ->
   UR (Xr P w) O9 (.call (.ref fa) ⟨[.ref a],[]⟩) (fun r s'=>r=.ok (.ret (.bool true))/\OldK s₁.heap s'.heap/\s'.os=s₁.os/\S6 s'.gens) s₁:=by
  intro H hO hS hok hA hK;have base_of:∀{b:Addr} {o:Obj},s₁.heap.get? b=some o->H b=none->(zdg s₁.heap H).get? b=some o:=fun e n=>zik e n;have noA:∀{b:Addr} {o:Obj} {es:Array DictEntry} {ep:Nat},s₁.heap.get? b=some o->o.data=.dict es ep->H b=none:=fun {b o es ep} e d=>by
   cases q:H b with
   | none=>rfl
   | some u =>
    have e':b=a:=hA b (by rw[q];simp);subst e';rw[ha] at e;cases e;have d':Data.seq vs.toArray _=Data.dict es ep:=d;cases d'
  have nsK:∀{b:Addr} {m:Str->Option X9},s₁.heap.Ns b m->(zdg s₁.heap H).Ns b m:=fun {b m} ⟨o,es,ep,e,d,r⟩=>⟨o,es,ep,base_of e (noA e d),d,r⟩;have hKb:K.In (zdg s₁.heap H):=fun b o e=>base_of (KX b o e) (by
   cases q:H b with
   | none=>rfl
   | some u =>
    have e':b=a:=hA b (by rw[q];simp);subst e';rw[hK (by rw[q];simp)] at e;cases e)
  have hM:Mod K mg (zdg s₁.heap H):=⟨hKb,nsK hns,⟨mb,nsK hb,hbb⟩,let ⟨mc,h1,h2⟩:=hlim;⟨mc,nsK h1,h2⟩⟩;have e0:zkg P w K mg (zdg s₁.heap H) O9 [] s₁ H:=⟨rfl,hM,fun b o e=>zkb e,Nat.le_of_eq (zhj _ _),trivial,fun b hb=>absurd (show b∈([]:List Addr) from hb) (by simp),hok,.of_eq hg⟩;refine Uo ((F _ hKb (nsK hns)).run O9 [] s₁ H ⟨[.ref a],[]⟩ [.ref a] [.ref a] _ _ hr e0 (hbind s₁ (.ref a)) (.cons rfl .nil) (hsp H hO hS)) fun r s' h=>?_;cases r with
  | error e=>exact(hCX H e s' h).elim
  | ok fl =>
   cases fl with
   | next=>exact Wn h
   | brk=>exact Wn h
   | cont=>exact Wn h
   | ret u =>
    obtain⟨v,H',os,bare,un,hok',r',q⟩:=h;have q':v=.bl true:=q;subst q';obtain rfl:u=Tk true:=r';refine⟨rfl,OldK.of_keep fun b o e=>?_,os,bare⟩;cases q:H b with
    | none=>exact un.keep b o e q (by intro z;exact absurd (show b∈([]:List Addr) from z) (by simp)) (by simp)
    | some u =>
     rcases hO b with z | ⟨ob,xs,z⟩
     ·rw[q] at z;cases z
     ·have z2:=un.frzs b ob _ z;obtain⟨e1,_⟩:=hok b _ z;obtain⟨e2,_⟩:=hok' b _ z2;rw[e] at e1;cases e1;exact e2
 cases hk:K.lookup a with
 | some o =>
  have e:=KX a o hk;rw[ha] at e;cases e;refine core (fun _=>none) (fun _=>.inl rfl) (.inr ⟨_,vs.toArray,_,hk,rfl,rfl,rfl,by rw[Xv,lenV];exact hl,by simpa using rv⟩) (fun b u z=>by have z':(none:Option HO)=some u:=z;cases z') (fun b z=>absurd rfl z) fun z=>absurd rfl z
 | none =>
  refine core (fun b=>if b=a then some (.frz { cls:=.type "list",data:=.seq vs.toArray } (.lst (ns.map V.int))) else none) (fun b=>?_) (.inl (.inr ⟨{ cls:=.type "list",data:=.seq vs.toArray },if_pos rfl⟩)) (fun b u z=>?_) (fun b z=>?_) fun _=>hk
  ·by_cases hb:b=a
   ·exact .inr ⟨_,_,if_pos hb⟩
   ·exact .inl (if_neg hb)
  ·by_cases hb:b=a
   ·have z':=(if_pos hb).symm.trans z;cases z';subst hb;exact⟨ha,by rw[Y1];exact hl,vs,_,rv,ha⟩
   ·have z':=(if_neg hb).symm.trans z;cases z'
  ·by_cases hb:b=a
   ·exact hb
   ·exact absurd (if_neg hb) z
theorem zgC {l:PM}{n k:Nat}{q:Xl}{loose:List Str}{XP:(Str->Option X9)->Heap->Prop}{YP:W3->Heap->Prop}{d:DefRec}{K:Params->X6}{CX:W3->CXT}{sp:W3->Sp}{x:Str}
  (hn:l.most=some n) (hn2:n<=XC) (hdf:d.params.defaults=[]) (hr:Jj k O9)
  (hY:∀(w:W3) (h:Heap),YP w h->(K w.params).In h)
  (F:∀(w:W3) (mg:Str->Option X9) (fa:Addr) (h:Heap),(K w.params).In h->h.Ns XO mg->mg d.name=some (.ref fa) ->
   ∃fd:Xk,(∀(s:X8) (u:X9),OQ s fd ⟨[u],[]⟩ [(x,u)]) /\
    ∀base:Heap,(K w.params).In base->base.Ns XO mg->qi l.prog w (K w.params) mg base (CX w) k fa fd [x] (sp w))
  (hsp:∀(w:W3) (H:Hp) (a:Addr) (ns:List Int),ns.length<=n->zma H->SqL (K w.params) H a (ns.map V.int)->sp w [.ref a] H (fun v _=>v=.bl true) fun _ _ _=>False)
  (hCX:∀(w:W3) (H:Hp) (s:X8) (e:X9) (s':X8),CX w [] H s (fun _ _ _=>False) e s'->False) :
  O3 q loose XP YP l.row.toRowW d [] (fun f vs=>PySem.call f vs):=by
 refine Att.zd9 hn hdf fun w s₀ s₁ mg mb fa o pm cd doc a vs ns G Y ho hd hcd hmg hobj hints hlen hg=>?_;have KX:=hY w _ Y;obtain⟨fd,hb,hF⟩:=F w mg fa _ KX G.T.g hmg;exact ziq KX G.T.g G.T.b G.T.builtins G.T.nolimit hg hobj hints (XV hlen hn2) hr hF hb (fun H hO hS=>hsp w H a ns hlen hO hS) fun H e s'=>hCX w H s₁ e s'
end L2
/- THE LAST THEOREM (shape;LID,My.* are yours):
   My.Adr: a structure of the addresses that your layer names (classes,functions);My.Txt K t: a structure (Prop) of the equations over K;
   My.txt_mk:{K} {implicit addresses ..} (e1:nsIn K XO "law"=some (some (.ref f))) (e2:K.lookup f=some ⟨oc,od,.func (fnOf "law" "law" params body scope dV kV doc pm an cdv ct),sl⟩) (e3:codeIn K cdv "law"=true) ..:∃t,My.Txt K t
set_option maxRecDepth 100000 in
set_option maxHeartbeats 0 in
theorem PySem.Challenge.cw_LID_holds : PySem.Challenge.rw_LID.Holds := by
 w_on;o_law;k_head;(case hw=>w_witness2);k_fill;refine L2.zgC (l:=PySem.Challenge.rw_LID) (n:=63) (k:=40) (x:="script") (CX:=fun w=>..) (sp:=fun _=>My.zoo) rfl (by decide) rfl ⟨rfl,by decide,by decide⟩ (fun w h Y=>PySem.W.kIn_of Y) ?F ?S ?C
 case F =>
  intro w mg fa h KX G hmg
  have T:∃t,My.Txt (L2.KOf KX) t:=by
   dsimp only[L2.KOf]                          -- K must stand as «<heap const> w.params» for k_is;refine' My.txt_mk ?e1 ?e2 ?e3 ..;(case e1=>PySem.W.k_is)                    -- in the order: a name->its address->its object->its parts;(case e2=>PySem.W.k_is);..
  obtain⟨t,T⟩:=T
  have e0:=hmg.symm.trans (Wf KX G T.law)
  cases e0                                       -- fa is the law's own address
  exact⟨_,fun s u=>.of_eq rfl,fun base kb nb=>My.law_fn T kb nb⟩     -- if «.of_eq rfl» comes too early: refine' ⟨_,?b,fun base kb nb=>My.law_fn T kb nb⟩;exact fun s u=>.of_eq rfl
 case S=>exact fun w H a ns hl hO hS=>..
 case C=>exact ..
(the tactic k_is has no namespace: write k_is) -/
namespace L2
open PySem PySem.Spec PyProof.Rows
def Jl (s:Stmt):Arguments:=match s with
 | .FunctionDef _ a _ _ _ _ _ _ _ _=>a
 | _=>{ posonlyargs:=[],args:=[],vararg:=none,kwonlyargs:=[],kw_defaults:=[],kwarg:=none,defaults:=[] }
def yC (s:Stmt):List Stmt:=match s with
 | .FunctionDef _ _ b _ _ _ _ _ _ _=>b
 | _=>[]
def zh (s:Stmt):Vb:=match s with
 | .FunctionDef _ _ _ _ _ _ sc _ _ _=>sc
 | _=>{ kind:=.function,names:=[],isGenerator:=false,isCoroutine:=false }
abbrev CX0:CXT:=fun _ _ _ _ _ _=>False
abbrev E0:XK:=fun _ _ _=>False
theorem znr {X:Cx}:Passes CX0 X E0:=fun _ _ _ _ _ _ _ h=>h.elim
structure Fun (K:X6)(x qual:Str)(st:Stmt)(f:Addr)(fd:Xk):Prop where
 ex:∃(oc:X9) (od:Option Addr) (kV doc pm:X9) (an:Option Addr) (cdv ct:X9) (osl:Array (Option X9)),
  fd=UO x qual (Jl st) (yC st) (zh st) .none kV doc pm an cdv ct/\K.lookup f=some ⟨oc,od,.func fd,osl⟩/\SY K cdv qual=true
 kp:T1 K (.ref f)=true
section
variable {P:Xl}{w:W3}{K:X6}{mg:Str->Option X9}{base:Heap}
theorem Fun.ok {x qual:Str}{st:Stmt}{f:Addr}{fd:Xk}{N ps:List Str}{k:Nat}{sp:Sp}(F:Fun K x qual st f fd)(S:zF N ps (zh st))(len:∀vs H Q E,sp vs H Q E->vs.length=ps.length)
  (hbody:∀(cdv:X9) (A:WW) (outer:List Env) (s:X8) (H:Hp) (vs:List V) (Q:VK) (E:XK),Jj k (A.deeper (Qb qual (zh st) s.heap.objs.size f cdv))->sp vs H Q E ->
   ∃t,PSs (zd5 CX0 P w K mg base N qual (zh st) f cdv A outer s H E).nox (yC st) t/\t { nx:=fun _ H'=>Q .non H',rt:=Q } (start N vs) H):qi P w K mg base CX0 (k+1) f fd ps sp:=by
 obtain⟨oc,od,kV,doc,pm,an,cdv,ct,osl,rfl,lk,hcd⟩:=F.ex;refine zls lk hcd S len fun A outer s H vs Q E hr hsp=>?_;obtain⟨t,h,q⟩:=hbody cdv A outer s H vs Q E hr hsp;exact⟨t,h.nox,q⟩
theorem Fun.binds {x qual:Str}{st:Stmt}{f:Addr}{fd:Xk}{ps:List Str}(F:Fun K x qual st f fd)
  (h:∀(kV doc pm:X9) (an:Option Addr) (cdv ct:X9) (us:List X9),us.length=ps.length->bindArgs (UO x qual (Jl st) (yC st) (zh st) .none kV doc pm an cdv ct) ⟨us,[]⟩=pure (ps.zip us)):Binds K fd ps []:=by
 obtain⟨oc,od,kV,doc,pm,an,cdv,ct,osl,rfl,lk,hcd⟩:=F.ex;exact .all (h kV doc pm an cdv ct)
theorem zir {x qual:Str}{st:Stmt}{f:Addr}{oc:X9}{od an:Option Addr}{osl:Array (Option X9)}{kV doc pm cdv ct:X9}(l:K.lookup f=some ⟨oc,od,.func (UO x qual (Jl st) (yC st) (zh st) .none kV doc pm an cdv ct),osl⟩)
  (c:SY K cdv qual=true) (k:T1 K (.ref f)=true):Fun K x qual st f (UO x qual (Jl st) (yC st) (zh st) .none kV doc pm an cdv ct):=⟨⟨oc,od,kV,doc,pm,an,cdv,ct,osl,rfl,l,c⟩,k⟩
end
section
variable {X:Cx}
theorem pv (i:Nat){x:Str}{pos:Pos}(hN:X.N[i]?=some x:=by rfl)(hv:Vis X.env.scope x:=by first | exact Xy rfl | exact SF (Xy rfl) | exact SF (SF rfl))(hd:(x==("__debug__":Str))=false:=by decide)
  (hcd:(x==("__classdict__":Str))=false:=by decide):PE X (.Name x pos) (zm6 i):=zlQ hN hv hd hcd
end
theorem Q0 {A B:Prop}(h:B):if false=true then A else B:=by
 rw[if_neg XT];exact h
theorem ZW {A B:Prop}(h:A):if true=true then A else B:=by
 rw[if_pos rfl];exact h
theorem zhr {c A B:Prop} [Decidable c](h1:c->A)(h2:¬ c->B):if c then A else B:=by
 by_cases h:c
 ·rw[if_pos h];exact h1 h
 ·rw[if_neg h];exact h2 h
def zq (H H':Hp):Prop:=∀b o,H b=some o->H' b=some o
theorem zq.refl (H:Hp):zq H H:=fun _ _ h=>h
theorem zq.trans {H H1 H2:Hp}(a:zq H H1)(b:zq H1 H2):zq H H2:=fun c o h=>b c o (a c o h)
theorem zq.free {H H':Hp}(e:zq H H'){l:Addr}(h:H' l=Option.none):H l=Option.none:=by
 cases q:H l with
 | none=>rfl
 | some o =>
  rw[e l o q] at h;cases h
theorem zq.seq {K:X6}{H H':Hp}{a:Addr}{xs:List V}(e:zq H H')(h:SqL K H a xs):SqL K H' a xs:=by
 rcases h with (h | ⟨o,h⟩) | h
 ·exact .inl (.inl (e _ _ h))
 ·exact .inl (.inr ⟨o,e _ _ h⟩)
 ·exact .inr h
end L2
set_option maxHeartbeats 4000000
namespace L2
open PySem PySem.Spec PyProof.Rows
section
variable {X:Cx}
theorem Yp:OpR X (UP .Mult) (rI IntMulOk fun i j=>.int (i*j)):=opI fun _ _ _ _ _ _ _ hc q=>mul_int q hc
def ZX (_ j:Int):Prop:=0<j/\j.natAbs.log2<9000
theorem zis:OpR X (UP .FloorDiv) (rI ZX fun i j=>.int (i/j)):=opI fun i j _ _ _ _ _ hc q=>by
 have h1:(0:Int)<j:=hc.1;exact floordiv_int (by lia) (by rw[Int.fdiv_eq_ediv_of_nonneg i (by lia)];exact q) (.inl (PyProof.noPylong_of_log2 hc.2))
theorem ZX.small {i j:Int}(h:0<j)(h':j<1073741824):ZX i j:=by
 refine⟨h,?_⟩;have h0:j.natAbs≠0:=by lia
 have:j.natAbs.log2<30:=(Nat.log2_lt h0).mpr (by lia);lia
theorem zkm {i j:Int}(h1:-(2^64)<j)(h2:j<2^64):IntMulOk i j:=IntMulOk.of_right (intBits_le_64 h1 h2)
theorem zns {i j:Int}(h1:i.natAbs<2^8000)(h2:j.natAbs<2^8000):IntMulOk i j:=IntMulOk.of_le (m:=8000) (n:=8000) (intBits_le_iff.mpr h1) (intBits_le_iff.mpr h2) (by decide)
def znt (T U:String):Option Bool:=if (P9 T==P9 U)=true then some true else if PySem.W.kitMeta U=true then (fastBuiltinMro T).map (·.contains (.type U)) else none
theorem zmb (K:X6){T U:String}{b:Bool}(e:znt T U=some b):Xg K (.type T) (.type U)=some b:=e
theorem zaq:jR X (.builtin "isinstance") (fun xs H Q=>∃x T U b,xs=[x,.ty U]/\QZ X.K H x (.type T)/\znt T U=some b/\Q (.bl b) H):=by
 intro pins s σ H xs us Q I r h;obtain⟨x,T,U,b,rfl,ty,e,q⟩:=h;obtain⟨u,w',rfl,rx,ru⟩:=vals2 r;cases ru;exact zhn I rx ty (zmb X.K e) fun tk=>⟨.bl b,H,I.tok tk,rfl,q⟩
end
theorem JD {b:Bool}{A B:Prop}(e:b=true)(h:A):if b=true then A else B:=by
 rw[if_pos e];exact h
theorem Jk {b:Bool}{A B:Prop}(e:b=false)(h:B):if b=true then A else B:=by
 subst e;exact Q0 h
structure zo (K:X6)(mg:Str->Option X9)(x:Str)(st:Stmt)(ps:List Str)(f:Addr)(fd:Xk):Prop where
 F:Fun K x x st f fd
 g:mg x=some (.ref f)
 b:Binds K fd ps []
theorem za0 {α:Type}{xs:List α}{i:Int}{v:α}(h:0<=i)(e:xs[i.toNat]?=some v):atI xs i=some v:=by
 have:=xF e;rwa [Vk h] at this
def zop (t u:TS):TS:=fun D σ H=>∃M:St->Hp->Prop,t { D with nx:=M } σ H/\∀ σ' H',M σ' H'->u D σ' H'
theorem zdm {X:Cx}{st:Stmt}{rest:List Stmt}{t u:TS}(h1:PS X st t)(h2:PSs X rest u):PSs X (st::rest) (zop t u):=by
 intro pins s σ H D I h;obtain⟨M,h3,h4⟩:=h;refine Ri (thn (h1 pins s σ H _ I h3) fun f s1 q=>?_);cases f with
 | next =>
  obtain⟨σ1,H1,I1,q1⟩:=q;exact h2 pins s1 σ1 H1 D I1 (h4 σ1 H1 q1)
 | brk=>exact q
 | cont=>exact q
 | ret v=>exact q
theorem zd {H:Hp}{l:Addr}{o:HO}(h:H l=none):zq H (upd H l o):=fun b u e=>by rw[zj (zk e h)];exact e
section
variable {X:Cx}{tg:Expr}
end
mutual
inductive Rdv (K:X6)(H:Hp):V->Wa->Prop
 | non:Rdv K H .non .none
 | bl (b:Bool):Rdv K H (.bl b) (.bool b)
 | int (i:Int):Rdv K H (.int i) (.int i)
 | str (x:Str):Rdv K H (.str x) (.str x)
 | lst {a:Addr} {xs:List V} {ds:List Wa}:SqL K H a xs->xg K H xs ds->Rdv K H (.ref a) (.list ds)
 | tup {a:Addr} {xs:List V} {ds:List Wa}:SqT K H a xs->xg K H xs ds->Rdv K H (.ref a) (.tuple ds)
inductive xg (K:X6)(H:Hp):List V->List Wa->Prop
 | nil:xg K H [] []
 | cons {x:V} {d:Wa} {xs:List V} {ds:List Wa}:Rdv K H x d->xg K H xs ds->xg K H (x::xs) (d::ds)
end
section
variable {X:Cx}{pins:List (Addr×Obj)}{σ:St}{H:Hp}{s:X8}
theorem zhs {a:Addr}{xs:List V}{ds:List Wa}(I:Inv X pins σ H s)(hq:SqL X.K H a xs)(h:∀us,Vals xs us->∃as,OO s.heap us ds as):∀u,RelV (.ref a) u->∃as,Reads s.heap u (.list ds) as:=by
 intro u r;cases r;obtain⟨its,rv,p,hz⟩:=I.list hq;obtain⟨as,ra⟩:=h _ rv;obtain⟨o,ho,hc,n,hd⟩:=p.isList;exact⟨_,.list ho hc hd (by simpa using ra)⟩
theorem zht {a:Addr}{xs:List V}{ds:List Wa}(I:Inv X pins σ H s)(hq:SqT X.K H a xs)(h:∀us,Vals xs us->∃as,OO s.heap us ds as):∀u,RelV (.ref a) u->∃as,Reads s.heap u (.tuple ds) as:=by
 intro u r;cases r;obtain⟨its,rv,p,hz⟩:=I.tuple hq;obtain⟨as,ra⟩:=h _ rv;obtain⟨o,ho,hc,n,hd⟩:=p;exact⟨_,.tuple ho hc hd (by simpa using ra)⟩
theorem zfw {v:V}{vs:List V}{d:Wa}{ds:List Wa}(h:∀u,RelV v u->∃as,Reads s.heap u d as)(t:∀us,Vals vs us->∃as,OO s.heap us ds as):∀us,Vals (v::vs) us->∃as,OO s.heap us (d::ds) as:=by
 intro us r;cases r with
 | cons r1 r2 =>
  obtain⟨as,ra⟩:=h _ r1;obtain⟨bs,rb⟩:=t _ r2;exact⟨_,.cons ra rb⟩
theorem Rdv.reads (I:Inv X pins σ H s){v:V}{d:Wa}{u:X9}(h:Rdv X.K H v d):RelV v u->∃as,Reads s.heap u d as :=
 Rdv.rec (motive_1:=fun v d _=>∀u,RelV v u->∃as,Reads s.heap u d as) (motive_2:=fun vs ds _=>∀us,Vals vs us->∃as,OO s.heap us ds as)
  (fun u r=>by cases r;exact⟨_,.none⟩) (fun b u r=>by cases r;exact⟨_,.bool b⟩) (fun i u r=>by obtain⟨t,rfl⟩:=r;exact⟨_,.int i t⟩) (fun x u r=>by obtain⟨t,rfl⟩:=r;exact⟨_,.str x t⟩)
  (fun hq _ h=>zhs I hq h) (fun hq _ h=>zht I hq h) (fun us r=>by cases r;exact⟨_,.nil⟩) (fun _ _ h t=>zfw h t) h u
structure zit (x y:Wa):Prop where
 l1:x.canLay0=true
 l2:y.canLay0=true
 dp:x.depth<=64
def zmc (K:X6)(neg:Bool):R2:=fun x y H Q=>∃dx dy,Rdv K H x dx/\Rdv K H y dy/\zit dx dy/\Q (.bl (if neg then !PyData.eqv dx dy else WI dx dy)) H
theorem Zo (hu:X.A.units+64<U0):OpR X (Vu .Eq) (zmc X.K false):=by
 intro pins s σ H x y v u Q I rx ry h;obtain⟨dx,dy,hx,hy,c,q⟩:=h;obtain⟨as,ra⟩:=hx.reads I rx;obtain⟨bs,rb⟩:=hy.reads I ry;have:=c.dp;exact SeqAt.compareEq_reads ra rb c.l1 c.l2 (by lia) ⟨.bl _,H,I,rfl,q⟩
theorem xT (hu:X.A.units+64<U0):OpR X (Vu .NotEq) (zmc X.K true):=by
 intro pins s σ H x y v u Q I rx ry h;obtain⟨dx,dy,hx,hy,c,q⟩:=h;obtain⟨as,ra⟩:=hx.reads I rx;obtain⟨bs,rb⟩:=hy.reads I ry;have:=c.dp;exact SeqAt.compareNe_reads ra rb c.l1 c.l2 (by lia) ⟨.bl _,H,I,rfl,q⟩
def znu (K:X6)(neg:Bool):R2:=fun x y H Q=>∃d ds,Rdv K H x d/\Rdv K H y (.list ds)/\d.canLay0=true/\VD ds=true/\d.depth<=60/\Q (.bl (if neg then !ds.any (fun z=>WI z d) else ds.any fun z=>WI z d)) H
theorem za1 (hu:X.A.units+64<U0):OpR X (Vu .In) (znu X.K false):=by
 intro pins s σ H x y v u Q I rx ry h;obtain⟨d,ds,hx,hy,c1,c2,c3,q⟩:=h;obtain⟨as,ra⟩:=hx.reads I rx;obtain⟨bs,rb⟩:=hy.reads I ry;exact SeqAt.in_list_reads rb ra c2 c1 (by lia) ⟨.bl _,H,I,rfl,q⟩
end
def qp (X:Cx)(N:List Str)(scope:Vb)(cl:List (Str×Addr))(C:Addr)(fp:List Addr)(pins:List (Addr×Obj))(s:X8)(H:Hp):Cx where
 prog:=X.prog
 w:=X.w
 K:=X.K
 mg:=X.mg
 base:=X.base
 A:=X.A
 N:=N
 s₀:=s
 H₀:=H
 env:=V3 scope cl C X.env
 outer:=X.stack
 stack:=X.stack
 ex:=fp
 fn:=fun _=>false
 calm:=X.calm
 pn:=X.pn++pins
 xe:=fun _ _=>False
def pull (src:List (Option Nat))(σ:St):St:=src.map fun o=>match o with
 | some j=>(σ[j]?).getD none
 | none=>none
structure zT (X:Cx)(N:List Str)(src:List (Option Nat))(scope:Vb)(cl:List (Str×Addr)):Prop where
 kind:scope.kind=.function
 nocell:∀y∈scope.names,y.2 ≠ .cell
 names:∀y∈scope.names,y.2=.local->scope.names.lookup y.1=some .local
 clos:R3 scope X.env=pure cl
 sub:∀x c,cl.lookup x=some c->X.env.cells.lookup x=some c
 has:∀x,((Vx scope X.env).names.lookup x=some .cell\/(Vx scope X.env).names.lookup x=some .free)->∃c,cl.lookup x=some c
 len:src.length=N.length
 pulls:∀(i j:Nat) (x:Str),N[i]?=some x->src[i]?=some (some j)->X.N[j]?=some x/\(X.env.kindOf x=some .cell\/X.env.kindOf x=some .free)/\((Vx scope X.env).names.lookup x=some .cell\/(Vx scope X.env).names.lookup x=some .free)
theorem zb4 {scope:Vb}{env:Env}(nf:∀y∈scope.names,y.2 ≠ .free):(Vx scope env).names=scope.names:=by
 show scope.names.map _=scope.names;refine map_eq_self fun x hx=>?_;obtain⟨n,k⟩:=x;have:(k==NameKind.free)=false:=by simpa using nf _ hx
 simp[this]
theorem zT.plain {X:Cx}{N:List Str}{src:List (Option Nat)}{scope:Vb}(kind:scope.kind=.function)(nocell:∀y∈scope.names,y.2 ≠ .cell)(nofree:∀y∈scope.names,y.2 ≠ .free)
  (names:∀y∈scope.names,y.2=.local->scope.names.lookup y.1=some .local) (len:src.length=N.length) (none:∀o∈src,o=none):zT X N src scope [] where
 kind:=kind
 nocell:=nocell
 names:=names
 clos:=closureFor_none nofree
 sub:=fun x c h=>nomatch h
 has:=fun x h=>by
  rw[zb4 nofree] at h;rcases h with h | h
  ·exact absurd rfl (nocell _ (WQ h))
  ·exact absurd rfl (nofree _ (WQ h))
 len:=len
 pulls:=fun i j x _ h=>by
  have:=none _ (X0 h);cases this
def zfx (X:Cx)(ifs:List Expr)(t:TT):Prop :=
 ∀(pins:List (Addr×Obj)) (s:X8) (σ:St) (H:Hp) (Q:Bool->Hp->Prop),Inv X pins σ H s->t σ H Q ->
  Xo (Xr X.prog X.w) X.A (forIn ifs true fun c r=>if r=true then do let ok <- isTrue c X.env (eval c X.env);pure (Vj ok) else pure (Vj r)) (TP X pins σ Q) X.xe s
def ziu:TT:=fun _ H Q=>Q true H
theorem qF {X:Cx}:zfx X [] ziu:=fun _ _ _ H _ I h=>wpAny_tests_nil ⟨H,I,h⟩
theorem jh {X:Cx}{c:Expr}{t:TT}(h:PT X c t):zfx X [c] t:=fun pins s σ H Q I hq=>wpAny_tests_one (h pins s σ H Q I hq)
def yQ (J:It)(g:TG)(tc:TT)(te:TE)(Q:VK)(D:Addr)(σ0:St)(H0:Hp):Prop :=
 ∃W:Nat->Nat->St->Hp->Prop,(∃m,W 0 m σ0 H0)/\∀i m σ' H',W i m σ' H' ->
  (J.stop i H'/\Q (.ref D) H')\/(J.go i H'/\∃N:St->Hp->Prop,(∀ σ'' H'',N σ'' H''->∃m',m'<m/\W (i+1) m' σ'' H'') /\
   ∀x H2,J.yld i H' x H2->g x σ' H2 fun σ2 H3=>tc σ2 H3 fun b H4=>if b=true then te σ2 H4 fun y H5=>∃ys,H5 D=some (.lst ys)/\ys.length<XC/\N σ2 (upd H5 D (.lst (ys++[y]))) else N σ2 H4)
def zea (wi:TI)(src:List (Option Nat))(g:TG)(tc:TT)(te:TE):TE:=fun σ H Q=>wi σ H fun J H1=>∀D,H1 D=none->yQ J g tc te Q D (pull src σ) (upd H1 D (.lst []))
theorem Un.but {fs ex:List Addr}{H H1:Hp}{h h1 h2:Heap}{C:Addr}(u:Un fs ex H H1 h h1)(hC:h.objs.size<=C)(sb:VN C h1 h2):Un fs ex H H1 h h2:=by
 have ne:∀b o,h.get? b=some o->b≠C:=fun b o e=>XA (XE (XQ e) hC);refine⟨fun b o e n hb hx=>(sb.2 b (ne b o e)).trans (u.keep b o e n hb hx),fun b o e n hb hx=>?_,u.free,fun b o e hx=>?_,u.tups,u.frzs,u.tbls⟩
 ·obtain⟨sl,q⟩:=u.slot b o e n hb hx;exact⟨sl,(sb.2 b (ne b o e)).trans q⟩
 ·obtain⟨o',q⟩:=u.there b o e hx;exact⟨o',(sb.2 b (ne b o e)).trans q⟩
theorem HOk.but {P:Xl}{w:W3}{H:Hp}{h h':Heap}{C:Addr}(ok:HOk P w H h)(hn:H C=none)(sb:VN C h h'):HOk P w H h':=fun b ob e=>by
 refine(ok b ob e).stay (fun c w' hc q=>(sb.2 c ?_).trans q) (fun _ q=>q) fun _ _ q=>q;rintro rfl;rcases hc with rfl | hc
 ·rw[hn] at e;cases e
 ·rw[hn] at hc;cases hc
section
variable {X:Cx}{tg iter elt:Expr}{ifs:List Expr}{scope:Vb}{pos:Pos}{N:List Str}{src:List (Option Nat)}{cl:List (Str×Addr)}{wi:TI}{g:TG}{tc:TT}{te:TE}
theorem Zp {pins:List (Addr×Obj)}{σ:St}{H:Hp}{s:X8}{fp:List Addr}{h1:Heap}{C:Addr}{tk:Nat}(ok:zT X N src scope cl)(I:Inv X pins σ H s)(hf:∀b∈fp,ZS X pins H b)(ho:∀b∈fp,∃o,s.heap.get? b=some o)
  (hC:C=s.heap.objs.size+1) (k:∀b u,s.heap.get? b=some u->h1.get? b=some u) (hD:h1.get? s.heap.objs.size=some { cls:=.type "list",data:=.seq #[] }) {m:Str->Option X9} (hn:h1.Ns C m) :
  Inv (qp X N scope cl C fp pins s H) [] (pull src σ) (upd H s.heap.objs.size (.lst [])) { s with heap:=h1,toks:=tk }:=by
 have lt:∀b o,s.heap.get? b=some o->b<s.heap.objs.size:=fun b o e=>XQ e;have nC:∀b o,s.heap.get? b=some o->b≠C:=fun b o e=>by rw[hC];exact XA (W5 (lt b o e))
 have nD:∀b o,s.heap.get? b=some o->b≠s.heap.objs.size:=fun b o e=>XA (lt b o e);have fr:∀b,s.heap.objs.size<=b->H b=none:=fun b hb=>I.hok.fresh hb;have nst:∀b,b≠X.env.locals->b ∉ X.fs->b ∉ frs X.stack:=fun b h1 h2 z=>(XR.mp (I.stkSub b z)).elim h1 h2;have sub:=ok.sub;refine⟨⟨I.ok.mod,ok.kind,I.ok.glob,I.ok.blt,by rw[show (qp X N scope cl C fp pins s H).env.locals=C from rfl,hC];exact Wg _,fun x y c e1 e2=>I.ok.inj x y c (sub x c e1) (sub y c e2),ok.has,(fun x c z _=>nomatch z),I.ok.hd,I.ok.frames,.inl rfl,fun b hb=>?_,I.bs,XV I.ok.bsz I.sz,fun b o e hb=>?_,fun b hb hz=>?_,I.stack,I.stkFree⟩,
  rfl,I.bare,Un.laid k (XW _) (fr _ (XW _)),⟨m,hn,fun i x v e1 e2 e3=>?_⟩,fun x c e=>?_,?_,fun x c e=>?_,fun p hp=>?_,I.hok.laid k (XW _) ⟨W1 _,[],0,.nil,hD⟩,?_⟩
 ·obtain⟨o,e⟩:=ho b hb;exact⟨nC b o e,fun x c z=>(hf b hb).2.2.2.2.1 x c (sub x c z)⟩
 ·rcases(hf b hb).2.2.2.1 with z | z
  ·exact I.ok.noex b o e z
  ·exact absurd (XE (XQ (I.ok.bs b o e).1) z) (Wq _)
 ·exact nst b (hf b hb).2.1 (hf b hb).2.2.1 hz
 ·have hi:i<src.length:=by
   have:=(X2.mp e2).1;unfold pull at this;rw[Y1] at this;exact this
  unfold pull at e2;rw[Xn,X4 hi] at e2;cases q:src[i] with
  | none=>rw[q] at e2;cases e2
  | some j =>
   rw[q] at e2;have e2':(σ[j]?).getD none=some v:=Option.some.inj e2;have e4:σ[j]?=some (some v):=by
    cases z:σ[j]? with
    | none=>rw[z] at e2';cases e2'
    | some o=>rw[z] at e2';exact congrArg some e2'
   obtain⟨p1,p2,p3⟩:=ok.pulls i j x e1 (by rw[X4 hi,q]);obtain⟨m',hn',hl⟩:=I.loc;obtain⟨u,r,l⟩:=hl j x v p1 e4 (by
    rcases p2 with z | z
    ·exact .inr (.inl z)
    ·exact .inr (.inr z))
   refine⟨u,r,.inr ⟨p3,?_⟩⟩;obtain⟨c,hc⟩:=ok.has x p3;refine⟨c,hc,?_⟩;rcases l with ⟨z,_⟩ | ⟨_,c',hc',o,ho',hd'⟩
   ·rcases p2 with y | y<;>rw[z] at y<;>cases y
   ·rw[sub x c hc] at hc';cases hc';exact⟨o,k _ o ho',hd'⟩
 ·obtain⟨v,o,e1,e2⟩:=I.cell x c (sub x c e);exact⟨v,o,k c o e1,e2⟩
 ·show upd H s.heap.objs.size (.lst []) C=none;rw[hC,zj (VG _)];exact fr _ (Wg _)
 ·show upd H s.heap.objs.size (.lst []) c=none;obtain⟨v,o,e1,e2⟩:=I.cell x c (sub x c e);rw[zj (nD c o e1)];exact I.freeC x c (sub x c e)
 ·have hp':p∈X.pn++pins:=by
   have:p∈(X.pn++pins)++[]:=hp;simpa using this
  obtain⟨e1,e2,e3,e4,e5⟩:=I.pin p hp';refine⟨k _ _ e1,?_,nC _ _ e1,nst _ e3 e4,e5⟩;show upd H s.heap.objs.size (.lst []) p.1=none;rw[zj (nD _ _ e1)];exact e2
 ·unfold pull;rw[Y1];exact ok.len
theorem qL (ok:zT X N src scope cl)(hcalm:X.calm=true)(hi:PI X tg iter wi)
  (hg:∀C fp pins s H,PG (qp X N scope cl C fp pins s H) tg g) (hc:∀C fp pins s H,zfx (qp X N scope cl C fp pins s H) ifs tc) (he:∀C fp pins s H,PE (qp X N scope cl C fp pins s H) elt te)
  (hs:∀x,Vn iter X.env x=pure x:=by intro _;rfl):PE X (.ListComp elt [⟨tg,iter,ifs,0⟩] scope pos) (zea wi src g tc te):=by
 intro pins s σ H Q I h;rw[O0];refine Tu (use:=none) rfl hs ok.clos ok.kind ok.names (thn (hi pins s σ H _ I h) fun xv s1 h1=>thn h1 fun itv s2 h2=>?_);obtain⟨it,fp,tn,J,H2,e,I2,T,st2,f2,q2⟩:=h2;subst e;refine V5 (TY ok.nocell (by intro y hy;simp at hy) (fun h₁ hns₁ hsb₁=>?_) ok.kind);dsimp only at hns₁ hsb₁ ⊢;generalize hP:s2.heap.push { cls:=.type "list",dict:=none,data:=.seq ([]:List X9).toArray }=P2 at hns₁ hsb₁ ⊢;have hC:P2.objs.size=s2.heap.objs.size+1:=by rw[<- hP,VA]
 have k:∀b u,s2.heap.get? b=some u->h₁.get? b=some u:=fun b u e=>by
  have lt:=XQ e;exact(hsb₁.2 b (by rw[hC];exact XA (W5 lt))).trans (X7 _ (hP ▸ X7 _ e))
 have hD:h₁.get? s2.heap.objs.size=some { cls:=.type "list",data:=.seq #[] }:=(hsb₁.2 _ (by rw[hC];exact(VG _).symm)).trans (X7 _ (hP ▸ Xb _ rfl));have ho:∀b∈fp,∃o,s2.heap.get? b=some o:=fun b hb=>let ⟨o,e,_⟩:=T.obj 0 _ st2 b hb;⟨o,e⟩
 obtain⟨W,⟨m0,w0⟩,turn⟩:=q2 s2.heap.objs.size (I2.hok.fresh (XW _));have I0:=Zp (tk:=s2.toks+([]:List (Str×X9)).length) ok I2 f2 ho hC k hD hns₁;have st0:tn 0 h₁:=T.keep 0 _ _ st2 fun b _ o e=>k b o e;have fr0:∀b∈fp,upd H2 s2.heap.objs.size (.lst []) b=none:=fun b hb=>by
  obtain⟨o,e⟩:=ho b hb;rw[zj (XA (XQ e))];exact(f2 b hb).1
 have stat:∀{H':Hp},(∀b∈fp,H' b=none)->∀b∈fp,ZS (qp X N scope cl P2.objs.size fp pins s2 H2) [] H' b:=fun {H'} hn b hb=>by
  obtain⟨o,e⟩:=ho b hb;have lt:=XQ e;refine⟨hn b hb,?_,fun z=>(XR.mp (I2.stkSub b z)).elim (f2 b hb).2.1 (f2 b hb).2.2.1,.inl hb,fun x c z=>(f2 b hb).2.2.2.2.1 x c (ok.sub x c z),fun p hp=>?_⟩
  ·show b≠P2.objs.size;rw[hC];exact XA (W5 lt)
  ·have hp':p∈X.pn++pins:=by
    have:p∈(X.pn++pins)++[]:=hp;simpa using this
   exact(f2 b hb).2.2.2.2.2 p hp'
 have loop:∀s₃:X8,s₃={ s2 with heap:=h₁,toks:=s2.toks+([]:List (Str×X9)).length } ->
   UR (Xr X.prog X.w) X.A (.compLoop (.ListComp elt [⟨tg,iter,ifs,0⟩] scope pos) 0 (.ref it) (.ref s2.heap.objs.size) (V3 scope cl P2.objs.size X.env))
    (compPost (Xr X.prog X.w) X.A X.xe none (EP X pins σ Q) (.ref s2.heap.objs.size) P2.objs.size) s₃:=by
  rintro s₃ rfl;refine Sa rfl (fun n s'=>∃i σ' H',Inv (qp X N scope cl P2.objs.size fp pins s2 H2) [] σ' H' s'/\tn i s'.heap/\(∀b∈fp,H' b=none)/\W i n σ' H') ?_ m0 ⟨0,_,_,I0,st0,fr0,w0⟩;rintro n s3 ⟨i,σ3,H3,I3,st3,fr3,w3⟩;show Xo _ X.A ((ON (.ListComp elt [⟨tg,iter,ifs,0⟩] scope pos) 0 (.ref it) (.ref s2.heap.objs.size) (V3 scope cl P2.objs.size X.env)).onRaise (fun x=>do SD x (V3 scope cl P2.objs.size X.env);Tn x)) _ _ s3;refine RI ?_;rw[Sw];rcases turn i n σ3 H3 w3 with ⟨stop,qn⟩ | ⟨go,N',hN,step⟩
  ·refine ZB (V6 (ZB (thn (T.done (qp X N scope cl P2.objs.size fp pins s2 H2) rfl rfl rfl hcalm i [] s3 σ3 H3 _ I3 (stat fr3) st3 stop) fun r s4 ⟨hr,I4⟩=>?_)));subst hr;refine XY ?_;obtain⟨m,hm,_⟩:=I4.loc;refine⟨m,hm,fun h' sb=>⟨.ref s2.heap.objs.size,H3,?_,rfl,qn⟩⟩;have un:Un (frs X.stack) fp H2 H3 s2.heap h':=Un.but I4.base (by show s2.heap.objs.size<=P2.objs.size;rw[hC];exact Wg _) sb;have hok:HOk X.prog X.w H3 h':=HOk.but I4.hok I4.free sb;exact I2.call' (s':={ s4 with heap:=h' }) (ch:=fp) I4.os un hok I4.bare fun b hb=>⟨(f2 b hb).2.2.2.1,(f2 b hb).2.1,(f2 b hb).2.2.2.2.1,(f2 b hb).2.2.2.2.2⟩
  ·refine ZB (V6 (ZB (thn (T.item (qp X N scope cl P2.objs.size fp pins s2 H2) rfl rfl rfl hcalm i [] s3 σ3 H3 _ I3 (stat fr3) st3 go) fun r s4 ⟨u,hr,h4⟩=>?_)));subst hr;dsimp only;refine ZB (thn h4 fun _ s5 ⟨x,H5,I5,r5,y5,st5,fr5⟩=>?_);have I5':=I5.pinned (stat fr5) (T.obj _ _ st5);refine ZB (Xa (hg P2.objs.size fp pins s2 H2 _ s5 σ3 H5 x u _ I5' r5 (step x H5 y5)) (fun _ s6 ⟨σ6,H6,I6,q6⟩=>?_) fun _ _ z=>Wn z);have Tc:∀{s7:X8} {σ7:St} {H7:Hp},Inv (qp X N scope cl P2.objs.size fp pins s2 H2) ([]++Zm fp s5.heap) σ7 H7 s7->N' σ7 H7->∃m,m<n/\∃i σ' H',Inv (qp X N scope cl P2.objs.size fp pins s2 H2) [] σ' H' s7/\tn i s7.heap/\(∀b∈fp,H' b=none)/\W i m σ' H':=fun {s7 σ7 H7} I7 n7=>by
    obtain⟨m',hm,w7⟩:=hN σ7 H7 n7;refine⟨m',hm,i+1,σ7,H7,I7.unpinned,T.keep _ _ _ st5 fun b hb o e=>(I7.pin (b,o) (XJ _ (XJ _ (qu hb e)))).1,fun b hb=>?_,w7⟩;obtain⟨o,e,d⟩:=T.obj _ _ st5 b hb;exact(I7.pin (b,o) (XJ _ (XJ _ (qu hb e)))).2.1
   refine ZB (Xa (hc P2.objs.size fp pins s2 H2 _ s6 σ6 H6 _ I6 q6) (fun b s7 ⟨H7,I7,q7⟩=>?_) fun _ _ z=>Wn z);cases b with
   | false =>
    rw[if_neg XT] at q7;exact XY ⟨rfl,Tc I7 q7⟩
   | true =>
    rw[if_pos rfl] at q7;refine ZB (ZB (Xa (he P2.objs.size fp pins s2 H2 _ s7 σ6 H7 _ I7 q7) (fun y s8 ⟨v8,H8,I8,r8,ys,hys,hlen,q8⟩=>?_) fun _ _ z=>Wn z));refine ZB (Xa (xN (X:=qp X N scope cl P2.objs.size fp pins s2 H2) _ s8 σ6 H8 (.ref s2.heap.objs.size) [v8] (.ref s2.heap.objs.size) [y] (fun _ H9=>N' σ6 H9) I8 rfl (.cons r8 .nil) ⟨_,ys,v8,rfl,rfl,hys,hlen,q8⟩) (fun _ s9 ⟨v9,H9,I9,_,q9⟩=>?_) fun _ _ z=>Wn z);exact XY (XY ⟨rfl,Tc I9 q9⟩)
 exact U1 (loop _ rfl) (T.self _ 0 _ _ _ st0 (loop _ rfl))
end
section
variable {K:X6}{src:List (Option Nat)}{g:TG}{tc:TT}{te:TE}{Q:VK}{σ:St}{H:Hp}{D:Addr}
theorem qW {a:Addr}{xs:List V}(Pv:Nat->St->Hp->Prop)(h0:Pv 0 σ H)(hl:∀i σ H,i<=xs.length->Pv i σ H->SqL K H a xs)
  (hs:∀i x σ H,xs[i]?=some x->Pv i σ H->g x σ H fun σ2 H3=>tc σ2 H3 fun b H4=>if b=true then te σ2 H4 fun y H5=>∃ys,H5 D=some (.lst ys)/\ys.length<XC/\Pv (i+1) σ2 (upd H5 D (.lst (ys++[y]))) else Pv (i+1) σ2 H4)
  (hd:∀ σ H,Pv xs.length σ H->Q (.ref D) H):yQ (Itl K a) g tc te Q D σ H:=by
 refine⟨fun i m σ H=>m=xs.length-i/\i<=xs.length/\Pv i σ H,⟨xs.length,by simp,W1 _,h0⟩,?_⟩;rintro i m σ H ⟨rfl,hi,p⟩;have q:=hl i σ H hi p;by_cases hlt:i<xs.length
 ·refine .inr ⟨⟨xs,xs[i],q,by simp[hlt]⟩,Pv (i+1),fun σ' H' p'=>⟨xs.length-(i+1),by lia,rfl,hlt,p'⟩,fun x H' y=>?_⟩;obtain⟨e,y⟩:=y;subst e;exact hs i x σ _ (y xs q) p
 ·have e:i=xs.length:=by lia
  subst e;exact .inl ⟨⟨xs,q,XW _⟩,hd σ H p⟩
theorem zfy {lo:Int}{n:Nat}(Pv:Nat->St->Hp->Prop)(h0:Pv 0 σ H)
  (hs:∀i σ H,i<n->Pv i σ H->g (.int (lo+i)) σ H fun σ2 H3=>tc σ2 H3 fun b H4=>if b=true then te σ2 H4 fun y H5=>∃ys,H5 D=some (.lst ys)/\ys.length<XC/\Pv (i+1) σ2 (upd H5 D (.lst (ys++[y]))) else Pv (i+1) σ2 H4)
  (hd:∀ σ H,Pv n σ H->Q (.ref D) H):yQ (Itr lo n) g tc te Q D σ H:=by
 refine⟨fun i m σ H=>m=n-i/\i<=n/\Pv i σ H,⟨n,by simp,W1 _,h0⟩,?_⟩;rintro i m σ H ⟨rfl,hi,p⟩;by_cases hlt:i<n
 ·refine .inr ⟨hlt,Pv (i+1),fun σ' H' p'=>⟨n-(i+1),by lia,rfl,hlt,p'⟩,fun x H' y=>?_⟩;obtain⟨e,y⟩:=y;subst e y;exact hs i σ _ hlt p
 ·have e:i=n:=by lia
  subst e;exact .inl ⟨XW _,hd σ H p⟩
end
theorem ZY {K:X6}{H:Hp}:∀rs:List Str,xg K H (rs.map V.str) (rs.map Ur)
 | []=>.nil
 | t::r=>.cons (.str t) (ZY r)
section
variable {X:Cx}{K:X6}
theorem Q2 {a:Expr}{ta:TE}(hK:X.K=K)(ha:PE X a ta)(he:∀whole,isTrue a X.env whole=(do let v <- whole;standAt a.pos;OR [v] (truthy v))) :
  PT X a (fun σ H Q=>ta σ H fun x H'=>∃k,zl2 K x H' k/\Q k H'):=by
 subst hK;exact ZU ha he
theorem zeb (hK:X.K=K)(hu:X.A.units+64<U0):OpR X (Vu .Eq) (zmc K false):=by
 subst hK;exact Zo hu
theorem jT (hK:X.K=K)(hu:X.A.units+64<U0):OpR X (Vu .In) (znu K false):=by
 subst hK;exact za1 hu
theorem zdn {es:List Expr}{k:Nat}{t:TGs}{n:Nat}{pos:Pos}(hK:X.K=K)(hc:X.calm=true)(h:PGs X es t)
  (hn:(Tj es X.env).length=n:=by rfl) (hst:(Tj es X.env).findIdx? (·.1)=none:=by rfl):PG X (.Tuple es k pos) (znc K n t):=by
 subst hK;exact yq hc h hn hst
end
section
variable {fs ch:List Addr}{H:Hp}{h h':Heap}{a:Addr}{o:HO}
theorem Un.laidX (k:∀b u,b ∉ ch->h.get? b=some u->h'.get? b=some u)(hp:h.objs.size<=a)(hn:H a=none):Un fs ch H (upd H a o) h h' where
 keep:=fun b u q _ _ hx=>k b u hx q
 slot:=fun b u q _ _ hx=>⟨u.slots,k b u hx q⟩
 free:=fun b u q n _=>by rw[zj (XA (XE (XQ q) hp))];exact n
 there:=fun b u q hx=>⟨u,k b u hx q⟩
 tups:=fun b xs q=>by rw[zj (zk q hn)];exact q
 frzs:=fun b u xs q=>by rw[zj (zk q hn)];exact q
 tbls:=fun b ps q=>⟨#[],by rw[zj (zk q hn),q];simp⟩
theorem Un.keptX (k:∀b u,b ∉ ch->h.get? b=some u->h'.get? b=some u):Un fs ch H H h h' :=
 ⟨fun b ob q _ _ hx=>k b ob hx q,fun b ob q _ _ hx=>⟨ob.slots,k b ob hx q⟩,fun _ _ _ n _=>n,fun b ob q hx=>⟨ob,k b ob hx q⟩,fun _ _ q=>q,fun _ _ _ q=>q,fun _ ps q=>⟨#[],by rw[q];simp⟩⟩
theorem HOk.keptX {P:Xl}{w:W3}(x:HOk P w H h)(k:∀b u,b ∉ ch->h.get? b=some u->h'.get? b=some u)(hch:∀b∈ch,H b=none):HOk P w H h':=fun b u e=>by
 refine(x b u e).stay (fun c v hc q=>k c v (fun z=>?_) q) (fun _ q=>q) fun _ _ q=>q;have n:=hch c z;rcases hc with rfl | hc
 ·rw[n] at e;cases e
 ·rw[n] at hc;cases hc
theorem HOk.laidX {P:Xl}{w:W3}(x:HOk P w H h)(k:∀b u,b ∉ ch->h.get? b=some u->h'.get? b=some u)(hch:∀b∈ch,H b=none)(hp:h.objs.size<=a)(new:qM P w (upd H a o) h' a o):HOk P w (upd H a o) h':=fun b u e=>by
 have hn:=x.fresh hp;by_cases hb:b=a
 ·subst hb;rw[zb] at e;cases e;exact new
 ·rw[zj hb] at e;refine(x b u e).stay (fun c v hc q=>k c v (fun z=>?_) q) (fun c q=>by rw[zj (zk q hn)];exact q) fun c xs q=>by rw[zj (zk q hn)];exact q
  have n:=hch c z;rcases hc with rfl | hc
  ·rw[n] at e;cases e
  ·rw[n] at hc;cases hc
end
section
variable {X:Cx}{pins:List (Addr×Obj)}{s:X8}{σ:St}{H:Hp}{E:X9->X8->Prop}{fp wr FP:List Addr}{elts:List Expr}{k:Nat}{pos:Pos}{e:Addr}{n i:Nat}{Pt:Nat->Array X9->Prop}{Sn:Nat->Heap->Prop}{Mid:Nat->Addr->Heap->Prop}{J:It}{tn:Nat->Heap->Prop}
theorem zfz (I:Inv X pins σ H s)(hf:∀b∈fp,ZS X pins H b)(ho:∀b∈fp,∃o,s.heap.get? b=some o)(hwr:∀b∈wr,b∈fp)(W:WalksT X.prog X.w X.A e FP wr n Pt Sn Mid)(hi:i<n)(st:Sn i s.heap)
  (y:∀T vals,H T=none->Pt i vals->∃vs,Vals vs vals.toList/\vs.length<=XC/\J.yld i H (.ref T) (upd H T (.tup vs))) (nx:∀h'',Sn (i+1) h''->tn (i+1) h'') :
  Xo (Xr X.prog X.w) X.A (R4 (.ref e)) (fun r s1=>∃u,r=some u /\
   Xo (Xr X.prog X.w) X.A (Sl (.Tuple elts k pos) (.ref e) u) (fun _ s2=>∃x H',Inv X pins σ H' s2/\RelV x u/\J.yld i H x H'/\tn (i+1) s2.heap/\∀b∈fp,H' b=none) E s1) E s:=by
 refine W.item i s _ E hi st fun T vals h' tk hP hT0 hT hm kk=>⟨.ref T,rfl,?_⟩;have hn:H T=none:=I.hok.fresh hT0;obtain⟨vs,hv,hl,hy⟩:=y T vals hn hP;refine W.go elts k pos i T { s with heap:=h',toks:=tk } _ E hm fun h'' st'' kk2=>?_;have k2:∀b o,b ∉ wr->s.heap.get? b=some o->h''.get? b=some o:=fun b o hb e=>kk2 b o hb (kk b o hb e);have hTup:Ox h'' T vals:=by
  obtain⟨o,e1,c,m,d⟩:=hT;exact⟨o,kk2 T o (W.apart i T _ hm) e1,c,m,d⟩
 have hch:∀b∈wr,H b=none:=fun b hb=>(hf b (hwr b hb)).1;refine⟨.ref T,upd H T (.tup vs),?_,rfl,hy,nx _ st'',fun b hb=>?_⟩
 ·exact I.call' (s':={ s with heap:=h'',toks:=tk }) (ch:=wr) rfl (Un.laidX k2 hT0 hn) (HOk.laidX I.hok k2 hch hT0 ⟨hl,vals.toList,hv,by simpa using hTup⟩) I.bare fun b hb=>let f:=hf b (hwr b hb);⟨f.2.2.2.1,f.2.1,f.2.2.2.2.1,f.2.2.2.2.2⟩
 ·obtain⟨o,e1⟩:=ho b hb;rw[zj (XA (XE (XQ e1) hT0))];exact(hf b hb).1
theorem zfA (I:Inv X pins σ H s)(hf:∀b∈fp,ZS X pins H b)(hwr:∀b∈wr,b∈fp)(W:WalksT X.prog X.w X.A e FP wr n Pt Sn Mid)(st:Sn n s.heap) :
  Xo (Xr X.prog X.w) X.A (R4 (.ref e)) (fun r s1=>r=none/\Inv X pins σ H s1) E s :=
 W.done s _ E st fun h' tk kk=>⟨rfl,I.call' (s':={ s with heap:=h',toks:=tk }) (ch:=wr) rfl (Un.keptX kk) (HOk.keptX I.hok kk fun b hb=>(hf b (hwr b hb)).1) I.bare fun b hb=>let f:=hf b (hwr b hb);⟨f.2.2.2.1,f.2.1,f.2.2.2.2.1,f.2.2.2.2.2⟩⟩
end
theorem xU {h:Heap}{b:Addr}{o:Obj}{vs:Array X9}(e:h.get? b=some o)(d:o.data=.fields vs):∃o,h.get? b=some o/\∀v,o.data ≠ .cell v:=⟨o,e,fun v z=>by rw[d] at z;cases z⟩
def Ite (K:X6)(l:Addr):It:=⟨fun i H=>∃xs,SqL K H l xs/\i<xs.length,fun i H x H'=>∃T,x=.ref T/\H T=none/\∀xs,SqL K H l xs->∃v,xs[i]?=some v/\H'=upd H T (.tup [.int i,v]),fun i H=>∃xs,SqL K H l xs/\i=xs.length⟩
theorem zhu {P:Xl}{w:W3}{K:X6}{elts:List Expr}{k:Nat}{pos:Pos}(e it l:Addr)(hei:e≠it)(hle:l≠e)(hli:l≠it) :
  Turn P w K (.Tuple elts k pos) (Ite K l) [e,it] e (fun i h=>(∃old,IsEnum h e it i old)/\h.IsListIter it l i) where
 mem:=by simp
 obj:=fun i h st b hb=>by
  obtain⟨⟨old,he⟩,o,e2,c,d⟩:=st;rcases XR.mp hb with rfl | hb
  ·exact xU he rfl
  ·have z:b=it:=by simpa using hb
   subst z;exact xU e2 d
 keep:=fun i h h' st kk=>by
  obtain⟨⟨old,he⟩,o,e2,r⟩:=st;exact⟨⟨old,kk e (by simp) _ he⟩,o,kk it (by simp) o e2,r⟩
 item:=by
  intro X hP hw hK hc i pins s σ H E I hf st hg;subst hP hw hK;obtain⟨xs,hq,hlt⟩:=hg;obtain⟨its,rv,p,hz⟩:=I.list hq;have hl:=rv.length;obtain⟨⟨old,he⟩,o2,e2,c2,d2⟩:=id st;refine zfz (wr:=[e,it]) (J:=Ite X.K l) (tn:=fun i h=>(∃old,IsEnum h e it i old)/\h.IsListIter it l i) I hf (fun b hb=>?_) (fun b hb=>hb) (WalksT.enumerate (I.ok.hd hc) e it l hei hle hli its.toArray) (by simp;lia) ⟨st.1,st.2,p.isList⟩ (fun T vals hn hp=>?_) fun h'' q=>⟨q.1,q.2.1⟩
  ·rcases XR.mp hb with rfl | hb
   ·exact⟨_,he⟩
   ·have z:b=it:=by simpa using hb
    subst z;exact⟨_,e2⟩
  ·obtain⟨t,x,hx,rfl⟩:=hp;have hx':its[i]?=some x:=by simpa using hx
   obtain⟨u,hu,ru⟩:=rv.get (i:=i) (x:=xs[i]) (by rw[X4 hlt]);rw[hu] at hx';cases hx';exact⟨[.int i,xs[i]],.cons ⟨t,rfl⟩ (.cons ru .nil),(by show 2<=XC;decide),T,rfl,hn,fun ys hy=>⟨xs[i],by rw[I.list_inj hy hq,X4 hlt],rfl⟩⟩
 done:=by
  intro X hP hw hK hc i pins s σ H E I hf st hg;subst hP hw hK;obtain⟨xs,hq,rfl⟩:=hg;obtain⟨its,rv,p,hz⟩:=I.list hq;have hl:its.toArray.size=xs.length:=by simp[rv.length]
  refine zfA (fp:=[e,it]) (wr:=[e,it]) I hf (fun b hb=>hb) (WalksT.enumerate (I.ok.hd hc) e it l hei hle hli its.toArray) ?_;rw[hl];exact⟨st.1,st.2,p.isList⟩
 self:=fun A i s Q E st h=>by
  obtain⟨⟨old,he⟩,_⟩:=st;exact SU he h
def zkn (x:Str):It:=⟨fun i _=>i<x.cps.size,fun i H v H'=>∃T c,v=.ref T/\H T=none/\x.cps[i]?=some c/\H'=upd H T (.tup [.int i,.str ⟨#[c]⟩]),fun i _=>i=x.cps.size⟩
theorem za2 {P:Xl}{w:W3}{K:X6}{elts:List Expr}{k:Nat}{pos:Pos}(e it:Addr)(x:Str)(t:Tok)(n:String)(hei:e≠it)
  (D:∀A:WW,A.handled=none->Draws P w A it [it] x.cps.size (fun i v=>∃c u,x.cps[i]?=some c/\v=.str ⟨#[c]⟩ u) (fun i h=>h.IsStrIter it n x t i)) :
  Turn P w K (.Tuple elts k pos) (zkn x) [e,it] e (fun i h=>(∃old,IsEnum h e it i old)/\h.IsStrIter it n x t i) where
 mem:=by simp
 obj:=fun i h st b hb=>by
  obtain⟨⟨old,he⟩,o,e2,c,d⟩:=st;rcases XR.mp hb with rfl | hb
  ·exact xU he rfl
  ·have z:b=it:=by simpa using hb
   subst z;exact xU e2 d
 keep:=fun i h h' st kk=>by
  obtain⟨⟨old,he⟩,o,e2,r⟩:=st;exact⟨⟨old,kk e (by simp) _ he⟩,o,kk it (by simp) o e2,r⟩
 item:=by
  intro X hP hw hK hc i pins s σ H E I hf st hg;subst hP hw hK;obtain⟨⟨old,he⟩,o2,e2,c2,d2⟩:=id st;refine zfz (wr:=[e,it]) (J:=zkn x) (tn:=fun i h=>(∃old,IsEnum h e it i old)/\h.IsStrIter it n x t i) I hf (fun b hb=>?_) (fun b hb=>hb) (WalksT.enumerateD (D X.A.in1 (I.ok.hd hc)) e hei (by simpa using hei) (by simp)) hg st (fun T vals hn hp=>?_) fun h'' q=>q
  ·rcases XR.mp hb with rfl | hb
   ·exact⟨_,he⟩
   ·have z:b=it:=by simpa using hb
    subst z;exact⟨_,e2⟩
  ·obtain⟨t',v,⟨c,u,hx,rfl⟩,rfl⟩:=hp;exact⟨[.int i,.str ⟨#[c]⟩],.cons ⟨t',rfl⟩ (.cons ⟨u,rfl⟩ .nil),(by show 2<=XC;decide),T,c,rfl,hn,hx,rfl⟩
 done:=by
  intro X hP hw hK hc i pins s σ H E I hf st hg;subst hP hw hK;have z:i=x.cps.size:=hg;subst z;exact zfA (fp:=[e,it]) (wr:=[e,it]) I hf (fun b hb=>hb) (WalksT.enumerateD (D X.A.in1 (I.ok.hd hc)) e hei (by simpa using hei) (by simp)) st
 self:=fun A i s Q E st h=>by
  obtain⟨⟨old,he⟩,_⟩:=st;exact SU he h
def Itz (K:X6)(l1 l2:Addr):It:=⟨fun i H=>∃xs ys,SqL K H l1 xs/\SqL K H l2 ys/\i<xs.length/\i<ys.length,
 fun i H x H'=>∃T,x=.ref T/\H T=none/\∀xs ys,SqL K H l1 xs->SqL K H l2 ys->∃v v',xs[i]?=some v/\ys[i]?=some v'/\H'=upd H T (.tup [v,v']),fun i H=>∃xs ys,SqL K H l1 xs/\SqL K H l2 ys/\i=min xs.length ys.length⟩
theorem ziv {P:Xl}{w:W3}{K:X6}{elts:List Expr}{k:Nat}{pos:Pos}(z TI TO i1 i2 l1 l2:Addr)(D:ZipApart z TI TO i1 i2 l1 l2) :
  Turn P w K (.Tuple elts k pos) (Itz K l1 l2) [z,TI,TO,i1,i2] z (fun i h=>IsZip h z TI TO .none/\IsPair h TI (.ref i1) (.ref i2)/\(∃a b,IsPair h TO a b)/\h.IsListIter i1 l1 i/\h.IsListIter i2 l2 i) where
 mem:=by simp
 obj:=fun i h st b hb=>by
  obtain⟨hz,hTI,⟨a,b',hTO⟩,⟨o1,e1,c1,d1⟩,⟨o2,e2,c2,d2⟩⟩:=st;simp only[XR,Vf,or_false] at hb;rcases hb with rfl | rfl | rfl | rfl | rfl
  ·exact xU hz rfl
  ·exact⟨_,hTI,fun v q=>by cases q⟩
  ·exact⟨_,hTO,fun v q=>by cases q⟩
  ·exact xU e1 d1
  ·exact xU e2 d2
 keep:=fun i h h' st kk=>by
  obtain⟨hz,hTI,⟨a,b',hTO⟩,⟨o1,e1,r1⟩,⟨o2,e2,r2⟩⟩:=st;exact⟨kk z (by simp) _ hz,kk TI (by simp) _ hTI,⟨a,b',kk TO (by simp) _ hTO⟩,⟨o1,kk i1 (by simp) _ e1,r1⟩,⟨o2,kk i2 (by simp) _ e2,r2⟩⟩
 item:=by
  intro X hP hw hK hc i pins s σ H E I hf st hg;subst hP hw hK;obtain⟨xs,ys,hq1,hq2,hlt1,hlt2⟩:=hg;obtain⟨its1,rv1,p1,hz1⟩:=I.list hq1;obtain⟨its2,rv2,p2,hz2⟩:=I.list hq2;have g1:=rv1.length;have g2:=rv2.length;obtain⟨hz,hTI,⟨a,b',hTO⟩,⟨o1,e1,r1⟩,⟨o2,e2,r2⟩⟩:=id st;refine zfz (wr:=[z,TO,i1,i2]) (J:=Itz X.K l1 l2) (tn:=fun i h=>IsZip h z TI TO .none/\IsPair h TI (.ref i1) (.ref i2)/\(∃a b,IsPair h TO a b)/\h.IsListIter i1 l1 i/\h.IsListIter i2 l2 i) I hf (fun b hb=>?_) (fun b hb=>?_) (WalksT.zip2 (I.ok.hd hc) z TI TO i1 i2 l1 l2 D its1.toArray its2.toArray) (by simp;lia) ⟨st.1,st.2.1,st.2.2.1,st.2.2.2.1,st.2.2.2.2,p1.isList,p2.isList⟩ (fun T vals hn hp=>?_) fun h'' q=>⟨q.1,q.2.1,q.2.2.1,q.2.2.2.1,q.2.2.2.2.1⟩
  ·simp only[XR,Vf,or_false] at hb;rcases hb with rfl | rfl | rfl | rfl | rfl
   ·exact⟨_,hz⟩
   ·exact⟨_,hTI⟩
   ·exact⟨_,hTO⟩
   ·exact⟨_,e1⟩
   ·exact⟨_,e2⟩
  ·simp only[XR,Vf,or_false] at hb ⊢;rcases hb with rfl | rfl | rfl | rfl<;>simp
  ·obtain⟨x,y,hx,hy,rfl⟩:=hp;have hx':its1[i]?=some x:=by simpa using hx
   have hy':its2[i]?=some y:=by simpa using hy
   obtain⟨u,hu,ru⟩:=rv1.get (i:=i) (x:=xs[i]) (by rw[X4 hlt1]);obtain⟨u',hu',ru'⟩:=rv2.get (i:=i) (x:=ys[i]) (by rw[X4 hlt2]);rw[hu] at hx';rw[hu'] at hy';cases hx';cases hy';exact⟨[xs[i],ys[i]],.cons ru (.cons ru' .nil),(by show 2<=XC;decide),T,rfl,hn,fun xs' ys' h1 h2=>⟨xs[i],ys[i],by rw[I.list_inj h1 hq1,X4 hlt1],by rw[I.list_inj h2 hq2,X4 hlt2],rfl⟩⟩
 done:=by
  intro X hP hw hK hc i pins s σ H E I hf st hg;subst hP hw hK;obtain⟨xs,ys,hq1,hq2,rfl⟩:=hg;obtain⟨its1,rv1,p1,hz1⟩:=I.list hq1;obtain⟨its2,rv2,p2,hz2⟩:=I.list hq2;have g1:min its1.toArray.size its2.toArray.size=min xs.length ys.length:=by simp[rv1.length,rv2.length]
  refine zfA (fp:=[z,TI,TO,i1,i2]) (wr:=[z,TO,i1,i2]) I hf (fun b hb=>?_) (WalksT.zip2 (I.ok.hd hc) z TI TO i1 i2 l1 l2 D its1.toArray its2.toArray) ?_
  ·simp only[XR,Vf,or_false] at hb ⊢;rcases hb with rfl | rfl | rfl | rfl<;>simp
  ·rw[g1];exact⟨st.1,st.2.1,st.2.2.1,st.2.2.2.1,st.2.2.2.2,p1.isList,p2.isList⟩
 self:=fun A i s Q E st h=>wpAny_pyIter_zip st.1 h
section
variable {X:Cx}{elts:List Expr}{k:Nat}{tpos:Pos}
def zmd (K:X6)(ta:TA):TI:=fun σ H R=>ta σ H fun vs H1=>∃l,vs=[.ref l]/\(∃xs,SqL K H1 l xs)/\R (Ite K l) H1
theorem JM {a:Expr}{ta:TA}{p pos:Pos}(hg:Gl X "enumerate")(hm:X.mg "enumerate"=none)(ha:PA X [a] ta)(hs:WB [a] X.env=[(false,eval a X.env)]:=by rfl):PI X (.Tuple elts k tpos) (.Call (.Name "enumerate" p) [a] [] pos) (zmd X.K ta):=by
 intro pins s σ H R I h;refine Call_ (ZQ I hg hm boot_enumerate (VJ (thn (ha pos pins s σ H _ I h) fun us s1 ⟨vs,H1,I1,r1,q1⟩=>?_) hs rfl));obtain⟨l,rfl,⟨xs,hq⟩,q⟩:=q1;obtain⟨u,rfl,ru⟩:=vals1 r1;cases ru;obtain⟨its,rv,pl,hz⟩:=I1.list hq;obtain⟨ol,hol,_⟩:=pl.isList;have hlt:=XQ hol;refine call_enumerate_list pl.isList fun h' he hit hsz kk=>?_;have I2:Inv X pins σ H1 { s1 with heap:=h' }:=I1.kept (t':=s1.toks) kk;refine SU he ?_;refine⟨s1.heap.objs.size+1,[s1.heap.objs.size+1,s1.heap.objs.size],_,_,H1,rfl,I2,zhu (s1.heap.objs.size+1) s1.heap.objs.size l (VG _) (XA (W5 hlt)) (XA hlt),⟨⟨_,he⟩,hit⟩,fun b hb=>?_,q⟩;have hb':s1.heap.objs.size<=b:=by
  rcases XR.mp hb with e | hb
  ·rw[e];exact Wg _
  ·have e:b=s1.heap.objs.size:=by simpa using hb
   rw[e];exact XW _
 exact I1.fpOk hb' (I1.hok.fresh hb')
def zme (ta:TA):TI:=fun σ H R=>ta σ H fun vs H1=>∃z,vs=[.str z]/\R (zkn z) H1
theorem ziw {a:Expr}{ta:TA}{p pos:Pos}(hg:Gl X "enumerate")(hm:X.mg "enumerate"=none)(ha:PA X [a] ta)(hs:WB [a] X.env=[(false,eval a X.env)]:=by rfl):PI X (.Tuple elts k tpos) (.Call (.Name "enumerate" p) [a] [] pos) (zme ta):=by
 intro pins s σ H R I h;refine Call_ (ZQ I hg hm boot_enumerate (VJ (thn (ha pos pins s σ H _ I h) fun us s1 ⟨vs,H1,I1,r1,q1⟩=>?_) hs rfl));obtain⟨z,rfl,q⟩:=q1;obtain⟨u,rfl,t,rfl⟩:=vals1 r1;refine call_enumerate_str fun h' he hit hsz kk=>?_;have I2:Inv X pins σ H1 { s1 with heap:=h' }:=I1.kept (t':=s1.toks) kk;refine SU he ?_;have fpk:∀b ∈ [s1.heap.objs.size+1,s1.heap.objs.size],ZS X pins H1 b:=fun b hb=>by
  have hb':s1.heap.objs.size<=b:=by
   rcases XR.mp hb with e | hb
   ·rw[e];exact Wg _
   ·have e:b=s1.heap.objs.size:=by simpa using hb
    rw[e];exact XW _
  exact I1.fpOk hb' (I1.hok.fresh hb')
 unfold strIterType at hit;by_cases ha:z.cps.all (· < 128)=true
 ·rw[if_pos ha] at hit;exact⟨s1.heap.objs.size+1,[s1.heap.objs.size+1,s1.heap.objs.size],_,_,H1,rfl,I2,za2 (s1.heap.objs.size+1) s1.heap.objs.size z t "str_ascii_iterator" (VG _) (fun A hA=>Draws.strAscii hA _ z t),⟨⟨_,he⟩,hit⟩,fpk,q⟩
 ·rw[if_neg ha] at hit;exact⟨s1.heap.objs.size+1,[s1.heap.objs.size+1,s1.heap.objs.size],_,_,H1,rfl,I2,za2 (s1.heap.objs.size+1) s1.heap.objs.size z t "str_iterator" (VG _) (fun A hA=>Draws.strWide hA _ z t),⟨⟨_,he⟩,hit⟩,fpk,q⟩
def zoq (K:X6)(ta:TA):TI:=fun σ H R=>ta σ H fun vs H1=>∃l1 l2,vs=[.ref l1,.ref l2]/\(∃xs,SqL K H1 l1 xs)/\(∃ys,SqL K H1 l2 ys)/\R (Itz K l1 l2) H1
theorem zmf {a b:Expr}{ta:TA}{p pos:Pos}(hg:Gl X "zip")(hm:X.mg "zip"=none)(ha:PA X [a,b] ta)(hs:WB [a,b] X.env=[(false,eval a X.env),(false,eval b X.env)]:=by rfl)(hs2:WB [b] X.env=[(false,eval b X.env)]:=by rfl) :
  PI X (.Tuple elts k tpos) (.Call (.Name "zip" p) [a,b] [] pos) (zoq X.K ta):=by
 intro pins s σ H R I h;refine Call_ (ZQ I hg hm boot_zip (VJ (thn (ha pos pins s σ H _ I h) fun us s1 ⟨vs,H1,I1,r1,q1⟩=>?_) (by rw[hs,hs2]) (by rw[hs2];rfl)));obtain⟨l1,l2,rfl,⟨xs,hq1⟩,⟨ys,hq2⟩,q⟩:=q1;obtain⟨u,u',rfl,ru,ru'⟩:=vals2 r1;cases ru;cases ru';obtain⟨its1,rv1,p1,hz1⟩:=I1.list hq1;obtain⟨its2,rv2,p2,hz2⟩:=I1.list hq2;obtain⟨o1,ho1,_⟩:=p1.isList;obtain⟨o2,ho2,_⟩:=p2.isList;have lt1:@LT.lt Nat _ l1 s1.heap.objs.size:=XQ ho1;have lt2:@LT.lt Nat _ l2 s1.heap.objs.size:=XQ ho2;refine call_zip_2 p1.isList p2.isList fun h' hz hTI hTO hi1 hi2 hsz kk=>?_;have I2:Inv X pins σ H1 { s1 with heap:=h' }:=I1.kept (t':=s1.toks) kk;refine wpAny_pyIter_zip hz ?_;generalize hN:s1.heap.objs.size=N at *
 have apart:ZipApart (N+4) (N+2) (N+3) N (N+1) l1 l2:=by
  constructor<;>first
   | exact XA (by lia)
   | exact Uq (by lia)
 refine⟨N+4,[N+4,N+2,N+3,N,N+1],_,_,H1,rfl,I2,ziv (N+4) (N+2) (N+3) N (N+1) l1 l2 apart,⟨hz,hTI,⟨_,_,hTO⟩,hi1,hi2⟩,fun b hb=>?_,q⟩;have hb':s1.heap.objs.size<=b:=by
  rw[hN];simp only[XR,Vf,or_false] at hb;rcases hb with rfl | rfl | rfl | rfl | rfl<;>lia
 exact I1.fpOk hb' (I1.hok.fresh hb')
theorem zdo:jR X (.type "int") (fun xs H Q=>∃x n,xs=[.str x]/\Pn x=some n/\x.length<=640/\Q (.int n) H):=by
 intro pins s σ H xs us Q I r h;obtain⟨x,n,rfl,hn,hl,q⟩:=h;obtain⟨u,rfl,t,rfl⟩:=vals1 r;exact PySem.W.KIN.call_text hn hl ⟨.int n,H,I.tok _,⟨_,rfl⟩,q⟩
end
theorem JN {K:X6}{l:Addr}{xs:List V}{g:TG}{tb:TS}{D:Ends}{σ:St}{H:Hp}(Pv:Nat->St->Hp->Prop)(h0:Pv 0 σ H)(hl:∀i σ H,i<=xs.length->Pv i σ H->SqL K H l xs)
  (hs:∀i x T σ H,xs[i]?=some x->H T=none->Pv i σ H->g (.ref T) σ (upd H T (.tup [.int i,x])) fun σ2 H2=>tb { D with nx:=Pv (i+1),ct:=Pv (i+1),bk:=D.nx } σ2 H2) (hd:∀ σ H,Pv xs.length σ H->D.nx σ H) :
  ∃W:Nat->Nat->St->Hp->Prop,(∃m,W 0 m σ H)/\∀i m σ H,W i m σ H ->
   ((Ite K l).stop i H/\D.nx σ H)\/((Ite K l).go i H/\∃N:St->Hp->Prop,(∀ σ' H',N σ' H'->∃m',m'<m/\W (i+1) m' σ' H')/\∀x H',(Ite K l).yld i H x H'->g x σ H' fun σ2 H2=>tb { D with nx:=N,ct:=N,bk:=D.nx } σ2 H2):=by
 refine⟨fun i m σ H=>m=xs.length-i/\i<=xs.length/\Pv i σ H,⟨xs.length,by simp,W1 _,h0⟩,?_⟩;rintro i m σ H ⟨rfl,hi,p⟩;have q:=hl i σ H hi p;by_cases hlt:i<xs.length
 ·refine .inr ⟨⟨xs,q,hlt⟩,Pv (i+1),fun σ' H' p'=>⟨xs.length-(i+1),by lia,rfl,hlt,p'⟩,fun x H' y=>?_⟩;obtain⟨T,rfl,hT,y⟩:=y;obtain⟨v,hv,rfl⟩:=y xs q;exact hs i v T σ H hv hT p
 ·have e:i=xs.length:=by lia
  subst e;exact .inl ⟨⟨xs,q,rfl⟩,hd σ H p⟩
theorem zfB {g:TG}{tc:TT}{te:TE}{Q:VK}{σ:St}{H:Hp}{D:Addr}{x:Str}(Pv:Nat->St->Hp->Prop)(h0:Pv 0 σ H)
  (hs:∀i c T σ H,x.cps[i]?=some c->H T=none->Pv i σ H->g (.ref T) σ (upd H T (.tup [.int i,.str ⟨#[c]⟩])) fun σ2 H3=>tc σ2 H3 fun b H4=>if b=true then te σ2 H4 fun y H5=>∃ys,H5 D=some (.lst ys)/\ys.length<XC/\Pv (i+1) σ2 (upd H5 D (.lst (ys++[y]))) else Pv (i+1) σ2 H4)
  (hd:∀ σ H,Pv x.cps.size σ H->Q (.ref D) H):yQ (zkn x) g tc te Q D σ H:=by
 refine⟨fun i m σ H=>m=x.cps.size-i/\i<=x.cps.size/\Pv i σ H,⟨x.cps.size,by simp,W1 _,h0⟩,?_⟩;rintro i m σ H ⟨rfl,hi,p⟩;by_cases hlt:i<x.cps.size
 ·refine .inr ⟨hlt,Pv (i+1),fun σ' H' p'=>⟨x.cps.size-(i+1),by lia,rfl,hlt,p'⟩,fun v H' y=>?_⟩;obtain⟨T,c,rfl,hT,hc,rfl⟩:=y;exact hs i c T σ H hc hT p
 ·have e:i=x.cps.size:=by lia
  subst e;exact .inl ⟨rfl,hd σ H p⟩
def Q3 (look:Str->Option Addr):List (Str×Tz)->List (Str×Addr)->List (Str×Addr)
 | [],acc=>acc
 | (n,k)::r,acc=>if k == .free then (match look n with
  | some c=>Q3 look r ((n,c)::acc)
  | none=>Q3 look r acc) else Q3 look r acc
theorem JO {look:Str->Option Addr}:∀(names:List (Str×Tz)) (acc:List (Str×Addr)) (p:Str×Addr),p∈Q3 look names acc->p∈acc\/look p.1=some p.2
 | [],acc,p,h=>.inl h
 | (n,k)::r,acc,p,h=>by
  unfold Q3 at h;split at h
  ·cases e:look n with
   | none =>
    rw[e] at h;exact JO r acc p h
   | some c =>
    rw[e] at h;rcases JO r _ p h with h | h
    ·rcases XR.mp h with h | h
     ·subst h;exact .inr e
     ·exact .inl h
    ·exact .inr h
  ·exact JO r acc p h
theorem JP {x n:Str}{c:Addr}{acc:List (Str×Addr)}(h:(acc.lookup x).isSome=true\/x=n):(Ss x ((n,c)::acc)).isSome=true:=by
 rw[Ve];cases e:x==n with
 | true=>rfl
 | false =>
  rcases h with h | h
  ·exact h
  ·subst h;simp at e
theorem za3 {look:Str->Option Addr}{x:Str}(names:List (Str×Tz))(acc:List (Str×Addr))(h:(acc.lookup x).isSome=true\/((x,NameKind.free)∈names/\(look x).isSome=true)):((Q3 look names acc).lookup x).isSome=true:=by
 induction names generalizing acc with
 | nil =>
  rcases h with h | h
  ·exact h
  ·cases h.1
 | cons y r ih =>
  obtain⟨n,k⟩:=y;unfold Q3;split
  ·rename_i hk;cases e:look n with
   | none =>
    refine ih acc ?_;rcases h with h | ⟨h,h2⟩
    ·exact .inl h
    ·rcases XR.mp h with h | h
     ·cases h;rw[e] at h2;cases h2
     ·exact .inr ⟨h,h2⟩
   | some c =>
    refine ih _ ?_;rcases h with h | ⟨h,h2⟩
    ·exact .inl (JP (.inl h))
    ·rcases XR.mp h with h | h
     ·cases h;exact .inl (JP (.inr rfl))
     ·exact .inr ⟨h,h2⟩
  ·rename_i hk;refine ih acc ?_;rcases h with h | ⟨h,h2⟩
   ·exact .inl h
   ·rcases XR.mp h with h | h
    ·cases h;exact absurd rfl hk
    ·exact .inr ⟨h,h2⟩
theorem xh {scope:Vb}{env:Env}(h:∀y∈scope.names,y.2=.free->(env.cells.lookup y.1).isSome=true):R3 scope env=pure (Q3 (fun x=>env.cells.lookup x) scope.names []):=by
 have go:∀(names:List (Str×Tz)) (acc:List (Str×Addr)),(∀y∈names,y.2=.free->(env.cells.lookup y.1).isSome=true) ->
   (forIn names acc fun x cs=>(match x with
    | (name,kind)=>if (kind == .free)=true then do let a <- cellOf env name;pure (Vj ((name,a)::cs)) else pure (Vj cs):Sem (ForInStep (List (Str×Addr)))))=(pure (Q3 (fun x=>env.cells.lookup x) names acc):Sem _):=by
  intro names;induction names with
  | nil=>intro acc _;rfl
  | cons y r ih =>
   intro acc hy;obtain⟨n,k⟩:=y;have hr:∀y∈r,y.2=.free->(env.cells.lookup y.1).isSome=true:=fun y hm=>hy y (XX _ hm);rw[List.forIn_cons];unfold Q3;by_cases hk:(k==NameKind.free)=true
   ·have hk':k=.free:=by simpa using hk
    have hs:=hy (n,k) XU hk';obtain⟨c,hc⟩:=Vz.mp hs;have hc':Ss n env.cells=some c:=hc;have e1:cellOf env n=pure c:=by
     unfold cellOf;rw[hc']
    simp only[hk,if_true,e1,hc',pure_bind];exact ih _ hr
   ·simp only[hk,Wp,if_false,pure_bind];exact ih _ hr
 simp only[R3];exact Eq.trans (congrArg (fun m:Sem (List (Str×Addr))=>m >>= fun cs=>pure cs) (go scope.names [] h)) rfl
theorem jU {scope:Vb}{env:Env}{x:Str}{k:Tz}(h:(x,k)∈(Vx scope env).names)(hk:k=.cell\/k=.free):(x,UY)∈scope.names\/(x,NameKind.free)∈scope.names:=by
 obtain⟨y,hy,e⟩:=XB.mp h;obtain⟨n,k0⟩:=y;by_cases c:(k0==NameKind.free&&env.scope.kind == .function&&env.kindOf n==some .cell)=true
 ·have e':(if (k0==NameKind.free&&env.scope.kind == .function&&env.kindOf n==some .cell)=true then (n,UY) else (n,k0))=(x,k):=e;rw[if_pos c] at e';cases e';have c1:k0=.free:=by
   have:=(V2.mp (V2.mp c).1).1;simpa using this
  subst c1;exact .inr hy
 ·have e':(if (k0==NameKind.free&&env.scope.kind == .function&&env.kindOf n==some .cell)=true then (n,UY) else (n,k0))=(x,k):=e;rw[if_neg c] at e';cases e';rcases hk with rfl | rfl
  ·exact .inl hy
  ·exact .inr hy
theorem zdp {scope:Vb}{env:Env}{x:Str}(hk:env.scope.kind=.function)(ho:env.kindOf x=some .cell)(h:scope.names.lookup x=some .free):(Vx scope env).names.lookup x=some .cell:=by
 have go:∀names:List (Str×Tz),names.lookup x=some .free->(names.map fun (n,k)=>if (k==NameKind.free&&env.scope.kind == .function&&env.kindOf n==some .cell)=true then (n,UY) else (n,k)).lookup x=some .cell:=by
  intro names;induction names with
  | nil=>intro h;cases h
  | cons y r ih =>
   obtain⟨n,k⟩:=y;intro h;show Ss x ((if (k==NameKind.free&&env.scope.kind == .function&&env.kindOf n==some .cell)=true then (n,UY) else (n,k))::_)=_;rw[Ve] at h;cases e:x==n with
   | true =>
    rw[e] at h;have hk':k=.free:=Option.some.inj h;have hn:x=n:=by simpa using e
    subst hk' hn;rw[if_pos (by rw[hk,ho];rfl),Ve,beq_self_eq_true]
   | false =>
    rw[e] at h;by_cases c:(k==NameKind.free&&env.scope.kind == .function&&env.kindOf n==some .cell)=true
    ·rw[if_pos c,Ve,e];exact ih h
    ·rw[if_neg c,Ve,e];exact ih h
 exact go scope.names h
theorem zT.free {X:Cx}{N:List Str}{src:List (Option Nat)}{scope:Vb}{O:List (Str×Tz)}{XN:List Str}(hO:X.env.scope.names=O)(hK:X.env.scope.kind=.function)(hC:∃n,X.env.cells=R5 n O [])(hX:X.N=XN)
  (kind:scope.kind=.function) (nocell:∀y∈scope.names,y.2 ≠ .cell) (names:∀y∈scope.names,y.2=.local->scope.names.lookup y.1=some .local) (fr:∀y∈scope.names,y.2=.free->O.lookup y.1=some .cell) (len:src.length=N.length)
  (pc:∀q∈N.zip src,q.2=none\/(∃j∈WO XN.length,q.2=some j/\XN[j]?=some q.1/\O.lookup q.1=some .cell/\scope.names.lookup q.1=some .free)):zT X N src scope (Q3 (fun x=>X.env.cells.lookup x) scope.names []):=by
 have hs:∀y∈scope.names,y.2=.free->(X.env.cells.lookup y.1).isSome=true:=fun y hy e=>by
  obtain⟨n,hn⟩:=hC;rw[hn];exact SM O n [] (.inl (fr y hy e))
 refine⟨kind,nocell,names,xh hs,fun x c h=>?_,fun x h=>?_,len,fun i j x h1 h2=>?_⟩
 ·rcases JO _ _ _ (WQ h) with z | z
  ·cases z
  ·exact z
 ·refine Vz.mp (za3 _ _ (.inr ?_));have hm:(x,UY)∈scope.names\/(x,NameKind.free)∈scope.names:=by
   rcases h with h | h
   ·exact jU (WQ h) (.inl rfl)
   ·exact jU (WQ h) (.inr rfl)
  rcases hm with hm | hm
  ·exact absurd rfl (nocell _ hm)
  ·exact⟨hm,hs _ hm rfl⟩
 ·have hm:(x,some j)∈N.zip src:=by
   refine X0 (i:=i) ?_;rw[TK];exact⟨h1,h2⟩
  rcases pc _ hm with z | ⟨j',_,e,e1,e2,e3⟩
  ·cases z
  ·cases e;have ko:X.env.kindOf x=some .cell:=by
    show X.env.scope.names.lookup x=some .cell;rw[hO];exact e2
   exact⟨by rw[hX];exact e1,.inl ko,.inl (zdp hK ko e3)⟩
open PySem PySem.Spec PyProof.Rows PySem.W
section
variable {α β:Type}{R:α->β->Prop}{us us':List α}{cs cs':List β}{i:Nat}{v:α}{c:β}
theorem za4 (h:W9 R us cs)(k:W9 R us' cs'):W9 R (us++us') (cs++cs'):=by
 induction h with
 | nil=>exact k
 | cons q _ ih=>exact .cons q ih
theorem zar (h:W9 R us cs)(e:us[i]?=some v):∃c,cs[i]?=some c/\R v c:=by
 induction h generalizing i with
 | nil=>cases e
 | cons q _ ih =>
  cases i with
  | zero =>
   cases e;exact⟨_,rfl,q⟩
  | succ i=>exact ih (i:=i) e
theorem zix (h:W9 R us cs)(e:v∈us):∃c∈cs,R v c:=by
 induction h with
 | nil=>cases e
 | cons q _ ih =>
  rcases XR.mp e with rfl | e
  ·exact⟨_,XU,q⟩
  ·obtain⟨c,h,r⟩:=ih e;exact⟨c,XX _ h,r⟩
end
def yR (H:Hp):List V->List (Int×Int)->Prop:=W9 fun v p=>∃a,v=V.ref a/\H a=some (.tup [.int p.1,.int p.2])
def lt2 (p q:Int×Int):Bool:=if p.1=q.1 then decide (p.2<q.2) else decide (p.1<q.1)
structure zv (h:Heap)(v:X9)(p:Int×Int):Prop where
 ex:∃a o n t u,v=.ref a/\h.get? a=some o/\o.cls=.type "tuple"/\o.data=.seq #[.int p.1 t,.int p.2 u] n
section
variable {X:Cx}{pins:List (Addr×Obj)}{σ:St}{H:Hp}{s:X8}
theorem yR.pairs (I:Inv X pins σ H s){us:List V}{ps:List (Int×Int)}{its:List X9}(hp:yR H us ps)(r:Vals us its):W9 (zv s.heap) its ps:=by
 induction hp generalizing its with
 | nil =>
  cases r;exact .nil
 | cons q _ ih =>
  obtain⟨a,e,h⟩:=q;subst e;cases r with
  | cons r1 r2 =>
   cases r1;refine .cons ?_ (ih r2);obtain⟨items,rv,tp,_⟩:=I.tuple (SqT.of h);obtain⟨u1,u2,rfl,⟨t1,rfl⟩,⟨t2,rfl⟩⟩:=vals2 rv;obtain⟨ob,e1,c1,n,d1⟩:=tp;exact⟨a,ob,n,t1,t2,rfl,e1,c1,d1⟩
end
theorem Zq {h h':Heap}(k:∀b o,h.get? b=some o->h'.get? b=some o):∀{its:List X9} {ps:List (Int×Int)},W9 (zv h) its ps->W9 (zv h') its ps
 | _,_,.nil=>.nil
 | _,_,.cons ⟨a,o,n,t,u,e,e1,r⟩ tl=>.cons ⟨a,o,n,t,u,e,k _ _ e1,r⟩ (Zq k tl)
theorem Qm {h:Heap}:∀{its:List X9} {ps:List (Int×Int)},W9 (zv h) its ps->∃fs:List X9,KatTups h its fs/\fs.length=its.length/\∀v∈fs,∃x t,v=Vl x t
 | _,_,.nil=>⟨[],.nil,rfl,fun _ z=>nomatch z⟩
 | _,_,.cons ⟨a,o,n,t,u,e,e1,c,d⟩ tl=>by
  obtain⟨fs,k,l,q⟩:=Qm tl;subst e;refine⟨.int _ t::fs,KatTups.cons e1 c d rfl k,by simp[l],fun v hv=>?_⟩;rcases XR.mp hv with rfl | hv
  ·exact⟨_,t,rfl⟩
  ·exact q v hv
section
variable {prog:Xl}{w:W3}{A:WW}{E:X9->X8->Prop}{s:X8}
theorem zko {v v':X9}{p q:Int×Int}{C:Bool->X8->Prop}(hv:zv s.heap v p)(hv':zv s.heap v' q)(h:C (lt2 p q) s):Xo (Xr prog w) A (keyLt' (tuples' true) v v') C E s:=by
 obtain⟨a,o,n,t,u,rfl,e1,c1,d1⟩:=hv;obtain⟨a',o',n',t',u',rfl,e1',c1',d1'⟩:=hv';refine kat_lt e1 d1 e1' d1' ?_;show KatLex prog w A true _ C [(Vl p.1 t,Vl q.1 t'),(Vl p.2 u,Vl q.2 u')] 0 s;unfold lt2 at h;refine kat_cons (SeqAt.EqAt.int_int _ _ _ _ prog w _ _ (kat_go (fun ee=>kat_yes ?_) fun ee=>kat_no ?_))
 ·have e:p.1=q.1:=by simpa using ee
  rw[if_pos e] at h;refine kat_cons (SeqAt.EqAt.int_int _ _ _ _ prog w _ _ (kat_go (fun e2=>kat_yes (kat_nil ?_)) fun e2=>kat_no ?_))
  ·have e3:p.2=q.2:=by simpa using e2
   have e4:decide (p.2<q.2)=false:=decide_eq_false (by lia);rw[e4] at h;exact h
  ·exact kat_one _ _ (lt_int h)
 ·have e:¬ p.1=q.1:=by simpa using ee
  rw[if_neg e] at h;exact oneLt_int h
end
section
variable {X:Cx}
end
section
variable {X:Cx}
theorem zec:zne X (znp X.K):=by
 intro pins s σ H x y v u Q I rx ry h;obtain⟨p,xs,i,z,rfl,rfl,hq,he,q⟩:=h;cases rx;obtain⟨t,rfl⟩:=ry;obtain⟨its,r,pl,hz⟩:=I.list hq;obtain⟨j,h1,h2,h3,h4,h5⟩:=zaL he;obtain⟨w,ew,rw'⟩:=r.get h2;have hl:=r.length;have hn:=ZT;have fin:EP X pins σ Q w s:=⟨z,H,I,rw',q⟩;by_cases h0:0<=i
 ·have hj:i.toNat=j:=by
   rw[Pr h0 h5] at h1;exact Option.some.inj h1
  exact wpAny_getItem_list pl.isList h0 (by lia) (by rw[hj];simpa using ew) fin
 ·have hj:(i+(its.toArray.size:Int)).toNat=j:=by
   rw[P8 (by lia) h4] at h1;rw[Xv,<- hl];exact Option.some.inj h1
  exact P1 pl.isList (by lia) (by rw[Xv]<;>lia) (by lia) (by rw[hj];simpa using ew) fin
theorem zed:∀{ns:List Int} {its:List X9},Vals (ns.map V.int) its->Pa its ns
 | [],_,r=>by cases r;exact .nil
 | n::ns,_,r=>by
  cases r with
  | cons r1 r2 =>
   obtain⟨t,rfl⟩:=r1;exact .cons n t (zed r2)
theorem ZZ (hc:X.calm=true):jR X (.builtin "sum") (fun xs H Q=>∃(l:Addr) (ns:List Int),xs=[.ref l]/\SqL X.K H l (ns.map V.int)/\Q (.int ns.sum) H):=by
 intro pins s σ H xs us Q I r h;obtain⟨l,ns,rfl,hq,q⟩:=h;obtain⟨u,rfl,ru⟩:=vals1 r;cases ru;obtain⟨its,rv,pl,hz⟩:=I.list hq;have hi:Pa its ns:=zed rv;obtain⟨ys,ey⟩:=hi.allInts.items;refine sum_intListG (I.ok.hd hc) (xs:=ys) (ey ▸ pl.isList) fun h' tk t' hk=>?_;have f1:ns=ys.toList.map (·.1):=by
  rw[<- nums_intItems,<- ey];exact(show numsOf its.toArray.toList=ns from hi.numsOf).symm
 have f2:preSum (numAt ys) ys.size=ns.sum:=by
  rw[f1,preSum_eq,WL (by simp)]
 rw[f2];exact⟨.int _,H,I.kept hk,⟨_,rfl⟩,q⟩
theorem zhv {bs:List Bool}{its:List X9}(r:Vals (bs.map V.bl) its){i:Nat}{v:X9}(e:its[i]?=some v):∃b,bs[i]?=some b/\v=.bool b:=by
 have hl:=r.length;rw[Y1] at hl;have hi:i<bs.length:=by
  have:=(X2.mp e).1;lia
 obtain⟨u,hu,ru⟩:=r.get (i:=i) (x:=.bl bs[i]) (by rw[Xn,X4 hi];rfl);rw[hu] at e;cases e;exact⟨bs[i],X4 hi,ru⟩
theorem zee (hc:X.calm=true):jR X (.builtin "any") (fun xs H Q=>∃(l:Addr) (bs:List Bool),xs=[.ref l]/\SqL X.K H l (bs.map V.bl)/\Q (.bl (bs.any id)) H):=by
 intro pins s σ H xs us Q I r h;obtain⟨l,bs,rfl,hq,q⟩:=h;obtain⟨u,rfl,ru⟩:=vals1 r;cases ru;obtain⟨its,rv,pl,hz⟩:=I.list hq;have hl:=pl.isList;have hlt:l<s.heap.objs.size:=let ⟨_,he,_⟩:=hl;XQ he
 have hln:=rv.length;rw[Y1] at hln;refine call_any_walk (SV hl ?_);refine⟨s.heap.objs.size,[s.heap.objs.size,l],[s.heap.objs.size],its.toArray.size,_,_,fun i=>(bs[i]?).getD false,rfl,Walks.list (A:=X.A.in1) (I.ok.hd hc) _ l (XA hlt) its.toArray,
  ⟨⟨_,Xb _ rfl,rfl,rfl⟩,hl.push _⟩,fun i v s' Q' E' hP hQ=>?_,fun h' tk hk=>?_⟩
 ·obtain⟨b,eb,rfl⟩:=zhv rv (i:=i) (v:=v) (by simpa using hP);simp only[eb,TN] at hQ;exact Vo hQ
 ·have e:((WO its.toArray.size).any fun i=>(bs[i]?).getD false)=bs.any id:=by
   rw[Xv,<- hln];exact LSm.range_any bs
  rw[e];exact⟨.bl _,H,I.kept (LSm.kept_iter hk),rfl,q⟩
end
mutual
inductive Rdn (N:Addr->Prop)(H:Hp):V->Wa->Prop
 | non:Rdn N H .non .none
 | bl (b:Bool):Rdn N H (.bl b) (.bool b)
 | int (i:Int):Rdn N H (.int i) (.int i)
 | str (x:Str):Rdn N H (.str x) (.str x)
 | lst {a:Addr} {xs:List V} {ds:List Wa}:N a->H a=some (.lst xs)->zw N H xs ds->Rdn N H (.ref a) (.list ds)
 | tup {a:Addr} {xs:List V} {ds:List Wa}:H a=some (.tup xs)->zw N H xs ds->Rdn N H (.ref a) (.tuple ds)
inductive zw (N:Addr->Prop)(H:Hp):List V->List Wa->Prop
 | nil:zw N H [] []
 | cons {x:V} {d:Wa} {xs:List V} {ds:List Wa}:Rdn N H x d->zw N H xs ds->zw N H (x::xs) (d::ds)
end
section
variable {K:X6}{N N':Addr->Prop}{H H':Hp}
theorem Rdn.rdv {v:V}{d:Wa}(h:Rdn N H v d):Rdv K H v d :=
 Rdn.rec (motive_1:=fun v d _=>Rdv K H v d) (motive_2:=fun vs ds _=>xg K H vs ds) .non .bl .int .str (fun _ h _ t=>.lst (SqL.of h) t) (fun h _ t=>.tup (SqT.of h) t) .nil (fun _ _ a t=>.cons a t) h
theorem zw.rdv {vs:List V}{ds:List Wa}(h:zw N H vs ds):xg K H vs ds :=
 zw.rec (motive_1:=fun v d _=>Rdv K H v d) (motive_2:=fun vs ds _=>xg K H vs ds) .non .bl .int .str (fun _ h _ t=>.lst (SqL.of h) t) (fun h _ t=>.tup (SqT.of h) t) .nil (fun _ _ a t=>.cons a t) h
theorem Rdn.mono (s:zq H H')(i:∀a,N a->N' a){v:V}{d:Wa}(h:Rdn N H v d):Rdn N' H' v d :=
 Rdn.rec (motive_1:=fun v d _=>Rdn N' H' v d) (motive_2:=fun vs ds _=>zw N' H' vs ds) .non .bl .int .str (fun n h _ t=>.lst (i _ n) (s _ _ h) t) (fun h _ t=>.tup (s _ _ h) t) .nil (fun _ _ a t=>.cons a t) h
theorem zw.mono (s:zq H H')(i:∀a,N a->N' a){vs:List V}{ds:List Wa}(h:zw N H vs ds):zw N' H' vs ds :=
 zw.rec (motive_1:=fun v d _=>Rdn N' H' v d) (motive_2:=fun vs ds _=>zw N' H' vs ds) .non .bl .int .str (fun n h _ t=>.lst (i _ n) (s _ _ h) t) (fun h _ t=>.tup (s _ _ h) t) .nil (fun _ _ a t=>.cons a t) h
theorem zw.into {D:Addr}{o:HO}{old:List V}(hD:H D=some (.lst old))(i:∀a,N a->a≠D){vs:List V}{ds:List Wa}(h:zw N H vs ds):zw N (upd H D o) vs ds :=
 zw.rec (motive_1:=fun v d _=>Rdn N (upd H D o) v d) (motive_2:=fun vs ds _=>zw N (upd H D o) vs ds) .non .bl .int .str (fun n h _ t=>.lst n (by rw[zj (i _ n)];exact h) t) (fun h _ t=>.tup (by rw[zj (zd0 h hD (by intro z;cases z))];exact h) t) .nil (fun _ _ a t=>.cons a t) h
theorem Rdn.keep (s:zq H H'){v:V}{d:Wa}(h:Rdn N H v d):Rdn N H' v d:=h.mono s fun _ n=>n
theorem zw.keep (s:zq H H'){vs:List V}{ds:List Wa}(h:zw N H vs ds):zw N H' vs ds:=h.mono s fun _ n=>n
theorem zw.append {vs ws:List V}{ds es:List Wa}(h:zw N H vs ds)(k:zw N H ws es):zw N H (vs++ws) (ds++es) :=
 zw.rec (motive_1:=fun _ _ _=>True) (motive_2:=fun vs ds _=>zw N H (vs++ws) (ds++es))
  trivial (fun _=>trivial) (fun _=>trivial) (fun _=>trivial) (fun _ _ _ _=>trivial) (fun _ _ _=>trivial) k (fun a _ _ t=>.cons a t) h
theorem zw.snoc {vs:List V}{ds:List Wa}{v:V}{d:Wa}(h:zw N H vs ds)(k:Rdn N H v d):zw N H (vs++[v]) (ds++[d]):=h.append (.cons k .nil)
theorem zw.paired {vs:List V}{ds:List Wa}(h:zw N H vs ds):W9 (Rdn N H) vs ds :=
 zw.rec (motive_1:=fun _ _ _=>True) (motive_2:=fun vs ds _=>W9 (Rdn N H) vs ds)
  trivial (fun _=>trivial) (fun _=>trivial) (fun _=>trivial) (fun _ _ _ _=>trivial) (fun _ _ _=>trivial) .nil (fun a _ _ t=>.cons a t) h
theorem zw.length {vs:List V}{ds:List Wa}(h:zw N H vs ds):vs.length=ds.length:=Paired.length h.paired
theorem zw.get {vs:List V}{ds:List Wa}{i:Nat}{v:V}(h:zw N H vs ds)(e:vs[i]?=some v):∃d,ds[i]?=some d/\Rdn N H v d:=zar h.paired e
end
section
variable {K:X6}{g:TG}{tc:TT}{te:TE}{Q:VK}{σ0:St}{H1:Hp}{D:Addr}
def zkp (N:Addr->Prop)(inv:St->Prop)(H:Hp)(o:Option Wa)(Y:St->V->Hp->Prop):Prop:=∀d y σ2 H5,o=some d->inv σ2->zq H H5->Rdn N H5 y d->Y σ2 y H5
def zmg (inv:St->Prop)(H:Hp)(o:Option Wa)(Z:St->Hp->Prop):Prop:=∀ σ2 H4,o=none->inv σ2->zq H H4->Z σ2 H4
theorem qN {a:Addr}{xs:List V}(N:Addr->Prop)(outs:List (Option Wa))(inv:St->Prop)(hD:H1 D=none)(hN:∀a,N a->a≠D)(h0:inv σ0)(hlen:outs.length=xs.length)(hz:xs.length<=100000)
  (hl:SqL K H1 a xs)
  (hs:∀(i:Nat) (x:V) (o:Option Wa) (σ:St) (H:Hp),xs[i]?=some x->outs[i]?=some o->zq H1 H->H D≠none->inv σ->∀Y Z,zkp N inv H o Y->zmg inv H o Z ->
   g x σ H fun σ2 H3=>tc σ2 H3 fun b H4=>if b=true then te σ2 H4 fun y H5=>Y σ2 y H5 else Z σ2 H4)
  (hd:∀ys H',zq H1 H'->H' D=some (.lst ys)->zw N H' ys (outs.filterMap id)->Q (.ref D) H'):yQ (Itl K a) g tc te Q D σ0 (upd H1 D (.lst [])):=by
 refine qW (K:=K) (a:=a) (xs:=xs) (fun i σ H'=>inv σ/\zq H1 H'/\∃ys,H' D=some (.lst ys)/\ys.length<=i/\zw N H' ys ((outs.take i).filterMap id)) ⟨h0,zd hD,[],zb,XW _,.nil⟩ (fun i σ H' _ ⟨_,s,_⟩=>s.seq hl) ?_ ?_
 ·rintro i x σ H hx ⟨hi,s,ys,hy,yl,hr⟩;have hil:i<xs.length:=(X2.mp hx).1;obtain⟨o,ho⟩:∃o,outs[i]?=some o:=⟨outs[i]'(by lia),X4 (by lia)⟩;have step:(outs.take (i+1)).filterMap id=(outs.take i).filterMap id++o.toList:=by
   rw[Xm,ho,List.filterMap_append];cases o<;>rfl
  refine hs i x o σ H hx ho s (by rw[hy];exact fun z=>nomatch z) hi _ _ (fun d y σ2 H5 e hi2 s5 hr5=>?_) (fun σ2 H4 e hi2 s4=>?_)
  ·subst e;refine⟨ys,s5 _ _ hy,Xe yl (XE hil (XV hz (by decide))),hi2,fun b ob e=>?_,ys++[y],zb,?_,?_⟩
   ·rw[zj (zk e hD)];exact s5 _ _ (s _ _ e)
   ·rw[XZ];exact Pj yl 1
   ·rw[step];exact zw.into (s5 _ _ hy) hN (zw.snoc (hr.keep s5) hr5)
  ·subst e;refine⟨hi2,s.trans s4,ys,s4 _ _ hy,T7 yl,?_⟩;rw[step];simpa using hr.keep s4
 ·rintro σ H ⟨_,s,ys,hy,_,hr⟩;rw[<- hlen,Xq] at hr;exact hd ys H s hy hr
theorem zfC {a:Addr}{xs:List V}(Pv:Nat->St->Hp->Prop){H:Hp}(h0:Pv 0 σ0 H)(hl:∀i σ H,i<=xs.length->Pv i σ H->SqL K H a xs)
  (hs:∀i x T σ H,xs[i]?=some x->H T=none->Pv i σ H->g (.ref T) σ (upd H T (.tup [.int i,x])) fun σ2 H3=>tc σ2 H3 fun b H4=>if b=true then te σ2 H4 fun y H5=>∃ys,H5 D=some (.lst ys)/\ys.length<XC/\Pv (i+1) σ2 (upd H5 D (.lst (ys++[y]))) else Pv (i+1) σ2 H4)
  (hd:∀ σ H,Pv xs.length σ H->Q (.ref D) H):yQ (Ite K a) g tc te Q D σ0 H:=by
 refine⟨fun i m σ H=>m=xs.length-i/\i<=xs.length/\Pv i σ H,⟨xs.length,by simp,W1 _,h0⟩,?_⟩;rintro i m σ H ⟨rfl,hi,p⟩;have q:=hl i σ H hi p;by_cases hlt:i<xs.length
 ·refine .inr ⟨⟨xs,q,hlt⟩,Pv (i+1),fun σ' H' p'=>⟨xs.length-(i+1),by lia,rfl,hlt,p'⟩,fun x H' y=>?_⟩;obtain⟨T,rfl,hT,y⟩:=y;obtain⟨v,hv,rfl⟩:=y xs q;exact hs i v T σ H hv hT p
 ·have e:i=xs.length:=by lia
  subst e;exact .inl ⟨⟨xs,q,rfl⟩,hd σ H p⟩
theorem Zr {i:Nat}{v:V}{σ:St}{H:Hp}{A B:St->Hp->Prop}(h:A (σ.set i (some v)) H):ZR i v σ H fun σ2 H3=>ziu σ2 H3 fun b H4=>if b=true then A σ2 H4 else B σ2 H4:=by
 show if true=true then A (σ.set i (some v)) H else B (σ.set i (some v)) H
 exact ZW h
end
def xr:List X9:=[.type "ValueError",.type "Exception",.type "BaseException",.type "object"]
structure Fly (P:Xl)(w:W3)(outer:List Env)(H:Hp)(s:X8)(e C:Addr)(a0:X9)(B:Heap)(H':Hp)(s':X8):Prop where
 fly:OK B outer e (.ref C) a0 s'.heap
 os:s'.os=s.os
 bare:S6 s'.gens
 un:Un (frs outer) [] H H' s.heap s'.heap
 ok:HOk P w H' B
 kB:∀b o,s.heap.get? b=some o->H b=none->b ∉ frs outer->B.get? b=some o
 tB:∀b o,s.heap.get? b=some o->b ∉ frs outer->∃o',B.get? b=some o'
 new:s.heap.get? e=none
 free:H' e=none
def CXE (P:Xl)(w:W3):CXT:=fun outer H s E x s'=>∃(e C:Addr) (a0:X9) (B:Heap) (H':Hp),x=.ref e/\Fly P w outer H s e C a0 B H' s'/\E (.ref C) none H'
theorem ziy {P:Xl}{w:W3}{H:Hp}{h:Heap}{a:Addr}:∀{o:HO},qM P w H h a o->∃ob,h.get? a=some ob
 | .lst _,x=>by obtain⟨_,_,_,_,q⟩:=x;exact⟨_,q⟩
 | .tup _,x=>by obtain⟨_,_,_,ob,q,_⟩:=x;exact⟨ob,q⟩
 | .dK _,x=>by obtain⟨_,_,_,_,ob,_,_,q,_⟩:=x;exact⟨ob,q⟩
 | .dT _,x=>by obtain⟨_,_,_,_,ob,_,_,q,_⟩:=x;exact⟨ob,q⟩
 | .set _ _,x=>by obtain⟨ob,_,_,_,q,_⟩:=x;exact⟨ob,q⟩
 | .ins _ _ _,x=>by obtain⟨_,_,_,q,_⟩:=x;exact⟨_,q⟩
 | .own _,x=>x
 | .xd _,x=>by obtain⟨_,⟨ob,_,_,q,_⟩,_⟩:=x;exact⟨ob,q⟩
 | .met _ _,x=>⟨_,x⟩
 | .rng _ _,x=>by obtain⟨_,_,_,q⟩:=x;exact⟨_,q⟩
 | .frz _ _,x=>⟨_,x.1⟩
 | .tbl _,x=>⟨_,x⟩
 | .ext _,x=>x.2.1
section
variable {X:Cx}{pins:List (Addr×Obj)}{σ:St}{H H':Hp}{s s':X8}{e C:Addr}{a0:X9}{B h2:Heap}
theorem Inv.notLoc (I:Inv X pins σ H s){b:Addr}{o:Obj}(q:X.s₀.heap.get? b=some o):b≠X.env.locals:=fun z=>Wq _ (XE (z ▸ XQ q) I.ok.above)
theorem Inv.notStk (I:Inv X pins σ H s){b:Addr}{o:Obj}(q:X.s₀.heap.get? b=some o)(hb:b ∉ X.fs):b ∉ frs X.stack:=fun z=>by
 rcases XR.mp (I.stkSub b z) with r | r
 ·exact I.notLoc q r
 ·exact hb r
theorem Inv.flies (I:Inv X pins σ H s)(hex:X.ex=[])(F:OK B X.outer e (.ref C) a0 h2)(up:s'.heap.UpToSlots h2)(os:s'.os=s.os)(bare:S6 s'.gens)(un:Un (frs X.stack) [] H H' s.heap s'.heap)(ok:HOk X.prog X.w H' B)
  (kB:∀b o,s.heap.get? b=some o->H b=none->b ∉ frs X.stack->B.get? b=some o) (tB:∀b o,s.heap.get? b=some o->b ∉ frs X.stack->∃o',B.get? b=some o') (new:s.heap.get? e=none) (free:H' e=none) :
  Fly X.prog X.w X.outer X.H₀ X.s₀ e C a0 B H' { s' with heap:=h2 }:=by
 have nx:∀b,b ∉ X.ex:=fun b z=>by rw[hex] at z;cases z
 have keep:∀b o,X.s₀.heap.get? b=some o->X.H₀ b=none->b ∉ X.fs->B.get? b=some o:=fun b o q n hb =>
  kB b o (I.base.keep b o q n hb (nx b)) (I.base.free b o q n (nx b)) (I.notStk q hb)
 have there:∀b o,X.s₀.heap.get? b=some o->b ∉ X.fs->∃o',B.get? b=some o':=fun b o q hb=>by
  obtain⟨o',q'⟩:=I.base.there b o q (nx b);exact tB b o' q' (I.notStk q hb)
 have slot:∀b o,X.s₀.heap.get? b=some o->b∈X.fs->∃sl,h2.get? b=some { o with slots:=sl }:=fun b o q hb=>by
  obtain⟨_,o1,q1,nf⟩:=I.ok.funs.mem hb;rw[q] at q1;cases q1;obtain⟨sl,q2⟩:=I.base.slot b o q (I.ok.frf b hb) hb (nx b);obtain⟨sl2,q3⟩:=un.any q2 (I.base.free b o q (I.ok.frf b hb) (nx b)) (fun z=>nomatch z);obtain⟨sl3,q4⟩:=up b _ q3 nf;exact⟨sl3,q4⟩
 refine⟨F,os.trans I.os,bare,⟨fun b o q n hb _=>F.1 b o (keep b o q n hb),fun b o q _ hb _=>slot b o q hb,fun b o q n _=>?_,fun b o q _=>?_,fun b xs q=>un.tups b xs (I.base.tups b xs q),fun b o u q=>un.frzs b o u (I.base.frzs b o u q),fun b ps q=>?_⟩,ok,keep,there,?_,free⟩
 ·obtain⟨o',q'⟩:=I.base.there b o q (nx b);exact un.free b o' q' (I.base.free b o q n (nx b)) fun z=>nomatch z
 ·by_cases hb:b∈X.fs
  ·obtain⟨sl,r⟩:=slot b o q hb;exact⟨_,r⟩
  ·obtain⟨o',r⟩:=there b o q hb;exact⟨o',F.1 b o' r⟩
 ·obtain⟨m1,r1⟩:=I.base.tbls b ps q;obtain⟨m2,r2⟩:=un.tbls b _ r1;exact⟨m1++m2,by rw[r2,RT]⟩
 ·cases q:X.s₀.heap.get? e with
  | none=>rfl
  | some o =>
   obtain⟨o',q'⟩:=I.base.there e o q (nx e);rw[new] at q';cases q'
structure jq (X:Cx)(E:XK):Prop where
 stk:X.stack=X.env::X.outer
 fr:X.env.frame=some X.env.locals
 ex:X.ex=[]
 xe:X.xe=fun x s'=>Xo (Xr X.prog X.w) X.A (leaving X.env x) (fun _ s''=>CXE X.prog X.w X.outer X.H₀ X.s₀ E x s'') (fun x' s''=>CXE X.prog X.w X.outer X.H₀ X.s₀ E x' s'') s'
theorem jC {P:Xl}{w:W3}{K:X6}{mg:Str->Option X9}{base:Heap}{N:List Str}{qual:Str}{scope:Vb}{f:Addr}{cd:X9}{A:WW}{outer:List Env}{s:X8}{H:Hp}{E:XK} :
  jq (zd5 (CXE P w) P w K mg base N qual scope f cd A outer s H E) E:=⟨rfl,rfl,rfl,rfl⟩
theorem zmh {l:List Env}:∀env∈l,∀a,env.frame=some a->a∈frs l:=fun env he a hf=>Vd.mpr ⟨env,he,hf⟩
theorem jq.made {E:XK}(L:jq X E)(I:Inv X pins σ H s){h1:Heap}{vs:List X9}(hx:Heap.MadeExcOf s.heap h1 e (.ref C) vs)(hE:E (.ref C) none H):X.xe (.ref e) { s with heap:=h1 }:=by
 rw[L.xe];have hs:=I.stack;have nb:∀a o,H a=some o->a ∉ frs X.stack:=fun a o q z=>by
  rw[I.stkFree a z] at q;cases q
 have own:∀a b,H b=some (.own a)->b ∉ frs X.stack:=fun a b q=>nb b _ q;have fresh:H e=none:=by
  cases q:H e with
  | none=>rfl
  | some o =>
   obtain⟨o',q'⟩:∃o',s.heap.get? e=some o':=by
    exact ziy (I.hok e o q)
   rw[hx.new] at q';cases q'
 refine wpAny_leaves_madeW (base:=PySem.W.hideAll s.heap (frs X.stack)) (L:=X.env.locals) (by rw[I.ok.frames,L.stk]) L.fr (fun b o q=>PySem.W.of_hideAll _ q) (PySem.W.funFrames_hide (by rw[<- L.stk];exact hs) (by rw[<- L.stk];exact zmh)) hx fun h' t x1 x2 x3 x4=>?_;refine⟨e,C,_,_,H,rfl,I.flies (s':={ s with heap:=h1 }) L.ex x1 x4 rfl I.bare (Un.kept hx.keeps) ?_ (fun b o q _ hb=>TH _ q hb) (fun b o q hb=>⟨o,TH _ q hb⟩) hx.new fresh,hE⟩;exact fun a o q=>(I.hok a o q).stay (fun b u hb r=>TH _ r (by
  rcases hb with hb | hb
  ·rw[hb];exact nb a o q
  ·exact own a b hb)) (fun _ r=>r) fun _ _ r=>r
theorem jq.passes {E:XK}(L:jq X E):Passes (CXE X.prog X.w) X E:=by
 intro pins σ H s x s' I h;obtain⟨e,C,a0,B,H',rfl,F,hE⟩:=h;rw[L.xe];have ff:=F.fly;rw[L.stk] at ff;refine wpAny_leaves_onW (by rw[I.ok.frames,L.stk]) L.fr ff fun h2 x1 x2=>?_;exact⟨e,C,a0,B,H',rfl,I.flies L.ex x1 x2 F.os F.bare F.un F.ok F.kB F.tB F.new F.free,hE⟩
theorem jq.own {E:XK}(L:jq X E):PassesOwn (Xr X.prog X.w) X.A X.env X.xe:=by
 rw[L.xe];exact PassesOwn.leaving
end
structure qk (K:X6)(mg:Str->Option X9)(x:Str)(C:Addr):Prop where
 g:mg x=some (.ref C)
 q:WG K C xr "ValueError.__new__"=true
structure zlt (h:Heap)(C:Addr)(bm:List X9):Prop where
 ex:∃N nm qn bs hdct sn sub ab col dd k0 k1 k2 k3 k5 mN,h.get? C=some (excClassObj nm qn C N bs bm hdct sn sub ab col dd k0 k1 k2 k3 k5 "ValueError.__new__")/\h.Ns N mN/\mN "__init__"=none
 tl:OwnTail h xr bm
theorem zlu {K:X6}{h:Heap}{C:Addr}(kin:K.In h)(hq:WG K C xr "ValueError.__new__"=true):∃bm,zlt h C bm:=by
 unfold WG at hq;split at hq
 ·rename_i dd cd sl look;split at hq
  ·rename_i C' bm k0 k1 k2 k3 n k5 em es;simp only[Wm,beq_iff_eq,WH] at hq;obtain⟨⟨⟨⟨⟨rfl,rfl⟩,nodel⟩,tailok⟩,nsok⟩,noinit⟩:=hq;obtain⟨nm,bs,mro,ns,qn,hd,sn,sub,ab,col,del⟩:=cd;dsimp only at em nodel nsok noinit;subst em nodel;have esl:sl=#[k0,k1,k2,k3,some (.builtin "ValueError.__new__"),k5]:=by
    obtain⟨l⟩:=sl;simp only at es;rw[es]
   subst esl;exact⟨bm,⟨ns,nm,qn,bs,hd,sn,sub,ab,col,dd,k0,k1,k2,k3,k5,_,kin _ _ look,.of_isNs (PySem.W.isNs_of_in kin nsok),PySem.W.nsMap_none_of_in kin nsok noinit⟩,PySem.W.tail_of_in kin tailok⟩
  ·cases hq
 ·cases hq
section
variable {X:Cx}
def zmi (E:XK)(C:Addr)(t:TA):TS:=fun _ σ H=>t σ H fun vs H1=>vs.length<=XC/\E (.ref C) none H1
theorem ziz {x:Str}{C:Addr}{np cpos pos:Pos}{e0:Expr}{rest:List Expr}{t:TA}{E:XK}(L:jq X E)(O:qk X.K X.mg x C)(hg:Gl X x)(hc:X.calm=true)(ha:PA X (e0::rest) t)
  (he:WB (e0::rest) X.env=(false,eval e0 X.env)::WB rest X.env:=by rfl) (hp:(SG cpos (WB rest X.env)).any (·.1)=false:=by rfl) (hdb:(x==("__debug__":Str))=false:=by decide) :
  PS X (.Raise (some (.Call (.Name x np) (e0::rest) [] cpos)) none pos) (zmi E C t):=by
 intro pins s σ H D I h;obtain⟨bm,⟨N,nm,qn,bs,hdct,sn,sub,ab,col,dd,k0,k1,k2,k3,k5,mN,hC,hN,hni⟩,T⟩:=zlu I.ok.mod.kin O.q;refine wpAny_Raise_call_subU (C:=C) (nm:=nm) (q:=qn) (N:=N) (bs:=bs) (bm:=bm) (hdct:=hdct) (sn:=sn) (sub:=sub) (ab:=ab) (col:=col) (dd:=dd) (k0:=k0) (k1:=k1) (k2:=k2) (k3:=k3) (k5:=k5)
  RQ (by decide) RQ (mN:=mN) (T.hasType PySem.F.excBase_ValueError.hasBase) (I.ok.hd hc) (by rw[he];show (false || (SG cpos (WB rest X.env)).any (·.1))=false;rw[hp];rfl) hni (Qg I hg O.g ⟨rfl,?_⟩ hdb)
 have a:=ha cpos pins s σ H _ I h;rw[he] at a ⊢;refine Pk (thn a fun us s2 ⟨vs,H1,I1,r,hz,q⟩=>?_);exact⟨rfl,by rw[<- r.length];exact hz,I1.bk _ _ hC,hN.keeps I1.bk,T.keeps I1.bk,fun h' e hx=>L.made I1 hx q⟩
def markX (X:Cx)(e:Addr):Cx:={ X with A:=X.A.mark (some (.ref e)),calm:=false,xe:=fun _ _=>False }
variable {pins:List (Addr×Obj)}{σ:St}{H:Hp}{s:X8}
theorem Cx.Ok.mark (ok:X.Ok)(e:Addr):(markX X e).Ok :=
 ⟨ok.mod,ok.kind,ok.glob,ok.blt,ok.above,ok.inj,ok.has,ok.cab,(fun z=>nomatch z),ok.frames,ok.stk,ok.exf,ok.bs,ok.bsz,ok.noex,ok.exfs,ok.funs,ok.frf⟩
theorem Inv.mark (I:Inv X pins σ H s)(e:Addr):Inv (markX X e) pins σ H s:=⟨I.ok.mark e,I.os,I.bare,I.base,I.loc,I.cell,I.free,I.freeC,I.pin,I.hok,I.len⟩
theorem Inv.unmark {e:Addr}(I:Inv (markX X e) pins σ H s)(ok:X.Ok):Inv X pins σ H s:=⟨ok,I.os,I.bare,I.base,I.loc,I.cell,I.free,I.freeC,I.pin,I.hok,I.len⟩
def zmj (e C:Addr)(h:Heap):Prop:=∃ob vs,h.get? e=some ob/\ob.cls=.ref C/\ob.data=.fields vs
def exO (e C:Addr):HO:=.ext (zmj e C)
theorem Inv.nameGoes {M:PQ}{A:WW}{E:X9->X8->Prop}{j:Nat}{n:Str}{pos:Pos}{Q:Unit->X8->Prop}(I:Inv X pins σ H s)(hN:X.N.Nodup)(hj:X.N[j]?=some n)(hl:X.env.scope.names.lookup n=some .local)
  (h:∀s',Inv X pins (σ.set j none) H s'->Q () s'):Xo M A (do bindName X.env n .none;unbindBehindTheSuite X.env n pos) Q E s:=by
 obtain⟨m,hn,hlk⟩:=id I.loc;refine wpAny_nameGoes_keeps hl hn (by rw[I.ok.kind];rfl) fun h' v hn' sb=>h _ ?_;have other:∀b o,b≠X.env.locals->s.heap.get? b=some o->h'.get? b=some o:=fun b o hb q=>(sb.2 b hb).trans q;obtain⟨oL,_,_,hoL,_⟩:=id hn;have low:∀b o,X.s₀.heap.get? b=some o->b≠X.env.locals:=fun b o q=>I.notLoc q;refine⟨I.ok,I.os,I.bare,⟨fun b o q n hb hx=>other b o (low b o q) (I.base.keep b o q n hb hx),fun b o q n hb hx=>?_,I.base.free,fun b o q hx=>?_,I.base.tups,I.base.frzs,I.base.tbls⟩,⟨_,hn',fun i y v' e1 e2 e3=>?_⟩,fun y c q=>?_,I.free,I.freeC,fun p hp=>?_,fun b ob q=>?_,by simpa using I.len⟩
 ·obtain⟨sl,r⟩:=I.base.slot b o q n hb hx;exact⟨sl,other b _ (low b o q) r⟩
 ·obtain⟨o',r⟩:=I.base.there b o q hx;exact⟨o',other b _ (low b o q) r⟩
 ·by_cases hij:i=j
  ·subst hij;have hiσ:i < σ.length:=by rw[I.len];exact(X2.mp hj).1
   rw[SN hiσ] at e2;cases e2
  ·rw[Sq (Vy hij)] at e2;obtain⟨u',r',z⟩:=hlk i y v' e1 e2 e3;refine⟨u',r',?_⟩;rcases z with ⟨k,q⟩ | ⟨k,c,q,z⟩
   ·refine .inl ⟨k,?_⟩;have ny:y≠n:=fun q=>hij (zaX hN e1 (q ▸ hj));simp[ny,q]
   ·exact .inr ⟨k,c,q,z.sameBut sb (I.cne y c q)⟩
 ·obtain⟨w',z⟩:=I.cell y c q;exact⟨w',z.sameBut sb (I.cne y c q)⟩
 ·obtain⟨q,n',ne,nf,d⟩:=I.pin p hp;exact⟨other p.1 _ ne q,n',ne,nf,d⟩
 ·refine(I.hok b ob q).stay (fun c w' hc r=>other c w' ?_ r) (fun _ r=>r) fun _ _ r=>r;rintro rfl;rcases hc with rfl | hc
  ·rw[I.free] at q;cases q
  ·rw[I.free] at hc;cases hc
theorem Fly.caught {H1 H':Hp}{s1 s':X8}{e C:Addr}{a0:X9}{B h:Heap}(I:Inv X pins σ H1 s1)(F:Fly X.prog X.w X.stack H1 s1 e C a0 B H' s')(fl:OK B X.stack e (.ref C) a0 h)(up:s'.heap.UpToSlots h) :
  Inv X pins σ (upd H' e (exO e C)) { s' with heap:=h }:=by
 have ne:∀b o,s1.heap.get? b=some o->b≠e:=fun b o q z=>by
  rw[z,F.new] at q;cases q
 have nt:∀b u,H' b=some u->b≠e:=fun b u q=>zk q F.free;have slot:∀b o,s1.heap.get? b=some o->H1 b=none->b∈frs X.stack->∃sl,h.get? b=some { o with slots:=sl }:=fun b o q n hb=>by
  obtain⟨_,o1,q1,nf⟩:=I.stack.mem hb;rw[q] at q1;cases q1;obtain⟨sl,q2⟩:=F.un.slot b o q n hb (fun z=>nomatch z);obtain⟨sl2,q3⟩:=up b _ q2 nf;exact⟨sl2,q3⟩
 refine I.call' (ch:=[]) F.os ⟨fun b o q n hb _=>fl.1 b o (F.kB b o q n hb),fun b o q n hb _=>slot b o q n hb,fun b o q n _=>?_,fun b o q _=>?_,fun b xs q=>?_,fun b o u q=>?_,fun b ps q=>?_⟩ (fun b ob q=>?_) F.bare fun b z=>nomatch z
 ·rw[zj (ne b o q)];exact F.un.free b o q n fun z=>nomatch z
 ·by_cases hb:b∈frs X.stack
  ·obtain⟨sl,r⟩:=slot b o q (I.stkFree b hb) hb;exact⟨_,r⟩
  ·obtain⟨o',r⟩:=F.tB b o q hb;exact⟨o',fl.1 b o' r⟩
 ·have r:=F.un.tups b xs q;rw[zj (nt b _ r)];exact r
 ·have r:=F.un.frzs b o u q;rw[zj (nt b _ r)];exact r
 ·obtain⟨m,r⟩:=F.un.tbls b ps q;exact⟨m,by rw[zj (nt b _ r)];exact r⟩
 ·by_cases hb:b=e
  ·subst hb;rw[zb] at q;cases q;obtain⟨oe,vs,q1,q2,q3,_⟩:=fl.first;exact⟨⟨oe,vs,q1,q2,q3⟩,⟨oe,q1⟩,fun g1 g2 ⟨o1,v1,r1,r2,r3⟩ k=>⟨o1,v1,k _ r1,r2,r3⟩⟩
  ·rw[zj hb] at q;refine(F.ok b ob q).stay (fun c u _ r=>fl.1 c u r) (fun c r=>?_) fun c xs r=>?_
   ·rw[zj (nt c _ r)];exact r
   ·rw[zj (nt c _ r)];exact r
theorem zkq {M:PQ}{A:WW}{E:X9->X8->Prop}{s:X8}{S e C:Addr}{bm:List X9}{oe:Obj}{Q:Bool->X8->Prop}(O:zlt s.heap S bm)(he:s.heap.get? e=some oe)(hcls:oe.cls=.ref C)
  (hL:PySem.W.Looks M s.heap (isSubtype (.ref C) (.ref S)) true) (hq:Q true s):Xo M A (excMatches (.ref e) (.ref S)) Q E s:=by
 obtain⟨⟨N,nm,qn,bs,hdct,sn,sub,ab,col,dd,k0,k1,k2,k3,k5,mN,hS,hN,hni⟩,T⟩:=O;have hb:=T.hasType PySem.F.excBase_ValueError.hasBase;obtain⟨h,g,d,t,os⟩:=s;have hcB:(WJ S::bm).contains (.type "BaseException")=true:=by rw[List.contains_cons,hb,Bool.or_true]
 have f:=tc_notTuple;unfold excMatches;repeat (first | (with_reducible refine VL he ?_;rw[hcls]) | with_reducible refine VL hS ?_ | (with_reducible refine wpAny_isSubtype_exc hS ?_;rw[hcB]) | wp_step)
 refine hL A _ E _ (fun _ _ q=>q) ?_;rw[if_pos rfl];exact XY (XY (XY hq))
end
theorem Fun.okX {P:Xl}{w:W3}{K:X6}{mg:Str->Option X9}{base:Heap}{x qual:Str}{st:Stmt}{f:Addr}{fd:Xk}{N ps:List Str}{k:Nat}{sp:Sp}(F:Fun K x qual st f fd)(S:zF N ps (zh st))(len:∀vs H Q E,sp vs H Q E->vs.length=ps.length)
  (hbody:∀(cdv:X9) (A:WW) (outer:List Env) (s:X8) (H:Hp) (vs:List V) (Q:VK) (E:XK),Jj k (A.deeper (Qb qual (zh st) s.heap.objs.size f cdv))->sp vs H Q E ->
   ∃t,PSs (zd5 (CXE P w) P w K mg base N qual (zh st) f cdv A outer s H E) (yC st) t/\t { nx:=fun _ H'=>Q .non H',rt:=Q } (start N vs) H):qi P w K mg base (CXE P w) (k+1) f fd ps sp:=by
 obtain⟨oc,od,kV,doc,pm,an,cdv,ct,osl,rfl,lk,hcd⟩:=F.ex;exact zls lk hcd S len fun A outer s H vs Q E hr hsp=>hbody cdv A outer s H vs Q E hr hsp
structure Z0 (K:X6)(C:Addr):Prop where
 ga:VB K (.ref C) "__getattribute__"=some (some (.builtin "BaseException.__getattribute__"))
 gh:VB K (.ref C) "__getattr__"=some none
 cl:VB K (.ref C) "__class__"=some (some (.builtin "object.__class__"))
 mb:Vs K C (.type "BaseException")=some true
 mo:Vs K C (.type "object")=some true
 ci:Tp K C=true
section
variable {prog:Xl}{w:W3}{A:WW}{E:X9->X8->Prop}{K:X6}{e C:Addr}
theorem zb5 {R:Ps->X8->Prop}{h:Heap}{g:Array Uz}{d:Ow}{t:Nat}{os:OP}(F:Z0 K C)(kin:K.In h){o:Obj}(hx:h.get? e=some o)(hc:o.cls=.ref C)(hq:R (.ok (.ret (.ref C))) ⟨h,g,d,t,os⟩) :
  UR (Xr prog w) A (.call (.builtin "getset_descriptor.__get__") ⟨[.builtin "object.__class__",.ref e,.ref C],[]⟩) R ⟨h,g,d,t,os⟩:=by
 have hT5:(⟨h,g,d,t,os⟩:X8).TypeIs (.builtin "object.__class__") "getset_descriptor":=T5;have lo:=Sd (M:=Xr prog w) kin F.mo;rw[<- PySem.F.owner_object_class] at lo;refine TX PySem.F.slot_gs_get.plain PySem.F.entry_gs_get (PySem.F.slot_gs_get.check _ _ _ _ _ _ _ _ hT5 (PySem.F.args_gs_get _ _ _) ?_);repeat (any_goals (first | assumption | (with_reducible refine VL hx ?_;rw[hc]) | wp_step))
 refine lo _ _ _ _ (fun _ _ z=>z) ?_;repeat (any_goals (first | assumption | wp_step))
 refine⟨Code.quiet_builtin _ (by decide +kernel),VI PySem.F.entry_object_class ?_⟩;repeat (any_goals (first | assumption | (with_reducible refine VL hx ?_;rw[hc]) | wp_step))
theorem zaF {tk:Tok}{Q:Fin->X8->Prop}{h:Heap}{g:Array Uz}{d:Ow}{t:Nat}{os:OP}(F:Z0 K C)(kin:K.In h){o:Obj}(hx:h.get? e=some o)(hc:o.cls=.ref C)(hq:Q (.done (.ret (.ref C))) ⟨h,g,d,t,os⟩) :
  Xo (Xr prog w) A (UQ.«object.__getattribute__» ⟨[.ref e,.str "__class__" tk],[]⟩) Q E ⟨h,g,d,t,os⟩:=by
 have hT5:(⟨h,g,d,t,os⟩:X8).TypeIs (.builtin "object.__class__") "getset_descriptor":=T5;have f5:=T5;have f6:=PySem.F.slot_gs_get.lookup;have f7:=PySem.F.slot_gs_set.lookup;have lc:=So (M:=Xr prog w) kin F.cl;repeat (any_goals (first | assumption | (with_reducible refine VL hx ?_;rw[hc]) | wp_step))
 refine lc _ _ _ _ (fun _ _ z=>z) ?_;repeat (any_goals (first | assumption | (with_reducible refine VL hx ?_;rw[hc]) | wp_step))
 refine zb5 F kin hx hc ?_;repeat (any_goals (first | assumption | wp_step))
theorem zdq {M:PQ}{nameV:X9}{Q:Unit->X8->Prop}{h:Heap}{g:Array Uz}{d:Ow}{t:Nat}{os:OP}(F:Z0 K C)(kin:K.In h){o:Obj}(hx:h.get? e=some o)(hc:o.cls=.ref C)(hq:Q () ⟨h,g,d,t,os⟩) :
  Xo M A (Rh "BaseException.__getattribute__" ⟨[.ref e,nameV],[]⟩) Q E ⟨h,g,d,t,os⟩:=by
 have kd:builtinKind "BaseException.__getattribute__"=some .slot:=by decide +kernel
 have sp:splitId "BaseException.__getattribute__"=some ("BaseException","__getattribute__"):=by decide +kernel
 have ha:=PySem.F.args_bexc_ga (.ref e) nameV;have lb:=Sd (M:=M) kin F.mb;simp only[Rh,kd,sp];refine ZB ?_;unfold isInstance;repeat (first | (with_reducible refine VL hx ?_;rw[hc]) | wp_step)
 refine lb _ _ _ _ (fun _ _ z=>z) ?_;repeat (any_goals (first | assumption | wp_step))
theorem za5 {tk:Tok}{R:Ps->X8->Prop}{h:Heap}{g:Array Uz}{d:Ow}{t:Nat}{os:OP}(F:Z0 K C)(kin:K.In h){o:Obj}(hx:h.get? e=some o)(hc:o.cls=.ref C)(hq:R (.ok (.ret (.ref C))) ⟨h,g,d,t,os⟩) :
  UR (Xr prog w) A (.call (.builtin "BaseException.__getattribute__") ⟨[.ref e,.str "__class__" tk],[]⟩) R ⟨h,g,d,t,os⟩ :=
 TX PySem.F.attr_ValueError.ga.plain PySem.F.entry_bexc_ga (zdq F kin hx hc (zaF F kin hx hc hq))
theorem za6 {Q:Option X9->X8->Prop}{h:Heap}{g:Array Uz}{d:Ow}{t:Nat}{os:OP}(F:Z0 K C)(kin:K.In h){o:Obj}(hx:h.get? e=some o)(hc:o.cls=.ref C)(hq:Q (some (.ref C)) ⟨h,g,d,t+1,os⟩) :
  Xo (Xr prog w) A (Ot (.ref e) "__class__") Q E ⟨h,g,d,t,os⟩:=by
 have f3:=PySem.F.attr_ValueError.ga.bind (.ref e);have hx2:(Rv "BaseException.__getattribute__" == Rv "object.__getattribute__")=false:=by decide +kernel
 have hx1:(onTheHeap (WJ C)&&Rv "BaseException.__getattribute__" == Rv "object.__getattribute__")=false:=by rw[hx2];rfl
 have l1:=So (M:=Xr prog w) kin F.ga;have l2:=So (M:=Xr prog w) kin F.gh;unfold Ot getAttrBy? getAttrBy;repeat (any_goals (first | assumption | (with_reducible refine VL hx ?_;rw[hc]) | wp_step))
 refine l1 _ _ _ _ (fun _ _ z=>z) ?_;repeat (any_goals (first | assumption | (with_reducible refine VL hx ?_;rw[hc]) | wp_step))
 refine l2 _ _ _ _ (fun _ _ z=>z) ?_;repeat (any_goals (first | assumption | (with_reducible refine VL hx ?_;rw[hc]) | wp_step))
 refine za5 F kin hx hc ?_;repeat (any_goals (first | assumption | wp_step))
theorem ziA (F:Z0 K C):PySem.W.KitX K (.ref e) (.ref C) (zmj e C) where
 ty:=fun M h _ p=>by
  obtain⟨ob,vs,q1,q2,_⟩:=p;exact q2 ▸ (PySem.W.Looks.ld q1).andThen .now
 it:=fun M h kin _=>by
  have ci:=F.ci;unfold Tp PySem.W.clsIn at ci;split at ci
  ·rename_i c1 d1 cd1 sl1 lk;intro A1 Q1 E1 s1 k q;unfold isType loadHead;exact ZB (wpAny_loadPart (k _ _ (kin _ _ lk)) (XY q))
  ·cases ci
 ne:=fun h tp dd its n sl kin htp=>by
  refine WZ.mpr fun q=>?_;have ec:C=tp:=Value.ref.inj (beq_iff_eq.mp q);subst ec;have ci:=F.ci;unfold Tp PySem.W.clsIn at ci;split at ci
  ·rename_i c1 d1 cd1 sl1 lk;have z:=(kin _ _ lk).symm.trans htp;cases z
  ·cases ci
 ca:=fun {prog w A E Q s} kin p k=>by
  obtain⟨ob,vs,q1,q2,_⟩:=p;obtain⟨h,g,d,t,os⟩:=s;exact za6 F kin q1 q2 k
def ziB:V->X9
 | .ref D=>.ref D
 | .ty n=>.type n
 | _=>.none
theorem qo {X:Cx}(hK:X.K=K):jR X (.builtin "isinstance") (fun xs H Q=>∃e C c b,xs=[.ref e,c]/\H e=some (exO e C)/\Z0 K C/\((∃D,c=.ref D)\/∃n,c=.ty n)/\Xg K (.ref C) (ziB c)=some b/\Q (.bl b) H):=by
 intro pins s σ H xs us Q I r h;obtain⟨e,C,c,b,rfl,he,F,hc,hk,q⟩:=h;obtain⟨u,u2,rfl,rx,ru⟩:=vals2 r;cases rx;have p:zmj e C s.heap:=(I.hok e _ he).1;have kin:=I.kIn;rw[hK] at kin;have e2:u2=ziB c:=by
  rcases hc with ⟨D,rfl⟩ | ⟨n,rfl⟩
  ·cases ru;rfl
  ·cases ru;rfl
 subst e2;exact VV (ziA F) kin p hk (fun z=>nomatch z) fun tk=>⟨.bl b,H,I.tok tk,rfl,q⟩
end
theorem zef {α:Type}(a:Array α):∀(n:Nat) (acc:Array α),(Xj n a).foldl (·++·) acc=acc++((Xj n a.toList).flatten).toArray
 | 0,acc=>by simp
 | n+1,acc=>by
  rw[VE,VT,zef a n,VE,WA,RT];congr 1;simp
def znv:R2:=fun x y H Q=>∃z k,x=.str z/\y=.int k/\1<=k/\k<=1000/\z.length<=1000/\∀z':Str,z'.length=z.length*k.toNat->(∀c∈z'.cps.toList,c∈z.cps.toList)->Q (.str z') H
section
variable {X:Cx}
theorem xV:OpR X (UP .Mult) znv:=by
 intro pins s σ H x y v u Q I rx ry h;obtain⟨z,k,rfl,rfl,k1,k2,hz,q⟩:=h;obtain⟨t,rfl⟩:=rx;obtain⟨t',rfl⟩:=ry;have hprod:z.length*k.toNat<=1000000:=by
  have:=Nat.mul_le_mul hz (show k.toNat<=1000 by lia);lia
 refine PySem.P.mul_str ?_ (fun _ _=>?_) (fun _ _=>?_) ?_
 ·rw[decide_eq_false (show ¬ k < -(2^63:Int) by lia),decide_eq_false (show ¬ k >= 2^63 by lia)];rfl
 ·have hp:(z.length:Int)*k<=1000000:=by
   have e:((z.length*k.toNat:Nat):Int)=(z.length:Int)*k:=by
    rw[Int.natCast_mul,Vk (by lia)]
   lia
  have:=Int.le_ediv_of_mul_le (a:=(z.length:Int)) (b:=2^63-1) (c:=k) (by lia) (by lia);lia
 ·exact decide_eq_false (Nat.not_lt.mpr (XV hprod (by decide)))
 ·rw[if_neg (show ¬ k<1 by lia)];by_cases c:(k==1 || z.length==0)=true
  ·rw[if_pos c];refine⟨.str z,H,I,⟨_,rfl⟩,q z ?_ fun _ h=>h⟩;rw[Bool.or_eq_true,beq_iff_eq,beq_iff_eq] at c;rcases c with c | c
   ·rw[c];simp
   ·rw[c];simp
  ·rw[if_neg c];have e:(⟨(Xj k.toNat z.cps).foldl (·++·) #[]⟩:Str)=⟨((Xj k.toNat z.cps.toList).flatten).toArray⟩:=by
    rw[zef];simp
   have hl:(⟨((Xj k.toNat z.cps.toList).flatten).toArray⟩:Str).length=z.length*k.toNat:=by
    show ((Xj k.toNat z.cps.toList).flatten).toArray.size=_;rw[Xv,len_rep,X5,OM];rfl
   rw[e];refine⟨by rw[hl];exact XV hprod (by decide),⟨.str _,H,I.tok _,⟨_,rfl⟩,q _ hl fun d hd=>?_⟩⟩;have hd':d∈(Xj k.toNat z.cps.toList).flatten:=by simpa using hd
   obtain⟨l,hl1,hl2⟩:=WE.mp hd';rw[Tt hl1] at hl2;exact hl2
end
section
variable {X:Cx}{tg iter elt:Expr}{ifs:List Expr}{scope:Vb}{pos:Pos}{N:List Str}{src:List (Option Nat)}{cl:List (Str×Addr)}{wi:TI}{g:TG}{tc:TT}{te:TE}
theorem Yq {i:Nat}{x:Str}{xpos spos:Pos}(hN:X.N.Nodup)(hix:X.N[i]?=some x)(hlx:X.env.scope.names.lookup x=some .local)(ok:zT X N src scope cl)(hcalm:X.calm=true)(hi:PI X tg iter wi)
  (hg:∀C fp pins s H,PG (qp X N scope cl C fp pins s H) tg g) (hc:∀C fp pins s H,zfx (qp X N scope cl C fp pins s H) ifs tc) (he:∀C fp pins s H,PE (qp X N scope cl C fp pins s H) elt te)
  (hs:∀x,Vn iter X.env x=pure x:=by intro _;rfl) (hsw:O6 (.ListComp elt [⟨tg,iter,ifs,0⟩] scope pos) (some (.Name x xpos)) spos.line X.env=pure true:=by rfl) :
  PS X (.Assign [.Name x xpos] (.ListComp elt [⟨tg,iter,ifs,0⟩] scope pos) spos) (zkd (zea wi src g tc te) (ZR i)):=by
 intro pins s σ H D I h;rw[PH _ _ _ _ hsw];refine ZB (V6 (ZB ?_));unfold evalThenUse;refine ZB (Xa (Q:=fun _ s''=>∃ σ' H',Inv X pins σ' H' s''/\D.nx σ' H') ?_ (fun _ s'' ⟨σ',H',I',q'⟩=>XY (XY ⟨σ',H',I',q'⟩)) fun _ _ z=>z);refine Tu (use:=some (Pu (.Name x xpos) X.env)) rfl hs ok.clos ok.kind ok.names (thn (hi pins s σ H _ I h) fun xv s1 h1=>thn h1 fun itv s2 h2=>?_);obtain⟨it,fp,tn,J,H2,e,I2,T,st2,f2,q2⟩:=h2;subst e;refine V5 (TY ok.nocell (by intro y hy;simp at hy) (fun h₁ hns₁ hsb₁=>?_) ok.kind);dsimp only at hns₁ hsb₁ ⊢;generalize hP:s2.heap.push { cls:=.type "list",dict:=none,data:=.seq ([]:List X9).toArray }=P2 at hns₁ hsb₁ ⊢;have hC:P2.objs.size=s2.heap.objs.size+1:=by rw[<- hP,VA]
 have k:∀b u,s2.heap.get? b=some u->h₁.get? b=some u:=fun b u e=>by
  have lt:=XQ e;exact(hsb₁.2 b (by rw[hC];exact XA (W5 lt))).trans (X7 _ (hP ▸ X7 _ e))
 have hD:h₁.get? s2.heap.objs.size=some { cls:=.type "list",data:=.seq #[] }:=(hsb₁.2 _ (by rw[hC];exact(VG _).symm)).trans (X7 _ (hP ▸ Xb _ rfl));have ho:∀b∈fp,∃o,s2.heap.get? b=some o:=fun b hb=>let ⟨o,e,_⟩:=T.obj 0 _ st2 b hb;⟨o,e⟩
 obtain⟨W,⟨m0,w0⟩,turn⟩:=q2 s2.heap.objs.size (I2.hok.fresh (XW _));have I0:=Zp (tk:=s2.toks+([]:List (Str×X9)).length) ok I2 f2 ho hC k hD hns₁;have st0:tn 0 h₁:=T.keep 0 _ _ st2 fun b _ o e=>k b o e;have fr0:∀b∈fp,upd H2 s2.heap.objs.size (.lst []) b=none:=fun b hb=>by
  obtain⟨o,e⟩:=ho b hb;rw[zj (XA (XQ e))];exact(f2 b hb).1
 have stat:∀{H':Hp},(∀b∈fp,H' b=none)->∀b∈fp,ZS (qp X N scope cl P2.objs.size fp pins s2 H2) [] H' b:=fun {H'} hn b hb=>by
  obtain⟨o,e⟩:=ho b hb;have lt:=XQ e;refine⟨hn b hb,?_,fun z=>(XR.mp (I2.stkSub b z)).elim (f2 b hb).2.1 (f2 b hb).2.2.1,.inl hb,fun x c z=>(f2 b hb).2.2.2.2.1 x c (ok.sub x c z),fun p hp=>?_⟩
  ·show b≠P2.objs.size;rw[hC];exact XA (W5 lt)
  ·have hp':p∈X.pn++pins:=by
    have:p∈(X.pn++pins)++[]:=hp;simpa using this
   exact(f2 b hb).2.2.2.2.2 p hp'
 have loop:∀s₃:X8,s₃={ s2 with heap:=h₁,toks:=s2.toks+([]:List (Str×X9)).length } ->
   UR (Xr X.prog X.w) X.A (.compLoop (.ListComp elt [⟨tg,iter,ifs,0⟩] scope pos) 0 (.ref it) (.ref s2.heap.objs.size) (V3 scope cl P2.objs.size X.env))
    (compPost (Xr X.prog X.w) X.A X.xe (some (Pu (.Name x xpos) X.env)) (fun _ s''=>∃ σ' H',Inv X pins σ' H' s''/\D.nx σ' H') (.ref s2.heap.objs.size) P2.objs.size) s₃:=by
  rintro s₃ rfl;refine Sa rfl (fun n s'=>∃i σ' H',Inv (qp X N scope cl P2.objs.size fp pins s2 H2) [] σ' H' s'/\tn i s'.heap/\(∀b∈fp,H' b=none)/\W i n σ' H') ?_ m0 ⟨0,_,_,I0,st0,fr0,w0⟩;rintro n s3 ⟨i,σ3,H3,I3,st3,fr3,w3⟩;show Xo _ X.A ((ON (.ListComp elt [⟨tg,iter,ifs,0⟩] scope pos) 0 (.ref it) (.ref s2.heap.objs.size) (V3 scope cl P2.objs.size X.env)).onRaise (fun x=>do SD x (V3 scope cl P2.objs.size X.env);Tn x)) _ _ s3;refine RI ?_;rw[Sw];rcases turn i n σ3 H3 w3 with ⟨stop,qn⟩ | ⟨go,N',hN,step⟩
  ·refine ZB (V6 (ZB (thn (T.done (qp X N scope cl P2.objs.size fp pins s2 H2) rfl rfl rfl hcalm i [] s3 σ3 H3 _ I3 (stat fr3) st3 stop) fun r s4 ⟨hr,I4⟩=>?_)));subst hr;refine XY ?_;obtain⟨m,hm,_⟩:=I4.loc;have leC:s2.heap.objs.size<=P2.objs.size:=by rw[hC];exact Wg _
   have IX:Inv X pins σ H3 s4:=I2.call' (s':=s4) (ch:=fp) I4.os I4.base I4.hok I4.bare fun b hb=>⟨(f2 b hb).2.2.2.1,(f2 b hb).2.1,(f2 b hb).2.2.2.2.1,(f2 b hb).2.2.2.2.2⟩;have cellLt:∀y c,X.env.cells.lookup y=some c->c≠P2.objs.size:=fun y c e z=>by
    obtain⟨_,o,e1,_⟩:=I2.cell y c e;have:=XQ e1;rw[z] at this;exact Wq _ (XE this leC)
   have locNe:X.env.locals≠P2.objs.size:=fun z=>by
    have:=I2.lt;rw[z] at this;exact Wq _ (XE this leC)
   refine RE (QY IX hN hix (.inl hlx) (v:=.ref s2.heap.objs.size) rfl (fun s5 I5 ⟨a5,sb5,ha5⟩=>?_) (.inr hlx));have na:a5≠P2.objs.size:=by
    rcases ha5 with z | z
    ·rw[z];exact locNe
    ·exact cellLt _ _ z
   refine⟨m,hm.sameBut sb5 (Vy na),fun h' sb=>⟨_,H3,?_,qn⟩⟩;exact I5.turned (t':=s5.toks) (it:=P2.objs.size) (fun b o hb e=>(sb.2 b hb).trans e) I4.free (Vy locNe) (.inr (XV I2.sz leC)) cellLt fun p hp z=>by
    obtain⟨e1,_⟩:=I2.pin p hp;have:=XQ e1;rw[z] at this;exact Wq _ (XE this leC)
  ·refine ZB (V6 (ZB (thn (T.item (qp X N scope cl P2.objs.size fp pins s2 H2) rfl rfl rfl hcalm i [] s3 σ3 H3 _ I3 (stat fr3) st3 go) fun r s4 ⟨u,hr,h4⟩=>?_)));subst hr;dsimp only;refine ZB (thn h4 fun _ s5 ⟨x,H5,I5,r5,y5,st5,fr5⟩=>?_);have I5':=I5.pinned (stat fr5) (T.obj _ _ st5);refine ZB (Xa (hg P2.objs.size fp pins s2 H2 _ s5 σ3 H5 x u _ I5' r5 (step x H5 y5)) (fun _ s6 ⟨σ6,H6,I6,q6⟩=>?_) fun _ _ z=>Wn z);have Tc:∀{s7:X8} {σ7:St} {H7:Hp},Inv (qp X N scope cl P2.objs.size fp pins s2 H2) ([]++Zm fp s5.heap) σ7 H7 s7->N' σ7 H7->∃m,m<n/\∃i σ' H',Inv (qp X N scope cl P2.objs.size fp pins s2 H2) [] σ' H' s7/\tn i s7.heap/\(∀b∈fp,H' b=none)/\W i m σ' H':=fun {s7 σ7 H7} I7 n7=>by
    obtain⟨m',hm,w7⟩:=hN σ7 H7 n7;refine⟨m',hm,i+1,σ7,H7,I7.unpinned,T.keep _ _ _ st5 fun b hb o e=>(I7.pin (b,o) (XJ _ (XJ _ (qu hb e)))).1,fun b hb=>?_,w7⟩;obtain⟨o,e,d⟩:=T.obj _ _ st5 b hb;exact(I7.pin (b,o) (XJ _ (XJ _ (qu hb e)))).2.1
   refine ZB (Xa (hc P2.objs.size fp pins s2 H2 _ s6 σ6 H6 _ I6 q6) (fun b s7 ⟨H7,I7,q7⟩=>?_) fun _ _ z=>Wn z);cases b with
   | false =>
    rw[if_neg XT] at q7;exact XY ⟨rfl,Tc I7 q7⟩
   | true =>
    rw[if_pos rfl] at q7;refine ZB (ZB (Xa (he P2.objs.size fp pins s2 H2 _ s7 σ6 H7 _ I7 q7) (fun y s8 ⟨v8,H8,I8,r8,ys,hys,hlen,q8⟩=>?_) fun _ _ z=>Wn z));refine ZB (Xa (xN (X:=qp X N scope cl P2.objs.size fp pins s2 H2) _ s8 σ6 H8 (.ref s2.heap.objs.size) [v8] (.ref s2.heap.objs.size) [y] (fun _ H9=>N' σ6 H9) I8 rfl (.cons r8 .nil) ⟨_,ys,v8,rfl,rfl,hys,hlen,q8⟩) (fun _ s9 ⟨v9,H9,I9,_,q9⟩=>?_) fun _ _ z=>Wn z);exact XY (XY ⟨rfl,Tc I9 q9⟩)
 exact U1 (loop _ rfl) (T.self _ 0 _ _ _ st0 (loop _ rfl))
end
theorem zT.byRfl {X:Cx}{N:List Str}{src:List (Option Nat)}{scope:Vb}(kind:scope.kind=.function)(nocell:∀y∈scope.names,y.2 ≠ .cell)(names:∀y∈scope.names,y.2=.local->scope.names.lookup y.1=some .local)
  (hs:(scope.names.all fun y=>y.2 != .free || (X.env.cells.lookup y.1).isSome)=true) (len:src.length=N.length)
  (pc:((N.zip src).all fun q=>match q.2 with | none=>true | some j=>X.N[j]?==some q.1&&X.env.kindOf q.1==some .cell&&(Vx scope X.env).names.lookup q.1==some .cell)=true):zT X N src scope (Q3 (fun x=>X.env.cells.lookup x) scope.names []):=by
 have hs':∀y∈scope.names,y.2=.free->(X.env.cells.lookup y.1).isSome=true:=fun y hy e=>by
  have z:=WD.mp hs y hy;rw[e] at z;simpa using z
 refine⟨kind,nocell,names,xh hs',fun x c h=>?_,fun x h=>?_,len,fun i j x h1 h2=>?_⟩
 ·rcases JO _ _ _ (WQ h) with z | z
  ·cases z
  ·exact z
 ·refine Vz.mp (za3 _ _ (.inr ?_));have hm:(x,UY)∈scope.names\/(x,NameKind.free)∈scope.names:=by
   rcases h with h | h
   ·exact jU (WQ h) (.inl rfl)
   ·exact jU (WQ h) (.inr rfl)
  rcases hm with hm | hm
  ·exact absurd rfl (nocell _ hm)
  ·exact⟨hm,hs' _ hm rfl⟩
 ·have hm:(x,some j)∈N.zip src:=X0 (i:=i) (by rw[TK];exact⟨h1,h2⟩);have z:=WD.mp pc _ hm;simp only[Wm,beq_iff_eq] at z;exact⟨z.1.1,.inl z.1.2,.inl z.2⟩
structure Zs (X:Cx)(N:List Str)(src:List (Option Nat))(scope:Vb)(cl:List (Str×Addr))(y:Str):Prop where
 kind:scope.kind=.function
 one:∀n acc,R5 n scope.names acc=(y,n)::acc
 push:∀h,pushCells h scope.names=h.push { cls:=.type "cell",data:=.cell none }
 names:∀y∈scope.names,y.2=.local->scope.names.lookup y.1=some .local
 clos:R3 scope X.env=pure cl
 sub:∀x c,cl.lookup x=some c->X.env.cells.lookup x=some c
 has:∀x,((Vx scope X.env).names.lookup x=some .cell\/(Vx scope X.env).names.lookup x=some .free)->x=y\/∃c,cl.lookup x=some c
 len:src.length=N.length
 pulls:∀(i j:Nat) (x:Str),N[i]?=some x->src[i]?=some (some j)->X.N[j]?=some x/\(X.env.kindOf x=some .cell\/X.env.kindOf x=some .free)/\((Vx scope X.env).names.lookup x=some .cell\/(Vx scope X.env).names.lookup x=some .free)
 pny:∀(i j:Nat) (x:Str),N[i]?=some x->src[i]?=some (some j)->x≠y
theorem Zs.has1 {X:Cx}{N:List Str}{src:List (Option Nat)}{scope:Vb}{cl:List (Str×Addr)}{y:Str}{C:Addr}(ok:Zs X N src scope cl y)(x:Str)(h:(Vx scope X.env).names.lookup x=some .cell\/(Vx scope X.env).names.lookup x=some .free):∃c,Ss x ((y,C)::cl)=some c:=by
 rw[Ve];cases q:x==y with
 | true=>exact⟨_,rfl⟩
 | false =>
  rcases ok.has x h with z | z
  ·rw[z] at q;simp at q
  ·exact z
theorem Zs.byRfl {X:Cx}{N:List Str}{src:List (Option Nat)}{scope:Vb}{y:Str}(kind:scope.kind=.function)(one:∀n acc,R5 n scope.names acc=(y,n)::acc)(push:∀h,pushCells h scope.names=h.push { cls:=.type "cell",data:=.cell none })
  (only:∀z∈scope.names,z.2=.cell->z.1=y) (names:∀y∈scope.names,y.2=.local->scope.names.lookup y.1=some .local)
  (hs:(scope.names.all fun y=>y.2 != .free || (X.env.cells.lookup y.1).isSome)=true) (len:src.length=N.length)
  (pc:((N.zip src).all fun q=>match q.2 with | none=>true | some j=>X.N[j]?==some q.1&&X.env.kindOf q.1==some .cell&&(Vx scope X.env).names.lookup q.1==some .cell&&q.1 != y)=true):Zs X N src scope (Q3 (fun x=>X.env.cells.lookup x) scope.names []) y:=by
 have hs':∀y∈scope.names,y.2=.free->(X.env.cells.lookup y.1).isSome=true:=fun y hy e=>by
  have z:=WD.mp hs y hy;rw[e] at z;simpa using z
 have pk:∀(i j:Nat) (x:Str),N[i]?=some x->src[i]?=some (some j)->(X.N[j]?=some x/\X.env.kindOf x=some .cell/\(Vx scope X.env).names.lookup x=some .cell)/\x≠y:=fun i j x h1 h2=>by
  have hm:(x,some j)∈N.zip src:=X0 (i:=i) (by rw[TK];exact⟨h1,h2⟩);have z:=WD.mp pc _ hm;simp only[Wm,beq_iff_eq,bne_iff_ne] at z;exact⟨⟨z.1.1.1,z.1.1.2,z.1.2⟩,z.2⟩
 refine⟨kind,one,push,names,xh hs',fun x c h=>?_,fun x h=>?_,len,fun i j x h1 h2=>⟨(pk i j x h1 h2).1.1,.inl (pk i j x h1 h2).1.2.1,.inl (pk i j x h1 h2).1.2.2⟩,fun i j x h1 h2=>(pk i j x h1 h2).2⟩
 ·rcases JO _ _ _ (WQ h) with z | z
  ·cases z
  ·exact z
 ·have hm:(x,UY)∈scope.names\/(x,NameKind.free)∈scope.names:=by
   rcases h with h | h
   ·exact jU (WQ h) (.inl rfl)
   ·exact jU (WQ h) (.inr rfl)
  rcases hm with hm | hm
  ·exact .inl (only _ hm rfl)
  ·exact .inr (Vz.mp (za3 _ _ (.inr ⟨hm,hs' _ hm rfl⟩)))
def jL (X:Cx)(N:List Str)(scope:Vb)(cl:List (Str×Addr))(y:Str)(C:Addr)(fp:List Addr)(pins:List (Addr×Obj))(s:X8)(H:Hp):Cx :=
 { qp X N scope ((y,C+1)::cl) C fp pins s H with fn:=fun x=>decide (x=y) }
theorem zkr {M:PQ}{A:WW}{E:X9->X8->Prop}{s:X8}{scope:Vb}{globals:Addr}{cl:List (Str×Addr)}{qual:Str}{env:Env}{y:Str}{Q:Env->X8->Prop}(one:∀n acc,R5 n scope.names acc=(y,n)::acc)(push:∀h,pushCells h scope.names=h.push { cls:=.type "cell",data:=.cell none })
  (hQ:Q (newEnv scope s.heap.objs.size globals ((y,s.heap.objs.size+1)::cl) qual none .none (some env) OW) { s with heap:=(s.heap.push { cls:=.type "dict",data:=.dict #[] }).push { cls:=.type "cell",data:=.cell none } }) :
  Xo M A (RZ scope globals cl [] qual none .none (some env)) Q E s:=by
 simp only[RZ,Option.isSome_some,if_true];refine ZB (wpAny_alloc ?_);refine ZB (wpAny_layCells _ (fun name kind cells=>by cases hkc:kind==UY<;>simp[hkc]) _ _ _ _ ?_);rw[push,one,show ({ s with heap:=s.heap.push { cls:=.type "dict",data:=.dict #[] } }:X8).heap.objs.size=s.heap.objs.size+1 from VA ..];exact ZB (XY (XY hQ))
section
variable {X:Cx}{tg iter elt:Expr}{ifs:List Expr}{scope:Vb}{pos:Pos}{N:List Str}{src:List (Option Nat)}{cl:List (Str×Addr)}{wi:TI}{g:TG}{tc:TT}{te:TE}{y:Str}
theorem zeg {pins:List (Addr×Obj)}{σ:St}{H:Hp}{s:X8}{fp:List Addr}{h1:Heap}{C:Addr}{tk:Nat}(ok:Zs X N src scope cl y)(I:Inv X pins σ H s)(hf:∀b∈fp,ZS X pins H b)(ho:∀b∈fp,∃o,s.heap.get? b=some o)
  (hC:C=s.heap.objs.size+1) (k:∀b u,s.heap.get? b=some u->h1.get? b=some u) (hD:h1.get? s.heap.objs.size=some { cls:=.type "list",data:=.seq #[] }) {m:Str->Option X9} (hn:h1.Ns C m) (hcc:h1.IsCell (C+1) none) :
  Inv (jL X N scope cl y C fp pins s H) [] (pull src σ) (upd H s.heap.objs.size (.lst [])) { s with heap:=h1,toks:=tk }:=by
 have lt:∀b o,s.heap.get? b=some o->b<s.heap.objs.size:=fun b o e=>XQ e;have nC:∀b o,s.heap.get? b=some o->b≠C:=fun b o e=>by rw[hC];exact XA (W5 (lt b o e))
 have nD:∀b o,s.heap.get? b=some o->b≠s.heap.objs.size:=fun b o e=>XA (lt b o e);have fr:∀b,s.heap.objs.size<=b->H b=none:=fun b hb=>I.hok.fresh hb;have nst:∀b,b≠X.env.locals->b ∉ X.fs->b ∉ frs X.stack:=fun b h1 h2 z=>(XR.mp (I.stkSub b z)).elim h1 h2;have nC1:∀b o,s.heap.get? b=some o->b≠C+1:=fun b o e=>by rw[hC];exact XA (W5 (W5 (lt b o e)))
 have own:∀x c,Ss x ((y,C+1)::cl)=some c->(x=y/\c=C+1)\/(x≠y/\X.env.cells.lookup x=some c):=fun x c e=>by
  rw[Ve] at e;cases q:x==y with
  | true =>
   rw[q] at e;exact .inl ⟨by simpa using q,(Option.some.inj e).symm⟩
  | false =>
   rw[q] at e;exact .inr ⟨by simpa using q,ok.sub x c e⟩
 have oldc:∀x c,X.env.cells.lookup x=some c->c≠C+1:=fun x c e=>by
  obtain⟨_,o,e1,_⟩:=I.cell x c e;exact nC1 c o e1
 refine⟨⟨I.ok.mod,ok.kind,I.ok.glob,I.ok.blt,by rw[show (jL X N scope cl y C fp pins s H).env.locals=C from rfl,hC];exact Wg _,?inj,ok.has1,?cab,I.ok.hd,I.ok.frames,.inl rfl,fun b hb=>?_,I.bs,XV I.ok.bsz I.sz,fun b o e hb=>?_,fun b hb hz=>?_,I.stack,I.stkFree⟩,
  rfl,I.bare,Un.laid k (XW _) (fr _ (XW _)),⟨m,hn,fun i x v e1 e2 e3=>?_⟩,fun x c e=>?_,?_,fun x c e=>?_,fun p hp=>?_,I.hok.laid k (XW _) ⟨W1 _,[],0,.nil,hD⟩,?_⟩
 case inj =>
  intro x x' c e1 e2
  rcases own x c e1 with ⟨a1,a2⟩ | ⟨a1,a2⟩
  ·rcases own x' c e2 with ⟨b1,b2⟩ | ⟨b1,b2⟩
   ·rw[a1,b1]
   ·exact absurd a2 (oldc x' c b2)
  ·rcases own x' c e2 with ⟨b1,b2⟩ | ⟨b1,b2⟩
   ·exact absurd b2 (oldc x c a2)
   ·exact I.ok.inj x x' c a2 b2
 case cab =>
  intro x c z e
  have zy:x=y:=of_decide_eq_true z
  rcases own x c e with ⟨_,a2⟩ | ⟨a1,_⟩
  ·rw[a2,hC];exact T7 (Wg _)
  ·exact absurd zy a1
 ·obtain⟨o,e⟩:=ho b hb;refine⟨nC b o e,fun x c z=>?_⟩;rcases own x c z with ⟨_,a2⟩ | ⟨_,a2⟩
  ·rw[a2];exact Vy (nC1 b o e)
  ·exact(hf b hb).2.2.2.2.1 x c a2
 ·rcases(hf b hb).2.2.2.1 with z | z
  ·exact I.ok.noex b o e z
  ·exact absurd (XE (XQ (I.ok.bs b o e).1) z) (Wq _)
 ·exact nst b (hf b hb).2.1 (hf b hb).2.2.1 hz
 ·have hi:i<src.length:=by
   have:=(X2.mp e2).1;unfold pull at this;rw[Y1] at this;exact this
  unfold pull at e2;rw[Xn,X4 hi] at e2;cases q:src[i] with
  | none=>rw[q] at e2;cases e2
  | some j =>
   rw[q] at e2;have e2':(σ[j]?).getD none=some v:=Option.some.inj e2;have e4:σ[j]?=some (some v):=by
    cases z:σ[j]? with
    | none=>rw[z] at e2';cases e2'
    | some o=>rw[z] at e2';exact congrArg some e2'
   obtain⟨p1,p2,p3⟩:=ok.pulls i j x e1 (by rw[X4 hi,q]);obtain⟨m',hn',hl⟩:=I.loc;obtain⟨u,r,l⟩:=hl j x v p1 e4 (by
    rcases p2 with z | z
    ·exact .inr (.inl z)
    ·exact .inr (.inr z))
   refine⟨u,r,.inr ⟨p3,?_⟩⟩;obtain⟨c,hc⟩:=ok.has1 x p3;refine⟨c,hc,?_⟩;rcases l with ⟨z,_⟩ | ⟨_,c',hc',o,ho',hd'⟩
   ·rcases p2 with y | y<;>rw[z] at y<;>cases y
   ·rcases own x c hc with ⟨a1,_⟩ | ⟨_,a2⟩
    ·exact absurd a1 (ok.pny i j x e1 (by rw[X4 hi,q]))
    ·rw[a2] at hc';cases hc';exact⟨o,k _ o ho',hd'⟩
 ·rcases own x c e with ⟨_,a2⟩ | ⟨_,a2⟩
  ·rw[a2];exact⟨_,hcc⟩
  ·obtain⟨v,o,e1,e2⟩:=I.cell x c a2;exact⟨v,o,k c o e1,e2⟩
 ·show upd H s.heap.objs.size (.lst []) C=none;rw[hC,zj (VG _)];exact fr _ (Wg _)
 ·show upd H s.heap.objs.size (.lst []) c=none;rcases own x c e with ⟨_,a2⟩ | ⟨_,a2⟩
  ·rw[a2,hC,zj (Uq (W5 (Rg _)))];exact fr _ (T7 (Wg _))
  ·obtain⟨v,o,e1,e2⟩:=I.cell x c a2;rw[zj (nD c o e1)];exact I.freeC x c a2
 ·have hp':p∈X.pn++pins:=by
   have:p∈(X.pn++pins)++[]:=hp;simpa using this
  obtain⟨e1,e2,e3,e4,e5⟩:=I.pin p hp';refine⟨k _ _ e1,?_,nC _ _ e1,nst _ e3 e4,e5⟩;show upd H s.heap.objs.size (.lst []) p.1=none;rw[zj (nD _ _ e1)];exact e2
 ·unfold pull;rw[Y1];exact ok.len
theorem ziC {y:Str}(ok:Zs X N src scope cl y)(hcalm:X.calm=true)(hi:PI X tg iter wi)
  (hg:∀C fp pins s H,PG (jL X N scope cl y C fp pins s H) tg g) (hc:∀C fp pins s H,zfx (jL X N scope cl y C fp pins s H) ifs tc) (he:∀C fp pins s H,PE (jL X N scope cl y C fp pins s H) elt te)
  (hs:∀x,Vn iter X.env x=pure x:=by intro _;rfl):PE X (.ListComp elt [⟨tg,iter,ifs,0⟩] scope pos) (zea wi src g tc te):=by
 intro pins s σ H Q I h;rw[O0];refine Tu (use:=none) rfl hs ok.clos ok.kind ok.names (thn (hi pins s σ H _ I h) fun xv s1 h1=>thn h1 fun itv s2 h2=>?_);obtain⟨it,fp,tn,J,H2,e,I2,T,st2,f2,q2⟩:=h2;subst e;refine V5 (zkr ok.one ok.push ?_);generalize hP:s2.heap.push { cls:=.type "list",dict:=none,data:=.seq ([]:List X9).toArray }=P2;have hC:P2.objs.size=s2.heap.objs.size+1:=by rw[<- hP,VA]
 have sz1:(P2.push { cls:=.type "dict",data:=.dict #[] }).objs.size=P2.objs.size+1:=VA ..;generalize hh1:(P2.push { cls:=.type "dict",data:=.dict #[] }).push { cls:=.type "cell",data:=.cell none }=h₁;have hns₁:h₁.Ns P2.objs.size (fun _=>none):=by
  rw[<- hh1];exact(Heap.Ns.new P2 _).push _
 have hcc:h₁.IsCell (P2.objs.size+1) none:=by
  rw[<- hh1,<- sz1];exact⟨_,Xb _ rfl,rfl⟩
 have k:∀b u,s2.heap.get? b=some u->h₁.get? b=some u:=fun b u e=>by
  rw[<- hh1];exact X7 _ (X7 _ (hP ▸ X7 _ e))
 have hD:h₁.get? s2.heap.objs.size=some { cls:=.type "list",data:=.seq #[] }:=by
  rw[<- hh1];exact X7 _ (X7 _ (hP ▸ Xb _ rfl))
 have ho:∀b∈fp,∃o,s2.heap.get? b=some o:=fun b hb=>let ⟨o,e,_⟩:=T.obj 0 _ st2 b hb;⟨o,e⟩
 obtain⟨W,⟨m0,w0⟩,turn⟩:=q2 s2.heap.objs.size (I2.hok.fresh (XW _));have I0:=zeg (tk:=s2.toks) ok I2 f2 ho hC k hD hns₁ hcc;have st0:tn 0 h₁:=T.keep 0 _ _ st2 fun b _ o e=>k b o e;have fr0:∀b∈fp,upd H2 s2.heap.objs.size (.lst []) b=none:=fun b hb=>by
  obtain⟨o,e⟩:=ho b hb;rw[zj (XA (XQ e))];exact(f2 b hb).1
 have stat:∀{H':Hp},(∀b∈fp,H' b=none)->∀b∈fp,ZS (jL X N scope cl y P2.objs.size fp pins s2 H2) [] H' b:=fun {H'} hn b hb=>by
  obtain⟨o,e⟩:=ho b hb;have lt:=XQ e;refine⟨hn b hb,?_,fun z=>(XR.mp (I2.stkSub b z)).elim (f2 b hb).2.1 (f2 b hb).2.2.1,.inl hb,fun x c z=>?own,fun p hp=>?_⟩
  case own =>
   have z':Ss x ((y,P2.objs.size+1)::cl)=some c:=z
   rw[Ve] at z'
   cases q:x==y with
   | true =>
    rw[q] at z';rw[<- Option.some.inj z',hC];exact Uq (W5 (W5 lt))
   | false =>
    rw[q] at z';exact(f2 b hb).2.2.2.2.1 x c (ok.sub x c z')
  ·show b≠P2.objs.size;rw[hC];exact XA (W5 lt)
  ·have hp':p∈X.pn++pins:=by
    have:p∈(X.pn++pins)++[]:=hp;simpa using this
   exact(f2 b hb).2.2.2.2.2 p hp'
 have loop:∀s₃:X8,s₃={ s2 with heap:=h₁,toks:=s2.toks } ->
   UR (Xr X.prog X.w) X.A (.compLoop (.ListComp elt [⟨tg,iter,ifs,0⟩] scope pos) 0 (.ref it) (.ref s2.heap.objs.size) (V3 scope ((y,P2.objs.size+1)::cl) P2.objs.size X.env))
    (compPost (Xr X.prog X.w) X.A X.xe none (EP X pins σ Q) (.ref s2.heap.objs.size) P2.objs.size) s₃:=by
  rintro s₃ rfl;refine Sa rfl (fun n s'=>∃i σ' H',Inv (jL X N scope cl y P2.objs.size fp pins s2 H2) [] σ' H' s'/\tn i s'.heap/\(∀b∈fp,H' b=none)/\W i n σ' H') ?_ m0 ⟨0,_,_,I0,st0,fr0,w0⟩;rintro n s3 ⟨i,σ3,H3,I3,st3,fr3,w3⟩;show Xo _ X.A ((ON (.ListComp elt [⟨tg,iter,ifs,0⟩] scope pos) 0 (.ref it) (.ref s2.heap.objs.size) (V3 scope ((y,P2.objs.size+1)::cl) P2.objs.size X.env)).onRaise (fun x=>do SD x (V3 scope ((y,P2.objs.size+1)::cl) P2.objs.size X.env);Tn x)) _ _ s3;refine RI ?_;rw[Sw];rcases turn i n σ3 H3 w3 with ⟨stop,qn⟩ | ⟨go,N',hN,step⟩
  ·refine ZB (V6 (ZB (thn (T.done (jL X N scope cl y P2.objs.size fp pins s2 H2) rfl rfl rfl hcalm i [] s3 σ3 H3 _ I3 (stat fr3) st3 stop) fun r s4 ⟨hr,I4⟩=>?_)));subst hr;refine XY ?_;obtain⟨m,hm,_⟩:=I4.loc;refine⟨m,hm,fun h' sb=>⟨.ref s2.heap.objs.size,H3,?_,rfl,qn⟩⟩;have un:Un (frs X.stack) fp H2 H3 s2.heap h':=Un.but I4.base (by show s2.heap.objs.size<=P2.objs.size;rw[hC];exact Wg _) sb;have hok:HOk X.prog X.w H3 h':=HOk.but I4.hok I4.free sb;exact I2.call' (s':={ s4 with heap:=h' }) (ch:=fp) I4.os un hok I4.bare fun b hb=>⟨(f2 b hb).2.2.2.1,(f2 b hb).2.1,(f2 b hb).2.2.2.2.1,(f2 b hb).2.2.2.2.2⟩
  ·refine ZB (V6 (ZB (thn (T.item (jL X N scope cl y P2.objs.size fp pins s2 H2) rfl rfl rfl hcalm i [] s3 σ3 H3 _ I3 (stat fr3) st3 go) fun r s4 ⟨u,hr,h4⟩=>?_)));subst hr;dsimp only;refine ZB (thn h4 fun _ s5 ⟨x,H5,I5,r5,y5,st5,fr5⟩=>?_);have I5':=I5.pinned (stat fr5) (T.obj _ _ st5);refine ZB (Xa (hg P2.objs.size fp pins s2 H2 _ s5 σ3 H5 x u _ I5' r5 (step x H5 y5)) (fun _ s6 ⟨σ6,H6,I6,q6⟩=>?_) fun _ _ z=>Wn z);have Tc:∀{s7:X8} {σ7:St} {H7:Hp},Inv (jL X N scope cl y P2.objs.size fp pins s2 H2) ([]++Zm fp s5.heap) σ7 H7 s7->N' σ7 H7->∃m,m<n/\∃i σ' H',Inv (jL X N scope cl y P2.objs.size fp pins s2 H2) [] σ' H' s7/\tn i s7.heap/\(∀b∈fp,H' b=none)/\W i m σ' H':=fun {s7 σ7 H7} I7 n7=>by
    obtain⟨m',hm,w7⟩:=hN σ7 H7 n7;refine⟨m',hm,i+1,σ7,H7,I7.unpinned,T.keep _ _ _ st5 fun b hb o e=>(I7.pin (b,o) (XJ _ (XJ _ (qu hb e)))).1,fun b hb=>?_,w7⟩;obtain⟨o,e,d⟩:=T.obj _ _ st5 b hb;exact(I7.pin (b,o) (XJ _ (XJ _ (qu hb e)))).2.1
   refine ZB (Xa (hc P2.objs.size fp pins s2 H2 _ s6 σ6 H6 _ I6 q6) (fun b s7 ⟨H7,I7,q7⟩=>?_) fun _ _ z=>Wn z);cases b with
   | false =>
    rw[if_neg XT] at q7;exact XY ⟨rfl,Tc I7 q7⟩
   | true =>
    rw[if_pos rfl] at q7;refine ZB (ZB (Xa (he P2.objs.size fp pins s2 H2 _ s7 σ6 H7 _ I7 q7) (fun yv s8 ⟨v8,H8,I8,r8,ys,hys,hlen,q8⟩=>?_) fun _ _ z=>Wn z));refine ZB (Xa (xN (X:=jL X N scope cl y P2.objs.size fp pins s2 H2) _ s8 σ6 H8 (.ref s2.heap.objs.size) [v8] (.ref s2.heap.objs.size) [yv] (fun _ H9=>N' σ6 H9) I8 rfl (.cons r8 .nil) ⟨_,ys,v8,rfl,rfl,hys,hlen,q8⟩) (fun _ s9 ⟨v9,H9,I9,_,q9⟩=>?_) fun _ _ z=>Wn z);exact XY (XY ⟨rfl,Tc I9 q9⟩)
 exact U1 (loop _ rfl) (T.self _ 0 _ _ _ st0 (loop _ rfl))
end
section
variable {X:Cx}{K:X6}
theorem zcq (hK:X.K=K)(hc:X.calm=true):jR X (.builtin "any") (fun xs H Q=>∃(l:Addr) (bs:List Bool),xs=[.ref l]/\SqL K H l (bs.map V.bl)/\Q (.bl (bs.any id)) H):=by
 subst hK;exact zee hc
theorem zeh {tg l:Expr}{tl:TE}(hK:X.K=K)(hl:PE X l tl):PI X tg l (zlr K tl):=by
 subst hK;exact zM hl
end
def EF:XK:=fun _ _ _=>False
theorem znw {X:Cx}:Passes (CXE X.prog X.w) X EF:=by
 intro pins σ H s x s' I h;obtain⟨e,C,a0,B,H',rfl,F,hE⟩:=h;exact hE.elim
section
variable {X:Cx}
end
theorem zcr:∀{ts:List Str} {its:List X9},Vals (ts.map V.str) its->StrsAre its ts
 | [],_,.nil=>.nil
 | t::_,_,.cons ⟨k,e⟩ h=>by
  subst e;exact .cons t k (zcr h)
section
variable {X:Cx}
def rJoin (K:X6):V->List V->Hp->VK->Prop:=fun x xs H Q=>∃(z:Str) (l:Addr) (ts:List Str),x=.str z/\xs=[.ref l]/\SqL K H l (ts.map V.str)/\(ts.map (·.length)).sum+ts.length*z.length<=16777216/\Q (.str (Rm z ts)) H
theorem zks:MtR X "str.join" (rJoin X.K):=by
 intro pins s σ H x xs v us Q I rx rv h;obtain⟨z,l,ts,rfl,rfl,hl,hsz,q⟩:=h;obtain⟨tk,rfl⟩:=rx;obtain⟨u,rfl,r⟩:=rv.one;cases r;obtain⟨its,rv2,p,hz⟩:=I.list hl;refine join_list (ys:=ts) p.isList (by simpa using zcr rv2) hsz fun t' k=>⟨.str (Rm z ts),H,I.tok k,⟨t',?_⟩,q⟩;rw[show Txt.join z ts=Rm z ts from StrLaws.glued_eq_join z ts]
end
theorem zfD {α:Type}(d:α)(xs:List α):((WO xs.length).map fun i=>xs.getD i d)=xs:=by
 refine List.ext_getElem (by simp) fun i h1 h2=>?_;simp[h2]
theorem zgD (p:Int×Int):lt2 p p=false:=by
 unfold lt2;rw[if_pos rfl,decide_eq_false (by lia)]
theorem zaM {p q:Int×Int}(h:p≠q):lt2 q p=!lt2 p q:=by
 unfold lt2;obtain⟨a,b⟩:=p;obtain⟨c,d⟩:=q;simp only;by_cases e:a=c
 ·subst e;rw[if_pos rfl,if_pos rfl];have hb:b≠d:=fun z=>h (by rw[z]);by_cases l:b<d
  ·rw[decide_eq_true l,decide_eq_false (by lia)];rfl
  ·rw[decide_eq_false l,decide_eq_true (by lia)];rfl
 ·rw[if_neg e,if_neg (fun z=>e z.symm)];by_cases l:a<c
  ·rw[decide_eq_true l,decide_eq_false (by lia)];rfl
  ·rw[decide_eq_false l,decide_eq_true (by lia)];rfl
theorem zfE {p q r:Int×Int}(h1:lt2 p q=true)(h2:lt2 q r=true):lt2 p r=true:=by
 unfold lt2 at *
 obtain⟨a,b⟩:=p;obtain⟨c,d⟩:=q;obtain⟨e,f⟩:=r;simp only at *
 by_cases e1:a=c
 ·subst e1;rw[if_pos rfl,decide_eq_true_eq] at h1;by_cases e2:a=e
  ·subst e2;rw[if_pos rfl,decide_eq_true_eq] at h2 ⊢;lia
  ·rw[if_neg e2] at h2 ⊢;exact h2
 ·rw[if_neg e1,decide_eq_true_eq] at h1;by_cases e2:c=e
  ·subst e2;rw[if_neg e1,decide_eq_true_eq];exact h1
  ·rw[if_neg e2,decide_eq_true_eq] at h2;rw[if_neg (by lia),decide_eq_true_eq];lia
def Up2 (ps:List (Int×Int)):Prop:=ps.Pairwise fun p q=>lt2 p q=true
section
variable {X:Cx}
end
end L2
namespace PySem.SeqAt
open L2 AutoSeq1 MeetsSeq MeetsSeq2 MeetsSeq3
def YU (A:WW)(s:X8)(y x:X9)(b:Bool):Prop:=∀(prog:Xl) (w:W3) (E:X9->X8->Prop) (Q:X9->X8->Prop),Q (.bool b) s->Xo (Xr prog w) A (richCompare .Lt y x) Q E s
theorem YU.int_int {A:WW}{s:X8}(a:Int)(t:Tok)(b:Int)(u:Tok):YU A s (.int a t) (.int b u) (decide (a<b)):=fun prog w E Q h=>wpAny_lt_int h
theorem zfF (l b:Addr)(x y x2 y2:Int)(t u t2 u2:Tok)(n n2:Nat)(dd dd2:Option Addr)(sl sl2:Array (Option X9)) :
  Meets (UQ.«tuple.__lt__» ⟨[.ref l,.ref b],[]⟩)
   (fun _ R s=>s.heap.get? l=some { cls:=.type "tuple",dict:=dd,data:=.seq #[.int x t,.int y u] n,slots:=sl }/\s.heap.get? b=some { cls:=.type "tuple",dict:=dd2,data:=.seq #[.int x2 t2,.int y2 u2] n2,slots:=sl2 } /\
    R (.ok (.ret (.bool (lt2 (x,y) (x2,y2))))) s) :=
 .of_wp fun prog w A R s h=>by
  obtain⟨hp1,g1,d1,tk1,os1⟩:=s;obtain⟨hL,hB,h⟩:=h;have fT:=sub_tuple_tuple;wp_walk using Wb hL,Wb hB;refine EqAt.int_int x t x2 t2 prog w _ _ ?_;unfold lt2 at h;by_cases e:x=x2
  ·have e':(x==x2)=true:=by simpa using e
   rw[e'];rw[if_pos e] at h;wp_walk;refine EqAt.int_int y u y2 u2 prog w _ _ ?_;by_cases e2:y=y2
   ·have e2':(y==y2)=true:=by simpa using e2
    rw[e2'];rw[decide_eq_false (by show ¬ y<y2;lia)] at h;wp_walk;exact⟨_,rfl,h⟩
   ·have e2':(y==y2)=false:=by simpa using e2
    rw[e2'];simp only[Bool.not_false,if_true];refine ZB (UG (ZB (YU.int_int y u y2 u2 prog w _ _ ?_)));wp_walk;exact⟨_,rfl,h⟩
  ·have e':(x==x2)=false:=by simpa using e
   rw[e'];rw[if_neg e] at h;simp only[Bool.not_false,if_true];refine ZB (UG (ZB (YU.int_int x t x2 t2 prog w _ _ ?_)));wp_walk;exact⟨_,rfl,h⟩
theorem YU.pairs {A:WW}{s:X8}{v v':X9}{p q:Int×Int}(hv:zv s.heap v p)(hv':zv s.heap v' q)(hu:A.units<U0):YU A s v v' (lt2 p q):=fun prog w E Q h=>by
 obtain⟨a,⟨cls,dd,data,sl⟩,n,t,u,rfl,e1,c1,d1⟩:=hv;obtain⟨a',⟨cls2,dd2,data2,sl2⟩,n',t',u',rfl,e1',c1',d1'⟩:=hv';simp only at c1 d1 c1' d1';subst c1 d1 c1' d1';exact richCompare_meets_room (op:=.Lt) ⟨_,e1,rfl⟩ ⟨_,e1',rfl⟩ F.slot_tuple_lt F.entry_tuple_lt (F.args_tuple_lt_2 _ _) (zfF a a' p.1 p.2 q.1 q.2 t u t' u' n n' dd dd2 sl sl2)
  ⟨e1,e1',show Tk (lt2 p q)≠Value.notImplemented/\Q (.bool (lt2 p q)) s from ⟨(fun x=>nomatch x),h⟩⟩ hu
theorem YJ {h:Heap}{v:X9}{p:Int×Int}(hv:zv h v p):∃as,Reads h v (.tuple [.int p.1,.int p.2]) as:=by
 obtain⟨a,o,n,t,u,rfl,e1,c1,d1⟩:=hv;exact⟨_,.tuple e1 c1 d1 (.cons (.int _ _) (.cons (.int _ _) .nil))⟩
theorem zcs (p q:Int×Int):WI (.tuple [.int p.1,.int p.2]) (.tuple [.int q.1,.int q.2])=decide (p=q):=by
 obtain⟨a,b⟩:=p;obtain⟨c,d⟩:=q;show ((a==c)&&((b==d)&&true))=_;by_cases h1:a=c
 ·by_cases h2:b=d
  ·subst h1 h2;simp
  ·simp[h2]
 ·simp[h1]
end PySem.SeqAt
namespace L2
open PySem PySem.Spec PyProof.Rows PySem.W PySem.SeqAt
section
variable {X:Cx}{pins:List (Addr×Obj)}{σ:St}{H:Hp}{s:X8}
end
section
variable {X:Cx}
end
open PySem PySem.Spec PyProof.Rows
section
variable {κ:Type} [DecidableEq κ]
def yS (kvs:List (κ × V))(k:κ):Option V:=(kvs.find? fun kv=>decide (kv.1=k)).map (·.2)
def putK (kvs:List (κ × V))(k:κ)(v:V):List (κ × V) :=
 if (kvs.any fun kv=>decide (kv.1=k))=true then kvs.map (fun kv=>if kv.1=k then (kv.1,v) else kv) else kvs++[(k,v)]
theorem ju {p:κ × V}{r:List (κ × V)}{k:κ}(e:p.1=k):yS (p::r) k=some p.2:=by simp[yS,Ug,e]
theorem jv {p:κ × V}{r:List (κ × V)}{k:κ}(e:¬ p.1=k):yS (p::r) k=yS r k:=by simp[yS,Ug,e]
theorem Qn (k:κ):∀kvs:List (κ × V),(kvs.any fun kv=>decide (kv.1=k))=(yS kvs k).isSome
 | []=>rfl
 | p::r=>by
  rw[OZ];by_cases e:p.1=k
  ·simp only[ju e,decide_eq_true e,Bool.true_or,Option.isSome_some]
  ·rw[jv e,decide_eq_false e,Bool.false_or];exact Qn k r
theorem zei (k j:κ)(y:V):∀kvs:List (κ × V),yS (kvs.map fun kv=>if kv.1=k then (kv.1,y) else kv) j=(yS kvs j).map fun x=>if j=k then y else x
 | []=>rfl
 | p::r=>by
  have ih:=zei k j y r;rw[Xs];by_cases h:p.1=k
  ·rw[if_pos h];by_cases e:p.1=j
   ·rw[ju (p:=(p.1,y)) e,ju e,Uf,if_pos (e.symm.trans h)]
   ·rw[jv (p:=(p.1,y)) e,jv e,ih]
  ·rw[if_neg h];by_cases e:p.1=j
   ·rw[ju (p:=p) e,ju e,Uf,if_neg (fun z=>h (e.trans z))]
   ·rw[jv (p:=p) e,jv e,ih]
theorem zct (k j:κ)(y:V):∀kvs:List (κ × V),yS kvs k=none->yS (kvs++[(k,y)]) j=if j=k then some y else yS kvs j
 | [],_=>by
  by_cases e:k=j
  ·rw[if_pos e.symm];exact ju (p:=(k,y)) e
  ·rw[if_neg (fun z=>e z.symm)];exact jv (p:=(k,y)) e
 | p::r,hn=>by
  rw[Rf];have hk:¬ p.1=k:=fun z=>by rw[ju z] at hn;cases hn
  rw[jv hk] at hn;have ih:=zct k j y r hn;by_cases e:p.1=j
  ·rw[ju e,ju e,if_neg (fun z=>hk (e.trans z))]
  ·rw[jv e,jv e,ih]
theorem zej (kvs:List (κ × V))(k j:κ)(y:V):yS (putK kvs k y) j=if j=k then some y else yS kvs j:=by
 unfold putK;by_cases a:(kvs.any fun kv=>decide (kv.1=k))=true
 ·rw[if_pos a,zei];rw[Qn] at a;by_cases e:j=k
  ·obtain⟨x,hx⟩:=Vz.mp a;rw[if_pos e,e,hx,Uf,if_pos rfl]
  ·rw[if_neg e];cases yS kvs j with
   | none=>rfl
   | some x=>rw[Uf,if_neg e]
 ·rw[if_neg a];refine zct k j y kvs ?_;rw[Qn] at a;cases q:yS kvs k with
  | none=>rfl
  | some x=>rw[q] at a;exact(a rfl).elim
theorem zas (kvs:List (κ × V))(k:κ)(v:V):(putK kvs k v).length<=kvs.length+1:=by
 unfold putK;split
 ·rw[Y1];lia
 ·rw[XZ,Xp,Ue];lia
theorem zaW.isSome_eq {o:Option V}{u:Option X9}(r:zaW o u):o.isSome=u.isSome:=by
 cases o with
 | none=>cases u with
  | none=>rfl
  | some _=>exact(show False from r).elim
 | some _=>cases u with
  | none=>exact(show False from r).elim
  | some _=>rfl
theorem KV.val {kvs:List (κ × V)}{vs:List (κ × X9)}(r:KV kvs vs)(k:κ):zaW (yS kvs k) (O8 vs k):=by
 unfold KV at r;induction r with
 | nil=>exact T2
 | @cons p q ps qs h t ih =>
  obtain⟨h1,h2⟩:=h;by_cases e:p.1=k
  ·have e':q.1=k:=h1.symm.trans e;have b:O8 (q::qs) k=some q.2:=by simp[O8,Ug,e']
   rw[ju e,b];exact h2
  ·have e':¬ q.1=k:=fun z=>e (h1.trans z);have b:O8 (q::qs) k=O8 qs k:=by simp[O8,Ug,e']
   rw[jv e,b];exact ih
theorem KV.any {kvs:List (κ × V)}{vs:List (κ × X9)}(r:KV kvs vs)(k:κ):(kvs.any fun kv=>decide (kv.1=k))=vs.any fun kv=>decide (kv.1=k):=by
 unfold KV at r;induction r with
 | nil=>rfl
 | cons h t ih=>rw[OZ,OZ,ih,h.1]
theorem KV.repl {kvs:List (κ × V)}{vs:List (κ × X9)}(r:KV kvs vs)(k:κ){y:V}{u:X9}(ry:RelV y u) :
  KV (kvs.map fun kv=>if kv.1=k then (kv.1,y) else kv) (vs.map fun kv=>if kv.1=k then (kv.1,u) else kv):=by
 unfold KV at r ⊢;induction r with
 | nil=>exact .nil
 | @cons p q ps qs h t ih =>
  rw[Xs,Xs];refine .cons ?_ ih;obtain⟨h1,h2⟩:=h;by_cases e:p.1=k
  ·rw[if_pos e,if_pos (h1.symm.trans e)];exact⟨h1,ry⟩
  ·rw[if_neg e,if_neg (fun z=>e (h1.trans z))];exact⟨h1,h2⟩
theorem KV.put {kvs:List (κ × V)}{vs:List (κ × X9)}(r:KV kvs vs)(k:κ){y:V}{u:X9}(ry:RelV y u):KV (putK kvs k y) (stored vs k u):=by
 unfold putK stored;rw[r.any k];by_cases e:(vs.any fun kv=>decide (kv.1=k))=true
 ·rw[if_pos e,if_pos e];exact r.repl k ry
 ·rw[if_neg e,if_neg e];exact Paired.snoc r ⟨rfl,ry⟩
theorem KV.length {kvs:List (κ × V)}{vs:List (κ × X9)}(r:KV kvs vs):kvs.length=vs.length:=Paired.length r
end
theorem ziD {P:Xl}{w:W3}{k:Key}{u:X9}(r:RelV (kV k) u):(zP P w).is k u=true:=by
 cases k with
 | inl i=>obtain⟨t,e⟩:=(show ∃t,u=Vl i t from r);subst e;exact zdY P w i t
 | inr x=>obtain⟨t,e⟩:=(show ∃t,u=OD x t from r);subst e;exact zdZ P w x t
theorem zcu {P:Xl}{w:W3}:∀{ks:List Key} {us:List X9},Vals (ks.map kV) us->ItemsAre (zP P w) ks us
 | [],_,r=>by rw[OL] at r;cases r;exact .nil
 | k::ks,_,r=>by
  rw[Xs] at r;cases r with
  | cons h t=>exact .cons (ziD h) (zcu t)
abbrev KT (H:Hp):List (List Key×V)->List (List Key×Addr×X9)->Prop:=W9 fun p q=>p.1=q.1/\H q.2.1=some (.tup (p.1.map kV))/\RelV p.2 q.2.2
theorem KT.val {H:Hp}{kvs:List (List Key×V)}{xs:List (List Key×Addr×X9)}(r:KT H kvs xs)(k:List Key):zaW (yS kvs k) ((OB xs k).map (·.2)):=by
 induction r with
 | nil=>exact T2
 | @cons p q ps qs h t ih =>
  obtain⟨h1,_,h2⟩:=h;by_cases e:p.1=k
  ·have e':q.1=k:=h1.symm.trans e;have b:OB (q::qs) k=some q.2:=by simp[OB,Ug,e']
   rw[ju e,b];exact h2
  ·have e':¬ q.1=k:=fun z=>e (h1.trans z);have b:OB (q::qs) k=OB qs k:=by simp[OB,Ug,e']
   rw[jv e,b];exact ih
theorem KT.repl {H:Hp}{kvs:List (List Key×V)}{xs:List (List Key×Addr×X9)}(r:KT H kvs xs)(k:List Key){y:V}{u:X9}(ry:RelV y u) :
  KT H (kvs.map fun kv=>if kv.1=k then (kv.1,y) else kv) (xs.map (putAt k u)):=by
 induction r with
 | nil=>exact .nil
 | @cons p q ps qs h t ih =>
  rw[Xs,Xs];refine .cons ?_ ih;obtain⟨h1,h2,h3⟩:=h;unfold putAt;by_cases e:p.1=k
  ·rw[if_pos e,if_pos (h1.symm.trans e)];exact⟨h1,h2,ry⟩
  ·rw[if_neg e,if_neg (fun z=>e (h1.trans z))];exact⟨h1,h2,h3⟩
theorem KT.put {H:Hp}{kvs:List (List Key×V)}{xs:List (List Key×Addr×X9)}(r:KT H kvs xs)(k:List Key){b:Addr}{y:V}{u:X9}(hb:H b=some (.tup (k.map kV)))(ry:RelV y u) :
  KT H (putK kvs k y) (Sy xs k b u):=by
 have e:(kvs.any fun kv=>decide (kv.1=k))=(OB xs k).isSome:=by
  rw[Qn,(r.val k).isSome_eq,Option.isSome_map]
 unfold putK Sy;rw[e];by_cases q:(OB xs k).isSome=true
 ·rw[if_pos q,if_pos q];exact r.repl k ry
 ·rw[if_neg q,if_neg q];exact Paired.snoc r ⟨rfl,hb,ry⟩
theorem KT.keeps {H H':Hp}{kvs:List (List Key×V)}{xs:List (List Key×Addr×X9)}(r:KT H kvs xs)(ht:∀b ys,H b=some (.tup ys)->H' b=some (.tup ys)):KT H' kvs xs :=
 Paired.mapP r fun _ _ z=>⟨z.1,ht _ _ z.2.1,z.2.2⟩
section
variable {P:Xl}{w:W3}{H:Hp}{h:Heap}{a:Addr}
theorem zlv {u:HO}(ok:HOk P w H h)(e:Rd H a u):qM P w H h a u:=e.ok ok
theorem ziE {kvs:List (Key×V)}(ok:HOk P w H h)(e:Rd H a (.dK kvs)):kvs.length<=XC/\(a==T3)=false/\∃vs,KV kvs vs/\h.DictOf (zP P w) a vs :=
 show qM P w H h a (.dK kvs) from zlv ok e
theorem znx {kvs:List (Key×V)}(ok:HOk P w H h)(e:H a=some (.dK kvs)):kvs.length<=XC/\(a==T3)=false/\∃vs,KV kvs vs/\h.DictOf (zP P w) a vs:=ziE ok (.inl e)
theorem zdr {ks:List Key}(ok:HOk P w H h)(e:H a=some (.tup (ks.map kV))):(VH (zP P w)).is h ks a:=by
 obtain⟨_,its,r,o,h1,h2,n,h3⟩:=(show qM P w H h a (.tup (ks.map kV)) from ok a _ e);exact⟨o,its.toArray,n,h1,h2,h3,by simpa using zcu r⟩
theorem ziF {kvs:List (List Key×V)}(ok:HOk P w H h)(e:Rd H a (.dT kvs)):kvs.length<=XC/\(a==T3)=false /\
  ∃xs,KT H kvs xs/\h.DictOfH (VH (zP P w)) a xs:=by
 obtain⟨z,y,xs,r,o,es,ep,h1,h2,h3,h4,h5⟩:=(show qM P w H h a (.dT kvs) from zlv ok e);refine⟨z,y,xs,r,o,es,ep,h1,h2,h3,h4,fun x hx=>?_,h5⟩;have all:∀{l:List (List Key×V)} {m:List (List Key×Addr×X9)},KT H l m->∀x∈m,(VH (zP P w)).is h x.1 x.2.1:=by
  intro l m q;induction q with
  | nil=>intro x hx;exact nomatch hx
  | @cons p q ps qs hq t ih =>
   intro x hx;rcases XR.mp hx with e | hx
   ·subst e;exact zdr ok (by rw[<- hq.1];exact hq.2.1)
   ·exact ih x hx
 exact all r x hx
theorem zny {kvs:List (List Key×V)}(ok:HOk P w H h)(e:H a=some (.dT kvs)):kvs.length<=XC/\(a==T3)=false /\
  ∃xs,KT H kvs xs/\h.DictOfH (VH (zP P w)) a xs:=ziF ok (.inl e)
end
def zhw (H:Hp)(a:Addr)(y:V)(r:Option V):Prop :=
 (∃kvs k,Rd H a (.dK kvs)/\y=kV k/\r=yS kvs k)\/∃kvs k b,Rd H a (.dT kvs)/\y=.ref b/\H b=some (.tup (k.map kV))/\r=yS kvs k
def ziG (H:Hp)(a:Addr)(y v:V)(H':Hp):Prop :=
 (∃kvs k,H a=some (.dK kvs)/\y=kV k/\kvs.length<XC/\H'=upd H a (.dK (putK kvs k v))) \/
 ∃kvs k b,H a=some (.dT kvs)/\y=.ref b/\H b=some (.tup (k.map kV))/\kvs.length<XC/\H'=upd H a (.dT (putK kvs k v))
theorem zhw.t {H:Hp}{a b:Addr}{kvs:List (List Key×V)}{k:List Key}(e:H a=some (.dT kvs))(eb:H b=some (.tup (k.map kV))):zhw H a (.ref b) (yS kvs k):=.inr ⟨kvs,k,b,.inl e,rfl,eb,rfl⟩
theorem ziG.t {H:Hp}{a b:Addr}{kvs:List (List Key×V)}{k:List Key}{v:V}(e:H a=some (.dT kvs))(eb:H b=some (.tup (k.map kV)))(hl:kvs.length<XC) :
  ziG H a (.ref b) v (upd H a (.dT (putK kvs k v))):=.inr ⟨kvs,k,b,e,rfl,eb,hl,rfl⟩
section
variable {X:Cx}{pins:List (Addr×Obj)}{σ:St}{H:Hp}{s:X8}{a:Addr}{y v:V}{u r:X9}{o:Option V}{A:WW}{E:X9->X8->Prop}
theorem Inv.big (I:Inv X pins σ H s):T3<s.heap.objs.size:=by
 have h:XO<s.heap.objs.size:=(I.mod.glob.keeps I.bk).lt;exact R9 (by decide) h
theorem zhx {Q:X9->X8->Prop}(hu:A.units+1<U0)(I:Inv X pins σ H s)(g:zhw H a y (some v))(ry:RelV y u)(h:∀w' s',Inv X pins σ H s'->RelV v w'->Q w' s') :
  Xo (Xr X.prog X.w) A (Pb (.ref a) u) Q E s:=by
 rcases g with ⟨kvs,k,e,ey,l⟩ | ⟨kvs,k,b,e,ey,eb,l⟩
 ·subst ey;obtain⟨z,hd,vs,rel,dd⟩:=ziE I.hok e;obtain⟨w',hw,rw'⟩:=zaW.some_of (v:=v) (o:=O8 vs k) (by rw[l];exact rel.val k);exact wpAny_getItem_of (ziD ry) dd.mapOf hw (h w' _ (I.tok _) rw')
 ·subst ey;cases (show u=WJ b from ry);obtain⟨z,hd,xs,rel,dd⟩:=ziF I.hok e;obtain⟨w',hw,rw'⟩:=zaW.some_of (v:=v) (o:=(OB xs k).map (·.2)) (by rw[l];exact rel.val k);obtain⟨p,hp,hp2⟩:=P0.mp hw;refine wpAny_getItem_heap (tupleKind_room_in1 hu) (zdr I.hok eb) dd hp ?_;rw[hp2];exact h w' _ (I.tok _) rw'
theorem zgE {h':Heap}{t':Nat}{ob:HO}(I:Inv X pins σ H s)(mu:Mut (H a))(hs:VN a s.heap h')(he:∃q,h'.get? a=some q)(new:qM X.prog X.w (upd H a ob) h' a ob) :
  Inv X pins σ (upd H a ob) { s with heap:=h',toks:=t' } :=
 I.write (x:=a) (e:=a) mu (.inl rfl) (fun b q hb z=>(hs.2 b hb).trans z) he new
theorem zmk {P:Xl}{w:W3}{H':Hp}{h':Heap}{kvs:List (Key×V)}{vs:List (Key×X9)}(z:kvs.length<=XC)(hd:(a==T3)=false)(rel:KV kvs vs)(dd:h'.DictOf (zP P w) a vs) :
  qM P w H' h' a (.dK kvs):=⟨z,hd,vs,rel,dd⟩
theorem zhy {H':Hp}{Q:Unit->X8->Prop}(hu:A.units+1<U0)(I:Inv X pins σ H s)(g:ziG H a y v H')(ry:RelV y u)(rv:RelV v r)(h:∀s',Inv X pins σ H' s'->Q () s') :
  Xo (Xr X.prog X.w) A (setItem (.ref a) u r) Q E s:=by
 rcases g with ⟨kvs,k,e,ey,l,eH⟩ | ⟨kvs,k,b,e,ey,eb,l,eH⟩
 ·subst ey eH;obtain⟨z,hd,vs,rel,dd⟩:=znx I.hok e;have hz:vs.length<=XC:=by rw[<- rel.length];exact z
  have hl:(putK kvs k v).length<=XC:=by have:=zas kvs k v;lia
  refine wpAny_setItem_pairs (hsz:=hz) (ziD ry) dd fun h' dd' hs=>h _ ?_;have he:∃q,h'.get? a=some q:=let ⟨q,_,_,hq,_⟩:=dd';⟨q,hq⟩
  exact zgE I (by rw[e];exact T2) hs he (zmk hl hd (rel.put k rv) dd')
 ·subst ey eH;cases (show u=WJ b from ry);obtain⟨z,hd,xs,rel,dd⟩:=zny I.hok e;have hz:xs.length<=XC:=by rw[<- Paired.length rel];exact z
  have hl:(putK kvs k v).length<=XC:=by have:=zas kvs k v;lia
  refine wpAny_setItem_heap (hsz:=hz) (tupleKind_room_in1 hu) (zdr I.hok eb) dd fun h' dd' hs=>h _ ?_;obtain⟨q,es,ep,hq,h2,h3,h4,_,h5⟩:=dd';refine zgE I (by rw[e];exact T2) hs ⟨q,hq⟩ ⟨hl,hd,_,(rel.put k eb rv).keeps fun c ys ec=>?_,q,es,ep,hq,h2,h3,h4,h5⟩;rw[zj (zd0 ec e (fun z=>nomatch z))];exact ec
end
section
variable {X:Cx}{pins:List (Addr×Obj)}{σ:St}{H:Hp}{s:X8}{a:Addr}{kvs:List (Key×V)}{k:Key}{u:X9}{A:WW}{E:X9->X8->Prop}
end
def znz (i:Expr):Prop:=∀ov iv,Pq i false ov iv=operate [ov,iv] (Pb ov iv)
theorem zkt {prog:Xl}{w:W3}{A:WW}{E:X9->X8->Prop}{s:X8}{env:Env}{value slice:Expr}{pos:Pos}{T id:String}{Q:X9->X8->Prop}
  (hl:OV (.type T) "__getitem__"=pure (some (.builtin id))) (hs:znz slice)
  (h:Xo (Xr prog w) A (eval value env) (fun o s₁=>Xo (Xr prog w) A (eval slice env) (fun i s₂=>s₂.TypeIs o T/\Xo (Xr prog w) A (Pb o i) Q E s₂) E s₁) E s) :
  Xo (Xr prog w) A (eval (.Subscript value slice pos) env) Q E s:=by
 refine Subscript_ (Xa h (fun o s₁ h₁=>Xa h₁ (fun i s₂ h₂=>?_) fun _ _ x=>x) fun _ _ x=>x);obtain⟨hT,h₂⟩:=h₂;unfold O2;refine ZB ?_;rw[getitemInPython_of_ne hT.not_modules];refine ZB (PL hT hl ?_);have fin:Xo (Xr prog w) A (Pq slice false o i) (fun r s₃=>Xo (Xr prog w) A (letTemporaryGo value o r >>= fun _=>pure r) Q E s₃) E s₂:=by
  rw[hs o i];exact wpAny_operating (Xa h₂ (fun r s₃ h₃=>ZB (wpAny_letTemporaryGo (XY h₃))) fun _ _ x=>x)
 first
  | exact XY (ZB fin)
  | exact ZB (XY (ZB fin))
  | exact ZB fin
theorem zek {X:Cx}{pins:List (Addr×Obj)}{σ:St}{H:Hp}{s:X8}{a:Addr}{y:V}{o:Option V}(I:Inv X pins σ H s)(g:zhw H a y o):s.TypeIs (.ref a) "dict":=by
 rcases g with ⟨kvs,k,e,_,_⟩ | ⟨kvs,k,b,e,_,_,_⟩
 ·obtain⟨_,_,vs,_,dd⟩:=ziE I.hok e;exact dd.typeIs
 ·obtain⟨_,_,xs,_,dd⟩:=ziF I.hok e;exact dd.typeIs
def znA (td ty:TE):TE:=fun σ H Q=>td σ H fun x H1=>ty σ H1 fun y H2=>∃a v,x=.ref a/\zhw H2 a y (some v)/\Q v H2
def znB (td ty tv:TE):TS:=fun D σ H=>tv σ H fun v H1=>td σ H1 fun x H2=>ty σ H2 fun y H3=>∃a H4,x=.ref a/\ziG H3 a y v H4/\D.nx σ H4
section
variable {X:Cx}{o i e value:Expr}{pos pos' tpos:Pos}{td ty tv:TE}
theorem zku (hu:X.A.units+1<U0)(ho:PE X o td)(hi:PE X i ty)(hs:znz i):PE X (.Subscript o i pos) (znA td ty):=by
 intro pins s σ H Q I h;refine zkt PySem.F.slot_dict_getitem.lookup hs (thn (ho pins s σ H _ I h) fun u s1 ⟨x,H1,I1,rx,q1⟩=>thn (hi pins s1 σ H1 _ I1 q1) fun iv s2 ⟨y,H2,I2,ry,a,v,ex,g,q2⟩=>?_);subst ex;obtain rfl:u=WJ a:=rx;exact⟨zek I2 g,zhx hu I2 g ry fun w' s3 I3 rw'=>⟨v,H2,I3,rw',q2⟩⟩
theorem zkv (hu:X.A.units+1<U0)(ho:PE X o td)(hi:PE X i ty)(hv:PE X value tv)(hs:O6 value (some (.Subscript o i pos')) pos.line X.env=pure false) :
  PS X (.Assign [.Subscript o i pos'] value pos) (znB td ty tv):=by
 intro pins s σ H D I h;refine wpAny_Assign_Subscript (thn (hv pins s σ H _ I h) fun r s1 ⟨v,H1,I1,rv,q1⟩=>thn (ho pins s1 σ H1 _ I1 q1) fun u s2 ⟨x,H2,I2,rx,q2⟩=>thn (hi pins s2 σ H2 _ I2 q2) fun iv s3 ⟨y,H3,I3,ry,a,H4,ex,g,q3⟩=>?_) hs;subst ex;obtain rfl:u=WJ a:=rx;exact zhy hu I3 g ry rv fun s4 I4=>⟨σ,H4,I4,q3⟩
end
section
variable {X:Cx}{pos:Pos}
end
section
variable {X:Cx}{pins:List (Addr×Obj)}{σ:St}{H:Hp}{s:X8}{a:Addr}{y d:V}{u r:X9}{o:Option V}{A:WW}{E:X9->X8->Prop}
end
section
variable {X:Cx}{o e f:Expr}{apos cpos:Pos}{td ty tx:TE}
end
section
variable {X:Cx}{pins:List (Addr×Obj)}{σ:St}{H:Hp}{s:X8}{a:Addr}{kvs:List (Key×V)}{A:WW}{E:X9->X8->Prop}
end
section
variable {X:Cx}{pins:List (Addr×Obj)}{σ:St}{H:Hp}{s:X8}{a:Addr}{y:V}{u:X9}{A:WW}{E:X9->X8->Prop}
end
theorem zhz:OV (.type "list") "keys"=pure none:=by rw[Sk,Ub];kernel_rfl
theorem zhA:OV (.type "list") "__getattr__"=pure none:=by rw[Sk,Ub];kernel_rfl
theorem za7:isSubtype (.type "AttributeError") (.type "AttributeError")=pure true:=by rw[Pm];kernel_rfl
theorem ziH (args:List X9):ownMembersOf (.type "AttributeError") args=#[unsetMember,unsetMember]:=rfl
theorem zfG:((Manifest.find? "AttributeError").elim false fun t=>t.mro.contains "StopIteration" || t.mro.contains "SystemExit")=false:=by decide +kernel
section
variable {prog:Xl}{w:W3}{A:WW}{E:X9->X8->Prop}{h:Heap}{g:Array Uz}{d:Ow}{t:Nat}{os:OP}{a:Addr}{its:Array X9}{n:Nat}
theorem ziI {tk:Tok}{Q:Fin->X8->Prop}(hx:h.get? a=some { cls:=.type "list",dict:=none,data:=.seq its n,slots:=#[] })(hh:A.handled=none)
  (he:∀h' t' e,(∀b o',h.get? b=some o'->h'.get? b=some o')->(⟨h',g,d,t',os⟩:X8).TypeIs (.ref e) "AttributeError"->E (.ref e) ⟨h',g,d,t',os⟩) :
  Xo (Xr prog w) A (UQ.«object.__getattribute__» ⟨[.ref a,.str "keys" tk],[]⟩) Q E ⟨h,g,d,t,os⟩:=by
 have hT:(⟨h,g,d,t,os⟩:X8).TypeIs (.ref a) "list":=⟨_,hx,rfl⟩;have f4:=zhz;have f5:=za7;repeat (any_goals (first | assumption | wp_step))
 unfold raiseAttrError;refine ZB (wpAny_mkStr (ZB ?_) (by decide +kernel));unfold newExc newTuple;refine ZB (V5 ?_);refine ZB (m:=RY _ _) (RG (a:=Value.none) (by simp only[RY,zfG];rfl) ?_);rw[ziH];refine V5 ?_;refine ZB (wpAny_mkText ?_);refine ZB ?_;unfold noteAttr lacksNameAndObj;repeat (any_goals (first | assumption | wp_step))
 unfold raiseNew;refine ZB (wpAny_handled ?_);rw[hh];refine ZB (XY (OA ?_));dsimp only;refine he _ _ _ (fun b o' hb=>?_) ?_
 ·rw[(UB ..).2 b (XA ?_)]
  ·exact X7 _ (X7 _ hb)
  ·rw[VA];exact W5 (XQ hb)
 ·refine⟨_,Wh _ (Xb _ rfl) rfl,rfl⟩
theorem zkw {tk:Tok}{R:Ps->X8->Prop}(hx:h.get? a=some { cls:=.type "list",dict:=none,data:=.seq its n,slots:=#[] })(hh:A.handled=none)
  (he:∀h' t' e,(∀b o',h.get? b=some o'->h'.get? b=some o')->(⟨h',g,d,t',os⟩:X8).TypeIs (.ref e) "AttributeError"->R (.error (.ref e)) ⟨h',g,d,t',os⟩) :
  UR (Xr prog w) A (.call (.builtin "list.__getattribute__") ⟨[.ref a,.str "keys" tk],[]⟩) R ⟨h,g,d,t,os⟩ :=
 TX PySem.F.slot_list_getattribute.plain PySem.F.entry_list_ga (PySem.F.slot_list_getattribute.check _ _ _ _ _ _ _ _ (show (⟨h,g,d,t,os⟩:X8).TypeIs (.ref a) "list" from ⟨_,hx,rfl⟩) (PySem.F.args_list_getattribute_2 _ _) (ziI hx (by simp[hh]) he))
theorem znC {tk:Tok}{Q:X9->X8->Prop}(hx:h.get? a=some { cls:=.type "list",dict:=none,data:=.seq its n,slots:=#[] })(hh:A.handled=none)
  (he:∀h' t' e,(∀b o',h.get? b=some o'->h'.get? b=some o')->(⟨h',g,d,t',os⟩:X8).TypeIs (.ref e) "AttributeError"->E (.ref e) ⟨h',g,d,t',os⟩) :
  Xo (Xr prog w) A (getAttrBy (.ref a) (.str "keys" tk) false) Q E ⟨h,g,d,t,os⟩:=by
 have hT:(⟨h,g,d,t,os⟩:X8).TypeIs (.ref a) "list":=⟨_,hx,rfl⟩;have f2:=PySem.F.slot_list_getattribute.lookup;have f3:=PySem.F.slot_list_getattribute.bind (.ref a);have f4:=zhA;have f5:=za7;repeat (any_goals (first | assumption | wp_step))
 refine zkw hx (by simp[hh]) fun h' t' e kp hE=>?_;repeat (any_goals (first | assumption | wp_step))
 exact he _ _ _ kp hE
theorem zkx {Q:Option X9->X8->Prop}(hx:h.get? a=some { cls:=.type "list",dict:=none,data:=.seq its n,slots:=#[] })(hh:A.handled=none)
  (hq:∀h' t',(∀b o',h.get? b=some o'->h'.get? b=some o')->Q none ⟨h',g,d,t',os⟩) :
  Xo (Xr prog w) A (Ot (.ref a) "keys") Q E ⟨h,g,d,t,os⟩:=by
 have f5:=za7;unfold Ot getAttrBy?;refine ZB (wpAny_mkText (ZB (Tx ?_)));refine znC (t:=t+1) hx hh fun h' t' e kp hE=>?_;repeat (any_goals (first | assumption | wp_step))
 exact hq _ _ kp
theorem Qo:Os table "dict.update.loop"=some UQ.«dict.update.loop»:=entryFor_of_tree (by kernel_rfl)
theorem xG:plainId "dict.update.loop"=true:=by decide +kernel
end
section
variable {prog:Xl}{w:W3}{A:WW}{R:Ps->X8->Prop}{I:Addr}{fp wr:List Addr}{G:Array Uz->Array Uz->Prop}{n:Nat}{P:Nat->X9->Prop}{St:Nat->X8->Prop}
abbrev KQ:=List Key×Addr×X9
def putAll (ks:List KQ):List KQ:=ks.foldl (fun acc q=>Sy acc q.1 q.2.1 q.2.2) []
theorem putAll_snoc (ks:List KQ)(q:KQ):putAll (ks++[q])=Sy (putAll ks) q.1 q.2.1 q.2.2:=by
 unfold putAll;rw[SS];rfl
theorem zel (xs:List KQ)(k:List Key)(a:Addr)(v:X9):(Sy xs k a v).length<=xs.length+1:=by
 unfold Sy;split
 ·rw[Y1];lia
 ·rw[XZ];exact XW _
theorem za8 (ks:List KQ):(putAll ks).length<=ks.length:=by
 suffices h:∀(ks acc:List KQ),(ks.foldl (fun acc q=>Sy acc q.1 q.2.1 q.2.2) acc).length<=acc.length+ks.length by
  have:=h ks [];simpa[putAll] using this
 intro ks;induction ks with
 | nil=>intro acc;exact XW _
 | cons q r ih =>
  intro acc;have h1:=ih (Sy acc q.1 q.2.1 q.2.2);have h2:=zel acc q.1 q.2.1 q.2.2;rw[VT,Xp];lia
theorem zds {A:WW}{E:X9->X8->Prop}{s:X8}{ta:Addr}{x y:X9}{Q:List X9->X8->Prop}(h:Ox s.heap ta #[x,y])(q:Q [x,y] s):Xo (Xr prog w) A (PZ (.ref ta)) Q E s:=by
 obtain⟨o,h1,h2,n,h3⟩:=h;have hT:s.TypeIs (.ref ta) "tuple":=⟨o,h1,h2⟩;unfold PZ;repeat (any_goals (first | assumption | wp_step))
 rw[h3];exact XY (XY q)
end
section
variable {prog:Xl}{w:W3}{A:WW}{R:Ps->X8->Prop}{I:Addr}{fp wr:List Addr}{G:Array Uz->Array Uz->Prop}{n:Nat}{P:Nat->X9->Prop}{St:Nat->X8->Prop}
theorem zat (T:List Key->Addr->Prop):∀(js acc:List KQ),(∀x∈acc,T x.1 x.2.1)->(∀x∈js,T x.1 x.2.1)->∀x∈js.foldl (fun acc q=>Sy acc q.1 q.2.1 q.2.2) acc,T x.1 x.2.1
 | [],_,ha,_=>ha
 | q::r,acc,ha,hj=>by
  rw[VT];refine zat T r _ (fun x hx=>?_) fun x hx=>hj x (XX _ hx);unfold Sy at hx;split at hx
  ·obtain⟨y,hy,rfl⟩:=XB.mp hx;have:=ha y hy;unfold putAt;split
   ·exact this
   ·exact this
  ·rcases XI.mp hx with hx | hx
   ·exact ha x hx
   ·have e:x=(q.1,q.2.1,q.2.2):=by simpa using hx
    subst e;exact hj q XU
theorem zfH {h0:Heap}(W:WalksS prog w A.in1 I fp wr G n P St)(D:Addr)(hDf:D ∉ fp)(hD0:h0.get? D=none)(hw0:∀b∈wr,h0.get? b=none)(ks:List KQ)(hlen:ks.length=n)(hb:n<=XC)(hu:A.units+1<U0)
  (hks:∀q∈ks,(VH (zP prog w)).is h0 q.1 q.2.1) (hP:∀i v,P i v->∃ta q,v=.ref ta/\ks[i]?=some q/\Ox h0 ta #[.ref q.2.1,q.2.2]) :
  ∀(k i:Nat) (s:X8),n-i=k->i<=n->St i s->(∀b o,h0.get? b=some o->s.heap.get? b=some o)->s.heap.DictOfH (VH (zP prog w)) D (putAll (ks.take i)) ->
   (∀s',Moved (D::wr) G s s'->s'.heap.DictOfH (VH (zP prog w)) D (putAll ks)->R (.ok (.ret .none)) s') ->
   UR (Xr prog w) A (.builtin "dict.update.loop" ⟨[.ref D,.ref I,Ut (i:Int),.none],[]⟩) R s:=by
 have hDw:D ∉ wr:=fun h=>hDf (W.sub _ h);have more:∀b∈wr,b∈D::wr:=fun b hb=>XX _ hb;have tup_up:∀{h:Heap} {ta:Addr} {xs:Array X9},(∀b o,h0.get? b=some o->h.get? b=some o)->Ox h0 ta xs->Ox h ta xs:=fun kp ⟨o,h1,h2,m,h3⟩=>⟨o,kp _ _ h1,h2,m,h3⟩;have key_up:∀{h:Heap} {ka:Addr} {q:List Key},(∀b o,h0.get? b=some o->h.get? b=some o)->(VH (zP prog w)).is h0 q ka->(VH (zP prog w)).is h q ka:=fun kp ⟨o,xs,m,h1,h2⟩=>⟨o,xs,m,kp _ _ h1,h2⟩;have dict_to:∀{s s':X8} {xs:List KQ},Moved wr G s s'->(∀b o,h0.get? b=some o->s'.heap.get? b=some o)->(∀x∈xs,(VH (zP prog w)).is h0 x.1 x.2.1)->s.heap.DictOfH (VH (zP prog w)) D xs->s'.heap.DictOfH (VH (zP prog w)) D xs :=
  fun hm kp hk ⟨o,es,ep,e1,e2,e3,e4,_,e6⟩=>⟨o,es,ep,hm.heap D _ hDw e1,e2,e3,e4,fun x hx=>key_up kp (hk x hx),e6⟩
 have keep_to:∀{s s':X8},Moved wr G s s'->(∀b o,h0.get? b=some o->s.heap.get? b=some o)->∀b o,h0.get? b=some o->s'.heap.get? b=some o:=fun hm kp b o e =>
  hm.heap b o (fun hb=>by
   rw[hw0 b hb] at e;cases e) (kp b o e)
 have keys0:∀i,∀x∈putAll (ks.take i),(VH (zP prog w)).is h0 x.1 x.2.1:=fun i=>zat (fun a b=>(VH (zP prog w)).is h0 a b) _ [] (fun x hx=>nomatch hx) fun x hx=>hks x (V1 hx);intro k;induction k with
 | zero =>
  intro i s hk hi hst kp hS hR;have hin:i=n:=by lia
  subst hin;refine VI Qo ?_;rw[V0 xG _];show Xo _ A.in1 (R4 (.ref I) >>= _) _ _ s;refine ZB (W.done s _ _ hst fun s' hm=>?_);show Xo _ A.in1 (Builtin.Dict.addKeywords D [] >>= fun _=>ret Value.none) _ _ s';refine ZB (XY (XY (hR s' (hm.mono more) ?_)));have:=dict_to hm (keep_to hm kp) (keys0 _) hS;rw[<- hlen,Xq] at this;exact this
 | succ k ih =>
  intro i s hk hi hst kp hS hR;have hlt:i<n:=by lia
  refine VI Qo ?_;rw[V0 xG _];show Xo _ A.in1 (R4 (.ref I) >>= _) _ _ s;refine ZB (W.item i s _ _ hlt hst fun v s' hPv hst' hm=>?_);obtain⟨ta,q,rfl,hq,ht⟩:=hP i v hPv;have kp':=keep_to hm kp;have hS':=dict_to hm kp' (keys0 _) hS;have l1:=za8 (ks.take i);have l2:(ks.take i).length<=n:=by
   rw[XD];lia
  have tk:ks.take (i+1)=ks.take i++[q]:=by
   rw[Xm,hq];rfl
  refine ZB (WN (ZB (wpAny_tryCatch (zds (tup_up kp' ht) ?_))));refine WN (wpAny_dictSet_heap (show A.in1.units<U0 from hu) (key_up kp' (hks q (X0 hq))) hS' (fun h' hd' hs'=>?_) (by lia));have kp2:∀b o,h0.get? b=some o->h'.get? b=some o:=fun b o e=>by
   rw[hs'.2 b (fun z=>by
    rw[z,hD0] at e;cases e)]
   exact kp' b o e
  have d2:h'.DictOfH (VH (zP prog w)) D (putAll (ks.take (i+1))):=by
   rw[tk,putAll_snoc];exact hd'
  refine XY ⟨UF xG _,?_⟩;show UR _ A (.builtin "dict.update.loop" ⟨[.ref D,.ref I,Ut ((i:Int)+1),.none],[]⟩) R _;rw[show ((i:Int)+1)=((i+1:Nat):Int) by lia];refine ih (i+1) _ (by lia) hlt (W.frame _ s' _ _ hst' (TM _ _) fun b hb o e=>?_) kp2 d2 fun s'' hm'' hS''=>?_
  ·rw[hs'.2 b (fun z=>hDf (by rw[<- z];exact hb))];exact e
  ·refine hR s'' (Moved.trans W.gtrans ((hm.mono more).then_heap (TM _ _) fun b o hb e=>?_) hm'') hS'';rw[hs'.2 b (fun z=>hb (by rw[z];exact XU))];exact e
end
def znD (H:Hp)(v:V)(kv:List Key×V):Prop:=∃a b,v=V.ref a/\H a=some (.tup [.ref b,kv.2])/\H b=some (.tup (kv.1.map kV))
def jV (H:Hp):List V->List (List Key×V)->Prop:=W9 (znD H)
theorem jV.mono {H H':Hp}(s:zq H H'){vs:List V}{kvs:List (List Key×V)}(hp:jV H vs kvs):jV H' vs kvs:=by
 induction hp with
 | nil=>exact .nil
 | cons q _ ih =>
  obtain⟨a,b,e,h1,h2⟩:=q;exact .cons ⟨a,b,e,s _ _ h1,s _ _ h2⟩ ih
def YK (kvs:List (List Key×V)):List (List Key×V):=kvs.foldl (fun acc kv=>putK acc kv.1 kv.2) []
theorem KT.puts {H:Hp}{kvs:List (List Key×V)}{ks:List KQ}{acc:List (List Key×V)}{xs:List KQ}(hp:KT H kvs ks)(r:KT H acc xs):KT H (kvs.foldl (fun acc kv=>putK acc kv.1 kv.2) acc) (ks.foldl (fun acc q=>Sy acc q.1 q.2.1 q.2.2) xs):=by
 induction hp generalizing acc xs with
 | nil=>exact r
 | cons q _ ih =>
  obtain⟨h1,h2,h3⟩:=q;rw[VT,VT];refine ih ?_;rw[<- h1];exact r.put _ h2 h3
theorem zky {P:Xl}{w:W3}{H:Hp}{h:Heap}(ok:HOk P w H h){kvs:List (List Key×V)}{ks:List KQ}(hp:KT H kvs ks):∀x∈ks,(VH (zP P w)).is h x.1 x.2.1:=by
 induction hp with
 | nil=>exact fun x hx=>nomatch hx
 | cons q _ ih =>
  intro x hx;rcases XR.mp hx with e | hx
  ·subst e;exact zdr ok (by rw[<- q.1];exact q.2.1)
  ·exact ih x hx
theorem zkz {P:Xl}{w:W3}{H:Hp}{h:Heap}(ok:HOk P w H h){vs:List V}{kvs:List (List Key×V)}{its:List X9}(hp:jV H vs kvs)(hv:Vals vs its):∃ks:List KQ,KT H kvs ks/\ks.length=its.length/\(∀(i:Nat) (v:X9),its[i]?=some v->∃(ta:Addr) (q:KQ),v=WJ ta/\ks[i]?=some q/\Ox h ta #[.ref q.2.1,q.2.2]):=by
 induction hp generalizing its with
 | nil =>
  cases hv;exact⟨[],.nil,rfl,fun i v e=>by simp at e⟩
 | @cons x kv xs ys q _ ih =>
  obtain⟨a,b,e,h1,h2⟩:=q;cases hv with
  | cons rv rs =>
  obtain⟨ks,k1,k2,k3⟩:=ih rs;subst e;cases rv;obtain⟨_,xs,r,tp⟩:=(show qM P w H h a (.tup [.ref b,kv.2]) from ok a _ h1);obtain⟨u,u2,rfl,ru,ru2⟩:=vals2 r;cases ru;refine⟨(kv.1,b,u2)::ks,.cons ⟨rfl,h2,ru2⟩ k1,by rw[Xp,Xp,k2],fun i v e=>?_⟩;cases i with
  | zero =>
   have e':WJ a=v:=by simpa using e
   exact⟨a,_,e'.symm,rfl,tp⟩
  | succ i =>
   obtain⟨ta,q,h1,h2,h3⟩:=k3 i v (by simpa using e);exact⟨ta,q,h1,by simpa using h2,h3⟩
section
variable {X:Cx}
set_option maxHeartbeats 8000000 in
theorem ZL (hu:X.A.units+64<U0)(hh:X.A.handled=none):jR X (.type "dict") (fun xs H Q=>∃l us kvs,xs=[.ref l]/\H l=some (.lst us)/\jV H us kvs/\∀d,H d=none->Q (.ref d) (upd H d (.dT (YK kvs)))):=by
 intro pins s σ H xs us' Q I r h;obtain⟨l,us,kvs,rfl,hl,hp,q⟩:=h;obtain⟨u,rfl,ru⟩:=vals1 r;cases ru;obtain⟨hz,its,n,rv,e⟩:=(show qM X.prog X.w H s.heap l (.lst us) from I.hok l _ hl);obtain⟨ks,hkt,hkl,hraw⟩:=zkz I.hok hp rv;have big:=I.big;have hil:its.length<=XC:=by
  rw[<- rv.length];exact hz
 have hks:=zky I.hok hkt;refine callType_codes (Q₁:=fun obj s₁=>obj=.ref s.heap.objs.size/\s₁={ s with heap:=s.heap.push { cls:=.type "dict",data:=.dict #[] } }) PySem.F.kt_called_dict (PySem.F.kt_typeCall_dict_1 _) PySem.F.entry_dict_init (kt_code_dict_new _ ⟨rfl,rfl⟩) ?_;rintro obj s₁ ⟨rfl,rfl⟩;have hnew:(s.heap.push { cls:=.type "dict",data:=.dict #[] }).DictOfH (VH (zP X.prog X.w)) s.heap.objs.size []:=Heap.DictOfH.new s.heap;have e1:(s.heap.push { cls:=.type "dict",data:=.dict #[] }).get? l=some { cls:=.type "list",dict:=none,data:=.seq its.toArray n,slots:=#[] }:=X7 _ e;refine⟨hnew.typeIs,PySem.F.args_dict_init_2 _ _,?_⟩;unfold UQ.«dict.__init__»;refine ZB ?_;unfold Builtin.Dict.selfAndRest;refine ZB (wpAny_notOrdered_dict hnew.typeIs ?_);show Xo _ _ (pure (s.heap.objs.size,[WJ l])) _ _ _;refine XY ?_;show Xo _ _ (Ra "dict.__init__" s.heap.objs.size (.ref l) [] .none) _ _ _;unfold Ra;have hT:Sv { s with heap:=s.heap.push { cls:=.type "dict",data:=.dict #[] } } (.ref l) "list":=⟨_,e1,rfl⟩;refine ZB (P7 hT ?_);rw[if_pos (by decide)];refine ZB (zkx e1 (by simp[hh]) fun h2 t2 kp=>?_);rw[if_pos (show (none:Option X9).isNone=true from rfl)];have kp0:∀b o',s.heap.get? b=some o'->h2.get? b=some o':=fun b o' z=>kp b o' (X7 _ z);have hl2:h2.IsList l its.toArray:=⟨_,kp _ _ e1,rfl,n,rfl⟩;refine ZB (UG (ZB (SV hl2 ?_)));have hls:l<s.heap.objs.size:=XQ e;have hDl:s.heap.objs.size<h2.objs.size:=by
  obtain⟨o,_,_,ho,_⟩:=hnew;exact XQ (kp _ _ ho)
 have hneI:l≠h2.objs.size:=XA (R9 hls hDl);have hDf:s.heap.objs.size ∉ [h2.objs.size,l]:=by
  simp only[XR,Vf,or_false,not_or];exact⟨XA hDl,Uq hls⟩
 refine XY ⟨UF xG _,?_⟩;have hd2:(h2.push { cls:=.type "list_iterator",data:=.fields #[.ref l,.int 0 0] }).DictOfH (VH (zP X.prog X.w)) s.heap.objs.size []:=by
  obtain⟨o,es,ep,ho,h3,h4,h5,_,h6⟩:=hnew;exact⟨o,es,ep,X7 _ (kp _ _ ho),h3,h4,h5,(fun x hx=>nomatch hx),h6⟩
 refine zfH (h0:=s.heap) ((Walks.list (by simp[hh]) h2.objs.size l hneI its.toArray).toS) s.heap.objs.size hDf (UJ (XW _)) (fun b hb=>?_) ks (by rw[hkl];simp) (by simpa using hil) (by show X.A.units+1+1<U0;lia) hks (fun i v hv=>hraw i v (by rw[<- hv];simp)) _ 0 _ rfl (W1 _)
  ⟨⟨_,Xb _ rfl,rfl,rfl⟩,hl2.push _⟩ (fun b o z=>X7 _ (kp0 b o z)) hd2 ?_
 ·have e:b=h2.objs.size:=by simpa using hb
  rw[e];exact UJ (S4 hDl)
 ·intro s' hm hS';obtain⟨h',g',d',tk',os'⟩:=s';have eg:g'=s.gens:=hm.gens;have ed:d'=s.drawn:=hm.drawn;have eo:os'=s.os:=hm.os;subst eg;subst ed;subst eo;have kp3:∀b o',s.heap.get? b=some o'->h'.get? b=some o':=fun b o' z=>by
   have lt:=XQ z;refine hm.heap b o' (fun hb=>?_) (X7 _ (kp0 b o' z));rcases XR.mp hb with e | hb
   ·exact Wq _ (e ▸ lt)
   ·have e:b=h2.objs.size:=by simpa using hb
    rw[e] at lt;exact Wq _ (R9 lt hDl)
  obtain⟨o,es,ep,ho,h3,h4,h5,_,h6⟩:=hS';have hkk:KT H (YK kvs) (putAll ks):=KT.puts hkt .nil;have hfresh:H s.heap.objs.size=none:=I.hok.fresh (XW _);refine⟨rfl,.ref s.heap.objs.size,_,I.laid (a:=s.heap.objs.size) (o:=.dT (YK kvs)) (t':=tk') kp3 (XW _) ⟨?_,beq_eq_false_iff_ne.mpr (Vy (XA big)),_,KT.keeps hkk fun b ys hb=>?_,o,es,ep,ho,h3,h4,h5,h6⟩,rfl,q _ hfresh⟩
  ·rw[Paired.length hkk];exact XV (za8 ks) (by rw[hkl];exact hil)
  ·rw[zj (zk hb hfresh)];exact hb
end
theorem u1 {A:PySem.Around}(h:A.units+64<PySem.cLine):A.units+1<PySem.cLine:=by lia
section
variable {K:X6}{g:TG}{tc:TT}{te:TE}{Q:VK}{σ0:St}{D:Addr}
theorem ziJ {l1 l2:Addr}{xs ys:List V}(Pv:Nat->St->Hp->Prop){H:Hp}(he:xs.length=ys.length)(h0:Pv 0 σ0 H)(hl:∀i σ H,i<=xs.length->Pv i σ H->SqL K H l1 xs/\SqL K H l2 ys)
  (hs:∀i x y T σ H,xs[i]?=some x->ys[i]?=some y->H T=none->Pv i σ H->g (.ref T) σ (upd H T (.tup [x,y])) fun σ2 H3=>tc σ2 H3 fun b H4=>if b=true then te σ2 H4 fun y H5=>∃zs,H5 D=some (.lst zs)/\zs.length<XC/\Pv (i+1) σ2 (upd H5 D (.lst (zs++[y]))) else Pv (i+1) σ2 H4)
  (hd:∀ σ H,Pv xs.length σ H->Q (.ref D) H):yQ (Itz K l1 l2) g tc te Q D σ0 H:=by
 refine⟨fun i m σ H=>m=xs.length-i/\i<=xs.length/\Pv i σ H,⟨xs.length,by simp,W1 _,h0⟩,?_⟩;rintro i m σ H ⟨rfl,hi,p⟩;obtain⟨q1,q2⟩:=hl i σ H hi p;by_cases hlt:i<xs.length
 ·refine .inr ⟨⟨xs,ys,q1,q2,hlt,by lia⟩,Pv (i+1),fun σ' H' p'=>⟨xs.length-(i+1),by lia,rfl,hlt,p'⟩,fun x H' y=>?_⟩;obtain⟨T,rfl,hT,y⟩:=y;obtain⟨v,v',hv,hv',rfl⟩:=y xs ys q1 q2;exact hs i v v' T σ H hv hv' hT p
 ·have e:i=xs.length:=by lia
  subst e;exact .inl ⟨⟨xs,ys,q1,q2,by lia⟩,hd σ H p⟩
end
theorem jV.into {H:Hp}(z:Addr)(o:HO){old:List V}(hz:H z=some (.lst old)):∀{vs:List V} {kvs:List (List Key×V)},jV H vs kvs->jV (upd H z o) vs kvs
 | _,_,.nil=>.nil
 | _,_,.cons ⟨a,b,e,h1,h2⟩ t=>.cons ⟨a,b,e,by rw[zj (zd0 h1 hz (by intro y;cases y))];exact h1,by rw[zj (zd0 h2 hz (by intro y;cases y))];exact h2⟩ (jV.into z o hz t)
theorem jV.snoc {H:Hp}{vs:List V}{kvs:List (List Key×V)}{v:V}{kv:List Key×V}(h:jV H vs kvs)(x:znD H v kv):jV H (vs++[v]) (kvs++[kv]):=Paired.snoc h x
theorem jV.length {H:Hp}{vs:List V}{kvs:List (List Key×V)}(h:jV H vs kvs):vs.length=kvs.length:=Paired.length h
theorem Q4 {v:V}{k:List Key}:∀(ks:List (List Key)) (acc:List (List Key×V)),(k∈ks\/yS acc k=some v)->yS ((ks.map fun x=>(x,v)).foldl (fun acc kv=>putK acc kv.1 kv.2) acc) k=some v
 | [],acc,h=>by
  rcases h with h | h
  ·cases h
  ·exact h
 | x::r,acc,h=>by
  rw[Xs,VT];refine Q4 r _ ?_;rw[zej];by_cases e:k=x
  ·rw[if_pos e];exact .inr rfl
  ·rw[if_neg e];rcases h with h | h
   ·rcases XR.mp h with h | h
    ·exact absurd h e
    ·exact .inl h
   ·exact .inr h
section
variable {prog:Xl}{w:W3}{A:WW}{E:X9->X8->Prop}{s:X8}{d o a:Addr}{xs ys:List KQ}{k:List Key}{v:X9}
abbrev tk2 (prog:Xl)(w:W3):HeapKind prog w (List Key):=VH (zP prog w)
end
def HH (i j:Nat):Int:=reduceHash (Builtin.Tuple.tupleHashOf [hashInt (i:Int),hashInt (j:Int)])
theorem Qp (prog:Xl)(w:W3)(i j:Nat):(tk2 prog w).hash [.inl ((i:Nat):Int),.inl ((j:Nat):Int)]=HH i j:=by
 show tupleKeyHash (zP prog w) [.inl ((i:Nat):Int),.inl ((j:Nat):Int)]=HH i j;unfold tupleKeyHash HH;rw[Xs,Xs,OL];have e:∀n:Nat,(zP prog w).hash (.inl ((n:Nat):Int))=hashInt ((n:Nat):Int):=fun n=>by
  show zlL w (.inl ((n:Nat):Int))=_;unfold zlL;with_reducible rfl
 rw[e,e]
theorem zml:(WO 64).all fun n=>(WO 64).all fun m=>decide (HH (n/8) (n%8)=HH (m/8) (m%8))==decide (n=m):=by decide +kernel
theorem ziK {i j i' j':Nat}(h1:i<8)(h2:j<8)(h3:i'<8)(h4:j'<8)(e:HH i j=HH i' j'):i=i'/\j=j':=by
 have h:=zml;rw[WD] at h;have a:=h (8*i+j) (Wv.mpr (by lia));rw[WD] at a;have b:=a (8*i'+j') (Wv.mpr (by lia));rw[show (8*i+j)/8=i by lia,show (8*i+j)%8=j by lia,show (8*i'+j')/8=i' by lia,show (8*i'+j')%8=j' by lia,decide_eq_true e] at b;have c:decide (8*i+j=8*i'+j')=true:=by simpa using b
 have d:=of_decide_eq_true c;lia
section
variable {X:Cx}
end
section
variable {X:Cx}
end
section
variable {prog:Xl}{w:W3}{A:WW}{E:X9->X8->Prop}{s:X8}{a b:Addr}{H:Hp}{kvs:List (List Key×V)}{ka kb:List KQ}
end
section
variable {X:Cx}
end
section
variable {prog:Xl}{w:W3}{A:WW}{E:X9->X8->Prop}{s:X8}{d it:Addr}{od:Obj}{es:Array DictEntry}{ep i:Nat}
end
section
variable {X:Cx}{tg:Expr}
end
open PySem
namespace ST
def run (mask i:Nat):List Nat:=(WO (Vw mask i+1-i)).map (i + ·)
def walk (mask:Nat):Nat->Nat->Nat->List Nat
 | 0,_,_=>[]
 | f+1,i,p=>run mask i++walk mask f (Vc mask i p).1 (Vc mask i p).2
theorem zkA (mask i:Nat):1<=(run mask i).length/\(run mask i).length<=10:=by
 unfold run Vw;rw[Y1,Wz];split<;>lia
theorem za9 (mask:Nat):∀f i p,(walk mask f i p).length<=10*f
 | 0,_,_=>XW _
 | f+1,i,p=>by
  rw[walk,XZ];have:=(zkA mask i).2;have:=za9 mask f (Vc mask i p).1 (Vc mask i p).2;lia
def steps (t:Wr):Nat->RX->RX
 | 0,p=>p
 | n+1,p=>steps t n (t.advance p)
theorem Q5 (t:Wr):∀n m p,steps t (n+m) p=steps t m (steps t n p)
 | 0,m,p=>by rw[VM];rfl
 | n+1,m,p=>by
  rw[show n+1+m=(n+m)+1 from by lia];exact Q5 t n m (t.advance p)
theorem Q6 (t:Wr)(i pt:Nat)(dm:Option Nat):∀(d r j:Nat),d<=r->steps t d { j:=j,more:=r,i:=i,perturb:=pt,dummy:=dm }={ j:=j+d,more:=r-d,i:=i,perturb:=pt,dummy:=dm }
 | 0,r,j,_=>rfl
 | d+1,r,j,h=>by
  have e:t.advance { j:=j,more:=r,i:=i,perturb:=pt,dummy:=dm }={ j:=j+1,more:=r-1,i:=i,perturb:=pt,dummy:=dm }:=by
   unfold Re;rw[if_pos (by show r>0;lia)]
  show steps t d (t.advance _)=_;rw[e,Q6 t i pt dm d (r-1) (j+1) (by lia)];congr 1<;>lia
def Yr (mask i pt:Nat)(dm:Option Nat):RX:={ j:=i,more:=Vw mask i-i,i:=i,perturb:=pt,dummy:=dm }
theorem Q7 (mask i:Nat):i<=Vw mask i:=by
 unfold Vw;split<;>lia
theorem zfI (t:Wr)(i pt:Nat)(dm:Option Nat):steps t (run t.mask i).length (Yr t.mask i pt dm)=Yr t.mask (Vc t.mask i pt).1 (Vc t.mask i pt).2 dm:=by
 have hl:(run t.mask i).length=(Vw t.mask i-i)+1:=by
  unfold run;rw[Y1,Wz];have:=Q7 t.mask i;lia
 rw[hl,Q5];unfold Yr;rw[Q6 t i pt dm _ _ _ (XW _),TU];rw[steps,steps];unfold Re;rw[if_neg (by show ¬ 0>0;lia)]
theorem xW (t:Wr):∀(f i pt:Nat) (dm:Option Nat) (n:Nat) (j:Nat),(walk t.mask f i pt)[n]?=some j->(steps t n (Yr t.mask i pt dm)).j=j
 | 0,_,_,_,_,_,h=>by simp[walk] at h
 | f+1,i,pt,dm,n,j,h=>by
  rw[walk] at h;by_cases hn:n<(run t.mask i).length
  ·rw[VZ hn] at h;unfold run at h;rw[Xn,U3 (by unfold run at hn;simpa using hn)] at h;have hl:(run t.mask i).length=(Vw t.mask i-i)+1:=by
    unfold run;rw[Y1,Wz];have:=Q7 t.mask i;lia
   unfold Yr;rw[Q6 t i pt dm n _ _ (by lia)];exact Option.some.inj h
  ·rw[Ws (by lia)] at h;have e:n=(run t.mask i).length+(n-(run t.mask i).length):=by lia
   rw[e,Q5,zfI];exact xW t f _ _ dm _ j h
theorem zdu (t:Wr)(Vr:Nat->Int)(h:Int):∀(n F:Nat) (p:RX),(∀k,k<n->∃i,t.slot (steps t k p).j=.live i/\(Vr i==h)=false)->n<=F->T6 t Vr h F p=T6 t Vr h (F-n) (steps t n p)
 | 0,F,p,_,_=>rfl
 | n+1,F,p,hk,hF=>by
  obtain⟨F',rfl⟩:∃F',F=F'+1:=⟨F-1,by lia⟩;obtain⟨i,h1,h2⟩:=hk 0 (by lia);have h1':t.slot p.j=.live i:=h1;rw[T6,h1'];show (if (Vr i==h)=true then _ else _)=_;rw[if_neg (by rw[h2];decide),zdu t Vr h n F' (t.advance p) (fun k hk'=>hk (k+1) (by lia)) (by lia),Nat.add_sub_add_right];rfl
def Up (xs:Array Nat):Prop:=∀i j,i<j->j<xs.size->xs.getD i 0<xs.getD j 0
theorem ziL {xs:Array Nat}(U:Up xs)(j:Nat):∀(f lo hi:Nat),hi-lo<=f->lo<=hi->hi<=xs.size->(∀i,i<lo->xs.getD i 0<j)->(∀i,hi<=i->i<xs.size->j<=xs.getD i 0) ->
  Vm xs j f lo hi<=xs.size/\(∀i,i<Vm xs j f lo hi->xs.getD i 0<j)/\(∀i,Vm xs j f lo hi<=i->i<xs.size->j<=xs.getD i 0):=by
 intro f;induction f with
 | zero =>
  intro lo hi hf hl hs h1 h2;have:lo=hi:=by lia
  subst this;exact⟨hs,h1,h2⟩
 | succ f ih =>
  intro lo hi hf hl hs h1 h2;by_cases hlt:lo<hi
  ·have hm:(lo+hi)/2<hi:=by lia
   have hm2:lo<=(lo+hi)/2:=by lia
   have hms:(lo+hi)/2<xs.size:=by lia
   have e:xs.getD ((lo+hi)/2) j=xs.getD ((lo+hi)/2) 0:=by
    simp[Ti,hms]
   have e2:Vm xs j (f+1) lo hi=if xs.getD ((lo+hi)/2) 0<j then Vm xs j f ((lo+hi)/2+1) hi else Vm xs j f lo ((lo+hi)/2):=by
    rw[Vm,if_pos hlt];show (if xs.getD ((lo+hi)/2) j<j then _ else _)=_;rw[e]
   by_cases hx:xs.getD ((lo+hi)/2) 0<j
   ·rw[e2,if_pos hx];refine ih ((lo+hi)/2+1) hi (by lia) (by lia) hs (fun i hi'=>?_) h2;by_cases he:i=(lo+hi)/2
    ·rw[he];exact hx
    ·exact R9 (U i ((lo+hi)/2) (by lia) hms) hx
   ·rw[e2,if_neg hx];refine ih lo ((lo+hi)/2) (by lia) (by lia) (by lia) h1 (fun i hi' hi2=>?_);by_cases he:i=(lo+hi)/2
    ·rw[he];lia
    ·have:=U ((lo+hi)/2) i (by lia) hi2;lia
  ·rw[Vm,if_neg hlt];have:lo=hi:=by lia
   subst this;exact⟨hs,h1,h2⟩
theorem JQ {xs:Array Nat}(U:Up xs)(j:Nat):Xz xs j<=xs.size/\(∀i,i<Xz xs j->xs.getD i 0<j)/\(∀i,Xz xs j<=i->i<xs.size->j<=xs.getD i 0) :=
 ziL U j xs.size 0 xs.size (by lia) (W1 _) (XW _) (fun _ h=>absurd h (Tl _)) (fun i h1 h2=>absurd h2 (by lia))
theorem xX {xs:Array Nat}{i:Nat}(h:i<xs.size):xs[i]?=some (xs.getD i 0):=by
 simp[Ti,h]
theorem JR {t:Wr}(U:Up t.place){i:Nat}(hi:i<t.place.size):t.slot (t.place.getD i 0)=.live i:=by
 have b:=JQ U (t.place.getD i 0);have e:Xz t.place (t.place.getD i 0)=i:=by
  rcases RB (Xz t.place (t.place.getD i 0)) i with h | h | h
  ·have h1:=b.2.2 _ (XW _) (by lia);have h2:=U _ i h hi;lia
  ·exact h
  ·have:=b.2.1 i h;lia
 unfold SetTable.slot;simp only[e,xX hi];rw[if_pos (by simp)]
theorem slot_of {t:Wr}(U:Up t.place)(hd:t.dummies=#[])(j:Nat):(∃i,i<t.place.size/\t.place.getD i 0=j/\t.slot j=.live i)\/(t.slot j=.empty/\∀i,i<t.place.size->t.place.getD i 0≠j):=by
 by_cases h:∃i,i<t.place.size/\t.place.getD i 0=j
 ·obtain⟨i,hi,rfl⟩:=h;exact .inl ⟨i,hi,rfl,JR U hi⟩
 ·have hn:∀i,i<t.place.size->t.place.getD i 0≠j:=fun i hi e=>h ⟨i,hi,e⟩;refine .inr ⟨?_,hn⟩;unfold SetTable.slot;have h1:¬ ((t.place[Xz t.place j]?==some j)=true):=fun z=>by
   have z':t.place[Xz t.place j]?=some j:=by simpa using z
   have hl:Xz t.place j<t.place.size:=by
    rcases S2 (Xz t.place j) t.place.size with q | q
    ·exact q
    ·rw[WK q] at z';cases z'
   rw[xX hl] at z';exact hn _ hl (Option.some.inj z')
  simp only[];rw[if_neg h1,hd];rfl
def Reach (t:Wr)(h:Int)(j:Nat):Prop:=∃n:Nat,(walk t.mask (W8 t.mask) (XG h%(t.mask+1)) (XG h))[n]?=some j/\∀k:Nat,k<n->∀j',(walk t.mask (W8 t.mask) (XG h%(t.mask+1)) (XG h))[k]?=some j'->∃i,i<t.place.size/\t.place.getD i 0=j'
theorem Qq (t:Wr)(h:Int):t.probeStart h=Yr t.mask (XG h%(t.mask+1)) (XG h) none:=rfl
theorem zem (t:Wr):∀n p,(steps t n p).dummy=p.dummy
 | 0,_=>rfl
 | n+1,p=>by
  rw[steps,zem t n];unfold Re;split<;>rfl
theorem zen {t:Wr}(U:Up t.place)(Vr:Nat->Int){h:Int}{i:Nat}(hi:i<t.place.size)(eh:Vr i=h)(one:∀i',i'<t.place.size->Vr i'=h->i'=i)(R:Reach t h (t.place.getD i 0)):∃nx,t.probe Vr h (t.probeStart h)=some (.candidate (t.place.getD i 0) i nx):=by
 obtain⟨n,hn,hk⟩:=R;have hlen:=(X2.mp hn).1;have wl:=za9 t.mask (W8 t.mask) (XG h%(t.mask+1)) (XG h);have key:∀m:Nat,m<=n->(∀k,k<m->∃i',t.slot (steps t k (t.probeStart h)).j=.live i'/\(Vr i'==h)=false)\/∃m',m'<m/\(∀k,k<m'->∃i',t.slot (steps t k (t.probeStart h)).j=.live i'/\(Vr i'==h)=false)/\t.slot (steps t m' (t.probeStart h)).j=.live i/\(steps t m' (t.probeStart h)).j=t.place.getD i 0:=fun m=>by
  induction m with
  | zero=>exact fun _=>.inl fun k hk=>absurd hk (Tl _)
  | succ m ih =>
   intro hm;rcases ih (by lia) with h1 | ⟨m',a,b⟩
   ·have hw:∃j',(walk t.mask (W8 t.mask) (XG h%(t.mask+1)) (XG h))[m]?=some j':=⟨_,X4 (by lia)⟩;obtain⟨j',hj'⟩:=hw;obtain⟨i',hi',ei'⟩:=hk m (by lia) j' hj';have ej:(steps t m (t.probeStart h)).j=j':=by
     rw[Qq];exact xW t _ _ _ none m j' hj'
    have sl:t.slot (steps t m (t.probeStart h)).j=.live i':=by
     rw[ej,<- ei'];exact JR U hi'
    by_cases he:Vr i'=h
    ·have:=one i' hi' he;subst this;exact .inr ⟨m,by lia,h1,sl,by rw[ej,ei']⟩
    ·refine .inl fun k hk'=>?_;by_cases hkm:k=m
     ·subst hkm;exact⟨i',sl,by simpa using he⟩
     ·exact h1 k (by lia)
   ·exact .inr ⟨m',by lia,b⟩
 have fin:∀m:Nat,m<10*W8 t.mask->(∀k,k<m->∃i',t.slot (steps t k (t.probeStart h)).j=.live i'/\(Vr i'==h)=false)->t.slot (steps t m (t.probeStart h)).j=.live i->(steps t m (t.probeStart h)).j=t.place.getD i 0->∃nx,t.probe Vr h (t.probeStart h)=some (.candidate (t.place.getD i 0) i nx):=fun m hm hp sl ej=>by
  unfold SetTable.probe;rw[zdu t Vr h m _ _ hp (by lia)];obtain⟨F',hF⟩:∃F',10*W8 t.mask-m=F'+1:=⟨10*W8 t.mask-m-1,by lia⟩;rw[hF,T6,sl];simp only[];rw[if_pos (by simpa using eh),ej];exact⟨_,rfl⟩
 rcases key n (XW _) with h1 | ⟨m',a,b,c,d⟩
 ·have ej:(steps t n (t.probeStart h)).j=t.place.getD i 0:=by
   rw[Qq];exact xW t _ _ _ none n _ hn
  exact fin n (by lia) h1 (by rw[ej];exact JR U hi) ej
 ·exact fin m' (by lia) b c d
theorem zdv {t:Wr}(U:Up t.place)(hd:t.dummies=#[])(Vr:Nat->Int){h:Int}(no:∀i,i<t.place.size->Vr i≠h){e:Nat}(he:∀i,i<t.place.size->t.place.getD i 0≠e)(hw:e∈walk t.mask (W8 t.mask) (XG h%(t.mask+1)) (XG h)) :
  ∃j,t.probe Vr h (t.probeStart h)=some (.empty j none)/\t.slot j=.empty/\Reach t h j/\j∈walk t.mask (W8 t.mask) (XG h%(t.mask+1)) (XG h):=by
 obtain⟨N,hN⟩:=PF.mp hw;have hlen:=(X2.mp hN).1;have wl:=za9 t.mask (W8 t.mask) (XG h%(t.mask+1)) (XG h);have key:∀m:Nat,m<=N+1->(∀k:Nat,k<m->∀j',(walk t.mask (W8 t.mask) (XG h%(t.mask+1)) (XG h))[k]?=some j'->∃i,i<t.place.size/\t.place.getD i 0=j')\/∃m' j:Nat,m'<m/\(walk t.mask (W8 t.mask) (XG h%(t.mask+1)) (XG h))[m']?=some j/\t.slot j=.empty/\(∀k:Nat,k<m'->∀j',(walk t.mask (W8 t.mask) (XG h%(t.mask+1)) (XG h))[k]?=some j'->∃i,i<t.place.size/\t.place.getD i 0=j'):=fun m=>by
  induction m with
  | zero=>exact fun _=>.inl fun k hk=>absurd hk (Tl _)
  | succ m ih =>
   intro hm;rcases ih (by lia) with h1 | ⟨m',j,a,b⟩
   ·obtain⟨j',hj'⟩:∃j',(walk t.mask (W8 t.mask) (XG h%(t.mask+1)) (XG h))[m]?=some j':=⟨_,X4 (by lia)⟩;rcases slot_of U hd j' with ⟨i,hi,ei,_⟩ | ⟨se,_⟩
    ·refine .inl fun k hk' j2 hj2=>?_;by_cases hkm:k=m
     ·subst hkm;rw[hj'] at hj2;exact⟨i,hi,by rw[ei];exact Option.some.inj hj2⟩
     ·exact h1 k (by lia) j2 hj2
    ·exact .inr ⟨m,j',by lia,hj',se,h1⟩
   ·exact .inr ⟨m',j,by lia,b⟩
 rcases key (N+1) (XW _) with h1 | ⟨m',j,a,b,c,d⟩
 ·obtain⟨i,hi,ei⟩:=h1 N (by lia) e hN;exact absurd ei (he i hi)
 ·refine⟨j,?_,c,⟨m',b,d⟩,X0 b⟩;have ej:(steps t m' (t.probeStart h)).j=j:=by
   rw[Qq];exact xW t _ _ _ none m' j b
  have hp:∀k,k<m'->∃i',t.slot (steps t k (t.probeStart h)).j=.live i'/\(Vr i'==h)=false:=fun k hk=>by
   obtain⟨j',hj'⟩:∃j',(walk t.mask (W8 t.mask) (XG h%(t.mask+1)) (XG h))[k]?=some j':=⟨_,X4 (by lia)⟩;obtain⟨i,hi,ei⟩:=d k hk j' hj';refine⟨i,?_,by simpa using no i hi⟩;have:(steps t k (t.probeStart h)).j=j':=by
    rw[Qq];exact xW t _ _ _ none k j' hj'
   rw[this,<- ei];exact JR U hi
  unfold SetTable.probe;rw[zdu t Vr h m' _ _ hp (by lia)];obtain⟨F',hF⟩:∃F',10*W8 t.mask-m'=F'+1:=⟨10*W8 t.mask-m'-1,by lia⟩;rw[hF,T6,ej,c];simp only[zem];rfl
def orb (m:Nat):Nat->Nat->Nat
 | 0,i=>i
 | n+1,i=>orb m n ((i*5+1)%m)
def zhB (m:Nat):Nat->Nat->List Nat
 | 0,_=>[]
 | n+1,i=>i::zhB m n ((i*5+1)%m)
theorem zba (m:Nat):∀(n i e:Nat),e∈zhB m n i->∃k,k<n/\orb m k i=e
 | 0,_,_,h=>nomatch h
 | n+1,i,e,h=>by
  rcases XR.mp h with rfl | h
  ·exact⟨0,S1 _,rfl⟩
  ·obtain⟨k,hk,q⟩:=zba m n _ e h;exact⟨k+1,by lia,q⟩
theorem zaN (m:Nat):∀a b i,orb m (a+b) i=orb m b (orb m a i)
 | 0,b,i=>by rw[VM];rfl
 | a+1,b,i=>by
  rw[show a+1+b=(a+b)+1 from by lia];exact zaN m a b _
theorem full {m:Nat}(h1:∀e,e<m->e∈zhB m m 0)(h2:orb m m 0=0){i e:Nat}(hi:i<m)(he:e<m):∃k,k<m+1/\orb m k i=e:=by
 obtain⟨a,ha,ea⟩:=zba m m 0 i (h1 i hi);obtain⟨b,hb,eb⟩:=zba m m 0 e (h1 e he);rcases S2 b a with q | q
 ·refine⟨m-a+b,by lia,?_⟩;rw[<- ea,<- zaN,show a+(m-a+b)=m+b from by lia,zaN,h2,eb]
 ·refine⟨b-a,by lia,?_⟩;rw[<- ea,<- zaN,show a+(b-a)=b from by lia,eb]
theorem zlw:(∀e,e<8->e∈zhB 8 8 0)/\orb 8 8 0=0:=by decide +kernel
theorem ziM:(∀e,e<32->e∈zhB 32 32 0)/\orb 32 32 0=0:=by decide +kernel
theorem zgF:(∀e,e<128->e∈zhB 128 128 0)/\orb 128 128 0=0:=by decide +kernel
def JS (mask:Nat):Nat->Nat->Nat->Nat×Nat
 | 0,i,p=>(i,p)
 | n+1,i,p=>JS mask n (Vc mask i p).1 (Vc mask i p).2
theorem zcv (mask:Nat):∀a b i p,JS mask (a+b) i p=JS mask b (JS mask a i p).1 (JS mask a i p).2
 | 0,b,i,p=>by rw[VM];rfl
 | a+1,b,i,p=>by
  rw[show a+1+b=(a+b)+1 from by lia];exact zcv mask a b _ _
theorem zgG (mask:Nat):∀n i p,(JS mask n i p).2=p/32^n
 | 0,i,p=>by rw[Nat.pow_zero,Nat.div_one];rfl
 | n+1,i,p=>by
  rw[JS,zgG mask n];show p/32/32^n=_;rw[Nat.div_div_eq_div_mul,UN,OM]
theorem zeo (mask:Nat):∀n i p,i<mask+1->(JS mask n i p).1<mask+1
 | 0,i,p,h=>h
 | n+1,i,p,h=>zeo mask n _ _ (R1 _ (S1 _))
theorem zcw (mask:Nat):∀n i,(JS mask n i 0).1=orb (mask+1) n i
 | 0,_=>rfl
 | n+1,i=>by
  have e1:(Vc mask i 0).1=(i*5+1)%(mask+1):=rfl;have e2:(Vc mask i 0).2=0:=rfl;rw[JS,e1,e2];exact zcw mask n _
theorem head_mem (mask:Nat):∀(f n i p:Nat),n<f->(JS mask n i p).1∈walk mask f i p
 | 0,_,_,_,h=>absurd h (Tl _)
 | f+1,0,i,p,_=>by
  rw[walk];refine Xd _ ?_;unfold run;refine XB.mpr ⟨0,Wv.mpr ?_,by rfl⟩;have:=Q7 mask i;lia
 | f+1,n+1,i,p,h=>by
  rw[walk];exact XJ _ (head_mem mask f n _ _ (by lia))
theorem zep {mask:Nat}(hm:mask=7\/mask=31\/mask=127)(h:Int){e:Nat}(he:e<mask+1):e∈walk mask (W8 mask) (XG h%(mask+1)) (XG h):=by
 have hb:XG h<2^64:=by
  unfold XG;have h1:=Int.emod_nonneg h (show (2^64:Int)≠0 by decide);have h2:=Int.emod_lt_of_pos h (show (0:Int)<2^64 by decide);lia
 have hp:(JS mask 13 (XG h%(mask+1)) (XG h)).2=0:=by
  rw[zgG];exact Nat.div_eq_of_lt (R9 hb (by decide))
 have hi:=zeo mask 13 (XG h%(mask+1)) (XG h) (R1 _ (S1 _));obtain⟨k,hk,ek⟩:∃k,k<mask+1+1/\orb (mask+1) k (JS mask 13 (XG h%(mask+1)) (XG h)).1=e:=by
  rcases hm with rfl | rfl | rfl
  ·exact full zlw.1 zlw.2 hi he
  ·exact full ziM.1 ziM.2 hi he
  ·exact full zgF.1 zgF.2 hi he
 have hh:=head_mem mask (W8 mask) (13+k) (XG h%(mask+1)) (XG h) (by unfold W8;lia);rw[zcv,hp,zcw,ek] at hh;exact hh
theorem Z1 {α:Type}(xs:Array α){p:Nat}(x:α):(Xh xs p x).toList=xs.toList.take p++x::xs.toList.drop p:=by
 unfold Xh;simp;rw[WL (by rw[V9,X5];lia)]
theorem ziN {α:Type}(xs:Array α){p:Nat}(hp:p<=xs.size)(x:α)(i:Nat):(Xh xs p x)[i]?=if i<p then xs[i]? else if i=p then some x else xs[i-1]?:=by
 have hl:(xs.toList.take p).length=p:=by
  rw[XD,X5];lia
 rw[<- Xx,Z1];by_cases h1:i<p
 ·rw[if_pos h1,VZ (by lia),Rr h1,Xx]
 ·rw[if_neg h1,Ws (by lia),hl];by_cases h2:i=p
  ·rw[if_pos h2,h2,TU];rfl
  ·rw[if_neg h2,show i-p=(i-p-1)+1 from by lia,QR,Um,Xx];congr 1;lia
theorem ji {α:Type}(xs:Array α){p:Nat}(hp:p<=xs.size)(x:α):(Xh xs p x).size=xs.size+1:=by
 rw[<- X5,Z1,XZ,Xp,XD,V9,X5];lia
theorem JT (xs:Array Nat){p:Nat}(hp:p<=xs.size)(x i:Nat)(hi:i<xs.size+1):(Xh xs p x).getD i 0=if i<p then xs.getD i 0 else if i=p then x else xs.getD (i-1) 0:=by
 have h:=ziN xs hp x i;rw[xX (by rw[ji xs hp x];exact hi)] at h;by_cases h1:i<p
 ·rw[if_pos h1] at h ⊢;rw[xX (by lia)] at h;exact Option.some.inj h
 ·rw[if_neg h1] at h ⊢;by_cases h2:i=p
  ·rw[if_pos h2] at h ⊢;exact Option.some.inj h
  ·rw[if_neg h2] at h ⊢;rw[xX (by lia)] at h;exact Option.some.inj h
theorem ziO {t:Wr}(U:Up t.place)(hd:t.dummies=#[]){j:Nat}(he:∀i,i<t.place.size->t.place.getD i 0≠j):(t.put j).2=Xz t.place j/\(t.put j).1={ t with place:=Xh t.place (Xz t.place j) j }/\Up (Xh t.place (Xz t.place j) j):=by
 have b:=JQ U j;refine⟨rfl,?_,fun a c hac hc=>?_⟩
 ·unfold SetTable.put;simp only[hd];rfl
 ·rw[ji _ b.1] at hc;rw[JT _ b.1 _ _ (by lia),JT _ b.1 _ _ hc];have lo:∀i,i<Xz t.place j->t.place.getD i 0<j:=b.2.1;have hi:∀i,Xz t.place j<=i->i<t.place.size->j<t.place.getD i 0:=fun i h1 h2=>by
   have:=b.2.2 i h1 h2;have:=he i h2;lia
  by_cases a1:a<Xz t.place j
  ·rw[if_pos a1];by_cases c1:c<Xz t.place j
   ·rw[if_pos c1];exact U a c hac (by lia)
   ·rw[if_neg c1];by_cases c2:c=Xz t.place j
    ·rw[if_pos c2];exact lo a a1
    ·rw[if_neg c2];have h1:=lo a a1;have h2:=hi (c-1) (by lia) (by lia);lia
  ·have c1:¬ c<Xz t.place j:=by lia
   have c2:¬ c=Xz t.place j:=by lia
   rw[if_neg a1,if_neg c1,if_neg c2];by_cases a2:a=Xz t.place j
   ·rw[if_pos a2];exact hi (c-1) (by lia) (by lia)
   ·rw[if_neg a2];exact U (a-1) (c-1) (by lia) (by lia)
theorem Reach.more {t t':Wr}(hm:t'.mask=t.mask)(hp:∀i,i<t.place.size->∃i',i'<t'.place.size/\t'.place.getD i' 0=t.place.getD i 0){h:Int}{j:Nat}(R:Reach t h j):Reach t' h j:=by
 obtain⟨n,h1,h2⟩:=R;unfold Reach;rw[hm];refine⟨n,h1,fun k hk j' hj'=>?_⟩;obtain⟨i,hi,ei⟩:=h2 k hk j' hj';obtain⟨i',hi',ei'⟩:=hp i hi;exact⟨i',hi',ei'.trans ei⟩
theorem ziP {t:Wr}(U:Up t.place)(j:Nat):∀i,i<t.place.size->∃i',i'<(Xh t.place (Xz t.place j) j).size/\(Xh t.place (Xz t.place j) j).getD i' 0=t.place.getD i 0:=fun i hi=>by
 have b:=JQ U j;by_cases h:i<Xz t.place j
 ·refine⟨i,by rw[ji _ b.1];lia,?_⟩;rw[JT _ b.1 _ _ (by lia),if_pos h]
 ·refine⟨i+1,by rw[ji _ b.1];lia,?_⟩;rw[JT _ b.1 _ _ (by lia),if_neg (by lia),if_neg (by lia),Tf]
theorem zgH (mask:Nat)(owner:Array (Option Nat)):∀(f i p:Nat),SetTable.layClean.free mask owner f i p=(walk mask f i p).find? fun j=>(owner.getD j (some 0)).isNone
 | 0,_,_=>rfl
 | f+1,i,p=>by
  rw[SetTable.layClean.free,walk,List.find?_append];unfold run;rw[List.find?_map];have e:((fun j=>(owner.getD j (some 0)).isNone)∘fun x=>i+x)=fun k=>(owner.getD (i+k) (some 0)).isNone:=rfl;rw[e];cases h:(WO (Vw mask i+1-i)).find? fun k=>(owner.getD (i+k) (some 0)).isNone with
  | some k=>rfl
  | none =>
   simp only[Option.map_none,Option.none_or];exact zgH mask owner f _ _
structure Own (mask:Nat)(hs:List Int)(owner:Array (Option Nat))(k:Nat):Prop where
 sz:owner.size=mask+1
 few:(owner.toList.countP fun o=>o.isNone)+k=mask+1
 at_:∀i,i<k->∃j:Nat,owner[j]?=some (some i)/\∃n:Nat,(walk mask (W8 mask) (XG (hs.getD i 0)%(mask+1)) (XG (hs.getD i 0)))[n]?=some j/\∀m:Nat,m<n->∀j':Nat,(walk mask (W8 mask) (XG (hs.getD i 0)%(mask+1)) (XG (hs.getD i 0)))[m]?=some j'->∃o,owner[j']?=some (some o)
 lt:∀j i:Nat,owner[j]?=some (some i)->i<k
 inj:∀j j' i:Nat,owner[j]?=some (some i)->owner[j']?=some (some i)->j=j'
theorem Own.nil (mask:Nat)(hs:List Int):Own mask hs (Array.replicate (mask+1) none) 0:=by
 refine⟨by simp,by rw[Array.toList_replicate,List.countP_replicate];rfl,fun i h=>absurd h (Tl _),fun j i h=>?_,fun j j' i h=>?_⟩
 ·rw[Rq] at h;split at h<;>cases h
 ·rw[Rq] at h;split at h<;>cases h
theorem count_set {l:List (Option Nat)}:∀{j:Nat} (k:Nat),l[j]?=some none->(l.set j (some k)).countP (fun o=>o.isNone)+1=l.countP fun o=>o.isNone:=by
 induction l with
 | nil=>exact fun _ h=>by simp at h
 | cons o r ih =>
  intro j k h;cases j with
  | zero =>
   have:o=none:=by simpa using h
   subst this;simp[Wl]
  | succ j =>
   have:=ih k (by simpa using h);rw[List.set_cons_succ,Wl,Wl];lia
theorem zhC {l:List (Option Nat)}(h:0<l.countP fun o=>o.isNone):∃j:Nat,l[j]?=some none:=by
 obtain⟨o,ho,hn⟩:=List.countP_pos_iff.mp h;obtain⟨j,hj⟩:=PF.mp ho;refine⟨j,?_⟩;rw[hj];cases o with
 | none=>rfl
 | some _=>cases hn
theorem getD_none {owner:Array (Option Nat)}{j:Nat}:(owner.getD j (some 0)).isNone=true↔owner[j]?=some none:=by
 by_cases h:j<owner.size
 ·have e:owner[j]?=some (owner.getD j (some 0)):=by simp[Ti,h]
  rw[e];cases owner.getD j (some 0)<;>simp
 ·have e:owner.getD j (some 0)=some 0:=by simp[Ti,h]
  rw[e,WK (by lia)];simp
theorem zdw (mask:Nat):∀(f i p:Nat),i<mask+1->∀j∈walk mask f i p,j<mask+1
 | 0,_,_,_,_,h=>nomatch h
 | f+1,i,p,hi,j,h=>by
  rw[walk] at h;rcases XI.mp h with h | h
  ·unfold run at h;obtain⟨k,hk,rfl⟩:=XB.mp h;have hk':=Wv.mp hk;have:Vw mask i<=mask:=by
    unfold Vw;split<;>lia
   lia
  ·exact zdw mask f _ _ (R1 _ (S1 _)) j h
theorem Own.step {mask:Nat}(hm:mask=7\/mask=31\/mask=127){hs:List Int}{owner:Array (Option Nat)}{k:Nat}(O:Own mask hs owner k)(hk:k<mask+1):∃j,SetTable.layClean.free mask owner (W8 mask) (XG (hs.getD k 0)%(mask+1)) (XG (hs.getD k 0))=some j/\Own mask hs (owner.setIfInBounds j (some k)) (k+1):=by
 obtain⟨e,he⟩:=zhC (l:=owner.toList) (by have:=O.few;lia);rw[Xx] at he;have hel:e<owner.size:=by
  rcases S2 e owner.size with q | q
  ·exact q
  ·rw[WK q] at he;cases he
 have hw:=zep hm (hs.getD k 0) (e:=e) (by have:=O.sz;lia);rw[zgH];cases hf:(walk mask (W8 mask) (XG (hs.getD k 0)%(mask+1)) (XG (hs.getD k 0))).find? fun j=>(owner.getD j (some 0)).isNone with
 | none =>
  have:=List.find?_eq_none.mp hf e hw;exact absurd (getD_none.mpr he) this
 | some j =>
  refine⟨j,rfl,?_⟩;have hj:owner[j]?=some none:=getD_none.mp (List.find?_some (p:=fun j=>(owner.getD j (some 0)).isNone) hf);have hjl:j<owner.size:=by
   rcases S2 j owner.size with q | q
   ·exact q
   ·rw[WK q] at hj;cases hj
  have get:∀i:Nat,(owner.setIfInBounds j (some k))[i]?=if j=i then some (some k) else owner[i]?:=fun i=>by
   rw[U5];by_cases h:j=i
   ·rw[if_pos h,if_pos h];simp[hjl]
   ·rw[if_neg h,if_neg h]
  have keep:∀(i o:Nat),owner[i]?=some (some o)->(owner.setIfInBounds j (some k))[i]?=some (some o):=fun i o h=>by
   rw[get,if_neg (fun z=>by rw[<- z,hj] at h;cases h)];exact h
  refine⟨by rw[Ts];exact O.sz,?_,fun i hi=>?_,fun j' i h=>?_,fun j1 j2 i h1 h2=>?_⟩
  ·rw[RP];have:=count_set (l:=owner.toList) (j:=j) k (by rw[Xx];exact hj);have:=O.few;lia
  ·by_cases hik:i=k
   ·subst hik;refine⟨j,by rw[get,if_pos rfl],?_⟩;obtain⟨_,as,bs,hab,hn⟩:=List.find?_eq_some_iff_append.mp hf;refine⟨as.length,by rw[hab];simp,fun m hm' j' hj'=>?_⟩;rw[hab,VZ hm'] at hj';have hmem:=X0 hj';have hnn:=hn j' hmem;have hjw:j'∈walk mask (W8 mask) (XG (hs.getD i 0)%(mask+1)) (XG (hs.getD i 0)):=by
     rw[hab];exact Xd _ hmem
    cases ho:owner[j']? with
    | none =>
     have:=zdw mask (W8 mask) _ _ (R1 _ (S1 _)) j' hjw;rw[V8.mpr ⟨by rw[O.sz];exact this,rfl⟩] at ho;cases ho
    | some o =>
     cases o with
     | none =>
      rw[getD_none.mpr ho] at hnn;cases hnn
     | some o=>exact⟨o,keep j' o ho⟩
   ·obtain⟨j0,a,n,b,c⟩:=O.at_ i (by lia);refine⟨j0,keep _ _ a,n,b,fun m hm' j' hj'=>?_⟩;obtain⟨o,ho⟩:=c m hm' j' hj';exact⟨o,keep _ _ ho⟩
  ·rw[get] at h;split at h
   ·have:k=i:=by simpa using h
    lia
   ·have:=O.lt j' i h;lia
  ·rw[get] at h1 h2;split at h1<;>split at h2
   ·lia
   ·have:k=i:=by simpa using h1
    have:=O.lt j2 i h2;lia
   ·have:k=i:=by simpa using h2
    have:=O.lt j1 i h1;lia
   ·exact O.inj j1 j2 i h1 h2
theorem zeq {mask:Nat}(hm:mask=7\/mask=31\/mask=127)(hs:List Int)(hl:hs.length<=mask+1):∀(l done:List Int) (owner:Array (Option Nat)),hs=done++l->Own mask hs owner done.length ->
  ∃owner',l.foldl (fun (acc:Option (Array (Option Nat)×Nat)) h=>do
   let (owner,k) <- acc
   let j <- SetTable.layClean.free mask owner (W8 mask) (XG h%(mask+1)) (XG h)
   pure (owner.setIfInBounds j (some k),k+1)) (some (owner,done.length))=some (owner',hs.length)/\Own mask hs owner' hs.length
 | [],done,owner,e,O=>by
  rw[W0] at e;subst e;exact⟨owner,rfl,O⟩
 | h::r,done,owner,e,O=>by
  have hd:hs.getD done.length 0=h:=by
   rw[e];simp[List.getD]
  have hlen:done.length<mask+1:=by
   have:hs.length=done.length+(r.length+1):=by rw[e,XZ,Xp]
   lia
  obtain⟨j,hj,O'⟩:=O.step hm hlen;rw[hd] at hj;obtain⟨owner',h1,h2⟩:=zeq hm hs hl r (done++[h]) (owner.setIfInBounds j (some done.length)) (by rw[e,W7];rfl) (by rw[XZ];exact O');refine⟨owner',?_,h2⟩;rw[XZ] at h1;rw[VT];have e1:(do
   let (owner,k) <- (some (owner,done.length):Option (Array (Option Nat)×Nat))
   let j <- SetTable.layClean.free mask owner (W8 mask) (XG h%(mask+1)) (XG h)
   pure (owner.setIfInBounds j (some k),k+1))=some (owner.setIfInBounds j (some done.length),done.length+1):=by
   show (SetTable.layClean.free mask owner (W8 mask) (XG h%(mask+1)) (XG h)).bind _=_;rw[hj];rfl
  rw[e1];exact h1
theorem zmm {mask:Nat}(hm:mask=7\/mask=31\/mask=127)(hashes:Array Int)(hl:hashes.size<=mask+1):∃owner,SetTable.layClean mask hashes=some owner/\Own mask hashes.toList owner hashes.size:=by
 obtain⟨owner,h1,h2⟩:=zeq hm hashes.toList (by rw[X5];exact hl) hashes.toList [] _ rfl (Own.nil mask _);rw[X5] at h1 h2;refine⟨owner,?_,h2⟩;unfold SetTable.layClean;rw[<- Array.foldl_toList];exact congrArg (Option.map (·.1)) h1
def qz (mask:Nat)(owner:Array (Option Nat)):List (Nat×Nat):=(WO (mask+1)).filterMap fun j=>(owner.getD j none).map (j,·)
theorem xY {mask:Nat}{owner:Array (Option Nat)}(sz:owner.size=mask+1){j i:Nat}:(j,i)∈qz mask owner↔owner[j]?=some (some i):=by
 unfold qz;rw[Vd];constructor
 ·rintro⟨a,ha,h⟩;have hl:a<owner.size:=by rw[sz];exact Wv.mp ha
  have e:owner[a]?=some (owner.getD a none):=by simp[Ti,hl]
  cases ho:owner.getD a none with
  | none =>
   rw[ho] at h;cases h
  | some b =>
   rw[ho] at h;have hb:(a,b)=(j,i):=Option.some.inj h;cases hb;rw[e,ho]
 ·intro h;have hl:j<owner.size:=by
   rcases S2 j owner.size with q | q
   ·exact q
   ·rw[WK q] at h;cases h
  have e:owner[j]?=some (owner.getD j none):=by simp[Ti,hl]
  refine⟨j,Wv.mpr (by rw[<- sz];exact hl),?_⟩;rw[e] at h;rw[Option.some.inj h];rfl
theorem zgI (mask:Nat)(owner:Array (Option Nat)):(qz mask owner).Pairwise fun a b=>a.1<b.1:=by
 unfold qz;rw[List.pairwise_filterMap];refine List.pairwise_lt_range.imp fun {a b} hab x hx y hy=>?_;cases h1:owner.getD a none with
 | none=>rw[h1] at hx;cases hx
 | some p =>
  cases h2:owner.getD b none with
  | none=>rw[h2] at hy;cases hy
  | some q =>
   rw[h1] at hx;rw[h2] at hy;have e1:(a,p)=x:=Option.some.inj hx;have e2:(b,q)=y:=Option.some.inj hy;rw[<- e1,<- e2];exact hab
theorem zhD {mask:Nat}{hs:List Int}{owner:Array (Option Nat)}{k:Nat}(O:Own mask hs owner k):((qz mask owner).map (·.2)).Perm (WO k):=by
 have nd:((qz mask owner).map (·.2)).Nodup:=by
  refine Wd.mpr ((zgI mask owner).imp_of_mem fun {a b} ha hb hab e=>?_);obtain⟨a1,a2⟩:=a;obtain⟨b1,b2⟩:=b;have e':a2=b2:=e;subst e';have:=O.inj a1 b1 a2 ((xY O.sz).mp ha) ((xY O.sz).mp hb);have hab':a1<b1:=hab;lia
 refine(V7 nd List.nodup_range).mpr fun i=>?_;rw[Wv,XB];constructor
 ·rintro⟨⟨j,i'⟩,hm,rfl⟩;exact O.lt j _ ((xY O.sz).mp hm)
 ·intro hi;obtain⟨j,hj,_⟩:=O.at_ i hi;exact⟨(j,i),(xY O.sz).mpr hj,rfl⟩
theorem zkB {mask:Nat}(hm:mask=7\/mask=31\/mask=127)(finger moves:Nat)(led plain:Bool)(hashes:Array Int)(hl:hashes.size<=mask+1):∃place order,SetTable.laid mask finger moves led plain hashes=some ({ mask:=mask,place:=place,dummies:=#[],finger:=finger,led:=led,moves:=moves,plain:=plain },order) /\
  Up place/\place.size=hashes.size/\order.size=hashes.size/\order.toList.Perm (WO hashes.size)/\(∀i,i<place.size->place.getD i 0<mask+1) /\
  ∀i,i<place.size->Reach { mask:=mask,place:=place,dummies:=#[],finger:=finger,led:=led,moves:=moves,plain:=plain } (hashes.toList.getD (order.getD i 0) 0) (place.getD i 0):=by
 obtain⟨owner,h1,O⟩:=zmm hm hashes hl;have perm:=zhD O;have up:=zgI mask owner;have ll:(qz mask owner).length=hashes.size:=by
  have:=perm.length_eq;rw[Y1,Wz] at this;exact this
 have pg:∀i (h:i<(qz mask owner).length),((qz mask owner).map (·.1)).toArray.getD i 0=((qz mask owner)[i]).1:=fun i h=>by
  simp[Ti,h]
 have og:∀i (h:i<(qz mask owner).length),((qz mask owner).map (·.2)).toArray.getD i 0=((qz mask owner)[i]).2:=fun i h=>by
  simp[Ti,h]
 refine⟨((qz mask owner).map (·.1)).toArray,((qz mask owner).map (·.2)).toArray,?_,fun i j hij hj=>?_,by simp[ll],by simp[ll],perm,fun i hi=>?_,fun i hi=>?_⟩
 ·unfold SetTable.laid;rw[h1];rfl
 ·have hj':j<(qz mask owner).length:=by simpa using hj
  rw[pg i (by lia),pg j hj'];exact Vh.mp up i j (by lia) hj' hij
 ·have hi':i<(qz mask owner).length:=by simpa using hi
  rw[pg i hi'];have hmem:=TL hi';have:=(xY O.sz (j:=(qz mask owner)[i].1) (i:=(qz mask owner)[i].2)).mp hmem;rw[<- O.sz];rcases S2 (qz mask owner)[i].1 owner.size with q | q
  ·exact q
  ·rw[WK q] at this;cases this
 ·have hi':i<(qz mask owner).length:=by simpa using hi
  rw[pg i hi',og i hi'];have hmem:=TL hi';have ho:=(xY O.sz (j:=(qz mask owner)[i].1) (i:=(qz mask owner)[i].2)).mp hmem;obtain⟨j0,a,n,b,c⟩:=O.at_ _ (O.lt _ _ ho);have ej:=O.inj _ _ _ a ho;rw[ej] at b;refine⟨n,b,fun k hk j' hj'=>?_⟩;obtain⟨o,hoo⟩:=c k hk j' hj';obtain⟨x,hx,ex⟩:=TF ((xY O.sz).mpr hoo);refine⟨x,by simpa using hx,?_⟩;show ((qz mask owner).map (·.1)).toArray.getD x 0=j';rw[pg x hx,ex]
structure Good (t:Wr)(hs:Array Int):Prop where
 mask:t.mask=7\/t.mask=31\/t.mask=127
 sz:t.place.size=hs.size
 dum:t.dummies=#[]
 up:Up t.place
 le:∀i,i<t.place.size->t.place.getD i 0<t.mask+1
 room:t.place.size*5<t.mask*3
 reach:∀i,i<t.place.size->Reach t (hs.toList.getD i 0) (t.place.getD i 0)
theorem Good.free {t:Wr}{hs:Array Int}(G:Good t hs):∃e,e<t.mask+1/\∀i,i<t.place.size->t.place.getD i 0≠e:=by
 refine RN fun hn=>?_;have all:∀e,e<t.mask+1->∃i,i<t.place.size/\t.place.getD i 0=e:=fun e he=>RN fun h2=>hn ⟨e,he,fun i hi z=>h2 ⟨i,hi,z⟩⟩;have hr:=G.room;have id_:∀e,e<t.mask+1->∃i,i<t.place.size/\e<=i:=fun e=>by
  induction e with
  | zero=>exact fun h=>let ⟨i,hi,_⟩:=all 0 h;⟨i,hi,W1 _⟩
  | succ e ih =>
   intro h;obtain⟨i,hi,hei⟩:=all (e+1) h;obtain⟨i0,hi0,hei0⟩:=all e (by lia);have cnt:∀d,d<=e+1->∃i,i<t.place.size/\t.place.getD i 0=d/\d<=i:=fun d=>by
    induction d with
    | zero=>exact fun _=>let ⟨i,hi,he⟩:=all 0 (by lia);⟨i,hi,he,W1 _⟩
    | succ d ihd =>
     intro hd;obtain⟨a,ha,ea,la⟩:=ihd (by lia);obtain⟨b,hb,eb⟩:=all (d+1) (by lia);have:a<b:=by
      rcases RB a b with q | q | q
      ·exact q
      ·subst q;lia
      ·have:=G.up b a q ha;lia
     exact⟨b,hb,eb,by lia⟩
   obtain⟨x,hx,_,lx⟩:=cnt (e+1) (XW _);exact⟨x,hx,lx⟩
 obtain⟨i,hi,le⟩:=id_ t.mask (by lia);lia
theorem Good.found {t:Wr}{hs:Array Int}(G:Good t hs)(Vr:Nat->Int)(hh:∀i,i<hs.size->Vr i=hs.toList.getD i 0)(nd:hs.toList.Nodup){i:Nat}(hi:i<hs.size):∃nx,t.probe Vr (hs.toList.getD i 0) (t.probeStart (hs.toList.getD i 0))=some (.candidate (t.place.getD i 0) i nx):=by
 have gd:∀k (h:k<hs.size),hs.toList.getD k 0=hs.toList[k]'(by rw[X5];exact h):=fun k h=>by
  rw[XM,X4 (by rw[X5];exact h)];rfl
 refine zen G.up Vr (by rw[G.sz];exact hi) (hh i hi) (fun i' hi' e=>?_) (G.reach i (by rw[G.sz];exact hi));rw[G.sz] at hi';rw[hh i' hi',gd i' hi',gd i hi] at e;exact(List.getElem_inj nd).mp e
theorem Good.missed {t:Wr}{hs:Array Int}(G:Good t hs)(Vr:Nat->Int)(hh:∀i,i<hs.size->Vr i=hs.toList.getD i 0){h:Int}(no:h ∉ hs.toList):∃j,t.probe Vr h (t.probeStart h)=some (.empty j none)/\j<t.mask+1/\(∀i,i<t.place.size->t.place.getD i 0≠j)/\Reach t h j:=by
 obtain⟨e,he,hn⟩:=G.free;have no':∀i,i<t.place.size->Vr i≠h:=fun i hi z=>by
  rw[G.sz] at hi;rw[hh i hi,XM,X4 (by rw[X5];exact hi)] at z;have z':hs.toList[i]'(by rw[X5];exact hi)=h:=z;exact no (z' ▸ TL _)
 obtain⟨j,h1,h2,h3,h4⟩:=zdv G.up G.dum Vr (h:=h) no' hn (zep G.mask h he);refine⟨j,h1,zdw _ _ _ _ (R1 _ (S1 _)) j h4,fun i hi z=>?_,h3⟩;rw[<- z,JR G.up hi] at h2;cases h2
theorem Good.put {t:Wr}{hs:Array Int}(G:Good t hs){h:Int}{j:Nat}(hj:j<t.mask+1)(he:∀i,i<t.place.size->t.place.getD i 0≠j)(R:Reach t h j)(room:(t.place.size+1)*5<t.mask*3):Good (t.put j).1 (Xh hs (t.put j).2 h):=by
 obtain⟨e2,e1,U⟩:=ziO G.up G.dum he;have b:=JQ G.up j;rw[e2,e1];have bs:Xz t.place j<=hs.size:=by rw[<- G.sz];exact b.1
 have hget:∀i,(Xh hs (Xz t.place j) h).toList.getD i 0=if i<Xz t.place j then hs.toList.getD i 0 else if i=Xz t.place j then h else hs.toList.getD (i-1) 0:=fun i=>by
  rw[XM,Xx,ziN hs bs];split
  ·rw[XM,Xx]
  ·split
   ·rfl
   ·rw[XM,Xx]
 have more:∀{h':Int} {j':Nat},Reach t h' j'->Reach { t with place:=Xh t.place (Xz t.place j) j } h' j':=fun R'=>Reach.more (t:=t) (t':={ t with place:=Xh t.place (Xz t.place j) j }) rfl (ziP G.up j) R';refine⟨G.mask,?_,G.dum,U,fun i hi=>?_,?_,fun i hi=>?_⟩
 ·show (Xh t.place _ j).size=_;rw[ji _ b.1,ji _ bs,G.sz]
 ·have hi':i<t.place.size+1:=by
   have:=hi;rw[show ({ t with place:=Xh t.place (Xz t.place j) j }:Wr).place=Xh t.place (Xz t.place j) j from rfl,ji _ b.1] at this;exact this
  show (Xh t.place _ j).getD i 0<t.mask+1;rw[JT _ b.1 _ _ hi'];split
  ·exact G.le i (by lia)
  ·split
   ·exact hj
   ·exact G.le (i-1) (by lia)
 ·show (Xh t.place _ j).size*5<t.mask*3;rw[ji _ b.1];exact room
 ·have hi':i<t.place.size+1:=by
   have:=hi;rw[show ({ t with place:=Xh t.place (Xz t.place j) j }:Wr).place=Xh t.place (Xz t.place j) j from rfl,ji _ b.1] at this;exact this
  show Reach _ _ ((Xh t.place _ j).getD i 0);rw[hget,JT _ b.1 _ _ hi'];by_cases h1:i<Xz t.place j
  ·rw[if_pos h1,if_pos h1];exact more (G.reach i (by lia))
  ·rw[if_neg h1,if_neg h1];by_cases h2:i=Xz t.place j
   ·rw[if_pos h2,if_pos h2];exact more R
   ·rw[if_neg h2,if_neg h2];exact more (G.reach (i-1) (by lia))
theorem zfJ (t:Wr)(hs:Array Int)(hn:hs.size=5\/hs.size=19):∃t' order,t.relaid hs (Ux hs.size)=some (t',order)/\order.size=hs.size/\order.toList.Perm (WO hs.size)/\t'.led=t.led/\t'.plain=t.plain/\t'.place.size=hs.size/\Good t' (order.map fun i=>hs.toList.getD i 0):=by
 have key:∀mask,(mask=7\/mask=31\/mask=127)->hs.size<=mask+1->hs.size*5<mask*3->Te (Ux hs.size)-1=mask->∃t' order,t.relaid hs (Ux hs.size)=some (t',order)/\order.size=hs.size/\order.toList.Perm (WO hs.size)/\t'.led=t.led/\t'.plain=t.plain/\t'.place.size=hs.size/\Good t' (order.map fun i=>hs.toList.getD i 0):=fun mask hm hl hr em=>by
  obtain⟨place,order,h1,h2,h3,h4,h5,h6,h7⟩:=zkB hm t.finger (t.movedTo mask) t.led t.plain hs hl;refine⟨{ mask:=mask,place:=place,dummies:=#[],finger:=t.finger,led:=t.led,moves:=t.movedTo mask,plain:=t.plain },order,?_,h4,h5,rfl,rfl,h3,hm,?_,rfl,h2,h6,?_,fun i hi=>?_⟩
  ·unfold SetTable.relaid;rw[em];exact h1
  ·show place.size=_;rw[Va,h3,h4]
  ·show place.size*5<mask*3;rw[h3];exact hr
  ·have hi':i<order.size:=by
    have:i<place.size:=hi;lia
   have e:(order.map fun i=>hs.toList.getD i 0).toList.getD i 0=hs.toList.getD (order.getD i 0) 0:=by
    rw[XM,Xx,Array.getElem?_map,xX hi'];rfl
   rw[e];exact h7 i hi
 rcases hn with e | e
 ·exact key 31 (.inr (.inl rfl)) (by lia) (by lia) (by rw[e];decide +kernel)
 ·exact key 127 (.inr (.inr rfl)) (by lia) (by lia) (by rw[e];decide +kernel)
end ST
namespace ST
def qd (es:Array (Int×X9))(ep:Nat)(t:Wr):Obj:={ cls:=.type "set",dict:=none,data:=.set es ep t }
def kP (p:Int×Int):List Key:=[.inl p.1,.inl p.2]
def InB (p:Int×Int):Prop:=(0<=p.1/\p.1<8)/\(0<=p.2/\p.2<8)
def hP (prog:Xl)(w:W3)(p:Int×Int):Int:=(tk2 prog w).hash (kP p)
section
variable {prog:Xl}{w:W3}{A:WW}{E:X9->X8->Prop}{s:X8}{a:Addr}{es:Array (Int×X9)}{ep:Nat}{t:Wr}
theorem zmn {p q:Int×Int}(hp:InB p)(hq:InB q)(e:hP prog w p=hP prog w q):p=q:=by
 obtain⟨p1,p2⟩:=p;obtain⟨q1,q2⟩:=q;obtain⟨⟨a1,a2⟩,a3,a4⟩:=hp;obtain⟨⟨b1,b2⟩,b3,b4⟩:=hq;simp only at a1 a2 a3 a4 b1 b2 b3 b4;obtain⟨i,rfl⟩:∃i:Nat,p1=i:=⟨p1.toNat,by lia⟩;obtain⟨j,rfl⟩:∃i:Nat,p2=i:=⟨p2.toNat,by lia⟩;obtain⟨k,rfl⟩:∃i:Nat,q1=i:=⟨q1.toNat,by lia⟩;obtain⟨l,rfl⟩:∃i:Nat,q2=i:=⟨q2.toNat,by lia⟩;unfold hP kP at e;rw[Qp,Qp] at e;obtain⟨c,d⟩:=ziK (by lia) (by lia) (by lia) (by lia) e;rw[c,d]
theorem xZ {h:Heap}{x:Addr}{p:Int×Int}(h1:zv h (.ref x) p):(tk2 prog w).is h (kP p) x:=by
 obtain⟨b,o,n,t,u,e,e1,e2,e3⟩:=h1;cases e;exact⟨o,#[.int p.1 t,.int p.2 u],n,e1,e2,e3,.cons (QX p.1 t) (.cons (QX p.2 u) .nil)⟩
theorem Good.fits {hs:Array Int}(G:Good t hs):t.fits hs.size=true:=by
 have h1:=G.sz;have h2:=G.room;unfold SetTable.fits OY;rw[G.dum,h1];simp;lia
theorem Good.odd {hs:Array Int}(G:Good t hs):t.gaveWay=false:=by
 unfold SetTable.gaveWay;rcases G.mask with e | e | e<;>rw[e]<;>rfl
theorem yT {Q:Array (Int×X9)×Nat×Wr->X8->Prop}(ho:s.heap.get? a=some (qd es ep t))(G:Good t (es.map (·.1)))(q:Q (es,ep,t) s):Xo (Xr prog w) A (setState a) Q E s:=by
 refine SR ho rfl ?_ q;have:=G.fits;rwa [Va] at this
theorem zdx (i:Nat)(hi:i<(es.map (·.1)).size):(es[i]?.map (·.1)).getD 0=(es.map (·.1)).toList.getD i 0:=by
 rw[XM,Xx,Array.getElem?_map]
theorem zb6 {n:Nat}{h:Int}{x:X9}{Q:SetFound->X8->Prop}(ho:s.heap.get? a=some (qd es ep t))(G:Good t (es.map (·.1)))(no:h ∉ (es.map (·.1)).toList)
  (hQ:∀j,j<t.mask+1->(∀i,i<t.place.size->t.place.getD i 0≠j)->Reach t h j->Q (.free j false) s):Xo (Xr prog w) A (Ru a x h true (n+1) none) Q E s:=by
 obtain⟨j,e,h1,h2,h3⟩:=G.missed (fun i=>(es[i]?.map (·.1)).getD 0) zdx no;rw[Ru];refine ZB (yT ho G ?_);dsimp only;rw[G.odd,if_neg XT];generalize hm:t.probe _ h _=m;have em:m=some (.empty j none):=hm.symm.trans e;subst em;exact XY (hQ j h1 h2 h3)
theorem zcx {d:Nat}{x:Addr}{p:Int×Int}{Q:Bool->X8->Prop}(hx:zv s.heap (.ref x) p)(q:Q false s):Xo (Xr prog w) A (SQ 8 (.ref x)) Q E s:=by
 obtain⟨b,o,n,t,u,e,e1,e2,e3⟩:=hx;cases e;have hT:s.TypeIs (.ref x) "tuple":=⟨o,e1,e2⟩;unfold SQ;refine ZB (P7 hT ?_);dsimp only;rw[if_pos (by decide)];refine ZB (XY ?_);rw[if_neg (by decide)];refine ZB (wpAny_seqItems e1 e3 ?_);dsimp only;refine ZB ?_;rw[<- Array.forIn_toList];refine Rc _ (fun rest r s'=>r.1=none/\s'=s/\∀v∈rest,∃i t,v=Vl i t) _ ?_ ?_ _ _ ⟨rfl,rfl,fun v hv=>?_⟩
 ·rintro v rest r s' ⟨hr,rfl,hall⟩;obtain⟨i,t,rfl⟩:=hall v XU;rw[show SQ 7 (Vl i t)=pure false by unfold SQ;rfl];refine ZB (XY ?_);rw[if_neg XT];exact XY ⟨rfl,rfl,fun u hu'=>hall u (XX _ hu')⟩
 ·rintro⟨r1,r2⟩ s' ⟨hr,rfl,_⟩;simp only at hr;subst hr;exact XY q
 ·simp at hv;rcases hv with rfl | rfl
  ·exact⟨_,_,rfl⟩
  ·exact⟨_,_,rfl⟩
theorem ziQ {x:Addr}{p:Int×Int}{l:List X9}{Q:Bool->X8->Prop}(hx:zv s.heap (.ref x) p)(hl:∀v∈l,∃b q,v=.ref b/\zv s.heap (.ref b) q)(q:Q false s):Xo (Xr prog w) A (searchCouldBeSeen (.ref x) l) Q E s:=by
 unfold searchCouldBeSeen;refine ZB ?_;refine Rc _ (fun rest r s'=>r.1=none/\s'=s/\∀v∈rest,∃b q,v=.ref b/\zv s.heap (.ref b) q) _ ?_ ?_ _ _ ⟨rfl,rfl,hl⟩
 ·rintro v rest r s' ⟨hr,rfl,hall⟩;obtain⟨b,q',rfl,hb⟩:=hall v XU;dsimp only;split
  ·exact XY ⟨rfl,rfl,fun u hu'=>hall u (XX _ hu')⟩
  ·refine ZB ((tk2 prog w).quiet (xZ hx) ?_);rw[if_neg (by decide)];refine ZB ((tk2 prog w).quiet (xZ hb) ?_);rw[if_neg (by decide)];refine ZB (zcx (d:=0) hx ?_);rw[if_neg XT];refine ZB (zcx (d:=0) hb ?_);rw[if_neg XT];exact XY ⟨rfl,rfl,fun u hu'=>hall u (XX _ hu')⟩
 ·rintro⟨r1,r2⟩ s' ⟨hr,rfl,_⟩;simp only at hr;subst hr;exact XY q
theorem ziR {x:Addr}{p:Int×Int}{Q:Bool->X8->Prop}(hx:zv s.heap (.ref x) p)(q:Q true s):Xo (Xr prog w) A (Pp 8 (.ref x)) Q E s:=by
 obtain⟨b,o,n,t,u,e,e1,e2,e3⟩:=hx;cases e;have hT:s.TypeIs (.ref x) "tuple":=⟨o,e1,e2⟩;unfold Pp;refine ZB (PL hT PySem.F.slot_tuple_hash.lookup ?_);dsimp only;refine ZB (wpAny_seqItems e1 e3 ?_);dsimp only[Option.getD];refine ZB ?_;rw[<- Array.forIn_toList];refine Rc _ (fun rest r s'=>r.1=none/\s'=s/\∀v∈rest,∃i t,v=Vl i t) _ ?_ ?_ _ _ ⟨rfl,rfl,fun v hv=>?_⟩
 ·rintro v rest r s' ⟨hr,rfl,hall⟩;obtain⟨i,t,rfl⟩:=hall v XU;rw[show Pp 7 (Vl i t)=pure true by unfold Pp;rfl];refine ZB (XY ?_);rw[if_neg (by decide)];exact XY ⟨rfl,rfl,fun u hu'=>hall u (XX _ hu')⟩
 ·rintro⟨r1,r2⟩ s' ⟨hr,rfl,_⟩;simp only at hr;subst hr;exact XY q
 ·simp at hv;rcases hv with rfl | rfl
  ·exact⟨_,_,rfl⟩
  ·exact⟨_,_,rfl⟩
theorem zdy {n:Nat}{h:Int}{x b:Addr}{p:Int×Int}{i:Nat}{Q:SetFound->X8->Prop}(hu:A.units<U0)(ho:s.heap.get? a=some (qd es ep t))(G:Good t (es.map (·.1)))(nd:(es.map (·.1)).toList.Nodup)
  (all:∀e∈es.toList,∃b q,e.2=WJ b/\zv s.heap (.ref b) q) (hi:es[i]?=some (h,.ref b)) (hx:zv s.heap (.ref x) p) (hb:zv s.heap (.ref b) p)
  (hQ:Q (.there none) s):Xo (Xr prog w) A (Ru a (.ref x) h true (n+1) none) Q E s:=by
 have hlt:i<(es.map (·.1)).size:=by
  rw[Va];exact(V8.mp hi).1
 have eh:(es.map (·.1)).toList.getD i 0=h:=by
  rw[<- zdx i hlt,hi];rfl
 obtain⟨nx,e⟩:=G.found (fun i=>(es[i]?.map (·.1)).getD 0) zdx nd hlt;rw[eh] at e;rw[Ru];refine ZB (yT ho G ?_);dsimp only;rw[G.odd,if_neg XT];generalize hm:t.probe _ h _=m;have em:m=some (.candidate (t.place.getD i 0) i nx):=hm.symm.trans e;subst em;dsimp only;have seen:∀v∈(es.filter (·.1==h)).toList.map (·.2),∃b q,v=WJ b/\zv s.heap (.ref b) q:=fun v hv=>by
  obtain⟨e,he,rfl⟩:=XB.mp hv;rw[Array.toList_filter] at he;exact all e (XS.mp he).1
 rw[hi];cases hl:t.led with
 | true =>
  rw[if_neg (by decide)];refine ZB (WN ((tk2 prog w).eqBool hu (xZ hb) (xZ hx) ?_));refine ZB (yT ho G ?_);dsimp only;rw[decide_eq_true rfl,if_pos (by decide)];exact XY hQ
 | false =>
  rw[if_pos (by decide)];refine ZB (ziQ hx seen ?_);rw[if_neg XT];refine ZB (WN ((tk2 prog w).eqBool hu (xZ hb) (xZ hx) ?_));refine ZB (yT ho G ?_);dsimp only;rw[decide_eq_true rfl,if_pos (by decide)];exact XY hQ
end
end ST
namespace ST
def zbb (f:Int×Int->Int)(q:Addr×(Int×Int)):Int×X9:=(f q.2,WJ q.1)
structure zb7 (f:Int×Int->Int)(led:Bool)(h:Heap)(a:Addr)(ks:List (Addr×(Int×Int))):Prop where
 ex:∃es ep t,h.get? a=some (qd es ep t)/\es.toList=ks.map (zbb f)/\Good t (es.map (·.1))/\t.led=led/\t.plain=true
 nd:(ks.map (·.2)).Nodup
 cells:∀q∈ks,zv h (.ref q.1) q.2
 inb:∀q∈ks,InB q.2
theorem zv.up {h h':Heap}{x:Addr}{p:Int×Int}(H:zv h (.ref x) p){a:Addr}(hs:VN a h h'){o:Obj}(ho:h.get? a=some o)(hc:o.cls=.type "set"):zv h' (.ref x) p:=by
 obtain⟨b,o',n,t,u,e,e1,e2,e3⟩:=H;cases e;refine⟨x,o',n,t,u,rfl,?_,e2,e3⟩;rw[hs.2 x fun z=>?_]
 ·exact e1
 ·subst z;rw[ho] at e1;cases e1;rw[hc] at e2;exact absurd e2 (by decide)
section
variable {prog:Xl}{w:W3}{A:WW}{E:X9->X8->Prop}{s:X8}{a:Addr}{es:Array (Int×X9)}{ep:Nat}{t:Wr}{ks:List (Addr×(Int×Int))}{f:Int×Int->Int}{led:Bool}
theorem Zt (he:es.toList=ks.map (zbb f)):(es.map (·.1)).toList=ks.map fun q=>f q.2:=by
 rw[UX,he,We];rfl
theorem zhE (inj:∀p q,InB p->InB q->f p=f q->p=q)(nd:(ks.map (·.2)).Nodup)(inb:∀q∈ks,InB q.2):(ks.map fun q=>f q.2).Nodup:=by
 rw[W2,Wd] at nd ⊢;refine nd.imp_of_mem fun {x y} hx hy h e=>h (inj _ _ (inb x hx) (inb y hy) e)
theorem zer {es':Array (Int×X9)}{t':Wr}{Q:Unit->X8->Prop}(ho:s.heap.get? a=some (qd es ep t))(hz:es'.size<=64)
  (q:∀h',VN a s.heap h'->h'.get? a=some (qd es' (ep+1) t')->Q () { s with heap:=h' }):Xo (Xr prog w) A (storeSet a es' t') Q E s:=by
 refine wpAny_storeSet_of (o:=qd es ep t) ho rfl (q _ (UB ..) ?_) (XV hz (by rw[Tb];decide));have:=Wh (Obj.putSet es' t') ho (by rw[putSet_of es' t' (o:=qd es ep t) rfl];rfl);rw[putSet_of es' t' (o:=qd es ep t) rfl] at this;exact this
theorem zes {α:Type}(d:α)(xs:Array α):∀(l:List Nat),(∀i∈l,i<xs.size)->l.filterMap (fun i=>xs[i]?)=l.map fun i=>xs.toList.getD i d
 | [],_=>rfl
 | i::l,h=>by
  have hi:=h i XU;rw[U4,Xs,Vg hi];dsimp only;rw[zes d xs l fun j hj=>h j (XX _ hj)];congr 1;rw[XM,Xx,Vg hi];rfl
theorem zdz {n:Nat}(hn:n=5\/n=19):¬ Te (Ux n)>XC:=by
 rw[Tb];rcases hn with rfl | rfl
 ·rw[show Te (Ux 5)=32 by decide +kernel];lia
 ·rw[show Te (Ux 19)=128 by decide +kernel];lia
theorem ziS {Q:Unit->X8->Prop}(ho:s.heap.get? a=some (qd es ep t))(hf:t.fits es.size=true)(hn:es.size=5\/es.size=19)(he:es.toList=ks.map (zbb f))
  (q:∀(h':Heap) (es':Array (Int×X9)) (t':Wr) (ks':List (Addr×(Int×Int))),VN a s.heap h'->h'.get? a=some (qd es' (ep+1) t')->es'.toList=ks'.map (zbb f)->ks'.Perm ks->Good t' (es'.map (·.1))->t'.led=t.led->t'.plain=t.plain->Q () { s with heap:=h' }):Xo (Xr prog w) A (setRelay a (Ux es.size)) Q E s:=by
 have hsz:(es.map (·.1)).size=es.size:=Va ..;obtain⟨t',order,e1,e2,e3,e4,e5,e6,e7⟩:=zfJ t (es.map (·.1)) (by rw[hsz];exact hn);rw[hsz] at e1 e2 e3 e6;have hlt:∀i∈order.toList,i<es.size:=fun i hi=>Wv.mp (e3.mem_iff.mp hi);have hkl:ks.length=es.size:=by
  rw[<- X5,he,Y1]
 have d0:Addr×(Int×Int):=(0,(0,0));have el:(order.filterMap (es[·]?)).toList=(order.toList.map fun i=>ks.getD i d0).map (zbb f):=by
  rw[Array.toList_filterMap,zes (zbb f d0) es order.toList hlt,We];refine Xi fun i hi=>?_;have h1:=hlt i hi;show es.toList.getD i _=zbb f (ks.getD i d0);rw[he,XM,Xn,XM,X4 (by lia),Uf,TN,TN]
 have es_:(order.filterMap (es[·]?)).size=es.size:=by
  rw[<- X5,el,Y1,Y1,X5,e2]
 unfold setRelay;refine ZB (SR (o:=qd es ep t) ho rfl hf ?_);dsimp only;rw[if_neg (zdz hn),e1];refine ZB ?_;show Xo (Xr prog w) A (do
  let es':=order.filterMap (es[·]?)
  if es'.size != es.size then unsupported "internal:set-table-lost-an-element"
  pure (es',t')) _ _ _
 dsimp only;rw[es_,if_neg (by simp)];refine XY ?_;dsimp only;refine zer ho (by rw[es_];lia) fun h' h1 h2=>q h' _ t' _ h1 h2 el ?_ ?_ e4 e5
 ·have:=e3.map fun i=>ks.getD i d0;rw[<- hkl,zfD] at this;exact this
 ·have eh:(order.filterMap (es[·]?)).map (·.1)=order.map fun i=>(es.map (·.1)).toList.getD i 0:=by
   apply Array.toList_inj.mp;rw[Zt el,UX,We];refine Xi fun i hi=>?_;have h1:=hlt i hi;show f (ks.getD i d0).2=_;rw[Zt he,XM,XM,Xn,X4 (by lia),Uf,TN,TN]
  rw[eh];exact e7
theorem ziT {n:Nat}{x:Addr}{p:Int×Int}{Q:Bool->X8->Prop}(inj:∀p q,InB p->InB q->f p=f q->p=q)(hu:A.units<U0)(S:zb7 f led s.heap a ks)(hx:zv s.heap (.ref x) p)(hb:InB p)(hn:p ∉ ks.map (·.2)->ks.length<63)
  (q:∀(b:Bool) (h':Heap) (ks':List (Addr×(Int×Int))),VN a s.heap h'->zb7 f led h' a ks'->(∀c,c∈ks'.map (·.2)↔c∈ks.map (·.2)\/c=p)->(∀c∈ks',c∈ks\/c=(x,p))->Q b { s with heap:=h' }) :
  Xo (Xr prog w) A (setAddHashedIn a (.ref x) (f p) (n+1)) Q E s:=by
 obtain⟨⟨es,ep,t,ho,he,G,hl,hp⟩,nd,hc,inb⟩:=S;have hkl:ks.length=es.size:=by
  rw[<- X5,he,Y1]
 generalize hh:f p=h;rw[setAddHashedIn];refine ZB (yT ho G ?_);dsimp only;rw[show byScan (.ref x) es=false by simp[byScan,Value.scannable],if_neg XT];by_cases hm:p∈ks.map (·.2)
 ·obtain⟨⟨b,p'⟩,hk,e⟩:=XB.mp hm;simp only at e;subst e;obtain⟨i,hi,ei⟩:=TF hk;have eg:es[i]?=some (h,.ref b):=by
   rw[<- Xx,he,Xn,X4 hi,ei,<- hh];rfl
  unfold setSearch;refine ZB (zdy (n:=99999) hu ho G (by rw[Zt he];exact zhE inj nd inb) (fun e hm'=>?_) eg hx (hc _ hk) ?_)
  ·rw[he] at hm';obtain⟨c,h1,rfl⟩:=XB.mp hm';exact⟨c.1,c.2,rfl,hc c h1⟩
  ·refine XY (q false s.heap ks (Heap.SameBut.refl _ _) ⟨⟨es,ep,t,ho,he,G,hl,hp⟩,nd,hc,inb⟩ (fun c=>⟨.inl,fun z=>z.elim id fun z=>z ▸ hm⟩) fun c h1=>.inl h1)
 ·have hlen:=hn hm;have no:h ∉ (es.map (·.1)).toList:=fun z=>by
   rw[Zt he,<- hh] at z;obtain⟨c,h1,h2⟩:=XB.mp z;exact hm (XB.mpr ⟨c,h1,inj _ _ (inb c h1) hb h2⟩)
  unfold setSearch;refine ZB (zb6 (n:=99999) ho G no fun j h1 h2 h3=>?_);dsimp only;refine ZB (yT ho G ?_);obtain⟨f1,f2,f3⟩:=ziO G.up G.dum h2;have hsz:t.place.size=es.size:=by rw[G.sz,Va]
  have bs:Xz t.place j<=es.size:=by
   rw[<- hsz];exact(JQ G.up j).1
  generalize hpos:Xz t.place j=pos at f1 f2 f3 bs;have ep1:(t.put j).1.plain=true:=by rw[f2];exact hp
  have el1:(t.put j).1.led=led:=by rw[f2];exact hl
  have hks:∃ks1,ks1=ks.take pos++(x,p)::ks.drop pos:=⟨_,rfl⟩;obtain⟨ks1,hks⟩:=hks;have he1:(Xh es pos (h,WJ x)).toList=ks1.map (zbb f):=by
   rw[Z1,he,hks,Xf,Xs,UE,UD];simp only[zbb,hh]
  have hsz1:(Xh es pos (h,WJ x)).size=es.size+1:=ji _ bs _;have pm:ks1.Perm ((x,p)::ks):=by
   rw[hks];refine List.perm_middle.trans (List.Perm.cons _ ?_);rw[WC]
  have fits1:(t.put j).1.fits (Xh es pos (h,WJ x)).size=true:=by
   have hr:=G.room;have bp:pos<=t.place.size:=by rw[hsz];exact bs
   rw[hsz1,f2];unfold SetTable.fits OY;simp only[G.dum,ji _ bp,hsz];rcases G.mask with e | e | e<;>simp[e]<;>rw[hsz,e] at hr<;>lia
  have fin:∀(h':Heap) (ks':List (Addr×(Int×Int))) (es':Array (Int×X9)) (ep':Nat) (t':Wr),VN a s.heap h'->h'.get? a=some (qd es' ep' t')->es'.toList=ks'.map (zbb f)->ks'.Perm ((x,p)::ks)->Good t' (es'.map (·.1))->t'.led=led->t'.plain=true->Q true { s with heap:=h' }:=by
   intro h' ks' es' ep' t' hs hg hel hpm hG hle hpl;have mem:∀c,c∈ks'↔c=(x,p)\/c∈ks:=fun c=>by rw[hpm.mem_iff,XR]
   refine q true h' ks' hs ⟨⟨es',ep',t',hg,hel,hG,hle,hpl⟩,?_,fun c hc'=>?_,fun c hc'=>?_⟩ (fun c=>?_) fun c hc'=>(mem c).mp hc' |>.symm
   ·rw[(hpm.map (·.2)).nodup_iff,Xs,VU];exact⟨hm,nd⟩
   ·rcases(mem c).mp hc' with rfl | z
    ·exact zv.up hx hs ho rfl
    ·exact zv.up (hc c z) hs ho rfl
   ·rcases(mem c).mp hc' with rfl | z
    ·exact hb
    ·exact inb c z
   ·rw[(hpm.map (·.2)).mem_iff,Xs,XR];exact Or.comm
  have eT:t.put j=((t.put j).1,pos):=by rw[<- f1]
  have fl:(t.put j).1.tooFull=decide ((es.size+1)*5 >= t.mask*3):=by
   have bp:pos<=t.place.size:=by rw[hsz];exact bs
   rw[f2];unfold SetTable.tooFull OY;simp only[G.dum,ji _ bp,hsz];rfl
  have gd:¬ (es.size+1)*5 >= t.mask*3->Good (t.put j).1 ((Xh es pos (h,WJ x)).map (·.1)):=fun hr=>by
   have:=G.put (h:=h) h1 h2 h3 (by rw[hsz];lia);rw[f1] at this;have e:(Xh es pos (h,WJ x)).map (·.1)=Xh (es.map (·.1)) pos h:=by
    apply Array.toList_inj.mp;rw[UX,Z1,Z1,UX,Xf,Xs,UE,UD]
   rw[e];exact this
  have hroom:=G.room;have hmask:=G.mask;rw[hsz] at hroom;dsimp only;rw[eT];dsimp only;generalize t.put j=T at ep1 el1 fits1 fl gd;obtain⟨t1,p1⟩:=T;dsimp only at ep1 el1 fits1 fl gd ⊢;rw[ep1,if_pos rfl];refine ZB (ziR hx ?_);rw[if_pos rfl];refine ZB (zer ho (by rw[hsz1];lia) fun h' hs hg=>?_);by_cases full:(es.size+1)*5 >= t.mask*3
  ·rw[fl,decide_eq_true full,if_pos (by decide)];rw[<- hsz1];refine ZB (ziS (s:={ s with heap:=h' }) hg fits1 (by rw[hsz1];rcases hmask with e | e | e<;>rw[e] at full hroom<;>lia) he1 fun h2' es' t' ks' hs' hg' hel hpm hG hle hpl=>?_);exact XY (fin h2' ks' es' _ t' (hs.trans hs') hg' hel (hpm.trans pm) hG (hle.trans el1) (hpl.trans ep1))
  ·rw[fl,decide_eq_false full,if_neg (by decide)];exact XY (fin h' ks1 _ _ t1 hs hg he1 pm (gd full) el1 ep1)
theorem ziU {x:Addr}{p:Int×Int}{Q:Bool->X8->Prop}(hu:A.units<U0)(S:zb7 (hP prog w) led s.heap a ks)(hx:zv s.heap (.ref x) p)(hb:InB p)(hn:p ∉ ks.map (·.2)->ks.length<63)
  (q:∀(b:Bool) (h':Heap) (ks':List (Addr×(Int×Int))),VN a s.heap h'->zb7 (hP prog w) led h' a ks'->(∀c,c∈ks'.map (·.2)↔c∈ks.map (·.2)\/c=p)->(∀c∈ks',c∈ks\/c=(x,p))->Q b { s with heap:=h',toks:=s.toks+3 }) :
  Xo (Xr prog w) A (setAdd a (.ref x)) Q E s:=by
 unfold setAdd;refine WN (ZB ((tk2 prog w).pyHash hu (xZ hx) ?_));show Xo (Xr prog w) A (setAddHashed a (.ref x) (hP prog w p)) Q E { s with toks:=s.toks+3 };unfold setAddHashed;refine WN ?_;exact ziT (n:=99999) (s:={ s with toks:=s.toks+3 }) (fun p q h1 h2 h3=>zmn h1 h2 h3) hu S hx hb hn q
end
end ST
namespace ST
theorem zgJ {α:Type}(next:Nat->Nat):∀(fuel k:Nat) (left:List α) (out:Array α),left.length=fuel->(pickOrder.go next fuel k left out).toList.Perm (out.toList++left)
 | 0,k,left,out,h=>by
  rw[Vt.mp h,W0];exact List.Perm.refl _
 | fuel+1,k,left,out,h=>by
  have hl:next k%left.length<left.length:=R1 _ (by lia)
  rw[pickOrder.go,X4 hl];dsimp only;refine(zgJ next fuel (k+1) _ _ (by rw[List.length_eraseIdx_of_lt hl];lia)).trans ?_;rw[SO,W7];refine SJ _ ?_;have e:left=left.take (next k%left.length)++left[next k%left.length]::left.drop (next k%left.length+1):=by
   rw[<- WF hl,WC]
  rw[List.eraseIdx_eq_take_drop_succ];have e2:=@List.perm_middle _ left[next k%left.length] (left.take (next k%left.length)) (left.drop (next k%left.length+1));rw[<- e] at e2;exact e2.symm
theorem zhF {α:Type}(next:Nat->Nat)(xs:Array α):(Rj next xs).toList.Perm xs.toList:=by
 have h:=zgJ next xs.size 0 xs.toList #[] (by simp)
 rw[show (#[]:Array α).toList++xs.toList=xs.toList from rfl] at h;exact h
theorem jW:Slot "set_iterator" "__next__" "set_iterator.__next__" :=
 .of (owner:="set_iterator") (n:="__next__") (by rw[Sk,Ub];kernel_rfl) (by decide +kernel) (by decide +kernel) (by decide +kernel) (.inl (by decide +kernel)) (by rw[Pm];kernel_rfl)
theorem Qs:Os table "set_iterator.__next__"=some UQ.«set_iterator.__next__»:=entryFor_of_tree (by kernel_rfl)
theorem zbc:Manifest.owners.lookup (String.ofList ['r','o','t','a','r','e','t','i','_','t','e','s'].reverse)=some Manifest.sig_set_iterator:=by kernel_rfl
theorem zau (a:X9):argsOk "set_iterator.__next__" ⟨[a],[]⟩:=by
 unfold argsOk;rw[signature?_of (id:="set_iterator.__next__") (n:=['_','_','t','x','e','n','_','_']) (o:=['r','o','t','a','r','e','t','i','_','t','e','s']) (by kernel_rfl) zbc];kernel_rfl
theorem zdA:Os table "set.__iter__"=some UQ.«frozenset.__iter__»:=entryFor_alias (id':="frozenset.__iter__") (by kernel_rfl) rfl (by decide +kernel) (by kernel_rfl)
def zbd (slot i:Nat)(a:Addr)(n ep:Nat):Obj:={ cls:=.type "set_iterator",data:=.fields #[Ut slot,Ut i,.ref a,Ut n,Ut ep] }
def slotAt (byText:Bool)(t:Wr)(i:Nat):Nat:=if byText then 0 else if i=0 then 0 else t.place.getD (i-1) 0+1
def JU (w:W3)(a:Addr)(ep:Nat)(es:Array (Int×X9)):Array (Int×X9):=if w.params.followText "set-order" then Rj (w.params.setOrder a ep) es else es
theorem Qt (w:W3)(a:Addr)(ep:Nat)(es:Array (Int×X9)):(JU w a ep es).toList.Perm es.toList:=by
 unfold JU;split
 ·exact zhF _ _
 ·exact List.Perm.refl _
section
variable {prog:Xl}{w:W3}{A:WW}{E:X9->X8->Prop}{s:X8}{a:Addr}{es:Array (Int×X9)}{ep:Nat}{t:Wr}
theorem zdB {Q:Bool->X8->Prop}(q:Q (w.params.followText "set-order") s):Xo (Xr prog w) A setsByText Q E s:=by
 unfold setsByText;exact ZB (Rb (XY q))
theorem below_at {t:Wr}(U:Up t.place){i:Nat}(hi:i<=t.place.size):Xz t.place (slotAt false t i)=i:=by
 obtain⟨b1,b2,b3⟩:=JQ U (slotAt false t i);unfold slotAt at *
 simp only[Wp,if_false] at *
 by_cases h0:i=0
 ·subst h0;rw[if_pos rfl] at *
  rcases Nat.eq_zero_or_pos (Xz t.place 0) with e | e
  ·exact e
  ·have:=b2 0 e;lia
 ·rw[if_neg h0] at *
  rcases RB (Xz t.place (t.place.getD (i-1) 0+1)) i with e | e | e
  ·have:=b3 (i-1) (by lia) (by lia);lia
  ·exact e
  ·have h1:=b2 i e;have h2:=U (i-1) i (by lia) (by lia);lia
theorem zgK {i:Nat}{Q:Option (X9×Nat)->X8->Prop}(ho:s.heap.get? a=some (qd es ep t))(G:Good t (es.map (·.1)))(hl:t.led=!w.params.followText "set-order")(hp:t.plain=true)(hi:i<=es.size)
  (q1:∀v,(JU w a ep es)[i]?.map (·.2)=some v->Q (some (v,slotAt (w.params.followText "set-order") t (i+1))) s) (q2:i=es.size->Q none s) :
  Xo (Xr prog w) A (setNext a (slotAt (w.params.followText "set-order") t i) i ep) Q E s:=by
 have hsz:t.place.size=es.size:=by rw[G.sz,Va]
 have hos:(JU w a ep es).size=es.size:=by
  rw[<- X5,(Qt w a ep es).length_eq,X5]
 unfold setNext;refine ZB (yT ho G ?_);dsimp only;refine ZB (zdB ?_);cases hb:w.params.followText "set-order" with
 | true =>
  rw[if_pos rfl];rw[hb] at q1;rw[if_neg (by simp)];unfold setWalk;refine ZB (ZB (yT ho G ?_));dsimp only;refine ZB (zdB ?_);rw[hb,if_pos rfl];refine ZB (Rb (XY (XY ?_)));have eo:JU w a ep es=Rj (w.params.setOrder a ep) es:=by
   unfold JU;rw[hb,if_pos rfl]
  rw[eo] at q1 hos;show Q (Option.map _ (Rj (w.params.setOrder a ep) es)[i]?) s;by_cases h:i<es.size
  ·have e:(Rj (w.params.setOrder a ep) es)[i]?=some (Rj (w.params.setOrder a ep) es)[i]:=Vg (by lia);rw[e] at q1 ⊢;exact q1 _ rfl
  ·rw[WK (by lia)];exact q2 (by lia)
 | false =>
  rw[if_neg XT];rw[hb] at q1 hl;have eo:JU w a ep es=es:=by
   unfold JU;rw[hb,if_neg XT]
  rw[eo] at q1;split
  ·rename_i h;exact absurd h (by show ¬ ((!t.plain&&decide (es.size>1))=true);rw[hp];exact XT)
  refine ZB ?_;show Xo _ _ (if (!t.led && !es.isEmpty)=true then unsupported "set:maker-not-led" else pure ()) _ _ _;rw[hl,if_neg (by simp)];refine XY ?_;rw[below_at G.up (by lia)];by_cases h:i<es.size
  ·have e:es[i]?=some es[i]:=Vg h;have e2:t.place[i]?=some (t.place.getD i 0):=xX (by lia);rw[e] at q1 ⊢;rw[e2];refine XY (q1 _ rfl)
  ·rw[WK (by lia)];exact XY (q2 (by lia))
end
end ST
namespace ST
theorem zcy:Slot "set_iterator" "__iter__" "set_iterator.__iter__" :=
 .of (owner:="set_iterator") (n:="__iter__") (by rw[Sk,Ub];kernel_rfl) (by decide +kernel) (by decide +kernel) (by decide +kernel) (.inl (by decide +kernel)) (by rw[Pm];kernel_rfl)
theorem zfK:Os table "set_iterator.__iter__"=some UQ.«dict_keyiterator.__iter__»:=entryFor_alias (id':="dict_keyiterator.__iter__") (by kernel_rfl) rfl (by decide +kernel) (by kernel_rfl)
theorem zhG (a:X9):argsOk "set_iterator.__iter__" ⟨[a],[]⟩:=by
 unfold argsOk;rw[signature?_of (id:="set_iterator.__iter__") (n:=['_','_','r','e','t','i','_','_']) (o:=['r','o','t','a','r','e','t','i','_','t','e','s']) (by kernel_rfl) zbc];kernel_rfl
section
variable {prog:Xl}{w:W3}{A:WW}{E:X9->X8->Prop}{s:X8}{a I:Addr}{es:Array (Int×X9)}{ep:Nat}{t:Wr}
theorem zfL {slot i a n ep:Nat}(x y:Nat):Ud (·.setIfInBounds 1 (Ut y)) (Ud (·.setIfInBounds 0 (Ut x)) (zbd slot i a n ep))=zbd x y a n ep:=rfl
theorem zkC {i:Nat}{Q:Option X9->X8->Prop}(hI:s.heap.get? I=some (zbd (slotAt (w.params.followText "set-order") t i) i a es.size ep))(ho:s.heap.get? a=some (qd es ep t))(G:Good t (es.map (·.1)))(hl:t.led=!w.params.followText "set-order")(hp:t.plain=true)(hi:i<es.size)
  (q:∀v h',(JU w a ep es)[i]?.map (·.2)=some v->h'.get? I=some (zbd (slotAt (w.params.followText "set-order") t (i+1)) (i+1) a es.size ep)->VN I s.heap h'->Q (some v) { s with heap:=h' }) :
  Xo (Xr prog w) A (R4 (.ref I)) Q E s:=by
 have hT:s.TypeIs (.ref I) "set_iterator":=⟨_,hI,rfl⟩;unfold R4;refine ZB (Tx (QQ (name:=OJ "__next__") hT jW (Uv jW hT Qs ?_ (zau _))));unfold UQ.«set_iterator.__next__»;refine ZB (XY ?_);refine ZB (wpAny_fieldsOf hI rfl ?_);dsimp only[Ut];refine ZB (Sc (o:=qd es ep t) ho rfl ?_ ?_)
 ·have:=G.fits;rwa [Va] at this
 rw[if_neg (by simp)];show Xo _ _ (setNext a (slotAt (w.params.followText "set-order") t i) i ep >>= _) _ _ _;refine ZB (zgK ho G hl hp (S4 hi) (fun v hv=>?_) fun z=>absurd z (by lia));dsimp only;refine ZB (RW hI rfl (by simp[zbd]) ?_);have h1:=Wh (Ud (·.setIfInBounds 0 (Ut ((slotAt (w.params.followText "set-order") t (i+1):Nat):Int)))) hI rfl;refine ZB (RW h1 rfl (by simp[zbd,Ud]) ?_);have h2:=Wh (Ud (·.setIfInBounds 1 (Ut ((i:Int)+1)))) h1 rfl;refine XY ⟨_,rfl,XY (q v _ hv ?_ ((UB ..).trans (UB ..)))⟩;rw[show ((i:Int)+1)=((i+1:Nat):Int) by lia] at h2 ⊢;rw[zfL] at h2;exact h2
theorem zmo {Q:Option X9->X8->Prop}(hh:A.handled=none)(hI:s.heap.get? I=some (zbd (slotAt (w.params.followText "set-order") t es.size) es.size a es.size ep))(ho:s.heap.get? a=some (qd es ep t))(G:Good t (es.map (·.1)))(hl:t.led=!w.params.followText "set-order")(hp:t.plain=true)
  (q:∀h',Heap.ExtBut I s.heap h'->Q none { s with heap:=h' }):Xo (Xr prog w) A (R4 (.ref I)) Q E s:=by
 have hT:s.TypeIs (.ref I) "set_iterator":=⟨_,hI,rfl⟩;unfold R4;refine ZB (Tx (QQ (name:=OJ "__next__") hT jW (Uv jW hT Qs ?_ (zau _))));unfold UQ.«set_iterator.__next__»;refine ZB (XY ?_);refine ZB (wpAny_fieldsOf hI rfl ?_);dsimp only[Ut];refine ZB (Sc (o:=qd es ep t) ho rfl ?_ ?_)
 ·have:=G.fits;rwa [Va] at this
 rw[if_neg (by simp)];show Xo _ _ (setNext a (slotAt (w.params.followText "set-order") t es.size) es.size ep >>= _) _ _ _;refine ZB (zgK ho G hl hp (XW _) (fun v hv=>?_) fun _=>?_)
 ·have hos:(JU w a ep es).size=es.size:=by
   rw[<- X5,(Qt w a ep es).length_eq,X5]
  rw[WK (by lia)] at hv;cases hv
 dsimp only;refine ZB (RW hI rfl (by simp[zbd]) ?_);refine ZB ?_;simp only[newExc,newTuple];refine ZB (V5 ?_ (by size_fits));refine ZB (m:=RY _ _) (RG (a:=Value.none) (by first | rfl | (simp only[RY];rfl)) ?_);refine V5 ?_ (by size_fits);simp only[raiseNew];refine ZB (wpAny_handled ?_);rw[show A.in1.handled=none from hh];refine ZB (XY (OA ?_));refine ZB (wpAny_isInstance (T:="StopIteration") (b:=true) ⟨_,Xb _ rfl,rfl⟩ isSubtype_stop ?_);exact XY (q _ (((UB ..).extBut.push _).push _))
theorem zkD {slot i n:Nat}{Q:X9->X8->Prop}(hI:s.heap.get? I=some (zbd slot i a n ep))(q:Q (.ref I) s):Xo (Xr prog w) A (OE (.ref I)) Q E s:=by
 have hT:s.TypeIs (.ref I) "set_iterator":=⟨_,hI,rfl⟩;refine wpAny_pyIter_slot hT zcy (Uv zcy hT zfK ?_ (zhG _));exact XY ⟨_,rfl,"set_iterator",_,hT,jW.lookup,q⟩
theorem walks (hh:A.handled=none)(hne:a≠I)(G:Good t (es.map (·.1)))(hl:t.led=!w.params.followText "set-order")(hp:t.plain=true) :
  Walks prog w A I [I,a] [I] es.size (fun i v=>(JU w a ep es)[i]?.map (·.2)=some v) (fun i h=>h.get? I=some (zbd (slotAt (w.params.followText "set-order") t i) i a es.size ep)/\h.get? a=some (qd es ep t)) where
 sub:=fun b hb=>by simp at hb;simp[hb]
 frame:=fun _ _ _ st hk=>⟨hk I (by simp) _ st.1,hk a (by simp) _ st.2⟩
 item:=fun i s Q E hi st hQ=>zkC st.1 st.2 G hl hp hi fun v h' hv h1 hs=>hQ v h' s.toks hv ⟨h1,(hs.2 a hne).trans st.2⟩ fun b o hb e=>(hs.2 b fun z=>hb (by simp[z])).trans e
 done:=fun s Q E st hQ=>zmo hh st.1 st.2 G hl hp fun h' he=>hQ h' s.toks fun b o hb e=>he b o (fun z=>hb (by simp[z])) e
 self:=fun _ _ _ _ st hQ=>zkD st.1 hQ
theorem zet:splitId "set.__len__"=some ("set","__len__"):=by decide +kernel
theorem zeu {Q:List X9->X8->Prop}(hh:A.handled=none)(ho:s.heap.get? a=some (qd es ep t))(G:Good t (es.map (·.1)))(hl:t.led=!w.params.followText "set-order")(hp:t.plain=true)(hn:es.size<=64)
  (q:∀vs h' tk,vs.Perm (es.toList.map (·.2))->(∀b o,s.heap.get? b=some o->h'.get? b=some o)->s.heap.objs.size<=h'.objs.size->Q vs { s with heap:=h',toks:=tk }):Xo (Xr prog w) A (collect (.ref a)) Q E s:=by
 have hlt:a<s.heap.objs.size:=XQ ho;unfold collect;refine ZB (wpAny_runValue (VI PySem.F.entry_proto_collect ?_));rw[V0 PySem.F.plain_proto_collect _];show Xo _ A.in1 (newList [] >>= fun l=>Tc (.builtin "list.__iadd__" ⟨[l,.ref a],[]⟩)) _ _ s;refine ZB (V5 ?_);refine XY ⟨UF QP _,VI PySem.F.entry_list_iadd ?_⟩;rw[V0 QP _];show Xo _ A.in1 (R6 (.ref s.heap.objs.size) (.ref a) (.ref s.heap.objs.size)) _ _ _;generalize hL:(s.heap.push { cls:=.type "list",data:=.seq ([]:List X9).toArray })=h1;have ho1:h1.get? a=some (qd es ep t):=by rw[<- hL];exact X7 _ ho
 have hS1:h1.get? s.heap.objs.size=some { cls:=.type "list",data:=.seq #[] }:=by rw[<- hL];exact Xb _ rfl
 have kp1:∀b o,s.heap.get? b=some o->h1.get? b=some o:=fun b o e=>by rw[<- hL];exact X7 _ e
 have z1:h1.objs.size=s.heap.objs.size+1:=by rw[<- hL];exact VA ..
 have hT:Sv { s with heap:=h1 } (.ref a) "set":=⟨_,ho1,rfl⟩;have h1':Rp (.ref s.heap.objs.size) (.ref a)=false:=by
  simp[Rp];exact Uq hlt
 unfold R6;refine ZB (P7 hT ?_);rw[if_neg (by rw[h1'];decide)];have hf:t.fits es.size=true:=by
  have:=G.fits;rwa [Va] at this
 refine ZB (wpAny_pyIter_slot hT PD (Uv PD hT zdA ?_ (PySem.F.args_set_iter_1 _)));unfold UQ.«frozenset.__iter__» Builtin.Frozenset.slot0 slotArgs;simp only[List.isEmpty_nil,Bool.not_true,Wp,↓reduceIte,bind_assoc,Ue,bne_self_eq_false];unfold Builtin.Frozenset.addrOf Builtin.Frozenset.sizeOf;refine ZB (XY ?_);dsimp only;refine ZB (XY ?_);refine ZB (ZB (Sc (s:={ s with heap:=h1 }) (o:=qd es ep t) ho1 rfl hf (XY ?_)));unfold setDrawn;refine ZB (ZB (SR (s:={ s with heap:=h1 }) (o:=qd es ep t) ho1 rfl hf ?_));dsimp only;refine ZB (zdB (XY ?_));split
 ·rename_i h;exact absurd h (by show ¬ ((!w.params.followText "set-order" && (!t.plain&&decide (es.size>1)))=true);rw[hp];simp)
 refine ZB (XY ?_);unfold setEpoch;refine ZB (ZB (SR (s:={ s with heap:=h1 }) (o:=qd es ep t) ho1 rfl hf (XY ?_)));unfold newFields;refine ZB (V5 ?_);generalize hI:h1.push { cls:=.type "set_iterator",data:=.fields (List.toArray [Ut 0,Ut 0,WJ a,Ut ((es.size:Nat):Int),Ut ((ep:Nat):Int)]) }=h2;have ho2:h2.get? a=some (qd es ep t):=by rw[<- hI];exact X7 _ ho1
 have hS2:h2.get? s.heap.objs.size=some { cls:=.type "list",data:=.seq #[] }:=by rw[<- hI];exact X7 _ hS1
 have kp2:∀b o,s.heap.get? b=some o->h2.get? b=some o:=fun b o e=>by rw[<- hI];exact X7 _ (kp1 b o e)
 have hI2:h2.get? h1.objs.size=some (zbd 0 0 a es.size ep):=by rw[<- hI];exact Xb _ rfl
 have hTI:Sv { s with heap:=h2 } (.ref h1.objs.size) "set_iterator":=⟨_,hI2,rfl⟩;have hT2:Sv { s with heap:=h2 } (.ref a) "set":=⟨_,ho2,rfl⟩;refine XY ⟨_,rfl,"set_iterator",_,hTI,jW.lookup,?_⟩;refine ZB (WN ?_);unfold Builtin.List.listLengthHint;refine ZB (PL hT2 PySem.F.slot_set_len.lookup ?_);dsimp only;rw[zet];dsimp only;refine ZB (wpAny_isInstance (b:=true) hT2 sub_set_self ?_);rw[if_neg (by decide)];show Xo _ _ (typeOf (WJ a) >>= _) _ _ _;refine ZB (P7 hT2 ?_);show Xo _ _ (pure false) _ _ _;refine XY ?_;show Xo _ A.in1 (rule "list.extend.makes-room" >>= fun _=>Builtin.List.listTouch (.ref s.heap.objs.size) >>= fun _=>Tc (.builtin "list.extend.loop" ⟨[.ref s.heap.objs.size,.ref h1.objs.size,.ref s.heap.objs.size],[]⟩)) _ _ _;refine ZB (UG (ZB ?_));show Xo _ A.in1 (updateSeq s.heap.objs.size (·.push .none) >>= fun _=>updateSeq s.heap.objs.size (·.pop)) _ _ _;refine ZB (wpAny_updateSeq hS2 rfl ?_);have hS3:=Wh (U6 (·.push Value.none)) hS2 rfl;refine wpAny_updateSeq hS3 rfl ?_;have hS4:=Wh (U6 (·.pop)) hS3 rfl;have oth:∀b o,b≠s.heap.objs.size->h2.get? b=some o->((h2.update s.heap.objs.size (U6 (·.push Value.none))).update s.heap.objs.size (U6 (·.pop))).get? b=some o :=
  fun b o hb e=>(VF _ _ (Vy hb)).trans ((VF _ _ (Vy hb)).trans e)
 generalize (h2.update s.heap.objs.size (U6 (·.push Value.none))).update s.heap.objs.size (U6 (·.pop))=h4 at hS4 oth;have hne:a≠h1.objs.size:=by
  rw[z1];exact XA (W5 hlt)
 have hSf:s.heap.objs.size ∉ [h1.objs.size,a]:=by
  rw[z1];simp only[XR,Vf,or_false,not_or];exact⟨XA (Rg _),Uq hlt⟩
 have sl0:slotAt (w.params.followText "set-order") t 0=0:=by
  unfold slotAt;split<;>rfl
 have hos:(JU w a ep es).size=es.size:=by
  rw[<- X5,(Qt w a ep es).length_eq,X5]
 refine XY ⟨UF PySem.F.plain_extend_loop _,codeAny_extend_loopS ((walks (A:=A.in1) (prog:=prog) (ep:=ep) hh hne G hl hp).toS) (XV hn (by rw[Tb];decide)) _ hSf _ es.size 0 _ _ _ rfl (W1 _)
  ⟨by rw[sl0];exact oth _ _ (by rw[z1];exact VG _) hI2,oth _ _ (XA hlt) ho2⟩ hS4 (ItemsOf.nil _) fun s' acc' c' hm hS' hacc=>?_⟩
 show Xo _ A (load s.heap.objs.size >>= _) _ _ s';refine ZB (wpAny_load hS' ?_);obtain⟨h',g',d',tk',os'⟩:=s';have eg:g'=s.gens:=hm.gens;have ed:d'=s.drawn:=hm.drawn;have eo:os'=s.os:=hm.os;subst eg;subst ed;subst eo;refine XY (q _ _ _ ?_ (fun b o e=>?_) (S4 (XQ hS')))
 ·have e:acc'.toList=(JU w a ep es).toList.map (·.2):=by
   refine UM fun i=>?_;rw[Xx,Xn,Xx];by_cases hi:i<es.size
   ·have hi':i<acc'.size:=by rw[hacc.1];exact hi
    have e1:acc'[i]?=some acc'[i]:=Vg hi';rw[e1];exact(hacc.2 i _ e1).symm
   ·rw[WK (by rw[hacc.1];lia),WK (by lia)];rfl
  rw[e];exact(Qt w a ep es).map _
 ·have hb:b<s.heap.objs.size:=XQ e;refine hm.heap b o (fun z=>?_) (oth b o (XA hb) (kp2 b o e));rcases XR.mp z with z | z
  ·exact Wq _ (z ▸ hb)
  ·have z':b=h1.objs.size:=by simpa using z
   rw[z',z1] at hb;exact absurd hb (Nat.not_lt.mpr (Wg _))
end
end ST
open PySem PySem.Spec PyProof.Rows PySem.W
namespace ST
def zew (prog:Xl)(w:W3)(d:Addr)(ks:List (Addr×(Int×Int))):HO:=.ext fun h=>∃es ep t,h.get? d=some (qd es ep t)/\es.toList=ks.map (zbb (hP prog w))/\Good t (es.map (·.1))/\t.led=(!w.params.followText "set-order")/\t.plain=true
section
variable {prog:Xl}{w:W3}{A:WW}{R:Ps->X8->Prop}{I:Addr}{fp wr:List Addr}{G:Array Uz->Array Uz->Prop}{n:Nat}{P:Nat->X9->Prop}{St:Nat->X8->Prop}{led:Bool}
theorem ziV {h0:Heap}(W:WalksS prog w A.in1 I fp wr G n P St)(D:Addr)(hDf:D ∉ fp)(hD0:h0.get? D=none)(hw0:∀b∈wr,h0.get? b=none)(ps:List (Int×Int))(hlen:ps.length=n)(hu:A.units+1<U0)
  (T:Addr->Int×Int->Prop) (hT:∀x p,T x p->zv h0 (.ref x) p) (hP':∀i v,P i v->∃x p,v=.ref x/\ps[i]?=some p/\T x p) (hb:∀p∈ps,InB p) (few:∀l:List (Int×Int),l.Nodup->(∀c∈l,c∈ps)->l.length<=63) :
  ∀(k i:Nat) (s:X8) (ks:List (Addr×(Int×Int))),n-i=k->i<=n->St i s->(∀b o,h0.get? b=some o->s.heap.get? b=some o)->zb7 (hP prog w) led s.heap D ks->(∀c,c∈ks.map (·.2)↔c∈ps.take i)->(∀q∈ks,T q.1 q.2) ->
   (∀s' ks',Moved (D::wr) G s s'->zb7 (hP prog w) led s'.heap D ks'->(∀c,c∈ks'.map (·.2)↔c∈ps)->(∀q∈ks',T q.1 q.2)->R (.ok (.ret .none)) s') ->
   UR (Xr prog w) A (.builtin "set.update.loop" ⟨[.ref D,.ref I],[]⟩) R s:=by
 have hDw:D ∉ wr:=fun h=>hDf (W.sub _ h);have more:∀b∈wr,b∈D::wr:=fun b hb=>XX _ hb;have pair_up:∀{h:Heap} {x:Addr} {p:Int×Int},(∀b o,h0.get? b=some o->h.get? b=some o)->T x p->zv h (.ref x) p:=fun kp hx=>by
  obtain⟨b,o,m,t,u,e,e1,e2,e3⟩:=hT _ _ hx;exact⟨b,o,m,t,u,e,kp _ _ e1,e2,e3⟩
 have keep_to:∀{s s':X8},Moved wr G s s'->(∀b o,h0.get? b=some o->s.heap.get? b=some o)->∀b o,h0.get? b=some o->s'.heap.get? b=some o:=fun hm kp b o e =>
  hm.heap b o (fun hb=>by
   rw[hw0 b hb] at e;cases e) (kp b o e)
 have set_to:∀{s s':X8} {ks:List (Addr×(Int×Int))},Moved wr G s s'->(∀b o,h0.get? b=some o->s'.heap.get? b=some o)->(∀q∈ks,T q.1 q.2)->zb7 (hP prog w) led s.heap D ks->zb7 (hP prog w) led s'.heap D ks :=
  fun hm kp hk ⟨⟨es,ep,t,e1,e2⟩,e3,_,e5⟩=>⟨⟨es,ep,t,hm.heap D _ hDw e1,e2⟩,e3,fun q hq=>pair_up kp (hk q hq),e5⟩
 intro k;induction k with
 | zero =>
  intro i s ks hk hi hst kp hS hm' hTk hR;have hin:i=n:=by lia
  subst hin;refine VI TB ?_;rw[V0 U2 _];show Xo _ A.in1 (R4 (.ref I) >>= _) _ _ s;refine ZB (W.done s _ _ hst fun s' hm=>?_);refine XY (hR s' ks (hm.mono more) (set_to hm (keep_to hm kp) hTk hS) (fun c=>?_) hTk);rw[hm' c,<- hlen,Xq]
 | succ k ih =>
  intro i s ks hk hi hst kp hS hm' hTk hR;have hlt:i<n:=by lia
  refine VI TB ?_;rw[V0 U2 _];show Xo _ A.in1 (R4 (.ref I) >>= _) _ _ s;refine ZB (W.item i s _ _ hlt hst fun v s' hPv hst' hm=>?_);obtain⟨x,p,rfl,hq,hx⟩:=hP' i v hPv;have kp':=keep_to hm kp;have hS':=set_to hm kp' hTk hS;have hpm:p∈ps:=X0 hq;have tk:ps.take (i+1)=ps.take i++[p]:=by
   rw[Xm,hq];rfl
  refine ZB (WN (ziU (show A.in1.units<U0 from hu) hS' (pair_up kp' hx) (hb p hpm) (fun hno=>?_) fun b h' ks' hs' hS2 hmem znE=>?_))
  ·have:=few (p::ks.map (·.2)) (VU.mpr ⟨hno,hS'.nd⟩) fun c hc=>by
    rcases XR.mp hc with rfl | hc
    ·exact hpm
    ·exact V1 ((hm' c).mp hc)
   rw[Xp,Y1] at this;lia
  have kp2:∀b o,h0.get? b=some o->h'.get? b=some o:=fun b o e=>by
   rw[hs'.2 b (fun z=>by
    rw[z,hD0] at e;cases e)]
   exact kp' b o e
  refine XY ⟨UF U2 _,?_⟩;refine ih (i+1) _ ks' (by lia) hlt (W.frame _ s' _ _ hst' (TM _ _) fun b hb o e=>?_) kp2 hS2 (fun c=>?_) (fun q hq'=>?_) fun s'' ks'' hm'' hS'' hc'' hT''=>?_
  ·rw[hs'.2 b (fun z=>hDf (by rw[<- z];exact hb))];exact e
  ·rw[hmem c,hm' c,tk,XI,Wi]
  ·rcases znE q hq' with z | z
   ·exact hTk q z
   ·rw[z];exact hx
  ·refine hR s'' ks'' (Moved.trans W.gtrans ((hm.mono more).then_heap (TM _ _) fun b o hb e=>?_) hm'') hS'' hc'' hT'';rw[hs'.2 b (fun z=>hb (by rw[z];exact XU))];exact e
end
section
variable {prog:Xl}{w:W3}{A:WW}{E:X9->X8->Prop}{s:X8}
theorem zkE (a:X9){Q₁:X9->X8->Prop}(h:Q₁ (.ref s.heap.objs.size) { s with heap:=s.heap.push (qd #[] 0 (.fresh 0 0 (!w.params.followText "set-order"))) }) :
  UR (Xr prog w) A (.call (.builtin "set.__new__") ⟨[.type "set",a],[]⟩) (wants Q₁ E) s:=by
 refine codeAny_of_tree ?_;show Xo _ A.in1 (do Rh "set.__new__" ⟨[.type "set",a],[]⟩;Tc (.builtin "set.__new__" ⟨[.type "set",a],[]⟩)) _ _ s;refine ZB (RG (PySem.F.newCall_set_1 a) (XY ⟨UF PC _,VI PySem.F.entry_set_new ?_⟩));rw[V0 PC _];unfold UQ.«set.__new__» Builtin.Frozenset.newClass;have hsub:=sub_set_self;obtain⟨hp,g,d,tk,os⟩:=s;dsimp only;wp_walk;refine Rb (XY ?_);dsimp only;simp only[newObj];refine ZB (wpAny_alloc (XY ?_));exact XY h
theorem zfM (led:Bool):Good (.fresh 0 0 led) #[]:=⟨.inl rfl,rfl,rfl,fun i j _ h=>absurd h (by simp[SetTable.fresh]),fun i h=>absurd h (by simp[SetTable.fresh]),by simp[SetTable.fresh],fun i h=>absurd h (by simp[SetTable.fresh])⟩
end
end ST
namespace ST
section
variable {prog:Xl}{w:W3}{A:WW}{E:X9->X8->Prop}{s:X8}
set_option maxHeartbeats 8000000 in
theorem ziW {l:Addr}{its:Array X9}{ps:List (Int×Int)}{T:Addr->Int×Int->Prop}{Q:X9->X8->Prop}(hh:A.handled=none)(hu:A.units+64<U0)(hl:s.heap.IsList l its)(hlen:ps.length=its.size)
  (hT:∀x p,T x p->zv s.heap (.ref x) p) (hP':∀(i:Nat) (v:X9),its[i]?=some v->∃x p,v=WJ x/\ps[i]?=some p/\T x p) (hb:∀p∈ps,InB p) (few:∀l:List (Int×Int),l.Nodup->(∀c∈l,c∈ps)->l.length<=63)
  (h:∀(h':Heap) (tk:Nat) (ks:List (Addr×(Int×Int))),(∀b o,s.heap.get? b=some o->h'.get? b=some o)->zb7 (hP prog w) (!w.params.followText "set-order") h' s.heap.objs.size ks->(∀c,c∈ks.map (·.2)↔c∈ps)->(∀q∈ks,T q.1 q.2)->Q (.ref s.heap.objs.size) { s with heap:=h',toks:=tk }) :
  Xo (Xr prog w) A (call (.type "set") [.ref l]) Q E s:=by
 obtain⟨c,tl,hmro⟩:=PySem.F.called_set.mro;have hmade:=PySem.F.called_set.made;have hsub:=PySem.F.called_set.sub;refine wpAny_call (codeAny_of_tree ?_);show Xo _ _ (callAny (.type "set") _) _ _ _;refine XY ⟨Code.quiet_builtin _ (by decide +kernel),VI PySem.F.entry_type_call ?_⟩;rw[Around.under_plain (weight_type_call_type "set" [.ref l] []) rfl];have h1:=PySem.F.called_set.notType;have h2:=PySem.F.called_set.canCreate;have hct:=PySem.F.typeCall_set_1 (.ref l);repeat (any_goals (first | assumption | wp_step))
 refine Uo (zkE (.ref l) (E:=E) (Q₁:=fun obj s₁=>obj=.ref s.heap.objs.size/\s₁={ s with heap:=s.heap.push (qd #[] 0 (.fresh 0 0 (!w.params.followText "set-order"))) }) ⟨rfl,rfl⟩) fun r s₁ hr=>?_;cases r with
 | error e=>exact hr
 | ok fl =>
  cases fl with
  | ret obj =>
   obtain⟨rfl,rfl⟩:=hr;generalize hled:(!w.params.followText "set-order")=led at h ⊢;have hS:(s.heap.push (qd #[] 0 (.fresh 0 0 led))).get? s.heap.objs.size=some (qd #[] 0 (.fresh 0 0 led)):=Xb _ rfl;have hTy:Sv { s with heap:=s.heap.push (qd #[] 0 (.fresh 0 0 led)) } (.ref s.heap.objs.size) "set":=⟨_,hS,rfl⟩;have hli:=PySem.F.called_set.init.lookup;have hbi:=PySem.F.called_set.init.bind (.ref s.heap.objs.size);repeat (any_goals (first | assumption | wp_step))
   refine Uo (TX (R:=wants (fun r s₂=>r=.none/\∃h' tk ks,s₂={ s with heap:=h',toks:=tk }/\zb7 (hP prog w) led h' s.heap.objs.size ks/\(∀c,c∈ks.map (·.2)↔c∈ps)/\(∀q∈ks,T q.1 q.2) /\
     (∀b o,s.heap.get? b=some o->h'.get? b=some o)) E) PySem.F.called_set.init.plain PySem.F.entry_set_init (check_set_init_1 hTy ?_)) fun r₂ s₂ hr₂=>?_
   ·obtain⟨ol,hol,hcl,nl,hdl⟩:=hl;obtain⟨ocls,odict,odata,oslots⟩:=ol;simp only at hcl hdl;subst hcl;subst hdl;have hol':(s.heap.push (qd #[] 0 (.fresh 0 0 led))).get? l=some { cls:=.type "list",dict:=odict,data:=.seq its nl,slots:=oslots }:=X7 _ hol;have hsls:=PySem.F.sub_list_set;have hslf:=PySem.F.sub_list_frozenset;have hne:(P9 "list" == P9 "dict")=false:=by decide
    have hl1:(s.heap.push (qd #[] 0 (.fresh 0 0 led))).IsList l its:=⟨_,hol',rfl,nl,rfl⟩;unfold UQ.«set.__init__» noKeywords Builtin.Frozenset.updateFrom;generalize hG:s.heap.push (qd #[] 0 (.fresh 0 0 led))=G at hS hTy hol' hl1 ⊢;unfold qd at hS;generalize hPI:OE=PI;wp_walk;subst hPI;subst hG;refine SV hl1 ?_;refine ZB (wpAny_runValue ?_);have hlS:l<s.heap.objs.size:=XQ hol;have zS:(s.heap.push (qd #[] 0 (.fresh 0 0 led))).objs.size=s.heap.objs.size+1:=VA ..;have hneI:l≠(s.heap.push (qd #[] 0 (.fresh 0 0 led))).objs.size:=by
     rw[zS];exact XA (W5 hlS)
    have hSf:s.heap.objs.size ∉ [(s.heap.push (qd #[] 0 (.fresh 0 0 led))).objs.size,l]:=by
     rw[zS];simp only[XR,Vf,or_false,not_or];exact⟨XA (Rg _),Uq hlS⟩
    refine ziV (h0:=s.heap) (led:=led) ((Walks.list (by simp[hh]) (s.heap.push (qd #[] 0 (.fresh 0 0 led))).objs.size l hneI its).toS) s.heap.objs.size hSf (UJ (XW _)) (fun b hb=>?_) ps hlen (by show A.units+1+1+1<U0;lia) T hT hP' hb few (its.size-0) 0 _ [] rfl (W1 _)
     ⟨⟨_,Xb _ rfl,rfl,rfl⟩,(hl1.push _)⟩ (fun b o z=>X7 _ (X7 _ z)) ⟨⟨#[],0,.fresh 0 0 led,X7 _ hS,rfl,(by rw[Array.map_empty];exact zfM led),rfl,rfl⟩,T0,(fun q z=>nomatch z),(fun q z=>nomatch z)⟩ (fun c=>by simp) (fun q z=>nomatch z) ?_
    ·have e:b=(s.heap.push (qd #[] 0 (.fresh 0 0 led))).objs.size:=by simpa using hb
     rw[e,zS];exact UJ (Wg _)
    ·intro s' ks hm hS' hm' hT';obtain⟨h',g',d',tk',os'⟩:=s';have eg:g'=s.gens:=hm.gens;have ed:d'=s.drawn:=hm.drawn;have eo:os'=s.os:=hm.os;subst eg;subst ed;subst eo;show Xo _ _ _ _ _ _;refine XY ?_;show Xo _ _ (ret Value.none) _ _ _;refine XY ⟨rfl,h',tk',ks,rfl,hS',hm',hT',fun b o e=>?_⟩;have lt:=XQ e;refine hm.heap b o (fun z=>?_) (X7 _ (X7 _ e));rcases XR.mp z with z | z
     ·exact Wq _ (z ▸ lt)
     ·have z':b=(s.heap.push (qd #[] 0 (.fresh 0 0 led))).objs.size:=by simpa using z
      rw[z',zS] at lt;exact absurd lt (Nat.not_lt.mpr (Wg _))
   ·cases r₂ with
    | error e=>exact hr₂
    | ok fl₂ =>
     cases fl₂ with
     | ret r =>
      obtain⟨rfl,h',tk,ks,rfl,hS',hm',hT',hk'⟩:=hr₂;repeat (any_goals (first | assumption | wp_step))
      exact h _ _ _ hk' hS' hm' hT'
     | _=>exact hr₂.elim
  | _=>exact hr.elim
end
end ST
namespace ST
theorem zbe {α β:Type}(f:α->β){l l':List β}(h:l.Perm l'):∀ks:List α,l'=ks.map f->∃js:List α,js.Perm ks/\l=js.map f:=by
 induction h with
 | nil=>exact fun ks e=>⟨ks,List.Perm.refl _,e⟩
 | cons x h ih =>
  intro ks e;cases ks with
  | nil=>simp at e
  | cons k ks =>
   rw[Xs] at e;injection e with e1 e2
   obtain⟨js,h1,h2⟩:=ih ks e2;exact⟨k::js,h1.cons k,by rw[Xs,e1,h2]⟩
 | swap x y l =>
  intro ks e;match ks,e with
  | [],e=>simp at e
  | [k],e=>simp at e
  | k1::k2::ks,e =>
   rw[Xs,Xs] at e;injection e with e1 e2
   injection e2 with e2 e3
   exact⟨k2::k1::ks,List.Perm.swap k1 k2 ks,by rw[Xs,Xs,e1,e2,e3]⟩
 | trans h1 h2 ih1 ih2 =>
  intro ks e;obtain⟨js,a,b⟩:=ih2 ks e;obtain⟨is,c,d⟩:=ih1 js b;exact⟨is,c.trans a,d⟩
section
variable {X:Cx}
theorem zhH (hu:X.A.units+64<U0)(hh:X.A.handled=none):jR X (.type "set") (fun xs H Q=>∃l us ps,xs=[.ref l]/\SqL X.K H l us/\yR H us ps/\(∀p∈ps,InB p)/\(∀l:List (Int×Int),l.Nodup->(∀c∈l,c∈ps)->l.length<=63) /\
  ∀d ks,H d=none->(∀q∈ks,H q.1=some (.tup [.int q.2.1,.int q.2.2]))->(ks.map (·.2)).Nodup->(∀c,c∈ks.map (·.2)↔c∈ps)->Q (.ref d) (upd H d (zew X.prog X.w d ks))):=by
 intro pins s σ H xs us' Q I r h;obtain⟨l,us,ps,rfl,hq,ht,hb,few,q⟩:=h;obtain⟨u,rfl,ru⟩:=vals1 r;cases ru;obtain⟨its,rv,pl,hz⟩:=I.list hq;have hp:=yR.pairs I ht rv;have hlp:its.length=ps.length:=Paired.length hp;have tw:∀{us:List V} {ps:List (Int×Int)} {its:List X9},yR H us ps->Vals us its->∀(i:Nat) (v:X9),its[i]?=some v->∃x p,v=WJ x/\ps[i]?=some p/\H x=some (.tup [.int p.1,.int p.2]):=by
  intro us ps its h1;induction h1 generalizing its with
  | nil =>
   intro r i v e;cases r;simp at e
  | cons a t ih =>
   intro r i v e;obtain⟨x,rfl,hx⟩:=a;cases r with
   | cons r1 r2 =>
    cases r1;cases i with
    | zero =>
     simp at e;exact⟨x,_,e.symm,rfl,hx⟩
    | succ i =>
     obtain⟨y,p,h1,h2,h3⟩:=ih r2 i v (by simpa using e);exact⟨y,p,h1,by simpa using h2,h3⟩
 refine ziW (T:=fun x p=>H x=some (.tup [.int p.1,.int p.2])) hh hu pl.isList (by simp[hlp]) (fun x p hx=>?_) (fun i v e=>tw ht rv i v (by simpa using e)) hb few fun h' tk ks kk hS hm hT=>?_
 ·obtain⟨items,rv',tp,_⟩:=I.tuple (SqT.of hx);obtain⟨u1,u2,rfl,⟨t1,rfl⟩,⟨t2,rfl⟩⟩:=vals2 rv';obtain⟨ob,e1,c1,n,d1⟩:=tp;exact⟨x,ob,n,t1,t2,rfl,e1,c1,d1⟩
 ·have hD:H s.heap.objs.size=none:=I.hok.fresh (XW _);obtain⟨es,ep,t,ho,rest⟩:=hS.ex;refine⟨.ref s.heap.objs.size,upd H s.heap.objs.size (zew X.prog X.w s.heap.objs.size ks),I.laid (t':=tk) kk (XW _) ⟨⟨es,ep,t,ho,rest⟩,⟨_,ho⟩,fun h1 h2 ⟨es,ep,t,ho,rest⟩ k=>⟨es,ep,t,k _ ho,rest⟩⟩,rfl,q _ _ hD hT hS.nd hm⟩
end
end ST
namespace GS
section
variable {prog:Xl}{w:W3}{A:WW}{E:X9->X8->Prop}{s:X8}{rk:Xc->Int}{κ:T4}{a0:Array Xc}
def Rk (rk:Xc->Int)(xs:Array Xc)(i:Nat):Int:=match xs[i]? with
 | some p=>rk p
 | none=>0
theorem x6 {xs ys:Array Xc}{i j:Nat}(h:xs[i]?=ys[j]?):Rk rk xs i=Rk rk ys j:=by
 unfold Rk;rw[h]
def Up (rk:Xc->Int)(xs:Array Xc)(lo hi:Nat):Prop:=∀i j,lo<=i->i<=j->j<hi->Rk rk xs i<=Rk rk xs j
def Tells (prog:Xl)(w:W3)(A:WW)(s:X8)(κ:T4)(rk:Xc->Int)(a0:Array Xc):Prop :=
 ∀x∈a0.toList,∀y∈a0.toList,∀C:Bool->X8->Prop,C (decide (rk x<rk y)) s->Xo (Xr prog w) A (keyLt' κ x.1 y.1) C (fun _ _=>False) s
structure Ok (κ:T4)(a0:Array Xc)(st:WV):Prop where
 perm:(Xu st).Perm a0
 kind:kindOf st=κ
 good:S5 st=none
theorem Ok.size {st:WV}(h:Ok κ a0 st):(Xu st).size=a0.size:=h.perm.size_eq
theorem Ok.at {st:WV}(h:Ok κ a0 st){i:Nat}(hi:i<a0.size):∃x,(Xu st)[i]?=some x/\x∈a0.toList/\Rk rk (Xu st) i=rk x:=by
 have hi':i<(Xu st).size:=by rw[h.size];exact hi
 have e:(Xu st)[i]?=some (Xu st)[i]:=getElem?_pos _ i hi';refine⟨(Xu st)[i],e,(UV.mp h.perm).mem_iff.mp (by simp),?_⟩;unfold Rk;rw[e]
theorem ziX {st:WV}{x y:Xc}{Q:Option Bool->WV->Prop}(T:Tells prog w A s κ rk a0)(hk:kindOf st=κ)(hx:x∈a0.toList)(hy:y∈a0.toList)(h:Q (some (decide (rk x<rk y))) st):wpS (Xr prog w) A E s (lt' x y) Q st:=by
 rw[lt'_eq];refine XF (Sx ?_);rw[hk];refine XF (Rl (Tx (Xa (T x hx y hy (fun b s'=>s'=s/\b=decide (rk x<rk y)) ⟨rfl,rfl⟩) (fun b s' hb=>⟨hb.1,?_⟩) fun _ _ hF=>hF.elim)));rw[hb.2];exact Xw h
theorem qG {st:WV}{xs:Array Xc}{i:Nat}{x:Xc}{Q:Xc->WV->Prop}(e:xs[i]?=some x)(h:Q x st):wpS (Xr prog w) A E s (elem' xs i) Q st:=by
 rw[elem'_eq,e];exact Xw h
theorem zbf {st:WV}{i j:Nat}{Q:Option Bool->WV->Prop}(T:Tells prog w A s κ rk a0)(O:Ok κ a0 st)(hi:i<a0.size)(hj:j<a0.size)(h:Q (some (decide (Rk rk (Xu st) i<Rk rk (Xu st) j))) st):wpS (Xr prog w) A E s (ltAt' i j) Q st:=by
 obtain⟨x,e1,m1,r1⟩:=O.at (rk:=rk) hi;obtain⟨y,e2,m2,r2⟩:=O.at (rk:=rk) hj;rw[r1,r2] at h;rw[ltAt'_eq];refine XF (Sx ?_);exact XF (qG e1 (XF (qG e2 (ziX T O.kind m1 m2 h))))
structure Step (κ:T4)(a0:Array Xc)(lo:Nat)(st st':WV):Prop where
 ok:Ok κ a0 st'
 pend:WU st'=WU st
 low:∀i:Nat,i<lo->(Xu st')[i]?=(Xu st)[i]?
theorem Step.refl {lo:Nat}{st:WV}(O:Ok κ a0 st):Step κ a0 lo st st:=⟨O,rfl,fun _ _=>rfl⟩
theorem Q8 {xs:Array Xc}{i j:Nat}(hj:j<=xs.size)(k:Nat):Rk rk (mirror xs i j ((j-i)/2)) k=if i<=k/\k<j then Rk rk xs (i+j-1-k) else Rk rk xs k:=by
 have e:=O5 (i:=i) hj k;by_cases h1:i<=k/\k<j
 ·rw[if_pos h1] at e ⊢;exact x6 e
 ·rw[if_neg h1] at e ⊢;exact x6 e
theorem jw {xs:Array Xc}{i j:Nat}(hj:j<=xs.size)(heq:∀k,i<=k->k<j->Rk rk xs k=Rk rk xs (j-1))(k:Nat):Rk rk (mirror xs i j ((j-i)/2)) k=Rk rk xs k:=by
 rw[Q8 hj];split
 ·rw[heq _ (by lia) (by lia),heq k (by lia) (by lia)]
 ·rfl
theorem Step.mirror {lo i j:Nat}{st st':WV}(x:Step κ a0 lo st st')(hi:lo<=i)(hj:j<=a0.size):Step κ a0 lo st (setArr st' (mirror (Xu st') i j ((j-i)/2))):=by
 refine⟨⟨(mirror_perm _ _ _ _).trans x.ok.perm,x.ok.kind,x.ok.good⟩,x.pend,fun k hk=>?_⟩;show (PyProof.Rows.mirror (Xu st') i j ((j-i)/2))[k]?=_;rw[O5 (by rw[x.ok.size];exact hj),if_neg (by lia)];exact x.low k hk
theorem zgL {st:WV}{i j:Nat}{Q:Unit->WV->Prop}(h:Q () (setArr st (mirror (Xu st) i j ((j-i)/2)))):wpS (Xr prog w) A E s (Su i j) Q st:=by
 rw[reverseSlice'_eq];exact Th h
def up1 (lo a nrem:Nat):StateT WV Sem AscSt :=
 forIn [a:nrem] ((none,a):AscSt) fun _ c=>do
  let x <- ltAt' (lo+c.snd) (lo+c.snd-1)
  match x with
  | some b=>if b=true then pure (ForInStep.done (none,c.snd)) else pure (Vj (none,c.snd+1))
  | _=>pure (ForInStep.done (some none,c.snd))
def ziY (lo n nrem:Nat):StateT WV Sem (Option Nat):=do
 Su lo (lo+n)
 let c <- up1 lo n nrem
 match c.fst with
 | some r=>pure r
 | none=>pure (some c.snd)
def zgM (lo n nrem:Nat):StateT WV Sem DescSt :=
 forIn [n:nrem] ((none,n,0):DescSt) fun _ c=>do
  let x <- ltAt' (lo+c.snd.fst) (lo+c.snd.fst-1)
  match x with
  | some b =>
   if b=true then
    if c.snd.snd>0 then do
     Su (lo+c.snd.fst-(c.snd.snd+1)) (lo+c.snd.fst)
     pure (Vj (none,c.snd.fst+1,0))
    else pure (Vj (none,c.snd.fst+1,0))
   else do
    let x <- ltAt' (lo+c.snd.fst-1) (lo+c.snd.fst)
    match x with
    | some b =>
     if b=true then pure (ForInStep.done (none,c.snd.fst,c.snd.snd))
     else pure (Vj (none,c.snd.fst+1,c.snd.snd+1))
    | _=>pure (ForInStep.done (some none,c.snd.fst,c.snd.snd))
  | _=>pure (ForInStep.done (some none,c.snd.fst,c.snd.snd))
def part2 (lo n nrem:Nat):StateT WV Sem (Option Nat):=do
 liftM (rule "list.sort.descending-run")
 let c <- zgM lo (n+1) nrem
 match c.fst with
 | some r=>pure r
 | none =>
  if c.snd.snd>0 then do
   Su (lo+c.snd.fst-(c.snd.snd+1)) (lo+c.snd.fst)
   ziY lo c.snd.fst nrem
  else ziY lo c.snd.fst nrem
theorem run_eq (lo nrem:Nat):countRun' lo nrem=(do
  let c <- up1 lo 1 nrem
  match c.fst with
  | some r=>pure r
  | none =>
   if (c.snd==nrem)=true then pure (some c.snd)
   else if c.snd>1 then do
    let x <- ltAt' lo (lo+c.snd-1)
    match x with
    | some b=>if b=true then pure (some c.snd) else do
      Su lo (lo+c.snd)
      part2 lo c.snd nrem
    | _=>pure none
   else part2 lo c.snd nrem):=by
 rw[countRun'_eq];unfold part2 ziY zgM up1;refine bind_congr fun c=>?_;obtain⟨r,n⟩:=c;cases r with
 | some r=>rfl
 | none =>
  dsimp only;split
  ·rfl
  ·split
   ·refine bind_congr fun x=>?_;cases x with
    | none=>rfl
    | some b =>
     dsimp only;split
     ·rfl
     ·refine bind_congr fun _=>bind_congr fun _=>bind_congr fun c2=>?_;obtain⟨r2,n2,q2⟩:=c2;cases r2 with
      | some r2=>rfl
      | none =>
       dsimp only;split
       ·refine bind_congr fun _=>bind_congr fun _=>bind_congr fun c3=>?_;obtain⟨r3,n3⟩:=c3;cases r3<;>rfl
       ·refine bind_congr fun _=>bind_congr fun c3=>?_;obtain⟨r3,n3⟩:=c3;cases r3<;>rfl
   ·refine bind_congr fun _=>bind_congr fun c2=>?_;obtain⟨r2,n2,q2⟩:=c2;cases r2 with
    | some r2=>rfl
    | none =>
     dsimp only;split
     ·refine bind_congr fun _=>bind_congr fun _=>bind_congr fun c3=>?_;obtain⟨r3,n3⟩:=c3;cases r3<;>rfl
     ·refine bind_congr fun _=>bind_congr fun c3=>?_;obtain⟨r3,n3⟩:=c3;cases r3<;>rfl
end
end GS
namespace GS
section
variable {prog:Xl}{w:W3}{A:WW}{E:X9->X8->Prop}{s:X8}{rk:Xc->Int}{κ:T4}{a0:Array Xc}
def Down (rk:Xc->Int)(xs:Array Xc)(lo n:Nat):Prop:=∀i j,i<=j->j<n->Rk rk xs (lo+j)<=Rk rk xs (lo+i)
theorem zlx {st:WV}{lo a nrem:Nat}{Q:AscSt->WV->Prop}(T:Tells prog w A s κ rk a0)(O:Ok κ a0 st)(hn:lo+nrem<=a0.size)(ha:1<=a)(han:a<=nrem)(hs:Up rk (Xu st) lo (lo+a))
  (h:∀n,a<=n->n<=nrem->Up rk (Xu st) lo (lo+n)->(n=nrem\/Rk rk (Xu st) (lo+n)<Rk rk (Xu st) (lo+n-1))->Q (none,n) st):wpS (Xr prog w) A E s (up1 lo a nrem) Q st:=by
 unfold up1;refine VY (I:=fun x c st'=>st'=st/\c=(none,x)/\Up rk (Xu st) lo (lo+x)) ?step ?fin ⟨rfl,rfl,hs⟩
 case fin =>
  rintro c st' ⟨rfl,rfl,hs'⟩
  rw[show max a nrem=nrem by lia] at hs' ⊢
  exact h nrem han (XW _) hs' (.inl rfl)
 case step =>
  rintro x c st' hax hxn ⟨rfl,rfl,hs'⟩
  dsimp only
  refine XF (zbf T O (by lia) (by lia) ?_)
  by_cases hless:Rk rk (Xu st') (lo+x)<Rk rk (Xu st') (lo+x-1)
  ·simp only[hless,decide_true,if_true];exact Xw (h x hax (by lia) hs' (.inr hless))
  ·simp only[hless,decide_false,Wp,if_false];refine Xw ⟨rfl,rfl,fun i j hi hij hj=>?_⟩;by_cases hjx:j<lo+x
   ·exact hs' i j hi hij hjx
   ·obtain rfl:j=lo+x:=by lia
    by_cases hi':i=lo+x
    ·subst hi';exact UZ _
    ·exact Vq (hs' i (lo+x-1) hi (by lia) (by lia)) (OU.mp hless)
theorem ziZ {st0 st:WV}{lo n nrem:Nat}{Q:Option Nat->WV->Prop}(T:Tells prog w A s κ rk a0)(S:Step κ a0 lo st0 st)(hn:lo+nrem<=a0.size)(h1:1<=n)(hnn:n<=nrem)(hs:Down rk (Xu st) lo n)
  (h:∀m st',Step κ a0 lo st0 st'->1<=m->m<=nrem->Up rk (Xu st') lo (lo+m)->Q (some m) st'):wpS (Xr prog w) A E s (ziY lo n nrem) Q st:=by
 unfold ziY;refine XF (zgL ?_);have S':=S.mirror (i:=lo) (j:=lo+n) (XW _) (by lia);refine XF (zlx T S'.ok hn h1 hnn ?_ fun m hm1 hm2 hsm _=>Xw (h m _ S' (by lia) hm2 hsm));intro i j hi hij hj;have hsz:lo+n<=(Xu st).size:=by
  rw[S.ok.size];lia
 show Rk rk (mirror (Xu st) lo (lo+n) ((lo+n-lo)/2)) i<=Rk rk (mirror (Xu st) lo (lo+n) ((lo+n-lo)/2)) j;rw[Q8 hsz,Q8 hsz,if_pos (by lia),if_pos (by lia)];have:=hs (lo+n-1-j) (lo+n-1-i) (by lia) (by lia);rw[show lo+(lo+n-1-j)=lo+(lo+n)-1-j by lia,show lo+(lo+n-1-i)=lo+(lo+n)-1-i by lia] at this;exact this
theorem zkF {st0 st:WV}{lo n nrem:Nat}{Q:DescSt->WV->Prop}(T:Tells prog w A s κ rk a0)(S:Step κ a0 lo st0 st)(hn:lo+nrem<=a0.size)(h1:1<=n)(hnn:n<=nrem)(hs:Down rk (Xu st) lo n)
  (h:∀m q st',Step κ a0 lo st0 st'->n<=m->m<=nrem->Down rk (Xu st') lo m->q+1<=m->(∀i,m-(q+1)<=i->i<m->Rk rk (Xu st') (lo+i)=Rk rk (Xu st') (lo+(m-1)))->Q (none,m,q) st'):wpS (Xr prog w) A E s (zgM lo n nrem) Q st:=by
 unfold zgM;refine VY (I:=fun x c st'=>∃q,c=(none,x,q)/\Step κ a0 lo st0 st'/\Down rk (Xu st') lo x/\q+1<=x /\
   (∀i,x-(q+1)<=i->i<x->Rk rk (Xu st') (lo+i)=Rk rk (Xu st') (lo+(x-1)))) ?step ?fin ⟨0,rfl,S,hs,by lia,fun i h1 h2=>by congr 1;lia⟩
 case fin =>
  rintro c st' ⟨q,rfl,S',hs',hq,he⟩
  rw[show max n nrem=nrem by lia] at hs' hq he ⊢
  exact h nrem q st' S' hnn (XW _) hs' hq he
 case step =>
  rintro x c st' hax hxn ⟨q,rfl,S',hs',hq,he⟩
  dsimp only
  have hsz:lo+x<=(Xu st').size:=by
   rw[S'.ok.size];lia
  refine XF (zbf T S'.ok (by lia) (by lia) ?_)
  by_cases hless:Rk rk (Xu st') (lo+x)<Rk rk (Xu st') (lo+x-1)
  ·simp only[hless,decide_true,if_true];have step1:∀xs:Array Xc,(∀k,Rk rk xs k=Rk rk (Xu st') k)->Down rk xs lo (x+1):=by
    intro xs hk i j hij hj;rw[hk,hk];by_cases hjx:j<x
    ·exact hs' i j hij hjx
    ·obtain rfl:j=x:=by lia
     by_cases hi':i=j
     ·subst hi';exact UZ _
     ·have a1:=hs' i (j-1) (by lia) (by lia);rw[show lo+(j-1)=lo+j-1 by lia] at a1;exact Vq (VX hless) a1
   by_cases hq0:q>0
   ·rw[if_pos hq0];refine XF (zgL (Xw ⟨0,rfl,S'.mirror (by lia) (by lia),step1 _ (jw hsz fun k k1 k2=>?_),by lia,fun i h1 h2=>by congr 1;lia⟩));have a1:=he (k-lo) (by lia) (by lia);rw[show lo+(k-lo)=k by lia,show lo+(x-1)=lo+x-1 by lia] at a1;exact a1
   ·rw[if_neg hq0];exact Xw ⟨0,rfl,S',step1 _ (fun _=>rfl),by lia,fun i h1 h2=>by congr 1;lia⟩
  ·simp only[hless,decide_false,Wp,if_false];refine XF (zbf T S'.ok (by lia) (by lia) ?_);by_cases hmore:Rk rk (Xu st') (lo+x-1)<Rk rk (Xu st') (lo+x)
   ·simp only[hmore,decide_true,if_true];exact Xw (h x q st' S' hax (by lia) hs' hq he)
   ·simp only[hmore,decide_false,Wp,if_false];have heqx:Rk rk (Xu st') (lo+x)=Rk rk (Xu st') (lo+(x-1)):=by
     rw[show lo+(x-1)=lo+x-1 by lia];lia
    refine Xw ⟨q+1,rfl,S',fun i j hij hj=>?_,by lia,fun i h1 h2=>?_⟩
    ·by_cases hjx:j<x
     ·exact hs' i j hij hjx
     ·obtain rfl:j=x:=by lia
      by_cases hi':i=j
      ·subst hi';exact UZ _
      ·rw[heqx];exact hs' i (j-1) (by lia) (by lia)
    ·rw[show x+1-1=x by lia];by_cases hix:i=x
     ·subst hix;rfl
     ·rw[heqx];exact he i (by lia) (by lia)
theorem zgN {st0 st:WV}{lo n nrem:Nat}{Q:Option Nat->WV->Prop}(T:Tells prog w A s κ rk a0)(S:Step κ a0 lo st0 st)(hn:lo+nrem<=a0.size)(hnn:n+1<=nrem)(hs:Down rk (Xu st) lo (n+1))
  (h:∀m st',Step κ a0 lo st0 st'->1<=m->m<=nrem->Up rk (Xu st') lo (lo+m)->Q (some m) st'):wpS (Xr prog w) A E s (part2 lo n nrem) Q st:=by
 unfold part2;refine XF (Rl (UG ⟨rfl,?_⟩));refine XF (zkF T S hn (by lia) hnn hs fun m q st' S' hm1 hm2 hs' hq he=>?_);dsimp only;have hsz:lo+m<=(Xu st').size:=by
  rw[S'.ok.size];lia
 by_cases hq0:q>0
 ·rw[if_pos hq0];refine XF (zgL (ziZ T (S'.mirror (by lia) (by lia)) hn (by lia) hm2 ?_ h));intro i j hij hj;show Rk rk (mirror (Xu st') _ _ _) (lo+j)<=Rk rk (mirror (Xu st') _ _ _) (lo+i);have same:∀k,lo+m-(q+1)<=k->k<lo+m->Rk rk (Xu st') k=Rk rk (Xu st') (lo+m-1):=fun k k1 k2=>by
   have a1:=he (k-lo) (by lia) (by lia);rw[show lo+(k-lo)=k by lia,show lo+(m-1)=lo+m-1 by lia] at a1;exact a1
  rw[jw hsz same,jw hsz same];exact hs' i j hij hj
 ·rw[if_neg hq0];exact ziZ T S' hn (by lia) hm2 hs' h
theorem znF {st:WV}{lo nrem:Nat}{Q:Option Nat->WV->Prop}(T:Tells prog w A s κ rk a0)(O:Ok κ a0 st)(hn:lo+nrem<=a0.size)(h1:1<=nrem)
  (h:∀m st',Step κ a0 lo st st'->1<=m->m<=nrem->Up rk (Xu st') lo (lo+m)->Q (some m) st'):wpS (Xr prog w) A E s (countRun' lo nrem) Q st:=by
 have S:=Step.refl (lo:=lo) O;rw[run_eq];refine XF (zlx T O hn (XW 1) h1 (fun i j hi hij hj=>by
  obtain rfl:i=j:=by lia
  exact UZ _) fun n hn1 hn2 hsn hor=>?_)
 dsimp only;by_cases hnn:n=nrem
 ·rw[if_pos (by simpa using hnn)];exact Xw (h n st S hn1 hn2 hsn)
 ·rw[if_neg (by simpa using hnn)];have hlt:Rk rk (Xu st) (lo+n)<Rk rk (Xu st) (lo+n-1):=hor.resolve_left hnn;have hsz:lo+n<=(Xu st).size:=by
   rw[O.size];lia
  by_cases hgt:n>1
  ·rw[if_pos hgt];refine XF (zbf T O (by lia) (by lia) ?_);by_cases hrose:Rk rk (Xu st) lo<Rk rk (Xu st) (lo+n-1)
   ·simp only[hrose,decide_true,if_true];exact Xw (h n st S hn1 hn2 hsn)
   ·simp only[hrose,decide_false,Wp,if_false];have hall:∀k,lo<=k->k<lo+n->Rk rk (Xu st) k=Rk rk (Xu st) (lo+n-1):=by
     intro k k1 k2;have a1:=hsn lo k (XW _) k1 k2;have a2:=hsn k (lo+n-1) k1 (by lia) (by lia);lia
    refine XF (zgL (zgN T (S.mirror (XW _) (by lia)) hn (by lia) ?_ h));intro i j hij hj;show Rk rk (mirror (Xu st) _ _ _) (lo+j)<=Rk rk (mirror (Xu st) _ _ _) (lo+i);rw[jw hsz hall,jw hsz hall];by_cases hjn:j<n
    ·rw[hall (lo+i) (by lia) (by lia),hall (lo+j) (by lia) (by lia)];exact UZ _
    ·obtain rfl:j=n:=by lia
     by_cases hi':i=j
     ·subst hi';exact UZ _
     ·rw[hall (lo+i) (by lia) (by lia)];exact VX hlt
  ·rw[if_neg hgt];obtain rfl:n=1:=by lia
   refine zgN T S hn (by lia) ?_ h;intro i j hij hj;by_cases hi':i=j
   ·subst hi';exact UZ _
   ·obtain rfl:i=0:=by lia
    obtain rfl:j=1:=by lia
    rw[Tf] at hlt;exact VX hlt
theorem zcz {xs:Array Xc}{src d:Nat}(hs:src<xs.size)(hd:d<=src)(k:Nat):Rk rk (bubble xs src d) k=if k=src-d then Rk rk xs src else if src-d<k/\k<=src then Rk rk xs (k-1) else Rk rk xs k:=by
 have e:=getElem?_bubble hs d hd k;by_cases h1:k=src-d
 ·rw[if_pos h1] at e ⊢;exact x6 e
 ·rw[if_neg h1] at e ⊢;by_cases h2:src-d<k/\k<=src
  ·rw[if_pos h2] at e ⊢;exact x6 e
  ·rw[if_neg h2] at e ⊢;exact x6 e
theorem znG {st:WV}{lo n ok:Nat}{Q:Bool->WV->Prop}(T:Tells prog w A s κ rk a0)(O:Ok κ a0 st)(hn:lo+n<=a0.size)(hok:ok<=n)(hs:Up rk (Xu st) lo (lo+ok))
  (h:∀st',Step κ a0 lo st st'->Up rk (Xu st') lo (lo+n)->Q true st'):wpS (Xr prog w) A E s (binarySort' lo n ok) Q st:=by
 rw[binarySort'_eq];refine XF (Uy (VY (I:=fun k c st'=>c=(none,())/\Step κ a0 lo st st'/\Up rk (Xu st') lo (lo+min k n))
  (Q:=fun c st'=>c=(none,())/\Step κ a0 lo st st'/\Up rk (Xu st') lo (lo+n)) ?step ?fin ?init) ?post)
 case post =>
  rintro c st' ⟨rfl,S',hs'⟩
  exact Xw (h st' S' hs')
 case init =>
  refine⟨rfl,Step.refl O,fun i j hi hij hj=>?_⟩
  by_cases h1:ok=0
  ·obtain rfl:i=j:=by lia
   exact UZ _
  ·exact hs i j hi hij (by lia)
 case fin =>
  rintro c st' ⟨hc,S',hs'⟩
  refine⟨hc,S',?_⟩
  rwa [show min (max (max ok 1) n) n=n by lia] at hs'
 case step =>
  rintro k c st' hak hkn ⟨rfl,S',hs'⟩
  rw[show min k n=k by lia] at hs'
  have O':=S'.ok
  have hk:lo+k<a0.size:=by lia
  refine XF (Uy (VY (I:=fun x c st''=>st''=st'/\∃l r,c=(none,l,r)/\l<=r/\r<=k/\r-l<=k-x /\
    (∀i,i<l->Rk rk (Xu st') (lo+i)<=Rk rk (Xu st') (lo+k))/\(∀i,r<=i->i<k->Rk rk (Xu st') (lo+k)<Rk rk (Xu st') (lo+i)))
   (Q:=fun c st''=>st''=st'/\∃l r,c=(none,l,r)/\l<=k /\
    (∀i,i<l->Rk rk (Xu st') (lo+i)<=Rk rk (Xu st') (lo+k))/\(∀i,l<=i->i<k->Rk rk (Xu st') (lo+k)<Rk rk (Xu st') (lo+i))) ?istep ?ifin ?iinit) ?ipost)
  case iinit=>exact⟨rfl,0,k,rfl,by lia,by lia,by lia,fun i hi=>by lia,fun i h1 h2=>by lia⟩
  case ifin =>
   rintro c st'' ⟨rfl,l,r,rfl,hlr,hrk,hm,hlo,hhi⟩
   obtain rfl:l=r:=by lia
   exact⟨rfl,l,l,rfl,hrk,hlo,hhi⟩
  case istep =>
   rintro x c st'' _ hxk ⟨rfl,l,r,rfl,hlr,hrk,hm,hlo,hhi⟩
   dsimp only
   by_cases hge:l >= r
   ·rw[if_pos hge];obtain rfl:l=r:=by lia
    exact Xw ⟨rfl,l,l,rfl,hrk,hlo,hhi⟩
   ·rw[if_neg hge];refine XF (zbf T O' hk (by lia) ?_);by_cases hless:Rk rk (Xu st'') (lo+k)<Rk rk (Xu st'') (lo+(l+r)/2)
    ·simp only[hless,decide_true,if_true];refine Xw ⟨rfl,l,(l+r)/2,rfl,by lia,by lia,by lia,hlo,fun i h1 h2=>?_⟩;exact Int.lt_of_lt_of_le hless (hs' _ _ (by lia) (by lia) (by lia))
    ·simp only[hless,decide_false,Wp,if_false];refine Xw ⟨rfl,(l+r)/2+1,r,rfl,by lia,by lia,by lia,fun i h1=>?_,hhi⟩;exact Vq (hs' (lo+i) (lo+(l+r)/2) (by lia) (by lia) (by lia)) (OU.mp hless)
  case ipost =>
   rintro c st'' ⟨rfl,l,r,rfl,hlk,hlo,hhi⟩
   show wpS _ _ _ _ (do moveDown' (lo+k) (lo+l);pure (Vj (none,()))) _ _
   rw[moveDown'_eq]
   have hks:lo+k<(Xu st'').size:=by
    rw[O'.size];exact hk
   refine XF (Th (Xw ⟨rfl,⟨⟨(bubble_perm _ _ _).trans O'.perm,O'.kind,O'.good⟩,S'.pend,fun i hi=>?_⟩,?_⟩))
   ·show (bubble (Xu st'') (lo+k) (lo+k-(lo+l)))[i]?=_;rw[getElem?_bubble hks _ (by lia),if_neg (by lia),if_neg (by lia)];exact S'.low i hi
   ·rw[show min (k+1) n=k+1 by lia];intro i j hi hij hj;show Rk rk (bubble (Xu st'') (lo+k) (lo+k-(lo+l))) i<=Rk rk (bubble (Xu st'') (lo+k) (lo+k-(lo+l))) j;rw[zcz hks (by lia),zcz hks (by lia),show lo+k-(lo+k-(lo+l))=lo+l by lia];have up:∀a b,lo<=a->a<=b->b<lo+k->Rk rk (Xu st'') a<=Rk rk (Xu st'') b:=hs';have low:∀a,lo<=a->a<lo+l->Rk rk (Xu st'') a<=Rk rk (Xu st'') (lo+k):=fun a a1 a2=>by
     have:=hlo (a-lo) (by lia);rwa [show lo+(a-lo)=a by lia] at this
    have high:∀a,lo+l<=a->a<lo+k->Rk rk (Xu st'') (lo+k)<Rk rk (Xu st'') a:=fun a a1 a2=>by
     have:=hhi (a-lo) (by lia) (by lia);rwa [show lo+(a-lo)=a by lia] at this
    repeat' split
    all_goals first
     | (exfalso;lia)
     | exact UZ _
     | exact low _ (by lia) (by lia)
     | exact VX (high _ (by lia) (by lia))
     | exact up _ _ (by lia) (by lia) (by lia)
end
end GS
namespace GS
def gallop':Bool->Xc->Array Xc->Nat->Nat->Nat->StateT WV Sem (Option Nat):=sortPriv% PySem.Builtin.gallop
def mergeLo':Array Xc->Array Xc->StateT WV Sem (Array Xc):=sortPriv% PySem.Builtin.mergeLo
def mergeHi':Array Xc->Array Xc->StateT WV Sem (Array Xc):=sortPriv% PySem.Builtin.mergeHi
section
variable {prog:Xl}{w:W3}{A:WW}{E:X9->X8->Prop}{s:X8}{rk:Xc->Int}{κ:T4}{a0:Array Xc}
def bey (rk:Xc->Int)(left:Bool)(key x:Xc):Bool:=if left then decide (rk x<rk key) else !decide (rk key<rk x)
theorem zex {st:WV}{left:Bool}{key:Xc}{arr:Array Xc}{base n hint:Nat}{Q:Option Nat->WV->Prop}(T:Tells prog w A s κ rk a0)(hk:kindOf st=κ)(hkey:key∈a0.toList)(b:Nat->Bool)
  (he:∀i,i<n->∃x,arr[base+i]?=some x/\x∈a0.toList/\b i=bey rk left key x) (mono:∀i j,i<=j->j<n->b j=true->b i=true) (hh:hint<n)
  (h:∀k,k<=n->(∀i,i<k->b i=true)->(∀i,k<=i->i<n->b i=false)->Q (some k) st):wpS (Xr prog w) A E s (gallop' left key arr base n hint) Q st:=by
 have one:∀{i:Nat} {Q':Option Bool->WV->Prop},i<n->Q' (some (b i)) st->wpS (Xr prog w) A E s (do
   let x <- elem' arr (base+i)
   if left=true then lt' x key
    else do
     let r <- lt' key x
     pure (Option.map (fun x=>!x) r)) Q' st:=by
  intro i Q' hi hq;obtain⟨x,e1,e2,e3⟩:=he i hi;refine XF (qG e1 ?_);unfold bey at e3;cases left with
  | true =>
   rw[if_pos rfl] at e3 ⊢;rw[e3] at hq;exact ziX T hk e2 hkey hq
  | false =>
   rw[if_neg XT] at e3 ⊢;rw[e3] at hq;exact XF (ziX T hk hkey e2 (Xw hq))
 have last:∀{f:Nat->Option (Option Nat)×Nat×Nat->StateT WV Sem (ForInStep (Option (Option Nat)×Nat×Nat))} {g:Option (Option Nat)×Nat×Nat->StateT WV Sem (Option Nat)},
   (∀x l r (R:ForInStep (Option (Option Nat)×Nat×Nat)->WV->Prop),l >= r->R (.done (none,l,r)) st->wpS (Xr prog w) A E s (f x (none,l,r)) R st) ->
   (∀x l r (R:ForInStep (Option (Option Nat)×Nat×Nat)->WV->Prop),l<r->r<=n->R (.yield (if b (l+(r-l)/2)=true then (none,l+(r-l)/2+1,r) else (none,l,l+(r-l)/2))) st->wpS (Xr prog w) A E s (f x (none,l,r)) R st) ->
   (∀l r,Q (some r) st->wpS (Xr prog w) A E s (g (none,l,r)) Q st) ->
   ∀(lo hi:Nat),lo<=hi->hi<=n->(∀i,i<lo->b i=true)->(∀i,hi<=i->i<n->b i=false)->wpS (Xr prog w) A E s (forIn [:n] ((none,lo,hi):Option (Option Nat)×Nat×Nat) f >>= g) Q st:=by
  intro f g f1 f2 g1 lo hi h1 h2 h3 h4;refine XF (Uy (VY (I:=fun x c st'=>st'=st/\∃l r,c=(none,l,r)/\l<=r/\r<=n/\r-l<=n-x/\(∀i,i<l->b i=true)/\(∀i,r<=i->i<n->b i=false))
   (Q:=fun c st'=>st'=st/\∃l,c=(none,l,l)/\l<=n/\(∀i,i<l->b i=true)/\(∀i,l<=i->i<n->b i=false)) ?step ?fin ⟨rfl,lo,hi,rfl,h1,h2,by lia,h3,h4⟩) ?post)
  case fin =>
   rintro c st' ⟨rfl,l,r,rfl,a1,a2,a3,a4,a5⟩
   obtain rfl:l=r:=by lia
   exact⟨rfl,l,rfl,a2,a4,a5⟩
  case post =>
   rintro c st' ⟨rfl,l,rfl,a2,a4,a5⟩
   exact g1 l l (h l a2 a4 a5)
  case step =>
   rintro x c st' _ hx ⟨rfl,l,r,rfl,a1,a2,a3,a4,a5⟩
   by_cases hge:l >= r
   ·obtain rfl:l=r:=by lia
    exact f1 x l l _ hge ⟨rfl,l,rfl,a2,a4,a5⟩
   ·refine f2 x l r _ (by lia) a2 ?_;cases hb:b (l+(r-l)/2) with
    | true =>
     rw[if_pos rfl];exact⟨rfl,l+(r-l)/2+1,r,rfl,by lia,a2,by lia,fun i hi=>mono i _ (by lia) (by lia) hb,a5⟩
    | false =>
     rw[if_neg XT];refine⟨rfl,l,l+(r-l)/2,rfl,by lia,by lia,by lia,a4,fun i i1 i2=>?_⟩;cases hbi:b i with
     | false=>rfl
     | true =>
      have:=mono _ i i1 i2 hbi;rw[hb] at this;cases this
 refine XF (one hh ?_);dsimp only;cases hb:b hint with
 | true =>
  rw[if_pos rfl];refine XF (Uy (VY (I:=fun x c st'=>st'=st/\∃l o,c=(none,l,o)/\l<o/\hint+l<n/\b (hint+l)=true/\x+1<=o)
   (Q:=fun c st'=>st'=st/\∃l o,c=(none,l,o)/\l<o/\hint+l<n/\b (hint+l)=true/\(o >= n-hint\/(hint+o<n/\b (hint+o)=false))) ?step ?fin ⟨rfl,0,1,rfl,by lia,hh,hb,by lia⟩) ?post)
  case fin =>
   rintro c st' ⟨rfl,l,o,rfl,a1,a2,a3,a4⟩
   exact⟨rfl,l,o,rfl,a1,a2,a3,.inl (by lia)⟩
  case step =>
   rintro x c st' _ hx ⟨rfl,l,o,rfl,a1,a2,a3,a4⟩
   dsimp only
   by_cases hge:o >= n-hint
   ·rw[if_pos hge];exact Xw ⟨rfl,l,o,rfl,a1,a2,a3,.inl hge⟩
   ·rw[if_neg hge];refine XF (one (by lia) ?_);dsimp only;cases hbo:b (hint+o) with
    | false =>
     rw[if_pos (by decide)];exact Xw ⟨rfl,l,o,rfl,a1,a2,a3,.inr ⟨by lia,hbo⟩⟩
    | true =>
     rw[if_neg (by decide)];exact Xw ⟨rfl,o,2*o+1,rfl,by lia,by lia,hbo,by lia⟩
  case post =>
   rintro c st' ⟨rfl,l,o,rfl,a1,a2,a3,a4⟩
   refine last (fun x l r R hge hR=>?_) (fun x l r R hlt hr hR=>?_) (fun l r hq=>Xw hq) (hint+l+1) (hint+min o (n-hint)) (by lia) (by lia) (fun i hi=>mono i (hint+l) (by lia) a2 a3) fun i i1 i2=>?_
   ·dsimp only;rw[if_pos hge];exact Xw hR
   ·dsimp only;rw[if_neg (by lia)];refine XF (one (by lia) ?_);dsimp only;cases hbm:b (l+(r-l)/2) with
    | true =>
     rw[hbm,if_pos rfl] at hR;rw[if_pos rfl];exact Xw hR
    | false =>
     rw[hbm,if_neg XT] at hR;rw[if_neg XT];exact Xw hR
   ·rcases a4 with a4 | ⟨a4,a5⟩
    ·lia
    ·cases hbi:b i with
     | false=>rfl
     | true =>
      have:=mono _ i (show hint+o<=i by lia) i2 hbi;rw[a5] at this;cases this
 | false =>
  rw[if_neg XT];refine XF (Uy (VY (I:=fun x c st'=>st'=st/\∃l o,c=(none,l,o)/\l<o/\l<=hint/\b (hint-l)=false/\x+1<=o)
   (Q:=fun c st'=>st'=st/\∃l o,c=(none,l,o)/\l<o/\l<=hint/\b (hint-l)=false/\(o >= hint+1\/(o<=hint/\b (hint-o)=true))) ?step ?fin ⟨rfl,0,1,rfl,by lia,by lia,hb,by lia⟩) ?post)
  case fin =>
   rintro c st' ⟨rfl,l,o,rfl,a1,a2,a3,a4⟩
   exact⟨rfl,l,o,rfl,a1,a2,a3,.inl (by lia)⟩
  case step =>
   rintro x c st' _ hx ⟨rfl,l,o,rfl,a1,a2,a3,a4⟩
   dsimp only
   by_cases hge:o >= hint+1
   ·rw[if_pos hge];exact Xw ⟨rfl,l,o,rfl,a1,a2,a3,.inl hge⟩
   ·rw[if_neg hge];refine XF (one (by lia) ?_);dsimp only;cases hbo:b (hint-o) with
    | true =>
     rw[if_pos rfl];exact Xw ⟨rfl,l,o,rfl,a1,a2,a3,.inr ⟨by lia,hbo⟩⟩
    | false =>
     rw[if_neg (by decide)];exact Xw ⟨rfl,o,2*o+1,rfl,by lia,by lia,hbo,by lia⟩
  case post =>
   rintro c st' ⟨rfl,l,o,rfl,a1,a2,a3,a4⟩
   refine last (fun x l r R hge hR=>?_) (fun x l r R hlt hr hR=>?_) (fun l r hq=>Xw hq) (hint+1-min o (hint+1)) (hint-l) (by lia) (by lia) (fun i hi=>?_) fun i i1 i2=>?_
   ·dsimp only;rw[if_pos hge];exact Xw hR
   ·dsimp only;rw[if_neg (by lia)];refine XF (one (by lia) ?_);dsimp only;cases hbm:b (l+(r-l)/2) with
    | true =>
     rw[hbm,if_pos rfl] at hR;rw[if_pos rfl];exact Xw hR
    | false =>
     rw[hbm,if_neg XT] at hR;rw[if_neg XT];exact Xw hR
   ·rcases a4 with a4 | ⟨a4,a5⟩
    ·lia
    ·exact mono i (hint-o) (by lia) (by lia) a5
   ·cases hbi:b i with
    | false=>rfl
    | true =>
     have:=mono _ i i1 i2 hbi;rw[a3] at this;cases this
end
end GS
namespace GS
structure MI (rk:Xc->Int)(aL bL:List Xc)(ia ib:Nat)(oL:List Xc):Prop where
 perm:oL.Perm (aL.take ia++bL.take ib)
 srt:oL.Pairwise fun x y=>rk x<=rk y
 la:∀x∈oL,∀y∈aL.drop ia,rk x<=rk y
 lb:∀x∈oL,∀y∈bL.drop ib,rk x<=rk y
section
variable {rk:Xc->Int}{aL bL oL:List Xc}{ia ib:Nat}
theorem MI.swap (M:MI rk aL bL ia ib oL):MI rk bL aL ib ia oL:=⟨M.perm.trans Ua,M.srt,M.lb,M.la⟩
theorem zhI (l:List Xc)(i k:Nat):l.take (i+k)=l.take i++(l.drop i).take k:=by
 rw[List.take_add]
theorem MI.takeA (M:MI rk aL bL ia ib oL)(sa:aL.Pairwise fun x y=>rk x<=rk y)(k:Nat)(h:∀x∈(aL.drop ia).take k,∀y∈bL.drop ib,rk x<=rk y):MI rk aL bL (ia+k) ib (oL++(aL.drop ia).take k):=by
 have sd:(aL.drop ia).Pairwise fun x y=>rk x<=rk y:=sa.sublist (RA _ _);have e2:(aL.drop ia).drop k=aL.drop (ia+k):=Pl;refine⟨?_,?_,fun x hx y hy=>?_,fun x hx y hy=>?_⟩
 ·rw[zhI,W7];refine(M.perm.append_right _).trans ?_;rw[W7];exact SJ _ Ua
 ·rw[UI];exact⟨M.srt,sd.sublist (T8 _ _),fun x hx y hy=>M.la x hx y (V1 hy)⟩
 ·rw[<- e2] at hy;rcases XI.mp hx with hx | hx
  ·exact M.la x hx y (TW hy)
  ·have:=sd;rw[<- WC k (aL.drop ia),UI] at this;exact this.2.2 x hx y hy
 ·rcases XI.mp hx with hx | hx
  ·exact M.lb x hx y hy
  ·exact h x hx y hy
theorem MI.takeB (M:MI rk aL bL ia ib oL)(sb:bL.Pairwise fun x y=>rk x<=rk y)(k:Nat)(h:∀x∈(bL.drop ib).take k,∀y∈aL.drop ia,rk x<=rk y):MI rk aL bL ia (ib+k) (oL++(bL.drop ib).take k):=(M.swap.takeA sb k h).swap
def Mg (rk:Xc->Int)(aL bL oL:List Xc):Prop:=oL.Perm (aL++bL)/\oL.Pairwise fun x y=>rk x<=rk y
theorem MI.all (M:MI rk aL bL ia ib oL)(ha:aL.length<=ia)(hb:bL.length<=ib):Mg rk aL bL oL:=by
 have:=M.perm;rw[WL ha,WL hb] at this;exact⟨this,M.srt⟩
theorem MI.doneB (M:MI rk aL bL ia ib oL)(sa:aL.Pairwise fun x y=>rk x<=rk y)(hb:bL.length<=ib):Mg rk aL bL (oL++aL.drop ia):=by
 have:=M.takeA sa (aL.drop ia).length (fun x _ y hy=>by
  rw[SL hb] at hy;cases hy)
 rw[Xq] at this;exact this.all (by rw[V9];lia) hb
theorem MI.lastA (M:MI rk aL bL ia ib oL)(sa:aL.Pairwise fun x y=>rk x<=rk y)(sb:bL.Pairwise fun x y=>rk x<=rk y)(h:∀x∈bL,∀y∈aL.drop ia,rk x<=rk y):Mg rk aL bL (oL++bL.drop ib++aL.drop ia):=by
 have M2:=M.takeB sb (bL.drop ib).length (fun x hx y hy=>h x (TW (V1 hx)) y hy);rw[Xq] at M2;exact M2.doneB sa (by rw[V9];lia)
theorem ext_toList (a:Array Xc)(i j:Nat)(hj:i<=j):(a.extract i j).toList=(a.toList.drop i).take (j-i):=by
 rw[Pi,RM]
theorem Qu (a:Array Xc)(i:Nat):(a.extract i a.size).toList=a.toList.drop i:=by
 rw[Pi,RM,WL];rw[V9,X5];exact XW _
theorem zi0 {a:Array Xc}{i:Nat}{x:Xc}(h:a[i]?=some x):(a.toList.drop i).take 1=[x]:=by
 have hi:i<a.toList.length:=by
  rw[X5];exact(V8.mp h).1
 rw[WF hi,UA,List.take_zero];have:a.toList[i]?=some x:=by rw[Xx];exact h
 rw[X4 hi] at this;rw[Option.some.inj this]
end
section
variable {prog:Xl}{w:W3}{A:WW}{E:X9->X8->Prop}{s:X8}{rk:Xc->Int}{κ:T4}{a0:Array Xc}
structure Kept (st st':WV):Prop where
 arr:Xu st'=Xu st
 kind:kindOf st'=kindOf st
 pend:WU st'=WU st
 bad:S5 st'=S5 st
def setG':Nat->StateT WV Sem Unit:=sortPriv% PySem.Builtin.setMinGallop
theorem Kept.refl (st:WV):Kept st st:=⟨rfl,rfl,rfl,rfl⟩
theorem zdC {st0 st:WV}{g:Nat}{Q:Unit->WV->Prop}(k:Kept st0 st)(h:∀st',Kept st0 st'->Q () st'):wpS (Xr prog w) A E s (setG' g) Q st:=by
 have e:setG' g=modify fun c=>SortSt.mk' (kindOf c) (Xu c) (WU c) g (S5 c):=rfl;rw[e];exact Th (h _ ⟨k.arr,k.kind,k.pend,k.bad⟩)
theorem qj {α:Type}{c:Prop} [Decidable c]{x y:StateT WV Sem α}{Q:α->WV->Prop}{st:WV}(h1:c->wpS (Xr prog w) A E s x Q st)(h2:¬ c->wpS (Xr prog w) A E s y Q st):wpS (Xr prog w) A E s (if c then x else y) Q st:=by
 by_cases hc:c
 ·rw[if_pos hc];exact h1 hc
 ·rw[if_neg hc];exact h2 hc
theorem qT {a:Array Xc}{i:Nat}(h:i<a.size):∃x,a[i]?=some x/\x∈a.toList:=⟨a[i],getElem?_pos a i h,by simp⟩
theorem Jt {a:Array Xc}(sa:a.toList.Pairwise fun x y=>rk x<=rk y){i:Nat}{x:Xc}(e:a[i]?=some x):∀y∈a.toList.drop i,rk x<=rk y:=by
 have hi:i<a.toList.length:=by
  rw[X5];exact(V8.mp e).1
 have e':a.toList[i]?=some x:=by rw[Xx];exact e
 rw[X4 hi] at e';have ex:=Option.some.inj e';have sd:=sa.sublist (RA i a.toList);rw[WF hi,ex,RS] at sd;rw[WF hi,ex];intro y hy;rcases XR.mp hy with rfl | hy
 ·exact UZ _
 ·exact sd.1 y hy
theorem Z3 {a b out:Array Xc}{ia ib:Nat}(M:MI rk a.toList b.toList ia ib out.toList)(sa:a.toList.Pairwise fun x y=>rk x<=rk y)(hb:b.size<=ib):Mg rk a.toList b.toList (out++a.extract ia a.size++b.extract ib b.size).toList:=by
 rw[WP,WP,Qu,Qu,SL (as:=b.toList) (by rw[X5];exact hb),W0];exact M.doneB sa (by rw[X5];exact hb)
theorem Z4 {a b out:Array Xc}{ia ib:Nat}(M:MI rk a.toList b.toList ia ib out.toList)(sa:a.toList.Pairwise fun x y=>rk x<=rk y)(sb:b.toList.Pairwise fun x y=>rk x<=rk y)(hl:∀x∈b.toList,∀y,a[a.size-1]?=some y->rk x<=rk y)(ha:ia+1=a.size):Mg rk a.toList b.toList (out++b.extract ib b.size++a.extract ia a.size).toList:=by
 rw[WP,WP,Qu,Qu];refine M.lastA sa sb fun x hx y hy=>?_;have hi:ia<a.toList.length:=by rw[X5];lia
 rw[WF hi,SL (by rw[X5];lia)] at hy;have ey:y=a.toList[ia]:=by simpa using hy
 refine hl x hx y ?_;rw[show a.size-1=ia by lia,<- Xx,X4 hi,ey]
theorem zhJ (out:Array Xc)(x:Xc):(out.push x).toList=out.toList++[x]:=SO ..
theorem MI.oneB {a b out:Array Xc}{ia ib:Nat}{x:Xc}(M:MI rk a.toList b.toList ia ib out.toList)(sb:b.toList.Pairwise fun x y=>rk x<=rk y)(e:b[ib]?=some x)(h:∀y∈a.toList.drop ia,rk x<=rk y):MI rk a.toList b.toList ia (ib+1) (out.push x).toList:=by
 rw[zhJ,<- zi0 e];refine M.takeB sb 1 fun z hz y hy=>?_;rw[zi0 e] at hz;have ez:z=x:=by simpa using hz
 rw[ez];exact h y hy
theorem MI.oneA {a b out:Array Xc}{ia ib:Nat}{x:Xc}(M:MI rk a.toList b.toList ia ib out.toList)(sa:a.toList.Pairwise fun x y=>rk x<=rk y)(e:a[ia]?=some x)(h:∀y∈b.toList.drop ib,rk x<=rk y):MI rk a.toList b.toList (ia+1) ib (out.push x).toList:=(MI.oneB M.swap sa e h).swap
theorem MI.someA {a b out:Array Xc}{ia ib k:Nat}{y:Xc}(M:MI rk a.toList b.toList ia ib out.toList)(sa:a.toList.Pairwise fun x y=>rk x<=rk y)(sb:b.toList.Pairwise fun x y=>rk x<=rk y)(e:b[ib]?=some y)(h:∀i x,i<k->a[ia+i]?=some x->rk x<=rk y):MI rk a.toList b.toList (ia+k) ib (out++a.extract ia (ia+k)).toList:=by
 rw[WP,ext_toList _ _ _ (TM _ _),Qr];refine M.takeA sa k fun x hx z hz=>Vq ?_ (Jt sb e z hz);obtain⟨i,hi,ex⟩:=TF hx;have hik:i<k:=by
  rw[XD] at hi;lia
 refine h i x hik ?_;have:((a.toList.drop ia).take k)[i]?=some x:=by rw[X4 hi,ex]
 rw[List.getElem?_take,if_pos hik,Um,Xx] at this;exact this
theorem MI.someB {a b out:Array Xc}{ia ib k:Nat}{y:Xc}(M:MI rk a.toList b.toList ia ib out.toList)(sa:a.toList.Pairwise fun x y=>rk x<=rk y)(sb:b.toList.Pairwise fun x y=>rk x<=rk y)(e:a[ia]?=some y)(h:∀i x,i<k->b[ib+i]?=some x->rk x<=rk y):MI rk a.toList b.toList ia (ib+k) (out++b.extract ib (ib+k)).toList:=(MI.someA M.swap sb sa e h).swap
end
end GS
namespace GS
section
variable {prog:Xl}{w:W3}{A:WW}{E:X9->X8->Prop}{s:X8}{rk:Xc->Int}{κ:T4}{a0:Array Xc}
theorem Q9 {st:WV}{key:Xc}{a:Array Xc}{base n hint:Nat}{Q:Option Nat->WV->Prop}(T:Tells prog w A s κ rk a0)(hk:kindOf st=κ)(hkey:key∈a0.toList)(ma:∀x∈a.toList,x∈a0.toList)(up:∀i j x y,base<=i->i<=j->j<base+n->a[i]?=some x->a[j]?=some y->rk x<=rk y)(hn:base+n<=a.size)(hh:hint<n)
  (h:∀k,k<=n->(∀i x,i<k->a[base+i]?=some x->rk x<=rk key)->(∀i x,k<=i->i<n->a[base+i]?=some x->rk key<rk x)->Q (some k) st):wpS (Xr prog w) A E s (gallop' false key a base n hint) Q st:=by
 have he:∀i,i<n->∃x,a[base+i]?=some x/\x∈a.toList:=fun i hi=>qT (by lia);refine zex T hk hkey (fun i=>match a[base+i]? with | some x=>bey rk false key x | none=>false) (fun i hi=>?_) (fun i j hij hj hb=>?_) hh fun k hk1 h1 h2=>h k hk1 (fun i x hi e=>?_) fun i x hi1 hi2 e=>?_
 ·obtain⟨x,e,m⟩:=he i hi;refine⟨x,e,ma x m,?_⟩;try dsimp only
  rw[e]
 ·obtain⟨x,ex,_⟩:=he i (by lia);obtain⟨y,ey,_⟩:=he j hj;try dsimp only at hb ⊢
  rw[ey] at hb;rw[ex];have:=up (base+i) (base+j) x y (by lia) (by lia) (by lia) ex ey;unfold bey at hb ⊢;simp only[Wp,if_false,WH,decide_eq_false_iff_not] at hb ⊢;lia
 ·have:=h1 i hi;try dsimp only at this
  rw[e] at this;unfold bey at this;simp only[Wp,if_false,WH,decide_eq_false_iff_not] at this;lia
 ·have:=h2 i hi1 hi2;try dsimp only at this
  rw[e] at this;unfold bey at this;simp only[Wp,if_false,Bool.not_eq_false',decide_eq_true_eq] at this;exact this
theorem zaa {st:WV}{key:Xc}{a:Array Xc}{base n hint:Nat}{Q:Option Nat->WV->Prop}(T:Tells prog w A s κ rk a0)(hk:kindOf st=κ)(hkey:key∈a0.toList)(ma:∀x∈a.toList,x∈a0.toList)(up:∀i j x y,base<=i->i<=j->j<base+n->a[i]?=some x->a[j]?=some y->rk x<=rk y)(hn:base+n<=a.size)(hh:hint<n)
  (h:∀k,k<=n->(∀i x,i<k->a[base+i]?=some x->rk x<rk key)->(∀i x,k<=i->i<n->a[base+i]?=some x->rk key<=rk x)->Q (some k) st):wpS (Xr prog w) A E s (gallop' true key a base n hint) Q st:=by
 have he:∀i,i<n->∃x,a[base+i]?=some x/\x∈a.toList:=fun i hi=>qT (by lia);refine zex T hk hkey (fun i=>match a[base+i]? with | some x=>bey rk true key x | none=>false) (fun i hi=>?_) (fun i j hij hj hb=>?_) hh fun k hk1 h1 h2=>h k hk1 (fun i x hi e=>?_) fun i x hi1 hi2 e=>?_
 ·obtain⟨x,e,m⟩:=he i hi;refine⟨x,e,ma x m,?_⟩;try dsimp only
  rw[e]
 ·obtain⟨x,ex,_⟩:=he i (by lia);obtain⟨y,ey,_⟩:=he j hj;try dsimp only at hb ⊢
  rw[ey] at hb;rw[ex];have:=up (base+i) (base+j) x y (by lia) (by lia) (by lia) ex ey;unfold bey at hb ⊢;simp only[if_true,decide_eq_true_eq] at hb ⊢;lia
 ·have:=h1 i hi;try dsimp only at this
  rw[e] at this;unfold bey at this;simp only[if_true,decide_eq_true_eq] at this;exact this
 ·have:=h2 i hi1 hi2;try dsimp only at this
  rw[e] at this;unfold bey at this;simp only[if_true,decide_eq_false_iff_not] at this;lia
theorem zgO {a:Array Xc}(sa:a.toList.Pairwise fun x y=>rk x<=rk y){i j:Nat}{x y:Xc}(hij:i<=j)(ex:a[i]?=some x)(ey:a[j]?=some y):rk x<=rk y:=by
 refine Jt sa ex y ?_;have hj:j<a.toList.length:=by
  rw[X5];exact(V8.mp ey).1
 refine X0 (i:=j-i) ?_;rw[Um,Xx,show i+(j-i)=j by lia];exact ey
set_option maxHeartbeats 8000000 in
theorem via {P:Prop}(h:∀G:Prop,(P->G)->G):P:=h P id
structure Key (P:Prop):Prop where
 get:P
theorem cut {P R:Prop}(k:P)(h:Key P->R):R:=h ⟨k⟩
theorem zhK {st0:WV}{a b:Array Xc}{Q:Array Xc->WV->Prop}(T:Tells prog w A s κ rk a0)(hk:kindOf st0=κ)(ma:∀x∈a.toList,x∈a0.toList)(mb:∀x∈b.toList,x∈a0.toList)(sa:a.toList.Pairwise fun x y=>rk x<=rk y)(sb:b.toList.Pairwise fun x y=>rk x<=rk y)
  (ha:0<a.size) (hb:0<b.size) (h0:∀x y,b[0]?=some x->y∈a.toList->rk x<=rk y) (hl':∀x∈b.toList,∀y,a[a.size-1]?=some y->rk x<rk y)
  (h:∀out st',Kept st0 st'->Mg rk a.toList b.toList out.toList->Q out st'):wpS (Xr prog w) A E s (mergeLo' a b) Q st0:=by
 have hl:∀x∈b.toList,∀y,a[a.size-1]?=some y->rk x<=rk y:=fun x hx y hy=>VX (hl' x hx y hy);refine XF (Rl (UG ⟨rfl,?_⟩));obtain⟨b0,eb0,_⟩:=qT hb;refine XF (qG eb0 ?_);have M0:MI rk a.toList b.toList 0 0 (#[]:Array Xc).toList:=⟨by simp,List.Pairwise.nil,(fun x hx=>nomatch hx),(fun x hx=>nomatch hx)⟩;have M1:MI rk a.toList b.toList 0 1 (#[b0]:Array Xc).toList:=MI.oneB M0 sb eb0 fun y hy=>h0 b0 y eb0 (by simpa using hy);dsimp -zeta only;refine qj (fun hc=>Xw (h _ _ (Kept.refl _) (Z3 M1 sa (by rw[show 1=b.size by simpa using hc];exact XW _)))) fun hc=>?_;refine qj (fun hc2=>Xw (h _ _ (Kept.refl _) (Z4 M1 sa sb hl (by simpa using hc2)))) fun hc2=>?_;have hb2:1<b.size:=by
  have:¬ 1=b.size:=by simpa using hc
  lia
 have ha2:0+1<a.size:=by
  have:¬ 0+1=a.size:=by simpa using hc2
  lia
 refine XF (Sx ?_);refine XF (Uy (VY (I:=fun x c st'=>∃out ia ib mg,c=(none,out,ia,ib,mg)/\MI rk a.toList b.toList ia ib out.toList/\ia+1<a.size/\ib<b.size/\x+1<=ia+ib/\Kept st0 st')
  (Q:=fun c st'=>∃res,c.1=some res/\Mg rk a.toList b.toList res.toList/\Kept st0 st') ?step ?fin ⟨_,0,1,_,rfl,M1,ha2,hb2,by lia,Kept.refl _⟩) ?post)
 case fin =>
  rintro c st' ⟨out,ia,ib,mg,rfl,M,h1,h2,h3,k⟩
  lia
 case post =>
  rintro⟨c1,c2⟩ st' ⟨res,e,hM,k⟩
  dsimp only at e ⊢
  subst e
  exact Xw (h _ _ k hM)
 case step =>
  intro x0 c st1 _ hx0 hI
  refine via fun G hG=>?_
  obtain⟨out,ia,ib,mg,rfl,M,h1,h2,h3,k1⟩:=hI
  refine hG ?_
  clear hG
  have hk1:kindOf st1=κ:=k1.kind.trans hk
  dsimp -zeta only
  refine XF (Uy (VY (I:=fun x c st'=>st'=st1/\∃out ia ib ac bc,c=(none,out,ia,ib,ac,bc)/\MI rk a.toList b.toList ia ib out.toList/\ia+1<a.size/\ib<b.size/\x0+1+x<=ia+ib)
   (Q:=fun c st'=>st'=st1/\((∃res,c.1=some res/\Mg rk a.toList b.toList res.toList)\/∃out ia ib ac bc,c=(none,out,ia,ib,ac,bc)/\MI rk a.toList b.toList ia ib out.toList/\ia+1<a.size/\ib<b.size/\x0+2<=ia+ib)) ?step1 ?fin1 ⟨rfl,_,_,_,_,_,rfl,M,h1,h2,by lia⟩) ?post1)
  case fin1 =>
   rintro c st' ⟨rfl,out,ia,ib,ac,bc,rfl,M,h1,h2,h3⟩
   exact⟨rfl,.inr ⟨out,ia,ib,ac,bc,rfl,M,h1,h2,by lia⟩⟩
  case step1 =>
   intro x c st' _ hx hI
   refine via fun G hG=>?_
   obtain⟨rfl,out,ia,ib,ac,bc,rfl,M,h1,h2,h3⟩:=hI
   obtain⟨y,ey,my⟩:=qT h2
   obtain⟨z,ez,mz⟩:=qT (a:=a) (i:=ia) (by lia)
   refine hG ?_
   clear hG
   dsimp -zeta only
   refine XF (qG ey (XF (qG ez (XF (ziX T hk1 (mb y my) (ma z mz) ?_)))))
   dsimp -zeta only
   refine qj (fun hlt=>?_) fun hlt=>?_
   ·have hlt':rk y<rk z:=of_decide_eq_true hlt;have M2:=MI.oneB M sb ey fun v hv=>Vq (VX hlt') (Jt sa ez v hv);refine XF (qG ey ?_);refine qj (fun he=>Xw ⟨rfl,.inl ⟨_,rfl,Z3 M2 sa (by rw[show ib+1=b.size by simpa using he];exact XW _)⟩⟩) fun he=>?_;have hb3:ib+1<b.size:=by
     have:¬ ib+1=b.size:=by simpa using he
     lia
    exact qj (fun _=>Xw ⟨rfl,.inr ⟨_,_,_,_,_,rfl,M2,h1,hb3,by lia⟩⟩) fun _=>Xw ⟨rfl,_,_,_,_,_,rfl,M2,h1,hb3,by lia⟩
   ·have hlt':¬ rk y<rk z:=fun q=>hlt (decide_eq_true q);have M2:=MI.oneA M sa ez fun v hv=>Vq (OU.mp hlt') (Jt sb ey v hv);refine XF (qG ez ?_);refine qj (fun he=>Xw ⟨rfl,.inl ⟨_,rfl,Z4 M2 sa sb hl (by simpa using he)⟩⟩) fun he=>?_;have ha3:ia+1+1<a.size:=by
     have:¬ ia+1+1=a.size:=by simpa using he
     lia
    exact qj (fun _=>Xw ⟨rfl,.inr ⟨_,_,_,_,_,rfl,M2,ha3,h2,by lia⟩⟩) fun _=>Xw ⟨rfl,_,_,_,_,_,rfl,M2,ha3,h2,by lia⟩
  case post1 =>
   intro c st' hI
   refine via fun G hG=>?_
   rcases hI with ⟨rfl,hc1 | ⟨out,ia,ib,ac,bc,rfl,M,h1,h2,h3⟩⟩
   all_goals (refine hG ?_;clear hG)
   ·obtain⟨res,e,hM⟩:=hc1;obtain⟨c1,c2⟩:=c;dsimp only at e ⊢;subst e;exact Xw ⟨res,rfl,hM,k1⟩
   dsimp -zeta only
   refine XF (Rl (UG ⟨rfl,?_⟩))
   refine XF (Uy (VY (I:=fun x c st2=>∃out ia ib mg ac bc,c=(none,out,ia,ib,mg,ac,bc)/\MI rk a.toList b.toList ia ib out.toList/\ia+1<a.size/\ib<b.size/\x0+2<=ia+ib/\Kept st0 st2)
    (Q:=fun c st2=>(∃res,c.1=some res/\Mg rk a.toList b.toList res.toList/\Kept st0 st2)\/∃out ia ib mg ac bc,c=(none,out,ia,ib,mg,ac,bc)/\MI rk a.toList b.toList ia ib out.toList/\ia+1<a.size/\ib<b.size/\x0+2<=ia+ib/\Kept st0 st2) ?step2 ?fin2 ⟨_,_,_,_,_,_,rfl,M,h1,h2,h3,k1⟩) ?post2)
   case fin2 =>
    rintro c st2 hc
    exact .inr hc
   case post2 =>
    rintro c st2 (⟨res,e,hM,k2⟩ | ⟨out,ia,ib,mg,ac,bc,rfl,M,h1,h2,h3,k2⟩)
    ·obtain⟨c1,c2⟩:=c;dsimp only at e ⊢;subst e;exact Xw ⟨res,rfl,hM,k2⟩
    ·dsimp -zeta only;exact XF (zdC k2 fun st3 k3=>Xw ⟨_,_,_,_,rfl,M,h1,h2,by lia,k3⟩)
   case step2 =>
    intro x c st2 _ hx hI
    refine via fun G hG=>?_
    obtain⟨out,ia,ib,mg,ac,bc,rfl,M,h1,h2,h3,k2⟩:=hI
    obtain⟨y,ey,my⟩:=qT h2
    refine hG ?_
    clear hG
    dsimp -zeta only
    refine' cut ?key1 fun key=>qj (fun hmg=>?a1) fun hmg=>?b1
    case a1 =>
     generalize mg-1=mg1
     revert mg1
     exact key.get
    case b1=>exact key.get mg
    intro mg1
    dsimp -zeta only
    refine XF (zdC k2 fun st3 k3=>?_)
    have hk3:kindOf st3=κ:=k3.kind.trans hk
    refine XF (qG ey (XF (Q9 T hk3 (mb y my) ma (fun i j u v _ hij _ eu ev=>zgO sa hij eu ev) (by lia) (by lia) fun k hk4 g1 g2=>?_)))
    dsimp -zeta only
    refine' cut ?key2 fun key=>qj (fun hk0=>?a2) fun hk0=>?b2
    case a2 =>
     have M2:=MI.someA M sa sb ey g1
     refine qj (fun he=>Xw (.inl ⟨_,rfl,Z4 M2 sa sb hl (by simpa using he),k3⟩)) fun he=>?_
     have ne1:¬ ia+k+1=a.size:=by simpa using he
     have kl:ia+k<a.size:=by
      refine Nat.lt_of_not_le fun hge=>?_;obtain⟨v,ev,mv⟩:=qT (a:=a) (i:=a.size-1) (by lia);have q1:=g1 (a.size-1-ia) v (by lia) (by rw[show ia+(a.size-1-ia)=a.size-1 by lia];exact ev);have q2:=hl' y my v ev;lia
     refine qj (fun he2=>absurd (show ia+k=a.size by simpa using he2) (by lia)) fun he2=>?_
     have h1':ia+k+1<a.size:=by lia
     have h3':x0+2<=ia+k+ib:=by lia
     have g2':∀z,a[ia+k]?=some z->rk y<=rk z:=fun z ez=>VX (g2 k z (XW _) (by lia) ez)
     generalize out++a.extract ia (ia+k)=zdD at M2 ⊢
     generalize ia+k=ia1 at M2 h1' h3' g2' ⊢
     revert g2';revert h3';revert h1';revert M2;revert ia1;revert zdD
     exact key.get
    case b2=>exact key.get out ia M h1 h3 fun z ez=>VX (g2 0 z (by lia) (by lia) (by simpa using ez))
    intro zdD ia1 M2 h1' h3' g2'
    refine via fun G hG=>?_
    obtain⟨z,ez,mz⟩:=qT (a:=a) (i:=ia1) (by lia)
    refine hG ?_
    clear hG
    have M3:=MI.oneB M2 sb ey fun v hv=>Vq (g2' z ez) (Jt sa ez v hv)
    refine XF (qG ey ?_)
    refine qj (fun he=>Xw (.inl ⟨_,rfl,Z3 M3 sa (by rw[show ib+1=b.size by simpa using he];exact XW _),k3⟩)) fun he=>?_
    have hb3:ib+1<b.size:=by
     have:¬ ib+1=b.size:=by simpa using he
     lia
    refine XF (qG ez (XF (zaa T hk3 (ma z mz) mb (fun i j u v _ hij _ eu ev=>zgO sb hij eu ev) (by lia) (by lia) fun k' hk5 g3 g4=>?_)))
    dsimp -zeta only
    refine' cut ?key3 fun key=>qj (fun hk0'=>?a3) fun hk0'=>?b3
    case a3 =>
     have M4:=MI.someB M3 sa sb ez fun i u hi eu=>VX (g3 i u hi eu)
     refine qj (fun he=>Xw (.inl ⟨_,rfl,Z3 M4 sa (by rw[show ib+1+k'=b.size by simpa using he];exact XW _),k3⟩)) fun he=>?_
     have hb4:ib+1+k'<b.size:=by
      have:¬ ib+1+k'=b.size:=by simpa using he
      lia
     have g4':∀v,b[ib+1+k']?=some v->rk z<=rk v:=fun v ev=>g4 k' v (XW _) (by lia) ev
     have h3'':x0+2<=ia1+(ib+1+k'):=by lia
     generalize zdD.push y++b.extract (ib+1) (ib+1+k')=zi1 at M4 ⊢
     generalize ib+1+k'=ib1 at M4 hb4 g4' h3'' ⊢
     revert h3'';revert g4';revert hb4;revert M4;revert ib1;revert zi1
     exact key.get
    case b3=>exact key.get (zdD.push y) (ib+1) M3 hb3 (fun v ev=>g4 0 v (by lia) (by lia) (by simpa using ev)) (by lia)
    intro zi1 ib1 M4 hb4 g4' h3''
    refine via fun G hG=>?_
    obtain⟨v,ev,mv⟩:=qT (a:=b) (i:=ib1) hb4
    refine hG ?_
    clear hG
    have M5:=MI.oneA M4 sa ez fun u hu=>Vq (g4' v ev) (Jt sb ev u hu)
    refine XF (qG ez ?_)
    refine qj (fun he=>Xw (.inl ⟨_,rfl,Z4 M5 sa sb hl (by simpa using he),k3⟩)) fun he=>?_
    have ha3:ia1+1+1<a.size:=by
     have:¬ ia1+1+1=a.size:=by simpa using he
     lia
    exact qj (fun _=>Xw (.inr ⟨_,_,_,_,_,_,rfl,M5,ha3,hb4,by lia,k3⟩)) fun _=>Xw ⟨_,_,_,_,_,_,rfl,M5,ha3,hb4,by lia,k3⟩
end
end GS
namespace GS
def neg (rk:Xc->Int):Xc->Int:=fun x=>- rk x
theorem zaO {a:Array Xc}{j:Nat}(h:j<a.size):a.reverse[j]?=a[a.size-1-j]?:=by
 rw[PY h]
def Hi (rk:Xc->Int)(a b:Array Xc)(na nb:Nat)(out:Array Xc):Prop:=MI (neg rk) a.reverse.toList b.reverse.toList (a.size-na) (b.size-nb) out.toList
section
variable {rk:Xc->Int}{a b out:Array Xc}{na nb:Nat}
theorem Zu (sa:a.toList.Pairwise fun x y=>rk x<=rk y):a.reverse.toList.Pairwise fun x y=>neg rk x<=neg rk y:=by
 rw[U9,PB];exact sa.imp fun h=>SX h
theorem zbg {i:Nat}{x:Xc}(h1:1<=i)(h2:i<=a.size)(e:a[i-1]?=some x):a.reverse[a.size-i]?=some x:=by
 rw[zaO (by lia),show a.size-1-(a.size-i)=i-1 by lia];exact e
theorem Hi.oneA {x y:Xc}(M:Hi rk a b na nb out)(sa:a.toList.Pairwise fun x y=>rk x<=rk y)(sb:b.toList.Pairwise fun x y=>rk x<=rk y)(h1:1<=na)(h2:na<=a.size)(h3:1<=nb)(h4:nb<=b.size)(ex:a[na-1]?=some x)(ey:b[nb-1]?=some y)(h:rk y<=rk x):Hi rk a b (na-1) nb (out.push x):=by
 have:=MI.oneA (rk:=neg rk) M (Zu sa) (zbg h1 h2 ex) fun v hv=>Vq (SX h) (Jt (Zu sb) (zbg h3 h4 ey) v hv);unfold Hi;rw[show a.size-(na-1)=a.size-na+1 by lia];exact this
theorem Hi.oneB {x y:Xc}(M:Hi rk a b na nb out)(sa:a.toList.Pairwise fun x y=>rk x<=rk y)(sb:b.toList.Pairwise fun x y=>rk x<=rk y)(h1:1<=na)(h2:na<=a.size)(h3:1<=nb)(h4:nb<=b.size)(ex:a[na-1]?=some x)(ey:b[nb-1]?=some y)(h:rk x<=rk y):Hi rk a b na (nb-1) (out.push y):=by
 have:=MI.oneB (rk:=neg rk) M (Zu sb) (zbg h3 h4 ey) fun v hv=>Vq (SX h) (Jt (Zu sa) (zbg h1 h2 ex) v hv);unfold Hi;rw[show b.size-(nb-1)=b.size-nb+1 by lia];exact this
theorem zkG {i j:Nat}(h1:i<=j)(h2:j<=a.size):(a.extract i j).reverse=a.reverse.extract (a.size-j) (a.size-j+(j-i)):=by
 apply Array.ext_getElem?;intro k;by_cases hk:k<j-i
 ·rw[PY (by rw[Ul];lia),SK,SK,Ul];rw[if_pos (by lia),if_pos (by rw[UW];lia),zaO (by lia)];congr 1;lia
 ·rw[WK (by rw[UW,Ul];lia),WK (by rw[Ul,UW];lia)]
theorem Hi.someA {i:Nat}{y:Xc}(M:Hi rk a b na nb out)(sa:a.toList.Pairwise fun x y=>rk x<=rk y)(sb:b.toList.Pairwise fun x y=>rk x<=rk y)(h1:i<=na)(h2:na<=a.size)(h3:1<=nb)(h4:nb<=b.size)(ey:b[nb-1]?=some y)(h:∀j x,i<=j->j<na->a[j]?=some x->rk y<=rk x):Hi rk a b i nb (out++(a.extract i na).reverse):=by
 have:=MI.someA (rk:=neg rk) (k:=na-i) M (Zu sa) (Zu sb) (zbg h3 h4 ey) fun j x hj ex=>SX (h (na-1-j) x (by lia) (by lia) (by
  rw[zaO (by lia)] at ex;rw[<- ex];congr 1;lia))
 unfold Hi;rw[zkG h1 h2,show a.size-i=a.size-na+(na-i) by lia];exact this
theorem Hi.someB {i:Nat}{y:Xc}(M:Hi rk a b na nb out)(sa:a.toList.Pairwise fun x y=>rk x<=rk y)(sb:b.toList.Pairwise fun x y=>rk x<=rk y)(h1:i<=nb)(h2:nb<=b.size)(h3:1<=na)(h4:na<=a.size)(ey:a[na-1]?=some y)(h:∀j x,i<=j->j<nb->b[j]?=some x->rk y<=rk x):Hi rk a b na i (out++(b.extract i nb).reverse):=(Hi.someA (a:=b) (b:=a) M.swap sb sa h1 h2 h3 h4 ey h).swap
theorem zi2 {oL:List Xc}(h:Mg (neg rk) b.reverse.toList a.reverse.toList oL):Mg rk a.toList b.toList oL.reverse:=by
 obtain⟨p,q⟩:=h;rw[U9,U9] at p;refine⟨?_,?_⟩
 ·refine(Rz _).trans (p.trans (Ua.trans ?_));exact List.Perm.append (Rz _) (Rz _)
 ·rw[PB];refine q.imp fun {x y} h=>?_;have h':- rk x<=- rk y:=h;lia
theorem zaP {i:Nat}(h:i<=a.size):(a.reverse.extract (a.size-i) a.reverse.size).toList.reverse=(a.extract 0 i).toList:=by
 rw[Qu,U9,ext_toList _ _ _ (W1 _),List.drop_zero,OI];have:=List.reverse_take (l:=a.toList) (i:=i);rw[X5] at this;rw[<- this,Ph]
theorem Hi.done (M:Hi rk a b 0 nb out)(sb:b.toList.Pairwise fun x y=>rk x<=rk y)(h:nb<=b.size):Mg rk a.toList b.toList (a.extract 0 0++b.extract 0 nb++out.reverse).toList:=by
 have h1:=Z3 (rk:=neg rk) (a:=b.reverse) (b:=a.reverse) M.swap (Zu sb) (by rw[UW];lia);have h2:=zi2 h1;rw[WP,WP,TD,TD,zaP h] at h2;have e0:=zaP (a:=a) (i:=0) (W1 _);rw[e0] at h2;rw[WP,WP,U9,W7];exact h2
theorem Hi.first (M:Hi rk a b na 1 out)(sa:a.toList.Pairwise fun x y=>rk x<=rk y)(sb:b.toList.Pairwise fun x y=>rk x<=rk y)(hb:0<b.size)(h:na<=a.size)(h0:∀x y,b[0]?=some x->y∈a.toList->rk x<rk y):Mg rk a.toList b.toList (b.extract 0 1++a.extract 0 na++out.reverse).toList:=by
 have h1:=Z4 (rk:=neg rk) (a:=b.reverse) (b:=a.reverse) M.swap (Zu sb) (Zu sa) (fun x hx y ey=>by
  rw[UW,zaO (by lia),show b.size-1-(b.size-1)=0 by lia] at ey;have hx':x∈a.toList:=by simpa using hx
  exact SX (VX (h0 y x ey hx'))) (by rw[UW];lia)
 have h2:=zi2 h1;rw[WP,WP,TD,TD,zaP h,zaP (by lia)] at h2;rw[WP,WP,U9,W7];exact h2
end
section
variable {prog:Xl}{w:W3}{A:WW}{E:X9->X8->Prop}{s:X8}{rk:Xc->Int}{κ:T4}{a0:Array Xc}
set_option maxHeartbeats 8000000 in
theorem zhL {st0:WV}{a b:Array Xc}{Q:Array Xc->WV->Prop}(T:Tells prog w A s κ rk a0)(hk:kindOf st0=κ)(ma:∀x∈a.toList,x∈a0.toList)(mb:∀x∈b.toList,x∈a0.toList)(sa:a.toList.Pairwise fun x y=>rk x<=rk y)(sb:b.toList.Pairwise fun x y=>rk x<=rk y)
  (ha:0<a.size) (hb:0<b.size) (h0:∀x y,b[0]?=some x->y∈a.toList->rk x<rk y) (hl:∀x∈b.toList,∀y,a[a.size-1]?=some y->rk x<rk y)
  (h:∀out st',Kept st0 st'->Mg rk a.toList b.toList out.toList->Q out st'):wpS (Xr prog w) A E s (mergeHi' a b) Q st0:=by
 refine XF (Rl (UG ⟨rfl,?_⟩));obtain⟨z0,ez0,_⟩:=qT (a:=a) (i:=a.size-1) (by lia);obtain⟨y0,ey0,my0⟩:=qT (a:=b) (i:=b.size-1) (by lia);refine XF (qG ez0 ?_);have M0:Hi rk a b a.size b.size #[]:=by
  unfold Hi;rw[TU,TU];exact⟨by simp,List.Pairwise.nil,(fun x hx=>nomatch hx),(fun x hx=>nomatch hx)⟩
 have M1:Hi rk a b (a.size-1) b.size #[z0]:=M0.oneA sa sb (by lia) (XW _) (by lia) (XW _) ez0 ey0 (VX (hl y0 my0 z0 ez0));dsimp -zeta only;refine qj (fun hc=>Xw (h _ _ (Kept.refl _) ?_)) fun hc=>?_
 ·have e:a.size-1=0:=by simpa using hc
  rw[e] at M1 ⊢;exact M1.done sb (XW _)
 refine qj (fun hc2=>Xw (h _ _ (Kept.refl _) ?_)) fun hc2=>?_
 ·have e:b.size=1:=by simpa using hc2
  rw[e] at M1 ⊢;exact M1.first sa sb hb (by lia) h0
 have ha2:1<=a.size-1:=by
  have:¬ a.size-1=0:=by simpa using hc
  lia
 have hb2:1<b.size:=by
  have:¬ b.size=1:=by simpa using hc2
  lia
 refine XF (Sx ?_);refine XF (Uy (VY (I:=fun x c st'=>∃na nb out mg,c=(none,na,nb,out,mg)/\Hi rk a b na nb out/\1<=na/\na<a.size/\1<nb/\nb<=b.size/\na+nb+x+1<=a.size+b.size/\Kept st0 st')
  (Q:=fun c st'=>∃res,c.1=some res/\Mg rk a.toList b.toList res.toList/\Kept st0 st') ?step ?fin ⟨_,_,_,_,rfl,M1,ha2,by lia,hb2,XW _,by lia,Kept.refl _⟩) ?post)
 case fin =>
  rintro c st' ⟨na,nb,out,mg,rfl,M,h1,h2,h3,h4,h5,k⟩
  lia
 case post =>
  rintro⟨c1,c2⟩ st' ⟨res,e,hM,k⟩
  dsimp only at e ⊢
  subst e
  exact Xw (h _ _ k hM)
 case step =>
  intro x0 c st1 _ hx0 hI
  refine via fun G hG=>?_
  obtain⟨na,nb,out,mg,rfl,M,h1,h2,h3,h4,h5,k1⟩:=hI
  refine hG ?_
  clear hG
  have hk1:kindOf st1=κ:=k1.kind.trans hk
  dsimp -zeta only
  refine XF (Uy (VY (I:=fun x c st'=>st'=st1/\∃na nb out ac bc,c=(none,na,nb,out,ac,bc)/\Hi rk a b na nb out/\1<=na/\na<a.size/\1<nb/\nb<=b.size/\na+nb+x0+1+x<=a.size+b.size)
   (Q:=fun c st'=>st'=st1/\((∃res,c.1=some res/\Mg rk a.toList b.toList res.toList)\/∃na nb out ac bc,c=(none,na,nb,out,ac,bc)/\Hi rk a b na nb out/\1<=na/\na<a.size/\1<nb/\nb<=b.size/\na+nb+x0+2<=a.size+b.size)) ?step1 ?fin1 ⟨rfl,_,_,_,_,_,rfl,M,h1,h2,h3,h4,by lia⟩) ?post1)
  case fin1 =>
   rintro c st' ⟨rfl,na,nb,out,ac,bc,rfl,M,h1,h2,h3,h4,h5⟩
   exact⟨rfl,.inr ⟨na,nb,out,ac,bc,rfl,M,h1,h2,h3,h4,by lia⟩⟩
  case step1 =>
   intro x c st' _ hx hI
   refine via fun G hG=>?_
   obtain⟨rfl,na,nb,out,ac,bc,rfl,M,h1,h2,h3,h4,h5⟩:=hI
   obtain⟨y,ey,my⟩:=qT (a:=b) (i:=nb-1) (by lia)
   obtain⟨z,ez,mz⟩:=qT (a:=a) (i:=na-1) (by lia)
   refine hG ?_
   clear hG
   dsimp -zeta only
   refine XF (qG ey (XF (qG ez (XF (ziX T hk1 (mb y my) (ma z mz) ?_)))))
   dsimp -zeta only
   refine qj (fun hlt=>?_) fun hlt=>?_
   ·have hlt':rk y<rk z:=of_decide_eq_true hlt;have M2:=M.oneA sa sb h1 (by lia) (by lia) h4 ez ey (VX hlt');refine XF (qG ez ?_);refine qj (fun he=>Xw ⟨rfl,.inl ⟨_,rfl,?_⟩⟩) fun he=>?_
    ·have e:na-1=0:=by simpa using he
     rw[e] at M2 ⊢;exact M2.done sb h4
    have hn:1<=na-1:=by
     have:¬ na-1=0:=by simpa using he
     lia
    exact qj (fun _=>Xw ⟨rfl,.inr ⟨_,_,_,_,_,rfl,M2,hn,by lia,h3,h4,by lia⟩⟩) fun _=>Xw ⟨rfl,_,_,_,_,_,rfl,M2,hn,by lia,h3,h4,by lia⟩
   ·have hlt':¬ rk y<rk z:=fun q=>hlt (decide_eq_true q);have M2:=M.oneB sa sb h1 (by lia) (by lia) h4 ez ey (OU.mp hlt');refine XF (qG ey ?_);refine qj (fun he=>Xw ⟨rfl,.inl ⟨_,rfl,?_⟩⟩) fun he=>?_
    ·have e:nb-1=1:=by simpa using he
     rw[e] at M2 ⊢;exact M2.first sa sb hb (by lia) h0
    have hn:1<nb-1:=by
     have:¬ nb-1=1:=by simpa using he
     lia
    exact qj (fun _=>Xw ⟨rfl,.inr ⟨_,_,_,_,_,rfl,M2,h1,h2,hn,by lia,by lia⟩⟩) fun _=>Xw ⟨rfl,_,_,_,_,_,rfl,M2,h1,h2,hn,by lia,by lia⟩
  case post1 =>
   intro c st' hI
   refine via fun G hG=>?_
   rcases hI with ⟨rfl,hc1 | ⟨na,nb,out,ac,bc,rfl,M,h1,h2,h3,h4,h5⟩⟩
   all_goals (refine hG ?_;clear hG)
   ·obtain⟨res,e,hM⟩:=hc1;obtain⟨c1,c2⟩:=c;dsimp only at e ⊢;subst e;exact Xw ⟨res,rfl,hM,k1⟩
   dsimp -zeta only
   refine XF (Rl (UG ⟨rfl,?_⟩))
   refine XF (Uy (VY (I:=fun x c st2=>∃na nb out mg ac bc,c=(none,na,nb,out,mg,ac,bc)/\Hi rk a b na nb out/\1<=na/\na<a.size/\1<nb/\nb<=b.size/\na+nb+x0+2<=a.size+b.size/\Kept st0 st2)
    (Q:=fun c st2=>(∃res,c.1=some res/\Mg rk a.toList b.toList res.toList/\Kept st0 st2)\/∃na nb out mg ac bc,c=(none,na,nb,out,mg,ac,bc)/\Hi rk a b na nb out/\1<=na/\na<a.size/\1<nb/\nb<=b.size/\na+nb+x0+2<=a.size+b.size/\Kept st0 st2) ?step2 ?fin2 ⟨_,_,_,_,_,_,rfl,M,h1,h2,h3,h4,h5,k1⟩) ?post2)
   case fin2 =>
    rintro c st2 hc
    exact .inr hc
   case post2 =>
    rintro c st2 (⟨res,e,hM,k2⟩ | ⟨na,nb,out,mg,ac,bc,rfl,M,h1,h2,h3,h4,h5,k2⟩)
    ·obtain⟨c1,c2⟩:=c;dsimp only at e ⊢;subst e;exact Xw ⟨res,rfl,hM,k2⟩
    ·dsimp -zeta only;exact XF (zdC k2 fun st3 k3=>Xw ⟨_,_,_,_,rfl,M,h1,h2,h3,h4,by lia,k3⟩)
   case step2 =>
    intro x c st2 _ hx hI
    refine via fun G hG=>?_
    obtain⟨na,nb,out,mg,ac,bc,rfl,M,h1,h2,h3,h4,h5,k2⟩:=hI
    obtain⟨y,ey,my⟩:=qT (a:=b) (i:=nb-1) (by lia)
    refine hG ?_
    clear hG
    dsimp -zeta only
    refine' cut ?key1 fun key=>qj (fun hmg=>?a1) fun hmg=>?b1
    case a1 =>
     generalize mg-1=mg1
     revert mg1
     exact key.get
    case b1=>exact key.get mg
    intro mg1
    dsimp -zeta only
    refine XF (zdC k2 fun st3 k3=>?_)
    have hk3:kindOf st3=κ:=k3.kind.trans hk
    refine XF (qG ey (XF (Q9 T hk3 (mb y my) ma (fun i j u v _ hij _ eu ev=>zgO sa hij eu ev) (by lia) (by lia) fun k hk4 g1 g2=>?_)))
    dsimp -zeta only
    refine' cut ?key2 fun key=>qj (fun hk0=>?a2) fun hk0=>?b2
    case a2 =>
     have M2:=M.someA sa sb (i:=k) (by lia) (by lia) (by lia) h4 ey fun j u hj1 hj2 eu=>VX (g2 j u hj1 hj2 (by simpa using eu))
     refine qj (fun he=>Xw (.inl ⟨_,rfl,(by
      have e:k=0:=by simpa using he
      rw[e] at M2 ⊢;exact M2.done sb h4),k3⟩)) fun he=>?_
     have h1':1<=k:=by
      have:¬ k=0:=by simpa using he
      lia
     have h2':k<a.size:=by lia
     have h5':k+nb+x0+2<=a.size+b.size:=by lia
     have g1':∀z,a[k-1]?=some z->rk z<=rk y:=fun z ez=>g1 (k-1) z (by lia) (by simpa using ez)
     generalize out++(a.extract k na).reverse=zdD at M2 ⊢
     generalize na-k=kk
     generalize k=na1 at M2 h1' h2' h5' g1' ⊢
     revert g1';revert h5';revert h2';revert h1';revert M2;revert na1;revert kk;revert zdD
     exact key.get
    case b2=>exact key.get out (na-k) na M h1 h2 h5 fun z ez=>g1 (na-1) z (by lia) (by simpa using ez)
    intro zdD kk na1 M2 h1' h2' h5' g1'
    refine via fun G hG=>?_
    obtain⟨z,ez,mz⟩:=qT (a:=a) (i:=na1-1) (by lia)
    refine hG ?_
    clear hG
    have M3:=M2.oneB sa sb h1' (by lia) (by lia) h4 ez ey (g1' z ez)
    refine XF (qG ey ?_)
    refine qj (fun he=>Xw (.inl ⟨_,rfl,(by
     have e:nb-1=1:=by simpa using he
     rw[e] at M3 ⊢;exact M3.first sa sb hb (by lia) h0),k3⟩)) fun he=>?_
    have hn:1<nb-1:=by
     have:¬ nb-1=1:=by simpa using he
     lia
    refine XF (qG ez (XF (zaa T hk3 (ma z mz) mb (fun i j u v _ hij _ eu ev=>zgO sb hij eu ev) (by lia) (by lia) fun k' hk5 g3 g4=>?_)))
    dsimp -zeta only
    refine' cut ?key3 fun key=>qj (fun hk0'=>?a3) fun hk0'=>?b3
    case a3 =>
     have M4:=M3.someB sa sb (i:=k') (by lia) (by lia) h1' (by lia) ez fun j u hj1 hj2 eu=>g4 j u hj1 hj2 (by simpa using eu)
     refine qj (fun he=>Xw (.inl ⟨_,rfl,(by
      have e:k'=1:=by simpa using he
      rw[e] at M4 ⊢;exact M4.first sa sb hb (by lia) h0),k3⟩)) fun he=>?_
     have k1':1<=k':=by
      refine PX.mpr fun hz=>?_;obtain⟨v,ev,mv⟩:=qT (a:=b) (i:=0) hb;have q1:=g4 0 v (by lia) (by lia) (by simpa using ev);have q2:=h0 v z ev mz;lia
     refine qj (fun he2=>absurd (show k'=0 by simpa using he2) (by lia)) fun he2=>?_
     have hn':1<k':=by
      have:¬ k'=1:=by simpa using he
      lia
     have hb':k'<=b.size:=by lia
     have h5'':na1+k'+x0+2<=a.size+b.size:=by lia
     have g3':∀v,b[k'-1]?=some v->rk v<=rk z:=fun v ev=>VX (g3 (k'-1) v (by lia) (by simpa using ev))
     generalize zdD.push y++(b.extract k' (nb-1)).reverse=zi1 at M4 ⊢
     generalize nb-1-k'=kk'
     generalize k'=nb1 at M4 hn' hb' h5'' g3' ⊢
     revert g3';revert h5'';revert hb';revert hn';revert M4;revert nb1;revert kk';revert zi1
     exact key.get
    case b3=>exact key.get (zdD.push y) (nb-1-k') (nb-1) M3 hn (by lia) (by lia) fun v ev=>VX (g3 (nb-1-1) v (by lia) (by simpa using ev))
    intro zi1 kk' nb1 M4 hn' hb' h5'' g3'
    obtain⟨v,ev,mv⟩:=qT (a:=b) (i:=nb1-1) (by lia)
    have M5:=M4.oneA sa sb h1' (by lia) (by lia) hb' ez ev (g3' v ev)
    refine XF (qG ez ?_)
    refine qj (fun he=>Xw (.inl ⟨_,rfl,(by
     have e:na1-1=0:=by simpa using he
     rw[e] at M5 ⊢;exact M5.done sb hb'),k3⟩)) fun he=>?_
    have hn2:1<=na1-1:=by
     have:¬ na1-1=0:=by simpa using he
     lia
    exact qj (fun _=>Xw (.inr ⟨_,_,_,_,_,_,rfl,M5,hn2,by lia,hn',hb',by lia,k3⟩)) fun _=>Xw ⟨_,_,_,_,_,_,rfl,M5,hn2,by lia,hn',hb',by lia,k3⟩
end
end GS
namespace GS
theorem zcA (sa:Nat):∀(l:List Xc) (j:Nat) (arr:Array Xc),((l.zipIdx j).foldl (fun a (p:Xc×Nat)=>a.setIfInBounds (sa+p.2) p.1) arr).size=arr.size
 | [],_,_=>rfl
 | x::l,j,arr=>by
  rw[List.zipIdx_cons,VT,zcA sa l (j+1)];exact Ts
theorem zkH (sa:Nat):∀(l:List Xc) (j:Nat) (arr:Array Xc) (i:Nat),sa+j+l.length<=arr.size->((l.zipIdx j).foldl (fun a (p:Xc×Nat)=>a.setIfInBounds (sa+p.2) p.1) arr)[i]?=if sa+j<=i/\i<sa+j+l.length then l[i-(sa+j)]? else arr[i]?:=by
 intro l;induction l with
 | nil =>
  intro j arr i h;rw[if_neg (by simp only[Ue];lia)];rfl
 | cons x l ih =>
  intro j arr i h;rw[Xp] at h;rw[List.zipIdx_cons,VT,ih (j+1) _ i (by rw[Ts];lia),Xp];by_cases h1:sa+(j+1)<=i/\i<sa+(j+1)+l.length
  ·rw[if_pos h1,if_pos (by lia),show i-(sa+j)=(i-(sa+(j+1)))+1 by lia,QR]
  ·rw[if_neg h1];by_cases h2:i=sa+j
   ·subst h2;rw[if_pos (by lia),TU,List.getElem?_cons_zero];show (arr.setIfInBounds (sa+j) x)[sa+j]?=some x;rw[U5,if_pos rfl,if_pos (by lia)]
   ·rw[if_neg (by lia)];show (arr.setIfInBounds (sa+j) x)[i]?=arr[i]?;rw[U5,if_neg (fun e=>h2 e.symm)]
section
variable {prog:Xl}{w:W3}{A:WW}{E:X9->X8->Prop}{s:X8}{rk:Xc->Int}{κ:T4}{a0:Array Xc}
theorem yu {xs:Array Xc}{lo hi:Nat}(u:Up rk xs lo hi){i j:Nat}{x y:Xc}(h1:lo<=i)(h2:i<=j)(h3:j<hi)(ex:xs[i]?=some x)(ey:xs[j]?=some y):rk x<=rk y:=by
 have:=u i j h1 h2 h3;unfold Rk at this;rw[ex,ey] at this;exact this
theorem zly {xs:Array Xc}{lo hi:Nat}(hz:hi<=xs.size)(h:∀i j x y,lo<=i->i<=j->j<hi->xs[i]?=some x->xs[j]?=some y->rk x<=rk y):Up rk xs lo hi:=fun i j h1 h2 h3=>by
 obtain⟨x,ex,_⟩:=qT (a:=xs) (i:=i) (by lia);obtain⟨y,ey,_⟩:=qT (a:=xs) (i:=j) (by lia);unfold Rk;rw[ex,ey];exact h i j x y h1 h2 h3 ex ey
theorem zgP {xs:Array Xc}{i:Nat}{x:Xc}(e:xs[i]?=some x):x∈xs.toList:=X0 (by rw[Xx];exact e)
theorem ext_get {xs:Array Xc}{i j k:Nat}(h1:i<=j)(h2:j<=xs.size)(hk:k<j-i):(xs.extract i j)[k]?=xs[i+k]?:=by
 rw[SK,if_pos (by lia)]
theorem Qv {xs:Array Xc}{i j:Nat}(h2:j<=xs.size):(xs.extract i j).size=j-i:=by
 rw[Ul];lia
theorem zi3 {xs:Array Xc}{lo hi i j:Nat}(u:Up rk xs lo hi)(h1:lo<=i)(h2:j<=hi)(h3:j<=xs.size):(xs.extract i j).toList.Pairwise fun x y=>rk x<=rk y:=by
 rw[Vh];intro m n hm hn hmn;rw[X5,Qv h3] at hm hn;have em:=ext_get (xs:=xs) (i:=i) (j:=j) (k:=m) (by lia) h3 hm;have en:=ext_get (xs:=xs) (i:=i) (j:=j) (k:=n) (by lia) h3 hn;refine yu u (i:=i+m) (j:=i+n) (by lia) (by lia) (by lia) ?_ ?_
 ·rw[<- em,UH];exact getElem?_pos _ _ _
 ·rw[<- en,UH];exact getElem?_pos _ _ _
theorem ext_mem {xs:Array Xc}{i j:Nat}{x:Xc}(h3:j<=xs.size)(h:x∈(xs.extract i j).toList):∃k,i<=k/\k<j/\xs[k]?=some x:=by
 obtain⟨k,hk,e⟩:=TF h;rw[X5,Qv h3] at hk;refine⟨i+k,by lia,by lia,?_⟩;rw[<- ext_get (xs:=xs) (i:=i) (j:=j) (by lia) h3 hk,<- e,UH];exact getElem?_pos _ _ _
theorem znH {st st1:WV}{Q:PUnit->WV->Prop}(h:∀st2,st2=st1->Q ⟨⟩ st2):wpS (Xr prog w) A E s (set st1:StateT WV Sem PUnit) Q st:=by
 unfold wpS;rw[StateT.run_set];exact XY ⟨rfl,h _ rfl⟩
set_option maxHeartbeats 8000000 in
theorem zhM {st:WV}{i sa na p1 nb p2:Nat}{Q:Bool->WV->Prop}(T:Tells prog w A s κ rk a0)(O:Ok κ a0 st)(e1:(WU st)[i]?=some (sa,na,p1))(e2:(WU st)[i+1]?=some (sa+na,nb,p2))(hna:1<=na)(hnb:1<=nb)(hz:sa+na+nb<=a0.size)(u1:Up rk (Xu st) sa (sa+na))(u2:Up rk (Xu st) (sa+na) (sa+na+nb))
  (h:∀st',Ok κ a0 st'->WU st'=((WU st).setIfInBounds i (sa,na+nb,p1)).eraseIdxIfInBounds (i+1)->Up rk (Xu st') sa (sa+na+nb)->(∀j:Nat,(j<sa\/sa+na+nb<=j)->(Xu st')[j]?=(Xu st)[j]?)->Q true st'):wpS (Xr prog w) A E s (mergeAt' i) Q st:=by
 have hsz:=O.size;have mX:∀x∈(Xu st).toList,x∈a0.toList:=fun x hx=>(UV.mp O.perm).mem_iff.mp hx;obtain⟨b0,eb0,mb0⟩:=qT (a:=Xu st) (i:=sa+na) (by lia);refine XF (Sx ?_);rw[e1,e2];dsimp only;refine XF (znH fun st1 hst=>?_);have k1:kindOf st1=κ:=by rw[hst];exact O.kind
 have ea:Xu st1=Xu st:=by rw[hst]
 have ep:WU st1=((WU st).setIfInBounds i (sa,na+nb,p1)).eraseIdxIfInBounds (i+1):=by rw[hst]
 have ef:S5 st1=none:=by rw[hst];exact O.good
 have O1:Ok κ a0 st1:=⟨by rw[ea];exact O.perm,k1,ef⟩;refine XF (qG eb0 (XF (Q9 T k1 (mX b0 mb0) mX (fun p q u v h1 h2 h3 eu ev=>yu u1 h1 h2 h3 eu ev) (by show sa+na<=(Xu st).size;lia) (by lia) fun k hk g1 g2=>?_)));dsimp only;refine qj (fun hc=>Xw (h st1 O1 ep (zly (by rw[ea];lia) fun p q u v h1 h2 h3 eu ev=>?_) fun j _=>by rw[ea])) fun hc=>?_
 ·have ek:k=na:=by
   have:na-k=0:=by simpa using hc
   lia
  rw[ea] at eu ev;by_cases c1:q<sa+na
  ·exact yu u1 h1 h2 c1 eu ev
  ·by_cases c2:p<sa+na
   ·have q1:=g1 (p-sa) u (by lia) (by rw[show sa+(p-sa)=p by lia];exact eu);have q2:=yu u2 (XW _) (by lia) h3 eb0 ev;lia
   ·exact yu u2 (by lia) h2 h3 eu ev
 have hkn:k<na:=by
  have:¬ na-k=0:=by simpa using hc
  lia
 obtain⟨al,eal,mal⟩:=qT (a:=Xu st) (i:=sa+k+(na-k)-1) (by lia);have eal':(Xu st)[sa+na-1]?=some al:=by
  rw[<- eal];congr 1;lia
 refine XF (qG eal (XF (zaa T k1 (mX al mal) mX (fun p q u v h1 h2 h3 eu ev=>yu u2 h1 h2 h3 eu ev) (by show sa+na+nb<=(Xu st).size;lia) (by lia) fun k' hk' g3 g4=>?_)));dsimp only;have b0a:rk b0<rk al:=g2 (na-1) al (by lia) (by lia) (by rw[show sa+(na-1)=sa+na-1 by lia];exact eal');have k'1:1<=k':=by
  refine PX.mpr fun hz0=>?_;have:=g4 0 b0 (by lia) (by lia) (by simpa using eb0);lia
 refine qj (fun hc=>absurd (show k'=0 by simpa using hc) (by lia)) fun _=>?_;have X3:sa+na<=(Xu st).size:=by lia
 have Y3:sa+na+k'<=(Xu st).size:=by lia
 have xs:=zi3 (i:=sa+k) (j:=sa+na) u1 (by lia) (XW _) X3;have ys:=zi3 (i:=sa+na) (j:=sa+na+k') u2 (XW _) (by lia) Y3;have xm:∀x∈((Xu st).extract (sa+k) (sa+na)).toList,x∈a0.toList:=fun x hx=>by
  obtain⟨j,_,_,ej⟩:=ext_mem X3 hx;exact mX x (zgP ej)
 have ym:∀x∈((Xu st).extract (sa+na) (sa+na+k')).toList,x∈a0.toList:=fun x hx=>by
  obtain⟨j,_,_,ej⟩:=ext_mem Y3 hx;exact mX x (zgP ej)
 have xz:((Xu st).extract (sa+k) (sa+na)).size=na-k:=by
  rw[Qv X3];lia
 have yz:((Xu st).extract (sa+na) (sa+na+k')).size=k':=by
  rw[Qv Y3];lia
 have first:∀x y,((Xu st).extract (sa+na) (sa+na+k'))[0]?=some x->y∈((Xu st).extract (sa+k) (sa+na)).toList->rk x<rk y:=fun x y ex my=>by
  rw[ext_get (by lia) Y3 (by lia),TR,eb0] at ex;cases ex;obtain⟨j,j1,j2,ej⟩:=ext_mem X3 my;exact g2 (j-sa) y (by lia) (by lia) (by rw[show sa+(j-sa)=j by lia];exact ej)
 have last:∀x∈((Xu st).extract (sa+na) (sa+na+k')).toList,∀y,((Xu st).extract (sa+k) (sa+na))[((Xu st).extract (sa+k) (sa+na)).size-1]?=some y->rk x<rk y:=fun x mx y ey=>by
  rw[xz,ext_get (by lia) X3 (by lia),show sa+k+(na-k-1)=sa+na-1 by lia,eal'] at ey;cases ey;obtain⟨j,j1,j2,ej⟩:=ext_mem Y3 mx;exact g3 (j-(sa+na)) x (by lia) (by rw[show sa+na+(j-(sa+na))=j by lia];exact ej)
 have tail:∀(merged:Array Xc) (st2:WV),Kept st1 st2->Mg rk ((Xu st).extract (sa+k) (sa+na)).toList ((Xu st).extract (sa+na) (sa+na+k')).toList merged.toList ->
   Q true (setArr st2 (merged.toList.zipIdx.foldl (fun a (p:Xc×Nat)=>a.setIfInBounds (sa+k+p.2) p.1) (Xu st2))):=fun merged st2 K2 hM=>by
  have ea2:Xu st2=Xu st:=K2.arr.trans ea;have ml:merged.toList.length=na-k+k':=by
   rw[hM.1.length_eq,XZ,X5,X5,xz,yz]
  have at_:∀j:Nat,(merged.toList.zipIdx.foldl (fun a (p:Xc×Nat)=>a.setIfInBounds (sa+k+p.2) p.1) (Xu st2))[j]?=if sa+k<=j/\j<sa+na+k' then merged.toList[j-(sa+k)]? else (Xu st)[j]?:=fun j=>by
   have:=zkH (sa+k) merged.toList 0 (Xu st2) j (by rw[ea2,ml];lia);rw[this,ea2,TR,ml];by_cases c:sa+k<=j/\j<sa+na+k'
   ·rw[if_pos c,if_pos (by lia)]
   ·rw[if_neg c,if_neg (by lia)]
  have zA:=zcA (sa+k) merged.toList 0 (Xu st2);generalize hN:merged.toList.zipIdx.foldl (fun a (p:Xc×Nat)=>a.setIfInBounds (sa+k+p.2) p.1) (Xu st2)=N at at_ zA ⊢;have zN:N.size=a0.size:=by
   rw[zA,ea2,hsz]
  have nl:N.toList=(Xu st).toList.take (sa+k)++merged.toList++(Xu st).toList.drop (sa+na+k'):=by
   refine UM fun j=>?_;rw[Xx,at_ j];by_cases c1:j<sa+k
   ·rw[if_neg (by lia),W7,VZ (by rw[XD,X5];lia),List.getElem?_take,if_pos c1,Xx]
   ·rw[W7,Ws (by rw[XD,X5];lia),XD,X5,show min (sa+k) (Xu st).size=sa+k by lia];by_cases c2:j<sa+na+k'
    ·rw[if_pos ⟨by lia,c2⟩,VZ (by rw[ml];lia)]
    ·rw[if_neg (by lia),Ws (by rw[ml];lia),Um,Xx,ml];congr 1;lia
  have ol:(Xu st).toList=(Xu st).toList.take (sa+k)++(((Xu st).extract (sa+k) (sa+na)).toList++((Xu st).extract (sa+na) (sa+na+k')).toList)++(Xu st).toList.drop (sa+na+k'):=by
   rw[ext_toList _ _ _ (by lia),ext_toList _ _ _ (by lia)];have d1:(Xu st).toList.drop (sa+na)=((Xu st).toList.drop (sa+k)).drop (na-k):=by
    rw[Pl];congr 1;lia
   have d2:(Xu st).toList.drop (sa+na+k')=((Xu st).toList.drop (sa+na)).drop k':=by
    rw[Pl]
   rw[d2,show sa+na+k'-(sa+na)=k' by lia,W7,W7,WC,d1,show sa+na-(sa+k)=na-k by lia,WC,WC]
  refine h _ ⟨?_,K2.kind.trans k1,K2.bad.trans ef⟩ (K2.pend.trans ep) (zly (by show _<=N.size;lia) fun p q u v h1 h2 h3 eu ev=>?_) fun j hj=>?_
  ·refine Array.Perm.trans ?_ O.perm;rw[UV];show N.toList.Perm _;have pm:=List.Perm.append_right ((Xu st).toList.drop (sa+na+k')) (SJ ((Xu st).toList.take (sa+k)) hM.1);rw[<- ol,<- nl] at pm;exact pm
  ·have eu':N[p]?=some u:=eu;have ev':N[q]?=some v:=ev;rw[at_] at eu' ev';have mid:∀{j:Nat} {x:Xc},sa+k<=j->j<sa+na+k'->merged.toList[j-(sa+k)]?=some x->(∃m,sa+k<=m/\m<sa+na/\(Xu st)[m]?=some x)\/∃m,sa+na<=m/\m<sa+na+k'/\(Xu st)[m]?=some x:=fun _ _ e=>by
    rcases XI.mp (hM.1.mem_iff.mp (X0 e)) with z | z
    ·exact .inl (ext_mem X3 z)
    ·exact .inr (ext_mem Y3 z)
   by_cases c1:p<sa+k
   ·rw[if_neg (by lia)] at eu';by_cases c2:q<sa+k
    ·rw[if_neg (by lia)] at ev';exact yu u1 h1 h2 (by lia) eu' ev'
    ·have low:∀{m:Nat} {x:Xc},sa+na<=m->m<sa+na+nb->(Xu st)[m]?=some x->rk u<=rk x:=fun m1 m2 em=>by
      have q1:=g1 (p-sa) u (by lia) (by rw[show sa+(p-sa)=p by lia];exact eu');exact Vq q1 (yu u2 (XW _) m1 m2 eb0 em)
     by_cases c3:q<sa+na+k'
     ·rw[if_pos ⟨by lia,c3⟩] at ev';rcases mid (by lia) c3 ev' with ⟨m,m1,m2,em⟩ | ⟨m,m1,m2,em⟩
      ·exact yu u1 h1 (by lia) m2 eu' em
      ·exact low m1 (by lia) em
     ·rw[if_neg (by lia)] at ev';exact low (by lia) h3 ev'
   ·by_cases c4:p<sa+na+k'
    ·rw[if_pos ⟨by lia,c4⟩] at eu';by_cases c3:q<sa+na+k'
     ·rw[if_pos ⟨by lia,c3⟩] at ev';by_cases epq:p=q
      ·subst epq;rw[eu'] at ev';cases ev';exact UZ _
      ·have sp:=hM.2;rw[Vh] at sp;obtain⟨a1,a2⟩:=X2.mp eu';obtain⟨b1,b2⟩:=X2.mp ev';have:=sp _ _ a1 b1 (by lia);rw[a2,b2] at this;exact this
     ·rw[if_neg (by lia)] at ev';have q4:=g4 (q-(sa+na)) v (by lia) (by lia) (by rw[show sa+na+(q-(sa+na))=q by lia];exact ev');rcases mid (by lia) c4 eu' with ⟨m,m1,m2,em⟩ | ⟨m,m1,m2,em⟩
      ·exact Vq (yu u1 (by lia) (by lia) (by lia) em eal') q4
      ·exact yu u2 m1 (by lia) h3 em ev'
    ·rw[if_neg (by lia)] at eu' ev';exact yu u2 (by lia) h2 h3 eu' ev'
  ·show N[j]?=_;rw[at_,if_neg (by lia)]
 refine qj (fun _=>?_) fun _=>?_
 ·refine XF (zhK T k1 xm ym xs ys (Td (show 0<na-k by lia) xz.symm) (Td (show 0<k' by lia) yz.symm) (fun x y ex my=>VX (first x y ex my)) last fun out st2 K2 hM=>?_);refine XF (Th (XF (Sx ?_)));rw[show (S5 st2).isNone=true by rw[K2.bad,ef];rfl];exact Xw (tail out st2 K2 hM)
 ·refine XF (zhL T k1 xm ym xs ys (Td (show 0<na-k by lia) xz.symm) (Td (show 0<k' by lia) yz.symm) first last fun out st2 K2 hM=>?_);refine XF (Th (XF (Sx ?_)));rw[show (S5 st2).isNone=true by rw[K2.bad,ef];rfl];exact Xw (tail out st2 K2 hM)
end
end GS
namespace GS
def YL:List (Nat×Nat×Nat)->Nat->Nat->Prop
 | [],s,e=>s=e
 | r::l,s,e=>r.1=s/\1<=r.2.1/\YL l (s+r.2.1) e
theorem j9:∀{l1 l2:List (Nat×Nat×Nat)} {s e:Nat},YL (l1++l2) s e ↔ ∃m,YL l1 s m/\YL l2 m e
 | [],l2,s,e=>⟨fun h=>⟨s,rfl,h⟩,fun ⟨m,h1,h2⟩=>by
  have e:s=m:=h1;subst e;exact h2⟩
 | r::l1,l2,s,e=>by
  constructor
  ·rintro⟨h1,h2,h3⟩;obtain⟨m,h4,h5⟩:=j9.mp h3;exact⟨m,⟨h1,h2,h4⟩,h5⟩
  ·rintro⟨m,⟨h1,h2,h3⟩,h4⟩;exact⟨h1,h2,j9.mpr ⟨m,h3,h4⟩⟩
theorem Z5:∀{l:List (Nat×Nat×Nat)} {s e:Nat},YL l s e->s<=e/\l.length+s<=e/\∀r∈l,s<=r.1/\r.1+r.2.1<=e
 | [],s,e,h=>by
  have e':s=e:=h;subst e';exact⟨XW _,by simp,fun r hr=>nomatch hr⟩
 | r::l,s,e,⟨h1,h2,h3⟩=>by
  obtain⟨a1,a2,a3⟩:=Z5 h3;refine⟨by lia,by rw[Xp];lia,fun q hq=>?_⟩;rcases XR.mp hq with rfl | hq
  ·lia
  ·have:=a3 q hq;lia
section
variable {prog:Xl}{w:W3}{A:WW}{E:X9->X8->Prop}{s:X8}{rk:Xc->Int}{κ:T4}{a0:Array Xc}
structure PI (rk:Xc->Int)(κ:T4)(a0:Array Xc)(lo:Nat)(st:WV):Prop where
 ok:Ok κ a0 st
 til:YL (WU st).toList 0 lo
 up:∀r∈(WU st).toList,Up rk (Xu st) r.1 (r.1+r.2.1)
theorem zaQ {xs ys:Array Xc}{lo hi:Nat}(u:Up rk xs lo hi)(h:∀j:Nat,lo<=j->j<hi->ys[j]?=xs[j]?):Up rk ys lo hi:=fun i j h1 h2 h3=>by
 rw[x6 (h i h1 (by lia)),x6 (h j (by lia) h3)];exact u i j h1 h2 h3
theorem zmp {p:List (Nat×Nat×Nat)}{i:Nat}(h:i+1<p.length):∃l1 r1 r2 l2,p=l1++r1::r2::l2/\l1.length=i/\p[i]?=some r1/\p[i+1]?=some r2:=by
 refine⟨p.take i,p[i],p[i+1],p.drop (i+2),?_,by rw[XD];lia,X4 (by lia),X4 h⟩;rw[<- WF h,<- WF (by lia),WC]
theorem zey {st:WV}{lo i:Nat}{Q:Bool->WV->Prop}(T:Tells prog w A s κ rk a0)(P:PI rk κ a0 lo st)(hi:i+1<(WU st).size)(hlo:lo<=a0.size)
  (h:∀st',PI rk κ a0 lo st'->(WU st').size+1=(WU st).size->(∀j:Nat,lo<=j->(Xu st')[j]?=(Xu st)[j]?)->Q true st'):wpS (Xr prog w) A E s (mergeAt' i) Q st:=by
 obtain⟨l1,⟨sa,na,p1⟩,⟨sb,nb,p2⟩,l2,ep,el,e1,e2⟩:=zmp (p:=(WU st).toList) (i:=i) (by rw[X5];exact hi);have til:=P.til;rw[ep] at til;obtain⟨m,t1,⟨a1,a2,a3,a4,a5⟩⟩:=j9.mp til;dsimp only at a1 a2 a3 a4 a5;subst a1;subst a3;rw[Xx] at e1 e2;have u1:=P.up (sa,na,p1) (by rw[ep];simp);have u2:=P.up (sa+na,nb,p2) (by rw[ep];simp);dsimp only at u1 u2;obtain⟨b1,b2,b3⟩:=Z5 a5;obtain⟨c1,c2,c3⟩:=Z5 t1;refine zhM T P.ok e1 e2 a2 a4 (by lia) u1 u2 fun st' O' ep' up' out'=>?_;have el':(WU st').toList=l1++(sa,na+nb,p1)::l2:=by
  rw[ep',Array.toList_eraseIdxIfInBounds,RP,ep,<- el];rw[List.set_append_right _ _ (XW _),TU,List.set_cons_zero,List.eraseIdx_append_of_length_le (by lia),show l1.length+1-l1.length=1 by lia];rfl
 refine h st' ⟨O',?_,fun r hr=>?_⟩ ?_ fun j hj=>out' j (by lia)
 ·rw[el'];exact j9.mpr ⟨sa,t1,rfl,by show 1<=na+nb;lia,by rw[show sa+(na+nb)=sa+na+nb by lia];exact a5⟩
 ·rw[el'] at hr;rcases XI.mp hr with hr | hr
  ·have:=c3 r hr;exact zaQ (P.up r (by rw[ep];exact Xd _ hr)) fun j h1 h2=>out' j (by lia)
  ·rcases XR.mp hr with rfl | hr
   ·show Up rk (Xu st') sa (sa+(na+nb));rw[show sa+(na+nb)=sa+na+nb by lia];exact up'
   ·have:=b3 r hr;exact zaQ (P.up r (by rw[ep];simp[hr])) fun j h1 h2=>out' j (by lia)
 ·rw[<- X5,el',<- X5,ep];simp only[XZ,Xp];lia
theorem PI.step {lo lo':Nat}{st st':WV}(P:PI rk κ a0 lo st)(S:Step κ a0 lo' st st')(h:lo<=lo'):PI rk κ a0 lo st':=by
 refine⟨S.ok,by rw[S.pend];exact P.til,fun r hr=>?_⟩;rw[S.pend] at hr;have:=(Z5 P.til).2.2 r hr;exact zaQ (P.up r hr) fun j h1 h2=>S.low j (by lia)
theorem zav (pw:Nat):∀{l:List (Nat×Nat×Nat)} {k s e:Nat},YL l s e->YL (l.modify k fun r=>(r.1,r.2.1,pw)) s e
 | [],k,s,e,h=>by
  cases k<;>exact h
 | r::l,0,s,e,⟨h1,h2,h3⟩=>⟨h1,h2,h3⟩
 | r::l,k+1,s,e,⟨h1,h2,h3⟩=>⟨h1,h2,zav pw h3⟩
theorem zcB {pw:Nat}:∀{l:List (Nat×Nat×Nat)} {k:Nat} {r:Nat×Nat×Nat},r∈l.modify k (fun r=>(r.1,r.2.1,pw))->∃q∈l,q.1=r.1/\q.2.1=r.2.1
 | [],k,r,h=>by
  cases k<;>cases h
 | q::l,0,r,h=>by
  rcases XR.mp h with rfl | h
  ·exact⟨q,XU,rfl,rfl⟩
  ·exact⟨r,XX _ h,rfl,rfl⟩
 | q::l,k+1,r,h=>by
  rcases XR.mp h with rfl | h
  ·exact⟨r,XU,rfl,rfl⟩
  ·obtain⟨q',h1,h2⟩:=zcB h;exact⟨q',XX _ h1,h2⟩
theorem ite_le (c:Prop) [Decidable c](n:Nat):(if c then n-1 else n)<=n:=by
 split<;>lia
theorem zmq {st:WV}{Q:Unit->WV->Prop}(T:Tells prog w A s κ rk a0)(O:Ok κ a0 st)(hp:WU st=#[])(h:∀st',Ok κ a0 st'->Up rk (Xu st') 0 a0.size->Q () st'):wpS (Xr prog w) A E s sortRuns' Q st:=by
 rw[sortRuns'_eq];refine XF (Sx ?_);dsimp only;rw[O.size];generalize minRun' a0.size a0.size 0=mr;refine XF (Uy (VY (I:=fun x c st'=>∃lo,c=(none,lo)/\PI rk κ a0 lo st'/\lo<=a0.size/\x<=lo)
  (Q:=fun c st'=>c=(none,a0.size)/\PI rk κ a0 a0.size st') ?step ?fin ⟨0,rfl,⟨O,by rw[hp];rfl,fun r hr=>by rw[hp] at hr;cases hr⟩,W1 _,XW _⟩) ?post)
 case fin =>
  rintro c st' ⟨lo,rfl,P,h1,h2⟩
  obtain rfl:lo=a0.size:=by lia
  exact⟨rfl,P⟩
 case step =>
  rintro x c st1 _ hx ⟨lo,rfl,P,h1,h2⟩
  dsimp only
  refine qj (fun hge=>?_) fun hge=>?_
  ·obtain rfl:lo=a0.size:=by lia
   exact Xw ⟨rfl,P⟩
  refine XF (znF T P.ok (by lia) (by lia) fun m st2 S m1 m2 hu=>?_)
  dsimp only
  have P2:=P.step S (XW _)
  refine qj (fun hmr=>?_) fun hmr=>?_
  refine XF (Rl (UG ⟨rfl,?_⟩))
  refine XF (znG T S.ok (by lia) (by lia) hu fun st3 S3 hu3=>?_)
  rw[if_neg (by decide)]
  have P3:=P2.step S3 (XW _)
  have n1:1<=min (a0.size-lo) mr:=by lia
  have n2:lo+min (a0.size-lo) mr<=a0.size:=by lia
  clear P2 S3
  generalize min (a0.size-lo) mr=n at hu3 n1 n2 ⊢
  rotate_left
  have P3:=P2
  have hu3:=hu
  have n1:=m1
  have n2:lo+m<=a0.size:=by lia
  clear P2
  generalize m=n at hu3 n1 n2 ⊢
  generalize st2=st3 at P3 hu3 ⊢
  rotate_left
  all_goals
   refine XF (Sx ?_)
   have fin:∀st4,PI rk κ a0 lo st4->Up rk (Xu st4) lo (lo+n)->PI rk κ a0 (lo+n) (setPending st4 ((WU st4).push (lo,n,0))):=fun st4 P4 u4=>by
    refine⟨⟨P4.ok.perm,P4.ok.kind,P4.ok.good⟩,?_,fun r hr=>?_⟩
    ·show YL ((WU st4).push (lo,n,0)).toList 0 (lo+n);rw[SO];exact j9.mpr ⟨lo,P4.til,rfl,n1,rfl⟩
    ·have hr':r∈((WU st4).push (lo,n,0)).toList:=hr;rw[SO] at hr';rcases XI.mp hr' with hr' | hr'
     ·exact P4.up r hr'
     ·have er:r=(lo,n,0):=by simpa using hr'
      subst er;exact u4
   cases hbk:(WU st3).back? with
   | none =>
    dsimp only;exact XF (Th (Xw ⟨lo+n,rfl,fin st3 P3 hu3,n2,by lia⟩))
   | some r =>
    obtain⟨s1,k1,q1⟩:=r;dsimp only;generalize power' a0.size (2*s1+k1) (2*s1+k1+k1+n) a0.size=pw;refine XF (Uy (VY (I:=fun _ c st4=>c=(none,())/\PI rk κ a0 lo st4/\Up rk (Xu st4) lo (lo+n)) (Q:=fun c st4=>c=(none,())/\PI rk κ a0 lo st4/\Up rk (Xu st4) lo (lo+n)) ?_ (fun _ _ hh=>hh) ⟨rfl,P3,hu3⟩) ?_)
    ·rintro y c st4 _ _ ⟨rfl,P4,u4⟩;refine XF (Sx ?_);by_cases hz:(WU st4).size>1
     ·rw[if_pos hz,getElem?_pos (WU st4) ((WU st4).size-2) (by lia)];generalize (WU st4)[(WU st4).size-2]'(by lia)=r2;obtain⟨r2a,r2b,r2c⟩:=r2;dsimp only;refine qj (fun _=>Xw ⟨rfl,P4,u4⟩) fun _=>?_;refine XF (zey T P4 (by lia) h1 fun st5 P5 _ zor=>?_);rw[if_neg (by decide)];exact Xw ⟨rfl,P5,zaQ u4 fun j j1 _=>zor j j1⟩
     ·rw[if_neg hz];exact Xw ⟨rfl,P4,u4⟩
    ·rintro c st4 ⟨rfl,P4,u4⟩;dsimp only;refine XF (Th (XF (Th (Xw ⟨lo+n,rfl,fin _ ⟨⟨P4.ok.perm,P4.ok.kind,P4.ok.good⟩,?_,fun r hr=>?_⟩ u4,n2,by lia⟩))))
     ·show YL ((WU st4).modify ((WU st4).size-1) fun r=>(r.1,r.2.1,pw)).toList 0 lo;rw[O4];exact zav pw P4.til
     ·have hr':r∈((WU st4).modify ((WU st4).size-1) fun r=>(r.1,r.2.1,pw)).toList:=hr;rw[O4] at hr';obtain⟨q,hq,e1,e2⟩:=zcB hr';have:=P4.up q hq;rw[e1,e2] at this;exact this
 case post =>
  rintro c st1 ⟨rfl,P⟩
  dsimp only
  have len0:=(Z5 P.til).2.1
  rw[X5] at len0
  refine XF (Uy (VY (I:=fun x c st2=>c=(none,())/\PI rk κ a0 a0.size st2/\((WU st2).size+x<=a0.size\/(WU st2).size<=1)) (Q:=fun c st2=>c=(none,())/\PI rk κ a0 a0.size st2/\(WU st2).size<=1) ?step2 ?fin2 ⟨rfl,P,.inl (by lia)⟩) ?post2)
  case fin2 =>
   rintro c st2 ⟨rfl,P2,hz⟩
   exact⟨rfl,P2,by lia⟩
  case step2 =>
   rintro x c st2 _ hx ⟨rfl,P2,hz⟩
   refine XF (Sx ?_)
   refine qj (fun h1=>Xw ⟨rfl,P2,h1⟩) fun h1=>?_
   refine XF (zey T P2 ?_ (XW _) fun st3 P3 z3 _=>?_)
   ·exact Xe (Pj (ite_le _ _) 1) (show (WU st2).size-2+1<(WU st2).size by lia)
   ·rw[if_neg (by decide)];exact Xw ⟨rfl,P3,by lia⟩
  case post2 =>
   rintro c st2 ⟨rfl,P2,hz⟩
   dsimp only
   refine Xw (h st2 P2.ok ?_)
   have til:=P2.til
   have up:=P2.up
   have zl:(WU st2).toList.length<=1:=by rw[X5];exact hz
   cases hl:(WU st2).toList with
   | nil =>
    rw[hl] at til;have e:0=a0.size:=til;exact fun i j _ _ h3=>absurd h3 (by lia)
   | cons r l =>
    rw[hl] at til zl up;obtain rfl:l=[]:=Vt.mp (by rw[Xp] at zl;lia);obtain⟨t1,t2,t3⟩:=til;have t3':0+r.2.1=a0.size:=t3;have u:=up r XU;rw[t1,t3'] at u;exact u
end
end GS
namespace GS
structure Wk {K:Type}(lt:K->K->Bool):Prop where
 tot:∀x y,lt x y=true->lt y x=false
 tr:∀x y z,lt y x=false->lt z y=false->lt z x=false
def rkK {K:Type}(lt:K->K->Bool)(ks:List K)(k:K):Int:=((ks.countP fun q=>lt q k:Nat):Int)
theorem count_le {K:Type}{p q:K->Bool}:∀{ks:List K},(∀x∈ks,p x=true->q x=true)->ks.countP p<=ks.countP q
 | [],_=>XW _
 | x::ks,h=>by
  have ih:=count_le (ks:=ks) fun y hy=>h y (XX _ hy);rw[Wl,Wl];have hx:=h x XU;by_cases c:p x=true
  ·rw[if_pos c,if_pos (hx c)];lia
  ·rw[if_neg c];lia
theorem zi4 {K:Type}{p q:K->Bool}{ks:List K}(h:∀x∈ks,p x=true->q x=true)(hq:∃x∈ks,p x=false/\q x=true):ks.countP p<ks.countP q:=by
 obtain⟨y,hy,h1,h2⟩:=hq;induction ks with
 | nil=>cases hy
 | cons x ks ih =>
  rw[Wl,Wl];have hx:=h x XU;rcases XR.mp hy with rfl | hy
  ·have ih:=count_le (ks:=ks) fun y hy=>h y (XX _ hy);rw[h1,h2,if_neg XT,if_pos rfl];lia
  ·have ih:=ih (fun y hy=>h y (XX _ hy)) hy;by_cases c:p x=true
   ·rw[if_pos c,if_pos (hx c)];lia
   ·rw[if_neg c];lia
theorem Wk.rank {K:Type}{lt:K->K->Bool}(W:Wk lt){ks:List K}{x y:K}(hx:x∈ks):lt x y=decide (rkK lt ks x<rkK lt ks y):=by
 unfold rkK;cases h:lt x y with
 | true =>
  refine(decide_eq_true ?_).symm;have:=zi4 (ks:=ks) (p:=fun q=>lt q x) (q:=fun q=>lt q y) (fun q _ hq=>?_) ⟨x,hx,?_,h⟩
  ·lia
  ·cases hc:lt q y with
   | true=>rfl
   | false =>
    have:=W.tr x y q (W.tot x y h) hc;have hq':lt q x=true:=hq;rw[this] at hq';cases hq'
  ·cases hc:lt x x with
   | false=>rfl
   | true=>exact hc.symm.trans (W.tot x x hc)
 | false =>
  refine(decide_eq_false ?_).symm;have:=count_le (ks:=ks) (p:=fun q=>lt q y) (q:=fun q=>lt q x) fun q _ hq=>by
   cases hc:lt q x with
   | true=>rfl
   | false =>
    have:=W.tr y x q h hc;have hq':lt q y=true:=hq;rw[this] at hq';cases hq'
  lia
section
variable {prog:Xl}{w:W3}{A:WW}{E:X9->X8->Prop}{s:X8}
theorem zcC {a:Addr}{vs:List X9}{n:Nat}{P:PySem.Fin->X8->Prop}(ho:s.heap.get? a=some (Us "list" vs.toArray n))(hz:vs.length<=XC)(r:X9->Int)
  (hk:2<=vs.length->∀s':X8,(∀b o,b≠a->s.heap.get? b=some o->s'.heap.get? b=some o)->Xo (Xr prog w) A (keyKind' vs.toArray) (fun κ s2=>s2=s'/\Tells prog w A s' κ (fun p=>r p.1) (O7 vs)) (fun _ _=>False) s')
  (h:∀(ws:List X9) (h':Heap) (c:Nat),ws.Perm vs->ws.Pairwise (fun x y=>r x<=r y)->(∀b o,b≠a->s.heap.get? b=some o->h'.get? b=some o)->h'.get? a=some (Us "list" ws.toArray c)->P (.done (.ret .none)) { s with heap:=h' }) :
  Xo (Xr prog w) A (UQ.«list.sort» ⟨[.ref a],[]⟩) P E s:=by
 have lta:a<s.heap.objs.size:=XQ ho;have hu1:=get?_update_seq ho fun _=>(#[]:Array X9);generalize hX:s.heap.update a (U6 fun _=>(#[]:Array X9))=X1 at hu1;have zX:X1.objs.size=s.heap.objs.size:=by rw[<- hX,Heap.size_update]
 have kX:∀b o,b≠a->s.heap.get? b=some o->X1.get? b=some o:=fun b o hb e=>by
  rw[<- hX,Sb _ _ _ _ hb];exact e
 obtain⟨e1,hu⟩:∃e1,X1.get? a=some (Us "list" #[] e1):=⟨_,hu1⟩;generalize hY:(X1.push (Us "tuple" vs.toArray 0)).push (Us "list" #[] 0)=Y;have hYa:Y.get? a=some (Us "list" #[] e1):=by
  rw[<- hY];exact X7 _ (X7 _ hu)
 have kY:∀b o,b≠a->s.heap.get? b=some o->Y.get? b=some o:=fun b o hb e=>by
  rw[<- hY];exact X7 _ (X7 _ (kX b o hb e))
 have last:∀(st:WV),(((Xu st).map (·.2)).toList.Perm vs)->(((Xu st).map (·.2)).toList.Pairwise fun x y=>r x<=r y)->S5 st=none ->
   Xo (Xr prog w) A (do
    let touched:=(<- seqEpoch a) != e1
    Builtin.List.listUpdate (.ref a) fun _=>(Xu st).map (·.2)
    if let some e:=S5 st then rule "list.sort.comparison-raised";throw e
    if touched then rule "list.sort.modified";raiseError "ValueError" "list modified during sort"
    ret .none) P E { s with heap:=Y }:=by
  intro st hp hs hf;generalize ew:(Xu st).map (·.2)=wsA at hp hs;rw[hf];have hlen:wsA.size=vs.length:=by rw[<- X5,hp.length_eq]
  have hu2:=get?_update_seq hYa fun _=>wsA;refine ZB (seqEpoch_at hYa rfl (ZB (listUpdate_at hYa rfl ?_ (W1 _) (by rw[hlen];lia))));simp only[bne_self_eq_false,Wp,if_false];refine XY (h wsA.toList _ _ hp hs (fun b o hb e=>?_) hu2);rw[Sb _ _ _ _ hb];exact kY b o hb e
 rw[list_sort_plain];refine ZB (listItems_at ho rfl (ZB (listUpdate_at ho rfl ?_ (by rw[Xv];exact hz) (W1 _))));rw[hX];refine ZB (seqEpoch_at hu rfl (ZB (wpAny_newTuple (ZB (OX ?_ (W1 _))) hz)));show Xo (Xr prog w) A _ P E { s with heap:=(X1.push (Us "tuple" vs.toArray 0)).push (Us "list" #[] 0) };rw[hY];refine WN ?_;dsimp only;have e2:((O7 vs).map (·.2)).toList=vs:=by
  rw[UX,Uw];exact List.map_snd_zip (XW _)
 by_cases c2:vs.toArray.size<2
 ·have c2':vs.length<2:=by rw[Xv] at c2;exact c2
  rw[if_pos c2,if_pos c2];refine ZB (XY ?_);rw[StateT.run_pure];refine ZB (XY ?_);refine last (SortSt.mk' general' (O7 vs) #[] 7 none) (by show ((O7 vs).map (·.2)).toList.Perm vs;rw[e2]) (by
   show ((O7 vs).map (·.2)).toList.Pairwise _;rw[e2,Vh];intro i j hi hj hij;lia) rfl
 ·have c2':2<=vs.length:=by rw[Xv] at c2;lia
  rw[if_neg c2,if_neg c2];refine ZB (Xa (hk c2' { s with heap:=Y } kY) (fun κ s2 ⟨e3,T⟩=>?_) fun _ _ x=>x.elim);subst e3;have run:=zmq (E:=E) (st:=SortSt.mk' κ (O7 vs) #[] 7 none) (Q:=fun _ st'=>(((Xu st').map (·.2)).toList.Perm vs)/\(((Xu st').map (·.2)).toList.Pairwise fun x y=>r x<=r y)/\S5 st'=none) T ⟨Array.Perm.refl _,rfl,rfl⟩ rfl fun st' O hu=>?_
  ·unfold wpS at run;refine ZB (Xa run ?_ fun _ _ z=>z);rintro⟨⟨⟩,st'⟩ s' ⟨rfl,hp,hs,hf⟩;exact last st' hp hs hf
  ·have pm:=UV.mp O.perm;have same:∀p∈(Xu st').toList,p.1=p.2:=fun p hp=>by
    have:=pm.mem_iff.mp hp;rw[Uw] at this;exact(R8 this).1
   refine⟨?_,?_,O.good⟩
   ·have:=pm.map (·.2);rw[UX];rw[Uw,List.map_snd_zip (XW _)] at this;exact this
   ·rw[UX,Wd,Vh];intro i j hi hj hij;have zs:=O.size;rw[X5] at hi hj;have u:=yu hu (i:=i) (j:=j) (W1 _) (by lia) (by lia) (getElem?_pos _ i hi) (getElem?_pos _ j hj);have s1:=same (Xu st')[i] (by simp);have s2:=same (Xu st')[j] (by simp);rw[UH,UH,<- s1,<- s2];exact u
theorem zhN {l:Addr}{vs:List X9}{Q:X9->X8->Prop}(hl:s.heap.IsList l vs.toArray)(hz:vs.length<=XC)(r:X9->Int)
  (hk:2<=vs.length->∀s':X8,(∀b o,s.heap.get? b=some o->s'.heap.get? b=some o)->Xo (Xr prog w) A.in1.in1 (keyKind' vs.toArray) (fun κ s2=>s2=s'/\Tells prog w A.in1.in1 s' κ (fun p=>r p.1) (O7 vs)) (fun _ _=>False) s')
  (h:∀(ws:List X9) (h':Heap) (c:Nat),ws.Perm vs->ws.Pairwise (fun x y=>r x<=r y)->(∀b o,s.heap.get? b=some o->h'.get? b=some o)->h'.get? (s.heap.objs.size+1)=some (Us "list" ws.toArray c)->Q (.ref (s.heap.objs.size+1)) { s with heap:=h' }) :
  Xo (Xr prog w) A (call (.builtin "sorted") [.ref l]) Q E s:=by
 generalize hX:(s.heap.push (Us "list" #[] 0)).update s.heap.objs.size (U6 (·++vs.toArray))=X1;have zX:X1.objs.size=s.heap.objs.size+1:=by rw[<- hX,Heap.size_update,VA]
 have kX:∀b o,s.heap.get? b=some o->X1.get? b=some o:=fun b o e=>by
  have lt:=XQ e;rw[<- hX,Sb _ _ _ _ (XA lt)];exact X7 _ e
 apply RL kind_sorted plain_sorted entry_sorted (args_sorted1 _);unfold UQ.«sorted»;refine ZB (m:=checkCount "sorted" 1 1 _) (XY (ZB (collect_list hl ?_ hz)));rw[hX];refine ZB (OX ?_ hz);show Xo _ _ _ _ _ { s with heap:=X1.push (Us "list" vs.toArray 0) };have hoL:(X1.push (Us "list" vs.toArray 0)).get? (s.heap.objs.size+1)=some (Us "list" vs.toArray 0):=by
  rw[<- zX];exact Xb _ rfl
 have kL:∀b o,s.heap.get? b=some o->(X1.push (Us "list" vs.toArray 0)).get? b=some o:=fun b o e=>X7 _ (kX b o e);have ne:∀b o,s.heap.get? b=some o->b≠s.heap.objs.size+1:=fun b o e=>XA (W5 (XQ e));rw[zX];refine ZB (WN (Uv slot_list_sort ⟨_,hoL,rfl⟩ entry_list_sort (zcC (s:={ s with heap:=X1.push (Us "list" vs.toArray 0) }) hoL hz r (fun c s' k=>hk c s' fun b o e=>k b o (ne b o e) (kL b o e)) ?_) (args_list_sort _)));intro ws h' c hp hs kk ha;exact⟨_,rfl,XY ⟨_,rfl,h ws h' c hp hs (fun b o e=>kk b o (ne b o e) (kL b o e)) ha⟩⟩
end
theorem zbh {α β:Type}{R:α->β->Prop}{xs:List α}{ys:List β}(hp:W9 R xs ys):(∀p∈xs.zip ys,R p.1 p.2)/\(xs.zip ys).map (·.1)=xs/\(xs.zip ys).map (·.2)=ys:=by
 induction hp with
 | nil=>exact⟨(fun p h=>nomatch h),rfl,rfl⟩
 | cons h _ ih =>
  obtain⟨a,b,c⟩:=ih;refine⟨fun p hp=>?_,by rw[List.zip_cons_cons,Xs,b],by rw[List.zip_cons_cons,Xs,c]⟩;rcases XR.mp hp with rfl | hp
  ·exact h
  ·exact a p hp
theorem zcD {α β:Type}{R:α->β->Prop}:∀{zs:List (α × β)},(∀p∈zs,R p.1 p.2)->W9 R (zs.map (·.1)) (zs.map (·.2))
 | [],_=>.nil
 | p::zs,h=>.cons (h p XU) (zcD fun q hq=>h q (XX _ hq))
end GS
namespace GS
theorem x8 {α β:Type}{R:α->β->Prop}:∀{xs:List α} {ys:List β},W9 R xs ys->∀x∈xs,∃y∈ys,R x y
 | _,_,.nil,x,h=>nomatch h
 | _,_,.cons h t,x,hx=>by
  rcases XR.mp hx with rfl | hx
  ·exact⟨_,XU,h⟩
  ·obtain⟨y,h1,h2⟩:=x8 t x hx;exact⟨y,XX _ h1,h2⟩
def Tri {K:Type}(RV:V->K->Prop)(RH:X9->K->Prop)(t:V×X9×K):Prop:=RelV t.1 t.2.1/\RV t.1 t.2.2/\RH t.2.1 t.2.2
theorem zmr {K:Type}{RV:V->K->Prop}{RH:X9->K->Prop}{us:List V}{its:List X9}{ks:List K}(h1:Vals us its):W9 RV us ks->W9 RH its ks->∃T:List (V×X9×K),(∀t∈T,Tri RV RH t)/\T.map (·.1)=us/\T.map (·.2.1)=its/\T.map (·.2.2)=ks:=by
 induction h1 generalizing ks with
 | nil =>
  intro h2 h3;cases h2;exact⟨[],(fun t h=>nomatch h),rfl,rfl,rfl⟩
 | @cons u i us its r1 t1 ih =>
  intro h2 h3;cases h2 with
  | @cons _ k _ ks r2 t2 =>
   cases h3 with
   | cons r3 t3 =>
    obtain⟨T,h1,h2,h3,h4⟩:=ih t2 t3;refine⟨(u,i,k)::T,fun t ht=>?_,by rw[Xs,h2],by rw[Xs,h3],by rw[Xs,h4]⟩;rcases XR.mp ht with rfl | ht
    ·exact⟨r1,r2,r3⟩
    ·exact h1 t ht
theorem zez {K:Type}{RV:V->K->Prop}{RH:X9->K->Prop}:∀{T:List (V×X9×K)},(∀t∈T,Tri RV RH t)->Vals (T.map (·.1)) (T.map (·.2.1))/\W9 RV (T.map (·.1)) (T.map (·.2.2))
 | [],_=>⟨.nil,.nil⟩
 | t::T,h=>by
  obtain⟨h1,h2⟩:=zez fun x hx=>h x (XX _ hx);obtain⟨a,b,c⟩:=h t XU;exact⟨.cons a h1,.cons b h2⟩
section
variable {X:Cx}{pins:List (Addr×Obj)}{σ:St}{H:Hp}{s:X8}{K:Type}
theorem zhO {lt:K->K->Bool}(W:Wk lt){RV:V->K->Prop}{RH:Heap->X9->K->Prop}(fn:∀h v k k',RH h v k->RH h v k'->k=k')(kp:∀h h' v k,(∀b o,h.get? b=some o->h'.get? b=some o)->RH h v k->RH h' v k)
  {l:Addr} {us:List V} {its:List X9} {ks:List K} {Q:VK} (I:Inv X pins σ H s) (hl:s.heap.IsList l its.toArray) (hz:us.length<=1000000) (rv:Vals us its) (hv:W9 RV us ks) (hp:W9 (RH s.heap) its ks)
  (kind:∀s':X8,W9 (RH s'.heap) its ks->2<=its.length->Xo (Xr X.prog X.w) X.A.in1.in1 (keyKind' its.toArray) (fun κ s2=>s2=s'/\∀v v' k k',RH s'.heap v k->RH s'.heap v' k'->∀C:Bool->X8->Prop,C (lt k k') s'->Xo (Xr X.prog X.w) X.A.in1.in1 (keyLt' κ v v') C (fun _ _=>False) s') (fun _ _=>False) s')
  (q:∀d us' ks',H d=none->W9 RV us' ks'->ks'.Perm ks->ks'.Pairwise (fun x y=>lt y x=false)->(us'.Perm us)->Q (.ref d) (upd H d (.lst us'))) :
  Xo (Xr X.prog X.w) X.A (call (.builtin "sorted") [.ref l]) (EP X pins σ Q) X.xe s:=by
 classical
 have hil:=rv.length;obtain⟨T,hT,e1,e2,e3⟩:=zmr rv hv hp;let r:X9->Int:=fun v=>if h:∃k,RH s.heap v k then rkK lt ks h.choose else 0
 have rk_:∀{v:X9} {k:K},RH s.heap v k->r v=rkK lt ks k:=fun {v k} h=>by
  have hx:∃k,RH s.heap v k:=⟨k,h⟩;show (if h:∃k,RH s.heap v k then rkK lt ks h.choose else 0)=_;rw[dif_pos hx,fn _ _ _ _ hx.choose_spec h]
 have z1:its.length<=XC:=by
  rw[<- hil,Tb];lia
 refine zhN (vs:=its) hl z1 r (fun h2 s' kk=>?_) fun ws h' c hpm hs kk ha=>?_
 ·have hp':W9 (RH s'.heap) its ks:=by
   obtain⟨a,b,c⟩:=zbh hp;have:=zcD (R:=RH s'.heap) (zs:=its.zip ks) fun p hp=>kp _ _ _ _ kk (a p hp);rw[b,c] at this;exact this
  refine Xa (kind s' hp' h2) (fun κ s2 ⟨e,hc⟩=>⟨e,fun x hx y hy C hC=>?_⟩) fun _ _ z=>z;have mx:x.1∈its:=by
   rw[Uw] at hx;exact(R8 hx).2
  have my:y.1∈its:=by
   rw[Uw] at hy;exact(R8 hy).2
  obtain⟨k,k1,k2⟩:=x8 hp x.1 mx;obtain⟨k',k1',k2'⟩:=x8 hp y.1 my;refine hc x.1 y.1 k k' (kp _ _ _ _ kk k2) (kp _ _ _ _ kk k2') C ?_;have hC':C (decide (r x.1<r y.1)) s':=hC;rw[rk_ k2,rk_ k2',<- W.rank k1] at hC';exact hC'
 ·obtain⟨T',hT',eT⟩:=ST.zbe (fun t:V×X9×K=>t.2.1) hpm T e2.symm;have hTr:∀t∈T',Tri RV (RH s.heap) t:=fun t ht=>hT t (hT'.mem_iff.mp ht);obtain⟨rv',hv'⟩:=zez hTr;rw[<- eT] at rv';have hD:H (s.heap.objs.size+1)=none:=I.hok.fresh (Wg _);refine⟨.ref (s.heap.objs.size+1),upd H (s.heap.objs.size+1) (.lst (T'.map (·.1))),I.laid (t':=s.toks) kk (Wg _) ⟨?_,ws,c,rv',ha⟩,rfl,q _ _ _ hD hv' (by rw[<- e3];exact hT'.map _) ?_ (by rw[<- e1];exact hT'.map _)⟩
  ·rw[rv'.length,hpm.length_eq];exact z1
  ·rw[eT,Wd] at hs;rw[Wd];refine hs.imp_of_mem fun {x y} hx hy h=>?_;obtain⟨_,_,h1⟩:=hTr x hx;obtain⟨_,_,h2⟩:=hTr y hy;rw[rk_ h1,rk_ h2] at h;have my:y.2.2∈ks:=by
    rw[<- e3];exact XB.mpr ⟨y,hT'.mem_iff.mp hy,rfl⟩
   rw[W.rank my];exact decide_eq_false (by lia)
end
theorem zms:Wk lt2:=by
 refine⟨fun x y h=>?_,fun x y z h1 h2=>?_⟩
 ·cases e:lt2 y x with
  | false=>rfl
  | true =>
   have:=zfE h e;rw[zgD] at this;cases this
 ·cases e:lt2 z x with
  | false=>rfl
  | true =>
   by_cases exy:x=y
   ·subst exy;rw[e] at h2;exact h2
   ·have h3:lt2 x y=true:=by
     have:=zaM (p:=x) (q:=y) exy;rw[h1] at this;cases hh:lt2 x y with
     | true=>rfl
     | false =>
      rw[hh] at this;cases this
    have:=zfE e h3;rw[this] at h2;exact h2
theorem zgQ {h:Heap}{v:X9}{p q:Int×Int}(h1:zv h v p)(h2:zv h v q):p=q:=by
 obtain⟨a,o,n,t,u,e,e1,c1,d1⟩:=h1;obtain⟨a',o',n',t',u',e',e1',c1',d1'⟩:=h2;subst e;cases e';rw[e1] at e1';cases e1';rw[d1] at d1';obtain⟨p1,p2⟩:=p;obtain⟨q1,q2⟩:=q;injection d1' with d1' _
 have e2:[Vl p1 t,Vl p2 u]=[Vl q1 t',Vl q2 u']:=congrArg Array.toList d1';injection e2 with e3 e4
 injection e4 with e4 _
 injection e3 with e3 _
 injection e4 with e4 _
 rw[e3,e4]
section
variable {X:Cx}
end
end GS
end L2
namespace PySem.SeqAt
open L2 AutoSeq1 MeetsSeq MeetsSeq2 MeetsSeq3
end PySem.SeqAt
namespace L2
open PySem PySem.Spec PyProof.Rows PySem.W PySem.SeqAt
section
variable {X:Cx}
end
end L2
namespace PySem.SeqAt
open L2 AutoSeq1 MeetsSeq MeetsSeq2 MeetsSeq3
def ltL:List (Int×Int)->List (Int×Int)->Bool
 | _,[]=>false
 | [],_::_=>true
 | p::r,q::t=>if p=q then ltL r t else lt2 p q
theorem zdE (ps:List (Int×Int)):ltL ps []=false:=by cases ps<;>rfl
theorem zgR:∀ps:List (Int×Int),ltL ps ps=false
 | []=>rfl
 | p::r=>by
  unfold ltL;rw[if_pos rfl];exact zgR r
theorem zgS:∀{ps qs:List (Int×Int)},ps≠qs->ltL qs ps=!ltL ps qs
 | [],[],h=>absurd rfl h
 | [],q::t,_=>rfl
 | p::r,[],_=>rfl
 | p::r,q::t,h=>by
  unfold ltL;by_cases e:p=q
  ·subst e;rw[if_pos rfl,if_pos rfl];exact zgS fun z=>h (by rw[z])
  ·rw[if_neg e,if_neg (Vy e)];exact zaM e
theorem zfN:∀{ps qs ss:List (Int×Int)},ltL ps qs=true->ltL qs ss=true->ltL ps ss=true
 | ps,[],_,h,_=>by
  rw[zdE] at h;cases h
 | _,_::_,[],_,h=>by
  rw[zdE] at h;cases h
 | [],_::_,_::_,_,_=>rfl
 | p::r,q::t,x::y,h1,h2=>by
  unfold ltL at *
  by_cases e1:p=q
  ·subst e1;rw[if_pos rfl] at h1;by_cases e2:p=x
   ·rw[if_pos e2] at h2 ⊢;exact zfN h1 h2
   ·rw[if_neg e2] at h2 ⊢;exact h2
  ·rw[if_neg e1] at h1;by_cases e2:q=x
   ·subst e2;rw[if_neg e1];exact h1
   ·rw[if_neg e2] at h2;have h3:=zfE h1 h2;rw[if_neg]
    ·exact h3
    ·intro e;subst e;rw[zgD] at h3;cases h3
theorem zfO {A:WW}{s:X8}{v v':X9}{p q:Int×Int}(h1:zv s.heap v p)(h2:zv s.heap v' q)(hu:A.units+10<U0):EqAt A s v v' (decide (p=q)):=by
 obtain⟨as,ra⟩:=YJ h1;obtain⟨bs,rb⟩:=YJ h2;have:=eqAt_reads _ _ A s _ _ as bs ra rb rfl rfl (by show A.units+min 1 1<U0;lia);rw[zcs] at this;exact this
theorem JV {h:Heap}{xs:Array X9}{ps:List (Int×Int)}(hp:W9 (zv h) xs.toList ps){i:Nat}(hi:i<xs.size):∃p r,ps.drop i=p::r/\ps.drop (i+1)=r/\zv h xs[i] p:=by
 have hl:xs.toList.length=ps.length:=Paired.length hp;rw[X5] at hl;have h2:i<ps.length:=by lia
 obtain⟨a,b,c⟩:=GS.zbh hp;refine⟨ps[i],ps.drop (i+1),WF h2,rfl,?_⟩;have hz:i<(xs.toList.zip ps).length:=by
  rw[List.length_zip,X5];lia
 have:=a _ (TL hz);rw[List.getElem_zip] at this;simpa using this
theorem zhP (l b:Addr)(items items2:Array X9)(n n2:Nat)(dd dd2:Option Addr)(sl sl2:Array (Option X9))(ps qs:List (Int×Int))(k:Nat) :
  ∀i:Nat,items.size-i=k->i<=items.size->i<=items2.size->Meets (UQ.«list.__eq__.loop» ⟨[.ref l,.ref b,Ut i,Ut 0],[]⟩)
   (fun A R s=>s.heap.get? l=some { cls:=.type "list",dict:=dd,data:=.seq items n,slots:=sl }/\s.heap.get? b=some { cls:=.type "list",dict:=dd2,data:=.seq items2 n2,slots:=sl2 } /\
    W9 (zv s.heap) items.toList ps/\W9 (zv s.heap) items2.toList qs/\A.units+20<U0 /\
    R (.ok (.ret (.bool (ltL (ps.drop i) (qs.drop i))))) s):=by
 induction k with
 | zero =>
  intro i hk h1 h2 prog w A R s h;obtain⟨hp,g,d,tk,os⟩:=s;obtain⟨hl,hb,hp1,hp2,hu,h⟩:=h;have l1:items.toList.length=ps.length:=Paired.length hp1;have l2:items2.toList.length=qs.length:=Paired.length hp2;rw[X5] at l1 l2;wp_walk using Wb hl,Wb hb;have hi1:items[((i:Nat):Int).toNat]?=none:=by simp;lia
  rw[hi1];have hd:ps.drop i=[]:=by simp;lia
  have e:ltL (ps.drop i) (qs.drop i)=decide (items.size<items2.size):=by
   rw[hd];by_cases hq:i<qs.length
   ·rw[WF hq];exact(decide_eq_true (by lia)).symm
   ·rw[List.drop_of_length_le (by lia)];exact(decide_eq_false (by lia)).symm
  rw[e] at h;wp_walk using Wb hl,Wb hb;exact h
 | succ k ih =>
  intro i hk h1 h2 prog w A R s h;obtain⟨hp,g,d,tk,os⟩:=s;obtain⟨hl,hb,hp1,hp2,hu,h⟩:=h;have l1:items.toList.length=ps.length:=Paired.length hp1;have l2:items2.toList.length=qs.length:=Paired.length hp2;rw[X5] at l1 l2;wp_walk using Wb hl,Wb hb;have hlt:i<items.size:=by lia
  have hi1:items[((i:Nat):Int).toNat]?=some items[i]:=by simp[hlt]
  by_cases hlt2:i<items2.size
  ·have hi2:items2[((i:Nat):Int).toNat]?=some items2[i]:=by simp[hlt2]
   have hc:((i:Int)+1)=((i+1:Nat):Int):=by push_cast;rfl
   obtain⟨p,r,ep,er,rp⟩:=JV hp1 hlt;obtain⟨q,t,eq,et,rq⟩:=JV hp2 hlt2;rw[hi1,hi2];refine ZB (zfO rp rq (by show A.units+1+10<U0;lia) prog w _ _ ?_);rw[ep,eq] at h;unfold ltL at h;by_cases e:p=q
   ·rw[if_pos e] at h;rw[decide_eq_true e];wp_walk;rw[hc];exact⟨UF plain_eq_loop _,VI entry_eq_loop (by
     rw[V0 plain_eq_loop _];exact ih (i+1) (by lia) (by lia) (by lia) prog w A R _ ⟨hl,hb,hp1,hp2,hu,by rw[er,et];exact h⟩)⟩
   ·rw[if_neg e] at h;rw[decide_eq_false e];simp only[Wp,if_false];refine ZB (RK hl rfl (ZB (RK hb rfl ?_)));rw[hi1,hi2];exact ZB (YU.pairs rp rq (by show A.units+1<U0;lia) prog w _ _ (XY h))
  ·have hi2:items2[((i:Nat):Int).toNat]?=none:=by simp;lia
   rw[hi1,hi2];have hd:qs.drop i=[]:=by simp;lia
   rw[hd,zdE,show false=decide (items.size<items2.size) from (decide_eq_false (by lia)).symm] at h;wp_walk using Wb hl,Wb hb;exact h
theorem zfP (l b:Addr)(items items2:Array X9)(n n2:Nat)(dd dd2:Option Addr)(sl sl2:Array (Option X9))(ps qs:List (Int×Int)) :
  Meets (UQ.«list.__lt__» ⟨[.ref l,.ref b],[]⟩)
   (fun A R s=>s.heap.get? l=some { cls:=.type "list",dict:=dd,data:=.seq items n,slots:=sl }/\s.heap.get? b=some { cls:=.type "list",dict:=dd2,data:=.seq items2 n2,slots:=sl2 } /\
    W9 (zv s.heap) items.toList ps/\W9 (zv s.heap) items2.toList qs/\A.units+20<U0/\R (.ok (.ret (.bool (ltL ps qs)))) s):=by
 intro prog w A R s h;obtain⟨hp1,g1,d1,tk1,os1⟩:=s;obtain⟨hL,hB,hp,hq,hu,h⟩:=h;have fL:=sub_list_list;wp_walk using Wb hL,Wb hB;exact⟨UF plain_eq_loop _,VI entry_eq_loop (by
  rw[V0 plain_eq_loop _];exact zhP l b items items2 n n2 dd dd2 sl sl2 ps qs _ 0 rfl (W1 _) (W1 _) prog w A R _ ⟨hL,hB,hp,hq,hu,by simpa using h⟩)⟩
structure ListPairs (h:Heap)(v:X9)(ps:List (Int×Int)):Prop where
 ex:∃a o xs n,v=.ref a/\h.get? a=some o/\o.cls=.type "list"/\o.data=.seq xs n/\W9 (zv h) xs.toList ps
theorem zi5 {prog:Xl}{w:W3}{A:WW}{E:X9->X8->Prop}{s:X8}{v v':X9}{ps qs:List (Int×Int)}{C:Bool->X8->Prop}(hv:ListPairs s.heap v ps)(hv':ListPairs s.heap v' qs)(hu:A.units+30<U0)(h:C (ltL ps qs) s) :
  Xo (Xr prog w) A (PyProof.Rows.keyLt' PyProof.Rows.oneType' v v') C E s:=by
 obtain⟨a,⟨cls,dd,data,sl⟩,xs,n,rfl,e1,c1,d1,p1⟩:=hv;obtain⟨a',⟨cls2,dd2,data2,sl2⟩,xs',n',rfl,e1',c1',d1',p1'⟩:=hv';simp only at c1 d1 c1' d1';subst c1 d1 c1' d1';rw[PyProof.Rows.keyLt'_oneType,PyProof.Rows.oneLt'_eq];simp only[if_true];refine ZB (wpAny_cRoomFor (by lia) ?_);refine ZB (wpAny_callSpecialIfBound?_slot (T:="list") ⟨_,e1,rfl⟩ F.slot_list_lt ?_);refine SC F.slot_list_lt ⟨_,e1,rfl⟩ F.entry_list_lt (F.args_list_lt_2 _ _) (zfP a a' xs xs' n n' dd dd2 sl sl2 ps qs) ⟨e1,e1',p1,p1',(by lia),?_⟩;exact Vo h
end PySem.SeqAt
namespace L2
open PySem PySem.Spec PyProof.Rows PySem.W PySem.SeqAt
namespace GS
theorem zmt:Wk ltL:=by
 refine⟨fun x y h=>?_,fun x y z h1 h2=>?_⟩
 ·cases e:ltL y x with
  | false=>rfl
  | true =>
   have:=zfN h e;rw[zgR] at this;cases this
 ·cases e:ltL z x with
  | false=>rfl
  | true =>
   by_cases exy:x=y
   ·subst exy;rw[e] at h2;exact h2
   ·have h3:ltL x y=true:=by
     have:=zgS (ps:=x) (qs:=y) exy;rw[h1] at this;cases hh:ltL x y with
     | true=>rfl
     | false =>
      rw[hh] at this;cases this
    have:=zfN e h3;rw[this] at h2;exact h2
def LstAt (H:Hp)(v:V)(ps:List (Int×Int)):Prop:=∃a ws,v=V.ref a/\H a=some (.lst ws)/\yR H ws ps
theorem zhQ {h:Heap}{vs:List X9}{ps qs:List (Int×Int)}(hp:W9 (zv h) vs ps):W9 (zv h) vs qs->ps=qs:=by
 induction hp generalizing qs with
 | nil =>
  intro hq;cases hq;rfl
 | cons a _ ih =>
  intro hq;cases hq with
  | cons b u=>rw[zgQ a b,ih u]
theorem zi6 {h:Heap}{v:X9}{ps qs:List (Int×Int)}(h1:ListPairs h v ps)(h2:ListPairs h v qs):ps=qs:=by
 obtain⟨a,o,xs,n,e,e1,c1,d1,p1⟩:=h1;obtain⟨a',o',xs',n',e',e1',c1',d1',p1'⟩:=h2;subst e;cases e';rw[e1] at e1';cases e1';rw[d1] at d1';injection d1' with d1' _
 subst d1';exact zhQ p1 p1'
theorem Zq {h h':Heap}(k:∀b o,h.get? b=some o->h'.get? b=some o){vs:List X9}{ps:List (Int×Int)}(hp:W9 (zv h) vs ps):W9 (zv h') vs ps:=by
 induction hp with
 | nil=>exact .nil
 | cons q _ ih =>
  obtain⟨a,o,n,t,u,e,e1,r⟩:=q;exact .cons ⟨a,o,n,t,u,e,k _ _ e1,r⟩ ih
section
variable {X:Cx}{pins:List (Addr×Obj)}{σ:St}{H:Hp}{s:X8}
theorem zfQ (I:Inv X pins σ H s){us:List V}{ks:List (List (Int×Int))}{its:List X9}(hp:W9 (LstAt H) us ks)(r:Vals us its):W9 (ListPairs s.heap) its ks:=by
 induction hp generalizing its with
 | nil =>
  cases r;exact .nil
 | cons q _ ih =>
  obtain⟨a,ws,e,h,ht⟩:=q;subst e;cases r with
  | cons r1 r2 =>
   cases r1;refine .cons ?_ (ih r2);obtain⟨z,its,n,rv,hl,e⟩:=I.lstM h;exact⟨a,_,its.toArray,n,rfl,e,rfl,rfl,by rw[List.toList_toArray];exact yR.pairs I ht rv⟩
end
theorem zfR {h:Heap}{its:List X9}{ks:List (List (Int×Int))}(hp:W9 (ListPairs h) its ks):∀v∈its,∃a o,v=WJ a/\h.get? a=some o/\o.cls=.type "list":=by
 induction hp with
 | nil=>exact fun v hv=>nomatch hv
 | cons q _ ih =>
  intro v hv;rcases XR.mp hv with rfl | hv
  ·obtain⟨a,o,xs,n,e,e1,c,_⟩:=q;exact⟨a,o,e,e1,c⟩
  ·exact ih v hv
section
variable {X:Cx}
theorem YM (hu:X.A.units+64<U0):jR X (.builtin "sorted") (fun xs H Q=>∃l us ks,xs=[.ref l]/\SqL X.K H l us/\W9 (LstAt H) us ks/\us.length<=1000000 /\
  ∀d us' ks',H d=none->W9 (LstAt H) us' ks'->ks'.Perm ks->ks'.Pairwise (fun p q=>ltL q p=false)->us'.Perm us->Q (.ref d) (upd H d (.lst us'))):=by
 intro pins s σ H xs us' Q I r h;obtain⟨l,us,ks,rfl,hq,ht,hz,q⟩:=h;obtain⟨u,rfl,ru⟩:=vals1 r;cases ru;obtain⟨its,rv,pl,_⟩:=I.list hq;have hp:=zfQ I ht rv;refine zhO zmt (RH:=ListPairs) (fun h v k k'=>zi6) (fun h h' v k kk ⟨a,o,xs,n,e,e1,c,d,r⟩=>⟨a,o,xs,n,e,kk _ _ e1,c,d,Zq kk r⟩) I pl.isList hz rv ht hp (fun s' hp' h2=>?_) fun d us' ks' hd h1 h2 h3 h4=>q d us' ks' hd h1 h2 h3 h4;refine kas_kind (T:=.type "list") h2 (fun v hv=>?_) (by decide) (by decide) ⟨rfl,fun v v' k k' h1 h2 C hC=>?_⟩
 ·obtain⟨a,o,rfl,e1,c1⟩:=zfR hp' v hv;exact c1 ▸ (Looks.ld e1).andThen .now
 ·exact zi5 h1 h2 (by show X.A.units+1+1+30<U0;lia) hC
end
end GS
open PySem PySem.Spec PyProof.Rows
section
variable {X:Cx}{K:X6}
end
def HasDef (K:X6)(x:Str)(st:Stmt):Prop:=∃(f:Addr) (oc:X9) (od an:Option Addr) (sl:Array (Option X9)) (kV dc pm cd ct:X9),XH K XO x=some (some (.ref f))/\K.lookup f=some ⟨oc,od,.func (UO x x (Jl st) (yC st) (zh st) .none kV dc pm an cd ct),sl⟩/\SY K cd x=true/\T1 K (.ref f)=true
theorem HasDef.at {K:X6}{h:Heap}{mg:Str->Option X9}{x:Str}{st:Stmt}{ps:List Str}(H:HasDef K x st)(X:K.In h)(G:h.Ns XO mg)
  (hb:∀(kV doc pm:X9) (an:Option Addr) (cdv ct:X9) (us:List X9),us.length=ps.length->bindArgs (UO x x (Jl st) (yC st) (zh st) .none kV doc pm an cdv ct) ⟨us,[]⟩=pure (ps.zip us)):∃f fd,zo K mg x st ps f fd:=by
 obtain⟨f,oc,od,an,sl,kV,dc,pm,cd,ct,a,l,c,k⟩:=H;have F:=zir (st:=st) l c k;exact⟨f,_,F,Wf X G a,F.binds hb⟩
open PySem PySem.W
theorem us0 {P:List X9->Prop}(h:P []):∀us:List X9,us.length=0->P us:=by
 intro us e;cases us with
 | nil=>exact h
 | cons a t=>cases e
theorem usS {n:Nat}{P:List X9->Prop}(h:∀a t,t.length=n->P (a::t)):∀us:List X9,us.length=n+1->P us:=by
 intro us e;cases us with
 | nil=>cases e
 | cons a t=>exact h a t (Nat.succ.inj e)
theorem us1 {P:List X9->Prop}(h:∀a,P [a]):∀us:List X9,us.length=1->P us:=usS fun a=>us0 (h a)
theorem us2 {P:List X9->Prop}(h:∀a b,P [a,b]):∀us:List X9,us.length=2->P us:=usS fun a=>us1 (h a)
theorem us3 {P:List X9->Prop}(h:∀a b c,P [a,b,c]):∀us:List X9,us.length=3->P us:=usS fun a=>us2 (h a)
open PySem PySem.Spec PyProof.Rows PySem.W
namespace ST
variable {X:Cx}
theorem zb8 (hh:X.A.handled=none):jR X (.builtin "sorted") (fun xs H Q=>∃l ks,xs=[.ref l]/\H l=some (zew X.prog X.w l ks)/\(∀q∈ks,H q.1=some (.tup [.int q.2.1,.int q.2.2]))/\(ks.map (·.2)).Nodup/\ks.length<64 /\
  ∀d us' ps',H d=none->yR H us' ps'->ps'.Perm (ks.map (·.2))->Up2 ps'->Q (.ref d) (upd H d (.lst us'))):=by
 intro pins s σ H xs us' Q I r h;obtain⟨l,ks,rfl,hl,hT,hnd,h64,q⟩:=h;obtain⟨u,rfl,ru⟩:=vals1 r;cases ru;obtain⟨⟨es,ep,t,ho,he,G,hled,hpl⟩,_,_⟩:=(show qM X.prog X.w H s.heap l (zew X.prog X.w l ks) from I.hok l _ hl);have hkl:ks.length=es.size:=by
  rw[<- X5,he,Y1]
 apply RL kind_sorted plain_sorted entry_sorted (args_sorted1 _);unfold UQ.«sorted»;refine ZB (m:=checkCount "sorted" 1 1 _) (XY (ZB (zeu (by simp[hh]) ho G hled hpl (by lia) fun its h1 tk hpm kk1 zle=>?_)));have hvs:es.toList.map (·.2)=ks.map fun q=>WJ q.1:=by
  rw[he,We];rfl
 rw[hvs] at hpm;obtain⟨js,hjp,hj⟩:=zbe (fun q:Addr×(Int×Int)=>WJ q.1) hpm ks rfl;have hTj:∀q∈js,H q.1=some (.tup [.int q.2.1,.int q.2.2]):=fun q hq=>hT q (hjp.mem_iff.mp hq);have hndj:(js.map (·.2)).Nodup:=(hjp.map (·.2)).nodup_iff.mpr hnd;have hjl:js.length=ks.length:=hjp.length_eq;have hil:its.length=js.length:=by rw[hj,Y1]
 have rv:∀{js:List (Addr×(Int×Int))},Vals (js.map fun q=>V.ref q.1) (js.map fun q=>WJ q.1):=fun {js}=>by
  induction js with
  | nil=>exact .nil
  | cons a t ih=>exact .cons rfl ih
 have ht:∀{js:List (Addr×(Int×Int))},(∀q∈js,H q.1=some (.tup [.int q.2.1,.int q.2.2]))->yR H (js.map fun q=>V.ref q.1) (js.map (·.2)):=fun {js}=>by
  induction js with
  | nil=>exact fun _=>.nil
  | cons a t ih=>exact fun h=>.cons ⟨a.1,rfl,h a XU⟩ (ih fun q hq=>h q (XX _ hq))
 have hp0:W9 (zv s.heap) its (js.map (·.2)):=by
  rw[hj];exact yR.pairs I (ht hTj) rv
 generalize hps:js.map (·.2)=ps at hp0 hndj;have hlp:its.length=ps.length:=Paired.length hp0;have W:=GS.zms;have ip:∀q:Addr×(Int×Int),H q.1=some (.tup [.int q.2.1,.int q.2.2])->zv s.heap (.ref q.1) q.2:=fun q hq=>by
  have:=yR.pairs I (.cons ⟨q.1,rfl,hq⟩ .nil:yR H [V.ref q.1] [q.2]) (.cons rfl .nil:Vals [V.ref q.1] [WJ q.1]);cases this with
  | cons h _=>exact h
 classical
 let r:X9->Int:=fun v=>if h:∃k,zv s.heap v k then GS.rkK lt2 ps h.choose else 0
 have rk_:∀{v:X9} {k:Int×Int},zv s.heap v k->r v=GS.rkK lt2 ps k:=fun {v k} h=>by
  have hx:∃k,zv s.heap v k:=⟨k,h⟩;show (if h:∃k,zv s.heap v k then GS.rkK lt2 ps h.choose else 0)=_;rw[dif_pos hx,GS.zgQ hx.choose_spec h]
 have small:its.length<=XC:=by rw[Tb];lia
 refine ZB (OX ?_ small);have hoL:(h1.push (Us "list" its.toArray 0)).get? h1.objs.size=some (Us "list" its.toArray 0):=Xb _ rfl;have kL:∀b o,s.heap.get? b=some o->(h1.push (Us "list" its.toArray 0)).get? b=some o:=fun b o e=>X7 _ (kk1 b o e);have ne:∀b o,s.heap.get? b=some o->b≠h1.objs.size:=fun b o e=>XA (XQ (kk1 b o e));show Xo _ _ _ _ _ { s with heap:=h1.push (Us "list" its.toArray 0),toks:=tk };refine ZB (WN (Uv slot_list_sort ⟨_,hoL,rfl⟩ entry_list_sort (GS.zcC (s:={ s with heap:=h1.push (Us "list" its.toArray 0),toks:=tk }) hoL small r (fun h2 s' kk=>?_) ?_) (args_list_sort _)))
 ·have hp':=Zq (fun b o e=>kk b o (ne b o e) (kL b o e)) hp0;obtain⟨fs,hk,hfl,hint⟩:=Qm hp';refine kat_kind (T:=.type "int") hk (by lia) (fun v hv=>?_) (by decide) ⟨rfl,fun x hx y hy C hC=>?_⟩
  ·obtain⟨x,t,rfl⟩:=hint v hv;exact Looks.of_pure rfl
  ·have mx:x.1∈its:=by
    rw[Uw] at hx;exact(R8 hx).2
   have my:y.1∈its:=by
    rw[Uw] at hy;exact(R8 hy).2
   obtain⟨k,k1,k2⟩:=GS.x8 hp0 x.1 mx;obtain⟨k',k1',k2'⟩:=GS.x8 hp0 y.1 my;have kp:∀{v:X9} {k:Int×Int},zv s.heap v k->zv s'.heap v k:=fun {v k} ⟨a,o,n,t,u,e,e1,r⟩=>⟨a,o,n,t,u,e,kk _ _ (ne _ _ e1) (kL _ _ e1),r⟩;have hC':C (decide (r x.1<r y.1)) s':=hC;rw[rk_ k2,rk_ k2',<- W.rank k1] at hC';exact zko (kp k2) (kp k2') hC'
 ·intro ws h' c hpm' hs kk ha;obtain⟨js',hjp',ej⟩:=zbe (fun q:Addr×(Int×Int)=>WJ q.1) hpm' js hj;have hD:H h1.objs.size=none:=I.hok.fresh zle;have hT':∀q∈js',H q.1=some (.tup [.int q.2.1,.int q.2.2]):=fun q hq=>hTj q (hjp'.mem_iff.mp hq);have rv':Vals (js'.map fun q=>V.ref q.1) ws:=by
   rw[ej];exact rv
  have nd':(js'.map (·.2)).Nodup:=(hjp'.map (·.2)).nodup_iff.mpr (by rw[hps];exact hndj);have hup:Up2 (js'.map (·.2)):=by
   unfold Up2;unfold W2 at nd';rw[Wd] at nd' ⊢;rw[ej,Wd] at hs;refine(hs.and nd').imp_of_mem fun {x y} hx hy ⟨h1,h2⟩=>?_;rw[rk_ (ip x (hT' x hx)),rk_ (ip y (hT' y hy))] at h1;have my:y.2∈ps:=by
    rw[<- hps];exact XB.mpr ⟨y,hjp'.mem_iff.mp hy,rfl⟩
   have e1:lt2 y.2 x.2=false:=by
    rw[W.rank my];exact decide_eq_false (by lia)
   have e2:=zaM h2;rw[e1] at e2;cases hh:lt2 x.2 y.2 with
   | true=>rfl
   | false =>
    rw[hh] at e2;cases e2
  refine⟨_,rfl,XY ⟨_,rfl,.ref h1.objs.size,upd H h1.objs.size (.lst (js'.map fun q=>V.ref q.1)),I.laid (t':=tk) (fun b o e=>kk b o (ne b o e) (kL b o e)) zle ⟨?_,_,c,rv',ha⟩,rfl,q _ _ _ hD (ht hT') ((hjp'.trans hjp).map _) hup⟩⟩;rw[rv'.length,hpm'.length_eq];exact small
end ST
inductive Rd1 (σ:St)(i:Nat)(Q:VK)(H:Hp):Prop
 | mk (v:V) (h:σ[i]?=some (some v)) (q:Q v H):Rd1 σ i Q H
def tVS (i:Nat):TE:=fun σ H Q=>Rd1 σ i Q H
section
variable {X:Cx}
theorem pvS (i:Nat){x:Str}{pos:Pos}(hN:X.N[i]?=some x:=by rfl)(hv:Vis X.env.scope x:=by first | exact Xy rfl | exact SF (Xy rfl) | exact SF (SF rfl))(hd:(x==("__debug__":Str))=false:=by decide)
  (hcd:(x==("__classdict__":Str))=false:=by decide):PE X (.Name x pos) (tVS i):=by
 intro pins s σ H Q I h;obtain⟨v,e,q⟩:=h;exact pv i hN hv hd hcd pins s σ H Q I ⟨v,e,q⟩
theorem OpR.imp {f:X9->X9->Sem X9}{r r':R2}(h:OpR X f r)(k:∀x y H Q,r' x y H Q->r x y H Q):OpR X f r':=fun pins s σ H x y v u Q I rx ry z=>h pins s σ H x y v u Q I rx ry (k x y H Q z)
theorem IxR.imp {r r':R2}(h:IxR X r)(k:∀x y H Q,r' x y H Q->r x y H Q):IxR X r':=fun value slice pins s σ H x y v u Q I rx ry z hs=>h value slice pins s σ H x y v u Q I rx ry (k x y H Q z) hs
inductive SI0 (g:Int->Int->V)(x y:V)(H:Hp)(Q:VK):Prop
 | mk (i j:Int) (hx:x=.int i) (hy:y=.int j) (q:Q (g i j) H):SI0 g x y H Q
inductive SI (C:Int->Int->Prop)(g:Int->Int->V)(x y:V)(H:Hp)(Q:VK):Prop
 | mk (i j:Int) (hx:x=.int i) (hy:y=.int j) (hc:C i j) (q:Q (g i j) H):SI C g x y H Q
theorem OpR.s0 {f:X9->X9->Sem X9}{g:Int->Int->V}(h:OpR X f (rI0 g)):OpR X f (SI0 g):=h.imp fun _ _ _ _ ⟨i,j,a,b,q⟩=>⟨i,j,a,b,q⟩
theorem OpR.s1 {f:X9->X9->Sem X9}{C:Int->Int->Prop}{g:Int->Int->V}(h:OpR X f (rI C g)):OpR X f (SI C g):=h.imp fun _ _ _ _ ⟨i,j,a,b,c,q⟩=>⟨i,j,a,b,c,q⟩
theorem qA:OpR X (UP .Add) (SI0 fun i j=>.int (i+j)):=zlX.s0
theorem jb:OpR X (UP .Sub) (SI0 fun i j=>.int (i-j)):=zlY.s0
theorem yI:OpR X (UP .Mod) (SI (fun _ j=>0<j) fun i j=>.int (i%j)):=zlZ.s1
theorem yw:OpR X (UP .FloorDiv) (SI ZX fun i j=>.int (i/j)):=zis.s1
theorem zi7:OpR X (Vu .Lt) (SI0 fun i j=>.bl (decide (i<j))):=znj.s0
theorem zdF:OpR X (Vu .LtE) (SI0 fun i j=>.bl (decide (i<=j))):=znk.s0
theorem zi8:OpR X (Vu .Gt) (SI0 fun i j=>.bl (decide (j<i))):=znl.s0
inductive zkI (K:X6)(x y:V)(H:Hp)(Q:VK):Prop
 | mk (p:Addr) (xs:List V) (i:Int) (v:V) (hx:x=.ref p) (hy:y=.int i) (hq:SqL K H p xs) (he:atI xs i=some v) (q:Q v H):zkI K x y H Q
inductive zmu (K:X6)(x y:V)(H:Hp)(Q:VK):Prop
 | mk (p:Addr) (xs:List V) (i:Int) (v:V) (hx:x=.ref p) (hy:y=.int i) (hq:SqT K H p xs) (he:atI xs i=some v) (q:Q v H):zmu K x y H Q
inductive znI (x y:V)(H:Hp)(Q:VK):Prop
 | mk (z:Str) (i:Int) (c:Nat) (hx:x=.str z) (hy:y=.int i) (hl:z.length<=XC) (he:atI z.cps.toList i=some c) (q:Q (.str ⟨#[c]⟩) H):znI x y H Q
theorem jj:IxR X (zkI X.K):=zkj.imp fun _ _ _ _ ⟨p,xs,i,v,a,b,c,d,q⟩=>⟨p,xs,i,v,a,b,c,d,q⟩
theorem qR:IxR X (zmu X.K):=zl7.imp fun _ _ _ _ ⟨p,xs,i,v,a,b,c,d,q⟩=>⟨p,xs,i,v,a,b,c,d,q⟩
theorem zgT:IxR X znI:=zl8.imp fun _ _ _ _ ⟨z,i,c,a,b,d,e,q⟩=>⟨z,i,c,a,b,d,e,q⟩
theorem zab {K:X6}(hK:X.K=K):IxR X (zkI K):=hK ▸ jj
theorem zi9 {K:X6}(hK:X.K=K):IxR X (zmu K):=hK ▸ qR
inductive SB (x:V)(Q:Bool->Hp->Prop)(H:Hp):Prop
 | mk (k:Bool) (h:x=.bl k) (q:Q k H):SB x Q H
def zmv (t:TE):TT:=fun σ H Q=>t σ H fun x H'=>SB x Q H'
theorem zU {op:CmpOp}{r:R2}{a b:Expr}{ta tb:TE}{pos:Pos}(ho:OpR X (Vu op) r)(ha:PE X a ta)(hb:PE X b tb)(hm:Rw op b=false):PT X (.Compare a [op] [b] pos) (zmv (tOp r ta tb)):=by
 intro pins s σ H Q I h;refine wpAny_isTrue_Compare1 (thn (ha pins s σ H _ I h) fun v s1 ⟨x,H1,I1,r1,q1⟩=>thn (hb pins s1 σ H1 _ I1 q1) fun u s2 ⟨y,H2,I2,r2,q2⟩=>thn (ho pins s2 σ H2 x y v u _ I2 r1 r2 q2) fun c s3 ⟨z,H3,I3,r3,q3⟩=>?_) hm;obtain⟨k,rfl,q⟩:=q3;cases r3;exact Vo ⟨H3,I3,q⟩
inductive zmw (K:X6)(xs:List V)(H:Hp)(Q:VK):Prop
 | mk (p:Addr) (ys:List V) (hx:xs=[.ref p]) (hq:SqL K H p ys\/SqT K H p ys) (q:Q (.int ys.length) H):zmw K xs H Q
theorem zJ:jR X (.builtin "len") (zmw X.K):=fun pins s σ H xs us Q I r ⟨p,ys,a,b,q⟩=>zdl pins s σ H xs us Q I r ⟨p,ys,a,b,q⟩
theorem zbi {K:X6}(hK:X.K=K):jR X (.builtin "len") (zmw K):=hK ▸ zJ
inductive znJ (x:V)(vs:List V)(H:Hp)(Q:VK):Prop
 | mk (l:Addr) (xs:List V) (y:V) (hx:x=.ref l) (hv:vs=[y]) (hl:H l=some (.lst xs)) (hz:xs.length<XC) (q:Q .non (upd H l (.lst (xs++[y])))):znJ x vs H Q
theorem jO:MtM X "list.append" znJ:=fun pins s σ H x xs v us Q I rx rv ⟨l,ys,y,a,b,c,d,q⟩=>xN pins s σ H x xs v us Q I rx rv ⟨l,ys,y,a,b,c,d,q⟩
end
section
variable {X:Cx}
theorem zcE {ts:List Bool}{ws:List V}{its:List X9}(ew:ts.map V.bl=ws)(r:Vals ws its):its=ts.map Tk:=by
 induction r generalizing ts with
 | nil =>
  cases ts with
  | nil=>rfl
  | cons a b=>cases ew
 | cons r1 r2 ih =>
  cases ts with
  | nil=>cases ew
  | cons a b =>
   rw[Xs] at ew;obtain⟨e1,e2⟩:=List.cons.inj ew;subst e1;cases r1;rw[ih e2];rfl
def eqT (y:Bool):X9->Bool
 | .bool a=>a==y
 | _=>false
theorem zhR:MtM X "list.count" (fun x vs H Q=>∃(l:Addr) (ts:List Bool) (y:Bool),x=.ref l/\vs=[.bl y]/\H l=some (.lst (ts.map V.bl))/\Q (.int ((ts.countP fun t=>t==y:Nat):Int)) H):=by
 intro pins s σ H x vs v us Q I rx rv h;obtain⟨l,ts,y,rfl,rfl,hH,q⟩:=h;cases rx;obtain⟨u,rfl,r1⟩:=rv.one;cases r1;obtain⟨z,its,n,r,hl,e⟩:=I.lstM hH;have ei:=zcE rfl r;subst ei;refine SC F.slot_list_count ⟨_,e,rfl⟩ F.entry_list_count (F.args_list_count_2 _ _) (PySem.SeqAt.list_countAt l (ts.map Tk).toArray n none #[] (.bool y) (eqT y)) ⟨e,fun w hw=>?_,?_⟩
 ·obtain⟨a,_,rfl⟩:=XB.mp (TZ.mpr hw);exact RO a y
 ·refine⟨.int _,H,I.tok _,⟨_,rfl⟩,?_⟩;show Q (.int (((ts.map Tk).countP (eqT y):Nat):Int)) H;rw[Sj];exact q
theorem zhS:MtM X "list.index" (fun x vs H Q=>∃(l:Addr) (ts:List Bool) (y:Bool) (j:Nat),x=.ref l/\vs=[.bl y]/\H l=some (.lst (ts.map V.bl))/\ts[j]?=some y/\(∀m<j,ts[m]?=some (!y))/\j<=1000/\Q (.int (j:Nat)) H):=by
 intro pins s σ H x vs v us Q I rx rv h;obtain⟨l,ts,y,j,rfl,rfl,hH,hj,hm,js,q⟩:=h;cases rx;obtain⟨u,rfl,r1⟩:=rv.one;cases r1;obtain⟨z,its,n,r,hl,e⟩:=I.lstM hH;have ei:=zcE rfl r;subst ei;obtain⟨h1,h2⟩:=X2.mp hj;refine SC F.slot_list_index ⟨_,e,rfl⟩ F.entry_list_index (F.args_list_index_2 _ _) (PySem.SeqAt.list_indexAt l (ts.map Tk).toArray n none #[] (.bool y) (eqT y) j (by simpa using h1) (by lia) ?_ ?_) ⟨e,fun w hw=>?_,?_⟩
 ·simp[eqT,h2]
 ·intro m hm1 hm2;obtain⟨a1,a2⟩:=X2.mp (hm m hm2);simp[eqT,a2]
 ·obtain⟨a,_,rfl⟩:=XB.mp (TZ.mpr hw);exact RO a y
 ·exact⟨.int _,H,I.tok _,⟨_,rfl⟩,q⟩
end
def xeT (X:Cx)(pins:List (Addr×Obj))(EX:St->XK):X9->X8->Prop:=fun y s'=>∃ σ1 H1 s1,Inv X pins σ1 H1 s1/\CXE X.prog X.w X.stack H1 s1 (EX σ1) y s'
def zhT (X:Cx)(pins:List (Addr×Obj))(EX:St->XK):Cx:={ X with pn:=X.pn++pins,xe:=xeT X pins EX }
section
variable {X:Cx}{pins ps:List (Addr×Obj)}{σ:St}{H:Hp}{s:X8}{EX:St->XK}
theorem Inv.intry (I:Inv X pins σ H s)(EX:St->XK):Inv (zhT X pins EX) [] σ H s :=
 ⟨⟨I.ok.mod,I.ok.kind,I.ok.glob,I.ok.blt,I.ok.above,I.ok.inj,I.ok.has,I.ok.cab,I.ok.hd,I.ok.frames,I.ok.stk,I.ok.exf,I.ok.bs,I.ok.bsz,I.ok.noex,I.ok.exfs,I.ok.funs,I.ok.frf⟩,I.os,I.bare,I.base,I.loc,I.cell,I.free,I.freeC,(fun p hp=>I.pin p (by rw[W0] at hp;exact hp)),I.hok,I.len⟩
theorem Inv.untry (I:Inv (zhT X pins EX) ps σ H s):Inv X pins σ H s :=
 ⟨⟨I.ok.mod,I.ok.kind,I.ok.glob,I.ok.blt,I.ok.above,I.ok.inj,I.ok.has,I.ok.cab,I.ok.hd,I.ok.frames,I.ok.stk,I.ok.exf,I.ok.bs,I.ok.bsz,I.ok.noex,I.ok.exfs,I.ok.funs,I.ok.frf⟩,I.os,I.bare,I.base,I.loc,I.cell,I.free,I.freeC,(fun p hp=>I.pin p (Xd _ hp)),I.hok,I.len⟩
def zmx (sp:Sp)(EX:St->XK)(t:TA):TE:=fun σ H Q=>t σ H fun vs H1=>sp vs H1 Q (EX σ)
theorem zbj {k:Nat}{f:Addr}{fd:Xk}{pm:List Str}{sp:Sp}{x:Str}{p pos:Pos}{e:Expr}{es:List Expr}{t:TA}(F:qi X.prog X.w X.K X.mg X.base (CXE X.prog X.w) k f fd pm sp)(hr:Jj k X.A)(hg:Gl (zhT X pins EX) x)(hm:X.mg x=some (.ref f))(hk:T1 X.K (.ref f)=true)(hb:Binds X.K fd pm [])
  (ha:PA (zhT X pins EX) (e::es) t) (hdb:(x==("__debug__":Str))=false:=by decide) (he:WB (e::es) X.env=(false,eval e X.env)::WB es X.env:=by rfl) (hpl:(SG pos (WB es X.env)).any (·.1)=false:=by rfl) :
  PE (zhT X pins EX) (.Call (.Name x p) (e::es) [] pos) (zmx sp EX t):=by
 intro ps s σ H Q I h;refine Tg (Qg I hg hm ?_ hdb);refine PySem.W.callWith_K (h₀:=X.base) I.ok.mod.kin hk (thn (ha pos ps s σ H _ I h) fun us s1 ⟨vs,H1,I1,r,q⟩=>⟨I1.kIn,?_⟩) he hpl;have hlen:us.length=pm.length:=by rw[<- r.length];exact F.len _ _ _ _ q
 have bt:=hb s1 us I1.kIn (by rw[W0];exact hlen);rw[W0] at bt;refine wpAny_call (Uo (F.run X.A X.stack s1 H1 ⟨us,[]⟩ us vs _ _ hr I1.env0 bt r q) fun res s' hq=>?_);cases res with
 | error y=>exact⟨σ,H1,s1,I1.untry,hq⟩
 | ok fl =>
  cases fl with
  | ret u=>exact I1.after hq
  | next=>exact Wn hq
  | brk=>exact Wn hq
  | cont=>exact Wn hq
def znK (K:X6)(S:Addr)(j:Nat)(tb:(St->XK)->TS)(ts:TS):TS:=fun D σ H =>
 tb (fun σ1 c _ H2=>∃C,c=.ref C/\Vs K C (.ref S)=some true/\∀e,H2 e=none ->
  ts { nx:=fun σ3 H3=>D.nx (σ3.set j none) H3,rt:=D.rt,bk:=fun σ3 H3=>D.bk (σ3.set j none) H3,ct:=fun σ3 H3=>D.ct (σ3.set j none) H3 } (σ1.set j (some (.ref e))) (upd H2 e (exO e C))) D σ H
theorem zkJ {j:Nat}{n xS:Str}{S:Addr}{tb:(St->XK)->TS}{ts:TS}{body:List Stmt}{sp0 hp pos:Pos}{b0:Stmt}{suite:List Stmt}
  (hst:X.stack=X.env::X.outer) (hfr:X.env.frame=some X.env.locals)
  (hN:X.N.Nodup) (hj:X.N[j]?=some n) (hl:X.env.scope.names.lookup n=some .local) (gS:Gl X xS) (O:qk X.K X.mg xS S)
  (hb:∀pins EX,PSs (zhT X pins EX) body (tb EX)) (hs:∀e,PSs (markX X e) (b0::suite) ts) (hdS:(xS==("__debug__":Str))=false:=by decide) :
  PS X (.Try body [.ExceptHandler (some (.Name xS sp0)) (some n) (b0::suite) hp] [] [] pos) (znK X.K S j tb ts):=by
 intro pins s σ H D I h;refine wpAny_Try_except (Xa (hb pins _ [] s σ H D (I.intry _) h) (fun f s1 q=>?_) fun y s' q=>?_)
 ·cases f with
  | next =>
   obtain⟨σ1,H1,I1,q⟩:=q;exact Sm ⟨σ1,H1,I1.untry,q⟩
  | brk =>
   obtain⟨σ1,H1,I1,q⟩:=q;exact⟨σ1,H1,I1.untry,q⟩
  | cont =>
   obtain⟨σ1,H1,I1,q⟩:=q;exact⟨σ1,H1,I1.untry,q⟩
  | ret u =>
   obtain⟨v,σ1,H1,I1,r,q⟩:=q;exact⟨v,σ1,H1,I1.untry,r,q⟩
 ·obtain⟨σ1,H1,s1,I1,e,C,a0,B,H',rfl,Fl,C',ec,hmr,hsu⟩:=q;cases ec;have ff:=Fl.fly;rw[hst] at ff;refine wpAny_looks_onW (by rw[I1.ok.frames,hst]) hfr ff fun h4 znL up4=>?_;refine wpAny_landsW znL fun h5 zmy up5=>?_;have up:=up4.trans up5;have I5:=Fl.caught I1 (h:=h5) (by rw[hst];exact zmy) up;refine wpAny_handleBy_cons (codeAny_handlers_test (Qg (X:=markX X e) (I5.mark e) gS O.g ?_ hdS)) (by intro z;cases z);obtain⟨bm,OS⟩:=zlu I5.kIn O.q;obtain⟨oe,vs5,q1,q2,q3,_⟩:=zmy.first;refine zkq OS q1 q2 (Sd I5.kIn hmr) (codeAny_handlers_suite_as ?_);refine lands_againW zmy fun h6 zos up6=>?_;have I6:=Fl.caught I1 (h:=h6) (by rw[hst];exact zos) (up.trans up6);refine zaY (X:=markX X e) (I6.mark e) hN hj (.inl hl) (v:=.ref e) rfl (fun s7 I7=>?_) (.inr hl);refine Xa (hs e pins s7 _ _ _ I7 (hsu e Fl.free)) (fun fl s8 q8=>?_) fun _ _ z=>z.elim;cases fl with
  | next =>
   obtain⟨σ8,H8,I8,q8⟩:=q8;exact(I8.unmark I.ok).nameGoes hN hj hl fun s9 I9=>⟨_,H8,I9,q8⟩
  | brk =>
   obtain⟨σ8,H8,I8,q8⟩:=q8;exact(I8.unmark I.ok).nameGoes hN hj hl fun s9 I9=>⟨_,H8,I9,q8⟩
  | cont =>
   obtain⟨σ8,H8,I8,q8⟩:=q8;exact(I8.unmark I.ok).nameGoes hN hj hl fun s9 I9=>⟨_,H8,I9,q8⟩
  | ret u =>
   obtain⟨v8,σ8,H8,I8,r8,q8⟩:=q8;exact(I8.unmark I.ok).nameGoes hN hj hl fun s9 I9=>⟨v8,_,H8,I9,r8,q8⟩
end
section
variable {X:Cx}{k k0:Nat}{f:Addr}{fd:Xk}{ps:List Str}{sp:Sp}{x:Str}{st:Stmt}{p pos:Pos}{e:Expr}{es:List Expr}{t:TA}
theorem pc0 (F:qi X.prog X.w X.K X.mg X.base CX0 k f fd ps sp)(hr:Jj k0 X.A)(D:zo X.K X.mg x st ps f fd)(ha:PA X (e::es) t)(hk:k<=k0:=by decide)(hg:Gl X x:=by rfl)
  (hdb:(x==("__debug__":Str))=false:=by decide) (he:WB (e::es) X.env=(false,eval e X.env)::WB es X.env:=by rfl) (hpl:(SG pos (WB es X.env)).any (·.1)=false:=by rfl) :
  PE X (.Call (.Name x p) (e::es) [] pos) (zd4 sp [] E0 t):=Qi F (hr.mono hk) hg D.g D.F.kp D.b .nil znr ha hdb he hpl
theorem pcX (F:qi X.prog X.w X.K X.mg X.base (CXE X.prog X.w) k f fd ps sp)(hr:Jj k0 X.A)(D:zo X.K X.mg x st ps f fd)(ha:PA X (e::es) t)(hk:k<=k0:=by decide)(hg:Gl X x:=by rfl)
  (hdb:(x==("__debug__":Str))=false:=by decide) (he:WB (e::es) X.env=(false,eval e X.env)::WB es X.env:=by rfl) (hpl:(SG pos (WB es X.env)).any (·.1)=false:=by rfl) :
  PE X (.Call (.Name x p) (e::es) [] pos) (zd4 sp [] EF t):=Qi F (hr.mono hk) hg D.g D.F.kp D.b .nil znw ha hdb he hpl
theorem pcL {E:XK}(L:jq X E)(F:qi X.prog X.w X.K X.mg X.base (CXE X.prog X.w) k f fd ps sp)(hr:Jj k0 X.A)(D:zo X.K X.mg x st ps f fd)(ha:PA X (e::es) t)(hk:k<=k0:=by decide)(hg:Gl X x:=by rfl)
  (hdb:(x==("__debug__":Str))=false:=by decide) (he:WB (e::es) X.env=(false,eval e X.env)::WB es X.env:=by rfl) (hpl:(SG pos (WB es X.env)).any (·.1)=false:=by rfl) :
  PE X (.Call (.Name x p) (e::es) [] pos) (zd4 sp [] E t):=Qi F (hr.mono hk) hg D.g D.F.kp D.b .nil (jq.passes L) ha hdb he hpl
end
theorem Qw:0<=XC:=by decide
theorem sz_1:1<=XC:=by decide
theorem YV:2<=XC:=by decide
theorem zeA:3<=XC:=by decide
theorem znM:6<=XC:=by decide
section
variable {M:PQ}{A:WW}{E:X9->X8->Prop}{env:Env}{s:X8}
def zja (M:PQ)(A:WW)(E:X9->X8->Prop)(Q:X9->X8->Prop)(acc:X9)(ce:Env)(r:Ps)(s':X8):Prop :=
 ∃m,s'.heap.Ns ce.locals m/\∀h' m',h'.Ns ce.locals m'->VN ce.locals s'.heap h'->match r with
  | .ok _=>Q acc { s' with heap:=h' }
  | .error x=>Xo M A (passOn "comprehension.variables-let-go" x ce:Sem X9) (fun _ _=>False) E { s' with heap:=h' }
theorem zkK {e:Expr}{scope:Vb}{pos:Pos}{nacc fst:Sem X9}{g:Rt}{gs:List Rt}{cl:List (Str×Addr)}{Q:X9->X8->Prop}
  (hc:clausesOf e=g::gs) (hs:∀x,Vn g.iter env x=pure x) (hcl:R3 scope env=pure cl)
  (hk:scope.kind=.function) (hn:∀x∈scope.names,x.2=.local->scope.names.lookup x.1=some .local)
  (h:Xo M A fst (fun x s1=>Xo M A (OE x) (fun it s2=>Xo M A nacc (fun acc s3 =>
   Xo M A (RZ scope env.globals cl [] env.qual none .none (some env)) (fun ce s4 =>
    UR M A (.compStart e 0 it acc { ce with scope:=Vx scope env }) (zja M A E Q acc { ce with scope:=Vx scope env }) s4) E s3) E s2) E s1) E s) :
  Xo M A (Rs e scope env pos nacc false fst none) Q E s:=by
 unfold Rs;rw[hcl,hc];refine ZB (Xa h (fun x s1 h1=>?_) fun _ _ z=>z);refine ZB (V6 (ZB (RG (hs x) (ZB (WN ?_)))));refine Xa h1 (fun it s2 h2=>?_) fun _ _ z=>z;refine wpAny_standIf (ZB (Xa h2 (fun acc s3 h3=>?_) fun _ _ z=>z));refine ZB (XY (ZB (Xa h3 (fun ce s4 h4=>?_) fun _ _ z=>z)));dsimp only;have own:∀x∈(scope.names.filter fun y=>(y.2 == .local || y.2 == .cell)&&y.1 != (".0":Str)).reverse,x.2=.local->Env.kindOf { ce with scope:=Vx scope env } x.1=some .local :=
  fun x hx hl=>Pg (hn x (XS.mp (List.mem_reverse.mp hx)).1 hl)
 refine WN (ZB (Tx (WN (wpAny_run (Uo h4 fun r s5 hr=>?_)))));obtain⟨m,hm,hr⟩:=hr;cases r with
 | ok f=>exact ZB (WN (Sz (cenv:={ ce with scope:=Vx scope env }) hk _ s5 m own hm fun h' m' hn sb=>XY (hr h' m' hn sb)))
 | error x=>exact ZB (WN (Sz (cenv:={ ce with scope:=Vx scope env }) hk _ s5 m own hm fun h' m' hn sb=>Xa (hr h' m' hn sb) (fun _ _ z=>z.elim) fun _ _ z=>z))
end
theorem zhU (x:X9)(scope:Vb)(cl:List (Str×Addr))(C:Addr)(env:Env):SD x (V3 scope cl C env)=SD x env:=rfl
theorem zeB {o:Obj}{ts:Array X9}{x:X9}(hd:o.data=.fields ts)(h3:ts[3]?=some x):Ud (·.setIfInBounds 3 x) o=o:=by
 obtain⟨c,d,dat,sl⟩:=o;have hd':dat=.fields ts:=hd;subst hd';show (⟨c,d,.fields (ts.setIfInBounds 3 x),sl⟩:Obj)=⟨c,d,.fields ts,sl⟩;have:ts.setIfInBounds 3 x=ts:=by
  refine Array.ext_getElem? fun i=>?_;rw[U5];split
  ·rename_i z;subst z;rw[if_pos (V8.mp h3).1,h3]
  ·rfl
 rw[this]
section
variable {M:PQ}{A:WW}{Ex:X9->X8->Prop}{s:X8}
theorem zfS {base:Heap}{l:List Env}{e L:Addr}{cls a0:X9}{Q:Unit->X8->Prop}(R:OT base l e cls a0 L s.heap)
  (h:∀h',OT base l e cls a0 L h'->(∀b,h'.get? b=s.heap.get? b)->Q () { s with heap:=h' }):Xo M A (setFlight (.ref e) (some L)) Q Ex s:=by
 obtain⟨k1,k2,k3,oe,vs,T,oT,ts,he,hc,hd,h1,hn,hTe,hT,hdT,h3⟩:=R;have hsz:3<ts.size:=(V8.mp h3).1;unfold setFlight;refine ZB (wpAny_field he hd h1 ?_);rw[if_pos (show (WJ T != Value.none)=true from by simp)];refine RW hT hdT hsz ?_;have same:∀b,(s.heap.update T (Ud (·.setIfInBounds 3 (Ut L)))).get? b=s.heap.get? b:=fun b=>by
  by_cases hb:b=T
  ·subst hb;rw[Wh _ hT (Obj.isFreed_of_fields (Obj.data_mapFields hdT _)),hT,zeB hdT h3]
  ·exact VF _ _ (Vy hb)
 refine h _ ⟨fun b o q=>(same b).trans (k1 b o q),k2,k3.of_keeps fun b o q _=>⟨o,(same b).trans q,rfl⟩,oe,vs,T,oT,ts,(same e).trans he,hc,hd,h1,hn,hTe,(same T).trans hT,hdT,h3⟩ same
end
theorem zjb {h h' B B':Heap}{C:Addr}(hs:∀b,b≠C->h'.get? b=h.get? b)(bs:∀b,b≠C->B'.get? b=B.get? b):∀{l:List Env},C ∉ frs l->h.FunFrames B l->h'.FunFrames B' l
 | [],_,_=>trivial
 | env::r,nf,⟨k,⟨L,o,e,n,q,d⟩,t⟩=>by
  have nL:L≠C:=fun z=>nf (Vd.mpr ⟨env,XU,by rw[e,z]⟩);exact⟨k,⟨L,o,e,(bs L nL).trans n,(hs L nL).trans q,d⟩,zjb hs bs (fun z=>nf (by
   obtain⟨v,hv,ev⟩:=Vd.mp z;exact Vd.mpr ⟨v,XX _ hv,ev⟩)) t⟩
section
variable {X:Cx}{pins ps:List (Addr×Obj)}{σ σ1:St}{H H' H1 H2:Hp}{s s1 s2 s':X8}{e C Cc:Addr}{a0:X9}{B:Heap}{E:XK}
theorem jq.held (L:jq X E)(J:Inv X pins σ H s)(R:OT B X.stack e (.ref C) a0 X.env.locals s'.heap)(os:s'.os=s.os)(bare:S6 s'.gens)(un:Un (frs X.stack) [] H H' s.heap s'.heap)(ok:HOk X.prog X.w H' B)
  (kB:∀b o,s.heap.get? b=some o->H b=none->b ∉ frs X.stack->B.get? b=some o) (tB:∀b o,s.heap.get? b=some o->b ∉ frs X.stack->∃o',B.get? b=some o') (new:s.heap.get? e=none) (free:H' e=none) (hE:E (.ref C) none H') :
  X.xe (.ref e) s':=by
 rw[L.xe];show Xo _ _ (leaving X.env (.ref e)) _ _ s';unfold leaving;refine ZB (wpAny_noteFrame_againW L.fr R.2.2.2 ?_);refine wpAny_landsW R fun h4 f4 up=>?_;obtain⟨g1,g2,g3,g4⟩:=f4;rw[L.stk] at g3;exact⟨e,C,a0,B,H',rfl,J.flies L.ex ⟨g1,g2,g3.2.2,g4⟩ up os bare un ok kB tB new free,hE⟩
theorem Inv.stkIn (I:Inv X pins σ H s){b:Addr}(hb:b∈frs X.stack):b<s.heap.objs.size:=by
 rcases XR.mp (I.stkSub b hb) with r | r
 ·rw[r];exact I.lt
 ·obtain⟨_,o,q,_⟩:=I.ok.funs.mem r;obtain⟨o',q'⟩:=I.base.there b o q fun z=>I.ok.exfs b z r;exact XQ q'
variable {N:List Str}{scope:Vb}{cl:List (Str×Addr)}{fp:List Addr}{x acc:X9}{Q:X9->X8->Prop}{E':X9->X8->Prop}
theorem zeC (L:jq X E)(I2:Inv X pins σ H2 s2)(f2:∀b∈fp,ZS X pins H2 b)(hC:s2.heap.objs.size<=C)(I1:Inv (qp X N scope cl C fp pins s2 H2) ps σ1 H1 s1)(h:CXE X.prog X.w X.stack H1 s1 E x s') :
  Xo (Xr X.prog X.w) X.A (SD x (V3 scope cl C X.env)) (fun _ s''=>zja (Xr X.prog X.w) X.A X.xe Q acc (V3 scope cl C X.env) (.error x) s'') E' s':=by
 obtain⟨e,Cc,a0,B,H',rfl,F,hE⟩:=h;have ff:=F.fly;rw[zhU];rw[L.stk] at ff;refine wpAny_looks_onW (by rw[I2.ok.frames,L.stk]) L.fr ff fun h' hh up=>?_;rw[<- L.stk] at hh;obtain⟨m,⟨o1,es,ep,ho,hd,hk,hf⟩,_⟩:=I1.loc;have ho:s1.heap.get? C=some o1:=ho;have nst:C ∉ frs X.stack:=fun z=>Wq _ (XE (I2.stkIn z) hC);have fC:H1 C=none:=I1.free;have oC:B.get? C=some o1:=F.kB C o1 ho fC nst;have eC:e≠C:=by
  rintro rfl;rw[F.new] at ho;cases ho
 obtain⟨k1,k2,k3,oe,vs,T,oT,ts,he,hc,hdd,h1,hn,hTe,hT,hdT,h3⟩:=hh;have TC:T≠C:=by
  rintro rfl;rw[hn] at oC;cases oC
 refine⟨m,⟨o1,es,ep,k1 C o1 oC,hd,hk,hf⟩,fun h'' m' hn' sb=>?_⟩;obtain⟨o2,es2,ep2,q2,d2,_,_⟩:=hn';have q2:h''.get? C=some o2:=q2;have sb:VN C h' h'':=sb;have fr2:o2.isFreed=false:=(Heap.get?_some_iff.mp q2).2;have gB:(B.update C fun _=>o2).get? C=some o2:=Wh (fun _=>o2) oC fr2;have nB:∀b,b≠C->(B.update C fun _=>o2).get? b=B.get? b:=fun b hb=>VF _ _ (Vy hb);have gS:(s1.heap.update C fun _=>o2).get? C=some o2:=Wh (fun _=>o2) ho fr2;have nS:∀b,b≠C->(s1.heap.update C fun _=>o2).get? b=s1.heap.get? b:=fun b hb=>VF _ _ (Vy hb);have hh2:OT (B.update C fun _=>o2) X.stack e (.ref Cc) a0 X.env.locals h'':=by
  refine⟨fun b o q=>?_,(nB e eC).trans k2,zjb sb.2 nB nst k3,oe,vs,T,oT,ts,(sb.2 e eC).trans he,hc,hdd,h1,(nB T TC).trans hn,hTe,(sb.2 T TC).trans hT,hdT,h3⟩;by_cases hb:b=C
  ·rw[hb] at q ⊢;rw[gB] at q;rw[q2,q]
  ·exact(sb.2 b hb).trans (k1 b o ((nB b hb).symm.trans q))
 show Xo _ _ (PySem.passOn "comprehension.variables-let-go" (.ref e) (V3 scope cl C X.env):Sem X9) _ _ _;unfold PySem.passOn;refine ZB (wpAny_field ((sb.2 e eC).trans he) hdd h1 ?_);rw[if_neg (show ¬ ((WJ T==Value.none)=true) from by simp)];have fl:(V3 scope cl C X.env).frame=some X.env.locals:=L.fr;rw[fl];refine ZB (zfS hh2 fun h3' hh3 same=>OA ?_);have same:∀b,h3'.get? b=h''.get? b:=same;have J:Inv X pins σ H1 { s1 with heap:=s1.heap.update C fun _=>o2 }:=I2.call' (s':={ s1 with heap:=s1.heap.update C fun _=>o2 }) (ch:=fp) I1.os (Un.but I1.base hC (.update ..)) (HOk.but I1.hok fC (.update ..)) I1.bare fun b hb=>⟨(f2 b hb).2.2.2.1,(f2 b hb).2.1,(f2 b hb).2.2.2.2.1,(f2 b hb).2.2.2.2.2⟩;have H'C:H' C=none:=F.un.free C o1 ho fC fun z=>nomatch z
 have inB:∀b o,b≠C->B.get? b=some o->h3'.get? b=some o:=fun b o hb q=>(same b).trans ((sb.2 b hb).trans (k1 b o q));have inF:∀b,b∈frs X.stack->∀(o:Obj) sl,s'.heap.get? b=some { o with slots:=sl }->∃sl',h3'.get? b=some { o with slots:=sl' }:=fun b hb o sl q=>by
  obtain⟨_,o',q',nf⟩:=F.fly.2.2.1.mem hb;rw[q] at q';cases q';obtain⟨sl2,q3⟩:=up b _ q nf;exact⟨sl2,(same b).trans ((sb.2 b fun z=>nst (z ▸ hb)).trans q3)⟩
 refine L.held (s':={ s' with heap:=h3' }) J hh3 F.os F.bare ⟨fun b o q n hb _=>?_,fun b o q n hb _=>?_,fun b o q n _=>?_,fun b o q _=>?_,F.un.tups,F.un.frzs,F.un.tbls⟩ (HOk.but F.ok H'C (.update ..)) (fun b o q n hb=>?_) (fun b o q hb=>?_) ((nS e eC).trans F.new) F.free hE
 ·by_cases z:b=C
  ·rw[z] at q ⊢;have q:(s1.heap.update C fun _=>o2).get? C=some o:=q;rw[gS] at q;exact(same C).trans (q2.trans q)
  ·exact inB b o z (F.kB b o ((nS b z).symm.trans q) n hb)
 ·have z:b≠C:=fun z=>nst (z ▸ hb);obtain⟨sl,q1⟩:=F.un.slot b o ((nS b z).symm.trans q) n hb fun z=>nomatch z
  exact inF b hb o sl q1
 ·by_cases z:b=C
  ·rw[z];exact H'C
  ·exact F.un.free b o ((nS b z).symm.trans q) n fun z=>nomatch z
 ·by_cases z:b=C
  ·rw[z];exact⟨o2,(same C).trans q2⟩
  ·by_cases hb:b∈frs X.stack
   ·obtain⟨_,o',q',nf⟩:=F.fly.2.2.1.mem hb;obtain⟨sl,q3⟩:=inF b hb o' o'.slots q';exact⟨_,q3⟩
   ·obtain⟨o',q'⟩:=F.tB b o ((nS b z).symm.trans q) hb;exact⟨o',inB b o' z q'⟩
 ·by_cases z:b=C
  ·rw[z] at q ⊢;have q:(s1.heap.update C fun _=>o2).get? C=some o:=q;rw[gS] at q;exact gB.trans q
  ·exact(nB b z).trans (F.kB b o ((nS b z).symm.trans q) n hb)
 ·by_cases z:b=C
  ·rw[z];exact⟨o2,gB⟩
  ·obtain⟨o',q'⟩:=F.tB b o ((nS b z).symm.trans q) hb;exact⟨o',(nB b z).trans q'⟩
end
def zbk (X:Cx)(N:List Str)(scope:Vb)(cl:List (Str×Addr))(C:Addr)(fp:List Addr)(pins:List (Addr×Obj))(s:X8)(H:Hp)(E:XK)(x:X9)(s':X8):Prop :=
 ∃(ps:List (Addr×Obj)) (σ1:St) (H1:Hp) (s1:X8),Inv (qp X N scope cl C fp pins s H) ps σ1 H1 s1/\CXE X.prog X.w X.stack H1 s1 E x s'
abbrev qU (X:Cx)(N:List Str)(scope:Vb)(cl:List (Str×Addr))(C:Addr)(fp:List Addr)(pins:List (Addr×Obj))(s:X8)(H:Hp)(E:XK):Cx:=(qp X N scope cl C fp pins s H).wish (zbk X N scope cl C fp pins s H E)
theorem Qx {X:Cx}{N:List Str}{scope:Vb}{cl:List (Str×Addr)}{C:Addr}{fp:List Addr}{pins:List (Addr×Obj)}{s:X8}{H:Hp}{E:XK}:Passes (CXE X.prog X.w) (qU X N scope cl C fp pins s H E) E :=
 fun ps σ1 H1 s1 x s' I1 z=>⟨ps,σ1,H1,s1,I1.unwish,z⟩
section
variable {X:Cx}{tg iter elt:Expr}{ifs:List Expr}{scope:Vb}{pos:Pos}{N:List Str}{src:List (Option Nat)}{cl:List (Str×Addr)}{wi:TI}{g:TG}{tc:TT}{te:TE}
theorem zjc {E:XK}(L:jq X E)(ok:zT X N src scope cl)(hcalm:X.calm=true)(hi:PI X tg iter wi)
  (hg:∀C fp pins s H,PG (qU X N scope cl C fp pins s H E) tg g) (hc:∀C fp pins s H,zfx (qU X N scope cl C fp pins s H E) ifs tc) (he:∀C fp pins s H,PE (qU X N scope cl C fp pins s H E) elt te)
  (hs:∀x,Vn iter X.env x=pure x:=by intro _;rfl):PE X (.ListComp elt [⟨tg,iter,ifs,0⟩] scope pos) (zea wi src g tc te):=by
 intro pins s σ H Q I h;rw[O0];refine zkK rfl hs ok.clos ok.kind ok.names (thn (hi pins s σ H _ I h) fun xv s1 h1=>thn h1 fun itv s2 h2=>?_);obtain⟨it,fp,tn,J,H2,e,I2,T,st2,f2,q2⟩:=h2;subst e;refine V5 (TY ok.nocell (by intro y hy;simp at hy) (fun h₁ hns₁ hsb₁=>?_) ok.kind);dsimp only at hns₁ hsb₁ ⊢;generalize hP:s2.heap.push { cls:=.type "list",dict:=none,data:=.seq ([]:List X9).toArray }=P2 at hns₁ hsb₁ ⊢;have hC:P2.objs.size=s2.heap.objs.size+1:=by rw[<- hP,VA]
 have k:∀b u,s2.heap.get? b=some u->h₁.get? b=some u:=fun b u e=>by
  have lt:=XQ e;exact(hsb₁.2 b (by rw[hC];exact XA (W5 lt))).trans (X7 _ (hP ▸ X7 _ e))
 have hD:h₁.get? s2.heap.objs.size=some { cls:=.type "list",data:=.seq #[] }:=(hsb₁.2 _ (by rw[hC];exact(VG _).symm)).trans (X7 _ (hP ▸ Xb _ rfl));have ho:∀b∈fp,∃o,s2.heap.get? b=some o:=fun b hb=>let ⟨o,e,_⟩:=T.obj 0 _ st2 b hb;⟨o,e⟩
 obtain⟨W,⟨m0,w0⟩,turn⟩:=q2 s2.heap.objs.size (I2.hok.fresh (XW _));have I0:=(Zp (tk:=s2.toks+([]:List (Str×X9)).length) ok I2 f2 ho hC k hD hns₁).wish (zbk X N scope cl P2.objs.size fp pins s2 H2 E);have st0:tn 0 h₁:=T.keep 0 _ _ st2 fun b _ o e=>k b o e;have fr0:∀b∈fp,upd H2 s2.heap.objs.size (.lst []) b=none:=fun b hb=>by
  obtain⟨o,e⟩:=ho b hb;rw[zj (XA (XQ e))];exact(f2 b hb).1
 have stat:∀{H':Hp},(∀b∈fp,H' b=none)->∀b∈fp,ZS (qU X N scope cl P2.objs.size fp pins s2 H2 E) [] H' b:=fun {H'} hn b hb=>by
  obtain⟨o,e⟩:=ho b hb;have lt:=XQ e;refine⟨hn b hb,?_,fun z=>(XR.mp (I2.stkSub b z)).elim (f2 b hb).2.1 (f2 b hb).2.2.1,.inl hb,fun x c z=>(f2 b hb).2.2.2.2.1 x c (ok.sub x c z),fun p hp=>?_⟩
  ·show b≠P2.objs.size;rw[hC];exact XA (W5 lt)
  ·have hp':p∈X.pn++pins:=by
    have:p∈(X.pn++pins)++[]:=hp;simpa using this
   exact(f2 b hb).2.2.2.2.2 p hp'
 have out:∀{x:X9} {s':X8},zbk X N scope cl P2.objs.size fp pins s2 H2 E x s'->notedBy (Xr X.prog X.w) X.A (V3 scope cl P2.objs.size X.env) (fun x s'=>zja (Xr X.prog X.w) X.A X.xe (EP X pins σ Q) (.ref s2.heap.objs.size) (V3 scope cl P2.objs.size X.env) (.error x) s') x s':=fun {x s'} ⟨ps,σ1,H1,s1,I1,z⟩=>zeC L I2 f2 (by rw[hC];exact Wg _) I1 z;have loop:∀s₃:X8,s₃={ s2 with heap:=h₁,toks:=s2.toks+([]:List (Str×X9)).length } ->
   UR (Xr X.prog X.w) X.A (.compLoop (.ListComp elt [⟨tg,iter,ifs,0⟩] scope pos) 0 (.ref it) (.ref s2.heap.objs.size) (V3 scope cl P2.objs.size X.env))
    (zja (Xr X.prog X.w) X.A X.xe (EP X pins σ Q) (.ref s2.heap.objs.size) (V3 scope cl P2.objs.size X.env)) s₃:=by
  rintro s₃ rfl;refine Sa rfl (fun n s'=>∃i σ' H',Inv (qU X N scope cl P2.objs.size fp pins s2 H2 E) [] σ' H' s'/\tn i s'.heap/\(∀b∈fp,H' b=none)/\W i n σ' H') ?_ m0 ⟨0,_,_,I0,st0,fr0,w0⟩;rintro n s3 ⟨i,σ3,H3,I3,st3,fr3,w3⟩;show Xo _ X.A ((ON (.ListComp elt [⟨tg,iter,ifs,0⟩] scope pos) 0 (.ref it) (.ref s2.heap.objs.size) (V3 scope cl P2.objs.size X.env)).onRaise (fun x=>do SD x (V3 scope cl P2.objs.size X.env);Tn x)) _ _ s3;refine RI ?_;rw[Sw];rcases turn i n σ3 H3 w3 with ⟨stop,qn⟩ | ⟨go,N',hN,step⟩
  ·refine ZB (V6 (ZB (thn (T.done (qU X N scope cl P2.objs.size fp pins s2 H2 E) rfl rfl rfl hcalm i [] s3 σ3 H3 _ I3 (stat fr3) st3 stop) fun r s4 ⟨hr,I4⟩=>?_)));subst hr;refine XY ?_;obtain⟨m,hm,_⟩:=I4.loc;refine⟨m,hm,fun h' _ _ sb=>⟨.ref s2.heap.objs.size,H3,?_,rfl,qn⟩⟩;have un:Un (frs X.stack) fp H2 H3 s2.heap h':=Un.but I4.base (by show s2.heap.objs.size<=P2.objs.size;rw[hC];exact Wg _) sb;have hok:HOk X.prog X.w H3 h':=HOk.but I4.hok I4.free sb;exact I2.call' (s':={ s4 with heap:=h' }) (ch:=fp) I4.os un hok I4.bare fun b hb=>⟨(f2 b hb).2.2.2.1,(f2 b hb).2.1,(f2 b hb).2.2.2.2.1,(f2 b hb).2.2.2.2.2⟩
  ·refine ZB (V6 (ZB (thn (T.item (qU X N scope cl P2.objs.size fp pins s2 H2 E) rfl rfl rfl hcalm i [] s3 σ3 H3 _ I3 (stat fr3) st3 go) fun r s4 ⟨u,hr,h4⟩=>?_)));subst hr;dsimp only;refine ZB (thn h4 fun _ s5 ⟨x,H5,I5,r5,y5,st5,fr5⟩=>?_);have I5':=I5.pinned (stat fr5) (T.obj _ _ st5);refine ZB (Xa (hg P2.objs.size fp pins s2 H2 _ s5 σ3 H5 x u _ I5' r5 (step x H5 y5)) (fun _ s6 ⟨σ6,H6,I6,q6⟩=>?_) fun _ _ z=>out z);have Tc:∀{s7:X8} {σ7:St} {H7:Hp},Inv (qU X N scope cl P2.objs.size fp pins s2 H2 E) ([]++Zm fp s5.heap) σ7 H7 s7->N' σ7 H7->∃m,m<n/\∃i σ' H',Inv (qU X N scope cl P2.objs.size fp pins s2 H2 E) [] σ' H' s7/\tn i s7.heap/\(∀b∈fp,H' b=none)/\W i m σ' H':=fun {s7 σ7 H7} I7 n7=>by
    obtain⟨m',hm,w7⟩:=hN σ7 H7 n7;refine⟨m',hm,i+1,σ7,H7,I7.unpinned,T.keep _ _ _ st5 fun b hb o e=>(I7.pin (b,o) (XJ _ (XJ _ (qu hb e)))).1,fun b hb=>?_,w7⟩;obtain⟨o,e,d⟩:=T.obj _ _ st5 b hb;exact(I7.pin (b,o) (XJ _ (XJ _ (qu hb e)))).2.1
   refine ZB (Xa (hc P2.objs.size fp pins s2 H2 _ s6 σ6 H6 _ I6 q6) (fun b s7 ⟨H7,I7,q7⟩=>?_) fun _ _ z=>out z);cases b with
   | false =>
    rw[if_neg XT] at q7;exact XY ⟨rfl,Tc I7 q7⟩
   | true =>
    rw[if_pos rfl] at q7;refine ZB (ZB (Xa (he P2.objs.size fp pins s2 H2 _ s7 σ6 H7 _ I7 q7) (fun y s8 ⟨v8,H8,I8,r8,ys,hys,hlen,q8⟩=>?_) fun _ _ z=>out z));refine ZB (Xa (xN (X:=qU X N scope cl P2.objs.size fp pins s2 H2 E) _ s8 σ6 H8 (.ref s2.heap.objs.size) [v8] (.ref s2.heap.objs.size) [y] (fun _ H9=>N' σ6 H9) I8 rfl (.cons r8 .nil) ⟨_,ys,v8,rfl,rfl,hys,hlen,q8⟩) (fun _ s9 ⟨v9,H9,I9,_,q9⟩=>?_) fun _ _ z=>out z);exact XY (XY ⟨rfl,Tc I9 q9⟩)
 exact U1 (loop _ rfl) (T.self _ 0 _ _ _ st0 (loop _ rfl))
end
section
variable {M:PQ}{A:WW}{E:X9->X8->Prop}{env:Env}{s:X8}
def zmz (M:PQ)(A:WW)(E:X9->X8->Prop)(u:X9->Sem Unit)(Q:X9->X8->Prop)(acc:X9)(ce:Env)(r:Ps)(s':X8):Prop :=
 match r with
 | .ok _=>Xo M A (u acc) (fun _ s''=>∃m,s''.heap.Ns ce.locals m/\∀h',VN ce.locals s''.heap h'->Q .none { s'' with heap:=h' }) E s'
 | .error x=>zja M A E Q acc ce (.error x) s'
theorem zjd {e:Expr}{scope:Vb}{pos:Pos}{nacc fst:Sem X9}{g:Rt}{gs:List Rt}{cl:List (Str×Addr)}{u:X9->Sem Unit}{Q:X9->X8->Prop}
  (hc:clausesOf e=g::gs) (hs:∀x,Vn g.iter env x=pure x) (hcl:R3 scope env=pure cl)
  (hk:scope.kind=.function) (hn:∀x∈scope.names,x.2=.local->scope.names.lookup x.1=some .local)
  (h:Xo M A fst (fun x s1=>Xo M A (OE x) (fun it s2=>Xo M A nacc (fun acc s3 =>
   Xo M A (RZ scope env.globals cl [] env.qual none .none (some env)) (fun ce s4 =>
    UR M A (.compStart e 0 it acc { ce with scope:=Vx scope env }) (zmz M A E u Q acc { ce with scope:=Vx scope env }) s4) E s3) E s2) E s1) E s) :
  Xo M A (Rs e scope env pos nacc false fst (some u)) Q E s:=by
 unfold Rs;rw[hcl,hc];refine ZB (Xa h (fun x s1 h1=>?_) fun _ _ z=>z);refine ZB (V6 (ZB (RG (hs x) (ZB (WN ?_)))));refine Xa h1 (fun it s2 h2=>?_) fun _ _ z=>z;refine wpAny_standIf (ZB (Xa h2 (fun acc s3 h3=>?_) fun _ _ z=>z));refine ZB (XY (ZB (Xa h3 (fun ce s4 h4=>?_) fun _ _ z=>z)));dsimp only;have own:∀x∈(scope.names.filter fun y=>(y.2 == .local || y.2 == .cell)&&y.1 != (".0":Str)).reverse,x.2=.local->Env.kindOf { ce with scope:=Vx scope env } x.1=some .local :=
  fun x hx hl=>Pg (hn x (XS.mp (List.mem_reverse.mp hx)).1 hl)
 refine WN (ZB (Tx (WN (wpAny_run (Uo h4 fun r s5 hr=>?_)))));cases r with
 | ok f =>
  refine ZB (UG (ZB (WN (Xa hr (fun _ s6 hr6=>?_) fun _ _ z=>z))));obtain⟨m,hm,hr6⟩:=hr6;refine ZB (Sz (cenv:={ ce with scope:=Vx scope env }) hk _ s6 m (fun x hx hl=>?_) hm fun h' m' _ sb=>XY (hr6 h' sb));rcases XI.mp hx with z | z
  ·exact own x (TW z) hl
  ·exact own x (V1 z) hl
 | error x =>
  obtain⟨m,hm,hr⟩:=hr;exact ZB (WN (Sz (cenv:={ ce with scope:=Vx scope env }) hk _ s5 m own hm fun h' m' hn sb=>Xa (hr h' m' hn sb) (fun _ _ z=>z.elim) fun _ _ z=>z))
end
section
variable {X:Cx}{tg iter elt:Expr}{ifs:List Expr}{scope:Vb}{pos:Pos}{N:List Str}{src:List (Option Nat)}{cl:List (Str×Addr)}{wi:TI}{g:TG}{tc:TT}{te:TE}
theorem zje {i:Nat}{x:Str}{xpos spos:Pos}{E:XK}(hN:X.N.Nodup)(hix:X.N[i]?=some x)(hlx:X.env.scope.names.lookup x=some .local)(L:jq X E)(ok:zT X N src scope cl)(hcalm:X.calm=true)(hi:PI X tg iter wi)
  (hg:∀C fp pins s H,PG (qU X N scope cl C fp pins s H E) tg g) (hc:∀C fp pins s H,zfx (qU X N scope cl C fp pins s H E) ifs tc) (he:∀C fp pins s H,PE (qU X N scope cl C fp pins s H E) elt te)
  (hs:∀x,Vn iter X.env x=pure x:=by intro _;rfl) (hsw:O6 (.ListComp elt [⟨tg,iter,ifs,0⟩] scope pos) (some (.Name x xpos)) spos.line X.env=pure true:=by rfl) :
  PS X (.Assign [.Name x xpos] (.ListComp elt [⟨tg,iter,ifs,0⟩] scope pos) spos) (zkd (zea wi src g tc te) (ZR i)):=by
 intro pins s σ H D I h;rw[PH _ _ _ _ hsw];refine ZB (V6 (ZB ?_));unfold evalThenUse;refine ZB (Xa (Q:=fun _ s''=>∃ σ' H',Inv X pins σ' H' s''/\D.nx σ' H') ?_ (fun _ s'' ⟨σ',H',I',q'⟩=>XY (XY ⟨σ',H',I',q'⟩)) fun _ _ z=>z);refine zjd (u:=Pu (.Name x xpos) X.env) rfl hs ok.clos ok.kind ok.names (thn (hi pins s σ H _ I h) fun xv s1 h1=>thn h1 fun itv s2 h2=>?_);obtain⟨it,fp,tn,J,H2,e,I2,T,st2,f2,q2⟩:=h2;subst e;refine V5 (TY ok.nocell (by intro y hy;simp at hy) (fun h₁ hns₁ hsb₁=>?_) ok.kind);dsimp only at hns₁ hsb₁ ⊢;generalize hP:s2.heap.push { cls:=.type "list",dict:=none,data:=.seq ([]:List X9).toArray }=P2 at hns₁ hsb₁ ⊢;have hC:P2.objs.size=s2.heap.objs.size+1:=by rw[<- hP,VA]
 have k:∀b u,s2.heap.get? b=some u->h₁.get? b=some u:=fun b u e=>by
  have lt:=XQ e;exact(hsb₁.2 b (by rw[hC];exact XA (W5 lt))).trans (X7 _ (hP ▸ X7 _ e))
 have hD:h₁.get? s2.heap.objs.size=some { cls:=.type "list",data:=.seq #[] }:=(hsb₁.2 _ (by rw[hC];exact(VG _).symm)).trans (X7 _ (hP ▸ Xb _ rfl));have ho:∀b∈fp,∃o,s2.heap.get? b=some o:=fun b hb=>let ⟨o,e,_⟩:=T.obj 0 _ st2 b hb;⟨o,e⟩
 obtain⟨W,⟨m0,w0⟩,turn⟩:=q2 s2.heap.objs.size (I2.hok.fresh (XW _));have I0:=(Zp (tk:=s2.toks+([]:List (Str×X9)).length) ok I2 f2 ho hC k hD hns₁).wish (zbk X N scope cl P2.objs.size fp pins s2 H2 E);have st0:tn 0 h₁:=T.keep 0 _ _ st2 fun b _ o e=>k b o e;have fr0:∀b∈fp,upd H2 s2.heap.objs.size (.lst []) b=none:=fun b hb=>by
  obtain⟨o,e⟩:=ho b hb;rw[zj (XA (XQ e))];exact(f2 b hb).1
 have stat:∀{H':Hp},(∀b∈fp,H' b=none)->∀b∈fp,ZS (qU X N scope cl P2.objs.size fp pins s2 H2 E) [] H' b:=fun {H'} hn b hb=>by
  obtain⟨o,e⟩:=ho b hb;have lt:=XQ e;refine⟨hn b hb,?_,fun z=>(XR.mp (I2.stkSub b z)).elim (f2 b hb).2.1 (f2 b hb).2.2.1,.inl hb,fun x c z=>(f2 b hb).2.2.2.2.1 x c (ok.sub x c z),fun p hp=>?_⟩
  ·show b≠P2.objs.size;rw[hC];exact XA (W5 lt)
  ·have hp':p∈X.pn++pins:=by
    have:p∈(X.pn++pins)++[]:=hp;simpa using this
   exact(f2 b hb).2.2.2.2.2 p hp'
 have out:∀{x':X9} {s':X8},zbk X N scope cl P2.objs.size fp pins s2 H2 E x' s'->notedBy (Xr X.prog X.w) X.A (V3 scope cl P2.objs.size X.env) (fun x' s'=>zmz (Xr X.prog X.w) X.A X.xe (Pu (.Name x xpos) X.env) (fun _ s''=>∃ σ' H',Inv X pins σ' H' s''/\D.nx σ' H') (.ref s2.heap.objs.size) (V3 scope cl P2.objs.size X.env) (.error x') s') x' s':=fun {x' s'} ⟨ps,σ1,H1,s1,I1,z⟩=>zeC (Q:=fun _ s''=>∃ σ' H',Inv X pins σ' H' s''/\D.nx σ' H') (acc:=.ref s2.heap.objs.size) L I2 f2 (by rw[hC];exact Wg _) I1 z;have loop:∀s₃:X8,s₃={ s2 with heap:=h₁,toks:=s2.toks+([]:List (Str×X9)).length } ->
   UR (Xr X.prog X.w) X.A (.compLoop (.ListComp elt [⟨tg,iter,ifs,0⟩] scope pos) 0 (.ref it) (.ref s2.heap.objs.size) (V3 scope cl P2.objs.size X.env))
    (zmz (Xr X.prog X.w) X.A X.xe (Pu (.Name x xpos) X.env) (fun _ s''=>∃ σ' H',Inv X pins σ' H' s''/\D.nx σ' H') (.ref s2.heap.objs.size) (V3 scope cl P2.objs.size X.env)) s₃:=by
  rintro s₃ rfl;refine Sa rfl (fun n s'=>∃i σ' H',Inv (qU X N scope cl P2.objs.size fp pins s2 H2 E) [] σ' H' s'/\tn i s'.heap/\(∀b∈fp,H' b=none)/\W i n σ' H') ?_ m0 ⟨0,_,_,I0,st0,fr0,w0⟩;rintro n s3 ⟨i,σ3,H3,I3,st3,fr3,w3⟩;show Xo _ X.A ((ON (.ListComp elt [⟨tg,iter,ifs,0⟩] scope pos) 0 (.ref it) (.ref s2.heap.objs.size) (V3 scope cl P2.objs.size X.env)).onRaise (fun x=>do SD x (V3 scope cl P2.objs.size X.env);Tn x)) _ _ s3;refine RI ?_;rw[Sw];rcases turn i n σ3 H3 w3 with ⟨stop,qn⟩ | ⟨go,N',hN,step⟩
  ·refine ZB (V6 (ZB (thn (T.done (qU X N scope cl P2.objs.size fp pins s2 H2 E) rfl rfl rfl hcalm i [] s3 σ3 H3 _ I3 (stat fr3) st3 stop) fun r s4 ⟨hr,I4⟩=>?_)));subst hr;refine XY ?_;obtain⟨m,hm,_⟩:=I4.loc;have leC:s2.heap.objs.size<=P2.objs.size:=by rw[hC];exact Wg _
   have IX:Inv X pins σ H3 s4:=I2.call' (s':=s4) (ch:=fp) I4.os I4.base I4.hok I4.bare fun b hb=>⟨(f2 b hb).2.2.2.1,(f2 b hb).2.1,(f2 b hb).2.2.2.2.1,(f2 b hb).2.2.2.2.2⟩;have cellLt:∀y c,X.env.cells.lookup y=some c->c≠P2.objs.size:=fun y c e z=>by
    obtain⟨_,o,e1,_⟩:=I2.cell y c e;have:=XQ e1;rw[z] at this;exact Wq _ (XE this leC)
   have locNe:X.env.locals≠P2.objs.size:=fun z=>by
    have:=I2.lt;rw[z] at this;exact Wq _ (XE this leC)
   refine RE (QY IX hN hix (.inl hlx) (v:=.ref s2.heap.objs.size) rfl (fun s5 I5 ⟨a5,sb5,ha5⟩=>?_) (.inr hlx));have na:a5≠P2.objs.size:=by
    rcases ha5 with z | z
    ·rw[z];exact locNe
    ·exact cellLt _ _ z
   refine⟨m,hm.sameBut sb5 (Vy na),fun h' sb=>⟨_,H3,?_,qn⟩⟩;exact I5.turned (t':=s5.toks) (it:=P2.objs.size) (fun b o hb e=>(sb.2 b hb).trans e) I4.free (Vy locNe) (.inr (XV I2.sz leC)) cellLt fun p hp z=>by
    obtain⟨e1,_⟩:=I2.pin p hp;have:=XQ e1;rw[z] at this;exact Wq _ (XE this leC)
  ·refine ZB (V6 (ZB (thn (T.item (qU X N scope cl P2.objs.size fp pins s2 H2 E) rfl rfl rfl hcalm i [] s3 σ3 H3 _ I3 (stat fr3) st3 go) fun r s4 ⟨u,hr,h4⟩=>?_)));subst hr;dsimp only;refine ZB (thn h4 fun _ s5 ⟨x,H5,I5,r5,y5,st5,fr5⟩=>?_);have I5':=I5.pinned (stat fr5) (T.obj _ _ st5);refine ZB (Xa (hg P2.objs.size fp pins s2 H2 _ s5 σ3 H5 x u _ I5' r5 (step x H5 y5)) (fun _ s6 ⟨σ6,H6,I6,q6⟩=>?_) fun _ _ z=>out z);have Tc:∀{s7:X8} {σ7:St} {H7:Hp},Inv (qU X N scope cl P2.objs.size fp pins s2 H2 E) ([]++Zm fp s5.heap) σ7 H7 s7->N' σ7 H7->∃m,m<n/\∃i σ' H',Inv (qU X N scope cl P2.objs.size fp pins s2 H2 E) [] σ' H' s7/\tn i s7.heap/\(∀b∈fp,H' b=none)/\W i m σ' H':=fun {s7 σ7 H7} I7 n7=>by
    obtain⟨m',hm,w7⟩:=hN σ7 H7 n7;refine⟨m',hm,i+1,σ7,H7,I7.unpinned,T.keep _ _ _ st5 fun b hb o e=>(I7.pin (b,o) (XJ _ (XJ _ (qu hb e)))).1,fun b hb=>?_,w7⟩;obtain⟨o,e,d⟩:=T.obj _ _ st5 b hb;exact(I7.pin (b,o) (XJ _ (XJ _ (qu hb e)))).2.1
   refine ZB (Xa (hc P2.objs.size fp pins s2 H2 _ s6 σ6 H6 _ I6 q6) (fun b s7 ⟨H7,I7,q7⟩=>?_) fun _ _ z=>out z);cases b with
   | false =>
    rw[if_neg XT] at q7;exact XY ⟨rfl,Tc I7 q7⟩
   | true =>
    rw[if_pos rfl] at q7;refine ZB (ZB (Xa (he P2.objs.size fp pins s2 H2 _ s7 σ6 H7 _ I7 q7) (fun y s8 ⟨v8,H8,I8,r8,ys,hys,hlen,q8⟩=>?_) fun _ _ z=>out z));refine ZB (Xa (xN (X:=qU X N scope cl P2.objs.size fp pins s2 H2 E) _ s8 σ6 H8 (.ref s2.heap.objs.size) [v8] (.ref s2.heap.objs.size) [y] (fun _ H9=>N' σ6 H9) I8 rfl (.cons r8 .nil) ⟨_,ys,v8,rfl,rfl,hys,hlen,q8⟩) (fun _ s9 ⟨v9,H9,I9,_,q9⟩=>?_) fun _ _ z=>out z);exact XY (XY ⟨rfl,Tc I9 q9⟩)
 exact U1 (loop _ rfl) (T.self _ 0 _ _ _ st0 (loop _ rfl))
end
end L2
namespace Cells
def zV (p:Nat->Bool)(i:Nat):Nat->List Nat->List (Nat×Nat)
 | _,[]=>[]
 | j,c::r=>(if p c=true then [(i,j)] else [])++zV p i (j+1) r
def zK (p:Nat->Bool):Nat->List (List Nat)->List (Nat×Nat)
 | _,[]=>[]
 | i,t::r=>zV p i 0 t++zK p (i+1) r
theorem Zv (p:Nat->Bool)(i:Nat):∀(j:Nat) (a b:List Nat),zV p i j (a++b)=zV p i j a++zV p i (j+a.length) b
 | j,[],b=>by simp[zV]
 | j,c::a,b=>by
  simp only[Rf,zV,Zv p i (j+1) a b,Xp,W7];rw[show j+1+a.length=j+(a.length+1) by lia]
theorem Zw (p:Nat->Bool):∀(i:Nat) (a b:List (List Nat)),zK p i (a++b)=zK p i a++zK p (i+a.length) b
 | i,[],b=>by simp[zK]
 | i,t::a,b=>by
  simp only[Rf,zK,Zw p (i+1) a b,Xp,W7];rw[show i+1+a.length=i+(a.length+1) by lia]
theorem zbl {p:Nat->Bool}{i j c:Nat}{t:List Nat}(h:t[j]?=some c):zV p i 0 (t.take (j+1))=zV p i 0 (t.take j)++(if p c=true then [(i,j)] else []):=by
 rw[Xm,h,Zv];have hl:(t.take j).length=j:=by
  have:=(X2.mp h).1;rw[XD];lia
 simp[zV,hl]
theorem zbm {p:Nat->Bool}{i:Nat}{t:List Nat}{rs:List (List Nat)}(h:rs[i]?=some t):zK p 0 (rs.take (i+1))=zK p 0 (rs.take i)++zV p i 0 t:=by
 rw[Xm,h,Zw];have hl:(rs.take i).length=i:=by
  have:=(X2.mp h).1;rw[XD];lia
 simp[zK,hl]
theorem yb (p:Nat->Bool)(i:Nat):∀(j:Nat) (t:List Nat),(zV p i j t).length<=t.length
 | j,[]=>by simp[zV]
 | j,c::r=>by
  have:=yb p i (j+1) r;simp only[zV,XZ,Xp];split<;>simp<;>lia
theorem jD (p:Nat->Bool):∀(i:Nat) (rs:List (List Nat)),(∀t∈rs,t.length<=8)->(zK p i rs).length<=8*rs.length
 | i,[],_=>by simp[zK]
 | i,t::r,h=>by
  have h1:=yb p i 0 t;have h2:=jD p (i+1) r fun u hu=>h u (XX _ hu);have h3:=h t XU;simp only[zK,XZ,Xp];lia
theorem xO {p:Nat->Bool}{i:Nat}:∀{j:Nat} {t:List Nat} {x:Nat×Nat},x∈zV p i j t->∃m c,x=(i,j+m)/\t[m]?=some c/\p c=true
 | j,[],x,h=>by simp[zV] at h
 | j,c::r,x,h=>by
  simp only[zV,XI] at h;rcases h with h | h
  ·split at h
   ·rename_i hp;have:x=(i,j):=by simpa using h
    exact⟨0,c,this,rfl,hp⟩
   ·cases h
  ·obtain⟨m,c',e,h1,h2⟩:=xO h;exact⟨m+1,c',by rw[e,show j+1+m=j+(m+1) by lia],by simpa using h1,h2⟩
theorem jX {p:Nat->Bool}{i:Nat}{rs:List (List Nat)}{x:Nat×Nat}(h:x∈zK p i rs):∃k j t c,x=(i+k,j)/\rs[k]?=some t/\t[j]?=some c/\p c=true:=by
 induction rs generalizing i with
 | nil=>simp[zK] at h
 | cons t r ih =>
  simp only[zK,XI] at h;rcases h with h | h
  ·obtain⟨m,c,e,h1,h2⟩:=xO h;exact⟨0,m,t,c,by simpa using e,rfl,h1,h2⟩
  ·obtain⟨k,j,u,c,e,h1,h2,h3⟩:=ih h;exact⟨k+1,j,u,c,by rw[e,show i+1+k=i+(k+1) by lia],by simpa using h1,h2,h3⟩
def sgn (rs:List (List Nat))(x:Nat×Nat):Nat:=(rs.getD x.1 []).getD x.2 0
theorem Qy {p q:Nat->Bool}{i:Nat}(f:Nat×Nat->Bool):∀(j:Nat) (t:List Nat),(∀m c,t[m]?=some c->f (i,j+m)=q c)->(zV p i j t).filter f=zV (fun c=>p c&&q c) i j t
 | j,[],_=>by simp[zV]
 | j,c::r,h=>by
  have ih:=Qy (p:=p) (q:=q) (i:=i) f (j+1) r fun m c' hm=>by
   have:=h (m+1) c' (by simpa using hm);rw[show j+1+m=j+(m+1) by lia];exact this
  have h0:=h 0 c rfl;simp only[zV,W6,ih];congr 1;simp only[TR] at h0;by_cases hp:p c=true
  ·by_cases hq:q c=true
   ·simp[hp,hq,h0]
   ·simp[hp,hq,h0]
  ·simp[hp]
theorem Qz {p q:Nat->Bool}(f:Nat×Nat->Bool):∀(i:Nat) (rs:List (List Nat)),(∀k t m c,rs[k]?=some t->t[m]?=some c->f (i+k,m)=q c)->(zK p i rs).filter f=zK (fun c=>p c&&q c) i rs
 | i,[],_=>by simp[zK]
 | i,t::r,h=>by
  have ih:=Qz (p:=p) (q:=q) f (i+1) r fun k u m c hk hm=>by
   have:=h (k+1) u m c (by simpa using hk) hm;rw[show i+1+k=i+(k+1) by lia];exact this
  simp only[zK,W6,ih];rw[Qy (p:=p) (q:=q) f 0 t fun m c hm=>by simpa using h 0 t m c rfl hm]
theorem zdG {rs:List (List Nat)}{i j:Nat}{t:List Nat}{c:Nat}(h:rs[i]?=some t)(h2:t[j]?=some c):sgn rs (i,j)=c:=by
 unfold sgn;simp[List.getD,h,h2]
theorem all_filter {p q:Nat->Bool}(rs:List (List Nat)):(zK p 0 rs).filter (fun x=>q (sgn rs x))=zK (fun c=>p c&&q c) 0 rs :=
 Qz _ 0 rs fun k t m c hk hm=>by rw[show 0+k=k by lia,zdG hk hm]
theorem zaw {p q:Nat->Bool}(h:∀c,p c=q c)(i:Nat)(rs:List (List Nat)):zK p i rs=zK q i rs:=by
 rw[show p=q from funext h]
def near (x y:Nat×Nat):Bool:=decide ((if (x.1:Int)-(y.1:Int)<0 then -((x.1:Int)-(y.1:Int)) else (x.1:Int)-(y.1:Int))<2)&&(decide ((if (x.2:Int)-(y.2:Int)<0 then -((x.2:Int)-(y.2:Int)) else (x.2:Int)-(y.2:Int))<2) && !decide (x=y))
theorem x9 (x y:Nat×Nat):near x y=true↔(x.1<=y.1+1/\y.1<=x.1+1)/\(x.2<=y.2+1/\y.2<=x.2+1)/\¬ x=y:=by
 unfold near;rw[Wm,Wm,decide_eq_true_iff,decide_eq_true_iff,WH,decide_eq_false_iff_not];constructor
 ·rintro⟨h1,h2,h3⟩;refine⟨?_,?_,h3⟩
  ·split at h1<;>lia
  ·split at h2<;>lia
 ·rintro⟨h1,h2,h3⟩;refine⟨?_,?_,h3⟩
  ·split<;>lia
  ·split<;>lia
def lex (a b:Nat×Nat):Prop:=a.1<b.1\/(a.1=b.1/\a.2<b.2)
theorem zcF (p:Nat->Bool)(i:Nat):∀(j:Nat) (t:List Nat),(zV p i j t).Pairwise lex
 | j,[]=>by simp[zV]
 | j,c::r=>by
  simp only[zV];rw[UI];refine⟨?_,zcF p i (j+1) r,fun a ha b hb=>?_⟩
  ·split<;>simp
  ·split at ha
   ·have e:a=(i,j):=by simpa using ha
    obtain⟨m,c',e',_,_⟩:=xO hb;subst e e';exact .inr ⟨rfl,by show j<j+1+m;lia⟩
   ·cases ha
theorem Ys (p:Nat->Bool):∀(i:Nat) (rs:List (List Nat)),(zK p i rs).Pairwise lex
 | i,[]=>by simp[zK]
 | i,t::r=>by
  simp only[zK];rw[UI];refine⟨zcF p i 0 t,Ys p (i+1) r,fun a ha b hb=>?_⟩;obtain⟨m,c,e,_,_⟩:=xO ha;obtain⟨k,j,u,c',e',_,_,_⟩:=jX hb;subst e e';exact .inl (by show i<i+1+k;lia)
theorem zjf {p:Nat->Bool}{f:Nat×Nat->Bool}{n:Nat}{rs:List (List Nat)}(h:∀r c,r<n->f (r,c)=false):(zK p 0 (rs.take n)).filter f=[]:=by
 rw[Wc];intro x hx;obtain⟨k,j,t,c,e,hk,_,_⟩:=jX hx;have hkl:k<n:=by
  have:=(X2.mp hk).1;rw[XD] at this;lia
 subst e;rw[h _ _ (by lia)];exact XT
theorem zhV {p:Nat->Bool}{f:Nat×Nat->Bool}{n:Nat}{rs:List (List Nat)}(h:∀r c,n<=r->f (r,c)=false):(zK p 0 (rs.take n)).filter f=(zK p 0 rs).filter f:=by
 by_cases hn:n<=rs.length
 ·have e:=WC n rs;have e2:zK p 0 rs=zK p 0 (rs.take n)++zK p (0+(rs.take n).length) (rs.drop n):=by rw[<- Zw,e]
  rw[e2,W6];have z:(zK p (0+(rs.take n).length) (rs.drop n)).filter f=[]:=by
   rw[Wc];intro x hx;obtain⟨k,j,t,c,e,hk,_,_⟩:=jX hx;subst e;rw[XD,h _ _ (by lia)];exact XT
  rw[z,W0]
 ·rw[WL (by lia)]
theorem zjg {p:Nat->Bool}{f:Nat×Nat->Bool}{i n:Nat}{t:List Nat}(h:∀c,c<n->f (i,c)=false):(zV p i 0 (t.take n)).filter f=[]:=by
 rw[Wc];intro x hx;obtain⟨m,c,e,hm,_⟩:=xO hx;have hml:m<n:=by
  have:=(X2.mp hm).1;rw[XD] at this;lia
 subst e;rw[h _ (by lia)];exact XT
theorem zhW {p:Nat->Bool}{f:Nat×Nat->Bool}{i n:Nat}{t:List Nat}(h:∀c,n<=c->f (i,c)=false):(zV p i 0 (t.take n)).filter f=(zV p i 0 t).filter f:=by
 by_cases hn:n<=t.length
 ·have e:=WC n t;have e2:zV p i 0 t=zV p i 0 (t.take n)++zV p i (0+(t.take n).length) (t.drop n):=by rw[<- Zv,e]
  rw[e2,W6];have z:(zV p i (0+(t.take n).length) (t.drop n)).filter f=[]:=by
   rw[Wc];intro x hx;obtain⟨m,c,e,hm,_⟩:=xO hx;subst e;rw[XD,h _ (by lia)];exact XT
  rw[z,W0]
 ·rw[WL (by lia)]
end Cells
namespace Parts
abbrev C:=Nat×Nat
structure Good (cl:C->List C)(done:List C)(gs:List (List C)):Prop where
 ne:∀g∈gs,g ≠ []
 nd:gs.flatten.Nodup
 from_:∀x∈gs.flatten,∃o∈done,x∈cl o
 cov:∀o∈done,cl o ≠ []->∃g∈gs,∀x∈cl o,x∈g
 con:∀g∈gs,∀S:C->Prop,(∀o∈done,(∃x∈cl o,S x)->∀x∈cl o,S x)->(∃x∈g,S x)->∀x∈g,S x
 srt:∀g∈gs,g.Pairwise Cells.lex
theorem Good.start (cl:C->List C):Good cl [] []:=⟨(fun _ h=>nomatch h),T0,(fun _ h=>nomatch h),(fun _ h=>nomatch h),(fun _ h=>nomatch h),(fun _ h=>nomatch h)⟩
theorem Good.skip {cl:C->List C}{done:List C}{gs:List (List C)}(G:Good cl done gs){o:C}(h:cl o=[]):Good cl (done++[o]) gs:=by
 refine⟨G.ne,G.nd,fun x hx=>?_,fun p hp hn=>?_,fun g hg S hS=>G.con g hg S fun p hp=>hS p (Xd _ hp),G.srt⟩
 ·obtain⟨p,hp,hx⟩:=G.from_ x hx;exact⟨p,Xd _ hp,hx⟩
 ·rcases XI.mp hp with hp | hp
  ·exact G.cov p hp hn
  ·have e:p=o:=by simpa using hp
   subst e;exact absurd h hn
theorem zcG {gs:List (List C)}(nd:gs.flatten.Nodup):∀{g g':List C} {x:C},g∈gs->g'∈gs->x∈g->x∈g'->g=g':=by
 induction gs with
 | nil=>intro g g' x h;cases h
 | cons a r ih =>
  rw[WA,V4] at nd;obtain⟨_,h2,h3⟩:=nd;intro g g' x hg hg' hx hx';rcases XR.mp hg with e1 | g1
  ·rcases XR.mp hg' with e2 | g2
   ·rw[e1,e2]
   ·exact absurd rfl (h3 x (e1 ▸ hx) x (WE.mpr ⟨g',g2,hx'⟩))
  ·rcases XR.mp hg' with e2 | g2
   ·exact absurd rfl (h3 x (e2 ▸ hx') x (WE.mpr ⟨g,g1,hx⟩))
   ·exact ih h2 g1 g2 hx hx'
theorem qH (p:List C->Bool):∀gs:List (List C),(gs.filter p).flatten.Sublist gs.flatten
 | []=>List.Sublist.refl _
 | a::r=>by
  rw[Wx,WA];split
  ·rw[WA];exact List.Sublist.append (List.Sublist.refl _) (qH p r)
  ·exact List.Sublist.trans (qH p r) (RJ _ _)
def meets (g0 g:List C):Bool:=!(g.filter fun c=>g0.any fun x=>decide (x=c)).isEmpty
theorem JW {g0 g:List C}:meets g0 g=true ↔ ∃x∈g,x∈g0:=by
 unfold meets;rw[WH,US];constructor
 ·intro h;obtain⟨x,hx⟩:=TJ _ h;rw[XS,Wj] at hx;obtain⟨h1,y,h2,h3⟩:=hx;have e:y=x:=of_decide_eq_true h3;subst e;exact⟨y,h1,h2⟩
 ·rintro⟨x,h1,h2⟩ hn;have:x∈g.filter fun c=>g0.any fun x=>decide (x=c):=XS.mpr ⟨h1,Wj.mpr ⟨x,h2,decide_eq_true rfl⟩⟩;rw[hn] at this;cases this
def whole (w:List C):List (List C)->List C
 | []=>w
 | g::r=>whole (w++g.filter fun c=>!(w.any fun x=>decide (x=c))) r
theorem QA (w:List C)(c:C):(w.any fun x=>decide (x=c))=true↔c∈w:=by
 rw[Wj];constructor
 ·rintro⟨x,h1,h2⟩;have e:x=c:=of_decide_eq_true h2;subst e;exact h1
 ·intro h;exact⟨c,h,decide_eq_true rfl⟩
theorem zac {x:C}:∀{w:List C} {ms:List (List C)},x∈whole w ms↔x∈w\/∃m∈ms,x∈m
 | w,[]=>by simp[whole]
 | w,g::r=>by
  rw[whole,zac,XI,XS];constructor
  ·rintro((h | ⟨h,_⟩) | ⟨m,hm,h⟩)
   ·exact .inl h
   ·exact .inr ⟨g,XU,h⟩
   ·exact .inr ⟨m,XX _ hm,h⟩
  ·rintro(h | ⟨m,hm,h⟩)
   ·exact .inl (.inl h)
   ·rcases XR.mp hm with rfl | hm
    ·by_cases hw:x∈w
     ·exact .inl (.inl hw)
     ·refine .inl (.inr ⟨h,?_⟩);rw[WH,WZ];exact fun z=>hw ((QA w x).mp z)
    ·exact .inr ⟨m,hm,h⟩
theorem Z6:∀{w:List C} {ms:List (List C)},w.Nodup->(∀m∈ms,m.Nodup)->(whole w ms).Nodup
 | w,[],h,_=>h
 | w,g::r,h,hm=>by
  rw[whole];refine Z6 ?_ fun m hm'=>hm m (XX _ hm');rw[V4];refine⟨h,(hm g XU).sublist VQ,fun a ha b hb e=>?_⟩;subst e;have hb2:=(XS.mp hb).2;rw[(QA w a).mpr ha] at hb2;cases hb2
theorem Good.step {cl:C->List C}{done:List C}{gs:List (List C)}(G:Good cl done gs){o:C}(h:cl o ≠ [])(hn:(cl o).Nodup){rest:List (List C)}{w:List C}(hr:rest=gs.filter fun g=>!((gs.filter (meets (cl o))).any fun m=>decide (m=g)))
  (hw:w.Perm (whole (cl o) (gs.filter (meets (cl o))))) (hs:w.Pairwise Cells.lex):Good cl (done++[o]) (rest++[w]):=by
 have mr:∀g,g∈rest↔g∈gs/\¬ ∃x∈g,x∈cl o:=fun g=>by
  rw[hr,XS,WH,WZ];constructor
  ·rintro⟨h1,h2⟩;exact⟨h1,fun h3=>h2 (Wj.mpr ⟨g,XS.mpr ⟨h1,JW.mpr h3⟩,decide_eq_true rfl⟩)⟩
  ·rintro⟨h1,h2⟩;refine⟨h1,fun h3=>?_⟩;obtain⟨m,hm,e⟩:=Wj.mp h3;have e':m=g:=of_decide_eq_true e;subst e';exact h2 (JW.mp (XS.mp hm).2)
 have mw:∀x,x∈w↔x∈cl o\/∃g∈gs,(∃y∈g,y∈cl o)/\x∈g:=fun x=>by
  rw[hw.mem_iff,zac];constructor
  ·rintro(h1 | ⟨m,hm,h1⟩)
   ·exact .inl h1
   ·obtain⟨h2,h3⟩:=XS.mp hm;exact .inr ⟨m,h2,JW.mp h3,h1⟩
  ·rintro(h1 | ⟨g,h2,h3,h1⟩)
   ·exact .inl h1
   ·exact .inr ⟨g,XS.mpr ⟨h2,JW.mpr h3⟩,h1⟩
 have gn:∀g∈gs,g.Nodup:=fun g hg=>G.nd.sublist (Wu hg);have wn:w.Nodup:=hw.nodup_iff.mpr (Z6 hn fun m hm=>gn m (XS.mp hm).1);refine⟨fun g hg=>?_,?_,fun x hx=>?_,fun p hp hne=>?_,fun g hg S hS=>?_,fun g hg=>?_⟩
 ·rcases XI.mp hg with hg | hg
  ·exact G.ne g ((mr g).mp hg).1
  ·have e:g=w:=by simpa using hg
   subst e;obtain⟨x,hx⟩:=TJ _ h;exact Vv ((mw x).mpr (.inl hx))
 ·rw[Wo,V4];refine⟨G.nd.sublist (by rw[hr];exact qH _ gs),by simpa using wn,fun a ha b hb e=>?_⟩;subst e;have hb':a∈w:=by simpa using hb
  obtain⟨g,hg,hx⟩:=WE.mp ha;obtain⟨g1,g2⟩:=(mr g).mp hg;rcases(mw a).mp hb' with h1 | ⟨m,m1,m2,m3⟩
  ·exact g2 ⟨a,hx,h1⟩
  ·have e:=zcG G.nd g1 m1 hx m3;subst e;exact g2 m2
 ·rw[Wo] at hx;rcases XI.mp hx with hx | hx
  ·obtain⟨g,hg,hx⟩:=WE.mp hx;obtain⟨p,hp,hx⟩:=G.from_ x (WE.mpr ⟨g,((mr g).mp hg).1,hx⟩);exact⟨p,Xd _ hp,hx⟩
  ·have hx':x∈w:=by simpa using hx
   rcases(mw x).mp hx' with h1 | ⟨g,g1,_,g3⟩
   ·exact⟨o,by simp,h1⟩
   ·obtain⟨p,hp,hx⟩:=G.from_ x (WE.mpr ⟨g,g1,g3⟩);exact⟨p,Xd _ hp,hx⟩
 ·rcases XI.mp hp with hp | hp
  ·obtain⟨g,hg,hx⟩:=G.cov p hp hne;by_cases hm:∃x∈g,x∈cl o
   ·exact⟨w,by simp,fun x hx'=>(mw x).mpr (.inr ⟨g,hg,hm,hx x hx'⟩)⟩
   ·exact⟨g,Xd _ ((mr g).mpr ⟨hg,hm⟩),hx⟩
  ·have e:p=o:=by simpa using hp
   subst e;exact⟨w,by simp,fun x hx=>(mw x).mpr (.inl hx)⟩
 ·have hS':∀p∈done,(∃x∈cl p,S x)->∀x∈cl p,S x:=fun p hp=>hS p (Xd _ hp);rcases XI.mp hg with hg | hg
  ·exact G.con g ((mr g).mp hg).1 S hS'
  ·have e:g=w:=by simpa using hg
   subst e;rintro⟨x,hx,sx⟩;have all0:∀y∈cl o,S y:=by
    refine hS o (by simp) ?_;rcases(mw x).mp hx with h1 | ⟨m,m1,⟨y,y1,y2⟩,m3⟩
    ·exact⟨x,h1,sx⟩
    ·exact⟨y,y2,G.con m m1 S hS' ⟨x,m3,sx⟩ y y1⟩
   intro z hz;rcases(mw z).mp hz with h1 | ⟨m,m1,⟨y,y1,y2⟩,m3⟩
   ·exact all0 z h1
   ·exact G.con m m1 S hS' ⟨y,y1,all0 y y2⟩ z m3
 ·rcases XI.mp hg with hg | hg
  ·exact G.srt g ((mr g).mp hg).1
  ·have e:g=w:=by simpa using hg
   subst e;exact hs
theorem Good.perm {cl:C->List C}{done:List C}{gs gs':List (List C)}(G:Good cl done gs)(h:gs'.Perm gs):Good cl done gs':=by
 refine⟨fun g hg=>G.ne g (h.mem_iff.mp hg),h.flatten.nodup_iff.mpr G.nd,fun x hx=>G.from_ x (h.flatten.mem_iff.mp hx),fun o ho hn=>?_,fun g hg=>G.con g (h.mem_iff.mp hg),fun g hg=>G.srt g (h.mem_iff.mp hg)⟩;obtain⟨g,hg,hx⟩:=G.cov o ho hn;exact⟨g,h.mem_iff.mpr hg,hx⟩
theorem Z7:∀{gs:List (List C)},(∀g∈gs,g ≠ [])->gs.length<=gs.flatten.length
 | [],_=>XW _
 | g::r,h=>by
  have ih:=Z7 (gs:=r) fun x hx=>h x (XX _ hx);have:1<=g.length:=List.length_pos_iff.mpr (h g XU);rw[WA,XZ,Xp];lia
theorem jY:∀{a b:List C},a.Nodup->(∀x∈a,x∈b)->a.length<=b.length
 | [],_,_,_=>W1 _
 | x::r,b,h,s=>by
  obtain⟨h1,h2⟩:=VU.mp h;have hx:=s x XU;have ih:=jY (a:=r) (b:=b.erase x) h2 fun y hy=>(List.mem_erase_of_ne (fun (e:y=x)=>h1 (by rw[<- e];exact hy))).mpr (s y (XX _ hy));rw[List.length_erase_of_mem hx] at ih;have:=Ui hx;rw[Xp];lia
end Parts
namespace Subs
variable {α:Type}
def step (S:List (List α))(c:α):List (List α):=S++S.map (·++[c])
def subs (cs:List α):List (List α):=cs.foldl step [[]]
def pick:List α->Nat->List α
 | [],_=>[]
 | c::r,b=>(if b%2=1 then [c] else [])++pick r (b/2)
theorem zcH (cs:List α)(c:α):subs (cs++[c])=step (subs cs) c:=by
 unfold subs;rw[SS];rfl
theorem zgU:∀(cs:List α) (c:α) (b:Nat),b<2^cs.length->pick (cs++[c]) b=pick cs b
 | [],c,b,h=>by
  have:b=0:=by
   simp at h;lia
  subst this;rfl
 | d::r,c,b,h=>by
  show _++pick (r++[c]) (b/2)=_++pick r (b/2);rw[zgU r c (b/2) (by
   rw[Xp,UN] at h;lia)]
theorem zgV:∀(cs:List α) (c:α) (b:Nat),b<2^cs.length->pick (cs++[c]) (2^cs.length+b)=pick cs b++[c]
 | [],c,b,h=>by
  have:b=0:=by
   simp at h;lia
  subst this;rfl
 | d::r,c,b,h=>by
  rw[Xp,UN] at h;show (if (2^(r.length+1)+b)%2=1 then [d] else [])++pick (r++[c]) ((2^(r.length+1)+b)/2)=((if b%2=1 then [d] else [])++pick r (b/2))++[c];have e1:(2^(r.length+1)+b)%2=b%2:=by
   rw[UN];lia
  have e2:(2^(r.length+1)+b)/2=2^r.length+b/2:=by
   rw[UN];lia
  rw[e1,e2,zgV r c (b/2) (by lia),W7]
theorem Yt (cs:List α):subs cs=(WO (2^cs.length)).map (pick cs):=by
 rw[<- Ph cs];induction cs.reverse with
 | nil=>rfl
 | cons c r ih =>
  rw[List.reverse_cons,zcH,ih,XZ,PJ,UN,Nat.mul_two,List.range_add,Xf,We];unfold step;rw[We];congr 1
  ·refine Xi fun b hb=>?_;exact(zgU _ _ _ (Wv.mp hb)).symm
  ·refine Xi fun b hb=>?_;exact(zgV _ _ _ (Wv.mp hb)).symm
end Subs
namespace Grow
variable {α β:Type}
def cnt (near:β->α->Bool)(o:β)(p:List α):Nat:=(p.filter (near o)).length
def zbn (near:β->α->Bool)(num:β->Int)(rest:List α)(o:β)(p:List α):Bool:=decide (num o-((cnt near o rest:Nat):Int)<=((cnt near o p:Nat):Int))&&decide (((cnt near o p:Nat):Int)<=num o)
def chk (near:β->α->Bool)(num:β->Int)(O:List β)(c:α)(rest:List α)(p:List α):Bool:=(O.filter fun o=>near o c).all fun o=>zbn near num rest o p
def grow (near:β->α->Bool)(num:β->Int)(O:List β):List (List α)->List α->List (List α)
 | F,[]=>F
 | F,c::rest=>grow near num O ((Subs.step F c).filter (chk near num O c rest)) rest
def good (near:β->α->Bool)(num:β->Int)(O:List β)(done rest:List α)(p:List α):Bool:=(O.filter fun o=>done.any (near o)).all fun o=>zbn near num rest o p
theorem cnt_cons (near:β->α->Bool)(o:β)(c:α)(r:List α):cnt near o (c::r)=cnt near o r+if near o c=true then 1 else 0:=by
 unfold cnt;rw[Wx];split<;>rfl
theorem jH (near:β->α->Bool)(o:β)(p:List α)(c:α):cnt near o (p++[c])=cnt near o p+if near o c=true then 1 else 0:=by
 unfold cnt;rw[W6,XZ];congr 1;rw[Wx];split<;>rfl
theorem jM {near:β->α->Bool}{num:β->Int}{rest:List α}{o:β}{p:List α}:zbn near num rest o p=true↔num o-((cnt near o rest:Nat):Int)<=((cnt near o p:Nat):Int)/\((cnt near o p:Nat):Int)<=num o:=by
 unfold zbn;rw[Wm,decide_eq_true_eq,decide_eq_true_eq]
theorem zgW {near:β->α->Bool}{num:β->Int}{O:List β}{c:α}{rest p:List α}:chk near num O c rest p=true ↔ ∀o∈O,near o c=true->zbn near num rest o p=true:=by
 unfold chk;rw[WD];exact⟨fun h o ho hn=>h o (XS.mpr ⟨ho,hn⟩),fun h o ho=>h o (XS.mp ho).1 (XS.mp ho).2⟩
theorem Z8 {near:β->α->Bool}{num:β->Int}{O:List β}{done rest p:List α}:good near num O done rest p=true ↔ ∀o∈O,done.any (near o)=true->zbn near num rest o p=true:=by
 unfold good;rw[WD];exact⟨fun h o ho hn=>h o (XS.mpr ⟨ho,hn⟩),fun h o ho=>h o (XS.mp ho).1 (XS.mp ho).2⟩
theorem JX (near:β->α->Bool)(o:β)(done:List α)(c:α):(done++[c]).any (near o)=true↔done.any (near o)=true\/near o c=true:=by
 rw[List.any_append,Bool.or_eq_true];simp
theorem zkL (near:β->α->Bool)(num:β->Int)(O:List β)(done rest:List α)(c:α)(p:List α):(good near num O done (c::rest) p&&chk near num O c rest p)=good near num O (done++[c]) rest p:=by
 rw[WM,Wm,Z8,zgW,Z8];constructor
 ·rintro⟨h1,h2⟩ o ho hn;by_cases hc:near o c=true
  ·exact h2 o ho hc
  ·have:=h1 o ho (((JX near o done c).mp hn).resolve_right hc);rw[jM,cnt_cons,if_neg hc] at this;exact jM.mpr this
 ·intro h;refine⟨fun o ho hn=>?_,fun o ho hc=>h o ho ((JX near o done c).mpr (.inr hc))⟩;have:=jM.mp (h o ho ((JX near o done c).mpr (.inl hn)));rw[jM,cnt_cons];split<;>lia
theorem zkM (near:β->α->Bool)(num:β->Int)(O:List β)(done rest:List α)(c:α)(p:List α):(good near num O done (c::rest) p&&chk near num O c rest (p++[c]))=good near num O (done++[c]) rest (p++[c]):=by
 rw[WM,Wm,Z8,zgW,Z8];constructor
 ·rintro⟨h1,h2⟩ o ho hn;by_cases hc:near o c=true
  ·exact h2 o ho hc
  ·have:=h1 o ho (((JX near o done c).mp hn).resolve_right hc);rw[jM,cnt_cons,if_neg hc] at this;rw[jM,jH,if_neg hc];exact this
 ·intro h;refine⟨fun o ho hn=>?_,fun o ho hc=>h o ho ((JX near o done c).mpr (.inr hc))⟩;have:=jM.mp (h o ho ((JX near o done c).mpr (.inl hn)));rw[jH] at this;rw[jM,cnt_cons];split at this<;>rename_i hc
  ·rw[if_pos hc];lia
  ·rw[if_neg hc];lia
theorem zhX (near:β->α->Bool)(num:β->Int)(O:List β)(done rest:List α)(c:α)(S:List (List α)):(Subs.step (S.filter (good near num O done (c::rest))) c).filter (chk near num O c rest)=(Subs.step S c).filter (good near num O (done++[c]) rest):=by
 unfold Subs.step;rw[W6,W6];congr 1
 ·rw[Uk];refine UL fun p _=>?_;rw[<- zkL,Tw]
 ·rw[PK,PK,Uk];congr 1;refine UL fun p _=>?_;show (chk near num O c rest (p++[c])&&good near num O done (c::rest) p)=good near num O (done++[c]) rest (p++[c]);rw[<- zkM,Tw]
theorem zcI (near:β->α->Bool)(num:β->Int)(O:List β):∀(rest done:List α) (S:List (List α)),grow near num O (S.filter (good near num O done rest)) rest=(rest.foldl Subs.step S).filter (good near num O (done++rest) [])
 | [],done,S=>by
  rw[W0];rfl
 | c::r,done,S=>by
  show grow near num O ((Subs.step (S.filter (good near num O done (c::r))) c).filter (chk near num O c r)) r=_;rw[zhX,zcI near num O r (done++[c]) (Subs.step S c),W7];rfl
def fits (near:β->α->Bool)(num:β->Int)(O:List β)(part:List α)(p:List α):Bool:=(O.filter fun o=>part.any (near o)).all fun o=>decide (((cnt near o p:Nat):Int)=num o)
theorem zkN (near:β->α->Bool)(num:β->Int)(O:List β)(part:List α):grow near num O [[]] part=(Subs.subs part).filter (fits near num O part):=by
 have h:=zcI near num O part [] [[]];have e:([[]]:List (List α)).filter (good near num O [] part)=[[]]:=by
  have:good near num O [] part []=true:=Z8.mpr fun o _ hn=>by simp at hn
  rw[Wx,if_pos this];rfl
 rw[e] at h;rw[h];show (Subs.subs part).filter _=_;refine UL fun p _=>?_;rw[List.nil_append];unfold good fits;congr 1;funext o;rw[WM,jM,decide_eq_true_eq];show num o-((0:Nat):Int)<=_/\_↔_;lia
end Grow
namespace Cnt
variable {α:Type}
def xj (g:Nat)(ks:List (List α)):List Int:=(WO (g+1)).map fun n=>((ks.countP fun k=>decide (k.length=n):Nat):Int)
theorem QB (g:Nat)(ks:List (List α)):(xj g ks).length=g+1:=by
 unfold xj;rw[Y1,Wz]
theorem zjh (g:Nat):xj g ([]:List (List α))=Xj (g+1) 0:=by
 unfold xj;refine Pz.mpr ⟨by rw[Y1,Wz],fun b hb=>?_⟩;obtain⟨n,_,rfl⟩:=XB.mp hb;rfl
theorem zbo {g n:Nat}(ks:List (List α))(h:n<=g):(xj g ks)[n]?=some ((ks.countP fun k=>decide (k.length=n):Nat):Int):=by
 unfold xj;rw[Xn,U3 (by lia)];rfl
theorem zhY {g:Nat}(ks:List (List α)){k:List α}(h:k.length<=g):xj g (ks++[k])=(xj g ks).set k.length (((ks.countP fun x=>decide (x.length=k.length):Nat):Int)+1):=by
 refine UM fun n=>?_;rw[Ry];by_cases hn:n<=g
 ·rw[zbo _ hn,zbo _ hn,QB,Uj];by_cases e:k.length=n
  ·rw[if_pos e,if_pos (by lia)];subst e;simp
  ·rw[if_neg e];simp[e]
 ·have e1:∀xs:List (List α),(xj g xs)[n]?=none:=fun xs=>VO (by rw[QB];lia);rw[e1,e1,QB,if_neg (by lia)]
theorem zad {g:Nat}{as bs:List (List α)}(h:as.Perm bs):xj g as=xj g bs:=by
 unfold xj;refine Xi fun n _=>?_;rw[h.countP_eq]
end Cnt
namespace Pour
def S (h:Nat->Int):Nat->Int
 | 0=>0
 | n+1=>S h n+h n
def F (xs:List Int)(i:Nat):Int:=(xs[i]?).getD 0
def hk (xs ys:List Int)(k i:Nat):Int:=if i<=k then F xs i*F ys (k-i) else 0
def JE (xs ys:List Int):List Int:=(WO (xs.length+ys.length-1)).map fun k=>S (hk xs ys k) xs.length
def part (xs ys:List Int)(i j k:Nat):Int:=S (hk xs ys k) i+(if i<=k/\k-i<j then F xs i*F ys (k-i) else 0)
def st (xs ys:List Int)(i j:Nat):List Int:=(WO (xs.length+ys.length-1)).map (part xs ys i j)
theorem QC {xs:List Int}{i:Nat}(h:xs.length<=i):F xs i=0:=by
 unfold F;rw[VO h];rfl
theorem zji {xs:List Int}{i:Nat}{x:Int}(h:xs[i]?=some x):F xs i=x:=by
 unfold F;rw[h];rfl
theorem Ju {f g:Nat->Int}:∀n,(∀i,i<n->f i=g i)->S f n=S g n
 | 0,_=>rfl
 | n+1,h=>by
  show S f n+f n=S g n+g n;rw[Ju n fun i hi=>h i (by lia),h n (by lia)]
theorem zjj {f:Nat->Int}{n:Nat}:∀m,(∀i,n<=i->i<n+m->f i=0)->S f (n+m)=S f n
 | 0,_=>rfl
 | m+1,h=>by
  show S f (n+m)+f (n+m)=S f n;rw[zjj m fun i h1 h2=>h i h1 (by lia),h (n+m) (by lia) (by lia),SZ]
theorem zkO {f:Nat->Int}{n m:Nat}(hm:n<=m)(h:∀i,n<=i->i<m->f i=0):S f m=S f n:=by
 obtain⟨d,rfl⟩:∃d,m=n+d:=⟨m-n,by lia⟩;exact zjj d h
theorem zmA (xs ys:List Int)(k:Nat):S (hk xs ys k) xs.length=S (fun i=>F xs i*F ys (k-i)) (k+1):=by
 have e1:S (fun i=>F xs i*F ys (k-i)) (k+1)=S (hk xs ys k) (k+1):=Ju _ fun i hi=>by
  unfold hk;rw[if_pos (by lia)]
 rw[e1];by_cases c:xs.length<=k+1
 ·refine(zkO c fun i h1 _=>?_).symm;unfold hk;rw[QC h1];split<;>simp
 ·refine zkO (by lia) fun i h1 _=>?_;unfold hk;rw[if_neg (by lia)]
theorem zfT (xs ys:List Int)(i j:Nat):(st xs ys i j).length=xs.length+ys.length-1:=by
 unfold st;rw[Y1,Wz]
theorem zfU {xs ys:List Int}{i j k:Nat}(h:k<xs.length+ys.length-1):(st xs ys i j)[k]?=some (part xs ys i j k):=by
 unfold st;rw[Xn,U3 h];rfl
theorem zjk (xs ys:List Int):st xs ys 0 0=Xj (xs.length+ys.length-1) 0:=by
 unfold st;have e:∀k,part xs ys 0 0 k=0:=fun k=>by
  unfold part;rw[if_neg (by lia)];rfl
 refine(Xi (g:=fun _=>(0:Int)) fun k _=>e k).trans ?_;rw[List.map_const',Wz]
theorem zjl (xs ys:List Int)(i k:Nat):part xs ys i ys.length k=part xs ys (i+1) 0 k:=by
 unfold part;rw[if_neg (show ¬ (i+1<=k/\k-(i+1)<0) by lia),SZ];show _=S (hk xs ys k) i+hk xs ys k i;congr 1;unfold hk;by_cases c:i<=k
 ·by_cases d:k-i<ys.length
  ·rw[if_pos ⟨c,d⟩,if_pos c]
  ·rw[if_neg (fun z=>d z.2),if_pos c,QC (show ys.length<=k-i by lia),OH]
 ·rw[if_neg (fun z=>c z.1),if_neg c]
theorem zmB (xs ys:List Int)(i:Nat):st xs ys i ys.length=st xs ys (i+1) 0:=by
 unfold st;exact Xi fun k _=>zjl xs ys i k
theorem zkP {xs ys:List Int}{i j:Nat}{x y:Int}(hx:xs[i]?=some x)(hy:ys[j]?=some y):(st xs ys i j).set (i+j) (part xs ys i j (i+j)+x*y)=st xs ys i (j+1):=by
 have hi:i<xs.length:=(X2.mp hx).1;have hj:j<ys.length:=(X2.mp hy).1;apply UM;intro k;rw[Ry];by_cases c:k<xs.length+ys.length-1
 ·rw[zfU c,zfU c];by_cases e:i+j=k
  ·subst e;rw[if_pos rfl,if_pos (by rw[zfT];exact c)];congr 1;unfold part;rw[if_neg (by lia),if_pos (by lia),SZ,zji hx,Qr,zji hy]
  ·rw[if_neg e];congr 1;unfold part;congr 1;by_cases d:i<=k/\k-i<j
   ·rw[if_pos d,if_pos (by lia)]
   ·rw[if_neg d,if_neg (by lia)]
 ·have n1:∀j',(st xs ys i j')[k]?=none:=fun j'=>VO (by rw[zfT];lia);rw[n1,n1];by_cases e:i+j=k
  ·lia
  ·rw[if_neg e]
theorem zmC (xs ys:List Int):st xs ys xs.length 0=JE xs ys:=by
 unfold st JE;refine Xi fun k _=>?_;unfold part;rw[if_neg (by lia),SZ]
end Pour
namespace Choose
def ch:Nat->Nat->Nat
 | _,0=>1
 | 0,_+1=>0
 | n+1,k+1=>ch n k+ch n (k+1)
theorem Yu (n:Nat):ch n 0=1:=by cases n<;>rfl
theorem zae:∀(n k:Nat),n<k->ch n k=0
 | 0,0,h=>absurd h (by lia)
 | 0,k+1,_=>rfl
 | n+1,0,h=>absurd h (by lia)
 | n+1,k+1,h=>by
  show ch n k+ch n (k+1)=0;rw[zae n k (by lia),zae n (k+1) (by lia)]
theorem zaR:∀n k:Nat,(k+1)*ch n (k+1)+k*ch n k=n*ch n k
 | 0,0=>rfl
 | 0,k+1=>by
  show (k+1+1)*0+(k+1)*0=0*0;simp
 | n+1,0=>by
  have h:=zaR n 0;rw[Yu] at h ⊢;show (0+1)*(ch n 0+ch n (0+1))+0*1=(n+1)*1;rw[Yu];lia
 | n+1,j+1=>by
  have h1:=zaR n (j+1);have h2:=zaR n j;show (j+1+1)*(ch n (j+1)+ch n (j+1+1))+(j+1)*(ch n j+ch n (j+1))=(n+1)*(ch n j+ch n (j+1));generalize ch n (j+1+1)=C2 at *
  generalize ch n (j+1)=C1 at *
  generalize ch n j=C0 at *
  simp only[Nat.add_mul,Nat.mul_add,Oz] at *
  lia
theorem zkQ {n k:Nat}(h:k<n):(ch n k:Int)*((n:Int)-k)/((k:Int)+1)=ch n (k+1):=by
 have e:=zaR n k;have e2:(ch n k:Int)*((n:Int)-k)=(ch n (k+1):Int)*((k:Int)+1):=by
  have:((k+1)*ch n (k+1)+k*ch n k:Int)=(n*ch n k:Int):=by exact_mod_cast e
  rw[Int.mul_sub,OG (ch n k:Int) n,<- this,OG (ch n (k+1):Int) ((k:Int)+1),OG (ch n k:Int) (k:Int)];lia
 rw[e2];exact Int.mul_ediv_cancel _ (by lia)
theorem znN (n:Nat):∀k,ch n k<=2^n:=by
 induction n with
 | zero =>
  intro k;cases k with
  | zero=>decide
  | succ k =>
   show (0:Nat)<=2^0;decide
 | succ n ih =>
  intro k;cases k with
  | zero =>
   rw[Yu];exact Nat.one_le_two_pow
  | succ k =>
   show ch n k+ch n (k+1)<=2^(n+1);rw[UN];have:=ih k;have:=ih (k+1);lia
end Choose
namespace Tally
open Subs
variable {α:Type}
theorem QD:∀(B:List α) (S0:List (List α)),B.foldl step S0=(subs B).flatMap fun b=>S0.map (·++b)
 | [],S0=>by simp[subs]
 | c::r,S0=>by
  have e:subs (c::r)=(subs r).flatMap fun b=>[b,c::b]:=by
   show r.foldl step (step [[]] c)=_;rw[QD r];rfl
  show r.foldl step (step S0 c)=_;rw[QD r,e,List.flatMap_assoc];congr 1;funext b;show (S0++S0.map (·++[c])).map (·++b)=S0.map (·++b)++(S0.map (·++(c::b))++[]);rw[Xf,W0,We];congr 1;refine Xi fun x _=>?_;show x++[c]++b=_;rw[W7];rfl
theorem zcJ (c:α)(r:List α):subs (c::r)=(subs r).flatMap fun b=>[b,c::b]:=by
 show r.foldl step (step [[]] c)=_;rw[QD r];rfl
theorem QE (A B:List α):subs (A++B)=(subs B).flatMap fun b=>(subs A).map (·++b):=by
 unfold subs;rw[SS];exact QD B _
theorem zcK (c:α)(p:List α->Bool):∀L:List (List α),(L.flatMap fun b=>[b,c::b]).countP p=L.countP p+L.countP fun S=>p (c::S)
 | []=>rfl
 | b::L=>by
  have ih:=zcK c p L;rw[Rx,Uj,ih,Wl (l:=L),Wl (l:=L),Wl,Wl,List.countP_nil];lia
theorem count_cons (c:α)(r:List α)(p:List α->Bool):(subs (c::r)).countP p=(subs r).countP p+(subs r).countP fun S=>p (c::S):=by
 rw[zcJ,zcK]
def Inv (p:List α->Bool):Prop:=∀a b,a.Perm b->p a=p b
theorem Inv.cons {p:List α->Bool}(h:Inv p)(c:α):Inv fun S=>p (c::S):=fun _ _ e=>h _ _ (e.cons c)
theorem zfV {cs ds:List α}(e:cs.Perm ds):∀{p:List α->Bool},Inv p->(subs cs).countP p=(subs ds).countP p:=by
 induction e with
 | nil=>intro p _;rfl
 | cons c _ ih =>
  intro p h;rw[count_cons,count_cons,ih h,ih (h.cons c)]
 | swap x y l =>
  intro p h;rw[count_cons,count_cons,count_cons,count_cons,count_cons,count_cons];have:(subs l).countP (fun S=>p (y::x::S))=(subs l).countP fun S=>p (x::y::S):=UK fun S _=>by rw[h _ _ (List.Perm.swap x y S)]
  lia
 | trans _ _ i1 i2 =>
  intro p h;exact(i1 h).trans (i2 h)
def T (cs:List α)(p:List α->Bool)(k:Nat):Nat:=(subs cs).countP fun S=>decide (S.length=k)&&p S
theorem zaf {cs ds:List α}(e:cs.Perm ds){p:List α->Bool}(h:Inv p)(k:Nat):T cs p k=T ds p k:=zfV e fun a b e=>by rw[h a b e,e.length_eq]
theorem zgX {cs:List α}{p q:List α->Bool}(h:∀S∈subs cs,p S=q S)(k:Nat):T cs p k=T cs q k:=UK fun S hS=>by rw[h S hS]
theorem zlz (f g:Nat->Int):∀n,Pour.S (fun i=>f i+g i) n=Pour.S f n+Pour.S g n
 | 0=>rfl
 | n+1=>by
  show Pour.S (fun i=>f i+g i) n+(f n+g n)=Pour.S f n+f n+(Pour.S g n+g n);rw[zlz f g n];lia
theorem zjm:∀n,Pour.S (fun _=>0) n=0
 | 0=>rfl
 | n+1=>by
  show Pour.S (fun _=>0) n+0=0;rw[zjm n];rfl
theorem zeD (j:Nat)(x:Int):∀n,Pour.S (fun i=>if i=j then x else 0) n=if j<n then x else 0
 | 0=>rfl
 | n+1=>by
  show Pour.S (fun i=>if i=j then x else 0) n+(if n=j then x else 0)=_;rw[zeD j x n];by_cases h:n=j
  ·rw[if_neg (by lia),if_pos h,if_pos (by lia),R7]
  ·rw[if_neg h,SZ];by_cases h2:j<n
   ·rw[if_pos h2,if_pos (by lia)]
   ·rw[if_neg h2,if_neg (by lia)]
theorem zeE (q:List α->Bool)(f:Nat->Nat)(k:Nat):∀L:List (List α),(((L.map fun b=>if (q b&&decide (b.length<=k))=true then f (k-b.length) else 0).sum:Nat):Int)=Pour.S (fun i=>(f i:Int)*((L.countP fun b=>decide (b.length=k-i)&&q b:Nat):Int)) (k+1):=by
 intro L;induction L with
 | nil =>
  have:Pour.S (fun i=>(f i:Int)*((([]:List (List α)).countP fun b=>decide (b.length=k-i)&&q b:Nat):Int)) (k+1)=Pour.S (fun _=>0) (k+1):=Pour.Ju _ fun i _=>by
   show (f i:Int)*0=0;lia
  rw[this,zjm];rfl
 | cons b L ih =>
  rw[Xs,VC,Si,ih];have e:Pour.S (fun i=>(f i:Int)*(((b::L).countP fun b=>decide (b.length=k-i)&&q b:Nat):Int)) (k+1)=Pour.S (fun i=>(f i:Int)*((L.countP fun b=>decide (b.length=k-i)&&q b:Nat):Int)+if i=k-b.length then (if (q b&&decide (b.length<=k))=true then (f (k-b.length):Int) else 0) else 0) (k+1):=Pour.Ju _ fun i hi=>by
   rw[Wl];by_cases hq:q b=true
   ·by_cases hb:b.length<=k
    ·by_cases hik:i=k-b.length
     ·have h1:b.length=k-i:=by lia
      have h2:k-i<=k:=by lia
      simp only[hq,h1,h2,decide_true,Tv,if_true,if_pos hik];rw[show k-(k-i)=i by lia,if_pos rfl,Si,Int.mul_add];lia
     ·have h1:¬b.length=k-i:=by lia
      simp only[hq,h1,decide_false,Tv,if_neg hik];simp
    ·have h1:¬b.length=k-i:=by lia
     simp[hq,h1,hb]
   ·have hq':q b=false:=WZ.mpr hq;simp[hq']
  rw[e,zlz,zeD,if_pos (show k-b.length<k+1 by lia),Int.add_comm];congr 1;split<;>rfl
theorem zjn {A B:List α}{P pA pB:List α->Bool}(h:∀a∈subs A,∀b∈subs B,P (a++b)=(pA a&&pB b))(k:Nat):(T (A++B) P k:Int)=Pour.S (fun i=>(T A pA i:Int)*(T B pB (k-i):Int)) (k+1):=by
 unfold T;rw[QE,List.countP_flatMap];have e:(subs B).map (List.countP (fun S=>decide (S.length=k)&&P S)∘fun b=>(subs A).map (·++b))=(subs B).map fun b=>if (pB b&&decide (b.length<=k))=true then (T A pA) (k-b.length) else 0:=by
  refine Xi fun b hb=>?_;show List.countP _ ((subs A).map (·++b))=_;rw[Sj];by_cases hq:(pB b&&decide (b.length<=k))=true
  ·rw[if_pos hq];obtain⟨h1,h2⟩:=V2.mp hq;have h2:=of_decide_eq_true h2;refine UK fun a ha=>?_;show (decide ((a++b).length=k)&&P (a++b))=true↔(decide (a.length=k-b.length)&&pA a)=true;rw[h a ha b hb,h1,Tv,XZ,show (decide (a.length+b.length=k))=decide (a.length=k-b.length) from decide_eq_decide.mpr (by lia)]
  ·rw[if_neg hq];refine VP.mpr fun a ha hh=>hq ?_;have hh:(decide ((a++b).length=k)&&P (a++b))=true:=hh;rw[h a ha b hb] at hh;obtain⟨h1,h2⟩:=V2.mp hh;have h1:=of_decide_eq_true h1;rw[XZ] at h1;rw[(V2.mp h2).2,decide_eq_true (by lia)];rfl
 rw[e,zeE];rfl
theorem jE {cs S:List α}(h:S∈subs cs):S.Sublist cs:=by
 revert S;induction cs with
 | nil=>intro S h;simp[subs] at h;subst h;exact List.Sublist.refl _
 | cons c r ih =>
  intro S h;rw[zcJ] at h;obtain⟨b,hb,h⟩:=Uu.mp h;have:=ih hb;simp at h;rcases h with rfl | rfl
  ·exact this.cons c
  ·exact this.cons_cons c
theorem zbp {cs:List α}{p:List α->Bool}{k:Nat}(h:cs.length<k):T cs p k=0:=by
 refine VP.mpr fun S hS hh=>?_;have h1:=of_decide_eq_true (V2.mp hh).1;have h2:=(jE hS).length_le;lia
def tl (cs:List α)(p:List α->Bool):List Int:=(WO (cs.length+1)).map fun k=>(T cs p k:Int)
theorem jx (cs:List α)(p:List α->Bool):(tl cs p).length=cs.length+1:=by
 unfold tl;rw[Y1,Wz]
theorem zfW (cs:List α)(p:List α->Bool)(i:Nat):Pour.F (tl cs p) i=(T cs p i:Int):=by
 by_cases h:i<cs.length+1
 ·refine Pour.zji ?_;unfold tl;rw[Xn,U3 h];rfl
 ·rw[Pour.QC (by rw[jx];lia),zbp (by lia)];rfl
theorem zkR {A B:List α}{P pA pB:List α->Bool}(h:∀a∈subs A,∀b∈subs B,P (a++b)=(pA a&&pB b)):Pour.JE (tl A pA) (tl B pB)=tl (A++B) P:=by
 unfold Pour.JE;rw[jx,jx];show _=(WO ((A++B).length+1)).map fun k=>(T (A++B) P k:Int);rw[XZ,show A.length+1+(B.length+1)-1=A.length+B.length+1 by lia];refine Xi fun k _=>?_;have e:=Pour.zmA (tl A pA) (tl B pB) k;rw[jx] at e;rw[e,zjn h];exact Pour.Ju _ fun i _=>by rw[zfW,zfW]
theorem zkS {cs ds:List α}(e:cs.Perm ds){p:List α->Bool}(h:Inv p):tl cs p=tl ds p:=by
 unfold tl;rw[e.length_eq];refine Xi fun k _=>by rw[zaf e h]
theorem zeF {cs:List α}{p q:List α->Bool}(h:∀S∈subs cs,p S=q S):tl cs p=tl cs q:=by
 unfold tl;refine Xi fun k _=>by rw[zgX h]
theorem zeG:∀(cs:List α) (k:Nat),T cs (fun _=>true) k=Choose.ch cs.length k
 | [],0=>rfl
 | [],k+1=>rfl
 | c::r,0=>by
  have e:=zeG r 0;unfold T at e ⊢;rw[count_cons,e,Choose.Yu,Choose.Yu];have:(subs r).countP (fun S=>decide ((c::S).length=0)&&true)=0:=VP.mpr fun S _ hh=>by simp at hh
  rw[this]
 | c::r,k+1=>by
  have e1:=zeG r k;have e2:=zeG r (k+1);unfold T at e1 e2 ⊢;rw[count_cons,e2];have:(subs r).countP (fun S=>decide ((c::S).length=k+1)&&true)=(subs r).countP fun S=>decide (S.length=k)&&true:=UK fun S _=>by
   rw[Xp,show decide (S.length+1=k+1)=decide (S.length=k) from decide_eq_decide.mpr (by lia)]
  rw[this,e1];show _=Choose.ch r.length k+Choose.ch r.length (k+1);lia
theorem zmD [DecidableEq α]{cs:List α}{c:α}(hc:c∈cs)(nd:cs.Nodup)(k:Nat):T cs (fun S=>decide (c∈S)) k=if k=0 then 0 else Choose.ch (cs.length-1) (k-1):=by
 have hp:cs.Perm (c::cs.erase c):=List.perm_cons_erase hc;have hn:c ∉ cs.erase c:=fun h=>by
  have:=hp.nodup_iff.mp nd;exact(VU.mp this).1 h
 rw[zaf hp (fun a b e=>decide_eq_decide.mpr e.mem_iff)];unfold T;rw[count_cons];have z:(subs (cs.erase c)).countP (fun S=>decide (S.length=k)&&decide (c∈S))=0:=VP.mpr fun S hS hh=>by
  have h1:=of_decide_eq_true (V2.mp hh).2;exact hn ((jE hS).subset h1)
 rw[z,VM];have el:(cs.erase c).length=cs.length-1:=by rw[List.length_erase,if_pos hc]
 cases k with
 | zero =>
  rw[if_pos rfl];exact VP.mpr fun S _ hh=>by simp at hh
 | succ k =>
  rw[if_neg (by lia),<- el,Tf,<- zeG];unfold T;refine UK fun S _=>?_;rw[Xp,show decide (S.length+1=k+1)=decide (S.length=k) from decide_eq_decide.mpr (by lia)];show (_&&decide (c∈c::S))=true↔_;rw[decide_eq_true XU]
variable {α:Type}
structure Loc (U:List α)(p:List α->Bool)(g:List α):Prop where
 l:∀a b,(∀c∈a,c∈U/\c ∉ g)->p (a++b)=p b
 r:∀a b,(∀c∈b,c∈U/\c ∉ g)->p (a++b)=p a
def jy (fit:List α->List α->Bool)(gs:List (List α))(S:List α):Bool:=gs.all fun g=>fit g S
theorem zbq (fit:List α->List α->Bool)(as bs:List (List α))(S:List α):jy fit (as++bs) S=(jy fit as S&&jy fit bs S):=List.all_append
theorem zfX {fit:List α->List α->Bool}{gs:List (List α)}{S S':List α}(h:∀g∈gs,fit g S=fit g S'):jy fit gs S=jy fit gs S':=by
 unfold jy;induction gs with
 | nil=>rfl
 | cons g r ih =>
  rw[List.all_cons,List.all_cons,h g XU,ih fun x hx=>h x (XX _ hx)]
theorem zbr {U:List α}{fit:List α->List α->Bool}{done:List (List α)}{g:List α}{q:List α->Bool}(nd:(done.flatten++g).Nodup)(hU:∀c∈done.flatten++g,c∈U)(hd:∀x∈done,Loc U (fit x) x)(hg:Loc U q g) :
  Pour.JE (tl done.flatten (jy fit done)) (tl g q)=tl (done.flatten++g) fun S=>jy fit done S&&q S:=by
 obtain⟨_,_,n3⟩:=V4.mp nd;refine zkR fun a ha b hb=>?_;have sa:=(jE ha).subset;have sb:=(jE hb).subset;rw[hg.l a b fun c hc=>⟨hU c (Xd _ (sa hc)),fun h=>n3 c (sa hc) c h rfl⟩];congr 1;exact zfX fun x hx=>(hd x hx).r a b fun c hc=>⟨hU c (XJ _ (sb hc)),fun h=>n3 c (WE.mpr ⟨x,hx,h⟩) c (sb hc) rfl⟩
theorem zkT {U:List α}{fit:List α->List α->Bool}:∀(gs done:List (List α)),(done++gs).flatten.Nodup->(∀c∈(done++gs).flatten,c∈U)->(∀g∈done++gs,Loc U (fit g) g)->(gs.map fun g=>tl g (fit g)).foldl Pour.JE (tl done.flatten (jy fit done))=tl (done++gs).flatten (jy fit (done++gs)):=by
 intro gs;induction gs with
 | nil =>
  intro done _ _ _;rw[W0];rfl
 | cons g r ih =>
  intro done nd hU hL;have e:done++g::r=(done++[g])++r:=by rw[W7];rfl
  rw[e] at nd hU hL ⊢;have e2:(done++[g]).flatten=done.flatten++g:=by rw[Wo];simp
  have nd2:(done.flatten++g).Nodup:=by
   rw[Wo,e2] at nd;exact(V4.mp nd).1
  have ih:=ih (done++[g]) nd hU hL;rw[<- ih,Xs,VT,e2];congr 1;rw[zbr nd2 (fun c hc=>hU c (by rw[Wo,e2];exact Xd _ hc)) (fun x hx=>hL x (by simp[hx])) (hL g (by simp))];refine zeF fun S _=>?_;rw[zbq];congr 1;show fit g S=(fit g S&&true);rw[Tv]
theorem zfY {U:List α}{fit:List α->List α->Bool}{gs:List (List α)}(nd:gs.flatten.Nodup)(hU:∀c∈gs.flatten,c∈U)(hL:∀g∈gs,Loc U (fit g) g):(gs.map fun g=>tl g (fit g)).foldl Pour.JE [1]=tl gs.flatten (jy fit gs):=zkT gs [] nd hU hL
def chZ (n:Nat)(k:Int):Int:=if k<0 then 0 else (Choose.ch n k.toNat:Nat)
def dl (xs:List Int)(m:Nat)(s:Int):Int:=Pour.S (fun k=>Pour.F xs k*chZ m (s-(k:Nat))) xs.length
theorem zjo (g:Nat->Int){a b:Nat}(ha:∀i,a<=i->g i=0)(hb:∀i,b<=i->g i=0):Pour.S g a=Pour.S g b:=by
 by_cases h:a<=b
 ·exact(Pour.zkO h fun i h1 _=>ha i h1).symm
 ·exact Pour.zkO (by lia) fun i h1 _=>hb i h1
theorem zlA {A far:List α}{P pA:List α->Bool}(h:∀a∈subs A,∀b∈subs far,P (a++b)=pA a)(s:Nat):dl (tl A pA) far.length (s:Nat)=(T (A++far) P s:Int):=by
 rw[zjn (pB:=fun _=>true) (fun a ha b hb=>by rw[h a ha b hb,Tv]) s];unfold dl;rw[jx];rw[zjo (fun k=>Pour.F (tl A pA) k*chZ far.length ((s:Int)-(k:Nat))) (a:=A.length+1) (b:=s+1) (fun i hi=>by rw[zfW,zbp (by lia)];simp) (fun i hi=>by
  unfold chZ;rw[if_pos (by lia),OH])]
 refine Pour.Ju _ fun i hi=>?_;show Pour.F (tl A pA) i*chZ far.length ((s:Int)-(i:Nat))=_;rw[zfW,zeG];unfold chZ;rw[if_neg (by lia),show ((s:Int)-(i:Nat)).toNat=s-i by lia]
theorem zkU [DecidableEq α]{A far:List α}{P pA:List α->Bool}{c:α}(hc:c∈far)(nd:far.Nodup)(h:∀a∈subs A,∀b∈subs far,P (a++b)=(pA a&&decide (c∈b)))(s:Nat):dl (tl A pA) (far.length-1) ((s:Nat)-1)=(T (A++far) P s:Int):=by
 rw[zjn h s];unfold dl;rw[jx];rw[zjo (fun k=>Pour.F (tl A pA) k*chZ (far.length-1) ((s:Int)-1-(k:Nat))) (a:=A.length+1) (b:=s+1) (fun i hi=>by rw[zfW,zbp (by lia)];simp) (fun i hi=>by
  unfold chZ;rw[if_pos (by lia),OH])]
 refine Pour.Ju _ fun i hi=>?_;show Pour.F (tl A pA) i*chZ (far.length-1) ((s:Int)-1-(i:Nat))=_;rw[zfW,zmD hc nd];unfold chZ;by_cases e:s-i=0
 ·rw[if_pos (by lia),if_pos e];rfl
 ·rw[if_neg (by lia),if_neg e,show ((s:Int)-1-(i:Nat)).toNat=s-i-1 by lia]
theorem Yv {cs:List α}{p:List α->Bool}(h:∀S∈subs cs,p S=false)(k:Nat):T cs p k=0:=VP.mpr fun S hS hh=>by
 rw[h S hS,R0] at hh;cases hh
theorem zgY (cs:List α)(p:List α->Bool):Cnt.xj cs.length ((subs cs).filter p)=tl cs p:=by
 unfold Cnt.xj tl T;refine Xi fun k _=>?_;rw[List.countP_filter]
theorem zeH {β:Type}(g:Nat)(f:List α->List β)(hf:∀k,(f k).length=k.length)(ks:List (List α)):Cnt.xj g (ks.map f)=Cnt.xj g ks:=by
 unfold Cnt.xj;refine Xi fun n _=>?_;rw[Sj];congr 1;refine UK fun k _=>?_;show decide ((f k).length=n)=true↔_;rw[hf]
variable {α β:Type}
end Tally
namespace Col
open Subs
variable {α:Type}
def bin:Nat->Nat->Nat
 | _,0=>1
 | 0,_+1=>0
 | m+1,v+1=>bin m v+bin m (v+1)
theorem zbs (m:Nat):bin m 0=1:=by cases m<;>rfl
def yU (f:Nat->Nat):Nat->Nat
 | 0=>1
 | n+1=>yU f n*f n
theorem jZ {f g:Nat->Nat}:∀{n:Nat},(∀k,k<n->f k=g k)->yU f n=yU g n
 | 0,_=>rfl
 | n+1,h=>by
  show yU f n*f n=yU g n*g n;rw[jZ fun k hk=>h k (by lia),h n (by lia)]
theorem zcL {f g h:Nat->Nat}{j:Nat}:∀{n:Nat},j<n->(∀k,k<n->k≠j->f k=g k/\f k=h k)->f j=g j+h j->yU f n=yU g n+yU h n
 | 0,hj,_,_=>by lia
 | n+1,hj,hk,e=>by
  show yU f n*f n=yU g n*g n+yU h n*h n;by_cases hjn:j=n
  ·subst hjn;rw[e,Nat.mul_add,jZ (f:=g) (g:=f) fun k hk'=>(hk k (by lia) (by lia)).1.symm,jZ (f:=h) (g:=f) fun k hk'=>(hk k (by lia) (by lia)).2.symm]
  ·rw[zcL (n:=n) (by lia) (fun k h1 h2=>hk k (by lia) h2) e,Nat.add_mul,(hk n (by lia) (Vy hjn)).1.symm,(hk n (by lia) (Vy hjn)).2.symm]
theorem zbt {f:Nat->Nat}{j:Nat}:∀{n:Nat},j<n->f j=0->yU f n=0
 | 0,hj,_=>by lia
 | n+1,hj,e=>by
  show yU f n*f n=0;by_cases hjn:j=n
  ·subst hjn;rw[e,Nat.mul_zero]
  ·rw[zbt (by lia) e,Nat.zero_mul]
theorem zcM:∀n:Nat,yU (fun _=>1) n=1
 | 0=>rfl
 | n+1=>by
  show yU (fun _=>1) n*1=1;rw[zcM n]
def QF (f:Nat->Int):Nat->Int
 | 0=>0
 | n+1=>QF f n+f n
theorem zbu {f g:Nat->Int}:∀{n:Nat},(∀k,k<n->f k=g k)->QF f n=QF g n
 | 0,_=>rfl
 | n+1,h=>by
  show QF f n+f n=QF g n+g n;rw[zbu fun k hk=>h k (by lia),h n (by lia)]
theorem zcN:∀n:Nat,QF (fun _=>0) n=0
 | 0=>rfl
 | n+1=>by
  show QF (fun _=>0) n+0=0;rw[zcN n];rfl
theorem zeI {f g:Nat->Int}{j:Nat}{z:Int}:∀{n:Nat},j<n->(∀k,k<n->k≠j->f k=g k)->f j=g j+z->QF f n=QF g n+z
 | 0,hj,_,_=>by lia
 | n+1,hj,hk,e=>by
  show QF f n+f n=QF g n+g n+z;by_cases hjn:j=n
  ·subst hjn;rw[e,zbu (f:=f) (g:=g) fun k h=>hk k (by lia) (by lia)];lia
  ·rw[zeI (n:=n) (by lia) (fun k h1 h2=>hk k (by lia) h2) e,hk n (by lia) (Vy hjn)];lia
theorem zcO (f:Nat->Int):∀n:Nat,((WO n).map f).sum=QF f n
 | 0=>rfl
 | n+1=>by
  rw[Sh,Xf,Sg,zcO f n];show _+(f n+0)=_;rw[SZ];rfl
def cnt (κ:α->Nat)(p:List α)(k:Nat):Nat:=p.countP fun x=>decide (κ x=k)
theorem jH (κ:α->Nat)(p:List α)(c:α)(k:Nat):cnt κ (p++[c]) k=cnt κ p k+if κ c=k then 1 else 0:=by
 unfold cnt;rw[Uj,Py];by_cases h:κ c=k
 ·simp[h]
 ·simp[h]
def hits (κ:α->Nat)(n:Nat)(v:Nat->Nat)(p:List α):Bool:=(WO n).all fun k=>decide (cnt κ p k=v k)
theorem Ja {κ:α->Nat}{n:Nat}{v:Nat->Nat}{p:List α}:hits κ n v p=true ↔ ∀k,k<n->cnt κ p k=v k:=by
 unfold hits;rw[WD];exact⟨fun h k hk=>of_decide_eq_true (h k (Wv.mpr hk)),fun h k hk=>decide_eq_true (h k (Wv.mp hk))⟩
theorem zeJ (S:List (List α))(c:α)(P:List α->Bool):(step S c).countP P=S.countP P+S.countP fun p=>P (p++[c]):=by
 unfold step;rw[Uj,Sj];rfl
theorem many {κ:α->Nat}{n:Nat}:∀(m:Nat) (l:List α) (v:Nat->Nat),l.length=m->(∀x∈l,κ x<n)->(subs l).countP (hits κ n v)=yU (fun k=>bin (cnt κ l k) (v k)) n:=by
 intro m;induction m with
 | zero =>
  intro l v hl _;have e:l=[]:=Vt.mp hl;subst e;show [([]:List α)].countP _=_;rw[Py];by_cases h:∀k,k<n->v k=0
  ·have hh:hits κ n v ([]:List α)=true:=Ja.mpr fun k hk=>(h k hk).symm;rw[if_pos hh];have:∀k,k<n->bin (cnt κ ([]:List α) k) (v k)=1:=fun k hk=>by rw[h k hk,zbs]
   rw[jZ this,zcM]
  ·have ⟨j,hj⟩:=Classical.not_forall.mp h;have ⟨hj1,hj2⟩:=Classical.not_imp.mp hj;have hh:¬ hits κ n v ([]:List α)=true:=fun z=>hj2 (Ja.mp z j hj1).symm;rw[if_neg hh,zbt hj1];show bin 0 (v j)=0;cases e:v j with
   | zero=>exact absurd e hj2
   | succ z=>rfl
 | succ m ih =>
  intro l v hl hκ;have hne:l ≠ []:=fun e=>by rw[e] at hl;cases hl
  obtain⟨r,c,rfl⟩:∃r c,l=r++[c]:=⟨l.dropLast,l.getLast hne,(Se hne).symm⟩;have hr:r.length=m:=by
   rw[XZ] at hl;exact Nat.succ.inj hl
  have hκr:∀x∈r,κ x<n:=fun x hx=>hκ x (Xd _ hx);have hc:κ c<n:=hκ c (XJ _ XU);rw[zcH,zeJ,ih r v hr hκr];have e2:∀w:Nat->Nat,(∀k,w k=v k-if κ c=k then 1 else 0)->v (κ c)≠0->(fun p=>hits κ n v (p++[c]))=hits κ n w:=fun w hw hv=>by
   funext p;rw[WM,Ja,Ja];constructor
   ·intro h k hk;have:=h k hk;rw[jH] at this;rw[hw];lia
   ·intro h k hk;have:=h k hk;rw[jH,this,hw];split
    ·rename_i e;rw[<- e];lia
    ·lia
  cases hv:v (κ c) with
  | zero =>
   have e3:(subs r).countP (fun p=>hits κ n v (p++[c]))=0:=by
    rw[VP];intro p _ h;have:=Ja.mp h (κ c) hc;rw[jH,hv,if_pos rfl] at this;lia
   rw[e3,TR];refine jZ fun k hk=>?_;rw[jH];by_cases e:κ c=k
   ·subst e;rw[hv,zbs,zbs]
   ·rw[if_neg e,TR]
  | succ z =>
   rw[e2 (fun k=>v k-if κ c=k then 1 else 0) (fun _=>rfl) (by lia),ih r _ hr hκr];refine(zcL (j:=κ c) hc (fun k hk hne=>?_) ?_).symm
   ·rw[jH,if_neg (Vy hne),TR,OI];exact⟨rfl,rfl⟩
   ·rw[jH,if_pos rfl,hv,Tf];show bin _ z+bin _ (z+1)=_;rw[Nat.add_comm]
theorem zbv:∀(cs:List α) (b:Nat),(pick cs b).Sublist cs
 | [],_=>List.Sublist.slnil
 | c::r,b=>by
  show ((if b%2=1 then [c] else [])++pick r (b/2)).Sublist (c::r);split
  ·exact(zbv r _).cons_cons c
  ·exact(zbv r _).cons c
theorem zeK {l p:List α}(h:p∈subs l):p.Sublist l:=by
 rw[Yt] at h;obtain⟨b,_,rfl⟩:=XB.mp h;exact zbv l b
theorem zgZ {κ:α->Nat}{n:Nat}:∀{p:List α},(∀x∈p,κ x<n)->((p.length:Nat):Int)=QF (fun k=>((cnt κ p k:Nat):Int)) n
 | [],_=>by
  show 0=QF (fun _=>0) n;exact(zcN n).symm
 | c::r,h=>by
  have a:∀k,k<n->k ≠ κ c->((cnt κ (c::r) k:Nat):Int)=((cnt κ r k:Nat):Int):=fun k _ hk=>by
   unfold cnt;rw[List.countP_cons_of_neg (by simpa using Vy hk)]
  have b:((cnt κ (c::r) (κ c):Nat):Int)=((cnt κ r (κ c):Nat):Int)+1:=by
   unfold cnt;rw[List.countP_cons_of_pos (by simp)];rfl
  rw[zeI (f:=fun k=>((cnt κ (c::r) k:Nat):Int)) (g:=fun k=>((cnt κ r k:Nat):Int)) (h c XU) a b,<- zgZ fun x hx=>h x (XX _ hx)];rfl
def zmE (n:Nat->Int)(W:Nat)(c:Nat->Nat):Prop:=∀k,k<W->((((if k=0 then 0 else c (k-1))+c k+c (k+1):Nat)):Int)=n k
end Col
namespace K35
open PySem L2
variable {P:Xl}{w:W3}{K:X6}{mg:Str->Option X9}{base:Heap}{f:Addr}{fd:Xk}
abbrev top (i:Nat):Stmt:=zaV.top i
abbrev JY:Stmt:=top 14
abbrev qB:Stmt:=top 15
abbrev yc:Stmt:=top 16
abbrev yV:Stmt:=top 17
abbrev qI:Stmt:=top 18
abbrev qO:Stmt:=top 19
abbrev zaS:Stmt:=top 21
abbrev JZ:Stmt:=top 22
abbrev zeL:Stmt:=top 23
abbrev yd:Stmt:=top 24
abbrev jF:Stmt:=top 25
abbrev qv:Stmt:=top 26
abbrev qJ:Stmt:=top 29
abbrev Jb:Stmt:=top 30
abbrev J0:Stmt:=top 31
abbrev yJ:Stmt:=top 32
abbrev J1:Stmt:=top 33
abbrev ye:Stmt:=top 34
abbrev Yw:Stmt:=top 36
abbrev QG:Stmt:=top 37
abbrev jI:Stmt:=top 39
abbrev zaT:Stmt:=top 40
abbrev Zx:Stmt:=top 41
abbrev qE:Stmt:=top 42
abbrev xH:Stmt:=top 43
abbrev QH:Stmt:=top 44
abbrev yK:Stmt:=top 46
abbrev Jv:Stmt:=top 47
abbrev yL:Stmt:=top 48
abbrev yx:Stmt:=top 49
abbrev Jw:Stmt:=top 50
abbrev Yx:Stmt:=top 51
abbrev Zy:Stmt:=top 52
abbrev zcP:Stmt:=top 53
structure Txt (mg:Str->Option X9):Prop where
 zdH:mg "ValueError"=none
 zjp:mg "any"=none
 zmF:mg "bool"=none
 zjq:mg "dict"=none
 jz:mg "enumerate"=none
 zlB:mg "int"=none
 qa:mg "isinstance"=none
 yj:mg "len"=none
 zjr:mg "list"=none
 zeM:mg "max"=none
 zg0:mg "min"=none
 xJ:mg "range"=none
 znO:mg "set"=none
 zbw:mg "sorted"=none
 zlC:mg "str"=none
 zeN:mg "sum"=none
 znP:mg "zip"=none
 JF:∃t,mg "CLOSED_SIGN"=some (.str "?" t)
 zbx:∃t,mg "MOST_OF_PART"=some (.int 14 t)
 Z9:∃t,mg "NO_CELL_SIGN"=some (.str "#" t)
structure Prog (K:X6)(mg:Str->Option X9):Prop where
 closed:∃(f:Addr) (fd:Xk),zo K mg "closed" JY ["board"] f fd
 open_cells:∃(f:Addr) (fd:Xk),zo K mg "open_cells" qB ["board"] f fd
 around:∃(f:Addr) (fd:Xk),zo K mg "around" yc ["board","cell"] f fd
 number_at:∃(f:Addr) (fd:Xk),zo K mg "number_at" yV ["board","cell"] f fd
 cells_of:∃(f:Addr) (fd:Xk),zo K mg "cells_of" qI ["board"] f fd
 sign_at:∃(f:Addr) (fd:Xk),zo K mg "sign_at" qO ["board","cell"] f fd
 parts:∃(f:Addr) (fd:Xk),zo K mg "parts" zaS ["board"] f fd
 joined:∃(f:Addr) (fd:Xk),zo K mg "joined" JZ ["groups","cells"] f fd
 far:∃(f:Addr) (fd:Xk),zo K mg "far" zeL ["board"] f fd
 numbers_of:∃(f:Addr) (fd:Xk),zo K mg "numbers_of" yd ["board","part"] f fd
 bare_wrong:∃(f:Addr) (fd:Xk),zo K mg "bare_wrong" jF ["board"] f fd
 closed_around:∃(f:Addr) (fd:Xk),zo K mg "closed_around" qv ["board","cell"] f fd
 part_layings:∃(f:Addr) (fd:Xk),zo K mg "part_layings" qJ ["board","part"] f fd
 needs_at:∃(f:Addr) (fd:Xk),zo K mg "needs_at" Jb ["told","cell","rest"] f fd
 may_fit:∃(f:Addr) (fd:Xk),zo K mg "may_fit" J0 ["needs","pick"] f fd
 part_counts:∃(f:Addr) (fd:Xk),zo K mg "part_counts" yJ ["board","part"] f fd
 counted:∃(f:Addr) (fd:Xk),zo K mg "counted" J1 ["found","greatest"] f fd
 counted_at:∃(f:Addr) (fd:Xk),zo K mg "counted_at" ye ["found","greatest","cell"] f fd
 choices:∃(f:Addr) (fd:Xk),zo K mg "choices" Yw ["n","k"] f fd
 poured:∃(f:Addr) (fd:Xk),zo K mg "poured" QG ["one","other"] f fd
 near_counts:∃(f:Addr) (fd:Xk),zo K mg "near_counts" jI ["board"] f fd
 count:∃(f:Addr) (fd:Xk),zo K mg "count" zaT ["board"] f fd
 count_at:∃(f:Addr) (fd:Xk),zo K mg "count_at" Zx ["board","cell"] f fd
 counts_by_cell:∃(f:Addr) (fd:Xk),zo K mg "counts_by_cell" qE ["board"] f fd
 all_poured:∃(f:Addr) (fd:Xk),zo K mg "all_poured" xH ["lists"] f fd
 dealt:∃(f:Addr) (fd:Xk),zo K mg "dealt" QH ["counts","cells","stones"] f fd
 law_cell_at:∃(f:Addr) (fd:Xk),zo K mg "_law_cell_at" yK ["_law_script","_law_k"] f fd
 law_whole:∃(f:Addr) (fd:Xk),zo K mg "_law_whole" Jv ["_law_found"] f fd
 law_outcome:∃(f:Addr) (fd:Xk),zo K mg "_law_outcome" yL ["_law_error"] f fd
 law_rows:∃(f:Addr) (fd:Xk),zo K mg "_law_rows" yx ["_law_script"] f fd
 law_texts:∃(f:Addr) (fd:Xk),zo K mg "_law_texts" Jw ["_law_script","_law_columns","_law_numbers"] f fd
 law_due:∃(f:Addr) (fd:Xk),zo K mg "_law_due" Yx ["_law_columns","_law_numbers"] f fd
 law_told:∃(f:Addr) (fd:Xk),zo K mg "_law_told" Zy ["_law_way","_law_board"] f fd
def zby (K:X6):Sp:=fun vs H Q _=>∃(a:Addr) (ns:List Int) (k:Int),vs=[.ref a,.int k]/\SqL K H a (ns.map V.int)/\0<=k/\∀z:Int,Q (.int z) H
structure Row (signs:List Nat)(n:Nat)(t:Str):Prop where
 len:t.cps.size=n
 mem:∀c∈t.cps.toList,c∈signs
structure Rows (signs:List Nat)(rs:List Str):Prop where
 lo:1<=rs.length
 hi:rs.length<=8
 ex:∃n,1<=n/\n<=8/\∀t∈rs,Row signs n t
def bd:Str:="?012345678#"
theorem zbz:zF ["_law_script","_law_k"] ["_law_script","_law_k"] (zh yK):=⟨rfl,rfl,rfl,by decide +kernel,rfl,by decide +kernel,by decide +kernel⟩
theorem Jc (T:Txt mg)(D:zo K mg "_law_cell_at" yK ["_law_script","_law_k"] f fd):qi P w K mg base CX0 1 f fd ["_law_script","_law_k"] (zby K):=by
 refine D.F.ok zbz (fun vs H Q E h=>?_) (fun cdv A outer s H vs Q E hr h=>?_)
 ·obtain⟨a,ns,i,rfl,_⟩:=h;rfl
 ·obtain⟨a,ns,i,rfl,hS,hi,k⟩:=h;refine⟨_,(ze (jt (zU zi7 (pvS 1) (zp zJ (by rfl) T.yj Wt (za (pvS 0) zc)) (qc _)) (zg (zH (qw jj (pvS 0) (pvS 1) (fun _ _=>rfl)))) qt) (@zg _ _ _ (@zH _ _ _ _ zf))),?_⟩;refine⟨_,rfl,_,rfl,a,_,rfl,.inl hS,_,_,rfl,rfl,_,rfl,?_⟩;refine zhr (fun c=>?_) (fun c=>?_)
  ·have c':i<((ns.map V.int).length:Nat):=of_decide_eq_true c;rw[Y1] at c';have hl:i.toNat<ns.length:=by lia
   refine⟨_,rfl,_,rfl,a,_,i,.int ns[i.toNat],rfl,rfl,hS,za0 hi (by rw[Xn,X4 hl];rfl),?_⟩;exact k _
  ·exact k 0
structure qC (H:Hp)(p l:Addr)(rs:List Str)(n:Int):Prop where
 tp:H p=some (.tup [.ref l,.int n])
 rw:H l=some (.lst (rs.map V.str))
theorem zjs:∀c∈bd.cps.toList,c<1114112:=by decide +kernel
theorem zkV {n:Nat}{t:Str}(r:Row bd.cps.toList n t):SW (.str t)=true:=by
 show t.cps.all (· < 0x110000)=true;rw[Array.all_eq_true'];intro c hc;exact decide_eq_true (zjs c (r.mem c (TZ.mpr hc)))
theorem zeO {rs:List Str}{n:Nat}(h:∀t∈rs,Row bd.cps.toList n t):VD (rs.map Ur)=true:=by
 induction rs with
 | nil=>rfl
 | cons t r ih =>
  show (SW (.str t)&&VD (r.map Ur))=true;rw[zkV (h t XU),ih fun u hu=>h u (XX _ hu)];rfl
theorem zfZ (rs:List Str):Vi (rs.map Ur)=0:=by
 induction rs with
 | nil=>rfl
 | cons t r ih =>
  show max (PyData.depth (.str t)) (Vi (r.map Ur))=0;rw[ih];rfl
theorem Rows.cmp {rs:List Str}(R:Rows bd.cps.toList rs):zit (.list (rs.map Ur)) (.list (rs.map Ur)):=by
 obtain⟨n,_,_,h⟩:=R.ex;refine⟨zeO h,zeO h,?_⟩;show Vi (rs.map Ur)+1<=64;rw[zfZ];decide
theorem qC.mono {H H':Hp}{p l:Addr}{rs:List Str}{n:Int}(b:qC H p l rs n)(s:zq H H'):qC H' p l rs n:=⟨s _ _ b.tp,s _ _ b.rw⟩
def codes (rs:List Str):List (List Nat):=rs.map fun t=>t.cps.toList
theorem j3 {rs:List Str}{i:Nat}{t:Str}(h:rs[i]?=some t):(codes rs)[i]?=some t.cps.toList:=by
 unfold codes;rw[Xn,h];rfl
theorem zag {rs:List Str}{i:Nat}{u:List Nat}(h:(codes rs)[i]?=some u):∃t,rs[i]?=some t/\u=t.cps.toList:=by
 unfold codes at h;rw[Xn] at h;cases e:rs[i]? with
 | none =>
  rw[e] at h;cases h
 | some t =>
  rw[e] at h;cases h;exact⟨t,rfl,rfl⟩
theorem qP (rs:List Str):(codes rs).length=rs.length:=by
 unfold codes;rw[Y1]
theorem Rows.short {s:List Nat}{rs:List Str}(R:Rows s rs):∀u∈codes rs,u.length<=8:=fun u hu=>by
 obtain⟨t,ht,rfl⟩:=XB.mp hu;obtain⟨n,_,h8,q⟩:=R.ex;have:=(q t ht).len;rw[X5];lia
theorem Rows.tlen {s:List Nat}{rs:List Str}{i:Nat}{t:Str}(R:Rows s rs)(h:rs[i]?=some t):t.length<=XC:=by
 obtain⟨n,_,h8,q⟩:=R.ex;have e:t.length=n:=(q t (X0 h)).len;rw[e];exact XV h8 (by decide)
def J2 (H:Hp)(v:V)(c:Nat×Nat):Prop:=∃a,v=V.ref a/\H a=some (.tup [.int (c.1:Nat),.int (c.2:Nat)])
def Cel (H:Hp):List V->List (Nat×Nat)->Prop:=W9 (J2 H)
theorem Cel.mono {H H':Hp}(s:zq H H'){vs:List V}{cs:List (Nat×Nat)}(hp:Cel H vs cs):Cel H' vs cs:=by
 induction hp with
 | nil=>exact .nil
 | cons q _ ih =>
  obtain⟨a,e,h⟩:=q;exact .cons ⟨a,e,s _ _ h⟩ ih
theorem Cel.snoc {H:Hp}{vs:List V}{cs:List (Nat×Nat)}{v:V}{c:Nat×Nat}(h:Cel H vs cs)(x:J2 H v c):Cel H (vs++[v]) (cs++[c]):=Paired.snoc h x
theorem Cel.append {H:Hp}{vs ws:List V}{cs ds:List (Nat×Nat)}(h:Cel H vs cs)(k:Cel H ws ds):Cel H (vs++ws) (cs++ds):=za4 h k
theorem Cel.into {H:Hp}(z:Addr)(o:HO){old:List V}(hz:H z=some (.lst old)){vs:List V}{cs:List (Nat×Nat)}(hp:Cel H vs cs):Cel (upd H z o) vs cs:=by
 induction hp with
 | nil=>exact .nil
 | cons q _ ih =>
  obtain⟨a,e,h⟩:=q;exact .cons ⟨a,e,by rw[zj (zd0 h hz (by intro y;cases y))];exact h⟩ ih
theorem Cel.length {H:Hp}{vs:List V}{cs:List (Nat×Nat)}(h:Cel H vs cs):vs.length=cs.length:=Paired.length h
theorem Cel.get {H:Hp}:∀{vs:List V} {cs:List (Nat×Nat)} {i:Nat} {v:V},Cel H vs cs->vs[i]?=some v->∃c,cs[i]?=some c/\J2 H v c
 | _,_,_,_,.nil,e=>by simp at e
 | _,_,0,_,.cons r _,e=>by
  simp at e;subst e;exact⟨_,rfl,r⟩
 | _,_,i+1,v,.cons _ t,e=>by
  obtain⟨c,h1,h2⟩:=Cel.get (i:=i) (v:=v) t (by simpa using e);exact⟨c,by simpa using h1,h2⟩
def zu (c:Nat×Nat):Wa:=.tuple [.int (c.1:Nat),.int (c.2:Nat)]
theorem J2.rdv {K:X6}{H:Hp}{v:V}{c:Nat×Nat}(h:J2 H v c):Rdv K H v (zu c):=by
 obtain⟨a,rfl,h⟩:=h;exact .tup (SqT.of h) (.cons (.int _) (.cons (.int _) .nil))
theorem zhZ (c d:Nat×Nat):zit (zu c) (zu d):=⟨rfl,rfl,by show max 0 (max 0 0)+1<=64;decide⟩
theorem zcQ (c d:Nat×Nat):WI (zu c) (zu d)=decide (c=d):=by
 obtain⟨a,b⟩:=c;obtain⟨x,y⟩:=d;show ((((a:Nat):Int)==((x:Nat):Int))&&((((b:Nat):Int)==((y:Nat):Int))&&true))=decide ((a,b)=(x,y));by_cases h1:a=x
 ·by_cases h2:b=y
  ·subst h1 h2;simp
  ·have:¬ ((b:Int)=(y:Int)):=by lia
   simp[h2,this]
 ·have:¬ ((a:Int)=(x:Int)):=by lia
  simp[h1,this]
theorem zbA (c k:Nat):(V.str ⟨#[c]⟩=V.str ⟨#[k]⟩)=(c=k):=by
 apply propext;constructor
 ·intro h;have h2:(⟨#[c]⟩:Str)=⟨#[k]⟩:=V.str.inj h;have h3:(#[c]:Array Nat)=#[k]:=congrArg Str.cps h2;simpa using h3
 ·rintro rfl;rfl
theorem Qp:("#":Str)=⟨#[35]⟩:=by decide +kernel
theorem zf0:("?":Str)=⟨#[63]⟩:=by decide +kernel
def z9 (c:Nat):Bool:=!decide (c=35)
def J3 (c:Nat):Bool:=decide (c=63)
def Yb (c:Nat):Bool:=z9 c && !decide (c=63)
def zmG:Sp:=fun vs H Q _=>∃(p l c:Addr) (rs:List Str) (n:Int) (i j:Nat) (t:Str) (k:Nat),vs=[.ref p,.ref c]/\qC H p l rs n/\H c=some (.tup [.int (i:Nat),.int (j:Nat)])/\rs[i]?=some t/\t.cps.toList[j]?=some k/\t.length<=XC/\Q (.str ⟨#[k]⟩) H
def zf1 (p:Nat->Bool):Sp:=fun vs H Q _=>∃(a l:Addr) (rs:List Str) (n:Int),vs=[.ref a]/\qC H a l rs n/\Rows bd.cps.toList rs /\
 ∀(d:Addr) (ws:List V) (H':Hp),H d=none->H' d=some (.lst ws)->Cel H' ws (Cells.zK p 0 (codes rs))->zq H H'->Q (.ref d) H'
def zjt:Sp:=fun vs H Q _=>∃(p l c:Addr) (rs:List Str) (n:Int) (i j:Nat) (t:Str) (k:Nat),vs=[.ref p,.ref c]/\qC H p l rs n/\H c=some (.tup [.int (i:Nat),.int (j:Nat)])/\rs[i]?=some t/\t.cps.toList[j]?=some k/\t.length<=XC/\48<=k/\k<=56/\Q (.int ((k:Int)-48)) H
theorem int_sign {k:Nat}(h1:48<=k)(h2:k<=56):Pn ⟨#[k]⟩=some ((k:Int)-48):=by
 have:∀k∈WO 57,48<=k->Pn ⟨#[k]⟩=some ((k:Int)-48):=by decide +kernel
 exact this k (Wv.mpr (by lia)) h1
theorem zf2:zF ["board","cell"] ["board","cell"] (zh qO):=⟨rfl,rfl,rfl,by decide +kernel,rfl,by decide +kernel,by decide +kernel⟩
theorem Zz (D:zo K mg "sign_at" qO ["board","cell"] f fd):qi P w K mg base CX0 1 f fd ["board","cell"] zmG:=by
 refine D.F.ok zf2 (fun vs H Q E h=>?_) (fun cdv A outer s H vs Q E hr h=>?_)
 ·obtain⟨p,l,c,rs,n,i,j,t,k,rfl,_⟩:=h;rfl
 ·obtain⟨p,l,c,rs,n,i,j,t,k,rfl,b,hc,hi,hj,hl,q⟩:=h;refine⟨_,(zg (zH (qw zgT (qw jj (qw qR (pvS 0) zf (fun _ _=>rfl)) (qw qR (pvS 1) zf (fun _ _=>rfl)) (fun _ _=>rfl)) (qw qR (pvS 1) zf (fun _ _=>rfl)) (fun _ _=>rfl)))),?_⟩;exact⟨_,rfl,p,_,0,_,rfl,rfl,SqT.of b.tp,rfl,_,rfl,c,_,0,_,rfl,rfl,SqT.of hc,rfl,l,_,_,_,rfl,rfl,SqL.of b.rw,xF (v:=V.str t) (by rw[Xn,hi];rfl),_,rfl,c,_,1,_,rfl,rfl,SqT.of hc,rfl,t,_,k,rfl,rfl,hl,xF hj,q⟩
theorem Jx:zF ["board","found","row","text"] ["board"] (zh qI):=⟨rfl,rfl,rfl,by decide +kernel,rfl,by decide +kernel,by decide +kernel⟩
theorem zax (T:Txt mg)(D:zo K mg "cells_of" qI ["board"] f fd):qi P w K mg base CX0 1 f fd ["board"] (zf1 z9):=by
 refine D.F.ok Jx (fun vs H Q E h=>?_) (fun cdv A outer s H vs Q E hr h=>?_)
 ·obtain⟨a,l,rs,n,rfl,_⟩:=h;rfl
 ·obtain⟨a,l,rs,n,rfl,b,R,q⟩:=h;refine⟨_,(@ze _ _ _ _ _ (@zC _ _ 1 _ _ _ _ Jx.nd rfl (Xy rfl) (@zY _ _ _ _ zc) (by rfl) (.inr rfl)) (ze (qy WT rfl (JM (by rfl) T.jz (za (qw qR (pvS 0) zf (fun _ _=>rfl)) zc)) (yq rfl (zI (zm (i:=2) Jx.nd rfl (SF rfl)) (zI (zm (i:=3) Jx.nd rfl (Xy rfl)) ja))) (zg (xD (ZK Ww Ro Rn zco (pvS 1) (za (qL (N:=["column","sign","row"]) (src:=[none,none,some 2]) (zT.free (O:=(zh qI).names) (XN:=["board","found","row","text"]) rfl rfl ⟨_,rfl⟩ rfl rfl (by decide +kernel) (by decide +kernel) (by decide +kernel) rfl (by decide +kernel)) rfl (ziw (by rfl) T.jz (za (pvS 3) zc)) (fun _ _ _ _ _=>(zdn (n:=2) (K:=K) (by rfl) rfl (zI (zm (i:=0) (by show W2 (["column","sign","row"]:List Str);decide +kernel) rfl (Xy rfl)) (zI (zm (i:=1) (by show W2 (["column","sign","row"]:List Str);decide +kernel) rfl (Xy rfl)) ja)))) (fun _ _ _ _ _=>(jh (zU zd2 (pvS 1) (qZ (v:=.str "#") (by rfl) T.Z9.choose_spec (by exact⟨_,rfl⟩)) (qc _)))) (fun _ _ _ _ _=>(jN (za (pvS 2) (za (pvS 0) zc))))) zc))))) (zg (zH (pvS 1))))),?_⟩;refine⟨Qw,fun d hd=>?_⟩;have s0:zq H (upd H d (.lst [])):=zd hd;refine⟨_,rfl,a,_,0,_,rfl,rfl,SqT.of (b.mono s0).tp,rfl,l,rfl,⟨_,SqL.of (b.mono s0).rw⟩,?_⟩;refine JN (K:=K) (l:=l) (xs:=rs.map V.str) (fun i σ H'=>∃(v2 v3:Option V) (ws:List V),σ=[some (.ref a),some (.ref d),v2,v3]/\zq H H'/\H' d=some (.lst ws)/\Cel H' ws (Cells.zK z9 0 ((codes rs).take i)))
   ⟨_,_,[],rfl,s0,zb,.nil⟩ (fun i σ H' _ ⟨_,_,_,_,s1,_⟩=>SqL.of (b.mono s1).rw) ?_ ?_
  ·rintro i x tt σ H1 hx htt ⟨v2,v3,ws,rfl,s1,hd1,hc1⟩;rw[Xn] at hx;cases e:rs[i]? with
   | none =>
    rw[e] at hx;cases hx
   | some t =>
    rw[e] at hx;cases hx;have hil:i<rs.length:=(X2.mp e).1;have st:zq H1 (upd H1 tt (.tup [.int (i:Nat),.str t])):=zd htt;refine⟨tt,_,rfl,SqT.of zb,rfl,_,_,rfl,_,_,rfl,rfl,?_⟩;have hd2:upd H1 tt (.tup [.int (i:Nat),.str t]) d=some (.lst ws):=st _ _ hd1;refine⟨_,rfl,.inl ⟨rfl,_,SqL.of hd2⟩,_,rfl,t,rfl,fun z hz=>?_⟩;refine zfB (x:=t) (fun j σ H'=>∃(u0 u1:Option V) (ys:List V),σ=[u0,u1,some (.int (i:Nat))]/\zq (upd H1 tt (.tup [.int (i:Nat),.str t])) H'/\H' z=some (.lst ys)/\Cel H' ys (Cells.zV z9 i 0 (t.cps.toList.take j)))
     ⟨_,_,[],rfl,zd hz,zb,.nil⟩ ?_ ?_
    ·rintro j c t2 σ H2 hc ht2 ⟨u0,u1,ys,rfl,s2,hz2,hc2⟩;refine⟨t2,_,rfl,SqT.of zb,rfl,_,_,rfl,_,_,rfl,rfl,?_⟩;refine⟨_,rfl,rfl,_,rfl,?_⟩;have hc':t.cps.toList[j]?=some c:=by rw[Xx];exact hc
     have s3:zq H2 (upd H2 t2 (.tup [.int (j:Nat),.str ⟨#[c]⟩])):=zd ht2;have step:=Cells.zbl (p:=z9) (i:=i) hc';have ed:(!decide (V.str ⟨#[c]⟩=V.str "#"))=z9 c:=by
      rw[Qp];simp only[zbA];rfl
     rw[ed];by_cases hp:z9 c=true
     ·rw[hp] at step;refine JD hp ?_;refine⟨_,rfl,_,rfl,YV,fun t3 ht3=>?_⟩;have nz3:z≠t3:=zk (s3 _ _ hz2) ht3;have s4:zq (upd H2 t2 (.tup [.int (j:Nat),.str ⟨#[c]⟩])) (upd (upd H2 t2 (.tup [.int (j:Nat),.str ⟨#[c]⟩])) t3 (.tup [.int (i:Nat),.int (j:Nat)])):=zd ht3;have hlen:ys.length<=8:=by
       rw[hc2.length];refine XV (Cells.yb _ _ _ _) ?_;have:=R.short _ (X0 (j3 e));rw[XD];lia
      refine⟨ys,s4 _ _ (s3 _ _ hz2),Xe hlen (by decide),some (.int (j:Nat)),some (.str ⟨#[c]⟩),ys++[.ref t3],rfl,fun b' o e'=>?_,zb,?_⟩
      ·have hb:b'≠z:=fun y=>by
        subst y;rw[hz] at e';cases e'
       rw[zj hb];exact s4 _ _ (s3 _ _ (s2 _ _ e'))
      ·rw[step];have keep:∀x o,x≠z->upd (upd H2 t2 (.tup [.int (j:Nat),.str ⟨#[c]⟩])) t3 (.tup [.int (i:Nat),.int (j:Nat)]) x=some o->upd (upd (upd H2 t2 (.tup [.int (j:Nat),.str ⟨#[c]⟩])) t3 (.tup [.int (i:Nat),.int (j:Nat)])) z (.lst (ys++[.ref t3])) x=some o:=fun x o hx e'=>by
        rw[zj hx];exact e'
       refine Cel.snoc ?_ ⟨t3,rfl,keep _ _ nz3.symm zb⟩;exact Cel.into z (.lst (ys++[.ref t3])) (s4 _ _ (s3 _ _ hz2)) (Cel.mono s4 (Cel.mono s3 hc2))
     ·have hp':z9 c=false:=by simpa using hp
      rw[hp'] at step;refine Jk hp' ?_;refine⟨some (.int (j:Nat)),some (.str ⟨#[c]⟩),ys,rfl,s2.trans s3,s3 _ _ hz2,?_⟩;rw[step];simpa using Cel.mono s3 hc2
    ·rintro σ H2 ⟨u0,u1,ys,rfl,s2,hz2,hc2⟩;have hne:d≠z:=zk hd2 hz;have hd3:H2 d=some (.lst ws):=s2 _ _ hd2;have full:t.cps.toList.take t.cps.size=t.cps.toList:=by
      rw[<- X5,Xq]
     rw[full] at hc2;have step:=Cells.zbm (p:=z9) (j3 e);have l1:ws.length<=64:=by
      rw[hc1.length];refine XV (Cells.jD _ _ _ fun u hu=>R.short u (V1 hu)) ?_;have:=R.hi;rw[XD,qP];lia
     have l2:ys.length<=8:=by
      rw[hc2.length];exact XV (Cells.yb _ _ _ _) (R.short _ (X0 (j3 e)))
     refine⟨d,z,ws,ys,rfl,rfl,hd3,hz2,XV (Nat.add_le_add l1 l2) (by decide),?_⟩;refine⟨_,_,ws++ys,rfl,fun b' o e'=>?_,zb,?_⟩
     ·have hb:b'≠d:=fun y=>by
       subst y;rw[hd] at e';cases e'
      rw[zj hb];exact s2 _ _ (st _ _ (s1 _ _ e'))
     ·rw[step];exact Cel.into d _ hd3 (Cel.append (Cel.mono s2 (Cel.mono st hc1)) hc2)
  ·rintro σ H1 ⟨v2,v3,ws,rfl,s1,hd1,hc1⟩;rw[Y1,<- qP,Xq] at hc1;exact⟨_,rfl,q d ws H1 hd hd1 hc1 s1⟩
theorem zkW (c:Nat):(z9 c&&decide (c=63))=J3 c:=by
 unfold z9 J3;by_cases h:c=63
 ·subst h;rfl
 ·simp[h]
theorem zh0:zF ["board"] ["board"] (zh JY):=⟨rfl,rfl,rfl,by decide +kernel,rfl,by decide +kernel,by decide +kernel⟩
theorem zcR {f1 f2:Addr}{fd1 fd2:Xk}(T:Txt mg)(D:zo K mg "closed" JY ["board"] f fd)(zD:zo K mg "cells_of" qI ["board"] f1 fd1)(zx:zo K mg "sign_at" qO ["board","cell"] f2 fd2) :
  qi P w K mg base CX0 2 f fd ["board"] (zf1 J3):=by
 refine D.F.ok zh0 (fun vs H Q E h=>?_) (fun cdv A outer s H vs Q E hr h=>?_)
 ·obtain⟨a,l,rs,n,rfl,_⟩:=h;rfl
 ·obtain⟨a,l,rs,n,rfl,b,R,q⟩:=h;refine⟨_,(zg (zH (qL (N:=["cell","board"]) (src:=[none,some 0]) (zT.free (O:=(zh JY).names) (XN:=["board"]) rfl rfl ⟨_,rfl⟩ rfl rfl (by decide +kernel) (by decide +kernel) (by decide +kernel) rfl (by decide +kernel)) rfl (zM (pc0 (zax T zD) hr zD (za (pvS 0) zc))) (fun _ _ _ _ _=>(zm (i:=0) (by show W2 (["cell","board"]:List Str);decide +kernel) rfl (Xy rfl))) (fun _ _ _ _ _=>(jh (zU ZJ (pc0 (Zz zx) hr zx (za (pvS 1) (za (pvS 0) zc))) (qZ (v:=.str "?") (by rfl) T.JF.choose_spec (by exact⟨_,rfl⟩)) (qc _)))) (fun _ _ _ _ _=>(pvS 0))))),?_⟩;refine⟨_,rfl,a,l,rs,n,rfl,b,R,fun d ws H1 hd hd1 hc1 s1=>⟨d,rfl,⟨_,SqL.of hd1⟩,fun z hz=>?_⟩⟩;have nz:d≠z:=zk hd1 hz;refine qW (K:=K) (a:=d) (xs:=ws) (fun i σ H'=>∃(u0:Option V) (ys:List V),σ=[u0,some (.ref a)]/\zq H1 H'/\H' z=some (.lst ys)/\Cel H' ys (((Cells.zK z9 0 (codes rs)).take i).filter fun x=>decide (Cells.sgn (codes rs) x=63)))
   ⟨_,[],rfl,zd hz,zb,.nil⟩ (fun i σ H' _ ⟨_,_,_,s2,_⟩=>SqL.of (s2 _ _ hd1)) ?_ ?_
  ·rintro i x σ H2 hx ⟨u0,ys,rfl,s2,hz2,hc2⟩;obtain⟨c,hci,ca,rfl,hca⟩:=Cel.get (Cel.mono s2 hc1) hx;obtain⟨k0,j,u,k,ec,hk0,hj,hpc⟩:=Cells.jX (X0 hci);obtain⟨t,ht,rfl⟩:=zag hk0;rw[VM] at ec;subst ec;refine⟨_,rfl,_,rfl,a,l,ca,rs,n,k0,j,t,k,rfl,(b.mono s1).mono s2,hca,ht,hj,R.tlen ht,rfl,_,rfl,?_⟩;have es:Cells.sgn (codes rs) (k0,j)=k:=Cells.zdG hk0 hj;have step:((Cells.zK z9 0 (codes rs)).take (i+1)).filter (fun x=>decide (Cells.sgn (codes rs) x=63))=((Cells.zK z9 0 (codes rs)).take i).filter (fun x=>decide (Cells.sgn (codes rs) x=63))++(if decide (k=63)=true then [(k0,j)] else []):=by
    rw[Xm,hci,W6];congr 1;show Oy _ [(k0,j)]=_;rw[Wx];try dsimp only
    rw[es];split<;>rfl
   have ed:decide (V.str ⟨#[k]⟩=V.str "?")=decide (k=63):=by
    rw[zf0];simp only[zbA]
   rw[ed];by_cases hp:decide (k=63)=true
   ·rw[if_pos hp] at step;refine JD hp ?_;have hlen:ys.length<=64:=by
     rw[hc2.length];refine XV (WX _ _) ?_;rw[XD];have h1:=Cells.jD z9 0 (codes rs) R.short;have h2:=R.hi;rw[qP] at h1;lia
    refine⟨_,rfl,ys,hz2,Xe hlen (by decide),_,ys++[.ref ca],rfl,fun b' o e'=>?_,zb,?_⟩
    ·have hb:b'≠z:=fun y=>by
      subst y;rw[hz] at e';cases e'
     rw[zj hb];exact s2 _ _ e'
    ·rw[step];exact Cel.into z _ hz2 (Cel.snoc hc2 ⟨ca,rfl,hca⟩)
   ·rw[if_neg hp] at step;refine Jk (by simpa using hp) ?_;refine⟨_,ys,rfl,s2,hz2,?_⟩;rw[step];simpa using hc2
  ·rintro σ H2 ⟨u0,ys,rfl,s2,hz2,hc2⟩;rw[hc1.length,Xq,Cells.all_filter (p:=z9) (q:=fun k=>decide (k=63)) (codes rs)] at hc2;have hz0:H z=none:=s1.free hz;exact q z ys H2 hz0 hz2 (by rw[Cells.zaw (q:=J3) zkW] at hc2;exact hc2) (s1.trans s2)
theorem zb9:zF ["board"] ["board"] (zh qB):=⟨rfl,rfl,rfl,by decide +kernel,rfl,by decide +kernel,by decide +kernel⟩
theorem yM {f1 f2:Addr}{fd1 fd2:Xk}(T:Txt mg)(D:zo K mg "open_cells" qB ["board"] f fd)(zD:zo K mg "cells_of" qI ["board"] f1 fd1)(zx:zo K mg "sign_at" qO ["board","cell"] f2 fd2) :
  qi P w K mg base CX0 2 f fd ["board"] (zf1 Yb):=by
 refine D.F.ok zb9 (fun vs H Q E h=>?_) (fun cdv A outer s H vs Q E hr h=>?_)
 ·obtain⟨a,l,rs,n,rfl,_⟩:=h;rfl
 ·obtain⟨a,l,rs,n,rfl,b,R,q⟩:=h;refine⟨_,(zg (zH (qL (N:=["cell","board"]) (src:=[none,some 0]) (zT.free (O:=(zh qB).names) (XN:=["board"]) rfl rfl ⟨_,rfl⟩ rfl rfl (by decide +kernel) (by decide +kernel) (by decide +kernel) rfl (by decide +kernel)) rfl (zM (pc0 (zax T zD) hr zD (za (pvS 0) zc))) (fun _ _ _ _ _=>(zm (i:=0) (by show W2 (["cell","board"]:List Str);decide +kernel) rfl (Xy rfl))) (fun _ _ _ _ _=>(jh (zU zd2 (pc0 (Zz zx) hr zx (za (pvS 1) (za (pvS 0) zc))) (qZ (v:=.str "?") (by rfl) T.JF.choose_spec (by exact⟨_,rfl⟩)) (qc _)))) (fun _ _ _ _ _=>(pvS 0))))),?_⟩;refine⟨_,rfl,a,l,rs,n,rfl,b,R,fun d ws H1 hd hd1 hc1 s1=>⟨d,rfl,⟨_,SqL.of hd1⟩,fun z hz=>?_⟩⟩;have nz:d≠z:=zk hd1 hz;refine qW (K:=K) (a:=d) (xs:=ws) (fun i σ H'=>∃(u0:Option V) (ys:List V),σ=[u0,some (.ref a)]/\zq H1 H'/\H' z=some (.lst ys)/\Cel H' ys (((Cells.zK z9 0 (codes rs)).take i).filter fun x=>!decide (Cells.sgn (codes rs) x=63)))
   ⟨_,[],rfl,zd hz,zb,.nil⟩ (fun i σ H' _ ⟨_,_,_,s2,_⟩=>SqL.of (s2 _ _ hd1)) ?_ ?_
  ·rintro i x σ H2 hx ⟨u0,ys,rfl,s2,hz2,hc2⟩;obtain⟨c,hci,ca,rfl,hca⟩:=Cel.get (Cel.mono s2 hc1) hx;obtain⟨k0,j,u,k,ec,hk0,hj,hpc⟩:=Cells.jX (X0 hci);obtain⟨t,ht,rfl⟩:=zag hk0;rw[VM] at ec;subst ec;refine⟨_,rfl,_,rfl,a,l,ca,rs,n,k0,j,t,k,rfl,(b.mono s1).mono s2,hca,ht,hj,R.tlen ht,rfl,_,rfl,?_⟩;have es:Cells.sgn (codes rs) (k0,j)=k:=Cells.zdG hk0 hj;have step:((Cells.zK z9 0 (codes rs)).take (i+1)).filter (fun x=>!decide (Cells.sgn (codes rs) x=63))=((Cells.zK z9 0 (codes rs)).take i).filter (fun x=>!decide (Cells.sgn (codes rs) x=63))++(if (!decide (k=63))=true then [(k0,j)] else []):=by
    rw[Xm,hci,W6];congr 1;show Oy _ [(k0,j)]=_;rw[Wx];try dsimp only
    rw[es];split<;>rfl
   have ed:(!decide (V.str ⟨#[k]⟩=V.str "?"))=(!decide (k=63)):=by
    rw[zf0];simp only[zbA]
   rw[ed];by_cases hp:(!decide (k=63))=true
   ·rw[if_pos hp] at step;refine JD hp ?_;have hlen:ys.length<=64:=by
     rw[hc2.length];refine XV (WX _ _) ?_;rw[XD];have h1:=Cells.jD z9 0 (codes rs) R.short;have h2:=R.hi;rw[qP] at h1;lia
    refine⟨_,rfl,ys,hz2,Xe hlen (by decide),_,ys++[.ref ca],rfl,fun b' o e'=>?_,zb,?_⟩
    ·have hb:b'≠z:=fun y=>by
      subst y;rw[hz] at e';cases e'
     rw[zj hb];exact s2 _ _ e'
    ·rw[step];exact Cel.into z _ hz2 (Cel.snoc hc2 ⟨ca,rfl,hca⟩)
   ·rw[if_neg hp] at step;refine Jk (by simpa using hp) ?_;refine⟨_,ys,rfl,s2,hz2,?_⟩;rw[step];simpa using hc2
  ·rintro σ H2 ⟨u0,ys,rfl,s2,hz2,hc2⟩;rw[hc1.length,Xq,Cells.all_filter (p:=z9) (q:=fun k=>(!decide (k=63))) (codes rs)] at hc2;have hz0:H z=none:=s1.free hz;exact q z ys H2 hz0 hz2 hc2 (s1.trans s2)
theorem zdI:zF ["board","cell"] ["board","cell"] (zh yV):=⟨rfl,rfl,rfl,by decide +kernel,rfl,by decide +kernel,by decide +kernel⟩
theorem QI {f1:Addr}{fd1:Xk}(T:Txt mg)(D:zo K mg "number_at" yV ["board","cell"] f fd)(zx:zo K mg "sign_at" qO ["board","cell"] f1 fd1):qi P w K mg base CX0 2 f fd ["board","cell"] zjt:=by
 refine D.F.ok zdI (fun vs H Q E h=>?_) (fun cdv A outer s H vs Q E hr h=>?_)
 ·obtain⟨p,l,c,rs,n,i,j,t,k,rfl,_⟩:=h;rfl
 ·obtain⟨p,l,c,rs,n,i,j,t,k,rfl,b,hc,hi,hj,hl,k1,k2,q⟩:=h;refine⟨_,(zg (zH (jS zdo (by rfl) T.zlB Px (za (pc0 (Zz zx) hr zx (za (pvS 0) (za (pvS 1) zc))) zc)))),?_⟩;exact⟨_,rfl,_,rfl,p,l,c,rs,n,i,j,t,k,rfl,b,hc,hi,hj,hl,⟨#[k]⟩,_,rfl,int_sign k1 k2,(by show 1<=640;decide),q⟩
theorem zcS {k:Nat}(h:k∈bd.cps.toList)(hp:Yb k=true):48<=k/\k<=56:=by
 have:∀k∈bd.cps.toList,Yb k=true->48<=k/\k<=56:=by decide +kernel
 exact this k h hp
def zE (rs:List Str)(y:Nat×Nat):List (Nat×Nat):=(Cells.zK z9 0 (codes rs)).filter fun x=>Cells.near x y
def zju:Sp:=fun vs H Q _=>∃(p l ca:Addr) (rs:List Str) (n:Int) (i j:Nat),vs=[.ref p,.ref ca]/\qC H p l rs n/\Rows bd.cps.toList rs/\H ca=some (.tup [.int (i:Nat),.int (j:Nat)])/\i<64/\j<64 /\
 ∀(d:Addr) (ws:List V) (H':Hp),H d=none->H' d=some (.lst ws)->Cel H' ws (zE rs (i,j))->zq H H'->Q (.ref d) H'
theorem zeP (i:Nat):(if (0:Int)>(i:Int)-1 then (0:Int) else (i:Int)-1)=((i-1:Nat):Int):=by
 split<;>lia
theorem zeQ (i m:Nat):(if ((m:Nat):Int)<(i:Int)+2 then ((m:Nat):Int) else (i:Int)+2)=((min (i+2) m:Nat):Int):=by
 split<;>lia
theorem zeR {f:Nat×Nat->Bool}{l:List (Nat×Nat)}{x:Nat×Nat}(a:Bool):(l++(if a=true then [x] else [])).filter f=l.filter f++(if (a&&f x)=true then [x] else []):=by
 rw[W6];congr 1;by_cases h:a=true
 ·by_cases h2:f x=true
  ·simp[h,h2]
  ·simp[h,h2]
 ·simp[h]
theorem J4:zF ["board","cell","rows","found","row","column"] ["board","cell"] (zh yc):=⟨rfl,rfl,rfl,by decide +kernel,rfl,by decide +kernel,by decide +kernel⟩
theorem Yy (T:Txt mg)(D:zo K mg "around" yc ["board","cell"] f fd):qi P w K mg base CX0 1 f fd ["board","cell"] zju:=by
 refine D.F.ok J4 (fun vs H Q E h=>?_) (fun cdv A outer s H vs Q E hr h=>?_)
 ·obtain⟨p,l,ca,rs,n,i,j,rfl,_⟩:=h;rfl
 ·obtain⟨p,l,ca,rs,n,i,j,rfl,b,R,hca,hi64,hj64,q⟩:=h;refine⟨_,(ze (zC (i:=2) J4.nd rfl (Xy rfl) (qw qR (pvS 0) zf (fun _ _=>rfl))) (@ze _ _ _ _ _ (@zC _ _ 3 _ _ _ _ J4.nd rfl (Xy rfl) (@zY _ _ _ _ zc) (by rfl) (.inr rfl)) (ze (qy WT rfl (zcj (by rfl) T.xJ (za (zp (JL rfl) (by rfl) T.zeM UU (za (zz jb (qw qR (pvS 1) zf (fun _ _=>rfl)) zf) (@za _ _ _ _ _ zf zc rfl))) (za (zp (Yo rfl) (by rfl) T.zg0 T9 (za (zz qA (qw qR (pvS 1) zf (fun _ _=>rfl)) zf) (za (zp zJ (by rfl) T.yj Wt (za (pvS 2) zc)) zc))) zc))) (zm (i:=4) J4.nd rfl (Xy rfl)) (zg (qy WT rfl (zcj (by rfl) T.xJ (za (zp (JL rfl) (by rfl) T.zeM UU (za (zz jb (qw qR (pvS 1) zf (fun _ _=>rfl)) zf) (@za _ _ _ _ _ zf zc rfl))) (za (zp (Yo rfl) (by rfl) T.zg0 T9 (za (zz qA (qw qR (pvS 1) zf (fun _ _=>rfl)) zf) (za (zp Qk (by rfl) T.yj Wt (za (qw jj (pvS 2) (pvS 4) (fun _ _=>rfl)) zc)) zc))) zc))) (zm (i:=5) J4.nd rfl (Xy rfl)) (zg (jt (PW.pt (zlR (zU zd2 (qw zgT (qw jj (pvS 2) (pvS 4) (fun _ _=>rfl)) (pvS 5) (fun _ _=>rfl)) (qZ (v:=.str "#") (by rfl) T.Z9.choose_spec (by exact⟨_,rfl⟩)) (qc _)) (zkc (zU (xT hr.units) (jN (za (pvS 4) (za (pvS 5) zc))) (pvS 1) (qc _))))) (zg (xD (ZK Ww VS VR jO (pvS 3) (za (jN (za (pvS 4) (za (pvS 5) zc))) zc)))) qt))))) (zg (zH (pvS 3)))))),?_⟩;refine⟨_,rfl,p,_,0,_,rfl,rfl,SqT.of b.tp,rfl,?_⟩;refine⟨Qw,fun d hd=>?_⟩;have s0:zq H (upd H d (.lst [])):=zd hd;have r8:=R.hi;refine⟨_,rfl,ca,_,0,_,rfl,rfl,SqT.of (s0 _ _ hca),rfl,_,_,rfl,rfl,_,_,rfl,_,rfl,ca,_,0,_,rfl,rfl,SqT.of (s0 _ _ hca),rfl,_,_,rfl,rfl,_,rfl,l,_,rfl,.inl (SqL.of (b.mono s0).rw),_,_,rfl,((i-1:Nat):Int),((min (i+2) rs.length:Nat):Int),?_,⟨by lia,by lia,by lia,by lia⟩,?_⟩
  ·show [V.int (if (0:Int)>(i:Int)-1 then (0:Int) else (i:Int)-1),V.int (if (((rs.map V.str).length:Nat):Int)<(i:Int)+2 then (((rs.map V.str).length:Nat):Int) else (i:Int)+2)]=_;rw[Y1,zeP,zeQ]
  refine yt (lo:=((i-1:Nat):Int)) (fun k σ H'=>∃(v4 v5:Option V) (ws:List V),σ=[some (.ref p),some (.ref ca),some (.ref l),some (.ref d),v4,v5]/\zq H H'/\H' d=some (.lst ws)/\Cel H' ws ((Cells.zK z9 0 ((codes rs).take (i-1+k))).filter fun x=>Cells.near x (i,j)))
   ⟨_,_,[],rfl,s0,zb,?_⟩ ?_ ?_
  ·rw[Cells.zjf]
   ·exact .nil
   ·intro r c hr';rw[WZ,ne_eq,Cells.x9];rintro⟨⟨_,h2⟩,_⟩;dsimp only at h2;lia
  ·rintro k σ H1 hk ⟨v4,v5,ws,rfl,s1,hd1,hc1⟩;have hrl:i-1+k<rs.length:=by lia
   have ecast:((i-1:Nat):Int)+(k:Nat)=((i-1+k:Nat):Int):=by lia
   rw[ecast];generalize hr0:i-1+k=r at *
   obtain⟨t,ht⟩:∃t,rs[r]?=some t:=⟨_,X4 hrl⟩;have htl:t.length<=XC:=R.tlen ht;have ht8:t.cps.toList.length<=8:=R.short _ (X0 (j3 ht));have hat:atI (rs.map V.str) ((r:Nat):Int)=some (V.str t):=xF (by rw[Xn,ht];rfl);refine⟨_,rfl,ca,_,1,_,rfl,rfl,SqT.of (s1 _ _ hca),rfl,_,_,rfl,rfl,_,_,rfl,_,rfl,ca,_,1,_,rfl,rfl,SqT.of (s1 _ _ hca),rfl,_,_,rfl,rfl,_,rfl,_,rfl,l,_,_,_,rfl,rfl,SqL.of (b.mono s1).rw,hat,t,rfl,htl,_,_,rfl,((j-1:Nat):Int),((min (j+2) t.cps.size:Nat):Int),?_,⟨by lia,by lia,by lia,?_⟩,?_⟩
   ·show [V.int (if (0:Int)>(j:Int)-1 then (0:Int) else (j:Int)-1),V.int (if ((t.cps.size:Nat):Int)<(j:Int)+2 then ((t.cps.size:Nat):Int) else (j:Int)+2)]=_;rw[zeP,zeQ]
   ·lia
   have hsz:t.cps.toList.length=t.cps.size:=X5;refine yt (lo:=((j-1:Nat):Int)) (fun m σ H'=>∃(v5:Option V) (ws:List V),σ=[some (.ref p),some (.ref ca),some (.ref l),some (.ref d),some (.int (r:Nat)),v5]/\zq H H'/\H' d=some (.lst ws)/\Cel H' ws ((Cells.zK z9 0 ((codes rs).take r)).filter (fun x=>Cells.near x (i,j))++(Cells.zV z9 r 0 (t.cps.toList.take (j-1+m))).filter fun x=>Cells.near x (i,j)))
    ⟨_,ws,rfl,s1,hd1,?_⟩ ?_ ?_
   ·rw[Cells.zjg (t:=t.cps.toList),W0]
    ·exact hc1
    ·intro c hc';rw[WZ,ne_eq,Cells.x9];rintro⟨_,⟨_,h2⟩,_⟩;dsimp only at h2;lia
   ·rintro m σ H2 hm ⟨v5,ws2,rfl,s2,hd2,hc2⟩;have hcl:j-1+m<t.cps.size:=by lia
    have ecast2:((j-1:Nat):Int)+(m:Nat)=((j-1+m:Nat):Int):=by lia
    rw[ecast2];generalize hc0:j-1+m=c at *
    have hc0':j-1+(m+1)=c+1:=by lia
    obtain⟨k0,hk0⟩:∃k0,t.cps.toList[c]?=some k0:=⟨_,X4 (by lia)⟩;have step:=Cells.zbl (p:=z9) (i:=r) hk0;have step2:(Cells.zV z9 r 0 (t.cps.toList.take (c+1))).filter (fun x=>Cells.near x (i,j))=(Cells.zV z9 r 0 (t.cps.toList.take c)).filter (fun x=>Cells.near x (i,j))++(if (z9 k0&&Cells.near (r,c) (i,j))=true then [(r,c)] else []):=by
     rw[step,zeR]
    have nr:Cells.near (r,c) (i,j)=!decide ((r,c)=(i,j)):=by
     rw[WM,Cells.x9];simp only[WH,decide_eq_false_iff_not];constructor
     ·exact fun h=>h.2.2
     ·intro h;refine⟨⟨?_,?_⟩,⟨?_,?_⟩,h⟩<;>(try dsimp only)<;>lia
    refine⟨_,rfl,_,rfl,l,_,_,_,rfl,rfl,SqL.of (b.mono s2).rw,hat,_,rfl,t,_,k0,rfl,rfl,htl,xF hk0,rfl,_,rfl,?_⟩;have ed:(!decide (V.str ⟨#[k0]⟩=V.str "#"))=z9 k0:=by
     rw[Qp];simp only[zbA];rfl
    rw[ed];by_cases hp:z9 k0=true
    ·refine JD hp ?_;refine⟨_,rfl,_,rfl,YV,fun tp htp=>?_⟩;have s3:zq H2 (upd H2 tp (.tup [.int (r:Nat),.int (c:Nat)])):=zd htp;have hca3:=s3 _ _ (s2 _ _ hca);refine⟨_,rfl,_,_,J2.rdv (c:=(r,c)) ⟨tp,rfl,zb⟩,J2.rdv (c:=(i,j)) ⟨ca,rfl,hca3⟩,zhZ _ _,_,rfl,?_⟩;have ee:(if true=true then !PyData.eqv (zu (r,c)) (zu (i,j)) else WI (zu (r,c)) (zu (i,j)))=Cells.near (r,c) (i,j):=by
      rw[zcQ,nr];rfl
     rw[ee];rw[hp,Uc] at step2;by_cases hn:Cells.near (r,c) (i,j)=true
     ·refine JD hn ?_;rw[if_pos hn] at step2;have hd3:=s3 _ _ hd2;refine⟨_,rfl,.inl ⟨rfl,_,SqL.of hd3⟩,_,rfl,_,rfl,YV,fun tq htq=>?_⟩;have s4:zq (upd H2 tp (.tup [.int (r:Nat),.int (c:Nat)])) (upd (upd H2 tp (.tup [.int (r:Nat),.int (c:Nat)])) tq (.tup [.int (r:Nat),.int (c:Nat)])):=zd htq;have hlen:ws2.length<=128:=by
       rw[hc2.length,XZ];have h1:=WX (fun x=>Cells.near x (i,j)) (Cells.zK z9 0 ((codes rs).take r));have h2:=WX (fun x=>Cells.near x (i,j)) (Cells.zV z9 r 0 (t.cps.toList.take c));have h3:=Cells.jD z9 0 ((codes rs).take r) fun u hu=>R.short u (V1 hu);have h4:=Cells.yb z9 r 0 (t.cps.toList.take c);rw[XD,qP] at h3;rw[XD] at h4;lia
      refine⟨d,_,_,rfl,rfl,s4 _ _ hd3,Xe hlen (by decide),?_⟩;refine⟨_,ws2++[.ref tq],rfl,fun b' o e'=>?_,zb,?_⟩
      ·rw[zj (zk e' hd)];exact s4 _ _ (s3 _ _ (s2 _ _ e'))
      ·rw[hc0',step2,<- W7];exact Cel.into d _ (s4 _ _ hd3) (Cel.snoc (Cel.mono s4 (Cel.mono s3 hc2)) ⟨tq,rfl,zb⟩)
     ·have hn':Cells.near (r,c) (i,j)=false:=by simpa using hn
      refine Jk hn' ?_;rw[if_neg hn,W0] at step2;refine⟨_,ws2,rfl,s2.trans s3,s3 _ _ hd2,?_⟩;rw[hc0',step2];exact Cel.mono s3 hc2
    ·have hp':z9 k0=false:=by simpa using hp
     refine Jk hp' ?_;refine Q0 ?_;rw[hp',Vp,if_neg XT,W0] at step2;refine⟨_,ws2,rfl,s2,hd2,?_⟩;rw[hc0',step2];exact hc2
   ·rintro σ H2 ⟨v5,ws2,rfl,s2,hd2,hc2⟩;refine⟨_,_,ws2,rfl,s2,hd2,?_⟩;have full:(Cells.zV z9 r 0 (t.cps.toList.take (j-1+(((min (j+2) t.cps.size:Nat):Int)-((j-1:Nat):Int)).toNat))).filter (fun x=>Cells.near x (i,j))=(Cells.zV z9 r 0 t.cps.toList).filter fun x=>Cells.near x (i,j):=by
     by_cases hbig:t.cps.size<=j-1+(((min (j+2) t.cps.size:Nat):Int)-((j-1:Nat):Int)).toNat
     ·rw[WL (by lia)]
     ·refine Cells.zhW fun c hc'=>?_;rw[WZ,ne_eq,Cells.x9];rintro⟨_,⟨h2,_⟩,_⟩;dsimp only at h2;lia
    rw[full] at hc2;have e1:i-1+(k+1)=r+1:=by lia
    rw[e1,Cells.zbm (j3 ht),W6];exact hc2
  ·rintro σ H1 ⟨v4,v5,ws,rfl,s1,hd1,hc1⟩;have full:(Cells.zK z9 0 ((codes rs).take (i-1+(((min (i+2) rs.length:Nat):Int)-((i-1:Nat):Int)).toNat))).filter (fun x=>Cells.near x (i,j))=zE rs (i,j):=by
    by_cases hbig:rs.length<=i-1+(((min (i+2) rs.length:Nat):Int)-((i-1:Nat):Int)).toNat
    ·rw[WL (by rw[qP];lia)];rfl
    ·refine Cells.zhV fun r c hr'=>?_;rw[WZ,ne_eq,Cells.x9];rintro⟨⟨h2,_⟩,_⟩;dsimp only at h2;lia
   rw[full] at hc1;exact⟨_,rfl,q d ws H1 hd hd1 hc1 s1⟩
theorem J2.rdn {N:Addr->Prop}{H:Hp}{v:V}{c:Nat×Nat}(h:J2 H v c):Rdn N H v (zu c):=by
 obtain⟨a,rfl,h⟩:=h;exact .tup h (.cons (.int _) (.cons (.int _) .nil))
theorem Cel.rdn {N:Addr->Prop}{H:Hp}{vs:List V}{cs:List (Nat×Nat)}(hp:Cel H vs cs):zw N H vs (cs.map zu):=by
 induction hp with
 | nil=>exact .nil
 | cons h _ ih =>
  exact .cons (J2.rdn h) ih
theorem Rdn.celR {N:Addr->Prop}{H:Hp}{v:V}{c:Nat×Nat}(h:Rdn N H v (zu c)):J2 H v c:=by
 cases h with
 | tup h t =>
  cases t with
  | cons a t =>
   cases a;cases t with
   | cons b t =>
    cases b;cases t;exact⟨_,rfl,h⟩
theorem zw.cel {N:Addr->Prop}{H:Hp}:∀{cs:List (Nat×Nat)} {vs:List V},zw N H vs (cs.map zu)->Cel H vs cs
 | [],_,h=>by cases h;exact .nil
 | c::r,_,h=>by
  cases h with
  | cons a t=>exact .cons (Rdn.celR a) (zw.cel t)
theorem zw.bools {N:Addr->Prop}{H:Hp}:∀{bs:List Bool} {vs:List V},zw N H vs (bs.map S9)->vs=bs.map V.bl
 | [],_,h=>by cases h;rfl
 | b::r,_,h=>by
  cases h with
  | cons a t =>
   cases a;rw[zw.bools t];rfl
theorem qS {α:Type}(p:α->Bool)(g:α->Wa):∀cs:List α,(cs.map fun x=>if p x=true then some (g x) else none).filterMap id=(cs.filter p).map g
 | []=>rfl
 | c::r=>by
  rw[Xs,U4,Wx];by_cases h:p c=true
  ·rw[if_pos h,if_pos h];show g c::_=g c::_;rw[qS p g r]
  ·rw[if_neg h,if_neg h];exact qS p g r
theorem J5 {α:Type}(g:α->Wa):∀cs:List α,(cs.map fun x=>some (g x)).filterMap id=cs.map g
 | []=>rfl
 | c::r=>by
  rw[Xs,U4];show g c::_=g c::_;rw[J5 g r]
theorem xo {α β:Type}{g:α->β}{cs:List α}{i:Nat}{c:α}{o:β}(h:cs[i]?=some c)(ho:(cs.map g)[i]?=some o):o=g c:=by
 rw[Xn,h] at ho;exact(Option.some.inj ho).symm
def clA (rs:List Str)(c:Nat×Nat):List (Nat×Nat):=(zE rs c).filter fun x=>decide (Cells.sgn (codes rs) x=63)
def zW (rs:List Str):List (Nat×Nat):=Cells.zK J3 0 (codes rs)
def zL (rs:List Str):List (Nat×Nat):=Cells.zK Yb 0 (codes rs)
def jG (rs:List Str):List (Nat×Nat):=(zW rs).filter fun c=>!((zL rs).map fun o=>(zE rs o).any fun z=>decide (z=c)).any id
def qX (rs:List Str):List (Nat×Nat):=((zL rs).filter fun o=>(clA rs o).isEmpty).filter fun o=>!decide (Cells.sgn (codes rs) o=48)
theorem jm {p:Nat->Bool}{rs:List Str}(R:Rows bd.cps.toList rs):(Cells.zK p 0 (codes rs)).length<=64:=by
 have h1:=Cells.jD p 0 (codes rs) R.short;have h2:=R.hi;rw[qP] at h1;lia
theorem JG {rs:List Str}(R:Rows bd.cps.toList rs)(c:Nat×Nat):(zE rs c).length<=64:=XV (WX _ _) (jm R)
theorem qe {p:Nat->Bool}{rs:List Str}{c:Nat×Nat}(h:c∈Cells.zK p 0 (codes rs)):∃t k,rs[c.1]?=some t/\t.cps.toList[c.2]?=some k/\p k=true/\Cells.sgn (codes rs) c=k:=by
 obtain⟨k0,j,u,k,ec,hk0,hj,hpc⟩:=Cells.jX h;obtain⟨t,ht,rfl⟩:=zag hk0;rw[VM] at ec;subst ec;exact⟨t,k,ht,hj,hpc,Cells.zdG hk0 hj⟩
theorem Jd {rs:List Str}{c:Nat×Nat}{t:Str}{k:Nat}(R:Rows bd.cps.toList rs)(h1:rs[c.1]?=some t)(h2:t.cps.toList[c.2]?=some k):c.1<64/\c.2<64:=by
 have a:=(X2.mp h1).1;have b:=(X2.mp h2).1;have e:=R.hi;have f:=R.short _ (X0 (j3 h1));lia
theorem zg1 {rs:List Str}{i j:Nat}{t:Str}{k:Nat}(R:Rows bd.cps.toList rs)(h1:rs[i]?=some t)(h2:t.cps.toList[j]?=some k):k∈bd.cps.toList:=by
 obtain⟨n,_,_,h⟩:=R.ex;exact(h t (X0 h1)).mem k (X0 h2)
def znQ:Sp:=fun vs H Q _=>∃(p l ca:Addr) (rs:List Str) (n:Int) (c:Nat×Nat),vs=[.ref p,.ref ca]/\qC H p l rs n/\Rows bd.cps.toList rs/\H ca=some (.tup [.int (c.1:Nat),.int (c.2:Nat)])/\c.1<64/\c.2<64 /\
 ∀(d:Addr) (ws:List V) (H':Hp),H d=none->H' d=some (.lst ws)->Cel H' ws (clA rs c)->zq H H'->Q (.ref d) H'
def zlD (g:List Str->List (Nat×Nat)):Sp:=fun vs H Q _=>∃(a l:Addr) (rs:List Str) (n:Int),vs=[.ref a]/\qC H a l rs n/\Rows bd.cps.toList rs /\
 ∀(d:Addr) (ws:List V) (H':Hp),H d=none->H' d=some (.lst ws)->Cel H' ws (g rs)->zq H H'->Q (.ref d) H'
theorem zah:zF ["board","cell"] ["board","cell"] (zh qv):=⟨rfl,rfl,rfl,by decide +kernel,rfl,by decide +kernel,by decide +kernel⟩
theorem J6 {f1 f2:Addr}{fd1 fd2:Xk}(T:Txt mg)(D:zo K mg "closed_around" qv ["board","cell"] f fd)(zQ:zo K mg "around" yc ["board","cell"] f1 fd1)(zx:zo K mg "sign_at" qO ["board","cell"] f2 fd2) :
  qi P w K mg base CX0 2 f fd ["board","cell"] znQ:=by
 refine D.F.ok zah (fun vs H Q E h=>?_) (fun cdv A outer s H vs Q E hr h=>?_)
 ·obtain⟨p,l,ca,rs,n,c,rfl,_⟩:=h;rfl
 ·obtain⟨p,l,ca,rs,n,c,rfl,b,R,hca,ci,cj,q⟩:=h;refine⟨_,(zg (zH (qL (N:=["place","board"]) (src:=[none,some 0]) (zT.free (O:=(zh qv).names) (XN:=["board","cell"]) rfl rfl ⟨_,rfl⟩ rfl rfl (by decide +kernel) (by decide +kernel) (by decide +kernel) rfl (by decide +kernel)) rfl (zM (pc0 (Yy T zQ) hr zQ (za (pvS 0) (za (pvS 1) zc)))) (fun _ _ _ _ _=>(zm (i:=0) (by show W2 (["place","board"]:List Str);decide +kernel) rfl (Xy rfl))) (fun _ _ _ _ _=>(jh (zU ZJ (pc0 (Zz zx) hr zx (za (pvS 1) (za (pvS 0) zc))) (qZ (v:=.str "?") (by rfl) T.JF.choose_spec (by exact⟨_,rfl⟩)) (qc _)))) (fun _ _ _ _ _=>(pvS 0))))),?_⟩;refine⟨_,rfl,_,rfl,p,l,ca,rs,n,c.1,c.2,rfl,b,R,hca,ci,cj,fun d ws H1 hd hd1 hc1 s1=>⟨d,rfl,⟨_,SqL.of hd1⟩,fun z hz=>?_⟩⟩;refine qN (K:=K) (a:=d) (xs:=ws) (fun a=>a≠z) ((zE rs c).map fun x=>if decide (Cells.sgn (codes rs) x=63)=true then some (zu x) else none) (fun σ=>∃u0,σ=[u0,some (.ref p)]) hz (fun _ h=>h) ⟨_,rfl⟩ (by rw[Y1];exact hc1.length.symm) (by rw[hc1.length];exact XV (JG R c) (by decide)) (SqL.of hd1) ?_ ?_
  ·rintro k x o σ H2 hx ho s2 _ ⟨u0,rfl⟩ Y Z yes no;obtain⟨y,hy,r1⟩:=Cel.get hc1 hx;have eo:=xo hy ho;obtain⟨t,sg,ht,hj,_,es⟩:=qe (XS.mp (X0 hy)).1;obtain⟨ya,rfl,hya⟩:=r1;refine⟨_,rfl,_,rfl,p,l,ya,rs,n,y.1,y.2,t,sg,rfl,(b.mono s1).mono s2,s2 _ _ hya,ht,hj,R.tlen ht,rfl,_,rfl,?_⟩;have ed:decide (V.str ⟨#[sg]⟩=V.str "?")=decide (sg=63):=by
    rw[zf0];simp only[zbA]
   rw[ed];rw[es] at eo;by_cases hp:sg=63
   ·rw[decide_eq_true hp];rw[if_pos (decide_eq_true hp)] at eo;exact ZW ⟨_,rfl,yes _ _ _ _ eo ⟨_,rfl⟩ (zq.refl _) (J2.rdn ⟨ya,rfl,s2 _ _ hya⟩)⟩
   ·rw[decide_eq_false hp];rw[if_neg (by rw[decide_eq_false hp];exact XT)] at eo;exact Q0 (no _ _ eo ⟨_,rfl⟩ (zq.refl _))
  ·rintro ys H2 s2 hz2 hr2;rw[qS] at hr2;exact q z ys H2 (s1.free hz) hz2 (zw.cel hr2) (s1.trans s2)
theorem zeS (cs:List (Nat×Nat)):VD (cs.map zu)=true:=by
 induction cs with
 | nil=>rfl
 | cons c r ih =>
  show (SW (zu c)&&VD (r.map zu))=true;rw[ih];rfl
theorem zmH (cs:List (Nat×Nat)):Vi (cs.map zu)<=1:=by
 induction cs with
 | nil=>exact W1 _
 | cons c r ih =>
  show max (PyData.depth (zu c)) (Vi (r.map zu))<=1;have:PyData.depth (zu c)=1:=rfl;lia
theorem zdJ (cs ds:List (Nat×Nat)):zit (.list (cs.map zu)) (.list (ds.map zu)):=⟨zeS cs,zeS ds,by
 show Vi (cs.map zu)+1<=64;have:=zmH cs;lia⟩
theorem J7 (cs:List (Nat×Nat))(c:Nat×Nat):(cs.map zu).any (fun z=>WI z (zu c))=cs.any fun z=>decide (z=c):=by
 rw[TQ];congr 1;funext z;exact zcQ z c
theorem eq_nil (cs:List (Nat×Nat)):WI (.list (cs.map zu)) (.list [])=cs.isEmpty:=by
 cases cs<;>rfl
theorem zjv:zF ["board","told"] ["board"] (zh zeL):=⟨rfl,rfl,rfl,by decide +kernel,rfl,by decide +kernel,by decide +kernel⟩
theorem zjw {f1 f2 f3 f4 f5:Addr}{fd1 fd2 fd3 fd4 fd5:Xk}(T:Txt mg)(D:zo K mg "far" zeL ["board"] f fd)(zQ:zo K mg "around" yc ["board","cell"] f1 fd1)(zx:zo K mg "sign_at" qO ["board","cell"] f2 fd2)
  (zD:zo K mg "cells_of" qI ["board"] f3 fd3) (yW:zo K mg "closed" JY ["board"] f4 fd4) (zB:zo K mg "open_cells" qB ["board"] f5 fd5):qi P w K mg base CX0 3 f fd ["board"] (zlD jG):=by
 refine D.F.ok zjv (fun vs H Q E h=>?_) (fun cdv A outer s H vs Q E hr h=>?_)
 ·obtain⟨a,l,rs,n,rfl,_⟩:=h;rfl
 ·obtain⟨a,l,rs,n,rfl,b,R,q⟩:=h;refine⟨_,(ze (zC (i:=1) zjv.nd rfl (SF rfl) (qL (N:=["cell","board"]) (src:=[none,some 0]) (zT.free (O:=(zh zeL).names) (XN:=["board","told"]) rfl rfl ⟨_,rfl⟩ rfl rfl (by decide +kernel) (by decide +kernel) (by decide +kernel) rfl (by decide +kernel)) rfl (zM (pc0 (yM T zB zD zx) hr zB (za (pvS 0) zc))) (fun _ _ _ _ _=>(zm (i:=0) (by show W2 (["cell","board"]:List Str);decide +kernel) rfl (Xy rfl))) (fun _ _ _ _ _=>qF) (fun _ _ _ _ _=>(pc0 (Yy T zQ) hr zQ (za (pvS 1) (za (pvS 0) zc)))))) (zg (zH (ziC (N:=["cell","told"]) (src:=[none,some 1]) (Zs.byRfl (y:="cell") rfl (fun _ _=>rfl) (fun _=>rfl) (by decide +kernel) (by decide +kernel) (by rfl) rfl (by rfl)) rfl (zM (pc0 (zcR T yW zD zx) hr yW (za (pvS 0) zc))) (fun _ _ _ _ _=>(zm (i:=0) (by show W2 (["cell","told"]:List Str);decide +kernel) rfl (SF rfl))) (fun _ _ _ _ _=>(jh (zdi (Q2 (K:=K) (by rfl) (zp (zcq (K:=K) (by rfl) (by rfl)) (by rfl) T.zjp SH (za (qL (N:=["near","cell"]) (src:=[none,some 0]) (zT.byRfl rfl (by decide +kernel) (by decide +kernel) (by rfl) rfl (by rfl)) (by rfl) (zeh (K:=K) (by rfl) (pvS 1)) (fun _ _ _ _ _=>(zm (i:=0) (by show W2 (["near","cell"]:List Str);decide +kernel) rfl (Xy rfl))) (fun _ _ _ _ _=>qF) (fun _ _ _ _ _=>(xE (jT (K:=K) (by rfl) hr.units) (pvS 1) (pvS 0) (by rfl)))) zc)) (fun _=>rfl))))) (fun _ _ _ _ _=>(pvS 0)))))),?_⟩;refine⟨_,rfl,a,l,rs,n,rfl,b,R,fun d ws H1 hd hd1 hc1 s1=>⟨d,rfl,⟨_,SqL.of hd1⟩,fun z hz=>?_⟩⟩;have b1:=b.mono s1;refine qN (K:=K) (a:=d) (xs:=ws) (fun a=>a≠z) ((zL rs).map fun o=>some (.list ((zE rs o).map zu))) (fun σ=>∃u0,σ=[u0,some (.ref a)]) hz (fun _ h=>h) ⟨_,rfl⟩ (by rw[Y1];exact hc1.length.symm) (by rw[hc1.length];exact XV (jm R) (by decide)) (SqL.of hd1) ?_ ?_
  ·rintro k x o σ H2 hx ho s2 hzn ⟨u0,rfl⟩ Y Z yes no;obtain⟨y,hy,r1⟩:=Cel.get hc1 hx;have eo:=xo hy ho;obtain⟨t,sg,ht,hj,_,es⟩:=qe (X0 hy);obtain⟨ya,rfl,hya⟩:=r1;obtain⟨l1,l2⟩:=Jd R ht hj;refine Zr ⟨_,rfl,_,rfl,a,l,ya,rs,n,y.1,y.2,rfl,b1.mono s2,R,s2 _ _ hya,l1,l2,fun d2 ws2 H3 hd2 hd3 hc2 s3=>?_⟩;refine yes _ _ _ _ eo ⟨_,rfl⟩ s3 (.lst (fun e=>hzn (e ▸ hd2)) hd3 (Cel.rdn hc2))
  ·rintro ys H2 s2 hz2 hr2;rw[J5] at hr2;have b2:=b1.mono s2;refine⟨_,rfl,a,l,rs,n,rfl,b2,R,fun d3 ws3 H3 hd3 hd4 hc3 s3=>⟨d3,rfl,⟨_,SqL.of hd4⟩,fun z3 hz3=>?_⟩⟩;have hz4:=s3 _ _ hz2;have hr3:=hr2.keep s3;refine qN (K:=K) (a:=d3) (xs:=ws3) (fun a=>a≠z3) ((zW rs).map fun c=>if (!((zL rs).map fun o=>(zE rs o).any fun z=>decide (z=c)).any id)=true then some (zu c) else none) (fun σ=>∃u0,σ=[u0,some (.ref z)]) hz3 (fun _ h=>h) ⟨_,rfl⟩ (by rw[Y1];exact hc3.length.symm) (by rw[hc3.length];exact XV (jm R) (by decide)) (SqL.of hd4) ?_ ?_
   ·rintro k x o σ H4 hx ho s4 _ ⟨u0,rfl⟩ Y Z yes no;obtain⟨y,hy,r1⟩:=Cel.get hc3 hx;have eo:=xo hy ho;have r2:J2 H4 x y:=by
     obtain⟨ya,e,hya⟩:=r1;exact⟨ya,e,s4 _ _ hya⟩
    refine⟨_,rfl,z,rfl,⟨_,SqL.of (s4 _ _ hz4)⟩,fun z5 hz5=>?_⟩;have hyl:ys.length=(zL rs).length:=by rw[hr2.length,Y1]
    refine qN (K:=K) (a:=z) (xs:=ys) (fun a=>a≠z5) ((zL rs).map fun o=>some (.bool ((zE rs o).any fun z=>decide (z=y)))) (fun σ=>∃u0,σ=[u0,some x]) hz5 (fun _ h=>h) ⟨_,rfl⟩ (by rw[Y1];exact hyl.symm) (by rw[hyl];exact XV (jm R) (by decide)) (SqL.of (s4 _ _ hz4)) ?_ ?_
    ·rintro m v o2 σ H5 hv ho2 s5 _ ⟨u1,rfl⟩ Y2 Z2 yes2 no2;obtain⟨dv,hdv,rv⟩:=hr3.get hv;rw[Xn] at hdv;cases eoc:(zL rs)[m]? with
     | none=>rw[eoc] at hdv;cases hdv
     | some oc =>
      rw[eoc] at hdv;cases hdv;have eo2:=xo eoc ho2;have r3:J2 H5 x y:=by
       obtain⟨ya,e,hya⟩:=r2;exact⟨ya,e,s5 _ _ hya⟩
      refine Zr ⟨_,rfl,_,rfl,zu y,(zE rs oc).map zu,r3.rdv,(((rv.keep s4).keep s5).rdv),rfl,zeS _,(by show 1<=60;decide),?_⟩;have ei:(if false=true then !((zE rs oc).map zu).any (fun z=>WI z (zu y)) else ((zE rs oc).map zu).any fun z=>WI z (zu y))=(zE rs oc).any fun z=>decide (z=y):=J7 _ _;rw[ei];exact yes2 _ _ _ _ eo2 ⟨_,rfl⟩ (zq.refl _) (.bl _)
    ·rintro ys5 H5 s5 hz6 hr5;rw[J5,show ((zL rs).map fun o=>S9 ((zE rs o).any fun z=>decide (z=y)))=((zL rs).map fun o=>(zE rs o).any fun z=>decide (z=y)).map S9 by rw[We];rfl] at hr5;rw[zw.bools hr5] at hz6;refine⟨z5,_,rfl,SqL.of hz6,_,rfl,?_⟩;by_cases hp:(!((zL rs).map fun o=>(zE rs o).any fun z=>decide (z=y)).any id)=true
     ·rw[if_pos hp] at eo;refine JD hp ⟨_,rfl,yes _ _ _ _ eo ⟨_,rfl⟩ s5 (J2.rdn ?_)⟩;obtain⟨ya,e,hya⟩:=r2;exact⟨ya,e,s5 _ _ hya⟩
     ·rw[if_neg hp] at eo;exact Jk (by simpa using hp) (no _ _ eo ⟨_,rfl⟩ s5)
   ·rintro ys4 H4 s4 hz6 hr4;rw[qS] at hr4;exact q z3 ys4 H4 (s1.free (s2.free (s3.free hz3))) hz6 (zw.cel hr4) (((s1.trans s2).trans s3).trans s4)
theorem YN:zF ["board","bare"] ["board"] (zh jF):=⟨rfl,rfl,rfl,by decide +kernel,rfl,by decide +kernel,by decide +kernel⟩
theorem YO {f1 f2 f3 f4 f5 f6:Addr}{fd1 fd2 fd3 fd4 fd5 fd6:Xk}(T:Txt mg)(D:zo K mg "bare_wrong" jF ["board"] f fd)(zQ:zo K mg "around" yc ["board","cell"] f1 fd1)(zx:zo K mg "sign_at" qO ["board","cell"] f2 fd2)
  (zD:zo K mg "cells_of" qI ["board"] f3 fd3) (zO:zo K mg "closed_around" qv ["board","cell"] f4 fd4) (zB:zo K mg "open_cells" qB ["board"] f5 fd5) (qD:zo K mg "number_at" yV ["board","cell"] f6 fd6):qi P w K mg base CX0 3 f fd ["board"] (zlD qX):=by
 refine D.F.ok YN (fun vs H Q E h=>?_) (fun cdv A outer s H vs Q E hr h=>?_)
 ·obtain⟨a,l,rs,n,rfl,_⟩:=h;rfl
 ·obtain⟨a,l,rs,n,rfl,b,R,q⟩:=h;refine⟨_,(ze (Yq (i:=1) YN.nd rfl rfl (N:=["cell","board"]) (src:=[none,some 0]) (zT.free (O:=(zh jF).names) (XN:=["board","bare"]) rfl rfl ⟨_,rfl⟩ rfl rfl (by decide +kernel) (by decide +kernel) (by decide +kernel) rfl (by decide +kernel)) rfl (zM (pc0 (yM T zB zD zx) hr zB (za (pvS 0) zc))) (fun _ _ _ _ _=>(zm (i:=0) (by show W2 (["cell","board"]:List Str);decide +kernel) rfl (Xy rfl))) (fun _ _ _ _ _=>(jh (zU (zeb (K:=K) (by rfl) hr.units) (pc0 (J6 T zO zQ zx) hr zO (za (pvS 1) (za (pvS 0) zc))) (@zY _ _ _ _ zc) (qc _)))) (fun _ _ _ _ _=>(pvS 0))) (zg (zH (qL (N:=["cell","board"]) (src:=[none,some 0]) (zT.free (O:=(zh jF).names) (XN:=["board","bare"]) rfl rfl ⟨_,rfl⟩ rfl rfl (by decide +kernel) (by decide +kernel) (by decide +kernel) rfl (by decide +kernel)) rfl (zM (pvS 1)) (fun _ _ _ _ _=>(zm (i:=0) (by show W2 (["cell","board"]:List Str);decide +kernel) rfl (Xy rfl))) (fun _ _ _ _ _=>(jh (zU zd2 (pc0 (QI T qD zx) hr qD (za (pvS 1) (za (pvS 0) zc))) zf (qc _)))) (fun _ _ _ _ _=>(pvS 0)))))),?_⟩;refine⟨_,rfl,a,l,rs,n,rfl,b,R,fun d ws H1 hd hd1 hc1 s1=>⟨d,rfl,⟨_,SqL.of hd1⟩,fun z hz=>?_⟩⟩;have b1:=b.mono s1;refine qN (K:=K) (a:=d) (xs:=ws) (fun a=>a≠z) ((zL rs).map fun o=>if (clA rs o).isEmpty=true then some (zu o) else none) (fun σ=>∃u0,σ=[u0,some (.ref a)]) hz (fun _ h=>h) ⟨_,rfl⟩ (by rw[Y1];exact hc1.length.symm) (by rw[hc1.length];exact XV (jm R) (by decide)) (SqL.of hd1) ?_ ?_
  ·rintro k x o σ H2 hx ho s2 hzn ⟨u0,rfl⟩ Y Z yes no;obtain⟨y,hy,r1⟩:=Cel.get hc1 hx;have eo:=xo hy ho;obtain⟨t,sg,ht,hj,_,es⟩:=qe (X0 hy);obtain⟨ya,rfl,hya⟩:=r1;obtain⟨l1,l2⟩:=Jd R ht hj;refine⟨_,rfl,_,rfl,a,l,ya,rs,n,y,rfl,b1.mono s2,R,s2 _ _ hya,l1,l2,fun d2 ws2 H3 hd2 hd3 hc2 s3=>⟨Qw,fun e he=>?_⟩⟩;have s4:=zd (o:=.lst []) he;refine⟨.list ((clA rs y).map zu),.list [],.lst (SqL.of (s4 _ _ hd3)) (zw.rdv (N:=fun _=>True) (Cel.rdn (Cel.mono s4 hc2))),.lst (SqL.of zb) .nil,zdJ _ [],_,rfl,?_⟩;have ee:(if false=true then !PyData.eqv (.list ((clA rs y).map zu)) (.list []) else WI (.list ((clA rs y).map zu)) (.list []))=(clA rs y).isEmpty:=eq_nil _;rw[ee];by_cases hp:(clA rs y).isEmpty=true
   ·rw[if_pos hp] at eo;exact JD hp ⟨_,rfl,yes _ _ _ _ eo ⟨_,rfl⟩ (s3.trans s4) (J2.rdn ⟨ya,rfl,s4 _ _ (s3 _ _ (s2 _ _ hya))⟩)⟩
   ·rw[if_neg hp] at eo;exact Jk (by simpa using hp) (no _ _ eo ⟨_,rfl⟩ (s3.trans s4))
  ·rintro ys H2 s2 hz2 hr2;rw[qS] at hr2;have hc2:=zw.cel hr2;have b2:=b1.mono s2;refine⟨_,rfl,z,rfl,⟨_,SqL.of hz2⟩,fun z3 hz3=>?_⟩;refine qN (K:=K) (a:=z) (xs:=ys) (fun a=>a≠z3) (((zL rs).filter fun o=>(clA rs o).isEmpty).map fun o=>if (!decide (Cells.sgn (codes rs) o=48))=true then some (zu o) else none) (fun σ=>∃u0,σ=[u0,some (.ref a)]) hz3 (fun _ h=>h) ⟨_,rfl⟩ (by rw[Y1];exact hc2.length.symm) (by rw[hc2.length];exact XV (WX _ _) (XV (jm R) (by decide))) (SqL.of hz2) ?_ ?_
   ·rintro k x o σ H4 hx ho s4 _ ⟨u0,rfl⟩ Y Z yes no;obtain⟨y,hy,r1⟩:=Cel.get hc2 hx;have eo:=xo hy ho;obtain⟨t,sg,ht,hj,hpo,es⟩:=qe (XS.mp (X0 hy)).1;obtain⟨ya,rfl,hya⟩:=r1;obtain⟨k1,k2⟩:=zcS (zg1 R ht hj) hpo;refine⟨_,rfl,_,rfl,a,l,ya,rs,n,y.1,y.2,t,sg,rfl,b2.mono s4,s4 _ _ hya,ht,hj,R.tlen ht,k1,k2,rfl,_,rfl,?_⟩;have ed:(!decide (V.int ((sg:Int)-48)=V.int 0))=!decide (Cells.sgn (codes rs) y=48):=by
     rw[es,zdj];congr 1;by_cases h:sg=48
     ·rw[decide_eq_true h,h];rfl
     ·rw[decide_eq_false h];simp only[beq_eq_false_iff_ne,ne_eq];lia
    rw[ed];by_cases hp:(!decide (Cells.sgn (codes rs) y=48))=true
    ·rw[if_pos hp] at eo;exact JD hp ⟨_,rfl,yes _ _ _ _ eo ⟨_,rfl⟩ (zq.refl _) (J2.rdn ⟨ya,rfl,s4 _ _ hya⟩)⟩
    ·rw[if_neg hp] at eo;exact Jk (by simpa using hp) (no _ _ eo ⟨_,rfl⟩ (zq.refl _))
   ·rintro ys4 H4 s4 hz6 hr4;rw[qS] at hr4;exact q z3 ys4 H4 (s1.free (s2.free hz3)) hz6 (zw.cel hr4) ((s1.trans s2).trans s4)
theorem zjx {K:X6}{H:Hp}{vs:List V}{cs:List (Nat×Nat)}(hp:Cel H vs cs):xg K H vs (cs.map zu):=by
 induction hp with
 | nil=>exact .nil
 | cons h _ ih =>
  exact .cons (J2.rdv h) ih
def toI (c:Nat×Nat):Int×Int:=(((c.1:Nat):Int),((c.2:Nat):Int))
def ofI (p:Int×Int):Nat×Nat:=(p.1.toNat,p.2.toNat)
theorem zg2 (c:Nat×Nat):ofI (toI c)=c:=rfl
theorem zkX {c d:Nat×Nat}(h:toI c=toI d):c=d:=by rw[<- zg2 c,h,zg2]
theorem zkY {c d:Nat×Nat}:lt2 (toI c) (toI d)=true↔Cells.lex c d:=by
 obtain⟨a,b⟩:=c;obtain⟨x,y⟩:=d;unfold lt2 Cells.lex;show (if ((a:Nat):Int)=((x:Nat):Int) then decide (((b:Nat):Int)<((y:Nat):Int)) else decide (((a:Nat):Int)<((x:Nat):Int)))=true↔a<x\/(a=x/\b<y);by_cases e:a=x
 ·rw[if_pos (by lia),decide_eq_true_eq];lia
 ·rw[if_neg (by lia),decide_eq_true_eq];lia
theorem Cel.tup2 {H:Hp}{vs:List V}{cs:List (Nat×Nat)}(hp:Cel H vs cs):yR H vs (cs.map toI):=by
 induction hp with
 | nil=>exact .nil
 | cons q _ ih =>
  obtain⟨a,e,h⟩:=q;exact .cons ⟨a,e,h⟩ ih
theorem Jy {H:Hp}:∀{cs:List (Nat×Nat)} {vs:List V},yR H vs (cs.map toI)->Cel H vs cs
 | [],_,.nil=>.nil
 | _::_,_,.cons ⟨a,e,h⟩ t=>.cons ⟨a,e,h⟩ (Jy t)
theorem zkZ {ps:List (Int×Int)}{cs:List (Nat×Nat)}(h:ps.Perm (cs.map toI)):∃ds:List (Nat×Nat),ps=ds.map toI/\ds.Perm cs:=by
 refine⟨ps.map ofI,?_,?_⟩
 ·rw[We];refine(Sr ps).symm.trans (Xi fun p hp=>?_);obtain⟨c,_,rfl⟩:=XB.mp (h.mem_iff.mp hp);rfl
 ·have:=h.map ofI;rw[We] at this;have e:cs.map (ofI∘toI)=cs:=(Xi fun c _=>zg2 c).trans (Sr cs);rwa [e] at this
theorem zmI {cs:List (Nat×Nat)}(h:Up2 (cs.map toI)):cs.Pairwise Cells.lex:=by
 unfold Up2 at h;rw[Wd] at h;exact h.imp fun z=>zkY.mp z
theorem xP {cs:List (Nat×Nat)}(h:cs.Pairwise Cells.lex):cs.Nodup:=h.imp fun {a b} z e=>by
 subst e;unfold Cells.lex at z;lia
def zh1 (H:Hp)(v:V)(g:List (Nat×Nat)):Prop:=∃a us,v=V.ref a/\H a=some (.lst us)/\Cel H us g
def jP (H:Hp):List V->List (List (Nat×Nat))->Prop:=W9 (zh1 H)
theorem zh1.mono {H H':Hp}{v:V}{g:List (Nat×Nat)}(s:zq H H')(h:zh1 H v g):zh1 H' v g:=by
 obtain⟨a,us,e,h1,h2⟩:=h;exact⟨a,us,e,s _ _ h1,h2.mono s⟩
theorem jP.mono {H H':Hp}(s:zq H H'){vs:List V}{gs:List (List (Nat×Nat))}(hp:jP H vs gs):jP H' vs gs:=by
 induction hp with
 | nil=>exact .nil
 | cons h _ ih =>
  exact .cons (h.mono s) ih
theorem jP.get {H:Hp}:∀{vs:List V} {gs:List (List (Nat×Nat))} {i:Nat} {v:V},jP H vs gs->vs[i]?=some v->∃g,gs[i]?=some g/\zh1 H v g
 | _,_,_,_,.nil,e=>by simp at e
 | _,_,0,_,.cons r _,e=>by
  simp at e;subst e;exact⟨_,rfl,r⟩
 | _,_,i+1,v,.cons _ t,e=>by
  obtain⟨c,h1,h2⟩:=jP.get (i:=i) (v:=v) t (by simpa using e);exact⟨c,by simpa using h1,h2⟩
theorem jP.length {H:Hp}{vs:List V}{gs:List (List (Nat×Nat))}(h:jP H vs gs):vs.length=gs.length:=Paired.length h
theorem jP.snoc {H:Hp}{vs:List V}{gs:List (List (Nat×Nat))}{v:V}{g:List (Nat×Nat)}(h:jP H vs gs)(x:zh1 H v g):jP H (vs++[v]) (gs++[g]):=Paired.snoc h x
def lD (g:List (Nat×Nat)):Wa:=.list (g.map zu)
theorem zcT {p q:Nat->Bool}(h:∀c,p c=true->q c=false)(i:Nat):∀(j:Nat) (t:List Nat),(Cells.zV p i j t).length+(Cells.zV q i j t).length<=t.length
 | _,[]=>XW _
 | j,c::r=>by
  have ih:=zcT h i (j+1) r;rw[Cells.zV,Cells.zV,XZ,XZ,Xp];by_cases hp:p c=true
  ·rw[if_pos hp,if_neg (by rw[h c hp];exact XT)];simp only[Xp,Ue];lia
  ·rw[if_neg hp];split<;>simp only[Xp,Ue]<;>lia
theorem zcU {p q:Nat->Bool}(h:∀c,p c=true->q c=false):∀(i:Nat) (rs:List (List Nat)),(∀t∈rs,t.length<=8)->(Cells.zK p i rs).length+(Cells.zK q i rs).length<=8*rs.length
 | _,[],_=>XW _
 | i,t::r,ht=>by
  have ih:=zcU h (i+1) r fun u hu=>ht u (XX _ hu);have h1:=zcT h i 0 t;have h2:=ht t XU;rw[Cells.zK,Cells.zK,XZ,XZ,Xp];lia
theorem zcV {rs:List Str}(R:Rows bd.cps.toList rs):(zL rs).length+(zW rs).length<=64:=by
 have:=zcU (p:=Yb) (q:=J3) (fun c hc=>by
  unfold Yb at hc;rw[Wm,WH] at hc;exact hc.2) 0 (codes rs) R.short
 have h2:=R.hi;rw[qP] at this;unfold zL zW;lia
theorem QJ {p:Nat->Bool}{i:Nat}:∀{j m:Nat} {t:List Nat} {c:Nat},t[m]?=some c->p c=true->(i,j+m)∈Cells.zV p i j t
 | j,m,[],c,h,_=>by simp at h
 | j,0,d::r,c,h,hp=>by
  have e:d=c:=by simpa using h
  subst e;rw[Cells.zV,if_pos hp];exact Xd _ XU
 | j,m+1,d::r,c,h,hp=>by
  rw[Cells.zV];refine XJ _ ?_;have:=QJ (i:=i) (j:=j+1) (m:=m) (t:=r) (c:=c) (by simpa using h) hp;rwa [show j+1+m=j+(m+1) by lia] at this
theorem yf {p:Nat->Bool}:∀{i m:Nat} {rs:List (List Nat)} {t:List Nat} {j c:Nat},rs[m]?=some t->t[j]?=some c->p c=true->(i+m,j)∈Cells.zK p i rs
 | i,m,[],t,j,c,h,_,_=>by simp at h
 | i,0,d::r,t,j,c,h,hj,hp=>by
  have e:d=t:=by simpa using h
  subst e;rw[Cells.zK];refine Xd _ ?_;have:=QJ (i:=i) (j:=0) hj hp;rwa [show 0+j=j by lia] at this
 | i,m+1,d::r,t,j,c,h,hj,hp=>by
  rw[Cells.zK];refine XJ _ ?_;have:=yf (i:=i+1) (m:=m) (rs:=r) (t:=t) (j:=j) (c:=c) (by simpa using h) hj hp;rwa [show i+1+m=i+(m+1) by lia] at this
theorem zcW (rs:List Str)(c:Nat×Nat):(clA rs c).Nodup:=((xP (Cells.Ys _ 0 (codes rs))).sublist VQ).sublist VQ
theorem J8 {rs:List Str}{c x:Nat×Nat}(h:x∈clA rs c):x∈zW rs:=by
 unfold clA at h;obtain⟨h1,h2⟩:=XS.mp h;obtain⟨t,k,ht,hj,_,es⟩:=qe (XS.mp h1).1;have e63:k=63:=by
  have:=of_decide_eq_true h2;lia
 subst e63;have:=yf (p:=J3) (i:=0) (j3 ht) hj (by decide);rwa [VM] at this
def heads (gs:List (List (Nat×Nat))):List (Int×Int):=gs.map fun g=>toI (g.headD (0,0))
theorem head_mem {g:List (Nat×Nat)}(h:g ≠ []):g.headD (0,0)∈g:=by
 cases g with
 | nil=>exact absurd rfl h
 | cons a r=>exact XU
theorem zay:∀{gs:List (List (Nat×Nat))},(∀g∈gs,g ≠ [])->gs.flatten.Nodup->(heads gs).Nodup
 | [],_,_=>T0
 | g::r,h,nd=>by
  rw[WA,V4] at nd;obtain⟨_,h2,h3⟩:=nd;unfold heads;rw[Xs,VU];refine⟨fun hm=>?_,zay (fun x hx=>h x (XX _ hx)) h2⟩;obtain⟨g2,hg2,e⟩:=XB.mp hm;have e':=zkX e;have m1:=head_mem (h g XU);have m2:=head_mem (h g2 (XX _ hg2));rw[e'] at m2;exact h3 _ m1 _ (WE.mpr ⟨g2,hg2,m2⟩) rfl
def xK (rs:List Str)(part:List (Nat×Nat)):List (Nat×Nat):=(zL rs).filter fun o=>((zE rs o).map fun z=>part.any fun x=>decide (x=z)).any id
def zmJ:Sp:=fun vs H Q _=>∃(a l pa:Addr) (rs:List Str) (n:Int) (ps:List V) (part:List (Nat×Nat)),vs=[.ref a,.ref pa]/\qC H a l rs n/\Rows bd.cps.toList rs/\H pa=some (.lst ps)/\Cel H ps part /\
 ∀(d:Addr) (ws:List V) (H':Hp),H d=none->H' d=some (.lst ws)->Cel H' ws (xK rs part)->zq H H'->Q (.ref d) H'
theorem zca:zF ["board","part"] ["board","part"] (zh yd):=⟨rfl,rfl,rfl,by decide +kernel,rfl,by decide +kernel,by decide +kernel⟩
theorem zcb {f1 f2 f3 f5:Addr}{fd1 fd2 fd3 fd5:Xk}(T:Txt mg)(D:zo K mg "numbers_of" yd ["board","part"] f fd)(zQ:zo K mg "around" yc ["board","cell"] f1 fd1)(zx:zo K mg "sign_at" qO ["board","cell"] f2 fd2)
  (zD:zo K mg "cells_of" qI ["board"] f3 fd3) (zB:zo K mg "open_cells" qB ["board"] f5 fd5):qi P w K mg base CX0 3 f fd ["board","part"] zmJ:=by
 refine D.F.ok zca (fun vs H Q E h=>?_) (fun cdv A outer s H vs Q E hr h=>?_)
 ·obtain⟨a,l,pa,rs,n,ps,part,rfl,_⟩:=h;rfl
 ·obtain⟨a,l,pa,rs,n,ps,part,rfl,b,R,hpa,hpt,q⟩:=h;refine⟨_,(zg (zH (qL (N:=["cell","part","board"]) (src:=[none,some 1,some 0]) (zT.free (O:=(zh yd).names) (XN:=["board","part"]) rfl rfl ⟨_,rfl⟩ rfl rfl (by decide +kernel) (by decide +kernel) (by decide +kernel) rfl (by decide +kernel)) rfl (zM (pc0 (yM T zB zD zx) hr zB (za (pvS 0) zc))) (fun _ _ _ _ _=>(zm (i:=0) (by show W2 (["cell","part","board"]:List Str);decide +kernel) rfl (Xy rfl))) (fun _ _ _ _ _=>(jh (Q2 (K:=K) (by rfl) (zp (zcq (K:=K) (by rfl) (by rfl)) (by rfl) T.zjp SH (za (qL (N:=["place","part"]) (src:=[none,some 1]) (zT.byRfl rfl (by decide +kernel) (by decide +kernel) (by rfl) rfl (by rfl)) (by rfl) (zeh (K:=K) (by rfl) (pc0 (Yy T zQ) hr zQ (za (pvS 2) (za (pvS 0) zc)))) (fun _ _ _ _ _=>(zm (i:=0) (by show W2 (["place","part"]:List Str);decide +kernel) rfl (Xy rfl))) (fun _ _ _ _ _=>qF) (fun _ _ _ _ _=>(xE (jT (K:=K) (by rfl) hr.units) (pvS 0) (pvS 1) (by rfl)))) zc)) (fun _=>rfl)))) (fun _ _ _ _ _=>(pvS 0))))),?_⟩;refine⟨_,rfl,a,l,rs,n,rfl,b,R,fun d ws H1 hd hd1 hc1 s1=>⟨d,rfl,⟨_,SqL.of hd1⟩,fun z hz=>?_⟩⟩;have b1:=b.mono s1;refine qN (K:=K) (a:=d) (xs:=ws) (fun a=>a≠z) ((zL rs).map fun o=>if (((zE rs o).map fun z=>part.any fun x=>decide (x=z)).any id)=true then some (zu o) else none) (fun σ=>∃u0,σ=[u0,some (.ref pa),some (.ref a)]) hz (fun _ h=>h) ⟨_,rfl⟩ (by rw[Y1];exact hc1.length.symm) (by rw[hc1.length];exact XV (jm R) (by decide)) (SqL.of hd1) ?_ ?_
  ·rintro k x o σ H2 hx ho s2 hzn ⟨u0,rfl⟩ Y Z yes no;obtain⟨y,hy,r1⟩:=Cel.get hc1 hx;have eo:=xo hy ho;obtain⟨t,sg,ht,hj,_,es⟩:=qe (X0 hy);obtain⟨ya,rfl,hya⟩:=r1;obtain⟨l1,l2⟩:=Jd R ht hj;refine⟨_,rfl,_,rfl,a,l,ya,rs,n,y.1,y.2,rfl,b1.mono s2,R,s2 _ _ hya,l1,l2,fun d2 ws2 H3 hd2 hd3 hc2 s3=>⟨d2,rfl,⟨_,SqL.of hd3⟩,fun z5 hz5=>?_⟩⟩;refine qN (K:=K) (a:=d2) (xs:=ws2) (fun a=>a≠z5) ((zE rs y).map fun c=>some (.bool (part.any fun x=>decide (x=c)))) (fun σ=>∃u0,σ=[u0,some (.ref pa)]) hz5 (fun _ h=>h) ⟨_,rfl⟩ (by rw[Y1];exact hc2.length.symm) (by rw[hc2.length];exact XV (JG R y) (by decide)) (SqL.of hd3) ?_ ?_
   ·rintro m v o2 σ H5 hv ho2 s5 _ ⟨u1,rfl⟩ Y2 Z2 yes2 no2;obtain⟨c,hc,rc⟩:=Cel.get (Cel.mono s5 hc2) hv;have eo2:=xo hc ho2;have sA:=((s1.trans s2).trans s3).trans s5;refine Zr ⟨_,rfl,_,rfl,zu c,part.map zu,rc.rdv,.lst (SqL.of (sA _ _ hpa)) (zw.rdv (N:=fun _=>True) (Cel.rdn (Cel.mono sA hpt))),rfl,zeS _,(by show 1<=60;decide),?_⟩;have ei:(if false=true then !(part.map zu).any (fun z=>WI z (zu c)) else (part.map zu).any fun z=>WI z (zu c))=part.any fun z=>decide (z=c):=J7 _ _;rw[ei];exact yes2 _ _ _ _ eo2 ⟨_,rfl⟩ (zq.refl _) (.bl _)
   ·rintro ys5 H5 s5 hz6 hr5;rw[J5,show ((zE rs y).map fun c=>S9 (part.any fun x=>decide (x=c)))=((zE rs y).map fun c=>part.any fun x=>decide (x=c)).map S9 by rw[We];rfl] at hr5;rw[zw.bools hr5] at hz6;refine⟨z5,_,rfl,SqL.of hz6,_,rfl,?_⟩;by_cases hp:(((zE rs y).map fun z=>part.any fun x=>decide (x=z)).any id)=true
    ·rw[if_pos hp] at eo;exact JD hp ⟨_,rfl,yes _ _ _ _ eo ⟨_,rfl⟩ (s3.trans s5) (J2.rdn ⟨ya,rfl,s5 _ _ (s3 _ _ (s2 _ _ hya))⟩)⟩
    ·rw[if_neg hp] at eo;exact Jk (by simpa using hp) (no _ _ eo ⟨_,rfl⟩ (s3.trans s5))
  ·rintro ys H2 s2 hz2 hr2;rw[qS] at hr2;exact q z ys H2 (s1.free hz) hz2 (zw.cel hr2) (s1.trans s2)
theorem zf3 {cl:Nat×Nat->List (Nat×Nat)}{done:List (Nat×Nat)}{gs:List (List (Nat×Nat))}{o:Nat×Nat}(G:Parts.Good cl done gs)(h:cl o ≠ [])(hn:(cl o).Nodup){w:List (Nat×Nat)}(hs:w.Pairwise Cells.lex)(hw:∀x,x∈w↔x∈cl o\/∃g∈gs,Parts.meets (cl o) g=true/\x∈g):Parts.Good cl (done++[o]) ((gs.filter fun g=>!Parts.meets (cl o) g)++[w]):=by
 refine G.step h hn ?_ ?_ hs
 ·refine UL fun g hg=>?_;congr 1;rw[WM,Wj];constructor
  ·exact fun z=>⟨g,XS.mpr ⟨hg,z⟩,decide_eq_true rfl⟩
  ·rintro⟨m,hm,e⟩;have e':m=g:=of_decide_eq_true e;subst e';exact(XS.mp hm).2
 ·refine(V7 (xP hs) (Parts.Z6 hn fun m hm=>G.nd.sublist (Wu (XS.mp hm).1))).mpr fun x=>?_;rw[hw,Parts.zac];constructor
  ·rintro(z | ⟨g,h1,h2,h3⟩)
   ·exact .inl z
   ·exact .inr ⟨g,XS.mpr ⟨h1,h2⟩,h3⟩
  ·rintro(z | ⟨g,h1,h3⟩)
   ·exact .inl z
   ·exact .inr ⟨g,(XS.mp h1).1,(XS.mp h1).2,h3⟩
theorem zh2 (cs g:List (Nat×Nat)):(cs.map fun c=>g.any fun z=>decide (z=c)).any id=Parts.meets cs g:=by
 rw[WM,Parts.JW,TQ,Wj];constructor
 ·rintro⟨c,h1,h2⟩;have h2':(g.any fun z=>decide (z=c))=true:=h2;obtain⟨z,h3,h4⟩:=Wj.mp h2';have e:z=c:=of_decide_eq_true h4;subst e;exact⟨z,h3,h1⟩
 ·rintro⟨x,h1,h2⟩;refine⟨x,h2,?_⟩;show (g.any fun z=>decide (z=x))=true;exact Wj.mpr ⟨x,h1,decide_eq_true rfl⟩
def Jz (p:List (Nat×Nat)->Bool):List V->List (List (Nat×Nat))->List V
 | v::vs,g::gs=>if p g=true then v::Jz p vs gs else Jz p vs gs
 | _,_=>[]
theorem J9 (p:List (Nat×Nat)->Bool):∀(vs:List V) (gs:List (List (Nat×Nat))),(Jz p vs gs).Sublist vs
 | [],_=>List.nil_sublist _
 | _::_,[]=>List.nil_sublist _
 | v::vs,g::gs=>by
  rw[Jz];split
  ·exact(J9 p vs gs).cons_cons v
  ·exact(J9 p vs gs).cons v
theorem YW {H:Hp}(p:List (Nat×Nat)->Bool):∀{vs:List V} {gs:List (List (Nat×Nat))},jP H vs gs->jP H (Jz p vs gs) (gs.filter p)
 | _,_,.nil=>.nil
 | _,_,.cons (a:=v) (b:=g) h t=>by
  rw[Jz,Wx];by_cases hp:p g=true
  ·rw[if_pos hp,if_pos hp];exact .cons h (YW p t)
  ·rw[if_neg hp,if_neg hp];exact YW p t
theorem zf4 (p:List (Nat×Nat)->Bool){vs:List V}{gs:List (List (Nat×Nat))}{i:Nat}{v:V}{g:List (Nat×Nat)}(h1:vs[i]?=some v)(h2:gs[i]?=some g):Jz p (vs.take (i+1)) (gs.take (i+1))=Jz p (vs.take i) (gs.take i)++if p g=true then [v] else []:=by
 induction vs generalizing gs i with
 | nil=>cases h1
 | cons w vs ih =>
  cases gs with
  | nil=>cases h2
  | cons k gs =>
   cases i with
   | zero =>
    cases h1;cases h2;simp[Jz]
   | succ i =>
    rw[UA,UA,UA,UA,Jz,Jz,ih h1 h2];split<;>rfl
theorem zdK {m:List (Int×Int)}{l:List (Nat×Nat)}(h:∀c∈m,c∈l.map toI):m=(m.map ofI).map toI:=by
 rw[We];refine(Sr m).symm.trans (Xi fun c hc=>?_);obtain⟨x,_,rfl⟩:=XB.mp (h c hc);rfl
def zjy:Sp:=fun vs H Q _=>∃(ga ca:Addr) (ws us:List V) (gs:List (List (Nat×Nat))) (cs B:List (Nat×Nat)),vs=[.ref ga,.ref ca]/\H ga=some (.lst ws)/\jP H ws gs/\H ca=some (.lst us)/\Cel H us cs/\cs.Nodup/\gs.flatten.Nodup/\(∀x∈cs,x∈B)/\(∀x∈gs.flatten,x∈B)/\(∀x∈B,x.1<8/\x.2<8)/\B.length<=63/\gs.length<=63 /\
 (cs=[]->∀H',zq H H'->Q (.ref ga) H') /\
 (cs ≠ []->∀(d wa:Addr) (va:List V) (w:List (Nat×Nat)) (H':Hp),H d=none->H wa=none->H' d=some (.lst (va++[.ref wa]))->va.Sublist ws->jP H' (va++[.ref wa]) ((gs.filter fun g=>!Parts.meets cs g)++[w])->w.Pairwise Cells.lex->(∀x,x∈w↔x∈cs\/∃g∈gs,Parts.meets cs g=true/\x∈g)->zq H H'->Q (.ref d) H')
theorem Yz:zF ["groups","cells","apart","together","group"] ["groups","cells"] (zh JZ):=⟨rfl,rfl,rfl,by decide +kernel,rfl,by decide +kernel,by decide +kernel⟩
theorem zh3 (T:Txt mg)(D:zo K mg "joined" JZ ["groups","cells"] f fd):qi P w K mg base CX0 1 f fd ["groups","cells"] zjy:=by
 refine D.F.ok Yz (fun vs H Q E h=>?_) (fun cdv A outer s H vs Q E hr h=>?_)
 ·obtain⟨ga,ca,ws,us,gs,cs,B,rfl,_⟩:=h;rfl
 ·obtain⟨ga,ca,ws,us,gs,cs,B,rfl,hga,hG,hca,hC,cnd,gnd,cB,gB,B8,B63,g63,q1,q2⟩:=h;have cl63:cs.length<=63:=XV (Parts.jY cnd cB) B63;have fl63:gs.flatten.length<=63:=XV (Parts.jY gnd gB) B63;refine⟨_,(ze (jt (zU (Zo hr.units) (pvS 1) (@zY _ _ _ _ zc) (qc _)) (zg (zH (pvS 0))) qt) (@ze _ _ _ _ _ (@zC _ _ 2 _ _ _ _ Yz.nd rfl (Xy rfl) (@zY _ _ _ _ zc) (by rfl) (.inr rfl)) (ze (zC (i:=3) Yz.nd rfl (Xy rfl) (jS Ql (by rfl) T.zjr PV (za (pvS 1) zc))) (ze (qy WT rfl (zM (pvS 0)) (zm (i:=4) Yz.nd rfl (SF rfl)) (zg (jt (ZU (zp (zee rfl) (by rfl) T.zjp SH (za (qL (N:=["cell","group"]) (src:=[none,some 4]) (zT.free (O:=(zh JZ).names) (XN:=["groups","cells","apart","together","group"]) rfl rfl ⟨_,rfl⟩ rfl rfl (by decide +kernel) (by decide +kernel) (by decide +kernel) rfl (by decide +kernel)) rfl (zM (pvS 1)) (fun _ _ _ _ _=>(zm (i:=0) (by show W2 (["cell","group"]:List Str);decide +kernel) rfl (Xy rfl))) (fun _ _ _ _ _=>qF) (fun _ _ _ _ _=>(xE (jT (K:=K) (by rfl) hr.units) (pvS 0) (pvS 1) (by rfl)))) zc)) (fun _=>rfl)) (zg (xD (ZK Ww Ro Rn zco (pvS 3) (za (pvS 4) zc)))) (zg (xD (ZK Ww VS VR jO (pvS 2) (za (pvS 4) zc))))))) (zg (zH (zz Zn (pvS 2) (zY (za (zp (ST.zb8 hr.hd) (by rfl) T.zbw Tr (za (jS (ST.zhH hr.units hr.hd) (by rfl) T.znO PyProof.Rows.boot_set (za (pvS 3) zc)) zc)) zc))))))))),?_⟩;refine⟨_,rfl,Qw,fun e he=>?_⟩;have s1:zq H (upd H e (.lst [])):=zd he;refine⟨lD cs,.list [],.lst (SqL.of (s1 _ _ hca)) (zjx (hC.mono s1)),.lst (SqL.of zb) .nil,zdJ _ [],_,rfl,?_⟩;have en:(if false=true then !PyData.eqv (lD cs) (.list []) else WI (lD cs) (.list []))=cs.isEmpty:=by
   show WI _ _=_;exact eq_nil cs
  rw[en];by_cases zh4:cs=[]
  ·rw[show cs.isEmpty=true by rw[zh4];rfl];exact ZW ⟨_,rfl,q1 zh4 _ s1⟩
  rw[show cs.isEmpty=false by rw[US];exact zh4];refine Q0 ?_;generalize upd H e (.lst [])=H1 at *
  refine⟨Qw,fun ap hap=>?_⟩;have s2:=s1.trans (zd (o:=.lst []) hap);have ha2:upd H1 ap (.lst []) ap=some (.lst []):=zb;have hap0:=s1.free hap;generalize upd H1 ap (.lst [])=H2 at *
  refine⟨_,rfl,ca,_,rfl,.inl (SqL.of (s2 _ _ hca)),fun tg htg=>?_⟩;have z3:=zd (o:=.lst us) htg;have s3:=s2.trans z3;have ha3:=z3 _ _ ha2;have ht3:upd H2 tg (.lst us) tg=some (.lst us):=zb;have htg0:=s2.free htg;have nat:ap≠tg:=zk ha2 htg;generalize upd H2 tg (.lst us)=H3 at *
  refine⟨_,rfl,ga,rfl,⟨_,SqL.of (s3 _ _ hga)⟩,?_⟩;refine jg (K:=K) (a:=ga) (xs:=ws) (fun i σ H'=>∃(ut:List V) (v4:Option V),σ=[some (.ref ga),some (.ref ca),some (.ref ap),some (.ref tg),v4]/\zq H H'/\H' ap=some (.lst (Jz (fun g=>!Parts.meets cs g) (ws.take i) (gs.take i)))/\H' tg=some (.lst ut)/\Cel H ut (cs++((gs.take i).filter (Parts.meets cs)).flatten))
   ⟨us,_,rfl,s3,ha3,ht3,by simpa using hC⟩ (fun i σ H' _ ⟨_,_,_,z,_⟩=>SqL.of (z _ _ hga)) ?_ ?_
  ·rintro i x σ H4 hx ⟨ut,v4,rfl,s4,ha4,ht4,hct⟩;obtain⟨g,hg,gad,ug,rfl,hgad,hcg⟩:=jP.get hG hx;have gm:=X0 hg;have tk:(gs.take (i+1)).filter (Parts.meets cs)=(gs.take i).filter (Parts.meets cs)++if Parts.meets cs g=true then [g] else []:=by
    rw[Xm,hg,W6];congr 1;show [g].filter _=_;rw[Wx];rfl
   have pk:=zf4 (fun g=>!Parts.meets cs g) hx hg;refine⟨_,rfl,ca,rfl,⟨_,SqL.of (s4 _ _ hca)⟩,fun z hz=>?_⟩;refine qN (K:=K) (a:=ca) (xs:=us) (fun a=>a≠z) (cs.map fun c=>some (.bool (g.any fun z=>decide (z=c)))) (fun σ=>∃u0,σ=[u0,some (.ref gad)]) hz (fun _ h=>h) ⟨_,rfl⟩ (by rw[Y1];exact hC.length.symm) (by rw[hC.length];exact XV cl63 (by decide)) (SqL.of (s4 _ _ hca)) ?_ ?_
   ·rintro m v o σ H5 hv ho s5 _ ⟨u1,rfl⟩ Y Z yes no;have s05:=s4.trans s5;obtain⟨c,hc,rc⟩:=Cel.get (hC.mono s05) hv;have eo:=xo hc ho;refine Zr ⟨_,rfl,_,rfl,zu c,g.map zu,rc.rdv,.lst (SqL.of (s05 _ _ hgad)) (zjx (hcg.mono s05)),rfl,zeS _,(by show 1<=60;decide),?_⟩;have ei:(if false=true then !(g.map zu).any (fun z=>WI z (zu c)) else (g.map zu).any fun z=>WI z (zu c))=g.any fun z=>decide (z=c):=J7 _ _;rw[ei];exact yes _ _ _ _ eo ⟨_,rfl⟩ (zq.refl _) (.bl _)
   ·rintro ys H5 s5 hz5 hr5;rw[J5,show (cs.map fun c=>S9 (g.any fun z=>decide (z=c)))=(cs.map fun c=>g.any fun z=>decide (z=c)).map S9 by rw[We];rfl] at hr5;rw[zw.bools hr5] at hz5;refine⟨z,_,rfl,SqL.of hz5,_,rfl,?_⟩;rw[zh2];have s05:=s4.trans s5;have ha5:=s5 _ _ ha4;have ht5:=s5 _ _ ht4;have gsub:∀(q:List (Nat×Nat)->Bool) (j:Nat),(((gs.take j).filter q).flatten).length<=63:=fun q j=>by
     refine XV (VW ?_) fl63;refine List.Sublist.trans (Parts.qH q (gs.take j)) ?_;have e2:gs=gs.take j++gs.drop j:=(WC j gs).symm;conv=>rhs;rw[e2,Wo]
     exact Tq _ _
    by_cases hp:Parts.meets cs g=true
    ·refine JD hp ?_;refine⟨_,rfl,.inl ⟨rfl,_,SqL.of ht5⟩,_,rfl,tg,gad,ut,ug,rfl,rfl,ht5,s05 _ _ hgad,?_,?_⟩
     ·rw[hct.length,hcg.length,XZ];have a1:=gsub (Parts.meets cs) i;have a2:g.length<=63:=XV (VW (Wu gm)) fl63;exact XV (show _<=200 by lia) (by decide)
     ·refine⟨ut++ug,_,rfl,fun b o eb=>?_,?_,zb,?_⟩
      ·rw[zj (zk eb htg0)];exact s05 _ _ eb
      ·rw[zj nat,pk,hp];simpa using ha5
      ·rw[tk,if_pos hp,Wo,<- W7];simpa using Cel.append hct hcg
    ·have hp2:=WZ.mpr hp;refine Jk hp2 ?_;refine⟨_,rfl,.inl ⟨rfl,_,SqL.of ha5⟩,_,rfl,ap,_,_,rfl,rfl,ha5,?_,?_⟩
     ·refine Xe (VW ((J9 _ _ _).trans (T8 _ _))) ?_;rw[hG.length];exact Xe g63 (by decide)
     ·refine⟨ut,_,rfl,fun b o eb=>?_,?_,?_,?_⟩
      ·rw[zj (zk eb hap0)];exact s05 _ _ eb
      ·rw[zb,pk,hp2];rfl
      ·rw[zj (Vy nat)];exact ht5
      ·rw[tk,if_neg hp,W0];exact hct
  ·rintro σ H4 ⟨ut,v4,rfl,s4,ha4,ht4,hct⟩;rw[Xq,hG.length,Xq] at ha4;rw[hG.length,Xq] at hct;generalize hl:cs++(gs.filter (Parts.meets cs)).flatten=l at hct;have lB:∀x∈l,x∈B:=fun x hx=>by
    rw[<- hl] at hx;rcases XI.mp hx with hx | hx
    ·exact cB x hx
    ·exact gB x ((Parts.qH _ gs).subset hx)
   refine⟨_,rfl,_,rfl,tg,ut,_,rfl,SqL.of ht4,Cel.tup2 (hct.mono s4),(fun p hp=>?_),(fun m hm hs=>?_),fun ds ks hds hT hnd hmem=>?_⟩
   ·obtain⟨x,hx,rfl⟩:=XB.mp hp;have:=B8 x (lB x hx);unfold ST.InB toI;show (0<=((x.1:Nat):Int)/\((x.1:Nat):Int)<8)/\(0<=((x.2:Nat):Int)/\((x.2:Nat):Int)<8);lia
   ·have h1:=zdK hs;have h2:(m.map ofI).Nodup:=by
     rw[h1] at hm;unfold W2 at hm ⊢;rw[Wd] at hm;exact hm.imp fun z e=>z (by rw[e])
    have h3:=Parts.jY (b:=B) h2 fun x hx=>by
     obtain⟨c,hc,rfl⟩:=XB.mp hx;obtain⟨y,hy,rfl⟩:=XB.mp (hs c hc);exact lB y hy
    rw[Y1] at h3;lia
   have z5:=zd (o:=ST.zew P w ds ks) hds;have hks:∀c∈ks.map (·.2),c∈l.map toI:=fun c hc=>(hmem c).mp hc;have kl:ks.length<=63:=by
    have h1:=zdK hks;have h2:((ks.map (·.2)).map ofI).Nodup:=by
     rw[h1] at hnd;unfold W2 at hnd ⊢;rw[Wd] at hnd;exact hnd.imp fun z e=>z (by rw[e])
    have h3:=Parts.jY (b:=B) h2 fun x hx=>by
     obtain⟨c,hc,rfl⟩:=XB.mp hx;obtain⟨y,hy,rfl⟩:=XB.mp (hks c hc);exact lB y hy
    rw[Y1,Y1] at h3;lia
   have hds5:upd H4 ds (ST.zew P w ds ks) ds=some (ST.zew P w ds ks):=zb;have s5:=s4.trans z5;have ha5:=z5 _ _ ha4;have hT5:∀q∈ks,upd H4 ds (ST.zew P w ds ks) q.1=some (.tup [.int q.2.1,.int q.2.2]):=fun q hq=>z5 _ _ (hT q hq);refine⟨ds,ks,rfl,hds5,hT5,hnd,(by lia),fun wa us' ps' hwa ht zcX hup=>?_⟩;rw[zdK hks] at zcX;obtain⟨wc,rfl,hperm2⟩:=zkZ zcX;have z6:=zd (o:=.lst us') hwa;refine⟨sz_1,fun p1 hp1=>?_⟩;have z7:=zd (o:=.lst [V.ref wa]) hp1;have z67:=z6.trans z7;refine⟨ap,p1,_,[.ref wa],rfl,rfl,z67 _ _ ha5,zb,?_,fun k2 hk2=>?_⟩
   ·have a1:(Jz (fun g=>!Parts.meets cs g) ws gs).length<=63:=XV (VW (J9 _ _ _)) (by rw[hG.length];exact g63);exact XV (show _+1<=200 by lia) (by decide)
   ·have z8:=zd (o:=.lst (Jz (fun g=>!Parts.meets cs g) ws gs++[.ref wa])) hk2;have s8:=s5.trans (z67.trans z8);refine q2 zh4 k2 wa _ wc _ ((s5.trans z67).free hk2) (s5.free hwa) zb (J9 _ _ _) ?_ (zmI hup) (fun x=>?_) s8
    ·exact jP.snoc ((YW _ hG).mono s8) ⟨wa,us',rfl,z8 _ _ (z7 _ _ zb),Cel.mono (z67.trans z8) (Jy ht)⟩
    ·rw[hperm2.mem_iff,XB];have hx:(∃a,a∈ks.map (·.2)/\ofI a=x)↔x∈l:=by
      constructor
      ·rintro⟨c,hc,rfl⟩;obtain⟨y,hy,rfl⟩:=XB.mp (hks c hc);exact hy
      ·intro h;exact⟨toI x,(hmem _).mpr (XB.mpr ⟨x,h,rfl⟩),rfl⟩
     rw[hx,<- hl,XI,WE];constructor
     ·rintro(h | ⟨g,h1,h2⟩)
      ·exact .inl h
      ·exact .inr ⟨g,(XS.mp h1).1,(XS.mp h1).2,h2⟩
     ·rintro(h | ⟨g,h1,h2,h3⟩)
      ·exact .inl h
      ·exact .inr ⟨g,XS.mpr ⟨h1,h2⟩,h3⟩
def zk0:Sp:=fun vs H Q _=>∃(p l:Addr) (rs:List Str) (n:Int),vs=[.ref p]/\qC H p l rs n/\Rows bd.cps.toList rs /\
 ∀(d:Addr) (ws:List V) (gs:List (List (Nat×Nat))) (H':Hp),H d=none->H' d=some (.lst ws)->jP H' ws gs->ws.Nodup->(∀v∈ws,∃a,v=V.ref a/\H a=none/\a≠d)->Parts.Good (clA rs) (zL rs) gs->Up2 (heads gs)->zq H H'->Q (.ref d) H'
theorem zf5 {rs:List Str}(R:Rows bd.cps.toList rs){x:Nat×Nat}(h:x∈zW rs):x.1<8/\x.2<8:=by
 obtain⟨t,k,ht,hj,_,_⟩:=qe h;have a:=(X2.mp ht).1;have b:=(X2.mp hj).1;have e:=R.hi;have g:=R.short _ (X0 (j3 ht));lia
theorem jP.some {H:Hp}{ws:List V}{gs:List (List (Nat×Nat))}(h:jP H ws gs):∀v∈ws,∃a us,v=V.ref a/\H a=some (.lst us):=by
 intro v hv;obtain⟨_,_,a,us,e,h1,_⟩:=zix h hv;exact⟨a,us,e,h1⟩
theorem zjz {H:Hp}{ws:List V}{gs:List (List (Nat×Nat))}(h:jP H ws gs):W9 (GS.LstAt H) ws (gs.map (Uh toI)):=by
 induction h with
 | nil=>exact .nil
 | cons r _ ih =>
  obtain⟨a,us,e,h1,h2⟩:=r;exact .cons ⟨a,us,e,h1,h2.tup2⟩ ih
theorem zjA {H:Hp}:∀{gs:List (List (Nat×Nat))} {ws:List V},W9 (GS.LstAt H) ws (gs.map (Uh toI))->jP H ws gs:=by
 intro gs;induction gs with
 | nil =>
  intro ws h;cases h;exact .nil
 | cons g r ih =>
  intro ws h;cases h with
  | cons q t =>
   obtain⟨a,us,e,h1,h2⟩:=q;exact .cons ⟨a,us,e,h1,Jy h2⟩ (ih t)
theorem zeT {ks:List (List (Int×Int))}{gs:List (List (Nat×Nat))}(h:ks.Perm (gs.map (Uh toI))):∃ds:List (List (Nat×Nat)),ks=ds.map (Uh toI)/\ds.Perm gs:=by
 have oo:∀g:List (Nat×Nat),(g.map toI).map ofI=g:=fun g=>by
  rw[We];exact(Xi fun c _=>zg2 c).trans (Sr g)
 refine⟨ks.map (Uh ofI),?_,?_⟩
 ·rw[We];refine(Sr ks).symm.trans (Xi fun p hp=>?_);obtain⟨c,_,rfl⟩:=XB.mp (h.mem_iff.mp hp);show c.map toI=((c.map toI).map ofI).map toI;rw[oo]
 ·have:=h.map (Uh ofI);rw[We] at this;have e:gs.map (Uh ofI∘Uh toI)=gs:=(Xi fun c _=>oo c).trans (Sr gs);rwa [e] at this
theorem zjB {gs:List (List (Nat×Nat))}(h:(gs.map (Uh toI)).Pairwise (fun p q=>PySem.SeqAt.ltL q p=false))(ne:∀g∈gs,g ≠ [])(nd:(heads gs).Nodup):Up2 (heads gs):=by
 induction gs with
 | nil=>exact List.Pairwise.nil
 | cons g r ih =>
  rw[Xs,RS] at h;have nd':toI (g.headD (0,0)) ∉ heads r/\(heads r).Nodup:=VU.mp nd;refine RS.mpr ⟨fun p hp=>?_,ih h.2 (fun x hx=>ne x (XX _ hx)) nd'.2⟩;obtain⟨g2,hg2,rfl⟩:=XB.mp hp;have a:=h.1 _ (XB.mpr ⟨g2,hg2,rfl⟩);have hne:toI (g.headD (0,0))≠toI (g2.headD (0,0)):=fun e=>nd'.1 (e ▸ hp);have n1:=ne g XU;have n2:=ne g2 (XX _ hg2);cases g with
  | nil=>exact absurd rfl n1
  | cons x xs =>
   cases g2 with
   | nil=>exact absurd rfl n2
   | cons y ys =>
    have hne':toI x≠toI y:=hne;show lt2 (toI x) (toI y)=true;have a':(if toI y=toI x then PySem.SeqAt.ltL (ys.map toI) (xs.map toI) else lt2 (toI y) (toI x))=false:=a;rw[if_neg (Vy hne')] at a';have:=zaM hne';rw[a'] at this;cases hh:lt2 (toI x) (toI y) with
    | true=>rfl
    | false =>
     rw[hh] at this;cases this
theorem QK:zF ["board","found","cell"] ["board"] (zh zaS):=⟨rfl,rfl,rfl,by decide +kernel,rfl,by decide +kernel,by decide +kernel⟩
theorem zeU {f1 f2 f3 f4 f5 f6:Addr}{fd1 fd2 fd3 fd4 fd5 fd6:Xk}(T:Txt mg)(D:zo K mg "parts" zaS ["board"] f fd)(zQ:zo K mg "around" yc ["board","cell"] f1 fd1)(zx:zo K mg "sign_at" qO ["board","cell"] f2 fd2)
  (zD:zo K mg "cells_of" qI ["board"] f3 fd3) (zB:zo K mg "open_cells" qB ["board"] f4 fd4) (zO:zo K mg "closed_around" qv ["board","cell"] f5 fd5) (Za:zo K mg "joined" JZ ["groups","cells"] f6 fd6):qi P w K mg base CX0 3 f fd ["board"] zk0:=by
 refine D.F.ok QK (fun vs H Q E h=>?_) (fun cdv A outer s H vs Q E hr h=>?_)
 ·obtain⟨p,l,rs,n,rfl,_⟩:=h;rfl
 ·obtain⟨p,l,rs,n,rfl,b,R,q⟩:=h;refine⟨_,(@ze _ _ _ _ _ (@zC _ _ 1 _ _ _ _ QK.nd rfl (Xy rfl) (@zY _ _ _ _ zc) (by rfl) (.inr rfl)) (ze (qy WT rfl (zM (pc0 (yM T zB zD zx) hr zB (za (pvS 0) zc))) (zm (i:=2) QK.nd rfl (Xy rfl)) (zg (zC (i:=1) QK.nd rfl (Xy rfl) (pc0 (zh3 T Za) hr Za (za (pvS 1) (za (pc0 (J6 T zO zQ zx) hr zO (za (pvS 0) (za (pvS 2) zc))) zc)))))) (zg (zH (zp (GS.YM hr.units) (by rfl) T.zbw Tr (za (pvS 1) zc)))))),?_⟩;refine⟨Qw,fun k0 hk0=>?_⟩;have s0:zq H (upd H k0 (.lst [])):=zd hk0;have hk00:upd H k0 (.lst []) k0=some (.lst []):=zb;generalize upd H k0 (.lst [])=H0 at *
  refine⟨_,rfl,p,l,rs,n,rfl,b.mono s0,R,fun dc wc H1 hdc znR hcc s1=>⟨dc,rfl,⟨_,SqL.of znR⟩,?_⟩⟩;have s01:=s0.trans s1;have b1:=b.mono s01;have hcc:Cel H1 wc (zL rs):=hcc;have o64:=zcV R;refine jg (K:=K) (a:=dc) (xs:=wc) (fun i σ H'=>∃(k:Addr) (ws:List V) (gs:List (List (Nat×Nat))) (v2:Option V),σ=[some (.ref p),some (.ref k),v2]/\zq H1 H'/\H' k=some (.lst ws)/\jP H' ws gs/\ws.Nodup/\(∀v∈ws,∃a,v=V.ref a/\H a=none)/\Parts.Good (clA rs) ((zL rs).take i) gs)
   ⟨k0,[],[],_,rfl,zq.refl _,s1 _ _ hk00,.nil,T0,(fun v h=>nomatch h),Parts.Good.start _⟩ (fun i σ H' _ ⟨_,_,_,_,_,z,_⟩=>SqL.of (z _ _ znR)) ?_ ?_
  ·rintro i x σ H2 hx ⟨k,ws,gs,v2,rfl,s2,hk,hG,wnd,wnew,G⟩;obtain⟨c,hc,ca,rfl,hca⟩:=Cel.get (Cel.mono s2 hcc) hx;have cm:=X0 hc;obtain⟨t,sg,ht,hj,_,es⟩:=qe cm;obtain⟨l1,l2⟩:=Jd R ht hj;have tk:(zL rs).take (i+1)=(zL rs).take i++[c]:=by
    rw[Xm,hc];rfl
   have lshut:(zW rs).length<=63:=by
    have:=Ui cm;lia
   have gB:∀x∈gs.flatten,x∈zW rs:=fun x hx=>by
    obtain⟨o,_,h2⟩:=G.from_ x hx;exact J8 h2
   refine⟨_,rfl,_,rfl,_,rfl,p,l,ca,rs,n,c,rfl,(b1.mono s2),R,hca,l1,l2,fun d ws1 H3 hd hd3 hc3 s3=>?_⟩;have s03:=s01.trans (s2.trans s3);refine⟨k,d,ws,ws1,gs,clA rs c,zW rs,rfl,s3 _ _ hk,hG.mono s3,hd3,hc3,zcW rs c,G.nd,(fun x hx=>J8 hx),gB,(fun x hx=>zf5 R hx),lshut,XV (Parts.Z7 G.ne) (XV (Parts.jY G.nd gB) lshut),(fun zh4 H' s'=>?_),fun hne d2 wa va wc2 H' hd2 hwa hd2' hsub hG' zot hmem s'=>?_⟩
   ·refine⟨k,ws,gs,_,rfl,s2.trans (s3.trans s'),s' _ _ (s3 _ _ hk),(hG.mono s3).mono s',wnd,wnew,?_⟩;rw[tk];exact G.skip zh4
   ·refine⟨d2,_,_,_,rfl,s2.trans (s3.trans s'),hd2',hG',?_,(fun v hv=>?_),?_⟩
    ·rw[V4];refine⟨wnd.sublist hsub,by simp,fun a ha b hb e=>?_⟩;have hb':b=V.ref wa:=by simpa using hb
     subst e;obtain⟨a',us',e1,e2⟩:=jP.some (hG.mono s3) a (hsub.subset ha);rw[hb'] at e1;injection e1 with e1
     rw[<- e1,hwa] at e2;cases e2
    ·rcases XI.mp hv with hv | hv
     ·exact wnew v (hsub.subset hv)
     ·have hb':v=V.ref wa:=by simpa using hv
      exact⟨wa,hb',s03.free hwa⟩
    ·rw[tk];exact zf3 G hne (zcW rs c) zot hmem
  ·rintro σ H2 ⟨k,ws,gs,v2,rfl,s2,hk,hG,wnd,wnew,G⟩;rw[hcc.length,Xq] at G;have gsh:∀x∈gs.flatten,x∈zW rs:=fun x hx=>by
    obtain⟨o,_,h2⟩:=G.from_ x hx;exact J8 h2
   have wl:gs.length<=63:=by
    cases gs with
    | nil=>exact W1 _
    | cons g r =>
     have m1:=head_mem (G.ne g XU);obtain⟨o,ho,_⟩:=G.from_ _ (WE.mpr ⟨g,XU,m1⟩);have:=Ui ho;have h3:=XV (Parts.Z7 G.ne) (Parts.jY (b:=zW rs) G.nd gsh);lia
   refine⟨_,rfl,k,ws,_,rfl,SqL.of hk,zjz hG,(by rw[hG.length];lia),fun d us' ks' hd hl zcX znS pw=>?_⟩;have s3:=zd (o:=.lst us') hd;obtain⟨ds,rfl,pg⟩:=zeT zcX;have G':=G.perm pg;refine q d us' ds _ ((s01.trans s2).free hd) zb ((zjA hl).mono s3) (pw.nodup_iff.mpr wnd) (fun v hv=>?_) G' (zjB znS G'.ne (zay G'.ne G'.nd)) ((s01.trans s2).trans s3);have hv':=pw.mem_iff.mp hv;obtain⟨a,e1,e2⟩:=wnew v hv';obtain⟨a',us',e3,e4⟩:=jP.some hG v hv';refine⟨a,e1,e2,fun z=>?_⟩;rw[e1] at e3;injection e3 with e3
   rw[<- e3,z,hd] at e4;cases e4
def pD (p:Int×Int):Wa:=.tuple [.int p.1,.int p.2]
theorem zmK (p q:Int×Int):WI (pD p) (pD q)=decide (p=q):=PySem.SeqAt.zcs p q
def PR (H:Hp)(v:V)(p:Int×Int):Prop:=∃a,v=V.ref a/\H a=some (.tup [.int p.1,.int p.2])
theorem PR.mono {H H':Hp}(s:zq H H'){v:V}{p:Int×Int}(h:PR H v p):PR H' v p:=let ⟨a,e,h⟩:=h;⟨a,e,s _ _ h⟩
theorem Zb {H H':Hp}(s:zq H H'){us:List V}{ps:List (Int×Int)}(hp:yR H us ps):yR H' us ps:=by
 induction hp with
 | nil=>exact .nil
 | cons h _ ih =>
  exact .cons (PR.mono s h) ih
theorem zeV {H:Hp}{us:List V}{ps:List (Int×Int)}(h:yR H us ps):us.length=ps.length:=Paired.length h
theorem PR.rdv {K:X6}{H:Hp}{v:V}{p:Int×Int}(h:PR H v p):Rdv K H v (pD p):=by
 obtain⟨a,rfl,h⟩:=h;exact .tup (SqT.of h) (.cons (.int _) (.cons (.int _) .nil))
theorem zjC {K:X6}{H:Hp}{us:List V}{ps:List (Int×Int)}(hp:yR H us ps):xg K H us (ps.map pD):=by
 induction hp with
 | nil=>exact .nil
 | cons h _ ih =>
  exact .cons (PR.rdv h) ih
theorem zjD:∀ps:List (Int×Int),VD (ps.map pD)=true
 | []=>rfl
 | p::r=>by
  show (SW (pD p)&&VD (r.map pD))=true;rw[zjD r];rfl
theorem zmL (ps:List (Int×Int))(p:Int×Int):(ps.map pD).any (fun z=>WI z (pD p))=ps.any fun z=>decide (z=p):=by
 rw[TQ];congr 1;funext z;exact zmK z p
theorem zmM (ps:List (Int×Int))(c:Nat×Nat):(ps.map pD).any (fun z=>WI z (zu c))=ps.any fun z=>decide (z=toI c):=zmL ps (toI c)
theorem zjE {H:Hp}{a z:Addr}{o o':HO}(h:H a=some o)(hz:H z=some o')(hne:o≠o'):a≠z:=fun e=>by
 subst e;rw[h] at hz;exact hne (Option.some.inj hz)
theorem zk1 {H:Hp}{z:Addr}{ys ys':List V}(hz:H z=some (.lst ys)){v:V}{p:Int×Int}(h:PR H v p):PR (upd H z (.lst ys')) v p:=by
 obtain⟨a,e,h⟩:=h;refine⟨a,e,?_⟩;rw[zj (zjE h hz (fun z=>nomatch z))];exact h
theorem YA {H:Hp}{z:Addr}{ys ys':List V}(hz:H z=some (.lst ys)){us:List V}{ps:List (Int×Int)}(hp:yR H us ps):yR (upd H z (.lst ys')) us ps:=by
 induction hp with
 | nil=>exact .nil
 | cons h _ ih =>
  exact .cons (zk1 hz h) ih
def jr (N:Addr->Prop)(H:Hp):List V->List (List (Int×Int))->Prop:=W9 fun v k=>∃a ws,v=V.ref a/\N a/\H a=some (.lst ws)/\yR H ws k
theorem qK {N:Addr->Prop}{H H':Hp}(s:zq H H'){us:List V}{ks:List (List (Int×Int))}(hp:jr N H us ks):jr N H' us ks:=by
 induction hp with
 | nil=>exact .nil
 | cons q _ ih =>
  obtain⟨a,ws,e,n,h,t⟩:=q;exact .cons ⟨a,ws,e,n,s _ _ h,Zb s t⟩ ih
theorem YX {N M:Addr->Prop}{H:Hp}(w:∀a,N a->M a){us:List V}{ks:List (List (Int×Int))}(hp:jr N H us ks):jr M H us ks:=by
 induction hp with
 | nil=>exact .nil
 | cons q _ ih =>
  obtain⟨a,ws,e,n,h,t⟩:=q;exact .cons ⟨a,ws,e,w a n,h,t⟩ ih
theorem Je {N:Addr->Prop}{H:Hp}{z:Addr}{ys ys':List V}(hz:H z=some (.lst ys))(w:∀a,N a->a≠z){us:List V}{ks:List (List (Int×Int))}(hp:jr N H us ks):jr N (upd H z (.lst ys')) us ks:=by
 induction hp with
 | nil=>exact .nil
 | cons q _ ih =>
  obtain⟨a,ws,e,n,h,t⟩:=q;exact .cons ⟨a,ws,e,n,by rw[zj (w a n)];exact h,YA hz t⟩ ih
theorem YB {N:Addr->Prop}{H:Hp}{us:List V}{ks:List (List (Int×Int))}{us':List V}{ks':List (List (Int×Int))}(h:jr N H us ks)(k:jr N H us' ks'):jr N H (us++us') (ks++ks'):=za4 h k
theorem jn {N:Addr->Prop}{H:Hp}{us:List V}{ks:List (List (Int×Int))}(h:jr N H us ks):us.length=ks.length:=Paired.length h
theorem QL {N:Addr->Prop}{H:Hp}{us:List V}{ks:List (List (Int×Int))}{i:Nat}{v:V}(h:jr N H us ks)(e:us[i]?=some v):∃k a ws,ks[i]?=some k/\v=V.ref a/\N a/\H a=some (.lst ws)/\yR H ws k:=by
 obtain⟨k,h1,a,ws,h2⟩:=zar h e;exact⟨k,a,ws,h1,h2⟩
theorem zh5 {N:Addr->Prop}{H:Hp}{us:List V}{ks:List (List (Int×Int))}(hp:jr N H us ks):W9 (GS.LstAt H) us ks:=by
 induction hp with
 | nil=>exact .nil
 | cons q _ ih =>
  obtain⟨a,ws,e,_,h,t⟩:=q;exact .cons ⟨a,ws,e,h,t⟩ ih
theorem zjF {N:Addr->Prop}{H:Hp}{us:List V}{ks:List (List (Int×Int))}(hp:W9 (GS.LstAt H) us ks)(n:∀v∈us,∃a,v=V.ref a/\N a):jr N H us ks:=by
 induction hp with
 | nil=>exact .nil
 | cons q _ ih =>
  obtain⟨a,ws,e,h,t⟩:=q;obtain⟨b,e2,n2⟩:=n _ XU;subst e;cases e2;exact .cons ⟨_,ws,rfl,n2,h,t⟩ (ih fun v hv=>n v (XX _ hv))
theorem YC {N:Addr->Prop}{H:Hp}{us:List V}{ks:List (List (Int×Int))}{v:V}(h:jr N H us ks)(e:v∈us):∃a ws,v=V.ref a/\N a/\H a=some (.lst ws):=by
 obtain⟨k,_,a,ws,h1,h2,h3,_⟩:=zix h e;exact⟨a,ws,h1,h2,h3⟩
theorem zjG {H:Hp}{us:List V}{ps:List (Int×Int)}{us':List V}{ps':List (Int×Int)}(h:yR H us ps)(k:yR H us' ps'):yR H (us++us') (ps++ps'):=za4 h k
def nearF (rs:List Str)(c x:Nat×Nat):Bool:=(zE rs c).any fun z=>decide (z=x)
def qV (rs:List Str)(c:Nat×Nat):Int:=((Cells.sgn (codes rs) c:Nat):Int)-48
theorem zh6 (rs:List Str)(c:Nat×Nat):(zE rs c).Nodup:=(xP (Cells.Ys _ 0 (codes rs))).sublist VQ
theorem zjH {rs:List Str}{o:Nat×Nat}{q:List (Nat×Nat)}(hq:q.Nodup):((zE rs o).filter fun x=>q.any fun z=>decide (z=x)).length=Grow.cnt (nearF rs) o q:=by
 unfold Grow.cnt;refine List.Perm.length_eq ((V7 ((zh6 rs o).sublist VQ) (hq.sublist VQ)).mpr fun x=>?_);rw[XS,XS];unfold nearF;rw[Wj,Wj];constructor
 ·rintro⟨h1,y,hy,e⟩;have e2:y=x:=of_decide_eq_true e;subst e2;exact⟨hy,y,h1,decide_eq_true rfl⟩
 ·rintro⟨h1,y,hy,e⟩;have e2:y=x:=of_decide_eq_true e;subst e2;exact⟨hy,y,h1,decide_eq_true rfl⟩
def zeW (H:Hp)(rs:List Str)(v:V)(o:Nat×Nat):Prop:=∃a na wn,v=V.ref a/\H a=some (.tup [.int (qV rs o),.ref na])/\H na=some (.lst wn)/\Cel H wn (zE rs o)
def zeX (H:Hp)(rs:List Str)(rest:List (Nat×Nat))(v:V)(o:Nat×Nat):Prop:=∃a na wn,v=V.ref a/\H a=some (.tup [.int (qV rs o-((Grow.cnt (nearF rs) o rest:Nat):Int)),.int (qV rs o),.ref na])/\H na=some (.lst wn)/\Cel H wn (zE rs o)
theorem zh7 {H H':Hp}(s:zq H H'){rs:List Str}{vs:List V}{cs:List (Nat×Nat)}(hp:W9 (zeW H rs) vs cs):W9 (zeW H' rs) vs cs:=by
 induction hp with
 | nil=>exact .nil
 | cons q _ ih =>
  obtain⟨a,na,wn,e,h1,h3,h4⟩:=q;exact .cons ⟨a,na,wn,e,s _ _ h1,s _ _ h3,h4.mono s⟩ ih
theorem zai {H H':Hp}(s:zq H H'){rs:List Str}{rest:List (Nat×Nat)}{vs:List V}{cs:List (Nat×Nat)}(hp:W9 (zeX H rs rest) vs cs):W9 (zeX H' rs rest) vs cs:=by
 induction hp with
 | nil=>exact .nil
 | cons q _ ih =>
  obtain⟨a,na,wn,e,h1,h3,h4⟩:=q;exact .cons ⟨a,na,wn,e,s _ _ h1,s _ _ h3,h4.mono s⟩ ih
theorem JV {α β:Type}{R:α->β->Prop}{vs:List α}{cs:List β}{i:Nat}{v:α}(h:W9 R vs cs)(e:vs[i]?=some v):∃c,cs[i]?=some c/\R v c:=zar h e
theorem zf6 {α β:Type}{R:α->β->Prop}{us:List α}{cs:List β}{us':List α}{cs':List β}(h:W9 R us cs)(k:W9 R us' cs'):W9 R (us++us') (cs++cs'):=za4 h k
def zcY (H H':Hp)(rs:List Str)(rest:List (Nat×Nat))(v:V)(o:Nat×Nat):Prop:=∃a na wn,v=V.ref a/\H' a=some (.tup [.int (qV rs o-((Grow.cnt (nearF rs) o rest:Nat):Int)),.int (qV rs o),.ref na])/\H na=some (.lst wn)/\Cel H wn (zE rs o)
theorem zf7 {H H1 H2:Hp}(s:zq H1 H2){rs:List Str}{rest:List (Nat×Nat)}{vs:List V}{cs:List (Nat×Nat)}(hp:W9 (zcY H H1 rs rest) vs cs):W9 (zcY H H2 rs rest) vs cs:=by
 induction hp with
 | nil=>exact .nil
 | cons q _ ih =>
  obtain⟨a,na,wn,e,h1,h3,h4⟩:=q;exact .cons ⟨a,na,wn,e,s _ _ h1,h3,h4⟩ ih
theorem zbB {H H1:Hp}{z:Addr}{ys ys':List V}(hz:H1 z=some (.lst ys)){rs:List Str}{rest:List (Nat×Nat)}:∀{vs:List V} {cs:List (Nat×Nat)},W9 (zcY H H1 rs rest) vs cs->W9 (zcY H (upd H1 z (.lst ys')) rs rest) vs cs
 | _,_,.nil=>.nil
 | _,_,.cons ⟨a,na,wn,e,h1,h3,h4⟩ t=>.cons ⟨a,na,wn,e,by
   have ne:a≠z:=fun e=>by
    subst e;rw[h1] at hz;cases hz
   rw[zj ne];exact h1,h3,h4⟩ (zbB hz t)
theorem zf8 {H H1:Hp}(s:zq H H1){rs:List Str}{rest:List (Nat×Nat)}{vs:List V}{cs:List (Nat×Nat)}(hp:W9 (zcY H H1 rs rest) vs cs):W9 (zeX H1 rs rest) vs cs:=by
 induction hp with
 | nil=>exact .nil
 | cons q _ ih =>
  obtain⟨a,na,wn,e,h1,h3,h4⟩:=q;exact .cons ⟨a,na,wn,e,h1,s _ _ h3,h4.mono s⟩ ih
def zk2:Sp:=fun vs H Q _=>∃(ta ca ra:Addr) (ut ur:List V) (rs:List Str) (O rest:List (Nat×Nat)) (c:Nat×Nat),vs=[.ref ta,.ref ca,.ref ra]/\H ta=some (.lst ut)/\W9 (zeW H rs) ut O/\O.length<=64/\Rows bd.cps.toList rs/\H ca=some (.tup [.int (c.1:Nat),.int (c.2:Nat)])/\H ra=some (.lst ur)/\Cel H ur rest/\rest.Nodup /\
 ∀(d:Addr) (uw:List V) (H':Hp),H' d=some (.lst uw)->W9 (zeX H' rs rest) uw (O.filter fun o=>nearF rs o c)->zq H H'->Q (.ref d) H'
def znT:Sp:=fun vs H Q _=>∃(na pa:Addr) (un up:List V) (rs:List Str) (rest O q:List (Nat×Nat)),vs=[.ref na,.ref pa]/\H na=some (.lst un)/\W9 (zeX H rs rest) un O/\H pa=some (.lst up)/\Cel H up q/\q.length<=64 /\
 ∀H':Hp,zq H H'->Q (.bl (O.all fun o=>Grow.zbn (nearF rs) (qV rs) rest o q)) H'
theorem yX:zF ["told","cell","rest","needs","number","near","left"] ["told","cell","rest"] (zh Jb):=⟨rfl,rfl,rfl,by decide +kernel,rfl,by decide +kernel,by decide +kernel⟩
theorem zeY (T:Txt mg)(D:zo K mg "needs_at" Jb ["told","cell","rest"] f fd):qi P w K mg base CX0 1 f fd ["told","cell","rest"] zk2:=by
 refine D.F.ok yX (fun vs H Q E h=>?_) (fun cdv A outer s H vs Q E hr h=>?_)
 ·obtain⟨ta,ca,ra,ut,ur,rs,O,rest,c,rfl,_⟩:=h;rfl
 ·obtain⟨ta,ca,ra,ut,ur,rs,O,rest,c,rfl,hta,hT,ol,R,hca,hra,hcr,rnd,q⟩:=h;refine⟨_,(@ze _ _ _ _ _ (@zC _ _ 3 _ _ _ _ yX.nd rfl (Xy rfl) (@zY _ _ _ _ zc) (by rfl) (.inr rfl)) (ze (qy WT rfl (zM (pvS 0)) (yq rfl (zI (zm (i:=4) yX.nd rfl (Xy rfl)) (zI (zm (i:=5) yX.nd rfl (Xy rfl)) ja))) (zg (jt (zU (za1 hr.units) (pvS 1) (pvS 5) (by rfl)) (ze (zC (i:=6) yX.nd rfl (Xy rfl) (zp zJ (by rfl) T.yj Wt (za (qL (N:=["place","rest"]) (src:=[none,some 2]) (zT.free (O:=(zh Jb).names) (XN:=["told","cell","rest","needs","number","near","left"]) rfl rfl ⟨_,rfl⟩ rfl rfl (by decide +kernel) (by decide +kernel) (by decide +kernel) rfl (by decide +kernel)) rfl (zM (pvS 5)) (fun _ _ _ _ _=>(zm (i:=0) (by show W2 (["place","rest"]:List Str);decide +kernel) rfl (Xy rfl))) (fun _ _ _ _ _=>(jh (zU (jT (K:=K) (by rfl) hr.units) (pvS 0) (pvS 1) (by rfl)))) (fun _ _ _ _ _=>(pvS 0))) zc))) (zg (xD (ZK Ww VS VR jO (pvS 3) (za (jN (za (zz jb (pvS 4) (pvS 6)) (za (pvS 4) (za (pvS 5) zc)))) zc))))) qt))) (zg (zH (pvS 3))))),?_⟩;refine⟨Qw,fun d hd=>?_⟩;have s0:=zd (o:=.lst []) hd;refine⟨_,rfl,ta,rfl,⟨_,SqL.of (s0 _ _ hta)⟩,?_⟩;refine jg (K:=K) (a:=ta) (xs:=ut) (fun i σ H'=>∃(uw:List V) (v4 v5 v6:Option V),σ=[some (.ref ta),some (.ref ca),some (.ref ra),some (.ref d),v4,v5,v6]/\zq H H'/\H' d=some (.lst uw)/\W9 (zcY H H' rs rest) uw ((O.take i).filter fun o=>nearF rs o c))
   ⟨[],_,_,_,rfl,s0,zb,.nil⟩ (fun i σ H' _ ⟨_,_,_,_,_,z,_⟩=>SqL.of (z _ _ hta)) ?_ ?_
  ·rintro i x σ H1 hx ⟨uw,v4,v5,v6,rfl,s1,hd1,hN⟩;obtain⟨o,ho,a,na,wn,rfl,ha0,hna0,hcn0⟩:=JV hT hx;have ha:=s1 _ _ ha0;have hna:=s1 _ _ hna0;have hcn:=hcn0.mono s1;have tk:O.take (i+1)=O.take i++[o]:=by
    rw[Xm,ho];rfl
   refine⟨a,_,rfl,SqT.of ha,rfl,_,_,rfl,_,_,rfl,rfl,?_⟩;refine⟨_,rfl,_,rfl,zu c,(zE rs o).map zu,J2.rdv ⟨ca,rfl,s1 _ _ hca⟩,.lst (SqL.of hna) (zjx hcn),rfl,zeS _,(by show 1<=60;decide),_,rfl,?_⟩;have ei:(if false=true then !((zE rs o).map zu).any (fun z=>WI z (zu c)) else ((zE rs o).map zu).any fun z=>WI z (zu c))=nearF rs o c:=J7 _ _;rw[ei,tk,W6];by_cases hp:nearF rs o c=true
   ·have ef:[o].filter (fun o=>nearF rs o c)=[o]:=by
     rw[Wx,if_pos hp];rfl
    rw[ef];refine JD hp ⟨_,rfl,na,rfl,⟨_,SqL.of hna⟩,fun z hz=>?_⟩;refine qN (K:=K) (a:=na) (xs:=wn) (fun a=>a≠z) ((zE rs o).map fun x=>if (rest.any fun z=>decide (z=x))=true then some (zu x) else none) (fun σ=>∃u0,σ=[u0,some (.ref ra)]) hz (fun _ h=>h) ⟨_,rfl⟩ (by rw[Y1];exact hcn.length.symm) (by rw[hcn.length];exact XV (JG R o) (by decide)) (SqL.of hna) ?_ ?_
    ·rintro m v u σ H2 hv hu s2 _ ⟨u1,rfl⟩ Y Z yes no;obtain⟨e,he,rc⟩:=Cel.get (hcn.mono s2) hv;have eo:=xo he hu;refine⟨_,rfl,_,rfl,zu e,rest.map zu,rc.rdv,.lst (SqL.of (s2 _ _ (s1 _ _ hra))) (zjx ((hcr.mono s1).mono s2)),rfl,zeS _,(by show 1<=60;decide),_,rfl,?_⟩;have ei:(if false=true then !(rest.map zu).any (fun z=>WI z (zu e)) else (rest.map zu).any fun z=>WI z (zu e))=rest.any fun z=>decide (z=e):=J7 _ _;rw[ei];by_cases hp:(rest.any fun z=>decide (z=e))=true
     ·rw[if_pos hp] at eo;exact JD hp ⟨_,rfl,yes _ _ _ _ eo ⟨_,rfl⟩ (zq.refl _) rc.rdn⟩
     ·rw[if_neg hp] at eo;exact Jk (WZ.mpr hp) (no _ _ eo ⟨_,rfl⟩ (zq.refl _))
    rintro ys H2 s2 hz2 hr2;have er:((zE rs o).map fun x=>if (rest.any fun z=>decide (z=x))=true then some (zu x) else none).filterMap id=((zE rs o).filter fun x=>rest.any fun z=>decide (z=x)).map zu:=qS _ _ _;rw[er] at hr2;have yl:ys.length=Grow.cnt (nearF rs) o rest:=(zw.cel hr2).length.trans (zjH rnd);have hd2:=s2 _ _ hd1;refine⟨z,ys,rfl,.inl (SqL.of hz2),?_⟩;rw[yl];refine⟨_,rfl,.inl ⟨rfl,_,SqL.of hd2⟩,_,rfl,_,rfl,_,_,rfl,rfl,_,rfl,_,rfl,zeA,fun tt htt=>?_⟩;have z3:=zd (o:=.tup [.int (qV rs o-((Grow.cnt (nearF rs) o rest:Nat):Int)),.int (qV rs o),.ref na]) htt;have s23:=s2.trans z3;have uwl:uw.length<=64:=by
     rw[Paired.length hN];refine XV (WX _ _) ?_;rw[XD];lia
    have hd3:=z3 _ _ hd2;refine⟨d,uw,_,rfl,rfl,hd3,Xe uwl (by decide),uw++[.ref tt],_,_,_,rfl,fun b e' h'=>?_,zb,zf6 (zbB hd3 (zf7 s23 hN)) (.cons ⟨tt,na,wn,rfl,?_,hna0,hcn0⟩ .nil)⟩
    ·rw[zj (zk h' hd)];exact s23 _ _ (s1 _ _ h')
    ·have ne:tt≠d:=fun e=>by
      subst e;rw[hd2] at htt;cases htt
     rw[zj ne,zb]
   ·have ef:[o].filter (fun o=>nearF rs o c)=[]:=by
     rw[Wx,if_neg hp];rfl
    rw[ef,W0];exact Jk (WZ.mpr hp) ⟨uw,_,_,_,rfl,s1,hd1,hN⟩
  ·rintro σ H1 ⟨uw,v4,v5,v6,rfl,s1,hd1,hN⟩;rw[Paired.length hT,Xq] at hN;exact⟨_,rfl,q d uw H1 hd1 (zf8 s1 hN) s1⟩
theorem ZA:zF ["needs","pick","least","most","near"] ["needs","pick"] (zh J0):=⟨rfl,rfl,rfl,by decide +kernel,rfl,by decide +kernel,by decide +kernel⟩
theorem zf9 (T:Txt mg)(D:zo K mg "may_fit" J0 ["needs","pick"] f fd):qi P w K mg base CX0 1 f fd ["needs","pick"] znT:=by
 refine D.F.ok ZA (fun vs H Q E h=>?_) (fun cdv A outer s H vs Q E hr h=>?_)
 ·obtain⟨na,pa,un,up,rs,rest,O,p,rfl,_⟩:=h;rfl
 ·obtain⟨na,pa,un,up,rs,rest,O,p,rfl,hna,hN,hpa,hcp,pl,q⟩:=h;refine⟨_,(ze (qy WT rfl (zM (pvS 0)) (yq rfl (zI (zm (i:=2) ZA.nd rfl (Xy rfl)) (zI (zm (i:=3) ZA.nd rfl (Xy rfl)) (zI (zm (i:=4) ZA.nd rfl (SF rfl)) ja)))) (zg (jt (zdi (zd3 zdF zdF (pvS 2) (zp zJ (by rfl) T.yj Wt (za (qL (N:=["cell","near"]) (src:=[none,some 4]) (zT.free (O:=(zh J0).names) (XN:=["needs","pick","least","most","near"]) rfl rfl ⟨_,rfl⟩ rfl rfl (by decide +kernel) (by decide +kernel) (by decide +kernel) rfl (by decide +kernel)) rfl (zM (pvS 1)) (fun _ _ _ _ _=>(zm (i:=0) (by show W2 (["cell","near"]:List Str);decide +kernel) rfl (Xy rfl))) (fun _ _ _ _ _=>(jh (zU (jT (K:=K) (by rfl) hr.units) (pvS 0) (pvS 1) (by rfl)))) (fun _ _ _ _ _=>(pvS 0))) zc)) (pvS 3))) (@zg _ _ _ (@zH _ _ _ _ zci)) qt))) (@zg _ _ _ (@zH _ _ _ _ zci))),?_⟩;refine⟨_,rfl,na,rfl,⟨_,SqL.of hna⟩,?_⟩;refine jg (K:=K) (a:=na) (xs:=un) (fun i σ H'=>∃(v2 v3 v4:Option V),σ=[some (.ref na),some (.ref pa),v2,v3,v4]/\zq H H'/\∀o∈O.take i,Grow.zbn (nearF rs) (qV rs) rest o p=true)
   ⟨_,_,_,rfl,zq.refl _,fun o ho=>by simp at ho⟩ (fun i σ H' _ ⟨_,_,_,_,z,_⟩=>SqL.of (z _ _ hna)) ?_ ?_
  ·rintro i x σ H1 hx ⟨v2,v3,v4,rfl,s1,hall⟩;obtain⟨o,ho,a,ra,wn,rfl,ha,hra,hcn⟩:=JV (zai s1 hN) hx;refine⟨a,_,rfl,SqT.of ha,rfl,_,_,rfl,_,_,rfl,_,_,rfl,rfl,?_⟩;refine⟨_,rfl,_,rfl,pa,rfl,⟨_,SqL.of (s1 _ _ hpa)⟩,fun z hz=>?_⟩;refine qN (K:=K) (a:=pa) (xs:=up) (fun a=>a≠z) (p.map fun x=>if nearF rs o x=true then some (zu x) else none) (fun σ=>∃u0,σ=[u0,some (.ref ra)]) hz (fun _ h=>h) ⟨_,rfl⟩ (by rw[Y1];exact hcp.length.symm) (by rw[hcp.length];exact XV pl (by decide)) (SqL.of (s1 _ _ hpa)) ?_ ?_
   ·rintro m v u σ H2 hv hu s2 _ ⟨u1,rfl⟩ Y Z yes no;obtain⟨e,he,rc⟩:=Cel.get ((hcp.mono s1).mono s2) hv;have eo:=xo he hu;refine⟨_,rfl,_,rfl,zu e,(zE rs o).map zu,rc.rdv,.lst (SqL.of (s2 _ _ hra)) (zjx (hcn.mono s2)),rfl,zeS _,(by show 1<=60;decide),_,rfl,?_⟩;have ei:(if false=true then !((zE rs o).map zu).any (fun z=>WI z (zu e)) else ((zE rs o).map zu).any fun z=>WI z (zu e))=nearF rs o e:=J7 _ _;rw[ei];by_cases hp:nearF rs o e=true
    ·rw[if_pos hp] at eo;exact JD hp ⟨_,rfl,yes _ _ _ _ eo ⟨_,rfl⟩ (zq.refl _) rc.rdn⟩
    ·rw[if_neg hp] at eo;exact Jk (WZ.mpr hp) (no _ _ eo ⟨_,rfl⟩ (zq.refl _))
   rintro ys H2 s2 hz2 hr2;have er:(p.map fun x=>if nearF rs o x=true then some (zu x) else none).filterMap id=(p.filter (nearF rs o)).map zu:=qS _ _ _;rw[er] at hr2;have yl:ys.length=Grow.cnt (nearF rs) o p:=(zw.cel hr2).length;refine⟨z,ys,rfl,.inl (SqL.of hz2),?_⟩;rw[yl];have om:=X0 ho;have tk:O.take (i+1)=O.take i++[o]:=by
    rw[Xm,ho];rfl
   have bad:Grow.zbn (nearF rs) (qV rs) rest o p=false->Q (.bl false) H2:=fun e=>by
    have e2:(O.all fun o=>Grow.zbn (nearF rs) (qV rs) rest o p)=false:=WZ.mpr fun z=>by
     have:=WD.mp z o om;rw[e] at this;cases this
    rw[e2] at q;exact q _ (s1.trans s2)
   refine⟨_,_,rfl,rfl,_,rfl,?_⟩;by_cases h1:qV rs o-((Grow.cnt (nearF rs) o rest:Nat):Int)<=((Grow.cnt (nearF rs) o p:Nat):Int)
   ·rw[decide_eq_true h1];refine ZW ⟨_,rfl,_,_,rfl,rfl,_,rfl,?_⟩;by_cases h2:((Grow.cnt (nearF rs) o p:Nat):Int)<=qV rs o
    ·rw[decide_eq_true h2];refine Q0 ⟨_,_,_,rfl,s1.trans s2,fun o' ho'=>?_⟩;rw[tk] at ho';rcases XI.mp ho' with ho' | ho'
     ·exact hall o' ho'
     ·have e:o'=o:=by simpa using ho'
      rw[e];exact Grow.jM.mpr ⟨h1,h2⟩
    ·rw[decide_eq_false h2];exact ZW (bad (WZ.mpr fun z=>h2 (Grow.jM.mp z).2))
   ·rw[decide_eq_false h1];refine Q0 ⟨_,rfl,?_⟩;exact ZW (bad (WZ.mpr fun z=>h1 (Grow.jM.mp z).1))
  ·rintro σ H1 ⟨v2,v3,v4,rfl,s1,hall⟩;rw[Paired.length hN,Xq] at hall;have e:(O.all fun o=>Grow.zbn (nearF rs) (qV rs) rest o p)=true:=WD.mpr hall;rw[e] at q;exact q H1 s1
def toL (q:List (Nat×Nat)):List (Int×Int):=q.map toI
def zou (CG:Addr):Sp:=fun vs H Q E=>∃(a l pa:Addr) (rs:List Str) (n:Int) (ups:List V) (part:List (Nat×Nat)),vs=[.ref a,.ref pa]/\qC H a l rs n/\Rows bd.cps.toList rs/\H pa=some (.lst ups)/\Cel H ups part/\part.Nodup/\part.length<=64/\(14<part.length->∀H',zq H H'->E (.ref CG) none H')/\(part.length<=14 ->
 ∀(d:Addr) (ws:List V) (ks:List (List (Int×Int))) (H':Hp),H d=none->H' d=some (.lst ws)->jr (fun a=>H a=none/\a≠d) H' ws ks->ws.Nodup->ks.Perm (((Subs.subs part).filter (Grow.fits (nearF rs) (qV rs) (xK rs part) part)).map toL)->ks.Pairwise (fun p q=>PySem.SeqAt.ltL q p=false)->zq H H'->Q (.ref d) H')
def jc (rs:List Str)(part:List (Nat×Nat)):Nat->List (List (Nat×Nat))
 | 0=>[[]]
 | i+1=>match part[i]? with
  | some c=>(Subs.step (jc rs part i) c).filter (Grow.chk (nearF rs) (qV rs) (xK rs part) c (part.drop (i+1)))
  | none=>jc rs part i
theorem zbC {rs:List Str}{part:List (Nat×Nat)}{i:Nat}{c:Nat×Nat}(h:part[i]?=some c):jc rs part (i+1)=(Subs.step (jc rs part i) c).filter (Grow.chk (nearF rs) (qV rs) (xK rs part) c (part.drop (i+1))):=by
 show (match part[i]? with | some c=>_ | none=>_)=_;rw[h]
theorem zbD {rs:List Str}{part:List (Nat×Nat)}:∀(k i:Nat),part.length-i=k->i<=part.length->Grow.grow (nearF rs) (qV rs) (xK rs part) (jc rs part i) (part.drop i)=jc rs part part.length
 | 0,i,h,hi=>by
  have e:i=part.length:=by lia
  subst e;rw[List.drop_length];rfl
 | k+1,i,h,hi=>by
  have hl:i<part.length:=by lia
  rw[WF hl];show Grow.grow _ _ _ ((Subs.step (jc rs part i) part[i]).filter _) (part.drop (i+1))=_;rw[<- zbC (X4 hl)];exact zbD k (i+1) (by lia) (by lia)
theorem zcZ (rs:List Str)(part:List (Nat×Nat)):jc rs part part.length=(Subs.subs part).filter (Grow.fits (nearF rs) (qV rs) (xK rs part) part):=by
 rw[<- Grow.zkN];exact(zbD (rs:=rs) (part:=part) part.length 0 (by lia) (W1 _)).symm
theorem YD (rs:List Str)(part:List (Nat×Nat)):∀i,(jc rs part i).length<=2^i
 | 0=>XW _
 | i+1=>by
  have ih:=YD rs part i;show (match part[i]? with | some c=>_ | none=>_:List (List (Nat×Nat))).length<=_;rw[UN];split
  ·refine XV (WX _ _) ?_;unfold Subs.step;rw[XZ,Y1];lia
  ·lia
theorem zbE (rs:List Str)(part:List (Nat×Nat)):∀i,∀q∈jc rs part i,q.length<=i
 | 0,q,h=>by
  have e:q=[]:=by simpa[jc] using h
  rw[e];exact XW _
 | i+1,q,h=>by
  have ih:=zbE rs part i;cases e:part[i]? with
  | none =>
   have e2:jc rs part (i+1)=jc rs part i:=by
    show (match part[i]? with | some c=>_ | none=>_)=_;rw[e]
   rw[e2] at h;exact T7 (ih q h)
  | some c =>
   rw[zbC e] at h;have h:=(XS.mp h).1;rcases XI.mp h with h | h
   ·exact T7 (ih q h)
   ·obtain⟨p,hp,rfl⟩:=XB.mp h;rw[XZ];exact Nat.succ_le_succ (ih p hp)
def tD2 (rs:List Str)(c:Nat×Nat):Wa:=.tuple [.int (qV rs c),.list ((zE rs c).map zu)]
theorem zjI {N:Addr->Prop}{H:Hp}{rs:List Str}{v:V}{c:Nat×Nat}(h:Rdn N H v (tD2 rs c)):zeW H rs v c:=by
 unfold tD2 at h;generalize ed:(zE rs c).map zu=ds at h;cases h with
 | tup h t =>
  cases t with
  | cons b t =>
   cases b;cases t with
   | cons d t =>
    cases t;cases d with
    | lst n h1 h2 =>
     subst ed;exact⟨_,_,_,rfl,h,h1,zw.cel h2⟩
theorem zc0 {N:Addr->Prop}{H:Hp}{rs:List Str}:∀{cs:List (Nat×Nat)} {vs:List V},zw N H vs (cs.map (tD2 rs))->W9 (zeW H rs) vs cs
 | [],_,.nil=>.nil
 | _::_,_,.cons h t=>.cons (zjI h) (zc0 t)
theorem zaj {σ:St}{H:Hp}{A B:Hp->Prop}(h:A H):ziu σ H fun b H4=>if b=true then A H4 else B H4:=by
 show if true=true then A H else B H
 rw[if_pos rfl];exact h
theorem zjJ {F:List (List (Nat×Nat))}{j:Nat}{k:List (Int×Int)}(h:(F.map toL)[j]?=some k):∃q,F[j]?=some q/\k=toL q:=by
 rw[Xn] at h;cases e:F[j]? with
 | none=>rw[e] at h;cases h
 | some q =>
  rw[e] at h;cases h;exact⟨q,rfl,rfl⟩
theorem zeZ (xs:List V)(i:Nat)(hi:i<xs.length):ZP xs (some (((i:Nat):Int)+1)) none=xs.drop (i+1):=by
 have e:HT.sIx xs.length 0 (some (((i:Nat):Int)+1))=i+1:=by
  have:=HT.Jr xs.length 0 (i+1);rw[Si] at this;rw[show (((i:Nat):Int)+1)=((i:Nat):Int)+((1:Nat):Int) from rfl,this];lia
 unfold ZP;rw[e];show (xs.drop (i+1)).take (xs.length-(i+1))=_;rw[WL (by rw[V9];lia)]
theorem ze0 {H:Hp}:∀{us:List V} {cs:List (Nat×Nat)} (i:Nat),Cel H us cs->Cel H (us.drop i) (cs.drop i)
 | _,_,0,h=>h
 | _,_,i+1,.nil=>.nil
 | _,_,i+1,.cons _ t=>ze0 i t
theorem qm:zF ["board","part","told","found","place","cell","needs","grown"] ["board","part"] (zh qJ):=⟨rfl,rfl,rfl,by decide +kernel,rfl,by decide +kernel,by decide +kernel⟩
theorem ZM {jaj:Addr}(T:Txt mg)(Z:Prog K mg)(jat:qk K mg "TooGreat" jaj){f:Addr}{fd:Xk}(D:zo K mg "part_layings" qJ ["board","part"] f fd):qi P w K mg base (CXE P w) 4 f fd ["board","part"] (zou jaj):=by
 obtain⟨zbF,zak,zQ⟩:=Z.around;obtain⟨zal,YY,zx⟩:=Z.sign_at;obtain⟨YZ,Yc,zD⟩:=Z.cells_of;obtain⟨ZC,JH,zB⟩:=Z.open_cells;obtain⟨Yd,ZD,qD⟩:=Z.number_at;obtain⟨QM,YQ,xM⟩:=Z.numbers_of;obtain⟨zbG,zaz,ZE⟩:=Z.needs_at;obtain⟨zc1,zbH,YE⟩:=Z.may_fit;refine D.F.okX qm (fun vs H Q E h=>?_) (fun cdv A outer s H vs Q E hr h=>?_)
 ·obtain⟨a,l,pa,rs,n,ups,part,rfl,_⟩:=h;rfl
 ·obtain⟨a,l,pa,rs,n,ups,part,rfl,b,R,hpa,hcp,pnd,p64,qg,q⟩:=h;have ul:=hcp.length;refine⟨_,(ze (jt (zU zi8 (zp zJ (by rfl) T.yj Wt (za (pvS 1) zc)) (qZ (v:=.int 14) (by rfl) T.zbx.choose_spec (by exact⟨_,rfl⟩)) (qc _)) (zg (ziz jC jat (by rfl) rfl (@za _ _ _ _ _ yZ zc rfl))) qt) (ze (Yq (i:=2) qm.nd rfl rfl (N:=["cell","board"]) (src:=[none,some 0]) (zT.free (O:=(zh qJ).names) (XN:=["board","part","told","found","place","cell","needs","grown"]) rfl rfl ⟨_,rfl⟩ rfl rfl (by decide +kernel) (by decide +kernel) (by decide +kernel) rfl (by decide +kernel)) rfl (zM (pc0 (zcb T xM zQ zx zD zB) hr xM (za (pvS 0) (za (pvS 1) zc)))) (fun _ _ _ _ _=>(zm (i:=0) (by show W2 (["cell","board"]:List Str);decide +kernel) rfl (Xy rfl))) (fun _ _ _ _ _=>qF) (fun _ _ _ _ _=>(jN (za (pc0 (QI T qD zx) hr qD (za (pvS 1) (za (pvS 0) zc))) (za (pc0 (Yy T zQ) hr zQ (za (pvS 1) (za (pvS 0) zc))) zc))))) (@ze _ _ _ _ _ (@zC _ _ 3 _ _ _ _ qm.nd rfl (Xy rfl) (@zY _ _ _ _ (@za _ _ _ _ _ (@zY _ _ _ _ zc) zc rfl)) (by rfl) (.inr rfl)) (ze (qy (jq.own jC) rfl (JM (by rfl) T.jz (za (pvS 1) zc)) (yq rfl (zI (zm (i:=4) qm.nd rfl (Xy rfl)) (zI (zm (i:=5) qm.nd rfl (SF rfl)) ja))) (ze (zC (i:=6) qm.nd rfl (SF rfl) (pc0 (zeY T ZE) hr ZE (za (pvS 2) (za (pvS 5) (za (yP Js (pvS 1) (j8 (zz qA (pvS 4) zf)) Qj) zc))))) (ze (zC (i:=7) qm.nd rfl (Xy rfl) (zz Zn (pvS 3) (qL (N:=["pick","cell"]) (src:=[none,some 5]) (zT.free (O:=(zh qJ).names) (XN:=["board","part","told","found","place","cell","needs","grown"]) rfl rfl ⟨_,rfl⟩ rfl rfl (by decide +kernel) (by decide +kernel) (by decide +kernel) rfl (by decide +kernel)) rfl (zM (pvS 3)) (fun _ _ _ _ _=>(zm (i:=0) (by show W2 (["pick","cell"]:List Str);decide +kernel) rfl (Xy rfl))) (fun _ _ _ _ _=>qF) (fun _ _ _ _ _=>(zz Zn (pvS 0) (zY (za (pvS 1) zc))))))) (zg (Yq (i:=3) qm.nd rfl rfl (N:=["pick","needs"]) (src:=[none,some 6]) (zT.free (O:=(zh qJ).names) (XN:=["board","part","told","found","place","cell","needs","grown"]) rfl rfl ⟨_,rfl⟩ rfl rfl (by decide +kernel) (by decide +kernel) (by decide +kernel) rfl (by decide +kernel)) rfl (zM (pvS 7)) (fun _ _ _ _ _=>(zm (i:=0) (by show W2 (["pick","needs"]:List Str);decide +kernel) rfl (Xy rfl))) (fun _ _ _ _ _=>(jh (Q2 (K:=K) (by rfl) (pc0 (zf9 T YE) hr YE (za (pvS 1) (za (pvS 0) zc))) (fun _=>rfl)))) (fun _ _ _ _ _=>(pvS 0))))))) (zg (zH (zp (GS.YM hr.units) (by rfl) T.zbw Tr (za (pvS 3) zc)))))))),?_⟩;refine⟨_,rfl,pa,ups,rfl,.inl (SqL.of hpa),_,_,rfl,rfl,_,rfl,?_⟩;by_cases h14:14<part.length
  ·exact JD (decide_eq_true (by lia)) ⟨sz_1,qg h14 H (zq.refl _)⟩
  have pl:part.length<=14:=by lia
  have q:=q pl;refine Jk (decide_eq_false (by lia)) ?_;refine⟨_,rfl,_,rfl,a,l,pa,rs,n,ups,part,rfl,b,R,hpa,hcp,fun d ws H1 hd hd1 hc1 s1=>⟨d,rfl,⟨_,SqL.of hd1⟩,fun z hz=>?_⟩⟩;have b1:=b.mono s1;have nl:(xK rs part).length<=64:=XV (WX _ _) (jm (p:=Yb) R);refine qN (K:=K) (a:=d) (xs:=ws) (fun a=>a≠z) ((xK rs part).map fun c=>some (tD2 rs c)) (fun σ=>∃u0,σ=[u0,some (.ref a)]) hz (fun _ h=>h) ⟨_,rfl⟩ (by rw[Y1];exact hc1.length.symm) (by rw[hc1.length];exact XV nl (by decide)) (SqL.of hd1) ?_ ?_
  ·rintro k x o σ H2 hx ho s2 hzn ⟨u0,rfl⟩ Y Z yes no;obtain⟨y,hy,r1⟩:=Cel.get hc1 hx;have eo:=xo hy ho;have yo:y∈zL rs:=(XS.mp (X0 hy)).1;obtain⟨t,sg,ht,hj,hop,es⟩:=qe yo;obtain⟨ya,rfl,hya⟩:=r1;obtain⟨l1,l2⟩:=Jd R ht hj;obtain⟨o1,o2⟩:=zcS (zg1 R ht hj) hop;have b2:=b1.mono s2;have hya2:=s2 _ _ hya;refine Zr ⟨_,rfl,_,rfl,a,l,ya,rs,n,y.1,y.2,t,sg,rfl,b2,hya2,ht,hj,R.tlen ht,o1,o2,_,rfl,_,rfl,a,l,ya,rs,n,y.1,y.2,rfl,b2,R,hya2,l1,l2,fun d2 ws2 H3 hd2 hd3 hc2 s3=>⟨YV,fun tt htt=>?_⟩⟩;have s4:=zd (o:=.tup [.int (((sg:Nat):Int)-48),.ref d2]) htt;have en:qV rs y=((sg:Nat):Int)-48:=by
    unfold qV;rw[es]
   refine yes _ _ _ _ eo ⟨_,rfl⟩ (s3.trans s4) (.tup zb (.cons ?_ (.cons (.lst (fun e=>hzn (e ▸ hd2)) (s4 _ _ hd3) (Cel.rdn (hc2.mono s4))) .nil)));rw[en];exact .int _
  rintro ut H2 s2 hz2 hr2;rw[J5] at hr2;have hT:=zc0 hr2;have s02:=s1.trans s2;refine⟨Qw,fun e0 he0=>⟨sz_1,fun f0 hf0=>?_⟩⟩;have y1:=zd (o:=.lst []) he0;have y2:=zd (o:=.lst [.ref e0]) hf0;have y12:=y1.trans y2;have hL0:jr (fun a=>H2 a=none) (upd (upd H2 e0 (.lst [])) f0 (.lst [.ref e0])) [.ref e0] ([[]]:List (List (Int×Int))):=.cons ⟨e0,[],rfl,he0,y2 _ _ zb,.nil⟩ .nil;have hf3:upd (upd H2 e0 (.lst [])) f0 (.lst [.ref e0]) f0=some (.lst [.ref e0]):=zb;generalize upd (upd H2 e0 (.lst [])) f0 (.lst [.ref e0])=H3 at *
  have hpa2:=s02 _ _ hpa;refine⟨_,rfl,pa,rfl,⟨_,SqL.of (y12 _ _ hpa2)⟩,?_⟩;refine JN (K:=K) (l:=pa) (xs:=ups) (fun i σ H'=>∃(fa:Addr) (fs:List V) (v4 v5 v6 v7:Option V),σ=[some (.ref a),some (.ref pa),some (.ref z),some (.ref fa),v4,v5,v6,v7]/\zq H2 H'/\H' fa=some (.lst fs)/\jr (fun a=>H2 a=none) H' fs ((jc rs part i).map toL)/\fs.Nodup)
   ⟨f0,_,_,_,_,_,rfl,y12,hf3,hL0,by simp⟩ (fun i σ H' _ ⟨_,_,_,_,_,_,_,y,_⟩=>SqL.of (y _ _ hpa2)) ?_ ?_
  ·rintro i x tt σ H4 hx htt ⟨fa,fs,v4,v5,v6,v7,rfl,s4,hfa,hL,hnd⟩;obtain⟨c,hc,ca,rfl,hca⟩:=Cel.get ((hcp.mono s02).mono s4) hx;have il:=(X2.mp hx).1;have z5:=zd (o:=.tup [.int (i:Nat),.ref ca]) htt;refine⟨tt,_,rfl,SqT.of zb,rfl,_,_,rfl,_,_,rfl,rfl,?_⟩;have s5:=s4.trans z5;have hca5:=z5 _ _ hca;have hfa5:=z5 _ _ hfa;have hL5:=qK z5 hL;generalize upd H4 tt (.tup [.int (i:Nat),.ref ca])=H5 at *
   refine⟨_,rfl,_,rfl,_,rfl,_,rfl,_,_,rfl,rfl,_,rfl,pa,ups,rfl,SqL.of (s5 _ _ hpa2),fun x1 hx1=>?_⟩;have e1:=zeZ ups i il;rw[e1] at *
   have z6:=zd (o:=.lst (ups.drop (i+1))) hx1;have s6:=s5.trans z6;refine⟨z,ca,x1,ut,ups.drop (i+1),rs,xK rs part,part.drop (i+1),c,rfl,s6 _ _ hz2,zh7 s6 hT,nl,R,z6 _ _ hca5,zb,ze0 _ ((hcp.mono s02).mono s6),pnd.sublist (RA _ _),fun nd un H6 zov hN s7=>?_⟩;have s56:=z6.trans s7;have s26:=s5.trans s56;have hfa6:=s56 _ _ hfa5;have hL6:=qK s56 hL5;have hca6:=s56 _ _ hca5;have i14:i<=13:=by lia
   have fl:fs.length<=8192:=by
    rw[jn hL,Y1];exact XV (YD rs part i) (U8 (by decide) i14)
   have dp:=zbE rs part i;have eG:=zbC (rs:=rs) hc;have gl:=YD rs part i;generalize jc rs part i=F at *
   refine⟨_,rfl,_,rfl,fa,rfl,⟨_,SqL.of hfa6⟩,fun y hy=>?_⟩;refine qW (K:=K) (a:=fa) (xs:=fs) (fun j σ' H'=>∃(u0:Option V) (ys:List V),σ'=[u0,some (.ref ca)]/\zq H6 H'/\H' y=some (.lst ys)/\jr (fun a=>H6 a=none/\a≠y) H' ys (((F.take j).map (·++[c])).map toL)/\ys.Nodup)
    ⟨_,[],rfl,zd hy,zb,.nil,T0⟩ (fun j σ' H' _ ⟨_,_,_,z,_⟩=>SqL.of (z _ _ hfa6)) ?_ ?_
   ·rintro j v σ' H7 hv ⟨u0,ys,rfl,s8,hy7,hL7,nd7⟩;obtain⟨k,a1,w1,hk,rfl,an,ha1,t1⟩:=QL hL6 hv;obtain⟨q1,hq1,rfl⟩:=zjJ hk;have kd:=dp q1 (X0 hq1);have wl:w1.length=q1.length:=(zeV t1).trans (Y1 _);have tj:((F.take (j+1)).map (·++[c])).map toL=((F.take j).map (·++[c])).map toL++[toL q1++[toI c]]:=by
     rw[Xm,hq1,Xf,Xf];simp[toL]
    rw[tj];unfold ZR;refine zaj ?_;refine⟨_,rfl,_,rfl,sz_1,fun t2 ht2=>?_⟩;have y5:=zd (o:=.lst [.ref ca]) ht2;refine⟨a1,t2,w1,[.ref ca],rfl,rfl,y5 _ _ (s8 _ _ ha1),zb,XV (show w1.length+1<=100 by lia) (by decide),fun t3 ht3=>?_⟩;have y6:=zd (o:=.lst (w1++[.ref ca])) ht3;have y56:=y5.trans y6;have h6:upd (upd H7 t2 (.lst [.ref ca])) t3 (.lst (w1++[.ref ca])) t3=some (.lst (w1++[.ref ca])):=zb;have tz:t3≠y:=fun e=>by
     subst e;rw[y5 _ _ hy7] at ht3;cases ht3
    have n4:=y5.free ht3;have n3:=s8.free n4;have c1:yR (upd (upd H7 t2 (.lst [.ref ca])) t3 (.lst (w1++[.ref ca]))) [.ref ca] [toI c]:=.cons ⟨ca,rfl,y56 _ _ (s8 _ _ hca6)⟩ .nil;have tw6:=zjG (Zb (s8.trans y56) t1) c1;generalize upd (upd H7 t2 (.lst [.ref ca])) t3 (.lst (w1++[.ref ca]))=H8 at *
    have hy8:=y56 _ _ hy7;have yl:ys.length<=8192:=by
     rw[jn hL7,Y1,Y1,XD];have:=jn hL;rw[Y1] at this;lia
    refine⟨ys,hy8,Xe yl (by decide),_,ys++[.ref t3],rfl,fun b' o e=>?_,zb,YB (Je hy8 (fun a h=>h.2) (qK y56 hL7)) (.cons ⟨t3,w1++[.ref ca],rfl,⟨n3,tz⟩,by rw[zj tz];exact h6,YA hy8 tw6⟩ .nil),?_⟩
    ·rw[zj (zk e hy)];exact y56 _ _ (s8 _ _ e)
    ·refine V4.mpr ⟨nd7,by simp,fun u hu u' hu' e=>?_⟩;obtain⟨b',wb,rfl,_,hb⟩:=YC hL7 hu;have e2:u'=.ref t3:=by simpa using hu'
     rw[e2] at e;cases e;rw[hb] at n4;cases n4
   rintro σ' H7 ⟨u0,ys,rfl,s8,hy7,hL7,nd7⟩;have fsl:fs.length=F.length:=(jn hL).trans (Y1 _);rw[fsl,Xq] at hL7;have yl:ys.length<=8192:=by
    rw[jn hL7,Y1,Y1];lia
   refine⟨fa,y,fs,ys,rfl,rfl,s8 _ _ hfa6,hy7,XV (Nat.add_le_add fl yl) (by decide),fun g hg=>?_⟩;have y9:=zd (o:=.lst (fs++ys)) hg;have s27:=s26.trans s8;have s28:=s27.trans y9;have hg8:upd H7 g (.lst (fs++ys)) g=some (.lst (fs++ys)):=zb;have hLg:jr (fun a=>H2 a=none) (upd H7 g (.lst (fs++ys))) (fs++ys) ((Subs.step F c).map toL):=by
    unfold Subs.step;rw[Xf];exact YB (qK (s8.trans y9) hL6) (qK y9 (YX (fun a h=>s26.free h.1) hL7))
   have gnd:(fs++ys).Nodup:=by
    refine V4.mpr ⟨hnd,nd7,fun u hu u' hu' e=>?_⟩;obtain⟨b',wb,rfl,_,hb⟩:=YC hL6 hu;obtain⟨b2,wb2,rfl,hb2,_⟩:=YC hL7 hu';cases e;rw[hb] at hb2;cases hb2.1
   have hnd8:=(s8.trans y9) _ _ zov;have hN8:=zai (s8.trans y9) hN;have gll:(fs++ys).length<=16384:=by
    rw[XZ];lia
   have dps:∀q∈Subs.step F c,q.length<=64:=fun q hq=>by
    rcases XI.mp hq with hq | hq
    ·have:=dp q hq;lia
    ·obtain⟨p',hp',rfl⟩:=XB.mp hq;have:=dp p' hp';rw[XZ];show p'.length+1<=64;lia
   generalize fs++ys=gs at *
   generalize Subs.step F c=S at *
   generalize upd H7 g (.lst gs)=H8 at *
   refine⟨_,rfl,g,rfl,⟨_,SqL.of hg8⟩,fun y2 hy2=>?_⟩;refine qW (K:=K) (a:=g) (xs:=gs) (fun j σ' H'=>∃(u0:Option V) (ys:List V),σ'=[u0,some (.ref nd)]/\zq H8 H'/\H' y2=some (.lst ys)/\jr (fun a=>H2 a=none/\a≠y2) H' ys (((S.take j).filter (Grow.chk (nearF rs) (qV rs) (xK rs part) c (part.drop (i+1)))).map toL)/\ys.Sublist (gs.take j))
    ⟨_,[],rfl,zd hy2,zb,.nil,List.Sublist.slnil⟩ (fun j σ' H' _ ⟨_,_,_,z,_⟩=>SqL.of (z _ _ hg8)) ?_ ?_
   ·rintro j v σ' H9 hv ⟨u0,ys,rfl,s9,hz9,hL9,sb9⟩;obtain⟨k,a1,w1,hk,rfl,an,ha1,t1⟩:=QL hLg hv;obtain⟨q1,hq1,rfl⟩:=zjJ hk;have tf:gs.take (j+1)=gs.take j++[.ref a1]:=by
     rw[Xm,hv];rfl
    refine⟨_,rfl,_,rfl,nd,a1,un,w1,rs,part.drop (i+1),_,q1,rfl,s9 _ _ hnd8,zai s9 hN8,s9 _ _ ha1,(Jy t1).mono s9,dps q1 (X0 hq1),fun H10 s10=>⟨_,rfl,?_⟩⟩;rw[tf];have hz10:=s10 _ _ hz9;show if Grow.chk (nearF rs) (qV rs) (xK rs part) c (part.drop (i+1)) q1=true then _ else _
    by_cases hlt:Grow.chk (nearF rs) (qV rs) (xK rs part) c (part.drop (i+1)) q1=true
    ·have e1:((S.take (j+1)).filter (Grow.chk (nearF rs) (qV rs) (xK rs part) c (part.drop (i+1)))).map toL=((S.take j).filter (Grow.chk (nearF rs) (qV rs) (xK rs part) c (part.drop (i+1)))).map toL++[toL q1]:=by
      rw[Xm,hq1,W6,Xf];simp[hlt]
     rw[e1];have az:a1≠y2:=zk ha1 hy2;have yl:ys.length<=16384:=by
      have:=sb9.length_le;rw[XD] at this;lia
     refine JD hlt ⟨_,rfl,ys,hz10,Xe yl (by decide),_,ys++[.ref a1],rfl,fun b' o e=>?_,zb,YB (Je hz10 (fun a h=>h.2) (qK s10 hL9)) (.cons ⟨a1,w1,rfl,⟨an,az⟩,by rw[zj az];exact s10 _ _ (s9 _ _ ha1),YA hz10 (Zb (s9.trans s10) t1)⟩ .nil),List.Sublist.append sb9 (List.Sublist.refl _)⟩;rw[zj (zk e hy2)];exact s10 _ _ (s9 _ _ e)
    ·have e1:((S.take (j+1)).filter (Grow.chk (nearF rs) (qV rs) (xK rs part) c (part.drop (i+1)))).map toL=((S.take j).filter (Grow.chk (nearF rs) (qV rs) (xK rs part) c (part.drop (i+1)))).map toL:=by
      rw[Xm,hq1,W6,Xf];simp[hlt]
     rw[e1];exact Jk (WZ.mpr hlt) ⟨_,ys,rfl,s9.trans s10,hz10,qK s10 hL9,sb9.trans (Tq _ _)⟩
   ·rintro σ' H9 ⟨u0,ys,rfl,s9,hz9,hL9,sb9⟩;have gsl:gs.length=S.length:=(jn hLg).trans (Y1 _);rw[gsl,Xq,<- eG] at hL9;rw[gsl,<- gsl,Xq] at sb9;exact⟨y2,ys,_,_,_,_,rfl,s28.trans s9,hz9,YX (fun a h=>h.1) hL9,gnd.sublist sb9⟩
  ·rintro σ H4 ⟨fa,fs,v4,v5,v6,v7,rfl,s4,hfa,hL,hnd⟩;have gl:=YD rs part part.length;rw[ul,zcZ] at hL;rw[zcZ] at gl;have fl:fs.length<=16384:=by
    rw[jn hL,Y1];exact XV gl (U8 (by decide) pl)
   refine⟨_,rfl,fa,fs,_,rfl,SqL.of hfa,zh5 hL,by lia,fun d' us' ks' hd' hp' zcX hpw hup=>?_⟩;have y5:=zd (o:=.lst us') hd';have s04:=s02.trans s4;refine q d' us' ks' _ (s04.free hd') zb (qK y5 (zjF hp' fun v hv=>?_)) (hup.nodup_iff.mpr hnd) zcX hpw (s04.trans y5);obtain⟨a1,wa,e,na,ha⟩:=YC hL (hup.mem_iff.mp hv);exact⟨a1,e,s02.free na,zk ha hd'⟩
abbrev iL (xs:List Int):List V:=xs.map V.int
def QN (xs:List Int):Wa:=.list (xs.map SA)
theorem zaA {K:X6}{H:Hp}:∀xs:List Int,xg K H (iL xs) (xs.map SA)
 | []=>.nil
 | x::r=>.cons (.int x) (zaA r)
theorem ze1 {K:X6}{H:Hp}{a:Addr}{xs:List Int}(h:SqL K H a (iL xs)):Rdv K H (.ref a) (QN xs):=.lst h (zaA xs)
theorem lay_ints:∀xs:List Int,VD (xs.map SA)=true
 | []=>rfl
 | x::r=>by
  show (SW (.int x)&&VD (r.map SA))=true;rw[lay_ints r];rfl
theorem zbI:∀xs:List Int,Vi (xs.map SA)=0
 | []=>rfl
 | x::r=>by
  show max (PyData.depth (.int x)) (Vi (r.map SA))=0;rw[zbI r];rfl
theorem zam (xs:List Int):(QN xs).canLay0=true:=lay_ints xs
theorem ze2 (xs:List Int):(QN xs).depth=1:=by
 show Vi (xs.map SA)+1=1;rw[zbI]
theorem zh8 (xs ys:List Int):zit (QN xs) (QN ys):=⟨zam xs,zam ys,by rw[ze2];decide⟩
theorem zga (xs:List Int):WI (QN xs) (QN xs)=true:=SeqAt.eqv_refl _ (zam xs)
theorem ints_get {xs:List Int}{i:Nat}{v:V}(h:(iL xs)[i]?=some v):∃x,xs[i]?=some x/\v=.int x:=by
 rw[Xn] at h;cases e:xs[i]? with
 | none=>rw[e] at h;cases h
 | some x =>
  rw[e] at h;cases h;exact⟨x,rfl,rfl⟩
theorem YF {xs:List Int}{i:Nat}{x:Int}(h:xs[i]?=some x):(iL xs)[i]?=some (.int x):=by
 rw[Xn,h];rfl
theorem zgb {n:Nat}{k:Int}(h0:0<=k)(h1:k<n):ixN n k=some k.toNat:=by
 unfold ixN;rw[if_pos h0,if_pos h1]
theorem zg3 (xs:List Int)(z:Int):iL (xs++[z])=iL xs++[.int z]:=by
 show Uh V.int (xs++[z])=_;rw[Xf];rfl
def zaG (c:Nat×Nat)(k:List (Int×Int)):Bool:=k.any fun z=>decide (z=toI c)
def ZF (rs:List Str)(part:List (Nat×Nat)):List (List (Int×Int)):=((Subs.subs part).filter (Grow.fits (nearF rs) (qV rs) (xK rs part) part)).map toL
def znU:Sp:=fun vs H Q _=>∃(fa:Addr) (us:List V) (ks:List (List (Int×Int))) (N:Addr->Prop) (g:Nat),vs=[.ref fa,.int (g:Nat)]/\H fa=some (.lst us)/\jr N H us ks/\(∀k∈ks,k.length<=g)/\g<=64 /\
 ∀(d:Addr) (H':Hp),H d=none->H' d=some (.lst (iL (Cnt.xj g ks)))->zq H H'->Q (.ref d) H'
def zk3:Sp:=fun vs H Q _=>∃(fa ca:Addr) (us:List V) (ks:List (List (Int×Int))) (N:Addr->Prop) (g:Nat) (c:Nat×Nat),vs=[.ref fa,.int (g:Nat),.ref ca]/\H fa=some (.lst us)/\jr N H us ks/\(∀k∈ks,k.length<=g)/\g<=64/\ks.length<=16384/\H ca=some (.tup [.int (c.1:Nat),.int (c.2:Nat)]) /\
 ∀(d:Addr) (H':Hp),H d=none->H' d=some (.lst (iL (Cnt.xj g (ks.filter (zaG c)))))->zq H H'->Q (.ref d) H'
def zow (CG:Addr):Sp:=fun vs H Q E=>∃(a l pa:Addr) (rs:List Str) (n:Int) (ups:List V) (part:List (Nat×Nat)),vs=[.ref a,.ref pa]/\qC H a l rs n/\Rows bd.cps.toList rs/\H pa=some (.lst ups)/\Cel H ups part/\part.Nodup/\part.length<=64/\(14<part.length->∀H',zq H H'->E (.ref CG) none H')/\(part.length<=14 ->
 ∀(d:Addr) (H':Hp),H d=none->H' d=some (.lst (iL (Cnt.xj part.length (ZF rs part))))->zq H H'->Q (.ref d) H')
theorem ze3 (n:Nat):(Xj n [V.int 0]).flatten=iL (Xj n 0):=by
 induction n with
 | zero=>rfl
 | succ n ih =>
  rw[VE,WA,ih];rfl
theorem ze4 {α:Type}:∀(cs:List α) (b:Nat),(Subs.pick cs b).length<=cs.length
 | [],_=>W1 _
 | c::r,b=>by
  have:=ze4 r (b/2);show ((if b%2=1 then [c] else [])++Subs.pick r (b/2)).length<=r.length+1;rw[XZ];split
  ·show 1+_<=_;lia
  ·show 0+_<=_;lia
theorem zjK {α:Type}{cs q:List α}(h:q∈Subs.subs cs):q.length<=cs.length:=by
 rw[Subs.Yt] at h;obtain⟨b,_,rfl⟩:=XB.mp h;exact ze4 cs b
theorem zbJ {rs:List Str}{part:List (Nat×Nat)}{k:List (Int×Int)}(h:k∈ZF rs part):k.length<=part.length:=by
 obtain⟨q1,h1,rfl⟩:=XB.mp h;show (q1.map toI).length<=_;rw[Y1];exact zjK (XS.mp h1).1
theorem zh9 {rs:List Str}{part:List (Nat×Nat)}(h:part.length<=14):(ZF rs part).length<=16384:=by
 unfold ZF;rw[Y1];refine XV (WX _ _) ?_;rw[Subs.Yt,Y1,Wz];exact XV (U8 (by decide) h) (by decide)
theorem Y0:zF ["found","greatest","counts","laying"] ["found","greatest"] (zh J1):=⟨rfl,rfl,rfl,by decide +kernel,rfl,by decide +kernel,by decide +kernel⟩
theorem Y4 (T:Txt mg)(D:zo K mg "counted" J1 ["found","greatest"] f fd):qi P w K mg base CX0 1 f fd ["found","greatest"] znU:=by
 refine D.F.ok Y0 (fun vs H Q E h=>?_) (fun cdv A outer s H vs Q E hr h=>?_)
 ·obtain⟨fa,us,ks,N,g,rfl,_⟩:=h;rfl
 ·obtain⟨fa,us,ks,N,g,rfl,hfa,hL,hk,g64,q⟩:=h;refine⟨_,(@ze _ _ _ _ _ (@zC _ _ 2 _ _ _ _ Y0.nd rfl (Xy rfl) (@zz _ _ _ _ _ _ _ _ zfv (@zY _ _ _ _ (@za _ _ _ _ _ zf zc rfl)) (zz qA (pvS 1) zf)) (by rfl) (.inr rfl)) (ze (qy WT rfl (zM (pvS 0)) (zm (i:=3) Y0.nd rfl (Xy rfl)) (zg (zgy (pvS 2) (zp zJ (by rfl) T.yj Wt (za (pvS 3) zc)) zec zf zin set_list))) (zg (zH (pvS 2))))),?_⟩;refine⟨sz_1,fun l0 hl0=>?_⟩;have s0:zq H (upd H l0 (.lst [.int 0])):=zd hl0;refine⟨_,rfl,_,_,rfl,rfl,l0,_,_,rfl,rfl,zb,by lia,by lia,?_,fun p hp=>?_⟩
  ·exact XV (show 1*((g:Int)+1).toNat<=120 by lia) (by decide)
  rw[show ((g:Int)+1).toNat=g+1 by lia,ze3,<- Cnt.zjh (α:=Int×Int)];have s1:=s0.trans (zd (o:=.lst (iL (Cnt.xj g ([]:List (List (Int×Int)))))) hp);have hp0:H p=none:=s0.free hp;refine⟨_,rfl,fa,rfl,⟨_,SqL.of (s1 _ _ hfa)⟩,?_⟩;refine jg (K:=K) (a:=fa) (xs:=us) (fun i σ H'=>∃v3,σ=[some (.ref fa),some (.int (g:Nat)),some (.ref p),v3]/\zq H H'/\H' p=some (.lst (iL (Cnt.xj g (ks.take i)))))
   ⟨_,rfl,s1,zb⟩ (fun i σ H' _ ⟨_,_,y,_⟩=>SqL.of (y _ _ hfa)) ?_ ?_
  ·rintro i v σ H1 hv ⟨v3,rfl,s2,hp2⟩;obtain⟨k,a1,wa,hk1,rfl,_,ha1,t1⟩:=QL hL hv;have kl:=hk k (X0 hk1);have wl:=zeV t1;refine⟨_,rfl,_,rfl,a1,wa,rfl,.inl (SqL.of (s2 _ _ ha1)),p,_,_,_,rfl,rfl,SqL.of hp2,za0 (by lia) (YF (Cnt.zbo (n:=wa.length) _ (by lia))),_,_,rfl,rfl,p,_,_,_,rfl,rfl,hp2,zgb (by lia) (by rw[Y1,Cnt.QB];lia),?_⟩;refine⟨_,rfl,fun c o e=>?_,?_⟩
   ·rw[zj (zk e hp0)];exact s2 _ _ e
   ·rw[zb,Xm,hk1];show _=some (HO.lst (iL (Cnt.xj g (ks.take i++[k]))));rw[Cnt.zhY _ kl,wl];show some (HO.lst ((Uh V.int _).set _ (V.int _)))=_;rw[<- OF];rfl
  ·rintro σ H1 ⟨v3,rfl,s2,hp2⟩;rw[jn hL,Xq] at hp2;exact⟨_,rfl,q p H1 hp0 hp2 s2⟩
theorem zbK:zF ["board","part"] ["board","part"] (zh yJ):=⟨rfl,rfl,rfl,by decide +kernel,rfl,by decide +kernel,by decide +kernel⟩
theorem zbL {jaj:Addr}(T:Txt mg)(Z:Prog K mg)(jat:qk K mg "TooGreat" jaj){f:Addr}{fd:Xk}(D:zo K mg "part_counts" yJ ["board","part"] f fd):qi P w K mg base (CXE P w) 5 f fd ["board","part"] (zow jaj):=by
 obtain⟨Ye,ZN,qq⟩:=Z.part_layings;obtain⟨zc2,zbM,jo⟩:=Z.counted;refine D.F.okX zbK (fun vs H Q E h=>?_) (fun cdv A outer s H vs Q E hr h=>?_)
 ·obtain⟨a,l,pa,rs,n,ups,part,rfl,_⟩:=h;rfl
 ·obtain⟨a,l,pa,rs,n,ups,part,rfl,b,R,hpa,hcp,pnd,p64,qg,q⟩:=h;refine⟨_,(zg (zH (pc0 (Y4 T jo) hr jo (za (pcL jC (ZM T Z jat qq) hr qq (za (pvS 0) (za (pvS 1) zc))) (za (zp zJ (by rfl) T.yj Wt (za (pvS 1) zc)) zc))))),?_⟩;refine⟨_,rfl,_,rfl,a,l,pa,rs,n,ups,part,rfl,b,R,hpa,hcp,pnd,p64,qg,fun pl d ws ks H1 hd hd1 hL _ hpm _ s1=>?_⟩;refine⟨_,rfl,pa,ups,rfl,.inl (SqL.of (s1 _ _ hpa)),d,ws,ks,_,ups.length,rfl,hd1,hL,fun k hk=>?_,?_,fun e H2 he he2 s2=>?_⟩
  ·rw[hcp.length];exact zbJ (hpm.mem_iff.mp hk)
  ·rw[hcp.length];lia
  ·rw[hcp.length,Cnt.zad hpm] at he2;exact q pl e H2 (s1.free he) he2 (s1.trans s2)
def qx (rs:List Str)(g S:List (Nat×Nat)):Bool:=Grow.fits (nearF rs) (qV rs) (xK rs g) g S
theorem zan {rs:List Str}{o x:Nat×Nat}:nearF rs o x=true↔x∈zE rs o:=Parts.QA _ _
theorem zmN {rs:List Str}{x:Nat×Nat}(h:x∈zW rs):Cells.sgn (codes rs) x=63:=by
 obtain⟨t,k,ht,hj,hk,es⟩:=qe h;have:k=63:=by
  unfold J3 at hk;simpa using hk
 rw[es,this]
theorem JA {rs:List Str}{o x:Nat×Nat}(hx:x∈zW rs):nearF rs o x=true↔x∈clA rs o:=by
 rw[zan];constructor
 ·exact fun h=>XS.mpr ⟨h,decide_eq_true (zmN hx)⟩
 ·exact fun h=>(XS.mp h).1
theorem zdL {rs:List Str}{g:List (Nat×Nat)}{o:Nat×Nat}:o∈xK rs g↔o∈zL rs/\∃x∈g,nearF rs o x=true:=by
 unfold xK;rw[XS,TQ,Wj];refine and_congr_right fun _=>?_;constructor
 ·rintro⟨z,hz,h⟩;have h':(g.any fun x=>decide (x=z))=true:=h;exact⟨z,(Parts.QA _ _).mp h',zan.mpr hz⟩
 ·rintro⟨x,hx,h⟩;exact⟨x,zan.mp h,(Parts.QA _ _).mpr hx⟩
section
variable {rs:List Str}{gs:List (List (Nat×Nat))}(G:Parts.Good (clA rs) (zL rs) gs)
include G
theorem yg:∀c∈gs.flatten,c∈zW rs:=fun c hc=>by
 obtain⟨o,_,h⟩:=G.from_ c hc;exact J8 h
theorem zk4 {g:List (Nat×Nat)}(hg:g∈gs){o x:Nat×Nat}(ho:o∈xK rs g)(hx:x∈zW rs)(hn:nearF rs o x=true):x∈g:=by
 obtain⟨h1,y,hy,h2⟩:=zdL.mp ho;have hys:=yg G y (WE.mpr ⟨g,hg,hy⟩);have hyc:=(JA hys).mp h2;obtain⟨g',hg',hall⟩:=G.cov o h1 (Vv hyc);have e:=Parts.zcG G.nd hg' hg (hall y hyc) hy;rw[<- e];exact hall x ((JA hx).mp hn)
theorem zg4 {g:List (Nat×Nat)}(hg:g∈gs){o:Nat×Nat}(ho:o∈xK rs g){a:List (Nat×Nat)}(h:∀c∈a,c∈zW rs/\c ∉ g):Grow.cnt (nearF rs) o a=0:=by
 unfold Grow.cnt;rw[Vt,Wc];intro c hc hn;exact(h c hc).2 (zk4 G hg ho (h c hc).1 hn)
theorem QO {g:List (Nat×Nat)}(hg:g∈gs):Tally.Loc (zW rs) (qx rs g) g:=by
 have key:∀S S':List (Nat×Nat),(∀o∈xK rs g,Grow.cnt (nearF rs) o S=Grow.cnt (nearF rs) o S')->qx rs g S=qx rs g S':=fun S S' h=>by
  unfold qx Grow.fits;rw[WM,WD,WD];constructor
  ·intro k o ho;have:=k o ho;rwa [h o (XS.mp ho).1] at this
  ·intro k o ho;have:=k o ho;rwa [<- h o (XS.mp ho).1] at this
 have app:∀(o:Nat×Nat) (a b:List (Nat×Nat)),Grow.cnt (nearF rs) o (a++b)=Grow.cnt (nearF rs) o a+Grow.cnt (nearF rs) o b:=fun o a b=>by
  unfold Grow.cnt;rw[W6,XZ]
 refine⟨fun a b h=>key _ _ fun o ho=>?_,fun a b h=>key _ _ fun o ho=>?_⟩
 ·rw[app,zg4 G hg ho h,VM]
 ·rw[app,zg4 G hg ho h,TR]
theorem ze5:(gs.map fun g=>Tally.tl g (qx rs g)).foldl Pour.JE [1]=Tally.tl gs.flatten (Tally.jy (qx rs) gs):=Tally.zfY G.nd (yg G) fun g hg=>QO G hg
theorem zia (i:Nat):((gs.take i).map fun g=>Tally.tl g (qx rs g)).foldl Pour.JE [1]=Tally.tl (gs.take i).flatten (Tally.jy (qx rs) (gs.take i)):=by
 have sub:(gs.take i).flatten.Sublist gs.flatten:=by
  have e:gs.flatten=(gs.take i).flatten++(gs.drop i).flatten:=by rw[<- Wo,WC]
  rw[e];exact Tq _ _
 exact Tally.zfY (G.nd.sublist sub) (fun c hc=>yg G c (sub.subset hc)) fun g hg=>QO G (V1 hg)
theorem Zc (R:Rows bd.cps.toList rs):gs.flatten.length<=64:=by
 have h1:=Parts.jY G.nd (yg G);have h2:=zcV R;lia
end
theorem zc3 (rs:List Str)(part:List (Nat×Nat)):Cnt.xj part.length (ZF rs part)=Tally.tl part (qx rs part):=by
 unfold ZF;rw[Tally.zeH part.length toL (fun k=>Y1 _)];exact Tally.zgY part _
def zib (xs:List Int):Prop:=∀z∈xs,z.natAbs<2^8000
theorem zk5 {cs:List (Nat×Nat)}{p:List (Nat×Nat)->Bool}{k:Nat}(h:cs.length<=64):Tally.T cs p k<=2^64:=by
 refine XV List.countP_le_length ?_;rw[Subs.Yt,Y1,Wz];exact U8 (by decide) h
theorem ZG {cs:List (Nat×Nat)}{p:List (Nat×Nat)->Bool}(h:cs.length<=64):zib (Tally.tl cs p):=fun z hz=>by
 unfold Tally.tl at hz;obtain⟨k,_,rfl⟩:=XB.mp hz;rw[Int.natAbs_natCast];exact Xe (zk5 h) (Pf (by decide) (by decide))
def jk (rs:List Str)(S:List (Nat×Nat)):Bool:=((zL rs).filter fun o=>!(clA rs o).isEmpty).all fun o=>decide (((Grow.cnt (nearF rs) o S:Nat):Int)=qV rs o)
theorem jd {rs:List Str}{S:List (Nat×Nat)}:jk rs S=true ↔ ∀o∈zL rs,clA rs o ≠ []->((Grow.cnt (nearF rs) o S:Nat):Int)=qV rs o:=by
 unfold jk;rw[WD];constructor
 ·intro h o ho hc;exact of_decide_eq_true (h o (XS.mpr ⟨ho,by rw[WH];exact US.mpr hc⟩))
 ·intro h o ho;obtain⟨h1,h2⟩:=XS.mp ho;rw[WH] at h2;exact decide_eq_true (h o h1 (US.mp h2))
theorem YG {rs:List Str}{gs:List (List (Nat×Nat))}(G:Parts.Good (clA rs) (zL rs) gs)(S:List (Nat×Nat)):Tally.jy (qx rs) gs S=jk rs S:=by
 rw[WM,jd];unfold Tally.jy qx Grow.fits;rw[WD];constructor
 ·intro h o ho hc;obtain⟨x,hx⟩:=TJ _ hc;obtain⟨g,hg,hall⟩:=G.cov o ho hc;have hn:nearF rs o x=true:=(JA (J8 hx)).mpr hx;have:=h g hg;rw[WD] at this;exact of_decide_eq_true (this o (XS.mpr ⟨zdL.mpr ⟨ho,x,hall x hx,hn⟩,Wj.mpr ⟨x,hall x hx,hn⟩⟩))
 ·intro h g hg;rw[WD];intro o ho;obtain⟨h1,x,hx,hn⟩:=zdL.mp (XS.mp ho).1;have hxs:=yg G x (WE.mpr ⟨g,hg,hx⟩);exact decide_eq_true (h o h1 (Vv ((JA hxs).mp hn)))
theorem zdM (rs:List Str):Tally.Inv (jk rs):=fun a b e=>by
 rw[WM,jd,jd];have:∀o,Grow.cnt (nearF rs) o a=Grow.cnt (nearF rs) o b:=fun o=>(e.filter _).length_eq;constructor
 ·intro h o ho hc;rw[<- this o];exact h o ho hc
 ·intro h o ho hc;rw[this o];exact h o ho hc
theorem zjL {rs:List Str}{gs:List (List (Nat×Nat))}(G:Parts.Good (clA rs) (zL rs) gs){c:Nat×Nat}:c∈gs.flatten↔c∈zW rs/\∃o∈zL rs,nearF rs o c=true:=by
 constructor
 ·intro h;obtain⟨o,ho,hc⟩:=G.from_ c h;have hs:=J8 hc;exact⟨hs,o,ho,(JA hs).mpr hc⟩
 ·rintro⟨hs,o,ho,hn⟩;have hc:=(JA hs).mp hn;obtain⟨g,hg,hall⟩:=G.cov o ho (Vv hc);exact WE.mpr ⟨g,hg,hall c hc⟩
def jA (rs:List Str)(S:List (Nat×Nat)):Bool:=(zL rs).all fun o=>decide (((Grow.cnt (nearF rs) o S:Nat):Int)=qV rs o)
theorem Y5 {rs:List Str}{S:List (Nat×Nat)}:jA rs S=true ↔ ∀o∈zL rs,((Grow.cnt (nearF rs) o S:Nat):Int)=qV rs o:=by
 unfold jA;rw[WD];exact⟨fun h o ho=>of_decide_eq_true (h o ho),fun h o ho=>decide_eq_true (h o ho)⟩
theorem Y6 (rs:List Str):Tally.Inv (jA rs):=fun a b e=>by
 rw[WM,Y5,Y5];have:∀o,Grow.cnt (nearF rs) o a=Grow.cnt (nearF rs) o b:=fun o=>(e.filter _).length_eq;constructor
 ·intro h o ho;rw[<- this o];exact h o ho
 ·intro h o ho;rw[this o];exact h o ho
theorem zbN {rs:List Str}:(qX rs).isEmpty=true ↔ ∀o∈zL rs,clA rs o=[]->qV rs o=0:=by
 rw[List.isEmpty_iff];unfold qX qV;rw[Wc];constructor
 ·intro h o ho hc;have:=h o (XS.mpr ⟨ho,by rw[hc];rfl⟩);rw[WH,Bool.not_eq_false] at this;rw[of_decide_eq_true this];rfl
 ·intro h o ho;obtain⟨h1,h2⟩:=XS.mp ho;have:=h o h1 (List.isEmpty_iff.mp h2);rw[WH,Bool.not_eq_false];exact decide_eq_true (by lia)
theorem Zd {rs:List Str}{S:List (Nat×Nat)}(hS:∀c∈S,c∈zW rs):jA rs S=((qX rs).isEmpty&&jk rs S):=by
 have z:∀o,clA rs o=[]->Grow.cnt (nearF rs) o S=0:=fun o ho=>by
  unfold Grow.cnt;rw[Vt,Wc];intro c hc hn;have:=(JA (hS c hc)).mp hn;rw[ho] at this;cases this
 rw[WM,Wm,Y5,zbN,jd];constructor
 ·intro h;refine⟨fun o ho hc=>?_,fun o ho _=>h o ho⟩;rw[<- h o ho,z o hc];rfl
 ·rintro⟨h1,h2⟩ o ho;by_cases hc:clA rs o=[]
  ·rw[z o hc,h1 o ho hc];rfl
  ·exact h2 o ho hc
theorem zg5 {rs:List Str}{c o:Nat×Nat}(hc:c∈jG rs)(ho:o∈zL rs):nearF rs o c=false:=by
 unfold jG at hc;have h:=(XS.mp hc).2;rw[WH,TQ,RD] at h;exact WZ.mpr (h o ho)
theorem zbO {rs:List Str}{a b:List (Nat×Nat)}(hb:∀c∈b,c∈jG rs):jk rs (a++b)=jk rs a:=by
 have e:∀o∈zL rs,Grow.cnt (nearF rs) o (a++b)=Grow.cnt (nearF rs) o a:=fun o ho=>by
  unfold Grow.cnt;rw[W6,XZ];have:b.filter (nearF rs o)=[]:=Wc.mpr fun c hc hn=>by
   rw[zg5 (hb c hc) ho] at hn;cases hn
  rw[this];rfl
 rw[WM,jd,jd];constructor
 ·intro h o ho hc;rw[<- e o ho];exact h o ho hc
 ·intro h o ho hc;rw[e o ho];exact h o ho hc
theorem QS {rs:List Str}{c:Nat×Nat}(h:c∈jG rs):c∈zW rs:=(XS.mp h).1
theorem Y7 (rs:List Str):(zW rs).Nodup:=xP (Cells.Ys _ 0 (codes rs))
theorem zc4 (rs:List Str):(jG rs).Nodup:=(Y7 rs).sublist VQ
section
variable {rs:List Str}{gs:List (List (Nat×Nat))}(G:Parts.Good (clA rs) (zL rs) gs)
include G
theorem QT {c:Nat×Nat}:c∈jG rs↔c∈zW rs/\c ∉ gs.flatten:=by
 rw[zjL G];constructor
 ·intro h;refine⟨QS h,?_⟩;rintro⟨_,o,ho,hn⟩;rw[zg5 h ho] at hn;cases hn
 ·rintro⟨h1,h2⟩;unfold jG;refine XS.mpr ⟨h1,?_⟩;rw[WH,TQ,RD];intro o ho hn;exact h2 ⟨h1,o,ho,hn⟩
theorem zao:(zW rs).Perm (gs.flatten++jG rs):=by
 refine(V7 (Y7 rs) (V4.mpr ⟨G.nd,zc4 rs,fun a ha b hb e=>?_⟩)).mpr fun c=>?_
 ·subst e;exact((QT G).mp hb).2 ha
 ·rw[XI,QT G];constructor
  ·intro h;by_cases hc:c∈gs.flatten
   ·exact .inl hc
   ·exact .inr ⟨h,hc⟩
  ·rintro(h | h)
   ·exact yg G c h
   ·exact h.1
theorem count_is (s:Nat):(if (qX rs).isEmpty=true then Tally.dl (Tally.tl gs.flatten (Tally.jy (qx rs) gs)) (jG rs).length ((s:Nat):Int) else 0)=((Tally.T (zW rs) (jA rs) s:Nat):Int):=by
 rw[Tally.zaf (zao G) (Y6 rs)];have key:∀a∈Subs.subs gs.flatten,∀b∈Subs.subs (jG rs),jA rs (a++b)=((qX rs).isEmpty&&Tally.jy (qx rs) gs a):=fun a ha b hb=>by
  have sa:=(Tally.jE ha).subset;have sb:=(Tally.jE hb).subset;rw[Zd fun c hc=>(XI.mp hc).elim (fun h=>yg G c (sa h)) fun h=>QS (sb h),zbO fun c hc=>sb hc,YG G]
 cases hb:(qX rs).isEmpty with
 | true =>
  rw[if_pos rfl];refine Tally.zlA (fun a ha b hb'=>?_) s;rw[key a ha b hb',hb,Uc]
 | false =>
  rw[if_neg (by decide),Tally.Yv fun S hS=>?_]
  ·rfl
  ·rw[Tally.QE] at hS;obtain⟨b,hb',hS⟩:=Uu.mp hS;obtain⟨a,ha,rfl⟩:=XB.mp hS;rw[key a ha b hb',hb,Vp]
theorem zjM (c:Nat×Nat):Tally.Inv fun S=>jA rs S&&decide (c∈S):=fun a b e=>by
 show (jA rs a&&decide (c∈a))=(jA rs b&&decide (c∈b));rw[Y6 rs a b e,show decide (c∈a)=decide (c∈b) from decide_eq_decide.mpr e.mem_iff]
theorem zmO {c:Nat×Nat}(hc:c∈jG rs)(s:Nat):(if (qX rs).isEmpty=true then Tally.dl (Tally.tl gs.flatten (Tally.jy (qx rs) gs)) ((jG rs).length-1) (((s:Nat):Int)-1) else 0)=((Tally.T (zW rs) (fun S=>jA rs S&&decide (c∈S)) s:Nat):Int):=by
 rw[Tally.zaf (zao G) (zjM G c)];have key:∀a∈Subs.subs gs.flatten,∀b∈Subs.subs (jG rs),(jA rs (a++b)&&decide (c∈a++b))=((qX rs).isEmpty&&(Tally.jy (qx rs) gs a&&decide (c∈b))):=fun a ha b hb=>by
  have sa:=(Tally.jE ha).subset;have sb:=(Tally.jE hb).subset;have e:decide (c∈a++b)=decide (c∈b):=decide_eq_decide.mpr ⟨fun h=>(XI.mp h).elim (fun h=>absurd (sa h) ((QT G).mp hc).2) id,fun h=>XJ _ h⟩;rw[Zd fun c hc=>(XI.mp hc).elim (fun h=>yg G c (sa h)) fun h=>QS (sb h),zbO fun c hc=>sb hc,YG G,e,RU]
 cases hb:(qX rs).isEmpty with
 | true =>
  rw[if_pos rfl];refine Tally.zkU hc (zc4 rs) (fun a ha b hb'=>?_) s;rw[key a ha b hb',hb,Uc];exact congrArg _ (decide_eq_decide.mpr Iff.rfl)
 | false =>
  rw[if_neg (by decide),Tally.Yv fun S hS=>?_]
  ·rfl
  ·rw[Tally.QE] at hS;obtain⟨b,hb',hS⟩:=Uu.mp hS;obtain⟨a,ha,rfl⟩:=XB.mp hS;rw[key a ha b hb',hb,Vp]
end
theorem zdN (A B:List (List (Nat×Nat)))(g:List (Nat×Nat)):(A++g::B).flatten.Perm ((A++B).flatten++g):=by
 rw[Wo,Wo,WA,W7];exact(Ua (l₁:=g) (l₂:=B.flatten)).append_left _
theorem zg6 {rs:List Str}{A B:List (List (Nat×Nat))}{g:List (Nat×Nat)}(G:Parts.Good (clA rs) (zL rs) (A++g::B)){c:Nat×Nat}(hc:c∈g):Pour.JE (Tally.tl (A++B).flatten (Tally.jy (qx rs) (A++B))) (Tally.tl g fun S=>qx rs g S&&decide (c∈S))=Tally.tl ((A++B).flatten++g) fun S=>Tally.jy (qx rs) (A++B) S&&(qx rs g S&&decide (c∈S)):=by
 have hp:=zdN A B g;have nd:((A++B).flatten++g).Nodup:=hp.nodup_iff.mp G.nd;have hU:∀x∈(A++B).flatten++g,x∈zW rs:=fun x hx=>yg G x (hp.mem_iff.mpr hx);have hgm:g∈A++g::B:=by simp
 have hAB:∀x∈A++B,x∈A++g::B:=fun x hx=>by
  rcases XI.mp hx with h | h
  ·exact Xd _ h
  ·exact XJ _ (XX _ h)
 have L:=QO G hgm;have Lc:Tally.Loc (zW rs) (fun S=>qx rs g S&&decide (c∈S)) g:=by
  refine⟨fun a b h=>?_,fun a b h=>?_⟩
  ·show (qx rs g (a++b)&&decide (c∈a++b))=(qx rs g b&&decide (c∈b));rw[L.l a b h,show decide (c∈a++b)=decide (c∈b) from decide_eq_decide.mpr ⟨fun k=>(XI.mp k).elim (fun k=>absurd hc (h c k).2) id,fun k=>XJ _ k⟩]
  ·show (qx rs g (a++b)&&decide (c∈a++b))=(qx rs g a&&decide (c∈a));rw[L.r a b h,show decide (c∈a++b)=decide (c∈a) from decide_eq_decide.mpr ⟨fun k=>(XI.mp k).elim id fun k=>absurd hc (h c k).2,fun k=>Xd _ k⟩]
 exact Tally.zbr nd hU (fun x hx=>QO G (hAB x hx)) Lc
theorem zk6 {rs:List Str}{A B:List (List (Nat×Nat))}{g:List (Nat×Nat)}(G:Parts.Good (clA rs) (zL rs) (A++g::B)){c:Nat×Nat}(hc:c∈g)(s:Nat) :
  (if (qX rs).isEmpty=true then Tally.dl (Pour.JE (Tally.tl (A++B).flatten (Tally.jy (qx rs) (A++B))) (Tally.tl g fun S=>qx rs g S&&decide (c∈S))) (jG rs).length ((s:Nat):Int) else 0)=((Tally.T (zW rs) (fun S=>jA rs S&&decide (c∈S)) s:Nat):Int):=by
 have hp:=zdN A B g;have hU:∀x∈(A++B).flatten++g,x∈zW rs:=fun x hx=>yg G x (hp.mem_iff.mpr hx);have hgm:g∈A++g::B:=by simp
 rw[zg6 G hc];have hP:(zW rs).Perm ((A++B).flatten++g++jG rs):=(zao G).trans (hp.append_right _);rw[Tally.zaf hP (zjM G c)];have key:∀a∈Subs.subs ((A++B).flatten++g),∀b∈Subs.subs (jG rs),(jA rs (a++b)&&decide (c∈a++b))=((qX rs).isEmpty&&(Tally.jy (qx rs) (A++B) a&&(qx rs g a&&decide (c∈a)))):=fun a ha b hb=>by
  have sa:=(Tally.jE ha).subset;have sb:=(Tally.jE hb).subset;have e:decide (c∈a++b)=decide (c∈a):=decide_eq_decide.mpr ⟨fun h=>(XI.mp h).elim id fun h=>absurd (WE.mpr ⟨g,hgm,hc⟩) ((QT G).mp (sb h)).2,fun h=>Xd _ h⟩;have ep:Tally.jy (qx rs) (A++g::B) a=(Tally.jy (qx rs) (A++B) a&&qx rs g a):=by
   rw[Tally.zbq,Tally.zbq];show (_&&(qx rs g a&&Tally.jy (qx rs) B a))=_;rw[Tw (qx rs g a),RU]
  rw[Zd fun c hc=>(XI.mp hc).elim (fun h=>hU c (sa h)) fun h=>QS (sb h),zbO fun c hc=>sb hc,<- YG G,ep,e,RU,RU]
 cases hb:(qX rs).isEmpty with
 | true =>
  rw[if_pos rfl];refine Tally.zlA (fun a ha b hb'=>?_) s;show (jA rs (a++b)&&decide (c∈a++b))=_;rw[key a ha b hb',hb,Uc]
 | false =>
  rw[if_neg (by decide),Tally.Yv fun S hS=>?_]
  ·rfl
  ·rw[Tally.QE] at hS;obtain⟨b,hb',hS⟩:=Uu.mp hS;obtain⟨a,ha,rfl⟩:=XB.mp hS;rw[key a ha b hb',hb,Vp]
def zmP (K:X6):Sp:=fun vs H Q _=>∃(a b:Addr) (xs ys:List Int),vs=[.ref a,.ref b]/\SqL K H a (iL xs)/\SqL K H b (iL ys)/\1<=xs.length/\xs.length<=70/\1<=ys.length/\ys.length<=70/\zib xs/\zib ys /\
 ∀(l:Addr) (H':Hp),H l=none->H' l=some (.lst (iL (Pour.JE xs ys)))->zq H H'->Q (.ref l) H'
def yk (H:Hp):List V->List (List Int)->Prop:=W9 fun v xs=>∃a,v=V.ref a/\H a=some (.lst (iL xs))
theorem yy {H H':Hp}(s:zq H H'){us:List V}{xss:List (List Int)}(hp:yk H us xss):yk H' us xss:=by
 induction hp with
 | nil=>exact .nil
 | cons q _ ih =>
  obtain⟨a,e,h⟩:=q;exact .cons ⟨a,e,s _ _ h⟩ ih
theorem YH {H:Hp}{us:List V}{xss:List (List Int)}(h:yk H us xss):us.length=xss.length:=Paired.length h
theorem zjN {H:Hp}{us:List V}{xss:List (List Int)}{i:Nat}{v:V}(h:yk H us xss)(e:us[i]?=some v):∃xs a,xss[i]?=some xs/\v=V.ref a/\H a=some (.lst (iL xs)):=by
 obtain⟨S,h1,a,h2⟩:=zar h e;exact⟨S,a,h1,h2⟩
structure zgc (xss:List (List Int)):Prop where
 one:∀xs∈xss,1<=xs.length/\xs.length<=70/\zib xs
 acc:∀i,1<=((xss.take i).foldl Pour.JE [1]).length/\((xss.take i).foldl Pour.JE [1]).length<=70/\zib ((xss.take i).foldl Pour.JE [1])
def zmQ:Sp:=fun vs H Q _=>∃(la:Addr) (us:List V) (xss:List (List Int)),vs=[.ref la]/\H la=some (.lst us)/\yk H us xss/\zgc xss /\
 ∀(d:Addr) (H':Hp),H d=none->H' d=some (.lst (iL (xss.foldl Pour.JE [1])))->zq H H'->Q (.ref d) H'
def tls (rs:List Str)(gs:List (List (Nat×Nat))):List (List Int):=gs.map fun g=>Tally.tl g (qx rs g)
theorem zjO {rs:List Str}(R:Rows bd.cps.toList rs){gs:List (List (Nat×Nat))}(G:Parts.Good (clA rs) (zL rs) gs):zgc (tls rs gs):=by
 have n64:=Zc G R;refine⟨fun xs hx=>?_,fun i=>?_⟩
 ·obtain⟨g,hg,rfl⟩:=XB.mp hx;have gl:g.length<=64:=XV (VW (Wu hg)) n64;rw[Tally.jx];exact⟨by lia,by lia,ZG gl⟩
 ·unfold tls;rw[<- UE,zia G i];have tl64:(gs.take i).flatten.length<=64:=by
   have e:gs.flatten=(gs.take i).flatten++(gs.drop i).flatten:=by rw[<- Wo,WC]
   rw[e,XZ] at n64;lia
  rw[Tally.jx];exact⟨by lia,by lia,ZG tl64⟩
def zjP (CG:Addr):Sp:=fun vs H Q E=>∃(p l:Addr) (rs:List Str) (n:Int),vs=[.ref p]/\qC H p l rs n/\Rows bd.cps.toList rs/\(∀gs,Parts.Good (clA rs) (zL rs) gs->(∃g∈gs,14<g.length)->∀H',zq H H'->E (.ref CG) none H') /\
 ∀(d:Addr) (gs:List (List (Nat×Nat))) (H':Hp),H d=none->(∀g∈gs,g.length<=14)->Parts.Good (clA rs) (zL rs) gs->Up2 (heads gs)->H' d=some (.lst (iL (Tally.tl gs.flatten (Tally.jy (qx rs) gs))))->zq H H'->Q (.ref d) H'
theorem xQ:zF ["one","other","counts","i","many","j","more"] ["one","other"] (zh QG):=⟨rfl,rfl,rfl,by decide +kernel,rfl,by decide +kernel,by decide +kernel⟩
theorem zc5 (T:Txt mg)(D:zo K mg "poured" QG ["one","other"] f fd):qi P w K mg base CX0 1 f fd ["one","other"] (zmP K):=by
 refine D.F.ok xQ (fun vs H Q E h=>?_) (fun cdv A outer s H vs Q E hr h=>?_)
 ·obtain⟨a,b,xs,ys,rfl,_⟩:=h;rfl
 ·obtain⟨a,b,xs,ys,rfl,ha,hb,x1,x2,y1,y2,bx,bY,q⟩:=h;refine⟨_,(@ze _ _ _ _ _ (@zC _ _ 2 _ _ _ _ xQ.nd rfl (Xy rfl) (@zz _ _ _ _ _ _ _ _ zfv (@zY _ _ _ _ (@za _ _ _ _ _ zf zc rfl)) (zz jb (zz qA (zp zJ (by rfl) T.yj Wt (za (pvS 0) zc)) (zp zJ (by rfl) T.yj Wt (za (pvS 1) zc))) zf)) (by rfl) (.inr rfl)) (ze (qy WT rfl (JM (by rfl) T.jz (za (pvS 0) zc)) (yq rfl (zI (zm (i:=3) xQ.nd rfl (Xy rfl)) (zI (zm (i:=4) xQ.nd rfl (Xy rfl)) ja))) (zg (qy WT rfl (JM (by rfl) T.jz (za (pvS 1) zc)) (yq rfl (zI (zm (i:=5) xQ.nd rfl (Xy rfl)) (zI (zm (i:=6) xQ.nd rfl (Xy rfl)) ja))) (zg (zgy (pvS 2) (zz qA (pvS 3) (pvS 5)) zec (zz Yp (pvS 4) (pvS 6)) zin set_list))))) (zg (zH (pvS 2))))),?_⟩;refine⟨sz_1,fun l0 hl0=>?_⟩;have s0:zq H (upd H l0 (.lst [.int 0])):=zd hl0;refine⟨_,rfl,a,_,rfl,.inl (s0.seq ha),_,rfl,b,_,rfl,.inl (s0.seq hb),_,_,rfl,rfl,_,_,rfl,rfl,l0,_,_,rfl,rfl,zb,?_,?_,?_,fun p hp=>?_⟩
  ·rw[Y1,Y1];lia
  ·rw[Y1,Y1];lia
  ·rw[Y1,Y1];exact XV (show 1*((xs.length:Int)+(ys.length:Int)-1).toNat<=140 by lia) (by decide)
  have en:(((iL xs).length:Nat)+((iL ys).length:Nat)-1:Int).toNat=xs.length+ys.length-1:=by
   rw[Y1,Y1];lia
  rw[en,ze3,<- Pour.zjk];have s1:zq H (upd (upd H l0 (.lst [.int 0])) p (.lst (iL (Pour.st xs ys 0 0)))):=s0.trans (zd hp);have hp0:H p=none:=s0.free hp;refine⟨_,rfl,a,rfl,⟨_,s1.seq ha⟩,?_⟩;refine JN (K:=K) (l:=a) (xs:=iL xs) (fun i σ H'=>∃v3 v4 v5 v6,σ=[some (.ref a),some (.ref b),some (.ref p),v3,v4,v5,v6]/\zq H H'/\H' p=some (.lst (iL (Pour.st xs ys i 0))))
   ⟨_,_,_,_,rfl,s1,zb⟩ (fun i σ H' _ ⟨_,_,_,_,_,s,_⟩=>s.seq ha) ?_ ?_
  ·rintro i v t σ H1 hv ht ⟨v3,v4,v5,v6,rfl,s2,hp2⟩;obtain⟨x,hx,rfl⟩:=ints_get hv;have st:zq H1 (upd H1 t (.tup [.int (i:Nat),.int x])):=zd ht;refine⟨t,_,rfl,SqT.of zb,rfl,_,_,rfl,_,_,rfl,rfl,?_⟩;refine⟨_,rfl,b,rfl,⟨_,(s2.trans st).seq hb⟩,?_⟩;refine JN (K:=K) (l:=b) (xs:=iL ys) (fun j σ H'=>∃v5 v6,σ=[some (.ref a),some (.ref b),some (.ref p),some (.int (i:Nat)),some (.int x),v5,v6]/\zq H H'/\H' p=some (.lst (iL (Pour.st xs ys i j))))
    ⟨_,_,rfl,s2.trans st,st _ _ hp2⟩ (fun j σ H' _ ⟨_,_,_,s,_⟩=>s.seq hb) ?_ ?_
   ·rintro j v t2 σ H2 hv2 ht2 ⟨v5,v6,rfl,s3,hp3⟩;obtain⟨y,hy,rfl⟩:=ints_get hv2;have st2:zq H2 (upd H2 t2 (.tup [.int (j:Nat),.int y])):=zd ht2;have hp4:=st2 _ _ hp3;have hi:i<xs.length:=(X2.mp hx).1;have hj:j<ys.length:=(X2.mp hy).1;have en2:((i:Int)+(j:Int)).toNat=i+j:=by lia
    refine⟨t2,_,rfl,SqT.of zb,rfl,_,_,rfl,_,_,rfl,rfl,?_⟩;refine⟨_,rfl,_,rfl,_,rfl,_,_,rfl,rfl,p,_,_,_,rfl,rfl,SqL.of hp4,za0 (by lia) (by rw[en2];exact YF (Pour.zfU (by lia))),?_⟩;refine⟨_,rfl,_,rfl,_,_,rfl,rfl,zns (bx _ (X0 hx)) (bY _ (X0 hy)),_,_,rfl,rfl,p,_,_,_,rfl,rfl,hp4,zgb (by lia) (by rw[Y1,Pour.zfT];lia),?_⟩;refine⟨_,_,rfl,fun c o e=>?_,?_⟩
    ·have hc:c≠p:=fun z=>by
      subst z;rw[hp0] at e;cases e
     rw[zj hc];exact st2 _ _ (s3 _ _ e)
    ·rw[zb,en2,<- Pour.zkP hx hy];show some (HO.lst ((Uh V.int _).set _ (V.int _)))=_;rw[<- OF]
   ·rintro σ H2 ⟨v5,v6,rfl,s3,hp3⟩;rw[Y1,Pour.zmB] at hp3;exact⟨_,_,_,_,rfl,s3,hp3⟩
  ·rintro σ H1 ⟨v3,v4,v5,v6,rfl,s2,hp2⟩;rw[Y1,Pour.zmC] at hp2;exact⟨_,rfl,q p H1 hp0 hp2 s2⟩
theorem yN:zF ["lists","counts","others"] ["lists"] (zh xH):=⟨rfl,rfl,rfl,by decide +kernel,rfl,by decide +kernel,by decide +kernel⟩
theorem JI (T:Txt mg)(Z:Prog K mg)(D:zo K mg "all_poured" xH ["lists"] f fd):qi P w K mg base CX0 2 f fd ["lists"] zmQ:=by
 obtain⟨zjQ,zic,Yg⟩:=Z.poured;refine D.F.ok yN (fun vs H Q E h=>?_) (fun cdv A outer s H vs Q E hr h=>?_)
 ·obtain⟨la,us,xss,rfl,_⟩:=h;rfl
 ·obtain⟨la,us,xss,rfl,hla,hx,ok,q⟩:=h;refine⟨_,(@ze _ _ _ _ _ (@zC _ _ 1 _ _ _ _ yN.nd rfl (Xy rfl) (@zY _ _ _ _ (@za _ _ _ _ _ zf zc rfl)) (by rfl) (.inr rfl)) (ze (qy WT rfl (zM (pvS 0)) (zm (i:=2) yN.nd rfl (Xy rfl)) (zg (zC (i:=1) yN.nd rfl (Xy rfl) (pc0 (zc5 T Yg) hr Yg (za (pvS 1) (za (pvS 2) zc)))))) (zg (zH (pvS 1))))),?_⟩;refine⟨sz_1,fun c0 hc0=>?_⟩;have s0:zq H (upd H c0 (.lst [.int 1])):=zd hc0;refine⟨_,rfl,la,rfl,⟨_,SqL.of (s0 _ _ hla)⟩,?_⟩;refine jg (K:=K) (a:=la) (xs:=us) (fun i σ H'=>∃(c:Addr) (v2:Option V),σ=[some (.ref la),some (.ref c),v2]/\zq H H'/\H c=none/\H' c=some (.lst (iL ((xss.take i).foldl Pour.JE [1]))))
   ⟨c0,_,rfl,s0,hc0,zb⟩ (fun i σ H' _ ⟨_,_,_,y,_⟩=>SqL.of (y _ _ hla)) ?_ ?_
  ·rintro i v σ H1 hv ⟨c,v2,rfl,s1,hc,hc1⟩;obtain⟨xs,a1,hxs,rfl,ha1⟩:=zjN hx hv;obtain⟨o1,o2,o3⟩:=ok.one xs (X0 hxs);obtain⟨p1,p2,p3⟩:=ok.acc i;refine⟨_,rfl,_,rfl,c,a1,_,xs,rfl,SqL.of hc1,SqL.of (s1 _ _ ha1),p1,p2,o1,o2,p3,o3,fun d H2 hd hd2 s2=>?_⟩;refine⟨d,_,rfl,s1.trans s2,s1.free hd,?_⟩;rw[hd2,Xm,hxs,SS];rfl
  ·rintro σ H1 ⟨c,v2,rfl,s1,hc,hc1⟩;rw[YH hx,Xq] at hc1;exact⟨_,rfl,q c H1 hc hc1 s1⟩
theorem zbP:zF ["board"] ["board"] (zh jI):=⟨rfl,rfl,rfl,by decide +kernel,rfl,by decide +kernel,by decide +kernel⟩
theorem Jf {jaj:Addr}(T:Txt mg)(Z:Prog K mg)(jat:qk K mg "TooGreat" jaj)(D:zo K mg "near_counts" jI ["board"] f fd):qi P w K mg base (CXE P w) 6 f fd ["board"] (zjP jaj):=by
 obtain⟨zbF,zak,zQ⟩:=Z.around;obtain⟨zal,YY,zx⟩:=Z.sign_at;obtain⟨YZ,Yc,zD⟩:=Z.cells_of;obtain⟨ZC,JH,zB⟩:=Z.open_cells;obtain⟨Yd,ZD,qD⟩:=Z.number_at;obtain⟨QM,YQ,xM⟩:=Z.numbers_of;obtain⟨zbG,zaz,ZE⟩:=Z.needs_at;obtain⟨zc1,zbH,YE⟩:=Z.may_fit;obtain⟨Ye,ZN,qq⟩:=Z.part_layings;obtain⟨zc2,zbM,jo⟩:=Z.counted;obtain⟨zj8,zjR,yO⟩:=Z.part_counts;obtain⟨ZO,Ze,zO⟩:=Z.closed_around;obtain⟨zjS,zid,Za⟩:=Z.joined;obtain⟨zk7,zjT,QU⟩:=Z.parts;obtain⟨zdO,zcc,je⟩:=Z.all_poured;refine D.F.okX zbP (fun vs H Q E h=>?_) (fun cdv A outer s H vs Q E hr h=>?_)
 ·obtain⟨p,l,rs,n,rfl,_⟩:=h;rfl
 ·obtain⟨p,l,rs,n,rfl,b,R,qg,q⟩:=h;refine⟨_,(zg (zH (pc0 (JI T Z je) hr je (za (zjc jC (N:=["part","board"]) (src:=[none,some 0]) (zT.free (O:=(zh jI).names) (XN:=["board"]) rfl rfl ⟨_,rfl⟩ rfl rfl (by decide +kernel) (by decide +kernel) (by decide +kernel) rfl (by decide +kernel)) rfl (zM (pc0 (zeU T QU zQ zx zD zB zO Za) hr QU (za (pvS 0) zc))) (fun _ _ _ _ _=>(zm (i:=0) (by show W2 (["part","board"]:List Str);decide +kernel) rfl (Xy rfl))) (fun _ _ _ _ _=>qF) (fun _ _ _ _ _=>(Qi (zbL T Z jat yO) (hr.mono (by decide)) (by rfl) yO.g yO.F.kp yO.b .nil Qx (za (pvS 1) (za (pvS 0) zc))))) zc)))),?_⟩;refine⟨_,rfl,p,l,rs,n,rfl,b,R,fun d ws gs H1 hd hd1 hG _ _ G up s1=>⟨d,rfl,⟨_,SqL.of hd1⟩,fun z hz=>?_⟩⟩;have g64:gs.length<=64:=XV (Parts.Z7 G.ne) (Zc G R);refine qW (K:=K) (a:=d) (xs:=ws) (fun j σ' H'=>∃(u0:Option V) (ys:List V),σ'=[u0,some (.ref p)]/\zq H1 H'/\H' z=some (.lst ys)/\(∀v∈ys,∀a,v=V.ref a->a≠z)/\(∀g∈gs.take j,g.length<=14)/\yk H' ys (tls rs (gs.take j)))
   ⟨_,[],rfl,zd hz,zb,(fun _ h=>nomatch h),(fun _ h=>nomatch h),.nil⟩ (fun j σ' H' _ ⟨_,_,_,y,_⟩=>SqL.of (y _ _ hd1)) ?_ ?_
  ·rintro j v σ' H2 hv ⟨u0,ys,rfl,s2,hz2,nz,n14,hy2⟩;obtain⟨g,hg,ga,ug,rfl,hga,hcg⟩:=jP.get (hG.mono s2) hv;have gm:=X0 hg;have il:=(X2.mp hg).1;have g64':g.length<=64:=XV (VW (Wu gm)) (Zc G R);unfold ZR;refine zaj ?_;refine⟨_,rfl,_,rfl,p,l,ga,rs,n,ug,g,rfl,(b.mono s1).mono s2,R,hga,hcg,xP (G.srt g gm),g64',fun g14 H3 s3=>qg gs G ⟨g,gm,g14⟩ H3 ((s1.trans s2).trans s3),fun g14 e H3 he he3 s3=>?_⟩;rw[zc3] at he3;have ez:e≠z:=fun y=>by
    subst y;rw[hz2] at he;cases he
   refine⟨_,s3 _ _ hz2,?_,_,ys++[.ref e],rfl,fun b o e'=>?_,zb,fun v hv a ea=>?_,fun g' hg'=>?_,?_⟩
   ·rw[YH hy2];unfold tls;rw[Y1,XD];exact Xe (show _<=64 by lia) (by decide)
   ·rw[zj (zk e' hz)];exact s3 _ _ (s2 _ _ e')
   ·rcases XI.mp hv with hv | hv
    ·exact nz v hv a ea
    ·have:v=V.ref e:=by simpa using hv
     rw[this] at ea;cases ea;exact ez
   ·rw[Xm,hg] at hg';rcases XI.mp hg' with y | y
    ·exact n14 g' y
    ·have y:g'=g:=by simpa using y
     rw[y];exact g14
   ·have t1:tls rs (gs.take (j+1))=tls rs (gs.take j)++[Tally.tl g (qx rs g)]:=by
     unfold tls;rw[Xm,hg,Xf];rfl
    rw[t1];have into:∀{us:List V} {xss:List (List Int)},yk H3 us xss->(∀v∈us,∀a,v=V.ref a->a≠z)->yk (upd H3 z (.lst (ys++[.ref e]))) us xss:=by
     intro us xss h;induction h with
     | nil=>exact fun _=>.nil
     | cons h t ih =>
      intro nz;obtain⟨a,rfl,ha⟩:=h;exact .cons ⟨a,rfl,by rw[zj (nz _ XU a rfl)];exact ha⟩ (ih fun v hv=>nz v (XX _ hv))
    exact Paired.snoc (into (yy s3 hy2) nz) ⟨e,rfl,by rw[zj ez];exact he3⟩
  rintro σ' H2 ⟨u0,ys,rfl,s2,hz2,_,n14,hy2⟩;rw[hG.length,Xq] at hy2 n14;refine⟨z,ys,tls rs gs,rfl,hz2,hy2,zjO R G,fun e H3 he he3 s3=>?_⟩;have s12:=s1.trans s2;rw[show (tls rs gs).foldl Pour.JE [1]=Tally.tl gs.flatten (Tally.jy (qx rs) gs) from ze5 G] at he3;exact q e gs H3 (s12.free he) n14 G up he3 (s12.trans s3)
def chV (n k:Int):Int:=if 0<=k/\k<=n then ((Choose.ch n.toNat k.toNat:Nat):Int) else 0
theorem zk8 (m:Nat)(k:Int):chV (m:Nat) k=Tally.chZ m k:=by
 unfold chV Tally.chZ;rw[RC];by_cases h0:k<0
 ·rw[if_neg (by lia),if_pos h0]
 ·rw[if_neg h0];by_cases h1:k<=(m:Int)
  ·rw[if_pos ⟨by lia,h1⟩]
  ·rw[if_neg (by lia),Choose.zae m k.toNat (by lia)];rfl
theorem zk9 {n k:Int}(h:n<=64):(chV n k).natAbs<2^8000:=by
 have h1:(2:Nat)^64<2^8000:=Pf (by decide) (by decide);have hz:(0:Nat)<2^8000:=Xe (W1 _) h1;unfold chV;split
 ·rw[Int.natAbs_natCast];exact Xe (XV (Choose.znN _ _) (U8 (by decide) (show n.toNat<=64 by lia))) h1
 ·exact hz
def dlV (xs:List Int)(m st:Int):Int:=Pour.S (fun k=>Pour.F xs k*chV m (st-(k:Nat))) xs.length
theorem zdP (xs:List Int)(m:Nat)(st:Int):dlV xs (m:Nat) st=Tally.dl xs m st:=by
 unfold dlV Tally.dl;exact Pour.Ju _ fun i _=>by rw[zk8]
theorem zlE (h:Nat->Int):∀n,((WO n).map h).sum=Pour.S h n
 | 0=>rfl
 | n+1=>by
  rw[Sh,Xf,Sg,zlE h n];show _+(h n+0)=Pour.S h n+h n;lia
def zox:Sp:=fun vs H Q _=>∃(n k:Int),vs=[.int n,.int k]/\n<=64/\Q (.int (chV n k)) H
def zla:Sp:=fun vs H Q _=>∃(c:Addr) (xs:List Int) (m st:Int),vs=[.ref c,.int m,.int st]/\H c=some (.lst (iL xs))/\zib xs/\xs.length<=150/\m<=64/\∀H',zq H H'->Q (.int (dlV xs m st)) H'
def zie (rs:List Str)(n:Int):Int:=((Tally.T (zW rs) (jA rs) n.toNat:Nat):Int)
def zg7 (CG:Addr):Sp:=fun vs H Q E=>∃(p l:Addr) (rs:List Str) (n:Int),vs=[.ref p]/\qC H p l rs n/\Rows bd.cps.toList rs/\(∀gs,Parts.Good (clA rs) (zL rs) gs->(∃g∈gs,14<g.length)->∀H',zq H H'->E (.ref CG) none H')/\0<=n/\∀gs,Parts.Good (clA rs) (zL rs) gs->(∀g∈gs,g.length<=14)->∀H',zq H H'->Q (.int (zie rs n)) H'
theorem ZH:zF ["n","k","found","step"] ["n","k"] (zh Yw):=⟨rfl,rfl,rfl,by decide +kernel,rfl,by decide +kernel,by decide +kernel⟩
theorem zgd (T:Txt mg)(D:zo K mg "choices" Yw ["n","k"] f fd):qi P w K mg base CX0 1 f fd ["n","k"] zox:=by
 refine D.F.ok ZH (fun vs H Q E h=>?_) (fun cdv A outer s H vs Q E hr h=>?_)
 ·obtain⟨n,k,rfl,_⟩:=h;rfl
 ·obtain⟨n,k,rfl,n1,q⟩:=h;refine⟨_,(ze (jt (zdi (zd3 zdF zdF zf (pvS 1) (pvS 0))) (@zg _ _ _ (@zH _ _ _ _ zf)) qt) (@ze _ _ _ _ _ (@zC _ _ 2 _ _ _ _ ZH.nd rfl (Xy rfl) zf (by rfl) (.inr rfl)) (ze (qy WT rfl (yr (by rfl) T.xJ (za (pvS 1) zc)) (zm (i:=3) ZH.nd rfl (Xy rfl)) (zg (zC (i:=2) ZH.nd rfl (Xy rfl) (zz yw (zz Yp (pvS 2) (zz jb (pvS 0) (pvS 3))) (zz qA (pvS 3) zf))))) (zg (zH (pvS 2)))))),?_⟩;refine⟨_,rfl,_,_,rfl,rfl,_,rfl,?_⟩;unfold chV at q;refine zhr (fun c=>?_) (fun c=>?_)
  ·have k0:(0:Int)<=k:=of_decide_eq_true c;refine⟨_,rfl,_,_,rfl,rfl,_,rfl,?_⟩;by_cases c:k<=n
   ·rw[if_pos ⟨k0,c⟩] at q;rw[decide_eq_true c];refine Q0 ?_;refine⟨_,rfl,k,rfl,by lia,by lia,?_⟩;refine yt (lo:=0) (n:=k.toNat) (fun i σ H'=>∃v,σ=[some (.int n),some (.int k),some (.int (Choose.ch n.toNat i)),v]/\H'=H) ⟨_,by rw[Choose.Yu];rfl,rfl⟩ ?_ ?_
    ·rintro i σ H' hi ⟨v,rfl,rfl⟩;refine⟨_,rfl,_,rfl,_,rfl,_,_,rfl,rfl,_,_,rfl,rfl,zkm (by lia) (by lia),_,rfl,_,_,rfl,rfl,_,_,rfl,rfl,ZX.small (by lia) (by lia),?_⟩;refine⟨some (.int (0+(i:Int))),?_,rfl⟩;have e:=Choose.zkQ (n:=n.toNat) (k:=i) (by lia);have e1:((n.toNat:Nat):Int)=n:=Vk (by lia);rw[e1] at e;have e2:(Choose.ch n.toNat i:Int)*(n-(0+(i:Int)))/(0+(i:Int)+1)=Choose.ch n.toNat (i+1):=by
      rw[R7];exact e
     show [_,_,some (V.int ((Choose.ch n.toNat i:Int)*(n-(0+(i:Int)))/(0+(i:Int)+1))),_]=_;rw[e2]
    ·rintro σ H' ⟨v,rfl,rfl⟩;exact⟨_,rfl,q⟩
   ·rw[if_neg (fun h=>c h.2)] at q;rw[decide_eq_false c];exact ZW q
  ·have k0:¬ (0:Int)<=k:=fun z=>c (decide_eq_true z);rw[if_neg (fun h=>k0 h.1)] at q;exact⟨_,rfl,ZW q⟩
theorem zjU:zF ["counts","cells","stones"] ["counts","cells","stones"] (zh QH):=⟨rfl,rfl,rfl,by decide +kernel,rfl,by decide +kernel,by decide +kernel⟩
theorem zbQ (T:Txt mg)(Z:Prog K mg)(D:zo K mg "dealt" QH ["counts","cells","stones"] f fd):qi P w K mg base CX0 2 f fd ["counts","cells","stones"] zla:=by
 obtain⟨zm4,zmR,zc6⟩:=Z.choices;refine D.F.ok zjU (fun vs H Q E h=>?_) (fun cdv A outer s H vs Q E hr h=>?_)
 ·obtain⟨c,xs,m,st,rfl,_⟩:=h;rfl
 ·obtain⟨c,xs,m,st,rfl,hc,bx,xl,m1,q⟩:=h;refine⟨_,(zg (zH (zp (ZZ rfl) (by rfl) T.zeN UT (za (qL (N:=["k","many","cells","stones"]) (src:=[none,none,some 1,some 2]) (zT.free (O:=(zh QH).names) (XN:=["counts","cells","stones"]) rfl rfl ⟨_,rfl⟩ rfl rfl (by decide +kernel) (by decide +kernel) (by decide +kernel) rfl (by decide +kernel)) rfl (JM (by rfl) T.jz (za (pvS 0) zc)) (fun _ _ _ _ _=>(zdn (n:=2) (K:=K) (by rfl) rfl (zI (zm (i:=0) (by show W2 (["k","many","cells","stones"]:List Str);decide +kernel) rfl (Xy rfl)) (zI (zm (i:=1) (by show W2 (["k","many","cells","stones"]:List Str);decide +kernel) rfl (Xy rfl)) ja)))) (fun _ _ _ _ _=>qF) (fun _ _ _ _ _=>(zz Yp (pvS 1) (pc0 (zgd T zc6) hr zc6 (za (pvS 2) (za (zz jb (pvS 3) (pvS 0)) zc)))))) zc)))),?_⟩;refine⟨_,rfl,c,rfl,⟨_,SqL.of hc⟩,fun z hz=>?_⟩;refine zfC (K:=K) (a:=c) (xs:=iL xs) (fun i σ H'=>(∃u0 u1,σ=[u0,u1,some (.int m),some (.int st)])/\zq H H'/\H' z=some (.lst (iL ((WO i).map fun k=>Pour.F xs k*chV m (st-(k:Nat)))))) ⟨⟨_,_,rfl⟩,zd hz,zb⟩ (fun i σ H' _ ⟨_,s3,_⟩=>SqL.of (s3 _ _ hc)) ?_ ?_
  ·rintro i x tt σ H3 hx htt ⟨⟨u0,u1,rfl⟩,s3,hz3⟩;obtain⟨y,hy,rfl⟩:=ints_get hx;have il:=(X2.mp hy).1;have s4:=zd (o:=.tup [.int ((i:Nat):Int),.int y]) htt;refine⟨tt,_,rfl,SqT.of zb,rfl,_,_,rfl,_,_,rfl,rfl,?_⟩;unfold ziu;refine ZW ⟨_,rfl,_,rfl,_,rfl,_,rfl,_,_,rfl,rfl,m,_,rfl,m1,_,_,rfl,rfl,zns (bx y (X0 hy)) (zk9 m1),_,s4 _ _ hz3,?_,⟨_,_,rfl⟩,fun b' o e'=>?_,?_⟩
   ·rw[Y1,Y1,Wz];exact XE (show i<150 by lia) (by decide)
   ·rw[zj (zk e' hz)];exact s4 _ _ (s3 _ _ e')
   ·rw[zb,Sh,Xf];show _=some (HO.lst (iL (_++[Pour.F xs i*chV m (st-(i:Nat))])));rw[zg3,Pour.zji hy]
  ·rintro σ H3 ⟨_,s3,hz3⟩;refine⟨z,_,rfl,SqL.of hz3,?_⟩;rw[Y1,zlE];exact q _ s3
theorem ze6:zF ["board","near"] ["board"] (zh zaT):=⟨rfl,rfl,rfl,by decide +kernel,rfl,by decide +kernel,by decide +kernel⟩
theorem ze7 {jaj:Addr}(T:Txt mg)(Z:Prog K mg)(jat:qk K mg "TooGreat" jaj)(D:zo K mg "count" zaT ["board"] f fd):qi P w K mg base (CXE P w) 7 f fd ["board"] (zg7 jaj):=by
 obtain⟨zbF,zak,zQ⟩:=Z.around;obtain⟨zal,YY,zx⟩:=Z.sign_at;obtain⟨YZ,Yc,zD⟩:=Z.cells_of;obtain⟨zjV,zif,yW⟩:=Z.closed;obtain⟨ZC,JH,zB⟩:=Z.open_cells;obtain⟨Yd,ZD,qD⟩:=Z.number_at;obtain⟨ZO,Ze,zO⟩:=Z.closed_around;obtain⟨znV,zmS,ze8⟩:=Z.far;obtain⟨zdQ,zcd,yh⟩:=Z.bare_wrong;obtain⟨YR,Yh,qf⟩:=Z.near_counts;obtain⟨zlb,zjW,ZI⟩:=Z.dealt;refine D.F.okX ze6 (fun vs H Q E h=>?_) (fun cdv A outer s H vs Q E hr h=>?_)
 ·obtain⟨p,l,rs,n,rfl,_⟩:=h;rfl
 ·obtain⟨p,l,rs,n,rfl,b,R,qg,n0,q⟩:=h;refine⟨_,(ze (zC (i:=1) ze6.nd rfl (Xy rfl) (pcL jC (Jf T Z jat qf) hr qf (za (pvS 0) zc))) (ze (jt (zU (xT hr.units) (pc0 (YO T yh zQ zx zD zO zB qD) hr yh (za (pvS 0) zc)) (@zY _ _ _ _ zc) (qc _)) (@zg _ _ _ (@zH _ _ _ _ zf)) qt) (zg (zH (pc0 (zbQ T Z ZI) hr ZI (za (pvS 1) (za (zp zJ (by rfl) T.yj Wt (za (pc0 (zjw T ze8 zQ zx zD yW zB) hr ze8 (za (pvS 0) zc)) zc)) (za (qw qR (pvS 0) zf (fun _ _=>rfl)) zc)))))))),?_⟩;refine⟨_,rfl,p,l,rs,n,rfl,b,R,qg,fun d1 gs H1 hd1 n14 G up zjX s1=>?_⟩;have q:=q gs G n14;refine⟨_,rfl,p,l,rs,n,rfl,b.mono s1,R,fun d2 w2 H2 hd2 zoy hc2 s2=>⟨Qw,fun e he=>?_⟩⟩;have s3:=zd (o:=.lst []) he;have ci:=count_is G n.toNat;rw[Vk n0] at ci;unfold zie at q;rw[<- ci] at q;refine⟨.list ((qX rs).map zu),.list [],.lst (SqL.of (s3 _ _ zoy)) (zw.rdv (N:=fun _=>True) (Cel.rdn (Cel.mono s3 hc2))),.lst (SqL.of zb) .nil,zdJ _ [],_,rfl,?_⟩;have ee:(if true=true then !PyData.eqv (.list ((qX rs).map zu)) (.list []) else WI (.list ((qX rs).map zu)) (.list []))=!(qX rs).isEmpty:=by
   show (!PyData.eqv _ _)=_;rw[eq_nil]
  rw[ee];have s13:=(s1.trans s2).trans s3;have hd13:=s3 _ _ (s2 _ _ zjX);generalize upd H2 e (.lst [])=H3 at *
  cases hb:(qX rs).isEmpty with
  | false =>
   rw[hb,if_neg XT] at q;exact ZW (q _ s13)
  | true =>
   rw[hb,if_pos rfl] at q;refine Q0 ?_;have b3:=b.mono s13;refine⟨_,rfl,_,rfl,p,l,rs,n,rfl,b3,R,fun d4 ws4 H4 _ hd4 hc4 s4=>⟨d4,_,rfl,.inl (SqL.of hd4),?_⟩⟩;have hl:=hc4.length;have h64:(jG rs).length<=64:=XV (WX _ _) (jm (p:=J3) R);have g64:=Zc G R;refine⟨_,rfl,p,_,1,_,rfl,rfl,SqT.of (b3.mono s4).tp,rfl,d1,_,(ws4.length:Nat),n,rfl,s4 _ _ hd13,ZG g64,by rw[Tally.jx];lia,by lia,fun H' s'=>?_⟩;rw[hl,zdP];exact q _ ((s13.trans s4).trans s')
theorem zce:zF ["found","greatest","cell"] ["found","greatest","cell"] (zh ye):=⟨rfl,rfl,rfl,by decide +kernel,rfl,by decide +kernel,by decide +kernel⟩
theorem zcf {f1:Addr}{fd1:Xk}(T:Txt mg)(D:zo K mg "counted_at" ye ["found","greatest","cell"] f fd)(jo:zo K mg "counted" J1 ["found","greatest"] f1 fd1):qi P w K mg base CX0 2 f fd ["found","greatest","cell"] zk3:=by
 refine D.F.ok zce (fun vs H Q E h=>?_) (fun cdv A outer s H vs Q E hr h=>?_)
 ·obtain⟨fa,ca,us,ks,N,g,c,rfl,_⟩:=h;rfl
 ·obtain⟨fa,ca,us,ks,N,g,c,rfl,hfa,hL,hk,g64,kl,hca,q⟩:=h;refine⟨_,(zg (zH (pc0 (Y4 T jo) hr jo (za (qL (N:=["laying","cell"]) (src:=[none,some 2]) (zT.free (O:=(zh ye).names) (XN:=["found","greatest","cell"]) rfl rfl ⟨_,rfl⟩ rfl rfl (by decide +kernel) (by decide +kernel) (by decide +kernel) rfl (by decide +kernel)) rfl (zM (pvS 0)) (fun _ _ _ _ _=>(zm (i:=0) (by show W2 (["laying","cell"]:List Str);decide +kernel) rfl (Xy rfl))) (fun _ _ _ _ _=>(jh (zU (jT (K:=K) (by rfl) hr.units) (pvS 1) (pvS 0) (by rfl)))) (fun _ _ _ _ _=>(pvS 0))) (za (pvS 1) zc))))),?_⟩;refine⟨_,rfl,fa,rfl,⟨_,SqL.of hfa⟩,fun z hz=>?_⟩;refine qW (K:=K) (a:=fa) (xs:=us) (fun j σ' H'=>∃(u0:Option V) (ys:List V),σ'=[u0,some (.ref ca)]/\zq H H'/\H' z=some (.lst ys)/\jr (fun a=>a≠z) H' ys ((ks.take j).filter (zaG c)))
   ⟨_,[],rfl,zd hz,zb,.nil⟩ (fun j σ' H' _ ⟨_,_,_,y,_⟩=>SqL.of (y _ _ hfa)) ?_ ?_
  ·rintro j v σ' H1 hv ⟨u0,ys,rfl,s1,hz1,hy1⟩;obtain⟨k,a1,wa,hk1,rfl,_,ha1,t1⟩:=QL hL hv;have jl:j<ks.length:=(X2.mp hk1).1;have e1:(ks.take (j+1)).filter (zaG c)=(ks.take j).filter (zaG c)++if zaG c k=true then [k] else []:=by
    rw[Xm,hk1,W6];congr 1;show Oy _ [k]=_;rw[Wx];split<;>rfl
   refine⟨_,rfl,_,rfl,zu c,k.map pD,.tup (SqT.of (s1 _ _ hca)) (.cons (.int _) (.cons (.int _) .nil)),.lst (SqL.of (s1 _ _ ha1)) (zjC (Zb s1 t1)),rfl,zjD _,(by show 1<=60;decide),_,rfl,?_⟩;have ei:(if false=true then !(k.map pD).any (fun z=>WI z (zu c)) else (k.map pD).any fun z=>WI z (zu c))=zaG c k:=zmM k c;rw[ei];by_cases hh:zaG c k=true
   ·rw[if_pos hh] at e1;refine JD hh ?_;have yl:ys.length<=16384:=by
     rw[jn hy1];refine XV (WX _ _) ?_;rw[XD];lia
    refine⟨_,rfl,ys,hz1,Xe yl (by decide),_,ys++[.ref a1],rfl,fun b o e=>?_,zb,?_⟩
    ·rw[zj (zk e hz)];exact s1 _ _ e
    ·rw[e1];have nz:a1≠z:=zk ha1 hz;exact YB (Je hz1 (fun _ h=>h) hy1) (.cons ⟨a1,wa,rfl,nz,by rw[zj nz];exact s1 _ _ ha1,YA hz1 (Zb s1 t1)⟩ .nil)
   ·rw[if_neg hh,W0] at e1;refine Jk (WZ.mpr hh) ?_;exact⟨_,ys,rfl,s1,hz1,by rw[e1];exact hy1⟩
  rintro σ' H1 ⟨u0,ys,rfl,s1,hz1,hy1⟩;rw[jn hL,Xq] at hy1;refine⟨_,rfl,z,ys,_,_,g,rfl,hz1,hy1,fun k hk2=>hk k (XS.mp hk2).1,g64,fun d H2 hd hd2 s2=>?_⟩;exact q d H2 (s1.free hd) hd2 (s1.trans s2)
def yY (c:Nat×Nat):List Key:=[.inl ((c.1:Nat):Int),.inl ((c.2:Nat):Int)]
theorem zjY {c d:Nat×Nat}(h:yY c=yY d):c=d:=by
 unfold yY at h;obtain⟨a,b⟩:=c;obtain⟨x,y⟩:=d;simp only[List.cons.injEq,Sum.inl.injEq,and_true] at h;obtain⟨h1,h2⟩:=h;have e1:a=x:=by lia
 have e2:b=y:=by lia
 rw[e1,e2]
def Jg (rs:List Str)(n:Int)(c:Nat×Nat):Int:=((Tally.T (zW rs) (fun S=>jA rs S&&decide (c∈S)) n.toNat:Nat):Int)
theorem zge {rs:List Str}{n:Int}{c:Nat×Nat}(h:(qX rs).isEmpty=false):Jg rs n c=0:=by
 unfold Jg;rw[Tally.Yv fun S hS=>?_]
 ·rfl
 ·rw[Zd fun c hc=>(Tally.jE hS).subset hc,h];rfl
theorem zlc (c:Nat×Nat)(q:List (Nat×Nat)):zaG c (toL q)=decide (c∈q):=by
 unfold zaG toL;rw[TQ,WM,Wj,decide_eq_true_eq];constructor
 ·rintro⟨x,hx,h⟩;have h':toI x=toI c:=of_decide_eq_true h;have:x=c:=by
   unfold toI at h';obtain⟨a,b⟩:=x;obtain⟨d,e⟩:=c;simp only[Prod.mk.injEq] at h';have e1:a=d:=by lia
   have e2:b=e:=by lia
   rw[e1,e2]
  rw[<- this];exact hx
 ·intro h;exact⟨c,h,decide_eq_true rfl⟩
theorem zdR (rs:List Str)(g:List (Nat×Nat))(c:Nat×Nat):Cnt.xj g.length ((ZF rs g).filter (zaG c))=Tally.tl g fun S=>qx rs g S&&decide (c∈S):=by
 unfold ZF;rw[PK,Tally.zeH g.length toL (fun k=>Y1 _),Uk];have e:(fun a=>(zaG c∘toL) a&&Grow.fits (nearF rs) (qV rs) (xK rs g) g a)=fun S=>qx rs g S&&decide (c∈S):=by
  funext S;show (zaG c (toL S)&&qx rs g S)=_;rw[zlc,Tw]
 rw[e];exact Tally.zgY g _
theorem Yi {A B:List (List (Nat×Nat))}(h:A.Sublist B):A.flatten.Sublist B.flatten:=by
 induction h with
 | slnil=>exact List.Sublist.refl _
 | cons a _ ih=>rw[WA];exact List.Sublist.trans ih (RJ _ _)
 | cons_cons a _ ih=>rw[WA,WA];exact List.Sublist.append (List.Sublist.refl _) ih
theorem zg8 {rs:List Str}{gs A:List (List (Nat×Nat))}(G:Parts.Good (clA rs) (zL rs) gs)(h:A.Sublist gs):(tls rs A).foldl Pour.JE [1]=Tally.tl A.flatten (Tally.jy (qx rs) A) :=
 Tally.zfY (G.nd.sublist (Yi h)) (fun c hc=>yg G c ((Yi h).subset hc)) fun g hg=>QO G (h.subset hg)
theorem zmT {rs:List Str}(R:Rows bd.cps.toList rs){gs A:List (List (Nat×Nat))}(G:Parts.Good (clA rs) (zL rs) gs)(h:A.Sublist gs):zgc (tls rs A):=by
 have n64:=Zc G R;refine⟨fun xs hx=>?_,fun i=>?_⟩
 ·obtain⟨g,hg,rfl⟩:=XB.mp hx;have gl:g.length<=64:=XV (VW (Wu (h.subset hg))) n64;rw[Tally.jx];exact⟨by lia,by lia,ZG gl⟩
 ·have h2:=(T8 i A).trans h;have e:(tls rs A).take i=tls rs (A.take i):=by
   unfold tls;rw[UE]
  have tl64:(A.take i).flatten.length<=64:=XV (Yi h2).length_le n64;rw[e,zg8 G h2,Tally.jx];exact⟨by lia,by lia,ZG tl64⟩
def zjZ (rs:List Str)(z:Addr)(H:Hp)(v:V)(g:List (Nat×Nat)):Prop:=∃a ws ks,v=V.ref a/\a≠z/\H a=some (.lst ws)/\jr (fun b=>b≠z) H ws ks/\ks.Perm (ZF rs g)
def zap (rs:List Str)(z:Addr)(H:Hp):List V->List (List (Nat×Nat))->Prop:=W9 (zjZ rs z H)
theorem JB {rs:List Str}{z:Addr}{H H':Hp}(s:zq H H'){us:List V}{gs:List (List (Nat×Nat))}(hp:zap rs z H us gs):zap rs z H' us gs:=by
 induction hp with
 | nil=>exact .nil
 | cons q _ ih =>
  obtain⟨a,ws,ks,e,n,h,l,p⟩:=q;exact .cons ⟨a,ws,ks,e,n,s _ _ h,qK s l,p⟩ ih
theorem ze9 {rs:List Str}{z:Addr}{H:Hp}{xs ys:List V}(hz:H z=some (.lst xs)){us:List V}{gs:List (List (Nat×Nat))}(hp:zap rs z H us gs):zap rs z (upd H z (.lst ys)) us gs:=by
 induction hp with
 | nil=>exact .nil
 | cons q _ ih =>
  obtain⟨a,ws,ks,e,n,h,l,p⟩:=q;exact .cons ⟨a,ws,ks,e,n,by rw[zj n];exact h,Je hz (fun _ h=>h) l,p⟩ ih
theorem zc7 {rs:List Str}{z:Addr}{H:Hp}{us:List V}{gs:List (List (Nat×Nat))}{i:Nat}{v:V}(h:zap rs z H us gs)(e:us[i]?=some v):∃g,gs[i]?=some g/\zjZ rs z H v g:=zar h e
theorem zgf {H:Hp}{z:Addr}{o:HO}{us:List V}{ks:List (List Int)}(hp:yk H us ks)(n:∀v∈us,v≠V.ref z):yk (upd H z o) us ks:=by
 induction hp with
 | nil=>exact .nil
 | cons q _ ih =>
  obtain⟨a,e,h⟩:=q;exact .cons ⟨a,e,by rw[zj fun y=>n _ XU (by rw[e,y])];exact h⟩ (ih fun v hv=>n v (XX _ hv))
theorem zbR {H:Hp}:∀{us:List V} {xss:List (List Int)} (i:Nat),yk H us xss->yk H (us.take i) (xss.take i)
 | _,_,0,_=>.nil
 | _,_,_+1,.nil=>.nil
 | _,_,i+1,.cons h t=>.cons h (zbR i t)
theorem zbS {H:Hp}:∀{us:List V} {xss:List (List Int)} (i:Nat),yk H us xss->yk H (us.drop i) (xss.drop i)
 | _,_,0,h=>h
 | _,_,_+1,.nil=>.nil
 | _,_,i+1,.cons _ t=>zbS i t
theorem zig {H:Hp}{us:List V}{xss:List (List Int)}{us':List V}{xss':List (List Int)}(h:yk H us xss)(k:yk H us' xss'):yk H (us++us') (xss++xss'):=za4 h k
theorem zg9 (kvs:List (List Key×V))(k:List Key)(v:V):(putK kvs k v).length<=kvs.length+1:=by
 unfold putK;split
 ·rw[Y1];exact Wg _
 ·rw[XZ];exact XW _
theorem zj0 (l:List (List Key×V)):(YK l).length<=l.length:=by
 have:∀(l acc:List (List Key×V)),(l.foldl (fun acc kv=>putK acc kv.1 kv.2) acc).length<=acc.length+l.length:=fun l=>by
  induction l with
  | nil=>exact fun acc=>XW _
  | cons x r ih =>
   intro acc;rw[VT,Xp];have h1:=ih (putK acc x.1 x.2);have h2:=zg9 acc x.1 x.2;lia
 have:=this l [];rw[Ue,VM] at this;exact this
theorem zmU (xs:List V){i:Nat}(h:i<=xs.length):ZP xs none (some ((i:Nat):Int))=xs.take i:=by
 unfold ZP;rw[HT.Jr,Nat.min_eq_left h];show (xs.drop 0).take (i-0)=_;rw[List.drop_zero,OI]
def zj1 (CG:Addr):Sp:=fun vs H Q E=>∃(p l:Addr) (rs:List Str) (n:Int),vs=[.ref p]/\qC H p l rs n/\Rows bd.cps.toList rs/\(∀gs,Parts.Good (clA rs) (zL rs) gs->(∃g∈gs,14<g.length)->∀H',zq H H'->E (.ref CG) none H')/\0<=n /\
 ∀gs,Parts.Good (clA rs) (zL rs) gs->(∀g∈gs,g.length<=14)->∀(d:Addr) (kvs:List (List Key×V)) (H':Hp),H d=none->H' d=some (.dT kvs)->(∀c∈zW rs,yS kvs (yY c)=some (V.int (Jg rs n c)))->zq H H'->Q (.ref d) H'
def zc8 (CG:Addr):Sp:=fun vs H Q E=>∃(p l ca:Addr) (rs:List Str) (n:Int) (c:Nat×Nat),vs=[.ref p,.ref ca]/\qC H p l rs n/\Rows bd.cps.toList rs/\(∀gs,Parts.Good (clA rs) (zL rs) gs->(∃g∈gs,14<g.length)->∀H',zq H H'->E (.ref CG) none H')/\0<=n/\H ca=some (.tup [.int (c.1:Nat),.int (c.2:Nat)])/\∀gs,Parts.Good (clA rs) (zL rs) gs->(∀g∈gs,g.length<=14)->c∈zW rs/\∀H',zq H H'->Q (.int (Jg rs n c)) H'
theorem zG:zF ["board","pieces","found","counts","rest","at_far","told","place","part","others","cell","near"] ["board"] (zh qE):=⟨rfl,rfl,rfl,by decide +kernel,rfl,by decide +kernel,by decide +kernel⟩
theorem QV {jaj:Addr}(T:Txt mg)(Z:Prog K mg)(jat:qk K mg "TooGreat" jaj)(D:zo K mg "counts_by_cell" qE ["board"] f fd):qi P w K mg base (CXE P w) 7 f fd ["board"] (zj1 jaj):=by
 obtain⟨zbF,zak,zQ⟩:=Z.around;obtain⟨zal,YY,zx⟩:=Z.sign_at;obtain⟨YZ,Yc,zD⟩:=Z.cells_of;obtain⟨zjV,zif,yW⟩:=Z.closed;obtain⟨ZC,JH,zB⟩:=Z.open_cells;obtain⟨Yd,ZD,qD⟩:=Z.number_at;obtain⟨QM,YQ,xM⟩:=Z.numbers_of;obtain⟨zbG,zaz,ZE⟩:=Z.needs_at;obtain⟨zc1,zbH,YE⟩:=Z.may_fit;obtain⟨Ye,ZN,qq⟩:=Z.part_layings;obtain⟨zc2,zbM,jo⟩:=Z.counted;obtain⟨zld,zj9,QW⟩:=Z.counted_at;obtain⟨ZO,Ze,zO⟩:=Z.closed_around;obtain⟨zjS,zid,Za⟩:=Z.joined;obtain⟨zk7,zjT,QU⟩:=Z.parts;obtain⟨znV,zmS,ze8⟩:=Z.far;obtain⟨zdQ,zcd,yh⟩:=Z.bare_wrong;obtain⟨zjQ,zic,Yg⟩:=Z.poured;obtain⟨zdO,zcc,je⟩:=Z.all_poured;obtain⟨zlb,zjW,ZI⟩:=Z.dealt;refine D.F.okX zG (fun vs H Q E h=>?_) (fun cdv A outer s H vs Q E hr h=>?_)
 ·obtain⟨p,l,rs,n,rfl,_⟩:=h;rfl
 ·obtain⟨p,l,rs,n,rfl,b,R,qg,n0,q⟩:=h;have h64:(zW rs).length<=64:=jm R;refine⟨_,(ze (zC (i:=1) zG.nd rfl (Xy rfl) (pc0 (zeU T QU zQ zx zD zB zO Za) hr QU (za (pvS 0) zc))) (ze (zje (i:=2) zG.nd rfl rfl jC (N:=["part","board"]) (src:=[none,some 0]) (zT.free (O:=(zh qE).names) (XN:=["board","pieces","found","counts","rest","at_far","told","place","part","others","cell","near"]) rfl rfl ⟨_,rfl⟩ rfl rfl (by decide +kernel) (by decide +kernel) (by decide +kernel) rfl (by decide +kernel)) rfl (zM (pvS 1)) (fun _ _ _ _ _=>(zm (i:=0) (by show W2 (["part","board"]:List Str);decide +kernel) rfl (Xy rfl))) (fun _ _ _ _ _=>qF) (fun _ _ _ _ _=>(Qi (ZM T Z jat qq) (hr.mono (by decide)) (by rfl) qq.g qq.F.kp qq.b .nil Qx (za (pvS 1) (za (pvS 0) zc))))) (ze (jt (zU (xT hr.units) (pc0 (YO T yh zQ zx zD zO zB qD) hr yh (za (pvS 0) zc)) (@zY _ _ _ _ zc) (qc _)) (zg (zH (jS (ZL hr.units hr.hd) (by rfl) T.zjq PU (za (qL (N:=["cell"]) (src:=[none]) (zT.plain rfl (by decide +kernel) (by decide +kernel) (by decide +kernel) rfl (by decide)) rfl (zM (pc0 (zcR T yW zD zx) hr yW (za (pvS 0) zc))) (fun _ _ _ _ _=>(zm (i:=0) (by show W2 (["cell"]:List Str);decide +kernel) rfl (Xy rfl))) (fun _ _ _ _ _=>qF) (fun _ _ _ _ _=>(jN (za (pvS 0) (@za _ _ _ _ _ zf zc rfl))))) zc)))) qt) (ze (Yq (i:=3) zG.nd rfl rfl (N:=["part","some"]) (src:=[none,none]) (zT.plain rfl (by decide +kernel) (by decide +kernel) (by decide +kernel) rfl (by decide)) rfl (zmf (by rfl) T.znP (za (pvS 1) (za (pvS 2) zc))) (fun _ _ _ _ _=>(zdn (n:=2) (K:=K) (by rfl) rfl (zI (zm (i:=0) (by show W2 (["part","some"]:List Str);decide +kernel) rfl (Xy rfl)) (zI (zm (i:=1) (by show W2 (["part","some"]:List Str);decide +kernel) rfl (Xy rfl)) ja)))) (fun _ _ _ _ _=>qF) (fun _ _ _ _ _=>(pc0 (Y4 T jo) hr jo (za (pvS 1) (za (zp (zbi (K:=K) (by rfl)) (by rfl) T.yj Wt (za (pvS 0) zc)) zc))))) (ze (zC (i:=4) zG.nd rfl (Xy rfl) (pc0 (zjw T ze8 zQ zx zD yW zB) hr ze8 (za (pvS 0) zc))) (ze (zC (i:=5) zG.nd rfl (SF rfl) (pc0 (zbQ T Z ZI) hr ZI (za (pc0 (JI T Z je) hr je (za (pvS 3) zc)) (za (zz jb (zp zJ (by rfl) T.yj Wt (za (pvS 4) zc)) zf) (za (zz jb (qw qR (pvS 0) zf (fun _ _=>rfl)) zf) zc))))) (ze (zC (i:=6) zG.nd rfl (Xy rfl) (jS (ZL hr.units hr.hd) (by rfl) T.zjq PU (za (qL (N:=["cell","at_far"]) (src:=[none,some 5]) (zT.free (O:=(zh qE).names) (XN:=["board","pieces","found","counts","rest","at_far","told","place","part","others","cell","near"]) rfl rfl ⟨_,rfl⟩ rfl rfl (by decide +kernel) (by decide +kernel) (by decide +kernel) rfl (by decide +kernel)) rfl (zM (pvS 4)) (fun _ _ _ _ _=>(zm (i:=0) (by show W2 (["cell","at_far"]:List Str);decide +kernel) rfl (Xy rfl))) (fun _ _ _ _ _=>qF) (fun _ _ _ _ _=>(jN (za (pvS 0) (za (pvS 1) zc))))) zc))) (ze (qy (jq.own jC) rfl (JM (by rfl) T.jz (za (pvS 1) zc)) (yq rfl (zI (zm (i:=7) zG.nd rfl (Xy rfl)) (zI (zm (i:=8) zG.nd rfl (Xy rfl)) ja))) (ze (zC (i:=9) zG.nd rfl (Xy rfl) (pc0 (JI T Z je) hr je (za (zz Zn (yP Js (pvS 3) Qj (j8 (pvS 7))) (yP Js (pvS 3) (j8 (zz qA (pvS 7) zf)) Qj)) zc))) (zg (qy (jq.own jC) rfl (zM (pvS 8)) (zm (i:=10) zG.nd rfl (Xy rfl)) (ze (zC (i:=11) zG.nd rfl (Xy rfl) (pc0 (zc5 T Yg) hr Yg (za (pvS 9) (za (pc0 (zcf T QW jo) hr QW (za (qw jj (pvS 2) (pvS 7) (fun _ _=>rfl)) (za (zp zJ (by rfl) T.yj Wt (za (pvS 8) zc)) (za (pvS 10) zc)))) zc)))) (zg (zkv (u1 hr.units) (pvS 6) (pvS 10) (pc0 (zbQ T Z ZI) hr ZI (za (pvS 11) (za (zp zJ (by rfl) T.yj Wt (za (pvS 4) zc)) (za (qw qR (pvS 0) zf (fun _ _=>rfl)) zc)))) rfl))))))) (zg (zH (pvS 6))))))))))),?_⟩;refine⟨_,rfl,p,l,rs,n,rfl,b,R,fun d1 w1 gs H1 hd1 zjX hG _ _ G up s1=>?_⟩;have g64:=Zc G R;have gl64:gs.length<=64:=XV (Parts.Z7 G.ne) g64;refine⟨_,rfl,d1,rfl,⟨_,SqL.of zjX⟩,fun z hz=>?_⟩;refine qW (K:=K) (a:=d1) (xs:=w1) (fun j σ' H'=>∃(u0:Option V) (ys:List V),σ'=[u0,some (.ref p)]/\zq H1 H'/\H' z=some (.lst ys)/\(∀g∈gs.take j,g.length<=14)/\zap rs z H' ys (gs.take j))
   ⟨_,[],rfl,zd hz,zb,(fun _ h=>nomatch h),.nil⟩ (fun j σ' H' _ ⟨_,_,_,y,_⟩=>SqL.of (y _ _ zjX)) ?_ ?_
  ·rintro j v σ' H2 hv ⟨u0,ys,rfl,s2,hz2,n14,hy2⟩;obtain⟨g,hg,ga,ug,rfl,hga,hcg⟩:=jP.get (hG.mono s2) hv;have gm:=X0 hg;have il:=(X2.mp hg).1;unfold ZR;refine zaj ?_;refine⟨_,rfl,_,rfl,p,l,ga,rs,n,ug,g,rfl,(b.mono s1).mono s2,R,hga,hcg,xP (G.srt g gm),XV (VW (Wu gm)) g64,fun g14 H3 s3=>qg gs G ⟨g,gm,g14⟩ H3 ((s1.trans s2).trans s3),fun g14 e we ks H3 he he3 hL _ hpm _ s3=>?_⟩;have ez:e≠z:=fun y=>by
    subst y;rw[hz2] at he;cases he
   have nz:∀a,(H2 a=none/\a≠e)->a≠z:=fun a h y=>by
    subst y;rw[hz2] at h;cases h.1
   have t1:gs.take (j+1)=gs.take j++[g]:=by
    rw[Xm,hg];rfl
   refine⟨_,s3 _ _ hz2,?_,_,ys++[.ref e],rfl,fun b' o e'=>?_,zb,fun g' hg'=>?_,?_⟩
   ·rw[show ys.length=(gs.take j).length from Paired.length hy2,XD];exact Xe (show _<=64 by lia) (by decide)
   ·rw[zj (zk e' hz)];exact s3 _ _ (s2 _ _ e')
   ·rw[t1] at hg';rcases XI.mp hg' with y | y
    ·exact n14 g' y
    ·have y:g'=g:=by simpa using y
     rw[y];exact g14
   ·rw[t1];exact Paired.snoc (ze9 (s3 _ _ hz2) (JB s3 hy2)) ⟨e,we,ks,rfl,ez,by rw[zj ez];exact he3,Je (s3 _ _ hz2) (fun _ h=>h) (YX nz hL),hpm⟩
  rintro σ' H2 ⟨u0,ys,rfl,s2,hz2,n14,hF2⟩;rw[hG.length,Xq] at hF2 n14;have q:=q gs G n14;have s02:=s1.trans s2;have hG2:=hG.mono s2;have hd12:=s2 _ _ zjX;refine⟨_,rfl,p,l,rs,n,rfl,b.mono s02,R,fun d w2 H3 hd hd3 hc3 s3=>⟨Qw,fun e he=>?_⟩⟩;have s4:=zd (o:=.lst []) he;refine⟨.list ((qX rs).map zu),.list [],.lst (SqL.of (s4 _ _ hd3)) (zw.rdv (N:=fun _=>True) (Cel.rdn (Cel.mono s4 hc3))),.lst (SqL.of zb) .nil,zdJ _ [],_,rfl,?_⟩;have ee:(if true=true then !PyData.eqv (.list ((qX rs).map zu)) (.list []) else WI (.list ((qX rs).map zu)) (.list []))=!(qX rs).isEmpty:=by
   show (!PyData.eqv _ _)=_;rw[eq_nil]
  rw[ee];have s24:=s3.trans s4;have s04:=s02.trans s24;have b4:=b.mono s04;have hd14:=s24 _ _ hd12;have hz4:=s24 _ _ hz2;have hG4:=hG2.mono s24;have hF4:=JB s24 hF2;generalize upd H3 e (.lst [])=H4 at *
  cases hb:(qX rs).isEmpty with
  | false =>
   refine ZW ?_;refine⟨_,rfl,p,l,rs,n,rfl,b4,R,fun d5 w5 H5 hd5 hd5' hc5 s5=>⟨d5,rfl,⟨_,SqL.of hd5'⟩,fun y hy=>?_⟩⟩;have hcs:Cel H5 w5 (zW rs):=hc5;refine qW (K:=K) (a:=d5) (xs:=w5) (fun i σ H'=>(∃u0,σ=[u0])/\zq H5 H'/\∃ys,H' y=some (.lst ys)/\jV H' ys (((zW rs).take i).map fun c=>(yY c,V.int 0))) ⟨⟨_,rfl⟩,zd hy,[],zb,.nil⟩ (fun i σ H' _ ⟨_,s6,_⟩=>SqL.of (s6 _ _ hd5')) ?_ ?_
   ·rintro i x σ H6 hx ⟨⟨u0,rfl⟩,s6,ys,hy6,hp6⟩;obtain⟨c,hci,ca,rfl,hca⟩:=Cel.get (Cel.mono s6 hcs) hx;refine Zr ⟨_,rfl,YV,fun p hp=>?_⟩;have s7:=zd (o:=.tup [.ref ca,.int 0]) hp;have hlen:ys.length<=64:=by
     rw[hp6.length,Y1,XD];lia
    refine⟨ys,s7 _ _ hy6,Xe hlen (by decide),⟨_,rfl⟩,fun b' o e'=>?_,ys++[.ref p],zb,?_⟩
    ·rw[zj (zk e' hy)];exact s7 _ _ (s6 _ _ e')
    ·rw[Xm,hci,Xf];exact jV.into y _ (s7 _ _ hy6) (jV.snoc (hp6.mono s7) ⟨p,ca,rfl,zb,s7 _ _ hca⟩)
   ·rintro σ H6 ⟨_,s6,ys,hy6,hp6⟩;rw[hcs.length,Xq] at hp6;refine⟨y,ys,_,rfl,hy6,hp6,fun dd hdd=>?_⟩;refine q dd _ _ ((s04.trans (s5.trans s6)).free hdd) zb (fun c hc=>?_) ((s04.trans (s5.trans s6)).trans (zd hdd));rw[zge hb];have:=Q4 (v:=V.int 0) (k:=yY c) ((zW rs).map yY) [] (.inl (XB.mpr ⟨c,hc,rfl⟩));rw[We] at this;exact this
  | true =>
   refine Q0 ?_;refine⟨_,rfl,_,rfl,d1,z,rfl,⟨_,SqL.of hd14⟩,⟨_,SqL.of hz4⟩,fun t0 ht0=>?_⟩;refine ziJ (K:=K) (l1:=d1) (l2:=z) (xs:=w1) (ys:=ys) (fun j σ' H'=>∃(u0 u1:Option V) (cs:List V),σ'=[u0,u1]/\zq H4 H'/\H' t0=some (.lst cs)/\(∀v∈cs,v≠V.ref t0)/\yk H' cs (tls rs (gs.take j))) (hG.length.trans (Paired.length hF2).symm)
    ⟨_,_,[],rfl,zd ht0,zb,(fun _ h=>nomatch h),.nil⟩ (fun j σ' H' _ ⟨_,_,_,_,y,_⟩=>⟨SqL.of (y _ _ hd14),SqL.of (y _ _ hz4)⟩) ?_ ?_
   ·rintro j v v' tt σ' H5 hv hv' htt ⟨u0,u1,cs,rfl,s5,ht5,nt,hI5⟩;obtain⟨g,hg,ga,ug,rfl,hga,hcg⟩:=jP.get (hG4.mono s5) hv;obtain⟨g',hg',fa,wf,ks,rfl,fz,hfa,hLf,hpf⟩:=zc7 (JB s5 hF4) hv';rw[hg] at hg';cases hg';have gm:=X0 hg;have il:=(X2.mp hg).1;have z6:=zd (o:=.tup [V.ref ga,V.ref fa]) htt;refine⟨tt,_,rfl,SqT.of zb,rfl,_,_,rfl,_,_,rfl,rfl,?_⟩;have ht6:=z6 _ _ ht5;have hga6:=z6 _ _ hga;have hfa6:=z6 _ _ hfa;have hLf6:=qK z6 hLf;have s46:=s5.trans z6;have hI6:=yy z6 hI5;generalize upd H5 tt (.tup [V.ref ga,V.ref fa])=H6 at *
    refine zaj ?_;refine⟨_,rfl,_,rfl,ga,_,rfl,.inl (SqL.of hga6),fa,wf,ks,_,ug.length,rfl,hfa6,hLf6,fun k hk=>?_,?_,fun e7 H7 he7 znW s7=>?_⟩
    ·rw[hcg.length];exact zbJ (hpf.mem_iff.mp hk)
    ·rw[hcg.length];have:=n14 g gm;lia
    ·rw[hcg.length,Cnt.zad hpf,zc3] at znW;have et:e7≠t0:=fun y=>by
      subst y;rw[ht6] at he7;cases he7
     have t1:tls rs (gs.take (j+1))=tls rs (gs.take j)++[Tally.tl g (qx rs g)]:=by
      unfold tls;rw[Xm,hg,Xf];rfl
     refine⟨_,s7 _ _ ht6,?_,_,_,cs++[.ref e7],rfl,fun b' o e'=>?_,zb,fun v hv=>?_,?_⟩
     ·rw[YH hI5];unfold tls;rw[Y1,XD];exact Xe (show _<=64 by lia) (by decide)
     ·rw[zj (zk e' ht0)];exact s7 _ _ (s46 _ _ e')
     ·rcases XI.mp hv with hv | hv
      ·exact nt v hv
      ·have:v=V.ref e7:=by simpa using hv
       rw[this];intro y;cases y;exact et rfl
     ·rw[t1];exact Paired.snoc (zgf (yy s7 hI6) nt) ⟨e7,rfl,by rw[zj et];exact znW⟩
   rintro σ' H5 ⟨u0,u1,cs,rfl,s5,ht5,_,hI5⟩;rw[hG.length,Xq] at hI5;have s05:=s04.trans s5;refine⟨_,rfl,p,l,rs,n,rfl,b.mono s05,R,fun d5 w5 H6 hd5 znX hc5 s6=>?_⟩;have wl:=hc5.length;have f64:(jG rs).length<=64:=XV (WX _ _) h64;refine⟨_,rfl,t0,cs,tls rs gs,rfl,s6 _ _ ht5,yy s6 hI5,zjO R G,fun d7 H7 hd7 znY s7=>?_⟩;rw[show (tls rs gs).foldl Pour.JE [1]=Tally.tl gs.flatten (Tally.jy (qx rs) gs) from ze5 G] at znY;have b7:=((b.mono s05).mono s6).mono s7;refine⟨_,rfl,d5,_,rfl,.inl (SqL.of (s7 _ _ znX)),_,_,rfl,rfl,_,rfl,p,_,1,_,rfl,rfl,SqT.of b7.tp,rfl,_,_,rfl,rfl,d7,_,_,_,rfl,znY,ZG g64,by rw[Tally.jx];lia,by lia,fun H8 s8=>?_⟩;have s68:=s7.trans s8;have s58:=s6.trans s68;have s08:=s05.trans s58;have hd58:=s68 _ _ znX;have hc8:=hc5.mono s68;have farv:∀c∈jG rs,dlV (Tally.tl gs.flatten (Tally.jy (qx rs) gs)) (((w5.length:Nat):Int)-1) (n-1)=Jg rs n c:=fun c hc=>by
    have pos:=Ui hc;have ci:=zmO G hc n.toNat;rw[hb,if_pos rfl,Vk n0] at ci;unfold Jg;rw[<- ci,wl,show (((jG rs).length:Nat):Int)-1=(((jG rs).length-1:Nat):Int) by lia,zdP]
   generalize dlV (Tally.tl gs.flatten (Tally.jy (qx rs) gs)) (((w5.length:Nat):Int)-1) (n-1)=val at *
   refine⟨_,rfl,d5,rfl,⟨_,SqL.of hd58⟩,fun y hy=>?_⟩;refine qW (K:=K) (a:=d5) (xs:=w5) (fun i σ H'=>(∃u0,σ=[u0,some (.int val)])/\zq H8 H'/\∃ys,H' y=some (.lst ys)/\jV H' ys (((jG rs).take i).map fun c=>(yY c,V.int val))) ⟨⟨_,rfl⟩,zd hy,[],zb,.nil⟩ (fun i σ H' _ ⟨_,s6,_⟩=>SqL.of (s6 _ _ hd58)) ?_ ?_
   ·rintro i x σ H6' hx ⟨⟨u0,rfl⟩,s6',ys',hy6,hp6⟩;obtain⟨c,hci,ca,rfl,hca⟩:=Cel.get (Cel.mono s6' hc8) hx;refine Zr ⟨_,rfl,_,rfl,YV,fun p hp=>?_⟩;have s7':=zd (o:=.tup [.ref ca,.int val]) hp;have hlen:ys'.length<=64:=by
     rw[hp6.length,Y1,XD];lia
    refine⟨ys',s7' _ _ hy6,Xe hlen (by decide),⟨_,rfl⟩,fun b' o e'=>?_,ys'++[.ref p],zb,?_⟩
    ·rw[zj (zk e' hy)];exact s7' _ _ (s6' _ _ e')
    ·rw[Xm,hci,Xf];exact jV.into y _ (s7' _ _ hy6) (jV.snoc (hp6.mono s7') ⟨p,ca,rfl,zb,s7' _ _ hca⟩)
   rintro σ H9 ⟨_,s9,ys',hy9,hp9⟩;rw[hc8.length,Xq] at hp9;refine⟨y,ys',_,rfl,hy9,hp9,fun dd hdd=>?_⟩;have z10:=zd (o:=.dT (YK ((jG rs).map fun c=>(yY c,V.int val)))) hdd;have hdd10:upd H9 dd (.dT (YK ((jG rs).map fun c=>(yY c,V.int val)))) dd=some (.dT (YK ((jG rs).map fun c=>(yY c,V.int val)))):=zb;have kl0:(YK ((jG rs).map fun c=>(yY c,V.int val))).length<=64:=by
    have:=zj0 ((jG rs).map fun c=>(yY c,V.int val));rw[Y1] at this;lia
   have kv0:∀c∈jG rs,yS (YK ((jG rs).map fun c=>(yY c,V.int val))) (yY c)=some (V.int (Jg rs n c)):=fun c hc=>by
    have:=Q4 (v:=V.int val) (k:=yY c) ((jG rs).map yY) [] (.inl (XB.mpr ⟨c,hc,rfl⟩));rw[We] at this;rw[<- farv c hc];exact this
   generalize YK ((jG rs).map fun c=>(yY c,V.int val))=kvs0 at *
   generalize upd H9 dd (.dT kvs0)=H10 at *
   have s49:=s5.trans (s58.trans s9);have s09:=s08.trans s9;have ddn:H dd=none:=s09.free hdd;have hd19:=s49 _ _ hd14;have hz9:=s49 _ _ hz4;have hG9:=hG4.mono s49;have hF9:=JB s49 hF4;have ht9:=(s58.trans s9) _ _ ht5;have hI9:=yy (s58.trans s9) hI5;have hd59:=s9 _ _ hd58;have b9:=b.mono s09;refine⟨_,rfl,d1,rfl,⟨_,SqL.of (z10 _ _ hd19)⟩,?_⟩;refine JN (K:=K) (l:=d1) (xs:=w1) (fun i σ H'=>∃(kvs:List (List Key×V)) (v7 v8 v9 v10 v11:Option V),σ=[some (.ref p),some (.ref d1),some (.ref z),some (.ref t0),some (.ref d5),some (.int val),some (.ref dd),v7,v8,v9,v10,v11]/\zq H9 H'/\H' dd=some (.dT kvs)/\kvs.length<=64+(gs.take i).flatten.length/\(∀c,c∈jG rs\/c∈(gs.take i).flatten->yS kvs (yY c)=some (V.int (Jg rs n c))))
    ⟨kvs0,_,_,_,_,_,rfl,z10,hdd10,by simpa using kl0,fun c hc=>hc.elim (kv0 c) (fun h=>by simp at h)⟩ (fun i σ H' _ ⟨_,_,_,_,_,_,_,y,_⟩=>SqL.of (y _ _ hd19)) ?_ ?_
   ·rintro i v tt σ H11 hv htt ⟨kvs,v7,v8,v9,v10,v11,rfl,s11,hdd11,kl,kv⟩;obtain⟨g,hg,ga,ug,rfl,hga,hcg⟩:=jP.get (hG9.mono s11) hv;have gm:=X0 hg;have il:=(X2.mp hg).1;have g14:=n14 g gm;have egs:gs=gs.take i++g::gs.drop (i+1):=by
     have e1:=(WC i gs).symm;rw[WF il] at e1;have e2:gs[i]=g:=by
      rw[X4 il] at hg;exact Option.some.inj hg
     rwa [e2] at e1
    have tk:(gs.take (i+1)).flatten=(gs.take i).flatten++g:=by
     rw[Xm,hg,Wo];congr 1;simp
    have AB:(gs.take i++gs.drop (i+1)).Sublist gs:=by
     conv=>rhs;rw[egs]
     exact List.Sublist.append (List.Sublist.refl _) (List.sublist_cons_self _ _)
    have tdd:tt≠dd:=fun y=>by
     subst y;rw[hdd11] at htt;cases htt
    have z12:=zd (o:=.tup [.int (i:Nat),V.ref ga]) htt;refine⟨tt,_,rfl,SqT.of zb,rfl,_,_,rfl,_,_,rfl,rfl,?_⟩;have s12:=s11.trans z12;have hdd12:=z12 _ _ hdd11;generalize upd H11 tt (.tup [.int (i:Nat),V.ref ga])=H12 at *
    have cl:=YH hI9;have tlen:(tls rs gs).length=gs.length:=Y1 _;refine⟨_,rfl,_,rfl,_,rfl,t0,cs,rfl,SqL.of (s12 _ _ ht9),fun c1 hc1=>?_⟩;have z13:=zd (o:=.lst (ZP cs none (some ((i:Nat):Int)))) hc1;refine⟨_,rfl,_,rfl,_,_,rfl,rfl,_,rfl,t0,cs,rfl,SqL.of (z13 _ _ (s12 _ _ ht9)),fun c2 hc2=>?_⟩;have z14:=zd (o:=.lst (ZP cs (some (((i:Nat):Int)+1)) none)) hc2;rw[zmU cs (show i<=cs.length by lia),zeZ cs i (by lia)] at *
    refine⟨c1,c2,_,_,rfl,rfl,z14 _ _ zb,zb,?_,fun c3 hc3=>?_⟩
    ·rw[XD,V9];exact XV (show _<=128 by lia) (by decide)
    have z15:=zd (o:=.lst (cs.take i++cs.drop (i+1))) hc3;have s1215:=z13.trans (z14.trans z15);have s15:=s12.trans s1215;have hdd15:=s1215 _ _ hdd12;have hI15:=yy s15 hI9;have et:tls rs (gs.take i++gs.drop (i+1))=(tls rs gs).take i++(tls rs gs).drop (i+1):=by
     unfold tls;rw[Xf,UE,UD]
    have hc315:upd (upd (upd H12 c1 (.lst (cs.take i))) c2 (.lst (cs.drop (i+1)))) c3 (.lst (cs.take i++cs.drop (i+1))) c3=some (.lst (cs.take i++cs.drop (i+1))):=zb;generalize upd (upd (upd H12 c1 (.lst (cs.take i))) c2 (.lst (cs.drop (i+1)))) c3 (.lst (cs.take i++cs.drop (i+1)))=H15 at *
    refine⟨c3,_,tls rs (gs.take i++gs.drop (i+1)),rfl,hc315,by rw[et];exact zig (zbR i hI15) (zbS (i+1) hI15),zmT R G AB,fun oa H16 hoa zlF s16=>?_⟩;rw[zg8 G AB] at zlF;have s916:=s15.trans s16;have hdd16:=s16 _ _ hdd15;have oadd:oa≠dd:=fun y=>by
     subst y;rw[hdd15] at hoa;cases hoa
    have fl64:(gs.take i++gs.drop (i+1)).flatten.length<=64:=XV (Yi AB).length_le g64;have hga9:H9 ga=some (.lst ug):=by
     obtain⟨g',hg',ga',ug',e',h1',_⟩:=jP.get hG9 hv;cases e';have:=s11 _ _ h1';rw[hga] at this;cases this;exact h1'
    have hcg9:Cel H9 ug g:=by
     obtain⟨g',hg',ga',ug',e',h1',h2'⟩:=jP.get hG9 hv;cases e';rw[hg] at hg';cases hg';rw[hga9] at h1';cases h1';exact h2'
    have zl:i<ys.length:=by
     rw[show ys.length=gs.length from Paired.length hF2];exact il
    obtain⟨g2,hg2,fa,wf,ks,efa,fz,hfa,hLf,hpf⟩:=zc7 hF9 (X4 zl);rw[hg] at hg2;cases hg2;refine⟨_,rfl,ga,rfl,⟨_,SqL.of (s916 _ _ hga9)⟩,?_⟩;refine jg (K:=K) (a:=ga) (xs:=ug) (fun j σ H'=>∃(kvs:List (List Key×V)) (v10 v11:Option V),σ=[some (.ref p),some (.ref d1),some (.ref z),some (.ref t0),some (.ref d5),some (.int val),some (.ref dd),some (.int (i:Nat)),some (.ref ga),some (.ref oa),v10,v11]/\zq H9 H'/\H' oa=some (.lst (iL (Tally.tl (gs.take i++gs.drop (i+1)).flatten (Tally.jy (qx rs) (gs.take i++gs.drop (i+1))))))/\H' dd=some (.dT kvs)/\kvs.length<=64+(gs.take i).flatten.length+j/\(∀c,c∈jG rs\/c∈(gs.take i).flatten\/c∈g.take j->yS kvs (yY c)=some (V.int (Jg rs n c))))
     ⟨kvs,_,_,rfl,s916,zlF,hdd16,by lia,fun c hc=>kv c (hc.elim .inl fun h=>h.elim .inr fun h=>by simp at h)⟩ (fun j σ H' _ ⟨_,_,_,_,y,_⟩=>SqL.of (y _ _ hga9)) ?_ ?_
    ·rintro j x σ H17 hx ⟨kvs',w10,w11,rfl,s17,hoa17,hdd17,kl17,kv17⟩;obtain⟨c,hc,ca,rfl,hca⟩:=Cel.get (hcg9.mono s17) hx;have cm:=X0 hc;have jl:=(X2.mp hc).1;have Gi:Parts.Good (clA rs) (zL rs) (gs.take i++g::gs.drop (i+1)):=by
      rw[<- egs];exact G
     have ap:=zk6 Gi cm n.toNat;rw[hb,if_pos rfl,Vk n0] at ap;refine⟨_,rfl,_,rfl,_,rfl,z,_,_,_,rfl,rfl,SqL.of (s17 _ _ hz9),za0 (by lia) (by rw[RC];exact X4 zl),_,rfl,ga,_,rfl,.inl (SqL.of (s17 _ _ hga9)),_,rfl,?_⟩;rw[efa];refine⟨fa,ca,wf,ks,_,ug.length,c,rfl,s17 _ _ hfa,qK s17 hLf,fun k hk=>?_,?_,?_,hca,fun ea H18 hea zlG s18=>?_⟩
     ·rw[hcg9.length];exact zbJ (hpf.mem_iff.mp hk)
     ·rw[hcg9.length];lia
     ·rw[hpf.length_eq];exact zh9 g14
     rw[hcg9.length,Cnt.zad (hpf.filter _),zdR] at zlG;have gl64:g.length<=64:=by lia
     refine⟨oa,ea,_,_,rfl,SqL.of (s18 _ _ hoa17),SqL.of zlG,?_,?_,?_,?_,ZG fl64,ZG gl64,fun na H19 hna znZ s19=>?_⟩
     ·rw[Tally.jx];lia
     ·rw[Tally.jx];lia
     ·rw[Tally.jx];lia
     ·rw[Tally.jx];lia
     have s1719:=s18.trans s19;have s919:=s17.trans s1719;have t64:(gs.take i).flatten.length<=64:=XV (Yi (T8 i gs)).length_le g64;have ab64:((gs.take i++gs.drop (i+1)).flatten++g).length<=64:=by
      rw[<- (zdN _ _ _).length_eq,<- egs];exact g64
     have epi:=zg6 Gi cm;refine⟨_,rfl,_,rfl,d5,_,rfl,.inl (SqL.of (s919 _ _ hd59)),_,rfl,p,_,1,_,rfl,rfl,SqT.of (b9.mono s919).tp,rfl,na,_,_,_,rfl,znZ,by rw[epi];exact ZG ab64,by rw[epi,Tally.jx];lia,by lia,fun H20 s20=>?_⟩;have s1720:=s1719.trans s20;have hdd20:=s1720 _ _ hdd17;have ev:dlV (Pour.JE (Tally.tl (gs.take i++gs.drop (i+1)).flatten (Tally.jy (qx rs) (gs.take i++gs.drop (i+1)))) (Tally.tl g fun S=>qx rs g S&&decide (c∈S))) (w5.length:Nat) n=Jg rs n c:=by
      unfold Jg;rw[zdP,wl,ap]
     rw[ev];refine⟨_,rfl,_,rfl,dd,_,rfl,ziG.t (k:=yY c) hdd20 (s1720 _ _ hca) (Xe (show kvs'.length<=200 by lia) (by decide)),?_⟩;refine⟨putK kvs' (yY c) (V.int (Jg rs n c)),_,_,rfl,fun b' o e'=>?_,?_,zb,?_,fun c' hc'=>?_⟩
     ·rw[zj (zk e' hdd)];exact s1720 _ _ (s17 _ _ e')
     ·rw[zj oadd];exact s1720 _ _ hoa17
     ·have:=zg9 kvs' (yY c) (V.int (Jg rs n c));lia
     ·rw[zej];by_cases ec:yY c'=yY c
      ·rw[if_pos ec,zjY ec]
      ·rw[if_neg ec];refine kv17 c' (hc'.elim .inl fun h=>h.elim (fun h=>.inr (.inl h)) fun h=>?_);rw[Xm,hc] at h;rcases XI.mp h with h | h
       ·exact .inr (.inr h)
       ·have:c'=c:=by simpa using h
        exact absurd (by rw[this]) ec
    rintro σ H17 ⟨kvs',w10,w11,rfl,s17,hoa17,hdd17,kl17,kv17⟩;have ul:ug.length=g.length:=hcg9.length;refine⟨kvs',_,_,_,_,_,rfl,s17,hdd17,?_,fun c hc=>?_⟩
    ·rw[tk,XZ];lia
    ·rw[tk] at hc;rw[ul,Xq] at kv17;exact kv17 c (hc.elim .inl fun h=>(XI.mp h).elim (fun h=>.inr (.inl h)) fun h=>.inr (.inr h))
   rintro σ H11 ⟨kvs,v7,v8,v9,v10,v11,rfl,s11,hdd11,kl,kv⟩;rw[hG.length,Xq] at kv;refine⟨_,rfl,q dd kvs H11 ddn hdd11 (fun c hc=>kv c ?_) (s09.trans s11)⟩;by_cases hm:c∈gs.flatten
   ·exact .inr hm
   ·exact .inl ((QT G).mpr ⟨hc,hm⟩)
theorem zfa:zF ["board","cell"] ["board","cell"] (zh Zx):=⟨rfl,rfl,rfl,by decide +kernel,rfl,by decide +kernel,by decide +kernel⟩
theorem zaB {jaj:Addr}(T:Txt mg)(Z:Prog K mg)(jat:qk K mg "TooGreat" jaj)(D:zo K mg "count_at" Zx ["board","cell"] f fd):qi P w K mg base (CXE P w) 8 f fd ["board","cell"] (zc8 jaj):=by
 obtain⟨zih,zha,Zf⟩:=Z.counts_by_cell;refine D.F.okX zfa (fun vs H Q E h=>?_) (fun cdv A outer s H vs Q E hr h=>?_)
 ·obtain⟨p,l,ca,rs,n,c,rfl,_⟩:=h;rfl
 ·obtain⟨p,l,ca,rs,n,c,rfl,b,R,qg,n0,hca,q⟩:=h;refine⟨_,(zg (zH (zku (u1 hr.units) (pcL jC (QV T Z jat Zf) hr Zf (za (pvS 0) zc)) (pvS 1) (fun _ _=>rfl)))),?_⟩;refine⟨_,rfl,p,l,rs,n,rfl,b,R,qg,n0,fun gs G n14 d kvs H1 _ hd kv s1=>⟨_,rfl,d,_,rfl,?_,(q gs G n14).2 _ s1⟩⟩;have g:=zhw.t (k:=yY c) hd (s1 _ _ hca);rw[kv c (q gs G n14).1] at g;exact g
structure Facts (K:X6)(C SE C1 C2 C3 C4 C5 C6 C7 C8 C9:Addr)(b1 b2:Bool):Prop where
 fd:Z0 K C
 mro:Vs K C (.ref SE)=some true
 k1:Xg K (.ref C) (.ref C1)=some b1
 k2:Xg K (.ref C) (.ref C2)=some b2
 k3:Xg K (.ref C) (.ref C3)=some false
 k4:Xg K (.ref C) (.ref C4)=some false
 k5:Xg K (.ref C) (.ref C5)=some false
 k6:Xg K (.ref C) (.ref C6)=some false
 k7:Xg K (.ref C) (.ref C7)=some false
 k8:Xg K (.ref C) (.ref C8)=some false
 k9:Xg K (.ref C) (.ref C9)=some false
 kv:Xg K (.ref C) (.type "ValueError")=some true
theorem zlf:TV "ValueError"=some (.type "ValueError"):=by with_unfolding_all rfl
structure zmV (K:X6)(mg:Str->Option X9)(C0 C1 C2 C3 C4 C5 C6 C7 C8 C9:Addr):Prop where
 o0:qk K mg "StoneError" C0
 o1:qk K mg "TooGreat" C1
 o2:qk K mg "NoLaying" C2
 o3:qk K mg "NoBoard" C3
 o4:qk K mg "NoCount" C4
 o5:qk K mg "NoCell" C5
 o6:qk K mg "NoText" C6
 o7:qk K mg "NoRow" C7
 o8:qk K mg "NoNumber" C8
 o9:qk K mg "NoTable" C9
 fg:Facts K C1 C0 C1 C2 C3 C4 C5 C6 C7 C8 C9 true false
def zn0 (C:Addr):Sp:=fun vs H Q _=>∃e:Addr,vs=[.ref e]/\H e=some (exO e C)/\∀H',zq H H'->Q (.str "great") H'
section
variable {P:Xl}{w:W3}{K:X6}{mg:Str->Option X9}{base:Heap}{f:Addr}{fd:Xk}{jai jaj jad jaa jac jab jah jaf jae jag:Addr}
theorem yi:zF ["_law_error","_law_kinds"] ["_law_error"] (zh yL):=⟨rfl,rfl,rfl,by decide +kernel,rfl,by decide +kernel,by decide +kernel⟩
theorem zbT (T:Txt mg)(U:zmV K mg jai jaj jad jaa jac jab jah jaf jae jag)(D:zo K mg "_law_outcome" yL ["_law_error"] f fd):qi P w K mg base CX0 1 f fd ["_law_error"] (zn0 jaj):=by
 obtain⟨jas,jat,jan,jak,jam,jal,jar,jap,jao,jaq,F⟩:=U;refine D.F.ok yi (fun vs H Q E h=>?_) (fun cdv A outer s H vs Q E hr h=>?_)
 ·obtain⟨e,rfl,_⟩:=h;rfl
 ·obtain⟨e,rfl,he,q⟩:=h;refine⟨_,(ze (zC (i:=1) yi.nd rfl (Xy rfl) (zY (za (zp (qo (K:=K) (by rfl)) (by rfl) T.qa W4 (za (pvS 0) (za (qZ (v:=.ref jaj) (by rfl) jat.g (by exact rfl)) zc))) (za (zp (qo (K:=K) (by rfl)) (by rfl) T.qa W4 (za (pvS 0) (za (qZ (v:=.ref jad) (by rfl) jan.g (by exact rfl)) zc))) (za (zp (qo (K:=K) (by rfl)) (by rfl) T.qa W4 (za (pvS 0) (za (qZ (v:=.ref jaa) (by rfl) jak.g (by exact rfl)) zc))) zc))))) (ze (zC (i:=1) yi.nd rfl (Xy rfl) (zz Zn (pvS 1) (zY (za (zp (qo (K:=K) (by rfl)) (by rfl) T.qa W4 (za (pvS 0) (za (qZ (v:=.ref jac) (by rfl) jam.g (by exact rfl)) zc))) (za (zp (qo (K:=K) (by rfl)) (by rfl) T.qa W4 (za (pvS 0) (za (qZ (v:=.ref jab) (by rfl) jal.g (by exact rfl)) zc))) (za (zp (qo (K:=K) (by rfl)) (by rfl) T.qa W4 (za (pvS 0) (za (qZ (v:=.ref jah) (by rfl) jar.g (by exact rfl)) zc))) zc)))))) (ze (zC (i:=1) yi.nd rfl (Xy rfl) (zz Zn (pvS 1) (zY (za (zp (qo (K:=K) (by rfl)) (by rfl) T.qa W4 (za (pvS 0) (za (qZ (v:=.ref jaf) (by rfl) jap.g (by exact rfl)) zc))) (za (zp (qo (K:=K) (by rfl)) (by rfl) T.qa W4 (za (pvS 0) (za (qZ (v:=.ref jae) (by rfl) jao.g (by exact rfl)) zc))) (za (zp (qo (K:=K) (by rfl)) (by rfl) T.qa W4 (za (pvS 0) (za (qZ (v:=.ref jag) (by rfl) jaq.g (by exact rfl)) zc))) zc)))))) (ze (jt (PW.pt (zlp (zU zd2 (ZK Ww PySem.F.slot_list_count PySem.F.type_list_count zhR (pvS 1) (@za _ _ _ _ _ zci zc rfl)) zf (qc _)) (zil (zdi (ZU (zp (qo (K:=K) (by rfl)) (by rfl) T.qa W4 (za (pvS 0) (za (zdh (v:=.ty "ValueError") (by rfl) T.zdH zlf (by rfl)) zc))) (fun _=>rfl)))))) (@zg _ _ _ (@zH _ _ _ _ yZ)) qt) (@zg _ _ _ (@zH _ _ _ _ (@qw _ _ _ _ _ _ _ jj (@zY _ _ _ _ (@za _ _ _ _ _ yZ (@za _ _ _ _ _ yZ (@za _ _ _ _ _ yZ zc rfl) rfl) rfl)) (zp (Yo rfl) (by rfl) T.zg0 T9 (@za _ _ _ _ _ zf (za (ZK Ww PySem.F.slot_list_index PySem.F.type_list_index zhS (pvS 1) (@za _ _ _ _ _ zci zc rfl)) zc) rfl)) (fun _ _=>rfl)))))))),?_⟩;refine⟨_,rfl,e,_,_,_,rfl,he,F.fd,.inl ⟨_,rfl⟩,F.k1,_,rfl,e,_,_,_,rfl,he,F.fd,.inl ⟨_,rfl⟩,F.k2,_,rfl,e,_,_,_,rfl,he,F.fd,.inl ⟨_,rfl⟩,F.k3,zeA,fun d1 hd1=>?_⟩;have s1:=zd (o:=.lst [.bl true,.bl false,.bl false]) hd1;have he1:=s1 _ _ he;refine⟨_,rfl,_,rfl,e,_,_,_,rfl,he1,F.fd,.inl ⟨_,rfl⟩,F.k4,_,rfl,e,_,_,_,rfl,he1,F.fd,.inl ⟨_,rfl⟩,F.k5,_,rfl,e,_,_,_,rfl,he1,F.fd,.inl ⟨_,rfl⟩,F.k6,zeA,fun d2 hd2=>⟨d1,d2,_,_,rfl,rfl,zd hd2 _ _ zb,zb,znM,fun d3 hd3=>?_⟩⟩;have s3:=(s1.trans (zd (o:=.lst [.bl false,.bl false,.bl false]) hd2)).trans (zd (o:=.lst ([.bl true,.bl false,.bl false]++[.bl false,.bl false,.bl false])) hd3);have he3:=s3 _ _ he;refine⟨_,rfl,_,rfl,e,_,_,_,rfl,he3,F.fd,.inl ⟨_,rfl⟩,F.k7,_,rfl,e,_,_,_,rfl,he3,F.fd,.inl ⟨_,rfl⟩,F.k8,_,rfl,e,_,_,_,rfl,he3,F.fd,.inl ⟨_,rfl⟩,F.k9,zeA,fun d4 hd4=>⟨d3,d4,_,_,rfl,rfl,zd hd4 _ _ zb,zb,(by show 9<=XC;decide),fun d5 hd5=>?_⟩⟩;have s5:=(s3.trans (zd (o:=.lst [.bl false,.bl false,.bl false]) hd4)).trans (zd (o:=.lst (([.bl true,.bl false,.bl false]++[.bl false,.bl false,.bl false])++[.bl false,.bl false,.bl false])) hd5);have he5:=s5 _ _ he;refine⟨_,rfl,.inl ⟨rfl,_,SqL.of zb⟩,d5,[true,false,false,false,false,false,false,false,false],true,rfl,rfl,zb,rfl,_,rfl,Jk (by decide) ?_⟩;refine⟨_,rfl,e,_,_,_,rfl,he5,F.fd,.inr ⟨_,rfl⟩,F.kv,true,rfl,Q0 ?_⟩;refine⟨zeA,fun d6 hd6=>⟨_,rfl,.inl ⟨rfl,_,SqL.of (zd hd6 _ _ zb)⟩,d5,[true,false,false,false,false,false,false,false,false],true,0,rfl,rfl,zd hd6 _ _ zb,rfl,?_,by decide,_,_,rfl,d6,_,_,_,rfl,rfl,SqL.of zb,rfl,?_⟩⟩
  ·intro m hm;lia
  ·exact q _ (s5.trans (zd hd6))
end
def zhb:Sp:=fun vs H Q _=>∃(k:Nat) (p l:Addr) (rs:List Str) (n:Int) (t:Str),vs=[.int (k:Nat),.ref p]/\qC H p l rs n/\Rows bd.cps.toList rs/\(∀gs,Parts.Good (clA rs) (zL rs) gs->∃g∈gs,14<g.length)/\0<=n/\rs[0]?=some t/\0<t.length/\∀H',zq H H'->Q (.str "great") H'
section
variable {P:Xl}{w:W3}{K:X6}{mg:Str->Option X9}{base:Heap}{f:Addr}{fd:Xk}{jai jaj jad jaa jac jab jah jaf jae jag:Addr}
theorem zdS {gs:List (List (Nat×Nat))}(h:∃g∈gs,14<g.length)(a:∀g∈gs,g.length<=14):False:=by
 obtain⟨g,hg,l⟩:=h;have:=a g hg;lia
theorem qY:zF ["_law_way","_law_board","_law_found","_law_error","e"] ["_law_way","_law_board"] (zh Zy):=⟨rfl,rfl,rfl,by decide +kernel,rfl,by decide +kernel,by decide +kernel⟩
theorem zfb (T:Txt mg)(U:zmV K mg jai jaj jad jaa jac jab jah jaf jae jag)(Z:Prog K mg)(D:zo K mg "_law_told" Zy ["_law_way","_law_board"] f fd):qi P w K mg base CX0 9 f fd ["_law_way","_law_board"] zhb:=by
 obtain⟨YR,Yh,qf⟩:=Z.near_counts;obtain⟨zlg,zj2,JC⟩:=Z.count;obtain⟨zgg,zfc,jQ⟩:=Z.count_at;obtain⟨zka,zj3,YS⟩:=Z.law_outcome;have jas:=U.o0;refine D.F.ok qY (fun vs H Q E h=>?_) (fun cdv A outer s H vs Q E hr h=>?_)
 ·obtain⟨k,p,l,rs,n,t,rfl,_⟩:=h;rfl
 ·obtain⟨k,p,l,rs,n,t,rfl,B,R,big,n0,ht,t0,q⟩:=h;refine⟨_,(@ze _ _ _ _ _ (@zC _ _ 2 _ _ _ _ qY.nd rfl (Xy rfl) zfn (by rfl) (.inr rfl)) (@ze _ _ _ _ _ (@zC _ _ 3 _ _ _ _ qY.nd rfl (Xy rfl) zfn (by rfl) (.inr rfl)) (zdm (zkJ (j:=4) rfl rfl qY.nd rfl rfl (by rfl) jas (fun _ _=>(zg (jt (zU ZJ (pvS 0) zf (qc _)) (zg (zC (i:=2) qY.nd rfl (Xy rfl) (zbj (Jf T Z U.o1 qf) (hr.mono (by decide)) (by rfl) qf.g qf.F.kp qf.b (za (pvS 1) zc)))) (zg (jt (zU ZJ (pvS 0) zf (qc _)) (zg (zC (i:=2) qY.nd rfl (Xy rfl) (zbj (ze7 T Z U.o1 JC) (hr.mono (by decide)) (by rfl) JC.g JC.F.kp JC.b (za (pvS 1) zc)))) (zg (zC (i:=2) qY.nd rfl (Xy rfl) (zbj (zaB T Z U.o1 jQ) (hr.mono (by decide)) (by rfl) jQ.g jQ.F.kp jQ.b (za (pvS 1) (za (jN (za (zz Yp (zz yI (zz yw (pvS 0) zf) zf) zf) (za (zz yI (zz yw (pvS 0) zf) (zp Qk (by rfl) T.yj Wt (za (qw (zab (K:=K) (by rfl)) (qw (zi9 (K:=K) (by rfl)) (pvS 1) zf (fun _ _=>rfl)) zf (fun _ _=>rfl)) zc))) zc))) zc)))))))))) (fun _=>(zg (zC (i:=3) qY.nd rfl (Xy rfl) (pvS 4))))) (ze (jt (zU zke (pvS 3) zfn (qc _)) (zg (zH (pc0 (zbT T U YS) hr YS (za (pvS 3) zc)))) qt) (zg (zH (pvS 2))))))),?_⟩;refine⟨fun σ' H'=>∃e:Addr,σ'=[some (.int (k:Nat)),some (.ref p),some .non,some (.ref e),none]/\zq H H'/\H' e=some (exO e jaj),?_,?_⟩
  ·refine⟨_,rfl,rfl,_,rfl,zhr (fun c=>?_) (fun c=>?_)⟩
   ·refine⟨_,rfl,p,l,rs,n,rfl,B,R,fun gs G _ H' s1=>⟨jaj,rfl,U.fg.mro,fun e hn=>?_⟩,fun d gs H' _ a14 G _ _ _=>(zdS (big gs G) a14).elim⟩;exact⟨_,rfl,e,rfl,s1.trans (zd hn),zb⟩
   ·refine⟨_,rfl,rfl,_,rfl,zhr (fun c=>?_) (fun c=>?_)⟩
    ·refine⟨_,rfl,p,l,rs,n,rfl,B,R,fun gs G _ H' s1=>⟨jaj,rfl,U.fg.mro,fun e hn=>?_⟩,n0,fun gs G a14=>(zdS (big gs G) a14).elim⟩;exact⟨_,rfl,e,rfl,s1.trans (zd hn),zb⟩
    ·have t8:t.length<=XC:=by
      obtain⟨m,_,m8,hr8⟩:=R.ex;have e:t.length=m:=(hr8 t (X0 ht)).len;exact XV (by lia:t.length<=8) (by decide)
     have ix:(rs.map V.str)[0]?=some (V.str t):=by rw[Xn,ht];rfl
     refine⟨_,rfl,_,rfl,_,_,rfl,rfl,ZX.small (by decide) (by decide),_,_,rfl,rfl,(by decide),_,_,rfl,rfl,zkm (by decide) (by decide),_,rfl,_,_,rfl,rfl,ZX.small (by decide) (by decide),?_⟩;refine⟨_,rfl,p,_,0,_,rfl,rfl,SqT.of B.tp,rfl,l,_,0,_,rfl,rfl,SqL.of B.rw,xF (j:=0) ix,t,rfl,t8,_,_,rfl,rfl,(by lia),YV,fun ca hca=>?_⟩;have s0:=zd (o:=.tup [.int ((k:Int)/2%2*2),.int ((k:Int)/4%(t.length:Int))]) hca;refine⟨p,l,ca,rs,n,(k/2%2*2,k/4%t.length),rfl,B.mono s0,R,fun gs G _ H' s1=>⟨jaj,rfl,U.fg.mro,fun e hn=>?_⟩,n0,zb,fun gs G a14=>(zdS (big gs G) a14).elim⟩;exact⟨_,rfl,e,rfl,(s0.trans s1).trans (zd hn),zb⟩
  ·rintro σ' H' ⟨e,rfl,s1,he⟩;exact⟨_,rfl,rfl,_,rfl,JD rfl ⟨_,rfl,e,rfl,he,fun H2 s2=>q H2 (s1.trans s2)⟩⟩
end
def pw8:List V:=[.int 1,.int 2,.int 4,.int 8,.int 16,.int 32,.int 64,.int 128]
def zn1 (K:X6)(kk:Int):TE:=tOp (SI (fun _ j=>0<j) fun i j=>V.int (i%j)) (tOp (SI ZX fun i j=>V.int (i/j)) (zd4 (zby K) [] E0 (ZV (tVS 1) (ZV (tC (V.int kk)) zl5)))
 (tOp (zkI K) (znn (ZV (tC (V.int 1)) (ZV (tC (V.int 2)) (ZV (tC (V.int 4)) (ZV (tC (V.int 8)) (ZV (tC (V.int 16)) (ZV (tC (V.int 32)) (ZV (tC (V.int 64)) (ZV (tC (V.int 128)) zl5))))))))) (tVS 0))) (tC (V.int 2))
def zmW (xs:List Int):Prop:=∀x∈xs,0<=x/\x<=1
theorem zmX {i:Nat}(h:i<8):∃v:Int,atI pw8 (0+(i:Int))=some (.int v)/\0<v/\v<1073741824:=by
 rcases i with _ | _ | _ | _ | _ | _ | _ | _ | i
 ·exact⟨1,rfl,by decide,by decide⟩
 ·exact⟨2,rfl,by decide,by decide⟩
 ·exact⟨4,rfl,by decide,by decide⟩
 ·exact⟨8,rfl,by decide,by decide⟩
 ·exact⟨16,rfl,by decide,by decide⟩
 ·exact⟨32,rfl,by decide,by decide⟩
 ·exact⟨64,rfl,by decide,by decide⟩
 ·exact⟨128,rfl,by decide,by decide⟩
 ·lia
theorem zhc {K:X6}{H1:Hp}{z a:Addr}{ns:List Int}{C:Nat}{kk:Int}{Q:VK}(c8:C<=8)(hz:H1 z=none)(hS':∀H2,zq H1 H2->SqL K H2 a (ns.map V.int))(hk:0<=kk)
  (q:∀xs H2,zq H1 H2->H2 z=some (.lst (iL xs))->xs.length=C->zmW xs->Q (.ref z) H2):yQ (Itr 0 C) (ZR 0) ziu (zn1 K kk) Q z [none,some (.ref a)] (upd H1 z (.lst [])):=by
 refine zfy (lo:=0) (n:=C) (fun j σ' H'=>∃(u0:Option V) (xs:List Int),σ'=[u0,some (.ref a)]/\zq H1 H'/\H' z=some (.lst (iL xs))/\xs.length=j/\zmW xs) ⟨_,[],rfl,zd hz,zb,rfl,fun _ h=>nomatch h⟩ ?_ ?_
 ·rintro j σ' H2 hj ⟨u0,xs,rfl,s2,hz2,xl,hb⟩;unfold ZR;refine zaj ?_;refine⟨_,rfl,a,ns,kk,rfl,hS' _ s2,hk,fun y=>⟨(by show 8<=XC;decide),fun d hd=>?_⟩⟩;obtain⟨v,hv,v0,v1⟩:=zmX (show j<8 by lia);have s3:=zd (o:=.lst pw8) hd;refine⟨_,rfl,d,_,_,_,rfl,rfl,SqL.of zb,hv,_,_,rfl,rfl,ZX.small v0 v1,_,_,rfl,rfl,(by decide),?_⟩;have dz:d≠z:=fun e=>by
   subst e;rw[hz2] at hd;cases hd
  refine⟨_,s3 _ _ hz2,?_,_,xs++[y/v%2],rfl,fun b o e'=>?_,?_,by rw[XZ,xl];rfl,fun x hx=>?_⟩
  ·show (xs.map V.int).length<XC;rw[Y1,xl];exact XE (show j<8 by lia) (by decide)
  ·rw[zj (zk e' hz)];exact s3 _ _ (s2 _ _ e')
  ·rw[zb];show some (HO.lst (xs.map V.int++[V.int (y/v%2)]))=some (HO.lst ((xs++[y/v%2]).map V.int));rw[Xf];rfl
  ·rcases XI.mp hx with hx | hx
   ·exact hb x hx
   ·have:x=y/v%2:=by simpa using hx
    rw[this];lia
 ·rintro σ' H2 ⟨u0,xs,rfl,s2,hz2,xl,hb⟩;exact q xs H2 s2 hz2 xl hb
def zn2 (K:X6):Sp:=fun vs H Q _=>∃(a:Addr) (ns:List Int),vs=[.ref a]/\SqL K H a (ns.map V.int) /\
 ∀(c:Nat) (t l:Addr) (xs:List Int) (H':Hp),4<=c->c<=8->H' t=some (.tup [.int (c:Nat),.ref l])->H' l=some (.lst (iL xs))->xs.length=c->(∀x∈xs,0<=x/\x<=6)->zq H H'->Q (.ref t) H'
theorem zbU {b:Int}:∀{xs:List Int},(∀x∈xs,0<=x/\x<=b)->0<=xs.sum/\xs.sum<=b*xs.length
 | [],_=>by simp
 | x::r,h=>by
  have a:=h x XU;have c:=zbU (xs:=r) fun y hy=>h y (XX _ hy);rw[VC,Xp,Si,Int.mul_add];lia
theorem zfd {ss:List Int}{k:Nat}(hk:k<ss.length)(hb:zmW ss):∃xs:List Int,ZP (iL ss) (some (if ((k:Nat):Int)-1>0 then ((k:Nat):Int)-1 else 0)) (some (((k:Nat):Int)+2))=iL xs/\0<=xs.sum/\xs.sum<=3:=by
 have e1:(if ((k:Nat):Int)-1>0 then ((k:Nat):Int)-1 else 0)=((k-1:Nat):Int):=by
  split<;>lia
 have e2:((k:Nat):Int)+2=((k+2:Nat):Int):=rfl;refine⟨(ss.drop (k-1)).take (min (k+2) ss.length-(k-1)),?_,?_⟩
 ·rw[e1,e2];unfold ZP;rw[HT.Jr,HT.Jr,Y1,show min (k-1) ss.length=k-1 by lia,<- UD,<- UE]
 ·have a:=zbU (b:=1) (xs:=(ss.drop (k-1)).take (min (k+2) ss.length-(k-1))) fun x hx=>hb x (TW (V1 hx));have l3:((ss.drop (k-1)).take (min (k+2) ss.length-(k-1))).length<=3:=by
   rw[XD];lia
  lia
theorem j4:zF ["_law_script","_law_columns","_law_upper","_law_lower","_law_numbers","_law_k"] ["_law_script"] (zh yx):=⟨rfl,rfl,rfl,by decide +kernel,rfl,by decide +kernel,by decide +kernel⟩
theorem zfe (T:Txt mg)(Z:Prog K mg)(D:zo K mg "_law_rows" yx ["_law_script"] f fd):qi P w K mg base CX0 2 f fd ["_law_script"] (zn2 K):=by
 obtain⟨JJ,Jh,zR⟩:=Z.law_cell_at;have qh:qi P w K mg base CX0 1 JJ Jh ["_law_script","_law_k"] (zby K):=Jc T zR;refine D.F.ok j4 (fun vs H Q E h=>?_) (fun cdv A outer s H vs Q E hr h=>?_)
 ·obtain⟨a,ns,rfl,_⟩:=h;rfl
 ·obtain⟨a,ns,rfl,hS,q⟩:=h;refine⟨_,(@ze _ _ _ _ _ (@zC _ _ 1 _ _ _ _ j4.nd rfl (Xy rfl) (@zz _ _ _ _ _ _ _ _ qA zf (zz yI (pc0 qh hr zR (za (pvS 0) (@za _ _ _ _ _ zf zc rfl))) zf)) (by rfl) (.inr rfl)) (ze (Yq (i:=2) j4.nd rfl rfl (N:=["_law_k","_law_script"]) (src:=[none,some 0]) (zT.free (O:=(zh yx).names) (XN:=["_law_script","_law_columns","_law_upper","_law_lower","_law_numbers","_law_k"]) rfl rfl ⟨_,rfl⟩ rfl rfl (by decide +kernel) (by decide +kernel) (by decide +kernel) rfl (by decide +kernel)) rfl (yr (by rfl) T.xJ (za (pvS 1) zc)) (fun _ _ _ _ _=>(zm (i:=0) (by show W2 (["_law_k","_law_script"]:List Str);decide +kernel) rfl (Xy rfl))) (fun _ _ _ _ _=>qF) (fun _ _ _ _ _=>(zz yI (zz yw (pc0 qh hr zR (za (pvS 1) (@za _ _ _ _ _ zf zc rfl))) (@qw _ _ _ _ _ _ _ (zab (K:=K) (by rfl)) (@zY _ _ _ _ (@za _ _ _ _ _ zf (@za _ _ _ _ _ zf (@za _ _ _ _ _ zf (@za _ _ _ _ _ zf (@za _ _ _ _ _ zf (@za _ _ _ _ _ zf (@za _ _ _ _ _ zf (@za _ _ _ _ _ zf zc rfl) rfl) rfl) rfl) rfl) rfl) rfl) rfl)) (pvS 0) (fun _ _=>rfl))) zf))) (ze (Yq (i:=3) j4.nd rfl rfl (N:=["_law_k","_law_script"]) (src:=[none,some 0]) (zT.free (O:=(zh yx).names) (XN:=["_law_script","_law_columns","_law_upper","_law_lower","_law_numbers","_law_k"]) rfl rfl ⟨_,rfl⟩ rfl rfl (by decide +kernel) (by decide +kernel) (by decide +kernel) rfl (by decide +kernel)) rfl (yr (by rfl) T.xJ (za (pvS 1) zc)) (fun _ _ _ _ _=>(zm (i:=0) (by show W2 (["_law_k","_law_script"]:List Str);decide +kernel) rfl (Xy rfl))) (fun _ _ _ _ _=>qF) (fun _ _ _ _ _=>(zz yI (zz yw (pc0 qh hr zR (za (pvS 1) (@za _ _ _ _ _ zf zc rfl))) (@qw _ _ _ _ _ _ _ (zab (K:=K) (by rfl)) (@zY _ _ _ _ (@za _ _ _ _ _ zf (@za _ _ _ _ _ zf (@za _ _ _ _ _ zf (@za _ _ _ _ _ zf (@za _ _ _ _ _ zf (@za _ _ _ _ _ zf (@za _ _ _ _ _ zf (@za _ _ _ _ _ zf zc rfl) rfl) rfl) rfl) rfl) rfl) rfl) rfl)) (pvS 0) (fun _ _=>rfl))) zf))) (@ze _ _ _ _ _ (@zC _ _ 4 _ _ _ _ j4.nd rfl (Xy rfl) (@zY _ _ _ _ zc) (by rfl) (.inr rfl)) (ze (qy WT rfl (yr (by rfl) T.xJ (za (pvS 1) zc)) (zm (i:=5) j4.nd rfl (Xy rfl)) (zg (xD (ZK Ww VS VR jO (pvS 4) (za (zz qA (zp (ZZ rfl) (by rfl) T.zeN UT (za (yP Js (pvS 2) (j8 (zp (JL rfl) (by rfl) T.zeM UU (@za _ _ _ _ _ zf (za (zz jb (pvS 5) zf) zc) rfl))) (j8 (zz qA (pvS 5) zf))) zc)) (zp (ZZ rfl) (by rfl) T.zeN UT (za (yP Js (pvS 3) (j8 (zp (JL rfl) (by rfl) T.zeM UU (@za _ _ _ _ _ zf (za (zz jb (pvS 5) zf) zc) rfl))) (j8 (zz qA (pvS 5) zf))) zc))) zc))))) (zg (zH (jN (za (pvS 1) (za (pvS 4) zc)))))))))),?_⟩;refine⟨_,rfl,a,ns,_,rfl,hS,by decide,fun z0=>⟨_,_,rfl,rfl,(by show (0:Int)<5;decide),_,_,rfl,rfl,?_⟩⟩;obtain⟨C,hC,c4,c8⟩:∃C:Nat,4+z0%5=((C:Nat):Int)/\4<=C/\C<=8:=⟨(4+z0%5).toNat,by lia,by lia,by lia⟩;rw[hC];have mono:∀H2,zq H H2->SqL K H2 a (ns.map V.int):=fun H2 s2=>s2.seq hS;refine⟨_,rfl,_,rfl,by lia,by lia,fun u hu=>?_⟩;refine zhc c8 hu mono (by decide) fun us H1 s1 hu1 ul ub=>?_;refine⟨_,rfl,_,rfl,by lia,by lia,fun v hv=>?_⟩;refine zhc c8 hv (fun H2 s2=>mono H2 (s1.trans s2)) (by decide) fun ls H2 s2 hv2 ll lb=>?_;refine⟨Qw,fun n0 hn0=>?_⟩;refine⟨_,rfl,_,rfl,by lia,by lia,?_⟩;rw[show (((C:Nat):Int)).toNat=C by lia];refine yt (lo:=0) (n:=C) (fun j σ H'=>∃(w4:Option V) (xs:List Int),σ=[some (.ref a),some (.int (C:Nat)),some (.ref u),some (.ref v),some (.ref n0),w4]/\zq H2 H'/\H' n0=some (.lst (iL xs))/\xs.length=j/\∀x∈xs,0<=x/\x<=6) ⟨_,[],rfl,zd hn0,zb,rfl,(fun _ h=>nomatch h)⟩ ?_ ?_
  ·rintro j σ H3 hj ⟨w4,xs,rfl,s3,hn3,xl,hx⟩;rw[R7];have hu3:=s3 _ _ (s2 _ _ hu1);have hv3:=s3 _ _ hv2;obtain⟨us',ue,u0,u3⟩:=zfd (k:=j) (ss:=us) (by lia) ub;obtain⟨ls',le,l0,l3⟩:=zfd (k:=j) (ss:=ls) (by lia) lb;refine⟨_,rfl,.inl ⟨rfl,_,SqL.of hn3⟩,_,rfl,_,rfl,_,_,rfl,rfl,_,_,rfl,_,rfl,_,rfl,_,_,rfl,rfl,_,rfl,u,_,rfl,SqL.of hu3,fun x hx'=>?_⟩;rw[ue];have y5:=zd (o:=.lst (iL us')) hx';refine⟨x,us',rfl,SqL.of zb,_,rfl,_,rfl,_,_,rfl,rfl,_,_,rfl,_,rfl,_,rfl,_,_,rfl,rfl,_,rfl,v,_,rfl,SqL.of (y5 _ _ hv3),fun x2 hx2=>?_⟩;rw[le];have y6:=y5.trans (zd (o:=.lst (iL ls')) hx2);refine⟨x2,ls',rfl,SqL.of zb,_,_,rfl,rfl,n0,_,_,rfl,rfl,y6 _ _ hn3,?_,_,xs++[us'.sum+ls'.sum],rfl,fun b o e=>?_,?_,?_,fun y hy=>?_⟩
   ·rw[Y1,xl];exact XE (show j<20 by lia) (by decide)
   ·rw[zj (zk e hn0)];exact y6 _ _ (s3 _ _ e)
   ·rw[zb,zg3]
   ·rw[XZ,xl];rfl
   ·rcases XI.mp hy with hy | hy
    ·exact hx y hy
    ·rw[Wi.mp hy];lia
  ·rintro σ H3 ⟨w4,xs,rfl,s3,hn3,xl,hx⟩;refine⟨_,rfl,_,rfl,YV,fun t ht=>?_⟩;have y:=zd (o:=.tup [.int (C:Nat),.ref n0]) ht;exact q C t n0 xs _ c4 c8 zb (y _ _ hn3) xl hx (s1.trans (s2.trans (s3.trans y)))
namespace Wy
def three (t:List Nat):List (List Nat):=[t++[0],t++[1],t++[2]]
def okW (n:Nat->Int)(k:Nat)(t:List Nat):Bool:=decide (k=0\/(((t.drop (k-2)).sum:Nat):Int)=n (k-1))
def way (n:Nat->Int):Nat->List (List Nat)
 | 0=>[[]]
 | k+1=>((way n k).flatMap three).filter (okW n k)
def zii (n:Nat->Int)(W:Nat)(t:List Nat):Bool:=decide ((((t.drop (W-2)).sum:Nat):Int)=n (W-1))
def tri (t:List Nat)(j:Nat):Nat:=(if j=0 then 0 else t.getD (j-1) 0)+t.getD j 0+t.getD (j+1) 0
theorem xR (t:List Nat)(m i:Nat):(t.drop m).getD i 0=t.getD (m+i) 0:=by
 rw[XM,XM,Um]
theorem Zg {t u:List Nat}:u∈three t ↔ ∃h,h<=2/\u=t++[h]:=by
 unfold three;constructor
 ·intro h;rcases XR.mp h with e | h
  ·exact⟨0,by lia,e⟩
  rcases XR.mp h with e | h
  ·exact⟨1,by lia,e⟩
  ·exact⟨2,by lia,Wi.mp h⟩
 ·rintro⟨h,h2,rfl⟩;rcases h with _ | _ | _ | h
  ·exact XU
  ·exact XX _ XU
  ·exact XX _ (XX _ XU)
  ·lia
theorem zff {t:List Nat}{k:Nat}(hl:t.length=k+1)(h:1<=k):(t.drop (k-2)).sum=tri t (k-1):=by
 unfold tri;rcases k with _ | _ | k
 ·lia
 ·match t,hl with
  | [a,b],_ =>
   show a+(b+0)=(if 0=0 then 0 else _)+a+b;rw[if_pos rfl];lia
 ·have hd:(t.drop k).length=3:=by rw[V9,hl];lia
  show (t.drop k).sum=(if k+1=0 then 0 else t.getD k 0)+t.getD (k+1) 0+t.getD (k+2) 0;rw[if_neg (by lia),show t.getD k 0=t.getD (k+0) 0 from rfl,<- xR,<- xR,<- xR];match t.drop k,hd with
  | [a,b,c],_ =>
   show a+(b+(c+0))=a+b+c;lia
theorem zfg {t:List Nat}{W:Nat}(hl:t.length=W)(h:2<=W):(t.drop (W-2)).sum=tri t (W-1):=by
 unfold tri;obtain⟨k,rfl⟩:∃k,W=k+2:=⟨W-2,by lia⟩;have hd:(t.drop k).length=2:=by rw[V9,hl];lia
 show (t.drop k).sum=(if k+1=0 then 0 else t.getD k 0)+t.getD (k+1) 0+t.getD (k+2) 0;rw[if_neg (by lia),show t.getD k 0=t.getD (k+0) 0 from rfl,<- xR,<- xR,<- xR];match t.drop k,hd with
 | [a,b],_ =>
  show a+(b+0)=a+b+0;lia
theorem zhd {t:List Nat}{x j:Nat}(h:j+1<t.length):tri (t++[x]) j=tri t j:=by
 unfold tri;have e:∀i,i<t.length->(t++[x]).getD i 0=t.getD i 0:=fun i hi=>by
  rw[XM,XM,VZ hi]
 rw[e (j-1) (by lia),e j (by lia),e (j+1) (by lia)]
theorem YI {n:Nat->Int}:∀{k:Nat} {t:List Nat},t∈way n k↔t.length=k/\(∀x∈t,x<=2)/\∀j,j+1<k->((tri t j:Nat):Int)=n j
 | 0,t=>by
  constructor
  ·intro h;rw[Wi.mp h];exact⟨rfl,(fun _ h=>nomatch h),fun j h=>by lia⟩
  ·rintro⟨h,_⟩;exact Wi.mpr (Vt.mp h)
 | k+1,t=>by
  show t∈((way n k).flatMap three).filter (okW n k)↔_;rw[XS,Uu];unfold okW;rw[decide_eq_true_eq];constructor
  ·rintro⟨⟨s,hs,ht⟩,ho⟩;obtain⟨x,x2,rfl⟩:=Zg.mp ht;obtain⟨h1,h2,h3⟩:=YI.mp hs;have hl:(s++[x]).length=k+1:=by rw[XZ,h1];rfl
   refine⟨hl,fun y hy=>?_,fun j hj=>?_⟩
   ·rcases XI.mp hy with hy | hy
    ·exact h2 y hy
    ·rw[Wi.mp hy];exact x2
   ·by_cases e:j+1=k
    ·rcases ho with ho | ho
     ·lia
     ·rw[zff hl (by lia),show k-1=j by lia] at ho;exact ho
    ·rw[zhd (by lia)];exact h3 j (by lia)
  ·rintro⟨h1,h2,h3⟩;have ne:t ≠ []:=fun e=>by
    rw[e] at h1;cases h1
   obtain⟨s,x,rfl⟩:∃s x,t=s++[x]:=⟨_,_,(Se ne).symm⟩;have hs:s.length=k:=by
    rw[XZ] at h1;exact Nat.succ.inj h1
   refine⟨⟨s,YI.mpr ⟨hs,fun y hy=>h2 y (Xd _ hy),fun j hj=>?_⟩,Zg.mpr ⟨x,h2 x (XJ _ XU),rfl⟩⟩,?_⟩
   ·rw[<- zhd (x:=x) (by lia)];exact h3 j (by lia)
   ·by_cases e:k=0
    ·exact .inl e
    ·refine .inr ?_;rw[zff h1 (by lia)];exact h3 (k-1) (by lia)
theorem zc9 {n:Nat->Int}:∀k,(way n k).Nodup
 | 0=>VU.mpr ⟨(fun h=>nomatch h),T0⟩
 | k+1=>by
  show (((way n k).flatMap three).filter (okW n k)).Nodup;refine List.Nodup.sublist VQ ?_;unfold W2;rw[List.pairwise_flatMap];refine⟨fun t _=>?_,List.Pairwise.imp ?_ (zc9 k)⟩
  ·unfold three;refine .cons (fun u hu e=>?_) (.cons (fun u hu e=>?_) (.cons (fun u hu=>nomatch hu) .nil))
   ·rcases XR.mp hu with h | h
    ·have:=S7 (e.trans h);cases this
    ·have:=S7 (e.trans (Wi.mp h));cases this
   ·have:=S7 (e.trans (Wi.mp hu));cases this
  ·intro a b hab u hu v hv e;obtain⟨x,_,rfl⟩:=Zg.mp hu;obtain⟨y,_,rfl⟩:=Zg.mp hv;exact hab (List.append_inj e (by have:=congrArg List.length e;rw[XZ,XZ] at this;exact Nat.succ.inj this)).1
def ws (n:Nat->Int)(W:Nat):List (List Nat):=(way n W).filter (zii n W)
theorem zj4 {n:Nat->Int}{W:Nat}(hW:2<=W){t:List Nat}:t∈ws n W↔t.length=W/\(∀x∈t,x<=2)/\Col.zmE n W fun k=>t.getD k 0:=by
 unfold ws zii;rw[XS,YI,decide_eq_true_eq];constructor
 ·rintro⟨⟨h1,h2,h3⟩,h4⟩;rw[zfg h1 hW] at h4;refine⟨h1,h2,fun j hj=>?_⟩;show ((tri t j:Nat):Int)=n j;by_cases e:j+1<W
  ·exact h3 j e
  ·rw[show j=W-1 by lia];exact h4
 ·rintro⟨h1,h2,h3⟩;refine⟨⟨h1,h2,fun j hj=>h3 j (by lia)⟩,?_⟩;rw[zfg h1 hW];exact h3 (W-1) (by lia)
def JK (t:List Nat)(i:Nat):Nat:=Col.yU (fun k=>Col.bin 2 (t.getD k 0)) i
theorem zfh {α β:Type}{vs:List β}{e:α->Bool}{q:β->α->Bool}:∀{L:List α},(∀S∈L,(e S).toNat=(vs.map fun v=>(q v S).toNat).sum)->L.countP e=(vs.map fun v=>L.countP (q v)).sum
 | [],_=>by
  show 0=(vs.map fun _=>0).sum;induction vs with
  | nil=>rfl
  | cons v r ih=>rw[Xs,VC,<- ih fun _ h=>nomatch h]
 | S::r,h=>by
  have ih:=zfh (vs:=vs) (e:=e) (q:=q) (L:=r) fun x hx=>h x (XX _ hx);have hS:=h S XU;have c:∀p:α->Bool,(S::r).countP p=r.countP p+(p S).toNat:=fun p=>by
   rw[Wl];cases p S<;>rfl
  have d:∀us:List β,(us.map fun v=>(S::r).countP (q v)).sum=(us.map fun v=>r.countP (q v)).sum+(us.map fun v=>(q v S).toNat).sum:=fun us=>by
   induction us with
   | nil=>rfl
   | cons v us iu =>
    rw[Xs,Xs,Xs,VC,VC,VC,iu,c];lia
  rw[c,d,ih,hS]
theorem zhe {v:List Nat}{b:Bool}:∀{us:List (List Nat)},us.Nodup->(us.map fun t=>(decide (t=v)&&b).toNat).sum=(decide (v∈us)&&b).toNat
 | [],_=>rfl
 | t::r,h=>by
  obtain⟨h1,h2⟩:=VU.mp h;rw[Xs,VC,zhe h2];by_cases e:t=v
  ·subst e;rw[decide_eq_true rfl,decide_eq_false h1,decide_eq_true (p:=t∈t::r) XU];rfl
  ·have:(v∈t::r)↔v∈r:=⟨fun z=>(XR.mp z).elim (fun z=>absurd z.symm e) id,XX _⟩;rw[decide_eq_false e,show decide (v∈t::r)=decide (v∈r) from decide_eq_decide.mpr this,Vp];exact VM _
theorem zmY {α:Type}{κ:α->Nat}{n:Nat->Int}{W:Nat}{l:List α}(hW:2<=W)(hκ:∀x∈l,κ x<W)(h2:∀k,k<W->Col.cnt κ l k=2)(fit:List α->Bool)(hf:∀p∈Subs.subs l,fit p=true↔Col.zmE n W (Col.cnt κ p))(s:Nat) :
  ((Subs.subs l).countP fun p=>decide (p.length=s)&&fit p)=((ws n W).map fun t=>if t.sum=s then JK t W else 0).sum:=by
 rw[zfh (vs:=ws n W) (q:=fun t p=>decide (t.sum=s)&&Col.hits κ W (fun k=>t.getD k 0) p) fun p hp=>?_]
 ·congr 1;refine Xi fun t _=>?_;by_cases e:t.sum=s
  ·rw[if_pos e];have:(fun p=>decide (t.sum=s)&&Col.hits κ W (fun k=>t.getD k 0) p)=Col.hits κ W (fun k=>t.getD k 0):=by
    funext p;rw[decide_eq_true e,Uc]
   rw[this,Col.many _ l _ rfl hκ];exact Col.jZ fun k hk=>by rw[h2 k hk]
  ·rw[if_neg e];refine VP.mpr fun p _ h=>?_;rw[decide_eq_false e,Vp] at h;cases h
 ·have sub:=Col.zeK hp;have hz:∀x∈p,κ x<W:=fun x hx=>hκ x (sub.subset hx);let v:List Nat:=(WO W).map (Col.cnt κ p)
  have vl:v.length=W:=by
   show ((WO W).map _).length=W;rw[Y1,Wz]
  have vk:∀k,k<W->v.getD k 0=Col.cnt κ p k:=fun k hk=>by
   show ((WO W).map _).getD k 0=_;rw[XM,Xn,U3 hk];rfl
  have vW:∀k,v.getD k 0=Col.cnt κ p k:=fun k=>by
   by_cases hk:k<W
   ·exact vk k hk
   ·rw[XM,VO (by lia)];refine(VP.mpr fun x hx h=>?_).symm;have:=of_decide_eq_true h;have:=hz x hx;lia
  have vs:v.sum=p.length:=by
   have a:=Col.zgZ hz;rw[<- Col.zcO] at a;have b:∀l:List Nat,((l.map fun k=>((Col.cnt κ p k:Nat):Int)).sum)=(((l.map (Col.cnt κ p)).sum:Nat):Int):=fun l=>by
    induction l with
    | nil=>rfl
    | cons x l il=>rw[Xs,Xs,VC,VC,il];lia
   rw[b] at a;show ((WO W).map _).sum=_;lia
  have vw:v∈ws n W↔fit p=true:=by
   rw[zj4 hW,hf p hp,show (fun k=>v.getD k 0)=Col.cnt κ p from funext vW];refine⟨fun h=>h.2.2,fun h=>⟨vl,fun x hx=>?_,h⟩⟩;obtain⟨k,hk,rfl⟩:=XB.mp hx;rw[<- h2 k (Wv.mp hk)];exact sub.countP_le
  have ex:∀t∈ws n W,(decide (t.sum=s)&&Col.hits κ W (fun k=>t.getD k 0) p).toNat=(decide (t=v)&&decide (v.sum=s)).toNat:=fun t ht=>by
   congr 1;have tl:=((zj4 hW).mp ht).1;by_cases e:t=v
   ·rw[e,decide_eq_true (p:=v=v) rfl,Uc,Col.Ja.mpr fun k hk=>(vk k hk).symm,Tv]
   ·rw[decide_eq_false e,Vp];cases hh:Col.hits κ W (fun k=>t.getD k 0) p with
    | false=>exact R0 _
    | true =>
     refine absurd (UM fun k=>?_) e;by_cases hk:k<W
     ·have a:=Col.Ja.mp hh k hk;have b:=vk k hk;rw[XM] at b;have a:Col.cnt κ p k=t.getD k 0:=a;rw[XM] at a;rw[X4 (h:=by lia)] at a b ⊢;rw[X4 (h:=by lia)];exact congrArg some (a.symm.trans b.symm)
     ·rw[VO (by lia),VO (by lia)]
  rw[Xi ex,zhe (us:=ws n W) ((zc9 W).sublist VQ),vs];congr 1;rw[Tw];congr 1;rw[WM,decide_eq_true_eq,vw]
def Y8 (W:Nat)(ts:List (List Nat)):List Int:=(WO (2*W+1)).map fun s=>(((ts.map fun t=>if t.sum=s then JK t W else 0).sum:Nat):Int)
theorem zaU (W:Nat)(ts:List (List Nat)):(Y8 W ts).length=2*W+1:=by
 unfold Y8;rw[Y1,Wz]
theorem zgh {W s:Nat}(ts:List (List Nat))(h:s<=2*W):(Y8 W ts)[s]?=some (((ts.map fun t=>if t.sum=s then JK t W else 0).sum:Nat):Int):=by
 unfold Y8;rw[Xn,U3 (by lia)];rfl
theorem zlh (W:Nat):Y8 W []=Xj (2*W+1) 0:=by
 unfold Y8;show (WO (2*W+1)).map (fun _=>(0:Int))=_;rw[List.map_const',Wz]
theorem zj5 {W:Nat}(ts:List (List Nat))(t:List Nat):Y8 W (ts++[t])=(Y8 W ts).set t.sum ((((ts.map fun u=>if u.sum=t.sum then JK u W else 0).sum:Nat):Int)+((JK t W:Nat):Int)):=by
 refine UM fun s=>?_;rw[Ry];by_cases hs:s<=2*W
 ·rw[zgh _ hs,zgh _ hs,Xf,Sg];show some (((_+((if t.sum=s then JK t W else 0)+0):Nat)):Int)=_;by_cases e:t.sum=s
  ·rw[if_pos e,if_pos e,if_pos (by rw[zaU];lia),<- e];congr 1
  ·rw[if_neg e,if_neg e];rfl
 ·have l1:=zaU W (ts++[t]);have l2:=zaU W ts;rw[VO (by lia)];split
  ·rw[if_neg (by lia)]
  ·rw[VO (by lia)]
theorem zbU:∀{t:List Nat},(∀x∈t,x<=2)->t.sum<=2*t.length
 | [],_=>XW _
 | x::r,h=>by
  have:=zbU fun y hy=>h y (XX _ hy);have:=h x XU;rw[VC,Xp];lia
theorem zhf {n:Nat->Int}:∀k,(way n k).length<=3^k
 | 0=>XW _
 | k+1=>by
  have:=zhf (n:=n) k;refine XV (WX _ _) ?_;have e:∀l:List (List Nat),(l.flatMap three).length=3*l.length:=fun l=>by
   induction l with
   | nil=>rfl
   | cons t r ih =>
    rw[Rx,XZ,ih,Xp];show 3+_=_;lia
  rw[e,UN];lia
theorem zli:∀{v:Nat},v<=2->Col.bin 2 v<=2
 | 0,_=>by decide
 | 1,_=>by decide
 | 2,_=>by decide
end Wy
def yp (W:Nat):List (Nat×Nat):=(WO W).map (fun k=>(0,k))++(WO W).map fun k=>(2,k)
theorem jJ {W:Nat}{x:Nat×Nat}:x∈yp W↔(x.1=0\/x.1=2)/\x.2<W:=by
 obtain⟨a,b⟩:=x;unfold yp;rw[XI,XB,XB];constructor
 ·rintro(⟨k,hk,e⟩ | ⟨k,hk,e⟩)
  ·cases e;exact⟨.inl rfl,Wv.mp hk⟩
  ·cases e;exact⟨.inr rfl,Wv.mp hk⟩
 ·rintro⟨h1 | h1,h2⟩
  ·have h1:a=0:=h1;subst h1;exact .inl ⟨b,Wv.mpr h2,rfl⟩
  ·have h1:a=2:=h1;subst h1;exact .inr ⟨b,Wv.mpr h2,rfl⟩
theorem zbV (W:Nat):(yp W).length=2*W:=by
 unfold yp;rw[XZ,Y1,Y1,Wz];lia
theorem Y9 (W:Nat):(yp W).Nodup:=by
 unfold yp W2;rw[UI,Wd,Wd];refine⟨List.pairwise_lt_range.imp fun h e=>?_,List.pairwise_lt_range.imp fun h e=>?_,fun a ha b hb e=>?_⟩
 ·cases e;lia
 ·cases e;lia
 ·obtain⟨_,_,rfl⟩:=XB.mp ha;obtain⟨_,_,rfl⟩:=XB.mp hb;cases e
theorem zdT (i:Nat):∀(m k:Nat),Col.cnt (fun x:Nat×Nat=>x.2) ((WO m).map fun j=>(i,j)) k=if k<m then 1 else 0
 | 0,_=>rfl
 | m+1,k=>by
  rw[Sh,Xf];show Col.cnt _ (_++[(i,m)]) k=_;rw[Col.jH,zdT i m k];show _+(if m=k then 1 else 0)=_;split<;>split<;>split<;>lia
theorem zj6 {W k:Nat}(h:k<W):Col.cnt (fun x:Nat×Nat=>x.2) (yp W) k=2:=by
 have a:=zdT 0 W k;have b:=zdT 2 W k;rw[if_pos h] at a b;unfold yp Col.cnt at *
 rw[Uj,a,b]
theorem zn3 (k:Nat):∀p:List (Nat×Nat),(p.filter fun x=>decide (x.2<=k+1)&&decide (k<=x.2+1)).length=(if k=0 then 0 else Col.cnt (fun x=>x.2) p (k-1))+Col.cnt (fun x=>x.2) p k+Col.cnt (fun x=>x.2) p (k+1)
 | []=>by
  show 0=(if k=0 then 0 else 0)+0+0;split<;>rfl
 | x::r=>by
  have ih:=zn3 k r;have st:∀j,Col.cnt (fun x:Nat×Nat=>x.2) (x::r) j=Col.cnt (fun x=>x.2) r j+if x.2=j then 1 else 0:=fun j=>by
   unfold Col.cnt;rw[Wl];by_cases h:x.2=j<;>simp[h]
  rw[st,st,st,Wx];by_cases h:(decide (x.2<=k+1)&&decide (k<=x.2+1))=true
  ·rw[if_pos h,Xp,ih];rw[Wm,decide_eq_true_eq,decide_eq_true_eq] at h;repeat' split
   all_goals lia
  ·rw[if_neg h,ih];rw[Wm,decide_eq_true_eq,decide_eq_true_eq] at h;repeat' split
   all_goals lia
theorem zbW (rs:List Str)(c:Nat×Nat):clA rs c=(zW rs).filter fun x=>Cells.near x c:=by
 unfold clA zE zW;rw[Uk];have e:Cells.zK J3 0 (codes rs)=(Cells.zK z9 0 (codes rs)).filter fun x=>J3 (Cells.sgn (codes rs) x):=by
  rw[Cells.all_filter];refine Cells.zaw (fun c=>?_) 0 _;unfold J3 z9;by_cases h:c=63
  ·subst h;rfl
  ·rw[decide_eq_false h,R0]
 rw[e,Uk];refine UL fun x _=>?_;rw[Tw];rfl
abbrev rep (W c:Nat):List Nat:=Xj W c
def zbX (n:List Int):List Nat:=n.map fun x=>48+x.toNat
def Ji (W d:Nat):List (List Nat):=if d=0 then [] else [rep W 35,rep (W-1) 35++[48+d]]
structure Ban (rs:List Str)(W m d:Nat)(n:List Int):Prop where
 cd:codes rs=[rep W 63,zbX n,rep W 63]++(Xj m (rep W 63)++Ji W d)
 w4:4<=W
 w8:W<=8
 nl:n.length=W
 nb:∀x∈n,0<=x/\x<=6
 m3:m<=3
 d8:d<=8
theorem zbY {W c j x:Nat}(h:(rep W c)[j]?=some x):j<W/\x=c:=by
 obtain⟨h1,h2⟩:=X2.mp h;rw[WY] at h1;exact⟨h1,by rw[<- h2,List.getElem_replicate]⟩
theorem zmZ {W m d k j c:Nat}{t:List Nat}(hW:1<=W)(h:(Xj m (rep W 63)++Ji W d)[k]?=some t)(hj:t[j]?=some c):(k<m/\j<W/\c=63)\/(m<=k/\c=35)\/(d≠0/\k=m+1/\j=W-1/\c=48+d):=by
 rw[Pe,WY] at h;split at h
 ·rename_i hk;rw[S8,if_pos hk] at h;cases h;have:=zbY hj;exact .inl ⟨hk,this⟩
 ·rename_i hk;unfold Ji at h;split at h
  ·cases h
  rename_i hd;rcases e:k-m with _ | _ | z
  ·rw[e] at h;cases h;exact .inr (.inl ⟨by lia,(zbY hj).2⟩)
  ·rw[e] at h;cases h;rw[Pe,WY] at hj;split at hj
   ·exact .inr (.inl ⟨by lia,(zbY hj).2⟩)
   ·rename_i hjw;rcases e2:j-(W-1) with _ | z
    ·rw[e2] at hj;cases hj;exact .inr (.inr ⟨hd,by lia,by lia,rfl⟩)
    ·rw[e2] at hj;cases hj
  ·rw[e] at h;cases h
section
variable {rs:List Str}{W m d:Nat}{n:List Int}
theorem Ban.sign (Y:Ban rs W m d n){k j c:Nat}{t:List Nat}(h:(codes rs)[k]?=some t)(hj:t[j]?=some c):(c=63/\k≠1/\k<m+3/\j<W)\/(k=1/\∃x,n[j]?=some x/\c=48+x.toNat)\/(c=35/\m+3<=k)\/(d≠0/\k=m+4/\j=W-1/\c=48+d):=by
 rw[Y.cd] at h;have w4:=Y.w4;rcases k with _ | _ | _ | k
 ·cases h;have:=zbY hj;exact .inl ⟨this.2,by lia,by lia,this.1⟩
 ·cases h;unfold zbX at hj;rw[Xn] at hj;cases e:n[j]? with
  | none =>
   rw[e] at hj;cases hj
  | some x =>
   rw[e] at hj;cases hj;exact .inr (.inl ⟨rfl,x,rfl,rfl⟩)
 ·cases h;have:=zbY hj;exact .inl ⟨this.2,by lia,by lia,this.1⟩
 ·rw[Ws (by show 3<=_;lia)] at h;have h:(Xj m (rep W 63)++Ji W d)[k+3-3]?=some t:=h;rw[show k+3-3=k by lia] at h;rcases zmZ (by lia) h hj with z | z | z
  ·exact .inl ⟨z.2.2,by lia,by lia,z.2.1⟩
  ·exact .inr (.inr (.inl ⟨z.2,by lia⟩))
  ·exact .inr (.inr (.inr ⟨z.1,by lia,z.2.2⟩))
theorem Ban.shut (Y:Ban rs W m d n){x:Nat×Nat}(h:x∈zW rs):x.1≠1/\x.1<m+3/\x.2<W:=by
 obtain⟨k,j,t,c,rfl,ht,hj,hp⟩:=Cells.jX h;have hp:c=63:=of_decide_eq_true hp;rw[VM];have d8:=Y.d8;rcases Y.sign ht hj with z | ⟨_,y,hy,z⟩ | z | z
 ·exact z.2
 ·have:=Y.nb y (X0 hy);lia
 ·lia
 ·lia
theorem Ban.part_shut (Y:Ban rs W m d n){x:Nat×Nat}(h:x∈yp W):x∈zW rs:=by
 obtain⟨h1,h2⟩:=jJ.mp h;obtain⟨i,j⟩:=x;have cd:=Y.cd;have hr:∀i,(i=0\/i=2)->(codes rs)[i]?=some (rep W 63):=fun i hi=>by
  rw[cd];rcases hi with rfl | rfl
  ·rfl
  ·rfl
 have:=yf (p:=J3) (i:=0) (hr i h1) (j:=j) (c:=63) (by rw[S8,if_pos h2]) rfl;rwa [VM] at this
theorem Ban.low (Y:Ban rs W m d n){x:Nat×Nat}(h:x∈zW rs)(h2:x.1<=2):x∈yp W:=by
 have:=Y.shut h;exact jJ.mpr ⟨by lia,this.2.2⟩
theorem Ban.open_inv (Y:Ban rs W m d n){x:Nat×Nat}(h:x∈zL rs):(∃k,k<W/\x=(1,k))\/(d≠0/\x=(m+4,W-1)):=by
 obtain⟨k,j,t,c,rfl,ht,hj,hp⟩:=Cells.jX h;have hp:(!decide (c=35) && !decide (c=63))=true:=hp;rw[Wm,WH,WH,decide_eq_false_iff_not,decide_eq_false_iff_not] at hp;rw[VM];rcases Y.sign ht hj with z | ⟨rfl,y,hy,_⟩ | z | z
 ·lia
 ·have:=(X2.mp hy).1;exact .inl ⟨j,by rw[Y.nl] at this;exact this,rfl⟩
 ·lia
 ·exact .inr ⟨z.1,by rw[z.2.1,z.2.2.1]⟩
theorem Ban.mid (Y:Ban rs W m d n){k:Nat}(h:k<W):(1,k)∈zL rs/\qV rs (1,k)=n.getD k 0:=by
 have nl:=Y.nl;have e:n[k]?=some (n.getD k 0):=by
  rw[XM,X4 (by lia)];rfl
 have hb:=Y.nb _ (X0 e);have hr:(codes rs)[1]?=some (zbX n):=by
  rw[Y.cd];rfl
 have hj:(zbX n)[k]?=some (48+(n.getD k 0).toNat):=by
  unfold zbX;rw[Xn,e];rfl
 constructor
 ·refine yf (p:=Yb) (i:=0) hr hj ?_;unfold Yb z9;rw[decide_eq_false (by lia),decide_eq_false (by lia)];rfl
 ·unfold qV Cells.sgn;show ((((codes rs).getD 1 []).getD k 0:Nat):Int)-48=_;rw[XM (l:=codes rs),hr];show (((zbX n).getD k 0:Nat):Int)-48=_;rw[XM,hj];show ((48+(n.getD k 0).toNat:Nat):Int)-48=_;lia
theorem Ban.mem_cl (Y:Ban rs W m d n){x:Nat×Nat}{k:Nat}:x∈clA rs (1,k)↔x∈yp W/\x.2<=k+1/\k<=x.2+1:=by
 rw[zbW,XS,Cells.x9];constructor
 ·rintro⟨h1,h2,h3,_⟩;exact⟨Y.low h1 h2.1,h3⟩
 ·rintro⟨h1,h2⟩;have hp:=jJ.mp h1;refine⟨Y.part_shut h1,?_,h2,fun e=>?_⟩
  ·show x.1<=1+1/\1<=x.1+1;lia
  ·rw[e] at hp;have hp:(1=0\/1=2)/\_:=hp;lia
theorem Ban.bare (Y:Ban rs W m d n)(hd:d≠0):(m+4,W-1)∈zL rs/\qV rs (m+4,W-1)=((d:Nat):Int)/\clA rs (m+4,W-1)=[]:=by
 have w4:=Y.w4;have d8:=Y.d8;have hr:(codes rs)[m+4]?=some (rep (W-1) 35++[48+d]):=by
  rw[Y.cd,Ws (by show 3<=m+4;lia),Ws (by rw[WY];show m<=m+4-3;lia),WY];unfold Ji;rw[if_neg hd];show [_,_][m+4-3-m]?=_;rw[show m+4-3-m=1 by lia];rfl
 have hj:(rep (W-1) 35++[48+d])[W-1]?=some (48+d):=by
  rw[Ws (by rw[WY];lia),WY,TU];rfl
 refine⟨?_,?_,?_⟩
 ·have:=yf (p:=Yb) (i:=0) hr hj (by
   unfold Yb z9;rw[decide_eq_false (by lia),decide_eq_false (by lia)];rfl)
  rwa [VM] at this
 ·unfold qV Cells.sgn;show ((((codes rs).getD (m+4) []).getD (W-1) 0:Nat):Int)-48=_;rw[XM (l:=codes rs),hr];show (((rep (W-1) 35++[48+d]).getD (W-1) 0:Nat):Int)-48=_;rw[XM,hj];show ((48+d:Nat):Int)-48=_;lia
 ·rw[zbW,Wc];intro x hx hn;rw[Cells.x9] at hn;have:=Y.shut hx;have:m+4<=x.1+1:=hn.1.2;lia
theorem Ban.flat (Y:Ban rs W m d n){gs:List (List (Nat×Nat))}(G:Parts.Good (clA rs) (zL rs) gs):gs.flatten.Perm (yp W):=by
 refine(V7 G.nd (Y9 W)).mpr fun x=>⟨fun h=>?_,fun h=>?_⟩
 ·obtain⟨o,ho,hx⟩:=G.from_ x h;rcases Y.open_inv ho with ⟨k,_,rfl⟩ | ⟨hd,rfl⟩
  ·exact(Y.mem_cl.mp hx).1
  ·rw[(Y.bare hd).2.2] at hx;cases hx
 ·have hc:x∈clA rs (1,x.2):=Y.mem_cl.mpr ⟨h,by lia,by lia⟩;obtain⟨g,hg,ha⟩:=G.cov _ (Y.mid (jJ.mp h).2).1 (Vv hc);exact WE.mpr ⟨g,hg,ha x hc⟩
theorem Ban.small (Y:Ban rs W m d n)(h7:W<=7){gs:List (List (Nat×Nat))}(G:Parts.Good (clA rs) (zL rs) gs):∀g∈gs,g.length<=14:=fun g hg=>by
 have a:=(Wu hg).length_le;have b:=(Y.flat G).length_eq;rw[zbV] at b;lia
theorem zgi {gs:List (List (Nat×Nat))}(nd:gs.flatten.Nodup){a b:List (Nat×Nat)}(ha:a∈gs)(hb:b∈gs){x:Nat×Nat}(xa:x∈a)(xb:x∈b):a=b:=by
 induction gs with
 | nil=>cases ha
 | cons g r ih =>
  rw[WA,V4] at nd;rcases XR.mp ha with rfl | ha'
  ·rcases XR.mp hb with rfl | hb'
   ·rfl
   ·exact absurd rfl (nd.2.2 x xa x (WE.mpr ⟨b,hb',xb⟩))
  ·rcases XR.mp hb with rfl | hb'
   ·exact absurd rfl (nd.2.2 x xb x (WE.mpr ⟨a,ha',xa⟩))
   ·exact ih nd.2.1 ha' hb'
theorem Ban.big (Y:Ban rs W m d n)(h8:8<=W){gs:List (List (Nat×Nat))}(G:Parts.Good (clA rs) (zL rs) gs):∃g∈gs,14<g.length:=by
 have pc:∀k,k<W->(0,k)∈yp W:=fun k hk=>jJ.mpr ⟨.inl rfl,hk⟩;have key:∀k,k<W->∃g∈gs,∀x∈yp W,x.2<=k->x∈g:=by
  intro k;induction k with
  | zero =>
   intro hk;have hc:(0,0)∈clA rs (1,0):=Y.mem_cl.mpr ⟨pc 0 hk,by decide,by decide⟩;obtain⟨g,hg,ha⟩:=G.cov _ (Y.mid hk).1 (Vv hc);exact⟨g,hg,fun x hx h0=>ha x (Y.mem_cl.mpr ⟨hx,by lia,by lia⟩)⟩
  | succ k ih =>
   intro hk;obtain⟨g,hg,ha⟩:=ih (by lia);have hc:(0,k)∈clA rs (1,k):=Y.mem_cl.mpr ⟨pc k (by lia),(by show k<=k+1;lia),(by show k<=k+1;lia)⟩;obtain⟨g',hg',ha'⟩:=G.cov _ (Y.mid (show k<W by lia)).1 (Vv hc);have e:=zgi G.nd hg hg' (ha _ (pc k (by lia)) (XW k)) (ha' _ hc);subst e;refine⟨g,hg,fun x hx h0=>?_⟩;by_cases z:x.2<=k
   ·exact ha x hx z
   ·exact ha' x (Y.mem_cl.mpr ⟨hx,h0,by lia⟩)
 obtain⟨g,hg,ha⟩:=key (W-1) (by lia);refine⟨g,hg,?_⟩;have sl:=Wu hg;have:=((V7 (G.nd.sublist sl) (Y9 W)).mpr fun x=>⟨fun h=>(Y.flat G).mem_iff.mp (sl.subset h),fun hx=>ha x hx (by have:=(jJ.mp hx).2;lia)⟩).length_eq;rw[zbV] at this;lia
theorem Ban.fit (Y:Ban rs W m d n){p:List (Nat×Nat)}(hp:p∈Subs.subs (yp W)):jk rs p=true↔Col.zmE (fun k=>n.getD k 0) W (Col.cnt (fun x=>x.2) p):=by
 have sub:∀x∈p,x∈yp W:=fun x hx=>(Col.zeK hp).subset hx;have c3:∀k,Grow.cnt (nearF rs) (1,k) p=(if k=0 then 0 else Col.cnt (fun x=>x.2) p (k-1))+Col.cnt (fun x=>x.2) p k+Col.cnt (fun x=>x.2) p (k+1):=fun k=>by
  unfold Grow.cnt;rw[<- zn3];congr 1;refine UL fun x hx=>?_;rw[WM,JA (Y.part_shut (sub x hx)),Y.mem_cl,Wm,decide_eq_true_eq,decide_eq_true_eq];exact⟨fun h=>h.2,fun h=>⟨sub x hx,h⟩⟩
 rw[jd];constructor
 ·intro h k hk;have hc:(0,k)∈clA rs (1,k):=Y.mem_cl.mpr ⟨jJ.mpr ⟨.inl rfl,hk⟩,(by show k<=k+1;lia),(by show k<=k+1;lia)⟩;have:=h (1,k) (Y.mid hk).1 (Vv hc);rw[c3,(Y.mid hk).2] at this;exact this
 ·intro h o ho hn;rcases Y.open_inv ho with ⟨k,hk,rfl⟩ | ⟨hd,rfl⟩
  ·rw[c3,(Y.mid hk).2];exact h k hk
  ·exact absurd (Y.bare hd).2.2 hn
abbrev YT (n:List Int):List Int:=Wy.Y8 n.length (Wy.ws (fun k=>n.getD k 0) n.length)
theorem Ban.tl (Y:Ban rs W m d n):Tally.tl (yp W) (jk rs)=YT n:=by
 have w4:=Y.w4;unfold Tally.tl YT Wy.Y8 Tally.T;rw[zbV,Y.nl];refine Xi fun s _=>?_;rw[Wy.zmY (κ:=fun x:Nat×Nat=>x.2) (by lia) (fun x hx=>(jJ.mp hx).2) (fun k hk=>zj6 hk) (jk rs) (fun p hp=>Y.fit hp) s]
theorem Ban.near (Y:Ban rs W m d n){gs:List (List (Nat×Nat))}(G:Parts.Good (clA rs) (zL rs) gs):Tally.tl gs.flatten (Tally.jy (qx rs) gs)=YT n:=by
 rw[Tally.zeF (q:=jk rs) fun S _=>YG G S,Tally.zkS (Y.flat G) (zdM rs),Y.tl]
theorem Ban.none (Y:Ban rs W m d n)(hd:d≠0){S:List (Nat×Nat)}(h:S∈Subs.subs (zW rs)):jA rs S=false:=by
 have hb:=Y.bare hd;rw[Zd fun c hc=>(Tally.jE h).subset hc];have:(qX rs).isEmpty=false:=WZ.mpr fun z=>by
  have:=zbN.mp z _ hb.1 hb.2.2;rw[hb.2.1] at this;lia
 rw[this,Vp]
theorem Ban.zero (Y:Ban rs W m d n)(hd:d≠0)(s:Int)(c:Nat×Nat):zie rs s=0/\Jg rs s c=0:=by
 unfold zie Jg;rw[Tally.Yv fun S hS=>Y.none hd hS,Tally.Yv fun S hS=>by rw[Y.none hd hS,Vp]];exact⟨rfl,rfl⟩
theorem Ban.count (Y:Ban rs W 0 0 n)(s:Int):zie rs s=Pour.F (YT n) s.toNat:=by
 rw[<- Y.tl,Tally.zfW];unfold zie;have hp:(zW rs).Perm (yp W):=(V7 (Y7 rs) (Y9 W)).mpr fun x=>⟨fun h=>Y.low h (by have:=Y.shut h;lia),Y.part_shut⟩;rw[Tally.zaf hp (Y6 rs),Tally.zgX (q:=jk rs) fun S hS=>?_];have:(qX rs).isEmpty=true:=zbN.mpr fun o ho hc=>by
  rcases Y.open_inv ho with ⟨k,hk,rfl⟩ | ⟨z,_⟩
  ·have hm:(0,k)∈clA rs (1,k):=Y.mem_cl.mpr ⟨jJ.mpr ⟨.inl rfl,hk⟩,(by show k<=k+1;lia),(by show k<=k+1;lia)⟩;rw[hc] at hm;cases hm
  ·exact absurd rfl z
 rw[Zd fun c hc=>Y.part_shut ((Tally.jE hS).subset hc),this,Uc]
theorem Ban.rows (Y:Ban rs W m d n):Rows bd.cps.toList rs:=by
 have w4:=Y.w4;have w8:=Y.w8;have m3:=Y.m3;have hl:rs.length=3+(m+(Ji W d).length):=by
  have:=congrArg List.length Y.cd;rw[qP,XZ,XZ,WY] at this;exact this
 have h2:(Ji W d).length<=2:=by
  unfold Ji;split
  ·exact W1 _
  ·exact XW _
 refine⟨by lia,by lia,W,by lia,by lia,fun t ht=>?_⟩;have hm:t.cps.toList∈codes rs:=XB.mpr ⟨t,ht,rfl⟩;have sz:t.cps.size=t.cps.toList.length:=X5.symm;have a:(63:Nat)∈bd.cps.toList:=by decide +kernel
 have b:(35:Nat)∈bd.cps.toList:=by decide +kernel
 have dig:∀c,48<=c->c<=56->c∈bd.cps.toList:=fun c h1 h2=>by
  have:∀d,d<9->48+d∈bd.cps.toList:=by decide +kernel
  have:=this (c-48) (by lia);rwa [show 48+(c-48)=c by lia] at this
 have rp:∀k c,c∈bd.cps.toList->∀x∈rep k c,x∈bd.cps.toList:=fun k c hc x hx=>by
  rw[Tt hx];exact hc
 have ok:∀u∈codes rs,u.length=W/\∀c∈u,c∈bd.cps.toList:=fun u hu=>by
  have r63:(rep W 63).length=W/\∀c∈rep W 63,c∈bd.cps.toList:=⟨WY,rp W 63 a⟩;rw[Y.cd] at hu;rcases XI.mp hu with hu | hu
  ·rcases XR.mp hu with rfl | hu
   ·exact r63
   rcases XR.mp hu with rfl | hu
   ·refine⟨by unfold zbX;rw[Y1,Y.nl],fun c hc=>?_⟩;obtain⟨x,hx,rfl⟩:=XB.mp hc;have:=Y.nb x hx;exact dig _ (by lia) (by lia)
   ·rw[Wi.mp hu];exact r63
  ·rcases XI.mp hu with hu | hu
   ·rw[Tt hu];exact r63
   ·have d8:=Y.d8;unfold Ji at hu;split at hu
    ·cases hu
    rcases XR.mp hu with rfl | hu
    ·exact⟨WY,rp W 35 b⟩
    ·rw[Wi.mp hu];refine⟨by rw[XZ,WY];show W-1+1=W;lia,fun c hc=>?_⟩;rcases XI.mp hc with hc | hc
     ·exact rp _ 35 b c hc
     ·rw[Wi.mp hc];exact dig _ (by lia) (by lia)
 obtain⟨h1,h2⟩:=ok _ hm;exact⟨by rw[sz,h1],h2⟩
end
abbrev nlI (t:List Nat):List Int:=t.map fun x=>((x:Nat):Int)
theorem zdU:∀t:List Nat,(nlI t).sum=((t.sum:Nat):Int)
 | []=>rfl
 | x::r=>by
  have:=zdU r;show ((x:Nat):Int)+(nlI r).sum=_;rw[this,VC];rfl
def WR (N:Addr->Prop)(H:Hp)(v:V)(t:List Nat):Prop:=∃b l,v=V.ref b/\N l/\H b=some (.tup [.ref l,.int (t.sum:Nat)])/\H l=some (.lst (iL (nlI t)))
abbrev NT:Addr->Prop:=fun _=>True
section
variable {N:Addr->Prop}{H H':Hp}{us:List V}{ts:List (List Nat)}{z:Addr}{ys ys':List V}
theorem zbZ (s:zq H H')(h:W9 (WR N H) us ts):W9 (WR N H') us ts:=Paired.imp' (fun _ _ ⟨b,l,e,n,h1,h2⟩=>⟨b,l,e,n,s _ _ h1,s _ _ h2⟩) h
theorem zlj (h:W9 (WR N H) us ts):W9 (WR NT H) us ts:=Paired.imp' (fun _ _ ⟨b,l,e,_,h1,h2⟩=>⟨b,l,e,trivial,h1,h2⟩) h
theorem zfi (hz:H z=some (.lst ys))(h:W9 (WR (· ≠ z) H) us ts):W9 (WR (· ≠ z) (upd H z (.lst ys'))) us ts :=
 Paired.imp' (fun _ _ ⟨b,l,e,n,h1,h2⟩=>⟨b,l,e,n,by rw[zj (zjE h1 hz (fun z=>nomatch z))];exact h1,by rw[zj n];exact h2⟩) h
theorem take_snoc {α:Type}{l:List α}{i:Nat}{x:α}(h:l[i]?=some x):l.take (i+1)=l.take i++[x]:=by
 rw[Xm,h];rfl
theorem zlk {t:List Nat}{k:Nat}(hl:t.length=k+1):ZP (iL (nlI t)) (some (if ((k:Nat):Int)-2>0 then ((k:Nat):Int)-2 else 0)) (some (((k:Nat):Int)+1))=iL (nlI (t.drop (k-2))):=by
 have e1:(if ((k:Nat):Int)-2>0 then ((k:Nat):Int)-2 else 0)=((k-2:Nat):Int):=by
  split<;>lia
 rw[e1,show ((k:Nat):Int)+1=((k+1:Nat):Int) from rfl];unfold ZP;rw[HT.Jr,HT.Jr,Y1,Y1,show min (k-2) t.length=k-2 by lia,<- UD,<- UD,WL];rw[Y1,Y1,V9];lia
theorem zll {t:List Nat}{C:Nat}(hl:t.length=C)(h2:2<=C):ZP (iL (nlI t)) (some (((C:Nat):Int)-2)) none=iL (nlI (t.drop (C-2))):=by
 rw[show ((C:Nat):Int)-2=((C-2:Nat):Int) by lia];unfold ZP;rw[HT.Jr,Y1,Y1,show min (C-2) t.length=C-2 by lia,<- UD,<- UD,WL];rw[Y1,Y1,V9];exact XW _
theorem zda (l:List (List Nat)):(l.flatMap Wy.three).length=3*l.length:=by
 induction l with
 | nil=>rfl
 | cons t r ih =>
  rw[Rx,XZ,ih,Xp];show 3+_=_;lia
theorem zdb (n:Nat->Int){k:Nat}(h:k<=7):(Wy.way n k).length<=2187:=XV (Wy.zhf k) (U8 (by decide) h:3^k<=3^7)
end
def zn4:Sp:=fun vs H Q _=>∃(l:Addr) (C:Nat) (n:List Int),vs=[.int (C:Nat),.ref l]/\H l=some (.lst (iL n))/\n.length=C/\4<=C/\C<=7/\∀(d:Addr) (H':Hp),H' d=some (.lst (iL (YT n)))->zq H H'->Q (.ref d) H'
theorem zZ:zF ["_law_columns","_law_numbers","_law_ways","_law_k","_law_more","_law_taken","_law_total","_law_here","_law_due_here","_law_times"] ["_law_columns","_law_numbers"] (zh Yx):=⟨rfl,rfl,rfl,by decide +kernel,rfl,by decide +kernel,by decide +kernel⟩
theorem zgj (T:Txt mg){f:Addr}{fd:Xk}(D:zo K mg "_law_due" Yx ["_law_columns","_law_numbers"] f fd):qi P w K mg base CX0 1 f fd ["_law_columns","_law_numbers"] zn4:=by
 refine D.F.ok zZ (fun vs H Q E h=>?_) (fun cdv A outer s H vs Q E hr h=>?_)
 ·obtain⟨l,C,n,rfl,_⟩:=h;rfl
 ·obtain⟨l,C,n,rfl,hl,nC,c4,c7,q⟩:=h;refine⟨_,(@ze _ _ _ _ _ (@zC _ _ 2 _ _ _ _ zZ.nd rfl (Xy rfl) (@zY _ _ _ _ (@za _ _ _ _ _ (@jN _ _ _ _ _ (@za _ _ _ _ _ (@zY _ _ _ _ zc) (@za _ _ _ _ _ zf zc rfl) rfl)) zc rfl)) (by rfl) (.inr rfl)) (ze (qy WT rfl (yr (by rfl) T.xJ (za (pvS 0) zc)) (zm (i:=3) zZ.nd rfl (Xy rfl)) (@ze _ _ _ _ _ (@zC _ _ 4 _ _ _ _ zZ.nd rfl (Xy rfl) (@zY _ _ _ _ zc) (by rfl) (.inr rfl)) (ze (qy WT rfl (zM (pvS 2)) (yq rfl (zI (zm (i:=5) zZ.nd rfl (Xy rfl)) (zI (zm (i:=6) zZ.nd rfl (Xy rfl)) ja))) (zg (qy WT rfl (yr (by rfl) T.xJ (@za _ _ _ _ _ zf zc rfl)) (zm (i:=7) zZ.nd rfl (Xy rfl)) (zg (xD (ZK Ww VS VR jO (pvS 4) (za (jN (za (zz Zn (pvS 5) (zY (za (pvS 7) zc))) (za (zz qA (pvS 6) (pvS 7)) zc))) zc))))))) (@ze _ _ _ _ _ (@zC _ _ 2 _ _ _ _ zZ.nd rfl (Xy rfl) (@zY _ _ _ _ zc) (by rfl) (.inr rfl)) (zg (qy WT rfl (zM (pvS 4)) (yq rfl (zI (zm (i:=5) zZ.nd rfl (Xy rfl)) (zI (zm (i:=6) zZ.nd rfl (Xy rfl)) ja))) (zg (jt (PW.pt (zlp (zU ZJ (pvS 3) zf (qc _)) (zil (zU ZJ (zp (ZZ rfl) (by rfl) T.zeN UT (za (yP Js (pvS 5) (j8 (zp (JL rfl) (by rfl) T.zeM UU (@za _ _ _ _ _ zf (za (zz jb (pvS 3) zf) zc) rfl))) (j8 (zz qA (pvS 3) zf))) zc)) (qw jj (pvS 1) (zz jb (pvS 3) zf) (fun _ _=>rfl)) (qc _))))) (zg (xD (ZK Ww VS VR jO (pvS 2) (za (jN (za (pvS 5) (za (pvS 6) zc))) zc)))) qt)))))))) (@ze _ _ _ _ _ (@zC _ _ 8 _ _ _ _ zZ.nd rfl (Xy rfl) (@zz _ _ _ _ _ _ _ _ zfv (@zY _ _ _ _ (@za _ _ _ _ _ zf zc rfl)) (@zz _ _ _ _ _ _ _ _ qA (@zz _ _ _ _ _ _ _ _ Yp zf (pvS 0)) zf)) (by rfl) (.inr rfl)) (ze (qy WT rfl (zM (pvS 2)) (yq rfl (zI (zm (i:=5) zZ.nd rfl (Xy rfl)) (zI (zm (i:=6) zZ.nd rfl (Xy rfl)) ja))) (zg (jt (zU ZJ (zp (ZZ rfl) (by rfl) T.zeN UT (za (yP Js (pvS 5) (j8 (zz jb (pvS 0) zf)) Qj) zc)) (qw jj (pvS 1) (zz jb (pvS 0) zf) (fun _ _=>rfl)) (qc _)) (@ze _ _ _ _ _ (@zC _ _ 9 _ _ _ _ zZ.nd rfl (Xy rfl) zf (by rfl) (.inr rfl)) (ze (qy WT rfl (zM (pvS 5)) (zm (i:=7) zZ.nd rfl (Xy rfl)) (zg (zC (i:=9) zZ.nd rfl (Xy rfl) (zz Yp (pvS 9) (@qw _ _ _ _ _ _ _ jj (@zY _ _ _ _ (@za _ _ _ _ _ zf (@za _ _ _ _ _ zf (@za _ _ _ _ _ zf zc rfl) rfl) rfl)) (pvS 7) (fun _ _=>rfl)))))) (zg (zfq (zz qA (qw jj (pvS 8) (pvS 6) (fun _ _=>rfl)) (pvS 9)) (zlU (pvS 8) (pvS 6) set_list))))) qt))) (zg (zH (pvS 8))))))),?_⟩;refine⟨Qw,fun l0 hl0=>⟨YV,fun b0 hb0=>⟨sz_1,fun w0 hw0=>?_⟩⟩⟩;have y1:=zd (o:=.lst []) hl0;have y2:=zd (o:=.tup [.ref l0,.int 0]) hb0;have y3:=zd (o:=.lst [V.ref b0]) hw0;have z0:W9 (WR NT (upd (upd (upd H l0 (.lst [])) b0 (.tup [.ref l0,.int 0])) w0 (.lst [V.ref b0]))) [V.ref b0] (Wy.way (fun k=>n.getD k 0) 0):=.cons ⟨b0,l0,rfl,trivial,y3 _ _ zb,y3 _ _ (y2 _ _ zb)⟩ .nil;refine⟨_,rfl,_,rfl,by lia,by lia,?_⟩;rw[show (((C:Nat):Int)).toNat=C by lia];refine yt (lo:=0) (n:=C) (fun k σ H'=>∃(y:Addr) (us:List V) (w3 w4 w5 w6 w7:Option V),σ=[some (.int (C:Nat)),some (.ref l),some (.ref y),w3,w4,w5,w6,w7,none,none]/\zq H H'/\H' y=some (.lst us)/\W9 (WR NT H') us (Wy.way (fun k=>n.getD k 0) k))
   ⟨w0,_,_,_,_,_,_,rfl,y1.trans (y2.trans y3),zb,z0⟩ ?_ ?_
  ·rintro k σ H1 hk ⟨y,us,w3,w4,w5,w6,w7,rfl,s1,hy1,hW⟩;rw[R7];have wl:=zdb (fun k=>n.getD k 0) (show k<=7 by lia);have ul:us.length=_:=Paired.length hW;refine⟨Qw,fun z hz=>?_⟩;have y4:=zd (o:=.lst []) hz;refine⟨_,rfl,y,rfl,⟨_,SqL.of (y4 _ _ hy1)⟩,?_⟩;refine jg (K:=K) (a:=y) (xs:=us) (fun i σ H'=>∃(w5 w6 w7:Option V) (zs:List V),σ=[some (.int (C:Nat)),some (.ref l),some (.ref y),some (.int (k:Nat)),some (.ref z),w5,w6,w7,none,none]/\zq H1 H'/\H' z=some (.lst zs)/\W9 (WR (· ≠ z) H') zs (((Wy.way (fun k=>n.getD k 0) k).take i).flatMap Wy.three))
    ⟨_,_,_,[],rfl,y4,zb,.nil⟩ (fun i σ H' _ ⟨_,_,_,_,_,s',_⟩=>SqL.of (s' _ _ hy1)) ?_ ?_
   ·rintro i x σ H2 hx ⟨w5,w6,w7,zs,rfl,s2,hz2,hZ⟩;obtain⟨t,ht,b,lt,rfl,_,hb,hlt⟩:=zar hW hx;have tl:=((Wy.YI).mp (X0 ht)).1;have i1:i<us.length:=(X2.mp hx).1;have hlt2:=s2 _ _ hlt;refine⟨b,_,rfl,SqT.of (s2 _ _ hb),rfl,_,_,rfl,_,_,rfl,rfl,?_⟩;refine⟨3,rfl,by decide,by decide,?_⟩;have hZ0:W9 (WR (· ≠ z) H2) zs (((Wy.way (fun k=>n.getD k 0) k).take i).flatMap Wy.three++(Wy.three t).take 0):=by
     rw[List.take_zero,W0];exact hZ
    refine yt (lo:=0) (n:=3) (fun j σ H'=>∃(w7:Option V) (zs:List V),σ=[some (.int (C:Nat)),some (.ref l),some (.ref y),some (.int (k:Nat)),some (.ref z),some (.ref lt),some (.int (t.sum:Nat)),w7,none,none]/\zq H1 H'/\H' z=some (.lst zs)/\W9 (WR (· ≠ z) H') zs (((Wy.way (fun k=>n.getD k 0) k).take i).flatMap Wy.three++(Wy.three t).take j))
     ⟨w7,zs,rfl,s2,hz2,hZ0⟩ ?_ ?_
    ·rintro j σ H3 hj ⟨w7,zs,rfl,s3,hz3,hZ⟩;rw[R7];have zl:zs.length<XC:=by
      have:=Paired.length hZ;rw[XZ,zda,XD,XD] at this;exact XE (show zs.length<10000 by lia) (by decide)
     have hlt3:=s3 _ _ hlt;refine⟨_,rfl,.inl ⟨rfl,_,SqL.of hz3⟩,_,rfl,_,rfl,sz_1,fun x hx=>?_⟩;have y6:=zd (o:=.lst [V.int (j:Nat)]) hx;have tl7:(iL (nlI t)).length+1<=XC:=by
      rw[Y1,Y1,tl];exact XV (show k+1<=20 by lia) (by decide)
     refine⟨lt,x,_,_,rfl,rfl,y6 _ _ hlt3,zb,tl7,fun c hc=>?_⟩;have e7:iL (nlI t)++[V.int (j:Nat)]=iL (nlI (t++[j])):=by
      show _=((t++[j]).map _).map _;rw[Xf,Xf];rfl
     rw[e7];have y7:=zd (o:=.lst (iL (nlI (t++[j])))) hc;have es:((t.sum:Nat):Int)+((j:Nat):Int)=(((t++[j]).sum:Nat):Int):=by
      rw[Sg];show _=((t.sum+(j+0):Nat):Int);lia
     refine⟨_,rfl,_,rfl,_,_,rfl,rfl,YV,fun b' hb'=>?_⟩;have y8:=zd (o:=.tup [.ref c,.int (((t.sum:Nat):Int)+((j:Nat):Int))]) hb';have y68:=y6.trans (y7.trans y8);have hz4:=y68 _ _ hz3;have cz:c≠z:=fun e=>by
      rw[e,y6 _ _ hz3] at hc;cases hc
     have bz:b'≠z:=fun e=>by
      rw[e,y7 _ _ (y6 _ _ hz3)] at hb';cases hb'
     refine⟨z,_,_,rfl,rfl,hz4,zl,some (.int (j:Nat)),zs++[.ref b'],rfl,fun a o e=>?_,zb,?_⟩
     ·rw[zj (zk e hz)];exact y68 _ _ (s3 _ _ e)
     ·have e3:(Wy.three t).take (j+1)=(Wy.three t).take j++[t++[j]]:=take_snoc (by
       match j,hj with
       | 0,_=>rfl
       | 1,_=>rfl
       | 2,_=>rfl)
      rw[e3,<- W7];refine Paired.snoc (zfi hz4 (zbZ y68 hZ)) ⟨b',c,rfl,cz,?_,?_⟩
      ·rw[zj bz,<- es];exact zb
      ·rw[zj cz];exact y8 _ _ zb
    ·rintro σ H3 ⟨w7,zs,rfl,s3,hz3,hZ⟩;refine⟨_,_,_,zs,rfl,s3,hz3,?_⟩;rw[take_snoc ht,List.flatMap_append,List.flatMap_singleton];exact hZ
   ·rintro σ H2 ⟨w5,w6,w7,zs,rfl,s2,hz2,hZ⟩;rw[ul,Xq] at hZ;have zl:zs.length<=3*2187:=by
     have:=Paired.length hZ;rw[zda] at this;lia
    refine⟨Qw,fun v hv=>?_⟩;have y5:=zd (o:=.lst []) hv;refine⟨_,rfl,z,rfl,⟨_,SqL.of (y5 _ _ hz2)⟩,?_⟩;refine jg (K:=K) (a:=z) (xs:=zs) (fun i σ H'=>∃(w5 w6 w7:Option V) (vs:List V),σ=[some (.int (C:Nat)),some (.ref l),some (.ref v),some (.int (k:Nat)),some (.ref z),w5,w6,w7,none,none]/\zq H2 H'/\H' v=some (.lst vs)/\W9 (WR (· ≠ v) H') vs ((((Wy.way (fun k=>n.getD k 0) k).flatMap Wy.three).take i).filter (Wy.okW (fun k=>n.getD k 0) k)))
     ⟨_,_,_,[],rfl,y5,zb,.nil⟩ (fun i σ H' _ ⟨_,_,_,_,_,s',_⟩=>SqL.of (s' _ _ hz2)) ?_ ?_
    ·rintro i x σ H3 hx ⟨w5,w6,w7,vs,rfl,s3,hv3,hV⟩;obtain⟨t,ht,b,lt,rfl,_,hb,hlt⟩:=zar hZ hx;have i1:i<zs.length:=(X2.mp hx).1;have tl:t.length=k+1:=by
      obtain⟨s,hs,h3⟩:=Uu.mp (X0 ht);obtain⟨x,_,rfl⟩:=Wy.Zg.mp h3;rw[XZ,(Wy.YI.mp hs).1];rfl
     have vl:vs.length<XC:=by
      have:=Paired.length hV;have a:=WX (Wy.okW (fun k=>n.getD k 0) k) (((Wy.way (fun k=>n.getD k 0) k).flatMap Wy.three).take i);rw[XD] at a;exact XE (show vs.length<10000 by lia) (by decide)
     have hlt3:=s3 _ _ hlt;refine⟨b,_,rfl,SqT.of (s3 _ _ hb),rfl,_,_,rfl,_,_,rfl,rfl,?_⟩;rw[take_snoc ht,W6];have nk:0<k->atI (iL n) (((k:Nat):Int)-1)=some (.int (n.getD (k-1) 0)):=fun h0=>by
      rw[show ((k:Nat):Int)-1=((k-1:Nat):Int) by lia];refine xF (YF ?_);rw[XM,X4 (by lia)];rfl
     have hl3:=s3 _ _ (s2 _ _ (s1 _ _ hl));refine⟨_,rfl,rfl,_,rfl,?_⟩;by_cases k0:k=0
     case' pos =>
      have y6:zq H3 H3:=zq.refl _
      have hok:Wy.okW (fun k=>n.getD k 0) k t=true:=decide_eq_true (.inl k0)
      refine JD (decide_eq_true (congrArg V.int (by lia))) (ZW ?_)
     case' neg =>
      refine Jk (decide_eq_false fun e=>k0 (by have:=V.int.inj e;lia)) ?_
      refine⟨_,rfl,_,rfl,_,_,rfl,rfl,_,_,rfl,_,rfl,_,rfl,_,_,rfl,rfl,_,rfl,lt,_,rfl,SqL.of hlt3,fun x hx=>?_⟩
      rw[zlk tl]
      have y6:=zd (o:=.lst (iL (nlI (t.drop (k-2))))) hx
      refine⟨x,_,rfl,SqL.of zb,_,rfl,_,rfl,_,_,rfl,rfl,l,_,_,_,rfl,rfl,SqL.of (y6 _ _ hl3),nk (by lia),rfl,_,rfl,?_⟩
      rw[zdU]
      refine zhr (fun hq=>?_) (fun hq=>⟨_,_,_,vs,rfl,s3.trans y6,y6 _ _ hv3,?_⟩)
      rotate_left
      ·rw[Wx,if_neg,Sf,W0]
       ·exact zbZ y6 hV
       ·intro ho;rcases of_decide_eq_true ho with z | z
        ·exact k0 z
        ·exact hq (decide_eq_true (congrArg V.int z))
      have hok:Wy.okW (fun k=>n.getD k 0) k t=true:=decide_eq_true (.inr (V.int.inj (of_decide_eq_true hq)))
     all_goals
      have hv4:=y6 _ _ hv3
      refine⟨_,rfl,.inl ⟨rfl,_,SqL.of hv4⟩,_,rfl,_,rfl,YV,fun b' hb'=>?_⟩
      have y7:=zd (o:=.tup [.ref lt,.int (t.sum:Nat)]) hb'
      have hv5:=y7 _ _ hv4
      have bv:b'≠v:=fun e=>by
       rw[e,hv4] at hb';cases hb'
      have lv:lt≠v:=zk hlt hv
      refine⟨v,_,_,rfl,rfl,hv5,vl,_,_,_,vs++[.ref b'],rfl,fun a o e=>?_,zb,?_⟩
      ·rw[zj (zk e hv)];exact y7 _ _ (y6 _ _ (s3 _ _ e))
      ·rw[Wx,if_pos hok,Sf];refine Paired.snoc (zfi hv5 (zbZ (y6.trans y7) hV)) ⟨b',lt,rfl,lv,?_,?_⟩
       ·rw[zj bv];exact zb
       ·rw[zj lv];exact y7 _ _ (y6 _ _ hlt3)
    ·rintro σ H3 ⟨w5,w6,w7,vs,rfl,s3,hv3,hV⟩;rw[Paired.length hZ,Xq] at hV;exact⟨v,vs,_,_,_,_,_,rfl,s1.trans (s2.trans s3),hv3,zlj hV⟩
  ·rintro σ H1 ⟨y,us,w3,w4,w5,w6,w7,rfl,s1,hy1,hW⟩;have wl:=zdb (fun k=>n.getD k 0) (show C<=7 by lia);have ul:us.length=_:=Paired.length hW;refine⟨sz_1,fun x hx=>⟨_,rfl,_,_,rfl,rfl,zkm (by lia) (by lia),_,_,rfl,rfl,x,_,_,rfl,rfl,zb,by lia,by lia,?_,fun d hd=>?_⟩⟩
   ·rw[show ((2:Int)*((C:Nat):Int)+1).toNat=2*C+1 by lia];exact XV (show 1*(2*C+1)<=20 by lia) (by decide)
   have e0:(Xj ((2:Int)*((C:Nat):Int)+1).toNat [V.int 0]).flatten=iL (Wy.Y8 C []):=by
    rw[show ((2:Int)*((C:Nat):Int)+1).toNat=2*C+1 by lia,Wy.zlh,List.flatten_replicate_singleton];show _=(Xj _ _).map _;rw[List.map_replicate]
   rw[e0];have y2:=(zd (o:=.lst [V.int 0]) hx).trans (zd (o:=.lst (iL (Wy.Y8 C []))) hd);have hd1:H1 d=none:=by
    cases e:H1 d with
    | none=>rfl
    | some o =>
     have:=zd (o:=.lst [V.int 0]) hx _ _ e;rw[hd] at this;cases this
   refine⟨_,rfl,y,rfl,⟨_,SqL.of (y2 _ _ hy1)⟩,?_⟩;refine jg (K:=K) (a:=y) (xs:=us) (fun i σ H'=>∃(w5 w6 w7 w9:Option V),σ=[some (.int (C:Nat)),some (.ref l),some (.ref y),w3,w4,w5,w6,w7,some (.ref d),w9]/\zq H1 H'/\H' d=some (.lst (iL (Wy.Y8 C (((Wy.way (fun k=>n.getD k 0) C).take i).filter (Wy.zii (fun k=>n.getD k 0) C))))))
    ⟨_,_,_,_,rfl,y2,zb⟩ (fun i σ H' _ ⟨_,_,_,_,_,s',_⟩=>SqL.of (s' _ _ hy1)) ?_ ?_
   ·rintro i x' σ H2 hx' ⟨w5,w6,w7,w9,rfl,s2,hd2⟩;obtain⟨t,ht,b,lt,rfl,_,hb,hlt⟩:=zar hW hx';obtain⟨tl,t2,_⟩:=(Wy.YI).mp (X0 ht);have hlt2:=s2 _ _ hlt;refine⟨b,_,rfl,SqT.of (s2 _ _ hb),rfl,_,_,rfl,_,_,rfl,rfl,?_⟩;rw[take_snoc ht,W6];have nk:atI (iL n) (((C:Nat):Int)-1)=some (.int (n.getD (C-1) 0)):=by
     rw[show ((C:Nat):Int)-1=((C-1:Nat):Int) by lia];refine xF (YF ?_);rw[XM,X4 (by lia)];rfl
    refine⟨_,rfl,_,rfl,_,_,rfl,rfl,_,rfl,lt,_,rfl,SqL.of hlt2,fun x hx=>?_⟩;rw[zll tl (by lia)];have y3:=zd (o:=.lst (iL (nlI (t.drop (C-2))))) hx;have hl3:=y3 _ _ (s2 _ _ (s1 _ _ hl));have hd3:=y3 _ _ hd2;refine⟨x,_,rfl,SqL.of zb,_,rfl,_,rfl,_,_,rfl,rfl,l,_,_,_,rfl,rfl,SqL.of hl3,nk,rfl,_,rfl,?_⟩;rw[zdU];have s3:=s2.trans y3;have hlt3:=y3 _ _ hlt2;generalize upd H2 x (.lst (iL (nlI (t.drop (C-2)))))=H3 at *
    refine zhr (fun hq=>?_) (fun hq=>⟨_,_,_,_,rfl,s3,?_⟩);rotate_left
    ·rw[Wx,if_neg,Sf,W0]
     ·exact hd3
     ·exact fun ho=>hq (decide_eq_true (congrArg V.int (of_decide_eq_true ho)))
    have hok:Wy.zii (fun k=>n.getD k 0) C t=true:=decide_eq_true (V.int.inj (of_decide_eq_true hq));refine⟨_,rfl,lt,rfl,⟨_,SqL.of hlt3⟩,?_⟩;refine jg (K:=K) (a:=lt) (xs:=iL (nlI t)) (fun j σ H'=>∃(w7:Option V),σ=[some (.int (C:Nat)),some (.ref l),some (.ref y),w3,w4,some (.ref lt),some (.int (t.sum:Nat)),w7,some (.ref d),some (.int (Wy.JK t j:Nat))]/\zq H3 H')
     ⟨_,rfl,zq.refl _⟩ (fun j σ H' _ ⟨_,_,s'⟩=>SqL.of (s' _ _ hlt3)) ?_ ?_
    ·rintro j v σ H4 hv ⟨w7,rfl,s4⟩;obtain⟨x0,hx0,rfl⟩:=ints_get hv;rw[Xn] at hx0;obtain⟨u,hu,rfl⟩:=P0.mp hx0;have u2:=t2 u (X0 hu);have eu:t.getD j 0=u:=by
      rw[XM,hu];rfl
     have e3:atI [V.int 1,.int 2,.int 1] ((u:Nat):Int)=some (.int (Col.bin 2 u:Nat)):=by
      match u,u2 with
      | 0,_=>rfl
      | 1,_=>rfl
      | 2,_=>rfl
     refine⟨_,rfl,zeA,fun p hp=>?_⟩;have y4:=zd (o:=.lst [V.int 1,.int 2,.int 1]) hp;refine⟨_,rfl,p,_,_,_,rfl,rfl,SqL.of zb,e3,_,_,rfl,rfl,?_,?_⟩
     ·exact zkm (show -(2^64)<((Col.bin 2 u:Nat):Int) by lia) (by have:=Wy.zli u2;lia)
     ·have e:((Wy.JK t j:Nat):Int)*((Col.bin 2 u:Nat):Int)=((Wy.JK t (j+1):Nat):Int):=by
       show _=((Wy.JK t j*Col.bin 2 (t.getD j 0):Nat):Int);rw[eu,Int.natCast_mul]
      exact⟨some (.int (u:Nat)),by rw[<- e];rfl,s4.trans y4⟩
    ·rintro σ H4 ⟨w7,rfl,s4⟩;rw[Y1,Y1,tl];have ts:t.sum<=2*C:=by
      have:=Wy.zbU t2;lia
     have hd4:=s4 _ _ hd3;have a1:=xF (YF (Wy.zgh (W:=C) (((Wy.way (fun k=>n.getD k 0) C).take i).filter (Wy.zii (fun k=>n.getD k 0) C)) ts));have a2:ixN (iL (Wy.Y8 C (((Wy.way (fun k=>n.getD k 0) C).take i).filter (Wy.zii (fun k=>n.getD k 0) C)))).length ((t.sum:Nat):Int)=some t.sum:=zgb (by lia) (by rw[Y1,Wy.zaU];lia);refine⟨_,rfl,_,rfl,d,_,_,_,rfl,rfl,SqL.of hd4,a1,_,rfl,_,_,rfl,rfl,_,rfl,_,rfl,d,_,_,t.sum,rfl,rfl,hd4,a2,?_⟩;refine⟨_,_,_,_,rfl,fun b o e=>?_,?_⟩
     ·rw[zj (zk e hd1)];exact s4 _ _ (s3 _ _ e)
     ·rw[zb,Wx,if_pos hok,Sf,Wy.zj5];show some (HO.lst ((Uh V.int _).set _ (V.int _)))=_;rw[<- OF]
   ·rintro σ H2 ⟨w5,w6,w7,w9,rfl,s2,hd2⟩;rw[ul,Xq] at hd2;refine⟨_,rfl,q d H2 ?_ (s1.trans s2)⟩;show H2 d=some (.lst (iL (Wy.Y8 n.length (Wy.ws _ n.length))));rw[nC];exact hd2
theorem zj7:∀d:Nat,d<=8->((toString (d:Int):String):Str)=⟨#[48+d]⟩:=by decide +kernel
theorem join_one:∀ts:List Nat,(Rm "" (ts.map fun c=>(⟨#[c]⟩:Str)))=⟨ts.toArray⟩
 | []=>rfl
 | [c]=>rfl
 | c::c'::r=>by
  have ih:=join_one (c'::r);show (⟨#[c]⟩:Str)++("":Str)++Rm "" ((c'::r).map fun c=>(⟨#[c]⟩:Str))=_;rw[ih];show (⟨#[c]++(("":Str).cps)++(c'::r).toArray⟩:Str)=_;congr 1;apply Array.ext';rw[WP,WP];rfl
theorem zb0 {z u:Str}{k c:Nat}(hu:u.length=1)(hc:∀x∈u.cps.toList,x=c)(h1:z.length=u.length*k)(h2:∀x∈z.cps.toList,x∈u.cps.toList):z.cps.toList=rep k c:=by
 rw[hu,Oz] at h1;rw[Pz];exact⟨by rw[X5];exact h1,fun x hx=>hc x (h2 x hx)⟩
def zn5 (K:X6):Sp:=fun vs H Q _=>∃(a l:Addr) (ns:List Int) (C:Nat) (n:List Int),vs=[.ref a,.int (C:Nat),.ref l]/\SqL K H a (ns.map V.int)/\H l=some (.lst (iL n))/\n.length=C/\4<=C/\C<=8/\(∀x∈n,0<=x/\x<=6) /\
 ∀(t ra:Addr) (rs:List Str) (m d:Nat) (bad:Bool) (H':Hp),Ban rs C m d n->(bad=true↔d≠0)->H' t=some (.tup [.ref ra,.bl bad])->H' ra=some (.lst (rs.map V.str))->zq H H'->Q (.ref t) H'
theorem jf:zF ["_law_script","_law_columns","_law_numbers","_law_texts_here","_law_more","_law_k","_law_wrong","_law_last"] ["_law_script","_law_columns","_law_numbers"] (zh Jw):=⟨rfl,rfl,rfl,by decide +kernel,rfl,by decide +kernel,by decide +kernel⟩
theorem zdV (T:Txt mg)(Z:Prog K mg){f:Addr}{fd:Xk}(D:zo K mg "_law_texts" Jw ["_law_script","_law_columns","_law_numbers"] f fd):qi P w K mg base CX0 2 f fd ["_law_script","_law_columns","_law_numbers"] (zn5 K):=by
 obtain⟨JJ,Jh,zR⟩:=Z.law_cell_at;have  qh:qi P w K mg base CX0 1 _ _ ["_law_script","_law_k"] (zby K):=Jc T zR;have ql:("?":Str).length=1:=by decide +kernel
 have hl1:("#":Str).length=1:=by decide +kernel
 have qs:∀x∈("?":Str).cps.toList,x=63:=by decide +kernel
 have hs:∀x∈("#":Str).cps.toList,x=35:=by decide +kernel
 refine D.F.ok jf (fun vs H Q E h=>?_) (fun cdv A outer s H vs Q E hr h=>?_)
 ·obtain⟨a,l,ns,C,n,rfl,_⟩:=h;rfl
 ·obtain⟨a,l,ns,C,n,rfl,hS,hl,nl,c4,c8,nb,q⟩:=h;refine⟨_,(@ze _ _ _ _ _ (@zC _ _ 3 _ _ _ _ jf.nd rfl (Xy rfl) (@zY _ _ _ _ (@za _ _ _ _ _ (@zz _ _ _ _ _ _ _ _ xV yZ (pvS 1)) (@za _ _ _ _ _ (@ZK _ _ _ _ _ _ _ _ _ _ _ _ PySem.F.plainAttrs_str PySem.F.slot_str_join PySem.F.type_str_join zks yZ (za (qL (N:=["_law_number"]) (src:=[none]) (zT.plain rfl (by decide +kernel) (by decide +kernel) (by decide +kernel) rfl (by decide)) rfl (zM (pvS 2)) (fun _ _ _ _ _=>(zm (i:=0) (by show W2 (["_law_number"]:List Str);decide +kernel) rfl (Xy rfl))) (fun _ _ _ _ _=>qF) (fun _ _ _ _ _=>(jS Qh (by rfl) T.zlC Pw (za (pvS 0) zc)))) zc) (by rfl) (by rfl) (by rfl) (by rfl) (by rfl)) (@za _ _ _ _ _ (@zz _ _ _ _ _ _ _ _ xV yZ (pvS 1)) zc rfl) rfl) rfl)) (by rfl) (.inr rfl)) (ze (zC (i:=4) jf.nd rfl (Xy rfl) (zz yI (zz yw (pc0 qh hr zR (za (pvS 0) (@za _ _ _ _ _ zf zc rfl))) zf) zf)) (ze (qy WT rfl (yr (by rfl) T.xJ (za (pvS 4) zc)) (zm (i:=5) jf.nd rfl (Xy rfl)) (zg (xD (ZK Ww VS VR jO (pvS 3) (@za _ _ _ _ _ (@zz _ _ _ _ _ _ _ _ xV yZ (pvS 1)) zc rfl))))) (ze (zC (i:=6) jf.nd rfl (Xy rfl) (xE ZJ (zz yI (zz yw (pc0 qh hr zR (za (pvS 0) (@za _ _ _ _ _ zf zc rfl))) zf) zf) zf (qc _))) (zdm (jt (ZU (pvS 6) (fun _=>rfl)) (@ze _ _ _ _ _ (@zC _ _ 7 _ _ _ _ jf.nd rfl (Xy rfl) (@zz _ _ _ _ _ _ _ _ zft (@zz _ _ _ _ _ _ _ _ xV yZ (zz jb (pvS 1) zf)) (jS Qh (by rfl) T.zlC Pw (@za _ _ _ _ _ (@zz _ _ _ _ _ _ _ _ qA zf (zz yI (pc0 qh hr zR (za (pvS 0) (@za _ _ _ _ _ zf zc rfl))) zf)) zc rfl))) (by rfl) (.inr rfl)) (zg (zC (i:=3) jf.nd rfl (Xy rfl) (zz Zn (yP Js (pvS 3) Qj (j8 (@zz _ _ _ _ _ _ _ _ qA zf (zp (Yo rfl) (by rfl) T.zg0 T9 (za (pvS 4) (@za _ _ _ _ _ zf zc rfl)))))) (@zY _ _ _ _ (@za _ _ _ _ _ (@zz _ _ _ _ _ _ _ _ xV yZ (pvS 1)) (za (pvS 7) zc) rfl)))))) qt) (zg (zH (jN (za (pvS 3) (za (pvS 6) zc)))))))))),?_⟩;refine⟨_,rfl,_,_,rfl,rfl,by lia,by lia,(by show 1<=1000;decide),fun t1 l1 m1=>?_⟩;have c1:=zb0 (k:=C) ql qs l1 m1;refine⟨rfl,_,rfl,l,rfl,⟨_,SqL.of hl⟩,fun z hz=>?_⟩;refine qW (K:=K) (a:=l) (xs:=iL n) (fun i σ' H'=>∃(u0:Option V),σ'=[u0]/\zq H H'/\H' z=some (.lst ((((n.take i).map fun x=>48+x.toNat).map fun c=>(⟨#[c]⟩:Str)).map V.str))) ⟨none,rfl,zd hz,zb⟩ (fun i σ' H' _ ⟨_,_,y,_⟩=>SqL.of (y _ _ hl)) ?_ ?_
  ·rintro i v σ' H6 hv ⟨u0,rfl,s6,hz6⟩;obtain⟨x,hx,rfl⟩:=ints_get hv;have hb:=nb x (X0 hx);have ex:x=((x.toNat:Nat):Int):=by lia
   have iW:i<n.length:=(X2.mp hx).1;unfold ZR;refine zaj ?_;have hlog:x.natAbs.log2<1920:=Xe (Nat.log2_le_self _) (by lia);refine⟨_,rfl,_,rfl,hlog,_,hz6,?_,_,rfl,fun b o e=>?_,?_⟩
   ·rw[Y1,Y1,Y1,XD];exact Xe (Nat.min_le_left _ _) (XE (show i<20 by lia) (by decide))
   ·rw[zj (zk e hz)];exact s6 _ _ e
   ·rw[zb,Xm,hx,Xf,Xf,Xf];show some (HO.lst (_++[V.str (OJ (toString x))]))=some (HO.lst (_++[V.str ⟨#[48+x.toNat]⟩]));have:=zj7 x.toNat (by lia);rw[<- ex] at this;rw[this]
  rintro σ' H6 ⟨u0,rfl,s6,hz6⟩;rw[Y1,Xq] at hz6;have hjl:((((n.map fun x=>48+x.toNat).map fun c=>(⟨#[c]⟩:Str)).map (·.length)).sum+((n.map fun x=>48+x.toNat).map fun c=>(⟨#[c]⟩:Str)).length*("":Str).length)<=16777216:=by
   have e0:("":Str).length=0:=by decide +kernel
   have e1:∀l:List Nat,((l.map fun c=>(⟨#[c]⟩:Str)).map (·.length)).sum=l.length:=fun l=>by
    induction l with
    | nil=>rfl
    | cons c r ih =>
     rw[Xs,Xs,VC,ih];show 1+r.length=r.length+1;lia
   rw[e0,e1,Y1];lia
  have c2:(Rm "" ((n.map fun x=>48+x.toNat).map fun c=>(⟨#[c]⟩:Str))).cps.toList=zbX n:=by
   rw[join_one];rfl
  refine⟨_,z,_,rfl,rfl,SqL.of hz6,hjl,_,rfl,_,_,rfl,rfl,by lia,by lia,(by show 1<=1000;decide),fun t3 l3 m3=>?_⟩;have c3:=zb0 (k:=C) ql qs l3 m3;refine⟨zeA,fun ra hra=>?_⟩;generalize Rm "" ((n.map fun x=>48+x.toNat).map fun c=>(⟨#[c]⟩:Str))=t2 at *
  have y7:=zd (o:=.lst [V.str t1,.str t2,.str t3]) hra;have hra7:=zb (H:=H6) (a:=ra) (o:=.lst [V.str t1,.str t2,.str t3]);have cd0:codes [t1,t2,t3]=[rep C 63,zbX n,rep C 63]++Xj 0 (rep C 63):=by
   show [t1.cps.toList,t2.cps.toList,t3.cps.toList]=_;rw[c1,c2,c3];rfl
  generalize upd H6 ra (.lst [V.str t1,.str t2,.str t3])=H7 at *
  have s07:=s6.trans y7;refine⟨_,rfl,a,ns,_,rfl,s07.seq hS,by decide,fun z0=>⟨_,_,rfl,rfl,ZX.small (by decide) (by decide),_,_,rfl,rfl,(by show (0:Int)<4;decide),?_⟩⟩;obtain⟨M,hM,M3⟩:∃M:Nat,z0/5%4=((M:Nat):Int)/\M<=3:=⟨(z0/5%4).toNat,by lia,by lia⟩;rw[hM];refine⟨_,rfl,_,rfl,by lia,by lia,?_⟩;rw[show (((M:Nat):Int)).toNat=M by lia];refine yt (lo:=0) (n:=M) (fun j σ H'=>∃(w5:Option V) (rs:List Str),σ=[some (.ref a),some (.int (C:Nat)),some (.ref l),some (.ref ra),some (.int (M:Nat)),w5,none,none]/\zq H6 H'/\H' ra=some (.lst (rs.map V.str))/\codes rs=[rep C 63,zbX n,rep C 63]++Xj j (rep C 63)) ⟨_,[t1,t2,t3],rfl,y7,hra7,cd0⟩ ?_ ?_
  ·rintro j σ H8 hj ⟨w5,rs,rfl,s8,hr8,cd⟩;refine⟨_,rfl,.inl ⟨rfl,_,SqL.of hr8⟩,_,rfl,_,_,rfl,rfl,by lia,by lia,(by show 1<=1000;decide),fun t4 l4 m4=>?_⟩;have c4:=zb0 (k:=C) ql qs l4 m4;have rl:rs.length=3+j:=by
    have:=congrArg List.length cd;rw[qP,XZ,WY] at this;exact this
   refine⟨ra,_,_,rfl,rfl,hr8,?_,_,rs++[t4],rfl,fun b o e=>?_,?_,?_⟩
   ·rw[Y1,rl];exact XE (show 3+j<20 by lia) (by decide)
   ·rw[zj (zk e hra)];exact s8 _ _ e
   ·rw[zb,Xf];rfl
   ·unfold codes at *
    rw[Xf,cd,List.replicate_succ',<- W7];show _++[t4.cps.toList]=_;rw[c4]
  rintro σ H8 ⟨w5,rs,rfl,s8,hr8,cd⟩;have s08:=s6.trans s8;refine⟨_,rfl,a,ns,_,rfl,s08.seq hS,by decide,fun z1=>⟨_,_,rfl,rfl,ZX.small (by decide) (by decide),_,_,rfl,rfl,(by show (0:Int)<2;decide),rfl,?_⟩⟩;generalize decide (V.int (z1/20%2)=V.int 1)=bad;refine⟨fun σ' H'=>∃(w7:Option V) (ra':Addr) (rs':List Str) (m d:Nat),σ'=[some (.ref a),some (.int (C:Nat)),some (.ref l),some (.ref ra'),some (.int (M:Nat)),w5,some (.bl bad),w7]/\zq H H'/\H' ra'=some (.lst (rs'.map V.str))/\Ban rs' C m d n/\(bad=true↔d≠0),?_,?_⟩
  ·have rl:rs.length=3+M:=by
    have:=congrArg List.length cd;rw[qP,XZ,WY] at this;exact this
   refine⟨_,rfl,bad,rfl,?_⟩;cases bad with
   | false =>
    refine Q0 ?_;refine⟨_,ra,rs,M,0,rfl,s08,hr8,⟨?_,c4,c8,nl,nb,M3,by decide⟩,(fun z=>nomatch z),fun z=>absurd rfl z⟩;rw[cd];unfold Ji;rw[if_pos rfl,W0]
   | true =>
    refine ZW ?_;refine⟨_,rfl,_,_,rfl,rfl,_,_,rfl,rfl,(by show (1:Int)<=((C:Nat):Int)-1;lia),(by show ((C:Nat):Int)-1<=1000;lia),(by show 1<=1000;decide),fun t5 l5 m5=>?_⟩;rw[show (((C:Nat):Int)-1).toNat=C-1 by lia] at l5;have c5:=zb0 (k:=C-1) hl1 hs l5 m5;rw[hl1,Oz] at l5;refine⟨_,rfl,a,ns,_,rfl,s08.seq hS,by decide,fun z3=>⟨_,_,rfl,rfl,(by show (0:Int)<8;decide),_,_,rfl,rfl,_,rfl,?_⟩⟩;obtain⟨d,hd,d1,d8⟩:∃d:Nat,1+z3%8=((d:Nat):Int)/\1<=d/\d<=8:=⟨(1+z3%8).toNat,by lia,by lia,by lia⟩;rw[hd];have hlog:(((d:Nat):Int)).natAbs.log2<1920:=Xe (Nat.log2_le_self _) (by lia);have e8:=zj7 d d8;refine⟨hlog,_,_,rfl,rfl,?_,?_⟩
    ·rw[e8];show t5.length+1<=XC;exact XV (show t5.length+1<=20 by lia) (by decide)
    rw[e8];have c7:(t5++(⟨#[48+d]⟩:Str)).cps.toList=rep (C-1) 35++[48+d]:=by
     show (t5.cps++#[48+d]).toList=_;rw[WP,c5]
    generalize t5++(⟨#[48+d]⟩:Str)=t7 at *
    refine⟨_,rfl,_,rfl,_,_,rfl,_,_,rfl,rfl,_,rfl,ra,_,rfl,SqL.of hr8,fun x hx=>?_⟩;have ec:ZP (rs.map V.str) none (some (3+if (2:Int)<((M:Nat):Int) then 2 else ((M:Nat):Int)))=(rs.take (3+min M 2)).map V.str:=by
     rw[show (3+if (2:Int)<((M:Nat):Int) then 2 else ((M:Nat):Int))=((3+min M 2:Nat):Int) by split<;>lia];unfold ZP;rw[HT.Jr,Y1,rl,UE,show min (3+min M 2) (3+M)=3+min M 2 by lia];rfl
    rw[ec];have y8:=zd (o:=.lst ((rs.take (3+min M 2)).map V.str)) hx;refine⟨_,rfl,_,_,rfl,rfl,by lia,by lia,(by show 1<=1000;decide),fun t6 l6 m6=>⟨_,rfl,YV,fun x2 hx2=>?_⟩⟩;have c6:=zb0 (k:=C) hl1 hs l6 m6;have y9:=zd (o:=.lst [V.str t6,.str t7]) hx2;have ll:((rs.take (3+min M 2)).map V.str).length+2<=XC:=by
     rw[Y1,XD];exact XV (show min (3+min M 2) rs.length+2<=20 by lia) (by decide)
    refine⟨x,x2,_,_,rfl,rfl,y9 _ _ zb,zb,ll,fun r hr=>?_⟩;have y10:=zd (o:=.lst ((rs.take (3+min M 2)).map V.str++[V.str t6,.str t7])) hr;refine⟨_,r,rs.take (3+min M 2)++[t6,t7],min M 2,d,rfl,s08.trans (y8.trans (y9.trans y10)),?_,⟨?_,c4,c8,nl,nb,by lia,d8⟩,fun _=>by lia,fun _=>rfl⟩
    ·rw[zb,Xf];rfl
    ·have e1:codes (rs.take (3+min M 2))=[rep C 63,zbX n,rep C 63]++Xj (min M 2) (rep C 63):=by
      unfold codes at *
      rw[UE,cd,List.take_append,WL (by show 3<=_;lia),List.take_replicate];congr 2;show min (3+min M 2-3) M=_;lia
     have e2:codes (rs.take (3+min M 2)++[t6,t7])=codes (rs.take (3+min M 2))++[t6.cps.toList,t7.cps.toList]:=by
      unfold codes;rw[Xf];rfl
     unfold Ji;rw[e2,e1,c6,c7,if_neg (by lia),W7]
  ·rintro σ' H9 ⟨w7,ra',rs',m,d,rfl,s9,hr9,Y,hbad⟩;refine⟨_,rfl,_,rfl,YV,fun t ht=>?_⟩;have y:=zd (o:=.tup [.ref ra',.bl bad]) ht;exact q t ra' rs' m d bad _ Y hbad zb (y _ _ hr9) (s9.trans y)
def zfj:Sp:=fun vs H Q _=>∃n:Int,vs=[.int n]/\Q (.bl true) H
theorem zdW:zF ["_law_found"] ["_law_found"] (zh Jv):=⟨rfl,rfl,rfl,by decide +kernel,rfl,by decide +kernel,by decide +kernel⟩
theorem zdX (T:Txt mg)(D:zo K mg "_law_whole" Jv ["_law_found"] f fd):qi P w K mg base CX0 1 f fd ["_law_found"] zfj:=by
 refine D.F.ok zdW (fun vs H Q E h=>?_) (fun cdv A outer s H vs Q E hr h=>?_)
 ·obtain⟨n,rfl,_⟩:=h;rfl
 ·obtain⟨n,rfl,k⟩:=h;refine⟨_,(zg (zH (zfp (zp zaq (by rfl) T.qa W4 (za (pvS 0) (za (zdh (v:=.ty "int") (by rfl) T.zlB Px (by rfl)) zc))) (zfo (zlS (zp zaq (by rfl) T.qa W4 (za (pvS 0) (za (zdh (v:=.ty "bool") (by rfl) T.zmF PyProof.Rows.boot_bool (by rfl)) zc)))))))),?_⟩;refine⟨_,rfl,_,"int","int",true,rfl,.int n,(by decide +kernel),true,rfl,ZW ?_⟩;exact⟨_,rfl,_,"int","bool",false,rfl,.int n,(by decide +kernel),false,rfl,k⟩
def zfk (K:X6):Sp:=fun vs H Q _=>∃(a:Addr) (ns:List Int),vs=[.ref a]/\SqL K H a (ns.map V.int)/\ns.length<=63/\∀H',Q (.bl true) H'
section
variable {P:Xl}{w:W3}{K:X6}{mg:Str->Option X9}{base:Heap}{f:Addr}{fd:Xk}{jai jaj jad jaa jac jab jah jaf jae jag:Addr}
theorem xq:zF ["_law_script","_law_columns","_law_numbers","_law_texts_here","_law_wrong","_law_board","_law_ways","_law_way","_law_due_here","_law_many","_law_found"] ["_law_script"] (zh zcP):=⟨rfl,rfl,rfl,by decide +kernel,rfl,by decide +kernel,by decide +kernel⟩
theorem zlm (T:Txt mg)(Z:Prog K mg)(U:zmV K mg jai jaj jad jaa jac jab jah jaf jae jag){f:Addr}{fd:Xk}(D:zo K mg "law" zcP ["_law_script"] f fd):qi P w K mg base CX0 10 f fd ["_law_script"] (zfk K):=by
 obtain⟨JJ,Jh,zR⟩:=Z.law_cell_at;obtain⟨zlH,zln,zaC⟩:=Z.law_whole;obtain⟨zm0,zlI,zb1⟩:=Z.law_rows;obtain⟨zlJ,zlo,zaD⟩:=Z.law_texts;obtain⟨zm5,zm1,zdc⟩:=Z.law_due;obtain⟨zm2,zlK,zb2⟩:=Z.law_told;obtain⟨YR,Yh,qf⟩:=Z.near_counts;obtain⟨zlg,zj2,JC⟩:=Z.count;obtain⟨zgg,zfc,jQ⟩:=Z.count_at;have  qh:qi P w K mg base CX0 1 _ _ ["_law_script","_law_k"] (zby K):=Jc T zR;have  zfl:qi P w K mg base CX0 1 _ _ ["_law_found"] zfj:=zdX T zaC;have  zgk:qi P w K mg base CX0 2 _ _ ["_law_script"] (zn2 K):=zfe T Z zb1;have  zfm:qi P w K mg base CX0 2 _ _ ["_law_script","_law_columns","_law_numbers"] (zn5 K):=zdV T Z zaD;have  zij:qi P w K mg base CX0 1 _ _ ["_law_columns","_law_numbers"] zn4:=zgj T zdc;have  zgl:qi P w K mg base CX0 9 _ _ ["_law_way","_law_board"] zhb:=zfb T U Z zb2;have  zcg:qi P w K mg base (CXE P w) 6 _ _ ["board"] (zjP jaj):=Jf T Z U.o1 qf;have  zhg:qi P w K mg base (CXE P w) 7 _ _ ["board"] (zg7 jaj):=ze7 T Z U.o1 JC;have  zgm:qi P w K mg base (CXE P w) 8 _ _ ["board","cell"] (zc8 jaj):=zaB T Z U.o1 jQ;refine D.F.ok xq (fun vs H Q E h=>?_) (fun cdv A outer s H vs Q E hr h=>?_)
 ·obtain⟨a,ns,rfl,_⟩:=h;rfl
 ·obtain⟨a,ns,rfl,hS,nl,q⟩:=h;refine⟨_,(ze (zfq (pc0 zgk hr zb1 (za (pvS 0) zc)) (yq rfl (zI (zm (i:=1) xq.nd rfl (Xy rfl)) (zI (zm (i:=2) xq.nd rfl (Xy rfl)) ja)))) (ze (zfq (pc0 zfm hr zaD (za (pvS 0) (za (pvS 1) (za (pvS 2) zc)))) (yq rfl (zI (zm (i:=3) xq.nd rfl (Xy rfl)) (zI (zm (i:=4) xq.nd rfl (Xy rfl)) ja)))) (ze (zC (i:=5) xq.nd rfl (Xy rfl) (jN (za (jS Ql (by rfl) T.zjr PV (za (pvS 3) zc)) (za (zz yI (pc0 qh hr zR (za (pvS 0) (@za _ _ _ _ _ zf zc rfl))) zf) zc)))) (@ze _ _ _ _ _ (@zC _ _ 6 _ _ _ _ xq.nd rfl (Xy rfl) (@zY _ _ _ _ (@za _ _ _ _ _ zf (@za _ _ _ _ _ zf (@za _ _ _ _ _ (@zz _ _ _ _ _ _ _ _ qA zf (zz yI (pc0 qh hr zR (za (pvS 0) (@za _ _ _ _ _ zf zc rfl))) (@zz _ _ _ _ _ _ _ _ zl0 zf zf))) zc rfl) rfl) rfl)) (by rfl) (.inr rfl)) (ze (jt (zU zi8 (pvS 1) zf (qc _)) (ze (qy WT rfl (zM (zz Zn (pvS 6) (pvS 6))) (zm (i:=7) xq.nd rfl (Xy rfl)) (zg (jt (zU (xT hr.units) (pc0 zgl hr zb2 (za (pvS 7) (za (pvS 5) zc))) yZ (qc _)) (@zg _ _ _ (@zH _ _ _ _ zci)) qt))) (zg (zH (xE (Zo hr.units) (qw qR (pvS 5) zf (fun _ _=>rfl)) (pvS 3) (qc _))))) qt) (ze (zC (i:=8) xq.nd rfl (Xy rfl) (pc0 zij hr zdc (za (pvS 1) (za (pvS 2) zc)))) (ze (jt (zU (xT hr.units) (pcX zcg hr qf (za (pvS 5) zc)) (pvS 8) (qc _)) (@zg _ _ _ (@zH _ _ _ _ zci)) qt) (ze (jt (ZU (pvS 4) (fun _=>rfl)) (zg (zH (zfp (xE ZJ (pcX zhg hr JC (za (pvS 5) zc)) zf (qc _)) (zfo (xE ZJ (pcX zgm hr jQ (za (pvS 5) (@za _ _ _ _ _ (@jN _ _ _ _ _ (@za _ _ _ _ _ zf (@za _ _ _ _ _ zf zc rfl) rfl)) zc rfl))) zf (qc _)))))) qt) (ze (jt (zU ZJ (zp zJ (by rfl) T.yj Wt (za (pvS 3) zc)) zf (qc _)) (@ze _ _ _ _ _ (@zC _ _ 9 _ _ _ _ xq.nd rfl (Xy rfl) zf (by rfl) (.inr rfl)) (zdm (jt (zU zi7 (qw qR (pvS 5) zf (fun _ _=>rfl)) (zp zJ (by rfl) T.yj Wt (za (pvS 8) zc)) (qc _)) (zg (zC (i:=9) xq.nd rfl (Xy rfl) (qw jj (pvS 8) (qw qR (pvS 5) zf (fun _ _=>rfl)) (fun _ _=>rfl)))) qt) (ze (zC (i:=10) xq.nd rfl (Xy rfl) (pcX zhg hr JC (za (pvS 5) zc))) (zg (zH (zfp (pc0 zfl hr zaC (za (pvS 10) zc)) (zfo (xE ZJ (pvS 10) (pvS 9) (qc _))))))))) qt) (zg (zH (xE (Zo hr.units) (qw qR (pvS 5) zf (fun _ _=>rfl)) (pvS 3) (qc _))))))))))))),?_⟩;refine⟨_,rfl,a,ns,rfl,hS,fun C t l n H1 c4 c8 ht hl xl hx s1=>⟨t,_,rfl,SqT.of ht,rfl,_,_,rfl,_,_,rfl,rfl,?_⟩⟩;refine⟨_,rfl,_,rfl,_,rfl,a,l,ns,C,n,rfl,s1.seq hS,hl,xl,c4,c8,hx,fun t2 ra rs m d bad H2 Y hbad ht2 hra s2=>⟨t2,_,rfl,SqT.of ht2,rfl,_,_,rfl,_,_,rfl,rfl,?_⟩⟩;have s02:=s1.trans s2;have R:=Y.rows;refine⟨_,rfl,ra,_,rfl,.inl (SqL.of hra),fun lb hlb=>?_⟩;have y1:=zd (o:=.lst (rs.map V.str)) hlb;refine⟨_,rfl,a,ns,_,rfl,(s02.trans y1).seq hS,by decide,fun z4=>⟨_,_,rfl,rfl,(by show (0:Int)<17;decide),YV,fun b hb=>?_⟩⟩;have n0:0<=z4%17:=by lia
  generalize z4%17=st at *
  have y2:=zd (o:=.tup [.ref lb,.int st]) hb;have B:qC (upd (upd H2 lb (.lst (rs.map V.str))) b (.tup [.ref lb,.int st])) b lb rs st:=⟨zb,y2 _ _ zb⟩;have y12:=y1.trans y2;have hra3:=y12 _ _ hra;have hl3:=y12 _ _ (s2 _ _ hl);have s03:=s02.trans y12;generalize upd (upd H2 lb (.lst (rs.map V.str))) b (.tup [.ref lb,.int st])=H3 at *
  refine⟨_,rfl,a,ns,_,rfl,s03.seq hS,by decide,fun z5=>⟨_,_,rfl,rfl,⟨by decide,by decide,by decide⟩,_,_,rfl,rfl,(by show (0:Int)<10^OC 6;decide),_,_,rfl,rfl,zeA,fun wa hwa=>?_⟩⟩;obtain⟨k5,hk5⟩:∃k:Nat,2+z5%(10:Int)^OC 6=((k:Nat):Int):=by
   have:=Int.emod_nonneg z5 (show (10:Int)^OC 6≠0 by decide);exact⟨(2+z5%(10:Int)^OC 6).toNat,(Vk (by lia)).symm⟩
  rw[hk5];have y4:=zd (o:=.lst [V.int 0,.int 1,.int (k5:Nat)]) hwa;have hwa4:=zb (H:=H3) (a:=wa) (o:=.lst [V.int 0,.int 1,.int (k5:Nat)]);have B4:=B.mono y4;have hra4:=y4 _ _ hra3;have hl4:=y4 _ _ hl3;have s04:=s03.trans y4;generalize upd H3 wa (.lst [V.int 0,.int 1,.int (k5:Nat)])=H4 at *
  have rq:WI (.list (rs.map Ur)) (.list (rs.map Ur))=true:=SeqAt.eqv_refl _ R.cmp.l1;refine⟨_,rfl,_,_,rfl,rfl,_,rfl,?_⟩;by_cases h7:7<C
  ·refine JD (decide_eq_true (by lia)) ?_;obtain⟨t0,ht0,t1⟩:∃t:Str,rs[0]?=some t/\0<t.length:=by
    have lo:=R.lo;obtain⟨k,k1,_,hk⟩:=R.ex;refine⟨rs[0],X4 (by lia),?_⟩;have e:rs[0].length=k:=(hk _ (TL _)).len;lia
   refine⟨_,rfl,_,rfl,wa,wa,_,_,rfl,rfl,hwa4,hwa4,znM,fun w2 hw2=>⟨w2,rfl,⟨_,SqL.of zb⟩,?_⟩⟩;have y5:=zd (o:=.lst ([V.int 0,.int 1,.int (k5:Nat)]++[V.int 0,.int 1,.int (k5:Nat)])) hw2;have hw5:=zb (H:=H4) (a:=w2) (o:=.lst ([V.int 0,.int 1,.int (k5:Nat)]++[V.int 0,.int 1,.int (k5:Nat)]));generalize upd H4 w2 (.lst ([V.int 0,.int 1,.int (k5:Nat)]++[V.int 0,.int 1,.int (k5:Nat)]))=H5 at *
   refine jg (K:=K) (a:=w2) (xs:=[V.int 0,.int 1,.int (k5:Nat)]++[V.int 0,.int 1,.int (k5:Nat)]) (fun i σ H'=>∃(w7:Option V),σ=[some (.ref a),some (.int (C:Nat)),some (.ref l),some (.ref ra),some (.bl bad),some (.ref b),some (.ref wa),w7,none,none,none]/\zq H5 H')
    ⟨_,rfl,zq.refl _⟩ (fun i σ H' _ ⟨_,_,s'⟩=>SqL.of (s' _ _ hw5)) ?_ ?_
   ·rintro i x σ H6 hx ⟨w7,rfl,s6⟩;obtain⟨k,rfl⟩:∃k:Nat,x=.int (k:Nat):=by
     have hm:=X0 hx;have key:∀y ∈ [V.int 0,.int 1,.int (k5:Nat)],∃k:Nat,y=.int (k:Nat):=fun y hy=>by
      rcases XR.mp hy with rfl | hy
      ·exact⟨0,rfl⟩
      rcases XR.mp hy with rfl | hy
      ·exact⟨1,rfl⟩
      ·exact⟨k5,Wi.mp hy⟩
     rcases XI.mp hm with hm | hm
     ·exact key x hm
     ·exact key x hm
    refine⟨_,rfl,_,rfl,k,b,lb,rs,st,t0,rfl,B4.mono (y5.trans s6),R,fun gs G=>Y.big (by lia) G,n0,ht0,t1,fun H7 s7=>?_⟩;refine⟨.str "great",.str "great",.str _,.str _,⟨by decide +kernel,by decide +kernel,by decide +kernel⟩,_,rfl,Jk (by decide +kernel) ?_⟩;exact⟨_,rfl,s6.trans s7⟩
   ·rintro σ H6 ⟨w7,rfl,s6⟩;have s46:=y5.trans s6;refine⟨_,rfl,b,_,0,_,rfl,rfl,SqT.of (B4.mono s46).tp,rfl,_,rfl,_,_,.lst (SqL.of (B4.mono s46).rw) (ZY rs),.lst (SqL.of (s46 _ _ hra4)) (ZY rs),R.cmp,?_⟩;rw[if_neg (by decide),rq];exact q _
  ·refine Jk (decide_eq_false (by lia)) ?_;have h7':C<=7:=by lia
   have noG:∀gs,Parts.Good (clA rs) (zL rs) gs->(∃g∈gs,14<g.length)->False:=fun gs G ⟨g,hg,l14⟩=>by
    have:=Y.small h7' G g hg;lia
   refine⟨_,rfl,_,rfl,l,C,n,rfl,hl4,xl,c4,h7',fun d2 H5 hd5 s5=>?_⟩;have B5:=B4.mono s5;refine⟨_,rfl,b,lb,rs,st,rfl,B5,R,(fun gs G h=>(noG gs G h).elim),fun dn gs H6 hdn _ G _ zn6 s6=>?_⟩;rw[Y.near G] at zn6;refine⟨_,rfl,QN (YT n),QN (YT n),ze1 (SqL.of zn6),ze1 (SqL.of (s6 _ _ hd5)),zh8 _ _,_,rfl,?_⟩;rw[if_pos rfl,zga];refine Q0 ?_;have s46:=s5.trans s6;have B6:=B4.mono s46;have hd6:=s6 _ _ hd5;have hra6:=s46 _ _ hra4;refine⟨_,rfl,bad,rfl,?_⟩;cases bad with
   | true =>
    refine ZW ?_;have hd0:d≠0:=hbad.mp rfl;refine⟨_,rfl,b,lb,rs,st,rfl,B6,R,(fun gs G h=>(noG gs G h).elim),n0,fun gs G _ H7 s7=>?_⟩;rw[(Y.zero hd0 st (0,0)).1];refine⟨rfl,true,rfl,ZW ?_⟩;refine⟨_,rfl,YV,fun ca hca=>?_⟩;have y8:=zd (o:=.tup [.int 0,.int 0]) hca;refine⟨b,lb,ca,rs,st,(0,0),rfl,B6.mono (s7.trans y8),R,(fun gs G h=>(noG gs G h).elim),n0,zb,fun gs G _=>⟨Y.part_shut (jJ.mpr ⟨.inl rfl,(by show 0<C;lia)⟩),fun H8 s8=>?_⟩⟩;rw[(Y.zero hd0 st (0,0)).2];exact⟨rfl,q _⟩
   | false =>
    refine Q0 ?_;have hd0:d=0:=by
     by_cases z:d=0
     ·exact z
     ·exact nomatch hbad.mpr z
    subst hd0;have rl:rs.length=3+m:=by
     have:=congrArg List.length Y.cd;rw[qP,XZ,XZ,WY] at this;exact this
    refine⟨_,rfl,ra,_,rfl,.inl (SqL.of hra6),rfl,_,rfl,?_⟩;rw[Y1];by_cases m0:m=0
    ·subst m0;refine JD (decide_eq_true (congrArg V.int (by lia))) ?_;refine⟨fun σ' H'=>σ'=[some (.ref a),some (.int (C:Nat)),some (.ref l),some (.ref ra),some (.bl false),some (.ref b),some (.ref wa),none,some (.ref d2),some (.int (Pour.F (YT n) st.toNat)),none]/\H'=H6,?_,?_⟩
     ·refine⟨_,rfl,b,_,1,_,rfl,rfl,SqT.of B6.tp,rfl,_,rfl,d2,_,rfl,.inl (SqL.of hd6),_,_,rfl,rfl,_,rfl,?_⟩;rw[Y1];by_cases hlt:st<(((YT n).length:Nat):Int)
      ·refine JD (decide_eq_true hlt) ?_;obtain⟨x,hx⟩:∃x,(YT n)[st.toNat]?=some x:=⟨_,X4 (by lia)⟩;refine⟨_,rfl,_,rfl,b,_,1,_,rfl,rfl,SqT.of B6.tp,rfl,d2,_,_,_,rfl,rfl,SqL.of hd6,za0 n0 (YF hx),?_,rfl⟩;rw[Pour.zji hx];rfl
      ·refine Jk (decide_eq_false hlt) ?_;refine⟨?_,rfl⟩;rw[Pour.QC (by lia)];rfl
     ·rintro σ' H7 ⟨rfl,rfl⟩;refine⟨_,rfl,b,lb,rs,st,rfl,B6,R,(fun gs G h=>(noG gs G h).elim),n0,fun gs G _ H8 s8=>?_⟩;rw[Y.count st];refine⟨_,rfl,_,rfl,true,rfl,ZW ?_⟩;refine⟨_,rfl,_,rfl,rfl,?_⟩;rw[decide_eq_true rfl];exact q _
    ·refine Jk (decide_eq_false fun e=>m0 (by have:=V.int.inj e;lia)) ?_;refine⟨_,rfl,b,_,0,_,rfl,rfl,SqT.of B6.tp,rfl,_,rfl,_,_,.lst (SqL.of B6.rw) (ZY rs),.lst (SqL.of hra6) (ZY rs),R.cmp,?_⟩;rw[if_neg (by decide),rq];exact q _
theorem zm3 (T:Txt mg)(jas:qk K mg "StoneError" jai)(jat:qk K mg "TooGreat" jaj)(jan:qk K mg "NoLaying" jad)(jak:qk K mg "NoBoard" jaa)(jam:qk K mg "NoCount" jac)(jal:qk K mg "NoCell" jab)(jar:qk K mg "NoText" jah)(jap:qk K mg "NoRow" jaf)(jao:qk K mg "NoNumber" jae)(jaq:qk K mg "NoTable" jag)(FG:Facts K jaj jai jaj jad jaa jac jab jah jaf jae jag true false)(Z:Prog K mg){f:Addr}{fd:Xk}(D:zo K mg "law" zcP ["_law_script"] f fd):qi P w K mg base CX0 10 f fd ["_law_script"] (zfk K) :=
 zlm T Z ⟨jas,jat,jan,jak,jam,jal,jar,jap,jao,jaq,FG⟩ D
end
theorem all_mk {l:PM}{w:W3}{K:X6}{h:Heap}{mg:Str->Option X9}{fa:Addr}{jaE:Tok}{jaF:Tok}{jaG:Tok}{jai:Addr}{jaj:Addr}{jad:Addr}{jaa:Addr}{jac:Addr}{jab:Addr}{jah:Addr}{jaf:Addr}{jae:Addr}{jag:Addr}(X:K.In h)(G:h.Ns XO mg)(hfa:mg "law"=some (.ref fa))
  (Qa:HasDef K "closed" JY)
  (xu:HasDef K "open_cells" qB)
  (Qc:HasDef K "around" yc)
  (Jm:HasDef K "number_at" yV)
  (Zh:HasDef K "cells_of" qI)
  (Yj:HasDef K "sign_at" qO)
  (zaH:HasDef K "parts" zaS)
  (Qd:HasDef K "joined" JZ)
  (zgn:HasDef K "far" zeL)
  (xw:HasDef K "numbers_of" yd)
  (xx:HasDef K "bare_wrong" jF)
  (jK:HasDef K "closed_around" qv)
  (j5:HasDef K "part_layings" qJ)
  (Zi:HasDef K "needs_at" Jb)
  (Yk:HasDef K "may_fit" J0)
  (yD:HasDef K "part_counts" yJ)
  (Yl:HasDef K "counted" J1)
  (xy:HasDef K "counted_at" ye)
  (Ym:HasDef K "choices" Yw)
  (Qe:HasDef K "poured" QG)
  (yE:HasDef K "near_counts" jI)
  (zaI:HasDef K "count" zaT)
  (Zj:HasDef K "count_at" Zx)
  (jB:HasDef K "counts_by_cell" qE)
  (xA:HasDef K "all_poured" xH)
  (zaJ:HasDef K "dealt" QH)
  (yF:HasDef K "_law_cell_at" yK)
  (Jo:HasDef K "_law_whole" Jv)
  (yG:HasDef K "_law_outcome" yL)
  (Zk:HasDef K "_law_rows" yx)
  (Jp:HasDef K "_law_texts" Jw)
  (Yn:HasDef K "_law_due" Yx)
  (Zl:HasDef K "_law_told" Zy)
  (zgo:HasDef K "law" zcP)
  (xB:XH K XO "ValueError"=some none)
  (zgp:XH K XO "any"=some none)
  (zdd:XH K XO "bool"=some none)
  (zde:XH K XO "dict"=some none)
  (Jq:XH K XO "enumerate"=some none)
  (zgq:XH K XO "int"=some none)
  (xC:XH K XO "isinstance"=some none)
  (zgr:XH K XO "len"=some none)
  (zdf:XH K XO "list"=some none)
  (zgs:XH K XO "max"=some none)
  (zgt:XH K XO "min"=some none)
  (zaK:XH K XO "range"=some none)
  (zgu:XH K XO "set"=some none)
  (Qf:XH K XO "sorted"=some none)
  (zgv:XH K XO "str"=some none)
  (zgw:XH K XO "sum"=some none)
  (zgx:XH K XO "zip"=some none)
  (yH:XH K XO "CLOSED_SIGN"=some (some (.str "?" jaE)))
  (j6:XH K XO "MOST_OF_PART"=some (some (.int 14 jaF)))
  (j7:XH K XO "NO_CELL_SIGN"=some (some (.str "#" jaG)))
  (jaC:XH K XO "StoneError"=some (some (.ref jai)))
  (jaP:WG K jai xr "ValueError.__new__"=true)
  (jaD:XH K XO "TooGreat"=some (some (.ref jaj)))
  (jaQ:WG K jaj xr "ValueError.__new__"=true)
  (jax:XH K XO "NoLaying"=some (some (.ref jad)))
  (jaK:WG K jad xr "ValueError.__new__"=true)
  (jau:XH K XO "NoBoard"=some (some (.ref jaa)))
  (jaH:WG K jaa xr "ValueError.__new__"=true)
  (jaw:XH K XO "NoCount"=some (some (.ref jac)))
  (jaJ:WG K jac xr "ValueError.__new__"=true)
  (jav:XH K XO "NoCell"=some (some (.ref jab)))
  (jaI:WG K jab xr "ValueError.__new__"=true)
  (jaB:XH K XO "NoText"=some (some (.ref jah)))
  (jaO:WG K jah xr "ValueError.__new__"=true)
  (jaz:XH K XO "NoRow"=some (some (.ref jaf)))
  (jaM:WG K jaf xr "ValueError.__new__"=true)
  (jay:XH K XO "NoNumber"=some (some (.ref jae)))
  (jaL:WG K jae xr "ValueError.__new__"=true)
  (jaA:XH K XO "NoTable"=some (some (.ref jag)))
  (jaN:WG K jag xr "ValueError.__new__"=true)
  (jaR:VB K (.ref jaj) "__getattribute__"=some (some (.builtin "BaseException.__getattribute__")))
  (jaS:VB K (.ref jaj) "__getattr__"=some none)
  (ja0:VB K (.ref jaj) "__class__"=some (some (.builtin "object.__class__")))
  (ja1:Vs K jaj (.type "BaseException")=some true)
  (ja2:Vs K jaj (.type "object")=some true)
  (ja3:Tp K jaj=true)
  (ja4:Vs K jaj (.ref jai)=some true)
  (ja5:Xg K (.ref jaj) (.ref jaj)=some true)
  (ja6:Xg K (.ref jaj) (.ref jad)=some false)
  (ja7:Xg K (.ref jaj) (.ref jaa)=some false)
  (jaT:Xg K (.ref jaj) (.ref jac)=some false)
  (jaU:Xg K (.ref jaj) (.ref jab)=some false)
  (jaV:Xg K (.ref jaj) (.ref jah)=some false)
  (jaW:Xg K (.ref jaj) (.ref jaf)=some false)
  (jaX:Xg K (.ref jaj) (.ref jae)=some false)
  (jaY:Xg K (.ref jaj) (.ref jag)=some false)
  (jaZ:Xg K (.ref jaj) (.type "ValueError")=some true) :
  ∃fd:Xk,(∀(s:X8) (v:X9),OQ s fd ⟨[v],[]⟩ [("_law_script",v)])/\∀base:Heap,K.In base->base.Ns XO mg->qi l.prog w K mg base CX0 10 fa fd ["_law_script"] (zfk K):=by
 obtain⟨f,oc,od,an,sl,kV,dc,pm,cd,ct,a,l0,c,k⟩:=zgo;have e:=hfa.symm.trans (Wf X G a);cases e;have T:Txt mg:=⟨WS X G xB,WS X G zgp,WS X G zdd,WS X G zde,WS X G Jq,WS X G zgq,WS X G xC,WS X G zgr,WS X G zdf,WS X G zgs,WS X G zgt,WS X G zaK,WS X G zgu,WS X G Qf,WS X G zgv,WS X G zgw,WS X G zgx,⟨_,Wf X G yH⟩,⟨_,Wf X G j6⟩,⟨_,Wf X G j7⟩⟩;have Z:Prog K mg:=⟨Qa.at X G (fun _ _ _ _ _ _=>us1 fun _=>rfl),xu.at X G (fun _ _ _ _ _ _=>us1 fun _=>rfl),Qc.at X G (fun _ _ _ _ _ _=>us2 fun _ _=>rfl),Jm.at X G (fun _ _ _ _ _ _=>us2 fun _ _=>rfl),Zh.at X G (fun _ _ _ _ _ _=>us1 fun _=>rfl),Yj.at X G (fun _ _ _ _ _ _=>us2 fun _ _=>rfl),zaH.at X G (fun _ _ _ _ _ _=>us1 fun _=>rfl),Qd.at X G (fun _ _ _ _ _ _=>us2 fun _ _=>rfl),zgn.at X G (fun _ _ _ _ _ _=>us1 fun _=>rfl),xw.at X G (fun _ _ _ _ _ _=>us2 fun _ _=>rfl),xx.at X G (fun _ _ _ _ _ _=>us1 fun _=>rfl),jK.at X G (fun _ _ _ _ _ _=>us2 fun _ _=>rfl),j5.at X G (fun _ _ _ _ _ _=>us2 fun _ _=>rfl),Zi.at X G (fun _ _ _ _ _ _=>us3 fun _ _ _=>rfl),Yk.at X G (fun _ _ _ _ _ _=>us2 fun _ _=>rfl),yD.at X G (fun _ _ _ _ _ _=>us2 fun _ _=>rfl),Yl.at X G (fun _ _ _ _ _ _=>us2 fun _ _=>rfl),xy.at X G (fun _ _ _ _ _ _=>us3 fun _ _ _=>rfl),Ym.at X G (fun _ _ _ _ _ _=>us2 fun _ _=>rfl),Qe.at X G (fun _ _ _ _ _ _=>us2 fun _ _=>rfl),yE.at X G (fun _ _ _ _ _ _=>us1 fun _=>rfl),zaI.at X G (fun _ _ _ _ _ _=>us1 fun _=>rfl),Zj.at X G (fun _ _ _ _ _ _=>us2 fun _ _=>rfl),jB.at X G (fun _ _ _ _ _ _=>us1 fun _=>rfl),xA.at X G (fun _ _ _ _ _ _=>us1 fun _=>rfl),zaJ.at X G (fun _ _ _ _ _ _=>us3 fun _ _ _=>rfl),yF.at X G (fun _ _ _ _ _ _=>us2 fun _ _=>rfl),Jo.at X G (fun _ _ _ _ _ _=>us1 fun _=>rfl),yG.at X G (fun _ _ _ _ _ _=>us1 fun _=>rfl),Zk.at X G (fun _ _ _ _ _ _=>us1 fun _=>rfl),Jp.at X G (fun _ _ _ _ _ _=>us3 fun _ _ _=>rfl),Yn.at X G (fun _ _ _ _ _ _=>us2 fun _ _=>rfl),Zl.at X G (fun _ _ _ _ _ _=>us2 fun _ _=>rfl)⟩;have F:=zir (st:=zcP) l0 c k;have D:zo K mg "law" zcP ["_law_script"] _ _:=⟨F,Wf X G a,F.binds (ps:=["_law_script"]) (fun _ _ _ _ _ _=>us1 fun _=>rfl)⟩;have jas:qk K mg "StoneError" jai:=⟨Wf X G jaC,jaP⟩;have jat:qk K mg "TooGreat" jaj:=⟨Wf X G jaD,jaQ⟩;have jan:qk K mg "NoLaying" jad:=⟨Wf X G jax,jaK⟩;have jak:qk K mg "NoBoard" jaa:=⟨Wf X G jau,jaH⟩;have jam:qk K mg "NoCount" jac:=⟨Wf X G jaw,jaJ⟩;have jal:qk K mg "NoCell" jab:=⟨Wf X G jav,jaI⟩;have jar:qk K mg "NoText" jah:=⟨Wf X G jaB,jaO⟩;have jap:qk K mg "NoRow" jaf:=⟨Wf X G jaz,jaM⟩;have jao:qk K mg "NoNumber" jae:=⟨Wf X G jay,jaL⟩;have jaq:qk K mg "NoTable" jag:=⟨Wf X G jaA,jaN⟩;have FG:Facts K jaj jai jaj jad jaa jac jab jah jaf jae jag true false:=⟨⟨jaR,jaS,ja0,ja1,ja2,ja3⟩,ja4,ja5,ja6,ja7,jaT,jaU,jaV,jaW,jaX,jaY,jaZ⟩;exact⟨_,fun s v=>.of_eq rfl,fun base _ _=>zm3 T jas jat jan jak jam jal jar jap jao jaq FG Z D⟩
theorem walk {l:PM}{q:Xl}{loose:List Str}{XP:(Str->Option X9)->Heap->Prop}{YP:W3->Heap->Prop}{d:DefRec}{K:Params->X6}(hn:l.most=some 63)(hdf:d.params.defaults=[])
  (hY:∀(w:W3) (h:Heap),YP w h->(K w.params).In h)
  (F:∀(w:W3) (mg:Str->Option X9) (fa:Addr) (h:Heap),(K w.params).In h->h.Ns XO mg->mg d.name=some (.ref fa) ->
   ∃fd:Xk,(∀(s:X8) (u:X9),OQ s fd ⟨[u],[]⟩ [("_law_script",u)])/\∀base:Heap,(K w.params).In base->base.Ns XO mg->qi l.prog w (K w.params) mg base CX0 10 fa fd ["_law_script"] (zfk (K w.params))) :
  O3 q loose XP YP l.row.toRowW d [] (fun f vs=>PySem.call f vs) :=
 L2.zgC (n:=63) (k:=10) (x:="_law_script") (CX:=fun _=>CX0) (sp:=fun w=>zfk (K w.params)) hn (by decide) hdf ⟨rfl,by decide,by decide⟩ hY F (fun _ _ a ns hl _ hS=>⟨a,ns,rfl,hS,hl,fun _=>rfl⟩) fun _ _ _ _ _ z=>z
end K35
open PySem PySem.W PyProof.Rows
set_option maxRecDepth 100000 in
set_option maxHeartbeats 0 in
theorem PySem.Challenge.cw_stonelay_k35_counts_too_great_holds : PySem.Challenge.rw_stonelay_k35_counts_too_great.Holds := by
 refine zaV.early fun {q XP YP d K} hdf hY hn F=>?_;refine K35.walk (l:=PySem.Challenge.rw_stonelay_k35_counts_too_great) rfl hdf hY fun w mg fa h KX G hmg=>?_;rw[hn] at hmg;obtain⟨Qa,xu,Qc,Jm,Zh,Yj,zaH,Qd,zgn,xw,xx,jK,j5,Zi,Yk,yD,Yl,xy,Ym,Qe,yE,zaI,Zj,jB,xA,zaJ,yF,Jo,yG,Zk,Jp,Yn,Zl,zgo,xB,zgp,zdd,zde,Jq,zgq,xC,zgr,zdf,zgs,zgt,zaK,zgu,Qf,zgv,zgw,zgx,⟨_,yH⟩,⟨_,j6⟩,⟨_,j7⟩,⟨_,_,_,_,_,_,_,_,_,_,jaC,jaD,jax,jau,jaw,jav,jaB,jaz,jay,jaA,jaP,jaQ,jaK,jaH,jaJ,jaI,jaO,jaM,jaL,jaN,jaR,jaS,ja0,ja1,ja2,ja3,ja4,ja5,ja6,ja7,jaT,jaU,jaV,jaW,jaX,jaY,jaZ⟩⟩:=F w;exact K35.all_mk KX G hmg Qa xu Qc Jm Zh Yj zaH Qd zgn xw xx jK j5 Zi Yk yD Yl xy Ym Qe yE zaI Zj jB xA zaJ yF Jo yG Zk Jp Yn Zl zgo xB zgp zdd zde Jq zgq xC zgr zdf zgs zgt zaK zgu Qf zgv zgw zgx yH j6 j7 jaC jaP jaD jaQ jax jaK jau jaH jaw jaJ jav jaI jaB jaO jaz jaM jay jaL jaA jaN jaR jaS ja0 ja1 ja2 ja3 ja4 ja5 ja6 ja7 jaT jaU jaV jaW jaX jaY jaZ