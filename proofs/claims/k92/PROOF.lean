import PyProof.Rows.All
import KE.IntBitsLaws
import KE.KDictOf
import KE.KDictSum
import KE.KIntText
import KE.KSortTup
import KE.LcSums
import KE.RegKIsAll
import KE.KNestM
import KE.KPairComp
import Lean
import PySem.Challenge.RW_stonelay_k92_whole_thoughts_on_great_boa
open List renaming length_map->ZB,mem_of_getElem?->X8,mem_filter->X5,length_append->X4,getElem?_eq_getElem->XY,getElem?_eq_some_iff->XX,mem_cons_of_mem->XV,mem_cons_self->XR,mem_map->XN,mem_append->XM,length_take->XJ,mem_cons->XI,take_length->XF,map_cons->XD,getElem?_map->XB,length_filter_le->Xw,append_nil->Xu,map_append->Xs,filter_sublist->Xr,getD_eq_getElem?_getD->Xp,length_cons->Xo,size_toArray->Xm,take_add_one->Xb,map_congr_left->W9,take_append_drop->W5,append_assoc->W3,filter_append->WZ,nodup_append->WY,mem_append_left->WX,mem_append_right->WV,any_eq_true->WT,filter_eq_nil_iff->WN,length_range->WL,all_eq_true->WK,filter_cons->WJ,take_of_length_le->WE,perm_ext_iff_of_nodup->WD,range->WC,drop_eq_getElem_cons->WB,mem_range->Ww,countP_eq_countP_filter_add->Wu,countP_le_length->Ws,replicate->Wr,countP_cons->Wo,mem_flatten->Wn,mem_singleton->Wl,map_map->Wj,nodup_cons->Wf,pairwise_map->Wd,mem_of_mem_take->Wc,length_mapIdx->Wb,flatMap_append->V9,mem_flatMap->V7,length_eq_zero_iff->V6,getElem?_append_left->V3,nodup_nil->VX,foldl_cons->VW,flatten_append->VT,flatten_cons->VS,getElem?_append_right->VP,length_nil->VN,flatMap_cons->VH,filter_congr->Vt,countP_eq_zero->Vr,pairwise_iff_getElem->Vp,isEmpty_eq_false_iff->Vn,filterMap_cons->Vb,replicate_succ->Va,sublist_flatten_of_mem->U6,length_drop->U4,filter_filter->UX,getElem?_eq_none_iff->US,range_succ->UQ,foldl_append->UN,getElem?_of_mem->UK,take_succ_cons->UF,getElem_mem->Uy,any_map->Us,ne_nil_of_mem->Uq,length_pos_of_mem->Um,find?_cons->Uk,countP_eq_length_filter->Ug,countP_congr->T9,map->T5,pairwise_append->T0,getElem?_mapIdx->TY,map_nil->TV,not_mem_nil->TN,isEmpty_iff->TL,flatMap_nil->TK,exists_mem_of_ne_nil->TJ,getElem?_range->TF,getElem_of_mem->TD,reverse_append->TC,filter_eq_self->TB,getElem?_take_of_lt->Tu,sublist_append_left->Ts,mem_filterMap->Tl,getElem?_drop->Ti,ext_getElem?->SW,drop_eq_nil_of_le->SV,perm_append_comm->SO,getElem?_eq_none->SN,countP_eq_length->SK,lookup_cons->SF,any_cons->SA,sum_cons->Sw,map_id->Sr,pairwise_cons->R0,getElem?_zip_eq_some->RU,extract_eq_take_drop->RT,filterMap_eq_nil_iff->RQ,lookup->RP,take_sublist->RN,drop_sublist->RM,reverse_perm->RL,all_cons->RJ,cons_append->Rv,nil_sublist->Rr,mapIdx_cons->Rq,getElem?_cons_succ->Rn,getElem?_set_self->Rc,of_mem_zip->P6,nil_append->P1,length_singleton->PY,mem_iff_getElem?->PV,pairwise_reverse->PP,drop_drop->Pu,take_zero->Ps,getElem?_set_ne->Pq,mem_of_mem_drop->Pm,reverse_reverse->Pk,map_eq_nil_iff->Pc,countP_pos_iff->Pb,toList_toArray->O8,map_take->O2,Nodup->OT
open PySem renaming wpAny_bind->Y1,Value->X9,Shared->X7,wpAny_pure->XQ,FuncData->XC,Paired->Xy,mainGlobals->Xx,sizeLine->Xv,boot_len->Xj,Program->Xh,model->Xg,wpAny->Xe,World->W2,starEach->WU,Around->WO,mem_of_lookup->Wx,SetTable->Wv,compareOp->Wg,PyData->We,wpAny_loadPart'->V8,tupleKind->VR,wpAny_holding->VO,wpAny_truthy_bool->VL,wpAny_newObj_type->VJ,foldedSetIterable->VI,codeAny_builtin->VC,cLine->Vz,sysModules->Vl,wpAny_mono->Vk,Spec->Ve,wpAny_rule->Vd,wpAny_call_entry->U1,builtinLookup_eq_fast->UV,wpAny_passesOwn->UR,Builtin->UP,plainId_quiet->UJ,relabel->UH,storedH->UG,Scope->UE,treeTable->UC,bootBuiltins->Uv,wpAny_execs_nil->Ul,rawInt->Ue,wpAny_dictEntries->Ub,binaryOp->T7,sizeLine_eq->T3,wpAny_forIn_list->TM,behindInMarks->Tw,typeLookup_type->Tr,entryOfKey->Tp,assignEach->To,wpAny_Call_Name_kw->Tk,sliceBounds->Te,backTo->Tb,codeAny->Ta,codeAny_mono->S8,wpAny_pyIter_list->S4,wpAny_pyIter_enum->S2,wpAny_setState_of->SZ,ofAClassStatement->SY,wpAny_isTrue_Compare1->SS,swapsWith->SJ,wpAny_execs_cons->SG,GenState->Su,NameKind->Ss,letOwnedTupleGo->So,wpAny_specialOf->Sm,wpAny_setEntries_of->Si,wpAny_typeOf->Sf,cellsFrom->Sb,pyNext->Sa,firstArgMember->R8,tupleKind_room_in1->R4,wpAny_standAt->RK,wpAny_attempt->RI,setSearchFrom->RG,wpAny_comprehension_free->RF,DictEntry->Rx,pickOrder->Rw,wpAny_isInstance->Ru,wpAny_askSetting->Rs,wpAny_callSpecial?_slot->Rm,call_meets->Rh,seqIndex_neg->Rf,wpAny_getItem_list_neg->Q1,wpAny_notOrdered_dict->PX,seqIndex_of->PJ,storedH_new->PH,unsupported->PF,hashByValue->PD,intText?->Py,isSubtype_type->Px,wpAny_setField->Pw,codeAny_call_builtin->Po,callerA->Pf,assignInOrder->O6,comprehension->O5,dictSetHashed->O4,wpAny_newList->O0,builtinsNs->OY,typeLookup->OX,closureFor->OW,atKey->OQ,BindsTo->OP,valueAt->OO,ReadsAll->OM,Params->OI,Result->OH,pushCells->OG,again->OF,wpAny_of_eq->OE,Keyword->OD,bindL->OB,bindC->OA,bindName->Oy,IntMulOk->Ox,entryFor->Ow,CmpOp->Ov
open Nat renaming le_trans->X6,le_refl->XT,lt_of_le_of_lt->XE,lt_of_lt_of_le->Xi,ne_of_lt->Xf,zero_le->W1,lt_succ_of_lt->Wm,zero_add->Wa,le_succ->VM,lt_irrefl->VG,succ_ne_self->U3,le_add_right->U2,lt_or_ge->Uu,pow_succ->Ut,le_succ_of_le->Uc,pow_le_pow_right->TZ,le_of_lt->TX,ne_of_gt->TW,lt_trans->TU,sub_self->TR,not_lt_zero->Tq,lt_of_lt_of_eq->Tf,succ_pos->S7,lt_trichotomy->S1,lt_succ_self->SE,mod_lt->R9,add_sub_cancel->R1,add_sub_cancel_left->Rj,add_zero->Re,one_le_iff_ne_zero->P9,add_le_add_right->Pp,pow_lt_pow_right->Pj
open Array renaming length_toList->XZ,getElem?_toList->XA,toList_append->WP,getElem?_eq_none->WM,getElem?_eq_some_iff->Vs,getElem?_eq_getElem->Vo,size_map->Vg,toList_reverse->Vf,toList_map->U0,size_reverse->UY,perm_iff_toList_perm->UW,getElem_toList->UL,size_extract->Ur,getElem?_setIfInBounds->Uh,size_setIfInBounds->Tt,toList_push->SX,getElem?_extract->SU,forIn_toList->R3,toList_setIfInBounds->RW,getElem?_replicate->RB,getElem?_reverse->Qb,toList_extract->Pl,toList_filter->Pd,toList_modify->O9
open PySem.Heap renaming get?_push_of_some->XW,lt_size->Xz,get?_push_size->W4,get?_update_self->Wh,SameBut->V1,size_push->UZ,get?_none_of_le->UM,get?_update_other->Uo,get?_update_ne->Sh,FlyingW->OK
open Bool renaming false_ne_true->XU,eq_false_iff->XO,eq_iff_iff->WQ,not_eq_true'->WF,false_eq_true->Wz,and_eq_true->Wp,and_eq_true_iff->VQ,and_true->Sv,false_and->PB,and_false->Pz,and_comm->OZ
open PySem.W renaming Frag->XS,nsIn->Xk,mg_none_of->Wy,mg_of->Vx,hashAt->Vw,fnOf->UO,excIn->Uf,openEnds->T8,keepIn->T2,hideAll_get->TH,mroIn->Tx,codeIn->S6,methodObj->RO,cellsFrom_some->Rb,OpenLaw->P0,WalkO->O7
open PySem.SetTable renaming bits->XH,below->Xq,insertAt->Xd,turns->W6,runEnd->VB,leap->Vi,grown->UB,sizeAbove->Th,Probe->R7,advance->Rt,fill->O3
open PyProof.Rows renaming wpS_bind->XG,wpS_pure->Xn,arrOf->Xl,Keyed->Xa,SortSt->WS,pendingOf->WR,boot_sorted->WG,wpS_forRange->V0,callWith_type1->Vy,boot_min->UU,wpS_mono->UD,pairsOf_toList->UA,seqObj->Uw,boot_any->Ud,SortKind->T6,wpS_modify->Tn,failedOf->S9,boot_int->SM,boot_max->SL,AllBare->SD,wpS_get->SC,reverseSlice'->Sx,mem_zip_self->Se,assignInOrder_cons->R6,listItems_at->RR,wpS_lift->Ry,envOfC->Ri,subscriptTail_builtinR->Ra,boot_list->P8,boot_dict->P7,boot_sum->PN,boot_str->PM,boot_abs->PL,IntsAre->Pg,pairsOf->Pe,getElem?_mirror_all->Pa,IsTup->OC
open PySem.PassesOwn renaming never->Xc
open PySem.F renaming plainAttrs_list->W7,slot_list_append->WI,type_list_append->WH,slot_list_extend->VF,type_list_extend->VE,slot_dict_get->SR,excBase_ValueError->RX,slot_dict_update->RC,args_dict_get_3->Rp,plainAttrs_dict->Ro,plain_list_iadd->Rl,entry_dict_get->QQ,slot_set_iter->PU,plain_set_new->PQ
open PySem.PyData renaming eqv->WW,canLayAll0->V5,depthAll->VA,canLay0->Uz,bool->Tc
open PySem.Value renaming ref->WA,int->Vm,none->T4
open PySem.Heap.SameBut renaming update->Wq
open PySem.Around renaming under_plainId->V4
open Or renaming inl->V2,inr->PK
open Int renaming le_of_lt->VZ,zero_add->VY,le_trans->VD,toNat_natCast->Vv,le_refl->U5,emod_nonneg->Ui,emod_lt_of_pos->Tj,neg_le_neg->S5,toNat_of_nonneg->Sk,add_zero->Sd,natAbs_natCast->RZ,natCast_add->PZ,not_lt->OR,mul_comm->OJ
open ForInStep renaming yield->VU
open PySem.SetTable.below renaming go->Vu
open Ne renaming symm->Vq
open False renaming elim->Vj
open Option renaming isSome_iff_exists->Vh,map_eq_some_iff->U7,map_some->Uj,getD_some->TQ,map->OU
open PySem.Obj renaming mapSeq->Vc,data_mapDictKeys->T1,mapFields->Sy,isFreed_of_dict->Sj
open PyProof.Rows.F renaming plain_set_update_loop->U9,entry_set_update_loop->Tz
open List.Sublist renaming length_le->U8
open Classical renaming byContradiction->UT
open PySem.Builtin.List renaming listTooLong->UI,listExtendWith->Sc,listSameRef->RA
open PySem.Builtin.Dict renaming updateFrom->Ux,entriesForEmpty->Sl,addKeywords->RE,selfAndRest->RD,pairItems->QP,mergeDict->Qr,quietEq->Pn
open PySem.SetTable.probe renaming go->Ua
open PySem.NameKind renaming cell->Tv
open List.Perm renaming append_left->SQ,length_eq->Sg
open True renaming intro->SH
open PySem.Shared renaming TypeIs->Sz
open PySem.Calls renaming evalArgs_plain->Sq,spliced_cons->R5,Name_function_global->RY,call_function_entry->RS,callWith_builtin->QR
open PySem.Str renaming join->Rz
open PySem.SeqAt renaming eqv_refl->Pr
open Sum renaming inl->Pi,inr->Ph
open PUnit renaming unit->OV
open PySem.W.Hook renaming obs->ON
open PySem.W.RowW renaming records->OL
open Prod renaming ext->Oz
set_option Elab.async false
set_option linter.all false
set_option maxRecDepth 100000
theorem bq {c:Prop}{h:Decidable c}(n:¬c){α:Sort _}{t e:α}:ite c t e=e:=if_neg n
theorem bw {c:Prop}{h:Decidable c}(n:c){α:Sort _}{t e:α}:ite c t e=t:=if_pos n
theorem br {p:Prop}[Decidable p](h:p):decide p=true:=decide_eq_true h
theorem bu {p:Prop}[Decidable p]:(decide p=true)=p:=decide_eq_true_eq
theorem bf {p:Prop}[Decidable p](h:¬p):decide p=false:=decide_eq_false h
theorem bg {p:Prop}[Decidable p](h:decide p=true):p:=of_decide_eq_true h
namespace J2
open PySem PySem.W
theorem zja {loose:List PySem.Str}{r:OpenRow}{q:Xh}{H:Hook}{d:DefRec}{kwd:List (PySem.Str×Expr)}{N:Nat}(left:LeftO r.prog q loose (λs=>xlAt q [] s&&recOk (OL r.toRowW) s) (ON H) (Hook.val H) N)
  (hdef:defOf q r.name=some (d,kwd)) (hp:r.prog.theDef r.name=some (d.params,d.body,d.scope)) (hk:kwWritten? d.params.kwonlyargs d.params.kw_defaults=some kwd) (hwr:(!r.writes || r.records.isEmpty)=true)
  (k1:r.wellSaid=true) (ok:(chainsOk q&&opensWell r.prog&&(frees r.toRowW&&r.within.isEmpty))=true) (hb:r.prog.bare) (hw:r.toRowW.promised)
  (call:WalkO q loose (XL q []) (Hook.says H) r.toRowW d kwd λf vs=>PySem.call f vs):r.Holds :=
 holds_open (q:=q) (loose:=loose) (Xt:=λs=>xlAt q [] s&&recOk (OL r.toRowW) s) (XP:=XL q []) (Yf:=ON H) (Ya:=Hook.val H) (YP:=Hook.says H) (N:=N) left (Hook.of H) (Hook.keeps H) (λs e=>xl_of s (VQ.mp e).1) XL.keeps hdef hp hk
  (λs e=>recFacts_of (VQ.mp e).2) hwr k1 ok hb hw call
noncomputable def top (i:Nat):Stmt:=PySem.Challenge.pw_stonelay_k92_whole_thoughts_on_great_boa.main.body.getD i (.Pass ⟨0,0,0,0⟩)
noncomputable def J4 (s:Stmt):Arguments:=match s with
 | .FunctionDef _ a _ _ _ _ _ _ _ _=>a
 | _=>{ posonlyargs:=[],args:=[],vararg:=none,kwonlyargs:=[],kw_defaults:=[],kwarg:=none,defaults:=[] }
noncomputable def xw (s:Stmt):List Stmt:=match s with
 | .FunctionDef _ _ b _ _ _ _ _ _ _=>b
 | _=>[]
noncomputable def zp (s:Stmt):UE:=match s with
 | .FunctionDef _ _ _ _ _ _ sc _ _ _=>sc
 | _=>{ kind:=.function,names:=[],isGenerator:=false,isCoroutine:=false }
def HD (K:XS)(x:Str)(i:Nat):Prop:=∃(f:Addr) (oc:X9) (od an:Option Addr) (sl:Array (Option X9)) (kV dc pm cd ct:X9),Xk K Xx x=some (some (.ref f))/\K.lookup f=some ⟨oc,od,.func (UO x x (J4 (top i)) (xw (top i)) (zp (top i)) .none kV dc pm an cd ct),sl⟩/\S6 K cd x=true/\T2 K (.ref f)=true
def zfb:List X9:=[.type "ValueError",.type "Exception",.type "BaseException",.type "object"]
structure Facts (K:XS):Prop where
 Q9:HD K "closed" 7
 Jc:HD K "open_cells" 8
 zaa:HD K "around" 9
 J5:HD K "number_at" 10
 zab:HD K "opened" 11
 ZQ:HD K "cells_of" 12
 Qd:HD K "sign_at" 13
 zbP:HD K "parts" 15
 zac:HD K "joined" 16
 zhV:HD K "far" 17
 Jd:HD K "numbers_of" 18
 Je:HD K "bare_wrong" 19
 yh:HD K "closed_around" 20
 yE:HD K "part_layings" 23
 ZR:HD K "needs_at" 24
 Qe:HD K "may_fit" 25
 xx:HD K "part_counts" 26
 Qf:HD K "counted" 27
 Qg:HD K "choices" 29
 zad:HD K "poured" 30
 xy:HD K "near_counts" 32
 zbQ:HD K "count" 33
 Jf:HD K "all_poured" 34
 zbR:HD K "dealt" 35
 ZS:HD K "asked_by" 38
 ZT:HD K "known_of" 39
 xA:HD K "still_asked" 40
 zae:HD K "gained" 41
 Qh:HD K "settled" 42
 ZU:HD K "thoughts" 45
 J6:HD K "all_steps" 46
 xB:HD K "place_lists" 47
 Jg:HD K "first_step" 48
 xC:HD K "_law_cell_at" 50
 J7:HD K "_law_mixed" 51
 ZV:HD K "_law_mark" 52
 J8:HD K "_law_drawn" 53
 J9:HD K "_law_cells" 54
 ZW:HD K "_law_near" 55
 Za:HD K "_law_board" 56
 Jh:HD K "_law_looked" 57
 Ji:HD K "_law_number" 58
 ZX:HD K "_law_free" 60
 Jj:HD K "_law_shares" 61
 Qi:HD K "_law_due" 62
 Jk:HD K "_law_walked" 63
 Zb:HD K "_law_great" 64
 zhW:HD K "law" 65
 zhX:Xk K Xx "abs"=some none
 zhY:Xk K Xx "any"=some none
 zen:Xk K Xx "dict"=some none
 Zc:Xk K Xx "enumerate"=some none
 zhZ:Xk K Xx "int"=some none
 zh0:Xk K Xx "len"=some none
 zeo:Xk K Xx "list"=some none
 zh1:Xk K Xx "max"=some none
 zh2:Xk K Xx "min"=some none
 zbS:Xk K Xx "range"=some none
 zh3:Xk K Xx "set"=some none
 zaf:Xk K Xx "sorted"=some none
 zh4:Xk K Xx "str"=some none
 zh5:Xk K Xx "sum"=some none
 zh6:∃t,Xk K Xx "ALL"=some (some (.str "all" t))
 xD:∃t,Xk K Xx "CLOSED_SIGN"=some (some (.str "?" t))
 yF:∃t,Xk K Xx "MOST_OF_PART"=some (some (.int 14 t))
 xE:∃t,Xk K Xx "MOST_THINGS"=some (some (.int 30 t))
 yG:∃t,Xk K Xx "NO_CELL_SIGN"=some (some (.str "#" t))
 c_NoLaying:∃jaa:Addr,Xk K Xx "NoLaying"=some (some (.ref jaa))/\Uf K jaa zfb "ValueError.__new__"=true
 c_TooGreat:∃jab:Addr,Xk K Xx "TooGreat"=some (some (.ref jab))/\Uf K jab zfb "ValueError.__new__"=true/\Tx K jab (.ref jab)=some true
end J2
noncomputable def J2.ob:List PySem.Str:="StoneError" :: "TooGreat" :: "NoLaying" :: "CLOSED_SIGN" :: "NO_CELL_SIGN" :: "closed" :: "open_cells" :: "around" :: "number_at" :: "opened" :: "cells_of" :: "sign_at" :: "parts" :: "joined" :: "far" :: "numbers_of" :: "bare_wrong" :: "closed_around" :: "MOST_OF_PART" :: "part_layings" :: "needs_at" :: "may_fit" :: "part_counts" :: "counted" :: "choices" :: "poured" :: "near_counts" :: "count" :: "all_poured" :: "dealt" :: "ALL" :: "asked_by" :: "known_of" :: "still_asked" :: "gained" :: "settled" :: "MOST_THINGS" :: "thoughts" :: "all_steps" :: "place_lists" :: "first_step" :: "_law_cell_at" :: "_law_mixed" :: "_law_mark" :: "_law_drawn" :: "_law_cells" :: "_law_near" :: "_law_board" :: "_law_looked" :: "_law_number" :: "_law_things" :: "_law_free" :: "_law_shares" :: "_law_due" :: "_law_walked" :: "_law_great" :: []
noncomputable def J2.view:PySem.Program:={ PySem.Challenge.rw_stonelay_k92_whole_thoughts_on_great_boa.prog with main:={ PySem.Challenge.rw_stonelay_k92_whole_thoughts_on_great_boa.prog.main with body:=PySem.Challenge.rw_stonelay_k92_whole_thoughts_on_great_boa.prog.main.body.drop 65 } }
theorem J2.keep (H:PySem.W.Hook){P:Prop}(h:P):P:=h
local macro_rules | `(tactic| o_head $H)=>`(tactic| refine J2.keep $H ?_)
open PySem PySem.W PyProof.Rows in
set_option maxRecDepth 100000 in
set_option maxHeartbeats 0 in
theorem J2.pre (h:PySem.Challenge.rw_stonelay_k92_whole_thoughts_on_great_boa.row.Holds):PySem.Challenge.rw_stonelay_k92_whole_thoughts_on_great_boa.row.Holds:=by
 k_head;exact h
namespace J2
open PySem PySem.W
noncomputable def as:List Addr:=[2,3,15,22,23,24,25,28,35,36,37,40,47,48,49,52,55,56,57,60,61,62,64,65,67,68,69,71,72,74,75,76,79,80,81,84,85,86,88,89,91,92,93,95,96,98,99,100,103,104,105,108,109,110,113,114,115,118,119,120,123,124,125,128,129,130,133,134,135,138,139,140,142,143,145,146,147,149,150,152,153,154,156,157,159,160,161,163,164,166,167,168,171,172,173,175,176,178,179,180,182,183,185,186,187,190,191,192,194,195,197,198,199,202,203,204,207,208,209,212,213,214,216,217,219,220,221,224,225,226,229,230,231,234,235,236,239,240,241,243,244,246,247,248,250,251,253,254,255,257,258,260,261,262,264,265,267,268,269,271,272,274,275,276,278,279,281,282,283,286,287,288,291,292,293,295,296,298,299,307,310,311,312,315,316,317,320,321,322,325,326,327,329,330,332,333,334,337,338]
theorem cut {E:Option X7}{as:List Addr}{K:Frag}(n:Nat)(a:E.map (λs=>(as.take n).map s.heap.get?)=some ((K.take n).map λp=>some p.2))(b:E.map (λs=>(as.drop n).map s.heap.get?)=some ((K.drop n).map λp=>some p.2)):E.map (λs=>as.map s.heap.get?)=some (K.map λp=>some p.2):=by
 cases E with
 | none=>cases a
 | some s =>
  have e:=congr (congrArg HAppend.hAppend (Option.some.inj a)) (Option.some.inj b);rw[<- Xs,<- Xs,W5,W5]at e;exact congrArg some e
theorem hook {K:OI->Frag}{as:List Addr}{e:∀P,as=(K P).map (·.1)}{w:W2}{E:Option X7}(h:E.map (λs=>as.map s.heap.get?)=some ((K w.params).map λp=>some p.2)):E.map (ON (kHook K as e))=some (Hook.val (kHook K as e) w):=h
theorem he (P:OI):as=(pre.heap_1 P).map (·.1):=by kernel_rfl
noncomputable abbrev OS:=openSeen view ob (importedModules PySem.Challenge.rw_stonelay_k92_whole_thoughts_on_great_boa.row.prog.main.body) (λs=>xlAt view [] s&&recOk (OL PySem.Challenge.rw_stonelay_k92_whole_thoughts_on_great_boa.row.toRowW) s) true
set_option maxRecDepth 100000
set_option maxHeartbeats 0
theorem sa (w:W2):(T8 UC PySem.Challenge.rw_stonelay_k92_whole_thoughts_on_great_boa.row.prog w 4390).map (λs=>(OS s,decide (0<=s.toks)))=some (openGood view ob,true):=by kernel_rfl
theorem h0 (w:W2):(T8 UC PySem.Challenge.rw_stonelay_k92_whole_thoughts_on_great_boa.row.prog w 4390).map (λs=>(as.take 95).map s.heap.get?)=some (((pre.heap_1 w.params).take 95).map λp=>some p.2):=by kernel_rfl
theorem h1 (w:W2):(T8 UC PySem.Challenge.rw_stonelay_k92_whole_thoughts_on_great_boa.row.prog w 4390).map (λs=>((as.drop 95).take 95).map s.heap.get?)=some ((((pre.heap_1 w.params).drop 95).take 95).map λp=>some p.2):=by kernel_rfl
theorem h2 (w:W2):(T8 UC PySem.Challenge.rw_stonelay_k92_whole_thoughts_on_great_boa.row.prog w 4390).map (λs=>((as.drop 95).drop 95).map s.heap.get?)=some ((((pre.heap_1 w.params).drop 95).drop 95).map λp=>some p.2):=by kernel_rfl
theorem lift {w:W2}{α:Type}{Y:X7->α}{y:α}(h:(T8 UC PySem.Challenge.rw_stonelay_k92_whole_thoughts_on_great_boa.row.prog w 4390).map Y=some y):(T8 UC PySem.Challenge.rw_stonelay_k92_whole_thoughts_on_great_boa.row.prog w 4390).map (λs=>(OS s,Y s))=some (openGood view ob,y):=by
 have a:=sa w;generalize T8 UC PySem.Challenge.rw_stonelay_k92_whole_thoughts_on_great_boa.row.prog w 4390=E at a h ⊢;cases E with
 | none=>cases a
 | some s =>
  have a:=Option.some.inj a;have h:=Option.some.inj h;exact congrArg some (Oz (congrArg (·.1) a) h)
theorem hk (w:W2):(T8 UC PySem.Challenge.rw_stonelay_k92_whole_thoughts_on_great_boa.row.prog w 4390).map (λs=>as.map s.heap.get?)=some ((pre.heap_1 w.params).map λp=>some p.2):=(cut (E:=T8 UC PySem.Challenge.rw_stonelay_k92_whole_thoughts_on_great_boa.row.prog w 4390) (as:=as) (K:=(pre.heap_1 w.params)) 95 (h0 w) (cut (E:=T8 UC PySem.Challenge.rw_stonelay_k92_whole_thoughts_on_great_boa.row.prog w 4390) (as:=(as.drop 95)) (K:=((pre.heap_1 w.params).drop 95)) 95 (h1 w) (h2 w)))
theorem lf (w:W2):(T8 UC PySem.Challenge.rw_stonelay_k92_whole_thoughts_on_great_boa.row.prog w 4390).map (λs=>(OS s,ON (kHook pre.heap_1 as he) s))=some (openGood view ob,Hook.val (kHook pre.heap_1 as he) w):=lift (Y:=ON (kHook pre.heap_1 as he)) (y:=Hook.val (kHook pre.heap_1 as he) w) (hook (K:=pre.heap_1) (as:=as) (e:=he) (E:=T8 UC PySem.Challenge.rw_stonelay_k92_whole_thoughts_on_great_boa.row.prog w 4390) (hk w))
end J2
local macro_rules | `(tactic| o_head $H)=>`(tactic| (refine' J2.zja (loose:=J2.ob) (q:=J2.view) (H:=PySem.W.kHook J2.pre.heap_1 J2.as J2.he) (N:=4390) J2.lf (by rfl) (by rfl) (by rfl) (by rfl) (by first | assumption | decide+kernel) (by decide+kernel) ⟨rfl,rfl,rfl,rfl,rfl,by decide+kernel⟩ ?_ ?_))
open PySem PySem.W PyProof.Rows in
set_option maxRecDepth 100000 in
set_option maxHeartbeats 0 in
theorem J2.look:PySem.Challenge.rw_stonelay_k92_whole_thoughts_on_great_boa.wellSaid=true:=by kernel_rfl
open PySem PySem.W PyProof.Rows in
set_option maxRecDepth 100000 in
set_option maxHeartbeats 0 in
theorem J2.early (h:∀{q:Xh} {XP:(Str->Option X9)->Heap->Prop} {YP:W2->Heap->Prop} {d:DefRec} {K:OI->XS},d.params.defaults=[]->(∀(w:W2) (h:Heap),YP w h->(K w.params).In h)->d.name="law"->(∀w:W2,J2.Facts (K w.params))->O7 q J2.ob XP YP PySem.Challenge.rw_stonelay_k92_whole_thoughts_on_great_boa.row.toRowW d [] (λf vs=>PySem.call f vs)):PySem.Challenge.rw_stonelay_k92_whole_thoughts_on_great_boa.Holds:=by
 w_on;refine holds_law J2.look λsaid=>?_;o_head trivial;w_witness2;k_fill;refine h rfl (λw h Y=>PySem.W.kIn_of Y) rfl λw=>?_;constructor;all_goals first | k_is | exact⟨_,_,_,_,_,_,_,_,_,_,by k_is,by k_is,by k_is,by k_is⟩ | exact⟨_,by k_is⟩ | exact⟨_,by k_is,by k_exc⟩ | exact⟨_,by k_is,by k_exc,by first | k_is | kit_is⟩
noncomputable section
section
variable{α β γ δ ε ζ η θ ι κ μ ν ξ:Sort _}
theorem cG {p q:α->Prop}{a}(h:p a)(A:q a):∃a,p a/\q a:=⟨_,h,A⟩
theorem cH {p q r:Prop}(h:p)(A:q)(B:r):p/\q/\r:=⟨h,A,B⟩
theorem cI {p:α->β->Prop}{a b}(h:p a b):∃a,∃b,p a b:=⟨_,_,h⟩
theorem cJ {p q r s:Prop}(h:p)(A:q)(B:r)(C:s):p/\q/\r/\s:=⟨h,A,B,C⟩
theorem cK {p q r:α->Prop}(a:α)(h:p a)(A:q a)(B:r a):∃a,p a/\q a/\r a:=⟨a,h,A,B⟩
theorem cL {p:α->β->γ->δ->Prop}(a:α)(b:β)(c:γ)(d:δ)(h:p a b c d):∃a,∃b,∃c,∃d,p a b c d:=⟨a,b,c,d,h⟩
theorem cM {p q r s t:α->Prop}(a:α)(h:p a)(A:q a)(B:r a)(C:s a)(D:t a):∃a,p a/\q a/\r a/\s a/\t a:=⟨a,h,A,B,C,D⟩
theorem cN {p:α->β->Prop}(a:α)(b:β)(h:p a b):∃a,∃b,p a b:=⟨a,b,h⟩
theorem cO {p q r s:α->β->Prop}(a:α)(b:β)(h:p a b)(A:q a b)(B:r a b)(C:s a b):∃a,∃b,p a b/\q a b/\r a b/\s a b:=⟨a,b,h,A,B,C⟩
theorem cQ {p q r s t u:Prop}(h:p)(A:q)(B:r)(C:s)(D:t)(E:u):p/\q/\r/\s/\t/\u:=⟨h,A,B,C,D,E⟩
theorem cS {p:α->Prop}{q r:α->β->Prop}{a b}(h:p a)(A:q a b)(B:r a b):∃a,p a/\∃b,q a b/\r a b:=⟨_,h,_,A,B⟩
theorem cT {p q r:α->β->Prop}{a b}(h:p a b)(A:q a b)(B:r a b):∃a,∃b,p a b/\q a b/\r a b:=⟨_,_,h,A,B⟩
theorem cU {p q r s t:α->β->Prop}(a:α)(b:β)(h:p a b)(A:q a b)(B:r a b)(C:s a b)(D:t a b):∃a,∃b,p a b/\q a b/\r a b/\s a b/\t a b:=⟨a,b,h,A,B,C,D⟩
theorem cV {p:α->Prop}{q r s t u:α->β->γ->δ->ε->Prop}{a c e}(h:p a)(b:β)(d:δ)(A:q a b c d e)(B:r a b c d e)(C:s a b c d e)(D:t a b c d e)(E:u a b c d e):∃a,p a/\∃b,∃c,∃d,∃e,q a b c d e/\r a b c d e/\s a b c d e/\t a b c d e/\u a b c d e:=⟨_,h,b,_,d,_,A,B,C,D,E⟩
theorem cW {p q:α->Prop}(a:α)(h:p a)(A:q a):∃a,p a/\q a:=⟨a,h,A⟩
theorem cX {p q r s t:Prop}(h:p)(A:q)(B:r)(C:s)(D:t):p/\q/\r/\s/\t:=⟨h,A,B,C,D⟩
theorem cZ {p q r s t u:α->β->Prop}(a:α)(b:β)(h:p a b)(A:q a b)(B:r a b)(C:s a b)(D:t a b)(E:u a b):∃a,∃b,p a b/\q a b/\r a b/\s a b/\t a b/\u a b:=⟨a,b,h,A,B,C,D,E⟩
theorem dg {p q r s t u:α->Prop}(a:α)(h:p a)(A:q a)(B:r a)(C:s a)(D:t a)(E:u a):∃a,p a/\q a/\r a/\s a/\t a/\u a:=⟨a,h,A,B,C,D,E⟩
theorem dh {p:α->β->γ->Prop}{a b c}(h:p a b c):∃a,∃b,∃c,p a b c:=⟨_,_,_,h⟩
theorem di {p q r:α->β->Prop}{s:α->β->γ->δ->Prop}{t u v:α->β->γ->δ->ε->ζ->Prop}{b c d e f}(a:α)(h:p a b)(A:q a b)(B:r a b)(C:s a b c d)(D:t a b c d e f)(E:u a b c d e f)(F:v a b c d e f):∃a,∃b,p a b/\q a b/\r a b/\∃c,∃d,s a b c d/\∃e,∃f,t a b c d e f/\u a b c d e f/\v a b c d e f:=⟨a,_,h,A,B,_,_,C,_,_,D,E,F⟩
theorem dj {p q r:α->Prop}{a}(h:p a)(A:q a)(B:r a):∃a,p a/\q a/\r a:=⟨_,h,A,B⟩
theorem dw {p:α->β->γ->Prop}{c}(a:α)(b:β)(h:p a b c):∃a,∃b,∃c,p a b c:=⟨a,b,_,h⟩
theorem dz {p q r s:α->β->Prop}{a}(b:β)(h:p a b)(A:q a b)(B:r a b)(C:s a b):∃a,∃b,p a b/\q a b/\r a b/\s a b:=⟨_,b,h,A,B,C⟩
theorem dB {p q r s:α->β->Prop}{a b}(h:p a b)(A:q a b)(B:r a b)(C:s a b):∃a,∃b,p a b/\q a b/\r a b/\s a b:=⟨_,_,h,A,B,C⟩
theorem dD {p q r s:α->β->γ->Prop}(a:α)(b:β)(c:γ)(h:p a b c)(A:q a b c)(B:r a b c)(C:s a b c):∃a,∃b,∃c,p a b c/\q a b c/\r a b c/\s a b c:=⟨a,b,c,h,A,B,C⟩
theorem dF {p:α->Prop}{q:α->β->γ->Prop}{a c}(h:p a)(b:β)(A:q a b c):∃a,p a/\∃b,∃c,q a b c:=⟨_,h,b,_,A⟩
theorem dG {p q r s:α->Prop}(a:α)(h:p a)(A:q a)(B:r a)(C:s a):∃a,p a/\q a/\r a/\s a:=⟨a,h,A,B,C⟩
theorem dH {p q r s t:α->β->Prop}{a}(b:β)(h:p a b)(A:q a b)(B:r a b)(C:s a b)(D:t a b):∃a,∃b,p a b/\q a b/\r a b/\s a b/\t a b:=⟨_,b,h,A,B,C,D⟩
theorem dI {p q r s t:α->β->γ->Prop}(a:α)(b:β)(c:γ)(h:p a b c)(A:q a b c)(B:r a b c)(C:s a b c)(D:t a b c):∃a,∃b,∃c,p a b c/\q a b c/\r a b c/\s a b c/\t a b c:=⟨a,b,c,h,A,B,C,D⟩
theorem dJ {p q r s t:α->β->γ->δ->ε->Prop}{a b c d e}(h:p a b c d e)(A:q a b c d e)(B:r a b c d e)(C:s a b c d e)(D:t a b c d e):∃a,∃b,∃c,∃d,∃e,p a b c d e/\q a b c d e/\r a b c d e/\s a b c d e/\t a b c d e:=⟨_,_,_,_,_,h,A,B,C,D⟩
theorem dM {p q r s t:α->β->γ->Prop}{b c}(a:α)(h:p a b c)(A:q a b c)(B:r a b c)(C:s a b c)(D:t a b c):∃a,∃b,∃c,p a b c/\q a b c/\r a b c/\s a b c/\t a b c:=⟨a,_,_,h,A,B,C,D⟩
theorem dN {p:α->β->γ->δ->Prop}{c d}(a:α)(b:β)(h:p a b c d):∃a,∃b,∃c,∃d,p a b c d:=⟨a,b,_,_,h⟩
theorem dO {p q r:α->β->Prop}{b}(a:α)(h:p a b)(A:q a b)(B:r a b):∃a,∃b,p a b/\q a b/\r a b:=⟨a,_,h,A,B⟩
theorem dP {p:α->β->γ->δ->Prop}{a b c d}(h:p a b c d):∃a,∃b,∃c,∃d,p a b c d:=⟨_,_,_,_,h⟩
theorem dQ {p q r s t:α->β->Prop}{a b}(h:p a b)(A:q a b)(B:r a b)(C:s a b)(D:t a b):∃a,∃b,p a b/\q a b/\r a b/\s a b/\t a b:=⟨_,_,h,A,B,C,D⟩
theorem dR {p:α->Prop}{q r s:α->β->γ->Prop}{a b c}(h:p a)(A:q a b c)(B:r a b c)(C:s a b c):∃a,p a/\∃b,∃c,q a b c/\r a b c/\s a b c:=⟨_,h,_,_,A,B,C⟩
theorem dS {p q:α->Prop}{r s:α->β->Prop}{a b}(h:p a)(A:q a)(B:r a b)(C:s a b):∃a,p a/\q a/\∃b,r a b/\s a b:=⟨_,h,A,_,B,C⟩
theorem dU {p:α->β->γ->δ->ε->ζ->η->θ->Prop}(a:α)(b:β)(c:γ)(d:δ)(e:ε)(f:ζ)(g:η)(i:θ)(h:p a b c d e f g i):∃a,∃b,∃c,∃d,∃e,∃f,∃g,∃i,p a b c d e f g i:=⟨a,b,c,d,e,f,g,i,h⟩
theorem dW {p q r s t:α->β->Prop}{b}(a:α)(h:p a b)(A:q a b)(B:r a b)(C:s a b)(D:t a b):∃a,∃b,p a b/\q a b/\r a b/\s a b/\t a b:=⟨a,_,h,A,B,C,D⟩
theorem dX {p q r:Prop}{s:α->β->Prop}{a b}(h:p)(A:q)(B:r)(C:s a b):p/\q/\r/\∃a,∃b,s a b:=⟨h,A,B,_,_,C⟩
theorem dY {p q r s t:α->β->γ->Prop}{a b c}(h:p a b c)(A:q a b c)(B:r a b c)(C:s a b c)(D:t a b c):∃a,∃b,∃c,p a b c/\q a b c/\r a b c/\s a b c/\t a b c:=⟨_,_,_,h,A,B,C,D⟩
theorem dZ {p:α->β->Prop}{b}(a:α)(h:p a b):∃a,∃b,p a b:=⟨a,_,h⟩
theorem d7 {p q r:α->β->Prop}{s t:α->β->γ->δ->Prop}{b c d}(a:α)(h:p a b)(A:q a b)(B:r a b)(C:s a b c d)(D:t a b c d):∃a,∃b,p a b/\q a b/\r a b/\∃c,∃d,s a b c d/\t a b c d:=⟨a,_,h,A,B,_,_,C,D⟩
theorem d8 {p q r s:α->β->Prop}{Z:Prop}(k:∀a,∀b,p a b->q a b->r a b->s a b->Z):(∃a,∃b,p a b/\q a b/\r a b/\s a b)->Z:=λ⟨a,b,h,A,B,C⟩=>k a b h A B C
theorem d9 {p q:α->Prop}{Z:Prop}(k:∀a,p a->q a->Z):(∃a,p a/\q a)->Z:=λ⟨a,h,A⟩=>k a h A
theorem eE {p:α->β->γ->δ->ε->ζ->η->θ->Prop}{Z:Prop}(k:∀a,∀b,∀c,∀d,∀e,∀f,∀g,∀i,p a b c d e f g i->Z):(∃a,∃b,∃c,∃d,∃e,∃f,∃g,∃i,p a b c d e f g i)->Z:=λ⟨a,b,c,d,e,f,g,i,h⟩=>k a b c d e f g i h
theorem eF {p q r:α->β->Prop}{Z:Prop}(k:∀a,∀b,p a b->q a b->r a b->Z):(∃a,∃b,p a b/\q a b/\r a b)->Z:=λ⟨a,b,h,A,B⟩=>k a b h A B
theorem eH {p:α->β->γ->δ->Prop}{Z:Prop}(k:∀a,∀b,∀c,∀d,p a b c d->Z):(∃a,∃b,∃c,∃d,p a b c d)->Z:=λ⟨a,b,c,d,h⟩=>k a b c d h
theorem eK {p q r s t:α->β->Prop}{Z:Prop}(k:∀a,∀b,p a b->q a b->r a b->s a b->t a b->Z):(∃a,∃b,p a b/\q a b/\r a b/\s a b/\t a b)->Z:=λ⟨a,b,h,A,B,C,D⟩=>k a b h A B C D
theorem eN {p q r:Prop}{Z:Prop}(k:p->q->r->Z):(p/\q/\r)->Z:=λ⟨h,A,B⟩=>k h A B
theorem eO {p q:α->β->Prop}{Z:Prop}(k:∀a,∀b,p a b->q a b->Z):(∃a,∃b,p a b/\q a b)->Z:=λ⟨a,b,h,A⟩=>k a b h A
theorem eS {p q r:α->Prop}{Z:Prop}(k:∀a,p a->q a->r a->Z):(∃a,p a/\q a/\r a)->Z:=λ⟨a,h,A,B⟩=>k a h A B
theorem eU {p q r s:α->β->γ->Prop}{Z:Prop}(k:∀a,∀b,∀c,p a b c->q a b c->r a b c->s a b c->Z):(∃a,∃b,∃c,p a b c/\q a b c/\r a b c/\s a b c)->Z:=λ⟨a,b,c,h,A,B,C⟩=>k a b c h A B C
theorem eV {p q:Prop}{Z:Prop}(k:p->q->Z):(p/\q)->Z:=λ⟨h,A⟩=>k h A
theorem eW {p:α->Prop}{q r:α->β->Prop}{Z:Prop}(k:∀a,p a->∀b,q a b->r a b->Z):(∃a,p a/\∃b,q a b/\r a b)->Z:=λ⟨a,h,b,A,B⟩=>k a h b A B
theorem eX {p q r s:α->β->γ->δ->Prop}{Z:Prop}(k:∀a,∀b,∀c,∀d,p a b c d->q a b c d->r a b c d->s a b c d->Z):(∃a,∃b,∃c,∃d,p a b c d/\q a b c d/\r a b c d/\s a b c d)->Z:=λ⟨a,b,c,d,h,A,B,C⟩=>k a b c d h A B C
theorem eY {p q r s t:Prop}{Z:Prop}(k:p->q->r->s->t->Z):(p/\q/\r/\s/\t)->Z:=λ⟨h,A,B,C,D⟩=>k h A B C D
theorem eZ {p q r s:Prop}{Z:Prop}(k:p->q->r->s->Z):(p/\q/\r/\s)->Z:=λ⟨h,A,B,C⟩=>k h A B C
theorem e7 {p q r s t:α->β->γ->Prop}{Z:Prop}(k:∀a,∀b,∀c,p a b c->q a b c->r a b c->s a b c->t a b c->Z):(∃a,∃b,∃c,p a b c/\q a b c/\r a b c/\s a b c/\t a b c)->Z:=λ⟨a,b,c,h,A,B,C,D⟩=>k a b c h A B C D
theorem e8 {p q:Prop}{r s:α->Prop}{Z:Prop}(k:p->q->∀a,r a->s a->Z):(p/\q/\∃a,r a/\s a)->Z:=λ⟨h,A,a,B,C⟩=>k h A a B C
theorem e9 {p q:α->β->γ->δ->Prop}{Z:Prop}(k:∀a,∀b,∀c,∀d,p a b c d->q a b c d->Z):(∃a,∃b,∃c,∃d,p a b c d/\q a b c d)->Z:=λ⟨a,b,c,d,h,A⟩=>k a b c d h A
theorem fh {p q r:α->β->γ->Prop}{Z:Prop}(k:∀a,∀b,∀c,p a b c->q a b c->r a b c->Z):(∃a,∃b,∃c,p a b c/\q a b c/\r a b c)->Z:=λ⟨a,b,c,h,A,B⟩=>k a b c h A B
theorem fj {p q r s t:α->Prop}{Z:Prop}(k:∀a,p a->q a->r a->s a->t a->Z):(∃a,p a/\q a/\r a/\s a/\t a)->Z:=λ⟨a,h,A,B,C,D⟩=>k a h A B C D
theorem fk {p q r s t u:α->β->γ->Prop}{Z:Prop}(k:∀a,∀b,∀c,p a b c->q a b c->r a b c->s a b c->t a b c->u a b c->Z):(∃a,∃b,∃c,p a b c/\q a b c/\r a b c/\s a b c/\t a b c/\u a b c)->Z:=λ⟨a,b,c,h,A,B,C,D,E⟩=>k a b c h A B C D E
theorem fm {p q r s t u:Prop}{Z:Prop}(k:p->q->r->s->t->u->Z):(p/\q/\r/\s/\t/\u)->Z:=λ⟨h,A,B,C,D,E⟩=>k h A B C D E
theorem fq {p q r s t:α->β->γ->δ->Prop}{Z:Prop}(k:∀a,∀b,∀c,∀d,p a b c d->q a b c d->r a b c d->s a b c d->t a b c d->Z):(∃a,∃b,∃c,∃d,p a b c d/\q a b c d/\r a b c d/\s a b c d/\t a b c d)->Z:=λ⟨a,b,c,d,h,A,B,C,D⟩=>k a b c d h A B C D
theorem fu {p q r s t u:α->β->Prop}{Z:Prop}(k:∀a,∀b,p a b->q a b->r a b->s a b->t a b->u a b->Z):(∃a,∃b,p a b/\q a b/\r a b/\s a b/\t a b/\u a b)->Z:=λ⟨a,b,h,A,B,C,D,E⟩=>k a b h A B C D E
theorem fy {p q r s t:α->β->γ->δ->ε->Prop}{Z:Prop}(k:∀a,∀b,∀c,∀d,∀e,p a b c d e->q a b c d e->r a b c d e->s a b c d e->t a b c d e->Z):(∃a,∃b,∃c,∃d,∃e,p a b c d e/\q a b c d e/\r a b c d e/\s a b c d e/\t a b c d e)->Z:=λ⟨a,b,c,d,e,h,A,B,C,D⟩=>k a b c d e h A B C D
theorem fz {p q r s t u:α->β->γ->δ->Prop}{Z:Prop}(k:∀a,∀b,∀c,∀d,p a b c d->q a b c d->r a b c d->s a b c d->t a b c d->u a b c d->Z):(∃a,∃b,∃c,∃d,p a b c d/\q a b c d/\r a b c d/\s a b c d/\t a b c d/\u a b c d)->Z:=λ⟨a,b,c,d,h,A,B,C,D,E⟩=>k a b c d h A B C D E
theorem fB {p q:α->β->γ->Prop}{Z:Prop}(k:∀a,∀b,∀c,p a b c->q a b c->Z):(∃a,∃b,∃c,p a b c/\q a b c)->Z:=λ⟨a,b,c,h,A⟩=>k a b c h A
theorem fC {p q:α->β->γ->δ->ε->ζ->η->Prop}{Z:Prop}(k:∀a,∀b,∀c,∀d,∀e,∀f,∀g,p a b c d e f g->q a b c d e f g->Z):(∃a,∃b,∃c,∃d,∃e,∃f,∃g,p a b c d e f g/\q a b c d e f g)->Z:=λ⟨a,b,c,d,e,f,g,h,A⟩=>k a b c d e f g h A
theorem fD {p q:Prop}{r:α->Prop}{s t:α->β->γ->δ->Prop}{Z:Prop}(k:p->q->∀a,r a->∀b,∀c,∀d,s a b c d->t a b c d->Z):(p/\q/\∃a,r a/\∃b,∃c,∃d,s a b c d/\t a b c d)->Z:=λ⟨h,A,a,B,b,c,d,C,D⟩=>k h A a B b c d C D
theorem fE {p:Prop}{q r s:α->β->Prop}{Z:Prop}(k:p->∀a,∀b,q a b->r a b->s a b->Z):(p/\∃a,∃b,q a b/\r a b/\s a b)->Z:=λ⟨h,a,b,A,B,C⟩=>k h a b A B C
theorem fF {p:Prop}{q r s t u:α->β->Prop}{Z:Prop}(k:p->∀a,∀b,q a b->r a b->s a b->t a b->u a b->Z):(p/\∃a,∃b,q a b/\r a b/\s a b/\t a b/\u a b)->Z:=λ⟨h,a,b,A,B,C,D,E⟩=>k h a b A B C D E
theorem fG {p q r s t:α->β->γ->δ->ε->ζ->η->Prop}{Z:Prop}(k:∀a,∀b,∀c,∀d,∀e,∀f,∀g,p a b c d e f g->q a b c d e f g->r a b c d e f g->s a b c d e f g->t a b c d e f g->Z):(∃a,∃b,∃c,∃d,∃e,∃f,∃g,p a b c d e f g/\q a b c d e f g/\r a b c d e f g/\s a b c d e f g/\t a b c d e f g)->Z:=λ⟨a,b,c,d,e,f,g,h,A,B,C,D⟩=>k a b c d e f g h A B C D
theorem fH {p:α->Prop}{q r s t:α->β->γ->δ->Prop}{Z:Prop}(k:∀a,p a->∀b,∀c,∀d,q a b c d->r a b c d->s a b c d->t a b c d->Z):(∃a,p a/\∃b,∃c,∃d,q a b c d/\r a b c d/\s a b c d/\t a b c d)->Z:=λ⟨a,h,b,c,d,A,B,C,D⟩=>k a h b c d A B C D
theorem fJ {p q r s t u:α->β->γ->δ->ε->Prop}{Z:Prop}(k:∀a,∀b,∀c,∀d,∀e,p a b c d e->q a b c d e->r a b c d e->s a b c d e->t a b c d e->u a b c d e->Z):(∃a,∃b,∃c,∃d,∃e,p a b c d e/\q a b c d e/\r a b c d e/\s a b c d e/\t a b c d e/\u a b c d e)->Z:=λ⟨a,b,c,d,e,h,A,B,C,D,E⟩=>k a b c d e h A B C D E
theorem fK {p q r s:α->Prop}{Z:Prop}(k:∀a,p a->q a->r a->s a->Z):(∃a,p a/\q a/\r a/\s a)->Z:=λ⟨a,h,A,B,C⟩=>k a h A B C
theorem fL {p q:α->β->γ->δ->ε->ζ->η->θ->ι->Prop}{Z:Prop}(k:∀a,∀b,∀c,∀d,∀e,∀f,∀g,∀i,∀j,p a b c d e f g i j->q a b c d e f g i j->Z):(∃a,∃b,∃c,∃d,∃e,∃f,∃g,∃i,∃j,p a b c d e f g i j/\q a b c d e f g i j)->Z:=λ⟨a,b,c,d,e,f,g,i,j,h,A⟩=>k a b c d e f g i j h A
theorem fM {p:α->Prop}{Z:Prop}(k:∀a,p a->Z):(∃a,p a)->Z:=λ⟨a,h⟩=>k a h
theorem fN {p:α->β->Prop}{Z:Prop}(k:∀a,∀b,p a b->Z):(∃a,∃b,p a b)->Z:=λ⟨a,b,h⟩=>k a b h
end
abbrev AD:=List PySem.Str
abbrev  AA:=Nat×Nat
abbrev AB:=List AA
namespace L2
open PySem PySem.Spec PyProof.Rows
abbrev Key:=Sum Int Str
def zdx:Key->X9->Bool
 | .inl k,v=>Value.isInt k v
 | .inr x,v=>Value.isStrOf x v
def zo2 (w:W2):Key->Int
 | .inl k=>hashInt k
 | .inr x=>hashStr w x
theorem jn:∀{k:Key} {v:X9},zdx k v=true->(∃i t,k=Pi i/\v=Vm i t)\/(∃x t,k=Ph x/\v=Value.str x t)
 | .inl i,v,h=>by
  obtain⟨t,e⟩:=Value.isInt_shape (k:=i) (v:=v) h;exact .inl ⟨i,t,rfl,e⟩
 | .inr x,v,h=>by
  obtain⟨t,e⟩:=Value.isStrOf_shape (x:=x) (v:=v) h;exact .inr ⟨x,t,rfl,e⟩
def zaZ (i:Int)(t:Tok):zdx (.inl i) (.int i t)=true:=by simp[zdx,Value.isInt]
def zjb (x:Str)(t:Tok):zdx (.inr x) (.str x t)=true:=by simp[zdx,Value.isStrOf]
def zo3 (a b:Int):decide ((Pi a:Key)=Pi b)=(a==b):=by
 by_cases e:a=b
 .subst e;simp
 .have h:¬ (Pi a:Key)=Pi b:=λq=>e (Sum.inl.inj q);rw[bf h];exact(beq_eq_false_iff_ne.mpr e).symm
def zo4 (a b:Str):decide ((Ph a:Key)=Ph b)=decide (a=b):=by
 by_cases e:a=b
 .subst e;simp
 .have h:¬ (Ph a:Key)=Ph b:=λq=>e (Sum.inr.inj q);rw[bf h,bf e]
def zo5 (a:Int)(b:Str):decide ((Pi a:Key)=Ph b)=false:=bf (λq=>nomatch q)
def zo6 (a:Str)(b:Int):decide ((Ph a:Key)=Pi b)=false:=bf (λq=>nomatch q)
def zZ (prog:Xh)(w:W2):PySem.KeyKind prog w Key where
 is:=zdx
 hash:=zo2 w
 inj:=λv a b ha hb=>by
  rcases jn ha with ⟨i,t,rfl,rfl⟩ | ⟨x,t,rfl,rfl⟩
  .rcases jn hb with ⟨j,u,rfl,e⟩ | ⟨y,u,rfl,e⟩
   .injection e with e1 _;rw[e1]
   .exact nomatch e
  .rcases jn hb with ⟨j,u,rfl,e⟩ | ⟨y,u,rfl,e⟩
   .exact nomatch e
   .injection e with e1 _;rw[e1]
 byValue:=λk v h=>by
  rcases jn h with ⟨i,t,rfl,rfl⟩ | ⟨x,t,rfl,rfl⟩<;>rfl
 pyHash:=λhv h=>by
  rcases jn hv with ⟨i,t,rfl,rfl⟩ | ⟨x,t,rfl,rfl⟩
  .exact wpAny_pyHash_int h
  .exact wpAny_pyHash_str h
 eqBool:=λhu hv h=>by
  rcases jn hu with ⟨i,t,rfl,rfl⟩ | ⟨x,t,rfl,rfl⟩
  .rcases jn hv with ⟨j,u,rfl,rfl⟩ | ⟨y,u,rfl,rfl⟩
   .rw[zo3]at h;exact wpAny_eqBool_int h
   .rw[zo5]at h;exact SeqAt.EqAt.int_str i t y u _ _ _ _ h
  .rcases jn hv with ⟨j,u,rfl,rfl⟩ | ⟨y,u,rfl,rfl⟩
   .rw[zo6]at h;exact SeqAt.EqAt.str_int x t j u _ _ _ _ h
   .rw[zo4]at h;exact wpAny_eqBool_str h
 «strs»:=λk x t v h=>by
  rcases jn h with ⟨i,u,rfl,e⟩ | ⟨y,u,rfl,e⟩
  .exact nomatch e
  .injection e with e1 _
   subst e1;cases v<;>rfl
def zfc (prog:Xh)(w:W2)(i:Int)(t:Tok):(zZ prog w).is (.inl i) (.int i t)=true:=zaZ i t
def zfd (prog:Xh)(w:W2)(x:Str)(t:Tok):(zZ prog w).is (.inr x) (.str x t)=true:=zjb x t
inductive V where
 | non | bl (b:Bool) | int (i:Int) | str (x:Str) | byt (b:Array UInt8) | flt (b:UInt64) | ref (a:Addr) | ty (n:String)
 deriving DecidableEq
abbrev AE:=List V
def RelV:V->X9->Prop
 | .non,u=>u=T4
 | .bl b,u=>u=Value.bool b
 | .int i,u=>∃t,u=Vm i t
 | .str x,u=>∃t,u=Value.str x t
 | .byt b,u=>∃t,u=Value.bytes b t
 | .flt b,u=>∃t,u=Value.float b t
 | .ref a,u=>u=WA a
 | .ty n,u=>u=Value.type n
abbrev Vals:AE->List X9->Prop:=Xy RelV
theorem Vals.length {xs:AE}{a:List X9}(r:Vals xs a):xs.length=a.length:=Paired.length r
theorem Vals.get:∀{xs:AE} {a:List X9} {i:Nat} {x:V},Vals xs a->xs[i]?=some x->∃u,a[i]?=some u/\RelV x u
 | _,_,_,_,.nil,e=>by simp at e
 | _,_,0,_,.cons r _,e=>by simp at e;subst e;exact⟨_,rfl,r⟩
 | _,_,i+1,x,.cons _ t,e=>by
  obtain⟨u,h1,h2⟩:=Vals.get (i:=i) (x:=x) t (by simpa using e);exact⟨u,by simpa using h1,h2⟩
theorem Vals.set {x:V}{u:X9}(r:RelV x u):∀{xs:AE} {a:List X9} (i:Nat),Vals xs a->Vals (xs.set i x) (a.set i u)
 | _,_,_,.nil=>.nil
 | _,_,0,.cons _ t=>.cons r t
 | _,_,i+1,.cons q t=>.cons q (Vals.set r i t)
theorem Vals.append:∀{xs ys:AE} {a b:List X9},Vals xs a->Vals ys b->Vals (xs++ys) (a++b)
 | _,_,_,_,.nil,s=>s
 | _,_,_,_,.cons r t,s=>.cons r (Vals.append t s)
theorem Vals.take:∀{xs:AE} {a:List X9} (n:Nat),Vals xs a->Vals (xs.take n) (a.take n)
 | _,_,0,_=>.nil
 | _,_,_+1,.nil=>.nil
 | _,_,n+1,.cons r t=>.cons r (Vals.take n t)
theorem Vals.drop:∀{xs:AE} {a:List X9} (n:Nat),Vals xs a->Vals (xs.drop n) (a.drop n)
 | _,_,0,r=>r
 | _,_,_+1,.nil=>.nil
 | _,_,n+1,.cons _ t=>Vals.drop n t
def zfe:Option V->Option X9->Prop
 | some v,some u=>RelV v u
 | none,none=>True
 | _,_=>False
def KV {a:Type}:List (a × V)->List (a × X9)->Prop:=Xy λ(p:a × V) (q:a × X9)=>p.1=q.1/\RelV p.2 q.2
def kV:Key->V
 | .inl i=>.int i
 | .inr x=>.str x
inductive HO where
  | lst (xs:AE)
  | tup (xs:AE)
  | dK (kvs:List (Key×V)) | dT (kvs:List (List Key×V))
  | set (S:Int->Bool) (n:Nat)
  | ins (C dx:Addr) (fs:List (Str×V))
  | own (x:Addr)
  | xd (fs:List (Str×V))
  | met (f x:Addr)
  | rng (lo hi:Int)
  | frz (o:Obj) (u:HO)
  | tbl (ps:Array X9)
  | ext (φ:Heap->Prop)
abbrev Hp:=Addr->Option HO
def upd (H:Hp)(a:Addr)(o:HO):Hp:=λb=>if b=a then some o else H b
def zb {H:Hp}{a:Addr}{o:HO}:upd H a o a=some o:=by unfold upd;rw[bw rfl]
def zj {H:Hp}{a b:Addr}{o:HO}(h:b≠a):upd H a o b=H b:=by unfold upd;rw[bq h]
def zdy {H:Hp}{a b:Addr}{o u:HO}(h:H a=some o)(h':H b=some u)(d:o≠u):a≠b:=by
 intro e;subst e;rw[h]at h';exact d (Option.some.inj h')
def zh {H:Hp}{a b:Addr}{o:HO}(h:H a=some o)(h':H b=none):a≠b:=by
 intro e;subst e;rw[h]at h';cases h'
section
variable (P:Xh)(w:W2)
def jy (H:Hp)(h:Heap)(a:Addr):HO->Prop
 | .lst xs=>xs.length<=Xv/\∃(b:List X9) (n:Nat),Vals xs b/\h.get? a=some { cls:=.type "list",data:=.seq b.toArray n }
 | .tup xs=>xs.length<=Xv/\∃b:List X9,Vals xs b/\OC h a b.toArray
 | .dK c=>c.length<=Xv/\(a==Vl)=false/\∃j,KV c j/\h.DictOf (zZ P w) a j
 | .dT c=>c.length<=Xv/\(a==Vl)=false/\∃xs:List (List Key×Addr×X9),
   Xy (λ(p:List Key×V) (q:List Key×Addr×X9)=>p.1=q.1/\H q.2.1=some (.tup (p.1.map kV))/\RelV p.2 q.2.2) c xs /\
   ∃o i l,h.get? a=some o/\o.ExactDict/\o.data=.dict i l/\i.toList=xs.map (Tp (VR (zZ P w)))/\(xs.map (·.1)).Nodup
 | .set S n=>h.SetOf (intKind P w) a S n
 | .ins C e fs=>H e=some (.own a)/\fs.length<=1000/\e≠a/\h.get? a=some (PySem.W.instObj C e) /\
   ∃d,h.Ns1 e d/\(∀f,zfe (fs.lookup f) (d f))/\PySem.Within d (fs.map (·.1))
 | .own _=>∃o,h.get? a=some o
 | .xd fs=>∃d,h.Ns1 a d/\∀f,zfe (fs.lookup f) (d f)
 | .rng lo m=>∃t u v,h.get? a=some { cls:=.type "range",data:=.fields #[.int lo t,.int m u,.int 1 v] }
 | .frz o u=>h.get? a=some o/\jy H h a u
 | .tbl r=>h.get? a=some { cls:=.none,data:=.fields r }
 | .met f x=>h.get? a=some (RO (.ref f) (.ref x))
 | .ext g=>g h/\(∃o,h.get? a=some o)/\∀h1 h2:Heap,g h1->(∀o,h1.get? a=some o->h2.get? a=some o)->g h2
def HOk (H:Hp)(h:Heap):Prop:=∀a o,H a=some o->jy P w H h a o
end
section
variable {P:Xh}{w:W2}{H H':Hp}{h h':Heap}{a:Addr}{o:HO}
theorem jy.lt (x:jy P w H h a o):a<h.objs.size:=by
 cases o with
 | lst c=>obtain⟨_,_,_,_,e⟩:=x;exact Xz e
 | tup c=>obtain⟨_,_,_,p⟩:=x;exact p.lt
 | dK b=>revert x;refine fD λ_ _ _ _ o _ _ e _=>?_;exact Xz e
 | dT b=>revert x;refine fD λ_ _ _ _ o _ _ e _=>?_;exact Xz e
 | set S n=>revert x;refine e9 λo _ _ _ e _=>?_;exact Xz e
 | ins C d fs=>obtain⟨_,_,_,e,_⟩:=x;exact Xz e
 | own y=>obtain⟨_,e⟩:=x;exact Xz e
 | xd fs=>obtain⟨_,⟨_,_,_,e,_⟩,_⟩:=x;exact Xz e
 | rng lo g=>obtain⟨_,_,_,e⟩:=x;exact Xz e
 | frz ob u=>obtain⟨e,_⟩:=x;exact Xz e
 | tbl i=>exact Xz (show h.get? a=some _ from x)
 | met f y=>exact Xz (show h.get? a=some _ from x)
 | ext j=>obtain⟨_,⟨_,e⟩,_⟩:=x;exact Xz e
theorem Paired.mapP {α e:Type}{F G:α->e->Prop}:∀{c:List α} {d:List e},Xy F c d->(∀a b,F a b->G a b)->Xy G c d
 | _,_,.nil,_=>.nil
 | _,_,.cons r t,f=>.cons (f _ _ r) (Paired.mapP t f)
def Paired.imp' {α e:Type}{F G:α->e->Prop}(f:∀a b,F a b->G a b){c:List α}{d:List e}(r:Xy F c d):Xy G c d:=Paired.mapP r f
def jy.stay (x:jy P w H h a o)(k:∀b u,(b=a\/H b=some (.own a))->h.get? b=some u->h'.get? b=some u)
  (D:∀b,H b=some (.own a)->H' b=some (.own a)) (E:∀b xs,H b=some (.tup xs)->H' b=some (.tup xs)):jy P w H' h' a o:=by
 induction o with
 | lst xs=>obtain⟨z,j,n,r,e⟩:=x;exact⟨z,j,n,r,k _ _ (.inl rfl) e⟩
 | tup xs=>obtain⟨z,j,r,ob,e,c⟩:=x;exact⟨z,j,r,ob,k _ _ (.inl rfl) e,c⟩
 | dK l=>revert x;refine fD λz y J r ob i g e c=>?_;exact cH z y (cW J r (cN ob i (cW g (k _ _ (.inl rfl) e) c)))
 | dT l =>
  revert x;refine fD λz y xs r ob i g e c=>?_;exact cH z y (cW xs (Paired.mapP r λp q z=>⟨z.1,E _ _ z.2.1,z.2.2⟩) (cN ob i (cW g (k _ _ (.inl rfl) e) c)))
 | set S n=>revert x;refine e9 λob i g t e c=>?_;exact cL ob i g t ⟨k _ _ (.inl rfl) e,c⟩
 | ins C L fs =>
  obtain⟨d,z,I,e,m,⟨s,i,g,B,c⟩,r⟩:=x;exact cX (D _ d) z I (k _ _ (.inl rfl) e) (cW m ⟨s,i,g,k _ _ (.inr d) B,c⟩ r)
 | own y=>obtain⟨ob,e⟩:=x;exact⟨ob,k _ _ (.inl rfl) e⟩
 | xd fs=>obtain⟨m,⟨s,i,g,e,c⟩,r⟩:=x;exact⟨m,⟨s,i,g,k _ _ (.inl rfl) e,c⟩,r⟩
 | rng lo M=>obtain⟨t,u,v,e⟩:=x;exact⟨t,u,v,k _ _ (.inl rfl) e⟩
 | frz ob u G=>obtain⟨e,q⟩:=x;exact⟨k _ _ (.inl rfl) e,G q⟩
 | tbl A =>
  have e:h.get? a=some { cls:=.none,data:=.fields A }:=x;show h'.get? a=some { cls:=.none,data:=.fields A };exact k a _ (.inl rfl) e
 | met f y =>
  have e:h.get? a=some (RO (.ref f) (.ref y)):=x;show h'.get? a=some (RO (.ref f) (.ref y));exact k a _ (.inl rfl) e
 | ext N=>obtain⟨p,⟨o,e⟩,st⟩:=x;exact⟨st _ _ p λo q=>k _ _ (.inl rfl) q,⟨o,k _ _ (.inl rfl) e⟩,st⟩
theorem HOk.lt (x:HOk P w H h)(e:H a=some o):a<h.objs.size:=(x a o e).lt
def HOk.fresh (x:HOk P w H h)(e:h.objs.size<=a):H a=none:=by
 cases q:H a with
 | none=>rfl
 | some u=>exact absurd (Xi (x.lt q) e) (VG _)
def HOk.kept (x:HOk P w H h)(k:∀b u,h.get? b=some u->h'.get? b=some u):HOk P w H h':=λa o e =>
 (x a o e).stay (λb u _ q=>k b u q) (λ_ q=>q) λ_ _ q=>q
def HOk.laid (x:HOk P w H h)(k:∀b u,h.get? b=some u->h'.get? b=some u)(i:h.objs.size<=a)(d:jy P w (upd H a o) h' a o):HOk P w (upd H a o) h':=λb u e=>by
 have g:=x.fresh i;by_cases f:b=a
 .subst f;rw[zb]at e;cases e;exact d
 .rw[zj f]at e;exact(x b u e).stay (λc v _ q=>k c v q) (λc q=>by rw[zj (zh q g)];exact q) λc j q=>by rw[zj (zh q g)];exact q
end
def Rd (H:Hp)(a:Addr)(u:HO):Prop:=H a=some u\/∃o,H a=some (.frz o u)
def Rd.ok {P:Xh}{w:W2}{H:Hp}{h:Heap}{a:Addr}{u:HO}(r:Rd H a u)(x:HOk P w H h):jy P w H h a u:=by
 rcases r with r | ⟨o,r⟩
 .exact x a u r
 .obtain⟨_,q⟩:=x a _ r;exact q
def Mut:Option HO->Prop
 | some (.lst _)=>True
 | some (.dK _)=>True
 | some (.dT _)=>True
 | some (.set _ _)=>True
 | some (.ins _ _ _)=>True
 | some (.ext _)=>True
 | _=>False
section
variable {P:Xh}{w:W2}{H:Hp}{h h':Heap}{x e:Addr}{o':HO}
def HOk.write (ok:HOk P w H h)(i:Mut (H x))(he:e=x\/H e=some (.own x))(k:∀b u,b≠e->h.get? b=some u->h'.get? b=some u)(l:∃u,h'.get? e=some u)
  (m:jy P w (upd H x o') h' x o'):HOk P w (upd H x o') h':=λb u q=>by
 have d:∀c y,H c=some (.own y)->c≠x:=λc y r z=>by subst z;rw[r]at i;exact i
 have f:∀c j,H c=some (.tup j)->c≠x:=λc j r z=>by subst z;rw[r]at i;exact i
 by_cases g:b=x
 .subst g;rw[zb]at q;cases q;exact m
 .rw[zj g]at q;by_cases a:b=e
  .have n:H b=some (.own x):=by
    rcases he with z | z
    .exact absurd (a.trans z) g
    .rw[a];exact z
   rw[q]at n;cases n;obtain⟨v,o⟩:=l;exact⟨v,by rw[a];exact o⟩
  .refine(ok b u q).stay (λc v hc r=>k c v ?_ r) (λc r=>by rw[zj (d c b r)];exact r) λc j r=>by rw[zj (f c j r)];exact r
   rcases hc with rfl | hc
   .exact a
   .rintro rfl;rcases he with z | z
    .exact d c b hc z
    .rw[hc]at z;cases z;exact g rfl
end
structure Un (fs ex:List Addr)(H H':Hp)(h h':Heap):Prop where
 keep:∀b o,h.get? b=some o->H b=none->b ∉ fs->b ∉ ex->h'.get? b=some o
 slot:∀b o,h.get? b=some o->H b=none->b∈fs->b ∉ ex->∃sl,h'.get? b=some { o with slots:=sl }
 free:∀b o,h.get? b=some o->H b=none->b ∉ ex->H' b=none
 there:∀b o,h.get? b=some o->b ∉ ex->∃o',h'.get? b=some o'
 tups:∀b xs,H b=some (.tup xs)->H' b=some (.tup xs)
 frzs:∀b o u,H b=some (.frz o u)->H' b=some (.frz o u)
 tbls:∀b ps,H b=some (.tbl ps)->∃more,H' b=some (.tbl (ps++more))
section
variable {fs fs' ex ex':List Addr}{H H1 H2:Hp}{h h1 h2 h':Heap}{a x e:Addr}{o:HO}
def Un.any (u:Un fs ex H H1 h h1){b:Addr}{ob:Obj}(q:h.get? b=some ob)(n:H b=none)(c:b ∉ ex):∃d,h1.get? b=some { ob with slots:=d }:=by
 by_cases a:b∈fs
 .exact u.slot b ob q n a c
 .exact⟨ob.slots,u.keep b ob q n a c⟩
def Un.kept (k:∀b u,h.get? b=some u->h'.get? b=some u):Un fs ex H H h h' :=
 ⟨λb ob q _ _ _=>k b ob q,λb ob q _ _ _=>⟨ob.slots,k b ob q⟩,λ_ _ _ n _=>n,λb ob q _=>⟨ob,k b ob q⟩,λ_ _ q=>q,λ_ _ _ q=>q,λ_ a q=>⟨#[],by rw[q];simp⟩⟩
def Un.refl:Un fs ex H H h h:=Un.kept λ_ _ q=>q
def Un.laid (k:∀b u,h.get? b=some u->h'.get? b=some u)(hp:h.objs.size<=a)(hn:H a=none):Un fs ex H (upd H a o) h h' where
 keep:=λb u q _ _ _=>k b u q
 slot:=λb u q _ _ _=>⟨u.slots,k b u q⟩
 free:=λb u q n _=>by rw[zj (Xf (Xi (Xz q) hp))];exact n
 there:=λb u q _=>⟨u,k b u q⟩
 tups:=λb xs q=>by rw[zj (zh q hn)];exact q
 frzs:=λb u xs q=>by rw[zj (zh q hn)];exact q
 tbls:=λb ps q=>⟨#[],by rw[zj (zh q hn),q];simp⟩
def Un.write (c:Mut (H x))(he:e=x\/H e=some (.own x))(k:∀b u,b≠e->h.get? b=some u->h'.get? b=some u)(d:∃u,h'.get? e=some u):Un fs ex H (upd H x o) h h':=by
 have i:∀b,H b=none->b≠x:=λb n z=>by subst z;rw[n]at c;exact c
 have g:∀b,H b=none->b≠e:=λb n z=>by
  subst z;rcases he with r | r
  .exact i b n r
  .rw[n]at r;cases r
 have f:∀b u,H b=some u->¬ Mut (some u)->b≠x:=λb u q j z=>by subst z;rw[q]at c;exact j c
 refine⟨λb u q n _ _=>k b u (g b n) q,λb u q n _ _=>⟨u.slots,k b u (g b n) q⟩,λb u q n _=>by rw[zj (i b n)];exact n,λb u q _=>?_,λb l q=>by rw[zj (f b _ q λz=>z)];exact q,λb u l q=>by rw[zj (f b _ q λz=>z)];exact q,λb m q=>⟨#[],by rw[zj (f b _ q λz=>z),q];simp⟩⟩
 by_cases a:b=e
 .subst a;exact d
 .exact⟨u,k b u a q⟩
end
def trk (h:Heap)(H:Hp):List Addr:=(WC h.objs.size).filter λa=>(H a).isSome
def zep (h:Heap)(H:Hp):Heap:=PySem.W.hideAll h (trk h H)
def zjc (h:Heap)(H:Hp):(zep h H).objs.size=h.objs.size:=PySem.W.hideAll_size _ _
def zku {h:Heap}{H:Hp}{b:Addr}{o:Obj}(e:h.get? b=some o)(n:H b=none):(zep h H).get? b=some o :=
 TH _ e λa=>by
  have q:(H b).isSome=true:=(X5.mp a).2;rw[n]at q;simp at q
def zmO {h:Heap}{H:Hp}{b:Addr}{o:Obj}(e:(zep h H).get? b=some o):h.get? b=some o/\H b=none:=by
 have a:h.get? b=some o:=PySem.W.of_hideAll (trk h H) e;refine⟨a,?_⟩;cases q:H b with
 | none=>rfl
 | some x =>
  have c:b∈trk h H:=X5.mpr ⟨Ww.mpr (Xz a),by simp[q]⟩;have z:(zep h H).get? b=none:=PySem.W.hideAll_none (trk h H) c;rw[z]at e;cases e
structure Mod (K:XS)(mg:Str->Option X9)(base:Heap):Prop where
 kin:K.In base
 glob:base.Ns Xx mg
 blt:∃mb,base.Ns OY mb/\∀x:Str,x ≠ "__name__"->mb x=Uv x
 nolimit:base.NoLimit
structure Cx where
 prog:Xh
 w:W2
 K:XS
 mg:Str->Option X9
 base:Heap
 A:WO
 N:AD
 s₀:X7
 H₀:Hp
 env:Env
 outer:List Env
 stack:List Env
 ex:List Addr
 fn:Str->Bool
 calm:Bool
 pn:List (Addr×Obj)
 xe:X9->X7->Prop
def frs (l:List Env):List Addr:=l.filterMap (·.frame)
abbrev Cx.fs (X:Cx):List Addr:=frs X.outer
def Vis (a:UE)(x:Str):Prop:=a.names.lookup x=some .local\/a.names.lookup x=some .cell\/a.names.lookup x=some .free
def Loc (a:UE)(x:Str):Prop:=a.names.lookup x=some .local\/a.names.lookup x=some .cell
def Look (a:Env)(h:Heap)(m:Str->Option X9)(x:Str)(u:X9):Prop :=
 (a.kindOf x=some .local/\m x=some u)\/((a.kindOf x=some .cell\/a.kindOf x=some .free)/\∃c,a.cells.lookup x=some c/\h.IsCell c (some u))
structure Cx.Ok (X:Cx):Prop where
 mod:Mod X.K X.mg X.base
 kind:X.env.scope.kind=.function
 glob:X.env.globals=Xx
 blt:X.env.builtins=OY
 above:X.s₀.heap.objs.size<=X.env.locals
 inj:∀x y c,X.env.cells.lookup x=some c->X.env.cells.lookup y=some c->x=y
 has:∀x,(X.env.kindOf x=some .cell\/X.env.kindOf x=some .free)->∃c,X.env.cells.lookup x=some c
 cab:∀x c,X.fn x=true->X.env.cells.lookup x=some c->X.s₀.heap.objs.size<=c
 hd:X.calm=true->X.A.handled=none
 frames:X.A.frames=some X.stack
 stk:X.stack=X.outer\/(X.stack=X.env::X.outer/\X.env.frame=some X.env.locals)
 exf:∀b∈X.ex,b≠X.env.locals/\∀x c,X.env.cells.lookup x=some c->c≠b
 bs:∀b o,X.base.get? b=some o->X.s₀.heap.get? b=some o/\X.H₀ b=none
 bsz:X.base.objs.size<=X.s₀.heap.objs.size
 noex:∀b o,X.base.get? b=some o->b ∉ X.ex
 exfs:∀b∈X.ex,b ∉ X.fs
 funs:X.s₀.heap.FunFrames X.base X.outer
 frf:∀b∈X.fs,X.H₀ b=none
structure Inv (X:Cx)(bz:List (Addr×Obj))(σ:List (Option V))(H:Hp)(s:X7):Prop where
 ok:X.Ok
 os:s.os=X.s₀.os
 bare:SD s.gens
 base:Un X.fs X.ex X.H₀ H X.s₀.heap s.heap
 loc:∃m,s.heap.Ns X.env.locals m/\∀(i:Nat) (x:Str) (v:V),X.N[i]?=some x->σ[i]?=some (some v)->Vis X.env.scope x->∃u,RelV v u/\Look X.env s.heap m x u
 cell:∀x c,X.env.cells.lookup x=some c->∃v,s.heap.IsCell c v
 free:H X.env.locals=none
 jo:∀x c,X.env.cells.lookup x=some c->H c=none
 pin:∀p∈X.pn++bz,s.heap.get? p.1=some p.2/\H p.1=none/\p.1≠X.env.locals/\p.1 ∉ X.fs/\∀v,p.2.data ≠ .cell v
 hok:HOk X.prog X.w H s.heap
 len:σ.length=X.N.length
section
variable {X:Cx}{bz:List (Addr×Obj)}{σ:List (Option V)}{H H':Hp}{s:X7}{h':Heap}
def Cx.Ok.nofr (ok:X.Ok){b:Addr}{o:Obj}(e:X.base.get? b=some o):b ∉ X.fs:=λa=>by
 have:=(ok.funs.mem a).1;rw[e]at this;cases this
theorem Inv.bs (I:Inv X bz σ H s):∀b o,X.base.get? b=some o->s.heap.get? b=some o/\H b=none:=λb o e =>
 ⟨I.base.keep b o (I.ok.bs b o e).1 (I.ok.bs b o e).2 (I.ok.nofr e) (I.ok.noex b o e),I.base.free b o (I.ok.bs b o e).1 (I.ok.bs b o e).2 (I.ok.noex b o e)⟩
def Inv.bk (I:Inv X bz σ H s):∀b o,X.base.get? b=some o->s.heap.get? b=some o:=λb o e=>(I.bs b o e).1
theorem Inv.mod (I:Inv X bz σ H s):Mod X.K X.mg X.base:=I.ok.mod
def Inv.kIn (I:Inv X bz σ H s):X.K.In s.heap:=I.ok.mod.kin.keeps I.bk
theorem Inv.lt (I:Inv X bz σ H s):X.env.locals<s.heap.objs.size:=let ⟨_,hn,_⟩:=I.loc;hn.lt
def Inv.sz (I:Inv X bz σ H s):X.s₀.heap.objs.size<=s.heap.objs.size:=X6 I.ok.above (TX I.lt)
def Inv.nofs (I:Inv X bz σ H s){a:Addr}(h:s.heap.objs.size<=a):a ∉ X.fs:=λb=>by
 obtain⟨_,o,c,_⟩:=I.ok.funs.mem b;exact absurd (Xi (Xz c) (X6 I.sz h)) (VG _)
def Inv.cne (I:Inv X bz σ H s):∀x c,X.env.cells.lookup x=some c->c≠X.env.locals:=λx c e z=>by
 obtain⟨v,o,f,d⟩:=I.cell x c e;obtain⟨m,⟨i,h,g,b,a,_⟩,_⟩:=I.loc;rw[z,b]at f;cases f;rw[a]at d;cases d
theorem Inv.funs (I:Inv X bz σ H s):s.heap.FunFrames X.base X.outer:=by
 have all:∀(l:List Env),(∀b∈frs l,b∈X.fs)->X.s₀.heap.FunFrames X.base l->s.heap.FunFrames X.base l:=by
  intro l;induction l with
  | nil=>intro _ _;trivial
  | cons g r p =>
   intro f i;obtain⟨hk,⟨L,o,d,j,m,h⟩,n⟩:=i;have a:L∈X.fs:=f L (by unfold frs;rw[Vb,d];exact XR);obtain⟨q,e⟩:=I.base.slot L o m (I.ok.frf L a) a λz=>I.ok.exfs L z a;exact⟨hk,⟨L,_,d,j,e,h⟩,p (λb c=>f b (by unfold frs;rw[Vb,d];exact XV _ c)) n⟩
 exact all X.outer (λ_ c=>c) I.ok.funs
theorem Inv.stack (I:Inv X bz σ H s):s.heap.FunFrames X.base X.stack:=by
 rcases I.ok.stk with e | ⟨e,a⟩
 .rw[e];exact I.funs
 .rw[e];obtain⟨m,b,_⟩:=I.loc;refine .cons (by rw[I.ok.kind];decide) a b ?_ I.funs;exact UM (X6 I.ok.bsz I.ok.above)
def Inv.stkSub (I:Inv X bz σ H s):∀b∈frs X.stack,b∈X.env.locals::X.fs:=λb a=>by
 rcases I.ok.stk with e | ⟨e,c⟩
 .rw[e]at a;exact XV _ a
 .rw[e]at a;unfold frs at a;rw[Vb,c]at a;exact a
def Inv.stkFree (I:Inv X bz σ H s):∀b∈frs X.stack,H b=none:=λb hb=>by
 rcases XI.mp (I.stkSub b hb) with e | hb
 .rw[e];exact I.free
 .obtain⟨_,o,a,_⟩:=I.ok.funs.mem hb;exact I.base.free b o a (I.ok.frf b hb) λz=>I.ok.exfs b z hb
def Inv.step {g':Array Su}{t':Nat}{d':Drawn}{ch:List Addr}(I:Inv X bz σ H s)
  (g:∀b∈ch,(b∈X.ex\/X.s₀.heap.objs.size<=b)/\b≠X.env.locals/\(∀x c,X.env.cells.lookup x=some c->c≠b)/\∀p∈X.pn++bz,p.1≠b)
  (keep:∀b o,b≠X.env.locals->b ∉ X.fs->b ∉ ch->s.heap.get? b=some o->H b=none->h'.get? b=some o)
  (A:∀b o,b≠X.env.locals->b∈X.fs->b ∉ ch->s.heap.get? b=some o->H b=none->∃sl,h'.get? b=some { o with slots:=sl }) (free:∀b o,b ∉ ch->s.heap.get? b=some o->H b=none->H' b=none)
  (E:∀b o,b ∉ ch->s.heap.get? b=some o->∃N,h'.get? b=some N)
  (Q:∀b B,H b=some (.tup B)->H' b=some (.tup B)) (L:∀b o u,H b=some (.frz o u)->H' b=some (.frz o u)) (O:∀b U,H b=some (.tbl U)->∃more,H' b=some (.tbl (U++more)))
  (ns:∀m,s.heap.Ns X.env.locals m->h'.Ns X.env.locals m) (aa:HOk X.prog X.w H' h') (hg:SD g') :
  Inv X bz σ H' { s with heap:=h',gens:=g',drawn:=d',toks:=t' }:=by
 have M:∀b o,X.s₀.heap.get? b=some o->b≠X.env.locals:=λb o e=>Xf (Xi (Xz e) I.ok.above);have y:∀b o,X.s₀.heap.get? b=some o->b ∉ X.ex->b ∉ ch:=λb o e a D=>by
  rcases(g b D).1 with z | z
  .exact a z
  .exact absurd (Xi (Xz e) z) (VG _)
 have f:∀x c,X.env.cells.lookup x=some c->∀v,s.heap.IsCell c v->h'.IsCell c v:=λx c e v ⟨o,G,Y⟩=>by
  have h:c ∉ ch:=λz=>(g c z).2.2.1 x c e rfl;by_cases hc:c∈X.fs
  .obtain⟨sl,q⟩:=A c o (I.cne x c e) hc h G (I.jo x c e);exact⟨_,q,Y⟩
  .exact⟨o,keep c o (I.cne x c e) hc h G (I.jo x c e),Y⟩
 refine⟨I.ok,I.os,hg,⟨λb o e n D a=>?_,λb o e n D a=>?_,λb o e n a=>?_,λb o e a=>?_,λb B e=>Q b B (I.base.tups b B e),λb o B e=>L b o B (I.base.frzs b o B e),λb U e=>?_⟩,?_,λx c e=>?_,?_,λx c e=>?_,λp hp=>?_,aa,I.len⟩
 .exact keep b o (M b o e) D (y b o e a) (I.base.keep b o e n D a) (I.base.free b o e n a)
 .obtain⟨sl,j⟩:=I.base.slot b o e n D a;obtain⟨ab,J⟩:=A b _ (M b o e) D (y b o e a) j (I.base.free b o e n a);exact⟨ab,J⟩
 .obtain⟨N,j⟩:=I.base.there b o e a;exact free b N (y b o e a) j (I.base.free b o e n a)
 .obtain⟨N,j⟩:=I.base.there b o e a;exact E b N (y b o e a) j
 .obtain⟨m1,j⟩:=I.base.tbls b U e;obtain⟨m2,J⟩:=O b _ j;exact⟨m1++m2,by rw[J,Array.append_assoc]⟩
 .obtain⟨m,hn,hl⟩:=I.loc;refine⟨m,ns m hn,λi x v j J e3=>?_⟩;obtain⟨u,r,l⟩:=hl i x v j J e3;refine⟨u,r,?_⟩;rcases l with l | ⟨k,c,e,z⟩
  .exact .inl l
  .exact .inr ⟨k,c,e,f x c e _ z⟩
 .obtain⟨v,z⟩:=I.cell x c e;exact⟨v,f x c e v z⟩
 .obtain⟨m,⟨o,_,_,G,_⟩,_⟩:=I.loc;exact free _ o (λz=>(g _ z).2.1 rfl) G I.free
 .obtain⟨v,o,G,Y⟩:=I.cell x c e;exact free c o (λz=>(g c z).2.2.1 x c e rfl) G (I.jo x c e)
 .refine eY (λe n ne nf d=>?_) (I.pin p hp);have h:p.1 ∉ ch:=λz=>(g p.1 z).2.2.2 p hp rfl;exact⟨keep p.1 p.2 ne nf h e n,free p.1 p.2 h e n,ne,nf,d⟩
def Inv.un {t':Nat}(I:Inv X bz σ H s)(u:Un X.fs [] H H' s.heap h')(g:HOk X.prog X.w H' h'):Inv X bz σ H' { s with heap:=h',toks:=t' }:=by
 obtain⟨m,⟨o,q,p,h,r⟩,_⟩:=id I.loc;obtain⟨y,i⟩:=u.any h I.free (by simp);exact I.step (g':=s.gens) (d':=s.drawn) (ch:=[]) (λ_ z=>nomatch z) (λb o _ f _ e n=>u.keep b o e n f (by simp)) (λb o _ f _ e n=>u.slot b o e n f (by simp)) (λb o _ e n=>u.free b o e n (by simp)) (λb o _ e=>u.there b o e (by simp)) u.tups u.frzs u.tbls (λv j=>by
  obtain⟨x,d,c,a,l⟩:=j;rw[h]at a;cases a;exact⟨_,d,c,i,l⟩) g I.bare
def Inv.call {g':Array Su}{t':Nat}{d':Drawn}{ch:List Addr}(I:Inv X bz σ H s)(u:Un (frs X.stack) ch H H' s.heap h')(j:HOk X.prog X.w H' h')(v:SD g')
  (d:∀b∈ch,(b∈X.ex\/X.s₀.heap.objs.size<=b)/\b≠X.env.locals/\(∀x c,X.env.cells.lookup x=some c->c≠b)/\∀p∈X.pn++bz,p.1≠b) :
  Inv X bz σ H' { s with heap:=h',gens:=g',drawn:=d',toks:=t' }:=by
 obtain⟨m,⟨o,D,B,l,r⟩,_⟩:=id I.loc;obtain⟨J,i⟩:=u.any l I.free λz=>(d _ z).2.1 rfl;exact I.step (ch:=ch) d (λb o i q a e n=>u.keep b o e n (λz=>(XI.mp (I.stkSub b z)).elim i q) a) (λb o _ _ a e n=>u.any e n a) (λb o a e n=>u.free b o e n a) (λb o a e=>u.there b o e a) u.tups u.frzs u.tbls (λE y=>by
  obtain⟨G,h,g,f,A⟩:=y;rw[l]at f;cases f;exact⟨_,h,g,i,A⟩) j v
def Inv.turned {t':Nat}{it:Addr}(I:Inv X bz σ H s)(k:∀b o,b≠it->s.heap.get? b=some o->h'.get? b=some o)(w:H it=none)(f:it≠X.env.locals)
  (h1:it∈X.ex\/X.s₀.heap.objs.size<=it) (h2:∀x c,X.env.cells.lookup x=some c->c≠it) (i:∀p∈X.pn++bz,p.1≠it):Inv X bz σ H { s with heap:=h',toks:=t' }:=by
 have d:∀b u,H b=some u->b≠it:=λb u e z=>by rw[z,w]at e;cases e
 refine I.step (g':=s.gens) (d':=s.drawn) (ch:=[it]) (λb j=>?_) (λb o _ _ a e _=>k b o (λz=>a (by simp[z])) e) (λb o _ _ a e _=>⟨o.slots,k b o (λz=>a (by simp[z])) e⟩) (λ_ _ _ _ n=>n)
  (λb o a e=>⟨o,k b o (λz=>a (by simp[z])) e⟩) (λ_ _ e=>e) (λ_ _ _ e=>e) (λb A e=>⟨#[],by rw[e];simp⟩) (λm l=>?_) (λb u e=>?_) I.bare
 .have e:b=it:=by simpa using j
  subst e;exact⟨h1,f,h2,i⟩
 .obtain⟨o,h,g,y,r⟩:=l;exact⟨o,h,g,k _ o (Vq f) y,r⟩
 .refine(I.hok b u e).stay (λc v a q=>k c v ?_ q) (λ_ q=>q) λ_ _ q=>q;rcases a with z | z
  .rw[z];exact d b u e
  .exact d c _ z
def Inv.tok (I:Inv X bz σ H s)(t:Nat):Inv X bz σ H { s with toks:=t }:=I.un (h':=s.heap) (t':=t) Un.refl I.hok
theorem Inv.kept {t':Nat}(I:Inv X bz σ H s)(k:∀b u,s.heap.get? b=some u->h'.get? b=some u):Inv X bz σ H { s with heap:=h',toks:=t' }:=I.un (Un.kept k) (I.hok.kept k)
theorem Inv.laid {a:Addr}{o:HO}{t':Nat}(I:Inv X bz σ H s)(k:∀b u,s.heap.get? b=some u->h'.get? b=some u)(c:s.heap.objs.size<=a)(d:jy X.prog X.w (upd H a o) h' a o) :
  Inv X bz σ (upd H a o) { s with heap:=h',toks:=t' }:=I.un (Un.laid k c (I.hok.fresh c)) (I.hok.laid k c d)
theorem Inv.write {x e:Addr}{o:HO}{t':Nat}(I:Inv X bz σ H s)(d:Mut (H x))(he:e=x\/H e=some (.own x))(k:∀b u,b≠e->s.heap.get? b=some u->h'.get? b=some u)(a:∃u,h'.get? e=some u)
  (c:jy X.prog X.w (upd H x o) h' x o):Inv X bz σ (upd H x o) { s with heap:=h',toks:=t' }:=I.un (Un.write d he k a) (I.hok.write d he k a c)
def Inv.pins_of {a:List (Addr×Obj)}(I:Inv X bz σ H s)(h:∀p∈a,s.heap.get? p.1=some p.2/\H p.1=none/\p.1≠X.env.locals/\p.1 ∉ X.fs/\∀v,p.2.data ≠ .cell v):Inv X a σ H s :=
 ⟨I.ok,I.os,I.bare,I.base,I.loc,I.cell,I.free,I.jo,λp b=>(XM.mp b).elim (λz=>I.pin p (WX _ z)) (h p),I.hok,I.len⟩
def zff {N:AD}(e:N.Nodup){i j:Nat}{x:Str}(a:N[i]?=some x)(b:N[j]?=some x):i=j:=by
 obtain⟨h1,c⟩:=XX.mp a;obtain⟨h2,d⟩:=XX.mp b;exact(List.getElem_inj e).mp (c.trans d.symm)
def zdz {M:Model}{A:WO}{E:X9->X7->Prop}{i:Nat}{x:Str}{v:V}{u:X9}{Q:Unit->X7->Prop}(I:Inv X bz σ H s)(hN:X.N.Nodup)(hi:X.N[i]?=some x)(B:Loc X.env.scope x)(r:RelV v u)
  (h:∀s',Inv X bz (σ.set i (some v)) H s'->(∃a,V1 a s.heap s'.heap/\(a=X.env.locals\/X.env.cells.lookup x=some a))->Q () s') (hf:X.fn x=true\/X.env.scope.names.lookup x=some .local:=by first | exact .inl rfl | exact .inr rfl | assumption):Xe M A (storeName X.env x u) Q E s:=by
 obtain⟨m,hn,hl⟩:=id I.loc;have ab:(X.env.scope.kind == .class || (X.env.scope.kind == .module&&X.env.locals != X.env.globals))=false:=by rw[I.ok.kind];rfl
 have J:i < σ.length:=by rw[I.len];exact(XX.mp hi).1
 have cne:=I.cne;have l:∀{a:Addr} {h':Heap},(∃o,s.heap.get? a=some o/\H a=none)->V1 a s.heap h'->HOk X.prog X.w H h':=λ{a h'} ha f b ob e=>by
  obtain⟨_,_,D⟩:=ha;refine(I.hok b ob e).stay (λc w' hc q=>(f.2 c ?_).trans q) (λ_ q=>q) λ_ _ q=>q;rintro rfl;rcases hc with rfl | hc
  .rw[D]at e;cases e
  .rw[D]at hc;cases hc
 rcases B with hk | hk
 .refine wpAny_storeName_local hk hn (λh' af f=>?_) ab;obtain⟨oL,_,_,ag,_⟩:=id hn;refine h _ ⟨I.ok,I.os,I.bare,⟨λb o e n L B=>?_,λb o e n L B=>?_,I.base.free,λb o e B=>?_,I.base.tups,I.base.frzs,I.base.tbls⟩,⟨_,af,λj y v' g G e3=>?_⟩,λy c e=>?_,I.free,I.jo,λp hp=>?_,l ⟨oL,ag,I.free⟩ f,by simpa using I.len⟩ ⟨_,f,.inl rfl⟩
  .exact(f.2 b (Xf (Xi (Xz e) I.ok.above))).trans (I.base.keep b o e n L B)
  .obtain⟨sl,g⟩:=I.base.slot b o e n L B;exact⟨sl,(f.2 b (Xf (Xi (Xz e) I.ok.above))).trans g⟩
  .obtain⟨o',g⟩:=I.base.there b o e B;exact⟨o',(f.2 b (Xf (Xi (Xz e) I.ok.above))).trans g⟩
  .by_cases U:j=i
   .subst U;rw[hi]at g;cases g;rw[Rc J]at G;cases G;exact⟨u,r,.inl ⟨hk,by simp⟩⟩
   .rw[Pq (Vq U)]at G;obtain⟨u',r',q⟩:=hl j y v' g G e3;refine⟨u',r',?_⟩;rcases q with ⟨k,e⟩ | ⟨k,c,e,z⟩
    .refine .inl ⟨k,?_⟩;have:y≠x:=λe=>U (zff hN g (e ▸ hi));simp[this,e]
    .exact .inr ⟨k,c,e,z.sameBut f (cne y c e)⟩
  .obtain⟨w',z⟩:=I.cell y c e;exact⟨w',z.sameBut f (cne y c e)⟩
  .refine eY (λe n ne nf d=>?_) (I.pin p hp);exact⟨(f.2 p.1 ne).trans e,n,ne,nf,d⟩
 .have O:X.fn x=true:=by
   rcases hf with z | z
   .exact z
   .rw[z]at hk;cases hk
  obtain⟨c,hc⟩:=I.ok.has x (.inl hk);obtain⟨w',z⟩:=I.cell x c hc;refine wpAny_storeName_cell I.ok.kind hk hc z (λh' Y f=>?_);obtain⟨oc,ac,ae⟩:=id z;refine h { s with heap:=h' } ⟨I.ok,I.os,I.bare,⟨λb o e n L B=>?_,λb o e n L B=>?_,I.base.free,λb o e B=>?_,I.base.tups,I.base.frzs,I.base.tbls⟩,⟨m,hn.sameBut f (Vq (cne x c hc)),λj y v' g G e3=>?_⟩,λy c' e=>?_,I.free,I.jo,λp hp=>?_,l ⟨oc,ac,I.jo x c hc⟩ f,by simpa using I.len⟩ ⟨c,f,.inr hc⟩
  .exact(f.2 b (Xf (Xi (Xz e) (I.ok.cab x c O hc)))).trans (I.base.keep b o e n L B)
  .obtain⟨sl,g⟩:=I.base.slot b o e n L B;exact⟨sl,(f.2 b (Xf (Xi (Xz e) (I.ok.cab x c O hc)))).trans g⟩
  .obtain⟨o',g⟩:=I.base.there b o e B;exact⟨o',(f.2 b (Xf (Xi (Xz e) (I.ok.cab x c O hc)))).trans g⟩
  .by_cases U:j=i
   .subst U;rw[hi]at g;cases g;rw[Rc J]at G;cases G;exact⟨u,r,.inr ⟨.inl hk,c,hc,Y⟩⟩
   .rw[Pq (Vq U)]at G;obtain⟨u',r',q⟩:=hl j y v' g G e3;refine⟨u',r',?_⟩;rcases q with q | ⟨k,c',e,z'⟩
    .exact .inl q
    .refine .inr ⟨k,c',e,z'.sameBut f ?_⟩;rintro rfl;exact U (zff hN g (I.ok.inj _ _ _ e hc ▸ hi))
  .by_cases aa:c'=c
   .subst aa;exact⟨_,Y⟩
   .obtain⟨w2,z2⟩:=I.cell y c' e;exact⟨w2,z2.sameBut f aa⟩
  .refine eY (λe n ne nf d=>?_) (I.pin p hp);refine⟨(f.2 p.1 ?_).trans e,n,ne,nf,d⟩;intro q;rw[q,ac]at e;have q':oc=p.2:=Option.some.inj e;exact d w' (by rw[<- q'];exact ae)
def zag {M:Model}{A:WO}{E:X9->X7->Prop}{i:Nat}{x:Str}{v:V}{u:X9}{Q:Unit->X7->Prop}(I:Inv X bz σ H s)(b:X.N.Nodup)(d:X.N[i]?=some x)(e:Loc X.env.scope x)(r:RelV v u)
  (h:∀s',Inv X bz (σ.set i (some v)) H s'->Q () s') (c:X.fn x=true\/X.env.scope.names.lookup x=some .local:=by first | exact .inl rfl | exact .inr rfl | assumption):Xe M A (storeName X.env x u) Q E s :=
 zdz I b d e r (λs' a _=>h s' a) c
def Inv.call' {s':X7}{ch:List Addr}(I:Inv X bz σ H s)(g:s'.os=s.os)(u:Un (frs X.stack) ch H H' s.heap s'.heap)(d:HOk X.prog X.w H' s'.heap)(f:SD s'.gens)
  (a:∀b∈ch,(b∈X.ex\/X.s₀.heap.objs.size<=b)/\b≠X.env.locals/\(∀x c,X.env.cells.lookup x=some c->c≠b)/\∀p∈X.pn++bz,p.1≠b):Inv X bz σ H' s':=by
 obtain⟨h',g',d',t',h⟩:=s';have e:h=s.os:=g;subst e;exact I.call (g':=g') (t':=t') (d':=d') u d f a
end
abbrev XK:=X9->Option Addr->Hp->Prop
abbrev St:=List (Option V)
abbrev VK:=V->Hp->Prop
abbrev TE:=St->Hp->VK->Prop
abbrev TT:=St->Hp->(Bool->Hp->Prop)->Prop
abbrev TA:=St->Hp->(AE->Hp->Prop)->Prop
structure Ends where
 nx:St->Hp->Prop
 rt:VK
 bk:St->Hp->Prop:=λ_ _=>False
 ct:St->Hp->Prop:=λ_ _=>False
abbrev TS:=Ends->St->Hp->Prop
def EP (X:Cx)(b:List (Addr×Obj))(c:St)(Q:VK)(u:X9)(s':X7):Prop:=∃v a,Inv X b c a s'/\RelV v u/\Q v a
def TP (X:Cx)(c:List (Addr×Obj))(d:St)(Q:Bool->Hp->Prop)(b:Bool)(s':X7):Prop:=∃a,Inv X c d a s'/\Q b a
def AP (X:Cx)(c:List (Addr×Obj))(e:St)(Q:AE->Hp->Prop)(d:List X9)(s':X7):Prop:=∃b a,Inv X c e a s'/\Vals b d/\Q b a
def SP (X:Cx)(c:List (Addr×Obj))(D:Ends)(f:Flow)(s':X7):Prop :=
 match f with
 | .next=>∃ a b,Inv X c a b s'/\D.nx a b
 | .brk=>∃ a b,Inv X c a b s'/\D.bk a b
 | .cont=>∃ a b,Inv X c a b s'/\D.ct a b
 | .ret u=>∃v a b,Inv X c a b s'/\RelV v u/\D.rt v b
def PE (X:Cx)(e:Expr)(t:TE):Prop :=
 ∀(b:List (Addr×Obj)) (s:X7) (a:St) (H:Hp) (Q:VK),Inv X b a H s->t a H Q->Xe (Xg X.prog X.w) X.A (eval e X.env) (EP X b a Q) X.xe s
def PT (X:Cx)(e:Expr)(t:TT):Prop :=
 ∀(b:List (Addr×Obj)) (s:X7) (a:St) (H:Hp) (Q:Bool->Hp->Prop),Inv X b a H s->t a H Q->Xe (Xg X.prog X.w) X.A (isTrue e X.env (eval e X.env)) (TP X b a Q) X.xe s
def PW (X:Cx)(e:Expr)(t:TT):Prop :=
 ∀(whole:Sem X9) (b:List (Addr×Obj)) (s:X7) (a:St) (H:Hp) (Q:Bool->Hp->Prop),Inv X b a H s->t a H Q->Xe (Xg X.prog X.w) X.A (isTrue e X.env whole) (TP X b a Q) X.xe s
def PW.pt {X:Cx}{e:Expr}{t:TT}(h:PW X e t):PT X e t:=h _
def PA (X:Cx)(c:List Expr)(t:TA):Prop :=
 ∀(pos:Pos) (b:List (Addr×Obj)) (s:X7) (a:St) (H:Hp) (Q:AE->Hp->Prop),Inv X b a H s->t a H Q->Xe (Xg X.prog X.w) X.A (spliced (Tb pos (WU c X.env))) (AP X b a Q) X.xe s
def PS (X:Cx)(st:Stmt)(t:TS):Prop :=
 ∀(a:List (Addr×Obj)) (s:X7) (b:St) (H:Hp) (D:Ends),Inv X a b H s->t D b H->Xe (Xg X.prog X.w) X.A (exec st X.env) (SP X a D) X.xe s
def PSs (X:Cx)(st:List Stmt)(t:TS):Prop :=
 ∀(a:List (Addr×Obj)) (s:X7) (b:St) (H:Hp) (D:Ends),Inv X a b H s->t D b H->Xe (Xg X.prog X.w) X.A (execs st X.env) (SP X a D) X.xe s
def thn {α:Type}{t:Sem α}{Q b:α->X7->Prop}{M:Model}{A:WO}{E:X9->X7->Prop}{s:X7}(h:Xe M A t Q E s)(c:∀a s,Q a s->b a s):Xe M A t b E s:=Vk h c λ_ _ x=>x
section
variable {X:Cx}
def zqz (i:Nat):TE:=fun a H Q=>∃v,a[i]?=some (some v)/\Q v H
def tC (v:V):TE:=λ_ H Q=>Q v H
def zo7 {i:Nat}{x:Str}{pos:Pos}(n:X.N[i]?=some x)(w:Vis X.env.scope x)(f:(x==("__debug__":Str))=false:=by decide)(d:(x==("__classdict__":Str))=false:=by decide):PE X (.Name x pos) (zqz i):=by
 intro j s y H Q I h;obtain⟨v,e,h⟩:=h;obtain⟨m,q,o⟩:=I.loc;obtain⟨u,r,l⟩:=o i x v n e w;have b:EP X j y Q u s:=⟨v,H,I,r,h⟩;rcases l with ⟨hk,p⟩ | ⟨hk,c,g,a⟩
 .exact wpAny_Name (wpAny_loadName_local I.ok.kind hk q p b) f
 .rcases hk with hk | hk
  .exact wpAny_Name (wpAny_loadName_cell I.ok.kind hk g a b) f
  .exact wpAny_Name (wpAny_loadName_free I.ok.kind hk g a b d) f
def zg {i j pos}:PE X (.Constant (.int i) j pos) (tC (.int i)):=λ_ _ _ H _ I h=>wpAny_Constant_int ⟨.int i,H,I.tok _,⟨_,rfl⟩,h⟩
def zfg {b j pos}:PE X (.Constant (.bool b) j pos) (tC (.bl b)):=λ_ _ _ H _ I h=>Constant_bool ⟨.bl b,H,I,rfl,h⟩
def YH {j pos}:PE X (.Constant .none j pos) (tC .non):=λ_ _ _ H _ I h=>Constant_none ⟨.non,H,I,rfl,h⟩
def qC {x j pos}:PE X (.Constant (.str x) j pos) (tC (.str x)):=λ_ _ _ H _ I h=>Calls.Constant_str ⟨.str x,H,I.tok _,⟨_,rfl⟩,h⟩
def Gl (X:Cx)(x:Str):Prop:=X.env.kindOf x=some .globalImplicit
def zah {E:X9->X7->Prop}{a:List (Addr×Obj)}{s:X7}{e:St}{H:Hp}{x:Str}{u:X9}{pos:Pos}{Q:X9->X7->Prop}(I:Inv X a e H s)(c:Gl X x)(d:X.mg x=some u)(h:Q u s)
  (b:(x==("__debug__":Str))=false:=by decide):Xe (Xg X.prog X.w) X.A (eval (.Name x pos) X.env) Q E s :=
 RY I.ok.kind c (Calls.loadGlobal_global (by rw[I.ok.glob];exact I.mod.glob.keeps I.bk) d h) b
def za0 {E:X9->X7->Prop}{a:List (Addr×Obj)}{s:X7}{g:St}{H:Hp}{x:Str}{u:X9}{pos:Pos}{Q:X9->X7->Prop}(I:Inv X a g H s)(c:Gl X x)(d:X.mg x=none)(f:Uv x=some u)(h:Q u s)
  (e:x ≠ "__name__":=by decide) (b:(x==("__debug__":Str))=false:=by decide):Xe (Xg X.prog X.w) X.A (eval (.Name x pos) X.env) Q E s:=by
 obtain⟨i,h1,h2⟩:=I.mod.blt;exact RY I.ok.kind c (Calls.loadGlobal_builtin (by rw[I.ok.glob];exact I.mod.glob.keeps I.bk) d (by rw[I.ok.blt];exact h1.keeps I.bk) ((h2 x e).trans f) h) b
def Jl {x:Str}{v:V}{u:X9}{pos:Pos}(b:Gl X x)(c:X.mg x=some u)(r:RelV v u)(a:(x==("__debug__":Str))=false:=by decide):PE X (.Name x pos) (tC v) :=
 λ_ _ _ H _ I h=>zah I b c ⟨v,H,I,r,h⟩ a
variable {a b:Expr}{ta tb:TE}{pos:Pos}
def PC (X:Cx)(op:Ov)(a b:Expr)(t:TE):Prop :=
 ∀(f:List (Addr×Obj)) (s:X7) (e:St) (H:Hp) (Q:VK),Inv X f e H s->t e H Q ->
  Xe (Xg X.prog X.w) X.A (eval a X.env) (λv c=>Xe (Xg X.prog X.w) X.A (eval b X.env) (λu d=>Xe (Xg X.prog X.w) X.A (Wg op v u) (EP X f e Q) X.xe d) X.xe c) X.xe s
def tB (t:TE):TT:=fun b H Q=>t b H λx a=>∃c,x=.bl c/\Q c a
def zo8 {op:Ov}{t:TE}(h:PC X op a b t)(h1:Tw op b=false:=by first | exact e _ (by decide) (by decide) | rfl):PT X (.Compare a [op] [b] pos) (tB t):=by
 intro i s n H Q I j;refine SS (thn (h i s n H _ I j) λv s1 h1=>thn h1 λu o h2=>thn h2 λc p ⟨x,f,g,m,l⟩=>?_) h1;obtain⟨d,rfl,q⟩:=l;cases m;exact VL ⟨f,g,q⟩
variable {tA tB':TT}{rest:List Expr}
def zrA (t u:TT):TT:=fun b H Q=>t b H λc a=>if c=true then u b a Q else Q false a
def tOr (t u:TT):TT:=fun b H Q=>t b H λc a=>if c=true then Q true a else u b a Q
def zrB (t:TT):TT:=fun b H Q=>t b H λc a=>Q (!c) a
def Qj (d:PT X a tA):PW X (.BoolOp .And [a] pos) tA:=by
 intro g b s f H Q I h;refine isTrue_and (thn (d b s f H Q I h) λc s1 e=>?_);cases c with
 | true=>exact isTrue_and_nil e
 | false=>exact e
def zgV (d:PT X a tA):PW X (.BoolOp .Or [a] pos) tA:=by
 intro g b s f H Q I h;refine isTrue_or (thn (d b s f H Q I h) λc s1 e=>?_);cases c with
 | false=>exact isTrue_or_nil e
 | true=>exact e
def za1 (j:PT X a tA)(l:PW X (.BoolOp .And (b::rest) pos) tB'):PW X (.BoolOp .And (a::b::rest) pos) (zrA tA tB'):=by
 intro m f s i H Q I h;refine isTrue_and (thn (j f s i H _ I h) λc s1 ⟨d,e,g⟩=>?_);cases c with
 | true=>exact l m f s1 i d Q e g
 | false=>exact⟨d,e,g⟩
def zkv (j:PT X a tA)(l:PW X (.BoolOp .Or (b::rest) pos) tB'):PW X (.BoolOp .Or (a::b::rest) pos) (tOr tA tB'):=by
 intro m f s i H Q I h;refine isTrue_or (thn (j f s i H _ I h) λc s1 ⟨d,e,g⟩=>?_);cases c with
 | true=>exact⟨d,e,g⟩
 | false=>exact l m f s1 i d Q e g
def zeq (e:PT X a tA):PT X (.UnaryOp .Not a pos) (zrB tA):=by
 intro d s f H Q I h;exact isTrue_not (e d s f H (λc b=>Q (!c) b) I h)
def zqA (ta tb:TE):TE:=fun b H Q=>ta b H λx a=>∃c,x=.bl c/\if c=true then tb b a Q else Q (.bl false) a
def zo9 {op}{t:TE}(h:PE X a t):PE X (.BoolOp op [a] pos) t:=λb s d H Q I c=>BoolOp_one (h b s d H Q I c)
def zkw (j:PE X a ta)(l:PE X (.BoolOp .And (b::rest) pos) tb):PE X (.BoolOp .And (a::b::rest) pos) (zqA ta tb):=by
 intro g s i H Q I h;refine BoolOp_and (thn (j g s i H _ I h) λv s1 ⟨x,e,f,m,d⟩=>?_);obtain⟨c,rfl,d⟩:=d;cases m;refine VL ?_;cases c with
 | true=>exact l g s1 i e Q f d
 | false=>exact⟨.bl false,e,f,rfl,d⟩
def tIf (t:TT)(ta tb:TE):TE:=fun a H Q=>t a H λc b=>if c=true then ta a b Q else tb a b Q
def zkx {c:Expr}(n:PT X c tA)(l:PE X a ta)(m:PE X b tb):PE X (.IfExp c a b pos) (tIf tA ta tb):=by
 intro e s f H Q I h;refine wpAny_IfExp (thn (n e s f H _ I h) λd s1 ⟨g,i,j⟩=>?_);cases d with
 | true=>exact l e s1 f g Q i j
 | false=>exact m e s1 f g Q i j
end
def SqL (K:XS)(H:Hp)(a:Addr)(xs:AE):Prop :=
 Rd H a (.lst xs) \/
  ∃(o:Obj) (b:Array X9) (n:Nat),K.lookup a=some o/\o.cls=.type "list"/\o.dict=none/\o.data=.seq b n/\b.size<=Xv/\Vals xs b.toList
def SqT (K:XS)(H:Hp)(a:Addr)(xs:AE):Prop :=
 Rd H a (.tup xs) \/
  ∃(o:Obj) (b:Array X9) (n:Nat),K.lookup a=some o/\o.cls=.type "tuple"/\o.data=.seq b n/\b.size<=Xv/\Vals xs b.toList
def zrC:X9->Option V
 | .none=>some .non
 | .bool b=>some (.bl b)
 | .int i _=>some (.int i)
 | .str x _=>some (.str x)
 | .bytes b _=>some (.byt b)
 | .float b _=>some (.flt b)
 | .ref a=>some (.ref a)
 | .type n=>some (.ty n)
 | _=>none
def RelV.abs {x:V}{u:X9}(r:RelV x u):zrC u=some x:=by
 cases x with
 | non=>cases r;rfl
 | bl _=>cases r;rfl
 | int _=>obtain⟨t,rfl⟩:=r;rfl
 | str _=>obtain⟨t,rfl⟩:=r;rfl
 | byt _=>obtain⟨t,rfl⟩:=r;rfl
 | flt _=>obtain⟨t,rfl⟩:=r;rfl
 | ref _=>cases r;rfl
 | ty _=>cases r;rfl
theorem RelV.inj {x y:V}{u:X9}(r:RelV x u)(q:RelV y u):x=y:=Option.some.inj (r.abs.symm.trans q.abs)
theorem Vals.inj:∀{xs ys:AE} {a:List X9},Vals xs a->Vals ys a->xs=ys
 | _,_,_,.nil,.nil=>rfl
 | _,_,_,.cons r t,.cons b t'=>by rw[r.inj b,Vals.inj t t']
section
variable {X:Cx}{bz:List (Addr×Obj)}{σ:St}{H:Hp}{s:X7}{a:Addr}{xs ys:AE}
def SqL.of {K:XS}(h:H a=some (.lst xs)):SqL K H a xs:=.inl (.inl h)
def SqT.of {K:XS}(h:H a=some (.tup xs)):SqT K H a xs:=.inl (.inl h)
def Inv.list (I:Inv X bz σ H s)(h:SqL X.K H a xs):∃b:List X9,Vals xs b/\PlainL s.heap a b.toArray/\xs.length<=Xv:=by
 rcases h with h | ⟨o,b,n,hk,c,d,f,g,r⟩
 .obtain⟨z,b,n,r,e⟩:=h.ok I.hok;exact⟨b,r,⟨_,n,e,rfl,rfl,rfl⟩,z⟩
 .refine⟨b.toList,r,⟨o,n,I.kIn a o hk,c,d,by simpa using f⟩,?_⟩;have e:=r.length;simp only[XZ]at e;lia
def Inv.tuple (I:Inv X bz σ H s)(h:SqT X.K H a xs):∃b:List X9,Vals xs b/\OC s.heap a b.toArray/\xs.length<=Xv:=by
 rcases h with h | ⟨o,b,n,hk,c,d,f,r⟩
 .obtain⟨z,b,r,p⟩:=h.ok I.hok;exact⟨b,r,p,z⟩
 .refine⟨b.toList,r,⟨o,I.kIn a o hk,c,n,by simpa using d⟩,?_⟩;have e:=r.length;simp only[XZ]at e;lia
def Inv.list_inj (I:Inv X bz σ H s)(h:SqL X.K H a xs)(h':SqL X.K H a ys):xs=ys:=by
 obtain⟨c,r,⟨o,n,e,_,_,d⟩,_⟩:=I.list h;obtain⟨b,j,⟨m,l,g,_,_,f⟩,_⟩:=I.list h';rw[e]at g;cases g;rw[d]at f;injection f with i _
 have:c=b:=by simpa using congrArg Array.toList i
 subst this;exact r.inj j
end
abbrev Cx.wish (X:Cx)(E:X9->X7->Prop):Cx:={ X with xe:=E }
abbrev Cx.nox (X:Cx):Cx:=X.wish λ_ _=>False
theorem Cx.Ok.wish {X:Cx}(ok:X.Ok)(E:X9->X7->Prop):(X.wish E).Ok :=
 ⟨ok.mod,ok.kind,ok.glob,ok.blt,ok.above,ok.inj,ok.has,ok.cab,ok.hd,ok.frames,ok.stk,ok.exf,ok.bs,ok.bsz,ok.noex,ok.exfs,ok.funs,ok.frf⟩
def Cx.Ok.unwish {X:Cx}{E:X9->X7->Prop}(ok:(X.wish E).Ok):X.Ok :=
 ⟨ok.mod,ok.kind,ok.glob,ok.blt,ok.above,ok.inj,ok.has,ok.cab,ok.hd,ok.frames,ok.stk,ok.exf,ok.bs,ok.bsz,ok.noex,ok.exfs,ok.funs,ok.frf⟩
section
variable {X:Cx}{bz:List (Addr×Obj)}{σ:St}{H:Hp}{s:X7}{E:X9->X7->Prop}
theorem Inv.wish (I:Inv X bz σ H s)(E:X9->X7->Prop):Inv (X.wish E) bz σ H s:=⟨I.ok.wish E,I.os,I.bare,I.base,I.loc,I.cell,I.free,I.jo,I.pin,I.hok,I.len⟩
theorem Inv.unwish (I:Inv (X.wish E) bz σ H s):Inv X bz σ H s:=⟨I.ok.unwish,I.os,I.bare,I.base,I.loc,I.cell,I.free,I.jo,I.pin,I.hok,I.len⟩
theorem SP.unwish {D:Ends}{f:Flow}{s':X7}(h:SP (X.wish E) bz D f s'):SP X bz D f s':=by
 cases f with
 | next=>obtain⟨a,b,I,q⟩:=h;exact⟨a,b,I.unwish,q⟩
 | brk=>obtain⟨a,b,I,q⟩:=h;exact⟨a,b,I.unwish,q⟩
 | cont=>obtain⟨a,b,I,q⟩:=h;exact⟨a,b,I.unwish,q⟩
 | ret u=>obtain⟨v,a,b,I,r,q⟩:=h;exact⟨v,a,b,I.unwish,r,q⟩
theorem PSs.nox {st:List Stmt}{t:TS}(h:PSs X.nox st t):PSs X st t:=λbz s σ H D I a =>
 Vk (h bz s σ H D (I.wish _) a) (λ_ _ q=>q.unwish) λ_ _ z=>Vj z
end
section
variable {X:Cx}{st:Stmt}{rest:List Stmt}{t u:TS}{e:Expr}{te:TE}{pos:Pos}
def zqB:TS:=λD a H=>D.nx a H
def zrD (t u:TS):TS:=λD a H=>t { D with nx:=u D } a H
def qa:PSs X [] zqB:=λ_ _ a H _ I h=>Ul ⟨a,H,I,h⟩
def ze (h1:PS X st t)(h2:PSs X rest u):PSs X (st::rest) (zrD t u):=by
 intro b s e H D I h;refine SG (thn (h1 b s e H { D with nx:=u D } I h) λf s1 q=>?_);cases f with
 | next =>
  obtain⟨a,c,d,q⟩:=q;exact h2 b s1 a c D d q
 | ret v=>exact q
 | brk=>exact q
 | cont=>exact q
def zf (h1:PS X st t):PSs X [st] t:=by
 intro a s b H D I h;refine SG (thn (h1 a s b H D I h) λf s1 q=>?_);cases f with
 | next=>exact Ul q
 | ret v=>exact q
 | brk=>exact q
 | cont=>exact q
def Inv.quiet {a:List (Addr×Obj)}{b:St}{H:Hp}{s:X7}(I:Inv X a b H s):interactive X.env=false:=by simp[interactive,I.ok.kind]
def zqC (te:TE):TS:=λD a H=>te a H λ_ b=>D.nx a b
def jj (he:PE X e te)(f:SJ e none pos.line X.env=pure false:=by rfl):PS X (.Expr e pos) (zqC te):=by
 intro d s a H D I h;exact wpAny_Expr_any (thn (he d s a H _ I h) λv s1 ⟨x,b,c,i,g⟩=>⟨a,b,c,g⟩) I.quiet f
def zrE (te:TE):TS:=λD a H=>te a H D.rt
def zx (he:PE X e te):PS X (.Return (some e) pos) (zrE te):=by
 intro d s a H D I h;exact wpAny_Return_some (thn (he d s a H _ I h) λv s1 ⟨x,b,c,g,f⟩=>⟨x,a,b,c,g,f⟩)
def zrF (c:TT)(t u:TS):TS:=λD a H=>c a H λb d=>if b=true then t D a d else u D a d
def qJ {c:Expr}{a b:List Stmt}{l:TT}(o:PT X c l)(m:PSs X a t)(n:PSs X b u):PS X (.If c a b pos) (zrF l t u):=by
 intro e s f H D I h;refine wpAny_If (thn (o e s f H _ I h) λd s1 ⟨g,i,j⟩=>?_);cases d with
 | true=>exact m e s1 f g D i j
 | false=>exact n e s1 f g D i j
def zpa:TS:=λ_ _ _=>False
def zfh:PS X st zpa:=λ_ _ _ _ _ _ h=>h.elim
end
abbrev TG:=V->St->Hp->(St->Hp->Prop)->Prop
abbrev TGs:=AE->St->Hp->(St->Hp->Prop)->Prop
def PG (X:Cx)(a:Expr)(t:TG):Prop :=
 ∀(d:List (Addr×Obj)) (s:X7) (e:St) (H:Hp) (v:V) (u:X9) (Q:St->Hp->Prop),Inv X d e H s->RelV v u->t v e H Q ->
  Xe (Xg X.prog X.w) X.A (assign a X.env u) (λ_ f=>∃ b c,Inv X d b c f/\Q b c) X.xe s
def PGs (X:Cx)(h:List Expr)(t:TGs):Prop :=
 ∀(c:List (Addr×Obj)) (s:X7) (f:St) (H:Hp) (e:AE) (d:List X9) (Q:St->Hp->Prop),Inv X c f H s->Vals e d->t e f H Q ->
  Xe (Xg X.prog X.w) X.A (O6 ((To h X.env).map (·.2)) d) (λ_ g=>∃ a b,Inv X c a b g/\Q a b) X.xe s
abbrev zpb:=V->V->V->Hp->(Hp->Prop)->Prop
def zqD (X:Cx)(t:zpb):Prop :=
 ∀(b:List (Addr×Obj)) (s:X7) (e:St) (H:Hp) (o i v:V) (d c u:X9) (Q:Hp->Prop),Inv X b e H s->RelV o d->RelV i c->RelV v u->t o i v H Q ->
  Xe (Xg X.prog X.w) X.A (setItem d c u) (λ_ f=>∃a,Inv X b e a f/\Q a) X.xe s
abbrev TIp:=V->V->Hp->VK->Prop
def PIp (X:Cx)(op:Operator)(t:TIp):Prop :=
 ∀(a:List (Addr×Obj)) (s:X7) (b:St) (H:Hp) (x y:V) (v u:X9) (Q:VK),Inv X a b H s->RelV x v->RelV y u->t x y H Q ->
  Xe (Xg X.prog X.w) X.A (inplaceOp op v u) (EP X a b Q) X.xe s
section
variable {X:Cx}{pos:Pos}
def yS (i:Nat):TG:=λv a H Q=>Q (a.set i (some v)) H
def zh7 {i:Nat}{x:Str}(b:X.N.Nodup)(d:X.N[i]?=some x)(e:Loc X.env.scope x)(c:X.fn x=true\/X.env.scope.names.lookup x=some .local:=by first | exact .inl rfl | exact .inr rfl | assumption):PG X (.Name x pos) (yS i):=by
 intro f s j H v u Q I r h;exact wpAny_assign_Name (zag I b d e r (λg a=>⟨_,H,a,h⟩) c)
def zrG:TGs:=λa b H Q=>a=[]/\Q b H
def zqE (t:TG)(u:TGs):TGs:=λc d H Q=>∃v r,c=v::r/\t v d H fun a b=>u r a b Q
def qT:PGs X [] zrG:=by
 intro b s a H d c Q I r h;obtain⟨e,h⟩:=h;subst e;cases r;exact assignInOrder_nil ⟨a,H,I,h⟩
def zE {e:Expr}{a:List Expr}{t:TG}{u:TGs}(h1:PG X e t)(h2:PGs X a u)
  (i:(To (e::a) X.env).map (·.2)=assign e X.env::(To a X.env).map (·.2):=by rfl):PGs X (e::a) (zqE t u):=by
 intro c s m H p n Q I r h;obtain⟨v,o,g,h⟩:=h;subst g;cases r with
 | cons r l =>
  rw[i];refine R6 (thn (h1 c s m H _ _ _ I r h) λ_ s1 ⟨b,d,f,j⟩=>?_);exact h2 c s1 b d _ _ Q f l j
def zqF (K:XS)(n:Nat)(t:TGs):TG:=λv c H Q=>∃a b,v=.ref a/\SqT K H a b/\b.length=n/\t b c H Q
def jO {c:List Expr}{k:Nat}{t:TGs}{n:Nat}(q:X.calm=true)(h:PGs X c t)
  (x:(To c X.env).length=n:=by rfl) (d:(To c X.env).findIdx? (·.1)=none:=by rfl):PG X (.Tuple c k pos) (zqF X.K n t):=by
 intro g s j H v u Q I r f;revert f;refine d8 λa D m y w f=>?_;subst m;cases r;obtain⟨B,i,z,E⟩:=I.tuple y;refine assign_Tuple_tuple (I.ok.hd q) z (by simp[x,<- w,i.length]) d λp A=>?_;have l:Inv X g j H { s with heap:=p }:=I.kept (t':=s.toks) λb o e=>A b o (Xf (Xz e)) e;exact h g _ j H D _ Q l (by simpa using i) f
def zky (c:TE)(g:TG):TS:=λD a H=>c a H λx b=>g x a b D.nx
def zer {a e:Expr}{c:TE}{g:TG}(he:PE X e c)(j:PG X a g)(l:swapsWithSole [a] e pos.line X.env=pure false:=by rfl)(m:swappedStores [a] e X.env=pure none:=by rfl)
  (h1:(To [a] X.env).map (·.2)=[assign a X.env]:=by rfl):PS X (.Assign [a] e pos) (zky c g):=by
 intro b s d H D I h;refine wpAny_Assign_stores (thn (he b s d H _ I h) λv s1 ⟨x,f,i,o,n⟩=>?_) l m;rw[h1];exact thn (j b s1 d f x v _ i o n) λ_ p q=>q
def qh {i:Nat}{x:Str}{e:Expr}{b:TE}{a:Pos}(j:X.N.Nodup)(m:X.N[i]?=some x)(o:Loc X.env.scope x)(he:PE X e b)(n:SJ e (some (.Name x a)) pos.line X.env=pure false:=by rfl)(l:X.fn x=true\/X.env.scope.names.lookup x=some .local:=by first | exact .inl rfl | exact .inr rfl | assumption) :
  PS X (.Assign [.Name x a] e pos) (zky b (yS i)):=by
 intro g s r H D I h;refine wpAny_Assign_Name (thn (he g s r H _ I h) λv s1 ⟨y,c,d,q,p⟩=>?_) n;exact zag d j m o q (λu f=>⟨_,c,f,p⟩) l
def zrH (i j:Nat)(c:TA):TS:=λD a H=>c a H λd b=>∃v w,d=[v,w]/\D.nx ((a.set i (some v)).set j (some w)) b
def zpc {i j:Nat}{x y:Str}{a b:Expr}{J:TA}{g l pt:Pos}{kt k2 pt2}(hc:X.calm=true)(B:X.N.Nodup)(hi:X.N[i]?=some x)(hj:X.N[j]?=some y)(d:i≠j)
  (E:X.env.scope.names.lookup x=some .local) (G:X.env.scope.names.lookup y=some .local) (ha:PA X [a,b] J)
  (hw:swappedStores [.Tuple [.Name x g,.Name y l] kt pt] (.Tuple [a,b] k2 pt2) X.env=pure (some [x,y]))
  (hs:swapsWithSole [.Tuple [.Name x g,.Name y l] kt pt] (.Tuple [a,b] k2 pt2) pos.line X.env=pure false:=by rfl) :
  PS X (.Assign [.Tuple [.Name x g,.Name y l] kt pt] (.Tuple [a,b] k2 pt2) pos) (zrH i j J):=by
 intro z s L H D I h;rw[exec_Assign_arm];refine Y1 (RK ?_);rw[hs];refine Y1 (XQ ?_);rw[bq (by decide)];refine Y1 (Tuple_ (thn (ha _ z s L H _ I h) λus s1 ⟨vs,r,M,r1,m⟩=>?_));revert m;refine eO λv w Y m=>?_;subst Y;obtain⟨u1,c,rfl,rv,n⟩:∃u1 c,us=[u1,c]/\RelV v u1/\RelV w c:=by
  cases r1 with
  | cons p q =>
   cases q with
   | cons p' q' =>
    cases q';exact⟨_,_,rfl,p,p'⟩
 refine VJ ?_ (by show 2<=Xv;decide);have O:Inv X z L r { s1 with heap:=s1.heap.push { cls:=.type "tuple",data:=.seq [u1,c].toArray } }:=M.kept (t':=s1.toks) λb o e=>XW _ e;rw[hw];refine Y1 (XQ ?_);show Xe (Xg X.prog X.w) X.A (do rule "assign.swapped-stores";let items <- unpackItems (.ref s1.heap.objs.size) 2 none;O6 [λv=>Oy X.env y v,λv=>Oy X.env x v] items.reverse;pure Flow.next) _ _ _;refine Y1 (Vd (Y1 (unpackItems_tuple (items:=#[u1,c]) (I.ok.hd hc) (IsTup.new s1.heap _) λh' f=>?_)));have Q:=O.kept (h':=h') (t':=s1.toks) λb o e=>f b o (Xf (Xz e)) e;show Xe _ _ (O6 [λv=>Oy X.env y v,λv=>Oy X.env x v] [c,u1] >>= λ_=>pure Flow.next) _ _ _;refine Y1 (R6 (wpAny_bindName (zag Q B hj (.inl G) n (λs2 U=>?_) (.inr G))));refine R6 (wpAny_bindName (zag U B hi (.inl E) rv (λs3 u=>assignInOrder_nil (XQ ?_)) (.inr E)));rw[List.set_comm _ _ (Vq d)]at u;exact⟨_,r,u,m⟩
def zqG (p n m:TE)(a:V->V->Hp->VK->Prop)(d:TIp)(b:zpb):TS:=λD c H=>p c H λo e=>n c e λi f=>a o i f λx g=>m c g λy h=>d x y h λz j=>b o i z j λl=>D.nx c l
def zqH (X:Cx)(t:V->V->Hp->VK->Prop):Prop :=
 ∀(a:List (Addr×Obj)) (s:X7) (d:St) (H:Hp) (o i:V) (c b:X9) (Q:VK),Inv X a d H s->RelV o c->RelV i b->t o i H Q ->
  Xe (Xg X.prog X.w) X.A (getItem c b) (EP X a d Q) X.xe s
def zh8 {o i e:Expr}{w u r:TE}{b:V->V->Hp->VK->Prop}{l:TIp}{c:zpb}{op:Operator}{m:Pos}(ho:PE X o w)(hi:PE X i u)(hg:zqH X b)(he:PE X e r)(hp:PIp X op l)(hs:zqD X c)
  (Y:∀f d a,augStore i f d a=(do holding [a,f,d] (setItem f d a);release [a,f,d] [];pure .next):=by intros;rfl):PS X (.AugAssign (.Subscript o i m) op e pos) (zqG w u r b l c):=by
 intro j s g H D I h;refine wpAny_AugAssign_SubscriptAny (thn (ho j s g H _ I h) λf s1 ⟨x,z,L,p,q1⟩=>?_) Y;refine thn (hi j s1 g z _ L q1) λd s2 ⟨y,A,M,q,q2⟩=>?_;refine thn (hg j s2 g A x y f d _ M p q q2) λn s3 ⟨x3,B,N,r3,q3⟩=>?_;refine thn (he j s3 g B _ N q3) λv s4 ⟨x4,E,O,r4,q4⟩=>?_;refine thn (hp j s4 g E x3 x4 n v _ O r3 r4 q4) λa s5 ⟨x5,G,Q,r5,q5⟩=>?_;exact thn (hs j s5 g G x y x5 f d a _ Q p q r5 q5) λ_ s6 ⟨J,U,q6⟩=>⟨g,J,U,q6⟩
def ipI (f:Int->Int->Int):TIp:=λx y H Q=>∃i j,x=.int i/\y=.int j/\Q (.int (f i j)) H
def zkz:PIp X .Add (ipI λi j=>i+j):=by
 intro e s g H x y v u Q I c d h;obtain⟨i,j,a,b,q⟩:=h;subst a;subst b;obtain⟨t,rfl⟩:=c;obtain⟨f,rfl⟩:=d;exact iadd_int ⟨.int _,H,I.tok _,⟨_,rfl⟩,q⟩
def zpd (c:TT)(h:TS):TS:=λD a H=>∃W:Nat->St->Hp->Prop,(∃m,W m a H)/\∀m a H,W m a H ->
 c a H λb f=>if b=true then ∃N:St->Hp->Prop,(∀ d e,N d e->∃g,g<m/\W g d e)/\h { D with nx:=N,ct:=N,bk:=D.nx } a f else D.nx a f
def zkA {c:Expr}{e:List Stmt}{M:TT}{L:TS}(J:PassesOwn (Xg X.prog X.w) X.A X.env X.xe)(U:PT X c M)(Q:PSs X e L):PS X (.While c e [] pos) (zpd M L):=by
 intro p s σ H D I h;obtain⟨W,⟨Y,w0⟩,i⟩:=h;refine wpAny_While (codeAny_whileLoop (λn s'=>∃ j y,Inv X p j y s'/\W n j y) ?_ Y ⟨σ,H,I,w0⟩);refine λn s1=>eO λd z O w1=>?_;refine UR J (thn (U p s1 d z _ O (i n d z w1)) λb s2 ⟨B,E,l⟩=>?_);cases b with
 | true =>
  obtain⟨N,G,l⟩:=l;rw[bw rfl];refine UR J (thn (Q p s2 d B _ E l) λf s3 m=>?_);cases f with
  | next =>
   revert m;refine eO λa g o u=>?_;obtain⟨r,q,x⟩:=G a g u;exact⟨r,q,a,g,o,x⟩
  | cont =>
   revert m;refine eO λa g o u=>?_;obtain⟨r,q,x⟩:=G a g u;exact⟨r,q,a,g,o,x⟩
  | brk=>exact m
  | ret v=>exact m
 | false =>
  rw[bq XU];exact Ul ⟨d,B,E,l⟩
end
structure It where
 go:Nat->Hp->Prop
 yld:Nat->Hp->V->Hp->Prop
 stop:Nat->Hp->Prop
def zai (X:Cx)(a:List (Addr×Obj))(H:Hp)(b:Addr):Prop :=
 H b=none/\b≠X.env.locals/\b ∉ X.fs/\(b∈X.ex\/X.s₀.heap.objs.size<=b)/\(∀x c,X.env.cells.lookup x=some c->c≠b)/\∀p∈X.pn++a,p.1≠b
def Inv.fpOk {X:Cx}{f:List (Addr×Obj)}{i:St}{H d:Hp}{s:X7}{b:Addr}(I:Inv X f i H s)(a:s.heap.objs.size<=b)(g:d b=none):zai X f d b:=by
 refine⟨g,TW (Xi I.lt a),I.nofs a,.inr (X6 I.sz a),λx c e z=>?_,λp h z=>?_⟩
 .obtain⟨v,q⟩:=I.cell x c e;exact absurd (Xi q.lt (by rw[z];exact a)) (VG _)
 .exact absurd (Xi (Xz (I.pin p h).1) (by rw[z];exact a)) (VG _)
structure Turn (P:Xh)(w:W2)(K:XS)(tg:Expr)(J:It)(fp:List Addr)(it:Addr)(tn:Nat->Heap->Prop):Prop where
 mem:it∈fp
 obj:∀i h,tn i h->∀b∈fp,∃o,h.get? b=some o/\∀v,o.data ≠ .cell v
 keep:∀i h h',tn i h->(∀b∈fp,∀o,h.get? b=some o->h'.get? b=some o)->tn i h'
 item:∀(X:Cx),X.prog=P->X.w=w->X.K=K->X.calm=true->∀(i:Nat) (bz:List (Addr×Obj)) (s:X7) (σ:St) (H:Hp) (E:X9->X7->Prop),Inv X bz σ H s->(∀b∈fp,zai X bz H b)->tn i s.heap->J.go i H ->
  Xe (Xg P w) X.A (Sa (.ref it)) (λr s1=>∃u,r=some u /\
   Xe (Xg P w) X.A (So tg (.ref it) u) (λ_ s2=>∃x H',Inv X bz σ H' s2/\RelV x u/\J.yld i H x H'/\tn (i+1) s2.heap/\∀b∈fp,H' b=none) E s1) E s
 done:∀(X:Cx),X.prog=P->X.w=w->X.K=K->X.calm=true->∀(i:Nat) (bz:List (Addr×Obj)) (s:X7) (σ:St) (H:Hp) (E:X9->X7->Prop),Inv X bz σ H s->(∀b∈fp,zai X bz H b)->tn i s.heap->J.stop i H ->
  Xe (Xg P w) X.A (Sa (.ref it)) (λr s1=>r=none/\Inv X bz σ H s1) E s
 self:∀(A:WO) (i:Nat) (s:X7) (Q:X9->X7->Prop) (E:X9->X7->Prop),tn i s.heap->Q (.ref it) s->Xe (Xg P w) A (pyIter (.ref it)) Q E s
abbrev TI:=St->Hp->(It->Hp->Prop)->Prop
def PIE (X:Cx)(d:List (Addr×Obj))(j:St)(i:Expr)(R:It->Hp->Prop)(c:X9)(g:X7):Prop :=
 ∃(f:Addr) (e:List Addr) (h:Nat->Heap->Prop) (J:It) (a:Hp),c=.ref f/\Inv X d j a g/\Turn X.prog X.w X.K i J e f h/\h 0 g.heap/\(∀b∈e,zai X d a b)/\R J a
def PI (X:Cx)(d a:Expr)(e:TI):Prop :=
 ∀(c:List (Addr×Obj)) (s:X7) (b:St) (H:Hp) (R:It->Hp->Prop),Inv X c b H s->e b H R ->
  Xe (Xg X.prog X.w) X.A (eval a X.env) (λv s1=>Xe (Xg X.prog X.w) X.A (pyIter v) (PIE X c b d R) X.xe s1) X.xe s
def zok {M:Model}{A:WO}{E:X9->X7->Prop}{s:X7}{b:Expr}{it:Addr}{u:X9}{o:Obj}{n:String}{vs:Array X9}{Q:Unit->X7->Prop}(f:s.heap.get? it=some o)(c:o.cls=.type n)(d:o.data=.fields vs)
    (e:["enumerate","zip","dict_itemiterator","dict_reverseitemiterator","odict_iterator","itertools.zip_longest","itertools.pairwise"].contains n=false) (a:Q () s):Xe M A (So b (.ref it) u) Q E s:=by
  unfold So;cases b<;>first
    | exact XQ a
    | (cases u<;>first
        | exact XQ a
        | (refine Y1 (wpAny_load f ?_)
           rw[c,d]
           show Xe M A (if (["enumerate","zip","dict_itemiterator","dict_reverseitemiterator","odict_iterator","itertools.zip_longest","itertools.pairwise"].contains n&&vs[0]?==some (Ue _))=true then _ else _) Q E s
           rw[bq (by intro h;rw[e,PB]at h;cases h)]
           exact XQ a))
def Itl (K:XS)(a:Addr):It :=
 ⟨λi H=>∃b x,SqL K H a b/\b[i]?=some x,λi H x c=>c=H/\∀b,SqL K H a b->b[i]?=some x,λi H=>∃b,SqL K H a b/\b.length<=i⟩
def Itr (lo:Int)(n:Nat):It:=⟨λi _=>i<n,λi H x a=>a=H/\x=.int (lo+i),λi _=>n<=i⟩
def zjd {P:Xh}{w:W2}{K:XS}{tg:Expr}(a it:Addr):Turn P w K tg (Itl K a) [it] it (λi h=>h.IsListIter it a i) where
 mem:=by simp
 obj:=λi h st b hb=>by
  have e:b=it:=by simpa using hb
  subst e;obtain⟨o,e,c,d⟩:=st;exact⟨o,e,λv z=>by rw[d]at z;cases z⟩
 keep:=λi h h' st k=>st.at λo e=>k it (by simp) o e
 item:=by
  intro X hP hw hK hc i bz s σ H E I hf st hg;subst hP hw hK;revert hg;refine eO λxs x hq hx=>?_;refine eS (λits rv p hz=>?_) (I.list hq);obtain⟨u,hu,ru⟩:=rv.get hx;refine fm (λf0 f1 f2 f3 f4 f5=>?_) (hf it (by simp));refine wpAny_pyNext_list_item st p.isList (x:=u) (by simpa using hu) λh' st' sb=>?_;have I1:Inv X bz σ H { s with heap:=h' }:=I.turned (t':=s.toks) (λb o hb e=>(sb.2 b hb).trans e) f0 f1 f3 f4 f5;refine eS (λo e c d=>?_) (id st');exact⟨u,rfl,zok (s:={ s with heap:=h' }) e c d (by decide) (cU x H I1 ru ⟨rfl,λys hy=>by rw[I.list_inj hy hq];exact hx⟩ st' (λb hb=>(hf b hb).1))⟩
 done:=by
  intro X hP hw hK hc i bz s σ H E I hf st hg;subst hP hw hK;obtain⟨xs,hq,hx⟩:=hg;obtain⟨its,rv,p,hz⟩:=I.list hq;refine fm (λf0 f1 f2 f3 f4 f5=>?_) (hf it (by simp));have hl:=rv.length;exact wpAny_pyNext_list_end (I.ok.hd hc) st p.isList (by simp;lia) λh' eb=>⟨rfl,I.turned (t':=s.toks) (λb o hb e=>eb b o hb e) f0 f1 f3 f4 f5⟩
 self:=λ_ _ _ _ _ st h=>wpAny_pyIter_listiter st h
def zgW {P:Xh}{w:W2}{K:XS}{tg:Expr}(it:Addr)(lo:Int)(n:Nat):Turn P w K tg (Itr lo n) [it] it (λi h=>IsRangeIter h it (lo+(i:Nat)*1) ((n:Int)-(i:Nat)) 1) where
 mem:=by simp
 obj:=λi h st b hb=>by
  have e:b=it:=by simpa using hb
  subst e;exact⟨_,st,λv z=>by
   have z':Data.fields _=Data.cell v:=z;cases z'⟩
 keep:=λi h h' st k=>k it (by simp) _ st
 item:=by
  intro X hP hw hK hc i bz s σ H E I hf st hg;subst hP hw hK;refine fm (λf0 f1 f2 f3 f4 f5=>?_) (hf it (by simp));have W:=Walks.range (prog:=X.prog) (w:=X.w) (I.ok.hd hc) it lo 1 n;refine W.item i s _ _ hg st λv h' tk hv st' kk=>?_;obtain⟨t,rfl⟩:=hv;have I1:Inv X bz σ H { s with heap:=h',toks:=tk }:=I.turned (λb o hb e=>kk b o (by simpa using hb) e) f0 f1 f3 f4 f5;refine⟨_,rfl,zok (s:={ s with heap:=h',toks:=tk }) (n:="range_iterator") st' rfl rfl (by decide) (cU (.int (lo+i)) H I1 ⟨t,?_⟩ ⟨rfl,rfl⟩ st' (λb hb=>(hf b hb).1))⟩;rw[Int.mul_one]
 done:=by
  intro X hP hw hK hc i bz s σ H E I hf st hg;subst hP hw hK;refine fm (λf0 f1 f2 f3 f4 f5=>?_) (hf it (by simp));exact wpAny_pyNext_range_end (I.ok.hd hc) st (by have:n<=i:=hg;lia) λh' eb=>⟨rfl,I.turned (t':=s.toks) (λb o hb e=>eb b o hb e) f0 f1 f3 f4 f5⟩
 self:=λ_ _ _ _ _ st h=>wpAny_pyIter_rangeiter st h
section
variable {X:Cx}{tg:Expr}
def zkB (K:XS)(tl:TE):TI:=fun d H R=>tl d H λx b=>∃a,x=.ref a/\(∃c,SqL K b a c)/\R (Itl K a) b
def zw {l:Expr}{tl:TE}(i:PE X l tl):PI X tg l (zkB X.K tl):=by
 intro f s u H R I h;refine thn (i f s u H _ I h) λv s1 ⟨x,d,c,r,n⟩=>?_;obtain⟨a,e,⟨z,j⟩,q⟩:=n;subst e;cases r;obtain⟨m,y,p,w⟩:=c.list j;refine S4 p.isList ?_;refine dN s1.heap.objs.size [s1.heap.objs.size] (dg d rfl (c.kept (t':=s1.toks) λb o e=>XW _ e) (zjd a _) ⟨_,W4 _ rfl,rfl,rfl⟩ (λb g=>?_) q);have e:b=s1.heap.objs.size:=by simpa using g
 subst e;exact c.fpOk (XT _) (c.hok.fresh (XT _))
def zfi {d:List (Addr×Obj)}{f:St}{H:Hp}{s:X7}{R:It->Hp->Prop}{E:X9->X7->Prop}{lo a:Int}{t u v:Tok}{tk:Nat}(I:Inv X d f H s)(h1:-(2^62)<=lo)(h2:lo<2^62)(i:-(2^62)<=a)(j:a<2^62)
  (q:R (Itr lo (a-lo).toNat) H):Xe (Xg X.prog X.w) X.A (pyIter (.ref s.heap.objs.size)) (PIE X d f tg R) E { s with heap:=s.heap.push { cls:=.type "range",data:=.fields #[.int lo t,.int a u,.int 1 v] },toks:=tk }:=by
 refine wpAny_pyIter_range (IsRange.new ..) (small_one h1 h2 i j) ?_;have c:Inv X d f H { s with heap:=s.heap.push { cls:=.type "range",data:=.fields #[.int lo t,.int a u,.int 1 v] },toks:=tk }:=I.kept λb o e=>XW _ e;refine dN (s.heap.push { cls:=.type "range",data:=.fields #[.int lo t,.int a u,.int 1 v] }).objs.size [(s.heap.push { cls:=.type "range",data:=.fields #[.int lo t,.int a u,.int 1 v] }).objs.size] (dg H rfl (c.kept (t':=tk) λb o e=>XW _ e) (zgW _ lo (a-lo).toNat) ?_ (λb l=>?_) q)
 .have g:lo+((0:Nat):Int)*1=lo:=by simp
  have h:(((a-lo).toNat:Nat):Int)-((0:Nat):Int)=Builtin.Range.rangeSize lo a 1:=by rw[rangeSize_one];split<;>lia
  show IsRangeIter _ _ (lo+((0:Nat):Int)*1) ((((a-lo).toNat:Nat):Int)-((0:Nat):Int)) 1;rw[g,h];exact W4 _ rfl
 .have e:b=(s.heap.push { cls:=.type "range",data:=.fields #[.int lo t,.int a u,.int 1 v] }).objs.size:=by simpa using l
  subst e;exact c.fpOk (XT _) (c.hok.fresh (XT _))
def zol (b:TA):TI:=fun d H R=>b d H λc a=>∃j:Int,c=[.int j]/\-(2^62)<=j/\j<2^62/\R (Itr 0 j.toNat) a
def zqI (b:TA):TI:=fun d H R=>b d H λc a=>∃i j:Int,c=[.int i,.int j]/\(-(2^62)<=i/\i<2^62/\-(2^62)<=j/\j<2^62)/\R (Itr i (j-i).toNat) a
def zje {a:Expr}{c:TA}{p pos:Pos}(i:Gl X "range")(l:X.mg "range"=none)(g:PA X [a] c)(m:WU [a] X.env=[(false,eval a X.env)]:=by rfl):PI X tg (.Call (.Name "range" p) [a] [] pos) (zol c):=by
 intro f s v H R I h;refine Call_ (za0 I i l boot_range (Vy (thn (g pos f s v H _ I h) λx s1 ⟨y,w,d,o,b⟩=>?_) m rfl));obtain⟨j,e,b,n,q⟩:=b;subst e;cases o with
 | cons r u =>
  cases u;obtain⟨t,rfl⟩:=r;exact call_range_1 (zfi d (by lia) (by lia) b n (by simpa using q))
def za2 {a b:Expr}{g:TA}{p pos:Pos}(o:Gl X "range")(u:X.mg "range"=none)(n:PA X [a,b] g)(v:WU [a,b] X.env=[(false,eval a X.env),(false,eval b X.env)]:=by rfl)(c:WU [b] X.env=[(false,eval b X.env)]:=by rfl) :
  PI X tg (.Call (.Name "range" p) [a,b] [] pos) (zqI g):=by
 intro m s B H R I h;refine Call_ (za0 I o u boot_range (Vy (thn (n pos m s B H _ I h) λG s1 ⟨J,D,l,A,d⟩=>?_) (by rw[v,c]) (by rw[c];rfl)));obtain⟨i,j,e,⟨d,w,x,y⟩,q⟩:=d;subst e;cases A with
 | cons r f =>
  cases f with
  | cons z f =>
   cases f;obtain⟨t,rfl⟩:=r;obtain⟨E,rfl⟩:=z;exact call_range_2 (zfi l d w x y q)
def zrI (l:TI)(g:TG)(j:TS):TS:=λD a H=>l a H λJ f=>∃W:Nat->Nat->St->Hp->Prop,(∃m,W 0 m a f)/\∀i m a H,W i m a H ->
 (J.stop i H/\D.nx a H)\/(J.go i H/\∃N:St->Hp->Prop,(∀ c b,N c b->∃e,e<m/\W (i+1) e c b)/\∀x b,J.yld i H x b->g x a b fun d h=>j { D with nx:=N,ct:=N,bk:=D.nx } d h)
def zb7 (fp:List Addr)(h:Heap):List (Addr×Obj):=fp.filterMap λb=>(h.get? b).map λo=>(b,o)
def ZY {fp:List Addr}{h:Heap}{b:Addr}{o:Obj}(a:b∈fp)(e:h.get? b=some o):(b,o)∈zb7 fp h:=Tl.mpr ⟨b,a,by rw[e];rfl⟩
def zjf {fp:List Addr}{h:Heap}{p:Addr×Obj}(d:p∈zb7 fp h):p.1∈fp/\h.get? p.1=some p.2:=by
 obtain⟨b,c,e⟩:=Tl.mp d;cases q:h.get? b with
 | none=>rw[q]at e;cases e
 | some o =>
  rw[q]at e;have a:(b,o)=p:=Option.some.inj e;subst a;exact⟨c,q⟩
def Inv.pinned {a:List (Addr×Obj)}{g:St}{H:Hp}{s:X7}{fp:List Addr}(I:Inv X a g H s)(l:∀b∈fp,zai X a H b)(m:∀b∈fp,∃o,s.heap.get? b=some o/\∀v,o.data ≠ .cell v):Inv X (a++zb7 fp s.heap) g H s :=
 I.pins_of λp n=>(XM.mp n).elim (λz=>I.pin p (WV _ z)) λz=>by
  obtain⟨f,e⟩:=zjf z;refine eZ (λh i j _=>?_) (l p.1 f);obtain⟨o,c,d⟩:=m p.1 f;rw[e]at c;cases c;exact⟨e,h,i,j,d⟩
def Inv.unpinned {a d:List (Addr×Obj)}{b:St}{H:Hp}{s:X7}(I:Inv X (a++d) b H s):Inv X a b H s:=I.pins_of λp c=>I.pin p (WV _ (WX _ c))
def qx {p:Expr}{E:List Stmt}{wi:TI}{g:TG}{tb:TS}{pos:Pos}(U:PassesOwn (Xg X.prog X.w) X.A X.env X.xe)(hc:X.calm=true)(hi:PI X tg p wi)(hg:PG X tg g)(l:PSs X E tb)
  (hs:∀x,VI p X.env x=pure x:=by intro _;rfl):PS X (.For tg p E [] pos) (zrI wi g tb):=by
 intro L s σ H D I h;refine wpAny_For (thn (hi L s σ H _ I h) λv s1 h1=>thn h1 λai s2 h2=>?_) hs;obtain⟨it,O,tn,J,H2,e,I2,T,ag,f2,W,⟨m0,w0⟩,ac⟩:=h2;subst e;have q:∀{B:Hp},(∀b∈O,B b=none)->∀b∈O,zai X L B b:=λhn b l=>⟨hn b l,(f2 b l).2⟩;refine codeAny_forLoop_any (λn s'=>∃i y B,Inv X L y B s'/\tn i s'.heap/\(∀b∈O,B b=none)/\W i n y B) ?_ m0 ⟨0,σ,H2,I2,ag,λb l=>(f2 b l).1,w0⟩;refine λn s3=>eU λi z H3 I3 aa Q w3=>?_;rcases ac i n z H3 w3 with ⟨ab,qn⟩ | ⟨go,N,hN,step⟩
 .refine UR U (thn (T.done X rfl rfl rfl hc i L s3 z H3 X.xe I3 (q Q) aa ab) λr s4 ⟨hr,I4⟩=>?_);subst hr;exact Ul ⟨z,H3,I4,qn⟩
 .refine UR U (thn (T.item X rfl rfl rfl hc i L s3 z H3 X.xe I3 (q Q) aa go) λr s4 ⟨u,hr,h4⟩=>?_);subst hr;refine UR U (thn h4 λ_ s5 ⟨x,H5,I5,r5,y5,M,af⟩=>?_);have ae:=I5.pinned (q af) (T.obj _ _ M);refine UR U (thn (hg _ s5 z H5 x u _ ae r5 (step x H5 y5)) λ_ s6 ⟨ah,H6,I6,q6⟩=>?_);refine UR U (thn (l _ s6 ah H6 _ I6 q6) λf s7 G=>?_);have OF:∀{a:St} {c:Hp},Inv X (L++zb7 O s5.heap) a c s7->N a c->∃m,m<n/\∃i y B,Inv X L y B s7/\tn i s7.heap/\(∀b∈O,B b=none)/\W i m y B:=λ{a c} j Y=>by
   obtain⟨m',hm,w7⟩:=hN a c Y;refine cW m' hm (dD (i+1) a c j.unpinned (T.keep _ _ _ M λb l o e=>(j.pin (b,o) (WV _ (WV _ (ZY l e)))).1) (λb l=>?_) w7);obtain⟨o,e,d⟩:=T.obj _ _ M b l;exact(j.pin (b,o) (WV _ (WV _ (ZY l e)))).2.1
  cases f with
  | next=>revert G;refine eO λa c j Y=>?_;exact OF j Y
  | cont=>revert G;refine eO λa c j Y=>?_;exact OF j Y
  | brk=>revert G;refine eO λa c j G=>?_;exact⟨a,c,j.unpinned,G⟩
  | ret v=>revert G;refine fh λx7 a c j r7 G=>?_;exact⟨x7,a,c,j.unpinned,r7,G⟩
end
def jF {K:XS}{a:Addr}{xs:AE}{g:TG}{n:TS}{D:Ends}{b:St}{H:Hp}(Pv:Nat->St->Hp->Prop)(h0:Pv 0 b H)(s:∀i b H,i<=xs.length->Pv i b H->SqL K H a xs)
  (u:∀i x b H,xs[i]?=some x->Pv i b H->g x b H fun f j=>n { D with nx:=Pv (i+1),ct:=Pv (i+1),bk:=D.nx } f j) (o:∀ b H,Pv xs.length b H->D.nx b H) :
  ∃W:Nat->Nat->St->Hp->Prop,(∃m,W 0 m b H)/\∀i m b H,W i m b H ->
   ((Itl K a).stop i H/\D.nx b H)\/((Itl K a).go i H/\∃N:St->Hp->Prop,(∀ d c,N d c->∃l,l<m/\W (i+1) l d c)/\∀x c,(Itl K a).yld i H x c->g x b c fun f j=>n { D with nx:=N,ct:=N,bk:=D.nx } f j):=by
 refine⟨λi m b H=>m=xs.length-i/\i<=xs.length/\Pv i b H,⟨xs.length,by simp,W1 _,h0⟩,?_⟩;rintro i m b H ⟨rfl,r,p⟩;have q:=s i b H r p;by_cases h:i<xs.length
 .refine .inr ⟨⟨xs,xs[i],q,by simp[h]⟩,Pv (i+1),fun d c v=>⟨xs.length-(i+1),by lia,rfl,h,v⟩,λx c y=>?_⟩;obtain⟨e,y⟩:=y;subst e;exact u i x b _ (y xs q) p
 .have e:i=xs.length:=by lia
  subst e;exact .inl ⟨⟨xs,q,XT _⟩,o b H p⟩
def ja {lo:Int}{n:Nat}{g:TG}{l:TS}{D:Ends}{a:St}{H:Hp}(Pv:Nat->St->Hp->Prop)(h0:Pv 0 a H)
  (q:∀i a H,i<n->Pv i a H->g (.int (lo+i)) a H fun f h=>l { D with nx:=Pv (i+1),ct:=Pv (i+1),bk:=D.nx } f h) (o:∀ a H,Pv n a H->D.nx a H) :
  ∃W:Nat->Nat->St->Hp->Prop,(∃m,W 0 m a H)/\∀i m a H,W i m a H ->
   ((Itr lo n).stop i H/\D.nx a H)\/((Itr lo n).go i H/\∃N:St->Hp->Prop,(∀ d b,N d b->∃j,j<m/\W (i+1) j d b)/\∀x b,(Itr lo n).yld i H x b->g x a b fun f h=>l { D with nx:=N,ct:=N,bk:=D.nx } f h):=by
 refine⟨λi m a H=>m=n-i/\i<=n/\Pv i a H,⟨n,by simp,W1 _,h0⟩,?_⟩;rintro i m a H ⟨rfl,s,p⟩;by_cases c:i<n
 .refine .inr ⟨c,Pv (i+1),fun d b r=>⟨n-(i+1),by lia,rfl,c,r⟩,λx b y=>?_⟩;obtain⟨e,y⟩:=y;subst e y;exact q i a _ c p
 .have e:i=n:=by lia
  subst e;exact .inl ⟨XT _,o a H p⟩
abbrev R2:=V->V->Hp->VK->Prop
def OpR (X:Cx)(f:X9->X9->Sem X9)(r:R2):Prop :=
 ∀(a:List (Addr×Obj)) (s:X7) (b:St) (H:Hp) (x y:V) (v u:X9) (Q:VK),Inv X a b H s->RelV x v->RelV y u->r x y H Q ->
  Xe (Xg X.prog X.w) X.A (f v u) (EP X a b Q) X.xe s
def UnR (X:Cx)(f:X9->Sem X9)(r:V->Hp->VK->Prop):Prop :=
 ∀(a:List (Addr×Obj)) (s:X7) (b:St) (H:Hp) (x:V) (v:X9) (Q:VK),Inv X a b H s->RelV x v->r x H Q ->
  Xe (Xg X.prog X.w) X.A (f v) (EP X a b Q) X.xe s
def jk (X:Cx)(f:X9)(r:AE->Hp->VK->Prop):Prop :=
 ∀(a:List (Addr×Obj)) (s:X7) (d:St) (H:Hp) (c:AE) (b:List X9) (Q:VK),Inv X a d H s->Vals c b->r c H Q ->
  Xe (Xg X.prog X.w) X.A (call f b) (EP X a d Q) X.xe s
def zrJ (X:Cx)(r:V->Hp->(Bool->Hp->Prop)->Prop):Prop :=
 ∀(a:List (Addr×Obj)) (s:X7) (b:St) (H:Hp) (x:V) (v:X9) (Q:Bool->Hp->Prop),Inv X a b H s->RelV x v->r x H Q ->
  Xe (Xg X.prog X.w) X.A (truthy v) (TP X a b Q) X.xe s
def tOp (r:R2)(d e:TE):TE:=fun a H Q=>d a H λx b=>e a b λy c=>r x y c Q
def tUn (r:V->Hp->VK->Prop)(b:TE):TE:=fun c H Q=>b c H λx a=>r x a Q
def rI (C:Int->Int->Prop)(g:Int->Int->V):R2:=λx y H Q=>∃i j,x=.int i/\y=.int j/\C i j/\Q (g i j) H
def rI0 (g:Int->Int->V):R2:=λx y H Q=>∃i j,x=.int i/\y=.int j/\Q (g i j) H
def rU (g:Int->V):V->Hp->VK->Prop:=λx H Q=>∃i,x=.int i/\Q (g i) H
section
variable {X:Cx}{a b c:Expr}{ta tb tc:TE}{pos:Pos}
def zpe (o:PE X a ta)(p:PE X b tb){i:List (Addr×Obj)}{s:X7}{d:St}{H:Hp}{R:V->V->Hp->Prop}(I:Inv X i d H s)
  (h:ta d H λx l=>tb d l λy c=>R x y c) {Q:X9->X7->Prop} {f:X9->X9->Sem X9}
  (q:∀v u j x y c,Inv X i d c j->RelV x v->RelV y u->R x y c->Xe (Xg X.prog X.w) X.A (f v u) Q X.xe j) :
  Xe (Xg X.prog X.w) X.A (eval a X.env) (λv e=>Xe (Xg X.prog X.w) X.A (eval b X.env) (λu g=>Xe (Xg X.prog X.w) X.A (f v u) Q X.xe g) X.xe e) X.xe s:=by
 refine thn (o i s d H _ I h) λv s1 ⟨x,l,m,B,r⟩=>?_;refine thn (p i s1 d l _ m r) λu j ⟨y,c,n,D,z⟩=>?_;exact q v u j x y c n B D z
def zK {op:Operator}{r:R2}(i:OpR X (T7 op) r)(f:PE X a ta)(g:PE X b tb):PE X (.BinOp a op b pos) (tOp r ta tb):=by
 intro e s n H Q I h;exact wpAny_BinOp (zpe f g I h λv u m x y c d j l q=>i e m n c x y v u Q d j l q)
def zqJ {op:UnaryOp}{r:V->Hp->VK->Prop}(g:UnR X (unaryOp op) r)(f:PE X a ta):PE X (.UnaryOp op a pos) (tUn r ta):=by
 intro b s c H Q I h;exact UnaryOp_ (thn (f b s c H _ I h) λv s1 ⟨x,d,e,j,i⟩=>g b s1 c d x v Q e j i)
def opI {f:X9->X9->Sem X9}{C:Int->Int->Prop}{g:Int->Int->Int}
  (rule:∀(i j:Int) (t u:Tok) (s:X7) (Q:X9->X7->Prop) (E:X9->X7->Prop),C i j->Q (.int (g i j) s.toks) { s with toks:=s.toks+1 }->Xe (Xg X.prog X.w) X.A (f (.int i t) (.int j u)) Q E s) :
  OpR X f (rI C λi j=>.int (g i j)):=by
 intro e s l H x y v u Q I b c h;revert h;refine d8 λi j z0 z1 a q=>?_;subst z0 z1;obtain⟨t,rfl⟩:=b;obtain⟨d,rfl⟩:=c;exact rule i j t d s _ _ a ⟨.int (g i j),H,I.tok _,⟨_,rfl⟩,q⟩
def zqK {f:X9->X9->Sem X9}{g:Int->Int->Int}
  (rule:∀(i j:Int) (t u:Tok) (s:X7) (Q:X9->X7->Prop) (E:X9->X7->Prop),Q (.int (g i j) s.toks) { s with toks:=s.toks+1 }->Xe (Xg X.prog X.w) X.A (f (.int i t) (.int j u)) Q E s) :
  OpR X f (rI0 λi j=>.int (g i j)):=by
 intro d s e H x y v u Q I a b h;obtain⟨i,j,rfl,rfl,q⟩:=h;obtain⟨t,rfl⟩:=a;obtain⟨c,rfl⟩:=b;exact rule i j t c s _ _ ⟨.int (g i j),H,I.tok _,⟨_,rfl⟩,q⟩
def zpf {f:X9->X9->Sem X9}{g:Int->Int->Bool}
  (rule:∀(i j:Int) (t u:Tok) (s:X7) (Q:X9->X7->Prop) (E:X9->X7->Prop),Q (.bool (g i j)) s->Xe (Xg X.prog X.w) X.A (f (.int i t) (.int j u)) Q E s) :
  OpR X f (rI0 λi j=>.bl (g i j)):=by
 intro d s e H x y v u Q I a b h;obtain⟨i,j,rfl,rfl,q⟩:=h;obtain⟨t,rfl⟩:=a;obtain⟨c,rfl⟩:=b;exact rule i j t c s _ _ ⟨.bl (g i j),H,I,rfl,q⟩
def ZZ:OpR X (T7 .Add) (rI0 λi j=>.int (i+j)):=zqK λ_ _ _ _ _ _ _ q=>add_int q
def Zq:OpR X (T7 .Sub) (rI0 λi j=>.int (i-j)):=zqK λ_ _ _ _ _ _ _ q=>sub_int q
def yU:OpR X (T7 .Mod) (rI (λ_ j=>0<j) λi j=>.int (i%j)):=opI λi j _ _ _ _ _ a q=>by
 have h1:(0:Int)<j:=a;exact mod_int' (by lia) (by rw[Int.fmod_eq_emod_of_nonneg i (by lia)];exact q)
def unI {f:X9->Sem X9}{g:Int->Int}
  (rule:∀(i:Int) (t:Tok) (s:X7) (Q:X9->X7->Prop) (E:X9->X7->Prop),Q (.int (g i) s.toks) { s with toks:=s.toks+1 }->Xe (Xg X.prog X.w) X.A (f (.int i t)) Q E s) :
  UnR X f (rU λi=>.int (g i)):=by
 intro b s c H x v Q I a h;obtain⟨i,rfl,q⟩:=h;obtain⟨t,rfl⟩:=a;exact rule i t s _ _ ⟨.int (g i),H,I.tok _,⟨_,rfl⟩,q⟩
def zpg:UnR X (unaryOp .USub) (rU λi=>.int (-i)):=unI λ_ _ _ _ _ q=>neg_int q
def zqL:V->V->Bool
 | .non,.non=>true | .non,.int _=>true | .int _,.non=>true | .non,.bl _=>true | .bl _,.non=>true | .non,.str _=>true | .str _,.non=>true
 | .int _,.int _=>true | .bl _,.bl _=>true | .str _,.str _=>true | .byt _,.byt _=>true
 | .int _,.str _=>true | .str _,.int _=>true | .bl _,.str _=>true | .str _,.bl _=>true
 | _,_=>false
def rEq:R2:=λx y H Q=>zqL x y=true/\Q (.bl (decide (x=y))) H
def rNe:R2:=λx y H Q=>zqL x y=true/\Q (.bl (!decide (x=y))) H
def zes {i j:Int}:decide (V.int i=V.int j)=(i==j):=by
 rw[WQ];simp
def zkC {i j:Bool}:decide (V.bl i=V.bl j)=(i==j):=by
 rw[WQ];simp
def zh9 {i j:Str}:decide (V.str i=V.str j)=(i==j):=by
 rw[WQ];simp
def zia {i j:Array UInt8}:decide (V.byt i=V.byt j)=(i.toList==j.toList):=by
 rw[WQ];cases i;cases j;simp
def qm {a:List (Addr×Obj)}{c:St}{H:Hp}{s:X7}{Q:VK}{k b:Bool}(I:Inv X a c H s)(q:Q (.bl k) H)(e:k=b):EP X a c Q (.bool b) s:=by
 subst e;exact⟨.bl k,H,I,rfl,q⟩
def YI:OpR X (Wg .Eq) rEq:=by
 intro e s f H x y v u Q I d a h;obtain⟨c,q⟩:=h;cases x with
 | non =>
  cases d;cases y with
  | non=>cases a;exact PySem.EqNone.eq_none_none (qm I q (by simp))
  | bl j=>cases a;exact PySem.EqNone.eq_none_bool (qm I q (by simp))
  | int j=>obtain⟨b,rfl⟩:=a;exact PySem.EqNone.eq_none_int (qm I q (by simp))
  | str j=>obtain⟨b,rfl⟩:=a;exact PySem.EqNone.eq_none_str (qm I q (by simp))
  | _=>exact absurd (show false=true from c) XU
 | bl i =>
  cases d;cases y with
  | non=>cases a;exact PySem.EqNone.eq_bool_none (qm I q (by simp))
  | bl j=>cases a;exact eq_bool (qm I q zkC)
  | str j=>obtain⟨b,rfl⟩:=a;exact PySem.EqMixed.eq_bool_str (qm I q (by simp))
  | _=>exact absurd (show false=true from c) XU
 | int i =>
  obtain⟨t,rfl⟩:=d;cases y with
  | non=>cases a;exact PySem.EqNone.eq_int_none (qm I q (by simp))
  | int j=>obtain⟨b,rfl⟩:=a;exact eq_int (qm I q zes)
  | str j=>obtain⟨b,rfl⟩:=a;exact PySem.EqMixed.eq_int_str (qm I q (by simp))
  | _=>exact absurd (show false=true from c) XU
 | str i =>
  obtain⟨t,rfl⟩:=d;cases y with
  | non=>cases a;exact PySem.EqNone.eq_str_none (qm I q (by simp))
  | bl j=>cases a;exact PySem.EqMixed.eq_str_bool (qm I q (by simp))
  | int j=>obtain⟨b,rfl⟩:=a;exact PySem.EqMixed.eq_str_int (qm I q (by simp))
  | str j=>obtain⟨b,rfl⟩:=a;exact eq_str (qm I q zh9)
  | _=>exact absurd (show false=true from c) XU
 | byt i =>
  obtain⟨t,rfl⟩:=d;cases y with
  | byt j=>obtain⟨b,rfl⟩:=a;exact PySem.W.eq_bytes (qm I q zia)
  | _=>exact absurd (show false=true from c) XU
 | _=>cases y<;>exact absurd (show false=true from c) XU
def zdA:OpR X (Wg .NotEq) rNe:=by
 intro e s f H x y v u Q I d a h;obtain⟨c,q⟩:=h;cases x with
 | non =>
  cases d;cases y with
  | non=>cases a;exact PySem.EqNone.ne_none_none (qm I q (by simp))
  | bl j=>cases a;exact PySem.EqNone.ne_none_bool (qm I q (by simp))
  | int j=>obtain⟨b,rfl⟩:=a;exact PySem.EqNone.ne_none_int (qm I q (by simp))
  | str j=>obtain⟨b,rfl⟩:=a;exact PySem.EqNone.ne_none_str (qm I q (by simp))
  | _=>exact absurd (show false=true from c) XU
 | bl i =>
  cases d;cases y with
  | non=>cases a;exact PySem.EqNone.ne_bool_none (qm I q (by simp))
  | bl j=>cases a;exact ne_bool (qm I q (congrArg not zkC))
  | str j=>obtain⟨b,rfl⟩:=a;exact PySem.EqMixed.ne_bool_str (qm I q (by simp))
  | _=>exact absurd (show false=true from c) XU
 | int i =>
  obtain⟨t,rfl⟩:=d;cases y with
  | non=>cases a;exact PySem.EqNone.ne_int_none (qm I q (by simp))
  | int j=>obtain⟨b,rfl⟩:=a;exact ne_int (qm I q (congrArg not zes))
  | str j=>obtain⟨b,rfl⟩:=a;exact PySem.EqMixed.ne_int_str (qm I q (by simp))
  | _=>exact absurd (show false=true from c) XU
 | str i =>
  obtain⟨t,rfl⟩:=d;cases y with
  | non=>cases a;exact PySem.EqNone.ne_str_none (qm I q (by simp))
  | bl j=>cases a;exact PySem.EqMixed.ne_str_bool (qm I q (by simp))
  | int j=>obtain⟨b,rfl⟩:=a;exact PySem.EqMixed.ne_str_int (qm I q (by simp))
  | str j=>obtain⟨b,rfl⟩:=a;exact ne_str (qm I q (congrArg not zh9))
  | _=>exact absurd (show false=true from c) XU
 | byt i =>
  obtain⟨t,rfl⟩:=d;cases y with
  | byt j=>obtain⟨b,rfl⟩:=a;exact PySem.W.ne_bytes (qm I q (congrArg not zia))
  | _=>exact absurd (show false=true from c) XU
 | _=>cases y<;>exact absurd (show false=true from c) XU
def zfj:OpR X (Wg .Lt) (rI0 λi j=>.bl (decide (i<j))):=zpf λ_ _ _ _ _ _ _ q=>lt_int q
def zqM:OpR X (Wg .LtE) (rI0 λi j=>.bl (decide (i<=j))):=zpf λ_ _ _ _ _ _ _ q=>le_int q
def zom:OpR X (Wg .Gt) (rI0 λi j=>.bl (decide (j<i))):=zpf λ_ _ _ _ _ _ _ q=>gt_int q
def zph:OpR X (Wg .Is) (λx y H Q=>y=.non/\Q (.bl (decide (x=.non))) H):=by
 intro c s d H x y v u Q I a b h;obtain⟨rfl,q⟩:=h;cases b;refine is_none_gen (qm I q ?_);cases x<;>first
  | (cases a;rfl)
  | (obtain⟨t,rfl⟩:=a;rfl)
def zmP:OpR X (Wg .IsNot) (λx y H Q=>y=.non/\Q (.bl (!decide (x=.non))) H):=by
 intro c s d H x y v u Q I a b h;obtain⟨rfl,q⟩:=h;cases b;refine isnot_none_gen (qm I q ?_);cases x<;>first
  | (cases a;rfl)
  | (obtain⟨t,rfl⟩:=a;rfl)
def zT (b:Expr){op:Ov}(h:op ≠ .In:=by decide)(h2:op ≠ .NotIn:=by decide):Tw op b=false:=by
 have a:(op==CmpOp.In)=false:=by cases op<;>first | rfl | exact absurd rfl h
 have c:(op==CmpOp.NotIn)=false:=by cases op<;>first | rfl | exact absurd rfl h2
 cases b<;>simp[Tw,a,c]
def xF {op:Ov}{r:R2}(j:OpR X (Wg op) r)(f:PE X a ta)(g:PE X b tb)(i:Tw op b=false):PE X (.Compare a [op] [b] pos) (tOp r ta tb):=by
 intro e s o H Q I h;exact wpAny_Compare1 (zpe f g I h λv u n x y c d l m q=>j e n o c x y v u Q d l m q) i
def zon (t:TE):TT:=fun b H Q=>t b H λx a=>∃k,x=.bl k/\Q k a
def jY {op:Ov}{r:R2}(w:OpR X (Wg op) r)(o:PE X a ta)(p:PE X b tb)(q:Tw op b=false):PT X (.Compare a [op] [b] pos) (zon (tOp r ta tb)):=by
 intro d s f H Q I h;refine SS (thn (o d s f H _ I h) λv s1 ⟨x,g,l,E,A⟩=>thn (p d s1 f g _ l A) λu L ⟨y,i,m,G,B⟩ =>
  thn (w d L f i x y v u _ m E G B) λc M ⟨z,j,n,J,k,e,D⟩=>?_) q
 subst e;cases J;exact VL ⟨j,n,D⟩
def zpi (r f:R2)(ta tb tc:TE):TE:=fun a H Q=>ta a H λx c=>tb a c λy d=>r x y d λz b=>∃k,z=.bl k /\
 (if k=true then tc a b λg e=>f y g e Q else Q (.bl false) b)
def YJ {op f:Ov}{r o:R2}(ho:OpR X (Wg op) r)(j:OpR X (Wg f) o)(N:PE X a ta)(O:PE X b tb)(U:PE X c tc)
  (Y:lastMarks [op,f] [b,c]=false:=by with_unfolding_all rfl):PT X (.Compare a [op,f] [b,c] pos) (zon (zpi r o ta tb tc)):=by
 intro g s i H Q I h;refine isTrue_chain (thn (N g s i H _ I h) λv s1 ⟨x,q,D,r1,q1⟩=>test_link (thn (O g s1 i q _ D q1) λu s2 ⟨y,w,E,p,q2⟩ =>
  thn (ho g s2 i w x y v u _ E r1 p q2) λd s3 ⟨z,l,m,r3,k,e,n⟩=>?_)) Y
 subst e;cases r3;refine VL ?_;cases k with
 | false =>
  obtain⟨k',L,q'⟩:=n;cases L;exact ite_ff ⟨l,m,q'⟩
 | true =>
  refine ite_tt (test_last (thn (U g s3 i l _ m n) λw' s4 ⟨z',A,G,r4,q4⟩=>thn (j g s4 i A y z' u w' _ G p r4 q4) λd' s5 ⟨z2,B,J,r5,k2,M,q5⟩=>?_));subst M;cases r5;exact VL ⟨B,J,q5⟩
def zmQ (K:XS)(x:V)(H:Hp)(k:Bool):Prop :=
 match x with
 | .non=>k=false
 | .bl b=>k=b
 | .int i=>k=(i != 0)
 | .str y=>y.length<=Xv/\k=((y.length:Int) != 0)
 | .byt y=>y.size<=Xv/\k=((y.size:Int) != 0)
 | .ref p=>(∃c,SqL K H p c/\k=!c.isEmpty)\/(∃c,SqT K H p c/\k=!c.isEmpty)\/∃a,H p=some (.dK a)/\k=!a.isEmpty
 | _=>False
def zgX {a:Type}{kvs:List (a × V)}{vs:List (a × X9)}(r:KV kvs vs):(!vs.isEmpty)=!kvs.isEmpty:=by
 cases r<;>rfl
def zb8 {xs:AE}{a:List X9}(r:Vals xs a):(!a.toArray.isEmpty)=!xs.isEmpty:=by
 cases r<;>simp
def YK:(Xv:Nat)<2^63:=by rw[T3];decide
def zpj:zrJ X (λx H Q=>∃k,zmQ X.K x H k/\Q k H):=by
 intro B s G H x v Q I g h;obtain⟨k,e,q⟩:=h;have D:=YK;have E:Xv=16777216:=T3;cases x with
 | non =>
  cases g;have a:k=false:=e;subst a;exact truthy_none ⟨H,I,q⟩
 | bl b =>
  cases g;have a:k=b:=e;subst a;exact VL ⟨H,I,q⟩
 | int i =>
  obtain⟨t,rfl⟩:=g;have a:k=(i != 0):=e;subst a;exact PySem.P.truthy_int ⟨H,I,q⟩
 | str y =>
  obtain⟨t,rfl⟩:=g;obtain⟨A,a⟩:y.length<=Xv/\k=((y.length:Int) != 0):=e;subst a;exact PySem.P.truthy_str (by lia) ⟨H,I.tok _,q⟩
 | byt y =>
  obtain⟨t,rfl⟩:=g;obtain⟨A,a⟩:y.size<=Xv/\k=((y.size:Int) != 0):=e;subst a;exact PySem.W.truthy_bytes (by lia) ⟨H,I.tok _,q⟩
 | ref p =>
  cases g;have a:(∃f,SqL X.K H p f/\k=!f.isEmpty)\/(∃f,SqT X.K H p f/\k=!f.isEmpty)\/∃c,H p=some (.dK c)/\k=!c.isEmpty:=e;rcases a with ⟨f,j,a⟩ | ⟨f,j,a⟩ | ⟨c,j,a⟩
  .subst a;obtain⟨n,r,o,u⟩:=I.list j;have d:=r.length;exact wpAny_truthy_list o.isList (by simp only[Xm];lia) ⟨H,I.tok _,by rw[zb8 r];exact q⟩
  .subst a;obtain⟨n,r,o,u⟩:=I.tuple j;have d:=r.length;exact truthy_tuple o (by simp only[Xm];lia) ⟨H,I.tok _,by rw[zb8 r];exact q⟩
  .subst a;obtain⟨u,z,l,r,m⟩:c.length<=Xv/\(p==Vl)=false/\∃l,KV c l/\s.heap.DictOf (zZ X.prog X.w) p l:=I.hok p _ j;have d:c.length=l.length:=Paired.length r;exact wpAny_truthy_dict z m (by lia) ⟨H,I.tok _,by rw[zgX r];exact q⟩
 | _=>exact(show False from e).elim
def YL (g:PE X a ta)(he:∀whole,isTrue a X.env whole=(do let v <- whole;standAt a.pos;holding [v] (truthy v))) :
  PT X a (fun b H Q=>ta b H λx c=>∃k,zmQ X.K x c k/\Q k c):=by
 intro d s b H Q I h;exact isTrue_plain (thn (g d s b H _ I h) λv s1 ⟨x,e,f,j,i⟩=>zpj d s1 b e x v Q f j i) (he _)
def zgY:OpR X (T7 .Add) (λx y H Q=>∃i j,x=.str i/\y=.str j/\i.length+j.length<=Xv/\Q (.str (i++j)) H):=by
 intro e s g H x y v u Q I b c h;revert h;refine d8 λi j z0 z1 a q=>?_;subst z0 z1;obtain⟨t,rfl⟩:=b;obtain⟨d,rfl⟩:=c;exact add_str (λd f=>⟨.str (i++j),H,I.tok _,⟨_,rfl⟩,q⟩) a
def vals1 {x:V}{a:List X9}(r:Vals [x] a):∃u,a=[u]/\RelV x u:=by
 cases r with
 | cons b c=>cases c;exact⟨_,rfl,b⟩
def vals2 {x y:V}{a:List X9}(r:Vals [x,y] a):∃u b,a=[u,b]/\RelV x u/\RelV y b:=by
 cases r with
 | cons c d =>
  cases d with
  | cons e f=>cases f;exact⟨_,_,rfl,c,e⟩
def zfk:jk X (.builtin "abs") (λxs H Q=>∃i,xs=[.int i]/\Q (.int (if i<0 then -i else i)) H):=by
 intro a s d H xs c Q I r h;obtain⟨i,rfl,q⟩:=h;obtain⟨u,rfl,t,rfl⟩:=vals1 r;exact call_abs_int λu b=>⟨.int (if i<0 then -i else i),H,I.tok _,⟨_,rfl⟩,q⟩
def zdB (b:X.calm=true):jk X (.builtin "max") (λxs H Q=>∃i j,xs=[.int i,.int j]/\Q (.int (if j>i then j else i)) H):=by
 intro c s m H xs g Q I r h;obtain⟨i,j,rfl,q⟩:=h;obtain⟨u,l,rfl,⟨t,rfl⟩,⟨e,rfl⟩⟩:=vals2 r;refine max_two_ints (I.ok.hd b) λd f k=>⟨_,H,I.kept k,?_,q⟩;by_cases a:j>i
 .rw[bw a,bw a];exact⟨_,rfl⟩
 .rw[bq a,bq a];exact⟨_,rfl⟩
def Qk (b:X.calm=true):jk X (.builtin "min") (λxs H Q=>∃i j,xs=[.int i,.int j]/\Q (.int (if j<i then j else i)) H):=by
 intro c s m H xs g Q I r h;obtain⟨i,j,rfl,q⟩:=h;obtain⟨u,l,rfl,⟨t,rfl⟩,⟨e,rfl⟩⟩:=vals2 r;refine min_two_ints (I.ok.hd b) λd f k=>⟨_,H,I.kept k,?_,q⟩;by_cases a:j<i
 .rw[bw a,bw a];exact⟨_,rfl⟩
 .rw[bq a,bq a];exact⟨_,rfl⟩
def zjg:jk X (.type "int") (λxs H Q=>(∃i,xs=[.int i]/\Q (.int i) H)\/∃k,xs=[.bl k]/\Q (.int (if k then 1 else 0)) H):=by
 intro b s d H xs c Q I r h;rcases h with ⟨i,rfl,q⟩ | ⟨k,rfl,q⟩
 .obtain⟨u,rfl,t,rfl⟩:=vals1 r;exact call_int_int ⟨.int i,H,I,⟨_,rfl⟩,q⟩
 .obtain⟨u,rfl,a⟩:=vals1 r;cases a;exact call_int_bool ⟨.int (if k then 1 else 0),H,I.tok _,⟨_,rfl⟩,q⟩
def zaj:jk X (.type "str") (λxs H Q=>∃i,xs=[.int i]/\i.natAbs.log2<1920/\Q (.str (toString i)) H):=by
 intro b s d H xs c Q I r h;obtain⟨i,rfl,a,q⟩:=h;obtain⟨u,rfl,t,rfl⟩:=vals1 r;exact PySem.P.str_of_int a ⟨.str _,H,I.tok _,⟨_,rfl⟩,q⟩
end
structure Zr (k:Nat)(A:WO):Prop where
 hd:A.handled=none
 dp:A.depth+3*k+5<recursionLimit
 un:A.units+16*k+200<Vz
def Zr.mono {j k:Nat}{A:WO}(r:Zr k A)(h:j<=k):Zr j A:=⟨r.hd,by have:=r.dp;lia,by have:=r.un;lia⟩
theorem Zr.deeper {k:Nat}{A:WO}(r:Zr (k+1) A)(a:Env):Zr k (A.deeper a) :=
 ⟨r.hd,by have:=r.dp;show A.depth+1+3*k+5<_;lia,by have:=r.un;show A.units+3+16*k+200<_;lia⟩
theorem Zr.depth {k:Nat}{A:WO}(r:Zr k A):A.depth<recursionLimit:=by have:=r.dp;lia
theorem Zr.units {k:Nat}{A:WO}(r:Zr k A):A.units+64<Vz:=by have:=r.un;lia
def zgZ:TA:=λ_ H Q=>Q [] H
def zbp (d:TE)(tr:TA):TA:=fun a H Q=>d a H λx b=>tr a b λe c=>Q (x::e) c
section
variable {X:Cx}{e:Expr}{es:List Expr}{te:TE}{t:TA}{pos:Pos}
def zd:PA X [] zgZ:=λ_ _ _ _ H Q I h=>Calls.spliced_nil ⟨[],H,I,.nil,h⟩
def za (i:PE X e te)(j:PA X es t)(l:WU (e::es) X.env=(false,eval e X.env)::WU es X.env:=by rfl):PA X (e::es) (zbp te t):=by
 intro pos a s b H Q I h;rw[l];show Xe _ _ (spliced ((false,eval e X.env)::Tb pos (WU es X.env))) _ _ s;refine R5 (thn (i a s b H _ I h) λu s1 ⟨x,c,f,o,m⟩=>?_);exact thn (j pos a s1 b c _ f m) λv r ⟨q,d,g,p,n⟩=>⟨x::q,d,g,.cons o p,n⟩
def zrK (t:TA):TE:=fun c H Q=>t c H λb a=>b.length<=Xv/\∀p,a p=none->Q (.ref p) (upd a p (.tup b))
def zqN (t:TA):TE:=fun c H Q=>t c H λb a=>b.length<=Xv/\∀p,a p=none->Q (.ref p) (upd a p (.lst b))
def ql {x1}(h:PA X es t):PE X (.Tuple es x1 pos) (zrK t):=by
 intro d s l H Q I g;refine wpAny_Tuple_spliced (thn (h pos d s l H _ I g) λi s1 ⟨j,a,c,r,z,q⟩=>⟨by rw[<- r.length];exact z,?_⟩);have f:a s1.heap.objs.size=none:=c.hok.fresh (XT _);refine⟨.ref s1.heap.objs.size,upd a s1.heap.objs.size (.tup j),c.laid (t':=s1.toks) (λb u e=>XW _ e) (XT _) ?_,rfl,q _ f⟩;exact⟨z,i,r,⟨_,W4 _ rfl,rfl,_,rfl⟩⟩
def zO (h:PA X es t):PE X (.List es pos) (zqN t):=by
 intro d s l H Q I g;refine wpAny_List_spliced (thn (h pos d s l H _ I g) λi s1 ⟨j,a,c,r,z,q⟩=>⟨by rw[<- r.length];exact z,?_⟩);have f:a s1.heap.objs.size=none:=c.hok.fresh (XT _);refine⟨.ref s1.heap.objs.size,upd a s1.heap.objs.size (.lst j),c.laid (t':=s1.toks) (λb u e=>XW _ e) (XT _) ?_,rfl,q _ f⟩;exact⟨z,i,0,r,W4 _ rfl⟩
end
abbrev Sp:=AE->Hp->VK->XK->Prop
abbrev CXT:=List Env->Hp->X7->XK->X9->X7->Prop
structure zmR (P:Xh)(w:W2)(K:XS)(mg:Str->Option X9)(base:Heap)(A:WO)(outer:List Env)(s:X7)(H:Hp):Prop where
 frames:A.frames=some outer
 mod:Mod K mg base
 bs:∀b o,base.get? b=some o->s.heap.get? b=some o/\H b=none
 bsz:base.objs.size<=s.heap.objs.size
 funs:s.heap.FunFrames base outer
 frf:∀b∈frs outer,H b=none
 hok:HOk P w H s.heap
 bare:SD s.gens
def CE (a:List Env)(P:Xh)(w:W2)(H:Hp)(s:X7)(Q:VK)(u:X9)(s':X7):Prop :=
 ∃v b,s'.os=s.os/\SD s'.gens/\Un (frs a) [] H b s.heap s'.heap/\HOk P w b s'.heap/\RelV v u/\Q v b
def CR (CX:CXT)(a:List Env)(P:Xh)(w:W2)(H:Hp)(s:X7)(Q:VK)(E:XK)(r:OH)(s':X7):Prop :=
 match r with
 | .ok (.ret u)=>CE a P w H s Q u s'
 | .ok _=>False
 | .error e=>CX a H s E e s'
structure qc (P:Xh)(w:W2)(K:XS)(mg:Str->Option X9)(base:Heap)(CX:CXT)(k:Nat)(f:Addr)(fd:XC)(ps:AD)(sp:Sp):Prop where
 len:∀vs H Q E,sp vs H Q E->vs.length=ps.length
 run:∀(A:WO) (outer:List Env) (s:X7) (H:Hp) (args:Args) (us:List X9) (vs:AE) (Q:VK) (E:XK),Zr k A->zmR P w K mg base A outer s H->OP s fd args (ps.zip us)->Vals vs us->sp vs H Q E ->
  Ta (Xg P w) A (.call (.ref f) args) (CR CX outer P w H s Q E) s
section
variable {X:Cx}{bz:List (Addr×Obj)}{σ:St}{H:Hp}{s s':X7}
def Inv.env0 (I:Inv X bz σ H s):zmR X.prog X.w X.K X.mg X.base X.A X.stack s H :=
 ⟨I.ok.frames,I.ok.mod,I.bs,X6 I.ok.bsz I.sz,I.stack,I.stkFree,I.hok,I.bare⟩
def Inv.after {Q:VK}{u:X9}(I:Inv X bz σ H s)(h:CE X.stack X.prog X.w H s Q u s'):EP X bz σ Q u s':=by
 obtain⟨v,f,os,a,un,c,r,q⟩:=h;obtain⟨i,g,d,t,e⟩:=s';obtain rfl:e=s.os:=os;exact⟨v,f,I.call (h':=i) (g':=g) (d':=d) (t':=t) (ch:=[]) un c a (λb z=>absurd z (by simp)),r,q⟩
end
def zib (sp:Sp)(a:AE)(E:XK)(t:TA):TE:=fun d H Q=>t d H λc b=>sp (c++a) b Q E
def Binds (K:XS)(c:XC)(ps:AD)(b:List X9):Prop :=
 ∀(s:X7) (a:List X9),K.In s.heap->(a++b).length=ps.length->OP s c ⟨a,[]⟩ (ps.zip (a++b))
def Binds.all {K:XS}{b:XC}{ps:AD}(h:∀a:List X9,a.length=ps.length->bindArgs b ⟨a,[]⟩=pure (ps.zip a)):Binds K b ps []:=λs a _ c=>by
 rw[Xu]at c ⊢;exact .of_eq (h a c)
def Passes (CX:CXT)(X:Cx)(E:XK):Prop:=∀(b:List (Addr×Obj)) (c:St) (H:Hp) (s:X7) (e:X9) (a:X7),Inv X b c H s->CX X.stack H s E e a->X.xe e a
section
variable {X:Cx}{CX:CXT}{k:Nat}{f C:Addr}{fd:XC}{ps:AD}{sp:Sp}{dvs:AE}{ds:List X9}{E:XK}{x m:Str}{p pos apos:Pos}{e o:Expr}{es:List Expr}{ta:TE}{t:TA}
def zpk {c:List (Addr×Obj)}{d:St}{H:Hp}{s:X7}{Q:VK}{a:List X9}{vs:AE}(F:qc X.prog X.w X.K X.mg X.base CX k f fd ps sp)(n:Zr k X.A)(j:Binds X.K fd ps ds)(l:Vals dvs ds)(o:Passes CX X E)
  (I:Inv X c d H s) (r:Vals vs a) (h:sp (vs++dvs) H Q E):Xe (Xg X.prog X.w) X.A (call (.ref f) a) (EP X c d Q) X.xe s:=by
 have g:Vals (vs++dvs) (a++ds):=r.append l;have m:(a++ds).length=ps.length:=by rw[<- g.length];exact F.len _ _ _ _ h
 refine wpAny_call (S8 (F.run X.A X.stack s H ⟨a,[]⟩ (a++ds) (vs++dvs) Q E n I.env0 (j s a I.kIn m) g h) λr p b=>?_);cases r with
 | error e=>exact o c d H s e p I b
 | ok i =>
  cases i with
  | ret u=>exact I.after b
  | next=>exact Vj b
  | brk=>exact Vj b
  | cont=>exact Vj b
def zic (F:qc X.prog X.w X.K X.mg X.base CX k f fd ps sp)(n:Zr k X.A)(l:Gl X x)(m:X.mg x=some (.ref f))(hk:T2 X.K (.ref f)=true)(i:Binds X.K fd ps ds)(j:Vals dvs ds)(o:Passes CX X E)
  (g:PA X (e::es) t) (a:(x==("__debug__":Str))=false:=by decide) (he:WU (e::es) X.env=(false,eval e X.env)::WU es X.env:=by rfl) (b:(Tb pos (WU es X.env)).any (·.1)=false:=by rfl) :
  PE X (.Call (.Name x p) (e::es) [] pos) (zib sp dvs E t):=by
 intro d s u H Q I h;refine Tk (zah I l m ?_ a);refine PySem.W.callWith_K (h₀:=X.base) I.ok.mod.kin hk (thn (g pos d s u H _ I h) λy s1 ⟨z,v,c,r,q⟩=>⟨c.kIn,?_⟩) he b;exact zpk F n i j o c r q
end
structure zD (N P:AD)(sc:UE):Prop where
 kind:sc.kind=.function
 co:sc.isCoroutine=false
 gen:sc.isGenerator=false
 nd:N.Nodup
 pre:N.take P.length=P
 par:∀x∈P,sc.names.lookup x=some .local\/sc.names.lookup x=some .cell
 nofree:∀y∈sc.names,y.2 ≠ .free
def bh {N P:AD}{c:UE}(k:c.kind=.function:=by rfl)(a:c.isCoroutine=false:=by rfl)(b:c.isGenerator=false:=by rfl)(p:N.take P.length=P:=by rfl)(h:(N.Nodup)/\(∀x∈P,c.names.lookup x=some .local\/c.names.lookup x=some .cell)/\∀y∈c.names,y.2 ≠ .free:=by decide+kernel):zD N P c:=⟨k,a,b,h.1,p,h.2.1,h.2.2⟩
theorem zdC {kindOf:Str->Option Ss}{x:Str}:∀{binds:List (Str×X9)} {m:Str->Option X9},(∀v,(x,v) ∉ binds)->OB kindOf binds m x=m x
 | [],_,_=>rfl
 | (n,v)::r,m,h=>by
  unfold OB;rw[zdC λw a=>h w (XV _ a)];split
  .have:x≠n:=by rintro rfl;exact h v XR
   simp[this]
  .rfl
theorem zdD {kindOf:Str->Option Ss}{x:Str}:∀{binds:List (Str×X9)} {m:Str->Option X9},(∀v,(x,v) ∉ binds)->OA kindOf binds m x=m x
 | [],_,_=>rfl
 | (n,v)::r,m,h=>by
  unfold OA;rw[zdD λw a=>h w (XV _ a)];split
  .rfl
  .have:x≠n:=by rintro rfl;exact h v XR
   simp[this]
theorem zdE {kindOf:Str->Option Ss}{x:Str}{v:X9}:∀{P:AD} {vs:List X9} {i:Nat} {m:Str->Option X9},P.Nodup->P[i]?=some x->vs[i]?=some v->kindOf x=some .local ->
  OB kindOf (P.zip vs) m x=some v
 | [],_,_,_,_,h,_,_=>by simp at h
 | _::_,[],_,_,_,_,h,_=>by simp at h
 | p::P,w::vs,0,m,a,h1,h2,hk=>by
  simp at h1 h2;subst h1;subst h2;show OB kindOf ((p,w)::P.zip vs) m p=_;unfold OB;rw[zdC λv b=>(Wf.mp a).1 (P6 b).1,bw hk];simp
 | p::P,w::vs,i+1,m,a,h1,h2,hk=>by
  show OB kindOf ((p,w)::P.zip vs) m x=_;unfold OB;exact zdE (i:=i) (Wf.mp a).2 (by simpa using h1) (by simpa using h2) hk
theorem zdF {kindOf:Str->Option Ss}{x:Str}{v:X9}:∀{P:AD} {vs:List X9} {i:Nat} {m:Str->Option X9},P.Nodup->P[i]?=some x->vs[i]?=some v->kindOf x≠some .local ->
  OA kindOf (P.zip vs) m x=some v
 | [],_,_,_,_,h,_,_=>by simp at h
 | _::_,[],_,_,_,_,h,_=>by simp at h
 | p::P,w::vs,0,m,a,h1,h2,hk=>by
  simp at h1 h2;subst h1;subst h2;show OA kindOf ((p,w)::P.zip vs) m p=_;unfold OA;rw[zdD λv b=>(Wf.mp a).1 (P6 b).1,bq hk];simp
 | p::P,w::vs,i+1,m,a,h1,h2,hk=>by
  show OA kindOf ((p,w)::P.zip vs) m x=_;unfold OA;exact zdF (i:=i) (Wf.mp a).2 (by simpa using h1) (by simpa using h2) hk
def start (N:AD)(vs:AE):St:=vs.map some++Wr (N.length-vs.length) none
def zfl (CX:CXT)(P:Xh)(w:W2)(K:XS)(mg:Str->Option X9)(base:Heap)(N:AD)(qual:Str)(scope:UE)(f:Addr)(cd:X9)(A:WO)(outer:List Env)(s:X7)(H:Hp)(E:XK):Cx where
 prog:=P
 w:=w
 K:=K
 mg:=mg
 base:=base
 A:=A.deeper (Ri qual scope s.heap.objs.size f cd)
 N:=N
 s₀:=s
 H₀:=H
 env:=Ri qual scope s.heap.objs.size f cd
 outer:=outer
 stack:=Ri qual scope s.heap.objs.size f cd::outer
 ex:=[]
 calm:=true
 fn:=λ_=>true
 pn:=[]
 xe:=λe s'=>Xe (Xg P w) (A.deeper (Ri qual scope s.heap.objs.size f cd)) (leaving (Ri qual scope s.heap.objs.size f cd) e) (λ_ s''=>CX outer H s E e s'') (λe' s''=>CX outer H s E e' s'') s'
def zfm {a:UE}{n:Nat}{x:Str}(h:a.names.lookup x=some .cell):∃c,(Sb n a.names []).lookup x=some c:=by
 have q:=Rb a.names n [] (.inl h);exact Vh.mp q
def zjh {CX:CXT}{P:Xh}{w:W2}{K:XS}{I:Str->Option X9}{base:Heap}{N ps:AD}{j:Str}{d:UE}{f:Addr}{D:X9}{A:WO}{g:List Env}{s s1:X7}{H:Hp}{E:XK}{J:List X9}{vs:AE}
  (S:zD N ps d) (O:A.handled=none) (l:zmR P w K I base A g s H) (hl:vs.length=ps.length) (r:Vals vs J)
  (x:InCallC s s.heap.objs.size (OB (Ri j d s.heap.objs.size f D).kindOf (ps.zip J) λ_=>none) (Sb (s.heap.objs.size+1) d.names []) (OA (Ri j d s.heap.objs.size f D).kindOf (ps.zip J) λ_=>none) s1) :
  Inv (zfl CX P w K I base N j d f D A g s H E) [] (start N vs) H s1:=by
 have Q:ps.length<=N.length:=by have:=congrArg List.length S.pre;rw[XJ]at this;lia
 obtain⟨h1,tk,rfl,hk⟩:=x.done;have m:∀b:Addr,b ∉ (zfl CX P w K I base N j d f D A g s H E).ex:=λb z=>absurd (show b∈([]:List Addr) from z) (by simp);refine⟨⟨l.mod,S.kind,rfl,rfl,XT _,λy z c h1 h2=>?_,λy hy=>?_,λy c _ h=>?_,λ_=>O,Around.frames_deeper l.frames,.inr ⟨rfl,rfl⟩,λb z=>absurd z (m b),l.bs,l.bsz,λb _ _=>m b,λb z=>absurd z (m b),l.funs,l.frf⟩,rfl,l.bare,Un.kept hk,⟨_,x.toInCall.ns,λi y v h1 h2 Y=>?_⟩,λy c h=>⟨_,x.cell y c h⟩,l.hok.fresh (XT _),λy c h=>?_,λp o=>absurd (show p∈([]:List (Addr×Obj)) from o) (by simp),l.hok.kept hk,?_⟩
 .exact name_of_addr x.apart (Wx h1) (Wx h2)
 .have hy:d.names.lookup y=some .cell\/d.names.lookup y=some .free:=hy;rcases hy with hy | hy
  .exact zfm hy
  .exact absurd rfl (S.nofree _ (Wx hy))
 .exact TX (x.above y c (Wx h))
 .have G:i<vs.length:=by
   unfold start at h2;by_cases G:i<vs.length
   .exact G
   .rw[VP (by simpa using G)]at h2;rw[List.getElem?_replicate]at h2;split at h2<;>cases h2
  have M:vs[i]?=some v:=by
   unfold start at h2;rw[V3 (by simpa using G),XB]at h2;cases e:vs[i]? with
   | none=>rw[e]at h2;cases h2
   | some a=>rw[e]at h2;cases h2;rfl
  obtain⟨u,L,U⟩:=r.get M;have o:ps[i]?=some y:=by
   rw[<- S.pre,Tu (by lia)];exact h1
  have B:ps.Nodup:=by rw[<- S.pre];exact S.nd.sublist (RN _ _)
  refine⟨u,U,?_⟩;rcases S.par y (X8 o) with k | k
  .exact .inl ⟨k,zdE B o L k⟩
  .obtain⟨c,e⟩:=zfm (n:=s.heap.objs.size+1) k;refine .inr ⟨.inl k,c,e,?_⟩;have q:=x.cell y c e;rw[zdF B o L (by show d.names.lookup y≠_;rw[k];decide)]at q;exact q
 .exact l.hok.fresh (TX (x.above y c (Wx h)))
 .unfold start;show _=N.length;rw[X4,ZB,List.length_replicate];lia
def zoo {CX:CXT}{P:Xh}{w:W2}{K:XS}{L:Str->Option X9}{base:Heap}{k:Nat}{f:Addr}{name d:Str}{h:Arguments}{i:List Stmt}{a:UE}{dV kV doc pm g ct oc:X9}{an od:Option Addr}
  {Y:Array (Option X9)} {N ps:AD} {sp:Sp} (lk:K.lookup f=some ⟨oc,od,.func (UO name d h i a dV kV doc pm an g ct),Y⟩) (M:S6 K g d=true) (S:zD N ps a)
  (len:∀vs H Q E,sp vs H Q E->vs.length=ps.length)
  (m:∀(A:WO) (c:List Env) (s:X7) (H:Hp) (vs:AE) (Q:VK) (E:XK),Zr k (A.deeper (Ri d a s.heap.objs.size f g))->sp vs H Q E ->
   ∃t,PSs (zfl CX P w K L base N d a f g A c s H E) i t/\t { nx:=λ_ l=>Q .non l,rt:=Q } (start N vs) H) :
  qc P w K L base CX (k+1) f (UO name d h i a dV kV doc pm an g ct) ps sp:=by
 refine⟨len,λA c s H aa us vs Q E O B hb r G=>?_⟩;have hl:=len _ _ _ _ G;have KX:K.In s.heap:=B.mod.kin.keeps λb o e=>(B.bs b o e).1;have U:s.heap.NoLimit:=B.mod.nolimit.keeps λb o e=>(B.bs b o e).1;have p:∀y∈ps.zip us,a.names.lookup y.1=some .local\/(a.names.lookup y.1=some .cell/\((Sb (s.heap.objs.size+1) a.names []).lookup y.1).isSome=true):=λ⟨n,v⟩ hy=>by
  rcases S.par n (P6 hy).1 with q | q
  .exact .inl q
  .exact .inr ⟨q,Rb _ _ _ (.inl q)⟩
 refine codeAny_call_function O.depth (KX _ _ lk) rfl S.co S.gen rfl (PySem.W.codeRec_of KX M) (hb _ _ _ _ ?_);refine wpAny_newFunctionEnv_cells S.kind p λab he s1 x=>?_;subst he;refine⟨U.keeps x.toInCall.keep,codeAny_func ?_⟩;obtain⟨t,ht,hq⟩:=m A c s H vs Q E (O.deeper _) G;have I:Inv (zfl CX P w K L base N d a f g A c s H E) [] (start N vs) H s1:=zjh S O.hd B hl r x;refine Vk (ht [] s1 (start N vs) H _ I hq) (λfl s' z=>?_) λe s' z=>z;have D:∀{j:St} {l:Hp} {v:V} {u:X9},Inv (zfl CX P w K L base N d a f g A c s H E) [] j l s'->RelV v u->Q v l->CE c P w H s Q u s' :=
  λ{j l v u} J rv q=>(cZ v l J.os J.bare J.base J.hok rv q)
 cases fl with
 | ret u =>
  revert z;refine fh λv j l J rv q=>?_;exact D J rv q
 | next =>
  obtain⟨j,l,J,q⟩:=z;exact D (v:=V.non) (u:=T4) J rfl q
 | brk =>
  obtain⟨_,_,_,q⟩:=z;exact Vj q
 | cont =>
  obtain⟨_,_,_,q⟩:=z;exact Vj q
section
variable {X:Cx}{x:Str}{p pos:Pos}{e:Expr}{es:List Expr}{t:TA}{id T:String}{r:AE->Hp->VK->Prop}
def tCB (r:AE->Hp->VK->Prop)(t:TA):TE:=fun c H Q=>t c H λb a=>r b a Q
def Zv (j:jk X (.builtin id) r)(l:Gl X x)(m:X.mg x=none)(o:Uv x=some (.builtin id))(i:PA X (e::es) t)(n:x ≠ "__name__":=by decide)(a:(x==("__debug__":Str))=false:=by decide)
  (he:WU (e::es) X.env=(false,eval e X.env)::WU es X.env:=by rfl) (b:(Tb pos (WU es X.env)).any (·.1)=false:=by rfl):PE X (.Call (.Name x p) (e::es) [] pos) (tCB r t):=by
 intro c s d H Q I h;refine Tk (za0 I l m o ?_ n a);exact PyProof.Rows.callWith_builtin1 (thn (i pos c s d H _ I h) λv s1 ⟨w,f,g,u,q⟩=>j c s1 d f w v Q g u q) he b
def zji (j:jk X (.type T) r)(l:Gl X x)(m:X.mg x=none)(o:Uv x=some (.type T))(i:PA X (e::es) t)(n:x ≠ "__name__":=by decide)(a:(x==("__debug__":Str))=false:=by decide)
  (he:WU (e::es) X.env=(false,eval e X.env)::WU es X.env:=by rfl) (b:(Tb pos (WU es X.env)).any (·.1)=false:=by rfl):PE X (.Call (.Name x p) (e::es) [] pos) (tCB r t):=by
 intro c s d H Q I h;refine Tk (za0 I l m o ?_ n a);exact Vy (thn (i pos c s d H _ I h) λv s1 ⟨w,f,g,u,q⟩=>j c s1 d f w v Q g u q) he b
end
end L2
namespace HT
open PySem PyProof.Rows
section
variable {prog:Xh}{w:W2}{A:WO}{E:X9->X7->Prop}{s:X7}
def sIx (n d:Nat):Option Int->Nat
 | none=>d
 | some v=>if v<0 then (v+(n:Int)).toNat else min v.toNat n
def zmS (n d k:Nat):sIx n d (some (k:Int))=min k n:=by
 show (if (k:Int)<0 then ((k:Int)+(n:Int)).toNat else min (k:Int).toNat n)=min k n;rw[bq (by lia),Vv]
end
end HT
namespace L2
open PySem PySem.Spec PyProof.Rows
abbrev TO:=St->Hp->(Option Int->Hp->Prop)->Prop
def PO (X:Cx)(e:Option Expr)(t:TO):Prop :=
 ∀(c:List (Addr×Obj)) (s:X7) (a:St) (H:Hp) (Q:Option Int->Hp->Prop),Inv X c a H s->t a H Q ->
  Xe (Xg X.prog X.w) X.A (evalPart e X.env) (λu d=>∃o b,Inv X c a b d/\IsPart u o/\Q o b) X.xe s
def zmT:TO:=λ_ H Q=>Q none H
def zqO (t:TE):TO:=fun b H Q=>t b H λx a=>∃i,x=.int i/\Q (some i) a
section
variable {X:Cx}{e:Expr}{te:TE}{lo hi:Option Expr}{tl th:TO}{pos p2:Pos}
def zmU:PO X none zmT:=by
 intro a s b H Q I h;rw[evalPart_none];exact XQ ⟨none,H,I,.none,h⟩
def zmV (h:PE X e te):PO X (some e) (zqO te):=by
 intro c s j H Q I d;rw[evalPart_some];refine thn (h c s j H _ I d) λu s1 ⟨x,a,b,g,f⟩=>?_;obtain⟨i,rfl,q⟩:=f;obtain⟨t,rfl⟩:=g;exact⟨some i,a,b,.int i t,q⟩
def SlR (X:Cx)(r:V->Option Int->Option Int->Hp->VK->Prop):Prop :=
 ∀(a:List (Addr×Obj)) (s:X7) (e:St) (H:Hp) (x:V) (v c d:X9) (lo hi:Option Int) (b:Addr) (Q:VK),Inv X a e H s->RelV x v->s.heap.IsSliceOf b c d .none->IsPart c lo->IsPart d hi->r x lo hi H Q ->
  ∃T id,OX (.type T) "__getitem__"=pure (some (.builtin id))/\s.TypeIs v T/\Xe (Xg X.prog X.w) X.A (getItem v (.ref b)) (EP X a e Q) X.xe s
def tSl (r:V->Option Int->Option Int->Hp->VK->Prop)(te:TE)(tl th:TO):TE:=fun a H Q=>te a H λx b=>tl a b λl c=>th a c λu d=>r x l u d Q
def zkD {r:V->Option Int->Option Int->Hp->VK->Prop}(E:SlR X r)(he:PE X e te)(D:PO X lo tl)(J:PO X hi th):PE X (.Subscript e (.Slice lo hi none p2) pos) (tSl r te tl th):=by
 intro c s d H Q I h;refine Subscript_ (thn (he c s d H _ I h) λv s1 ⟨x,j,n,Y,N⟩=>?_);refine wpAny_Slice (thn (D c s1 d j _ n N) λf s2 ⟨l,m,o,L,O⟩=>thn (J c s2 d m _ o O) λg a ⟨u,i,p,M,U⟩=>?_);rw[evalPart_none];refine XQ ?_;have y:Inv X c d i { a with heap:=a.heap.push { cls:=.type "slice",data:=.fields #[f,g,.none] } }:=p.kept (t':=a.toks) λb ob q=>XW _ q;refine eF (λT id z G B=>?_) (E c { a with heap:=a.heap.push { cls:=.type "slice",data:=.fields #[f,g,.none] } } d i x v f g l u a.heap.objs.size Q y Y (Heap.IsSliceOf.new ..) L M U);show Xe (Xg X.prog X.w) X.A (subscriptTail e (.Slice lo hi none p2) v (.ref a.heap.objs.size)) (EP X c d Q) X.xe { a with heap:=a.heap.push { cls:=.type "slice",data:=.fields #[f,g,.none] } };exact tail_any (ops:=[.ref a.heap.objs.size,v]) G z B (by with_unfolding_all rfl)
def zjj (xs:AE)(lo hi:Option Int):AE:=(xs.drop (HT.sIx xs.length 0 lo)).take (HT.sIx xs.length xs.length hi-HT.sIx xs.length 0 lo)
def zfn (xs:AE)(lo hi:Option Int):(zjj xs lo hi).length<=xs.length:=by
 unfold zjj;rw[XJ,U4];lia
end
def ixN (n:Nat)(i:Int):Option Nat:=if 0<=i then (if i<n then some i.toNat else none) else if -(n:Int)<=i then some (i+n).toNat else none
def atI {α:Type}(xs:List α)(i:Int):Option α:=(ixN xs.length i).bind λj=>xs[j]?
def zid {n:Nat}{i:Int}{j:Nat}(h:ixN n i=some j):seqIndex? i n=some j/\j<n/\-(n:Int)<=i/\i<n:=by
 unfold ixN at h;by_cases h0:0<=i
 .rw[bw h0]at h;by_cases h1:i<n
  .rw[bw h1]at h;have e:i.toNat=j:=Option.some.inj h;exact⟨by rw[PJ h0 h1,e],by lia,by lia,h1⟩
  .rw[bq h1]at h;cases h
 .rw[bq h0]at h;by_cases h1:-(n:Int)<=i
  .rw[bw h1]at h;have e:(i+n).toNat=j:=Option.some.inj h;exact⟨by rw[Rf (by lia) h1,e],by lia,h1,by lia⟩
  .rw[bq h1]at h;cases h
def zbT {α:Type}{xs:List α}{i:Int}{v:α}(h:atI xs i=some v):∃j,seqIndex? i xs.length=some j/\xs[j]?=some v/\j<xs.length/\-(xs.length:Int)<=i/\i<xs.length:=by
 unfold atI at h;cases e:ixN xs.length i with
 | none=>rw[e]at h;cases h
 | some j =>
  rw[e]at h;obtain⟨h1,h2,a,b⟩:=zid e;exact⟨j,h1,h,h2,a,b⟩
def qi {α:Type}{xs:List α}{j:Nat}{v:α}(h:xs[j]?=some v):atI xs (j:Int)=some v:=by
 have a:j<xs.length:=(XX.mp h).1;have e:ixN xs.length (j:Int)=some j:=by
  unfold ixN;rw[bw (by lia),bw (by lia)];simp
 unfold atI;rw[e];exact h
def zmW (b:Expr):Prop:=∀o i,subscripted b false o i=operate [o,i] (getItem o i)
def IxR (X:Cx)(r:R2):Prop :=
 ∀(b a:Expr) (c:List (Addr×Obj)) (s:X7) (d:St) (H:Hp) (x y:V) (v u:X9) (Q:VK),Inv X c d H s->RelV x v->RelV y u->r x y H Q ->
  subscripted a false v u=operate [v,u] (getItem v u)->Xe (Xg X.prog X.w) X.A (subscriptTail b a v u) (EP X c d Q) X.xe s
def MtR (X:Cx)(id:String)(r:V->AE->Hp->VK->Prop):Prop :=
 ∀(a:List (Addr×Obj)) (s:X7) (d:St) (H:Hp) (x:V) (c:AE) (v:X9) (b:List X9) (Q:VK),Inv X a d H s->RelV x v->Vals c b->r x c H Q ->
  Xe (Xg X.prog X.w) X.A (call (.builtin id) (v::b)) (EP X a d Q) X.xe s
section
variable {X:Cx}{a b:Expr}{ta tb:TE}{pos:Pos}
def zv {r:R2}(i:IxR X r)(f:PE X a ta)(g:PE X b tb)(j:zmW b):PE X (.Subscript a b pos) (tOp r ta tb):=by
 intro e s o H Q I h;exact Subscript_ (zpe f g I h λv u n x y c d l m q=>i a b e n o c x y v u Q d l m q (j _ _))
def zpl (K:XS):R2:=λx y H Q=>∃p a i v,x=.ref p/\y=.int i/\SqL K H p a/\atI a i=some v/\Q v H
def zqP (K:XS):R2:=λx y H Q=>∃p a i v,x=.ref p/\y=.int i/\SqT K H p a/\atI a i=some v/\Q v H
def zqQ:R2:=λx y H Q=>∃z i c,x=.str z/\y=.int i/\z.length<=Xv/\atI z.cps.toList i=some c/\Q (.str ⟨#[c]⟩) H
def xG:IxR X (zpl X.K):=by
 intro g f l s o H x y v u Q I G J h n;revert h;refine fq λp U i z z0 z1 E he q=>?_;subst z0 z1;cases G;obtain⟨t,rfl⟩:=J;obtain⟨c,r,d,O⟩:=I.list E;refine fj (λj h1 h2 M A B=>?_) (zbT he);obtain⟨w,m,e⟩:=r.get h2;have D:=r.length;have N:=YK;have a:EP X l o Q w s:=⟨z,H,I,e,q⟩;by_cases h0:0<=i
 .have b:i.toNat=j:=by
   rw[PJ h0 B]at h1;exact Option.some.inj h1
  exact item_listR d.isList h0 (by lia) (by rw[b];simpa using m) a n
 .have b:(i+(c.toArray.size:Int)).toNat=j:=by
   rw[Rf (by lia) A]at h1;rw[Xm,<- D];exact Option.some.inj h1
  exact Ra (x:=w) d.isList.typeIs slot_list_getitem.lookup
   (Q1 (Q:=λr L=>r=w/\EP X l o Q r L) d.isList (by lia) (by rw[Xm]<;>lia) (by lia) (by rw[b];simpa using m) ⟨rfl,a⟩) n
def jd:IxR X (zqP X.K):=by
 intro d c e s g H x y v u Q I B D h o;revert h;refine fq λp O i z z0 z1 n he q=>?_;subst z0 z1;cases B;obtain⟨t,rfl⟩:=D;obtain⟨A,r,f,N⟩:=I.tuple n;refine fj (λj h1 h2 G J L=>?_) (zbT he);obtain⟨w,l,b⟩:=r.get h2;have m:=r.length;have M:=YK;have a:EP X e g Q w s:=⟨z,H,I,b,q⟩;exact Ra (x:=w) f.typeIs slot_tuple_getitem.lookup
  (getItem_tuple (j:=j) (Q:=λr E=>r=w/\EP X e g Q r E) f (by lia) (by lia) (by rw[Xm,<- m];exact h1) (by simpa using l) ⟨rfl,a⟩) o
def zkE:IxR X zqQ:=by
 intro b a p s D H x y v u Q I n o h m;revert h;refine e7 λz i c z0 z1 A he q=>?_;subst z0 z1;obtain⟨t,rfl⟩:=n;obtain⟨B,rfl⟩:=o;refine fj (λj h1 h2 r f g=>?_) (zbT he);have l:z.cps.toList.length=z.length:=by simp[Str.length]
 rw[l]at h1 f g;have w:=YK;exact tail_any (typeIs_str s z t) slot_str_getitem.lookup (getItem_str (c:=c) (by
  have d:decide (i < -(2^63:Int))=false:=bf (by lia);have e:decide (i >= 2^63)=false:=bf (by lia);rw[d,e,Bool.or_false]) (by rw[h1];simpa using h2) ⟨.str ⟨#[c]⟩,H,I.tok _,⟨_,rfl⟩,q⟩) m
def zg0 (a:List X9)(n j:Nat)(u:X9):Vc (·.setIfInBounds j u) { cls:=.type "list",data:=.seq a.toArray n }={ cls:=.type "list",data:=.seq (a.set j u).toArray n }:=by
 simp[Vc]
theorem Inv.lst {b:List (Addr×Obj)}{c:St}{H:Hp}{s:X7}{p:Addr}{xs:AE}(I:Inv X b c H s)(h:H p=some (.lst xs)) :
  ∃(a:List X9) (n:Nat),Vals xs a/\s.heap.get? p=some { cls:=.type "list",data:=.seq a.toArray n }/\xs.length<=Xv:=by
 obtain⟨z,a,n,r,e⟩:=I.hok p _ h;exact⟨a,n,r,e,z⟩
def Inv.lstUpd {d:List (Addr×Obj)}{i:St}{H:Hp}{s:X7}{p:Addr}{xs ys:AE}{a its':List X9}{n c:Nat}{f:Obj->Obj}(I:Inv X d i H s)(h:H p=some (.lst xs))
  (l:s.heap.get? p=some { cls:=.type "list",data:=.seq a.toArray n }) (g:f { cls:=.type "list",data:=.seq a.toArray n }={ cls:=.type "list",data:=.seq its'.toArray c }) (r:Vals ys its') (m:ys.length<=Xv) (t:Nat) :
  Inv X d i (upd H p (.lst ys)) { s with heap:=s.heap.update p f,toks:=t }:=by
 have e:(s.heap.update p f).get? p=some { cls:=.type "list",data:=.seq its'.toArray c }:=by
  rw[Wh f l (by rw[g]<;>rfl),g]
 refine I.write (x:=p) (e:=p) (by rw[h];trivial) (.inl rfl) (λb u j q=>(Uo _ _ (Vq j)).trans q) ⟨_,e⟩ ?_;exact⟨m,its',c,r,e⟩
def zqR:V->V->V->Hp->(Hp->Prop)->Prop:=λo i v H Q=>∃p a k j,o=.ref p/\i=.int k/\H p=some (.lst a)/\ixN a.length k=some j/\Q (upd H p (.lst (a.set j v)))
def set_list:zqD X zqR:=by
 intro l s B H o i v G E u Q I y x z h;revert h;refine fq λp A k j z0 z1 g m q=>?_;subst z0 z1;cases y;obtain⟨t,rfl⟩:=x;obtain⟨a,n,r,c,w⟩:=I.lst g;obtain⟨h1,h2,e,f⟩:=zid m;have b:=r.length;have D:=YK;have d:Inv X l B (upd H p (.lst (A.set j v))) { s with heap:=s.heap.update p (Vc (·.setIfInBounds j u)) } :=
  I.lstUpd g c (zg0 a n j u) (r.set z j) (by rw[List.length_set];exact w) s.toks
 by_cases h0:0<=k
 .have hk:k.toNat=j:=by
   rw[PJ h0 f]at h1;exact Option.some.inj h1
  exact PySem.W.ki_setAt c h0 (by lia) (by rw[Xm,<- b];exact f) (by rw[hk];exact⟨_,d,q⟩)
 .have hk:(k+(a.toArray.size:Int)).toNat=j:=by
   rw[Rf (by lia) e]at h1;rw[Xm,<- b];exact Option.some.inj h1
  exact PySem.W.ki_setBack c (by lia) (by rw[Xm,<- b];exact e) (by lia) (by rw[hk];exact⟨_,d,q⟩)
def zet (lo a:Option Int)(n:Nat):(Te lo a none n).1=((HT.sIx n 0 lo:Nat):Int)/\(Te lo a none n).2.1=((HT.sIx n n a:Nat):Int)/\(Te lo a none n).2.2=1:=by
 refine⟨?_,?_,rfl⟩
 .cases lo with
  | none=>simp[Te,HT.sIx]
  | some i =>
   simp only[Te,HT.sIx,Option.getD_none,show (1:Int)>0 by decide,if_true];by_cases h:i<0
   .simp only[h,if_true]<;>lia
   .simp only[h,if_false]<;>lia
 .cases a with
  | none=>simp[Te,HT.sIx]
  | some i =>
   simp only[Te,HT.sIx,Option.getD_none,show (1:Int)>0 by decide,if_true];by_cases h:i<0
   .simp only[h,if_true]<;>lia
   .simp only[h,if_false]<;>lia
def zdc (a:List X9)(lo b:Option Int):slicePick a.toArray lo b none=((a.drop (HT.sIx a.length 0 lo)).take (HT.sIx a.length a.length b-HT.sIx a.length 0 lo)).toArray:=by
 obtain⟨h1,h2,c⟩:=zet lo b a.toArray.size;unfold slicePick;rw[h1,h2,c];simp only[sliceRange_one,pick_run,Xm]<;>rfl
def zrL (K:XS):V->Option Int->Option Int->Hp->VK->Prop:=λx lo c H Q=>∃a b,x=.ref a/\SqL K H a b/\∀p,H p=none->Q (.ref p) (upd H p (.lst (zjj b lo c)))
def zmX:SlR X (zrL X.K):=by
 intro u s A H x v y z lo e w Q I p g m n h;revert h;refine eF λa c z0 i q=>?_;subst z0;cases p;obtain⟨l,r,f,j⟩:=I.list i;have d:=r.length;refine⟨"list",_,slot_list_getitem.lookup,f.isList.typeIs,?_⟩;refine wpAny_getItem_list_slice f.isList g m n .none (by simp) ?_ (by rw[Xm]<;>lia);rw[zdc,<- d];refine⟨.ref s.heap.objs.size,_,I.laid (t':=s.toks) (o:=.lst (zjj c lo e)) (λb ob q=>XW _ q) (XT _) ?_,rfl,q _ (I.hok.fresh (XT _))⟩;exact⟨X6 (zfn c lo e) j,_,0,(r.drop (HT.sIx c.length 0 lo)).take (HT.sIx c.length c.length e-HT.sIx c.length 0 lo),W4 _ rfl⟩
def zak:V->Bool
 | .non=>true
 | .bl _=>true
 | .int _=>true
 | .str _=>true
 | _=>false
def eqV:V->V->Bool
 | .non,.non=>true
 | .bl a,.bl b=>a==b
 | .bl a,.int b=>(if a then 1 else 0)==b
 | .int a,.bl b=>a==(if b then 1 else 0)
 | .int a,.int b=>a==b
 | .str a,.str b=>a==b
 | _,_=>false
def zpm {A:WO}{s:X7}{y x:V}{u v:X9}(f:RelV y u)(c:RelV x v)(g:zak y=true)(e:zak x=true):SeqAt.EqAt A s u v (eqV y x):=by
 cases y with
 | non =>
  cases f;cases x with
  | non=>cases c;exact SeqAt.EqAt.same _
  | bl b=>cases c;exact SeqAt.EqAt.none_bool b
  | int b=>obtain⟨t,rfl⟩:=c;exact SeqAt.EqAt.none_int b t
  | str b=>obtain⟨t,rfl⟩:=c;exact SeqAt.EqAt.none_str b t
  | _=>exact absurd (show false=true from e) XU
 | bl a =>
  cases f;cases x with
  | non=>cases c;exact SeqAt.EqAt.bool_none a
  | bl b=>cases c;exact SeqAt.EqAt.bool_bool a b
  | int b=>obtain⟨t,rfl⟩:=c;exact SeqAt.EqAt.bool_int a b t
  | str b=>obtain⟨t,rfl⟩:=c;exact SeqAt.EqAt.bool_str a b t
  | _=>exact absurd (show false=true from e) XU
 | int a =>
  obtain⟨d,rfl⟩:=f;cases x with
  | non=>cases c;exact SeqAt.EqAt.int_none a d
  | bl b=>cases c;exact SeqAt.EqAt.int_bool a d b
  | int b=>obtain⟨t,rfl⟩:=c;exact SeqAt.EqAt.int_int a d b t
  | str b=>obtain⟨t,rfl⟩:=c;exact SeqAt.EqAt.int_str a d b t
  | _=>exact absurd (show false=true from e) XU
 | str a =>
  obtain⟨d,rfl⟩:=f;cases x with
  | non=>cases c;exact SeqAt.EqAt.str_none a d
  | bl b=>cases c;exact SeqAt.EqAt.str_bool a d b
  | int b=>obtain⟨t,rfl⟩:=c;exact SeqAt.EqAt.str_int a d b t
  | str b=>obtain⟨t,rfl⟩:=c;exact SeqAt.EqAt.str_str a d b t
  | _=>exact absurd (show false=true from e) XU
 | _=>exact absurd (show false=true from g) XU
def eqU (x:V)(u:X9):Bool:=match u with
 | .none=>eqV .non x
 | .bool b=>eqV (.bl b) x
 | .int i _=>eqV (.int i) x
 | .str z _=>eqV (.str z) x
 | _=>false
def zkF {x y:V}{u:X9}(r:RelV y u)(f:zak y=true):eqU x u=eqV y x:=by
 cases y with
 | non=>cases r;rfl
 | bl b=>cases r;rfl
 | int i=>obtain⟨t,rfl⟩:=r;rfl
 | str z=>obtain⟨t,rfl⟩:=r;rfl
 | _=>exact absurd (show false=true from f) XU
theorem zeu {x:V}:∀{xs:AE} {a:List X9},Vals xs a->xs.all zak=true->a.any (eqU x)=xs.any λy=>eqV y x
 | _,_,.nil,_=>rfl
 | y::xs,u::a,.cons r t,f=>by
  rw[RJ,Wp]at f;rw[SA,SA,zkF r f.1,zeu t f.2]
theorem zb9 {A:WO}{s:X7}{x:V}{v:X9}(c:RelV x v)(b:zak x=true):∀{xs:AE} {a:List X9},Vals xs a->xs.all zak=true->∀u∈a,SeqAt.EqAt A s u v (eqU x u)
 | _,_,.nil,_=>λu hu=>by cases hu
 | y::xs,u::a,.cons r t,f=>λd hu=>by
  rw[RJ,Wp]at f;rcases XI.mp hu with rfl | hu
  .rw[zkF r f.1];exact zpm r c f.1 b
  .exact zb9 c b t f.2 d hu
def inV (x:V)(xs:AE):Bool:=xs.any λy=>eqV y x
def rIn (K:XS)(neg:Bool):R2:=λx y H Q=>∃p a,y=.ref p/\(SqL K H p a\/SqT K H p a)/\zak x=true/\a.all zak=true/\Q (.bl (if neg then !inV x a else inV x a)) H
def zjk:OpR X (Wg .In) (rIn X.K false):=by
 intro i s l H x y v u Q I e g h;revert h;refine eK λp j z0 hq d fs q=>?_;subst z0;cases g;rcases hq with hq | hq
 .obtain⟨a,r,c,f⟩:=I.list hq;refine SeqAt.in_listAt (eqU x) c.isList (λw b=>zb9 e d r fs w (by simpa using b)) ⟨.bl _,H,I,rfl,?_⟩;rw[show a.toArray.any (eqU x)=a.any (eqU x) by simp,zeu r fs];exact q
 .obtain⟨a,r,c,f⟩:=I.tuple hq;refine SeqAt.in_tupleAt (eqU x) c (λw b=>zb9 e d r fs w (by simpa using b)) ⟨.bl _,H,I,rfl,?_⟩;rw[show a.toArray.any (eqU x)=a.any (eqU x) by simp,zeu r fs];exact q
def qo:jk X (.builtin "len") (λxs H Q=>∃p ys,xs=[.ref p]/\(SqL X.K H p ys\/SqT X.K H p ys)/\Q (.int ys.length) H):=by
 intro g s l H xs j Q I r h;obtain⟨p,ys,rfl,hq,q⟩:=h;obtain⟨u,rfl,f⟩:=vals1 r;cases f;have i:=YK;rcases hq with hq | hq
 .obtain⟨b,d,c,e⟩:=I.list hq;have a:=d.length;exact Calls.call_len_list c.isList (by simp only[Xm]<;>lia) ⟨.int ys.length,H,I.tok _,⟨s.toks+1,by rw[Xm,a]⟩,q⟩
 .obtain⟨b,d,c,e⟩:=I.tuple hq;have a:=d.length;exact len_tuple c (by simp only[Xm]<;>lia) ⟨.int ys.length,H,I.tok _,⟨s.toks+1,by rw[Xm,a]⟩,q⟩
def zal:jk X (.builtin "len") (λxs H Q=>∃z,xs=[.str z]/\z.length<=Xv/\Q (.int z.length) H):=by
 intro a s e H xs d Q I r h;obtain⟨z,rfl,c,q⟩:=h;obtain⟨u,rfl,t,rfl⟩:=vals1 r;have b:=YK;exact len_str (by lia) ⟨.int z.length,H,I.tok _,⟨_,rfl⟩,q⟩
def zew:jk X (.type "list") (λxs H Q=>∃p ys,xs=[.ref p]/\(SqL X.K H p ys\/SqT X.K H p ys)/\∀l,H l=none->Q (.ref l) (upd H l (.lst ys))):=by
 intro B s E H xs G Q I r h;obtain⟨p,ys,rfl,hq,q⟩:=h;obtain⟨u,rfl,D⟩:=vals1 r;cases D;have g:∀(a:List X9),Vals ys a->ys.length<=Xv->∀(c:Heap) (d:Nat),(∀b A,s.heap.get? b=some A->c.get? b=some A) ->
   c.get? s.heap.objs.size=some { cls:=.type "list",dict:=none,data:=.seq a.toArray d,slots:=#[] }->EP X B E Q (.ref s.heap.objs.size) { s with heap:=c }:=λa f j c d m e =>
  ⟨.ref s.heap.objs.size,_,I.laid (t':=s.toks) m (XT _) (show jy X.prog X.w _ c _ (.lst ys) from ⟨j,a,d,f,e⟩),rfl,q _ (I.hok.fresh (XT _))⟩
 rcases hq with hq | hq
 .obtain⟨a,f,z,j⟩:=I.list hq;have i:=f.length;obtain⟨o,y,v,n,x⟩:=z.isList;exact call_list_seq p (.inl rfl) y v x (λc d m e=>g a f j c d m e) (by simp only[Xm]<;>lia)
 .obtain⟨a,f,z,j⟩:=I.tuple hq;have i:=f.length;obtain⟨o,y,v,n,x⟩:=z;exact call_list_seq p (.inr rfl) y v x (λc d m e=>g a f j c d m e) (by simp only[Xm]<;>lia)
def tyV (K:XS)(T:String)(x:V)(H:Hp):Prop:=match x with
 | .str _=>T="str"
 | .int _=>T="int"
 | .ref p=>(T="list"/\∃b,SqL K H p b)\/(T="tuple"/\∃o,K.lookup p=some o/\o.cls=.type "tuple"/\o.dict=none) \/
   (T="dict"/\((∃a,H p=some (.dK a))\/∃a,H p=some (.dT a)))\/(T="set"/\∃S n,H p=some (.set S n))
 | _=>False
def zpn {j:List (Addr×Obj)}{u:St}{H:Hp}{s:X7}{T:String}{x:V}{v:X9}(I:Inv X j u H s)(r:RelV x v)(ty:tyV X.K T x H) :
  s.TypeIs v T/\∀a,v=.ref a->∃ob,s.heap.get? a=some ob/\ob.dict=none:=by
 cases x with
 | str z =>
  obtain⟨t,rfl⟩:=r;cases (show T="str" from ty);exact⟨typeIs_str s z t,λ_ e=>nomatch e⟩
 | int i =>
  obtain⟨t,rfl⟩:=r;cases (show T="int" from ty);exact⟨typeIs_int s i t,λ_ e=>nomatch e⟩
 | ref p =>
  cases r;rcases ty with ⟨rfl,w,m⟩ | ⟨rfl,o,hk,l,f⟩ | ⟨rfl,hk⟩ | ⟨rfl,S,n,hk⟩
  .obtain⟨q,_,h,_⟩:=I.list m;refine⟨h.isList.typeIs,λa e=>?_⟩;cases e;obtain⟨o,n,e,c,f,_⟩:=h;exact⟨o,e,f⟩
  .refine⟨⟨o,I.kIn p o hk,l⟩,λa e=>?_⟩;cases e;exact⟨o,I.kIn _ o hk,f⟩
  .have z:∃o,s.heap.get? p=some o/\o.ExactDict:=by
    rcases hk with ⟨g,hk⟩ | ⟨g,hk⟩
    .refine e8 (λ_ _ _ _=>fh λo _ _ e b _=>?_) (I.hok p _ hk);exact⟨o,e,b⟩
    .refine e8 (λ_ _ _ _=>fh λo _ _ e b _=>?_) (I.hok p _ hk);exact⟨o,e,b⟩
   obtain⟨o,e,b⟩:=z;refine⟨⟨o,e,b.1⟩,λa d=>?_⟩;cases d;exact⟨o,e,b.2.1⟩
  .refine eH (λo _ _ _=>eN λe b _=>?_) (I.hok p _ hk);refine⟨⟨o,e,b.1⟩,λa d=>?_⟩;cases d;exact⟨o,e,b.2.1⟩
 | _=>exact Vj ty
def tBM (K:XS)(T:String)(r:V->AE->Hp->VK->Prop)(d:TE)(t:TA):TE:=fun b H Q=>d b H λx a=>tyV K T x a/\t b a λe c=>r x e c Q
variable {o e:Expr}{es:List Expr}{to:TE}{t:TA}{name:Str}{apos cpos:Pos}{T id:String}{r:V->AE->Hp->VK->Prop}
def yH (B:PlainAttrs T)(f:Slot T name id)(i:typeOf (.builtin id)=pure (.type "method_descriptor"))(y:MtR X id r)(z:PE X o to)(w:PA X (e::es) t)
  (b:attributeBase o name X.env (eval o X.env)=eval o X.env:=by rfl)
  (d:((Tb cpos (WU (e::es) X.env)).all (λx=>!x.1)&&(backToKw cpos (keywordEach [] X.env)).all (λx=>x.1.isSome)
   && decide ((e::es).length+([]:List OD).length+(if ([]:List OD).isEmpty then 0 else 1)<30))=true:=by rfl)
  (c:(apos.endLine==cpos.line)=true:=by rfl) (A:WU (e::es) X.env=(false,eval e X.env)::WU es X.env:=by rfl) (a:(Tb cpos (WU es X.env)).any (·.1)=false:=by rfl) :
  PE X (.Call (.Attribute o name apos) (e::es) [] cpos) (tBM X.K T r to t):=by
 intro g s j H Q I h;refine wpAny_Call_method_late b d c rfl (thn (z g s j H _ I h) λv s1 ⟨x,p,l,n,ty,D⟩=>?_);obtain⟨h1,h2⟩:=zpn l n ty;refine cZ T id B f i h1 h2 ?_;have m:=w cpos g s1 j p _ l D;rw[A]at m ⊢;refine QR (by show (false || (Tb cpos (WU es X.env)).any (·.1))=false;rw[a]<;>rfl) (Sq ?_);exact thn m λL J ⟨M,q,u,G,E⟩=>y g J j q x M v L Q u n G E
/- xs.append(e),list.index on a module's tuple .. are MtR facts of 06m -/
end
def MtM (X:Cx)(id:String)(r:V->AE->Hp->VK->Prop):Prop :=
 ∀(a:List (Addr×Obj)) (s:X7) (d:St) (H:Hp) (x:V) (c:AE) (v:X9) (b:List X9) (Q:VK),Inv X a d H s->RelV x v->Vals c b->r x c H Q ->
  Xe (Xg X.prog X.w) X.A (call (.builtin id) (v::b)) (EP X a d Q) X.xe s
theorem Vals.one:∀{x:V} {a:List X9},Vals [x] a->∃u,a=[u]/\RelV x u
 | _,_,.cons r .nil=>⟨_,rfl,r⟩
theorem Vals.rep {xs:AE}{a:List X9}(h:Vals xs a):∀k:Nat,Vals (Wr k xs).flatten (Wr k a).flatten
 | 0=>.nil
 | k+1=>by
  rw[Va,Va,VS,VS];exact Vals.append h (Vals.rep h k)
theorem foldl_rep (b:List X9):∀(k:Nat) (a:List X9),
  List.foldl (λd f=>d++f) a.toArray (Wr k b.toArray)=(a++(Wr k b).flatten).toArray
 | 0,a=>by simp
 | k+1,a=>by
  have e:a.toArray++b.toArray=(a++b).toArray:=by simp
  have c:(a++b)++(Wr k b).flatten=a++(Wr (k+1) b).flatten:=by
   rw[Va,VS,W3]
  rw[<- c,<- foldl_rep b k (a++b),<- e,Va,VW]
section
variable {X:Cx}{bz:List (Addr×Obj)}{σ:St}{H:Hp}{s:X7}{l b:Addr}{xs ys zs:AE}
def Inv.lset {a its':List X9}{n:Nat}{f:Array X9->Array X9}{t':Nat}(I:Inv X bz σ H s)(b:H l=some (.lst xs))
  (e:s.heap.get? l=some { cls:=.type "list",data:=.seq a.toArray n }) (d:f a.toArray=its'.toArray) (h:Vals ys its') (i:ys.length<=Xv) :
  Inv X bz σ (upd H l (.lst ys)) { s with heap:=s.heap.update l (Vc f),toks:=t' }:=by
 have q:=PySem.IsL.update e f;rw[d]at q;refine I.write (x:=l) (e:=l) (by rw[b];exact trivial) (.inl rfl) (λj u c g=>(Uo s.heap (Vc f) (Vq c)).trans g) ⟨_,q⟩ ?_;exact⟨i,its',_,h,q⟩
def Inv.lnew {a:List X9}{t':Nat}(I:Inv X bz σ H s)(b:Vals ys a)(hz:ys.length<=Xv) :
  Inv X bz σ (upd H s.heap.objs.size (.lst ys)) { s with heap:=s.heap.push { cls:=.type "list",data:=.seq a.toArray },toks:=t' } :=
 I.laid (λ_ _ q=>XW _ q) (XT _) ⟨hz,a,0,b,W4 _ rfl⟩
theorem Inv.fresh (I:Inv X bz σ H s):H s.heap.objs.size=none:=I.hok.fresh (XT _)
def Inv.lstM (I:Inv X bz σ H s)(b:H l=some (.lst xs)):xs.length<=Xv/\∃(a:List X9) (n:Nat),Vals xs a/\xs.length=a.length/\s.heap.get? l=some { cls:=.type "list",data:=.seq a.toArray n }:=by
 obtain⟨z,a,n,r,e⟩:=I.hok l _ b;exact⟨z,a,n,r,r.length,e⟩
def zfo {n:Nat}(h:n<=Xv):UI n=false:=by
 unfold UI;exact bf (by lia)
end
section
variable {X:Cx}
def zmY:V->AE->Hp->VK->Prop:=λx b H Q=>∃l a y,x=.ref l/\b=[y]/\H l=some (.lst a)/\a.length<Xv/\Q .non (upd H l (.lst (a++[y])))
def JC:MtM X "list.append" zmY:=by
 intro g s w H x o v m Q I f d h;revert h;refine e7 λl p y z0 z1 b j q=>?_;subst z0 z1;cases f;obtain⟨u,rfl,c⟩:=d.one;refine fE (λz a n r i e=>?_) (I.lstM b);refine Rh F.slot_list_append ⟨_,e,rfl⟩ F.entry_list_append (F.args_list_append_2 _ _) (PySem.list_append l a.toArray n u (by rw[Xm];lia)) ⟨e,?_⟩;refine⟨.non,_,I.lset (its':=a++[u]) b e (by simp) (r.append (.cons c .nil)) ?_,rfl,q⟩;rw[X4,PY];lia
def zmZ:V->AE->Hp->VK->Prop:=λx d H Q=>∃l b a c,x=.ref l/\d=[.ref b]/\H l=some (.lst a)/\H b=some (.lst c)/\a.length+c.length<=Xv/\Q .non (upd H l (.lst (a++c)))
def JD:MtM X "list.extend" zmZ:=by
 intro B s O H x J v G Q I A y h;revert h;refine fz λl b L N z0 z1 g j E q=>?_;subst z0 z1;cases A;obtain⟨u,rfl,w⟩:=y.one;cases w;refine fE (λz c n r D e=>?_) (I.lstM g);refine fE (λM a o p m i=>?_) (I.lstM j);have f:c.toArray.size+a.toArray.size<=Xv:=by rw[Xm,Xm];lia
 have d:¬ (!c.toArray.isEmpty&&UI (c.toArray.size+a.toArray.size))=true:=by
  rw[zfo f,Pz];exact XU
 refine Rh F.slot_list_extend ⟨_,e,rfl⟩ F.entry_list_extend (F.args_list_extend_2 _ _)
  (AutoSeq1.list_extend_list_list_0 l c.toArray n b a.toArray o d (by rw[Xm];lia) (by lia)) ⟨e,i,?_⟩
 refine⟨.non,_,I.lset (its':=c++a) g e (by simp) (r.append p) ?_,rfl,q⟩;rw[X4];lia
def zrM:R2:=λx y H Q=>∃l b a c,x=.ref l/\y=.ref b/\H l=some (.lst a)/\H b=some (.lst c)/\a.length+c.length<=Xv/\∀p,H p=none->Q (.ref p) (upd H p (.lst (a++c)))
def JK:OpR X (T7 .Add) zrM:=by
 intro w s L H x y v u Q I o p h;revert h;refine fz λl b E J z0 z1 i g B q=>?_;subst z0 z1;cases o;cases p;refine fE (λz c n r A e=>?_) (I.lstM i);refine fE (λG a D m j d=>?_) (I.lstM g);refine PySem.P.add_list e d ?_ (by rw[Xm,Xm];lia);have f:c.toArray++a.toArray=(c++a).toArray:=by simp
 rw[f];exact⟨.ref _,_,I.lnew (t':=s.toks) (r.append m) (by rw[X4];lia),rfl,q _ I.fresh⟩
def zrN:R2:=λx y H Q=>∃l k a,x=.ref l/\y=.int k/\H l=some (.lst a)/\-(2^63)<=k/\k<2^63/\a.length*k.toNat<=Xv /\
 ∀p,H p=none->Q (.ref p) (upd H p (.lst (Wr k.toNat a).flatten))
def len_rep {α:Type}(xs:List α)(k:Nat):(Wr k xs).flatten.length=k*xs.length:=by
 induction k with
 | zero=>simp
 | succ k a=>rw[Va,VS,X4,a,Nat.succ_mul,Nat.add_comm]
def zkG:OpR X (T7 .Mult) zrN:=by
 intro J s N H x y v u Q I D E h;revert h;refine e7 λl k M z0 z1 A h1=>eN λh2 p q=>?_;subst z0 z1;cases D;obtain⟨t,rfl⟩:=E;refine fE (λz b n r B e=>?_) (I.lstM A);have g:b.toArray.size*k.toNat<=Xv:=by rw[Xm,<- B];exact p
 have d:¬ b.toArray.size*k.toNat>(2^63-1)/8:=by
  have:(Xv:Nat)<=(2^63-1)/8:=by decide
  lia
 have f:¬ (!Builtin.List.listFitsIndex k)=true:=by
  rw[fitsIndex_both h1 h2];exact XU
 have c:¬ UI (b.toArray.size*k.toNat)=true:=by
  rw[zfo g];exact XU
 have i:List.foldl (λj o=>j++o) #[] (Wr (if b.toArray.isEmpty=true then 0 else k.toNat) b.toArray)=(Wr k.toNat b).flatten.toArray:=by
  have w:∀m:Nat,List.foldl (λj o=>j++o) #[] (Wr m b.toArray)=(Wr m b).flatten.toArray:=λm=>by
   have:=foldl_rep b m [];rw[P1]at this;exact this
  rw[w];cases b with
  | nil=>simp
  | cons a L=>rw[bq (by simp)]
 refine wpAny_binaryOp_repeat_ref (T:="list") (U:="int") (by decide) ⟨_,e,rfl⟩ (λG=>typeIs_int G k t) noFill_list_mul F.fills_int_mul F.slot_int_rmul repeat_list F.slot_int_index.lookup
  (Rh F.slot_int_rmul (typeIs_int s k t) F.entry_int_rmul (F.args_int_rmul_2 _ _) (int___rmul___int_list k t l b.toArray n)
   ⟨e,rfl,⟨_,e,rfl⟩,Rh F.slot_list_mul ⟨_,e,rfl⟩ F.entry_list_mul (F.args_list_mul_2 _ _) (AutoListH.list___mul___list_int_3 l b.toArray n k t f d c) ⟨e,?_⟩⟩)
 rw[i];exact⟨.ref _,_,I.lnew (t':=s.toks) (r.rep k.toNat) (by rw[len_rep,Nat.mul_comm];exact p),rfl,q _ I.fresh⟩
end
end L2
namespace Att
open PySem PySem.W PySem.Calls PyProof.Rows
def zbI {P:OI}{h:Heap}:∀(c:List Int) (vs:List X9),WellAll P h vs (c.map WData.int)->Pg vs c:=by
 intro c;induction c with
 | nil =>
  intro vs w;rw[TV]at w;cases w;exact .nil
 | cons n c d =>
  intro vs w;rw[XD]at w;cases w with
  | cons a b =>
   cases a;exact .cons _ _ (d _ b)
def zjl {l:OpenLaw}{n:Nat}(u:l.most=some n){P:OI}{h:Heap}{args:List WData}{e:List X9}
  (c:l.row.toRowW.claim.pre args=true) (o:WellAll P h e args) :
  ∃a vs b,e=[WA a]/\args=[WData.list (b.map WData.int)]/\h.get? a=some { cls:=.type "list",data:=.seq vs.toArray }/\Pg vs b/\b.length<=n:=by
 have m:WShape.hasAll [] args [.list .int]=true:=(pre_splitW c).1;have p:l.pre.holds [] { args:=args }=true:=(pre_splitW c).2;obtain⟨d,r,rfl,h1,h2⟩:=hasAllW_cons m;obtain rfl:=hasAllW_nil h2;obtain⟨z,rfl,s⟩:=hasW_list h1;obtain⟨b,rfl⟩:=items_int s;have g:b.length<=n:=by
  unfold OpenLaw.pre at p;have i:(WTm.not (.lt (.lit (.int (n:Int))) (.len (.arg 0)))).holds [] { args:=[.list (b.map .int)] }=true:=by
   have i:=(holds_andW p).1;rw[u]at i;exact i
  have j:=condW_of i (w_not (w_lt w_lit (w_len_list (w_arg rfl))));rw[ZB]at j;refine Nat.le_of_not_lt λq=>?_;have w:(n:Int)<((b.length:Nat):Int):=by lia
  first
   | (rw[br w]at j;exact absurd j (by decide))
   | (simp at j;lia)
 cases o with
 | cons x y =>
  cases y;cases x with
  | list v f=>exact⟨_,_,b,rfl,rfl,v,zbI b _ f,g⟩
def zjm (l:OpenLaw)(args:List WData):l.row.toRowW.claim.post args (.bool true) args=true :=
 postW_of (r:=l.row.toRowW) (X:=(true==true))
  (show WShape.has [] (.bool true) .bool=true by first | rfl | decide | simp[WShape.has,WShape.arms,WShape.armsAll])
  (show (WTm.eq .res (.lit (.bool true))).value [] { args:=args,res:=some (.bool true),after:=args }=some (.bool (true==true)) from w_eq_bool (w_res rfl) w_lit) rfl
def zfp {l:OpenLaw}{n:Nat}{q:Xh}{loose:AD}{XP:(Str->Option X9)->Heap->Prop}{YP:W2->Heap->Prop}{d:DefRec}
  (hn:l.most=some n) (x:d.params.defaults=[])
  (call:∀(w:W2) (c b:X7) (p A:Str->Option X9) (g:Addr) (o:Obj) (B m doc:X9) (a:Addr) (vs:List X9) (s:List Int),
   Ground q loose [] XP w c p A b.heap->YP w b.heap ->
   b.heap.get? g=some o->o.data=.func (docDef d.name d.params d.body d.scope B m doc)->b.heap.CodeRec m d.name->p d.name=some (.ref g) ->
   b.heap.get? a=some { cls:=.type "list",data:=.seq vs.toArray }->Pg vs s->s.length<=n->b.gens=#[] ->
   Ta (Xg l.prog w) Pf (.call (.ref g) ⟨[.ref a],[]⟩) (λr u=>r=.ok (.ret (.bool true))/\OldK b.heap u.heap/\u.os=b.os/\SD u.gens) b) :
  WalkO q loose XP YP l.row.toRowW d [] (λf vs=>PySem.call f vs):=by
 intro w c b p A G Y g o B m doc J kV ho N v E y O D I as j H aa z Q;obtain rfl:J=.none:=Dflts.none E x;obtain rfl:kV=.none:=Dflts.noKw E;refine e7 (λa vs s z0 z1 i e h=>?_) (zjl hn j z);subst z0 z1;refine enter_call (S8 (call w c b p A g o B m doc a vs s G Y ho (fd_plain N) v y i e h O) λr u hq=>?_);obtain⟨rfl,h2,L,M⟩:=hq;exact⟨.inl (dI (.bool true) (.bool true) [] rfl (λ_=>rfl) (.bool true) (zjm l _) (λ_=>⟨List.Pairwise.nil,λ_ U=>(nomatch U)⟩)),h2,L,M⟩
end Att
namespace L2
open PySem PySem.Spec PyProof.Rows
theorem zdG:∀{vs:List X9} {a:List Int},Pg vs a->Vals (a.map V.int) vs
 | _,_,.nil=>.nil
 | _,_,.cons n t h=>.cons ⟨t,rfl⟩ (zdG h)
def zpo (H:Hp):Prop:=∀b,H b=none\/∃o a,H b=some (.frz o (.lst a))
def zkH {P:Xh}{w:W2}{K:XS}{N mb:Str->Option X9}{CX:CXT}{k:Nat}{fa a:Addr}{fd:XC}{x:Str}{sp:Sp}{c:X7}{vs:List X9}{O:List Int}
  (KX:K.In c.heap) (I:c.heap.Ns Xx N) (g:c.heap.Ns OY mb) (ab:∀x:Str,x ≠ "__name__"->mb x=Uv x) (G:c.heap.NoLimit) (hg:c.gens=#[])
  (U:c.heap.get? a=some { cls:=.type "list",data:=.seq vs.toArray }) (hi:Pg vs O) (hl:O.length<=Xv) (hr:Zr k Pf)
  (F:∀i:Heap,K.In i->i.Ns Xx N->qc P w K N i CX k fa fd [x] sp) (y:∀(s:X7) (u:X9),OP s fd ⟨[u],[]⟩ [(x,u)])
  (ac:∀H:Hp,zpo H->SqL K H a (O.map V.int)->sp [.ref a] H (λv _=>v=.bl true) λ_ _ _=>False)
  (aa:∀H e j,CX [] H c (λ_ _ _=>False) e j->False) :
  Ta (Xg P w) Pf (.call (.ref fa) ⟨[.ref a],[]⟩) (λr j=>r=.ok (.ret (.bool true))/\OldK c.heap j.heap/\j.os=c.os/\SD j.gens) c:=by
 have rv:=zdG hi;have M:=hi.length;have p:∀H:Hp,zpo H->SqL K H a (O.map V.int)->HOk P w H c.heap->(∀b,H b≠none->b=a)->(H a≠none->K.lookup a=none) ->
   Ta (Xg P w) Pf (.call (.ref fa) ⟨[.ref a],[]⟩) (λr j=>r=.ok (.ret (.bool true))/\OldK c.heap j.heap/\j.os=c.os/\SD j.gens) c:=by
  intro H hO hS J hA hK;have f:∀{b:Addr} {o:Obj},c.heap.get? b=some o->H b=none->(zep c.heap H).get? b=some o:=λe n=>zku e n;have ae:∀{b:Addr} {o:Obj} {D:Array Rx} {B:Nat},c.heap.get? b=some o->o.data=.dict D B->H b=none:=λ{b o D B} e d=>by
   cases q:H b with
   | none=>rfl
   | some u =>
    have Y:b=a:=hA b (by rw[q];simp);subst Y;rw[U]at e;cases e;have d':Data.seq vs.toArray _=Data.dict D B:=d;cases d'
  have l:∀{b:Addr} {m:Str->Option X9},c.heap.Ns b m->(zep c.heap H).Ns b m:=λ{b m} ⟨o,D,B,e,d,r⟩=>⟨o,D,B,f e (ae e d),d,r⟩;have E:K.In (zep c.heap H):=λb o e=>f (KX b o e) (by
   cases q:H b with
   | none=>rfl
   | some u =>
    have Y:b=a:=hA b (by rw[q];simp);subst Y;rw[hK (by rw[q];simp)]at e;cases e)
  have hM:Mod K N (zep c.heap H):=⟨E,l I,⟨mb,l g,ab⟩,let ⟨mc,h1,h2⟩:=G;⟨mc,l h1,h2⟩⟩;have e0:zmR P w K N (zep c.heap H) Pf [] c H:=⟨rfl,hM,λb o e=>zmO e,Nat.le_of_eq (zjc _ _),trivial,λb g=>absurd (show b∈([]:List Addr) from g) (by simp),J,.of_eq hg⟩;refine S8 ((F _ E (l I)).run Pf [] c H ⟨[.ref a],[]⟩ [.ref a] [.ref a] _ _ hr e0 (y c (.ref a)) (.cons rfl .nil) (ac H hO hS)) λr j h=>?_;cases r with
  | error e=>exact(aa H e j h).elim
  | ok fl =>
   cases fl with
   | next=>exact Vj h
   | brk=>exact Vj h
   | cont=>exact Vj h
   | ret u =>
    revert h;refine fu λv H' os A un L r' q=>?_;have q':v=.bl true:=q;subst q';obtain rfl:u=Value.bool true:=r';refine⟨rfl,OldK.of_keep λb o e=>?_,os,A⟩;cases q:H b with
    | none=>exact un.keep b o e q (by intro z;exact absurd (show b∈([]:List Addr) from z) (by simp)) (by simp)
    | some u =>
     rcases hO b with z | ⟨ob,xs,z⟩
     .rw[q]at z;cases z
     .have z2:=un.frzs b ob _ z;obtain⟨e1,_⟩:=J b _ z;obtain⟨e2,_⟩:=L b _ z2;rw[e]at e1;cases e1;exact e2
 cases hk:K.lookup a with
 | some o =>
  have e:=KX a o hk;rw[U]at e;cases e;refine p (λ_=>none) (λ_=>.inl rfl) (.inr ⟨_,vs.toArray,_,hk,rfl,rfl,rfl,by rw[Xm,M];exact hl,by simpa using rv⟩) (λb u z=>by have Q:(none:Option HO)=some u:=z;cases Q) (λb z=>absurd rfl z) λz=>absurd rfl z
 | none =>
  refine p (λb=>if b=a then some (.frz { cls:=.type "list",data:=.seq vs.toArray } (.lst (O.map V.int))) else none) (λb=>?_) (.inl (.inr ⟨{ cls:=.type "list",data:=.seq vs.toArray },bw rfl⟩)) (λb u z=>?_) (λb z=>?_) λ_=>hk
  .by_cases g:b=a
   .exact .inr ⟨_,_,bw g⟩
   .exact .inl (bq g)
  .by_cases g:b=a
   .have Q:=(bw g).symm.trans z;cases Q;subst g;exact⟨U,by rw[ZB];exact hl,vs,_,rv,U⟩
   .have Q:=(bq g).symm.trans z;cases Q
  .by_cases g:b=a
   .exact g
   .exact absurd (bq g) z
def zie {l:P0}{n k:Nat}{q:Xh}{loose:AD}{XP:(Str->Option X9)->Heap->Prop}{YP:W2->Heap->Prop}{d:DefRec}{K:OI->XS}{CX:W2->CXT}{sp:W2->Sp}{x:Str}
  (hn:l.most=some n) (E:n<=Xv) (B:d.params.defaults=[]) (hr:Zr k Pf)
  (Q:∀(w:W2) (h:Heap),YP w h->(K w.params).In h)
  (F:∀(w:W2) (j:Str->Option X9) (r:Addr) (h:Heap),(K w.params).In h->h.Ns Xx j->j d.name=some (.ref r) ->
   ∃z:XC,(∀(s:X7) (u:X9),OP s z ⟨[u],[]⟩ [(x,u)]) /\
    ∀base:Heap,(K w.params).In base->base.Ns Xx j->qc l.prog w (K w.params) j base (CX w) k r z [x] (sp w))
  (I:∀(w:W2) (H:Hp) (a:Addr) (y:List Int),y.length<=n->zpo H->SqL (K w.params) H a (y.map V.int)->sp w [.ref a] H (λv _=>v=.bl true) λ_ _ _=>False)
  (A:∀(w:W2) (H:Hp) (s:X7) (e:X9) (s':X7),CX w [] H s (λ_ _ _=>False) e s'->False) :
  O7 q loose XP YP l.row.toRowW d [] (λf vs=>PySem.call f vs):=by
 refine Att.zfp hn B λw L p j mb r o pm cd doc a vs y G Y ho hd aa D m i c hg=>?_;have J:=Q w _ Y;obtain⟨z,U,M⟩:=F w j r _ J G.T.g D;exact zkH J G.T.g G.T.b G.T.builtins G.T.nolimit hg m i (X6 c E) hr M U (λH N O=>I w H a y c N O) λH e s'=>A w H p e s'
end L2
/- THE LAST THEOREM (shape;LID,My.* are yours):
   My.Adr: a structure of the addresses that your layer names (classes,functions);My.Txt K t: a structure (Prop) of the equations over K;
   My.txt_mk:{K} {implicit addresses ..} (e1:nsIn K Xx "law"=some (some (.ref f))) (e2:K.lookup f=some ⟨oc,od,.func (fnOf "law" "law" params body scope dV kV doc pm an cdv ct),sl⟩) (e3:codeIn K cdv "law"=true) ..:∃t,My.Txt K t
set_option maxRecDepth 100000 in
set_option maxHeartbeats 0 in
theorem PySem.Challenge.cw_LID_holds : PySem.Challenge.rw_LID.Holds := by
 w_on;o_law;k_head;(case hw=>w_witness2);k_fill;refine L2.zie (l:=PySem.Challenge.rw_LID) (n:=63) (k:=40) (x:="script") (CX:=λw=>..) (sp:=λ_=>My.zrO) rfl (by decide) rfl ⟨rfl,by decide,by decide⟩ (λw h Y=>PySem.W.kIn_of Y) ?F ?S ?C
 case F =>
  intro w mg fa h KX G hmg
  have T:∃t,My.Txt (L2.KOf KX) t:=by
   dsimp only[L2.KOf]                          -- K must stand as «<heap const> w.params» for k_is;refine' My.txt_mk ?e1 ?e2 ?e3 ..;(case e1=>PySem.W.k_is)                    -- in the order: a name->its address->its object->its parts;(case e2=>PySem.W.k_is);..
  obtain⟨t,T⟩:=T
  have e0:=hmg.symm.trans (Vx KX G T.law)
  cases e0                                       -- fa is the law's own address
  exact⟨_,λs u=>.of_eq rfl,λbase kb nb=>My.law_fn T kb nb⟩     -- if «.of_eq rfl» comes too early: refine' ⟨_,?b,λbase kb nb=>My.law_fn T kb nb⟩;exact λs u=>.of_eq rfl
 case S=>exact λw H a ns hl hO hS=>..
 case C=>exact ..
(the tactic k_is has no namespace: write k_is) -/
namespace L2
open PySem PySem.Spec PyProof.Rows
def J4 (s:Stmt):Arguments:=match s with
 | .FunctionDef _ a _ _ _ _ _ _ _ _=>a
 | _=>{ posonlyargs:=[],args:=[],vararg:=none,kwonlyargs:=[],kw_defaults:=[],kwarg:=none,defaults:=[] }
def xw (s:Stmt):List Stmt:=match s with
 | .FunctionDef _ _ b _ _ _ _ _ _ _=>b
 | _=>[]
def zp (s:Stmt):UE:=match s with
 | .FunctionDef _ _ _ _ _ _ a _ _ _=>a
 | _=>{ kind:=.function,names:=[],isGenerator:=false,isCoroutine:=false }
abbrev CX0:CXT:=λ_ _ _ _ _ _=>False
abbrev E0:XK:=λ_ _ _=>False
def zqS {X:Cx}:Passes CX0 X E0:=λ_ _ _ _ _ _ _ h=>h.elim
structure Fun (K:XS)(x qual:Str)(st:Stmt)(f:Addr)(fd:XC):Prop where
 ex:∃(oc:X9) (od:Option Addr) (kV doc pm:X9) (an:Option Addr) (cdv ct:X9) (osl:Array (Option X9)),
  fd=UO x qual (J4 st) (xw st) (zp st) .none kV doc pm an cdv ct/\K.lookup f=some ⟨oc,od,.func fd,osl⟩/\S6 K cdv qual=true
 kp:T2 K (.ref f)=true
section
variable {P:Xh}{w:W2}{K:XS}{mg:Str->Option X9}{base:Heap}
theorem cxK {CX P w K mg base N q sc f cd A o s H E}:(zfl CX P w K mg base N q sc f cd A o s H E).K=K:=rfl
theorem cxP {CX P w K mg base N q sc f cd A o s H E}:(zfl CX P w K mg base N q sc f cd A o s H E).prog=P:=rfl
theorem cxW {CX P w K mg base N q sc f cd A o s H E}:(zfl CX P w K mg base N q sc f cd A o s H E).w=w:=rfl
def Fun.ok {x b:Str}{st:Stmt}{f:Addr}{i:XC}{N ps:AD}{k:Nat}{sp:Sp}(F:Fun K x b st f i)(S:zD N ps (zp st))(len:∀vs H Q E,sp vs H Q E->vs.length=ps.length)
  (d:∀(c:X9) (A:WO) (a:List Env) (s:X7) (H:Hp) (vs:AE) (Q:VK) (E:XK),Zr k (A.deeper (Ri b (zp st) s.heap.objs.size f c))->sp vs H Q E ->
   ∃t,PSs (zfl CX0 P w K mg base N b (zp st) f c A a s H E).nox (xw st) t/\t { nx:=λ_ j=>Q .non j,rt:=Q } (start N vs) H):qc P w K mg base CX0 (k+1) f i ps sp:=by
 refine eE (λr u kV doc v o c p=>eS λn z0 m e=>?_) F.ex;subst z0;refine zoo m e S len λA a s H vs Q E l g=>?_;obtain⟨t,h,q⟩:=d c A a s H vs Q E l g;exact⟨t,h.nox,q⟩
def Fun.binds {x a:Str}{st:Stmt}{f:Addr}{i:XC}{ps:AD}(F:Fun K x a st f i)
  (h:∀(kV doc e:X9) (c:Option Addr) (b d:X9) (g:List X9),g.length=ps.length->bindArgs (UO x a (J4 st) (xw st) (zp st) .none kV doc e c b d) ⟨g,[]⟩=pure (ps.zip g)):Binds K i ps []:=by
 refine eE (λn o kV doc e c b d=>eS λl z0 m j=>?_) F.ex;subst z0;exact .all (h kV doc e c b d)
def zkI {x a:Str}{st:Stmt}{f:Addr}{i:X9}{j e:Option Addr}{d:Array (Option X9)}{kV doc h b g:X9}(l:K.lookup f=some ⟨i,j,.func (UO x a (J4 st) (xw st) (zp st) .none kV doc h e b g),d⟩)
  (c:S6 K b a=true) (k:T2 K (.ref f)=true):Fun K x a st f (UO x a (J4 st) (xw st) (zp st) .none kV doc h e b g):=⟨(dU i j kV doc h e b g (cK d rfl l c)),k⟩
end
section
variable {X:Cx}
def pv (i:Nat){x:Str}{pos:Pos}(b:X.N[i]?=some x:=by rfl)(d:Vis X.env.scope x:=by first | exact V2 rfl | exact PK (V2 rfl) | exact PK (PK rfl))(c:(x==("__debug__":Str))=false:=by decide)
  (a:(x==("__classdict__":Str))=false:=by decide):PE X (.Name x pos) (zqz i):=zo7 b d c a
end
def xX {A B:Prop}(h:B):if false=true then A else B:=by
 rw[bq XU];exact h
def Z0 {A B:Prop}(h:A):if true=true then A else B:=by
 rw[bw rfl];exact h
def zg1 {c A B:Prop} [Decidable c](h1:c->A)(h2:¬ c->B):if c then A else B:=by
 by_cases h:c
 .rw[bw h];exact h1 h
 .rw[bq h];exact h2 h
def zo (H a:Hp):Prop:=∀b o,H b=some o->a b=some o
def zo.refl (H:Hp):zo H H:=λ_ _ h=>h
def zo.trans {H d e:Hp}(a:zo H d)(b:zo d e):zo H e:=λc o h=>b c o (a c o h)
def zo.free {H a:Hp}(e:zo H a){l:Addr}(h:a l=Option.none):H l=Option.none:=by
 cases q:H l with
 | none=>rfl
 | some o =>
  rw[e l o q]at h;cases h
def zo.seq {K:XS}{H b:Hp}{a:Addr}{xs:AE}(e:zo H b)(h:SqL K H a xs):SqL K b a xs:=by
 rcases h with (h | ⟨o,h⟩) | h
 .exact .inl (.inl (e _ _ h))
 .exact .inl (.inr ⟨o,e _ _ h⟩)
 .exact .inr h
end L2
set_option maxHeartbeats 4000000
namespace L2
open PySem PySem.Spec PyProof.Rows
section
variable {X:Cx}
def Z1:OpR X (T7 .Mult) (rI Ox λi j=>.int (i*j)):=opI λ_ _ _ _ _ _ _ a q=>mul_int q a
def YM (_ j:Int):Prop:=0<j/\j.natAbs.log2<9000
def JL:OpR X (T7 .FloorDiv) (rI YM λi j=>.int (i/j)):=opI λi j _ _ _ _ _ a q=>by
 have h1:(0:Int)<j:=a.1;exact floordiv_int (by lia) (by rw[Int.fdiv_eq_ediv_of_nonneg i (by lia)];exact q) (.inl (PyProof.noPylong_of_log2 a.2))
def YM.small {i j:Int}(h:0<j)(h':j<1073741824):YM i j:=by
 refine⟨h,?_⟩;have h0:j.natAbs≠0:=by lia
 have:j.natAbs.log2<30:=(Nat.log2_lt h0).mpr (by lia);lia
def zqT {i j:Int}(h1:-(2^64)<j)(h2:j<2^64):Ox i j:=IntMulOk.of_right (intBits_le_64 h1 h2)
def mulL {i j:Int}(h1:-(2^64)<i)(h2:i<2^64):Ox i j:=IntMulOk.of_left (intBits_le_64 h1 h2)
def zqU {i j:Int}(h1:i.natAbs<2^8000)(h2:j.natAbs<2^8000):Ox i j:=IntMulOk.of_le (m:=8000) (n:=8000) (intBits_le_iff.mpr h1) (intBits_le_iff.mpr h2) (by decide)
end
def qQ {b:Bool}{A B:Prop}(e:b=true)(h:A):if b=true then A else B:=by
 rw[bw e];exact h
def qu {b:Bool}{A B:Prop}(e:b=false)(h:B):if b=true then A else B:=by
 subst e;exact xX h
structure zm (K:XS)(mg:Str->Option X9)(x:Str)(st:Stmt)(ps:AD)(f:Addr)(fd:XC):Prop where
 F:Fun K x x st f fd
 g:mg x=some (.ref f)
 b:Binds K fd ps []
def zg2 {α:Type}{xs:List α}{i:Int}{v:α}(h:0<=i)(e:xs[i.toNat]?=some v):atI xs i=some v:=by
 have:=qi e;rwa [Sk h]at this
def zrP (t u:TS):TS:=λD c H=>∃M:St->Hp->Prop,t { D with nx:=M } c H/\∀ a b,M a b->u D a b
def zbU {X:Cx}{st:Stmt}{a:List Stmt}{t u:TS}(h1:PS X st t)(h2:PSs X a u):PSs X (st::a) (zrP t u):=by
 intro d s l H D I h;obtain⟨M,g,i⟩:=h;refine SG (thn (h1 d s l H _ I g) λf s1 q=>?_);cases f with
 | next =>
  obtain⟨b,c,e,j⟩:=q;exact h2 d s1 b c D e (i b c j)
 | brk=>exact q
 | cont=>exact q
 | ret v=>exact q
def zc {H:Hp}{l:Addr}{o:HO}(h:H l=none):zo H (upd H l o):=λb u e=>by rw[zj (zh e h)];exact e
mutual
inductive Rdv (K:XS)(H:Hp):V->We->Prop
 | non:Rdv K H .non .none
 | bl (b:Bool):Rdv K H (.bl b) (.bool b)
 | int (i:Int):Rdv K H (.int i) (.int i)
 | str (x:Str):Rdv K H (.str x) (.str x)
 | lst {a:Addr} {xs:AE} {ds:List We}:SqL K H a xs->JM K H xs ds->Rdv K H (.ref a) (.list ds)
 | tup {a:Addr} {xs:AE} {ds:List We}:SqT K H a xs->JM K H xs ds->Rdv K H (.ref a) (.tuple ds)
inductive JM (K:XS)(H:Hp):AE->List We->Prop
 | nil:JM K H [] []
 | cons {x:V} {d:We} {xs:AE} {ds:List We}:Rdv K H x d->JM K H xs ds->JM K H (x::xs) (d::ds)
end
section
variable {X:Cx}{bz:List (Addr×Obj)}{σ:St}{H:Hp}{s:X7}
def zjn {a:Addr}{xs:AE}{b:List We}(I:Inv X bz σ H s)(g:SqL X.K H a xs)(h:∀c,Vals xs c->∃as,OM s.heap c b as):∀u,RelV (.ref a) u->∃as,Reads s.heap u (.list b) as:=by
 intro u r;cases r;obtain⟨i,l,p,m⟩:=I.list g;obtain⟨as,j⟩:=h _ l;obtain⟨o,f,d,n,e⟩:=p.isList;exact⟨_,.list f d e (by simpa using j)⟩
def zjo {a:Addr}{xs:AE}{b:List We}(I:Inv X bz σ H s)(g:SqT X.K H a xs)(h:∀c,Vals xs c->∃as,OM s.heap c b as):∀u,RelV (.ref a) u->∃as,Reads s.heap u (.tuple b) as:=by
 intro u r;cases r;obtain⟨i,l,p,m⟩:=I.tuple g;obtain⟨as,j⟩:=h _ l;obtain⟨o,f,d,n,e⟩:=p;exact⟨_,.tuple f d e (by simpa using j)⟩
def zg3 {v:V}{vs:AE}{d:We}{b:List We}(h:∀u,RelV v u->∃as,Reads s.heap u d as)(t:∀a,Vals vs a->∃as,OM s.heap a b as):∀a,Vals (v::vs) a->∃as,OM s.heap a (d::b) as:=by
 intro a r;cases r with
 | cons c e =>
  obtain⟨as,f⟩:=h _ c;obtain⟨bs,g⟩:=t _ e;exact⟨_,.cons f g⟩
def Rdv.reads (I:Inv X bz σ H s){v:V}{d:We}{u:X9}(h:Rdv X.K H v d):RelV v u->∃as,Reads s.heap u d as :=
 Rdv.rec (motive_1:=λv d _=>∀u,RelV v u->∃as,Reads s.heap u d as) (motive_2:=λf e _=>∀c,Vals f c->∃as,OM s.heap c e as)
  (λu r=>by cases r;exact⟨_,.none⟩) (λb u r=>by cases r;exact⟨_,.bool b⟩) (λi u r=>by obtain⟨t,rfl⟩:=r;exact⟨_,.int i t⟩) (λx u r=>by obtain⟨t,rfl⟩:=r;exact⟨_,.str x t⟩)
  (λa _ h=>zjn I a h) (λa _ h=>zjo I a h) (λc r=>by cases r;exact⟨_,.nil⟩) (λ_ _ h t=>zg3 h t) h u
structure zjp (x y:We):Prop where
 l1:x.canLay0=true
 l2:y.canLay0=true
 dp:x.depth<=64
def zkJ (K:XS)(neg:Bool):R2:=λx y H Q=>∃a b,Rdv K H x a/\Rdv K H y b/\zjp a b/\Q (.bl (if neg then !PyData.eqv a b else WW a b)) H
def ju (l:X.A.units+64<Vz):OpR X (Wg .Eq) (zkJ X.K false):=by
 intro bz s σ H x y v u Q I f g h;revert h;refine d8 λi j a b c q=>?_;obtain⟨as,d⟩:=a.reads I f;obtain⟨bs,e⟩:=b.reads I g;have:=c.dp;exact SeqAt.compareEq_reads d e c.l1 c.l2 (by lia) ⟨.bl _,H,I,rfl,q⟩
def jP (l:X.A.units+64<Vz):OpR X (Wg .NotEq) (zkJ X.K true):=by
 intro bz s σ H x y v u Q I f g h;revert h;refine d8 λi j a b c q=>?_;obtain⟨as,d⟩:=a.reads I f;obtain⟨bs,e⟩:=b.reads I g;have:=c.dp;exact SeqAt.compareNe_reads d e c.l1 c.l2 (by lia) ⟨.bl _,H,I,rfl,q⟩
def zm0 (K:XS)(neg:Bool):R2:=λx y H Q=>∃d a,Rdv K H x d/\Rdv K H y (.list a)/\d.canLay0=true/\V5 a=true/\d.depth<=60/\Q (.bl (if neg then !a.any (λz=>WW z d) else a.any λz=>WW z d)) H
def zca (m:X.A.units+64<Vz):OpR X (Wg .In) (zm0 X.K false):=by
 intro bz s σ H x y v u Q I g i h;revert h;refine fu λd l b c c1 a j q=>?_;obtain⟨as,e⟩:=b.reads I g;obtain⟨bs,f⟩:=c.reads I i;exact SeqAt.in_list_reads f e a c1 (by lia) ⟨.bl _,H,I,rfl,q⟩
def zdd (m:X.A.units+64<Vz):OpR X (Wg .NotIn) (zm0 X.K true):=by
 intro bz s σ H x y v u Q I g i h;revert h;refine fu λd l b c c1 a j q=>?_;obtain⟨as,e⟩:=b.reads I g;obtain⟨bs,f⟩:=c.reads I i;exact SeqAt.notIn_list_reads f e a c1 (by lia) ⟨.bl _,H,I,rfl,q⟩
end
def jC (X:Cx)(N:AD)(scope:UE)(cl:List (Str×Addr))(C:Addr)(fp:List Addr)(bz:List (Addr×Obj))(s:X7)(H:Hp):Cx where
 prog:=X.prog
 w:=X.w
 K:=X.K
 mg:=X.mg
 base:=X.base
 A:=X.A
 N:=N
 s₀:=s
 H₀:=H
 env:=compEnvC scope cl C X.env
 outer:=X.stack
 stack:=X.stack
 ex:=fp
 fn:=λ_=>false
 calm:=X.calm
 pn:=X.pn++bz
 xe:=λ_ _=>False
def pull (a:List (Option Nat))(b:St):St:=a.map λo=>match o with
 | some j=>(b[j]?).getD none
 | none=>none
structure yI (X:Cx)(N:AD)(src:List (Option Nat))(scope:UE)(cl:List (Str×Addr)):Prop where
 kind:scope.kind=.function
 nocell:∀y∈scope.names,y.2 ≠ .cell
 names:∀y∈scope.names,y.2=.local->scope.names.lookup y.1=some .local
 clos:OW scope X.env=pure cl
 sub:∀x c,cl.lookup x=some c->X.env.cells.lookup x=some c
 has:∀x,((UH scope X.env).names.lookup x=some .cell\/(UH scope X.env).names.lookup x=some .free)->∃c,cl.lookup x=some c
 len:src.length=N.length
 pulls:∀(i j:Nat) (x:Str),N[i]?=some x->src[i]?=some (some j)->X.N[j]?=some x/\(X.env.kindOf x=some .cell\/X.env.kindOf x=some .free)/\((UH scope X.env).names.lookup x=some .cell\/(UH scope X.env).names.lookup x=some .free)
def zde {a:UE}{b:Env}(d:∀y∈a.names,y.2 ≠ .free):(UH a b).names=a.names:=by
 show a.names.map _=a.names;refine map_eq_self λx c=>?_;obtain⟨n,k⟩:=x;have:(k==NameKind.free)=false:=by simpa using d _ c
 simp[this]
def yI.plain {X:Cx}{N:AD}{src:List (Option Nat)}{scope:UE}(kind:scope.kind=.function)(nocell:∀y∈scope.names,y.2 ≠ .cell)(nofree:∀y∈scope.names,y.2 ≠ .free)
  (names:∀y∈scope.names,y.2=.local->scope.names.lookup y.1=some .local) (len:src.length=N.length) (none:∀o∈src,o=none):yI X N src scope [] where
 kind:=kind
 nocell:=nocell
 names:=names
 clos:=closureFor_none nofree
 sub:=λx c h=>nomatch h
 has:=λx h=>by
  rw[zde nofree]at h;rcases h with h | h
  .exact absurd rfl (nocell _ (Wx h))
  .exact absurd rfl (nofree _ (Wx h))
 len:=len
 pulls:=λi j x _ h=>by
  have:=none _ (X8 h);cases this
def zbJ (X:Cx)(a:List Expr)(t:TT):Prop :=
 ∀(d:List (Addr×Obj)) (s:X7) (b:St) (H:Hp) (Q:Bool->Hp->Prop),Inv X d b H s->t b H Q ->
  Xe (Xg X.prog X.w) X.A (forIn a true λc r=>if r=true then do let ok <- isTrue c X.env (eval c X.env);pure (VU ok) else pure (VU r)) (TP X d b Q) X.xe s
def zkK:TT:=λ_ H Q=>Q true H
def qD {X:Cx}:zbJ X [] zkK:=λ_ _ _ H _ I h=>wpAny_tests_nil ⟨H,I,h⟩
def zU {X:Cx}{c:Expr}{t:TT}(h:PT X c t):zbJ X [c] t:=λa s d H Q I b=>wpAny_tests_one (h a s d H Q I b)
def yJ (J:It)(g:TG)(s:TT)(u:TE)(Q:VK)(D:Addr)(j:St)(q:Hp):Prop :=
 ∃W:Nat->Nat->St->Hp->Prop,(∃m,W 0 m j q)/\∀i m f d,W i m f d ->
  (J.stop i d/\Q (.ref D) d)\/(J.go i d/\∃N:St->Hp->Prop,(∀ c e,N c e->∃p,p<m/\W (i+1) p c e) /\
   ∀x l,J.yld i d x l->g x f l fun a r=>s a r λb n=>if b=true then u a n λy o=>∃h,o D=some (.lst h)/\h.length<Xv/\N a (upd o D (.lst (h++[y]))) else N a n)
def zam (f:TI)(a:List (Option Nat))(g:TG)(d:TT)(e:TE):TE:=fun c H Q=>f c H λJ b=>∀D,b D=none->yJ J g d e Q D (pull a c) (upd b D (.lst []))
def Un.but {fs i:List Addr}{H g:Hp}{h h1 h2:Heap}{C:Addr}(u:Un fs i H g h h1)(j:h.objs.size<=C)(f:V1 C h1 h2):Un fs i H g h h2:=by
 have d:∀b o,h.get? b=some o->b≠C:=λb o e=>Xf (Xi (Xz e) j);refine⟨λb o e n c a=>(f.2 b (d b o e)).trans (u.keep b o e n c a),λb o e n c a=>?_,u.free,λb o e a=>?_,u.tups,u.frzs,u.tbls⟩
 .obtain⟨m,q⟩:=u.slot b o e n c a;exact⟨m,(f.2 b (d b o e)).trans q⟩
 .obtain⟨l,q⟩:=u.there b o e a;exact⟨l,(f.2 b (d b o e)).trans q⟩
def HOk.but {P:Xh}{w:W2}{H:Hp}{h h':Heap}{C:Addr}(ok:HOk P w H h)(a:H C=none)(d:V1 C h h'):HOk P w H h':=λb ob e=>by
 refine(ok b ob e).stay (λc f hc q=>(d.2 c ?_).trans q) (λ_ q=>q) λ_ _ q=>q;rintro rfl;rcases hc with rfl | hc
 .rw[a]at e;cases e
 .rw[a]at hc;cases hc
section
variable {X:Cx}{tg iter elt:Expr}{ifs:List Expr}{scope:UE}{pos:Pos}{N:AD}{src:List (Option Nat)}{cl:List (Str×Addr)}{wi:TI}{g:TG}{tc:TT}{te:TE}
def zg4 {h:List (Addr×Obj)}{A:St}{H:Hp}{s:X7}{fp:List Addr}{h1:Heap}{C:Addr}{tk:Nat}(ok:yI X N src scope cl)(I:Inv X h A H s)(B:∀b∈fp,zai X h H b)(ho:∀b∈fp,∃o,s.heap.get? b=some o)
  (E:C=s.heap.objs.size+1) (k:∀b u,s.heap.get? b=some u->h1.get? b=some u) (hD:h1.get? s.heap.objs.size=some { cls:=.type "list",data:=.seq #[] }) {m:Str->Option X9} (hn:h1.Ns C m) :
  Inv (jC X N scope cl C fp h s H) [] (pull src A) (upd H s.heap.objs.size (.lst [])) { s with heap:=h1,toks:=tk }:=by
 have lt:∀b o,s.heap.get? b=some o->b<s.heap.objs.size:=λb o e=>Xz e;have Y:∀b o,s.heap.get? b=some o->b≠C:=λb o e=>by rw[E];exact Xf (Wm (lt b o e))
 have nD:∀b o,s.heap.get? b=some o->b≠s.heap.objs.size:=λb o e=>Xf (lt b o e);have O:∀b,s.heap.objs.size<=b->H b=none:=λb g=>I.hok.fresh g;have w:∀b,b≠X.env.locals->b ∉ X.fs->b ∉ frs X.stack:=λb h1 h2 z=>(XI.mp (I.stkSub b z)).elim h1 h2;have sub:=ok.sub;refine⟨⟨I.ok.mod,ok.kind,I.ok.glob,I.ok.blt,by rw[show (jC X N scope cl C fp h s H).env.locals=C from rfl,E];exact VM _,λx y c d a=>I.ok.inj x y c (sub x c d) (sub y c a),ok.has,(λx c z _=>nomatch z),I.ok.hd,I.ok.frames,.inl rfl,λb g=>?_,I.bs,X6 I.ok.bsz I.sz,λb o e g=>?_,λb g hz=>?_,I.stack,I.stkFree⟩,rfl,I.bare,Un.laid k (XT _) (O _ (XT _)),⟨m,hn,λi x v d a M=>?_⟩,λx c e=>?_,?_,λx c e=>?_,λp hp=>?_,I.hok.laid k (XT _) ⟨W1 _,[],0,.nil,hD⟩,?_⟩
 .obtain⟨o,e⟩:=ho b g;exact⟨Y b o e,λx c z=>(B b g).2.2.2.2.1 x c (sub x c z)⟩
 .rcases(B b g).2.2.2.1 with z | z
  .exact I.ok.noex b o e z
  .exact absurd (Xi (Xz (I.ok.bs b o e).1) z) (VG _)
 .exact w b (B b g).2.1 (B b g).2.2.1 hz
 .have U:i<src.length:=by
   have:=(XX.mp a).1;unfold pull at this;rw[ZB]at this;exact this
  unfold pull at a;rw[XB,XY U]at a;cases q:src[i] with
  | none=>rw[q]at a;cases a
  | some j =>
   rw[q]at a;have f:(A[j]?).getD none=some v:=Option.some.inj a;have D:A[j]?=some (some v):=by
    cases z:A[j]? with
    | none=>rw[z]at f;cases f
    | some o=>rw[z]at f;exact congrArg some f
   obtain⟨p1,p2,p3⟩:=ok.pulls i j x d (by rw[XY U,q]);obtain⟨m',aa,hl⟩:=I.loc;obtain⟨u,r,l⟩:=hl j x v p1 D (by
    rcases p2 with z | z
    .exact .inr (.inl z)
    .exact .inr (.inr z))
   refine⟨u,r,.inr ⟨p3,?_⟩⟩;obtain⟨c,Q⟩:=ok.has x p3;refine⟨c,Q,?_⟩;rcases l with ⟨z,_⟩ | ⟨_,c',n,o,J,G⟩
   .rcases p2 with y | y<;>rw[z]at y<;>cases y
   .rw[sub x c Q]at n;cases n;exact⟨o,k _ o J,G⟩
 .obtain⟨v,o,d,a⟩:=I.cell x c (sub x c e);exact⟨v,o,k c o d,a⟩
 .show upd H s.heap.objs.size (.lst []) C=none;rw[E,zj (U3 _)];exact O _ (VM _)
 .show upd H s.heap.objs.size (.lst []) c=none;obtain⟨v,o,d,a⟩:=I.cell x c (sub x c e);rw[zj (nD c o d)];exact I.jo x c (sub x c e)
 .have L:p∈X.pn++h:=by
   have:p∈(X.pn++h)++[]:=hp;simpa using this
  refine eY (λd a M D e5=>?_) (I.pin p L);refine⟨k _ _ d,?_,Y _ _ d,w _ M D,e5⟩;show upd H s.heap.objs.size (.lst []) p.1=none;rw[zj (nD _ _ d)];exact a
 .unfold pull;rw[ZB];exact ok.len
def zjq {Y:Cx}{D it:Addr}{fp:List Addr}{tn:Nat->Heap->Prop}{J:It}{ac:St}{H0:Hp}{s:X7}{Q:VK}{R:OH->X7->Prop}(a:Y.calm=true)(hx:∀{x s},Y.xe x s->notedBy (Xg Y.prog Y.w) Y.A Y.env (λx s=>R (.error x) s) x s)(T:Turn Y.prog Y.w Y.K tg J fp it tn)(hg:PG Y tg g)(hc:zbJ Y ifs tc)(he:PE Y elt te)
  (q:yJ J g tc te Q D ac H0) (c:∀{l:Hp},(∀b∈fp,l b=none)->∀b∈fp,zai Y [] l b) (I0:Inv Y [] ac H0 s) (O:tn 0 s.heap) (ag:∀b∈fp,H0 b=none)
  (af:∀f σ H s',Inv Y [] σ H s'->Q (.ref D) H->R (.ok f) s'):Ta (Xg Y.prog Y.w) Y.A (.compStart (.ListComp elt [⟨tg,iter,ifs,0⟩] scope pos) 0 (.ref it) (.ref D) Y.env) R s:=by
 obtain⟨W,⟨m0,w0⟩,ab⟩:=q;have B:Ta (Xg Y.prog Y.w) Y.A (.compLoop (.ListComp elt [⟨tg,iter,ifs,0⟩] scope pos) 0 (.ref it) (.ref D) Y.env) R s:=by
  refine codeAny_loop rfl (λn s'=>∃i h l,Inv Y [] h l s'/\tn i s'.heap/\(∀b∈fp,l b=none)/\W i n h l) ?_ m0 ⟨0,_,_,I0,O,ag,w0⟩;refine λn s3=>eU λi p H3 I3 U M w3=>?_;show Xe _ Y.A ((compTurn (.ListComp elt [⟨tg,iter,ifs,0⟩] scope pos) 0 (.ref it) (.ref D) Y.env).onRaise (λx=>do noteFrame x Y.env;theTreesLotGoes x)) _ _ s3;refine wpAny_noted ?_;rw[compTurn_list];rcases ab i n p H3 w3 with ⟨aa,qn⟩ | ⟨go,N',hN,step⟩
  .refine Y1 (RK (Y1 (thn (T.done Y rfl rfl rfl a i [] s3 p H3 _ I3 (c M) U aa) λr s4 ⟨hr,I4⟩=>?_)));subst hr;exact XQ (af _ _ _ _ I4 qn)
  .refine Y1 (RK (Y1 (thn (T.item Y rfl rfl rfl a i [] s3 p H3 _ I3 (c M) U go) λr s4 ⟨u,hr,h4⟩=>?_)));subst hr;dsimp only;refine Y1 (thn h4 λ_ s5 ⟨x,H5,I5,r5,y5,G,ah⟩=>?_);have ae:=I5.pinned (c ah) (T.obj _ _ G);refine Y1 (Vk (hg _ s5 p H5 x u _ ae r5 (step x H5 y5)) (λ_ s6 ⟨v,H6,I6,q6⟩=>?_) λ_ _ z=>hx z);have OF:∀{L:X7} {j:St} {E:Hp},Inv Y ([]++zb7 fp s5.heap) j E L->N' j E->∃m,m<n/\∃i h l,Inv Y [] h l L/\tn i L.heap/\(∀b∈fp,l b=none)/\W i m h l:=λ{L j E} I n7=>by
    obtain⟨m',hm,w7⟩:=hN j E n7;refine cW m' hm (dD (i+1) j E I.unpinned (T.keep _ _ _ G λb hb o e=>(I.pin (b,o) (WV _ (WV _ (ZY hb e)))).1) (λb hb=>?_) w7);obtain⟨o,e,d⟩:=T.obj _ _ G b hb;exact(I.pin (b,o) (WV _ (WV _ (ZY hb e)))).2.1
   refine Y1 (Vk (hc _ s6 v H6 _ I6 q6) (λb L ⟨E,I,q7⟩=>?_) λ_ _ z=>hx z);cases b with
   | false =>
    rw[bq XU]at q7;exact XQ ⟨rfl,OF I q7⟩
   | true =>
    rw[bw rfl]at q7;refine Y1 (Y1 (Vk (he _ L v E _ I q7) (λy s8 ⟨v8,H8,I8,r8,ys,ai,N,q8⟩=>?_) λ_ _ z=>hx z));refine Y1 (Vk (JC (X:=Y) _ s8 v H8 (.ref D) [v8] (.ref D) [y] (λ_ H9=>N' v H9) I8 rfl (.cons r8 .nil) ⟨_,(cU ys v8 rfl rfl ai N q8)⟩) (λ_ s9 ⟨v9,H9,I9,_,q9⟩=>?_) λ_ _ z=>hx z);exact XQ (XQ ⟨rfl,OF I9 q9⟩)
 exact codeAny_compStart_list B (T.self _ 0 _ _ _ O B)
abbrev cY (X:Cx)(N:AD)(scope:UE)(cl:List (Str×Addr))(C:Addr)(fp:List Addr)(bz:List (Addr×Obj))(s:X7)(H:Hp)(fn:Str->Bool)(xe:X9->X7->Prop):Cx:={ jC X N scope cl C fp bz s H with fn:=fn,xe:=xe }
def zm1 (X:Cx)(N:AD)(scope:UE)(d:List (Addr×Obj))(m:St)(use:Option (X9->Sem Unit))(R:X9->X7->Prop)(Q:VK):Prop:=∀{cl h a c C g i f j l e},C=a.heap.objs.size+1->Inv X d m c a->(∀b∈h,zai X d c b)->Inv (cY X N scope cl C h d a c j l) [] e g i->Q (.ref a.heap.objs.size) g->compPost (Xg X.prog X.w) X.A X.xe use R (.ref a.heap.objs.size) C (.ok f) i
def zop {e:List (Addr×Obj)}{h:St}{Q:VK}:zm1 X N scope e h none (EP X e h Q) Q:=by
 intro cl l r v C i s f w x u o j c a q;obtain⟨m,p,_⟩:=a.loc;refine⟨m,p,λn g=>⟨.ref r.heap.objs.size,i,?_,rfl,q⟩⟩;exact j.call' (s':={ s with heap:=n }) (ch:=l) a.os (Un.but a.base (by rw[o];exact VM _) g) (HOk.but a.hok a.free g) a.bare λb d=>⟨(c b d).2.2.2.1,(c b d).2.1,(c b d).2.2.2.2.1,(c b d).2.2.2.2.2⟩
def zfq {j:List (Addr×Obj)}{D:St}{i:Hp}{a:X7}{R:OH->X7->Prop}{Q:VK}{it C:Addr}{fp:List Addr}{tn:Nat->Heap->Prop}{J:It}{h:Heap}{tk:Nat}{n:Str->Bool}{m:X9->X7->Prop}{v:St}(E:C=a.heap.objs.size+1)(l:X.calm=true)
  (hx:∀{x s},m x s->notedBy (Xg X.prog X.w) X.A (compEnvC scope cl C X.env) (λx s=>R (.error x) s) x s) (U:PG (cY X N scope cl C fp j a i n m) tg g) (O:zbJ (cY X N scope cl C fp j a i n m) ifs tc) (he:PE (cY X N scope cl C fp j a i n m) elt te) (M:Inv X j D i a) (T:Turn X.prog X.w X.K tg J fp it tn) (r:tn 0 a.heap) (q:∀b∈fp,zai X j i b)
  (q2:yJ J g tc te Q a.heap.objs.size v (upd i a.heap.objs.size (.lst []))) (k:∀b u,a.heap.get? b=some u->h.get? b=some u) (own:∀x c,cl.lookup x=some c->X.env.cells.lookup x=some c\/C<=c)
  (L:(∀b∈fp,∃o,a.heap.get? b=some o)->Inv (cY X N scope cl C fp j a i n m) [] v (upd i a.heap.objs.size (.lst [])) { a with heap:=h,toks:=tk }) (y:∀f D H I,Inv (cY X N scope cl C fp j a i n m) [] D H I->Q (.ref a.heap.objs.size) H->R (.ok f) I) :
  Ta (Xg X.prog X.w) X.A (.compStart (.ListComp elt [⟨tg,iter,ifs,0⟩] scope pos) 0 (.ref it) (.ref a.heap.objs.size) (compEnvC scope cl C X.env)) R { a with heap:=h,toks:=tk }:=by
 have G:∀b∈fp,∃o,a.heap.get? b=some o:=λb d=>let ⟨o,e,_⟩:=T.obj 0 _ r b d;⟨o,e⟩
 have lt:∀b∈fp,b<a.heap.objs.size:=λb d=>let ⟨_,e⟩:=G b d;Xz e
 refine zjq (Y:=cY X N scope cl C fp j a i n m) l hx T U O he q2 (λ{H'} hn b d=>(cQ (hn b d) ?_ (λz=>(XI.mp (M.stkSub b z)).elim (q b d).2.1 (q b d).2.2.1) (.inl d) (λx c z=>?_) (λp hp=>?_))) (L G) (T.keep 0 _ _ r λb _ o e=>k b o e) (λb d=>?_) y
 .show b≠C;rw[E];exact Xf (Wm (lt b d))
 .rcases own x c z with z | z
  .exact(q b d).2.2.2.2.1 x c z
  .rw[E]at z;exact TW (Xi (Wm (lt b d)) z)
 .have B:p∈X.pn++j:=by
   have:p∈(X.pn++j)++[]:=hp;simpa using this
  exact(q b d).2.2.2.2.2 p B
 .rw[zj (Xf (lt b d))];exact(q b d).1
def zpp {h a:Heap}(d:V1 (h.push { cls:=.type "list",dict:=none,data:=.seq ([]:List X9).toArray }).objs.size ((h.push { cls:=.type "list",dict:=none,data:=.seq ([]:List X9).toArray }).push { cls:=.type "dict",data:=.dict #[] }) a):(h.push { cls:=.type "list",dict:=none,data:=.seq ([]:List X9).toArray }).objs.size=h.objs.size+1/\(∀b u,h.get? b=some u->a.get? b=some u)/\a.get? h.objs.size=some { cls:=.type "list",data:=.seq #[] }:=by
 generalize hP:h.push { cls:=.type "list",dict:=none,data:=.seq ([]:List X9).toArray }=P2 at d ⊢;have c:P2.objs.size=h.objs.size+1:=by rw[<- hP,UZ]
 exact⟨c,λb u e=>(d.2 b (by rw[c];exact Xf (Wm (Xz e)))).trans (XW _ (hP ▸ XW _ e)),(d.2 _ (by rw[c];exact(U3 _).symm)).trans (XW _ (hP ▸ W4 _ rfl))⟩
section
variable {bz:List (Addr×Obj)}{σ:St}{H:Hp}{s:X7}{use:Option (X9->Sem Unit)}{R:X9->X7->Prop}{Q:VK}{p2:Pos}
def zfr (ok:yI X N src scope cl)(d:X.calm=true)(u:PI X tg iter wi)
  (r:∀C fp bz s H,PG (jC X N scope cl C fp bz s H) tg g) (q:∀C fp bz s H,zbJ (jC X N scope cl C fp bz s H) ifs tc) (he:∀C fp bz s H,PE (jC X N scope cl C fp bz s H) elt te)
  (B:∀x,VI iter X.env x=pure x) (I:Inv X bz σ H s) (h:zam wi src g tc te σ H Q) (j:zm1 X N scope bz σ use R Q):Xe (Xg X.prog X.w) X.A (O5 (.ListComp elt [⟨tg,iter,ifs,0⟩] scope pos) scope X.env p2 (newList []) false (eval iter X.env) use) R X.xe s:=by
 refine RF (use:=use) rfl B ok.clos ok.kind ok.names (thn (u bz s σ H _ I h) λxv s1 h1=>thn h1 λE U h2=>?_);revert h2;refine fJ λO fp Y J M e f T m i G=>?_;subst e;refine VJ (wpAny_newFunctionEnv ok.nocell (by intro y D;simp at D) (λn a b=>?_) ok.kind);dsimp only at a b ⊢;obtain⟨l,k,p⟩:=zpp b;exact zfq l d (λz=>z.elim) (r _ _ _ _ _) (q _ _ _ _ _) (he _ _ _ _ _) f T m i (G _ (f.hok.fresh (XT _))) k (λx c z=>.inl (ok.sub x c z)) (λv=>zg4 ok f i v l k p a) λ_ _ _ _ o L=>j l f i o L
end
def zm2 (ok:yI X N src scope cl)(a:X.calm=true)(e:PI X tg iter wi)
  (d:∀C fp b s H,PG (jC X N scope cl C fp b s H) tg g) (c:∀C fp b s H,zbJ (jC X N scope cl C fp b s H) ifs tc) (he:∀C fp b s H,PE (jC X N scope cl C fp b s H) elt te)
  (f:∀x,VI iter X.env x=pure x:=by intro _;rfl):PE X (.ListComp elt [⟨tg,iter,ifs,0⟩] scope pos) (zam wi src g tc te):=λ_ _ _ _ _ I h=>zfr ok a e d c he f I h zop
end
section
variable {K:XS}{src:List (Option Nat)}{g:TG}{tc:TT}{te:TE}{Q:VK}{σ:St}{H:Hp}{D:Addr}
def qN {a:Addr}{xs:AE}(Pv:Nat->St->Hp->Prop)(h0:Pv 0 σ H)(r:∀i σ H,i<=xs.length->Pv i σ H->SqL K H a xs)
  (s:∀i x σ H,xs[i]?=some x->Pv i σ H->g x σ H fun c l=>tc c l λb f=>if b=true then te c f λy h=>∃ys,h D=some (.lst ys)/\ys.length<Xv/\Pv (i+1) c (upd h D (.lst (ys++[y]))) else Pv (i+1) c f)
  (n:∀ σ H,Pv xs.length σ H->Q (.ref D) H):yJ (Itl K a) g tc te Q D σ H:=by
 refine⟨λi m σ H=>m=xs.length-i/\i<=xs.length/\Pv i σ H,⟨xs.length,by simp,W1 _,h0⟩,?_⟩;rintro i m σ H ⟨rfl,o,p⟩;have q:=r i σ H o p;by_cases d:i<xs.length
 .refine .inr ⟨⟨xs,xs[i],q,by simp[d]⟩,Pv (i+1),fun v j u=>⟨xs.length-(i+1),by lia,rfl,d,u⟩,λx j y=>?_⟩;obtain⟨e,y⟩:=y;subst e;exact s i x σ _ (y xs q) p
 .have e:i=xs.length:=by lia
  subst e;exact .inl ⟨⟨xs,q,XT _⟩,n σ H p⟩
def zg5 {lo:Int}{n:Nat}(Pv:Nat->St->Hp->Prop)(h0:Pv 0 σ H)
  (o:∀i σ H,i<n->Pv i σ H->g (.int (lo+i)) σ H fun a j=>tc a j λb d=>if b=true then te a d λy f=>∃ys,f D=some (.lst ys)/\ys.length<Xv/\Pv (i+1) a (upd f D (.lst (ys++[y]))) else Pv (i+1) a d)
  (l:∀ σ H,Pv n σ H->Q (.ref D) H):yJ (Itr lo n) g tc te Q D σ H:=by
 refine⟨λi m σ H=>m=n-i/\i<=n/\Pv i σ H,⟨n,by simp,W1 _,h0⟩,?_⟩;rintro i m σ H ⟨rfl,s,p⟩;by_cases c:i<n
 .refine .inr ⟨c,Pv (i+1),fun r h q=>⟨n-(i+1),by lia,rfl,c,q⟩,λx h y=>?_⟩;obtain⟨e,y⟩:=y;subst e y;exact o i σ _ c p
 .have e:i=n:=by lia
  subst e;exact .inl ⟨XT _,l σ H p⟩
end
section
variable {X:Cx}{K:XS}
def yq {a:Expr}{c:TE}(d:X.K=K)(e:PE X a c)(he:∀whole,isTrue a X.env whole=(do let v <- whole;standAt a.pos;holding [v] (truthy v))) :
  PT X a (fun f H Q=>c f H λx b=>∃k,zmQ K x b k/\Q k b):=by
 subst d;exact YL e he
def zm3 (a:X.K=K):IxR X (zqP K):=by
 subst a;exact jd
def zfs (a:X.K=K)(b:X.A.units+64<Vz):OpR X (Wg .Eq) (zkJ K false):=by
 subst a;exact ju b
def YN (a:X.K=K)(b:X.A.units+64<Vz):OpR X (Wg .NotEq) (zkJ K true):=by
 subst a;exact jP b
def jq (a:X.K=K)(b:X.A.units+64<Vz):OpR X (Wg .In) (zm0 K false):=by
 subst a;exact zca b
def qM (a:X.K=K)(b:X.A.units+64<Vz):OpR X (Wg .NotIn) (zm0 K true):=by
 subst a;exact zdd b
def zex {a:List Expr}{k:Nat}{t:TGs}{n:Nat}{pos:Pos}(c:X.K=K)(d:X.calm=true)(h:PGs X a t)
  (e:(To a X.env).length=n:=by rfl) (b:(To a X.env).findIdx? (·.1)=none:=by rfl):PG X (.Tuple a k pos) (zqF K n t):=by
 subst c;exact jO d h e b
end
section
variable {fs ch:List Addr}{H:Hp}{h h':Heap}{a:Addr}{o:HO}
def Un.laidX (k:∀b u,b ∉ ch->h.get? b=some u->h'.get? b=some u)(hp:h.objs.size<=a)(hn:H a=none):Un fs ch H (upd H a o) h h' where
 keep:=λb u q _ _ hx=>k b u hx q
 slot:=λb u q _ _ hx=>⟨u.slots,k b u hx q⟩
 free:=λb u q n _=>by rw[zj (Xf (Xi (Xz q) hp))];exact n
 there:=λb u q hx=>⟨u,k b u hx q⟩
 tups:=λb xs q=>by rw[zj (zh q hn)];exact q
 frzs:=λb u xs q=>by rw[zj (zh q hn)];exact q
 tbls:=λb ps q=>⟨#[],by rw[zj (zh q hn),q];simp⟩
def Un.keptX (k:∀b u,b ∉ ch->h.get? b=some u->h'.get? b=some u):Un fs ch H H h h' :=
 ⟨λb ob q _ _ a=>k b ob a q,λb ob q _ _ a=>⟨ob.slots,k b ob a q⟩,λ_ _ _ n _=>n,λb ob q a=>⟨ob,k b ob a q⟩,λ_ _ q=>q,λ_ _ _ q=>q,λ_ c q=>⟨#[],by rw[q];simp⟩⟩
def HOk.keptX {P:Xh}{w:W2}(x:HOk P w H h)(k:∀b u,b ∉ ch->h.get? b=some u->h'.get? b=some u)(a:∀b∈ch,H b=none):HOk P w H h':=λb u e=>by
 refine(x b u e).stay (λc v hc q=>k c v (λz=>?_) q) (λ_ q=>q) λ_ _ q=>q;have n:=a c z;rcases hc with rfl | hc
 .rw[n]at e;cases e
 .rw[n]at hc;cases hc
def HOk.laidX {P:Xh}{w:W2}(x:HOk P w H h)(k:∀b u,b ∉ ch->h.get? b=some u->h'.get? b=some u)(d:∀b∈ch,H b=none)(j:h.objs.size<=a)(f:jy P w (upd H a o) h' a o):HOk P w (upd H a o) h':=λb u e=>by
 have i:=x.fresh j;by_cases g:b=a
 .subst g;rw[zb]at e;cases e;exact f
 .rw[zj g]at e;refine(x b u e).stay (λc v hc q=>k c v (λz=>?_) q) (λc q=>by rw[zj (zh q i)];exact q) λc l q=>by rw[zj (zh q i)];exact q
  have n:=d c z;rcases hc with rfl | hc
  .rw[n]at e;cases e
  .rw[n]at hc;cases hc
end
section
variable {X:Cx}{bz:List (Addr×Obj)}{s:X7}{σ:St}{H:Hp}{E:X9->X7->Prop}{fp wr FP:List Addr}{elts:List Expr}{k:Nat}{pos:Pos}{e:Addr}{n i:Nat}{Pt:Nat->Array X9->Prop}{Sn:Nat->Heap->Prop}{Mid:Nat->Addr->Heap->Prop}{J:It}{tn:Nat->Heap->Prop}
def zkL (I:Inv X bz σ H s)(G:∀b∈fp,zai X bz H b)(ho:∀b∈fp,∃o,s.heap.get? b=some o)(p:∀b∈wr,b∈fp)(W:WalksT X.prog X.w X.A e FP wr n Pt Sn Mid)(hi:i<n)(st:Sn i s.heap)
  (y:∀T a,H T=none->Pt i a->∃vs,Vals vs a.toList/\vs.length<=Xv/\J.yld i H (.ref T) (upd H T (.tup vs))) (nx:∀g,Sn (i+1) g->tn (i+1) g) :
  Xe (Xg X.prog X.w) X.A (Sa (.ref e)) (λr s1=>∃u,r=some u /\
   Xe (Xg X.prog X.w) X.A (So (.Tuple elts k pos) (.ref e) u) (λ_ O=>∃x z,Inv X bz σ z O/\RelV x u/\J.yld i H x z/\tn (i+1) O.heap/\∀b∈fp,z b=none) E s1) E s:=by
 refine W.item i s _ E hi st λT a U Q hP h Y L kk=>⟨.ref T,rfl,?_⟩;have M:H T=none:=I.hok.fresh h;refine eS (λvs hv hl hy=>?_) (y T a M hP);refine W.go elts k pos i T { s with heap:=U,toks:=Q } _ E L λg v q=>?_;have N:∀b o,b ∉ wr->s.heap.get? b=some o->g.get? b=some o:=λb o j e=>q b o j (kk b o j e);have l:OC g T a:=by
  obtain⟨o,B,c,m,d⟩:=Y;exact⟨o,q T o (W.apart i T _ L) B,c,m,d⟩
 have D:∀b∈wr,H b=none:=λb j=>(G b (p b j)).1;refine cU (.ref T) (upd H T (.tup vs)) ?_ rfl hy (nx _ v) (λb j=>?_)
 .exact I.call' (s':={ s with heap:=g,toks:=Q }) (ch:=wr) rfl (Un.laidX N h M) (HOk.laidX I.hok N D h ⟨hl,a.toList,hv,by simpa using l⟩) I.bare λb j=>let f:=G b (p b j);⟨f.2.2.2.1,f.2.1,f.2.2.2.2.1,f.2.2.2.2.2⟩
 .obtain⟨o,B⟩:=ho b j;rw[zj (Xf (Xi (Xz B) h))];exact(G b j).1
def zkM (I:Inv X bz σ H s)(d:∀b∈fp,zai X bz H b)(a:∀b∈wr,b∈fp)(W:WalksT X.prog X.w X.A e FP wr n Pt Sn Mid)(st:Sn n s.heap) :
  Xe (Xg X.prog X.w) X.A (Sa (.ref e)) (λr s1=>r=none/\Inv X bz σ H s1) E s :=
 W.done s _ E st λh i g=>⟨rfl,I.call' (s':={ s with heap:=h,toks:=i }) (ch:=wr) rfl (Un.keptX g) (HOk.keptX I.hok g λb c=>(d b (a b c)).1) I.bare λb c=>let f:=d b (a b c);⟨f.2.2.2.1,f.2.1,f.2.2.2.2.1,f.2.2.2.2.2⟩⟩
end
def zan {h:Heap}{b:Addr}{o:Obj}{vs:Array X9}(e:h.get? b=some o)(d:o.data=.fields vs):∃o,h.get? b=some o/\∀v,o.data ≠ .cell v:=⟨o,e,λv z=>by rw[d]at z;cases z⟩
def Ite (K:XS)(l:Addr):It:=⟨λi H=>∃a,SqL K H l a/\i<a.length,λi H x b=>∃T,x=.ref T/\H T=none/\∀a,SqL K H l a->∃v,a[i]?=some v/\b=upd H T (.tup [.int i,v]),λi H=>∃a,SqL K H l a/\i=a.length⟩
def zjr {P:Xh}{w:W2}{K:XS}{elts:List Expr}{k:Nat}{pos:Pos}(e it l:Addr)(hei:e≠it)(hle:l≠e)(hli:l≠it) :
  Turn P w K (.Tuple elts k pos) (Ite K l) [e,it] e (λi h=>(∃old,IsEnum h e it i old)/\h.IsListIter it l i) where
 mem:=by simp
 obj:=λi h st b hb=>by
  obtain⟨⟨old,he⟩,o,e2,c,d⟩:=st;rcases XI.mp hb with rfl | hb
  .exact zan he rfl
  .have z:b=it:=by simpa using hb
   subst z;exact zan e2 d
 keep:=λi h h' st kk=>by
  obtain⟨⟨old,he⟩,o,e2,r⟩:=st;exact⟨⟨old,kk e (by simp) _ he⟩,o,kk it (by simp) o e2,r⟩
 item:=by
  intro X hP hw hK hc i bz s σ H E I hf st hg;subst hP hw hK;obtain⟨xs,hq,hlt⟩:=hg;refine eS (λits rv p hz=>?_) (I.list hq);have hl:=rv.length;obtain⟨⟨old,he⟩,o2,e2,c2,d2⟩:=id st;refine zkL (wr:=[e,it]) (J:=Ite X.K l) (tn:=λi h=>(∃old,IsEnum h e it i old)/\h.IsListIter it l i) I hf (λb hb=>?_) (λb hb=>hb) (WalksT.enumerate (I.ok.hd hc) e it l hei hle hli its.toArray) (by simp;lia) ⟨st.1,st.2,p.isList⟩ (λT vals hn hp=>?_) λh'' q=>⟨q.1,q.2.1⟩
  .rcases XI.mp hb with rfl | hb
   .exact⟨_,he⟩
   .have z:b=it:=by simpa using hb
    subst z;exact⟨_,e2⟩
  .obtain⟨t,x,hx,rfl⟩:=hp;have hx':its[i]?=some x:=by simpa using hx
   obtain⟨u,hu,ru⟩:=rv.get (i:=i) (x:=xs[i]) (by rw[XY hlt]);rw[hu]at hx';cases hx';exact cK [.int i,xs[i]] (.cons ⟨t,rfl⟩ (.cons ru .nil)) (by show 2<=Xv;decide) (cK T rfl hn (λys hy=>⟨xs[i],by rw[I.list_inj hy hq,XY hlt],rfl⟩))
 done:=by
  intro X hP hw hK hc i bz s σ H E I hf st hg;subst hP hw hK;obtain⟨xs,hq,rfl⟩:=hg;obtain⟨its,rv,p,hz⟩:=I.list hq;have hl:its.toArray.size=xs.length:=by simp[rv.length]
  refine zkM (fp:=[e,it]) (wr:=[e,it]) I hf (λb hb=>hb) (WalksT.enumerate (I.ok.hd hc) e it l hei hle hli its.toArray) ?_;rw[hl];exact⟨st.1,st.2,p.isList⟩
 self:=λA i s Q E st h=>by
  obtain⟨⟨old,he⟩,_⟩:=st;exact S2 he h
def zm4 (x:Str):It:=⟨λi _=>i<x.cps.size,λi H v a=>∃T c,v=.ref T/\H T=none/\x.cps[i]?=some c/\a=upd H T (.tup [.int i,.str ⟨#[c]⟩]),λi _=>i=x.cps.size⟩
def zcb {P:Xh}{w:W2}{K:XS}{elts:List Expr}{k:Nat}{pos:Pos}(e it:Addr)(x:Str)(t:Tok)(n:String)(hei:e≠it)
  (D:∀A:WO,A.handled=none->Draws P w A it [it] x.cps.size (λi v=>∃c u,x.cps[i]?=some c/\v=.str ⟨#[c]⟩ u) (λi h=>h.IsStrIter it n x t i)) :
  Turn P w K (.Tuple elts k pos) (zm4 x) [e,it] e (λi h=>(∃old,IsEnum h e it i old)/\h.IsStrIter it n x t i) where
 mem:=by simp
 obj:=λi h st b hb=>by
  obtain⟨⟨old,he⟩,o,e2,c,d⟩:=st;rcases XI.mp hb with rfl | hb
  .exact zan he rfl
  .have z:b=it:=by simpa using hb
   subst z;exact zan e2 d
 keep:=λi h h' st kk=>by
  obtain⟨⟨old,he⟩,o,e2,r⟩:=st;exact⟨⟨old,kk e (by simp) _ he⟩,o,kk it (by simp) o e2,r⟩
 item:=by
  intro X hP hw hK hc i bz s σ H E I hf st hg;subst hP hw hK;obtain⟨⟨old,he⟩,o2,e2,c2,d2⟩:=id st;refine zkL (wr:=[e,it]) (J:=zm4 x) (tn:=λi h=>(∃old,IsEnum h e it i old)/\h.IsStrIter it n x t i) I hf (λb hb=>?_) (λb hb=>hb) (WalksT.enumerateD (D X.A.in1 (I.ok.hd hc)) e hei (by simpa using hei) (by simp)) hg st (λT vals hn hp=>?_) λh'' q=>q
  .rcases XI.mp hb with rfl | hb
   .exact⟨_,he⟩
   .have z:b=it:=by simpa using hb
    subst z;exact⟨_,e2⟩
  .obtain⟨t',v,⟨c,u,hx,rfl⟩,rfl⟩:=hp;exact cK [.int i,.str ⟨#[c]⟩] (.cons ⟨t',rfl⟩ (.cons ⟨u,rfl⟩ .nil)) (by show 2<=Xv;decide) (cO T c rfl hn hx rfl)
 done:=by
  intro X hP hw hK hc i bz s σ H E I hf st hg;subst hP hw hK;have z:i=x.cps.size:=hg;subst z;exact zkM (fp:=[e,it]) (wr:=[e,it]) I hf (λb hb=>hb) (WalksT.enumerateD (D X.A.in1 (I.ok.hd hc)) e hei (by simpa using hei) (by simp)) st
 self:=λA i s Q E st h=>by
  obtain⟨⟨old,he⟩,_⟩:=st;exact S2 he h
section
variable {X:Cx}{elts:List Expr}{k:Nat}{tpos:Pos}
def zpq (K:XS)(b:TA):TI:=fun e H R=>b e H λc a=>∃l,c=[.ref l]/\(∃d,SqL K a l d)/\R (Ite K l) a
def JN {a:Expr}{o:TA}{p pos:Pos}(y:Gl X "enumerate")(z:X.mg "enumerate"=none)(x:PA X [a] o)(B:WU [a] X.env=[(false,eval a X.env)]:=by rfl):PI X (.Tuple elts k tpos) (.Call (.Name "enumerate" p) [a] [] pos) (zpq X.K o):=by
 intro m s r H R I h;refine Call_ (za0 I y z boot_enumerate (Vy (thn (x pos m s r H _ I h) λU s1 ⟨Y,j,f,L,J⟩=>?_) B rfl));obtain⟨l,rfl,⟨xs,A⟩,q⟩:=J;obtain⟨u,rfl,M⟩:=vals1 L;cases M;obtain⟨E,Q,n,N⟩:=f.list A;obtain⟨O,i,_⟩:=n.isList;have d:=Xz i;refine call_enumerate_list n.isList λw he g D G=>?_;have v:Inv X m r j { s1 with heap:=w }:=f.kept (t':=s1.toks) G;refine S2 he ?_;refine dN (s1.heap.objs.size+1) [s1.heap.objs.size+1,s1.heap.objs.size] (dg j rfl v (zjr (s1.heap.objs.size+1) s1.heap.objs.size l (U3 _) (Xf (Wm d)) (Xf d)) ⟨⟨_,he⟩,g⟩ (λb hb=>?_) q);have c:s1.heap.objs.size<=b:=by
  rcases XI.mp hb with e | hb
  .rw[e];exact VM _
  .have e:b=s1.heap.objs.size:=by simpa using hb
   rw[e];exact XT _
 exact f.fpOk c (f.hok.fresh c)
def zpr (b:TA):TI:=fun d H R=>b d H λc a=>∃z,c=[.str z]/\R (zm4 z) a
def zft {a:Expr}{o:TA}{p pos:Pos}(w:Gl X "enumerate")(x:X.mg "enumerate"=none)(i:PA X [a] o)(y:WU [a] X.env=[(false,eval a X.env)]:=by rfl):PI X (.Tuple elts k tpos) (.Call (.Name "enumerate" p) [a] [] pos) (zpr o):=by
 intro l s r H R I h;refine Call_ (za0 I w x boot_enumerate (Vy (thn (i pos l s r H _ I h) λJ s1 ⟨L,g,j,G,E⟩=>?_) y rfl));obtain⟨z,rfl,q⟩:=E;obtain⟨u,rfl,t,rfl⟩:=vals1 G;refine call_enumerate_str λv he c B D=>?_;have n:Inv X l r g { s1 with heap:=v }:=j.kept (t':=s1.toks) D;refine S2 he ?_;have d:∀b ∈ [s1.heap.objs.size+1,s1.heap.objs.size],zai X l g b:=λb hb=>by
  have f:s1.heap.objs.size<=b:=by
   rcases XI.mp hb with e | hb
   .rw[e];exact VM _
   .have e:b=s1.heap.objs.size:=by simpa using hb
    rw[e];exact XT _
  exact j.fpOk f (j.hok.fresh f)
 unfold strIterType at c;by_cases i:z.cps.all (· < 128)=true
 .rw[bw i]at c;exact dN (s1.heap.objs.size+1) [s1.heap.objs.size+1,s1.heap.objs.size] (dg g rfl n (zcb (s1.heap.objs.size+1) s1.heap.objs.size z t "str_ascii_iterator" (U3 _) (λA m=>Draws.strAscii m _ z t)) ⟨⟨_,he⟩,c⟩ d q)
 .rw[bq i]at c;exact dN (s1.heap.objs.size+1) [s1.heap.objs.size+1,s1.heap.objs.size] (dg g rfl n (zcb (s1.heap.objs.size+1) s1.heap.objs.size z t "str_iterator" (U3 _) (λA m=>Draws.strWide m _ z t)) ⟨⟨_,he⟩,c⟩ d q)
def zao:jk X (.type "int") (λxs H Q=>∃x n,xs=[.str x]/\Py x=some n/\x.length<=640/\Q (.int n) H):=by
 intro c s e H xs d Q I r h;obtain⟨x,n,rfl,b,a,q⟩:=h;obtain⟨u,rfl,t,rfl⟩:=vals1 r;exact PySem.W.KIN.call_text b a ⟨.int n,H,I.tok _,⟨_,rfl⟩,q⟩
def zey:jk X (.type "str") (λxs H Q=>∃x,xs=[.str x]/\Q (.str x) H):=by
 intro a s c H xs b Q I r h;obtain⟨x,rfl,q⟩:=h;obtain⟨u,rfl,t,rfl⟩:=vals1 r;exact PySem.P.str_of_str ⟨.str x,H,I,⟨_,rfl⟩,q⟩
end
def JE {K:XS}{l:Addr}{xs:AE}{g:TG}{n:TS}{D:Ends}{a:St}{H:Hp}(Pv:Nat->St->Hp->Prop)(h0:Pv 0 a H)(u:∀i a H,i<=xs.length->Pv i a H->SqL K H l xs)
  (w:∀i x T a H,xs[i]?=some x->H T=none->Pv i a H->g (.ref T) a (upd H T (.tup [.int i,x])) fun d h=>n { D with nx:=Pv (i+1),ct:=Pv (i+1),bk:=D.nx } d h) (r:∀ a H,Pv xs.length a H->D.nx a H) :
  ∃W:Nat->Nat->St->Hp->Prop,(∃m,W 0 m a H)/\∀i m a H,W i m a H ->
   ((Ite K l).stop i H/\D.nx a H)\/((Ite K l).go i H/\∃N:St->Hp->Prop,(∀ c b,N c b->∃j,j<m/\W (i+1) j c b)/\∀x b,(Ite K l).yld i H x b->g x a b fun d h=>n { D with nx:=N,ct:=N,bk:=D.nx } d h):=by
 refine⟨λi m a H=>m=xs.length-i/\i<=xs.length/\Pv i a H,⟨xs.length,by simp,W1 _,h0⟩,?_⟩;rintro i m a H ⟨rfl,s,p⟩;have q:=u i a H s p;by_cases f:i<xs.length
 .refine .inr ⟨⟨xs,q,f⟩,Pv (i+1),fun c b A=>⟨xs.length-(i+1),by lia,rfl,f,A⟩,λx b y=>?_⟩;obtain⟨T,rfl,o,y⟩:=y;obtain⟨v,z,rfl⟩:=y xs q;exact w i v T a H z o p
 .have e:i=xs.length:=by lia
  subst e;exact .inl ⟨⟨xs,q,rfl⟩,r a H p⟩
def zcc {g:TG}{l:TT}{n:TE}{Q:VK}{a:St}{H:Hp}{D:Addr}{x:Str}(Pv:Nat->St->Hp->Prop)(h0:Pv 0 a H)
  (w:∀i c T a H,x.cps[i]?=some c->H T=none->Pv i a H->g (.ref T) a (upd H T (.tup [.int i,.str ⟨#[c]⟩])) fun d q=>l d q λb h=>if b=true then n d h λy j=>∃ys,j D=some (.lst ys)/\ys.length<Xv/\Pv (i+1) d (upd j D (.lst (ys++[y]))) else Pv (i+1) d h)
  (u:∀ a H,Pv x.cps.size a H->Q (.ref D) H):yJ (zm4 x) g l n Q D a H:=by
 refine⟨λi m a H=>m=x.cps.size-i/\i<=x.cps.size/\Pv i a H,⟨x.cps.size,by simp,W1 _,h0⟩,?_⟩;rintro i m a H ⟨rfl,B,p⟩;by_cases f:i<x.cps.size
 .refine .inr ⟨f,Pv (i+1),fun A o z=>⟨x.cps.size-(i+1),by lia,rfl,f,z⟩,λv o y=>?_⟩;revert y;refine d8 λT c z0 r s z1=>?_;subst z0 z1;exact w i c T a H s r p
 .have e:i=x.cps.size:=by lia
  subst e;exact .inl ⟨rfl,u a H p⟩
def zap (look:Str->Option Addr):List (Str×Ss)->List (Str×Addr)->List (Str×Addr)
 | [],a=>a
 | (n,k)::r,a=>if k == .free then (match look n with
  | some c=>zap look r ((n,c)::a)
  | none=>zap look r a) else zap look r a
theorem YO {look:Str->Option Addr}:∀(b:List (Str×Ss)) (a:List (Str×Addr)) (p:Str×Addr),p∈zap look b a->p∈a\/look p.1=some p.2
 | [],a,p,h=>.inl h
 | (n,k)::r,a,p,h=>by
  unfold zap at h;split at h
  .cases e:look n with
   | none =>
    rw[e]at h;exact YO r a p h
   | some c =>
    rw[e]at h;rcases YO r _ p h with h | h
    .rcases XI.mp h with h | h
     .subst h;exact .inr e
     .exact .inl h
    .exact .inr h
  .exact YO r a p h
def Zw {x n:Str}{c:Addr}{a:List (Str×Addr)}(h:(a.lookup x).isSome=true\/x=n):(RP x ((n,c)::a)).isSome=true:=by
 rw[SF];cases e:x==n with
 | true=>rfl
 | false =>
  rcases h with h | h
  .exact h
  .subst h;simp at e
def zfu {look:Str->Option Addr}{x:Str}(a:List (Str×Ss))(b:List (Str×Addr))(h:(b.lookup x).isSome=true\/((x,NameKind.free)∈a/\(look x).isSome=true)):((zap look a b).lookup x).isSome=true:=by
 induction a generalizing b with
 | nil =>
  rcases h with h | h
  .exact h
  .cases h.1
 | cons y r d =>
  obtain⟨n,k⟩:=y;unfold zap;split
  .rename_i hk;cases e:look n with
   | none =>
    refine d b ?_;rcases h with h | ⟨h,h2⟩
    .exact .inl h
    .rcases XI.mp h with h | h
     .cases h;rw[e]at h2;cases h2
     .exact .inr ⟨h,h2⟩
   | some c =>
    refine d _ ?_;rcases h with h | ⟨h,h2⟩
    .exact .inl (Zw (.inl h))
    .rcases XI.mp h with h | h
     .cases h;exact .inl (Zw (.inr rfl))
     .exact .inr ⟨h,h2⟩
  .rename_i hk;refine d b ?_;rcases h with h | ⟨h,h2⟩
   .exact .inl h
   .rcases XI.mp h with h | h
    .cases h;exact absurd rfl hk
    .exact .inr ⟨h,h2⟩
def YB {e:UE}{d:Env}(h:∀y∈e.names,y.2=.free->(d.cells.lookup y.1).isSome=true):OW e d=pure (zap (λx=>d.cells.lookup x) e.names []):=by
 have v:∀(b:List (Str×Ss)) (f:List (Str×Addr)),(∀y∈b,y.2=.free->(d.cells.lookup y.1).isSome=true) ->
   (forIn b f λx l=>(match x with
    | (g,j)=>if (j == .free)=true then do let a <- cellOf d g;pure (VU ((g,a)::l)) else pure (VU l):Sem (ForInStep (List (Str×Addr)))))=(pure (zap (λx=>d.cells.lookup x) b f):Sem _):=by
  intro b;induction b with
  | nil=>intro f _;rfl
  | cons y r s =>
   intro f q;obtain⟨n,k⟩:=y;have p:∀y∈r,y.2=.free->(d.cells.lookup y.1).isSome=true:=λy z=>q y (XV _ z);rw[List.forIn_cons];unfold zap;by_cases hk:(k==NameKind.free)=true
   .have o:k=.free:=by simpa using hk
    have A:=q (n,k) XR o;obtain⟨c,w⟩:=Vh.mp A;have i:RP n d.cells=some c:=w;have u:cellOf d n=pure c:=by
     unfold cellOf;rw[i]
    simp only[hk,if_true,u,i,pure_bind];exact s _ p
   .simp only[hk,Wz,if_false,pure_bind];exact s _ p
 simp only[OW];exact Eq.trans (congrArg (λm:Sem (List (Str×Addr))=>m >>= λl=>pure l) (v e.names [] h)) rfl
def Zd {b:UE}{a:Env}{x:Str}{k:Ss}(h:(x,k)∈(UH b a).names)(hk:k=.cell\/k=.free):(x,Tv)∈b.names\/(x,NameKind.free)∈b.names:=by
 obtain⟨y,g,e⟩:=XN.mp h;obtain⟨n,d⟩:=y;by_cases c:(d==NameKind.free&&a.scope.kind == .function&&a.kindOf n==some .cell)=true
 .have f:(if (d==NameKind.free&&a.scope.kind == .function&&a.kindOf n==some .cell)=true then (n,Tv) else (n,d))=(x,k):=e;rw[bw c]at f;cases f;have c1:d=.free:=by
   have:=(VQ.mp (VQ.mp c).1).1;simpa using this
  subst c1;exact .inr g
 .have f:(if (d==NameKind.free&&a.scope.kind == .function&&a.kindOf n==some .cell)=true then (n,Tv) else (n,d))=(x,k):=e;rw[bq c]at f;cases f;rcases hk with rfl | rfl
  .exact .inl g
  .exact .inr g
open PySem PySem.Spec PyProof.Rows PySem.W
section
variable {α β:Type}{R:α->β->Prop}{us us':List α}{cs cs':List β}{i:Nat}{v:α}{c:β}
def zcd (h:Xy R us cs)(k:Xy R us' cs'):Xy R (us++us') (cs++cs'):=by
 induction h with
 | nil=>exact k
 | cons q _ a=>exact .cons q a
def x8 (h:Xy R us cs)(e:us[i]?=some v):∃c,cs[i]?=some c/\R v c:=by
 induction h generalizing i with
 | nil=>cases e
 | cons q _ a =>
  cases i with
  | zero =>
   cases e;exact⟨_,rfl,q⟩
  | succ i=>exact a (i:=i) e
def zoq (h:Xy R us cs)(e:cs[i]?=some c):∃v,us[i]?=some v/\R v c:=by
 induction h generalizing i with
 | nil=>cases e
 | cons q _ a =>
  cases i with
  | zero =>
   cases e;exact⟨_,rfl,q⟩
  | succ i=>exact a (i:=i) e
def zkN (h:Xy R us cs)(e:v∈us):∃c∈cs,R v c:=by
 induction h with
 | nil=>cases e
 | cons q _ a =>
  rcases XI.mp e with rfl | e
  .exact⟨_,XR,q⟩
  .obtain⟨c,h,r⟩:=a e;exact⟨c,XV _ h,r⟩
end
def yR (H:Hp):AE->List (Int×Int)->Prop:=Xy λv p=>∃a,v=V.ref a/\H a=some (.tup [.int p.1,.int p.2])
def lt2 (p q:Int×Int):Bool:=if p.1=q.1 then decide (p.2<q.2) else decide (p.1<q.1)
structure zz (h:Heap)(v:X9)(p:Int×Int):Prop where
 ex:∃a o n t u,v=.ref a/\h.get? a=some o/\o.cls=.type "tuple"/\o.data=.seq #[.int p.1 t,.int p.2 u] n
section
variable {X:Cx}{bz:List (Addr×Obj)}{σ:St}{H:Hp}{s:X7}
def yR.pairs (I:Inv X bz σ H s){d:AE}{ps:List (Int×Int)}{b:List X9}(i:yR H d ps)(r:Vals d b):Xy (zz s.heap) b ps:=by
 induction i generalizing b with
 | nil =>
  cases r;exact .nil
 | cons q _ j =>
  obtain⟨a,e,h⟩:=q;subst e;cases r with
  | cons l m =>
   cases l;refine .cons ?_ (j m);obtain⟨c,o,v,_⟩:=I.tuple (SqT.of h);obtain⟨u1,w,rfl,⟨p,rfl⟩,⟨u,rfl⟩⟩:=vals2 o;obtain⟨ob,g,c1,n,f⟩:=v;exact⟨a,ob,n,p,u,rfl,g,c1,f⟩
end
theorem Z3 {h h':Heap}(k:∀b o,h.get? b=some o->h'.get? b=some o):∀{c:List X9} {ps:List (Int×Int)},Xy (zz h) c ps->Xy (zz h') c ps
 | _,_,.nil=>.nil
 | _,_,.cons ⟨a,o,n,t,u,e,d,r⟩ tl=>.cons ⟨a,o,n,t,u,e,k _ _ d,r⟩ (Z3 k tl)
theorem Z4 {h:Heap}:∀{b:List X9} {ps:List (Int×Int)},Xy (zz h) b ps->∃fs:List X9,KatTups h b fs/\fs.length=b.length/\∀v∈fs,∃x t,v=Vm x t
 | _,_,.nil=>⟨[],.nil,rfl,λ_ z=>nomatch z⟩
 | _,_,.cons ⟨a,o,n,t,u,e,f,c,d⟩ tl=>by
  obtain⟨fs,k,l,q⟩:=Z4 tl;subst e;refine⟨.int _ t::fs,KatTups.cons f c d rfl k,by simp[l],λv hv=>?_⟩;rcases XI.mp hv with rfl | hv
  .exact⟨_,t,rfl⟩
  .exact q v hv
section
variable {prog:Xh}{w:W2}{A:WO}{E:X9->X7->Prop}{s:X7}
def zif {v i:X9}{p q:Int×Int}{C:Bool->X7->Prop}(x:zz s.heap v p)(f:zz s.heap i q)(h:C (lt2 p q) s):Xe (Xg prog w) A (keyLt' (tuples' true) v i) C E s:=by
 obtain⟨a,o,n,t,u,rfl,m,c1,l⟩:=x;obtain⟨B,H,G,y,z,rfl,c,j,b⟩:=f;refine kat_lt m l c b ?_;show KatLex prog w A true _ C [(Vm p.1 t,Vm q.1 y),(Vm p.2 u,Vm q.2 z)] 0 s;unfold lt2 at h;refine kat_cons (SeqAt.EqAt.int_int _ _ _ _ prog w _ _ (kat_go (λd=>kat_yes ?_) λd=>kat_no ?_))
 .have e:p.1=q.1:=by simpa using d
  rw[bw e]at h;refine kat_cons (SeqAt.EqAt.int_int _ _ _ _ prog w _ _ (kat_go (λg=>kat_yes (kat_nil ?_)) λg=>kat_no ?_))
  .have D:p.2=q.2:=by simpa using g
   have r:decide (p.2<q.2)=false:=bf (by lia);rw[r]at h;exact h
  .exact kat_one _ _ (lt_int h)
 .have e:¬ p.1=q.1:=by simpa using d
  rw[bq e]at h;exact oneLt_int h
end
section
variable {X:Cx}
def zfv:zqH X (zpl X.K):=by
 intro g s D H x y v u Q I A B h;revert h;refine fq λp L i z z0 z1 o he q=>?_;subst z0 z1;cases A;obtain⟨t,rfl⟩:=B;obtain⟨c,r,f,J⟩:=I.list o;refine fj (λj h1 h2 E l m=>?_) (zbT he);obtain⟨w,e,d⟩:=r.get h2;have n:=r.length;have G:=YK;have a:EP X g D Q w s:=⟨z,H,I,d,q⟩;by_cases h0:0<=i
 .have b:i.toNat=j:=by
   rw[PJ h0 m]at h1;exact Option.some.inj h1
  exact wpAny_getItem_list f.isList h0 (by lia) (by rw[b];simpa using e) a
 .have b:(i+(c.toArray.size:Int)).toNat=j:=by
   rw[Rf (by lia) l]at h1;rw[Xm,<- n];exact Option.some.inj h1
  exact Q1 f.isList (by lia) (by rw[Xm]<;>lia) (by lia) (by rw[b];simpa using e) a
theorem zfw:∀{b:List Int} {a:List X9},Vals (b.map V.int) a->Pg a b
 | [],_,r=>by cases r;exact .nil
 | n::b,_,r=>by
  cases r with
  | cons c d =>
   obtain⟨t,rfl⟩:=c;exact .cons n t (zfw d)
def zfx (i:X.calm=true):jk X (.builtin "sum") (λxs H Q=>∃(l:Addr) (a:List Int),xs=[.ref l]/\SqL X.K H l (a.map V.int)/\Q (.int a.sum) H):=by
 intro p s A H xs z Q I r h;obtain⟨l,a,rfl,j,q⟩:=h;obtain⟨u,rfl,n⟩:=vals1 r;cases n;obtain⟨b,o,m,w⟩:=I.list j;have e:Pg b a:=zfw o;obtain⟨c,d⟩:=e.allInts.items;refine sum_intListG (I.ok.hd i) (xs:=c) (d ▸ m.isList) λv y x hk=>?_;have f:a=c.toList.map (·.1):=by
  rw[<- nums_intItems,<- d];exact(show numsOf b.toArray.toList=a from e.numsOf).symm
 have g:preSum (numAt c) c.size=a.sum:=by
  rw[f,preSum_eq,WE (by simp)]
 rw[g];exact⟨.int _,H,I.kept hk,⟨_,rfl⟩,q⟩
def zjs {bs:List Bool}{a:List X9}(r:Vals (bs.map V.bl) a){i:Nat}{v:X9}(e:a[i]?=some v):∃b,bs[i]?=some b/\v=.bool b:=by
 have d:=r.length;rw[ZB]at d;have c:i<bs.length:=by
  have:=(XX.mp e).1;lia
 obtain⟨u,f,g⟩:=r.get (i:=i) (x:=.bl bs[i]) (by rw[XB,XY c];rfl);rw[f]at e;cases e;exact⟨bs[i],XY c,g⟩
def zce (n:X.calm=true):jk X (.builtin "any") (λxs H Q=>∃(l:Addr) (bs:List Bool),xs=[.ref l]/\SqL X.K H l (bs.map V.bl)/\Q (.bl (bs.any id)) H):=by
 intro z s L H xs J Q I r h;obtain⟨l,bs,rfl,o,q⟩:=h;obtain⟨u,rfl,w⟩:=vals1 r;cases w;obtain⟨a,j,p,D⟩:=I.list o;have d:=p.isList;have f:l<s.heap.objs.size:=let ⟨_,he,_⟩:=d;Xz he
 have c:=j.length;rw[ZB]at c;refine call_any_walk (S4 d ?_);refine cL s.heap.objs.size [s.heap.objs.size,l] [s.heap.objs.size] a.toArray.size (cI (cM (λi=>(bs[i]?).getD false) rfl (Walks.list (A:=X.A.in1) (I.ok.hd n) _ l (Xf f) a.toArray) ⟨⟨_,W4 _ rfl,rfl,rfl⟩,d.push _⟩ (λi v E y x hP g=>?_) (λB G hk=>?_)))
 .obtain⟨b,m,rfl⟩:=zjs j (i:=i) (v:=v) (by simpa using hP);simp only[m,TQ]at g;exact VL g
 .have e:((WC a.toArray.size).any λi=>(bs[i]?).getD false)=bs.any id:=by
   rw[Xm,<- c];exact LSm.range_any bs
  rw[e];exact⟨.bl _,H,I.kept (LSm.kept_iter hk),rfl,q⟩
end
mutual
inductive Rdn (N:Addr->Prop)(H:Hp):V->We->Prop
 | non:Rdn N H .non .none
 | bl (b:Bool):Rdn N H (.bl b) (.bool b)
 | int (i:Int):Rdn N H (.int i) (.int i)
 | str (x:Str):Rdn N H (.str x) (.str x)
 | lst {a:Addr} {xs:AE} {ds:List We}:N a->H a=some (.lst xs)->zq N H xs ds->Rdn N H (.ref a) (.list ds)
 | tup {a:Addr} {xs:AE} {ds:List We}:H a=some (.tup xs)->zq N H xs ds->Rdn N H (.ref a) (.tuple ds)
inductive zq (N:Addr->Prop)(H:Hp):AE->List We->Prop
 | nil:zq N H [] []
 | cons {x:V} {d:We} {xs:AE} {ds:List We}:Rdn N H x d->zq N H xs ds->zq N H (x::xs) (d::ds)
end
section
variable {K:XS}{N N':Addr->Prop}{H H':Hp}
def Rdn.rdv {v:V}{d:We}(h:Rdn N H v d):Rdv K H v d :=
 Rdn.rec (motive_1:=λv d _=>Rdv K H v d) (motive_2:=λc b _=>JM K H c b) .non .bl .int .str (λ_ h _ t=>.lst (SqL.of h) t) (λh _ t=>.tup (SqT.of h) t) .nil (λ_ _ a t=>.cons a t) h
def zq.rdv {vs:AE}{b:List We}(h:zq N H vs b):JM K H vs b :=
 zq.rec (motive_1:=λv d _=>Rdv K H v d) (motive_2:=λvs b _=>JM K H vs b) .non .bl .int .str (λ_ h _ t=>.lst (SqL.of h) t) (λh _ t=>.tup (SqT.of h) t) .nil (λ_ _ a t=>.cons a t) h
def Rdn.mono (s:zo H H')(i:∀a,N a->N' a){v:V}{d:We}(h:Rdn N H v d):Rdn N' H' v d :=
 Rdn.rec (motive_1:=λv d _=>Rdn N' H' v d) (motive_2:=λc b _=>zq N' H' c b) .non .bl .int .str (λn h _ t=>.lst (i _ n) (s _ _ h) t) (λh _ t=>.tup (s _ _ h) t) .nil (λ_ _ a t=>.cons a t) h
def zq.mono (s:zo H H')(i:∀a,N a->N' a){vs:AE}{b:List We}(h:zq N H vs b):zq N' H' vs b :=
 zq.rec (motive_1:=λv d _=>Rdn N' H' v d) (motive_2:=λvs b _=>zq N' H' vs b) .non .bl .int .str (λn h _ t=>.lst (i _ n) (s _ _ h) t) (λh _ t=>.tup (s _ _ h) t) .nil (λ_ _ a t=>.cons a t) h
def zq.into {D:Addr}{o:HO}{c:AE}(e:H D=some (.lst c))(i:∀a,N a->a≠D){vs:AE}{b:List We}(h:zq N H vs b):zq N (upd H D o) vs b :=
 zq.rec (motive_1:=λv d _=>Rdn N (upd H D o) v d) (motive_2:=λvs b _=>zq N (upd H D o) vs b) .non .bl .int .str (λn h _ t=>.lst n (by rw[zj (i _ n)];exact h) t) (λh _ t=>.tup (by rw[zj (zdy h e (by intro z;cases z))];exact h) t) .nil (λ_ _ a t=>.cons a t) h
def Rdn.keep (s:zo H H'){v:V}{d:We}(h:Rdn N H v d):Rdn N H' v d:=h.mono s λ_ n=>n
def zq.keep (s:zo H H'){vs:AE}{a:List We}(h:zq N H vs a):zq N H' vs a:=h.mono s λ_ n=>n
def zq.append {vs d:AE}{b c:List We}(h:zq N H vs b)(k:zq N H d c):zq N H (vs++d) (b++c) :=
 zq.rec (motive_1:=λ_ _ _=>True) (motive_2:=λvs b _=>zq N H (vs++d) (b++c))
  trivial (λ_=>trivial) (λ_=>trivial) (λ_=>trivial) (λ_ _ _ _=>trivial) (λ_ _ _=>trivial) k (λa _ _ t=>.cons a t) h
def zq.snoc {vs:AE}{a:List We}{v:V}{d:We}(h:zq N H vs a)(k:Rdn N H v d):zq N H (vs++[v]) (a++[d]):=h.append (.cons k .nil)
def zq.paired {vs:AE}{b:List We}(h:zq N H vs b):Xy (Rdn N H) vs b :=
 zq.rec (motive_1:=λ_ _ _=>True) (motive_2:=λvs b _=>Xy (Rdn N H) vs b)
  trivial (λ_=>trivial) (λ_=>trivial) (λ_=>trivial) (λ_ _ _ _=>trivial) (λ_ _ _=>trivial) .nil (λa _ _ t=>.cons a t) h
theorem zq.length {vs:AE}{a:List We}(h:zq N H vs a):vs.length=a.length:=Paired.length h.paired
def zq.get {vs:AE}{a:List We}{i:Nat}{v:V}(h:zq N H vs a)(e:vs[i]?=some v):∃d,a[i]?=some d/\Rdn N H v d:=x8 h.paired e
end
section
variable {K:XS}{g:TG}{tc:TT}{te:TE}{Q:VK}{σ0:St}{H1:Hp}{D:Addr}
def zm5 (N:Addr->Prop)(c:St->Prop)(H:Hp)(o:Option We)(Y:St->V->Hp->Prop):Prop:=∀d y a b,o=some d->c a->zo H b->Rdn N b y d->Y a y b
def zps (b:St->Prop)(H:Hp)(o:Option We)(Z:St->Hp->Prop):Prop:=∀ a c,o=none->b a->zo H c->Z a c
def zM {a:Addr}{xs:AE}(N:Addr->Prop)(c:List (Option We))(h:St->Prop)(G:H1 D=none)(M:∀a,N a->a≠D)(h0:h σ0)(p:c.length=xs.length)(hz:xs.length<=100000)
  (hl:SqL K H1 a xs)
  (hs:∀(i:Nat) (x:V) (o:Option We) (l:St) (H:Hp),xs[i]?=some x->c[i]?=some o->zo H1 H->H D≠none->h l->∀Y Z,zm5 N h H o Y->zps h H o Z ->
   g x l H fun f L=>tc f L λb u=>if b=true then te f u λy E=>Y f y E else Z f u)
  (O:∀ys j,zo H1 j->j D=some (.lst ys)->zq N j ys (c.filterMap id)->Q (.ref D) j):yJ (Itl K a) g tc te Q D σ0 (upd H1 D (.lst [])):=by
 refine qN (K:=K) (a:=a) (xs:=xs) (λi l j=>h l/\zo H1 j/\∃ys,j D=some (.lst ys)/\ys.length<=i/\zq N j ys ((c.take i).filterMap id)) ⟨h0,zc G,[],zb,XT _,.nil⟩ (λi l j _ ⟨_,s,_⟩=>s.seq hl) ?_ ?_
 .refine λi x l H J=>eN λU s=>eS λys n B q=>?_;have v:i<xs.length:=(XX.mp J).1;obtain⟨o,I⟩:∃o,c[i]?=some o:=⟨c[i]'(by lia),XY (by lia)⟩;have step:(c.take (i+1)).filterMap id=(c.take i).filterMap id++o.toList:=by
   rw[Xb,I,List.filterMap_append];cases o<;>rfl
  refine hs i x o l H J I s (by rw[n];exact λz=>nomatch z) U _ _ (λd y f E e m r w=>?_) (fun f u e m A=>?_)
  .subst e;refine cM ys (r _ _ n) (XE B (Xi v (X6 hz (by decide)))) m (λb ob e=>?_) (cK (ys++[y]) zb ?_ ?_)
   .rw[zj (zh e G)];exact r _ _ (s _ _ e)
   .rw[X4];exact Pp B 1
   .rw[step];exact zq.into (r _ _ n) M (zq.snoc (q.keep r) w)
  .subst e;refine⟨m,s.trans A,ys,A _ _ n,Uc B,?_⟩;rw[step];simpa using q.keep A
 .rintro l H ⟨_,s,ys,n,_,q⟩;rw[<- p,XF]at q;exact O ys H s n q
def zg6 {a:Addr}{xs:AE}(Pv:Nat->St->Hp->Prop){H:Hp}(h0:Pv 0 σ0 H)(u:∀i c H,i<=xs.length->Pv i c H->SqL K H a xs)
  (w:∀i x T c H,xs[i]?=some x->H T=none->Pv i c H->g (.ref T) c (upd H T (.tup [.int i,x])) fun d n=>tc d n λb h=>if b=true then te d h λy j=>∃ys,j D=some (.lst ys)/\ys.length<Xv/\Pv (i+1) d (upd j D (.lst (ys++[y]))) else Pv (i+1) d h)
  (r:∀ c H,Pv xs.length c H->Q (.ref D) H):yJ (Ite K a) g tc te Q D σ0 H:=by
 refine⟨λi m c H=>m=xs.length-i/\i<=xs.length/\Pv i c H,⟨xs.length,by simp,W1 _,h0⟩,?_⟩;rintro i m c H ⟨rfl,s,p⟩;have q:=u i c H s p;by_cases f:i<xs.length
 .refine .inr ⟨⟨xs,q,f⟩,Pv (i+1),fun B l A=>⟨xs.length-(i+1),by lia,rfl,f,A⟩,λx l y=>?_⟩;revert y;refine eS λT z0 o y=>?_;subst z0;obtain⟨v,z,rfl⟩:=y xs q;exact w i v T c H z o p
 .have e:i=xs.length:=by lia
  subst e;exact .inl ⟨⟨xs,q,rfl⟩,r c H p⟩
def Jm {i:Nat}{v:V}{c:St}{H:Hp}{A B:St->Hp->Prop}(h:A (c.set i (some v)) H):yS i v c H fun a e=>zkK a e λb d=>if b=true then A a d else B a d:=by
 show if true=true then A (c.set i (some v)) H else B (c.set i (some v)) H
 exact Z0 h
end
def zfb:List X9:=[.type "ValueError",.type "Exception",.type "BaseException",.type "object"]
structure Fly (P:Xh)(w:W2)(outer:List Env)(H:Hp)(s:X7)(e C:Addr)(a0:X9)(B:Heap)(H':Hp)(s':X7):Prop where
 fly:OK B outer e (.ref C) a0 s'.heap
 os:s'.os=s.os
 bare:SD s'.gens
 un:Un (frs outer) [] H H' s.heap s'.heap
 ok:HOk P w H' B
 kB:∀b o,s.heap.get? b=some o->H b=none->b ∉ frs outer->B.get? b=some o
 tB:∀b o,s.heap.get? b=some o->b ∉ frs outer->∃o',B.get? b=some o'
 new:s.heap.get? e=none
 free:H' e=none
def CXE (P:Xh)(w:W2):CXT:=λa H s E x d=>∃(e C:Addr) (c:X9) (B:Heap) (b:Hp),x=.ref e/\Fly P w a H s e C c B b d/\E (.ref C) none b
theorem zkO {P:Xh}{w:W2}{H:Hp}{h:Heap}{a:Addr}:∀{o:HO},jy P w H h a o->∃ob,h.get? a=some ob
 | .lst _,x=>by obtain⟨_,_,_,_,q⟩:=x;exact⟨_,q⟩
 | .tup _,x=>by obtain⟨_,_,_,ob,q,_⟩:=x;exact⟨ob,q⟩
 | .dK _,x=>by revert x;refine fD λ_ _ _ _ ob _ _ q _=>?_;exact⟨ob,q⟩
 | .dT _,x=>by revert x;refine fD λ_ _ _ _ ob _ _ q _=>?_;exact⟨ob,q⟩
 | .set _ _,x=>by revert x;refine e9 λob _ _ _ q _=>?_;exact⟨ob,q⟩
 | .ins _ _ _,x=>by obtain⟨_,_,_,q,_⟩:=x;exact⟨_,q⟩
 | .own _,x=>x
 | .xd _,x=>by obtain⟨_,⟨ob,_,_,q,_⟩,_⟩:=x;exact⟨ob,q⟩
 | .met _ _,x=>⟨_,x⟩
 | .rng _ _,x=>by obtain⟨_,_,_,q⟩:=x;exact⟨_,q⟩
 | .frz _ _,x=>⟨_,x.1⟩
 | .tbl _,x=>⟨_,x⟩
 | .ext _,x=>x.2.1
section
variable {X:Cx}{bz:List (Addr×Obj)}{σ:St}{H H':Hp}{s s':X7}{e C:Addr}{a0:X9}{B h2:Heap}
def Inv.notLoc (I:Inv X bz σ H s){b:Addr}{o:Obj}(q:X.s₀.heap.get? b=some o):b≠X.env.locals:=λz=>VG _ (Xi (z ▸ Xz q) I.ok.above)
def Inv.notStk (I:Inv X bz σ H s){b:Addr}{o:Obj}(q:X.s₀.heap.get? b=some o)(a:b ∉ X.fs):b ∉ frs X.stack:=λz=>by
 rcases XI.mp (I.stkSub b z) with r | r
 .exact I.notLoc q r
 .exact a r
def Inv.flies (I:Inv X bz σ H s)(j:X.ex=[])(F:OK B X.outer e (.ref C) a0 h2)(up:s'.heap.UpToSlots h2)(os:s'.os=s.os)(i:SD s'.gens)(un:Un (frs X.stack) [] H H' s.heap s'.heap)(ok:HOk X.prog X.w H' B)
  (y:∀b o,s.heap.get? b=some o->H b=none->b ∉ frs X.stack->B.get? b=some o) (tB:∀b o,s.heap.get? b=some o->b ∉ frs X.stack->∃c,B.get? b=some c) (l:s.heap.get? e=none) (free:H' e=none) :
  Fly X.prog X.w X.outer X.H₀ X.s₀ e C a0 B H' { s' with heap:=h2 }:=by
 have f:∀b,b ∉ X.ex:=λb z=>by rw[j]at z;cases z
 have keep:∀b o,X.s₀.heap.get? b=some o->X.H₀ b=none->b ∉ X.fs->B.get? b=some o:=λb o q n a =>
  y b o (I.base.keep b o q n a (f b)) (I.base.free b o q n (f b)) (I.notStk q a)
 have d:∀b o,X.s₀.heap.get? b=some o->b ∉ X.fs->∃c,B.get? b=some c:=λb o q a=>by
  obtain⟨c,h⟩:=I.base.there b o q (f b);exact tB b c h (I.notStk q a)
 have g:∀b o,X.s₀.heap.get? b=some o->b∈X.fs->∃m,h2.get? b=some { o with slots:=m }:=λb o q a=>by
  obtain⟨_,U,v,E⟩:=I.ok.funs.mem a;rw[q]at v;cases v;obtain⟨m,J⟩:=I.base.slot b o q (I.ok.frf b a) a (f b);obtain⟨Q,L⟩:=un.any J (I.base.free b o q (I.ok.frf b a) (f b)) (λz=>nomatch z);obtain⟨p,M⟩:=up b _ L E;exact⟨p,M⟩
 refine⟨F,os.trans I.os,i,⟨λb o q n a _=>F.1 b o (keep b o q n a),λb o q _ a _=>g b o q a,λb o q n _=>?_,λb o q _=>?_,λb x q=>un.tups b x (I.base.tups b x q),λb o u q=>un.frzs b o u (I.base.frzs b o u q),λb G q=>?_⟩,ok,keep,d,?_,free⟩
 .obtain⟨c,h⟩:=I.base.there b o q (f b);exact un.free b c h (I.base.free b o q n (f b)) λz=>nomatch z
 .by_cases a:b∈X.fs
  .obtain⟨m,r⟩:=g b o q a;exact⟨_,r⟩
  .obtain⟨c,r⟩:=d b o q a;exact⟨c,F.1 b c r⟩
 .obtain⟨A,N⟩:=I.base.tbls b G q;obtain⟨D,O⟩:=un.tbls b _ N;exact⟨A++D,by rw[O,Array.append_assoc]⟩
 .cases q:X.s₀.heap.get? e with
  | none=>rfl
  | some o =>
   obtain⟨c,h⟩:=I.base.there e o q (f e);rw[l]at h;cases h
structure zez (X:Cx)(E:XK):Prop where
 stk:X.stack=X.env::X.outer
 fr:X.env.frame=some X.env.locals
 ex:X.ex=[]
 xe:X.xe=λx s'=>Xe (Xg X.prog X.w) X.A (leaving X.env x) (λ_ s''=>CXE X.prog X.w X.outer X.H₀ X.s₀ E x s'') (λx' s''=>CXE X.prog X.w X.outer X.H₀ X.s₀ E x' s'') s'
def zdH {P:Xh}{w:W2}{K:XS}{e:Str->Option X9}{base:Heap}{N:AD}{c:Str}{b:UE}{f:Addr}{d:X9}{A:WO}{a:List Env}{s:X7}{H:Hp}{E:XK} :
  zez (zfl (CXE P w) P w K e base N c b f d A a s H E) E:=⟨rfl,rfl,rfl,rfl⟩
def zpt {l:List Env}:∀b∈l,∀a,b.frame=some a->a∈frs l:=λb he a c=>Tl.mpr ⟨b,he,c⟩
def zez.made {E:XK}(L:zez X E)(I:Inv X bz σ H s){h1:Heap}{vs:List X9}(c:Heap.MadeExcOf s.heap h1 e (.ref C) vs)(h:E (.ref C) none H):X.xe (.ref e) { s with heap:=h1 }:=by
 rw[L.xe];have i:=I.stack;have d:∀a o,H a=some o->a ∉ frs X.stack:=λa o q z=>by
  rw[I.stkFree a z]at q;cases q
 have own:∀a b,H b=some (.own a)->b ∉ frs X.stack:=λa b q=>d b _ q;have fresh:H e=none:=by
  cases q:H e with
  | none=>rfl
  | some o =>
   obtain⟨f,g⟩:∃f,s.heap.get? e=some f:=by
    exact zkO (I.hok e o q)
   rw[c.new]at g;cases g
 refine wpAny_leaves_madeW (base:=PySem.W.hideAll s.heap (frs X.stack)) (L:=X.env.locals) (by rw[I.ok.frames,L.stk]) L.fr (λb o q=>PySem.W.of_hideAll _ q) (PySem.W.funFrames_hide (by rw[<- L.stk];exact i) (by rw[<- L.stk];exact zpt)) c λm t j n p l=>?_;refine dN e C (cK H rfl (I.flies (s':={ s with heap:=h1 }) L.ex j l rfl I.bare (Un.kept c.keeps) ?_ (λb o q _ hb=>TH _ q hb) (λb o q hb=>⟨o,TH _ q hb⟩) c.new fresh) h);exact λa o q=>(I.hok a o q).stay (λb u hb r=>TH _ r (by
  rcases hb with hb | hb
  .rw[hb];exact d a o q
  .exact own a b hb)) (λ_ r=>r) λ_ _ r=>r
end
structure QH (K:XS)(mg:Str->Option X9)(x:Str)(C:Addr):Prop where
 g:mg x=some (.ref C)
 q:Uf K C zfb "ValueError.__new__"=true
structure zor (h:Heap)(C:Addr)(bm:List X9):Prop where
 ex:∃N nm qn bs hdct sn sub ab col dd k0 k1 k2 k3 k5 mN,h.get? C=some (excClassObj nm qn C N bs bm hdct sn sub ab col dd k0 k1 k2 k3 k5 "ValueError.__new__")/\h.Ns N mN/\mN "__init__"=none
 tl:OwnTail h zfb bm
def zos {K:XS}{h:Heap}{C:Addr}(d:K.In h)(f:Uf K C zfb "ValueError.__new__"=true):∃bm,zor h C bm:=by
 unfold Uf at f;split at f
 .rename_i dd cd sl look;split at f
  .rename_i C' bm k0 k1 k2 k3 n k5 em es;simp only[Wp,beq_iff_eq,WF]at f;obtain⟨⟨⟨⟨⟨rfl,rfl⟩,b⟩,e⟩,c⟩,a⟩:=f;obtain⟨q,bs,p,r,s,o,u,sub,j,g,m⟩:=cd;dsimp only at em b c a;subst em b;have i:sl=#[k0,k1,k2,k3,some (.builtin "ValueError.__new__"),k5]:=by
    obtain⟨l⟩:=sl;simp only at es;rw[es]
   subst i;exact⟨bm,(dU r q s bs o u sub j (cL g dd k0 k1 (cN k2 k3 (dO k5 (d _ _ look) (.of_isNs (PySem.W.isNs_of_in d c)) (PySem.W.nsMap_none_of_in d c a))))),PySem.W.tail_of_in d e⟩
  .cases f
 .cases f
section
variable {X:Cx}
def zpu (E:XK)(C:Addr)(t:TA):TS:=λ_ c H=>t c H λb a=>b.length<=Xv/\E (.ref C) none a
def zfy {x:Str}{C:Addr}{z c pos:Pos}{f:Expr}{b:List Expr}{t:TA}{E:XK}(L:zez X E)(O:QH X.K X.mg x C)(u:Gl X x)(p:X.calm=true)(o:PA X (f::b) t)
  (he:WU (f::b) X.env=(false,eval f X.env)::WU b X.env:=by rfl) (v:(Tb c (WU b X.env)).any (·.1)=false:=by rfl) (i:(x==("__debug__":Str))=false:=by decide) :
  PS X (.Raise (some (.Call (.Name x z) (f::b) [] c)) none pos) (zpu E C t):=by
 intro l s B H D I h;obtain⟨bm,⟨N,nm,A,bs,hdct,sn,sub,ab,col,dd,k0,k1,k2,k3,k5,mN,m,n,j⟩,T⟩:=zos I.ok.mod.kin O.q;refine wpAny_Raise_call_subU (C:=C) (nm:=nm) (q:=A) (N:=N) (bs:=bs) (bm:=bm) (hdct:=hdct) (sn:=sn) (sub:=sub) (ab:=ab) (col:=col) (dd:=dd) (k0:=k0) (k1:=k1) (k2:=k2) (k3:=k3) (k5:=k5)
  RX (by decide) RX (mN:=mN) (T.hasType PySem.F.excBase_ValueError.hasBase) (I.ok.hd p) (by rw[he];show (false || (Tb c (WU b X.env)).any (·.1))=false;rw[v];rfl) j (zah I u O.g ⟨rfl,?_⟩ i)
 have a:=o c l s B H _ I h;rw[he]at a ⊢;refine Sq (thn a λQ M ⟨U,G,d,r,y,q⟩=>?_);exact cQ rfl (by rw[<- r.length];exact y) (d.bk _ _ m) (n.keeps d.bk) (T.keeps d.bk) (λJ e w=>L.made d w q)
def markX (X:Cx)(e:Addr):Cx:={ X with A:=X.A.mark (some (.ref e)),calm:=false,xe:=λ_ _=>False }
variable {bz:List (Addr×Obj)}{σ:St}{H:Hp}{s:X7}
def Cx.Ok.mark (ok:X.Ok)(e:Addr):(markX X e).Ok :=
 ⟨ok.mod,ok.kind,ok.glob,ok.blt,ok.above,ok.inj,ok.has,ok.cab,(λz=>nomatch z),ok.frames,ok.stk,ok.exf,ok.bs,ok.bsz,ok.noex,ok.exfs,ok.funs,ok.frf⟩
theorem Inv.mark (I:Inv X bz σ H s)(e:Addr):Inv (markX X e) bz σ H s:=⟨I.ok.mark e,I.os,I.bare,I.base,I.loc,I.cell,I.free,I.jo,I.pin,I.hok,I.len⟩
def Inv.unmark {e:Addr}(I:Inv (markX X e) bz σ H s)(ok:X.Ok):Inv X bz σ H s:=⟨ok,I.os,I.bare,I.base,I.loc,I.cell,I.free,I.jo,I.pin,I.hok,I.len⟩
def zrQ (e C:Addr)(h:Heap):Prop:=∃ob a,h.get? e=some ob/\ob.cls=.ref C/\ob.data=.fields a
def exO (e C:Addr):HO:=.ext (zrQ e C)
def Fly.caught {l j:Hp}{s1 s':X7}{e C:Addr}{y:X9}{B h:Heap}(I:Inv X bz σ l s1)(F:Fly X.prog X.w X.stack l s1 e C y B j s')(i:OK B X.stack e (.ref C) y h)(up:s'.heap.UpToSlots h) :
  Inv X bz σ (upd j e (exO e C)) { s' with heap:=h }:=by
 have H:∀b o,s1.heap.get? b=some o->b≠e:=λb o q z=>by
  rw[z,F.new]at q;cases q
 have f:∀b u,j b=some u->b≠e:=λb u q=>zh q F.free;have d:∀b o,s1.heap.get? b=some o->l b=none->b∈frs X.stack->∃v,h.get? b=some { o with slots:=v }:=λb o q n a=>by
  obtain⟨_,D,g,J⟩:=I.stack.mem a;rw[q]at g;cases g;obtain⟨v,p⟩:=F.un.slot b o q n a (λz=>nomatch z);obtain⟨x,s⟩:=up b _ p J;exact⟨x,s⟩
 refine I.call' (ch:=[]) F.os ⟨λb o q n a _=>i.1 b o (F.kB b o q n a),λb o q n a _=>d b o q n a,λb o q n _=>?_,λb o q _=>?_,λb G q=>?_,λb o u q=>?_,λb L q=>?_⟩ (λb ob q=>?_) F.bare λb z=>nomatch z
 .rw[zj (H b o q)];exact F.un.free b o q n λz=>nomatch z
 .by_cases a:b∈frs X.stack
  .obtain⟨v,r⟩:=d b o q (I.stkFree b a) a;exact⟨_,r⟩
  .obtain⟨A,r⟩:=F.tB b o q a;exact⟨A,i.1 b A r⟩
 .have r:=F.un.tups b G q;rw[zj (f b _ r)];exact r
 .have r:=F.un.frzs b o u q;rw[zj (f b _ r)];exact r
 .obtain⟨m,r⟩:=F.un.tbls b L q;exact⟨m,by rw[zj (f b _ r)];exact r⟩
 .by_cases a:b=e
  .subst a;rw[zb]at q;cases q;refine d8 (λE U g p s _=>?_) i.first;exact⟨⟨E,U,g,p,s⟩,⟨E,g⟩,λg1 g2 ⟨D,Q,M,N,O⟩ k=>⟨D,Q,k _ M,N,O⟩⟩
  .rw[zj a]at q;refine(F.ok b ob q).stay (λc u _ r=>i.1 c u r) (λc r=>?_) λc G r=>?_
   .rw[zj (f c _ r)];exact r
   .rw[zj (f c _ r)];exact r
def zm6 {M:Model}{A:WO}{E:X9->X7->Prop}{s:X7}{S e C:Addr}{bm:List X9}{j:Obj}{Q:Bool->X7->Prop}(O:zor s.heap S bm)(he:s.heap.get? e=some j)(a:j.cls=.ref C)
  (m:PySem.W.Looks M s.heap (isSubtype (.ref C) (.ref S)) true) (p:Q true s):Xe M A (excMatches (.ref e) (.ref S)) Q E s:=by
 obtain⟨⟨N,G,H,bs,i,I,sub,r,l,u,w,x,y,z,B,D,c,v,o⟩,T⟩:=O;have n:=T.hasType PySem.F.excBase_ValueError.hasBase;obtain⟨h,g,d,t,os⟩:=s;have b:(WA S::bm).contains (.type "BaseException")=true:=by rw[List.contains_cons,n,Bool.or_true]
 have f:=tc_notTuple;unfold excMatches;repeat (first | (with_reducible refine wpAny_loadPart_at he ?_;rw[a]) | with_reducible refine wpAny_loadPart_at c ?_ | (with_reducible refine wpAny_isSubtype_exc c ?_;rw[b]) | wp_step)
 refine m A _ E _ (λ_ _ q=>q) ?_;rw[bw rfl];exact XQ (XQ (XQ p))
end
def Fun.okX {P:Xh}{w:W2}{K:XS}{i:Str->Option X9}{base:Heap}{x b:Str}{st:Stmt}{f:Addr}{h:XC}{N ps:AD}{k:Nat}{sp:Sp}(F:Fun K x b st f h)(S:zD N ps (zp st))(len:∀vs H Q E,sp vs H Q E->vs.length=ps.length)
  (d:∀(c:X9) (A:WO) (a:List Env) (s:X7) (H:Hp) (vs:AE) (Q:VK) (E:XK),Zr k (A.deeper (Ri b (zp st) s.heap.objs.size f c))->sp vs H Q E ->
   ∃t,PSs (zfl (CXE P w) P w K i base N b (zp st) f c A a s H E) (xw st) t/\t { nx:=λ_ j=>Q .non j,rt:=Q } (start N vs) H):qc P w K i base (CXE P w) (k+1) f h ps sp:=by
 refine eE (λq r kV doc u o c p=>eS λn z0 m e=>?_) F.ex;subst z0;exact zoo m e S len λA a s H vs Q E l g=>d c A a s H vs Q E l g
section
variable {X:Cx}{tg iter elt:Expr}{ifs:List Expr}{scope:UE}{pos:Pos}{N:AD}{src:List (Option Nat)}{cl:List (Str×Addr)}{wi:TI}{g:TG}{tc:TT}{te:TE}
def zqV {w:List (Addr×Obj)}{I:St}{D:Ends}{i:Nat}{x:Str}{q:Pos}(hN:X.N.Nodup)(B:X.N[i]?=some x)(n:X.env.scope.names.lookup x=some .local):zm1 X N scope w I (some (assign (.Name x q) X.env)) (λ_ E=>∃ r s,Inv X w r s E/\D.nx r s) λv s=>yS i v I s D.nx:=by
 intro cl fp G H2 C J M f fn xe aa hC l u h qn;obtain⟨m,hm,_⟩:=h.loc;have g:G.heap.objs.size<C:=by rw[hC];exact SE _
 have Q:Inv X w I J M:=l.call' (s':=M) (ch:=fp) h.os h.base h.hok h.bare λb j=>⟨(u b j).2.2.2.1,(u b j).2.1,(u b j).2.2.2.2.1,(u b j).2.2.2.2.2⟩;have L:∀b o,G.heap.get? b=some o->b≠C:=λb o e=>Xf (TU (Xz e) g);have a:∀y c,X.env.cells.lookup y=some c->c≠C:=λy c e=>by
  obtain⟨_,o,Y,_⟩:=l.cell y c e;exact L c o Y
 have d:X.env.locals≠C:=Xf (TU l.lt g);refine wpAny_assign_Name (zdz Q hN B (.inl n) (v:=.ref G.heap.objs.size) rfl (λs5 O ⟨U,H,A⟩=>?_) (.inr n));have na:U≠C:=A.elim (λz=>by rw[z];exact d) (a _ _);exact⟨m,hm.sameBut H (Vq na),λh' sb=>⟨_,J,O.turned (t':=s5.toks) (it:=C) (λb o j e=>(sb.2 b j).trans e) h.free (Vq d) (.inr (X6 l.sz (TX g))) a λp hp=>L _ _ (l.pin p hp).1,qn⟩⟩
def zkP {g:List (Addr×Obj)}{s:X7}{x:Str}{a c:Pos}{D:Ends}(f:SJ (.ListComp elt [⟨tg,iter,ifs,0⟩] scope pos) (some (.Name x a)) c.line X.env=pure true)
  (h:Xe (Xg X.prog X.w) X.A (O5 (.ListComp elt [⟨tg,iter,ifs,0⟩] scope pos) scope X.env (firstIterPos [⟨tg,iter,ifs,0⟩] pos) (newList []) false (eval iter X.env) (some (assign (.Name x a) X.env))) (λ_ d=>∃ b e,Inv X g b e d/\D.nx b e) X.xe s):Xe (Xg X.prog X.w) X.A (exec (.Assign [.Name x a] (.ListComp elt [⟨tg,iter,ifs,0⟩] scope pos) c) X.env) (SP X g D) X.xe s:=by
 rw[exec_Assign_Name_used _ _ _ _ f];refine Y1 (RK (Y1 ?_));unfold evalThenUse;exact Y1 (Vk h (λ_ d ⟨b,e,i,j⟩=>XQ (XQ ⟨b,e,i,j⟩)) λ_ _ z=>z)
def zm7 {i:Nat}{x:Str}{b a:Pos}(l:X.N.Nodup)(e:X.N[i]?=some x)(f:X.env.scope.names.lookup x=some .local)(ok:yI X N src scope cl)(c:X.calm=true)(o:PI X tg iter wi)
  (n:∀C fp d s H,PG (jC X N scope cl C fp d s H) tg g) (m:∀C fp d s H,zbJ (jC X N scope cl C fp d s H) ifs tc) (he:∀C fp d s H,PE (jC X N scope cl C fp d s H) elt te)
  (p:∀x,VI iter X.env x=pure x:=by intro _;rfl) (j:SJ (.ListComp elt [⟨tg,iter,ifs,0⟩] scope pos) (some (.Name x b)) a.line X.env=pure true:=by rfl) :
  PS X (.Assign [.Name x b] (.ListComp elt [⟨tg,iter,ifs,0⟩] scope pos) a) (zky (zam wi src g tc te) (yS i)):=λ_ _ _ _ _ I h=>zkP j (zfr ok c o n m he p I h (zqV l e f))
end
def yI.byRfl {X:Cx}{N:AD}{d:List (Option Nat)}{a:UE}(l:a.kind=.function)(b:∀y∈a.names,y.2 ≠ .cell)(f:∀y∈a.names,y.2=.local->a.names.lookup y.1=some .local)
  (m:(a.names.all λy=>y.2 != .free || (X.env.cells.lookup y.1).isSome)=true) (len:d.length=N.length)
  (o:((N.zip d).all λq=>match q.2 with | none=>true | some j=>X.N[j]?==some q.1&&X.env.kindOf q.1==some .cell&&(UH a X.env).names.lookup q.1==some .cell)=true):yI X N d a (zap (λx=>X.env.cells.lookup x) a.names []):=by
 have g:∀y∈a.names,y.2=.free->(X.env.cells.lookup y.1).isSome=true:=λy n e=>by
  have z:=WK.mp m y n;rw[e]at z;simpa using z
 refine⟨l,b,f,YB g,λx c h=>?_,λx h=>?_,len,λi j x h1 h2=>?_⟩
 .rcases YO _ _ _ (Wx h) with z | z
  .cases z
  .exact z
 .refine Vh.mp (zfu _ _ (.inr ?_));have hm:(x,Tv)∈a.names\/(x,NameKind.free)∈a.names:=by
   rcases h with h | h
   .exact Zd (Wx h) (.inl rfl)
   .exact Zd (Wx h) (.inr rfl)
  rcases hm with hm | hm
  .exact absurd rfl (b _ hm)
  .exact⟨hm,g _ hm rfl⟩
 .have hm:(x,some j)∈N.zip d:=X8 (i:=i) (by rw[RU];exact⟨h1,h2⟩);have z:=WK.mp o _ hm;simp only[Wp,beq_iff_eq]at z;exact⟨z.1.1,.inl z.1.2,.inl z.2⟩
structure xH (X:Cx)(N:AD)(src:List (Option Nat))(scope:UE)(cl:List (Str×Addr))(y:Str):Prop where
 kind:scope.kind=.function
 one:∀n acc,Sb n scope.names acc=(y,n)::acc
 push:∀h,OG h scope.names=h.push { cls:=.type "cell",data:=.cell none }
 names:∀y∈scope.names,y.2=.local->scope.names.lookup y.1=some .local
 clos:OW scope X.env=pure cl
 sub:∀x c,cl.lookup x=some c->X.env.cells.lookup x=some c
 has:∀x,((UH scope X.env).names.lookup x=some .cell\/(UH scope X.env).names.lookup x=some .free)->x=y\/∃c,cl.lookup x=some c
 len:src.length=N.length
 pulls:∀(i j:Nat) (x:Str),N[i]?=some x->src[i]?=some (some j)->X.N[j]?=some x/\(X.env.kindOf x=some .cell\/X.env.kindOf x=some .free)/\((UH scope X.env).names.lookup x=some .cell\/(UH scope X.env).names.lookup x=some .free)
 pny:∀(i j:Nat) (x:Str),N[i]?=some x->src[i]?=some (some j)->x≠y
def xH.has1 {X:Cx}{N:AD}{b:List (Option Nat)}{a:UE}{d:List (Str×Addr)}{y:Str}{C:Addr}(ok:xH X N b a d y)(x:Str)(h:(UH a X.env).names.lookup x=some .cell\/(UH a X.env).names.lookup x=some .free):∃c,RP x ((y,C)::d)=some c:=by
 rw[SF];cases q:x==y with
 | true=>exact⟨_,rfl⟩
 | false =>
  rcases ok.has x h with z | z
  .rw[z]at q;simp at q
  .exact z
def xH.byRfl {X:Cx}{N:AD}{b:List (Option Nat)}{a:UE}{y:Str}(l:a.kind=.function)(one:∀n f,Sb n a.names f=(y,n)::f)(m:∀h,OG h a.names=h.push { cls:=.type "cell",data:=.cell none })
  (only:∀z∈a.names,z.2=.cell->z.1=y) (d:∀y∈a.names,y.2=.local->a.names.lookup y.1=some .local)
  (p:(a.names.all λy=>y.2 != .free || (X.env.cells.lookup y.1).isSome)=true) (len:b.length=N.length)
  (s:((N.zip b).all λq=>match q.2 with | none=>true | some j=>X.N[j]?==some q.1&&X.env.kindOf q.1==some .cell&&(UH a X.env).names.lookup q.1==some .cell&&q.1 != y)=true):xH X N b a (zap (λx=>X.env.cells.lookup x) a.names []) y:=by
 have g:∀y∈a.names,y.2=.free->(X.env.cells.lookup y.1).isSome=true:=λy r e=>by
  have z:=WK.mp p y r;rw[e]at z;simpa using z
 have o:∀(i j:Nat) (x:Str),N[i]?=some x->b[i]?=some (some j)->(X.N[j]?=some x/\X.env.kindOf x=some .cell/\(UH a X.env).names.lookup x=some .cell)/\x≠y:=λi j x h1 h2=>by
  have hm:(x,some j)∈N.zip b:=X8 (i:=i) (by rw[RU];exact⟨h1,h2⟩);have z:=WK.mp s _ hm;simp only[Wp,beq_iff_eq,bne_iff_ne]at z;exact⟨⟨z.1.1.1,z.1.1.2,z.1.2⟩,z.2⟩
 refine⟨l,one,m,d,YB g,λx c h=>?_,λx h=>?_,len,λi j x h1 h2=>⟨(o i j x h1 h2).1.1,.inl (o i j x h1 h2).1.2.1,.inl (o i j x h1 h2).1.2.2⟩,λi j x h1 h2=>(o i j x h1 h2).2⟩
 .rcases YO _ _ _ (Wx h) with z | z
  .cases z
  .exact z
 .have hm:(x,Tv)∈a.names\/(x,NameKind.free)∈a.names:=by
   rcases h with h | h
   .exact Zd (Wx h) (.inl rfl)
   .exact Zd (Wx h) (.inr rfl)
  rcases hm with hm | hm
  .exact .inl (only _ hm rfl)
  .exact .inr (Vh.mp (zfu _ _ (.inr ⟨hm,g _ hm rfl⟩)))
def yK (X:Cx)(N:AD)(a:UE)(c:List (Str×Addr))(y:Str)(C:Addr)(fp:List Addr)(b:List (Addr×Obj))(s:X7)(H:Hp):Cx :=
 { jC X N a ((y,C+1)::c) C fp b s H with fn:=λx=>decide (x=y) }
def zm8 {M:Model}{A:WO}{E:X9->X7->Prop}{s:X7}{a:UE}{b:Addr}{j:List (Str×Addr)}{c:Str}{e:Env}{y:Str}{Q:Env->X7->Prop}(one:∀n d,Sb n a.names d=(y,n)::d)(g:∀h,OG h a.names=h.push { cls:=.type "cell",data:=.cell none })
  (m:Q (newEnv a s.heap.objs.size b ((y,s.heap.objs.size+1)::j) c none .none (some e) OY) { s with heap:=(s.heap.push { cls:=.type "dict",data:=.dict #[] }).push { cls:=.type "cell",data:=.cell none } }) :
  Xe M A (newFunctionEnv a b j [] c none .none (some e)) Q E s:=by
 simp only[newFunctionEnv,Option.isSome_some,if_true];refine Y1 (wpAny_alloc ?_);refine Y1 (wpAny_layCells _ (λl f i=>by cases hkc:f==Tv<;>simp[hkc]) _ _ _ _ ?_);rw[g,one,show ({ s with heap:=s.heap.push { cls:=.type "dict",data:=.dict #[] } }:X7).heap.objs.size=s.heap.objs.size+1 from UZ ..];exact Y1 (XQ (XQ m))
section
variable {X:Cx}{tg iter elt:Expr}{ifs:List Expr}{scope:UE}{pos:Pos}{N:AD}{src:List (Option Nat)}{cl:List (Str×Addr)}{wi:TI}{g:TG}{tc:TT}{te:TE}{y:Str}
def zfz {B:List (Addr×Obj)}{L:St}{H:Hp}{s:X7}{fp:List Addr}{h1:Heap}{C:Addr}{tk:Nat}(ok:xH X N src scope cl y)(I:Inv X B L H s)(O:∀b∈fp,zai X B H b)(ho:∀b∈fp,∃o,s.heap.get? b=some o)
  (D:C=s.heap.objs.size+1) (k:∀b u,s.heap.get? b=some u->h1.get? b=some u) (hD:h1.get? s.heap.objs.size=some { cls:=.type "list",data:=.seq #[] }) {m:Str->Option X9} (hn:h1.Ns C m) (aa:h1.IsCell (C+1) none) :
  Inv (yK X N scope cl y C fp B s H) [] (pull src L) (upd H s.heap.objs.size (.lst [])) { s with heap:=h1,toks:=tk }:=by
 have lt:∀b o,s.heap.get? b=some o->b<s.heap.objs.size:=λb o e=>Xz e;have nC:∀b o,s.heap.get? b=some o->b≠C:=λb o e=>by rw[D];exact Xf (Wm (lt b o e))
 have nD:∀b o,s.heap.get? b=some o->b≠s.heap.objs.size:=λb o e=>Xf (lt b o e);have Y:∀b,s.heap.objs.size<=b->H b=none:=λb h=>I.hok.fresh h;have J:∀b,b≠X.env.locals->b ∉ X.fs->b ∉ frs X.stack:=λb h1 h2 z=>(XI.mp (I.stkSub b z)).elim h1 h2;have G:∀b o,s.heap.get? b=some o->b≠C+1:=λb o e=>by rw[D];exact Xf (Wm (Wm (lt b o e)))
 have own:∀x c,RP x ((y,C+1)::cl)=some c->(x=y/\c=C+1)\/(x≠y/\X.env.cells.lookup x=some c):=λx c e=>by
  rw[SF]at e;cases q:x==y with
  | true =>
   rw[q]at e;exact .inl ⟨by simpa using q,(Option.some.inj e).symm⟩
  | false =>
   rw[q]at e;exact .inr ⟨by simpa using q,ok.sub x c e⟩
 have n:∀x c,X.env.cells.lookup x=some c->c≠C+1:=λx c e=>by
  obtain⟨_,o,f,_⟩:=I.cell x c e;exact G c o f
 refine⟨⟨I.ok.mod,ok.kind,I.ok.glob,I.ok.blt,by rw[show (yK X N scope cl y C fp B s H).env.locals=C from rfl,D];exact VM _,?inj,ok.has1,?cab,I.ok.hd,I.ok.frames,.inl rfl,λb h=>?_,I.bs,X6 I.ok.bsz I.sz,λb o e h=>?_,λb h hz=>?_,I.stack,I.stkFree⟩,rfl,I.bare,Un.laid k (XT _) (Y _ (XT _)),⟨m,hn,λi x v f d e3=>?_⟩,λx c e=>?_,?_,λx c e=>?_,λp hp=>?_,I.hok.laid k (XT _) ⟨W1 _,[],0,.nil,hD⟩,?_⟩
 case inj =>
  intro x Q c f d
  rcases own x c f with ⟨w,a⟩ | ⟨w,a⟩
  .rcases own Q c d with ⟨M,A⟩ | ⟨M,A⟩
   .rw[w,M]
   .exact absurd a (n Q c A)
  .rcases own Q c d with ⟨M,A⟩ | ⟨M,A⟩
   .exact absurd A (n x c a)
   .exact I.ok.inj x Q c a A
 case cab =>
  intro x c z e
  have zy:x=y:=bg z
  rcases own x c e with ⟨_,a⟩ | ⟨w,_⟩
  .rw[a,D];exact Uc (VM _)
  .exact absurd zy w
 .obtain⟨o,e⟩:=ho b h;refine⟨nC b o e,λx c z=>?_⟩;rcases own x c z with ⟨_,a⟩ | ⟨_,a⟩
  .rw[a];exact Vq (G b o e)
  .exact(O b h).2.2.2.2.1 x c a
 .rcases(O b h).2.2.2.1 with z | z
  .exact I.ok.noex b o e z
  .exact absurd (Xi (Xz (I.ok.bs b o e).1) z) (VG _)
 .exact J b (O b h).2.1 (O b h).2.2.1 hz
 .have hi:i<src.length:=by
   have:=(XX.mp d).1;unfold pull at this;rw[ZB]at this;exact this
  unfold pull at d;rw[XB,XY hi]at d;cases q:src[i] with
  | none=>rw[q]at d;cases d
  | some j =>
   rw[q]at d;have g:(L[j]?).getD none=some v:=Option.some.inj d;have U:L[j]?=some (some v):=by
    cases z:L[j]? with
    | none=>rw[z]at g;cases g
    | some o=>rw[z]at g;exact congrArg some g
   obtain⟨p1,p2,p3⟩:=ok.pulls i j x f (by rw[XY hi,q]);obtain⟨m',af,hl⟩:=I.loc;obtain⟨u,r,l⟩:=hl j x v p1 U (by
    rcases p2 with z | z
    .exact .inr (.inl z)
    .exact .inr (.inr z))
   refine⟨u,r,.inr ⟨p3,?_⟩⟩;obtain⟨c,hc⟩:=ok.has1 x p3;refine⟨c,hc,?_⟩;rcases l with ⟨z,_⟩ | ⟨_,c',E,o,ac,ab⟩
   .rcases p2 with y | y<;>rw[z]at y<;>cases y
   .rcases own x c hc with ⟨w,_⟩ | ⟨_,a⟩
    .exact absurd w (ok.pny i j x f (by rw[XY hi,q]))
    .rw[a]at E;cases E;exact⟨o,k _ o ac,ab⟩
 .rcases own x c e with ⟨_,a⟩ | ⟨_,a⟩
  .rw[a];exact⟨_,aa⟩
  .obtain⟨v,o,f,d⟩:=I.cell x c a;exact⟨v,o,k c o f,d⟩
 .show upd H s.heap.objs.size (.lst []) C=none;rw[D,zj (U3 _)];exact Y _ (VM _)
 .show upd H s.heap.objs.size (.lst []) c=none;rcases own x c e with ⟨_,a⟩ | ⟨_,a⟩
  .rw[a,D,zj (TW (Wm (SE _)))];exact Y _ (Uc (VM _))
  .obtain⟨v,o,f,d⟩:=I.cell x c a;rw[zj (nD c o f)];exact I.jo x c a
 .have ae:p∈X.pn++B:=by
   have:p∈(X.pn++B)++[]:=hp;simpa using this
  refine eY (λf d e3 U e5=>?_) (I.pin p ae);refine⟨k _ _ f,?_,nC _ _ f,J _ e3 U,e5⟩;show upd H s.heap.objs.size (.lst []) p.1=none;rw[zj (nD _ _ f)];exact d
 .unfold pull;rw[ZB];exact ok.len
section
variable {bz:List (Addr×Obj)}{σ:St}{H:Hp}{s:X7}{use:Option (X9->Sem Unit)}{R:X9->X7->Prop}{Q:VK}{p2:Pos}
def zjt (ok:xH X N src scope cl y)(a:X.calm=true)(v:PI X tg iter wi)
  (r:∀C fp bz s H,PG (yK X N scope cl y C fp bz s H) tg g) (p:∀C fp bz s H,zbJ (yK X N scope cl y C fp bz s H) ifs tc) (he:∀C fp bz s H,PE (yK X N scope cl y C fp bz s H) elt te)
  (D:∀x,VI iter X.env x=pure x) (I:Inv X bz σ H s) (h:zam wi src g tc te σ H Q) (i:zm1 X N scope bz σ use R Q):Xe (Xg X.prog X.w) X.A (O5 (.ListComp elt [⟨tg,iter,ifs,0⟩] scope pos) scope X.env p2 (newList []) false (eval iter X.env) use) R X.xe s:=by
 refine RF (use:=use) rfl D ok.clos ok.kind ok.names (thn (v bz s σ H _ I h) λY s1 h1=>thn h1 λE l h2=>?_);revert h2;refine fJ λO fp U J M e d T m f G=>?_;subst e;refine VJ (zm8 ok.one ok.push ?_);generalize hP:l.heap.push { cls:=.type "list",dict:=none,data:=.seq ([]:List X9).toArray }=P2;have j:P2.objs.size=l.heap.objs.size+1:=by rw[<- hP,UZ]
 have n:(P2.push { cls:=.type "dict",data:=.dict #[] }).objs.size=P2.objs.size+1:=UZ ..;refine zfq j a (λz=>z.elim) (r _ _ _ _ _) (p _ _ _ _ _) (he _ _ _ _ _) d T m f (G _ (d.hok.fresh (XT _))) (λb u e=>?_) (λx c z=>?_) (λB=>zfz (tk:=l.toks) ok d f B j (λb u e=>?_) ?_ ((Heap.Ns.new P2 _).push _) ?_) λ_ _ _ _ o L=>i j d f o L
 .exact XW _ (XW _ (hP ▸ XW _ e))
 .show _\/P2.objs.size<=c;have z:RP x ((y,P2.objs.size+1)::cl)=some c:=z;rw[SF]at z;cases q:x==y with
  | true =>
   rw[q]at z;rw[<- Option.some.inj z];exact .inr (VM _)
  | false =>
   rw[q]at z;exact .inl (ok.sub x c z)
 .exact XW _ (XW _ (hP ▸ XW _ e))
 .exact XW _ (XW _ (hP ▸ W4 _ rfl))
 .rw[<- n];exact⟨_,W4 _ rfl,rfl⟩
end
def zkQ (ok:xH X N src scope cl y)(a:X.calm=true)(e:PI X tg iter wi)
  (d:∀C fp b s H,PG (yK X N scope cl y C fp b s H) tg g) (c:∀C fp b s H,zbJ (yK X N scope cl y C fp b s H) ifs tc) (he:∀C fp b s H,PE (yK X N scope cl y C fp b s H) elt te)
  (f:∀x,VI iter X.env x=pure x:=by intro _;rfl):PE X (.ListComp elt [⟨tg,iter,ifs,0⟩] scope pos) (zam wi src g tc te):=λ_ _ _ _ _ I h=>zjt ok a e d c he f I h zop
end
section
variable {X:Cx}{K:XS}
def zdI (a:X.K=K)(b:X.calm=true):jk X (.builtin "any") (λxs H Q=>∃(l:Addr) (bs:List Bool),xs=[.ref l]/\SqL K H l (bs.map V.bl)/\Q (.bl (bs.any id)) H):=by
 subst a;exact zce b
def zaq {c l:Expr}{tl:TE}(a:X.K=K)(b:PE X l tl):PI X c l (zkB K tl):=by
 subst a;exact zw b
end
def EF:XK:=λ_ _ _=>False
def zqW {X:Cx}:Passes (CXE X.prog X.w) X EF:=by
 intro d g H s x f I h;obtain⟨e,C,c,B,b,rfl,F,a⟩:=h;exact a.elim
theorem zdJ:∀{b:AD} {a:List X9},Vals (b.map V.str) a->StrsAre a b
 | [],_,.nil=>.nil
 | t::_,_,.cons ⟨k,e⟩ h=>by
  subst e;exact .cons t k (zdJ h)
section
variable {X:Cx}
def rJoin (K:XS):V->AE->Hp->VK->Prop:=λx b H Q=>∃(z:Str) (l:Addr) (a:AD),x=.str z/\b=[.ref l]/\SqL K H l (a.map V.str)/\(a.map (·.length)).sum+a.length*z.length<=16777216/\Q (.str (Rz z a)) H
def zm9:MtR X "str.join" (rJoin X.K):=by
 intro j s y H x w v o Q I g f h;revert h;refine e7 λz l a z0 z1 d b q=>?_;subst z0 z1;obtain⟨n,rfl⟩:=g;obtain⟨u,rfl,r⟩:=f.one;cases r;obtain⟨e,c,p,m⟩:=I.list d;refine join_list (ys:=a) p.isList (by simpa using zdJ c) b λi k=>⟨.str (Rz z a),H,I.tok k,⟨i,?_⟩,q⟩;rw[show Txt.join z a=Rz z a from StrLaws.glued_eq_join z a]
end
def zg7 {α:Type}(d:α)(xs:List α):((WC xs.length).map λi=>xs.getD i d)=xs:=by
 refine List.ext_getElem (by simp) λi h1 h2=>?_;simp[h2]
def zig (p:Int×Int):lt2 p p=false:=by
 unfold lt2;rw[bw rfl,bf (by lia)]
def zbV {p q:Int×Int}(h:p≠q):lt2 q p=!lt2 p q:=by
 unfold lt2;obtain⟨a,b⟩:=p;obtain⟨c,d⟩:=q;simp only;by_cases e:a=c
 .subst e;rw[bw rfl,bw rfl];have f:b≠d:=λz=>h (by rw[z]);by_cases l:b<d
  .rw[br l,bf (by lia)];rfl
  .rw[bf l,br (by lia)];rfl
 .rw[bq e,bq (λz=>e z.symm)];by_cases l:a<c
  .rw[br l,bf (by lia)];rfl
  .rw[bf l,br (by lia)];rfl
def zg8 {p q r:Int×Int}(h1:lt2 p q=true)(h2:lt2 q r=true):lt2 p r=true:=by
 unfold lt2 at *
 obtain⟨a,b⟩:=p;obtain⟨c,d⟩:=q;obtain⟨e,f⟩:=r;simp only at *
 by_cases h:a=c
 .subst h;rw[bw rfl,bu]at h1;by_cases g:a=e
  .subst g;rw[bw rfl,bu]at h2 ⊢;lia
  .rw[bq g]at h2 ⊢;exact h2
 .rw[bq h,bu]at h1;by_cases g:c=e
  .subst g;rw[bq h,bu];exact h1
  .rw[bq g,bu]at h2;rw[bq (by lia),bu];lia
def Up2 (ps:List (Int×Int)):Prop:=ps.Pairwise λp q=>lt2 p q=true
end L2
namespace PySem.SeqAt
open L2 AutoSeq1 MeetsSeq MeetsSeq2 MeetsSeq3
def QW (A:WO)(s:X7)(y x:X9)(b:Bool):Prop:=∀(a:Xh) (w:W2) (E:X9->X7->Prop) (Q:X9->X7->Prop),Q (.bool b) s->Xe (Xg a w) A (richCompare .Lt y x) Q E s
def QW.int_int {A:WO}{s:X7}(a:Int)(t:Tok)(b:Int)(u:Tok):QW A s (.int a t) (.int b u) (decide (a<b)):=λc w E Q h=>wpAny_lt_int h
def zg9 (l b:Addr)(x y f c:Int)(t u m o:Tok)(n z:Nat)(dd g:Option Addr)(D j:Array (Option X9)) :
  Meets (UP.«tuple.__lt__» ⟨[.ref l,.ref b],[]⟩)
   (λ_ R s=>s.heap.get? l=some { cls:=.type "tuple",dict:=dd,data:=.seq #[.int x t,.int y u] n,slots:=D }/\s.heap.get? b=some { cls:=.type "tuple",dict:=g,data:=.seq #[.int f m,.int c o] z,slots:=j } /\
    R (.ok (.ret (.bool (lt2 (x,y) (f,c))))) s) :=
 .of_wp λa w A R s h=>by
  obtain⟨v,g1,G,E,B⟩:=s;obtain⟨r,q,h⟩:=h;have H:=sub_tuple_tuple;wp_walk using V8 r,V8 q;refine EqAt.int_int x t f m a w _ _ ?_;unfold lt2 at h;by_cases e:x=f
  .have i:(x==f)=true:=by simpa using e
   rw[i];rw[bw e]at h;wp_walk;refine EqAt.int_int y u c o a w _ _ ?_;by_cases p:y=c
   .have d:(y==c)=true:=by simpa using p
    rw[d];rw[bf (by show ¬ y<c;lia)]at h;wp_walk;exact⟨_,rfl,h⟩
   .have d:(y==c)=false:=by simpa using p
    rw[d];simp only[Bool.not_false,if_true];refine Y1 (Vd (Y1 (QW.int_int y u c o a w _ _ ?_)));wp_walk;exact⟨_,rfl,h⟩
  .have i:(x==f)=false:=by simpa using e
   rw[i];rw[bq e]at h;simp only[Bool.not_false,if_true];refine Y1 (Vd (Y1 (QW.int_int x t f m a w _ _ ?_)));wp_walk;exact⟨_,rfl,h⟩
def QW.pairs {A:WO}{s:X7}{v r:X9}{p q:Int×Int}(G:zz s.heap v p)(f:zz s.heap r q)(D:A.units<Vz):QW A s v r (lt2 p q):=λo w E Q h=>by
 obtain⟨a,⟨z,B,l,I⟩,n,t,u,rfl,m,c1,j⟩:=G;obtain⟨y,⟨i,e,data2,g⟩,H,J,L,rfl,d,b,c⟩:=f;simp only at c1 j b c;subst c1 j b c;exact richCompare_meets_room (op:=.Lt) ⟨_,m,rfl⟩ ⟨_,d,rfl⟩ F.slot_tuple_lt F.entry_tuple_lt (F.args_tuple_lt_2 _ _) (zg9 a y p.1 p.2 q.1 q.2 t u J L n H B e I g)
  ⟨m,d,show Value.bool (lt2 p q)≠Value.notImplemented/\Q (.bool (lt2 p q)) s from ⟨(λx=>nomatch x),h⟩⟩ D
def QI {h:Heap}{v:X9}{p:Int×Int}(d:zz h v p):∃as,Reads h v (.tuple [.int p.1,.int p.2]) as:=by
 obtain⟨a,o,n,t,u,rfl,c,c1,b⟩:=d;exact⟨_,.tuple c c1 b (.cons (.int _ _) (.cons (.int _ _) .nil))⟩
def zju (p q:Int×Int):WW (.tuple [.int p.1,.int p.2]) (.tuple [.int q.1,.int q.2])=decide (p=q):=by
 obtain⟨a,b⟩:=p;obtain⟨c,d⟩:=q;show ((a==c)&&((b==d)&&true))=_;by_cases h1:a=c
 .by_cases h2:b=d
  .subst h1 h2;simp
  .simp[h2]
 .simp[h1]
end PySem.SeqAt
namespace L2
open PySem PySem.Spec PyProof.Rows PySem.W PySem.SeqAt
open PySem PySem.Spec PyProof.Rows
section
variable {κ:Type} [DecidableEq κ]
def jb (kvs:List (κ × V))(k:κ):Option V:=(kvs.find? λa=>decide (a.1=k)).map (·.2)
def putK (kvs:List (κ × V))(k:κ)(v:V):List (κ × V) :=
 if (kvs.any λa=>decide (a.1=k))=true then kvs.map (λa=>if a.1=k then (a.1,v) else a) else kvs++[(k,v)]
def jG {p:κ × V}{r:List (κ × V)}{k:κ}(e:p.1=k):jb (p::r) k=some p.2:=by simp[jb,Uk,e]
def jH {p:κ × V}{r:List (κ × V)}{k:κ}(e:¬ p.1=k):jb (p::r) k=jb r k:=by simp[jb,Uk,e]
theorem zar (k:κ):∀kvs:List (κ × V),(kvs.any λa=>decide (a.1=k))=(jb kvs k).isSome
 | []=>rfl
 | p::r=>by
  rw[SA];by_cases e:p.1=k
  .simp only[jG e,br e,Bool.true_or,Option.isSome_some]
  .rw[jH e,bf e,Bool.false_or];exact zar k r
theorem zfA (k j:κ)(y:V):∀kvs:List (κ × V),jb (kvs.map λa=>if a.1=k then (a.1,y) else a) j=(jb kvs j).map λx=>if j=k then y else x
 | []=>rfl
 | p::r=>by
  have b:=zfA k j y r;rw[XD];by_cases h:p.1=k
  .rw[bw h];by_cases e:p.1=j
   .rw[jG (p:=(p.1,y)) e,jG e,Uj,bw (e.symm.trans h)]
   .rw[jH (p:=(p.1,y)) e,jH e,b]
  .rw[bq h];by_cases e:p.1=j
   .rw[jG (p:=p) e,jG e,Uj,bq (λz=>h (e.trans z))]
   .rw[jH (p:=p) e,jH e,b]
theorem zdK (k j:κ)(y:V):∀kvs:List (κ × V),jb kvs k=none->jb (kvs++[(k,y)]) j=if j=k then some y else jb kvs j
 | [],_=>by
  by_cases e:k=j
  .rw[bw e.symm];exact jG (p:=(k,y)) e
  .rw[bq (λz=>e z.symm)];exact jH (p:=(k,y)) e
 | p::r,a=>by
  rw[Rv];have hk:¬ p.1=k:=λz=>by rw[jG z]at a;cases a
  rw[jH hk]at a;have b:=zdK k j y r a;by_cases e:p.1=j
  .rw[jG e,jG e,bq (λz=>hk (e.trans z))]
  .rw[jH e,jH e,b]
def zcf (kvs:List (κ × V))(k j:κ)(y:V):jb (putK kvs k y) j=if j=k then some y else jb kvs j:=by
 unfold putK;by_cases a:(kvs.any λc=>decide (c.1=k))=true
 .rw[bw a,zfA];rw[zar]at a;by_cases e:j=k
  .obtain⟨x,b⟩:=Vh.mp a;rw[bw e,e,b,Uj,bw rfl]
  .rw[bq e];cases jb kvs j with
   | none=>rfl
   | some x=>rw[Uj,bq e]
 .rw[bq a];refine zdK k j y kvs ?_;rw[zar]at a;cases q:jb kvs k with
  | none=>rfl
  | some x=>rw[q]at a;exact(a rfl).elim
def yr (kvs:List (κ × V))(k:κ)(v:V):(putK kvs k v).length<=kvs.length+1:=by
 unfold putK;split
 .rw[ZB];lia
 .rw[X4,Xo,VN];lia
def zfe.isSome_eq {o:Option V}{u:Option X9}(r:zfe o u):o.isSome=u.isSome:=by
 cases o with
 | none=>cases u with
  | none=>rfl
  | some _=>exact(show False from r).elim
 | some _=>cases u with
  | none=>exact(show False from r).elim
  | some _=>rfl
theorem zfe.getD {o:Option V}{u:Option X9}{d:V}{d':X9}(r:zfe o u)(a:RelV d d'):RelV (o.getD d) (u.getD d'):=by
 cases o with
 | none=>cases u with
  | none=>exact a
  | some _=>exact(show False from r).elim
 | some _=>cases u with
  | none=>exact(show False from r).elim
  | some _=>exact r
def KV.val {kvs:List (κ × V)}{vs:List (κ × X9)}(r:KV kvs vs)(k:κ):zfe (jb kvs k) (OO vs k):=by
 unfold KV at r;induction r with
 | nil=>exact SH
 | @cons p q f c h t d =>
  obtain⟨h1,h2⟩:=h;by_cases e:p.1=k
  .have a:q.1=k:=h1.symm.trans e;have b:OO (q::c) k=some q.2:=by simp[OO,Uk,a]
   rw[jG e,b];exact h2
  .have a:¬ q.1=k:=λz=>e (h1.trans z);have b:OO (q::c) k=OO c k:=by simp[OO,Uk,a]
   rw[jH e,b];exact d
theorem KV.any {kvs:List (κ × V)}{vs:List (κ × X9)}(r:KV kvs vs)(k:κ):(kvs.any λa=>decide (a.1=k))=vs.any λa=>decide (a.1=k):=by
 unfold KV at r;induction r with
 | nil=>rfl
 | cons h t b=>rw[SA,SA,b,h.1]
def KV.repl {kvs:List (κ × V)}{vs:List (κ × X9)}(r:KV kvs vs)(k:κ){y:V}{u:X9}(c:RelV y u) :
  KV (kvs.map λa=>if a.1=k then (a.1,y) else a) (vs.map λa=>if a.1=k then (a.1,u) else a):=by
 unfold KV at r ⊢;induction r with
 | nil=>exact .nil
 | @cons p q d f h t b =>
  rw[XD,XD];refine .cons ?_ b;obtain⟨h1,h2⟩:=h;by_cases e:p.1=k
  .rw[bw e,bw (h1.symm.trans e)];exact⟨h1,c⟩
  .rw[bq e,bq (λz=>e (h1.trans z))];exact⟨h1,h2⟩
def KV.put {kvs:List (κ × V)}{vs:List (κ × X9)}(r:KV kvs vs)(k:κ){y:V}{u:X9}(a:RelV y u):KV (putK kvs k y) (stored vs k u):=by
 unfold putK stored;rw[r.any k];by_cases e:(vs.any λb=>decide (b.1=k))=true
 .rw[bw e,bw e];exact r.repl k a
 .rw[bq e,bq e];exact Paired.snoc r ⟨rfl,a⟩
theorem KV.length {kvs:List (κ × V)}{vs:List (κ × X9)}(r:KV kvs vs):kvs.length=vs.length:=Paired.length r
end
def zfB {P:Xh}{w:W2}{k:Key}{u:X9}(r:RelV (kV k) u):(zZ P w).is k u=true:=by
 cases k with
 | inl i=>obtain⟨t,e⟩:=(show ∃t,u=Vm i t from r);subst e;exact zfc P w i t
 | inr x=>obtain⟨t,e⟩:=(show ∃t,u=Value.str x t from r);subst e;exact zfd P w x t
theorem zdL {P:Xh}{w:W2}:∀{ks:List Key} {a:List X9},Vals (ks.map kV) a->ItemsAre (zZ P w) ks a
 | [],_,r=>by rw[TV]at r;cases r;exact .nil
 | k::ks,_,r=>by
  rw[XD]at r;cases r with
  | cons h t=>exact .cons (zfB h) (zdL t)
abbrev KT (H:Hp):List (List Key×V)->List (List Key×Addr×X9)->Prop:=Xy λp q=>p.1=q.1/\H q.2.1=some (.tup (p.1.map kV))/\RelV p.2 q.2.2
def KT.val {H:Hp}{kvs:List (List Key×V)}{xs:List (List Key×Addr×X9)}(r:KT H kvs xs)(k:List Key):zfe (jb kvs k) ((OQ xs k).map (·.2)):=by
 induction r with
 | nil=>exact SH
 | @cons p q f c h t d =>
  obtain⟨h1,_,h2⟩:=h;by_cases e:p.1=k
  .have a:q.1=k:=h1.symm.trans e;have b:OQ (q::c) k=some q.2:=by simp[OQ,Uk,a]
   rw[jG e,b];exact h2
  .have a:¬ q.1=k:=λz=>e (h1.trans z);have b:OQ (q::c) k=OQ c k:=by simp[OQ,Uk,a]
   rw[jH e,b];exact d
def KT.repl {H:Hp}{kvs:List (List Key×V)}{xs:List (List Key×Addr×X9)}(r:KT H kvs xs)(k:List Key){y:V}{u:X9}(d:RelV y u) :
  KT H (kvs.map λa=>if a.1=k then (a.1,y) else a) (xs.map (putAt k u)):=by
 induction r with
 | nil=>exact .nil
 | @cons p q f g h t c =>
  rw[XD,XD];refine .cons ?_ c;obtain⟨h1,h2,b⟩:=h;unfold putAt;by_cases e:p.1=k
  .rw[bw e,bw (h1.symm.trans e)];exact⟨h1,h2,d⟩
  .rw[bq e,bq (λz=>e (h1.trans z))];exact⟨h1,h2,b⟩
def KT.put {H:Hp}{kvs:List (List Key×V)}{xs:List (List Key×Addr×X9)}(r:KT H kvs xs)(k:List Key){b:Addr}{y:V}{u:X9}(c:H b=some (.tup (k.map kV)))(a:RelV y u) :
  KT H (putK kvs k y) (UG xs k b u):=by
 have e:(kvs.any λd=>decide (d.1=k))=(OQ xs k).isSome:=by
  rw[zar,(r.val k).isSome_eq,Option.isSome_map]
 unfold putK UG;rw[e];by_cases q:(OQ xs k).isSome=true
 .rw[bw q,bw q];exact r.repl k a
 .rw[bq q,bq q];exact Paired.snoc r ⟨rfl,c,a⟩
def KT.keeps {H a:Hp}{kvs:List (List Key×V)}{xs:List (List Key×Addr×X9)}(r:KT H kvs xs)(c:∀b ys,H b=some (.tup ys)->a b=some (.tup ys)):KT a kvs xs :=
 Paired.mapP r λ_ _ z=>⟨z.1,c _ _ z.2.1,z.2.2⟩
section
variable {P:Xh}{w:W2}{H:Hp}{h:Heap}{a:Addr}
def zot {u:HO}(ok:HOk P w H h)(e:Rd H a u):jy P w H h a u:=e.ok ok
def zih {kvs:List (Key×V)}(ok:HOk P w H h)(e:Rd H a (.dK kvs)):kvs.length<=Xv/\(a==Vl)=false/\∃vs,KV kvs vs/\h.DictOf (zZ P w) a vs :=
 show jy P w H h a (.dK kvs) from zot ok e
def zou {kvs:List (Key×V)}(ok:HOk P w H h)(e:H a=some (.dK kvs)):kvs.length<=Xv/\(a==Vl)=false/\∃vs,KV kvs vs/\h.DictOf (zZ P w) a vs:=zih ok (.inl e)
def zcg {ks:List Key}(ok:HOk P w H h)(e:H a=some (.tup (ks.map kV))):(VR (zZ P w)).is h ks a:=by
 refine eV (λ_=>d9 λb r=>eS λo h1 h2=>fM λn c=>?_) (show jy P w H h a (.tup (ks.map kV)) from ok a _ e);exact⟨o,b.toArray,n,h1,h2,c,by simpa using zdL r⟩
def zii {kvs:List (List Key×V)}(ok:HOk P w H h)(e:Rd H a (.dT kvs)):kvs.length<=Xv/\(a==Vl)=false /\
  ∃xs,KT H kvs xs/\h.DictOfH (VR (zZ P w)) a xs:=by
 refine e8 (λz y xs r=>e7 λo d c h1 h2 f g i=>?_) (show jy P w H h a (.dT kvs) from zot ok e);refine cH z y (cW xs r (cN o d (dg c h1 h2 f g (λx hx=>?_) i)));have all:∀{l:List (List Key×V)} {m:List (List Key×Addr×X9)},KT H l m->∀x∈m,(VR (zZ P w)).is h x.1 x.2.1:=by
  intro l m q;induction q with
  | nil=>intro x hx;exact nomatch hx
  | @cons p q n s b t j =>
   intro x hx;rcases XI.mp hx with e | hx
   .subst e;exact zcg ok (by rw[<- b.1];exact b.2.1)
   .exact j x hx
 exact all r x hx
def zkR {kvs:List (List Key×V)}(ok:HOk P w H h)(e:H a=some (.dT kvs)):kvs.length<=Xv/\(a==Vl)=false /\
  ∃xs,KT H kvs xs/\h.DictOfH (VR (zZ P w)) a xs:=zii ok (.inl e)
end
def zbK (H:Hp)(a:Addr)(y:V)(r:Option V):Prop :=
 (∃c k,Rd H a (.dK c)/\y=kV k/\r=jb c k)\/∃c k b,Rd H a (.dT c)/\y=.ref b/\H b=some (.tup (k.map kV))/\r=jb c k
def zkS (H:Hp)(a:Addr)(y v:V)(d:Hp):Prop :=
 (∃c k,H a=some (.dK c)/\y=kV k/\c.length<Xv/\d=upd H a (.dK (putK c k v))) \/
 ∃c k b,H a=some (.dT c)/\y=.ref b/\H b=some (.tup (k.map kV))/\c.length<Xv/\d=upd H a (.dT (putK c k v))
theorem zbK.k {H:Hp}{a:Addr}{kvs:List (Key×V)}{k:Key}(e:H a=some (.dK kvs)):zbK H a (kV k) (jb kvs k):=.inl ⟨kvs,k,.inl e,rfl,rfl⟩
def zbK.t {H:Hp}{a b:Addr}{kvs:List (List Key×V)}{k:List Key}(e:H a=some (.dT kvs))(c:H b=some (.tup (k.map kV))):zbK H a (.ref b) (jb kvs k):=.inr ⟨kvs,k,b,.inl e,rfl,c,rfl⟩
def zkS.t {H:Hp}{a b:Addr}{kvs:List (List Key×V)}{k:List Key}{v:V}(e:H a=some (.dT kvs))(c:H b=some (.tup (k.map kV)))(d:kvs.length<Xv) :
  zkS H a (.ref b) v (upd H a (.dT (putK kvs k v))):=.inr (dI kvs k b e rfl c d rfl)
section
variable {X:Cx}{bz:List (Addr×Obj)}{σ:St}{H:Hp}{s:X7}{a:Addr}{y v:V}{u r:X9}{o:Option V}{A:WO}{E:X9->X7->Prop}
def Inv.big (I:Inv X bz σ H s):Vl<s.heap.objs.size:=by
 have h:Xx<s.heap.objs.size:=(I.mod.glob.keeps I.bk).lt;exact TU (by decide) h
def zna {Q:X9->X7->Prop}(p:A.units+1<Vz)(I:Inv X bz σ H s)(g:zbK H a y o)(m:RelV y u)(h:∀s',Inv X bz σ H s'->Q (.bool (!o.isSome)) s') :
  Xe (Xg X.prog X.w) A (Wg .NotIn u (.ref a)) Q E s:=by
 rcases g with ⟨j,k,e,f,l⟩ | ⟨j,k,b,e,f,n,l⟩
 .subst f;obtain⟨z,i,r,c,d⟩:=zih I.hok e;refine wpAny_notIn_of (zfB m) i d.mapOf ?_;rw[<- (c.val k).isSome_eq,<- l];exact h _ (I.tok _)
 .subst f;cases (show u=WA b from m);refine e8 (λz i v c d=>?_) (zii I.hok e);refine wpAny_notIn_heap (R4 p) (zcg I.hok n) i d ?_;have q:=(c.val k).isSome_eq;rw[Option.isSome_map]at q;rw[<- q,<- l];exact h _ (I.tok _)
def zbW {h':Heap}{t':Nat}{ob:HO}(I:Inv X bz σ H s)(g:Mut (H a))(f:V1 a s.heap h')(he:∃q,h'.get? a=some q)(c:jy X.prog X.w (upd H a ob) h' a ob) :
  Inv X bz σ (upd H a ob) { s with heap:=h',toks:=t' } :=
 I.write (x:=a) (e:=a) g (.inl rfl) (λb q d z=>(f.2 b d).trans z) he c
def zkT {P:Xh}{w:W2}{c:Hp}{h':Heap}{kvs:List (Key×V)}{vs:List (Key×X9)}(z:kvs.length<=Xv)(d:(a==Vl)=false)(b:KV kvs vs)(dd:h'.DictOf (zZ P w) a vs) :
  jy P w c h' a (.dK kvs):=⟨z,d,vs,b,dd⟩
def zjv {G:Hp}{Q:Unit->X7->Prop}(hu:A.units+1<Vz)(I:Inv X bz σ H s)(g:zkS H a y v G)(O:RelV y u)(N:RelV v r)(h:∀s',Inv X bz σ G s'->Q () s') :
  Xe (Xg X.prog X.w) A (setItem (.ref a) u r) Q E s:=by
 rcases g with ⟨d,k,e,o,l,n⟩ | ⟨d,k,b,e,o,J,l,n⟩
 .subst o n;obtain⟨z,p,vs,f,m⟩:=zou I.hok e;have D:vs.length<=Xv:=by rw[<- f.length];exact z
  have x:(putK d k v).length<=Xv:=by have:=yr d k v;lia
  refine wpAny_setItem_pairs (hsz:=D) (zfB O) m λM i B=>h _ ?_;have he:∃q,M.get? a=some q:=let ⟨q,_,_,j,_⟩:=i;⟨q,j⟩
  exact zbW I (by rw[e];exact SH) B he (zkT x p (f.put k N) i)
 .subst o n;cases (show u=WA b from O);refine e8 (λz p xs f m=>?_) (zkR I.hok e);have D:xs.length<=Xv:=by rw[<- Paired.length f];exact z
  have x:(putK d k v).length<=Xv:=by have:=yr d k v;lia
  refine wpAny_setItem_heap (hsz:=D) (R4 hu) (zcg I.hok J) m λM i B=>h _ ?_;revert i;refine fk λq Y U j h2 h3 h4 _ h5=>?_;refine zbW I (by rw[e];exact SH) B ⟨q,j⟩ (cH x p (cG ((f.put k J N).keeps λc ys L=>?_) (dI q Y U j h2 h3 h4 h5)));rw[zj (zdy L e (λz=>nomatch z))];exact L
end
def znb (ty e:TE):TE:=fun c H Q=>ty c H λy d=>e c d λx b=>∃a o,x=.ref a/\zbK b a y o/\Q (.bl (!o.isSome)) b
def zqX (g ty h:TE):TS:=λD b H=>h b H λv d=>g b d λx e=>ty b e λy f=>∃a c,x=.ref a/\zkS f a y v c/\D.nx b c
section
variable {X:Cx}{o i e value:Expr}{pos pos' tpos:Pos}{td ty tv:TE}
def zjw (q:X.A.units+1<Vz)(n:PE X i ty)(p:PE X o td):PC X .NotIn i o (znb ty td):=by
 intro b s c H Q I h;refine thn (n b s c H _ I h) λD s1 ⟨y,d,f,B,v⟩=>thn (p b s1 c d _ f v) λu E ⟨x,e,j,z,a,r,m,g,w⟩=>?_;subst m;obtain rfl:u=WA a:=z;exact zna q j g B λG l=>⟨.bl (!r.isSome),e,l,rfl,w⟩
def znc (B:X.A.units+1<Vz)(w:PE X o td)(q:PE X i ty)(E:PE X value tv)(z:SJ value (some (.Subscript o i pos')) pos.line X.env=pure false) :
  PS X (.Assign [.Subscript o i pos'] value pos) (zqX td ty tv):=by
 intro c s b H D I h;refine wpAny_Assign_Subscript (thn (E c s b H _ I h) λr s1 ⟨v,d,j,M,G⟩=>thn (w c s1 b d _ j G) λu Q ⟨x,e,l,N,J⟩=>thn (q c Q b e _ l J) λY s3 ⟨y,U,m,O,a,f,p,g,L⟩=>?_) z;subst p;obtain rfl:u=WA a:=N;exact zjv B m g O M λs4 n=>⟨b,f,n,L⟩
end
def zkU {P:Xh}{w:W2}{H:Hp}(h:Heap)(a:Vl<h.objs.size):jy P w H (h.push { cls:=.type "dict",data:=.dict #[] }) h.objs.size (.dK []) :=
 ⟨W1 _,beq_eq_false_iff_ne.mpr (Vq (Xf a)),[],.nil,Heap.DictOf.new h⟩
def zkV {P:Xh}{w:W2}{H:Hp}(h:Heap)(a:Vl<h.objs.size):jy P w H (h.push { cls:=.type "dict",data:=.dict #[] }) h.objs.size (.dT []) :=
 (cH (W1 _) (beq_eq_false_iff_ne.mpr (Vq (Xf a))) (cW [] (.nil) ⟨_,(cU (#[]) 0 (W4 _ rfl) ⟨rfl,rfl,rfl⟩ rfl rfl VX)⟩))
def zpv:TE:=λ_ H Q=>∀p,H p=none->Q (.ref p) (upd H p (.dT []))
section
variable {X:Cx}{pos:Pos}
def zkW:PE X (.Dict [] [] pos) zpv:=λb s c H Q I h =>
 wpAny_Dict_empty ⟨.ref s.heap.objs.size,_,I.laid (a:=s.heap.objs.size) (o:=.dT []) (t':=s.toks) (λ_ _ q=>XW _ q) (XT _) (zkV s.heap I.big),rfl,h _ (I.hok.fresh (XT _))⟩
end
def zha:List (TE×TE)->St->Hp->(List (V×V)->Hp->Prop)->Prop
 | [],_,H,Q=>Q [] H
 | (tk,e)::r,a,H,Q=>tk a H λx b=>e a b λy c=>zha r a c λps d=>Q ((x,y)::ps) d
abbrev VV:List (V×V)->List (X9×X9)->Prop:=Xy λp q=>RelV p.1 q.1/\RelV p.2 q.2
def PPs (X:Cx)(pos:Pos)(keys:List (Option Expr))(a:List Expr)(b:List (TE×TE)):Prop :=
 ∀(e:List (Addr×Obj)) (s:X7) (c:St) (H:Hp) (Q:List (V×V)->Hp->Prop),Inv X e c H s->zha b c H Q ->
  Xe (Xg X.prog X.w) X.A (evalPairs (pairTrees keys a X.env pos)) (λh g=>∃f d,Inv X e c d g/\VV f h/\Q f d) X.xe s
def znd {X:Cx}{pos:Pos}:PPs X pos [] [] []:=λa s b H Q I h=>pairTrees_nil_walk ⟨[],H,I,.nil,h⟩
def zfC {X:Cx}{pos:Pos}{k v:Expr}{ks:List (Option Expr)}{vs:List Expr}{tk e:TE}{a:List (TE×TE)}(hk:PE X k tk)(o:PE X v e)(n:PPs X pos ks vs a) :
  PPs X pos (some k::ks) (v::vs) ((tk,e)::a):=λb s d H Q I h =>
 pairTrees_cons_walk (thn (hk b s d H _ I h) λu s1 ⟨x,f,j,z,q⟩=>thn (o b s1 d f _ j q) λE B ⟨y,g,l,A,r⟩ =>
  thn (n b B d g _ l r) λG D ⟨p,i,m,c,w⟩=>⟨(x,y)::p,i,m,.cons ⟨z,A⟩ c,w⟩)
def Z5 (kvs more:List (Key×V)):List (Key×V):=more.foldl (λa b=>putK a b.1 b.2) kvs
def KV.merge:∀{more:List (Key×V)} {rs:List (Key×X9)} {kvs:List (Key×V)} {vs:List (Key×X9)},KV more rs->KV kvs vs->KV (Z5 kvs more) (merged vs rs):=by
 intro more rs kvs vs r;unfold KV at r;induction r generalizing kvs vs with
 | nil=>intro q;exact q
 | @cons p q c d h t a =>
  intro b;have e:KV (putK kvs p.1 p.2) (stored vs q.1 q.2):=by
   have:=b.put p.1 h.2;rw[<- h.1];exact this
  exact a e
theorem QJ:∀(more kvs:List (Key×V)),(Z5 kvs more).length<=kvs.length+more.length
 | [],kvs=>by show kvs.length<=kvs.length+0;lia
 | p::r,kvs=>by
  have h1:=QJ r (putK kvs p.1 p.2);have h2:=yr kvs p.1 p.2;show (Z5 (putK kvs p.1 p.2) r).length<=_;rw[Xo];lia
theorem zch {P:Xh}{w:W2}:∀{kvs:List (Key×V)} {e:List (X9×X9)},VV (kvs.map λd=>(kV d.1,d.2)) e->∃rs,Carries (zZ P w) e rs/\KV kvs rs
 | [],_,r=>by rw[TV]at r;cases r;exact⟨[],SH,.nil⟩
 | p::kvs,_,r=>by
  rw[XD]at r;cases r with
  | @cons a b as bs h t =>
   obtain⟨rs,c,q⟩:=zch (P:=P) (w:=w) t;obtain⟨g,f⟩:=b;exact⟨(p.1,f)::rs,⟨zfB h.1,rfl,c⟩,.cons ⟨rfl,h.2⟩ q⟩
def zqY (b:List (TE×TE)):TE:=fun f H Q=>∀p,H p=none->zha b f (upd H p (.dK [])) λe c=>c p=some (.dK [])/\∃a:List (Key×V),e=a.map (λd=>(kV d.1,d.2))/\a.length<=15/\Q (.ref p) (upd c p (.dK (Z5 [] a)))
def zne {X:Cx}{pos:Pos}{keys:List (Option Expr)}{b:List Expr}{i:List (TE×TE)}(h:PPs X pos keys b i)(f:keys.all (·.isSome)=true)(x:keys.length=b.length)(h0:keys ≠ [])
  (j:keys.length<=15):PE X (.Dict keys b pos) (zqY i):=by
 intro p s M H Q I q;have y:=I.hok.fresh (XT s.heap.objs.size);have n:=I.laid (a:=s.heap.objs.size) (o:=.dK []) (h':=s.heap.push { cls:=.type "dict",data:=.dict #[] }) (t':=s.toks) (λ_ _ q=>XW _ q) (XT _) (zkU s.heap I.big);refine wpAny_Dict_walk (knd:=zZ X.prog X.w) f x h0 j (thn (h p _ M _ _ n (q _ y)) λws Y ⟨U,N,m,l,e,g,u,O,D⟩=>?_);subst u;obtain⟨J,c,G⟩:=zch (P:=X.prog) (w:=X.w) l;refine e8 (λz v L E r=>?_) (zou m.hok e);cases E;refine⟨J,c,r,λh' d A=>⟨.ref s.heap.objs.size,_,?_,rfl,D⟩⟩;have B:(Z5 [] g).length<=Xv:=by
  have h1:=QJ g [];rw[VN]at h1;rw[T3];lia
 have he:∃q,h'.get? s.heap.objs.size=some q:=let ⟨q,_,_,hq,_⟩:=d;⟨q,hq⟩
 exact zbW m (by rw[e];exact SH) A he (zkT B v (G.merge .nil) d)
structure M2 (X:Cx)(o:Expr)(m:Str)(apos:Pos)(e f:Expr)(cpos:Pos):Prop where
 base:attributeBase o m X.env (eval o X.env)=eval o X.env
 few:((Tb cpos (WU [e,f] X.env)).all (λx=>!x.1)&&(backToKw cpos (keywordEach [] X.env)).all (λx=>x.1.isSome)
  && decide (([e,f]:List Expr).length+([]:List OD).length+(if ([]:List OD).isEmpty then 0 else 1)<30))=true
 line:(apos.endLine==cpos.line)=true
 trees:Tb cpos (WU [e,f] X.env)=[(false,eval e X.env),(false,eval f X.env)]
def IsD (H:Hp)(a:Addr):Prop:=(∃b,Rd H a (.dK b))\/∃b,Rd H a (.dT b)
def zpw {X:Cx}{h:List (Addr×Obj)}{i:St}{H:Hp}{s:X7}{a:Addr}(I:Inv X h i H s)(d:IsD H a) :
  s.TypeIs (.ref a) "dict"/\(∀b,WA a=.ref b->∃ob,s.heap.get? b=some ob/\ob.dict=none)/\(a==Vl)=false:=by
 rcases d with ⟨g,e⟩ | ⟨g,e⟩
 .refine e8 (λ_ f j _ c=>?_) (zih I.hok e);refine⟨c.typeIs,λb q=>?_,f⟩;cases q;revert c;refine fh λob _ _ h1 h2 _=>?_;exact⟨ob,h1,h2.2.1⟩
 .refine e8 (λ_ f l _ c=>?_) (zii I.hok e);refine⟨c.typeIs,λb q=>?_,f⟩;cases q;revert c;refine fh λob _ _ h1 h2 _=>?_;exact⟨ob,h1,h2.2.1⟩
section
variable {X:Cx}{bz:List (Addr×Obj)}{σ:St}{H:Hp}{s:X7}{a:Addr}{y d:V}{u r:X9}{o:Option V}{A:WO}{E:X9->X7->Prop}
def zpx {Q:X9->X7->Prop}(x:A.units+1<Vz)(I:Inv X bz σ H s)(g:zbK H a y o)(p:RelV y u)(n:RelV d r)(h:∀q s',Inv X bz σ H s'->RelV (o.getD d) q->Q q s') :
  Xe (Xg X.prog X.w) A (call (.builtin "dict.get") [.ref a,u,r]) Q E s:=by
 rcases g with ⟨m,k,e,i,l⟩ | ⟨m,k,b,e,i,v,l⟩
 .subst i;refine e8 (λz j D c f=>?_) (zih I.hok e);refine call_meetsIn SR f.typeIs QQ (Rp _ _ _) (meets_dict_get_default (zZ X.prog X.w) a (zfB p) j r) ⟨_,f.mapOf,h _ _ (I.tok _) ?_⟩;rw[l];exact(c.val k).getD n
 .subst i;cases (show u=WA b from p);refine e8 (λz j B c f=>?_) (zii I.hok e);refine call_meetsIn SR f.typeIs QQ (Rp _ _ _) (meetsH_dict_get_default (VR (zZ X.prog X.w)) a b j r) ⟨R4 x,(cN k B (cH (zcg I.hok v) f (h _ _ (I.tok _) ?_)))⟩;rw[l];exact(c.val k).getD n
end
def zpy (f ty g:TE):TE:=fun b H Q=>f b H λx c=>∃a,x=.ref a/\IsD c a/\ty b c λy e=>g b e λz d=>∃o,zbK d a y o/\Q (o.getD z) d
section
variable {X:Cx}{o e f:Expr}{apos cpos:Pos}{td ty tx:TE}
def zci (E:X.A.units+1<Vz)(D:PE X o td)(he:PE X e ty)(B:PE X f tx)(m:M2 X o "get" apos e f cpos):PE X (.Call (.Attribute o "get" apos) [e,f] [] cpos) (zpy td ty tx):=by
 intro b s i H Q I h;refine wpAny_Call_method m.base m.few m.line Ro SR PySem.F.type_dict_get (thn (D b s i H _ I h) λu s1 ⟨x,l,j,M,a,w,d,G⟩=>?_);subst w;obtain rfl:u=WA a:=M;obtain⟨Y,t2,_⟩:=zpw j d;refine⟨Y,t2,?_⟩;rw[m.trees];refine QR rfl (Sq (R5 (thn (he b s1 i l _ j G) λiv U ⟨y,n,q,N,J⟩ =>
  R5 (thn (B b U i n _ q J) λfv s3 ⟨z,p,r,O,ov,g,L⟩=>Calls.spliced_nil ?_))))
 exact zpx E r g N O λw' s4 v c=>⟨_,p,v,c,L⟩
end
def zjx:OX (.type "list") "keys"=pure none:=by rw[Tr,UV];kernel_rfl
def zjy:OX (.type "list") "__getattr__"=pure none:=by rw[Tr,UV];kernel_rfl
def zcj:isSubtype (.type "AttributeError") (.type "AttributeError")=pure true:=by rw[Px];kernel_rfl
def zkX (a:List X9):ownMembersOf (.type "AttributeError") a=#[unsetMember,unsetMember]:=rfl
def zhb:((Manifest.find? "AttributeError").elim false λt=>t.mro.contains "StopIteration" || t.mro.contains "SystemExit")=false:=by decide+kernel
section
variable {prog:Xh}{w:W2}{A:WO}{E:X9->X7->Prop}{h:Heap}{g:Array Su}{d:Drawn}{t:Nat}{os:OsState}{a:Addr}{its:Array X9}{n:Nat}
def zkY {tk:Tok}{Q:Fin->X7->Prop}(o:h.get? a=some { cls:=.type "list",dict:=none,data:=.seq its n,slots:=#[] })(l:A.handled=none)
  (he:∀c j e,(∀b f,h.get? b=some f->c.get? b=some f)->(⟨c,g,d,j,os⟩:X7).TypeIs (.ref e) "AttributeError"->E (.ref e) ⟨c,g,d,j,os⟩) :
  Xe (Xg prog w) A (UP.«object.__getattribute__» ⟨[.ref a,.str "keys" tk],[]⟩) Q E ⟨h,g,d,t,os⟩:=by
 have r:(⟨h,g,d,t,os⟩:X7).TypeIs (.ref a) "list":=⟨_,o,rfl⟩;have p:=zjx;have q:=zcj;repeat (any_goals (first | assumption | wp_step))
 unfold raiseAttrError;refine Y1 (wpAny_mkStr (Y1 ?_) (by decide+kernel));unfold newExc newTuple;refine Y1 (VJ ?_);refine Y1 (m:=R8 _ _) (OE (a:=T4) (by simp only[R8,zhb];rfl) ?_);rw[zkX];refine VJ ?_;refine Y1 (wpAny_mkText ?_);refine Y1 ?_;unfold noteAttr lacksNameAndObj;repeat (any_goals (first | assumption | wp_step))
 unfold raiseNew;refine Y1 (wpAny_handled ?_);rw[l];refine Y1 (XQ (wpAny_throw ?_));dsimp only;refine he _ _ _ (λb f i=>?_) ?_
 .rw[(Wq ..).2 b (Xf ?_)]
  .exact XW _ (XW _ i)
  .rw[UZ];exact Wm (Xz i)
 .refine⟨_,Wh _ (W4 _ rfl) rfl,rfl⟩
def znf {tk:Tok}{R:OH->X7->Prop}(f:h.get? a=some { cls:=.type "list",dict:=none,data:=.seq its n,slots:=#[] })(l:A.handled=none)
  (he:∀c j e,(∀b i,h.get? b=some i->c.get? b=some i)->(⟨c,g,d,j,os⟩:X7).TypeIs (.ref e) "AttributeError"->R (.error (.ref e)) ⟨c,g,d,j,os⟩) :
  Ta (Xg prog w) A (.call (.builtin "list.__getattribute__") ⟨[.ref a,.str "keys" tk],[]⟩) R ⟨h,g,d,t,os⟩ :=
 Po PySem.F.slot_list_getattribute.plain PySem.F.entry_list_ga (PySem.F.slot_list_getattribute.check _ _ _ _ _ _ _ _ (show (⟨h,g,d,t,os⟩:X7).TypeIs (.ref a) "list" from ⟨_,f,rfl⟩) (PySem.F.args_list_getattribute_2 _ _) (zkY f (by simp[l]) he))
def zqZ {tk:Tok}{Q:X9->X7->Prop}(i:h.get? a=some { cls:=.type "list",dict:=none,data:=.seq its n,slots:=#[] })(m:A.handled=none)
  (he:∀c f e,(∀b j,h.get? b=some j->c.get? b=some j)->(⟨c,g,d,f,os⟩:X7).TypeIs (.ref e) "AttributeError"->E (.ref e) ⟨c,g,d,f,os⟩) :
  Xe (Xg prog w) A (getAttrBy (.ref a) (.str "keys" tk) false) Q E ⟨h,g,d,t,os⟩:=by
 have u:(⟨h,g,d,t,os⟩:X7).TypeIs (.ref a) "list":=⟨_,i,rfl⟩;have p:=PySem.F.slot_list_getattribute.lookup;have q:=PySem.F.slot_list_getattribute.bind (.ref a);have r:=zjy;have s:=zcj;repeat (any_goals (first | assumption | wp_step))
 refine znf i (by simp[m]) λc f e o l=>?_;repeat (any_goals (first | assumption | wp_step))
 exact he _ _ _ o l
def zng {Q:Option X9->X7->Prop}(m:h.get? a=some { cls:=.type "list",dict:=none,data:=.seq its n,slots:=#[] })(j:A.handled=none)
  (l:∀c i,(∀b f,h.get? b=some f->c.get? b=some f)->Q none ⟨c,g,d,i,os⟩) :
  Xe (Xg prog w) A (getAttr? (.ref a) "keys") Q E ⟨h,g,d,t,os⟩:=by
 have p:=zcj;unfold getAttr? getAttrBy?;refine Y1 (wpAny_mkText (Y1 (RI ?_)));refine zqZ (t:=t+1) m j λc i e o q=>?_;repeat (any_goals (first | assumption | wp_step))
 exact l _ _ o
def zas:Ow table "dict.update.loop"=some UP.«dict.update.loop»:=entryFor_of_tree (by kernel_rfl)
def Jo:plainId "dict.update.loop"=true:=by decide+kernel
end
section
variable {prog:Xh}{w:W2}{A:WO}{R:OH->X7->Prop}{I:Addr}{fp wr:List Addr}{G:Array Su->Array Su->Prop}{n:Nat}{P:Nat->X9->Prop}{St:Nat->X7->Prop}
abbrev KQ:=List Key×Addr×X9
def putAll (ks:List KQ):List KQ:=ks.foldl (λa q=>UG a q.1 q.2.1 q.2.2) []
def putAll_snoc (ks:List KQ)(q:KQ):putAll (ks++[q])=UG (putAll ks) q.1 q.2.1 q.2.2:=by
 unfold putAll;rw[UN];rfl
def zbq (xs:List KQ)(k:List Key)(a:Addr)(v:X9):(UG xs k a v).length<=xs.length+1:=by
 unfold UG;split
 .rw[ZB];lia
 .rw[X4];exact XT _
def zck (ks:List KQ):(putAll ks).length<=ks.length:=by
 suffices h:∀(ks a:List KQ),(ks.foldl (λa q=>UG a q.1 q.2.1 q.2.2) a).length<=a.length+ks.length by
  have:=h ks [];simpa[putAll] using this
 intro ks;induction ks with
 | nil=>intro a;exact XT _
 | cons q r b =>
  intro a;have h1:=b (UG a q.1 q.2.1 q.2.2);have h2:=zbq a q.1 q.2.1 q.2.2;rw[VW,Xo];lia
def zeA {A:WO}{E:X9->X7->Prop}{s:X7}{a:Addr}{x y:X9}{Q:List X9->X7->Prop}(h:OC s.heap a #[x,y])(q:Q [x,y] s):Xe (Xg prog w) A (QP (.ref a)) Q E s:=by
 obtain⟨o,h1,h2,n,b⟩:=h;have c:s.TypeIs (.ref a) "tuple":=⟨o,h1,h2⟩;unfold QP;repeat (any_goals (first | assumption | wp_step))
 rw[b];exact XQ (XQ q)
theorem zbr (T:List Key->Addr->Prop):∀(d a:List KQ),(∀x∈a,T x.1 x.2.1)->(∀x∈d,T x.1 x.2.1)->∀x∈d.foldl (λa q=>UG a q.1 q.2.1 q.2.2) a,T x.1 x.2.1
 | [],_,b,_=>b
 | q::r,a,b,c=>by
  rw[VW];refine zbr T r _ (λx hx=>?_) λx hx=>c x (XV _ hx);unfold UG at hx;split at hx
  .obtain⟨y,f,rfl⟩:=XN.mp hx;have:=b y f;unfold putAt;split
   .exact this
   .exact this
  .rcases XM.mp hx with hx | hx
   .exact b x hx
   .have e:x=(q.1,q.2.1,q.2.2):=by simpa using hx
    subst e;exact c q XR
def zhc {h0:Heap}(W:WalksS prog w A.in1 I fp wr G n P St)(D:Addr)(J:D ∉ fp)(aa:h0.get? D=none)(ah:∀b∈wr,h0.get? b=none)(ks:List KQ)(N:ks.length=n)(u:n<=Xv)(hu:A.units+1<Vz)
  (M:∀q∈ks,(VR (zZ prog w)).is h0 q.1 q.2.1) (hP:∀i v,P i v->∃H q,v=.ref H/\ks[i]?=some q/\OC h0 H #[.ref q.2.1,q.2.2]) :
  ∀(k i:Nat) (s:X7),n-i=k->i<=n->St i s->(∀b o,h0.get? b=some o->s.heap.get? b=some o)->s.heap.DictOfH (VR (zZ prog w)) D (putAll (ks.take i)) ->
   (∀s',Moved (D::wr) G s s'->s'.heap.DictOfH (VR (zZ prog w)) D (putAll ks)->R (.ok (.ret .none)) s') ->
   Ta (Xg prog w) A (.builtin "dict.update.loop" ⟨[.ref D,.ref I,Ue (i:Int),.none],[]⟩) R s:=by
 have ab:D ∉ wr:=λh=>J (W.sub _ h);have more:∀b∈wr,b∈D::wr:=λb u=>XV _ u;have r:∀{h:Heap} {H:Addr} {y:Array X9},(∀b o,h0.get? b=some o->h.get? b=some o)->OC h0 H y->OC h H y:=λl ⟨o,h1,h2,m,h3⟩=>⟨o,l _ _ h1,h2,m,h3⟩;have f:∀{h:Heap} {ka:Addr} {q:List Key},(∀b o,h0.get? b=some o->h.get? b=some o)->(VR (zZ prog w)).is h0 q ka->(VR (zZ prog w)).is h q ka:=λl ⟨o,y,m,h1,h2⟩=>⟨o,y,m,l _ _ h1,h2⟩;have c:∀{s s':X7} {y:List KQ},Moved wr G s s'->(∀b o,h0.get? b=some o->s'.heap.get? b=some o)->(∀x∈y,(VR (zZ prog w)).is h0 x.1 x.2.1)->s.heap.DictOfH (VR (zZ prog w)) D y->s'.heap.DictOfH (VR (zZ prog w)) D y :=
  λg l hk ⟨o,es,ep,e1,e2,e3,e4,_,e6⟩=>(cN o es (dg ep (g.heap D _ ab e1) e2 e3 e4 (λx Y=>f l (hk x Y)) e6))
 have d:∀{s s':X7},Moved wr G s s'->(∀b o,h0.get? b=some o->s.heap.get? b=some o)->∀b o,h0.get? b=some o->s'.heap.get? b=some o:=λg l b o e =>
  g.heap b o (λu=>by
   rw[ah b u]at e;cases e) (l b o e)
 have j:∀i,∀x∈putAll (ks.take i),(VR (zZ prog w)).is h0 x.1 x.2.1:=λi=>zbr (λa b=>(VR (zZ prog w)).is h0 a b) _ [] (λx Y=>nomatch Y) λx Y=>M x (Wc Y);intro k;induction k with
 | zero =>
  intro i s hk hi E l hS hR;have ag:i=n:=by lia
  subst ag;refine VC zas ?_;rw[V4 Jo _];show Xe _ A.in1 (Sa (.ref I) >>= _) _ _ s;refine Y1 (W.done s _ _ E λs' g=>?_);show Xe _ A.in1 (RE D [] >>= λ_=>ret T4) _ _ s';refine Y1 (XQ (XQ (hR s' (g.mono more) ?_)));have:=c g (d g l) (j _) hS;rw[<- N,XF]at this;exact this
 | succ k ih =>
  intro i s hk hi E l hS hR;have O:i<n:=by lia
  refine VC zas ?_;rw[V4 Jo _];show Xe _ A.in1 (Sa (.ref I) >>= _) _ _ s;refine Y1 (W.item i s _ _ O E λv s' ac U g=>?_);refine eF (λH q z0 hq ht=>?_) (hP i v ac);subst z0;have p:=d g l;have ae:=c g p (j _) hS;have l1:=zck (ks.take i);have l2:(ks.take i).length<=n:=by
   rw[XJ];lia
  have tk:ks.take (i+1)=ks.take i++[q]:=by
   rw[Xb,hq];rfl
  refine Y1 (VO (Y1 (wpAny_tryCatch (zeA (r p ht) ?_))));refine VO (wpAny_dictSet_heap (show A.in1.units<Vz from hu) (f p (M q (X8 hq))) ae (λh' af B=>?_) (by lia));have ai:∀b o,h0.get? b=some o->h'.get? b=some o:=λb o e=>by
   rw[B.2 b (λz=>by
    rw[z,aa]at e;cases e)]
   exact p b o e
  have d2:h'.DictOfH (VR (zZ prog w)) D (putAll (ks.take (i+1))):=by
   rw[tk,putAll_snoc];exact af
  refine XQ ⟨UJ Jo _,?_⟩;show Ta _ A (.builtin "dict.update.loop" ⟨[.ref D,.ref I,Ue ((i:Int)+1),.none],[]⟩) R _;rw[show ((i:Int)+1)=((i+1:Nat):Int) by lia];refine ih (i+1) _ (by lia) O (W.frame _ s' _ _ U (U2 _ _) λb u o e=>?_) ai d2 λaj Q L=>?_
  .rw[B.2 b (λz=>J (by rw[<- z];exact u))];exact e
  .refine hR aj (Moved.trans W.gtrans ((g.mono more).then_heap (U2 _ _) λb o u e=>?_) Q) L;rw[B.2 b (λz=>u (by rw[z];exact XR))];exact e
end
def zq0 (H:Hp)(v:V)(c:List Key×V):Prop:=∃a b,v=V.ref a/\H a=some (.tup [.ref b,c.2])/\H b=some (.tup (c.1.map kV))
def yu (H:Hp):AE->List (List Key×V)->Prop:=Xy (zq0 H)
def yu.mono {H c:Hp}(s:zo H c){vs:AE}{kvs:List (List Key×V)}(d:yu H vs kvs):yu c vs kvs:=by
 induction d with
 | nil=>exact .nil
 | cons q _ f =>
  obtain⟨a,b,e,h1,h2⟩:=q;exact .cons ⟨a,b,e,s _ _ h1,s _ _ h2⟩ f
def zfD (kvs:List (List Key×V)):List (List Key×V):=kvs.foldl (λa b=>putK a b.1 b.2) []
def KT.puts {H:Hp}{kvs:List (List Key×V)}{ks:List KQ}{a:List (List Key×V)}{xs:List KQ}(d:KT H kvs ks)(r:KT H a xs):KT H (kvs.foldl (λa b=>putK a b.1 b.2) a) (ks.foldl (λa q=>UG a q.1 q.2.1 q.2.2) xs):=by
 induction d generalizing a xs with
 | nil=>exact r
 | cons q _ e =>
  obtain⟨h1,h2,c⟩:=q;rw[VW,VW];refine e ?_;rw[<- h1];exact r.put _ h2 c
def znh {P:Xh}{w:W2}{H:Hp}{h:Heap}(ok:HOk P w H h){kvs:List (List Key×V)}{ks:List KQ}(a:KT H kvs ks):∀x∈ks,(VR (zZ P w)).is h x.1 x.2.1:=by
 induction a with
 | nil=>exact λx hx=>nomatch hx
 | cons q _ b =>
  intro x hx;rcases XI.mp hx with e | hx
  .subst e;exact zcg ok (by rw[<- q.1];exact q.2.1)
  .exact b x hx
def zni {P:Xh}{w:W2}{H:Hp}{h:Heap}(ok:HOk P w H h){vs:AE}{kvs:List (List Key×V)}{c:List X9}(n:yu H vs kvs)(g:Vals vs c):∃ks:List KQ,KT H kvs ks/\ks.length=c.length/\(∀(i:Nat) (v:X9),c[i]?=some v->∃(d:Addr) (q:KQ),v=WA d/\ks[i]?=some q/\OC h d #[.ref q.2.1,q.2.2]):=by
 induction n generalizing c with
 | nil =>
  cases g;exact⟨[],.nil,rfl,λi v e=>by simp at e⟩
 | @cons x j G I q _ o =>
  revert q;refine eF λa b e h1 h2=>?_;cases g with
  | cons B z =>
  refine eS (λks p s y=>?_) (o z);subst e;cases B;obtain⟨_,G,r,D⟩:=(show jy P w H h a (.tup [.ref b,j.2]) from ok a _ h1);obtain⟨u,E,rfl,A,f⟩:=vals2 r;cases A;refine⟨(j.1,b,E)::ks,.cons ⟨rfl,h2,f⟩ p,by rw[Xo,Xo,s],λi v e=>?_⟩;cases i with
  | zero =>
   have l:WA a=v:=by simpa using e
   exact⟨a,_,l.symm,rfl,D⟩
  | succ i =>
   refine eF (λd q h1 h2 m=>?_) (y i v (by simpa using e));exact⟨d,q,h1,by simpa using h2,m⟩
section
variable {X:Cx}
set_option maxHeartbeats 8000000 in
theorem YC (hu:X.A.units+64<Vz)(hh:X.A.handled=none):jk X (.type "dict") (λxs H Q=>∃l us kvs,xs=[.ref l]/\H l=some (.lst us)/\yu H us kvs/\∀d,H d=none->Q (.ref d) (upd H d (.dT (zfD kvs)))):=by
 intro bz s σ H xs ai Q I r h;revert h;refine eU λl us kvs z0 hl hp q=>?_;subst z0;obtain⟨u,rfl,ru⟩:=vals1 r;cases ru;refine eV (λhz=>eO λm n rv e=>?_) (show jy X.prog X.w H s.heap l (.lst us) from I.hok l _ hl);obtain⟨ks,E,D,N⟩:=zni I.hok hp rv;have big:=I.big;have y:m.length<=Xv:=by
  rw[<- rv.length];exact hz
 have ae:=znh I.hok E;refine callType_codes (Q₁:=λU p=>U=.ref s.heap.objs.size/\p={ s with heap:=s.heap.push { cls:=.type "dict",data:=.dict #[] } }) PySem.F.kt_called_dict (PySem.F.kt_typeCall_dict_1 _) PySem.F.entry_dict_init (kt_code_dict_new _ ⟨rfl,rfl⟩) ?_;rintro U p ⟨rfl,rfl⟩;have f:(s.heap.push { cls:=.type "dict",data:=.dict #[] }).DictOfH (VR (zZ X.prog X.w)) s.heap.objs.size []:=Heap.DictOfH.new s.heap;have e1:(s.heap.push { cls:=.type "dict",data:=.dict #[] }).get? l=some { cls:=.type "list",dict:=none,data:=.seq m.toArray n,slots:=#[] }:=XW _ e;refine⟨f.typeIs,PySem.F.args_dict_init_2 _ _,?_⟩;unfold UP.«dict.__init__»;refine Y1 ?_;unfold RD;refine Y1 (PX f.typeIs ?_);show Xe _ _ (pure (s.heap.objs.size,[WA l])) _ _ _;refine XQ ?_;show Xe _ _ (Ux "dict.__init__" s.heap.objs.size (.ref l) [] .none) _ _ _;unfold Ux;have hT:Sz { s with heap:=s.heap.push { cls:=.type "dict",data:=.dict #[] } } (.ref l) "list":=⟨_,e1,rfl⟩;refine Y1 (Sf hT ?_);rw[bw (by decide)];refine Y1 (zng e1 (by simp[hh]) λh2 t2 kp=>?_);rw[bw (show (none:Option X9).isNone=true from rfl)];have O:∀b g,s.heap.get? b=some g->h2.get? b=some g:=λb g z=>kp b g (XW _ z);have G:h2.IsList l m.toArray:=⟨_,kp _ _ e1,rfl,n,rfl⟩;refine Y1 (Vd (Y1 (S4 G ?_)));have J:l<s.heap.objs.size:=Xz e;have j:s.heap.objs.size<h2.objs.size:=by
  revert f;refine fB λo _ _ M _=>?_;exact Xz (kp _ _ M)
 have L:l≠h2.objs.size:=Xf (TU J j);have aa:s.heap.objs.size ∉ [h2.objs.size,l]:=by
  simp only[XI,TN,or_false,not_or];exact⟨Xf j,TW J⟩
 refine XQ ⟨UJ Jo _,?_⟩;have ac:(h2.push { cls:=.type "list_iterator",data:=.fields #[.ref l,.int 0 0] }).DictOfH (VR (zZ X.prog X.w)) s.heap.objs.size []:=by
  revert f;refine fk λo es ep M h3 h4 h5 _ h6=>?_;exact cN o es (dg ep (XW _ (kp _ _ M)) h3 h4 h5 (λx hx=>nomatch hx) h6)
 refine zhc (h0:=s.heap) ((Walks.list (by simp[hh]) h2.objs.size l L m.toArray).toS) s.heap.objs.size aa (UM (XT _)) (λb hb=>?_) ks (by rw[D];simp) (by simpa using y) (by show X.A.units+1+1<Vz;lia) ae (λi v hv=>N i v (by rw[<- hv];simp)) _ 0 _ rfl (W1 _)
  ⟨⟨_,W4 _ rfl,rfl,rfl⟩,G.push _⟩ (λb o z=>XW _ (O b o z)) ac ?_
 .have e:b=h2.objs.size:=by simpa using hb
  rw[e];exact UM (TX j)
 .intro s' Y ab;obtain⟨h',g',d',ah,ag⟩:=s';have eg:g'=s.gens:=Y.gens;have ed:d'=s.drawn:=Y.drawn;have eo:ag=s.os:=Y.os;subst eg;subst ed;subst eo;have af:∀b g,s.heap.get? b=some g->h'.get? b=some g:=λb g z=>by
   have lt:=Xz z;refine Y.heap b g (λhb=>?_) (XW _ (O b g z));rcases XI.mp hb with e | hb
   .exact VG _ (e ▸ lt)
   .have e:b=h2.objs.size:=by simpa using hb
    rw[e]at lt;exact VG _ (TU lt j)
  revert ab;refine fk λo es ep M h3 h4 h5 _ h6=>?_;have B:KT H (zfD kvs) (putAll ks):=KT.puts E .nil;have c:H s.heap.objs.size=none:=I.hok.fresh (XT _);refine⟨rfl,.ref s.heap.objs.size,_,I.laid (a:=s.heap.objs.size) (o:=.dT (zfD kvs)) (t':=ah) af (XT _) (cH ?_ (beq_eq_false_iff_ne.mpr (Vq (Xf big))) (cG (KT.keeps B λb ys hb=>?_) (dI o es ep M h3 h4 h5 h6))),rfl,q _ c⟩
  .rw[Paired.length B];exact X6 (zck ks) (by rw[D];exact y)
  .rw[zj (zh hb c)];exact hb
end
def u1 {A:PySem.Around}(h:A.units+64<PySem.cLine):A.units+1<PySem.cLine:=by lia
theorem yu.into {H:Hp}(z:Addr)(o:HO){c:AE}(hz:H z=some (.lst c)):∀{vs:AE} {kvs:List (List Key×V)},yu H vs kvs->yu (upd H z o) vs kvs
 | _,_,.nil=>.nil
 | _,_,.cons ⟨a,b,e,h1,h2⟩ t=>.cons ⟨a,b,e,by rw[zj (zdy h1 hz (by intro y;cases y))];exact h1,by rw[zj (zdy h2 hz (by intro y;cases y))];exact h2⟩ (yu.into z o hz t)
theorem yu.snoc {H:Hp}{vs:AE}{kvs:List (List Key×V)}{v:V}{a:List Key×V}(h:yu H vs kvs)(x:zq0 H v a):yu H (vs++[v]) (kvs++[a]):=Paired.snoc h x
theorem yu.length {H:Hp}{vs:AE}{kvs:List (List Key×V)}(h:yu H vs kvs):vs.length=kvs.length:=Paired.length h
section
variable {prog:Xh}{w:W2}{A:WO}{E:X9->X7->Prop}{s:X7}{d o a:Addr}{xs ys:List KQ}{k:List Key}{v:X9}
abbrev tk2 (prog:Xh)(w:W2):HeapKind prog w (List Key):=VR (zZ prog w)
def zhd {Q:Unit->X7->Prop}(J:A.units<Vz)(c:(tk2 prog w).is s.heap k a)(I:s.heap.DictOfH (tk2 prog w) d xs)(hsz:xs.length<=Xv)
  (u:∀h',h'.DictOfH (tk2 prog w) d (UG xs k a v)->V1 d s.heap h'->Q () { s with heap:=h' }):Xe (Xg prog w) A (O4 d (.ref a) ((tk2 prog w).hash k) v) Q E s:=by
 revert I;refine fk λob H r f B b he h i=>?_;unfold O4;refine VO (Y1 (wpAny_dictFind_heap (knd:=tk2 prog w) J c f b he h i (λm=>?_) λj p D=>?_))
 .have n:=not_mem_keys_of_get m;have o:=atKey_none_of_get m;refine Y1 (Vd (wpAny_updateDictKeys (hz:=by have e:=size_of_entries he;lia) f b (u _ (cI (dg (r+1) (Wh _ f (Sj (T1 b _))) (B.mapDictKeys _) (T1 b _) ?_ ?_ ?_)) (Wq ..))))
  .rw[PH o];simp[he,Tp]
  .rw[PH o];intro x hx;rcases XM.mp hx with hx | hx
   .exact(tk2 prog w).keeps (h x hx) f b (Wq ..)
   .have e:x=(k,a,v):=by simpa using hx
    subst e;exact(tk2 prog w).keeps c f b (Wq ..)
  .rw[PH o,Xs,WY];refine⟨i,by simp,λx hx y q e=>n ?_⟩;have G:y=k:=by simpa using q
   rw[<- G,<- e];exact hx
 .have g:=storedH_old (atKey_of_get i D) a v;refine Y1 (Vd (Y1 (wpAny_updateDict f b (wpAny_point (u _ (cI (dg r (Wh _ f (Sj (Obj.data_mapDict b _))) (B.mapDict _) (Obj.data_mapDict b _) ?_ ?_ ?_)) (Wq ..))))))
  .rw[g];have z:=modify_map_putAt (Tp (tk2 prog w)) (λe:Rx=>{ e with val:=v }) k v (λ_ _=>rfl) i D;rw[<- he]at z;obtain⟨l⟩:=H;simpa using z
  .rw[g];intro x hx;obtain⟨y,q,rfl⟩:=XN.mp hx;unfold putAt;split<;>exact(tk2 prog w).keeps (h y q) f b (Wq ..)
  .rw[g,keys_map_putAt];exact i
def HN (prog:Xh)(w:W2)(ys:List KQ):Prop:=(ys.map λq=>(tk2 prog w).hash q.1).Nodup
def zhe:OX (.type "tuple") "__eq__"=pure (some (.builtin "tuple.__eq__")):=by rw[Tr,UV];kernel_rfl
def zfE {Q:Bool->X7->Prop}(b:(tk2 prog w).is s.heap k a)(q:Q false s):Xe (Xg prog w) A (Pn (.ref a)) Q E s:=by
 revert b;refine fh λob d n h1 h2 _=>?_;have c:s.TypeIs (.ref a) "tuple":=⟨ob,h1,h2⟩;unfold Pn;refine Y1 (Sm c zhe (XQ ?_));rw[show (some (Value.builtin "tuple.__eq__")==some (Value.builtin "object.__eq__"))=false by decide+kernel];exact q
def zjz {ys:List KQ}{a:Array Rx}(he:a.toList=ys.map (Tp (tk2 prog w)))(b:HN prog w ys)(x:Int):¬ (a.filter (λe=>e.hash==x)).size>1:=by
 have h1:(a.filter (λe=>e.hash==x)).size=(a.toList.filter (λe=>e.hash==x)).length:=by
  rw[<- Pd,XZ]
 rw[h1,he];unfold HN at b;clear h1 he;induction ys with
 | nil=>simp
 | cons q r i =>
  rw[XD,Wf]at b;rw[XD,WJ];split
  .rename_i hq;have c:(tk2 prog w).hash q.1=x:=by simpa[Tp] using hq
   have:(r.map (Tp (tk2 prog w))).filter (λe=>e.hash==x)=[]:=by
    rw[WN];intro e f g;obtain⟨y,h,rfl⟩:=XN.mp f;have d:(tk2 prog w).hash y.1=x:=by simpa[Tp] using g
    exact b.1 (XN.mpr ⟨y,h,by rw[c,d]⟩)
   rw[this];simp
  .exact i b.2
def zjA {id:String}{ob:Obj}{c:Array Rx}{ep:Nat}{Q:Array Rx->X7->Prop}(m:s.heap.get? d=some ob)(l:ob.data=.dict c ep)(he:c.toList=ys.map (Tp (tk2 prog w)))(hk:∀x∈ys,(tk2 prog w).is s.heap x.1 x.2.1)(j:HN prog w ys)(h:Q c s) :
  Xe (Xg prog w) A (Sl id d) Q E s:=by
 unfold Sl;refine Y1 (Ub m l (Y1 ?_));rw[<- R3];refine TM _ (λa _ f=>f=s/\∀e∈a,e∈c.toList) _ ?_ ?_ _ _ ⟨rfl,λe he=>he⟩
 .rintro x a b f ⟨rfl,g⟩;have i:=g x XR;rw[he]at i;obtain⟨y,n,rfl⟩:=XN.mp i;refine Y1 (zfE (hk y n) ?_);rw[bw (show (!false)=true from rfl),bq (zjz he j _)];exact XQ ⟨rfl,λe he=>g e (XV _ he)⟩
 .rintro b f ⟨rfl,_⟩;exact XQ h
def JO (xs ys:List KQ):List KQ:=ys.foldl (λa q=>UG a q.1 q.2.1 q.2.2) xs
def zfF (xs ys:List KQ)(q:KQ):JO xs (ys++[q])=UG (JO xs ys) q.1 q.2.1 q.2.2:=by
 unfold JO;rw[UN];rfl
theorem zcl (xs:List KQ):∀ys:List KQ,∀a:List KQ,(JO a ys).length<=a.length+ys.length
 | [],a=>XT _
 | q::r,a=>by
  have h1:=zcl xs r (UG a q.1 q.2.1 q.2.2);have h2:=zbq a q.1 q.2.1 q.2.2;rw[Xo];show (JO (UG a q.1 q.2.1 q.2.2) r).length<=_;lia
theorem zat:∀(ys a:List KQ),((a++ys).map (·.1)).Nodup->JO a ys=a++ys
 | [],a,_=>(Xu a).symm
 | q::r,a,h=>by
  have b:OQ a q.1=none:=by
   unfold OQ;rw[List.find?_eq_none.mpr]
   .rfl
   .intro x c hk;rw[Xs,XD,WY]at h;exact h.2.2 x.1 (XN.mpr ⟨x,c,rfl⟩) q.1 XR (bg hk)
  show JO (UG a q.1 q.2.1 q.2.2) r=_;rw[PH b,show ((q.1,q.2.1,q.2.2):KQ)=q from rfl,zat r (a++[q]) (by simpa using h)];simp
def znj {nm:String}{Q:Unit->X7->Prop}(hu:A.units<Vz)(B:d≠o)(ag:(o==Vl)=false)(hd:s.heap.DictOfH (tk2 prog w) d xs)(ho:s.heap.DictOfH (tk2 prog w) o ys)(hN:HN prog w ys)(hsz:xs.length+ys.length<=Xv)
  (U:∀h',h'.DictOfH (tk2 prog w) d (JO xs ys)->V1 d s.heap h'->Q () { s with heap:=h' }):Xe (Xg prog w) A (Qr nm d o) Q E s:=by
 refine fk (λod aa Y j ab f L am an=>?_) (id hd);refine fk (λoo a ak m al c g D O=>?_) (id ho);have N:ys.length=a.size:=(size_of_entries g).symm;unfold Qr;rw[bq (show ¬ (d==o)=true by simpa using B)];unfold Builtin.Dict.showsAll;rw[bq (show ¬ (o==Vl)=true by rw[ag];exact XU)];refine Y1 (XQ (Y1 (Ub m c ?_)));have y:Xe (Xg prog w) A (do
   let epoch <- dictEpoch o
   let l <- dictEntries o
   forIn [:l.size] OV λi (_:PUnit)=>(do
     let l' <- dictEntries o
     match l'[i]? with
      | some e=>do
       holding [e.key,e.val] (O4 d e.key e.hash e.val)
       let ep' <- dictEpoch o
       if (ep' != epoch)=true then do
         (PF (toString nm++toString ":source-changed-during-callback"):Sem PUnit)
         pure (VU OV)
        else pure (VU OV)
      | _=>do
       (PF "internal:dict-merge":Sem PUnit)
       pure (VU OV):Sem (ForInStep PUnit))
   pure ()) Q E s:=by
  refine Y1 (wpAny_dictEpoch m c (Y1 (Ub m c (Y1 ?_))));rw[Std.Legacy.Range.forIn_eq_forIn_range'];simp only[Std.Legacy.Range.size,Nat.sub_zero,R1,Nat.div_one];refine TM _ (λp _ s'=>∃h' i,s'={ s with heap:=h' }/\p=List.range' i (a.size-i)/\i<=a.size/\h'.DictOfH (tk2 prog w) d (JO xs (ys.take i))/\V1 d s.heap h') _ ?_ ?_ _ _ (cU s.heap 0 rfl (by simp) (W1 _) hd (Heap.SameBut.refl _ _))
  .refine λx p b s'=>eK λh' i z0 H hi r n=>?_;subst z0;have af:i<a.size:=by
    rcases Uu i a.size with h | h
    .exact h
    .rw[Nat.sub_eq_zero_of_le h]at H;simp at H
   obtain⟨rfl,I⟩:x=i/\p=List.range' (i+1) (a.size-(i+1)):=by
    rw[show a.size-i=(a.size-(i+1))+1 by lia,List.range'_succ]at H;injection H with h1 h2
    exact⟨h1,h2⟩
   have u:h'.get? o=some oo:=(n.2 o (Vq B)).trans m;obtain⟨q,hq⟩:∃q,ys[x]?=some q:=⟨_,XY (by lia)⟩;refine Y1 (Ub u c ?_);rw[entry_at g x,hq];have ae:=D q (X8 hq);have M:(tk2 prog w).is h' q.1 q.2.1:=(tk2 prog w).keeps ae j f n;have l1:=zcl xs (ys.take x) xs;have l2:(ys.take x).length<=ys.length:=by
    rw[XJ];lia
   refine Y1 (VO (zhd (s:={ s with heap:=h' }) hu M r (by lia) λz J v=>?_));have G:z.get? o=some oo:=(v.2 o (Vq B)).trans u;refine Y1 (wpAny_dictEpoch G c ?_);rw[bq (by simp)];refine XQ (cU z (x+1) rfl I af ?_ (n.trans v));rw[Xb,hq];show z.DictOfH (tk2 prog w) d (JO xs (ys.take x++[q]));rw[zfF];exact J
  .rintro b s' ⟨h',i,rfl,H,hi,r,n⟩;have ac:i=a.size:=by
    rcases Uu i a.size with h | h
    .rw[show a.size-i=(a.size-(i+1))+1 by lia,List.range'_succ]at H;exact nomatch H
    .exact Nat.le_antisymm hi h
   rw[ac,<- N,XF]at r;exact XQ (U h' r n)
 dsimp only;split
 .refine Y1 (Ub j f ?_);split
  .rename_i aj;have ah:xs=[]:=by
    have h0:aa=#[]:=Array.isEmpty_iff.mp aj;rw[h0]at L;exact Pc.mp L.symm
   subst ah;rw[zat ys [] (by simpa using O)]at U;refine Y1 (zjA m c g D hN ?_);split
   .refine Y1 (wpAny_updateDictKeysTo j f (XQ (U _ (cI (dg (Y+1) (Wh _ j (Sj (T1 f _))) (ab.mapDictKeys _) (T1 f _) g (λx hx=>(tk2 prog w).keeps (D x hx) j f (Wq ..)) O)) (Wq ..))) (by
     simp only[VN,Wa]at hsz;lia))
   .rename_i hne;have h0:a=#[]:=Array.isEmpty_iff.mp (by simpa using hne);have ai:ys=[]:=by
     rw[h0]at g;exact Pc.mp g.symm
    subst ai;exact XQ (U _ hd (Heap.SameBut.refl _ _))
  .exact y
 .exact y
end
def HH (i j:Nat):Int:=reduceHash (Builtin.Tuple.tupleHashOf [hashInt (i:Int),hashInt (j:Int)])
def Ze (prog:Xh)(w:W2)(i j:Nat):(tk2 prog w).hash [.inl ((i:Nat):Int),.inl ((j:Nat):Int)]=HH i j:=by
 show tupleKeyHash (zZ prog w) [.inl ((i:Nat):Int),.inl ((j:Nat):Int)]=HH i j;unfold tupleKeyHash HH;rw[XD,XD,TV];have e:∀n:Nat,(zZ prog w).hash (.inl ((n:Nat):Int))=hashInt ((n:Nat):Int):=λn=>by
  show zo2 w (.inl ((n:Nat):Int))=_;unfold zo2;with_reducible rfl
 rw[e,e]
def zpz:(WC 64).all λn=>(WC 64).all λm=>decide (HH (n/8) (n%8)=HH (m/8) (m%8))==decide (n=m):=by decide+kernel
def zfH {i j f g:Nat}(h1:i<8)(h2:j<8)(l:f<8)(m:g<8)(e:HH i j=HH f g):i=f/\j=g:=by
 have h:=zpz;rw[WK]at h;have a:=h (8*i+j) (Ww.mpr (by lia));rw[WK]at a;have b:=a (8*f+g) (Ww.mpr (by lia));rw[show (8*i+j)/8=i by lia,show (8*i+j)%8=j by lia,show (8*f+g)/8=f by lia,show (8*f+g)%8=g by lia,br e]at b;have c:decide (8*i+j=8*f+g)=true:=by simpa using b
 have d:=bg c;lia
def Small (ks:List (List Key)):Prop:=∀k∈ks,∃i j:Nat,i<8/\j<8/\k=[.inl ((i:Nat):Int),.inl ((j:Nat):Int)]
theorem zov {prog:Xh}{w:W2}:∀{ys:List KQ},Small (ys.map (·.1))->(ys.map (·.1)).Nodup->HN prog w ys
 | [],_,_=>VX
 | q::r,d,c=>by
  rw[XD,Wf]at c;unfold HN;rw[XD,Wf];refine⟨λn=>?_,zov (λk hk=>d k (XV _ hk)) c.2⟩;obtain⟨y,h,e⟩:=XN.mp n;obtain⟨i,j,h1,h2,f⟩:=d q.1 XR;obtain⟨o,p,l,m,g⟩:=d y.1 (XV _ (XN.mpr ⟨y,h,rfl⟩));rw[f,g,Ze,Ze]at e;obtain⟨a,b⟩:=zfH l m h1 h2 e;refine c.1 (XN.mpr ⟨y,h,?_⟩);rw[f,g,a,b]
theorem KT.keys {H:Hp}:∀{kvs:List (List Key×V)} {xs:List KQ},KT H kvs xs->xs.map (·.1)=kvs.map (·.1)
 | _,_,.nil=>rfl
 | _,_,.cons ⟨h1,_,_⟩ t=>by rw[XD,XD,KT.keys t,h1]
def zkZ {P:Xh}{w:W2}{H:Hp}{kvs:List (List Key×V)}{xs:List KQ}(r:KT H kvs xs)(b:Small (kvs.map (·.1)))(a:(xs.map (·.1)).Nodup):HN P w xs:=zov (by rw[r.keys];exact b) a
def QX (kvs more:List (List Key×V)):List (List Key×V):=more.foldl (λa b=>putK a b.1 b.2) kvs
theorem zcm:∀(more kvs:List (List Key×V)),(QX kvs more).length<=kvs.length+more.length
 | [],kvs=>XT _
 | kv::r,kvs=>by
  have h1:=zcm r (putK kvs kv.1 kv.2);have h2:=yr kvs kv.1 kv.2;show (QX (putK kvs kv.1 kv.2) r).length<=_;rw[Xo];lia
section
variable {X:Cx}
def zhf (hu:X.A.units+64<Vz):MtR X "dict.update" (λx vs H Q=>∃d o kvs more,x=.ref d/\vs=[.ref o]/\d≠o/\H d=some (.dT kvs)/\H o=some (.dT more)/\Small (more.map (·.1))/\kvs.length+more.length<=Xv/\Q .non (upd H d (.dT (QX kvs more)))):=by
 intro bz s σ H x vs v us Q I rx rv h;revert h;refine fq λd o kvs more z0 z1 n l=>eZ λho y aa q=>?_;subst z0 z1;cases rx;obtain⟨u,rfl,ru⟩:=vals1 rv;cases ru;refine e8 (λhz U D f i=>?_) (zkR I.hok l);refine e8 (λab j e b a=>?_) (zkR I.hok ho);have O:HN X.prog X.w e:=by
  obtain⟨_,_,_,_,_,_,_,_,Y⟩:=a;exact zkZ b y Y
 refine U1 RC i.typeIs PySem.F.entry_dict_update ?_ (PySem.F.args_dict_update_2 _ _);unfold UP.«dict.update»;refine Y1 ?_;unfold RD;refine Y1 (PX i.typeIs ?_);show Xe _ _ (pure (d,[WA o])) _ _ s;refine XQ ?_;show Xe _ _ (Ux "dict.update" d (.ref o) [] .none) _ _ s;unfold Ux;refine Y1 (Sf a.typeIs ?_);rw[bq (by decide)];refine Y1 ?_;unfold Builtin.Dict.merge;refine Y1 ?_;unfold Builtin.Dict.readDirectly;refine Y1 (Ru a.typeIs isSubtype_dict_dict ?_);simp only[Bool.not_true,Wz,if_false];refine Y1 (Sm a.typeIs PySem.F.slot_dict_iter.lookup (XQ ?_));simp only[beq_self_eq_true,if_true];refine Y1 (XQ ?_);have l1:D.length=kvs.length:=(Paired.length f).symm;have l2:e.length=more.length:=(Paired.length b).symm;refine znj (by show X.A.units+1<Vz;lia) n j i a O (by lia) λh' m r=>?_;show Xe _ _ (RE d [] >>= _) _ _ _;refine Y1 (XQ (XQ ⟨_,rfl,?_⟩));revert m;refine fk λob G E g J L M _ N=>?_;have p:KT H (QX kvs more) (JO D e):=KT.puts b f;have hl:=zcm more kvs;refine⟨.non,_,zbW (t':=s.toks) (ob:=.dT (QX kvs more)) I (by rw[l];exact SH) r ⟨ob,g⟩ (cH (by lia) U (cG (p.keeps λc ys B=>?_) (dI ob G E g J L M N))),rfl,q⟩;rw[zj (zdy B l (λz=>nomatch z))];exact B
def zfI:jk X (.type "str") (λxs H Q=>∃v z,xs=[v]/\(v=V.str z\/∃i:Int,v=V.int i/\i.natAbs.log2<1920/\z=toString i)/\Q (.str z) H):=by
 intro a s c H xs b Q I r h;obtain⟨v,z,rfl,h,q⟩:=h;rcases h with rfl | ⟨i,rfl,d,rfl⟩
 .exact zey a s c H _ b Q I r ⟨z,rfl,q⟩
 .exact zaj a s c H _ b Q I r ⟨i,rfl,d,q⟩
def vals3 {x y z:V}{b:List X9}(r:Vals [x,y,z] b):∃u v a,b=[u,v,a]/\RelV x u/\RelV y v/\RelV z a:=by
 cases r with
 | cons c d =>
  obtain⟨v,a,rfl,h1,h2⟩:=vals2 d;exact⟨_,v,a,rfl,c,h1,h2⟩
def mx3 (i j k:Int):Int:=if j>i then (if k>j then k else j) else (if k>i then k else i)
def mn3 (i j k:Int):Int:=if j<i then (if k<j then k else j) else (if k<i then k else i)
def zjB (a:X.calm=true):jk X (.builtin "max") (λxs H Q=>∃i j k,xs=[.int i,.int j,.int k]/\Q (.int (mx3 i j k)) H):=by
 intro d s n H xs l Q I r h;obtain⟨i,j,k,rfl,q⟩:=h;obtain⟨u,v,m,rfl,⟨t,rfl⟩,⟨f,rfl⟩,⟨c,rfl⟩⟩:=vals3 r;refine max_three_ints (I.ok.hd a) λe g b=>⟨_,H,I.kept b,?_,q⟩;unfold mx3;split<;>split<;>exact⟨_,rfl⟩
def zjC (a:X.calm=true):jk X (.builtin "min") (λxs H Q=>∃i j k,xs=[.int i,.int j,.int k]/\Q (.int (mn3 i j k)) H):=by
 intro d s n H xs l Q I r h;obtain⟨i,j,k,rfl,q⟩:=h;obtain⟨u,v,m,rfl,⟨t,rfl⟩,⟨f,rfl⟩,⟨c,rfl⟩⟩:=vals3 r;refine min_three_ints (I.ok.hd a) λe g b=>⟨_,H,I.kept b,?_,q⟩;unfold mn3;split<;>split<;>exact⟨_,rfl⟩
def zhg (x:Str):∀(a:List X9),(∀j v,a[j]?=some v->SignAt x j v)->∀(n:Nat),a.length=n->n<=x.cps.size->Vals ((x.cps.toList.take n).map λc=>V.str ⟨#[c]⟩) a:=by
 intro a h n;induction n generalizing a with
 | zero =>
  intro f _;have:a=[]:=V6.mp f;subst this;exact .nil
 | succ n p =>
  intro f q;obtain⟨c,u,m,o⟩:=h n (a[n]'(by lia)) (XY (by lia));have g:a=a.take n++[a[n]'(by lia)]:=by
   have:=List.take_append_getElem (l:=a) (i:=n) (by lia);rw[this,<- f,XF]
  have b:x.cps.toList[n]?=some c:=by rw[XA];exact m
  rw[Xb,b,Xs,g];refine Vals.append (p (a.take n) (λj v d=>?_) (by rw[XJ];lia) (by lia)) (.cons ?_ .nil)
  .have e:j<n:=by
    have:=(XX.mp d).1;rw[XJ]at this;lia
   rw[Tu e]at d;exact h j v d
  .rw[o];exact⟨u,rfl⟩
def zcn (i:X.calm=true):jk X (.type "list") (λxs H Q=>∃x:Str,xs=[.str x]/\x.length<=Xv/\∀l,H l=none->Q (.ref l) (upd H l (.lst (x.cps.toList.map λc=>V.str ⟨#[c]⟩)))):=by
 intro z s B H xs A Q I r h;obtain⟨x,rfl,b,q⟩:=h;obtain⟨u,rfl,t,rfl⟩:=vals1 r;refine call_list_str (I.ok.hd i) x t (λf y a c p e o=>?_) b;obtain⟨n,g⟩:=o;have d:=zhg x a.toList (λj v m=>g j v (by rw[<- XA];exact m)) x.cps.size (by rw[XZ];exact n) (XT _);rw[WE (by rw[XZ];exact XT _)]at d;refine⟨.ref s.heap.objs.size,_,I.laid (t':=y) p (XT _) (show jy X.prog X.w _ f _ (.lst (x.cps.toList.map λc=>V.str ⟨#[c]⟩)) from ⟨?_,a.toList,c,d,e⟩),rfl,q _ (I.hok.fresh (XT _))⟩;rw[ZB,XZ];exact b
def zjD (n:X.A.units+64<Vz):OpR X (Wg .In) (λx y H Q=>∃d a,Rdv X.K H x d/\Rdv X.K H y (.tuple a)/\d.canLay0=true/\V5 a=true/\d.depth<=60/\Q (.bl (a.any λz=>WW z d)) H):=by
 intro l s o H x y v u Q I i j h;revert h;refine fu λd a c e c1 b m q=>?_;obtain⟨as,f⟩:=c.reads I i;obtain⟨bs,g⟩:=e.reads I j;exact SeqAt.in_tuple_reads g f b c1 (by lia) ⟨.bl _,H,I,rfl,q⟩
def zfJ:jk X (.builtin "len") (λxs H Q=>(∃p ys,xs=[.ref p]/\(SqL X.K H p ys\/SqT X.K H p ys)/\Q (.int ys.length) H)\/∃z:Str,xs=[.str z]/\z.length<=Xv/\Q (.int z.length) H):=by
 intro a s c H xs b Q I r h;rcases h with h | h
 .exact qo a s c H xs b Q I r h
 .exact zal a s c H xs b Q I r h
def zq1:IxR X (λx y H Q=>zpl X.K x y H Q\/zqQ x y H Q):=by
 intro b a c s g H x y v u Q I e f h d;rcases h with h | h
 .exact xG b a c s g H x y v u Q I e f h d
 .exact zkE b a c s g H x y v u Q I e f h d
end
open PySem
namespace ST
def run (a i:Nat):List Nat:=(WC (VB a i+1-i)).map (i + ·)
def walk (a:Nat):Nat->Nat->Nat->List Nat
 | 0,_,_=>[]
 | f+1,i,p=>run a i++walk a f (Vi a i p).1 (Vi a i p).2
def znk (a i:Nat):1<=(run a i).length/\(run a i).length<=10:=by
 unfold run VB;rw[ZB,WL];split<;>lia
theorem zco (a:Nat):∀f i p,(walk a f i p).length<=10*f
 | 0,_,_=>XT _
 | f+1,i,p=>by
  rw[walk,X4];have:=(znk a i).2;have:=zco a f (Vi a i p).1 (Vi a i p).2;lia
def steps (t:Wv):Nat->R7->R7
 | 0,p=>p
 | n+1,p=>steps t n (t.advance p)
theorem za3 (t:Wv):∀n m p,steps t (n+m) p=steps t m (steps t n p)
 | 0,m,p=>by rw[Wa];rfl
 | n+1,m,p=>by
  rw[show n+1+m=(n+m)+1 from by lia];exact za3 t n m (t.advance p)
theorem za4 (t:Wv)(i pt:Nat)(a:Option Nat):∀(d r j:Nat),d<=r->steps t d { j:=j,more:=r,i:=i,perturb:=pt,dummy:=a }={ j:=j+d,more:=r-d,i:=i,perturb:=pt,dummy:=a }
 | 0,r,j,_=>rfl
 | d+1,r,j,h=>by
  have e:t.advance { j:=j,more:=r,i:=i,perturb:=pt,dummy:=a }={ j:=j+1,more:=r-1,i:=i,perturb:=pt,dummy:=a }:=by
   unfold Rt;rw[bw (by show r>0;lia)]
  show steps t d (t.advance _)=_;rw[e,za4 t i pt a d (r-1) (j+1) (by lia)];congr 1<;>lia
def Ql (a i pt:Nat)(b:Option Nat):R7:={ j:=i,more:=VB a i-i,i:=i,perturb:=pt,dummy:=b }
def za5 (a i:Nat):i<=VB a i:=by
 unfold VB;split<;>lia
def zhh (t:Wv)(i pt:Nat)(a:Option Nat):steps t (run t.mask i).length (Ql t.mask i pt a)=Ql t.mask (Vi t.mask i pt).1 (Vi t.mask i pt).2 a:=by
 have b:(run t.mask i).length=(VB t.mask i-i)+1:=by
  unfold run;rw[ZB,WL];have:=za5 t.mask i;lia
 rw[b,za3];unfold Ql;rw[za4 t i pt a _ _ _ (XT _),TR];rw[steps,steps];unfold Rt;rw[bq (by show ¬ 0>0;lia)]
theorem JP (t:Wv):∀(f i pt:Nat) (a:Option Nat) (n:Nat) (j:Nat),(walk t.mask f i pt)[n]?=some j->(steps t n (Ql t.mask i pt a)).j=j
 | 0,_,_,_,_,_,h=>by simp[walk]at h
 | f+1,i,pt,a,n,j,h=>by
  rw[walk]at h;by_cases b:n<(run t.mask i).length
  .rw[V3 b]at h;unfold run at h;rw[XB,TF (by unfold run at b;simpa using b)]at h;have c:(run t.mask i).length=(VB t.mask i-i)+1:=by
    unfold run;rw[ZB,WL];have:=za5 t.mask i;lia
   unfold Ql;rw[za4 t i pt a n _ _ (by lia)];exact Option.some.inj h
  .rw[VP (by lia)]at h;have e:n=(run t.mask i).length+(n-(run t.mask i).length):=by lia
   rw[e,za3,zhh];exact JP t f _ _ a _ j h
theorem zeB (t:Wv)(Vw:Nat->Int)(h:Int):∀(n F:Nat) (p:R7),(∀k,k<n->∃i,t.slot (steps t k p).j=.live i/\(Vw i==h)=false)->n<=F->Ua t Vw h F p=Ua t Vw h (F-n) (steps t n p)
 | 0,F,p,_,_=>rfl
 | n+1,F,p,hk,d=>by
  obtain⟨a,rfl⟩:∃a,F=a+1:=⟨F-1,by lia⟩;obtain⟨i,h1,h2⟩:=hk 0 (by lia);have b:t.slot p.j=.live i:=h1;rw[Ua,b];show (if (Vw i==h)=true then _ else _)=_;rw[bq (by rw[h2];decide),zeB t Vw h n a (t.advance p) (λk c=>hk (k+1) (by lia)) (by lia),Nat.add_sub_add_right];rfl
def Up (xs:Array Nat):Prop:=∀i j,i<j->j<xs.size->xs.getD i 0<xs.getD j 0
def zk0 {xs:Array Nat}(U:Up xs)(j:Nat):∀(f lo a:Nat),a-lo<=f->lo<=a->a<=xs.size->(∀i,i<lo->xs.getD i 0<j)->(∀i,a<=i->i<xs.size->j<=xs.getD i 0) ->
  Vu xs j f lo a<=xs.size/\(∀i,i<Vu xs j f lo a->xs.getD i 0<j)/\(∀i,Vu xs j f lo a<=i->i<xs.size->j<=xs.getD i 0):=by
 intro f;induction f with
 | zero =>
  intro lo a o p d h1 h2;have:lo=a:=by lia
  subst this;exact⟨d,h1,h2⟩
 | succ f n =>
  intro lo a o p d h1 h2;by_cases b:lo<a
  .have r:(lo+a)/2<a:=by lia
   have q:lo<=(lo+a)/2:=by lia
   have c:(lo+a)/2<xs.size:=by lia
   have e:xs.getD ((lo+a)/2) j=xs.getD ((lo+a)/2) 0:=by
    simp[Array.getD,c]
   have m:Vu xs j (f+1) lo a=if xs.getD ((lo+a)/2) 0<j then Vu xs j f ((lo+a)/2+1) a else Vu xs j f lo ((lo+a)/2):=by
    rw[Vu,bw b];show (if xs.getD ((lo+a)/2) j<j then _ else _)=_;rw[e]
   by_cases g:xs.getD ((lo+a)/2) 0<j
   .rw[m,bw g];refine n ((lo+a)/2+1) a (by lia) (by lia) d (λi h=>?_) h2;by_cases he:i=(lo+a)/2
    .rw[he];exact g
    .exact TU (U i ((lo+a)/2) (by lia) c) g
   .rw[m,bq g];refine n lo ((lo+a)/2) (by lia) (by lia) (by lia) h1 (λi h l=>?_);by_cases he:i=(lo+a)/2
    .rw[he];lia
    .have:=U ((lo+a)/2) i (by lia) l;lia
  .rw[Vu,bq b];have:lo=a:=by lia
   subst this;exact⟨d,h1,h2⟩
def Zx {xs:Array Nat}(U:Up xs)(j:Nat):Xq xs j<=xs.size/\(∀i,i<Xq xs j->xs.getD i 0<j)/\(∀i,Xq xs j<=i->i<xs.size->j<=xs.getD i 0) :=
 zk0 U j xs.size 0 xs.size (by lia) (W1 _) (XT _) (λ_ h=>absurd h (Tq _)) (λi h1 h2=>absurd h2 (by lia))
def JQ {xs:Array Nat}{i:Nat}(h:i<xs.size):xs[i]?=some (xs.getD i 0):=by
 simp[Array.getD,h]
def Zy {t:Wv}(U:Up t.place){i:Nat}(a:i<t.place.size):t.slot (t.place.getD i 0)=.live i:=by
 have b:=Zx U (t.place.getD i 0);have e:Xq t.place (t.place.getD i 0)=i:=by
  rcases S1 (Xq t.place (t.place.getD i 0)) i with h | h | h
  .have h1:=b.2.2 _ (XT _) (by lia);have h2:=U _ i h a;lia
  .exact h
  .have:=b.2.1 i h;lia
 unfold SetTable.slot;simp only[e,JQ a];rw[bw (by simp)]
def slot_of {t:Wv}(U:Up t.place)(f:t.dummies=#[])(j:Nat):(∃i,i<t.place.size/\t.place.getD i 0=j/\t.slot j=.live i)\/(t.slot j=.empty/\∀i,i<t.place.size->t.place.getD i 0≠j):=by
 by_cases h:∃i,i<t.place.size/\t.place.getD i 0=j
 .obtain⟨i,a,rfl⟩:=h;exact .inl ⟨i,a,rfl,Zy U a⟩
 .have d:∀i,i<t.place.size->t.place.getD i 0≠j:=λi a e=>h ⟨i,a,e⟩;refine .inr ⟨?_,d⟩;unfold SetTable.slot;have h1:¬ ((t.place[Xq t.place j]?==some j)=true):=λz=>by
   have b:t.place[Xq t.place j]?=some j:=by simpa using z
   have c:Xq t.place j<t.place.size:=by
    rcases Uu (Xq t.place j) t.place.size with q | q
    .exact q
    .rw[WM q]at b;cases b
   rw[JQ c]at b;exact d _ c (Option.some.inj b)
  simp only[];rw[bq h1,f];rfl
def Reach (t:Wv)(h:Int)(j:Nat):Prop:=∃n:Nat,(walk t.mask (W6 t.mask) (XH h%(t.mask+1)) (XH h))[n]?=some j/\∀k:Nat,k<n->∀a,(walk t.mask (W6 t.mask) (XH h%(t.mask+1)) (XH h))[k]?=some a->∃i,i<t.place.size/\t.place.getD i 0=a
def zau (t:Wv)(h:Int):t.probeStart h=Ql t.mask (XH h%(t.mask+1)) (XH h) none:=rfl
theorem zfK (t:Wv):∀n p,(steps t n p).dummy=p.dummy
 | 0,_=>rfl
 | n+1,p=>by
  rw[steps,zfK t n];unfold Rt;split<;>rfl
def zfL {t:Wv}(U:Up t.place)(Vw:Nat->Int){h:Int}{i:Nat}(D:i<t.place.size)(A:Vw i=h)(one:∀e,e<t.place.size->Vw e=h->e=i)(R:Reach t h (t.place.getD i 0)):∃w,t.probe Vw h (t.probeStart h)=some (.candidate (t.place.getD i 0) i w):=by
 obtain⟨n,z,hk⟩:=R;have y:=(XX.mp z).1;have L:=zco t.mask (W6 t.mask) (XH h%(t.mask+1)) (XH h);have v:∀m:Nat,m<=n->(∀k,k<m->∃e,t.slot (steps t k (t.probeStart h)).j=.live e/\(Vw e==h)=false)\/∃f,f<m/\(∀k,k<f->∃e,t.slot (steps t k (t.probeStart h)).j=.live e/\(Vw e==h)=false)/\t.slot (steps t f (t.probeStart h)).j=.live i/\(steps t f (t.probeStart h)).j=t.place.getD i 0:=λm=>by
  induction m with
  | zero=>exact λ_=>.inl λk hk=>absurd hk (Tq _)
  | succ m J =>
   intro G;rcases J (by lia) with h1 | ⟨f,a,b⟩
   .have I:∃r,(walk t.mask (W6 t.mask) (XH h%(t.mask+1)) (XH h))[m]?=some r:=⟨_,XY (by lia)⟩;obtain⟨r,q⟩:=I;obtain⟨e,p,l⟩:=hk m (by lia) r q;have g:(steps t m (t.probeStart h)).j=r:=by
     rw[zau];exact JP t _ _ _ none m r q
    have s:t.slot (steps t m (t.probeStart h)).j=.live e:=by
     rw[g,<- l];exact Zy U p
    by_cases he:Vw e=h
    .have:=one e p he;subst this;exact .inr ⟨m,by lia,h1,s,by rw[g,l]⟩
    .refine .inl λk E=>?_;by_cases u:k=m
     .subst u;exact⟨e,s,by simpa using he⟩
     .exact h1 k (by lia)
   .exact .inr ⟨f,by lia,b⟩
 have o:∀m:Nat,m<10*W6 t.mask->(∀k,k<m->∃e,t.slot (steps t k (t.probeStart h)).j=.live e/\(Vw e==h)=false)->t.slot (steps t m (t.probeStart h)).j=.live i->(steps t m (t.probeStart h)).j=t.place.getD i 0->∃w,t.probe Vw h (t.probeStart h)=some (.candidate (t.place.getD i 0) i w):=λm G H s g=>by
  unfold SetTable.probe;rw[zeB t Vw h m _ _ H (by lia)];obtain⟨x,B⟩:∃x,10*W6 t.mask-m=x+1:=⟨10*W6 t.mask-m-1,by lia⟩;rw[B,Ua,s];simp only[];rw[bw (by simpa using A),g];exact⟨_,rfl⟩
 rcases v n (XT _) with h1 | ⟨f,a,b,c,d⟩
 .have g:(steps t n (t.probeStart h)).j=t.place.getD i 0:=by
   rw[zau];exact JP t _ _ _ none n _ z
  exact o n (by lia) h1 (by rw[g];exact Zy U D) g
 .exact o f (by lia) b c d
def zeC {t:Wv}(U:Up t.place)(z:t.dummies=#[])(Vw:Nat->Int){h:Int}(H:∀i,i<t.place.size->Vw i≠h){e:Nat}(he:∀i,i<t.place.size->t.place.getD i 0≠e)(D:e∈walk t.mask (W6 t.mask) (XH h%(t.mask+1)) (XH h)) :
  ∃j,t.probe Vw h (t.probeStart h)=some (.empty j none)/\t.slot j=.empty/\Reach t h j/\j∈walk t.mask (W6 t.mask) (XH h%(t.mask+1)) (XH h):=by
 obtain⟨N,u⟩:=PV.mp D;have v:=(XX.mp u).1;have L:=zco t.mask (W6 t.mask) (XH h%(t.mask+1)) (XH h);have r:∀m:Nat,m<=N+1->(∀k:Nat,k<m->∀f,(walk t.mask (W6 t.mask) (XH h%(t.mask+1)) (XH h))[k]?=some f->∃i,i<t.place.size/\t.place.getD i 0=f)\/∃g j:Nat,g<m/\(walk t.mask (W6 t.mask) (XH h%(t.mask+1)) (XH h))[g]?=some j/\t.slot j=.empty/\(∀k:Nat,k<g->∀f,(walk t.mask (W6 t.mask) (XH h%(t.mask+1)) (XH h))[k]?=some f->∃i,i<t.place.size/\t.place.getD i 0=f):=λm=>by
  induction m with
  | zero=>exact λ_=>.inl λk hk=>absurd hk (Tq _)
  | succ m E =>
   intro J;rcases E (by lia) with h1 | ⟨g,j,a,b⟩
   .obtain⟨f,l⟩:∃f,(walk t.mask (W6 t.mask) (XH h%(t.mask+1)) (XH h))[m]?=some f:=⟨_,XY (by lia)⟩;rcases slot_of U z f with ⟨i,o,p,_⟩ | ⟨I,_⟩
    .refine .inl λk A G n=>?_;by_cases q:k=m
     .subst q;rw[l]at n;exact⟨i,o,by rw[p];exact Option.some.inj n⟩
     .exact h1 k (by lia) G n
    .exact .inr (cO m f (by lia) l I h1)
   .exact .inr ⟨g,j,by lia,b⟩
 rcases r (N+1) (XT _) with h1 | ⟨g,j,a,b,c,d⟩
 .obtain⟨i,o,p⟩:=h1 N (by lia) e u;exact absurd p (he i o)
 .refine⟨j,?_,c,⟨g,b,d⟩,X8 b⟩;have x:(steps t g (t.probeStart h)).j=j:=by
   rw[zau];exact JP t _ _ _ none g j b
  have B:∀k,k<g->∃w,t.slot (steps t k (t.probeStart h)).j=.live w/\(Vw w==h)=false:=λk hk=>by
   obtain⟨f,l⟩:∃f,(walk t.mask (W6 t.mask) (XH h%(t.mask+1)) (XH h))[k]?=some f:=⟨_,XY (by lia)⟩;obtain⟨i,o,p⟩:=d k hk f l;refine⟨i,?_,by simpa using H i o⟩;have:(steps t k (t.probeStart h)).j=f:=by
    rw[zau];exact JP t _ _ _ none k f l
   rw[this,<- p];exact Zy U o
  unfold SetTable.probe;rw[zeB t Vw h g _ _ B (by lia)];obtain⟨s,y⟩:∃s,10*W6 t.mask-g=s+1:=⟨10*W6 t.mask-g-1,by lia⟩;rw[y,Ua,x,c];simp only[zfK];rfl
def orb (m:Nat):Nat->Nat->Nat
 | 0,i=>i
 | n+1,i=>orb m n ((i*5+1)%m)
def zjE (m:Nat):Nat->Nat->List Nat
 | 0,_=>[]
 | n+1,i=>i::zjE m n ((i*5+1)%m)
theorem zcp (m:Nat):∀(n i e:Nat),e∈zjE m n i->∃k,k<n/\orb m k i=e
 | 0,_,_,h=>nomatch h
 | n+1,i,e,h=>by
  rcases XI.mp h with rfl | h
  .exact⟨0,S7 _,rfl⟩
  .obtain⟨k,hk,q⟩:=zcp m n _ e h;exact⟨k+1,by lia,q⟩
theorem zbX (m:Nat):∀a b i,orb m (a+b) i=orb m b (orb m a i)
 | 0,b,i=>by rw[Wa];rfl
 | a+1,b,i=>by
  rw[show a+1+b=(a+b)+1 from by lia];exact zbX m a b _
def full {m:Nat}(h1:∀e,e<m->e∈zjE m m 0)(h2:orb m m 0=0){i e:Nat}(f:i<m)(he:e<m):∃k,k<m+1/\orb m k i=e:=by
 obtain⟨a,g,c⟩:=zcp m m 0 i (h1 i f);obtain⟨b,h,d⟩:=zcp m m 0 e (h1 e he);rcases Uu b a with q | q
 .refine⟨m-a+b,by lia,?_⟩;rw[<- c,<- zbX,show a+(m-a+b)=m+b from by lia,zbX,h2,d]
 .refine⟨b-a,by lia,?_⟩;rw[<- c,<- zbX,show a+(b-a)=b from by lia,d]
def zow:(∀e,e<8->e∈zjE 8 8 0)/\orb 8 8 0=0:=by decide+kernel
def zk1:(∀e,e<32->e∈zjE 32 32 0)/\orb 32 32 0=0:=by decide+kernel
def zij:(∀e,e<128->e∈zjE 128 128 0)/\orb 128 128 0=0:=by decide+kernel
def Zz (a:Nat):Nat->Nat->Nat->AA
 | 0,i,p=>(i,p)
 | n+1,i,p=>Zz a n (Vi a i p).1 (Vi a i p).2
theorem zdM (c:Nat):∀a b i p,Zz c (a+b) i p=Zz c b (Zz c a i p).1 (Zz c a i p).2
 | 0,b,i,p=>by rw[Wa];rfl
 | a+1,b,i,p=>by
  rw[show a+1+b=(a+b)+1 from by lia];exact zdM c a b _ _
theorem zik (a:Nat):∀n i p,(Zz a n i p).2=p/32^n
 | 0,i,p=>by rw[Nat.pow_zero,Nat.div_one];rfl
 | n+1,i,p=>by
  rw[Zz,zik a n];show p/32/32^n=_;rw[Nat.div_div_eq_div_mul,Ut,Nat.mul_comm]
theorem zfM (a:Nat):∀n i p,i<a+1->(Zz a n i p).1<a+1
 | 0,i,p,h=>h
 | n+1,i,p,h=>zfM a n _ _ (R9 _ (S7 _))
theorem zdN (a:Nat):∀n i,(Zz a n i 0).1=orb (a+1) n i
 | 0,_=>rfl
 | n+1,i=>by
  have b:(Vi a i 0).1=(i*5+1)%(a+1):=rfl;have c:(Vi a i 0).2=0:=rfl;rw[Zz,b,c];exact zdN a n _
theorem head_mem (a:Nat):∀(f n i p:Nat),n<f->(Zz a n i p).1∈walk a f i p
 | 0,_,_,_,h=>absurd h (Tq _)
 | f+1,0,i,p,_=>by
  rw[walk];refine WX _ ?_;unfold run;refine XN.mpr ⟨0,Ww.mpr ?_,by rfl⟩;have:=za5 a i;lia
 | f+1,n+1,i,p,h=>by
  rw[walk];exact WV _ (head_mem a f n _ _ (by lia))
def zfN {a:Nat}(g:a=7\/a=31\/a=127)(h:Int){e:Nat}(he:e<a+1):e∈walk a (W6 a) (XH h%(a+1)) (XH h):=by
 have f:XH h<2^64:=by
  unfold XH;have h1:=Ui h (show (2^64:Int)≠0 by decide);have h2:=Tj h (show (0:Int)<2^64 by decide);lia
 have i:(Zz a 13 (XH h%(a+1)) (XH h)).2=0:=by
  rw[zik];exact Nat.div_eq_of_lt (TU f (by decide))
 have b:=zfM a 13 (XH h%(a+1)) (XH h) (R9 _ (S7 _));obtain⟨k,hk,d⟩:∃k,k<a+1+1/\orb (a+1) k (Zz a 13 (XH h%(a+1)) (XH h)).1=e:=by
  rcases g with rfl | rfl | rfl
  .exact full zow.1 zow.2 b he
  .exact full zk1.1 zk1.2 b he
  .exact full zij.1 zij.2 b he
 have c:=head_mem a (W6 a) (13+k) (XH h%(a+1)) (XH h) (by unfold W6;lia);rw[zdM,i,zdN,d]at c;exact c
def YQ {α:Type}(xs:Array α){p:Nat}(x:α):(Xd xs p x).toList=xs.toList.take p++x::xs.toList.drop p:=by
 unfold Xd;simp;rw[WE (by rw[U4,XZ];lia)]
def zk2 {α:Type}(xs:Array α){p:Nat}(b:p<=xs.size)(x:α)(i:Nat):(Xd xs p x)[i]?=if i<p then xs[i]? else if i=p then some x else xs[i-1]?:=by
 have a:(xs.toList.take p).length=p:=by
  rw[XJ,XZ];lia
 rw[<- XA,YQ];by_cases h1:i<p
 .rw[bw h1,V3 (by lia),Tu h1,XA]
 .rw[bq h1,VP (by lia),a];by_cases h2:i=p
  .rw[bw h2,h2,TR];rfl
  .rw[bq h2,show i-p=(i-p-1)+1 from by lia,Rn,Ti,XA];congr 1;lia
def jI {α:Type}(xs:Array α){p:Nat}(a:p<=xs.size)(x:α):(Xd xs p x).size=xs.size+1:=by
 rw[<- XZ,YQ,X4,Xo,XJ,U4,XZ];lia
def ZA (xs:Array Nat){p:Nat}(a:p<=xs.size)(x i:Nat)(b:i<xs.size+1):(Xd xs p x).getD i 0=if i<p then xs.getD i 0 else if i=p then x else xs.getD (i-1) 0:=by
 have h:=zk2 xs a x i;rw[JQ (by rw[jI xs a x];exact b)]at h;by_cases h1:i<p
 .rw[bw h1]at h ⊢;rw[JQ (by lia)]at h;exact Option.some.inj h
 .rw[bq h1]at h ⊢;by_cases h2:i=p
  .rw[bw h2]at h ⊢;exact Option.some.inj h
  .rw[bq h2]at h ⊢;rw[JQ (by lia)]at h;exact Option.some.inj h
def zk3 {t:Wv}(U:Up t.place)(m:t.dummies=#[]){j:Nat}(he:∀i,i<t.place.size->t.place.getD i 0≠j):(t.put j).2=Xq t.place j/\(t.put j).1={ t with place:=Xd t.place (Xq t.place j) j }/\Up (Xd t.place (Xq t.place j) j):=by
 have b:=Zx U j;refine⟨rfl,?_,λa c f h=>?_⟩
 .unfold SetTable.put;simp only[m];rfl
 .rw[jI _ b.1]at h;rw[ZA _ b.1 _ _ (by lia),ZA _ b.1 _ _ h];have lo:∀i,i<Xq t.place j->t.place.getD i 0<j:=b.2.1;have l:∀i,Xq t.place j<=i->i<t.place.size->j<t.place.getD i 0:=λi h1 h2=>by
   have:=b.2.2 i h1 h2;have:=he i h2;lia
  by_cases d:a<Xq t.place j
  .rw[bw d];by_cases c1:c<Xq t.place j
   .rw[bw c1];exact U a c f (by lia)
   .rw[bq c1];by_cases e:c=Xq t.place j
    .rw[bw e];exact lo a d
    .rw[bq e];have h1:=lo a d;have h2:=l (c-1) (by lia) (by lia);lia
  .have c1:¬ c<Xq t.place j:=by lia
   have e:¬ c=Xq t.place j:=by lia
   rw[bq d,bq c1,bq e];by_cases g:a=Xq t.place j
   .rw[bw g];exact l (c-1) (by lia) (by lia)
   .rw[bq g];exact U (a-1) (c-1) (by lia) (by lia)
def Reach.more {t t':Wv}(g:t'.mask=t.mask)(l:∀i,i<t.place.size->∃a,a<t'.place.size/\t'.place.getD a 0=t.place.getD i 0){h:Int}{j:Nat}(R:Reach t h j):Reach t' h j:=by
 obtain⟨n,h1,h2⟩:=R;unfold Reach;rw[g];refine⟨n,h1,λk hk m d=>?_⟩;obtain⟨i,f,e⟩:=h2 k hk m d;obtain⟨a,c,b⟩:=l i f;exact⟨a,c,b.trans e⟩
def zk4 {t:Wv}(U:Up t.place)(j:Nat):∀i,i<t.place.size->∃a,a<(Xd t.place (Xq t.place j) j).size/\(Xd t.place (Xq t.place j) j).getD a 0=t.place.getD i 0:=λi c=>by
 have b:=Zx U j;by_cases h:i<Xq t.place j
 .refine⟨i,by rw[jI _ b.1];lia,?_⟩;rw[ZA _ b.1 _ _ (by lia),bw h]
 .refine⟨i+1,by rw[jI _ b.1];lia,?_⟩;rw[ZA _ b.1 _ _ (by lia),bq (by lia),bq (by lia),R1]
theorem zil (a:Nat)(owner:Array (Option Nat)):∀(f i p:Nat),SetTable.layClean.free a owner f i p=(walk a f i p).find? λj=>(owner.getD j (some 0)).isNone
 | 0,_,_=>rfl
 | f+1,i,p=>by
  rw[SetTable.layClean.free,walk,List.find?_append];unfold run;rw[List.find?_map];have e:((λj=>(owner.getD j (some 0)).isNone)∘λx=>i+x)=λk=>(owner.getD (i+k) (some 0)).isNone:=rfl;rw[e];cases h:(WC (VB a i+1-i)).find? λk=>(owner.getD (i+k) (some 0)).isNone with
  | some k=>rfl
  | none =>
   simp only[Option.map_none,Option.none_or];exact zil a owner f _ _
structure Own (mask:Nat)(hs:List Int)(owner:Array (Option Nat))(k:Nat):Prop where
 sz:owner.size=mask+1
 few:(owner.toList.countP λo=>o.isNone)+k=mask+1
 at_:∀i,i<k->∃j:Nat,owner[j]?=some (some i)/\∃n:Nat,(walk mask (W6 mask) (XH (hs.getD i 0)%(mask+1)) (XH (hs.getD i 0)))[n]?=some j/\∀m:Nat,m<n->∀j':Nat,(walk mask (W6 mask) (XH (hs.getD i 0)%(mask+1)) (XH (hs.getD i 0)))[m]?=some j'->∃o,owner[j']?=some (some o)
 lt:∀j i:Nat,owner[j]?=some (some i)->i<k
 inj:∀j j' i:Nat,owner[j]?=some (some i)->owner[j']?=some (some i)->j=j'
def Own.nil (a:Nat)(b:List Int):Own a b (Array.replicate (a+1) none) 0:=by
 refine⟨by simp,by rw[Array.toList_replicate,List.countP_replicate];rfl,λi h=>absurd h (Tq _),λj i h=>?_,λj c i h=>?_⟩
 .rw[RB]at h;split at h<;>cases h
 .rw[RB]at h;split at h<;>cases h
def count_set {l:List (Option Nat)}:∀{j:Nat} (k:Nat),l[j]?=some none->(l.set j (some k)).countP (λo=>o.isNone)+1=l.countP λo=>o.isNone:=by
 induction l with
 | nil=>exact λ_ h=>by simp at h
 | cons o r a =>
  intro j k h;cases j with
  | zero =>
   have:o=none:=by simpa using h
   subst this;simp[Wo]
  | succ j =>
   have:=a k (by simpa using h);rw[List.set_cons_succ,Wo,Wo];lia
def zjF {l:List (Option Nat)}(h:0<l.countP λo=>o.isNone):∃j:Nat,l[j]?=some none:=by
 obtain⟨o,c,b⟩:=Pb.mp h;obtain⟨j,a⟩:=PV.mp c;refine⟨j,?_⟩;rw[a];cases o with
 | none=>rfl
 | some _=>cases b
def getD_none {owner:Array (Option Nat)}{j:Nat}:(owner.getD j (some 0)).isNone=true↔owner[j]?=some none:=by
 by_cases h:j<owner.size
 .have e:owner[j]?=some (owner.getD j (some 0)):=by simp[Array.getD,h]
  rw[e];cases owner.getD j (some 0)<;>simp
 .have e:owner.getD j (some 0)=some 0:=by simp[Array.getD,h]
  rw[e,WM (by lia)];simp
theorem zeD (a:Nat):∀(f i p:Nat),i<a+1->∀j∈walk a f i p,j<a+1
 | 0,_,_,_,_,h=>nomatch h
 | f+1,i,p,c,j,h=>by
  rw[walk]at h;rcases XM.mp h with h | h
  .unfold run at h;obtain⟨k,hk,rfl⟩:=XN.mp h;have b:=Ww.mp hk;have:VB a i<=a:=by
    unfold VB;split<;>lia
   lia
  .exact zeD a f _ _ (R9 _ (S7 _)) j h
def Own.step {d:Nat}(J:d=7\/d=31\/d=127){g:List Int}{owner:Array (Option Nat)}{k:Nat}(O:Own d g owner k)(hk:k<d+1):∃j,SetTable.layClean.free d owner (W6 d) (XH (g.getD k 0)%(d+1)) (XH (g.getD k 0))=some j/\Own d g (owner.setIfInBounds j (some k)) (k+1):=by
 obtain⟨e,he⟩:=zjF (l:=owner.toList) (by have:=O.few;lia);rw[XA]at he;have I:e<owner.size:=by
  rcases Uu e owner.size with q | q
  .exact q
  .rw[WM q]at he;cases he
 have M:=zfN J (g.getD k 0) (e:=e) (by have:=O.sz;lia);rw[zil];cases A:(walk d (W6 d) (XH (g.getD k 0)%(d+1)) (XH (g.getD k 0))).find? λj=>(owner.getD j (some 0)).isNone with
 | none =>
  have:=List.find?_eq_none.mp A e M;exact absurd (getD_none.mpr he) this
 | some j =>
  refine⟨j,rfl,?_⟩;have y:owner[j]?=some none:=getD_none.mp (List.find?_some (p:=λj=>(owner.getD j (some 0)).isNone) A);have D:j<owner.size:=by
   rcases Uu j owner.size with q | q
   .exact q
   .rw[WM q]at y;cases y
  have get:∀i:Nat,(owner.setIfInBounds j (some k))[i]?=if j=i then some (some k) else owner[i]?:=λi=>by
   rw[Uh];by_cases h:j=i
   .rw[bw h,bw h];simp[D]
   .rw[bq h,bq h]
  have keep:∀(i o:Nat),owner[i]?=some (some o)->(owner.setIfInBounds j (some k))[i]?=some (some o):=λi o h=>by
   rw[get,bq (λz=>by rw[<- z,y]at h;cases h)];exact h
  refine⟨by rw[Tt];exact O.sz,?_,λi Q=>?_,λr i h=>?_,λG H i h1 h2=>?_⟩
  .rw[RW];have:=count_set (l:=owner.toList) (j:=j) k (by rw[XA];exact y);have:=O.few;lia
  .by_cases B:i=k
   .subst B;refine⟨j,by rw[get,bw rfl],?_⟩;refine eV (λ_=>eO λas bs u L=>?_) (List.find?_eq_some_iff_append.mp A);refine⟨as.length,by rw[u];simp,λm v r f=>?_⟩;rw[u,V3 v]at f;have s:=X8 f;have x:=L r s;have E:r∈walk d (W6 d) (XH (g.getD i 0)%(d+1)) (XH (g.getD i 0)):=by
     rw[u];exact WX _ s
    cases w:owner[r]? with
    | none =>
     have:=zeD d (W6 d) _ _ (R9 _ (S7 _)) r E;rw[Vs.mpr ⟨by rw[O.sz];exact this,rfl⟩]at w;cases w
    | some o =>
     cases o with
     | none =>
      rw[getD_none.mpr w]at x;cases x
     | some o=>exact⟨o,keep r o w⟩
   .refine eW (λN a n b c=>?_) (O.at_ i (by lia));refine⟨N,keep _ _ a,n,b,λm v r f=>?_⟩;obtain⟨o,w⟩:=c m v r f;exact⟨o,keep _ _ w⟩
  .rw[get]at h;split at h
   .have:k=i:=by simpa using h
    lia
   .have:=O.lt r i h;lia
  .rw[get]at h1 h2;split at h1<;>split at h2
   .lia
   .have:k=i:=by simpa using h1
    have:=O.lt H i h2;lia
   .have:k=i:=by simpa using h2
    have:=O.lt G i h1;lia
   .exact O.inj G H i h1 h2
theorem zfO {a:Nat}(i:a=7\/a=31\/a=127)(c:List Int)(p:c.length<=a+1):∀(l done:List Int) (owner:Array (Option Nat)),c=done++l->Own a c owner done.length ->
  ∃b,l.foldl (λ(f:Option (Array (Option Nat)×Nat)) h=>do
   let (owner,k) <- f
   let j <- SetTable.layClean.free a owner (W6 a) (XH h%(a+1)) (XH h)
   pure (owner.setIfInBounds j (some k),k+1)) (some (owner,done.length))=some (b,c.length)/\Own a c b c.length
 | [],done,owner,e,O=>by
  rw[Xu]at e;subst e;exact⟨owner,rfl,O⟩
 | h::r,done,owner,e,O=>by
  have o:c.getD done.length 0=h:=by
   rw[e];simp[List.getD]
  have d:done.length<a+1:=by
   have:c.length=done.length+(r.length+1):=by rw[e,X4,Xo]
   lia
  obtain⟨j,g,m⟩:=O.step i d;rw[o]at g;obtain⟨b,h1,h2⟩:=zfO i c p r (done++[h]) (owner.setIfInBounds j (some done.length)) (by rw[e,W3];rfl) (by rw[X4];exact m);refine⟨b,?_,h2⟩;rw[X4]at h1;rw[VW];have n:(do
   let (owner,k) <- (some (owner,done.length):Option (Array (Option Nat)×Nat))
   let j <- SetTable.layClean.free a owner (W6 a) (XH h%(a+1)) (XH h)
   pure (owner.setIfInBounds j (some k),k+1))=some (owner.setIfInBounds j (some done.length),done.length+1):=by
   show (SetTable.layClean.free a owner (W6 a) (XH h%(a+1)) (XH h)).bind _=_;rw[g];rfl
  rw[n];exact h1
def zpA {b:Nat}(d:b=7\/b=31\/b=127)(a:Array Int)(c:a.size<=b+1):∃owner,SetTable.layClean b a=some owner/\Own b a.toList owner a.size:=by
 obtain⟨owner,h1,h2⟩:=zfO d a.toList (by rw[XZ];exact c) a.toList [] _ rfl (Own.nil b _);rw[XZ]at h1 h2;refine⟨owner,?_,h2⟩;unfold SetTable.layClean;rw[<- Array.foldl_toList];exact congrArg (OU (·.1)) h1
def qU (a:Nat)(owner:Array (Option Nat)):AB:=(WC (a+1)).filterMap λj=>(owner.getD j none).map (j,·)
def JR {c:Nat}{owner:Array (Option Nat)}(sz:owner.size=c+1){j i:Nat}:(j,i)∈qU c owner↔owner[j]?=some (some i):=by
 unfold qU;rw[Tl];constructor
 .rintro⟨a,ha,h⟩;have d:a<owner.size:=by rw[sz];exact Ww.mp ha
  have e:owner[a]?=some (owner.getD a none):=by simp[Array.getD,d]
  cases ho:owner.getD a none with
  | none =>
   rw[ho]at h;cases h
  | some b =>
   rw[ho]at h;have f:(a,b)=(j,i):=Option.some.inj h;cases f;rw[e,ho]
 .intro h;have d:j<owner.size:=by
   rcases Uu j owner.size with q | q
   .exact q
   .rw[WM q]at h;cases h
  have e:owner[j]?=some (owner.getD j none):=by simp[Array.getD,d]
  refine⟨j,Ww.mpr (by rw[<- sz];exact d),?_⟩;rw[e]at h;rw[Option.some.inj h];rfl
def zim (c:Nat)(owner:Array (Option Nat)):(qU c owner).Pairwise λa b=>a.1<b.1:=by
 unfold qU;rw[List.pairwise_filterMap];refine List.pairwise_lt_range.imp λ{a b} f x d y e=>?_;cases h1:owner.getD a none with
 | none=>rw[h1]at d;cases d
 | some p =>
  cases h2:owner.getD b none with
  | none=>rw[h2]at e;cases e
  | some q =>
   rw[h1]at d;rw[h2]at e;have g:(a,p)=x:=Option.some.inj d;have h:(b,q)=y:=Option.some.inj e;rw[<- g,<- h];exact f
def zjG {c:Nat}{s:List Int}{owner:Array (Option Nat)}{k:Nat}(O:Own c s owner k):((qU c owner).map (·.2)).Perm (WC k):=by
 have u:((qU c owner).map (·.2)).Nodup:=by
  refine Wd.mpr ((zim c owner).imp_of_mem λ{a b} o p d e=>?_);obtain⟨f,g⟩:=a;obtain⟨h,m⟩:=b;have n:g=m:=e;subst n;have:=O.inj f h g ((JR O.sz).mp o) ((JR O.sz).mp p);have l:f<h:=d;lia
 refine(WD u List.nodup_range).mpr λi=>?_;rw[Ww,XN];constructor
 .rintro⟨⟨j,i'⟩,hm,rfl⟩;exact O.lt j _ ((JR O.sz).mp hm)
 .intro q;obtain⟨j,r,_⟩:=O.at_ i q;exact⟨(j,i),(JR O.sz).mpr r,rfl⟩
def znl {mask:Nat}(G:mask=7\/mask=31\/mask=127)(finger moves:Nat)(led plain:Bool)(e:Array Int)(E:e.size<=mask+1):∃place f,SetTable.laid mask finger moves led plain e=some ({ mask:=mask,place:=place,dummies:=#[],finger:=finger,led:=led,moves:=moves,plain:=plain },f) /\
  Up place/\place.size=e.size/\f.size=e.size/\f.toList.Perm (WC e.size)/\(∀i,i<place.size->place.getD i 0<mask+1) /\
  ∀i,i<place.size->Reach { mask:=mask,place:=place,dummies:=#[],finger:=finger,led:=led,moves:=moves,plain:=plain } (e.toList.getD (f.getD i 0) 0) (place.getD i 0):=by
 obtain⟨d,h1,O⟩:=zpA G e E;have perm:=zjG O;have up:=zim mask d;have z:(qU mask d).length=e.size:=by
  have:=perm.length_eq;rw[ZB,WL]at this;exact this
 have p:∀i (h:i<(qU mask d).length),((qU mask d).map (·.1)).toArray.getD i 0=((qU mask d)[i]).1:=λi h=>by
  simp[Array.getD,h]
 have H:∀i (h:i<(qU mask d).length),((qU mask d).map (·.2)).toArray.getD i 0=((qU mask d)[i]).2:=λi h=>by
  simp[Array.getD,h]
 refine cU ((qU mask d).map (·.1)).toArray ((qU mask d).map (·.2)).toArray ?_ (λi j s D=>?_) (by simp[z]) (by simp[z]) (cH perm (λi r=>?_) (λi r=>?_))
 .unfold SetTable.laid;rw[h1];rfl
 .have m:j<(qU mask d).length:=by simpa using D
  rw[p i (by lia),p j m];exact Vp.mp up i j (by lia) m s
 .have g:i<(qU mask d).length:=by simpa using r
  rw[p i g];have l:=Uy g;have:=(JR O.sz (j:=(qU mask d)[i].1) (i:=(qU mask d)[i].2)).mp l;rw[<- O.sz];rcases Uu (qU mask d)[i].1 d.size with q | q
  .exact q
  .rw[WM q]at this;cases this
 .have g:i<(qU mask d).length:=by simpa using r
  rw[p i g,H i g];have l:=Uy g;have v:=(JR O.sz (j:=(qU mask d)[i].1) (i:=(qU mask d)[i].2)).mp l;refine eW (λI a n b c=>?_) (O.at_ _ (O.lt _ _ v));have A:=O.inj _ _ _ a v;rw[A]at b;refine⟨n,b,λk hk y m=>?_⟩;obtain⟨o,u⟩:=c k hk y m;obtain⟨x,w,B⟩:=TD ((JR O.sz).mpr u);refine⟨x,by simpa using w,?_⟩;show ((qU mask d).map (·.1)).toArray.getD x 0=y;rw[p x w,B]
structure Good (t:Wv)(hs:Array Int):Prop where
 mask:t.mask=7\/t.mask=31\/t.mask=127
 sz:t.place.size=hs.size
 dum:t.dummies=#[]
 up:Up t.place
 le:∀i,i<t.place.size->t.place.getD i 0<t.mask+1
 room:t.place.size*5<t.mask*3
 reach:∀i,i<t.place.size->Reach t (hs.toList.getD i 0) (t.place.getD i 0)
def Good.free {t:Wv}{s:Array Int}(G:Good t s):∃e,e<t.mask+1/\∀i,i<t.place.size->t.place.getD i 0≠e:=by
 refine UT λr=>?_;have all:∀e,e<t.mask+1->∃i,i<t.place.size/\t.place.getD i 0=e:=λe he=>UT λh2=>r ⟨e,he,λi c z=>h2 ⟨i,c,z⟩⟩;have A:=G.room;have f:∀e,e<t.mask+1->∃i,i<t.place.size/\e<=i:=λe=>by
  induction e with
  | zero=>exact λh=>let ⟨i,c,_⟩:=all 0 h;⟨i,c,W1 _⟩
  | succ e D =>
   intro h;obtain⟨i,c,o⟩:=all (e+1) h;obtain⟨B,p,j⟩:=all e (by lia);have cnt:∀d,d<=e+1->∃i,i<t.place.size/\t.place.getD i 0=d/\d<=i:=λd=>by
    induction d with
    | zero=>exact λ_=>let ⟨i,c,he⟩:=all 0 (by lia);⟨i,c,he,W1 _⟩
    | succ d g =>
     intro y;obtain⟨a,m,w,E⟩:=g (by lia);obtain⟨b,n,l⟩:=all (d+1) (by lia);have:a<b:=by
      rcases S1 a b with q | q | q
      .exact q
      .subst q;lia
      .have:=G.up b a q m;lia
     exact⟨b,n,l,by lia⟩
   obtain⟨x,u,_,v⟩:=cnt (e+1) (XT _);exact⟨x,u,v⟩
 obtain⟨i,c,H⟩:=f t.mask (by lia);lia
def Good.found {t:Wv}{a:Array Int}(G:Good t a)(Vw:Nat->Int)(f:∀i,i<a.size->Vw i=a.toList.getD i 0)(j:a.toList.Nodup){i:Nat}(c:i<a.size):∃l,t.probe Vw (a.toList.getD i 0) (t.probeStart (a.toList.getD i 0))=some (.candidate (t.place.getD i 0) i l):=by
 have d:∀k (h:k<a.size),a.toList.getD k 0=a.toList[k]'(by rw[XZ];exact h):=λk h=>by
  rw[Xp,XY (by rw[XZ];exact h)];rfl
 refine zfL G.up Vw (by rw[G.sz];exact c) (f i c) (λg b e=>?_) (G.reach i (by rw[G.sz];exact c));rw[G.sz]at b;rw[f g b,d g b,d i c]at e;exact(List.getElem_inj j).mp e
def Good.missed {t:Wv}{b:Array Int}(G:Good t b)(Vw:Nat->Int)(g:∀i,i<b.size->Vw i=b.toList.getD i 0){h:Int}(m:h ∉ b.toList):∃j,t.probe Vw h (t.probeStart h)=some (.empty j none)/\j<t.mask+1/\(∀i,i<t.place.size->t.place.getD i 0≠j)/\Reach t h j:=by
 obtain⟨e,he,l⟩:=G.free;have c:∀i,i<t.place.size->Vw i≠h:=λi a z=>by
  rw[G.sz]at a;rw[g i a,Xp,XY (by rw[XZ];exact a)]at z;have n:b.toList[i]'(by rw[XZ];exact a)=h:=z;exact m (n ▸ Uy _)
 refine fK (λj h1 h2 d f=>?_) (zeC G.up G.dum Vw (h:=h) c l (zfN G.mask h he));refine⟨j,h1,zeD _ _ _ _ (R9 _ (S7 _)) j f,λi a z=>?_,d⟩;rw[<- z,Zy G.up a]at h2;cases h2
theorem Good.put {t:Wv}{c:Array Int}(G:Good t c){h:Int}{j:Nat}(p:j<t.mask+1)(he:∀i,i<t.place.size->t.place.getD i 0≠j)(R:Reach t h j)(e:(t.place.size+1)*5<t.mask*3):Good (t.put j).1 (Xd c (t.put j).2 h):=by
 obtain⟨o,n,U⟩:=zk3 G.up G.dum he;have b:=Zx G.up j;rw[o,n];have bs:Xq t.place j<=c.size:=by rw[<- G.sz];exact b.1
 have d:∀i,(Xd c (Xq t.place j) h).toList.getD i 0=if i<Xq t.place j then c.toList.getD i 0 else if i=Xq t.place j then h else c.toList.getD (i-1) 0:=λi=>by
  rw[Xp,XA,zk2 c bs];split
  .rw[Xp,XA]
  .split
   .rfl
   .rw[Xp,XA]
 have more:∀{g:Int} {l:Nat},Reach t g l->Reach { t with place:=Xd t.place (Xq t.place j) j } g l:=λm=>Reach.more (t:=t) (t':={ t with place:=Xd t.place (Xq t.place j) j }) rfl (zk4 G.up j) m;refine⟨G.mask,?_,G.dum,U,λi f=>?_,?_,λi f=>?_⟩
 .show (Xd t.place _ j).size=_;rw[jI _ b.1,jI _ bs,G.sz]
 .have a:i<t.place.size+1:=by
   have:=f;rw[show ({ t with place:=Xd t.place (Xq t.place j) j }:Wv).place=Xd t.place (Xq t.place j) j from rfl,jI _ b.1]at this;exact this
  show (Xd t.place _ j).getD i 0<t.mask+1;rw[ZA _ b.1 _ _ a];split
  .exact G.le i (by lia)
  .split
   .exact p
   .exact G.le (i-1) (by lia)
 .show (Xd t.place _ j).size*5<t.mask*3;rw[jI _ b.1];exact e
 .have a:i<t.place.size+1:=by
   have:=f;rw[show ({ t with place:=Xd t.place (Xq t.place j) j }:Wv).place=Xd t.place (Xq t.place j) j from rfl,jI _ b.1]at this;exact this
  show Reach _ _ ((Xd t.place _ j).getD i 0);rw[d,ZA _ b.1 _ _ a];by_cases h1:i<Xq t.place j
  .rw[bw h1,bw h1];exact more (G.reach i (by lia))
  .rw[bq h1,bq h1];by_cases h2:i=Xq t.place j
   .rw[bw h2,bw h2];exact more R
   .rw[bq h2,bq h2];exact more (G.reach (i-1) (by lia))
def zhi (t:Wv)(b:Array Int)(q:b.size=5\/b.size=19):∃t' a,t.relaid b (UB b.size)=some (t',a)/\a.size=b.size/\a.toList.Perm (WC b.size)/\t'.led=t.led/\t'.plain=t.plain/\t'.place.size=b.size/\Good t' (a.map λi=>b.toList.getD i 0):=by
 have c:∀mask,(mask=7\/mask=31\/mask=127)->b.size<=mask+1->b.size*5<mask*3->Th (UB b.size)-1=mask->∃t' a,t.relaid b (UB b.size)=some (t',a)/\a.size=b.size/\a.toList.Perm (WC b.size)/\t'.led=t.led/\t'.plain=t.plain/\t'.place.size=b.size/\Good t' (a.map λi=>b.toList.getD i 0):=λmask j p r l=>by
  refine eK (λplace a h1 h2 d g=>eN λm n o=>?_) (znl j t.finger (t.movedTo mask) t.led t.plain b p);refine cU { mask:=mask,place:=place,dummies:=#[],finger:=t.finger,led:=t.led,moves:=t.movedTo mask,plain:=t.plain } a ?_ g m rfl (cH rfl d ⟨j,?_,rfl,h2,n,?_,λi h=>?_⟩)
  .unfold SetTable.relaid;rw[l];exact h1
  .show place.size=_;rw[Vg,d,g]
  .show place.size*5<mask*3;rw[d];exact r
  .have f:i<a.size:=by
    have:i<place.size:=h;lia
   have e:(a.map λi=>b.toList.getD i 0).toList.getD i 0=b.toList.getD (a.getD i 0) 0:=by
    rw[Xp,XA,Array.getElem?_map,JQ f];rfl
   rw[e];exact o i h
 rcases q with e | e
 .exact c 31 (.inr (.inl rfl)) (by lia) (by lia) (by rw[e];decide+kernel)
 .exact c 127 (.inr (.inr rfl)) (by lia) (by lia) (by rw[e];decide+kernel)
def qv (a:Array (Int×X9))(ep:Nat)(t:Wv):Obj:={ cls:=.type "set",dict:=none,data:=.set a ep t }
def kP (p:Int×Int):List Key:=[.inl p.1,.inl p.2]
def InB (p:Int×Int):Prop:=(0<=p.1/\p.1<8)/\(0<=p.2/\p.2<8)
def hP (prog:Xh)(w:W2)(p:Int×Int):Int:=(tk2 prog w).hash (kP p)
section
variable {prog:Xh}{w:W2}{A:WO}{E:X9->X7->Prop}{s:X7}{a:Addr}{es:Array (Int×X9)}{ep:Nat}{t:Wv}
def zpB {p q:Int×Int}(x:InB p)(y:InB q)(e:hP prog w p=hP prog w q):p=q:=by
 obtain⟨a,b⟩:=p;obtain⟨f,g⟩:=q;obtain⟨⟨h,m⟩,n,o⟩:=x;obtain⟨⟨r,s⟩,u,v⟩:=y;simp only at h m n o r s u v;obtain⟨i,rfl⟩:∃i:Nat,a=i:=⟨a.toNat,by lia⟩;obtain⟨j,rfl⟩:∃i:Nat,b=i:=⟨b.toNat,by lia⟩;obtain⟨k,rfl⟩:∃i:Nat,f=i:=⟨f.toNat,by lia⟩;obtain⟨l,rfl⟩:∃i:Nat,g=i:=⟨g.toNat,by lia⟩;unfold hP kP at e;rw[Ze,Ze]at e;obtain⟨c,d⟩:=zfH (by lia) (by lia) (by lia) (by lia) e;rw[c,d]
def JS {h:Heap}{x:Addr}{p:Int×Int}(h1:zz h (.ref x) p):(tk2 prog w).is h (kP p) x:=by
 obtain⟨b,o,n,t,u,e,a,c,d⟩:=h1;cases e;exact⟨o,#[.int p.1 t,.int p.2 u],n,a,c,d,.cons (zaZ p.1 t) (.cons (zaZ p.2 u) .nil)⟩
theorem Good.fits {a:Array Int}(G:Good t a):t.fits a.size=true:=by
 have h1:=G.sz;have h2:=G.room;unfold SetTable.fits O3;rw[G.dum,h1];simp;lia
def Good.odd {a:Array Int}(G:Good t a):t.gaveWay=false:=by
 unfold SetTable.gaveWay;rcases G.mask with e | e | e<;>rw[e]<;>rfl
def xP {Q:Array (Int×X9)×Nat×Wv->X7->Prop}(b:s.heap.get? a=some (qv es ep t))(G:Good t (es.map (·.1)))(q:Q (es,ep,t) s):Xe (Xg prog w) A (setState a) Q E s:=by
 refine SZ b rfl ?_ q;have:=G.fits;rwa [Vg]at this
def zeE (i:Nat)(a:i<(es.map (·.1)).size):(es[i]?.map (·.1)).getD 0=(es.map (·.1)).toList.getD i 0:=by
 rw[Xp,XA,Array.getElem?_map]
def zdf {n:Nat}{h:Int}{x:X9}{Q:SetFound->X7->Prop}(g:s.heap.get? a=some (qv es ep t))(G:Good t (es.map (·.1)))(l:h ∉ (es.map (·.1)).toList)
  (d:∀j,j<t.mask+1->(∀i,i<t.place.size->t.place.getD i 0≠j)->Reach t h j->Q (.free j false) s):Xe (Xg prog w) A (RG a x h true (n+1) none) Q E s:=by
 obtain⟨j,e,h1,h2,c⟩:=G.missed (λi=>(es[i]?.map (·.1)).getD 0) zeE l;rw[RG];refine Y1 (xP g G ?_);dsimp only;rw[G.odd,bq XU];generalize f:t.probe _ h _=m;have b:m=some (.empty j none):=f.symm.trans e;subst b;exact XQ (d j h1 h2 c)
def zdO {d:Nat}{x:Addr}{p:Int×Int}{Q:Bool->X7->Prop}(B:zz s.heap (.ref x) p)(q:Q false s):Xe (Xg prog w) A (SY 8 (.ref x)) Q E s:=by
 obtain⟨b,o,n,t,u,e,j,m,y⟩:=B;cases e;have z:s.TypeIs (.ref x) "tuple":=⟨o,j,m⟩;unfold SY;refine Y1 (Sf z ?_);dsimp only;rw[bw (by decide)];refine Y1 (XQ ?_);rw[bq (by decide)];refine Y1 (wpAny_seqItems j y ?_);dsimp only;refine Y1 ?_;rw[<- R3];refine TM _ (λc r h=>r.1=none/\h=s/\∀v∈c,∃i t,v=Vm i t) _ ?_ ?_ _ _ ⟨rfl,rfl,λv l=>?_⟩
 .rintro v c r h ⟨f,rfl,a⟩;obtain⟨i,t,rfl⟩:=a v XR;rw[show SY 7 (Vm i t)=pure false by unfold SY;rfl];refine Y1 (XQ ?_);rw[bq XU];exact XQ ⟨rfl,rfl,λu g=>a u (XV _ g)⟩
 .rintro⟨r1,r2⟩ h ⟨f,rfl,_⟩;simp only at f;subst f;exact XQ q
 .simp at l;rcases l with rfl | rfl
  .exact⟨_,_,rfl⟩
  .exact⟨_,_,rfl⟩
def zk5 {x:Addr}{p:Int×Int}{l:List X9}{Q:Bool->X7->Prop}(i:zz s.heap (.ref x) p)(j:∀v∈l,∃b q,v=.ref b/\zz s.heap (.ref b) q)(q:Q false s):Xe (Xg prog w) A (searchCouldBeSeen (.ref x) l) Q E s:=by
 unfold searchCouldBeSeen;refine Y1 ?_;refine TM _ (λc r g=>r.1=none/\g=s/\∀v∈c,∃b q,v=.ref b/\zz s.heap (.ref b) q) _ ?_ ?_ _ _ ⟨rfl,rfl,j⟩
 .rintro v c r g ⟨f,rfl,a⟩;refine eO (λb m z0 h=>?_) (a v XR);subst z0;dsimp only;split
  .exact XQ ⟨rfl,rfl,λu e=>a u (XV _ e)⟩
  .refine Y1 ((tk2 prog w).quiet (JS i) ?_);rw[bq (by decide)];refine Y1 ((tk2 prog w).quiet (JS h) ?_);rw[bq (by decide)];refine Y1 (zdO (d:=0) i ?_);rw[bq XU];refine Y1 (zdO (d:=0) h ?_);rw[bq XU];exact XQ ⟨rfl,rfl,λu e=>a u (XV _ e)⟩
 .rintro⟨r1,r2⟩ g ⟨f,rfl,_⟩;simp only at f;subst f;exact XQ q
def zk6 {x:Addr}{p:Int×Int}{Q:Bool->X7->Prop}(z:zz s.heap (.ref x) p)(q:Q true s):Xe (Xg prog w) A (PD 8 (.ref x)) Q E s:=by
 obtain⟨b,o,n,t,u,e,h,l,m⟩:=z;cases e;have y:s.TypeIs (.ref x) "tuple":=⟨o,h,l⟩;unfold PD;refine Y1 (Sm y PySem.F.slot_tuple_hash.lookup ?_);dsimp only;refine Y1 (wpAny_seqItems h m ?_);dsimp only[Option.getD];refine Y1 ?_;rw[<- R3];refine TM _ (λc r g=>r.1=none/\g=s/\∀v∈c,∃i t,v=Vm i t) _ ?_ ?_ _ _ ⟨rfl,rfl,λv j=>?_⟩
 .rintro v c r g ⟨d,rfl,a⟩;obtain⟨i,t,rfl⟩:=a v XR;rw[show PD 7 (Vm i t)=pure true by unfold PD;rfl];refine Y1 (XQ ?_);rw[bq (by decide)];exact XQ ⟨rfl,rfl,λu f=>a u (XV _ f)⟩
 .rintro⟨r1,r2⟩ g ⟨d,rfl,_⟩;simp only at d;subst d;exact XQ q
 .simp at j;rcases j with rfl | rfl
  .exact⟨_,_,rfl⟩
  .exact⟨_,_,rfl⟩
def zeF {n:Nat}{h:Int}{x b:Addr}{p:Int×Int}{i:Nat}{Q:SetFound->X7->Prop}(o:A.units<Vz)(f:s.heap.get? a=some (qv es ep t))(G:Good t (es.map (·.1)))(B:(es.map (·.1)).toList.Nodup)
  (all:∀e∈es.toList,∃b q,e.2=WA b/\zz s.heap (.ref b) q) (d:es[i]?=some (h,.ref b)) (g:zz s.heap (.ref x) p) (l:zz s.heap (.ref b) p)
  (j:Q (.there none) s):Xe (Xg prog w) A (RG a (.ref x) h true (n+1) none) Q E s:=by
 have c:i<(es.map (·.1)).size:=by
  rw[Vg];exact(Vs.mp d).1
 have r:(es.map (·.1)).toList.getD i 0=h:=by
  rw[<- zeE i c,d];rfl
 obtain⟨D,e⟩:=G.found (λi=>(es[i]?.map (·.1)).getD 0) zeE B c;rw[r]at e;rw[RG];refine Y1 (xP f G ?_);dsimp only;rw[G.odd,bq XU];generalize y:t.probe _ h _=m;have u:m=some (.candidate (t.place.getD i 0) i D):=y.symm.trans e;subst u;dsimp only;have seen:∀v∈(es.filter (·.1==h)).toList.map (·.2),∃b q,v=WA b/\zz s.heap (.ref b) q:=λv z=>by
  obtain⟨e,he,rfl⟩:=XN.mp z;rw[Pd]at he;exact all e (X5.mp he).1
 rw[d];cases hl:t.led with
 | true =>
  rw[bq (by decide)];refine Y1 (VO ((tk2 prog w).eqBool o (JS l) (JS g) ?_));refine Y1 (xP f G ?_);dsimp only;rw[br rfl,bw (by decide)];exact XQ j
 | false =>
  rw[bw (by decide)];refine Y1 (zk5 g seen ?_);rw[bq XU];refine Y1 (VO ((tk2 prog w).eqBool o (JS l) (JS g) ?_));refine Y1 (xP f G ?_);dsimp only;rw[br rfl,bw (by decide)];exact XQ j
end
def zcq (f:Int×Int->Int)(q:Addr×(Int×Int)):Int×X9:=(f q.2,WA q.1)
structure zdg (f:Int×Int->Int)(led:Bool)(h:Heap)(a:Addr)(ks:List (Addr×(Int×Int))):Prop where
 ex:∃es ep t,h.get? a=some (qv es ep t)/\es.toList=ks.map (zcq f)/\Good t (es.map (·.1))/\t.led=led/\t.plain=true
 nd:(ks.map (·.2)).Nodup
 cells:∀q∈ks,zz h (.ref q.1) q.2
 inb:∀q∈ks,InB q.2
def zz.up {h h':Heap}{x:Addr}{p:Int×Int}(H:zz h (.ref x) p){a:Addr}(j:V1 a h h'){o:Obj}(i:h.get? a=some o)(g:o.cls=.type "set"):zz h' (.ref x) p:=by
 obtain⟨b,l,n,t,u,e,c,d,f⟩:=H;cases e;refine⟨x,l,n,t,u,rfl,?_,d,f⟩;rw[j.2 x λz=>?_]
 .exact c
 .subst z;rw[i]at c;cases c;rw[g]at d;exact absurd d (by decide)
section
variable {prog:Xh}{w:W2}{A:WO}{E:X9->X7->Prop}{s:X7}{a:Addr}{es:Array (Int×X9)}{ep:Nat}{t:Wv}{ks:List (Addr×(Int×Int))}{f:Int×Int->Int}{led:Bool}
def Z6 (he:es.toList=ks.map (zcq f)):(es.map (·.1)).toList=ks.map λq=>f q.2:=by
 rw[U0,he,Wj];rfl
def zjH (inj:∀p q,InB p->InB q->f p=f q->p=q)(b:(ks.map (·.2)).Nodup)(a:∀q∈ks,InB q.2):(ks.map λq=>f q.2).Nodup:=by
 rw[OT,Wd]at b ⊢;refine b.imp_of_mem λ{x y} c d h e=>h (inj _ _ (a x c) (a y d) e)
def zfP {b:Array (Int×X9)}{t':Wv}{Q:Unit->X7->Prop}(c:s.heap.get? a=some (qv es ep t))(hz:b.size<=64)
  (q:∀h',V1 a s.heap h'->h'.get? a=some (qv b (ep+1) t')->Q () { s with heap:=h' }):Xe (Xg prog w) A (storeSet a b t') Q E s:=by
 refine wpAny_storeSet_of (o:=qv es ep t) c rfl (q _ (Wq ..) ?_) (X6 hz (by rw[T3];decide));have:=Wh (Obj.putSet b t') c (by rw[putSet_of b t' (o:=qv es ep t) rfl];rfl);rw[putSet_of b t' (o:=qv es ep t) rfl]at this;exact this
theorem zfQ {α:Type}(d:α)(xs:Array α):∀(l:List Nat),(∀i∈l,i<xs.size)->l.filterMap (λi=>xs[i]?)=l.map λi=>xs.toList.getD i d
 | [],_=>rfl
 | i::l,h=>by
  have a:=h i XR;rw[Vb,XD,Vo a];dsimp only;rw[zfQ d xs l λj b=>h j (XV _ b)];congr 1;rw[Xp,XA,Vo a];rfl
def zeG {n:Nat}(a:n=5\/n=19):¬ Th (UB n)>Xv:=by
 rw[T3];rcases a with rfl | rfl
 .rw[show Th (UB 5)=32 by decide+kernel];lia
 .rw[show Th (UB 19)=128 by decide+kernel];lia
def zk7 {Q:Unit->X7->Prop}(x:s.heap.get? a=some (qv es ep t))(H:t.fits es.size=true)(v:es.size=5\/es.size=19)(he:es.toList=ks.map (zcq f))
  (q:∀(h':Heap) (c:Array (Int×X9)) (t':Wv) (l:List (Addr×(Int×Int))),V1 a s.heap h'->h'.get? a=some (qv c (ep+1) t')->c.toList=l.map (zcq f)->l.Perm ks->Good t' (c.map (·.1))->t'.led=t.led->t'.plain=t.plain->Q () { s with heap:=h' }):Xe (Xg prog w) A (setRelay a (UB es.size)) Q E s:=by
 have j:(es.map (·.1)).size=es.size:=Vg ..;refine eK (λt' b r u m y=>eN λz B D=>?_) (zhi t (es.map (·.1)) (by rw[j];exact v));rw[j]at r u m B;have d:∀i∈b.toList,i<es.size:=λi h=>Ww.mp (m.mem_iff.mp h);have p:ks.length=es.size:=by
  rw[<- XZ,he,ZB]
 have e:Addr×(Int×Int):=(0,(0,0));have n:(b.filterMap (es[·]?)).toList=(b.toList.map λi=>ks.getD i e).map (zcq f):=by
  rw[Array.toList_filterMap,zfQ (zcq f e) es b.toList d,Wj];refine W9 λi h=>?_;have h1:=d i h;show es.toList.getD i _=zcq f (ks.getD i e);rw[he,Xp,XB,Xp,XY (by lia),Uj,TQ,TQ]
 have g:(b.filterMap (es[·]?)).size=es.size:=by
  rw[<- XZ,n,ZB,ZB,XZ,u]
 unfold setRelay;refine Y1 (SZ (o:=qv es ep t) x rfl H ?_);dsimp only;rw[bq (zeG v),r];refine Y1 ?_;show Xe (Xg prog w) A (do
  let c:=b.filterMap (es[·]?)
  if c.size != es.size then PF "internal:set-table-lost-an-element"
  pure (c,t')) _ _ _
 dsimp only;rw[g,bq (by simp)];refine XQ ?_;dsimp only;refine zfP x (by rw[g];lia) λh' h1 h2=>q h' _ t' _ h1 h2 n ?_ ?_ y z
 .have:=m.map λi=>ks.getD i e;rw[<- p,zg7]at this;exact this
 .have G:(b.filterMap (es[·]?)).map (·.1)=b.map λi=>(es.map (·.1)).toList.getD i 0:=by
   apply Array.toList_inj.mp;rw[Z6 n,U0,Wj];refine W9 λi h=>?_;have h1:=d i h;show f (ks.getD i e).2=_;rw[Z6 he,Xp,Xp,XB,XY (by lia),Uj,TQ,TQ]
  rw[G];exact D
def zk8 {n:Nat}{x:Addr}{p:Int×Int}{Q:Bool->X7->Prop}(inj:∀p q,InB p->InB q->f p=f q->p=q)(hu:A.units<Vz)(S:zdg f led s.heap a ks)(hx:zz s.heap (.ref x) p)(hb:InB p)(hn:p ∉ ks.map (·.2)->ks.length<63)
  (q:∀(b:Bool) (h':Heap) (d:List (Addr×(Int×Int))),V1 a s.heap h'->zdg f led h' a d->(∀c,c∈d.map (·.2)↔c∈ks.map (·.2)\/c=p)->(∀c∈d,c∈ks\/c=(x,p))->Q b { s with heap:=h' }) :
  Xe (Xg prog w) A (setAddHashedIn a (.ref x) (f p) (n+1)) Q E s:=by
 obtain⟨⟨es,ep,t,J,he,G,hl,hp⟩,nd,hc,I⟩:=S;have aj:ks.length=es.size:=by
  rw[<- XZ,he,ZB]
 generalize hh:f p=h;rw[setAddHashedIn];refine Y1 (xP J G ?_);dsimp only;rw[show byScan (.ref x) es=false by simp[byScan,Value.scannable],bq XU];by_cases hm:p∈ks.map (·.2)
 .obtain⟨⟨b,p'⟩,hk,e⟩:=XN.mp hm;simp only at e;subst e;obtain⟨i,hi,ei⟩:=TD hk;have eg:es[i]?=some (h,.ref b):=by
   rw[<- XA,he,XB,XY hi,ei,<- hh];rfl
  unfold setSearch;refine Y1 (zeF (n:=99999) hu J G (by rw[Z6 he];exact zjH inj nd I) (λe ac=>?_) eg hx (hc _ hk) ?_)
  .rw[he]at ac;obtain⟨c,h1,rfl⟩:=XN.mp ac;exact⟨c.1,c.2,rfl,hc c h1⟩
  .refine XQ (q false s.heap ks (Heap.SameBut.refl _ _) ⟨⟨es,ep,t,J,he,G,hl,hp⟩,nd,hc,I⟩ (λc=>⟨.inl,λz=>z.elim id λz=>z ▸ hm⟩) λc h1=>.inl h1)
 .have ah:=hn hm;have no:h ∉ (es.map (·.1)).toList:=λz=>by
   rw[Z6 he,<- hh]at z;obtain⟨c,h1,h2⟩:=XN.mp z;exact hm (XN.mpr ⟨c,h1,inj _ _ (I c h1) hb h2⟩)
  unfold setSearch;refine Y1 (zdf (n:=99999) J G no λj h1 h2 h3=>?_);dsimp only;refine Y1 (xP J G ?_);obtain⟨f1,f2,f3⟩:=zk3 G.up G.dum h2;have g:t.place.size=es.size:=by rw[G.sz,Vg]
  have bs:Xq t.place j<=es.size:=by
   rw[<- g];exact(Zx G.up j).1
  generalize ai:Xq t.place j=pos at f1 f2 f3 bs;have r:(t.put j).1.plain=true:=by rw[f2];exact hp
  have D:(t.put j).1.led=led:=by rw[f2];exact hl
  have H:∃B,B=ks.take pos++(x,p)::ks.drop pos:=⟨_,rfl⟩;obtain⟨B,H⟩:=H;have ab:(Xd es pos (h,WA x)).toList=B.map (zcq f):=by
   rw[YQ,he,H,Xs,XD,O2,List.map_drop];simp only[zcq,hh]
  have o:(Xd es pos (h,WA x)).size=es.size+1:=jI _ bs _;have pm:B.Perm ((x,p)::ks):=by
   rw[H];refine List.perm_middle.trans (List.Perm.cons _ ?_);rw[W5]
  have m:(t.put j).1.fits (Xd es pos (h,WA x)).size=true:=by
   have hr:=G.room;have bp:pos<=t.place.size:=by rw[g];exact bs
   rw[o,f2];unfold SetTable.fits O3;simp only[G.dum,jI _ bp,g];rcases G.mask with e | e | e<;>simp[e]<;>rw[g,e]at hr<;>lia
  have aa:∀(h':Heap) (d:List (Addr×(Int×Int))) (l:Array (Int×X9)) (M:Nat) (L:Wv),V1 a s.heap h'->h'.get? a=some (qv l M L)->l.toList=d.map (zcq f)->d.Perm ((x,p)::ks)->Good L (l.map (·.1))->L.led=led->L.plain=true->Q true { s with heap:=h' }:=by
   intro h' d l M L hs hg N v hG O Y;have mem:∀c,c∈d↔c=(x,p)\/c∈ks:=λc=>by rw[v.mem_iff,XI]
   refine q true h' d hs ⟨⟨l,M,L,hg,N,hG,O,Y⟩,?_,λc u=>?_,λc u=>?_⟩ (λc=>?_) λc u=>(mem c).mp u |>.symm
   .rw[(v.map (·.2)).nodup_iff,XD,Wf];exact⟨hm,nd⟩
   .rcases(mem c).mp u with rfl | z
    .exact zz.up hx hs J rfl
    .exact zz.up (hc c z) hs J rfl
   .rcases(mem c).mp u with rfl | z
    .exact hb
    .exact I c z
   .rw[(v.map (·.2)).mem_iff,XD,XI];exact Or.comm
  have eT:t.put j=((t.put j).1,pos):=by rw[<- f1]
  have fl:(t.put j).1.tooFull=decide ((es.size+1)*5 >= t.mask*3):=by
   have bp:pos<=t.place.size:=by rw[g];exact bs
   rw[f2];unfold SetTable.tooFull O3;simp only[G.dum,jI _ bp,g];rfl
  have gd:¬ (es.size+1)*5 >= t.mask*3->Good (t.put j).1 ((Xd es pos (h,WA x)).map (·.1)):=λhr=>by
   have:=G.put (h:=h) h1 h2 h3 (by rw[g];lia);rw[f1]at this;have e:(Xd es pos (h,WA x)).map (·.1)=Xd (es.map (·.1)) pos h:=by
    apply Array.toList_inj.mp;rw[U0,YQ,YQ,U0,Xs,XD,O2,List.map_drop]
   rw[e];exact this
  have y:=G.room;have U:=G.mask;rw[g]at y;dsimp only;rw[eT];dsimp only;generalize t.put j=T at r D m fl gd;obtain⟨t1,p1⟩:=T;dsimp only at r D m fl gd ⊢;rw[r,bw rfl];refine Y1 (zk6 hx ?_);rw[bw rfl];refine Y1 (zfP J (by rw[o];lia) λh' hs hg=>?_);by_cases full:(es.size+1)*5 >= t.mask*3
  .rw[fl,br full,bw (by decide)];rw[<- o];refine Y1 (zk7 (s:={ s with heap:=h' }) hg m (by rw[o];rcases U with e | e | e<;>rw[e]at full y<;>lia) ab λae l L d ag af N v hG O Y=>?_);exact XQ (aa ae d l _ L (hs.trans ag) af N (v.trans pm) hG (O.trans D) (Y.trans r))
  .rw[fl,bf full,bq (by decide)];exact XQ (aa h' B _ _ t1 hs hg ab pm (gd full) D r)
def zk9 {x:Addr}{p:Int×Int}{Q:Bool->X7->Prop}(e:A.units<Vz)(S:zdg (hP prog w) led s.heap a ks)(f:zz s.heap (.ref x) p)(h:InB p)(i:p ∉ ks.map (·.2)->ks.length<63)
  (q:∀(b:Bool) (h':Heap) (d:List (Addr×(Int×Int))),V1 a s.heap h'->zdg (hP prog w) led h' a d->(∀c,c∈d.map (·.2)↔c∈ks.map (·.2)\/c=p)->(∀c∈d,c∈ks\/c=(x,p))->Q b { s with heap:=h',toks:=s.toks+3 }) :
  Xe (Xg prog w) A (setAdd a (.ref x)) Q E s:=by
 unfold setAdd;refine VO (Y1 ((tk2 prog w).pyHash e (JS f) ?_));show Xe (Xg prog w) A (setAddHashed a (.ref x) (hP prog w p)) Q E { s with toks:=s.toks+3 };unfold setAddHashed;refine VO ?_;exact zk8 (n:=99999) (s:={ s with toks:=s.toks+3 }) (λp q h1 h2 g=>zpB h1 h2 g) e S f h i q
end
theorem zin {α:Type}(next:Nat->Nat):∀(fuel k:Nat) (left:List α) (a:Array α),left.length=fuel->(pickOrder.go next fuel k left a).toList.Perm (a.toList++left)
 | 0,k,left,a,h=>by
  rw[V6.mp h,Xu];exact List.Perm.refl _
 | fuel+1,k,left,a,h=>by
  have b:next k%left.length<left.length:=R9 _ (by lia)
  rw[pickOrder.go,XY b];dsimp only;refine(zin next fuel (k+1) _ _ (by rw[List.length_eraseIdx_of_lt b];lia)).trans ?_;rw[SX,W3];refine SQ _ ?_;have e:left=left.take (next k%left.length)++left[next k%left.length]::left.drop (next k%left.length+1):=by
   rw[<- WB b,W5]
  rw[List.eraseIdx_eq_take_drop_succ];have c:=@List.perm_middle _ left[next k%left.length] (left.take (next k%left.length)) (left.drop (next k%left.length+1));rw[<- e]at c;exact c.symm
def zjI {α:Type}(next:Nat->Nat)(xs:Array α):(Rw next xs).toList.Perm xs.toList:=by
 have h:=zin next xs.size 0 xs.toList #[] (by simp)
 rw[show (#[]:Array α).toList++xs.toList=xs.toList from rfl]at h;exact h
def yv:Slot "set_iterator" "__next__" "set_iterator.__next__" :=
 .of (owner:="set_iterator") (n:="__next__") (by rw[Tr,UV];kernel_rfl) (by decide+kernel) (by decide+kernel) (by decide+kernel) (.inl (by decide+kernel)) (by rw[Px];kernel_rfl)
def zav:Ow table "set_iterator.__next__"=some UP.«set_iterator.__next__»:=entryFor_of_tree (by kernel_rfl)
def zcr:Manifest.owners.lookup (String.ofList ['r','o','t','a','r','e','t','i','_','t','e','s'].reverse)=some Manifest.sig_set_iterator:=by kernel_rfl
def zbs (a:X9):argsOk "set_iterator.__next__" ⟨[a],[]⟩:=by
 unfold argsOk;rw[signature?_of (id:="set_iterator.__next__") (n:=['_','_','t','x','e','n','_','_']) (o:=['r','o','t','a','r','e','t','i','_','t','e','s']) (by kernel_rfl) zcr];kernel_rfl
def zeH:Ow table "set.__iter__"=some UP.«frozenset.__iter__»:=entryFor_alias (id':="frozenset.__iter__") (by kernel_rfl) rfl (by decide+kernel) (by kernel_rfl)
def zcs (b i:Nat)(a:Addr)(n ep:Nat):Obj:={ cls:=.type "set_iterator",data:=.fields #[Ue b,Ue i,.ref a,Ue n,Ue ep] }
def slotAt (a:Bool)(t:Wv)(i:Nat):Nat:=if a then 0 else if i=0 then 0 else t.place.getD (i-1) 0+1
def ZC (w:W2)(a:Addr)(ep:Nat)(b:Array (Int×X9)):Array (Int×X9):=if w.params.followText "set-order" then Rw (w.params.setOrder a ep) b else b
def zaw (w:W2)(a:Addr)(ep:Nat)(b:Array (Int×X9)):(ZC w a ep b).toList.Perm b.toList:=by
 unfold ZC;split
 .exact zjI _ _
 .exact List.Perm.refl _
section
variable {prog:Xh}{w:W2}{A:WO}{E:X9->X7->Prop}{s:X7}{a:Addr}{es:Array (Int×X9)}{ep:Nat}{t:Wv}
def zeI {Q:Bool->X7->Prop}(q:Q (w.params.followText "set-order") s):Xe (Xg prog w) A setsByText Q E s:=by
 unfold setsByText;exact Y1 (Rs (XQ q))
def below_at {t:Wv}(U:Up t.place){i:Nat}(d:i<=t.place.size):Xq t.place (slotAt false t i)=i:=by
 obtain⟨c,a,b⟩:=Zx U (slotAt false t i);unfold slotAt at *
 simp only[Wz,if_false]at *
 by_cases h0:i=0
 .subst h0;rw[bw rfl]at *
  rcases Nat.eq_zero_or_pos (Xq t.place 0) with e | e
  .exact e
  .have:=a 0 e;lia
 .rw[bq h0]at *
  rcases S1 (Xq t.place (t.place.getD (i-1) 0+1)) i with e | e | e
  .have:=b (i-1) (by lia) (by lia);lia
  .exact e
  .have h1:=a i e;have h2:=U (i-1) i (by lia) (by lia);lia
def zio {i:Nat}{Q:Option (X9×Nat)->X7->Prop}(g:s.heap.get? a=some (qv es ep t))(G:Good t (es.map (·.1)))(f:t.led=!w.params.followText "set-order")(m:t.plain=true)(o:i<=es.size)
  (b:∀v,(ZC w a ep es)[i]?.map (·.2)=some v->Q (some (v,slotAt (w.params.followText "set-order") t (i+1))) s) (j:i=es.size->Q none s) :
  Xe (Xg prog w) A (setNext a (slotAt (w.params.followText "set-order") t i) i ep) Q E s:=by
 have n:t.place.size=es.size:=by rw[G.sz,Vg]
 have d:(ZC w a ep es).size=es.size:=by
  rw[<- XZ,(zaw w a ep es).length_eq,XZ]
 unfold setNext;refine Y1 (xP g G ?_);dsimp only;refine Y1 (zeI ?_);cases hb:w.params.followText "set-order" with
 | true =>
  rw[bw rfl];rw[hb]at b;rw[bq (by simp)];unfold setWalk;refine Y1 (Y1 (xP g G ?_));dsimp only;refine Y1 (zeI ?_);rw[hb,bw rfl];refine Y1 (Rs (XQ (XQ ?_)));have c:ZC w a ep es=Rw (w.params.setOrder a ep) es:=by
   unfold ZC;rw[hb,bw rfl]
  rw[c]at b d;show Q (OU _ (Rw (w.params.setOrder a ep) es)[i]?) s;by_cases h:i<es.size
  .have e:(Rw (w.params.setOrder a ep) es)[i]?=some (Rw (w.params.setOrder a ep) es)[i]:=Vo (by lia);rw[e]at b ⊢;exact b _ rfl
  .rw[WM (by lia)];exact j (by lia)
 | false =>
  rw[bq XU];rw[hb]at b f;have c:ZC w a ep es=es:=by
   unfold ZC;rw[hb,bq XU]
  rw[c]at b;split
  .rename_i h;exact absurd h (by show ¬ ((!t.plain&&decide (es.size>1))=true);rw[m];exact XU)
  refine Y1 ?_;show Xe _ _ (if (!t.led && !es.isEmpty)=true then PF "set:maker-not-led" else pure ()) _ _ _;rw[f,bq (by simp)];refine XQ ?_;rw[below_at G.up (by lia)];by_cases h:i<es.size
  .have e:es[i]?=some es[i]:=Vo h;have l:t.place[i]?=some (t.place.getD i 0):=JQ (by lia);rw[e]at b ⊢;rw[l];refine XQ (b _ rfl)
  .rw[WM (by lia)];exact XQ (j (by lia))
end
def zdP:Slot "set_iterator" "__iter__" "set_iterator.__iter__" :=
 .of (owner:="set_iterator") (n:="__iter__") (by rw[Tr,UV];kernel_rfl) (by decide+kernel) (by decide+kernel) (by decide+kernel) (.inl (by decide+kernel)) (by rw[Px];kernel_rfl)
def zhj:Ow table "set_iterator.__iter__"=some UP.«dict_keyiterator.__iter__»:=entryFor_alias (id':="dict_keyiterator.__iter__") (by kernel_rfl) rfl (by decide+kernel) (by kernel_rfl)
def zjJ (a:X9):argsOk "set_iterator.__iter__" ⟨[a],[]⟩:=by
 unfold argsOk;rw[signature?_of (id:="set_iterator.__iter__") (n:=['_','_','r','e','t','i','_','_']) (o:=['r','o','t','a','r','e','t','i','_','t','e','s']) (by kernel_rfl) zcr];kernel_rfl
section
variable {prog:Xh}{w:W2}{A:WO}{E:X9->X7->Prop}{s:X7}{a I:Addr}{es:Array (Int×X9)}{ep:Nat}{t:Wv}
def zhk {b i a n ep:Nat}(x y:Nat):Sy (·.setIfInBounds 1 (Ue y)) (Sy (·.setIfInBounds 0 (Ue x)) (zcs b i a n ep))=zcs x y a n ep:=rfl
def znm {i:Nat}{Q:Option X9->X7->Prop}(b:s.heap.get? I=some (zcs (slotAt (w.params.followText "set-order") t i) i a es.size ep))(d:s.heap.get? a=some (qv es ep t))(G:Good t (es.map (·.1)))(f:t.led=!w.params.followText "set-order")(g:t.plain=true)(e:i<es.size)
  (q:∀v h',(ZC w a ep es)[i]?.map (·.2)=some v->h'.get? I=some (zcs (slotAt (w.params.followText "set-order") t (i+1)) (i+1) a es.size ep)->V1 I s.heap h'->Q (some v) { s with heap:=h' }) :
  Xe (Xg prog w) A (Sa (.ref I)) Q E s:=by
 have c:s.TypeIs (.ref I) "set_iterator":=⟨_,b,rfl⟩;unfold Sa;refine Y1 (RI (Rm (name:=Str.ofString "__next__") c yv (U1 yv c zav ?_ (zbs _))));unfold UP.«set_iterator.__next__»;refine Y1 (XQ ?_);refine Y1 (wpAny_fieldsOf b rfl ?_);dsimp only[Ue];refine Y1 (Si (o:=qv es ep t) d rfl ?_ ?_)
 .have:=G.fits;rwa [Vg]at this
 rw[bq (by simp)];show Xe _ _ (setNext a (slotAt (w.params.followText "set-order") t i) i ep >>= _) _ _ _;refine Y1 (zio d G f g (TX e) (λv h=>?_) λz=>absurd z (by lia));dsimp only;refine Y1 (Pw b rfl (by simp[zcs]) ?_);have h1:=Wh (Sy (·.setIfInBounds 0 (Ue ((slotAt (w.params.followText "set-order") t (i+1):Nat):Int)))) b rfl;refine Y1 (Pw h1 rfl (by simp[zcs,Sy]) ?_);have h2:=Wh (Sy (·.setIfInBounds 1 (Ue ((i:Int)+1)))) h1 rfl;refine XQ ⟨_,rfl,XQ (q v _ h ?_ ((Wq ..).trans (Wq ..)))⟩;rw[show ((i:Int)+1)=((i+1:Nat):Int) by lia]at h2 ⊢;rw[zhk]at h2;exact h2
def zpC {Q:Option X9->X7->Prop}(g:A.handled=none)(c:s.heap.get? I=some (zcs (slotAt (w.params.followText "set-order") t es.size) es.size a es.size ep))(e:s.heap.get? a=some (qv es ep t))(G:Good t (es.map (·.1)))(h:t.led=!w.params.followText "set-order")(j:t.plain=true)
  (q:∀h',Heap.ExtBut I s.heap h'->Q none { s with heap:=h' }):Xe (Xg prog w) A (Sa (.ref I)) Q E s:=by
 have d:s.TypeIs (.ref I) "set_iterator":=⟨_,c,rfl⟩;unfold Sa;refine Y1 (RI (Rm (name:=Str.ofString "__next__") d yv (U1 yv d zav ?_ (zbs _))));unfold UP.«set_iterator.__next__»;refine Y1 (XQ ?_);refine Y1 (wpAny_fieldsOf c rfl ?_);dsimp only[Ue];refine Y1 (Si (o:=qv es ep t) e rfl ?_ ?_)
 .have:=G.fits;rwa [Vg]at this
 rw[bq (by simp)];show Xe _ _ (setNext a (slotAt (w.params.followText "set-order") t es.size) es.size ep >>= _) _ _ _;refine Y1 (zio e G h j (XT _) (λv f=>?_) λ_=>?_)
 .have i:(ZC w a ep es).size=es.size:=by
   rw[<- XZ,(zaw w a ep es).length_eq,XZ]
  rw[WM (by lia)]at f;cases f
 dsimp only;refine Y1 (Pw c rfl (by simp[zcs]) ?_);refine Y1 ?_;simp only[newExc,newTuple];refine Y1 (VJ ?_ (by size_fits));refine Y1 (m:=R8 _ _) (OE (a:=T4) (by first | rfl | (simp only[R8];rfl)) ?_);refine VJ ?_ (by size_fits);simp only[raiseNew];refine Y1 (wpAny_handled ?_);rw[show A.in1.handled=none from g];refine Y1 (XQ (wpAny_throw ?_));refine Y1 (Ru (T:="StopIteration") (b:=true) ⟨_,W4 _ rfl,rfl⟩ isSubtype_stop ?_);exact XQ (q _ (((Wq ..).extBut.push _).push _))
def znn {b i n:Nat}{Q:X9->X7->Prop}(d:s.heap.get? I=some (zcs b i a n ep))(q:Q (.ref I) s):Xe (Xg prog w) A (pyIter (.ref I)) Q E s:=by
 have c:s.TypeIs (.ref I) "set_iterator":=⟨_,d,rfl⟩;refine wpAny_pyIter_slot c zdP (U1 zdP c zhj ?_ (zjJ _));exact XQ ⟨_,rfl,"set_iterator",_,c,yv.lookup,q⟩
def walks (hh:A.handled=none)(hne:a≠I)(G:Good t (es.map (·.1)))(hl:t.led=!w.params.followText "set-order")(hp:t.plain=true) :
  Walks prog w A I [I,a] [I] es.size (λi v=>(ZC w a ep es)[i]?.map (·.2)=some v) (λi h=>h.get? I=some (zcs (slotAt (w.params.followText "set-order") t i) i a es.size ep)/\h.get? a=some (qv es ep t)) where
 sub:=λb hb=>by simp at hb;simp[hb]
 frame:=λ_ _ _ st hk=>⟨hk I (by simp) _ st.1,hk a (by simp) _ st.2⟩
 item:=λi s Q E hi st hQ=>znm st.1 st.2 G hl hp hi λv h' hv h1 hs=>hQ v h' s.toks hv ⟨h1,(hs.2 a hne).trans st.2⟩ λb o hb e=>(hs.2 b λz=>hb (by simp[z])).trans e
 done:=λs Q E st hQ=>zpC hh st.1 st.2 G hl hp λh' he=>hQ h' s.toks λb o hb e=>he b o (λz=>hb (by simp[z])) e
 self:=λ_ _ _ _ st hQ=>znn st.1 hQ
def zfR:splitId "set.__len__"=some ("set","__len__"):=by decide+kernel
def zfS {Q:List X9->X7->Prop}(hh:A.handled=none)(ho:s.heap.get? a=some (qv es ep t))(G:Good t (es.map (·.1)))(hl:t.led=!w.params.followText "set-order")(hp:t.plain=true)(hn:es.size<=64)
  (q:∀vs h' tk,vs.Perm (es.toList.map (·.2))->(∀b o,s.heap.get? b=some o->h'.get? b=some o)->s.heap.objs.size<=h'.objs.size->Q vs { s with heap:=h',toks:=tk }):Xe (Xg prog w) A (collect (.ref a)) Q E s:=by
 have g:a<s.heap.objs.size:=Xz ho;unfold collect;refine Y1 (wpAny_runValue (VC PySem.F.entry_proto_collect ?_));rw[V4 PySem.F.plain_proto_collect _];show Xe _ A.in1 (newList [] >>= λl=>OF (.builtin "list.__iadd__" ⟨[l,.ref a],[]⟩)) _ _ s;refine Y1 (VJ ?_);refine XQ ⟨UJ Rl _,VC PySem.F.entry_list_iadd ?_⟩;rw[V4 Rl _];show Xe _ A.in1 (Sc (.ref s.heap.objs.size) (.ref a) (.ref s.heap.objs.size)) _ _ _;generalize D:(s.heap.push { cls:=.type "list",data:=.seq ([]:List X9).toArray })=h1;have f:h1.get? a=some (qv es ep t):=by rw[<- D];exact XW _ ho
 have L:h1.get? s.heap.objs.size=some { cls:=.type "list",data:=.seq #[] }:=by rw[<- D];exact W4 _ rfl
 have ab:∀b o,s.heap.get? b=some o->h1.get? b=some o:=λb o e=>by rw[<- D];exact XW _ e
 have I:h1.objs.size=s.heap.objs.size+1:=by rw[<- D];exact UZ ..
 have N:Sz { s with heap:=h1 } (.ref a) "set":=⟨_,f,rfl⟩;have J:RA (.ref s.heap.objs.size) (.ref a)=false:=by
  simp[RA];exact TW g
 unfold Sc;refine Y1 (Sf N ?_);rw[bq (by rw[J];decide)];have U:t.fits es.size=true:=by
  have:=G.fits;rwa [Vg]at this
 refine Y1 (wpAny_pyIter_slot N PU (U1 PU N zeH ?_ (PySem.F.args_set_iter_1 _)));unfold UP.«frozenset.__iter__» Builtin.Frozenset.slot0 slotArgs;simp only[List.isEmpty_nil,Bool.not_true,Wz,↓reduceIte,bind_assoc,VN,bne_self_eq_false];unfold Builtin.Frozenset.addrOf Builtin.Frozenset.sizeOf;refine Y1 (XQ ?_);dsimp only;refine Y1 (XQ ?_);refine Y1 (Y1 (Si (s:={ s with heap:=h1 }) (o:=qv es ep t) f rfl U (XQ ?_)));unfold setDrawn;refine Y1 (Y1 (SZ (s:={ s with heap:=h1 }) (o:=qv es ep t) f rfl U ?_));dsimp only;refine Y1 (zeI (XQ ?_));split
 .rename_i h;exact absurd h (by show ¬ ((!w.params.followText "set-order" && (!t.plain&&decide (es.size>1)))=true);rw[hp];simp)
 refine Y1 (XQ ?_);unfold setEpoch;refine Y1 (Y1 (SZ (s:={ s with heap:=h1 }) (o:=qv es ep t) f rfl U (XQ ?_)));unfold newFields;refine Y1 (VJ ?_);generalize B:h1.push { cls:=.type "set_iterator",data:=.fields (List.toArray [Ue 0,Ue 0,WA a,Ue ((es.size:Nat):Int),Ue ((ep:Nat):Int)]) }=h2;have y:h2.get? a=some (qv es ep t):=by rw[<- B];exact XW _ f
 have u:h2.get? s.heap.objs.size=some { cls:=.type "list",data:=.seq #[] }:=by rw[<- B];exact XW _ L
 have ac:∀b o,s.heap.get? b=some o->h2.get? b=some o:=λb o e=>by rw[<- B];exact XW _ (ab b o e)
 have p:h2.get? h1.objs.size=some (zcs 0 0 a es.size ep):=by rw[<- B];exact W4 _ rfl
 have O:Sz { s with heap:=h2 } (.ref h1.objs.size) "set_iterator":=⟨_,p,rfl⟩;have m:Sz { s with heap:=h2 } (.ref a) "set":=⟨_,y,rfl⟩;refine XQ (dF rfl "set_iterator" (cH O yv.lookup ?_));refine Y1 (VO ?_);unfold Builtin.List.listLengthHint;refine Y1 (Sm m PySem.F.slot_set_len.lookup ?_);dsimp only;rw[zfR];dsimp only;refine Y1 (Ru (b:=true) m sub_set_self ?_);rw[bq (by decide)];show Xe _ _ (typeOf (WA a) >>= _) _ _ _;refine Y1 (Sf m ?_);show Xe _ _ (pure false) _ _ _;refine XQ ?_;show Xe _ A.in1 (rule "list.extend.makes-room" >>= λ_=>Builtin.List.listTouch (.ref s.heap.objs.size) >>= λ_=>OF (.builtin "list.extend.loop" ⟨[.ref s.heap.objs.size,.ref h1.objs.size,.ref s.heap.objs.size],[]⟩)) _ _ _;refine Y1 (Vd (Y1 ?_));show Xe _ A.in1 (updateSeq s.heap.objs.size (·.push .none) >>= λ_=>updateSeq s.heap.objs.size (·.pop)) _ _ _;refine Y1 (wpAny_updateSeq u rfl ?_);have v:=Wh (Vc (·.push T4)) u rfl;refine wpAny_updateSeq v rfl ?_;have x:=Wh (Vc (·.pop)) v rfl;have j:∀b o,b≠s.heap.objs.size->h2.get? b=some o->((h2.update s.heap.objs.size (Vc (·.push T4))).update s.heap.objs.size (Vc (·.pop))).get? b=some o :=
  λb o n e=>(Uo _ _ (Vq n)).trans ((Uo _ _ (Vq n)).trans e)
 generalize (h2.update s.heap.objs.size (Vc (·.push T4))).update s.heap.objs.size (Vc (·.pop))=h4 at x j;have aa:a≠h1.objs.size:=by
  rw[I];exact Xf (Wm g)
 have M:s.heap.objs.size ∉ [h1.objs.size,a]:=by
  rw[I];simp only[XI,TN,or_false,not_or];exact⟨Xf (SE _),TW g⟩
 have af:slotAt (w.params.followText "set-order") t 0=0:=by
  unfold slotAt;split<;>rfl
 have ag:(ZC w a ep es).size=es.size:=by
  rw[<- XZ,(zaw w a ep es).length_eq,XZ]
 refine XQ ⟨UJ PySem.F.plain_extend_loop _,codeAny_extend_loopS ((walks (A:=A.in1) (prog:=prog) (ep:=ep) hh aa G hl hp).toS) (X6 hn (by rw[T3];decide)) _ M _ es.size 0 _ _ _ rfl (W1 _)
  ⟨by rw[af];exact j _ _ (by rw[I];exact U3 _) p,j _ _ (Xf g) y⟩ x (ItemsOf.nil _) λs' c c' H r d=>?_⟩
 show Xe _ A (load s.heap.objs.size >>= _) _ _ s';refine Y1 (wpAny_load r ?_);obtain⟨h',g',d',ah,ae⟩:=s';have eg:g'=s.gens:=H.gens;have ed:d'=s.drawn:=H.drawn;have eo:ae=s.os:=H.os;subst eg;subst ed;subst eo;refine XQ (q _ _ _ ?_ (λb o e=>?_) (TX (Xz r)))
 .have e:c.toList=(ZC w a ep es).toList.map (·.2):=by
   refine SW λi=>?_;rw[XA,XB,XA];by_cases hi:i<es.size
   .have Y:i<c.size:=by rw[d.1];exact hi
    have e1:c[i]?=some c[i]:=Vo Y;rw[e1];exact(d.2 i _ e1).symm
   .rw[WM (by rw[d.1];lia),WM (by lia)];rfl
  rw[e];exact(zaw w a ep es).map _
 .have n:b<s.heap.objs.size:=Xz e;refine H.heap b o (λz=>?_) (j b o (Xf n) (ac b o e));rcases XI.mp z with z | z
  .exact VG _ (z ▸ n)
  .have z':b=h1.objs.size:=by simpa using z
   rw[z',I]at n;exact absurd n (Nat.not_lt.mpr (VM _))
end
end ST
open PySem PySem.Spec PyProof.Rows PySem.W
namespace ST
def zfT (prog:Xh)(w:W2)(d:Addr)(ks:List (Addr×(Int×Int))):HO:=.ext λh=>∃a b t,h.get? d=some (qv a b t)/\a.toList=ks.map (zcq (hP prog w))/\Good t (a.map (·.1))/\t.led=(!w.params.followText "set-order")/\t.plain=true
section
variable {prog:Xh}{w:W2}{A:WO}{R:OH->X7->Prop}{I:Addr}{fp wr:List Addr}{G:Array Su->Array Su->Prop}{n:Nat}{P:Nat->X9->Prop}{St:Nat->X7->Prop}{led:Bool}
def zla {h0:Heap}(W:WalksS prog w A.in1 I fp wr G n P St)(D:Addr)(M:D ∉ fp)(ai:h0.get? D=none)(ar:∀b∈wr,h0.get? b=none)(ps:List (Int×Int))(Y:ps.length=n)(hu:A.units+1<Vz)
  (T:Addr->Int×Int->Prop) (hT:∀x p,T x p->zz h0 (.ref x) p) (ak:∀i v,P i v->∃x p,v=.ref x/\ps[i]?=some p/\T x p) (y:∀p∈ps,InB p) (ah:∀l:List (Int×Int),l.Nodup->(∀c∈l,c∈ps)->l.length<=63) :
  ∀(k i:Nat) (s:X7) (ks:List (Addr×(Int×Int))),n-i=k->i<=n->St i s->(∀b o,h0.get? b=some o->s.heap.get? b=some o)->zdg (hP prog w) led s.heap D ks->(∀c,c∈ks.map (·.2)↔c∈ps.take i)->(∀q∈ks,T q.1 q.2) ->
   (∀s' r,Moved (D::wr) G s s'->zdg (hP prog w) led s'.heap D r->(∀c,c∈r.map (·.2)↔c∈ps)->(∀q∈r,T q.1 q.2)->R (.ok (.ret .none)) s') ->
   Ta (Xg prog w) A (.builtin "set.update.loop" ⟨[.ref D,.ref I],[]⟩) R s:=by
 have aj:D ∉ wr:=λh=>M (W.sub _ h);have more:∀b∈wr,b∈D::wr:=λb y=>XV _ y;have d:∀{h:Heap} {x:Addr} {p:Int×Int},(∀b o,h0.get? b=some o->h.get? b=some o)->T x p->zz h (.ref x) p:=λE hx=>by
  obtain⟨b,o,m,t,u,e,e1,e2,e3⟩:=hT _ _ hx;exact⟨b,o,m,t,u,e,E _ _ e1,e2,e3⟩
 have a:∀{s s':X7},Moved wr G s s'->(∀b o,h0.get? b=some o->s.heap.get? b=some o)->∀b o,h0.get? b=some o->s'.heap.get? b=some o:=λj E b o e =>
  j.heap b o (λy=>by
   rw[ar b y]at e;cases e) (E b o e)
 have f:∀{s s':X7} {ks:List (Addr×(Int×Int))},Moved wr G s s'->(∀b o,h0.get? b=some o->s'.heap.get? b=some o)->(∀q∈ks,T q.1 q.2)->zdg (hP prog w) led s.heap D ks->zdg (hP prog w) led s'.heap D ks :=
  λj E hk ⟨⟨es,ep,t,e1,e2⟩,e3,_,e5⟩=>⟨⟨es,ep,t,j.heap D _ aj e1,e2⟩,e3,λq hq=>d E (hk q hq),e5⟩
 intro k;induction k with
 | zero =>
  intro i s ks hk hi J E hS B g hR;have an:i=n:=by lia
  subst an;refine VC Tz ?_;rw[V4 U9 _];show Xe _ A.in1 (Sa (.ref I) >>= _) _ _ s;refine Y1 (W.done s _ _ J λs' j=>?_);refine XQ (hR s' ks (j.mono more) (f j (a j E) g hS) (λc=>?_) g);rw[B c,<- Y,XF]
 | succ k ih =>
  intro i s ks hk hi J E hS B g hR;have aa:i<n:=by lia
  refine VC Tz ?_;rw[V4 U9 _];show Xe _ A.in1 (Sa (.ref I) >>= _) _ _ s;refine Y1 (W.item i s _ _ aa J λv s' al af j=>?_);refine eF (λx p z0 hq hx=>?_) (ak i v al);subst z0;have L:=a j E;have N:=f j L g hS;have ae:p∈ps:=X8 hq;have tk:ps.take (i+1)=ps.take i++[p]:=by
   rw[Xb,hq];rfl
  refine Y1 (VO (zk9 (show A.in1.units<Vz from hu) N (d L hx) (y p ae) (λao=>?_) λb h' r H am ac aw=>?_))
  .have:=ah (p::ks.map (·.2)) (Wf.mpr ⟨ao,N.nd⟩) λc hc=>by
    rcases XI.mp hc with rfl | hc
    .exact ae
    .exact Wc ((B c).mp hc)
   rw[Xo,ZB]at this;lia
  have au:∀b o,h0.get? b=some o->h'.get? b=some o:=λb o e=>by
   rw[H.2 b (λz=>by
    rw[z,ai]at e;cases e)]
   exact L b o e
  refine XQ ⟨UJ U9 _,?_⟩;refine ih (i+1) _ r (by lia) aa (W.frame _ s' _ _ af (U2 _ _) λb y o e=>?_) au am (λc=>?_) (λq aq=>?_) λav ag ab O U Q=>?_
  .rw[H.2 b (λz=>M (by rw[<- z];exact y))];exact e
  .rw[ac c,B c,tk,XM,Wl]
  .rcases aw q aq with z | z
   .exact g q z
   .rw[z];exact hx
  .refine hR av ag (Moved.trans W.gtrans ((j.mono more).then_heap (U2 _ _) λb o y e=>?_) ab) O U Q;rw[H.2 b (λz=>y (by rw[z];exact XR))];exact e
end
section
variable {prog:Xh}{w:W2}{A:WO}{E:X9->X7->Prop}{s:X7}
def zno (a:X9){Q₁:X9->X7->Prop}(h:Q₁ (.ref s.heap.objs.size) { s with heap:=s.heap.push (qv #[] 0 (.fresh 0 0 (!w.params.followText "set-order"))) }) :
  Ta (Xg prog w) A (.call (.builtin "set.__new__") ⟨[.type "set",a],[]⟩) (wants Q₁ E) s:=by
 refine codeAny_of_tree ?_;show Xe _ A.in1 (do checkBuiltinCall "set.__new__" ⟨[.type "set",a],[]⟩;OF (.builtin "set.__new__" ⟨[.type "set",a],[]⟩)) _ _ s;refine Y1 (OE (PySem.F.newCall_set_1 a) (XQ ⟨UJ PQ _,VC PySem.F.entry_set_new ?_⟩));rw[V4 PQ _];unfold UP.«set.__new__» Builtin.Frozenset.newClass;have b:=sub_set_self;obtain⟨c,g,d,e,os⟩:=s;dsimp only;wp_walk;refine Rs (XQ ?_);dsimp only;simp only[newObj];refine Y1 (wpAny_alloc (XQ ?_));exact XQ h
def zhl (led:Bool):Good (.fresh 0 0 led) #[]:=⟨.inl rfl,rfl,rfl,λi j _ h=>absurd h (by simp[SetTable.fresh]),λi h=>absurd h (by simp[SetTable.fresh]),by simp[SetTable.fresh],λi h=>absurd h (by simp[SetTable.fresh])⟩
set_option maxHeartbeats 8000000 in
theorem zlb {l:Addr}{d:Array X9}{ps:List (Int×Int)}{T:Addr->Int×Int->Prop}{Q:X9->X7->Prop}(hh:A.handled=none)(hu:A.units+64<Vz)(hl:s.heap.IsList l d)(N:ps.length=d.size)
  (hT:∀x p,T x p->zz s.heap (.ref x) p) (ac:∀(i:Nat) (v:X9),d[i]?=some v->∃x p,v=WA x/\ps[i]?=some p/\T x p) (hb:∀p∈ps,InB p) (ab:∀l:List (Int×Int),l.Nodup->(∀c∈l,c∈ps)->l.length<=63)
  (h:∀(h':Heap) (tk:Nat) (ks:List (Addr×(Int×Int))),(∀b o,s.heap.get? b=some o->h'.get? b=some o)->zdg (hP prog w) (!w.params.followText "set-order") h' s.heap.objs.size ks->(∀c,c∈ks.map (·.2)↔c∈ps)->(∀q∈ks,T q.1 q.2)->Q (.ref s.heap.objs.size) { s with heap:=h',toks:=tk }) :
  Xe (Xg prog w) A (call (.type "set") [.ref l]) Q E s:=by
 obtain⟨c,tl,am⟩:=PySem.F.called_set.mro;have ah:=PySem.F.called_set.made;have aq:=PySem.F.called_set.sub;refine wpAny_call (codeAny_of_tree ?_);show Xe _ _ (callAny (.type "set") _) _ _ _;refine XQ ⟨Code.quiet_builtin _ (by decide+kernel),VC PySem.F.entry_type_call ?_⟩;rw[Around.under_plain (weight_type_call_type "set" [.ref l] []) rfl];have h1:=PySem.F.called_set.notType;have h2:=PySem.F.called_set.canCreate;have av:=PySem.F.typeCall_set_1 (.ref l);repeat (any_goals (first | assumption | wp_step))
 refine S8 (zno (.ref l) (E:=E) (Q₁:=λY j=>Y=.ref s.heap.objs.size/\j={ s with heap:=s.heap.push (qv #[] 0 (.fresh 0 0 (!w.params.followText "set-order"))) }) ⟨rfl,rfl⟩) λr j hr=>?_;cases r with
 | error e=>exact hr
 | ok fl =>
  cases fl with
  | ret Y =>
   obtain⟨rfl,rfl⟩:=hr;generalize al:(!w.params.followText "set-order")=led at h ⊢;have hS:(s.heap.push (qv #[] 0 (.fresh 0 0 led))).get? s.heap.objs.size=some (qv #[] 0 (.fresh 0 0 led)):=W4 _ rfl;have I:Sz { s with heap:=s.heap.push (qv #[] 0 (.fresh 0 0 led)) } (.ref s.heap.objs.size) "set":=⟨_,hS,rfl⟩;have aw:=PySem.F.called_set.init.lookup;have au:=PySem.F.called_set.init.bind (.ref s.heap.objs.size);repeat (any_goals (first | assumption | wp_step))
   refine S8 (Po (R:=wants (λr m=>r=.none/\∃h' tk ks,m={ s with heap:=h',toks:=tk }/\zdg (hP prog w) led h' s.heap.objs.size ks/\(∀c,c∈ks.map (·.2)↔c∈ps)/\(∀q∈ks,T q.1 q.2) /\
     (∀b o,s.heap.get? b=some o->h'.get? b=some o)) E) PySem.F.called_set.init.plain PySem.F.entry_set_init (check_set_init_1 I ?_)) λaa m a=>?_
   .revert hl;refine eS λol U J=>fM λnl L=>?_;obtain⟨ar,H,ai,f⟩:=ol;simp only at J L;subst J;subst L;have g:(s.heap.push (qv #[] 0 (.fresh 0 0 led))).get? l=some { cls:=.type "list",dict:=H,data:=.seq d nl,slots:=f }:=XW _ U;have ao:=PySem.F.sub_list_set;have an:=PySem.F.sub_list_frozenset;have ax:(Value.type "list" == Value.type "dict")=false:=by decide
    have B:(s.heap.push (qv #[] 0 (.fresh 0 0 led))).IsList l d:=⟨_,g,rfl,nl,rfl⟩;unfold UP.«set.__init__» noKeywords Builtin.Frozenset.updateFrom;generalize hG:s.heap.push (qv #[] 0 (.fresh 0 0 led))=G at hS I g B ⊢;unfold qv at hS;generalize ae:pyIter=PI;wp_walk;subst ae;subst hG;refine S4 B ?_;refine Y1 (wpAny_runValue ?_);have M:l<s.heap.objs.size:=Xz U;have zS:(s.heap.push (qv #[] 0 (.fresh 0 0 led))).objs.size=s.heap.objs.size+1:=UZ ..;have O:l≠(s.heap.push (qv #[] 0 (.fresh 0 0 led))).objs.size:=by
     rw[zS];exact Xf (Wm M)
    have af:s.heap.objs.size ∉ [(s.heap.push (qv #[] 0 (.fresh 0 0 led))).objs.size,l]:=by
     rw[zS];simp only[XI,TN,or_false,not_or];exact⟨Xf (SE _),TW M⟩
    refine zla (h0:=s.heap) (led:=led) ((Walks.list (by simp[hh]) (s.heap.push (qv #[] 0 (.fresh 0 0 led))).objs.size l O d).toS) s.heap.objs.size af (UM (XT _)) (λb hb=>?_) ps N (by show A.units+1+1+1<Vz;lia) T hT ac hb ab (d.size-0) 0 _ [] rfl (W1 _)
     ⟨⟨_,W4 _ rfl,rfl,rfl⟩,(B.push _)⟩ (λb o z=>XW _ (XW _ z)) ⟨(dI (#[]) 0 (.fresh 0 0 led) (XW _ hS) rfl (by rw[Array.map_empty];exact zhl led) rfl rfl),VX,(λq z=>nomatch z),(λq z=>nomatch z)⟩ (λc=>by simp) (λq z=>nomatch z) ?_
    .have e:b=(s.heap.push (qv #[] 0 (.fresh 0 0 led))).objs.size:=by simpa using hb
     rw[e,zS];exact UM (VM _)
    .intro s' ks hm u D y;obtain⟨h',g',d',ak,aj⟩:=s';have eg:g'=s.gens:=hm.gens;have ed:d'=s.drawn:=hm.drawn;have eo:aj=s.os:=hm.os;subst eg;subst ed;subst eo;show Xe _ _ _ _ _ _;refine XQ ?_;show Xe _ _ (ret T4) _ _ _;refine XQ ⟨rfl,(dI h' ak ks rfl u D y (λb o e=>?_))⟩;have lt:=Xz e;refine hm.heap b o (λz=>?_) (XW _ (XW _ e));rcases XI.mp z with z | z
     .exact VG _ (z ▸ lt)
     .have z':b=(s.heap.push (qv #[] 0 (.fresh 0 0 led))).objs.size:=by simpa using z
      rw[z',zS]at lt;exact absurd lt (Nat.not_lt.mpr (VM _))
   .cases aa with
    | error e=>exact a
    | ok n =>
     cases n with
     | ret r =>
      revert a;refine eV λz0=>e7 λh' tk ks z1 u D y ag=>?_;subst z0 z1;repeat (any_goals (first | assumption | wp_step))
      exact h _ _ _ ag u D y
     | _=>exact a.elim
  | _=>exact hr.elim
end
def zct {α q:Type}(f:α->q){l p:List q}(h:l.Perm p):∀ks:List α,p=ks.map f->∃g:List α,g.Perm ks/\l=g.map f:=by
 induction h with
 | nil=>exact λks e=>⟨ks,List.Perm.refl _,e⟩
 | cons x h s =>
  intro ks e;cases ks with
  | nil=>simp at e
  | cons k ks =>
   rw[XD]at e;injection e with j i
   obtain⟨g,h1,h2⟩:=s ks i;exact⟨k::g,h1.cons k,by rw[XD,j,h2]⟩
 | swap x y l =>
  intro ks e;match ks,e with
  | [],e=>simp at e
  | [k],e=>simp at e
  | k1::o::ks,e =>
   rw[XD,XD]at e;injection e with j i
   injection i with i r
   exact⟨o::k1::ks,List.Perm.swap k1 o ks,by rw[XD,XD,j,i,r]⟩
 | trans h1 h2 m n =>
  intro ks e;obtain⟨g,a,b⟩:=n ks e;obtain⟨is,c,d⟩:=m g b;exact⟨is,c.trans a,d⟩
section
variable {X:Cx}
def zjK (hu:X.A.units+64<Vz)(hh:X.A.handled=none):jk X (.type "set") (λxs H Q=>∃l g ps,xs=[.ref l]/\SqL X.K H l g/\yR H g ps/\(∀p∈ps,InB p)/\(∀l:List (Int×Int),l.Nodup->(∀c∈l,c∈ps)->l.length<=63) /\
  ∀d ks,H d=none->(∀q∈ks,H q.1=some (.tup [.int q.2.1,.int q.2.2]))->(ks.map (·.2)).Nodup->(∀c,c∈ks.map (·.2)↔c∈ps)->Q (.ref d) (upd H d (zfT X.prog X.w d ks))):=by
 intro bz s σ H xs aa Q I r h;revert h;refine fk λl g ps z0 hq L hb z q=>?_;subst z0;obtain⟨u,rfl,ru⟩:=vals1 r;cases ru;obtain⟨b,M,pl,hz⟩:=I.list hq;have hp:=yR.pairs I L M;have B:b.length=ps.length:=Paired.length hp;have tw:∀{g:AE} {ps:List (Int×Int)} {b:List X9},yR H g ps->Vals g b->∀(i:Nat) (v:X9),b[i]?=some v->∃x p,v=WA x/\ps[i]?=some p/\H x=some (.tup [.int p.1,.int p.2]):=by
  intro g ps b h1;induction h1 generalizing b with
  | nil =>
   intro r i v e;cases r;simp at e
  | cons a t ih =>
   intro r i v e;obtain⟨x,rfl,D⟩:=a;cases r with
   | cons r1 r2 =>
    cases r1;cases i with
    | zero =>
     simp at e;exact⟨x,_,e.symm,rfl,D⟩
    | succ i =>
     refine eF (λy p h1 h2 U=>?_) (ih r2 i v (by simpa using e));exact⟨y,p,h1,by simpa using h2,U⟩
 refine zlb (T:=λx p=>H x=some (.tup [.int p.1,.int p.2])) hh hu pl.isList (by simp[B]) (λx p D=>?_) (λi v e=>tw L M i v (by simpa using e)) hb z λh' tk ks kk J hm hT=>?_
 .obtain⟨E,G,tp,_⟩:=I.tuple (SqT.of D);obtain⟨u1,u2,rfl,⟨t1,rfl⟩,⟨t2,rfl⟩⟩:=vals2 G;obtain⟨ob,O,c1,n,N⟩:=tp;exact⟨x,ob,n,t1,t2,rfl,O,c1,N⟩
 .have Y:H s.heap.objs.size=none:=I.hok.fresh (XT _);refine fB (λo m t j f=>?_) J.ex;refine⟨.ref s.heap.objs.size,upd H s.heap.objs.size (zfT X.prog X.w s.heap.objs.size ks),I.laid (t':=tk) kk (XT _) ⟨⟨o,m,t,j,f⟩,⟨_,j⟩,λh1 h2 ⟨o,m,t,j,f⟩ k=>⟨o,m,t,k _ j,f⟩⟩,rfl,q _ _ Y hT J.nd hm⟩
end
end ST
namespace GS
section
variable {prog:Xh}{w:W2}{A:WO}{E:X9->X7->Prop}{s:X7}{rk:Xa->Int}{κ:T6}{a0:Array Xa}
def Rk (rk:Xa->Int)(xs:Array Xa)(i:Nat):Int:=match xs[i]? with
 | some p=>rk p
 | none=>0
def JT {xs ys:Array Xa}{i j:Nat}(h:xs[i]?=ys[j]?):Rk rk xs i=Rk rk ys j:=by
 unfold Rk;rw[h]
def Up (rk:Xa->Int)(xs:Array Xa)(lo a:Nat):Prop:=∀i j,lo<=i->i<=j->j<a->Rk rk xs i<=Rk rk xs j
def Tells (prog:Xh)(w:W2)(A:WO)(s:X7)(κ:T6)(rk:Xa->Int)(a0:Array Xa):Prop :=
 ∀x∈a0.toList,∀y∈a0.toList,∀C:Bool->X7->Prop,C (decide (rk x<rk y)) s->Xe (Xg prog w) A (keyLt' κ x.1 y.1) C (λ_ _=>False) s
structure Ok (κ:T6)(a0:Array Xa)(st:WS):Prop where
 perm:(Xl st).Perm a0
 kind:kindOf st=κ
 good:S9 st=none
theorem Ok.size {st:WS}(h:Ok κ a0 st):(Xl st).size=a0.size:=h.perm.size_eq
def Ok.at {st:WS}(h:Ok κ a0 st){i:Nat}(b:i<a0.size):∃x,(Xl st)[i]?=some x/\x∈a0.toList/\Rk rk (Xl st) i=rk x:=by
 have a:i<(Xl st).size:=by rw[h.size];exact b
 have e:(Xl st)[i]?=some (Xl st)[i]:=getElem?_pos _ i a;refine⟨(Xl st)[i],e,(UW.mp h.perm).mem_iff.mp (by simp),?_⟩;unfold Rk;rw[e]
def zlc {st:WS}{x y:Xa}{Q:Option Bool->WS->Prop}(T:Tells prog w A s κ rk a0)(hk:kindOf st=κ)(e:x∈a0.toList)(f:y∈a0.toList)(h:Q (some (decide (rk x<rk y))) st):wpS (Xg prog w) A E s (lt' x y) Q st:=by
 rw[lt'_eq];refine XG (SC ?_);rw[hk];refine XG (Ry (RI (Vk (T x e y f (λb c=>c=s/\b=decide (rk x<rk y)) ⟨rfl,rfl⟩) (λb c a=>⟨a.1,?_⟩) λ_ _ d=>d.elim)));rw[a.2];exact Xn h
def je {st:WS}{xs:Array Xa}{i:Nat}{x:Xa}{Q:Xa->WS->Prop}(e:xs[i]?=some x)(h:Q x st):wpS (Xg prog w) A E s (elem' xs i) Q st:=by
 rw[elem'_eq,e];exact Xn h
def zcu {st:WS}{i j:Nat}{Q:Option Bool->WS->Prop}(T:Tells prog w A s κ rk a0)(O:Ok κ a0 st)(c:i<a0.size)(d:j<a0.size)(h:Q (some (decide (Rk rk (Xl st) i<Rk rk (Xl st) j))) st):wpS (Xg prog w) A E s (ltAt' i j) Q st:=by
 obtain⟨x,a,e,g⟩:=O.at (rk:=rk) c;obtain⟨y,b,f,l⟩:=O.at (rk:=rk) d;rw[g,l]at h;rw[ltAt'_eq];refine XG (SC ?_);exact XG (je a (XG (je b (zlc T O.kind e f h))))
structure Step (κ:T6)(a0:Array Xa)(lo:Nat)(st st':WS):Prop where
 ok:Ok κ a0 st'
 pend:WR st'=WR st
 low:∀i:Nat,i<lo->(Xl st')[i]?=(Xl st)[i]?
def Step.refl {lo:Nat}{st:WS}(O:Ok κ a0 st):Step κ a0 lo st st:=⟨O,rfl,λ_ _=>rfl⟩
def za6 {xs:Array Xa}{i j:Nat}(a:j<=xs.size)(k:Nat):Rk rk (mirror xs i j ((j-i)/2)) k=if i<=k/\k<j then Rk rk xs (i+j-1-k) else Rk rk xs k:=by
 have e:=Pa (i:=i) a k;by_cases h1:i<=k/\k<j
 .rw[bw h1]at e ⊢;exact JT e
 .rw[bq h1]at e ⊢;exact JT e
def jQ {xs:Array Xa}{i j:Nat}(b:j<=xs.size)(a:∀k,i<=k->k<j->Rk rk xs k=Rk rk xs (j-1))(k:Nat):Rk rk (mirror xs i j ((j-i)/2)) k=Rk rk xs k:=by
 rw[za6 b];split
 .rw[a _ (by lia) (by lia),a k (by lia) (by lia)]
 .rfl
theorem Step.mirror {lo i j:Nat}{st a:WS}(x:Step κ a0 lo st a)(c:lo<=i)(b:j<=a0.size):Step κ a0 lo st (setArr a (mirror (Xl a) i j ((j-i)/2))):=by
 refine⟨⟨(mirror_perm _ _ _ _).trans x.ok.perm,x.ok.kind,x.ok.good⟩,x.pend,λk hk=>?_⟩;show (PyProof.Rows.mirror (Xl a) i j ((j-i)/2))[k]?=_;rw[Pa (by rw[x.ok.size];exact b),bq (by lia)];exact x.low k hk
def ziq {st:WS}{i j:Nat}{Q:Unit->WS->Prop}(h:Q () (setArr st (mirror (Xl st) i j ((j-i)/2)))):wpS (Xg prog w) A E s (Sx i j) Q st:=by
 rw[reverseSlice'_eq];exact Tn h
def up1 (lo a d:Nat):StateT WS Sem AscSt :=
 forIn [a:d] ((none,a):AscSt) λ_ c=>do
  let x <- ltAt' (lo+c.snd) (lo+c.snd-1)
  match x with
  | some b=>if b=true then pure (ForInStep.done (none,c.snd)) else pure (VU (none,c.snd+1))
  | _=>pure (ForInStep.done (some none,c.snd))
def zld (lo n a:Nat):StateT WS Sem (Option Nat):=do
 Sx lo (lo+n)
 let c <- up1 lo n a
 match c.fst with
 | some r=>pure r
 | none=>pure (some c.snd)
def zir (lo n a:Nat):StateT WS Sem DescSt :=
 forIn [n:a] ((none,n,0):DescSt) λ_ c=>do
  let x <- ltAt' (lo+c.snd.fst) (lo+c.snd.fst-1)
  match x with
  | some b =>
   if b=true then
    if c.snd.snd>0 then do
     Sx (lo+c.snd.fst-(c.snd.snd+1)) (lo+c.snd.fst)
     pure (VU (none,c.snd.fst+1,0))
    else pure (VU (none,c.snd.fst+1,0))
   else do
    let x <- ltAt' (lo+c.snd.fst-1) (lo+c.snd.fst)
    match x with
    | some b =>
     if b=true then pure (ForInStep.done (none,c.snd.fst,c.snd.snd))
     else pure (VU (none,c.snd.fst+1,c.snd.snd+1))
    | _=>pure (ForInStep.done (some none,c.snd.fst,c.snd.snd))
  | _=>pure (ForInStep.done (some none,c.snd.fst,c.snd.snd))
def part2 (lo n a:Nat):StateT WS Sem (Option Nat):=do
 liftM (rule "list.sort.descending-run")
 let c <- zir lo (n+1) a
 match c.fst with
 | some r=>pure r
 | none =>
  if c.snd.snd>0 then do
   Sx (lo+c.snd.fst-(c.snd.snd+1)) (lo+c.snd.fst)
   zld lo c.snd.fst a
  else zld lo c.snd.fst a
theorem run_eq (lo a:Nat):countRun' lo a=(do
  let c <- up1 lo 1 a
  match c.fst with
  | some r=>pure r
  | none =>
   if (c.snd==a)=true then pure (some c.snd)
   else if c.snd>1 then do
    let x <- ltAt' lo (lo+c.snd-1)
    match x with
    | some b=>if b=true then pure (some c.snd) else do
      Sx lo (lo+c.snd)
      part2 lo c.snd a
    | _=>pure none
   else part2 lo c.snd a):=by
 rw[countRun'_eq];unfold part2 zld zir up1;refine bind_congr λc=>?_;obtain⟨r,n⟩:=c;cases r with
 | some r=>rfl
 | none =>
  dsimp only;split
  .rfl
  .split
   .refine bind_congr λx=>?_;cases x with
    | none=>rfl
    | some b =>
     dsimp only;split
     .rfl
     .refine bind_congr λ_=>bind_congr λ_=>bind_congr λg=>?_;obtain⟨f,i,j⟩:=g;cases f with
      | some f=>rfl
      | none =>
       dsimp only;split
       .refine bind_congr λ_=>bind_congr λ_=>bind_congr λd=>?_;obtain⟨e,h⟩:=d;cases e<;>rfl
       .refine bind_congr λ_=>bind_congr λd=>?_;obtain⟨e,h⟩:=d;cases e<;>rfl
   .refine bind_congr λ_=>bind_congr λg=>?_;obtain⟨f,i,j⟩:=g;cases f with
    | some f=>rfl
    | none =>
     dsimp only;split
     .refine bind_congr λ_=>bind_congr λ_=>bind_congr λd=>?_;obtain⟨e,h⟩:=d;cases e<;>rfl
     .refine bind_congr λ_=>bind_congr λd=>?_;obtain⟨e,h⟩:=d;cases e<;>rfl
def Down (rk:Xa->Int)(xs:Array Xa)(lo n:Nat):Prop:=∀i j,i<=j->j<n->Rk rk xs (lo+j)<=Rk rk xs (lo+i)
def zox {st:WS}{lo a b:Nat}{Q:AscSt->WS->Prop}(T:Tells prog w A s κ rk a0)(O:Ok κ a0 st)(z:lo+b<=a0.size)(v:1<=a)(g:a<=b)(r:Up rk (Xl st) lo (lo+a))
  (h:∀n,a<=n->n<=b->Up rk (Xl st) lo (lo+n)->(n=b\/Rk rk (Xl st) (lo+n)<Rk rk (Xl st) (lo+n-1))->Q (none,n) st):wpS (Xg prog w) A E s (up1 lo a b) Q st:=by
 unfold up1;refine V0 (I:=λx c f=>f=st/\c=(none,x)/\Up rk (Xl st) lo (lo+x)) ?step ?fin ⟨rfl,rfl,r⟩
 case fin =>
  rintro c f ⟨rfl,rfl,e⟩
  rw[show max a b=b by lia]at e ⊢
  exact h b g (XT _) e (.inl rfl)
 case step =>
  rintro x c f l u ⟨rfl,rfl,e⟩
  dsimp only
  refine XG (zcu T O (by lia) (by lia) ?_)
  by_cases d:Rk rk (Xl f) (lo+x)<Rk rk (Xl f) (lo+x-1)
  .simp only[d,decide_true,if_true];exact Xn (h x l (by lia) e (.inr d))
  .simp only[d,decide_false,Wz,if_false];refine Xn ⟨rfl,rfl,λi j q o y=>?_⟩;by_cases p:j<lo+x
   .exact e i j q o p
   .obtain rfl:j=lo+x:=by lia
    by_cases m:i=lo+x
    .subst m;exact U5 _
    .exact VD (e i (lo+x-1) q (by lia) (by lia)) (OR.mp d)
def zlf {d st:WS}{lo n a:Nat}{Q:Option Nat->WS->Prop}(T:Tells prog w A s κ rk a0)(S:Step κ a0 lo d st)(q:lo+a<=a0.size)(h1:1<=n)(f:n<=a)(r:Down rk (Xl st) lo n)
  (h:∀m b,Step κ a0 lo d b->1<=m->m<=a->Up rk (Xl b) lo (lo+m)->Q (some m) b):wpS (Xg prog w) A E s (zld lo n a) Q st:=by
 unfold zld;refine XG (ziq ?_);have l:=S.mirror (i:=lo) (j:=lo+n) (XT _) (by lia);refine XG (zox T l.ok q h1 f ?_ λm p e g _=>Xn (h m _ l (by lia) e g));intro i j u o v;have c:lo+n<=(Xl st).size:=by
  rw[S.ok.size];lia
 show Rk rk (mirror (Xl st) lo (lo+n) ((lo+n-lo)/2)) i<=Rk rk (mirror (Xl st) lo (lo+n) ((lo+n-lo)/2)) j;rw[za6 c,za6 c,bw (by lia),bw (by lia)];have:=r (lo+n-1-j) (lo+n-1-i) (by lia) (by lia);rw[show lo+(lo+n-1-j)=lo+(lo+n)-1-j by lia,show lo+(lo+n-1-i)=lo+(lo+n)-1-i by lia]at this;exact this
def znp {v st:WS}{lo n b:Nat}{Q:DescSt->WS->Prop}(T:Tells prog w A s κ rk a0)(S:Step κ a0 lo v st)(U:lo+b<=a0.size)(h1:1<=n)(H:n<=b)(N:Down rk (Xl st) lo n)
  (h:∀m q a,Step κ a0 lo v a->n<=m->m<=b->Down rk (Xl a) lo m->q+1<=m->(∀i,m-(q+1)<=i->i<m->Rk rk (Xl a) (lo+i)=Rk rk (Xl a) (lo+(m-1)))->Q (none,m,q) a):wpS (Xg prog w) A E s (zir lo n b) Q st:=by
 unfold zir;refine V0 (I:=λx c a=>∃q,c=(none,x,q)/\Step κ a0 lo v a/\Down rk (Xl a) lo x/\q+1<=x /\
   (∀i,x-(q+1)<=i->i<x->Rk rk (Xl a) (lo+i)=Rk rk (Xl a) (lo+(x-1)))) ?step ?fin (cM 0 rfl S N (by lia) (λi h1 h2=>by congr 1;lia))
 case fin =>
  refine λc a=>fj λq z0 l d B he=>?_;subst z0
  rw[show max n b=b by lia]at d B he ⊢
  exact h b q a l H (XT _) d B he
 case step =>
  refine λx c a D O=>fj λq z0 l d B he=>?_;subst z0
  dsimp only
  have J:lo+x<=(Xl a).size:=by
   rw[l.ok.size];lia
  refine XG (zcu T l.ok (by lia) (by lia) ?_)
  by_cases e:Rk rk (Xl a) (lo+x)<Rk rk (Xl a) (lo+x-1)
  .simp only[e,decide_true,if_true];have g:∀L:Array Xa,(∀k,Rk rk L k=Rk rk (Xl a) k)->Down rk L lo (x+1):=by
    intro L hk i j r M;rw[hk,hk];by_cases u:j<x
    .exact d i j r u
    .obtain rfl:j=x:=by lia
     by_cases p:i=j
     .subst p;exact U5 _
     .have y:=d i (j-1) (by lia) (by lia);rw[show lo+(j-1)=lo+j-1 by lia]at y;exact VD (VZ e) y
   by_cases z:q>0
   .rw[bw z];refine XG (ziq (Xn (cM 0 rfl (l.mirror (by lia) (by lia)) (g _ (jQ J λk Y k2=>?_)) (by lia) (λi h1 h2=>by congr 1;lia))));have y:=he (k-lo) (by lia) (by lia);rw[show lo+(k-lo)=k by lia,show lo+(x-1)=lo+x-1 by lia]at y;exact y
   .rw[bq z];exact Xn (cM 0 rfl l (g _ (λ_=>rfl)) (by lia) (λi h1 h2=>by congr 1;lia))
  .simp only[e,decide_false,Wz,if_false];refine XG (zcu T l.ok (by lia) (by lia) ?_);by_cases f:Rk rk (Xl a) (lo+x-1)<Rk rk (Xl a) (lo+x)
   .simp only[f,decide_true,if_true];exact Xn (h x q a l D (by lia) d B he)
   .simp only[f,decide_false,Wz,if_false];have o:Rk rk (Xl a) (lo+x)=Rk rk (Xl a) (lo+(x-1)):=by
     rw[show lo+(x-1)=lo+x-1 by lia];lia
    refine Xn (cM (q+1) rfl l (λi j r M=>?_) (by lia) (λi h1 h2=>?_))
    .by_cases u:j<x
     .exact d i j r u
     .obtain rfl:j=x:=by lia
      by_cases p:i=j
      .subst p;exact U5 _
      .rw[o];exact d i (j-1) (by lia) (by lia)
    .rw[show x+1-1=x by lia];by_cases G:i=x
     .subst G;rfl
     .rw[o];exact he i (by lia) (by lia)
def zis {g st:WS}{lo n b:Nat}{Q:Option Nat->WS->Prop}(T:Tells prog w A s κ rk a0)(S:Step κ a0 lo g st)(p:lo+b<=a0.size)(r:n+1<=b)(y:Down rk (Xl st) lo (n+1))
  (h:∀m a,Step κ a0 lo g a->1<=m->m<=b->Up rk (Xl a) lo (lo+m)->Q (some m) a):wpS (Xg prog w) A E s (part2 lo n b) Q st:=by
 unfold part2;refine XG (Ry (Vd ⟨rfl,?_⟩));refine XG (znp T S p (by lia) r y λm q a l x c e z he=>?_);dsimp only;have f:lo+m<=(Xl a).size:=by
  rw[l.ok.size];lia
 by_cases d:q>0
 .rw[bw d];refine XG (ziq (zlf T (l.mirror (by lia) (by lia)) p (by lia) c ?_ h));intro i j o v;show Rk rk (mirror (Xl a) _ _ _) (lo+j)<=Rk rk (mirror (Xl a) _ _ _) (lo+i);have same:∀k,lo+m-(q+1)<=k->k<lo+m->Rk rk (Xl a) k=Rk rk (Xl a) (lo+m-1):=λk B D=>by
   have u:=he (k-lo) (by lia) (by lia);rw[show lo+(k-lo)=k by lia,show lo+(m-1)=lo+m-1 by lia]at u;exact u
  rw[jQ f same,jQ f same];exact e i j o v
 .rw[bq d];exact zlf T l p (by lia) c e h
def zq3 {st:WS}{lo b:Nat}{Q:Option Nat->WS->Prop}(T:Tells prog w A s κ rk a0)(O:Ok κ a0 st)(v:lo+b<=a0.size)(h1:1<=b)
  (h:∀m l,Step κ a0 lo st l->1<=m->m<=b->Up rk (Xl l) lo (lo+m)->Q (some m) l):wpS (Xg prog w) A E s (countRun' lo b) Q st:=by
 have S:=Step.refl (lo:=lo) O;rw[run_eq];refine XG (zox T O v (XT 1) h1 (λi j I p y=>by
  obtain rfl:i=j:=by lia
  exact U5 _) λn q r d x=>?_)
 dsimp only;by_cases g:n=b
 .rw[bw (by simpa using g)];exact Xn (h n st S q r d)
 .rw[bq (by simpa using g)];have f:Rk rk (Xl st) (lo+n)<Rk rk (Xl st) (lo+n-1):=x.resolve_left g;have u:lo+n<=(Xl st).size:=by
   rw[O.size];lia
  by_cases o:n>1
  .rw[bw o];refine XG (zcu T O (by lia) (by lia) ?_);by_cases c:Rk rk (Xl st) lo<Rk rk (Xl st) (lo+n-1)
   .simp only[c,decide_true,if_true];exact Xn (h n st S q r d)
   .simp only[c,decide_false,Wz,if_false];have a:∀k,lo<=k->k<lo+n->Rk rk (Xl st) k=Rk rk (Xl st) (lo+n-1):=by
     intro k z D;have G:=d lo k (XT _) z D;have H:=d k (lo+n-1) z (by lia) (by lia);lia
    refine XG (ziq (zis T (S.mirror (XT _) (by lia)) v (by lia) ?_ h));intro i j p y;show Rk rk (mirror (Xl st) _ _ _) (lo+j)<=Rk rk (mirror (Xl st) _ _ _) (lo+i);rw[jQ u a,jQ u a];by_cases B:j<n
    .rw[a (lo+i) (by lia) (by lia),a (lo+j) (by lia) (by lia)];exact U5 _
    .obtain rfl:j=n:=by lia
     by_cases e:i=j
     .subst e;exact U5 _
     .rw[a (lo+i) (by lia) (by lia)];exact VZ f
  .rw[bq o];obtain rfl:n=1:=by lia
   refine zis T S v (by lia) ?_ h;intro i j p y;by_cases e:i=j
   .subst e;exact U5 _
   .obtain rfl:i=0:=by lia
    obtain rfl:j=1:=by lia
    rw[R1]at f;exact VZ f
def zdQ {xs:Array Xa}{a d:Nat}(c:a<xs.size)(b:d<=a)(k:Nat):Rk rk (bubble xs a d) k=if k=a-d then Rk rk xs a else if a-d<k/\k<=a then Rk rk xs (k-1) else Rk rk xs k:=by
 have e:=getElem?_bubble c d b k;by_cases h1:k=a-d
 .rw[bw h1]at e ⊢;exact JT e
 .rw[bq h1]at e ⊢;by_cases h2:a-d<k/\k<=a
  .rw[bw h2]at e ⊢;exact JT e
  .rw[bq h2]at e ⊢;exact JT e
def zq4 {st:WS}{lo n ok:Nat}{Q:Bool->WS->Prop}(T:Tells prog w A s κ rk a0)(O:Ok κ a0 st)(hn:lo+n<=a0.size)(ab:ok<=n)(hs:Up rk (Xl st) lo (lo+ok))
  (h:∀e,Step κ a0 lo st e->Up rk (Xl e) lo (lo+n)->Q true e):wpS (Xg prog w) A E s (binarySort' lo n ok) Q st:=by
 rw[binarySort'_eq];refine XG (UD (V0 (I:=λk c e=>c=(none,())/\Step κ a0 lo st e/\Up rk (Xl e) lo (lo+min k n))
  (Q:=λc e=>c=(none,())/\Step κ a0 lo st e/\Up rk (Xl e) lo (lo+n)) ?step ?fin ?init) ?post)
 case post =>
  rintro c e ⟨rfl,p,g⟩
  exact Xn (h e p g)
 case init =>
  refine⟨rfl,Step.refl O,λi j z D U=>?_⟩
  by_cases h1:ok=0
  .obtain rfl:i=j:=by lia
   exact U5 _
  .exact hs i j z D (by lia)
 case fin =>
  rintro c e ⟨N,p,g⟩
  refine⟨N,p,?_⟩
  rwa [show min (max (max ok 1) n) n=n by lia]at g
 case step =>
  rintro k c e M Y ⟨rfl,p,g⟩
  rw[show min k n=k by lia]at g
  have v:=p.ok
  have hk:lo+k<a0.size:=by lia
  refine XG (UD (V0 (I:=λx c d=>d=e/\∃l r,c=(none,l,r)/\l<=r/\r<=k/\r-l<=k-x /\
    (∀i,i<l->Rk rk (Xl e) (lo+i)<=Rk rk (Xl e) (lo+k))/\(∀i,r<=i->i<k->Rk rk (Xl e) (lo+k)<Rk rk (Xl e) (lo+i)))
   (Q:=λc d=>d=e/\∃l r,c=(none,l,r)/\l<=k /\
    (∀i,i<l->Rk rk (Xl e) (lo+i)<=Rk rk (Xl e) (lo+k))/\(∀i,l<=i->i<k->Rk rk (Xl e) (lo+k)<Rk rk (Xl e) (lo+i))) ?istep ?ifin ?iinit) ?ipost)
  case iinit=>exact⟨rfl,(cZ 0 k rfl (by lia) (by lia) (by lia) (λi z=>by lia) (λi h1 h2=>by lia))⟩
  case ifin =>
   refine λc d=>eV λz0=>fu λl r z1 G u hm o m=>?_;subst z0 z1
   obtain rfl:l=r:=by lia
   exact⟨rfl,(cO l l rfl u o m)⟩
  case istep =>
   refine λx c d _ ac=>eV λz0=>fu λl r z1 G u hm o m=>?_;subst z0 z1
   dsimp only
   by_cases y:l >= r
   .rw[bw y];obtain rfl:l=r:=by lia
    exact Xn ⟨rfl,(cO l l rfl u o m)⟩
   .rw[bq y];refine XG (zcu T v hk (by lia) ?_);by_cases f:Rk rk (Xl d) (lo+k)<Rk rk (Xl d) (lo+(l+r)/2)
    .simp only[f,decide_true,if_true];refine Xn ⟨rfl,(cZ l ((l+r)/2) rfl (by lia) (by lia) (by lia) o (λi h1 h2=>?_))⟩;exact Int.lt_of_lt_of_le f (g _ _ (by lia) (by lia) (by lia))
    .simp only[f,decide_false,Wz,if_false];refine Xn ⟨rfl,(cZ ((l+r)/2+1) r rfl (by lia) (by lia) (by lia) (λi h1=>?_) m)⟩;exact VD (g (lo+i) (lo+(l+r)/2) (by lia) (by lia) (by lia)) (OR.mp f)
  case ipost =>
   refine λc d=>eV λz0=>d8 λl r z1 aa o m=>?_;subst z0 z1
   show wpS _ _ _ _ (do moveDown' (lo+k) (lo+l);pure (VU (none,()))) _ _
   rw[moveDown'_eq]
   have q:lo+k<(Xl d).size:=by
    rw[v.size];exact hk
   refine XG (Tn (Xn ⟨rfl,⟨⟨(bubble_perm _ _ _).trans v.perm,v.kind,v.good⟩,p.pend,λi z=>?_⟩,?_⟩))
   .show (bubble (Xl d) (lo+k) (lo+k-(lo+l)))[i]?=_;rw[getElem?_bubble q _ (by lia),bq (by lia),bq (by lia)];exact p.low i z
   .rw[show min (k+1) n=k+1 by lia];intro i j z D U;show Rk rk (bubble (Xl d) (lo+k) (lo+k-(lo+l))) i<=Rk rk (bubble (Xl d) (lo+k) (lo+k-(lo+l))) j;rw[zdQ q (by lia),zdQ q (by lia),show lo+k-(lo+k-(lo+l))=lo+l by lia];have up:∀a b,lo<=a->a<=b->b<lo+k->Rk rk (Xl d) a<=Rk rk (Xl d) b:=g;have H:∀a,lo<=a->a<lo+l->Rk rk (Xl d) a<=Rk rk (Xl d) (lo+k):=λa J L=>by
     have:=o (a-lo) (by lia);rwa [show lo+(a-lo)=a by lia]at this
    have B:∀a,lo+l<=a->a<lo+k->Rk rk (Xl d) (lo+k)<Rk rk (Xl d) a:=λa J L=>by
     have:=m (a-lo) (by lia) (by lia);rwa [show lo+(a-lo)=a by lia]at this
    repeat' split
    all_goals first
     | (exfalso;lia)
     | exact U5 _
     | exact H _ (by lia) (by lia)
     | exact VZ (B _ (by lia) (by lia))
     | exact up _ _ (by lia) (by lia) (by lia)
def gallop':Bool->Xa->Array Xa->Nat->Nat->Nat->StateT WS Sem (Option Nat):=sortPriv% PySem.Builtin.gallop
def mergeLo':Array Xa->Array Xa->StateT WS Sem (Array Xa):=sortPriv% PySem.Builtin.mergeLo
def mergeHi':Array Xa->Array Xa->StateT WS Sem (Array Xa):=sortPriv% PySem.Builtin.mergeHi
def bey (rk:Xa->Int)(left:Bool)(a x:Xa):Bool:=if left then decide (rk x<rk a) else !decide (rk a<rk x)
def zfU {st:WS}{left:Bool}{z:Xa}{J:Array Xa}{base n hint:Nat}{Q:Option Nat->WS->Prop}(T:Tells prog w A s κ rk a0)(hk:kindOf st=κ)(D:z∈a0.toList)(b:Nat->Bool)
  (he:∀i,i<n->∃x,J[base+i]?=some x/\x∈a0.toList/\b i=bey rk left z x) (mono:∀i j,i<=j->j<n->b j=true->b i=true) (hh:hint<n)
  (h:∀k,k<=n->(∀i,i<k->b i=true)->(∀i,k<=i->i<n->b i=false)->Q (some k) st):wpS (Xg prog w) A E s (gallop' left z J base n hint) Q st:=by
 have one:∀{i:Nat} {O:Option Bool->WS->Prop},i<n->O (some (b i)) st->wpS (Xg prog w) A E s (do
   let x <- elem' J (base+i)
   if left=true then lt' x z
    else do
     let r <- lt' z x
     pure (OU (λx=>!x) r)) O st:=by
  intro i O y G;obtain⟨x,e1,Y,L⟩:=he i y;refine XG (je e1 ?_);unfold bey at L;cases left with
  | true =>
   rw[bw rfl]at L ⊢;rw[L]at G;exact zlc T hk Y D G
  | false =>
   rw[bq XU]at L ⊢;rw[L]at G;exact XG (zlc T hk D Y (Xn G))
 have H:∀{f:Nat->Option (Option Nat)×AA->StateT WS Sem (ForInStep (Option (Option Nat)×AA))} {g:Option (Option Nat)×AA->StateT WS Sem (Option Nat)},
   (∀x l r (R:ForInStep (Option (Option Nat)×AA)->WS->Prop),l >= r->R (.done (none,l,r)) st->wpS (Xg prog w) A E s (f x (none,l,r)) R st) ->
   (∀x l r (R:ForInStep (Option (Option Nat)×AA)->WS->Prop),l<r->r<=n->R (.yield (if b (l+(r-l)/2)=true then (none,l+(r-l)/2+1,r) else (none,l,l+(r-l)/2))) st->wpS (Xg prog w) A E s (f x (none,l,r)) R st) ->
   (∀l r,Q (some r) st->wpS (Xg prog w) A E s (g (none,l,r)) Q st) ->
   ∀(lo y:Nat),lo<=y->y<=n->(∀i,i<lo->b i=true)->(∀i,y<=i->i<n->b i=false)->wpS (Xg prog w) A E s (forIn [:n] ((none,lo,y):Option (Option Nat)×AA) f >>= g) Q st:=by
  intro f g f1 f2 g1 lo y h1 h2 h3 h4;refine XG (UD (V0 (I:=λx c a=>a=st/\∃l r,c=(none,l,r)/\l<=r/\r<=n/\r-l<=n-x/\(∀i,i<l->b i=true)/\(∀i,r<=i->i<n->b i=false))
   (Q:=λc a=>a=st/\∃l,c=(none,l,l)/\l<=n/\(∀i,i<l->b i=true)/\(∀i,l<=i->i<n->b i=false)) ?step ?fin ⟨rfl,(cZ lo y rfl h1 h2 (by lia) h3 h4)⟩) ?post)
  case fin =>
   refine λc a=>eV λz0=>fu λl r z1 q e p m B=>?_;subst z0 z1
   obtain rfl:l=r:=by lia
   exact⟨rfl,l,rfl,e,m,B⟩
  case post =>
   refine λc a=>eV λz0=>fK λl z1 e m B=>?_;subst z0 z1
   exact g1 l l (h l e m B)
  case step =>
   refine λx c a _ hx=>eV λz0=>fu λl r z1 q e p m B=>?_;subst z0 z1
   by_cases d:l >= r
   .obtain rfl:l=r:=by lia
    exact f1 x l l _ d ⟨rfl,l,rfl,e,m,B⟩
   .refine f2 x l r _ (by lia) e ?_;cases hb:b (l+(r-l)/2) with
    | true =>
     rw[bw rfl];exact⟨rfl,(cZ (l+(r-l)/2+1) r rfl (by lia) e (by lia) (λi y=>mono i _ (by lia) (by lia) hb) B)⟩
    | false =>
     rw[bq XU];refine⟨rfl,(cZ l (l+(r-l)/2) rfl (by lia) (by lia) (by lia) m (λi N M=>?_))⟩;cases v:b i with
     | false=>rfl
     | true =>
      have:=mono _ i N M v;rw[hb]at this;cases this
 refine XG (one hh ?_);dsimp only;cases hb:b hint with
 | true =>
  rw[bw rfl];refine XG (UD (V0 (I:=λx c a=>a=st/\∃l o,c=(none,l,o)/\l<o/\hint+l<n/\b (hint+l)=true/\x+1<=o)
   (Q:=λc a=>a=st/\∃l o,c=(none,l,o)/\l<o/\hint+l<n/\b (hint+l)=true/\(o >= n-hint\/(hint+o<n/\b (hint+o)=false))) ?step ?fin ⟨rfl,0,1,rfl,by lia,hh,hb,by lia⟩) ?post)
  case fin =>
   refine λc a=>fF λz0 l o z1 q e p m=>?_;subst z0 z1
   exact⟨rfl,(cU l o rfl q e p (.inl (by lia)))⟩
  case step =>
   refine λx c a _ hx=>fF λz0 l o z1 q e p m=>?_;subst z0 z1
   dsimp only
   by_cases d:o >= n-hint
   .rw[bw d];exact Xn ⟨rfl,(cU l o rfl q e p (.inl d))⟩
   .rw[bq d];refine XG (one (by lia) ?_);dsimp only;cases hbo:b (hint+o) with
    | false =>
     rw[bw (by decide)];exact Xn ⟨rfl,(cU l o rfl q e p (.inr ⟨by lia,hbo⟩))⟩
    | true =>
     rw[bq (by decide)];exact Xn ⟨rfl,(cU o (2*o+1) rfl (by lia) (by lia) hbo (by lia))⟩
  case post =>
   refine λc a=>fF λz0 l o z1 q e p m=>?_;subst z0 z1
   refine H (λx l r R d u=>?_) (λx l r R U hr u=>?_) (λl r G=>Xn G) (hint+l+1) (hint+min o (n-hint)) (by lia) (by lia) (λi y=>mono i (hint+l) (by lia) e p) λi N M=>?_
   .dsimp only;rw[bw d];exact Xn u
   .dsimp only;rw[bq (by lia)];refine XG (one (by lia) ?_);dsimp only;cases hbm:b (l+(r-l)/2) with
    | true =>
     rw[hbm,bw rfl]at u;rw[bw rfl];exact Xn u
    | false =>
     rw[hbm,bq XU]at u;rw[bq XU];exact Xn u
   .rcases m with m | ⟨m,B⟩
    .lia
    .cases v:b i with
     | false=>rfl
     | true =>
      have:=mono _ i (show hint+o<=i by lia) M v;rw[B]at this;cases this
 | false =>
  rw[bq XU];refine XG (UD (V0 (I:=λx c a=>a=st/\∃l o,c=(none,l,o)/\l<o/\l<=hint/\b (hint-l)=false/\x+1<=o)
   (Q:=λc a=>a=st/\∃l o,c=(none,l,o)/\l<o/\l<=hint/\b (hint-l)=false/\(o >= hint+1\/(o<=hint/\b (hint-o)=true))) ?step ?fin ⟨rfl,0,1,rfl,by lia,by lia,hb,by lia⟩) ?post)
  case fin =>
   refine λc a=>fF λz0 l o z1 q e p m=>?_;subst z0 z1
   exact⟨rfl,(cU l o rfl q e p (.inl (by lia)))⟩
  case step =>
   refine λx c a _ hx=>fF λz0 l o z1 q e p m=>?_;subst z0 z1
   dsimp only
   by_cases d:o >= hint+1
   .rw[bw d];exact Xn ⟨rfl,(cU l o rfl q e p (.inl d))⟩
   .rw[bq d];refine XG (one (by lia) ?_);dsimp only;cases hbo:b (hint-o) with
    | true =>
     rw[bw rfl];exact Xn ⟨rfl,(cU l o rfl q e p (.inr ⟨by lia,hbo⟩))⟩
    | false =>
     rw[bq (by decide)];exact Xn ⟨rfl,(cU o (2*o+1) rfl (by lia) (by lia) hbo (by lia))⟩
  case post =>
   refine λc a=>fF λz0 l o z1 q e p m=>?_;subst z0 z1
   refine H (λx l r R d u=>?_) (λx l r R U hr u=>?_) (λl r G=>Xn G) (hint+1-min o (hint+1)) (hint-l) (by lia) (by lia) (λi y=>?_) λi N M=>?_
   .dsimp only;rw[bw d];exact Xn u
   .dsimp only;rw[bq (by lia)];refine XG (one (by lia) ?_);dsimp only;cases hbm:b (l+(r-l)/2) with
    | true =>
     rw[hbm,bw rfl]at u;rw[bw rfl];exact Xn u
    | false =>
     rw[hbm,bq XU]at u;rw[bq XU];exact Xn u
   .rcases m with m | ⟨m,B⟩
    .lia
    .exact mono i (hint-o) (by lia) (by lia) B
   .cases v:b i with
    | false=>rfl
    | true =>
     have:=mono _ i N M v;rw[p]at this;cases this
end
structure MI (rk:Xa->Int)(aL bL:List Xa)(ia ib:Nat)(oL:List Xa):Prop where
 perm:oL.Perm (aL.take ia++bL.take ib)
 srt:oL.Pairwise λx y=>rk x<=rk y
 la:∀x∈oL,∀y∈aL.drop ia,rk x<=rk y
 lb:∀x∈oL,∀y∈bL.drop ib,rk x<=rk y
section
variable {rk:Xa->Int}{aL bL oL:List Xa}{ia ib:Nat}
def MI.swap (M:MI rk aL bL ia ib oL):MI rk bL aL ib ia oL:=⟨M.perm.trans SO,M.srt,M.lb,M.la⟩
def zjL (l:List Xa)(i k:Nat):l.take (i+k)=l.take i++(l.drop i).take k:=by
 rw[List.take_add]
def MI.takeA (M:MI rk aL bL ia ib oL)(sa:aL.Pairwise λx y=>rk x<=rk y)(k:Nat)(h:∀x∈(aL.drop ia).take k,∀y∈bL.drop ib,rk x<=rk y):MI rk aL bL (ia+k) ib (oL++(aL.drop ia).take k):=by
 have b:(aL.drop ia).Pairwise λx y=>rk x<=rk y:=sa.sublist (RM _ _);have c:(aL.drop ia).drop k=aL.drop (ia+k):=Pu;refine⟨?_,?_,λx hx y a=>?_,λx hx y a=>?_⟩
 .rw[zjL,W3];refine(M.perm.append_right _).trans ?_;rw[W3];exact SQ _ SO
 .rw[T0];exact⟨M.srt,b.sublist (RN _ _),λx hx y a=>M.la x hx y (Wc a)⟩
 .rw[<- c]at a;rcases XM.mp hx with hx | hx
  .exact M.la x hx y (Pm a)
  .have:=b;rw[<- W5 k (aL.drop ia),T0]at this;exact this.2.2 x hx y a
 .rcases XM.mp hx with hx | hx
  .exact M.lb x hx y a
  .exact h x hx y a
def MI.takeB (M:MI rk aL bL ia ib oL)(a:bL.Pairwise λx y=>rk x<=rk y)(k:Nat)(h:∀x∈(bL.drop ib).take k,∀y∈aL.drop ia,rk x<=rk y):MI rk aL bL ia (ib+k) (oL++(bL.drop ib).take k):=(M.swap.takeA a k h).swap
def Mg (rk:Xa->Int)(aL bL oL:List Xa):Prop:=oL.Perm (aL++bL)/\oL.Pairwise λx y=>rk x<=rk y
def MI.all (M:MI rk aL bL ia ib oL)(a:aL.length<=ia)(b:bL.length<=ib):Mg rk aL bL oL:=by
 have:=M.perm;rw[WE a,WE b]at this;exact⟨this,M.srt⟩
def MI.doneB (M:MI rk aL bL ia ib oL)(sa:aL.Pairwise λx y=>rk x<=rk y)(a:bL.length<=ib):Mg rk aL bL (oL++aL.drop ia):=by
 have:=M.takeA sa (aL.drop ia).length (λx _ y b=>by
  rw[SV a]at b;cases b)
 rw[XF]at this;exact this.all (by rw[U4];lia) a
def MI.lastA (M:MI rk aL bL ia ib oL)(sa:aL.Pairwise λx y=>rk x<=rk y)(c:bL.Pairwise λx y=>rk x<=rk y)(h:∀x∈bL,∀y∈aL.drop ia,rk x<=rk y):Mg rk aL bL (oL++bL.drop ib++aL.drop ia):=by
 have M2:=M.takeB c (bL.drop ib).length (λx a y b=>h x (Pm (Wc a)) y b);rw[XF]at M2;exact M2.doneB sa (by rw[U4];lia)
def ext_toList (a:Array Xa)(i j:Nat)(b:i<=j):(a.extract i j).toList=(a.toList.drop i).take (j-i):=by
 rw[Pl,RT]
def zax (a:Array Xa)(i:Nat):(a.extract i a.size).toList=a.toList.drop i:=by
 rw[Pl,RT,WE];rw[U4,XZ];exact XT _
def zlg {a:Array Xa}{i:Nat}{x:Xa}(h:a[i]?=some x):(a.toList.drop i).take 1=[x]:=by
 have b:i<a.toList.length:=by
  rw[XZ];exact(Vs.mp h).1
 rw[WB b,UF,Ps];have:a.toList[i]?=some x:=by rw[XA];exact h
 rw[XY b]at this;rw[Option.some.inj this]
end
section
variable {prog:Xh}{w:W2}{A:WO}{E:X9->X7->Prop}{s:X7}{rk:Xa->Int}{κ:T6}{a0:Array Xa}
structure Kept (st st':WS):Prop where
 arr:Xl st'=Xl st
 kind:kindOf st'=kindOf st
 pend:WR st'=WR st
 bad:S9 st'=S9 st
def setG':Nat->StateT WS Sem Unit:=sortPriv% PySem.Builtin.setMinGallop
def Kept.refl (st:WS):Kept st st:=⟨rfl,rfl,rfl,rfl⟩
def zeJ {b st:WS}{g:Nat}{Q:Unit->WS->Prop}(k:Kept b st)(h:∀a,Kept b a->Q () a):wpS (Xg prog w) A E s (setG' g) Q st:=by
 have e:setG' g=modify λc=>SortSt.mk' (kindOf c) (Xl c) (WR c) g (S9 c):=rfl;rw[e];exact Tn (h _ ⟨k.arr,k.kind,k.pend,k.bad⟩)
def qz {α:Type}{c:Prop} [Decidable c]{x y:StateT WS Sem α}{Q:α->WS->Prop}{st:WS}(h1:c->wpS (Xg prog w) A E s x Q st)(h2:¬ c->wpS (Xg prog w) A E s y Q st):wpS (Xg prog w) A E s (if c then x else y) Q st:=by
 by_cases a:c
 .rw[bw a];exact h1 a
 .rw[bq a];exact h2 a
def jv {a:Array Xa}{i:Nat}(h:i<a.size):∃x,a[i]?=some x/\x∈a.toList:=⟨a[i],getElem?_pos a i h,by simp⟩
def Zf {a:Array Xa}(sa:a.toList.Pairwise λx y=>rk x<=rk y){i:Nat}{x:Xa}(e:a[i]?=some x):∀y∈a.toList.drop i,rk x<=rk y:=by
 have b:i<a.toList.length:=by
  rw[XZ];exact(Vs.mp e).1
 have c:a.toList[i]?=some x:=by rw[XA];exact e
 rw[XY b]at c;have d:=Option.some.inj c;have f:=sa.sublist (RM i a.toList);rw[WB b,d,R0]at f;rw[WB b,d];intro y hy;rcases XI.mp hy with rfl | hy
 .exact U5 _
 .exact f.1 y hy
def YR {a b c:Array Xa}{f d:Nat}(M:MI rk a.toList b.toList f d c.toList)(sa:a.toList.Pairwise λx y=>rk x<=rk y)(e:b.size<=d):Mg rk a.toList b.toList (c++a.extract f a.size++b.extract d b.size).toList:=by
 rw[WP,WP,zax,zax,SV (as:=b.toList) (by rw[XZ];exact e),Xu];exact M.doneB sa (by rw[XZ];exact e)
def YS {a b d:Array Xa}{c g:Nat}(M:MI rk a.toList b.toList c g d.toList)(sa:a.toList.Pairwise λx y=>rk x<=rk y)(l:b.toList.Pairwise λx y=>rk x<=rk y)(i:∀x∈b.toList,∀y,a[a.size-1]?=some y->rk x<=rk y)(m:c+1=a.size):Mg rk a.toList b.toList (d++b.extract g b.size++a.extract c a.size).toList:=by
 rw[WP,WP,zax,zax];refine M.lastA sa l λx j y f=>?_;have e:c<a.toList.length:=by rw[XZ];lia
 rw[WB e,SV (by rw[XZ];lia)]at f;have h:y=a.toList[c]:=by simpa using f
 refine i x j y ?_;rw[show a.size-1=c by lia,<- XA,XY e,h]
def zjM (a:Array Xa)(x:Xa):(a.push x).toList=a.toList++[x]:=SX ..
def MI.oneB {a b c:Array Xa}{d f:Nat}{x:Xa}(M:MI rk a.toList b.toList d f c.toList)(l:b.toList.Pairwise λx y=>rk x<=rk y)(e:b[f]?=some x)(h:∀y∈a.toList.drop d,rk x<=rk y):MI rk a.toList b.toList d (f+1) (c.push x).toList:=by
 rw[zjM,<- zlg e];refine M.takeB l 1 λz g y j=>?_;rw[zlg e]at g;have i:z=x:=by simpa using g
 rw[i];exact h y j
def MI.oneA {a b c:Array Xa}{d f:Nat}{x:Xa}(M:MI rk a.toList b.toList d f c.toList)(sa:a.toList.Pairwise λx y=>rk x<=rk y)(e:a[d]?=some x)(h:∀y∈b.toList.drop f,rk x<=rk y):MI rk a.toList b.toList (d+1) f (c.push x).toList:=(MI.oneB M.swap sa e h).swap
def MI.someA {a b f:Array Xa}{c g k:Nat}{y:Xa}(M:MI rk a.toList b.toList c g f.toList)(sa:a.toList.Pairwise λx y=>rk x<=rk y)(o:b.toList.Pairwise λx y=>rk x<=rk y)(e:b[g]?=some y)(h:∀i x,i<k->a[c+i]?=some x->rk x<=rk y):MI rk a.toList b.toList (c+k) g (f++a.extract c (c+k)).toList:=by
 rw[WP,ext_toList _ _ _ (U2 _ _),Rj];refine M.takeA sa k λx m z n=>VD ?_ (Zf o e z n);obtain⟨i,j,l⟩:=TD m;have d:i<k:=by
  rw[XJ]at j;lia
 refine h i x d ?_;have:((a.toList.drop c).take k)[i]?=some x:=by rw[XY j,l]
 rw[List.getElem?_take,bw d,Ti,XA]at this;exact this
def MI.someB {a b d:Array Xa}{f c k:Nat}{y:Xa}(M:MI rk a.toList b.toList f c d.toList)(sa:a.toList.Pairwise λx y=>rk x<=rk y)(g:b.toList.Pairwise λx y=>rk x<=rk y)(e:a[f]?=some y)(h:∀i x,i<k->b[c+i]?=some x->rk x<=rk y):MI rk a.toList b.toList f (c+k) (d++b.extract c (c+k)).toList:=(MI.someA M.swap g sa e h).swap
def za7 {st:WS}{b:Xa}{a:Array Xa}{base n hint:Nat}{Q:Option Nat->WS->Prop}(T:Tells prog w A s κ rk a0)(hk:kindOf st=κ)(c:b∈a0.toList)(z:∀x∈a.toList,x∈a0.toList)(up:∀i j x y,base<=i->i<=j->j<base+n->a[i]?=some x->a[j]?=some y->rk x<=rk y)(B:base+n<=a.size)(r:hint<n)
  (h:∀k,k<=n->(∀i x,i<k->a[base+i]?=some x->rk x<=rk b)->(∀i x,k<=i->i<n->a[base+i]?=some x->rk b<rk x)->Q (some k) st):wpS (Xg prog w) A E s (gallop' false b a base n hint) Q st:=by
 have he:∀i,i<n->∃x,a[base+i]?=some x/\x∈a.toList:=λi f=>jv (by lia);refine zfU T hk c (λi=>match a[base+i]? with | some x=>bey rk false b x | none=>false) (λi f=>?_) (λi j u v d=>?_) r λk o h1 h2=>h k o (λi x f e=>?_) λi x g l e=>?_
 .obtain⟨x,e,m⟩:=he i f;refine⟨x,e,z x m,?_⟩;try dsimp only
  rw[e]
 .obtain⟨x,p,_⟩:=he i (by lia);obtain⟨y,q,_⟩:=he j v;try dsimp only at d ⊢
  rw[q]at d;rw[p];have:=up (base+i) (base+j) x y (by lia) (by lia) (by lia) p q;unfold bey at d ⊢;simp only[Wz,if_false,WF,decide_eq_false_iff_not]at d ⊢;lia
 .have:=h1 i f;try dsimp only at this
  rw[e]at this;unfold bey at this;simp only[Wz,if_false,WF,decide_eq_false_iff_not]at this;lia
 .have:=h2 i g l;try dsimp only at this
  rw[e]at this;unfold bey at this;simp only[Wz,if_false,Bool.not_eq_false',bu]at this;exact this
def za8 {st:WS}{b:Xa}{a:Array Xa}{base n hint:Nat}{Q:Option Nat->WS->Prop}(T:Tells prog w A s κ rk a0)(hk:kindOf st=κ)(c:b∈a0.toList)(z:∀x∈a.toList,x∈a0.toList)(up:∀i j x y,base<=i->i<=j->j<base+n->a[i]?=some x->a[j]?=some y->rk x<=rk y)(B:base+n<=a.size)(r:hint<n)
  (h:∀k,k<=n->(∀i x,i<k->a[base+i]?=some x->rk x<rk b)->(∀i x,k<=i->i<n->a[base+i]?=some x->rk b<=rk x)->Q (some k) st):wpS (Xg prog w) A E s (gallop' true b a base n hint) Q st:=by
 have he:∀i,i<n->∃x,a[base+i]?=some x/\x∈a.toList:=λi f=>jv (by lia);refine zfU T hk c (λi=>match a[base+i]? with | some x=>bey rk true b x | none=>false) (λi f=>?_) (λi j u v d=>?_) r λk o h1 h2=>h k o (λi x f e=>?_) λi x g l e=>?_
 .obtain⟨x,e,m⟩:=he i f;refine⟨x,e,z x m,?_⟩;try dsimp only
  rw[e]
 .obtain⟨x,p,_⟩:=he i (by lia);obtain⟨y,q,_⟩:=he j v;try dsimp only at d ⊢
  rw[q]at d;rw[p];have:=up (base+i) (base+j) x y (by lia) (by lia) (by lia) p q;unfold bey at d ⊢;simp only[if_true,bu]at d ⊢;lia
 .have:=h1 i f;try dsimp only at this
  rw[e]at this;unfold bey at this;simp only[if_true,bu]at this;exact this
 .have:=h2 i g l;try dsimp only at this
  rw[e]at this;unfold bey at this;simp only[if_true,decide_eq_false_iff_not]at this;lia
def zit {a:Array Xa}(sa:a.toList.Pairwise λx y=>rk x<=rk y){i j:Nat}{x y:Xa}(d:i<=j)(c:a[i]?=some x)(b:a[j]?=some y):rk x<=rk y:=by
 refine Zf sa c y ?_;have e:j<a.toList.length:=by
  rw[XZ];exact(Vs.mp b).1
 refine X8 (i:=j-i) ?_;rw[Ti,XA,show i+(j-i)=j by lia];exact b
set_option maxHeartbeats 8000000 in
theorem via {P:Prop}(h:∀G:Prop,(P->G)->G):P:=h P id
structure Key (P:Prop):Prop where
 get:P
def cut {P R:Prop}(k:P)(h:Key P->R):R:=h ⟨k⟩
def zjN {p:WS}{a b:Array Xa}{Q:Array Xa->WS->Prop}(T:Tells prog w A s κ rk a0)(hk:kindOf p=κ)(ma:∀x∈a.toList,x∈a0.toList)(mb:∀x∈b.toList,x∈a0.toList)(sa:a.toList.Pairwise λx y=>rk x<=rk y)(O:b.toList.Pairwise λx y=>rk x<=rk y)
  (ha:0<a.size) (hb:0<b.size) (h0:∀x y,b[0]?=some x->y∈a.toList->rk x<=rk y) (av:∀x∈b.toList,∀y,a[a.size-1]?=some y->rk x<rk y)
  (h:∀d l,Kept p l->Mg rk a.toList b.toList d.toList->Q d l):wpS (Xg prog w) A E s (mergeLo' a b) Q p:=by
 have hl:∀x∈b.toList,∀y,a[a.size-1]?=some y->rk x<=rk y:=λx hx y hy=>VZ (av x hx y hy);refine XG (Ry (Vd ⟨rfl,?_⟩));refine d9 (λb0 ah _=>?_) (jv hb);refine XG (je ah ?_);have M0:MI rk a.toList b.toList 0 0 (#[]:Array Xa).toList:=⟨by simp,List.Pairwise.nil,(λx hx=>nomatch hx),(λx hx=>nomatch hx)⟩;have M1:MI rk a.toList b.toList 0 1 (#[b0]:Array Xa).toList:=MI.oneB M0 O ah λy hy=>h0 b0 y ah (by simpa using hy);dsimp -zeta only;refine qz (λhc=>Xn (h _ _ (Kept.refl _) (YR M1 sa (by rw[show 1=b.size by simpa using hc];exact XT _)))) λhc=>?_;refine qz (λak=>Xn (h _ _ (Kept.refl _) (YS M1 sa O hl (by simpa using ak)))) λak=>?_;have a4:1<b.size:=by
  have:¬ 1=b.size:=by simpa using hc
  lia
 have az:0+1<a.size:=by
  have:¬ 0+1=a.size:=by simpa using ak
  lia
 refine XG (SC ?_);refine XG (UD (V0 (I:=λx c l=>∃d f g mg,c=(none,d,f,g,mg)/\MI rk a.toList b.toList f g d.toList/\f+1<a.size/\g<b.size/\x+1<=f+g/\Kept p l)
  (Q:=λc l=>∃m,c.1=some m/\Mg rk a.toList b.toList m.toList/\Kept p l) ?step ?fin ⟨_,(dw 0 1 (cQ rfl M1 az a4 (by lia) (Kept.refl _)))⟩) ?post)
 case fin =>
  refine λc l=>fz λd f g mg z0 M h1 h2 h3 k=>?_;subst z0
  lia
 case post =>
  rintro⟨c1,c2⟩ l ⟨m,e,hM,k⟩
  dsimp only at e ⊢
  subst e
  exact Xn (h _ _ k hM)
 case step =>
  intro x0 c ao _ aC hI
  refine via λG n=>?_
  obtain⟨d,f,g,mg,rfl,M,h1,h2,h3,k1⟩:=hI
  refine n ?_
  clear n
  have a7:kindOf ao=κ:=k1.kind.trans hk
  dsimp -zeta only
  refine XG (UD (V0 (I:=λx c l=>l=ao/\∃d f g D H,c=(none,d,f,g,D,H)/\MI rk a.toList b.toList f g d.toList/\f+1<a.size/\g<b.size/\x0+1+x<=f+g)
   (Q:=λc l=>l=ao/\((∃m,c.1=some m/\Mg rk a.toList b.toList m.toList)\/∃d f g D H,c=(none,d,f,g,D,H)/\MI rk a.toList b.toList f g d.toList/\f+1<a.size/\g<b.size/\x0+2<=f+g)) ?step1 ?fin1 ⟨rfl,(dJ rfl M h1 h2 (by lia))⟩) ?post1)
  case fin1 =>
   refine λc l=>eV λz0=>fy λd f g D H z1 M h1 h2 h3=>?_;subst z0 z1
   exact⟨rfl,.inr (cL d f g D (cM H rfl M h1 h2 (by lia)))⟩
  case step1 =>
   intro x c l _ hx hI
   refine via λG n=>?_
   revert hI;refine eV λz0=>fy λd f g D H z1 M h1 h2 h3=>?_;subst z0 z1
   obtain⟨y,ey,my⟩:=jv h2
   obtain⟨z,r,mz⟩:=jv (a:=a) (i:=f) (by lia)
   refine n ?_
   clear n
   dsimp -zeta only
   refine XG (je ey (XG (je r (XG (zlc T a7 (mb y my) (ma z mz) ?_)))))
   dsimp -zeta only
   refine qz (λam=>?_) λam=>?_
   .have aa:rk y<rk z:=bg am;have M2:=MI.oneB M O ey λv hv=>VD (VZ aa) (Zf sa r v hv);refine XG (je ey ?_);refine qz (λhe=>Xn ⟨rfl,.inl ⟨_,rfl,YR M2 sa (by rw[show g+1=b.size by simpa using he];exact XT _)⟩⟩) λhe=>?_;have af:g+1<b.size:=by
     have:¬ g+1=b.size:=by simpa using he
     lia
    exact qz (λ_=>Xn ⟨rfl,.inr (dJ rfl M2 h1 af (by lia))⟩) λ_=>Xn ⟨rfl,(dJ rfl M2 h1 af (by lia))⟩
   .have aa:¬ rk y<rk z:=λq=>am (br q);have M2:=MI.oneA M sa r λv hv=>VD (OR.mp aa) (Zf O ey v hv);refine XG (je r ?_);refine qz (λhe=>Xn ⟨rfl,.inl ⟨_,rfl,YS M2 sa O hl (by simpa using he)⟩⟩) λhe=>?_;have Y:f+1+1<a.size:=by
     have:¬ f+1+1=a.size:=by simpa using he
     lia
    exact qz (λ_=>Xn ⟨rfl,.inr (dJ rfl M2 Y h2 (by lia))⟩) λ_=>Xn ⟨rfl,(dJ rfl M2 Y h2 (by lia))⟩
  case post1 =>
   intro c l hI
   refine via λG n=>?_
   rcases hI with ⟨rfl,a5 | ⟨d,f,g,D,H,rfl,M,h1,h2,h3⟩⟩
   all_goals (refine n ?_;clear n)
   .revert a5;refine d9 λm e hM=>?_;obtain⟨c1,c2⟩:=c;dsimp only at e ⊢;subst e;exact Xn ⟨m,rfl,hM,k1⟩
   dsimp -zeta only
   refine XG (Ry (Vd ⟨rfl,?_⟩))
   refine XG (UD (V0 (I:=λx c B=>∃d f g mg D H,c=(none,d,f,g,mg,D,H)/\MI rk a.toList b.toList f g d.toList/\f+1<a.size/\g<b.size/\x0+2<=f+g/\Kept p B)
    (Q:=λc B=>(∃m,c.1=some m/\Mg rk a.toList b.toList m.toList/\Kept p B)\/∃d f g mg D H,c=(none,d,f,g,mg,D,H)/\MI rk a.toList b.toList f g d.toList/\f+1<a.size/\g<b.size/\x0+2<=f+g/\Kept p B) ?step2 ?fin2 (dP (cI (cQ rfl M h1 h2 h3 k1)))) ?post2)
   case fin2 =>
    rintro c B hc
    exact .inr hc
   case post2 =>
    rintro c B (⟨m,e,hM,k2⟩ | ⟨d,f,g,mg,D,H,rfl,M,h1,h2,h3,k2⟩)
    .obtain⟨c1,c2⟩:=c;dsimp only at e ⊢;subst e;exact Xn ⟨m,rfl,hM,k2⟩
    .dsimp -zeta only;exact XG (zeJ k2 λax k3=>Xn (dP (cQ rfl M h1 h2 (by lia) k3)))
   case step2 =>
    intro x c B _ hx hI
    refine via λG n=>?_
    obtain⟨d,f,g,mg,D,H,rfl,M,h1,h2,h3,k2⟩:=hI
    obtain⟨y,ey,my⟩:=jv h2
    refine n ?_
    clear n
    dsimp -zeta only
    refine' cut ?key1 λo=>qz (λa8=>?a1) λa8=>?b1
    case a1 =>
     generalize mg-1=aw
     revert aw
     exact o.get
    case b1=>exact o.get mg
    intro aw
    dsimp -zeta only
    refine XG (zeJ k2 λax k3=>?_)
    have au:kindOf ax=κ:=k3.kind.trans hk
    refine XG (je ey (XG (za7 T au (mb y my) ma (λi j u v _ al _ eu J=>zit sa al eu J) (by lia) (by lia) λk aA g1 g2=>?_)))
    dsimp -zeta only
    refine' cut ?key2 λo=>qz (λa6=>?a2) λa6=>?b2
    case a2 =>
     have M2:=MI.someA M sa O ey g1
     refine qz (λhe=>Xn (.inl ⟨_,rfl,YS M2 sa O hl (by simpa using he),k3⟩)) λhe=>?_
     have aD:¬ f+k+1=a.size:=by simpa using he
     have kl:f+k<a.size:=by
      refine Nat.lt_of_not_le λa9=>?_;obtain⟨v,J,mv⟩:=jv (a:=a) (i:=a.size-1) (by lia);have q1:=g1 (a.size-1-f) v (by lia) (by rw[show f+(a.size-1-f)=a.size-1 by lia];exact J);have q2:=av y my v J;lia
     refine qz (λaq=>absurd (show f+k=a.size by simpa using aq) (by lia)) λaq=>?_
     have ai:f+k+1<a.size:=by lia
     have aj:x0+2<=f+k+g:=by lia
     have ab:∀z,a[f+k]?=some z->rk y<=rk z:=λz r=>VZ (g2 k z (XT _) (by lia) r)
     generalize d++a.extract f (f+k)=ag at M2 ⊢
     generalize f+k=N at M2 ai aj ab ⊢
     revert ab;revert aj;revert ai;revert M2;revert N;revert ag
     exact o.get
    case b2=>exact o.get d f M h1 h3 λz r=>VZ (g2 0 z (by lia) (by lia) (by simpa using r))
    intro ag N M2 ai aj ab
    refine via λG n=>?_
    obtain⟨z,r,mz⟩:=jv (a:=a) (i:=N) (by lia)
    refine n ?_
    clear n
    have M3:=MI.oneB M2 O ey λv hv=>VD (ab z r) (Zf sa r v hv)
    refine XG (je ey ?_)
    refine qz (λhe=>Xn (.inl ⟨_,rfl,YR M3 sa (by rw[show g+1=b.size by simpa using he];exact XT _),k3⟩)) λhe=>?_
    have af:g+1<b.size:=by
     have:¬ g+1=b.size:=by simpa using he
     lia
    refine XG (je r (XG (za8 T au (ma z mz) mb (λi j u v _ al _ eu J=>zit O al eu J) (by lia) (by lia) λk' aB g3 g4=>?_)))
    dsimp -zeta only
    refine' cut ?key3 λo=>qz (λar=>?a3) λar=>?b3
    case a3 =>
     have M4:=MI.someB M3 sa O r λi u hi eu=>VZ (g3 i u hi eu)
     refine qz (λhe=>Xn (.inl ⟨_,rfl,YR M4 sa (by rw[show g+1+k'=b.size by simpa using he];exact XT _),k3⟩)) λhe=>?_
     have L:g+1+k'<b.size:=by
      have:¬ g+1+k'=b.size:=by simpa using he
      lia
     have ae:∀v,b[g+1+k']?=some v->rk z<=rk v:=λv J=>g4 k' v (XT _) (by lia) J
     have U:x0+2<=N+(g+1+k'):=by lia
     generalize ag.push y++b.extract (g+1) (g+1+k')=ay at M4 ⊢
     generalize g+1+k'=an at M4 L ae U ⊢
     revert U;revert ae;revert L;revert M4;revert an;revert ay
     exact o.get
    case b3=>exact o.get (ag.push y) (g+1) M3 af (λv J=>g4 0 v (by lia) (by lia) (by simpa using J)) (by lia)
    intro ay an M4 L ae U
    refine via λG n=>?_
    obtain⟨v,J,mv⟩:=jv (a:=b) (i:=an) L
    refine n ?_
    clear n
    have M5:=MI.oneA M4 sa r λu hu=>VD (ae v J) (Zf O J u hu)
    refine XG (je r ?_)
    refine qz (λhe=>Xn (.inl ⟨_,rfl,YS M5 sa O hl (by simpa using he),k3⟩)) λhe=>?_
    have Y:N+1+1<a.size:=by
     have:¬ N+1+1=a.size:=by simpa using he
     lia
    exact qz (λ_=>Xn (.inr (dP (cI (cQ rfl M5 Y L (by lia) k3))))) λ_=>Xn (dP (cI (cQ rfl M5 Y L (by lia) k3)))
end
def neg (rk:Xa->Int):Xa->Int:=λx=>- rk x
def zbY {a:Array Xa}{j:Nat}(h:j<a.size):a.reverse[j]?=a[a.size-1-j]?:=by
 rw[Qb h]
def Hi (rk:Xa->Int)(a b:Array Xa)(d e:Nat)(c:Array Xa):Prop:=MI (neg rk) a.reverse.toList b.reverse.toList (a.size-d) (b.size-e) c.toList
section
variable {rk:Xa->Int}{a b out:Array Xa}{na nb:Nat}
def Z7 (sa:a.toList.Pairwise λx y=>rk x<=rk y):a.reverse.toList.Pairwise λx y=>neg rk x<=neg rk y:=by
 rw[Vf,PP];exact sa.imp λh=>S5 h
def zcv {i:Nat}{x:Xa}(h1:1<=i)(h2:i<=a.size)(e:a[i-1]?=some x):a.reverse[a.size-i]?=some x:=by
 rw[zbY (by lia),show a.size-1-(a.size-i)=i-1 by lia];exact e
theorem Hi.oneA {x y:Xa}(M:Hi rk a b na nb out)(sa:a.toList.Pairwise λx y=>rk x<=rk y)(i:b.toList.Pairwise λx y=>rk x<=rk y)(h1:1<=na)(h2:na<=a.size)(e:1<=nb)(f:nb<=b.size)(c:a[na-1]?=some x)(d:b[nb-1]?=some y)(h:rk y<=rk x):Hi rk a b (na-1) nb (out.push x):=by
 have:=MI.oneA (rk:=neg rk) M (Z7 sa) (zcv h1 h2 c) λv g=>VD (S5 h) (Zf (Z7 i) (zcv e f d) v g);unfold Hi;rw[show a.size-(na-1)=a.size-na+1 by lia];exact this
theorem Hi.oneB {x y:Xa}(M:Hi rk a b na nb out)(sa:a.toList.Pairwise λx y=>rk x<=rk y)(i:b.toList.Pairwise λx y=>rk x<=rk y)(h1:1<=na)(h2:na<=a.size)(e:1<=nb)(f:nb<=b.size)(c:a[na-1]?=some x)(d:b[nb-1]?=some y)(h:rk x<=rk y):Hi rk a b na (nb-1) (out.push y):=by
 have:=MI.oneB (rk:=neg rk) M (Z7 i) (zcv e f d) λv g=>VD (S5 h) (Zf (Z7 sa) (zcv h1 h2 c) v g);unfold Hi;rw[show b.size-(nb-1)=b.size-nb+1 by lia];exact this
def znq {i j:Nat}(h1:i<=j)(h2:j<=a.size):(a.extract i j).reverse=a.reverse.extract (a.size-j) (a.size-j+(j-i)):=by
 apply Array.ext_getElem?;intro k;by_cases hk:k<j-i
 .rw[Qb (by rw[Ur];lia),SU,SU,Ur];rw[bw (by lia),bw (by rw[UY];lia),zbY (by lia)];congr 1;lia
 .rw[WM (by rw[UY,Ur];lia),WM (by rw[Ur,UY];lia)]
theorem Hi.someA {i:Nat}{y:Xa}(M:Hi rk a b na nb out)(sa:a.toList.Pairwise λx y=>rk x<=rk y)(g:b.toList.Pairwise λx y=>rk x<=rk y)(h1:i<=na)(h2:na<=a.size)(e:1<=nb)(f:nb<=b.size)(d:b[nb-1]?=some y)(h:∀j x,i<=j->j<na->a[j]?=some x->rk y<=rk x):Hi rk a b i nb (out++(a.extract i na).reverse):=by
 have:=MI.someA (rk:=neg rk) (k:=na-i) M (Z7 sa) (Z7 g) (zcv e f d) λj x l c=>S5 (h (na-1-j) x (by lia) (by lia) (by
  rw[zbY (by lia)]at c;rw[<- c];congr 1;lia))
 unfold Hi;rw[znq h1 h2,show a.size-i=a.size-na+(na-i) by lia];exact this
def Hi.someB {i:Nat}{y:Xa}(M:Hi rk a b na nb out)(sa:a.toList.Pairwise λx y=>rk x<=rk y)(f:b.toList.Pairwise λx y=>rk x<=rk y)(h1:i<=nb)(h2:nb<=b.size)(d:1<=na)(e:na<=a.size)(c:a[na-1]?=some y)(h:∀j x,i<=j->j<nb->b[j]?=some x->rk y<=rk x):Hi rk a b na i (out++(b.extract i nb).reverse):=(Hi.someA (a:=b) (b:=a) M.swap f sa h1 h2 d e c h).swap
def zli {c:List Xa}(h:Mg (neg rk) b.reverse.toList a.reverse.toList c):Mg rk a.toList b.toList c.reverse:=by
 obtain⟨p,q⟩:=h;rw[Vf,Vf]at p;refine⟨?_,?_⟩
 .refine(RL _).trans (p.trans (SO.trans ?_));exact List.Perm.append (RL _) (RL _)
 .rw[PP];refine q.imp λ{x y} h=>?_;have d:- rk x<=- rk y:=h;lia
def zbZ {i:Nat}(h:i<=a.size):(a.reverse.extract (a.size-i) a.reverse.size).toList.reverse=(a.extract 0 i).toList:=by
 rw[zax,Vf,ext_toList _ _ _ (W1 _),List.drop_zero,Nat.sub_zero];have:=List.reverse_take (l:=a.toList) (i:=i);rw[XZ]at this;rw[<- this,Pk]
def Hi.done (M:Hi rk a b 0 nb out)(d:b.toList.Pairwise λx y=>rk x<=rk y)(h:nb<=b.size):Mg rk a.toList b.toList (a.extract 0 0++b.extract 0 nb++out.reverse).toList:=by
 have h1:=YR (rk:=neg rk) (a:=b.reverse) (b:=a.reverse) M.swap (Z7 d) (by rw[UY];lia);have h2:=zli h1;rw[WP,WP,TC,TC,zbZ h]at h2;have c:=zbZ (a:=a) (i:=0) (W1 _);rw[c]at h2;rw[WP,WP,Vf,W3];exact h2
def Hi.first (M:Hi rk a b na 1 out)(sa:a.toList.Pairwise λx y=>rk x<=rk y)(f:b.toList.Pairwise λx y=>rk x<=rk y)(g:0<b.size)(h:na<=a.size)(h0:∀x y,b[0]?=some x->y∈a.toList->rk x<rk y):Mg rk a.toList b.toList (b.extract 0 1++a.extract 0 na++out.reverse).toList:=by
 have h1:=YS (rk:=neg rk) (a:=b.reverse) (b:=a.reverse) M.swap (Z7 f) (Z7 sa) (λx e y d=>by
  rw[UY,zbY (by lia),show b.size-1-(b.size-1)=0 by lia]at d;have c:x∈a.toList:=by simpa using e
  exact S5 (VZ (h0 y x d c))) (by rw[UY];lia)
 have h2:=zli h1;rw[WP,WP,TC,TC,zbZ h,zbZ (by lia)]at h2;rw[WP,WP,Vf,W3];exact h2
end
section
variable {prog:Xh}{w:W2}{A:WO}{E:X9->X7->Prop}{s:X7}{rk:Xa->Int}{κ:T6}{a0:Array Xa}
set_option maxHeartbeats 8000000 in
theorem zjO {p:WS}{a b:Array Xa}{Q:Array Xa->WS->Prop}(T:Tells prog w A s κ rk a0)(hk:kindOf p=κ)(ma:∀x∈a.toList,x∈a0.toList)(mb:∀x∈b.toList,x∈a0.toList)(sa:a.toList.Pairwise λx y=>rk x<=rk y)(r:b.toList.Pairwise λx y=>rk x<=rk y)
  (ha:0<a.size) (hb:0<b.size) (h0:∀x y,b[0]?=some x->y∈a.toList->rk x<rk y) (hl:∀x∈b.toList,∀y,a[a.size-1]?=some y->rk x<rk y)
  (h:∀d l,Kept p l->Mg rk a.toList b.toList d.toList->Q d l):wpS (Xg prog w) A E s (mergeHi' a b) Q p:=by
 refine XG (Ry (Vd ⟨rfl,?_⟩));refine d9 (λz0 aj _=>?_) (jv (a:=a) (i:=a.size-1) (by lia));refine d9 (λy0 a8 aF=>?_) (jv (a:=b) (i:=b.size-1) (by lia));refine XG (je aj ?_);have M0:Hi rk a b a.size b.size #[]:=by
  unfold Hi;rw[TR,TR];exact⟨by simp,List.Pairwise.nil,(λx hx=>nomatch hx),(λx hx=>nomatch hx)⟩
 have M1:Hi rk a b (a.size-1) b.size #[z0]:=M0.oneA sa r (by lia) (XT _) (by lia) (XT _) aj a8 (VZ (hl y0 aF z0 aj));dsimp -zeta only;refine qz (λhc=>Xn (h _ _ (Kept.refl _) ?_)) λhc=>?_
 .have e:a.size-1=0:=by simpa using hc
  rw[e]at M1 ⊢;exact M1.done r (XT _)
 refine qz (λam=>Xn (h _ _ (Kept.refl _) ?_)) λam=>?_
 .have e:b.size=1:=by simpa using am
  rw[e]at M1 ⊢;exact M1.first sa r hb (by lia) h0
 have a9:1<=a.size-1:=by
  have:¬ a.size-1=0:=by simpa using hc
  lia
 have aA:1<b.size:=by
  have:¬ b.size=1:=by simpa using am
  lia
 refine XG (SC ?_);refine XG (UD (V0 (I:=λx c l=>∃g f d mg,c=(none,g,f,d,mg)/\Hi rk a b g f d/\1<=g/\g<a.size/\1<f/\f<=b.size/\g+f+x+1<=a.size+b.size/\Kept p l)
  (Q:=λc l=>∃m,c.1=some m/\Mg rk a.toList b.toList m.toList/\Kept p l) ?step ?fin (cI (dQ rfl M1 a9 (by lia) (cJ aA (XT _) (by lia) (Kept.refl _))))) ?post)
 case fin =>
  refine λc l=>fq λg f d mg z0 M h1 h2=>eZ λh3 n h5 k=>?_;subst z0
  lia
 case post =>
  rintro⟨c1,c2⟩ l ⟨m,e,hM,k⟩
  dsimp only at e ⊢
  subst e
  exact Xn (h _ _ k hM)
 case step =>
  intro x0 c av _ aI hI
  refine via λG L=>?_
  obtain⟨g,f,d,mg,rfl,M,h1,h2,h3,n,h5,k1⟩:=hI
  refine L ?_
  clear L
  have aD:kindOf av=κ:=k1.kind.trans hk
  dsimp -zeta only
  refine XG (UD (V0 (I:=λx c l=>l=av/\∃g f d O U,c=(none,g,f,d,O,U)/\Hi rk a b g f d/\1<=g/\g<a.size/\1<f/\f<=b.size/\g+f+x0+1+x<=a.size+b.size)
   (Q:=λc l=>l=av/\((∃m,c.1=some m/\Mg rk a.toList b.toList m.toList)\/∃g f d O U,c=(none,g,f,d,O,U)/\Hi rk a b g f d/\1<=g/\g<a.size/\1<f/\f<=b.size/\g+f+x0+2<=a.size+b.size)) ?step1 ?fin1 ⟨rfl,(dJ rfl M h1 h2 (cH h3 n (by lia)))⟩) ?post1)
  case fin1 =>
   refine λc l=>eV λz0=>fy λg f d O U z1 M h1 h2=>eN λh3 n h5=>?_;subst z0 z1
   exact⟨rfl,.inr (cL g f d O (cM U rfl M h1 h2 (cH h3 n (by lia))))⟩
  case step1 =>
   intro x c l _ hx hI
   refine via λG L=>?_
   revert hI;refine eV λz0=>fy λg f d O U z1 M h1 h2=>eN λh3 n h5=>?_;subst z0 z1
   obtain⟨y,ey,my⟩:=jv (a:=b) (i:=f-1) (by lia)
   obtain⟨z,B,mz⟩:=jv (a:=a) (i:=g-1) (by lia)
   refine L ?_
   clear L
   dsimp -zeta only
   refine XG (je ey (XG (je B (XG (zlc T aD (mb y my) (ma z mz) ?_)))))
   dsimp -zeta only
   refine qz (λar=>?_) λar=>?_
   .have ae:rk y<rk z:=bg ar;have M2:=M.oneA sa r h1 (by lia) (by lia) n B ey (VZ ae);refine XG (je B ?_);refine qz (λhe=>Xn ⟨rfl,.inl ⟨_,rfl,?_⟩⟩) λhe=>?_
    .have e:g-1=0:=by simpa using he
     rw[e]at M2 ⊢;exact M2.done r n
    have hn:1<=g-1:=by
     have:¬ g-1=0:=by simpa using he
     lia
    exact qz (λ_=>Xn ⟨rfl,.inr (dJ rfl M2 hn (by lia) (cH h3 n (by lia)))⟩) λ_=>Xn ⟨rfl,(dJ rfl M2 hn (by lia) (cH h3 n (by lia)))⟩
   .have ae:¬ rk y<rk z:=λq=>ar (br q);have M2:=M.oneB sa r h1 (by lia) (by lia) n B ey (OR.mp ae);refine XG (je ey ?_);refine qz (λhe=>Xn ⟨rfl,.inl ⟨_,rfl,?_⟩⟩) λhe=>?_
    .have e:f-1=1:=by simpa using he
     rw[e]at M2 ⊢;exact M2.first sa r hb (by lia) h0
    have hn:1<f-1:=by
     have:¬ f-1=1:=by simpa using he
     lia
    exact qz (λ_=>Xn ⟨rfl,.inr (dJ rfl M2 h1 h2 (cH hn (by lia) (by lia)))⟩) λ_=>Xn ⟨rfl,(dJ rfl M2 h1 h2 (cH hn (by lia) (by lia)))⟩
  case post1 =>
   intro c l hI
   refine via λG L=>?_
   rcases hI with ⟨rfl,aB | ⟨g,f,d,O,U,rfl,M,h1,h2,h3,n,h5⟩⟩
   all_goals (refine L ?_;clear L)
   .revert aB;refine d9 λm e hM=>?_;obtain⟨c1,c2⟩:=c;dsimp only at e ⊢;subst e;exact Xn ⟨m,rfl,hM,k1⟩
   dsimp -zeta only
   refine XG (Ry (Vd ⟨rfl,?_⟩))
   refine XG (UD (V0 (I:=λx c J=>∃g f d mg O U,c=(none,g,f,d,mg,O,U)/\Hi rk a b g f d/\1<=g/\g<a.size/\1<f/\f<=b.size/\g+f+x0+2<=a.size+b.size/\Kept p J)
    (Q:=λc J=>(∃m,c.1=some m/\Mg rk a.toList b.toList m.toList/\Kept p J)\/∃g f d mg O U,c=(none,g,f,d,mg,O,U)/\Hi rk a b g f d/\1<=g/\g<a.size/\1<f/\f<=b.size/\g+f+x0+2<=a.size+b.size/\Kept p J) ?step2 ?fin2 (dP (dQ rfl M h1 h2 (cJ h3 n h5 k1)))) ?post2)
   case fin2 =>
    rintro c J hc
    exact .inr hc
   case post2 =>
    rintro c J (⟨m,e,hM,k2⟩ | ⟨g,f,d,mg,O,U,rfl,M,h1,h2,h3,n,h5,k2⟩)
    .obtain⟨c1,c2⟩:=c;dsimp only at e ⊢;subst e;exact Xn ⟨m,rfl,hM,k2⟩
    .dsimp -zeta only;exact XG (zeJ k2 λa6 k3=>Xn (cI (dQ rfl M h1 h2 (cJ h3 n (by lia) k3))))
   case step2 =>
    intro x c J _ hx hI
    refine via λG L=>?_
    obtain⟨g,f,d,mg,O,U,rfl,M,h1,h2,h3,n,h5,k2⟩:=hI
    obtain⟨y,ey,my⟩:=jv (a:=b) (i:=f-1) (by lia)
    refine L ?_
    clear L
    dsimp -zeta only
    refine' cut ?key1 λo=>qz (λaE=>?a1) λaE=>?b1
    case a1 =>
     generalize mg-1=a5
     revert a5
     exact o.get
    case b1=>exact o.get mg
    intro a5
    dsimp -zeta only
    refine XG (zeJ k2 λa6 k3=>?_)
    have ay:kindOf a6=κ:=k3.kind.trans hk
    refine XG (je ey (XG (za7 T ay (mb y my) ma (λi j u v _ an _ eu Y=>zit sa an eu Y) (by lia) (by lia) λk aG g1 g2=>?_)))
    dsimp -zeta only
    refine' cut ?key2 λo=>qz (λaC=>?a2) λaC=>?b2
    case a2 =>
     have M2:=M.someA sa r (i:=k) (by lia) (by lia) (by lia) n ey λj u ao aq eu=>VZ (g2 j u ao aq (by simpa using eu))
     refine qz (λhe=>Xn (.inl ⟨_,rfl,(by
      have e:k=0:=by simpa using he
      rw[e]at M2 ⊢;exact M2.done r n),k3⟩)) λhe=>?_
     have aa:1<=k:=by
      have:¬ k=0:=by simpa using he
      lia
     have ak:k<a.size:=by lia
     have al:k+f+x0+2<=a.size+b.size:=by lia
     have ag:∀z,a[k-1]?=some z->rk z<=rk y:=λz B=>g1 (k-1) z (by lia) (by simpa using B)
     generalize d++(a.extract k g).reverse=ai at M2 ⊢
     generalize g-k=kk
     generalize k=H at M2 aa ak al ag ⊢
     revert ag;revert al;revert ak;revert aa;revert M2;revert H;revert kk;revert ai
     exact o.get
    case b2=>exact o.get d (g-k) g M h1 h2 h5 λz B=>g1 (g-1) z (by lia) (by simpa using B)
    intro ai kk H M2 aa ak al ag
    refine via λG L=>?_
    obtain⟨z,B,mz⟩:=jv (a:=a) (i:=H-1) (by lia)
    refine L ?_
    clear L
    have M3:=M2.oneB sa r aa (by lia) (by lia) n B ey (ag z B)
    refine XG (je ey ?_)
    refine qz (λhe=>Xn (.inl ⟨_,rfl,(by
     have e:f-1=1:=by simpa using he
     rw[e]at M3 ⊢;exact M3.first sa r hb (by lia) h0),k3⟩)) λhe=>?_
    have hn:1<f-1:=by
     have:¬ f-1=1:=by simpa using he
     lia
    refine XG (je B (XG (za8 T ay (ma z mz) mb (λi j u v _ an _ eu Y=>zit r an eu Y) (by lia) (by lia) λN aH g3 g4=>?_)))
    dsimp -zeta only
    refine' cut ?key3 λo=>qz (λax=>?a3) λax=>?b3
    case a3 =>
     have M4:=M3.someB sa r (i:=N) (by lia) (by lia) aa (by lia) B λj u ao aq eu=>g4 j u ao aq (by simpa using eu)
     refine qz (λhe=>Xn (.inl ⟨_,rfl,(by
      have e:N=1:=by simpa using he
      rw[e]at M4 ⊢;exact M4.first sa r hb (by lia) h0),k3⟩)) λhe=>?_
     have aJ:1<=N:=by
      refine P9.mpr λhz=>?_;obtain⟨v,Y,mv⟩:=jv (a:=b) (i:=0) hb;have q1:=g4 0 v (by lia) (by lia) (by simpa using Y);have q2:=h0 v z Y mz;lia
     refine qz (λaw=>absurd (show N=0 by simpa using aw) (by lia)) λaw=>?_
     have af:1<N:=by
      have:¬ N=1:=by simpa using he
      lia
     have D:N<=b.size:=by lia
     have ab:H+N+x0+2<=a.size+b.size:=by lia
     have ah:∀v,b[N-1]?=some v->rk v<=rk z:=λv Y=>VZ (g3 (N-1) v (by lia) (by simpa using Y))
     generalize ai.push y++(b.extract N (f-1)).reverse=a7 at M4 ⊢
     generalize f-1-N=a4
     generalize N=au at M4 af D ab ah ⊢
     revert ah;revert ab;revert D;revert af;revert M4;revert au;revert a4;revert a7
     exact o.get
    case b3=>exact o.get (ai.push y) (f-1-N) (f-1) M3 hn (by lia) (by lia) λv Y=>VZ (g3 (f-1-1) v (by lia) (by simpa using Y))
    intro a7 a4 au M4 af D ab ah
    refine d9 (λv Y mv=>?_) (jv (a:=b) (i:=au-1) (by lia))
    have M5:=M4.oneA sa r aa (by lia) (by lia) D B Y (ah v Y)
    refine XG (je B ?_)
    refine qz (λhe=>Xn (.inl ⟨_,rfl,(by
     have e:H-1=0:=by simpa using he
     rw[e]at M5 ⊢;exact M5.done r D),k3⟩)) λhe=>?_
    have az:1<=H-1:=by
     have:¬ H-1=0:=by simpa using he
     lia
    exact qz (λ_=>Xn (.inr (dP (dQ rfl M5 az (by lia) (cJ af D (by lia) k3))))) λ_=>Xn (dP (dQ rfl M5 az (by lia) (cJ af D (by lia) k3)))
theorem zdR (sa:Nat):∀(l:List Xa) (j:Nat) (b:Array Xa),((l.zipIdx j).foldl (λa (p:Xa×Nat)=>a.setIfInBounds (sa+p.2) p.1) b).size=b.size
 | [],_,_=>rfl
 | x::l,j,b=>by
  rw[List.zipIdx_cons,VW,zdR sa l (j+1)];exact Tt
def znr (sa:Nat):∀(l:List Xa) (j:Nat) (b:Array Xa) (i:Nat),sa+j+l.length<=b.size->((l.zipIdx j).foldl (λa (p:Xa×Nat)=>a.setIfInBounds (sa+p.2) p.1) b)[i]?=if sa+j<=i/\i<sa+j+l.length then l[i-(sa+j)]? else b[i]?:=by
 intro l;induction l with
 | nil =>
  intro j b i h;rw[bq (by simp only[VN];lia)];rfl
 | cons x l c =>
  intro j b i h;rw[Xo]at h;rw[List.zipIdx_cons,VW,c (j+1) _ i (by rw[Tt];lia),Xo];by_cases h1:sa+(j+1)<=i/\i<sa+(j+1)+l.length
  .rw[bw h1,bw (by lia),show i-(sa+j)=(i-(sa+(j+1)))+1 by lia,Rn]
  .rw[bq h1];by_cases h2:i=sa+j
   .subst h2;rw[bw (by lia),TR,List.getElem?_cons_zero];show (b.setIfInBounds (sa+j) x)[sa+j]?=some x;rw[Uh,bw rfl,bw (by lia)]
   .rw[bq (by lia)];show (b.setIfInBounds (sa+j) x)[i]?=b[i]?;rw[Uh,bq (λe=>h2 e.symm)]
def yV {xs:Array Xa}{lo a:Nat}(u:Up rk xs lo a){i j:Nat}{x y:Xa}(h1:lo<=i)(h2:i<=j)(d:j<a)(b:xs[i]?=some x)(c:xs[j]?=some y):rk x<=rk y:=by
 have:=u i j h1 h2 d;unfold Rk at this;rw[b,c]at this;exact this
def zoy {xs:Array Xa}{lo b:Nat}(hz:b<=xs.size)(h:∀i j x y,lo<=i->i<=j->j<b->xs[i]?=some x->xs[j]?=some y->rk x<=rk y):Up rk xs lo b:=λi j h1 h2 e=>by
 obtain⟨x,c,_⟩:=jv (a:=xs) (i:=i) (by lia);obtain⟨y,d,_⟩:=jv (a:=xs) (i:=j) (by lia);unfold Rk;rw[c,d];exact h i j x y h1 h2 e c d
def ziu {xs:Array Xa}{i:Nat}{x:Xa}(e:xs[i]?=some x):x∈xs.toList:=X8 (by rw[XA];exact e)
def ext_get {xs:Array Xa}{i j k:Nat}(h1:i<=j)(h2:j<=xs.size)(hk:k<j-i):(xs.extract i j)[k]?=xs[i+k]?:=by
 rw[SU,bw (by lia)]
def zay {xs:Array Xa}{i j:Nat}(h2:j<=xs.size):(xs.extract i j).size=j-i:=by
 rw[Ur];lia
def zlj {xs:Array Xa}{lo b i j:Nat}(u:Up rk xs lo b)(h1:lo<=i)(h2:j<=b)(a:j<=xs.size):(xs.extract i j).toList.Pairwise λx y=>rk x<=rk y:=by
 rw[Vp];intro m n c d g;rw[XZ,zay a]at c d;have e:=ext_get (xs:=xs) (i:=i) (j:=j) (k:=m) (by lia) a c;have f:=ext_get (xs:=xs) (i:=i) (j:=j) (k:=n) (by lia) a d;refine yV u (i:=i+m) (j:=i+n) (by lia) (by lia) (by lia) ?_ ?_
 .rw[<- e,UL];exact getElem?_pos _ _ _
 .rw[<- f,UL];exact getElem?_pos _ _ _
def ext_mem {xs:Array Xa}{i j:Nat}{x:Xa}(a:j<=xs.size)(h:x∈(xs.extract i j).toList):∃k,i<=k/\k<j/\xs[k]?=some x:=by
 obtain⟨k,hk,e⟩:=TD h;rw[XZ,zay a]at hk;refine⟨i+k,by lia,by lia,?_⟩;rw[<- ext_get (xs:=xs) (i:=i) (j:=j) (by lia) a hk,<- e,UL];exact getElem?_pos _ _ _
def zq5 {st a:WS}{Q:PUnit->WS->Prop}(h:∀b,b=a->Q ⟨⟩ b):wpS (Xg prog w) A E s (set a:StateT WS Sem PUnit) Q st:=by
 unfold wpS;rw[StateT.run_set];exact XQ ⟨rfl,h _ rfl⟩
set_option maxHeartbeats 8000000 in
theorem zjP {st:WS}{i sa b p1 J p2:Nat}{Q:Bool->WS->Prop}(T:Tells prog w A s κ rk a0)(O:Ok κ a0 st)(e1:(WR st)[i]?=some (sa,b,p1))(e2:(WR st)[i+1]?=some (sa+b,J,p2))(ar:1<=b)(au:1<=J)(hz:sa+b+J<=a0.size)(u1:Up rk (Xl st) sa (sa+b))(u2:Up rk (Xl st) (sa+b) (sa+b+J))
  (h:∀B,Ok κ a0 B->WR B=((WR st).setIfInBounds i (sa,b+J,p1)).eraseIdxIfInBounds (i+1)->Up rk (Xl B) sa (sa+b+J)->(∀j:Nat,(j<sa\/sa+b+J<=j)->(Xl B)[j]?=(Xl st)[j]?)->Q true B):wpS (Xg prog w) A E s (mergeAt' i) Q st:=by
 have aj:=O.size;have mX:∀x∈(Xl st).toList,x∈a0.toList:=λx hx=>(UW.mp O.perm).mem_iff.mp hx;obtain⟨b0,r,am⟩:=jv (a:=Xl st) (i:=sa+b) (by lia);refine XG (SC ?_);rw[e1,e2];dsimp only;refine XG (zq5 λn U=>?_);have k1:kindOf n=κ:=by rw[U];exact O.kind
 have ea:Xl n=Xl st:=by rw[U]
 have ep:WR n=((WR st).setIfInBounds i (sa,b+J,p1)).eraseIdxIfInBounds (i+1):=by rw[U]
 have ef:S9 n=none:=by rw[U];exact O.good
 have O1:Ok κ a0 n:=⟨by rw[ea];exact O.perm,k1,ef⟩;refine XG (je r (XG (za7 T k1 (mX b0 am) mX (λp q u v h1 h2 I G H=>yV u1 h1 h2 I G H) (by show sa+b<=(Xl st).size;lia) (by lia) λk hk g1 g2=>?_)));dsimp only;refine qz (λhc=>Xn (h n O1 ep (zoy (by rw[ea];lia) λp q u v h1 h2 I G H=>?_) λj _=>by rw[ea])) λhc=>?_
 .have ek:k=b:=by
   have:b-k=0:=by simpa using hc
   lia
  rw[ea]at G H;by_cases c1:q<sa+b
  .exact yV u1 h1 h2 c1 G H
  .by_cases c2:p<sa+b
   .have q1:=g1 (p-sa) u (by lia) (by rw[show sa+(p-sa)=p by lia];exact G);have q2:=yV u2 (XT _) (by lia) I r H;lia
   .exact yV u2 (by lia) h2 I G H
 have aq:k<b:=by
  have:¬ b-k=0:=by simpa using hc
  lia
 obtain⟨al,af,ak⟩:=jv (a:=Xl st) (i:=sa+k+(b-k)-1) (by lia);have o:(Xl st)[sa+b-1]?=some al:=by
  rw[<- af];congr 1;lia
 refine XG (je af (XG (za8 T k1 (mX al ak) mX (λp q u v h1 h2 I G H=>yV u2 h1 h2 I G H) (by show sa+b+J<=(Xl st).size;lia) (by lia) λg ao g3 g4=>?_)));dsimp only;have an:rk b0<rk al:=g2 (b-1) al (by lia) (by lia) (by rw[show sa+(b-1)=sa+b-1 by lia];exact o);have aw:1<=g:=by
  refine P9.mpr λav=>?_;have:=g4 0 b0 (by lia) (by lia) (by simpa using r);lia
 refine qz (λhc=>absurd (show g=0 by simpa using hc) (by lia)) λ_=>?_;have X3:sa+b<=(Xl st).size:=by lia
 have Y3:sa+b+g<=(Xl st).size:=by lia
 have xs:=zlj (i:=sa+k) (j:=sa+b) u1 (by lia) (XT _) X3;have ys:=zlj (i:=sa+b) (j:=sa+b+g) u2 (XT _) (by lia) Y3;have xm:∀x∈((Xl st).extract (sa+k) (sa+b)).toList,x∈a0.toList:=λx hx=>by
  obtain⟨j,_,_,ej⟩:=ext_mem X3 hx;exact mX x (ziu ej)
 have ym:∀x∈((Xl st).extract (sa+b) (sa+b+g)).toList,x∈a0.toList:=λx hx=>by
  obtain⟨j,_,_,ej⟩:=ext_mem Y3 hx;exact mX x (ziu ej)
 have xz:((Xl st).extract (sa+k) (sa+b)).size=b-k:=by
  rw[zay X3];lia
 have yz:((Xl st).extract (sa+b) (sa+b+g)).size=g:=by
  rw[zay Y3];lia
 have first:∀x y,((Xl st).extract (sa+b) (sa+b+g))[0]?=some x->y∈((Xl st).extract (sa+k) (sa+b)).toList->rk x<rk y:=λx y ex my=>by
  rw[ext_get (by lia) Y3 (by lia),Re,r]at ex;cases ex;obtain⟨j,j1,j2,ej⟩:=ext_mem X3 my;exact g2 (j-sa) y (by lia) (by lia) (by rw[show sa+(j-sa)=j by lia];exact ej)
 have aa:∀x∈((Xl st).extract (sa+b) (sa+b+g)).toList,∀y,((Xl st).extract (sa+k) (sa+b))[((Xl st).extract (sa+k) (sa+b)).size-1]?=some y->rk x<rk y:=λx mx y ey=>by
  rw[xz,ext_get (by lia) X3 (by lia),show sa+k+(b-k-1)=sa+b-1 by lia,o]at ey;cases ey;obtain⟨j,j1,j2,ej⟩:=ext_mem Y3 mx;exact g3 (j-(sa+b)) x (by lia) (by rw[show sa+b+(j-(sa+b))=j by lia];exact ej)
 have ab:∀(merged:Array Xa) (f:WS),Kept n f->Mg rk ((Xl st).extract (sa+k) (sa+b)).toList ((Xl st).extract (sa+b) (sa+b+g)).toList merged.toList ->
   Q true (setArr f (merged.toList.zipIdx.foldl (λa (p:Xa×Nat)=>a.setIfInBounds (sa+k+p.2) p.1) (Xl f))):=λmerged f D Y=>by
  have ac:Xl f=Xl st:=D.arr.trans ea;have ml:merged.toList.length=b-k+g:=by
   rw[Y.1.length_eq,X4,XZ,XZ,xz,yz]
  have L:∀j:Nat,(merged.toList.zipIdx.foldl (λa (p:Xa×Nat)=>a.setIfInBounds (sa+k+p.2) p.1) (Xl f))[j]?=if sa+k<=j/\j<sa+b+g then merged.toList[j-(sa+k)]? else (Xl st)[j]?:=λj=>by
   have:=znr (sa+k) merged.toList 0 (Xl f) j (by rw[ac,ml];lia);rw[this,ac,Re,ml];by_cases c:sa+k<=j/\j<sa+b+g
   .rw[bw c,bw (by lia)]
   .rw[bq c,bq (by lia)]
  have zA:=zdR (sa+k) merged.toList 0 (Xl f);generalize hN:merged.toList.zipIdx.foldl (λa (p:Xa×Nat)=>a.setIfInBounds (sa+k+p.2) p.1) (Xl f)=N at L zA ⊢;have zN:N.size=a0.size:=by
   rw[zA,ac,aj]
  have nl:N.toList=(Xl st).toList.take (sa+k)++merged.toList++(Xl st).toList.drop (sa+b+g):=by
   refine SW λj=>?_;rw[XA,L j];by_cases c1:j<sa+k
   .rw[bq (by lia),W3,V3 (by rw[XJ,XZ];lia),List.getElem?_take,bw c1,XA]
   .rw[W3,VP (by rw[XJ,XZ];lia),XJ,XZ,show min (sa+k) (Xl st).size=sa+k by lia];by_cases c2:j<sa+b+g
    .rw[bw ⟨by lia,c2⟩,V3 (by rw[ml];lia)]
    .rw[bq (by lia),VP (by rw[ml];lia),Ti,XA,ml];congr 1;lia
  have ol:(Xl st).toList=(Xl st).toList.take (sa+k)++(((Xl st).extract (sa+k) (sa+b)).toList++((Xl st).extract (sa+b) (sa+b+g)).toList)++(Xl st).toList.drop (sa+b+g):=by
   rw[ext_toList _ _ _ (by lia),ext_toList _ _ _ (by lia)];have d1:(Xl st).toList.drop (sa+b)=((Xl st).toList.drop (sa+k)).drop (b-k):=by
    rw[Pu];congr 1;lia
   have d2:(Xl st).toList.drop (sa+b+g)=((Xl st).toList.drop (sa+b)).drop g:=by
    rw[Pu]
   rw[d2,show sa+b+g-(sa+b)=g by lia,W3,W3,W5,d1,show sa+b-(sa+k)=b-k by lia,W5,W5]
  refine h _ ⟨?_,D.kind.trans k1,D.bad.trans ef⟩ (D.pend.trans ep) (zoy (by show _<=N.size;lia) λp q u v h1 h2 I G H=>?_) λj hj=>?_
  .refine Array.Perm.trans ?_ O.perm;rw[UW];show N.toList.Perm _;have pm:=List.Perm.append_right ((Xl st).toList.drop (sa+b+g)) (SQ ((Xl st).toList.take (sa+k)) Y.1);rw[<- ol,<- nl]at pm;exact pm
  .have l:N[p]?=some u:=G;have d:N[q]?=some v:=H;rw[L]at l d;have ah:∀{j:Nat} {x:Xa},sa+k<=j->j<sa+b+g->merged.toList[j-(sa+k)]?=some x->(∃m,sa+k<=m/\m<sa+b/\(Xl st)[m]?=some x)\/∃m,sa+b<=m/\m<sa+b+g/\(Xl st)[m]?=some x:=λ_ _ e=>by
    rcases XM.mp (Y.1.mem_iff.mp (X8 e)) with z | z
    .exact .inl (ext_mem X3 z)
    .exact .inr (ext_mem Y3 z)
   by_cases c1:p<sa+k
   .rw[bq (by lia)]at l;by_cases c2:q<sa+k
    .rw[bq (by lia)]at d;exact yV u1 h1 h2 (by lia) l d
    .have ag:∀{m:Nat} {x:Xa},sa+b<=m->m<sa+b+J->(Xl st)[m]?=some x->rk u<=rk x:=λm1 m2 M=>by
      have q1:=g1 (p-sa) u (by lia) (by rw[show sa+(p-sa)=p by lia];exact l);exact VD q1 (yV u2 (XT _) m1 m2 r M)
     by_cases c3:q<sa+b+g
     .rw[bw ⟨by lia,c3⟩]at d;rcases ah (by lia) c3 d with ⟨m,m1,m2,M⟩ | ⟨m,m1,m2,M⟩
      .exact yV u1 h1 (by lia) m2 l M
      .exact ag m1 (by lia) M
     .rw[bq (by lia)]at d;exact ag (by lia) I d
   .by_cases c4:p<sa+b+g
    .rw[bw ⟨by lia,c4⟩]at l;by_cases c3:q<sa+b+g
     .rw[bw ⟨by lia,c3⟩]at d;by_cases ai:p=q
      .subst ai;rw[l]at d;cases d;exact U5 _
      .have sp:=Y.2;rw[Vp]at sp;obtain⟨a1,a2⟩:=XX.mp l;obtain⟨b1,b2⟩:=XX.mp d;have:=sp _ _ a1 b1 (by lia);rw[a2,b2]at this;exact this
     .rw[bq (by lia)]at d;have q4:=g4 (q-(sa+b)) v (by lia) (by lia) (by rw[show sa+b+(q-(sa+b))=q by lia];exact d);rcases ah (by lia) c4 l with ⟨m,m1,m2,M⟩ | ⟨m,m1,m2,M⟩
      .exact VD (yV u1 (by lia) (by lia) (by lia) M o) q4
      .exact yV u2 m1 (by lia) I M d
    .rw[bq (by lia)]at l d;exact yV u2 (by lia) h2 I l d
  .show N[j]?=_;rw[L,bq (by lia)]
 refine qz (λ_=>?_) λ_=>?_
 .refine XG (zjN T k1 xm ym xs ys (Tf (show 0<b-k by lia) xz.symm) (Tf (show 0<g by lia) yz.symm) (λx y ex my=>VZ (first x y ex my)) aa λae f D Y=>?_);refine XG (Tn (XG (SC ?_)));rw[show (S9 f).isNone=true by rw[D.bad,ef];rfl];exact Xn (ab ae f D Y)
 .refine XG (zjO T k1 xm ym xs ys (Tf (show 0<b-k by lia) xz.symm) (Tf (show 0<g by lia) yz.symm) first aa λae f D Y=>?_);refine XG (Tn (XG (SC ?_)));rw[show (S9 f).isNone=true by rw[D.bad,ef];rfl];exact Xn (ab ae f D Y)
def QK:List (Nat×AA)->Nat->Nat->Prop
 | [],s,e=>s=e
 | r::l,s,e=>r.1=s/\1<=r.2.1/\QK l (s+r.2.1) e
theorem yL:∀{c a:List (Nat×AA)} {s e:Nat},QK (c++a) s e ↔ ∃m,QK c s m/\QK a m e
 | [],a,s,e=>⟨λh=>⟨s,rfl,h⟩,λ⟨m,h1,h2⟩=>by
  have e:s=m:=h1;subst e;exact h2⟩
 | r::c,a,s,e=>by
  constructor
  .rintro⟨h1,h2,h3⟩;obtain⟨m,b,d⟩:=yL.mp h3;exact⟨m,⟨h1,h2,b⟩,d⟩
  .rintro⟨m,⟨h1,h2,h3⟩,b⟩;exact⟨h1,h2,yL.mpr ⟨m,h3,b⟩⟩
theorem YT:∀{l:List (Nat×AA)} {s e:Nat},QK l s e->s<=e/\l.length+s<=e/\∀r∈l,s<=r.1/\r.1+r.2.1<=e
 | [],s,e,h=>by
  have b:s=e:=h;subst b;exact⟨XT _,by simp,λr d=>nomatch d⟩
 | r::l,s,e,⟨h1,h2,c⟩=>by
  obtain⟨f,g,a⟩:=YT c;refine⟨by lia,by rw[Xo];lia,λq hq=>?_⟩;rcases XI.mp hq with rfl | hq
  .lia
  .have:=a q hq;lia
structure PI (rk:Xa->Int)(κ:T6)(a0:Array Xa)(lo:Nat)(st:WS):Prop where
 ok:Ok κ a0 st
 til:QK (WR st).toList 0 lo
 up:∀r∈(WR st).toList,Up rk (Xl st) r.1 (r.1+r.2.1)
def zb0 {xs ys:Array Xa}{lo a:Nat}(u:Up rk xs lo a)(h:∀j:Nat,lo<=j->j<a->ys[j]?=xs[j]?):Up rk ys lo a:=λi j h1 h2 b=>by
 rw[JT (h i h1 (by lia)),JT (h j (by lia) b)];exact u i j h1 h2 b
def zpD {p:List (Nat×AA)}{i:Nat}(h:i+1<p.length):∃a b c d,p=a++b::c::d/\a.length=i/\p[i]?=some b/\p[i+1]?=some c:=by
 refine⟨p.take i,p[i],p[i+1],p.drop (i+2),?_,by rw[XJ];lia,XY (by lia),XY h⟩;rw[<- WB h,<- WB (by lia),W5]
def zfV {st:WS}{lo i:Nat}{Q:Bool->WS->Prop}(T:Tells prog w A s κ rk a0)(P:PI rk κ a0 lo st)(N:i+1<(WR st).size)(O:lo<=a0.size)
  (h:∀a,PI rk κ a0 lo a->(WR a).size+1=(WR st).size->(∀j:Nat,lo<=j->(Xl a)[j]?=(Xl st)[j]?)->Q true a):wpS (Xg prog w) A E s (mergeAt' i) Q st:=by
 obtain⟨o,⟨sa,c,D⟩,⟨sb,d,Y⟩,U,f,M,z,B⟩:=zpD (p:=(WR st).toList) (i:=i) (by rw[XZ];exact N);have g:=P.til;rw[f]at g;obtain⟨m,G,⟨u,v,x,y,l⟩⟩:=yL.mp g;dsimp only at u v x y l;subst u;subst x;rw[XA]at z B;have u1:=P.up (sa,c,D) (by rw[f];simp);have H:=P.up (sa+c,d,Y) (by rw[f];simp);dsimp only at u1 H;obtain⟨b1,b2,J⟩:=YT l;obtain⟨c1,c2,L⟩:=YT G;refine zjP T P.ok z B v y (by lia) u1 H λa I n q b=>?_;have e:(WR a).toList=o++(sa,c+d,D)::U:=by
  rw[n,Array.toList_eraseIdxIfInBounds,RW,f,<- M];rw[List.set_append_right _ _ (XT _),TR,List.set_cons_zero,List.eraseIdx_append_of_length_le (by lia),show o.length+1-o.length=1 by lia];rfl
 refine h a ⟨I,?_,λr hr=>?_⟩ ?_ λj hj=>b j (by lia)
 .rw[e];exact yL.mpr ⟨sa,G,rfl,by show 1<=c+d;lia,by rw[show sa+(c+d)=sa+c+d by lia];exact l⟩
 .rw[e]at hr;rcases XM.mp hr with hr | hr
  .have:=L r hr;exact zb0 (P.up r (by rw[f];exact WX _ hr)) λj h1 h2=>b j (by lia)
  .rcases XI.mp hr with rfl | hr
   .show Up rk (Xl a) sa (sa+(c+d));rw[show sa+(c+d)=sa+c+d by lia];exact q
   .have:=J r hr;exact zb0 (P.up r (by rw[f];simp[hr])) λj h1 h2=>b j (by lia)
 .rw[<- XZ,e,<- XZ,f];simp only[X4,Xo];lia
def PI.step {lo a:Nat}{st b:WS}(P:PI rk κ a0 lo st)(S:Step κ a0 a st b)(h:lo<=a):PI rk κ a0 lo b:=by
 refine⟨S.ok,by rw[S.pend];exact P.til,λr c=>?_⟩;rw[S.pend]at c;have:=(YT P.til).2.2 r c;exact zb0 (P.up r c) λj h1 h2=>S.low j (by lia)
theorem zbt (b:Nat):∀{l:List (Nat×AA)} {k s e:Nat},QK l s e->QK (l.modify k λr=>(r.1,r.2.1,b)) s e
 | [],k,s,e,h=>by
  cases k<;>exact h
 | r::l,0,s,e,⟨h1,h2,a⟩=>⟨h1,h2,a⟩
 | r::l,k+1,s,e,⟨h1,h2,a⟩=>⟨h1,h2,zbt b a⟩
theorem zdS {a:Nat}:∀{l:List (Nat×AA)} {k:Nat} {r:Nat×AA},r∈l.modify k (λr=>(r.1,r.2.1,a))->∃q∈l,q.1=r.1/\q.2.1=r.2.1
 | [],k,r,h=>by
  cases k<;>cases h
 | q::l,0,r,h=>by
  rcases XI.mp h with rfl | h
  .exact⟨q,XR,rfl,rfl⟩
  .exact⟨r,XV _ h,rfl,rfl⟩
 | q::l,k+1,r,h=>by
  rcases XI.mp h with rfl | h
  .exact⟨r,XR,rfl,rfl⟩
  .obtain⟨b,h1,h2⟩:=zdS h;exact⟨b,XV _ h1,h2⟩
def ite_le (c:Prop) [Decidable c](n:Nat):(if c then n-1 else n)<=n:=by
 split<;>lia
def zpE {st:WS}{Q:Unit->WS->Prop}(T:Tells prog w A s κ rk a0)(O:Ok κ a0 st)(hp:WR st=#[])(h:∀d,Ok κ a0 d->Up rk (Xl d) 0 a0.size->Q () d):wpS (Xg prog w) A E s sortRuns' Q st:=by
 rw[sortRuns'_eq];refine XG (SC ?_);dsimp only;rw[O.size];generalize minRun' a0.size a0.size 0=mr;refine XG (UD (V0 (I:=λx c d=>∃lo,c=(none,lo)/\PI rk κ a0 lo d/\lo<=a0.size/\x<=lo)
  (Q:=λc d=>c=(none,a0.size)/\PI rk κ a0 a0.size d) ?step ?fin ⟨0,rfl,⟨O,by rw[hp];rfl,λr B=>by rw[hp]at B;cases B⟩,W1 _,XT _⟩) ?post)
 case fin =>
  rintro c d ⟨lo,rfl,P,h1,h2⟩
  obtain rfl:lo=a0.size:=by lia
  exact⟨rfl,P⟩
 case step =>
  refine λx c U _ hx=>fK λlo z0 P h1 h2=>?_;subst z0
  dsimp only
  refine qz (λL=>?_) λL=>?_
  .obtain rfl:lo=a0.size:=by lia
   exact Xn ⟨rfl,P⟩
  refine XG (zq3 T P.ok (by lia) (by lia) λm b S m1 m2 hu=>?_)
  dsimp only
  have g:=P.step S (XT _)
  refine qz (λM=>?_) λM=>?_
  refine XG (Ry (Vd ⟨rfl,?_⟩))
  refine XG (zq4 T S.ok (by lia) (by lia) hu λp S3 o=>?_)
  rw[bq (by decide)]
  have P3:=g.step S3 (XT _)
  have J:1<=min (a0.size-lo) mr:=by lia
  have H:lo+min (a0.size-lo) mr<=a0.size:=by lia
  clear g S3
  generalize min (a0.size-lo) mr=n at o J H ⊢
  rotate_left
  have P3:=g
  have o:=hu
  have J:=m1
  have H:lo+m<=a0.size:=by lia
  clear g
  generalize m=n at o J H ⊢
  generalize b=p at P3 o ⊢
  rotate_left
  all_goals
   refine XG (SC ?_)
   have fin:∀a,PI rk κ a0 lo a->Up rk (Xl a) lo (lo+n)->PI rk κ a0 (lo+n) (setPending a ((WR a).push (lo,n,0))):=λa f z=>by
    refine⟨⟨f.ok.perm,f.ok.kind,f.ok.good⟩,?_,λr B=>?_⟩
    .show QK ((WR a).push (lo,n,0)).toList 0 (lo+n);rw[SX];exact yL.mpr ⟨lo,f.til,rfl,J,rfl⟩
    .have hr':r∈((WR a).push (lo,n,0)).toList:=B;rw[SX]at hr';rcases XM.mp hr' with hr' | hr'
     .exact f.up r hr'
     .have er:r=(lo,n,0):=by simpa using hr'
      subst er;exact z
   cases ab:(WR p).back? with
   | none =>
    dsimp only;exact XG (Tn (Xn ⟨lo+n,rfl,fin p P3 o,H,by lia⟩))
   | some r =>
    obtain⟨s1,N,q1⟩:=r;dsimp only;generalize power' a0.size (2*s1+N) (2*s1+N+N+n) a0.size=pw;refine XG (UD (V0 (I:=λ_ c a=>c=(none,())/\PI rk κ a0 lo a/\Up rk (Xl a) lo (lo+n)) (Q:=λc a=>c=(none,())/\PI rk κ a0 lo a/\Up rk (Xl a) lo (lo+n)) ?_ (λ_ _ hh=>hh) ⟨rfl,P3,o⟩) ?_)
    .rintro y c a _ _ ⟨rfl,f,z⟩;refine XG (SC ?_);by_cases D:(WR a).size>1
     .rw[bw D,getElem?_pos (WR a) ((WR a).size-2) (by lia)];generalize (WR a)[(WR a).size-2]'(by lia)=r2;obtain⟨ac,ae,af⟩:=r2;dsimp only;refine qz (λ_=>Xn ⟨rfl,f,z⟩) λ_=>?_;refine XG (zfV T f (by lia) h1 λag P5 _ aa=>?_);rw[bq (by decide)];exact Xn ⟨rfl,P5,zb0 z λj j1 _=>aa j j1⟩
     .rw[bq D];exact Xn ⟨rfl,f,z⟩
    .rintro c a ⟨rfl,f,z⟩;dsimp only;refine XG (Tn (XG (Tn (Xn ⟨lo+n,rfl,fin _ ⟨⟨f.ok.perm,f.ok.kind,f.ok.good⟩,?_,λr B=>?_⟩ z,H,by lia⟩))))
     .show QK ((WR a).modify ((WR a).size-1) λr=>(r.1,r.2.1,pw)).toList 0 lo;rw[O9];exact zbt pw f.til
     .have hr':r∈((WR a).modify ((WR a).size-1) λr=>(r.1,r.2.1,pw)).toList:=B;rw[O9]at hr';obtain⟨q,hq,e1,e2⟩:=zdS hr';have:=f.up q hq;rw[e1,e2]at this;exact this
 case post =>
  rintro c U ⟨rfl,P⟩
  dsimp only
  have G:=(YT P.til).2.1
  rw[XZ]at G
  refine XG (UD (V0 (I:=λx c b=>c=(none,())/\PI rk κ a0 a0.size b/\((WR b).size+x<=a0.size\/(WR b).size<=1)) (Q:=λc b=>c=(none,())/\PI rk κ a0 a0.size b/\(WR b).size<=1) ?step2 ?fin2 ⟨rfl,P,.inl (by lia)⟩) ?post2)
  case fin2 =>
   rintro c b ⟨rfl,g,D⟩
   exact⟨rfl,g,by lia⟩
  case step2 =>
   rintro x c b _ hx ⟨rfl,g,D⟩
   refine XG (SC ?_)
   refine qz (λh1=>Xn ⟨rfl,g,h1⟩) λh1=>?_
   refine XG (zfV T g ?_ (XT _) λp P3 z3 _=>?_)
   .exact XE (Pp (ite_le _ _) 1) (show (WR b).size-2+1<(WR b).size by lia)
   .rw[bq (by decide)];exact Xn ⟨rfl,P3,by lia⟩
  case post2 =>
   rintro c b ⟨rfl,g,D⟩
   dsimp only
   refine Xn (h b g.ok ?_)
   have v:=g.til
   have up:=g.up
   have zl:(WR b).toList.length<=1:=by rw[XZ];exact D
   cases hl:(WR b).toList with
   | nil =>
    rw[hl]at v;have e:0=a0.size:=v;exact λi j _ _ h3=>absurd h3 (by lia)
   | cons r l =>
    rw[hl]at v zl up;obtain rfl:l=[]:=V6.mp (by rw[Xo]at zl;lia);obtain⟨t1,t2,t3⟩:=v;have Y:0+r.2.1=a0.size:=t3;have u:=up r XR;rw[t1,Y]at u;exact u
end
structure Wk {K:Type}(lt:K->K->Bool):Prop where
 tot:∀x y,lt x y=true->lt y x=false
 tr:∀x y z,lt y x=false->lt z y=false->lt z x=false
def rkK {K:Type}(lt:K->K->Bool)(ks:List K)(k:K):Int:=((ks.countP λq=>lt q k:Nat):Int)
theorem count_le {K:Type}{p q:K->Bool}:∀{ks:List K},(∀x∈ks,p x=true->q x=true)->ks.countP p<=ks.countP q
 | [],_=>XT _
 | x::ks,h=>by
  have d:=count_le (ks:=ks) λy b=>h y (XV _ b);rw[Wo,Wo];have a:=h x XR;by_cases c:p x=true
  .rw[bw c,bw (a c)];lia
  .rw[bq c];lia
def zlk {K:Type}{p q:K->Bool}{ks:List K}(h:∀x∈ks,p x=true->q x=true)(b:∃x∈ks,p x=false/\q x=true):ks.countP p<ks.countP q:=by
 obtain⟨y,hy,h1,h2⟩:=b;induction ks with
 | nil=>cases hy
 | cons x ks a =>
  rw[Wo,Wo];have d:=h x XR;rcases XI.mp hy with rfl | hy
  .have a:=count_le (ks:=ks) λy hy=>h y (XV _ hy);rw[h1,h2,bq XU,bw rfl];lia
  .have a:=a (λy hy=>h y (XV _ hy)) hy;by_cases c:p x=true
   .rw[bw c,bw (d c)];lia
   .rw[bq c];lia
def Wk.rank {K:Type}{lt:K->K->Bool}(W:Wk lt){ks:List K}{x y:K}(c:x∈ks):lt x y=decide (rkK lt ks x<rkK lt ks y):=by
 unfold rkK;cases h:lt x y with
 | true =>
  refine(br ?_).symm;have:=zlk (ks:=ks) (p:=λq=>lt q x) (q:=λq=>lt q y) (λq _ b=>?_) ⟨x,c,?_,h⟩
  .lia
  .cases hc:lt q y with
   | true=>rfl
   | false =>
    have:=W.tr x y q (W.tot x y h) hc;have a:lt q x=true:=b;rw[this]at a;cases a
  .cases hc:lt x x with
   | false=>rfl
   | true=>exact hc.symm.trans (W.tot x x hc)
 | false =>
  refine(bf ?_).symm;have:=count_le (ks:=ks) (p:=λq=>lt q y) (q:=λq=>lt q x) λq _ b=>by
   cases hc:lt q x with
   | true=>rfl
   | false =>
    have:=W.tr y x q h hc;have a:lt q y=true:=b;rw[this]at a;cases a
  lia
section
variable {prog:Xh}{w:W2}{A:WO}{E:X9->X7->Prop}{s:X7}
def zdT {a:Addr}{vs:List X9}{n:Nat}{P:PySem.Fin->X7->Prop}(J:s.heap.get? a=some (Uw "list" vs.toArray n))(hz:vs.length<=Xv)(r:X9->Int)
  (hk:2<=vs.length->∀s':X7,(∀b o,b≠a->s.heap.get? b=some o->s'.heap.get? b=some o)->Xe (Xg prog w) A (keyKind' vs.toArray) (fun κ N=>N=s'/\Tells prog w A s' κ (λp=>r p.1) (Pe vs)) (λ_ _=>False) s')
  (h:∀(ws:List X9) (h':Heap) (c:Nat),ws.Perm vs->ws.Pairwise (λx y=>r x<=r y)->(∀b o,b≠a->s.heap.get? b=some o->h'.get? b=some o)->h'.get? a=some (Uw "list" ws.toArray c)->P (.done (.ret .none)) { s with heap:=h' }) :
  Xe (Xg prog w) A (UP.«list.sort» ⟨[.ref a],[]⟩) P E s:=by
 have ac:a<s.heap.objs.size:=Xz J;have H:=get?_update_seq J λ_=>(#[]:Array X9);generalize U:s.heap.update a (Vc λ_=>(#[]:Array X9))=B at H;have zX:B.objs.size=s.heap.objs.size:=by rw[<- U,Heap.size_update]
 have kX:∀b o,b≠a->s.heap.get? b=some o->B.get? b=some o:=λb o v e=>by
  rw[<- U,Sh _ _ _ _ v];exact e
 obtain⟨I,M⟩:∃I,B.get? a=some (Uw "list" #[] I):=⟨_,H⟩;generalize hY:(B.push (Uw "tuple" vs.toArray 0)).push (Uw "list" #[] 0)=Y;have m:Y.get? a=some (Uw "list" #[] I):=by
  rw[<- hY];exact XW _ (XW _ M)
 have kY:∀b o,b≠a->s.heap.get? b=some o->Y.get? b=some o:=λb o v e=>by
  rw[<- hY];exact XW _ (XW _ (kX b o v e))
 have g:∀(st:WS),(((Xl st).map (·.2)).toList.Perm vs)->(((Xl st).map (·.2)).toList.Pairwise λx y=>r x<=r y)->S9 st=none ->
   Xe (Xg prog w) A (do
    let f:=(<- seqEpoch a) != I
    Builtin.List.listUpdate (.ref a) λ_=>(Xl st).map (·.2)
    if let some e:=S9 st then rule "list.sort.comparison-raised";throw e
    if f then rule "list.sort.modified";raiseError "ValueError" "list modified during sort"
    ret .none) P E { s with heap:=Y }:=by
  intro st q L hf;generalize ew:(Xl st).map (·.2)=wsA at q L;rw[hf];have G:wsA.size=vs.length:=by rw[<- XZ,q.length_eq]
  have ab:=get?_update_seq m λ_=>wsA;refine Y1 (seqEpoch_at m rfl (Y1 (listUpdate_at m rfl ?_ (W1 _) (by rw[G];lia))));simp only[bne_self_eq_false,Wz,if_false];refine XQ (h wsA.toList _ _ q L (λb o v e=>?_) ab);rw[Sh _ _ _ _ v];exact kY b o v e
 rw[list_sort_plain];refine Y1 (listItems_at J rfl (Y1 (listUpdate_at J rfl ?_ (by rw[Xm];exact hz) (W1 _))));rw[U];refine Y1 (seqEpoch_at M rfl (Y1 (wpAny_newTuple (Y1 (O0 ?_ (W1 _))) hz)));show Xe (Xg prog w) A _ P E { s with heap:=(B.push (Uw "tuple" vs.toArray 0)).push (Uw "list" #[] 0) };rw[hY];refine VO ?_;dsimp only;have e2:((Pe vs).map (·.2)).toList=vs:=by
  rw[U0,UA];exact List.map_snd_zip (XT _)
 by_cases l:vs.toArray.size<2
 .have D:vs.length<2:=by rw[Xm]at l;exact l
  rw[bw l,bw l];refine Y1 (XQ ?_);rw[StateT.run_pure];refine Y1 (XQ ?_);refine g (SortSt.mk' general' (Pe vs) #[] 7 none) (by show ((Pe vs).map (·.2)).toList.Perm vs;rw[e2]) (by
   show ((Pe vs).map (·.2)).toList.Pairwise _;rw[e2,Vp];intro i j hi hj aa;lia) rfl
 .have D:2<=vs.length:=by rw[Xm]at l;lia
  rw[bq l,bq l];refine Y1 (Vk (hk D { s with heap:=Y } kY) (fun κ N ⟨e3,T⟩=>?_) λ_ _ x=>x.elim);subst e3;have run:=zpE (E:=E) (st:=SortSt.mk' κ (Pe vs) #[] 7 none) (Q:=λ_ d=>(((Xl d).map (·.2)).toList.Perm vs)/\(((Xl d).map (·.2)).toList.Pairwise λx y=>r x<=r y)/\S9 d=none) T ⟨Array.Perm.refl _,rfl,rfl⟩ rfl λd O M=>?_
  .unfold wpS at run;refine Y1 (Vk run ?_ λ_ _ z=>z);rintro⟨⟨⟩,d⟩ s' ⟨rfl,q,L,hf⟩;exact g d q L hf
  .have pm:=UW.mp O.perm;have same:∀p∈(Xl d).toList,p.1=p.2:=λp q=>by
    have:=pm.mem_iff.mp q;rw[UA]at this;exact(Se this).1
   refine⟨?_,?_,O.good⟩
   .have:=pm.map (·.2);rw[U0];rw[UA,List.map_snd_zip (XT _)]at this;exact this
   .rw[U0,Wd,Vp];intro i j hi hj aa;have zs:=O.size;rw[XZ]at hi hj;have u:=yV M (i:=i) (j:=j) (W1 _) (by lia) (by lia) (getElem?_pos _ i hi) (getElem?_pos _ j hj);have s1:=same (Xl d)[i] (by simp);have N:=same (Xl d)[j] (by simp);rw[UL,UL,<- s1,<- N];exact u
def zjQ {l:Addr}{vs:List X9}{Q:X9->X7->Prop}(u:s.heap.IsList l vs.toArray)(hz:vs.length<=Xv)(r:X9->Int)
  (hk:2<=vs.length->∀s':X7,(∀b o,s.heap.get? b=some o->s'.heap.get? b=some o)->Xe (Xg prog w) A.in1.in1 (keyKind' vs.toArray) (fun H G=>G=s'/\Tells prog w A.in1.in1 s' H (λp=>r p.1) (Pe vs)) (λ_ _=>False) s')
  (h:∀(f:List X9) (h':Heap) (c:Nat),f.Perm vs->f.Pairwise (λx y=>r x<=r y)->(∀b o,s.heap.get? b=some o->h'.get? b=some o)->h'.get? (s.heap.objs.size+1)=some (Uw "list" f.toArray c)->Q (.ref (s.heap.objs.size+1)) { s with heap:=h' }) :
  Xe (Xg prog w) A (call (.builtin "sorted") [.ref l]) Q E s:=by
 generalize g:(s.heap.push (Uw "list" #[] 0)).update s.heap.objs.size (Vc (·++vs.toArray))=a;have n:a.objs.size=s.heap.objs.size+1:=by rw[<- g,Heap.size_update,UZ]
 have B:∀b o,s.heap.get? b=some o->a.get? b=some o:=λb o e=>by
  have lt:=Xz e;rw[<- g,Sh _ _ _ _ (Xf lt)];exact XW _ e
 apply RS kind_sorted plain_sorted entry_sorted (args_sorted1 _);unfold UP.«sorted»;refine Y1 (m:=checkCount "sorted" 1 1 _) (XQ (Y1 (collect_list u ?_ hz)));rw[g];refine Y1 (O0 ?_ hz);show Xe _ _ _ _ _ { s with heap:=a.push (Uw "list" vs.toArray 0) };have d:(a.push (Uw "list" vs.toArray 0)).get? (s.heap.objs.size+1)=some (Uw "list" vs.toArray 0):=by
  rw[<- n];exact W4 _ rfl
 have i:∀b o,s.heap.get? b=some o->(a.push (Uw "list" vs.toArray 0)).get? b=some o:=λb o e=>XW _ (B b o e);have j:∀b o,s.heap.get? b=some o->b≠s.heap.objs.size+1:=λb o e=>Xf (Wm (Xz e));rw[n];refine Y1 (VO (U1 slot_list_sort ⟨_,d,rfl⟩ entry_list_sort (zdT (s:={ s with heap:=a.push (Uw "list" vs.toArray 0) }) d hz r (λc s' k=>hk c s' λb o e=>k b o (j b o e) (i b o e)) ?_) (args_list_sort _)));intro f h' c v z D q;exact⟨_,rfl,XQ ⟨_,rfl,h f h' c v z (λb o e=>D b o (j b o e) (i b o e)) q⟩⟩
end
def zcw {α d:Type}{R:α->d->Prop}{xs:List α}{ys:List d}(hp:Xy R xs ys):(∀p∈xs.zip ys,R p.1 p.2)/\(xs.zip ys).map (·.1)=xs/\(xs.zip ys).map (·.2)=ys:=by
 induction hp with
 | nil=>exact⟨(λp h=>nomatch h),rfl,rfl⟩
 | cons h _ e =>
  obtain⟨a,b,c⟩:=e;refine⟨λp hp=>?_,by rw[List.zip_cons_cons,XD,b],by rw[List.zip_cons_cons,XD,c]⟩;rcases XI.mp hp with rfl | hp
  .exact h
  .exact a p hp
theorem zdU {α a:Type}{R:α->a->Prop}:∀{zs:List (α × a)},(∀p∈zs,R p.1 p.2)->Xy R (zs.map (·.1)) (zs.map (·.2))
 | [],_=>.nil
 | p::zs,h=>.cons (h p XR) (zdU λq b=>h q (XV _ b))
theorem JU {α a:Type}{R:α->a->Prop}:∀{xs:List α} {ys:List a},Xy R xs ys->∀x∈xs,∃y∈ys,R x y
 | _,_,.nil,x,h=>nomatch h
 | _,_,.cons h t,x,hx=>by
  rcases XI.mp hx with rfl | hx
  .exact⟨_,XR,h⟩
  .obtain⟨y,h1,h2⟩:=JU t x hx;exact⟨y,XV _ h1,h2⟩
def Tri {K:Type}(a:V->K->Prop)(RH:X9->K->Prop)(t:V×X9×K):Prop:=RelV t.1 t.2.1/\a t.1 t.2.2/\RH t.2.1 t.2.2
def zpF {K:Type}{d:V->K->Prop}{RH:X9->K->Prop}{c:AE}{a:List X9}{ks:List K}(h1:Vals c a):Xy d c ks->Xy RH a ks->∃T:List (V×X9×K),(∀t∈T,Tri d RH t)/\T.map (·.1)=c/\T.map (·.2.1)=a/\T.map (·.2.2)=ks:=by
 induction h1 generalizing ks with
 | nil =>
  intro h2 b;cases h2;exact⟨[],(λt h=>nomatch h),rfl,rfl,rfl⟩
 | @cons u i c a g o f =>
  intro h2 b;cases h2 with
  | @cons _ k _ ks j m =>
   cases b with
   | cons l n =>
    refine fK (λT h1 h2 b e=>?_) (f m n);refine⟨(u,i,k)::T,λt ht=>?_,by rw[XD,h2],by rw[XD,b],by rw[XD,e]⟩;rcases XI.mp ht with rfl | ht
    .exact⟨g,j,l⟩
    .exact h1 t ht
theorem zfW {K:Type}{d:V->K->Prop}{RH:X9->K->Prop}:∀{T:List (V×X9×K)},(∀t∈T,Tri d RH t)->Vals (T.map (·.1)) (T.map (·.2.1))/\Xy d (T.map (·.1)) (T.map (·.2.2))
 | [],_=>⟨.nil,.nil⟩
 | t::T,h=>by
  obtain⟨h1,h2⟩:=zfW λx e=>h x (XV _ e);obtain⟨a,b,c⟩:=h t XR;exact⟨.cons a h1,.cons b h2⟩
section
variable {X:Cx}{bz:List (Addr×Obj)}{σ:St}{H:Hp}{s:X7}{K:Type}
def zdV {lt:K->K->Bool}(W:Wk lt){Y:V->K->Prop}{RH:Heap->X9->K->Prop}(fn:∀h v k n,RH h v k->RH h v n->k=n)(kp:∀h h' v k,(∀b o,h.get? b=some o->h'.get? b=some o)->RH h v k->RH h' v k)
  {l:Addr} {U:AE} {f:List X9} {ks:List K} {Q:VK} (I:Inv X bz σ H s) (hl:s.heap.IsList l f.toArray) (hz:U.length<=1000000) (rv:Vals U f) (hv:Xy Y U ks) (E:Xy (RH s.heap) f ks)
  (N:∀s':X7,Xy (RH s'.heap) f ks->2<=f.length->Xe (Xg X.prog X.w) X.A.in1.in1 (keyKind' f.toArray) (fun κ s2=>s2=s'/\∀v v' k n,RH s'.heap v k->RH s'.heap v' n->∀C:Bool->X7->Prop,C (lt k n) s'->Xe (Xg X.prog X.w) X.A.in1.in1 (keyLt' κ v v') C (λ_ _=>False) s') (λ_ _=>False) s')
  (q:∀d D u,H d=none->Xy Y D u->u.Perm ks->u.Pairwise (λx y=>lt y x=false)->(D.Perm U)->Q (.ref d) (upd H d (.lst D))) :
  Xe (Xg X.prog X.w) X.A (call (.builtin "sorted") [.ref l]) (EP X bz σ Q) X.xe s:=by
 classical
 have aa:=rv.length;refine fK (λT hT e1 e2 e3=>?_) (zpF rv hv E);let r:X9->Int:=λv=>if h:∃k,RH s.heap v k then rkK lt ks h.choose else 0
 have i:∀{v:X9} {k:K},RH s.heap v k->r v=rkK lt ks k:=λ{v k} h=>by
  have m:∃k,RH s.heap v k:=⟨k,h⟩;show (if h:∃k,RH s.heap v k then rkK lt ks h.choose else 0)=_;rw[dif_pos m,fn _ _ _ _ m.choose_spec h]
 have z1:f.length<=Xv:=by
  rw[<- aa,T3];lia
 refine zjQ (vs:=f) hl z1 r (λh2 s' O=>?_) λws h' c J hs O ha=>?_
 .have ab:Xy (RH s'.heap) f ks:=by
   obtain⟨a,b,c⟩:=zcw E;have:=zdU (R:=RH s'.heap) (zs:=f.zip ks) λp E=>kp _ _ _ _ O (a p E);rw[b,c]at this;exact this
  refine Vk (N s' ab h2) (fun κ s2 ⟨e,hc⟩=>⟨e,λx m y L C hC=>?_⟩) λ_ _ z=>z;have mx:x.1∈f:=by
   rw[UA]at m;exact(Se m).2
  have my:y.1∈f:=by
   rw[UA]at L;exact(Se L).2
  obtain⟨k,k1,k2⟩:=JU E x.1 mx;obtain⟨n,ae,M⟩:=JU E y.1 my;refine hc x.1 y.1 k n (kp _ _ _ _ O k2) (kp _ _ _ _ O M) C ?_;have G:C (decide (r x.1<r y.1)) s':=hC;rw[i k2,i M,<- W.rank k1]at G;exact G
 .obtain⟨T',g,eT⟩:=ST.zct (λt:V×X9×K=>t.2.1) J T e2.symm;have j:∀t∈T',Tri Y (RH s.heap) t:=λt ht=>hT t (g.mem_iff.mp ht);obtain⟨B,ac⟩:=zfW j;rw[<- eT]at B;have hD:H (s.heap.objs.size+1)=none:=I.hok.fresh (VM _);refine⟨.ref (s.heap.objs.size+1),upd H (s.heap.objs.size+1) (.lst (T'.map (·.1))),I.laid (t':=s.toks) O (VM _) ⟨?_,ws,c,B,ha⟩,rfl,q _ _ _ hD ac (by rw[<- e3];exact g.map _) ?_ (by rw[<- e1];exact g.map _)⟩
  .rw[B.length,J.length_eq];exact z1
  .rw[eT,Wd]at hs;rw[Wd];refine hs.imp_of_mem λ{x y} m L h=>?_;obtain⟨_,_,h1⟩:=j x m;obtain⟨_,_,h2⟩:=j y L;rw[i h1,i h2]at h;have my:y.2.2∈ks:=by
    rw[<- e3];exact XN.mpr ⟨y,g.mem_iff.mp L,rfl⟩
   rw[W.rank my];exact bf (by lia)
end
def zll:Wk lt2:=by
 refine⟨λx y h=>?_,λx y z h1 h2=>?_⟩
 .cases e:lt2 y x with
  | false=>rfl
  | true =>
   have:=zg8 h e;rw[zig]at this;cases this
 .cases e:lt2 z x with
  | false=>rfl
  | true =>
   by_cases a:x=y
   .subst a;rw[e]at h2;exact h2
   .have b:lt2 x y=true:=by
     have:=zbV (p:=x) (q:=y) a;rw[h1]at this;cases hh:lt2 x y with
     | true=>rfl
     | false =>
      rw[hh]at this;cases this
    have:=zg8 e b;rw[this]at h2;exact h2
def zeL {h:Heap}{v:X9}{p q:Int×Int}(h1:zz h v p)(h2:zz h v q):p=q:=by
 obtain⟨a,o,n,t,u,e,l,c1,i⟩:=h1;obtain⟨A,D,B,y,z,j,c,g,b⟩:=h2;subst e;cases j;rw[l]at c;cases c;rw[i]at b;obtain⟨r,s⟩:=p;obtain⟨w,x⟩:=q;injection b with b _
 have m:[Vm r t,Vm s u]=[Vm w y,Vm x z]:=congrArg Array.toList b;injection m with f d
 injection d with d _
 injection f with f _
 injection d with d _
 rw[f,d]
section
variable {X:Cx}
def qY:jk X (.builtin "sorted") (λxs H Q=>∃l f ps,xs=[.ref l]/\SqL X.K H l f/\yR H f ps/\f.length<=1000000 /\
  ∀d b c,H d=none->yR H b c->c.Perm ps->c.Pairwise (λp q=>lt2 q p=false)->Q (.ref d) (upd H d (.lst b))):=by
 intro Y s σ H xs b Q I r h;revert h;refine e7 λl f ps z0 E j J q=>?_;subst z0;obtain⟨u,rfl,U⟩:=vals1 r;cases U;obtain⟨L,m,O,_⟩:=I.list E;have D:=yR.pairs I j m;refine zdV zll (RH:=zz) (λh v k M=>zeL) (λh h' v k N ⟨a,o,n,t,u,e,w,r⟩=>⟨a,o,n,t,u,e,N _ _ w,r⟩) I O.isList J m j D (λs' g h2=>?_) λd b i A h1 h2 y _=>q d b i A h1 h2 y;obtain⟨fs,hk,B,hint⟩:=Z4 g;refine kat_kind (T:=.type "int") hk (by lia) (λv G=>?_) (by decide) ⟨rfl,λv v' k M h1 h2 C z=>?_⟩
 .obtain⟨x,t,rfl⟩:=hint v G;exact Looks.of_pure rfl
 .exact zif h1 h2 z
end
end GS
end L2
namespace PySem.SeqAt
open L2 AutoSeq1 MeetsSeq MeetsSeq2 MeetsSeq3
end PySem.SeqAt
namespace L2
open PySem PySem.Spec PyProof.Rows PySem.W PySem.SeqAt
end L2
namespace PySem.SeqAt
open L2 AutoSeq1 MeetsSeq MeetsSeq2 MeetsSeq3
def ltL:List (Int×Int)->List (Int×Int)->Bool
 | _,[]=>false
 | [],_::_=>true
 | p::r,q::t=>if p=q then ltL r t else lt2 p q
def zeM (ps:List (Int×Int)):ltL ps []=false:=by cases ps<;>rfl
theorem ziv:∀ps:List (Int×Int),ltL ps ps=false
 | []=>rfl
 | p::r=>by
  unfold ltL;rw[bw rfl];exact ziv r
theorem ziw:∀{ps qs:List (Int×Int)},ps≠qs->ltL qs ps=!ltL ps qs
 | [],[],h=>absurd rfl h
 | [],q::t,_=>rfl
 | p::r,[],_=>rfl
 | p::r,q::t,h=>by
  unfold ltL;by_cases e:p=q
  .subst e;rw[bw rfl,bw rfl];exact ziw λz=>h (by rw[z])
  .rw[bq e,bq (Vq e)];exact zbV e
theorem zhm:∀{ps qs d:List (Int×Int)},ltL ps qs=true->ltL qs d=true->ltL ps d=true
 | ps,[],_,h,_=>by
  rw[zeM]at h;cases h
 | _,_::_,[],_,h=>by
  rw[zeM]at h;cases h
 | [],_::_,_::_,_,_=>rfl
 | p::r,q::t,x::y,h1,h2=>by
  unfold ltL at *
  by_cases b:p=q
  .subst b;rw[bw rfl]at h1;by_cases a:p=x
   .rw[bw a]at h2 ⊢;exact zhm h1 h2
   .rw[bq a]at h2 ⊢;exact h2
  .rw[bq b]at h1;by_cases a:q=x
   .subst a;rw[bq b];exact h1
   .rw[bq a]at h2;have c:=zg8 h1 h2;rw[bq]
    .exact c
    .intro e;subst e;rw[zig]at c;cases c
def zhn {A:WO}{s:X7}{v a:X9}{p q:Int×Int}(h1:zz s.heap v p)(h2:zz s.heap a q)(d:A.units+10<Vz):EqAt A s v a (decide (p=q)):=by
 obtain⟨as,b⟩:=QI h1;obtain⟨bs,c⟩:=QI h2;have:=eqAt_reads _ _ A s _ _ as bs b c rfl rfl (by show A.units+min 1 1<Vz;lia);rw[zju]at this;exact this
def ZD {h:Heap}{xs:Array X9}{ps:List (Int×Int)}(d:Xy (zz h) xs.toList ps){i:Nat}(g:i<xs.size):∃p r,ps.drop i=p::r/\ps.drop (i+1)=r/\zz h xs[i] p:=by
 have e:xs.toList.length=ps.length:=Paired.length d;rw[XZ]at e;have h2:i<ps.length:=by lia
 obtain⟨a,b,c⟩:=GS.zcw d;refine⟨ps[i],ps.drop (i+1),WB h2,rfl,?_⟩;have f:i<(xs.toList.zip ps).length:=by
  rw[List.length_zip,XZ];lia
 have:=a _ (Uy f);rw[List.getElem_zip]at this;simpa using this
def zjR (l b:Addr)(items a:Array X9)(n n2:Nat)(dd z:Option Addr)(sl G:Array (Option X9))(ps qs:List (Int×Int))(k:Nat) :
  ∀i:Nat,items.size-i=k->i<=items.size->i<=a.size->Meets (UP.«list.__eq__.loop» ⟨[.ref l,.ref b,Ue i,Ue 0],[]⟩)
   (λA R s=>s.heap.get? l=some { cls:=.type "list",dict:=dd,data:=.seq items n,slots:=sl }/\s.heap.get? b=some { cls:=.type "list",dict:=z,data:=.seq a n2,slots:=G } /\
    Xy (zz s.heap) items.toList ps/\Xy (zz s.heap) a.toList qs/\A.units+20<Vz /\
    R (.ok (.ret (.bool (ltL (ps.drop i) (qs.drop i))))) s):=by
 induction k with
 | zero =>
  intro i hk h1 h2 c w A R s h;obtain⟨U,g,d,tk,os⟩:=s;revert h;refine fm λx v j m H h=>?_;have D:items.toList.length=ps.length:=Paired.length j;have E:a.toList.length=qs.length:=Paired.length m;rw[XZ]at D E;wp_walk using V8 x,V8 v;have f:items[((i:Nat):Int).toNat]?=none:=by simp;lia
  rw[f];have B:ps.drop i=[]:=by simp;lia
  have e:ltL (ps.drop i) (qs.drop i)=decide (items.size<a.size):=by
   rw[B];by_cases Y:i<qs.length
   .rw[WB Y];exact(br (by lia)).symm
   .rw[List.drop_of_length_le (by lia)];exact(bf (by lia)).symm
  rw[e]at h;wp_walk using V8 x,V8 v;exact h
 | succ k ih =>
  intro i hk h1 h2 c w A R s h;obtain⟨U,g,d,tk,os⟩:=s;revert h;refine fm λx v j m H h=>?_;have D:items.toList.length=ps.length:=Paired.length j;have E:a.toList.length=qs.length:=Paired.length m;rw[XZ]at D E;wp_walk using V8 x,V8 v;have y:i<items.size:=by lia
  have f:items[((i:Nat):Int).toNat]?=some items[i]:=by simp[y]
  by_cases u:i<a.size
  .have o:a[((i:Nat):Int).toNat]?=some a[i]:=by simp[u]
   have Q:((i:Int)+1)=((i+1:Nat):Int):=by push_cast;rfl
   refine eF (λp r L N I=>?_) (ZD j y);refine eF (λq t M O J=>?_) (ZD m u);rw[f,o];refine Y1 (zhn I J (by show A.units+1+10<Vz;lia) c w _ _ ?_);rw[L,M]at h;unfold ltL at h;by_cases e:p=q
   .rw[bw e]at h;rw[br e];wp_walk;rw[Q];exact⟨UJ plain_eq_loop _,VC entry_eq_loop (by
     rw[V4 plain_eq_loop _];exact ih (i+1) (by lia) (by lia) (by lia) c w A R _ (cQ x v j m H (by rw[N,O];exact h)))⟩
   .rw[bq e]at h;rw[bf e];simp only[Wz,if_false];refine Y1 (RR x rfl (Y1 (RR v rfl ?_)));rw[f,o];exact Y1 (QW.pairs I J (by show A.units+1<Vz;lia) c w _ _ (XQ h))
  .have o:a[((i:Nat):Int).toNat]?=none:=by simp;lia
   rw[f,o];have B:qs.drop i=[]:=by simp;lia
   rw[B,zeM,show false=decide (items.size<a.size) from (bf (by lia)).symm]at h;wp_walk using V8 x,V8 v;exact h
def zho (l b:Addr)(items a:Array X9)(n i:Nat)(dd c:Option Addr)(j e:Array (Option X9))(ps qs:List (Int×Int)) :
  Meets (UP.«list.__lt__» ⟨[.ref l,.ref b],[]⟩)
   (λA R s=>s.heap.get? l=some { cls:=.type "list",dict:=dd,data:=.seq items n,slots:=j }/\s.heap.get? b=some { cls:=.type "list",dict:=c,data:=.seq a i,slots:=e } /\
    Xy (zz s.heap) items.toList ps/\Xy (zz s.heap) a.toList qs/\A.units+20<Vz/\R (.ok (.ret (.bool (ltL ps qs)))) s):=by
 intro d w A R s h;obtain⟨o,g1,v,u,r⟩:=s;revert h;refine fm λg f m p q h=>?_;have x:=sub_list_list;wp_walk using V8 g,V8 f;exact⟨UJ plain_eq_loop _,VC entry_eq_loop (by
  rw[V4 plain_eq_loop _];exact zjR l b items a n i dd c j e ps qs _ 0 rfl (W1 _) (W1 _) d w A R _ (cQ g f m p q (by simpa using h)))⟩
structure ListPairs (h:Heap)(v:X9)(ps:List (Int×Int)):Prop where
 ex:∃a o xs n,v=.ref a/\h.get? a=some o/\o.cls=.type "list"/\o.data=.seq xs n/\Xy (zz h) xs.toList ps
def zlm {prog:Xh}{w:W2}{A:WO}{E:X9->X7->Prop}{s:X7}{v q:X9}{ps qs:List (Int×Int)}{C:Bool->X7->Prop}(y:ListPairs s.heap v ps)(g:ListPairs s.heap q qs)(H:A.units+30<Vz)(h:C (ltL ps qs) s) :
  Xe (Xg prog w) A (PyProof.Rows.keyLt' PyProof.Rows.oneType' v q) C E s:=by
 obtain⟨a,⟨u,x,p,D⟩,G,n,rfl,e,c1,o,B⟩:=y;obtain⟨r,⟨m,d,data2,j⟩,l,z,rfl,f,b,c,i⟩:=g;simp only at c1 o b c;subst c1 o b c;rw[PyProof.Rows.keyLt'_oneType,PyProof.Rows.oneLt'_eq];simp only[if_true];refine Y1 (wpAny_cRoomFor (by lia) ?_);refine Y1 (wpAny_callSpecialIfBound?_slot (T:="list") ⟨_,e,rfl⟩ F.slot_list_lt ?_);refine Rh F.slot_list_lt ⟨_,e,rfl⟩ F.entry_list_lt (F.args_list_lt_2 _ _) (zho a r G l n z x d D j ps qs) (cQ e f B i (by lia) ?_);exact VL h
end PySem.SeqAt
namespace L2
open PySem PySem.Spec PyProof.Rows PySem.W PySem.SeqAt
namespace GS
def zpG:Wk ltL:=by
 refine⟨λx y h=>?_,λx y z h1 h2=>?_⟩
 .cases e:ltL y x with
  | false=>rfl
  | true =>
   have:=zhm h e;rw[ziv]at this;cases this
 .cases e:ltL z x with
  | false=>rfl
  | true =>
   by_cases a:x=y
   .subst a;rw[e]at h2;exact h2
   .have b:ltL x y=true:=by
     have:=ziw (ps:=x) (qs:=y) a;rw[h1]at this;cases hh:ltL x y with
     | true=>rfl
     | false =>
      rw[hh]at this;cases this
    have:=zhm e b;rw[this]at h2;exact h2
def LstAt (H:Hp)(v:V)(ps:List (Int×Int)):Prop:=∃a b,v=V.ref a/\H a=some (.lst b)/\yR H b ps
def zjS {h:Heap}{vs:List X9}{ps qs:List (Int×Int)}(d:Xy (zz h) vs ps):Xy (zz h) vs qs->ps=qs:=by
 induction d generalizing qs with
 | nil =>
  intro c;cases c;rfl
 | cons a _ e =>
  intro c;cases c with
  | cons b u=>rw[zeL a b,e u]
def zln {h:Heap}{v:X9}{ps qs:List (Int×Int)}(h1:ListPairs h v ps)(h2:ListPairs h v qs):ps=qs:=by
 obtain⟨a,o,s,n,e,j,c1,g,l⟩:=h1;obtain⟨p,r,m,q,i,c,f,b,d⟩:=h2;subst e;cases i;rw[j]at c;cases c;rw[g]at b;injection b with b _
 subst b;exact zjS l d
def Z3 {h h':Heap}(k:∀b o,h.get? b=some o->h'.get? b=some o){vs:List X9}{ps:List (Int×Int)}(d:Xy (zz h) vs ps):Xy (zz h') vs ps:=by
 induction d with
 | nil=>exact .nil
 | cons q _ f =>
  obtain⟨a,o,n,t,u,e,c,r⟩:=q;exact .cons ⟨a,o,n,t,u,e,k _ _ c,r⟩ f
section
variable {X:Cx}{bz:List (Addr×Obj)}{σ:St}{H:Hp}{s:X7}
def zhp (I:Inv X bz σ H s){c:AE}{ks:List (List (Int×Int))}{b:List X9}(d:Xy (LstAt H) c ks)(r:Vals c b):Xy (ListPairs s.heap) b ks:=by
 induction d generalizing b with
 | nil =>
  cases r;exact .nil
 | cons q _ g =>
  obtain⟨a,o,e,h,f⟩:=q;subst e;cases r with
  | cons i j =>
   cases i;refine .cons ?_ (g j);obtain⟨z,b,n,l,m,e⟩:=I.lstM h;exact⟨a,_,b.toArray,n,rfl,e,rfl,rfl,by rw[O8];exact yR.pairs I f l⟩
end
def zhq {h:Heap}{b:List X9}{ks:List (List (Int×Int))}(f:Xy (ListPairs h) b ks):∀v∈b,∃a o,v=WA a/\h.get? a=some o/\o.cls=.type "list":=by
 induction f with
 | nil=>exact λv hv=>nomatch hv
 | cons q _ g =>
  intro v hv;rcases XI.mp hv with rfl | hv
  .obtain⟨a,o,i,n,e,d,c,_⟩:=q;exact⟨a,o,e,d,c⟩
  .exact g v hv
section
variable {X:Cx}
def QL (hu:X.A.units+64<Vz):jk X (.builtin "sorted") (λxs H Q=>∃l g ks,xs=[.ref l]/\SqL X.K H l g/\Xy (LstAt H) g ks/\g.length<=1000000 /\
  ∀d b f,H d=none->Xy (LstAt H) b f->f.Perm ks->f.Pairwise (λp q=>ltL q p=false)->b.Perm g->Q (.ref d) (upd H d (.lst b))):=by
 intro Y s σ H xs b Q I r h;revert h;refine e7 λl g ks z0 G m L q=>?_;subst z0;obtain⟨u,rfl,U⟩:=vals1 r;cases U;obtain⟨M,x,O,_⟩:=I.list G;have E:=zhp I m x;refine zdV zpG (RH:=ListPairs) (λh v k N=>zln) (λh h' v k w ⟨a,o,xs,n,e,i,c,d,r⟩=>⟨a,o,xs,n,e,w _ _ i,c,d,Z3 w r⟩) I O.isList L x m E (λs' j h2=>?_) λd b f D h1 h2 y z=>q d b f D h1 h2 y z;refine kas_kind (T:=.type "list") h2 (λv J=>?_) (by decide) (by decide) ⟨rfl,λv v' k N h1 h2 C B=>?_⟩
 .obtain⟨a,o,rfl,i,c1⟩:=zhq j v J;exact c1 ▸ (Looks.ld i).andThen .now
 .exact zlm h1 h2 (by show X.A.units+1+1+30<Vz;lia) B
end
end GS
open PySem PySem.Spec PyProof.Rows
def HasDef (K:XS)(x:Str)(st:Stmt):Prop:=∃(f:Addr) (e:X9) (g b:Option Addr) (i:Array (Option X9)) (kV d h a c:X9),Xk K Xx x=some (some (.ref f))/\K.lookup f=some ⟨e,g,.func (UO x x (J4 st) (xw st) (zp st) .none kV d h b a c),i⟩/\S6 K a x=true/\T2 K (.ref f)=true
def us0 {P:List X9->Prop}(h:P []):∀b:List X9,b.length=0->P b:=by
 intro b e;cases b with
 | nil=>exact h
 | cons a t=>cases e
def usS {n:Nat}{P:List X9->Prop}(h:∀a t,t.length=n->P (a::t)):∀b:List X9,b.length=n+1->P b:=by
 intro b e;cases b with
 | nil=>cases e
 | cons a t=>exact h a t (Nat.succ.inj e)
def us1 {P:List X9->Prop}(h:∀a,P [a]):∀b:List X9,b.length=1->P b:=usS λa=>us0 (h a)
def us2 {P:List X9->Prop}(h:∀a b,P [a,b]):∀c:List X9,c.length=2->P c:=usS λa=>us1 (h a)
def us3 {P:List X9->Prop}(h:∀a b c,P [a,b,c]):∀d:List X9,d.length=3->P d:=usS λa=>us2 (h a)
def us4 {P:List X9->Prop}(h:∀a b c d,P [a,b,c,d]):∀e:List X9,e.length=4->P e:=usS λa=>us3 (h a)
def HasDef.at {K:XS}{h:Heap}{i:Str->Option X9}{x:Str}{st:Stmt}{ps:AD}(H:HasDef K x st)(X:K.In h)(G:h.Ns Xx i)
  (n:∀(kV doc j:X9) (e:Option Addr) (b g:X9) (d:List X9),d.length=ps.length->bindArgs (UO x x (J4 st) (xw st) (zp st) .none kV doc j e b g) ⟨d,[]⟩=pure (ps.zip d):=by intro _ _ _ _ _ _;first | exact us1 λ_=>rfl | exact us2 λ_ _=>rfl | exact us3 λ_ _ _=>rfl | exact us4 λ_ _ _ _=>rfl):∃f m,zm K i x st ps f m:=by
 revert H;refine eE λf q r e s kV p j=>d8 λo g a l c k=>?_;have F:=zkI (st:=st) l c k;exact⟨f,_,F,Vx X G a,F.binds n⟩
open PySem PySem.W
open PySem PySem.Spec PyProof.Rows PySem.W
namespace ST
variable {X:Cx}
def zdh (hh:X.A.handled=none):jk X (.builtin "sorted") (λxs H Q=>∃l ks,xs=[.ref l]/\H l=some (zfT X.prog X.w l ks)/\(∀q∈ks,H q.1=some (.tup [.int q.2.1,.int q.2.2]))/\(ks.map (·.2)).Nodup/\ks.length<64 /\
  ∀d U O,H d=none->yR H U O->O.Perm (ks.map (·.2))->Up2 O->Q (.ref d) (upd H d (.lst U))):=by
 intro bz s σ H xs U Q I r h;revert h;refine fu λl ks z0 hl hT ak aq q=>?_;subst z0;obtain⟨u,rfl,ru⟩:=vals1 r;cases ru;obtain⟨⟨es,ep,t,ho,he,G,ab,am⟩,_,_⟩:=(show jy X.prog X.w H s.heap l (zfT X.prog X.w l ks) from I.hok l _ hl);have aw:ks.length=es.size:=by
  rw[<- XZ,he,ZB]
 apply RS kind_sorted plain_sorted entry_sorted (args_sorted1 _);unfold UP.«sorted»;refine Y1 (m:=checkCount "sorted" 1 1 _) (XQ (Y1 (zfS (by simp[hh]) ho G ab am (by lia) λf h1 tk ae ah aj=>?_)));have ao:es.toList.map (·.2)=ks.map λq=>WA q.1:=by
  rw[he,Wj];rfl
 rw[ao]at ae;obtain⟨g,z,hj⟩:=zct (λq:Addr×(Int×Int)=>WA q.1) ae ks rfl;have aa:∀q∈g,H q.1=some (.tup [.int q.2.1,.int q.2.2]):=λq L=>hT q (z.mem_iff.mp L);have D:(g.map (·.2)).Nodup:=(z.map (·.2)).nodup_iff.mpr ak;have av:g.length=ks.length:=z.length_eq;have au:f.length=g.length:=by rw[hj,ZB]
 have rv:∀{g:List (Addr×(Int×Int))},Vals (g.map λq=>V.ref q.1) (g.map λq=>WA q.1):=λ{g}=>by
  induction g with
  | nil=>exact .nil
  | cons a t ih=>exact .cons rfl ih
 have ht:∀{g:List (Addr×(Int×Int))},(∀q∈g,H q.1=some (.tup [.int q.2.1,.int q.2.2]))->yR H (g.map λq=>V.ref q.1) (g.map (·.2)):=λ{g}=>by
  induction g with
  | nil=>exact λ_=>.nil
  | cons a t ih=>exact λh=>.cons ⟨a.1,rfl,h a XR⟩ (ih λq L=>h q (XV _ L))
 have j:Xy (zz s.heap) f (g.map (·.2)):=by
  rw[hj];exact yR.pairs I (ht aa) rv
 generalize af:g.map (·.2)=ps at j D;have ax:f.length=ps.length:=Paired.length j;have W:=GS.zll;have ip:∀q:Addr×(Int×Int),H q.1=some (.tup [.int q.2.1,.int q.2.2])->zz s.heap (.ref q.1) q.2:=λq L=>by
  have:=yR.pairs I (.cons ⟨q.1,rfl,L⟩ .nil:yR H [V.ref q.1] [q.2]) (.cons rfl .nil:Vals [V.ref q.1] [WA q.1]);cases this with
  | cons h _=>exact h
 classical
 let r:X9->Int:=λv=>if h:∃k,zz s.heap v k then GS.rkK lt2 ps h.choose else 0
 have B:∀{v:X9} {k:Int×Int},zz s.heap v k->r v=GS.rkK lt2 ps k:=λ{v k} h=>by
  have M:∃k,zz s.heap v k:=⟨k,h⟩;show (if h:∃k,zz s.heap v k then GS.rkK lt2 ps h.choose else 0)=_;rw[dif_pos M,GS.zeL M.choose_spec h]
 have small:f.length<=Xv:=by rw[T3];lia
 refine Y1 (O0 ?_ small);have ac:(h1.push (Uw "list" f.toArray 0)).get? h1.objs.size=some (Uw "list" f.toArray 0):=W4 _ rfl;have kL:∀b o,s.heap.get? b=some o->(h1.push (Uw "list" f.toArray 0)).get? b=some o:=λb o e=>XW _ (ah b o e);have ne:∀b o,s.heap.get? b=some o->b≠h1.objs.size:=λb o e=>Xf (Xz (ah b o e));show Xe _ _ _ _ _ { s with heap:=h1.push (Uw "list" f.toArray 0),toks:=tk };refine Y1 (VO (U1 slot_list_sort ⟨_,ac,rfl⟩ entry_list_sort (GS.zdT (s:={ s with heap:=h1.push (Uw "list" f.toArray 0),toks:=tk }) ac small r (λh2 s' kk=>?_) ?_) (args_list_sort _)))
 .have al:=Z3 (λb o e=>kk b o (ne b o e) (kL b o e)) j;obtain⟨fs,hk,ar,hint⟩:=Z4 al;refine kat_kind (T:=.type "int") hk (by lia) (λv hv=>?_) (by decide) ⟨rfl,λx M y hy C hC=>?_⟩
  .obtain⟨x,t,rfl⟩:=hint v hv;exact Looks.of_pure rfl
  .have mx:x.1∈f:=by
    rw[UA]at M;exact(Se M).2
   have my:y.1∈f:=by
    rw[UA]at hy;exact(Se hy).2
   obtain⟨k,k1,k2⟩:=GS.JU j x.1 mx;obtain⟨k',ay,ag⟩:=GS.JU j y.1 my;have kp:∀{v:X9} {k:Int×Int},zz s.heap v k->zz s'.heap v k:=λ{v k} ⟨a,o,n,t,u,e,e1,r⟩=>⟨a,o,n,t,u,e,kk _ _ (ne _ _ e1) (kL _ _ e1),r⟩;have Y:C (decide (r x.1<r y.1)) s':=hC;rw[B k2,B ag,<- W.rank k1]at Y;exact zif (kp k2) (kp ag) Y
 .intro ws h' c E hs kk ha;obtain⟨p,i,ej⟩:=zct (λq:Addr×(Int×Int)=>WA q.1) E g hj;have hD:H h1.objs.size=none:=I.hok.fresh aj;have J:∀q∈p,H q.1=some (.tup [.int q.2.1,.int q.2.2]):=λq L=>aa q (i.mem_iff.mp L);have ai:Vals (p.map λq=>V.ref q.1) ws:=by
   rw[ej];exact rv
  have N:(p.map (·.2)).Nodup:=(i.map (·.2)).nodup_iff.mpr (by rw[af];exact D);have an:Up2 (p.map (·.2)):=by
   unfold Up2;unfold OT at N;rw[Wd]at N ⊢;rw[ej,Wd]at hs;refine(hs.and N).imp_of_mem λ{x y} M hy ⟨h1,h2⟩=>?_;rw[B (ip x (J x M)),B (ip y (J y hy))]at h1;have my:y.2∈ps:=by
    rw[<- af];exact XN.mpr ⟨y,i.mem_iff.mp hy,rfl⟩
   have e1:lt2 y.2 x.2=false:=by
    rw[W.rank my];exact bf (by lia)
   have e2:=zbV h2;rw[e1]at e2;cases hh:lt2 x.2 y.2 with
   | true=>rfl
   | false =>
    rw[hh]at e2;cases e2
  refine⟨_,rfl,XQ (cG rfl (cN (.ref h1.objs.size) (upd H h1.objs.size (.lst (p.map λq=>V.ref q.1))) (cH (I.laid (t':=tk) (λb o e=>kk b o (ne b o e) (kL b o e)) aj ⟨?_,_,c,ai,ha⟩) rfl (q _ _ _ hD (ht J) ((i.trans z).map _) an))))⟩;rw[ai.length,E.length_eq];exact small
end ST
inductive Rd1 (σ:St)(i:Nat)(Q:VK)(H:Hp):Prop
 | mk (v:V) (h:σ[i]?=some (some v)) (q:Q v H):Rd1 σ i Q H
def tVS (i:Nat):TE:=fun a H Q=>Rd1 a i Q H
section
variable {X:Cx}
def pvS (i:Nat){x:Str}{pos:Pos}(c:X.N[i]?=some x:=by rfl)(f:Vis X.env.scope x:=by first | exact V2 rfl | exact PK (V2 rfl) | exact PK (PK rfl))(d:(x==("__debug__":Str))=false:=by decide)
  (a:(x==("__classdict__":Str))=false:=by decide):PE X (.Name x pos) (tVS i):=by
 intro b s g H Q I h;obtain⟨v,e,q⟩:=h;exact pv i c f d a b s g H Q I ⟨v,e,q⟩
def OpR.imp {f:X9->X9->Sem X9}{r a:R2}(h:OpR X f r)(k:∀x y H Q,a x y H Q->r x y H Q):OpR X f a:=λb s e H x y v u Q I c d z=>h b s e H x y v u Q I c d (k x y H Q z)
def IxR.imp {r c:R2}(h:IxR X r)(k:∀x y H Q,c x y H Q->r x y H Q):IxR X c:=λb a d s i H x y v u Q I f g z e=>h b a d s i H x y v u Q I f g (k x y H Q z) e
inductive SI0 (g:Int->Int->V)(x y:V)(H:Hp)(Q:VK):Prop
 | mk (i j:Int) (hx:x=.int i) (hy:y=.int j) (q:Q (g i j) H):SI0 g x y H Q
inductive SI (C:Int->Int->Prop)(g:Int->Int->V)(x y:V)(H:Hp)(Q:VK):Prop
 | mk (i j:Int) (hx:x=.int i) (hy:y=.int j) (hc:C i j) (q:Q (g i j) H):SI C g x y H Q
def OpR.s0 {f:X9->X9->Sem X9}{g:Int->Int->V}(h:OpR X f (rI0 g)):OpR X f (SI0 g):=h.imp λ_ _ _ _ ⟨i,j,a,b,q⟩=>⟨i,j,a,b,q⟩
def OpR.s1 {f:X9->X9->Sem X9}{C:Int->Int->Prop}{g:Int->Int->V}(h:OpR X f (rI C g)):OpR X f (SI C g):=h.imp λ_ _ _ _ ⟨i,j,a,b,c,q⟩=>⟨i,j,a,b,c,q⟩
def Jp:OpR X (T7 .Add) (SI0 λi j=>.int (i+j)):=ZZ.s0
def yM:OpR X (T7 .Sub) (SI0 λi j=>.int (i-j)):=Zq.s0
def zjT:OpR X (T7 .FloorDiv) (SI YM λi j=>.int (i/j)):=JL.s1
def zlo:OpR X (Wg .Lt) (SI0 λi j=>.bl (decide (i<j))):=zfj.s0
def Zs:OpR X (Wg .LtE) (SI0 λi j=>.bl (decide (i<=j))):=zqM.s0
def zcx:OpR X (Wg .Gt) (SI0 λi j=>.bl (decide (j<i))):=zom.s0
inductive zpH (K:XS)(x y:V)(H:Hp)(Q:VK):Prop
 | mk (p:Addr) (xs:AE) (i:Int) (v:V) (hx:x=.ref p) (hy:y=.int i) (hq:SqL K H p xs) (he:atI xs i=some v) (q:Q v H):zpH K x y H Q
inductive zpI (K:XS)(x y:V)(H:Hp)(Q:VK):Prop
 | mk (p:Addr) (xs:AE) (i:Int) (v:V) (hx:x=.ref p) (hy:y=.int i) (hq:SqT K H p xs) (he:atI xs i=some v) (q:Q v H):zpI K x y H Q
inductive zq6 (x y:V)(H:Hp)(Q:VK):Prop
 | mk (z:Str) (i:Int) (c:Nat) (hx:x=.str z) (hy:y=.int i) (hl:z.length<=Xv) (he:atI z.cps.toList i=some c) (q:Q (.str ⟨#[c]⟩) H):zq6 x y H Q
def qS:IxR X (zpH X.K):=xG.imp λ_ _ _ _ ⟨p,e,i,v,a,b,c,d,q⟩=>⟨p,e,i,v,a,b,c,d,q⟩
def qb:IxR X (zpI X.K):=jd.imp λ_ _ _ _ ⟨p,e,i,v,a,b,c,d,q⟩=>⟨p,e,i,v,a,b,c,d,q⟩
def zeN:IxR X zq6:=zkE.imp λ_ _ _ _ ⟨z,i,c,a,b,d,e,q⟩=>⟨z,i,c,a,b,d,e,q⟩
def Qm {K:XS}(a:X.K=K):IxR X (zpH K):=a ▸ qS
def JV {K:XS}(a:X.K=K):IxR X (zpI K):=a ▸ qb
inductive SB (x:V)(Q:Bool->Hp->Prop)(H:Hp):Prop
 | mk (k:Bool) (h:x=.bl k) (q:Q k H):SB x Q H
def zlp (t:TE):TT:=fun b H Q=>t b H λx a=>SB x Q a
def zI {op:Ov}{r:R2}{a b:Expr}{f g:TE}{pos:Pos}(B:OpR X (Wg op) r)(p:PE X a f)(w:PE X b g)(A:Tw op b=false):PT X (.Compare a [op] [b] pos) (zlp (tOp r f g)):=by
 intro d s e H Q I h;refine SS (thn (p d s e H _ I h) λv s1 ⟨x,i,m,J,D⟩=>thn (w d s1 e i _ m D) λu N ⟨y,j,n,L,E⟩=>thn (B d N e j x y v u _ n J L E) λc O ⟨z,l,o,M,G⟩=>?_) A;obtain⟨k,rfl,q⟩:=G;cases M;exact VL ⟨l,o,q⟩
inductive zpJ (K:XS)(xs:AE)(H:Hp)(Q:VK):Prop
 | mk (p:Addr) (ys:AE) (hx:xs=[.ref p]) (hq:SqL K H p ys\/SqT K H p ys) (q:Q (.int ys.length) H):zpJ K xs H Q
def zB:jk X (.builtin "len") (zpJ X.K):=λc s g H e d Q I r ⟨p,f,a,b,q⟩=>qo c s g H e d Q I r ⟨p,f,a,b,q⟩
def zcy {K:XS}(a:X.K=K):jk X (.builtin "len") (zpJ K):=a ▸ zB
inductive zq7 (x:V)(vs:AE)(H:Hp)(Q:VK):Prop
 | mk (l:Addr) (xs:AE) (y:V) (hx:x=.ref l) (hv:vs=[y]) (hl:H l=some (.lst xs)) (hz:xs.length<Xv) (q:Q .non (upd H l (.lst (xs++[y])))):zq7 x vs H Q
def yj:MtM X "list.append" zq7:=λe s m H x i v h Q I g f ⟨l,j,y,a,b,c,d,q⟩=>JC e s m H x i v h Q I g f ⟨l,j,y,a,b,c,d,q⟩
end
section
variable {X:Cx}{k k0:Nat}{f:Addr}{fd:XC}{ps:AD}{sp:Sp}{x:Str}{st:Stmt}{p pos:Pos}{e:Expr}{es:List Expr}{t:TA}
def pc0 (F:qc X.prog X.w X.K X.mg X.base CX0 k f fd ps sp)(i:Zr k0 X.A)(D:zm X.K X.mg x st ps f fd)(d:PA X (e::es) t)(hk:k<=k0:=by decide)(h:Gl X x:=by rfl)
  (a:(x==("__debug__":Str))=false:=by decide) (he:WU (e::es) X.env=(false,eval e X.env)::WU es X.env:=by rfl) (c:(Tb pos (WU es X.env)).any (·.1)=false:=by rfl) :
  PE X (.Call (.Name x p) (e::es) [] pos) (zib sp [] E0 t):=zic F (i.mono hk) h D.g D.F.kp D.b .nil zqS d a he c
def pcX (F:qc X.prog X.w X.K X.mg X.base (CXE X.prog X.w) k f fd ps sp)(i:Zr k0 X.A)(D:zm X.K X.mg x st ps f fd)(d:PA X (e::es) t)(hk:k<=k0:=by decide)(h:Gl X x:=by rfl)
  (a:(x==("__debug__":Str))=false:=by decide) (he:WU (e::es) X.env=(false,eval e X.env)::WU es X.env:=by rfl) (c:(Tb pos (WU es X.env)).any (·.1)=false:=by rfl) :
  PE X (.Call (.Name x p) (e::es) [] pos) (zib sp [] EF t):=zic F (i.mono hk) h D.g D.F.kp D.b .nil zqW d a he c
end
def jR:0<=Xv:=by decide
def sz_1:1<=Xv:=by decide
def yD:2<=Xv:=by decide
def zfX:3<=Xv:=by decide
section
variable {X:Cx}{tg iter elt:Expr}{ifs:List Expr}{scope:UE}{pos:Pos}{N:AD}{src:List (Option Nat)}{cl:List (Str×Addr)}{wi:TI}{g:TG}{tc:TT}{te:TE}
def cP (a:scope.kind=.function:=by rfl)(b:∀y∈scope.names,y.2 ≠ .cell:=by decide+kernel)(c:∀y∈scope.names,y.2 ≠ .free:=by decide+kernel)(d:∀y∈scope.names,y.2=.local->scope.names.lookup y.1=some .local:=by decide+kernel)(e:src.length=N.length:=by rfl)(f:∀o∈src,o=none:=by decide):yI X N src scope []:=yI.plain a b c d e f
def cR (a:scope.kind=.function:=by rfl)(b:∀y∈scope.names,y.2 ≠ .cell:=by decide+kernel)(c:∀y∈scope.names,y.2=.local->scope.names.lookup y.1=some .local:=by decide+kernel)(d:(scope.names.all λy=>y.2 != .free || (X.env.cells.lookup y.1).isSome)=true:=by kernel_rfl)(e:src.length=N.length:=by rfl)
  (f:((N.zip src).all λq=>match q.2 with | none=>true | some j=>X.N[j]?==some q.1&&X.env.kindOf q.1==some .cell&&(UH scope X.env).names.lookup q.1==some .cell)=true:=by kernel_rfl):yI X N src scope (zap (λx=>X.env.cells.lookup x) scope.names []):=yI.byRfl a b c d e f
def c1 {y:Str}(a:scope.kind=.function:=by rfl)(i:∀n g,Sb n scope.names g=(y,n)::g:=by intro _ _;rfl)(l:∀h,OG h scope.names=h.push { cls:=.type "cell",data:=.cell none }:=by intro _;rfl)(b:∀z∈scope.names,z.2=.cell->z.1=y:=by decide+kernel)(c:∀y∈scope.names,y.2=.local->scope.names.lookup y.1=some .local:=by decide+kernel)
  (d:(scope.names.all λy=>y.2 != .free || (X.env.cells.lookup y.1).isSome)=true:=by kernel_rfl) (e:src.length=N.length:=by rfl) (f:((N.zip src).all λq=>match q.2 with | none=>true | some j=>X.N[j]?==some q.1&&X.env.kindOf q.1==some .cell&&(UH scope X.env).names.lookup q.1==some .cell&&q.1 != y)=true:=by kernel_rfl):xH X N src scope (zap (λx=>X.env.cells.lookup x) scope.names []) y:=xH.byRfl a i l b c d e f
def pgN (i:Nat){x:Str}(h:decide X.N.Nodup=true:=by kernel_rfl)(b:X.N[i]?=some x:=by rfl)(c:Loc X.env.scope x:=by first | exact V2 rfl | exact PK rfl)(a:X.fn x=true\/X.env.scope.names.lookup x=some .local:=by first | exact .inl rfl | exact .inr rfl):PG X (.Name x pos) (yS i):=zh7 (bg h) b c a
def pgq (i:Nat){x:Str}(h:X.N.Nodup)(b:X.N[i]?=some x:=by rfl)(c:Loc X.env.scope x:=by first | exact V2 rfl | exact PK rfl)(a:X.fn x=true\/X.env.scope.names.lookup x=some .local:=by first | exact .inl rfl | exact .inr rfl):PG X (.Name x pos) (yS i):=zh7 h b c a
def jf (i:Nat){x:Str}{e:Expr}{te:TE}{a:Pos}(b:X.N.Nodup)(he:PE X e te)(d:X.N[i]?=some x:=by rfl)(g:Loc X.env.scope x:=by first | exact V2 rfl | exact PK rfl)(f:SJ e (some (.Name x a)) pos.line X.env=pure false:=by rfl)(c:X.fn x=true\/X.env.scope.names.lookup x=some .local:=by first | exact .inl rfl | exact .inr rfl):PS X (.Assign [.Name x a] e pos) (zky te (yS i)):=qh b d g he f c
def pcm (N:AD)(src:List (Option Nat))(ok:yI X N src scope cl)(e:PI X tg iter wi)(d:∀{C fp b s H},PG (jC X N scope cl C fp b s H) tg g)(c:∀{C fp b s H},zbJ (jC X N scope cl C fp b s H) ifs tc)(he:∀{C fp b s H},PE (jC X N scope cl C fp b s H) elt te)
  (a:X.calm=true:=by rfl) (f:∀x,VI iter X.env x=pure x:=by intro _;rfl):PE X (.ListComp elt [⟨tg,iter,ifs,0⟩] scope pos) (zam wi src g tc te):=zm2 ok a e (λ_ _ _ _ _=>d) (λ_ _ _ _ _=>c) (λ_ _ _ _ _=>he) f
def zpK {y:Str}(N:AD)(src:List (Option Nat))(ok:xH X N src scope cl y)(e:PI X tg iter wi)(d:∀{C fp b s H},PG (yK X N scope cl y C fp b s H) tg g)(c:∀{C fp b s H},zbJ (yK X N scope cl y C fp b s H) ifs tc)(he:∀{C fp b s H},PE (yK X N scope cl y C fp b s H) elt te)
  (a:X.calm=true:=by rfl) (f:∀x,VI iter X.env x=pure x:=by intro _;rfl):PE X (.ListComp elt [⟨tg,iter,ifs,0⟩] scope pos) (zam wi src g tc te):=zkQ ok a e (λ_ _ _ _ _=>d) (λ_ _ _ _ _=>c) (λ_ _ _ _ _=>he) f
def psC (i:Nat){x:Str}{b a:Pos}(j:X.N.Nodup)(N:AD)(src:List (Option Nat))(ok:yI X N src scope cl)(n:PI X tg iter wi)(m:∀{C fp d s H},PG (jC X N scope cl C fp d s H) tg g)(l:∀{C fp d s H},zbJ (jC X N scope cl C fp d s H) ifs tc)(he:∀{C fp d s H},PE (jC X N scope cl C fp d s H) elt te)
  (e:X.N[i]?=some x:=by rfl) (f:X.env.scope.names.lookup x=some .local:=by rfl) (c:X.calm=true:=by rfl) (o:∀x,VI iter X.env x=pure x:=by intro _;rfl) (h:SJ (.ListComp elt [⟨tg,iter,ifs,0⟩] scope pos) (some (.Name x b)) a.line X.env=pure true:=by rfl) :
  PS X (.Assign [.Name x b] (.ListComp elt [⟨tg,iter,ifs,0⟩] scope pos) a) (zky (zam wi src g tc te) (yS i)):=zm7 j e f ok c n (λ_ _ _ _ _=>m) (λ_ _ _ _ _=>l) (λ_ _ _ _ _=>he) o h
end
section
variable {X:Cx}{e:Expr}{te:TE}{x:Str}{p pos:Pos}{id T:String}{r:AE->Hp->VK->Prop}
def pb1 (b:jk X (.builtin id) r)(d:X.mg x=none)(g:Uv x=some (.builtin id))(he:PE X e te)(c:Gl X x:=by rfl)(f:x ≠ "__name__":=by decide)(a:(x==("__debug__":Str))=false:=by decide)(h1:WU [e] X.env=(false,eval e X.env)::WU [] X.env:=by rfl):PE X (.Call (.Name x p) [e] [] pos) (tCB r (zbp te zgZ)):=Zv b c d g (za he zd h1) f a h1 rfl
def pb2 {a:Expr}{d:TE}(f:jk X (.builtin id) r)(h:X.mg x=none)(j:Uv x=some (.builtin id))(he:PE X e te)(h2:PE X a d)(g:Gl X x:=by rfl)(i:x ≠ "__name__":=by decide)(b:(x==("__debug__":Str))=false:=by decide)(h1:WU [e,a] X.env=(false,eval e X.env)::WU [a] X.env:=by rfl)(c:WU [a] X.env=(false,eval a X.env)::WU [] X.env:=by rfl):PE X (.Call (.Name x p) [e,a] [] pos) (tCB r (zbp te (zbp d zgZ))):=Zv f g h j (za he (za h2 zd c) h1) i b h1 (by rw[c];rfl)
def pt1 (b:jk X (.type T) r)(d:X.mg x=none)(g:Uv x=some (.type T))(he:PE X e te)(c:Gl X x:=by rfl)(f:x ≠ "__name__":=by decide)(a:(x==("__debug__":Str))=false:=by decide)(h1:WU [e] X.env=(false,eval e X.env)::WU [] X.env:=by rfl):PE X (.Call (.Name x p) [e] [] pos) (tCB r (zbp te zgZ)):=zji b c d g (za he zd h1) f a h1 rfl
def prg {c:Expr}(a:X.mg "range"=none)(he:PE X e te)(b:Gl X "range":=by rfl)(h1:WU [e] X.env=(false,eval e X.env)::WU [] X.env:=by rfl):PI X c (.Call (.Name "range" p) [e] [] pos) (zol (zbp te zgZ)):=zje b a (za he zd h1) h1
end
section
variable {X:Cx}
def zpL (K:XS)(S:Addr)(sp:Sp)(f:TA)(g:TS):TS:=λD b H=>f b H λh d=>sp h d (λ_ a=>D.nx b a)
 (λc _ a=>∃C,c=.ref C/\Tx K C (.ref S)=some true/\∀e,a e=none->g D b (upd a e (exO e C)))
def zlq {k:Nat}{f M:Str}{U S:Addr}{fd:XC}{ps:AD}{sp:Sp}{ta:TA}{ts:TS}{p:Expr}{n:List Expr}{fp J ap aj hp pos:Pos}{b0:Stmt}{b:List Stmt}
  (c:X.stack=X.env::X.outer) (ac:X.env.frame=some X.env.locals) (F:qc X.prog X.w X.K X.mg X.base (CXE X.prog X.w) k U fd ps sp) (hr:Zr k X.A) (hg:Gl X f) (hm:X.mg f=some (.ref U)) (hk:T2 X.K (.ref U)=true) (hb:Binds X.K fd ps [])
  (gS:Gl X M) (O:QH X.K X.mg M S)
  (ha:PA X.nox (p::n) ta) (hs:∀e,PSs (markX X e) (b0::b) ts)
  (he:WU (p::n) X.env=(false,eval p X.env)::WU n X.env:=by rfl) (af:(Tb J (WU n X.env)).any (·.1)=false:=by rfl) (ab:(f==("__debug__":Str))=false:=by decide) (aa:(M==("__debug__":Str))=false:=by decide)
  (ah:SJ (.Call (.Name f fp) (p::n) [] J) none ap.line X.env=pure false:=by rfl) :
  PS X (.Try [.Expr (.Call (.Name f fp) (p::n) [] J) ap] [.ExceptHandler (some (.Name M aj)) none (b0::b) hp] [] [] pos) (zpL X.K S sp ta ts):=by
 intro Q s σ H D I h;refine wpAny_Try_except (SG ?_);refine wpAny_Expr_any (Tk (zah I hg hm ?_ ab)) I.quiet ah;refine PySem.W.callWith_K (h₀:=X.base) I.ok.mod.kin hk (Vk (ha J Q s σ H _ (I.wish _) h) (λL s1 ⟨vs,H1,o,r,q⟩=>⟨o.kIn,?_⟩) λ_ _ z=>Vj z) he af;have m:Inv X Q σ H1 s1:=o.unwish;have x:L.length=ps.length:=by rw[<- r.length];exact F.len _ _ _ _ q
 have bt:=hb s1 L m.kIn (by rw[Xu];exact x);rw[Xu]at bt;refine wpAny_call (S8 (F.run X.A X.stack s1 H1 ⟨L,[]⟩ L vs _ _ hr m.env0 bt r q) λai s' E=>?_);cases ai with
 | ok Y =>
  cases Y with
  | ret u =>
   refine eF (λv H2 I2 rv q2=>?_) (m.after E);exact Ul (Ul ⟨_,H2,I2,q2⟩)
  | next=>exact Vj E
  | brk=>exact Vj E
  | cont=>exact Vj E
 | error y =>
  revert E;refine eH λe C a0 B=>eS λH' z0 G=>eS λC' ec ae ag=>?_;subst z0;cases ec;have ff:=G.fly;rw[c]at ff;refine wpAny_looks_onW (by rw[m.ok.frames,c]) ac ff λh4 an ak=>?_;refine wpAny_landsW an λh5 j al=>?_;have up:=ak.trans al;have N:=G.caught m (h:=h5) (by rw[c];exact j) up;refine wpAny_handleBy_cons (codeAny_handlers_test (zah (X:=markX X e) (N.mark e) gS O.g ?_ aa)) (by intro z;cases z);obtain⟨bm,OS⟩:=zos N.kIn O.q;refine d8 (λoe aq q1 q2 q3 _=>?_) j.first;refine zm6 OS q1 q2 (PySem.W.looks_mroIn N.kIn ae) (codeAny_handlers_suite ?_);refine lands_againW j λh6 ao am=>?_;have I6:=G.caught m (h:=h6) (by rw[c];exact ao) (up.trans am);refine Vk (hs e Q _ _ _ _ (I6.mark e) (ag e G.free)) (λY s8 a=>?_) λ_ _ z=>z.elim;cases Y with
  | next =>
   obtain⟨l,d,i,a⟩:=a;exact⟨_,d,i.unmark I.ok,a⟩
  | brk =>
   obtain⟨l,d,i,a⟩:=a;exact⟨_,d,i.unmark I.ok,a⟩
  | cont =>
   obtain⟨l,d,i,a⟩:=a;exact⟨_,d,i.unmark I.ok,a⟩
  | ret u =>
   revert a;refine fh λv8 l d i r8 a=>?_;exact⟨v8,_,d,i.unmark I.ok,r8,a⟩
end
end L2
namespace Cells
def zW (p:Nat->Bool)(i:Nat):Nat->List Nat->AB
 | _,[]=>[]
 | j,c::r=>(if p c=true then [(i,j)] else [])++zW p i (j+1) r
def zC (p:Nat->Bool):Nat->List (List Nat)->AB
 | _,[]=>[]
 | i,t::r=>zW p i 0 t++zC p (i+1) r
theorem Z8 (p:Nat->Bool)(i:Nat):∀(j:Nat) (a b:List Nat),zW p i j (a++b)=zW p i j a++zW p i (j+a.length) b
 | j,[],b=>by simp[zW]
 | j,c::a,b=>by
  simp only[Rv,zW,Z8 p i (j+1) a b,Xo,W3];rw[show j+1+a.length=j+(a.length+1) by lia]
theorem Z9 (p:Nat->Bool):∀(i:Nat) (a b:List (List Nat)),zC p i (a++b)=zC p i a++zC p (i+a.length) b
 | i,[],b=>by simp[zC]
 | i,t::a,b=>by
  simp only[Rv,zC,Z9 p (i+1) a b,Xo,W3];rw[show i+1+a.length=i+(a.length+1) by lia]
def Yd {p:Nat->Bool}{i j c:Nat}{t:List Nat}(h:t[j]?=some c):zW p i 0 (t.take (j+1))=zW p i 0 (t.take j)++(if p c=true then [(i,j)] else []):=by
 rw[Xb,h,Z8];have a:(t.take j).length=j:=by
  have:=(XX.mp h).1;rw[XJ];lia
 simp[zW,a]
def Ye {p:Nat->Bool}{i:Nat}{t:List Nat}{rs:List (List Nat)}(h:rs[i]?=some t):zC p 0 (rs.take (i+1))=zC p 0 (rs.take i)++zW p i 0 t:=by
 rw[Xb,h,Z9];have a:(rs.take i).length=i:=by
  have:=(XX.mp h).1;rw[XJ];lia
 simp[zC,a]
theorem jD (p:Nat->Bool)(i:Nat):∀(j:Nat) (t:List Nat),(zW p i j t).length<=t.length
 | j,[]=>by simp[zW]
 | j,c::r=>by
  have:=jD p i (j+1) r;simp only[zW,X4,Xo];split<;>simp<;>lia
theorem qV (p:Nat->Bool):∀(i:Nat) (rs:List (List Nat)),(∀t∈rs,t.length<=8)->(zC p i rs).length<=8*rs.length
 | i,[],_=>by simp[zC]
 | i,t::r,h=>by
  have h1:=jD p i 0 t;have h2:=qV p (i+1) r λu a=>h u (XV _ a);have b:=h t XR;simp only[zC,X4,Xo];lia
theorem JF {p:Nat->Bool}{i:Nat}:∀{j:Nat} {t:List Nat} {x:AA},x∈zW p i j t->∃m c,x=(i,j+m)/\t[m]?=some c/\p c=true
 | j,[],x,h=>by simp[zW]at h
 | j,c::r,x,h=>by
  simp only[zW,XM]at h;rcases h with h | h
  .split at h
   .rename_i hp;have:x=(i,j):=by simpa using h
    exact⟨0,c,this,rfl,hp⟩
   .cases h
  .obtain⟨m,a,e,h1,h2⟩:=JF h;exact⟨m+1,a,by rw[e,show j+1+m=j+(m+1) by lia],by simpa using h1,h2⟩
def jK {p:Nat->Bool}{i:Nat}{rs:List (List Nat)}{x:AA}(h:x∈zC p i rs):∃k j t c,x=(i+k,j)/\rs[k]?=some t/\t[j]?=some c/\p c=true:=by
 induction rs generalizing i with
 | nil=>simp[zC]at h
 | cons t r b =>
  simp only[zC,XM]at h;rcases h with h | h
  .obtain⟨m,c,e,h1,h2⟩:=JF h;exact⟨0,m,t,c,by simpa using e,rfl,h1,h2⟩
  .refine eX (λk j u c e h1 h2 a=>?_) (b h);exact⟨k+1,j,u,c,by rw[e,show i+1+k=i+(k+1) by lia],by simpa using h1,h2,a⟩
def sgn (rs:List (List Nat))(x:AA):Nat:=(rs.getD x.1 []).getD x.2 0
theorem zaz {p q:Nat->Bool}{i:Nat}(f:AA->Bool):∀(j:Nat) (t:List Nat),(∀m c,t[m]?=some c->f (i,j+m)=q c)->(zW p i j t).filter f=zW (λc=>p c&&q c) i j t
 | j,[],_=>by simp[zW]
 | j,c::r,h=>by
  have g:=zaz (p:=p) (q:=q) (i:=i) f (j+1) r λm d e=>by
   have:=h (m+1) d (by simpa using e);rw[show j+1+m=j+(m+1) by lia];exact this
  have h0:=h 0 c rfl;simp only[zW,WZ,g];congr 1;simp only[Re]at h0;by_cases a:p c=true
  .by_cases b:q c=true
   .simp[a,b,h0]
   .simp[a,b,h0]
  .simp[a]
theorem zaA {p q:Nat->Bool}(f:AA->Bool):∀(i:Nat) (rs:List (List Nat)),(∀k t m c,rs[k]?=some t->t[m]?=some c->f (i+k,m)=q c)->(zC p i rs).filter f=zC (λc=>p c&&q c) i rs
 | i,[],_=>by simp[zC]
 | i,t::r,h=>by
  have b:=zaA (p:=p) (q:=q) f (i+1) r λk u m c hk a=>by
   have:=h (k+1) u m c (by simpa using hk) a;rw[show i+1+k=i+(k+1) by lia];exact this
  simp only[zC,WZ,b];rw[zaz (p:=p) (q:=q) f 0 t λm c a=>by simpa using h 0 t m c rfl a]
def QY {rs:List (List Nat)}{i j:Nat}{t:List Nat}{c:Nat}(h:rs[i]?=some t)(h2:t[j]?=some c):sgn rs (i,j)=c:=by
 unfold sgn;simp[List.getD,h,h2]
def all_filter {p q:Nat->Bool}(rs:List (List Nat)):(zC p 0 rs).filter (λx=>q (sgn rs x))=zC (λc=>p c&&q c) 0 rs :=
 zaA _ 0 rs λk t m c hk a=>by rw[show 0+k=k by lia,QY hk a]
def Zg {p q:Nat->Bool}(h:∀c,p c=q c)(i:Nat)(rs:List (List Nat)):zC p i rs=zC q i rs:=by
 rw[show p=q from funext h]
def near (x y:AA):Bool:=decide ((if (x.1:Int)-(y.1:Int)<0 then -((x.1:Int)-(y.1:Int)) else (x.1:Int)-(y.1:Int))<2)&&(decide ((if (x.2:Int)-(y.2:Int)<0 then -((x.2:Int)-(y.2:Int)) else (x.2:Int)-(y.2:Int))<2) && !decide (x=y))
def yN (x y:AA):near x y=true↔(x.1<=y.1+1/\y.1<=x.1+1)/\(x.2<=y.2+1/\y.2<=x.2+1)/\¬ x=y:=by
 unfold near;rw[Wp,Wp,decide_eq_true_iff,decide_eq_true_iff,WF,decide_eq_false_iff_not];constructor
 .rintro⟨h1,h2,h3⟩;refine⟨?_,?_,h3⟩
  .split at h1<;>lia
  .split at h2<;>lia
 .rintro⟨h1,h2,h3⟩;refine⟨?_,?_,h3⟩
  .split<;>lia
  .split<;>lia
def zjU (x y:AA):near x y=near y x:=by
 rw[WQ,yN,yN];constructor
 .rintro⟨⟨a,b⟩,⟨c,d⟩,e⟩;exact⟨⟨b,a⟩,⟨d,c⟩,λz=>e z.symm⟩
 .rintro⟨⟨a,b⟩,⟨c,d⟩,e⟩;exact⟨⟨b,a⟩,⟨d,c⟩,λz=>e z.symm⟩
def lex (a b:AA):Prop:=a.1<b.1\/(a.1=b.1/\a.2<b.2)
theorem zdW (p:Nat->Bool)(i:Nat):∀(j:Nat) (t:List Nat),(zW p i j t).Pairwise lex
 | j,[]=>by simp[zW]
 | j,c::r=>by
  simp only[zW];rw[T0];refine⟨?_,zdW p i (j+1) r,λa d b g=>?_⟩
  .split<;>simp
  .split at d
   .have e:a=(i,j):=by simpa using d
    obtain⟨m,h,f,_,_⟩:=JF g;subst e f;exact .inr ⟨rfl,by show j<j+1+m;lia⟩
   .cases d
theorem yW (p:Nat->Bool):∀(i:Nat) (rs:List (List Nat)),(zC p i rs).Pairwise lex
 | i,[]=>by simp[zC]
 | i,t::r=>by
  simp only[zC];rw[T0];refine⟨zdW p i 0 t,yW p (i+1) r,λa f b g=>?_⟩;obtain⟨m,c,e,_,_⟩:=JF f;obtain⟨k,j,u,h,d,_,_,_⟩:=jK g;subst e d;exact .inl (by show i<i+1+k;lia)
def zlr {p:Nat->Bool}{f:AA->Bool}{n:Nat}{rs:List (List Nat)}(h:∀r c,r<n->f (r,c)=false):(zC p 0 (rs.take n)).filter f=[]:=by
 rw[WN];intro x b;obtain⟨k,j,t,c,e,hk,_,_⟩:=jK b;have a:k<n:=by
  have:=(XX.mp hk).1;rw[XJ]at this;lia
 subst e;rw[h _ _ (by lia)];exact XU
def zjV {p:Nat->Bool}{f:AA->Bool}{n:Nat}{rs:List (List Nat)}(h:∀r c,n<=r->f (r,c)=false):(zC p 0 (rs.take n)).filter f=(zC p 0 rs).filter f:=by
 by_cases d:n<=rs.length
 .have e:=W5 n rs;have a:zC p 0 rs=zC p 0 (rs.take n)++zC p (0+(rs.take n).length) (rs.drop n):=by rw[<- Z9,e]
  rw[a,WZ];have z:(zC p (0+(rs.take n).length) (rs.drop n)).filter f=[]:=by
   rw[WN];intro x b;obtain⟨k,j,t,c,e,hk,_,_⟩:=jK b;subst e;rw[XJ,h _ _ (by lia)];exact XU
  rw[z,Xu]
 .rw[WE (by lia)]
def zls {p:Nat->Bool}{f:AA->Bool}{i n:Nat}{t:List Nat}(h:∀c,c<n->f (i,c)=false):(zW p i 0 (t.take n)).filter f=[]:=by
 rw[WN];intro x d;obtain⟨m,c,e,a,_⟩:=JF d;have b:m<n:=by
  have:=(XX.mp a).1;rw[XJ]at this;lia
 subst e;rw[h _ (by lia)];exact XU
def zjW {p:Nat->Bool}{f:AA->Bool}{i n:Nat}{t:List Nat}(h:∀c,n<=c->f (i,c)=false):(zW p i 0 (t.take n)).filter f=(zW p i 0 t).filter f:=by
 by_cases g:n<=t.length
 .have e:=W5 n t;have a:zW p i 0 t=zW p i 0 (t.take n)++zW p i (0+(t.take n).length) (t.drop n):=by rw[<- Z8,e]
  rw[a,WZ];have z:(zW p i (0+(t.take n).length) (t.drop n)).filter f=[]:=by
   rw[WN];intro x b;obtain⟨m,c,e,d,_⟩:=JF b;subst e;rw[XJ,h _ (by lia)];exact XU
  rw[z,Xu]
 .rw[WE (by lia)]
end Cells
namespace Parts
abbrev C:=AA
structure Good (cl:C->List C)(done:List C)(gs:List (List C)):Prop where
 ne:∀g∈gs,g ≠ []
 nd:gs.flatten.Nodup
 from_:∀x∈gs.flatten,∃o∈done,x∈cl o
 cov:∀o∈done,cl o ≠ []->∃g∈gs,∀x∈cl o,x∈g
 con:∀g∈gs,∀S:C->Prop,(∀o∈done,(∃x∈cl o,S x)->∀x∈cl o,S x)->(∃x∈g,S x)->∀x∈g,S x
 srt:∀g∈gs,g.Pairwise Cells.lex
def Good.start (a:C->List C):Good a [] []:=⟨(λ_ h=>nomatch h),VX,(λ_ h=>nomatch h),(λ_ h=>nomatch h),(λ_ h=>nomatch h),(λ_ h=>nomatch h)⟩
def Good.skip {a:C->List C}{done:List C}{gs:List (List C)}(G:Good a done gs){o:C}(h:a o=[]):Good a (done++[o]) gs:=by
 refine⟨G.ne,G.nd,λx b=>?_,λp hp c=>?_,λg f S d=>G.con g f S λp hp=>d p (WX _ hp),G.srt⟩
 .obtain⟨p,hp,b⟩:=G.from_ x b;exact⟨p,WX _ hp,b⟩
 .rcases XM.mp hp with hp | hp
  .exact G.cov p hp c
  .have e:p=o:=by simpa using hp
   subst e;exact absurd h c
def zdX {gs:List (List C)}(j:gs.flatten.Nodup):∀{g g':List C} {x:C},g∈gs->g'∈gs->x∈g->x∈g'->g=g':=by
 induction gs with
 | nil=>intro g g' x h;cases h
 | cons a r m =>
  rw[VS,WY]at j;obtain⟨_,h2,i⟩:=j;intro g g' x l c e b;rcases XI.mp l with f | g1
  .rcases XI.mp c with d | g2
   .rw[f,d]
   .exact absurd rfl (i x (f ▸ e) x (Wn.mpr ⟨g',g2,b⟩))
  .rcases XI.mp c with d | g2
   .exact absurd rfl (i x (d ▸ b) x (Wn.mpr ⟨g,g1,e⟩))
   .exact m h2 g1 g2 e b
theorem jg (p:List C->Bool):∀gs:List (List C),(gs.filter p).flatten.Sublist gs.flatten
 | []=>List.Sublist.refl _
 | a::r=>by
  rw[WJ,VS];split
  .rw[VS];exact List.Sublist.append (List.Sublist.refl _) (jg p r)
  .exact List.Sublist.trans (jg p r) (List.sublist_append_right _ _)
def meets (a g:List C):Bool:=!(g.filter λc=>a.any λx=>decide (x=c)).isEmpty
def ZE {a g:List C}:meets a g=true ↔ ∃x∈g,x∈a:=by
 unfold meets;rw[WF,Vn];constructor
 .intro h;obtain⟨x,b⟩:=TJ _ h;rw[X5,WT]at b;obtain⟨h1,y,h2,d⟩:=b;have e:y=x:=bg d;subst e;exact⟨y,h1,h2⟩
 .rintro⟨x,h1,h2⟩ hn;have:x∈g.filter λc=>a.any λx=>decide (x=c):=X5.mpr ⟨h1,WT.mpr ⟨x,h2,br rfl⟩⟩;rw[hn]at this;cases this
def whole (w:List C):List (List C)->List C
 | []=>w
 | g::r=>whole (w++g.filter λc=>!(w.any λx=>decide (x=c))) r
def zaB (w:List C)(c:C):(w.any λx=>decide (x=c))=true↔c∈w:=by
 rw[WT];constructor
 .rintro⟨x,h1,h2⟩;have e:x=c:=bg h2;subst e;exact h1
 .intro h;exact⟨c,h,br rfl⟩
theorem za9 {x:C}:∀{w:List C} {b:List (List C)},x∈whole w b↔x∈w\/∃m∈b,x∈m
 | w,[]=>by simp[whole]
 | w,g::r=>by
  rw[whole,za9,XM,X5];constructor
  .rintro((h | ⟨h,_⟩) | ⟨m,hm,h⟩)
   .exact .inl h
   .exact .inr ⟨g,XR,h⟩
   .exact .inr ⟨m,XV _ hm,h⟩
  .rintro(h | ⟨m,hm,h⟩)
   .exact .inl (.inl h)
   .rcases XI.mp hm with rfl | hm
    .by_cases a:x∈w
     .exact .inl (.inl a)
     .refine .inl (.inr ⟨h,?_⟩);rw[WF,XO];exact λz=>a ((zaB w x).mp z)
    .exact .inr ⟨m,hm,h⟩
theorem YU:∀{w:List C} {i:List (List C)},w.Nodup->(∀m∈i,m.Nodup)->(whole w i).Nodup
 | w,[],h,_=>h
 | w,g::r,h,f=>by
  rw[whole];refine YU ?_ λm d=>f m (XV _ d);rw[WY];refine⟨h,(f g XR).sublist Xr,λa j b l e=>?_⟩;subst e;have c:=(X5.mp l).2;rw[(zaB w a).mpr j]at c;cases c
def Good.step {c:C->List C}{done:List C}{gs:List (List C)}(G:Good c done gs){o:C}(h:c o ≠ [])(Q:(c o).Nodup){d:List (List C)}{w:List C}(H:d=gs.filter λg=>!((gs.filter (meets (c o))).any λm=>decide (m=g)))
  (I:w.Perm (whole (c o) (gs.filter (meets (c o))))) (U:w.Pairwise Cells.lex):Good c (done++[o]) (d++[w]):=by
 have r:∀g,g∈d↔g∈gs/\¬ ∃x∈g,x∈c o:=λg=>by
  rw[H,X5,WF,XO];constructor
  .rintro⟨h1,h2⟩;exact⟨h1,λj=>h2 (WT.mpr ⟨g,X5.mpr ⟨h1,ZE.mpr j⟩,br rfl⟩)⟩
  .rintro⟨h1,h2⟩;refine⟨h1,λj=>?_⟩;obtain⟨m,i,e⟩:=WT.mp j;have J:m=g:=bg e;subst J;exact h2 (ZE.mp (X5.mp i).2)
 have q:∀x,x∈w↔x∈c o\/∃g∈gs,(∃y∈g,y∈c o)/\x∈g:=λx=>by
  rw[I.mem_iff,za9];constructor
  .rintro(h1 | ⟨m,i,h1⟩)
   .exact .inl h1
   .obtain⟨h2,j⟩:=X5.mp i;exact .inr ⟨m,h2,ZE.mp j,h1⟩
  .rintro(h1 | ⟨g,h2,j,h1⟩)
   .exact .inl h1
   .exact .inr ⟨g,X5.mpr ⟨h2,ZE.mpr j⟩,h1⟩
 have M:∀g∈gs,g.Nodup:=λg hg=>G.nd.sublist (U6 hg);have wn:w.Nodup:=I.nodup_iff.mpr (YU Q λm i=>M m (X5.mp i).1);refine⟨λg hg=>?_,?_,λx hx=>?_,λp hp A=>?_,λg hg S E=>?_,λg hg=>?_⟩
 .rcases XM.mp hg with hg | hg
  .exact G.ne g ((r g).mp hg).1
  .have e:g=w:=by simpa using hg
   subst e;obtain⟨x,hx⟩:=TJ _ h;exact Uq ((q x).mpr (.inl hx))
 .rw[VT,WY];refine⟨G.nd.sublist (by rw[H];exact jg _ gs),by simpa using wn,λa N b O e=>?_⟩;subst e;have v:a∈w:=by simpa using O
  obtain⟨g,hg,hx⟩:=Wn.mp N;obtain⟨g1,g2⟩:=(r g).mp hg;rcases(q a).mp v with h1 | ⟨m,s,m2,u⟩
  .exact g2 ⟨a,hx,h1⟩
  .have e:=zdX G.nd g1 s hx u;subst e;exact g2 m2
 .rw[VT]at hx;rcases XM.mp hx with hx | hx
  .obtain⟨g,hg,hx⟩:=Wn.mp hx;obtain⟨p,hp,hx⟩:=G.from_ x (Wn.mpr ⟨g,((r g).mp hg).1,hx⟩);exact⟨p,WX _ hp,hx⟩
  .have n:x∈w:=by simpa using hx
   rcases(q x).mp n with h1 | ⟨g,g1,_,L⟩
   .exact⟨o,by simp,h1⟩
   .obtain⟨p,hp,hx⟩:=G.from_ x (Wn.mpr ⟨g,g1,L⟩);exact⟨p,WX _ hp,hx⟩
 .rcases XM.mp hp with hp | hp
  .obtain⟨g,hg,hx⟩:=G.cov p hp A;by_cases i:∃x∈g,x∈c o
   .exact⟨w,by simp,λx n=>(q x).mpr (.inr ⟨g,hg,i,hx x n⟩)⟩
   .exact⟨g,WX _ ((r g).mpr ⟨hg,i⟩),hx⟩
  .have e:p=o:=by simpa using hp
   subst e;exact⟨w,by simp,λx hx=>(q x).mpr (.inl hx)⟩
 .have l:∀p∈done,(∃x∈c p,S x)->∀x∈c p,S x:=λp hp=>E p (WX _ hp);rcases XM.mp hg with hg | hg
  .exact G.con g ((r g).mp hg).1 S l
  .have e:g=w:=by simpa using hg
   subst e;rintro⟨x,hx,sx⟩;have f:∀y∈c o,S y:=by
    refine E o (by simp) ?_;rcases(q x).mp hx with h1 | ⟨m,s,⟨y,B,D⟩,u⟩
    .exact⟨x,h1,sx⟩
    .exact⟨y,D,G.con m s S l ⟨x,u,sx⟩ y B⟩
   intro z Y;rcases(q z).mp Y with h1 | ⟨m,s,⟨y,B,D⟩,u⟩
   .exact f z h1
   .exact G.con m s S l ⟨y,B,f y D⟩ z u
 .rcases XM.mp hg with hg | hg
  .exact G.srt g ((r g).mp hg).1
  .have e:g=w:=by simpa using hg
   subst e;exact U
def Good.perm {d:C->List C}{done:List C}{gs b:List (List C)}(G:Good d done gs)(h:b.Perm gs):Good d done b:=by
 refine⟨λg a=>G.ne g (h.mem_iff.mp a),h.flatten.nodup_iff.mpr G.nd,λx c=>G.from_ x (h.flatten.mem_iff.mp c),λo f e=>?_,λg a=>G.con g (h.mem_iff.mp a),λg a=>G.srt g (h.mem_iff.mp a)⟩;obtain⟨g,a,c⟩:=G.cov o f e;exact⟨g,h.mem_iff.mpr a,c⟩
theorem zaC:∀{gs:List (List C)},(∀g∈gs,g ≠ [])->gs.length<=gs.flatten.length
 | [],_=>XT _
 | g::r,h=>by
  have b:=zaC (gs:=r) λx a=>h x (XV _ a);have:1<=g.length:=List.length_pos_iff.mpr (h g XR);rw[VS,X4,Xo];lia
theorem jZ:∀{a b:List C},a.Nodup->(∀x∈a,x∈b)->a.length<=b.length
 | [],_,_,_=>W1 _
 | x::r,b,h,s=>by
  obtain⟨h1,h2⟩:=Wf.mp h;have c:=s x XR;have f:=jZ (a:=r) (b:=b.erase x) h2 λy d=>(List.mem_erase_of_ne (λ(e:y=x)=>h1 (by rw[<- e];exact d))).mpr (s y (XV _ d));rw[List.length_erase_of_mem c]at f;have:=Um c;rw[Xo];lia
end Parts
namespace Subs
variable {α:Type}
def step (S:List (List α))(c:α):List (List α):=S++S.map (·++[c])
def subs (cs:List α):List (List α):=cs.foldl step [[]]
def pick:List α->Nat->List α
 | [],_=>[]
 | c::r,b=>(if b%2=1 then [c] else [])++pick r (b/2)
def zjX (cs:List α)(c:α):subs (cs++[c])=step (subs cs) c:=by
 unfold subs;rw[UN];rfl
theorem zix:∀(cs:List α) (c:α) (b:Nat),b<2^cs.length->pick (cs++[c]) b=pick cs b
 | [],c,b,h=>by
  have:b=0:=by
   simp at h;lia
  subst this;rfl
 | d::r,c,b,h=>by
  show _++pick (r++[c]) (b/2)=_++pick r (b/2);rw[zix r c (b/2) (by
   rw[Xo,Ut]at h;lia)]
theorem ziy:∀(cs:List α) (c:α) (b:Nat),b<2^cs.length->pick (cs++[c]) (2^cs.length+b)=pick cs b++[c]
 | [],c,b,h=>by
  have:b=0:=by
   simp at h;lia
  subst this;rfl
 | d::r,c,b,h=>by
  rw[Xo,Ut]at h;show (if (2^(r.length+1)+b)%2=1 then [d] else [])++pick (r++[c]) ((2^(r.length+1)+b)/2)=((if b%2=1 then [d] else [])++pick r (b/2))++[c];have a:(2^(r.length+1)+b)%2=b%2:=by
   rw[Ut];lia
  have e:(2^(r.length+1)+b)/2=2^r.length+b/2:=by
   rw[Ut];lia
  rw[a,e,ziy r c (b/2) (by lia),W3]
def zdY (cs:List α):subs cs=(WC (2^cs.length)).map (pick cs):=by
 rw[<- Pk cs];induction cs.reverse with
 | nil=>rfl
 | cons c r d =>
  rw[List.reverse_cons,zjX,d,X4,PY,Ut,Nat.mul_two,List.range_add,Xs,Wj];unfold step;rw[Wj];congr 1
  .refine W9 λb a=>?_;exact(zix _ _ _ (Ww.mp a)).symm
  .refine W9 λb a=>?_;exact(ziy _ _ _ (Ww.mp a)).symm
end Subs
namespace Grow
variable {α β:Type}
def cnt (near:β->α->Bool)(o:β)(p:List α):Nat:=(p.filter (near o)).length
def zcz (near:β->α->Bool)(num:β->Int)(a:List α)(o:β)(p:List α):Bool:=decide (num o-((cnt near o a:Nat):Int)<=((cnt near o p:Nat):Int))&&decide (((cnt near o p:Nat):Int)<=num o)
def chk (near:β->α->Bool)(num:β->Int)(O:List β)(c:α)(a:List α)(p:List α):Bool:=(O.filter λo=>near o c).all λo=>zcz near num a o p
def grow (near:β->α->Bool)(num:β->Int)(O:List β):List (List α)->List α->List (List α)
 | F,[]=>F
 | F,c::a=>grow near num O ((Subs.step F c).filter (chk near num O c a)) a
def good (near:β->α->Bool)(num:β->Int)(O:List β)(done a:List α)(p:List α):Bool:=(O.filter λo=>done.any (near o)).all λo=>zcz near num a o p
def cnt_cons (near:β->α->Bool)(o:β)(c:α)(r:List α):cnt near o (c::r)=cnt near o r+if near o c=true then 1 else 0:=by
 unfold cnt;rw[WJ];split<;>rfl
def zfY (near:β->α->Bool)(o:β)(p:List α)(c:α):cnt near o (p++[c])=cnt near o p+if near o c=true then 1 else 0:=by
 unfold cnt;rw[WZ,X4];congr 1;rw[WJ];split<;>rfl
def yi {near:β->α->Bool}{num:β->Int}{a:List α}{o:β}{p:List α}:zcz near num a o p=true↔num o-((cnt near o a:Nat):Int)<=((cnt near o p:Nat):Int)/\((cnt near o p:Nat):Int)<=num o:=by
 unfold zcz;rw[Wp,bu,bu]
def ziz {near:β->α->Bool}{num:β->Int}{O:List β}{c:α}{a p:List α}:chk near num O c a p=true ↔ ∀o∈O,near o c=true->zcz near num a o p=true:=by
 unfold chk;rw[WK];exact⟨λh o b d=>h o (X5.mpr ⟨b,d⟩),λh o b=>h o (X5.mp b).1 (X5.mp b).2⟩
def YV {near:β->α->Bool}{num:β->Int}{O:List β}{done a p:List α}:good near num O done a p=true ↔ ∀o∈O,done.any (near o)=true->zcz near num a o p=true:=by
 unfold good;rw[WK];exact⟨λh o b c=>h o (X5.mpr ⟨b,c⟩),λh o b=>h o (X5.mp b).1 (X5.mp b).2⟩
def ZF (near:β->α->Bool)(o:β)(done:List α)(c:α):(done++[c]).any (near o)=true↔done.any (near o)=true\/near o c=true:=by
 rw[List.any_append,Bool.or_eq_true];simp
def zns (near:β->α->Bool)(num:β->Int)(O:List β)(done a:List α)(c:α)(p:List α):(good near num O done (c::a) p&&chk near num O c a p)=good near num O (done++[c]) a p:=by
 rw[WQ,Wp,YV,ziz,YV];constructor
 .rintro⟨h1,h2⟩ o b e;by_cases d:near o c=true
  .exact h2 o b d
  .have:=h1 o b (((ZF near o done c).mp e).resolve_right d);rw[yi,cnt_cons,bq d]at this;exact yi.mpr this
 .intro h;refine⟨λo b e=>?_,λo b d=>h o b ((ZF near o done c).mpr (.inr d))⟩;have:=yi.mp (h o b ((ZF near o done c).mpr (.inl e)));rw[yi,cnt_cons];split<;>lia
def znt (near:β->α->Bool)(num:β->Int)(O:List β)(done a:List α)(c:α)(p:List α):(good near num O done (c::a) p&&chk near num O c a (p++[c]))=good near num O (done++[c]) a (p++[c]):=by
 rw[WQ,Wp,YV,ziz,YV];constructor
 .rintro⟨h1,h2⟩ o d e;by_cases b:near o c=true
  .exact h2 o d b
  .have:=h1 o d (((ZF near o done c).mp e).resolve_right b);rw[yi,cnt_cons,bq b]at this;rw[yi,zfY,bq b];exact this
 .intro h;refine⟨λo d e=>?_,λo d b=>h o d ((ZF near o done c).mpr (.inr b))⟩;have:=yi.mp (h o d ((ZF near o done c).mpr (.inl e)));rw[zfY]at this;rw[yi,cnt_cons];split at this<;>rename_i b
  .rw[bw b];lia
  .rw[bq b];lia
def zjY (near:β->α->Bool)(num:β->Int)(O:List β)(done a:List α)(c:α)(S:List (List α)):(Subs.step (S.filter (good near num O done (c::a))) c).filter (chk near num O c a)=(Subs.step S c).filter (good near num O (done++[c]) a):=by
 unfold Subs.step;rw[WZ,WZ];congr 1
 .rw[UX];refine Vt λp _=>?_;rw[<- zns,OZ]
 .rw[List.filter_map,List.filter_map,UX];congr 1;refine Vt λp _=>?_;show (chk near num O c a (p++[c])&&good near num O done (c::a) p)=good near num O (done++[c]) a (p++[c]);rw[<- znt,OZ]
theorem zdZ (near:β->α->Bool)(num:β->Int)(O:List β):∀(a done:List α) (S:List (List α)),grow near num O (S.filter (good near num O done a)) a=(a.foldl Subs.step S).filter (good near num O (done++a) [])
 | [],done,S=>by
  rw[Xu];rfl
 | c::r,done,S=>by
  show grow near num O ((Subs.step (S.filter (good near num O done (c::r))) c).filter (chk near num O c r)) r=_;rw[zjY,zdZ near num O r (done++[c]) (Subs.step S c),W3];rfl
def fits (near:β->α->Bool)(num:β->Int)(O:List β)(part:List α)(p:List α):Bool:=(O.filter λo=>part.any (near o)).all λo=>decide (((cnt near o p:Nat):Int)=num o)
def znu (near:β->α->Bool)(num:β->Int)(O:List β)(part:List α):grow near num O [[]] part=(Subs.subs part).filter (fits near num O part):=by
 have h:=zdZ near num O part [] [[]];have e:([[]]:List (List α)).filter (good near num O [] part)=[[]]:=by
  have:good near num O [] part []=true:=YV.mpr λo _ a=>by simp at a
  rw[WJ,bw this];rfl
 rw[e]at h;rw[h];show (Subs.subs part).filter _=_;refine Vt λp _=>?_;rw[P1];unfold good fits;congr 1;funext o;rw[WQ,yi,bu];show num o-((0:Nat):Int)<=_/\_↔_;lia
end Grow
namespace Cnt
variable {α:Type}
def JW (g:Nat)(ks:List (List α)):List Int:=(WC (g+1)).map λn=>((ks.countP λk=>decide (k.length=n):Nat):Int)
def zaD (g:Nat)(ks:List (List α)):(JW g ks).length=g+1:=by
 unfold JW;rw[ZB,WL]
def zlt (g:Nat):JW g ([]:List (List α))=Wr (g+1) 0:=by
 unfold JW;refine List.eq_replicate_iff.mpr ⟨by rw[ZB,WL],λb a=>?_⟩;obtain⟨n,_,rfl⟩:=XN.mp a;rfl
def zcA {g n:Nat}(ks:List (List α))(h:n<=g):(JW g ks)[n]?=some ((ks.countP λk=>decide (k.length=n):Nat):Int):=by
 unfold JW;rw[XB,TF (by lia)];rfl
def zjZ {g:Nat}(ks:List (List α)){k:List α}(h:k.length<=g):JW g (ks++[k])=(JW g ks).set k.length (((ks.countP λx=>decide (x.length=k.length):Nat):Int)+1):=by
 refine SW λn=>?_;rw[List.getElem?_set];by_cases b:n<=g
 .rw[zcA _ b,zcA _ b,zaD,List.countP_append];by_cases e:k.length=n
  .rw[bw e,bw (by lia)];subst e;simp
  .rw[bq e];simp[e]
 .have a:∀c:List (List α),(JW g c)[n]?=none:=λc=>SN (by rw[zaD];lia);rw[a,a,zaD,bq (by lia)]
def zj0 {g:Nat}{as bs:List (List α)}(h:as.Perm bs):JW g as=JW g bs:=by
 unfold JW;refine W9 λn _=>?_;rw[h.countP_eq]
end Cnt
namespace Pour
def S (h:Nat->Int):Nat->Int
 | 0=>0
 | n+1=>S h n+h n
def F (xs:List Int)(i:Nat):Int:=(xs[i]?).getD 0
def hk (xs ys:List Int)(k i:Nat):Int:=if i<=k then F xs i*F ys (k-i) else 0
def QF (xs ys:List Int):List Int:=(WC (xs.length+ys.length-1)).map λk=>S (hk xs ys k) xs.length
def part (xs ys:List Int)(i j k:Nat):Int:=S (hk xs ys k) i+(if i<=k/\k-i<j then F xs i*F ys (k-i) else 0)
def st (xs ys:List Int)(i j:Nat):List Int:=(WC (xs.length+ys.length-1)).map (part xs ys i j)
def zcB {xs:List Int}{i:Nat}(h:xs.length<=i):F xs i=0:=by
 unfold F;rw[SN h];rfl
def znv {xs:List Int}{i:Nat}{x:Int}(h:xs[i]?=some x):F xs i=x:=by
 unfold F;rw[h];rfl
theorem Yg {f g:Nat->Int}:∀n,(∀i,i<n->f i=g i)->S f n=S g n
 | 0,_=>rfl
 | n+1,h=>by
  show S f n+f n=S g n+g n;rw[Yg n λi a=>h i (by lia),h n (by lia)]
theorem zlu {f:Nat->Int}{n:Nat}:∀m,(∀i,n<=i->i<n+m->f i=0)->S f (n+m)=S f n
 | 0,_=>rfl
 | m+1,h=>by
  show S f (n+m)+f (n+m)=S f n;rw[zlu m λi h1 h2=>h i h1 (by lia),h (n+m) (by lia) (by lia),Sd]
def znw {f:Nat->Int}{n m:Nat}(a:n<=m)(h:∀i,n<=i->i<m->f i=0):S f m=S f n:=by
 obtain⟨d,rfl⟩:∃d,m=n+d:=⟨m-n,by lia⟩;exact zlu d h
def zpN (xs ys:List Int)(k:Nat):S (hk xs ys k) xs.length=S (λi=>F xs i*F ys (k-i)) (k+1):=by
 have a:S (λi=>F xs i*F ys (k-i)) (k+1)=S (hk xs ys k) (k+1):=Yg _ λi b=>by
  unfold hk;rw[bw (by lia)]
 rw[a];by_cases c:xs.length<=k+1
 .refine(znw c λi h1 _=>?_).symm;unfold hk;rw[zcB h1];split<;>simp
 .refine znw (by lia) λi h1 _=>?_;unfold hk;rw[bq (by lia)]
def zhr (xs ys:List Int)(i j:Nat):(st xs ys i j).length=xs.length+ys.length-1:=by
 unfold st;rw[ZB,WL]
def zhs {xs ys:List Int}{i j k:Nat}(h:k<xs.length+ys.length-1):(st xs ys i j)[k]?=some (part xs ys i j k):=by
 unfold st;rw[XB,TF h];rfl
def zlv (xs ys:List Int):st xs ys 0 0=Wr (xs.length+ys.length-1) 0:=by
 unfold st;have e:∀k,part xs ys 0 0 k=0:=λk=>by
  unfold part;rw[bq (by lia)];rfl
 refine(W9 (g:=λ_=>(0:Int)) λk _=>e k).trans ?_;rw[List.map_const',WL]
def zlw (xs ys:List Int)(i k:Nat):part xs ys i ys.length k=part xs ys (i+1) 0 k:=by
 unfold part;rw[bq (show ¬ (i+1<=k/\k-(i+1)<0) by lia),Sd];show _=S (hk xs ys k) i+hk xs ys k i;congr 1;unfold hk;by_cases c:i<=k
 .by_cases d:k-i<ys.length
  .rw[bw ⟨c,d⟩,bw c]
  .rw[bq (λz=>d z.2),bw c,zcB (show ys.length<=k-i by lia),Int.mul_zero]
 .rw[bq (λz=>c z.1),bq c]
def zpO (xs ys:List Int)(i:Nat):st xs ys i ys.length=st xs ys (i+1) 0:=by
 unfold st;exact W9 λk _=>zlw xs ys i k
def znx {xs ys:List Int}{i j:Nat}{x y:Int}(a:xs[i]?=some x)(b:ys[j]?=some y):(st xs ys i j).set (i+j) (part xs ys i j (i+j)+x*y)=st xs ys i (j+1):=by
 have h:i<xs.length:=(XX.mp a).1;have l:j<ys.length:=(XX.mp b).1;apply SW;intro k;rw[List.getElem?_set];by_cases c:k<xs.length+ys.length-1
 .rw[zhs c,zhs c];by_cases e:i+j=k
  .subst e;rw[bw rfl,bw (by rw[zhr];exact c)];congr 1;unfold part;rw[bq (by lia),bw (by lia),Sd,znv a,Rj,znv b]
  .rw[bq e];congr 1;unfold part;congr 1;by_cases d:i<=k/\k-i<j
   .rw[bw d,bw (by lia)]
   .rw[bq d,bq (by lia)]
 .have g:∀f,(st xs ys i f)[k]?=none:=λf=>SN (by rw[zhr];lia);rw[g,g];by_cases e:i+j=k
  .lia
  .rw[bq e]
def zpP (xs ys:List Int):st xs ys xs.length 0=QF xs ys:=by
 unfold st QF;refine W9 λk _=>?_;unfold part;rw[bq (by lia),Sd]
end Pour
namespace Choose
def ch:Nat->Nat->Nat
 | _,0=>1
 | 0,_+1=>0
 | n+1,k+1=>ch n k+ch n (k+1)
def Qn (n:Nat):ch n 0=1:=by cases n<;>rfl
theorem zba:∀(n k:Nat),n<k->ch n k=0
 | 0,0,h=>absurd h (by lia)
 | 0,k+1,_=>rfl
 | n+1,0,h=>absurd h (by lia)
 | n+1,k+1,h=>by
  show ch n k+ch n (k+1)=0;rw[zba n k (by lia),zba n (k+1) (by lia)]
theorem zb1:∀n k:Nat,(k+1)*ch n (k+1)+k*ch n k=n*ch n k
 | 0,0=>rfl
 | 0,k+1=>by
  show (k+1+1)*0+(k+1)*0=0*0;simp
 | n+1,0=>by
  have h:=zb1 n 0;rw[Qn]at h ⊢;show (0+1)*(ch n 0+ch n (0+1))+0*1=(n+1)*1;rw[Qn];lia
 | n+1,j+1=>by
  have h1:=zb1 n (j+1);have h2:=zb1 n j;show (j+1+1)*(ch n (j+1)+ch n (j+1+1))+(j+1)*(ch n j+ch n (j+1))=(n+1)*(ch n j+ch n (j+1));generalize ch n (j+1+1)=C2 at *
  generalize ch n (j+1)=C1 at *
  generalize ch n j=C0 at *
  simp only[Nat.add_mul,Nat.mul_add,Nat.one_mul]at *
  lia
def zny {n k:Nat}(h:k<n):(ch n k:Int)*((n:Int)-k)/((k:Int)+1)=ch n (k+1):=by
 have e:=zb1 n k;have a:(ch n k:Int)*((n:Int)-k)=(ch n (k+1):Int)*((k:Int)+1):=by
  have:((k+1)*ch n (k+1)+k*ch n k:Int)=(n*ch n k:Int):=by exact_mod_cast e
  rw[Int.mul_sub,OJ (ch n k:Int) n,<- this,OJ (ch n (k+1):Int) ((k:Int)+1),OJ (ch n k:Int) (k:Int)];lia
 rw[a];exact Int.mul_ediv_cancel _ (by lia)
def zq9 (n:Nat):∀k,ch n k<=2^n:=by
 induction n with
 | zero =>
  intro k;cases k with
  | zero=>decide
  | succ k =>
   show (0:Nat)<=2^0;decide
 | succ n a =>
  intro k;cases k with
  | zero =>
   rw[Qn];exact Nat.one_le_two_pow
  | succ k =>
   show ch n k+ch n (k+1)<=2^(n+1);rw[Ut];have:=a k;have:=a (k+1);lia
end Choose
namespace Tally
open Subs
variable {α:Type}
theorem zaE:∀(B:List α) (a:List (List α)),B.foldl step a=(subs B).flatMap λb=>a.map (·++b)
 | [],a=>by simp[subs]
 | c::r,a=>by
  have e:subs (c::r)=(subs r).flatMap λb=>[b,c::b]:=by
   show r.foldl step (step [[]] c)=_;rw[zaE r];rfl
  show r.foldl step (step a c)=_;rw[zaE r,e,List.flatMap_assoc];congr 1;funext b;show (a++a.map (·++[c])).map (·++b)=a.map (·++b)++(a.map (·++(c::b))++[]);rw[Xs,Xu,Wj];congr 1;refine W9 λx _=>?_;show x++[c]++b=_;rw[W3];rfl
def zbb (c:α)(r:List α):subs (c::r)=(subs r).flatMap λb=>[b,c::b]:=by
 show r.foldl step (step [[]] c)=_;rw[zaE r];rfl
def zfZ (A B:List α):subs (A++B)=(subs B).flatMap λb=>(subs A).map (·++b):=by
 unfold subs;rw[UN];exact zaE B _
theorem zd0 (c:α)(p:List α->Bool):∀L:List (List α),(L.flatMap λb=>[b,c::b]).countP p=L.countP p+L.countP λS=>p (c::S)
 | []=>rfl
 | b::L=>by
  have a:=zd0 c p L;rw[VH,List.countP_append,a,Wo (l:=L),Wo (l:=L),Wo,Wo,List.countP_nil];lia
def count_cons (c:α)(r:List α)(p:List α->Bool):(subs (c::r)).countP p=(subs r).countP p+(subs r).countP λS=>p (c::S):=by
 rw[zbb,zd0]
def Inv (p:List α->Bool):Prop:=∀a b,a.Perm b->p a=p b
theorem Inv.cons {p:List α->Bool}(h:Inv p)(c:α):Inv λS=>p (c::S):=λ_ _ e=>h _ _ (e.cons c)
def zht {cs a:List α}(e:cs.Perm a):∀{p:List α->Bool},Inv p->(subs cs).countP p=(subs a).countP p:=by
 induction e with
 | nil=>intro p _;rfl
 | cons c _ b =>
  intro p h;rw[count_cons,count_cons,b h,b (h.cons c)]
 | swap x y l =>
  intro p h;rw[count_cons,count_cons,count_cons,count_cons,count_cons,count_cons];have:(subs l).countP (λS=>p (y::x::S))=(subs l).countP λS=>p (x::y::S):=T9 λS _=>by rw[h _ _ (List.Perm.swap x y S)]
  lia
 | trans _ _ d f =>
  intro p h;exact(d h).trans (f h)
def T (cs:List α)(p:List α->Bool)(k:Nat):Nat:=(subs cs).countP λS=>decide (S.length=k)&&p S
def zpQ {cs c:List α}(e:cs.Perm c){p:List α->Bool}(h:Inv p)(k:Nat):T cs p k=T c p k:=zht e λa b e=>by rw[h a b e,e.length_eq]
def znz {cs:List α}{p q:List α->Bool}(h:∀S∈subs cs,p S=q S)(k:Nat):T cs p k=T cs q k:=T9 λS a=>by rw[h S a]
theorem zoz (f g:Nat->Int):∀n,Pour.S (λi=>f i+g i) n=Pour.S f n+Pour.S g n
 | 0=>rfl
 | n+1=>by
  show Pour.S (λi=>f i+g i) n+(f n+g n)=Pour.S f n+f n+(Pour.S g n+g n);rw[zoz f g n];lia
theorem zlx:∀n,Pour.S (λ_=>0) n=0
 | 0=>rfl
 | n+1=>by
  show Pour.S (λ_=>0) n+0=0;rw[zlx n];rfl
theorem zf0 (j:Nat)(x:Int):∀n,Pour.S (λi=>if i=j then x else 0) n=if j<n then x else 0
 | 0=>rfl
 | n+1=>by
  show Pour.S (λi=>if i=j then x else 0) n+(if n=j then x else 0)=_;rw[zf0 j x n];by_cases h:n=j
  .rw[bq (by lia),bw h,bw (by lia),VY]
  .rw[bq h,Sd];by_cases h2:j<n
   .rw[bw h2,bw (by lia)]
   .rw[bq h2,bq (by lia)]
def zf1 (q:List α->Bool)(f:Nat->Nat)(k:Nat):∀L:List (List α),(((L.map λb=>if (q b&&decide (b.length<=k))=true then f (k-b.length) else 0).sum:Nat):Int)=Pour.S (λi=>(f i:Int)*((L.countP λb=>decide (b.length=k-i)&&q b:Nat):Int)) (k+1):=by
 intro L;induction L with
 | nil =>
  have:Pour.S (λi=>(f i:Int)*((([]:List (List α)).countP λb=>decide (b.length=k-i)&&q b:Nat):Int)) (k+1)=Pour.S (λ_=>0) (k+1):=Pour.Yg _ λi _=>by
   show (f i:Int)*0=0;lia
  rw[this,zlx];rfl
 | cons b L h =>
  rw[XD,Sw,PZ,h];have e:Pour.S (λi=>(f i:Int)*(((b::L).countP λb=>decide (b.length=k-i)&&q b:Nat):Int)) (k+1)=Pour.S (λi=>(f i:Int)*((L.countP λb=>decide (b.length=k-i)&&q b:Nat):Int)+if i=k-b.length then (if (q b&&decide (b.length<=k))=true then (f (k-b.length):Int) else 0) else 0) (k+1):=Pour.Yg _ λi j=>by
   rw[Wo];by_cases c:q b=true
   .by_cases g:b.length<=k
    .by_cases a:i=k-b.length
     .have h1:b.length=k-i:=by lia
      have h2:k-i<=k:=by lia
      simp only[c,h1,h2,decide_true,Sv,if_true,bw a];rw[show k-(k-i)=i by lia,bw rfl,PZ,Int.mul_add];lia
     .have h1:¬b.length=k-i:=by lia
      simp only[c,h1,decide_false,Sv,bq a];simp
    .have h1:¬b.length=k-i:=by lia
     simp[c,h1,g]
   .have d:q b=false:=XO.mpr c;simp[d]
  rw[e,zoz,zf0,bw (show k-b.length<k+1 by lia),Int.add_comm];congr 1;split<;>rfl
def zoA {A B:List α}{P f pB:List α->Bool}(h:∀a∈subs A,∀b∈subs B,P (a++b)=(f a&&pB b))(k:Nat):(T (A++B) P k:Int)=Pour.S (λi=>(T A f i:Int)*(T B pB (k-i):Int)) (k+1):=by
 unfold T;rw[zfZ,List.countP_flatMap];have e:(subs B).map (List.countP (λS=>decide (S.length=k)&&P S)∘λb=>(subs A).map (·++b))=(subs B).map λb=>if (pB b&&decide (b.length<=k))=true then (T A f) (k-b.length) else 0:=by
  refine W9 λb j=>?_;show List.countP _ ((subs A).map (·++b))=_;rw[List.countP_map];by_cases d:(pB b&&decide (b.length<=k))=true
  .rw[bw d];obtain⟨h1,h2⟩:=VQ.mp d;have h2:=bg h2;refine T9 λa g=>?_;show (decide ((a++b).length=k)&&P (a++b))=true↔(decide (a.length=k-b.length)&&f a)=true;rw[h a g b j,h1,Sv,X4,show (decide (a.length+b.length=k))=decide (a.length=k-b.length) from decide_eq_decide.mpr (by lia)]
  .rw[bq d];refine Vr.mpr λa g c=>d ?_;have c:(decide ((a++b).length=k)&&P (a++b))=true:=c;rw[h a g b j]at c;obtain⟨h1,h2⟩:=VQ.mp c;have h1:=bg h1;rw[X4]at h1;rw[(VQ.mp h2).2,br (by lia)];rfl
 rw[e,zf1];rfl
def zaF {cs S:List α}(h:S∈subs cs):S.Sublist cs:=by
 revert S;induction cs with
 | nil=>intro S h;simp[subs]at h;subst h;exact List.Sublist.refl _
 | cons c r d =>
  intro S h;rw[zbb]at h;obtain⟨b,a,h⟩:=V7.mp h;have:=d a;simp at h;rcases h with rfl | rfl
  .exact this.cons c
  .exact this.cons_cons c
def znA {cs:List α}:∀{S:List α},S.Sublist cs->S∈subs cs:=by
 induction cs with
 | nil=>intro S h;cases h;simp[subs]
 | cons c r a =>
  intro S h;rw[zbb];cases h with
  | cons _ h=>exact V7.mpr ⟨S,a h,by simp⟩
  | cons_cons _ h=>exact V7.mpr ⟨_,a h,by simp⟩
def zf2 {cs:List α}{p:List α->Bool}{k:Nat}(h:cs.length<k):T cs p k=0:=by
 refine Vr.mpr λS a b=>?_;have h1:=bg (VQ.mp b).1;have h2:=(zaF a).length_le;lia
def tl (cs:List α)(p:List α->Bool):List Int:=(WC (cs.length+1)).map λk=>(T cs p k:Int)
def YW (cs:List α)(p:List α->Bool):(tl cs p).length=cs.length+1:=by
 unfold tl;rw[ZB,WL]
def znB (cs:List α)(p:List α->Bool)(i:Nat):Pour.F (tl cs p) i=(T cs p i:Int):=by
 by_cases h:i<cs.length+1
 .refine Pour.znv ?_;unfold tl;rw[XB,TF h];rfl
 .rw[Pour.zcB (by rw[YW];lia),zf2 (by lia)];rfl
def znC {A B:List α}{P c pB:List α->Bool}(h:∀a∈subs A,∀b∈subs B,P (a++b)=(c a&&pB b)):Pour.QF (tl A c) (tl B pB)=tl (A++B) P:=by
 unfold Pour.QF;rw[YW,YW];show _=(WC ((A++B).length+1)).map λk=>(T (A++B) P k:Int);rw[X4,show A.length+1+(B.length+1)-1=A.length+B.length+1 by lia];refine W9 λk _=>?_;have e:=Pour.zpN (tl A c) (tl B pB) k;rw[YW]at e;rw[e,zoA h];exact Pour.Yg _ λi _=>by rw[znB,znB]
def zly {cs:List α}{p q:List α->Bool}(h:∀S∈subs cs,p S=q S):tl cs p=tl cs q:=by
 unfold tl;refine W9 λk _=>by rw[znz h]
theorem ziA:∀(cs:List α) (k:Nat),T cs (λ_=>true) k=Choose.ch cs.length k
 | [],0=>rfl
 | [],k+1=>rfl
 | c::r,0=>by
  have e:=ziA r 0;unfold T at e ⊢;rw[count_cons,e,Choose.Qn,Choose.Qn];have:(subs r).countP (λS=>decide ((c::S).length=0)&&true)=0:=Vr.mpr λS _ d=>by simp at d
  rw[this]
 | c::r,k+1=>by
  have a:=ziA r k;have b:=ziA r (k+1);unfold T at a b ⊢;rw[count_cons,b];have:(subs r).countP (λS=>decide ((c::S).length=k+1)&&true)=(subs r).countP λS=>decide (S.length=k)&&true:=T9 λS _=>by
   rw[Xo,show decide (S.length+1=k+1)=decide (S.length=k) from decide_eq_decide.mpr (by lia)]
  rw[this,a];show _=Choose.ch r.length k+Choose.ch r.length (k+1);lia
variable {α:Type}
structure Loc (U:List α)(p:List α->Bool)(g:List α):Prop where
 l:∀a b,(∀c∈a,c∈U/\c ∉ g)->p (a++b)=p b
 r:∀a b,(∀c∈b,c∈U/\c ∉ g)->p (a++b)=p a
def Yh (a:List α->List α->Bool)(gs:List (List α))(S:List α):Bool:=gs.all λg=>a g S
def zlz (a:List α->List α->Bool)(as bs:List (List α))(S:List α):Yh a (as++bs) S=(Yh a as S&&Yh a bs S):=List.all_append
def zhu {a:List α->List α->Bool}{gs:List (List α)}{S b:List α}(h:∀g∈gs,a g S=a g b):Yh a gs S=Yh a gs b:=by
 unfold Yh;induction gs with
 | nil=>rfl
 | cons g r d =>
  rw[RJ,RJ,h g XR,d λx c=>h x (XV _ c)]
def zhv {U:List α}{d:List α->List α->Bool}{done:List (List α)}{g:List α}{q:List α->Bool}(u:(done.flatten++g).Nodup)(f:∀c∈done.flatten++g,c∈U)(p:∀x∈done,Loc U (d x) x)(s:Loc U q g) :
  Pour.QF (tl done.flatten (Yh d done)) (tl g q)=tl (done.flatten++g) λS=>Yh d done S&&q S:=by
 obtain⟨_,_,j⟩:=WY.mp u;refine znC λa n b o=>?_;have sa:=(zaF n).subset;have m:=(zaF o).subset;rw[s.l a b λc e=>⟨f c (WX _ (sa e)),λh=>j c (sa e) c h rfl⟩];congr 1;exact zhu λx i=>(p x i).r a b λc e=>⟨f c (WV _ (m e)),λh=>j c (Wn.mpr ⟨x,i,h⟩) c (m e) rfl⟩
def znD {U:List α}{a:List α->List α->Bool}:∀(gs done:List (List α)),(done++gs).flatten.Nodup->(∀c∈(done++gs).flatten,c∈U)->(∀g∈done++gs,Loc U (a g) g)->(gs.map λg=>tl g (a g)).foldl Pour.QF (tl done.flatten (Yh a done))=tl (done++gs).flatten (Yh a (done++gs)):=by
 intro gs;induction gs with
 | nil =>
  intro done _ _ _;rw[Xu];rfl
 | cons g r i =>
  intro done d h b;have e:done++g::r=(done++[g])++r:=by rw[W3];rfl
  rw[e]at d h b ⊢;have f:(done++[g]).flatten=done.flatten++g:=by rw[VT];simp
  have j:(done.flatten++g).Nodup:=by
   rw[VT,f]at d;exact(WY.mp d).1
  have i:=i (done++[g]) d h b;rw[<- i,XD,VW,f];congr 1;rw[zhv j (λc l=>h c (by rw[VT,f];exact WX _ l)) (λx m=>b x (by simp[m])) (b g (by simp))];refine zly λS _=>?_;rw[zlz];congr 1;show a g S=(a g S&&true);rw[Sv]
def zlA {U:List α}{a:List α->List α->Bool}{gs:List (List α)}(e:gs.flatten.Nodup)(d:∀c∈gs.flatten,c∈U)(b:∀g∈gs,Loc U (a g) g):(gs.map λg=>tl g (a g)).foldl Pour.QF [1]=tl gs.flatten (Yh a gs):=znD gs [] e d b
def chZ (n:Nat)(k:Int):Int:=if k<0 then 0 else (Choose.ch n k.toNat:Nat)
def dl (xs:List Int)(m:Nat)(s:Int):Int:=Pour.S (λk=>Pour.F xs k*chZ m (s-(k:Nat))) xs.length
def zpR (g:Nat->Int){a b:Nat}(c:∀i,a<=i->g i=0)(d:∀i,b<=i->g i=0):Pour.S g a=Pour.S g b:=by
 by_cases h:a<=b
 .exact(Pour.znw h λi h1 _=>c i h1).symm
 .exact Pour.znw (by lia) λi h1 _=>d i h1
def zra {A c:List α}{P d:List α->Bool}(h:∀a∈subs A,∀b∈subs c,P (a++b)=d a)(s:Nat):dl (tl A d) c.length (s:Nat)=(T (A++c) P s:Int):=by
 rw[zoA (pB:=λ_=>true) (λa f b g=>by rw[h a f b g,Sv]) s];unfold dl;rw[YW];rw[zpR (λk=>Pour.F (tl A d) k*chZ c.length ((s:Int)-(k:Nat))) (a:=A.length+1) (b:=s+1) (λi e=>by rw[znB,zf2 (by lia)];simp) (λi e=>by
  unfold chZ;rw[bw (by lia),Int.mul_zero])]
 refine Pour.Yg _ λi e=>?_;show Pour.F (tl A d) i*chZ c.length ((s:Int)-(i:Nat))=_;rw[znB,ziA];unfold chZ;rw[bq (by lia),show ((s:Int)-(i:Nat)).toNat=s-i by lia]
def znE {cs:List α}{p:List α->Bool}(h:∀S∈subs cs,p S=false)(k:Nat):T cs p k=0:=Vr.mpr λS b a=>by
 rw[h S b,Pz]at a;cases a
def znF (cs:List α)(p:List α->Bool):Cnt.JW cs.length ((subs cs).filter p)=tl cs p:=by
 unfold Cnt.JW tl T;refine W9 λk _=>?_;rw[List.countP_filter]
def zlB {b:Type}(g:Nat)(f:List α->List b)(a:∀k,(f k).length=k.length)(ks:List (List α)):Cnt.JW g (ks.map f)=Cnt.JW g ks:=by
 unfold Cnt.JW;refine W9 λn _=>?_;rw[List.countP_map];congr 1;refine T9 λk _=>?_;show decide ((f k).length=n)=true↔_;rw[a]
variable {α β:Type}
end Tally
namespace K92
open PySem L2
variable {P:Xh}{w:W2}{K:XS}{mg:Str->Option X9}{base:Heap}{f:Addr}{fd:XC}{jaa jab:Addr}
abbrev top (i:Nat):Stmt:=J2.top i
abbrev ZG:Stmt:=top 7
abbrev qL:Stmt:=top 8
abbrev jJ:Stmt:=top 9
abbrev jB:Stmt:=top 10
abbrev zaG:Stmt:=top 11
abbrev qE:Stmt:=top 12
abbrev qF:Stmt:=top 13
abbrev zb2:Stmt:=top 15
abbrev YX:Stmt:=top 16
abbrev ziB:Stmt:=top 17
abbrev j3:Stmt:=top 18
abbrev Jq:Stmt:=top 19
abbrev qR:Stmt:=top 20
abbrev jS:Stmt:=top 23
abbrev yX:Stmt:=top 24
abbrev JG:Stmt:=top 25
abbrev xJ:Stmt:=top 26
abbrev ZH:Stmt:=top 27
abbrev Qo:Stmt:=top 29
abbrev zaH:Stmt:=top 30
abbrev xK:Stmt:=top 32
abbrev zb3:Stmt:=top 33
abbrev Jr:Stmt:=top 34
abbrev zb4:Stmt:=top 35
abbrev Yi:Stmt:=top 38
abbrev Yj:Stmt:=top 39
abbrev xM:Stmt:=top 40
abbrev zaI:Stmt:=top 41
abbrev ZI:Stmt:=top 42
abbrev Yk:Stmt:=top 45
abbrev Zh:Stmt:=top 46
abbrev xN:Stmt:=top 47
abbrev Js:Stmt:=top 48
abbrev j9:Stmt:=top 50
abbrev xQ:Stmt:=top 51
abbrev JX:Stmt:=top 52
abbrev Zi:Stmt:=top 53
abbrev yw:Stmt:=top 54
abbrev yY:Stmt:=top 55
abbrev Zj:Stmt:=top 56
abbrev Jt:Stmt:=top 57
abbrev Ju:Stmt:=top 58
abbrev Yl:Stmt:=top 60
abbrev Jv:Stmt:=top 61
abbrev Qp:Stmt:=top 62
abbrev Jw:Stmt:=top 63
abbrev Zk:Stmt:=top 64
abbrev zf3:Stmt:=top 65
structure Txt (mg:Str->Option X9):Prop where
 zoB:mg "abs"=none
 ziC:mg "any"=none
 zlC:mg "dict"=none
 jr:mg "enumerate"=none
 zlD:mg "int"=none
 qK:mg "len"=none
 zlE:mg "list"=none
 zlF:mg "max"=none
 zf4:mg "min"=none
 j4:mg "range"=none
 zrb:mg "set"=none
 jT:mg "sorted"=none
 zoC:mg "str"=none
 zoD:mg "sum"=none
 zoE:∃t,mg "ALL"=some (.str "all" t)
 Zt:∃t,mg "CLOSED_SIGN"=some (.str "?" t)
 zcC:∃t,mg "MOST_OF_PART"=some (.int 14 t)
 zdi:∃t,mg "MOST_THINGS"=some (.int 30 t)
 YY:∃t,mg "NO_CELL_SIGN"=some (.str "#" t)
def Mq (K:XS)(mg:Str->Option X9)(n:Str)(s:Stmt)(p:List Str):=∃f fd,zm K mg n s p f fd
structure Prog (K:XS)(mg:Str->Option X9):Prop where
 closed:Mq K mg "closed" ZG ["board"]
 open_cells:Mq K mg "open_cells" qL ["board"]
 around:Mq K mg "around" jJ ["board","cell"]
 number_at:Mq K mg "number_at" jB ["board","cell"]
 opened:Mq K mg "opened" zaG ["board","numbers"]
 cells_of:Mq K mg "cells_of" qE ["board"]
 sign_at:Mq K mg "sign_at" qF ["board","cell"]
 parts:Mq K mg "parts" zb2 ["board"]
 joined:Mq K mg "joined" YX ["groups","cells"]
 far:Mq K mg "far" ziB ["board"]
 numbers_of:Mq K mg "numbers_of" j3 ["board","part"]
 bare_wrong:Mq K mg "bare_wrong" Jq ["board"]
 closed_around:Mq K mg "closed_around" qR ["board","cell"]
 part_layings:Mq K mg "part_layings" jS ["board","part"]
 needs_at:Mq K mg "needs_at" yX ["told","cell","rest"]
 may_fit:Mq K mg "may_fit" JG ["needs","pick"]
 part_counts:Mq K mg "part_counts" xJ ["board","part"]
 counted:Mq K mg "counted" ZH ["found","greatest"]
 choices:Mq K mg "choices" Qo ["n","k"]
 poured:Mq K mg "poured" zaH ["one","other"]
 near_counts:Mq K mg "near_counts" xK ["board"]
 count:Mq K mg "count" zb3 ["board"]
 all_poured:Mq K mg "all_poured" Jr ["lists"]
 dealt:Mq K mg "dealt" zb4 ["counts","cells","stones"]
 asked_by:Mq K mg "asked_by" Yi ["board","thing"]
 known_of:Mq K mg "known_of" Yj ["finding"]
 still_asked:Mq K mg "still_asked" xM ["asked","known"]
 gained:Mq K mg "gained" zaI ["asked"]
 settled:Mq K mg "settled" ZI ["regions"]
 thoughts:Mq K mg "thoughts" Yk ["board"]
 all_steps:Mq K mg "all_steps" Zh ["board","things"]
 place_lists:Mq K mg "place_lists" xN ["asked"]
 first_step:Mq K mg "first_step" Js ["things","asked","lists","finding"]
 law_cell_at:Mq K mg "_law_cell_at" j9 ["_law_script","_law_k"]
 law_mixed:Mq K mg "_law_mixed" xQ ["_law_cell","_law_k"]
 law_mark:Mq K mg "_law_mark" JX ["_law_drawn_here","_law_often","_law_many","_law_room"]
 law_drawn:Mq K mg "_law_drawn" Zi ["_law_script","_law_most","_law_limit"]
 law_cells:Mq K mg "_law_cells" yw ["_law_rows","_law_signs"]
 law_near:Mq K mg "_law_near" yY ["_law_one","_law_other"]
 law_board:Mq K mg "_law_board" Zj ["_law_marks"]
 law_looked:Mq K mg "_law_looked" Jt ["_law_board_here","_law_thing"]
 law_number:Mq K mg "_law_number" Ju ["_law_board_here","_law_thing"]
 law_free:Mq K mg "_law_free" Yl ["_law_board_here","_law_thing","_law_finding"]
 law_shares:Mq K mg "_law_shares" Jv ["_law_one","_law_other","_law_first","_law_second"]
 law_due:Mq K mg "_law_due" Qp ["_law_board_here","_law_things_here","_law_finding"]
 law_walked:Mq K mg "_law_walked" Jw ["_law_board_here","_law_marks","_law_steps","_law_known"]
 law_great:Mq K mg "_law_great" Zk ["_law_board_here"]
def zlG (K:XS):Sp:=λc H Q _=>∃(a:Addr) (b:List Int) (k:Int),c=[.ref a,.int k]/\SqL K H a (b.map V.int)/\0<=k/\∀z:Int,Q (.int z) H
structure Row (signs:List Nat)(n:Nat)(t:Str):Prop where
 len:t.cps.size=n
 mem:∀c∈t.cps.toList,c∈signs
structure Rows (signs:List Nat)(rs:AD):Prop where
 lo:1<=rs.length
 hi:rs.length<=8
 ex:∃n,1<=n/\n<=8/\∀t∈rs,Row signs n t
def bd:Str:="?012345678#"
def zcD:zD ["_law_script","_law_k"] ["_law_script","_law_k"] (zp j9):=bh
def zcE (T:Txt mg)(D:zm K mg "_law_cell_at" j9 ["_law_script","_law_k"] f fd):qc P w K mg base CX0 1 f fd ["_law_script","_law_k"] (zlG K):=by
 refine D.F.ok zcD (λn H Q E h=>?_) (λj A d s H n Q E o h=>?_)
 .obtain⟨a,b,i,rfl,_⟩:=h;rfl
 .revert h;refine eU λa b i z0 e l k=>?_;subst z0;refine⟨_,(ze (qJ (zI zlo (pvS 1) (pb1 zB T.qK Xj (pvS 0)) (zT _)) (zf (zx (zv qS (pvS 0) (pvS 1) (λ_ _=>rfl)))) qa) (@zf _ _ _ (@zx _ _ _ _ zg))),?_⟩;(try dsimp only[cxK,cxP,cxW]);refine⟨_,rfl,_,rfl,a,_,rfl,.inl e,_,_,rfl,rfl,_,rfl,?_⟩;refine zg1 (λc=>?_) (λc=>?_)
  .have g:i<((b.map V.int).length:Nat):=bg c;rw[ZB]at g;have m:i.toNat<b.length:=by lia
   refine⟨_,rfl,_,rfl,a,_,i,.int b[i.toNat],rfl,rfl,e,zg2 l (by rw[XB,XY m];rfl),?_⟩;exact k _
  .exact k 0
structure qj (H:Hp)(p l:Addr)(rs:AD)(n:Int):Prop where
 tp:H p=some (.tup [.ref l,.int n])
 rw:H l=some (.lst (rs.map V.str))
def qj.mono {H a:Hp}{p l:Addr}{rs:AD}{n:Int}(b:qj H p l rs n)(s:zo H a):qj a p l rs n:=⟨s _ _ b.tp,s _ _ b.rw⟩
def codes (rs:AD):List (List Nat):=rs.map λt=>t.cps.toList
def qG {rs:AD}{i:Nat}{t:Str}(h:rs[i]?=some t):(codes rs)[i]?=some t.cps.toList:=by
 unfold codes;rw[XB,h];rfl
def Qq {rs:AD}{i:Nat}{u:List Nat}(h:(codes rs)[i]?=some u):∃t,rs[i]?=some t/\u=t.cps.toList:=by
 unfold codes at h;rw[XB]at h;cases e:rs[i]? with
 | none =>
  rw[e]at h;cases h
 | some t =>
  rw[e]at h;cases h;exact⟨t,rfl,rfl⟩
def jc (rs:AD):(codes rs).length=rs.length:=by
 unfold codes;rw[ZB]
def Rows.short {s:List Nat}{rs:AD}(R:Rows s rs):∀u∈codes rs,u.length<=8:=λu b=>by
 obtain⟨t,a,rfl⟩:=XN.mp b;obtain⟨n,_,c,q⟩:=R.ex;have:=(q t a).len;rw[XZ];lia
def Rows.tlen {s:List Nat}{rs:AD}{i:Nat}{t:Str}(R:Rows s rs)(h:rs[i]?=some t):t.length<=Xv:=by
 obtain⟨n,_,a,q⟩:=R.ex;have e:t.length=n:=(q t (X8 h)).len;rw[e];exact X6 a (by decide)
def jU (H:Hp)(v:V)(c:AA):Prop:=∃a,v=V.ref a/\H a=some (.tup [.int (c.1:Nat),.int (c.2:Nat)])
def Cel (H:Hp):AE->AB->Prop:=Xy (jU H)
def Cel.mono {H b:Hp}(s:zo H b){vs:AE}{cs:AB}(c:Cel H vs cs):Cel b vs cs:=by
 induction c with
 | nil=>exact .nil
 | cons q _ d =>
  obtain⟨a,e,h⟩:=q;exact .cons ⟨a,e,s _ _ h⟩ d
theorem Cel.snoc {H:Hp}{vs:AE}{cs:AB}{v:V}{c:AA}(h:Cel H vs cs)(x:jU H v c):Cel H (vs++[v]) (cs++[c]):=Paired.snoc h x
def Cel.append {H:Hp}{vs b:AE}{cs a:AB}(h:Cel H vs cs)(k:Cel H b a):Cel H (vs++b) (cs++a):=zcd h k
def Cel.into {H:Hp}(z:Addr)(o:HO){b:AE}(hz:H z=some (.lst b)){vs:AE}{cs:AB}(c:Cel H vs cs):Cel (upd H z o) vs cs:=by
 induction c with
 | nil=>exact .nil
 | cons q _ d =>
  obtain⟨a,e,h⟩:=q;exact .cons ⟨a,e,by rw[zj (zdy h hz (by intro y;cases y))];exact h⟩ d
theorem Cel.length {H:Hp}{vs:AE}{cs:AB}(h:Cel H vs cs):vs.length=cs.length:=Paired.length h
theorem Cel.get {H:Hp}:∀{vs:AE} {cs:AB} {i:Nat} {v:V},Cel H vs cs->vs[i]?=some v->∃c,cs[i]?=some c/\jU H v c
 | _,_,_,_,.nil,e=>by simp at e
 | _,_,0,_,.cons r _,e=>by
  simp at e;subst e;exact⟨_,rfl,r⟩
 | _,_,i+1,v,.cons _ t,e=>by
  obtain⟨c,h1,h2⟩:=Cel.get (i:=i) (v:=v) t (by simpa using e);exact⟨c,by simpa using h1,h2⟩
def zk (c:AA):We:=.tuple [.int (c.1:Nat),.int (c.2:Nat)]
def jU.rdv {K:XS}{H:Hp}{v:V}{c:AA}(h:jU H v c):Rdv K H v (zk c):=by
 obtain⟨a,rfl,h⟩:=h;exact .tup (SqT.of h) (.cons (.int _) (.cons (.int _) .nil))
def zd1 (c d:AA):zjp (zk c) (zk d):=⟨rfl,rfl,by show max 0 (max 0 0)+1<=64;decide⟩
def Qs (c d:AA):WW (zk c) (zk d)=decide (c=d):=by
 obtain⟨a,b⟩:=c;obtain⟨x,y⟩:=d;show ((((a:Nat):Int)==((x:Nat):Int))&&((((b:Nat):Int)==((y:Nat):Int))&&true))=decide ((a,b)=(x,y));by_cases h1:a=x
 .by_cases h2:b=y
  .subst h1 h2;simp
  .have:¬ ((b:Int)=(y:Int)):=by lia
   simp[h2,this]
 .have:¬ ((a:Int)=(x:Int)):=by lia
  simp[h1,this]
def zcF (c k:Nat):(V.str ⟨#[c]⟩=V.str ⟨#[k]⟩)=(c=k):=by
 apply propext;constructor
 .intro h;have h2:(⟨#[c]⟩:Str)=⟨#[k]⟩:=V.str.inj h;have a:(#[c]:Array Nat)=#[k]:=congrArg Str.cps h2;simpa using a
 .rintro rfl;rfl
def Ze:("#":Str)=⟨#[35]⟩:=by decide+kernel
def zeO:("?":Str)=⟨#[63]⟩:=by decide+kernel
def qp (c:Nat):Bool:=!decide (c=35)
def x9 (c:Nat):Bool:=decide (c=63)
def yT (c:Nat):Bool:=qp c && !decide (c=63)
def zpS:Sp:=λb H Q _=>∃(p l c:Addr) (a:AD) (n:Int) (i j:Nat) (t:Str) (k:Nat),b=[.ref p,.ref c]/\qj H p l a n/\H c=some (.tup [.int (i:Nat),.int (j:Nat)])/\a[i]?=some t/\t.cps.toList[j]?=some k/\t.length<=Xv/\Q (.str ⟨#[k]⟩) H
def zeP (p:Nat->Bool):Sp:=λf H Q _=>∃(a l:Addr) (c:AD) (n:Int),f=[.ref a]/\qj H a l c n/\Rows bd.cps.toList c /\
 ∀(d:Addr) (e:AE) (b:Hp),H d=none->b d=some (.lst e)->Cel b e (Cells.zC p 0 (codes c))->zo H b->Q (.ref d) b
def zlH:Sp:=λb H Q _=>∃(p l c:Addr) (a:AD) (n:Int) (i j:Nat) (t:Str) (k:Nat),b=[.ref p,.ref c]/\qj H p l a n/\H c=some (.tup [.int (i:Nat),.int (j:Nat)])/\a[i]?=some t/\t.cps.toList[j]?=some k/\t.length<=Xv/\48<=k/\k<=56/\Q (.int ((k:Int)-48)) H
def int_sign {k:Nat}(h1:48<=k)(h2:k<=56):Py ⟨#[k]⟩=some ((k:Int)-48):=by
 have:∀k∈WC 57,48<=k->Py ⟨#[k]⟩=some ((k:Int)-48):=by decide+kernel
 exact this k (Ww.mpr (by lia)) h1
def zhw:zD ["board","cell"] ["board","cell"] (zp qF):=bh
def Ym (D:zm K mg "sign_at" qF ["board","cell"] f fd):qc P w K mg base CX0 1 f fd ["board","cell"] zpS:=by
 refine D.F.ok zhw (λu H Q E h=>?_) (λe A a s H u Q E x h=>?_)
 .revert h;refine fL λp l c r n i j t k z0 _=>?_;subst z0;rfl
 .revert h;refine eE λp l c r n i j t=>fj λk z0 b d g=>eN λm o q=>?_;subst z0;refine⟨_,(zf (zx (zv zeN (zv qS (zv qb (pvS 0) zg (λ_ _=>rfl)) (zv qb (pvS 1) zg (λ_ _=>rfl)) (λ_ _=>rfl)) (zv qb (pvS 1) zg (λ_ _=>rfl)) (λ_ _=>rfl)))),?_⟩;(try dsimp only[cxK,cxP,cxW]);exact⟨_,rfl,p,_,0,_,rfl,rfl,SqT.of b.tp,rfl,_,rfl,c,_,0,_,rfl,rfl,SqT.of d,rfl,l,_,_,_,rfl,rfl,SqL.of b.rw,qi (v:=V.str t) (by rw[XB,g];rfl),_,rfl,c,_,1,_,rfl,rfl,SqT.of d,rfl,t,_,k,rfl,rfl,o,qi m,q⟩
def Zl:zD ["board","found","row","text"] ["board"] (zp qE):=bh
def zbu (T:Txt mg)(D:zm K mg "cells_of" qE ["board"] f fd):qc P w K mg base CX0 1 f fd ["board"] (zeP qp):=by
 refine D.F.ok Zl (λvs H Q E h=>?_) (λak A aj s H vs Q E hr h=>?_)
 .revert h;refine e9 λa l rs n z0 _=>?_;subst z0;rfl
 .revert h;refine eX λa l rs n z0 b R q=>?_;subst z0;refine⟨_,(@ze _ _ _ _ _ (@qh _ _ 1 _ _ _ _ Zl.nd rfl (V2 rfl) (@zO _ _ _ _ zd) (by rfl) (.inr rfl)) (ze (qx Xc rfl (JN (by rfl) T.jr (za (zv qb (pvS 0) zg (λ_ _=>rfl)) zd)) (jO rfl (zE (pgq 2 Zl.nd) (zE (pgq 3 Zl.nd) qT))) (zf (jj (yH W7 VF VE JD (pvS 1) (za (pcm ["column","sign","row"] [none,none,some 2] cR (zft (by rfl) T.jr (za (pvS 3) zd)) (zex (n:=2) (K:=K) (by rfl) rfl (zE (pgN 0) (zE (pgN 1) qT))) (zU (zI zdA (pvS 1) (Jl (v:=.str "#") (by rfl) T.YY.choose_spec (by exact⟨_,rfl⟩)) (zT _))) (ql (za (pvS 2) (za (pvS 0) zd)))) zd))))) (zf (zx (pvS 1))))),?_⟩;(try dsimp only[cxK,cxP,cxW]);refine⟨jR,λd hd=>?_⟩;have s0:zo H (upd H d (.lst [])):=zc hd;refine⟨_,rfl,a,_,0,_,rfl,rfl,SqT.of (b.mono s0).tp,rfl,l,rfl,⟨_,SqL.of (b.mono s0).rw⟩,?_⟩;refine JE (K:=K) (l:=l) (xs:=rs.map V.str) (λi O J=>∃(v2 v3:Option V) (G:AE),O=[some (.ref a),some (.ref d),v2,v3]/\zo H J/\J d=some (.lst G)/\Cel J G (Cells.zC qp 0 ((codes rs).take i)))
   (cI (dG [] rfl s0 zb (.nil))) (λi O J _ ⟨_,_,_,_,s1,_⟩=>SqL.of (b.mono s1).rw) ?_ ?_
  .refine λi x tt O H1 hx ah=>eU λv2 v3 G z0 s1 U B=>?_;subst z0;rw[XB]at hx;cases e:rs[i]? with
   | none =>
    rw[e]at hx;cases hx
   | some t =>
    rw[e]at hx;cases hx;have al:i<rs.length:=(XX.mp e).1;have st:zo H1 (upd H1 tt (.tup [.int (i:Nat),.str t])):=zc ah;refine di tt rfl (SqT.of zb) rfl rfl rfl rfl ?_;have Y:upd H1 tt (.tup [.int (i:Nat),.str t]) d=some (.lst G):=st _ _ U;refine⟨_,rfl,.inl ⟨rfl,_,SqL.of Y⟩,_,rfl,t,rfl,λz hz=>?_⟩;refine zcc (x:=t) (λj O J=>∃(u0 u1:Option V) (r:AE),O=[u0,u1,some (.int (i:Nat))]/\zo (upd H1 tt (.tup [.int (i:Nat),.str t])) J/\J z=some (.lst r)/\Cel J r (Cells.zW qp i 0 (t.cps.toList.take j)))
     (cI (dG [] rfl (zc hz) zb (.nil))) ?_ ?_
    .refine λj c t2 O L hc ag=>eU λu0 u1 r z0 s2 m g=>?_;subst z0;refine di t2 rfl (SqT.of zb) rfl rfl rfl rfl ?_;refine⟨_,rfl,rfl,_,rfl,?_⟩;have af:t.cps.toList[j]?=some c:=by rw[XA];exact hc
     have M:zo L (upd L t2 (.tup [.int (j:Nat),.str ⟨#[c]⟩])):=zc ag;have step:=Cells.Yd (p:=qp) (i:=i) af;have ed:(!decide (V.str ⟨#[c]⟩=V.str "#"))=qp c:=by
      rw[Ze];simp only[zcF];rfl
     rw[ed];by_cases hp:qp c=true
     .rw[hp]at step;refine qQ hp ?_;refine⟨_,rfl,_,rfl,yD,λN ae=>?_⟩;have ai:z≠N:=zh (M _ _ m) ae;have s4:zo (upd L t2 (.tup [.int (j:Nat),.str ⟨#[c]⟩])) (upd (upd L t2 (.tup [.int (j:Nat),.str ⟨#[c]⟩])) N (.tup [.int (i:Nat),.int (j:Nat)])):=zc ae;have ab:r.length<=8:=by
       rw[g.length];refine X6 (Cells.jD _ _ _ _) ?_;have:=R.short _ (X8 (qG e));rw[XJ];lia
      refine cK r (s4 _ _ (M _ _ m)) (XE ab (by decide)) (dD (some (.int (j:Nat))) (some (.str ⟨#[c]⟩)) (r++[.ref N]) rfl (λb' o I=>?_) zb ?_)
      .have hb:b'≠z:=λy=>by
        subst y;rw[hz]at I;cases I
       rw[zj hb];exact s4 _ _ (M _ _ (s2 _ _ I))
      .rw[step];have keep:∀x o,x≠z->upd (upd L t2 (.tup [.int (j:Nat),.str ⟨#[c]⟩])) N (.tup [.int (i:Nat),.int (j:Nat)]) x=some o->upd (upd (upd L t2 (.tup [.int (j:Nat),.str ⟨#[c]⟩])) N (.tup [.int (i:Nat),.int (j:Nat)])) z (.lst (r++[.ref N])) x=some o:=λx o hx I=>by
        rw[zj hx];exact I
       refine Cel.snoc ?_ ⟨N,rfl,keep _ _ ai.symm zb⟩;exact Cel.into z (.lst (r++[.ref N])) (s4 _ _ (M _ _ m)) (Cel.mono s4 (Cel.mono M g))
     .have ac:qp c=false:=by simpa using hp
      rw[ac]at step;refine qu ac ?_;refine dD (some (.int (j:Nat))) (some (.str ⟨#[c]⟩)) r rfl (s2.trans M) (M _ _ m) ?_;rw[step];simpa using Cel.mono M g
    .refine λO L=>eU λu0 u1 r z0 s2 m g=>?_;subst z0;have am:d≠z:=zh Y hz;have aa:L d=some (.lst G):=s2 _ _ Y;have full:t.cps.toList.take t.cps.size=t.cps.toList:=by
      rw[<- XZ,XF]
     rw[full]at g;have step:=Cells.Ye (p:=qp) (qG e);have l1:G.length<=64:=by
      rw[B.length];refine X6 (Cells.qV _ _ _ λu hu=>R.short u (Wc hu)) ?_;have:=R.hi;rw[XJ,jc];lia
     have l2:r.length<=8:=by
      rw[g.length];exact X6 (Cells.jD _ _ _ _) (R.short _ (X8 (qG e)))
     refine cL d z G r (cQ rfl rfl aa m (X6 (Nat.add_le_add l1 l2) (by decide)) ?_);refine cI (dG (G++r) rfl (λb' o I=>?_) zb ?_)
     .have hb:b'≠d:=λy=>by
       subst y;rw[hd]at I;cases I
      rw[zj hb];exact s2 _ _ (st _ _ (s1 _ _ I))
     .rw[step];exact Cel.into d _ aa (Cel.append (Cel.mono s2 (Cel.mono st B)) g)
  .refine λO H1=>eU λv2 v3 G z0 s1 U B=>?_;subst z0;rw[ZB,<- jc,XF]at B;exact⟨_,rfl,q d G H1 hd U B s1⟩
def znG (c:Nat):(qp c&&decide (c=63))=x9 c:=by
 unfold qp x9;by_cases h:c=63
 .subst h;rfl
 .simp[h]
def zj1:zD ["board"] ["board"] (zp ZG):=bh
def zd2 {f1 f2:Addr}{aa ab:XC}(T:Txt mg)(D:zm K mg "closed" ZG ["board"] f fd)(zG:zm K mg "cells_of" qE ["board"] f1 aa)(zu:zm K mg "sign_at" qF ["board","cell"] f2 ab) :
  qc P w K mg base CX0 2 f fd ["board"] (zeP x9):=by
 refine D.F.ok zj1 (λvs H Q E h=>?_) (λaf A ae s H vs Q E hr h=>?_)
 .revert h;refine e9 λa l g n z0 _=>?_;subst z0;rfl
 .revert h;refine eX λa l g n z0 b R q=>?_;subst z0;refine⟨_,(zf (zx (pcm ["cell","board"] [none,some 0] cR (zw (pc0 (zbu T zG) hr zG (za (pvS 0) zd))) (pgN 0) (zU (zI YI (pc0 (Ym zu) hr zu (za (pvS 1) (za (pvS 0) zd))) (Jl (v:=.str "?") (by rfl) T.Zt.choose_spec (by exact⟨_,rfl⟩)) (zT _))) (pvS 0)))),?_⟩;(try dsimp only[cxK,cxP,cxW]);refine⟨_,rfl,a,l,g,n,rfl,b,R,λd ws H1 hd G I s1=>⟨d,rfl,⟨_,SqL.of G⟩,λz Y=>?_⟩⟩;have nz:d≠z:=zh G Y;refine qN (K:=K) (a:=d) (xs:=ws) (λi σ O=>∃(u0:Option V) (r:AE),σ=[u0,some (.ref a)]/\zo H1 O/\O z=some (.lst r)/\Cel O r (((Cells.zC qp 0 (codes g)).take i).filter λx=>decide (Cells.sgn (codes g) x=63)))
   (dz [] rfl (zc Y) zb (.nil)) (λi σ O _ ⟨_,_,_,B,_⟩=>SqL.of (B _ _ G)) ?_ ?_
  .refine λi x σ H2 hx=>d8 λu0 r z0 B m e=>?_;subst z0;refine eW (λc L ca z0 J=>?_) (Cel.get (Cel.mono B I) hx);subst z0;refine eX (λk0 j u k ec M hj ag=>?_) (Cells.jK (X8 L));obtain⟨t,ht,rfl⟩:=Qq M;rw[Wa]at ec;subst ec;refine⟨_,rfl,_,rfl,a,l,ca,g,n,k0,j,t,k,rfl,(b.mono s1).mono B,J,ht,hj,R.tlen ht,rfl,_,rfl,?_⟩;have es:Cells.sgn (codes g) (k0,j)=k:=Cells.QY M hj;have step:((Cells.zC qp 0 (codes g)).take (i+1)).filter (λx=>decide (Cells.sgn (codes g) x=63))=((Cells.zC qp 0 (codes g)).take i).filter (λx=>decide (Cells.sgn (codes g) x=63))++(if decide (k=63)=true then [(k0,j)] else []):=by
    rw[Xb,L,WZ];congr 1;show List.filter _ [(k0,j)]=_;rw[WJ];try dsimp only
    rw[es];split<;>rfl
   have ed:decide (V.str ⟨#[k]⟩=V.str "?")=decide (k=63):=by
    rw[zeO];simp only[zcF]
   rw[ed];by_cases U:decide (k=63)=true
   .rw[bw U]at step;refine qQ U ?_;have N:r.length<=64:=by
     rw[e.length];refine X6 (Xw _ _) ?_;rw[XJ];have h1:=Cells.qV qp 0 (codes g) R.short;have h2:=R.hi;rw[jc]at h1;lia
    refine⟨_,rfl,r,m,XE N (by decide),_,r++[.ref ca],rfl,λb' o e'=>?_,zb,?_⟩
    .have hb:b'≠z:=λy=>by
      subst y;rw[Y]at e';cases e'
     rw[zj hb];exact B _ _ e'
    .rw[step];exact Cel.into z _ m (Cel.snoc e ⟨ca,rfl,J⟩)
   .rw[bq U]at step;refine qu (by simpa using U) ?_;refine dz r rfl B m ?_;rw[step];simpa using e
  .refine λσ H2=>d8 λu0 r z0 B m e=>?_;subst z0;rw[I.length,XF,Cells.all_filter (p:=qp) (q:=λk=>decide (k=63)) (codes g)]at e;have ac:H z=none:=s1.free Y;exact q z r H2 ac m (by rw[Cells.Zg (q:=x9) znG]at e;exact e) (s1.trans B)
def zdj:zD ["board"] ["board"] (zp qL):=bh
def yc {f1 f2:Addr}{aa ab:XC}(T:Txt mg)(D:zm K mg "open_cells" qL ["board"] f fd)(zG:zm K mg "cells_of" qE ["board"] f1 aa)(zu:zm K mg "sign_at" qF ["board","cell"] f2 ab) :
  qc P w K mg base CX0 2 f fd ["board"] (zeP yT):=by
 refine D.F.ok zdj (λvs H Q E h=>?_) (λaf A ae s H vs Q E hr h=>?_)
 .revert h;refine e9 λa l g n z0 _=>?_;subst z0;rfl
 .revert h;refine eX λa l g n z0 b R q=>?_;subst z0;refine⟨_,(zf (zx (pcm ["cell","board"] [none,some 0] cR (zw (pc0 (zbu T zG) hr zG (za (pvS 0) zd))) (pgN 0) (zU (zI zdA (pc0 (Ym zu) hr zu (za (pvS 1) (za (pvS 0) zd))) (Jl (v:=.str "?") (by rfl) T.Zt.choose_spec (by exact⟨_,rfl⟩)) (zT _))) (pvS 0)))),?_⟩;(try dsimp only[cxK,cxP,cxW]);refine⟨_,rfl,a,l,g,n,rfl,b,R,λd ws H1 hd G I s1=>⟨d,rfl,⟨_,SqL.of G⟩,λz Y=>?_⟩⟩;have nz:d≠z:=zh G Y;refine qN (K:=K) (a:=d) (xs:=ws) (λi σ O=>∃(u0:Option V) (r:AE),σ=[u0,some (.ref a)]/\zo H1 O/\O z=some (.lst r)/\Cel O r (((Cells.zC qp 0 (codes g)).take i).filter λx=>!decide (Cells.sgn (codes g) x=63)))
   (dz [] rfl (zc Y) zb (.nil)) (λi σ O _ ⟨_,_,_,B,_⟩=>SqL.of (B _ _ G)) ?_ ?_
  .refine λi x σ H2 hx=>d8 λu0 r z0 B m e=>?_;subst z0;refine eW (λc L ca z0 J=>?_) (Cel.get (Cel.mono B I) hx);subst z0;refine eX (λk0 j u k ec M hj ag=>?_) (Cells.jK (X8 L));obtain⟨t,ht,rfl⟩:=Qq M;rw[Wa]at ec;subst ec;refine⟨_,rfl,_,rfl,a,l,ca,g,n,k0,j,t,k,rfl,(b.mono s1).mono B,J,ht,hj,R.tlen ht,rfl,_,rfl,?_⟩;have es:Cells.sgn (codes g) (k0,j)=k:=Cells.QY M hj;have step:((Cells.zC qp 0 (codes g)).take (i+1)).filter (λx=>!decide (Cells.sgn (codes g) x=63))=((Cells.zC qp 0 (codes g)).take i).filter (λx=>!decide (Cells.sgn (codes g) x=63))++(if (!decide (k=63))=true then [(k0,j)] else []):=by
    rw[Xb,L,WZ];congr 1;show List.filter _ [(k0,j)]=_;rw[WJ];try dsimp only
    rw[es];split<;>rfl
   have ed:(!decide (V.str ⟨#[k]⟩=V.str "?"))=(!decide (k=63)):=by
    rw[zeO];simp only[zcF]
   rw[ed];by_cases U:(!decide (k=63))=true
   .rw[bw U]at step;refine qQ U ?_;have N:r.length<=64:=by
     rw[e.length];refine X6 (Xw _ _) ?_;rw[XJ];have h1:=Cells.qV qp 0 (codes g) R.short;have h2:=R.hi;rw[jc]at h1;lia
    refine⟨_,rfl,r,m,XE N (by decide),_,r++[.ref ca],rfl,λb' o e'=>?_,zb,?_⟩
    .have hb:b'≠z:=λy=>by
      subst y;rw[Y]at e';cases e'
     rw[zj hb];exact B _ _ e'
    .rw[step];exact Cel.into z _ m (Cel.snoc e ⟨ca,rfl,J⟩)
   .rw[bq U]at step;refine qu (by simpa using U) ?_;refine dz r rfl B m ?_;rw[step];simpa using e
  .refine λσ H2=>d8 λu0 r z0 B m e=>?_;subst z0;rw[I.length,XF,Cells.all_filter (p:=qp) (q:=λk=>(!decide (k=63))) (codes g)]at e;have ac:H z=none:=s1.free Y;exact q z r H2 ac m e (s1.trans B)
def zeQ:zD ["board","cell"] ["board","cell"] (zp jB):=bh
def Yn {o:Addr}{a:XC}(T:Txt mg)(D:zm K mg "number_at" jB ["board","cell"] f fd)(g:zm K mg "sign_at" qF ["board","cell"] o a):qc P w K mg base CX0 2 f fd ["board","cell"] zlH:=by
 refine D.F.ok zeQ (λG H Q E h=>?_) (λm A d s H G Q E y h=>?_)
 .revert h;refine fL λp l c e n i j t k z0 _=>?_;subst z0;rfl
 .revert h;refine eE λp l c e n i j t=>fj λk z0 b r u=>eY λv x z B q=>?_;subst z0;refine⟨_,(zf (zx (pt1 zao T.zlD SM (pc0 (Ym g) y g (za (pvS 0) (za (pvS 1) zd)))))),?_⟩;(try dsimp only[cxK,cxP,cxW]);exact⟨_,rfl,_,rfl,p,l,c,e,n,i,j,t,k,rfl,b,r,u,v,x,⟨#[k]⟩,_,rfl,int_sign z B,(by show 1<=640;decide),q⟩
def Qt {k:Nat}(h:k∈bd.cps.toList)(a:yT k=true):48<=k/\k<=56:=by
 have:∀k∈bd.cps.toList,yT k=true->48<=k/\k<=56:=by decide+kernel
 exact this k h a
def Rows.openAt {rs:AD}(R:Rows bd.cps.toList rs){p:Nat->Bool}{c:AA}(h:c∈Cells.zC p 0 (codes rs)):∃t k,rs[c.1]?=some t/\t.cps.toList[c.2]?=some k/\p k=true/\k∈bd.cps.toList/\t.length<=Xv:=by
 refine eX (λg j u k e a f b=>?_) (Cells.jK h);obtain⟨t,d,rfl⟩:=Qq a;rw[Wa]at e;subst e;obtain⟨n,_,_,q⟩:=R.ex;exact⟨t,k,d,f,b,(q t (X8 d)).mem k (X8 f),R.tlen d⟩
def zP (rs:AD)(y:AA):AB:=(Cells.zC qp 0 (codes rs)).filter λx=>Cells.near x y
def zlI:Sp:=λf H Q _=>∃(p l c:Addr) (b:AD) (n:Int) (i j:Nat),f=[.ref p,.ref c]/\qj H p l b n/\Rows bd.cps.toList b/\H c=some (.tup [.int (i:Nat),.int (j:Nat)])/\i<64/\j<64 /\
 ∀(d:Addr) (e:AE) (a:Hp),H d=none->a d=some (.lst e)->Cel a e (zP b (i,j))->zo H a->Q (.ref d) a
def zf5 (i:Nat):(if (0:Int)>(i:Int)-1 then (0:Int) else (i:Int)-1)=((i-1:Nat):Int):=by
 split<;>lia
def zf6 (i m:Nat):(if ((m:Nat):Int)<(i:Int)+2 then ((m:Nat):Int) else (i:Int)+2)=((min (i+2) m:Nat):Int):=by
 split<;>lia
def zf7 {f:AA->Bool}{l:AB}{x:AA}(a:Bool):(l++(if a=true then [x] else [])).filter f=l.filter f++(if (a&&f x)=true then [x] else []):=by
 rw[WZ];congr 1;by_cases h:a=true
 .by_cases h2:f x=true
  .simp[h,h2]
  .simp[h,h2]
 .simp[h]
def ZJ:zD ["board","cell","rows","found","row","column"] ["board","cell"] (zp jJ):=bh
def Qu (T:Txt mg)(D:zm K mg "around" jJ ["board","cell"] f fd):qc P w K mg base CX0 1 f fd ["board","cell"] zlI:=by
 refine D.F.ok ZJ (λvs H Q E h=>?_) (λav A aq s H vs Q E hr h=>?_)
 .revert h;refine fC λp l M e n i j z0 _=>?_;subst z0;rfl
 .revert h;refine fG λp l M e n i j z0 b R B=>eN λar au q=>?_;subst z0;refine⟨_,(ze (jf 2 ZJ.nd (zv qb (pvS 0) zg (λ_ _=>rfl))) (@ze _ _ _ _ _ (@qh _ _ 3 _ _ _ _ ZJ.nd rfl (V2 rfl) (@zO _ _ _ _ zd) (by rfl) (.inr rfl)) (ze (qx Xc rfl (za2 (by rfl) T.j4 (za (pb2 (zdB rfl) T.zlF SL (zK yM (zv qb (pvS 1) zg (λ_ _=>rfl)) zg) zg) (za (pb2 (Qk rfl) T.zf4 UU (zK Jp (zv qb (pvS 1) zg (λ_ _=>rfl)) zg) (pb1 zB T.qK Xj (pvS 2))) zd))) (pgq 4 ZJ.nd) (zf (qx Xc rfl (za2 (by rfl) T.j4 (za (pb2 (zdB rfl) T.zlF SL (zK yM (zv qb (pvS 1) zg (λ_ _=>rfl)) zg) zg) (za (pb2 (Qk rfl) T.zf4 UU (zK Jp (zv qb (pvS 1) zg (λ_ _=>rfl)) zg) (pb1 zal T.qK Xj (zv qS (pvS 2) (pvS 4) (λ_ _=>rfl)))) zd))) (pgq 5 ZJ.nd) (zf (qJ (PW.pt (za1 (zI zdA (zv zeN (zv qS (pvS 2) (pvS 4) (λ_ _=>rfl)) (pvS 5) (λ_ _=>rfl)) (Jl (v:=.str "#") (by rfl) T.YY.choose_spec (by exact⟨_,rfl⟩)) (zT _)) (Qj (zI (jP hr.units) (ql (za (pvS 4) (za (pvS 5) zd))) (pvS 1) (zT _))))) (zf (jj (yH W7 WI WH yj (pvS 3) (za (ql (za (pvS 4) (za (pvS 5) zd))) zd)))) qa))))) (zf (zx (pvS 3)))))),?_⟩;(try dsimp only[cxK,cxP,cxW]);refine⟨_,rfl,p,_,0,_,rfl,rfl,SqT.of b.tp,rfl,?_⟩;refine⟨jR,λd hd=>?_⟩;have s0:zo H (upd H d (.lst [])):=zc hd;have r8:=R.hi;refine⟨_,rfl,M,_,0,_,rfl,rfl,SqT.of (s0 _ _ B),rfl,_,_,rfl,rfl,_,_,rfl,_,rfl,M,_,0,_,rfl,rfl,SqT.of (s0 _ _ B),rfl,_,_,rfl,rfl,_,rfl,l,_,rfl,.inl (SqL.of (b.mono s0).rw),_,_,rfl,((i-1:Nat):Int),((min (i+2) e.length:Nat):Int),?_,⟨by lia,by lia,by lia,by lia⟩,?_⟩
  .show [V.int (if (0:Int)>(i:Int)-1 then (0:Int) else (i:Int)-1),V.int (if (((e.map V.str).length:Nat):Int)<(i:Int)+2 then (((e.map V.str).length:Nat):Int) else (i:Int)+2)]=_;rw[ZB,zf5,zf6]
  refine ja (lo:=((i-1:Nat):Int)) (λk σ O=>∃(v4 v5:Option V) (L:AE),σ=[some (.ref p),some (.ref M),some (.ref l),some (.ref d),v4,v5]/\zo H O/\O d=some (.lst L)/\Cel O L ((Cells.zC qp 0 ((codes e).take (i-1+k))).filter λx=>Cells.near x (i,j)))
   (cI (dG [] rfl s0 zb ?_)) ?_ ?_
  .rw[Cells.zlr]
   .exact .nil
   .intro r c al;rw[XO,ne_eq,Cells.yN];rintro⟨⟨_,h2⟩,_⟩;dsimp only at h2;lia
  .refine λk σ H1 hk=>eU λv4 v5 L z0 s1 Y J=>?_;subst z0;have am:i-1+k<e.length:=by lia
   have U:((i-1:Nat):Int)+(k:Nat)=((i-1+k:Nat):Int):=by lia
   rw[U];generalize ay:i-1+k=r at *
   obtain⟨t,ht⟩:∃t,e[r]?=some t:=⟨_,XY am⟩;have ai:t.length<=Xv:=R.tlen ht;have a1:t.cps.toList.length<=8:=R.short _ (X8 (qG ht));have ab:atI (e.map V.str) ((r:Nat):Int)=some (V.str t):=qi (by rw[XB,ht];rfl);refine⟨_,rfl,M,_,1,_,rfl,rfl,SqT.of (s1 _ _ B),rfl,_,_,rfl,rfl,_,_,rfl,_,rfl,M,_,1,_,rfl,rfl,SqT.of (s1 _ _ B),rfl,_,_,rfl,rfl,_,rfl,_,rfl,l,_,_,_,rfl,rfl,SqL.of (b.mono s1).rw,ab,t,rfl,ai,_,_,rfl,((j-1:Nat):Int),((min (j+2) t.cps.size:Nat):Int),?_,⟨by lia,by lia,by lia,?_⟩,?_⟩
   .show [V.int (if (0:Int)>(j:Int)-1 then (0:Int) else (j:Int)-1),V.int (if ((t.cps.size:Nat):Int)<(j:Int)+2 then ((t.cps.size:Nat):Int) else (j:Int)+2)]=_;rw[zf5,zf6]
   .lia
   have az:t.cps.toList.length=t.cps.size:=XZ;refine ja (lo:=((j-1:Nat):Int)) (λm σ O=>∃(v5:Option V) (L:AE),σ=[some (.ref p),some (.ref M),some (.ref l),some (.ref d),some (.int (r:Nat)),v5]/\zo H O/\O d=some (.lst L)/\Cel O L ((Cells.zC qp 0 ((codes e).take r)).filter (λx=>Cells.near x (i,j))++(Cells.zW qp r 0 (t.cps.toList.take (j-1+m))).filter λx=>Cells.near x (i,j)))
    (dz L rfl s1 Y ?_) ?_ ?_
   .rw[Cells.zls (t:=t.cps.toList),Xu]
    .exact J
    .intro c aj;rw[XO,ne_eq,Cells.yN];rintro⟨_,⟨_,h2⟩,_⟩;dsimp only at h2;lia
   .refine λm σ H2 hm=>d8 λv5 y z0 s2 G g=>?_;subst z0;have ax:j-1+m<t.cps.size:=by lia
    have I:((j-1:Nat):Int)+(m:Nat)=((j-1+m:Nat):Int):=by lia
    rw[I];generalize aw:j-1+m=c at *
    have z:j-1+(m+1)=c+1:=by lia
    obtain⟨N,af⟩:∃N,t.cps.toList[c]?=some N:=⟨_,XY (by lia)⟩;have step:=Cells.Yd (p:=qp) (i:=r) af;have a:(Cells.zW qp r 0 (t.cps.toList.take (c+1))).filter (λx=>Cells.near x (i,j))=(Cells.zW qp r 0 (t.cps.toList.take c)).filter (λx=>Cells.near x (i,j))++(if (qp N&&Cells.near (r,c) (i,j))=true then [(r,c)] else []):=by
     rw[step,zf7]
    have nr:Cells.near (r,c) (i,j)=!decide ((r,c)=(i,j)):=by
     rw[WQ,Cells.yN];simp only[WF,decide_eq_false_iff_not];constructor
     .exact λh=>h.2.2
     .intro h;refine⟨⟨?_,?_⟩,⟨?_,?_⟩,h⟩<;>(try dsimp only)<;>lia
    refine⟨_,rfl,_,rfl,l,_,_,_,rfl,rfl,SqL.of (b.mono s2).rw,ab,_,rfl,t,_,N,rfl,rfl,ai,qi af,rfl,_,rfl,?_⟩;have ed:(!decide (V.str ⟨#[N]⟩=V.str "#"))=qp N:=by
     rw[Ze];simp only[zcF];rfl
    rw[ed];by_cases hp:qp N=true
    .refine qQ hp ?_;refine⟨_,rfl,_,rfl,yD,λtp an=>?_⟩;have s3:zo H2 (upd H2 tp (.tup [.int (r:Nat),.int (c:Nat)])):=zc an;have ae:=s3 _ _ (s2 _ _ B);refine⟨_,rfl,_,_,jU.rdv (c:=(r,c)) ⟨tp,rfl,zb⟩,jU.rdv (c:=(i,j)) ⟨M,rfl,ae⟩,zd1 _ _,_,rfl,?_⟩;have ee:(if true=true then !PyData.eqv (zk (r,c)) (zk (i,j)) else WW (zk (r,c)) (zk (i,j)))=Cells.near (r,c) (i,j):=by
      rw[Qs,nr];rfl
     rw[ee];rw[hp,Bool.true_and]at a;by_cases hn:Cells.near (r,c) (i,j)=true
     .refine qQ hn ?_;rw[bw hn]at a;have aa:=s3 _ _ G;refine⟨_,rfl,.inl ⟨rfl,_,SqL.of aa⟩,_,rfl,_,rfl,yD,λtq ao=>?_⟩;have s4:zo (upd H2 tp (.tup [.int (r:Nat),.int (c:Nat)])) (upd (upd H2 tp (.tup [.int (r:Nat),.int (c:Nat)])) tq (.tup [.int (r:Nat),.int (c:Nat)])):=zc ao;have ag:y.length<=128:=by
       rw[g.length,X4];have h1:=Xw (λx=>Cells.near x (i,j)) (Cells.zC qp 0 ((codes e).take r));have h2:=Xw (λx=>Cells.near x (i,j)) (Cells.zW qp r 0 (t.cps.toList.take c));have h3:=Cells.qV qp 0 ((codes e).take r) λu hu=>R.short u (Wc hu);have h4:=Cells.jD qp r 0 (t.cps.toList.take c);rw[XJ,jc]at h3;rw[XJ]at h4;lia
      refine⟨d,_,_,rfl,rfl,s4 _ _ aa,XE ag (by decide),?_⟩;refine dz (y++[.ref tq]) rfl (λb' o e'=>?_) zb ?_
      .rw[zj (zh e' hd)];exact s4 _ _ (s3 _ _ (s2 _ _ e'))
      .rw[z,a,<- W3];exact Cel.into d _ (s4 _ _ aa) (Cel.snoc (Cel.mono s4 (Cel.mono s3 g)) ⟨tq,rfl,zb⟩)
     .have ak:Cells.near (r,c) (i,j)=false:=by simpa using hn
      refine qu ak ?_;rw[bq hn,Xu]at a;refine dz y rfl (s2.trans s3) (s3 _ _ G) ?_;rw[z,a];exact Cel.mono s3 g
    .have ah:qp N=false:=by simpa using hp
     refine qu ah ?_;refine xX ?_;rw[ah,PB,bq XU,Xu]at a;refine dz y rfl s2 G ?_;rw[z,a];exact g
   .refine λσ H2=>d8 λv5 y z0 s2 G g=>?_;subst z0;refine cI (dG y rfl s2 G ?_);have full:(Cells.zW qp r 0 (t.cps.toList.take (j-1+(((min (j+2) t.cps.size:Nat):Int)-((j-1:Nat):Int)).toNat))).filter (λx=>Cells.near x (i,j))=(Cells.zW qp r 0 t.cps.toList).filter λx=>Cells.near x (i,j):=by
     by_cases ac:t.cps.size<=j-1+(((min (j+2) t.cps.size:Nat):Int)-((j-1:Nat):Int)).toNat
     .rw[WE (by lia)]
     .refine Cells.zjW λc aj=>?_;rw[XO,ne_eq,Cells.yN];rintro⟨_,⟨h2,_⟩,_⟩;dsimp only at h2;lia
    rw[full]at g;have e1:i-1+(k+1)=r+1:=by lia
    rw[e1,Cells.Ye (qG ht),WZ];exact g
  .refine λσ H1=>eU λv4 v5 L z0 s1 Y J=>?_;subst z0;have full:(Cells.zC qp 0 ((codes e).take (i-1+(((min (i+2) e.length:Nat):Int)-((i-1:Nat):Int)).toNat))).filter (λx=>Cells.near x (i,j))=zP e (i,j):=by
    by_cases ac:e.length<=i-1+(((min (i+2) e.length:Nat):Int)-((i-1:Nat):Int)).toNat
    .rw[WE (by rw[jc];lia)];rfl
    .refine Cells.zjV λr c al=>?_;rw[XO,ne_eq,Cells.yN];rintro⟨⟨h2,_⟩,_⟩;dsimp only at h2;lia
   rw[full]at J;exact⟨_,rfl,q d L H1 hd Y J s1⟩
def jU.rdn {N:Addr->Prop}{H:Hp}{v:V}{c:AA}(h:jU H v c):Rdn N H v (zk c):=by
 obtain⟨a,rfl,h⟩:=h;exact .tup h (.cons (.int _) (.cons (.int _) .nil))
theorem Cel.rdn {N:Addr->Prop}{H:Hp}{vs:AE}{cs:AB}(a:Cel H vs cs):zq N H vs (cs.map zk):=by
 induction a with
 | nil=>exact .nil
 | cons h _ b =>
  exact .cons (jU.rdn h) b
def Rdn.celR {N:Addr->Prop}{H:Hp}{v:V}{c:AA}(h:Rdn N H v (zk c)):jU H v c:=by
 cases h with
 | tup h t =>
  cases t with
  | cons a t =>
   cases a;cases t with
   | cons b t =>
    cases b;cases t;exact⟨_,rfl,h⟩
theorem zq.cel {N:Addr->Prop}{H:Hp}:∀{cs:AB} {vs:AE},zq N H vs (cs.map zk)->Cel H vs cs
 | [],_,h=>by cases h;exact .nil
 | c::r,_,h=>by
  cases h with
  | cons a t=>exact .cons (Rdn.celR a) (zq.cel t)
theorem zq.bools {N:Addr->Prop}{H:Hp}:∀{bs:List Bool} {vs:AE},zq N H vs (bs.map Tc)->vs=bs.map V.bl
 | [],_,h=>by cases h;rfl
 | b::r,_,h=>by
  cases h with
  | cons a t =>
   cases a;rw[zq.bools t];rfl
theorem zJ {α:Type}(p:α->Bool)(g:α->We):∀cs:List α,(cs.map λx=>if p x=true then some (g x) else none).filterMap id=(cs.filter p).map g
 | []=>rfl
 | c::r=>by
  rw[XD,Vb,WJ];by_cases h:p c=true
  .rw[bw h,bw h];show g c::_=g c::_;rw[zJ p g r]
  .rw[bq h,bq h];exact zJ p g r
theorem ZK {α:Type}(g:α->We):∀cs:List α,(cs.map λx=>some (g x)).filterMap id=cs.map g
 | []=>rfl
 | c::r=>by
  rw[XD,Vb];show g c::_=g c::_;rw[ZK g r]
def qt {α b:Type}{g:α->b}{cs:List α}{i:Nat}{c:α}{o:b}(h:cs[i]?=some c)(a:(cs.map g)[i]?=some o):o=g c:=by
 rw[XB,h]at a;exact(Option.some.inj a).symm
def clA (rs:AD)(c:AA):AB:=(zP rs c).filter λx=>decide (Cells.sgn (codes rs) x=63)
def zH (rs:AD):AB:=Cells.zC x9 0 (codes rs)
def zV (rs:AD):AB:=Cells.zC yT 0 (codes rs)
def zbL (rs:AD):AB:=(zH rs).filter λc=>!((zV rs).map λo=>(zP rs o).any λz=>decide (z=c)).any id
def YD (rs:AD):AB:=((zV rs).filter λo=>(clA rs o).isEmpty).filter λo=>!decide (Cells.sgn (codes rs) o=48)
def qO {p:Nat->Bool}{rs:AD}(R:Rows bd.cps.toList rs):(Cells.zC p 0 (codes rs)).length<=64:=by
 have h1:=Cells.qV p 0 (codes rs) R.short;have h2:=R.hi;rw[jc]at h1;lia
def Zu {rs:AD}(R:Rows bd.cps.toList rs)(c:AA):(zP rs c).length<=64:=X6 (Xw _ _) (qO R)
def zR {p:Nat->Bool}{rs:AD}{c:AA}(h:c∈Cells.zC p 0 (codes rs)):∃t k,rs[c.1]?=some t/\t.cps.toList[c.2]?=some k/\p k=true/\Cells.sgn (codes rs) c=k:=by
 refine eX (λg j u k d a e b=>?_) (Cells.jK h);obtain⟨t,f,rfl⟩:=Qq a;rw[Wa]at d;subst d;exact⟨t,k,f,e,b,Cells.QY a e⟩
def yk {rs:AD}{c:AA}{t:Str}{k:Nat}(R:Rows bd.cps.toList rs)(h1:rs[c.1]?=some t)(h2:t.cps.toList[c.2]?=some k):c.1<64/\c.2<64:=by
 have a:=(XX.mp h1).1;have b:=(XX.mp h2).1;have e:=R.hi;have f:=R.short _ (X8 (qG h1));lia
def ziD {rs:AD}{i j:Nat}{t:Str}{k:Nat}(R:Rows bd.cps.toList rs)(h1:rs[i]?=some t)(h2:t.cps.toList[j]?=some k):k∈bd.cps.toList:=by
 obtain⟨n,_,_,h⟩:=R.ex;exact(h t (X8 h1)).mem k (X8 h2)
def zoF:Sp:=λg H Q _=>∃(p l e:Addr) (b:AD) (n:Int) (c:AA),g=[.ref p,.ref e]/\qj H p l b n/\Rows bd.cps.toList b/\H e=some (.tup [.int (c.1:Nat),.int (c.2:Nat)])/\c.1<64/\c.2<64 /\
 ∀(d:Addr) (f:AE) (a:Hp),H d=none->a d=some (.lst f)->Cel a f (clA b c)->zo H a->Q (.ref d) a
def zoG (g:AD->AB):Sp:=λf H Q _=>∃(a l:Addr) (c:AD) (n:Int),f=[.ref a]/\qj H a l c n/\Rows bd.cps.toList c /\
 ∀(d:Addr) (e:AE) (b:Hp),H d=none->b d=some (.lst e)->Cel b e (g c)->zo H b->Q (.ref d) b
def zbc:zD ["board","cell"] ["board","cell"] (zp qR):=bh
def j5 {f1 f2:Addr}{I J:XC}(T:Txt mg)(D:zm K mg "closed_around" qR ["board","cell"] f fd)(zY:zm K mg "around" jJ ["board","cell"] f1 I)(zu:zm K mg "sign_at" qF ["board","cell"] f2 J) :
  qc P w K mg base CX0 2 f fd ["board","cell"] zoF:=by
 refine D.F.ok zbc (λvs H Q E h=>?_) (λaa A N s H vs Q E hr h=>?_)
 .revert h;refine eH λp l ca r=>eO λn c z0 _=>?_;subst z0;rfl
 .revert h;refine eH λp l ca r=>eK λn c z0 b R L=>eN λci cj q=>?_;subst z0;refine⟨_,(zf (zx (pcm ["place","board"] [none,some 0] cR (zw (pc0 (Qu T zY) hr zY (za (pvS 0) (za (pvS 1) zd)))) (pgN 0) (zU (zI YI (pc0 (Ym zu) hr zu (za (pvS 1) (za (pvS 0) zd))) (Jl (v:=.str "?") (by rfl) T.Zt.choose_spec (by exact⟨_,rfl⟩)) (zT _))) (pvS 0)))),?_⟩;(try dsimp only[cxK,cxP,cxW]);refine⟨_,rfl,_,rfl,p,l,ca,r,n,c.1,c.2,rfl,b,R,L,ci,cj,λd ws H1 hd i e s1=>⟨d,rfl,⟨_,SqL.of i⟩,λz hz=>?_⟩⟩;refine zM (K:=K) (a:=d) (xs:=ws) (λa=>a≠z) ((zP r c).map λx=>if decide (Cells.sgn (codes r) x=63)=true then some (zk x) else none) (fun σ=>∃u0,σ=[u0,some (.ref p)]) hz (λ_ h=>h) ⟨_,rfl⟩ (by rw[ZB];exact e.length.symm) (by rw[e.length];exact X6 (Zu R c) (by decide)) (SqL.of i) ?_ ?_
  .rintro k x o σ U hx ho u _ ⟨u0,rfl⟩ Y Z O no;obtain⟨y,hy,r1⟩:=Cel.get e hx;have g:=qt hy ho;refine d8 (λt G ht hj _ es=>?_) (zR (X5.mp (X8 hy)).1);obtain⟨ya,rfl,m⟩:=r1;refine⟨_,rfl,_,rfl,p,l,ya,r,n,y.1,y.2,t,G,rfl,(b.mono s1).mono u,u _ _ m,ht,hj,R.tlen ht,rfl,_,rfl,?_⟩;have ed:decide (V.str ⟨#[G]⟩=V.str "?")=decide (G=63):=by
    rw[zeO];simp only[zcF]
   rw[ed];rw[es]at g;by_cases B:G=63
   .rw[br B];rw[bw (br B)]at g;exact Z0 ⟨_,rfl,O _ _ _ _ g ⟨_,rfl⟩ (zo.refl _) (jU.rdn ⟨ya,rfl,u _ _ m⟩)⟩
   .rw[bf B];rw[bq (by rw[bf B];exact XU)]at g;exact xX (no _ _ g ⟨_,rfl⟩ (zo.refl _))
  .rintro ys U u M j;rw[zJ]at j;exact q z ys U (s1.free hz) M (zq.cel j) (s1.trans u)
def JY (cs:AB):V5 (cs.map zk)=true:=by
 induction cs with
 | nil=>rfl
 | cons c r a =>
  show (Uz (zk c)&&V5 (r.map zk))=true;rw[a];rfl
def zcG (cs:AB):VA (cs.map zk)<=1:=by
 induction cs with
 | nil=>exact W1 _
 | cons c r a =>
  show max (PyData.depth (zk c)) (VA (r.map zk))<=1;have:PyData.depth (zk c)=1:=rfl;lia
def YZ (cs a:AB):zjp (.list (cs.map zk)) (.list (a.map zk)):=⟨JY cs,JY a,by
 show VA (cs.map zk)+1<=64;have:=zcG cs;lia⟩
def xR (cs:AB)(c:AA):(cs.map zk).any (λz=>WW z (zk c))=cs.any λz=>decide (z=c):=by
 rw[Us];congr 1;funext z;exact Qs z c
def eq_nil (cs:AB):WW (.list (cs.map zk)) (.list [])=cs.isEmpty:=by
 cases cs<;>rfl
def zlJ:zD ["board","told"] ["board"] (zp ziB):=bh
def zpT {f1 f2 f3 f4 f5:Addr}{al am an ao aq:XC}(T:Txt mg)(D:zm K mg "far" ziB ["board"] f fd)(zY:zm K mg "around" jJ ["board","cell"] f1 al)(zu:zm K mg "sign_at" qF ["board","cell"] f2 am)
  (zG:zm K mg "cells_of" qE ["board"] f3 an) (yO:zm K mg "closed" ZG ["board"] f4 ao) (zF:zm K mg "open_cells" qL ["board"] f5 aq):qc P w K mg base CX0 3 f fd ["board"] (zoG zbL):=by
 refine D.F.ok zlJ (λvs H Q E h=>?_) (λa4 A a1 s H vs Q E hr h=>?_)
 .revert h;refine e9 λa l g n z0 _=>?_;subst z0;rfl
 .revert h;refine eX λa l g n z0 b R q=>?_;subst z0;refine⟨_,(ze (jf 1 zlJ.nd (pcm ["cell","board"] [none,some 0] cR (zw (pc0 (yc T zF zG zu) hr zF (za (pvS 0) zd))) (pgN 0) qD (pc0 (Qu T zY) hr zY (za (pvS 1) (za (pvS 0) zd))))) (zf (zx (zpK ["cell","told"] [none,some 1] (c1 (y:="cell")) (zw (pc0 (zd2 T yO zG zu) hr yO (za (pvS 0) zd))) (pgN 0) (zU (zeq (yq (K:=K) (by rfl) (pb1 (zdI (K:=K) (by rfl) (by rfl)) T.ziC Ud (pcm ["near","cell"] [none,some 0] cR (zaq (K:=K) (by rfl) (pvS 1)) (pgN 0) qD (xF (jq (K:=K) (by rfl) hr.units) (pvS 1) (pvS 0) (by rfl)))) (λ_=>rfl)))) (pvS 0))))),?_⟩;(try dsimp only[cxK,cxP,cxW]);refine⟨_,rfl,a,l,g,n,rfl,b,R,λd ws H1 hd aa u s1=>(cK d rfl ⟨_,SqL.of aa⟩ (λz hz=>?_))⟩;have b1:=b.mono s1;refine zM (K:=K) (a:=d) (xs:=ws) (λa=>a≠z) ((zV g).map λo=>some (.list ((zP g o).map zk))) (fun r=>∃I,r=[I,some (.ref a)]) hz (λ_ h=>h) ⟨_,rfl⟩ (by rw[ZB];exact u.length.symm) (by rw[u.length];exact X6 (qO R) (by decide)) (SqL.of aa) ?_ ?_
  .rintro k x o r H2 hx ho N az ⟨I,rfl⟩ Y Z L no;obtain⟨y,hy,r1⟩:=Cel.get u hx;have M:=qt hy ho;refine d8 (λt sg ht hj _ es=>?_) (zR (X8 hy));obtain⟨J,rfl,i⟩:=r1;obtain⟨l1,l2⟩:=yk R ht hj;refine Jm ⟨_,rfl,_,rfl,a,l,J,g,n,y.1,y.2,rfl,b1.mono N,R,N _ _ i,l1,l2,λd2 a6 H3 au ab ar O=>?_⟩;refine L _ _ _ _ M ⟨_,rfl⟩ O (.lst (λe=>az (e ▸ au)) ab (Cel.rdn ar))
  .rintro ys H2 N ax G;rw[ZK]at G;have b2:=b1.mono N;refine⟨_,rfl,a,l,g,n,rfl,b2,R,λd3 a2 H3 ab ac B O=>(cK d3 rfl ⟨_,SqL.of ac⟩ (λz3 ah=>?_))⟩;have ai:=O _ _ ax;have aw:=G.keep O;refine zM (K:=K) (a:=d3) (xs:=a2) (λa=>a≠z3) ((zH g).map λc=>if (!((zV g).map λo=>(zP g o).any λz=>decide (z=c)).any id)=true then some (zk c) else none) (fun r=>∃I,r=[I,some (.ref z)]) ah (λ_ h=>h) ⟨_,rfl⟩ (by rw[ZB];exact B.length.symm) (by rw[B.length];exact X6 (qO R) (by decide)) (SqL.of ac) ?_ ?_
   .rintro k x o r H4 hx ho U _ ⟨I,rfl⟩ Y Z L no;obtain⟨y,hy,r1⟩:=Cel.get B hx;have M:=qt hy ho;have r2:jU H4 x y:=by
     obtain⟨J,e,i⟩:=r1;exact⟨J,e,U _ _ i⟩
    refine⟨_,rfl,z,rfl,⟨_,SqL.of (U _ _ ai)⟩,λz5 ay=>?_⟩;have ag:ys.length=(zV g).length:=by rw[G.length,ZB]
    refine zM (K:=K) (a:=z) (xs:=ys) (λa=>a≠z5) ((zV g).map λo=>some (.bool ((zP g o).any λz=>decide (z=y)))) (fun r=>∃I,r=[I,some x]) ay (λ_ h=>h) ⟨_,rfl⟩ (by rw[ZB];exact ag.symm) (by rw[ag];exact X6 (qO R) (by decide)) (SqL.of (U _ _ ai)) ?_ ?_
    .rintro m v o2 r H5 hv av s5 _ ⟨u1,rfl⟩ Y2 Z2 aj a5;obtain⟨dv,j,rv⟩:=aw.get hv;rw[XB]at j;cases eoc:(zV g)[m]? with
     | none=>rw[eoc]at j;cases j
     | some oc =>
      rw[eoc]at j;cases j;have ak:=qt eoc av;have r3:jU H5 x y:=by
       obtain⟨J,e,i⟩:=r2;exact⟨J,e,s5 _ _ i⟩
      refine Jm ⟨_,rfl,_,rfl,zk y,(zP g oc).map zk,r3.rdv,(((rv.keep U).keep s5).rdv),rfl,JY _,(by show 1<=60;decide),?_⟩;have ei:(if false=true then !((zP g oc).map zk).any (λz=>WW z (zk y)) else ((zP g oc).map zk).any λz=>WW z (zk y))=(zP g oc).any λz=>decide (z=y):=xR _ _;rw[ei];exact aj _ _ _ _ ak ⟨_,rfl⟩ (zo.refl _) (.bl _)
    .rintro a7 H5 s5 p af;rw[ZK,show ((zV g).map λo=>Tc ((zP g o).any λz=>decide (z=y)))=((zV g).map λo=>(zP g o).any λz=>decide (z=y)).map Tc by rw[Wj];rfl]at af;rw[zq.bools af]at p;refine dO z5 rfl (SqL.of p) (cG rfl ?_);by_cases hp:(!((zV g).map λo=>(zP g o).any λz=>decide (z=y)).any id)=true
     .rw[bw hp]at M;refine qQ hp ⟨_,rfl,L _ _ _ _ M ⟨_,rfl⟩ s5 (jU.rdn ?_)⟩;obtain⟨J,e,i⟩:=r2;exact⟨J,e,s5 _ _ i⟩
     .rw[bq hp]at M;exact qu (by simpa using hp) (no _ _ M ⟨_,rfl⟩ s5)
   .rintro a3 H4 U p ae;rw[zJ]at ae;exact q z3 a3 H4 (s1.free (N.free (O.free ah))) p (zq.cel ae) (((s1.trans N).trans O).trans U)
def QM:zD ["board","bare"] ["board"] (zp Jq):=bh
def zdk {f1 f2 f3 f4 f5 f6:Addr}{aa ab ac ae af ag:XC}(T:Txt mg)(D:zm K mg "bare_wrong" Jq ["board"] f fd)(zY:zm K mg "around" jJ ["board","cell"] f1 aa)(zu:zm K mg "sign_at" qF ["board","cell"] f2 ab)
  (zG:zm K mg "cells_of" qE ["board"] f3 ac) (zL:zm K mg "closed_around" qR ["board","cell"] f4 ae) (zF:zm K mg "open_cells" qL ["board"] f5 af) (qe:zm K mg "number_at" jB ["board","cell"] f6 ag):qc P w K mg base CX0 3 f fd ["board"] (zoG YD):=by
 refine D.F.ok QM (λvs H Q E h=>?_) (λam A ak s H vs Q E hr h=>?_)
 .revert h;refine e9 λa l c n z0 _=>?_;subst z0;rfl
 .revert h;refine eX λa l c n z0 b R q=>?_;subst z0;refine⟨_,(ze (psC 1 QM.nd ["cell","board"] [none,some 0] cR (zw (pc0 (yc T zF zG zu) hr zF (za (pvS 0) zd))) (pgN 0) (zU (zI (zfs (K:=K) (by rfl) hr.units) (pc0 (j5 T zL zY zu) hr zL (za (pvS 1) (za (pvS 0) zd))) (@zO _ _ _ _ zd) (zT _))) (pvS 0)) (zf (zx (pcm ["cell","board"] [none,some 0] cR (zw (pvS 1)) (pgN 0) (zU (zI zdA (pc0 (Yn T qe zu) hr qe (za (pvS 1) (za (pvS 0) zd))) zg (zT _))) (pvS 0))))),?_⟩;(try dsimp only[cxK,cxP,cxW]);refine⟨_,rfl,a,l,c,n,rfl,b,R,λd ws H1 hd B r s1=>(cK d rfl ⟨_,SqL.of B⟩ (λz hz=>?_))⟩;have b1:=b.mono s1;refine zM (K:=K) (a:=d) (xs:=ws) (λa=>a≠z) ((zV c).map λo=>if (clA c o).isEmpty=true then some (zk o) else none) (fun σ=>∃U,σ=[U,some (.ref a)]) hz (λ_ h=>h) ⟨_,rfl⟩ (by rw[ZB];exact r.length.symm) (by rw[r.length];exact X6 (qO R) (by decide)) (SqL.of B) ?_ ?_
  .rintro k x o σ H2 hx ho u ao ⟨U,rfl⟩ Y Z v no;obtain⟨y,L,r1⟩:=Cel.get r hx;have m:=qt L ho;refine d8 (λt sg J hj _ es=>?_) (zR (X8 L));obtain⟨ya,rfl,i⟩:=r1;obtain⟨l1,l2⟩:=yk R J hj;refine⟨_,rfl,_,rfl,a,l,ya,c,n,y,rfl,b1.mono u,R,u _ _ i,l1,l2,λd2 aq H3 an ah g s3=>⟨jR,λe he=>?_⟩⟩;have j:=zc (o:=.lst []) he;refine cO (.list ((clA c y).map zk)) (.list []) (.lst (SqL.of (j _ _ ah)) (zq.rdv (N:=λ_=>True) (Cel.rdn (Cel.mono j g)))) (.lst (SqL.of zb) .nil) (YZ _ []) ⟨_,rfl,?_⟩;have ee:(if false=true then !PyData.eqv (.list ((clA c y).map zk)) (.list []) else WW (.list ((clA c y).map zk)) (.list []))=(clA c y).isEmpty:=eq_nil _;rw[ee];by_cases p:(clA c y).isEmpty=true
   .rw[bw p]at m;exact qQ p ⟨_,rfl,v _ _ _ _ m ⟨_,rfl⟩ (s3.trans j) (jU.rdn ⟨ya,rfl,j _ _ (s3 _ _ (u _ _ i))⟩)⟩
   .rw[bq p]at m;exact qu (by simpa using p) (no _ _ m ⟨_,rfl⟩ (s3.trans j))
  .rintro ys H2 u M G;rw[zJ]at G;have g:=zq.cel G;have b2:=b1.mono u;refine⟨_,rfl,z,rfl,⟨_,SqL.of M⟩,λz3 O=>?_⟩;refine zM (K:=K) (a:=z) (xs:=ys) (λa=>a≠z3) (((zV c).filter λo=>(clA c o).isEmpty).map λo=>if (!decide (Cells.sgn (codes c) o=48))=true then some (zk o) else none) (fun σ=>∃U,σ=[U,some (.ref a)]) O (λ_ h=>h) ⟨_,rfl⟩ (by rw[ZB];exact g.length.symm) (by rw[g.length];exact X6 (Xw _ _) (X6 (qO R) (by decide))) (SqL.of M) ?_ ?_
   .rintro k x o σ H4 hx ho j _ ⟨U,rfl⟩ Y Z v no;obtain⟨y,L,r1⟩:=Cel.get g hx;have m:=qt L ho;refine d8 (λt sg J hj ai es=>?_) (zR (X5.mp (X8 L)).1);obtain⟨ya,rfl,i⟩:=r1;obtain⟨k1,k2⟩:=Qt (ziD R J hj) ai;refine⟨_,rfl,_,rfl,a,l,ya,c,n,y.1,y.2,t,sg,rfl,b2.mono j,j _ _ i,J,hj,R.tlen J,k1,k2,rfl,_,rfl,?_⟩;have ed:(!decide (V.int ((sg:Int)-48)=V.int 0))=!decide (Cells.sgn (codes c) y=48):=by
     rw[es,zes];congr 1;by_cases h:sg=48
     .rw[br h,h];rfl
     .rw[bf h];simp only[beq_eq_false_iff_ne,ne_eq];lia
    rw[ed];by_cases p:(!decide (Cells.sgn (codes c) y=48))=true
    .rw[bw p]at m;exact qQ p ⟨_,rfl,v _ _ _ _ m ⟨_,rfl⟩ (zo.refl _) (jU.rdn ⟨ya,rfl,j _ _ i⟩)⟩
    .rw[bq p]at m;exact qu (by simpa using p) (no _ _ m ⟨_,rfl⟩ (zo.refl _))
   .rintro al H4 j aj I;rw[zJ]at I;exact q z3 al H4 (s1.free (u.free O)) aj (zq.cel I) ((s1.trans u).trans j)
def zlK {K:XS}{H:Hp}{vs:AE}{cs:AB}(a:Cel H vs cs):JM K H vs (cs.map zk):=by
 induction a with
 | nil=>exact .nil
 | cons h _ b =>
  exact .cons (jU.rdv h) b
def toI (c:AA):Int×Int:=(((c.1:Nat):Int),((c.2:Nat):Int))
def ofI (p:Int×Int):AA:=(p.1.toNat,p.2.toNat)
def ziE (c:AA):ofI (toI c)=c:=rfl
def znH {c d:AA}(h:toI c=toI d):c=d:=by rw[<- ziE c,h,ziE]
def ziF {c d:AA}:lt2 (toI c) (toI d)=true↔Cells.lex c d:=by
 obtain⟨a,b⟩:=c;obtain⟨x,y⟩:=d;unfold lt2 Cells.lex;show (if ((a:Nat):Int)=((x:Nat):Int) then decide (((b:Nat):Int)<((y:Nat):Int)) else decide (((a:Nat):Int)<((x:Nat):Int)))=true↔a<x\/(a=x/\b<y);by_cases e:a=x
 .rw[bw (by lia),bu];lia
 .rw[bq (by lia),bu];lia
def Cel.tup2 {H:Hp}{vs:AE}{cs:AB}(b:Cel H vs cs):yR H vs (cs.map toI):=by
 induction b with
 | nil=>exact .nil
 | cons q _ c =>
  obtain⟨a,e,h⟩:=q;exact .cons ⟨a,e,h⟩ c
theorem qA {H:Hp}:∀{cs:AB} {vs:AE},yR H vs (cs.map toI)->Cel H vs cs
 | [],_,.nil=>.nil
 | _::_,_,.cons ⟨a,e,h⟩ t=>.cons ⟨a,e,h⟩ (qA t)
def Jx {ps:List (Int×Int)}{cs:AB}(h:ps.Perm (cs.map toI)):∃a:AB,ps=a.map toI/\a.Perm cs:=by
 refine⟨ps.map ofI,?_,?_⟩
 .rw[Wj];refine(Sr ps).symm.trans (W9 λp b=>?_);obtain⟨c,_,rfl⟩:=XN.mp (h.mem_iff.mp b);rfl
 .have:=h.map ofI;rw[Wj]at this;have e:cs.map (ofI∘toI)=cs:=(W9 λc _=>ziE c).trans (Sr cs);rwa [e]at this
def zpU {cs:AB}(h:Up2 (cs.map toI)):cs.Pairwise Cells.lex:=by
 unfold Up2 at h;rw[Wd]at h;exact h.imp λz=>ziF.mp z
def qw {cs:AB}(h:cs.Pairwise Cells.lex):cs.Nodup:=h.imp λ{a b} z e=>by
 subst e;unfold Cells.lex at z;lia
def zj2 (H:Hp)(v:V)(g:AB):Prop:=∃a b,v=V.ref a/\H a=some (.lst b)/\Cel H b g
def xT (H:Hp):AE->List AB->Prop:=Xy (zj2 H)
theorem zj2.mono {H b:Hp}{v:V}{g:AB}(s:zo H b)(h:zj2 H v g):zj2 b v g:=by
 obtain⟨a,c,e,h1,h2⟩:=h;exact⟨a,c,e,s _ _ h1,h2.mono s⟩
theorem xT.mono {H a:Hp}(s:zo H a){vs:AE}{gs:List AB}(b:xT H vs gs):xT a vs gs:=by
 induction b with
 | nil=>exact .nil
 | cons h _ c =>
  exact .cons (h.mono s) c
theorem xT.get {H:Hp}:∀{vs:AE} {gs:List AB} {i:Nat} {v:V},xT H vs gs->vs[i]?=some v->∃g,gs[i]?=some g/\zj2 H v g
 | _,_,_,_,.nil,e=>by simp at e
 | _,_,0,_,.cons r _,e=>by
  simp at e;subst e;exact⟨_,rfl,r⟩
 | _,_,i+1,v,.cons _ t,e=>by
  obtain⟨c,h1,h2⟩:=xT.get (i:=i) (v:=v) t (by simpa using e);exact⟨c,by simpa using h1,h2⟩
theorem xT.length {H:Hp}{vs:AE}{gs:List AB}(h:xT H vs gs):vs.length=gs.length:=Paired.length h
theorem xT.snoc {H:Hp}{vs:AE}{gs:List AB}{v:V}{g:AB}(h:xT H vs gs)(x:zj2 H v g):xT H (vs++[v]) (gs++[g]):=Paired.snoc h x
def lD (g:AB):We:=.list (g.map zk)
theorem zd3 {p q:Nat->Bool}(h:∀c,p c=true->q c=false)(i:Nat):∀(j:Nat) (t:List Nat),(Cells.zW p i j t).length+(Cells.zW q i j t).length<=t.length
 | _,[]=>XT _
 | j,c::r=>by
  have b:=zd3 h i (j+1) r;rw[Cells.zW,Cells.zW,X4,X4,Xo];by_cases a:p c=true
  .rw[bw a,bq (by rw[h c a];exact XU)];simp only[Xo,VN];lia
  .rw[bq a];split<;>simp only[Xo,VN]<;>lia
theorem zd4 {p q:Nat->Bool}(h:∀c,p c=true->q c=false):∀(i:Nat) (rs:List (List Nat)),(∀t∈rs,t.length<=8)->(Cells.zC p i rs).length+(Cells.zC q i rs).length<=8*rs.length
 | _,[],_=>XT _
 | i,t::r,a=>by
  have d:=zd4 h (i+1) r λu b=>a u (XV _ b);have h1:=zd3 h i 0 t;have h2:=a t XR;rw[Cells.zC,Cells.zC,X4,X4,Xo];lia
def zd5 {rs:AD}(R:Rows bd.cps.toList rs):(zV rs).length+(zH rs).length<=64:=by
 have:=zd4 (p:=yT) (q:=x9) (λc a=>by
  unfold yT at a;rw[Wp,WF]at a;exact a.2) 0 (codes rs) R.short
 have h2:=R.hi;rw[jc]at this;unfold zV zH;lia
theorem zaJ {p:Nat->Bool}{i:Nat}:∀{j m:Nat} {t:List Nat} {c:Nat},t[m]?=some c->p c=true->(i,j+m)∈Cells.zW p i j t
 | j,m,[],c,h,_=>by simp at h
 | j,0,d::r,c,h,a=>by
  have e:d=c:=by simpa using h
  subst e;rw[Cells.zW,bw a];exact WX _ XR
 | j,m+1,d::r,c,h,a=>by
  rw[Cells.zW];refine WV _ ?_;have:=zaJ (i:=i) (j:=j+1) (m:=m) (t:=r) (c:=c) (by simpa using h) a;rwa [show j+1+m=j+(m+1) by lia]at this
theorem j6 {p:Nat->Bool}:∀{i m:Nat} {rs:List (List Nat)} {t:List Nat} {j c:Nat},rs[m]?=some t->t[j]?=some c->p c=true->(i+m,j)∈Cells.zC p i rs
 | i,m,[],t,j,c,h,_,_=>by simp at h
 | i,0,d::r,t,j,c,h,a,b=>by
  have e:d=t:=by simpa using h
  subst e;rw[Cells.zC];refine WX _ ?_;have:=zaJ (i:=i) (j:=0) a b;rwa [show 0+j=j by lia]at this
 | i,m+1,d::r,t,j,c,h,a,b=>by
  rw[Cells.zC];refine WV _ ?_;have:=j6 (i:=i+1) (m:=m) (rs:=r) (t:=t) (j:=j) (c:=c) (by simpa using h) a b;rwa [show i+1+m=i+(m+1) by lia]at this
def zbd (rs:AD)(c:AA):(clA rs c).Nodup:=((qw (Cells.yW _ 0 (codes rs))).sublist Xr).sublist Xr
def JZ {rs:AD}{c x:AA}(h:x∈clA rs c):x∈zH rs:=by
 unfold clA at h;obtain⟨h1,h2⟩:=X5.mp h;obtain⟨t,k,d,b,_,e⟩:=zR (X5.mp h1).1;have a:k=63:=by
  have:=bg h2;lia
 subst a;have:=j6 (p:=x9) (i:=0) (qG d) b (by decide);rwa [Wa]at this
def heads (gs:List AB):List (Int×Int):=gs.map λg=>toI (g.headD (0,0))
def head_mem {g:AB}(h:g ≠ []):g.headD (0,0)∈g:=by
 cases g with
 | nil=>exact absurd rfl h
 | cons a r=>exact XR
theorem zbv:∀{gs:List AB},(∀g∈gs,g ≠ [])->gs.flatten.Nodup->(heads gs).Nodup
 | [],_,_=>VX
 | g::r,h,c=>by
  rw[VS,WY]at c;obtain⟨_,h2,f⟩:=c;unfold heads;rw[XD,Wf];refine⟨λi=>?_,zbv (λx j=>h x (XV _ j)) h2⟩;obtain⟨g2,a,e⟩:=XN.mp i;have d:=znH e;have l:=head_mem (h g XR);have b:=head_mem (h g2 (XV _ a));rw[d]at b;exact f _ l _ (Wn.mpr ⟨g2,a,b⟩) rfl
def J0 (rs:AD)(part:AB):AB:=(zV rs).filter λo=>((zP rs o).map λz=>part.any λx=>decide (x=z)).any id
def zpV:Sp:=λh H Q _=>∃(a l e:Addr) (c:AD) (n:Int) (f:AE) (part:AB),h=[.ref a,.ref e]/\qj H a l c n/\Rows bd.cps.toList c/\H e=some (.lst f)/\Cel H f part /\
 ∀(d:Addr) (g:AE) (b:Hp),H d=none->b d=some (.lst g)->Cel b g (J0 c part)->zo H b->Q (.ref d) b
def zdl:zD ["board","part"] ["board","part"] (zp j3):=bh
def zdm {f1 f2 f3 f5:Addr}{ab ac ae af:XC}(T:Txt mg)(D:zm K mg "numbers_of" j3 ["board","part"] f fd)(zY:zm K mg "around" jJ ["board","cell"] f1 ab)(zu:zm K mg "sign_at" qF ["board","cell"] f2 ac)
  (zG:zm K mg "cells_of" qE ["board"] f3 ae) (zF:zm K mg "open_cells" qL ["board"] f5 af):qc P w K mg base CX0 3 f fd ["board","part"] zpV:=by
 refine D.F.ok zdl (λvs H Q E h=>?_) (λao A al s H vs Q E hr h=>?_)
 .revert h;refine fC λa l pa e n ps part z0 _=>?_;subst z0;rfl
 .revert h;refine eH λa l pa e=>fk λn ps part z0 b R ah ai q=>?_;subst z0;refine⟨_,(zf (zx (pcm ["cell","part","board"] [none,some 1,some 0] cR (zw (pc0 (yc T zF zG zu) hr zF (za (pvS 0) zd))) (pgN 0) (zU (yq (K:=K) (by rfl) (pb1 (zdI (K:=K) (by rfl) (by rfl)) T.ziC Ud (pcm ["place","part"] [none,some 1] cR (zaq (K:=K) (by rfl) (pc0 (Qu T zY) hr zY (za (pvS 2) (za (pvS 0) zd)))) (pgN 0) qD (xF (jq (K:=K) (by rfl) hr.units) (pvS 0) (pvS 1) (by rfl)))) (λ_=>rfl))) (pvS 0)))),?_⟩;(try dsimp only[cxK,cxP,cxW]);refine⟨_,rfl,a,l,e,n,rfl,b,R,λd ws H1 hd r g s1=>(cK d rfl ⟨_,SqL.of r⟩ (λz hz=>?_))⟩;have b1:=b.mono s1;refine zM (K:=K) (a:=d) (xs:=ws) (λa=>a≠z) ((zV e).map λo=>if (((zP e o).map λz=>part.any λx=>decide (x=z)).any id)=true then some (zk o) else none) (fun M=>∃u0,M=[u0,some (.ref pa),some (.ref a)]) hz (λ_ h=>h) ⟨_,rfl⟩ (by rw[ZB];exact g.length.symm) (by rw[g.length];exact X6 (qO R) (by decide)) (SqL.of r) ?_ ?_
  .rintro k x o M H2 hx ho j ar ⟨u0,rfl⟩ Y Z an no;obtain⟨y,hy,r1⟩:=Cel.get g hx;have O:=qt hy ho;refine d8 (λt sg ht hj _ es=>?_) (zR (X8 hy));obtain⟨ya,rfl,I⟩:=r1;obtain⟨l1,l2⟩:=yk R ht hj;refine⟨_,rfl,_,rfl,a,l,ya,e,n,y.1,y.2,rfl,b1.mono j,R,j _ _ I,l1,l2,λd2 am H3 aq u i s3=>(cK d2 rfl ⟨_,SqL.of u⟩ (λz5 ak=>?_))⟩;refine zM (K:=K) (a:=d2) (xs:=am) (λa=>a≠z5) ((zP e y).map λc=>some (.bool (part.any λx=>decide (x=c)))) (fun M=>∃u0,M=[u0,some (.ref pa)]) ak (λ_ h=>h) ⟨_,rfl⟩ (by rw[ZB];exact i.length.symm) (by rw[i.length];exact X6 (Zu R y) (by decide)) (SqL.of u) ?_ ?_
   .rintro m v o2 M H5 hv ag p _ ⟨u1,rfl⟩ Y2 Z2 L au;obtain⟨c,hc,rc⟩:=Cel.get (Cel.mono p i) hv;have aa:=qt hc ag;have sA:=((s1.trans j).trans s3).trans p;refine Jm ⟨_,rfl,_,rfl,zk c,part.map zk,rc.rdv,.lst (SqL.of (sA _ _ ah)) (zq.rdv (N:=λ_=>True) (Cel.rdn (Cel.mono sA ai))),rfl,JY _,(by show 1<=60;decide),?_⟩;have ei:(if false=true then !(part.map zk).any (λz=>WW z (zk c)) else (part.map zk).any λz=>WW z (zk c))=part.any λz=>decide (z=c):=xR _ _;rw[ei];exact L _ _ _ _ aa ⟨_,rfl⟩ (zo.refl _) (.bl _)
   .rintro av H5 p J G;rw[ZK,show ((zP e y).map λc=>Tc (part.any λx=>decide (x=c)))=((zP e y).map λc=>part.any λx=>decide (x=c)).map Tc by rw[Wj];rfl]at G;rw[zq.bools G]at J;refine dO z5 rfl (SqL.of J) (cG rfl ?_);by_cases U:(((zP e y).map λz=>part.any λx=>decide (x=z)).any id)=true
    .rw[bw U]at O;exact qQ U ⟨_,rfl,an _ _ _ _ O ⟨_,rfl⟩ (s3.trans p) (jU.rdn ⟨ya,rfl,p _ _ (s3 _ _ (j _ _ I))⟩)⟩
    .rw[bq U]at O;exact qu (by simpa using U) (no _ _ O ⟨_,rfl⟩ (s3.trans p))
  .rintro ys H2 j aj B;rw[zJ]at B;exact q z ys H2 (s1.free hz) aj (zq.cel B) (s1.trans j)
def Qv {a b:AB}(p:a.Perm b)(c:a.Pairwise Cells.lex)(d:b.Pairwise Cells.lex):a=b:=p.eq_of_pairwise (λx y _ _ h1 h2=>by
 unfold Cells.lex at h1 h2;lia) c d
def zhx {a:AA->AB}{done:AB}{gs:List AB}{o:AA}(G:Parts.Good a done gs)(h:a o ≠ [])(c:(a o).Nodup){w:AB}(d:w.Pairwise Cells.lex)(j:∀x,x∈w↔x∈a o\/∃g∈gs,Parts.meets (a o) g=true/\x∈g):Parts.Good a (done++[o]) ((gs.filter λg=>!Parts.meets (a o) g)++[w]):=by
 refine G.step h c ?_ ?_ d
 .refine Vt λg i=>?_;congr 1;rw[WQ,WT];constructor
  .exact λz=>⟨g,X5.mpr ⟨i,z⟩,br rfl⟩
  .rintro⟨m,b,e⟩;have f:m=g:=bg e;subst f;exact(X5.mp b).2
 .refine(WD (qw d) (Parts.YU c λm b=>G.nd.sublist (U6 (X5.mp b).1))).mpr λx=>?_;rw[j,Parts.za9];constructor
  .rintro(z | ⟨g,h1,h2,h3⟩)
   .exact .inl z
   .exact .inr ⟨g,X5.mpr ⟨h1,h2⟩,h3⟩
  .rintro(z | ⟨g,h1,h3⟩)
   .exact .inl z
   .exact .inr ⟨g,(X5.mp h1).1,(X5.mp h1).2,h3⟩
def zj3 (cs g:AB):(cs.map λc=>g.any λz=>decide (z=c)).any id=Parts.meets cs g:=by
 rw[WQ,Parts.ZE,Us,WT];constructor
 .rintro⟨c,h1,h2⟩;have a:(g.any λz=>decide (z=c))=true:=h2;obtain⟨z,b,d⟩:=WT.mp a;have e:z=c:=bg d;subst e;exact⟨z,b,h1⟩
 .rintro⟨x,h1,h2⟩;refine⟨x,h2,?_⟩;show (g.any λz=>decide (z=x))=true;exact WT.mpr ⟨x,h1,br rfl⟩
def Zm (p:AB->Bool):AE->List AB->AE
 | v::vs,g::gs=>if p g=true then v::Zm p vs gs else Zm p vs gs
 | _,_=>[]
theorem ZL (p:AB->Bool):∀(vs:AE) (gs:List AB),(Zm p vs gs).Sublist vs
 | [],_=>Rr _
 | _::_,[]=>Rr _
 | v::vs,g::gs=>by
  rw[Zm];split
  .exact(ZL p vs gs).cons_cons v
  .exact(ZL p vs gs).cons v
theorem QZ {H:Hp}(p:AB->Bool):∀{vs:AE} {gs:List AB},xT H vs gs->xT H (Zm p vs gs) (gs.filter p)
 | _,_,.nil=>.nil
 | _,_,.cons (a:=v) (b:=g) h t=>by
  rw[Zm,WJ];by_cases c:p g=true
  .rw[bw c,bw c];exact .cons h (QZ p t)
  .rw[bq c,bq c];exact QZ p t
def zhy (p:AB->Bool){vs:AE}{gs:List AB}{i:Nat}{v:V}{g:AB}(h1:vs[i]?=some v)(h2:gs[i]?=some g):Zm p (vs.take (i+1)) (gs.take (i+1))=Zm p (vs.take i) (gs.take i)++if p g=true then [v] else []:=by
 induction vs generalizing gs i with
 | nil=>cases h1
 | cons w vs a =>
  cases gs with
  | nil=>cases h2
  | cons k gs =>
   cases i with
   | zero =>
    cases h1;cases h2;simp[Zm]
   | succ i =>
    rw[UF,UF,UF,UF,Zm,Zm,a h1 h2];split<;>rfl
def zeR {m:List (Int×Int)}{l:AB}(h:∀c∈m,c∈l.map toI):m=(m.map ofI).map toI:=by
 rw[Wj];refine(Sr m).symm.trans (W9 λc a=>?_);obtain⟨x,_,rfl⟩:=XN.mp (h c a);rfl
def zlL:Sp:=λm H Q _=>∃(e j:Addr) (i l:AE) (c:List AB) (a B:AB),m=[.ref e,.ref j]/\H e=some (.lst i)/\xT H i c/\H j=some (.lst l)/\Cel H l a/\a.Nodup/\c.flatten.Nodup/\(∀x∈a,x∈B)/\(∀x∈c.flatten,x∈B)/\(∀x∈B,x.1<8/\x.2<8)/\B.length<=63/\c.length<=63 /\
 (a=[]->∀b,zo H b->Q (.ref e) b) /\
 (a ≠ []->∀(d h:Addr) (f:AE) (w:AB) (b:Hp),H d=none->H h=none->b d=some (.lst (f++[.ref h]))->f.Sublist i->xT b (f++[.ref h]) ((c.filter λg=>!Parts.meets a g)++[w])->w.Pairwise Cells.lex->(∀x,x∈w↔x∈a\/∃g∈c,Parts.meets a g=true/\x∈g)->zo H b->Q (.ref d) b)
def Qw:zD ["groups","cells","apart","together","group"] ["groups","cells"] (zp YX):=bh
def zj4 (T:Txt mg)(D:zm K mg "joined" YX ["groups","cells"] f fd):qc P w K mg base CX0 1 f fd ["groups","cells"] zlL:=by
 refine D.F.ok Qw (λvs H Q E h=>?_) (λaK A aH s H vs Q E hr h=>?_)
 .revert h;refine fC λga ca ws us n d B z0 _=>?_;subst z0;rfl
 .revert h;refine fG λga ca ws us n d B z0 aw hG N=>eY λhC a9 aA cB=>fm λgB B8 ak am q1 q2=>?_;subst z0;have al:d.length<=63:=X6 (Parts.jZ a9 cB) ak;have ac:n.flatten.length<=63:=X6 (Parts.jZ aA gB) ak;refine⟨_,(ze (qJ (zI (ju hr.units) (pvS 1) (@zO _ _ _ _ zd) (zT _)) (zf (zx (pvS 0))) qa) (@ze _ _ _ _ _ (@qh _ _ 2 _ _ _ _ Qw.nd rfl (V2 rfl) (@zO _ _ _ _ zd) (by rfl) (.inr rfl)) (ze (jf 3 Qw.nd (pt1 zew T.zlE P8 (pvS 1))) (ze (qx Xc rfl (zw (pvS 0)) (pgq 4 Qw.nd) (zf (qJ (YL (pb1 (zce rfl) T.ziC Ud (pcm ["cell","group"] [none,some 4] cR (zw (pvS 1)) (pgN 0) qD (xF (jq (K:=K) (by rfl) hr.units) (pvS 0) (pvS 1) (by rfl)))) (λ_=>rfl)) (zf (jj (yH W7 VF VE JD (pvS 3) (za (pvS 4) zd)))) (zf (jj (yH W7 WI WH yj (pvS 2) (za (pvS 4) zd))))))) (zf (zx (zK JK (pvS 2) (zO (za (pb1 (ST.zdh hr.hd) T.jT WG (pt1 (ST.zjK hr.units hr.hd) T.zrb PyProof.Rows.boot_set (pvS 3))) zd))))))))),?_⟩;(try dsimp only[cxK,cxP,cxW]);refine⟨_,rfl,jR,λe he=>?_⟩;have s1:zo H (upd H e (.lst [])):=zc he;refine cO (lD d) (.list []) (.lst (SqL.of (s1 _ _ N)) (zlK (hC.mono s1))) (.lst (SqL.of zb) .nil) (YZ _ []) ⟨_,rfl,?_⟩;have en:(if false=true then !PyData.eqv (lD d) (.list []) else WW (lD d) (.list []))=d.isEmpty:=by
   show WW _ _=_;exact eq_nil d
  rw[en];by_cases ab:d=[]
  .rw[show d.isEmpty=true by rw[ab];rfl];exact Z0 ⟨_,rfl,q1 ab _ s1⟩
  rw[show d.isEmpty=false by rw[Vn];exact ab];refine xX ?_;generalize upd H e (.lst [])=H1 at *
  refine⟨jR,λap ar=>?_⟩;have s2:=s1.trans (zc (o:=.lst []) ar);have aq:upd H1 ap (.lst []) ap=some (.lst []):=zb;have au:=s1.free ar;generalize upd H1 ap (.lst [])=H2 at *
  refine⟨_,rfl,ca,_,rfl,.inl (SqL.of (s2 _ _ N)),λtg aj=>?_⟩;have z3:=zc (o:=.lst us) aj;have s3:=s2.trans z3;have aC:=z3 _ _ aq;have aF:upd H2 tg (.lst us) tg=some (.lst us):=zb;have a3:=s2.free aj;have a6:ap≠tg:=zh aq aj;generalize upd H2 tg (.lst us)=H3 at *
  refine⟨_,rfl,ga,rfl,⟨_,SqL.of (s3 _ _ aw)⟩,?_⟩;refine jF (K:=K) (a:=ga) (xs:=ws) (λi σ H'=>∃(ut:AE) (v4:Option V),σ=[some (.ref ga),some (.ref ca),some (.ref ap),some (.ref tg),v4]/\zo H H'/\H' ap=some (.lst (Zm (λg=>!Parts.meets d g) (ws.take i) (n.take i)))/\H' tg=some (.lst ut)/\Cel H ut (d++((n.take i).filter (Parts.meets d)).flatten))
   (dW us rfl s3 aC aF (by simpa using hC)) (λi σ H' _ ⟨_,_,_,z,_⟩=>SqL.of (z _ _ aw)) ?_ ?_
  .refine λi x σ H4 hx=>eK λut v4 z0 s4 L ah r=>?_;subst z0;refine d9 (λg hg=>eF λan ug z0 ae ag=>?_) (xT.get hG hx);subst z0;have gm:=X8 hg;have tk:(n.take (i+1)).filter (Parts.meets d)=(n.take i).filter (Parts.meets d)++if Parts.meets d g=true then [g] else []:=by
    rw[Xb,hg,WZ];congr 1;show [g].filter _=_;rw[WJ];rfl
   have pk:=zhy (λg=>!Parts.meets d g) hx hg;refine⟨_,rfl,ca,rfl,⟨_,SqL.of (s4 _ _ N)⟩,λz hz=>?_⟩;refine zM (K:=K) (a:=ca) (xs:=us) (λa=>a≠z) (d.map λc=>some (.bool (g.any λz=>decide (z=c)))) (fun σ=>∃u0,σ=[u0,some (.ref an)]) hz (λ_ h=>h) ⟨_,rfl⟩ (by rw[ZB];exact hC.length.symm) (by rw[hC.length];exact X6 al (by decide)) (SqL.of (s4 _ _ N)) ?_ ?_
   .rintro m v o σ H5 hv ho U _ ⟨u1,rfl⟩ Y Z aI no;have u:=s4.trans U;obtain⟨c,M,rc⟩:=Cel.get (hC.mono u) hv;have eo:=qt M ho;refine Jm ⟨_,rfl,_,rfl,zk c,g.map zk,rc.rdv,.lst (SqL.of (u _ _ ae)) (zlK (ag.mono u)),rfl,JY _,(by show 1<=60;decide),?_⟩;have ei:(if false=true then !(g.map zk).any (λz=>WW z (zk c)) else (g.map zk).any λz=>WW z (zk c))=g.any λz=>decide (z=c):=xR _ _;rw[ei];exact aI _ _ _ _ eo ⟨_,rfl⟩ (zo.refl _) (.bl _)
   .rintro ys H5 U a5 az;rw[ZK,show (d.map λc=>Tc (g.any λz=>decide (z=c)))=(d.map λc=>g.any λz=>decide (z=c)).map Tc by rw[Wj];rfl]at az;rw[zq.bools az]at a5;refine dO z rfl (SqL.of a5) (cG rfl ?_);rw[zj3];have u:=s4.trans U;have G:=U _ _ L;have ai:=U _ _ ah;have ao:∀(q:AB->Bool) (j:Nat),(((n.take j).filter q).flatten).length<=63:=λq j=>by
     refine X6 (U8 ?_) ac;refine List.Sublist.trans (Parts.jg q (n.take j)) ?_;have e2:n=n.take j++n.drop j:=(W5 j n).symm;conv=>rhs;rw[e2,VT]
     exact Ts _ _
    by_cases hp:Parts.meets d g=true
    .refine qQ hp ?_;refine⟨_,rfl,.inl ⟨rfl,_,SqL.of ai⟩,_,rfl,tg,an,ut,ug,rfl,rfl,ai,u _ _ ae,?_,?_⟩
     .rw[r.length,ag.length,X4];have a1:=ao (Parts.meets d) i;have a2:g.length<=63:=X6 (U8 (U6 gm)) ac;exact X6 (show _<=200 by lia) (by decide)
     .refine dW (ut++ug) rfl (λb o eb=>?_) ?_ zb ?_
      .rw[zj (zh eb a3)];exact u _ _ eb
      .rw[zj a6,pk,hp];simpa using G
      .rw[tk,bw hp,VT,<- W3];simpa using Cel.append r ag
    .have ay:=XO.mpr hp;refine qu ay ?_;refine⟨_,rfl,.inl ⟨rfl,_,SqL.of G⟩,_,rfl,ap,_,_,rfl,rfl,G,?_,?_⟩
     .refine XE (U8 ((ZL _ _ _).trans (RN _ _))) ?_;rw[hG.length];exact XE am (by decide)
     .refine dW ut rfl (λb o eb=>?_) ?_ ?_ ?_
      .rw[zj (zh eb au)];exact u _ _ eb
      .rw[zb,pk,ay];rfl
      .rw[zj (Vq a6)];exact ai
      .rw[tk,bq hp,Xu];exact r
  .refine λσ H4=>eK λut v4 z0 s4 L ah r=>?_;subst z0;rw[XF,hG.length,XF]at L;rw[hG.length,XF]at r;generalize hl:d++(n.filter (Parts.meets d)).flatten=l at r;have lB:∀x∈l,x∈B:=λx hx=>by
    rw[<- hl]at hx;rcases XM.mp hx with hx | hx
    .exact cB x hx
    .exact gB x ((Parts.jg _ n).subset hx)
   refine⟨_,rfl,_,rfl,tg,ut,_,rfl,SqL.of ah,Cel.tup2 (r.mono s4),(λp hp=>?_),(λm hm hs=>?_),λds J aD hT I af=>?_⟩
   .obtain⟨x,hx,rfl⟩:=XN.mp hp;have:=B8 x (lB x hx);unfold ST.InB toI;show (0<=((x.1:Nat):Int)/\((x.1:Nat):Int)<8)/\(0<=((x.2:Nat):Int)/\((x.2:Nat):Int)<8);lia
   .have h1:=zeR hs;have h2:(m.map ofI).Nodup:=by
     rw[h1]at hm;unfold OT at hm ⊢;rw[Wd]at hm;exact hm.imp λz e=>z (by rw[e])
    have h3:=Parts.jZ (b:=B) h2 λx hx=>by
     obtain⟨c,M,rfl⟩:=XN.mp hx;obtain⟨y,hy,rfl⟩:=XN.mp (hs c M);exact lB y hy
    rw[ZB]at h3;lia
   have z5:=zc (o:=ST.zfT P w ds J) aD;have O:∀c∈J.map (·.2),c∈l.map toI:=λc M=>(af c).mp M;have kl:J.length<=63:=by
    have h1:=zeR O;have h2:((J.map (·.2)).map ofI).Nodup:=by
     rw[h1]at I;unfold OT at I ⊢;rw[Wd]at I;exact I.imp λz e=>z (by rw[e])
    have h3:=Parts.jZ (b:=B) h2 λx hx=>by
     obtain⟨c,M,rfl⟩:=XN.mp hx;obtain⟨y,hy,rfl⟩:=XN.mp (O c M);exact lB y hy
    rw[ZB,ZB]at h3;lia
   have av:upd H4 ds (ST.zfT P w ds J) ds=some (ST.zfT P w ds J):=zb;have U:=s4.trans z5;have G:=z5 _ _ L;have aB:∀q∈J,upd H4 ds (ST.zfT P w ds J) q.1=some (.tup [.int q.2.1,.int q.2.2]):=λq hq=>z5 _ _ (hT q hq);refine cZ ds J rfl av aB I (by lia) (λwa a7 aM a4 ht a8 aG=>?_);rw[zeR O]at a8;obtain⟨wc,rfl,aJ⟩:=Jx a8;have z6:=zc (o:=.lst a7) a4;refine⟨sz_1,λp1 aE=>?_⟩;have z7:=zc (o:=.lst [V.ref wa]) aE;have aa:=z6.trans z7;refine dw ap p1 (dg [.ref wa] rfl rfl (aa _ _ G) zb ?_ (λk2 ax=>?_))
   .have a1:(Zm (λg=>!Parts.meets d g) ws n).length<=63:=X6 (U8 (ZL _ _ _)) (by rw[hG.length];exact am);exact X6 (show _+1<=200 by lia) (by decide)
   .have z8:=zc (o:=.lst (Zm (λg=>!Parts.meets d g) ws n++[.ref wa])) ax;have s8:=U.trans (aa.trans z8);refine q2 ab k2 wa _ wc _ ((U.trans aa).free ax) (U.free a4) zb (ZL _ _ _) ?_ (zpU aG) (λx=>?_) s8
    .exact xT.snoc ((QZ _ hG).mono s8) (cN wa a7 (cH rfl (z8 _ _ (z7 _ _ zb)) (Cel.mono (aa.trans z8) (qA ht))))
    .rw[aJ.mem_iff,XN];have hx:(∃a,a∈J.map (·.2)/\ofI a=x)↔x∈l:=by
      constructor
      .rintro⟨c,M,rfl⟩;obtain⟨y,hy,rfl⟩:=XN.mp (O c M);exact hy
      .intro h;exact⟨toI x,(af _).mpr (XN.mpr ⟨x,h,rfl⟩),rfl⟩
     rw[hx,<- hl,XM,Wn];constructor
     .rintro(h | ⟨g,h1,h2⟩)
      .exact .inl h
      .exact .inr ⟨g,(X5.mp h1).1,(X5.mp h1).2,h2⟩
     .rintro(h | ⟨g,h1,h2,h3⟩)
      .exact .inl h
      .exact .inr ⟨g,X5.mpr ⟨h1,h2⟩,h3⟩
def znI:Sp:=λg H Q _=>∃(p l:Addr) (c:AD) (n:Int),g=[.ref p]/\qj H p l c n/\Rows bd.cps.toList c /\
 ∀(d:Addr) (e:AE) (f:List AB) (b:Hp),H d=none->b d=some (.lst e)->xT b e f->e.Nodup->(∀v∈e,∃a,v=V.ref a/\H a=none/\a≠d)->Parts.Good (clA c) (zV c) f->Up2 (heads f)->zo H b->Q (.ref d) b
def zhz {rs:AD}(R:Rows bd.cps.toList rs){x:AA}(h:x∈zH rs):x.1<8/\x.2<8:=by
 obtain⟨t,k,c,d,_,_⟩:=zR h;have a:=(XX.mp c).1;have b:=(XX.mp d).1;have e:=R.hi;have g:=R.short _ (X8 (qG c));lia
theorem xT.some {H:Hp}{c:AE}{gs:List AB}(h:xT H c gs):∀v∈c,∃a b,v=V.ref a/\H a=some (.lst b):=by
 intro v d;refine d9 (λ_ _=>eF λa b e h1 _=>?_) (zkN h d);exact⟨a,b,e,h1⟩
def zlM {H:Hp}{b:AE}{gs:List AB}(h:xT H b gs):Xy (GS.LstAt H) b (gs.map (T5 toI)):=by
 induction h with
 | nil=>exact .nil
 | cons r _ c =>
  obtain⟨a,d,e,h1,h2⟩:=r;exact .cons ⟨a,d,e,h1,h2.tup2⟩ c
def zlN {H:Hp}:∀{gs:List AB} {b:AE},Xy (GS.LstAt H) b (gs.map (T5 toI))->xT H b gs:=by
 intro gs;induction gs with
 | nil =>
  intro b h;cases h;exact .nil
 | cons g r c =>
  intro b h;cases h with
  | cons q t =>
   obtain⟨a,d,e,h1,h2⟩:=q;exact .cons ⟨a,d,e,h1,qA h2⟩ (c t)
def zf8 {ks:List (List (Int×Int))}{gs:List AB}(h:ks.Perm (gs.map (T5 toI))):∃a:List AB,ks=a.map (T5 toI)/\a.Perm gs:=by
 have b:∀g:AB,(g.map toI).map ofI=g:=λg=>by
  rw[Wj];exact(W9 λc _=>ziE c).trans (Sr g)
 refine⟨ks.map (T5 ofI),?_,?_⟩
 .rw[Wj];refine(Sr ks).symm.trans (W9 λp d=>?_);obtain⟨c,_,rfl⟩:=XN.mp (h.mem_iff.mp d);show c.map toI=((c.map toI).map ofI).map toI;rw[b]
 .have:=h.map (T5 ofI);rw[Wj]at this;have e:gs.map (T5 ofI∘T5 toI)=gs:=(W9 λc _=>b c).trans (Sr gs);rwa [e]at this
def zlO {gs:List AB}(h:(gs.map (T5 toI)).Pairwise (λp q=>PySem.SeqAt.ltL q p=false))(i:∀g∈gs,g ≠ [])(u:(heads gs).Nodup):Up2 (heads gs):=by
 induction gs with
 | nil=>exact List.Pairwise.nil
 | cons g r n =>
  rw[XD,R0]at h;have d:toI (g.headD (0,0)) ∉ heads r/\(heads r).Nodup:=Wf.mp u;refine R0.mpr ⟨λp l=>?_,n h.2 (λx m=>i x (XV _ m)) d.2⟩;obtain⟨g2,c,rfl⟩:=XN.mp l;have a:=h.1 _ (XN.mpr ⟨g2,c,rfl⟩);have f:toI (g.headD (0,0))≠toI (g2.headD (0,0)):=λe=>d.1 (e ▸ l);have o:=i g XR;have s:=i g2 (XV _ c);cases g with
  | nil=>exact absurd rfl o
  | cons x v =>
   cases g2 with
   | nil=>exact absurd rfl s
   | cons y w =>
    have b:toI x≠toI y:=f;show lt2 (toI x) (toI y)=true;have j:(if toI y=toI x then PySem.SeqAt.ltL (w.map toI) (v.map toI) else lt2 (toI y) (toI x))=false:=a;rw[bq (Vq b)]at j;have:=zbV b;rw[j]at this;cases hh:lt2 (toI x) (toI y) with
    | true=>rfl
    | false =>
     rw[hh]at this;cases this
def zaK:zD ["board","found","cell"] ["board"] (zp zb2):=bh
def zlP {f1 f2 f3 f4 f5 f6:Addr}{aj ak al am an ao:XC}(T:Txt mg)(D:zm K mg "parts" zb2 ["board"] f fd)(zY:zm K mg "around" jJ ["board","cell"] f1 aj)(zu:zm K mg "sign_at" qF ["board","cell"] f2 ak)
  (zG:zm K mg "cells_of" qE ["board"] f3 al) (zF:zm K mg "open_cells" qL ["board"] f4 am) (zL:zm K mg "closed_around" qR ["board","cell"] f5 an) (ah:zm K mg "joined" YX ["groups","cells"] f6 ao):qc P w K mg base CX0 3 f fd ["board"] znI:=by
 refine D.F.ok zaK (λvs H Q E h=>?_) (λa7 A az s H vs Q E hr h=>?_)
 .revert h;refine e9 λp l j n z0 _=>?_;subst z0;rfl
 .revert h;refine eX λp l j n z0 b R q=>?_;subst z0;refine⟨_,(@ze _ _ _ _ _ (@qh _ _ 1 _ _ _ _ zaK.nd rfl (V2 rfl) (@zO _ _ _ _ zd) (by rfl) (.inr rfl)) (ze (qx Xc rfl (zw (pc0 (yc T zF zG zu) hr zF (za (pvS 0) zd))) (pgq 2 zaK.nd) (zf (jf 1 zaK.nd (pc0 (zj4 T ah) hr ah (za (pvS 1) (za (pc0 (j5 T zL zY zu) hr zL (za (pvS 0) (za (pvS 2) zd))) zd)))))) (zf (zx (pb1 (GS.QL hr.units) T.jT WG (pvS 1)))))),?_⟩;(try dsimp only[cxK,cxP,cxW]);refine⟨jR,λk0 ax=>?_⟩;have s0:zo H (upd H k0 (.lst [])):=zc ax;have ac:upd H k0 (.lst []) k0=some (.lst []):=zb;generalize upd H k0 (.lst [])=H0 at *
  refine⟨_,rfl,p,l,j,n,rfl,b.mono s0,R,λdc wc H1 a9 ai J s1=>(cK dc rfl ⟨_,SqL.of ai⟩ ?_)⟩;have M:=s0.trans s1;have b1:=b.mono M;have J:Cel H1 wc (zV j):=J;have aB:=zd5 R;refine jF (K:=K) (a:=dc) (xs:=wc) (λi σ H'=>∃(k:Addr) (U:AE) (I:List AB) (v2:Option V),σ=[some (.ref p),some (.ref k),v2]/\zo H1 H'/\H' k=some (.lst U)/\xT H' U I/\U.Nodup/\(∀v∈U,∃a,v=V.ref a/\H a=none)/\Parts.Good (clA j) ((zV j).take i) I)
   (cN k0 [] (dW [] rfl (zo.refl _) (s1 _ _ ac) (.nil) (cH VX (λv h=>nomatch h) (Parts.Good.start _)))) (λi σ H' _ ⟨_,_,_,_,_,z,_⟩=>SqL.of (z _ _ ai)) ?_ ?_
  .refine λi x σ H2 L=>fq λk U I v2 z0 Y hk hG=>eN λO m G=>?_;subst z0;refine eW (λc hc ca z0 av=>?_) (Cel.get (Cel.mono Y J) L);subst z0;have cm:=X8 hc;refine d8 (λt sg ht hj _ es=>?_) (zR cm);obtain⟨l1,l2⟩:=yk R ht hj;have tk:(zV j).take (i+1)=(zV j).take i++[c]:=by
    rw[Xb,hc];rfl
   have y:(zH j).length<=63:=by
    have:=Um cm;lia
   have gB:∀x∈I.flatten,x∈zH j:=λx L=>by
    obtain⟨o,_,h2⟩:=G.from_ x L;exact JZ h2
   refine⟨_,rfl,_,rfl,_,rfl,p,l,ca,j,n,c,rfl,(b1.mono Y),R,av,l1,l2,λd a2 H3 hd aw au B=>?_⟩;have a1:=M.trans (Y.trans B);refine cL k d U a2 (dI I (clA j c) (zH j) rfl (B _ _ hk) (hG.mono B) aw (cX au (zbd j c) G.nd (λx L=>JZ L) (cQ gB (λx L=>zhz R L) y (X6 (Parts.zaC G.ne) (X6 (Parts.jZ G.nd gB) y)) (λa4 H' s'=>?_) (λay d2 wa va aC H' a8 ag ab u ar a5 ae s'=>?_))))
   .refine cN k U (dW I rfl (Y.trans (B.trans s')) (s' _ _ (B _ _ hk)) ((hG.mono B).mono s') (cH O m ?_));rw[tk];exact G.skip a4
   .refine⟨d2,(dY rfl (Y.trans (B.trans s')) ab ar (cH ?_ (λv hv=>?_) ?_))⟩
    .rw[WY];refine⟨O.sublist u,by simp,λa ha b hb e=>?_⟩;have aa:b=V.ref wa:=by simpa using hb
     subst e;obtain⟨a',N,e1,e2⟩:=xT.some (hG.mono B) a (u.subset ha);rw[aa]at e1;injection e1 with e1
     rw[<- e1,ag]at e2;cases e2
    .rcases XM.mp hv with hv | hv
     .exact m v (u.subset hv)
     .have aa:v=V.ref wa:=by simpa using hv
      exact⟨wa,aa,a1.free ag⟩
    .rw[tk];exact zhx G ay (zbd j c) a5 ae
  .refine λσ H2=>fq λk U I v2 z0 Y hk hG=>eN λO m G=>?_;subst z0;rw[J.length,XF]at G;have aq:∀x∈I.flatten,x∈zH j:=λx L=>by
    obtain⟨o,_,h2⟩:=G.from_ x L;exact JZ h2
   have wl:I.length<=63:=by
    cases I with
    | nil=>exact W1 _
    | cons g r =>
     have m1:=head_mem (G.ne g XR);obtain⟨o,ho,_⟩:=G.from_ _ (Wn.mpr ⟨g,XR,m1⟩);have:=Um ho;have h3:=X6 (Parts.zaC G.ne) (Parts.jZ (b:=zH j) G.nd aq);lia
   refine⟨_,rfl,k,U,_,rfl,SqL.of hk,zlM hG,(by rw[hG.length];lia),λd N aA hd hl a3 a6 pw=>?_⟩;have B:=zc (o:=.lst N) hd;obtain⟨ds,rfl,pg⟩:=zf8 a3;have G':=G.perm pg;refine q d N ds _ ((M.trans Y).free hd) zb ((zlN hl).mono B) (pw.nodup_iff.mpr O) (λv hv=>?_) G' (zlO a6 G'.ne (zbv G'.ne G'.nd)) ((M.trans Y).trans B);have af:=pw.mem_iff.mp hv;obtain⟨a,e1,e2⟩:=m v af;obtain⟨a',N,e3,e4⟩:=xT.some hG v af;refine⟨a,e1,e2,λz=>?_⟩;rw[e1]at e3;injection e3 with e3
   rw[<- e3,z,hd]at e4;cases e4
def PR (H:Hp)(v:V)(p:Int×Int):Prop:=∃a,v=V.ref a/\H a=some (.tup [.int p.1,.int p.2])
def PR.mono {H b:Hp}(s:zo H b){v:V}{p:Int×Int}(h:PR H v p):PR b v p:=let ⟨a,e,h⟩:=h;⟨a,e,s _ _ h⟩
def zbe {H a:Hp}(s:zo H a){b:AE}{ps:List (Int×Int)}(c:yR H b ps):yR a b ps:=by
 induction c with
 | nil=>exact .nil
 | cons h _ d =>
  exact .cons (PR.mono s h) d
def zf9 {H:Hp}{a:AE}{ps:List (Int×Int)}(h:yR H a ps):a.length=ps.length:=Paired.length h
def zbf {H:Hp}{a z:Addr}{o c:HO}(h:H a=some o)(hz:H z=some c)(b:o≠c):a≠z:=λe=>by
 subst e;rw[h]at hz;exact b (Option.some.inj hz)
def znJ {H:Hp}{z:Addr}{ys b:AE}(hz:H z=some (.lst ys)){v:V}{p:Int×Int}(h:PR H v p):PR (upd H z (.lst b)) v p:=by
 obtain⟨a,e,h⟩:=h;refine⟨a,e,?_⟩;rw[zj (zbf h hz (λz=>nomatch z))];exact h
def zbg {H:Hp}{z:Addr}{ys a:AE}(hz:H z=some (.lst ys)){b:AE}{ps:List (Int×Int)}(c:yR H b ps):yR (upd H z (.lst a)) b ps:=by
 induction c with
 | nil=>exact .nil
 | cons h _ d =>
  exact .cons (znJ hz h) d
def yd (N:Addr->Prop)(H:Hp):AE->List (List (Int×Int))->Prop:=Xy λv k=>∃a b,v=V.ref a/\N a/\H a=some (.lst b)/\yR H b k
def jV {N:Addr->Prop}{H b:Hp}(s:zo H b){c:AE}{ks:List (List (Int×Int))}(d:yd N H c ks):yd N b c ks:=by
 induction d with
 | nil=>exact .nil
 | cons q _ f =>
  obtain⟨a,g,e,n,h,t⟩:=q;exact .cons ⟨a,g,e,n,s _ _ h,zbe s t⟩ f
def zcI {N M:Addr->Prop}{H:Hp}(w:∀a,N a->M a){b:AE}{ks:List (List (Int×Int))}(c:yd N H b ks):yd M H b ks:=by
 induction c with
 | nil=>exact .nil
 | cons q _ d =>
  obtain⟨a,f,e,n,h,t⟩:=q;exact .cons ⟨a,f,e,w a n,h,t⟩ d
def zcJ {N:Addr->Prop}{H:Hp}{z:Addr}{ys b:AE}(hz:H z=some (.lst ys))(w:∀a,N a->a≠z){c:AE}{ks:List (List (Int×Int))}(d:yd N H c ks):yd N (upd H z (.lst b)) c ks:=by
 induction d with
 | nil=>exact .nil
 | cons q _ f =>
  revert q;refine d8 λa g e n h t=>?_;exact .cons ⟨a,g,e,n,by rw[zj (w a n)];exact h,zbg hz t⟩ f
def zbh {N:Addr->Prop}{H:Hp}{c:AE}{ks:List (List (Int×Int))}{b:AE}{a:List (List (Int×Int))}(h:yd N H c ks)(k:yd N H b a):yd N H (c++b) (ks++a):=zcd h k
def yx {N:Addr->Prop}{H:Hp}{a:AE}{ks:List (List (Int×Int))}(h:yd N H a ks):a.length=ks.length:=Paired.length h
def zcK {N:Addr->Prop}{H:Hp}{c:AE}{ks:List (List (Int×Int))}{i:Nat}{v:V}(h:yd N H c ks)(e:c[i]?=some v):∃k a b,ks[i]?=some k/\v=V.ref a/\N a/\H a=some (.lst b)/\yR H b k:=by
 refine d9 (λk h1=>fN λa b h2=>?_) (x8 h e);exact⟨k,a,b,h1,h2⟩
def zj5 {N:Addr->Prop}{H:Hp}{b:AE}{ks:List (List (Int×Int))}(c:yd N H b ks):Xy (GS.LstAt H) b ks:=by
 induction c with
 | nil=>exact .nil
 | cons q _ d =>
  obtain⟨a,f,e,_,h,t⟩:=q;exact .cons ⟨a,f,e,h,t⟩ d
def zlQ {N:Addr->Prop}{H:Hp}{c:AE}{ks:List (List (Int×Int))}(f:Xy (GS.LstAt H) c ks)(n:∀v∈c,∃a,v=V.ref a/\N a):yd N H c ks:=by
 induction f with
 | nil=>exact .nil
 | cons q _ i =>
  obtain⟨a,l,e,h,t⟩:=q;obtain⟨b,d,j⟩:=n _ XR;subst e;cases d;exact .cons ⟨_,l,rfl,j,h,t⟩ (i λv g=>n v (XV _ g))
def Qx {N:Addr->Prop}{H:Hp}{c:AE}{ks:List (List (Int×Int))}{v:V}(h:yd N H c ks)(e:v∈c):∃a b,v=V.ref a/\N a/\H a=some (.lst b):=by
 refine d9 (λk _=>d8 λa b h1 h2 d _=>?_) (zkN h e);exact⟨a,b,h1,h2,d⟩
def zlR {H:Hp}{c:AE}{ps:List (Int×Int)}{b:AE}{a:List (Int×Int)}(h:yR H c ps)(k:yR H b a):yR H (c++b) (ps++a):=zcd h k
def nearF (rs:AD)(c x:AA):Bool:=(zP rs c).any λz=>decide (z=x)
def jw (rs:AD)(c:AA):Int:=((Cells.sgn (codes rs) c:Nat):Int)-48
def zj6 (rs:AD)(c:AA):(zP rs c).Nodup:=(qw (Cells.yW _ 0 (codes rs))).sublist Xr
def zlS {rs:AD}{o:AA}{q:AB}(b:q.Nodup):((zP rs o).filter λx=>q.any λz=>decide (z=x)).length=Grow.cnt (nearF rs) o q:=by
 unfold Grow.cnt;refine Sg ((WD ((zj6 rs o).sublist Xr) (b.sublist Xr)).mpr λx=>?_);rw[X5,X5];unfold nearF;rw[WT,WT];constructor
 .rintro⟨h1,y,hy,e⟩;have a:y=x:=bg e;subst a;exact⟨hy,y,h1,br rfl⟩
 .rintro⟨h1,y,hy,e⟩;have a:y=x:=bg e;subst a;exact⟨hy,y,h1,br rfl⟩
def zga (H:Hp)(rs:AD)(v:V)(o:AA):Prop:=∃a b c,v=V.ref a/\H a=some (.tup [.int (jw rs o),.ref b])/\H b=some (.lst c)/\Cel H c (zP rs o)
def zgb (H:Hp)(rs:AD)(b:AB)(v:V)(o:AA):Prop:=∃a c d,v=V.ref a/\H a=some (.tup [.int (jw rs o-((Grow.cnt (nearF rs) o b:Nat):Int)),.int (jw rs o),.ref c])/\H c=some (.lst d)/\Cel H d (zP rs o)
def zj7 {H b:Hp}(s:zo H b){rs:AD}{vs:AE}{cs:AB}(f:Xy (zga H rs) vs cs):Xy (zga b rs) vs cs:=by
 induction f with
 | nil=>exact .nil
 | cons q _ g =>
  revert q;refine eU λa h i e h1 c d=>?_;exact .cons (dD a h i e (s _ _ h1) (s _ _ c) (d.mono s)) g
def zbi {H c:Hp}(s:zo H c){rs:AD}{b:AB}{vs:AE}{cs:AB}(g:Xy (zgb H rs b) vs cs):Xy (zgb c rs b) vs cs:=by
 induction g with
 | nil=>exact .nil
 | cons q _ h =>
  revert q;refine eU λa i j e h1 d f=>?_;exact .cons (dD a i j e (s _ _ h1) (s _ _ d) (f.mono s)) h
def ZD {α a:Type}{R:α->a->Prop}{vs:List α}{cs:List a}{i:Nat}{v:α}(h:Xy R vs cs)(e:vs[i]?=some v):∃c,cs[i]?=some c/\R v c:=x8 h e
def zhA {α b:Type}{R:α->b->Prop}{c:List α}{cs:List b}{a:List α}{cs':List b}(h:Xy R c cs)(k:Xy R a cs'):Xy R (c++a) (cs++cs'):=zcd h k
def zd7 (H e:Hp)(rs:AD)(b:AB)(v:V)(o:AA):Prop:=∃a c d,v=V.ref a/\e a=some (.tup [.int (jw rs o-((Grow.cnt (nearF rs) o b:Nat):Int)),.int (jw rs o),.ref c])/\H c=some (.lst d)/\Cel H d (zP rs o)
def zhB {H c d:Hp}(s:zo c d){rs:AD}{b:AB}{vs:AE}{cs:AB}(h:Xy (zd7 H c rs b) vs cs):Xy (zd7 H d rs b) vs cs:=by
 induction h with
 | nil=>exact .nil
 | cons q _ i =>
  revert q;refine eU λa j l e h1 f g=>?_;exact .cons (dD a j l e (s _ _ h1) f g) i
theorem zcL {H c:Hp}{z:Addr}{ys d:AE}(hz:c z=some (.lst ys)){rs:AD}{b:AB}:∀{vs:AE} {cs:AB},Xy (zd7 H c rs b) vs cs->Xy (zd7 H (upd c z (.lst d)) rs b) vs cs
 | _,_,.nil=>.nil
 | _,_,.cons ⟨a,h,j,e,h1,f,g⟩ t=>.cons ⟨a,h,j,e,by
   have i:a≠z:=λe=>by
    subst e;rw[h1]at hz;cases hz
   rw[zj i];exact h1,f,g⟩ (zcL hz t)
def zhC {H c:Hp}(s:zo H c){rs:AD}{b:AB}{vs:AE}{cs:AB}(g:Xy (zd7 H c rs b) vs cs):Xy (zgb c rs b) vs cs:=by
 induction g with
 | nil=>exact .nil
 | cons q _ h =>
  revert q;refine eU λa i j e h1 d f=>?_;exact .cons (dD a i j e h1 (s _ _ d) (f.mono s)) h
def znK:Sp:=λm H Q _=>∃(h f g:Addr) (j i:AE) (e:AD) (O a:AB) (c:AA),m=[.ref h,.ref f,.ref g]/\H h=some (.lst j)/\Xy (zga H e) j O/\O.length<=64/\Rows bd.cps.toList e/\H f=some (.tup [.int (c.1:Nat),.int (c.2:Nat)])/\H g=some (.lst i)/\Cel H i a/\a.Nodup /\
 ∀(d:Addr) (l:AE) (b:Hp),b d=some (.lst l)->Xy (zgb b e a) l (O.filter λo=>nearF e o c)->zo H b->Q (.ref d) b
def zre:Sp:=λf H Q _=>∃(d e:Addr) (un up:AE) (b:AD) (a O q:AB),f=[.ref d,.ref e]/\H d=some (.lst un)/\Xy (zgb H b a) un O/\H e=some (.lst up)/\Cel H up q/\q.length<=64 /\
 ∀c:Hp,zo H c->Q (.bl (O.all λo=>Grow.zcz (nearF b) (jw b) a o q)) c
def xU:zD ["told","cell","rest","needs","number","near","left"] ["told","cell","rest"] (zp yX):=bh
def zgc (T:Txt mg)(D:zm K mg "needs_at" yX ["told","cell","rest"] f fd):qc P w K mg base CX0 1 f fd ["told","cell","rest"] znK:=by
 refine D.F.ok xU (λvs H Q E h=>?_) (λan A aj s H vs Q E hr h=>?_)
 .revert h;refine fL λta ca ra ut ur j O g c z0 _=>?_;subst z0;rfl
 .revert h;refine eE λta ca ra ut ur j O g=>fj λc z0 ab hT ol=>fm λR af ah ag ak q=>?_;subst z0;refine⟨_,(@ze _ _ _ _ _ (@qh _ _ 3 _ _ _ _ xU.nd rfl (V2 rfl) (@zO _ _ _ _ zd) (by rfl) (.inr rfl)) (ze (qx Xc rfl (zw (pvS 0)) (jO rfl (zE (pgq 4 xU.nd) (zE (pgq 5 xU.nd) qT))) (zf (qJ (zI (zca hr.units) (pvS 1) (pvS 5) (by rfl)) (ze (jf 6 xU.nd (pb1 zB T.qK Xj (pcm ["place","rest"] [none,some 2] cR (zw (pvS 5)) (pgN 0) (zU (zI (jq (K:=K) (by rfl) hr.units) (pvS 0) (pvS 1) (by rfl))) (pvS 0)))) (zf (jj (yH W7 WI WH yj (pvS 3) (za (ql (za (zK yM (pvS 4) (pvS 6)) (za (pvS 4) (za (pvS 5) zd)))) zd))))) qa))) (zf (zx (pvS 3))))),?_⟩;(try dsimp only[cxK,cxP,cxW]);refine⟨jR,λd hd=>?_⟩;have s0:=zc (o:=.lst []) hd;refine⟨_,rfl,ta,rfl,⟨_,SqL.of (s0 _ _ ab)⟩,?_⟩;refine jF (K:=K) (a:=ta) (xs:=ut) (λi L H'=>∃(r:AE) (v4 v5 v6:Option V),L=[some (.ref ta),some (.ref ca),some (.ref ra),some (.ref d),v4,v5,v6]/\zo H H'/\H' d=some (.lst r)/\Xy (zd7 H H' j g) r ((O.take i).filter λo=>nearF j o c))
   ⟨[],(dh (cJ rfl s0 zb (.nil)))⟩ (λi L H' _ ⟨_,_,_,_,_,z,_⟩=>SqL.of (z _ _ ab)) ?_ ?_
  .refine λi x L H1 hx=>eX λr v4 v5 v6 z0 s1 n M=>?_;subst z0;refine fH (λo ho a na wn z0 ae B y=>?_) (ZD hT hx);subst z0;have ha:=s1 _ _ ae;have I:=s1 _ _ B;have l:=y.mono s1;have tk:O.take (i+1)=O.take i++[o]:=by
    rw[Xb,ho];rfl
   refine di a rfl (SqT.of ha) rfl rfl rfl rfl ?_;refine⟨_,rfl,_,rfl,zk c,(zP j o).map zk,jU.rdv ⟨ca,rfl,s1 _ _ af⟩,.lst (SqL.of I) (zlK l),rfl,JY _,(by show 1<=60;decide),_,rfl,?_⟩;have ei:(if false=true then !((zP j o).map zk).any (λz=>WW z (zk c)) else ((zP j o).map zk).any λz=>WW z (zk c))=nearF j o c:=xR _ _;rw[ei,tk,WZ];by_cases p:nearF j o c=true
   .have ef:[o].filter (λo=>nearF j o c)=[o]:=by
     rw[WJ,bw p];rfl
    rw[ef];refine qQ p ⟨_,rfl,na,rfl,⟨_,SqL.of I⟩,λz hz=>?_⟩;refine zM (K:=K) (a:=na) (xs:=wn) (λa=>a≠z) ((zP j o).map λx=>if (g.any λz=>decide (z=x))=true then some (zk x) else none) (fun L=>∃u0,L=[u0,some (.ref ra)]) hz (λ_ h=>h) ⟨_,rfl⟩ (by rw[ZB];exact l.length.symm) (by rw[l.length];exact X6 (Zu R o) (by decide)) (SqL.of I) ?_ ?_
    .rintro m v u L H2 hv hu N _ ⟨u1,rfl⟩ Y Z am no;obtain⟨e,he,rc⟩:=Cel.get (l.mono N) hv;have eo:=qt he hu;refine⟨_,rfl,_,rfl,zk e,g.map zk,rc.rdv,.lst (SqL.of (N _ _ (s1 _ _ ah))) (zlK ((ag.mono s1).mono N)),rfl,JY _,(by show 1<=60;decide),_,rfl,?_⟩;have ei:(if false=true then !(g.map zk).any (λz=>WW z (zk e)) else (g.map zk).any λz=>WW z (zk e))=g.any λz=>decide (z=e):=xR _ _;rw[ei];by_cases p:(g.any λz=>decide (z=e))=true
     .rw[bw p]at eo;exact qQ p ⟨_,rfl,am _ _ _ _ eo ⟨_,rfl⟩ (zo.refl _) rc.rdn⟩
     .rw[bq p]at eo;exact qu (XO.mpr p) (no _ _ eo ⟨_,rfl⟩ (zo.refl _))
    rintro ys H2 N ai aa;have er:((zP j o).map λx=>if (g.any λz=>decide (z=x))=true then some (zk x) else none).filterMap id=((zP j o).filter λx=>g.any λz=>decide (z=x)).map zk:=zJ _ _ _;rw[er]at aa;have yl:ys.length=Grow.cnt (nearF j) o g:=(zq.cel aa).length.trans (zlS ak);have G:=N _ _ n;refine⟨z,ys,rfl,.inl (SqL.of ai),?_⟩;rw[yl];refine⟨_,rfl,.inl ⟨rfl,_,SqL.of G⟩,_,rfl,_,rfl,_,_,rfl,rfl,_,rfl,_,rfl,zfX,λtt J=>?_⟩;have z3:=zc (o:=.tup [.int (jw j o-((Grow.cnt (nearF j) o g:Nat):Int)),.int (jw j o),.ref na]) J;have ac:=N.trans z3;have al:r.length<=64:=by
     rw[Paired.length M];refine X6 (Xw _ _) ?_;rw[XJ];lia
    have U:=z3 _ _ G;refine⟨d,r,_,rfl,rfl,U,XE al (by decide),r++[.ref tt],_,_,_,rfl,λb e' h'=>?_,zb,zhA (zcL U (zhB ac M)) (.cons (dD tt na wn rfl ?_ B y) .nil)⟩
    .rw[zj (zh h' hd)];exact ac _ _ (s1 _ _ h')
    .have ne:tt≠d:=λe=>by
      subst e;rw[G]at J;cases J
     rw[zj ne,zb]
   .have ef:[o].filter (λo=>nearF j o c)=[]:=by
     rw[WJ,bq p];rfl
    rw[ef,Xu];exact qu (XO.mpr p) ⟨r,(dh (cJ rfl s1 n M))⟩
  .refine λL H1=>eX λr v4 v5 v6 z0 s1 n M=>?_;subst z0;rw[Paired.length hT,XF]at M;exact⟨_,rfl,q d r H1 n (zhC s1 M) s1⟩
def Yo:zD ["needs","pick","least","most","near"] ["needs","pick"] (zp JG):=bh
def zhD (T:Txt mg)(D:zm K mg "may_fit" JG ["needs","pick"] f fd):qc P w K mg base CX0 1 f fd ["needs","pick"] zre:=by
 refine D.F.ok Yo (λvs H Q E h=>?_) (λae A ab s H vs Q E hr h=>?_)
 .revert h;refine eE λL M un up b c O p=>eV λz0 _=>?_;subst z0;rfl
 .revert h;refine eE λL M un up b c O p=>eY λz0 r hN y=>eN λg pl q=>?_;subst z0;refine⟨_,(ze (qx Xc rfl (zw (pvS 0)) (jO rfl (zE (pgq 2 Yo.nd) (zE (pgq 3 Yo.nd) (zE (pgq 4 Yo.nd) qT)))) (zf (qJ (zeq (YJ Zs Zs (pvS 2) (pb1 zB T.qK Xj (pcm ["cell","near"] [none,some 4] cR (zw (pvS 1)) (pgN 0) (zU (zI (jq (K:=K) (by rfl) hr.units) (pvS 0) (pvS 1) (by rfl))) (pvS 0))) (pvS 3))) (@zf _ _ _ (@zx _ _ _ _ zfg)) qa))) (@zf _ _ _ (@zx _ _ _ _ zfg))),?_⟩;(try dsimp only[cxK,cxP,cxW]);refine⟨_,rfl,L,rfl,⟨_,SqL.of r⟩,?_⟩;refine jF (K:=K) (a:=L) (xs:=un) (λi j H'=>∃(v2 v3 v4:Option V),j=[some (.ref L),some (.ref M),v2,v3,v4]/\zo H H'/\∀o∈O.take i,Grow.zcz (nearF b) (jw b) c o p=true)
   (dh (cH rfl (zo.refl _) (λo I=>by simp at I))) (λi j H' _ ⟨_,_,_,_,z,_⟩=>SqL.of (z _ _ r)) ?_ ?_
  .refine λi x j H1 hx=>fh λv2 v3 v4 z0 s1 d=>?_;subst z0;refine fH (λo I a ra wn z0 ha U N=>?_) (ZD (zbi s1 hN) hx);subst z0;refine d7 a rfl (SqT.of ha) rfl rfl (cI ⟨rfl,(cT rfl rfl ?_)⟩);refine⟨_,rfl,_,rfl,M,rfl,⟨_,SqL.of (s1 _ _ y)⟩,λz hz=>?_⟩;refine zM (K:=K) (a:=M) (xs:=up) (λa=>a≠z) (p.map λx=>if nearF b o x=true then some (zk x) else none) (fun j=>∃u0,j=[u0,some (.ref ra)]) hz (λ_ h=>h) ⟨_,rfl⟩ (by rw[ZB];exact g.length.symm) (by rw[g.length];exact X6 pl (by decide)) (SqL.of (s1 _ _ y)) ?_ ?_
   .rintro m v u j H2 hv hu l _ ⟨u1,rfl⟩ Y Z ac no;obtain⟨e,he,rc⟩:=Cel.get ((g.mono s1).mono l) hv;have G:=qt he hu;refine⟨_,rfl,_,rfl,zk e,(zP b o).map zk,rc.rdv,.lst (SqL.of (l _ _ U)) (zlK (N.mono l)),rfl,JY _,(by show 1<=60;decide),_,rfl,?_⟩;have ei:(if false=true then !((zP b o).map zk).any (λz=>WW z (zk e)) else ((zP b o).map zk).any λz=>WW z (zk e))=nearF b o e:=xR _ _;rw[ei];by_cases J:nearF b o e=true
    .rw[bw J]at G;exact qQ J ⟨_,rfl,ac _ _ _ _ G ⟨_,rfl⟩ (zo.refl _) rc.rdn⟩
    .rw[bq J]at G;exact qu (XO.mpr J) (no _ _ G ⟨_,rfl⟩ (zo.refl _))
   rintro ys H2 l aa B;have er:(p.map λx=>if nearF b o x=true then some (zk x) else none).filterMap id=(p.filter (nearF b o)).map zk:=zJ _ _ _;rw[er]at B;have yl:ys.length=Grow.cnt (nearF b) o p:=(zq.cel B).length;refine⟨z,ys,rfl,.inl (SqL.of aa),?_⟩;rw[yl];have om:=X8 I;have tk:O.take (i+1)=O.take i++[o]:=by
    rw[Xb,I];rfl
   have n:Grow.zcz (nearF b) (jw b) c o p=false->Q (.bl false) H2:=λe=>by
    have e2:(O.all λo=>Grow.zcz (nearF b) (jw b) c o p)=false:=XO.mpr λz=>by
     have:=WK.mp z o om;rw[e]at this;cases this
    rw[e2]at q;exact q _ (s1.trans l)
   refine⟨_,_,rfl,rfl,_,rfl,?_⟩;by_cases h1:jw b o-((Grow.cnt (nearF b) o c:Nat):Int)<=((Grow.cnt (nearF b) o p:Nat):Int)
   .rw[br h1];refine Z0 ⟨_,rfl,_,_,rfl,rfl,_,rfl,?_⟩;by_cases h2:((Grow.cnt (nearF b) o p:Nat):Int)<=jw b o
    .rw[br h2];refine xX (dh (cH rfl (s1.trans l) (λo' ho'=>?_)));rw[tk]at ho';rcases XM.mp ho' with ho' | ho'
     .exact d o' ho'
     .have e:o'=o:=by simpa using ho'
      rw[e];exact Grow.yi.mpr ⟨h1,h2⟩
    .rw[bf h2];exact Z0 (n (XO.mpr λz=>h2 (Grow.yi.mp z).2))
   .rw[bf h1];refine xX (cG rfl ?_);exact Z0 (n (XO.mpr λz=>h1 (Grow.yi.mp z).1))
  .refine λj H1=>fh λv2 v3 v4 z0 s1 d=>?_;subst z0;rw[Paired.length hN,XF]at d;have e:(O.all λo=>Grow.zcz (nearF b) (jw b) c o p)=true:=WK.mpr d;rw[e]at q;exact q H1 s1
def toL (q:AB):List (Int×Int):=q.map toI
def zrU:Sp:=λi H Q _=>∃(a l h:Addr) (b:AD) (n:Int) (c:AE) (part:AB),i=[.ref a,.ref h]/\qj H a l b n/\Rows bd.cps.toList b/\H h=some (.lst c)/\Cel H c part/\part.Nodup/\part.length<=14 /\
 ∀(d:Addr) (g:AE) (f:List (List (Int×Int))) (e:Hp),H d=none->e d=some (.lst g)->yd (λa=>H a=none/\a≠d) e g f->g.Nodup->f.Perm (((Subs.subs part).filter (Grow.fits (nearF b) (jw b) (J0 b part) part)).map toL)->f.Pairwise (λp q=>PySem.SeqAt.ltL q p=false)->zo H e->Q (.ref d) e
def jE (rs:AD)(part:AB):Nat->List AB
 | 0=>[[]]
 | i+1=>match part[i]? with
  | some c=>(Subs.step (jE rs part i) c).filter (Grow.chk (nearF rs) (jw rs) (J0 rs part) c (part.drop (i+1)))
  | none=>jE rs part i
def zcM {rs:AD}{part:AB}{i:Nat}{c:AA}(h:part[i]?=some c):jE rs part (i+1)=(Subs.step (jE rs part i) c).filter (Grow.chk (nearF rs) (jw rs) (J0 rs part) c (part.drop (i+1))):=by
 show (match part[i]? with | some c=>_ | none=>_)=_;rw[h]
theorem zcN {rs:AD}{part:AB}:∀(k i:Nat),part.length-i=k->i<=part.length->Grow.grow (nearF rs) (jw rs) (J0 rs part) (jE rs part i) (part.drop i)=jE rs part part.length
 | 0,i,h,b=>by
  have e:i=part.length:=by lia
  subst e;rw[List.drop_length];rfl
 | k+1,i,h,b=>by
  have a:i<part.length:=by lia
  rw[WB a];show Grow.grow _ _ _ ((Subs.step (jE rs part i) part[i]).filter _) (part.drop (i+1))=_;rw[<- zcM (XY a)];exact zcN k (i+1) (by lia) (by lia)
def zd8 (rs:AD)(part:AB):jE rs part part.length=(Subs.subs part).filter (Grow.fits (nearF rs) (jw rs) (J0 rs part) part):=by
 rw[<- Grow.znu];exact(zcN (rs:=rs) (part:=part) part.length 0 (by lia) (W1 _)).symm
theorem Qy (rs:AD)(part:AB):∀i,(jE rs part i).length<=2^i
 | 0=>XT _
 | i+1=>by
  have a:=Qy rs part i;show (match part[i]? with | some c=>_ | none=>_:List AB).length<=_;rw[Ut];split
  .refine X6 (Xw _ _) ?_;unfold Subs.step;rw[X4,ZB];lia
  .lia
theorem zcO (rs:AD)(part:AB):∀i,∀q∈jE rs part i,q.length<=i
 | 0,q,h=>by
  have e:q=[]:=by simpa[jE] using h
  rw[e];exact XT _
 | i+1,q,h=>by
  have a:=zcO rs part i;cases e:part[i]? with
  | none =>
   have b:jE rs part (i+1)=jE rs part i:=by
    show (match part[i]? with | some c=>_ | none=>_)=_;rw[e]
   rw[b]at h;exact Uc (a q h)
  | some c =>
   rw[zcM e]at h;have h:=(X5.mp h).1;rcases XM.mp h with h | h
   .exact Uc (a q h)
   .obtain⟨p,d,rfl⟩:=XN.mp h;rw[X4];exact Nat.succ_le_succ (a p d)
def tD2 (rs:AD)(c:AA):We:=.tuple [.int (jw rs c),.list ((zP rs c).map zk)]
def zlT {N:Addr->Prop}{H:Hp}{rs:AD}{v:V}{c:AA}(h:Rdn N H v (tD2 rs c)):zga H rs v c:=by
 unfold tD2 at h;generalize a:(zP rs c).map zk=ds at h;cases h with
 | tup h t =>
  cases t with
  | cons b t =>
   cases b;cases t with
   | cons d t =>
    cases t;cases d with
    | lst n h1 h2 =>
     subst a;exact dh (cJ rfl h h1 (zq.cel h2))
theorem zd9 {N:Addr->Prop}{H:Hp}{rs:AD}:∀{cs:AB} {vs:AE},zq N H vs (cs.map (tD2 rs))->Xy (zga H rs) vs cs
 | [],_,.nil=>.nil
 | _::_,_,.cons h t=>.cons (zlT h) (zd9 t)
def Q0 {c:St}{H:Hp}{A B:Hp->Prop}(h:A H):zkK c H λb a=>if b=true then A a else B a:=by
 show if true=true then A H else B H
 rw[bw rfl];exact h
def zlU {F:List AB}{j:Nat}{k:List (Int×Int)}(h:(F.map toL)[j]?=some k):∃q,F[j]?=some q/\k=toL q:=by
 rw[XB]at h;cases e:F[j]? with
 | none=>rw[e]at h;cases h
 | some q =>
  rw[e]at h;cases h;exact⟨q,rfl,rfl⟩
def zlV (xs:AE)(i:Nat)(a:i<xs.length):zjj xs (some (((i:Nat):Int)+1)) none=xs.drop (i+1):=by
 have e:HT.sIx xs.length 0 (some (((i:Nat):Int)+1))=i+1:=by
  have:=HT.zmS xs.length 0 (i+1);rw[PZ]at this;rw[show (((i:Nat):Int)+1)=((i:Nat):Int)+((1:Nat):Int) from rfl,this];lia
 unfold zjj;rw[e];show (xs.drop (i+1)).take (xs.length-(i+1))=_;rw[WE (by rw[U4];lia)]
theorem zgd {H:Hp}:∀{a:AE} {cs:AB} (i:Nat),Cel H a cs->Cel H (a.drop i) (cs.drop i)
 | _,_,0,h=>h
 | _,_,i+1,.nil=>.nil
 | _,_,i+1,.cons _ t=>zgd i t
def qB:zD ["board","part","told","found","place","cell","needs","grown"] ["board","part"] (zp jS):=bh
def zbM {f1 f2 f3 f4 f5 f6 f7 f8:Addr}{aP aQ aR aS aT aU aV aW:XC}(T:Txt mg)(D:zm K mg "part_layings" jS ["board","part"] f fd)(zY:zm K mg "around" jJ ["board","cell"] f1 aP)(zu:zm K mg "sign_at" qF ["board","cell"] f2 aQ)
  (zG:zm K mg "cells_of" qE ["board"] f3 aR) (zF:zm K mg "open_cells" qL ["board"] f4 aS) (qe:zm K mg "number_at" jB ["board","cell"] f5 aT) (j7:zm K mg "numbers_of" j3 ["board","part"] f6 aU)
  (yZ:zm K mg "needs_at" yX ["told","cell","rest"] f7 aV) (JH:zm K mg "may_fit" JG ["needs","pick"] f8 aW):qc P w K mg base CX0 4 f fd ["board","part"] zrU:=by
 refine D.F.ok qB (λvs H Q E h=>?_) (λbF A b6 s H vs Q E hr h=>?_)
 .revert h;refine fC λa l pa rs n I part z0 _=>?_;subst z0;rfl
 .revert h;refine fG λa l pa rs n I part z0 b R a2=>eZ λah b7 pl q=>?_;subst z0;have ul:=ah.length;refine⟨_,(ze (qJ (zI zcx (pb1 zB T.qK Xj (pvS 1)) (Jl (v:=.int 14) (by rfl) T.zcC.choose_spec (by exact⟨_,rfl⟩)) (zT _)) (zf zfh) qa) (ze (psC 2 qB.nd ["cell","board"] [none,some 0] cR (zw (pc0 (zdm T j7 zY zu zG zF) hr j7 (za (pvS 0) (za (pvS 1) zd)))) (pgN 0) qD (ql (za (pc0 (Yn T qe zu) hr qe (za (pvS 1) (za (pvS 0) zd))) (za (pc0 (Qu T zY) hr zY (za (pvS 1) (za (pvS 0) zd))) zd)))) (@ze _ _ _ _ _ (@qh _ _ 3 _ _ _ _ qB.nd rfl (V2 rfl) (@zO _ _ _ _ (@za _ _ _ _ _ (@zO _ _ _ _ zd) zd rfl)) (by rfl) (.inr rfl)) (ze (qx Xc rfl (JN (by rfl) T.jr (za (pvS 1) zd)) (jO rfl (zE (pgq 4 qB.nd) (zE (pgq 5 qB.nd) qT))) (ze (jf 6 qB.nd (pc0 (zgc T yZ) hr yZ (za (pvS 2) (za (pvS 5) (za (zkD zmX (pvS 1) (zmV (zK Jp (pvS 4) zg)) zmU) zd))))) (ze (jf 7 qB.nd (zK JK (pvS 3) (pcm ["pick","cell"] [none,some 5] cR (zw (pvS 3)) (pgN 0) qD (zK JK (pvS 0) (zO (za (pvS 1) zd)))))) (zf (psC 3 qB.nd ["pick","needs"] [none,some 6] cR (zw (pvS 7)) (pgN 0) (zU (yq (K:=K) (by rfl) (pc0 (zhD T JH) hr JH (za (pvS 1) (za (pvS 0) zd))) (λ_=>rfl))) (pvS 0)))))) (zf (zx (pb1 (GS.QL hr.units) T.jT WG (pvS 3)))))))),?_⟩;(try dsimp only[cxK,cxP,cxW]);refine⟨_,rfl,pa,I,rfl,.inl (SqL.of a2),_,_,rfl,rfl,_,rfl,?_⟩;refine qu (bf (by lia)) ?_;refine⟨_,rfl,_,rfl,a,l,pa,rs,n,I,part,rfl,b,R,a2,ah,λd ws H1 hd aC au s1=>(cK d rfl ⟨_,SqL.of aC⟩ (λz hz=>?_))⟩;have b1:=b.mono s1;have nl:(J0 rs part).length<=64:=X6 (Xw _ _) (qO (p:=yT) R);refine zM (K:=K) (a:=d) (xs:=ws) (λa=>a≠z) ((J0 rs part).map λc=>some (tD2 rs c)) (fun σ=>∃u0,σ=[u0,some (.ref a)]) hz (λ_ h=>h) ⟨_,rfl⟩ (by rw[ZB];exact au.length.symm) (by rw[au.length];exact X6 nl (by decide)) (SqL.of aC) ?_ ?_
  .rintro k x o σ H2 hx ho s2 b3 ⟨u0,rfl⟩ Y Z bB no;obtain⟨y,hy,r1⟩:=Cel.get au hx;have eo:=qt hy ho;have yo:y∈zV rs:=(X5.mp (X8 hy)).1;refine d8 (λt sg ht hj bo es=>?_) (zR yo);obtain⟨ya,rfl,bx⟩:=r1;obtain⟨l1,l2⟩:=yk R ht hj;obtain⟨o1,o2⟩:=Qt (ziD R ht hj) bo;have b2:=b1.mono s2;have ao:=s2 _ _ bx;refine Jm ⟨_,rfl,_,rfl,a,l,ya,rs,n,y.1,y.2,t,sg,rfl,b2,ao,ht,hj,R.tlen ht,o1,o2,_,rfl,_,rfl,a,l,ya,rs,n,y.1,y.2,rfl,b2,R,ao,l1,l2,λd2 bI H3 bi bj bc s3=>⟨yD,λtt a3=>?_⟩⟩;have s4:=zc (o:=.tup [.int (((sg:Nat):Int)-48),.ref d2]) a3;have en:jw rs y=((sg:Nat):Int)-48:=by
    unfold jw;rw[es]
   refine bB _ _ _ _ eo ⟨_,rfl⟩ (s3.trans s4) (.tup zb (.cons ?_ (.cons (.lst (λe=>b3 (e ▸ bi)) (s4 _ _ bj) (Cel.rdn (bc.mono s4))) .nil)));rw[en];exact .int _
  rintro ut H2 s2 b0 aH;rw[ZK]at aH;have hT:=zd9 aH;have af:=s1.trans s2;refine⟨jR,λe0 aD=>⟨sz_1,λf0 bm=>?_⟩⟩;have y1:=zc (o:=.lst []) aD;have y2:=zc (o:=.lst [.ref e0]) bm;have aN:=y1.trans y2;have aZ:yd (λa=>H2 a=none) (upd (upd H2 e0 (.lst [])) f0 (.lst [.ref e0])) [.ref e0] ([[]]:List (List (Int×Int))):=.cons ⟨e0,[],rfl,aD,y2 _ _ zb,.nil⟩ .nil;have bn:upd (upd H2 e0 (.lst [])) f0 (.lst [.ref e0]) f0=some (.lst [.ref e0]):=zb;generalize upd (upd H2 e0 (.lst [])) f0 (.lst [.ref e0])=H3 at *
  have ae:=af _ _ a2;refine⟨_,rfl,pa,rfl,⟨_,SqL.of (aN _ _ ae)⟩,?_⟩;refine JE (K:=K) (l:=pa) (xs:=I) (λi σ L=>∃(fa:Addr) (fs:AE) (v4 v5 v6 v7:Option V),σ=[some (.ref a),some (.ref pa),some (.ref z),some (.ref fa),v4,v5,v6,v7]/\zo H2 L/\L fa=some (.lst fs)/\yd (λa=>H2 a=none) L fs ((jE rs part i).map toL)/\fs.Nodup)
   ⟨f0,(dJ rfl aN bn aZ (by simp))⟩ (λi σ L _ ⟨_,_,_,_,_,_,_,y,_⟩=>SqL.of (y _ _ ae)) ?_ ?_
  .refine λi x tt σ H4 hx a3=>eH λfa fs v4 v5=>eK λv6 v7 z0 s4 aw hL ax=>?_;subst z0;refine eW (λc hc B z0 be=>?_) (Cel.get ((ah.mono af).mono s4) hx);subst z0;have il:=(XX.mp hx).1;have z5:=zc (o:=.tup [.int (i:Nat),.ref B]) a3;refine di tt rfl (SqT.of zb) rfl rfl rfl rfl ?_;have s5:=s4.trans z5;have am:=z5 _ _ be;have aE:=z5 _ _ aw;have ba:=jV z5 hL;generalize upd H4 tt (.tup [.int (i:Nat),.ref B])=H5 at *
   refine⟨_,rfl,_,rfl,_,rfl,_,rfl,_,_,rfl,rfl,_,rfl,pa,I,rfl,SqL.of (s5 _ _ ae),λx1 bv=>?_⟩;have e1:=zlV I i il;rw[e1]at *
   have z6:=zc (o:=.lst (I.drop (i+1))) bv;have s6:=s5.trans z6;refine dU z B x1 ut (I.drop (i+1)) rs (J0 rs part) (part.drop (i+1)) (cM c rfl (s6 _ _ b0) (zj7 s6 hT) nl (cQ R (z6 _ _ am) zb (zgd _ ((ah.mono af).mono s6)) (b7.sublist (RM _ _)) (λnd un H6 bD hN s7=>?_)));have al:=z6.trans s7;have aK:=s5.trans al;have ac:=al _ _ aE;have ar:=jV al ba;have aB:=al _ _ am;have b4:i<=13:=by lia
   have fl:fs.length<=8192:=by
    rw[yx hL,ZB];exact X6 (Qy rs part i) (TZ (by decide) b4)
   have dp:=zcO rs part i;have eG:=zcM (rs:=rs) hc;have gl:=Qy rs part i;generalize jE rs part i=F at *
   refine⟨_,rfl,_,rfl,fa,rfl,⟨_,SqL.of ac⟩,λy hy=>?_⟩;refine qN (K:=K) (a:=fa) (xs:=fs) (λj r L=>∃(u0:Option V) (m:AE),r=[u0,some (.ref B)]/\zo H6 L/\L y=some (.lst m)/\yd (λa=>H6 a=none/\a≠y) L m (((F.take j).map (·++[c])).map toL)/\m.Nodup)
    (dH [] rfl (zc hy) zb (.nil) VX) (λj r L _ ⟨_,_,_,z,_⟩=>SqL.of (z _ _ ac)) ?_ ?_
   .refine λj v r H7 hv=>eK λu0 m z0 s8 ak G a8=>?_;subst z0;refine e7 (λk a1 U hk z0 an ab t1=>?_) (zcK ar hv);subst z0;obtain⟨q1,N,rfl⟩:=zlU hk;have kd:=dp q1 (X8 N);have wl:U.length=q1.length:=(zf9 t1).trans (ZB _);have tj:((F.take (j+1)).map (·++[c])).map toL=((F.take j).map (·++[c])).map toL++[toL q1++[toI c]]:=by
     rw[Xb,N,Xs,Xs];simp[toL]
    rw[tj];unfold yS;refine Q0 ?_;refine⟨_,rfl,_,rfl,sz_1,λt2 bt=>?_⟩;have y5:=zc (o:=.lst [.ref B]) bt;refine cL a1 t2 U [.ref B] (cQ rfl rfl (y5 _ _ (s8 _ _ ab)) zb (X6 (show U.length+1<=100 by lia) (by decide)) (λt3 aj=>?_));have y6:=zc (o:=.lst (U++[.ref B])) aj;have ag:=y5.trans y6;have h6:upd (upd H7 t2 (.lst [.ref B])) t3 (.lst (U++[.ref B])) t3=some (.lst (U++[.ref B])):=zb;have tz:t3≠y:=λe=>by
     subst e;rw[y5 _ _ ak]at aj;cases aj
    have n4:=y5.free aj;have n3:=s8.free n4;have c1:yR (upd (upd H7 t2 (.lst [.ref B])) t3 (.lst (U++[.ref B]))) [.ref B] [toI c]:=.cons ⟨B,rfl,ag _ _ (s8 _ _ aB)⟩ .nil;have bA:=zlR (zbe (s8.trans ag) t1) c1;generalize upd (upd H7 t2 (.lst [.ref B])) t3 (.lst (U++[.ref B]))=H8 at *
    have a6:=ag _ _ ak;have yl:m.length<=8192:=by
     rw[yx G,ZB,ZB,XJ];have:=yx hL;rw[ZB]at this;lia
    refine cK m a6 (XE yl (by decide)) (dH (m++[.ref t3]) rfl (λb' o e=>?_) zb (zbh (zcJ a6 (λa h=>h.2) (jV ag G)) (.cons (cO t3 (U++[.ref B]) rfl ⟨n3,tz⟩ (by rw[zj tz];exact h6) (zbg a6 bA)) .nil)) ?_)
    .rw[zj (zh e hy)];exact ag _ _ (s8 _ _ e)
    .refine WY.mpr ⟨a8,by simp,λu hu u' a4 e=>?_⟩;obtain⟨b',wb,rfl,_,hb⟩:=Qx G hu;have e2:u'=.ref t3:=by simpa using a4
     rw[e2]at e;cases e;rw[hb]at n4;cases n4
   refine λr H7=>eK λu0 m z0 s8 ak G a8=>?_;subst z0;have aX:fs.length=F.length:=(yx hL).trans (ZB _);rw[aX,XF]at G;have yl:m.length<=8192:=by
    rw[yx G,ZB,ZB];lia
   refine cL fa y fs m (cQ rfl rfl (s8 _ _ ac) ak (X6 (Nat.add_le_add fl yl) (by decide)) (λg hg=>?_));have y9:=zc (o:=.lst (fs++m)) hg;have b8:=aK.trans s8;have b9:=b8.trans y9;have aF:upd H7 g (.lst (fs++m)) g=some (.lst (fs++m)):=zb;have a9:yd (λa=>H2 a=none) (upd H7 g (.lst (fs++m))) (fs++m) ((Subs.step F c).map toL):=by
    unfold Subs.step;rw[Xs];exact zbh (jV (s8.trans y9) ar) (jV y9 (zcI (λa h=>aK.free h.1) G))
   have aY:(fs++m).Nodup:=by
    refine WY.mpr ⟨ax,a8,λu hu u' a4 e=>?_⟩;obtain⟨b',wb,rfl,_,hb⟩:=Qx ar hu;obtain⟨b2,bH,rfl,aA,_⟩:=Qx G a4;cases e;rw[hb]at aA;cases aA.1
   have aG:=(s8.trans y9) _ _ bD;have bb:=zbi (s8.trans y9) hN;have bG:(fs++m).length<=16384:=by
    rw[X4];lia
   have aO:∀q∈Subs.step F c,q.length<=64:=λq hq=>by
    rcases XM.mp hq with hq | hq
    .have:=dp q hq;lia
    .obtain⟨p',ay,rfl⟩:=XN.mp hq;have:=dp p' ay;rw[X4];show p'.length+1<=64;lia
   generalize fs++m=gs at *
   generalize Subs.step F c=S at *
   generalize upd H7 g (.lst gs)=H8 at *
   refine⟨_,rfl,g,rfl,⟨_,SqL.of aF⟩,λy2 a5=>?_⟩;refine qN (K:=K) (a:=g) (xs:=gs) (λj r L=>∃(u0:Option V) (m:AE),r=[u0,some (.ref nd)]/\zo H8 L/\L y2=some (.lst m)/\yd (λa=>H2 a=none/\a≠y2) L m (((S.take j).filter (Grow.chk (nearF rs) (jw rs) (J0 rs part) c (part.drop (i+1)))).map toL)/\m.Sublist (gs.take j))
    (dH [] rfl (zc a5) zb (.nil) List.Sublist.slnil) (λj r L _ ⟨_,_,_,z,_⟩=>SqL.of (z _ _ aF)) ?_ ?_
   .refine λj v r H9 hv=>eK λu0 m z0 s9 a7 aa O=>?_;subst z0;refine e7 (λk a1 U hk z0 an ab t1=>?_) (zcK a9 hv);subst z0;refine d9 (λq1 N z0=>?_) (zlU hk);subst z0;have tf:gs.take (j+1)=gs.take j++[.ref a1]:=by
     rw[Xb,hv];rfl
    refine⟨_,rfl,_,rfl,nd,a1,un,U,rs,part.drop (i+1),_,q1,rfl,s9 _ _ aG,zbi s9 bb,s9 _ _ ab,(qA t1).mono s9,aO q1 (X8 N),λbE J=>(cG rfl ?_)⟩;rw[tf];have M:=J _ _ a7;show if Grow.chk (nearF rs) (jw rs) (J0 rs part) c (part.drop (i+1)) q1=true then _ else _
    by_cases ai:Grow.chk (nearF rs) (jw rs) (J0 rs part) c (part.drop (i+1)) q1=true
    .have e1:((S.take (j+1)).filter (Grow.chk (nearF rs) (jw rs) (J0 rs part) c (part.drop (i+1)))).map toL=((S.take j).filter (Grow.chk (nearF rs) (jw rs) (J0 rs part) c (part.drop (i+1)))).map toL++[toL q1]:=by
      rw[Xb,N,WZ,Xs];simp[ai]
     rw[e1];have az:a1≠y2:=zh ab a5;have yl:m.length<=16384:=by
      have:=O.length_le;rw[XJ]at this;lia
     refine qQ ai ⟨_,rfl,m,M,XE yl (by decide),_,m++[.ref a1],rfl,λb' o e=>?_,zb,zbh (zcJ M (λa h=>h.2) (jV J aa)) (.cons (cO a1 U rfl ⟨an,az⟩ (by rw[zj az];exact J _ _ (s9 _ _ ab)) (zbg M (zbe (s9.trans J) t1))) .nil),List.Sublist.append O (List.Sublist.refl _)⟩;rw[zj (zh e a5)];exact J _ _ (s9 _ _ e)
    .have e1:((S.take (j+1)).filter (Grow.chk (nearF rs) (jw rs) (J0 rs part) c (part.drop (i+1)))).map toL=((S.take j).filter (Grow.chk (nearF rs) (jw rs) (J0 rs part) c (part.drop (i+1)))).map toL:=by
      rw[Xb,N,WZ,Xs];simp[ai]
     rw[e1];exact qu (XO.mpr ai) (dH m rfl (s9.trans J) M (jV J aa) (O.trans (Ts _ _)))
   .refine λr H9=>eK λu0 m z0 s9 a7 aa O=>?_;subst z0;have aq:gs.length=S.length:=(yx a9).trans (ZB _);rw[aq,XF,<- eG]at aa;rw[aq,<- aq,XF]at O;exact dN y2 m (dQ rfl (b9.trans s9) a7 (zcI (λa h=>h.1) aa) (aY.sublist O))
  .refine λσ H4=>eH λfa fs v4 v5=>eK λv6 v7 z0 s4 aw hL ax=>?_;subst z0;have gl:=Qy rs part part.length;rw[ul,zd8]at hL;rw[zd8]at gl;have fl:fs.length<=16384:=by
    rw[yx hL,ZB];exact X6 gl (TZ (by decide) pl)
   refine⟨_,rfl,fa,fs,_,rfl,SqL.of aw,zj5 hL,by lia,λd' aM b5 av ay bC bp aI=>?_⟩;have y5:=zc (o:=.lst aM) av;have aJ:=af.trans s4;refine q d' aM b5 _ (aJ.free av) zb (jV y5 (zlQ ay λv hv=>?_)) (aI.nodup_iff.mpr ax) bC bp (aJ.trans y5);obtain⟨a1,wa,e,na,ha⟩:=Qx hL (aI.mem_iff.mp hv);exact⟨a1,e,af.free na,zh ha av⟩
abbrev iL (xs:List Int):AE:=xs.map V.int
def ints_get {xs:List Int}{i:Nat}{v:V}(h:(iL xs)[i]?=some v):∃x,xs[i]?=some x/\v=.int x:=by
 rw[XB]at h;cases e:xs[i]? with
 | none=>rw[e]at h;cases h
 | some x =>
  rw[e]at h;cases h;exact⟨x,rfl,rfl⟩
def ziG {xs:List Int}{i:Nat}{x:Int}(h:xs[i]?=some x):(iL xs)[i]?=some (.int x):=by
 rw[XB,h];rfl
def zlW {n:Nat}{k:Int}(h0:0<=k)(h1:k<n):ixN n k=some k.toNat:=by
 unfold ixN;rw[bw h0,bw h1]
def znL (xs:List Int)(z:Int):iL (xs++[z])=iL xs++[.int z]:=by
 show T5 V.int (xs++[z])=_;rw[Xs];rfl
def zeS (rs:AD)(part:AB):List (List (Int×Int)):=((Subs.subs part).filter (Grow.fits (nearF rs) (jw rs) (J0 rs part) part)).map toL
def zrf:Sp:=λf H Q _=>∃(c:Addr) (e:AE) (b:List (List (Int×Int))) (N:Addr->Prop) (g:Nat),f=[.ref c,.int (g:Nat)]/\H c=some (.lst e)/\yd N H e b/\(∀k∈b,k.length<=g)/\g<=64 /\
 ∀(d:Addr) (a:Hp),H d=none->a d=some (.lst (iL (Cnt.JW g b)))->zo H a->Q (.ref d) a
def zrW:Sp:=λg H Q _=>∃(a l f:Addr) (e:AD) (n:Int) (b:AE) (part:AB),g=[.ref a,.ref f]/\qj H a l e n/\Rows bd.cps.toList e/\H f=some (.lst b)/\Cel H b part/\part.Nodup/\part.length<=14 /\
 ∀(d:Addr) (c:Hp),H d=none->c d=some (.lst (iL (Cnt.JW part.length (zeS e part))))->zo H c->Q (.ref d) c
def zge (n:Nat):(Wr n [V.int 0]).flatten=iL (Wr n 0):=by
 induction n with
 | zero=>rfl
 | succ n a =>
  rw[Va,VS,a];rfl
theorem zgf {α:Type}:∀(cs:List α) (b:Nat),(Subs.pick cs b).length<=cs.length
 | [],_=>W1 _
 | c::r,b=>by
  have:=zgf r (b/2);show ((if b%2=1 then [c] else [])++Subs.pick r (b/2)).length<=r.length+1;rw[X4];split
  .show 1+_<=_;lia
  .show 0+_<=_;lia
def zlX {α:Type}{cs q:List α}(h:q∈Subs.subs cs):q.length<=cs.length:=by
 rw[Subs.zdY]at h;obtain⟨b,_,rfl⟩:=XN.mp h;exact zgf cs b
def zlY {rs:AD}{part:AB}{k:List (Int×Int)}(h:k∈zeS rs part):k.length<=part.length:=by
 obtain⟨a,h1,rfl⟩:=XN.mp h;show (a.map toI).length<=_;rw[ZB];exact zlX (X5.mp h1).1
def Q2:zD ["found","greatest","counts","laying"] ["found","greatest"] (zp ZH):=bh
def zhE (T:Txt mg)(D:zm K mg "counted" ZH ["found","greatest"] f fd):qc P w K mg base CX0 1 f fd ["found","greatest"] zrf:=by
 refine D.F.ok Q2 (λvs H Q E h=>?_) (λaa A I s H vs Q E hr h=>?_)
 .revert h;refine eH λm Y G N=>d9 λg z0 _=>?_;subst z0;rfl
 .revert h;refine fJ λm Y G N g z0 d M hk ab q=>?_;subst z0;refine⟨_,(@ze _ _ _ _ _ (@qh _ _ 2 _ _ _ _ Q2.nd rfl (V2 rfl) (@zK _ _ _ _ _ _ _ _ zkG (@zO _ _ _ _ (@za _ _ _ _ _ zg zd rfl)) (zK Jp (pvS 1) zg)) (by rfl) (.inr rfl)) (ze (qx Xc rfl (zw (pvS 0)) (pgq 3 Q2.nd) (zf (zh8 (pvS 2) (pb1 zB T.qK Xj (pvS 3)) zfv zg zkz set_list))) (zf (zx (pvS 2))))),?_⟩;(try dsimp only[cxK,cxP,cxW]);refine⟨sz_1,λU B=>?_⟩;have s0:zo H (upd H U (.lst [.int 0])):=zc B;refine⟨_,rfl,_,_,rfl,rfl,U,_,_,rfl,rfl,zb,by lia,by lia,?_,λp O=>?_⟩
  .exact X6 (show 1*((g:Int)+1).toNat<=120 by lia) (by decide)
  rw[show ((g:Int)+1).toNat=g+1 by lia,zge,<- Cnt.zlt (α:=Int×Int)];have s1:=s0.trans (zc (o:=.lst (iL (Cnt.JW g ([]:List (List (Int×Int)))))) O);have l:H p=none:=s0.free O;refine⟨_,rfl,m,rfl,⟨_,SqL.of (s1 _ _ d)⟩,?_⟩;refine jF (K:=K) (a:=m) (xs:=Y) (λi u x=>∃J,u=[some (.ref m),some (.int (g:Nat)),some (.ref p),J]/\zo H x/\x p=some (.lst (iL (Cnt.JW g (G.take i)))))
   ⟨_,rfl,s1,zb⟩ (λi u x _ ⟨_,_,y,_⟩=>SqL.of (y _ _ d)) ?_ ?_
  .refine λi v u L hv=>eS λJ z0 r b=>?_;subst z0;refine e7 (λk a1 wa j z0 _ z t1=>?_) (zcK M hv);subst z0;have kl:=hk k (X8 j);have wl:=zf9 t1;refine⟨_,rfl,_,rfl,a1,wa,rfl,.inl (SqL.of (r _ _ z)),p,_,_,_,rfl,rfl,SqL.of b,zg2 (by lia) (ziG (Cnt.zcA (n:=wa.length) _ (by lia))),_,_,rfl,rfl,p,_,_,_,rfl,rfl,b,zlW (by lia) (by rw[ZB,Cnt.zaD];lia),?_⟩;refine dj rfl (λc o e=>?_) ?_
   .rw[zj (zh e l)];exact r _ _ e
   .rw[zb,Xb,j];show _=some (HO.lst (iL (Cnt.JW g (G.take i++[k]))));rw[Cnt.zjZ _ kl,wl];show some (HO.lst ((T5 V.int _).set _ (V.int _)))=_;rw[<- List.map_set];rfl
  .rintro u L ⟨J,rfl,r,b⟩;rw[yx M,XF]at b;exact⟨_,rfl,q p L l b r⟩
def zcP:zD ["board","part"] ["board","part"] (zp xJ):=bh
def zcQ {f1 f2 f3 f4 f5 f6 f7 f8 f9 p:Addr}{r u v x y z B G I i:XC}(T:Txt mg)(D:zm K mg "part_counts" xJ ["board","part"] f fd)(zY:zm K mg "around" jJ ["board","cell"] f1 r)(zu:zm K mg "sign_at" qF ["board","cell"] f2 u)
  (zG:zm K mg "cells_of" qE ["board"] f3 v) (zF:zm K mg "open_cells" qL ["board"] f4 x) (qe:zm K mg "number_at" jB ["board","cell"] f5 y) (j7:zm K mg "numbers_of" j3 ["board","part"] f6 z)
  (yZ:zm K mg "needs_at" yX ["told","cell","rest"] f7 B) (JH:zm K mg "may_fit" JG ["needs","pick"] f8 G) (yP:zm K mg "part_layings" jS ["board","part"] f9 I) (O:zm K mg "counted" ZH ["found","greatest"] p i):qc P w K mg base CX0 5 f fd ["board","part"] zrW:=by
 refine D.F.ok zcP (λvs H Q E h=>?_) (λaa A L s H vs Q E U h=>?_)
 .revert h;refine fC λa l M Y n g part z0 _=>?_;subst z0;rfl
 .revert h;refine fG λa l M Y n g part z0 b R m=>eZ λc N pl q=>?_;subst z0;refine⟨_,(zf (zx (pc0 (zhE T O) U O (za (pc0 (zbM T yP zY zu zG zF qe j7 yZ JH) U yP (za (pvS 0) (za (pvS 1) zd))) (za (pb1 zB T.qK Xj (pvS 1)) zd))))),?_⟩;(try dsimp only[cxK,cxP,cxW]);refine⟨_,rfl,_,rfl,a,l,M,Y,n,g,part,rfl,b,R,m,c,N,pl,λd ws ks H1 hd J hL _ o _ s1=>?_⟩;refine⟨_,rfl,M,g,rfl,.inl (SqL.of (s1 _ _ m)),d,ws,ks,_,g.length,rfl,J,hL,λk hk=>?_,?_,λe H2 he j s2=>?_⟩
  .rw[c.length];exact zlY (o.mem_iff.mp hk)
  .rw[c.length];lia
  .rw[c.length,Cnt.zj0 o]at j;exact q e H2 (s1.free he) j (s1.trans s2)
def Y0 (rs:AD)(g S:AB):Bool:=Grow.fits (nearF rs) (jw rs) (J0 rs g) g S
def zbj {rs:AD}{o x:AA}:nearF rs o x=true↔x∈zP rs o:=Parts.zaB _ _
def zpW {rs:AD}{x:AA}(h:x∈zH rs):Cells.sgn (codes rs) x=63:=by
 obtain⟨t,k,c,b,hk,a⟩:=zR h;have:k=63:=by
  unfold x9 at hk;simpa using hk
 rw[a,this]
def Jy {rs:AD}{o x:AA}(a:x∈zH rs):nearF rs o x=true↔x∈clA rs o:=by
 rw[zbj];constructor
 .exact λh=>X5.mpr ⟨h,br (zpW a)⟩
 .exact λh=>(X5.mp h).1
def zeT {rs:AD}{g:AB}{o:AA}:o∈J0 rs g↔o∈zV rs/\∃x∈g,nearF rs o x=true:=by
 unfold J0;rw[X5,Us,WT];refine and_congr_right λ_=>?_;constructor
 .rintro⟨z,hz,h⟩;have a:(g.any λx=>decide (x=z))=true:=h;exact⟨z,(Parts.zaB _ _).mp a,zbj.mpr hz⟩
 .rintro⟨x,hx,h⟩;exact⟨x,zbj.mp h,(Parts.zaB _ _).mpr hx⟩
section
variable {rs:AD}{gs:List AB}(G:Parts.Good (clA rs) (zV rs) gs)
include G
theorem Zn:∀c∈gs.flatten,c∈zH rs:=λc a=>by
 obtain⟨o,_,h⟩:=G.from_ c a;exact JZ h
theorem znM {g:AB}(f:g∈gs){o x:AA}(j:o∈J0 rs g)(l:x∈zH rs)(i:nearF rs o x=true):x∈g:=by
 obtain⟨h1,y,h,h2⟩:=zeT.mp j;have d:=Zn G y (Wn.mpr ⟨g,f,h⟩);have b:=(Jy d).mp h2;obtain⟨m,c,a⟩:=G.cov o h1 (Uq b);have e:=Parts.zdX G.nd c f (a y b) h;rw[<- e];exact a x ((Jy l).mp i)
theorem ziH {g:AB}(d:g∈gs){o:AA}(f:o∈J0 rs g){a:AB}(h:∀c∈a,c∈zH rs/\c ∉ g):Grow.cnt (nearF rs) o a=0:=by
 unfold Grow.cnt;rw[V6,WN];intro c b e;exact(h c b).2 (znM G d f (h c b).1 e)
theorem ziI {g:AB}(i:g∈gs):Tally.Loc (zH rs) (Y0 rs g) g:=by
 have e:∀S f:AB,(∀o∈J0 rs g,Grow.cnt (nearF rs) o S=Grow.cnt (nearF rs) o f)->Y0 rs g S=Y0 rs g f:=λS f h=>by
  unfold Y0 Grow.fits;rw[WQ,WK,WK];constructor
  .intro k o c;have:=k o c;rwa [h o (X5.mp c).1]at this
  .intro k o c;have:=k o c;rwa [<- h o (X5.mp c).1]at this
 have d:∀(o:AA) (a b:AB),Grow.cnt (nearF rs) o (a++b)=Grow.cnt (nearF rs) o a+Grow.cnt (nearF rs) o b:=λo a b=>by
  unfold Grow.cnt;rw[WZ,X4]
 refine⟨λa b h=>e _ _ λo c=>?_,λa b h=>e _ _ λo c=>?_⟩
 .rw[d,ziH G i c h,Wa]
 .rw[d,ziH G i c h,Re]
theorem zlZ:(gs.map λg=>Tally.tl g (Y0 rs g)).foldl Pour.QF [1]=Tally.tl gs.flatten (Tally.Yh (Y0 rs) gs):=Tally.zlA G.nd (Zn G) λg a=>ziI G a
theorem zj8 (i:Nat):((gs.take i).map λg=>Tally.tl g (Y0 rs g)).foldl Pour.QF [1]=Tally.tl (gs.take i).flatten (Tally.Yh (Y0 rs) (gs.take i)):=by
 have sub:(gs.take i).flatten.Sublist gs.flatten:=by
  have e:gs.flatten=(gs.take i).flatten++(gs.drop i).flatten:=by rw[<- VT,W5]
  rw[e];exact Ts _ _
 exact Tally.zlA (G.nd.sublist sub) (λc a=>Zn G c (sub.subset a)) λg b=>ziI G (Wc b)
theorem zcR (R:Rows bd.cps.toList rs):gs.flatten.length<=64:=by
 have h1:=Parts.jZ G.nd (Zn G);have h2:=zd5 R;lia
end
def zj9 (rs:AD)(part:AB):Cnt.JW part.length (zeS rs part)=Tally.tl part (Y0 rs part):=by
 unfold zeS;rw[Tally.zlB part.length toL (λk=>ZB _)];exact Tally.znF part _
def zka (xs:List Int):Prop:=∀z∈xs,z.natAbs<2^8000
def znN {cs:AB}{p:AB->Bool}{k:Nat}(h:cs.length<=64):Tally.T cs p k<=2^64:=by
 refine X6 Ws ?_;rw[Subs.zdY,ZB,WL];exact TZ (by decide) h
def zhF {cs:AB}{p:AB->Bool}(h:cs.length<=64):zka (Tally.tl cs p):=λz a=>by
 unfold Tally.tl at a;obtain⟨k,_,rfl⟩:=XN.mp a;rw[RZ];exact XE (znN h) (Pj (by decide) (by decide))
def ZM (rs:AD)(S:AB):Bool:=((zV rs).filter λo=>!(clA rs o).isEmpty).all λo=>decide (((Grow.cnt (nearF rs) o S:Nat):Int)=jw rs o)
def Jz {rs:AD}{S:AB}:ZM rs S=true ↔ ∀o∈zV rs,clA rs o ≠ []->((Grow.cnt (nearF rs) o S:Nat):Int)=jw rs o:=by
 unfold ZM;rw[WK];constructor
 .intro h o a b;exact bg (h o (X5.mpr ⟨a,by rw[WF];exact Vn.mpr b⟩))
 .intro h o a;obtain⟨h1,h2⟩:=X5.mp a;rw[WF]at h2;exact br (h o h1 (Vn.mp h2))
def zkb {rs:AD}{gs:List AB}(G:Parts.Good (clA rs) (zV rs) gs)(S:AB):Tally.Yh (Y0 rs) gs S=ZM rs S:=by
 rw[WQ,Jz];unfold Tally.Yh Y0 Grow.fits;rw[WK];constructor
 .intro h o d i;obtain⟨x,b⟩:=TJ _ i;obtain⟨g,e,a⟩:=G.cov o d i;have c:nearF rs o x=true:=(Jy (JZ b)).mpr b;have:=h g e;rw[WK]at this;exact bg (this o (X5.mpr ⟨zeT.mpr ⟨d,x,a x b,c⟩,WT.mpr ⟨x,a x b,c⟩⟩))
 .intro h g e;rw[WK];intro o d;obtain⟨h1,x,b,c⟩:=zeT.mp (X5.mp d).1;have f:=Zn G x (Wn.mpr ⟨g,e,b⟩);exact br (h o h1 (Uq ((Jy f).mp c)))
def zl0 {rs:AD}{gs:List AB}(G:Parts.Good (clA rs) (zV rs) gs){c:AA}:c∈gs.flatten↔c∈zH rs/\∃o∈zV rs,nearF rs o c=true:=by
 constructor
 .intro h;obtain⟨o,e,b⟩:=G.from_ c h;have d:=JZ b;exact⟨d,o,e,(Jy d).mpr b⟩
 .rintro⟨d,o,e,hn⟩;have b:=(Jy d).mp hn;obtain⟨g,f,a⟩:=G.cov o e (Uq b);exact Wn.mpr ⟨g,f,a c b⟩
def Yp (rs:AD)(S:AB):Bool:=(zV rs).all λo=>decide (((Grow.cnt (nearF rs) o S:Nat):Int)=jw rs o)
def Yq {rs:AD}{S:AB}:Yp rs S=true ↔ ∀o∈zV rs,((Grow.cnt (nearF rs) o S:Nat):Int)=jw rs o:=by
 unfold Yp;rw[WK];exact⟨λh o a=>bg (h o a),λh o a=>br (h o a)⟩
def zhG (rs:AD):Tally.Inv (Yp rs):=λa b e=>by
 rw[WQ,Yq,Yq];have:∀o,Grow.cnt (nearF rs) o a=Grow.cnt (nearF rs) o b:=λo=>(e.filter _).length_eq;constructor
 .intro h o c;rw[<- this o];exact h o c
 .intro h o c;rw[this o];exact h o c
def zl1 {rs:AD}:(YD rs).isEmpty=true ↔ ∀o∈zV rs,clA rs o=[]->jw rs o=0:=by
 rw[TL];unfold YD jw;rw[WN];constructor
 .intro h o a b;have:=h o (X5.mpr ⟨a,by rw[b];rfl⟩);rw[WF,Bool.not_eq_false]at this;rw[bg this];rfl
 .intro h o a;obtain⟨h1,h2⟩:=X5.mp a;have:=h o h1 (TL.mp h2);rw[WF,Bool.not_eq_false];exact br (by lia)
def zl2 {rs:AD}{S:AB}(d:∀c∈S,c∈zH rs):Yp rs S=((YD rs).isEmpty&&ZM rs S):=by
 have z:∀o,clA rs o=[]->Grow.cnt (nearF rs) o S=0:=λo a=>by
  unfold Grow.cnt;rw[V6,WN];intro c b e;have:=(Jy (d c b)).mp e;rw[a]at this;cases this
 rw[WQ,Wp,Yq,zl1,Jz];constructor
 .intro h;refine⟨λo a b=>?_,λo a _=>h o a⟩;rw[<- h o a,z o b];rfl
 .rintro⟨h1,h2⟩ o a;by_cases b:clA rs o=[]
  .rw[z o b,h1 o a b];rfl
  .exact h2 o a b
def ziJ {rs:AD}{c o:AA}(a:c∈zbL rs)(b:o∈zV rs):nearF rs o c=false:=by
 unfold zbL at a;have h:=(X5.mp a).2;rw[WF,Us,List.any_eq_false]at h;exact XO.mpr (h o b)
def zl3 {rs:AD}{a b:AB}(i:∀c∈b,c∈zbL rs):ZM rs (a++b)=ZM rs a:=by
 have e:∀o∈zV rs,Grow.cnt (nearF rs) o (a++b)=Grow.cnt (nearF rs) o a:=λo d=>by
  unfold Grow.cnt;rw[WZ,X4];have:b.filter (nearF rs o)=[]:=WN.mpr λc f g=>by
   rw[ziJ (i c f) d]at g;cases g
  rw[this];rfl
 rw[WQ,Jz,Jz];constructor
 .intro h o d f;rw[<- e o d];exact h o d f
 .intro h o d f;rw[e o d];exact h o d f
def zgg {rs:AD}{c:AA}(h:c∈zbL rs):c∈zH rs:=(X5.mp h).1
def xg (rs:AD):(zH rs).Nodup:=qw (Cells.yW _ 0 (codes rs))
def zkc (rs:AD):(zbL rs).Nodup:=(xg rs).sublist Xr
section
variable {rs:AD}{gs:List AB}(G:Parts.Good (clA rs) (zV rs) gs)
include G
theorem ziK {c:AA}:c∈zbL rs↔c∈zH rs/\c ∉ gs.flatten:=by
 rw[zl0 G];constructor
 .intro h;refine⟨zgg h,?_⟩;rintro⟨_,o,b,a⟩;rw[ziJ h b]at a;cases a
 .rintro⟨h1,h2⟩;unfold zbL;refine X5.mpr ⟨h1,?_⟩;rw[WF,Us,List.any_eq_false];intro o b a;exact h2 ⟨h1,o,b,a⟩
theorem zkd:(zH rs).Perm (gs.flatten++zbL rs):=by
 refine(WD (xg rs) (WY.mpr ⟨G.nd,zkc rs,λa f b g e=>?_⟩)).mpr λc=>?_
 .subst e;exact((ziK G).mp g).2 f
 .rw[XM,ziK G];constructor
  .intro h;by_cases d:c∈gs.flatten
   .exact .inl d
   .exact .inr ⟨h,d⟩
  .rintro(h | h)
   .exact Zn G c h
   .exact h.1
theorem count_is (s:Nat):(if (YD rs).isEmpty=true then Tally.dl (Tally.tl gs.flatten (Tally.Yh (Y0 rs) gs)) (zbL rs).length ((s:Nat):Int) else 0)=((Tally.T (zH rs) (Yp rs) s:Nat):Int):=by
 rw[Tally.zpQ (zkd G) (zhG rs)];have f:∀a∈Subs.subs gs.flatten,∀b∈Subs.subs (zbL rs),Yp rs (a++b)=((YD rs).isEmpty&&Tally.Yh (Y0 rs) gs a):=λa e b i=>by
  have sa:=(Tally.zaF e).subset;have l:=(Tally.zaF i).subset;rw[zl2 λc j=>(XM.mp j).elim (λh=>Zn G c (sa h)) λh=>zgg (l h),zl3 λc j=>l j,zkb G]
 cases i:(YD rs).isEmpty with
 | true =>
  rw[bw rfl];refine Tally.zra (λa e b d=>?_) s;rw[f a e b d,i,Bool.true_and]
 | false =>
  rw[bq (by decide),Tally.znE λS g=>?_]
  .rfl
  .rw[Tally.zfZ]at g;obtain⟨b,d,g⟩:=V7.mp g;obtain⟨a,e,rfl⟩:=XN.mp g;rw[f a e b d,i,PB]
end
def zpX (K:XS):Sp:=λf H Q _=>∃(a b:Addr) (c d:List Int),f=[.ref a,.ref b]/\SqL K H a (iL c)/\SqL K H b (iL d)/\1<=c.length/\c.length<=70/\1<=d.length/\d.length<=70/\zka c/\zka d /\
 ∀(l:Addr) (e:Hp),H l=none->e l=some (.lst (iL (Pour.QF c d)))->zo H e->Q (.ref l) e
def zbw (H:Hp):AE->List (List Int)->Prop:=Xy λv b=>∃a,v=V.ref a/\H a=some (.lst (iL b))
def zhH {H c:Hp}(s:zo H c){d:AE}{b:List (List Int)}(f:zbw H d b):zbw c d b:=by
 induction f with
 | nil=>exact .nil
 | cons q _ g =>
  obtain⟨a,e,h⟩:=q;exact .cons ⟨a,e,s _ _ h⟩ g
def zea {H:Hp}{b:AE}{a:List (List Int)}(h:zbw H b a):b.length=a.length:=Paired.length h
def zl4 {H:Hp}{c:AE}{b:List (List Int)}{i:Nat}{v:V}(h:zbw H c b)(e:c[i]?=some v):∃xs a,b[i]?=some xs/\v=V.ref a/\H a=some (.lst (iL xs)):=by
 obtain⟨S,h1,a,h2⟩:=x8 h e;exact⟨S,a,h1,h2⟩
structure zl5 (xss:List (List Int)):Prop where
 one:∀xs∈xss,1<=xs.length/\xs.length<=70/\zka xs
 acc:∀i,1<=((xss.take i).foldl Pour.QF [1]).length/\((xss.take i).foldl Pour.QF [1]).length<=70/\zka ((xss.take i).foldl Pour.QF [1])
def zpY:Sp:=λf H Q _=>∃(c:Addr) (e:AE) (a:List (List Int)),f=[.ref c]/\H c=some (.lst e)/\zbw H e a/\zl5 a /\
 ∀(d:Addr) (b:Hp),H d=none->b d=some (.lst (iL (a.foldl Pour.QF [1])))->zo H b->Q (.ref d) b
def Small (rs:AD):Prop:=∀a,Parts.Good (clA rs) (zV rs) a->∀g∈a,g.length<=14
def zl6 {rs:AD}(h:(zH rs).length<=14):Small rs:=λc G g a=>by
 have:=Parts.jZ (qw (G.srt g a)) λx b=>Zn G x (Wn.mpr ⟨g,a,b⟩);lia
def tls (rs:AD)(gs:List AB):List (List Int):=gs.map λg=>Tally.tl g (Y0 rs g)
def zpZ {rs:AD}(R:Rows bd.cps.toList rs){gs:List AB}(G:Parts.Good (clA rs) (zV rs) gs):zl5 (tls rs gs):=by
 have a:=zcR G R;refine⟨λh f=>?_,λi=>?_⟩
 .obtain⟨g,d,rfl⟩:=XN.mp f;have c:g.length<=64:=X6 (U8 (U6 d)) a;rw[Tally.YW];exact⟨by lia,by lia,zhF c⟩
 .unfold tls;rw[<- O2,zj8 G i];have b:(gs.take i).flatten.length<=64:=by
   have e:gs.flatten=(gs.take i).flatten++(gs.drop i).flatten:=by rw[<- VT,W5]
   rw[e,X4]at a;lia
  rw[Tally.YW];exact⟨by lia,by lia,zhF b⟩
def zp0:Sp:=λe H Q _=>∃(p l:Addr) (a:AD) (n:Int),e=[.ref p]/\qj H p l a n/\Rows bd.cps.toList a/\Small a /\
 ∀(d:Addr) (b:List AB) (c:Hp),H d=none->Parts.Good (clA a) (zV a) b->Up2 (heads b)->c d=some (.lst (iL (Tally.tl b.flatten (Tally.Yh (Y0 a) b))))->zo H c->Q (.ref d) c
def JI:zD ["one","other","counts","i","many","j","more"] ["one","other"] (zp zaH):=bh
def zke (T:Txt mg)(D:zm K mg "poured" zaH ["one","other"] f fd):qc P w K mg base CX0 1 f fd ["one","other"] (zpX K):=by
 refine D.F.ok JI (λvs H Q E h=>?_) (λaf A ae s H vs Q E hr h=>?_)
 .revert h;refine e9 λa b xs m z0 _=>?_;subst z0;rfl
 .revert h;refine fq λa b xs m z0 U Y x1=>fm λx2 y1 y2 bx bY q=>?_;subst z0;refine⟨_,(@ze _ _ _ _ _ (@qh _ _ 2 _ _ _ _ JI.nd rfl (V2 rfl) (@zK _ _ _ _ _ _ _ _ zkG (@zO _ _ _ _ (@za _ _ _ _ _ zg zd rfl)) (zK yM (zK Jp (pb1 zB T.qK Xj (pvS 0)) (pb1 zB T.qK Xj (pvS 1))) zg)) (by rfl) (.inr rfl)) (ze (qx Xc rfl (JN (by rfl) T.jr (za (pvS 0) zd)) (jO rfl (zE (pgq 3 JI.nd) (zE (pgq 4 JI.nd) qT))) (zf (qx Xc rfl (JN (by rfl) T.jr (za (pvS 1) zd)) (jO rfl (zE (pgq 5 JI.nd) (zE (pgq 6 JI.nd) qT))) (zf (zh8 (pvS 2) (zK Jp (pvS 3) (pvS 5)) zfv (zK Z1 (pvS 4) (pvS 6)) zkz set_list))))) (zf (zx (pvS 2))))),?_⟩;(try dsimp only[cxK,cxP,cxW]);refine⟨sz_1,λl0 aa=>?_⟩;have s0:zo H (upd H l0 (.lst [.int 0])):=zc aa;refine⟨_,rfl,a,_,rfl,.inl (s0.seq U),_,rfl,b,_,rfl,.inl (s0.seq Y),_,_,rfl,rfl,_,_,rfl,rfl,l0,_,_,rfl,rfl,zb,?_,?_,?_,λp hp=>?_⟩
  .rw[ZB,ZB];lia
  .rw[ZB,ZB];lia
  .rw[ZB,ZB];exact X6 (show 1*((xs.length:Int)+(m.length:Int)-1).toNat<=140 by lia) (by decide)
  have en:(((iL xs).length:Nat)+((iL m).length:Nat)-1:Int).toNat=xs.length+m.length-1:=by
   rw[ZB,ZB];lia
  rw[en,zge,<- Pour.zlv];have s1:zo H (upd (upd H l0 (.lst [.int 0])) p (.lst (iL (Pour.st xs m 0 0)))):=s0.trans (zc hp);have I:H p=none:=s0.free hp;refine⟨_,rfl,a,rfl,⟨_,s1.seq U⟩,?_⟩;refine JE (K:=K) (l:=a) (xs:=iL xs) (λi n r=>∃v3 v4 u B,n=[some (.ref a),some (.ref b),some (.ref p),v3,v4,u,B]/\zo H r/\r p=some (.lst (iL (Pour.st xs m i 0))))
   (cI (cT rfl s1 zb)) (λi n r _ ⟨_,_,_,_,_,s,_⟩=>s.seq U) ?_ ?_
  .refine λi v t n M hv ht=>eH λv3 v4 u B=>eN λz0 N d=>?_;subst z0;refine d9 (λx hx z0=>?_) (ints_get hv);subst z0;have st:zo M (upd M t (.tup [.int (i:Nat),.int x])):=zc ht;refine di t rfl (SqT.of zb) rfl rfl rfl rfl ?_;refine⟨_,rfl,b,rfl,⟨_,(N.trans st).seq Y⟩,?_⟩;refine JE (K:=K) (l:=b) (xs:=iL m) (λj n r=>∃u B,n=[some (.ref a),some (.ref b),some (.ref p),some (.int (i:Nat)),some (.int x),u,B]/\zo H r/\r p=some (.lst (iL (Pour.st xs m i j))))
    (cT rfl (N.trans st) (st _ _ d)) (λj n r _ ⟨_,_,_,s,_⟩=>s.seq Y) ?_ ?_
   .refine λj v t2 n O ac ab=>eF λu B z0 s3 g=>?_;subst z0;refine d9 (λy hy z0=>?_) (ints_get ac);subst z0;have L:zo O (upd O t2 (.tup [.int (j:Nat),.int y])):=zc ab;have J:=L _ _ g;have hi:i<xs.length:=(XX.mp hx).1;have hj:j<m.length:=(XX.mp hy).1;have G:((i:Int)+(j:Int)).toNat=i+j:=by lia
    refine di t2 rfl (SqT.of zb) rfl rfl rfl rfl ?_;refine⟨_,rfl,_,rfl,_,rfl,_,_,rfl,rfl,p,_,_,_,rfl,rfl,SqL.of J,zg2 (by lia) (by rw[G];exact ziG (Pour.zhs (by lia))),?_⟩;refine⟨_,rfl,_,rfl,_,_,rfl,rfl,zqU (bx _ (X8 hx)) (bY _ (X8 hy)),_,_,rfl,rfl,p,_,_,_,rfl,rfl,J,zlW (by lia) (by rw[ZB,Pour.zhr];lia),?_⟩;refine cT rfl (λc o e=>?_) ?_
    .have hc:c≠p:=λz=>by
      subst z;rw[I]at e;cases e
     rw[zj hc];exact L _ _ (s3 _ _ e)
    .rw[zb,G,<- Pour.znx hx hy];show some (HO.lst ((T5 V.int _).set _ (V.int _)))=_;rw[<- List.map_set]
   .refine λn O=>eF λu B z0 s3 g=>?_;subst z0;rw[ZB,Pour.zpO]at g;exact cI (cT rfl s3 g)
  .refine λn M=>eH λv3 v4 u B=>eN λz0 N d=>?_;subst z0;rw[ZB,Pour.zpP]at d;exact⟨_,rfl,q p M I d N⟩
def xO:zD ["lists","counts","others"] ["lists"] (zp Jr):=bh
def zdn (T:Txt mg)(Z:Prog K mg)(D:zm K mg "all_poured" Jr ["lists"] f fd):qc P w K mg base CX0 2 f fd ["lists"] zpY:=by
 obtain⟨ab,aa,m⟩:=Z.poured;refine D.F.ok xO (λvs H Q E h=>?_) (λN A x s H vs Q E U h=>?_)
 .revert h;refine fB λn L l z0 _=>?_;subst z0;rfl
 .revert h;refine e7 λn L l z0 g J ok q=>?_;subst z0;refine⟨_,(@ze _ _ _ _ _ (@qh _ _ 1 _ _ _ _ xO.nd rfl (V2 rfl) (@zO _ _ _ _ (@za _ _ _ _ _ zg zd rfl)) (by rfl) (.inr rfl)) (ze (qx Xc rfl (zw (pvS 0)) (pgq 2 xO.nd) (zf (jf 1 xO.nd (pc0 (zke T m) U m (za (pvS 1) (za (pvS 2) zd)))))) (zf (zx (pvS 1))))),?_⟩;(try dsimp only[cxK,cxP,cxW]);refine⟨sz_1,λG e=>?_⟩;have s0:zo H (upd H G (.lst [.int 1])):=zc e;refine⟨_,rfl,n,rfl,⟨_,SqL.of (s0 _ _ g)⟩,?_⟩;refine jF (K:=K) (a:=n) (xs:=L) (λi o p=>∃(c:Addr) (z:Option V),o=[some (.ref n),some (.ref c),z]/\zo H p/\H c=none/\p c=some (.lst (iL ((l.take i).foldl Pour.QF [1]))))
   (dZ G (cJ rfl s0 e zb)) (λi o p _ ⟨_,_,_,y,_⟩=>SqL.of (y _ _ g)) ?_ ?_
  .refine λi v o B Y=>d8 λc z z0 s1 I b=>?_;subst z0;refine eF (λxs M j z0 r=>?_) (zl4 J Y);subst z0;obtain⟨o1,o2,o3⟩:=ok.one xs (X8 j);obtain⟨p1,p2,p3⟩:=ok.acc i;refine⟨_,rfl,_,rfl,c,M,_,xs,rfl,SqL.of b,SqL.of (s1 _ _ r),p1,p2,o1,o2,p3,o3,λd H2 O u s2=>?_⟩;refine dZ d (cJ rfl (s1.trans s2) (s1.free O) ?_);rw[u,Xb,j,UN];rfl
  .refine λo B=>d8 λc z z0 s1 I b=>?_;subst z0;rw[zea J,XF]at b;exact⟨_,rfl,q c B I b s1⟩
def zcS:zD ["board"] ["board"] (zp xK):=bh
def zcT (T:Txt mg)(Z:Prog K mg)(D:zm K mg "near_counts" xK ["board"] f fd):qc P w K mg base CX0 6 f fd ["board"] zp0:=by
 obtain⟨am,aj,zY⟩:=Z.around;obtain⟨ak,Q3,zu⟩:=Z.sign_at;obtain⟨Q4,Y4,zG⟩:=Z.cells_of;obtain⟨ah,QN,zF⟩:=Z.open_cells;obtain⟨al,ai,qe⟩:=Z.number_at;obtain⟨aw,ar,j7⟩:=Z.numbers_of;obtain⟨az,ay,yZ⟩:=Z.needs_at;obtain⟨a3,a1,JH⟩:=Z.may_fit;obtain⟨ao,an,yP⟩:=Z.part_layings;obtain⟨a4,a2,Qz⟩:=Z.counted;obtain⟨au,aq,QO⟩:=Z.part_counts;obtain⟨xY,xh,zL⟩:=Z.closed_around;obtain⟨a6,a5,ae⟩:=Z.joined;obtain⟨a8,a7,Y⟩:=Z.parts;obtain⟨ax,av,U⟩:=Z.all_poured;refine D.F.ok zcS (λvs H Q E h=>?_) (λaf A ac s H vs Q E hr h=>?_)
 .revert h;refine e9 λp l r n z0 _=>?_;subst z0;rfl
 .revert h;refine fq λp l r n z0 b R sm q=>?_;subst z0;refine⟨_,(zf (zx (pc0 (zdn T Z U) hr U (za (pcm ["part","board"] [none,some 0] cR (zw (pc0 (zlP T Y zY zu zG zF zL ae) hr Y (za (pvS 0) zd))) (pgN 0) qD (pc0 (zcQ T QO zY zu zG zF qe j7 yZ JH yP Qz) hr QO (za (pvS 1) (za (pvS 0) zd)))) zd)))),?_⟩;(try dsimp only[cxK,cxP,cxW]);refine⟨_,rfl,p,l,r,n,rfl,b,R,λd ws m H1 hd J hG _ _ G up s1=>⟨d,rfl,⟨_,SqL.of J⟩,λz hz=>?_⟩⟩;have ag:m.length<=64:=X6 (Parts.zaC G.ne) (zcR G R);refine qN (K:=K) (a:=d) (xs:=ws) (λj x H'=>∃(u0:Option V) (B:AE),x=[u0,some (.ref p)]/\zo H1 H'/\H' z=some (.lst B)/\(∀v∈B,∀a,v=V.ref a->a≠z)/\zbw H' B (tls r (m.take j)))
   (dH [] rfl (zc hz) zb (λ_ h=>nomatch h) (.nil)) (λj x H' _ ⟨_,_,_,y,_⟩=>SqL.of (y _ _ J)) ?_ ?_
  .refine λj v x H2 hv=>eK λu0 B z0 N u L i=>?_;subst z0;refine d9 (λg hg=>eF λga ug z0 ab aa=>?_) (xT.get (hG.mono N) hv);subst z0;have gm:=X8 hg;have il:=(XX.mp hg).1;unfold yS;refine Q0 ?_;refine⟨_,rfl,_,rfl,p,l,ga,r,n,ug,g,rfl,(b.mono s1).mono N,R,ab,aa,qw (G.srt g gm),sm m G g gm,λe H3 he c O=>?_⟩;rw[zj9]at c;have ez:e≠z:=λy=>by
    subst y;rw[u]at he;cases he
   refine dj (O _ _ u) ?_ (dH (B++[.ref e]) rfl (λb o e'=>?_) zb (λv hv a ea=>?_) ?_)
   .rw[zea i];unfold tls;rw[ZB,XJ];exact XE (show _<=64 by lia) (by decide)
   .rw[zj (zh e' hz)];exact O _ _ (N _ _ e')
   .rcases XM.mp hv with hv | hv
    .exact L v hv a ea
    .have:v=V.ref e:=by simpa using hv
     rw[this]at ea;cases ea;exact ez
   .have t1:tls r (m.take (j+1))=tls r (m.take j)++[Tally.tl g (Y0 r g)]:=by
     unfold tls;rw[Xb,hg,Xs];rfl
    rw[t1];have into:∀{us:AE} {I:List (List Int)},zbw H3 us I->(∀v∈us,∀a,v=V.ref a->a≠z)->zbw (upd H3 z (.lst (B++[.ref e]))) us I:=by
     intro us I h;induction h with
     | nil=>exact λ_=>.nil
     | cons h t ih =>
      intro L;obtain⟨a,rfl,ha⟩:=h;exact .cons ⟨a,rfl,by rw[zj (L _ XR a rfl)];exact ha⟩ (ih λv hv=>L v (XV _ hv))
    exact Paired.snoc (into (zhH O i) L) ⟨e,rfl,by rw[zj ez];exact c⟩
  refine λx H2=>eK λu0 B z0 N u _ i=>?_;subst z0;rw[hG.length,XF]at i;refine dI z B (tls r m) rfl u i (zpZ R G) (λe H3 he c O=>?_);have M:=s1.trans N;rw[show (tls r m).foldl Pour.QF [1]=Tally.tl m.flatten (Tally.Yh (Y0 r) m) from zlZ G]at c;exact q e m H3 (M.free he) G up c (M.trans O)
def chV (n k:Int):Int:=if 0<=k/\k<=n then ((Choose.ch n.toNat k.toNat:Nat):Int) else 0
def znQ (m:Nat)(k:Int):chV (m:Nat) k=Tally.chZ m k:=by
 unfold chV Tally.chZ;rw[Vv];by_cases h0:k<0
 .rw[bq (by lia),bw h0]
 .rw[bq h0];by_cases h1:k<=(m:Int)
  .rw[bw ⟨by lia,h1⟩]
  .rw[bq (by lia),Choose.zba m k.toNat (by lia)];rfl
def znR {n k:Int}(h:n<=64):(chV n k).natAbs<2^8000:=by
 have h1:(2:Nat)^64<2^8000:=Pj (by decide) (by decide);have a:(0:Nat)<2^8000:=XE (W1 _) h1;unfold chV;split
 .rw[RZ];exact XE (X6 (Choose.zq9 _ _) (TZ (by decide) (show n.toNat<=64 by lia))) h1
 .exact a
def dlV (xs:List Int)(m st:Int):Int:=Pour.S (λk=>Pour.F xs k*chV m (st-(k:Nat))) xs.length
def znS (xs:List Int)(m:Nat)(st:Int):dlV xs (m:Nat) st=Tally.dl xs m st:=by
 unfold dlV Tally.dl;exact Pour.Yg _ λi _=>by rw[znQ]
theorem zoI (h:Nat->Int):∀n,((WC n).map h).sum=Pour.S h n
 | 0=>rfl
 | n+1=>by
  rw[UQ,Xs,List.sum_append,zoI h n];show _+(h n+0)=Pour.S h n+h n;lia
def zrX:Sp:=λa H Q _=>∃(n k:Int),a=[.int n,.int k]/\n<=64/\Q (.int (chV n k)) H
def znT:Sp:=λd H Q _=>∃(c:Addr) (a:List Int) (m st:Int),d=[.ref c,.int m,.int st]/\H c=some (.lst (iL a))/\zka a/\a.length<=150/\m<=64/\∀b,zo H b->Q (.int (dlV a m st)) b
def znU (rs:AD)(n:Int):Int:=((Tally.T (zH rs) (Yp rs) n.toNat:Nat):Int)
def ziM:Sp:=λc H Q _=>∃(p l:Addr) (a:AD) (n:Int),c=[.ref p]/\qj H p l a n/\Rows bd.cps.toList a/\Small a/\0<=n/\∀b,zo H b->Q (.int (znU a n)) b
def Yr:zD ["n","k","found","step"] ["n","k"] (zp Qo):=bh
def zhI (T:Txt mg)(D:zm K mg "choices" Qo ["n","k"] f fd):qc P w K mg base CX0 1 f fd ["n","k"] zrX:=by
 refine D.F.ok Yr (λo H Q E h=>?_) (λj A d s H o Q E r h=>?_)
 .obtain⟨n,k,rfl,_⟩:=h;rfl
 .revert h;refine eF λn k z0 u q=>?_;subst z0;refine⟨_,(ze (qJ (zeq (YJ Zs Zs zg (pvS 1) (pvS 0))) (@zf _ _ _ (@zx _ _ _ _ zg)) qa) (@ze _ _ _ _ _ (@qh _ _ 2 _ _ _ _ Yr.nd rfl (V2 rfl) zg (by rfl) (.inr rfl)) (ze (qx Xc rfl (prg T.j4 (pvS 1)) (pgq 3 Yr.nd) (zf (jf 2 Yr.nd (zK zjT (zK Z1 (pvS 2) (zK yM (pvS 0) (pvS 3))) (zK Jp (pvS 3) zg))))) (zf (zx (pvS 2)))))),?_⟩;(try dsimp only[cxK,cxP,cxW]);refine⟨_,rfl,_,_,rfl,rfl,_,rfl,?_⟩;unfold chV at q;refine zg1 (λc=>?_) (λc=>?_)
  .have b:(0:Int)<=k:=bg c;refine⟨_,rfl,_,_,rfl,rfl,_,rfl,?_⟩;by_cases c:k<=n
   .rw[bw ⟨b,c⟩]at q;rw[br c];refine xX ?_;refine⟨_,rfl,k,rfl,by lia,by lia,?_⟩;refine ja (lo:=0) (n:=k.toNat) (λi g a=>∃v,g=[some (.int n),some (.int k),some (.int (Choose.ch n.toNat i)),v]/\a=H) ⟨_,by rw[Choose.Qn];rfl,rfl⟩ ?_ ?_
    .rintro i g a p ⟨v,rfl,rfl⟩;refine⟨_,rfl,_,rfl,_,rfl,_,_,rfl,rfl,_,_,rfl,rfl,zqT (by lia) (by lia),_,rfl,_,_,rfl,rfl,_,_,rfl,rfl,YM.small (by lia) (by lia),?_⟩;refine⟨some (.int (0+(i:Int))),?_,rfl⟩;have e:=Choose.zny (n:=n.toNat) (k:=i) (by lia);have l:((n.toNat:Nat):Int)=n:=Sk (by lia);rw[l]at e;have m:(Choose.ch n.toNat i:Int)*(n-(0+(i:Int)))/(0+(i:Int)+1)=Choose.ch n.toNat (i+1):=by
      rw[VY];exact e
     show [_,_,some (V.int ((Choose.ch n.toNat i:Int)*(n-(0+(i:Int)))/(0+(i:Int)+1))),_]=_;rw[m]
    .rintro g a ⟨v,rfl,rfl⟩;exact⟨_,rfl,q⟩
   .rw[bq (λh=>c h.2)]at q;rw[bf c];exact Z0 q
  .have b:¬ (0:Int)<=k:=λz=>c (br z);rw[bq (λh=>b h.1)]at q;exact⟨_,rfl,Z0 q⟩
def zl9:zD ["counts","cells","stones"] ["counts","cells","stones"] (zp zb4):=bh
def zma (T:Txt mg)(Z:Prog K mg)(D:zm K mg "dealt" zb4 ["counts","cells","stones"] f fd):qc P w K mg base CX0 2 f fd ["counts","cells","stones"] znT:=by
 obtain⟨ab,aa,e⟩:=Z.choices;refine D.F.ok zl9 (λvs H Q E h=>?_) (λN A r s H vs Q E O h=>?_)
 .revert h;refine e9 λc xs m st z0 _=>?_;subst z0;rfl
 .revert h;refine fz λc xs m st z0 v M xl G q=>?_;subst z0;refine⟨_,(zf (zx (pb1 (zfx rfl) T.zoD PN (pcm ["k","many","cells","stones"] [none,none,some 1,some 2] cR (JN (by rfl) T.jr (za (pvS 0) zd)) (zex (n:=2) (K:=K) (by rfl) rfl (zE (pgN 0) (zE (pgN 1) qT))) qD (zK Z1 (pvS 1) (pc0 (zhI T e) O e (za (pvS 2) (za (zK yM (pvS 3) (pvS 0)) zd)))))))),?_⟩;(try dsimp only[cxK,cxP,cxW]);refine⟨_,rfl,c,rfl,⟨_,SqL.of v⟩,λz B=>?_⟩;refine zg6 (K:=K) (a:=c) (xs:=iL xs) (λi g j=>(∃J u1,g=[J,u1,some (.int m),some (.int st)])/\zo H j/\j z=some (.lst (iL ((WC i).map λk=>Pour.F xs k*chV m (st-(k:Nat)))))) ⟨⟨_,_,rfl⟩,zc B,zb⟩ (λi g j _ ⟨_,d,_⟩=>SqL.of (d _ _ v)) ?_ ?_
  .rintro i x Y g L U l ⟨⟨J,u1,rfl⟩,d,b⟩;refine d9 (λy p z0=>?_) (ints_get U);subst z0;have il:=(XX.mp p).1;have I:=zc (o:=.tup [.int ((i:Nat):Int),.int y]) l;refine di Y rfl (SqT.of zb) rfl rfl rfl rfl ?_;unfold zkK;refine Z0 ⟨_,rfl,_,rfl,_,rfl,_,rfl,_,_,rfl,rfl,m,_,rfl,G,_,_,rfl,rfl,zqU (M y (X8 p)) (znR G),_,I _ _ b,?_,⟨_,_,rfl⟩,λb' o u=>?_,?_⟩
   .rw[ZB,ZB,WL];exact Xi (show i<150 by lia) (by decide)
   .rw[zj (zh u B)];exact I _ _ (d _ _ u)
   .rw[zb,UQ,Xs];show _=some (HO.lst (iL (_++[Pour.F xs i*chV m (st-(i:Nat))])));rw[znL,Pour.znv p]
  .rintro g L ⟨_,d,b⟩;refine⟨z,_,rfl,SqL.of b,?_⟩;rw[ZB,zoI];exact q _ d
def zgi:zD ["board","near"] ["board"] (zp zb3):=bh
def zmb (T:Txt mg)(Z:Prog K mg)(D:zm K mg "count" zb3 ["board"] f fd):qc P w K mg base CX0 7 f fd ["board"] ziM:=by
 obtain⟨ak,ah,zY⟩:=Z.around;obtain⟨ai,Q3,zu⟩:=Z.sign_at;obtain⟨Q4,Y4,zG⟩:=Z.cells_of;obtain⟨ao,al,yO⟩:=Z.closed;obtain⟨af,QN,zF⟩:=Z.open_cells;obtain⟨aj,ag,qe⟩:=Z.number_at;obtain⟨xY,xh,zL⟩:=Z.closed_around;obtain⟨ax,au,m⟩:=Z.far;obtain⟨ar,am,i⟩:=Z.bare_wrong;obtain⟨an,aq,M⟩:=Z.near_counts;obtain⟨aw,av,j⟩:=Z.dealt;refine D.F.ok zgi (λvs H Q E h=>?_) (λaa A z s H vs Q E g h=>?_)
 .revert h;refine e9 λp l a n z0 _=>?_;subst z0;rfl
 .revert h;refine fz λp l a n z0 b R sm n0 q=>?_;subst z0;refine⟨_,(ze (jf 1 zgi.nd (pc0 (zcT T Z M) g M (za (pvS 0) zd))) (ze (qJ (zI (jP g.units) (pc0 (zdk T i zY zu zG zL zF qe) g i (za (pvS 0) zd)) (@zO _ _ _ _ zd) (zT _)) (@zf _ _ _ (@zx _ _ _ _ zg)) qa) (zf (zx (pc0 (zma T Z j) g j (za (pvS 1) (za (pb1 zB T.qK Xj (pc0 (zpT T m zY zu zG yO zF) g m (za (pvS 0) zd))) (za (zv qb (pvS 0) zg (λ_ _=>rfl)) zd)))))))),?_⟩;(try dsimp only[cxK,cxP,cxW]);refine⟨_,rfl,p,l,a,n,rfl,b,R,sm,λd1 gs H1 ac G up L s1=>?_⟩;refine⟨_,rfl,p,l,a,n,rfl,b.mono s1,R,λd2 w2 H2 ae J v Y=>⟨jR,λe he=>?_⟩⟩;have r:=zc (o:=.lst []) he;have U:=count_is G n.toNat;rw[Sk n0]at U;unfold znU at q;rw[<- U]at q;refine cO (.list ((YD a).map zk)) (.list []) (.lst (SqL.of (r _ _ J)) (zq.rdv (N:=λ_=>True) (Cel.rdn (Cel.mono r v)))) (.lst (SqL.of zb) .nil) (YZ _ []) ⟨_,rfl,?_⟩;have ee:(if true=true then !PyData.eqv (.list ((YD a).map zk)) (.list []) else WW (.list ((YD a).map zk)) (.list []))=!(YD a).isEmpty:=by
   show (!PyData.eqv _ _)=_;rw[eq_nil]
  rw[ee];have c:=(s1.trans Y).trans r;have d:=r _ _ (Y _ _ L);generalize upd H2 e (.lst [])=H3 at *
  cases hb:(YD a).isEmpty with
  | false =>
   rw[hb,bq XU]at q;exact Z0 (q _ c)
  | true =>
   rw[hb,bw rfl]at q;refine xX ?_;have O:=b.mono c;refine⟨_,rfl,_,rfl,p,l,a,n,rfl,O,R,λd4 I H4 _ y x B=>⟨d4,_,rfl,.inl (SqL.of y),?_⟩⟩;have hl:=x.length;have ab:(zbL a).length<=64:=X6 (Xw _ _) (qO (p:=x9) R);have u:=zcR G R;refine⟨_,rfl,p,_,1,_,rfl,rfl,SqT.of (O.mono B).tp,rfl,d1,_,(I.length:Nat),n,rfl,B _ _ d,zhF u,by rw[Tally.YW];lia,by lia,λH' s'=>?_⟩;rw[hl,znS];exact q _ ((c.trans B).trans s')
abbrev KV1:=List (List Key×V)
def jN (c:AA):List Key:=[.inl ((c.1:Nat):Int),.inl ((c.2:Nat):Int)]
def zcV {c d:AA}(h:jN c=jN d):c=d:=by
 unfold jN at h;obtain⟨a,b⟩:=c;obtain⟨x,y⟩:=d;simp only[List.cons.injEq,Sum.inl.injEq,and_true]at h;obtain⟨h1,h2⟩:=h;have e:a=x:=by lia
 have f:b=y:=by lia
 rw[e,f]
def zgj {kvs:KV1}{k:List Key}{v:V}(h:jb kvs k=some v):(k,v)∈kvs:=by
 unfold jb at h;cases e:kvs.find? (λa=>decide (a.1=k)) with
 | none =>
  rw[e]at h;cases h
 | some a =>
  rw[e]at h;have h1:a.2=v:=by simpa using h
  have h2:a.1=k:=bg (show decide (a.1=k)=true from List.find?_some (p:=λ(a:List Key×V)=>decide (a.1=k)) e);have b:=List.mem_of_find?_eq_some e;rw[<- h1,<- h2];exact b
def zcW (kvs:KV1)(k:List Key)(v:V):(k∈kvs.map (·.1)/\(putK kvs k v).map (·.1)=kvs.map (·.1))\/(¬ k∈kvs.map (·.1)/\(putK kvs k v).map (·.1)=kvs.map (·.1)++[k]):=by
 unfold putK;by_cases h:(kvs.any λa=>decide (a.1=k))=true
 .refine .inl ⟨?_,?_⟩
  .obtain⟨a,h1,h2⟩:=WT.mp h;exact XN.mpr ⟨a,h1,bg h2⟩
  .rw[bw h,Wj];refine W9 λa _=>?_;show (if a.1=k then (a.1,v) else a).1=a.1;split<;>rfl
 .refine .inr ⟨λb=>?_,?_⟩
  .obtain⟨a,h1,h2⟩:=XN.mp b;exact h (WT.mpr ⟨a,h1,br h2⟩)
  .rw[bq h,Xs];rfl
def zp5 {kvs:KV1}(k:List Key)(v:V)(h:(kvs.map (·.1)).Nodup):((putK kvs k v).map (·.1)).Nodup:=by
 rcases zcW kvs k v with ⟨_,e⟩ | ⟨g,e⟩
 .rw[e];exact h
 .rw[e,WY];refine⟨h,by simp,λa d b f z=>g ?_⟩;have c:b=k:=by simpa using f
  rw[<- c,<- z];exact d
theorem ziO:∀(ps a:KV1),(a.map (·.1)).Nodup->((ps.foldl (λa b=>putK a b.1 b.2) a).map (·.1)).Nodup
 | [],_,h=>h
 | p::r,a,h=>ziO r _ (zp5 p.1 p.2 h)
theorem zec:∀(ps a:KV1) (k:List Key),k∈(ps.foldl (λa b=>putK a b.1 b.2) a).map (·.1)->k∈a.map (·.1)\/k∈ps.map (·.1)
 | [],_,_,h=>.inl h
 | p::r,a,k,h=>by
  rcases zec r _ k h with h | h
  .rcases zcW a p.1 p.2 with ⟨_,e⟩ | ⟨_,e⟩
   .rw[e]at h;exact .inl h
   .rw[e]at h;rcases XM.mp h with h | h
    .exact .inl h
    .exact .inr (by
      have:k=p.1:=by simpa using h
      rw[this];exact XR)
  .exact .inr (XV _ h)
theorem zgk:∀(ps a:KV1),(ps.foldl (λa b=>putK a b.1 b.2) a).length<=a.length+ps.length
 | [],_=>XT _
 | p::r,a=>by
  have h1:=zgk r (putK a p.1 p.2);have h2:=yr a p.1 p.2;rw[VW,Xo];lia
theorem zed:∀(b a:KV1) (k:List Key),(b.map (·.1)).Nodup->jb (QX a b) k=(jb b k).or (jb a k)
 | [],a,k,_=>rfl
 | kv::r,a,k,c=>by
  rw[XD,Wf]at c;show jb (QX (putK a kv.1 kv.2) r) k=_;rw[zed r _ k c.2,zcf];by_cases e:kv.1=k
  .rw[jG e,bw e.symm];have:jb r k=none:=by
    cases hr:jb r k with
    | none=>rfl
    | some v=>exact absurd (XN.mpr ⟨(k,v),zgj hr,by rw[e]⟩) c.1
   rw[this];rfl
  .rw[jH e,bq (λz=>e z.symm)]
def Zo (cs:AB)(v:V):KV1:=zfD (cs.map λc=>(jN c,v))
theorem zcX (v:V)(x:AA):∀(cs:AB) (a:KV1),jb ((cs.map λc=>(jN c,v)).foldl (λa b=>putK a b.1 b.2) a) (jN x)=if x∈cs then some v else jb a (jN x)
 | [],a=>by simp
 | c::r,a=>by
  rw[XD,VW,zcX v x r,zcf];by_cases h:x∈r
  .rw[bw h,bw (XV _ h)]
  .rw[bq h];by_cases e:x=c
   .subst e;rw[bw rfl,bw XR]
   .rw[bq (λz=>e (zcV z)),bq (λz=>by rcases XI.mp z with z | z;exact e z;exact h z)]
def zgl {cs:AB}{v:V}(h:∀c∈cs,c.1<8/\c.2<8):L2.Small ((Zo cs v).map (·.1)):=λk hk=>by
 rcases zec _ [] k hk with h1 | h1
 .exact nomatch h1
 .rw[Wj]at h1;obtain⟨c,a,rfl⟩:=XN.mp h1;exact⟨c.1,c.2,(h c a).1,(h c a).2,rfl⟩
def zee (cs:AB)(v:V):(Zo cs v).length<=cs.length:=by
 have:=zgk (cs.map λc=>(jN c,v)) [];rw[ZB]at this;unfold Zo zfD;simpa using this
structure jz (H:Hp)(fa fc fs:Addr)(us ws:AE)(cl st:AB):Prop where
 tp:H fa=some (.tup [.ref fc,.ref fs])
 h1:H fc=some (.lst us)
 h2:H fs=some (.lst ws)
 c1:Cel H us cl
 c2:Cel H ws st
theorem jz.mono {H a:Hp}{c d fs:Addr}{e f:AE}{b st:AB}(x:jz H c d fs e f b st)(s:zo H a):jz a c d fs e f b st:=⟨s _ _ x.tp,s _ _ x.h1,s _ _ x.h2,x.c1.mono s,x.c2.mono s⟩
structure zrk (cl st:AB):Prop where
 b1:∀c∈cl,c.1<8/\c.2<8
 b2:∀c∈st,c.1<8/\c.2<8
 l1:cl.length<=64
 l2:st.length<=64
def ziP (kvs:KV1)(a st:AB):Prop:=∀c,jb kvs (jN c)=if c∈st then some (V.int 1) else if c∈a then some (V.int 0) else none
def ziQ:Sp:=λh H Q _=>∃(e f fs:Addr) (g i:AE) (c st:AB),h=[.ref e]/\jz H e f fs g i c st/\zrk c st /\
 ∀(d:Addr) (a:KV1) (b:Hp),H d=none->b d=some (.dT a)->ziP a c st->zo H b->Q (.ref d) b
def Q5 (st cs:AB):List Int:=cs.map λc=>if c∈st then 1 else 0
def jo (a st cs:AB):AB:=cs.filter λc=>!(decide (c∈st) || decide (c∈a))
def ziR:Sp:=λl H Q _=>∃(t h g:Addr) (e:Int) (i:AE) (c f st:AB) (b:KV1),l=[.ref t,.ref g]/\H t=some (.tup [.int e,.ref h])/\H h=some (.lst i)/\Cel H i c/\c.length<=64/\H g=some (.dT b)/\ziP b f st /\
 ∀(r d:Addr) (j:AE) (a:Hp),H r=none->H d=none->a r=some (.tup [.int (e-(Q5 st c).sum),.ref d])->a d=some (.lst j)->Cel a j (jo f st c)->zo H a->Q (.ref r) a
def zby:zD ["finding","known"] ["finding"] (zp Yj):=bh
def zgm (T:Txt mg)(D:zm K mg "known_of" Yj ["finding"] f fd):qc P w K mg base CX0 1 f fd ["finding"] ziQ:=by
 refine D.F.ok zby (λvs H Q E h=>?_) (λah A af s H vs Q E Y h=>?_)
 .revert h;refine fC λfa fc fs us ws j st z0 _=>?_;subst z0;rfl
 .revert h;refine eH λfa fc fs us=>eU λws j st z0 X Fi q=>?_;subst z0;refine⟨_,(ze (jf 1 zby.nd (pt1 (YC Y.units Y.hd) T.zlC P7 (pcm ["cell"] [none] cP (zw (zv jd (pv 0) zg (λ_ _=>rfl))) (pgN 0) qD (ql (za (pv 0) (@za _ _ _ _ _ zg zd rfl)))))) (ze (jj (yH Ro RC PySem.F.type_dict_update (zhf Y.units) (pv 1) (za (pt1 (YC Y.units Y.hd) T.zlC P7 (pcm ["cell"] [none] cP (zw (zv jd (pv 0) zg (λ_ _=>rfl))) (pgN 0) qD (ql (za (pv 0) (@za _ _ _ _ _ zg zd rfl))))) zd))) (zf (zx (pv 1))))),?_⟩;(try dsimp only[cxK,cxP,cxW]);refine cV rfl fa 0 rfl rfl (SqT.of X.tp) rfl (cK fc rfl ⟨_,SqL.of X.h1⟩ (λy hy=>?_));have l1:=Fi.l1;have l2:=Fi.l2;refine qN (K:=K) (a:=fc) (xs:=us) (λi z u=>(∃u0,z=[u0])/\zo H u/\∃g,u y=some (.lst g)/\yu u g ((j.take i).map λc=>(jN c,V.int 0))) ⟨⟨_,rfl⟩,zc hy,[],zb,.nil⟩ (λi z u _ ⟨_,v,_⟩=>SqL.of (v _ _ X.h1)) ?_ ?_
  .rintro i x z H6 hx ⟨⟨u0,rfl⟩,v,g,n,m⟩;refine eW (λc I J z0 G=>?_) (Cel.get (Cel.mono v X.c1) hx);subst z0;refine Jm (dj rfl yD (λp hp=>?_));have r:=zc (o:=.tup [.ref J,.int 0]) hp;have l:g.length<=64:=by
    rw[m.length,ZB,XJ];lia
   refine cM g (r _ _ n) (XE l (by decide)) ⟨_,rfl⟩ (λb' o L=>?_) (cW (g++[.ref p]) zb ?_)
   .rw[zj (zh L hy)];exact r _ _ (v _ _ L)
   .rw[Xb,I,Xs];exact yu.into y _ (r _ _ n) (yu.snoc (m.mono r) ⟨p,J,rfl,zb,r _ _ G⟩)
  refine λz H1=>e8 λ_ s1 g ac O=>?_;rw[X.c1.length,XF]at O;refine dw y g (cJ rfl ac O (λd hd=>?_));have z2:=zc (o:=.dT (Zo j (.int 0))) hd;have N:upd H1 d (.dT (Zo j (.int 0))) d=some (.dT (Zo j (.int 0))):=zb;have s2:=s1.trans z2;have X2:=X.mono s2;have M:=s1.free hd;show _;refine dj rfl (.inr (.inr (.inl ⟨rfl,.inr ⟨_,zb⟩⟩))) (cV rfl fa 1 rfl rfl (SqT.of X2.tp) rfl (cK fs rfl ⟨_,SqL.of X2.h2⟩ (λy2 aa=>?_)));refine qN (K:=K) (a:=fs) (xs:=ws) (λi z u=>(∃u0,z=[u0])/\zo (upd H1 d (.dT (Zo j (.int 0)))) u/\∃g,u y2=some (.lst g)/\yu u g ((st.take i).map λc=>(jN c,V.int 1))) ⟨⟨_,rfl⟩,zc aa,[],zb,.nil⟩ (λi z u _ ⟨_,v,_⟩=>SqL.of (v _ _ X2.h2)) ?_ ?_
  .rintro i x z H6 hx ⟨⟨u0,rfl⟩,v,g,n,m⟩;refine eW (λc I J z0 G=>?_) (Cel.get (Cel.mono v X2.c2) hx);subst z0;refine Jm (dj rfl yD (λp hp=>?_));have r:=zc (o:=.tup [.ref J,.int 1]) hp;have l:g.length<=64:=by
    rw[m.length,ZB,XJ];lia
   refine cM g (r _ _ n) (XE l (by decide)) ⟨_,rfl⟩ (λb' o L=>?_) (cW (g++[.ref p]) zb ?_)
   .rw[zj (zh L aa)];exact r _ _ (v _ _ L)
   .rw[Xb,I,Xs];exact yu.into y2 _ (r _ _ n) (yu.snoc (m.mono r) ⟨p,J,rfl,zb,r _ _ G⟩)
  refine λz H3=>e8 λ_ s3 ag ae U=>?_;rw[X.c2.length,XF]at U;refine dw y2 ag (cJ rfl ae U (λd2 B=>?_));have z4:=zc (o:=.dT (Zo st (.int 1))) B;have ne:d≠d2:=zh (s3 _ _ N) B;have ab:=z4 _ _ (s3 _ _ N);refine cL d d2 (Zo j (.int 0)) (Zo st (.int 1)) (cX rfl rfl ne ab (cJ zb (zgl Fi.b2) ?_ (cG rfl ?_)))
  .have a1:=zee j (.int 0);have a2:=zee st (.int 1);exact X6 (show _<=128 by lia) (by decide)
  .refine q d _ _ M zb (λc=>?_) λb o e=>?_
   .rw[zed (Zo st (.int 1)) (Zo j (.int 0)) (jN c) (ziO _ [] VX)];have e1:jb (Zo st (.int 1)) (jN c)=if c∈st then some (V.int 1) else none:=zcX _ c st []
    have e2:jb (Zo j (.int 0)) (jN c)=if c∈j then some (V.int 0) else none:=zcX _ c j []
    rw[e1,e2];by_cases h1:c∈st
    .rw[bw h1,bw h1];rfl
    .rw[bq h1,bq h1];rfl
   .rw[zj (zh e M)];exact z4 _ _ (s3 _ _ (s2 _ _ e))
def Y5:zD ["asked","known","lying"] ["asked","known"] (zp xM):=bh
def zcY (T:Txt mg)(D:zm K mg "still_asked" xM ["asked","known"] f fd):qc P w K mg base CX0 1 f fd ["asked","known"] ziR:=by
 refine D.F.ok Y5 (λvs H Q E h=>?_) (λah A af s H vs Q E hr h=>?_)
 .revert h;refine fL λt I G a0 us p j st b z0 _=>?_;subst z0;rfl
 .revert h;refine eE λt I G a0 us p j st=>fj λb z0 ht g d=>eZ λU l hK q=>?_;subst z0;refine⟨_,(ze (jf 2 Y5.nd (pb1 (zfx rfl) T.zoD PN (pcm ["cell","known"] [none,some 1] cR (zw (zv jd (pv 0) zg (λ_ _=>rfl))) (pgN 0) qD (zci (u1 hr.units) (pv 1) (pv 0) zg ⟨rfl,rfl,rfl,rfl⟩)))) (zf (zx (ql (za (zK Zq (zv jd (pv 0) zg (λ_ _=>rfl)) (pv 2)) (za (pcm ["cell","known"] [none,some 1] cR (zw (zv jd (pv 0) zg (λ_ _=>rfl))) (pgN 0) (zU (zo8 (zjw (u1 hr.units) (pv 0) (pv 1)))) (pv 0)) zd)))))),?_⟩;(try dsimp only[cxK,cxP,cxW]);refine cV rfl t 1 rfl rfl (SqT.of ht) rfl (cK I rfl ⟨_,SqL.of g⟩ (λy hy=>?_));refine qN (K:=K) (a:=I) (xs:=us) (λi m O=>(∃L,m=[L,some (.ref G)])/\zo H O/\O y=some (.lst ((Q5 st (p.take i)).map V.int))) ⟨⟨_,rfl⟩,zc hy,zb⟩ (λi m O _ ⟨_,n,_⟩=>SqL.of (n _ _ g)) ?_ ?_
  .rintro i x m H6 hx ⟨⟨L,rfl⟩,n,ac⟩;refine eW (λc ab ca z0 e=>?_) (Cel.get (Cel.mono n d) hx);subst z0;refine Jm (cG rfl (cK G rfl (.inr ⟨b,.inl (n _ _ l)⟩) (cG rfl (cW (jb b (jN c)) (zbK.t (k:=jN c) (n _ _ l) e) ?_))));have eg:(jb b (jN c)).getD (V.int 0)=V.int (if c∈st then 1 else 0):=by
    rw[hK c];by_cases h1:c∈st
    .rw[bw h1,bw h1];rfl
    .rw[bq h1,bq h1];by_cases h2:c∈j
     .rw[bw h2];rfl
     .rw[bq h2];rfl
   rw[eg];refine⟨_,(cX ac ?_ ⟨_,rfl⟩ (λb' o e'=>?_) ?_)⟩
   .unfold Q5;rw[ZB,ZB,XJ];exact XE (show _<=64 by lia) (by decide)
   .rw[zj (zh e' hy)];exact n _ _ e'
   .rw[zb,Xb,ab];unfold Q5;rw[Xs,Xs];rfl
  rintro m H1 ⟨_,s1,B⟩;rw[d.length,XF]at B;refine dO y rfl (SqL.of B) ?_;refine cV rfl t 0 rfl rfl (SqT.of (s1 _ _ ht)) rfl (dR rfl rfl rfl (cV rfl t 1 rfl rfl (SqT.of (s1 _ _ ht)) rfl (cK I rfl ⟨_,SqL.of (s1 _ _ g)⟩ (λz hz=>?_))));refine zM (K:=K) (a:=I) (xs:=us) (λa=>a≠z) (p.map λc=>if (!(decide (c∈st) || decide (c∈j)))=true then some (zk c) else none) (fun m=>∃L,m=[L,some (.ref G)]) hz (λ_ h=>h) ⟨_,rfl⟩ (by rw[ZB];exact d.length.symm) (by rw[d.length];exact X6 U (by decide)) (SqL.of (s1 _ _ g)) ?_ ?_
  .rintro k x o m H2 hx ho J _ ⟨L,rfl⟩ Y Z ag no;obtain⟨c,hc,r1⟩:=Cel.get (Cel.mono (s1.trans J) d) hx;have M:=qt hc ho;obtain⟨ca,rfl,e⟩:=r1;refine cS rfl rfl (cN G (jb b (jN c)) (cH rfl (zbK.t (k:=jN c) (J _ _ (s1 _ _ l)) e) (cG rfl ?_)));have ei:(!(jb b (jN c)).isSome)=!(decide (c∈st) || decide (c∈j)):=by
    rw[hK c];by_cases h1:c∈st
    .rw[bw h1,br h1];rfl
    .rw[bq h1,bf h1];by_cases h2:c∈j
     .rw[bw h2,br h2];rfl
     .rw[bq h2,bf h2];rfl
   rw[ei];by_cases N:(!(decide (c∈st) || decide (c∈j)))=true
   .rw[bw N]at M;exact qQ N ⟨_,rfl,ag _ _ _ _ M ⟨_,rfl⟩ (zo.refl _) (jU.rdn ⟨ca,rfl,e⟩)⟩
   .rw[bq N]at M;exact qu (XO.mpr N) (no _ _ M ⟨_,rfl⟩ (zo.refl _))
  .rintro ys H2 J ae u;rw[zJ]at u;have aa:Cel H2 ys (jo j st p):=zq.cel u;refine⟨yD,λr v=>?_⟩;have z3:=zc (o:=.tup [.int (a0-(Q5 st p).sum),.ref z]) v;exact q r z ys _ ((s1.trans J).free v) (s1.free hz) zb (z3 _ _ ae) (aa.mono z3) ((s1.trans J).trans z3)
def dig (kvs:KV1)(c:AA)(k:Nat):Nat:=match jb kvs (jN c) with
 | some (.int v)=>48+v.toNat
 | _=>k
structure Nums (cs:AB)(N:Nat)(kvs:KV1):Prop where
 vals:∀kv∈kvs,∃c∈cs,∃v:Nat,v<=8/\kv.1=jN c/\kv.2=V.int (v:Nat)
 nd:(kvs.map (·.1)).Nodup
 len:kvs.length<=N
def Nums.at {cs:AB}{N:Nat}{kvs:KV1}(h:Nums cs N kvs)(c:AA):jb kvs (jN c)=none\/∃v:Nat,v<=8/\c∈cs/\jb kvs (jN c)=some (V.int (v:Nat)):=by
 cases e:jb kvs (jN c) with
 | none=>exact .inl rfl
 | some v =>
  refine d9 (λj g=>eS λn i b d=>?_) (h.vals _ (zgj e));have f:=zcV b;subst f;have a:v=V.int (n:Nat):=d;subst a;exact .inr ⟨n,i,g,rfl⟩
def Nums.nil (cs:AB)(N:Nat):Nums cs N []:=⟨(λ_ h=>nomatch h),VX,W1 _⟩
def znW {kvs:KV1}{k:List Key}{v:V}{a:List Key×V}(h:a∈putK kvs k v):a∈kvs\/a=(k,v):=by
 unfold putK at h;split at h
 .obtain⟨x,b,e⟩:=XN.mp h;by_cases hk:x.1=k
  .rw[bw hk]at e;exact .inr (by rw[<- e,hk])
  .rw[bq hk]at e;exact .inl (by rw[<- e];exact b)
 .rcases XM.mp h with h | h
  .exact .inl h
  .exact .inr (by simpa using h)
def Nums.put {cs:AB}{N:Nat}{kvs:KV1}(h:Nums cs N kvs){k:List Key}{w:V}(hk:∃c∈cs,∃v:Nat,v<=8/\k=jN c/\w=V.int (v:Nat)):Nums cs (N+1) (putK kvs k w):=by
 refine⟨λl d=>?_,?_,?_⟩
 .rcases znW d with h1 | h1
  .exact h.vals l h1
  .subst h1;exact hk
 .rcases zcW kvs k w with ⟨_,e⟩ | ⟨j,e⟩
  .rw[e];exact h.nd
  .rw[e,WY];refine⟨h.nd,by simp,λa g b i e=>j ?_⟩;have f:b=k:=by simpa using i
   rw[<- f,<- e];exact g
 .have:=yr kvs k w;have:=h.len;lia
def jM (kvs:KV1)(i:Nat)(t:List Nat):List Nat:=t.mapIdx λj c=>dig kvs (i,j) c
def znX (kvs:KV1)(i:Nat)(t:Str):Str:=⟨(jM kvs i t.cps.toList).toArray⟩
def yQ (kvs:KV1)(rs:AD):AD:=rs.mapIdx λi t=>znX kvs i t
def ZN (kvs:KV1)(i:Nat)(t:Str):(znX kvs i t).cps.toList=jM kvs i t.cps.toList:=by
 show (jM kvs i t.cps.toList).toArray.toList=_;rw[O8]
def znY {a b:Str}(h:a.cps.toList=b.cps.toList):a=b:=by
 obtain⟨⟨x⟩⟩:=a;obtain⟨⟨y⟩⟩:=b;have:x=y:=h;rw[this]
def zaQ {kvs:KV1}{rs:AD}{i:Nat}{t:Str}(h:rs[i]?=some t):(yQ kvs rs)[i]?=some (znX kvs i t):=by
 unfold yQ;rw[TY,h];rfl
def JJ (kvs:KV1)(rs:AD):(yQ kvs rs).length=rs.length:=by
 unfold yQ;rw[Wb]
def QA {kvs:KV1}{i j c:Nat}{t:List Nat}(h:t[j]?=some c):(jM kvs i t)[j]?=some (dig kvs (i,j) c):=by
 unfold jM;rw[TY,h];rfl
def zp6:∀v:Nat,v<=8->48+v∈bd.cps.toList:=by decide+kernel
def Rows.put {cs:AB}{N:Nat}{kvs:KV1}(h:Nums cs N kvs){rs:AD}(R:Rows bd.cps.toList rs):Rows bd.cps.toList (yQ kvs rs):=by
 obtain⟨n,r,s,o⟩:=R.ex;refine⟨by rw[JJ];exact R.lo,by rw[JJ];exact R.hi,n,r,s,λt p=>?_⟩;obtain⟨i,a⟩:=UK p;cases e:rs[i]? with
 | none =>
  have h0:=US.mp e;rw[US.mpr (by rw[JJ];exact h0)]at a;cases a
 | some u =>
  rw[zaQ e]at a;have m:=Option.some.inj a;subst m;have g:=o u (X8 e);refine⟨?_,λc f=>?_⟩
  .rw[<- XZ,ZN];unfold jM;rw[Wb,XZ];exact g.len
  .rw[ZN]at f;obtain⟨j,b⟩:=UK f;cases e2:u.cps.toList[j]? with
   | none =>
    have h0:=US.mp e2;rw[US.mpr (by unfold jM;rw[Wb];exact h0)]at b;cases b
   | some k =>
    rw[QA e2]at b;have l:=Option.some.inj b;subst l;unfold dig;rcases h.at (i,j) with d | ⟨v,q,_,d⟩
    .rw[d];exact g.mem k (X8 e2)
    .rw[d];exact zp6 v q
def zgn:Sp:=λg H Q _=>∃(p l d:Addr) (c:AD) (n:Int) (f:AB) (N:Nat) (a:KV1),g=[.ref p,.ref d]/\qj H p l c n/\Rows bd.cps.toList c/\H d=some (.dT a)/\Nums f N a /\
 ∀(q e:Addr) (b:Hp),H q=none->H e=none->qj b q e (yQ a c) n->zo H b->Q (.ref q) b
theorem join_ones:∀cs:List Nat,(Rz "" (cs.map λc=>(⟨#[c]⟩:Str))).cps.toList=cs
 | []=>rfl
 | [c]=>rfl
 | c::e::r=>by
  have h:(Rz "" ((c::e::r).map λc=>(⟨#[c]⟩:Str))).cps=#[c]++("":Str).cps++(Rz "" ((e::r).map λc=>(⟨#[c]⟩:Str))).cps:=rfl;rw[h,WP,WP,join_ones (e::r)];rfl
def zkg (kvs:KV1)(i:Nat)(t:Str):Rz "" ((jM kvs i t.cps.toList).map λc=>(⟨#[c]⟩:Str))=znX kvs i t:=znY (by rw[join_ones,ZN])
def zp7:∀d:Nat,d<=8->((toString (d:Int):String):Str)=⟨#[48+d]⟩:=by decide+kernel
theorem zgo:∀cs:List Nat,((cs.map λc=>(⟨#[c]⟩:Str)).map (·.length)).sum=cs.length
 | []=>rfl
 | c::r=>by
  rw[XD,XD,Sw,zgo r,Xo];show 1+r.length=_;lia
def take_snoc {α:Type}{xs:List α}{i:Nat}{x:α}(h:xs[i]?=some x):xs.take (i+1)=xs.take i++[x]:=by
 rw[Xb,h];rfl
def ZO:zD ["board","numbers","rows","row","text","signs"] ["board","numbers"] (zp zaG):=bh
def zkh (T:Txt mg)(D:zm K mg "opened" zaG ["board","numbers"] f fd):qc P w K mg base CX0 1 f fd ["board","numbers"] zgn:=by
 refine D.F.ok ZO (λvs H Q E h=>?_) (λal A ai s H vs Q E hr h=>?_)
 .revert h;refine eE λp l d G n cs N a=>eV λz0 _=>?_;subst z0;rfl
 .revert h;refine eE λp l d G n cs N a=>fm λz0 b R hd hN q=>?_;subst z0;refine⟨_,(@ze _ _ _ _ _ (@qh _ _ 2 _ _ _ _ ZO.nd rfl (V2 rfl) (@zO _ _ _ _ zd) (by rfl) (.inr rfl)) (ze (qx Xc rfl (JN (by rfl) T.jr (za (zv qb (pvS 0) zg (λ_ _=>rfl)) zd)) (jO rfl (zE (pgq 3 ZO.nd) (zE (pgq 4 ZO.nd) qT))) (ze (psC 5 ZO.nd ["column","sign","numbers","row"] [none,none,some 1,some 3] cR (zft (by rfl) T.jr (za (pvS 4) zd)) (zex (n:=2) (K:=K) (by rfl) rfl (zE (pgN 0) (zE (pgN 1) qT))) qD (pt1 zfI T.zoC PM (zci (u1 hr.units) (pvS 2) (ql (za (pvS 3) (za (pvS 0) zd))) (pvS 1) ⟨rfl,rfl,rfl,rfl⟩))) (zf (jj (yH W7 WI WH yj (pvS 2) (@za _ _ _ _ _ (@yH _ _ _ _ _ _ _ _ _ _ _ _ PySem.F.plainAttrs_str PySem.F.slot_str_join PySem.F.type_str_join zm9 qC (za (pvS 5) zd) (by rfl) (by rfl) (by rfl) (by rfl) (by rfl)) zd rfl)))))) (zf (zx (ql (za (pvS 2) (za (zv qb (pvS 0) zg (λ_ _=>rfl)) zd))))))),?_⟩;(try dsimp only[cxK,cxP,cxW]);refine⟨jR,λB u=>?_⟩;have s0:zo H (upd H B (.lst [])):=zc u;have an:=R.hi;refine⟨_,rfl,p,_,0,_,rfl,rfl,SqT.of (b.mono s0).tp,rfl,l,rfl,⟨_,SqL.of (b.mono s0).rw⟩,?_⟩;refine JE (K:=K) (l:=l) (xs:=G.map V.str) (λi r y=>∃(v3 v4 v5:Option V),r=[some (.ref p),some (.ref d),some (.ref B),v3,v4,v5]/\zo H y/\y B=some (.lst (((yQ a G).take i).map V.str)))
   (dh (cH rfl s0 zb)) (λi r y _ ⟨_,_,_,_,s1,_⟩=>SqL.of (b.mono s1).rw) ?_ ?_
  .refine λi x tt r H1 hx ag=>fh λv3 v4 v5 z0 s1 g=>?_;subst z0;rw[XB]at hx;cases e:G[i]? with
   | none =>
    rw[e]at hx;cases hx
   | some t =>
    rw[e]at hx;cases hx;have ak:t.cps.toList.length<=8:=R.short _ (X8 (qG e));have am:i<G.length:=(XX.mp e).1;have st:zo H1 (upd H1 tt (.tup [.int (i:Nat),.str t])):=zc ag;refine di tt rfl (SqT.of zb) rfl rfl rfl rfl ?_;have s2:=s1.trans st;have U:=st _ _ g;generalize upd H1 tt (.tup [.int (i:Nat),.str t])=H2 at *
    refine⟨_,rfl,t,rfl,λz hz=>?_⟩;refine zcc (x:=t) (λj r y=>∃(u0 u1:Option V),r=[u0,u1,some (.ref d),some (.int (i:Nat))]/\zo H2 y/\y z=some (.lst (((jM a i t.cps.toList).take j).map λc=>V.str ⟨#[c]⟩))) (cT rfl (zc hz) zb) ?_ ?_
    .refine λj c t2 r J hc af=>eF λu0 u1 z0 I m=>?_;subst z0;have ae:t.cps.toList[j]?=some c:=by rw[XA];exact hc
     refine di t2 rfl (SqT.of zb) rfl rfl rfl rfl ?_;have s4:zo J (upd J t2 (.tup [.int (j:Nat),.str ⟨#[c]⟩])):=zc af;have Y:=s4 _ _ (I _ _ (s2 _ _ hd));have ah:=s4 _ _ m;have aj:=I.trans s4;generalize upd J t2 (.tup [.int (j:Nat),.str ⟨#[c]⟩])=H4 at *
     unfold zkK;refine Z0 ⟨_,rfl,d,rfl,.inr ⟨a,.inl Y⟩,_,rfl,_,rfl,yD,λtp ab=>⟨_,rfl,jb a (jN (i,j)),?_,?_⟩⟩
     .exact zbK.t (k:=jN (i,j)) (zc ab _ _ Y) zb
     have s5:=zc (o:=.tup [.int (i:Nat),.int (j:Nat)]) ab;have O:∀k:Nat,k=dig a (i,j) c->∃ys,upd H4 tp (.tup [.int (i:Nat),.int (j:Nat)]) z=some (.lst ys)/\ys.length<Xv/\∃(u0 u1:Option V),[some (V.int (j:Nat)),some (V.str ⟨#[c]⟩),some (.ref d),some (.int (i:Nat))]=[u0,u1,some (.ref d),some (.int (i:Nat))]/\zo H2 (upd (upd H4 tp (.tup [.int (i:Nat),.int (j:Nat)])) z (.lst (ys++[V.str ⟨#[k]⟩])))/\upd (upd H4 tp (.tup [.int (i:Nat),.int (j:Nat)])) z (.lst (ys++[V.str ⟨#[k]⟩])) z=some (.lst (((jM a i t.cps.toList).take (j+1)).map λc=>V.str ⟨#[c]⟩)):=λk hk=>by
      refine dj (s5 _ _ ah) ?_ (cT rfl (λb' o L=>?_) ?_)
      .rw[ZB,XJ];unfold jM;rw[Wb];exact XE (show _<=8 by lia) (by decide)
      .rw[zj (zh L hz)];exact s5 _ _ (aj _ _ L)
      .rw[zb,take_snoc (QA ae),Xs,hk];rfl
     rcases hN.at (i,j) with M | ⟨v,hv,_,M⟩
     .rw[M];exact cT rfl (.inl rfl) (O c (by unfold dig;rw[M]))
     .rw[M];refine⟨_,(cK ⟨#[48+v]⟩ rfl (.inr ⟨(v:Nat),rfl,?_,(zp7 v hv).symm⟩) (O (48+v) (by unfold dig;rw[M];rfl)))⟩;have:∀v:Nat,v<=8->((v:Nat):Int).natAbs.log2<1920:=by decide+kernel
      exact this v hv
    .refine λr J=>eF λu0 u1 z0 I m=>?_;subst z0;have ez:(jM a i t.cps.toList).take t.cps.size=jM a i t.cps.toList:=WE (by unfold jM;rw[Wb,XZ];exact XT _);rw[ez]at m;have ac:J z=some (.lst (((jM a i t.cps.toList).map λc=>(⟨#[c]⟩:Str)).map V.str)):=by
      rw[m,Wj];rfl
     have pl:(jM a i t.cps.toList).length<=8:=by
      unfold jM;rw[Wb];exact ak
     refine⟨_,rfl,.inl ⟨rfl,_,SqL.of (I _ _ U)⟩,rfl,_,rfl,"",z,_,rfl,rfl,SqL.of ac,?_,B,_,_,rfl,rfl,I _ _ U,?_,?_⟩
     .rw[zgo,ZB];have:("":Str).length=0:=rfl;rw[this];lia
     .rw[ZB,XJ,JJ];exact XE (show _<=8 by lia) (by decide)
     .rw[zkg];refine dh (cH rfl (λb' o L=>?_) ?_)
      .rw[zj (zh L u)];exact I _ _ (s2 _ _ L)
      .rw[zb,take_snoc (zaQ e),Xs];rfl
  .refine λr H1=>fh λv3 v4 v5 z0 s1 g=>?_;subst z0;rw[ZB,<- JJ a G,XF]at g;refine⟨_,rfl,_,rfl,p,_,1,_,rfl,rfl,SqT.of (b.mono s1).tp,rfl,yD,λq2 aa=>?_⟩;have s2:=zc (o:=.tup [.ref B,.int n]) aa;exact q q2 B _ (s1.free aa) u ⟨zb,s2 _ _ g⟩ (s1.trans s2)
def xZ (H:Hp)(v:V):Option AA->Prop
 | none=>v=V.str "all"
 | some c=>jU H v c
theorem xZ.mono {H b:Hp}{v:V}(s:zo H b):∀{c:Option AA},xZ H v c->xZ b v c
 | none,h=>h
 | some _,⟨a,e,h⟩=>⟨a,e,s _ _ h⟩
def znZ (rs:AD)(n:Int):Option AA->Int
 | none=>n
 | some c=>((Cells.sgn (codes rs) c:Nat):Int)-48
def zbN (rs:AD):Option AA->AB
 | none=>zH rs
 | some c=>clA rs c
def ziS:Sp:=λg H Q _=>∃(p l:Addr) (b:AD) (n:Int) (v:V) (d:Option AA),g=[.ref p,v]/\qj H p l b n/\Rows bd.cps.toList b/\xZ H v d/\(∀c,d=some c->c∈zV b) /\
 ∀(t e:Addr) (f:AE) (a:Hp),H t=none->H e=none->a t=some (.tup [.int (znZ b n d),.ref e])->a e=some (.lst f)->Cel a f (zbN b d)->zo H a->Q (.ref t) a
abbrev Rg:=AB×Int×Int
def RgR (H:Hp)(v:V)(g:Rg):Prop:=∃t l a,v=V.ref t/\H t=some (.tup [.ref l,.int g.2.1,.int g.2.2])/\H l=some (.lst a)/\Cel H a g.1
def zgp (H:Hp):AE->List Rg->Prop:=Xy (RgR H)
theorem zgp.get {H:Hp}:∀{vs:AE} {gs:List Rg} {i:Nat} {v:V},zgp H vs gs->vs[i]?=some v->∃g,gs[i]?=some g/\RgR H v g
 | _,_,_,_,.nil,e=>by simp at e
 | _,_,0,_,.cons r _,e=>by
  simp at e;subst e;exact⟨_,rfl,r⟩
 | _,_,i+1,v,.cons _ t,e=>by
  obtain⟨c,h1,h2⟩:=zgp.get (i:=i) (v:=v) t (by simpa using e);exact⟨c,by simpa using h1,h2⟩
def qd (gs:List Rg):AB:=gs.flatMap λg=>if g.2.2=0 then g.1 else []
def zQ (gs:List Rg):AB:=gs.flatMap λg=>if g.2.1=((g.1.length:Nat):Int) then g.1 else []
theorem zcZ (p:Rg->Bool):∀gs:List Rg,(gs.flatMap λg=>if p g=true then g.1 else []).Sublist (gs.flatMap λg=>g.1)
 | []=>List.Sublist.refl _
 | g::r=>by
  rw[VH,VH];refine List.Sublist.append ?_ (zcZ p r);split
  .exact List.Sublist.refl _
  .exact Rr _
def xj (gs:List Rg):(qd gs).Sublist (gs.flatMap λg=>g.1):=by
 have:=zcZ (λg=>decide (g.2.2=0)) gs;simpa[qd] using this
def xo (gs:List Rg):(zQ gs).Sublist (gs.flatMap λg=>g.1):=by
 have:=zcZ (λg=>decide (g.2.1=((g.1.length:Nat):Int))) gs;simpa[zQ] using this
def QB {α:Type}(f:Rg->List α){gs:List Rg}{i:Nat}{g:Rg}(h:gs[i]?=some g):(gs.take (i+1)).flatMap f=(gs.take i).flatMap f++f g:=by
 rw[Xb,h,V9];simp
def zki:Sp:=λj H Q _=>∃(r:Addr) (f:AE) (b:List Rg),j=[.ref r]/\H r=some (.lst f)/\zgp H f b/\(b.flatMap λg=>g.1).Nodup/\(b.flatMap λg=>g.1).length<64 /\
 ∀(t c d:Addr) (h i:AE) (c1 e:AB) (a:Hp),H t=none->H c=none->H d=none->c≠d->a t=some (.tup [.ref c,.ref d])->a c=some (.lst h)->a d=some (.lst i)->Cel a h c1->Cel a i e ->
  c1.Perm (qd b)->e.Perm (zQ b)->c1.Pairwise Cells.lex->e.Pairwise Cells.lex->zo H a->Q (.ref t) a
def zbm {cs:AB}(f:cs.Nodup)(h:(cs.map toI).Pairwise λp q=>lt2 q p=false):cs.Pairwise Cells.lex:=by
 rw[Wd]at h;refine(h.and f).imp λ{c d} ⟨a,g⟩=>?_;have b:¬ Cells.lex d c:=λz=>by
  rw[ziF.mpr z]at a;cases a
 have e:¬ (c.1=d.1/\c.2=d.2):=λz=>g (Oz z.1 z.2);unfold Cells.lex at *
 lia
def zgq:zD ["board","thing"] ["board","thing"] (zp Yi):=bh
def zgr {f1 f2 f3 f4 f5 f6:Addr}{B G I J L M:XC}(T:Txt mg)(D:zm K mg "asked_by" Yi ["board","thing"] f fd)(zY:zm K mg "around" jJ ["board","cell"] f1 B)(zu:zm K mg "sign_at" qF ["board","cell"] f2 G)(zG:zm K mg "cells_of" qE ["board"] f3 I)
  (yO:zm K mg "closed" ZG ["board"] f4 J) (qe:zm K mg "number_at" jB ["board","cell"] f5 L) (zL:zm K mg "closed_around" qR ["board","cell"] f6 M):qc P w K mg base CX0 3 f fd ["board","thing"] ziS:=by
 refine D.F.ok zgq (λvs H Q E h=>?_) (λae A Y s H vs Q E y h=>?_)
 .revert h;refine eH λp l m n=>eO λv th z0 _=>?_;subst z0;rfl
 .revert h;refine eH λp l m n=>fu λv th z0 b R x O q=>?_;subst z0;refine⟨_,(ze (qJ (jY (ju y.units) (pv 1) (Jl (v:=.str "all") (by rfl) T.zoE.choose_spec (by exact⟨_,rfl⟩)) (zT _)) (zf (zx (ql (za (zv jd (pv 0) zg (λ_ _=>rfl)) (za (pc0 (zd2 T yO zG zu) y yO (za (pv 0) zd)) zd))))) qa) (zf (zx (ql (za (pc0 (Yn T qe zu) y qe (za (pv 0) (za (pv 1) zd))) (za (pc0 (j5 T zL zY zu) y zL (za (pv 0) (za (pv 1) zd))) zd)))))),?_⟩;(try dsimp only[cxK,cxP,cxW]);cases th with
  | none =>
   have ev:v=V.str "all":=x;subst ev;refine cG rfl (cO (.str "all") (.str "all") (.str _) (.str _) ⟨by decide+kernel,by decide+kernel,by decide+kernel⟩ (cG rfl (qQ (by decide+kernel) ?_)));refine cV rfl p 1 rfl rfl (SqT.of b.tp) rfl (cG rfl (cL p l m n (cJ rfl b R (λd ws H1 N g a s1=>⟨yD,λt u=>?_⟩))));have j:=zc (o:=.tup [.int n,.ref d]) u;exact q t d ws _ (s1.free u) N zb (j _ _ g) (a.mono j) (s1.trans j)
  | some c =>
   obtain⟨z,rfl,e⟩:=x;have hc:=O c rfl;refine eK (λt0 k i hk U r ac=>?_) (R.openAt hc);obtain⟨k1,k2⟩:=Qt r U;obtain⟨aa,ab⟩:=yk R i hk;have es:Cells.sgn (codes m) c=k:=Cells.QY (qG i) hk;refine cG rfl (cO (zk c) (.str "all") (jU.rdv ⟨z,rfl,e⟩) (.str _) ⟨rfl,by decide+kernel,by show max 0 (max 0 0)+1<=64;decide⟩ (cG rfl (qu rfl ?_)));refine cS rfl rfl (dU p l z m n c.1 c.2 t0 (cM k rfl b e i (cX hk ac k1 k2 (cS rfl rfl (cL p l z m (cU n c rfl b R e (cH aa ab (λd ws H1 N g a s1=>⟨yD,λt u=>?_⟩))))))));have j:=zc (o:=.tup [.int ((k:Int)-48),.ref d]) u;refine q t d ws _ (s1.free u) N ?_ (j _ _ g) (a.mono j) (s1.trans j);rw[zb];show some (HO.tup [.int ((k:Int)-48),.ref d])=some (.tup [.int (((Cells.sgn (codes m) c:Nat):Int)-48),.ref d]);rw[es]
def xq:zD ["regions","clears","stones","cells","least","most"] ["regions"] (zp ZI):=bh
def zhJ (T:Txt mg)(D:zm K mg "settled" ZI ["regions"] f fd):qc P w K mg base CX0 1 f fd ["regions"] zki:=by
 refine D.F.ok xq (λvs H Q E h=>?_) (λa5 A aw s H vs Q E hr h=>?_)
 .revert h;refine fB λr us c z0 _=>?_;subst z0;rfl
 .revert h;refine fk λr us c z0 ak af ah y q=>?_;subst z0;have lc:∀i,(qd (c.take i)).length<64:=λi=>XE (X6 (xj (c.take i)).length_le (by
   have:c=c.take i++c.drop i:=(W5 i c).symm;conv=>rhs;rw[this,V9,X4]
   exact U2 _ _)) y
  have ls:∀i,(zQ (c.take i)).length<64:=λi=>XE (X6 (xo (c.take i)).length_le (by
   have:c=c.take i++c.drop i:=(W5 i c).symm;conv=>rhs;rw[this,V9,X4]
   exact U2 _ _)) y
  have lg:∀{g:Rg},g∈c->g.1.length<64:=λ{g} hg=>XE (by
   obtain⟨i,hi⟩:=UK hg;obtain⟨hl,e⟩:=XX.mp hi;have e1:c=c.take i++g::c.drop (i+1):=by
    rw[<- e,List.getElem_cons_drop,W5]
   rw[e1,V9,VH,X4,X4];lia) y
  refine⟨_,(@ze _ _ _ _ _ (@qh _ _ 1 _ _ _ _ xq.nd rfl (V2 rfl) (@zO _ _ _ _ zd) (by rfl) (.inr rfl)) (@ze _ _ _ _ _ (@qh _ _ 2 _ _ _ _ xq.nd rfl (V2 rfl) (@zO _ _ _ _ zd) (by rfl) (.inr rfl)) (ze (qx Xc rfl (zw (pv 0)) (jO rfl (zE (pgq 3 xq.nd) (zE (pgq 4 xq.nd) (zE (pgq 5 xq.nd) qT)))) (zbU (qJ (jY YI (pv 5) zg (zT _)) (zf (jj (yH W7 VF VE JD (pv 1) (za (pv 3) zd)))) qa) (zf (qJ (jY YI (pv 4) (pb1 qo T.qK Xj (pv 3)) (zT _)) (zf (jj (yH W7 VF VE JD (pv 2) (za (pv 3) zd)))) qa)))) (zf (zx (ql (za (pb1 GS.qY T.jT WG (pv 1)) (za (pb1 GS.qY T.jT WG (pv 2)) zd)))))))),?_⟩;(try dsimp only[cxK,cxP,cxW]);refine⟨jR,λp U=>⟨jR,λI Y=>?_⟩⟩;have z1:=zc (o:=.lst []) U;have z2:=zc (o:=.lst []) Y;have am:p≠I:=zh (show upd H p (.lst []) p=some (.lst []) from zb) Y;have f2:=z1.free Y;have s0:=z1.trans z2;refine cG rfl (cK r rfl ⟨_,SqL.of (s0 _ _ ak)⟩ ?_);refine jF (K:=K) (a:=r) (xs:=us) (λi σ m=>∃(v3 v4 v5:Option V) (N J:AE),σ=[some (.ref r),some (.ref p),some (.ref I),v3,v4,v5]/\zo H m/\m p=some (.lst N)/\m I=some (.lst J)/\Cel m N (qd (c.take i))/\Cel m J (zQ (c.take i)))
   (dh (cZ [] [] rfl s0 (z2 _ _ zb) zb (.nil) (.nil))) (λi σ m _ ⟨_,_,_,_,_,_,s',_⟩=>SqL.of (s' _ _ ak)) ?_ ?_
  .refine λi x σ H1 hx=>fJ λv3 v4 v5 N J z0 s1 h1 h2 d u=>?_;subst z0;refine fH (λg hg t l ws z0 aq aa ae=>?_) (zgp.get af hx);subst z0;have ht:=s1 _ _ aq;have hl:=s1 _ _ aa;have L:=ae.mono s1;have av:l≠p:=zh aa U;have a7:l≠I:=zh aa f2;have gm:=X8 hg;have a6:=lg gm;have e1:qd (c.take (i+1))=qd (c.take i)++(if g.2.2=0 then g.1 else []):=QB _ hg;have e2:zQ (c.take (i+1))=zQ (c.take i)++(if g.2.1=((g.1.length:Nat):Int) then g.1 else []):=QB _ hg;have a3:=lc i;have a4:=ls i;refine d7 t rfl (SqT.of ht) rfl rfl (cI ⟨rfl,(cT rfl rfl ?_)⟩);refine⟨fun ao m=>∃(G:AE),ao=[some (.ref r),some (.ref p),some (.ref I),some (.ref l),some (.int g.2.1),some (.int g.2.2)]/\zo H m/\m p=some (.lst G)/\m I=some (.lst J)/\Cel m G (qd (c.take (i+1)))/\Cel m J (zQ (c.take i))/\m l=some (.lst ws)/\Cel m ws g.1,?_,?_⟩
   .refine dS rfl rfl rfl (zg1 (λhp=>?_) (λhp=>?_))
    .have j:g.2.2=0:=V.int.inj (bg hp);rw[bw j]at e1;refine dS rfl (.inl ⟨rfl,_,SqL.of h1⟩) rfl (cL p l N ws (cQ rfl rfl h1 hl ?_ (cM (N++ws) rfl (λb o e=>?_) zb ?_ (cJ ?_ (Cel.into p _ h1 u) ?_ (Cel.into p _ h1 L)))))
     .rw[d.length,L.length];exact X6 (show _<=200 by lia) (by decide)
     .rw[zj (zh e U)];exact s1 _ _ e
     .rw[zj (Vq am)];exact h2
     .rw[e1];exact Cel.into p _ h1 (Cel.append d L)
     .rw[zj av];exact hl
    .have j:¬ g.2.2=0:=λz=>hp (br (by rw[z]));rw[bq j,Xu]at e1;exact cM N rfl s1 h1 h2 (cJ (by rw[e1];exact d) u hl L)
   .refine λao H2=>fj λG z0 s2 ab v=>eZ λM B ag n=>?_;subst z0;refine cG rfl (dF rfl l (cJ rfl (.inl (SqL.of ag)) rfl (cG rfl (zg1 (λhp=>?_) (λhp=>?_)))))
    .have j:g.2.1=((g.1.length:Nat):Int):=by
      have:=V.int.inj (bg hp);rw[n.length]at this;exact this
     rw[bw j]at e2;refine dS rfl (.inl ⟨rfl,_,SqL.of v⟩) rfl (cL I l J ws (cQ rfl rfl v ag ?_ (dh (cZ G (J++ws) rfl (λb o e=>?_) ?_ zb (Cel.into I _ v M) ?_))))
     .rw[B.length,n.length];exact X6 (show _<=200 by lia) (by decide)
     .rw[zj (zh e f2)];exact s2 _ _ e
     .rw[zj am];exact ab
     .rw[e2];exact Cel.into I _ v (Cel.append B n)
    .have j:¬ g.2.1=((g.1.length:Nat):Int):=λz=>hp (br (by rw[z,n.length]));rw[bq j,Xu]at e2;exact dh (cZ G J rfl s2 ab v M (by rw[e2];exact B))
  .refine λσ H1=>fJ λv3 v4 v5 N J z0 s1 h1 h2 d u=>?_;subst z0;have gl:us.length=c.length:=Paired.length af;rw[gl,XF]at d u;have n1:(qd c).Nodup:=ah.sublist (xj c);have n2:(zQ c).Nodup:=ah.sublist (xo c);have m1:(qd c).length<64:=XE (xj c).length_le y;have m2:(zQ c).length<64:=XE (xo c).length_le y;refine cG rfl (dw p N (cX rfl (SqL.of h1) (Cel.tup2 d) (by rw[d.length];lia) (λa1 u1 p1 ac ar ay az=>?_)));obtain⟨q1,rfl,ai⟩:=Jx ay;have z3:=zc (o:=.lst u1) ac;refine cG rfl (dw I J (cX rfl (SqL.of (z3 _ _ h2)) (Cel.tup2 (u.mono z3)) (by rw[u.length];lia) (λa2 u2 p2 O au ax al=>?_)));obtain⟨q2,rfl,aj⟩:=Jx ax;have z4:=zc (o:=.lst u2) O;have na:a1≠a2:=zh (show upd H1 a1 (.lst u1) a1=some (.lst u1) from zb) O;refine⟨yD,λt ht=>?_⟩;have z5:=zc (o:=.tup [.ref a1,.ref a2]) ht;have an:=(s1.trans z3).trans z4;exact q t a1 a2 u1 u2 q1 q2 _ (an.free ht) (s1.free ac) ((s1.trans z3).free O) na zb (z5 _ _ (z4 _ _ zb)) (z5 _ _ zb) (Cel.mono ((z3.trans z4).trans z5) (qA ar)) (Cel.mono (z4.trans z5) (qA au)) ai aj (zbm (ai.nodup_iff.mpr n1) az) (zbm (aj.nodup_iff.mpr n2) al) (an.trans z5)
def Two.both (A B:AB):AB:=A.filter λc=>decide (c∈B)
def Two.alone (A B:AB):AB:=A.filter λc=>!decide (c∈B)
def j8 (A B:AB)(a b:Int):Int:=mx3 0 (a-((Two.alone A B).length:Nat)) (b-((Two.alone B A).length:Nat))
def jx (A B:AB)(a b:Int):Int:=mn3 ((Two.both A B).length:Nat) a b
def xr (A B:AB)(a b:Int):List Rg:=[(Two.both A B,j8 A B a b,jx A B a b),(Two.alone A B,a-jx A B a b,a-j8 A B a b),(Two.alone B A,b-jx A B a b,b-j8 A B a b)]
abbrev Ak:=Int×AB
def AkV (H:Hp)(v:V)(k:Ak):Prop:=∃(t l:Addr) (a:AE),v=V.ref t/\H t=some (.tup [.int k.1,.ref l])/\H l=some (.lst a)/\Cel H a k.2
def ak1 (ks:List Ak):Ak:=ks.getD 0 (0,[])
def ak2 (ks:List Ak):Ak:=ks.getD 1 (0,[])
def gsU (ks:List Ak):List Rg:=xr (ak1 ks).2 (ak2 ks).2 (ak1 ks).1 (ak2 ks).1
def zrl (ks:List Ak):Prop:=j8 (ak1 ks).2 (ak2 ks).2 (ak1 ks).1 (ak2 ks).1<=jx (ak1 ks).2 (ak2 ks).2 (ak1 ks).1 (ak2 ks).1
def zef:Sp:=λj H Q _=>∃(f:Addr) (g:AE) (b:List Ak),j=[.ref f]/\H f=some (.lst g)/\Xy (AkV H) g b/\(b.length=1\/b.length=2)/\(∀k∈b,k.2.Nodup/\k.2.length<=20) /\
 zrl b/\∀(t c d:Addr) (h i:AE) (c1 e:AB) (a:Hp),H c=none->H d=none->c≠d->a t=some (.tup [.ref c,.ref d])->a c=some (.lst h)->a d=some (.lst i)->Cel a h c1->Cel a i e->c1.Perm (qd (gsU b))->e.Perm (zQ (gsU b))->c1.Pairwise Cells.lex->e.Pairwise Cells.lex->zo H a->Q (.ref t) a
def ziT (A B:AB):(A.filter λc=>!decide (c∈Two.both A B))=Two.alone A B:=by
 unfold Two.alone Two.both;refine Vt λx a=>?_;congr 1;rw[decide_eq_decide,X5,bu];exact⟨λh=>h.2,λh=>⟨a,h⟩⟩
def zgs (A B:AB):(B.filter λc=>!decide (c∈Two.both A B))=Two.alone B A:=by
 unfold Two.alone Two.both;refine Vt λx a=>?_;congr 1;rw[decide_eq_decide,X5,bu];exact⟨λh=>h.1,λh=>⟨h,a⟩⟩
def ziU (cs:AB)(c:AA):(cs.any λz=>decide (z=c))=decide (c∈cs):=by
 rw[WQ,WT,bu];constructor
 .rintro⟨x,h1,h2⟩;have e:x=c:=bg h2;rw[<- e];exact h1
 .intro h;exact⟨c,h,br rfl⟩
def YF {K:XS}{H:Hp}{vs:AE}{cs:AB}(a:Cel H vs cs):JM K H vs (cs.map zk):=by
 induction a with
 | nil=>exact .nil
 | cons h _ b=>exact .cons (jU.rdv h) b
def ziV (g:AB)(c:AA):(if false=true then !(g.map zk).any (λz=>WW z (zk c)) else (g.map zk).any λz=>WW z (zk c))=decide (c∈g):=(xR _ _).trans (ziU _ _)
def J1 (g:AB)(c:AA):(if true=true then !(g.map zk).any (λz=>WW z (zk c)) else (g.map zk).any λz=>WW z (zk c))=!decide (c∈g):=congrArg (λb=>!b) ((xR _ _).trans (ziU _ _))
def zr1 {A:Hp->Addr->Prop}{G:Hp->Addr->Prop}{R:Prop}(k:∀H t,A H t->G H t)(h:(∀H t,A H t->G H t)->R):R:=h k
def yy:zD ["asked","one","other","both","one_alone","other_alone","least","most"] ["asked"] (zp zaI):=bh
def zkj {f1:Addr}{a9:XC}(T:Txt mg)(D:zm K mg "gained" zaI ["asked"] f fd)(QC:zm K mg "settled" ZI ["regions"] f1 a9):qc P w K mg base CX0 2 f fd ["asked"] zef:=by
 refine D.F.ok yy (λvs H Q E h=>?_) (λaO A aK s H vs Q E hr h=>?_)
 .revert h;refine fB λla ls ks z0 _=>?_;subst z0;rfl
 .revert h;refine e7 λla ls ks z0 J hP az=>eN λa1 ae q0=>?_;subst z0;refine⟨_,(ze (jf 1 yy.nd (zv xG (pv 0) zg (λ_ _=>rfl))) (ze (jf 2 yy.nd (zkx (jY YI (pb1 qo T.qK Xj (pv 0)) zg (zT _)) (zv xG (pv 0) zg (λ_ _=>rfl)) (@ql _ _ _ _ _ (@za _ _ _ _ _ zg (@za _ _ _ _ _ (@zO _ _ _ _ zd) zd rfl) rfl)))) (ze (jf 3 yy.nd (pcm ["cell","other"] [none,some 2] cR (zw (zv jd (pv 1) zg (λ_ _=>rfl))) (pgN 0) (zU (jY (jq (K:=K) (by rfl) hr.units) (pv 0) (zv (zm3 (K:=K) (by rfl)) (pv 1) zg (λ_ _=>rfl)) (by rfl))) (pv 0))) (ze (psC 4 yy.nd ["cell","both"] [none,some 3] cR (zw (zv jd (pv 1) zg (λ_ _=>rfl))) (pgN 0) (zU (jY (qM (K:=K) (by rfl) hr.units) (pv 0) (pv 1) (by rfl))) (pv 0)) (ze (psC 5 yy.nd ["cell","both"] [none,some 3] cR (zw (zv jd (pv 2) zg (λ_ _=>rfl))) (pgN 0) (zU (jY (qM (K:=K) (by rfl) hr.units) (pv 0) (pv 1) (by rfl))) (pv 0)) (ze (jf 6 yy.nd (Zv (zjB rfl) (by rfl) T.zlF SL (@za _ _ _ _ _ zg (za (zK Zq (zv jd (pv 1) zg (λ_ _=>rfl)) (pb1 qo T.qK Xj (pv 4))) (za (zK Zq (zv jd (pv 2) zg (λ_ _=>rfl)) (pb1 qo T.qK Xj (pv 5))) zd)) rfl))) (ze (jf 7 yy.nd (Zv (zjC rfl) (by rfl) T.zf4 UU (za (pb1 qo T.qK Xj (pv 3)) (za (zv jd (pv 1) zg (λ_ _=>rfl)) (za (zv jd (pv 2) zg (λ_ _=>rfl)) zd))))) (ze (qJ (jY zom (pv 6) (pv 7) (zT _)) (zf zfh) qa) (zf (zx (pc0 (zhJ T QC) hr QC (za (zO (za (ql (za (pv 3) (za (pv 6) (za (pv 7) zd)))) (za (ql (za (pv 4) (za (zK Zq (zv jd (pv 1) zg (λ_ _=>rfl)) (pv 7)) (za (zK Zq (zv jd (pv 1) zg (λ_ _=>rfl)) (pv 6)) zd)))) (za (ql (za (pv 5) (za (zK Zq (zv jd (pv 2) zg (λ_ _=>rfl)) (pv 7)) (za (zK Zq (zv jd (pv 2) zg (λ_ _=>rfl)) (pv 6)) zd)))) zd)))) zd)))))))))))),?_⟩;(try dsimp only[cxK,cxP,cxW]);refine GS.via λGG G=>?_;obtain⟨g,N,us,a,A,aj,ah,ax,nA,lA,L⟩:∃(g N:Addr) (us:AE) (a:Int) (A:AB),H g=some (.tup [.int a,.ref N])/\H N=some (.lst us)/\Cel H us A/\A.Nodup/\A.length<=20/\((ls=[.ref g]/\ks=[(a,A)])\/∃(d v:Addr) (U:AE) (b:Int) (B:AB),ls=[.ref g,.ref d]/\ks=[(a,A),(b,B)]/\H d=some (.tup [.int b,.ref v])/\H v=some (.lst U)/\Cel H U B/\B.Nodup/\B.length<=20):=by
   cases hP with
   | nil=>rcases az with h | h<;>cases h
   | cons x xs =>
    revert x;refine eU λg N us z0 h1 h2 h3=>?_;subst z0;have n1:=a1 _ XR;refine cN g N ⟨us,(cI (cQ h1 h2 h3 n1.1 n1.2 ?_))⟩;cases xs with
    | nil=>exact .inl ⟨rfl,rfl⟩
    | cons y ys =>
     revert y;refine eU λd v U z0 g1 g2 g3=>?_;subst z0;cases ys with
     | nil =>
      have n2:=a1 _ (XV _ XR);exact .inr (cN d v (dM U rfl rfl g1 g2 (cH g3 n2.1 n2.2)))
     | cons z zs =>
      rcases az with h | h<;>simp at h
  refine G ?_;clear G GG;have a3:atI ls 0=some (.ref g):=by
   rcases L with ⟨rfl,_⟩ | ⟨_,_,_,_,_,rfl,_⟩<;>rfl
  refine cG rfl ⟨la,(cI (cM (.ref g) rfl rfl (SqL.of J) a3 ?_))⟩;refine' zr1 (A:=λ(H:Hp) (d:Addr)=>∃(v:Addr) (b:Int) (U:AE) (B:AB),H g=some (.tup [.int a,.ref N])/\H N=some (.lst us)/\Cel H us A/\H d=some (.tup [.int b,.ref v])/\H v=some (.lst U)/\Cel H U B/\B.Nodup/\B.length<=20/\j8 A B a b<=jx A B a b/\∀(t d1 d2:Addr) (w1 w2:AE) (c1 c2:AB) (H':Hp),H d1=none->H d2=none->d1≠d2->H' t=some (.tup [.ref d1,.ref d2])->H' d1=some (.lst w1)->H' d2=some (.lst w2)->Cel H' w1 c1->Cel H' w2 c2->c1.Perm (qd (xr A B a b))->c2.Perm (zQ (xr A B a b))->c1.Pairwise Cells.lex->c2.Pairwise Cells.lex->zo H H'->Q (.ref t) H') ?rest (λa7=>?tail)
  case tail =>
   have ao:=L
   rcases ao with ⟨al,ak⟩ | ⟨d,v,U,b,B,al,ak,i,I,hB,nB,lB⟩
   .have m:H la=some (.lst [.ref g]):=by rw[<- al];exact J
    have q1:=q0;have x1:=ae;rw[ak]at q1 x1;refine dF rfl la (cJ rfl (.inl (SqL.of m)) rfl (cG rfl (qu (by show decide (V.int ((1:Nat):Int)=V.int 2)=false;decide) ⟨jR,λe1 aD=>⟨yD,λd i=>?_⟩⟩)));have z1:=zc (o:=.lst []) aD;have z2:=zc (o:=.tup [.int 0,.ref e1]) i;have s2:=z1.trans z2;have an:upd (upd H e1 (.lst [])) d (.tup [.int 0,.ref e1]) e1=some (.lst []):=z2 _ _ zb;have M:upd (upd H e1 (.lst [])) d (.tup [.int 0,.ref e1]) d=some (.tup [.int 0,.ref e1]):=zb;clear z1 z2;revert s2 an M;generalize upd (upd H e1 (.lst [])) d (.tup [.int 0,.ref e1])=H2;intro s2 an M;exact a7 H2 d (cL e1 0 [] [] (cX (s2 _ _ aj) (s2 _ _ ah) (ax.mono s2) M (cQ an (.nil) VX (by decide) x1 (λt d1 d2 w1 w2 c1 c2 H' f1 f2 f3 g1 g2 g3 g4 g5 g6 g7 g8 g9 s'=>q1 t d1 d2 w1 w2 c1 c2 H' (s2.free f1) (s2.free f2) f3 g1 g2 g3 g4 g5 g6 g7 g8 g9 (s2.trans s')))))
   .have m:H la=some (.lst [.ref g,.ref d]):=by rw[<- al];exact J
    have q1:=q0;have x1:=ae;rw[ak]at q1 x1;refine dF rfl la (cJ rfl (.inl (SqL.of m)) rfl (cG rfl (qQ (by show decide (V.int ((2:Nat):Int)=V.int 2)=true;decide) (cG rfl ⟨la,(cI (cM (.ref d) rfl rfl (SqL.of m) rfl ?_))⟩))));exact a7 H d (cL v b U B (cX aj ah ax i (cQ I hB nB lB x1 q1)))
  intro H d hh;refine GS.via λGG G=>?_;revert hh;refine fq λv b U B aq ab hA i=>fm λI hB nB lB hg q=>?_;refine G ?_;clear G GG;refine cV rfl g 1 rfl rfl (SqT.of aq) rfl (cK N rfl ⟨_,SqL.of ab⟩ (λz hz=>?_));refine zM (K:=K) (a:=N) (xs:=us) (λa=>a≠z) (A.map λc=>if decide (c∈B)=true then some (zk c) else none) (fun σ=>∃u0,σ=[u0,some (.ref d)]) hz (λ_ h=>h) ⟨_,rfl⟩ (by rw[ZB];exact hA.length.symm) (by rw[hA.length];exact X6 lA (by decide)) (SqL.of ab) ?_ ?_
  .rintro k x o σ H4 hx ho u _ ⟨u0,rfl⟩ Y Z aa no;obtain⟨c,hc,rc⟩:=Cel.get (Cel.mono u hA) hx;have l:=qt hc ho;refine cG rfl (cV rfl d 1 rfl rfl (SqT.of (u _ _ i)) rfl (cZ (zk c) (B.map zk) rc.rdv (.lst (SqL.of (u _ _ I)) (YF (hB.mono u))) rfl (JY _) (by show 1<=60;decide) (cG rfl ?_)));rw[ziV];by_cases n:decide (c∈B)=true
   .rw[bw n]at l;exact qQ n ⟨_,rfl,aa _ _ _ _ l ⟨_,rfl⟩ (zo.refl _) rc.rdn⟩
   .rw[bq n]at l;exact qu (XO.mpr n) (no _ _ l ⟨_,rfl⟩ (zo.refl _))
  rintro yb H3 s3 ar ac;rw[zJ]at ac;have am:Cel H3 yb (Two.both A B):=zq.cel ac;refine cV rfl g 1 rfl rfl (SqT.of (s3 _ _ aq)) rfl (cK N rfl ⟨_,SqL.of (s3 _ _ ab)⟩ (λo1 aF=>?_));refine zM (K:=K) (a:=N) (xs:=us) (λa=>a≠o1) (A.map λc=>if (!decide (c∈Two.both A B))=true then some (zk c) else none) (fun σ=>∃u0,σ=[u0,some (.ref z)]) aF (λ_ h=>h) ⟨_,rfl⟩ (by rw[ZB];exact hA.length.symm) (by rw[hA.length];exact X6 lA (by decide)) (SqL.of (s3 _ _ ab)) ?_ ?_
  .rintro k x o σ H4 hx ho u _ ⟨u0,rfl⟩ Y Z aa no;obtain⟨c,hc,rc⟩:=Cel.get (Cel.mono (s3.trans u) hA) hx;have l:=qt hc ho;refine cS rfl rfl (cZ (zk c) ((Two.both A B).map zk) rc.rdv (.lst (SqL.of (u _ _ ar)) (YF (am.mono u))) rfl (JY _) (by show 1<=60;decide) (cG rfl ?_));rw[J1];by_cases n:(!decide (c∈Two.both A B))=true
   .rw[bw n]at l;exact qQ n ⟨_,rfl,aa _ _ _ _ l ⟨_,rfl⟩ (zo.refl _) rc.rdn⟩
   .rw[bq n]at l;exact qu (XO.mpr n) (no _ _ l ⟨_,rfl⟩ (zo.refl _))
  rintro yo H4 u aH a4;rw[zJ,ziT]at a4;have aA:Cel H4 yo (Two.alone A B):=zq.cel a4;have O:=s3.trans u;refine cV rfl d 1 rfl rfl (SqT.of (O _ _ i)) rfl (cK v rfl ⟨_,SqL.of (O _ _ I)⟩ (λo2 aG=>?_));refine zM (K:=K) (a:=v) (xs:=U) (λa=>a≠o2) (B.map λc=>if (!decide (c∈Two.both A B))=true then some (zk c) else none) (fun σ=>∃u0,σ=[u0,some (.ref z)]) aG (λ_ h=>h) ⟨_,rfl⟩ (by rw[ZB];exact hB.length.symm) (by rw[hB.length];exact X6 lB (by decide)) (SqL.of (O _ _ I)) ?_ ?_
  .rintro k x o σ H5 hx ho s5 _ ⟨u0,rfl⟩ Y Z aa no;obtain⟨c,hc,rc⟩:=Cel.get (Cel.mono (O.trans s5) hB) hx;have l:=qt hc ho;refine cS rfl rfl (cZ (zk c) ((Two.both A B).map zk) rc.rdv (.lst (SqL.of (s5 _ _ (u _ _ ar))) (YF (am.mono (u.trans s5)))) rfl (JY _) (by show 1<=60;decide) (cG rfl ?_));rw[J1];by_cases n:(!decide (c∈Two.both A B))=true
   .rw[bw n]at l;exact qQ n ⟨_,rfl,aa _ _ _ _ l ⟨_,rfl⟩ (zo.refl _) rc.rdn⟩
   .rw[bq n]at l;exact qu (XO.mpr n) (no _ _ l ⟨_,rfl⟩ (zo.refl _))
  rintro y2 H5 s5 a2 a5;rw[zJ,zgs]at a5;have ay:Cel H5 y2 (Two.alone B A):=zq.cel a5;have au:=O.trans s5;have ai:=s5 _ _ aH;have a6:=s5 _ _ (u _ _ ar);have af:=am.mono (u.trans s5);have r:=au _ _ i;have p:=au _ _ aq;have ag:=aA.mono s5;refine cV rfl g 0 rfl rfl (SqT.of p) rfl (dF rfl o1 (cH rfl (.inl (SqL.of ai)) (cT rfl rfl (cV rfl d 0 rfl rfl (SqT.of r) rfl (dF rfl o2 (cH rfl (.inl (SqL.of a2)) (cT rfl rfl (cI (cG rfl ?_)))))))));refine dF rfl z (cH rfl (.inl (SqL.of a6)) (cV rfl g 0 rfl rfl (SqT.of p) rfl (cV rfl d 0 rfl rfl (SqT.of r) rfl (cI (cG rfl ?_)))));refine cS rfl rfl (cT rfl rfl (cG rfl ?_));have eL:mx3 0 (a-((yo.length:Nat):Int)) (b-((y2.length:Nat):Int))=j8 A B a b:=by
   unfold j8;rw[ag.length,ay.length]
  have eM:mn3 ((yb.length:Nat):Int) a b=jx A B a b:=by
   unfold jx;rw[af.length]
  rw[eL,eM];refine qu (bf (by lia)) ?_;have q':=q;unfold xr at q';generalize j8 A B a b=lo at *
  generalize jx A B a b=hi at *
  refine cS rfl rfl (dj rfl zfX (λr1 aI=>?_));have y1:=zc (o:=.tup [.ref z,.int lo,.int hi]) aI;have x1:upd H5 r1 (.tup [.ref z,.int lo,.int hi]) r1=some (.tup [.ref z,.int lo,.int hi]):=zb;refine cG rfl (cV rfl g 0 rfl rfl (SqT.of (y1 _ _ p)) rfl (dR rfl rfl rfl (cV rfl g 0 rfl rfl (SqT.of (y1 _ _ p)) rfl (cG rfl (dB rfl rfl zfX (λr2 ao=>?_))))));have a8:=zc (o:=.tup [.ref o1,.int (a-hi),.int (a-lo)]) ao;have av:=y1.trans a8;refine cG rfl (cV rfl d 0 rfl rfl (SqT.of (av _ _ r)) rfl (dR rfl rfl rfl (cV rfl d 0 rfl rfl (SqT.of (av _ _ r)) rfl (cG rfl (dB rfl rfl zfX (λr3 ac=>⟨zfX,λrl aJ=>?_⟩))))));have y3:=zc (o:=.tup [.ref o2,.int (b-hi),.int (b-lo)]) ac;have y4:=zc (o:=.lst [.ref r1,.ref r2,.ref r3]) aJ;have aw:=y3.trans y4;have j:=av.trans aw;have mB:∀{x:AA},x∈Two.both A B->x∈A/\x∈B:=λh=>⟨(X5.mp h).1,bg (X5.mp h).2⟩;have mA:∀{x:AA} {A B:AB},x∈Two.alone A B->x∈A/\x ∉ B:=λ{x A B} h=>⟨(X5.mp h).1,by
   have:=(X5.mp h).2;simpa using this⟩
  have aP:(Two.both A B).length<=20:=X6 (Xw _ _) lA;have aQ:(Two.alone A B).length<=20:=X6 (Xw _ _) lA;have aR:(Two.alone B A).length<=20:=X6 (Xw _ _) lB;refine dZ rl (dg [(Two.both A B,lo,hi),(Two.alone A B,a-hi,a-lo),(Two.alone B A,b-hi,b-lo)] rfl zb (.cons (dD r1 z yb rfl (aw _ _ (a8 _ _ x1)) (j _ _ a6) (af.mono j)) (.cons (dD r2 o1 yo rfl (aw _ _ zb) (j _ _ ai) (ag.mono j)) (.cons (dD r3 o2 y2 rfl (y4 _ _ zb) (j _ _ a2) (ay.mono j)) .nil))) ?_ ?_ (λt d1 d2 w1 w2 c1 c2 H6 ht aB aC aE h1 h2 h3 k1 k2 p1 p2 aM aN s6=>?_))
  .show (Two.both A B++(Two.alone A B++(Two.alone B A++[]))).Nodup;rw[Xu,WY,WY];refine⟨nA.sublist Xr,⟨nA.sublist Xr,nB.sublist Xr,λx hx y hy e=>?_⟩,λx hx y hy e=>?_⟩
   .subst e;exact(mA hx).2 (mA hy).1
   .subst e;rcases XM.mp hy with hy | hy
    .exact(mA hy).2 (mB hx).2
    .exact(mA hy).2 (mB hx).1
  .show (Two.both A B++(Two.alone A B++(Two.alone B A++[]))).length<64;rw[Xu,X4,X4];lia
  .have sA:=au.trans j;exact q' t d1 d2 w1 w2 c1 c2 H6 (sA.free aB) (sA.free aC) aE h1 h2 h3 k1 k2 p1 p2 aM aN (sA.trans s6)
def qq (a st:AB)(k:Ak):Ak:=(k.1-(Q5 st k.2).sum,jo a st k.2)
theorem zeg {a st:AB}{p:AA->Bool}(b:∀c∈a,p c=false)(d:∀c∈st,p c=true):∀cs:AB,((cs.countP p:Nat):Int)=(Q5 st cs).sum+(((jo a st cs).countP p:Nat):Int)
 | []=>rfl
 | c::r=>by
  have g:=zeg b d r;have f:(Q5 st (c::r)).sum=(if c∈st then 1 else 0)+(Q5 st r).sum:=by
   show (((c::r).map _).sum:Int)=_;rw[XD,Sw];rfl
  have e:jo a st (c::r)=if (!(decide (c∈st) || decide (c∈a)))=true then c::jo a st r else jo a st r:=by
   unfold jo;rw[WJ]
  rw[Wo,f,e];by_cases h1:c∈st
  .rw[d c h1,bw h1,br h1];show ((r.countP p+1:Nat):Int)=1+(Q5 st r).sum+(((jo a st r).countP p:Nat):Int);lia
  .rw[bq h1,bf h1];by_cases h2:c∈a
   .rw[b c h2,br h2];show ((r.countP p+0:Nat):Int)=0+(Q5 st r).sum+(((jo a st r).countP p:Nat):Int);lia
   .rw[bf h2];show ((r.countP p+(if p c=true then 1 else 0):Nat):Int)=0+(Q5 st r).sum+(((c::jo a st r).countP p:Nat):Int);rw[Wo];lia
def jW {a st cs:AB}{c:AA}:c∈jo a st cs↔c∈cs/\c ∉ st/\c ∉ a:=by
 unfold jo;rw[X5];simp
def zhL (p:AA->Bool)(gs:List Rg):Prop:=∀g∈gs,g.2.1<=((g.1.countP p:Nat):Int)/\((g.1.countP p:Nat):Int)<=g.2.2
def zhL.clear {p:AA->Bool}{gs:List Rg}(h:zhL p gs){c:AA}(b:c∈qd gs):p c=false:=by
 obtain⟨g,d,a⟩:=V7.mp b;split at a
 .rename_i e;have:=(h g d).2;exact XO.mpr (Vr.mp (by lia) c a)
 .cases a
def zhL.stone {p:AA->Bool}{gs:List Rg}(h:zhL p gs){c:AA}(b:c∈zQ gs):p c=true:=by
 obtain⟨g,d,a⟩:=V7.mp b;split at a
 .rename_i e;have:=(h g d).1;have:=Ws (p:=p) (l:=g.1);exact SK.mp (by lia) c a
 .cases a
def zme {A B:AB}{a b:Int}{p:AA->Bool}(e:A.Nodup)(f:B.Nodup)(m:((A.countP p:Nat):Int)=a)(n:((B.countP p:Nat):Int)=b):zhL p (xr A B a b)/\j8 A B a b<=jx A B a b:=by
 have h:A.countP p=(Two.both A B).countP p+(Two.alone A B).countP p:=Wu A p _;have i:B.countP p=(Two.both B A).countP p+(Two.alone B A).countP p:=Wu B p _;have j:(Two.both B A).countP p=(Two.both A B).countP p:=List.Perm.countP_eq _ ((WD (f.sublist Xr) (e.sublist Xr)).mpr λc=>by
  rw[X5,X5,bu,bu];exact And.comm)
 have o:=Ws (p:=p) (l:=Two.both A B);have q:=Ws (p:=p) (l:=Two.alone A B);have r:=Ws (p:=p) (l:=Two.alone B A);have lo:j8 A B a b<=(((Two.both A B).countP p:Nat):Int):=by
  unfold j8 mx3;repeat' split
  all_goals lia
 have d:(((Two.both A B).countP p:Nat):Int)<=jx A B a b:=by
  unfold jx mn3;repeat' split
  all_goals lia
 refine⟨λg hg=>?_,VD lo d⟩;rcases XI.mp hg with rfl | hg
 .exact⟨lo,d⟩
 .rcases XI.mp hg with rfl | hg
  .show a-jx A B a b<=(((Two.alone A B).countP p:Nat):Int)/\(((Two.alone A B).countP p:Nat):Int)<=a-j8 A B a b;lia
  .rw[Wl.mp hg];show b-jx A B a b<=(((Two.alone B A).countP p:Nat):Int)/\(((Two.alone B A).countP p:Nat):Int)<=b-j8 A B a b;lia
structure Ja (As:List Ak)(L:AA->Bool)(cl st:AB):Prop where
 no:∀c∈cl,L c=false
 ye:∀c∈st,L c=true
 ct:∀k∈As,((k.2.countP L:Nat):Int)=k.1
def Ja.ap {b:List Ak}{L:AA->Bool}{a st:AB}(h:Ja b L a st):∀c∈a,c ∉ st:=λc d e=>by
 have:=h.ye c e;rw[h.no c d]at this;cases this
def zc0 (rs:AD)(c:AA):clA rs c=(zH rs).filter λx=>Cells.near x c:=by
 unfold clA zP zH;have e:(Cells.zC qp 0 (codes rs)).filter (λx=>decide (Cells.sgn (codes rs) x=63))=Cells.zC x9 0 (codes rs):=by
  rw[Cells.all_filter (p:=qp) (q:=λk=>decide (k=63)) (codes rs)];refine Cells.Zg (λk=>?_) 0 _;unfold x9 qp;by_cases h:k=63
  .subst h;rfl
  .rw[bf h,Pz]
 rw[<- e,UX,UX];exact Vt λx _=>OZ _ _
def QD {rs:AD}{a:Option AA}:(zbN rs a).Sublist (zH rs):=by
 cases a with
 | none=>exact List.Sublist.refl _
 | some c =>
  show (clA rs c).Sublist (zH rs);rw[zc0];exact Xr
abbrev Tg:=Option AA
def akT (rs:AD)(n:Int)(a:Tg):Ak:=(znZ rs n a,zbN rs a)
def qf (rs:AD)(n:Int)(a:List Tg):List Ak:=a.map (akT rs n)
abbrev zbz (rs:AD)(n:Int)(cl st:AB)(ths:List Tg):List Ak:=ths.map λtg=>qq cl st (akT rs n tg)
abbrev gsT (rs:AD)(n:Int)(cl st:AB)(ths:List Tg):List Rg:=gsU (zbz rs n cl st ths)
def zeU (c d:List Tg):Prop:=(∃a∈c,d=[a])\/∃a b,a∈c/\b∈c/\a≠b/\d=[a,b]
def xu (rs:AD)(n:Int)(a st:AB)(b:Tg):(qq a st (akT rs n b)).2.Nodup:=((xg rs).sublist QD).sublist Xr
def zb5 {rs:AD}(n:Int)(a st:AB)(b:Tg)(h:(zH rs).length<=20):(qq a st (akT rs n b)).2.length<=20:=X6 (Xw _ _) (X6 QD.length_le h)
def Ja.left {rs:AD}{n:Int}{b:List Tg}{L:AA->Bool}{c st:AB}(h:Ja (qf rs n b) L c st){a:Tg}(d:a∈b):(((qq c st (akT rs n a)).2.countP L:Nat):Int)=(qq c st (akT rs n a)).1:=by
 have:=zeg h.no h.ye (akT rs n a).2;have:=h.ct _ (XN.mpr ⟨a,d,rfl⟩);show _=(akT rs n a).1-(Q5 st (akT rs n a).2).sum;show (((jo c st (akT rs n a).2).countP L:Nat):Int)=_;lia
def Ja.ok {rs:AD}{n:Int}{e c:List Tg}{L:AA->Bool}{d st:AB}(h:Ja (qf rs n e) L d st)(o:zeU e c):zhL L (gsT rs n d st c)/\zrl (zbz rs n d st c):=by
 rcases o with ⟨a,f,rfl⟩ | ⟨a,b,f,g,_,rfl⟩
 .exact zme (xu rs n d st a) (VX (α:=AA)) (h.left f) rfl
 .exact zme (xu rs n d st a) (xu rs n d st b) (h.left f) (h.left g)
def ziW {rs:AD}{n:Int}{i e:List Tg}{f st:AB}{c:AA}(o:zeU i e)(h:c∈(gsT rs n f st e).flatMap λg=>g.1):c∈zH rs/\c ∉ st/\c ∉ f:=by
 have one:∀a,c∈(qq f st (akT rs n a)).2->c∈zH rs/\c ∉ st/\c ∉ f:=λa h=>let z:=jW.mp h;⟨QD.subset z.1,z.2⟩
 have d:∀{A B:AB} {a b:Int},c∈(xr A B a b).flatMap (λg=>g.1)->c∈A\/c∈B:=λ{A B a b} h=>by
  have j:c∈Two.both A B++(Two.alone A B++(Two.alone B A++[])):=h;rw[Xu,XM,XM]at j;rcases j with h | h | h
  .exact .inl (X5.mp h).1
  .exact .inl (X5.mp h).1
  .exact .inr (X5.mp h).1
 rcases o with ⟨a,l,rfl⟩ | ⟨a,b,l,m,_,rfl⟩
 .rcases d h with z | z
  .exact one a z
  .cases z
 .exact(d h).elim (one a) (one b)
abbrev nlI (t:List Nat):List Int:=t.map λx=>((x:Nat):Int)
def PlR (N:Addr->Prop)(H:Hp)(v:V)(t:List Nat):Prop:=∃a,v=V.ref a/\N a/\H a=some (.lst (iL (nlI t)))
abbrev NT:Addr->Prop:=λ_=>True
section
variable {N:Addr->Prop}{H H':Hp}{us:AE}{ts:List (List Nat)}{z:Addr}{ys ys':AE}
def xV (s:zo H H')(h:Xy (PlR N H) us ts):Xy (PlR N H') us ts:=Paired.imp' (λ_ _ ⟨a,e,n,h⟩=>⟨a,e,n,s _ _ h⟩) h
def ziX (h:Xy (PlR N H) us ts):Xy (PlR NT H) us ts:=Paired.imp' (λ_ _ ⟨a,e,_,h⟩=>⟨a,e,trivial,h⟩) h
def zgt (h:Xy (PlR (· ≠ z) H) us ts):Xy (PlR (· ≠ z) (upd H z (.lst ys'))) us ts:=Paired.imp' (λ_ _ ⟨a,e,n,h⟩=>⟨a,e,n,by rw[zj n];exact h⟩) h
def zc1 {ks:List Ak}(s:zo H H')(h:Xy (AkV H) us ks):Xy (AkV H') us ks:=Paired.imp' (λ_ _ ⟨t,l,b,e,h1,h2,a⟩=>⟨t,l,b,e,s _ _ h1,s _ _ h2,a.mono s⟩) h
def zmf {ks:List Ak}(h:Xy (AkV H) us ks){i:Nat}{k:Ak}(e:ks[i]?=some k):∃v,us[i]?=some v/\AkV H v k:=by
 have l:=Paired.length h;have b:=(XX.mp e).1;obtain⟨v,a⟩:∃v,us[i]?=some v:=⟨_,XY (by lia)⟩;obtain⟨c,hk,r⟩:=x8 h a;rw[e]at hk;cases hk;exact⟨v,a,r⟩
end
def Y6 (ks:List Ak)(i j:Nat):Bool:=((ks.getD i (0,[])).2).any λc=>decide (c∈(ks.getD j (0,[])).2)
def zgu (ks:List Ak)(i m:Nat):List (List Nat):=((WC m).filter λj=>Y6 ks i (i+1+j)).map λj=>[i,i+1+j]
def JA (ks:List Ak)(i:Nat):List (List Nat):=(WC i).flatMap λi=>zgu ks i (ks.length-(i+1))
def zbn (ks:List Ak):List (List Nat):=(WC ks.length).map (λi=>[i])++JA ks ks.length
def zmg (ks:List Ak)(i m:Nat):(zgu ks i m).length<=m:=by
 unfold zgu;rw[ZB];have:=Xw (λj=>Y6 ks i (i+1+j)) (WC m);rwa [WL]at this
theorem pairs_len (ks:List Ak):∀i,(JA ks i).length<=i*ks.length
 | 0=>W1 _
 | i+1=>by
  unfold JA;rw[UQ,V9,X4];have a:=pairs_len ks i;unfold JA at a;have b:=zmg ks i (ks.length-(i+1));rw[VH,TK,Xu,Nat.succ_mul];lia
def zp9 (ks:List Ak)(h:ks.length<=32):(zbn ks).length<=1056:=by
 unfold zbn;rw[X4,ZB,WL];have a:=pairs_len ks ks.length;have b:ks.length*ks.length<=32*32:=Nat.mul_le_mul h h;lia
def ziY:Sp:=λg H Q _=>∃(c:Addr) (e:AE) (b:List Ak),g=[.ref c]/\H c=some (.lst e)/\Xy (AkV H) e b/\b.length<=32/\(∀k∈b,k.2.length<=64) /\
 ∀(d:Addr) (f:AE) (a:Hp),a d=some (.lst f)->Xy (PlR NT a) f (zbn b)->zo H a->Q (.ref d) a
def jA:zD ["asked","singles","pairs","place","one","other"] ["asked"] (zp xN):=bh
def zc2 (T:Txt mg){f:Addr}{fd:XC}(D:zm K mg "place_lists" xN ["asked"] f fd):qc P w K mg base CX0 1 f fd ["asked"] ziY:=by
 refine D.F.ok jA (λvs H Q E h=>?_) (λa1 A az s H vs Q E hr h=>?_)
 .revert h;refine fB λY I y z0 _=>?_;subst z0;rfl
 .revert h;refine fk λY I y z0 J hA al ay q=>?_;subst z0;refine⟨_,(ze (psC 1 jA.nd ["place"] [none] cP (prg T.j4 (pb1 zB T.qK Xj (pvS 0))) (pgN 0) qD (zO (za (pvS 0) zd))) (@ze _ _ _ _ _ (@qh _ _ 2 _ _ _ _ jA.nd rfl (V2 rfl) (@zO _ _ _ _ zd) (by rfl) (.inr rfl)) (ze (qx Xc rfl (JN (by rfl) T.jr (za (pvS 0) zd)) (jO rfl (zE (pgq 3 jA.nd) (zE (pgq 4 jA.nd) qT))) (zf (qx Xc rfl (za2 (by rfl) T.j4 (za (zK Jp (pvS 3) zg) (za (pb1 zB T.qK Xj (pvS 0)) zd))) (pgq 5 jA.nd) (zf (qJ (YL (pb1 (zce rfl) T.ziC Ud (pcm ["cell","asked","other"] [none,some 0,some 5] cR (zw (zv qb (pvS 4) zg (λ_ _=>rfl))) (pgN 0) qD (xF (jq (K:=K) (by rfl) hr.units) (pvS 0) (zv (JV (K:=K) (by rfl)) (zv (Qm (K:=K) (by rfl)) (pvS 1) (pvS 2) (λ_ _=>rfl)) zg (λ_ _=>rfl)) (by rfl)))) (λ_=>rfl)) (zf (jj (yH W7 WI WH yj (pvS 2) (za (zO (za (pvS 3) (za (pvS 5) zd))) zd)))) qa))))) (zf (zx (zK JK (pvS 1) (pvS 2))))))),?_⟩;(try dsimp only[cxK,cxP,cxW]);have ll:I.length=y.length:=Paired.length hA;refine⟨_,rfl,Y,_,rfl,.inl (SqL.of J),_,rfl,by lia,by lia,λsg ak=>?_⟩;rw[show (((I.length:Nat):Int)).toNat=I.length by lia];refine zg5 (lo:=0) (n:=I.length) (λi p u=>∃(u0:Option V) (M:AE),p=[u0]/\zo H u/\u sg=some (.lst M)/\Xy (PlR (· ≠ sg) u) M ((WC i).map λi=>[i])) ⟨none,[],rfl,zc ak,zb,.nil⟩ ?_ ?_
  .refine λi p H1 hi=>d8 λu0 M z0 s1 O hP=>?_;subst z0;rw[VY];unfold yS;refine Q0 ?_;refine⟨_,rfl,sz_1,λx N=>?_⟩;have y2:=zc (o:=.lst [V.int (i:Nat)]) N;have nx:x≠sg:=λe=>by
    rw[e,O]at N;cases N
   have yl:M.length=i:=by rw[Paired.length hP,ZB,WL]
   refine cK M (y2 _ _ O) (Xi (show M.length<100 by lia) (by decide)) (dz (M++[.ref x]) rfl (λb o e=>?_) zb ?_)
   .rw[zj (zh e ak)];exact y2 _ _ (s1 _ _ e)
   .rw[UQ,Xs];refine Paired.snoc (zgt (xV y2 hP)) ⟨x,rfl,nx,?_⟩;rw[zj nx];exact zb
  refine λp H1=>d8 λu0 M z0 s1 O hS=>?_;subst z0;refine⟨jR,λpz aj=>?_⟩;have y2:=zc (o:=.lst []) aj;refine⟨_,rfl,Y,rfl,⟨_,SqL.of (y2 _ _ (s1 _ _ J))⟩,?_⟩;refine JE (K:=K) (l:=Y) (xs:=I) (λi σ u=>∃(w3 w4 w5:Option V) (g:AE),σ=[some (.ref Y),some (.ref sg),some (.ref pz),w3,w4,w5]/\zo H1 u/\u pz=some (.lst g)/\Xy (PlR (· ≠ pz) u) g (JA y i))
   (dh (dG [] rfl y2 zb (.nil))) (λi σ u _ ⟨_,_,_,_,_,s',_⟩=>SqL.of (s' _ _ (s1 _ _ J))) ?_ ?_
  .refine λi x tt σ H2 N av=>eX λw3 w4 w5 g z0 s2 ab G=>?_;subst z0;refine fH (λk1 ag t1 l1 u1 z0 ar ai ae=>?_) (x8 hA N);subst z0;have i1:i<I.length:=(XX.mp N).1;have y3:=zc (o:=.tup [.int (i:Nat),.ref t1]) av;have s3:=s2.trans y3;have ax:=y3 _ _ ab;have an:=xV y3 G;refine di tt rfl (SqT.of zb) rfl rfl rfl rfl ?_;generalize upd H2 tt (.tup [.int (i:Nat),.ref t1])=H3 at *
   refine⟨_,rfl,_,_,rfl,rfl,_,rfl,Y,_,rfl,.inl (SqL.of (s3 _ _ (s1 _ _ J))),((i+1:Nat):Int),((I.length:Nat):Int),rfl,⟨by lia,by lia,by lia,by lia⟩,?_⟩;rw[show (((I.length:Nat):Int)-((i+1:Nat):Int)).toNat=I.length-(i+1) by lia];refine ja (lo:=((i+1:Nat):Int)) (n:=I.length-(i+1)) (λm σ u=>∃(w5:Option V) (g:AE),σ=[some (.ref Y),some (.ref sg),some (.ref pz),some (.int (i:Nat)),some (.ref t1),w5]/\zo H1 u/\u pz=some (.lst g)/\Xy (PlR (· ≠ pz) u) g (JA y i++zgu y i m))
    (dz g rfl s3 ax (by show Xy _ g (JA y i++[]);rw[Xu];exact an)) ?_ ?_
   .refine λm σ H4 hm=>d8 λw5 g z0 s4 ac G=>?_;subst z0;obtain⟨j,hj,af⟩:∃j:Nat,((i+1:Nat):Int)+((m:Nat):Int)=((j:Nat):Int)/\j=i+1+m:=⟨i+1+m,by lia,rfl⟩;rw[hj];have jl:j<I.length:=by lia
    obtain⟨k2,ah⟩:∃k,y[j]?=some k:=⟨_,XY (by lia)⟩;refine fH (λv2 aw t2 l2 u2 z0 au aq ao=>?_) (zmf hA ah);subst z0;have aa:=s1.trans s4;refine⟨_,rfl,t1,_,1,_,rfl,rfl,SqT.of (aa _ _ ar),rfl,l1,rfl,⟨_,SqL.of (aa _ _ ai)⟩,λz hz=>?_⟩;have a2:=ay k1 (X8 ag);refine qN (K:=K) (a:=l1) (xs:=u1) (λr p u=>∃(u0:Option V),p=[u0,some (.ref Y),some (.int (j:Nat))]/\zo H4 u/\u z=some (.lst (((k1.2.take r).map λc=>decide (c∈k2.2)).map V.bl))) ⟨_,rfl,zc hz,zb⟩ (λr p u _ ⟨_,_,s',_⟩=>SqL.of (s' _ _ (aa _ _ ai))) ?_ ?_
    .refine λr v p H5 hv=>eS λu0 z0 s5 U=>?_;subst z0;have L:=aa.trans s5;refine d9 (λc hc rc=>?_) (Cel.get (Cel.mono L ae) hv);unfold yS;refine Q0 ?_;refine⟨_,rfl,_,rfl,_,rfl,Y,_,_,_,rfl,rfl,SqL.of (L _ _ J),qi aw,t2,_,1,_,rfl,rfl,SqT.of (L _ _ au),rfl,zk c,k2.2.map zk,rc.rdv,.lst (SqL.of (L _ _ aq)) (YF (ao.mono L)),rfl,JY _,(by show 1<=60;decide),?_⟩;rw[ziV];refine dj U ?_ (dj rfl (λb o e=>?_) ?_)
     .rw[ZB,ZB,XJ];exact Xi (show min r k1.2.length<100 by lia) (by decide)
     .rw[zj (zh e hz)];exact s5 _ _ e
     .rw[zb,take_snoc hc,Xs,Xs];rfl
    refine λp H5=>eS λu0 z0 s5 U=>?_;subst z0;rw[ae.length,XF]at U;have em:((k1.2.map λc=>decide (c∈k2.2)).any id)=Y6 y i j:=by
     unfold Y6;rw[Xp,Xp,ag,ah,Us];rfl
    refine dO z rfl (SqL.of U) (cG rfl ?_);rw[em];have e1:zgu y i (m+1)=zgu y i m++if Y6 y i j=true then [[i,j]] else []:=by
     unfold zgu;rw[UQ,WZ,Xs,WJ,<- af];split
     .rw[List.filter_nil,XD,<- af];rfl
     .rfl
    rw[e1];have B:=s5 _ _ ac;by_cases hm:Y6 y i j=true
    .refine qQ hm ?_;refine⟨_,rfl,.inl ⟨rfl,_,SqL.of B⟩,_,rfl,_,rfl,yD,λx N=>?_⟩;have y6:=zc (o:=.lst [V.int (i:Nat),.int (j:Nat)]) N;have nx:x≠pz:=λe=>by
      rw[e,B]at N;cases N
     have zl:g.length<=2000:=by
      have a:=Paired.length G;have b:=zmg y i m;have c:=pairs_len y i;have d:i*y.length<=32*32:=Nat.mul_le_mul (by lia) al;rw[X4]at a;lia
     refine⟨pz,_,_,rfl,rfl,y6 _ _ B,XE zl (by decide),some (.int (j:Nat)),g++[.ref x],rfl,λb o e=>?_,zb,?_⟩
     .rw[zj (zh e aj)];exact y6 _ _ (s5 _ _ (s4 _ _ e))
     .rw[bw hm,<- W3];refine Paired.snoc (zgt (xV (s5.trans y6) G)) ⟨x,rfl,nx,?_⟩;rw[zj nx];exact zb
    .refine qu (XO.mpr hm) ?_;rw[bq hm,Xu];exact cO (some (.int (j:Nat))) g rfl (s4.trans s5) B (xV s5 G)
   .refine λσ H4=>d8 λw5 g z0 s4 ac G=>?_;subst z0;refine dh (dG g rfl s4 ac ?_);unfold JA at *
    rw[UQ,V9,VH,TK,Xu];rw[ll]at G;exact G
  .refine λσ H2=>eX λw3 w4 w5 g z0 s2 ab G=>?_;subst z0;rw[ll]at G;have am:=xV s2 hS;have yl:M.length<=32:=by rw[Paired.length hS,ZB,WL];lia
   have zl:g.length<=1056:=by
    have:=zp9 y al;unfold zbn at this;rw[X4]at this;rw[Paired.length G];lia
   refine⟨_,rfl,_,rfl,sg,pz,_,_,rfl,rfl,s2 _ _ O,ab,X6 (show M.length+g.length<=2000 by lia) (by decide),λd hd=>?_⟩;have y5:=zc (o:=.lst (M++g)) hd;refine q d _ _ zb ?_ (s1.trans (s2.trans y5));unfold zbn;rw[<- ll];exact zcd (ziX (xV y5 am)) (ziX (xV y5 (by rw[ll];exact G)))
def Emp (rs:AD)(n:Int)(a:List Tg)(b st:AB)(t:List Nat):Prop:=zQ (gsT rs n b st (t.map λi=>a.getD i none))=[]
def zeV {ks:List Ak}{t:List Nat}:t∈zbn ks↔(∃i,i<ks.length/\t=[i])\/∃i j,i<j/\j<ks.length/\Y6 ks i j=true/\t=[i,j]:=by
 unfold zbn JA zgu;rw[XM,XN,V7];constructor
 .rintro(⟨i,hi,e⟩ | ⟨i,hi,h⟩)
  .exact .inl ⟨i,Ww.mp hi,e.symm⟩
  .obtain⟨m,a,e⟩:=XN.mp h;obtain⟨h1,h2⟩:=X5.mp a;have:=Ww.mp h1;exact .inr ⟨i,i+1+m,by lia,by lia,h2,e.symm⟩
 .rintro(⟨i,hi,e⟩ | ⟨i,j,hij,hj,a,e⟩)
  .exact .inl ⟨i,Ww.mpr hi,e.symm⟩
  .refine .inr ⟨i,Ww.mpr (by lia),XN.mpr ⟨j-(i+1),X5.mpr ⟨Ww.mpr (by lia),?_⟩,?_⟩⟩
   .rw[show i+1+(j-(i+1))=j by lia];exact a
   .rw[show i+1+(j-(i+1))=j by lia,e]
def AkN (N:Addr->Prop)(H:Hp)(v:V)(k:Ak):Prop:=∃(t l:Addr) (a:AE),v=V.ref t/\N t/\N l/\H t=some (.tup [.int k.1,.ref l])/\H l=some (.lst a)/\Cel H a k.2
def zoK {N:Addr->Prop}{H:Hp}{a:AE}{ks:List Ak}(h:Xy (AkN N H) a ks):Xy (AkV H) a ks:=Paired.imp' (λ_ _ ⟨t,l,c,e,_,_,h1,h2,b⟩=>⟨t,l,c,e,h1,h2,b⟩) h
def Cel.one {H c:Hp}{d:Addr}{xs:AE}(s:∀b o,b≠d->H b=some o->c b=some o)(f:H d=some (.lst xs)){vs:AE}{cs:AB}(g:Cel H vs cs):Cel c vs cs:=by
 induction g with
 | nil=>exact .nil
 | cons q _ i =>
  obtain⟨a,e,h⟩:=q;exact .cons ⟨a,e,s a _ (λz=>by rw[z,f]at h;cases h) h⟩ i
def zgv {y:Addr}{H c:Hp}{a:AE}(j:H y=some (.lst a))(s:∀b o,b≠y->H b=some o->c b=some o){g:AE}{ks:List Ak}(h:Xy (AkN (· ≠ y) H) g ks):Xy (AkN (· ≠ y) c) g ks :=
 Paired.imp' (λ_ _ ⟨t,l,m,e,d,f,h1,h2,i⟩=>(cN t l (dg m e d f (s _ _ d h1) (s _ _ f h2) (Cel.one s j i)))) h
theorem zn0:∀c1 a:AB,WW (.tuple [.list (c1.map zk),.list (a.map zk)]) (.tuple [.list [],.list []])=decide (c1=[]/\a=[])
 | [],[]=>by decide+kernel
 | [],c::r=>rfl
 | c::r,d=>rfl
structure ziZ (H:Hp)(th la pl fa fc fs:Addr)(ths ls us u w':AE)(tgs:List Tg)(ks:List Ak)(cl st:AB):Prop where
 h1:H th=some (.lst ths)
 t:Xy (xZ H) ths tgs
 h2:H la=some (.lst ls)
 k:Xy (AkV H) ls ks
 h3:H pl=some (.lst us)
 p:Xy (PlR NT H) us (zbn ks)
 f:jz H fa fc fs u w' cl st
 fi:zrk cl st
structure Y7 (rs:AD)(n:Int)(tgs:List Tg)(cl st:AB)(ths:List Tg)(c1 c2:AB):Prop where
 o:zeU tgs ths
 p1:c1.Perm (qd (gsT rs n cl st ths))
 p2:c2.Perm (zQ (gsT rs n cl st ths))
 x1:c1.Pairwise Cells.lex
 x2:c2.Pairwise Cells.lex
 ne:¬ (c1=[]/\c2=[])
structure YE (N:Addr->Prop)(H:Hp)(r tl d1 d2:Addr)(tv w1 w2:AE)(ths:List Tg)(c1 c2:AB):Prop where
 tp:H r=some (.tup [.ref tl,.ref d1,.ref d2])
 h:H tl=some (.lst tv)
 t:Xy (xZ H) tv ths
 h1:H d1=some (.lst w1)
 h2:H d2=some (.lst w2)
 e1:Cel H w1 c1
 e2:Cel H w2 c2
 n0:N tl
 n1:N d1
 n2:N d2
def zi0:Sp:=λx H Q _=>∃(l i j h q fs:Addr) (f s w u y:AE) (d:AD) (n:Int) (b:List Tg) (e st:AB) (L:AA->Bool),x=[.ref l,.ref i,.ref j,.ref h]/\ziZ H l i j h q fs f s w u y b (qf d n b) e st/\(zH d).length<=20/\b.length<=32/\b.Nodup/\Ja (qf d n b) L e st /\
 ((∀t∈zbn (qf d n b),Emp d n b e st t)->∀c,zo H c->Q .non c) /\
 ∀(m:List Tg) (c1 g:AB) (r tl o p:Addr) (v z A:AE) (c:Hp),Y7 d n b e st m c1 g->YE (λa=>H a=none) c r tl o p v z A m c1 g->zo H c->Q (.ref r) c
def yf:zD ["things","asked","lists","finding","known","left","places","told"] ["things","asked","lists","finding"] (zp Js):=bh
def zdo (T:Txt mg)(Z:Prog K mg){f:Addr}{fd:XC}(D:zm K mg "first_step" Js ["things","asked","lists","finding"] f fd):qc P w K mg base CX0 3 f fd ["things","asked","lists","finding"] zi0:=by
 obtain⟨aT,aS,a1⟩:=Z.known_of;obtain⟨aQ,aR,QT⟩:=Z.still_asked;obtain⟨aV,aU,QC⟩:=Z.settled;obtain⟨aX,aW,a2⟩:=Z.gained;have aG:=zgm (P:=P) (w:=w) (base:=base) T a1;have aF:=zcY (P:=P) (w:=w) (base:=base) T QT;have aH:=zkj (P:=P) (w:=w) (base:=base) T a2 QC;refine D.F.ok yf (λvs H Q E h=>?_) (λaJ A aB s H vs Q E hr h=>?_)
 .revert h;refine eE λth la pl fa fc fs am ls=>fL λus u w' U n c I st L z0 _=>?_;subst z0;rfl
 .revert h;refine eE λth la pl fa fc fs am ls=>eE λus u w' U n c I st=>fj λL z0 X ay aO=>eZ λtn tr qn qs=>?_;subst z0;refine⟨_,(ze (jf 4 yf.nd (pc0 aG hr a1 (za (pvS 3) zd))) (ze (jf 5 yf.nd (pcm ["some","known"] [none,some 4] cR (zw (pvS 1)) (pgN 0) qD (pc0 aF hr QT (za (pvS 0) (za (pvS 1) zd))))) (ze (qx Xc rfl (zw (pvS 2)) (pgq 6 yf.nd) (ze (jf 7 yf.nd (pc0 aH hr a2 (za (pcm ["place","left"] [none,some 5] cR (zw (pvS 6)) (pgN 0) qD (zv (Qm (K:=K) (by rfl)) (pvS 1) (pvS 0) (λ_ _=>rfl))) zd))) (zf (qJ (zI (jP hr.units) (pvS 7) (@ql _ _ _ _ _ (@za _ _ _ _ _ (@zO _ _ _ _ zd) (@za _ _ _ _ _ (@zO _ _ _ _ zd) zd rfl) rfl)) (zT _)) (zf (zx (ql (za (pcm ["place","things"] [none,some 0] cR (zw (pvS 6)) (pgN 0) qD (zv (Qm (K:=K) (by rfl)) (pvS 1) (pvS 0) (λ_ _=>rfl))) (za (zv qb (pvS 7) zg (λ_ _=>rfl)) (za (zv qb (pvS 7) zg (λ_ _=>rfl)) zd)))))) qa)))) (@zf _ _ _ (@zx _ _ _ _ YH))))),?_⟩;(try dsimp only[cxK,cxP,cxW]);refine⟨_,rfl,fa,fc,fs,u,w',I,st,rfl,X.f,X.fi,λkd aA H1 aM aI hK s1=>?_⟩;refine⟨_,rfl,la,rfl,⟨_,SqL.of (s1 _ _ X.h2)⟩,λy hy=>?_⟩;refine qN (K:=K) (a:=la) (xs:=ls) (λi σ B=>(∃Y,σ=[Y,some (.ref kd)])/\zo H1 B/\∃ys,B y=some (.lst ys)/\Xy (AkN (· ≠ y) B) ys (zbz U n I st (c.take i))) (cH ⟨_,rfl⟩ (zc hy) (cW [] zb (.nil))) (λi σ B _ ⟨_,s',_⟩=>SqL.of (s' _ _ (s1 _ _ X.h2))) ?_ ?_
  .rintro i x σ H2 hx ⟨⟨Y,rfl⟩,s2,ys,M,hP⟩;have m:=s1.trans s2;refine fH (λk hk t l us3 z0 ht hl hc=>?_) (x8 X.k hx);subst z0;unfold qf at hk;rw[XB]at hk;obtain⟨tg,hg,rfl⟩:=U7.mp hk;refine Jm ⟨_,rfl,_,rfl,t,l,kd,_,us3,_,I,st,aA,rfl,m _ _ ht,m _ _ hl,hc.mono m,X6 QD.length_le (X6 ay (by decide)),s2 _ _ aI,hK,λr l2 aD H4 aN ar ac a7 a3 O=>?_⟩;have ak:=O _ _ M;have aw:r≠y:=zbf ac ak (by intro q;cases q);have av:l2≠y:=λz=>by
    rw[z,M]at ar;cases ar
   have aE:ys.length<=32:=by
    rw[Paired.length hP,ZB,XJ];lia
   refine cM ys ak (XE aE (by decide)) ⟨_,rfl⟩ (λb o e'=>?_) (cW (ys++[.ref r]) zb ?_)
   .rw[zj (zh e' hy)];exact O _ _ (s2 _ _ e')
   .rw[take_snoc hg,zbz,Xs];have kk:∀b o,b≠y->H4 b=some o->upd H4 y (.lst (ys++[.ref r])) b=some o:=λb o nb e=>by
     rw[zj nb];exact e
    exact Paired.snoc (zgv M (λb o nb e=>by rw[zj nb];exact O _ _ e) hP) (cN r l2 (dg aD rfl aw av (kk _ _ aw ac) (kk _ _ av a7) (Cel.into y _ ak a3)))
  refine λσ H2=>e8 λ_ s2 ys M hP=>?_;rw[Paired.length X.k,qf,ZB,XF]at hP;have hV:=zoK hP;have m:=s1.trans s2;refine⟨_,rfl,pl,rfl,⟨_,SqL.of (m _ _ X.h3)⟩,?_⟩;refine jF (K:=K) (a:=pl) (xs:=us) (λi σ B=>∃(w6 w7:Option V),σ=[some (.ref th),some (.ref la),some (.ref pl),some (.ref fa),some (.ref kd),some (.ref y),w6,w7]/\zo H2 B/\∀j,j<i->∀t',(zbn (qf U n c))[j]?=some t'->Emp U n c I st t')
   (cT rfl (zo.refl _) (λj hj=>by lia)) (λi σ B _ ⟨_,_,_,s',_⟩=>SqL.of (s' _ _ (m _ _ X.h3))) ?_ ?_
  .refine λi x σ H3 hx=>eF λw6 w7 z0 s3 hE=>?_;subst z0;refine d9 (λt ht=>eS λta z0 _ au=>?_) (x8 X.p hx);subst z0;have po:=zeV.mp (X8 ht);have al:=m.trans s3;have ae:=al _ _ au;have kl:(qf U n c).length=c.length:=ZB _;rw[kl]at po;have gm:∀j,j<c.length->c[j]?=some (c.getD j none)/\c.getD j none∈c:=λj hj=>by
    have e:c[j]?=some (c.getD j none):=by
     rw[Xp,XY hj];rfl
    exact⟨e,X8 e⟩
   have tb:∀j∈t,j<c.length:=λj hj=>by
    rcases po with ⟨i,hi,rfl⟩ | ⟨i,j',ao,aq,_,rfl⟩
    .rw[Wl.mp hj];exact hi
    .rcases XI.mp hj with rfl | hj
     .lia
     .rw[Wl.mp hj];exact aq
   have aC:t.length=1\/t.length=2:=by
    rcases po with ⟨i,hi,rfl⟩ | ⟨i,j',ao,aq,_,rfl⟩
    .exact .inl rfl
    .exact .inr rfl
   have to:zeU c (t.map λi=>c.getD i none):=by
    rcases po with ⟨i,hi,rfl⟩ | ⟨i,j,ao,hj,_,rfl⟩
    .exact .inl ⟨_,(gm i hi).2,rfl⟩
    .refine .inr ⟨_,_,(gm i (by lia)).2,(gm j hj).2,λe=>?_,rfl⟩;have a:=(gm i (by lia)).1;rw[e,<- (gm j hj).1]at a;have:=(List.getElem?_inj (by lia) tn).mp a;lia
   refine⟨_,rfl,ta,rfl,⟨_,SqL.of ae⟩,λg hg=>?_⟩;refine qN (K:=K) (a:=ta) (xs:=iL (nlI t)) (λr d B=>∃(Y:Option V) (gv:AE),d=[Y,some (.ref y)]/\zo H3 B/\B g=some (.lst gv)/\Xy (AkV H3) gv (zbz U n I st ((t.take r).map λi=>c.getD i none))) (dz [] rfl (zc hg) zb (.nil)) (λr d B _ ⟨_,_,_,s',_⟩=>SqL.of (s' _ _ ae)) ?_ ?_
   .refine λr v d H4 hv=>d8 λY gv z0 O ag hG=>?_;subst z0;obtain⟨x0,J,rfl⟩:=ints_get hv;rw[XB]at J;obtain⟨j,hj,rfl⟩:=U7.mp J;have jm:=tb j (X8 hj);have ek:(zbz U n I st c)[j]?=some (qq I st (akT U n (c.getD j none))):=by
     rw[XB,(gm j jm).1];rfl
    refine d9 (λv2 aa r2=>?_) (zmf (zc1 s3 hV) ek);unfold yS;refine Q0 ?_;have r1:r<t.length:=(XX.mp hj).1;refine⟨_,rfl,_,rfl,y,_,_,_,rfl,rfl,SqL.of (O _ _ (s3 _ _ M)),qi aa,_,ag,?_,_,gv++[v2],rfl,λb o e=>?_,zb,?_⟩
    .rw[Paired.length hG,ZB,ZB,XJ];exact Xi (show min r t.length<100 by lia) (by decide)
    .rw[zj (zh e hg)];exact O _ _ e
    .rw[take_snoc hj,Xs,zbz,Xs];exact Paired.snoc hG r2
   refine λd H4=>d8 λY gv z0 O ag hG=>?_;subst z0;rw[ZB,ZB,XF]at hG;have ax:=al.trans O;refine dI g gv (zbz U n I st (t.map λi=>c.getD i none)) rfl ag (zc1 O hG) (by rw[ZB,ZB];exact aC) (cH (λk hk=>?_) (tr.ok to).2 (λtt d1 d2 w1 w2 c1 c2 H5 f1 f2 aK k1 k2 k3 g1 g2 p1 p2 x1 x2 s5=>?_))
   .obtain⟨tg,_,rfl⟩:=XN.mp hk;exact⟨xu U n I st tg,zb5 n I st tg ay⟩
   refine⟨_,rfl,jR,λe1 a4=>⟨jR,λe2 a5=>⟨yD,λe3 a6=>?_⟩⟩⟩;have y1:=zc (o:=.lst []) a4;have y2:=zc (o:=.lst []) a5;have y3:=zc (o:=.tup [.ref e1,.ref e2]) a6;have G:=y1.trans (y2.trans y3);have az:=s5.trans G;refine cO (.tuple [.list (c1.map zk),.list (c2.map zk)]) (.tuple [.list [],.list []]) (.tup (SqT.of (G _ _ k1)) (.cons (.lst (SqL.of (G _ _ k2)) (YF (g1.mono G))) (.cons (.lst (SqL.of (G _ _ k3)) (YF (g2.mono G))) .nil))) (.tup (SqT.of zb) (.cons (.lst (SqL.of (y3 _ _ (y2 _ _ zb))) .nil) (.cons (.lst (SqL.of (y3 _ _ zb)) .nil) .nil))) ⟨?_,rfl,?_⟩ ⟨_,rfl,?_⟩
   .show (V5 (c1.map zk)&&(V5 (c2.map zk)&&true))=true;rw[JY,JY];rfl
   .show max (VA (c1.map zk)+1) (max (VA (c2.map zk)+1) 0)+1<=64;have a:=zcG c1;have b:=zcG c2;lia
   rw[bw rfl,zn0];by_cases he:c1=[]/\c2=[]
   .refine qu (by rw[br he];rfl) (cT rfl (s3.trans (O.trans az)) (λj hj t' ah=>?_));by_cases ji:j<i
    .exact hE j ji t' ah
    .have:j=i:=by lia
     subst this;rw[ht]at ah;cases ah;rw[he.2]at p2;exact p2.symm.eq_nil
   .refine qQ (by rw[bf he];rfl) ?_;generalize upd (upd (upd H5 e1 (.lst [])) e2 (.lst [])) e3 (.tup [.ref e1,.ref e2])=H6 at *
    have N:=al.trans (O.trans az);have af:=N _ _ au;refine⟨_,rfl,ta,rfl,⟨_,SqL.of af⟩,λtl aj=>?_⟩;refine qN (K:=K) (a:=ta) (xs:=iL (nlI t)) (λr d B=>∃(Y:Option V) (tv:AE),d=[Y,some (.ref th)]/\zo H6 B/\B tl=some (.lst tv)/\Xy (xZ H6) tv ((t.take r).map λi=>c.getD i none)) (dz [] rfl (zc aj) zb (.nil)) (λr d B _ ⟨_,_,_,s',_⟩=>SqL.of (s' _ _ af)) ?_ ?_
    .refine λr v d H7 hv=>d8 λY tv z0 s7 ai hT=>?_;subst z0;obtain⟨x0,J,rfl⟩:=ints_get hv;rw[XB]at J;obtain⟨j,hj,rfl⟩:=U7.mp J;have jm:=tb j (X8 hj);have aP:am.length=c.length:=Paired.length X.t;obtain⟨v2,aa⟩:∃v,am[j]?=some v:=⟨_,XY (by lia)⟩;obtain⟨tg,a9,r2⟩:=x8 X.t aa;unfold yS;refine Q0 ?_;have r1:r<t.length:=(XX.mp hj).1;refine⟨_,rfl,_,rfl,th,_,_,_,rfl,rfl,SqL.of (s7 _ _ (N _ _ X.h1)),qi aa,_,ai,?_,_,tv++[v2],rfl,λb o e=>?_,zb,?_⟩
     .rw[Paired.length hT,ZB,XJ];exact Xi (show min r t.length<100 by lia) (by decide)
     .rw[zj (zh e aj)];exact s7 _ _ e
     .rw[take_snoc hj,Xs];refine Paired.snoc hT ?_;have:c.getD j none=tg:=by
       rw[Xp,a9];rfl
      show xZ H6 v2 (c.getD j none);rw[this];exact r2.mono N
    refine λd H7=>d8 λY tv z0 s7 ai hT=>?_;subst z0;rw[ZB,ZB,XF]at hT;have an:=G.trans s7;refine⟨_,rfl,tt,_,0,_,rfl,rfl,SqT.of (an _ _ k1),rfl,_,rfl,tt,_,1,_,rfl,rfl,SqT.of (an _ _ k1),rfl,zfX,λr a8=>?_⟩;have y8:=zc (o:=.tup [.ref tl,.ref d1,.ref d2]) a8;have ab:=an.trans y8;exact qs _ c1 c2 r tl d1 d2 tv w1 w2 _ ⟨to,p1,p2,x1,x2,he⟩ ⟨zb,y8 _ _ ai,Paired.imp' (λ_ _ h=>xZ.mono (s7.trans y8) h) hT,ab _ _ k2,ab _ _ k3,g1.mono ab,g2.mono ab,N.free aj,ax.free f1,ax.free f2⟩ (N.trans (s7.trans y8))
  .refine λσ H3=>eF λw6 w7 z0 s3 hE=>?_;subst z0;refine qn (λt ht=>?_) H3 (m.trans s3);obtain⟨j,hj⟩:=UK ht;exact hE j (by rw[Paired.length X.p];exact(XX.mp hj).1) t hj
abbrev Stp:=List Tg×AB×AB
structure Way (rs:AD)(n:Int)(tgs:List Tg)(S:List Stp)(cl st:AB):Prop where
 p1:cl.Perm (S.flatMap λs=>s.2.1)
 p2:st.Perm (S.flatMap λs=>s.2.2)
 tr:∀L,Ja (qf rs n tgs) L [] []->Ja (qf rs n tgs) L cl st
 x1:cl.Pairwise Cells.lex
 x2:st.Pairwise Cells.lex
 s1:∀c∈cl,c∈zH rs
 s2:∀c∈st,c∈zH rs
def zc4 {rs:AD}{cs:AB}(n:cs.Nodup)(h:∀c∈cs,c∈zH rs)(b:(zH rs).length<=20):cs.length<=20:=by
 have:=n.length_le_of_subset (λc a=>h c a:cs ⊆ zH rs);lia
section
variable {rs:AD}{n:Int}{tgs ths:List Tg}{S:List Stp}{cl st c1 c2 q1 q2:AB}{L:AA->Bool}
def Way.len (W:Way rs n tgs S cl st)(h:Ja (qf rs n tgs) L [] [])(d:(zH rs).length<=20):cl.length+st.length<=20:=by
 rw[<- X4];refine zc4 (WY.mpr ⟨qw W.x1,qw W.x2,λa f b g e=>?_⟩) (λc i=>(XM.mp i).elim (W.s1 c) (W.s2 c)) d;subst e;exact(W.tr L h).ap a f g
def Y7.g1 (o:Y7 rs n tgs cl st ths c1 c2):∀c∈c1,c∈zH rs/\c ∉ st/\c ∉ cl:=λc a=>ziW o.o ((xj _).subset (o.p1.mem_iff.mp a))
def Y7.g2 (o:Y7 rs n tgs cl st ths c1 c2):∀c∈c2,c∈zH rs/\c ∉ st/\c ∉ cl:=λc a=>ziW o.o ((xo _).subset (o.p2.mem_iff.mp a))
def Way.next (W:Way rs n tgs S cl st)(o:Y7 rs n tgs cl st ths c1 c2)(g:q1.Perm (cl++c1))(i:q2.Perm (st++c2))(u1:(q1.map toI).Pairwise λp q=>lt2 q p=false)(s:(q2.map toI).Pairwise λp q=>lt2 q p=false):Way rs n tgs (S++[(ths,c1,c2)]) q1 q2:=by
 have ap:∀{a b:AB},a.Pairwise Cells.lex->b.Pairwise Cells.lex->(∀c∈b,c ∉ a)->(a++b).Nodup:=λj l h=>WY.mpr ⟨qw j,qw l,λc f d m e=>by
  subst e;exact h c m f⟩
 refine⟨?_,?_,λL h=>?_,zbm (g.nodup_iff.mpr (ap W.x1 o.x1 λc f=>(o.g1 c f).2.2)) u1,zbm (i.nodup_iff.mpr (ap W.x2 o.x2 λc f=>(o.g2 c f).2.1)) s,λc f=>(XM.mp (g.mem_iff.mp f)).elim (W.s1 c) λz=>(o.g1 c z).1,λc f=>(XM.mp (i.mem_iff.mp f)).elim (W.s2 c) λz=>(o.g2 c z).1⟩
 .rw[V9,VH,TK,Xu];exact g.trans (W.p1.append_right _)
 .rw[V9,VH,TK,Xu];exact i.trans (W.p2.append_right _)
 .have t:=W.tr L h;have r:=(t.ok o.o).1;exact⟨λc f=>(XM.mp (g.mem_iff.mp f)).elim (t.no c) λz=>r.clear (o.p1.mem_iff.mp z),λc f=>(XM.mp (i.mem_iff.mp f)).elim (t.ye c) λz=>r.stone (o.p2.mem_iff.mp z),t.ct⟩
end
def zc5 (rs:AD)(n:Int)(a:List Tg)(S:List Stp):Prop:=∀i s,S[i]?=some s->∃b st,Way rs n a (S.take i) b st/\Y7 rs n a b st s.1 s.2.1 s.2.2
def zc5.snoc {rs:AD}{n:Int}{a:List Tg}{S:List Stp}{c st:AB}{s:Stp}(h:zc5 rs n a S)(W:Way rs n a S c st)(o:Y7 rs n a c st s.1 s.2.1 s.2.2):zc5 rs n a (S++[s]):=λi x b=>by
 have d:=(XX.mp b).1;rw[X4]at d;have d:i<S.length+1:=d;rw[List.take_append_of_le_length (by lia)];by_cases e:i<S.length
 .rw[V3 e]at b;exact h i x b
 .have e:i=S.length:=by lia
  subst e;rw[VP (XT _),TR]at b;cases b;rw[XF];exact⟨c,st,W,o⟩
def zn1 {H:Hp}{d:Addr}{f ys:AE}(i:H d=some (.lst f)){g:AE}{b:List Tg}(h:Xy (xZ H) g b):Xy (xZ (upd H d (.lst ys))) g b:=Paired.imp' (λv j z=>by
 cases j with
 | none=>exact z
 | some c =>
  obtain⟨a,e,q⟩:=z;refine⟨a,e,?_⟩;rw[zj λw=>by rw[w,i]at q;cases q];exact q) h
theorem YE.mono {N:Addr->Prop}{H b:Hp}{r tl d e:Addr}{f g i:AE}{a:List Tg}{c1 c:AB}(s:zo H b)(x:YE N H r tl d e f g i a c1 c):YE N b r tl d e f g i a c1 c:=⟨s _ _ x.tp,s _ _ x.h,Paired.imp' (λ_ _ z=>xZ.mono s z) x.t,s _ _ x.h1,s _ _ x.h2,x.e1.mono s,x.e2.mono s,x.n0,x.n1,x.n2⟩
theorem YE.into {H:Hp}{d r tl f g:Addr}{c ys i j l:AE}{a:List Tg}{c1 e:AB}(b:H d=some (.lst c))(x:YE (· ≠ d) H r tl f g i j l a c1 e):YE (· ≠ d) (upd H d (.lst ys)) r tl f g i j l a c1 e :=
 ⟨by rw[zj (zbf x.tp b (by intro q;cases q))];exact x.tp,by rw[zj x.n0];exact x.h,zn1 b x.t,by rw[zj x.n1];exact x.h1,by rw[zj x.n2];exact x.h2,Cel.into d _ b x.e1,Cel.into d _ b x.e2,x.n0,x.n1,x.n2⟩
def YE.imp {N M:Addr->Prop}{H:Hp}{r tl d e:Addr}{f g i:AE}{b:List Tg}{c1 c:AB}(s:∀a,N a->M a)(x:YE N H r tl d e f g i b c1 c):YE M H r tl d e f g i b c1 c:=⟨x.tp,x.h,x.t,x.h1,x.h2,x.e1,x.e2,s _ x.n0,s _ x.n1,s _ x.n2⟩
def zhN (N:Addr->Prop)(H:Hp)(v:V)(s:Stp):Prop:=∃r tl a b c d e,v=V.ref r/\YE N H r tl a b c d e s.1 s.2.1 s.2.2
def ZP {N:Addr->Prop}{H a:Hp}{b:AE}{S:List Stp}(s:zo H a)(h:Xy (zhN N H) b S):Xy (zhN N a) b S:=Paired.imp' (λ_ _ ⟨r,tl,c,d,f,g,i,e,z⟩=>(cL r tl c d (cN f g (cW i e (z.mono s))))) h
def NxV (H:Hp)(sa:Addr)(rs:AD)(n:Int)(a:List Tg)(b st:AB)(v:V):Prop:=(v=.non/\∀t∈zbn (qf rs n a),Emp rs n a b st t)\/∃s:Stp,Y7 rs n a b st s.1 s.2.1 s.2.2/\zhN (· ≠ sa) H v s
def zr3 {R:Prop}{G:V->Hp->Prop}(A:V->Hp->Prop)(h:(∀v H,A v H->G v H)->R)(k:∀v H,A v H->G v H):R:=h k
structure Told (H:Hp)(rs:AD)(n:Int)(tgs:List Tg)(t sa fa fc fs:Addr)(sv us ws:AE)(S:List Stp)(cl st:AB):Prop where
 tp:H t=some (.tup [.ref sa,.ref fa])
 h:H sa=some (.lst sv)
 s:Xy (zhN (· ≠ sa) H) sv S
 f:jz H fa fc fs us ws cl st
 ss:zc5 rs n tgs S
 w:Way rs n tgs S cl st
 cd:∀t∈zbn (qf rs n tgs),Emp rs n tgs cl st t
def zmj:Sp:=λo H Q _=>∃(p l f:Addr) (b:AD) (n:Int) (d:AE) (a:List Tg) (L:AA->Bool),o=[.ref p,.ref f]/\qj H p l b n/\Rows bd.cps.toList b/\H f=some (.lst d)/\Xy (xZ H) d a/\a.length<=32/\a.Nodup/\(∀c,some c∈a->c∈zV b)/\(zH b).length<=20/\Ja (qf b n a) L [] [] /\
 ∀(t sa h i fs:Addr) (j m q:AE) (S:List Stp) (g st:AB) (e:Hp),Told e b n a t sa h i fs j m q S g st->zo H e->Q (.ref t) e
def zbA {rs:AD}(R:Rows bd.cps.toList rs){c:AA}(h:c∈zH rs):c.1<8/\c.2<8:=by
 obtain⟨t,k,g,hk,_,_⟩:=zR h;have a:=R.hi;obtain⟨m,_,i,f⟩:=R.ex;have e:=(f t (X8 g)).len;have b:=(XX.mp g).1;have d:=(XX.mp hk).1;rw[XZ]at d;lia
def jt:zD ["board","things","asked","lists","steps","finding","step"] ["board","things"] (zp Zh):=bh
def zeW (T:Txt mg)(Z:Prog K mg){f:Addr}{fd:XC}(D:zm K mg "all_steps" Zh ["board","things"] f fd):qc P w K mg base CX0 4 f fd ["board","things"] zmj:=by
 obtain⟨bE,bB,zY⟩:=Z.around;obtain⟨bC,Q3,zu⟩:=Z.sign_at;obtain⟨Q4,Y4,zG⟩:=Z.cells_of;obtain⟨bI,bF,yO⟩:=Z.closed;obtain⟨bD,bA,qe⟩:=Z.number_at;obtain⟨xY,xh,zL⟩:=Z.closed_around;obtain⟨bN,bM,aO⟩:=Z.asked_by;obtain⟨bG,bJ,QU⟩:=Z.place_lists;obtain⟨bK,bH,Ys⟩:=Z.first_step;have b1:=zgr (P:=P) (w:=w) (base:=base) T aO zY zu zG yO qe zL;have b0:=zc2 (P:=P) (w:=w) (base:=base) T QU;have aN:=zdo (P:=P) (w:=w) (base:=base) T Z Ys;refine D.F.ok jt (λvs H Q E h=>?_) (λb5 A be s H vs Q E hr h=>?_)
 .revert h;refine eE λp l th U n af g L=>eV λz0 _=>?_;subst z0;rfl
 .revert h;refine eE λp l th U n af g L=>eY λz0 B R ao=>eY λhT aM tn aV=>eN λaa ag q=>?_;subst z0;refine⟨_,(ze (psC 2 jt.nd ["thing","board"] [none,some 0] cR (zw (pvS 1)) (pgN 0) qD (pc0 b1 hr aO (za (pvS 1) (za (pvS 0) zd)))) (ze (jf 3 jt.nd (pc0 b0 hr QU (za (pvS 2) zd))) (@ze _ _ _ _ _ (@qh _ _ 4 _ _ _ _ jt.nd rfl (V2 rfl) (@zO _ _ _ _ zd) (by rfl) (.inr rfl)) (@ze _ _ _ _ _ (@qh _ _ 5 _ _ _ _ jt.nd rfl (V2 rfl) (@ql _ _ _ _ _ (@za _ _ _ _ _ (@zO _ _ _ _ zd) (@za _ _ _ _ _ (@zO _ _ _ _ zd) zd rfl) rfl)) (by rfl) (.inr rfl)) (ze (jf 6 jt.nd (pc0 aN hr Ys (za (pvS 1) (za (pvS 2) (za (pvS 3) (za (pvS 5) zd)))))) (ze (zkA Xc (zI zmP (pvS 6) YH (zT _)) (ze (jj (yH W7 WI WH yj (pvS 4) (za (pvS 6) zd))) (ze (jf 5 jt.nd (ql (za (pb1 GS.qY T.jT WG (zK JK (zv qb (pvS 5) zg (λ_ _=>rfl)) (zv qb (pvS 6) zg (λ_ _=>rfl)))) (za (pb1 GS.qY T.jT WG (zK JK (zv qb (pvS 5) zg (λ_ _=>rfl)) (zv qb (pvS 6) zg (λ_ _=>rfl)))) zd)))) (zf (jf 6 jt.nd (pc0 aN hr Ys (za (pvS 1) (za (pvS 2) (za (pvS 3) (za (pvS 5) zd)))))))))) (zf (zx (ql (za (pvS 4) (za (pvS 5) zd))))))))))),?_⟩;(try dsimp only[cxK,cxP,cxW]);have kl:(qf U n g).length=g.length:=by
   unfold qf;rw[ZB]
  refine⟨_,rfl,th,rfl,⟨_,SqL.of ao⟩,λla aA=>?_⟩;refine qN (K:=K) (a:=th) (xs:=af) (λi σ H'=>∃(u0:Option V) (ys:AE),σ=[u0,some (.ref p)]/\zo H H'/\H' la=some (.lst ys)/\Xy (AkN (· ≠ la) H') ys (qf U n (g.take i))) (dz [] rfl (zc aA) zb (.nil)) (λi σ H' _ ⟨_,_,_,s',_⟩=>SqL.of (s' _ _ ao)) ?_ ?_
  .refine λi x σ H2 hx=>d8 λu0 ys z0 s2 ar hP=>?_;subst z0;obtain⟨tg,aF,aX⟩:=x8 hT hx;have ho:∀c,tg=some c->c∈zV U:=λc e=>aV c (by rw[<- e];exact X8 aF);unfold yS;refine Q0 ?_;refine⟨_,rfl,_,rfl,p,l,U,n,x,tg,rfl,B.mono s2,R,aX.mono s2,ho,λt l2 us3 H3 f1 f2 aE aU b3 s3=>?_⟩;have au:=s3 _ _ ar;have n1:t≠la:=zbf aE au (by intro q;cases q);have n2:l2≠la:=λz=>by
    rw[z,ar]at f2;cases f2
   have yl:ys.length<=32:=by
    rw[Paired.length hP];unfold qf;rw[ZB,XJ];lia
   refine cK ys au (XE yl (by decide)) (dz (ys++[.ref t]) rfl (λb o e'=>?_) zb ?_)
   .rw[zj (zh e' aA)];exact s3 _ _ (s2 _ _ e')
   .unfold qf at *
    rw[take_snoc aF,Xs];refine Paired.snoc (zgv ar (λb o nb e=>by rw[zj nb];exact s3 _ _ e) hP) (cN t l2 (dg us3 rfl n1 n2 ?_ ?_ (Cel.into la _ au b3)))
    .rw[zj n1];exact aE
    .rw[zj n2];exact aU
  refine λσ H2=>d8 λu0 ys z0 s2 am hP=>?_;subst z0;rw[Paired.length hT,XF]at hP;have hV:=zoK hP;have bb:∀k∈qf U n g,k.2.length<=64:=λk hk=>by
   obtain⟨tg,_,rfl⟩:=XN.mp hk;exact X6 QD.length_le (X6 aa (by decide))
  refine⟨_,rfl,la,ys,qf U n g,rfl,am,hV,by lia,bb,λpl us H3 b4 aW s3=>?_⟩;refine⟨jR,λsa aD=>⟨jR,λj ay=>⟨jR,λG az=>⟨yD,λY b2=>?_⟩⟩⟩⟩;have y1:=zc (o:=.lst []) aD;have y2:=zc (o:=.lst []) ay;have y3:=zc (o:=.lst []) az;have y4:=zc (o:=.tup [.ref j,.ref G]) b2;have b7:=s2.trans (s3.trans (y1.trans (y2.trans (y3.trans y4))));have n1:j≠sa:=λe=>by
   rw[e,zb]at ay;cases ay
  have n2:G≠sa:=λe=>by
   rw[e,y2 _ _ zb]at az;cases az
  have F0:jz (upd (upd (upd (upd H3 sa (.lst [])) j (.lst [])) G (.lst [])) Y (.tup [.ref j,.ref G])) Y j G [] [] [] []:=⟨zb,y4 _ _ (y3 _ _ zb),y4 _ _ zb,.nil,.nil⟩;have an:(upd (upd (upd (upd H3 sa (.lst [])) j (.lst [])) G (.lst [])) Y (.tup [.ref j,.ref G])) sa=some (.lst []):=y4 _ _ (y3 _ _ (y2 _ _ zb));have aK:zo H3 (upd (upd (upd (upd H3 sa (.lst [])) j (.lst [])) G (.lst [])) Y (.tup [.ref j,.ref G])):=y1.trans (y2.trans (y3.trans y4));generalize upd (upd (upd (upd H3 sa (.lst [])) j (.lst [])) G (.lst [])) Y (.tup [.ref j,.ref G])=H4 at *
  have first:∀(Hc:Hp) (fa fc fs:Addr) (u w':AE) (cl st:AB),zo H3 Hc->jz Hc fa fc fs u w' cl st->∀S,Way U n g S cl st->ziZ Hc th la pl fa fc fs af ys us u w' g (qf U n g) cl st:=by
   intro Hc fa fc fs u w' cl st sc F S W;have aI:=s2.trans (s3.trans sc);have aJ:=s3.trans sc;have wl:=W.len ag aa;exact⟨aI _ _ ao,Paired.imp' (λ_ _ h=>xZ.mono aI h) hT,aJ _ _ am,zc1 aJ hV,sc _ _ b4,xV sc aW,F,⟨λc hc=>zbA R (W.s1 c hc),λc hc=>zbA R (W.s2 c hc),by lia,by lia⟩⟩
  have ai:∀{Hc:Hp} {M:AE} {d:Addr},Hc sa=some (.lst M)->Hc d=none->d≠sa:=λh f e=>by
   rw[e,h]at f;cases f
  have W0:Way U n g [] [] []:=⟨.nil,.nil,λ_ h=>h,.nil,.nil,(λ_ h=>nomatch h),λ_ h=>nomatch h⟩;refine' zr3 (λv H5=>NxV H5 sa U n g [] [] v/\zo H4 H5) (λgo=>?gTail) ?gRest
  case gTail =>
   refine⟨_,rfl,_,rfl,_,rfl,_,rfl,th,la,pl,Y,j,G,af,ys,us,[],[],U,n,g,[],[],L,rfl,first H4 Y j G [] [] [] [] aK F0 _ W0,aa,aM,tn,ag,?gN,λts c1 c2 r tl d1 d2 tv w1 w2 H' ok hx s'=>?gS⟩
   case gS =>
    have hv:NxV H' sa U n g [] [] (.ref r):=.inr (cW (ts,c1,c2) ok (cL r tl d1 d2 (cN tv w1 (cW w2 rfl (hx.imp λ_=>ai an)))))
    clear hx
    revert hv
    generalize V.ref r=v
    intro hv
    exact go v H' ⟨hv,s'⟩
   case gN=>exact λhE H' s'=>go _ _ ⟨.inl ⟨rfl,hE⟩,s'⟩
  rintro v H5 ⟨hv,av⟩;refine⟨λm σ H'=>∃(fa fc fs:Addr) (M u w':AE) (cl st:AB) (v:V) (S:List Stp),m=20-(cl.length+st.length)/\σ=[some (.ref p),some (.ref th),some (.ref la),some (.ref pl),some (.ref sa),some (.ref fa),some v]/\zo H3 H'/\H' sa=some (.lst M)/\M.length<=cl.length+st.length/\jz H' fa fc fs u w' cl st/\fc≠sa/\fs≠sa/\Way U n g S cl st/\zc5 U n g S/\Xy (zhN (· ≠ sa) H') M S/\NxV H' sa U n g cl st v,⟨_,(dU Y j G [] [] [] [] [] (cU v [] rfl rfl (aK.trans av) (av _ _ an) (cX (XT _) (F0.mono av) n1 n2 (cJ W0 (λ_ _ h=>nomatch h) (.nil) hv))))⟩,?_⟩;intro m σ H6 hh;refine GS.via λGG a5=>?_;revert hh;refine eE λfa fc fs M u w' cl st=>eK λv S z0 z1 s6 I=>eY λb8 F nc ns=>eZ λW a7 hS hv=>?_;subst z0 z1;have wl:=W.len ag aa;rcases hv with ⟨rfl,hE⟩ | ⟨⟨ts,c1,c2⟩,ok,r,tl,d1,d2,tv,w1,w2,rfl,hx⟩
  .refine a5 ⟨_,rfl,rfl,_,rfl,?_⟩;refine qu (by decide) ?_;refine⟨_,rfl,_,rfl,yD,λtt ba=>?_⟩;have y:=zc (o:=.tup [.ref sa,.ref fa]) ba;exact q tt sa fa fc fs M u w' S cl st _ ⟨zb,y _ _ I,ZP y hS,F.mono y,a7,W,hE⟩ (s2.trans (s3.trans (s6.trans y)))
  .have ok:Y7 U n g cl st ts c1 c2:=ok;refine a5 ⟨_,rfl,rfl,_,rfl,?_⟩;refine qQ (by rw[bf (λz=>nomatch z)];rfl) ?_;refine cG (fun bO H' h=>h) ?_;have b6:(20:Nat)<=Xv:=by decide
   refine⟨_,rfl,.inl ⟨rfl,_,SqL.of I⟩,_,rfl,sa,_,_,rfl,rfl,I,XE (show M.length<=20 by lia) (by decide),?_⟩;have F7:jz (upd H6 sa (.lst (M++[.ref r]))) fa fc fs u w' cl st:=⟨by rw[zj (zbf F.tp I (by intro q;cases q))];exact F.tp,by rw[zj nc];exact F.h1,by rw[zj ns];exact F.h2,Cel.into sa _ I F.c1,Cel.into sa _ I F.c2⟩;have O:YE (· ≠ sa) (upd H6 sa (.lst (M++[.ref r]))) r tl d1 d2 tv w1 w2 ts c1 c2:=hx.into I;have aT:Xy (zhN (· ≠ sa) (upd H6 sa (.lst (M++[.ref r])))) (M++[.ref r]) (S++[(ts,c1,c2)]):=Paired.snoc (Paired.imp' (λ_ _ ⟨r,tl,d1,d2,tv,w1,w2,e,z⟩=>(cL r tl d1 d2 (cN tv w1 (cW w2 e (z.into I))))) hS) (cL r tl d1 d2 (cN tv w1 (cW w2 rfl O)));have s7:zo H3 (upd H6 sa (.lst (M++[.ref r]))):=λb o e=>by
    rw[zj (zh e aD)];exact s6 _ _ e
   have ac:upd H6 sa (.lst (M++[.ref r])) sa=some (.lst (M++[.ref r])):=zb;generalize upd H6 sa (.lst (M++[.ref r]))=H7 at *
   have m1:c1.length<=20:=zc4 (qw ok.x1) (λc hc=>(ok.g1 c hc).1) aa;have m2:c2.length<=20:=zc4 (qw ok.x2) (λc hc=>(ok.g2 c hc).1) aa;have a1:=F7.c1.length;have a2:=F7.c2.length;have a3:=O.e1.length;have a4:=O.e2.length;refine⟨_,rfl,fa,_,0,_,rfl,rfl,SqT.of F7.tp,rfl,_,rfl,r,_,1,_,rfl,rfl,SqT.of O.tp,rfl,fc,d1,_,_,rfl,rfl,F7.h1,O.h1,X6 (show u.length+w1.length<=100 by lia) (by decide),λx hx=>?_⟩;have y1:=zc (o:=.lst (u++w1)) hx;refine dM x rfl (SqL.of zb) (Cel.tup2 ((F7.c1.append O.e1).mono y1)) (by rw[X4];lia) (λJ u1 z1 ak aY bi up1=>?_);refine d9 (λq1 z0 aB=>?_) (Jx bi);subst z0;have y2:=zc (o:=.lst u1) ak;have ah:=y1.trans y2;refine⟨_,rfl,fa,_,1,_,rfl,rfl,SqT.of (ah _ _ F7.tp),rfl,_,rfl,r,_,2,_,rfl,rfl,SqT.of (ah _ _ O.tp),rfl,fs,d2,_,_,rfl,rfl,ah _ _ F7.h2,ah _ _ O.h2,X6 (show w'.length+w2.length<=100 by lia) (by decide),λx' aq=>?_⟩;have y3:=zc (o:=.lst (w'++w2)) aq;have aw:=ah.trans y3;refine dM x' rfl (SqL.of zb) (Cel.tup2 ((F7.c2.append O.e2).mono aw)) (by rw[X4];lia) (λN u2 z2 al aZ bj bp=>?_);refine d9 (λq2 z0 aC=>?_) (Jx bj);subst z0;have y4:=zc (o:=.lst u2) al;have bx:=aw.trans y4;refine⟨yD,λab a8=>?_⟩;have y5:=zc (o:=.tup [.ref J,.ref N]) a8;have ax:=bx.trans y5;have a9:=(y3.trans (y4.trans y5)) _ _ (zb (H:=upd H7 x (.lst (u++w1))) (a:=J) (o:=.lst u1));have F8:jz _ ab J N u1 u2 q1 q2:=⟨zb,a9,y5 _ _ zb,Cel.mono (y2.trans (y3.trans (y4.trans y5))) (qA aY),Cel.mono (y4.trans y5) (qA aZ)⟩;have aG:J≠sa:=ai (y1 _ _ ac) ak;have aH:N≠sa:=ai (aw _ _ ac) al;have W8:=W.next ok aB aC up1 bp;have ae:=ax _ _ ac;have a6:=ZP ax aT;have aj:=a7.snoc (s:=(ts,c1,c2)) W ok;have s8:=s7.trans ax;generalize upd (upd (upd (upd (upd H7 x (.lst (u++w1))) J (.lst u1)) x' (.lst (w'++w2))) N (.lst u2)) ab (.tup [.ref J,.ref N])=H8 at *
   have k1:=aB.length_eq;have k2:=aC.length_eq;rw[X4]at k1 k2;have k3:1<=c1.length+c2.length:=by
    by_cases z:c1.length+c2.length=0
    .exact absurd ⟨V6.mp (by lia),V6.mp (by lia)⟩ ok.ne
    .lia
   have b9:=W8.len ag aa;refine⟨_,rfl,_,rfl,_,rfl,_,rfl,th,la,pl,ab,J,N,af,ys,us,u1,u2,U,n,g,q1,q2,L,rfl,first H8 ab J N u1 u2 q1 q2 s8 F8 _ W8,aa,aM,tn,W8.tr L ag,λhE H9 s9=>?_,λbn aP aQ r' bm aR aS bo bt bv H9 bc aq s9=>?_⟩
   .exact cG (by lia) (dU ab J N (M++[.ref r]) u1 u2 q1 q2 (dW (.non) rfl rfl (s8.trans s9) (s9 _ _ ae) (cX (by rw[X4];show M.length+1<=_;lia) (F8.mono s9) aG aH (cJ W8 aj (ZP s9 a6) (.inl ⟨rfl,hE⟩)))))
   .exact cG (by lia) (dU ab J N (M++[.ref r]) u1 u2 q1 q2 (dW (.ref r') rfl rfl (s8.trans s9) (s9 _ _ ae) (cX (by rw[X4];show M.length+1<=_;lia) (F8.mono s9) aG aH (cJ W8 aj (ZP s9 a6) (.inr (cW (bn,aP,aQ) bc (cL r' bm aR aS (cN bo bt (cW bv rfl (aq.imp λ_=>ai ae))))))))))
def nbC (rs:AD):AB:=(zV rs).filter λo=>!(clA rs o).isEmpty
def qP (rs:AD):List (Option AA):=(nbC rs).map some++[none]
structure Lay (rs:AD)(n:Int)(L:AA->Bool):Prop where
 a:(((zH rs).countP L:Nat):Int)=n
 o:∀o∈zV rs,(((clA rs o).countP L:Nat):Int)=jw rs o
def Lay.tr {rs:AD}{n:Int}{L:AA->Bool}(h:Lay rs n L):Ja (qf rs n (qP rs)) L [] []:=by
 refine⟨(λ_ z=>nomatch z),(λ_ z=>nomatch z),λk hk=>?_⟩;obtain⟨c,ht,rfl⟩:=XN.mp hk;rcases XM.mp ht with ht | ht
 .obtain⟨o,b,rfl⟩:=XN.mp ht;exact h.o o (X5.mp b).1
 .rw[Wl.mp ht];exact h.a
def Lay.count {rs:AD}{n:Int}{L:AA->Bool}(h:Lay rs n L):znU rs n≠0:=by
 have i:=h.a;have e:((zH rs).filter L).length=n.toNat:=by
  rw[<- Ug];lia
 have g:Yp rs ((zH rs).filter L)=true:=Yq.mpr λo f=>by
  rw[<- h.o o f];congr 1;unfold Grow.cnt;rw[UX,Ug];refine Sg ((WD ((xg rs).sublist Xr) ((zbd rs o).sublist Xr)).mpr λc=>?_);rw[X5,X5,Wp];constructor
  .rintro⟨a,b,d⟩;exact⟨(Jy a).mp b,d⟩
  .rintro⟨a,d⟩;have z:=JZ a;exact⟨z,(Jy z).mpr a,d⟩
 unfold znU Tally.T;have:0<(Subs.subs (zH rs)).countP λS=>decide (S.length=n.toNat)&&Yp rs S:=Pb.mpr ⟨_,Tally.znA Xr,by rw[g,br e];rfl⟩;lia
def Q6 (c:Addr):Sp:=λi H Q E=>∃(p l:Addr) (a:AD) (n:Int) (L:AA->Bool),i=[.ref p]/\qj H p l a n/\Rows bd.cps.toList a/\0<=n/\(zH a).length<=14/\Lay a n L /\
 (30<(nbC a).length->∀b,zo H b->E (.ref c) none b) /\
 ((nbC a).length<=30->∀(t sa e f fs:Addr) (g h j:AE) (S:List Stp) (d st:AB) (b:Hp),Told b a n (qP a) t sa e f fs g h j S d st->zo H b->Q (.ref t) b)
def zgx {rs:AD}:∀c,some c∈qP rs->c∈zV rs:=λc hc=>by
 rcases XM.mp hc with hc | hc
 .obtain⟨o,a,e⟩:=XN.mp hc;cases e;exact(X5.mp a).1
 .cases Wl.mp hc
def zqd (rs:AD):(qP rs).Nodup:=by
 refine WY.mpr ⟨?_,Wf.mpr ⟨(λh=>nomatch h),.nil⟩,λa d b c e=>?_⟩
 .exact List.Pairwise.map _ (λ_ _ h z=>h (Option.some.inj z)) ((qw (Cells.yW yT 0 (codes rs))).sublist Xr)
 .obtain⟨o,_,rfl⟩:=XN.mp d;rw[<- e]at c;cases Wl.mp c
def zgy {H:Hp}{vs:AE}{cs:AB}(h:Cel H vs cs):Xy (xZ H) vs (cs.map some):=by
 induction h with
 | nil=>exact .nil
 | cons r _ a=>exact .cons r a
def zbB:zD ["board","cells"] ["board"] (zp Yk):=bh
def zbC (T:Txt mg)(Z:Prog K mg)(ag:QH K mg "NoLaying" jaa)(ah:QH K mg "TooGreat" jab){f:Addr}{fd:XC}(D:zm K mg "thoughts" Yk ["board"] f fd):qc P w K mg base (CXE P w) 8 f fd ["board"] (Q6 jab):=by
 obtain⟨a1,ay,zY⟩:=Z.around;obtain⟨az,Q3,zu⟩:=Z.sign_at;obtain⟨Q4,Y4,zG⟩:=Z.cells_of;obtain⟨ax,QN,zF⟩:=Z.open_cells;obtain⟨xY,xh,zL⟩:=Z.closed_around;obtain⟨a5,a4,ab⟩:=Z.count;obtain⟨a3,a2,aa⟩:=Z.all_steps;have al:=j5 (P:=P) (w:=w) (base:=base) T zL zY zu;have am:=yc (P:=P) (w:=w) (base:=base) T zF zG zu;have ao:=zmb (P:=P) (w:=w) (base:=base) T Z ab;have an:=zeW (P:=P) (w:=w) (base:=base) T Z aa;refine D.F.okX zbB (λvs H Q E h=>?_) (λaq A ai s H vs Q E u h=>?_)
 .revert h;refine eH λp l c n=>d9 λL z0 _=>?_;subst z0;rfl
 .revert h;refine fy λp l c n L z0 B R n0=>eZ λM hL eg q=>?_;subst z0;refine⟨_,(ze (psC 1 zbB.nd ["cell","board"] [none,some 0] cR (zw (pc0 am u zF (za (pvS 0) zd))) (pgN 0) (zU (zI (YN (K:=K) (by rfl) u.units) (pc0 al u zL (za (pvS 1) (za (pvS 0) zd))) (@zO _ _ _ _ zd) (zT _))) (pvS 0)) (ze (qJ (zI zcx (pb1 zB T.qK Xj (pvS 1)) (Jl (v:=.int 30) (by rfl) T.zdi.choose_spec (by exact⟨_,rfl⟩)) (zT _)) (zf (zfy zdH ah (by rfl) rfl (@za _ _ _ _ _ qC zd rfl))) qa) (ze (qJ (zI YI (pc0 ao u ab (za (pvS 0) zd)) zg (zT _)) (zf (zfy zdH ag (by rfl) rfl (@za _ _ _ _ _ qC zd rfl))) qa) (zf (zx (pc0 an u aa (za (pvS 0) (za (zK JK (pvS 1) (zO (za (Jl (v:=.str "all") (by rfl) T.zoE.choose_spec (by exact⟨_,rfl⟩)) zd))) zd)))))))),?_⟩;(try dsimp only[cxK,cxP,cxW]);refine⟨_,rfl,p,l,c,n,rfl,B,R,λd ws H1 hd r j s1=>(cK d rfl ⟨_,SqL.of r⟩ (λz hz=>?_))⟩;have b1:=B.mono s1;refine zM (K:=K) (a:=d) (xs:=ws) (λa=>a≠z) ((zV c).map λo=>if (!(clA c o).isEmpty)=true then some (zk o) else none) (fun σ=>∃u0,σ=[u0,some (.ref p)]) hz (λ_ h=>h) ⟨_,rfl⟩ (by rw[ZB];exact j.length.symm) (by rw[j.length];exact X6 (qO R) (by decide)) (SqL.of r) ?_ ?_
  .rintro k x o σ H2 hx ho O au ⟨u0,rfl⟩ Y Z ak no;obtain⟨y,hy,r1⟩:=Cel.get j hx;have eo:=qt hy ho;refine d8 (λt sg ht hj _ es=>?_) (zR (X8 hy));obtain⟨ya,rfl,I⟩:=r1;obtain⟨l1,l2⟩:=yk R ht hj;refine⟨_,rfl,_,rfl,p,l,ya,c,n,y,rfl,b1.mono O,R,O _ _ I,l1,l2,λd2 aw H3 ar ae g m=>⟨jR,λe he=>?_⟩⟩;have s4:=zc (o:=.lst []) he;refine cO (.list ((clA c y).map zk)) (.list []) (.lst (SqL.of (s4 _ _ ae)) (YF (g.mono s4))) (.lst (SqL.of zb) .nil) (YZ _ []) ⟨_,rfl,?_⟩;have ee:(if true=true then !PyData.eqv (.list ((clA c y).map zk)) (.list []) else WW (.list ((clA c y).map zk)) (.list []))=!(clA c y).isEmpty:=congrArg (λb=>!b) (eq_nil _);rw[ee];by_cases hp:(!(clA c y).isEmpty)=true
   .rw[bw hp]at eo;exact qQ hp ⟨_,rfl,ak _ _ _ _ eo ⟨_,rfl⟩ (m.trans s4) (jU.rdn ⟨ya,rfl,s4 _ _ (m _ _ (O _ _ I))⟩)⟩
   .rw[bq hp]at eo;exact qu (XO.mpr hp) (no _ _ eo ⟨_,rfl⟩ (m.trans s4))
  rintro ys H2 O J G;rw[zJ]at G;have g:Cel H2 ys (nbC c):=zq.cel G;have i:=s1.trans O;have B2:=B.mono i;have yl:ys.length=(nbC c).length:=g.length;refine⟨_,rfl,z,_,rfl,.inl (SqL.of J),_,_,rfl,rfl,_,rfl,?_⟩;by_cases ac:30<(nbC c).length
  .exact qQ (br (by lia)) ⟨by decide,eg ac _ i⟩
  refine qu (bf (by lia)) ?_;refine⟨_,rfl,p,l,c,n,rfl,B2,R,zl6 M,n0,λH3 m=>?_⟩;have av:=i.trans m;refine⟨rfl,_,rfl,?_⟩;have h0:=hL.count;refine qu (bf λe=>h0 (V.int.inj e)) ?_;refine⟨_,rfl,_,rfl,sz_1,λx hx=>?_⟩;have y4:=zc (o:=.lst [V.str "all"]) hx;refine dN z x (cQ rfl rfl (y4 _ _ (m _ _ J)) zb (X6 (show ys.length+1<=40 by lia) (by decide)) (λth af=>?_));have y5:=zc (o:=.lst (ys++[V.str "all"])) af;have U:=m.trans (y4.trans y5);have N:=i.trans U;refine dU p l th c n (ys++[V.str "all"]) (qP c) L (cX rfl (B.mono N) R zb (cX (Paired.snoc (zgy (g.mono U)) rfl) ?_ (zqd c) zgx (cH (X6 M (by decide)) hL.tr (λt sa fa fc fs sv us aj S cl st H' k1 s'=>q (by lia) t sa fa fc fs sv us aj S cl st H' k1 (N.trans s')))))
  .unfold qP;rw[X4,ZB];show (nbC c).length+1<=32;lia
def zoO (H:Hp)(v:V)(t:List Nat):Prop:=v=V.str ⟨t.toArray⟩\/∃a,v=V.ref a/\H a=some (.lst (t.map λc=>V.str ⟨#[c]⟩))
def x6 (H:Hp):AE->List (List Nat)->Prop:=Xy (zoO H)
theorem x6.get {H:Hp}:∀{vs:AE} {gs:List (List Nat)} {i:Nat} {t:List Nat},x6 H vs gs->gs[i]?=some t->∃v,vs[i]?=some v/\zoO H v t
 | _,_,_,_,.nil,e=>by simp at e
 | _,_,0,_,.cons r _,e=>by
  simp at e;subst e;exact⟨_,rfl,r⟩
 | _,_,i+1,t,.cons _ q,e=>by
  obtain⟨c,h1,h2⟩:=x6.get (i:=i) (t:=t) q (by simpa using e);exact⟨c,by simpa using h1,h2⟩
theorem x6.rows (H:Hp):∀rs:AD,x6 H (rs.map V.str) (codes rs)
 | []=>.nil
 | t::r=>.cons (.inl (by
   obtain⟨⟨x⟩⟩:=t;rfl)) (x6.rows H r)
def pZ (zs:List Nat)(k:Nat):Bool:=decide (k∈zs)
def zeh (k c:Nat):eqV (V.str ⟨#[c]⟩) (V.str ⟨#[k]⟩)=decide (c=k):=by
 have a:eqV (V.str ⟨#[c]⟩) (V.str ⟨#[k]⟩)=((⟨#[c]⟩:Str)==(⟨#[k]⟩:Str)):=rfl;rw[a,WQ,beq_iff_eq,bu];constructor
 .intro h;have b:(#[c]:Array Nat)=#[k]:=congrArg Str.cps h;simpa using b
 .rintro rfl;rfl
def zgA (k:Nat)(zs:List Nat):inV (V.str ⟨#[k]⟩) (zs.map λc=>V.str ⟨#[c]⟩)=pZ zs k:=by
 unfold inV pZ;rw[Us,WQ,WT,bu];constructor
 .rintro⟨c,hc,h⟩;have e:c=k:=bg ((zeh k c).symm.trans h);rw[<- e];exact hc
 .intro h;exact⟨k,h,(zeh k k).trans (br rfl)⟩
def zc7 (zs:List Nat):(zs.map λc=>V.str ⟨#[c]⟩).all zak=true:=by
 rw[WK];intro v a;obtain⟨c,_,rfl⟩:=XN.mp a;rfl
def zml (H a:Hp)(d:Addr):Prop:=∀b o,b≠d->H b=some o->a b=some o
def zgB:Sp:=λi H Q _=>∃(l e:Addr) (f:AE) (b:List (List Nat)) (h:List Nat),i=[.ref l,.ref e]/\H l=some (.lst f)/\x6 H f b/\b.length<=8/\(∀t∈b,t.length<=8)/\H e=some (.lst (h.map λc=>V.str ⟨#[c]⟩)) /\
 ∀(d:Addr) (g:AE) (a:Hp),H d=none->a d=some (.lst g)->Cel a g (Cells.zC (pZ h) 0 b)->zo H a->Q (.ref d) a
def JB:zD ["_law_rows","_law_signs","_law_found","_law_row","_law_column"] ["_law_rows","_law_signs"] (zp yw):=bh
def Yu (T:Txt mg)(D:zm K mg "_law_cells" yw ["_law_rows","_law_signs"] f fd):qc P w K mg base CX0 1 f fd ["_law_rows","_law_signs"] zgB:=by
 refine D.F.ok JB (λvs H Q E h=>?_) (λak A aj s H vs Q E hr h=>?_)
 .revert h;refine eH λl sg us N=>d9 λm z0 _=>?_;subst z0;rfl
 .revert h;refine fy λl sg us N m z0 hl hG g8=>eN λt8 ah q=>?_;subst z0;have ul:us.length=N.length:=Paired.length hG;refine⟨_,(@ze _ _ _ _ _ (@qh _ _ 2 _ _ _ _ JB.nd rfl (V2 rfl) (@zO _ _ _ _ zd) (by rfl) (.inr rfl)) (ze (qx Xc rfl (prg T.j4 (pb1 qo T.qK Xj (pv 0))) (pgq 3 JB.nd) (zf (qx Xc rfl (prg T.j4 (pb1 zfJ T.qK Xj (zv xG (pv 0) (pv 3) (λ_ _=>rfl)))) (pgq 4 JB.nd) (zf (qJ (jY zjk (zv zq1 (zv xG (pv 0) (pv 3) (λ_ _=>rfl)) (pv 4) (λ_ _=>rfl)) (pv 1) (by rfl)) (zf (jj (yH W7 WI WH JC (pv 2) (za (ql (za (pv 3) (za (pv 4) zd))) zd)))) qa))))) (zf (zx (pv 2))))),?_⟩;(try dsimp only[cxK,cxP,cxW]);refine⟨jR,λd hd=>?_⟩;have s0:zo H (upd H d (.lst [])):=zc hd;refine dF rfl l (cH rfl (.inl (SqL.of (s0 _ _ hl))) ⟨_,(cJ rfl (by lia) (by lia) ?_)⟩);rw[Vv,ul];refine ja (lo:=0) (n:=N.length) (λi M x=>∃(v3 L:Option V) (B:AE),M=[some (.ref l),some (.ref sg),some (.ref d),v3,L]/\zo H x/\x d=some (.lst B)/\Cel x B (Cells.zC (pZ m) 0 (N.take i))) (cI (dG [] rfl s0 zb (.nil))) ?_ ?_
  .refine λi M H1 hi=>eU λv3 L B z0 s1 O G=>?_;subst z0;obtain⟨t,ht⟩:∃t,N[i]?=some t:=⟨_,XY hi⟩;have tl:=t8 t (X8 ht);refine d9 (λv hv ag=>?_) (x6.get hG ht);have ac:atI us (0+(i:Int))=some v:=by
    rw[VY];exact qi hv
   refine cS rfl rfl ⟨l,(cI (cM v rfl rfl (SqL.of (s1 _ _ hl)) ac ?_))⟩;rcases ag with rfl | ⟨ra,rfl,aa⟩
   .have Y:(⟨t.toArray⟩:Str).length=t.length:=by show t.toArray.size=_;rw[Xm]
    refine .inr (cK ⟨t.toArray⟩ rfl (by rw[Y];exact X6 tl (by decide)) ⟨_,(cJ rfl (by rw[Y];lia) (by rw[Y];lia) ?_)⟩);rw[Vv,Y];refine ja (lo:=0) (n:=t.length) (λj M x=>∃(L:Option V) (B:AE),M=[some (.ref l),some (.ref sg),some (.ref d),some (.int (0+(i:Int))),L]/\zo H x/\zml H1 x d/\x d=some (.lst B)/\Cel x B (Cells.zC (pZ m) 0 (N.take i)++Cells.zW (pZ m) i 0 (t.take j))) (dH B rfl s1 (λb o _ e=>e) O (by rw[Ps];rw[show Cells.zW (pZ m) i 0 []=[] from rfl,Xu];exact G)) ?_ ?_
    .refine λj M H2 hj=>eK λL r z0 z y g a=>?_;subst z0;obtain⟨k,hk⟩:∃k,t[j]?=some k:=⟨_,XY hj⟩;have st:=Cells.Yd (p:=pZ m) (i:=i) hk;refine cS rfl rfl ⟨l,(dY rfl rfl (SqL.of (z _ _ hl)) ac (cG rfl (.inr (dZ ⟨t.toArray⟩ (cM k rfl rfl (by rw[Y];exact X6 tl (by decide)) (by rw[VY];exact qi hk) (dF rfl sg (cX rfl (.inl (SqL.of (z _ _ ah))) rfl (zc7 m) (cG rfl ?_))))))))⟩;have ab:(if false=true then !inV (V.str ⟨#[k]⟩) (m.map λc=>V.str ⟨#[c]⟩) else inV (V.str ⟨#[k]⟩) (m.map λc=>V.str ⟨#[c]⟩))=pZ m k:=zgA k m;rw[ab];have I:r.length<=200:=by
      rw[a.length,X4];have a1:=Cells.jD (pZ m) i 0 (t.take j);have a2:=Cells.qV (pZ m) 0 (N.take i) λu hu=>t8 u (Wc hu);rw[XJ]at a1 a2;lia
     by_cases U:pZ m k=true
     .rw[bw U]at st;refine qQ U (dS rfl (.inl ⟨rfl,_,SqL.of g⟩) rfl (dj rfl yD (λtq ae=>?_)));have J:=zc (o:=.tup [.int (0+(i:Int)),.int (0+(j:Int))]) ae;refine dM d rfl rfl (J _ _ g) (XE I (by decide)) (dH (r++[.ref tq]) rfl (λb o e=>?_) (λb o nb e=>?_) zb ?_)
      .rw[zj (zh e hd)];exact J _ _ (z _ _ e)
      .rw[zj nb];exact J _ _ (y b o nb e)
      .rw[st,<- W3];refine Cel.into d _ (J _ _ g) (Cel.snoc (Cel.mono J a) ⟨tq,rfl,?_⟩);rw[zb,VY,VY]
     .rw[bq U,Xu]at st;refine qu (XO.mpr U) (dH r rfl z y g ?_);rw[st];exact a
    .refine λM H2=>eK λL r z0 z _ g a=>?_;subst z0;refine cI (dG r rfl z g ?_);rw[Cells.Ye ht];rw[XF]at a;exact a
   .have af:=s1 _ _ aa;have ai:ra≠d:=zh aa hd;have Y:(t.map λc=>V.str ⟨#[c]⟩).length=t.length:=ZB _;refine .inl (dO ra rfl (.inl (SqL.of af)) ⟨_,(cJ rfl (by rw[Y];lia) (by rw[Y];lia) ?_)⟩);rw[Vv,Y];refine ja (lo:=0) (n:=t.length) (λj M x=>∃(L:Option V) (B:AE),M=[some (.ref l),some (.ref sg),some (.ref d),some (.int (0+(i:Int))),L]/\zo H x/\zml H1 x d/\x d=some (.lst B)/\Cel x B (Cells.zC (pZ m) 0 (N.take i)++Cells.zW (pZ m) i 0 (t.take j))) (dH B rfl s1 (λb o _ e=>e) O (by rw[Ps];rw[show Cells.zW (pZ m) i 0 []=[] from rfl,Xu];exact G)) ?_ ?_
    .refine λj M H2 hj=>eK λL r z0 z y g a=>?_;subst z0;obtain⟨k,hk⟩:∃k,t[j]?=some k:=⟨_,XY hj⟩;have st:=Cells.Yd (p:=pZ m) (i:=i) hk;refine cS rfl rfl ⟨l,(dY rfl rfl (SqL.of (z _ _ hl)) ac (cG rfl (.inl ⟨ra,(cI (cM (V.str ⟨#[k]⟩) rfl rfl (SqL.of (y _ _ ai af)) (by rw[VY];exact qi (by rw[XB,hk];rfl)) (dF rfl sg (cX rfl (.inl (SqL.of (z _ _ ah))) rfl (zc7 m) (cG rfl ?_)))))⟩)))⟩;have ab:(if false=true then !inV (V.str ⟨#[k]⟩) (m.map λc=>V.str ⟨#[c]⟩) else inV (V.str ⟨#[k]⟩) (m.map λc=>V.str ⟨#[c]⟩))=pZ m k:=zgA k m;rw[ab];have I:r.length<=200:=by
      rw[a.length,X4];have a1:=Cells.jD (pZ m) i 0 (t.take j);have a2:=Cells.qV (pZ m) 0 (N.take i) λu hu=>t8 u (Wc hu);rw[XJ]at a1 a2;lia
     by_cases U:pZ m k=true
     .rw[bw U]at st;refine qQ U (dS rfl (.inl ⟨rfl,_,SqL.of g⟩) rfl (dj rfl yD (λtq ae=>?_)));have J:=zc (o:=.tup [.int (0+(i:Int)),.int (0+(j:Int))]) ae;refine dM d rfl rfl (J _ _ g) (XE I (by decide)) (dH (r++[.ref tq]) rfl (λb o e=>?_) (λb o nb e=>?_) zb ?_)
      .rw[zj (zh e hd)];exact J _ _ (z _ _ e)
      .rw[zj nb];exact J _ _ (y b o nb e)
      .rw[st,<- W3];refine Cel.into d _ (J _ _ g) (Cel.snoc (Cel.mono J a) ⟨tq,rfl,?_⟩);rw[zb,VY,VY]
     .rw[bq U,Xu]at st;refine qu (XO.mpr U) (dH r rfl z y g ?_);rw[st];exact a
    .refine λM H2=>eK λL r z0 z _ g a=>?_;subst z0;refine cI (dG r rfl z g ?_);rw[Cells.Ye ht];rw[XF]at a;exact a
  .refine λM H1=>eU λv3 L B z0 s1 O G=>?_;subst z0;rw[XF]at G;exact⟨_,rfl,q d B H1 hd O G s1⟩
def zeY:Sp:=λe H Q _=>∃(a b:Addr) (c d:AA),e=[.ref a,.ref b]/\H a=some (.tup [.int (c.1:Nat),.int (c.2:Nat)])/\H b=some (.tup [.int (d.1:Nat),.int (d.2:Nat)])/\Q (.bl (Cells.near c d)) H
def zro (i j:Nat):decide ((if ((i:Nat):Int)-((j:Nat):Int)<0 then -(((i:Nat):Int)-((j:Nat):Int)) else ((i:Nat):Int)-((j:Nat):Int))<2)=decide (i<=j+1/\j<=i+1):=by
 rw[decide_eq_decide];split<;>lia
def zgC:zD ["_law_one","_law_other"] ["_law_one","_law_other"] (zp yY):=bh
def Y8 (T:Txt mg)(D:zm K mg "_law_near" yY ["_law_one","_law_other"] f fd):qc P w K mg base CX0 1 f fd ["_law_one","_law_other"] zeY:=by
 refine D.F.ok zgC (λp H Q E h=>?_) (λm A l s H p Q E o h=>?_)
 .revert h;refine e9 λa b c d z0 _=>?_;subst z0;rfl
 .revert h;refine eX λa b c d z0 g i q=>?_;subst z0;refine⟨_,(zf (zx (zkw (xF (jP o.units) (pv 0) (pv 1) (zT _)) (zkw (xF zfj (pb1 zfk T.zoB PL (zK Zq (zv jd (pv 0) zg (λ_ _=>rfl)) (zv jd (pv 1) zg (λ_ _=>rfl)))) zg (zT _)) (zo9 (xF zfj (pb1 zfk T.zoB PL (zK Zq (zv jd (pv 0) zg (λ_ _=>rfl)) (zv jd (pv 1) zg (λ_ _=>rfl)))) zg (zT _))))))),?_⟩;(try dsimp only[cxK,cxP,cxW]);have r:∀x:Bool,(x=true↔Cells.near c d=true)->Cells.near c d=x:=λx h=>WQ.mpr h.symm;have j:=Cells.yN (x:=c) (y:=d);refine cS rfl rfl (cO (zk c) (zk d) (jU.rdv ⟨a,rfl,g⟩) (jU.rdv ⟨b,rfl,i⟩) (zd1 c d) ?_);have n:(if true=true then !PyData.eqv (zk c) (zk d) else WW (zk c) (zk d))=!decide (c=d):=by
   show (!PyData.eqv _ _)=_;rw[Qs]
  rw[n];refine⟨_,rfl,?_⟩;by_cases e:c=d
  .rw[br e];refine xX ?_;have:Cells.near c d=false:=by
    rw[XO,ne_eq,j];exact λh=>h.2.2 e
   rw[this]at q;exact q
  .rw[bf e];refine Z0 ?_;refine cV rfl a 0 rfl rfl (SqT.of g) rfl (cV rfl b 0 rfl rfl (SqT.of i) rfl (cT rfl rfl (dR rfl rfl rfl ?_)));refine⟨decide (c.1<=d.1+1/\d.1<=c.1+1),congrArg V.bl (zro c.1 d.1),?_⟩;by_cases h1:c.1<=d.1+1/\d.1<=c.1+1
   .rw[br h1];refine Z0 (cV rfl a 1 rfl rfl (SqT.of g) rfl (cV rfl b 1 rfl rfl (SqT.of i) rfl (cT rfl rfl (dR rfl rfl rfl ?_))));have:Cells.near c d=decide (c.2<=d.2+1/\d.2<=c.2+1):=by
     rw[WQ,j,bu];exact⟨λh=>h.2.1,λh=>⟨h1,h,e⟩⟩
    show Q (V.bl (decide ((if ((c.2:Nat):Int)-((d.2:Nat):Int)<0 then -(((c.2:Nat):Int)-((d.2:Nat):Int)) else ((c.2:Nat):Int)-((d.2:Nat):Int))<2))) H;rw[zro,<- this];exact q
   .rw[bf h1];refine xX ?_;have:Cells.near c d=false:=by
     rw[XO,ne_eq,j];exact λh=>h1 h.1
    rw[this]at q;exact q
def fData (c1 a:AB):We:=.tuple [.list (c1.map zk),.list (a.map zk)]
def QE (c1 c:AB):zjp (fData c1 c) (fData c1 c):=by
 have h1:Uz (fData c1 c)=true:=by
  show (Uz (.list (c1.map zk))&&(Uz (.list (c.map zk))&&true))=true;rw[show Uz (.list (c1.map zk))=true from JY c1,show Uz (.list (c.map zk))=true from JY c];rfl
 refine⟨h1,h1,?_⟩;show max (VA (c1.map zk)+1) (max (VA (c.map zk)+1) 0)+1<=64;have a:=zcG c1;have b:=zcG c;lia
def jz.rdv {K:XS}{H:Hp}{b c fs:Addr}{d e:AE}{a st:AB}(x:jz H b c fs d e a st):Rdv K H (.ref b) (fData a st):=.tup (SqT.of x.tp) (.cons (.lst (SqL.of x.h1) (YF x.c1)) (.cons (.lst (SqL.of x.h2) (YF x.c2)) .nil))
def zn6:Sp:=λa H Q _=>∃(c k:Int),a=[.int c,.int k]/\∀z:Int,Q (.int z) H
def marks:List Nat:=[35,111,99,46]
def zqe:Sp:=λa H Q _=>∃(x o m:Int) (r:Bool),a=[.int x,.int o,.int m,.bl r]/\0<o/\∀k:Nat,k∈marks->(r=false->k≠111/\k≠99)->Q (.str ⟨#[k]⟩) H
def zrp:("o":Str)=⟨#[111]⟩:=by decide+kernel
def zr6:("c":Str)=⟨#[99]⟩:=by decide+kernel
def zr7:(".":Str)=⟨#[46]⟩:=by decide+kernel
def Yv:zD ["_law_cell","_law_k","_law_drawn_here"] ["_law_cell","_law_k"] (zp xQ):=bh
def zeZ (D:zm K mg "_law_mixed" xQ ["_law_cell","_law_k"] f fd):qc P w K mg base CX0 1 f fd ["_law_cell","_law_k"] zn6:=by
 refine D.F.ok Yv (λe H Q E h=>?_) (λb A a s H e Q E l h=>?_)
 .obtain⟨c,i,rfl,_⟩:=h;rfl
 .revert h;refine eO λc i z0 k=>?_;subst z0;refine⟨_,(ze (jf 2 Yv.nd (zK yU (zK ZZ (zK ZZ (zK yU (pv 0) zg) (@zK _ _ _ _ _ _ _ _ Z1 zg (pv 1))) zg) zg)) (ze (jf 2 Yv.nd (zK yU (zK Z1 (zK yU (zK Z1 (pv 2) (pv 2)) zg) zg) zg)) (zf (zx (zK JL (pv 2) zg))))),?_⟩;(try dsimp only[cxK,cxP,cxW]);refine cG rfl (dB rfl rfl (by show (0:Int)<2147483629;decide) (cG rfl (dB rfl rfl (mulL (by decide) (by decide)) (cT rfl rfl (cT rfl rfl (dB rfl rfl (by show (0:Int)<2147483647;decide) ?_))))));have g:=Ui (c%2147483629+7919*i+11) (show (2147483647:Int)≠0 by decide);have j:=Tj (c%2147483629+7919*i+11) (show (0:Int)<2147483647 by decide);generalize (c%2147483629+7919*i+11)%2147483647=d at *
  refine cS rfl rfl (cI (dX rfl rfl (mulL (by lia) (by lia)) (dX rfl rfl (by show (0:Int)<2147483647;decide) (dX rfl rfl (zqT (by decide) (by decide)) (cJ rfl rfl (by show (0:Int)<2147483587;decide) ?_)))));exact cG rfl (dB rfl rfl (YM.small (by decide) (by decide)) (k _))
def zgD:zD ["_law_drawn_here","_law_often","_law_many","_law_room"] ["_law_drawn_here","_law_often","_law_many","_law_room"] (zp JX):=bh
def zgE (D:zm K mg "_law_mark" JX ["_law_drawn_here","_law_often","_law_many","_law_room"] f fd):qc P w K mg base CX0 1 f fd ["_law_drawn_here","_law_often","_law_many","_law_room"] zqe:=by
 refine D.F.ok zgD (λj H Q E h=>?_) (λc A a s H j Q E l h=>?_)
 .obtain⟨x,o,m,r,rfl,_⟩:=h;rfl
 .revert h;refine eH λx o m r=>eN λz0 d q=>?_;subst z0;refine⟨_,(ze (qJ (jY YI (zK yU (zK JL (pv 0) zg) zg) zg (zT _)) (@zf _ _ _ (@zx _ _ _ _ qC)) qa) (ze (qJ (PW.pt (za1 (YL (pv 3) (λ_=>rfl)) (Qj (jY YI (zK yU (zK yU (pv 0) zg) (pv 1)) zg (zT _))))) (@zf _ _ _ (@zx _ _ _ _ qC)) qa) (ze (qJ (PW.pt (za1 (YL (pv 3) (λ_=>rfl)) (Qj (jY zfj (zK yU (zK JL (pv 0) zg) zg) (pv 2) (zT _))))) (@zf _ _ _ (@zx _ _ _ _ qC)) qa) (@zf _ _ _ (@zx _ _ _ _ qC))))),?_⟩;(try dsimp only[cxK,cxP,cxW]);have e:Q (.str "#") H:=by
   rw[Ze];exact q 35 (by decide) (λ_=>⟨by decide,by decide⟩)
  have b:Q (.str ".") H:=by
   rw[zr7];exact q 46 (by decide) (λ_=>⟨by decide,by decide⟩)
  refine cG rfl (cI (dX rfl rfl (YM.small (by decide) (by decide)) (cX rfl rfl (by show (0:Int)<13;decide) rfl (cG rfl (zg1 (λ_=>e) (λ_=>?_))))));cases r with
  | false =>
   refine cS rfl rfl (xX (xX ?_));exact cS rfl rfl (xX (xX b))
  | true =>
   have g:Q (.str "o") H:=by
    rw[zrp];exact q 111 (by decide) (λh=>nomatch h)
   have i:Q (.str "c") H:=by
    rw[zr6];exact q 99 (by decide) (λh=>nomatch h)
   refine cS rfl rfl (Z0 (cG rfl (dB rfl rfl (by show (0:Int)<64;decide) (cG rfl (dQ rfl rfl d rfl (cG rfl (zg1 (λ_=>g) (λ_=>?_))))))));exact cS rfl rfl (Z0 (cG rfl (cI (dX rfl rfl (YM.small (by decide) (by decide)) (cJ rfl rfl (by show (0:Int)<5;decide) (dR rfl rfl rfl (cG rfl (zg1 (λ_=>i) (λ_=>b)))))))))
def zr8 (H:Hp)(v:V)(t:List Nat):Prop:=∃a,v=V.ref a/\H a=some (.lst (t.map λc=>V.str ⟨#[c]⟩))
def Jb (H:Hp):AE->List (List Nat)->Prop:=Xy (zr8 H)
theorem Jb.mono {H b:Hp}(s:zo H b):∀{vs:AE} {gs:List (List Nat)},Jb H vs gs->Jb b vs gs
 | _,_,.nil=>.nil
 | _,_,.cons ⟨a,e,h⟩ t=>.cons ⟨a,e,s _ _ h⟩ (Jb.mono s t)
theorem Jb.keep {H c:Hp}{d:Addr}(k:∀b o,b≠d->H b=some o->c b=some o):∀{vs:AE} {gs:List (List Nat)},Jb H vs gs->(∀v∈vs,v≠V.ref d)->Jb c vs gs
 | _,_,.nil,_=>.nil
 | _,_,.cons ⟨a,e,h⟩ t,f=>.cons ⟨a,e,k a _ (λz=>f _ XR (by rw[e,z])) h⟩ (Jb.keep k t λv g=>f v (XV _ g))
def Jb.grid {H:Hp}{vs:AE}{gs:List (List Nat)}(h:Jb H vs gs):x6 H vs gs:=Paired.imp' (λ_ _ z=>.inr z) h
theorem zb6 {H:Hp}:∀{vs:AE} {gs:List (List Nat)} {i:Nat} {t:List Nat},Jb H vs gs->gs[i]?=some t->∃a,vs[i]?=some (V.ref a)/\H a=some (.lst (t.map λc=>V.str ⟨#[c]⟩))
 | _,_,_,_,.nil,e=>by simp at e
 | _,_,0,_,.cons ⟨a,r,h⟩ _,e=>by
  simp at e;subst e;exact⟨a,by rw[r];rfl,h⟩
 | _,_,i+1,t,.cons _ q,e=>by
  obtain⟨c,h1,h2⟩:=zb6 (i:=i) (t:=t) q (by simpa using e);exact⟨c,by simpa using h1,h2⟩
def qW (k:Nat):Bool:=decide (k=111) || decide (k=99)
def zbo (t:List Nat):Nat:=(t.filter qW).length
def zaS (gs:List (List Nat)):Nat:=(gs.map zbo).sum
def zei (t:List Nat)(k:Nat):zbo (t++[k])=zbo t+(if qW k=true then 1 else 0):=by
 unfold zbo;rw[WZ,X4,WJ];split<;>rfl
def zkm (gs:List (List Nat))(t:List Nat):zaS (gs++[t])=zaS gs+zbo t:=by
 unfold zaS;rw[Xs,List.sum_append];simp
structure yC (gs:List (List Nat)):Prop where
 lo:1<=gs.length
 hi:gs.length<=8
 ex:∃n,1<=n/\n<=8/\∀t∈gs,t.length=n/\∀k∈t,k∈marks
 few:zaS gs<=11
def zi2 (K:XS):Sp:=λg H Q _=>∃(a:Addr) (f:List Int),g=[.ref a,.int 64,.int 11]/\SqL K H a (f.map V.int) /\
 ∀(d:Addr) (e:AE) (c:List (List Nat)) (b:Hp),H d=none->b d=some (.lst e)->Jb b e c->yC c->zo H b->Q (.ref d) b
def mr8 (x:Int):1<=1+x%8/\1+x%8<=8:=by
 have a:=Ui x (show (8:Int)≠0 by decide);have b:=Tj x (show (0:Int)<8 by decide);lia
def m16 {x:Int}(h1:1<=x)(a:x<=8):(0:Int)<(if 64/x<8 then 64/x else 8):=by
 have h:x=1\/x=2\/x=3\/x=4\/x=5\/x=6\/x=7\/x=8:=by lia
 rcases h with rfl | rfl | rfl | rfl | rfl | rfl | rfl | rfl<;>decide
def wd (c0 c1:Int):Int:=1+c1/8%(if 64/(1+c0%8)<8 then 64/(1+c0%8) else 8)
def zqf {c0 c1:Int}(_:Int)(h1:1<=1+c0%8)(d:1+c0%8<=8):1<=wd c0 c1/\wd c0 c1<=8:=by
 have m:=m16 h1 d;have a:=Ui (c1/8) (Int.ne_of_gt m);have b:=Tj (c1/8) m;unfold wd;have c:(if 64/(1+c0%8)<8 then 64/(1+c0%8) else 8)<=8:=by split<;>lia
 lia
def zn7:∀k∈marks,([PyData.str "o",PyData.str "c"].any λz=>WW z (.str ⟨#[k]⟩))=qW k:=by decide+kernel
def zmm:∀k∈marks,Uz (.str ⟨#[k]⟩)=true:=by decide+kernel
def zmn {α:Type}(xs:List α)(v:α):atI (xs++[v]) (-1)=some v:=by
 have a:(xs++[v]).length=xs.length+1:=by simp
 have e:ixN (xs.length+1) (-1)=some xs.length:=by
  unfold ixN;rw[bq (by decide),bw (by lia)];congr 1;lia
 unfold atI;rw[a,e];show (xs++[v])[xs.length]?=some v;simp
def qk:zD ["_law_script","_law_most","_law_limit","_law_high","_law_wide","_law_often","_law_many","_law_marks","_law_shut","_law_row","_law_line","_law_column","_law_place","_law_drawn_here"] ["_law_script","_law_most","_law_limit"] (zp Zi):=bh
def ze0 {f1 f2 f3:Addr}{ac ai aj:XC}(T:Txt mg)(D:zm K mg "_law_drawn" Zi ["_law_script","_law_most","_law_limit"] f fd)(qZ:zm K mg "_law_cell_at" j9 ["_law_script","_law_k"] f1 ac)(Zp:zm K mg "_law_mixed" xQ ["_law_cell","_law_k"] f2 ai)(Yw:zm K mg "_law_mark" JX ["_law_drawn_here","_law_often","_law_many","_law_room"] f3 aj):qc P w K mg base CX0 2 f fd ["_law_script","_law_most","_law_limit"] (zi2 K):=by
 have yg:qc P w K mg base CX0 1 f1 ac ["_law_script","_law_k"] (zlG K):=zcE T qZ;refine D.F.ok qk (λvs H Q E h=>?_) (λan A al s H vs Q E L h=>?_)
 .obtain⟨a,ns,rfl,_⟩:=h;rfl
 .revert h;refine eF λa ns z0 hS q=>?_;subst z0;refine⟨_,(@ze _ _ _ _ _ (@qh _ _ 3 _ _ _ _ qk.nd rfl (V2 rfl) (@zK _ _ _ _ _ _ _ _ ZZ zg (zK yU (pc0 yg L qZ (za (pv 0) (@za _ _ _ _ _ zg zd rfl))) (Zv (Qk rfl) (by rfl) T.zf4 UU (@za _ _ _ _ _ zg (za (pv 1) zd) rfl)))) (by rfl) (.inr rfl)) (@ze _ _ _ _ _ (@qh _ _ 4 _ _ _ _ qk.nd rfl (V2 rfl) (@zK _ _ _ _ _ _ _ _ ZZ zg (zK yU (zK JL (pc0 yg L qZ (za (pv 0) (@za _ _ _ _ _ zg zd rfl))) zg) (Zv (Qk rfl) (by rfl) T.zf4 UU (@za _ _ _ _ _ zg (za (zK JL (pv 1) (pv 3)) zd) rfl)))) (by rfl) (.inr rfl)) (@ze _ _ _ _ _ (@qh _ _ 5 _ _ _ _ qk.nd rfl (V2 rfl) (@zK _ _ _ _ _ _ _ _ ZZ zg (zK yU (pc0 yg L qZ (za (pv 0) (@za _ _ _ _ _ zg zd rfl))) zg)) (by rfl) (.inr rfl)) (ze (jf 6 qk.nd (zK yU (zK JL (pc0 yg L qZ (za (pv 0) (@za _ _ _ _ _ zg zd rfl))) zg) zg)) (@ze _ _ _ _ _ (@qh _ _ 7 _ _ _ _ qk.nd rfl (V2 rfl) (@zO _ _ _ _ zd) (by rfl) (.inr rfl)) (@ze _ _ _ _ _ (@qh _ _ 8 _ _ _ _ qk.nd rfl (V2 rfl) zg (by rfl) (.inr rfl)) (ze (qx Xc rfl (prg T.j4 (pv 3)) (pgq 9 qk.nd) (@ze _ _ _ _ _ (@qh _ _ 10 _ _ _ _ qk.nd rfl (V2 rfl) (@zO _ _ _ _ zd) (by rfl) (.inr rfl)) (ze (qx Xc rfl (prg T.j4 (pv 4)) (pgq 11 qk.nd) (@ze _ _ _ _ _ (@qh _ _ 12 _ _ _ _ qk.nd rfl (V2 rfl) (@zK _ _ _ _ _ _ _ _ ZZ (@zK _ _ _ _ _ _ _ _ Z1 zg (pv 9)) (pv 11)) (by rfl) (.inr rfl)) (ze (jf 13 qk.nd (pc0 (zeZ Zp) L Zp (za (pc0 yg L qZ (za (pv 0) (@za _ _ _ _ _ (@zK _ _ _ _ _ _ _ _ ZZ zg (zK yU (pv 12) zg)) zd rfl))) (za (pv 12) zd)))) (ze (jj (yH W7 WI WH JC (pv 10) (za (pc0 (zgE Yw) L Yw (za (pv 13) (za (pv 5) (za (pv 6) (za (xF zfj (pv 8) (pv 2) (zT _)) zd))))) zd))) (zf (jf 8 qk.nd (zK ZZ (pv 8) (pt1 zjg T.zlD SM (xF (zjD L.units) (zv xG (pv 10) (zqJ zpg zg) (λ_ _=>rfl)) (@ql _ _ _ _ _ (@za _ _ _ _ _ qC (@za _ _ _ _ _ qC zd rfl) rfl)) (by rfl)))))))))) (zf (jj (yH W7 WI WH JC (pv 7) (za (pv 10) zd))))))) (zf (zx (pv 7)))))))))),?_⟩;(try dsimp only[cxK,cxP,cxW]);refine cG rfl (dw a ns (cJ rfl hS (by decide) (λc0=>(cG rfl (cN 8 64 ⟨rfl,(dB rfl rfl (by show (0:Int)<8;decide) (cT rfl rfl ?_))⟩)))));obtain⟨h1,h8⟩:=mr8 c0;refine cG rfl (dw a ns (cJ rfl hS (by decide) (λc1=>(dB rfl rfl (YM.small (by decide) (by decide)) (cS rfl rfl (dB rfl rfl (YM.small (by show (0:Int)<1+c0%8;lia) (by show 1+c0%8<_;exact Int.lt_of_le_of_lt h8 (by decide))) ⟨8,(cG rfl (dB rfl rfl ?_ (cT rfl rfl ?_)))⟩))))))
  .show (0:Int)<(if 64/(1+c0%8)<8 then 64/(1+c0%8) else 8);exact m16 h1 h8
  obtain⟨w1,w8⟩:=zqf (c0:=c0) (c1:=c1) 0 h1 h8;refine cG rfl (dw a ns (cJ rfl hS (by decide) (λc2=>(dB rfl rfl (by show (0:Int)<5;decide) (cT rfl rfl ?_)))));have o0:=Ui c2 (show (5:Int)≠0 by decide);refine cG rfl (dw a ns (cJ rfl hS (by decide) (λc3=>(cI (dX rfl rfl (YM.small (by decide) (by decide)) (cJ rfl rfl (by show (0:Int)<5;decide) ?_))))));refine⟨jR,λd hd=>?_⟩;have s0:=zc (o:=.lst []) hd;refine cG rfl (dG (1+c0%8) rfl (by lia) (by lia) ?_);refine ja (lo:=0) (n:=(1+c0%8).toNat) (λi σ H'=>∃(v9 ab l m p:Option V) (M:AE) (g:List (List Nat)),σ=[some (.ref a),some (.int 64),some (.int 11),some (.int (1+c0%8)),some (.int (wd c0 c1)),some (.int (2+c2%5)),some (.int (c3/5%5)),some (.ref d),some (.int ((zaS g:Nat):Int)),v9,ab,l,m,p]/\zo H H'/\H' d=some (.lst M)/\Jb H' M g/\(∀v∈M,v≠V.ref d)/\g.length=i/\(∀t∈g,t.length=(wd c0 c1).toNat/\∀k∈t,k∈marks)/\zaS g<=11) (cI (dh (cU [] [] rfl s0 zb (.nil) (cJ (λ_ h=>nomatch h) rfl (λ_ h=>nomatch h) (by decide))))) ?_ ?_
  .refine λi σ H1 hi=>fG λv9 ab l m p M g z0 s1 G hM=>eZ λO gl N B=>?_;subst z0;refine⟨jR,λy I=>?_⟩;have z2:=zc (o:=.lst []) I;refine cG rfl (dG (wd c0 c1) rfl (by lia) (by lia) ?_);refine ja (lo:=0) (n:=(wd c0 c1).toNat) (λj σ H'=>∃(l m p:Option V) (t:List Nat),σ=[some (.ref a),some (.int 64),some (.int 11),some (.int (1+c0%8)),some (.int (wd c0 c1)),some (.int (2+c2%5)),some (.int (c3/5%5)),some (.ref d),some (.int (((zaS g+zbo t):Nat):Int)),some (.int (0+(i:Int))),some (.ref y),l,m,p]/\zo H1 H'/\H' y=some (.lst (t.map λc=>V.str ⟨#[c]⟩))/\t.length=j/\(∀k∈t,k∈marks)/\zaS g+zbo t<=11) (dh (dg [] rfl z2 zb rfl (λ_ h=>nomatch h) B)) ?_ ?_
   .refine λj σ H2 hj=>fz λl m p t z0 s2 r tl aa ae=>?_;subst z0;have am:=s1.trans s2;refine cG rfl (dB rfl rfl (mulL (by decide) (by decide)) (dR rfl rfl rfl ?_));have p0:=Ui (8*(0+(i:Int))+(0+(j:Int))) (show (58:Int)≠0 by decide);refine cS rfl rfl (dB rfl rfl (by show (0:Int)<58;decide) (cT rfl rfl (dw a ns (cJ rfl (am.seq hS) (by show (0:Int)<=4+(8*(0+(i:Int))+(0+(j:Int)))%58;lia) (λcc=>(cG rfl (cI ⟨rfl,λdr=>?_⟩)))))));refine dj rfl (.inl ⟨rfl,_,SqL.of r⟩) (cS rfl rfl (cS rfl rfl (dR rfl rfl rfl (cI (cT rfl (by show (0:Int)<2+c2%5;lia) (λk hk U=>?_))))));refine dM y rfl rfl r ?_ ?_
    .rw[ZB];exact XE (show _<=8 by lia) (by decide)
    have t1:(t++[k]).map (λc=>V.str ⟨#[c]⟩)=t.map (λc=>V.str ⟨#[c]⟩)++[V.str ⟨#[k]⟩]:=by rw[Xs];rfl
    have J:upd H2 y (.lst (t.map (λc=>V.str ⟨#[c]⟩)++[V.str ⟨#[k]⟩])) y=some (.lst (t.map (λc=>V.str ⟨#[c]⟩)++[V.str ⟨#[k]⟩])):=zb;have s3:zo H1 (upd H2 y (.lst (t.map (λc=>V.str ⟨#[c]⟩)++[V.str ⟨#[k]⟩]))):=λb o e=>by
     rw[zj (zh e I)];exact s2 _ _ e
    generalize upd H2 y (.lst (t.map (λc=>V.str ⟨#[c]⟩)++[V.str ⟨#[k]⟩]))=H3 at *
    refine cS rfl rfl (cG rfl ⟨y,(cI (dg (V.str ⟨#[k]⟩) rfl rfl (SqL.of J) (zmn _ _) yD (λtp ak=>?_)))⟩);have z4:=zc (o:=.tup [V.str "o",V.str "c"]) ak;refine cZ (.str ⟨#[k]⟩) [.str "o",.str "c"] (.str _) (.tup (SqT.of zb) (.cons (.str _) (.cons (.str _) .nil))) (zmm k hk) (by decide+kernel) (by show 0<=60;decide) ?_;rw[zn7 k hk];refine .inr (dR rfl rfl rfl ?_);have ec:((zaS g+zbo t:Nat):Int)+(if qW k=true then 1 else 0)=((zaS g+zbo (t++[k]):Nat):Int):=by
     rw[zei];split<;>lia
    refine cL (some (.int (0+(j:Int)))) (some (.int (8*(0+(i:Int))+(0+(j:Int))))) (some (.int dr)) (t++[k]) (cQ ?_ (s3.trans z4) ?_ (by rw[X4,tl];rfl) (λx hx=>?_) ?_)
    .show [_,_,_,_,_,_,_,_,some (V.int (((zaS g+zbo t:Nat):Int)+(if qW k=true then 1 else 0))),_,_,_,_,_]=_;rw[ec]
    .rw[t1];exact z4 _ _ J
    .rcases XM.mp hx with h | h
     .exact aa x h
     .have:x=k:=by simpa using h
      rw[this];exact hk
    .rw[zei];split
     .rename_i Y;have ao:((zaS g+zbo t:Nat):Int)<11:=by
       refine UT λhc=>?_;have hf:=U (bf hc);unfold qW at Y;rw[bf hf.1,bf hf.2]at Y;cases Y
      lia
     .lia
   .refine λσ H2=>fz λl m p t z0 s2 r tl aa ae=>?_;subst z0;have af:=s2 _ _ G;have ah:y≠d:=λz=>by
     rw[z,G]at I;cases I
    have ul:M.length=g.length:=Paired.length hM;refine dS rfl (.inl ⟨rfl,_,SqL.of af⟩) rfl (dM d rfl rfl af ?_ ?_)
    .exact XE (show _<=8 by lia) (by decide)
    have ag:=zkm g t;refine cL (some (.int (0+(i:Int)))) (some (.ref y)) l m (dI p (M++[.ref y]) (g++[t]) ?_ (λb o e=>?_) zb ?_ (cJ (λv hv=>?_) (by rw[X4,gl];rfl) (λu hu=>?_) (by rw[ag];exact ae)))
    .rw[ag]
    .rw[zj (zh e hd)];exact s2 _ _ (s1 _ _ e)
    .refine Paired.snoc (Jb.keep (d:=d) (λb o nb e=>by rw[zj nb];exact s2 _ _ e) hM O) ⟨y,rfl,?_⟩;rw[zj ah];exact r
    .rcases XM.mp hv with h | h
     .exact O v h
     .have:v=V.ref y:=by simpa using h
      rw[this];exact λz=>ah (V.ref.inj z)
    .rcases XM.mp hu with h | h
     .exact N u h
     .have:u=t:=by simpa using h
      rw[this];exact⟨tl,aa⟩
  .refine λσ H1=>fG λv9 ab l m p M g z0 s1 G hM=>eZ λO gl N B=>?_;subst z0;exact⟨_,rfl,q d M g H1 hd G hM ⟨by lia,by lia,⟨(wd c0 c1).toNat,by lia,by lia,N⟩,B⟩ s1⟩
def yC.t8 {gs:List (List Nat)}(M:yC gs):∀t∈gs,t.length<=8:=λt b=>by
 obtain⟨n,_,a,h⟩:=M.ex;rw[(h t b).1];exact a
def dlt (c x:AA):AA:=(x.1+1-c.1,x.2+1-c.2)
def zi3:AB:=[(0,0),(0,1),(0,2),(1,0),(1,2),(2,0),(2,1),(2,2)]
def zmo {a b:Nat}(d:a<3)(e:b<3)(h:¬ (a=1/\b=1)):(a,b)∈zi3:=by
 have c:∀a b:Fin 3,¬ (a=1/\b=1)->(a.1,b.1)∈zi3:=by decide
 exact c ⟨a,d⟩ ⟨b,e⟩ λz=>h ⟨congrArg Fin.val z.1,congrArg Fin.val z.2⟩
def Y9 {p:Nat->Bool}(gs:List (List Nat))(c:AA):((Cells.zC p 0 gs).filter λx=>Cells.near x c).length<=8:=by
 have n:=(qw (Cells.yW p 0 gs)).sublist (Xr (p:=λx=>Cells.near x c));have d:∀x∈(Cells.zC p 0 gs).filter (λx=>Cells.near x c),(x.1<=c.1+1/\c.1<=x.1+1)/\(x.2<=c.2+1/\c.2<=x.2+1)/\¬ x=c:=λx f=>(Cells.yN x c).mp (X5.mp f).2;generalize (Cells.zC p 0 gs).filter (λx=>Cells.near x c)=L at *
 have o:(L.map (dlt c)).Nodup:=by
  refine Wd.mpr (n.imp_of_mem λ{a b} g i j e=>j ?_);obtain⟨q,r,_⟩:=d a g;obtain⟨s,u,_⟩:=d b i;have v:a.1+1-c.1=b.1+1-c.1:=congrArg Prod.fst e;have w:a.2+1-c.2=b.2+1-c.2:=congrArg Prod.snd e;exact Oz (by lia) (by lia)
 have m:∀y∈L.map (dlt c),y∈zi3:=λy l=>by
  obtain⟨x,f,rfl⟩:=XN.mp l;obtain⟨a,b,h⟩:=d x f;exact zmo (by lia) (by lia) λz=>h (Oz (by lia) (by lia))
 have:=((WD o ((by decide:zi3.Nodup).sublist (Xr (p:=λy=>decide (y∈L.map (dlt c)))))).mpr λy=>by
  rw[X5,bu];exact⟨λz=>⟨m y z,z⟩,λz=>z.2⟩).length_eq
 rw[ZB]at this;rw[this];exact Xw _ _
def zr9:∀d:Nat,d<9->((toString (d:Int):String):Str)=⟨#[48+d]⟩/\48+d∈bd.cps.toList/\x9 (48+d)=false:=by decide+kernel
def stM (gs:List (List Nat)):AB:=Cells.zC (pZ [111]) 0 gs
def nrM (gs:List (List Nat))(i j:Nat):AB:=(stM gs).filter λx=>Cells.near x (i,j)
def QG (gs:List (List Nat))(i j k:Nat):Nat:=if k=46 then 48+(nrM gs i j).length else if qW k=true then 63 else k
def zgF (gs:List (List Nat))(i:Nat)(t:List Nat):List Nat:=t.mapIdx (QG gs i)
def YG (gs:List (List Nat)):List (List Nat):=gs.mapIdx (zgF gs)
def zbE {α a:Type}(f:Nat->α->a){t:List α}{j:Nat}{k:α}(h:t[j]?=some k):(t.take (j+1)).mapIdx f=(t.take j).mapIdx f++[f j k]:=by
 obtain⟨b,e⟩:=XX.mp h;rw[Xb,h,List.mapIdx_append];simp only[Option.toList_some,Rq,List.mapIdx_nil,XJ];rw[Wa,Nat.min_eq_left (by lia)]
theorem Yx {p q:Nat->Bool}{f:Nat->Nat->Nat}(i:Nat)(b:∀m c,p (f m c)=q c):∀(j m:Nat) (t:List Nat),Cells.zW p i j (t.mapIdx λa=>f (a+m))=Cells.zW q i j t
 | _,_,[]=>rfl
 | j,m,c::r=>by
  rw[Rq,Cells.zW,Cells.zW,b];have:=Yx i b (j+1) (m+1) r;have e:(λa=>f (a+(m+1)))=λa=>f (a+1+m):=by
   funext a;congr 1;lia
  rw[e]at this;rw[this]
theorem Yy {p q:Nat->Bool}{f:Nat->List Nat->List Nat}(b:∀m i t,Cells.zW p i 0 (f m t)=Cells.zW q i 0 t):∀(i m:Nat) (gs:List (List Nat)),Cells.zC p i (gs.mapIdx λa=>f (a+m))=Cells.zC q i gs
 | _,_,[]=>rfl
 | i,m,t::r=>by
  rw[Rq,Cells.zC,Cells.zC,b];have:=Yy b (i+1) (m+1) r;have e:(λa=>f (a+(m+1)))=λa=>f (a+1+m):=by
   funext a;congr 1;lia
  rw[e]at this;rw[this]
def zkn (gs:List (List Nat))(i j k:Nat):x9 (QG gs i j k)=(qW k || decide (k=63)):=by
 unfold QG;have a:(nrM gs i j).length<=8:=Y9 gs (i,j);by_cases h1:k=46
 .rw[bw h1,h1];show decide (48+(nrM gs i j).length=63)=false;exact bf (by lia)
 .rw[bq h1];by_cases h2:qW k=true
  .rw[bw h2,h2];rfl
  .rw[bq h2,XO.mpr h2];rfl
def zc8 {gs:List (List Nat)}:Cells.zC x9 0 (YG gs)=Cells.zC (λk=>qW k || decide (k=63)) 0 gs:=by
 have h:=Yy (p:=x9) (q:=λk=>qW k || decide (k=63)) (f:=zgF gs) (λm i t=>Yx (f:=QG gs m) i (λa c=>zkn gs m a c) 0 0 t) 0 0 gs;exact h
theorem zej (i:Nat):∀(j:Nat) (t:List Nat),(∀k∈t,k∈marks)->(Cells.zW (λk=>qW k || decide (k=63)) i j t).length=zbo t
 | _,[],_=>rfl
 | j,c::r,h=>by
  have b:=zej i (j+1) r λk hk=>h k (XV _ hk);have d:∀k∈marks,(qW k || decide (k=63))=qW k:=by decide
  have e:=d c (h c XR);unfold zbo at b ⊢;rw[Cells.zW,WJ];by_cases a:qW c=true
  .rw[bw a,bw (e.trans a),X4,Xo,Xo,VN,b];lia
  .rw[bq a,bq (by rw[e];exact a),P1,b]
theorem zek:∀(i:Nat) (gs:List (List Nat)),(∀t∈gs,∀k∈t,k∈marks)->(Cells.zC (λk=>qW k || decide (k=63)) i gs).length=zaS gs
 | _,[],_=>rfl
 | i,t::r,h=>by
  have a:=zek (i+1) r λu b=>h u (XV _ b);have e:=zej i 0 t (h t XR);unfold zaS at a ⊢;rw[Cells.zC,X4,XD,Sw,a,e]
def yC.few9 {gs:List (List Nat)}{rs:AD}(M:yC gs)(h:codes rs=YG gs):(zH rs).length<=11:=by
 unfold zH;obtain⟨n,_,_,a⟩:=M.ex;rw[h,zc8,zek 0 gs λt b=>(a t b).2];exact M.few
def yC.rows {gs:List (List Nat)}{rs:AD}(M:yC gs)(h:codes rs=YG gs):Rows bd.cps.toList rs:=by
 have g:rs.length=gs.length:=by
  have e:(codes rs).length=(YG gs).length:=by rw[h]
  rw[jc]at e;unfold YG at e;rw[Wb]at e;exact e
 obtain⟨n,u,v,q⟩:=M.ex;refine⟨by rw[g];exact M.lo,by rw[g];exact M.hi,n,u,v,λt r=>?_⟩;have l:t.cps.toList∈YG gs:=by
  rw[<- h];exact List.mem_map_of_mem r
 unfold YG at l;obtain⟨i,o,e⟩:=List.mem_mapIdx.mp l;have f:=q gs[i] (Uy o);refine⟨?_,λk hk=>?_⟩
 .have c:t.cps.toList.length=n:=by
   rw[<- e];unfold zgF;rw[Wb,f.1]
  rw[XZ]at c;exact c
 .rw[<- e]at hk;unfold zgF at hk;obtain⟨j,p,m⟩:=List.mem_mapIdx.mp hk;have s:=f.2 _ (Uy p);have w:(nrM gs i j).length<=8:=Y9 gs (i,j);rw[<- m];unfold QG;split
  .have:∀d:Nat,d<9->48+d∈bd.cps.toList:=by decide+kernel
   exact this _ (by lia)
  .split
   .decide+kernel
   .rename_i a b;have:∀k∈marks,k≠46->qW k≠true->k∈bd.cps.toList:=by decide+kernel
    exact this _ s a b
def zgG:Sp:=λf H Q _=>∃(d:Addr) (e:AE) (a:List (List Nat)),f=[.ref d]/\H d=some (.lst e)/\Jb H e a/\yC a /\
 ∀(p l:Addr) (c:AD) (b:Hp),H p=none->H l=none->qj b p l c ((stM a).length:Nat)->codes c=YG a->zo H b->Q (.ref p) b
def zqg:∀k∈marks,k≠46->(jb (Z5 [] [(.inr "o",V.str "?"),(.inr "c",V.str "?")]) (.inr ⟨#[k]⟩)).getD (V.str ⟨#[k]⟩)=V.str ⟨#[if qW k=true then 63 else k]⟩:=by
 intro k hk h;have a:k=35\/k=111\/k=99\/k=46:=by simpa[marks] using hk
 rcases a with rfl | rfl | rfl | rfl
 .rfl
 .rfl
 .rfl
 .exact absurd rfl h
def zqh:∀d:Nat,d<9->(jb (Z5 [] [(.inr "o",V.str "?"),(.inr "c",V.str "?")]) (.inr ⟨#[48+d]⟩)).getD (V.str ⟨#[48+d]⟩)=V.str ⟨#[48+d]⟩:=by
 intro d b;have a:d=0\/d=1\/d=2\/d=3\/d=4\/d=5\/d=6\/d=7\/d=8:=by lia
 rcases a with rfl | rfl | rfl | rfl | rfl | rfl | rfl | rfl | rfl<;>rfl
def qX:zD ["_law_marks","_law_stones","_law_rows","_law_row","_law_text","_law_column","_law_sign"] ["_law_marks"] (zp Zj):=bh
def ze1 {f1 f2:Addr}{aw ax:XC}(T:Txt mg)(D:zm K mg "_law_board" Zj ["_law_marks"] f fd)(qH:zm K mg "_law_near" yY ["_law_one","_law_other"] f1 aw)(qg:zm K mg "_law_cells" yw ["_law_rows","_law_signs"] f2 ax):qc P w K mg base CX0 2 f fd ["_law_marks"] zgG:=by
 refine D.F.ok qX (λvs H Q E h=>?_) (λaD A a7 s H vs Q E hr h=>?_)
 .revert h;refine fB λd us g z0 _=>?_;subst z0;rfl
 .revert h;refine e7 λd us g z0 hd hM M q=>?_;subst z0;refine⟨_,(ze (jf 1 qX.nd (pc0 (Yu T qg) hr qg (za (pv 0) (@za _ _ _ _ _ (@zO _ _ _ _ (@za _ _ _ _ _ qC zd rfl)) zd rfl)))) (@ze _ _ _ _ _ (@qh _ _ 2 _ _ _ _ qX.nd rfl (V2 rfl) (@zO _ _ _ _ zd) (by rfl) (.inr rfl)) (ze (qx Xc rfl (prg T.j4 (pb1 qo T.qK Xj (pv 0))) (pgq 3 qX.nd) (@ze _ _ _ _ _ (@qh _ _ 4 _ _ _ _ qX.nd rfl (V2 rfl) qC (by rfl) (.inr rfl)) (ze (qx Xc rfl (prg T.j4 (pb1 qo T.qK Xj (zv xG (pv 0) (pv 3) (λ_ _=>rfl)))) (pgq 5 qX.nd) (ze (jf 6 qX.nd (zv xG (zv xG (pv 0) (pv 3) (λ_ _=>rfl)) (pv 5) (λ_ _=>rfl))) (zbU (qJ (jY YI (pv 6) qC (zT _)) (zf (jf 6 qX.nd (pt1 zaj T.zoC PM (pb1 qo T.qK Xj (pcm ["_law_one","_law_row","_law_column"] [none,some 3,some 5] cR (zw (pv 1)) (pgN 0) (zU (yq (K:=K) (by rfl) (pc0 (Y8 T qH) hr qH (za (pv 0) (za (ql (za (pv 1) (za (pv 2) zd))) zd))) (λ_=>rfl))) (pv 0)))))) qa) (zf (jf 4 qX.nd (zK zgY (pv 4) (zci (u1 hr.units) (zne (zfC qC qC (zfC qC qC znd)) rfl rfl (by simp) (by decide)) (pv 6) (pv 6) ⟨rfl,rfl,rfl,rfl⟩))))))) (zf (jj (yH W7 WI WH JC (pv 2) (za (pv 4) zd))))))) (zf (zx (ql (za (pv 2) (za (pb1 qo T.qK Xj (pv 1)) zd)))))))),?_⟩;(try dsimp only[cxK,cxP,cxW]);have ul:us.length=g.length:=Paired.length hM;have g8:=M.hi;refine dj rfl sz_1 (λsg a3=>?_);have z1:=zc (o:=.lst [V.str "o"]) a3;refine cL d sg us g (cM [111] rfl (z1 _ _ hd) (hM.mono z1).grid M.hi (cH M.t8 (by rw[zb,zrp];rfl) (λsa sv H2 aE ah az s2=>?_)));have a1:Cel H2 sv (stM g):=az;have ar:=z1.trans s2;refine⟨jR,λl hl=>?_⟩;have z3:=zc (o:=.lst []) hl;have au:=ar.trans z3;have al:upd H2 l (.lst []) l=some (.lst []):=zb;have ac:=z3 _ _ ah;have aa:=a1.mono z3;have G:=ar.free hl;generalize upd H2 l (.lst [])=H3 at *
  refine dF rfl d (cH rfl (.inl (SqL.of (au _ _ hd))) ⟨_,(cJ rfl (by lia) (by lia) ?_)⟩);rw[Vv,ul];refine ja (lo:=0) (n:=g.length) (λi L H'=>∃(v3 v4 O J:Option V) (rs:AD),L=[some (.ref d),some (.ref sa),some (.ref l),v3,v4,O,J]/\zo H H'/\zml H3 H' l/\H' l=some (.lst (rs.map V.str))/\codes rs=(g.take i).mapIdx (zgF g)) (dP (cM [] rfl au (λ_ _ _ e=>e) al rfl)) ?_ ?_
  .refine λi L H4 hi=>fy λv3 v4 O J rs z0 s4 I af er=>?_;subst z0;obtain⟨t,ht⟩:∃t,g[i]?=some t:=⟨_,XY hi⟩;have tl:=M.t8 t (X8 ht);refine d9 (λra a2 ab=>?_) (zb6 (hM.mono s4) ht);have ai:atI us (0+(i:Int))=some (V.ref ra):=by
    rw[VY];exact qi a2
   have ag:sa≠l:=zh ah hl;have B:=I _ _ ag ac;have aj:Cel H4 sv (stM g):=Cel.one I al aa;have zl:(t.map λc=>V.str ⟨#[c]⟩).length=t.length:=ZB _;refine cS rfl rfl ⟨d,(dY rfl rfl (SqL.of (s4 _ _ hd)) ai (dO ra rfl (.inl (SqL.of ab)) ⟨_,(cJ rfl (by rw[zl];lia) (by rw[zl];lia) ?_)⟩))⟩;rw[Vv,zl];refine ja (lo:=0) (n:=t.length) (λj L H'=>∃(O J:Option V) (r:Str),L=[some (.ref d),some (.ref sa),some (.ref l),some (.int (0+(i:Int))),some (.str r),O,J]/\zo H4 H'/\r.cps.toList=(t.take j).mapIdx (QG g i)) (dh (cH rfl (zo.refl _) rfl)) ?_ ?_
   .refine λj L H5 hj=>fh λO J r z0 N et=>?_;subst z0;obtain⟨k,hk⟩:∃k,t[j]?=some k:=⟨_,XY hj⟩;refine eS (λn n1 n8 hn=>?_) M.ex;have km:=(hn t (X8 ht)).2 k (X8 hk);have a9:r.length=j:=by
     rw[<- show r.cps.toList.length=r.length from XZ,et,Wb,XJ];lia
    have a8:=s4.trans N;refine cS rfl rfl ⟨d,(dY rfl rfl (SqL.of (a8 _ _ hd)) ai (cG rfl ⟨ra,(cI (cM (V.str ⟨#[k]⟩) rfl rfl (SqL.of (N _ _ ab)) (by rw[VY];exact qi (by rw[XB,hk];rfl)) ?_))⟩))⟩;have ay:∀(c:Nat) (U:Hp) (J:V),zo H5 U->c=QG g i j k->∃(O aA:Option V) (av:Str),[some (V.ref d),some (V.ref sa),some (V.ref l),some (V.int (0+(i:Int))),some (V.str (r++⟨#[c]⟩)),some (V.int (0+(j:Int))),some J]=[some (V.ref d),some (V.ref sa),some (V.ref l),some (V.int (0+(i:Int))),some (V.str av),O,aA]/\zo H4 U/\av.cps.toList=(t.take (j+1)).mapIdx (QG g i):=λc U J s6 ec=>by
     refine dh (cH rfl (N.trans s6) ?_);rw[zbE _ hk,<- et,<- ec];show (r.cps++#[c]).toList=_;rw[WP]
    refine⟨fun aC H'=>∃c:Nat,aC=[some (.ref d),some (.ref sa),some (.ref l),some (.int (0+(i:Int))),some (.str r),some (.int (0+(j:Int))),some (.str ⟨#[c]⟩)]/\zo H5 H'/\(jb (Z5 [] [(.inr "o",V.str "?"),(.inr "c",V.str "?")]) (.inr ⟨#[c]⟩)).getD (V.str ⟨#[c]⟩)=V.str ⟨#[QG g i j k]⟩,?_,?_⟩
    .by_cases u:k=46
     .have ae:=N _ _ B;have v:=aj.mono N;have aF:(nrM g i j).length<=8:=Y9 g (i,j);refine dS rfl rfl rfl (qQ (by rw[u];decide+kernel) ?_);refine cG rfl (cK sa rfl ⟨_,SqL.of ae⟩ (λz hz=>?_));refine zM (K:=K) (a:=sa) (xs:=sv) (λa=>a≠z) ((stM g).map λx=>if Cells.near x (i,j)=true then some (zk x) else none) (fun L=>∃u0,L=[u0,some (.int (0+(i:Int))),some (.int (0+(j:Int)))]) hz (λ_ h=>h) ⟨_,rfl⟩ (by rw[ZB];exact v.length.symm) (by rw[v.length];exact X6 (show (stM g).length<=64 from X6 (Cells.qV (pZ [111]) 0 g M.t8) (by lia)) (by decide)) (SqL.of ae) ?_ ?_
      .rintro m x o L U hx ho s6 _ ⟨u0,rfl⟩ Y Z aB no;refine eW (λy hy ya z0 aq=>?_) (Cel.get (Cel.mono s6 v) hx);subst z0;have eo:=qt hy ho;refine cS rfl rfl (dj rfl yD (λtq a4=>?_));have z7:=zc (o:=.tup [V.int (0+(i:Int)),V.int (0+(j:Int))]) a4;refine cL ya tq y (i,j) (cJ rfl (z7 _ _ aq) (by rw[zb,VY,VY]) (cG rfl ?_));by_cases hp:Cells.near y (i,j)=true
       .rw[bw hp]at eo;exact qQ hp ⟨_,rfl,aB _ _ _ _ eo ⟨_,rfl⟩ z7 (jU.rdn ⟨ya,rfl,z7 _ _ aq⟩)⟩
       .rw[bq hp]at eo;exact qu (XO.mpr hp) (no _ _ eo ⟨_,rfl⟩ z7)
      .rintro ys U s6 a6 ao;rw[zJ]at ao;have yl:ys.length=(nrM g i j).length:=(zq.cel ao).length;have y9:ys.length<9:=by lia
       refine eN (λd1 d2 d3=>?_) (zr9 ys.length y9);have an:((ys.length:Nat):Int).natAbs.log2<1920:=by
        rw[RZ];have:∀d:Nat,d<9->d.log2<1920:=by decide+kernel
        exact this _ y9
       refine dO z rfl (.inl (SqL.of a6)) (dj rfl an (cK (48+ys.length) ?_ s6 ?_))
       .rw[<- d1];rfl
       .rw[zqh _ y9,yl];unfold QG;rw[bw u]
     .refine dS rfl rfl rfl (qu ?_ ⟨k,rfl,zo.refl _,?_⟩)
      .have:∀k∈marks,k≠46->decide (V.str ⟨#[k]⟩=V.str ".")=false:=by decide+kernel
       exact this k km u
      .rw[zqg k km u];unfold QG;rw[bq u]
    .refine λ_ U=>eS λc z0 s6 hg=>?_;subst z0;refine cG rfl (λdp ak=>?_);have z7:=zc (o:=.dK []) ak;have a5:zo U (upd (upd U dp (.dK [])) dp (.dK (Z5 [] [(.inr "o",V.str "?"),(.inr "c",V.str "?")]))):=λb o e=>by
      rw[zj (zh e ak)];exact z7 _ _ e
     refine⟨zb,(cK [(.inr "o",V.str "?"),(.inr "c",V.str "?")] rfl (by decide) (cK dp rfl (.inl ⟨_,.inl zb⟩) (cS rfl rfl (cG (zbK.k (k:=.inr ⟨#[c]⟩) zb) (cO r ⟨#[QG g i j k]⟩ rfl hg ?_ (ay _ _ _ (s6.trans a5) rfl))))))⟩;rw[a9];exact X6 (show j+1<=20 by lia) (by decide)
   .refine λL H5=>fh λO J r z0 N et=>?_;subst z0;rw[XF]at et;have am:=N _ _ af;have rl:rs.length<=8:=by
     have:(codes rs).length=((g.take i).mapIdx (zgF g)).length:=by rw[er]
     rw[jc,Wb,XJ]at this;lia
    refine dS rfl (.inl ⟨rfl,_,SqL.of am⟩) rfl (dM l rfl rfl am ?_ ?_)
    .rw[ZB];exact XE rl (by decide)
    refine dP (cM (rs++[r]) rfl (λb o e=>?_) (λb o nb e=>?_) ?_ ?_)
    .rw[zj (zh e G)];exact N _ _ (s4 _ _ e)
    .rw[zj nb];exact N _ _ (I _ _ nb e)
    .rw[zb,Xs];rfl
    .rw[zbE _ ht,<- er];unfold codes;rw[Xs];show _++[r.cps.toList]=_;rw[et];rfl
  .refine λL H4=>fy λv3 v4 O J rs z0 s4 I af er=>?_;subst z0;rw[XF]at er;have ag:sa≠l:=zh ah hl;have B:=I _ _ ag ac;refine cG rfl (dF rfl sa (cJ rfl (.inl (SqL.of B)) yD (λp hp=>?_)));have z5:=zc (o:=.tup [V.ref l,V.int ((sv.length:Nat):Int)]) hp;refine q p l rs _ (s4.free hp) G ⟨?_,z5 _ _ af⟩ er (s4.trans z5);rw[zb,aa.length]
def zn8:("012345678":Str).cps.toList=[48,49,50,51,52,53,54,55,56]:=by decide+kernel
def zn9:∀k∈bd.cps.toList,pZ [48,49,50,51,52,53,54,55,56] k=yT k:=by decide+kernel
theorem zgH {p q:Nat->Bool}(i:Nat):∀(j:Nat) (t:List Nat),(∀k∈t,p k=q k)->Cells.zW p i j t=Cells.zW q i j t
 | _,[],_=>rfl
 | j,c::r,h=>by
  rw[Cells.zW,Cells.zW,h c XR,zgH i (j+1) r λk hk=>h k (XV _ hk)]
theorem zaT {p q:Nat->Bool}:∀(i:Nat) (gs:List (List Nat)),(∀t∈gs,∀k∈t,p k=q k)->Cells.zC p i gs=Cells.zC q i gs
 | _,[],_=>rfl
 | i,t::r,h=>by
  rw[Cells.zC,Cells.zC,zgH i 0 t (h t XR),zaT (i+1) r λu a=>h u (XV _ a)]
def Rows.signsIn {rs:AD}(R:Rows bd.cps.toList rs):∀t∈codes rs,∀k∈t,k∈bd.cps.toList:=λt a k hk=>by
 obtain⟨u,b,rfl⟩:=XN.mp a;obtain⟨n,_,_,q⟩:=R.ex;exact(q u b).mem k hk
def zsa:∀k:Nat,k<57->48<=k->yT k=true:=by decide+kernel
def zko (gs:List (List Nat))(i j k:Nat):yT (QG gs i j k)=(decide (k=46) || (!qW k&&yT k)):=by
 unfold QG;have a:(nrM gs i j).length<=8:=Y9 gs (i,j);by_cases h1:k=46
 .rw[bw h1,br h1];exact zsa _ (by lia) (by lia)
 .rw[bq h1,bf h1];by_cases h2:qW k=true
  .rw[bw h2,h2];rfl
  .rw[bq h2,XO.mpr h2];rfl
def zmp {gs:List (List Nat)}:Cells.zC yT 0 (YG gs)=Cells.zC (λk=>decide (k=46) || (!qW k&&yT k)) 0 gs:=by
 have h:=Yy (p:=yT) (q:=λk=>decide (k=46) || (!qW k&&yT k)) (f:=zgF gs) (λm i t=>Yx (f:=QG gs m) i (λa c=>zko gs m a c) 0 0 t) 0 0 gs;exact h
def yC.in {gs:List (List Nat)}(M:yC gs):∀t∈gs,∀k∈t,k∈marks:=λt a=>by
 obtain⟨n,_,_,h⟩:=M.ex;exact(h t a).2
def yC.shut {gs:List (List Nat)}{rs:AD}(M:yC gs)(h:codes rs=YG gs):Cells.zC (pZ [111,99]) 0 gs=zH rs:=by
 unfold zH;rw[h,zc8];exact zaT 0 _ λt a k hk=>(show ∀k∈marks,pZ [111,99] k=(qW k || decide (k=63)) by decide+kernel) k (M.in t a k hk)
def yC.open {gs:List (List Nat)}{rs:AD}(M:yC gs)(h:codes rs=YG gs):Cells.zC (pZ [46]) 0 gs=zV rs:=by
 unfold zV;rw[h,zmp];exact zaT 0 _ λt a k hk=>(show ∀k∈marks,pZ [46] k=(decide (k=46) || (!qW k&&yT k)) by decide+kernel) k (M.in t a k hk)
def zqj {gs:List (List Nat)}{i j:Nat}{t:List Nat}{c:Nat}(h:(YG gs)[i]?=some t)(a:t[j]?=some c):∃u k,gs[i]?=some u/\u[j]?=some k/\c=QG gs i j k:=by
 unfold YG at h;rw[TY]at h;obtain⟨u,b,rfl⟩:=U7.mp h;unfold zgF at a;rw[TY]at a;obtain⟨k,hk,rfl⟩:=U7.mp a;exact⟨u,k,b,hk,rfl⟩
def ze2 {gs:List (List Nat)}{rs:AD}(h:codes rs=YG gs){c:AA}(a:c∈stM gs):c∈zH rs:=by
 unfold zH;rw[h,zc8];obtain⟨i,j,t,k,rfl,d,hk,b⟩:=Cells.jK a;have e:k=111:=Wl.mp (bg b);exact j6 d hk (by rw[e];rfl)
def zc9 (gs:List (List Nat)):(stM gs).Nodup:=qw (Cells.yW _ 0 gs)
def zi4 {rs:AD}{m:AB}(e:m.Nodup)(sub:∀c∈m,c∈zH rs)(b:∀o∈zV rs,jw rs o=(((m.filter λx=>Cells.near x o).length:Nat):Int)):Lay rs (m.length:Nat) λc=>decide (c∈m):=by
 have a:∀p:AA->Bool,((zH rs).filter p).countP (λc=>decide (c∈m))=(m.filter p).length:=λp=>by
  rw[Ug,UX];refine Sg ((WD ((xg rs).sublist Xr) (e.sublist Xr)).mpr λc=>?_);rw[X5,X5,Wp,bu];exact⟨λz=>z.2,λz=>⟨sub c z.1,z⟩⟩
 refine⟨?_,λo d=>?_⟩
 .have:=a λ_=>true;rw[TB.mpr λ_ _=>rfl,TB.mpr λ_ _=>rfl]at this;rw[this]
 .rw[zc0,a,b o d]
def yC.num {gs:List (List Nat)}{rs:AD}(M:yC gs)(h:codes rs=YG gs){o:AA}(j:o∈zV rs):jw rs o=((((stM gs).filter λx=>Cells.near x o).length:Nat):Int):=by
  obtain⟨t,c,l,hk,a,f⟩:=zR j;obtain⟨u,k,m,d,b⟩:=zqj (h ▸ qG l) hk;obtain⟨n,_,_,i⟩:=M.ex;have p:=(i u (X8 m)).2 k (X8 d);have e:k=46:=by
   have g:k=35\/k=111\/k=99\/k=46:=by simpa[marks] using p
   rcases g with rfl | rfl | rfl | rfl
   .rw[b]at a;cases a
   .rw[b]at a;cases a
   .rw[b]at a;cases a
   .rfl
  unfold jw;rw[f,b,e];show (((48+(nrM gs o.1 o.2).length:Nat)):Int)-48=(((stM gs).filter λx=>Cells.near x (o.1,o.2)).length:Int);unfold nrM;lia
def yC.mark {gs:List (List Nat)}{rs:AD}(M:yC gs)(h:codes rs=YG gs){c:AA}(l:c∈zH rs):∃t,gs[c.1]?=some t/\t[c.2]?=some (if c∈stM gs then 111 else 99):=by
 rw[<- M.shut h]at l;refine eX (λi j t k g f hk n=>?_) (Cells.jK l);rw[Wa]at g;subst g;refine⟨t,f,?_⟩;show t[j]?=_;rw[hk];have e:k=111\/k=99:=by
  unfold pZ at n;simpa using n
 rcases e with rfl | rfl
 .have m:=j6 (p:=pZ [111]) (i:=0) f hk rfl;rw[Wa]at m;rw[bw (show (i,j)∈stM gs from m)]
 .rw[bq λz=>?_];obtain⟨o,q,s,r,e,b,a,d⟩:=Cells.jK z;rw[Wa]at e;cases e;rw[f]at b;cases b;rw[hk]at a;cases a;cases d
def zgI:Sp:=λf H Q _=>∃(p l:Addr) (b:AD) (n:Int) (v:V) (c:Option AA),f=[.ref p,v]/\qj H p l b n/\Rows bd.cps.toList b/\xZ H v c /\
 ∀(d:Addr) (e:AE) (a:Hp),H d=none->a d=some (.lst e)->Cel a e (zbN b c)->zo H a->Q (.ref d) a
def zel:Sp:=λd H Q _=>∃(p l:Addr) (a:AD) (n:Int) (v:V) (b:Option AA),d=[.ref p,v]/\qj H p l a n/\Rows bd.cps.toList a/\xZ H v b/\(∀c,b=some c->c∈zV a)/\Q (.int (znZ a n b)) H
def tgD:Tg->We
 | none=>.str "all"
 | some c=>zk c
theorem xZ.rdv {K:XS}{H:Hp}{v:V}:∀{a:Tg},xZ H v a->Rdv K H v (tgD a)
 | none,h=>by
  have e:v=V.str "all":=h;subst e;exact .str _
 | some _,h=>jU.rdv h
theorem ze3:∀a b:Tg,zjp (tgD a) (tgD b)
 | none,none=>⟨by decide+kernel,by decide+kernel,by decide+kernel⟩
 | none,some _=>⟨by decide+kernel,rfl,by decide+kernel⟩
 | some _,none=>⟨rfl,by decide+kernel,by show max 0 (max 0 0)+1<=64;decide⟩
 | some _,some _=>⟨rfl,rfl,by show max 0 (max 0 0)+1<=64;decide⟩
theorem zqk:∀a b:Tg,a≠b->WW (tgD a) (tgD b)=false
 | none,none,h=>absurd rfl h
 | none,some _,_=>rfl
 | some _,none,_=>rfl
 | some c,some d,h=>(Qs c d).trans (bf λe=>h (congrArg some e))
def zeU.len {d c:List Tg}(o:zeU d c):c.length=1\/c.length=2:=by
 rcases o with ⟨a,_,rfl⟩ | ⟨a,b,_,_,_,rfl⟩
 .exact .inl rfl
 .exact .inr rfl
def zeU.mem {c d:List Tg}(o:zeU c d):∀t∈d,t∈c:=λt h=>by
 rcases o with ⟨a,e,rfl⟩ | ⟨a,b,e,f,_,rfl⟩
 .rw[Wl.mp h];exact e
 .rcases XI.mp h with rfl | h
  .exact e
  .rw[Wl.mp h];exact f
def zmq:Sp:=λm H Q _=>∃(p l f i fs:Addr) (v:V) (a:AD) (n:Int) (d:Tg) (j o:AE) (e st:AB),m=[.ref p,v,.ref f]/\qj H p l a n/\Rows bd.cps.toList a/\xZ H v d/\(∀c,d=some c->c∈zV a)/\jz H f i fs j o e st/\(zH a).length<=20 /\
 ∀(t g:Addr) (h:AE) (b:Hp),b t=some (.tup [.ref g,.int (qq e st (akT a n d)).1])->b g=some (.lst h)->Cel b h (qq e st (akT a n d)).2->zo H b->Q (.ref t) b
theorem zi5 (st:AB):∀cs:AB,(Q5 st cs).sum=((cs.filter λc=>decide (c∈st)).length:Nat)
 | []=>rfl
 | c::r=>by
  show (((c::r).map _).sum:Int)=_;rw[XD,Sw,WJ];have a:=zi5 st r;unfold Q5 at a;rw[a];by_cases h:c∈st
  .rw[bw h,br h,bw rfl,Xo];lia
  .rw[bq h,bf h,bq XU];lia
def QV:zD ["_law_board_here","_law_thing","_law_cells_here"] ["_law_board_here","_law_thing"] (zp Jt):=bh
def zdr {f1 f2:Addr}{M N:XC}(T:Txt mg)(D:zm K mg "_law_looked" Jt ["_law_board_here","_law_thing"] f fd)(qg:zm K mg "_law_cells" yw ["_law_rows","_law_signs"] f1 M)(qH:zm K mg "_law_near" yY ["_law_one","_law_other"] f2 N):qc P w K mg base CX0 2 f fd ["_law_board_here","_law_thing"] zgI:=by
 refine D.F.ok QV (λvs H Q E h=>?_) (λaf A ac s H vs Q E U h=>?_)
 .revert h;refine eH λp l m n=>eO λv th z0 _=>?_;subst z0;rfl
 .revert h;refine eH λp l m n=>eK λv th z0 b R u q=>?_;subst z0;refine⟨_,(ze (jf 2 QV.nd (pc0 (Yu T qg) U qg (za (zv qb (pvS 0) zg (λ_ _=>rfl)) (@za _ _ _ _ _ (@zO _ _ _ _ (@za _ _ _ _ _ qC zd rfl)) zd rfl)))) (ze (qJ (zI (ju U.units) (pvS 1) qC (zT _)) (zf (zx (pvS 2))) qa) (zf (zx (pcm ["_law_cell","_law_thing"] [none,some 1] cR (zw (pvS 2)) (pgN 0) (zU (yq (K:=K) (by rfl) (pc0 (Y8 T qH) U qH (za (pvS 0) (za (pvS 1) zd))) (λ_=>rfl))) (pvS 0)))))),?_⟩;(try dsimp only[cxK,cxP,cxW]);refine⟨_,rfl,p,_,0,_,rfl,rfl,SqT.of b.tp,rfl,sz_1,λsg aa=>?_⟩;have z1:=zc (o:=.lst [V.str "?"]) aa;have b1:=b.mono z1;refine dw l sg (cU (codes m) [63] rfl b1.rw (x6.rows _ m) (by rw[jc];exact R.hi) (cH R.short ?_ (λd ws H2 hd j e s2=>?_)))
  .rw[zb,zeO];rfl
  have ec:Cells.zC (pZ [63]) 0 (codes m)=zH m:=Cells.Zg (λc=>by
   show decide (c ∈ [63])=decide (c=63);simp) 0 _
  rw[ec]at e;have g:=z1.trans s2;cases th with
  | none =>
   have ev:v=V.str "all":=u;subst ev;refine⟨_,rfl,.str "all",.str "all",.str _,.str _,⟨by decide+kernel,by decide+kernel,by decide+kernel⟩,_,rfl,qQ (by decide+kernel) ⟨_,rfl,q d ws H2 (z1.free hd) j e g⟩⟩
  | some c =>
   obtain⟨L,rfl,O⟩:=u;have i:=g _ _ O;refine⟨_,rfl,zk c,.str "all",jU.rdv ⟨L,rfl,i⟩,.str _,⟨rfl,by decide+kernel,by show max 0 (max 0 0)+1<=64;decide⟩,_,rfl,qu rfl ?_⟩;refine⟨_,rfl,d,rfl,⟨_,SqL.of j⟩,λz hz=>?_⟩;refine zM (K:=K) (a:=d) (xs:=ws) (λa=>a≠z) ((zH m).map λx=>if Cells.near x c=true then some (zk x) else none) (fun σ=>∃u0,σ=[u0,some (.ref L)]) hz (λ_ h=>h) ⟨_,rfl⟩ (by rw[ZB];exact e.length.symm) (by rw[e.length];exact X6 (qO R) (by decide)) (SqL.of j) ?_ ?_
   .rintro k x o σ H3 hx ho J _ ⟨u0,rfl⟩ Y Z ae no;refine eW (λy hy ya z0 B=>?_) (Cel.get (Cel.mono J e) hx);subst z0;have G:=qt hy ho;refine⟨_,rfl,_,rfl,ya,L,y,c,rfl,B,J _ _ i,_,rfl,?_⟩;by_cases I:Cells.near y c=true
    .rw[bw I]at G;exact qQ I ⟨_,rfl,ae _ _ _ _ G ⟨_,rfl⟩ (zo.refl _) (jU.rdn ⟨ya,rfl,B⟩)⟩
    .rw[bq I]at G;exact qu (XO.mpr I) (no _ _ G ⟨_,rfl⟩ (zo.refl _))
   .rintro ys H3 J ab r;rw[zJ,<- zc0]at r;exact q z ys H3 (g.free hz) ab (zq.cel r) (g.trans J)
def zds:zD ["_law_board_here","_law_thing"] ["_law_board_here","_law_thing"] (zp Ju):=bh
def zdu (T:Txt mg)(D:zm K mg "_law_number" Ju ["_law_board_here","_law_thing"] f fd):qc P w K mg base CX0 1 f fd ["_law_board_here","_law_thing"] zel:=by
 refine D.F.ok zds (λO H Q E h=>?_) (λB A o s H O Q E J h=>?_)
 .revert h;refine eH λp l r n=>eO λv z z0 _=>?_;subst z0;rfl
 .revert h;refine eH λp l r n=>fu λv z z0 b R g j q=>?_;subst z0;refine⟨_,(ze (qJ (zI (ju J.units) (pvS 1) qC (zT _)) (zf (zx (zv qb (pvS 0) zg (λ_ _=>rfl)))) qa) (zf (zx (pt1 zao T.zlD SM (zv zeN (zv qS (zv qb (pvS 0) zg (λ_ _=>rfl)) (zv qb (pvS 1) zg (λ_ _=>rfl)) (λ_ _=>rfl)) (zv qb (pvS 1) zg (λ_ _=>rfl)) (λ_ _=>rfl)))))),?_⟩;(try dsimp only[cxK,cxP,cxW]);cases z with
  | none =>
   have I:v=V.str "all":=g;subst I;refine⟨_,rfl,.str "all",.str "all",.str _,.str _,⟨by decide+kernel,by decide+kernel,by decide+kernel⟩,_,rfl,qQ (by decide+kernel) ⟨_,rfl,p,_,1,_,rfl,rfl,SqT.of b.tp,rfl,q⟩⟩
  | some c =>
   obtain⟨i,rfl,a⟩:=g;refine eK (λy k e hk m d u=>?_) (R.openAt (j c rfl));obtain⟨L,M⟩:=Qt d m;have G:Cells.sgn (codes r) c=k:=Cells.QY (qG e) hk;have N:Q (.int ((k:Int)-48)) H:=by
    have x:Q (.int (((Cells.sgn (codes r) c:Nat):Int)-48)) H:=q;rw[G]at x;exact x
   refine⟨_,rfl,zk c,.str "all",jU.rdv ⟨i,rfl,a⟩,.str _,⟨rfl,by decide+kernel,by show max 0 (max 0 0)+1<=64;decide⟩,_,rfl,qu rfl ?_⟩;exact⟨_,rfl,p,_,0,_,rfl,rfl,SqT.of b.tp,rfl,_,rfl,i,_,0,_,rfl,rfl,SqT.of a,rfl,l,_,_,.str y,rfl,rfl,SqL.of b.rw,qi (by rw[XB,e];rfl),_,rfl,i,_,1,_,rfl,rfl,SqT.of a,rfl,y,_,k,rfl,rfl,u,qi hk,_,_,rfl,int_sign L M,(by show 1<=640;decide),N⟩
def Qa:zD ["_law_board_here","_law_thing","_law_finding","_law_cells_here","_law_free_here"] ["_law_board_here","_law_thing","_law_finding"] (zp Yl):=bh
def zgJ (T:Txt mg)(Z:Prog K mg){f:Addr}{fd:XC}(D:zm K mg "_law_free" Yl ["_law_board_here","_law_thing","_law_finding"] f fd):qc P w K mg base CX0 3 f fd ["_law_board_here","_law_thing","_law_finding"] zmq:=by
 obtain⟨az,ax,ae⟩:=Z.law_looked;obtain⟨a1,ay,af⟩:=Z.law_number;obtain⟨au,ar,qg⟩:=Z.law_cells;obtain⟨aw,av,qH⟩:=Z.law_near;have an:=zdr (P:=P) (w:=w) (base:=base) T ae qg qH;have ao:=zdu (P:=P) (w:=w) (base:=base) T af;refine D.F.ok Qa (λvs H Q E h=>?_) (λaq A al s H vs Q E N h=>?_)
 .revert h;refine eE λp l I fc fs v m n=>eH λu us ws M=>d9 λst z0 _=>?_;subst z0;rfl
 .revert h;refine eE λp l I fc fs v m n=>fy λu us ws M st z0 b R aa=>eZ λai F am q=>?_;subst z0;refine⟨_,(ze (jf 3 Qa.nd (pc0 an N ae (za (pvS 0) (za (pvS 1) zd)))) (ze (psC 4 Qa.nd ["_law_cell","_law_finding"] [none,some 2] cR (zw (pvS 3)) (pgN 0) (zU (PW.pt (za1 (zI (qM (K:=K) (by rfl) N.units) (pvS 0) (zv (JV (K:=K) (by rfl)) (pvS 1) zg (λ_ _=>rfl)) (by rfl)) (Qj (zI (qM (K:=K) (by rfl) N.units) (pvS 0) (zv (JV (K:=K) (by rfl)) (pvS 1) zg (λ_ _=>rfl)) (by rfl)))))) (pvS 0)) (zf (zx (ql (za (pvS 4) (za (zK yM (pc0 ao N af (za (pvS 0) (za (pvS 1) zd))) (pb1 zB T.qK Xj (pcm ["_law_cell","_law_finding"] [none,some 2] cR (zw (pvS 3)) (pgN 0) (zU (zI (jq (K:=K) (by rfl) N.units) (pvS 0) (zv (JV (K:=K) (by rfl)) (pvS 1) zg (λ_ _=>rfl)) (by rfl))) (pvS 0)))) zd))))))),?_⟩;(try dsimp only[cxK,cxP,cxW]);refine⟨_,rfl,_,rfl,p,l,m,n,v,u,rfl,b,R,aa,λd wd H1 hd i g s1=>?_⟩;have F1:=F.mono s1;have ac:wd.length<=20:=by rw[g.length];exact X6 QD.length_le am
  refine⟨_,rfl,d,rfl,⟨_,SqL.of i⟩,λz hz=>?_⟩;refine zM (K:=K) (a:=d) (xs:=wd) (λa=>a≠z) ((zbN m u).map λc=>if (!(decide (c∈st) || decide (c∈M)))=true then some (zk c) else none) (fun σ=>∃u0,σ=[u0,some (.ref I)]) hz (λ_ h=>h) ⟨_,rfl⟩ (by rw[ZB];exact g.length.symm) (X6 ac (by decide)) (SqL.of i) ?_ ?_
  .rintro k x o σ H2 hx ho r _ ⟨u0,rfl⟩ Y Z B no;obtain⟨c,hc,J⟩:=Cel.get (Cel.mono r g) hx;have e:=qt hc ho;have G:=F1.mono r;refine⟨_,rfl,_,rfl,I,_,0,_,rfl,rfl,SqT.of G.tp,rfl,zk c,M.map zk,J.rdv,.lst (SqL.of G.h1) (YF G.c1),rfl,JY _,(by show 1<=60;decide),_,rfl,?_⟩;rw[J1];by_cases h1:c∈M
   .rw[br h1];rw[br h1,Bool.or_true,bq (by decide)]at e;exact qu rfl (no _ _ e ⟨_,rfl⟩ (zo.refl _))
   rw[bf h1];rw[bf h1,Bool.or_false]at e;refine qQ rfl ⟨_,rfl,_,rfl,I,_,1,_,rfl,rfl,SqT.of G.tp,rfl,zk c,st.map zk,J.rdv,.lst (SqL.of G.h2) (YF G.c2),rfl,JY _,(by show 1<=60;decide),_,rfl,?_⟩;rw[J1];by_cases j:(!decide (c∈st))=true
   .rw[bw j]at e;exact qQ j ⟨_,rfl,B _ _ _ _ e ⟨_,rfl⟩ (zo.refl _) J.rdn⟩
   .rw[bq j]at e;exact qu (XO.mpr j) (no _ _ e ⟨_,rfl⟩ (zo.refl _))
  rintro ys H2 r aj O;rw[zJ]at O;have ag:Cel H2 ys (jo M st (zbN m u)):=zq.cel O;have y:=s1.trans r;refine⟨_,rfl,_,rfl,_,rfl,p,l,m,n,v,u,rfl,b.mono y,R,aa.mono y,ai,?_⟩;refine⟨_,rfl,d,rfl,⟨_,SqL.of (r _ _ i)⟩,λz3 ak=>?_⟩;refine zM (K:=K) (a:=d) (xs:=wd) (λa=>a≠z3) ((zbN m u).map λc=>if decide (c∈st)=true then some (zk c) else none) (fun σ=>∃u0,σ=[u0,some (.ref I)]) ak (λ_ h=>h) ⟨_,rfl⟩ (by rw[ZB];exact g.length.symm) (X6 ac (by decide)) (SqL.of (r _ _ i)) ?_ ?_
  .rintro k x o σ H3 hx ho L _ ⟨u0,rfl⟩ Y Z B no;obtain⟨c,hc,J⟩:=Cel.get (Cel.mono (r.trans L) g) hx;have e:=qt hc ho;have F3:=F1.mono (r.trans L);refine⟨_,rfl,_,rfl,I,_,1,_,rfl,rfl,SqT.of F3.tp,rfl,zk c,st.map zk,J.rdv,.lst (SqL.of F3.h2) (YF F3.c2),rfl,JY _,(by show 1<=60;decide),_,rfl,?_⟩;rw[ziV];by_cases j:decide (c∈st)=true
   .rw[bw j]at e;exact qQ j ⟨_,rfl,B _ _ _ _ e ⟨_,rfl⟩ (zo.refl _) J.rdn⟩
   .rw[bq j]at e;exact qu (XO.mpr j) (no _ _ e ⟨_,rfl⟩ (zo.refl _))
  rintro y3 H3 L ab U;rw[zJ]at U;have ah:Cel H3 y3 ((zbN m u).filter λc=>decide (c∈st)):=zq.cel U;refine⟨z3,_,rfl,.inl (SqL.of ab),_,_,rfl,rfl,yD,λt ht=>?_⟩;have y4:=zc (o:=.tup [.ref z,.int (znZ m n u-((y3.length:Nat):Int))]) ht;refine q t z ys _ ?_ (y4 _ _ (L _ _ aj)) (ag.mono (L.trans y4)) (y.trans (L.trans y4));rw[zb,ah.length,<- zi5];rfl
abbrev hpA (A B:AB):List AB:=[Two.alone A B,Two.both A B,Two.alone B A]
abbrev vlW (a b:Int)(j:Nat):List Int:=[a-j,(j:Int),b-j]
def zhQ (A B:AB)(a b:Int)(j:Nat):Bool:=decide (0<=a-j/\a-j<=((Two.alone A B).length:Nat)/\0<=b-j/\b-j<=((Two.alone B A).length:Nat))
def wyL (A B:AB)(a b:Int)(m:Nat):List Nat:=(WC m).filter (zhQ A B a b)
def LsR (N:Addr->Prop)(H:Hp)(v:V)(cs:AB):Prop:=∃h a,v=V.ref h/\N h/\H h=some (.lst a)/\Cel H a cs
def WyR (a b:Int)(H:Hp)(v:V)(j:Nat):Prop:=∃r,v=V.ref r/\H r=some (.tup ((vlW a b j).map V.int))
def zgM {a b:Int}{H c:Hp}{vs:AE}{d:List Nat}(s:zo H c)(h:Xy (WyR a b H) vs d):Xy (WyR a b c) vs d:=Paired.imp' (λ_ _ ⟨r,e,z⟩=>⟨r,e,s _ _ z⟩) h
def zmr {a b:Int}{H:Hp}{z:Addr}{xs ys:AE}(hz:H z=some (.lst xs)){vs:AE}{c:List Nat}(h:Xy (WyR a b H) vs c):Xy (WyR a b (upd H z (.lst ys))) vs c:=Paired.imp' (λ_ _ ⟨r,e,y⟩=>⟨r,e,by
 rw[zj (zbf y hz (by intro q;cases q))];exact y⟩) h
def zrq:Sp:=λn H Q _=>∃(f g:Addr) (i j:AE) (A B:AB) (a b:Int),n=[.ref f,.ref g,.int a,.int b]/\H f=some (.lst i)/\H g=some (.lst j)/\Cel H i A/\Cel H j B/\A.length<=20/\B.length<=20 /\
 ∀(t d m:Addr) (e l:AE) (c:Hp),c t=some (.tup [.ref d,.ref m])->c d=some (.lst e)->Xy (LsR (λh=>H h=none) c) e (hpA A B)->c m=some (.lst l)->Xy (WyR a b c) l (wyL A B a b ((Two.both A B).length+1))->zo H c->Q (.ref t) c
def jL:zD ["_law_one","_law_other","_law_first","_law_second","_law_both","_law_ones","_law_others","_law_ways","_law_k"] ["_law_one","_law_other","_law_first","_law_second"] (zp Jv):=bh
def zdv (T:Txt mg){f:Addr}{fd:XC}(D:zm K mg "_law_shares" Jv ["_law_one","_law_other","_law_first","_law_second"] f fd):qc P w K mg base CX0 1 f fd ["_law_one","_law_other","_law_first","_law_second"] zrq:=by
 refine D.F.ok jL (λvs H Q E h=>?_) (λaz A ax s H vs Q E hr h=>?_)
 .revert h;refine eE λN o2 us ws A B a b=>eV λz0 _=>?_;subst z0;rfl
 .revert h;refine eE λN o2 us ws d B a b=>eY λz0 h1 h2 hA=>eZ λhB lA lB q=>?_;subst z0;refine⟨_,(ze (jf 4 jL.nd (pcm ["_law_cell","_law_other"] [none,some 1] cR (zw (pvS 0)) (pgN 0) (zU (zI (jq (K:=K) (by rfl) hr.units) (pvS 0) (pvS 1) (by rfl))) (pvS 0))) (ze (psC 5 jL.nd ["_law_cell","_law_both"] [none,some 4] cR (zw (pvS 0)) (pgN 0) (zU (zI (qM (K:=K) (by rfl) hr.units) (pvS 0) (pvS 1) (by rfl))) (pvS 0)) (ze (psC 6 jL.nd ["_law_cell","_law_both"] [none,some 4] cR (zw (pvS 1)) (pgN 0) (zU (zI (qM (K:=K) (by rfl) hr.units) (pvS 0) (pvS 1) (by rfl))) (pvS 0)) (@ze _ _ _ _ _ (@qh _ _ 7 _ _ _ _ jL.nd rfl (V2 rfl) (@zO _ _ _ _ zd) (by rfl) (.inr rfl)) (ze (qx Xc rfl (prg T.j4 (zK Jp (pb1 zB T.qK Xj (pvS 4)) zg)) (pgq 8 jL.nd) (zf (qJ (PW.pt (za1 (YJ Zs Zs zg (zK yM (pvS 2) (pvS 8)) (pb1 zB T.qK Xj (pvS 5))) (Qj (YJ Zs Zs zg (zK yM (pvS 3) (pvS 8)) (pb1 zB T.qK Xj (pvS 6)))))) (zf (jj (yH W7 WI WH yj (pvS 7) (za (ql (za (zK yM (pvS 2) (pvS 8)) (za (pvS 8) (za (zK yM (pvS 3) (pvS 8)) zd)))) zd)))) qa))) (zf (zx (ql (za (zO (za (pvS 5) (za (pvS 4) (za (pvS 6) zd)))) (za (pvS 7) zd)))))))))),?_⟩;(try dsimp only[cxK,cxP,cxW]);refine⟨_,rfl,N,rfl,⟨_,SqL.of h1⟩,λz hz=>?_⟩;refine zM (K:=K) (a:=N) (xs:=us) (λa=>a≠z) (d.map λc=>if decide (c∈B)=true then some (zk c) else none) (fun r=>∃U,r=[U,some (.ref o2)]) hz (λ_ h=>h) ⟨_,rfl⟩ (by rw[ZB];exact hA.length.symm) (by rw[hA.length];exact X6 lA (by decide)) (SqL.of h1) ?_ ?_
  .rintro k x o r H4 G ho p _ ⟨U,rfl⟩ Y Z v y;obtain⟨c,hc,O⟩:=Cel.get (Cel.mono p hA) G;have m:=qt hc ho;refine⟨_,rfl,_,rfl,zk c,B.map zk,O.rdv,.lst (SqL.of (p _ _ h2)) (YF (hB.mono p)),rfl,JY _,(by show 1<=60;decide),_,rfl,?_⟩;rw[ziV];by_cases j:decide (c∈B)=true
   .rw[bw j]at m;exact qQ j ⟨_,rfl,v _ _ _ _ m ⟨_,rfl⟩ (zo.refl _) O.rdn⟩
   .rw[bq j]at m;exact qu (XO.mpr j) (y _ _ m ⟨_,rfl⟩ (zo.refl _))
  rintro yb H3 s3 ac ag;rw[zJ]at ag;have aa:Cel H3 yb (Two.both d B):=zq.cel ag;refine⟨_,rfl,N,rfl,⟨_,SqL.of (s3 _ _ h1)⟩,λz1 aj=>?_⟩;refine zM (K:=K) (a:=N) (xs:=us) (λa=>a≠z1) (d.map λc=>if (!decide (c∈Two.both d B))=true then some (zk c) else none) (fun r=>∃U,r=[U,some (.ref z)]) aj (λ_ h=>h) ⟨_,rfl⟩ (by rw[ZB];exact hA.length.symm) (by rw[hA.length];exact X6 lA (by decide)) (SqL.of (s3 _ _ h1)) ?_ ?_
  .rintro k x o r H4 G ho p _ ⟨U,rfl⟩ Y Z v y;obtain⟨c,hc,O⟩:=Cel.get (Cel.mono (s3.trans p) hA) G;have m:=qt hc ho;refine⟨_,rfl,_,rfl,zk c,(Two.both d B).map zk,O.rdv,.lst (SqL.of (p _ _ ac)) (YF (aa.mono p)),rfl,JY _,(by show 1<=60;decide),_,rfl,?_⟩;rw[J1];by_cases j:(!decide (c∈Two.both d B))=true
   .rw[bw j]at m;exact qQ j ⟨_,rfl,v _ _ _ _ m ⟨_,rfl⟩ (zo.refl _) O.rdn⟩
   .rw[bq j]at m;exact qu (XO.mpr j) (y _ _ m ⟨_,rfl⟩ (zo.refl _))
  rintro yo H4 p aw ah;rw[zJ,ziT]at ah;have au:Cel H4 yo (Two.alone d B):=zq.cel ah;have u:=s3.trans p;refine⟨_,rfl,o2,rfl,⟨_,SqL.of (u _ _ h2)⟩,λz2 ak=>?_⟩;refine zM (K:=K) (a:=o2) (xs:=ws) (λa=>a≠z2) (B.map λc=>if (!decide (c∈Two.both d B))=true then some (zk c) else none) (fun r=>∃U,r=[U,some (.ref z)]) ak (λ_ h=>h) ⟨_,rfl⟩ (by rw[ZB];exact hB.length.symm) (by rw[hB.length];exact X6 lB (by decide)) (SqL.of (u _ _ h2)) ?_ ?_
  .rintro k x o r H5 G ho I _ ⟨U,rfl⟩ Y Z v y;obtain⟨c,hc,O⟩:=Cel.get (Cel.mono (u.trans I) hB) G;have m:=qt hc ho;refine⟨_,rfl,_,rfl,zk c,(Two.both d B).map zk,O.rdv,.lst (SqL.of (I _ _ (p _ _ ac))) (YF (aa.mono (p.trans I))),rfl,JY _,(by show 1<=60;decide),_,rfl,?_⟩;rw[J1];by_cases j:(!decide (c∈Two.both d B))=true
   .rw[bw j]at m;exact qQ j ⟨_,rfl,v _ _ _ _ m ⟨_,rfl⟩ (zo.refl _) O.rdn⟩
   .rw[bq j]at m;exact qu (XO.mpr j) (y _ _ m ⟨_,rfl⟩ (zo.refl _))
  rintro y2 H5 I al ai;rw[zJ,zgs]at ai;have af:Cel H5 y2 (Two.alone B d):=zq.cel ai;have ay:=u.trans I;have am:=I _ _ (p _ _ ac);have L:=aa.mono (p.trans I);have an:=I _ _ aw;have M:=au.mono I;have eb:=L.length;have aq:=M.length;have ar:=af.length;have lb:(Two.both d B).length<=20:=X6 (Xw _ _) lA;refine⟨jR,λJ ab=>?_⟩;have y6:=zc (o:=.lst []) ab;have a1:∀{x:Addr} {o:HO},H5 x=some o->x≠J:=λe=>zh e ab;refine⟨_,rfl,z,_,rfl,.inl (SqL.of (y6 _ _ am)),_,_,rfl,rfl,_,rfl,by lia,by lia,?_⟩;have en:((((yb.length:Nat):Int)+1)).toNat=(Two.both d B).length+1:=by lia
  rw[en];refine ja (lo:=0) (n:=(Two.both d B).length+1) (λi r H'=>∃(w8:Option V) (wv:AE),r=[some (.ref N),some (.ref o2),some (.int a),some (.int b),some (.ref z),some (.ref z1),some (.ref z2),some (.ref J),w8]/\zo H5 H'/\H' J=some (.lst wv)/\Xy (WyR a b H') wv (wyL d B a b i)) (dz [] rfl y6 zb (.nil)) ?_ ?_
  .refine λi r H6 hi=>d8 λw8 wv z0 s6 g hP=>?_;subst z0;rw[VY];have e1:wyL d B a b (i+1)=wyL d B a b i++if zhQ d B a b i=true then [i] else []:=by
    unfold wyL;rw[UQ,WZ,WJ];split<;>rfl
   have y:zhQ d B a b i=false->∃(w8:Option V) (ao:AE),[some (.ref N),some (.ref o2),some (.int a),some (.int b),some (.ref z),some (.ref z1),some (.ref z2),some (.ref J),some (.int (i:Nat))]=[some (V.ref N),some (.ref o2),some (.int a),some (.int b),some (.ref z),some (.ref z1),some (.ref z2),some (.ref J),w8]/\zo H5 H6/\H6 J=some (.lst ao)/\Xy (WyR a b H6) ao (wyL d B a b (i+1)):=λe=>⟨_,wv,rfl,s6,g,by
    rw[e1,e,bq XU,Xu];exact hP⟩
   refine⟨_,rfl,_,rfl,_,_,rfl,rfl,_,_,rfl,rfl,_,rfl,?_⟩;by_cases c1:0<=a-(i:Int)
   case neg =>
    rw[bf c1]
    exact xX (cG rfl (xX (xX (y (bf λz=>c1 z.1)))))
   rw[br c1];refine Z0 ⟨_,rfl,z1,_,rfl,.inl (SqL.of (s6 _ _ an)),_,_,rfl,rfl,_,rfl,?_⟩;rw[aq];by_cases c2:a-(i:Int)<=((Two.alone d B).length:Nat)
   case neg =>
    rw[bf c2]
    exact xX (xX (y (bf λz=>c2 z.2.1)))
   rw[br c2];refine Z0 ⟨_,rfl,_,rfl,_,_,rfl,rfl,_,_,rfl,rfl,_,rfl,?_⟩;by_cases c3:0<=b-(i:Int)
   case neg =>
    rw[bf c3]
    exact xX (cG rfl (xX (y (bf λz=>c3 z.2.2.1))))
   rw[br c3];refine Z0 ⟨_,rfl,z2,_,rfl,.inl (SqL.of (s6 _ _ al)),_,_,rfl,rfl,_,rfl,?_⟩;rw[ar];by_cases c4:b-(i:Int)<=((Two.alone B d).length:Nat)
   case neg =>
    rw[bf c4]
    exact xX (y (bf λz=>c4 z.2.2.2))
   rw[br c4];refine Z0 ⟨_,rfl,.inl ⟨rfl,_,SqL.of g⟩,_,rfl,_,rfl,_,_,rfl,rfl,_,rfl,_,rfl,_,rfl,_,_,rfl,rfl,zfX,λx G=>?_⟩;have y7:=zc (o:=.tup ((vlW a b i).map V.int)) G;have wl:wv.length<=21:=by
    rw[Paired.length hP];have:=Xw (zhQ d B a b) (WC i);rw[WL]at this;exact X6 this (by lia)
   refine⟨J,_,_,rfl,rfl,y7 _ _ g,XE wl (by decide),_,wv++[.ref x],rfl,λb o e=>?_,zb,?_⟩
   .rw[zj (zh e ab)];exact y7 _ _ (s6 _ _ e)
   .rw[e1,show zhQ d B a b i=true from br ⟨c1,c2,c3,c4⟩,bw rfl];refine Paired.snoc (zmr (y7 _ _ g) (zgM y7 hP)) ⟨x,rfl,?_⟩;rw[zj (λe=>by rw[e,g]at G;cases G)];exact zb
  .refine λr H6=>d8 λw8 wv z0 s6 g hP=>?_;subst z0;refine⟨_,rfl,_,rfl,_,rfl,zfX,λj av=>⟨_,rfl,yD,λt ht=>?_⟩⟩;have y7:=zc (o:=.lst [.ref z1,.ref z,.ref z2]) av;have y8:=zc (o:=.tup [.ref j,.ref J]) ht;have ae:=y7.trans y8;have l:=s6.trans ae;exact q t j J [.ref z1,.ref z,.ref z2] wv _ zb (y8 _ _ zb) (.cons (cO z1 yo rfl (s3.free aj) (l _ _ an) (M.mono l)) (.cons (cO z yb rfl hz (l _ _ am) (L.mono l)) (.cons (cO z2 y2 rfl (u.free ak) (l _ _ al) (af.mono l)) .nil))) (ae _ _ g) (zgM ae hP) (ay.trans l)
def rgA (A B:AB)(a b:Int):List Rg:=[(Two.alone A B,a-jx A B a b,a-j8 A B a b),(Two.both A B,j8 A B a b,jx A B a b),(Two.alone B A,b-jx A B a b,b-j8 A B a b)]
def zda {A B:AB}{a b:Int}{j:Nat}:j∈wyL A B a b ((Two.both A B).length+1)↔j8 A B a b<=j/\(j:Int)<=jx A B a b:=by
 unfold wyL zhQ j8 jx mx3 mn3;rw[X5,Ww,bu];repeat' split
 all_goals lia
def zoc {A B:AB}{a b:Int}{p:AA->Bool}{i:Nat}{g:Rg}(o:zhL p (xr A B a b))(L:j8 A B a b<=jx A B a b)(c:(rgA A B a b)[i]?=some g) :
  (((wyL A B a b ((Two.both A B).length+1)).filter λj=>decide (0<(vlW a b j).getD i 0))=[]↔g.2.2=0)/\(((wyL A B a b ((Two.both A B).length+1)).filter λj=>decide ((vlW a b j).getD i 0<((g.1.length:Nat):Int)))=[]↔g.2.1=((g.1.length:Nat):Int))/\(g.2.2=0->g.2.1=((g.1.length:Nat):Int)->g.1=[]):=by
 have s:0<=j8 A B a b:=by
  unfold j8 mx3;repeat' split
  all_goals lia
 have x:jx A B a b<=a:=by
  unfold jx mn3;repeat' split
  all_goals lia
 have y:jx A B a b<=b:=by
  unfold jx mn3;repeat' split
  all_goals lia
 obtain⟨lo,r⟩:∃m:Nat,((m:Nat):Int)=j8 A B a b:=⟨(j8 A B a b).toNat,by lia⟩;obtain⟨e,q⟩:∃m:Nat,((m:Nat):Int)=jx A B a b:=⟨(jx A B a b).toNat,by lia⟩;have v:lo∈wyL A B a b ((Two.both A B).length+1):=zda.mpr (by lia);have u:e∈wyL A B a b ((Two.both A B).length+1):=zda.mpr (by lia);have w:g∈xr A B a b:=by
  have:=X8 c;unfold rgA at this;unfold xr;simp only[XI,TN,or_false]at this ⊢;rcases this with h | h | h
  .exact .inr (.inl h)
  .exact .inl h
  .exact .inr (.inr h)
 have ok:=o g w;have G:=Ws (p:=p) (l:=g.1);have z:∃f n,f∈wyL A B a b ((Two.both A B).length+1)/\n∈wyL A B a b ((Two.both A B).length+1)/\(vlW a b f).getD i 0=g.2.1/\(vlW a b n).getD i 0=g.2.2/\0<=g.2.1/\∀j∈wyL A B a b ((Two.both A B).length+1),g.2.1<=(vlW a b j).getD i 0/\(vlW a b j).getD i 0<=g.2.2:=by
  match i,c with
  | 0,c =>
   cases c;refine cZ e lo u v ?_ ?_ ?_ (λj d=>?_)
   .show a-(e:Int)=a-jx A B a b;lia
   .show a-(lo:Int)=a-j8 A B a b;lia
   .show 0<=a-jx A B a b;lia
   .have:=zda.mp d;show a-jx A B a b<=a-(j:Int)/\a-(j:Int)<=a-j8 A B a b;lia
  | 1,c =>
   cases c;exact cZ lo e v u r q s (λj d=>zda.mp d)
  | 2,c =>
   cases c;refine cZ e lo u v ?_ ?_ ?_ (λj d=>?_)
   .show b-(e:Int)=b-jx A B a b;lia
   .show b-(lo:Int)=b-j8 A B a b;lia
   .show 0<=b-jx A B a b;lia
   .have:=zda.mp d;show b-jx A B a b<=b-(j:Int)/\b-(j:Int)<=b-j8 A B a b;lia
  | i+3,c=>cases c
 revert z;refine fu λf n D E H I J all=>?_;refine⟨?_,?_,λh1 h2=>V6.mp (by lia)⟩
 .rw[WN];constructor
  .intro h;have:=h n E;rw[bu]at this;lia
  .intro h j d;rw[bu];have:=all j d;lia
 .rw[WN];constructor
  .intro h;have:=h f D;rw[bu]at this;lia
  .intro h j d;rw[bu];have:=all j d;lia
def zrr {A B:AB}(a b:Int)(i:A.Nodup)(j:B.Nodup):((xr A B a b).flatMap λg=>g.1).Nodup:=by
 have f:∀{x:AA},x∈Two.both A B->x∈A/\x∈B:=λh=>⟨(X5.mp h).1,bg (X5.mp h).2⟩;have d:∀{x:AA} {A B:AB},x∈Two.alone A B->x∈A/\x ∉ B:=λ{x A B} h=>⟨(X5.mp h).1,by
  have:=(X5.mp h).2;simpa using this⟩
 show (Two.both A B++(Two.alone A B++(Two.alone B A++[]))).Nodup;rw[Xu,WY,WY];refine⟨i.sublist Xr,⟨i.sublist Xr,j.sublist Xr,λx c y hy e=>?_⟩,λx c y hy e=>?_⟩
 .subst e;exact(d c).2 (d hy).1
 .subst e;rcases XM.mp hy with hy | hy
  .exact(d hy).2 (f c).2
  .exact(d hy).2 (f c).1
def zms {A:AB}{a:Int}{L:AA->Bool}(h:((A.countP L:Nat):Int)=a):qd (xr A A a a)=qd (xr A [] a 0)/\zQ (xr A A a a)=zQ (xr A [] a 0):=by
 have l:=Ws (p:=L) (l:=A);have g:Two.both A A=A:=TB.mpr λc b=>br b;have i:Two.alone A A=[]:=WN.mpr λc b=>by simp[b]
 have j:Two.both A []=[]:=WN.mpr λc _=>by simp
 have m:Two.alone A []=A:=TB.mpr λc _=>by simp
 have n:Two.alone [] A=[]:=rfl;have lo1:j8 A A a a=a:=by
  unfold j8 mx3;rw[i,VN];repeat' split
  all_goals lia
 have d:jx A A a a=a:=by
  unfold jx mn3;rw[g];repeat' split
  all_goals lia
 have f:j8 A [] a 0=0:=by
  unfold j8 mx3;rw[m,n,VN];repeat' split
  all_goals lia
 have e:jx A [] a 0=0:=by
  unfold jx mn3;rw[j,VN];repeat' split
  all_goals lia
 unfold xr qd zQ;rw[g,i,j,m,n,lo1,d,f,e];simp
def wD (a b:Int)(j:Nat):We:=.tuple ((vlW a b j).map PyData.int)
def zoP (a b:Int)(c:List Nat):zjp (.list (c.map (wD a b))) (.list []):=⟨by
 show V5 (c.map (wD a b))=true;induction c with
 | nil=>rfl
 | cons j r d =>
  show (true&&V5 (r.map (wD a b)))=true;rw[d];rfl,rfl,by
 show VA (c.map (wD a b))+1<=64;have:VA (c.map (wD a b))<=1:=by
  induction c with
  | nil=>exact W1 _
  | cons j r d =>
   show max (max 0 (max 0 (max 0 0))+1) (VA (r.map (wD a b)))<=1;lia
 lia⟩
theorem zoQ (a b:Int):∀c:List Nat,WW (.list (c.map (wD a b))) (.list [])=c.isEmpty
 | []=>rfl
 | _::_=>rfl
def WyR.rdn {N:Addr->Prop}{a b:Int}{H:Hp}{v:V}{j:Nat}(h:WyR a b H v j):Rdn N H v (wD a b j):=by
 obtain⟨r,rfl,h⟩:=h;exact .tup h (.cons (.int _) (.cons (.int _) (.cons (.int _) .nil)))
def zoR:Sp:=λv H Q _=>∃(p l m j s fs:Addr) (d:AD) (n:Int) (o u w:AE) (e a:List Tg) (f st:AB) (L:AA->Bool),v=[.ref p,.ref m,.ref j]/\qj H p l d n/\Rows bd.cps.toList d/\H m=some (.lst o)/\Xy (xZ H) o a/\zeU e a/\(∀c,some c∈e->c∈zV d)/\jz H j s fs u w f st/\(zH d).length<=20/\Ja (qf d n e) L f st /\
 ∀(t h i:Addr) (q r:AE) (c1 g:AB) (b:Hp),b t=some (.tup [.ref h,.ref i])->b h=some (.lst q)->b i=some (.lst r)->Cel b q c1->Cel b r g->c1.Perm (qd (gsT d n f st a))->g.Perm (zQ (gsT d n f st a))->c1.Pairwise Cells.lex->g.Pairwise Cells.lex->zo H b->Q (.ref t) b
def jh:zD ["_law_board_here","_law_things_here","_law_finding","_law_one","_law_first","_law_other","_law_second","_law_heaps","_law_ways","_law_clears","_law_stones","_law_k"] ["_law_board_here","_law_things_here","_law_finding"] (zp Qp):=bh
def zhR (T:Txt mg)(Z:Prog K mg){f:Addr}{fd:XC}(D:zm K mg "_law_due" Qp ["_law_board_here","_law_things_here","_law_finding"] f fd):qc P w K mg base CX0 4 f fd ["_law_board_here","_law_things_here","_law_finding"] zoR:=by
 obtain⟨bI,bG,Q7⟩:=Z.law_free;obtain⟨bH,bF,aW⟩:=Z.law_shares;have aX:=zgJ (P:=P) (w:=w) (base:=base) T Z Q7;have b8:=zdv (P:=P) (w:=w) (base:=base) T aW;refine D.F.ok jh (λvs H Q E h=>?_) (λbB A b3 s H vs Q E hr h=>?_)
 .revert h;refine eE λp l th fa fc fs I n=>eE λtv us ws aT U u st L=>eV λz0 _=>?_;subst z0;rfl
 .revert h;refine eE λp l th fa fc fs I n=>eE λtv us ws aT U u st L=>eY λz0 b0 R a9=>eY λhT ok aM F=>eN λai tr q=>?_;subst z0;refine⟨_,(ze (zer (pc0 aX hr Q7 (za (pvS 0) (za (zv qS (pvS 1) zg (λ_ _=>rfl)) (za (pvS 2) zd)))) (jO rfl (zE (pgq 3 jh.nd) (zE (pgq 4 jh.nd) qT)))) (ze (zpc (i:=5) (j:=6) rfl jh.nd rfl rfl (by decide) rfl rfl (za (pvS 3) (za (pvS 4) zd)) rfl) (zbU (qJ (zI YI (pb1 zB T.qK Xj (pvS 1)) zg (zT _)) (zf (zer (pc0 aX hr Q7 (za (pvS 0) (za (zv qS (pvS 1) zg (λ_ _=>rfl)) (za (pvS 2) zd)))) (jO rfl (zE (pgq 5 jh.nd) (zE (pgq 6 jh.nd) qT))))) qa) (ze (zer (pc0 b8 hr aW (za (pvS 3) (za (pvS 5) (za (pvS 4) (za (pvS 6) zd))))) (jO rfl (zE (pgq 7 jh.nd) (zE (pgq 8 jh.nd) qT)))) (@ze _ _ _ _ _ (@qh _ _ 9 _ _ _ _ jh.nd rfl (V2 rfl) (@zO _ _ _ _ zd) (by rfl) (.inr rfl)) (@ze _ _ _ _ _ (@qh _ _ 10 _ _ _ _ jh.nd rfl (V2 rfl) (@zO _ _ _ _ zd) (by rfl) (.inr rfl)) (ze (qx Xc rfl (prg T.j4 zg) (pgq 11 jh.nd) (zf (qJ (zI (ju hr.units) (pcm ["_law_way","_law_k"] [none,some 11] cR (zw (pvS 8)) (pgN 0) (zU (zI zcx (zv (JV (K:=K) (by rfl)) (pvS 0) (pvS 1) (λ_ _=>rfl)) zg (zT _))) (pvS 0)) (@zO _ _ _ _ zd) (zT _)) (zf (jj (yH W7 VF VE JD (pvS 9) (za (zv qS (pvS 7) (pvS 11) (λ_ _=>rfl)) zd)))) (zf (qJ (zI (ju hr.units) (pcm ["_law_way","_law_k","_law_heaps"] [none,some 11,some 7] cR (zw (pvS 8)) (pgN 0) (zU (zI zlo (zv (JV (K:=K) (by rfl)) (pvS 0) (pvS 1) (λ_ _=>rfl)) (pb1 (zcy (K:=K) (by rfl)) T.qK Xj (zv (Qm (K:=K) (by rfl)) (pvS 2) (pvS 1) (λ_ _=>rfl))) (zT _))) (pvS 0)) (@zO _ _ _ _ zd) (zT _)) (zf (jj (yH W7 VF VE JD (pvS 10) (za (zv qS (pvS 7) (pvS 11) (λ_ _=>rfl)) zd)))) qa))))) (zf (zx (ql (za (pb1 GS.qY T.jT WG (pvS 9)) (za (pb1 GS.qY T.jT WG (pvS 10)) zd)))))))))))),?_⟩;(try dsimp only[cxK,cxP,cxW]);have o0:∀t∈U,∀c,t=some c->c∈zV I:=λt ht c e=>aM c (by rw[<- e];exact ok.mem t ht);have bC:=ok.len;have tl:tv.length=U.length:=Paired.length hT;have aj:∀i,i<U.length->∃v tg,tv[i]?=some v/\U[i]?=some tg/\xZ H v tg:=λi hi=>by
   obtain⟨v,hv⟩:∃v,tv[i]?=some v:=⟨_,XY (by lia)⟩;obtain⟨tg,bo,r⟩:=x8 hT hv;exact⟨v,tg,hv,bo,r⟩
  refine eF (λv0 G bt ak r0=>?_) (aj 0 (by lia));refine⟨_,rfl,_,rfl,th,_,_,v0,rfl,rfl,SqL.of a9,qi (j:=0) bt,_,rfl,p,l,fa,fc,fs,v0,I,n,G,us,ws,u,st,rfl,b0,R,r0,o0 G (X8 ak),F,ai,λt1 l1 u1 H1 aq ao al s1=>?_⟩;refine di t1 rfl (SqT.of aq) rfl rfl rfl rfl ?_;refine⟨_,rfl,_,rfl,_,_,rfl,?_⟩;have y:∀a∈aT,(((qq u st (akT I n a)).2.countP L:Nat):Int)=(qq u st (akT I n a)).1:=λa ha=>tr.left ha;have aZ:=ok.mem G (X8 ak);refine⟨fun aY H'=>∃(l2:Addr) (u2:AE) (B:AB) (b:Int),aY=[some (.ref p),some (.ref th),some (.ref fa),some (.ref l1),some (.int (qq u st (akT I n G)).1),some (.ref l2),some (.int b),none,none,none,none,none]/\zo H H'/\H' l1=some (.lst u1)/\Cel H' u1 (qq u st (akT I n G)).2/\H' l2=some (.lst u2)/\Cel H' u2 B/\B.length<=20/\B.Nodup/\((B.countP L:Nat):Int)=b/\qd (xr (qq u st (akT I n G)).2 B (qq u st (akT I n G)).1 b)=qd (gsT I n u st U)/\zQ (xr (qq u st (akT I n G)).2 B (qq u st (akT I n G)).1 b)=zQ (gsT I n u st U),?_,?_⟩
  .refine⟨_,rfl,th,_,rfl,.inl (SqL.of (s1 _ _ a9)),rfl,_,rfl,?_⟩;rw[tl];rcases ok with ⟨a,ha,rfl⟩ | ⟨a,c,ha,hc,ne,rfl⟩
   .cases ak;refine qu rfl (cN l1 u1 (dQ rfl s1 ao al (cX ao al (zb5 n u st G ai) (xu I n u st G) (cH (y G ha) ?_ ?_))))
    .exact(zms (y G ha)).1
    .exact(zms (y G ha)).2
   .cases ak;refine eF (λv1 a1 bv ax r1=>?_) (aj 1 (by show 1<2;decide));cases ax;refine qQ rfl ⟨_,rfl,_,rfl,th,_,_,v1,rfl,rfl,SqL.of (s1 _ _ a9),qi (j:=1) bv,_,rfl,p,l,fa,fc,fs,v1,I,n,c,us,ws,u,st,rfl,b0.mono s1,R,r1.mono s1,λd e=>aM d (by rw[<- e];exact hc),F.mono s1,ai,λt2 l2 u2 H2 a8 a6 ay s2=>?_⟩;exact di t2 rfl (SqT.of a8) rfl rfl rfl rfl (cN l2 u2 (dQ rfl (s1.trans s2) (s2 _ _ ao) (al.mono s2) (cX a6 ay (zb5 n u st c ai) (xu I n u st c) (cH (y c hc) rfl rfl))))
  refine λaY H2=>fq λl2 u2 B b z0 s2 aK aF=>eY λa6 ay lB nB=>eN λeB ec es=>?_;subst z0;have nA:=xu I n u st G;have lA:=zb5 n u st G ai;have eA:=y G aZ;clear al ao aq s1 y;generalize (qq u st (akT I n G)).2=m at *
  generalize (qq u st (akT I n G)).1=a at *
  refine⟨_,rfl,_,rfl,_,rfl,_,rfl,l1,l2,u1,u2,m,B,a,b,rfl,aK,a6,aF,ay,lA,lB,λt M wy hv wv H3 ht bj hH aA hW s3=>?_⟩;refine di t rfl (SqT.of ht) rfl rfl rfl rfl ?_;refine⟨jR,λd1 az=>⟨jR,λd2 a3=>?_⟩⟩;have y1:=zc (o:=.lst []) az;have y2:=zc (o:=.lst []) a3;have aQ:d1≠d2:=zh (show upd H3 d1 (.lst []) d1=some (.lst []) from zb) a3;have f2:=y1.free a3;have b6:=y1.trans y2;obtain⟨b4,le⟩:=zme (p:=L) nA nB eA eB;refine⟨_,(cJ rfl (by decide) (by decide) ?_)⟩;have jl:wv.length<=21:=by
   rw[Paired.length hW];have:=Xw (zhQ m B a b) (WC ((Two.both m B).length+1));rw[WL]at this;have:=Xw (λc=>decide (c∈B)) m;have e:(Two.both m B).length<=m.length:=this;exact X6 (by assumption) (by lia)
  have fl:∀i,(((rgA m B a b).take i).flatMap λg=>g.1).length<=60:=λi=>by
   have e:(((rgA m B a b).take i++(rgA m B a b).drop i).flatMap λg=>g.1).length<=60:=by
    rw[W5];show (Two.alone m B++(Two.both m B++(Two.alone B m++[]))).length<=60;have x1:(Two.alone m B).length<=m.length:=Xw _ _;have x2:(Two.both m B).length<=m.length:=Xw _ _;have x3:(Two.alone B m).length<=B.length:=Xw _ _;rw[Xu,X4,X4];lia
   rw[V9,X4]at e;lia
  have bc:∀i,(qd ((rgA m B a b).take i)).length<=60:=λi=>X6 (xj _).length_le (fl i);have bs:∀i,(zQ ((rgA m B a b).take i)).length<=60:=λi=>X6 (xo _).length_le (fl i);refine ja (lo:=0) (n:=3) (λi σ H'=>∃(aB:Option V) (w1 w2:AE),σ=[some (.ref p),some (.ref th),some (.ref fa),some (.ref l1),some (.int a),some (.ref l2),some (.int b),some (.ref M),some (.ref wy),some (.ref d1),some (.ref d2),aB]/\zo H3 H'/\H' d1=some (.lst w1)/\H' d2=some (.lst w2)/\Cel H' w1 (qd ((rgA m B a b).take i))/\Cel H' w2 (zQ ((rgA m B a b).take i))) ⟨_,(cZ [] [] rfl b6 (y2 _ _ zb) zb (.nil) (.nil))⟩ ?_ ?_
  .refine λi σ H4 hi=>fk λaB w1 w2 z0 s4 h1 h2 am an=>?_;subst z0;rw[VY];obtain⟨g,hg⟩:∃g,(rgA m B a b)[i]?=some g:=⟨_,XY (show i<3 from hi)⟩;have aI:(hpA m B)[i]?=some g.1:=by
    have:=congrArg (OU λx:Rg=>x.1) hg;rw[<- XB]at this;exact this
   have bx:=Paired.length hH;obtain⟨x,ar⟩:∃v,hv[i]?=some v:=⟨_,XY (by rw[bx];exact hi)⟩;refine d9 (λg' aH=>d8 λhh uh z0 _ a5 be=>?_) (x8 hH ar);subst z0;rw[aI]at aH;cases aH;refine eN (λaR aS b5=>?_) (zoc b4 le hg);have bD:hh≠d1:=zh a5 az;have bE:hh≠d2:=zh a5 f2;have e1:qd ((rgA m B a b).take (i+1))=qd ((rgA m B a b).take i)++(if g.2.2=0 then g.1 else []):=QB _ hg;have e2:zQ ((rgA m B a b).take (i+1))=zQ ((rgA m B a b).take i)++(if g.2.1=((g.1.length:Nat):Int) then g.1 else []):=QB _ hg;have val:∀{H:Hp} {r:Addr} {j:Nat},H r=some (.tup ((vlW a b j).map V.int))->atI ((vlW a b j).map V.int) (i:Int)=some (.int ((vlW a b j).getD i 0)):=λ{H r j} _=>qi (by
    rw[XB,Xp,XY (show i<(vlW a b j).length from hi)];rfl)
   refine⟨_,rfl,wy,rfl,⟨_,SqL.of (s4 _ _ aA)⟩,λz hz=>?_⟩;refine zM (K:=K) (a:=wy) (xs:=wv) (λa=>a≠z) ((wyL m B a b ((Two.both m B).length+1)).map λj=>if decide (0<(vlW a b j).getD i 0)=true then some (wD a b j) else none) (fun σ=>∃u0,σ=[u0,some (.int (i:Nat))]) hz (λ_ h=>h) ⟨_,rfl⟩ (by rw[ZB];exact(Paired.length hW).symm) (X6 jl (by decide)) (SqL.of (s4 _ _ aA)) ?_ ?_
   .rintro k x o σ H5 hx ho s5 _ ⟨u0,rfl⟩ Y Z aC no;refine eW (λj hj r z0 a7=>?_) (x8 hW hx);subst z0;have N:=s5 _ _ (s4 _ _ a7);have eo:=qt hj ho;refine⟨_,rfl,_,rfl,r,_,_,_,rfl,rfl,SqT.of N,val N,_,_,rfl,rfl,_,rfl,?_⟩;by_cases M:decide (0<(vlW a b j).getD i 0)=true
    .rw[bw M]at eo;exact qQ M ⟨_,rfl,aC _ _ _ _ eo ⟨_,rfl⟩ (zo.refl _) (WyR.rdn ⟨r,rfl,N⟩)⟩
    .rw[bq M]at eo;exact qu (XO.mpr M) (no _ _ eo ⟨_,rfl⟩ (zo.refl _))
   rintro ys H5 s5 aO N;rw[zJ]at N;refine⟨jR,λe he=>?_⟩;have y6:=zc (o:=.lst []) he;refine cO (.list _) (.list []) (.lst (SqL.of (y6 _ _ aO)) (zq.rdv (N.mono y6 λ_ h=>h))) (.lst (SqL.of zb) .nil) (zoP a b _) ⟨_,rfl,?_⟩;rw[bq XU,zoQ];have ab:=s5.trans y6;have ac:=ab _ _ h1;have aE:=ab _ _ h2;have ag:=am.mono ab;have ah:=an.mono ab;have s6:=s4.trans ab;have af:=s6 _ _ bj;have a4:=s6 _ _ a5;have aa:=be.mono s6;have aw:=s6 _ _ aA;clear N aO y6 he hz s5 ab;generalize upd H5 e (.lst [])=H6 at *
   have b1:=bc i;have b2:=bs i;rw[<- ag.length]at b1;rw[<- ah.length]at b2;have gm:g.1.length<=20:=by
    have:=X8 aI;simp only[XI,TN,or_false]at this;rcases this with e | e | e
    .rw[e];exact X6 (Xw _ _) lA
    .rw[e];exact X6 (Xw _ _) lA
    .rw[e];exact X6 (Xw _ _) lB
   rw[<- aa.length]at gm;by_cases hm:g.2.2=0
   .refine qQ (by rw[aR.mpr hm];rfl) ?_;have ba:(if g.2.1=((g.1.length:Nat):Int) then g.1 else [])=[]:=by
     split
     .exact b5 hm (by assumption)
     .rfl
    rw[ba,Xu]at e2;rw[bw hm]at e1;refine⟨_,rfl,.inl ⟨rfl,_,SqL.of ac⟩,_,rfl,_,rfl,M,_,_,_,rfl,rfl,SqL.of af,qi ar,d1,hh,w1,uh,rfl,rfl,ac,a4,?_,_,w1++uh,w2,rfl,λb o e=>?_,zb,?_,?_,?_⟩
    .exact X6 (show w1.length+uh.length<=100 by lia) (by decide)
    .rw[zj (zh e az)];exact s6 _ _ e
    .rw[zj (Vq aQ)];exact aE
    .rw[e1];exact Cel.into d1 _ ac (ag.append aa)
    .rw[e2];exact Cel.into d1 _ ac ah
   refine qu (by rw[XO,ne_eq,TL];exact λz=>hm (aR.mp z)) ?_;rw[bq hm,Xu]at e1;refine⟨_,rfl,wy,rfl,⟨_,SqL.of aw⟩,λz hz=>?_⟩;refine zM (K:=K) (a:=wy) (xs:=wv) (λa=>a≠z) ((wyL m B a b ((Two.both m B).length+1)).map λj=>if decide ((vlW a b j).getD i 0<((g.1.length:Nat):Int))=true then some (wD a b j) else none) (fun σ=>∃u0,σ=[u0,some (.int (i:Nat)),some (.ref M)]) hz (λ_ h=>h) ⟨_,rfl⟩ (by rw[ZB];exact(Paired.length hW).symm) (X6 jl (by decide)) (SqL.of aw) ?_ ?_
   .rintro k x o σ H7 hx ho s7 _ ⟨u0,rfl⟩ Y Z aC no;refine eW (λj hj r z0 a7=>?_) (x8 hW hx);subst z0;have O:=s7 _ _ (s6 _ _ a7);have eo:=qt hj ho;refine⟨_,rfl,_,rfl,r,_,_,_,rfl,rfl,SqT.of O,val O,_,rfl,_,rfl,M,_,_,_,rfl,rfl,SqL.of (s7 _ _ af),qi ar,hh,_,rfl,.inl (SqL.of (s7 _ _ a4)),_,_,rfl,rfl,_,rfl,?_⟩;rw[aa.length];by_cases M:decide ((vlW a b j).getD i 0<((g.1.length:Nat):Int))=true
    .rw[bw M]at eo;exact qQ M ⟨_,rfl,aC _ _ _ _ eo ⟨_,rfl⟩ (zo.refl _) (WyR.rdn ⟨r,rfl,O⟩)⟩
    .rw[bq M]at eo;exact qu (XO.mpr M) (no _ _ eo ⟨_,rfl⟩ (zo.refl _))
   rintro ys H7 s7 aP O;rw[zJ]at O;refine⟨jR,λe he=>?_⟩;have y8:=zc (o:=.lst []) he;refine cO (.list _) (.list []) (.lst (SqL.of (y8 _ _ aP)) (zq.rdv (O.mono y8 λ_ h=>h))) (.lst (SqL.of zb) .nil) (zoP a b _) ⟨_,rfl,?_⟩;rw[bq XU,zoQ];have J:=s7.trans y8;have aD:=J _ _ ac;have ae:=J _ _ aE;have au:=ag.mono J;have av:=ah.mono J;have s8:=s6.trans J;have aJ:=J _ _ af;have bi:=J _ _ a4;have aG:=aa.mono J;clear O aP y8 he hz s7 J;generalize upd H7 e (.lst [])=H8 at *
   by_cases hn:g.2.1=((g.1.length:Nat):Int)
   .refine qQ (by rw[aS.mpr hn];rfl) ?_;rw[bw hn]at e2;refine⟨_,rfl,.inl ⟨rfl,_,SqL.of ae⟩,_,rfl,_,rfl,M,_,_,_,rfl,rfl,SqL.of aJ,qi ar,d2,hh,w2,uh,rfl,rfl,ae,bi,?_,_,w1,w2++uh,rfl,λb o e=>?_,?_,zb,?_,?_⟩
    .exact X6 (show w2.length+uh.length<=100 by lia) (by decide)
    .rw[zj (zh e f2)];exact s8 _ _ e
    .rw[zj aQ];exact aD
    .rw[e1];exact Cel.into d2 _ ae au
    .rw[e2];exact Cel.into d2 _ ae (av.append aG)
   .refine qu (by rw[XO,ne_eq,TL];exact λz=>hn (aS.mp z)) ?_;rw[bq hn,Xu]at e2;exact⟨_,(cZ w1 w2 rfl s8 aD ae (by rw[e1];exact au) (by rw[e2];exact av))⟩
  .refine λσ H4=>fk λaB w1 w2 z0 s4 h1 h2 am an=>?_;subst z0;have b1:=bc 3;have b2:=bs 3;have pm:(rgA m B a b).Perm (xr m B a b):=List.Perm.swap _ _ _;have nd:=zrr a b nA nB;refine⟨_,rfl,d1,w1,_,rfl,SqL.of h1,Cel.tup2 am,(by rw[am.length];lia),λa1 aU p1 ax aq b9 bA=>?_⟩;refine d9 (λq1 z0 bm=>?_) (Jx b9);subst z0;have z3:=zc (o:=.lst aU) ax;refine⟨_,rfl,d2,w2,_,rfl,SqL.of (z3 _ _ h2),Cel.tup2 (an.mono z3),(by rw[an.length];lia),λa2 aV p2 bb a8 b7 aN=>?_⟩;refine d9 (λq2 z0 bn=>?_) (Jx b7);subst z0;have z4:=zc (o:=.lst aV) bb;refine⟨yD,λtt bp=>?_⟩;have z5:=zc (o:=.tup [.ref a1,.ref a2]) bp;have k1:q1.Perm (qd (xr m B a b)):=bm.trans (pm.flatMap_right _);have k2:q2.Perm (zQ (xr m B a b)):=bn.trans (pm.flatMap_right _);have n1:=nd.sublist (xj (xr m B a b));have n2:=nd.sublist (xo (xr m B a b));have x1:=zbm (k1.nodup_iff.mpr n1) bA;have x2:=zbm (k2.nodup_iff.mpr n2) aN;rw[ec]at k1;rw[es]at k2;exact q tt a1 a2 aU aV q1 q2 _ zb (z5 _ _ (z4 _ _ zb)) (z5 _ _ zb) (Cel.mono ((z3.trans z4).trans z5) (qA aq)) (Cel.mono (z4.trans z5) (qA a8)) k1 k2 x1 x2 (s2.trans (s3.trans (s4.trans ((z3.trans z4).trans z5))))
structure zsb (H:Hp)(p l mk sa kn:Addr)(rs:AD)(n:Int)(um sv uk:AE)(gs:List (List Nat))(S:List Stp)(ks:List Tg)(N:Addr->Prop):Prop where
 b:qj H p l rs n
 R:Rows bd.cps.toList rs
 hm:H mk=some (.lst um)
 m:Jb H um gs
 M:yC gs
 ec:codes rs=YG gs
 hs:H sa=some (.lst sv)
 s:Xy (zhN N H) sv S
 ss:zc5 rs n (qP rs) S
 hk:H kn=some (.lst uk)
 k:Xy (xZ H) uk ks
 kk:∀tg∈qP rs,tg∈ks
 s20:(zH rs).length<=20
 L:Lay rs n λc=>decide (c∈stM gs)
def zgN:Sp:=λq H Q _=>∃(p l mk sa e:Addr) (b:AD) (n:Int) (m i j:AE) (g:List (List Nat)) (S:List Stp) (h:List Tg) (N:Addr->Prop),q=[.ref p,.ref mk,.ref sa,.ref e]/\zsb H p l mk sa e b n m i j g S h N /\
 ∀(d f fs:Addr) (o r:AE) (c st:AB) (a:Hp),jz a d f fs o r c st->Way b n (qP b) S c st->zo H a->Q (.ref d) a
def zsc {A P R:Prop}(k:A->P)(h:(A->P)->R):R:=h k
theorem ze8:∀ks:List Tg,V5 (ks.map tgD)=true
 | []=>rfl
 | none::r=>by
  show ((PyData.str "all").canLay0&&V5 (r.map tgD))=true;rw[ze8 r];decide+kernel
 | some _::r=>by
  show (true&&V5 (r.map tgD))=true;rw[ze8 r];rfl
theorem zmt {K:XS}{H:Hp}:∀{b:AE} {a:List Tg},Xy (xZ H) b a->JM K H b (a.map tgD)
 | _,_,.nil=>.nil
 | _,_,.cons h t=>.cons h.rdv (zmt t)
def zrs {ks:List Tg}{t:Tg}(h:t∈ks):(if true=true then !(ks.map tgD).any (λz=>WW z (tgD t)) else (ks.map tgD).any λz=>WW z (tgD t))=false:=by
 rw[bw rfl,Us,WT.mpr ⟨t,h,Pr _ (ze3 t t).l1⟩];rfl
def qy:zD ["_law_board_here","_law_marks","_law_steps","_law_known","_law_finding","_law_things_here","_law_clears","_law_stones","_law_row","_law_column"] ["_law_board_here","_law_marks","_law_steps","_law_known"] (zp Jw):=bh
def zdw (T:Txt mg)(Z:Prog K mg){f:Addr}{fd:XC}(D:zm K mg "_law_walked" Jw ["_law_board_here","_law_marks","_law_steps","_law_known"] f fd):qc P w K mg base CX0 5 f fd ["_law_board_here","_law_marks","_law_steps","_law_known"] zgN:=by
 obtain⟨bp,bo,aO⟩:=Z.law_due;have be:=zhR (P:=P) (w:=w) (base:=base) T Z aO;refine D.F.ok qy (λvs H Q E h=>?_) (λbj A aZ s H vs Q E hr h=>?_)
 .revert h;refine eE λp l mk sa kn rs n um=>eH λsv uk gs S=>eO λks N z0 _=>?_;subst z0;rfl
 .revert h;refine eE λp l mk sa kn rs n um=>eH λsv uk gs S=>eF λks N z0 X q=>?_;subst z0;refine⟨_,(@ze _ _ _ _ _ (@qh _ _ 4 _ _ _ _ qy.nd rfl (V2 rfl) (@ql _ _ _ _ _ (@za _ _ _ _ _ (@zO _ _ _ _ zd) (@za _ _ _ _ _ (@zO _ _ _ _ zd) zd rfl) rfl)) (by rfl) (.inr rfl)) (ze (qx Xc rfl (zw (pvS 2)) (jO rfl (zE (pgq 5 qy.nd) (zE (pgq 6 qy.nd) (zE (pgq 7 qy.nd) qT)))) (ze (qJ (PW.pt (zkv (zeq (YJ Zs Zs zg (pb1 zB T.qK Xj (pvS 5)) zg)) (zgV (PW.pt (za1 (zI YI (pb1 zB T.qK Xj (pvS 5)) zg (zT _)) (Qj (zI (ju hr.units) (zv qS (pvS 5) zg (λ_ _=>rfl)) (zv qS (pvS 5) zg (λ_ _=>rfl)) (zT _)))))))) (@zf _ _ _ (@zx _ _ _ _ YH)) qa) (ze (qJ (PW.pt (zkv (zI (jP hr.units) (pcm ["_law_thing","_law_known"] [none,some 3] cR (zw (pvS 5)) (pgN 0) (zU (zI (qM (K:=K) (by rfl) hr.units) (pvS 0) (pvS 1) (by rfl))) (pvS 0)) (@zO _ _ _ _ zd) (zT _)) (zgV (zI (ju hr.units) (zK JK (pvS 6) (pvS 7)) (@zO _ _ _ _ zd) (zT _))))) (@zf _ _ _ (@zx _ _ _ _ YH)) qa) (ze (qJ (zI (jP hr.units) (ql (za (pvS 6) (za (pvS 7) zd))) (pc0 be hr aO (za (pvS 0) (za (pvS 5) (za (pvS 4) zd)))) (zT _)) (@zf _ _ _ (@zx _ _ _ _ YH)) qa) (zf (jf 4 qy.nd (ql (za (pb1 GS.qY T.jT WG (zK JK (zv qb (pvS 4) zg (λ_ _=>rfl)) (pvS 6))) (za (pb1 GS.qY T.jT WG (zK JK (zv qb (pvS 4) zg (λ_ _=>rfl)) (pvS 7))) zd))))))))) (ze (qx Xc rfl (zw (zv qb (pvS 4) zg (λ_ _=>rfl))) (jO rfl (zE (pgq 8 qy.nd) (zE (pgq 9 qy.nd) qT))) (zf (qJ (zI zdA (zv qS (zv qS (pvS 1) (pvS 8) (λ_ _=>rfl)) (pvS 9) (λ_ _=>rfl)) qC (zT _)) (@zf _ _ _ (@zx _ _ _ _ YH)) qa))) (ze (qx Xc rfl (zw (zv qb (pvS 4) zg (λ_ _=>rfl))) (jO rfl (zE (pgq 8 qy.nd) (zE (pgq 9 qy.nd) qT))) (zf (qJ (zI zdA (zv qS (zv qS (pvS 1) (pvS 8) (λ_ _=>rfl)) (pvS 9) (λ_ _=>rfl)) qC (zT _)) (@zf _ _ _ (@zx _ _ _ _ YH)) qa))) (zf (zx (pvS 4))))))),?_⟩;(try dsimp only[cxK,cxP,cxW]);have aj:=X.L.tr;have ah:=X.s20;refine⟨jR,λG aP=>⟨jR,λI aQ=>⟨yD,λag aR=>?_⟩⟩⟩;have y2:=zc (o:=.lst []) aP;have y3:=zc (o:=.lst []) aQ;have y4:=zc (o:=.tup [.ref G,.ref I]) aR;have F0:jz (upd (upd (upd H G (.lst [])) I (.lst [])) ag (.tup [.ref G,.ref I])) ag G I [] [] [] []:=⟨zb,y4 _ _ (y3 _ _ zb),y4 _ _ zb,.nil,.nil⟩;have s9:=y2.trans (y3.trans y4);clear y2 y3 y4 aP aQ aR;generalize upd (upd (upd H G (.lst [])) I (.lst [])) ag (.tup [.ref G,.ref I])=H9 at *
  refine⟨_,rfl,sa,rfl,⟨_,SqL.of (s9 _ _ X.hs)⟩,?_⟩;refine jF (K:=K) (a:=sa) (xs:=sv) (λi B H'=>∃(w5 w6 w7 w8 w9:Option V) (fa fc fs:Addr) (us ws:AE) (cl st:AB),B=[some (.ref p),some (.ref mk),some (.ref sa),some (.ref kn),some (.ref fa),w5,w6,w7,w8,w9]/\zo H9 H'/\jz H' fa fc fs us ws cl st/\Way rs n (qP rs) (S.take i) cl st)
   (cI (dh (cL ag G I [] (dD [] [] [] rfl (zo.refl _) F0 ⟨.nil,.nil,λ_ h=>h,.nil,.nil,(λ_ h=>nomatch h),λ_ h=>nomatch h⟩)))) (λi B H' _ ⟨_,_,_,_,_,_,_,_,_,_,_,_,_,s',_⟩=>SqL.of (s' _ _ (s9 _ _ X.hs))) ?_ ?_
  .refine λi x B a6 hx=>eE λw5 w6 w7 w8 w9 v U aa=>eX λus1 ab ao ax z0 O F W=>?_;subst z0;refine d9 (λs0 aG=>fC λr tl d1 d2 tv w1 w2 z0 X0=>?_) (x8 X.s hx);subst z0;have d:=s9.trans O;have Y:=X0.mono d;refine eO (λa8 aK W' ok=>?_) (X.ss i s0 aG);have e1:a8=ao:=Qv (W'.p1.trans W.p1.symm) W'.x1 W.x1;have e2:aK=ax:=Qv (W'.p2.trans W.p2.symm) W'.x2 W.x2;subst e1 e2;have wl:=W.len aj ah;have m1:s0.2.1.length<=20:=zc4 (qw ok.x1) (λc hc=>(ok.g1 c hc).1) ah;have m2:s0.2.2.length<=20:=zc4 (qw ok.x2) (λc hc=>(ok.g2 c hc).1) ah;refine d7 r rfl (SqT.of Y.tp) rfl rfl (cI ⟨rfl,(cT rfl rfl ?_)⟩);have ai:tv.length=s0.1.length:=Paired.length Y.t;refine' zsc (A:=True) ?gKey (λaH=>?gTail)
   case gTail =>
    rcases ok.o with ⟨a,ha,ea⟩ | ⟨a,c,ha,hc,ne,ea⟩
    .have el:tv.length=1:=by rw[ai,ea];rfl
     refine⟨_,rfl,tl,_,rfl,.inl (SqL.of Y.h),_,_,rfl,rfl,_,rfl,qQ (br (by lia)) ⟨_,_,rfl,rfl,_,rfl,?_⟩⟩;rw[br (by lia)];exact xX ⟨_,rfl,tl,_,rfl,.inl (SqL.of Y.h),rfl,_,rfl,qu (bf λh=>by have:=V.int.inj h;lia) (xX (aH trivial))⟩
    .have el:tv.length=2:=by rw[ai,ea];rfl
     refine⟨_,rfl,tl,_,rfl,.inl (SqL.of Y.h),_,_,rfl,rfl,_,rfl,qQ (br (by lia)) ⟨_,_,rfl,rfl,_,rfl,?_⟩⟩;rw[br (by lia)];refine xX ⟨_,rfl,tl,_,rfl,.inl (SqL.of Y.h),rfl,_,rfl,qQ (br (by rw[el];rfl)) ?_⟩;have hT:=Y.t;rw[ea]at hT;refine d9 (λv0 g0 r0=>?_) (zoq (i:=0) hT rfl);refine d9 (λv1 g1 r1=>?_) (zoq (i:=1) hT rfl);exact⟨_,rfl,tl,_,_,v0,rfl,rfl,SqL.of Y.h,qi (j:=0) g0,_,rfl,tl,_,_,v1,rfl,rfl,SqL.of Y.h,qi (j:=1) g1,tgD a,tgD c,r0.rdv,r1.rdv,ze3 a c,_,rfl,qu (zqk a c ne) (aH trivial)⟩
   intro _;have bi:=d;refine⟨_,rfl,tl,rfl,⟨_,SqL.of Y.h⟩,λz hz=>?_⟩;have ar:=d _ _ X.hk;refine zM (K:=K) (a:=tl) (xs:=tv) (λa=>a≠z) (s0.1.map λ_=>none) (fun B=>∃u0,B=[u0,some (.ref kn)]) hz (λ_ h=>h) ⟨_,rfl⟩ (by rw[ZB];exact ai.symm) (by rw[ai];exact X6 (show s0.1.length<=2 by rcases ok.o.len with h | h<;>lia) (by decide)) (SqL.of Y.h) ?_ ?_
   .rintro k x o B ac hx ho g _ ⟨u0,rfl⟩ Y' Z bn no;obtain⟨t,ht,rt⟩:=x8 Y.t hx;have eo:=qt ht ho;refine⟨_,rfl,_,rfl,tgD t,ks.map tgD,(rt.mono g).rdv,.lst (SqL.of (g _ _ ar)) (zmt (Paired.imp' (λ_ _ h=>xZ.mono (d.trans g) h) X.k)),(ze3 t t).l1,ze8 _,?_,_,rfl,?_⟩
    .cases t with
     | none=>decide+kernel
     | some c=>show 1<=60;decide
    .rw[zrs (X.kk t (ok.o.mem t (X8 ht)))];exact qu rfl (no _ _ eo ⟨_,rfl⟩ (zo.refl _))
   rintro ys ac g am ae;have eo:(s0.1.map λ_=>(none:Option We)).filterMap id=[]:=by
    rw[List.filterMap_map];exact RQ.mpr λ_ _=>rfl
   rw[eo]at ae;refine⟨jR,λe he=>?_⟩;have ak:=zc (o:=.lst []) he;refine cO (.list []) (.list []) (.lst (SqL.of (ak _ _ am)) (zq.rdv (ae.mono ak λ_ h=>h))) (.lst (SqL.of zb) .nil) (YZ [] []) ⟨_,rfl,qu rfl ?_⟩;have u:=g.trans ak;have Ya:=Y.mono u;have Fa:=F.mono u;clear ae am ak he hz g;generalize upd ac e (.lst [])=Ha at *
   have k1:=Ya.e1.length;have k2:=Ya.e2.length;refine⟨_,rfl,_,rfl,d1,d2,_,_,rfl,rfl,Ya.h1,Ya.h2,X6 (show w1.length+w2.length<=200 by lia) (by decide),λx hx=>?_⟩;have z5:=zc (o:=.lst (w1++w2)) hx;refine⟨jR,λy hy=>?_⟩;have z6:=zc (o:=.lst []) hy;have a5:=z5.trans z6;have Yb:=Ya.mono a5;refine cO (.list ((s0.2.1++s0.2.2).map zk)) (.list (([]:AB).map zk)) (.lst (SqL.of (z6 _ _ zb)) (YF (Yb.e1.append Yb.e2))) (.lst (SqL.of zb) .nil) (YZ _ _) ⟨_,rfl,qu ?_ ?_⟩
   .rw[bq XU];exact(eq_nil _).trans (by
     rw[XO,ne_eq,TL];exact λz=>ok.ne (List.append_eq_nil_iff.mp z))
   have aI:=u.trans a5;have Fb:=Fa.mono a5;clear z5 z6 hx hy;generalize upd (upd Ha x (.lst (w1++w2))) y (.lst [])=Hb at *
   refine⟨_,rfl,_,rfl,yD,λtt aX=>?_⟩;have yt:=zc (o:=.tup [.ref d1,.ref d2]) aX;have aw:=aI.trans yt;have Yt:=Y.mono aw;refine⟨_,rfl,_,rfl,_,rfl,p,l,tl,v,U,aa,rs,n,tv,us1,ab,qP rs,s0.1,a8,aK,_,rfl,X.b.mono (d.trans aw),X.R,Yt.h,Yt.t,ok.o,zgx,F.mono aw,ah,W.tr _ aj,λt a1 a2 v1 v2 b1 b2 Hc ht aB aC g1 g2 p1 p2 x1 x2 av=>?_⟩;have e1:b1=s0.2.1:=Qv (p1.trans ok.p1.symm) x1 ok.x1;have e2:b2=s0.2.2:=Qv (p2.trans ok.p2.symm) x2 ok.x2;have Yc:=Yt.mono av;rw[e1]at g1;rw[e2]at g2;refine dB (jz.rdv ⟨av _ _ zb,Yc.h1,Yc.h2,Yc.e1,Yc.e2⟩) (jz.rdv ⟨ht,aB,aC,g1,g2⟩) (QE _ _) ⟨_,rfl,qu ?_ ?_⟩
   .rw[bw rfl,Pr _ (QE _ _).l1];rfl
   clear ht aB aC g1 g2 Yc Yt Yb Ya Fb Fa;have ay:=aI.trans (yt.trans av);have J:=F.mono ay;have Y2:=Y.mono ay;have aJ:=O.trans ay;have a1:=J.c1.length;have a2:=J.c2.length;have a3:=Y2.e1.length;have a4:=Y2.e2.length;have bm:(20:Nat)<=Xv:=by decide
   refine⟨_,rfl,v,_,0,_,rfl,rfl,SqT.of J.tp,rfl,_,rfl,U,d1,_,_,rfl,rfl,J.h1,Y2.h1,X6 (show us1.length+w1.length<=100 by lia) (by decide),λx hx=>?_⟩;have y2:=zc (o:=.lst (us1++w1)) hx;refine dM x rfl (SqL.of zb) (Cel.tup2 ((J.c1.append Y2.e1).mono y2)) (by rw[X4];lia) (λa9 u1 z1 aE aV ba up1=>?_);refine d9 (λq1 z0 aT=>?_) (Jx ba);subst z0;have y3:=zc (o:=.lst u1) aE;have al:=y2.trans y3;refine⟨_,rfl,v,_,1,_,rfl,rfl,SqT.of (al _ _ J.tp),rfl,_,rfl,aa,d2,_,_,rfl,rfl,al _ _ J.h2,al _ _ Y2.h2,X6 (show ab.length+w2.length<=100 by lia) (by decide),λx' aY=>?_⟩;have y4:=zc (o:=.lst (ab++w2)) aY;have aM:=al.trans y4;refine dM x' rfl (SqL.of zb) (Cel.tup2 ((J.c2.append Y2.e2).mono aM)) (by rw[X4];lia) (λaA u2 z2 aF aW bb bc=>?_);refine d9 (λq2 z0 aU=>?_) (Jx bb);subst z0;have y5:=zc (o:=.lst u2) aF;refine⟨yD,λaS aD=>?_⟩;have y6:=zc (o:=.tup [.ref a9,.ref aA]) aD;have az:=y5.trans y6;have aN:=y4.trans az;refine cI (dh (cL aS a9 aA u1 (dD u2 q1 q2 rfl (aJ.trans (aM.trans az)) ⟨zb,aN _ _ zb,y6 _ _ zb,Cel.mono (y3.trans aN) (qA aV),Cel.mono az (qA aW)⟩ ?_)));rw[take_snoc aG];exact W.next ok aT aU up1 bc
  .refine λB a6=>eE λw5 w6 w7 w8 w9 v U aa=>eX λus1 ab ao ax z0 O F W=>?_;subst z0;rw[Paired.length X.s,XF]at W;have d:=s9.trans O;refine⟨_,rfl,v,_,0,_,rfl,rfl,SqT.of F.tp,rfl,U,rfl,⟨_,SqL.of F.h1⟩,?_⟩;refine jF (K:=K) (a:=U) (xs:=us1) (λi B H'=>∃(w8 w9:Option V),B=[some (.ref p),some (.ref mk),some (.ref sa),some (.ref kn),some (.ref v),w5,w6,w7,w8,w9]/\zo a6 H') ⟨_,_,rfl,zo.refl _⟩ (λi B H' _ ⟨_,_,_,s'⟩=>SqL.of (s' _ _ F.h1)) ?_ ?_
   .refine λi x B ac hx=>eO λw8 w9 z0 g=>?_;subst z0;refine eW (λc hc ca z0 aq=>?_) (Cel.get F.c1 hx);subst z0;have cm:=X8 hc;refine d9 (λt ht hk=>?_) (X.M.mark X.ec (W.s1 c cm));rw[bq λz=>?_]at hk
    .refine d9 (λra au af=>?_) (zb6 (X.m.mono (d.trans g)) ht);refine di ca rfl (SqT.of (g _ _ aq)) rfl rfl rfl rfl ?_;refine⟨_,rfl,_,rfl,mk,_,_,_,rfl,rfl,SqL.of (d.trans g _ _ X.hm),qi au,_,rfl,ra,_,_,_,rfl,rfl,SqL.of af,qi (by rw[XB,hk];rfl),rfl,_,rfl,qu (by decide+kernel) ⟨_,_,rfl,g⟩⟩
    .have:=(W.tr _ aj).no c cm;rw[br z]at this;cases this
   refine λB ac=>eO λw8 w9 z0 g=>?_;subst z0;have J:=F.mono g;refine⟨_,rfl,v,_,1,_,rfl,rfl,SqT.of J.tp,rfl,aa,rfl,⟨_,SqL.of J.h2⟩,?_⟩;refine jF (K:=K) (a:=aa) (xs:=ab) (λi B H'=>∃(w8 w9:Option V),B=[some (.ref p),some (.ref mk),some (.ref sa),some (.ref kn),some (.ref v),w5,w6,w7,w8,w9]/\zo ac H') ⟨_,_,rfl,zo.refl _⟩ (λi B H' _ ⟨_,_,_,s'⟩=>SqL.of (s' _ _ J.h2)) ?_ ?_
   .refine λi x B a7 hx=>eO λw8 w9 z0 u=>?_;subst z0;refine eW (λc hc ca z0 aq=>?_) (Cel.get J.c2 hx);subst z0;have cm:=X8 hc;refine d9 (λt ht hk=>?_) (X.M.mark X.ec (W.s2 c cm));rw[bw (bg ((W.tr _ aj).ye c cm))]at hk;have an:=d.trans (g.trans u);refine d9 (λra au af=>?_) (zb6 (X.m.mono an) ht);exact di ca rfl (SqT.of (u _ _ aq)) rfl rfl rfl rfl ⟨_,rfl,_,rfl,mk,_,_,_,rfl,rfl,SqL.of (an _ _ X.hm),qi au,_,rfl,ra,_,_,_,rfl,rfl,SqL.of af,qi (by rw[XB,hk];rfl),rfl,_,rfl,qu (by decide+kernel) ⟨_,_,rfl,u⟩⟩
   rintro B a7 ⟨w8,w9,rfl,u⟩;exact⟨_,rfl,q v U aa us1 ab ao ax a7 (J.mono u) W (d.trans (g.trans u))⟩
def zsd:Tg->AA->Bool
 | none,_=>true
 | some o,c=>Cells.near c o
def zaX {rs:AD}{a:Tg}{c:AA}:c∈zbN rs a↔c∈zH rs/\zsd a c=true:=by
 cases a with
 | none=>exact⟨λh=>⟨h,rfl⟩,λh=>h.1⟩
 | some o =>
  show c∈clA rs o↔_;rw[zc0,X5];rfl
section
variable {A B:AB}{a b:Int}{L:AA->Bool}{c:AA}
def qI:c∈Two.alone A B↔c∈A/\c ∉ B:=by
 unfold Two.alone;rw[X5];simp
def zgO (A B:AB):A.length=(Two.both A B).length+(Two.alone A B).length:=by
 have:=Wu A (λ_=>true) λc=>decide (c∈B);simpa[Two.both,Two.alone] using this
def Cert (L:AA->Bool)(A B:AB)(c:AA):Prop:=c∈A/\((∀x∈A,L x=true)\/(c ∉ B/\(∀x∈A,x ∉ B->L x=true)/\∀x∈B,x ∉ A->L x=false))
def cert (o:A.Nodup)(q:B.Nodup)(D:((A.countP L:Nat):Int)=a)(E:((B.countP L:Nat):Int)=b)(h:c∈zQ (xr A B a b)):Cert L A B c\/Cert L B A c:=by
 have r:A.countP L=(Two.both A B).countP L+(Two.alone A B).countP L:=Wu A L _;have s:B.countP L=(Two.both B A).countP L+(Two.alone B A).countP L:=Wu B L _;have m:(Two.both B A).Perm (Two.both A B):=(WD (q.sublist Xr) (o.sublist Xr)).mpr λc=>by
  rw[X5,X5,bu,bu];exact And.comm
 have u:(Two.both B A).countP L=(Two.both A B).countP L:=m.countP_eq _;have v:=m.length_eq;have I:=Ws (p:=L) (l:=Two.both A B);have J:=Ws (p:=L) (l:=Two.alone A B);have M:=Ws (p:=L) (l:=Two.alone B A);have G:=zgO A B;have H:=zgO B A;have all:∀{l:AB},l.countP L=l.length->∀x∈l,L x=true:=λe=>SK.mp e;have none:∀{l:AB},l.countP L=0->∀x∈l,L x=false:=λe x d=>XO.mpr (Vr.mp e x d);have pos:∀{l:AB},c∈l->0<l.length:=λh=>Um h;obtain⟨g,hg,d⟩:=V7.mp h;split at d
 case isFalse=>cases d
 rename_i f;have n:(Two.alone A B).countP L=(Two.alone A B).length->(Two.alone B A).countP L=0->c∈Two.alone A B->Cert L A B c:=λx y z=>⟨(qI.mp z).1,.inr ⟨(qI.mp z).2,λw h1 h2=>all x w (qI.mpr ⟨h1,h2⟩),λw h1 h2=>none y w (qI.mpr ⟨h1,h2⟩)⟩⟩;have i:(Two.alone B A).countP L=(Two.alone B A).length->(Two.alone A B).countP L=0->c∈Two.alone B A->Cert L B A c:=λx y z=>⟨(qI.mp z).1,.inr ⟨(qI.mp z).2,λw h1 h2=>all x w (qI.mpr ⟨h1,h2⟩),λw h1 h2=>none y w (qI.mpr ⟨h1,h2⟩)⟩⟩;rcases XI.mp hg with rfl | hg
 .have d:c∈Two.both A B:=d;have p:=pos d;have j:=X5.mp d;have f:j8 A B a b=(((Two.both A B).length:Nat):Int):=f;have z:A.countP L=A.length\/B.countP L=B.length:=by
   unfold j8 mx3 at f;split at f<;>split at f<;>lia
  rcases z with z | z
  .exact .inl ⟨j.1,.inl (all z)⟩
  .exact .inr ⟨bg j.2,.inl (all z)⟩
 .rcases XI.mp hg with rfl | hg
  .have d:c∈Two.alone A B:=d;have p:=pos d;have f:a-jx A B a b=(((Two.alone A B).length:Nat):Int):=f;have z:A.countP L=A.length\/((Two.alone A B).countP L=(Two.alone A B).length/\(Two.alone B A).countP L=0):=by
    unfold jx mn3 at f;split at f<;>split at f<;>lia
   rcases z with z | z
   .exact .inl ⟨(qI.mp d).1,.inl (all z)⟩
   .exact .inl (n z.1 z.2 d)
  .rw[Wl.mp hg]at d f;have d:c∈Two.alone B A:=d;have p:=pos d;have f:b-jx A B a b=(((Two.alone B A).length:Nat):Int):=f;have z:B.countP L=B.length\/((Two.alone B A).countP L=(Two.alone B A).length/\(Two.alone A B).countP L=0):=by
    unfold jx mn3 at f;split at f<;>split at f<;>lia
   rcases z with z | z
   .exact .inr ⟨(qI.mp d).1,.inl (all z)⟩
   .exact .inr (i z.1 z.2 d)
def zi6 (f:A.Nodup)(g:B.Nodup)(u:((A.countP L:Nat):Int)=a)(v:((B.countP L:Nat):Int)=b)(h:c∈A)(n:c ∉ B)(j:∀x∈A,x ∉ B->L x=true)(i:∀x∈B,x ∉ A->L x=false):c∈zQ (xr A B a b)/\c∈zQ (xr B A b a):=by
 have o:A.countP L=(Two.both A B).countP L+(Two.alone A B).countP L:=Wu A L _;have q:B.countP L=(Two.both B A).countP L+(Two.alone B A).countP L:=Wu B L _;have e:(Two.both B A).Perm (Two.both A B):=(WD (g.sublist Xr) (f.sublist Xr)).mpr λc=>by
  rw[X5,X5,bu,bu];exact And.comm
 have r:(Two.both B A).countP L=(Two.both A B).countP L:=e.countP_eq _;have s:=e.length_eq;have w:=Ws (p:=L) (l:=Two.both A B);have y:(Two.alone A B).countP L=(Two.alone A B).length:=SK.mpr λx d=>j x (qI.mp d).1 (qI.mp d).2;have z:(Two.alone B A).countP L=0:=Vr.mpr λx d=>by
  rw[i x (qI.mp d).1 (qI.mp d).2];exact XU
 have m:=qI.mpr ⟨h,n⟩;constructor
 .refine V7.mpr ⟨_,XV _ XR,?_⟩;rw[bw]
  .exact m
  .show a-jx A B a b=(((Two.alone A B).length:Nat):Int);unfold jx mn3;repeat' split
   all_goals lia
 .refine V7.mpr ⟨_,XV _ (XV _ XR),?_⟩;rw[bw]
  .exact m
  .show a-jx B A b a=(((Two.alone A B).length:Nat):Int);unfold jx mn3;repeat' split
   all_goals lia
end
structure More (rs rs':AD)(n:Int)(L:AA->Bool)(cl st' cl':AB):Prop where
 sh:∀c,c∈zH rs'↔c∈zH rs/\c ∉ cl
 op:∀c∈zV rs,c∈zV rs'
 tr:Ja (qf rs' n (qP rs')) L cl' st'
 cd:∀t∈zbn (qf rs' n (qP rs')),Emp rs' n (qP rs') cl' st' t
section
variable {rs rs':AD}{n:Int}{L:AA->Bool}{cl st' cl':AB}
def zhS {a:Tg}(h:a∈qP rs'):∃i,i<(qf rs' n (qP rs')).length/\(qP rs').getD i none=a:=by
 obtain⟨i,b⟩:=UK h;refine⟨i,?_,?_⟩
 .unfold qf;rw[ZB];exact(XX.mp b).1
 .rw[Xp,b];rfl
def More.mem (M:More rs rs' n L cl st' cl'){a:Tg}(b:a∈qP rs){c:AA}(d:c∈zbN rs' a):a∈qP rs':=by
 rcases XM.mp b with h | h
 .obtain⟨o,e,rfl⟩:=XN.mp h;refine WX _ (XN.mpr ⟨o,X5.mpr ⟨M.op o (X5.mp e).1,?_⟩,rfl⟩);exact WF _ |>.mpr (Vn.mpr (Uq d))
 .rw[Wl.mp h];exact WV _ XR
def More.one (M:More rs rs' n L cl st' cl'){a:Tg}(l:a∈qP rs){c:AA}(f:c∈(qq cl' st' (akT rs' n a)).2)(j:∀x∈(qq cl' st' (akT rs' n a)).2,L x=true):False:=by
 have d:=M.mem l (jW.mp f).1;obtain⟨i,m,e⟩:=zhS (n:=n) d;have:=M.cd [i] (zeV.mpr (.inl ⟨i,m,rfl⟩));unfold Emp at this;rw[XD,TV,e]at this;have z:=(zi6 (B:=[]) (xu rs' n cl' st' a) VX (M.tr.left d) rfl f (λh=>nomatch h) (λx b _=>j x b) λx b=>nomatch b).1;have g:c∈zQ (gsT rs' n cl' st' [a]):=z;rw[this]at g;cases g
def More.two (M:More rs rs' n L cl st' cl'){a b:Tg}(s:a∈qP rs)(A:b∈qP rs)(ab:a≠b){c:AA}(u:c∈(qq cl' st' (akT rs' n a)).2)(E:c ∉ (qq cl' st' (akT rs' n b)).2)(y:∀x∈(qq cl' st' (akT rs' n a)).2,x ∉ (qq cl' st' (akT rs' n b)).2->L x=true)(D:∀x∈(qq cl' st' (akT rs' n b)).2,x ∉ (qq cl' st' (akT rs' n a)).2->L x=false):False:=by
 by_cases v:∃x∈zbN rs' a,x∈zbN rs' b
 .obtain⟨x,o,p⟩:=v;have q:=M.mem s o;have r:=M.mem A p;obtain⟨i,l,e⟩:=zhS (n:=n) q;obtain⟨j,m,f⟩:=zhS (n:=n) r;have d:∀{i:Nat},i<(qf rs' n (qP rs')).length->(qf rs' n (qP rs')).getD i (0,[])=akT rs' n ((qP rs').getD i none):=λ{i} h=>by
   unfold qf at *
   rw[ZB]at h;rw[Xp,Xp,XB,XY h];rfl
  have z:=zi6 (xu rs' n cl' st' a) (xu rs' n cl' st' b) (M.tr.left q) (M.tr.left r) u E y D;rcases S1 i j with h | h | h
  .have mt:Y6 (qf rs' n (qP rs')) i j=true:=by
    unfold Y6;rw[d l,d m,e,f];exact WT.mpr ⟨x,o,br p⟩
   have:=M.cd [i,j] (zeV.mpr (.inr ⟨i,j,h,m,mt,rfl⟩));unfold Emp at this;rw[XD,XD,TV,e,f]at this;have g:c∈zQ (gsT rs' n cl' st' [a,b]):=z.1;rw[this]at g;cases g
  .exact ab (by rw[<- e,<- f,h])
  .have mt:Y6 (qf rs' n (qP rs')) j i=true:=by
    unfold Y6;rw[d l,d m,e,f];exact WT.mpr ⟨x,p,br o⟩
   have:=M.cd [j,i] (zeV.mpr (.inr ⟨j,i,h,l,mt,rfl⟩));unfold Emp at this;rw[XD,XD,TV,e,f]at this;have g:c∈zQ (gsT rs' n cl' st' [b,a]):=z.2;rw[this]at g;cases g
 .exact M.one s u λx w=>y x w λB=>v ⟨x,(jW.mp w).1,(jW.mp B).1⟩
def More.step (M:More rs rs' n L cl st' cl'){d e c1 H:AB}{G:List Tg}(t:Ja (qf rs n (qP rs)) L d e)(ok:Y7 rs n (qP rs) d e G c1 H)(fl:∀c∈cl,L c=false)(h1:∀c∈d,c∈cl)(h2:∀c∈e,c∈st'):∀c∈H,c∈st':=λc J=>UT λO=>by
 have g:=ok.g2 c J;have D:=ok.p2.mem_iff.mp J;have A:=(t.ok ok.o).1.stone D;have E:c ∉ cl:=λz=>by
  rw[fl c z]at A;cases A
 have m:c ∉ cl':=λz=>by
  rw[M.tr.no c z]at A;cases A
 have U:=(M.sh c).mpr ⟨g.1,E⟩;have i:∀{a:Tg} {x:AA},x∈(qq cl' st' (akT rs' n a)).2->x∈(qq d e (akT rs n a)).2:=λ{a x} f=>by
  obtain⟨p,q,r⟩:=jW.mp f;obtain⟨p1,p2⟩:=zaX.mp p;obtain⟨p3,p4⟩:=(M.sh x).mp p1;exact jW.mpr ⟨zaX.mpr ⟨p3,p2⟩,λz=>q (h2 x z),λz=>p4 (h1 x z)⟩
 have s:∀{a:Tg} {x:AA},x∈(qq d e (akT rs n a)).2->x∈zH rs'->x ∉ st'->x ∉ cl'->x∈(qq cl' st' (akT rs' n a)).2:=λ{a x} f w1 w2 w3=>jW.mpr ⟨zaX.mpr ⟨w1,(zaX.mp (jW.mp f).1).2⟩,w2,w3⟩;have N:∀{a b:Tg} {x:AA},x∈(qq cl' st' (akT rs' n a)).2->x ∉ (qq cl' st' (akT rs' n b)).2->x ∉ (qq d e (akT rs n b)).2:=λ{a b x} f w hz=>w (s hz (zaX.mp (jW.mp f).1).1 (jW.mp f).2.1 (jW.mp f).2.2);have I:∀{a b:Tg},a∈qP rs->b∈qP rs->a≠b->Cert L (qq d e (akT rs n a)).2 (qq d e (akT rs n b)).2 c->False:=λ{a b} j u Y v=>by
  have l:=s v.1 U O m;rcases v.2 with B | ⟨n1,ya,nb⟩
  .exact M.one j l λx f=>B x (i f)
  .exact M.two j u Y l (λz=>n1 (i z)) (λx f w=>ya x (i f) (N f w)) λx f w=>nb x (i f) (N f w)
 rcases ok.o with ⟨a,j,rfl⟩ | ⟨a,b,j,u,Q,rfl⟩
 .have z:c∈zQ (xr (qq d e (akT rs n a)).2 [] (qq d e (akT rs n a)).1 0):=D;rcases cert (xu rs n d e a) VX (t.left j) rfl z with k | k
  .have l:=s k.1 U O m;exact M.one j l λx f=>k.2.elim (λB=>B x (i f)) λy=>y.2.1 x (i f) λh=>nomatch h
  .cases k.1
 .have z:c∈zQ (xr (qq d e (akT rs n a)).2 (qq d e (akT rs n b)).2 (qq d e (akT rs n a)).1 (qq d e (akT rs n b)).1):=D;rcases cert (xu rs n d e a) (xu rs n d e b) (t.left j) (t.left u) z with k | k
  .exact I j u Q k
  .exact I u j (Vq Q) k
def More.all (M:More rs rs' n L cl st' cl'){S:List Stp}{st:AB}(g:Ja (qf rs n (qP rs)) L [] [])(W:Way rs n (qP rs) S cl st)(j:zc5 rs n (qP rs) S):∀c∈st,c∈st':=by
 have d:∀i,i<=S.length->∀c∈(S.take i).flatMap (λs=>s.2.2),c∈st':=by
  intro i;induction i with
  | zero=>exact λ_ c hc=>nomatch hc
  | succ i f =>
   intro o c hc;obtain⟨s,e⟩:∃s,S[i]?=some s:=⟨_,XY (by lia)⟩;rw[take_snoc e,V9,VH,TK,Xu]at hc;rcases XM.mp hc with hc | hc
   .exact f (by lia) c hc
   .obtain⟨h,m,b,ok⟩:=j i s e;refine M.step (b.tr L g) ok (λx a=>(W.tr L g).no x a) (λx a=>?_) (λx a=>f (by lia) x (b.p2.mem_iff.mp a)) c hc;have:=b.p1.mem_iff.mp a;obtain⟨l,h1,h2⟩:=V7.mp this;exact W.p1.mem_iff.mpr (V7.mpr ⟨l,Wc h1,h2⟩)
 intro c hc;have:=d S.length (XT _) c;rw[XF]at this;exact this (W.p2.mem_iff.mp hc)
end
def cnN (gs:List (List Nat))(c:AA):Nat:=((stM gs).filter λx=>Cells.near x c).length
def J3 (gs:List (List Nat))(cs:AB):KV1:=cs.foldl (λa c=>putK a (jN c) (V.int (cnN gs c:Nat))) []
def zkq (gs:List (List Nat))(cs:AB)(c:AA):J3 gs (cs++[c])=putK (J3 gs cs) (jN c) (V.int (cnN gs c:Nat)):=by
 unfold J3;rw[UN];rfl
def zoT (gs:List (List Nat))(c:AA):cnN gs c<=8:=Y9 gs c
def zkr {cs cs':AB}(gs:List (List Nat)){N:Nat}{b:KV1}(d:Nums cs N b)(h:∀c∈cs',c∈cs):Nums cs (N+cs'.length) (cs'.foldl (λa c=>putK a (jN c) (V.int (cnN gs c:Nat))) b):=by
 induction cs' generalizing N b with
 | nil=>exact d
 | cons c r f =>
  have:=f (d.put (w:=V.int (cnN gs c:Nat)) ⟨c,h c XR,cnN gs c,zoT gs c,rfl,rfl⟩) λx e=>h x (XV _ e);rw[Xo,Nat.add_comm r.length 1,<- Nat.add_assoc];exact this
def zhT (gs:List (List Nat))(cs:AB):Nums cs cs.length (J3 gs cs):=by
 have:=zkr gs (Nums.nil cs 0) (cs':=cs) λ_ h=>h;rw[Wa]at this;exact this
def zoU (gs:List (List Nat))(cs:AB)(c:AA)(k:Nat):dig (J3 gs cs) c k=if c∈cs then 48+cnN gs c else k:=by
 have f:∀(cs:AB) (b:KV1),jb (cs.foldl (λa c=>putK a (jN c) (V.int (cnN gs c:Nat))) b) (jN c)=if c∈cs then some (V.int (cnN gs c:Nat)) else jb b (jN c):=λcs=>by
  induction cs with
  | nil=>exact λb=>(bq (λh=>nomatch h)).symm
  | cons d r g =>
   intro b;rw[VW,g];by_cases h:c∈r
   .rw[bw h,bw (XV _ h)]
   .rw[bq h,zcf];by_cases e:c=d
    .subst e;rw[bw rfl,bw XR]
    .rw[bq λz=>e (zcV z),bq λz=>(XI.mp z).elim e h]
 unfold dig J3;rw[f];by_cases h:c∈cs
 .rw[bw h,bw h];show 48+((cnN gs c:Nat):Int).toNat=_;rw[Vv]
 .rw[bq h,bq h];rfl
section
variable {gs:List (List Nat)}{rs:AD}{cs:AB}
def zmu {p:Nat->Bool}{c:AA}(h:c∈Cells.zC p 0 (codes (yQ (J3 gs cs) rs))):∃t k,rs[c.1]?=some t/\t.cps.toList[c.2]?=some k/\p (if c∈cs then 48+cnN gs c else k)=true/\Cells.sgn (codes (yQ (J3 gs cs) rs)) c=if c∈cs then 48+cnN gs c else k:=by
 obtain⟨i,j⟩:=c;refine d8 (λu c h1 h2 b d=>?_) (zR h);have h1:(yQ (J3 gs cs) rs)[i]?=some u:=h1;have h2:u.cps.toList[j]?=some c:=h2;obtain⟨t,a⟩:∃t,rs[i]?=some t:=⟨_,XY (by
  rw[<- JJ (J3 gs cs) rs];exact(XX.mp h1).1)⟩
 rw[zaQ a]at h1;cases h1;rw[ZN]at h2;obtain⟨k,hk⟩:∃k,t.cps.toList[j]?=some k:=⟨_,XY (by
  have:=(XX.mp h2).1;unfold jM at this;rwa [Wb]at this)⟩
 rw[QA hk,zoU]at h2;cases h2;exact cO t k a hk b d
def zmv {p:Nat->Bool}{c:AA}{t:Str}{k:Nat}(b:rs[c.1]?=some t)(hk:t.cps.toList[c.2]?=some k)(a:p (if c∈cs then 48+cnN gs c else k)=true):c∈Cells.zC p 0 (codes (yQ (J3 gs cs) rs)):=by
 have:=j6 (p:=p) (i:=0) (qG (zaQ (kvs:=J3 gs cs) b)) (by rw[ZN];exact QA hk) (by rw[zoU];exact a);rwa [Wa]at this
def zgP {p:Nat->Bool}{c:AA}{t:Str}{k:Nat}(b:rs[c.1]?=some t)(hk:t.cps.toList[c.2]?=some k)(a:p k=true):c∈Cells.zC p 0 (codes rs):=by
 have:=j6 (p:=p) (i:=0) (qG b) hk a;rwa [Wa]at this
def zgQ (c:AA):c∈zH (yQ (J3 gs cs) rs)↔c∈zH rs/\c ∉ cs:=by
 have e:=zoT gs c;constructor
 .intro h;refine d8 (λt k d hk a _=>?_) (zmu h);by_cases b:c∈cs
  .rw[bw b]at a;have:48+cnN gs c=63:=bg a;lia
  .rw[bq b]at a;exact⟨zgP d hk a,b⟩
 .rintro⟨h,b⟩;obtain⟨t,k,d,hk,a,_⟩:=zR h;exact zmv d hk (by rw[bq b];exact a)
def zmw {c:AA}(h:c∈zV rs)(h2:c∈zH rs):False:=by
 obtain⟨t,k,f,hk,e,_⟩:=zR h;obtain⟨i,g,b,a,d,_⟩:=zR h2;rw[f]at b;cases b;rw[hk]at a;cases a;rw[show k=63 from bg d]at e;cases e
def zmx (sub:∀c∈cs,c∈zH rs){c:AA}(h:c∈zV rs):c∈zV (yQ (J3 gs cs) rs):=by
 obtain⟨t,k,b,hk,a,_⟩:=zR h;exact zmv b hk (by rw[bq λz=>zmw h (sub c z)];exact a)
def zoe (M:yC gs)(b:codes rs=YG gs)(sub:∀c∈cs,c∈zH rs)(h:∀c∈cs,c ∉ stM gs):Lay (yQ (J3 gs cs) rs) ((stM gs).length:Nat) λc=>decide (c∈stM gs):=by
 refine zi4 (zc9 gs) (λc a=>(zgQ c).mpr ⟨ze2 b a,λz=>h c z a⟩) λo g=>?_;refine d8 (λt k e hk d f=>?_) (zmu g);unfold jw;rw[f];by_cases a:o∈cs
 .rw[bw a];show (((48+cnN gs o:Nat)):Int)-48=((cnN gs o:Nat):Int);lia
 .rw[bq a]at d ⊢;have:=M.num b (zgP e hk d);unfold jw at this;rw[Cells.QY (qG e) hk]at this;exact this
end
def zrt (rs:AD)(o:AA):((zH rs).filter λc=>Cells.near o c)=clA rs o:=by
 rw[zc0];exact Vt λx _=>Cells.zjU _ _
def zi7 {K:XS}{i:Hp}{u j z:Addr}{wc wo:AE}{rs:AD}{u1:Option V}{Q:VK}(R:Rows bd.cps.toList rs)(N:i u=some (.lst wc))(l:Cel i wc (zH rs))(O:i j=some (.lst wo))(m:Cel i wo (zV rs))(hz:i z=none)(q:∀ys n,zo i n->n z=some (.lst ys)->ys.length=(nbC rs).length->Q (.ref z) n) :
  yJ (Itl K j) (yS 0) (zlp (tOp (zkJ K true) (zam (zkB K (tVS 1)) [none,some 0] (yS 0) (fun s H Q=>zib zeY [] E0 (zbp (tVS 1) (zbp (tVS 0) zgZ)) s H λx n=>∃k,zmQ K x n k/\Q k n) (tVS 0)) (zqN zgZ))) (tVS 0) Q z [u1,some (.ref u)] (upd i z (.lst [])):=by
 refine zM (K:=K) (a:=j) (xs:=wo) (λa=>a≠z) ((zV rs).map λo=>if (!(clA rs o).isEmpty)=true then some (zk o) else none) (fun s=>∃u0,s=[u0,some (.ref u)]) hz (λ_ h=>h) ⟨_,rfl⟩ (by rw[ZB];exact m.length.symm) (by rw[m.length];exact X6 (qO R) (by decide)) (SqL.of O) ?_ ?_
 .rintro k x o s J hx ho p ai ⟨u0,rfl⟩ Y Z ag no;refine eW (λy hy xa z0 D=>?_) (Cel.get m hx);subst z0;have I:=qt hy ho;have g:=p _ _ N;have w:=l.mono p;refine⟨_,rfl,u,rfl,⟨_,SqL.of g⟩,λz2 ab=>?_⟩;refine zM (K:=K) (a:=u) (xs:=wc) (λa=>a≠z2) ((zH rs).map λc=>if Cells.near y c=true then some (zk c) else none) (fun s=>∃u1,s=[u1,some (.ref xa)]) ab (λ_ h=>h) ⟨_,rfl⟩ (by rw[ZB];exact l.length.symm) (by rw[l.length];exact X6 (qO R) (by decide)) (SqL.of g) ?_ ?_
  .rintro k2 x2 o2 aj H9 aa U r _ ⟨u1,rfl⟩ Y2 Z2 G af;refine eW (λc hc ca z0 v=>?_) (Cel.get (w.mono r) aa);subst z0;have d:=qt hc U;refine⟨_,rfl,_,rfl,xa,ca,y,c,rfl,r _ _ (p _ _ D),v,_,rfl,?_⟩;by_cases f:Cells.near y c=true
   .rw[bw f]at d;exact qQ f ⟨_,rfl,G _ _ _ _ d ⟨_,rfl⟩ (zo.refl _) (jU.rdn ⟨ca,rfl,v⟩)⟩
   .rw[bq f]at d;exact qu (XO.mpr f) (af _ _ d ⟨_,rfl⟩ (zo.refl _))
  rintro ah H9 r ae B;rw[zJ,zrt]at B;have M:Cel H9 ah (clA rs y):=zq.cel B;refine⟨jR,λe he=>?_⟩;have E:=zc (o:=.lst []) he;refine cO (.list ((clA rs y).map zk)) (.list []) (.lst (SqL.of (E _ _ ae)) (YF (M.mono E))) (.lst (SqL.of zb) .nil) (YZ _ []) ⟨_,rfl,?_⟩;have ee:(if true=true then !PyData.eqv (.list ((clA rs y).map zk)) (.list []) else WW (.list ((clA rs y).map zk)) (.list []))=!(clA rs y).isEmpty:=congrArg (λb=>!b) (eq_nil _);rw[ee];by_cases f:(!(clA rs y).isEmpty)=true
  .rw[bw f]at I;exact qQ f ⟨_,rfl,ag _ _ _ _ I ⟨_,rfl⟩ (r.trans E) (jU.rdn ⟨xa,rfl,E _ _ (r _ _ (p _ _ D))⟩)⟩
  .rw[bq f]at I;exact qu (XO.mpr f) (no _ _ I ⟨_,rfl⟩ (r.trans E))
 rintro ys J p ac A;rw[zJ]at A;have L:Cel J ys (nbC rs):=zq.cel A;exact q ys J p ac L.length
def zmy {H c:Hp}(s:∀b vs,H b=some (.tup vs)->c b=some (.tup vs)){vs:AE}{cs:AB}(d:Cel H vs cs):Cel c vs cs:=Paired.imp' (λ_ _ ⟨a,e,h⟩=>⟨a,e,s a _ h⟩) d
def zi8:Sp:=λc H Q _=>∃(p l:Addr) (a:AD) (n:Int) (L:AA->Bool),c=[.ref p]/\qj H p l a n/\Rows bd.cps.toList a/\0<=n/\(zH a).length<=14/\Lay a n L/\30<(nbC a).length/\∀b,zo H b->Q (.bl true) b
def zi9 (K:XS):Sp:=λd H Q _=>∃(a:Addr) (b:List Int),d=[.ref a]/\SqL K H a (b.map V.int)/\b.length<=63/\∀c,Q (.bl true) c
def Yz:zD ["_law_board_here","_law_refused"] ["_law_board_here"] (zp Zk):=bh
def ze9 (T:Txt mg)(j:QH K mg "NoLaying" jaa)(a:QH K mg "TooGreat" jab)(v:Tx K jab (.ref jab)=some true)(Z:Prog K mg){f:Addr}{fd:XC}(D:zm K mg "_law_great" Zk ["_law_board_here"] f fd):qc P w K mg base CX0 9 f fd ["_law_board_here"] zi8:=by
 obtain⟨Y,U,d⟩:=Z.thoughts;have G:=zbC (P:=P) (w:=w) (base:=base) T Z j a d;refine D.F.ok Yz (λO H Q E h=>?_) (λI A m s H O Q E M h=>?_)
 .revert h;refine eH λp l u n=>d9 λL z0 _=>?_;subst z0;rfl
 .revert h;refine fy λp l u n L z0 B R N=>eZ λo J i q=>?_;subst z0;refine⟨_,(@ze _ _ _ _ _ (@qh _ _ 1 _ _ _ _ Yz.nd rfl (V2 rfl) zfg (by rfl) (.inr rfl)) (zbU (zlq rfl rfl G (M.mono (by decide)) (by rfl) d.g d.F.kp d.b (by rfl) a (za (pvS 0) zd) (λ_=>(@zf _ _ _ (@qh _ _ 1 _ _ _ _ Yz.nd rfl (V2 rfl) zfg (by rfl) (.inr rfl))))) (zf (zx (pvS 1))))),?_⟩;(try dsimp only[cxK,cxP,cxW]);refine⟨fun c x=>c=[some (.ref p),some (.bl true)]/\zo H x,?_,?_⟩
  .exact⟨_,rfl,p,l,u,n,L,rfl,B,R,N,o,J,λ_ y r=>(cK jab rfl v (λe he=>⟨rfl,r.trans (zc he)⟩)),λz=>absurd i (by lia)⟩
  .rintro c y ⟨rfl,r⟩;exact⟨_,rfl,q _ r⟩
def yp:zD ["_law_script","_law_marks","_law_board_here","_law_cells_here","_law_opens","_law_steps","_law_found","_law_finding","_law_numbers","_law_stones","_law_cell","_law_other","_law_more","_law_left","_law_behind"] ["_law_script"] (zp zf3):=bh
def zqn (T:Txt mg)(ba:QH K mg "NoLaying" jaa)(bb:QH K mg "TooGreat" jab)(FG:Tx K jab (.ref jab)=some true)(Z:Prog K mg){f:Addr}{fd:XC}(D:zm K mg "law" zf3 ["_law_script"] f fd):qc P w K mg base CX0 10 f fd ["_law_script"] (zi9 K):=by
 obtain⟨cx,cz,qZ⟩:=Z.law_cell_at;obtain⟨c0,c7,Zp⟩:=Z.law_mixed;obtain⟨cC,c3,Yw⟩:=Z.law_mark;obtain⟨c4,c8,bo⟩:=Z.law_drawn;obtain⟨cv,ct,qH⟩:=Z.law_near;obtain⟨cr,cq,qg⟩:=Z.law_cells;obtain⟨c5,c9,bp⟩:=Z.law_board;obtain⟨c6,cA,Qc⟩:=Z.law_great;obtain⟨cB,cy,bn⟩:=Z.law_walked;obtain⟨cE,cD,bv⟩:=Z.opened;obtain⟨cw,cu,jX⟩:=Z.thoughts;have bP:=ze0 (P:=P) (w:=w) (base:=base) T bo qZ Zp Yw;have Q8:=Y8 (P:=P) (w:=w) (base:=base) T qH;have xW:=Yu (P:=P) (w:=w) (base:=base) T qg;have bQ:=ze1 (P:=P) (w:=w) (base:=base) T bp qH qg;have bR:=zkh (P:=P) (w:=w) (base:=base) T bv;have bO:=zdw (P:=P) (w:=w) (base:=base) T Z bn;have bt:=ze9 (P:=P) (w:=w) (base:=base) T ba bb FG Z Qc;have YA:=zbC (P:=P) (w:=w) (base:=base) T Z ba bb jX;refine D.F.ok yp (λvs H Q E h=>?_) (λbY A bJ s H vs Q E n h=>?_)
 .obtain⟨a,ns,rfl,_⟩:=h;rfl
 .revert h;refine d8 λa ns z0 hS nl q=>?_;subst z0;refine⟨_,(ze (jf 1 yp.nd (pc0 bP n bo (za (pvS 0) (@za _ _ _ _ _ zg (@za _ _ _ _ _ zg zd rfl) rfl)))) (ze (jf 2 yp.nd (pc0 bQ n bp (za (pvS 1) zd))) (ze (jf 3 yp.nd (pc0 xW n qg (za (pvS 1) (@za _ _ _ _ _ (@zO _ _ _ _ (@za _ _ _ _ _ qC (@za _ _ _ _ _ qC zd rfl) rfl)) zd rfl)))) (ze (jf 4 yp.nd (pc0 xW n qg (za (pvS 1) (@za _ _ _ _ _ (@zO _ _ _ _ (@za _ _ _ _ _ qC zd rfl)) zd rfl)))) (ze (qJ (zI zcx (pb1 zB T.qK Xj (zpK ["_law_one","_law_cells_here"] [none,some 3] (c1 (y:="_law_one")) (zw (pvS 4)) (pgN 0) (zU (zI (YN (K:=K) (by rfl) n.units) (pcm ["_law_cell","_law_one"] [none,some 0] cR (zaq (K:=K) (by rfl) (pvS 1)) (pgN 0) (zU (yq (K:=K) (by rfl) (pc0 Q8 n qH (za (pvS 1) (za (pvS 0) zd))) (λ_=>rfl))) (pvS 0)) (@zO _ _ _ _ zd) (zT _))) (pvS 0))) zg (zT _)) (zf (zx (pc0 bt n Qc (za (pvS 2) zd)))) qa) (ze (zer (pcX YA n jX (za (pvS 2) zd)) (jO rfl (zE (pgq 5 yp.nd) (zE (pgq 6 yp.nd) qT)))) (ze (jf 7 yp.nd (pc0 bO n bn (za (pvS 2) (za (pvS 1) (za (pvS 5) (za (zK JK (pvS 4) (@zO _ _ _ _ (@za _ _ _ _ _ qC zd rfl))) zd)))))) (ze (qJ (PW.pt (zkv (zI zph (pvS 7) YH (zT _)) (zgV (zI (jP n.units) (pvS 7) (pvS 6) (zT _))))) (@zf _ _ _ (@zx _ _ _ _ zfg)) qa) (@ze _ _ _ _ _ (@qh _ _ 8 _ _ _ _ yp.nd rfl (V2 rfl) zkW (by rfl) (.inr rfl)) (ze (jf 9 yp.nd (pc0 xW n qg (za (pvS 1) (@za _ _ _ _ _ (@zO _ _ _ _ (@za _ _ _ _ _ qC zd rfl)) zd rfl)))) (ze (qx Xc rfl (zw (zv qb (pvS 7) zg (λ_ _=>rfl))) (pgq 10 yp.nd) (zf (znc (u1 n.units) (pvS 8) (pvS 10) (pb1 zB T.qK Xj (pcm ["_law_one","_law_cell"] [none,some 10] cR (zw (pvS 9)) (pgN 0) (zU (yq (K:=K) (by rfl) (pc0 Q8 n qH (za (pvS 0) (za (pvS 1) zd))) (λ_=>rfl))) (pvS 0))) rfl))) (ze (jf 11 yp.nd (pc0 bR n bv (za (pvS 2) (za (pvS 8) zd)))) (ze (jf 12 yp.nd (pc0 xW n qg (za (zv qb (pvS 11) zg (λ_ _=>rfl)) (za (pt1 (zcn rfl) T.zlE P8 qC) zd)))) (ze (jf 13 yp.nd (pc0 xW n qg (za (zv qb (pvS 11) zg (λ_ _=>rfl)) (@za _ _ _ _ _ (@zO _ _ _ _ (@za _ _ _ _ _ qC zd rfl)) zd rfl)))) (ze (qJ (zI zcx (pb1 zB T.qK Xj (zpK ["_law_one","_law_left"] [none,some 13] (c1 (y:="_law_one")) (zw (pvS 12)) (pgN 0) (zU (zI (YN (K:=K) (by rfl) n.units) (pcm ["_law_cell","_law_one"] [none,some 0] cR (zaq (K:=K) (by rfl) (pvS 1)) (pgN 0) (zU (yq (K:=K) (by rfl) (pc0 Q8 n qH (za (pvS 1) (za (pvS 0) zd))) (λ_=>rfl))) (pvS 0)) (@zO _ _ _ _ zd) (zT _))) (pvS 0))) zg (zT _)) (zf (zx (pc0 bt n Qc (za (pvS 11) zd)))) qa) (ze (jf 14 yp.nd (zv qb (pcX YA n jX (za (pvS 11) zd)) zg (λ_ _=>rfl))) (zf (zx (xF (ju n.units) (pcm ["_law_cell","_law_behind"] [none,some 14] cR (zw (zv qb (pvS 7) zg (λ_ _=>rfl))) (pgN 0) (zU (zI (qM (K:=K) (by rfl) n.units) (pvS 0) (zv (JV (K:=K) (by rfl)) (pvS 1) zg (λ_ _=>rfl)) (by rfl))) (pvS 0)) (@zO _ _ _ _ zd) (zT _)))))))))))))))))))),?_⟩;(try dsimp only[cxK,cxP,cxW]);refine⟨_,rfl,a,ns,rfl,hS,λmk um gs H1 hd a4 az M s1=>?_⟩;refine⟨_,rfl,mk,um,gs,rfl,a4,az,M,λp l rs H2 hp hl B ec s2=>?_⟩;have R:=M.rows ec;have ci:=M.few9 ec;have hL:Lay rs ((stM gs).length:Nat) λc=>decide (c∈stM gs):=zi4 (zc9 gs) (λc L=>ze2 ec L) λo ho=>M.num ec ho;have hm:=s2 _ _ a4;have hM:=az.mono s2;clear hd a4 az s1 s2 hp hl hS;refine⟨_,rfl,yD,λg1 aR=>?_⟩;have z1:=zc (o:=.lst [V.str "o",V.str "c"]) aR;refine cL mk g1 um gs (cM [111,99] rfl (z1 _ _ hm) (hM.mono z1).grid M.hi (cH M.t8 (by rw[zb];rfl) (λdc wc H3 b7 b1 a2 s3=>?_)));rw[M.shut ec]at a2;have af:=z1.trans s3;refine⟨_,rfl,sz_1,λg2 aS=>?_⟩;have z2:=zc (o:=.lst [V.str "."]) aS;have I:=af.trans z2;refine cL mk g2 um gs (cM [46] rfl (I _ _ hm) (hM.mono I).grid M.hi (cH M.t8 (by rw[zb];rfl) (λaw wo H4 b8 aC ak s4=>?_)));rw[M.open ec]at ak;have al:=z2.trans s4;have s5:=af.trans al;have a5:=s5 _ _ hm;have a1:=hM.mono s5;have B4:=B.mono s5;have aQ:=al _ _ b1;have aN:=a2.mono al;clear aR aS b7 b8 s3 s4 z1 z2 af I al s5 b1 a2 hm hM B;refine⟨_,rfl,aw,rfl,⟨_,SqL.of aC⟩,λz hz=>zi7 R aQ aN aC ak hz λys H5 s5 aZ yl=>?_⟩;refine⟨z,_,rfl,.inl (SqL.of aZ),_,_,rfl,rfl,_,rfl,?_⟩;by_cases aI:30<(nbC rs).length
  .exact qQ (br (by lia)) ⟨_,rfl,p,l,rs,_,_,rfl,B4.mono s5,R,by lia,by lia,hL,aI,λH' _=>q _⟩
  refine qu (bf (by lia)) ?_;refine⟨_,rfl,p,l,rs,_,_,rfl,B4.mono s5,R,by lia,by lia,hL,λh=>absurd h aI,λ_ t sa fa fc fs sv us ws S cl st H6 Td s6=>?_⟩;refine di t rfl (SqT.of Td.tp) rfl rfl rfl rfl ?_;have a9:=s5.trans s6;refine⟨_,rfl,_,rfl,_,rfl,_,rfl,sz_1,λx hx=>?_⟩;have y7:=zc (o:=.lst [V.str "all"]) hx;have cn:wo.length<=64:=by rw[ak.length];exact qO R
  refine dN aw x (cQ rfl rfl (y7 _ _ (a9 _ _ aC)) zb (X6 (show wo.length+1<=100 by lia) (by decide)) (λkn aU=>?_));have y8:=zc (o:=.lst (wo++[V.str "all"])) aU;have ah:=y7.trans y8;have U:=a9.trans ah;refine cL p l mk sa (dw kn rs (cL um sv (wo++[V.str "all"]) gs (cN S ((zV rs).map some++[none]) (dj rfl ⟨B4.mono U,R,U _ _ a5,a1.mono U,M,ec,ah _ _ Td.h,ZP ah Td.s,Td.ss,zb,Paired.snoc (zgy (ak.mono U)) rfl,λtg bE=>?_,by lia,hL⟩ (λax aG aH us1 bM d J H9 F W s9=>?_)))))
  .rcases XM.mp bE with h | h
   .obtain⟨o,ho,rfl⟩:=XN.mp h;exact WX _ (XN.mpr ⟨o,(X5.mp ho).1,rfl⟩)
   .exact WV _ h
  have e1:d=cl:=Qv (W.p1.trans Td.w.p1.symm) W.x1 Td.w.x1;have e2:J=st:=Qv (W.p2.trans Td.w.p2.symm) W.x2 Td.w.x2;subst e1 e2;have bc:=ah.trans s9;have am:=U.trans s9;refine⟨_,rfl,rfl,_,rfl,qu (bf λz=>nomatch z) ⟨_,rfl,_,rfl,_,_,F.rdv,(Td.f.mono bc).rdv,QE d J,_,rfl,qu ?_ ?_⟩⟩
  .rw[bw rfl,Pr _ (QE d J).l1];rfl
  have an:=hL.tr;have Wt:=W.tr _ an;have b6:=Td.ss;have aV:=am _ _ a5;have aK:=a1.mono am;have B9:=B4.mono am;clear hx aU y7 y8 ah U a9 s6 s5 hz aZ yl Td bc am s9 B4 a5 a1;intro nd a6;have z9:=zc (o:=.dT []) a6;refine⟨_,rfl,sz_1,λg3 aT=>?_⟩;have ao:=zc (o:=.lst [V.str "o"]) aT;have N:=z9.trans ao;refine cL mk g3 um gs (cM [111] rfl (N _ _ aV) (aK.mono N).grid M.hi (cH M.t8 (by rw[zb];rfl) (λds ag aD a3 bx aa ac=>?_)));have aa:Cel aD ag (stM gs):=aa;have aA:=N.trans ac;have ab:aD nd=some (.dT []):=ac _ _ (ao _ _ zb);have bG:ds≠nd:=λe=>by
   rw[e,ao _ _ (zb (H:=H9) (a:=nd) (o:=.dT []))]at a3;cases a3
  have bN:ag.length<=64:=by
   rw[aa.length];have:=Xw (λ_=>true) (stM gs);have h:=((zc9 gs).length_le_of_subset (λc L=>ze2 ec L:stM gs ⊆ zH rs));lia
  have au:=F.mono aA;refine⟨_,rfl,ax,_,0,_,rfl,rfl,SqT.of au.tp,rfl,aG,rfl,⟨_,SqL.of au.h1⟩,?_⟩;refine jF (K:=K) (a:=aG) (xs:=us1) (λi σ H'=>∃(aB:Option V),σ=[some (.ref a),some (.ref mk),some (.ref p),some (.ref dc),some (.ref aw),some (.ref sa),some (.ref fa),some (.ref ax),some (.ref nd),some (.ref ds),aB,none,none,none,none]/\zo H9 H'/\H' ds=some (.lst ag)/\Cel H' ag (stM gs)/\H' nd=some (.dT (J3 gs (d.take i)))) ⟨_,(cX rfl aA bx aa ab)⟩ (λi σ H' _ ⟨_,_,s',_⟩=>SqL.of (s' _ _ F.h1)) ?_ ?_
  .refine λi x σ aE hx=>fj λaB z0 r j u g=>?_;subst z0;refine eW (λc L ca z0 aM=>?_) (Cel.get (F.c1.mono r) hx);subst z0;refine⟨_,rfl,ds,rfl,⟨_,SqL.of j⟩,λz hz=>?_⟩;refine zM (K:=K) (a:=ds) (xs:=ag) (λa=>a≠z) ((stM gs).map λy=>if Cells.near y c=true then some (zk y) else none) (fun σ=>∃u1,σ=[u1,some (.ref ca)]) hz (λ_ h=>h) ⟨_,rfl⟩ (by rw[ZB];exact aa.length.symm) (X6 bN (by decide)) (SqL.of j) ?_ ?_
   .rintro k2 x2 o2 cF av bF bB v _ ⟨u1,rfl⟩ Y2 Z2 bm bH;refine eW (λy hy ya z0 aW=>?_) (Cel.get (u.mono v) bF);subst z0;have aj:=qt hy bB;refine⟨_,rfl,_,rfl,ya,ca,y,c,rfl,aW,v _ _ aM,_,rfl,?_⟩;by_cases hp:Cells.near y c=true
    .rw[bw hp]at aj;exact qQ hp ⟨_,rfl,bm _ _ _ _ aj ⟨_,rfl⟩ (zo.refl _) (jU.rdn ⟨ya,rfl,aW⟩)⟩
    .rw[bq hp]at aj;exact qu (XO.mpr hp) (bH _ _ aj ⟨_,rfl⟩ (zo.refl _))
   rintro ys av v aX aq;rw[zJ]at aq;have yl:ys.length=cnN gs c:=(zq.cel aq).length;have kl:=(zhT gs (d.take i)).len;rw[XJ]at kl;have wl:=W.len an (by lia);refine⟨z,_,rfl,.inl (SqL.of aX),_,rfl,_,rfl,nd,_,rfl,zkS.t (k:=jN c) (v _ _ g) (v _ _ aM) (XE (show _<=64 by lia) (by decide)),?_⟩;have up:∀b o,b≠nd->aE b=some o->upd av nd (.dT (putK (J3 gs (d.take i)) (jN c) (V.int ((ys.length:Nat):Int)))) b=some o:=λb o nb e=>by
    rw[zj nb];exact v _ _ e
   refine⟨_,(cX rfl (λb o e=>up b o (zh e a6) (r _ _ e)) (up _ _ bG j) (zmy (λb vs e=>up b _ (λh=>by rw[h,g]at e;cases e) e) u) ?_)⟩;rw[zb,take_snoc L,yl,zkq]
  refine λσ aE=>fj λaB z0 r j u g=>?_;subst z0;rw[F.c1.length,XF]at g;refine⟨_,rfl,_,rfl,p,l,nd,rs,_,d,_,_,rfl,B9.mono r,R,g,zhT gs d,λp2 l2 av bC bA B2 v=>?_⟩;have R2:Rows bd.cps.toList (yQ (J3 gs d) rs):=R.put (zhT gs d);have ay:=zoe (cs:=d) M ec W.s1 λc L z=>by
   have:=Wt.no c L;rw[br z]at this;cases this
  have be:=zgQ (gs:=gs) (rs:=rs) (cs:=d);have bI:∀c∈zV rs,c∈zV (yQ (J3 gs d) rs):=λc L=>zmx W.s1 L;have cg:(zH (yQ (J3 gs d) rs)).length<=11:=by
   have:=(xg (yQ (J3 gs d) rs)).length_le_of_subset (λc L=>((be c).mp L).1:_ ⊆ zH rs);lia
  have b2:=F.mono (r.trans v);clear j u g r v bC bA a6 ab z9 ao N aT a3 bx aa ac aA au F aV aK B9;generalize yQ (J3 gs d) rs=rs2 at *
  refine⟨_,rfl,p2,_,0,_,rfl,rfl,SqT.of B2.tp,rfl,_,rfl,by decide,λsg bD=>?_⟩;have z2:=zc (o:=.lst (("012345678":Str).cps.toList.map λc=>V.str ⟨#[c]⟩)) bD;refine dw l2 sg (cU (codes rs2) [48,49,50,51,52,53,54,55,56] rfl (z2 _ _ B2.rw) (x6.rows _ rs2) (by rw[jc];exact R2.hi) (cH R2.short (by rw[zb,zn8]) (λdm wm bU cf b0 aP af=>?_)));have eo:Cells.zC (pZ [48,49,50,51,52,53,54,55,56]) 0 (codes rs2)=zV rs2:=zaT 0 _ λt ht k hk=>zn9 k (R2.signsIn t ht k hk);rw[eo]at aP;have ae:=z2.trans af;have B3:=B2.mono ae;refine⟨_,rfl,p2,_,0,_,rfl,rfl,SqT.of B3.tp,rfl,sz_1,λg4 b9=>?_⟩;have z4:=zc (o:=.lst [V.str "?"]) b9;have b5:Cells.zC (pZ [63]) 0 (codes rs2)=zH rs2:=Cells.Zg (λk=>by unfold pZ x9;simp) 0 _;refine dw l2 g4 (cU (codes rs2) [63] rfl (z4 _ _ B3.rw) (x6.rows _ rs2) (by rw[jc];exact R2.hi) (cH R2.short (by rw[zb];rfl) (λdl wl bV ce bS aO I=>?_)));rw[b5]at aO;have m:=z4.trans I;have B5:=B3.mono m;have b3:=b2.mono (ae.trans m);refine⟨_,rfl,dm,rfl,⟨_,SqL.of (m _ _ b0)⟩,λz hz=>zi7 R2 bS aO (m _ _ b0) (aP.mono m) hz λys bW a7 bT yl=>?_⟩;refine⟨z,_,rfl,.inl (SqL.of bT),_,_,rfl,rfl,_,rfl,?_⟩;by_cases aJ:30<(nbC rs2).length
  .exact qQ (br (by lia)) ⟨_,rfl,p2,l2,rs2,_,_,rfl,B5.mono a7,R2,by lia,by lia,ay,aJ,λH' _=>q _⟩
  refine qu (bf (by lia)) ?_;refine⟨_,rfl,p2,l2,rs2,_,_,rfl,B5.mono a7,R2,by lia,by lia,ay,λh=>absurd h aJ,λ_ t' cj aF cb cc ck cm co S' bZ bi bX ai bK=>⟨t',_,1,_,rfl,rfl,SqT.of ai.tp,rfl,?_⟩⟩;have O:=b3.mono (a7.trans bK);have all:∀c∈J,c∈bi:=More.all ⟨be,bI,ai.w.tr _ ay.tr,ai.cd⟩ an W b6;refine⟨_,rfl,ax,_,1,_,rfl,rfl,SqT.of O.tp,rfl,aH,rfl,⟨_,SqL.of O.h2⟩,λz hz=>?_⟩;refine zM (K:=K) (a:=aH) (xs:=bM) (λa=>a≠z) (J.map λ_=>none) (fun σ=>∃u0,σ=[u0,some (.ref aF)]) hz (λ_ h=>h) ⟨_,rfl⟩ (by rw[ZB];exact O.c2.length.symm) (by rw[O.c2.length];have:=W.len an (by lia);exact X6 (show J.length<=20 by lia) (by decide)) (SqL.of O.h2) ?_ ?_
  .rintro k x o σ b4 hx ho a8 _ ⟨u0,rfl⟩ Y Z cp no;obtain⟨c,L,rc⟩:=Cel.get (O.c2.mono a8) hx;have eo:=qt L ho;have G:=ai.f.mono a8;refine⟨_,rfl,_,rfl,aF,_,1,_,rfl,rfl,SqT.of G.tp,rfl,zk c,bi.map zk,rc.rdv,.lst (SqL.of G.h2) (YF G.c2),rfl,JY _,(by show 1<=60;decide),_,rfl,?_⟩;rw[J1,br (all c (X8 L))];exact qu rfl (no _ _ eo ⟨_,rfl⟩ (zo.refl _))
  rintro ys b4 a8 aY ar;have eo:(J.map λ_=>(none:Option We)).filterMap id=[]:=by
   rw[List.filterMap_map];exact RQ.mpr λ_ _=>rfl
  rw[eo]at ar;refine⟨jR,λe he=>?_⟩;have bj:=zc (o:=.lst []) he;exact cO (.list []) (.list []) (.lst (SqL.of (bj _ _ aY)) (zq.rdv (ar.mono bj λ_ h=>h))) (.lst (SqL.of zb) .nil) (YZ [] []) (q _)
def all_mk {l:P0}{w:W2}{K:XS}{h:Heap}{mg:Str->Option X9}{fa:Addr}{m:Tok}{n:Tok}{o:Tok}{p:Tok}{q:Tok}{jaa:Addr}{jab:Addr}(X:K.In h)(G:h.Ns Xx mg)(b:mg "law"=some (.ref fa))
  (Q9:HasDef K "closed" ZG)
  (Jc:HasDef K "open_cells" qL)
  (y:HasDef K "around" jJ)
  (J5:HasDef K "number_at" jB)
  (z:HasDef K "opened" zaG)
  (ZQ:HasDef K "cells_of" qE)
  (Qd:HasDef K "sign_at" qF)
  (I:HasDef K "parts" zb2)
  (A:HasDef K "joined" YX)
  (af:HasDef K "far" ziB)
  (Jd:HasDef K "numbers_of" j3)
  (Je:HasDef K "bare_wrong" Jq)
  (yh:HasDef K "closed_around" qR)
  (yE:HasDef K "part_layings" jS)
  (ZR:HasDef K "needs_at" yX)
  (Qe:HasDef K "may_fit" JG)
  (xx:HasDef K "part_counts" xJ)
  (Qf:HasDef K "counted" ZH)
  (Qg:HasDef K "choices" Qo)
  (B:HasDef K "poured" zaH)
  (xy:HasDef K "near_counts" xK)
  (J:HasDef K "count" zb3)
  (Jf:HasDef K "all_poured" Jr)
  (L:HasDef K "dealt" zb4)
  (ZS:HasDef K "asked_by" Yi)
  (ZT:HasDef K "known_of" Yj)
  (xA:HasDef K "still_asked" xM)
  (E:HasDef K "gained" zaI)
  (Qh:HasDef K "settled" ZI)
  (ZU:HasDef K "thoughts" Yk)
  (J6:HasDef K "all_steps" Zh)
  (xB:HasDef K "place_lists" xN)
  (Jg:HasDef K "first_step" Js)
  (xC:HasDef K "_law_cell_at" j9)
  (J7:HasDef K "_law_mixed" xQ)
  (ZV:HasDef K "_law_mark" JX)
  (J8:HasDef K "_law_drawn" Zi)
  (J9:HasDef K "_law_cells" yw)
  (ZW:HasDef K "_law_near" yY)
  (Za:HasDef K "_law_board" Zj)
  (Jh:HasDef K "_law_looked" Jt)
  (Ji:HasDef K "_law_number" Ju)
  (ZX:HasDef K "_law_free" Yl)
  (Jj:HasDef K "_law_shares" Jv)
  (Qi:HasDef K "_law_due" Qp)
  (Jk:HasDef K "_law_walked" Jw)
  (Zb:HasDef K "_law_great" Zk)
  (ag:HasDef K "law" zf3)
  (ah:Xk K Xx "abs"=some none)
  (ai:Xk K Xx "any"=some none)
  (N:Xk K Xx "dict"=some none)
  (Zc:Xk K Xx "enumerate"=some none)
  (aj:Xk K Xx "int"=some none)
  (Q:Xk K Xx "len"=some none)
  (O:Xk K Xx "list"=some none)
  (U:Xk K Xx "max"=some none)
  (Y:Xk K Xx "min"=some none)
  (M:Xk K Xx "range"=some none)
  (aa:Xk K Xx "set"=some none)
  (H:Xk K Xx "sorted"=some none)
  (ab:Xk K Xx "str"=some none)
  (ac:Xk K Xx "sum"=some none)
  (ae:Xk K Xx "ALL"=some (some (.str "all" m)))
  (xD:Xk K Xx "CLOSED_SIGN"=some (some (.str "?" n)))
  (yF:Xk K Xx "MOST_OF_PART"=some (some (.int 14 o)))
  (xE:Xk K Xx "MOST_THINGS"=some (some (.int 30 p)))
  (yG:Xk K Xx "NO_CELL_SIGN"=some (some (.str "#" q)))
  (i:Xk K Xx "NoLaying"=some (some (.ref jaa)))
  (r:Uf K jaa zfb "ValueError.__new__"=true)
  (j:Xk K Xx "TooGreat"=some (some (.ref jab)))
  (u:Uf K jab zfb "ValueError.__new__"=true)
  (x:Tx K jab (.ref jab)=some true) :
  ∃fd:XC,(∀(s:X7) (v:X9),OP s fd ⟨[v],[]⟩ [("_law_script",v)])/\∀base:Heap,K.In base->base.Ns Xx mg->qc l.prog w K mg base CX0 10 fa fd ["_law_script"] (zi9 K):=by
 revert ag;refine eE λf oc od an sl kV dc pm=>d8 λcd ct a l0 c k=>?_;have e:=b.symm.trans (Vx X G a);cases e;have T:Txt mg:=⟨Wy X G ah,Wy X G ai,Wy X G N,Wy X G Zc,Wy X G aj,Wy X G Q,Wy X G O,Wy X G U,Wy X G Y,Wy X G M,Wy X G aa,Wy X G H,Wy X G ab,Wy X G ac,⟨_,Vx X G ae⟩,⟨_,Vx X G xD⟩,⟨_,Vx X G yF⟩,⟨_,Vx X G xE⟩,⟨_,Vx X G yG⟩⟩;have Z:Prog K mg:=⟨Q9.at X G,Jc.at X G,y.at X G,J5.at X G,z.at X G,ZQ.at X G,Qd.at X G,I.at X G,A.at X G,af.at X G,Jd.at X G,Je.at X G,yh.at X G,yE.at X G,ZR.at X G,Qe.at X G,xx.at X G,Qf.at X G,Qg.at X G,B.at X G,xy.at X G,J.at X G,Jf.at X G,L.at X G,ZS.at X G,ZT.at X G,xA.at X G,E.at X G,Qh.at X G,ZU.at X G,J6.at X G,xB.at X G,Jg.at X G,xC.at X G,J7.at X G,ZV.at X G,J8.at X G,J9.at X G,ZW.at X G,Za.at X G,Jh.at X G,Ji.at X G,ZX.at X G,Jj.at X G,Qi.at X G,Jk.at X G,Zb.at X G⟩;have F:=zkI (st:=zf3) l0 c k;have D:zm K mg "law" zf3 ["_law_script"] _ _:=⟨F,Vx X G a,F.binds (ps:=["_law_script"]) (λ_ _ _ _ _ _=>us1 λ_=>rfl)⟩;have d:QH K mg "NoLaying" jaa:=⟨Vx X G i,r⟩;have g:QH K mg "TooGreat" jab:=⟨Vx X G j,u⟩;have FG:Tx K jab (.ref jab)=some true:=x;exact⟨_,λs v=>.of_eq rfl,λbase _ _=>zqn T d g FG Z D⟩
def walk {l:P0}{q:Xh}{loose:AD}{XP:(Str->Option X9)->Heap->Prop}{YP:W2->Heap->Prop}{d:DefRec}{K:OI->XS}(j:l.most=some 63)(b:d.params.defaults=[])
  (g:∀(w:W2) (h:Heap),YP w h->(K w.params).In h)
  (F:∀(w:W2) (mg:Str->Option X9) (c:Addr) (h:Heap),(K w.params).In h->h.Ns Xx mg->mg d.name=some (.ref c) ->
   ∃fd:XC,(∀(s:X7) (u:X9),OP s fd ⟨[u],[]⟩ [("_law_script",u)])/\∀base:Heap,(K w.params).In base->base.Ns Xx mg->qc l.prog w (K w.params) mg base CX0 10 c fd ["_law_script"] (zi9 (K w.params))) :
  O7 q loose XP YP l.row.toRowW d [] (λf vs=>PySem.call f vs) :=
 L2.zie (n:=63) (k:=10) (x:="_law_script") (CX:=λ_=>CX0) (sp:=λw=>zi9 (K w.params)) j (by decide) b ⟨rfl,by decide,by decide⟩ g F (λ_ _ a m i _ e=>⟨a,m,rfl,e,i,λ_=>rfl⟩) λ_ _ _ _ _ z=>z
end K92
open PySem PySem.W PyProof.Rows
set_option maxRecDepth 100000 in
set_option maxHeartbeats 0 in
theorem PySem.Challenge.cw_stonelay_k92_whole_thoughts_on_great_boa_holds : PySem.Challenge.rw_stonelay_k92_whole_thoughts_on_great_boa.Holds := by
 refine J2.early λ{q XP YP d K} hdf hY hn F=>?_;refine K92.walk (l:=PySem.Challenge.rw_stonelay_k92_whole_thoughts_on_great_boa) rfl hdf hY λw mg fa h KX G hmg=>?_;rw[hn]at hmg;refine L2.GS.via λGG hGG=>?_;obtain⟨Q9,Jc,zaa,J5,zab,ZQ,Qd,zbP,zac,zhV,Jd,Je,yh,yE,ZR,Qe,xx,Qf,Qg,zad,xy,zbQ,Jf,zbR,ZS,ZT,xA,zae,Qh,ZU,J6,xB,Jg,xC,J7,ZV,J8,J9,ZW,Za,Jh,Ji,ZX,Jj,Qi,Jk,Zb,zhW,zhX,zhY,zen,Zc,zhZ,zh0,zeo,zh1,zh2,zbS,zh3,zaf,zh4,zh5,⟨_,zh6⟩,⟨_,xD⟩,⟨_,yF⟩,⟨_,xE⟩,⟨_,yG⟩,⟨_,jae,jal⟩,⟨_,jaf,jam,y_TooGreat_0⟩⟩:=F w;refine hGG ?_;exact K92.all_mk KX G hmg Q9 Jc zaa J5 zab ZQ Qd zbP zac zhV Jd Je yh yE ZR Qe xx Qf Qg zad xy zbQ Jf zbR ZS ZT xA zae Qh ZU J6 xB Jg xC J7 ZV J8 J9 ZW Za Jh Ji ZX Jj Qi Jk Zb zhW zhX zhY zen Zc zhZ zh0 zeo zh1 zh2 zbS zh3 zaf zh4 zh5 zh6 xD yF xE yG jae jal jaf jam y_TooGreat_0