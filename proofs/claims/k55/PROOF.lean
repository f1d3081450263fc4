import PyProof.Rows.All
import KE.IntBitsLaws
import KE.KDictOf
import KE.KDictSum
import KE.KIntText
import KE.KSortTup
import KE.LcSums
import KE.RegKIsAll
import KE.KNestM
import KE.KPairComp
import Lean
import PySem.Challenge.RW_stonelay_k55_what_is_found_is_sure
open List renaming length_map->ZB,mem_of_getElem?->X8,getElem?_eq_some_iff->X4,getElem?_eq_getElem->XZ,length_append->XY,mem_filter->XW,mem_cons_of_mem->XT,mem_cons_self->XQ,mem_append->XO,length_take->XN,take_length->XJ,mem_map->XI,mem_cons->XH,map_append->Xz,take_add_one->Xx,map_cons->Xw,size_toArray->Xu,getElem?_map->Xq,length_cons->Xo,append_nil->Xf,map_congr_left->Xb,take_append_drop->W7,length_filter_le->W6,filter_sublist->W5,getD_eq_getElem?_getD->W4,append_assoc->W2,mem_append_left->W1,mem_append_right->WZ,filter_append->WX,replicate->WU,take_of_length_le->WR,nodup_append->WL,all_eq_true->WK,drop_eq_getElem_cons->WI,any_eq_true->WG,filter_cons->WE,mem_flatten->WA,flatten_cons->Wz,flatten_append->Ww,map_map->Wv,countP_cons->Wq,nodup_cons->Wp,length_range->Wn,range->Wm,perm_ext_iff_of_nodup->Wl,pairwise_map->Wh,filter_eq_nil_iff->Wg,mem_singleton->Wf,foldl_cons->Wc,length_eq_zero_iff->Wb,mem_of_mem_take->V9,getElem?_append_left->V7,mem_range->VW,getElem?_append_right->VU,length_drop->VP,countP_eq_zero->VO,sublist_flatten_of_mem->VF,filter_congr->Vy,length_nil->Vu,pairwise_iff_getElem->Vt,not_mem_nil->Vq,nodup_nil->Vn,countP_congr->Vk,filterMap_cons->Vg,replicate_succ->Vf,flatMap_append->Ve,filter_filter->U0,countP_le_length->UV,isEmpty_eq_false_iff->UU,flatMap_cons->UN,take_succ_cons->UC,getElem_mem->Uv,mem_flatMap->Uu,any_map->Ul,length_pos_of_mem->Ug,find?_cons->Ue,length_replicate->T9,perm_append_comm->T8,take_sublist->T4,foldl_append->T2,map->TW,pairwise_append->TN,exists_mem_of_ne_nil->TD,getElem?_range->TB,getElem_of_mem->Tz,reverse_append->Tx,getElem?_take_of_lt->Tt,sublist_append_left->Tr,mem_filterMap->Th,getElem?_drop->Tb,ne_nil_of_mem->S8,length_mapIdx->SZ,set_eq_take_append_cons_drop->SW,ext_getElem?->SH,drop_eq_nil_of_le->SG,countP_eq_countP_filter_add->SE,getElem?_eq_none->Sz,lookup_cons->Su,any_cons->So,map_take->Sl,map_id->Se,length_set->Sb,filter_eq_self->R5,map_set->R0,set_cons_succ->RP,pairwise_cons->RO,set_cons_zero->RN,getElem?_zip_eq_some->RJ,extract_eq_take_drop->RI,sublist_append_right->RE,mem_or_eq_of_mem_set->RD,lookup->RC,any_eq_false->RA,drop_sublist->Ry,reverse_perm->Rx,all_cons->Rv,cons_append->Rh,nil_sublist->Rb,mapIdx_cons->Ra,getElem?_cons_succ->QQ,map_nil->P0,getElem?_set_self->PY,of_mem_zip->PF,nil_append->PD,filter_map->Pz,length_singleton->Py,mem_iff_getElem?->Pw,pairwise_reverse->Pr,drop_zero->Pe,drop_drop->Pb,take_zero->Pa,getElem?_set_ne->O8,mem_of_mem_drop->O4,reverse_reverse->O0,map_eq_nil_iff->ON,countP_pos_iff->OM,toList_toArray->OJ,map_drop->Oy,sum_cons->Ow,Nodup->Op,filter->N7
open PySem renaming wpAny_bind->Y1,Value->X9,Shared->X7,wpAny_pure->XR,mainGlobals->XG,FuncData->XD,sizeLine->XA,model->Xn,Program->Xm,Paired->Xl,wpAny->Xj,boot_len->Xg,World->W3,starEach->WS,Around->WN,mem_of_lookup->WC,SetTable->WB,compareOp->Wr,wpAny_truthy_bool->Wi,PyData->We,wpAny_loadPart'->Wd,tupleKind->VZ,wpAny_mono->VY,wpAny_holding->VT,cLine->VN,foldedSetIterable->VM,codeAny_builtin->VH,wpAny_newObj_type->VA,Spec->Vj,sysModules->Vi,wpAny_call_entry->U7,wpAny_rule->U4,builtinLookup_eq_fast->UX,wpAny_passesOwn->UT,Builtin->UQ,bootBuiltins->UO,plainId_quiet->UJ,relabel->UF,storedH->UE,Scope->UB,treeTable->Uz,rawInt->Ua,wpAny_pyIter_list->T5,wpAny_dictEntries->T1,binaryOp->TY,sizeLine_eq->TV,wpAny_forIn_list->TH,behindInMarks->Tv,wpAny_execs_nil->Tq,wpAny_specialOf->Tp,typeLookup_type->To,entryOfKey->Tk,assignEach->Tj,wpAny_Call_Name_kw->Tf,tupleKind_room_in1->Te,sliceBounds->SY,codeAny->SV,codeAny_mono->SS,wpAny_pyIter_enum->SN,wpAny_loadPart_at->SM,wpAny_setState_of->SL,ofAClassStatement->SK,wpAny_isTrue_Compare1->SD,backTo->Sw,wpAny_execs_cons->Sv,GenState->Sg,NameKind->Sf,letOwnedTupleGo->Sc,wpAny_setEntries_of->R8,wpAny_typeOf->R4,swapsWith->RY,cellsFrom->RX,pyNext->RW,firstArgMember->RT,wpAny_attempt->Ru,setSearchFrom->Rt,wpAny_comprehension_free->Rr,DictEntry->Rj,pickOrder->Ri,wpAny_isInstance->Rf,wpAny_askSetting->Rc,wpAny_callSpecial?_slot->QP,typeLookup->P7,call_meets->P6,seqIndex_neg->P1,wpAny_getItem_list_neg->PU,codeAny_handlers_suite->PJ,wpAny_notOrdered_dict->Px,codeAny_handlers_test->Pq,seqIndex_of->Pm,subscripted->Pl,storedH_new->Pk,unsupported->Pj,hashByValue->Pi,intText?->Pf,isSubtype_type->Pd,wpAny_setField->Pc,codeAny_call_builtin->O6,getItem->OV,callerA->OT,valueAt->OR,wpAny_isSubtype_exc->OP,wpAny_handleBy_cons->OI,atKey->OF,wpAny_standAt->OC,comprehension->OB,dictSetHashed->OA,wpAny_newList->Ox,builtinsNs->Ou,closureFor->Ot,excMatches->Os,BindsTo->On,ReadsAll->Ol,Params->Od,Result->Oc,pushCells->Oa,again->N9,wpAny_of_eq->N8,Keyword->N6,bindL->N4,bindC->N3,IntMulOk->N1,entryFor->N0,Model->NZ,CmpOp->NY
open Nat renaming le_trans->X6,le_refl->XU,lt_of_le_of_lt->XM,lt_of_lt_of_le->Xk,ne_of_lt->Xi,zero_le->WY,lt_succ_of_lt->Wo,le_succ->VX,zero_add->VR,lt_irrefl->VJ,succ_ne_self->U9,le_add_right->U8,pow_le_pow_right->UK,ne_of_gt->Uq,lt_or_ge->Uo,pow_succ->Um,le_succ_of_le->T3,le_of_lt->TM,lt_trans->TL,sub_self->TK,succ_pos->TJ,not_lt_zero->Tn,add_sub_cancel->Tc,lt_of_lt_of_eq->S9,lt_succ_self->Ss,mod_lt->RU,lt_trichotomy->Rz,add_sub_cancel_left->Qb,add_zero->PZ,one_le_iff_ne_zero->PK,add_le_add_right->O7,pow_lt_pow_right->OZ,mul_le_mul_right->OY,sub_zero->Og
open Array renaming length_toList->X5,getElem?_toList->Xy,toList_append->WM,getElem?_eq_none->WJ,getElem?_eq_some_iff->Vw,getElem?_eq_getElem->Vs,size_map->Vm,toList_reverse->Vl,toList_map->U6,size_reverse->U1,perm_iff_toList_perm->UZ,getElem_toList->UL,size_extract->Uj,getElem?_setIfInBounds->Uc,size_setIfInBounds->Ts,toList_push->SJ,getElem?_extract->SF,forIn_toList->RQ,toList_setIfInBounds->RK,size_append->Rw,getElem?_replicate->Rn,getElem?_reverse->PL,toList_extract->O3,toList_filter->OO,toList_modify->OK,toList->Oi
open PySem.W renaming Frag->XX,nsIn->XC,mg_none_of->WW,mroIn->Wy,kia_one->VS,mg_of->VE,hashAt->VD,fnOf->UP,excIn->Ub,openEnds->TZ,keepIn->TU,hideAll_get->TC,codeIn->SR,looks_mroIn->R6,methodObj->RB,cellsFrom_some->PX,instObj->PH,OpenLaw->PB,lookIn->Ph,WalkO->OE
open PySem.Heap renaming get?_push_of_some->XV,lt_size->XB,get?_push_size->Xc,get?_update_self->Wj,SameBut->V6,size_push->U3,get?_none_of_le->UM,get?_update_other->Ui,get?_update_ne->R7,FlyingW->Oh
open Bool renaming false_ne_true->XS,eq_false_iff->Xs,eq_iff_iff->WV,and_eq_true->WH,not_eq_true'->WF,false_eq_true->WD,and_eq_true_iff->Wa,and_assoc->TR,false_and->SQ,and_comm->Si,and_true->Sh,true_and->Rs,and_false->Pg
open PySem.SetTable renaming bits->XF,below->Xv,insertAt->Xh,turns->W9,runEnd->VG,leap->Vp,grown->Uy,sizeAbove->Ta,Probe->RS,advance->Re,fill->Oz
open PyProof.Rows renaming wpS_bind->XE,wpS_pure->Xr,arrOf->Xp,Keyed->Xd,SortSt->WQ,pendingOf->WP,boot_sorted->Ws,wpS_forRange->V5,boot_isinstance->V2,callWith_type1->V0,boot_min->Vr,boot_list->Vc,boot_max->UW,wpS_mono->UA,pairsOf_toList->Ux,seqObj->Us,boot_dict->Uf,boot_int->T7,boot_any->T6,SortKind->TX,wpS_modify->Ti,failedOf->SU,boot_str->Sy,boot_all->Sx,AllBare->Sr,wpS_get->Sq,reverseSlice'->Sj,mem_zip_self->R3,listItems_at->RF,wpS_lift->Rl,envOfC->P9,subscriptTail_builtinR->PV,boot_sum->Pp,boot_abs->Po,IntsAre->OU,pairsOf->OQ,getElem?_mirror_all->OL,subscriptTail->OD,IsTup->N5
open PySem.PassesOwn renaming never->Xe
open PySem.PyData renaming eqv->Xa,canLayAll0->VB,canLay0->U2,depthAll->UR,bool->SX
open PySem.Value renaming ref->WT,int->Vv,none->Ur,type->P8,bool->Ov,str->Ob
open PySem.F renaming plainAttrs_list->WO,slot_list_append->Wu,type_list_append->Wt,slot_list_extend->UH,type_list_extend->UG,slot_dict_get->SC,excBase_ValueError->RL,slot_dict_update->Ro,args_dict_get_3->Q1,plainAttrs_dict->QR,plain_list_iadd->Qr,entry_dict_get->PP,slot_set_iter->Pu,plain_set_new->Ps
open PySem.Heap.SameBut renaming update->Wx
open PySem.Around renaming under_plainId->V8
open Int renaming le_of_lt->V4,toNat_natCast->V1,zero_add->VQ,le_trans->VI,le_refl->Va,emod_nonneg->US,toNat_of_nonneg->UD,emod_lt_of_pos->Uk,natCast_add->Tl,natAbs_natCast->S5,neg_le_neg->SO,add_zero->R1,not_lt->Oo,mul_zero->Of,mul_comm->Oe
open ForInStep renaming yield->V3
open Or renaming inl->VL,inr->Pn
open False renaming elim->VC
open PySem.SetTable.below renaming go->Vz
open List.Sublist renaming length_le->Vx
open Option renaming isSome_iff_exists->Vo,getD_some->Uw,map_eq_some_iff->Uh,map_some->Ud
open PySem.Obj renaming mapSeq->Vh,data_mapDictKeys->TQ,mapFields->Sk,isFreed_of_dict->R9
open PyProof.Rows.F renaming plain_set_update_loop->Vd,entry_set_update_loop->Tw
open PySem.Builtin.Str renaming strSliceIndices->Vb
open True renaming intro->U5
open Ne renaming symm->UY
open PySem.Builtin.List renaming listTooLong->UI,listExtendWith->RZ,listSameRef->Rm
open PySem.Builtin.Dict renaming updateFrom->Ut,entriesForEmpty->Sa,addKeywords->Rq,selfAndRest->Rp,pairItems->PN,mergeDict->PM,quietEq->O5
open PySem.SetTable.probe renaming go->T0
open Classical renaming byContradiction->TF
open PySem.NameKind renaming cell->Tu
open List.Perm renaming append_left->SA,length_eq->OH,countP_eq->OG
open PySem.Shared renaming TypeIs->Sm
open PySem.Calls renaming evalArgs_plain->Sd,spliced_cons->RR,Name_function_global->RM,call_function_entry->RG,callWith_builtin->PQ
open PySem.SeqAt renaming eqv_refl->O9
open Sum renaming inl->OX,inr->OW
open PUnit renaming unit->Oq
open PySem.W.Hook renaming obs->Om
open PySem.W.RowW renaming records->Oj
open Prod renaming ext->N2
set_option Elab.async false
set_option linter.all false
set_option maxRecDepth 100000
theorem bq {c:Prop}{h:Decidable c}(n:¬c){α:Sort _}{t e:α}:ite c t e=e:=if_neg n
theorem bw {c:Prop}{h:Decidable c}(n:c){α:Sort _}{t e:α}:ite c t e=t:=if_pos n
theorem br {p:Prop}[Decidable p](h:p):decide p=true:=decide_eq_true h
theorem bu {p:Prop}[Decidable p]:(decide p=true)=p:=decide_eq_true_eq
theorem bf {p:Prop}[Decidable p](h:¬p):decide p=false:=decide_eq_false h
theorem bg {p:Prop}[Decidable p](h:decide p=true):p:=of_decide_eq_true h
namespace J4
open PySem PySem.W
theorem zj6 {loose:List PySem.Str}{r:OpenRow}{q:Xm}{H:Hook}{d:DefRec}{kwd:List (PySem.Str×Expr)}{N:Nat}(left:LeftO r.prog q loose (λs=>xlAt q [] s&&recOk (Oj r.toRowW) s) (Om H) (Hook.val H) N)
  (hdef:defOf q r.name=some (d,kwd)) (hp:r.prog.theDef r.name=some (d.params,d.body,d.scope)) (hk:kwWritten? d.params.kwonlyargs d.params.kw_defaults=some kwd) (hwr:(!r.writes || r.records.isEmpty)=true)
  (k1:r.wellSaid=true) (ok:(chainsOk q&&opensWell r.prog&&(frees r.toRowW&&r.within.isEmpty))=true) (hb:r.prog.bare) (hw:r.toRowW.promised)
  (call:WalkO q loose (XL q []) (Hook.says H) r.toRowW d kwd λf vs=>PySem.call f vs):r.Holds :=
 holds_open (q:=q) (loose:=loose) (Xt:=λs=>xlAt q [] s&&recOk (Oj r.toRowW) s) (XP:=XL q []) (Yf:=Om H) (Ya:=Hook.val H) (YP:=Hook.says H) (N:=N) left (Hook.of H) (Hook.keeps H) (λs e=>xl_of s (Wa.mp e).1) XL.keeps hdef hp hk
  (λs e=>recFacts_of (Wa.mp e).2) hwr k1 ok hb hw call
noncomputable def top (i:Nat):Stmt:=PySem.Challenge.pw_stonelay_k55_what_is_found_is_sure.main.body.getD i (.Pass ⟨0,0,0,0⟩)
noncomputable def J5 (s:Stmt):Arguments:=match s with
 | .FunctionDef _ a _ _ _ _ _ _ _ _=>a
 | _=>{ posonlyargs:=[],args:=[],vararg:=none,kwonlyargs:=[],kw_defaults:=[],kwarg:=none,defaults:=[] }
noncomputable def xy (s:Stmt):List Stmt:=match s with
 | .FunctionDef _ _ b _ _ _ _ _ _ _=>b
 | _=>[]
noncomputable def zp (s:Stmt):UB:=match s with
 | .FunctionDef _ _ _ _ _ _ sc _ _ _=>sc
 | _=>{ kind:=.function,names:=[],isGenerator:=false,isCoroutine:=false }
def HD (K:XX)(x:Str)(i:Nat):Prop:=∃(f:Addr) (oc:X9) (od an:Option Addr) (sl:Array (Option X9)) (kV dc pm cd ct:X9),XC K XG x=some (some (.ref f))/\K.lookup f=some ⟨oc,od,.func (UP x x (J5 (top i)) (xy (top i)) (zp (top i)) .none kV dc pm an cd ct),sl⟩/\SR K cd x=true/\TU K (.ref f)=true
def zf8:List X9:=[.type "ValueError",.type "Exception",.type "BaseException",.type "object"]
structure Facts (K:XX):Prop where
 zaA:HD K "closed" 7
 Jf:HD K "open_cells" 8
 zaB:HD K "around" 9
 J6:HD K "number_at" 10
 Z8:HD K "cells_of" 11
 QC:HD K "sign_at" 12
 zcs:HD K "parts" 14
 zaC:HD K "joined" 15
 ziS:HD K "far" 16
 Jg:HD K "numbers_of" 17
 Jh:HD K "bare_wrong" 18
 yr:HD K "closed_around" 19
 yJ:HD K "part_layings" 22
 Z9:HD K "needs_at" 23
 QD:HD K "may_fit" 24
 xA:HD K "part_counts" 25
 QE:HD K "counted" 26
 Ji:HD K "counted_at" 27
 QF:HD K "choices" 29
 zaD:HD K "poured" 30
 xB:HD K "near_counts" 32
 zct:HD K "count" 33
 Yb:HD K "count_at" 34
 jZ:HD K "counts_by_cell" 35
 Jj:HD K "all_poured" 36
 zcu:HD K "dealt" 37
 QG:HD K "follows" 40
 Yc:HD K "asked_by" 41
 Yd:HD K "known_of" 42
 xC:HD K "still_asked" 43
 zaE:HD K "gained" 44
 QH:HD K "settled" 45
 zcv:HD K "holds" 46
 zaF:HD K "picked" 47
 Jk:HD K "are_things" 48
 J7:HD K "are_cells" 49
 QI:HD K "is_cell" 50
 Ye:HD K "thoughts" 53
 J8:HD K "all_steps" 54
 xD:HD K "place_lists" 55
 Jl:HD K "first_step" 56
 xE:HD K "_law_cell_at" 58
 J9:HD K "_law_mixed" 59
 Yg:HD K "_law_mark" 60
 Za:HD K "_law_drawn" 61
 Zb:HD K "_law_cells" 62
 Yh:HD K "_law_near" 63
 Zc:HD K "_law_board" 64
 Yi:HD K "_law_bent" 65
 xF:HD K "_law_outcome" 66
 ziT:HD K "law" 67
 ziU:XC K XG "abs"=some none
 ziV:XC K XG "all"=some none
 ziW:XC K XG "any"=some none
 zfh:XC K XG "bool"=some none
 zfi:XC K XG "dict"=some none
 Zd:XC K XG "enumerate"=some none
 ziX:XC K XG "int"=some none
 Jm:XC K XG "isinstance"=some none
 ziY:XC K XG "len"=some none
 zfj:XC K XG "list"=some none
 ziZ:XC K XG "max"=some none
 zi0:XC K XG "min"=some none
 zcw:XC K XG "range"=some none
 zi1:XC K XG "set"=some none
 zaG:XC K XG "sorted"=some none
 zi2:XC K XG "str"=some none
 zi3:XC K XG "sum"=some none
 zcx:XC K XG "tuple"=some none
 zi4:XC K XG "zip"=some none
 zi5:∃t,XC K XG "ALL"=some (some (.str "all" t))
 xG:∃t,XC K XG "CLOSED_SIGN"=some (some (.str "?" t))
 yK:∃t,XC K XG "MOST_OF_PART"=some (some (.int 14 t))
 xH:∃t,XC K XG "MOST_THINGS"=some (some (.int 30 t))
 yL:∃t,XC K XG "NO_CELL_SIGN"=some (some (.str "#" t))
 cls:∃jaa jab:Addr,XC K XG "NoLaying"=some (some (.ref jaa))/\XC K XG "TooGreat"=some (some (.ref jab))/\Ub K jaa zf8 "ValueError.__new__"=true/\Ub K jab zf8 "ValueError.__new__"=true/\Wy K jaa (.ref jaa)=some true/\Wy K jaa (.ref jab)=some false/\Wy K jab (.ref jab)=some true
end J4
noncomputable def J4.ob:List PySem.Str:="StoneError" :: "TooGreat" :: "NoLaying" :: "CLOSED_SIGN" :: "NO_CELL_SIGN" :: "closed" :: "open_cells" :: "around" :: "number_at" :: "cells_of" :: "sign_at" :: "parts" :: "joined" :: "far" :: "numbers_of" :: "bare_wrong" :: "closed_around" :: "MOST_OF_PART" :: "part_layings" :: "needs_at" :: "may_fit" :: "part_counts" :: "counted" :: "counted_at" :: "choices" :: "poured" :: "near_counts" :: "count" :: "count_at" :: "counts_by_cell" :: "all_poured" :: "dealt" :: "ALL" :: "follows" :: "asked_by" :: "known_of" :: "still_asked" :: "gained" :: "settled" :: "holds" :: "picked" :: "are_things" :: "are_cells" :: "is_cell" :: "MOST_THINGS" :: "thoughts" :: "all_steps" :: "place_lists" :: "first_step" :: "_law_cell_at" :: "_law_mixed" :: "_law_mark" :: "_law_drawn" :: "_law_cells" :: "_law_near" :: "_law_board" :: "_law_bent" :: "_law_outcome" :: []
noncomputable def J4.view:PySem.Program:={ PySem.Challenge.rw_stonelay_k55_what_is_found_is_sure.prog with main:={ PySem.Challenge.rw_stonelay_k55_what_is_found_is_sure.prog.main with body:=PySem.Challenge.rw_stonelay_k55_what_is_found_is_sure.prog.main.body.drop 67 } }
theorem J4.keep (H:PySem.W.Hook){P:Prop}(h:P):P:=h
local macro_rules | `(tactic| o_head $H)=>`(tactic| refine J4.keep $H ?_)
open PySem PySem.W PyProof.Rows in
set_option maxRecDepth 100000 in
set_option maxHeartbeats 0 in
theorem J4.pre (h:PySem.Challenge.rw_stonelay_k55_what_is_found_is_sure.row.Holds):PySem.Challenge.rw_stonelay_k55_what_is_found_is_sure.row.Holds:=by
 k_head;exact h
namespace J4
open PySem PySem.W
noncomputable def as:List Addr:=[2,3,15,22,23,24,25,28,35,36,37,40,47,48,49,52,55,56,57,60,61,62,64,65,67,68,69,71,72,74,75,76,79,80,81,83,84,86,87,88,90,91,93,94,95,98,99,100,103,104,105,108,109,110,113,114,115,118,119,120,123,124,125,128,129,130,133,134,135,137,138,140,141,142,144,145,147,148,149,152,153,154,156,157,159,160,161,163,164,166,167,168,171,172,173,175,176,178,179,180,182,183,185,186,187,190,191,192,194,195,197,198,199,202,203,204,207,208,209,211,212,214,215,216,219,220,221,224,225,226,229,230,231,233,234,236,237,238,240,241,243,244,245,248,249,250,253,254,255,258,259,260,263,264,265,268,269,270,273,274,275,278,279,280,283,284,285,287,288,290,291,292,294,295,297,298,299,301,302,304,305,306,308,309,311,312,313,315,316,318,319,320,322,323,325,326,327,330,331,332,334,335,337,338,339,341,342,344,345,346,349,350]
theorem cut {E:Option X7}{as:List Addr}{K:Frag}(n:Nat)(a:E.map (λs=>(as.take n).map s.heap.get?)=some ((K.take n).map λp=>some p.2))(b:E.map (λs=>(as.drop n).map s.heap.get?)=some ((K.drop n).map λp=>some p.2)):E.map (λs=>as.map s.heap.get?)=some (K.map λp=>some p.2):=by
 cases E with
 | none=>cases a
 | some s =>
  have e:=congr (congrArg HAppend.hAppend (Option.some.inj a)) (Option.some.inj b);rw[<- Xz,<- Xz,W7,W7]at e;exact congrArg some e
theorem hook {K:Od->Frag}{as:List Addr}{e:∀P,as=(K P).map (·.1)}{w:W3}{E:Option X7}(h:E.map (λs=>as.map s.heap.get?)=some ((K w.params).map λp=>some p.2)):E.map (Om (kHook K as e))=some (Hook.val (kHook K as e) w):=h
theorem he (P:Od):as=(pre.heap_1 P).map (·.1):=by kernel_rfl
noncomputable abbrev OS:=openSeen view ob (importedModules PySem.Challenge.rw_stonelay_k55_what_is_found_is_sure.row.prog.main.body) (λs=>xlAt view [] s&&recOk (Oj PySem.Challenge.rw_stonelay_k55_what_is_found_is_sure.row.toRowW) s) true
set_option maxRecDepth 100000
set_option maxHeartbeats 0
theorem sa (w:W3):(TZ Uz PySem.Challenge.rw_stonelay_k55_what_is_found_is_sure.row.prog w 4520).map (λs=>(OS s,decide (0<=s.toks)))=some (openGood view ob,true):=by kernel_rfl
theorem h0 (w:W3):(TZ Uz PySem.Challenge.rw_stonelay_k55_what_is_found_is_sure.row.prog w 4520).map (λs=>(as.take 95).map s.heap.get?)=some (((pre.heap_1 w.params).take 95).map λp=>some p.2):=by kernel_rfl
theorem h1 (w:W3):(TZ Uz PySem.Challenge.rw_stonelay_k55_what_is_found_is_sure.row.prog w 4520).map (λs=>((as.drop 95).take 95).map s.heap.get?)=some ((((pre.heap_1 w.params).drop 95).take 95).map λp=>some p.2):=by kernel_rfl
theorem h2 (w:W3):(TZ Uz PySem.Challenge.rw_stonelay_k55_what_is_found_is_sure.row.prog w 4520).map (λs=>((as.drop 95).drop 95).map s.heap.get?)=some ((((pre.heap_1 w.params).drop 95).drop 95).map λp=>some p.2):=by kernel_rfl
theorem lift {w:W3}{α:Type}{Y:X7->α}{y:α}(h:(TZ Uz PySem.Challenge.rw_stonelay_k55_what_is_found_is_sure.row.prog w 4520).map Y=some y):(TZ Uz PySem.Challenge.rw_stonelay_k55_what_is_found_is_sure.row.prog w 4520).map (λs=>(OS s,Y s))=some (openGood view ob,y):=by
 have a:=sa w;generalize TZ Uz PySem.Challenge.rw_stonelay_k55_what_is_found_is_sure.row.prog w 4520=E at a h ⊢;cases E with
 | none=>cases a
 | some s =>
  have a:=Option.some.inj a;have h:=Option.some.inj h;exact congrArg some (N2 (congrArg (·.1) a) h)
theorem hk (w:W3):(TZ Uz PySem.Challenge.rw_stonelay_k55_what_is_found_is_sure.row.prog w 4520).map (λs=>as.map s.heap.get?)=some ((pre.heap_1 w.params).map λp=>some p.2):=(cut (E:=TZ Uz PySem.Challenge.rw_stonelay_k55_what_is_found_is_sure.row.prog w 4520) (as:=as) (K:=(pre.heap_1 w.params)) 95 (h0 w) (cut (E:=TZ Uz PySem.Challenge.rw_stonelay_k55_what_is_found_is_sure.row.prog w 4520) (as:=(as.drop 95)) (K:=((pre.heap_1 w.params).drop 95)) 95 (h1 w) (h2 w)))
theorem lf (w:W3):(TZ Uz PySem.Challenge.rw_stonelay_k55_what_is_found_is_sure.row.prog w 4520).map (λs=>(OS s,Om (kHook pre.heap_1 as he) s))=some (openGood view ob,Hook.val (kHook pre.heap_1 as he) w):=lift (Y:=Om (kHook pre.heap_1 as he)) (y:=Hook.val (kHook pre.heap_1 as he) w) (hook (K:=pre.heap_1) (as:=as) (e:=he) (E:=TZ Uz PySem.Challenge.rw_stonelay_k55_what_is_found_is_sure.row.prog w 4520) (hk w))
end J4
local macro_rules | `(tactic| o_head $H)=>`(tactic| (refine' J4.zj6 (loose:=J4.ob) (q:=J4.view) (H:=PySem.W.kHook J4.pre.heap_1 J4.as J4.he) (N:=4520) J4.lf (by rfl) (by rfl) (by rfl) (by rfl) (by first | assumption | decide+kernel) (by decide+kernel) ⟨rfl,rfl,rfl,rfl,rfl,by decide+kernel⟩ ?_ ?_))
open PySem PySem.W PyProof.Rows in
set_option maxRecDepth 100000 in
set_option maxHeartbeats 0 in
theorem J4.look:PySem.Challenge.rw_stonelay_k55_what_is_found_is_sure.wellSaid=true:=by kernel_rfl
open PySem PySem.W PyProof.Rows in
set_option maxRecDepth 100000 in
set_option maxHeartbeats 0 in
theorem J4.early (h:∀{q:Xm} {XP:(Str->Option X9)->Heap->Prop} {YP:W3->Heap->Prop} {d:DefRec} {K:Od->XX},d.params.defaults=[]->(∀(w:W3) (h:Heap),YP w h->(K w.params).In h)->d.name="law"->(∀w:W3,J4.Facts (K w.params))->OE q J4.ob XP YP PySem.Challenge.rw_stonelay_k55_what_is_found_is_sure.row.toRowW d [] (λf vs=>PySem.call f vs)):PySem.Challenge.rw_stonelay_k55_what_is_found_is_sure.Holds:=by
 w_on;refine holds_law J4.look λsaid=>?_;o_head trivial;w_witness2;k_fill;refine h rfl (λw h Y=>PySem.W.kIn_of Y) rfl λw=>?_;constructor;all_goals first | k_is | exact⟨_,_,_,_,_,_,_,_,_,_,by k_is,by k_is,by k_is,by k_is⟩ | exact⟨_,by k_is⟩ | exact⟨_,_,by k_is,by k_is,by k_exc,by k_exc,by k_is,by k_is,by k_is⟩
noncomputable section
section
variable{α β γ δ ε ζ η θ ι κ μ ν ξ:Sort _}
theorem dB {p q:α->Prop}{a}(h:p a)(A:q a):∃a,p a/\q a:=⟨_,h,A⟩
theorem dD {p q r:Prop}(h:p)(A:q)(B:r):p/\q/\r:=⟨h,A,B⟩
theorem dF {p:α->β->Prop}(a:α)(b:β)(h:p a b):∃a,∃b,p a b:=⟨a,b,h⟩
theorem dG {p:α->β->Prop}{a b}(h:p a b):∃a,∃b,p a b:=⟨_,_,h⟩
theorem dH {p:α->Prop}{q r:α->β->Prop}{a b}(h:p a)(A:q a b)(B:r a b):∃a,p a/\∃b,q a b/\r a b:=⟨_,h,_,A,B⟩
theorem dI {p q r:α->Prop}(a:α)(h:p a)(A:q a)(B:r a):∃a,p a/\q a/\r a:=⟨a,h,A,B⟩
theorem dJ {p q r s t:Prop}(h:p)(A:q)(B:r)(C:s)(D:t):p/\q/\r/\s/\t:=⟨h,A,B,C,D⟩
theorem dM {p:α->β->γ->Prop}{b c}(a:α)(h:p a b c):∃a,∃b,∃c,p a b c:=⟨a,_,_,h⟩
theorem dN {p q r:α->Prop}{a}(h:p a)(A:q a)(B:r a):∃a,p a/\q a/\r a:=⟨_,h,A,B⟩
theorem dO {p q r s t:α->Prop}(a:α)(h:p a)(A:q a)(B:r a)(C:s a)(D:t a):∃a,p a/\q a/\r a/\s a/\t a:=⟨a,h,A,B,C,D⟩
theorem dP {p q r:α->β->Prop}{a b}(h:p a b)(A:q a b)(B:r a b):∃a,∃b,p a b/\q a b/\r a b:=⟨_,_,h,A,B⟩
theorem dQ {p q r s t u:Prop}(h:p)(A:q)(B:r)(C:s)(D:t)(E:u):p/\q/\r/\s/\t/\u:=⟨h,A,B,C,D,E⟩
theorem dR {p:α->β->γ->δ->Prop}(a:α)(b:β)(c:γ)(d:δ)(h:p a b c d):∃a,∃b,∃c,∃d,p a b c d:=⟨a,b,c,d,h⟩
theorem dS {p q:α->Prop}(a:α)(h:p a)(A:q a):∃a,p a/\q a:=⟨a,h,A⟩
theorem dU {p q r s t:α->β->Prop}(a:α)(b:β)(h:p a b)(A:q a b)(B:r a b)(C:s a b)(D:t a b):∃a,∃b,p a b/\q a b/\r a b/\s a b/\t a b:=⟨a,b,h,A,B,C,D⟩
theorem dW {p q r s t:α->β->γ->Prop}(a:α)(b:β)(c:γ)(h:p a b c)(A:q a b c)(B:r a b c)(C:s a b c)(D:t a b c):∃a,∃b,∃c,p a b c/\q a b c/\r a b c/\s a b c/\t a b c:=⟨a,b,c,h,A,B,C,D⟩
theorem dX {p q r s:α->β->Prop}{a b}(h:p a b)(A:q a b)(B:r a b)(C:s a b):∃a,∃b,p a b/\q a b/\r a b/\s a b:=⟨_,_,h,A,B,C⟩
theorem dY {p q r s:α->β->Prop}(a:α)(b:β)(h:p a b)(A:q a b)(B:r a b)(C:s a b):∃a,∃b,p a b/\q a b/\r a b/\s a b:=⟨a,b,h,A,B,C⟩
theorem dZ {p q r s:Prop}(h:p)(A:q)(B:r)(C:s):p/\q/\r/\s:=⟨h,A,B,C⟩
theorem d8 {p:α->Prop}{q r s t u:α->β->γ->δ->ε->Prop}{a c e}(h:p a)(b:β)(d:δ)(A:q a b c d e)(B:r a b c d e)(C:s a b c d e)(D:t a b c d e)(E:u a b c d e):∃a,p a/\∃b,∃c,∃d,∃e,q a b c d e/\r a b c d e/\s a b c d e/\t a b c d e/\u a b c d e:=⟨_,h,b,_,d,_,A,B,C,D,E⟩
theorem d9 {p q r s t:α->β->Prop}{a}(b:β)(h:p a b)(A:q a b)(B:r a b)(C:s a b)(D:t a b):∃a,∃b,p a b/\q a b/\r a b/\s a b/\t a b:=⟨_,b,h,A,B,C,D⟩
theorem eB {p q r s t:α->Prop}{a}(h:p a)(A:q a)(B:r a)(C:s a)(D:t a):∃a,p a/\q a/\r a/\s a/\t a:=⟨_,h,A,B,C,D⟩
theorem eE {p:α->β->Prop}{b}(a:α)(h:p a b):∃a,∃b,p a b:=⟨a,_,h⟩
theorem eF {p q r s:α->β->Prop}{a}(b:β)(h:p a b)(A:q a b)(B:r a b)(C:s a b):∃a,∃b,p a b/\q a b/\r a b/\s a b:=⟨_,b,h,A,B,C⟩
theorem eH {p q r s:α->Prop}{a}(h:p a)(A:q a)(B:r a)(C:s a):∃a,p a/\q a/\r a/\s a:=⟨_,h,A,B,C⟩
theorem eK {p q r s t u:α->β->Prop}(a:α)(b:β)(h:p a b)(A:q a b)(B:r a b)(C:s a b)(D:t a b)(E:u a b):∃a,∃b,p a b/\q a b/\r a b/\s a b/\t a b/\u a b:=⟨a,b,h,A,B,C,D,E⟩
theorem eN {p:α->Prop}{q:α->β->γ->Prop}{a c}(h:p a)(b:β)(A:q a b c):∃a,p a/\∃b,∃c,q a b c:=⟨_,h,b,_,A⟩
theorem eO {p:α->β->γ->δ->Prop}{a b c d}(h:p a b c d):∃a,∃b,∃c,∃d,p a b c d:=⟨_,_,_,_,h⟩
theorem eS {p q r s:α->β->γ->Prop}(a:α)(b:β)(c:γ)(h:p a b c)(A:q a b c)(B:r a b c)(C:s a b c):∃a,∃b,∃c,p a b c/\q a b c/\r a b c/\s a b c:=⟨a,b,c,h,A,B,C⟩
theorem eU {p:α->Prop}{q r s t:α->β->γ->Prop}{a b c}(h:p a)(A:q a b c)(B:r a b c)(C:s a b c)(D:t a b c):∃a,p a/\∃b,∃c,q a b c/\r a b c/\s a b c/\t a b c:=⟨_,h,_,_,A,B,C,D⟩
theorem eV {p:α->β->γ->δ->ε->ζ->η->θ->Prop}(a:α)(b:β)(c:γ)(d:δ)(e:ε)(f:ζ)(g:η)(i:θ)(h:p a b c d e f g i):∃a,∃b,∃c,∃d,∃e,∃f,∃g,∃i,p a b c d e f g i:=⟨a,b,c,d,e,f,g,i,h⟩
theorem eW {p q r:α->β->Prop}{s:α->β->γ->δ->Prop}{t u v:α->β->γ->δ->ε->ζ->Prop}{b c d e f}(a:α)(h:p a b)(A:q a b)(B:r a b)(C:s a b c d)(D:t a b c d e f)(E:u a b c d e f)(F:v a b c d e f):∃a,∃b,p a b/\q a b/\r a b/\∃c,∃d,s a b c d/\∃e,∃f,t a b c d e f/\u a b c d e f/\v a b c d e f:=⟨a,_,h,A,B,_,_,C,_,_,D,E,F⟩
theorem eX {p q r s t:α->β->Prop}{b}(a:α)(h:p a b)(A:q a b)(B:r a b)(C:s a b)(D:t a b):∃a,∃b,p a b/\q a b/\r a b/\s a b/\t a b:=⟨a,_,h,A,B,C,D⟩
theorem eY {p q r s t u:α->β->γ->Prop}{a b}(c:γ)(h:p a b c)(A:q a b c)(B:r a b c)(C:s a b c)(D:t a b c)(E:u a b c):∃a,∃b,∃c,p a b c/\q a b c/\r a b c/\s a b c/\t a b c/\u a b c:=⟨_,_,c,h,A,B,C,D,E⟩
theorem eZ {p q r s t:α->β->γ->δ->ε->Prop}{a b c d e}(h:p a b c d e)(A:q a b c d e)(B:r a b c d e)(C:s a b c d e)(D:t a b c d e):∃a,∃b,∃c,∃d,∃e,p a b c d e/\q a b c d e/\r a b c d e/\s a b c d e/\t a b c d e:=⟨_,_,_,_,_,h,A,B,C,D⟩
theorem e8 {p q r s:α->Prop}(a:α)(h:p a)(A:q a)(B:r a)(C:s a):∃a,p a/\q a/\r a/\s a:=⟨a,h,A,B,C⟩
theorem e9 {p q r s:α->β->Prop}{b}(a:α)(h:p a b)(A:q a b)(B:r a b)(C:s a b):∃a,∃b,p a b/\q a b/\r a b/\s a b:=⟨a,_,h,A,B,C⟩
theorem fh {p q:α->β->Prop}{a b}(h:p a b)(A:q a b):∃a,∃b,p a b/\q a b:=⟨_,_,h,A⟩
theorem fj {p q r s t:α->β->γ->Prop}{a b}(c:γ)(h:p a b c)(A:q a b c)(B:r a b c)(C:s a b c)(D:t a b c):∃a,∃b,∃c,p a b c/\q a b c/\r a b c/\s a b c/\t a b c:=⟨_,_,c,h,A,B,C,D⟩
theorem fk {p:α->β->Prop}{q r s:α->β->γ->δ->Prop}{a b c d}(h:p a b)(A:q a b c d)(B:r a b c d)(C:s a b c d):∃a,∃b,p a b/\∃c,∃d,q a b c d/\r a b c d/\s a b c d:=⟨_,_,h,_,_,A,B,C⟩
theorem fm {p q r s:α->β->Prop}{Z:Prop}(k:∀a,∀b,p a b->q a b->r a b->s a b->Z):(∃a,∃b,p a b/\q a b/\r a b/\s a b)->Z:=λ⟨a,b,h,A,B,C⟩=>k a b h A B C
theorem fq {p q:α->Prop}{Z:Prop}(k:∀a,p a->q a->Z):(∃a,p a/\q a)->Z:=λ⟨a,h,A⟩=>k a h A
theorem fu {p:α->β->γ->δ->ε->ζ->η->θ->Prop}{Z:Prop}(k:∀a,∀b,∀c,∀d,∀e,∀f,∀g,∀i,p a b c d e f g i->Z):(∃a,∃b,∃c,∃d,∃e,∃f,∃g,∃i,p a b c d e f g i)->Z:=λ⟨a,b,c,d,e,f,g,i,h⟩=>k a b c d e f g i h
theorem fy {p q r:α->Prop}{Z:Prop}(k:∀a,p a->q a->r a->Z):(∃a,p a/\q a/\r a)->Z:=λ⟨a,h,A,B⟩=>k a h A B
theorem fB {p q r:Prop}{Z:Prop}(k:p->q->r->Z):(p/\q/\r)->Z:=λ⟨h,A,B⟩=>k h A B
theorem fC {p q r s t:α->β->γ->Prop}{Z:Prop}(k:∀a,∀b,∀c,p a b c->q a b c->r a b c->s a b c->t a b c->Z):(∃a,∃b,∃c,p a b c/\q a b c/\r a b c/\s a b c/\t a b c)->Z:=λ⟨a,b,c,h,A,B,C,D⟩=>k a b c h A B C D
theorem fD {p q r s t:α->β->Prop}{Z:Prop}(k:∀a,∀b,p a b->q a b->r a b->s a b->t a b->Z):(∃a,∃b,p a b/\q a b/\r a b/\s a b/\t a b)->Z:=λ⟨a,b,h,A,B,C,D⟩=>k a b h A B C D
theorem fE {p q r s:Prop}{Z:Prop}(k:p->q->r->s->Z):(p/\q/\r/\s)->Z:=λ⟨h,A,B,C⟩=>k h A B C
theorem fF {p q r s:α->β->γ->Prop}{Z:Prop}(k:∀a,∀b,∀c,p a b c->q a b c->r a b c->s a b c->Z):(∃a,∃b,∃c,p a b c/\q a b c/\r a b c/\s a b c)->Z:=λ⟨a,b,c,h,A,B,C⟩=>k a b c h A B C
theorem fG {p q:Prop}{r s:α->Prop}{Z:Prop}(k:p->q->∀a,r a->s a->Z):(p/\q/\∃a,r a/\s a)->Z:=λ⟨h,A,a,B,C⟩=>k h A a B C
theorem fH {p q r:α->β->Prop}{Z:Prop}(k:∀a,∀b,p a b->q a b->r a b->Z):(∃a,∃b,p a b/\q a b/\r a b)->Z:=λ⟨a,b,h,A,B⟩=>k a b h A B
theorem fJ {p q r s t u:Prop}{Z:Prop}(k:p->q->r->s->t->u->Z):(p/\q/\r/\s/\t/\u)->Z:=λ⟨h,A,B,C,D,E⟩=>k h A B C D E
theorem fK {p:α->Prop}{q r:α->β->Prop}{Z:Prop}(k:∀a,p a->∀b,q a b->r a b->Z):(∃a,p a/\∃b,q a b/\r a b)->Z:=λ⟨a,h,b,A,B⟩=>k a h b A B
theorem fL {p q:α->β->γ->δ->Prop}{Z:Prop}(k:∀a,∀b,∀c,∀d,p a b c d->q a b c d->Z):(∃a,∃b,∃c,∃d,p a b c d/\q a b c d)->Z:=λ⟨a,b,c,d,h,A⟩=>k a b c d h A
theorem fM {p q r:α->β->γ->Prop}{Z:Prop}(k:∀a,∀b,∀c,p a b c->q a b c->r a b c->Z):(∃a,∃b,∃c,p a b c/\q a b c/\r a b c)->Z:=λ⟨a,b,c,h,A,B⟩=>k a b c h A B
theorem fN {p q r s:α->β->γ->δ->Prop}{Z:Prop}(k:∀a,∀b,∀c,∀d,p a b c d->q a b c d->r a b c d->s a b c d->Z):(∃a,∃b,∃c,∃d,p a b c d/\q a b c d/\r a b c d/\s a b c d)->Z:=λ⟨a,b,c,d,h,A,B,C⟩=>k a b c d h A B C
theorem fO {p q r s t:Prop}{Z:Prop}(k:p->q->r->s->t->Z):(p/\q/\r/\s/\t)->Z:=λ⟨h,A,B,C,D⟩=>k h A B C D
theorem fP {p q:α->β->Prop}{Z:Prop}(k:∀a,∀b,p a b->q a b->Z):(∃a,∃b,p a b/\q a b)->Z:=λ⟨a,b,h,A⟩=>k a b h A
theorem fQ {p:α->β->γ->δ->Prop}{Z:Prop}(k:∀a,∀b,∀c,∀d,p a b c d->Z):(∃a,∃b,∃c,∃d,p a b c d)->Z:=λ⟨a,b,c,d,h⟩=>k a b c d h
theorem fR {p q:Prop}{Z:Prop}(k:p->q->Z):(p/\q)->Z:=λ⟨h,A⟩=>k h A
theorem fS {p q r s t:α->β->γ->δ->Prop}{Z:Prop}(k:∀a,∀b,∀c,∀d,p a b c d->q a b c d->r a b c d->s a b c d->t a b c d->Z):(∃a,∃b,∃c,∃d,p a b c d/\q a b c d/\r a b c d/\s a b c d/\t a b c d)->Z:=λ⟨a,b,c,d,h,A,B,C,D⟩=>k a b c d h A B C D
theorem fT {p q r s t u:α->β->γ->Prop}{Z:Prop}(k:∀a,∀b,∀c,p a b c->q a b c->r a b c->s a b c->t a b c->u a b c->Z):(∃a,∃b,∃c,p a b c/\q a b c/\r a b c/\s a b c/\t a b c/\u a b c)->Z:=λ⟨a,b,c,h,A,B,C,D,E⟩=>k a b c h A B C D E
theorem fU {p q r s t:α->Prop}{Z:Prop}(k:∀a,p a->q a->r a->s a->t a->Z):(∃a,p a/\q a/\r a/\s a/\t a)->Z:=λ⟨a,h,A,B,C,D⟩=>k a h A B C D
theorem fV {p q r s t u:α->β->Prop}{Z:Prop}(k:∀a,∀b,p a b->q a b->r a b->s a b->t a b->u a b->Z):(∃a,∃b,p a b/\q a b/\r a b/\s a b/\t a b/\u a b)->Z:=λ⟨a,b,h,A,B,C,D,E⟩=>k a b h A B C D E
theorem fW {p q r s t u:α->β->γ->δ->Prop}{Z:Prop}(k:∀a,∀b,∀c,∀d,p a b c d->q a b c d->r a b c d->s a b c d->t a b c d->u a b c d->Z):(∃a,∃b,∃c,∃d,p a b c d/\q a b c d/\r a b c d/\s a b c d/\t a b c d/\u a b c d)->Z:=λ⟨a,b,c,d,h,A,B,C,D,E⟩=>k a b c d h A B C D E
theorem fX {p q:α->β->γ->Prop}{Z:Prop}(k:∀a,∀b,∀c,p a b c->q a b c->Z):(∃a,∃b,∃c,p a b c/\q a b c)->Z:=λ⟨a,b,c,h,A⟩=>k a b c h A
theorem fY {p q r s t:α->β->γ->δ->ε->Prop}{Z:Prop}(k:∀a,∀b,∀c,∀d,∀e,p a b c d e->q a b c d e->r a b c d e->s a b c d e->t a b c d e->Z):(∃a,∃b,∃c,∃d,∃e,p a b c d e/\q a b c d e/\r a b c d e/\s a b c d e/\t a b c d e)->Z:=λ⟨a,b,c,d,e,h,A,B,C,D⟩=>k a b c d e h A B C D
theorem fZ {p q:α->β->γ->δ->ε->ζ->η->Prop}{Z:Prop}(k:∀a,∀b,∀c,∀d,∀e,∀f,∀g,p a b c d e f g->q a b c d e f g->Z):(∃a,∃b,∃c,∃d,∃e,∃f,∃g,p a b c d e f g/\q a b c d e f g)->Z:=λ⟨a,b,c,d,e,f,g,h,A⟩=>k a b c d e f g h A
theorem gb {p q r s t:α->β->γ->δ->ε->ζ->η->Prop}{Z:Prop}(k:∀a,∀b,∀c,∀d,∀e,∀f,∀g,p a b c d e f g->q a b c d e f g->r a b c d e f g->s a b c d e f g->t a b c d e f g->Z):(∃a,∃b,∃c,∃d,∃e,∃f,∃g,p a b c d e f g/\q a b c d e f g/\r a b c d e f g/\s a b c d e f g/\t a b c d e f g)->Z:=λ⟨a,b,c,d,e,f,g,h,A,B,C,D⟩=>k a b c d e f g h A B C D
theorem gc {p q r s t:α->β->γ->δ->ε->ζ->Prop}{Z:Prop}(k:∀a,∀b,∀c,∀d,∀e,∀f,p a b c d e f->q a b c d e f->r a b c d e f->s a b c d e f->t a b c d e f->Z):(∃a,∃b,∃c,∃d,∃e,∃f,p a b c d e f/\q a b c d e f/\r a b c d e f/\s a b c d e f/\t a b c d e f)->Z:=λ⟨a,b,c,d,e,f,h,A,B,C,D⟩=>k a b c d e f h A B C D
theorem gf {p q:Prop}{r:α->Prop}{s t:α->β->γ->δ->Prop}{Z:Prop}(k:p->q->∀a,r a->∀b,∀c,∀d,s a b c d->t a b c d->Z):(p/\q/\∃a,r a/\∃b,∃c,∃d,s a b c d/\t a b c d)->Z:=λ⟨h,A,a,B,b,c,d,C,D⟩=>k h A a B b c d C D
theorem gg {p:Prop}{q r s:α->β->Prop}{Z:Prop}(k:p->∀a,∀b,q a b->r a b->s a b->Z):(p/\∃a,∃b,q a b/\r a b/\s a b)->Z:=λ⟨h,a,b,A,B,C⟩=>k h a b A B C
theorem gh {p:α->β->γ->δ->ε->Prop}{Z:Prop}(k:∀a,∀b,∀c,∀d,∀e,p a b c d e->Z):(∃a,∃b,∃c,∃d,∃e,p a b c d e)->Z:=λ⟨a,b,c,d,e,h⟩=>k a b c d e h
theorem gi {p:α->Prop}{Z:Prop}(k:∀a,p a->Z):(∃a,p a)->Z:=λ⟨a,h⟩=>k a h
theorem gj {p:Prop}{q r s t u:α->β->Prop}{Z:Prop}(k:p->∀a,∀b,q a b->r a b->s a b->t a b->u a b->Z):(p/\∃a,∃b,q a b/\r a b/\s a b/\t a b/\u a b)->Z:=λ⟨h,a,b,A,B,C,D,E⟩=>k h a b A B C D E
theorem gk {p:α->Prop}{q r s t:α->β->γ->δ->Prop}{Z:Prop}(k:∀a,p a->∀b,∀c,∀d,q a b c d->r a b c d->s a b c d->t a b c d->Z):(∃a,p a/\∃b,∃c,∃d,q a b c d/\r a b c d/\s a b c d/\t a b c d)->Z:=λ⟨a,h,b,c,d,A,B,C,D⟩=>k a h b c d A B C D
theorem gn {p:α->β->Prop}{Z:Prop}(k:∀a,∀b,p a b->Z):(∃a,∃b,p a b)->Z:=λ⟨a,b,h⟩=>k a b h
end
abbrev AE:=List PySem.Str
abbrev  AA:=Nat×Nat
abbrev AD:=List AA
namespace L2
open PySem PySem.Spec PyProof.Rows
abbrev Key:=Sum Int Str
def zeh:Key->X9->Bool
 | .inl k,v=>Value.isInt k v
 | .inr x,v=>Value.isStrOf x v
def zpO (w:W3):Key->Int
 | .inl k=>hashInt k
 | .inr x=>hashStr w x
theorem qY:∀{k:Key} {v:X9},zeh k v=true->(∃i t,k=OX i/\v=Vv i t)\/(∃x t,k=OW x/\v=Ob x t)
 | .inl i,v,h=>by
  obtain⟨t,e⟩:=Value.isInt_shape (k:=i) (v:=v) h;exact .inl ⟨i,t,rfl,e⟩
 | .inr x,v,h=>by
  obtain⟨t,e⟩:=Value.isStrOf_shape (x:=x) (v:=v) h;exact .inr ⟨x,t,rfl,e⟩
def zbs (i:Int)(t:Tok):zeh (.inl i) (.int i t)=true:=by simp[zeh,Value.isInt]
def zj7 (x:Str)(t:Tok):zeh (.inr x) (.str x t)=true:=by simp[zeh,Value.isStrOf]
def zpP (a b:Int):decide ((OX a:Key)=OX b)=(a==b):=by
 by_cases e:a=b
 .subst e;simp
 .have h:¬ (OX a:Key)=OX b:=λq=>e (Sum.inl.inj q);rw[bf h];exact(beq_eq_false_iff_ne.mpr e).symm
def zpQ (a b:Str):decide ((OW a:Key)=OW b)=decide (a=b):=by
 by_cases e:a=b
 .subst e;simp
 .have h:¬ (OW a:Key)=OW b:=λq=>e (Sum.inr.inj q);rw[bf h,bf e]
def zpR (a:Int)(b:Str):decide ((OX a:Key)=OW b)=false:=bf (λq=>nomatch q)
def zpS (a:Str)(b:Int):decide ((OW a:Key)=OX b)=false:=bf (λq=>nomatch q)
def zV (prog:Xm)(w:W3):PySem.KeyKind prog w Key where
 is:=zeh
 hash:=zpO w
 inj:=λv a b ha hb=>by
  rcases qY ha with ⟨i,t,rfl,rfl⟩ | ⟨x,t,rfl,rfl⟩
  .rcases qY hb with ⟨j,u,rfl,e⟩ | ⟨y,u,rfl,e⟩
   .injection e with e1 _;rw[e1]
   .exact nomatch e
  .rcases qY hb with ⟨j,u,rfl,e⟩ | ⟨y,u,rfl,e⟩
   .exact nomatch e
   .injection e with e1 _;rw[e1]
 byValue:=λk v h=>by
  rcases qY h with ⟨i,t,rfl,rfl⟩ | ⟨x,t,rfl,rfl⟩<;>rfl
 pyHash:=λhv h=>by
  rcases qY hv with ⟨i,t,rfl,rfl⟩ | ⟨x,t,rfl,rfl⟩
  .exact wpAny_pyHash_int h
  .exact wpAny_pyHash_str h
 eqBool:=λhu hv h=>by
  rcases qY hu with ⟨i,t,rfl,rfl⟩ | ⟨x,t,rfl,rfl⟩
  .rcases qY hv with ⟨j,u,rfl,rfl⟩ | ⟨y,u,rfl,rfl⟩
   .rw[zpP]at h;exact wpAny_eqBool_int h
   .rw[zpR]at h;exact SeqAt.EqAt.int_str i t y u _ _ _ _ h
  .rcases qY hv with ⟨j,u,rfl,rfl⟩ | ⟨y,u,rfl,rfl⟩
   .rw[zpS]at h;exact SeqAt.EqAt.str_int x t j u _ _ _ _ h
   .rw[zpQ]at h;exact wpAny_eqBool_str h
 «strs»:=λk x t v h=>by
  rcases qY h with ⟨i,u,rfl,e⟩ | ⟨y,u,rfl,e⟩
  .exact nomatch e
  .injection e with e1 _
   subst e1;cases v<;>rfl
def zf9 (prog:Xm)(w:W3)(i:Int)(t:Tok):(zV prog w).is (.inl i) (.int i t)=true:=zbs i t
def zga (prog:Xm)(w:W3)(x:Str)(t:Tok):(zV prog w).is (.inr x) (.str x t)=true:=zj7 x t
inductive V where
 | non | bl (b:Bool) | int (i:Int) | str (x:Str) | byt (b:Array UInt8) | flt (b:UInt64) | ref (a:Addr) | ty (n:String)
 deriving DecidableEq
abbrev AF:=List V
def RelV:V->X9->Prop
 | .non,u=>u=Ur
 | .bl b,u=>u=Ov b
 | .int i,u=>∃t,u=Vv i t
 | .str x,u=>∃t,u=Ob x t
 | .byt b,u=>∃t,u=Value.bytes b t
 | .flt b,u=>∃t,u=Value.float b t
 | .ref a,u=>u=WT a
 | .ty n,u=>u=P8 n
abbrev Vals:AF->List X9->Prop:=Xl RelV
theorem Vals.length {xs:AF}{a:List X9}(r:Vals xs a):xs.length=a.length:=Paired.length r
theorem Vals.get:∀{xs:AF} {a:List X9} {i:Nat} {x:V},Vals xs a->xs[i]?=some x->∃u,a[i]?=some u/\RelV x u
 | _,_,_,_,.nil,e=>by simp at e
 | _,_,0,_,.cons r _,e=>by simp at e;subst e;exact⟨_,rfl,r⟩
 | _,_,i+1,x,.cons _ t,e=>by
  obtain⟨u,h1,h2⟩:=Vals.get (i:=i) (x:=x) t (by simpa using e);exact⟨u,by simpa using h1,h2⟩
theorem Vals.set {x:V}{u:X9}(r:RelV x u):∀{xs:AF} {a:List X9} (i:Nat),Vals xs a->Vals (xs.set i x) (a.set i u)
 | _,_,_,.nil=>.nil
 | _,_,0,.cons _ t=>.cons r t
 | _,_,i+1,.cons q t=>.cons q (Vals.set r i t)
theorem Vals.append:∀{xs ys:AF} {a b:List X9},Vals xs a->Vals ys b->Vals (xs++ys) (a++b)
 | _,_,_,_,.nil,s=>s
 | _,_,_,_,.cons r t,s=>.cons r (Vals.append t s)
theorem Vals.take:∀{xs:AF} {a:List X9} (n:Nat),Vals xs a->Vals (xs.take n) (a.take n)
 | _,_,0,_=>.nil
 | _,_,_+1,.nil=>.nil
 | _,_,n+1,.cons r t=>.cons r (Vals.take n t)
theorem Vals.drop:∀{xs:AF} {a:List X9} (n:Nat),Vals xs a->Vals (xs.drop n) (a.drop n)
 | _,_,0,r=>r
 | _,_,_+1,.nil=>.nil
 | _,_,n+1,.cons _ t=>Vals.drop n t
def zbt:Option V->Option X9->Prop
 | some v,some u=>RelV v u
 | none,none=>True
 | _,_=>False
def KV {a:Type}:List (a × V)->List (a × X9)->Prop:=Xl λ(p:a × V) (q:a × X9)=>p.1=q.1/\RelV p.2 q.2
def kV:Key->V
 | .inl i=>.int i
 | .inr x=>.str x
inductive HO where
  | lst (xs:AF)
  | tup (xs:AF)
  | dK (kvs:List (Key×V)) | dT (kvs:List (List Key×V))
  | set (S:Int->Bool) (n:Nat)
  | ins (C dx:Addr) (fs:List (Str×V))
  | own (x:Addr)
  | xd (fs:List (Str×V))
  | met (f x:Addr)
  | rng (lo hi:Int)
  | frz (o:Obj) (u:HO)
  | tbl (ps:Array X9)
  | ext (φ:Heap->Prop)
abbrev Hp:=Addr->Option HO
def upd (H:Hp)(a:Addr)(o:HO):Hp:=λb=>if b=a then some o else H b
def zb {H:Hp}{a:Addr}{o:HO}:upd H a o a=some o:=by unfold upd;rw[bw rfl]
def zj {H:Hp}{a b:Addr}{o:HO}(h:b≠a):upd H a o b=H b:=by unfold upd;rw[bq h]
def zei {H:Hp}{a b:Addr}{o u:HO}(h:H a=some o)(h':H b=some u)(d:o≠u):a≠b:=by
 intro e;subst e;rw[h]at h';exact d (Option.some.inj h')
def zh {H:Hp}{a b:Addr}{o:HO}(h:H a=some o)(h':H b=none):a≠b:=by
 intro e;subst e;rw[h]at h';cases h'
section
variable (P:Xm)(w:W3)
def qH (H:Hp)(h:Heap)(a:Addr):HO->Prop
 | .lst xs=>xs.length<=XA/\∃(b:List X9) (n:Nat),Vals xs b/\h.get? a=some { cls:=.type "list",data:=.seq b.toArray n }
 | .tup xs=>xs.length<=XA/\∃b:List X9,Vals xs b/\N5 h a b.toArray
 | .dK c=>c.length<=XA/\(a==Vi)=false/\∃j,KV c j/\h.DictOf (zV P w) a j
 | .dT c=>c.length<=XA/\(a==Vi)=false/\∃xs:List (List Key×Addr×X9),
   Xl (λ(p:List Key×V) (q:List Key×Addr×X9)=>p.1=q.1/\H q.2.1=some (.tup (p.1.map kV))/\RelV p.2 q.2.2) c xs /\
   ∃o i l,h.get? a=some o/\o.ExactDict/\o.data=.dict i l/\i.toList=xs.map (Tk (VZ (zV P w)))/\(xs.map (·.1)).Nodup
 | .set S n=>h.SetOf (intKind P w) a S n
 | .ins C e fs=>H e=some (.own a)/\fs.length<=1000/\e≠a/\h.get? a=some (PH C e) /\
   ∃d,h.Ns1 e d/\(∀f,zbt (fs.lookup f) (d f))/\PySem.Within d (fs.map (·.1))
 | .own _=>∃o,h.get? a=some o
 | .xd fs=>∃d,h.Ns1 a d/\∀f,zbt (fs.lookup f) (d f)
 | .rng lo m=>∃t u v,h.get? a=some { cls:=.type "range",data:=.fields #[.int lo t,.int m u,.int 1 v] }
 | .frz o u=>h.get? a=some o/\qH H h a u
 | .tbl r=>h.get? a=some { cls:=.none,data:=.fields r }
 | .met f x=>h.get? a=some (RB (.ref f) (.ref x))
 | .ext g=>g h/\(∃o,h.get? a=some o)/\∀h1 h2:Heap,g h1->(∀o,h1.get? a=some o->h2.get? a=some o)->g h2
def HOk (H:Hp)(h:Heap):Prop:=∀a o,H a=some o->qH P w H h a o
end
section
variable {P:Xm}{w:W3}{H H':Hp}{h h':Heap}{a:Addr}{o:HO}
theorem qH.lt (x:qH P w H h a o):a<h.objs.size:=by
 cases o with
 | lst c=>obtain⟨_,_,_,_,e⟩:=x;exact XB e
 | tup c=>obtain⟨_,_,_,p⟩:=x;exact p.lt
 | dK b=>revert x;refine gf λ_ _ _ _ o _ _ e _=>?_;exact XB e
 | dT b=>revert x;refine gf λ_ _ _ _ o _ _ e _=>?_;exact XB e
 | set S n=>revert x;refine fL λo _ _ _ e _=>?_;exact XB e
 | ins C d fs=>obtain⟨_,_,_,e,_⟩:=x;exact XB e
 | own y=>obtain⟨_,e⟩:=x;exact XB e
 | xd fs=>obtain⟨_,⟨_,_,_,e,_⟩,_⟩:=x;exact XB e
 | rng lo g=>obtain⟨_,_,_,e⟩:=x;exact XB e
 | frz ob u=>obtain⟨e,_⟩:=x;exact XB e
 | tbl i=>exact XB (show h.get? a=some _ from x)
 | met f y=>exact XB (show h.get? a=some _ from x)
 | ext j=>obtain⟨_,⟨_,e⟩,_⟩:=x;exact XB e
theorem Paired.mapP {α c:Type}{F G:α->c->Prop}:∀{l₁:List α} {l₂:List c},Xl F l₁ l₂->(∀a b,F a b->G a b)->Xl G l₁ l₂
 | _,_,.nil,_=>.nil
 | _,_,.cons r t,f=>.cons (f _ _ r) (Paired.mapP t f)
def Paired.imp' {α c:Type}{F G:α->c->Prop}(f:∀a b,F a b->G a b){l₁:List α}{l₂:List c}(r:Xl F l₁ l₂):Xl G l₁ l₂:=Paired.mapP r f
def qH.stay (x:qH P w H h a o)(k:∀b u,(b=a\/H b=some (.own a))->h.get? b=some u->h'.get? b=some u)
  (D:∀b,H b=some (.own a)->H' b=some (.own a)) (E:∀b xs,H b=some (.tup xs)->H' b=some (.tup xs)):qH P w H' h' a o:=by
 induction o with
 | lst xs=>obtain⟨z,j,n,r,e⟩:=x;exact⟨z,j,n,r,k _ _ (.inl rfl) e⟩
 | tup xs=>obtain⟨z,j,r,ob,e,c⟩:=x;exact⟨z,j,r,ob,k _ _ (.inl rfl) e,c⟩
 | dK l=>revert x;refine gf λz y J r ob i g e c=>?_;exact dD z y (dS J r (dF ob i (dS g (k _ _ (.inl rfl) e) c)))
 | dT l =>
  revert x;refine gf λz y xs r ob i g e c=>?_;exact dD z y (dS xs (Paired.mapP r λp q z=>⟨z.1,E _ _ z.2.1,z.2.2⟩) (dF ob i (dS g (k _ _ (.inl rfl) e) c)))
 | set S n=>revert x;refine fL λob i g t e c=>?_;exact dR ob i g t ⟨k _ _ (.inl rfl) e,c⟩
 | ins C L fs =>
  obtain⟨d,z,I,e,m,⟨s,i,g,B,c⟩,r⟩:=x;exact⟨D _ d,z,I,k _ _ (.inl rfl) e,m,⟨s,i,g,k _ _ (.inr d) B,c⟩,r⟩
 | own y=>obtain⟨ob,e⟩:=x;exact⟨ob,k _ _ (.inl rfl) e⟩
 | xd fs=>obtain⟨m,⟨s,i,g,e,c⟩,r⟩:=x;exact⟨m,⟨s,i,g,k _ _ (.inl rfl) e,c⟩,r⟩
 | rng lo M=>obtain⟨t,u,v,e⟩:=x;exact⟨t,u,v,k _ _ (.inl rfl) e⟩
 | frz ob u G=>obtain⟨e,q⟩:=x;exact⟨k _ _ (.inl rfl) e,G q⟩
 | tbl A =>
  have e:h.get? a=some { cls:=.none,data:=.fields A }:=x;show h'.get? a=some { cls:=.none,data:=.fields A };exact k a _ (.inl rfl) e
 | met f y =>
  have e:h.get? a=some (RB (.ref f) (.ref y)):=x;show h'.get? a=some (RB (.ref f) (.ref y));exact k a _ (.inl rfl) e
 | ext N=>obtain⟨p,⟨o,e⟩,st⟩:=x;exact⟨st _ _ p λo q=>k _ _ (.inl rfl) q,⟨o,k _ _ (.inl rfl) e⟩,st⟩
theorem HOk.lt (x:HOk P w H h)(e:H a=some o):a<h.objs.size:=(x a o e).lt
def HOk.fresh (x:HOk P w H h)(e:h.objs.size<=a):H a=none:=by
 cases q:H a with
 | none=>rfl
 | some u=>exact absurd (Xk (x.lt q) e) (VJ _)
def HOk.kept (x:HOk P w H h)(k:∀b u,h.get? b=some u->h'.get? b=some u):HOk P w H h':=λa o e =>
 (x a o e).stay (λb u _ q=>k b u q) (λ_ q=>q) λ_ _ q=>q
def HOk.laid (x:HOk P w H h)(k:∀b u,h.get? b=some u->h'.get? b=some u)(i:h.objs.size<=a)(d:qH P w (upd H a o) h' a o):HOk P w (upd H a o) h':=λb u e=>by
 have g:=x.fresh i;by_cases f:b=a
 .subst f;rw[zb]at e;cases e;exact d
 .rw[zj f]at e;exact(x b u e).stay (λc v _ q=>k c v q) (λc q=>by rw[zj (zh q g)];exact q) λc j q=>by rw[zj (zh q g)];exact q
end
def Rd (H:Hp)(a:Addr)(u:HO):Prop:=H a=some u\/∃o,H a=some (.frz o u)
def Rd.ok {P:Xm}{w:W3}{H:Hp}{h:Heap}{a:Addr}{u:HO}(r:Rd H a u)(x:HOk P w H h):qH P w H h a u:=by
 rcases r with r | ⟨o,r⟩
 .exact x a u r
 .obtain⟨_,q⟩:=x a _ r;exact q
def Mut:Option HO->Prop
 | some (.lst _)=>True
 | some (.dK _)=>True
 | some (.dT _)=>True
 | some (.set _ _)=>True
 | some (.ins _ _ _)=>True
 | some (.ext _)=>True
 | _=>False
section
variable {P:Xm}{w:W3}{H:Hp}{h h':Heap}{x e:Addr}{o':HO}
def HOk.write (ok:HOk P w H h)(i:Mut (H x))(he:e=x\/H e=some (.own x))(k:∀b u,b≠e->h.get? b=some u->h'.get? b=some u)(l:∃u,h'.get? e=some u)
  (m:qH P w (upd H x o') h' x o'):HOk P w (upd H x o') h':=λb u q=>by
 have d:∀c y,H c=some (.own y)->c≠x:=λc y r z=>by subst z;rw[r]at i;exact i
 have f:∀c j,H c=some (.tup j)->c≠x:=λc j r z=>by subst z;rw[r]at i;exact i
 by_cases g:b=x
 .subst g;rw[zb]at q;cases q;exact m
 .rw[zj g]at q;by_cases a:b=e
  .have n:H b=some (.own x):=by
    rcases he with z | z
    .exact absurd (a.trans z) g
    .rw[a];exact z
   rw[q]at n;cases n;obtain⟨v,o⟩:=l;exact⟨v,by rw[a];exact o⟩
  .refine(ok b u q).stay (λc v hc r=>k c v ?_ r) (λc r=>by rw[zj (d c b r)];exact r) λc j r=>by rw[zj (f c j r)];exact r
   rcases hc with rfl | hc
   .exact a
   .rintro rfl;rcases he with z | z
    .exact d c b hc z
    .rw[hc]at z;cases z;exact g rfl
end
structure Un (fs ex:List Addr)(H H':Hp)(h h':Heap):Prop where
 keep:∀b o,h.get? b=some o->H b=none->b ∉ fs->b ∉ ex->h'.get? b=some o
 slot:∀b o,h.get? b=some o->H b=none->b∈fs->b ∉ ex->∃sl,h'.get? b=some { o with slots:=sl }
 free:∀b o,h.get? b=some o->H b=none->b ∉ ex->H' b=none
 there:∀b o,h.get? b=some o->b ∉ ex->∃o',h'.get? b=some o'
 tups:∀b xs,H b=some (.tup xs)->H' b=some (.tup xs)
 frzs:∀b o u,H b=some (.frz o u)->H' b=some (.frz o u)
 tbls:∀b ps,H b=some (.tbl ps)->∃more,H' b=some (.tbl (ps++more))
section
variable {fs fs' ex ex':List Addr}{H H1 H2:Hp}{h h1 h2 h':Heap}{a x e:Addr}{o:HO}
def Un.any (u:Un fs ex H H1 h h1){b:Addr}{ob:Obj}(q:h.get? b=some ob)(n:H b=none)(c:b ∉ ex):∃d,h1.get? b=some { ob with slots:=d }:=by
 by_cases a:b∈fs
 .exact u.slot b ob q n a c
 .exact⟨ob.slots,u.keep b ob q n a c⟩
def Un.kept (k:∀b u,h.get? b=some u->h'.get? b=some u):Un fs ex H H h h' :=
 ⟨λb ob q _ _ _=>k b ob q,λb ob q _ _ _=>⟨ob.slots,k b ob q⟩,λ_ _ _ n _=>n,λb ob q _=>⟨ob,k b ob q⟩,λ_ _ q=>q,λ_ _ _ q=>q,λ_ a q=>⟨#[],by rw[q];simp⟩⟩
def Un.refl:Un fs ex H H h h:=Un.kept λ_ _ q=>q
def Un.laid (k:∀b u,h.get? b=some u->h'.get? b=some u)(hp:h.objs.size<=a)(hn:H a=none):Un fs ex H (upd H a o) h h' where
 keep:=λb u q _ _ _=>k b u q
 slot:=λb u q _ _ _=>⟨u.slots,k b u q⟩
 free:=λb u q n _=>by rw[zj (Xi (Xk (XB q) hp))];exact n
 there:=λb u q _=>⟨u,k b u q⟩
 tups:=λb xs q=>by rw[zj (zh q hn)];exact q
 frzs:=λb u xs q=>by rw[zj (zh q hn)];exact q
 tbls:=λb ps q=>⟨#[],by rw[zj (zh q hn),q];simp⟩
def Un.write (c:Mut (H x))(he:e=x\/H e=some (.own x))(k:∀b u,b≠e->h.get? b=some u->h'.get? b=some u)(d:∃u,h'.get? e=some u):Un fs ex H (upd H x o) h h':=by
 have i:∀b,H b=none->b≠x:=λb n z=>by subst z;rw[n]at c;exact c
 have g:∀b,H b=none->b≠e:=λb n z=>by
  subst z;rcases he with r | r
  .exact i b n r
  .rw[n]at r;cases r
 have f:∀b u,H b=some u->¬ Mut (some u)->b≠x:=λb u q j z=>by subst z;rw[q]at c;exact j c
 refine⟨λb u q n _ _=>k b u (g b n) q,λb u q n _ _=>⟨u.slots,k b u (g b n) q⟩,λb u q n _=>by rw[zj (i b n)];exact n,λb u q _=>?_,λb l q=>by rw[zj (f b _ q λz=>z)];exact q,λb u l q=>by rw[zj (f b _ q λz=>z)];exact q,λb m q=>⟨#[],by rw[zj (f b _ q λz=>z),q];simp⟩⟩
 by_cases a:b=e
 .subst a;exact d
 .exact⟨u,k b u a q⟩
end
def trk (h:Heap)(H:Hp):List Addr:=(Wm h.objs.size).filter λa=>(H a).isSome
def zfk (h:Heap)(H:Hp):Heap:=PySem.W.hideAll h (trk h H)
def zj8 (h:Heap)(H:Hp):(zfk h H).objs.size=h.objs.size:=PySem.W.hideAll_size _ _
def zls {h:Heap}{H:Hp}{b:Addr}{o:Obj}(e:h.get? b=some o)(n:H b=none):(zfk h H).get? b=some o :=
 TC _ e λa=>by
  have q:(H b).isSome=true:=(XW.mp a).2;rw[n]at q;simp at q
def znM {h:Heap}{H:Hp}{b:Addr}{o:Obj}(e:(zfk h H).get? b=some o):h.get? b=some o/\H b=none:=by
 have a:h.get? b=some o:=PySem.W.of_hideAll (trk h H) e;refine⟨a,?_⟩;cases q:H b with
 | none=>rfl
 | some x =>
  have c:b∈trk h H:=XW.mpr ⟨VW.mpr (XB a),by simp[q]⟩;have z:(zfk h H).get? b=none:=PySem.W.hideAll_none (trk h H) c;rw[z]at e;cases e
structure Mod (K:XX)(mg:Str->Option X9)(base:Heap):Prop where
 kin:K.In base
 glob:base.Ns XG mg
 blt:∃mb,base.Ns Ou mb/\∀x:Str,x ≠ "__name__"->mb x=UO x
 nolimit:base.NoLimit
structure Cx where
 prog:Xm
 w:W3
 K:XX
 mg:Str->Option X9
 base:Heap
 A:WN
 N:AE
 s₀:X7
 H₀:Hp
 env:Env
 outer:List Env
 stack:List Env
 ex:List Addr
 fn:Str->Bool
 calm:Bool
 pn:List (Addr×Obj)
 xe:X9->X7->Prop
def frs (l:List Env):List Addr:=l.filterMap (·.frame)
abbrev Cx.fs (X:Cx):List Addr:=frs X.outer
def Vis (a:UB)(x:Str):Prop:=a.names.lookup x=some .local\/a.names.lookup x=some .cell\/a.names.lookup x=some .free
def Loc (a:UB)(x:Str):Prop:=a.names.lookup x=some .local\/a.names.lookup x=some .cell
def Look (a:Env)(h:Heap)(m:Str->Option X9)(x:Str)(u:X9):Prop :=
 (a.kindOf x=some .local/\m x=some u)\/((a.kindOf x=some .cell\/a.kindOf x=some .free)/\∃c,a.cells.lookup x=some c/\h.IsCell c (some u))
structure Cx.Ok (X:Cx):Prop where
 mod:Mod X.K X.mg X.base
 kind:X.env.scope.kind=.function
 glob:X.env.globals=XG
 blt:X.env.builtins=Ou
 above:X.s₀.heap.objs.size<=X.env.locals
 inj:∀x y c,X.env.cells.lookup x=some c->X.env.cells.lookup y=some c->x=y
 has:∀x,(X.env.kindOf x=some .cell\/X.env.kindOf x=some .free)->∃c,X.env.cells.lookup x=some c
 cab:∀x c,X.fn x=true->X.env.cells.lookup x=some c->X.s₀.heap.objs.size<=c
 hd:X.calm=true->X.A.handled=none
 frames:X.A.frames=some X.stack
 stk:X.stack=X.outer\/(X.stack=X.env::X.outer/\X.env.frame=some X.env.locals)
 exf:∀b∈X.ex,b≠X.env.locals/\∀x c,X.env.cells.lookup x=some c->c≠b
 bs:∀b o,X.base.get? b=some o->X.s₀.heap.get? b=some o/\X.H₀ b=none
 bsz:X.base.objs.size<=X.s₀.heap.objs.size
 noex:∀b o,X.base.get? b=some o->b ∉ X.ex
 exfs:∀b∈X.ex,b ∉ X.fs
 funs:X.s₀.heap.FunFrames X.base X.outer
 frf:∀b∈X.fs,X.H₀ b=none
structure Inv (X:Cx)(bz:List (Addr×Obj))(σ:List (Option V))(H:Hp)(s:X7):Prop where
 ok:X.Ok
 os:s.os=X.s₀.os
 bare:Sr s.gens
 base:Un X.fs X.ex X.H₀ H X.s₀.heap s.heap
 loc:∃m,s.heap.Ns X.env.locals m/\∀(i:Nat) (x:Str) (v:V),X.N[i]?=some x->σ[i]?=some (some v)->Vis X.env.scope x->∃u,RelV v u/\Look X.env s.heap m x u
 cell:∀x c,X.env.cells.lookup x=some c->∃v,s.heap.IsCell c v
 free:H X.env.locals=none
 jg:∀x c,X.env.cells.lookup x=some c->H c=none
 pin:∀p∈X.pn++bz,s.heap.get? p.1=some p.2/\H p.1=none/\p.1≠X.env.locals/\p.1 ∉ X.fs/\∀v,p.2.data ≠ .cell v
 hok:HOk X.prog X.w H s.heap
 len:σ.length=X.N.length
section
variable {X:Cx}{bz:List (Addr×Obj)}{σ:List (Option V)}{H H':Hp}{s:X7}{h':Heap}
def Cx.Ok.nofr (ok:X.Ok){b:Addr}{o:Obj}(e:X.base.get? b=some o):b ∉ X.fs:=λa=>by
 have:=(ok.funs.mem a).1;rw[e]at this;cases this
theorem Inv.bs (I:Inv X bz σ H s):∀b o,X.base.get? b=some o->s.heap.get? b=some o/\H b=none:=λb o e =>
 ⟨I.base.keep b o (I.ok.bs b o e).1 (I.ok.bs b o e).2 (I.ok.nofr e) (I.ok.noex b o e),I.base.free b o (I.ok.bs b o e).1 (I.ok.bs b o e).2 (I.ok.noex b o e)⟩
def Inv.bk (I:Inv X bz σ H s):∀b o,X.base.get? b=some o->s.heap.get? b=some o:=λb o e=>(I.bs b o e).1
theorem Inv.mod (I:Inv X bz σ H s):Mod X.K X.mg X.base:=I.ok.mod
def Inv.kIn (I:Inv X bz σ H s):X.K.In s.heap:=I.ok.mod.kin.keeps I.bk
theorem Inv.lt (I:Inv X bz σ H s):X.env.locals<s.heap.objs.size:=let ⟨_,hn,_⟩:=I.loc;hn.lt
def Inv.sz (I:Inv X bz σ H s):X.s₀.heap.objs.size<=s.heap.objs.size:=X6 I.ok.above (TM I.lt)
def Inv.nofs (I:Inv X bz σ H s){a:Addr}(h:s.heap.objs.size<=a):a ∉ X.fs:=λb=>by
 obtain⟨_,o,c,_⟩:=I.ok.funs.mem b;exact absurd (Xk (XB c) (X6 I.sz h)) (VJ _)
def Inv.cne (I:Inv X bz σ H s):∀x c,X.env.cells.lookup x=some c->c≠X.env.locals:=λx c e z=>by
 obtain⟨v,o,f,d⟩:=I.cell x c e;obtain⟨m,⟨i,h,g,b,a,_⟩,_⟩:=I.loc;rw[z,b]at f;cases f;rw[a]at d;cases d
theorem Inv.funs (I:Inv X bz σ H s):s.heap.FunFrames X.base X.outer:=by
 have all:∀(l:List Env),(∀b∈frs l,b∈X.fs)->X.s₀.heap.FunFrames X.base l->s.heap.FunFrames X.base l:=by
  intro l;induction l with
  | nil=>intro _ _;trivial
  | cons g r p =>
   intro f i;obtain⟨hk,⟨L,o,d,j,m,h⟩,n⟩:=i;have a:L∈X.fs:=f L (by unfold frs;rw[Vg,d];exact XQ);obtain⟨q,e⟩:=I.base.slot L o m (I.ok.frf L a) a λz=>I.ok.exfs L z a;exact⟨hk,⟨L,_,d,j,e,h⟩,p (λb c=>f b (by unfold frs;rw[Vg,d];exact XT _ c)) n⟩
 exact all X.outer (λ_ c=>c) I.ok.funs
theorem Inv.stack (I:Inv X bz σ H s):s.heap.FunFrames X.base X.stack:=by
 rcases I.ok.stk with e | ⟨e,a⟩
 .rw[e];exact I.funs
 .rw[e];obtain⟨m,b,_⟩:=I.loc;refine .cons (by rw[I.ok.kind];decide) a b ?_ I.funs;exact UM (X6 I.ok.bsz I.ok.above)
def Inv.stkSub (I:Inv X bz σ H s):∀b∈frs X.stack,b∈X.env.locals::X.fs:=λb a=>by
 rcases I.ok.stk with e | ⟨e,c⟩
 .rw[e]at a;exact XT _ a
 .rw[e]at a;unfold frs at a;rw[Vg,c]at a;exact a
def Inv.stkFree (I:Inv X bz σ H s):∀b∈frs X.stack,H b=none:=λb hb=>by
 rcases XH.mp (I.stkSub b hb) with e | hb
 .rw[e];exact I.free
 .obtain⟨_,o,a,_⟩:=I.ok.funs.mem hb;exact I.base.free b o a (I.ok.frf b hb) λz=>I.ok.exfs b z hb
def Inv.step {g':Array Sg}{t':Nat}{d':Drawn}{ch:List Addr}(I:Inv X bz σ H s)
  (g:∀b∈ch,(b∈X.ex\/X.s₀.heap.objs.size<=b)/\b≠X.env.locals/\(∀x c,X.env.cells.lookup x=some c->c≠b)/\∀p∈X.pn++bz,p.1≠b)
  (keep:∀b o,b≠X.env.locals->b ∉ X.fs->b ∉ ch->s.heap.get? b=some o->H b=none->h'.get? b=some o)
  (A:∀b o,b≠X.env.locals->b∈X.fs->b ∉ ch->s.heap.get? b=some o->H b=none->∃sl,h'.get? b=some { o with slots:=sl }) (free:∀b o,b ∉ ch->s.heap.get? b=some o->H b=none->H' b=none)
  (E:∀b o,b ∉ ch->s.heap.get? b=some o->∃N,h'.get? b=some N)
  (Q:∀b B,H b=some (.tup B)->H' b=some (.tup B)) (L:∀b o u,H b=some (.frz o u)->H' b=some (.frz o u)) (O:∀b U,H b=some (.tbl U)->∃more,H' b=some (.tbl (U++more)))
  (ns:∀m,s.heap.Ns X.env.locals m->h'.Ns X.env.locals m) (aa:HOk X.prog X.w H' h') (hg:Sr g') :
  Inv X bz σ H' { s with heap:=h',gens:=g',drawn:=d',toks:=t' }:=by
 have M:∀b o,X.s₀.heap.get? b=some o->b≠X.env.locals:=λb o e=>Xi (Xk (XB e) I.ok.above);have y:∀b o,X.s₀.heap.get? b=some o->b ∉ X.ex->b ∉ ch:=λb o e a D=>by
  rcases(g b D).1 with z | z
  .exact a z
  .exact absurd (Xk (XB e) z) (VJ _)
 have f:∀x c,X.env.cells.lookup x=some c->∀v,s.heap.IsCell c v->h'.IsCell c v:=λx c e v ⟨o,G,Y⟩=>by
  have h:c ∉ ch:=λz=>(g c z).2.2.1 x c e rfl;by_cases hc:c∈X.fs
  .obtain⟨sl,q⟩:=A c o (I.cne x c e) hc h G (I.jg x c e);exact⟨_,q,Y⟩
  .exact⟨o,keep c o (I.cne x c e) hc h G (I.jg x c e),Y⟩
 refine⟨I.ok,I.os,hg,⟨λb o e n D a=>?_,λb o e n D a=>?_,λb o e n a=>?_,λb o e a=>?_,λb B e=>Q b B (I.base.tups b B e),λb o B e=>L b o B (I.base.frzs b o B e),λb U e=>?_⟩,?_,λx c e=>?_,?_,λx c e=>?_,λp hp=>?_,aa,I.len⟩
 .exact keep b o (M b o e) D (y b o e a) (I.base.keep b o e n D a) (I.base.free b o e n a)
 .obtain⟨sl,j⟩:=I.base.slot b o e n D a;obtain⟨ab,J⟩:=A b _ (M b o e) D (y b o e a) j (I.base.free b o e n a);exact⟨ab,J⟩
 .obtain⟨N,j⟩:=I.base.there b o e a;exact free b N (y b o e a) j (I.base.free b o e n a)
 .obtain⟨N,j⟩:=I.base.there b o e a;exact E b N (y b o e a) j
 .obtain⟨m1,j⟩:=I.base.tbls b U e;obtain⟨m2,J⟩:=O b _ j;exact⟨m1++m2,by rw[J,Array.append_assoc]⟩
 .obtain⟨m,hn,hl⟩:=I.loc;refine⟨m,ns m hn,λi x v j J e3=>?_⟩;obtain⟨u,r,l⟩:=hl i x v j J e3;refine⟨u,r,?_⟩;rcases l with l | ⟨k,c,e,z⟩
  .exact .inl l
  .exact .inr ⟨k,c,e,f x c e _ z⟩
 .obtain⟨v,z⟩:=I.cell x c e;exact⟨v,f x c e v z⟩
 .obtain⟨m,⟨o,_,_,G,_⟩,_⟩:=I.loc;exact free _ o (λz=>(g _ z).2.1 rfl) G I.free
 .obtain⟨v,o,G,Y⟩:=I.cell x c e;exact free c o (λz=>(g c z).2.2.1 x c e rfl) G (I.jg x c e)
 .refine fO (λe n ne nf d=>?_) (I.pin p hp);have h:p.1 ∉ ch:=λz=>(g p.1 z).2.2.2 p hp rfl;exact⟨keep p.1 p.2 ne nf h e n,free p.1 p.2 h e n,ne,nf,d⟩
def Inv.un {t':Nat}(I:Inv X bz σ H s)(u:Un X.fs [] H H' s.heap h')(g:HOk X.prog X.w H' h'):Inv X bz σ H' { s with heap:=h',toks:=t' }:=by
 obtain⟨m,⟨o,q,p,h,r⟩,_⟩:=id I.loc;obtain⟨y,i⟩:=u.any h I.free (by simp);exact I.step (g':=s.gens) (d':=s.drawn) (ch:=[]) (λ_ z=>nomatch z) (λb o _ f _ e n=>u.keep b o e n f (by simp)) (λb o _ f _ e n=>u.slot b o e n f (by simp)) (λb o _ e n=>u.free b o e n (by simp)) (λb o _ e=>u.there b o e (by simp)) u.tups u.frzs u.tbls (λv j=>by
  obtain⟨x,d,c,a,l⟩:=j;rw[h]at a;cases a;exact⟨_,d,c,i,l⟩) g I.bare
def Inv.call {g':Array Sg}{t':Nat}{d':Drawn}{ch:List Addr}(I:Inv X bz σ H s)(u:Un (frs X.stack) ch H H' s.heap h')(j:HOk X.prog X.w H' h')(v:Sr g')
  (d:∀b∈ch,(b∈X.ex\/X.s₀.heap.objs.size<=b)/\b≠X.env.locals/\(∀x c,X.env.cells.lookup x=some c->c≠b)/\∀p∈X.pn++bz,p.1≠b) :
  Inv X bz σ H' { s with heap:=h',gens:=g',drawn:=d',toks:=t' }:=by
 obtain⟨m,⟨o,D,B,l,r⟩,_⟩:=id I.loc;obtain⟨J,i⟩:=u.any l I.free λz=>(d _ z).2.1 rfl;exact I.step (ch:=ch) d (λb o i q a e n=>u.keep b o e n (λz=>(XH.mp (I.stkSub b z)).elim i q) a) (λb o _ _ a e n=>u.any e n a) (λb o a e n=>u.free b o e n a) (λb o a e=>u.there b o e a) u.tups u.frzs u.tbls (λE y=>by
  obtain⟨G,h,g,f,A⟩:=y;rw[l]at f;cases f;exact⟨_,h,g,i,A⟩) j v
def Inv.turned {t':Nat}{it:Addr}(I:Inv X bz σ H s)(k:∀b o,b≠it->s.heap.get? b=some o->h'.get? b=some o)(w:H it=none)(f:it≠X.env.locals)
  (h1:it∈X.ex\/X.s₀.heap.objs.size<=it) (h2:∀x c,X.env.cells.lookup x=some c->c≠it) (i:∀p∈X.pn++bz,p.1≠it):Inv X bz σ H { s with heap:=h',toks:=t' }:=by
 have d:∀b u,H b=some u->b≠it:=λb u e z=>by rw[z,w]at e;cases e
 refine I.step (g':=s.gens) (d':=s.drawn) (ch:=[it]) (λb j=>?_) (λb o _ _ a e _=>k b o (λz=>a (by simp[z])) e) (λb o _ _ a e _=>⟨o.slots,k b o (λz=>a (by simp[z])) e⟩) (λ_ _ _ _ n=>n)
  (λb o a e=>⟨o,k b o (λz=>a (by simp[z])) e⟩) (λ_ _ e=>e) (λ_ _ _ e=>e) (λb A e=>⟨#[],by rw[e];simp⟩) (λm l=>?_) (λb u e=>?_) I.bare
 .have e:b=it:=by simpa using j
  subst e;exact⟨h1,f,h2,i⟩
 .obtain⟨o,h,g,y,r⟩:=l;exact⟨o,h,g,k _ o (UY f) y,r⟩
 .refine(I.hok b u e).stay (λc v a q=>k c v ?_ q) (λ_ q=>q) λ_ _ q=>q;rcases a with z | z
  .rw[z];exact d b u e
  .exact d c _ z
def Inv.tok (I:Inv X bz σ H s)(t:Nat):Inv X bz σ H { s with toks:=t }:=I.un (h':=s.heap) (t':=t) Un.refl I.hok
theorem Inv.kept {t':Nat}(I:Inv X bz σ H s)(k:∀b u,s.heap.get? b=some u->h'.get? b=some u):Inv X bz σ H { s with heap:=h',toks:=t' }:=I.un (Un.kept k) (I.hok.kept k)
theorem Inv.laid {a:Addr}{o:HO}{t':Nat}(I:Inv X bz σ H s)(k:∀b u,s.heap.get? b=some u->h'.get? b=some u)(c:s.heap.objs.size<=a)(d:qH X.prog X.w (upd H a o) h' a o) :
  Inv X bz σ (upd H a o) { s with heap:=h',toks:=t' }:=I.un (Un.laid k c (I.hok.fresh c)) (I.hok.laid k c d)
theorem Inv.write {x e:Addr}{o:HO}{t':Nat}(I:Inv X bz σ H s)(d:Mut (H x))(he:e=x\/H e=some (.own x))(k:∀b u,b≠e->s.heap.get? b=some u->h'.get? b=some u)(a:∃u,h'.get? e=some u)
  (c:qH X.prog X.w (upd H x o) h' x o):Inv X bz σ (upd H x o) { s with heap:=h',toks:=t' }:=I.un (Un.write d he k a) (I.hok.write d he k a c)
def Inv.pins_of {a:List (Addr×Obj)}(I:Inv X bz σ H s)(h:∀p∈a,s.heap.get? p.1=some p.2/\H p.1=none/\p.1≠X.env.locals/\p.1 ∉ X.fs/\∀v,p.2.data ≠ .cell v):Inv X a σ H s :=
 ⟨I.ok,I.os,I.bare,I.base,I.loc,I.cell,I.free,I.jg,λp b=>(XO.mp b).elim (λz=>I.pin p (W1 _ z)) (h p),I.hok,I.len⟩
def zgb {N:AE}(e:N.Nodup){i j:Nat}{x:Str}(a:N[i]?=some x)(b:N[j]?=some x):i=j:=by
 obtain⟨h1,c⟩:=X4.mp a;obtain⟨h2,d⟩:=X4.mp b;exact(List.getElem_inj e).mp (c.trans d.symm)
def zej {M:NZ}{A:WN}{E:X9->X7->Prop}{i:Nat}{x:Str}{v:V}{u:X9}{Q:Unit->X7->Prop}(I:Inv X bz σ H s)(hN:X.N.Nodup)(hi:X.N[i]?=some x)(B:Loc X.env.scope x)(r:RelV v u)
  (h:∀s',Inv X bz (σ.set i (some v)) H s'->(∃a,V6 a s.heap s'.heap/\(a=X.env.locals\/X.env.cells.lookup x=some a))->Q () s') (hf:X.fn x=true\/X.env.scope.names.lookup x=some .local:=by first | exact .inl rfl | exact .inr rfl | assumption):Xj M A (storeName X.env x u) Q E s:=by
 obtain⟨m,hn,hl⟩:=id I.loc;have ab:(X.env.scope.kind == .class || (X.env.scope.kind == .module&&X.env.locals != X.env.globals))=false:=by rw[I.ok.kind];rfl
 have J:i < σ.length:=by rw[I.len];exact(X4.mp hi).1
 have cne:=I.cne;have l:∀{a:Addr} {h':Heap},(∃o,s.heap.get? a=some o/\H a=none)->V6 a s.heap h'->HOk X.prog X.w H h':=λ{a h'} ha f b ob e=>by
  obtain⟨_,_,D⟩:=ha;refine(I.hok b ob e).stay (λc w' hc q=>(f.2 c ?_).trans q) (λ_ q=>q) λ_ _ q=>q;rintro rfl;rcases hc with rfl | hc
  .rw[D]at e;cases e
  .rw[D]at hc;cases hc
 rcases B with hk | hk
 .refine wpAny_storeName_local hk hn (λh' af f=>?_) ab;obtain⟨oL,_,_,ag,_⟩:=id hn;refine h _ ⟨I.ok,I.os,I.bare,⟨λb o e n L B=>?_,λb o e n L B=>?_,I.base.free,λb o e B=>?_,I.base.tups,I.base.frzs,I.base.tbls⟩,⟨_,af,λj y v' g G e3=>?_⟩,λy c e=>?_,I.free,I.jg,λp hp=>?_,l ⟨oL,ag,I.free⟩ f,by simpa using I.len⟩ ⟨_,f,.inl rfl⟩
  .exact(f.2 b (Xi (Xk (XB e) I.ok.above))).trans (I.base.keep b o e n L B)
  .obtain⟨sl,g⟩:=I.base.slot b o e n L B;exact⟨sl,(f.2 b (Xi (Xk (XB e) I.ok.above))).trans g⟩
  .obtain⟨o',g⟩:=I.base.there b o e B;exact⟨o',(f.2 b (Xi (Xk (XB e) I.ok.above))).trans g⟩
  .by_cases U:j=i
   .subst U;rw[hi]at g;cases g;rw[PY J]at G;cases G;exact⟨u,r,.inl ⟨hk,by simp⟩⟩
   .rw[O8 (UY U)]at G;obtain⟨u',r',q⟩:=hl j y v' g G e3;refine⟨u',r',?_⟩;rcases q with ⟨k,e⟩ | ⟨k,c,e,z⟩
    .refine .inl ⟨k,?_⟩;have:y≠x:=λe=>U (zgb hN g (e ▸ hi));simp[this,e]
    .exact .inr ⟨k,c,e,z.sameBut f (cne y c e)⟩
  .obtain⟨w',z⟩:=I.cell y c e;exact⟨w',z.sameBut f (cne y c e)⟩
  .refine fO (λe n ne nf d=>?_) (I.pin p hp);exact⟨(f.2 p.1 ne).trans e,n,ne,nf,d⟩
 .have O:X.fn x=true:=by
   rcases hf with z | z
   .exact z
   .rw[z]at hk;cases hk
  obtain⟨c,hc⟩:=I.ok.has x (.inl hk);obtain⟨w',z⟩:=I.cell x c hc;refine wpAny_storeName_cell I.ok.kind hk hc z (λh' Y f=>?_);obtain⟨oc,ac,ae⟩:=id z;refine h { s with heap:=h' } ⟨I.ok,I.os,I.bare,⟨λb o e n L B=>?_,λb o e n L B=>?_,I.base.free,λb o e B=>?_,I.base.tups,I.base.frzs,I.base.tbls⟩,⟨m,hn.sameBut f (UY (cne x c hc)),λj y v' g G e3=>?_⟩,λy c' e=>?_,I.free,I.jg,λp hp=>?_,l ⟨oc,ac,I.jg x c hc⟩ f,by simpa using I.len⟩ ⟨c,f,.inr hc⟩
  .exact(f.2 b (Xi (Xk (XB e) (I.ok.cab x c O hc)))).trans (I.base.keep b o e n L B)
  .obtain⟨sl,g⟩:=I.base.slot b o e n L B;exact⟨sl,(f.2 b (Xi (Xk (XB e) (I.ok.cab x c O hc)))).trans g⟩
  .obtain⟨o',g⟩:=I.base.there b o e B;exact⟨o',(f.2 b (Xi (Xk (XB e) (I.ok.cab x c O hc)))).trans g⟩
  .by_cases U:j=i
   .subst U;rw[hi]at g;cases g;rw[PY J]at G;cases G;exact⟨u,r,.inr ⟨.inl hk,c,hc,Y⟩⟩
   .rw[O8 (UY U)]at G;obtain⟨u',r',q⟩:=hl j y v' g G e3;refine⟨u',r',?_⟩;rcases q with q | ⟨k,c',e,z'⟩
    .exact .inl q
    .refine .inr ⟨k,c',e,z'.sameBut f ?_⟩;rintro rfl;exact U (zgb hN g (I.ok.inj _ _ _ e hc ▸ hi))
  .by_cases aa:c'=c
   .subst aa;exact⟨_,Y⟩
   .obtain⟨w2,z2⟩:=I.cell y c' e;exact⟨w2,z2.sameBut f aa⟩
  .refine fO (λe n ne nf d=>?_) (I.pin p hp);refine⟨(f.2 p.1 ?_).trans e,n,ne,nf,d⟩;intro q;rw[q,ac]at e;have q':oc=p.2:=Option.some.inj e;exact d w' (by rw[<- q'];exact ae)
def zgc {M:NZ}{A:WN}{E:X9->X7->Prop}{i:Nat}{x:Str}{v:V}{u:X9}{Q:Unit->X7->Prop}(I:Inv X bz σ H s)(b:X.N.Nodup)(d:X.N[i]?=some x)(e:Loc X.env.scope x)(r:RelV v u)
  (h:∀s',Inv X bz (σ.set i (some v)) H s'->Q () s') (c:X.fn x=true\/X.env.scope.names.lookup x=some .local:=by first | exact .inl rfl | exact .inr rfl | assumption):Xj M A (storeName X.env x u) Q E s :=
 zej I b d e r (λs' a _=>h s' a) c
def Inv.call' {s':X7}{ch:List Addr}(I:Inv X bz σ H s)(g:s'.os=s.os)(u:Un (frs X.stack) ch H H' s.heap s'.heap)(d:HOk X.prog X.w H' s'.heap)(f:Sr s'.gens)
  (a:∀b∈ch,(b∈X.ex\/X.s₀.heap.objs.size<=b)/\b≠X.env.locals/\(∀x c,X.env.cells.lookup x=some c->c≠b)/\∀p∈X.pn++bz,p.1≠b):Inv X bz σ H' s':=by
 obtain⟨h',g',d',t',h⟩:=s';have e:h=s.os:=g;subst e;exact I.call (g':=g') (t':=t') (d':=d') u d f a
end
abbrev XK:=X9->Option Addr->Hp->Prop
abbrev St:=List (Option V)
abbrev VK:=V->Hp->Prop
abbrev TE:=St->Hp->VK->Prop
abbrev TT:=St->Hp->(Bool->Hp->Prop)->Prop
abbrev TA:=St->Hp->(AF->Hp->Prop)->Prop
structure Ends where
 nx:St->Hp->Prop
 rt:VK
 bk:St->Hp->Prop:=λ_ _=>False
 ct:St->Hp->Prop:=λ_ _=>False
abbrev TS:=Ends->St->Hp->Prop
def EP (X:Cx)(b:List (Addr×Obj))(c:St)(Q:VK)(u:X9)(s':X7):Prop:=∃v a,Inv X b c a s'/\RelV v u/\Q v a
def TP (X:Cx)(c:List (Addr×Obj))(d:St)(Q:Bool->Hp->Prop)(b:Bool)(s':X7):Prop:=∃a,Inv X c d a s'/\Q b a
def AP (X:Cx)(c:List (Addr×Obj))(e:St)(Q:AF->Hp->Prop)(d:List X9)(s':X7):Prop:=∃b a,Inv X c e a s'/\Vals b d/\Q b a
def SP (X:Cx)(c:List (Addr×Obj))(D:Ends)(f:Flow)(s':X7):Prop :=
 match f with
 | .next=>∃ a b,Inv X c a b s'/\D.nx a b
 | .brk=>∃ a b,Inv X c a b s'/\D.bk a b
 | .cont=>∃ a b,Inv X c a b s'/\D.ct a b
 | .ret u=>∃v a b,Inv X c a b s'/\RelV v u/\D.rt v b
def PE (X:Cx)(e:Expr)(t:TE):Prop :=
 ∀(b:List (Addr×Obj)) (s:X7) (a:St) (H:Hp) (Q:VK),Inv X b a H s->t a H Q->Xj (Xn X.prog X.w) X.A (eval e X.env) (EP X b a Q) X.xe s
def PT (X:Cx)(e:Expr)(t:TT):Prop :=
 ∀(b:List (Addr×Obj)) (s:X7) (a:St) (H:Hp) (Q:Bool->Hp->Prop),Inv X b a H s->t a H Q->Xj (Xn X.prog X.w) X.A (isTrue e X.env (eval e X.env)) (TP X b a Q) X.xe s
def PW (X:Cx)(e:Expr)(t:TT):Prop :=
 ∀(whole:Sem X9) (b:List (Addr×Obj)) (s:X7) (a:St) (H:Hp) (Q:Bool->Hp->Prop),Inv X b a H s->t a H Q->Xj (Xn X.prog X.w) X.A (isTrue e X.env whole) (TP X b a Q) X.xe s
def PW.pt {X:Cx}{e:Expr}{t:TT}(h:PW X e t):PT X e t:=h _
def PA (X:Cx)(c:List Expr)(t:TA):Prop :=
 ∀(pos:Pos) (b:List (Addr×Obj)) (s:X7) (a:St) (H:Hp) (Q:AF->Hp->Prop),Inv X b a H s->t a H Q->Xj (Xn X.prog X.w) X.A (spliced (Sw pos (WS c X.env))) (AP X b a Q) X.xe s
def PS (X:Cx)(st:Stmt)(t:TS):Prop :=
 ∀(a:List (Addr×Obj)) (s:X7) (b:St) (H:Hp) (D:Ends),Inv X a b H s->t D b H->Xj (Xn X.prog X.w) X.A (exec st X.env) (SP X a D) X.xe s
def PSs (X:Cx)(st:List Stmt)(t:TS):Prop :=
 ∀(a:List (Addr×Obj)) (s:X7) (b:St) (H:Hp) (D:Ends),Inv X a b H s->t D b H->Xj (Xn X.prog X.w) X.A (execs st X.env) (SP X a D) X.xe s
def thn {α:Type}{t:Sem α}{Q b:α->X7->Prop}{M:NZ}{A:WN}{E:X9->X7->Prop}{s:X7}(h:Xj M A t Q E s)(c:∀a s,Q a s->b a s):Xj M A t b E s:=VY h c λ_ _ x=>x
section
variable {X:Cx}
def zrj (i:Nat):TE:=fun a H Q=>∃v,a[i]?=some (some v)/\Q v H
def tC (v:V):TE:=λ_ H Q=>Q v H
def zpT {i:Nat}{x:Str}{pos:Pos}(n:X.N[i]?=some x)(w:Vis X.env.scope x)(f:(x==("__debug__":Str))=false:=by decide)(d:(x==("__classdict__":Str))=false:=by decide):PE X (.Name x pos) (zrj i):=by
 intro j s y H Q I h;obtain⟨v,e,h⟩:=h;obtain⟨m,q,o⟩:=I.loc;obtain⟨u,r,l⟩:=o i x v n e w;have b:EP X j y Q u s:=⟨v,H,I,r,h⟩;rcases l with ⟨hk,p⟩ | ⟨hk,c,g,a⟩
 .exact wpAny_Name (wpAny_loadName_local I.ok.kind hk q p b) f
 .rcases hk with hk | hk
  .exact wpAny_Name (wpAny_loadName_cell I.ok.kind hk g a b) f
  .exact wpAny_Name (wpAny_loadName_free I.ok.kind hk g a b d) f
def zf {i j pos}:PE X (.Constant (.int i) j pos) (tC (.int i)):=λ_ _ _ H _ I h=>wpAny_Constant_int ⟨.int i,H,I.tok _,⟨_,rfl⟩,h⟩
def YV {b j pos}:PE X (.Constant (.bool b) j pos) (tC (.bl b)):=λ_ _ _ H _ I h=>Constant_bool ⟨.bl b,H,I,rfl,h⟩
def zlt {j pos}:PE X (.Constant .none j pos) (tC .non):=λ_ _ _ H _ I h=>Constant_none ⟨.non,H,I,rfl,h⟩
def qX {x j pos}:PE X (.Constant (.str x) j pos) (tC (.str x)):=λ_ _ _ H _ I h=>Calls.Constant_str ⟨.str x,H,I.tok _,⟨_,rfl⟩,h⟩
def Gl (X:Cx)(x:Str):Prop:=X.env.kindOf x=some .globalImplicit
def QJ {E:X9->X7->Prop}{a:List (Addr×Obj)}{s:X7}{e:St}{H:Hp}{x:Str}{u:X9}{pos:Pos}{Q:X9->X7->Prop}(I:Inv X a e H s)(c:Gl X x)(d:X.mg x=some u)(h:Q u s)
  (b:(x==("__debug__":Str))=false:=by decide):Xj (Xn X.prog X.w) X.A (eval (.Name x pos) X.env) Q E s :=
 RM I.ok.kind c (Calls.loadGlobal_global (by rw[I.ok.glob];exact I.mod.glob.keeps I.bk) d h) b
def Y4 {E:X9->X7->Prop}{a:List (Addr×Obj)}{s:X7}{g:St}{H:Hp}{x:Str}{u:X9}{pos:Pos}{Q:X9->X7->Prop}(I:Inv X a g H s)(c:Gl X x)(d:X.mg x=none)(f:UO x=some u)(h:Q u s)
  (e:x ≠ "__name__":=by decide) (b:(x==("__debug__":Str))=false:=by decide):Xj (Xn X.prog X.w) X.A (eval (.Name x pos) X.env) Q E s:=by
 obtain⟨i,h1,h2⟩:=I.mod.blt;exact RM I.ok.kind c (Calls.loadGlobal_builtin (by rw[I.ok.glob];exact I.mod.glob.keeps I.bk) d (by rw[I.ok.blt];exact h1.keeps I.bk) ((h2 x e).trans f) h) b
def xJ {x:Str}{v:V}{u:X9}{pos:Pos}(b:Gl X x)(c:X.mg x=some u)(r:RelV v u)(a:(x==("__debug__":Str))=false:=by decide):PE X (.Name x pos) (tC v) :=
 λ_ _ _ H _ I h=>QJ I b c ⟨v,H,I,r,h⟩ a
def QK {x:Str}{v:V}{u:X9}{pos:Pos}(b:Gl X x)(c:X.mg x=none)(e:UO x=some u)(r:RelV v u)(d:x ≠ "__name__":=by decide)(a:(x==("__debug__":Str))=false:=by decide):PE X (.Name x pos) (tC v) :=
 λ_ _ _ H _ I h=>Y4 I b c e ⟨v,H,I,r,h⟩ d a
variable {a b:Expr}{ta tb:TE}{pos:Pos}
def PC (X:Cx)(op:NY)(a b:Expr)(t:TE):Prop :=
 ∀(f:List (Addr×Obj)) (s:X7) (e:St) (H:Hp) (Q:VK),Inv X f e H s->t e H Q ->
  Xj (Xn X.prog X.w) X.A (eval a X.env) (λv c=>Xj (Xn X.prog X.w) X.A (eval b X.env) (λu d=>Xj (Xn X.prog X.w) X.A (Wr op v u) (EP X f e Q) X.xe d) X.xe c) X.xe s
def tB (t:TE):TT:=fun b H Q=>t b H λx a=>∃c,x=.bl c/\Q c a
def zpU {op:NY}{t:TE}(h:PC X op a b t)(h1:Tv op b=false:=by first | exact e _ (by decide) (by decide) | rfl):PT X (.Compare a [op] [b] pos) (tB t):=by
 intro i s n H Q I j;refine SD (thn (h i s n H _ I j) λv s1 h1=>thn h1 λu o h2=>thn h2 λc p ⟨x,f,g,m,l⟩=>?_) h1;obtain⟨d,rfl,q⟩:=l;cases m;exact Wi ⟨f,g,q⟩
variable {tA tB':TT}{rest:List Expr}
def zsm (t u:TT):TT:=fun b H Q=>t b H λc a=>if c=true then u b a Q else Q false a
def tOr (t u:TT):TT:=fun b H Q=>t b H λc a=>if c=true then Q true a else u b a Q
def zsn (t:TT):TT:=fun b H Q=>t b H λc a=>Q (!c) a
def zaH (d:PT X a tA):PW X (.BoolOp .And [a] pos) tA:=by
 intro g b s f H Q I h;refine isTrue_and (thn (d b s f H Q I h) λc s1 e=>?_);cases c with
 | true=>exact isTrue_and_nil e
 | false=>exact e
def zlu (d:PT X a tA):PW X (.BoolOp .Or [a] pos) tA:=by
 intro g b s f H Q I h;refine isTrue_or (thn (d b s f H Q I h) λc s1 e=>?_);cases c with
 | false=>exact isTrue_or_nil e
 | true=>exact e
def zcL (j:PT X a tA)(l:PW X (.BoolOp .And (b::rest) pos) tB'):PW X (.BoolOp .And (a::b::rest) pos) (zsm tA tB'):=by
 intro m f s i H Q I h;refine isTrue_and (thn (j f s i H _ I h) λc s1 ⟨d,e,g⟩=>?_);cases c with
 | true=>exact l m f s1 i d Q e g
 | false=>exact⟨d,e,g⟩
def zlv (j:PT X a tA)(l:PW X (.BoolOp .Or (b::rest) pos) tB'):PW X (.BoolOp .Or (a::b::rest) pos) (tOr tA tB'):=by
 intro m f s i H Q I h;refine isTrue_or (thn (j f s i H _ I h) λc s1 ⟨d,e,g⟩=>?_);cases c with
 | true=>exact⟨d,e,g⟩
 | false=>exact l m f s1 i d Q e g
def zak (e:PT X a tA):PT X (.UnaryOp .Not a pos) (zsn tA):=by
 intro d s f H Q I h;exact isTrue_not (e d s f H (λc b=>Q (!c) b) I h)
def zrk (ta tb:TE):TE:=fun b H Q=>ta b H λx a=>∃c,x=.bl c/\if c=true then tb b a Q else Q (.bl false) a
def zso (ta tb:TE):TE:=fun b H Q=>ta b H λx a=>∃c,x=.bl c/\if c=true then Q (.bl true) a else tb b a Q
def zrl (ta:TE):TE:=fun b H Q=>ta b H λx a=>∃c,x=.bl c/\Q (.bl (!c)) a
def zal {op}{t:TE}(h:PE X a t):PE X (.BoolOp op [a] pos) t:=λb s d H Q I c=>BoolOp_one (h b s d H Q I c)
def Y5 (j:PE X a ta)(l:PE X (.BoolOp .And (b::rest) pos) tb):PE X (.BoolOp .And (a::b::rest) pos) (zrk ta tb):=by
 intro g s i H Q I h;refine BoolOp_and (thn (j g s i H _ I h) λv s1 ⟨x,e,f,m,d⟩=>?_);obtain⟨c,rfl,d⟩:=d;cases m;refine Wi ?_;cases c with
 | true=>exact l g s1 i e Q f d
 | false=>exact⟨.bl false,e,f,rfl,d⟩
def zrm (j:PE X a ta)(l:PE X (.BoolOp .Or (b::rest) pos) tb):PE X (.BoolOp .Or (a::b::rest) pos) (zso ta tb):=by
 intro g s i H Q I h;refine BoolOp_or (thn (j g s i H _ I h) λv s1 ⟨x,e,f,m,d⟩=>?_);obtain⟨c,rfl,d⟩:=d;cases m;refine Wi ?_;cases c with
 | false=>exact l g s1 i e Q f d
 | true=>exact⟨.bl true,e,f,rfl,d⟩
def zpV (g:PE X a ta):PE X (.UnaryOp .Not a pos) (zrl ta):=by
 intro f s j H Q I h;refine UnaryOp_ (thn (g f s j H _ I h) λv s1 ⟨x,d,e,i,b⟩=>?_);obtain⟨c,rfl,b⟩:=b;cases i;exact not_of (Wi ⟨.bl (!c),d,e,rfl,b⟩)
def tIf (t:TT)(ta tb:TE):TE:=fun a H Q=>t a H λc b=>if c=true then ta a b Q else tb a b Q
def zlw {c:Expr}(n:PT X c tA)(l:PE X a ta)(m:PE X b tb):PE X (.IfExp c a b pos) (tIf tA ta tb):=by
 intro e s f H Q I h;refine wpAny_IfExp (thn (n e s f H _ I h) λd s1 ⟨g,i,j⟩=>?_);cases d with
 | true=>exact l e s1 f g Q i j
 | false=>exact m e s1 f g Q i j
end
def SqL (K:XX)(H:Hp)(a:Addr)(xs:AF):Prop :=
 Rd H a (.lst xs) \/
  ∃(o:Obj) (b:Array X9) (n:Nat),K.lookup a=some o/\o.cls=.type "list"/\o.dict=none/\o.data=.seq b n/\b.size<=XA/\Vals xs b.toList
def SqT (K:XX)(H:Hp)(a:Addr)(xs:AF):Prop :=
 Rd H a (.tup xs) \/
  ∃(o:Obj) (b:Array X9) (n:Nat),K.lookup a=some o/\o.cls=.type "tuple"/\o.data=.seq b n/\b.size<=XA/\Vals xs b.toList
def zsp:X9->Option V
 | .none=>some .non
 | .bool b=>some (.bl b)
 | .int i _=>some (.int i)
 | .str x _=>some (.str x)
 | .bytes b _=>some (.byt b)
 | .float b _=>some (.flt b)
 | .ref a=>some (.ref a)
 | .type n=>some (.ty n)
 | _=>none
def RelV.abs {x:V}{u:X9}(r:RelV x u):zsp u=some x:=by
 cases x with
 | non=>cases r;rfl
 | bl _=>cases r;rfl
 | int _=>obtain⟨t,rfl⟩:=r;rfl
 | str _=>obtain⟨t,rfl⟩:=r;rfl
 | byt _=>obtain⟨t,rfl⟩:=r;rfl
 | flt _=>obtain⟨t,rfl⟩:=r;rfl
 | ref _=>cases r;rfl
 | ty _=>cases r;rfl
theorem RelV.inj {x y:V}{u:X9}(r:RelV x u)(q:RelV y u):x=y:=Option.some.inj (r.abs.symm.trans q.abs)
theorem Vals.inj:∀{xs ys:AF} {a:List X9},Vals xs a->Vals ys a->xs=ys
 | _,_,_,.nil,.nil=>rfl
 | _,_,_,.cons r t,.cons b t'=>by rw[r.inj b,Vals.inj t t']
section
variable {X:Cx}{bz:List (Addr×Obj)}{σ:St}{H:Hp}{s:X7}{a:Addr}{xs ys:AF}
def SqL.of {K:XX}(h:H a=some (.lst xs)):SqL K H a xs:=.inl (.inl h)
def SqT.of {K:XX}(h:H a=some (.tup xs)):SqT K H a xs:=.inl (.inl h)
def Inv.list (I:Inv X bz σ H s)(h:SqL X.K H a xs):∃b:List X9,Vals xs b/\PlainL s.heap a b.toArray/\xs.length<=XA:=by
 rcases h with h | ⟨o,b,n,hk,c,d,f,g,r⟩
 .obtain⟨z,b,n,r,e⟩:=h.ok I.hok;exact⟨b,r,⟨_,n,e,rfl,rfl,rfl⟩,z⟩
 .refine⟨b.toList,r,⟨o,n,I.kIn a o hk,c,d,by simpa using f⟩,?_⟩;have e:=r.length;simp only[X5]at e;lia
def Inv.tuple (I:Inv X bz σ H s)(h:SqT X.K H a xs):∃b:List X9,Vals xs b/\N5 s.heap a b.toArray/\xs.length<=XA:=by
 rcases h with h | ⟨o,b,n,hk,c,d,f,r⟩
 .obtain⟨z,b,r,p⟩:=h.ok I.hok;exact⟨b,r,p,z⟩
 .refine⟨b.toList,r,⟨o,I.kIn a o hk,c,n,by simpa using d⟩,?_⟩;have e:=r.length;simp only[X5]at e;lia
def Inv.list_inj (I:Inv X bz σ H s)(h:SqL X.K H a xs)(h':SqL X.K H a ys):xs=ys:=by
 obtain⟨c,r,⟨o,n,e,_,_,d⟩,_⟩:=I.list h;obtain⟨b,j,⟨m,l,g,_,_,f⟩,_⟩:=I.list h';rw[e]at g;cases g;rw[d]at f;injection f with i _
 have:c=b:=by simpa using congrArg Oi i
 subst this;exact r.inj j
def Inv.tuple_inj (I:Inv X bz σ H s)(h:SqT X.K H a xs)(h':SqT X.K H a ys):xs=ys:=by
 obtain⟨c,r,⟨o,e,_,n,d⟩,_⟩:=I.tuple h;obtain⟨b,j,⟨m,g,_,l,f⟩,_⟩:=I.tuple h';rw[e]at g;cases g;rw[d]at f;injection f with i _
 have:c=b:=by simpa using congrArg Oi i
 subst this;exact r.inj j
end
abbrev Cx.wish (X:Cx)(E:X9->X7->Prop):Cx:={ X with xe:=E }
abbrev Cx.nox (X:Cx):Cx:=X.wish λ_ _=>False
theorem Cx.Ok.wish {X:Cx}(ok:X.Ok)(E:X9->X7->Prop):(X.wish E).Ok :=
 ⟨ok.mod,ok.kind,ok.glob,ok.blt,ok.above,ok.inj,ok.has,ok.cab,ok.hd,ok.frames,ok.stk,ok.exf,ok.bs,ok.bsz,ok.noex,ok.exfs,ok.funs,ok.frf⟩
def Cx.Ok.unwish {X:Cx}{E:X9->X7->Prop}(ok:(X.wish E).Ok):X.Ok :=
 ⟨ok.mod,ok.kind,ok.glob,ok.blt,ok.above,ok.inj,ok.has,ok.cab,ok.hd,ok.frames,ok.stk,ok.exf,ok.bs,ok.bsz,ok.noex,ok.exfs,ok.funs,ok.frf⟩
section
variable {X:Cx}{bz:List (Addr×Obj)}{σ:St}{H:Hp}{s:X7}{E:X9->X7->Prop}
theorem Inv.wish (I:Inv X bz σ H s)(E:X9->X7->Prop):Inv (X.wish E) bz σ H s:=⟨I.ok.wish E,I.os,I.bare,I.base,I.loc,I.cell,I.free,I.jg,I.pin,I.hok,I.len⟩
theorem Inv.unwish (I:Inv (X.wish E) bz σ H s):Inv X bz σ H s:=⟨I.ok.unwish,I.os,I.bare,I.base,I.loc,I.cell,I.free,I.jg,I.pin,I.hok,I.len⟩
theorem SP.unwish {D:Ends}{f:Flow}{s':X7}(h:SP (X.wish E) bz D f s'):SP X bz D f s':=by
 cases f with
 | next=>obtain⟨a,b,I,q⟩:=h;exact⟨a,b,I.unwish,q⟩
 | brk=>obtain⟨a,b,I,q⟩:=h;exact⟨a,b,I.unwish,q⟩
 | cont=>obtain⟨a,b,I,q⟩:=h;exact⟨a,b,I.unwish,q⟩
 | ret u=>obtain⟨v,a,b,I,r,q⟩:=h;exact⟨v,a,b,I.unwish,r,q⟩
theorem PSs.nox {st:List Stmt}{t:TS}(h:PSs X.nox st t):PSs X st t:=λbz s σ H D I a =>
 VY (h bz s σ H D (I.wish _) a) (λ_ _ q=>q.unwish) λ_ _ z=>VC z
end
section
variable {X:Cx}{st:Stmt}{rest:List Stmt}{t u:TS}{e:Expr}{te:TE}{pos:Pos}
def zrn:TS:=λD a H=>D.nx a H
def zsq (t u:TS):TS:=λD a H=>t { D with nx:=u D } a H
def zY:PSs X [] zrn:=λ_ _ a H _ I h=>Tq ⟨a,H,I,h⟩
def ze (h1:PS X st t)(h2:PSs X rest u):PSs X (st::rest) (zsq t u):=by
 intro b s e H D I h;refine Sv (thn (h1 b s e H { D with nx:=u D } I h) λf s1 q=>?_);cases f with
 | next =>
  obtain⟨a,c,d,q⟩:=q;exact h2 b s1 a c D d q
 | ret v=>exact q
 | brk=>exact q
 | cont=>exact q
def zg (h1:PS X st t):PSs X [st] t:=by
 intro a s b H D I h;refine Sv (thn (h1 a s b H D I h) λf s1 q=>?_);cases f with
 | next=>exact Tq q
 | ret v=>exact q
 | brk=>exact q
 | cont=>exact q
def Inv.quiet {a:List (Addr×Obj)}{b:St}{H:Hp}{s:X7}(I:Inv X a b H s):interactive X.env=false:=by simp[interactive,I.ok.kind]
def zro (te:TE):TS:=λD a H=>te a H λ_ b=>D.nx a b
def jR (he:PE X e te)(f:RY e none pos.line X.env=pure false:=by rfl):PS X (.Expr e pos) (zro te):=by
 intro d s a H D I h;exact wpAny_Expr_any (thn (he d s a H _ I h) λv s1 ⟨x,b,c,i,g⟩=>⟨a,b,c,g⟩) I.quiet f
def zsr (te:TE):TS:=λD a H=>te a H D.rt
def zw (he:PE X e te):PS X (.Return (some e) pos) (zsr te):=by
 intro d s a H D I h;exact wpAny_Return_some (thn (he d s a H _ I h) λv s1 ⟨x,b,c,g,f⟩=>⟨x,a,b,c,g,f⟩)
def zss (c:TT)(t u:TS):TS:=λD a H=>c a H λb d=>if b=true then t D a d else u D a d
def qy {c:Expr}{a b:List Stmt}{l:TT}(o:PT X c l)(m:PSs X a t)(n:PSs X b u):PS X (.If c a b pos) (zss l t u):=by
 intro e s f H D I h;refine wpAny_If (thn (o e s f H _ I h) λd s1 ⟨g,i,j⟩=>?_);cases d with
 | true=>exact m e s1 f g D i j
 | false=>exact n e s1 f g D i j
def zpW:TS:=λ_ _ _=>False
def zgd:PS X st zpW:=λ_ _ _ _ _ _ h=>h.elim
end
abbrev TG:=V->St->Hp->(St->Hp->Prop)->Prop
abbrev TGs:=AF->St->Hp->(St->Hp->Prop)->Prop
def PG (X:Cx)(a:Expr)(t:TG):Prop :=
 ∀(d:List (Addr×Obj)) (s:X7) (e:St) (H:Hp) (v:V) (u:X9) (Q:St->Hp->Prop),Inv X d e H s->RelV v u->t v e H Q ->
  Xj (Xn X.prog X.w) X.A (assign a X.env u) (λ_ f=>∃ b c,Inv X d b c f/\Q b c) X.xe s
def PGs (X:Cx)(h:List Expr)(t:TGs):Prop :=
 ∀(c:List (Addr×Obj)) (s:X7) (f:St) (H:Hp) (e:AF) (d:List X9) (Q:St->Hp->Prop),Inv X c f H s->Vals e d->t e f H Q ->
  Xj (Xn X.prog X.w) X.A (assignInOrder ((Tj h X.env).map (·.2)) d) (λ_ g=>∃ a b,Inv X c a b g/\Q a b) X.xe s
abbrev zpX:=V->V->V->Hp->(Hp->Prop)->Prop
def zrp (X:Cx)(t:zpX):Prop :=
 ∀(b:List (Addr×Obj)) (s:X7) (e:St) (H:Hp) (o i v:V) (d c u:X9) (Q:Hp->Prop),Inv X b e H s->RelV o d->RelV i c->RelV v u->t o i v H Q ->
  Xj (Xn X.prog X.w) X.A (setItem d c u) (λ_ f=>∃a,Inv X b e a f/\Q a) X.xe s
abbrev TIp:=V->V->Hp->VK->Prop
def PIp (X:Cx)(op:Operator)(t:TIp):Prop :=
 ∀(a:List (Addr×Obj)) (s:X7) (b:St) (H:Hp) (x y:V) (v u:X9) (Q:VK),Inv X a b H s->RelV x v->RelV y u->t x y H Q ->
  Xj (Xn X.prog X.w) X.A (inplaceOp op v u) (EP X a b Q) X.xe s
section
variable {X:Cx}{pos:Pos}
def xU (i:Nat):TG:=λv a H Q=>Q (a.set i (some v)) H
def zi6 {i:Nat}{x:Str}(b:X.N.Nodup)(d:X.N[i]?=some x)(e:Loc X.env.scope x)(c:X.fn x=true\/X.env.scope.names.lookup x=some .local:=by first | exact .inl rfl | exact .inr rfl | assumption):PG X (.Name x pos) (xU i):=by
 intro f s j H v u Q I r h;exact wpAny_assign_Name (zgc I b d e r (λg a=>⟨_,H,a,h⟩) c)
def zst:TGs:=λa b H Q=>a=[]/\Q b H
def zrq (t:TG)(u:TGs):TGs:=λc d H Q=>∃v r,c=v::r/\t v d H fun a b=>u r a b Q
def jw:PGs X [] zst:=by
 intro b s a H d c Q I r h;obtain⟨e,h⟩:=h;subst e;cases r;exact assignInOrder_nil ⟨a,H,I,h⟩
def zM {e:Expr}{a:List Expr}{t:TG}{u:TGs}(h1:PG X e t)(h2:PGs X a u)
  (i:(Tj (e::a) X.env).map (·.2)=assign e X.env::(Tj a X.env).map (·.2):=by rfl):PGs X (e::a) (zrq t u):=by
 intro c s m H p n Q I r h;obtain⟨v,o,g,h⟩:=h;subst g;cases r with
 | cons r l =>
  rw[i];refine assignInOrder_cons (thn (h1 c s m H _ _ _ I r h) λ_ s1 ⟨b,d,f,j⟩=>?_);exact h2 c s1 b d _ _ Q f l j
def zrr (K:XX)(n:Nat)(t:TGs):TG:=λv c H Q=>∃a b,v=.ref a/\SqT K H a b/\b.length=n/\t b c H Q
def yX {c:List Expr}{k:Nat}{t:TGs}{n:Nat}(q:X.calm=true)(h:PGs X c t)
  (x:(Tj c X.env).length=n:=by rfl) (d:(Tj c X.env).findIdx? (·.1)=none:=by rfl):PG X (.Tuple c k pos) (zrr X.K n t):=by
 intro g s j H v u Q I r f;revert f;refine fm λa D m y w f=>?_;subst m;cases r;obtain⟨B,i,z,E⟩:=I.tuple y;refine assign_Tuple_tuple (I.ok.hd q) z (by simp[x,<- w,i.length]) d λp A=>?_;have l:Inv X g j H { s with heap:=p }:=I.kept (t':=s.toks) λb o e=>A b o (Xi (XB e)) e;exact h g _ j H D _ Q l (by simpa using i) f
def zlx (c:TE)(g:TG):TS:=λD a H=>c a H λx b=>g x a b D.nx
def zly {a e:Expr}{c:TE}{g:TG}(he:PE X e c)(j:PG X a g)(l:swapsWithSole [a] e pos.line X.env=pure false:=by rfl)(m:swappedStores [a] e X.env=pure none:=by rfl)
  (h1:(Tj [a] X.env).map (·.2)=[assign a X.env]:=by rfl):PS X (.Assign [a] e pos) (zlx c g):=by
 intro b s d H D I h;refine wpAny_Assign_stores (thn (he b s d H _ I h) λv s1 ⟨x,f,i,o,n⟩=>?_) l m;rw[h1];exact thn (j b s1 d f x v _ i o n) λ_ p q=>q
def qu {i:Nat}{x:Str}{e:Expr}{b:TE}{a:Pos}(j:X.N.Nodup)(m:X.N[i]?=some x)(o:Loc X.env.scope x)(he:PE X e b)(n:RY e (some (.Name x a)) pos.line X.env=pure false:=by rfl)(l:X.fn x=true\/X.env.scope.names.lookup x=some .local:=by first | exact .inl rfl | exact .inr rfl | assumption) :
  PS X (.Assign [.Name x a] e pos) (zlx b (xU i)):=by
 intro g s r H D I h;refine wpAny_Assign_Name (thn (he g s r H _ I h) λv s1 ⟨y,c,d,q,p⟩=>?_) n;exact zgc d j m o q (λu f=>⟨_,c,f,p⟩) l
def zrs (p n m:TE)(a:V->V->Hp->VK->Prop)(d:TIp)(b:zpX):TS:=λD c H=>p c H λo e=>n c e λi f=>a o i f λx g=>m c g λy h=>d x y h λz j=>b o i z j λl=>D.nx c l
def zrt (X:Cx)(t:V->V->Hp->VK->Prop):Prop :=
 ∀(a:List (Addr×Obj)) (s:X7) (d:St) (H:Hp) (o i:V) (c b:X9) (Q:VK),Inv X a d H s->RelV o c->RelV i b->t o i H Q ->
  Xj (Xn X.prog X.w) X.A (OV c b) (EP X a d Q) X.xe s
def zi7 {o i e:Expr}{w u r:TE}{b:V->V->Hp->VK->Prop}{l:TIp}{c:zpX}{op:Operator}{m:Pos}(ho:PE X o w)(hi:PE X i u)(hg:zrt X b)(he:PE X e r)(hp:PIp X op l)(hs:zrp X c)
  (Y:∀f d a,augStore i f d a=(do holding [a,f,d] (setItem f d a);release [a,f,d] [];pure .next):=by intros;rfl):PS X (.AugAssign (.Subscript o i m) op e pos) (zrs w u r b l c):=by
 intro j s g H D I h;refine wpAny_AugAssign_SubscriptAny (thn (ho j s g H _ I h) λf s1 ⟨x,z,L,p,q1⟩=>?_) Y;refine thn (hi j s1 g z _ L q1) λd s2 ⟨y,A,M,q,q2⟩=>?_;refine thn (hg j s2 g A x y f d _ M p q q2) λn s3 ⟨x3,B,N,r3,q3⟩=>?_;refine thn (he j s3 g B _ N q3) λv s4 ⟨x4,E,O,r4,q4⟩=>?_;refine thn (hp j s4 g E x3 x4 n v _ O r3 r4 q4) λa s5 ⟨x5,G,Q,r5,q5⟩=>?_;exact thn (hs j s5 g G x y x5 f d a _ Q p q r5 q5) λ_ s6 ⟨J,U,q6⟩=>⟨g,J,U,q6⟩
def ipI (f:Int->Int->Int):TIp:=λx y H Q=>∃i j,x=.int i/\y=.int j/\Q (.int (f i j)) H
def zlz:PIp X .Add (ipI λi j=>i+j):=by
 intro e s g H x y v u Q I c d h;obtain⟨i,j,a,b,q⟩:=h;subst a;subst b;obtain⟨t,rfl⟩:=c;obtain⟨f,rfl⟩:=d;exact iadd_int ⟨.int _,H,I.tok _,⟨_,rfl⟩,q⟩
def zpY (c:TT)(h:TS):TS:=λD a H=>∃W:Nat->St->Hp->Prop,(∃m,W m a H)/\∀m a H,W m a H ->
 c a H λb f=>if b=true then ∃N:St->Hp->Prop,(∀ d e,N d e->∃g,g<m/\W g d e)/\h { D with nx:=N,ct:=N,bk:=D.nx } a f else D.nx a f
def zlA {c:Expr}{e:List Stmt}{M:TT}{L:TS}(J:PassesOwn (Xn X.prog X.w) X.A X.env X.xe)(U:PT X c M)(Q:PSs X e L):PS X (.While c e [] pos) (zpY M L):=by
 intro p s σ H D I h;obtain⟨W,⟨Y,w0⟩,i⟩:=h;refine wpAny_While (codeAny_whileLoop (λn s'=>∃ j y,Inv X p j y s'/\W n j y) ?_ Y ⟨σ,H,I,w0⟩);refine λn s1=>fP λd z O w1=>?_;refine UT J (thn (U p s1 d z _ O (i n d z w1)) λb s2 ⟨B,E,l⟩=>?_);cases b with
 | true =>
  obtain⟨N,G,l⟩:=l;rw[bw rfl];refine UT J (thn (Q p s2 d B _ E l) λf s3 m=>?_);cases f with
  | next =>
   obtain⟨a,g,o,u⟩:=m;obtain⟨r,q,x⟩:=G a g u;exact⟨r,q,a,g,o,x⟩
  | cont =>
   obtain⟨a,g,o,u⟩:=m;obtain⟨r,q,x⟩:=G a g u;exact⟨r,q,a,g,o,x⟩
  | brk=>exact m
  | ret v=>exact m
 | false =>
  rw[bq XS];exact Tq ⟨d,B,E,l⟩
end
structure It where
 go:Nat->Hp->Prop
 yld:Nat->Hp->V->Hp->Prop
 stop:Nat->Hp->Prop
def zaI (X:Cx)(a:List (Addr×Obj))(H:Hp)(b:Addr):Prop :=
 H b=none/\b≠X.env.locals/\b ∉ X.fs/\(b∈X.ex\/X.s₀.heap.objs.size<=b)/\(∀x c,X.env.cells.lookup x=some c->c≠b)/\∀p∈X.pn++a,p.1≠b
def Inv.fpOk {X:Cx}{f:List (Addr×Obj)}{i:St}{H d:Hp}{s:X7}{b:Addr}(I:Inv X f i H s)(a:s.heap.objs.size<=b)(g:d b=none):zaI X f d b:=by
 refine⟨g,Uq (Xk I.lt a),I.nofs a,.inr (X6 I.sz a),λx c e z=>?_,λp h z=>?_⟩
 .obtain⟨v,q⟩:=I.cell x c e;exact absurd (Xk q.lt (by rw[z];exact a)) (VJ _)
 .exact absurd (Xk (XB (I.pin p h).1) (by rw[z];exact a)) (VJ _)
structure Turn (P:Xm)(w:W3)(K:XX)(tg:Expr)(J:It)(fp:List Addr)(it:Addr)(tn:Nat->Heap->Prop):Prop where
 mem:it∈fp
 obj:∀i h,tn i h->∀b∈fp,∃o,h.get? b=some o/\∀v,o.data ≠ .cell v
 keep:∀i h h',tn i h->(∀b∈fp,∀o,h.get? b=some o->h'.get? b=some o)->tn i h'
 item:∀(X:Cx),X.prog=P->X.w=w->X.K=K->X.calm=true->∀(i:Nat) (bz:List (Addr×Obj)) (s:X7) (σ:St) (H:Hp) (E:X9->X7->Prop),Inv X bz σ H s->(∀b∈fp,zaI X bz H b)->tn i s.heap->J.go i H ->
  Xj (Xn P w) X.A (RW (.ref it)) (λr s1=>∃u,r=some u /\
   Xj (Xn P w) X.A (Sc tg (.ref it) u) (λ_ s2=>∃x H',Inv X bz σ H' s2/\RelV x u/\J.yld i H x H'/\tn (i+1) s2.heap/\∀b∈fp,H' b=none) E s1) E s
 done:∀(X:Cx),X.prog=P->X.w=w->X.K=K->X.calm=true->∀(i:Nat) (bz:List (Addr×Obj)) (s:X7) (σ:St) (H:Hp) (E:X9->X7->Prop),Inv X bz σ H s->(∀b∈fp,zaI X bz H b)->tn i s.heap->J.stop i H ->
  Xj (Xn P w) X.A (RW (.ref it)) (λr s1=>r=none/\Inv X bz σ H s1) E s
 self:∀(A:WN) (i:Nat) (s:X7) (Q:X9->X7->Prop) (E:X9->X7->Prop),tn i s.heap->Q (.ref it) s->Xj (Xn P w) A (pyIter (.ref it)) Q E s
abbrev TI:=St->Hp->(It->Hp->Prop)->Prop
def PIE (X:Cx)(d:List (Addr×Obj))(j:St)(i:Expr)(R:It->Hp->Prop)(c:X9)(g:X7):Prop :=
 ∃(f:Addr) (e:List Addr) (h:Nat->Heap->Prop) (J:It) (a:Hp),c=.ref f/\Inv X d j a g/\Turn X.prog X.w X.K i J e f h/\h 0 g.heap/\(∀b∈e,zaI X d a b)/\R J a
def PI (X:Cx)(d a:Expr)(e:TI):Prop :=
 ∀(c:List (Addr×Obj)) (s:X7) (b:St) (H:Hp) (R:It->Hp->Prop),Inv X c b H s->e b H R ->
  Xj (Xn X.prog X.w) X.A (eval a X.env) (λv s1=>Xj (Xn X.prog X.w) X.A (pyIter v) (PIE X c b d R) X.xe s1) X.xe s
def zlB {M:NZ}{A:WN}{E:X9->X7->Prop}{s:X7}{b:Expr}{it:Addr}{u:X9}{o:Obj}{n:String}{vs:Array X9}{Q:Unit->X7->Prop}(f:s.heap.get? it=some o)(c:o.cls=.type n)(d:o.data=.fields vs)
    (e:["enumerate","zip","dict_itemiterator","dict_reverseitemiterator","odict_iterator","itertools.zip_longest","itertools.pairwise"].contains n=false) (a:Q () s):Xj M A (Sc b (.ref it) u) Q E s:=by
  unfold Sc;cases b<;>first
    | exact XR a
    | (cases u<;>first
        | exact XR a
        | (refine Y1 (wpAny_load f ?_)
           rw[c,d]
           show Xj M A (if (["enumerate","zip","dict_itemiterator","dict_reverseitemiterator","odict_iterator","itertools.zip_longest","itertools.pairwise"].contains n&&vs[0]?==some (Ua _))=true then _ else _) Q E s
           rw[bq (by intro h;rw[e,SQ]at h;cases h)]
           exact XR a))
def Itl (K:XX)(a:Addr):It :=
 ⟨λi H=>∃b x,SqL K H a b/\b[i]?=some x,λi H x c=>c=H/\∀b,SqL K H a b->b[i]?=some x,λi H=>∃b,SqL K H a b/\b.length<=i⟩
def Itt (K:XX)(a:Addr):It :=
 ⟨λi H=>∃b x,SqT K H a b/\b[i]?=some x,λi H x c=>c=H/\∀b,SqT K H a b->b[i]?=some x,λi H=>∃b,SqT K H a b/\b.length<=i⟩
def Itr (lo:Int)(n:Nat):It:=⟨λi _=>i<n,λi H x a=>a=H/\x=.int (lo+i),λi _=>n<=i⟩
def zj9 {P:Xm}{w:W3}{K:XX}{tg:Expr}(a it:Addr):Turn P w K tg (Itl K a) [it] it (λi h=>h.IsListIter it a i) where
 mem:=by simp
 obj:=λi h st b hb=>by
  have e:b=it:=by simpa using hb
  subst e;obtain⟨o,e,c,d⟩:=st;exact⟨o,e,λv z=>by rw[d]at z;cases z⟩
 keep:=λi h h' st k=>st.at λo e=>k it (by simp) o e
 item:=by
  intro X hP hw hK hc i bz s σ H E I hf st hg;subst hP hw hK;revert hg;refine fP λxs x hq hx=>?_;refine fy (λits rv p hz=>?_) (I.list hq);obtain⟨u,hu,ru⟩:=rv.get hx;refine fJ (λf0 f1 f2 f3 f4 f5=>?_) (hf it (by simp));refine wpAny_pyNext_list_item st p.isList (x:=u) (by simpa using hu) λh' st' sb=>?_;have I1:Inv X bz σ H { s with heap:=h' }:=I.turned (t':=s.toks) (λb o hb e=>(sb.2 b hb).trans e) f0 f1 f3 f4 f5;refine fy (λo e c d=>?_) (id st');exact⟨u,rfl,zlB (s:={ s with heap:=h' }) e c d (by decide) (dU x H I1 ru ⟨rfl,λys hy=>by rw[I.list_inj hy hq];exact hx⟩ st' (λb hb=>(hf b hb).1))⟩
 done:=by
  intro X hP hw hK hc i bz s σ H E I hf st hg;subst hP hw hK;obtain⟨xs,hq,hx⟩:=hg;obtain⟨its,rv,p,hz⟩:=I.list hq;refine fJ (λf0 f1 f2 f3 f4 f5=>?_) (hf it (by simp));have hl:=rv.length;exact wpAny_pyNext_list_end (I.ok.hd hc) st p.isList (by simp;lia) λh' eb=>⟨rfl,I.turned (t':=s.toks) (λb o hb e=>eb b o hb e) f0 f1 f3 f4 f5⟩
 self:=λ_ _ _ _ _ st h=>wpAny_pyIter_listiter st h
def zhL {P:Xm}{w:W3}{K:XX}{tg:Expr}(a it:Addr):Turn P w K tg (Itt K a) [it] it (λi h=>h.IsTupleIter it a i) where
 mem:=by simp
 obj:=λi h st b hb=>by
  have e:b=it:=by simpa using hb
  subst e;obtain⟨o,e,c,d⟩:=st;exact⟨o,e,λv z=>by rw[d]at z;cases z⟩
 keep:=λi h h' st k=>st.at λo e=>k it (by simp) o e
 item:=by
  intro X hP hw hK hc i bz s σ H E I hf st hg;subst hP hw hK;revert hg;refine fP λxs x hq hx=>?_;refine fy (λits rv p hz=>?_) (I.tuple hq);obtain⟨u,hu,ru⟩:=rv.get hx;refine fJ (λf0 f1 f2 f3 f4 f5=>?_) (hf it (by simp));refine wpAny_pyNext_tuple_item st (show s.heap.IsTuple a its.toArray from p) (x:=u) (by simpa using hu) λh' st' sb=>?_;have I1:Inv X bz σ H { s with heap:=h' }:=I.turned (t':=s.toks) (λb o hb e=>(sb.2 b hb).trans e) f0 f1 f3 f4 f5;refine fy (λo e c d=>?_) (id st');exact⟨u,rfl,zlB (s:={ s with heap:=h' }) e c d (by decide) (dU x H I1 ru ⟨rfl,λys hy=>by rw[I.tuple_inj hy hq];exact hx⟩ st' (λb hb=>(hf b hb).1))⟩
 done:=by
  intro X hP hw hK hc i bz s σ H E I hf st hg;subst hP hw hK;obtain⟨xs,hq,hx⟩:=hg;obtain⟨its,rv,p,hz⟩:=I.tuple hq;refine fJ (λf0 f1 f2 f3 f4 f5=>?_) (hf it (by simp));have hl:=rv.length;exact wpAny_pyNext_tuple_end (I.ok.hd hc) st (show s.heap.IsTuple a its.toArray from p) (by simp;lia) λh' eb=>⟨rfl,I.turned (t':=s.toks) (λb o hb e=>eb b o hb e) f0 f1 f3 f4 f5⟩
 self:=λ_ _ _ _ _ st h=>wpAny_pyIter_tupleiter st h
def zhM {P:Xm}{w:W3}{K:XX}{tg:Expr}(it:Addr)(lo:Int)(n:Nat):Turn P w K tg (Itr lo n) [it] it (λi h=>IsRangeIter h it (lo+(i:Nat)*1) ((n:Int)-(i:Nat)) 1) where
 mem:=by simp
 obj:=λi h st b hb=>by
  have e:b=it:=by simpa using hb
  subst e;exact⟨_,st,λv z=>by
   have z':Data.fields _=Data.cell v:=z;cases z'⟩
 keep:=λi h h' st k=>k it (by simp) _ st
 item:=by
  intro X hP hw hK hc i bz s σ H E I hf st hg;subst hP hw hK;refine fJ (λf0 f1 f2 f3 f4 f5=>?_) (hf it (by simp));have W:=Walks.range (prog:=X.prog) (w:=X.w) (I.ok.hd hc) it lo 1 n;refine W.item i s _ _ hg st λv h' tk hv st' kk=>?_;obtain⟨t,rfl⟩:=hv;have I1:Inv X bz σ H { s with heap:=h',toks:=tk }:=I.turned (λb o hb e=>kk b o (by simpa using hb) e) f0 f1 f3 f4 f5;refine⟨_,rfl,zlB (s:={ s with heap:=h',toks:=tk }) (n:="range_iterator") st' rfl rfl (by decide) (dU (.int (lo+i)) H I1 ⟨t,?_⟩ ⟨rfl,rfl⟩ st' (λb hb=>(hf b hb).1))⟩;rw[Int.mul_one]
 done:=by
  intro X hP hw hK hc i bz s σ H E I hf st hg;subst hP hw hK;refine fJ (λf0 f1 f2 f3 f4 f5=>?_) (hf it (by simp));exact wpAny_pyNext_range_end (I.ok.hd hc) st (by have:n<=i:=hg;lia) λh' eb=>⟨rfl,I.turned (t':=s.toks) (λb o hb e=>eb b o hb e) f0 f1 f3 f4 f5⟩
 self:=λ_ _ _ _ _ st h=>wpAny_pyIter_rangeiter st h
section
variable {X:Cx}{tg:Expr}
def zpd (K:XX)(tl:TE):TI:=fun d H R=>tl d H λx b=>∃a,x=.ref a/\(∃c,SqL K b a c)/\R (Itl K a) b
def zsu (K:XX)(tl:TE):TI:=fun d H R=>tl d H λx b=>∃a,x=.ref a/\(∃c,SqT K b a c)/\R (Itt K a) b
def zG {l:Expr}{tl:TE}(i:PE X l tl):PI X tg l (zpd X.K tl):=by
 intro f s u H R I h;refine thn (i f s u H _ I h) λv s1 ⟨x,d,c,r,n⟩=>?_;obtain⟨a,e,⟨z,j⟩,q⟩:=n;subst e;cases r;obtain⟨m,y,p,w⟩:=c.list j;refine T5 p.isList ?_;refine dF s1.heap.objs.size [s1.heap.objs.size] (eY d rfl (c.kept (t':=s1.toks) λb o e=>XV _ e) (zj9 a _) ⟨_,Xc _ rfl,rfl,rfl⟩ (λb g=>?_) q);have e:b=s1.heap.objs.size:=by simpa using g
 subst e;exact c.fpOk (XU _) (c.hok.fresh (XU _))
def zpZ {l:Expr}{tl:TE}(j:PE X l tl):PI X tg l (zsu X.K tl):=by
 intro g s u H R I h;refine thn (j g s u H _ I h) λv s1 ⟨x,f,c,r,n⟩=>?_;obtain⟨a,e,⟨z,m⟩,q⟩:=n;subst e;cases r;obtain⟨d,y,p,w⟩:=c.tuple m;refine wpAny_pyIter_tuple (show s1.heap.IsTuple a d.toArray from p) ?_;refine dF s1.heap.objs.size [s1.heap.objs.size] (eY f rfl (c.kept (t':=s1.toks) λb o e=>XV _ e) (zhL a _) ⟨_,Xc _ rfl,rfl,rfl⟩ (λb i=>?_) q);have e:b=s1.heap.objs.size:=by simpa using i
 subst e;exact c.fpOk (XU _) (c.hok.fresh (XU _))
def zge {d:List (Addr×Obj)}{f:St}{H:Hp}{s:X7}{R:It->Hp->Prop}{E:X9->X7->Prop}{lo a:Int}{t u v:Tok}{tk:Nat}(I:Inv X d f H s)(h1:-(2^62)<=lo)(h2:lo<2^62)(i:-(2^62)<=a)(j:a<2^62)
  (q:R (Itr lo (a-lo).toNat) H):Xj (Xn X.prog X.w) X.A (pyIter (.ref s.heap.objs.size)) (PIE X d f tg R) E { s with heap:=s.heap.push { cls:=.type "range",data:=.fields #[.int lo t,.int a u,.int 1 v] },toks:=tk }:=by
 refine wpAny_pyIter_range (IsRange.new ..) (small_one h1 h2 i j) ?_;have c:Inv X d f H { s with heap:=s.heap.push { cls:=.type "range",data:=.fields #[.int lo t,.int a u,.int 1 v] },toks:=tk }:=I.kept λb o e=>XV _ e;refine dF (s.heap.push { cls:=.type "range",data:=.fields #[.int lo t,.int a u,.int 1 v] }).objs.size [(s.heap.push { cls:=.type "range",data:=.fields #[.int lo t,.int a u,.int 1 v] }).objs.size] (eY H rfl (c.kept (t':=tk) λb o e=>XV _ e) (zhM _ lo (a-lo).toNat) ?_ (λb l=>?_) q)
 .have g:lo+((0:Nat):Int)*1=lo:=by simp
  have h:(((a-lo).toNat:Nat):Int)-((0:Nat):Int)=Builtin.Range.rangeSize lo a 1:=by rw[rangeSize_one];split<;>lia
  show IsRangeIter _ _ (lo+((0:Nat):Int)*1) ((((a-lo).toNat:Nat):Int)-((0:Nat):Int)) 1;rw[g,h];exact Xc _ rfl
 .have e:b=(s.heap.push { cls:=.type "range",data:=.fields #[.int lo t,.int a u,.int 1 v] }).objs.size:=by simpa using l
  subst e;exact c.fpOk (XU _) (c.hok.fresh (XU _))
def zpe (b:TA):TI:=fun d H R=>b d H λc a=>∃j:Int,c=[.int j]/\-(2^62)<=j/\j<2^62/\R (Itr 0 j.toNat) a
def zru (b:TA):TI:=fun d H R=>b d H λc a=>∃i j:Int,c=[.int i,.int j]/\(-(2^62)<=i/\i<2^62/\-(2^62)<=j/\j<2^62)/\R (Itr i (j-i).toNat) a
def zka {a:Expr}{c:TA}{p pos:Pos}(i:Gl X "range")(l:X.mg "range"=none)(g:PA X [a] c)(m:WS [a] X.env=[(false,eval a X.env)]:=by rfl):PI X tg (.Call (.Name "range" p) [a] [] pos) (zpe c):=by
 intro f s v H R I h;refine Call_ (Y4 I i l boot_range (V0 (thn (g pos f s v H _ I h) λx s1 ⟨y,w,d,o,b⟩=>?_) m rfl));obtain⟨j,e,b,n,q⟩:=b;subst e;cases o with
 | cons r u =>
  cases u;obtain⟨t,rfl⟩:=r;exact call_range_1 (zge d (by lia) (by lia) b n (by simpa using q))
def zbu {a b:Expr}{g:TA}{p pos:Pos}(o:Gl X "range")(u:X.mg "range"=none)(n:PA X [a,b] g)(v:WS [a,b] X.env=[(false,eval a X.env),(false,eval b X.env)]:=by rfl)(c:WS [b] X.env=[(false,eval b X.env)]:=by rfl) :
  PI X tg (.Call (.Name "range" p) [a,b] [] pos) (zru g):=by
 intro m s B H R I h;refine Call_ (Y4 I o u boot_range (V0 (thn (n pos m s B H _ I h) λG s1 ⟨J,D,l,A,d⟩=>?_) (by rw[v,c]) (by rw[c];rfl)));obtain⟨i,j,e,⟨d,w,x,y⟩,q⟩:=d;subst e;cases A with
 | cons r f =>
  cases f with
  | cons z f =>
   cases f;obtain⟨t,rfl⟩:=r;obtain⟨E,rfl⟩:=z;exact call_range_2 (zge l d w x y q)
def zsv (l:TI)(g:TG)(j:TS):TS:=λD a H=>l a H λJ f=>∃W:Nat->Nat->St->Hp->Prop,(∃m,W 0 m a f)/\∀i m a H,W i m a H ->
 (J.stop i H/\D.nx a H)\/(J.go i H/\∃N:St->Hp->Prop,(∀ c b,N c b->∃e,e<m/\W (i+1) e c b)/\∀x b,J.yld i H x b->g x a b fun d h=>j { D with nx:=N,ct:=N,bk:=D.nx } d h)
def zcM (fp:List Addr)(h:Heap):List (Addr×Obj):=fp.filterMap λb=>(h.get? b).map λo=>(b,o)
def Yj {fp:List Addr}{h:Heap}{b:Addr}{o:Obj}(a:b∈fp)(e:h.get? b=some o):(b,o)∈zcM fp h:=Th.mpr ⟨b,a,by rw[e];rfl⟩
def zkb {fp:List Addr}{h:Heap}{p:Addr×Obj}(d:p∈zcM fp h):p.1∈fp/\h.get? p.1=some p.2:=by
 obtain⟨b,c,e⟩:=Th.mp d;cases q:h.get? b with
 | none=>rw[q]at e;cases e
 | some o =>
  rw[q]at e;have a:(b,o)=p:=Option.some.inj e;subst a;exact⟨c,q⟩
def Inv.pinned {a:List (Addr×Obj)}{g:St}{H:Hp}{s:X7}{fp:List Addr}(I:Inv X a g H s)(l:∀b∈fp,zaI X a H b)(m:∀b∈fp,∃o,s.heap.get? b=some o/\∀v,o.data ≠ .cell v):Inv X (a++zcM fp s.heap) g H s :=
 I.pins_of λp n=>(XO.mp n).elim (λz=>I.pin p (WZ _ z)) λz=>by
  obtain⟨f,e⟩:=zkb z;refine fE (λh i j _=>?_) (l p.1 f);obtain⟨o,c,d⟩:=m p.1 f;rw[e]at c;cases c;exact⟨e,h,i,j,d⟩
def Inv.unpinned {a d:List (Addr×Obj)}{b:St}{H:Hp}{s:X7}(I:Inv X (a++d) b H s):Inv X a b H s:=I.pins_of λp c=>I.pin p (WZ _ (W1 _ c))
def qt {p:Expr}{E:List Stmt}{wi:TI}{g:TG}{tb:TS}{pos:Pos}(U:PassesOwn (Xn X.prog X.w) X.A X.env X.xe)(hc:X.calm=true)(hi:PI X tg p wi)(hg:PG X tg g)(l:PSs X E tb)
  (hs:∀x,VM p X.env x=pure x:=by intro _;rfl):PS X (.For tg p E [] pos) (zsv wi g tb):=by
 intro L s σ H D I h;refine wpAny_For (thn (hi L s σ H _ I h) λv s1 h1=>thn h1 λai s2 h2=>?_) hs;obtain⟨it,O,tn,J,H2,e,I2,T,ag,f2,W,⟨m0,w0⟩,ac⟩:=h2;subst e;have q:∀{B:Hp},(∀b∈O,B b=none)->∀b∈O,zaI X L B b:=λhn b l=>⟨hn b l,(f2 b l).2⟩;refine codeAny_forLoop_any (λn s'=>∃i y B,Inv X L y B s'/\tn i s'.heap/\(∀b∈O,B b=none)/\W i n y B) ?_ m0 ⟨0,σ,H2,I2,ag,λb l=>(f2 b l).1,w0⟩;refine λn s3=>fF λi z H3 I3 aa Q w3=>?_;rcases ac i n z H3 w3 with ⟨ab,qn⟩ | ⟨go,N,hN,step⟩
 .refine UT U (thn (T.done X rfl rfl rfl hc i L s3 z H3 X.xe I3 (q Q) aa ab) λr s4 ⟨hr,I4⟩=>?_);subst hr;exact Tq ⟨z,H3,I4,qn⟩
 .refine UT U (thn (T.item X rfl rfl rfl hc i L s3 z H3 X.xe I3 (q Q) aa go) λr s4 ⟨u,hr,h4⟩=>?_);subst hr;refine UT U (thn h4 λ_ s5 ⟨x,H5,I5,r5,y5,M,af⟩=>?_);have ae:=I5.pinned (q af) (T.obj _ _ M);refine UT U (thn (hg _ s5 z H5 x u _ ae r5 (step x H5 y5)) λ_ s6 ⟨ah,H6,I6,q6⟩=>?_);refine UT U (thn (l _ s6 ah H6 _ I6 q6) λf s7 G=>?_);have N9:∀{a:St} {c:Hp},Inv X (L++zcM O s5.heap) a c s7->N a c->∃m,m<n/\∃i y B,Inv X L y B s7/\tn i s7.heap/\(∀b∈O,B b=none)/\W i m y B:=λ{a c} j Y=>by
   obtain⟨m',hm,w7⟩:=hN a c Y;refine dS m' hm (eS (i+1) a c j.unpinned (T.keep _ _ _ M λb l o e=>(j.pin (b,o) (WZ _ (WZ _ (Yj l e)))).1) (λb l=>?_) w7);obtain⟨o,e,d⟩:=T.obj _ _ M b l;exact(j.pin (b,o) (WZ _ (WZ _ (Yj l e)))).2.1
  cases f with
  | next=>revert G;refine fP λa c j Y=>?_;exact N9 j Y
  | cont=>revert G;refine fP λa c j Y=>?_;exact N9 j Y
  | brk=>revert G;refine fP λa c j G=>?_;exact⟨a,c,j.unpinned,G⟩
  | ret v=>revert G;refine fM λx7 a c j r7 G=>?_;exact⟨x7,a,c,j.unpinned,r7,G⟩
end
def jG {K:XX}{a:Addr}{xs:AF}{g:TG}{n:TS}{D:Ends}{b:St}{H:Hp}(Pv:Nat->St->Hp->Prop)(h0:Pv 0 b H)(s:∀i b H,i<=xs.length->Pv i b H->SqL K H a xs)
  (u:∀i x b H,xs[i]?=some x->Pv i b H->g x b H fun f j=>n { D with nx:=Pv (i+1),ct:=Pv (i+1),bk:=D.nx } f j) (o:∀ b H,Pv xs.length b H->D.nx b H) :
  ∃W:Nat->Nat->St->Hp->Prop,(∃m,W 0 m b H)/\∀i m b H,W i m b H ->
   ((Itl K a).stop i H/\D.nx b H)\/((Itl K a).go i H/\∃N:St->Hp->Prop,(∀ d c,N d c->∃l,l<m/\W (i+1) l d c)/\∀x c,(Itl K a).yld i H x c->g x b c fun f j=>n { D with nx:=N,ct:=N,bk:=D.nx } f j):=by
 refine⟨λi m b H=>m=xs.length-i/\i<=xs.length/\Pv i b H,⟨xs.length,by simp,WY _,h0⟩,?_⟩;rintro i m b H ⟨rfl,r,p⟩;have q:=s i b H r p;by_cases h:i<xs.length
 .refine .inr ⟨⟨xs,xs[i],q,by simp[h]⟩,Pv (i+1),fun d c v=>⟨xs.length-(i+1),by lia,rfl,h,v⟩,λx c y=>?_⟩;obtain⟨e,y⟩:=y;subst e;exact u i x b _ (y xs q) p
 .have e:i=xs.length:=by lia
  subst e;exact .inl ⟨⟨xs,q,XU _⟩,o b H p⟩
def jj {lo:Int}{n:Nat}{g:TG}{l:TS}{D:Ends}{a:St}{H:Hp}(Pv:Nat->St->Hp->Prop)(h0:Pv 0 a H)
  (q:∀i a H,i<n->Pv i a H->g (.int (lo+i)) a H fun f h=>l { D with nx:=Pv (i+1),ct:=Pv (i+1),bk:=D.nx } f h) (o:∀ a H,Pv n a H->D.nx a H) :
  ∃W:Nat->Nat->St->Hp->Prop,(∃m,W 0 m a H)/\∀i m a H,W i m a H ->
   ((Itr lo n).stop i H/\D.nx a H)\/((Itr lo n).go i H/\∃N:St->Hp->Prop,(∀ d b,N d b->∃j,j<m/\W (i+1) j d b)/\∀x b,(Itr lo n).yld i H x b->g x a b fun f h=>l { D with nx:=N,ct:=N,bk:=D.nx } f h):=by
 refine⟨λi m a H=>m=n-i/\i<=n/\Pv i a H,⟨n,by simp,WY _,h0⟩,?_⟩;rintro i m a H ⟨rfl,s,p⟩;by_cases c:i<n
 .refine .inr ⟨c,Pv (i+1),fun d b r=>⟨n-(i+1),by lia,rfl,c,r⟩,λx b y=>?_⟩;obtain⟨e,y⟩:=y;subst e y;exact q i a _ c p
 .have e:i=n:=by lia
  subst e;exact .inl ⟨XU _,o a H p⟩
abbrev R2:=V->V->Hp->VK->Prop
def OpR (X:Cx)(f:X9->X9->Sem X9)(r:R2):Prop :=
 ∀(a:List (Addr×Obj)) (s:X7) (b:St) (H:Hp) (x y:V) (v u:X9) (Q:VK),Inv X a b H s->RelV x v->RelV y u->r x y H Q ->
  Xj (Xn X.prog X.w) X.A (f v u) (EP X a b Q) X.xe s
def UnR (X:Cx)(f:X9->Sem X9)(r:V->Hp->VK->Prop):Prop :=
 ∀(a:List (Addr×Obj)) (s:X7) (b:St) (H:Hp) (x:V) (v:X9) (Q:VK),Inv X a b H s->RelV x v->r x H Q ->
  Xj (Xn X.prog X.w) X.A (f v) (EP X a b Q) X.xe s
def qM (X:Cx)(f:X9)(r:AF->Hp->VK->Prop):Prop :=
 ∀(a:List (Addr×Obj)) (s:X7) (d:St) (H:Hp) (c:AF) (b:List X9) (Q:VK),Inv X a d H s->Vals c b->r c H Q ->
  Xj (Xn X.prog X.w) X.A (call f b) (EP X a d Q) X.xe s
def zsw (X:Cx)(r:V->Hp->(Bool->Hp->Prop)->Prop):Prop :=
 ∀(a:List (Addr×Obj)) (s:X7) (b:St) (H:Hp) (x:V) (v:X9) (Q:Bool->Hp->Prop),Inv X a b H s->RelV x v->r x H Q ->
  Xj (Xn X.prog X.w) X.A (truthy v) (TP X a b Q) X.xe s
def tOp (r:R2)(d e:TE):TE:=fun a H Q=>d a H λx b=>e a b λy c=>r x y c Q
def tUn (r:V->Hp->VK->Prop)(b:TE):TE:=fun c H Q=>b c H λx a=>r x a Q
def rI (C:Int->Int->Prop)(g:Int->Int->V):R2:=λx y H Q=>∃i j,x=.int i/\y=.int j/\C i j/\Q (g i j) H
def rI0 (g:Int->Int->V):R2:=λx y H Q=>∃i j,x=.int i/\y=.int j/\Q (g i j) H
def rU (g:Int->V):V->Hp->VK->Prop:=λx H Q=>∃i,x=.int i/\Q (g i) H
section
variable {X:Cx}{a b c:Expr}{ta tb tc:TE}{pos:Pos}
def zp0 (o:PE X a ta)(p:PE X b tb){i:List (Addr×Obj)}{s:X7}{d:St}{H:Hp}{R:V->V->Hp->Prop}(I:Inv X i d H s)
  (h:ta d H λx l=>tb d l λy c=>R x y c) {Q:X9->X7->Prop} {f:X9->X9->Sem X9}
  (q:∀v u j x y c,Inv X i d c j->RelV x v->RelV y u->R x y c->Xj (Xn X.prog X.w) X.A (f v u) Q X.xe j) :
  Xj (Xn X.prog X.w) X.A (eval a X.env) (λv e=>Xj (Xn X.prog X.w) X.A (eval b X.env) (λu g=>Xj (Xn X.prog X.w) X.A (f v u) Q X.xe g) X.xe e) X.xe s:=by
 refine thn (o i s d H _ I h) λv s1 ⟨x,l,m,B,r⟩=>?_;refine thn (p i s1 d l _ m r) λu j ⟨y,c,n,D,z⟩=>?_;exact q v u j x y c n B D z
def zC {op:Operator}{r:R2}(i:OpR X (TY op) r)(f:PE X a ta)(g:PE X b tb):PE X (.BinOp a op b pos) (tOp r ta tb):=by
 intro e s n H Q I h;exact wpAny_BinOp (zp0 f g I h λv u m x y c d j l q=>i e m n c x y v u Q d j l q)
def zlC {op:UnaryOp}{r:V->Hp->VK->Prop}(g:UnR X (unaryOp op) r)(f:PE X a ta):PE X (.UnaryOp op a pos) (tUn r ta):=by
 intro b s c H Q I h;exact UnaryOp_ (thn (f b s c H _ I h) λv s1 ⟨x,d,e,j,i⟩=>g b s1 c d x v Q e j i)
def opI {f:X9->X9->Sem X9}{C:Int->Int->Prop}{g:Int->Int->Int}
  (rule:∀(i j:Int) (t u:Tok) (s:X7) (Q:X9->X7->Prop) (E:X9->X7->Prop),C i j->Q (.int (g i j) s.toks) { s with toks:=s.toks+1 }->Xj (Xn X.prog X.w) X.A (f (.int i t) (.int j u)) Q E s) :
  OpR X f (rI C λi j=>.int (g i j)):=by
 intro e s l H x y v u Q I b c h;revert h;refine fm λi j z0 z1 a q=>?_;subst z0 z1;obtain⟨t,rfl⟩:=b;obtain⟨d,rfl⟩:=c;exact rule i j t d s _ _ a ⟨.int (g i j),H,I.tok _,⟨_,rfl⟩,q⟩
def zrv {f:X9->X9->Sem X9}{g:Int->Int->Int}
  (rule:∀(i j:Int) (t u:Tok) (s:X7) (Q:X9->X7->Prop) (E:X9->X7->Prop),Q (.int (g i j) s.toks) { s with toks:=s.toks+1 }->Xj (Xn X.prog X.w) X.A (f (.int i t) (.int j u)) Q E s) :
  OpR X f (rI0 λi j=>.int (g i j)):=by
 intro d s e H x y v u Q I a b h;obtain⟨i,j,rfl,rfl,q⟩:=h;obtain⟨t,rfl⟩:=a;obtain⟨c,rfl⟩:=b;exact rule i j t c s _ _ ⟨.int (g i j),H,I.tok _,⟨_,rfl⟩,q⟩
def zp1 {f:X9->X9->Sem X9}{g:Int->Int->Bool}
  (rule:∀(i j:Int) (t u:Tok) (s:X7) (Q:X9->X7->Prop) (E:X9->X7->Prop),Q (.bool (g i j)) s->Xj (Xn X.prog X.w) X.A (f (.int i t) (.int j u)) Q E s) :
  OpR X f (rI0 λi j=>.bl (g i j)):=by
 intro d s e H x y v u Q I a b h;obtain⟨i,j,rfl,rfl,q⟩:=h;obtain⟨t,rfl⟩:=a;obtain⟨c,rfl⟩:=b;exact rule i j t c s _ _ ⟨.bl (g i j),H,I,rfl,q⟩
def yY:OpR X (TY .Add) (rI0 λi j=>.int (i+j)):=zrv λ_ _ _ _ _ _ _ q=>add_int q
def Zv:OpR X (TY .Sub) (rI0 λi j=>.int (i-j)):=zrv λ_ _ _ _ _ _ _ q=>sub_int q
def jP:OpR X (TY .Mod) (rI (λ_ j=>0<j) λi j=>.int (i%j)):=opI λi j _ _ _ _ _ a q=>by
 have h1:(0:Int)<j:=a;exact mod_int' (by lia) (by rw[Int.fmod_eq_emod_of_nonneg i (by lia)];exact q)
def unI {f:X9->Sem X9}{g:Int->Int}
  (rule:∀(i:Int) (t:Tok) (s:X7) (Q:X9->X7->Prop) (E:X9->X7->Prop),Q (.int (g i) s.toks) { s with toks:=s.toks+1 }->Xj (Xn X.prog X.w) X.A (f (.int i t)) Q E s) :
  UnR X f (rU λi=>.int (g i)):=by
 intro b s c H x v Q I a h;obtain⟨i,rfl,q⟩:=h;obtain⟨t,rfl⟩:=a;exact rule i t s _ _ ⟨.int (g i),H,I.tok _,⟨_,rfl⟩,q⟩
def zhN:UnR X (unaryOp .USub) (rU λi=>.int (-i)):=unI λ_ _ _ _ _ q=>neg_int q
def zrw:V->V->Bool
 | .non,.non=>true | .non,.int _=>true | .int _,.non=>true | .non,.bl _=>true | .bl _,.non=>true | .non,.str _=>true | .str _,.non=>true
 | .int _,.int _=>true | .bl _,.bl _=>true | .str _,.str _=>true | .byt _,.byt _=>true
 | .int _,.str _=>true | .str _,.int _=>true | .bl _,.str _=>true | .str _,.bl _=>true
 | _,_=>false
def rEq:R2:=λx y H Q=>zrw x y=true/\Q (.bl (decide (x=y))) H
def rNe:R2:=λx y H Q=>zrw x y=true/\Q (.bl (!decide (x=y))) H
def zfl {i j:Int}:decide (V.int i=V.int j)=(i==j):=by
 rw[WV];simp
def zlD {i j:Bool}:decide (V.bl i=V.bl j)=(i==j):=by
 rw[WV];simp
def zi8 {i j:Str}:decide (V.str i=V.str j)=(i==j):=by
 rw[WV];simp
def zi9 {i j:Array UInt8}:decide (V.byt i=V.byt j)=(i.toList==j.toList):=by
 rw[WV];cases i;cases j;simp
def qi {a:List (Addr×Obj)}{c:St}{H:Hp}{s:X7}{Q:VK}{k b:Bool}(I:Inv X a c H s)(q:Q (.bl k) H)(e:k=b):EP X a c Q (.bool b) s:=by
 subst e;exact⟨.bl k,H,I,rfl,q⟩
def ZD:OpR X (Wr .Eq) rEq:=by
 intro e s f H x y v u Q I d a h;obtain⟨c,q⟩:=h;cases x with
 | non =>
  cases d;cases y with
  | non=>cases a;exact PySem.EqNone.eq_none_none (qi I q (by simp))
  | bl j=>cases a;exact PySem.EqNone.eq_none_bool (qi I q (by simp))
  | int j=>obtain⟨b,rfl⟩:=a;exact PySem.EqNone.eq_none_int (qi I q (by simp))
  | str j=>obtain⟨b,rfl⟩:=a;exact PySem.EqNone.eq_none_str (qi I q (by simp))
  | _=>exact absurd (show false=true from c) XS
 | bl i =>
  cases d;cases y with
  | non=>cases a;exact PySem.EqNone.eq_bool_none (qi I q (by simp))
  | bl j=>cases a;exact eq_bool (qi I q zlD)
  | str j=>obtain⟨b,rfl⟩:=a;exact PySem.EqMixed.eq_bool_str (qi I q (by simp))
  | _=>exact absurd (show false=true from c) XS
 | int i =>
  obtain⟨t,rfl⟩:=d;cases y with
  | non=>cases a;exact PySem.EqNone.eq_int_none (qi I q (by simp))
  | int j=>obtain⟨b,rfl⟩:=a;exact eq_int (qi I q zfl)
  | str j=>obtain⟨b,rfl⟩:=a;exact PySem.EqMixed.eq_int_str (qi I q (by simp))
  | _=>exact absurd (show false=true from c) XS
 | str i =>
  obtain⟨t,rfl⟩:=d;cases y with
  | non=>cases a;exact PySem.EqNone.eq_str_none (qi I q (by simp))
  | bl j=>cases a;exact PySem.EqMixed.eq_str_bool (qi I q (by simp))
  | int j=>obtain⟨b,rfl⟩:=a;exact PySem.EqMixed.eq_str_int (qi I q (by simp))
  | str j=>obtain⟨b,rfl⟩:=a;exact eq_str (qi I q zi8)
  | _=>exact absurd (show false=true from c) XS
 | byt i =>
  obtain⟨t,rfl⟩:=d;cases y with
  | byt j=>obtain⟨b,rfl⟩:=a;exact PySem.W.eq_bytes (qi I q zi9)
  | _=>exact absurd (show false=true from c) XS
 | _=>cases y<;>exact absurd (show false=true from c) XS
def zek:OpR X (Wr .NotEq) rNe:=by
 intro e s f H x y v u Q I d a h;obtain⟨c,q⟩:=h;cases x with
 | non =>
  cases d;cases y with
  | non=>cases a;exact PySem.EqNone.ne_none_none (qi I q (by simp))
  | bl j=>cases a;exact PySem.EqNone.ne_none_bool (qi I q (by simp))
  | int j=>obtain⟨b,rfl⟩:=a;exact PySem.EqNone.ne_none_int (qi I q (by simp))
  | str j=>obtain⟨b,rfl⟩:=a;exact PySem.EqNone.ne_none_str (qi I q (by simp))
  | _=>exact absurd (show false=true from c) XS
 | bl i =>
  cases d;cases y with
  | non=>cases a;exact PySem.EqNone.ne_bool_none (qi I q (by simp))
  | bl j=>cases a;exact ne_bool (qi I q (congrArg not zlD))
  | str j=>obtain⟨b,rfl⟩:=a;exact PySem.EqMixed.ne_bool_str (qi I q (by simp))
  | _=>exact absurd (show false=true from c) XS
 | int i =>
  obtain⟨t,rfl⟩:=d;cases y with
  | non=>cases a;exact PySem.EqNone.ne_int_none (qi I q (by simp))
  | int j=>obtain⟨b,rfl⟩:=a;exact ne_int (qi I q (congrArg not zfl))
  | str j=>obtain⟨b,rfl⟩:=a;exact PySem.EqMixed.ne_int_str (qi I q (by simp))
  | _=>exact absurd (show false=true from c) XS
 | str i =>
  obtain⟨t,rfl⟩:=d;cases y with
  | non=>cases a;exact PySem.EqNone.ne_str_none (qi I q (by simp))
  | bl j=>cases a;exact PySem.EqMixed.ne_str_bool (qi I q (by simp))
  | int j=>obtain⟨b,rfl⟩:=a;exact PySem.EqMixed.ne_str_int (qi I q (by simp))
  | str j=>obtain⟨b,rfl⟩:=a;exact ne_str (qi I q (congrArg not zi8))
  | _=>exact absurd (show false=true from c) XS
 | byt i =>
  obtain⟨t,rfl⟩:=d;cases y with
  | byt j=>obtain⟨b,rfl⟩:=a;exact PySem.W.ne_bytes (qi I q (congrArg not zi9))
  | _=>exact absurd (show false=true from c) XS
 | _=>cases y<;>exact absurd (show false=true from c) XS
def zgf:OpR X (Wr .Lt) (rI0 λi j=>.bl (decide (i<j))):=zp1 λ_ _ _ _ _ _ _ q=>lt_int q
def zrx:OpR X (Wr .LtE) (rI0 λi j=>.bl (decide (i<=j))):=zp1 λ_ _ _ _ _ _ _ q=>le_int q
def zpf:OpR X (Wr .Gt) (rI0 λi j=>.bl (decide (j<i))):=zp1 λ_ _ _ _ _ _ _ q=>gt_int q
def znN:OpR X (Wr .IsNot) (λx y H Q=>y=.non/\Q (.bl (!decide (x=.non))) H):=by
 intro c s d H x y v u Q I a b h;obtain⟨rfl,q⟩:=h;cases b;refine isnot_none_gen (qi I q ?_);cases x<;>first
  | (cases a;rfl)
  | (obtain⟨t,rfl⟩:=a;rfl)
def zP (b:Expr){op:NY}(h:op ≠ .In:=by decide)(h2:op ≠ .NotIn:=by decide):Tv op b=false:=by
 have a:(op==CmpOp.In)=false:=by cases op<;>first | rfl | exact absurd rfl h
 have c:(op==CmpOp.NotIn)=false:=by cases op<;>first | rfl | exact absurd rfl h2
 cases b<;>simp[Tv,a,c]
def jx {op:NY}{r:R2}(j:OpR X (Wr op) r)(f:PE X a ta)(g:PE X b tb)(i:Tv op b=false):PE X (.Compare a [op] [b] pos) (tOp r ta tb):=by
 intro e s o H Q I h;exact wpAny_Compare1 (zp0 f g I h λv u n x y c d l m q=>j e n o c x y v u Q d l m q) i
def zpg (t:TE):TT:=fun b H Q=>t b H λx a=>∃k,x=.bl k/\Q k a
def jh {op:NY}{r:R2}(w:OpR X (Wr op) r)(o:PE X a ta)(p:PE X b tb)(q:Tv op b=false):PT X (.Compare a [op] [b] pos) (zpg (tOp r ta tb)):=by
 intro d s f H Q I h;refine SD (thn (o d s f H _ I h) λv s1 ⟨x,g,l,E,A⟩=>thn (p d s1 f g _ l A) λu L ⟨y,i,m,G,B⟩ =>
  thn (w d L f i x y v u _ m E G B) λc M ⟨z,j,n,J,k,e,D⟩=>?_) q
 subst e;cases J;exact Wi ⟨j,n,D⟩
def zp2 (r f:R2)(ta tb tc:TE):TE:=fun a H Q=>ta a H λx c=>tb a c λy d=>r x y d λz b=>∃k,z=.bl k /\
 (if k=true then tc a b λg e=>f y g e Q else Q (.bl false) b)
def zgg {op f:NY}{r o:R2}(ho:OpR X (Wr op) r)(j:OpR X (Wr f) o)(N:PE X a ta)(O:PE X b tb)(U:PE X c tc)
  (Y:lastMarks [op,f] [b,c]=false:=by with_unfolding_all rfl):PT X (.Compare a [op,f] [b,c] pos) (zpg (zp2 r o ta tb tc)):=by
 intro g s i H Q I h;refine isTrue_chain (thn (N g s i H _ I h) λv s1 ⟨x,q,D,r1,q1⟩=>test_link (thn (O g s1 i q _ D q1) λu s2 ⟨y,w,E,p,q2⟩ =>
  thn (ho g s2 i w x y v u _ E r1 p q2) λd s3 ⟨z,l,m,r3,k,e,n⟩=>?_)) Y
 subst e;cases r3;refine Wi ?_;cases k with
 | false =>
  obtain⟨k',L,q'⟩:=n;cases L;exact ite_ff ⟨l,m,q'⟩
 | true =>
  refine ite_tt (test_last (thn (U g s3 i l _ m n) λw' s4 ⟨z',A,G,r4,q4⟩=>thn (j g s4 i A y z' u w' _ G p r4 q4) λd' s5 ⟨z2,B,J,r5,k2,M,q5⟩=>?_));subst M;cases r5;exact Wi ⟨B,J,q5⟩
def zp3 (K:XX)(x:V)(H:Hp)(k:Bool):Prop :=
 match x with
 | .non=>k=false
 | .bl b=>k=b
 | .int i=>k=(i != 0)
 | .str y=>y.length<=XA/\k=((y.length:Int) != 0)
 | .byt y=>y.size<=XA/\k=((y.size:Int) != 0)
 | .ref p=>(∃c,SqL K H p c/\k=!c.isEmpty)\/(∃c,SqT K H p c/\k=!c.isEmpty)\/∃a,H p=some (.dK a)/\k=!a.isEmpty
 | _=>False
def zhO {b:Type}{a:List (b × V)}{vs:List (b × X9)}(r:KV a vs):(!vs.isEmpty)=!a.isEmpty:=by
 cases r<;>rfl
def zcN {xs:AF}{a:List X9}(r:Vals xs a):(!a.toArray.isEmpty)=!xs.isEmpty:=by
 cases r<;>simp
def Y6:(XA:Nat)<2^63:=by rw[TV];decide
def zp4:zsw X (λx H Q=>∃k,zp3 X.K x H k/\Q k H):=by
 intro B s G H x v Q I g h;obtain⟨k,e,q⟩:=h;have D:=Y6;have E:XA=16777216:=TV;cases x with
 | non =>
  cases g;have a:k=false:=e;subst a;exact truthy_none ⟨H,I,q⟩
 | bl b =>
  cases g;have a:k=b:=e;subst a;exact Wi ⟨H,I,q⟩
 | int i =>
  obtain⟨t,rfl⟩:=g;have a:k=(i != 0):=e;subst a;exact PySem.P.truthy_int ⟨H,I,q⟩
 | str y =>
  obtain⟨t,rfl⟩:=g;obtain⟨A,a⟩:y.length<=XA/\k=((y.length:Int) != 0):=e;subst a;exact PySem.P.truthy_str (by lia) ⟨H,I.tok _,q⟩
 | byt y =>
  obtain⟨t,rfl⟩:=g;obtain⟨A,a⟩:y.size<=XA/\k=((y.size:Int) != 0):=e;subst a;exact PySem.W.truthy_bytes (by lia) ⟨H,I.tok _,q⟩
 | ref p =>
  cases g;have a:(∃f,SqL X.K H p f/\k=!f.isEmpty)\/(∃f,SqT X.K H p f/\k=!f.isEmpty)\/∃c,H p=some (.dK c)/\k=!c.isEmpty:=e;rcases a with ⟨f,j,a⟩ | ⟨f,j,a⟩ | ⟨c,j,a⟩
  .subst a;obtain⟨n,r,o,u⟩:=I.list j;have d:=r.length;exact wpAny_truthy_list o.isList (by simp only[Xu];lia) ⟨H,I.tok _,by rw[zcN r];exact q⟩
  .subst a;obtain⟨n,r,o,u⟩:=I.tuple j;have d:=r.length;exact truthy_tuple o (by simp only[Xu];lia) ⟨H,I.tok _,by rw[zcN r];exact q⟩
  .subst a;obtain⟨u,z,l,r,m⟩:c.length<=XA/\(p==Vi)=false/\∃l,KV c l/\s.heap.DictOf (zV X.prog X.w) p l:=I.hok p _ j;have d:c.length=l.length:=Paired.length r;exact wpAny_truthy_dict z m (by lia) ⟨H,I.tok _,by rw[zhO r];exact q⟩
 | _=>exact(show False from e).elim
def yf (g:PE X a ta)(he:∀whole,isTrue a X.env whole=(do let v <- whole;standAt a.pos;holding [v] (truthy v))) :
  PT X a (fun b H Q=>ta b H λx c=>∃k,zp3 X.K x c k/\Q k c):=by
 intro d s b H Q I h;exact isTrue_plain (thn (g d s b H _ I h) λv s1 ⟨x,e,f,j,i⟩=>zp4 d s1 b e x v Q f j i) (he _)
def zam:OpR X (TY .Add) (λx y H Q=>∃i j,x=.str i/\y=.str j/\i.length+j.length<=XA/\Q (.str (i++j)) H):=by
 intro e s g H x y v u Q I b c h;obtain⟨i,j,rfl,rfl,a,q⟩:=h;obtain⟨t,rfl⟩:=b;obtain⟨d,rfl⟩:=c;exact add_str (λd f=>⟨.str (i++j),H,I.tok _,⟨_,rfl⟩,q⟩) a
def vals1 {x:V}{a:List X9}(r:Vals [x] a):∃u,a=[u]/\RelV x u:=by
 cases r with
 | cons b c=>cases c;exact⟨_,rfl,b⟩
def vals2 {x y:V}{a:List X9}(r:Vals [x,y] a):∃u b,a=[u,b]/\RelV x u/\RelV y b:=by
 cases r with
 | cons c d =>
  cases d with
  | cons e f=>cases f;exact⟨_,_,rfl,c,e⟩
def zgh:qM X (.builtin "abs") (λxs H Q=>∃i,xs=[.int i]/\Q (.int (if i<0 then -i else i)) H):=by
 intro a s d H xs c Q I r h;obtain⟨i,rfl,q⟩:=h;obtain⟨u,rfl,t,rfl⟩:=vals1 r;exact call_abs_int λu b=>⟨.int (if i<0 then -i else i),H,I.tok _,⟨_,rfl⟩,q⟩
def QL (b:X.calm=true):qM X (.builtin "max") (λxs H Q=>∃i j,xs=[.int i,.int j]/\Q (.int (if j>i then j else i)) H):=by
 intro c s m H xs g Q I r h;obtain⟨i,j,rfl,q⟩:=h;obtain⟨u,l,rfl,⟨t,rfl⟩,⟨e,rfl⟩⟩:=vals2 r;refine max_two_ints (I.ok.hd b) λd f k=>⟨_,H,I.kept k,?_,q⟩;by_cases a:j>i
 .rw[bw a,bw a];exact⟨_,rfl⟩
 .rw[bq a,bq a];exact⟨_,rfl⟩
def ZE (b:X.calm=true):qM X (.builtin "min") (λxs H Q=>∃i j,xs=[.int i,.int j]/\Q (.int (if j<i then j else i)) H):=by
 intro c s m H xs g Q I r h;obtain⟨i,j,rfl,q⟩:=h;obtain⟨u,l,rfl,⟨t,rfl⟩,⟨e,rfl⟩⟩:=vals2 r;refine min_two_ints (I.ok.hd b) λd f k=>⟨_,H,I.kept k,?_,q⟩;by_cases a:j<i
 .rw[bw a,bw a];exact⟨_,rfl⟩
 .rw[bq a,bq a];exact⟨_,rfl⟩
def zkc:qM X (.type "int") (λxs H Q=>(∃i,xs=[.int i]/\Q (.int i) H)\/∃k,xs=[.bl k]/\Q (.int (if k then 1 else 0)) H):=by
 intro b s d H xs c Q I r h;rcases h with ⟨i,rfl,q⟩ | ⟨k,rfl,q⟩
 .obtain⟨u,rfl,t,rfl⟩:=vals1 r;exact call_int_int ⟨.int i,H,I,⟨_,rfl⟩,q⟩
 .obtain⟨u,rfl,a⟩:=vals1 r;cases a;exact call_int_bool ⟨.int (if k then 1 else 0),H,I.tok _,⟨_,rfl⟩,q⟩
def zaJ:qM X (.type "str") (λxs H Q=>∃i,xs=[.int i]/\i.natAbs.log2<1920/\Q (.str (toString i)) H):=by
 intro b s d H xs c Q I r h;obtain⟨i,rfl,a,q⟩:=h;obtain⟨u,rfl,t,rfl⟩:=vals1 r;exact PySem.P.str_of_int a ⟨.str _,H,I.tok _,⟨_,rfl⟩,q⟩
end
structure zp5 (h:Heap)(x dx C:Addr)(mA:Str->Option X9):Prop where
 obj:h.get? x=some (PH C dx)
 ns:h.Ns1 dx mA
 ne:dx≠x
def zkd {h:Heap}{c:Addr}{f:Str->Option X9}(n:h.Ns1 c f):∃g,h.get? c=some g/\∀name,Ph name g=some (f name):=by
 revert n;refine fC λo d r m j hk _ l=>?_;refine⟨o,m,λname=>?_⟩;have e:=l name;unfold nsFind findBy at e;rw[<- Array.find?_toList]at e;unfold Ph;rw[j];dsimp only;split
 .rename_i y q;rw[q]at e;exact congrArg some e
 .rename_i q;rw[q]at e;have a:d.toList.any (·.refKey)=false:=by
   rw[RA];intro y p;obtain⟨z,t,b⟩:=hk y (Array.mem_toList_iff.mp p);simp[DictEntry.refKey,b]
  have i:¬ d.toList.any (·.refKey)=true:=by rw[a];exact XS
  rw[bq i];exact congrArg some e
def zp5.look {h:Heap}{x b C:Addr}{c:Str->Option X9}(I:zp5 h x b C c):∃a,PySem.W.InstAt h x (PH C b) C (some a)/\∀name,Ph name a=some (c name) :=
 let ⟨a,ho,hl⟩:=zkd I.ns
 ⟨a,⟨I.obj,rfl,rfl,ho⟩,hl⟩
def zbt.some_of {v:V}{o:Option X9}(r:zbt (some v) o):∃u,o=some u/\RelV v u:=by
 cases o with
 | none=>exact(show False from r).elim
 | some u=>exact⟨u,rfl,r⟩
section
variable {P:Xm}{w:W3}{H H':Hp}{h h':Heap}{a C dx:Addr}{fs fs':List (Str×V)}
def znO (c:HOk P w H h)(e:H a=some (.ins C dx fs)):∃b,zp5 h a dx C b/\(∀f,zbt (fs.lookup f) (b f))/\PySem.Within b (fs.map (·.1))/\fs.length<=1000/\H dx=some (.own a):=by
 refine fO (λd z g ob=>fy λb n r q=>?_) (show qH P w H h a (.ins C dx fs) from c a _ e);exact⟨b,⟨ob,n,g⟩,r,q,z,d⟩
end
structure Cls (K:XX)(C:Addr):Prop where
 pg:PySem.W.plainGet K C Str.empty=true
 hd:PySem.W.hasDictIn K C=true
 po:PySem.W.plainOver K C=true
 sa:PySem.W.findIn K (.ref C) "__setattr__"=some (some (.builtin "object.__setattr__"))
def Cls.get {K:XX}{C:Addr}(c:Cls K C)(f:Str):PySem.W.plainGet K C f=true:=c.pg
section
variable {X:Cx}{bz:List (Addr×Obj)}{σ:St}{H:Hp}{s:X7}{A:WN}{E:X9->X7->Prop}{Q:X9->X7->Prop}{c:X9}{b:Bool}
inductive zaK (K:XX)(H:Hp):V->X9->Prop where
 | non:zaK K H .non (.type "NoneType")
 | bl (x:Bool):zaK K H (.bl x) (.type "bool")
 | int (i:Int):zaK K H (.int i) (.type "int")
 | str (x:Str):zaK K H (.str x) (.type "str")
 | flt (x:UInt64):zaK K H (.flt x) (.type "float")
 | lst {a:Addr} {xs:AF} (e:H a=some (.lst xs)):zaK K H (.ref a) (.type "list")
 | frz {a:Addr} {o:Obj} {xs:AF} (e:H a=some (.frz o (.lst xs))):zaK K H (.ref a) (.type "list")
 | tup {a:Addr} {xs:AF} (e:H a=some (.tup xs)):zaK K H (.ref a) (.type "tuple")
 | dK {a:Addr} {kvs:List (Key×V)} (e:H a=some (.dK kvs)):zaK K H (.ref a) (.type "dict")
 | dT {a:Addr} {kvs:List (List Key×V)} (e:H a=some (.dT kvs)):zaK K H (.ref a) (.type "dict")
 | ins {a C dx:Addr} {fs:List (Str×V)} (e:H a=some (.ins C dx fs)) (cl:Cls K C) (ha:PySem.W.findIn K (.ref C) "__class__"=some (some (.builtin "object.__class__")))
   (hn:PySem.W.specialIn K (.builtin "object.__class__") "__get__"=some (some (.builtin "getset_descriptor.__get__"))) (htk:PySem.W.takesIn K (.builtin "object.__class__")=some true)
   (hm:Wy K C (.type "object")=some true):zaK K H (.ref a) (.ref C)
def zke {x:V}{u t:X9}(I:Inv X bz σ H s)(f:RelV x u)(ty:zaK X.K H x t)(e:PySem.W.kitOne X.K t c=some b)(h:∀tk,Q (.bool b) { s with toks:=tk }) :
  Xj (Xn X.prog X.w) A (call (.builtin "isinstance") [u,c]) Q E s:=by
 cases ty with
 | non=>cases (show u=Ur from f);exact VS PySem.W.kitx_none I.kIn U5 e (λz=>nomatch z) h
 | bl y=>cases (show u=Ov y from f);exact VS PySem.W.kitx_bool I.kIn U5 e (λz=>nomatch z) h
 | int i=>obtain⟨t,q⟩:=(show ∃t,u=Vv i t from f);cases q;exact VS PySem.W.kitx_int I.kIn U5 e (λz=>nomatch z) h
 | str y=>obtain⟨t,q⟩:=(show ∃t,u=Ob y t from f);cases q;exact VS PySem.W.kitx_str I.kIn U5 e (λz=>nomatch z) h
 | flt y=>obtain⟨t,q⟩:=(show ∃t,u=Value.float y t from f);cases q;exact VS PySem.W.kitx_float I.kIn U5 e (λz=>nomatch z) h
 | @lst a j d =>
  cases (show u=WT a from f);obtain⟨_,_,n,_,h1⟩:=(show qH X.prog X.w H s.heap a (.lst j) from I.hok a _ d);exact VS PySem.W.kitx_list I.kIn ⟨_,h1,rfl⟩ e (λz=>nomatch z) h
 | @frz a ob j d =>
  cases (show u=WT a from f);refine fB (λ_ _=>fP λ_ n _ h1=>?_) (show qH X.prog X.w H s.heap a (.frz ob (.lst j)) from I.hok a _ d);exact VS PySem.W.kitx_list I.kIn ⟨_,h1,rfl⟩ e (λz=>nomatch z) h
 | @tup a j d =>
  cases (show u=WT a from f);obtain⟨_,_,_,p⟩:=(show qH X.prog X.w H s.heap a (.tup j) from I.hok a _ d);obtain⟨o,h1,h2,_⟩:=p;exact VS PySem.W.kitx_tuple I.kIn ⟨o,h1,h2⟩ e (λz=>nomatch z) h
 | @dK a g d =>
  cases (show u=WT a from f);obtain⟨_,_,U,_,p⟩:=(show qH X.prog X.w H s.heap a (.dK g) from I.hok a _ d);revert p;refine fM λo v r h1 h2 _=>?_;exact VS PySem.W.kitx_dict I.kIn ⟨o,h1,h2.1⟩ e (λz=>nomatch z) h
 | @dT a g d =>
  cases (show u=WT a from f);refine fG (λ_ _ j _=>fM λo v r h1 h2 _=>?_) (show qH X.prog X.w H s.heap a (.dT g) from I.hok a _ d);exact VS PySem.W.kitx_dict I.kIn ⟨o,h1,h2.1⟩ e (λz=>nomatch z) h
 | @ins a C L fs d m B G l D =>
  cases (show u=WT a from f);obtain⟨M,O,_⟩:=znO I.hok d;obtain⟨N,J,_⟩:=O.look;exact VS (PySem.W.kitx_own (m.get _) m.hd B G l D) I.kIn J e (λz=>nomatch z) h
end
structure ZF (k:Nat)(A:WN):Prop where
 hd:A.handled=none
 dp:A.depth+3*k+5<recursionLimit
 un:A.units+16*k+200<VN
def ZF.mono {j k:Nat}{A:WN}(r:ZF k A)(h:j<=k):ZF j A:=⟨r.hd,by have:=r.dp;lia,by have:=r.un;lia⟩
theorem ZF.deeper {k:Nat}{A:WN}(r:ZF (k+1) A)(a:Env):ZF k (A.deeper a) :=
 ⟨r.hd,by have:=r.dp;show A.depth+1+3*k+5<_;lia,by have:=r.un;show A.units+3+16*k+200<_;lia⟩
theorem ZF.depth {k:Nat}{A:WN}(r:ZF k A):A.depth<recursionLimit:=by have:=r.dp;lia
theorem ZF.units {k:Nat}{A:WN}(r:ZF k A):A.units+64<VN:=by have:=r.un;lia
def zlE:TA:=λ_ H Q=>Q [] H
def zel (d:TE)(tr:TA):TA:=fun a H Q=>d a H λx b=>tr a b λe c=>Q (x::e) c
section
variable {X:Cx}{e:Expr}{es:List Expr}{te:TE}{t:TA}{pos:Pos}
def zd:PA X [] zlE:=λ_ _ _ _ H Q I h=>Calls.spliced_nil ⟨[],H,I,.nil,h⟩
def za (i:PE X e te)(j:PA X es t)(l:WS (e::es) X.env=(false,eval e X.env)::WS es X.env:=by rfl):PA X (e::es) (zel te t):=by
 intro pos a s b H Q I h;rw[l];show Xj _ _ (spliced ((false,eval e X.env)::Sw pos (WS es X.env))) _ _ s;refine RR (thn (i a s b H _ I h) λu s1 ⟨x,c,f,o,m⟩=>?_);exact thn (j pos a s1 b c _ f m) λv r ⟨q,d,g,p,n⟩=>⟨x::q,d,g,.cons o p,n⟩
def zsx (t:TA):TE:=fun c H Q=>t c H λb a=>b.length<=XA/\∀p,a p=none->Q (.ref p) (upd a p (.tup b))
def zsy (t:TA):TE:=fun c H Q=>t c H λb a=>b.length<=XA/\∀p,a p=none->Q (.ref p) (upd a p (.lst b))
def qj {x1}(h:PA X es t):PE X (.Tuple es x1 pos) (zsx t):=by
 intro d s l H Q I g;refine wpAny_Tuple_spliced (thn (h pos d s l H _ I g) λi s1 ⟨j,a,c,r,z,q⟩=>⟨by rw[<- r.length];exact z,?_⟩);have f:a s1.heap.objs.size=none:=c.hok.fresh (XU _);refine⟨.ref s1.heap.objs.size,upd a s1.heap.objs.size (.tup j),c.laid (t':=s1.toks) (λb u e=>XV _ e) (XU _) ?_,rfl,q _ f⟩;exact⟨z,i,r,⟨_,Xc _ rfl,rfl,_,rfl⟩⟩
def zW (h:PA X es t):PE X (.List es pos) (zsy t):=by
 intro d s l H Q I g;refine wpAny_List_spliced (thn (h pos d s l H _ I g) λi s1 ⟨j,a,c,r,z,q⟩=>⟨by rw[<- r.length];exact z,?_⟩);have f:a s1.heap.objs.size=none:=c.hok.fresh (XU _);refine⟨.ref s1.heap.objs.size,upd a s1.heap.objs.size (.lst j),c.laid (t':=s1.toks) (λb u e=>XV _ e) (XU _) ?_,rfl,q _ f⟩;exact⟨z,i,0,r,Xc _ rfl⟩
end
abbrev Sp:=AF->Hp->VK->XK->Prop
abbrev CXT:=List Env->Hp->X7->XK->X9->X7->Prop
structure znP (P:Xm)(w:W3)(K:XX)(mg:Str->Option X9)(base:Heap)(A:WN)(outer:List Env)(s:X7)(H:Hp):Prop where
 frames:A.frames=some outer
 mod:Mod K mg base
 bs:∀b o,base.get? b=some o->s.heap.get? b=some o/\H b=none
 bsz:base.objs.size<=s.heap.objs.size
 funs:s.heap.FunFrames base outer
 frf:∀b∈frs outer,H b=none
 hok:HOk P w H s.heap
 bare:Sr s.gens
def CE (a:List Env)(P:Xm)(w:W3)(H:Hp)(s:X7)(Q:VK)(u:X9)(s':X7):Prop :=
 ∃v b,s'.os=s.os/\Sr s'.gens/\Un (frs a) [] H b s.heap s'.heap/\HOk P w b s'.heap/\RelV v u/\Q v b
def CR (CX:CXT)(a:List Env)(P:Xm)(w:W3)(H:Hp)(s:X7)(Q:VK)(E:XK)(r:Oc)(s':X7):Prop :=
 match r with
 | .ok (.ret u)=>CE a P w H s Q u s'
 | .ok _=>False
 | .error e=>CX a H s E e s'
structure zU (P:Xm)(w:W3)(K:XX)(mg:Str->Option X9)(base:Heap)(CX:CXT)(k:Nat)(f:Addr)(fd:XD)(ps:AE)(sp:Sp):Prop where
 len:∀vs H Q E,sp vs H Q E->vs.length=ps.length
 run:∀(A:WN) (outer:List Env) (s:X7) (H:Hp) (args:Args) (us:List X9) (vs:AF) (Q:VK) (E:XK),ZF k A->znP P w K mg base A outer s H->On s fd args (ps.zip us)->Vals vs us->sp vs H Q E ->
  SV (Xn P w) A (.call (.ref f) args) (CR CX outer P w H s Q E) s
section
variable {X:Cx}{bz:List (Addr×Obj)}{σ:St}{H:Hp}{s s':X7}
def Inv.env0 (I:Inv X bz σ H s):znP X.prog X.w X.K X.mg X.base X.A X.stack s H :=
 ⟨I.ok.frames,I.ok.mod,I.bs,X6 I.ok.bsz I.sz,I.stack,I.stkFree,I.hok,I.bare⟩
def Inv.after {Q:VK}{u:X9}(I:Inv X bz σ H s)(h:CE X.stack X.prog X.w H s Q u s'):EP X bz σ Q u s':=by
 obtain⟨v,f,os,a,un,c,r,q⟩:=h;obtain⟨i,g,d,t,e⟩:=s';obtain rfl:e=s.os:=os;exact⟨v,f,I.call (h':=i) (g':=g) (d':=d) (t':=t) (ch:=[]) un c a (λb z=>absurd z (by simp)),r,q⟩
end
def zph (sp:Sp)(a:AF)(E:XK)(t:TA):TE:=fun d H Q=>t d H λc b=>sp (c++a) b Q E
def Binds (K:XX)(c:XD)(ps:AE)(b:List X9):Prop :=
 ∀(s:X7) (a:List X9),K.In s.heap->(a++b).length=ps.length->On s c ⟨a,[]⟩ (ps.zip (a++b))
def Binds.all {K:XX}{b:XD}{ps:AE}(h:∀a:List X9,a.length=ps.length->bindArgs b ⟨a,[]⟩=pure (ps.zip a)):Binds K b ps []:=λs a _ c=>by
 rw[Xf]at c ⊢;exact .of_eq (h a c)
def Passes (CX:CXT)(X:Cx)(E:XK):Prop:=∀(b:List (Addr×Obj)) (c:St) (H:Hp) (s:X7) (e:X9) (a:X7),Inv X b c H s->CX X.stack H s E e a->X.xe e a
section
variable {X:Cx}{CX:CXT}{k:Nat}{f C:Addr}{fd:XD}{ps:AE}{sp:Sp}{dvs:AF}{ds:List X9}{E:XK}{x m:Str}{p pos apos:Pos}{e o:Expr}{es:List Expr}{ta:TE}{t:TA}
def zp6 {c:List (Addr×Obj)}{d:St}{H:Hp}{s:X7}{Q:VK}{a:List X9}{vs:AF}(F:zU X.prog X.w X.K X.mg X.base CX k f fd ps sp)(n:ZF k X.A)(j:Binds X.K fd ps ds)(l:Vals dvs ds)(o:Passes CX X E)
  (I:Inv X c d H s) (r:Vals vs a) (h:sp (vs++dvs) H Q E):Xj (Xn X.prog X.w) X.A (call (.ref f) a) (EP X c d Q) X.xe s:=by
 have g:Vals (vs++dvs) (a++ds):=r.append l;have m:(a++ds).length=ps.length:=by rw[<- g.length];exact F.len _ _ _ _ h
 refine wpAny_call (SS (F.run X.A X.stack s H ⟨a,[]⟩ (a++ds) (vs++dvs) Q E n I.env0 (j s a I.kIn m) g h) λr p b=>?_);cases r with
 | error e=>exact o c d H s e p I b
 | ok i =>
  cases i with
  | ret u=>exact I.after b
  | next=>exact VC b
  | brk=>exact VC b
  | cont=>exact VC b
def znQ (F:zU X.prog X.w X.K X.mg X.base CX k f fd ps sp)(n:ZF k X.A)(l:Gl X x)(m:X.mg x=some (.ref f))(hk:TU X.K (.ref f)=true)(i:Binds X.K fd ps ds)(j:Vals dvs ds)(o:Passes CX X E)
  (g:PA X (e::es) t) (a:(x==("__debug__":Str))=false:=by decide) (he:WS (e::es) X.env=(false,eval e X.env)::WS es X.env:=by rfl) (b:(Sw pos (WS es X.env)).any (·.1)=false:=by rfl) :
  PE X (.Call (.Name x p) (e::es) [] pos) (zph sp dvs E t):=by
 intro d s u H Q I h;refine Tf (QJ I l m ?_ a);refine PySem.W.callWith_K (h₀:=X.base) I.ok.mod.kin hk (thn (g pos d s u H _ I h) λy s1 ⟨z,v,c,r,q⟩=>⟨c.kIn,?_⟩) he b;exact zp6 F n i j o c r q
end
structure zB (N P:AE)(sc:UB):Prop where
 kind:sc.kind=.function
 co:sc.isCoroutine=false
 gen:sc.isGenerator=false
 nd:N.Nodup
 pre:N.take P.length=P
 par:∀x∈P,sc.names.lookup x=some .local\/sc.names.lookup x=some .cell
 nofree:∀y∈sc.names,y.2 ≠ .free
def bh {N P:AE}{c:UB}(k:c.kind=.function:=by rfl)(a:c.isCoroutine=false:=by rfl)(b:c.isGenerator=false:=by rfl)(p:N.take P.length=P:=by rfl)(h:(N.Nodup)/\(∀x∈P,c.names.lookup x=some .local\/c.names.lookup x=some .cell)/\∀y∈c.names,y.2 ≠ .free:=by decide+kernel):zB N P c:=⟨k,a,b,h.1,p,h.2.1,h.2.2⟩
theorem zem {kindOf:Str->Option Sf}{x:Str}:∀{binds:List (Str×X9)} {m:Str->Option X9},(∀v,(x,v) ∉ binds)->N4 kindOf binds m x=m x
 | [],_,_=>rfl
 | (n,v)::r,m,h=>by
  unfold N4;rw[zem λw a=>h w (XT _ a)];split
  .have:x≠n:=by rintro rfl;exact h v XQ
   simp[this]
  .rfl
theorem zen {kindOf:Str->Option Sf}{x:Str}:∀{binds:List (Str×X9)} {m:Str->Option X9},(∀v,(x,v) ∉ binds)->N3 kindOf binds m x=m x
 | [],_,_=>rfl
 | (n,v)::r,m,h=>by
  unfold N3;rw[zen λw a=>h w (XT _ a)];split
  .rfl
  .have:x≠n:=by rintro rfl;exact h v XQ
   simp[this]
theorem zeo {kindOf:Str->Option Sf}{x:Str}{v:X9}:∀{P:AE} {vs:List X9} {i:Nat} {m:Str->Option X9},P.Nodup->P[i]?=some x->vs[i]?=some v->kindOf x=some .local ->
  N4 kindOf (P.zip vs) m x=some v
 | [],_,_,_,_,h,_,_=>by simp at h
 | _::_,[],_,_,_,_,h,_=>by simp at h
 | p::P,w::vs,0,m,a,h1,h2,hk=>by
  simp at h1 h2;subst h1;subst h2;show N4 kindOf ((p,w)::P.zip vs) m p=_;unfold N4;rw[zem λv b=>(Wp.mp a).1 (PF b).1,bw hk];simp
 | p::P,w::vs,i+1,m,a,h1,h2,hk=>by
  show N4 kindOf ((p,w)::P.zip vs) m x=_;unfold N4;exact zeo (i:=i) (Wp.mp a).2 (by simpa using h1) (by simpa using h2) hk
theorem zep {kindOf:Str->Option Sf}{x:Str}{v:X9}:∀{P:AE} {vs:List X9} {i:Nat} {m:Str->Option X9},P.Nodup->P[i]?=some x->vs[i]?=some v->kindOf x≠some .local ->
  N3 kindOf (P.zip vs) m x=some v
 | [],_,_,_,_,h,_,_=>by simp at h
 | _::_,[],_,_,_,_,h,_=>by simp at h
 | p::P,w::vs,0,m,a,h1,h2,hk=>by
  simp at h1 h2;subst h1;subst h2;show N3 kindOf ((p,w)::P.zip vs) m p=_;unfold N3;rw[zen λv b=>(Wp.mp a).1 (PF b).1,bq hk];simp
 | p::P,w::vs,i+1,m,a,h1,h2,hk=>by
  show N3 kindOf ((p,w)::P.zip vs) m x=_;unfold N3;exact zep (i:=i) (Wp.mp a).2 (by simpa using h1) (by simpa using h2) hk
def start (N:AE)(vs:AF):St:=vs.map some++WU (N.length-vs.length) none
def zgi (CX:CXT)(P:Xm)(w:W3)(K:XX)(mg:Str->Option X9)(base:Heap)(N:AE)(qual:Str)(scope:UB)(f:Addr)(cd:X9)(A:WN)(outer:List Env)(s:X7)(H:Hp)(E:XK):Cx where
 prog:=P
 w:=w
 K:=K
 mg:=mg
 base:=base
 A:=A.deeper (P9 qual scope s.heap.objs.size f cd)
 N:=N
 s₀:=s
 H₀:=H
 env:=P9 qual scope s.heap.objs.size f cd
 outer:=outer
 stack:=P9 qual scope s.heap.objs.size f cd::outer
 ex:=[]
 calm:=true
 fn:=λ_=>true
 pn:=[]
 xe:=λe s'=>Xj (Xn P w) (A.deeper (P9 qual scope s.heap.objs.size f cd)) (leaving (P9 qual scope s.heap.objs.size f cd) e) (λ_ s''=>CX outer H s E e s'') (λe' s''=>CX outer H s E e' s'') s'
def zgj {a:UB}{n:Nat}{x:Str}(h:a.names.lookup x=some .cell):∃c,(RX n a.names []).lookup x=some c:=by
 have q:=PX a.names n [] (.inl h);exact Vo.mp q
def zkf {CX:CXT}{P:Xm}{w:W3}{K:XX}{I:Str->Option X9}{base:Heap}{N ps:AE}{j:Str}{d:UB}{f:Addr}{D:X9}{A:WN}{g:List Env}{s s1:X7}{H:Hp}{E:XK}{J:List X9}{vs:AF}
  (S:zB N ps d) (O:A.handled=none) (l:znP P w K I base A g s H) (hl:vs.length=ps.length) (r:Vals vs J)
  (x:InCallC s s.heap.objs.size (N4 (P9 j d s.heap.objs.size f D).kindOf (ps.zip J) λ_=>none) (RX (s.heap.objs.size+1) d.names []) (N3 (P9 j d s.heap.objs.size f D).kindOf (ps.zip J) λ_=>none) s1) :
  Inv (zgi CX P w K I base N j d f D A g s H E) [] (start N vs) H s1:=by
 have Q:ps.length<=N.length:=by have:=congrArg List.length S.pre;rw[XN]at this;lia
 obtain⟨h1,tk,rfl,hk⟩:=x.done;have m:∀b:Addr,b ∉ (zgi CX P w K I base N j d f D A g s H E).ex:=λb z=>absurd (show b∈([]:List Addr) from z) (by simp);refine⟨⟨l.mod,S.kind,rfl,rfl,XU _,λy z c h1 h2=>?_,λy hy=>?_,λy c _ h=>?_,λ_=>O,Around.frames_deeper l.frames,.inr ⟨rfl,rfl⟩,λb z=>absurd z (m b),l.bs,l.bsz,λb _ _=>m b,λb z=>absurd z (m b),l.funs,l.frf⟩,rfl,l.bare,Un.kept hk,⟨_,x.toInCall.ns,λi y v h1 h2 Y=>?_⟩,λy c h=>⟨_,x.cell y c h⟩,l.hok.fresh (XU _),λy c h=>?_,λp o=>absurd (show p∈([]:List (Addr×Obj)) from o) (by simp),l.hok.kept hk,?_⟩
 .exact name_of_addr x.apart (WC h1) (WC h2)
 .have hy:d.names.lookup y=some .cell\/d.names.lookup y=some .free:=hy;rcases hy with hy | hy
  .exact zgj hy
  .exact absurd rfl (S.nofree _ (WC hy))
 .exact TM (x.above y c (WC h))
 .have G:i<vs.length:=by
   unfold start at h2;by_cases G:i<vs.length
   .exact G
   .rw[VU (by simpa using G)]at h2;rw[List.getElem?_replicate]at h2;split at h2<;>cases h2
  have M:vs[i]?=some v:=by
   unfold start at h2;rw[V7 (by simpa using G),Xq]at h2;cases e:vs[i]? with
   | none=>rw[e]at h2;cases h2
   | some a=>rw[e]at h2;cases h2;rfl
  obtain⟨u,L,U⟩:=r.get M;have o:ps[i]?=some y:=by
   rw[<- S.pre,Tt (by lia)];exact h1
  have B:ps.Nodup:=by rw[<- S.pre];exact S.nd.sublist (T4 _ _)
  refine⟨u,U,?_⟩;rcases S.par y (X8 o) with k | k
  .exact .inl ⟨k,zeo B o L k⟩
  .obtain⟨c,e⟩:=zgj (n:=s.heap.objs.size+1) k;refine .inr ⟨.inl k,c,e,?_⟩;have q:=x.cell y c e;rw[zep B o L (by show d.names.lookup y≠_;rw[k];decide)]at q;exact q
 .exact l.hok.fresh (TM (x.above y c (WC h)))
 .unfold start;show _=N.length;rw[XY,ZB,T9];lia
def zpi {CX:CXT}{P:Xm}{w:W3}{K:XX}{L:Str->Option X9}{base:Heap}{k:Nat}{f:Addr}{name d:Str}{h:Arguments}{i:List Stmt}{a:UB}{dV kV doc pm g ct oc:X9}{an od:Option Addr}
  {Y:Array (Option X9)} {N ps:AE} {sp:Sp} (lk:K.lookup f=some ⟨oc,od,.func (UP name d h i a dV kV doc pm an g ct),Y⟩) (M:SR K g d=true) (S:zB N ps a)
  (len:∀vs H Q E,sp vs H Q E->vs.length=ps.length)
  (m:∀(A:WN) (c:List Env) (s:X7) (H:Hp) (vs:AF) (Q:VK) (E:XK),ZF k (A.deeper (P9 d a s.heap.objs.size f g))->sp vs H Q E ->
   ∃t,PSs (zgi CX P w K L base N d a f g A c s H E) i t/\t { nx:=λ_ l=>Q .non l,rt:=Q } (start N vs) H) :
  zU P w K L base CX (k+1) f (UP name d h i a dV kV doc pm an g ct) ps sp:=by
 refine⟨len,λA c s H aa us vs Q E O B hb r G=>?_⟩;have hl:=len _ _ _ _ G;have KX:K.In s.heap:=B.mod.kin.keeps λb o e=>(B.bs b o e).1;have U:s.heap.NoLimit:=B.mod.nolimit.keeps λb o e=>(B.bs b o e).1;have p:∀y∈ps.zip us,a.names.lookup y.1=some .local\/(a.names.lookup y.1=some .cell/\((RX (s.heap.objs.size+1) a.names []).lookup y.1).isSome=true):=λ⟨n,v⟩ hy=>by
  rcases S.par n (PF hy).1 with q | q
  .exact .inl q
  .exact .inr ⟨q,PX _ _ _ (.inl q)⟩
 refine codeAny_call_function O.depth (KX _ _ lk) rfl S.co S.gen rfl (PySem.W.codeRec_of KX M) (hb _ _ _ _ ?_);refine wpAny_newFunctionEnv_cells S.kind p λab he s1 x=>?_;subst he;refine⟨U.keeps x.toInCall.keep,codeAny_func ?_⟩;obtain⟨t,ht,hq⟩:=m A c s H vs Q E (O.deeper _) G;have I:Inv (zgi CX P w K L base N d a f g A c s H E) [] (start N vs) H s1:=zkf S O.hd B hl r x;refine VY (ht [] s1 (start N vs) H _ I hq) (λfl s' z=>?_) λe s' z=>z;have D:∀{j:St} {l:Hp} {v:V} {u:X9},Inv (zgi CX P w K L base N d a f g A c s H E) [] j l s'->RelV v u->Q v l->CE c P w H s Q u s' :=
  λ{j l v u} J rv q=>⟨v,l,J.os,J.bare,J.base,J.hok,rv,q⟩
 cases fl with
 | ret u =>
  revert z;refine fM λv j l J rv q=>?_;exact D J rv q
 | next =>
  obtain⟨j,l,J,q⟩:=z;exact D (v:=V.non) (u:=Ur) J rfl q
 | brk =>
  obtain⟨_,_,_,q⟩:=z;exact VC q
 | cont =>
  obtain⟨_,_,_,q⟩:=z;exact VC q
section
variable {X:Cx}{x:Str}{p pos:Pos}{e:Expr}{es:List Expr}{t:TA}{id T:String}{r:AF->Hp->VK->Prop}
def tCB (r:AF->Hp->VK->Prop)(t:TA):TE:=fun c H Q=>t c H λb a=>r b a Q
def yM (j:qM X (.builtin id) r)(l:Gl X x)(m:X.mg x=none)(o:UO x=some (.builtin id))(i:PA X (e::es) t)(n:x ≠ "__name__":=by decide)(a:(x==("__debug__":Str))=false:=by decide)
  (he:WS (e::es) X.env=(false,eval e X.env)::WS es X.env:=by rfl) (b:(Sw pos (WS es X.env)).any (·.1)=false:=by rfl):PE X (.Call (.Name x p) (e::es) [] pos) (tCB r t):=by
 intro c s d H Q I h;refine Tf (Y4 I l m o ?_ n a);exact PyProof.Rows.callWith_builtin1 (thn (i pos c s d H _ I h) λv s1 ⟨w,f,g,u,q⟩=>j c s1 d f w v Q g u q) he b
def zkg (j:qM X (.type T) r)(l:Gl X x)(m:X.mg x=none)(o:UO x=some (.type T))(i:PA X (e::es) t)(n:x ≠ "__name__":=by decide)(a:(x==("__debug__":Str))=false:=by decide)
  (he:WS (e::es) X.env=(false,eval e X.env)::WS es X.env:=by rfl) (b:(Sw pos (WS es X.env)).any (·.1)=false:=by rfl):PE X (.Call (.Name x p) (e::es) [] pos) (tCB r t):=by
 intro c s d H Q I h;refine Tf (Y4 I l m o ?_ n a);exact V0 (thn (i pos c s d H _ I h) λv s1 ⟨w,f,g,u,q⟩=>j c s1 d f w v Q g u q) he b
end
end L2
namespace HT
open PySem PyProof.Rows
section
variable {prog:Xm}{w:W3}{A:WN}{E:X9->X7->Prop}{s:X7}
def sIx (n d:Nat):Option Int->Nat
 | none=>d
 | some v=>if v<0 then (v+(n:Int)).toNat else min v.toNat n
def QM (n d k:Nat):sIx n d (some (k:Int))=min k n:=by
 show (if (k:Int)<0 then ((k:Int)+(n:Int)).toNat else min (k:Int).toNat n)=min k n;rw[bq (by lia),V1]
def zp7 (n d:Nat)(b:d<=n)(o:Option Int):sIx n d o<=n:=by
 cases o with
 | none=>exact b
 | some v =>
  show (if v<0 then (v+(n:Int)).toNat else min v.toNat n)<=n;by_cases a:v<0
  .rw[bw a];lia
  .rw[bq a];exact Nat.min_le_right _ _
end
end HT
namespace L2
open PySem PySem.Spec PyProof.Rows
abbrev TO:=St->Hp->(Option Int->Hp->Prop)->Prop
def PO (X:Cx)(e:Option Expr)(t:TO):Prop :=
 ∀(c:List (Addr×Obj)) (s:X7) (a:St) (H:Hp) (Q:Option Int->Hp->Prop),Inv X c a H s->t a H Q ->
  Xj (Xn X.prog X.w) X.A (evalPart e X.env) (λu d=>∃o b,Inv X c a b d/\IsPart u o/\Q o b) X.xe s
def znR:TO:=λ_ H Q=>Q none H
def zry (t:TE):TO:=fun b H Q=>t b H λx a=>∃i,x=.int i/\Q (some i) a
section
variable {X:Cx}{e:Expr}{te:TE}{lo hi:Option Expr}{tl th:TO}{pos p2:Pos}
def Yk:PO X none znR:=by
 intro a s b H Q I h;rw[evalPart_none];exact XR ⟨none,H,I,.none,h⟩
def Yl (h:PE X e te):PO X (some e) (zry te):=by
 intro c s j H Q I d;rw[evalPart_some];refine thn (h c s j H _ I d) λu s1 ⟨x,a,b,g,f⟩=>?_;obtain⟨i,rfl,q⟩:=f;obtain⟨t,rfl⟩:=g;exact⟨some i,a,b,.int i t,q⟩
def SlR (X:Cx)(r:V->Option Int->Option Int->Hp->VK->Prop):Prop :=
 ∀(a:List (Addr×Obj)) (s:X7) (e:St) (H:Hp) (x:V) (v c d:X9) (lo hi:Option Int) (b:Addr) (Q:VK),Inv X a e H s->RelV x v->s.heap.IsSliceOf b c d .none->IsPart c lo->IsPart d hi->r x lo hi H Q ->
  ∃T id,P7 (.type T) "__getitem__"=pure (some (.builtin id))/\s.TypeIs v T/\Xj (Xn X.prog X.w) X.A (OV v (.ref b)) (EP X a e Q) X.xe s
def tSl (r:V->Option Int->Option Int->Hp->VK->Prop)(te:TE)(tl th:TO):TE:=fun a H Q=>te a H λx b=>tl a b λl c=>th a c λu d=>r x l u d Q
def JL {r:V->Option Int->Option Int->Hp->VK->Prop}(E:SlR X r)(he:PE X e te)(D:PO X lo tl)(J:PO X hi th):PE X (.Subscript e (.Slice lo hi none p2) pos) (tSl r te tl th):=by
 intro c s d H Q I h;refine Subscript_ (thn (he c s d H _ I h) λv s1 ⟨x,j,n,Y,N⟩=>?_);refine wpAny_Slice (thn (D c s1 d j _ n N) λf s2 ⟨l,m,o,L,O⟩=>thn (J c s2 d m _ o O) λg a ⟨u,i,p,M,U⟩=>?_);rw[evalPart_none];refine XR ?_;have y:Inv X c d i { a with heap:=a.heap.push { cls:=.type "slice",data:=.fields #[f,g,.none] } }:=p.kept (t':=a.toks) λb ob q=>XV _ q;refine fH (λT id z G B=>?_) (E c { a with heap:=a.heap.push { cls:=.type "slice",data:=.fields #[f,g,.none] } } d i x v f g l u a.heap.objs.size Q y Y (Heap.IsSliceOf.new ..) L M U);show Xj (Xn X.prog X.w) X.A (OD e (.Slice lo hi none p2) v (.ref a.heap.objs.size)) (EP X c d Q) X.xe { a with heap:=a.heap.push { cls:=.type "slice",data:=.fields #[f,g,.none] } };exact tail_any (ops:=[.ref a.heap.objs.size,v]) G z B (by with_unfolding_all rfl)
def Jo (xs:AF)(lo hi:Option Int):AF:=(xs.drop (HT.sIx xs.length 0 lo)).take (HT.sIx xs.length xs.length hi-HT.sIx xs.length 0 lo)
def Y7 (xs:AF)(lo hi:Option Int):(Jo xs lo hi).length<=xs.length:=by
 unfold Jo;rw[XN,VP];lia
end
def ixN (n:Nat)(i:Int):Option Nat:=if 0<=i then (if i<n then some i.toNat else none) else if -(n:Int)<=i then some (i+n).toNat else none
def atI {α:Type}(xs:List α)(i:Int):Option α:=(ixN xs.length i).bind λj=>xs[j]?
def zja {n:Nat}{i:Int}{j:Nat}(h:ixN n i=some j):seqIndex? i n=some j/\j<n/\-(n:Int)<=i/\i<n:=by
 unfold ixN at h;by_cases h0:0<=i
 .rw[bw h0]at h;by_cases h1:i<n
  .rw[bw h1]at h;have e:i.toNat=j:=Option.some.inj h;exact⟨by rw[Pm h0 h1,e],by lia,by lia,h1⟩
  .rw[bq h1]at h;cases h
 .rw[bq h0]at h;by_cases h1:-(n:Int)<=i
  .rw[bw h1]at h;have e:(i+n).toNat=j:=Option.some.inj h;exact⟨by rw[P1 (by lia) h1,e],by lia,h1,by lia⟩
  .rw[bq h1]at h;cases h
def zcy {α:Type}{xs:List α}{i:Int}{v:α}(h:atI xs i=some v):∃j,seqIndex? i xs.length=some j/\xs[j]?=some v/\j<xs.length/\-(xs.length:Int)<=i/\i<xs.length:=by
 unfold atI at h;cases e:ixN xs.length i with
 | none=>rw[e]at h;cases h
 | some j =>
  rw[e]at h;obtain⟨h1,h2,a,b⟩:=zja e;exact⟨j,h1,h,h2,a,b⟩
def j3 {α:Type}{xs:List α}{j:Nat}{v:α}(h:xs[j]?=some v):atI xs (j:Int)=some v:=by
 have a:j<xs.length:=(X4.mp h).1;have e:ixN xs.length (j:Int)=some j:=by
  unfold ixN;rw[bw (by lia),bw (by lia)];simp
 unfold atI;rw[e];exact h
def znS (b:Expr):Prop:=∀o i,Pl b false o i=operate [o,i] (OV o i)
def IxR (X:Cx)(r:R2):Prop :=
 ∀(b a:Expr) (c:List (Addr×Obj)) (s:X7) (d:St) (H:Hp) (x y:V) (v u:X9) (Q:VK),Inv X c d H s->RelV x v->RelV y u->r x y H Q ->
  Pl a false v u=operate [v,u] (OV v u)->Xj (Xn X.prog X.w) X.A (OD b a v u) (EP X c d Q) X.xe s
def MtR (X:Cx)(id:String)(r:V->AF->Hp->VK->Prop):Prop :=
 ∀(a:List (Addr×Obj)) (s:X7) (d:St) (H:Hp) (x:V) (c:AF) (v:X9) (b:List X9) (Q:VK),Inv X a d H s->RelV x v->Vals c b->r x c H Q ->
  Xj (Xn X.prog X.w) X.A (call (.builtin id) (v::b)) (EP X a d Q) X.xe s
section
variable {X:Cx}{a b:Expr}{ta tb:TE}{pos:Pos}
def zF {r:R2}(i:IxR X r)(f:PE X a ta)(g:PE X b tb)(j:znS b):PE X (.Subscript a b pos) (tOp r ta tb):=by
 intro e s o H Q I h;exact Subscript_ (zp0 f g I h λv u n x y c d l m q=>i a b e n o c x y v u Q d l m q (j _ _))
def zp8 (K:XX):R2:=λx y H Q=>∃p a i v,x=.ref p/\y=.int i/\SqL K H p a/\atI a i=some v/\Q v H
def zrz (K:XX):R2:=λx y H Q=>∃p a i v,x=.ref p/\y=.int i/\SqT K H p a/\atI a i=some v/\Q v H
def zrA:R2:=λx y H Q=>∃z i c,x=.str z/\y=.int i/\z.length<=XA/\atI z.cps.toList i=some c/\Q (.str ⟨#[c]⟩) H
def ji:IxR X (zp8 X.K):=by
 intro g f l s o H x y v u Q I G J h n;revert h;refine fS λp U i z z0 z1 E he q=>?_;subst z0 z1;cases G;obtain⟨t,rfl⟩:=J;obtain⟨c,r,d,O⟩:=I.list E;refine fU (λj h1 h2 M A B=>?_) (zcy he);obtain⟨w,m,e⟩:=r.get h2;have D:=r.length;have N:=Y6;have a:EP X l o Q w s:=⟨z,H,I,e,q⟩;by_cases h0:0<=i
 .have b:i.toNat=j:=by
   rw[Pm h0 B]at h1;exact Option.some.inj h1
  exact item_listR d.isList h0 (by lia) (by rw[b];simpa using m) a n
 .have b:(i+(c.toArray.size:Int)).toNat=j:=by
   rw[P1 (by lia) A]at h1;rw[Xu,<- D];exact Option.some.inj h1
  exact PV (x:=w) d.isList.typeIs slot_list_getitem.lookup
   (PU (Q:=λr L=>r=w/\EP X l o Q r L) d.isList (by lia) (by rw[Xu]<;>lia) (by lia) (by rw[b];simpa using m) ⟨rfl,a⟩) n
def qN:IxR X (zrz X.K):=by
 intro d c e s g H x y v u Q I B D h o;revert h;refine fS λp O i z z0 z1 n he q=>?_;subst z0 z1;cases B;obtain⟨t,rfl⟩:=D;obtain⟨A,r,f,N⟩:=I.tuple n;refine fU (λj h1 h2 G J L=>?_) (zcy he);obtain⟨w,l,b⟩:=r.get h2;have m:=r.length;have M:=Y6;have a:EP X e g Q w s:=⟨z,H,I,b,q⟩;exact PV (x:=w) f.typeIs slot_tuple_getitem.lookup
  (getItem_tuple (j:=j) (Q:=λr E=>r=w/\EP X e g Q r E) f (by lia) (by lia) (by rw[Xu,<- m];exact h1) (by simpa using l) ⟨rfl,a⟩) o
def zhP:IxR X zrA:=by
 intro b a p s D H x y v u Q I n o h m;revert h;refine fC λz i c z0 z1 A he q=>?_;subst z0 z1;obtain⟨t,rfl⟩:=n;obtain⟨B,rfl⟩:=o;refine fU (λj h1 h2 r f g=>?_) (zcy he);have l:z.cps.toList.length=z.length:=by simp[Str.length]
 rw[l]at h1 f g;have w:=Y6;exact tail_any (typeIs_str s z t) slot_str_getitem.lookup (getItem_str (c:=c) (by
  have d:decide (i < -(2^63:Int))=false:=bf (by lia);have e:decide (i >= 2^63)=false:=bf (by lia);rw[d,e,Bool.or_false]) (by rw[h1];simpa using h2) ⟨.str ⟨#[c]⟩,H,I.tok _,⟨_,rfl⟩,q⟩) m
def zhQ (a:List X9)(n j:Nat)(u:X9):Vh (·.setIfInBounds j u) { cls:=.type "list",data:=.seq a.toArray n }={ cls:=.type "list",data:=.seq (a.set j u).toArray n }:=by
 simp[Vh]
theorem Inv.lst {b:List (Addr×Obj)}{c:St}{H:Hp}{s:X7}{p:Addr}{xs:AF}(I:Inv X b c H s)(h:H p=some (.lst xs)) :
  ∃(a:List X9) (n:Nat),Vals xs a/\s.heap.get? p=some { cls:=.type "list",data:=.seq a.toArray n }/\xs.length<=XA:=by
 obtain⟨z,a,n,r,e⟩:=I.hok p _ h;exact⟨a,n,r,e,z⟩
def Inv.lstUpd {d:List (Addr×Obj)}{i:St}{H:Hp}{s:X7}{p:Addr}{xs ys:AF}{a its':List X9}{n c:Nat}{f:Obj->Obj}(I:Inv X d i H s)(h:H p=some (.lst xs))
  (l:s.heap.get? p=some { cls:=.type "list",data:=.seq a.toArray n }) (g:f { cls:=.type "list",data:=.seq a.toArray n }={ cls:=.type "list",data:=.seq its'.toArray c }) (r:Vals ys its') (m:ys.length<=XA) (t:Nat) :
  Inv X d i (upd H p (.lst ys)) { s with heap:=s.heap.update p f,toks:=t }:=by
 have e:(s.heap.update p f).get? p=some { cls:=.type "list",data:=.seq its'.toArray c }:=by
  rw[Wj f l (by rw[g]<;>rfl),g]
 refine I.write (x:=p) (e:=p) (by rw[h];trivial) (.inl rfl) (λb u j q=>(Ui _ _ (UY j)).trans q) ⟨_,e⟩ ?_;exact⟨m,its',c,r,e⟩
def zrB:V->V->V->Hp->(Hp->Prop)->Prop:=λo i v H Q=>∃p a k j,o=.ref p/\i=.int k/\H p=some (.lst a)/\ixN a.length k=some j/\Q (upd H p (.lst (a.set j v)))
def set_list:zrp X zrB:=by
 intro l s B H o i v G E u Q I y x z h;revert h;refine fS λp A k j z0 z1 g m q=>?_;subst z0 z1;cases y;obtain⟨t,rfl⟩:=x;obtain⟨a,n,r,c,w⟩:=I.lst g;obtain⟨h1,h2,e,f⟩:=zja m;have b:=r.length;have D:=Y6;have d:Inv X l B (upd H p (.lst (A.set j v))) { s with heap:=s.heap.update p (Vh (·.setIfInBounds j u)) } :=
  I.lstUpd g c (zhQ a n j u) (r.set z j) (by rw[Sb];exact w) s.toks
 by_cases h0:0<=k
 .have hk:k.toNat=j:=by
   rw[Pm h0 f]at h1;exact Option.some.inj h1
  exact PySem.W.ki_setAt c h0 (by lia) (by rw[Xu,<- b];exact f) (by rw[hk];exact⟨_,d,q⟩)
 .have hk:(k+(a.toArray.size:Int)).toNat=j:=by
   rw[P1 (by lia) e]at h1;rw[Xu,<- b];exact Option.some.inj h1
  exact PySem.W.ki_setBack c (by lia) (by rw[Xu,<- b];exact e) (by lia) (by rw[hk];exact⟨_,d,q⟩)
def zfm (lo a:Option Int)(n:Nat):(SY lo a none n).1=((HT.sIx n 0 lo:Nat):Int)/\(SY lo a none n).2.1=((HT.sIx n n a:Nat):Int)/\(SY lo a none n).2.2=1:=by
 refine⟨?_,?_,rfl⟩
 .cases lo with
  | none=>simp[SY,HT.sIx]
  | some i =>
   simp only[SY,HT.sIx,Option.getD_none,show (1:Int)>0 by decide,if_true];by_cases h:i<0
   .simp only[h,if_true]<;>lia
   .simp only[h,if_false]<;>lia
 .cases a with
  | none=>simp[SY,HT.sIx]
  | some i =>
   simp only[SY,HT.sIx,Option.getD_none,show (1:Int)>0 by decide,if_true];by_cases h:i<0
   .simp only[h,if_true]<;>lia
   .simp only[h,if_false]<;>lia
def zdX (a:List X9)(lo b:Option Int):slicePick a.toArray lo b none=((a.drop (HT.sIx a.length 0 lo)).take (HT.sIx a.length a.length b-HT.sIx a.length 0 lo)).toArray:=by
 obtain⟨h1,h2,c⟩:=zfm lo b a.toArray.size;unfold slicePick;rw[h1,h2,c];simp only[sliceRange_one,pick_run,Xu]<;>rfl
def zsz (K:XX):V->Option Int->Option Int->Hp->VK->Prop:=λx lo c H Q=>∃a b,x=.ref a/\SqL K H a b/\∀p,H p=none->Q (.ref p) (upd H p (.lst (Jo b lo c)))
def zaL:SlR X (zsz X.K):=by
 intro u s A H x v y z lo e w Q I p g m n h;revert h;refine fH λa c z0 i q=>?_;subst z0;cases p;obtain⟨l,r,f,j⟩:=I.list i;have d:=r.length;refine⟨"list",_,slot_list_getitem.lookup,f.isList.typeIs,?_⟩;refine wpAny_getItem_list_slice f.isList g m n .none (by simp) ?_ (by rw[Xu]<;>lia);rw[zdX,<- d];refine⟨.ref s.heap.objs.size,_,I.laid (t':=s.toks) (o:=.lst (Jo c lo e)) (λb ob q=>XV _ q) (XU _) ?_,rfl,q _ (I.hok.fresh (XU _))⟩;exact⟨X6 (Y7 c lo e) j,_,0,(r.drop (HT.sIx c.length 0 lo)).take (HT.sIx c.length c.length e-HT.sIx c.length 0 lo),Xc _ rfl⟩
def zaM:V->Bool
 | .non=>true
 | .bl _=>true
 | .int _=>true
 | .str _=>true
 | _=>false
def eqV:V->V->Bool
 | .non,.non=>true
 | .bl a,.bl b=>a==b
 | .bl a,.int b=>(if a then 1 else 0)==b
 | .int a,.bl b=>a==(if b then 1 else 0)
 | .int a,.int b=>a==b
 | .str a,.str b=>a==b
 | _,_=>false
def zp9 {A:WN}{s:X7}{y x:V}{u v:X9}(f:RelV y u)(c:RelV x v)(g:zaM y=true)(e:zaM x=true):SeqAt.EqAt A s u v (eqV y x):=by
 cases y with
 | non =>
  cases f;cases x with
  | non=>cases c;exact SeqAt.EqAt.same _
  | bl b=>cases c;exact SeqAt.EqAt.none_bool b
  | int b=>obtain⟨t,rfl⟩:=c;exact SeqAt.EqAt.none_int b t
  | str b=>obtain⟨t,rfl⟩:=c;exact SeqAt.EqAt.none_str b t
  | _=>exact absurd (show false=true from e) XS
 | bl a =>
  cases f;cases x with
  | non=>cases c;exact SeqAt.EqAt.bool_none a
  | bl b=>cases c;exact SeqAt.EqAt.bool_bool a b
  | int b=>obtain⟨t,rfl⟩:=c;exact SeqAt.EqAt.bool_int a b t
  | str b=>obtain⟨t,rfl⟩:=c;exact SeqAt.EqAt.bool_str a b t
  | _=>exact absurd (show false=true from e) XS
 | int a =>
  obtain⟨d,rfl⟩:=f;cases x with
  | non=>cases c;exact SeqAt.EqAt.int_none a d
  | bl b=>cases c;exact SeqAt.EqAt.int_bool a d b
  | int b=>obtain⟨t,rfl⟩:=c;exact SeqAt.EqAt.int_int a d b t
  | str b=>obtain⟨t,rfl⟩:=c;exact SeqAt.EqAt.int_str a d b t
  | _=>exact absurd (show false=true from e) XS
 | str a =>
  obtain⟨d,rfl⟩:=f;cases x with
  | non=>cases c;exact SeqAt.EqAt.str_none a d
  | bl b=>cases c;exact SeqAt.EqAt.str_bool a d b
  | int b=>obtain⟨t,rfl⟩:=c;exact SeqAt.EqAt.str_int a d b t
  | str b=>obtain⟨t,rfl⟩:=c;exact SeqAt.EqAt.str_str a d b t
  | _=>exact absurd (show false=true from e) XS
 | _=>exact absurd (show false=true from g) XS
def eqU (x:V)(u:X9):Bool:=match u with
 | .none=>eqV .non x
 | .bool b=>eqV (.bl b) x
 | .int i _=>eqV (.int i) x
 | .str z _=>eqV (.str z) x
 | _=>false
def zlF {x y:V}{u:X9}(r:RelV y u)(f:zaM y=true):eqU x u=eqV y x:=by
 cases y with
 | non=>cases r;rfl
 | bl b=>cases r;rfl
 | int i=>obtain⟨t,rfl⟩:=r;rfl
 | str z=>obtain⟨t,rfl⟩:=r;rfl
 | _=>exact absurd (show false=true from f) XS
theorem zaN {x:V}:∀{xs:AF} {a:List X9},Vals xs a->xs.all zaM=true->a.any (eqU x)=xs.any λy=>eqV y x
 | _,_,.nil,_=>rfl
 | y::xs,u::a,.cons r t,f=>by
  rw[Rv,WH]at f;rw[So,So,zlF r f.1,zaN t f.2]
theorem Y8 {A:WN}{s:X7}{x:V}{v:X9}(c:RelV x v)(b:zaM x=true):∀{xs:AF} {a:List X9},Vals xs a->xs.all zaM=true->∀u∈a,SeqAt.EqAt A s u v (eqU x u)
 | _,_,.nil,_=>λu hu=>by cases hu
 | y::xs,u::a,.cons r t,f=>λd hu=>by
  rw[Rv,WH]at f;rcases XH.mp hu with rfl | hu
  .rw[zlF r f.1];exact zp9 r c f.1 b
  .exact Y8 c b t f.2 d hu
def inV (x:V)(xs:AF):Bool:=xs.any λy=>eqV y x
def rIn (K:XX)(neg:Bool):R2:=λx y H Q=>∃p a,y=.ref p/\(SqL K H p a\/SqT K H p a)/\zaM x=true/\a.all zaM=true/\Q (.bl (if neg then !inV x a else inV x a)) H
def zkh:OpR X (Wr .In) (rIn X.K false):=by
 intro i s l H x y v u Q I e g h;revert h;refine fD λp j z0 hq d fs q=>?_;subst z0;cases g;rcases hq with hq | hq
 .obtain⟨a,r,c,f⟩:=I.list hq;refine SeqAt.in_listAt (eqU x) c.isList (λw b=>Y8 e d r fs w (by simpa using b)) ⟨.bl _,H,I,rfl,?_⟩;rw[show a.toArray.any (eqU x)=a.any (eqU x) by simp,zaN r fs];exact q
 .obtain⟨a,r,c,f⟩:=I.tuple hq;refine SeqAt.in_tupleAt (eqU x) c (λw b=>Y8 e d r fs w (by simpa using b)) ⟨.bl _,H,I,rfl,?_⟩;rw[show a.toArray.any (eqU x)=a.any (eqU x) by simp,zaN r fs];exact q
def zfn:OpR X (Wr .NotIn) (rIn X.K true):=by
 intro i s l H x y v u Q I e g h;revert h;refine fD λp j z0 hq d fs q=>?_;subst z0;cases g;rcases hq with hq | hq
 .obtain⟨a,r,c,f⟩:=I.list hq;refine SeqAt.notIn_listAt (eqU x) c.isList (λw b=>Y8 e d r fs w (by simpa using b)) ⟨.bl _,H,I,rfl,?_⟩;rw[show a.toArray.any (eqU x)=a.any (eqU x) by simp,zaN r fs];exact q
 .obtain⟨a,r,c,f⟩:=I.tuple hq;refine SeqAt.notIn_tupleAt (eqU x) c (λw b=>Y8 e d r fs w (by simpa using b)) ⟨.bl _,H,I,rfl,?_⟩;rw[show a.toArray.any (eqU x)=a.any (eqU x) by simp,zaN r fs];exact q
def qe:qM X (.builtin "len") (λxs H Q=>∃p ys,xs=[.ref p]/\(SqL X.K H p ys\/SqT X.K H p ys)/\Q (.int ys.length) H):=by
 intro g s l H xs j Q I r h;obtain⟨p,ys,rfl,hq,q⟩:=h;obtain⟨u,rfl,f⟩:=vals1 r;cases f;have i:=Y6;rcases hq with hq | hq
 .obtain⟨b,d,c,e⟩:=I.list hq;have a:=d.length;exact Calls.call_len_list c.isList (by simp only[Xu]<;>lia) ⟨.int ys.length,H,I.tok _,⟨s.toks+1,by rw[Xu,a]⟩,q⟩
 .obtain⟨b,d,c,e⟩:=I.tuple hq;have a:=d.length;exact len_tuple c (by simp only[Xu]<;>lia) ⟨.int ys.length,H,I.tok _,⟨s.toks+1,by rw[Xu,a]⟩,q⟩
def zaO:qM X (.builtin "len") (λxs H Q=>∃z,xs=[.str z]/\z.length<=XA/\Q (.int z.length) H):=by
 intro a s e H xs d Q I r h;obtain⟨z,rfl,c,q⟩:=h;obtain⟨u,rfl,t,rfl⟩:=vals1 r;have b:=Y6;exact len_str (by lia) ⟨.int z.length,H,I.tok _,⟨_,rfl⟩,q⟩
def zfo:qM X (.type "list") (λxs H Q=>∃p ys,xs=[.ref p]/\(SqL X.K H p ys\/SqT X.K H p ys)/\∀l,H l=none->Q (.ref l) (upd H l (.lst ys))):=by
 intro B s E H xs G Q I r h;obtain⟨p,ys,rfl,hq,q⟩:=h;obtain⟨u,rfl,D⟩:=vals1 r;cases D;have g:∀(a:List X9),Vals ys a->ys.length<=XA->∀(c:Heap) (d:Nat),(∀b A,s.heap.get? b=some A->c.get? b=some A) ->
   c.get? s.heap.objs.size=some { cls:=.type "list",dict:=none,data:=.seq a.toArray d,slots:=#[] }->EP X B E Q (.ref s.heap.objs.size) { s with heap:=c }:=λa f j c d m e =>
  ⟨.ref s.heap.objs.size,_,I.laid (t':=s.toks) m (XU _) (show qH X.prog X.w _ c _ (.lst ys) from ⟨j,a,d,f,e⟩),rfl,q _ (I.hok.fresh (XU _))⟩
 rcases hq with hq | hq
 .obtain⟨a,f,z,j⟩:=I.list hq;have i:=f.length;obtain⟨o,y,v,n,x⟩:=z.isList;exact call_list_seq p (.inl rfl) y v x (λc d m e=>g a f j c d m e) (by simp only[Xu]<;>lia)
 .obtain⟨a,f,z,j⟩:=I.tuple hq;have i:=f.length;obtain⟨o,y,v,n,x⟩:=z;exact call_list_seq p (.inr rfl) y v x (λc d m e=>g a f j c d m e) (by simp only[Xu]<;>lia)
def tyV (K:XX)(T:String)(x:V)(H:Hp):Prop:=match x with
 | .str _=>T="str"
 | .int _=>T="int"
 | .ref p=>(T="list"/\∃b,SqL K H p b)\/(T="tuple"/\∃o,K.lookup p=some o/\o.cls=.type "tuple"/\o.dict=none) \/
   (T="dict"/\((∃a,H p=some (.dK a))\/∃a,H p=some (.dT a)))\/(T="set"/\∃S n,H p=some (.set S n))
 | _=>False
def zqa {j:List (Addr×Obj)}{u:St}{H:Hp}{s:X7}{T:String}{x:V}{v:X9}(I:Inv X j u H s)(r:RelV x v)(ty:tyV X.K T x H) :
  s.TypeIs v T/\∀a,v=.ref a->∃ob,s.heap.get? a=some ob/\ob.dict=none:=by
 cases x with
 | str z =>
  obtain⟨t,rfl⟩:=r;cases (show T="str" from ty);exact⟨typeIs_str s z t,λ_ e=>nomatch e⟩
 | int i =>
  obtain⟨t,rfl⟩:=r;cases (show T="int" from ty);exact⟨typeIs_int s i t,λ_ e=>nomatch e⟩
 | ref p =>
  cases r;rcases ty with ⟨rfl,w,m⟩ | ⟨rfl,o,hk,l,f⟩ | ⟨rfl,hk⟩ | ⟨rfl,S,n,hk⟩
  .obtain⟨q,_,h,_⟩:=I.list m;refine⟨h.isList.typeIs,λa e=>?_⟩;cases e;obtain⟨o,n,e,c,f,_⟩:=h;exact⟨o,e,f⟩
  .refine⟨⟨o,I.kIn p o hk,l⟩,λa e=>?_⟩;cases e;exact⟨o,I.kIn _ o hk,f⟩
  .have z:∃o,s.heap.get? p=some o/\o.ExactDict:=by
    rcases hk with ⟨g,hk⟩ | ⟨g,hk⟩
    .refine fG (λ_ _ _ _=>fM λo _ _ e b _=>?_) (I.hok p _ hk);exact⟨o,e,b⟩
    .refine fG (λ_ _ _ _=>fM λo _ _ e b _=>?_) (I.hok p _ hk);exact⟨o,e,b⟩
   obtain⟨o,e,b⟩:=z;refine⟨⟨o,e,b.1⟩,λa d=>?_⟩;cases d;exact⟨o,e,b.2.1⟩
  .refine fQ (λo _ _ _=>fB λe b _=>?_) (I.hok p _ hk);refine⟨⟨o,e,b.1⟩,λa d=>?_⟩;cases d;exact⟨o,e,b.2.1⟩
 | _=>exact VC ty
def tBM (K:XX)(T:String)(r:V->AF->Hp->VK->Prop)(d:TE)(t:TA):TE:=fun b H Q=>d b H λx a=>tyV K T x a/\t b a λe c=>r x e c Q
variable {o e:Expr}{es:List Expr}{to:TE}{t:TA}{name:Str}{apos cpos:Pos}{T id:String}{r:V->AF->Hp->VK->Prop}
def Ze (B:PlainAttrs T)(f:Slot T name id)(i:typeOf (.builtin id)=pure (.type "method_descriptor"))(y:MtR X id r)(z:PE X o to)(w:PA X (e::es) t)
  (b:attributeBase o name X.env (eval o X.env)=eval o X.env:=by rfl)
  (d:((Sw cpos (WS (e::es) X.env)).all (λx=>!x.1)&&(backToKw cpos (keywordEach [] X.env)).all (λx=>x.1.isSome)
   && decide ((e::es).length+([]:List N6).length+(if ([]:List N6).isEmpty then 0 else 1)<30))=true:=by rfl)
  (c:(apos.endLine==cpos.line)=true:=by rfl) (A:WS (e::es) X.env=(false,eval e X.env)::WS es X.env:=by rfl) (a:(Sw cpos (WS es X.env)).any (·.1)=false:=by rfl) :
  PE X (.Call (.Attribute o name apos) (e::es) [] cpos) (tBM X.K T r to t):=by
 intro g s j H Q I h;refine wpAny_Call_method_late b d c rfl (thn (z g s j H _ I h) λv s1 ⟨x,p,l,n,ty,D⟩=>?_);obtain⟨h1,h2⟩:=zqa l n ty;refine eK T id B f i h1 h2 ?_;have m:=w cpos g s1 j p _ l D;rw[A]at m ⊢;refine PQ (by show (false || (Sw cpos (WS es X.env)).any (·.1))=false;rw[a]<;>rfl) (Sd ?_);exact thn m λL J ⟨M,q,u,G,E⟩=>y g J j q x M v L Q u n G E
/- xs.append(e),list.index on a module's tuple .. are MtR facts of 06m -/
end
def MtM (X:Cx)(id:String)(r:V->AF->Hp->VK->Prop):Prop :=
 ∀(a:List (Addr×Obj)) (s:X7) (d:St) (H:Hp) (x:V) (c:AF) (v:X9) (b:List X9) (Q:VK),Inv X a d H s->RelV x v->Vals c b->r x c H Q ->
  Xj (Xn X.prog X.w) X.A (call (.builtin id) (v::b)) (EP X a d Q) X.xe s
theorem Vals.one:∀{x:V} {a:List X9},Vals [x] a->∃u,a=[u]/\RelV x u
 | _,_,.cons r .nil=>⟨_,rfl,r⟩
theorem Vals.rep {xs:AF}{a:List X9}(h:Vals xs a):∀k:Nat,Vals (WU k xs).flatten (WU k a).flatten
 | 0=>.nil
 | k+1=>by
  rw[Vf,Vf,Wz,Wz];exact Vals.append h (Vals.rep h k)
theorem foldl_rep (b:List X9):∀(k:Nat) (a:List X9),
  List.foldl (λd f=>d++f) a.toArray (WU k b.toArray)=(a++(WU k b).flatten).toArray
 | 0,a=>by simp
 | k+1,a=>by
  have e:a.toArray++b.toArray=(a++b).toArray:=by simp
  have c:(a++b)++(WU k b).flatten=a++(WU (k+1) b).flatten:=by
   rw[Vf,Wz,W2]
  rw[<- c,<- foldl_rep b k (a++b),<- e,Vf,Wc]
section
variable {X:Cx}{bz:List (Addr×Obj)}{σ:St}{H:Hp}{s:X7}{l b:Addr}{xs ys zs:AF}
def Inv.lset {a its':List X9}{n:Nat}{f:Array X9->Array X9}{t':Nat}(I:Inv X bz σ H s)(b:H l=some (.lst xs))
  (e:s.heap.get? l=some { cls:=.type "list",data:=.seq a.toArray n }) (d:f a.toArray=its'.toArray) (h:Vals ys its') (i:ys.length<=XA) :
  Inv X bz σ (upd H l (.lst ys)) { s with heap:=s.heap.update l (Vh f),toks:=t' }:=by
 have q:=PySem.IsL.update e f;rw[d]at q;refine I.write (x:=l) (e:=l) (by rw[b];exact trivial) (.inl rfl) (λj u c g=>(Ui s.heap (Vh f) (UY c)).trans g) ⟨_,q⟩ ?_;exact⟨i,its',_,h,q⟩
def Inv.lnew {a:List X9}{t':Nat}(I:Inv X bz σ H s)(b:Vals ys a)(hz:ys.length<=XA) :
  Inv X bz σ (upd H s.heap.objs.size (.lst ys)) { s with heap:=s.heap.push { cls:=.type "list",data:=.seq a.toArray },toks:=t' } :=
 I.laid (λ_ _ q=>XV _ q) (XU _) ⟨hz,a,0,b,Xc _ rfl⟩
theorem Inv.fresh (I:Inv X bz σ H s):H s.heap.objs.size=none:=I.hok.fresh (XU _)
def Inv.lstM (I:Inv X bz σ H s)(b:H l=some (.lst xs)):xs.length<=XA/\∃(a:List X9) (n:Nat),Vals xs a/\xs.length=a.length/\s.heap.get? l=some { cls:=.type "list",data:=.seq a.toArray n }:=by
 obtain⟨z,a,n,r,e⟩:=I.hok l _ b;exact⟨z,a,n,r,r.length,e⟩
def zgk {n:Nat}(h:n<=XA):UI n=false:=by
 unfold UI;exact bf (by lia)
end
section
variable {X:Cx}
def znT:V->AF->Hp->VK->Prop:=λx b H Q=>∃l a y,x=.ref l/\b=[y]/\H l=some (.lst a)/\a.length<XA/\Q .non (upd H l (.lst (a++[y])))
def JC:MtM X "list.append" znT:=by
 intro g s w H x o v m Q I f d h;revert h;refine fC λl p y z0 z1 b j q=>?_;subst z0 z1;cases f;obtain⟨u,rfl,c⟩:=d.one;refine gg (λz a n r i e=>?_) (I.lstM b);refine P6 F.slot_list_append ⟨_,e,rfl⟩ F.entry_list_append (F.args_list_append_2 _ _) (PySem.list_append l a.toArray n u (by rw[Xu];lia)) ⟨e,?_⟩;refine⟨.non,_,I.lset (its':=a++[u]) b e (by simp) (r.append (.cons c .nil)) ?_,rfl,q⟩;rw[XY,Py];lia
def znU:V->AF->Hp->VK->Prop:=λx d H Q=>∃l b a c,x=.ref l/\d=[.ref b]/\H l=some (.lst a)/\H b=some (.lst c)/\a.length+c.length<=XA/\Q .non (upd H l (.lst (a++c)))
def QN:MtM X "list.extend" znU:=by
 intro B s O H x J v G Q I A y h;revert h;refine fW λl b L N z0 z1 g j E q=>?_;subst z0 z1;cases A;obtain⟨u,rfl,w⟩:=y.one;cases w;refine gg (λz c n r D e=>?_) (I.lstM g);refine gg (λM a o p m i=>?_) (I.lstM j);have f:c.toArray.size+a.toArray.size<=XA:=by rw[Xu,Xu];lia
 have d:¬ (!c.toArray.isEmpty&&UI (c.toArray.size+a.toArray.size))=true:=by
  rw[zgk f,Pg];exact XS
 refine P6 F.slot_list_extend ⟨_,e,rfl⟩ F.entry_list_extend (F.args_list_extend_2 _ _)
  (AutoSeq1.list_extend_list_list_0 l c.toArray n b a.toArray o d (by rw[Xu];lia) (by lia)) ⟨e,i,?_⟩
 refine⟨.non,_,I.lset (its':=c++a) g e (by simp) (r.append p) ?_,rfl,q⟩;rw[XY];lia
def zsA:R2:=λx y H Q=>∃l b a c,x=.ref l/\y=.ref b/\H l=some (.lst a)/\H b=some (.lst c)/\a.length+c.length<=XA/\∀p,H p=none->Q (.ref p) (upd H p (.lst (a++c)))
def yZ:OpR X (TY .Add) zsA:=by
 intro w s L H x y v u Q I o p h;revert h;refine fW λl b E J z0 z1 i g B q=>?_;subst z0 z1;cases o;cases p;refine gg (λz c n r A e=>?_) (I.lstM i);refine gg (λG a D m j d=>?_) (I.lstM g);refine PySem.P.add_list e d ?_ (by rw[Xu,Xu];lia);have f:c.toArray++a.toArray=(c++a).toArray:=by simp
 rw[f];exact⟨.ref _,_,I.lnew (t':=s.toks) (r.append m) (by rw[XY];lia),rfl,q _ I.fresh⟩
def zsB:R2:=λx y H Q=>∃l k a,x=.ref l/\y=.int k/\H l=some (.lst a)/\-(2^63)<=k/\k<2^63/\a.length*k.toNat<=XA /\
 ∀p,H p=none->Q (.ref p) (upd H p (.lst (WU k.toNat a).flatten))
def len_rep {α:Type}(xs:List α)(k:Nat):(WU k xs).flatten.length=k*xs.length:=by
 induction k with
 | zero=>simp
 | succ k a=>rw[Vf,Wz,XY,a,Nat.succ_mul,Nat.add_comm]
def zlG:OpR X (TY .Mult) zsB:=by
 intro J s N H x y v u Q I D E h;revert h;refine fC λl k M z0 z1 A h1=>fB λh2 p q=>?_;subst z0 z1;cases D;obtain⟨t,rfl⟩:=E;refine gg (λz b n r B e=>?_) (I.lstM A);have g:b.toArray.size*k.toNat<=XA:=by rw[Xu,<- B];exact p
 have d:¬ b.toArray.size*k.toNat>(2^63-1)/8:=by
  have:(XA:Nat)<=(2^63-1)/8:=by decide
  lia
 have f:¬ (!Builtin.List.listFitsIndex k)=true:=by
  rw[fitsIndex_both h1 h2];exact XS
 have c:¬ UI (b.toArray.size*k.toNat)=true:=by
  rw[zgk g];exact XS
 have i:List.foldl (λj o=>j++o) #[] (WU (if b.toArray.isEmpty=true then 0 else k.toNat) b.toArray)=(WU k.toNat b).flatten.toArray:=by
  have w:∀m:Nat,List.foldl (λj o=>j++o) #[] (WU m b.toArray)=(WU m b).flatten.toArray:=λm=>by
   have:=foldl_rep b m [];rw[PD]at this;exact this
  rw[w];cases b with
  | nil=>simp
  | cons a L=>rw[bq (by simp)]
 refine wpAny_binaryOp_repeat_ref (T:="list") (U:="int") (by decide) ⟨_,e,rfl⟩ (λG=>typeIs_int G k t) noFill_list_mul F.fills_int_mul F.slot_int_rmul repeat_list F.slot_int_index.lookup
  (P6 F.slot_int_rmul (typeIs_int s k t) F.entry_int_rmul (F.args_int_rmul_2 _ _) (int___rmul___int_list k t l b.toArray n)
   ⟨e,rfl,⟨_,e,rfl⟩,P6 F.slot_list_mul ⟨_,e,rfl⟩ F.entry_list_mul (F.args_list_mul_2 _ _) (AutoListH.list___mul___list_int_3 l b.toArray n k t f d c) ⟨e,?_⟩⟩)
 rw[i];exact⟨.ref _,_,I.lnew (t':=s.toks) (r.rep k.toNat) (by rw[len_rep,Nat.mul_comm];exact p),rfl,q _ I.fresh⟩
end
end L2
namespace Att
open PySem PySem.W PySem.Calls PyProof.Rows
def zcl {P:Od}{h:Heap}:∀(c:List Int) (vs:List X9),WellAll P h vs (c.map WData.int)->OU vs c:=by
 intro c;induction c with
 | nil =>
  intro vs w;rw[P0]at w;cases w;exact .nil
 | cons n c d =>
  intro vs w;rw[Xw]at w;cases w with
  | cons a b =>
   cases a;exact .cons _ _ (d _ b)
def zki {l:OpenLaw}{n:Nat}(u:l.most=some n){P:Od}{h:Heap}{args:List WData}{e:List X9}
  (c:l.row.toRowW.claim.pre args=true) (o:WellAll P h e args) :
  ∃a vs b,e=[WT a]/\args=[WData.list (b.map WData.int)]/\h.get? a=some { cls:=.type "list",data:=.seq vs.toArray }/\OU vs b/\b.length<=n:=by
 have m:WShape.hasAll [] args [.list .int]=true:=(pre_splitW c).1;have p:l.pre.holds [] { args:=args }=true:=(pre_splitW c).2;obtain⟨d,r,rfl,h1,h2⟩:=hasAllW_cons m;obtain rfl:=hasAllW_nil h2;obtain⟨z,rfl,s⟩:=hasW_list h1;obtain⟨b,rfl⟩:=items_int s;have g:b.length<=n:=by
  unfold OpenLaw.pre at p;have i:(WTm.not (.lt (.lit (.int (n:Int))) (.len (.arg 0)))).holds [] { args:=[.list (b.map .int)] }=true:=by
   have i:=(holds_andW p).1;rw[u]at i;exact i
  have j:=condW_of i (w_not (w_lt w_lit (w_len_list (w_arg rfl))));rw[ZB]at j;refine Nat.le_of_not_lt λq=>?_;have w:(n:Int)<((b.length:Nat):Int):=by lia
  first
   | (rw[br w]at j;exact absurd j (by decide))
   | (simp at j;lia)
 cases o with
 | cons x y =>
  cases y;cases x with
  | list v f=>exact⟨_,_,b,rfl,rfl,v,zcl b _ f,g⟩
def zkj (l:OpenLaw)(args:List WData):l.row.toRowW.claim.post args (.bool true) args=true :=
 postW_of (r:=l.row.toRowW) (X:=(true==true))
  (show WShape.has [] (.bool true) .bool=true by first | rfl | decide | simp[WShape.has,WShape.arms,WShape.armsAll])
  (show (WTm.eq .res (.lit (.bool true))).value [] { args:=args,res:=some (.bool true),after:=args }=some (.bool (true==true)) from w_eq_bool (w_res rfl) w_lit) rfl
def zgl {l:OpenLaw}{n:Nat}{q:Xm}{loose:AE}{XP:(Str->Option X9)->Heap->Prop}{YP:W3->Heap->Prop}{d:DefRec}
  (hn:l.most=some n) (x:d.params.defaults=[])
  (call:∀(w:W3) (c b:X7) (p A:Str->Option X9) (g:Addr) (o:Obj) (B m doc:X9) (a:Addr) (vs:List X9) (s:List Int),
   Ground q loose [] XP w c p A b.heap->YP w b.heap ->
   b.heap.get? g=some o->o.data=.func (docDef d.name d.params d.body d.scope B m doc)->b.heap.CodeRec m d.name->p d.name=some (.ref g) ->
   b.heap.get? a=some { cls:=.type "list",data:=.seq vs.toArray }->OU vs s->s.length<=n->b.gens=#[] ->
   SV (Xn l.prog w) OT (.call (.ref g) ⟨[.ref a],[]⟩) (λr u=>r=.ok (.ret (.bool true))/\OldK b.heap u.heap/\u.os=b.os/\Sr u.gens) b) :
  WalkO q loose XP YP l.row.toRowW d [] (λf vs=>PySem.call f vs):=by
 intro w c b p A G Y g o B m doc J kV ho N v E y O D I as j H aa z Q;obtain rfl:J=.none:=Dflts.none E x;obtain rfl:kV=.none:=Dflts.noKw E;refine fC (λa vs s z0 z1 i e h=>?_) (zki hn j z);subst z0 z1;refine enter_call (SS (call w c b p A g o B m doc a vs s G Y ho (fd_plain N) v y i e h O) λr u hq=>?_);obtain⟨rfl,h2,L,M⟩:=hq;exact⟨.inl (dW (.bool true) (.bool true) [] rfl (λ_=>rfl) (.bool true) (zkj l _) (λ_=>⟨List.Pairwise.nil,λ_ U=>(nomatch U)⟩)),h2,L,M⟩
end Att
namespace L2
open PySem PySem.Spec PyProof.Rows
theorem zeq:∀{vs:List X9} {a:List Int},OU vs a->Vals (a.map V.int) vs
 | _,_,.nil=>.nil
 | _,_,.cons n t h=>.cons ⟨t,rfl⟩ (zeq h)
def zqb (H:Hp):Prop:=∀b,H b=none\/∃o a,H b=some (.frz o (.lst a))
def zlH {P:Xm}{w:W3}{K:XX}{N mb:Str->Option X9}{CX:CXT}{k:Nat}{fa a:Addr}{fd:XD}{x:Str}{sp:Sp}{c:X7}{vs:List X9}{O:List Int}
  (KX:K.In c.heap) (I:c.heap.Ns XG N) (g:c.heap.Ns Ou mb) (ab:∀x:Str,x ≠ "__name__"->mb x=UO x) (G:c.heap.NoLimit) (hg:c.gens=#[])
  (U:c.heap.get? a=some { cls:=.type "list",data:=.seq vs.toArray }) (hi:OU vs O) (hl:O.length<=XA) (hr:ZF k OT)
  (F:∀i:Heap,K.In i->i.Ns XG N->zU P w K N i CX k fa fd [x] sp) (y:∀(s:X7) (u:X9),On s fd ⟨[u],[]⟩ [(x,u)])
  (ac:∀H:Hp,zqb H->SqL K H a (O.map V.int)->sp [.ref a] H (λv _=>v=.bl true) λ_ _ _=>False)
  (aa:∀H e j,CX [] H c (λ_ _ _=>False) e j->False) :
  SV (Xn P w) OT (.call (.ref fa) ⟨[.ref a],[]⟩) (λr j=>r=.ok (.ret (.bool true))/\OldK c.heap j.heap/\j.os=c.os/\Sr j.gens) c:=by
 have rv:=zeq hi;have M:=hi.length;have p:∀H:Hp,zqb H->SqL K H a (O.map V.int)->HOk P w H c.heap->(∀b,H b≠none->b=a)->(H a≠none->K.lookup a=none) ->
   SV (Xn P w) OT (.call (.ref fa) ⟨[.ref a],[]⟩) (λr j=>r=.ok (.ret (.bool true))/\OldK c.heap j.heap/\j.os=c.os/\Sr j.gens) c:=by
  intro H hO hS J hA hK;have f:∀{b:Addr} {o:Obj},c.heap.get? b=some o->H b=none->(zfk c.heap H).get? b=some o:=λe n=>zls e n;have ae:∀{b:Addr} {o:Obj} {D:Array Rj} {B:Nat},c.heap.get? b=some o->o.data=.dict D B->H b=none:=λ{b o D B} e d=>by
   cases q:H b with
   | none=>rfl
   | some u =>
    have Y:b=a:=hA b (by rw[q];simp);subst Y;rw[U]at e;cases e;have d':Data.seq vs.toArray _=Data.dict D B:=d;cases d'
  have l:∀{b:Addr} {m:Str->Option X9},c.heap.Ns b m->(zfk c.heap H).Ns b m:=λ{b m} ⟨o,D,B,e,d,r⟩=>⟨o,D,B,f e (ae e d),d,r⟩;have E:K.In (zfk c.heap H):=λb o e=>f (KX b o e) (by
   cases q:H b with
   | none=>rfl
   | some u =>
    have Y:b=a:=hA b (by rw[q];simp);subst Y;rw[hK (by rw[q];simp)]at e;cases e)
  have hM:Mod K N (zfk c.heap H):=⟨E,l I,⟨mb,l g,ab⟩,let ⟨mc,h1,h2⟩:=G;⟨mc,l h1,h2⟩⟩;have e0:znP P w K N (zfk c.heap H) OT [] c H:=⟨rfl,hM,λb o e=>znM e,Nat.le_of_eq (zj8 _ _),trivial,λb g=>absurd (show b∈([]:List Addr) from g) (by simp),J,.of_eq hg⟩;refine SS ((F _ E (l I)).run OT [] c H ⟨[.ref a],[]⟩ [.ref a] [.ref a] _ _ hr e0 (y c (.ref a)) (.cons rfl .nil) (ac H hO hS)) λr j h=>?_;cases r with
  | error e=>exact(aa H e j h).elim
  | ok fl =>
   cases fl with
   | next=>exact VC h
   | brk=>exact VC h
   | cont=>exact VC h
   | ret u =>
    revert h;refine fV λv H' os A un L r' q=>?_;have q':v=.bl true:=q;subst q';obtain rfl:u=Ov true:=r';refine⟨rfl,OldK.of_keep λb o e=>?_,os,A⟩;cases q:H b with
    | none=>exact un.keep b o e q (by intro z;exact absurd (show b∈([]:List Addr) from z) (by simp)) (by simp)
    | some u =>
     rcases hO b with z | ⟨ob,xs,z⟩
     .rw[q]at z;cases z
     .have z2:=un.frzs b ob _ z;obtain⟨e1,_⟩:=J b _ z;obtain⟨e2,_⟩:=L b _ z2;rw[e]at e1;cases e1;exact e2
 cases hk:K.lookup a with
 | some o =>
  have e:=KX a o hk;rw[U]at e;cases e;refine p (λ_=>none) (λ_=>.inl rfl) (.inr ⟨_,vs.toArray,_,hk,rfl,rfl,rfl,by rw[Xu,M];exact hl,by simpa using rv⟩) (λb u z=>by have Q:(none:Option HO)=some u:=z;cases Q) (λb z=>absurd rfl z) λz=>absurd rfl z
 | none =>
  refine p (λb=>if b=a then some (.frz { cls:=.type "list",data:=.seq vs.toArray } (.lst (O.map V.int))) else none) (λb=>?_) (.inl (.inr ⟨{ cls:=.type "list",data:=.seq vs.toArray },bw rfl⟩)) (λb u z=>?_) (λb z=>?_) λ_=>hk
  .by_cases g:b=a
   .exact .inr ⟨_,_,bw g⟩
   .exact .inl (bq g)
  .by_cases g:b=a
   .have Q:=(bw g).symm.trans z;cases Q;subst g;exact⟨U,by rw[ZB];exact hl,vs,_,rv,U⟩
   .have Q:=(bq g).symm.trans z;cases Q
  .by_cases g:b=a
   .exact g
   .exact absurd (bq g) z
def zjb {l:PB}{n k:Nat}{q:Xm}{loose:AE}{XP:(Str->Option X9)->Heap->Prop}{YP:W3->Heap->Prop}{d:DefRec}{K:Od->XX}{CX:W3->CXT}{sp:W3->Sp}{x:Str}
  (hn:l.most=some n) (E:n<=XA) (B:d.params.defaults=[]) (hr:ZF k OT)
  (Q:∀(w:W3) (h:Heap),YP w h->(K w.params).In h)
  (F:∀(w:W3) (j:Str->Option X9) (r:Addr) (h:Heap),(K w.params).In h->h.Ns XG j->j d.name=some (.ref r) ->
   ∃z:XD,(∀(s:X7) (u:X9),On s z ⟨[u],[]⟩ [(x,u)]) /\
    ∀base:Heap,(K w.params).In base->base.Ns XG j->zU l.prog w (K w.params) j base (CX w) k r z [x] (sp w))
  (I:∀(w:W3) (H:Hp) (a:Addr) (y:List Int),y.length<=n->zqb H->SqL (K w.params) H a (y.map V.int)->sp w [.ref a] H (λv _=>v=.bl true) λ_ _ _=>False)
  (A:∀(w:W3) (H:Hp) (s:X7) (e:X9) (s':X7),CX w [] H s (λ_ _ _=>False) e s'->False) :
  OE q loose XP YP l.row.toRowW d [] (λf vs=>PySem.call f vs):=by
 refine Att.zgl hn B λw L p j mb r o pm cd doc a vs y G Y ho hd aa D m i c hg=>?_;have J:=Q w _ Y;obtain⟨z,U,M⟩:=F w j r _ J G.T.g D;exact zlH J G.T.g G.T.b G.T.builtins G.T.nolimit hg m i (X6 c E) hr M U (λH N O=>I w H a y c N O) λH e s'=>A w H p e s'
end L2
/- THE LAST THEOREM (shape;LID,My.* are yours):
   My.Adr: a structure of the addresses that your layer names (classes,functions);My.Txt K t: a structure (Prop) of the equations over K;
   My.txt_mk:{K} {implicit addresses ..} (e1:nsIn K XG "law"=some (some (.ref f))) (e2:K.lookup f=some ⟨oc,od,.func (fnOf "law" "law" params body scope dV kV doc pm an cdv ct),sl⟩) (e3:codeIn K cdv "law"=true) ..:∃t,My.Txt K t
set_option maxRecDepth 100000 in
set_option maxHeartbeats 0 in
theorem PySem.Challenge.cw_LID_holds : PySem.Challenge.rw_LID.Holds := by
 w_on;o_law;k_head;(case hw=>w_witness2);k_fill;refine L2.zjb (l:=PySem.Challenge.rw_LID) (n:=63) (k:=40) (x:="script") (CX:=λw=>..) (sp:=λ_=>My.zsC) rfl (by decide) rfl ⟨rfl,by decide,by decide⟩ (λw h Y=>PySem.W.kIn_of Y) ?F ?S ?C
 case F =>
  intro w mg fa h KX G hmg
  have T:∃t,My.Txt (L2.KOf KX) t:=by
   dsimp only[L2.KOf]                          -- K must stand as «<heap const> w.params» for k_is;refine' My.txt_mk ?e1 ?e2 ?e3 ..;(case e1=>PySem.W.k_is)                    -- in the order: a name->its address->its object->its parts;(case e2=>PySem.W.k_is);..
  obtain⟨t,T⟩:=T
  have e0:=hmg.symm.trans (VE KX G T.law)
  cases e0                                       -- fa is the law's own address
  exact⟨_,λs u=>.of_eq rfl,λbase kb nb=>My.law_fn T kb nb⟩     -- if «.of_eq rfl» comes too early: refine' ⟨_,?b,λbase kb nb=>My.law_fn T kb nb⟩;exact λs u=>.of_eq rfl
 case S=>exact λw H a ns hl hO hS=>..
 case C=>exact ..
(the tactic k_is has no namespace: write k_is) -/
namespace L2
open PySem PySem.Spec PyProof.Rows
def J5 (s:Stmt):Arguments:=match s with
 | .FunctionDef _ a _ _ _ _ _ _ _ _=>a
 | _=>{ posonlyargs:=[],args:=[],vararg:=none,kwonlyargs:=[],kw_defaults:=[],kwarg:=none,defaults:=[] }
def xy (s:Stmt):List Stmt:=match s with
 | .FunctionDef _ _ b _ _ _ _ _ _ _=>b
 | _=>[]
def zp (s:Stmt):UB:=match s with
 | .FunctionDef _ _ _ _ _ _ a _ _ _=>a
 | _=>{ kind:=.function,names:=[],isGenerator:=false,isCoroutine:=false }
abbrev CX0:CXT:=λ_ _ _ _ _ _=>False
abbrev E0:XK:=λ_ _ _=>False
def zrC {X:Cx}:Passes CX0 X E0:=λ_ _ _ _ _ _ _ h=>h.elim
structure Fun (K:XX)(x qual:Str)(st:Stmt)(f:Addr)(fd:XD):Prop where
 ex:∃(oc:X9) (od:Option Addr) (kV doc pm:X9) (an:Option Addr) (cdv ct:X9) (osl:Array (Option X9)),
  fd=UP x qual (J5 st) (xy st) (zp st) .none kV doc pm an cdv ct/\K.lookup f=some ⟨oc,od,.func fd,osl⟩/\SR K cdv qual=true
 kp:TU K (.ref f)=true
section
variable {P:Xm}{w:W3}{K:XX}{mg:Str->Option X9}{base:Heap}
theorem cxK {CX P w K mg base N q sc f cd A o s H E}:(zgi CX P w K mg base N q sc f cd A o s H E).K=K:=rfl
theorem cxP {CX P w K mg base N q sc f cd A o s H E}:(zgi CX P w K mg base N q sc f cd A o s H E).prog=P:=rfl
theorem cxW {CX P w K mg base N q sc f cd A o s H E}:(zgi CX P w K mg base N q sc f cd A o s H E).w=w:=rfl
def Fun.ok {x b:Str}{st:Stmt}{f:Addr}{i:XD}{N ps:AE}{k:Nat}{sp:Sp}(F:Fun K x b st f i)(S:zB N ps (zp st))(len:∀vs H Q E,sp vs H Q E->vs.length=ps.length)
  (d:∀(c:X9) (A:WN) (a:List Env) (s:X7) (H:Hp) (vs:AF) (Q:VK) (E:XK),ZF k (A.deeper (P9 b (zp st) s.heap.objs.size f c))->sp vs H Q E ->
   ∃t,PSs (zgi CX0 P w K mg base N b (zp st) f c A a s H E).nox (xy st) t/\t { nx:=λ_ j=>Q .non j,rt:=Q } (start N vs) H):zU P w K mg base CX0 (k+1) f i ps sp:=by
 refine fu (λr u kV doc v o c p=>fy λn z0 m e=>?_) F.ex;subst z0;refine zpi m e S len λA a s H vs Q E l g=>?_;obtain⟨t,h,q⟩:=d c A a s H vs Q E l g;exact⟨t,h.nox,q⟩
def Fun.binds {x a:Str}{st:Stmt}{f:Addr}{i:XD}{ps:AE}(F:Fun K x a st f i)
  (h:∀(kV doc e:X9) (c:Option Addr) (b d:X9) (g:List X9),g.length=ps.length->bindArgs (UP x a (J5 st) (xy st) (zp st) .none kV doc e c b d) ⟨g,[]⟩=pure (ps.zip g)):Binds K i ps []:=by
 refine fu (λn o kV doc e c b d=>fy λl z0 m j=>?_) F.ex;subst z0;exact .all (h kV doc e c b d)
def zlI {x a:Str}{st:Stmt}{f:Addr}{i:X9}{j e:Option Addr}{d:Array (Option X9)}{kV doc h b g:X9}(l:K.lookup f=some ⟨i,j,.func (UP x a (J5 st) (xy st) (zp st) .none kV doc h e b g),d⟩)
  (c:SR K b a=true) (k:TU K (.ref f)=true):Fun K x a st f (UP x a (J5 st) (xy st) (zp st) .none kV doc h e b g):=⟨(eV i j kV doc h e b g (dI d rfl l c)),k⟩
end
section
variable {X:Cx}
def pv (i:Nat){x:Str}{pos:Pos}(b:X.N[i]?=some x:=by rfl)(d:Vis X.env.scope x:=by first | exact VL rfl | exact Pn (VL rfl) | exact Pn (Pn rfl))(c:(x==("__debug__":Str))=false:=by decide)
  (a:(x==("__classdict__":Str))=false:=by decide):PE X (.Name x pos) (zrj i):=zpT b d c a
end
def ZG {A B:Prop}(h:B):if false=true then A else B:=by
 rw[bq XS];exact h
def zan {A B:Prop}(h:A):if true=true then A else B:=by
 rw[bw rfl];exact h
def zcm {c A B:Prop} [Decidable c](h1:c->A)(h2:¬ c->B):if c then A else B:=by
 by_cases h:c
 .rw[bw h];exact h1 h
 .rw[bq h];exact h2 h
def zo (H a:Hp):Prop:=∀b o,H b=some o->a b=some o
def zo.refl (H:Hp):zo H H:=λ_ _ h=>h
def zo.trans {H d e:Hp}(a:zo H d)(b:zo d e):zo H e:=λc o h=>b c o (a c o h)
def zo.free {H a:Hp}(e:zo H a){l:Addr}(h:a l=Option.none):H l=Option.none:=by
 cases q:H l with
 | none=>rfl
 | some o =>
  rw[e l o q]at h;cases h
def zo.seq {K:XX}{H b:Hp}{a:Addr}{xs:AF}(e:zo H b)(h:SqL K H a xs):SqL K b a xs:=by
 rcases h with (h | ⟨o,h⟩) | h
 .exact .inl (.inl (e _ _ h))
 .exact .inl (.inr ⟨o,e _ _ h⟩)
 .exact .inr h
end L2
set_option maxHeartbeats 4000000
namespace L2
open PySem PySem.Spec PyProof.Rows
section
variable {X:Cx}
def Ym:OpR X (TY .Mult) (rI N1 λi j=>.int (i*j)):=opI λ_ _ _ _ _ _ _ a q=>mul_int q a
def JM (_ j:Int):Prop:=0<j/\j.natAbs.log2<9000
def yg:OpR X (TY .FloorDiv) (rI JM λi j=>.int (i/j)):=opI λi j _ _ _ _ _ a q=>by
 have h1:(0:Int)<j:=a.1;exact floordiv_int (by lia) (by rw[Int.fdiv_eq_ediv_of_nonneg i (by lia)];exact q) (.inl (PyProof.noPylong_of_log2 a.2))
def JM.small {i j:Int}(h:0<j)(h':j<1073741824):JM i j:=by
 refine⟨h,?_⟩;have h0:j.natAbs≠0:=by lia
 have:j.natAbs.log2<30:=(Nat.log2_lt h0).mpr (by lia);lia
def zrD {i j:Int}(h1:-(2^64)<j)(h2:j<2^64):N1 i j:=IntMulOk.of_right (intBits_le_64 h1 h2)
def mulL {i j:Int}(h1:-(2^64)<i)(h2:i<2^64):N1 i j:=IntMulOk.of_left (intBits_le_64 h1 h2)
def zrE {i j:Int}(h1:i.natAbs<2^8000)(h2:j.natAbs<2^8000):N1 i j:=IntMulOk.of_le (m:=8000) (n:=8000) (intBits_le_iff.mpr h1) (intBits_le_iff.mpr h2) (by decide)
def zqc (T U:String):Option Bool:=if (P8 T==P8 U)=true then some true else if PySem.W.kitMeta U=true then (fastBuiltinMro T).map (·.contains (.type U)) else none
def zqd (K:XX){T U:String}{b:Bool}(e:zqc T U=some b):PySem.W.kitOne K (.type T) (.type U)=some b:=e
def xV:qM X (.builtin "isinstance") (λxs H Q=>∃x T U b,xs=[x,.ty U]/\zaK X.K H x (.type T)/\zqc T U=some b/\Q (.bl b) H):=by
 intro f s j H xs g Q I r h;revert h;refine fN λx T U b z0 ty e q=>?_;subst z0;obtain⟨u,i,rfl,c,a⟩:=vals2 r;cases a;exact zke I c ty (zqd X.K e) λd=>⟨.bl b,H,I.tok d,rfl,q⟩
end
def jb {b:Bool}{A B:Prop}(e:b=true)(h:A):if b=true then A else B:=by
 rw[bw e];exact h
def qW {b:Bool}{A B:Prop}(e:b=false)(h:B):if b=true then A else B:=by
 subst e;exact ZG h
structure zm (K:XX)(mg:Str->Option X9)(x:Str)(st:Stmt)(ps:AE)(f:Addr)(fd:XD):Prop where
 F:Fun K x x st f fd
 g:mg x=some (.ref f)
 b:Binds K fd ps []
def Yn {α:Type}{xs:List α}{i:Int}{v:α}(h:0<=i)(e:xs[i.toNat]?=some v):atI xs i=some v:=by
 have:=j3 e;rwa [UD h]at this
def zsD (t u:TS):TS:=λD c H=>∃M:St->Hp->Prop,t { D with nx:=M } c H/\∀ a b,M a b->u D a b
def zjc {X:Cx}{st:Stmt}{a:List Stmt}{t u:TS}(h1:PS X st t)(h2:PSs X a u):PSs X (st::a) (zsD t u):=by
 intro d s l H D I h;obtain⟨M,g,i⟩:=h;refine Sv (thn (h1 d s l H _ I g) λf s1 q=>?_);cases f with
 | next =>
  obtain⟨b,c,e,j⟩:=q;exact h2 d s1 b c D e (i b c j)
 | brk=>exact q
 | cont=>exact q
 | ret v=>exact q
def zc {H:Hp}{l:Addr}{o:HO}(h:H l=none):zo H (upd H l o):=λb u e=>by rw[zj (zh e h)];exact e
mutual
inductive Rdv (K:XX)(H:Hp):V->We->Prop
 | non:Rdv K H .non .none
 | bl (b:Bool):Rdv K H (.bl b) (.bool b)
 | int (i:Int):Rdv K H (.int i) (.int i)
 | str (x:Str):Rdv K H (.str x) (.str x)
 | lst {a:Addr} {xs:AF} {ds:List We}:SqL K H a xs->JN K H xs ds->Rdv K H (.ref a) (.list ds)
 | tup {a:Addr} {xs:AF} {ds:List We}:SqT K H a xs->JN K H xs ds->Rdv K H (.ref a) (.tuple ds)
inductive JN (K:XX)(H:Hp):AF->List We->Prop
 | nil:JN K H [] []
 | cons {x:V} {d:We} {xs:AF} {ds:List We}:Rdv K H x d->JN K H xs ds->JN K H (x::xs) (d::ds)
end
section
variable {X:Cx}{bz:List (Addr×Obj)}{σ:St}{H:Hp}{s:X7}
def zkk {a:Addr}{xs:AF}{b:List We}(I:Inv X bz σ H s)(g:SqL X.K H a xs)(h:∀c,Vals xs c->∃as,Ol s.heap c b as):∀u,RelV (.ref a) u->∃as,Reads s.heap u (.list b) as:=by
 intro u r;cases r;obtain⟨i,l,p,m⟩:=I.list g;obtain⟨as,j⟩:=h _ l;obtain⟨o,f,d,n,e⟩:=p.isList;exact⟨_,.list f d e (by simpa using j)⟩
def zkl {a:Addr}{xs:AF}{b:List We}(I:Inv X bz σ H s)(g:SqT X.K H a xs)(h:∀c,Vals xs c->∃as,Ol s.heap c b as):∀u,RelV (.ref a) u->∃as,Reads s.heap u (.tuple b) as:=by
 intro u r;cases r;obtain⟨i,l,p,m⟩:=I.tuple g;obtain⟨as,j⟩:=h _ l;obtain⟨o,f,d,n,e⟩:=p;exact⟨_,.tuple f d e (by simpa using j)⟩
def zhR {v:V}{vs:AF}{d:We}{b:List We}(h:∀u,RelV v u->∃as,Reads s.heap u d as)(t:∀a,Vals vs a->∃as,Ol s.heap a b as):∀a,Vals (v::vs) a->∃as,Ol s.heap a (d::b) as:=by
 intro a r;cases r with
 | cons c e =>
  obtain⟨as,f⟩:=h _ c;obtain⟨bs,g⟩:=t _ e;exact⟨_,.cons f g⟩
def Rdv.reads (I:Inv X bz σ H s){v:V}{d:We}{u:X9}(h:Rdv X.K H v d):RelV v u->∃as,Reads s.heap u d as :=
 Rdv.rec (motive_1:=λv d _=>∀u,RelV v u->∃as,Reads s.heap u d as) (motive_2:=λf e _=>∀c,Vals f c->∃as,Ol s.heap c e as)
  (λu r=>by cases r;exact⟨_,.none⟩) (λb u r=>by cases r;exact⟨_,.bool b⟩) (λi u r=>by obtain⟨t,rfl⟩:=r;exact⟨_,.int i t⟩) (λx u r=>by obtain⟨t,rfl⟩:=r;exact⟨_,.str x t⟩)
  (λa _ h=>zkk I a h) (λa _ h=>zkl I a h) (λc r=>by cases r;exact⟨_,.nil⟩) (λ_ _ h t=>zhR h t) h u
structure zlJ (x y:We):Prop where
 l1:x.canLay0=true
 l2:y.canLay0=true
 dp:x.depth<=64
def znV (K:XX)(neg:Bool):R2:=λx y H Q=>∃a b,Rdv K H x a/\Rdv K H y b/\zlJ a b/\Q (.bl (if neg then !PyData.eqv a b else Xa a b)) H
def yx (l:X.A.units+64<VN):OpR X (Wr .Eq) (znV X.K false):=by
 intro bz s σ H x y v u Q I f g h;revert h;refine fm λi j a b c q=>?_;obtain⟨as,d⟩:=a.reads I f;obtain⟨bs,e⟩:=b.reads I g;have:=c.dp;exact SeqAt.compareEq_reads d e c.l1 c.l2 (by lia) ⟨.bl _,H,I,rfl,q⟩
def jy (l:X.A.units+64<VN):OpR X (Wr .NotEq) (znV X.K true):=by
 intro bz s σ H x y v u Q I f g h;revert h;refine fm λi j a b c q=>?_;obtain⟨as,d⟩:=a.reads I f;obtain⟨bs,e⟩:=b.reads I g;have:=c.dp;exact SeqAt.compareNe_reads d e c.l1 c.l2 (by lia) ⟨.bl _,H,I,rfl,q⟩
def znW (K:XX)(neg:Bool):R2:=λx y H Q=>∃d a,Rdv K H x d/\Rdv K H y (.list a)/\d.canLay0=true/\VB a=true/\d.depth<=60/\Q (.bl (if neg then !a.any (λz=>Xa z d) else a.any λz=>Xa z d)) H
def zcO (m:X.A.units+64<VN):OpR X (Wr .In) (znW X.K false):=by
 intro bz s σ H x y v u Q I g i h;revert h;refine fV λd l b c c1 a j q=>?_;obtain⟨as,e⟩:=b.reads I g;obtain⟨bs,f⟩:=c.reads I i;exact SeqAt.in_list_reads f e a c1 (by lia) ⟨.bl _,H,I,rfl,q⟩
def zdY (m:X.A.units+64<VN):OpR X (Wr .NotIn) (znW X.K true):=by
 intro bz s σ H x y v u Q I g i h;revert h;refine fV λd l b c c1 a j q=>?_;obtain⟨as,e⟩:=b.reads I g;obtain⟨bs,f⟩:=c.reads I i;exact SeqAt.notIn_list_reads f e a c1 (by lia) ⟨.bl _,H,I,rfl,q⟩
end
def jz (X:Cx)(N:AE)(scope:UB)(cl:List (Str×Addr))(C:Addr)(fp:List Addr)(bz:List (Addr×Obj))(s:X7)(H:Hp):Cx where
 prog:=X.prog
 w:=X.w
 K:=X.K
 mg:=X.mg
 base:=X.base
 A:=X.A
 N:=N
 s₀:=s
 H₀:=H
 env:=compEnvC scope cl C X.env
 outer:=X.stack
 stack:=X.stack
 ex:=fp
 fn:=λ_=>false
 calm:=X.calm
 pn:=X.pn++bz
 xe:=λ_ _=>False
def pull (a:List (Option Nat))(b:St):St:=a.map λo=>match o with
 | some j=>(b[j]?).getD none
 | none=>none
structure yN (X:Cx)(N:AE)(src:List (Option Nat))(scope:UB)(cl:List (Str×Addr)):Prop where
 kind:scope.kind=.function
 nocell:∀y∈scope.names,y.2 ≠ .cell
 names:∀y∈scope.names,y.2=.local->scope.names.lookup y.1=some .local
 clos:Ot scope X.env=pure cl
 sub:∀x c,cl.lookup x=some c->X.env.cells.lookup x=some c
 has:∀x,((UF scope X.env).names.lookup x=some .cell\/(UF scope X.env).names.lookup x=some .free)->∃c,cl.lookup x=some c
 len:src.length=N.length
 pulls:∀(i j:Nat) (x:Str),N[i]?=some x->src[i]?=some (some j)->X.N[j]?=some x/\(X.env.kindOf x=some .cell\/X.env.kindOf x=some .free)/\((UF scope X.env).names.lookup x=some .cell\/(UF scope X.env).names.lookup x=some .free)
def zdZ {a:UB}{b:Env}(d:∀y∈a.names,y.2 ≠ .free):(UF a b).names=a.names:=by
 show a.names.map _=a.names;refine map_eq_self λx c=>?_;obtain⟨n,k⟩:=x;have:(k==NameKind.free)=false:=by simpa using d _ c
 simp[this]
def yN.plain {X:Cx}{N:AE}{src:List (Option Nat)}{scope:UB}(kind:scope.kind=.function)(nocell:∀y∈scope.names,y.2 ≠ .cell)(nofree:∀y∈scope.names,y.2 ≠ .free)
  (names:∀y∈scope.names,y.2=.local->scope.names.lookup y.1=some .local) (len:src.length=N.length) (none:∀o∈src,o=none):yN X N src scope [] where
 kind:=kind
 nocell:=nocell
 names:=names
 clos:=closureFor_none nofree
 sub:=λx c h=>nomatch h
 has:=λx h=>by
  rw[zdZ nofree]at h;rcases h with h | h
  .exact absurd rfl (nocell _ (WC h))
  .exact absurd rfl (nofree _ (WC h))
 len:=len
 pulls:=λi j x _ h=>by
  have:=none _ (X8 h);cases this
def zcn (X:Cx)(a:List Expr)(t:TT):Prop :=
 ∀(d:List (Addr×Obj)) (s:X7) (b:St) (H:Hp) (Q:Bool->Hp->Prop),Inv X d b H s->t b H Q ->
  Xj (Xn X.prog X.w) X.A (forIn a true λc r=>if r=true then do let ok <- isTrue c X.env (eval c X.env);pure (V3 ok) else pure (V3 r)) (TP X d b Q) X.xe s
def znX:TT:=λ_ H Q=>Q true H
def qa {X:Cx}:zcn X [] znX:=λ_ _ _ H _ I h=>wpAny_tests_nil ⟨H,I,h⟩
def qk {X:Cx}{c:Expr}{t:TT}(h:PT X c t):zcn X [c] t:=λa s d H Q I b=>wpAny_tests_one (h a s d H Q I b)
def yh (J:It)(g:TG)(s:TT)(u:TE)(Q:VK)(D:Addr)(j:St)(q:Hp):Prop :=
 ∃W:Nat->Nat->St->Hp->Prop,(∃m,W 0 m j q)/\∀i m f d,W i m f d ->
  (J.stop i d/\Q (.ref D) d)\/(J.go i d/\∃N:St->Hp->Prop,(∀ c e,N c e->∃p,p<m/\W (i+1) p c e) /\
   ∀x l,J.yld i d x l->g x f l fun a r=>s a r λb n=>if b=true then u a n λy o=>∃h,o D=some (.lst h)/\h.length<XA/\N a (upd o D (.lst (h++[y]))) else N a n)
def zb0 (f:TI)(a:List (Option Nat))(g:TG)(d:TT)(e:TE):TE:=fun c H Q=>f c H λJ b=>∀D,b D=none->yh J g d e Q D (pull a c) (upd b D (.lst []))
def Un.but {fs i:List Addr}{H g:Hp}{h h1 h2:Heap}{C:Addr}(u:Un fs i H g h h1)(j:h.objs.size<=C)(f:V6 C h1 h2):Un fs i H g h h2:=by
 have d:∀b o,h.get? b=some o->b≠C:=λb o e=>Xi (Xk (XB e) j);refine⟨λb o e n c a=>(f.2 b (d b o e)).trans (u.keep b o e n c a),λb o e n c a=>?_,u.free,λb o e a=>?_,u.tups,u.frzs,u.tbls⟩
 .obtain⟨m,q⟩:=u.slot b o e n c a;exact⟨m,(f.2 b (d b o e)).trans q⟩
 .obtain⟨l,q⟩:=u.there b o e a;exact⟨l,(f.2 b (d b o e)).trans q⟩
def HOk.but {P:Xm}{w:W3}{H:Hp}{h h':Heap}{C:Addr}(ok:HOk P w H h)(a:H C=none)(d:V6 C h h'):HOk P w H h':=λb ob e=>by
 refine(ok b ob e).stay (λc f hc q=>(d.2 c ?_).trans q) (λ_ q=>q) λ_ _ q=>q;rintro rfl;rcases hc with rfl | hc
 .rw[a]at e;cases e
 .rw[a]at hc;cases hc
section
variable {X:Cx}{tg iter elt:Expr}{ifs:List Expr}{scope:UB}{pos:Pos}{N:AE}{src:List (Option Nat)}{cl:List (Str×Addr)}{wi:TI}{g:TG}{tc:TT}{te:TE}
def zhS {h:List (Addr×Obj)}{A:St}{H:Hp}{s:X7}{fp:List Addr}{h1:Heap}{C:Addr}{tk:Nat}(ok:yN X N src scope cl)(I:Inv X h A H s)(B:∀b∈fp,zaI X h H b)(ho:∀b∈fp,∃o,s.heap.get? b=some o)
  (E:C=s.heap.objs.size+1) (k:∀b u,s.heap.get? b=some u->h1.get? b=some u) (hD:h1.get? s.heap.objs.size=some { cls:=.type "list",data:=.seq #[] }) {m:Str->Option X9} (hn:h1.Ns C m) :
  Inv (jz X N scope cl C fp h s H) [] (pull src A) (upd H s.heap.objs.size (.lst [])) { s with heap:=h1,toks:=tk }:=by
 have lt:∀b o,s.heap.get? b=some o->b<s.heap.objs.size:=λb o e=>XB e;have Y:∀b o,s.heap.get? b=some o->b≠C:=λb o e=>by rw[E];exact Xi (Wo (lt b o e))
 have nD:∀b o,s.heap.get? b=some o->b≠s.heap.objs.size:=λb o e=>Xi (lt b o e);have O:∀b,s.heap.objs.size<=b->H b=none:=λb g=>I.hok.fresh g;have w:∀b,b≠X.env.locals->b ∉ X.fs->b ∉ frs X.stack:=λb h1 h2 z=>(XH.mp (I.stkSub b z)).elim h1 h2;have sub:=ok.sub;refine⟨⟨I.ok.mod,ok.kind,I.ok.glob,I.ok.blt,by rw[show (jz X N scope cl C fp h s H).env.locals=C from rfl,E];exact VX _,λx y c d a=>I.ok.inj x y c (sub x c d) (sub y c a),ok.has,(λx c z _=>nomatch z),I.ok.hd,I.ok.frames,.inl rfl,λb g=>?_,I.bs,X6 I.ok.bsz I.sz,λb o e g=>?_,λb g hz=>?_,I.stack,I.stkFree⟩,rfl,I.bare,Un.laid k (XU _) (O _ (XU _)),⟨m,hn,λi x v d a M=>?_⟩,λx c e=>?_,?_,λx c e=>?_,λp hp=>?_,I.hok.laid k (XU _) ⟨WY _,[],0,.nil,hD⟩,?_⟩
 .obtain⟨o,e⟩:=ho b g;exact⟨Y b o e,λx c z=>(B b g).2.2.2.2.1 x c (sub x c z)⟩
 .rcases(B b g).2.2.2.1 with z | z
  .exact I.ok.noex b o e z
  .exact absurd (Xk (XB (I.ok.bs b o e).1) z) (VJ _)
 .exact w b (B b g).2.1 (B b g).2.2.1 hz
 .have U:i<src.length:=by
   have:=(X4.mp a).1;unfold pull at this;rw[ZB]at this;exact this
  unfold pull at a;rw[Xq,XZ U]at a;cases q:src[i] with
  | none=>rw[q]at a;cases a
  | some j =>
   rw[q]at a;have f:(A[j]?).getD none=some v:=Option.some.inj a;have D:A[j]?=some (some v):=by
    cases z:A[j]? with
    | none=>rw[z]at f;cases f
    | some o=>rw[z]at f;exact congrArg some f
   obtain⟨p1,p2,p3⟩:=ok.pulls i j x d (by rw[XZ U,q]);obtain⟨m',aa,hl⟩:=I.loc;obtain⟨u,r,l⟩:=hl j x v p1 D (by
    rcases p2 with z | z
    .exact .inr (.inl z)
    .exact .inr (.inr z))
   refine⟨u,r,.inr ⟨p3,?_⟩⟩;obtain⟨c,Q⟩:=ok.has x p3;refine⟨c,Q,?_⟩;rcases l with ⟨z,_⟩ | ⟨_,c',n,o,J,G⟩
   .rcases p2 with y | y<;>rw[z]at y<;>cases y
   .rw[sub x c Q]at n;cases n;exact⟨o,k _ o J,G⟩
 .obtain⟨v,o,d,a⟩:=I.cell x c (sub x c e);exact⟨v,o,k c o d,a⟩
 .show upd H s.heap.objs.size (.lst []) C=none;rw[E,zj (U9 _)];exact O _ (VX _)
 .show upd H s.heap.objs.size (.lst []) c=none;obtain⟨v,o,d,a⟩:=I.cell x c (sub x c e);rw[zj (nD c o d)];exact I.jg x c (sub x c e)
 .have L:p∈X.pn++h:=by
   have:p∈(X.pn++h)++[]:=hp;simpa using this
  refine fO (λd a M D e5=>?_) (I.pin p L);refine⟨k _ _ d,?_,Y _ _ d,w _ M D,e5⟩;show upd H s.heap.objs.size (.lst []) p.1=none;rw[zj (nD _ _ d)];exact a
 .unfold pull;rw[ZB];exact ok.len
def zkm {Y:Cx}{D it:Addr}{fp:List Addr}{tn:Nat->Heap->Prop}{J:It}{ac:St}{H0:Hp}{s:X7}{Q:VK}{R:Oc->X7->Prop}(a:Y.calm=true)(hx:∀{x s},Y.xe x s->notedBy (Xn Y.prog Y.w) Y.A Y.env (λx s=>R (.error x) s) x s)(T:Turn Y.prog Y.w Y.K tg J fp it tn)(hg:PG Y tg g)(hc:zcn Y ifs tc)(he:PE Y elt te)
  (q:yh J g tc te Q D ac H0) (c:∀{l:Hp},(∀b∈fp,l b=none)->∀b∈fp,zaI Y [] l b) (I0:Inv Y [] ac H0 s) (O:tn 0 s.heap) (ag:∀b∈fp,H0 b=none)
  (af:∀f σ H s',Inv Y [] σ H s'->Q (.ref D) H->R (.ok f) s'):SV (Xn Y.prog Y.w) Y.A (.compStart (.ListComp elt [⟨tg,iter,ifs,0⟩] scope pos) 0 (.ref it) (.ref D) Y.env) R s:=by
 obtain⟨W,⟨m0,w0⟩,ab⟩:=q;have B:SV (Xn Y.prog Y.w) Y.A (.compLoop (.ListComp elt [⟨tg,iter,ifs,0⟩] scope pos) 0 (.ref it) (.ref D) Y.env) R s:=by
  refine codeAny_loop rfl (λn s'=>∃i h l,Inv Y [] h l s'/\tn i s'.heap/\(∀b∈fp,l b=none)/\W i n h l) ?_ m0 ⟨0,_,_,I0,O,ag,w0⟩;refine λn s3=>fF λi p H3 I3 U M w3=>?_;show Xj _ Y.A ((compTurn (.ListComp elt [⟨tg,iter,ifs,0⟩] scope pos) 0 (.ref it) (.ref D) Y.env).onRaise (λx=>do noteFrame x Y.env;theTreesLotGoes x)) _ _ s3;refine wpAny_noted ?_;rw[compTurn_list];rcases ab i n p H3 w3 with ⟨aa,qn⟩ | ⟨go,N',hN,step⟩
  .refine Y1 (OC (Y1 (thn (T.done Y rfl rfl rfl a i [] s3 p H3 _ I3 (c M) U aa) λr s4 ⟨hr,I4⟩=>?_)));subst hr;exact XR (af _ _ _ _ I4 qn)
  .refine Y1 (OC (Y1 (thn (T.item Y rfl rfl rfl a i [] s3 p H3 _ I3 (c M) U go) λr s4 ⟨u,hr,h4⟩=>?_)));subst hr;dsimp only;refine Y1 (thn h4 λ_ s5 ⟨x,H5,I5,r5,y5,G,ah⟩=>?_);have ae:=I5.pinned (c ah) (T.obj _ _ G);refine Y1 (VY (hg _ s5 p H5 x u _ ae r5 (step x H5 y5)) (λ_ s6 ⟨v,H6,I6,q6⟩=>?_) λ_ _ z=>hx z);have N9:∀{L:X7} {j:St} {E:Hp},Inv Y ([]++zcM fp s5.heap) j E L->N' j E->∃m,m<n/\∃i h l,Inv Y [] h l L/\tn i L.heap/\(∀b∈fp,l b=none)/\W i m h l:=λ{L j E} I n7=>by
    obtain⟨m',hm,w7⟩:=hN j E n7;refine dS m' hm (eS (i+1) j E I.unpinned (T.keep _ _ _ G λb hb o e=>(I.pin (b,o) (WZ _ (WZ _ (Yj hb e)))).1) (λb hb=>?_) w7);obtain⟨o,e,d⟩:=T.obj _ _ G b hb;exact(I.pin (b,o) (WZ _ (WZ _ (Yj hb e)))).2.1
   refine Y1 (VY (hc _ s6 v H6 _ I6 q6) (λb L ⟨E,I,q7⟩=>?_) λ_ _ z=>hx z);cases b with
   | false =>
    rw[bq XS]at q7;exact XR ⟨rfl,N9 I q7⟩
   | true =>
    rw[bw rfl]at q7;refine Y1 (Y1 (VY (he _ L v E _ I q7) (λy s8 ⟨v8,H8,I8,r8,ys,ai,N,q8⟩=>?_) λ_ _ z=>hx z));refine Y1 (VY (JC (X:=Y) _ s8 v H8 (.ref D) [v8] (.ref D) [y] (λ_ H9=>N' v H9) I8 rfl (.cons r8 .nil) ⟨_,(dU ys v8 rfl rfl ai N q8)⟩) (λ_ s9 ⟨v9,H9,I9,_,q9⟩=>?_) λ_ _ z=>hx z);exact XR (XR ⟨rfl,N9 I9 q9⟩)
 exact codeAny_compStart_list B (T.self _ 0 _ _ _ O B)
abbrev cY (X:Cx)(N:AE)(scope:UB)(cl:List (Str×Addr))(C:Addr)(fp:List Addr)(bz:List (Addr×Obj))(s:X7)(H:Hp)(fn:Str->Bool)(xe:X9->X7->Prop):Cx:={ jz X N scope cl C fp bz s H with fn:=fn,xe:=xe }
def znY (X:Cx)(N:AE)(scope:UB)(d:List (Addr×Obj))(m:St)(use:Option (X9->Sem Unit))(R:X9->X7->Prop)(Q:VK):Prop:=∀{cl h a c C g i f j l e},C=a.heap.objs.size+1->Inv X d m c a->(∀b∈h,zaI X d c b)->Inv (cY X N scope cl C h d a c j l) [] e g i->Q (.ref a.heap.objs.size) g->compPost (Xn X.prog X.w) X.A X.xe use R (.ref a.heap.objs.size) C (.ok f) i
def zpj {e:List (Addr×Obj)}{h:St}{Q:VK}:znY X N scope e h none (EP X e h Q) Q:=by
 intro cl l r v C i s f w x u o j c a q;obtain⟨m,p,_⟩:=a.loc;refine⟨m,p,λn g=>⟨.ref r.heap.objs.size,i,?_,rfl,q⟩⟩;exact j.call' (s':={ s with heap:=n }) (ch:=l) a.os (Un.but a.base (by rw[o];exact VX _) g) (HOk.but a.hok a.free g) a.bare λb d=>⟨(c b d).2.2.2.1,(c b d).2.1,(c b d).2.2.2.2.1,(c b d).2.2.2.2.2⟩
def zgm {j:List (Addr×Obj)}{D:St}{i:Hp}{a:X7}{R:Oc->X7->Prop}{Q:VK}{it C:Addr}{fp:List Addr}{tn:Nat->Heap->Prop}{J:It}{h:Heap}{tk:Nat}{n:Str->Bool}{m:X9->X7->Prop}{v:St}(E:C=a.heap.objs.size+1)(l:X.calm=true)
  (hx:∀{x s},m x s->notedBy (Xn X.prog X.w) X.A (compEnvC scope cl C X.env) (λx s=>R (.error x) s) x s) (U:PG (cY X N scope cl C fp j a i n m) tg g) (O:zcn (cY X N scope cl C fp j a i n m) ifs tc) (he:PE (cY X N scope cl C fp j a i n m) elt te) (M:Inv X j D i a) (T:Turn X.prog X.w X.K tg J fp it tn) (r:tn 0 a.heap) (q:∀b∈fp,zaI X j i b)
  (q2:yh J g tc te Q a.heap.objs.size v (upd i a.heap.objs.size (.lst []))) (k:∀b u,a.heap.get? b=some u->h.get? b=some u) (own:∀x c,cl.lookup x=some c->X.env.cells.lookup x=some c\/C<=c)
  (L:(∀b∈fp,∃o,a.heap.get? b=some o)->Inv (cY X N scope cl C fp j a i n m) [] v (upd i a.heap.objs.size (.lst [])) { a with heap:=h,toks:=tk }) (y:∀f D H I,Inv (cY X N scope cl C fp j a i n m) [] D H I->Q (.ref a.heap.objs.size) H->R (.ok f) I) :
  SV (Xn X.prog X.w) X.A (.compStart (.ListComp elt [⟨tg,iter,ifs,0⟩] scope pos) 0 (.ref it) (.ref a.heap.objs.size) (compEnvC scope cl C X.env)) R { a with heap:=h,toks:=tk }:=by
 have G:∀b∈fp,∃o,a.heap.get? b=some o:=λb d=>let ⟨o,e,_⟩:=T.obj 0 _ r b d;⟨o,e⟩
 have lt:∀b∈fp,b<a.heap.objs.size:=λb d=>let ⟨_,e⟩:=G b d;XB e
 refine zkm (Y:=cY X N scope cl C fp j a i n m) l hx T U O he q2 (λ{H'} hn b d=>(dQ (hn b d) ?_ (λz=>(XH.mp (M.stkSub b z)).elim (q b d).2.1 (q b d).2.2.1) (.inl d) (λx c z=>?_) (λp hp=>?_))) (L G) (T.keep 0 _ _ r λb _ o e=>k b o e) (λb d=>?_) y
 .show b≠C;rw[E];exact Xi (Wo (lt b d))
 .rcases own x c z with z | z
  .exact(q b d).2.2.2.2.1 x c z
  .rw[E]at z;exact Uq (Xk (Wo (lt b d)) z)
 .have B:p∈X.pn++j:=by
   have:p∈(X.pn++j)++[]:=hp;simpa using this
  exact(q b d).2.2.2.2.2 p B
 .rw[zj (Xi (lt b d))];exact(q b d).1
def zqe {h a:Heap}(d:V6 (h.push { cls:=.type "list",dict:=none,data:=.seq ([]:List X9).toArray }).objs.size ((h.push { cls:=.type "list",dict:=none,data:=.seq ([]:List X9).toArray }).push { cls:=.type "dict",data:=.dict #[] }) a):(h.push { cls:=.type "list",dict:=none,data:=.seq ([]:List X9).toArray }).objs.size=h.objs.size+1/\(∀b u,h.get? b=some u->a.get? b=some u)/\a.get? h.objs.size=some { cls:=.type "list",data:=.seq #[] }:=by
 generalize hP:h.push { cls:=.type "list",dict:=none,data:=.seq ([]:List X9).toArray }=P2 at d ⊢;have c:P2.objs.size=h.objs.size+1:=by rw[<- hP,U3]
 exact⟨c,λb u e=>(d.2 b (by rw[c];exact Xi (Wo (XB e)))).trans (XV _ (hP ▸ XV _ e)),(d.2 _ (by rw[c];exact(U9 _).symm)).trans (XV _ (hP ▸ Xc _ rfl))⟩
section
variable {bz:List (Addr×Obj)}{σ:St}{H:Hp}{s:X7}{use:Option (X9->Sem Unit)}{R:X9->X7->Prop}{Q:VK}{p2:Pos}
def zgn (ok:yN X N src scope cl)(d:X.calm=true)(u:PI X tg iter wi)
  (r:∀C fp bz s H,PG (jz X N scope cl C fp bz s H) tg g) (q:∀C fp bz s H,zcn (jz X N scope cl C fp bz s H) ifs tc) (he:∀C fp bz s H,PE (jz X N scope cl C fp bz s H) elt te)
  (B:∀x,VM iter X.env x=pure x) (I:Inv X bz σ H s) (h:zb0 wi src g tc te σ H Q) (j:znY X N scope bz σ use R Q):Xj (Xn X.prog X.w) X.A (OB (.ListComp elt [⟨tg,iter,ifs,0⟩] scope pos) scope X.env p2 (newList []) false (eval iter X.env) use) R X.xe s:=by
 refine Rr (use:=use) rfl B ok.clos ok.kind ok.names (thn (u bz s σ H _ I h) λxv s1 h1=>thn h1 λE U h2=>?_);revert h2;refine gh λO fp Y J M=>fJ λe f T m i G=>?_;subst e;refine VA (wpAny_newFunctionEnv ok.nocell (by intro y D;simp at D) (λn a b=>?_) ok.kind);dsimp only at a b ⊢;obtain⟨l,k,p⟩:=zqe b;exact zgm l d (λz=>z.elim) (r _ _ _ _ _) (q _ _ _ _ _) (he _ _ _ _ _) f T m i (G _ (f.hok.fresh (XU _))) k (λx c z=>.inl (ok.sub x c z)) (λv=>zhS ok f i v l k p a) λ_ _ _ _ o L=>j l f i o L
end
def znZ (ok:yN X N src scope cl)(a:X.calm=true)(e:PI X tg iter wi)
  (d:∀C fp b s H,PG (jz X N scope cl C fp b s H) tg g) (c:∀C fp b s H,zcn (jz X N scope cl C fp b s H) ifs tc) (he:∀C fp b s H,PE (jz X N scope cl C fp b s H) elt te)
  (f:∀x,VM iter X.env x=pure x:=by intro _;rfl):PE X (.ListComp elt [⟨tg,iter,ifs,0⟩] scope pos) (zb0 wi src g tc te):=λ_ _ _ _ _ I h=>zgn ok a e d c he f I h zpj
end
section
variable {K:XX}{src:List (Option Nat)}{g:TG}{tc:TT}{te:TE}{Q:VK}{σ:St}{H:Hp}{D:Addr}
def qb {a:Addr}{xs:AF}(Pv:Nat->St->Hp->Prop)(h0:Pv 0 σ H)(r:∀i σ H,i<=xs.length->Pv i σ H->SqL K H a xs)
  (s:∀i x σ H,xs[i]?=some x->Pv i σ H->g x σ H fun c l=>tc c l λb f=>if b=true then te c f λy h=>∃ys,h D=some (.lst ys)/\ys.length<XA/\Pv (i+1) c (upd h D (.lst (ys++[y]))) else Pv (i+1) c f)
  (n:∀ σ H,Pv xs.length σ H->Q (.ref D) H):yh (Itl K a) g tc te Q D σ H:=by
 refine⟨λi m σ H=>m=xs.length-i/\i<=xs.length/\Pv i σ H,⟨xs.length,by simp,WY _,h0⟩,?_⟩;rintro i m σ H ⟨rfl,o,p⟩;have q:=r i σ H o p;by_cases d:i<xs.length
 .refine .inr ⟨⟨xs,xs[i],q,by simp[d]⟩,Pv (i+1),fun v j u=>⟨xs.length-(i+1),by lia,rfl,d,u⟩,λx j y=>?_⟩;obtain⟨e,y⟩:=y;subst e;exact s i x σ _ (y xs q) p
 .have e:i=xs.length:=by lia
  subst e;exact .inl ⟨⟨xs,q,XU _⟩,n σ H p⟩
def zhT {lo:Int}{n:Nat}(Pv:Nat->St->Hp->Prop)(h0:Pv 0 σ H)
  (o:∀i σ H,i<n->Pv i σ H->g (.int (lo+i)) σ H fun a j=>tc a j λb d=>if b=true then te a d λy f=>∃ys,f D=some (.lst ys)/\ys.length<XA/\Pv (i+1) a (upd f D (.lst (ys++[y]))) else Pv (i+1) a d)
  (l:∀ σ H,Pv n σ H->Q (.ref D) H):yh (Itr lo n) g tc te Q D σ H:=by
 refine⟨λi m σ H=>m=n-i/\i<=n/\Pv i σ H,⟨n,by simp,WY _,h0⟩,?_⟩;rintro i m σ H ⟨rfl,s,p⟩;by_cases c:i<n
 .refine .inr ⟨c,Pv (i+1),fun r h q=>⟨n-(i+1),by lia,rfl,c,q⟩,λx h y=>?_⟩;obtain⟨e,y⟩:=y;subst e y;exact o i σ _ c p
 .have e:i=n:=by lia
  subst e;exact .inl ⟨XU _,l σ H p⟩
end
section
variable {X:Cx}{K:XX}
def ZH {a:Expr}{c:TE}(d:X.K=K)(e:PE X a c)(he:∀whole,isTrue a X.env whole=(do let v <- whole;standAt a.pos;holding [v] (truthy v))) :
  PT X a (fun f H Q=>c f H λx b=>∃k,zp3 K x b k/\Q k b):=by
 subst d;exact yf e he
def zn0 (a:X.K=K):IxR X (zrz K):=by
 subst a;exact qN
def zaP (a:X.K=K):qM X (.builtin "isinstance") (λxs H Q=>∃x T U b,xs=[x,.ty U]/\zaK K H x (.type T)/\zqc T U=some b/\Q (.bl b) H):=by
 subst a;exact xV
def zb1 (a:X.K=K)(b:X.A.units+64<VN):OpR X (Wr .Eq) (znV K false):=by
 subst a;exact yx b
def zb2 (a:X.K=K)(b:X.A.units+64<VN):OpR X (Wr .NotEq) (znV K true):=by
 subst a;exact jy b
def qI (a:X.K=K)(b:X.A.units+64<VN):OpR X (Wr .In) (znW K false):=by
 subst a;exact zcO b
def Y9 (a:X.K=K)(b:X.A.units+64<VN):OpR X (Wr .NotIn) (znW K true):=by
 subst a;exact zdY b
def zfp {a:List Expr}{k:Nat}{t:TGs}{n:Nat}{pos:Pos}(c:X.K=K)(d:X.calm=true)(h:PGs X a t)
  (e:(Tj a X.env).length=n:=by rfl) (b:(Tj a X.env).findIdx? (·.1)=none:=by rfl):PG X (.Tuple a k pos) (zrr K n t):=by
 subst c;exact yX d h e b
end
section
variable {fs ch:List Addr}{H:Hp}{h h':Heap}{a:Addr}{o:HO}
def Un.laidX (k:∀b u,b ∉ ch->h.get? b=some u->h'.get? b=some u)(hp:h.objs.size<=a)(hn:H a=none):Un fs ch H (upd H a o) h h' where
 keep:=λb u q _ _ hx=>k b u hx q
 slot:=λb u q _ _ hx=>⟨u.slots,k b u hx q⟩
 free:=λb u q n _=>by rw[zj (Xi (Xk (XB q) hp))];exact n
 there:=λb u q hx=>⟨u,k b u hx q⟩
 tups:=λb xs q=>by rw[zj (zh q hn)];exact q
 frzs:=λb u xs q=>by rw[zj (zh q hn)];exact q
 tbls:=λb ps q=>⟨#[],by rw[zj (zh q hn),q];simp⟩
def Un.keptX (k:∀b u,b ∉ ch->h.get? b=some u->h'.get? b=some u):Un fs ch H H h h' :=
 ⟨λb ob q _ _ a=>k b ob a q,λb ob q _ _ a=>⟨ob.slots,k b ob a q⟩,λ_ _ _ n _=>n,λb ob q a=>⟨ob,k b ob a q⟩,λ_ _ q=>q,λ_ _ _ q=>q,λ_ c q=>⟨#[],by rw[q];simp⟩⟩
def HOk.keptX {P:Xm}{w:W3}(x:HOk P w H h)(k:∀b u,b ∉ ch->h.get? b=some u->h'.get? b=some u)(a:∀b∈ch,H b=none):HOk P w H h':=λb u e=>by
 refine(x b u e).stay (λc v hc q=>k c v (λz=>?_) q) (λ_ q=>q) λ_ _ q=>q;have n:=a c z;rcases hc with rfl | hc
 .rw[n]at e;cases e
 .rw[n]at hc;cases hc
def HOk.laidX {P:Xm}{w:W3}(x:HOk P w H h)(k:∀b u,b ∉ ch->h.get? b=some u->h'.get? b=some u)(d:∀b∈ch,H b=none)(j:h.objs.size<=a)(f:qH P w (upd H a o) h' a o):HOk P w (upd H a o) h':=λb u e=>by
 have i:=x.fresh j;by_cases g:b=a
 .subst g;rw[zb]at e;cases e;exact f
 .rw[zj g]at e;refine(x b u e).stay (λc v hc q=>k c v (λz=>?_) q) (λc q=>by rw[zj (zh q i)];exact q) λc l q=>by rw[zj (zh q i)];exact q
  have n:=d c z;rcases hc with rfl | hc
  .rw[n]at e;cases e
  .rw[n]at hc;cases hc
end
section
variable {X:Cx}{bz:List (Addr×Obj)}{s:X7}{σ:St}{H:Hp}{E:X9->X7->Prop}{fp wr FP:List Addr}{elts:List Expr}{k:Nat}{pos:Pos}{e:Addr}{n i:Nat}{Pt:Nat->Array X9->Prop}{Sn:Nat->Heap->Prop}{Mid:Nat->Addr->Heap->Prop}{J:It}{tn:Nat->Heap->Prop}
def zhU (I:Inv X bz σ H s)(G:∀b∈fp,zaI X bz H b)(ho:∀b∈fp,∃o,s.heap.get? b=some o)(p:∀b∈wr,b∈fp)(W:WalksT X.prog X.w X.A e FP wr n Pt Sn Mid)(hi:i<n)(st:Sn i s.heap)
  (y:∀T a,H T=none->Pt i a->∃vs,Vals vs a.toList/\vs.length<=XA/\J.yld i H (.ref T) (upd H T (.tup vs))) (nx:∀g,Sn (i+1) g->tn (i+1) g) :
  Xj (Xn X.prog X.w) X.A (RW (.ref e)) (λr s1=>∃u,r=some u /\
   Xj (Xn X.prog X.w) X.A (Sc (.Tuple elts k pos) (.ref e) u) (λ_ O=>∃x z,Inv X bz σ z O/\RelV x u/\J.yld i H x z/\tn (i+1) O.heap/\∀b∈fp,z b=none) E s1) E s:=by
 refine W.item i s _ E hi st λT a U Q hP h Y L kk=>⟨.ref T,rfl,?_⟩;have M:H T=none:=I.hok.fresh h;refine fy (λvs hv hl hy=>?_) (y T a M hP);refine W.go elts k pos i T { s with heap:=U,toks:=Q } _ E L λg v q=>?_;have N:∀b o,b ∉ wr->s.heap.get? b=some o->g.get? b=some o:=λb o j e=>q b o j (kk b o j e);have l:N5 g T a:=by
  obtain⟨o,B,c,m,d⟩:=Y;exact⟨o,q T o (W.apart i T _ L) B,c,m,d⟩
 have D:∀b∈wr,H b=none:=λb j=>(G b (p b j)).1;refine dU (.ref T) (upd H T (.tup vs)) ?_ rfl hy (nx _ v) (λb j=>?_)
 .exact I.call' (s':={ s with heap:=g,toks:=Q }) (ch:=wr) rfl (Un.laidX N h M) (HOk.laidX I.hok N D h ⟨hl,a.toList,hv,by simpa using l⟩) I.bare λb j=>let f:=G b (p b j);⟨f.2.2.2.1,f.2.1,f.2.2.2.2.1,f.2.2.2.2.2⟩
 .obtain⟨o,B⟩:=ho b j;rw[zj (Xi (Xk (XB B) h))];exact(G b j).1
def zhV (I:Inv X bz σ H s)(d:∀b∈fp,zaI X bz H b)(a:∀b∈wr,b∈fp)(W:WalksT X.prog X.w X.A e FP wr n Pt Sn Mid)(st:Sn n s.heap) :
  Xj (Xn X.prog X.w) X.A (RW (.ref e)) (λr s1=>r=none/\Inv X bz σ H s1) E s :=
 W.done s _ E st λh i g=>⟨rfl,I.call' (s':={ s with heap:=h,toks:=i }) (ch:=wr) rfl (Un.keptX g) (HOk.keptX I.hok g λb c=>(d b (a b c)).1) I.bare λb c=>let f:=d b (a b c);⟨f.2.2.2.1,f.2.1,f.2.2.2.2.1,f.2.2.2.2.2⟩⟩
end
def JO {h:Heap}{b:Addr}{o:Obj}{vs:Array X9}(e:h.get? b=some o)(d:o.data=.fields vs):∃o,h.get? b=some o/\∀v,o.data ≠ .cell v:=⟨o,e,λv z=>by rw[d]at z;cases z⟩
def Ite (K:XX)(l:Addr):It:=⟨λi H=>∃a,SqL K H l a/\i<a.length,λi H x b=>∃T,x=.ref T/\H T=none/\∀a,SqL K H l a->∃v,a[i]?=some v/\b=upd H T (.tup [.int i,v]),λi H=>∃a,SqL K H l a/\i=a.length⟩
def zkn {P:Xm}{w:W3}{K:XX}{elts:List Expr}{k:Nat}{pos:Pos}(e it l:Addr)(hei:e≠it)(hle:l≠e)(hli:l≠it) :
  Turn P w K (.Tuple elts k pos) (Ite K l) [e,it] e (λi h=>(∃old,IsEnum h e it i old)/\h.IsListIter it l i) where
 mem:=by simp
 obj:=λi h st b hb=>by
  obtain⟨⟨old,he⟩,o,e2,c,d⟩:=st;rcases XH.mp hb with rfl | hb
  .exact JO he rfl
  .have z:b=it:=by simpa using hb
   subst z;exact JO e2 d
 keep:=λi h h' st kk=>by
  obtain⟨⟨old,he⟩,o,e2,r⟩:=st;exact⟨⟨old,kk e (by simp) _ he⟩,o,kk it (by simp) o e2,r⟩
 item:=by
  intro X hP hw hK hc i bz s σ H E I hf st hg;subst hP hw hK;obtain⟨xs,hq,hlt⟩:=hg;refine fy (λits rv p hz=>?_) (I.list hq);have hl:=rv.length;obtain⟨⟨old,he⟩,o2,e2,c2,d2⟩:=id st;refine zhU (wr:=[e,it]) (J:=Ite X.K l) (tn:=λi h=>(∃old,IsEnum h e it i old)/\h.IsListIter it l i) I hf (λb hb=>?_) (λb hb=>hb) (WalksT.enumerate (I.ok.hd hc) e it l hei hle hli its.toArray) (by simp;lia) ⟨st.1,st.2,p.isList⟩ (λT vals hn hp=>?_) λh'' q=>⟨q.1,q.2.1⟩
  .rcases XH.mp hb with rfl | hb
   .exact⟨_,he⟩
   .have z:b=it:=by simpa using hb
    subst z;exact⟨_,e2⟩
  .obtain⟨t,x,hx,rfl⟩:=hp;have hx':its[i]?=some x:=by simpa using hx
   obtain⟨u,hu,ru⟩:=rv.get (i:=i) (x:=xs[i]) (by rw[XZ hlt]);rw[hu]at hx';cases hx';exact dI [.int i,xs[i]] (.cons ⟨t,rfl⟩ (.cons ru .nil)) (by show 2<=XA;decide) (dI T rfl hn (λys hy=>⟨xs[i],by rw[I.list_inj hy hq,XZ hlt],rfl⟩))
 done:=by
  intro X hP hw hK hc i bz s σ H E I hf st hg;subst hP hw hK;obtain⟨xs,hq,rfl⟩:=hg;obtain⟨its,rv,p,hz⟩:=I.list hq;have hl:its.toArray.size=xs.length:=by simp[rv.length]
  refine zhV (fp:=[e,it]) (wr:=[e,it]) I hf (λb hb=>hb) (WalksT.enumerate (I.ok.hd hc) e it l hei hle hli its.toArray) ?_;rw[hl];exact⟨st.1,st.2,p.isList⟩
 self:=λA i s Q E st h=>by
  obtain⟨⟨old,he⟩,_⟩:=st;exact SN he h
def zn1 (x:Str):It:=⟨λi _=>i<x.cps.size,λi H v a=>∃T c,v=.ref T/\H T=none/\x.cps[i]?=some c/\a=upd H T (.tup [.int i,.str ⟨#[c]⟩]),λi _=>i=x.cps.size⟩
def zcP {P:Xm}{w:W3}{K:XX}{elts:List Expr}{k:Nat}{pos:Pos}(e it:Addr)(x:Str)(t:Tok)(n:String)(hei:e≠it)
  (D:∀A:WN,A.handled=none->Draws P w A it [it] x.cps.size (λi v=>∃c u,x.cps[i]?=some c/\v=.str ⟨#[c]⟩ u) (λi h=>h.IsStrIter it n x t i)) :
  Turn P w K (.Tuple elts k pos) (zn1 x) [e,it] e (λi h=>(∃old,IsEnum h e it i old)/\h.IsStrIter it n x t i) where
 mem:=by simp
 obj:=λi h st b hb=>by
  obtain⟨⟨old,he⟩,o,e2,c,d⟩:=st;rcases XH.mp hb with rfl | hb
  .exact JO he rfl
  .have z:b=it:=by simpa using hb
   subst z;exact JO e2 d
 keep:=λi h h' st kk=>by
  obtain⟨⟨old,he⟩,o,e2,r⟩:=st;exact⟨⟨old,kk e (by simp) _ he⟩,o,kk it (by simp) o e2,r⟩
 item:=by
  intro X hP hw hK hc i bz s σ H E I hf st hg;subst hP hw hK;obtain⟨⟨old,he⟩,o2,e2,c2,d2⟩:=id st;refine zhU (wr:=[e,it]) (J:=zn1 x) (tn:=λi h=>(∃old,IsEnum h e it i old)/\h.IsStrIter it n x t i) I hf (λb hb=>?_) (λb hb=>hb) (WalksT.enumerateD (D X.A.in1 (I.ok.hd hc)) e hei (by simpa using hei) (by simp)) hg st (λT vals hn hp=>?_) λh'' q=>q
  .rcases XH.mp hb with rfl | hb
   .exact⟨_,he⟩
   .have z:b=it:=by simpa using hb
    subst z;exact⟨_,e2⟩
  .obtain⟨t',v,⟨c,u,hx,rfl⟩,rfl⟩:=hp;exact dI [.int i,.str ⟨#[c]⟩] (.cons ⟨t',rfl⟩ (.cons ⟨u,rfl⟩ .nil)) (by show 2<=XA;decide) (dY T c rfl hn hx rfl)
 done:=by
  intro X hP hw hK hc i bz s σ H E I hf st hg;subst hP hw hK;have z:i=x.cps.size:=hg;subst z;exact zhV (fp:=[e,it]) (wr:=[e,it]) I hf (λb hb=>hb) (WalksT.enumerateD (D X.A.in1 (I.ok.hd hc)) e hei (by simpa using hei) (by simp)) st
 self:=λA i s Q E st h=>by
  obtain⟨⟨old,he⟩,_⟩:=st;exact SN he h
def Itz (K:XX)(l1 l2:Addr):It:=⟨λi H=>∃a b,SqL K H l1 a/\SqL K H l2 b/\i<a.length/\i<b.length,
 λi H x d=>∃T,x=.ref T/\H T=none/\∀a b,SqL K H l1 a->SqL K H l2 b->∃v c,a[i]?=some v/\b[i]?=some c/\d=upd H T (.tup [v,c]),λi H=>∃a b,SqL K H l1 a/\SqL K H l2 b/\i=min a.length b.length⟩
def zlK {P:Xm}{w:W3}{K:XX}{elts:List Expr}{k:Nat}{pos:Pos}(z TI TO i1 i2 l1 l2:Addr)(D:ZipApart z TI TO i1 i2 l1 l2) :
  Turn P w K (.Tuple elts k pos) (Itz K l1 l2) [z,TI,TO,i1,i2] z (λi h=>IsZip h z TI TO .none/\IsPair h TI (.ref i1) (.ref i2)/\(∃a b,IsPair h TO a b)/\h.IsListIter i1 l1 i/\h.IsListIter i2 l2 i) where
 mem:=by simp
 obj:=λi h st b hb=>by
  obtain⟨hz,hTI,⟨a,b',hTO⟩,⟨o1,e1,c1,d1⟩,⟨o2,e2,c2,d2⟩⟩:=st;simp only[XH,Vq,or_false]at hb;rcases hb with rfl | rfl | rfl | rfl | rfl
  .exact JO hz rfl
  .exact⟨_,hTI,λv q=>by cases q⟩
  .exact⟨_,hTO,λv q=>by cases q⟩
  .exact JO e1 d1
  .exact JO e2 d2
 keep:=λi h h' st kk=>by
  obtain⟨hz,hTI,⟨a,b',hTO⟩,⟨o1,e1,r1⟩,⟨o2,e2,r2⟩⟩:=st;exact⟨kk z (by simp) _ hz,kk TI (by simp) _ hTI,⟨a,b',kk TO (by simp) _ hTO⟩,⟨o1,kk i1 (by simp) _ e1,r1⟩,⟨o2,kk i2 (by simp) _ e2,r2⟩⟩
 item:=by
  intro X hP hw hK hc i bz s σ H E I hf st hg;subst hP hw hK;revert hg;refine fm λxs ys hq1 hq2 hlt1 hlt2=>?_;refine fy (λits1 rv1 p1 hz1=>?_) (I.list hq1);refine fy (λits2 rv2 p2 hz2=>?_) (I.list hq2);have g1:=rv1.length;have g2:=rv2.length;obtain⟨hz,hTI,⟨a,b',hTO⟩,⟨o1,e1,r1⟩,⟨o2,e2,r2⟩⟩:=id st;refine zhU (wr:=[z,TO,i1,i2]) (J:=Itz X.K l1 l2) (tn:=λi h=>IsZip h z TI TO .none/\IsPair h TI (.ref i1) (.ref i2)/\(∃a b,IsPair h TO a b)/\h.IsListIter i1 l1 i/\h.IsListIter i2 l2 i) I hf (λb hb=>?_) (λb hb=>?_) (WalksT.zip2 (I.ok.hd hc) z TI TO i1 i2 l1 l2 D its1.toArray its2.toArray) (by simp;lia) (dJ st.1 st.2.1 st.2.2.1 st.2.2.2.1 (dD st.2.2.2.2 p1.isList p2.isList)) (λT vals hn hp=>?_) λh'' q=>⟨q.1,q.2.1,q.2.2.1,q.2.2.2.1,q.2.2.2.2.1⟩
  .simp only[XH,Vq,or_false]at hb;rcases hb with rfl | rfl | rfl | rfl | rfl
   .exact⟨_,hz⟩
   .exact⟨_,hTI⟩
   .exact⟨_,hTO⟩
   .exact⟨_,e1⟩
   .exact⟨_,e2⟩
  .simp only[XH,Vq,or_false]at hb ⊢;rcases hb with rfl | rfl | rfl | rfl<;>simp
  .obtain⟨x,y,hx,hy,rfl⟩:=hp;have hx':its1[i]?=some x:=by simpa using hx
   have hy':its2[i]?=some y:=by simpa using hy
   obtain⟨u,hu,ru⟩:=rv1.get (i:=i) (x:=xs[i]) (by rw[XZ hlt1]);obtain⟨u',hu',ru'⟩:=rv2.get (i:=i) (x:=ys[i]) (by rw[XZ hlt2]);rw[hu]at hx';rw[hu']at hy';cases hx';cases hy';exact dI [xs[i],ys[i]] (.cons ru (.cons ru' .nil)) (by show 2<=XA;decide) (dI T rfl hn (λxs' ys' h1 h2=>⟨xs[i],ys[i],by rw[I.list_inj h1 hq1,XZ hlt1],by rw[I.list_inj h2 hq2,XZ hlt2],rfl⟩))
 done:=by
  intro X hP hw hK hc i bz s σ H E I hf st hg;subst hP hw hK;obtain⟨xs,ys,hq1,hq2,rfl⟩:=hg;obtain⟨its1,rv1,p1,hz1⟩:=I.list hq1;obtain⟨its2,rv2,p2,hz2⟩:=I.list hq2;have g1:min its1.toArray.size its2.toArray.size=min xs.length ys.length:=by simp[rv1.length,rv2.length]
  refine zhV (fp:=[z,TI,TO,i1,i2]) (wr:=[z,TO,i1,i2]) I hf (λb hb=>?_) (WalksT.zip2 (I.ok.hd hc) z TI TO i1 i2 l1 l2 D its1.toArray its2.toArray) ?_
  .simp only[XH,Vq,or_false]at hb ⊢;rcases hb with rfl | rfl | rfl | rfl<;>simp
  .rw[g1];exact dJ st.1 st.2.1 st.2.2.1 st.2.2.2.1 (dD st.2.2.2.2 p1.isList p2.isList)
 self:=λA i s Q E st h=>wpAny_pyIter_zip st.1 h
section
variable {X:Cx}{elts:List Expr}{k:Nat}{tpos:Pos}
def zqf (K:XX)(b:TA):TI:=fun e H R=>b e H λc a=>∃l,c=[.ref l]/\(∃d,SqL K a l d)/\R (Ite K l) a
def JP {a:Expr}{o:TA}{p pos:Pos}(y:Gl X "enumerate")(z:X.mg "enumerate"=none)(x:PA X [a] o)(B:WS [a] X.env=[(false,eval a X.env)]:=by rfl):PI X (.Tuple elts k tpos) (.Call (.Name "enumerate" p) [a] [] pos) (zqf X.K o):=by
 intro m s r H R I h;refine Call_ (Y4 I y z boot_enumerate (V0 (thn (x pos m s r H _ I h) λU s1 ⟨Y,j,f,L,J⟩=>?_) B rfl));obtain⟨l,rfl,⟨xs,A⟩,q⟩:=J;obtain⟨u,rfl,M⟩:=vals1 L;cases M;obtain⟨E,Q,n,N⟩:=f.list A;obtain⟨O,i,_⟩:=n.isList;have d:=XB i;refine call_enumerate_list n.isList λw he g D G=>?_;have v:Inv X m r j { s1 with heap:=w }:=f.kept (t':=s1.toks) G;refine SN he ?_;refine dF (s1.heap.objs.size+1) [s1.heap.objs.size+1,s1.heap.objs.size] (eY j rfl v (zkn (s1.heap.objs.size+1) s1.heap.objs.size l (U9 _) (Xi (Wo d)) (Xi d)) ⟨⟨_,he⟩,g⟩ (λb hb=>?_) q);have c:s1.heap.objs.size<=b:=by
  rcases XH.mp hb with e | hb
  .rw[e];exact VX _
  .have e:b=s1.heap.objs.size:=by simpa using hb
   rw[e];exact XU _
 exact f.fpOk c (f.hok.fresh c)
def zqg (b:TA):TI:=fun d H R=>b d H λc a=>∃z,c=[.str z]/\R (zn1 z) a
def zlL {a:Expr}{o:TA}{p pos:Pos}(w:Gl X "enumerate")(x:X.mg "enumerate"=none)(i:PA X [a] o)(y:WS [a] X.env=[(false,eval a X.env)]:=by rfl):PI X (.Tuple elts k tpos) (.Call (.Name "enumerate" p) [a] [] pos) (zqg o):=by
 intro l s r H R I h;refine Call_ (Y4 I w x boot_enumerate (V0 (thn (i pos l s r H _ I h) λJ s1 ⟨L,g,j,G,E⟩=>?_) y rfl));obtain⟨z,rfl,q⟩:=E;obtain⟨u,rfl,t,rfl⟩:=vals1 G;refine call_enumerate_str λv he c B D=>?_;have n:Inv X l r g { s1 with heap:=v }:=j.kept (t':=s1.toks) D;refine SN he ?_;have d:∀b ∈ [s1.heap.objs.size+1,s1.heap.objs.size],zaI X l g b:=λb hb=>by
  have f:s1.heap.objs.size<=b:=by
   rcases XH.mp hb with e | hb
   .rw[e];exact VX _
   .have e:b=s1.heap.objs.size:=by simpa using hb
    rw[e];exact XU _
  exact j.fpOk f (j.hok.fresh f)
 unfold strIterType at c;by_cases i:z.cps.all (· < 128)=true
 .rw[bw i]at c;exact dF (s1.heap.objs.size+1) [s1.heap.objs.size+1,s1.heap.objs.size] (eY g rfl n (zcP (s1.heap.objs.size+1) s1.heap.objs.size z t "str_ascii_iterator" (U9 _) (λA m=>Draws.strAscii m _ z t)) ⟨⟨_,he⟩,c⟩ d q)
 .rw[bq i]at c;exact dF (s1.heap.objs.size+1) [s1.heap.objs.size+1,s1.heap.objs.size] (eY g rfl n (zcP (s1.heap.objs.size+1) s1.heap.objs.size z t "str_iterator" (U9 _) (λA m=>Draws.strWide m _ z t)) ⟨⟨_,he⟩,c⟩ d q)
def zsE (K:XX)(d:TA):TI:=fun h H R=>d h H λe a=>∃b c,e=[.ref b,.ref c]/\(∃f,SqL K a b f)/\(∃g,SqL K a c g)/\R (Itz K b c) a
def zqh {a b:Expr}{L:TA}{p pos:Pos}(hg:Gl X "zip")(hm:X.mg "zip"=none)(Y:PA X [a,b] L)(hs:WS [a,b] X.env=[(false,eval a X.env),(false,eval b X.env)]:=by rfl)(f:WS [b] X.env=[(false,eval b X.env)]:=by rfl) :
  PI X (.Tuple elts k tpos) (.Call (.Name "zip" p) [a,b] [] pos) (zsE X.K L):=by
 intro z s M H R I h;refine Call_ (Y4 I hg hm boot_zip (V0 (thn (Y pos z s M H _ I h) λus s1 ⟨vs,y,d,r1,q1⟩=>?_) (by rw[hs,f]) (by rw[f];rfl)));obtain⟨v,w,rfl,⟨xs,o⟩,⟨ys,r⟩,q⟩:=q1;obtain⟨u,u',rfl,ru,x⟩:=vals2 r1;cases ru;cases x;obtain⟨D,af,G,ab⟩:=d.list o;obtain⟨E,ag,J,ac⟩:=d.list r;obtain⟨o1,m,_⟩:=G.isList;obtain⟨o2,n,_⟩:=J.isList;have ae:@LT.lt Nat _ v s1.heap.objs.size:=XB m;have lt2:@LT.lt Nat _ w s1.heap.objs.size:=XB n;refine call_zip_2 G.isList J.isList λQ B g i j l aa kk=>?_;have O:Inv X z M y { s1 with heap:=Q }:=d.kept (t':=s1.toks) kk;refine wpAny_pyIter_zip B ?_;generalize U:s1.heap.objs.size=N at *
 have c:ZipApart (N+4) (N+2) (N+3) N (N+1) v w:=by
  constructor<;>first
   | exact Xi (by lia)
   | exact Uq (by lia)
 refine dF (N+4) [N+4,N+2,N+3,N,N+1] (eY y rfl O (zlK (N+4) (N+2) (N+3) N (N+1) v w c) ⟨B,g,⟨_,_,i⟩,j,l⟩ (λb A=>?_) q);have e:s1.heap.objs.size<=b:=by
  rw[U];simp only[XH,Vq,or_false]at A;rcases A with rfl | rfl | rfl | rfl | rfl<;>lia
 exact d.fpOk e (d.hok.fresh e)
def zaQ:qM X (.type "int") (λxs H Q=>∃x n,xs=[.str x]/\Pf x=some n/\x.length<=640/\Q (.int n) H):=by
 intro c s e H xs d Q I r h;obtain⟨x,n,rfl,b,a,q⟩:=h;obtain⟨u,rfl,t,rfl⟩:=vals1 r;exact PySem.W.KIN.call_text b a ⟨.int n,H,I.tok _,⟨_,rfl⟩,q⟩
end
def JD {K:XX}{l:Addr}{xs:AF}{g:TG}{n:TS}{D:Ends}{a:St}{H:Hp}(Pv:Nat->St->Hp->Prop)(h0:Pv 0 a H)(u:∀i a H,i<=xs.length->Pv i a H->SqL K H l xs)
  (w:∀i x T a H,xs[i]?=some x->H T=none->Pv i a H->g (.ref T) a (upd H T (.tup [.int i,x])) fun d h=>n { D with nx:=Pv (i+1),ct:=Pv (i+1),bk:=D.nx } d h) (r:∀ a H,Pv xs.length a H->D.nx a H) :
  ∃W:Nat->Nat->St->Hp->Prop,(∃m,W 0 m a H)/\∀i m a H,W i m a H ->
   ((Ite K l).stop i H/\D.nx a H)\/((Ite K l).go i H/\∃N:St->Hp->Prop,(∀ c b,N c b->∃j,j<m/\W (i+1) j c b)/\∀x b,(Ite K l).yld i H x b->g x a b fun d h=>n { D with nx:=N,ct:=N,bk:=D.nx } d h):=by
 refine⟨λi m a H=>m=xs.length-i/\i<=xs.length/\Pv i a H,⟨xs.length,by simp,WY _,h0⟩,?_⟩;rintro i m a H ⟨rfl,s,p⟩;have q:=u i a H s p;by_cases f:i<xs.length
 .refine .inr ⟨⟨xs,q,f⟩,Pv (i+1),fun c b A=>⟨xs.length-(i+1),by lia,rfl,f,A⟩,λx b y=>?_⟩;obtain⟨T,rfl,o,y⟩:=y;obtain⟨v,z,rfl⟩:=y xs q;exact w i v T a H z o p
 .have e:i=xs.length:=by lia
  subst e;exact .inl ⟨⟨xs,q,rfl⟩,r a H p⟩
def zhW {g:TG}{l:TT}{n:TE}{Q:VK}{a:St}{H:Hp}{D:Addr}{x:Str}(Pv:Nat->St->Hp->Prop)(h0:Pv 0 a H)
  (w:∀i c T a H,x.cps[i]?=some c->H T=none->Pv i a H->g (.ref T) a (upd H T (.tup [.int i,.str ⟨#[c]⟩])) fun d q=>l d q λb h=>if b=true then n d h λy j=>∃ys,j D=some (.lst ys)/\ys.length<XA/\Pv (i+1) d (upd j D (.lst (ys++[y]))) else Pv (i+1) d h)
  (u:∀ a H,Pv x.cps.size a H->Q (.ref D) H):yh (zn1 x) g l n Q D a H:=by
 refine⟨λi m a H=>m=x.cps.size-i/\i<=x.cps.size/\Pv i a H,⟨x.cps.size,by simp,WY _,h0⟩,?_⟩;rintro i m a H ⟨rfl,B,p⟩;by_cases f:i<x.cps.size
 .refine .inr ⟨f,Pv (i+1),fun A o z=>⟨x.cps.size-(i+1),by lia,rfl,f,z⟩,λv o y=>?_⟩;revert y;refine fm λT c z0 r s z1=>?_;subst z0 z1;exact w i c T a H s r p
 .have e:i=x.cps.size:=by lia
  subst e;exact .inl ⟨rfl,u a H p⟩
def zaR (look:Str->Option Addr):List (Str×Sf)->List (Str×Addr)->List (Str×Addr)
 | [],a=>a
 | (n,k)::r,a=>if k == .free then (match look n with
  | some c=>zaR look r ((n,c)::a)
  | none=>zaR look r a) else zaR look r a
theorem Qa {look:Str->Option Addr}:∀(b:List (Str×Sf)) (a:List (Str×Addr)) (p:Str×Addr),p∈zaR look b a->p∈a\/look p.1=some p.2
 | [],a,p,h=>.inl h
 | (n,k)::r,a,p,h=>by
  unfold zaR at h;split at h
  .cases e:look n with
   | none =>
    rw[e]at h;exact Qa r a p h
   | some c =>
    rw[e]at h;rcases Qa r _ p h with h | h
    .rcases XH.mp h with h | h
     .subst h;exact .inr e
     .exact .inl h
    .exact .inr h
  .exact Qa r a p h
def ZI {x n:Str}{c:Addr}{a:List (Str×Addr)}(h:(a.lookup x).isSome=true\/x=n):(RC x ((n,c)::a)).isSome=true:=by
 rw[Su];cases e:x==n with
 | true=>rfl
 | false =>
  rcases h with h | h
  .exact h
  .subst h;simp at e
def zgo {look:Str->Option Addr}{x:Str}(a:List (Str×Sf))(b:List (Str×Addr))(h:(b.lookup x).isSome=true\/((x,NameKind.free)∈a/\(look x).isSome=true)):((zaR look a b).lookup x).isSome=true:=by
 induction a generalizing b with
 | nil =>
  rcases h with h | h
  .exact h
  .cases h.1
 | cons y r d =>
  obtain⟨n,k⟩:=y;unfold zaR;split
  .rename_i hk;cases e:look n with
   | none =>
    refine d b ?_;rcases h with h | ⟨h,h2⟩
    .exact .inl h
    .rcases XH.mp h with h | h
     .cases h;rw[e]at h2;cases h2
     .exact .inr ⟨h,h2⟩
   | some c =>
    refine d _ ?_;rcases h with h | ⟨h,h2⟩
    .exact .inl (ZI (.inl h))
    .rcases XH.mp h with h | h
     .cases h;exact .inl (ZI (.inr rfl))
     .exact .inr ⟨h,h2⟩
  .rename_i hk;refine d b ?_;rcases h with h | ⟨h,h2⟩
   .exact .inl h
   .rcases XH.mp h with h | h
    .cases h;exact absurd rfl hk
    .exact .inr ⟨h,h2⟩
def YW {e:UB}{d:Env}(h:∀y∈e.names,y.2=.free->(d.cells.lookup y.1).isSome=true):Ot e d=pure (zaR (λx=>d.cells.lookup x) e.names []):=by
 have v:∀(b:List (Str×Sf)) (f:List (Str×Addr)),(∀y∈b,y.2=.free->(d.cells.lookup y.1).isSome=true) ->
   (forIn b f λx l=>(match x with
    | (g,j)=>if (j == .free)=true then do let a <- cellOf d g;pure (V3 ((g,a)::l)) else pure (V3 l):Sem (ForInStep (List (Str×Addr)))))=(pure (zaR (λx=>d.cells.lookup x) b f):Sem _):=by
  intro b;induction b with
  | nil=>intro f _;rfl
  | cons y r s =>
   intro f q;obtain⟨n,k⟩:=y;have p:∀y∈r,y.2=.free->(d.cells.lookup y.1).isSome=true:=λy z=>q y (XT _ z);rw[List.forIn_cons];unfold zaR;by_cases hk:(k==NameKind.free)=true
   .have o:k=.free:=by simpa using hk
    have A:=q (n,k) XQ o;obtain⟨c,w⟩:=Vo.mp A;have i:RC n d.cells=some c:=w;have u:cellOf d n=pure c:=by
     unfold cellOf;rw[i]
    simp only[hk,if_true,u,i,pure_bind];exact s _ p
   .simp only[hk,WD,if_false,pure_bind];exact s _ p
 simp only[Ot];exact Eq.trans (congrArg (λm:Sem (List (Str×Addr))=>m >>= λl=>pure l) (v e.names [] h)) rfl
def Zf {b:UB}{a:Env}{x:Str}{k:Sf}(h:(x,k)∈(UF b a).names)(hk:k=.cell\/k=.free):(x,Tu)∈b.names\/(x,NameKind.free)∈b.names:=by
 obtain⟨y,g,e⟩:=XI.mp h;obtain⟨n,d⟩:=y;by_cases c:(d==NameKind.free&&a.scope.kind == .function&&a.kindOf n==some .cell)=true
 .have f:(if (d==NameKind.free&&a.scope.kind == .function&&a.kindOf n==some .cell)=true then (n,Tu) else (n,d))=(x,k):=e;rw[bw c]at f;cases f;have c1:d=.free:=by
   have:=(Wa.mp (Wa.mp c).1).1;simpa using this
  subst c1;exact .inr g
 .have f:(if (d==NameKind.free&&a.scope.kind == .function&&a.kindOf n==some .cell)=true then (n,Tu) else (n,d))=(x,k):=e;rw[bq c]at f;cases f;rcases hk with rfl | rfl
  .exact .inl g
  .exact .inr g
open PySem PySem.Spec PyProof.Rows PySem.W
section
variable {α β:Type}{R:α->β->Prop}{us us':List α}{cs cs':List β}{i:Nat}{v:α}{c:β}
def zcQ (h:Xl R us cs)(k:Xl R us' cs'):Xl R (us++us') (cs++cs'):=by
 induction h with
 | nil=>exact k
 | cons q _ a=>exact .cons q a
def ZJ (h:Xl R us cs)(e:us[i]?=some v):∃c,cs[i]?=some c/\R v c:=by
 induction h generalizing i with
 | nil=>cases e
 | cons q _ a =>
  cases i with
  | zero =>
   cases e;exact⟨_,rfl,q⟩
  | succ i=>exact a (i:=i) e
def zlM (h:Xl R us cs)(e:v∈us):∃c∈cs,R v c:=by
 induction h with
 | nil=>cases e
 | cons q _ a =>
  rcases XH.mp e with rfl | e
  .exact⟨_,XQ,q⟩
  .obtain⟨c,h,r⟩:=a e;exact⟨c,XT _ h,r⟩
end
def yO (H:Hp):AF->List (Int×Int)->Prop:=Xl λv p=>∃a,v=V.ref a/\H a=some (.tup [.int p.1,.int p.2])
def lt2 (p q:Int×Int):Bool:=if p.1=q.1 then decide (p.2<q.2) else decide (p.1<q.1)
structure zD (h:Heap)(v:X9)(p:Int×Int):Prop where
 ex:∃a o n t u,v=.ref a/\h.get? a=some o/\o.cls=.type "tuple"/\o.data=.seq #[.int p.1 t,.int p.2 u] n
section
variable {X:Cx}{bz:List (Addr×Obj)}{σ:St}{H:Hp}{s:X7}
def yO.pairs (I:Inv X bz σ H s){d:AF}{ps:List (Int×Int)}{b:List X9}(i:yO H d ps)(r:Vals d b):Xl (zD s.heap) b ps:=by
 induction i generalizing b with
 | nil =>
  cases r;exact .nil
 | cons q _ j =>
  obtain⟨a,e,h⟩:=q;subst e;cases r with
  | cons l m =>
   cases l;refine .cons ?_ (j m);obtain⟨c,o,v,_⟩:=I.tuple (SqT.of h);obtain⟨u1,w,rfl,⟨p,rfl⟩,⟨u,rfl⟩⟩:=vals2 o;obtain⟨ob,g,c1,n,f⟩:=v;exact⟨a,ob,n,p,u,rfl,g,c1,f⟩
end
theorem Yo {h h':Heap}(k:∀b o,h.get? b=some o->h'.get? b=some o):∀{c:List X9} {ps:List (Int×Int)},Xl (zD h) c ps->Xl (zD h') c ps
 | _,_,.nil=>.nil
 | _,_,.cons ⟨a,o,n,t,u,e,d,r⟩ tl=>.cons ⟨a,o,n,t,u,e,k _ _ d,r⟩ (Yo k tl)
theorem Yp {h:Heap}:∀{b:List X9} {ps:List (Int×Int)},Xl (zD h) b ps->∃fs:List X9,KatTups h b fs/\fs.length=b.length/\∀v∈fs,∃x t,v=Vv x t
 | _,_,.nil=>⟨[],.nil,rfl,λ_ z=>nomatch z⟩
 | _,_,.cons ⟨a,o,n,t,u,e,f,c,d⟩ tl=>by
  obtain⟨fs,k,l,q⟩:=Yp tl;subst e;refine⟨.int _ t::fs,KatTups.cons f c d rfl k,by simp[l],λv hv=>?_⟩;rcases XH.mp hv with rfl | hv
  .exact⟨_,t,rfl⟩
  .exact q v hv
section
variable {prog:Xm}{w:W3}{A:WN}{E:X9->X7->Prop}{s:X7}
def zjd {v i:X9}{p q:Int×Int}{C:Bool->X7->Prop}(x:zD s.heap v p)(f:zD s.heap i q)(h:C (lt2 p q) s):Xj (Xn prog w) A (keyLt' (tuples' true) v i) C E s:=by
 obtain⟨a,o,n,t,u,rfl,m,c1,l⟩:=x;obtain⟨B,H,G,y,z,rfl,c,j,b⟩:=f;refine kat_lt m l c b ?_;show KatLex prog w A true _ C [(Vv p.1 t,Vv q.1 y),(Vv p.2 u,Vv q.2 z)] 0 s;unfold lt2 at h;refine kat_cons (SeqAt.EqAt.int_int _ _ _ _ prog w _ _ (kat_go (λd=>kat_yes ?_) λd=>kat_no ?_))
 .have e:p.1=q.1:=by simpa using d
  rw[bw e]at h;refine kat_cons (SeqAt.EqAt.int_int _ _ _ _ prog w _ _ (kat_go (λg=>kat_yes (kat_nil ?_)) λg=>kat_no ?_))
  .have D:p.2=q.2:=by simpa using g
   have r:decide (p.2<q.2)=false:=bf (by lia);rw[r]at h;exact h
  .exact kat_one _ _ (lt_int h)
 .have e:¬ p.1=q.1:=by simpa using d
  rw[bq e]at h;exact oneLt_int h
end
section
variable {X:Cx}
def zgp:zrt X (zp8 X.K):=by
 intro g s D H x y v u Q I A B h;revert h;refine fS λp L i z z0 z1 o he q=>?_;subst z0 z1;cases A;obtain⟨t,rfl⟩:=B;obtain⟨c,r,f,J⟩:=I.list o;obtain⟨j,h1,h2,E,l,m⟩:=zcy he;obtain⟨w,e,d⟩:=r.get h2;have n:=r.length;have G:=Y6;have a:EP X g D Q w s:=⟨z,H,I,d,q⟩;by_cases h0:0<=i
 .have b:i.toNat=j:=by
   rw[Pm h0 m]at h1;exact Option.some.inj h1
  exact wpAny_getItem_list f.isList h0 (by lia) (by rw[b];simpa using e) a
 .have b:(i+(c.toArray.size:Int)).toNat=j:=by
   rw[P1 (by lia) l]at h1;rw[Xu,<- n];exact Option.some.inj h1
  exact PU f.isList (by lia) (by rw[Xu]<;>lia) (by lia) (by rw[b];simpa using e) a
theorem zgq:∀{b:List Int} {a:List X9},Vals (b.map V.int) a->OU a b
 | [],_,r=>by cases r;exact .nil
 | n::b,_,r=>by
  cases r with
  | cons c d =>
   obtain⟨t,rfl⟩:=c;exact .cons n t (zgq d)
def zgr (i:X.calm=true):qM X (.builtin "sum") (λxs H Q=>∃(l:Addr) (a:List Int),xs=[.ref l]/\SqL X.K H l (a.map V.int)/\Q (.int a.sum) H):=by
 intro p s A H xs z Q I r h;obtain⟨l,a,rfl,j,q⟩:=h;obtain⟨u,rfl,n⟩:=vals1 r;cases n;obtain⟨b,o,m,w⟩:=I.list j;have e:OU b a:=zgq o;obtain⟨c,d⟩:=e.allInts.items;refine sum_intListG (I.ok.hd i) (xs:=c) (d ▸ m.isList) λv y x hk=>?_;have f:a=c.toList.map (·.1):=by
  rw[<- nums_intItems,<- d];exact(show numsOf b.toArray.toList=a from e.numsOf).symm
 have g:preSum (numAt c) c.size=a.sum:=by
  rw[f,preSum_eq,WR (by simp)]
 rw[g];exact⟨.int _,H,I.kept hk,⟨_,rfl⟩,q⟩
def zer {bs:List Bool}{a:List X9}(r:Vals (bs.map V.bl) a){i:Nat}{v:X9}(e:a[i]?=some v):∃b,bs[i]?=some b/\v=.bool b:=by
 have d:=r.length;rw[ZB]at d;have c:i<bs.length:=by
  have:=(X4.mp e).1;lia
 obtain⟨u,f,g⟩:=r.get (i:=i) (x:=.bl bs[i]) (by rw[Xq,XZ c];rfl);rw[f]at e;cases e;exact⟨bs[i],XZ c,g⟩
def zcR (n:X.calm=true):qM X (.builtin "any") (λxs H Q=>∃(l:Addr) (bs:List Bool),xs=[.ref l]/\SqL X.K H l (bs.map V.bl)/\Q (.bl (bs.any id)) H):=by
 intro z s L H xs J Q I r h;obtain⟨l,bs,rfl,o,q⟩:=h;obtain⟨u,rfl,w⟩:=vals1 r;cases w;obtain⟨a,j,p,D⟩:=I.list o;have d:=p.isList;have f:l<s.heap.objs.size:=let ⟨_,he,_⟩:=d;XB he
 have c:=j.length;rw[ZB]at c;refine call_any_walk (T5 d ?_);refine dR s.heap.objs.size [s.heap.objs.size,l] [s.heap.objs.size] a.toArray.size (fj (λi=>(bs[i]?).getD false) rfl (Walks.list (A:=X.A.in1) (I.ok.hd n) _ l (Xi f) a.toArray) ⟨⟨_,Xc _ rfl,rfl,rfl⟩,d.push _⟩ (λi v E y x hP g=>?_) (λB G hk=>?_))
 .obtain⟨b,m,rfl⟩:=zer j (i:=i) (v:=v) (by simpa using hP);simp only[m,Uw]at g;exact Wi g
 .have e:((Wm a.toArray.size).any λi=>(bs[i]?).getD false)=bs.any id:=by
   rw[Xu,<- c];exact LSm.range_any bs
  rw[e];exact⟨.bl _,H,I.kept (LSm.kept_iter hk),rfl,q⟩
def zcS (n:X.calm=true):qM X (.builtin "all") (λxs H Q=>∃(l:Addr) (bs:List Bool),xs=[.ref l]/\SqL X.K H l (bs.map V.bl)/\Q (.bl (bs.all id)) H):=by
 intro z s L H xs J Q I r h;obtain⟨l,bs,rfl,o,q⟩:=h;obtain⟨u,rfl,w⟩:=vals1 r;cases w;obtain⟨a,j,p,D⟩:=I.list o;have d:=p.isList;have f:l<s.heap.objs.size:=let ⟨_,he,_⟩:=d;XB he
 have c:=j.length;rw[ZB]at c;refine call_all_walk (T5 d ?_);refine dR s.heap.objs.size [s.heap.objs.size,l] [s.heap.objs.size] a.toArray.size (fj (λi=>(bs[i]?).getD true) rfl (Walks.list (A:=X.A.in1) (I.ok.hd n) _ l (Xi f) a.toArray) ⟨⟨_,Xc _ rfl,rfl,rfl⟩,d.push _⟩ (λi v E y x hP g=>?_) (λB G hk=>?_))
 .obtain⟨b,m,rfl⟩:=zer j (i:=i) (v:=v) (by simpa using hP);simp only[m,Uw]at g;exact Wi g
 .have e:((Wm a.toArray.size).all λi=>(bs[i]?).getD true)=bs.all id:=by
   rw[Xu,<- c];exact LSm.range_all bs
  rw[e];exact⟨.bl _,H,I.kept (LSm.kept_iter hk),rfl,q⟩
end
mutual
inductive Rdn (N:Addr->Prop)(H:Hp):V->We->Prop
 | non:Rdn N H .non .none
 | bl (b:Bool):Rdn N H (.bl b) (.bool b)
 | int (i:Int):Rdn N H (.int i) (.int i)
 | str (x:Str):Rdn N H (.str x) (.str x)
 | lst {a:Addr} {xs:AF} {ds:List We}:N a->H a=some (.lst xs)->zx N H xs ds->Rdn N H (.ref a) (.list ds)
 | tup {a:Addr} {xs:AF} {ds:List We}:H a=some (.tup xs)->zx N H xs ds->Rdn N H (.ref a) (.tuple ds)
inductive zx (N:Addr->Prop)(H:Hp):AF->List We->Prop
 | nil:zx N H [] []
 | cons {x:V} {d:We} {xs:AF} {ds:List We}:Rdn N H x d->zx N H xs ds->zx N H (x::xs) (d::ds)
end
section
variable {K:XX}{N N':Addr->Prop}{H H':Hp}
def Rdn.rdv {v:V}{d:We}(h:Rdn N H v d):Rdv K H v d :=
 Rdn.rec (motive_1:=λv d _=>Rdv K H v d) (motive_2:=λc b _=>JN K H c b) .non .bl .int .str (λ_ h _ t=>.lst (SqL.of h) t) (λh _ t=>.tup (SqT.of h) t) .nil (λ_ _ a t=>.cons a t) h
def zx.rdv {vs:AF}{b:List We}(h:zx N H vs b):JN K H vs b :=
 zx.rec (motive_1:=λv d _=>Rdv K H v d) (motive_2:=λvs b _=>JN K H vs b) .non .bl .int .str (λ_ h _ t=>.lst (SqL.of h) t) (λh _ t=>.tup (SqT.of h) t) .nil (λ_ _ a t=>.cons a t) h
def Rdn.mono (s:zo H H')(i:∀a,N a->N' a){v:V}{d:We}(h:Rdn N H v d):Rdn N' H' v d :=
 Rdn.rec (motive_1:=λv d _=>Rdn N' H' v d) (motive_2:=λc b _=>zx N' H' c b) .non .bl .int .str (λn h _ t=>.lst (i _ n) (s _ _ h) t) (λh _ t=>.tup (s _ _ h) t) .nil (λ_ _ a t=>.cons a t) h
def zx.mono (s:zo H H')(i:∀a,N a->N' a){vs:AF}{b:List We}(h:zx N H vs b):zx N' H' vs b :=
 zx.rec (motive_1:=λv d _=>Rdn N' H' v d) (motive_2:=λvs b _=>zx N' H' vs b) .non .bl .int .str (λn h _ t=>.lst (i _ n) (s _ _ h) t) (λh _ t=>.tup (s _ _ h) t) .nil (λ_ _ a t=>.cons a t) h
def zx.into {D:Addr}{o:HO}{c:AF}(e:H D=some (.lst c))(i:∀a,N a->a≠D){vs:AF}{b:List We}(h:zx N H vs b):zx N (upd H D o) vs b :=
 zx.rec (motive_1:=λv d _=>Rdn N (upd H D o) v d) (motive_2:=λvs b _=>zx N (upd H D o) vs b) .non .bl .int .str (λn h _ t=>.lst n (by rw[zj (i _ n)];exact h) t) (λh _ t=>.tup (by rw[zj (zei h e (by intro z;cases z))];exact h) t) .nil (λ_ _ a t=>.cons a t) h
def Rdn.keep (s:zo H H'){v:V}{d:We}(h:Rdn N H v d):Rdn N H' v d:=h.mono s λ_ n=>n
def zx.keep (s:zo H H'){vs:AF}{a:List We}(h:zx N H vs a):zx N H' vs a:=h.mono s λ_ n=>n
def zx.append {vs d:AF}{b c:List We}(h:zx N H vs b)(k:zx N H d c):zx N H (vs++d) (b++c) :=
 zx.rec (motive_1:=λ_ _ _=>True) (motive_2:=λvs b _=>zx N H (vs++d) (b++c))
  trivial (λ_=>trivial) (λ_=>trivial) (λ_=>trivial) (λ_ _ _ _=>trivial) (λ_ _ _=>trivial) k (λa _ _ t=>.cons a t) h
def zx.snoc {vs:AF}{a:List We}{v:V}{d:We}(h:zx N H vs a)(k:Rdn N H v d):zx N H (vs++[v]) (a++[d]):=h.append (.cons k .nil)
def zx.paired {vs:AF}{b:List We}(h:zx N H vs b):Xl (Rdn N H) vs b :=
 zx.rec (motive_1:=λ_ _ _=>True) (motive_2:=λvs b _=>Xl (Rdn N H) vs b)
  trivial (λ_=>trivial) (λ_=>trivial) (λ_=>trivial) (λ_ _ _ _=>trivial) (λ_ _ _=>trivial) .nil (λa _ _ t=>.cons a t) h
theorem zx.length {vs:AF}{a:List We}(h:zx N H vs a):vs.length=a.length:=Paired.length h.paired
def zx.get {vs:AF}{a:List We}{i:Nat}{v:V}(h:zx N H vs a)(e:vs[i]?=some v):∃d,a[i]?=some d/\Rdn N H v d:=ZJ h.paired e
end
section
variable {K:XX}{g:TG}{tc:TT}{te:TE}{Q:VK}{σ0:St}{H1:Hp}{D:Addr}
def zn2 (N:Addr->Prop)(c:St->Prop)(H:Hp)(o:Option We)(Y:St->V->Hp->Prop):Prop:=∀d y a b,o=some d->c a->zo H b->Rdn N b y d->Y a y b
def zqi (b:St->Prop)(H:Hp)(o:Option We)(Z:St->Hp->Prop):Prop:=∀ a c,o=none->b a->zo H c->Z a c
def qc {a:Addr}{xs:AF}(N:Addr->Prop)(c:List (Option We))(h:St->Prop)(G:H1 D=none)(M:∀a,N a->a≠D)(h0:h σ0)(p:c.length=xs.length)(hz:xs.length<=100000)
  (hl:SqL K H1 a xs)
  (hs:∀(i:Nat) (x:V) (o:Option We) (l:St) (H:Hp),xs[i]?=some x->c[i]?=some o->zo H1 H->H D≠none->h l->∀Y Z,zn2 N h H o Y->zqi h H o Z ->
   g x l H fun f L=>tc f L λb u=>if b=true then te f u λy E=>Y f y E else Z f u)
  (O:∀ys j,zo H1 j->j D=some (.lst ys)->zx N j ys (c.filterMap id)->Q (.ref D) j):yh (Itl K a) g tc te Q D σ0 (upd H1 D (.lst [])):=by
 refine qb (K:=K) (a:=a) (xs:=xs) (λi l j=>h l/\zo H1 j/\∃ys,j D=some (.lst ys)/\ys.length<=i/\zx N j ys ((c.take i).filterMap id)) ⟨h0,zc G,[],zb,XU _,.nil⟩ (λi l j _ ⟨_,s,_⟩=>s.seq hl) ?_ ?_
 .refine λi x l H J=>fB λU s=>fy λys n B q=>?_;have v:i<xs.length:=(X4.mp J).1;obtain⟨o,I⟩:∃o,c[i]?=some o:=⟨c[i]'(by lia),XZ (by lia)⟩;have step:(c.take (i+1)).filterMap id=(c.take i).filterMap id++o.toList:=by
   rw[Xx,I,List.filterMap_append];cases o<;>rfl
  refine hs i x o l H J I s (by rw[n];exact λz=>nomatch z) U _ _ (λd y f E e m r w=>?_) (fun f u e m A=>?_)
  .subst e;refine dO ys (r _ _ n) (XM B (Xk v (X6 hz (by decide)))) m (λb ob e=>?_) (dI (ys++[y]) zb ?_ ?_)
   .rw[zj (zh e G)];exact r _ _ (s _ _ e)
   .rw[XY];exact O7 B 1
   .rw[step];exact zx.into (r _ _ n) M (zx.snoc (q.keep r) w)
  .subst e;refine⟨m,s.trans A,ys,A _ _ n,T3 B,?_⟩;rw[step];simpa using q.keep A
 .rintro l H ⟨_,s,ys,n,_,q⟩;rw[<- p,XJ]at q;exact O ys H s n q
def zhX {a:Addr}{xs:AF}(Pv:Nat->St->Hp->Prop){H:Hp}(h0:Pv 0 σ0 H)(u:∀i c H,i<=xs.length->Pv i c H->SqL K H a xs)
  (w:∀i x T c H,xs[i]?=some x->H T=none->Pv i c H->g (.ref T) c (upd H T (.tup [.int i,x])) fun d n=>tc d n λb h=>if b=true then te d h λy j=>∃ys,j D=some (.lst ys)/\ys.length<XA/\Pv (i+1) d (upd j D (.lst (ys++[y]))) else Pv (i+1) d h)
  (r:∀ c H,Pv xs.length c H->Q (.ref D) H):yh (Ite K a) g tc te Q D σ0 H:=by
 refine⟨λi m c H=>m=xs.length-i/\i<=xs.length/\Pv i c H,⟨xs.length,by simp,WY _,h0⟩,?_⟩;rintro i m c H ⟨rfl,s,p⟩;have q:=u i c H s p;by_cases f:i<xs.length
 .refine .inr ⟨⟨xs,q,f⟩,Pv (i+1),fun B l A=>⟨xs.length-(i+1),by lia,rfl,f,A⟩,λx l y=>?_⟩;revert y;refine fy λT z0 o y=>?_;subst z0;obtain⟨v,z,rfl⟩:=y xs q;exact w i v T c H z o p
 .have e:i=xs.length:=by lia
  subst e;exact .inl ⟨⟨xs,q,rfl⟩,r c H p⟩
def jA {i:Nat}{v:V}{c:St}{H:Hp}{A B:St->Hp->Prop}(h:A (c.set i (some v)) H):xU i v c H fun a e=>znX a e λb d=>if b=true then A a d else B a d:=by
 show if true=true then A (c.set i (some v)) H else B (c.set i (some v)) H
 exact zan h
end
def ZK (z:Str)(lo a:Option Int):Str:=⟨((z.cps.toList.drop (HT.sIx z.length 0 lo)).take (HT.sIx z.length z.length a-HT.sIx z.length 0 lo)).toArray⟩
def zlN (lo b:Option Int)(n:Nat):Vb lo b 1 n=(Wm (HT.sIx n n b-HT.sIx n 0 lo)).map (HT.sIx n 0 lo + ·):=by
 rw[<- sliceRange_one];unfold Vb;simp only[show (1:Int)>0 by decide,if_true];have a:∀(v:Option Int) (d:Nat),(match v with | none=>(d:Int) | some i=>max 0 (min (if i<0 then i+(n:Int) else i) (n:Int)))=((HT.sIx n d v:Nat):Int):=λv d=>by
  cases v with
  | none=>rfl
  | some i =>
   simp only[HT.sIx];by_cases h:i<0
   .simp only[h,if_true];lia
   .simp only[h,if_false];lia
 have c:=a lo 0;have e:=a b n;rw[<- c,<- e];rfl
def zn3 (n:Nat)(a:Option Int):HT.sIx n n a<=n:=HT.zp7 n n (XU _) a
def zlO (z:Str)(lo a:Option Int):Txt.slice z lo a=ZK z lo a:=by
 unfold Txt.slice ZK;rw[zlN,pick_run];by_cases c:((1:Int)==1&&((Wm (HT.sIx z.length z.length a-HT.sIx z.length 0 lo)).map (HT.sIx z.length 0 lo + ·)).length==z.length)=true
 .rw[bw c];have e:HT.sIx z.length z.length a-HT.sIx z.length 0 lo=z.length:=by
   simp only[ZB,Wn]at c;simpa using c
  have h1:=zn3 z.length a;have g:HT.sIx z.length z.length a=z.length:=by lia
  have e0:HT.sIx z.length 0 lo=0\/z.length=0:=by lia
  have h:z.cps.toList.length=z.length:=X5;rw[e];rcases e0 with e0 | e0
  .rw[e0,Pe,WR (by lia)]
  .have d:z.cps.toList=[]:=Wb.mp (by lia);rw[d];simp only[List.drop_nil,List.take_nil];cases z with
   | mk b =>
    have f:b=#[]:=by simpa using d
    rw[f]
 .rw[bq c]
section
variable {X:Cx}
def zsF:V->Option Int->Option Int->Hp->VK->Prop:=λx lo a H Q=>∃z,x=.str z/\z.length<=XA/\Q (.str (ZK z lo a)) H
def zgs {v:X9}{o:Option Int}(h:IsPart v o):∃p:Option (Int×Tok),v=partValue p/\p.map (·.1)=o:=by
 cases h with
 | none=>exact⟨none,rfl,rfl⟩
 | int i t=>exact⟨some (i,t),rfl,rfl⟩
def zlP:SlR X zsF:=by
 intro o s A H x v w y lo a p Q I n g j m h;obtain⟨z,rfl,i,q⟩:=h;obtain⟨t,rfl⟩:=n;obtain⟨b,rfl,d⟩:=zgs j;obtain⟨c,rfl,f⟩:=zgs m;refine⟨"str",_,F.slot_str_getitem.lookup,typeIs_str _ _ _,wpAny_getItem_str_slice (l:=b) (u:=c) (st:=none) g rfl ?_⟩;have e:sliceMade z t b c none=if ((1:Int)==1&&(Vb lo a 1 z.length).length==z.length)=true then Made.val (.str z t) else Made.str ⟨((Vb lo a 1 z.length).filterMap (z.cps[·]?)).toArray⟩:=by
  rw[<- d,<- f];rfl
 rw[e];refine post_val_or_str ⟨X6 (Txt.slice_le z lo a) i,λr k=>?_⟩;rw[<- zlO]at q;exact⟨.str (Txt.slice z lo a),H,I.tok k,⟨_,rfl⟩,q⟩
end
def zf8:List X9:=[.type "ValueError",.type "Exception",.type "BaseException",.type "object"]
structure Fly (P:Xm)(w:W3)(outer:List Env)(H:Hp)(s:X7)(e C:Addr)(a0:X9)(B:Heap)(H':Hp)(s':X7):Prop where
 fly:Oh B outer e (.ref C) a0 s'.heap
 os:s'.os=s.os
 bare:Sr s'.gens
 un:Un (frs outer) [] H H' s.heap s'.heap
 ok:HOk P w H' B
 kB:∀b o,s.heap.get? b=some o->H b=none->b ∉ frs outer->B.get? b=some o
 tB:∀b o,s.heap.get? b=some o->b ∉ frs outer->∃o',B.get? b=some o'
 new:s.heap.get? e=none
 free:H' e=none
def CXE (P:Xm)(w:W3):CXT:=λa H s E x d=>∃(e C:Addr) (c:X9) (B:Heap) (b:Hp),x=.ref e/\Fly P w a H s e C c B b d/\E (.ref C) none b
theorem zlQ {P:Xm}{w:W3}{H:Hp}{h:Heap}{a:Addr}:∀{o:HO},qH P w H h a o->∃ob,h.get? a=some ob
 | .lst _,x=>by obtain⟨_,_,_,_,q⟩:=x;exact⟨_,q⟩
 | .tup _,x=>by obtain⟨_,_,_,ob,q,_⟩:=x;exact⟨ob,q⟩
 | .dK _,x=>by revert x;refine gf λ_ _ _ _ ob _ _ q _=>?_;exact⟨ob,q⟩
 | .dT _,x=>by revert x;refine gf λ_ _ _ _ ob _ _ q _=>?_;exact⟨ob,q⟩
 | .set _ _,x=>by revert x;refine fL λob _ _ _ q _=>?_;exact⟨ob,q⟩
 | .ins _ _ _,x=>by obtain⟨_,_,_,q,_⟩:=x;exact⟨_,q⟩
 | .own _,x=>x
 | .xd _,x=>by obtain⟨_,⟨ob,_,_,q,_⟩,_⟩:=x;exact⟨ob,q⟩
 | .met _ _,x=>⟨_,x⟩
 | .rng _ _,x=>by obtain⟨_,_,_,q⟩:=x;exact⟨_,q⟩
 | .frz _ _,x=>⟨_,x.1⟩
 | .tbl _,x=>⟨_,x⟩
 | .ext _,x=>x.2.1
section
variable {X:Cx}{bz:List (Addr×Obj)}{σ:St}{H H':Hp}{s s':X7}{e C:Addr}{a0:X9}{B h2:Heap}
def Inv.notLoc (I:Inv X bz σ H s){b:Addr}{o:Obj}(q:X.s₀.heap.get? b=some o):b≠X.env.locals:=λz=>VJ _ (Xk (z ▸ XB q) I.ok.above)
def Inv.notStk (I:Inv X bz σ H s){b:Addr}{o:Obj}(q:X.s₀.heap.get? b=some o)(a:b ∉ X.fs):b ∉ frs X.stack:=λz=>by
 rcases XH.mp (I.stkSub b z) with r | r
 .exact I.notLoc q r
 .exact a r
def Inv.flies (I:Inv X bz σ H s)(j:X.ex=[])(F:Oh B X.outer e (.ref C) a0 h2)(up:s'.heap.UpToSlots h2)(os:s'.os=s.os)(i:Sr s'.gens)(un:Un (frs X.stack) [] H H' s.heap s'.heap)(ok:HOk X.prog X.w H' B)
  (y:∀b o,s.heap.get? b=some o->H b=none->b ∉ frs X.stack->B.get? b=some o) (tB:∀b o,s.heap.get? b=some o->b ∉ frs X.stack->∃c,B.get? b=some c) (l:s.heap.get? e=none) (free:H' e=none) :
  Fly X.prog X.w X.outer X.H₀ X.s₀ e C a0 B H' { s' with heap:=h2 }:=by
 have f:∀b,b ∉ X.ex:=λb z=>by rw[j]at z;cases z
 have keep:∀b o,X.s₀.heap.get? b=some o->X.H₀ b=none->b ∉ X.fs->B.get? b=some o:=λb o q n a =>
  y b o (I.base.keep b o q n a (f b)) (I.base.free b o q n (f b)) (I.notStk q a)
 have d:∀b o,X.s₀.heap.get? b=some o->b ∉ X.fs->∃c,B.get? b=some c:=λb o q a=>by
  obtain⟨c,h⟩:=I.base.there b o q (f b);exact tB b c h (I.notStk q a)
 have g:∀b o,X.s₀.heap.get? b=some o->b∈X.fs->∃m,h2.get? b=some { o with slots:=m }:=λb o q a=>by
  obtain⟨_,U,v,E⟩:=I.ok.funs.mem a;rw[q]at v;cases v;obtain⟨m,J⟩:=I.base.slot b o q (I.ok.frf b a) a (f b);obtain⟨Q,L⟩:=un.any J (I.base.free b o q (I.ok.frf b a) (f b)) (λz=>nomatch z);obtain⟨p,M⟩:=up b _ L E;exact⟨p,M⟩
 refine⟨F,os.trans I.os,i,⟨λb o q n a _=>F.1 b o (keep b o q n a),λb o q _ a _=>g b o q a,λb o q n _=>?_,λb o q _=>?_,λb x q=>un.tups b x (I.base.tups b x q),λb o u q=>un.frzs b o u (I.base.frzs b o u q),λb G q=>?_⟩,ok,keep,d,?_,free⟩
 .obtain⟨c,h⟩:=I.base.there b o q (f b);exact un.free b c h (I.base.free b o q n (f b)) λz=>nomatch z
 .by_cases a:b∈X.fs
  .obtain⟨m,r⟩:=g b o q a;exact⟨_,r⟩
  .obtain⟨c,r⟩:=d b o q a;exact⟨c,F.1 b c r⟩
 .obtain⟨A,N⟩:=I.base.tbls b G q;obtain⟨D,O⟩:=un.tbls b _ N;exact⟨A++D,by rw[O,Array.append_assoc]⟩
 .cases q:X.s₀.heap.get? e with
  | none=>rfl
  | some o =>
   obtain⟨c,h⟩:=I.base.there e o q (f e);rw[l]at h;cases h
structure zfq (X:Cx)(E:XK):Prop where
 stk:X.stack=X.env::X.outer
 fr:X.env.frame=some X.env.locals
 ex:X.ex=[]
 xe:X.xe=λx s'=>Xj (Xn X.prog X.w) X.A (leaving X.env x) (λ_ s''=>CXE X.prog X.w X.outer X.H₀ X.s₀ E x s'') (λx' s''=>CXE X.prog X.w X.outer X.H₀ X.s₀ E x' s'') s'
def zes {P:Xm}{w:W3}{K:XX}{e:Str->Option X9}{base:Heap}{N:AE}{c:Str}{b:UB}{f:Addr}{d:X9}{A:WN}{a:List Env}{s:X7}{H:Hp}{E:XK} :
  zfq (zgi (CXE P w) P w K e base N c b f d A a s H E) E:=⟨rfl,rfl,rfl,rfl⟩
def zqj {l:List Env}:∀b∈l,∀a,b.frame=some a->a∈frs l:=λb he a c=>Th.mpr ⟨b,he,c⟩
def zfq.made {E:XK}(L:zfq X E)(I:Inv X bz σ H s){h1:Heap}{vs:List X9}(c:Heap.MadeExcOf s.heap h1 e (.ref C) vs)(h:E (.ref C) none H):X.xe (.ref e) { s with heap:=h1 }:=by
 rw[L.xe];have i:=I.stack;have d:∀a o,H a=some o->a ∉ frs X.stack:=λa o q z=>by
  rw[I.stkFree a z]at q;cases q
 have own:∀a b,H b=some (.own a)->b ∉ frs X.stack:=λa b q=>d b _ q;have fresh:H e=none:=by
  cases q:H e with
  | none=>rfl
  | some o =>
   obtain⟨f,g⟩:∃f,s.heap.get? e=some f:=by
    exact zlQ (I.hok e o q)
   rw[c.new]at g;cases g
 refine wpAny_leaves_madeW (base:=PySem.W.hideAll s.heap (frs X.stack)) (L:=X.env.locals) (by rw[I.ok.frames,L.stk]) L.fr (λb o q=>PySem.W.of_hideAll _ q) (PySem.W.funFrames_hide (by rw[<- L.stk];exact i) (by rw[<- L.stk];exact zqj)) c λm t j n p l=>?_;refine dF e C (dG (dI H rfl (I.flies (s':={ s with heap:=h1 }) L.ex j l rfl I.bare (Un.kept c.keeps) ?_ (λb o q _ hb=>TC _ q hb) (λb o q hb=>⟨o,TC _ q hb⟩) c.new fresh) h));exact λa o q=>(I.hok a o q).stay (λb u hb r=>TC _ r (by
  rcases hb with hb | hb
  .rw[hb];exact d a o q
  .exact own a b hb)) (λ_ r=>r) λ_ _ r=>r
end
structure Qc (K:XX)(mg:Str->Option X9)(x:Str)(C:Addr):Prop where
 g:mg x=some (.ref C)
 q:Ub K C zf8 "ValueError.__new__"=true
structure zlR (h:Heap)(C:Addr)(bm:List X9):Prop where
 ex:∃N nm qn bs hdct sn sub ab col dd k0 k1 k2 k3 k5 mN,h.get? C=some (excClassObj nm qn C N bs bm hdct sn sub ab col dd k0 k1 k2 k3 k5 "ValueError.__new__")/\h.Ns N mN/\mN "__init__"=none
 tl:OwnTail h zf8 bm
def zlS {K:XX}{h:Heap}{C:Addr}(d:K.In h)(f:Ub K C zf8 "ValueError.__new__"=true):∃bm,zlR h C bm:=by
 unfold Ub at f;split at f
 .rename_i dd cd sl look;split at f
  .rename_i C' bm k0 k1 k2 k3 n k5 em es;simp only[WH,beq_iff_eq,WF]at f;obtain⟨⟨⟨⟨⟨rfl,rfl⟩,b⟩,e⟩,c⟩,a⟩:=f;obtain⟨q,bs,p,r,s,o,u,sub,j,g,m⟩:=cd;dsimp only at em b c a;subst em b;have i:sl=#[k0,k1,k2,k3,some (.builtin "ValueError.__new__"),k5]:=by
    obtain⟨l⟩:=sl;simp only at es;rw[es]
   subst i;exact⟨bm,(eV r q s bs o u sub j (dR g dd k0 k1 (dF k2 k3 (eE k5 (dD (d _ _ look) (.of_isNs (PySem.W.isNs_of_in d c)) (PySem.W.nsMap_none_of_in d c a)))))),PySem.W.tail_of_in d e⟩
  .cases f
 .cases f
section
variable {X:Cx}
def zqk (E:XK)(C:Addr)(t:TA):TS:=λ_ c H=>t c H λb a=>b.length<=XA/\E (.ref C) none a
def zgt {x:Str}{C:Addr}{z c pos:Pos}{f:Expr}{b:List Expr}{t:TA}{E:XK}(L:zfq X E)(O:Qc X.K X.mg x C)(u:Gl X x)(p:X.calm=true)(o:PA X (f::b) t)
  (he:WS (f::b) X.env=(false,eval f X.env)::WS b X.env:=by rfl) (v:(Sw c (WS b X.env)).any (·.1)=false:=by rfl) (i:(x==("__debug__":Str))=false:=by decide) :
  PS X (.Raise (some (.Call (.Name x z) (f::b) [] c)) none pos) (zqk E C t):=by
 intro l s B H D I h;obtain⟨bm,⟨N,nm,A,bs,hdct,sn,sub,ab,col,dd,k0,k1,k2,k3,k5,mN,m,n,j⟩,T⟩:=zlS I.ok.mod.kin O.q;refine wpAny_Raise_call_subU (C:=C) (nm:=nm) (q:=A) (N:=N) (bs:=bs) (bm:=bm) (hdct:=hdct) (sn:=sn) (sub:=sub) (ab:=ab) (col:=col) (dd:=dd) (k0:=k0) (k1:=k1) (k2:=k2) (k3:=k3) (k5:=k5)
  RL (by decide) RL (mN:=mN) (T.hasType PySem.F.excBase_ValueError.hasBase) (I.ok.hd p) (by rw[he];show (false || (Sw c (WS b X.env)).any (·.1))=false;rw[v];rfl) j (QJ I u O.g ⟨rfl,?_⟩ i)
 have a:=o c l s B H _ I h;rw[he]at a ⊢;refine Sd (thn a λQ M ⟨U,G,d,r,y,q⟩=>?_);exact dQ rfl (by rw[<- r.length];exact y) (d.bk _ _ m) (n.keeps d.bk) (T.keeps d.bk) (λJ e w=>L.made d w q)
def markX (X:Cx)(e:Addr):Cx:={ X with A:=X.A.mark (some (.ref e)),calm:=false,xe:=λ_ _=>False }
variable {bz:List (Addr×Obj)}{σ:St}{H:Hp}{s:X7}
def Cx.Ok.mark (ok:X.Ok)(e:Addr):(markX X e).Ok :=
 ⟨ok.mod,ok.kind,ok.glob,ok.blt,ok.above,ok.inj,ok.has,ok.cab,(λz=>nomatch z),ok.frames,ok.stk,ok.exf,ok.bs,ok.bsz,ok.noex,ok.exfs,ok.funs,ok.frf⟩
theorem Inv.mark (I:Inv X bz σ H s)(e:Addr):Inv (markX X e) bz σ H s:=⟨I.ok.mark e,I.os,I.bare,I.base,I.loc,I.cell,I.free,I.jg,I.pin,I.hok,I.len⟩
def Inv.unmark {e:Addr}(I:Inv (markX X e) bz σ H s)(ok:X.Ok):Inv X bz σ H s:=⟨ok,I.os,I.bare,I.base,I.loc,I.cell,I.free,I.jg,I.pin,I.hok,I.len⟩
def zsG (e C:Addr)(h:Heap):Prop:=∃ob a,h.get? e=some ob/\ob.cls=.ref C/\ob.data=.fields a
def exO (e C:Addr):HO:=.ext (zsG e C)
def Fly.caught {l j:Hp}{s1 s':X7}{e C:Addr}{y:X9}{B h:Heap}(I:Inv X bz σ l s1)(F:Fly X.prog X.w X.stack l s1 e C y B j s')(i:Oh B X.stack e (.ref C) y h)(up:s'.heap.UpToSlots h) :
  Inv X bz σ (upd j e (exO e C)) { s' with heap:=h }:=by
 have H:∀b o,s1.heap.get? b=some o->b≠e:=λb o q z=>by
  rw[z,F.new]at q;cases q
 have f:∀b u,j b=some u->b≠e:=λb u q=>zh q F.free;have d:∀b o,s1.heap.get? b=some o->l b=none->b∈frs X.stack->∃v,h.get? b=some { o with slots:=v }:=λb o q n a=>by
  obtain⟨_,D,g,J⟩:=I.stack.mem a;rw[q]at g;cases g;obtain⟨v,p⟩:=F.un.slot b o q n a (λz=>nomatch z);obtain⟨x,s⟩:=up b _ p J;exact⟨x,s⟩
 refine I.call' (ch:=[]) F.os ⟨λb o q n a _=>i.1 b o (F.kB b o q n a),λb o q n a _=>d b o q n a,λb o q n _=>?_,λb o q _=>?_,λb G q=>?_,λb o u q=>?_,λb L q=>?_⟩ (λb ob q=>?_) F.bare λb z=>nomatch z
 .rw[zj (H b o q)];exact F.un.free b o q n λz=>nomatch z
 .by_cases a:b∈frs X.stack
  .obtain⟨v,r⟩:=d b o q (I.stkFree b a) a;exact⟨_,r⟩
  .obtain⟨A,r⟩:=F.tB b o q a;exact⟨A,i.1 b A r⟩
 .have r:=F.un.tups b G q;rw[zj (f b _ r)];exact r
 .have r:=F.un.frzs b o u q;rw[zj (f b _ r)];exact r
 .obtain⟨m,r⟩:=F.un.tbls b L q;exact⟨m,by rw[zj (f b _ r)];exact r⟩
 .by_cases a:b=e
  .subst a;rw[zb]at q;cases q;refine fm (λE U g p s _=>?_) i.first;exact⟨⟨E,U,g,p,s⟩,⟨E,g⟩,λg1 g2 ⟨D,Q,M,N,O⟩ k=>⟨D,Q,k _ M,N,O⟩⟩
  .rw[zj a]at q;refine(F.ok b ob q).stay (λc u _ r=>i.1 c u r) (λc r=>?_) λc G r=>?_
   .rw[zj (f c _ r)];exact r
   .rw[zj (f c _ r)];exact r
def zje {M:NZ}{A:WN}{E:X9->X7->Prop}{s:X7}{S e C:Addr}{bm:List X9}{j:Obj}{Q:Bool->X7->Prop}(O:zlR s.heap S bm)(he:s.heap.get? e=some j)(a:j.cls=.ref C)
  (m:PySem.W.Looks M s.heap (isSubtype (.ref C) (.ref S)) true) (p:Q true s):Xj M A (Os (.ref e) (.ref S)) Q E s:=by
 obtain⟨⟨N,G,H,bs,i,I,sub,r,l,u,w,x,y,z,B,D,c,v,o⟩,T⟩:=O;have n:=T.hasType PySem.F.excBase_ValueError.hasBase;obtain⟨h,g,d,t,os⟩:=s;have b:(WT S::bm).contains (.type "BaseException")=true:=by rw[List.contains_cons,n,Bool.or_true]
 have f:=tc_notTuple;unfold Os;repeat (first | (with_reducible refine SM he ?_;rw[a]) | with_reducible refine SM c ?_ | (with_reducible refine OP c ?_;rw[b]) | wp_step)
 refine m A _ E _ (λ_ _ q=>q) ?_;rw[bw rfl];exact XR (XR (XR p))
end
def Fun.okX {P:Xm}{w:W3}{K:XX}{i:Str->Option X9}{base:Heap}{x b:Str}{st:Stmt}{f:Addr}{h:XD}{N ps:AE}{k:Nat}{sp:Sp}(F:Fun K x b st f h)(S:zB N ps (zp st))(len:∀vs H Q E,sp vs H Q E->vs.length=ps.length)
  (d:∀(c:X9) (A:WN) (a:List Env) (s:X7) (H:Hp) (vs:AF) (Q:VK) (E:XK),ZF k (A.deeper (P9 b (zp st) s.heap.objs.size f c))->sp vs H Q E ->
   ∃t,PSs (zgi (CXE P w) P w K i base N b (zp st) f c A a s H E) (xy st) t/\t { nx:=λ_ j=>Q .non j,rt:=Q } (start N vs) H):zU P w K i base (CXE P w) (k+1) f h ps sp:=by
 refine fu (λq r kV doc u o c p=>fy λn z0 m e=>?_) F.ex;subst z0;exact zpi m e S len λA a s H vs Q E l g=>d c A a s H vs Q E l g
section
variable {X:Cx}{tg iter elt:Expr}{ifs:List Expr}{scope:UB}{pos:Pos}{N:AE}{src:List (Option Nat)}{cl:List (Str×Addr)}{wi:TI}{g:TG}{tc:TT}{te:TE}
def zrF {w:List (Addr×Obj)}{I:St}{D:Ends}{i:Nat}{x:Str}{q:Pos}(hN:X.N.Nodup)(B:X.N[i]?=some x)(n:X.env.scope.names.lookup x=some .local):znY X N scope w I (some (assign (.Name x q) X.env)) (λ_ E=>∃ r s,Inv X w r s E/\D.nx r s) λv s=>xU i v I s D.nx:=by
 intro cl fp G H2 C J M f fn xe aa hC l u h qn;obtain⟨m,hm,_⟩:=h.loc;have g:G.heap.objs.size<C:=by rw[hC];exact Ss _
 have Q:Inv X w I J M:=l.call' (s':=M) (ch:=fp) h.os h.base h.hok h.bare λb j=>⟨(u b j).2.2.2.1,(u b j).2.1,(u b j).2.2.2.2.1,(u b j).2.2.2.2.2⟩;have L:∀b o,G.heap.get? b=some o->b≠C:=λb o e=>Xi (TL (XB e) g);have a:∀y c,X.env.cells.lookup y=some c->c≠C:=λy c e=>by
  obtain⟨_,o,Y,_⟩:=l.cell y c e;exact L c o Y
 have d:X.env.locals≠C:=Xi (TL l.lt g);refine wpAny_assign_Name (zej Q hN B (.inl n) (v:=.ref G.heap.objs.size) rfl (λs5 O ⟨U,H,A⟩=>?_) (.inr n));have na:U≠C:=A.elim (λz=>by rw[z];exact d) (a _ _);exact⟨m,hm.sameBut H (UY na),λh' sb=>⟨_,J,O.turned (t':=s5.toks) (it:=C) (λb o j e=>(sb.2 b j).trans e) h.free (UY d) (.inr (X6 l.sz (TM g))) a λp hp=>L _ _ (l.pin p hp).1,qn⟩⟩
def zlT {g:List (Addr×Obj)}{s:X7}{x:Str}{a c:Pos}{D:Ends}(f:RY (.ListComp elt [⟨tg,iter,ifs,0⟩] scope pos) (some (.Name x a)) c.line X.env=pure true)
  (h:Xj (Xn X.prog X.w) X.A (OB (.ListComp elt [⟨tg,iter,ifs,0⟩] scope pos) scope X.env (firstIterPos [⟨tg,iter,ifs,0⟩] pos) (newList []) false (eval iter X.env) (some (assign (.Name x a) X.env))) (λ_ d=>∃ b e,Inv X g b e d/\D.nx b e) X.xe s):Xj (Xn X.prog X.w) X.A (exec (.Assign [.Name x a] (.ListComp elt [⟨tg,iter,ifs,0⟩] scope pos) c) X.env) (SP X g D) X.xe s:=by
 rw[exec_Assign_Name_used _ _ _ _ f];refine Y1 (OC (Y1 ?_));unfold evalThenUse;exact Y1 (VY h (λ_ d ⟨b,e,i,j⟩=>XR (XR ⟨b,e,i,j⟩)) λ_ _ z=>z)
def zn4 {i:Nat}{x:Str}{b a:Pos}(l:X.N.Nodup)(e:X.N[i]?=some x)(f:X.env.scope.names.lookup x=some .local)(ok:yN X N src scope cl)(c:X.calm=true)(o:PI X tg iter wi)
  (n:∀C fp d s H,PG (jz X N scope cl C fp d s H) tg g) (m:∀C fp d s H,zcn (jz X N scope cl C fp d s H) ifs tc) (he:∀C fp d s H,PE (jz X N scope cl C fp d s H) elt te)
  (p:∀x,VM iter X.env x=pure x:=by intro _;rfl) (j:RY (.ListComp elt [⟨tg,iter,ifs,0⟩] scope pos) (some (.Name x b)) a.line X.env=pure true:=by rfl) :
  PS X (.Assign [.Name x b] (.ListComp elt [⟨tg,iter,ifs,0⟩] scope pos) a) (zlx (zb0 wi src g tc te) (xU i)):=λ_ _ _ _ _ I h=>zlT j (zgn ok c o n m he p I h (zrF l e f))
end
def yN.byRfl {X:Cx}{N:AE}{d:List (Option Nat)}{a:UB}(l:a.kind=.function)(b:∀y∈a.names,y.2 ≠ .cell)(f:∀y∈a.names,y.2=.local->a.names.lookup y.1=some .local)
  (m:(a.names.all λy=>y.2 != .free || (X.env.cells.lookup y.1).isSome)=true) (len:d.length=N.length)
  (o:((N.zip d).all λq=>match q.2 with | none=>true | some j=>X.N[j]?==some q.1&&X.env.kindOf q.1==some .cell&&(UF a X.env).names.lookup q.1==some .cell)=true):yN X N d a (zaR (λx=>X.env.cells.lookup x) a.names []):=by
 have g:∀y∈a.names,y.2=.free->(X.env.cells.lookup y.1).isSome=true:=λy n e=>by
  have z:=WK.mp m y n;rw[e]at z;simpa using z
 refine⟨l,b,f,YW g,λx c h=>?_,λx h=>?_,len,λi j x h1 h2=>?_⟩
 .rcases Qa _ _ _ (WC h) with z | z
  .cases z
  .exact z
 .refine Vo.mp (zgo _ _ (.inr ?_));have hm:(x,Tu)∈a.names\/(x,NameKind.free)∈a.names:=by
   rcases h with h | h
   .exact Zf (WC h) (.inl rfl)
   .exact Zf (WC h) (.inr rfl)
  rcases hm with hm | hm
  .exact absurd rfl (b _ hm)
  .exact⟨hm,g _ hm rfl⟩
 .have hm:(x,some j)∈N.zip d:=X8 (i:=i) (by rw[RJ];exact⟨h1,h2⟩);have z:=WK.mp o _ hm;simp only[WH,beq_iff_eq]at z;exact⟨z.1.1,.inl z.1.2,.inl z.2⟩
structure xK (X:Cx)(N:AE)(src:List (Option Nat))(scope:UB)(cl:List (Str×Addr))(y:Str):Prop where
 kind:scope.kind=.function
 one:∀n acc,RX n scope.names acc=(y,n)::acc
 push:∀h,Oa h scope.names=h.push { cls:=.type "cell",data:=.cell none }
 names:∀y∈scope.names,y.2=.local->scope.names.lookup y.1=some .local
 clos:Ot scope X.env=pure cl
 sub:∀x c,cl.lookup x=some c->X.env.cells.lookup x=some c
 has:∀x,((UF scope X.env).names.lookup x=some .cell\/(UF scope X.env).names.lookup x=some .free)->x=y\/∃c,cl.lookup x=some c
 len:src.length=N.length
 pulls:∀(i j:Nat) (x:Str),N[i]?=some x->src[i]?=some (some j)->X.N[j]?=some x/\(X.env.kindOf x=some .cell\/X.env.kindOf x=some .free)/\((UF scope X.env).names.lookup x=some .cell\/(UF scope X.env).names.lookup x=some .free)
 pny:∀(i j:Nat) (x:Str),N[i]?=some x->src[i]?=some (some j)->x≠y
def xK.has1 {X:Cx}{N:AE}{b:List (Option Nat)}{a:UB}{d:List (Str×Addr)}{y:Str}{C:Addr}(ok:xK X N b a d y)(x:Str)(h:(UF a X.env).names.lookup x=some .cell\/(UF a X.env).names.lookup x=some .free):∃c,RC x ((y,C)::d)=some c:=by
 rw[Su];cases q:x==y with
 | true=>exact⟨_,rfl⟩
 | false =>
  rcases ok.has x h with z | z
  .rw[z]at q;simp at q
  .exact z
def xK.byRfl {X:Cx}{N:AE}{b:List (Option Nat)}{a:UB}{y:Str}(l:a.kind=.function)(one:∀n f,RX n a.names f=(y,n)::f)(m:∀h,Oa h a.names=h.push { cls:=.type "cell",data:=.cell none })
  (only:∀z∈a.names,z.2=.cell->z.1=y) (d:∀y∈a.names,y.2=.local->a.names.lookup y.1=some .local)
  (p:(a.names.all λy=>y.2 != .free || (X.env.cells.lookup y.1).isSome)=true) (len:b.length=N.length)
  (s:((N.zip b).all λq=>match q.2 with | none=>true | some j=>X.N[j]?==some q.1&&X.env.kindOf q.1==some .cell&&(UF a X.env).names.lookup q.1==some .cell&&q.1 != y)=true):xK X N b a (zaR (λx=>X.env.cells.lookup x) a.names []) y:=by
 have g:∀y∈a.names,y.2=.free->(X.env.cells.lookup y.1).isSome=true:=λy r e=>by
  have z:=WK.mp p y r;rw[e]at z;simpa using z
 have o:∀(i j:Nat) (x:Str),N[i]?=some x->b[i]?=some (some j)->(X.N[j]?=some x/\X.env.kindOf x=some .cell/\(UF a X.env).names.lookup x=some .cell)/\x≠y:=λi j x h1 h2=>by
  have hm:(x,some j)∈N.zip b:=X8 (i:=i) (by rw[RJ];exact⟨h1,h2⟩);have z:=WK.mp s _ hm;simp only[WH,beq_iff_eq,bne_iff_ne]at z;exact⟨⟨z.1.1.1,z.1.1.2,z.1.2⟩,z.2⟩
 refine⟨l,one,m,d,YW g,λx c h=>?_,λx h=>?_,len,λi j x h1 h2=>⟨(o i j x h1 h2).1.1,.inl (o i j x h1 h2).1.2.1,.inl (o i j x h1 h2).1.2.2⟩,λi j x h1 h2=>(o i j x h1 h2).2⟩
 .rcases Qa _ _ _ (WC h) with z | z
  .cases z
  .exact z
 .have hm:(x,Tu)∈a.names\/(x,NameKind.free)∈a.names:=by
   rcases h with h | h
   .exact Zf (WC h) (.inl rfl)
   .exact Zf (WC h) (.inr rfl)
  rcases hm with hm | hm
  .exact .inl (only _ hm rfl)
  .exact .inr (Vo.mp (zgo _ _ (.inr ⟨hm,g _ hm rfl⟩)))
def yP (X:Cx)(N:AE)(a:UB)(c:List (Str×Addr))(y:Str)(C:Addr)(fp:List Addr)(b:List (Addr×Obj))(s:X7)(H:Hp):Cx :=
 { jz X N a ((y,C+1)::c) C fp b s H with fn:=λx=>decide (x=y) }
def zn5 {M:NZ}{A:WN}{E:X9->X7->Prop}{s:X7}{a:UB}{b:Addr}{j:List (Str×Addr)}{c:Str}{e:Env}{y:Str}{Q:Env->X7->Prop}(one:∀n d,RX n a.names d=(y,n)::d)(g:∀h,Oa h a.names=h.push { cls:=.type "cell",data:=.cell none })
  (m:Q (newEnv a s.heap.objs.size b ((y,s.heap.objs.size+1)::j) c none .none (some e) Ou) { s with heap:=(s.heap.push { cls:=.type "dict",data:=.dict #[] }).push { cls:=.type "cell",data:=.cell none } }) :
  Xj M A (newFunctionEnv a b j [] c none .none (some e)) Q E s:=by
 simp only[newFunctionEnv,Option.isSome_some,if_true];refine Y1 (wpAny_alloc ?_);refine Y1 (wpAny_layCells _ (λl f i=>by cases hkc:f==Tu<;>simp[hkc]) _ _ _ _ ?_);rw[g,one,show ({ s with heap:=s.heap.push { cls:=.type "dict",data:=.dict #[] } }:X7).heap.objs.size=s.heap.objs.size+1 from U3 ..];exact Y1 (XR (XR m))
section
variable {X:Cx}{tg iter elt:Expr}{ifs:List Expr}{scope:UB}{pos:Pos}{N:AE}{src:List (Option Nat)}{cl:List (Str×Addr)}{wi:TI}{g:TG}{tc:TT}{te:TE}{y:Str}
def zgu {B:List (Addr×Obj)}{L:St}{H:Hp}{s:X7}{fp:List Addr}{h1:Heap}{C:Addr}{tk:Nat}(ok:xK X N src scope cl y)(I:Inv X B L H s)(O:∀b∈fp,zaI X B H b)(ho:∀b∈fp,∃o,s.heap.get? b=some o)
  (D:C=s.heap.objs.size+1) (k:∀b u,s.heap.get? b=some u->h1.get? b=some u) (hD:h1.get? s.heap.objs.size=some { cls:=.type "list",data:=.seq #[] }) {m:Str->Option X9} (hn:h1.Ns C m) (aa:h1.IsCell (C+1) none) :
  Inv (yP X N scope cl y C fp B s H) [] (pull src L) (upd H s.heap.objs.size (.lst [])) { s with heap:=h1,toks:=tk }:=by
 have lt:∀b o,s.heap.get? b=some o->b<s.heap.objs.size:=λb o e=>XB e;have nC:∀b o,s.heap.get? b=some o->b≠C:=λb o e=>by rw[D];exact Xi (Wo (lt b o e))
 have nD:∀b o,s.heap.get? b=some o->b≠s.heap.objs.size:=λb o e=>Xi (lt b o e);have Y:∀b,s.heap.objs.size<=b->H b=none:=λb h=>I.hok.fresh h;have J:∀b,b≠X.env.locals->b ∉ X.fs->b ∉ frs X.stack:=λb h1 h2 z=>(XH.mp (I.stkSub b z)).elim h1 h2;have G:∀b o,s.heap.get? b=some o->b≠C+1:=λb o e=>by rw[D];exact Xi (Wo (Wo (lt b o e)))
 have own:∀x c,RC x ((y,C+1)::cl)=some c->(x=y/\c=C+1)\/(x≠y/\X.env.cells.lookup x=some c):=λx c e=>by
  rw[Su]at e;cases q:x==y with
  | true =>
   rw[q]at e;exact .inl ⟨by simpa using q,(Option.some.inj e).symm⟩
  | false =>
   rw[q]at e;exact .inr ⟨by simpa using q,ok.sub x c e⟩
 have n:∀x c,X.env.cells.lookup x=some c->c≠C+1:=λx c e=>by
  obtain⟨_,o,f,_⟩:=I.cell x c e;exact G c o f
 refine⟨⟨I.ok.mod,ok.kind,I.ok.glob,I.ok.blt,by rw[show (yP X N scope cl y C fp B s H).env.locals=C from rfl,D];exact VX _,?inj,ok.has1,?cab,I.ok.hd,I.ok.frames,.inl rfl,λb h=>?_,I.bs,X6 I.ok.bsz I.sz,λb o e h=>?_,λb h hz=>?_,I.stack,I.stkFree⟩,rfl,I.bare,Un.laid k (XU _) (Y _ (XU _)),⟨m,hn,λi x v f d e3=>?_⟩,λx c e=>?_,?_,λx c e=>?_,λp hp=>?_,I.hok.laid k (XU _) ⟨WY _,[],0,.nil,hD⟩,?_⟩
 case inj =>
  intro x Q c f d
  rcases own x c f with ⟨w,a⟩ | ⟨w,a⟩
  .rcases own Q c d with ⟨M,A⟩ | ⟨M,A⟩
   .rw[w,M]
   .exact absurd a (n Q c A)
  .rcases own Q c d with ⟨M,A⟩ | ⟨M,A⟩
   .exact absurd A (n x c a)
   .exact I.ok.inj x Q c a A
 case cab =>
  intro x c z e
  have zy:x=y:=bg z
  rcases own x c e with ⟨_,a⟩ | ⟨w,_⟩
  .rw[a,D];exact T3 (VX _)
  .exact absurd zy w
 .obtain⟨o,e⟩:=ho b h;refine⟨nC b o e,λx c z=>?_⟩;rcases own x c z with ⟨_,a⟩ | ⟨_,a⟩
  .rw[a];exact UY (G b o e)
  .exact(O b h).2.2.2.2.1 x c a
 .rcases(O b h).2.2.2.1 with z | z
  .exact I.ok.noex b o e z
  .exact absurd (Xk (XB (I.ok.bs b o e).1) z) (VJ _)
 .exact J b (O b h).2.1 (O b h).2.2.1 hz
 .have hi:i<src.length:=by
   have:=(X4.mp d).1;unfold pull at this;rw[ZB]at this;exact this
  unfold pull at d;rw[Xq,XZ hi]at d;cases q:src[i] with
  | none=>rw[q]at d;cases d
  | some j =>
   rw[q]at d;have g:(L[j]?).getD none=some v:=Option.some.inj d;have U:L[j]?=some (some v):=by
    cases z:L[j]? with
    | none=>rw[z]at g;cases g
    | some o=>rw[z]at g;exact congrArg some g
   obtain⟨p1,p2,p3⟩:=ok.pulls i j x f (by rw[XZ hi,q]);obtain⟨m',af,hl⟩:=I.loc;obtain⟨u,r,l⟩:=hl j x v p1 U (by
    rcases p2 with z | z
    .exact .inr (.inl z)
    .exact .inr (.inr z))
   refine⟨u,r,.inr ⟨p3,?_⟩⟩;obtain⟨c,hc⟩:=ok.has1 x p3;refine⟨c,hc,?_⟩;rcases l with ⟨z,_⟩ | ⟨_,c',E,o,ac,ab⟩
   .rcases p2 with y | y<;>rw[z]at y<;>cases y
   .rcases own x c hc with ⟨w,_⟩ | ⟨_,a⟩
    .exact absurd w (ok.pny i j x f (by rw[XZ hi,q]))
    .rw[a]at E;cases E;exact⟨o,k _ o ac,ab⟩
 .rcases own x c e with ⟨_,a⟩ | ⟨_,a⟩
  .rw[a];exact⟨_,aa⟩
  .obtain⟨v,o,f,d⟩:=I.cell x c a;exact⟨v,o,k c o f,d⟩
 .show upd H s.heap.objs.size (.lst []) C=none;rw[D,zj (U9 _)];exact Y _ (VX _)
 .show upd H s.heap.objs.size (.lst []) c=none;rcases own x c e with ⟨_,a⟩ | ⟨_,a⟩
  .rw[a,D,zj (Uq (Wo (Ss _)))];exact Y _ (T3 (VX _))
  .obtain⟨v,o,f,d⟩:=I.cell x c a;rw[zj (nD c o f)];exact I.jg x c a
 .have ae:p∈X.pn++B:=by
   have:p∈(X.pn++B)++[]:=hp;simpa using this
  refine fO (λf d e3 U e5=>?_) (I.pin p ae);refine⟨k _ _ f,?_,nC _ _ f,J _ e3 U,e5⟩;show upd H s.heap.objs.size (.lst []) p.1=none;rw[zj (nD _ _ f)];exact d
 .unfold pull;rw[ZB];exact ok.len
section
variable {bz:List (Addr×Obj)}{σ:St}{H:Hp}{s:X7}{use:Option (X9->Sem Unit)}{R:X9->X7->Prop}{Q:VK}{p2:Pos}
def zko (ok:xK X N src scope cl y)(a:X.calm=true)(v:PI X tg iter wi)
  (r:∀C fp bz s H,PG (yP X N scope cl y C fp bz s H) tg g) (p:∀C fp bz s H,zcn (yP X N scope cl y C fp bz s H) ifs tc) (he:∀C fp bz s H,PE (yP X N scope cl y C fp bz s H) elt te)
  (D:∀x,VM iter X.env x=pure x) (I:Inv X bz σ H s) (h:zb0 wi src g tc te σ H Q) (i:znY X N scope bz σ use R Q):Xj (Xn X.prog X.w) X.A (OB (.ListComp elt [⟨tg,iter,ifs,0⟩] scope pos) scope X.env p2 (newList []) false (eval iter X.env) use) R X.xe s:=by
 refine Rr (use:=use) rfl D ok.clos ok.kind ok.names (thn (v bz s σ H _ I h) λY s1 h1=>thn h1 λE l h2=>?_);revert h2;refine gh λO fp U J M=>fJ λe d T m f G=>?_;subst e;refine VA (zn5 ok.one ok.push ?_);generalize hP:l.heap.push { cls:=.type "list",dict:=none,data:=.seq ([]:List X9).toArray }=P2;have j:P2.objs.size=l.heap.objs.size+1:=by rw[<- hP,U3]
 have n:(P2.push { cls:=.type "dict",data:=.dict #[] }).objs.size=P2.objs.size+1:=U3 ..;refine zgm j a (λz=>z.elim) (r _ _ _ _ _) (p _ _ _ _ _) (he _ _ _ _ _) d T m f (G _ (d.hok.fresh (XU _))) (λb u e=>?_) (λx c z=>?_) (λB=>zgu (tk:=l.toks) ok d f B j (λb u e=>?_) ?_ ((Heap.Ns.new P2 _).push _) ?_) λ_ _ _ _ o L=>i j d f o L
 .exact XV _ (XV _ (hP ▸ XV _ e))
 .show _\/P2.objs.size<=c;have z:RC x ((y,P2.objs.size+1)::cl)=some c:=z;rw[Su]at z;cases q:x==y with
  | true =>
   rw[q]at z;rw[<- Option.some.inj z];exact .inr (VX _)
  | false =>
   rw[q]at z;exact .inl (ok.sub x c z)
 .exact XV _ (XV _ (hP ▸ XV _ e))
 .exact XV _ (XV _ (hP ▸ Xc _ rfl))
 .rw[<- n];exact⟨_,Xc _ rfl,rfl⟩
end
def zlU (ok:xK X N src scope cl y)(a:X.calm=true)(e:PI X tg iter wi)
  (d:∀C fp b s H,PG (yP X N scope cl y C fp b s H) tg g) (c:∀C fp b s H,zcn (yP X N scope cl y C fp b s H) ifs tc) (he:∀C fp b s H,PE (yP X N scope cl y C fp b s H) elt te)
  (f:∀x,VM iter X.env x=pure x:=by intro _;rfl):PE X (.ListComp elt [⟨tg,iter,ifs,0⟩] scope pos) (zb0 wi src g tc te):=λ_ _ _ _ _ I h=>zko ok a e d c he f I h zpj
end
section
variable {X:Cx}{K:XX}
def zet (a:X.K=K)(b:X.calm=true):qM X (.builtin "any") (λxs H Q=>∃(l:Addr) (bs:List Bool),xs=[.ref l]/\SqL K H l (bs.map V.bl)/\Q (.bl (bs.any id)) H):=by
 subst a;exact zcR b
def zcT {c l:Expr}{tl:TE}(a:X.K=K)(b:PE X l tl):PI X c l (zpd K tl):=by
 subst a;exact zG b
end
def zhY {α:Type}(d:α)(xs:List α):((Wm xs.length).map λi=>xs.getD i d)=xs:=by
 refine List.ext_getElem (by simp) λi h1 h2=>?_;simp[h2]
def zjf (p:Int×Int):lt2 p p=false:=by
 unfold lt2;rw[bw rfl,bf (by lia)]
def zcz {p q:Int×Int}(h:p≠q):lt2 q p=!lt2 p q:=by
 unfold lt2;obtain⟨a,b⟩:=p;obtain⟨c,d⟩:=q;simp only;by_cases e:a=c
 .subst e;rw[bw rfl,bw rfl];have f:b≠d:=λz=>h (by rw[z]);by_cases l:b<d
  .rw[br l,bf (by lia)];rfl
  .rw[bf l,br (by lia)];rfl
 .rw[bq e,bq (λz=>e z.symm)];by_cases l:a<c
  .rw[br l,bf (by lia)];rfl
  .rw[bf l,br (by lia)];rfl
def zhZ {p q r:Int×Int}(h1:lt2 p q=true)(h2:lt2 q r=true):lt2 p r=true:=by
 unfold lt2 at *
 obtain⟨a,b⟩:=p;obtain⟨c,d⟩:=q;obtain⟨e,f⟩:=r;simp only at *
 by_cases h:a=c
 .subst h;rw[bw rfl,bu]at h1;by_cases g:a=e
  .subst g;rw[bw rfl,bu]at h2 ⊢;lia
  .rw[bq g]at h2 ⊢;exact h2
 .rw[bq h,bu]at h1;by_cases g:c=e
  .subst g;rw[bq h,bu];exact h1
  .rw[bq g,bu]at h2;rw[bq (by lia),bu];lia
def Up2 (ps:List (Int×Int)):Prop:=ps.Pairwise λp q=>lt2 p q=true
end L2
namespace PySem.SeqAt
open L2 AutoSeq1 MeetsSeq MeetsSeq2 MeetsSeq3
def zao (A:WN)(s:X7)(y x:X9)(b:Bool):Prop:=∀(a:Xm) (w:W3) (E:X9->X7->Prop) (Q:X9->X7->Prop),Q (.bool b) s->Xj (Xn a w) A (richCompare .Lt y x) Q E s
def zao.int_int {A:WN}{s:X7}(a:Int)(t:Tok)(b:Int)(u:Tok):zao A s (.int a t) (.int b u) (decide (a<b)):=λc w E Q h=>wpAny_lt_int h
def zh0 (l b:Addr)(x y f c:Int)(t u m o:Tok)(n z:Nat)(dd g:Option Addr)(D j:Array (Option X9)) :
  Meets (UQ.«tuple.__lt__» ⟨[.ref l,.ref b],[]⟩)
   (λ_ R s=>s.heap.get? l=some { cls:=.type "tuple",dict:=dd,data:=.seq #[.int x t,.int y u] n,slots:=D }/\s.heap.get? b=some { cls:=.type "tuple",dict:=g,data:=.seq #[.int f m,.int c o] z,slots:=j } /\
    R (.ok (.ret (.bool (lt2 (x,y) (f,c))))) s) :=
 .of_wp λa w A R s h=>by
  obtain⟨v,g1,G,E,B⟩:=s;obtain⟨r,q,h⟩:=h;have H:=sub_tuple_tuple;wp_walk using Wd r,Wd q;refine EqAt.int_int x t f m a w _ _ ?_;unfold lt2 at h;by_cases e:x=f
  .have i:(x==f)=true:=by simpa using e
   rw[i];rw[bw e]at h;wp_walk;refine EqAt.int_int y u c o a w _ _ ?_;by_cases p:y=c
   .have d:(y==c)=true:=by simpa using p
    rw[d];rw[bf (by show ¬ y<c;lia)]at h;wp_walk;exact⟨_,rfl,h⟩
   .have d:(y==c)=false:=by simpa using p
    rw[d];simp only[Bool.not_false,if_true];refine Y1 (U4 (Y1 (zao.int_int y u c o a w _ _ ?_)));wp_walk;exact⟨_,rfl,h⟩
  .have i:(x==f)=false:=by simpa using e
   rw[i];rw[bq e]at h;simp only[Bool.not_false,if_true];refine Y1 (U4 (Y1 (zao.int_int x t f m a w _ _ ?_)));wp_walk;exact⟨_,rfl,h⟩
def zao.pairs {A:WN}{s:X7}{v r:X9}{p q:Int×Int}(G:zD s.heap v p)(f:zD s.heap r q)(D:A.units<VN):zao A s v r (lt2 p q):=λo w E Q h=>by
 obtain⟨a,⟨z,B,l,I⟩,n,t,u,rfl,m,c1,j⟩:=G;obtain⟨y,⟨i,e,data2,g⟩,H,J,L,rfl,d,b,c⟩:=f;simp only at c1 j b c;subst c1 j b c;exact richCompare_meets_room (op:=.Lt) ⟨_,m,rfl⟩ ⟨_,d,rfl⟩ F.slot_tuple_lt F.entry_tuple_lt (F.args_tuple_lt_2 _ _) (zh0 a y p.1 p.2 q.1 q.2 t u J L n H B e I g)
  ⟨m,d,show Ov (lt2 p q)≠Value.notImplemented/\Q (.bool (lt2 p q)) s from ⟨(λx=>nomatch x),h⟩⟩ D
def Q9 {h:Heap}{v:X9}{p:Int×Int}(d:zD h v p):∃as,Reads h v (.tuple [.int p.1,.int p.2]) as:=by
 obtain⟨a,o,n,t,u,rfl,c,c1,b⟩:=d;exact⟨_,.tuple c c1 b (.cons (.int _ _) (.cons (.int _ _) .nil))⟩
def zeu (p q:Int×Int):Xa (.tuple [.int p.1,.int p.2]) (.tuple [.int q.1,.int q.2])=decide (p=q):=by
 obtain⟨a,b⟩:=p;obtain⟨c,d⟩:=q;show ((a==c)&&((b==d)&&true))=_;by_cases h1:a=c
 .by_cases h2:b=d
  .subst h1 h2;simp
  .simp[h2]
 .simp[h1]
end PySem.SeqAt
namespace L2
open PySem PySem.Spec PyProof.Rows PySem.W PySem.SeqAt
open PySem PySem.Spec PyProof.Rows
section
variable {κ:Type} [DecidableEq κ]
def qO (a:List (κ × V))(k:κ):Option V:=(a.find? λb=>decide (b.1=k)).map (·.2)
def putK (a:List (κ × V))(k:κ)(v:V):List (κ × V) :=
 if (a.any λb=>decide (b.1=k))=true then a.map (λb=>if b.1=k then (b.1,v) else b) else a++[(k,v)]
def jH {p:κ × V}{r:List (κ × V)}{k:κ}(e:p.1=k):qO (p::r) k=some p.2:=by simp[qO,Ue,e]
def jI {p:κ × V}{r:List (κ × V)}{k:κ}(e:¬ p.1=k):qO (p::r) k=qO r k:=by simp[qO,Ue,e]
theorem zaS (k:κ):∀a:List (κ × V),(a.any λb=>decide (b.1=k))=(qO a k).isSome
 | []=>rfl
 | p::r=>by
  rw[So];by_cases e:p.1=k
  .simp only[jH e,br e,Bool.true_or,Option.isSome_some]
  .rw[jI e,bf e,Bool.false_or];exact zaS k r
theorem zgv (k j:κ)(y:V):∀a:List (κ × V),qO (a.map λb=>if b.1=k then (b.1,y) else b) j=(qO a j).map λx=>if j=k then y else x
 | []=>rfl
 | p::r=>by
  have c:=zgv k j y r;rw[Xw];by_cases h:p.1=k
  .rw[bw h];by_cases e:p.1=j
   .rw[jH (p:=(p.1,y)) e,jH e,Ud,bw (e.symm.trans h)]
   .rw[jI (p:=(p.1,y)) e,jI e,c]
  .rw[bq h];by_cases e:p.1=j
   .rw[jH (p:=p) e,jH e,Ud,bq (λz=>h (e.trans z))]
   .rw[jI (p:=p) e,jI e,c]
theorem zew (k j:κ)(y:V):∀a:List (κ × V),qO a k=none->qO (a++[(k,y)]) j=if j=k then some y else qO a j
 | [],_=>by
  by_cases e:k=j
  .rw[bw e.symm];exact jH (p:=(k,y)) e
  .rw[bq (λz=>e z.symm)];exact jI (p:=(k,y)) e
 | p::r,b=>by
  rw[Rh];have hk:¬ p.1=k:=λz=>by rw[jH z]at b;cases b
  rw[jI hk]at b;have c:=zew k j y r b;by_cases e:p.1=j
  .rw[jH e,jH e,bq (λz=>hk (e.trans z))]
  .rw[jI e,jI e,c]
def zaT (b:List (κ × V))(k j:κ)(y:V):qO (putK b k y) j=if j=k then some y else qO b j:=by
 unfold putK;by_cases a:(b.any λd=>decide (d.1=k))=true
 .rw[bw a,zgv];rw[zaS]at a;by_cases e:j=k
  .obtain⟨x,c⟩:=Vo.mp a;rw[bw e,e,c,Ud,bw rfl]
  .rw[bq e];cases qO b j with
   | none=>rfl
   | some x=>rw[Ud,bq e]
 .rw[bq a];refine zew k j y b ?_;rw[zaS]at a;cases q:qO b k with
  | none=>rfl
  | some x=>rw[q]at a;exact(a rfl).elim
def xW (a:List (κ × V))(k:κ)(v:V):(putK a k v).length<=a.length+1:=by
 unfold putK;split
 .rw[ZB];lia
 .rw[XY,Xo,Vu];lia
def zbt.isSome_eq {o:Option V}{u:Option X9}(r:zbt o u):o.isSome=u.isSome:=by
 cases o with
 | none=>cases u with
  | none=>rfl
  | some _=>exact(show False from r).elim
 | some _=>cases u with
  | none=>exact(show False from r).elim
  | some _=>rfl
theorem zbt.getD {o:Option V}{u:Option X9}{d:V}{d':X9}(r:zbt o u)(a:RelV d d'):RelV (o.getD d) (u.getD d'):=by
 cases o with
 | none=>cases u with
  | none=>exact a
  | some _=>exact(show False from r).elim
 | some _=>cases u with
  | none=>exact(show False from r).elim
  | some _=>exact r
def KV.val {a:List (κ × V)}{vs:List (κ × X9)}(r:KV a vs)(k:κ):zbt (qO a k) (OR vs k):=by
 unfold KV at r;induction r with
 | nil=>exact U5
 | @cons p q g d h t f =>
  obtain⟨h1,h2⟩:=h;by_cases e:p.1=k
  .have c:q.1=k:=h1.symm.trans e;have b:OR (q::d) k=some q.2:=by simp[OR,Ue,c]
   rw[jH e,b];exact h2
  .have c:¬ q.1=k:=λz=>e (h1.trans z);have b:OR (q::d) k=OR d k:=by simp[OR,Ue,c]
   rw[jI e,b];exact f
theorem KV.any {a:List (κ × V)}{vs:List (κ × X9)}(r:KV a vs)(k:κ):(a.any λb=>decide (b.1=k))=vs.any λb=>decide (b.1=k):=by
 unfold KV at r;induction r with
 | nil=>rfl
 | cons h t c=>rw[So,So,c,h.1]
def KV.repl {b:List (κ × V)}{vs:List (κ × X9)}(r:KV b vs)(k:κ){y:V}{u:X9}(d:RelV y u) :
  KV (b.map λa=>if a.1=k then (a.1,y) else a) (vs.map λa=>if a.1=k then (a.1,u) else a):=by
 unfold KV at r ⊢;induction r with
 | nil=>exact .nil
 | @cons p q f g h t c =>
  rw[Xw,Xw];refine .cons ?_ c;obtain⟨h1,h2⟩:=h;by_cases e:p.1=k
  .rw[bw e,bw (h1.symm.trans e)];exact⟨h1,d⟩
  .rw[bq e,bq (λz=>e (h1.trans z))];exact⟨h1,h2⟩
def KV.put {a:List (κ × V)}{vs:List (κ × X9)}(r:KV a vs)(k:κ){y:V}{u:X9}(b:RelV y u):KV (putK a k y) (stored vs k u):=by
 unfold putK stored;rw[r.any k];by_cases e:(vs.any λc=>decide (c.1=k))=true
 .rw[bw e,bw e];exact r.repl k b
 .rw[bq e,bq e];exact Paired.snoc r ⟨rfl,b⟩
theorem KV.length {a:List (κ × V)}{vs:List (κ × X9)}(r:KV a vs):a.length=vs.length:=Paired.length r
end
def zex {P:Xm}{w:W3}{k:Key}{u:X9}(r:RelV (kV k) u):(zV P w).is k u=true:=by
 cases k with
 | inl i=>obtain⟨t,e⟩:=(show ∃t,u=Vv i t from r);subst e;exact zf9 P w i t
 | inr x=>obtain⟨t,e⟩:=(show ∃t,u=Ob x t from r);subst e;exact zga P w x t
theorem zey {P:Xm}{w:W3}:∀{ks:List Key} {a:List X9},Vals (ks.map kV) a->ItemsAre (zV P w) ks a
 | [],_,r=>by rw[P0]at r;cases r;exact .nil
 | k::ks,_,r=>by
  rw[Xw]at r;cases r with
  | cons h t=>exact .cons (zex h) (zey t)
abbrev KT (H:Hp):List (List Key×V)->List (List Key×Addr×X9)->Prop:=Xl λp q=>p.1=q.1/\H q.2.1=some (.tup (p.1.map kV))/\RelV p.2 q.2.2
def KT.val {H:Hp}{a:List (List Key×V)}{xs:List (List Key×Addr×X9)}(r:KT H a xs)(k:List Key):zbt (qO a k) ((OF xs k).map (·.2)):=by
 induction r with
 | nil=>exact U5
 | @cons p q g d h t f =>
  obtain⟨h1,_,h2⟩:=h;by_cases e:p.1=k
  .have c:q.1=k:=h1.symm.trans e;have b:OF (q::d) k=some q.2:=by simp[OF,Ue,c]
   rw[jH e,b];exact h2
  .have c:¬ q.1=k:=λz=>e (h1.trans z);have b:OF (q::d) k=OF d k:=by simp[OF,Ue,c]
   rw[jI e,b];exact f
def KT.repl {H:Hp}{a:List (List Key×V)}{xs:List (List Key×Addr×X9)}(r:KT H a xs)(k:List Key){y:V}{u:X9}(f:RelV y u) :
  KT H (a.map λb=>if b.1=k then (b.1,y) else b) (xs.map (putAt k u)):=by
 induction r with
 | nil=>exact .nil
 | @cons p q g i h t d =>
  rw[Xw,Xw];refine .cons ?_ d;obtain⟨h1,h2,c⟩:=h;unfold putAt;by_cases e:p.1=k
  .rw[bw e,bw (h1.symm.trans e)];exact⟨h1,h2,f⟩
  .rw[bq e,bq (λz=>e (h1.trans z))];exact⟨h1,h2,c⟩
def KT.put {H:Hp}{a:List (List Key×V)}{xs:List (List Key×Addr×X9)}(r:KT H a xs)(k:List Key){b:Addr}{y:V}{u:X9}(d:H b=some (.tup (k.map kV)))(c:RelV y u) :
  KT H (putK a k y) (UE xs k b u):=by
 have e:(a.any λf=>decide (f.1=k))=(OF xs k).isSome:=by
  rw[zaS,(r.val k).isSome_eq,Option.isSome_map]
 unfold putK UE;rw[e];by_cases q:(OF xs k).isSome=true
 .rw[bw q,bw q];exact r.repl k c
 .rw[bq q,bq q];exact Paired.snoc r ⟨rfl,d,c⟩
def KT.keeps {H c:Hp}{a:List (List Key×V)}{xs:List (List Key×Addr×X9)}(r:KT H a xs)(d:∀b ys,H b=some (.tup ys)->c b=some (.tup ys)):KT c a xs :=
 Paired.mapP r λ_ _ z=>⟨z.1,d _ _ z.2.1,z.2.2⟩
section
variable {P:Xm}{w:W3}{H:Hp}{h:Heap}{a:Addr}
def zpk {u:HO}(ok:HOk P w H h)(e:Rd H a u):qH P w H h a u:=e.ok ok
def zez {b:List (Key×V)}(ok:HOk P w H h)(e:Rd H a (.dK b)):b.length<=XA/\(a==Vi)=false/\∃vs,KV b vs/\h.DictOf (zV P w) a vs :=
 show qH P w H h a (.dK b) from zpk ok e
def zpl {b:List (Key×V)}(ok:HOk P w H h)(e:H a=some (.dK b)):b.length<=XA/\(a==Vi)=false/\∃vs,KV b vs/\h.DictOf (zV P w) a vs:=zez ok (.inl e)
def zbv {ks:List Key}(ok:HOk P w H h)(e:H a=some (.tup (ks.map kV))):(VZ (zV P w)).is h ks a:=by
 refine fR (λ_=>fq λb r=>fy λo h1 h2=>gi λn c=>?_) (show qH P w H h a (.tup (ks.map kV)) from ok a _ e);exact⟨o,b.toArray,n,h1,h2,c,by simpa using zey r⟩
def zeA {b:List (List Key×V)}(ok:HOk P w H h)(e:Rd H a (.dT b)):b.length<=XA/\(a==Vi)=false /\
  ∃xs,KT H b xs/\h.DictOfH (VZ (zV P w)) a xs:=by
 refine fG (λz y xs r=>fC λo f d h1 h2 g i j=>?_) (show qH P w H h a (.dT b) from zpk ok e);refine dD z y (dS xs r (dW o f d h1 h2 g i ⟨λx hx=>?_,j⟩));have all:∀{l:List (List Key×V)} {m:List (List Key×Addr×X9)},KT H l m->∀x∈m,(VZ (zV P w)).is h x.1 x.2.1:=by
  intro l m q;induction q with
  | nil=>intro x hx;exact nomatch hx
  | @cons p q s u c t n =>
   intro x hx;rcases XH.mp hx with e | hx
   .subst e;exact zbv ok (by rw[<- c.1];exact c.2.1)
   .exact n x hx
 exact all r x hx
def zlV {b:List (List Key×V)}(ok:HOk P w H h)(e:H a=some (.dT b)):b.length<=XA/\(a==Vi)=false /\
  ∃xs,KT H b xs/\h.DictOfH (VZ (zV P w)) a xs:=zeA ok (.inl e)
end
def zap (H:Hp)(a:Addr)(y:V)(r:Option V):Prop :=
 (∃c k,Rd H a (.dK c)/\y=kV k/\r=qO c k)\/∃c k b,Rd H a (.dT c)/\y=.ref b/\H b=some (.tup (k.map kV))/\r=qO c k
def zlW (H:Hp)(a:Addr)(y v:V)(d:Hp):Prop :=
 (∃c k,H a=some (.dK c)/\y=kV k/\c.length<XA/\d=upd H a (.dK (putK c k v))) \/
 ∃c k b,H a=some (.dT c)/\y=.ref b/\H b=some (.tup (k.map kV))/\c.length<XA/\d=upd H a (.dT (putK c k v))
theorem zap.k {H:Hp}{a:Addr}{b:List (Key×V)}{k:Key}(e:H a=some (.dK b)):zap H a (kV k) (qO b k):=.inl ⟨b,k,.inl e,rfl,rfl⟩
def zap.t {H:Hp}{a b:Addr}{c:List (List Key×V)}{k:List Key}(e:H a=some (.dT c))(d:H b=some (.tup (k.map kV))):zap H a (.ref b) (qO c k):=.inr ⟨c,k,b,.inl e,rfl,d,rfl⟩
def zlW.t {H:Hp}{a b:Addr}{c:List (List Key×V)}{k:List Key}{v:V}(e:H a=some (.dT c))(d:H b=some (.tup (k.map kV)))(f:c.length<XA) :
  zlW H a (.ref b) v (upd H a (.dT (putK c k v))):=.inr (dW c k b e rfl d f rfl)
section
variable {X:Cx}{bz:List (Addr×Obj)}{σ:St}{H:Hp}{s:X7}{a:Addr}{y v:V}{u r:X9}{o:Option V}{A:WN}{E:X9->X7->Prop}
def Inv.big (I:Inv X bz σ H s):Vi<s.heap.objs.size:=by
 have h:XG<s.heap.objs.size:=(I.mod.glob.keeps I.bk).lt;exact TL (by decide) h
def zkp {Q:X9->X7->Prop}(G:A.units+1<VN)(I:Inv X bz σ H s)(g:zap H a y (some v))(r:RelV y u)(h:∀f s',Inv X bz σ H s'->RelV v f->Q f s') :
  Xj (Xn X.prog X.w) A (OV (.ref a) u) Q E s:=by
 rcases g with ⟨q,k,e,j,l⟩ | ⟨q,k,b,e,j,x,l⟩
 .subst j;obtain⟨z,B,J,c,i⟩:=zez I.hok e;obtain⟨f,n,d⟩:=zbt.some_of (v:=v) (o:=OR J k) (by rw[l];exact c.val k);exact wpAny_getItem_of (zex r) i.mapOf n (h f _ (I.tok _) d)
 .subst j;cases (show u=WT b from r);refine fG (λz B L c i=>?_) (zeA I.hok e);obtain⟨f,n,d⟩:=zbt.some_of (v:=v) (o:=(OF L k).map (·.2)) (by rw[l];exact c.val k);obtain⟨p,D,m⟩:=Uh.mp n;refine wpAny_getItem_heap (Te G) (zbv I.hok x) i D ?_;rw[m];exact h f _ (I.tok _) d
def zn6 {Q:X9->X7->Prop}(p:A.units+1<VN)(I:Inv X bz σ H s)(g:zap H a y o)(m:RelV y u)(h:∀s',Inv X bz σ H s'->Q (.bool (!o.isSome)) s') :
  Xj (Xn X.prog X.w) A (Wr .NotIn u (.ref a)) Q E s:=by
 rcases g with ⟨j,k,e,f,l⟩ | ⟨j,k,b,e,f,n,l⟩
 .subst f;obtain⟨z,i,r,c,d⟩:=zez I.hok e;refine wpAny_notIn_of (zex m) i d.mapOf ?_;rw[<- (c.val k).isSome_eq,<- l];exact h _ (I.tok _)
 .subst f;cases (show u=WT b from m);refine fG (λz i v c d=>?_) (zeA I.hok e);refine wpAny_notIn_heap (Te p) (zbv I.hok n) i d ?_;have q:=(c.val k).isSome_eq;rw[Option.isSome_map]at q;rw[<- q,<- l];exact h _ (I.tok _)
def zcA {h':Heap}{t':Nat}{ob:HO}(I:Inv X bz σ H s)(g:Mut (H a))(f:V6 a s.heap h')(he:∃q,h'.get? a=some q)(c:qH X.prog X.w (upd H a ob) h' a ob) :
  Inv X bz σ (upd H a ob) { s with heap:=h',toks:=t' } :=
 I.write (x:=a) (e:=a) g (.inl rfl) (λb q d z=>(f.2 b d).trans z) he c
def zlX {P:Xm}{w:W3}{d:Hp}{h':Heap}{b:List (Key×V)}{vs:List (Key×X9)}(z:b.length<=XA)(e:(a==Vi)=false)(c:KV b vs)(dd:h'.DictOf (zV P w) a vs) :
  qH P w d h' a (.dK b):=⟨z,e,vs,c,dd⟩
def zkq {G:Hp}{Q:Unit->X7->Prop}(hu:A.units+1<VN)(I:Inv X bz σ H s)(g:zlW H a y v G)(O:RelV y u)(N:RelV v r)(h:∀s',Inv X bz σ G s'->Q () s') :
  Xj (Xn X.prog X.w) A (setItem (.ref a) u r) Q E s:=by
 rcases g with ⟨d,k,e,o,l,n⟩ | ⟨d,k,b,e,o,J,l,n⟩
 .subst o n;obtain⟨z,p,vs,f,m⟩:=zpl I.hok e;have D:vs.length<=XA:=by rw[<- f.length];exact z
  have x:(putK d k v).length<=XA:=by have:=xW d k v;lia
  refine wpAny_setItem_pairs (hsz:=D) (zex O) m λM i B=>h _ ?_;have he:∃q,M.get? a=some q:=let ⟨q,_,_,j,_⟩:=i;⟨q,j⟩
  exact zcA I (by rw[e];exact U5) B he (zlX x p (f.put k N) i)
 .subst o n;cases (show u=WT b from O);refine fG (λz p xs f m=>?_) (zlV I.hok e);have D:xs.length<=XA:=by rw[<- Paired.length f];exact z
  have x:(putK d k v).length<=XA:=by have:=xW d k v;lia
  refine wpAny_setItem_heap (hsz:=D) (Te hu) (zbv I.hok J) m λM i B=>h _ ?_;revert i;refine fT λq Y U j h2 h3 h4 _ h5=>?_;refine zcA I (by rw[e];exact U5) B ⟨q,j⟩ (dD x p (dB ((f.put k J N).keeps λc ys L=>?_) (dW q Y U j h2 h3 h4 h5)));rw[zj (zei L e (λz=>nomatch z))];exact L
end
def zrG (i:Expr):Prop:=∀b a,Pl i false b a=operate [b,a] (OV b a)
def zn7 {prog:Xm}{w:W3}{A:WN}{E:X9->X7->Prop}{s:X7}{g:Env}{b a:Expr}{pos:Pos}{T id:String}{Q:X9->X7->Prop}
  (p:P7 (.type T) "__getitem__"=pure (some (.builtin id))) (q:zrG a)
  (h:Xj (Xn prog w) A (eval b g) (λo e=>Xj (Xn prog w) A (eval a g) (λi c=>c.TypeIs o T/\Xj (Xn prog w) A (OV o i) Q E c) E e) E s) :
  Xj (Xn prog w) A (eval (.Subscript b a pos) g) Q E s:=by
 refine Subscript_ (VY h (λo e l=>VY l (λi c d=>?_) λ_ _ x=>x) λ_ _ x=>x);obtain⟨n,d⟩:=d;unfold OD;refine Y1 ?_;rw[getitemInPython_of_ne n.not_modules];refine Y1 (Tp n p ?_);have j:Xj (Xn prog w) A (Pl a false o i) (λr f=>Xj (Xn prog w) A (letTemporaryGo b o r >>= λ_=>pure r) Q E f) E c:=by
  rw[q o i];exact wpAny_operating (VY d (λr f m=>Y1 (wpAny_letTemporaryGo (XR m))) λ_ _ x=>x)
 first
  | exact XR (Y1 j)
  | exact Y1 (XR (Y1 j))
  | exact Y1 j
def zgw {X:Cx}{f:List (Addr×Obj)}{h:St}{H:Hp}{s:X7}{a:Addr}{y:V}{o:Option V}(I:Inv X f h H s)(g:zap H a y o):s.TypeIs (.ref a) "dict":=by
 rcases g with ⟨d,k,e,_,_⟩ | ⟨d,k,b,e,_,_,_⟩
 .obtain⟨_,_,i,_,c⟩:=zez I.hok e;exact c.typeIs
 .obtain⟨_,_,j,_,c⟩:=zeA I.hok e;exact c.typeIs
def zrH (e ty:TE):TE:=fun c H Q=>e c H λx d=>ty c d λy b=>∃a v,x=.ref a/\zap b a y (some v)/\Q v b
def zn8 (ty e:TE):TE:=fun c H Q=>ty c H λy d=>e c d λx b=>∃a o,x=.ref a/\zap b a y o/\Q (.bl (!o.isSome)) b
def zrI (g ty h:TE):TS:=λD b H=>h b H λv d=>g b d λx e=>ty b e λy f=>∃a c,x=.ref a/\zlW f a y v c/\D.nx b c
section
variable {X:Cx}{o i e value:Expr}{pos pos' tpos:Pos}{td ty tv:TE}
def zn9 (w:X.A.units+1<VN)(q:PE X o td)(p:PE X i ty)(r:zrG i):PE X (.Subscript o i pos) (zrH td ty):=by
 intro d s e H Q I h;refine zn7 PySem.F.slot_dict_getitem.lookup r (thn (q d s e H _ I h) λu s1 ⟨x,f,l,D,z⟩=>thn (p d s1 e f _ l z) λG J ⟨y,j,c,E,a,v,n,g,B⟩=>?_);subst n;obtain rfl:u=WT a:=D;exact⟨zgw c g,zkp w c g E λM L m b=>⟨v,j,m,b,B⟩⟩
def zkr (q:X.A.units+1<VN)(n:PE X i ty)(p:PE X o td):PC X .NotIn i o (zn8 ty td):=by
 intro b s c H Q I h;refine thn (n b s c H _ I h) λD s1 ⟨y,d,f,B,v⟩=>thn (p b s1 c d _ f v) λu E ⟨x,e,j,z,a,r,m,g,w⟩=>?_;subst m;obtain rfl:u=WT a:=z;exact zn6 q j g B λG l=>⟨.bl (!r.isSome),e,l,rfl,w⟩
def zoa (B:X.A.units+1<VN)(w:PE X o td)(q:PE X i ty)(E:PE X value tv)(z:RY value (some (.Subscript o i pos')) pos.line X.env=pure false) :
  PS X (.Assign [.Subscript o i pos'] value pos) (zrI td ty tv):=by
 intro c s b H D I h;refine wpAny_Assign_Subscript (thn (E c s b H _ I h) λr s1 ⟨v,d,j,M,G⟩=>thn (w c s1 b d _ j G) λu Q ⟨x,e,l,N,J⟩=>thn (q c Q b e _ l J) λY s3 ⟨y,U,m,O,a,f,p,g,L⟩=>?_) z;subst p;obtain rfl:u=WT a:=N;exact zkq B m g O M λs4 n=>⟨b,f,n,L⟩
end
def zlY {P:Xm}{w:W3}{H:Hp}(h:Heap)(a:Vi<h.objs.size):qH P w H (h.push { cls:=.type "dict",data:=.dict #[] }) h.objs.size (.dK []) :=
 ⟨WY _,beq_eq_false_iff_ne.mpr (UY (Xi a)),[],.nil,Heap.DictOf.new h⟩
def zh1:List (TE×TE)->St->Hp->(List (V×V)->Hp->Prop)->Prop
 | [],_,H,Q=>Q [] H
 | (tk,e)::r,a,H,Q=>tk a H λx b=>e a b λy c=>zh1 r a c λps d=>Q ((x,y)::ps) d
abbrev VV:List (V×V)->List (X9×X9)->Prop:=Xl λp q=>RelV p.1 q.1/\RelV p.2 q.2
def PPs (X:Cx)(pos:Pos)(keys:List (Option Expr))(a:List Expr)(b:List (TE×TE)):Prop :=
 ∀(e:List (Addr×Obj)) (s:X7) (c:St) (H:Hp) (Q:List (V×V)->Hp->Prop),Inv X e c H s->zh1 b c H Q ->
  Xj (Xn X.prog X.w) X.A (evalPairs (pairTrees keys a X.env pos)) (λh g=>∃f d,Inv X e c d g/\VV f h/\Q f d) X.xe s
def zob {X:Cx}{pos:Pos}:PPs X pos [] [] []:=λa s b H Q I h=>pairTrees_nil_walk ⟨[],H,I,.nil,h⟩
def zgx {X:Cx}{pos:Pos}{k v:Expr}{ks:List (Option Expr)}{vs:List Expr}{tk e:TE}{a:List (TE×TE)}(hk:PE X k tk)(o:PE X v e)(n:PPs X pos ks vs a) :
  PPs X pos (some k::ks) (v::vs) ((tk,e)::a):=λb s d H Q I h =>
 pairTrees_cons_walk (thn (hk b s d H _ I h) λu s1 ⟨x,f,j,z,q⟩=>thn (o b s1 d f _ j q) λE B ⟨y,g,l,A,r⟩ =>
  thn (n b B d g _ l r) λG D ⟨p,i,m,c,w⟩=>⟨(x,y)::p,i,m,.cons ⟨z,A⟩ c,w⟩)
def Yq (b more:List (Key×V)):List (Key×V):=more.foldl (λa c=>putK a c.1 c.2) b
def KV.merge:∀{more:List (Key×V)} {rs:List (Key×X9)} {a:List (Key×V)} {vs:List (Key×X9)},KV more rs->KV a vs->KV (Yq a more) (merged vs rs):=by
 intro more rs a vs r;unfold KV at r;induction r generalizing a vs with
 | nil=>intro q;exact q
 | @cons p q d f h t b =>
  intro c;have e:KV (putK a p.1 p.2) (stored vs q.1 q.2):=by
   have:=c.put p.1 h.2;rw[<- h.1];exact this
  exact b e
theorem zaa:∀(more a:List (Key×V)),(Yq a more).length<=a.length+more.length
 | [],a=>by show a.length<=a.length+0;lia
 | p::r,a=>by
  have h1:=zaa r (putK a p.1 p.2);have h2:=xW a p.1 p.2;show (Yq (putK a p.1 p.2) r).length<=_;rw[Xo];lia
theorem zcU {P:Xm}{w:W3}:∀{d:List (Key×V)} {f:List (X9×X9)},VV (d.map λe=>(kV e.1,e.2)) f->∃rs,Carries (zV P w) f rs/\KV d rs
 | [],_,r=>by rw[P0]at r;cases r;exact⟨[],U5,.nil⟩
 | p::d,_,r=>by
  rw[Xw]at r;cases r with
  | @cons a b as bs h t =>
   obtain⟨rs,c,q⟩:=zcU (P:=P) (w:=w) t;obtain⟨i,g⟩:=b;exact⟨(p.1,g)::rs,⟨zex h.1,rfl,c⟩,.cons ⟨rfl,h.2⟩ q⟩
def zrJ (b:List (TE×TE)):TE:=fun f H Q=>∀p,H p=none->zh1 b f (upd H p (.dK [])) λe c=>c p=some (.dK [])/\∃a:List (Key×V),e=a.map (λd=>(kV d.1,d.2))/\a.length<=15/\Q (.ref p) (upd c p (.dK (Yq [] a)))
def zoc {X:Cx}{pos:Pos}{keys:List (Option Expr)}{b:List Expr}{i:List (TE×TE)}(h:PPs X pos keys b i)(f:keys.all (·.isSome)=true)(x:keys.length=b.length)(h0:keys ≠ [])
  (j:keys.length<=15):PE X (.Dict keys b pos) (zrJ i):=by
 intro p s M H Q I q;have y:=I.hok.fresh (XU s.heap.objs.size);have n:=I.laid (a:=s.heap.objs.size) (o:=.dK []) (h':=s.heap.push { cls:=.type "dict",data:=.dict #[] }) (t':=s.toks) (λ_ _ q=>XV _ q) (XU _) (zlY s.heap I.big);refine wpAny_Dict_walk (knd:=zV X.prog X.w) f x h0 j (thn (h p _ M _ _ n (q _ y)) λws Y ⟨U,N,m,l,e,g,u,O,D⟩=>?_);subst u;obtain⟨J,c,G⟩:=zcU (P:=X.prog) (w:=X.w) l;refine fG (λz v L E r=>?_) (zpl m.hok e);cases E;refine⟨J,c,r,λh' d A=>⟨.ref s.heap.objs.size,_,?_,rfl,D⟩⟩;have B:(Yq [] g).length<=XA:=by
  have h1:=zaa g [];rw[Vu]at h1;rw[TV];lia
 have he:∃q,h'.get? s.heap.objs.size=some q:=let ⟨q,_,_,hq,_⟩:=d;⟨q,hq⟩
 exact zcA m (by rw[e];exact U5) A he (zlX B v (G.merge .nil) d)
structure M2 (X:Cx)(o:Expr)(m:Str)(apos:Pos)(e f:Expr)(cpos:Pos):Prop where
 base:attributeBase o m X.env (eval o X.env)=eval o X.env
 few:((Sw cpos (WS [e,f] X.env)).all (λx=>!x.1)&&(backToKw cpos (keywordEach [] X.env)).all (λx=>x.1.isSome)
  && decide (([e,f]:List Expr).length+([]:List N6).length+(if ([]:List N6).isEmpty then 0 else 1)<30))=true
 line:(apos.endLine==cpos.line)=true
 trees:Sw cpos (WS [e,f] X.env)=[(false,eval e X.env),(false,eval f X.env)]
def IsD (H:Hp)(a:Addr):Prop:=(∃b,Rd H a (.dK b))\/∃b,Rd H a (.dT b)
def zql {X:Cx}{h:List (Addr×Obj)}{i:St}{H:Hp}{s:X7}{a:Addr}(I:Inv X h i H s)(d:IsD H a) :
  s.TypeIs (.ref a) "dict"/\(∀b,WT a=.ref b->∃ob,s.heap.get? b=some ob/\ob.dict=none)/\(a==Vi)=false:=by
 rcases d with ⟨g,e⟩ | ⟨g,e⟩
 .refine fG (λ_ f j _ c=>?_) (zez I.hok e);refine⟨c.typeIs,λb q=>?_,f⟩;cases q;revert c;refine fM λob _ _ h1 h2 _=>?_;exact⟨ob,h1,h2.2.1⟩
 .refine fG (λ_ f l _ c=>?_) (zeA I.hok e);refine⟨c.typeIs,λb q=>?_,f⟩;cases q;revert c;refine fM λob _ _ h1 h2 _=>?_;exact⟨ob,h1,h2.2.1⟩
section
variable {X:Cx}{bz:List (Addr×Obj)}{σ:St}{H:Hp}{s:X7}{a:Addr}{y d:V}{u r:X9}{o:Option V}{A:WN}{E:X9->X7->Prop}
def zqm {Q:X9->X7->Prop}(x:A.units+1<VN)(I:Inv X bz σ H s)(g:zap H a y o)(p:RelV y u)(n:RelV d r)(h:∀q s',Inv X bz σ H s'->RelV (o.getD d) q->Q q s') :
  Xj (Xn X.prog X.w) A (call (.builtin "dict.get") [.ref a,u,r]) Q E s:=by
 rcases g with ⟨m,k,e,i,l⟩ | ⟨m,k,b,e,i,v,l⟩
 .subst i;refine fG (λz j D c f=>?_) (zez I.hok e);refine call_meetsIn SC f.typeIs PP (Q1 _ _ _) (meets_dict_get_default (zV X.prog X.w) a (zex p) j r) ⟨_,f.mapOf,h _ _ (I.tok _) ?_⟩;rw[l];exact(c.val k).getD n
 .subst i;cases (show u=WT b from p);refine fG (λz j B c f=>?_) (zeA I.hok e);refine call_meetsIn SC f.typeIs PP (Q1 _ _ _) (meetsH_dict_get_default (VZ (zV X.prog X.w)) a b j r) ⟨Te x,(dF k B (dD (zbv I.hok v) f (h _ _ (I.tok _) ?_)))⟩;rw[l];exact(c.val k).getD n
end
def zqn (f ty g:TE):TE:=fun b H Q=>f b H λx c=>∃a,x=.ref a/\IsD c a/\ty b c λy e=>g b e λz d=>∃o,zap d a y o/\Q (o.getD z) d
section
variable {X:Cx}{o e f:Expr}{apos cpos:Pos}{td ty tx:TE}
def zgy (E:X.A.units+1<VN)(D:PE X o td)(he:PE X e ty)(B:PE X f tx)(m:M2 X o "get" apos e f cpos):PE X (.Call (.Attribute o "get" apos) [e,f] [] cpos) (zqn td ty tx):=by
 intro b s i H Q I h;refine wpAny_Call_method m.base m.few m.line QR SC PySem.F.type_dict_get (thn (D b s i H _ I h) λu s1 ⟨x,l,j,M,a,w,d,G⟩=>?_);subst w;obtain rfl:u=WT a:=M;obtain⟨Y,t2,_⟩:=zql j d;refine⟨Y,t2,?_⟩;rw[m.trees];refine PQ rfl (Sd (RR (thn (he b s1 i l _ j G) λiv U ⟨y,n,q,N,J⟩ =>
  RR (thn (B b U i n _ q J) λfv s3 ⟨z,p,r,O,ov,g,L⟩=>Calls.spliced_nil ?_))))
 exact zqm E r g N O λw' s4 v c=>⟨_,p,v,c,L⟩
end
def zks:P7 (.type "list") "keys"=pure none:=by rw[To,UX];kernel_rfl
def zkt:P7 (.type "list") "__getattr__"=pure none:=by rw[To,UX];kernel_rfl
def zcV:isSubtype (.type "AttributeError") (.type "AttributeError")=pure true:=by rw[Pd];kernel_rfl
def zlZ (a:List X9):ownMembersOf (.type "AttributeError") a=#[unsetMember,unsetMember]:=rfl
def zh2:((Manifest.find? "AttributeError").elim false λt=>t.mro.contains "StopIteration" || t.mro.contains "SystemExit")=false:=by decide+kernel
section
variable {prog:Xm}{w:W3}{A:WN}{E:X9->X7->Prop}{h:Heap}{g:Array Sg}{d:Drawn}{t:Nat}{os:OsState}{a:Addr}{its:Array X9}{n:Nat}
def zl0 {tk:Tok}{Q:Fin->X7->Prop}(o:h.get? a=some { cls:=.type "list",dict:=none,data:=.seq its n,slots:=#[] })(l:A.handled=none)
  (he:∀c j e,(∀b f,h.get? b=some f->c.get? b=some f)->(⟨c,g,d,j,os⟩:X7).TypeIs (.ref e) "AttributeError"->E (.ref e) ⟨c,g,d,j,os⟩) :
  Xj (Xn prog w) A (UQ.«object.__getattribute__» ⟨[.ref a,.str "keys" tk],[]⟩) Q E ⟨h,g,d,t,os⟩:=by
 have r:(⟨h,g,d,t,os⟩:X7).TypeIs (.ref a) "list":=⟨_,o,rfl⟩;have p:=zks;have q:=zcV;repeat (any_goals (first | assumption | wp_step))
 unfold raiseAttrError;refine Y1 (wpAny_mkStr (Y1 ?_) (by decide+kernel));unfold newExc newTuple;refine Y1 (VA ?_);refine Y1 (m:=RT _ _) (N8 (a:=Ur) (by simp only[RT,zh2];rfl) ?_);rw[zlZ];refine VA ?_;refine Y1 (wpAny_mkText ?_);refine Y1 ?_;unfold noteAttr lacksNameAndObj;repeat (any_goals (first | assumption | wp_step))
 unfold raiseNew;refine Y1 (wpAny_handled ?_);rw[l];refine Y1 (XR (wpAny_throw ?_));dsimp only;refine he _ _ _ (λb f i=>?_) ?_
 .rw[(Wx ..).2 b (Xi ?_)]
  .exact XV _ (XV _ i)
  .rw[U3];exact Wo (XB i)
 .refine⟨_,Wj _ (Xc _ rfl) rfl,rfl⟩
def zod {tk:Tok}{R:Oc->X7->Prop}(f:h.get? a=some { cls:=.type "list",dict:=none,data:=.seq its n,slots:=#[] })(l:A.handled=none)
  (he:∀c j e,(∀b i,h.get? b=some i->c.get? b=some i)->(⟨c,g,d,j,os⟩:X7).TypeIs (.ref e) "AttributeError"->R (.error (.ref e)) ⟨c,g,d,j,os⟩) :
  SV (Xn prog w) A (.call (.builtin "list.__getattribute__") ⟨[.ref a,.str "keys" tk],[]⟩) R ⟨h,g,d,t,os⟩ :=
 O6 PySem.F.slot_list_getattribute.plain PySem.F.entry_list_ga (PySem.F.slot_list_getattribute.check _ _ _ _ _ _ _ _ (show (⟨h,g,d,t,os⟩:X7).TypeIs (.ref a) "list" from ⟨_,f,rfl⟩) (PySem.F.args_list_getattribute_2 _ _) (zl0 f (by simp[l]) he))
def zrK {tk:Tok}{Q:X9->X7->Prop}(i:h.get? a=some { cls:=.type "list",dict:=none,data:=.seq its n,slots:=#[] })(m:A.handled=none)
  (he:∀c f e,(∀b j,h.get? b=some j->c.get? b=some j)->(⟨c,g,d,f,os⟩:X7).TypeIs (.ref e) "AttributeError"->E (.ref e) ⟨c,g,d,f,os⟩) :
  Xj (Xn prog w) A (getAttrBy (.ref a) (.str "keys" tk) false) Q E ⟨h,g,d,t,os⟩:=by
 have u:(⟨h,g,d,t,os⟩:X7).TypeIs (.ref a) "list":=⟨_,i,rfl⟩;have p:=PySem.F.slot_list_getattribute.lookup;have q:=PySem.F.slot_list_getattribute.bind (.ref a);have r:=zkt;have s:=zcV;repeat (any_goals (first | assumption | wp_step))
 refine zod i (by simp[m]) λc f e o l=>?_;repeat (any_goals (first | assumption | wp_step))
 exact he _ _ _ o l
def zoe {Q:Option X9->X7->Prop}(m:h.get? a=some { cls:=.type "list",dict:=none,data:=.seq its n,slots:=#[] })(j:A.handled=none)
  (l:∀c i,(∀b f,h.get? b=some f->c.get? b=some f)->Q none ⟨c,g,d,i,os⟩) :
  Xj (Xn prog w) A (getAttr? (.ref a) "keys") Q E ⟨h,g,d,t,os⟩:=by
 have p:=zcV;unfold getAttr? getAttrBy?;refine Y1 (wpAny_mkText (Y1 (Ru ?_)));refine zrK (t:=t+1) m j λc i e o q=>?_;repeat (any_goals (first | assumption | wp_step))
 exact l _ _ o
def zaU:N0 table "dict.update.loop"=some UQ.«dict.update.loop»:=entryFor_of_tree (by kernel_rfl)
def Jp:plainId "dict.update.loop"=true:=by decide+kernel
end
section
variable {prog:Xm}{w:W3}{A:WN}{R:Oc->X7->Prop}{I:Addr}{fp wr:List Addr}{G:Array Sg->Array Sg->Prop}{n:Nat}{P:Nat->X9->Prop}{St:Nat->X7->Prop}
abbrev KQ:=List Key×Addr×X9
def putAll (ks:List KQ):List KQ:=ks.foldl (λa q=>UE a q.1 q.2.1 q.2.2) []
def putAll_snoc (ks:List KQ)(q:KQ):putAll (ks++[q])=UE (putAll ks) q.1 q.2.1 q.2.2:=by
 unfold putAll;rw[T2];rfl
def zb3 (xs:List KQ)(k:List Key)(a:Addr)(v:X9):(UE xs k a v).length<=xs.length+1:=by
 unfold UE;split
 .rw[ZB];lia
 .rw[XY];exact XU _
def zcW (ks:List KQ):(putAll ks).length<=ks.length:=by
 suffices h:∀(ks a:List KQ),(ks.foldl (λa q=>UE a q.1 q.2.1 q.2.2) a).length<=a.length+ks.length by
  have:=h ks [];simpa[putAll] using this
 intro ks;induction ks with
 | nil=>intro a;exact XU _
 | cons q r b =>
  intro a;have h1:=b (UE a q.1 q.2.1 q.2.2);have h2:=zb3 a q.1 q.2.1 q.2.2;rw[Wc,Xo];lia
def zfr {A:WN}{E:X9->X7->Prop}{s:X7}{a:Addr}{x y:X9}{Q:List X9->X7->Prop}(h:N5 s.heap a #[x,y])(q:Q [x,y] s):Xj (Xn prog w) A (PN (.ref a)) Q E s:=by
 obtain⟨o,h1,h2,n,b⟩:=h;have c:s.TypeIs (.ref a) "tuple":=⟨o,h1,h2⟩;unfold PN;repeat (any_goals (first | assumption | wp_step))
 rw[b];exact XR (XR q)
theorem zb4 (T:List Key->Addr->Prop):∀(d a:List KQ),(∀x∈a,T x.1 x.2.1)->(∀x∈d,T x.1 x.2.1)->∀x∈d.foldl (λa q=>UE a q.1 q.2.1 q.2.2) a,T x.1 x.2.1
 | [],_,b,_=>b
 | q::r,a,b,c=>by
  rw[Wc];refine zb4 T r _ (λx hx=>?_) λx hx=>c x (XT _ hx);unfold UE at hx;split at hx
  .obtain⟨y,f,rfl⟩:=XI.mp hx;have:=b y f;unfold putAt;split
   .exact this
   .exact this
  .rcases XO.mp hx with hx | hx
   .exact b x hx
   .have e:x=(q.1,q.2.1,q.2.2):=by simpa using hx
    subst e;exact c q XQ
def zh3 {h0:Heap}(W:WalksS prog w A.in1 I fp wr G n P St)(D:Addr)(J:D ∉ fp)(aa:h0.get? D=none)(ah:∀b∈wr,h0.get? b=none)(ks:List KQ)(N:ks.length=n)(u:n<=XA)(hu:A.units+1<VN)
  (M:∀q∈ks,(VZ (zV prog w)).is h0 q.1 q.2.1) (hP:∀i v,P i v->∃H q,v=.ref H/\ks[i]?=some q/\N5 h0 H #[.ref q.2.1,q.2.2]) :
  ∀(k i:Nat) (s:X7),n-i=k->i<=n->St i s->(∀b o,h0.get? b=some o->s.heap.get? b=some o)->s.heap.DictOfH (VZ (zV prog w)) D (putAll (ks.take i)) ->
   (∀s',Moved (D::wr) G s s'->s'.heap.DictOfH (VZ (zV prog w)) D (putAll ks)->R (.ok (.ret .none)) s') ->
   SV (Xn prog w) A (.builtin "dict.update.loop" ⟨[.ref D,.ref I,Ua (i:Int),.none],[]⟩) R s:=by
 have ab:D ∉ wr:=λh=>J (W.sub _ h);have more:∀b∈wr,b∈D::wr:=λb u=>XT _ u;have r:∀{h:Heap} {H:Addr} {y:Array X9},(∀b o,h0.get? b=some o->h.get? b=some o)->N5 h0 H y->N5 h H y:=λl ⟨o,h1,h2,m,h3⟩=>⟨o,l _ _ h1,h2,m,h3⟩;have f:∀{h:Heap} {ka:Addr} {q:List Key},(∀b o,h0.get? b=some o->h.get? b=some o)->(VZ (zV prog w)).is h0 q ka->(VZ (zV prog w)).is h q ka:=λl ⟨o,y,m,h1,h2⟩=>⟨o,y,m,l _ _ h1,h2⟩;have c:∀{s s':X7} {y:List KQ},Moved wr G s s'->(∀b o,h0.get? b=some o->s'.heap.get? b=some o)->(∀x∈y,(VZ (zV prog w)).is h0 x.1 x.2.1)->s.heap.DictOfH (VZ (zV prog w)) D y->s'.heap.DictOfH (VZ (zV prog w)) D y :=
  λg l hk ⟨o,es,ep,e1,e2,e3,e4,_,e6⟩=>(dW o es ep (g.heap D _ ab e1) e2 e3 e4 ⟨λx Y=>f l (hk x Y),e6⟩)
 have d:∀{s s':X7},Moved wr G s s'->(∀b o,h0.get? b=some o->s.heap.get? b=some o)->∀b o,h0.get? b=some o->s'.heap.get? b=some o:=λg l b o e =>
  g.heap b o (λu=>by
   rw[ah b u]at e;cases e) (l b o e)
 have j:∀i,∀x∈putAll (ks.take i),(VZ (zV prog w)).is h0 x.1 x.2.1:=λi=>zb4 (λa b=>(VZ (zV prog w)).is h0 a b) _ [] (λx Y=>nomatch Y) λx Y=>M x (V9 Y);intro k;induction k with
 | zero =>
  intro i s hk hi E l hS hR;have ag:i=n:=by lia
  subst ag;refine VH zaU ?_;rw[V8 Jp _];show Xj _ A.in1 (RW (.ref I) >>= _) _ _ s;refine Y1 (W.done s _ _ E λs' g=>?_);show Xj _ A.in1 (Rq D [] >>= λ_=>ret Ur) _ _ s';refine Y1 (XR (XR (hR s' (g.mono more) ?_)));have:=c g (d g l) (j _) hS;rw[<- N,XJ]at this;exact this
 | succ k ih =>
  intro i s hk hi E l hS hR;have O:i<n:=by lia
  refine VH zaU ?_;rw[V8 Jp _];show Xj _ A.in1 (RW (.ref I) >>= _) _ _ s;refine Y1 (W.item i s _ _ O E λv s' ac U g=>?_);refine fH (λH q z0 hq ht=>?_) (hP i v ac);subst z0;have p:=d g l;have ae:=c g p (j _) hS;have l1:=zcW (ks.take i);have l2:(ks.take i).length<=n:=by
   rw[XN];lia
  have tk:ks.take (i+1)=ks.take i++[q]:=by
   rw[Xx,hq];rfl
  refine Y1 (VT (Y1 (wpAny_tryCatch (zfr (r p ht) ?_))));refine VT (wpAny_dictSet_heap (show A.in1.units<VN from hu) (f p (M q (X8 hq))) ae (λh' af B=>?_) (by lia));have ai:∀b o,h0.get? b=some o->h'.get? b=some o:=λb o e=>by
   rw[B.2 b (λz=>by
    rw[z,aa]at e;cases e)]
   exact p b o e
  have d2:h'.DictOfH (VZ (zV prog w)) D (putAll (ks.take (i+1))):=by
   rw[tk,putAll_snoc];exact af
  refine XR ⟨UJ Jp _,?_⟩;show SV _ A (.builtin "dict.update.loop" ⟨[.ref D,.ref I,Ua ((i:Int)+1),.none],[]⟩) R _;rw[show ((i:Int)+1)=((i+1:Nat):Int) by lia];refine ih (i+1) _ (by lia) O (W.frame _ s' _ _ U (U8 _ _) λb u o e=>?_) ai d2 λaj Q L=>?_
  .rw[B.2 b (λz=>J (by rw[<- z];exact u))];exact e
  .refine hR aj (Moved.trans W.gtrans ((g.mono more).then_heap (U8 _ _) λb o u e=>?_) Q) L;rw[B.2 b (λz=>u (by rw[z];exact XQ))];exact e
end
def zrL (H:Hp)(v:V)(c:List Key×V):Prop:=∃a b,v=V.ref a/\H a=some (.tup [.ref b,c.2])/\H b=some (.tup (c.1.map kV))
def jr (H:Hp):AF->List (List Key×V)->Prop:=Xl (zrL H)
def jr.mono {H d:Hp}(s:zo H d){vs:AF}{c:List (List Key×V)}(f:jr H vs c):jr d vs c:=by
 induction f with
 | nil=>exact .nil
 | cons q _ g =>
  obtain⟨a,b,e,h1,h2⟩:=q;exact .cons ⟨a,b,e,s _ _ h1,s _ _ h2⟩ g
def YX (b:List (List Key×V)):List (List Key×V):=b.foldl (λa c=>putK a c.1 c.2) []
def KT.puts {H:Hp}{b:List (List Key×V)}{ks:List KQ}{a:List (List Key×V)}{xs:List KQ}(e:KT H b ks)(r:KT H a xs):KT H (b.foldl (λa c=>putK a c.1 c.2) a) (ks.foldl (λa q=>UE a q.1 q.2.1 q.2.2) xs):=by
 induction e generalizing a xs with
 | nil=>exact r
 | cons q _ f =>
  obtain⟨h1,h2,d⟩:=q;rw[Wc,Wc];refine f ?_;rw[<- h1];exact r.put _ h2 d
def zof {P:Xm}{w:W3}{H:Hp}{h:Heap}(ok:HOk P w H h){a:List (List Key×V)}{ks:List KQ}(b:KT H a ks):∀x∈ks,(VZ (zV P w)).is h x.1 x.2.1:=by
 induction b with
 | nil=>exact λx hx=>nomatch hx
 | cons q _ c =>
  intro x hx;rcases XH.mp hx with e | hx
  .subst e;exact zbv ok (by rw[<- q.1];exact q.2.1)
  .exact c x hx
def zog {P:Xm}{w:W3}{H:Hp}{h:Heap}(ok:HOk P w H h){vs:AF}{d:List (List Key×V)}{c:List X9}(o:jr H vs d)(j:Vals vs c):∃ks:List KQ,KT H d ks/\ks.length=c.length/\(∀(i:Nat) (v:X9),c[i]?=some v->∃(f:Addr) (q:KQ),v=WT f/\ks[i]?=some q/\N5 h f #[.ref q.2.1,q.2.2]):=by
 induction o generalizing c with
 | nil =>
  cases j;exact⟨[],.nil,rfl,λi v e=>by simp at e⟩
 | @cons x l I J q _ p =>
  obtain⟨a,b,e,h1,h2⟩:=q;cases j with
  | cons D A =>
  obtain⟨ks,s,y,z⟩:=p A;subst e;cases D;obtain⟨_,I,r,E⟩:=(show qH P w H h a (.tup [.ref b,l.2]) from ok a _ h1);obtain⟨u,G,rfl,B,g⟩:=vals2 r;cases B;refine⟨(l.1,b,G)::ks,.cons ⟨rfl,h2,g⟩ s,by rw[Xo,Xo,y],λi v e=>?_⟩;cases i with
  | zero =>
   have m:WT a=v:=by simpa using e
   exact⟨a,_,m.symm,rfl,E⟩
  | succ i =>
   refine fH (λf q h1 h2 n=>?_) (z i v (by simpa using e));exact⟨f,q,h1,by simpa using h2,n⟩
section
variable {X:Cx}
set_option maxHeartbeats 8000000 in
theorem yt (hu:X.A.units+64<VN)(hh:X.A.handled=none):qM X (.type "dict") (λxs H Q=>∃l us g,xs=[.ref l]/\H l=some (.lst us)/\jr H us g/\∀d,H d=none->Q (.ref d) (upd H d (.dT (YX g)))):=by
 intro bz s σ H xs ai Q I r h;revert h;refine fF λl us g z0 hl hp q=>?_;subst z0;obtain⟨u,rfl,ru⟩:=vals1 r;cases ru;obtain⟨hz,p,n,rv,e⟩:=(show qH X.prog X.w H s.heap l (.lst us) from I.hok l _ hl);obtain⟨ks,G,E,O⟩:=zog I.hok hp rv;have big:=I.big;have B:p.length<=XA:=by
  rw[<- rv.length];exact hz
 have ae:=zof I.hok G;refine callType_codes (Q₁:=λY y=>Y=.ref s.heap.objs.size/\y={ s with heap:=s.heap.push { cls:=.type "dict",data:=.dict #[] } }) PySem.F.kt_called_dict (PySem.F.kt_typeCall_dict_1 _) PySem.F.entry_dict_init (kt_code_dict_new _ ⟨rfl,rfl⟩) ?_;rintro Y y ⟨rfl,rfl⟩;have f:(s.heap.push { cls:=.type "dict",data:=.dict #[] }).DictOfH (VZ (zV X.prog X.w)) s.heap.objs.size []:=Heap.DictOfH.new s.heap;have e1:(s.heap.push { cls:=.type "dict",data:=.dict #[] }).get? l=some { cls:=.type "list",dict:=none,data:=.seq p.toArray n,slots:=#[] }:=XV _ e;refine⟨f.typeIs,PySem.F.args_dict_init_2 _ _,?_⟩;unfold UQ.«dict.__init__»;refine Y1 ?_;unfold Rp;refine Y1 (Px f.typeIs ?_);show Xj _ _ (pure (s.heap.objs.size,[WT l])) _ _ _;refine XR ?_;show Xj _ _ (Ut "dict.__init__" s.heap.objs.size (.ref l) [] .none) _ _ _;unfold Ut;have hT:Sm { s with heap:=s.heap.push { cls:=.type "dict",data:=.dict #[] } } (.ref l) "list":=⟨_,e1,rfl⟩;refine Y1 (R4 hT ?_);rw[bw (by decide)];refine Y1 (zoe e1 (by simp[hh]) λh2 t2 kp=>?_);rw[bw (show (none:Option X9).isNone=true from rfl)];have U:∀b j,s.heap.get? b=some j->h2.get? b=some j:=λb j z=>kp b j (XV _ z);have J:h2.IsList l p.toArray:=⟨_,kp _ _ e1,rfl,n,rfl⟩;refine Y1 (U4 (Y1 (T5 J ?_)));have L:l<s.heap.objs.size:=XB e;have m:s.heap.objs.size<h2.objs.size:=by
  revert f;refine fX λo _ _ N _=>?_;exact XB (kp _ _ N)
 have M:l≠h2.objs.size:=Xi (TL L m);have aa:s.heap.objs.size ∉ [h2.objs.size,l]:=by
  simp only[XH,Vq,or_false,not_or];exact⟨Xi m,Uq L⟩
 refine XR ⟨UJ Jp _,?_⟩;have ac:(h2.push { cls:=.type "list_iterator",data:=.fields #[.ref l,.int 0 0] }).DictOfH (VZ (zV X.prog X.w)) s.heap.objs.size []:=by
  revert f;refine fT λo es ep N h3 h4 h5 _ h6=>?_;exact dW o es ep (XV _ (kp _ _ N)) h3 h4 h5 ⟨(λx hx=>nomatch hx),h6⟩
 refine zh3 (h0:=s.heap) ((Walks.list (by simp[hh]) h2.objs.size l M p.toArray).toS) s.heap.objs.size aa (UM (XU _)) (λb hb=>?_) ks (by rw[E];simp) (by simpa using B) (by show X.A.units+1+1<VN;lia) ae (λi v hv=>O i v (by rw[<- hv];simp)) _ 0 _ rfl (WY _)
  ⟨⟨_,Xc _ rfl,rfl,rfl⟩,J.push _⟩ (λb o z=>XV _ (U b o z)) ac ?_
 .have e:b=h2.objs.size:=by simpa using hb
  rw[e];exact UM (TM m)
 .intro s' hm ab;obtain⟨h',g',d',ah,ag⟩:=s';have eg:g'=s.gens:=hm.gens;have ed:d'=s.drawn:=hm.drawn;have eo:ag=s.os:=hm.os;subst eg;subst ed;subst eo;have af:∀b j,s.heap.get? b=some j->h'.get? b=some j:=λb j z=>by
   have lt:=XB z;refine hm.heap b j (λhb=>?_) (XV _ (U b j z));rcases XH.mp hb with e | hb
   .exact VJ _ (e ▸ lt)
   .have e:b=h2.objs.size:=by simpa using hb
    rw[e]at lt;exact VJ _ (TL lt m)
  revert ab;refine fT λo es ep N h3 h4 h5 _ h6=>?_;have D:KT H (YX g) (putAll ks):=KT.puts G .nil;have c:H s.heap.objs.size=none:=I.hok.fresh (XU _);refine⟨rfl,.ref s.heap.objs.size,_,I.laid (a:=s.heap.objs.size) (o:=.dT (YX g)) (t':=ah) af (XU _) (dD ?_ (beq_eq_false_iff_ne.mpr (UY (Xi big))) (dB (KT.keeps D λb ys hb=>?_) (dW o es ep N h3 h4 h5 h6))),rfl,q _ c⟩
  .rw[Paired.length D];exact X6 (zcW ks) (by rw[E];exact B)
  .rw[zj (zh hb c)];exact hb
end
def u1 {A:PySem.Around}(h:A.units+64<PySem.cLine):A.units+1<PySem.cLine:=by lia
section
variable {K:XX}{g:TG}{tc:TT}{te:TE}{Q:VK}{σ0:St}{D:Addr}
def zl1 {l1 l2:Addr}{xs ys:AF}(Pv:Nat->St->Hp->Prop){H:Hp}(he:xs.length=ys.length)(h0:Pv 0 σ0 H)(w:∀i a H,i<=xs.length->Pv i a H->SqL K H l1 xs/\SqL K H l2 ys)
  (z:∀i x y T a H,xs[i]?=some x->ys[i]?=some y->H T=none->Pv i a H->g (.ref T) a (upd H T (.tup [x,y])) fun c q=>tc c q λb l=>if b=true then te c l λy n=>∃zs,n D=some (.lst zs)/\zs.length<XA/\Pv (i+1) c (upd n D (.lst (zs++[y]))) else Pv (i+1) c l)
  (s:∀ a H,Pv xs.length a H->Q (.ref D) H):yh (Itz K l1 l2) g tc te Q D σ0 H:=by
 refine⟨λi m a H=>m=xs.length-i/\i<=xs.length/\Pv i a H,⟨xs.length,by simp,WY _,h0⟩,?_⟩;rintro i m a H ⟨rfl,u,p⟩;obtain⟨h,j⟩:=w i a H u p;by_cases d:i<xs.length
 .refine .inr ⟨⟨xs,ys,h,j,d,by lia⟩,Pv (i+1),fun G o B=>⟨xs.length-(i+1),by lia,rfl,d,B⟩,λx o y=>?_⟩;revert y;refine fy λT z0 r y=>?_;subst z0;refine fH (λv E A f z0=>?_) (y xs ys h j);subst z0;exact z i v E T a H A f r p
 .have e:i=xs.length:=by lia
  subst e;exact .inl ⟨⟨xs,ys,h,j,by lia⟩,s a H p⟩
end
theorem jr.into {H:Hp}(z:Addr)(o:HO){d:AF}(hz:H z=some (.lst d)):∀{vs:AF} {c:List (List Key×V)},jr H vs c->jr (upd H z o) vs c
 | _,_,.nil=>.nil
 | _,_,.cons ⟨a,b,e,h1,h2⟩ t=>.cons ⟨a,b,e,by rw[zj (zei h1 hz (by intro y;cases y))];exact h1,by rw[zj (zei h2 hz (by intro y;cases y))];exact h2⟩ (jr.into z o hz t)
theorem jr.snoc {H:Hp}{vs:AF}{a:List (List Key×V)}{v:V}{b:List Key×V}(h:jr H vs a)(x:zrL H v b):jr H (vs++[v]) (a++[b]):=Paired.snoc h x
theorem jr.length {H:Hp}{vs:AF}{a:List (List Key×V)}(h:jr H vs a):vs.length=a.length:=Paired.length h
theorem zbw {v:V}{k:List Key}:∀(ks:List (List Key)) (a:List (List Key×V)),(k∈ks\/qO a k=some v)->qO ((ks.map λx=>(x,v)).foldl (λa b=>putK a b.1 b.2) a) k=some v
 | [],a,h=>by
  rcases h with h | h
  .cases h
  .exact h
 | x::r,a,h=>by
  rw[Xw,Wc];refine zbw r _ ?_;rw[zaT];by_cases e:k=x
  .rw[bw e];exact .inr rfl
  .rw[bq e];rcases h with h | h
   .rcases XH.mp h with h | h
    .exact absurd h e
    .exact .inl h
   .exact .inr h
section
variable {prog:Xm}{w:W3}{A:WN}{E:X9->X7->Prop}{s:X7}{d o a:Addr}{xs ys:List KQ}{k:List Key}{v:X9}
abbrev tk2 (prog:Xm)(w:W3):HeapKind prog w (List Key):=VZ (zV prog w)
def zh4 {Q:Unit->X7->Prop}(J:A.units<VN)(c:(tk2 prog w).is s.heap k a)(I:s.heap.DictOfH (tk2 prog w) d xs)(hsz:xs.length<=XA)
  (u:∀h',h'.DictOfH (tk2 prog w) d (UE xs k a v)->V6 d s.heap h'->Q () { s with heap:=h' }):Xj (Xn prog w) A (OA d (.ref a) ((tk2 prog w).hash k) v) Q E s:=by
 revert I;refine fT λob H r f B b he h i=>?_;unfold OA;refine VT (Y1 (wpAny_dictFind_heap (knd:=tk2 prog w) J c f b he h i (λm=>?_) λj p D=>?_))
 .have n:=not_mem_keys_of_get m;have o:=atKey_none_of_get m;refine Y1 (U4 (wpAny_updateDictKeys (hz:=by have e:=size_of_entries he;lia) f b (u _ (eY (r+1) (Wj _ f (R9 (TQ b _))) (B.mapDictKeys _) (TQ b _) ?_ ?_ ?_) (Wx ..))))
  .rw[Pk o];simp[he,Tk]
  .rw[Pk o];intro x hx;rcases XO.mp hx with hx | hx
   .exact(tk2 prog w).keeps (h x hx) f b (Wx ..)
   .have e:x=(k,a,v):=by simpa using hx
    subst e;exact(tk2 prog w).keeps c f b (Wx ..)
  .rw[Pk o,Xz,WL];refine⟨i,by simp,λx hx y q e=>n ?_⟩;have G:y=k:=by simpa using q
   rw[<- G,<- e];exact hx
 .have g:=storedH_old (atKey_of_get i D) a v;refine Y1 (U4 (Y1 (wpAny_updateDict f b (wpAny_point (u _ (eY r (Wj _ f (R9 (Obj.data_mapDict b _))) (B.mapDict _) (Obj.data_mapDict b _) ?_ ?_ ?_) (Wx ..))))))
  .rw[g];have z:=modify_map_putAt (Tk (tk2 prog w)) (λe:Rj=>{ e with val:=v }) k v (λ_ _=>rfl) i D;rw[<- he]at z;obtain⟨l⟩:=H;simpa using z
  .rw[g];intro x hx;obtain⟨y,q,rfl⟩:=XI.mp hx;unfold putAt;split<;>exact(tk2 prog w).keeps (h y q) f b (Wx ..)
  .rw[g,keys_map_putAt];exact i
def HN (prog:Xm)(w:W3)(ys:List KQ):Prop:=(ys.map λq=>(tk2 prog w).hash q.1).Nodup
def zh5:P7 (.type "tuple") "__eq__"=pure (some (.builtin "tuple.__eq__")):=by rw[To,UX];kernel_rfl
def zgz {Q:Bool->X7->Prop}(b:(tk2 prog w).is s.heap k a)(q:Q false s):Xj (Xn prog w) A (O5 (.ref a)) Q E s:=by
 revert b;refine fM λob d n h1 h2 _=>?_;have c:s.TypeIs (.ref a) "tuple":=⟨ob,h1,h2⟩;unfold O5;refine Y1 (Tp c zh5 (XR ?_));rw[show (some (Value.builtin "tuple.__eq__")==some (Value.builtin "object.__eq__"))=false by decide+kernel];exact q
def zku {ys:List KQ}{a:Array Rj}(he:a.toList=ys.map (Tk (tk2 prog w)))(b:HN prog w ys)(x:Int):¬ (a.filter (λe=>e.hash==x)).size>1:=by
 have h1:(a.filter (λe=>e.hash==x)).size=(a.toList.filter (λe=>e.hash==x)).length:=by
  rw[<- OO,X5]
 rw[h1,he];unfold HN at b;clear h1 he;induction ys with
 | nil=>simp
 | cons q r i =>
  rw[Xw,Wp]at b;rw[Xw,WE];split
  .rename_i hq;have c:(tk2 prog w).hash q.1=x:=by simpa[Tk] using hq
   have:(r.map (Tk (tk2 prog w))).filter (λe=>e.hash==x)=[]:=by
    rw[Wg];intro e f g;obtain⟨y,h,rfl⟩:=XI.mp f;have d:(tk2 prog w).hash y.1=x:=by simpa[Tk] using g
    exact b.1 (XI.mpr ⟨y,h,by rw[c,d]⟩)
   rw[this];simp
  .exact i b.2
def zkv {id:String}{ob:Obj}{c:Array Rj}{ep:Nat}{Q:Array Rj->X7->Prop}(m:s.heap.get? d=some ob)(l:ob.data=.dict c ep)(he:c.toList=ys.map (Tk (tk2 prog w)))(hk:∀x∈ys,(tk2 prog w).is s.heap x.1 x.2.1)(j:HN prog w ys)(h:Q c s) :
  Xj (Xn prog w) A (Sa id d) Q E s:=by
 unfold Sa;refine Y1 (T1 m l (Y1 ?_));rw[<- RQ];refine TH _ (λa _ f=>f=s/\∀e∈a,e∈c.toList) _ ?_ ?_ _ _ ⟨rfl,λe he=>he⟩
 .rintro x a b f ⟨rfl,g⟩;have i:=g x XQ;rw[he]at i;obtain⟨y,n,rfl⟩:=XI.mp i;refine Y1 (zgz (hk y n) ?_);rw[bw (show (!false)=true from rfl),bq (zku he j _)];exact XR ⟨rfl,λe he=>g e (XT _ he)⟩
 .rintro b f ⟨rfl,_⟩;exact XR h
def JQ (xs ys:List KQ):List KQ:=ys.foldl (λa q=>UE a q.1 q.2.1 q.2.2) xs
def zgA (xs ys:List KQ)(q:KQ):JQ xs (ys++[q])=UE (JQ xs ys) q.1 q.2.1 q.2.2:=by
 unfold JQ;rw[T2];rfl
theorem zcX (xs:List KQ):∀ys:List KQ,∀a:List KQ,(JQ a ys).length<=a.length+ys.length
 | [],a=>XU _
 | q::r,a=>by
  have h1:=zcX xs r (UE a q.1 q.2.1 q.2.2);have h2:=zb3 a q.1 q.2.1 q.2.2;rw[Xo];show (JQ (UE a q.1 q.2.1 q.2.2) r).length<=_;lia
theorem zaV:∀(ys a:List KQ),((a++ys).map (·.1)).Nodup->JQ a ys=a++ys
 | [],a,_=>(Xf a).symm
 | q::r,a,h=>by
  have b:OF a q.1=none:=by
   unfold OF;rw[List.find?_eq_none.mpr]
   .rfl
   .intro x c hk;rw[Xz,Xw,WL]at h;exact h.2.2 x.1 (XI.mpr ⟨x,c,rfl⟩) q.1 XQ (bg hk)
  show JQ (UE a q.1 q.2.1 q.2.2) r=_;rw[Pk b,show ((q.1,q.2.1,q.2.2):KQ)=q from rfl,zaV r (a++[q]) (by simpa using h)];simp
def zoh {nm:String}{Q:Unit->X7->Prop}(hu:A.units<VN)(B:d≠o)(ag:(o==Vi)=false)(hd:s.heap.DictOfH (tk2 prog w) d xs)(ho:s.heap.DictOfH (tk2 prog w) o ys)(hN:HN prog w ys)(hsz:xs.length+ys.length<=XA)
  (U:∀h',h'.DictOfH (tk2 prog w) d (JQ xs ys)->V6 d s.heap h'->Q () { s with heap:=h' }):Xj (Xn prog w) A (PM nm d o) Q E s:=by
 refine fT (λod aa Y j ab f L am an=>?_) (id hd);refine fT (λoo a ak m al c g D O=>?_) (id ho);have N:ys.length=a.size:=(size_of_entries g).symm;unfold PM;rw[bq (show ¬ (d==o)=true by simpa using B)];unfold Builtin.Dict.showsAll;rw[bq (show ¬ (o==Vi)=true by rw[ag];exact XS)];refine Y1 (XR (Y1 (T1 m c ?_)));have y:Xj (Xn prog w) A (do
   let epoch <- dictEpoch o
   let l <- dictEntries o
   forIn [:l.size] Oq λi (_:PUnit)=>(do
     let l' <- dictEntries o
     match l'[i]? with
      | some e=>do
       holding [e.key,e.val] (OA d e.key e.hash e.val)
       let ep' <- dictEpoch o
       if (ep' != epoch)=true then do
         (Pj (toString nm++toString ":source-changed-during-callback"):Sem PUnit)
         pure (V3 Oq)
        else pure (V3 Oq)
      | _=>do
       (Pj "internal:dict-merge":Sem PUnit)
       pure (V3 Oq):Sem (ForInStep PUnit))
   pure ()) Q E s:=by
  refine Y1 (wpAny_dictEpoch m c (Y1 (T1 m c (Y1 ?_))));rw[Std.Legacy.Range.forIn_eq_forIn_range'];simp only[Std.Legacy.Range.size,Og,Tc,Nat.div_one];refine TH _ (λp _ s'=>∃h' i,s'={ s with heap:=h' }/\p=List.range' i (a.size-i)/\i<=a.size/\h'.DictOfH (tk2 prog w) d (JQ xs (ys.take i))/\V6 d s.heap h') _ ?_ ?_ _ _ (dU s.heap 0 rfl (by simp) (WY _) hd (Heap.SameBut.refl _ _))
  .refine λx p b s'=>fD λh' i z0 H hi r n=>?_;subst z0;have af:i<a.size:=by
    rcases Uo i a.size with h | h
    .exact h
    .rw[Nat.sub_eq_zero_of_le h]at H;simp at H
   obtain⟨rfl,I⟩:x=i/\p=List.range' (i+1) (a.size-(i+1)):=by
    rw[show a.size-i=(a.size-(i+1))+1 by lia,List.range'_succ]at H;injection H with h1 h2
    exact⟨h1,h2⟩
   have u:h'.get? o=some oo:=(n.2 o (UY B)).trans m;obtain⟨q,hq⟩:∃q,ys[x]?=some q:=⟨_,XZ (by lia)⟩;refine Y1 (T1 u c ?_);rw[entry_at g x,hq];have ae:=D q (X8 hq);have M:(tk2 prog w).is h' q.1 q.2.1:=(tk2 prog w).keeps ae j f n;have l1:=zcX xs (ys.take x) xs;have l2:(ys.take x).length<=ys.length:=by
    rw[XN];lia
   refine Y1 (VT (zh4 (s:={ s with heap:=h' }) hu M r (by lia) λz J v=>?_));have G:z.get? o=some oo:=(v.2 o (UY B)).trans u;refine Y1 (wpAny_dictEpoch G c ?_);rw[bq (by simp)];refine XR (dU z (x+1) rfl I af ?_ (n.trans v));rw[Xx,hq];show z.DictOfH (tk2 prog w) d (JQ xs (ys.take x++[q]));rw[zgA];exact J
  .rintro b s' ⟨h',i,rfl,H,hi,r,n⟩;have ac:i=a.size:=by
    rcases Uo i a.size with h | h
    .rw[show a.size-i=(a.size-(i+1))+1 by lia,List.range'_succ]at H;exact nomatch H
    .exact Nat.le_antisymm hi h
   rw[ac,<- N,XJ]at r;exact XR (U h' r n)
 dsimp only;split
 .refine Y1 (T1 j f ?_);split
  .rename_i aj;have ah:xs=[]:=by
    have h0:aa=#[]:=Array.isEmpty_iff.mp aj;rw[h0]at L;exact ON.mp L.symm
   subst ah;rw[zaV ys [] (by simpa using O)]at U;refine Y1 (zkv m c g D hN ?_);split
   .refine Y1 (wpAny_updateDictKeysTo j f (XR (U _ (eY (Y+1) (Wj _ j (R9 (TQ f _))) (ab.mapDictKeys _) (TQ f _) g (λx hx=>(tk2 prog w).keeps (D x hx) j f (Wx ..)) O) (Wx ..))) (by
     simp only[Vu,VR]at hsz;lia))
   .rename_i hne;have h0:a=#[]:=Array.isEmpty_iff.mp (by simpa using hne);have ai:ys=[]:=by
     rw[h0]at g;exact ON.mp g.symm
    subst ai;exact XR (U _ hd (Heap.SameBut.refl _ _))
  .exact y
 .exact y
end
def HH (i j:Nat):Int:=reduceHash (Builtin.Tuple.tupleHashOf [hashInt (i:Int),hashInt (j:Int)])
def Zg (prog:Xm)(w:W3)(i j:Nat):(tk2 prog w).hash [.inl ((i:Nat):Int),.inl ((j:Nat):Int)]=HH i j:=by
 show tupleKeyHash (zV prog w) [.inl ((i:Nat):Int),.inl ((j:Nat):Int)]=HH i j;unfold tupleKeyHash HH;rw[Xw,Xw,P0];have e:∀n:Nat,(zV prog w).hash (.inl ((n:Nat):Int))=hashInt ((n:Nat):Int):=λn=>by
  show zpO w (.inl ((n:Nat):Int))=_;unfold zpO;with_reducible rfl
 rw[e,e]
def zqo:(Wm 64).all λn=>(Wm 64).all λm=>decide (HH (n/8) (n%8)=HH (m/8) (m%8))==decide (n=m):=by decide+kernel
def zgC {i j f g:Nat}(h1:i<8)(h2:j<8)(l:f<8)(m:g<8)(e:HH i j=HH f g):i=f/\j=g:=by
 have h:=zqo;rw[WK]at h;have a:=h (8*i+j) (VW.mpr (by lia));rw[WK]at a;have b:=a (8*f+g) (VW.mpr (by lia));rw[show (8*i+j)/8=i by lia,show (8*i+j)%8=j by lia,show (8*f+g)/8=f by lia,show (8*f+g)%8=g by lia,br e]at b;have c:decide (8*i+j=8*f+g)=true:=by simpa using b
 have d:=bg c;lia
def Small (ks:List (List Key)):Prop:=∀k∈ks,∃i j:Nat,i<8/\j<8/\k=[.inl ((i:Nat):Int),.inl ((j:Nat):Int)]
theorem zpm {prog:Xm}{w:W3}:∀{ys:List KQ},Small (ys.map (·.1))->(ys.map (·.1)).Nodup->HN prog w ys
 | [],_,_=>Vn
 | q::r,d,c=>by
  rw[Xw,Wp]at c;unfold HN;rw[Xw,Wp];refine⟨λn=>?_,zpm (λk hk=>d k (XT _ hk)) c.2⟩;obtain⟨y,h,e⟩:=XI.mp n;obtain⟨i,j,h1,h2,f⟩:=d q.1 XQ;obtain⟨o,p,l,m,g⟩:=d y.1 (XT _ (XI.mpr ⟨y,h,rfl⟩));rw[f,g,Zg,Zg]at e;obtain⟨a,b⟩:=zgC l m h1 h2 e;refine c.1 (XI.mpr ⟨y,h,?_⟩);rw[f,g,a,b]
theorem KT.keys {H:Hp}:∀{a:List (List Key×V)} {xs:List KQ},KT H a xs->xs.map (·.1)=a.map (·.1)
 | _,_,.nil=>rfl
 | _,_,.cons ⟨h1,_,_⟩ t=>by rw[Xw,Xw,KT.keys t,h1]
def zl2 {P:Xm}{w:W3}{H:Hp}{a:List (List Key×V)}{xs:List KQ}(r:KT H a xs)(c:Small (a.map (·.1)))(b:(xs.map (·.1)).Nodup):HN P w xs:=zpm (by rw[r.keys];exact c) b
def zaq (b more:List (List Key×V)):List (List Key×V):=more.foldl (λa c=>putK a c.1 c.2) b
theorem zcY:∀(more a:List (List Key×V)),(zaq a more).length<=a.length+more.length
 | [],a=>XU _
 | kv::r,a=>by
  have h1:=zcY r (putK a kv.1 kv.2);have h2:=xW a kv.1 kv.2;show (zaq (putK a kv.1 kv.2) r).length<=_;rw[Xo];lia
section
variable {X:Cx}
def zh6 (hu:X.A.units+64<VN):MtR X "dict.update" (λx vs H Q=>∃d o a more,x=.ref d/\vs=[.ref o]/\d≠o/\H d=some (.dT a)/\H o=some (.dT more)/\Small (more.map (·.1))/\a.length+more.length<=XA/\Q .non (upd H d (.dT (zaq a more)))):=by
 intro bz s σ H x vs v us Q I rx rv h;revert h;refine fS λd o a more z0 z1 p m=>fE λho B aa q=>?_;subst z0 z1;cases rx;obtain⟨u,rfl,ru⟩:=vals1 rv;cases ru;refine fG (λhz Y E g j=>?_) (zlV I.hok m);refine fG (λab l f e b=>?_) (zlV I.hok ho);have U:HN X.prog X.w f:=by
  obtain⟨_,_,_,_,_,_,_,_,hn⟩:=b;exact zl2 e B hn
 refine U7 Ro j.typeIs PySem.F.entry_dict_update ?_ (PySem.F.args_dict_update_2 _ _);unfold UQ.«dict.update»;refine Y1 ?_;unfold Rp;refine Y1 (Px j.typeIs ?_);show Xj _ _ (pure (d,[WT o])) _ _ s;refine XR ?_;show Xj _ _ (Ut "dict.update" d (.ref o) [] .none) _ _ s;unfold Ut;refine Y1 (R4 b.typeIs ?_);rw[bq (by decide)];refine Y1 ?_;unfold Builtin.Dict.merge;refine Y1 ?_;unfold Builtin.Dict.readDirectly;refine Y1 (Rf b.typeIs isSubtype_dict_dict ?_);simp only[Bool.not_true,WD,if_false];refine Y1 (Tp b.typeIs PySem.F.slot_dict_iter.lookup (XR ?_));simp only[beq_self_eq_true,if_true];refine Y1 (XR ?_);have l1:E.length=a.length:=(Paired.length g).symm;have l2:f.length=more.length:=(Paired.length e).symm;refine zoh (by show X.A.units+1<VN;lia) p l j b U (by lia) λh' n y=>?_;show Xj _ _ (Rq d [] >>= _) _ _ _;refine Y1 (XR (XR ⟨_,rfl,?_⟩));revert n;refine fT λob J G i L M N _ O=>?_;have r:KT H (zaq a more) (JQ E f):=KT.puts e g;have hl:=zcY more a;refine⟨.non,_,zcA (t':=s.toks) (ob:=.dT (zaq a more)) I (by rw[m];exact U5) y ⟨ob,i⟩ (dD (by lia) Y (dB (r.keeps λc ys D=>?_) (dW ob J G i L M N O))),rfl,q⟩;rw[zj (zei D m (λz=>nomatch z))];exact D
def vals3 {x y z:V}{b:List X9}(r:Vals [x,y,z] b):∃u v a,b=[u,v,a]/\RelV x u/\RelV y v/\RelV z a:=by
 cases r with
 | cons c d =>
  obtain⟨v,a,rfl,h1,h2⟩:=vals2 d;exact⟨_,v,a,rfl,c,h1,h2⟩
def mx3 (i j k:Int):Int:=if j>i then (if k>j then k else j) else (if k>i then k else i)
def mn3 (i j k:Int):Int:=if j<i then (if k<j then k else j) else (if k<i then k else i)
def zkw (a:X.calm=true):qM X (.builtin "max") (λxs H Q=>∃i j k,xs=[.int i,.int j,.int k]/\Q (.int (mx3 i j k)) H):=by
 intro d s n H xs l Q I r h;obtain⟨i,j,k,rfl,q⟩:=h;obtain⟨u,v,m,rfl,⟨t,rfl⟩,⟨f,rfl⟩,⟨c,rfl⟩⟩:=vals3 r;refine max_three_ints (I.ok.hd a) λe g b=>⟨_,H,I.kept b,?_,q⟩;unfold mx3;split<;>split<;>exact⟨_,rfl⟩
def zkx (a:X.calm=true):qM X (.builtin "min") (λxs H Q=>∃i j k,xs=[.int i,.int j,.int k]/\Q (.int (mn3 i j k)) H):=by
 intro d s n H xs l Q I r h;obtain⟨i,j,k,rfl,q⟩:=h;obtain⟨u,v,m,rfl,⟨t,rfl⟩,⟨f,rfl⟩,⟨c,rfl⟩⟩:=vals3 r;refine min_three_ints (I.ok.hd a) λe g b=>⟨_,H,I.kept b,?_,q⟩;unfold mn3;split<;>split<;>exact⟨_,rfl⟩
def zh7 (x:Str):∀(a:List X9),(∀j v,a[j]?=some v->SignAt x j v)->∀(n:Nat),a.length=n->n<=x.cps.size->Vals ((x.cps.toList.take n).map λc=>V.str ⟨#[c]⟩) a:=by
 intro a h n;induction n generalizing a with
 | zero =>
  intro f _;have:a=[]:=Wb.mp f;subst this;exact .nil
 | succ n p =>
  intro f q;obtain⟨c,u,m,o⟩:=h n (a[n]'(by lia)) (XZ (by lia));have g:a=a.take n++[a[n]'(by lia)]:=by
   have:=List.take_append_getElem (l:=a) (i:=n) (by lia);rw[this,<- f,XJ]
  have b:x.cps.toList[n]?=some c:=by rw[Xy];exact m
  rw[Xx,b,Xz,g];refine Vals.append (p (a.take n) (λj v d=>?_) (by rw[XN];lia) (by lia)) (.cons ?_ .nil)
  .have e:j<n:=by
    have:=(X4.mp d).1;rw[XN]at this;lia
   rw[Tt e]at d;exact h j v d
  .rw[o];exact⟨u,rfl⟩
def Qd (i:X.calm=true):qM X (.type "list") (λxs H Q=>∃x:Str,xs=[.str x]/\x.length<=XA/\∀l,H l=none->Q (.ref l) (upd H l (.lst (x.cps.toList.map λc=>V.str ⟨#[c]⟩)))):=by
 intro z s B H xs A Q I r h;obtain⟨x,rfl,b,q⟩:=h;obtain⟨u,rfl,t,rfl⟩:=vals1 r;refine call_list_str (I.ok.hd i) x t (λf y a c p e o=>?_) b;obtain⟨n,g⟩:=o;have d:=zh7 x a.toList (λj v m=>g j v (by rw[<- Xy];exact m)) x.cps.size (by rw[X5];exact n) (XU _);rw[WR (by rw[X5];exact XU _)]at d;refine⟨.ref s.heap.objs.size,_,I.laid (t':=y) p (XU _) (show qH X.prog X.w _ f _ (.lst (x.cps.toList.map λc=>V.str ⟨#[c]⟩)) from ⟨?_,a.toList,c,d,e⟩),rfl,q _ (I.hok.fresh (XU _))⟩;rw[ZB,X5];exact b
def zky (n:X.A.units+64<VN):OpR X (Wr .In) (λx y H Q=>∃d a,Rdv X.K H x d/\Rdv X.K H y (.tuple a)/\d.canLay0=true/\VB a=true/\d.depth<=60/\Q (.bl (a.any λz=>Xa z d)) H):=by
 intro l s o H x y v u Q I i j h;revert h;refine fV λd a c e c1 b m q=>?_;obtain⟨as,f⟩:=c.reads I i;obtain⟨bs,g⟩:=e.reads I j;exact SeqAt.in_tuple_reads g f b c1 (by lia) ⟨.bl _,H,I,rfl,q⟩
def zgD:qM X (.builtin "len") (λxs H Q=>(∃p ys,xs=[.ref p]/\(SqL X.K H p ys\/SqT X.K H p ys)/\Q (.int ys.length) H)\/∃z:Str,xs=[.str z]/\z.length<=XA/\Q (.int z.length) H):=by
 intro a s c H xs b Q I r h;rcases h with h | h
 .exact qe a s c H xs b Q I r h
 .exact zaO a s c H xs b Q I r h
def zrM:IxR X (λx y H Q=>zp8 X.K x y H Q\/zrA x y H Q):=by
 intro b a c s g H x y v u Q I e f h d;rcases h with h | h
 .exact ji b a c s g H x y v u Q I e f h d
 .exact zhP b a c s g H x y v u Q I e f h d
end
open PySem
namespace ST
def run (a i:Nat):List Nat:=(Wm (VG a i+1-i)).map (i + ·)
def walk (a:Nat):Nat->Nat->Nat->List Nat
 | 0,_,_=>[]
 | f+1,i,p=>run a i++walk a f (Vp a i p).1 (Vp a i p).2
def zoi (a i:Nat):1<=(run a i).length/\(run a i).length<=10:=by
 unfold run VG;rw[ZB,Wn];split<;>lia
theorem zcZ (a:Nat):∀f i p,(walk a f i p).length<=10*f
 | 0,_,_=>XU _
 | f+1,i,p=>by
  rw[walk,XY];have:=(zoi a i).2;have:=zcZ a f (Vp a i p).1 (Vp a i p).2;lia
def steps (t:WB):Nat->RS->RS
 | 0,p=>p
 | n+1,p=>steps t n (t.advance p)
theorem zbx (t:WB):∀n m p,steps t (n+m) p=steps t m (steps t n p)
 | 0,m,p=>by rw[VR];rfl
 | n+1,m,p=>by
  rw[show n+1+m=(n+m)+1 from by lia];exact zbx t n m (t.advance p)
theorem zby (t:WB)(i pt:Nat)(a:Option Nat):∀(d r j:Nat),d<=r->steps t d { j:=j,more:=r,i:=i,perturb:=pt,dummy:=a }={ j:=j+d,more:=r-d,i:=i,perturb:=pt,dummy:=a }
 | 0,r,j,_=>rfl
 | d+1,r,j,h=>by
  have e:t.advance { j:=j,more:=r,i:=i,perturb:=pt,dummy:=a }={ j:=j+1,more:=r-1,i:=i,perturb:=pt,dummy:=a }:=by
   unfold Re;rw[bw (by show r>0;lia)]
  show steps t d (t.advance _)=_;rw[e,zby t i pt a d (r-1) (j+1) (by lia)];congr 1<;>lia
def QO (a i pt:Nat)(b:Option Nat):RS:={ j:=i,more:=VG a i-i,i:=i,perturb:=pt,dummy:=b }
def zbz (a i:Nat):i<=VG a i:=by
 unfold VG;split<;>lia
def zh8 (t:WB)(i pt:Nat)(a:Option Nat):steps t (run t.mask i).length (QO t.mask i pt a)=QO t.mask (Vp t.mask i pt).1 (Vp t.mask i pt).2 a:=by
 have b:(run t.mask i).length=(VG t.mask i-i)+1:=by
  unfold run;rw[ZB,Wn];have:=zbz t.mask i;lia
 rw[b,zbx];unfold QO;rw[zby t i pt a _ _ _ (XU _),TK];rw[steps,steps];unfold Re;rw[bq (by show ¬ 0>0;lia)]
theorem JR (t:WB):∀(f i pt:Nat) (a:Option Nat) (n:Nat) (j:Nat),(walk t.mask f i pt)[n]?=some j->(steps t n (QO t.mask i pt a)).j=j
 | 0,_,_,_,_,_,h=>by simp[walk]at h
 | f+1,i,pt,a,n,j,h=>by
  rw[walk]at h;by_cases b:n<(run t.mask i).length
  .rw[V7 b]at h;unfold run at h;rw[Xq,TB (by unfold run at b;simpa using b)]at h;have c:(run t.mask i).length=(VG t.mask i-i)+1:=by
    unfold run;rw[ZB,Wn];have:=zbz t.mask i;lia
   unfold QO;rw[zby t i pt a n _ _ (by lia)];exact Option.some.inj h
  .rw[VU (by lia)]at h;have e:n=(run t.mask i).length+(n-(run t.mask i).length):=by lia
   rw[e,zbx,zh8];exact JR t f _ _ a _ j h
theorem zfs (t:WB)(VD:Nat->Int)(h:Int):∀(n F:Nat) (p:RS),(∀k,k<n->∃i,t.slot (steps t k p).j=.live i/\(VD i==h)=false)->n<=F->T0 t VD h F p=T0 t VD h (F-n) (steps t n p)
 | 0,F,p,_,_=>rfl
 | n+1,F,p,hk,d=>by
  obtain⟨a,rfl⟩:∃a,F=a+1:=⟨F-1,by lia⟩;obtain⟨i,h1,h2⟩:=hk 0 (by lia);have b:t.slot p.j=.live i:=h1;rw[T0,b];show (if (VD i==h)=true then _ else _)=_;rw[bq (by rw[h2];decide),zfs t VD h n a (t.advance p) (λk c=>hk (k+1) (by lia)) (by lia),Nat.add_sub_add_right];rfl
def Up (xs:Array Nat):Prop:=∀i j,i<j->j<xs.size->xs.getD i 0<xs.getD j 0
def zl3 {xs:Array Nat}(U:Up xs)(j:Nat):∀(f lo a:Nat),a-lo<=f->lo<=a->a<=xs.size->(∀i,i<lo->xs.getD i 0<j)->(∀i,a<=i->i<xs.size->j<=xs.getD i 0) ->
  Vz xs j f lo a<=xs.size/\(∀i,i<Vz xs j f lo a->xs.getD i 0<j)/\(∀i,Vz xs j f lo a<=i->i<xs.size->j<=xs.getD i 0):=by
 intro f;induction f with
 | zero =>
  intro lo a o p d h1 h2;have:lo=a:=by lia
  subst this;exact⟨d,h1,h2⟩
 | succ f n =>
  intro lo a o p d h1 h2;by_cases b:lo<a
  .have r:(lo+a)/2<a:=by lia
   have q:lo<=(lo+a)/2:=by lia
   have c:(lo+a)/2<xs.size:=by lia
   have e:xs.getD ((lo+a)/2) j=xs.getD ((lo+a)/2) 0:=by
    simp[Array.getD,c]
   have m:Vz xs j (f+1) lo a=if xs.getD ((lo+a)/2) 0<j then Vz xs j f ((lo+a)/2+1) a else Vz xs j f lo ((lo+a)/2):=by
    rw[Vz,bw b];show (if xs.getD ((lo+a)/2) j<j then _ else _)=_;rw[e]
   by_cases g:xs.getD ((lo+a)/2) 0<j
   .rw[m,bw g];refine n ((lo+a)/2+1) a (by lia) (by lia) d (λi h=>?_) h2;by_cases he:i=(lo+a)/2
    .rw[he];exact g
    .exact TL (U i ((lo+a)/2) (by lia) c) g
   .rw[m,bq g];refine n lo ((lo+a)/2) (by lia) (by lia) (by lia) h1 (λi h l=>?_);by_cases he:i=(lo+a)/2
    .rw[he];lia
    .have:=U ((lo+a)/2) i (by lia) l;lia
  .rw[Vz,bq b];have:lo=a:=by lia
   subst this;exact⟨d,h1,h2⟩
def ZL {xs:Array Nat}(U:Up xs)(j:Nat):Xv xs j<=xs.size/\(∀i,i<Xv xs j->xs.getD i 0<j)/\(∀i,Xv xs j<=i->i<xs.size->j<=xs.getD i 0) :=
 zl3 U j xs.size 0 xs.size (by lia) (WY _) (XU _) (λ_ h=>absurd h (Tn _)) (λi h1 h2=>absurd h2 (by lia))
def JS {xs:Array Nat}{i:Nat}(h:i<xs.size):xs[i]?=some (xs.getD i 0):=by
 simp[Array.getD,h]
def ZM {t:WB}(U:Up t.place){i:Nat}(a:i<t.place.size):t.slot (t.place.getD i 0)=.live i:=by
 have b:=ZL U (t.place.getD i 0);have e:Xv t.place (t.place.getD i 0)=i:=by
  rcases Rz (Xv t.place (t.place.getD i 0)) i with h | h | h
  .have h1:=b.2.2 _ (XU _) (by lia);have h2:=U _ i h a;lia
  .exact h
  .have:=b.2.1 i h;lia
 unfold SetTable.slot;simp only[e,JS a];rw[bw (by simp)]
def slot_of {t:WB}(U:Up t.place)(f:t.dummies=#[])(j:Nat):(∃i,i<t.place.size/\t.place.getD i 0=j/\t.slot j=.live i)\/(t.slot j=.empty/\∀i,i<t.place.size->t.place.getD i 0≠j):=by
 by_cases h:∃i,i<t.place.size/\t.place.getD i 0=j
 .obtain⟨i,a,rfl⟩:=h;exact .inl ⟨i,a,rfl,ZM U a⟩
 .have d:∀i,i<t.place.size->t.place.getD i 0≠j:=λi a e=>h ⟨i,a,e⟩;refine .inr ⟨?_,d⟩;unfold SetTable.slot;have h1:¬ ((t.place[Xv t.place j]?==some j)=true):=λz=>by
   have b:t.place[Xv t.place j]?=some j:=by simpa using z
   have c:Xv t.place j<t.place.size:=by
    rcases Uo (Xv t.place j) t.place.size with q | q
    .exact q
    .rw[WJ q]at b;cases b
   rw[JS c]at b;exact d _ c (Option.some.inj b)
  simp only[];rw[bq h1,f];rfl
def Reach (t:WB)(h:Int)(j:Nat):Prop:=∃n:Nat,(walk t.mask (W9 t.mask) (XF h%(t.mask+1)) (XF h))[n]?=some j/\∀k:Nat,k<n->∀a,(walk t.mask (W9 t.mask) (XF h%(t.mask+1)) (XF h))[k]?=some a->∃i,i<t.place.size/\t.place.getD i 0=a
def zaW (t:WB)(h:Int):t.probeStart h=QO t.mask (XF h%(t.mask+1)) (XF h) none:=rfl
theorem zgE (t:WB):∀n p,(steps t n p).dummy=p.dummy
 | 0,_=>rfl
 | n+1,p=>by
  rw[steps,zgE t n];unfold Re;split<;>rfl
def zgF {t:WB}(U:Up t.place)(VD:Nat->Int){h:Int}{i:Nat}(D:i<t.place.size)(A:VD i=h)(one:∀e,e<t.place.size->VD e=h->e=i)(R:Reach t h (t.place.getD i 0)):∃w,t.probe VD h (t.probeStart h)=some (.candidate (t.place.getD i 0) i w):=by
 obtain⟨n,z,hk⟩:=R;have y:=(X4.mp z).1;have L:=zcZ t.mask (W9 t.mask) (XF h%(t.mask+1)) (XF h);have v:∀m:Nat,m<=n->(∀k,k<m->∃e,t.slot (steps t k (t.probeStart h)).j=.live e/\(VD e==h)=false)\/∃f,f<m/\(∀k,k<f->∃e,t.slot (steps t k (t.probeStart h)).j=.live e/\(VD e==h)=false)/\t.slot (steps t f (t.probeStart h)).j=.live i/\(steps t f (t.probeStart h)).j=t.place.getD i 0:=λm=>by
  induction m with
  | zero=>exact λ_=>.inl λk hk=>absurd hk (Tn _)
  | succ m J =>
   intro G;rcases J (by lia) with h1 | ⟨f,a,b⟩
   .have I:∃r,(walk t.mask (W9 t.mask) (XF h%(t.mask+1)) (XF h))[m]?=some r:=⟨_,XZ (by lia)⟩;obtain⟨r,q⟩:=I;obtain⟨e,p,l⟩:=hk m (by lia) r q;have g:(steps t m (t.probeStart h)).j=r:=by
     rw[zaW];exact JR t _ _ _ none m r q
    have s:t.slot (steps t m (t.probeStart h)).j=.live e:=by
     rw[g,<- l];exact ZM U p
    by_cases he:VD e=h
    .have:=one e p he;subst this;exact .inr ⟨m,by lia,h1,s,by rw[g,l]⟩
    .refine .inl λk E=>?_;by_cases u:k=m
     .subst u;exact⟨e,s,by simpa using he⟩
     .exact h1 k (by lia)
   .exact .inr ⟨f,by lia,b⟩
 have o:∀m:Nat,m<10*W9 t.mask->(∀k,k<m->∃e,t.slot (steps t k (t.probeStart h)).j=.live e/\(VD e==h)=false)->t.slot (steps t m (t.probeStart h)).j=.live i->(steps t m (t.probeStart h)).j=t.place.getD i 0->∃w,t.probe VD h (t.probeStart h)=some (.candidate (t.place.getD i 0) i w):=λm G H s g=>by
  unfold SetTable.probe;rw[zfs t VD h m _ _ H (by lia)];obtain⟨x,B⟩:∃x,10*W9 t.mask-m=x+1:=⟨10*W9 t.mask-m-1,by lia⟩;rw[B,T0,s];simp only[];rw[bw (by simpa using A),g];exact⟨_,rfl⟩
 rcases v n (XU _) with h1 | ⟨f,a,b,c,d⟩
 .have g:(steps t n (t.probeStart h)).j=t.place.getD i 0:=by
   rw[zaW];exact JR t _ _ _ none n _ z
  exact o n (by lia) h1 (by rw[g];exact ZM U D) g
 .exact o f (by lia) b c d
def zft {t:WB}(U:Up t.place)(z:t.dummies=#[])(VD:Nat->Int){h:Int}(H:∀i,i<t.place.size->VD i≠h){e:Nat}(he:∀i,i<t.place.size->t.place.getD i 0≠e)(D:e∈walk t.mask (W9 t.mask) (XF h%(t.mask+1)) (XF h)) :
  ∃j,t.probe VD h (t.probeStart h)=some (.empty j none)/\t.slot j=.empty/\Reach t h j/\j∈walk t.mask (W9 t.mask) (XF h%(t.mask+1)) (XF h):=by
 obtain⟨N,u⟩:=Pw.mp D;have v:=(X4.mp u).1;have L:=zcZ t.mask (W9 t.mask) (XF h%(t.mask+1)) (XF h);have r:∀m:Nat,m<=N+1->(∀k:Nat,k<m->∀f,(walk t.mask (W9 t.mask) (XF h%(t.mask+1)) (XF h))[k]?=some f->∃i,i<t.place.size/\t.place.getD i 0=f)\/∃g j:Nat,g<m/\(walk t.mask (W9 t.mask) (XF h%(t.mask+1)) (XF h))[g]?=some j/\t.slot j=.empty/\(∀k:Nat,k<g->∀f,(walk t.mask (W9 t.mask) (XF h%(t.mask+1)) (XF h))[k]?=some f->∃i,i<t.place.size/\t.place.getD i 0=f):=λm=>by
  induction m with
  | zero=>exact λ_=>.inl λk hk=>absurd hk (Tn _)
  | succ m E =>
   intro J;rcases E (by lia) with h1 | ⟨g,j,a,b⟩
   .obtain⟨f,l⟩:∃f,(walk t.mask (W9 t.mask) (XF h%(t.mask+1)) (XF h))[m]?=some f:=⟨_,XZ (by lia)⟩;rcases slot_of U z f with ⟨i,o,p,_⟩ | ⟨I,_⟩
    .refine .inl λk A G n=>?_;by_cases q:k=m
     .subst q;rw[l]at n;exact⟨i,o,by rw[p];exact Option.some.inj n⟩
     .exact h1 k (by lia) G n
    .exact .inr (dY m f (by lia) l I h1)
   .exact .inr ⟨g,j,by lia,b⟩
 rcases r (N+1) (XU _) with h1 | ⟨g,j,a,b,c,d⟩
 .obtain⟨i,o,p⟩:=h1 N (by lia) e u;exact absurd p (he i o)
 .refine⟨j,?_,c,⟨g,b,d⟩,X8 b⟩;have x:(steps t g (t.probeStart h)).j=j:=by
   rw[zaW];exact JR t _ _ _ none g j b
  have B:∀k,k<g->∃w,t.slot (steps t k (t.probeStart h)).j=.live w/\(VD w==h)=false:=λk hk=>by
   obtain⟨f,l⟩:∃f,(walk t.mask (W9 t.mask) (XF h%(t.mask+1)) (XF h))[k]?=some f:=⟨_,XZ (by lia)⟩;obtain⟨i,o,p⟩:=d k hk f l;refine⟨i,?_,by simpa using H i o⟩;have:(steps t k (t.probeStart h)).j=f:=by
    rw[zaW];exact JR t _ _ _ none k f l
   rw[this,<- p];exact ZM U o
  unfold SetTable.probe;rw[zfs t VD h g _ _ B (by lia)];obtain⟨s,y⟩:∃s,10*W9 t.mask-g=s+1:=⟨10*W9 t.mask-g-1,by lia⟩;rw[y,T0,x,c];simp only[zgE];rfl
def orb (m:Nat):Nat->Nat->Nat
 | 0,i=>i
 | n+1,i=>orb m n ((i*5+1)%m)
def zkz (m:Nat):Nat->Nat->List Nat
 | 0,_=>[]
 | n+1,i=>i::zkz m n ((i*5+1)%m)
theorem zc0 (m:Nat):∀(n i e:Nat),e∈zkz m n i->∃k,k<n/\orb m k i=e
 | 0,_,_,h=>nomatch h
 | n+1,i,e,h=>by
  rcases XH.mp h with rfl | h
  .exact⟨0,TJ _,rfl⟩
  .obtain⟨k,hk,q⟩:=zc0 m n _ e h;exact⟨k+1,by lia,q⟩
theorem zcB (m:Nat):∀a b i,orb m (a+b) i=orb m b (orb m a i)
 | 0,b,i=>by rw[VR];rfl
 | a+1,b,i=>by
  rw[show a+1+b=(a+b)+1 from by lia];exact zcB m a b _
def full {m:Nat}(h1:∀e,e<m->e∈zkz m m 0)(h2:orb m m 0=0){i e:Nat}(f:i<m)(he:e<m):∃k,k<m+1/\orb m k i=e:=by
 obtain⟨a,g,c⟩:=zc0 m m 0 i (h1 i f);obtain⟨b,h,d⟩:=zc0 m m 0 e (h1 e he);rcases Uo b a with q | q
 .refine⟨m-a+b,by lia,?_⟩;rw[<- c,<- zcB,show a+(m-a+b)=m+b from by lia,zcB,h2,d]
 .refine⟨b-a,by lia,?_⟩;rw[<- c,<- zcB,show a+(b-a)=b from by lia,d]
def zpn:(∀e,e<8->e∈zkz 8 8 0)/\orb 8 8 0=0:=by decide+kernel
def zl4:(∀e,e<32->e∈zkz 32 32 0)/\orb 32 32 0=0:=by decide+kernel
def zjg:(∀e,e<128->e∈zkz 128 128 0)/\orb 128 128 0=0:=by decide+kernel
def ZN (a:Nat):Nat->Nat->Nat->AA
 | 0,i,p=>(i,p)
 | n+1,i,p=>ZN a n (Vp a i p).1 (Vp a i p).2
theorem zeB (c:Nat):∀a b i p,ZN c (a+b) i p=ZN c b (ZN c a i p).1 (ZN c a i p).2
 | 0,b,i,p=>by rw[VR];rfl
 | a+1,b,i,p=>by
  rw[show a+1+b=(a+b)+1 from by lia];exact zeB c a b _ _
theorem zjh (a:Nat):∀n i p,(ZN a n i p).2=p/32^n
 | 0,i,p=>by rw[Nat.pow_zero,Nat.div_one];rfl
 | n+1,i,p=>by
  rw[ZN,zjh a n];show p/32/32^n=_;rw[Nat.div_div_eq_div_mul,Um,Nat.mul_comm]
theorem zgG (a:Nat):∀n i p,i<a+1->(ZN a n i p).1<a+1
 | 0,i,p,h=>h
 | n+1,i,p,h=>zgG a n _ _ (RU _ (TJ _))
theorem zeC (a:Nat):∀n i,(ZN a n i 0).1=orb (a+1) n i
 | 0,_=>rfl
 | n+1,i=>by
  have b:(Vp a i 0).1=(i*5+1)%(a+1):=rfl;have c:(Vp a i 0).2=0:=rfl;rw[ZN,b,c];exact zeC a n _
theorem head_mem (a:Nat):∀(f n i p:Nat),n<f->(ZN a n i p).1∈walk a f i p
 | 0,_,_,_,h=>absurd h (Tn _)
 | f+1,0,i,p,_=>by
  rw[walk];refine W1 _ ?_;unfold run;refine XI.mpr ⟨0,VW.mpr ?_,by rfl⟩;have:=zbz a i;lia
 | f+1,n+1,i,p,h=>by
  rw[walk];exact WZ _ (head_mem a f n _ _ (by lia))
def zgH {a:Nat}(g:a=7\/a=31\/a=127)(h:Int){e:Nat}(he:e<a+1):e∈walk a (W9 a) (XF h%(a+1)) (XF h):=by
 have f:XF h<2^64:=by
  unfold XF;have h1:=US h (show (2^64:Int)≠0 by decide);have h2:=Uk h (show (0:Int)<2^64 by decide);lia
 have i:(ZN a 13 (XF h%(a+1)) (XF h)).2=0:=by
  rw[zjh];exact Nat.div_eq_of_lt (TL f (by decide))
 have b:=zgG a 13 (XF h%(a+1)) (XF h) (RU _ (TJ _));obtain⟨k,hk,d⟩:∃k,k<a+1+1/\orb (a+1) k (ZN a 13 (XF h%(a+1)) (XF h)).1=e:=by
  rcases g with rfl | rfl | rfl
  .exact full zpn.1 zpn.2 b he
  .exact full zl4.1 zl4.2 b he
  .exact full zjg.1 zjg.2 b he
 have c:=head_mem a (W9 a) (13+k) (XF h%(a+1)) (XF h) (by unfold W9;lia);rw[zeB,i,zeC,d]at c;exact c
def Qe {α:Type}(xs:Array α){p:Nat}(x:α):(Xh xs p x).toList=xs.toList.take p++x::xs.toList.drop p:=by
 unfold Xh;simp;rw[WR (by rw[VP,X5];lia)]
def zl5 {α:Type}(xs:Array α){p:Nat}(b:p<=xs.size)(x:α)(i:Nat):(Xh xs p x)[i]?=if i<p then xs[i]? else if i=p then some x else xs[i-1]?:=by
 have a:(xs.toList.take p).length=p:=by
  rw[XN,X5];lia
 rw[<- Xy,Qe];by_cases h1:i<p
 .rw[bw h1,V7 (by lia),Tt h1,Xy]
 .rw[bq h1,VU (by lia),a];by_cases h2:i=p
  .rw[bw h2,h2,TK];rfl
  .rw[bq h2,show i-p=(i-p-1)+1 from by lia,QQ,Tb,Xy];congr 1;lia
def jJ {α:Type}(xs:Array α){p:Nat}(a:p<=xs.size)(x:α):(Xh xs p x).size=xs.size+1:=by
 rw[<- X5,Qe,XY,Xo,XN,VP,X5];lia
def ZO (xs:Array Nat){p:Nat}(a:p<=xs.size)(x i:Nat)(b:i<xs.size+1):(Xh xs p x).getD i 0=if i<p then xs.getD i 0 else if i=p then x else xs.getD (i-1) 0:=by
 have h:=zl5 xs a x i;rw[JS (by rw[jJ xs a x];exact b)]at h;by_cases h1:i<p
 .rw[bw h1]at h ⊢;rw[JS (by lia)]at h;exact Option.some.inj h
 .rw[bq h1]at h ⊢;by_cases h2:i=p
  .rw[bw h2]at h ⊢;exact Option.some.inj h
  .rw[bq h2]at h ⊢;rw[JS (by lia)]at h;exact Option.some.inj h
def zl6 {t:WB}(U:Up t.place)(m:t.dummies=#[]){j:Nat}(he:∀i,i<t.place.size->t.place.getD i 0≠j):(t.put j).2=Xv t.place j/\(t.put j).1={ t with place:=Xh t.place (Xv t.place j) j }/\Up (Xh t.place (Xv t.place j) j):=by
 have b:=ZL U j;refine⟨rfl,?_,λa c f h=>?_⟩
 .unfold SetTable.put;simp only[m];rfl
 .rw[jJ _ b.1]at h;rw[ZO _ b.1 _ _ (by lia),ZO _ b.1 _ _ h];have lo:∀i,i<Xv t.place j->t.place.getD i 0<j:=b.2.1;have l:∀i,Xv t.place j<=i->i<t.place.size->j<t.place.getD i 0:=λi h1 h2=>by
   have:=b.2.2 i h1 h2;have:=he i h2;lia
  by_cases d:a<Xv t.place j
  .rw[bw d];by_cases c1:c<Xv t.place j
   .rw[bw c1];exact U a c f (by lia)
   .rw[bq c1];by_cases e:c=Xv t.place j
    .rw[bw e];exact lo a d
    .rw[bq e];have h1:=lo a d;have h2:=l (c-1) (by lia) (by lia);lia
  .have c1:¬ c<Xv t.place j:=by lia
   have e:¬ c=Xv t.place j:=by lia
   rw[bq d,bq c1,bq e];by_cases g:a=Xv t.place j
   .rw[bw g];exact l (c-1) (by lia) (by lia)
   .rw[bq g];exact U (a-1) (c-1) (by lia) (by lia)
def Reach.more {t t':WB}(g:t'.mask=t.mask)(l:∀i,i<t.place.size->∃a,a<t'.place.size/\t'.place.getD a 0=t.place.getD i 0){h:Int}{j:Nat}(R:Reach t h j):Reach t' h j:=by
 obtain⟨n,h1,h2⟩:=R;unfold Reach;rw[g];refine⟨n,h1,λk hk m d=>?_⟩;obtain⟨i,f,e⟩:=h2 k hk m d;obtain⟨a,c,b⟩:=l i f;exact⟨a,c,b.trans e⟩
def zl7 {t:WB}(U:Up t.place)(j:Nat):∀i,i<t.place.size->∃a,a<(Xh t.place (Xv t.place j) j).size/\(Xh t.place (Xv t.place j) j).getD a 0=t.place.getD i 0:=λi c=>by
 have b:=ZL U j;by_cases h:i<Xv t.place j
 .refine⟨i,by rw[jJ _ b.1];lia,?_⟩;rw[ZO _ b.1 _ _ (by lia),bw h]
 .refine⟨i+1,by rw[jJ _ b.1];lia,?_⟩;rw[ZO _ b.1 _ _ (by lia),bq (by lia),bq (by lia),Tc]
theorem zji (a:Nat)(owner:Array (Option Nat)):∀(f i p:Nat),SetTable.layClean.free a owner f i p=(walk a f i p).find? λj=>(owner.getD j (some 0)).isNone
 | 0,_,_=>rfl
 | f+1,i,p=>by
  rw[SetTable.layClean.free,walk,List.find?_append];unfold run;rw[List.find?_map];have e:((λj=>(owner.getD j (some 0)).isNone)∘λx=>i+x)=λk=>(owner.getD (i+k) (some 0)).isNone:=rfl;rw[e];cases h:(Wm (VG a i+1-i)).find? λk=>(owner.getD (i+k) (some 0)).isNone with
  | some k=>rfl
  | none =>
   simp only[Option.map_none,Option.none_or];exact zji a owner f _ _
structure Own (mask:Nat)(hs:List Int)(owner:Array (Option Nat))(k:Nat):Prop where
 sz:owner.size=mask+1
 few:(owner.toList.countP λo=>o.isNone)+k=mask+1
 at_:∀i,i<k->∃j:Nat,owner[j]?=some (some i)/\∃n:Nat,(walk mask (W9 mask) (XF (hs.getD i 0)%(mask+1)) (XF (hs.getD i 0)))[n]?=some j/\∀m:Nat,m<n->∀j':Nat,(walk mask (W9 mask) (XF (hs.getD i 0)%(mask+1)) (XF (hs.getD i 0)))[m]?=some j'->∃o,owner[j']?=some (some o)
 lt:∀j i:Nat,owner[j]?=some (some i)->i<k
 inj:∀j j' i:Nat,owner[j]?=some (some i)->owner[j']?=some (some i)->j=j'
def Own.nil (a:Nat)(b:List Int):Own a b (Array.replicate (a+1) none) 0:=by
 refine⟨by simp,by rw[Array.toList_replicate,List.countP_replicate];rfl,λi h=>absurd h (Tn _),λj i h=>?_,λj c i h=>?_⟩
 .rw[Rn]at h;split at h<;>cases h
 .rw[Rn]at h;split at h<;>cases h
def count_set {l:List (Option Nat)}:∀{j:Nat} (k:Nat),l[j]?=some none->(l.set j (some k)).countP (λo=>o.isNone)+1=l.countP λo=>o.isNone:=by
 induction l with
 | nil=>exact λ_ h=>by simp at h
 | cons o r a =>
  intro j k h;cases j with
  | zero =>
   have:o=none:=by simpa using h
   subst this;simp[Wq]
  | succ j =>
   have:=a k (by simpa using h);rw[RP,Wq,Wq];lia
def zkA {l:List (Option Nat)}(h:0<l.countP λo=>o.isNone):∃j:Nat,l[j]?=some none:=by
 obtain⟨o,c,b⟩:=OM.mp h;obtain⟨j,a⟩:=Pw.mp c;refine⟨j,?_⟩;rw[a];cases o with
 | none=>rfl
 | some _=>cases b
def getD_none {owner:Array (Option Nat)}{j:Nat}:(owner.getD j (some 0)).isNone=true↔owner[j]?=some none:=by
 by_cases h:j<owner.size
 .have e:owner[j]?=some (owner.getD j (some 0)):=by simp[Array.getD,h]
  rw[e];cases owner.getD j (some 0)<;>simp
 .have e:owner.getD j (some 0)=some 0:=by simp[Array.getD,h]
  rw[e,WJ (by lia)];simp
theorem zfu (a:Nat):∀(f i p:Nat),i<a+1->∀j∈walk a f i p,j<a+1
 | 0,_,_,_,_,h=>nomatch h
 | f+1,i,p,c,j,h=>by
  rw[walk]at h;rcases XO.mp h with h | h
  .unfold run at h;obtain⟨k,hk,rfl⟩:=XI.mp h;have b:=VW.mp hk;have:VG a i<=a:=by
    unfold VG;split<;>lia
   lia
  .exact zfu a f _ _ (RU _ (TJ _)) j h
def Own.step {d:Nat}(J:d=7\/d=31\/d=127){g:List Int}{owner:Array (Option Nat)}{k:Nat}(O:Own d g owner k)(hk:k<d+1):∃j,SetTable.layClean.free d owner (W9 d) (XF (g.getD k 0)%(d+1)) (XF (g.getD k 0))=some j/\Own d g (owner.setIfInBounds j (some k)) (k+1):=by
 obtain⟨e,he⟩:=zkA (l:=owner.toList) (by have:=O.few;lia);rw[Xy]at he;have I:e<owner.size:=by
  rcases Uo e owner.size with q | q
  .exact q
  .rw[WJ q]at he;cases he
 have M:=zgH J (g.getD k 0) (e:=e) (by have:=O.sz;lia);rw[zji];cases A:(walk d (W9 d) (XF (g.getD k 0)%(d+1)) (XF (g.getD k 0))).find? λj=>(owner.getD j (some 0)).isNone with
 | none =>
  have:=List.find?_eq_none.mp A e M;exact absurd (getD_none.mpr he) this
 | some j =>
  refine⟨j,rfl,?_⟩;have y:owner[j]?=some none:=getD_none.mp (List.find?_some (p:=λj=>(owner.getD j (some 0)).isNone) A);have D:j<owner.size:=by
   rcases Uo j owner.size with q | q
   .exact q
   .rw[WJ q]at y;cases y
  have get:∀i:Nat,(owner.setIfInBounds j (some k))[i]?=if j=i then some (some k) else owner[i]?:=λi=>by
   rw[Uc];by_cases h:j=i
   .rw[bw h,bw h];simp[D]
   .rw[bq h,bq h]
  have keep:∀(i o:Nat),owner[i]?=some (some o)->(owner.setIfInBounds j (some k))[i]?=some (some o):=λi o h=>by
   rw[get,bq (λz=>by rw[<- z,y]at h;cases h)];exact h
  refine⟨by rw[Ts];exact O.sz,?_,λi Q=>?_,λr i h=>?_,λG H i h1 h2=>?_⟩
  .rw[RK];have:=count_set (l:=owner.toList) (j:=j) k (by rw[Xy];exact y);have:=O.few;lia
  .by_cases B:i=k
   .subst B;refine⟨j,by rw[get,bw rfl],?_⟩;refine fR (λ_=>fP λas bs u L=>?_) (List.find?_eq_some_iff_append.mp A);refine⟨as.length,by rw[u];simp,λm v r f=>?_⟩;rw[u,V7 v]at f;have s:=X8 f;have x:=L r s;have E:r∈walk d (W9 d) (XF (g.getD i 0)%(d+1)) (XF (g.getD i 0)):=by
     rw[u];exact W1 _ s
    cases w:owner[r]? with
    | none =>
     have:=zfu d (W9 d) _ _ (RU _ (TJ _)) r E;rw[Vw.mpr ⟨by rw[O.sz];exact this,rfl⟩]at w;cases w
    | some o =>
     cases o with
     | none =>
      rw[getD_none.mpr w]at x;cases x
     | some o=>exact⟨o,keep r o w⟩
   .refine fK (λN a n b c=>?_) (O.at_ i (by lia));refine⟨N,keep _ _ a,n,b,λm v r f=>?_⟩;obtain⟨o,w⟩:=c m v r f;exact⟨o,keep _ _ w⟩
  .rw[get]at h;split at h
   .have:k=i:=by simpa using h
    lia
   .have:=O.lt r i h;lia
  .rw[get]at h1 h2;split at h1<;>split at h2
   .lia
   .have:k=i:=by simpa using h1
    have:=O.lt H i h2;lia
   .have:k=i:=by simpa using h2
    have:=O.lt G i h1;lia
   .exact O.inj G H i h1 h2
theorem zgI {a:Nat}(i:a=7\/a=31\/a=127)(c:List Int)(p:c.length<=a+1):∀(l done:List Int) (owner:Array (Option Nat)),c=done++l->Own a c owner done.length ->
  ∃b,l.foldl (λ(f:Option (Array (Option Nat)×Nat)) h=>do
   let (owner,k) <- f
   let j <- SetTable.layClean.free a owner (W9 a) (XF h%(a+1)) (XF h)
   pure (owner.setIfInBounds j (some k),k+1)) (some (owner,done.length))=some (b,c.length)/\Own a c b c.length
 | [],done,owner,e,O=>by
  rw[Xf]at e;subst e;exact⟨owner,rfl,O⟩
 | h::r,done,owner,e,O=>by
  have o:c.getD done.length 0=h:=by
   rw[e];simp[List.getD]
  have d:done.length<a+1:=by
   have:c.length=done.length+(r.length+1):=by rw[e,XY,Xo]
   lia
  obtain⟨j,g,m⟩:=O.step i d;rw[o]at g;obtain⟨b,h1,h2⟩:=zgI i c p r (done++[h]) (owner.setIfInBounds j (some done.length)) (by rw[e,W2];rfl) (by rw[XY];exact m);refine⟨b,?_,h2⟩;rw[XY]at h1;rw[Wc];have n:(do
   let (owner,k) <- (some (owner,done.length):Option (Array (Option Nat)×Nat))
   let j <- SetTable.layClean.free a owner (W9 a) (XF h%(a+1)) (XF h)
   pure (owner.setIfInBounds j (some k),k+1))=some (owner.setIfInBounds j (some done.length),done.length+1):=by
   show (SetTable.layClean.free a owner (W9 a) (XF h%(a+1)) (XF h)).bind _=_;rw[g];rfl
  rw[n];exact h1
def zqp {b:Nat}(d:b=7\/b=31\/b=127)(a:Array Int)(c:a.size<=b+1):∃owner,SetTable.layClean b a=some owner/\Own b a.toList owner a.size:=by
 obtain⟨owner,h1,h2⟩:=zgI d a.toList (by rw[X5];exact c) a.toList [] _ rfl (Own.nil b _);rw[X5]at h1 h2;refine⟨owner,?_,h2⟩;unfold SetTable.layClean;rw[<- Array.foldl_toList];exact congrArg (Option.map (·.1)) h1
def qD (a:Nat)(owner:Array (Option Nat)):AD:=(Wm (a+1)).filterMap λj=>(owner.getD j none).map (j,·)
def JT {c:Nat}{owner:Array (Option Nat)}(sz:owner.size=c+1){j i:Nat}:(j,i)∈qD c owner↔owner[j]?=some (some i):=by
 unfold qD;rw[Th];constructor
 .rintro⟨a,ha,h⟩;have d:a<owner.size:=by rw[sz];exact VW.mp ha
  have e:owner[a]?=some (owner.getD a none):=by simp[Array.getD,d]
  cases ho:owner.getD a none with
  | none =>
   rw[ho]at h;cases h
  | some b =>
   rw[ho]at h;have f:(a,b)=(j,i):=Option.some.inj h;cases f;rw[e,ho]
 .intro h;have d:j<owner.size:=by
   rcases Uo j owner.size with q | q
   .exact q
   .rw[WJ q]at h;cases h
  have e:owner[j]?=some (owner.getD j none):=by simp[Array.getD,d]
  refine⟨j,VW.mpr (by rw[<- sz];exact d),?_⟩;rw[e]at h;rw[Option.some.inj h];rfl
def zjj (c:Nat)(owner:Array (Option Nat)):(qD c owner).Pairwise λa b=>a.1<b.1:=by
 unfold qD;rw[List.pairwise_filterMap];refine List.pairwise_lt_range.imp λ{a b} f x d y e=>?_;cases h1:owner.getD a none with
 | none=>rw[h1]at d;cases d
 | some p =>
  cases h2:owner.getD b none with
  | none=>rw[h2]at e;cases e
  | some q =>
   rw[h1]at d;rw[h2]at e;have g:(a,p)=x:=Option.some.inj d;have h:(b,q)=y:=Option.some.inj e;rw[<- g,<- h];exact f
def zkB {c:Nat}{s:List Int}{owner:Array (Option Nat)}{k:Nat}(O:Own c s owner k):((qD c owner).map (·.2)).Perm (Wm k):=by
 have u:((qD c owner).map (·.2)).Nodup:=by
  refine Wh.mpr ((zjj c owner).imp_of_mem λ{a b} o p d e=>?_);obtain⟨f,g⟩:=a;obtain⟨h,m⟩:=b;have n:g=m:=e;subst n;have:=O.inj f h g ((JT O.sz).mp o) ((JT O.sz).mp p);have l:f<h:=d;lia
 refine(Wl u List.nodup_range).mpr λi=>?_;rw[VW,XI];constructor
 .rintro⟨⟨j,i'⟩,hm,rfl⟩;exact O.lt j _ ((JT O.sz).mp hm)
 .intro q;obtain⟨j,r,_⟩:=O.at_ i q;exact⟨(j,i),(JT O.sz).mpr r,rfl⟩
def zoj {mask:Nat}(G:mask=7\/mask=31\/mask=127)(finger moves:Nat)(led plain:Bool)(e:Array Int)(E:e.size<=mask+1):∃place f,SetTable.laid mask finger moves led plain e=some ({ mask:=mask,place:=place,dummies:=#[],finger:=finger,led:=led,moves:=moves,plain:=plain },f) /\
  Up place/\place.size=e.size/\f.size=e.size/\f.toList.Perm (Wm e.size)/\(∀i,i<place.size->place.getD i 0<mask+1) /\
  ∀i,i<place.size->Reach { mask:=mask,place:=place,dummies:=#[],finger:=finger,led:=led,moves:=moves,plain:=plain } (e.toList.getD (f.getD i 0) 0) (place.getD i 0):=by
 obtain⟨d,h1,O⟩:=zqp G e E;have perm:=zkB O;have up:=zjj mask d;have z:(qD mask d).length=e.size:=by
  have:=perm.length_eq;rw[ZB,Wn]at this;exact this
 have p:∀i (h:i<(qD mask d).length),((qD mask d).map (·.1)).toArray.getD i 0=((qD mask d)[i]).1:=λi h=>by
  simp[Array.getD,h]
 have H:∀i (h:i<(qD mask d).length),((qD mask d).map (·.2)).toArray.getD i 0=((qD mask d)[i]).2:=λi h=>by
  simp[Array.getD,h]
 refine dU ((qD mask d).map (·.1)).toArray ((qD mask d).map (·.2)).toArray ?_ (λi j s D=>?_) (by simp[z]) (by simp[z]) (dD perm (λi r=>?_) (λi r=>?_))
 .unfold SetTable.laid;rw[h1];rfl
 .have m:j<(qD mask d).length:=by simpa using D
  rw[p i (by lia),p j m];exact Vt.mp up i j (by lia) m s
 .have g:i<(qD mask d).length:=by simpa using r
  rw[p i g];have l:=Uv g;have:=(JT O.sz (j:=(qD mask d)[i].1) (i:=(qD mask d)[i].2)).mp l;rw[<- O.sz];rcases Uo (qD mask d)[i].1 d.size with q | q
  .exact q
  .rw[WJ q]at this;cases this
 .have g:i<(qD mask d).length:=by simpa using r
  rw[p i g,H i g];have l:=Uv g;have v:=(JT O.sz (j:=(qD mask d)[i].1) (i:=(qD mask d)[i].2)).mp l;refine fK (λI a n b c=>?_) (O.at_ _ (O.lt _ _ v));have A:=O.inj _ _ _ a v;rw[A]at b;refine⟨n,b,λk hk y m=>?_⟩;obtain⟨o,u⟩:=c k hk y m;obtain⟨x,w,B⟩:=Tz ((JT O.sz).mpr u);refine⟨x,by simpa using w,?_⟩;show ((qD mask d).map (·.1)).toArray.getD x 0=y;rw[p x w,B]
structure Good (t:WB)(hs:Array Int):Prop where
 mask:t.mask=7\/t.mask=31\/t.mask=127
 sz:t.place.size=hs.size
 dum:t.dummies=#[]
 up:Up t.place
 le:∀i,i<t.place.size->t.place.getD i 0<t.mask+1
 room:t.place.size*5<t.mask*3
 reach:∀i,i<t.place.size->Reach t (hs.toList.getD i 0) (t.place.getD i 0)
def Good.free {t:WB}{s:Array Int}(G:Good t s):∃e,e<t.mask+1/\∀i,i<t.place.size->t.place.getD i 0≠e:=by
 refine TF λr=>?_;have all:∀e,e<t.mask+1->∃i,i<t.place.size/\t.place.getD i 0=e:=λe he=>TF λh2=>r ⟨e,he,λi c z=>h2 ⟨i,c,z⟩⟩;have A:=G.room;have f:∀e,e<t.mask+1->∃i,i<t.place.size/\e<=i:=λe=>by
  induction e with
  | zero=>exact λh=>let ⟨i,c,_⟩:=all 0 h;⟨i,c,WY _⟩
  | succ e D =>
   intro h;obtain⟨i,c,o⟩:=all (e+1) h;obtain⟨B,p,j⟩:=all e (by lia);have cnt:∀d,d<=e+1->∃i,i<t.place.size/\t.place.getD i 0=d/\d<=i:=λd=>by
    induction d with
    | zero=>exact λ_=>let ⟨i,c,he⟩:=all 0 (by lia);⟨i,c,he,WY _⟩
    | succ d g =>
     intro y;obtain⟨a,m,w,E⟩:=g (by lia);obtain⟨b,n,l⟩:=all (d+1) (by lia);have:a<b:=by
      rcases Rz a b with q | q | q
      .exact q
      .subst q;lia
      .have:=G.up b a q m;lia
     exact⟨b,n,l,by lia⟩
   obtain⟨x,u,_,v⟩:=cnt (e+1) (XU _);exact⟨x,u,v⟩
 obtain⟨i,c,H⟩:=f t.mask (by lia);lia
def Good.found {t:WB}{a:Array Int}(G:Good t a)(VD:Nat->Int)(f:∀i,i<a.size->VD i=a.toList.getD i 0)(j:a.toList.Nodup){i:Nat}(c:i<a.size):∃l,t.probe VD (a.toList.getD i 0) (t.probeStart (a.toList.getD i 0))=some (.candidate (t.place.getD i 0) i l):=by
 have d:∀k (h:k<a.size),a.toList.getD k 0=a.toList[k]'(by rw[X5];exact h):=λk h=>by
  rw[W4,XZ (by rw[X5];exact h)];rfl
 refine zgF G.up VD (by rw[G.sz];exact c) (f i c) (λg b e=>?_) (G.reach i (by rw[G.sz];exact c));rw[G.sz]at b;rw[f g b,d g b,d i c]at e;exact(List.getElem_inj j).mp e
def Good.missed {t:WB}{b:Array Int}(G:Good t b)(VD:Nat->Int)(g:∀i,i<b.size->VD i=b.toList.getD i 0){h:Int}(m:h ∉ b.toList):∃j,t.probe VD h (t.probeStart h)=some (.empty j none)/\j<t.mask+1/\(∀i,i<t.place.size->t.place.getD i 0≠j)/\Reach t h j:=by
 obtain⟨e,he,l⟩:=G.free;have c:∀i,i<t.place.size->VD i≠h:=λi a z=>by
  rw[G.sz]at a;rw[g i a,W4,XZ (by rw[X5];exact a)]at z;have n:b.toList[i]'(by rw[X5];exact a)=h:=z;exact m (n ▸ Uv _)
 refine gi (λj=>fE λh1 h2 d f=>?_) (zft G.up G.dum VD (h:=h) c l (zgH G.mask h he));refine⟨j,h1,zfu _ _ _ _ (RU _ (TJ _)) j f,λi a z=>?_,d⟩;rw[<- z,ZM G.up a]at h2;cases h2
theorem Good.put {t:WB}{c:Array Int}(G:Good t c){h:Int}{j:Nat}(p:j<t.mask+1)(he:∀i,i<t.place.size->t.place.getD i 0≠j)(R:Reach t h j)(e:(t.place.size+1)*5<t.mask*3):Good (t.put j).1 (Xh c (t.put j).2 h):=by
 obtain⟨o,n,U⟩:=zl6 G.up G.dum he;have b:=ZL G.up j;rw[o,n];have bs:Xv t.place j<=c.size:=by rw[<- G.sz];exact b.1
 have d:∀i,(Xh c (Xv t.place j) h).toList.getD i 0=if i<Xv t.place j then c.toList.getD i 0 else if i=Xv t.place j then h else c.toList.getD (i-1) 0:=λi=>by
  rw[W4,Xy,zl5 c bs];split
  .rw[W4,Xy]
  .split
   .rfl
   .rw[W4,Xy]
 have more:∀{g:Int} {l:Nat},Reach t g l->Reach { t with place:=Xh t.place (Xv t.place j) j } g l:=λm=>Reach.more (t:=t) (t':={ t with place:=Xh t.place (Xv t.place j) j }) rfl (zl7 G.up j) m;refine⟨G.mask,?_,G.dum,U,λi f=>?_,?_,λi f=>?_⟩
 .show (Xh t.place _ j).size=_;rw[jJ _ b.1,jJ _ bs,G.sz]
 .have a:i<t.place.size+1:=by
   have:=f;rw[show ({ t with place:=Xh t.place (Xv t.place j) j }:WB).place=Xh t.place (Xv t.place j) j from rfl,jJ _ b.1]at this;exact this
  show (Xh t.place _ j).getD i 0<t.mask+1;rw[ZO _ b.1 _ _ a];split
  .exact G.le i (by lia)
  .split
   .exact p
   .exact G.le (i-1) (by lia)
 .show (Xh t.place _ j).size*5<t.mask*3;rw[jJ _ b.1];exact e
 .have a:i<t.place.size+1:=by
   have:=f;rw[show ({ t with place:=Xh t.place (Xv t.place j) j }:WB).place=Xh t.place (Xv t.place j) j from rfl,jJ _ b.1]at this;exact this
  show Reach _ _ ((Xh t.place _ j).getD i 0);rw[d,ZO _ b.1 _ _ a];by_cases h1:i<Xv t.place j
  .rw[bw h1,bw h1];exact more (G.reach i (by lia))
  .rw[bq h1,bq h1];by_cases h2:i=Xv t.place j
   .rw[bw h2,bw h2];exact more R
   .rw[bq h2,bq h2];exact more (G.reach (i-1) (by lia))
def zh9 (t:WB)(b:Array Int)(q:b.size=5\/b.size=19):∃t' a,t.relaid b (Uy b.size)=some (t',a)/\a.size=b.size/\a.toList.Perm (Wm b.size)/\t'.led=t.led/\t'.plain=t.plain/\t'.place.size=b.size/\Good t' (a.map λi=>b.toList.getD i 0):=by
 have c:∀mask,(mask=7\/mask=31\/mask=127)->b.size<=mask+1->b.size*5<mask*3->Ta (Uy b.size)-1=mask->∃t' a,t.relaid b (Uy b.size)=some (t',a)/\a.size=b.size/\a.toList.Perm (Wm b.size)/\t'.led=t.led/\t'.plain=t.plain/\t'.place.size=b.size/\Good t' (a.map λi=>b.toList.getD i 0):=λmask j p r l=>by
  refine fD (λplace a h1 h2 d g=>fB λm n o=>?_) (zoj j t.finger (t.movedTo mask) t.led t.plain b p);refine dU { mask:=mask,place:=place,dummies:=#[],finger:=t.finger,led:=t.led,moves:=t.movedTo mask,plain:=t.plain } a ?_ g m rfl (dD rfl d ⟨j,?_,rfl,h2,n,?_,λi h=>?_⟩)
  .unfold SetTable.relaid;rw[l];exact h1
  .show place.size=_;rw[Vm,d,g]
  .show place.size*5<mask*3;rw[d];exact r
  .have f:i<a.size:=by
    have:i<place.size:=h;lia
   have e:(a.map λi=>b.toList.getD i 0).toList.getD i 0=b.toList.getD (a.getD i 0) 0:=by
    rw[W4,Xy,Array.getElem?_map,JS f];rfl
   rw[e];exact o i h
 rcases q with e | e
 .exact c 31 (.inr (.inl rfl)) (by lia) (by lia) (by rw[e];decide+kernel)
 .exact c 127 (.inr (.inr rfl)) (by lia) (by lia) (by rw[e];decide+kernel)
def qm (a:Array (Int×X9))(ep:Nat)(t:WB):Obj:={ cls:=.type "set",dict:=none,data:=.set a ep t }
def kP (p:Int×Int):List Key:=[.inl p.1,.inl p.2]
def InB (p:Int×Int):Prop:=(0<=p.1/\p.1<8)/\(0<=p.2/\p.2<8)
def hP (prog:Xm)(w:W3)(p:Int×Int):Int:=(tk2 prog w).hash (kP p)
section
variable {prog:Xm}{w:W3}{A:WN}{E:X9->X7->Prop}{s:X7}{a:Addr}{es:Array (Int×X9)}{ep:Nat}{t:WB}
def zqq {p q:Int×Int}(x:InB p)(y:InB q)(e:hP prog w p=hP prog w q):p=q:=by
 obtain⟨a,b⟩:=p;obtain⟨f,g⟩:=q;obtain⟨⟨h,m⟩,n,o⟩:=x;obtain⟨⟨r,s⟩,u,v⟩:=y;simp only at h m n o r s u v;obtain⟨i,rfl⟩:∃i:Nat,a=i:=⟨a.toNat,by lia⟩;obtain⟨j,rfl⟩:∃i:Nat,b=i:=⟨b.toNat,by lia⟩;obtain⟨k,rfl⟩:∃i:Nat,f=i:=⟨f.toNat,by lia⟩;obtain⟨l,rfl⟩:∃i:Nat,g=i:=⟨g.toNat,by lia⟩;unfold hP kP at e;rw[Zg,Zg]at e;obtain⟨c,d⟩:=zgC (by lia) (by lia) (by lia) (by lia) e;rw[c,d]
def JU {h:Heap}{x:Addr}{p:Int×Int}(h1:zD h (.ref x) p):(tk2 prog w).is h (kP p) x:=by
 obtain⟨b,o,n,t,u,e,a,c,d⟩:=h1;cases e;exact⟨o,#[.int p.1 t,.int p.2 u],n,a,c,d,.cons (zbs p.1 t) (.cons (zbs p.2 u) .nil)⟩
theorem Good.fits {a:Array Int}(G:Good t a):t.fits a.size=true:=by
 have h1:=G.sz;have h2:=G.room;unfold SetTable.fits Oz;rw[G.dum,h1];simp;lia
def Good.odd {a:Array Int}(G:Good t a):t.gaveWay=false:=by
 unfold SetTable.gaveWay;rcases G.mask with e | e | e<;>rw[e]<;>rfl
def xX {Q:Array (Int×X9)×Nat×WB->X7->Prop}(b:s.heap.get? a=some (qm es ep t))(G:Good t (es.map (·.1)))(q:Q (es,ep,t) s):Xj (Xn prog w) A (setState a) Q E s:=by
 refine SL b rfl ?_ q;have:=G.fits;rwa [Vm]at this
def zfv (i:Nat)(a:i<(es.map (·.1)).size):(es[i]?.map (·.1)).getD 0=(es.map (·.1)).toList.getD i 0:=by
 rw[W4,Xy,Array.getElem?_map]
def zd0 {n:Nat}{h:Int}{x:X9}{Q:SetFound->X7->Prop}(g:s.heap.get? a=some (qm es ep t))(G:Good t (es.map (·.1)))(l:h ∉ (es.map (·.1)).toList)
  (d:∀j,j<t.mask+1->(∀i,i<t.place.size->t.place.getD i 0≠j)->Reach t h j->Q (.free j false) s):Xj (Xn prog w) A (Rt a x h true (n+1) none) Q E s:=by
 obtain⟨j,e,h1,h2,c⟩:=G.missed (λi=>(es[i]?.map (·.1)).getD 0) zfv l;rw[Rt];refine Y1 (xX g G ?_);dsimp only;rw[G.odd,bq XS];generalize f:t.probe _ h _=m;have b:m=some (.empty j none):=f.symm.trans e;subst b;exact XR (d j h1 h2 c)
def zeD {d:Nat}{x:Addr}{p:Int×Int}{Q:Bool->X7->Prop}(B:zD s.heap (.ref x) p)(q:Q false s):Xj (Xn prog w) A (SK 8 (.ref x)) Q E s:=by
 obtain⟨b,o,n,t,u,e,j,m,y⟩:=B;cases e;have z:s.TypeIs (.ref x) "tuple":=⟨o,j,m⟩;unfold SK;refine Y1 (R4 z ?_);dsimp only;rw[bw (by decide)];refine Y1 (XR ?_);rw[bq (by decide)];refine Y1 (wpAny_seqItems j y ?_);dsimp only;refine Y1 ?_;rw[<- RQ];refine TH _ (λc r h=>r.1=none/\h=s/\∀v∈c,∃i t,v=Vv i t) _ ?_ ?_ _ _ ⟨rfl,rfl,λv l=>?_⟩
 .rintro v c r h ⟨f,rfl,a⟩;obtain⟨i,t,rfl⟩:=a v XQ;rw[show SK 7 (Vv i t)=pure false by unfold SK;rfl];refine Y1 (XR ?_);rw[bq XS];exact XR ⟨rfl,rfl,λu g=>a u (XT _ g)⟩
 .rintro⟨r1,r2⟩ h ⟨f,rfl,_⟩;simp only at f;subst f;exact XR q
 .simp at l;rcases l with rfl | rfl
  .exact⟨_,_,rfl⟩
  .exact⟨_,_,rfl⟩
def zl8 {x:Addr}{p:Int×Int}{l:List X9}{Q:Bool->X7->Prop}(i:zD s.heap (.ref x) p)(j:∀v∈l,∃b q,v=.ref b/\zD s.heap (.ref b) q)(q:Q false s):Xj (Xn prog w) A (searchCouldBeSeen (.ref x) l) Q E s:=by
 unfold searchCouldBeSeen;refine Y1 ?_;refine TH _ (λc r g=>r.1=none/\g=s/\∀v∈c,∃b q,v=.ref b/\zD s.heap (.ref b) q) _ ?_ ?_ _ _ ⟨rfl,rfl,j⟩
 .rintro v c r g ⟨f,rfl,a⟩;refine fP (λb m z0 h=>?_) (a v XQ);subst z0;dsimp only;split
  .exact XR ⟨rfl,rfl,λu e=>a u (XT _ e)⟩
  .refine Y1 ((tk2 prog w).quiet (JU i) ?_);rw[bq (by decide)];refine Y1 ((tk2 prog w).quiet (JU h) ?_);rw[bq (by decide)];refine Y1 (zeD (d:=0) i ?_);rw[bq XS];refine Y1 (zeD (d:=0) h ?_);rw[bq XS];exact XR ⟨rfl,rfl,λu e=>a u (XT _ e)⟩
 .rintro⟨r1,r2⟩ g ⟨f,rfl,_⟩;simp only at f;subst f;exact XR q
def zl9 {x:Addr}{p:Int×Int}{Q:Bool->X7->Prop}(z:zD s.heap (.ref x) p)(q:Q true s):Xj (Xn prog w) A (Pi 8 (.ref x)) Q E s:=by
 obtain⟨b,o,n,t,u,e,h,l,m⟩:=z;cases e;have y:s.TypeIs (.ref x) "tuple":=⟨o,h,l⟩;unfold Pi;refine Y1 (Tp y PySem.F.slot_tuple_hash.lookup ?_);dsimp only;refine Y1 (wpAny_seqItems h m ?_);dsimp only[Option.getD];refine Y1 ?_;rw[<- RQ];refine TH _ (λc r g=>r.1=none/\g=s/\∀v∈c,∃i t,v=Vv i t) _ ?_ ?_ _ _ ⟨rfl,rfl,λv j=>?_⟩
 .rintro v c r g ⟨d,rfl,a⟩;obtain⟨i,t,rfl⟩:=a v XQ;rw[show Pi 7 (Vv i t)=pure true by unfold Pi;rfl];refine Y1 (XR ?_);rw[bq (by decide)];exact XR ⟨rfl,rfl,λu f=>a u (XT _ f)⟩
 .rintro⟨r1,r2⟩ g ⟨d,rfl,_⟩;simp only at d;subst d;exact XR q
 .simp at j;rcases j with rfl | rfl
  .exact⟨_,_,rfl⟩
  .exact⟨_,_,rfl⟩
def zfw {n:Nat}{h:Int}{x b:Addr}{p:Int×Int}{i:Nat}{Q:SetFound->X7->Prop}(o:A.units<VN)(f:s.heap.get? a=some (qm es ep t))(G:Good t (es.map (·.1)))(B:(es.map (·.1)).toList.Nodup)
  (all:∀e∈es.toList,∃b q,e.2=WT b/\zD s.heap (.ref b) q) (d:es[i]?=some (h,.ref b)) (g:zD s.heap (.ref x) p) (l:zD s.heap (.ref b) p)
  (j:Q (.there none) s):Xj (Xn prog w) A (Rt a (.ref x) h true (n+1) none) Q E s:=by
 have c:i<(es.map (·.1)).size:=by
  rw[Vm];exact(Vw.mp d).1
 have r:(es.map (·.1)).toList.getD i 0=h:=by
  rw[<- zfv i c,d];rfl
 obtain⟨D,e⟩:=G.found (λi=>(es[i]?.map (·.1)).getD 0) zfv B c;rw[r]at e;rw[Rt];refine Y1 (xX f G ?_);dsimp only;rw[G.odd,bq XS];generalize y:t.probe _ h _=m;have u:m=some (.candidate (t.place.getD i 0) i D):=y.symm.trans e;subst u;dsimp only;have seen:∀v∈(es.filter (·.1==h)).toList.map (·.2),∃b q,v=WT b/\zD s.heap (.ref b) q:=λv z=>by
  obtain⟨e,he,rfl⟩:=XI.mp z;rw[OO]at he;exact all e (XW.mp he).1
 rw[d];cases hl:t.led with
 | true =>
  rw[bq (by decide)];refine Y1 (VT ((tk2 prog w).eqBool o (JU l) (JU g) ?_));refine Y1 (xX f G ?_);dsimp only;rw[br rfl,bw (by decide)];exact XR j
 | false =>
  rw[bw (by decide)];refine Y1 (zl8 g seen ?_);rw[bq XS];refine Y1 (VT ((tk2 prog w).eqBool o (JU l) (JU g) ?_));refine Y1 (xX f G ?_);dsimp only;rw[br rfl,bw (by decide)];exact XR j
end
def zc1 (f:Int×Int->Int)(q:Addr×(Int×Int)):Int×X9:=(f q.2,WT q.1)
structure zd1 (f:Int×Int->Int)(led:Bool)(h:Heap)(a:Addr)(ks:List (Addr×(Int×Int))):Prop where
 ex:∃es ep t,h.get? a=some (qm es ep t)/\es.toList=ks.map (zc1 f)/\Good t (es.map (·.1))/\t.led=led/\t.plain=true
 nd:(ks.map (·.2)).Nodup
 cells:∀q∈ks,zD h (.ref q.1) q.2
 inb:∀q∈ks,InB q.2
def zD.up {h h':Heap}{x:Addr}{p:Int×Int}(H:zD h (.ref x) p){a:Addr}(j:V6 a h h'){o:Obj}(i:h.get? a=some o)(g:o.cls=.type "set"):zD h' (.ref x) p:=by
 obtain⟨b,l,n,t,u,e,c,d,f⟩:=H;cases e;refine⟨x,l,n,t,u,rfl,?_,d,f⟩;rw[j.2 x λz=>?_]
 .exact c
 .subst z;rw[i]at c;cases c;rw[g]at d;exact absurd d (by decide)
section
variable {prog:Xm}{w:W3}{A:WN}{E:X9->X7->Prop}{s:X7}{a:Addr}{es:Array (Int×X9)}{ep:Nat}{t:WB}{ks:List (Addr×(Int×Int))}{f:Int×Int->Int}{led:Bool}
def Yr (he:es.toList=ks.map (zc1 f)):(es.map (·.1)).toList=ks.map λq=>f q.2:=by
 rw[U6,he,Wv];rfl
def zkC (inj:∀p q,InB p->InB q->f p=f q->p=q)(b:(ks.map (·.2)).Nodup)(a:∀q∈ks,InB q.2):(ks.map λq=>f q.2).Nodup:=by
 rw[Op,Wh]at b ⊢;refine b.imp_of_mem λ{x y} c d h e=>h (inj _ _ (a x c) (a y d) e)
def zgJ {b:Array (Int×X9)}{t':WB}{Q:Unit->X7->Prop}(c:s.heap.get? a=some (qm es ep t))(hz:b.size<=64)
  (q:∀h',V6 a s.heap h'->h'.get? a=some (qm b (ep+1) t')->Q () { s with heap:=h' }):Xj (Xn prog w) A (storeSet a b t') Q E s:=by
 refine wpAny_storeSet_of (o:=qm es ep t) c rfl (q _ (Wx ..) ?_) (X6 hz (by rw[TV];decide));have:=Wj (Obj.putSet b t') c (by rw[putSet_of b t' (o:=qm es ep t) rfl];rfl);rw[putSet_of b t' (o:=qm es ep t) rfl]at this;exact this
theorem zgK {α:Type}(d:α)(xs:Array α):∀(l:List Nat),(∀i∈l,i<xs.size)->l.filterMap (λi=>xs[i]?)=l.map λi=>xs.toList.getD i d
 | [],_=>rfl
 | i::l,h=>by
  have a:=h i XQ;rw[Vg,Xw,Vs a];dsimp only;rw[zgK d xs l λj b=>h j (XT _ b)];congr 1;rw[W4,Xy,Vs a];rfl
def zfx {n:Nat}(a:n=5\/n=19):¬ Ta (Uy n)>XA:=by
 rw[TV];rcases a with rfl | rfl
 .rw[show Ta (Uy 5)=32 by decide+kernel];lia
 .rw[show Ta (Uy 19)=128 by decide+kernel];lia
def zma {Q:Unit->X7->Prop}(x:s.heap.get? a=some (qm es ep t))(H:t.fits es.size=true)(v:es.size=5\/es.size=19)(he:es.toList=ks.map (zc1 f))
  (q:∀(h':Heap) (c:Array (Int×X9)) (t':WB) (l:List (Addr×(Int×Int))),V6 a s.heap h'->h'.get? a=some (qm c (ep+1) t')->c.toList=l.map (zc1 f)->l.Perm ks->Good t' (c.map (·.1))->t'.led=t.led->t'.plain=t.plain->Q () { s with heap:=h' }):Xj (Xn prog w) A (setRelay a (Uy es.size)) Q E s:=by
 have j:(es.map (·.1)).size=es.size:=Vm ..;refine fD (λt' b r u m y=>fB λz B D=>?_) (zh9 t (es.map (·.1)) (by rw[j];exact v));rw[j]at r u m B;have d:∀i∈b.toList,i<es.size:=λi h=>VW.mp (m.mem_iff.mp h);have p:ks.length=es.size:=by
  rw[<- X5,he,ZB]
 have e:Addr×(Int×Int):=(0,(0,0));have n:(b.filterMap (es[·]?)).toList=(b.toList.map λi=>ks.getD i e).map (zc1 f):=by
  rw[Array.toList_filterMap,zgK (zc1 f e) es b.toList d,Wv];refine Xb λi h=>?_;have h1:=d i h;show es.toList.getD i _=zc1 f (ks.getD i e);rw[he,W4,Xq,W4,XZ (by lia),Ud,Uw,Uw]
 have g:(b.filterMap (es[·]?)).size=es.size:=by
  rw[<- X5,n,ZB,ZB,X5,u]
 unfold setRelay;refine Y1 (SL (o:=qm es ep t) x rfl H ?_);dsimp only;rw[bq (zfx v),r];refine Y1 ?_;show Xj (Xn prog w) A (do
  let c:=b.filterMap (es[·]?)
  if c.size != es.size then Pj "internal:set-table-lost-an-element"
  pure (c,t')) _ _ _
 dsimp only;rw[g,bq (by simp)];refine XR ?_;dsimp only;refine zgJ x (by rw[g];lia) λh' h1 h2=>q h' _ t' _ h1 h2 n ?_ ?_ y z
 .have:=m.map λi=>ks.getD i e;rw[<- p,zhY]at this;exact this
 .have G:(b.filterMap (es[·]?)).map (·.1)=b.map λi=>(es.map (·.1)).toList.getD i 0:=by
   apply Array.toList_inj.mp;rw[Yr n,U6,Wv];refine Xb λi h=>?_;have h1:=d i h;show f (ks.getD i e).2=_;rw[Yr he,W4,W4,Xq,XZ (by lia),Ud,Uw,Uw]
  rw[G];exact D
def zmb {n:Nat}{x:Addr}{p:Int×Int}{Q:Bool->X7->Prop}(inj:∀p q,InB p->InB q->f p=f q->p=q)(hu:A.units<VN)(S:zd1 f led s.heap a ks)(hx:zD s.heap (.ref x) p)(hb:InB p)(hn:p ∉ ks.map (·.2)->ks.length<63)
  (q:∀(b:Bool) (h':Heap) (d:List (Addr×(Int×Int))),V6 a s.heap h'->zd1 f led h' a d->(∀c,c∈d.map (·.2)↔c∈ks.map (·.2)\/c=p)->(∀c∈d,c∈ks\/c=(x,p))->Q b { s with heap:=h' }) :
  Xj (Xn prog w) A (setAddHashedIn a (.ref x) (f p) (n+1)) Q E s:=by
 obtain⟨⟨es,ep,t,J,he,G,hl,hp⟩,nd,hc,I⟩:=S;have aj:ks.length=es.size:=by
  rw[<- X5,he,ZB]
 generalize hh:f p=h;rw[setAddHashedIn];refine Y1 (xX J G ?_);dsimp only;rw[show byScan (.ref x) es=false by simp[byScan,Value.scannable],bq XS];by_cases hm:p∈ks.map (·.2)
 .obtain⟨⟨b,p'⟩,hk,e⟩:=XI.mp hm;simp only at e;subst e;obtain⟨i,hi,ei⟩:=Tz hk;have eg:es[i]?=some (h,.ref b):=by
   rw[<- Xy,he,Xq,XZ hi,ei,<- hh];rfl
  unfold setSearch;refine Y1 (zfw (n:=99999) hu J G (by rw[Yr he];exact zkC inj nd I) (λe ac=>?_) eg hx (hc _ hk) ?_)
  .rw[he]at ac;obtain⟨c,h1,rfl⟩:=XI.mp ac;exact⟨c.1,c.2,rfl,hc c h1⟩
  .refine XR (q false s.heap ks (Heap.SameBut.refl _ _) ⟨⟨es,ep,t,J,he,G,hl,hp⟩,nd,hc,I⟩ (λc=>⟨.inl,λz=>z.elim id λz=>z ▸ hm⟩) λc h1=>.inl h1)
 .have ah:=hn hm;have no:h ∉ (es.map (·.1)).toList:=λz=>by
   rw[Yr he,<- hh]at z;obtain⟨c,h1,h2⟩:=XI.mp z;exact hm (XI.mpr ⟨c,h1,inj _ _ (I c h1) hb h2⟩)
  unfold setSearch;refine Y1 (zd0 (n:=99999) J G no λj h1 h2 h3=>?_);dsimp only;refine Y1 (xX J G ?_);obtain⟨f1,f2,f3⟩:=zl6 G.up G.dum h2;have g:t.place.size=es.size:=by rw[G.sz,Vm]
  have bs:Xv t.place j<=es.size:=by
   rw[<- g];exact(ZL G.up j).1
  generalize ai:Xv t.place j=pos at f1 f2 f3 bs;have r:(t.put j).1.plain=true:=by rw[f2];exact hp
  have D:(t.put j).1.led=led:=by rw[f2];exact hl
  have H:∃B,B=ks.take pos++(x,p)::ks.drop pos:=⟨_,rfl⟩;obtain⟨B,H⟩:=H;have ab:(Xh es pos (h,WT x)).toList=B.map (zc1 f):=by
   rw[Qe,he,H,Xz,Xw,Sl,Oy];simp only[zc1,hh]
  have o:(Xh es pos (h,WT x)).size=es.size+1:=jJ _ bs _;have pm:B.Perm ((x,p)::ks):=by
   rw[H];refine List.perm_middle.trans (List.Perm.cons _ ?_);rw[W7]
  have m:(t.put j).1.fits (Xh es pos (h,WT x)).size=true:=by
   have hr:=G.room;have bp:pos<=t.place.size:=by rw[g];exact bs
   rw[o,f2];unfold SetTable.fits Oz;simp only[G.dum,jJ _ bp,g];rcases G.mask with e | e | e<;>simp[e]<;>rw[g,e]at hr<;>lia
  have aa:∀(h':Heap) (d:List (Addr×(Int×Int))) (l:Array (Int×X9)) (M:Nat) (L:WB),V6 a s.heap h'->h'.get? a=some (qm l M L)->l.toList=d.map (zc1 f)->d.Perm ((x,p)::ks)->Good L (l.map (·.1))->L.led=led->L.plain=true->Q true { s with heap:=h' }:=by
   intro h' d l M L hs hg N v hG O Y;have mem:∀c,c∈d↔c=(x,p)\/c∈ks:=λc=>by rw[v.mem_iff,XH]
   refine q true h' d hs ⟨⟨l,M,L,hg,N,hG,O,Y⟩,?_,λc u=>?_,λc u=>?_⟩ (λc=>?_) λc u=>(mem c).mp u |>.symm
   .rw[(v.map (·.2)).nodup_iff,Xw,Wp];exact⟨hm,nd⟩
   .rcases(mem c).mp u with rfl | z
    .exact zD.up hx hs J rfl
    .exact zD.up (hc c z) hs J rfl
   .rcases(mem c).mp u with rfl | z
    .exact hb
    .exact I c z
   .rw[(v.map (·.2)).mem_iff,Xw,XH];exact Or.comm
  have eT:t.put j=((t.put j).1,pos):=by rw[<- f1]
  have fl:(t.put j).1.tooFull=decide ((es.size+1)*5 >= t.mask*3):=by
   have bp:pos<=t.place.size:=by rw[g];exact bs
   rw[f2];unfold SetTable.tooFull Oz;simp only[G.dum,jJ _ bp,g];rfl
  have gd:¬ (es.size+1)*5 >= t.mask*3->Good (t.put j).1 ((Xh es pos (h,WT x)).map (·.1)):=λhr=>by
   have:=G.put (h:=h) h1 h2 h3 (by rw[g];lia);rw[f1]at this;have e:(Xh es pos (h,WT x)).map (·.1)=Xh (es.map (·.1)) pos h:=by
    apply Array.toList_inj.mp;rw[U6,Qe,Qe,U6,Xz,Xw,Sl,Oy]
   rw[e];exact this
  have y:=G.room;have U:=G.mask;rw[g]at y;dsimp only;rw[eT];dsimp only;generalize t.put j=T at r D m fl gd;obtain⟨t1,p1⟩:=T;dsimp only at r D m fl gd ⊢;rw[r,bw rfl];refine Y1 (zl9 hx ?_);rw[bw rfl];refine Y1 (zgJ J (by rw[o];lia) λh' hs hg=>?_);by_cases full:(es.size+1)*5 >= t.mask*3
  .rw[fl,br full,bw (by decide)];rw[<- o];refine Y1 (zma (s:={ s with heap:=h' }) hg m (by rw[o];rcases U with e | e | e<;>rw[e]at full y<;>lia) ab λae l L d ag af N v hG O Y=>?_);exact XR (aa ae d l _ L (hs.trans ag) af N (v.trans pm) hG (O.trans D) (Y.trans r))
  .rw[fl,bf full,bq (by decide)];exact XR (aa h' B _ _ t1 hs hg ab pm (gd full) D r)
def zmc {x:Addr}{p:Int×Int}{Q:Bool->X7->Prop}(e:A.units<VN)(S:zd1 (hP prog w) led s.heap a ks)(f:zD s.heap (.ref x) p)(h:InB p)(i:p ∉ ks.map (·.2)->ks.length<63)
  (q:∀(b:Bool) (h':Heap) (d:List (Addr×(Int×Int))),V6 a s.heap h'->zd1 (hP prog w) led h' a d->(∀c,c∈d.map (·.2)↔c∈ks.map (·.2)\/c=p)->(∀c∈d,c∈ks\/c=(x,p))->Q b { s with heap:=h',toks:=s.toks+3 }) :
  Xj (Xn prog w) A (setAdd a (.ref x)) Q E s:=by
 unfold setAdd;refine VT (Y1 ((tk2 prog w).pyHash e (JU f) ?_));show Xj (Xn prog w) A (setAddHashed a (.ref x) (hP prog w p)) Q E { s with toks:=s.toks+3 };unfold setAddHashed;refine VT ?_;exact zmb (n:=99999) (s:={ s with toks:=s.toks+3 }) (λp q h1 h2 g=>zqq h1 h2 g) e S f h i q
end
theorem zjk {α:Type}(next:Nat->Nat):∀(fuel k:Nat) (left:List α) (a:Array α),left.length=fuel->(pickOrder.go next fuel k left a).toList.Perm (a.toList++left)
 | 0,k,left,a,h=>by
  rw[Wb.mp h,Xf];exact List.Perm.refl _
 | fuel+1,k,left,a,h=>by
  have b:next k%left.length<left.length:=RU _ (by lia)
  rw[pickOrder.go,XZ b];dsimp only;refine(zjk next fuel (k+1) _ _ (by rw[List.length_eraseIdx_of_lt b];lia)).trans ?_;rw[SJ,W2];refine SA _ ?_;have e:left=left.take (next k%left.length)++left[next k%left.length]::left.drop (next k%left.length+1):=by
   rw[<- WI b,W7]
  rw[List.eraseIdx_eq_take_drop_succ];have c:=@List.perm_middle _ left[next k%left.length] (left.take (next k%left.length)) (left.drop (next k%left.length+1));rw[<- e]at c;exact c.symm
def zkD {α:Type}(next:Nat->Nat)(xs:Array α):(Ri next xs).toList.Perm xs.toList:=by
 have h:=zjk next xs.size 0 xs.toList #[] (by simp)
 rw[show (#[]:Array α).toList++xs.toList=xs.toList from rfl]at h;exact h
def yD:Slot "set_iterator" "__next__" "set_iterator.__next__" :=
 .of (owner:="set_iterator") (n:="__next__") (by rw[To,UX];kernel_rfl) (by decide+kernel) (by decide+kernel) (by decide+kernel) (.inl (by decide+kernel)) (by rw[Pd];kernel_rfl)
def zaX:N0 table "set_iterator.__next__"=some UQ.«set_iterator.__next__»:=entryFor_of_tree (by kernel_rfl)
def zc2:Manifest.owners.lookup (String.ofList ['r','o','t','a','r','e','t','i','_','t','e','s'].reverse)=some Manifest.sig_set_iterator:=by kernel_rfl
def zb5 (a:X9):argsOk "set_iterator.__next__" ⟨[a],[]⟩:=by
 unfold argsOk;rw[signature?_of (id:="set_iterator.__next__") (n:=['_','_','t','x','e','n','_','_']) (o:=['r','o','t','a','r','e','t','i','_','t','e','s']) (by kernel_rfl) zc2];kernel_rfl
def zfy:N0 table "set.__iter__"=some UQ.«frozenset.__iter__»:=entryFor_alias (id':="frozenset.__iter__") (by kernel_rfl) rfl (by decide+kernel) (by kernel_rfl)
def zc3 (b i:Nat)(a:Addr)(n ep:Nat):Obj:={ cls:=.type "set_iterator",data:=.fields #[Ua b,Ua i,.ref a,Ua n,Ua ep] }
def slotAt (a:Bool)(t:WB)(i:Nat):Nat:=if a then 0 else if i=0 then 0 else t.place.getD (i-1) 0+1
def ZP (w:W3)(a:Addr)(ep:Nat)(b:Array (Int×X9)):Array (Int×X9):=if w.params.followText "set-order" then Ri (w.params.setOrder a ep) b else b
def zaY (w:W3)(a:Addr)(ep:Nat)(b:Array (Int×X9)):(ZP w a ep b).toList.Perm b.toList:=by
 unfold ZP;split
 .exact zkD _ _
 .exact List.Perm.refl _
section
variable {prog:Xm}{w:W3}{A:WN}{E:X9->X7->Prop}{s:X7}{a:Addr}{es:Array (Int×X9)}{ep:Nat}{t:WB}
def zfz {Q:Bool->X7->Prop}(q:Q (w.params.followText "set-order") s):Xj (Xn prog w) A setsByText Q E s:=by
 unfold setsByText;exact Y1 (Rc (XR q))
def below_at {t:WB}(U:Up t.place){i:Nat}(d:i<=t.place.size):Xv t.place (slotAt false t i)=i:=by
 obtain⟨c,a,b⟩:=ZL U (slotAt false t i);unfold slotAt at *
 simp only[WD,if_false]at *
 by_cases h0:i=0
 .subst h0;rw[bw rfl]at *
  rcases Nat.eq_zero_or_pos (Xv t.place 0) with e | e
  .exact e
  .have:=a 0 e;lia
 .rw[bq h0]at *
  rcases Rz (Xv t.place (t.place.getD (i-1) 0+1)) i with e | e | e
  .have:=b (i-1) (by lia) (by lia);lia
  .exact e
  .have h1:=a i e;have h2:=U (i-1) i (by lia) (by lia);lia
def zjl {i:Nat}{Q:Option (X9×Nat)->X7->Prop}(g:s.heap.get? a=some (qm es ep t))(G:Good t (es.map (·.1)))(f:t.led=!w.params.followText "set-order")(m:t.plain=true)(o:i<=es.size)
  (b:∀v,(ZP w a ep es)[i]?.map (·.2)=some v->Q (some (v,slotAt (w.params.followText "set-order") t (i+1))) s) (j:i=es.size->Q none s) :
  Xj (Xn prog w) A (setNext a (slotAt (w.params.followText "set-order") t i) i ep) Q E s:=by
 have n:t.place.size=es.size:=by rw[G.sz,Vm]
 have d:(ZP w a ep es).size=es.size:=by
  rw[<- X5,(zaY w a ep es).length_eq,X5]
 unfold setNext;refine Y1 (xX g G ?_);dsimp only;refine Y1 (zfz ?_);cases hb:w.params.followText "set-order" with
 | true =>
  rw[bw rfl];rw[hb]at b;rw[bq (by simp)];unfold setWalk;refine Y1 (Y1 (xX g G ?_));dsimp only;refine Y1 (zfz ?_);rw[hb,bw rfl];refine Y1 (Rc (XR (XR ?_)));have c:ZP w a ep es=Ri (w.params.setOrder a ep) es:=by
   unfold ZP;rw[hb,bw rfl]
  rw[c]at b d;show Q (Option.map _ (Ri (w.params.setOrder a ep) es)[i]?) s;by_cases h:i<es.size
  .have e:(Ri (w.params.setOrder a ep) es)[i]?=some (Ri (w.params.setOrder a ep) es)[i]:=Vs (by lia);rw[e]at b ⊢;exact b _ rfl
  .rw[WJ (by lia)];exact j (by lia)
 | false =>
  rw[bq XS];rw[hb]at b f;have c:ZP w a ep es=es:=by
   unfold ZP;rw[hb,bq XS]
  rw[c]at b;split
  .rename_i h;exact absurd h (by show ¬ ((!t.plain&&decide (es.size>1))=true);rw[m];exact XS)
  refine Y1 ?_;show Xj _ _ (if (!t.led && !es.isEmpty)=true then Pj "set:maker-not-led" else pure ()) _ _ _;rw[f,bq (by simp)];refine XR ?_;rw[below_at G.up (by lia)];by_cases h:i<es.size
  .have e:es[i]?=some es[i]:=Vs h;have l:t.place[i]?=some (t.place.getD i 0):=JS (by lia);rw[e]at b ⊢;rw[l];refine XR (b _ rfl)
  .rw[WJ (by lia)];exact XR (j (by lia))
end
def zeE:Slot "set_iterator" "__iter__" "set_iterator.__iter__" :=
 .of (owner:="set_iterator") (n:="__iter__") (by rw[To,UX];kernel_rfl) (by decide+kernel) (by decide+kernel) (by decide+kernel) (.inl (by decide+kernel)) (by rw[Pd];kernel_rfl)
def zia:N0 table "set_iterator.__iter__"=some UQ.«dict_keyiterator.__iter__»:=entryFor_alias (id':="dict_keyiterator.__iter__") (by kernel_rfl) rfl (by decide+kernel) (by kernel_rfl)
def zkE (a:X9):argsOk "set_iterator.__iter__" ⟨[a],[]⟩:=by
 unfold argsOk;rw[signature?_of (id:="set_iterator.__iter__") (n:=['_','_','r','e','t','i','_','_']) (o:=['r','o','t','a','r','e','t','i','_','t','e','s']) (by kernel_rfl) zc2];kernel_rfl
section
variable {prog:Xm}{w:W3}{A:WN}{E:X9->X7->Prop}{s:X7}{a I:Addr}{es:Array (Int×X9)}{ep:Nat}{t:WB}
def zib {b i a n ep:Nat}(x y:Nat):Sk (·.setIfInBounds 1 (Ua y)) (Sk (·.setIfInBounds 0 (Ua x)) (zc3 b i a n ep))=zc3 x y a n ep:=rfl
def zok {i:Nat}{Q:Option X9->X7->Prop}(b:s.heap.get? I=some (zc3 (slotAt (w.params.followText "set-order") t i) i a es.size ep))(d:s.heap.get? a=some (qm es ep t))(G:Good t (es.map (·.1)))(f:t.led=!w.params.followText "set-order")(g:t.plain=true)(e:i<es.size)
  (q:∀v h',(ZP w a ep es)[i]?.map (·.2)=some v->h'.get? I=some (zc3 (slotAt (w.params.followText "set-order") t (i+1)) (i+1) a es.size ep)->V6 I s.heap h'->Q (some v) { s with heap:=h' }) :
  Xj (Xn prog w) A (RW (.ref I)) Q E s:=by
 have c:s.TypeIs (.ref I) "set_iterator":=⟨_,b,rfl⟩;unfold RW;refine Y1 (Ru (QP (name:=Str.ofString "__next__") c yD (U7 yD c zaX ?_ (zb5 _))));unfold UQ.«set_iterator.__next__»;refine Y1 (XR ?_);refine Y1 (wpAny_fieldsOf b rfl ?_);dsimp only[Ua];refine Y1 (R8 (o:=qm es ep t) d rfl ?_ ?_)
 .have:=G.fits;rwa [Vm]at this
 rw[bq (by simp)];show Xj _ _ (setNext a (slotAt (w.params.followText "set-order") t i) i ep >>= _) _ _ _;refine Y1 (zjl d G f g (TM e) (λv h=>?_) λz=>absurd z (by lia));dsimp only;refine Y1 (Pc b rfl (by simp[zc3]) ?_);have h1:=Wj (Sk (·.setIfInBounds 0 (Ua ((slotAt (w.params.followText "set-order") t (i+1):Nat):Int)))) b rfl;refine Y1 (Pc h1 rfl (by simp[zc3,Sk]) ?_);have h2:=Wj (Sk (·.setIfInBounds 1 (Ua ((i:Int)+1)))) h1 rfl;refine XR ⟨_,rfl,XR (q v _ h ?_ ((Wx ..).trans (Wx ..)))⟩;rw[show ((i:Int)+1)=((i+1:Nat):Int) by lia]at h2 ⊢;rw[zib]at h2;exact h2
def zqr {Q:Option X9->X7->Prop}(g:A.handled=none)(c:s.heap.get? I=some (zc3 (slotAt (w.params.followText "set-order") t es.size) es.size a es.size ep))(e:s.heap.get? a=some (qm es ep t))(G:Good t (es.map (·.1)))(h:t.led=!w.params.followText "set-order")(j:t.plain=true)
  (q:∀h',Heap.ExtBut I s.heap h'->Q none { s with heap:=h' }):Xj (Xn prog w) A (RW (.ref I)) Q E s:=by
 have d:s.TypeIs (.ref I) "set_iterator":=⟨_,c,rfl⟩;unfold RW;refine Y1 (Ru (QP (name:=Str.ofString "__next__") d yD (U7 yD d zaX ?_ (zb5 _))));unfold UQ.«set_iterator.__next__»;refine Y1 (XR ?_);refine Y1 (wpAny_fieldsOf c rfl ?_);dsimp only[Ua];refine Y1 (R8 (o:=qm es ep t) e rfl ?_ ?_)
 .have:=G.fits;rwa [Vm]at this
 rw[bq (by simp)];show Xj _ _ (setNext a (slotAt (w.params.followText "set-order") t es.size) es.size ep >>= _) _ _ _;refine Y1 (zjl e G h j (XU _) (λv f=>?_) λ_=>?_)
 .have i:(ZP w a ep es).size=es.size:=by
   rw[<- X5,(zaY w a ep es).length_eq,X5]
  rw[WJ (by lia)]at f;cases f
 dsimp only;refine Y1 (Pc c rfl (by simp[zc3]) ?_);refine Y1 ?_;simp only[newExc,newTuple];refine Y1 (VA ?_ (by size_fits));refine Y1 (m:=RT _ _) (N8 (a:=Ur) (by first | rfl | (simp only[RT];rfl)) ?_);refine VA ?_ (by size_fits);simp only[raiseNew];refine Y1 (wpAny_handled ?_);rw[show A.in1.handled=none from g];refine Y1 (XR (wpAny_throw ?_));refine Y1 (Rf (T:="StopIteration") (b:=true) ⟨_,Xc _ rfl,rfl⟩ isSubtype_stop ?_);exact XR (q _ (((Wx ..).extBut.push _).push _))
def zol {b i n:Nat}{Q:X9->X7->Prop}(d:s.heap.get? I=some (zc3 b i a n ep))(q:Q (.ref I) s):Xj (Xn prog w) A (pyIter (.ref I)) Q E s:=by
 have c:s.TypeIs (.ref I) "set_iterator":=⟨_,d,rfl⟩;refine wpAny_pyIter_slot c zeE (U7 zeE c zia ?_ (zkE _));exact XR ⟨_,rfl,"set_iterator",_,c,yD.lookup,q⟩
def walks (hh:A.handled=none)(hne:a≠I)(G:Good t (es.map (·.1)))(hl:t.led=!w.params.followText "set-order")(hp:t.plain=true) :
  Walks prog w A I [I,a] [I] es.size (λi v=>(ZP w a ep es)[i]?.map (·.2)=some v) (λi h=>h.get? I=some (zc3 (slotAt (w.params.followText "set-order") t i) i a es.size ep)/\h.get? a=some (qm es ep t)) where
 sub:=λb hb=>by simp at hb;simp[hb]
 frame:=λ_ _ _ st hk=>⟨hk I (by simp) _ st.1,hk a (by simp) _ st.2⟩
 item:=λi s Q E hi st hQ=>zok st.1 st.2 G hl hp hi λv h' hv h1 hs=>hQ v h' s.toks hv ⟨h1,(hs.2 a hne).trans st.2⟩ λb o hb e=>(hs.2 b λz=>hb (by simp[z])).trans e
 done:=λs Q E st hQ=>zqr hh st.1 st.2 G hl hp λh' he=>hQ h' s.toks λb o hb e=>he b o (λz=>hb (by simp[z])) e
 self:=λ_ _ _ _ st hQ=>zol st.1 hQ
def zgL:splitId "set.__len__"=some ("set","__len__"):=by decide+kernel
def zgM {Q:List X9->X7->Prop}(hh:A.handled=none)(ho:s.heap.get? a=some (qm es ep t))(G:Good t (es.map (·.1)))(hl:t.led=!w.params.followText "set-order")(hp:t.plain=true)(hn:es.size<=64)
  (q:∀vs h' tk,vs.Perm (es.toList.map (·.2))->(∀b o,s.heap.get? b=some o->h'.get? b=some o)->s.heap.objs.size<=h'.objs.size->Q vs { s with heap:=h',toks:=tk }):Xj (Xn prog w) A (collect (.ref a)) Q E s:=by
 have g:a<s.heap.objs.size:=XB ho;unfold collect;refine Y1 (wpAny_runValue (VH PySem.F.entry_proto_collect ?_));rw[V8 PySem.F.plain_proto_collect _];show Xj _ A.in1 (newList [] >>= λl=>N9 (.builtin "list.__iadd__" ⟨[l,.ref a],[]⟩)) _ _ s;refine Y1 (VA ?_);refine XR ⟨UJ Qr _,VH PySem.F.entry_list_iadd ?_⟩;rw[V8 Qr _];show Xj _ A.in1 (RZ (.ref s.heap.objs.size) (.ref a) (.ref s.heap.objs.size)) _ _ _;generalize D:(s.heap.push { cls:=.type "list",data:=.seq ([]:List X9).toArray })=h1;have f:h1.get? a=some (qm es ep t):=by rw[<- D];exact XV _ ho
 have L:h1.get? s.heap.objs.size=some { cls:=.type "list",data:=.seq #[] }:=by rw[<- D];exact Xc _ rfl
 have ab:∀b o,s.heap.get? b=some o->h1.get? b=some o:=λb o e=>by rw[<- D];exact XV _ e
 have I:h1.objs.size=s.heap.objs.size+1:=by rw[<- D];exact U3 ..
 have N:Sm { s with heap:=h1 } (.ref a) "set":=⟨_,f,rfl⟩;have J:Rm (.ref s.heap.objs.size) (.ref a)=false:=by
  simp[Rm];exact Uq g
 unfold RZ;refine Y1 (R4 N ?_);rw[bq (by rw[J];decide)];have U:t.fits es.size=true:=by
  have:=G.fits;rwa [Vm]at this
 refine Y1 (wpAny_pyIter_slot N Pu (U7 Pu N zfy ?_ (PySem.F.args_set_iter_1 _)));unfold UQ.«frozenset.__iter__» Builtin.Frozenset.slot0 slotArgs;simp only[List.isEmpty_nil,Bool.not_true,WD,↓reduceIte,bind_assoc,Vu,bne_self_eq_false];unfold Builtin.Frozenset.addrOf Builtin.Frozenset.sizeOf;refine Y1 (XR ?_);dsimp only;refine Y1 (XR ?_);refine Y1 (Y1 (R8 (s:={ s with heap:=h1 }) (o:=qm es ep t) f rfl U (XR ?_)));unfold setDrawn;refine Y1 (Y1 (SL (s:={ s with heap:=h1 }) (o:=qm es ep t) f rfl U ?_));dsimp only;refine Y1 (zfz (XR ?_));split
 .rename_i h;exact absurd h (by show ¬ ((!w.params.followText "set-order" && (!t.plain&&decide (es.size>1)))=true);rw[hp];simp)
 refine Y1 (XR ?_);unfold setEpoch;refine Y1 (Y1 (SL (s:={ s with heap:=h1 }) (o:=qm es ep t) f rfl U (XR ?_)));unfold newFields;refine Y1 (VA ?_);generalize B:h1.push { cls:=.type "set_iterator",data:=.fields (List.toArray [Ua 0,Ua 0,WT a,Ua ((es.size:Nat):Int),Ua ((ep:Nat):Int)]) }=h2;have y:h2.get? a=some (qm es ep t):=by rw[<- B];exact XV _ f
 have u:h2.get? s.heap.objs.size=some { cls:=.type "list",data:=.seq #[] }:=by rw[<- B];exact XV _ L
 have ac:∀b o,s.heap.get? b=some o->h2.get? b=some o:=λb o e=>by rw[<- B];exact XV _ (ab b o e)
 have p:h2.get? h1.objs.size=some (zc3 0 0 a es.size ep):=by rw[<- B];exact Xc _ rfl
 have O:Sm { s with heap:=h2 } (.ref h1.objs.size) "set_iterator":=⟨_,p,rfl⟩;have m:Sm { s with heap:=h2 } (.ref a) "set":=⟨_,y,rfl⟩;refine XR (eN rfl "set_iterator" (dD O yD.lookup ?_));refine Y1 (VT ?_);unfold Builtin.List.listLengthHint;refine Y1 (Tp m PySem.F.slot_set_len.lookup ?_);dsimp only;rw[zgL];dsimp only;refine Y1 (Rf (b:=true) m sub_set_self ?_);rw[bq (by decide)];show Xj _ _ (typeOf (WT a) >>= _) _ _ _;refine Y1 (R4 m ?_);show Xj _ _ (pure false) _ _ _;refine XR ?_;show Xj _ A.in1 (rule "list.extend.makes-room" >>= λ_=>Builtin.List.listTouch (.ref s.heap.objs.size) >>= λ_=>N9 (.builtin "list.extend.loop" ⟨[.ref s.heap.objs.size,.ref h1.objs.size,.ref s.heap.objs.size],[]⟩)) _ _ _;refine Y1 (U4 (Y1 ?_));show Xj _ A.in1 (updateSeq s.heap.objs.size (·.push .none) >>= λ_=>updateSeq s.heap.objs.size (·.pop)) _ _ _;refine Y1 (wpAny_updateSeq u rfl ?_);have v:=Wj (Vh (·.push Ur)) u rfl;refine wpAny_updateSeq v rfl ?_;have x:=Wj (Vh (·.pop)) v rfl;have j:∀b o,b≠s.heap.objs.size->h2.get? b=some o->((h2.update s.heap.objs.size (Vh (·.push Ur))).update s.heap.objs.size (Vh (·.pop))).get? b=some o :=
  λb o n e=>(Ui _ _ (UY n)).trans ((Ui _ _ (UY n)).trans e)
 generalize (h2.update s.heap.objs.size (Vh (·.push Ur))).update s.heap.objs.size (Vh (·.pop))=h4 at x j;have aa:a≠h1.objs.size:=by
  rw[I];exact Xi (Wo g)
 have M:s.heap.objs.size ∉ [h1.objs.size,a]:=by
  rw[I];simp only[XH,Vq,or_false,not_or];exact⟨Xi (Ss _),Uq g⟩
 have af:slotAt (w.params.followText "set-order") t 0=0:=by
  unfold slotAt;split<;>rfl
 have ag:(ZP w a ep es).size=es.size:=by
  rw[<- X5,(zaY w a ep es).length_eq,X5]
 refine XR ⟨UJ PySem.F.plain_extend_loop _,codeAny_extend_loopS ((walks (A:=A.in1) (prog:=prog) (ep:=ep) hh aa G hl hp).toS) (X6 hn (by rw[TV];decide)) _ M _ es.size 0 _ _ _ rfl (WY _)
  ⟨by rw[af];exact j _ _ (by rw[I];exact U9 _) p,j _ _ (Xi g) y⟩ x (ItemsOf.nil _) λs' c c' H r d=>?_⟩
 show Xj _ A (load s.heap.objs.size >>= _) _ _ s';refine Y1 (wpAny_load r ?_);obtain⟨h',g',d',ah,ae⟩:=s';have eg:g'=s.gens:=H.gens;have ed:d'=s.drawn:=H.drawn;have eo:ae=s.os:=H.os;subst eg;subst ed;subst eo;refine XR (q _ _ _ ?_ (λb o e=>?_) (TM (XB r)))
 .have e:c.toList=(ZP w a ep es).toList.map (·.2):=by
   refine SH λi=>?_;rw[Xy,Xq,Xy];by_cases hi:i<es.size
   .have Y:i<c.size:=by rw[d.1];exact hi
    have e1:c[i]?=some c[i]:=Vs Y;rw[e1];exact(d.2 i _ e1).symm
   .rw[WJ (by rw[d.1];lia),WJ (by lia)];rfl
  rw[e];exact(zaY w a ep es).map _
 .have n:b<s.heap.objs.size:=XB e;refine H.heap b o (λz=>?_) (j b o (Xi n) (ac b o e));rcases XH.mp z with z | z
  .exact VJ _ (z ▸ n)
  .have z':b=h1.objs.size:=by simpa using z
   rw[z',I]at n;exact absurd n (Nat.not_lt.mpr (VX _))
end
end ST
open PySem PySem.Spec PyProof.Rows PySem.W
namespace ST
def zgN (prog:Xm)(w:W3)(d:Addr)(ks:List (Addr×(Int×Int))):HO:=.ext λh=>∃a b t,h.get? d=some (qm a b t)/\a.toList=ks.map (zc1 (hP prog w))/\Good t (a.map (·.1))/\t.led=(!w.params.followText "set-order")/\t.plain=true
section
variable {prog:Xm}{w:W3}{A:WN}{R:Oc->X7->Prop}{I:Addr}{fp wr:List Addr}{G:Array Sg->Array Sg->Prop}{n:Nat}{P:Nat->X9->Prop}{St:Nat->X7->Prop}{led:Bool}
def zmd {h0:Heap}(W:WalksS prog w A.in1 I fp wr G n P St)(D:Addr)(M:D ∉ fp)(ai:h0.get? D=none)(ar:∀b∈wr,h0.get? b=none)(ps:List (Int×Int))(Y:ps.length=n)(hu:A.units+1<VN)
  (T:Addr->Int×Int->Prop) (hT:∀x p,T x p->zD h0 (.ref x) p) (ak:∀i v,P i v->∃x p,v=.ref x/\ps[i]?=some p/\T x p) (y:∀p∈ps,InB p) (ah:∀l:List (Int×Int),l.Nodup->(∀c∈l,c∈ps)->l.length<=63) :
  ∀(k i:Nat) (s:X7) (ks:List (Addr×(Int×Int))),n-i=k->i<=n->St i s->(∀b o,h0.get? b=some o->s.heap.get? b=some o)->zd1 (hP prog w) led s.heap D ks->(∀c,c∈ks.map (·.2)↔c∈ps.take i)->(∀q∈ks,T q.1 q.2) ->
   (∀s' r,Moved (D::wr) G s s'->zd1 (hP prog w) led s'.heap D r->(∀c,c∈r.map (·.2)↔c∈ps)->(∀q∈r,T q.1 q.2)->R (.ok (.ret .none)) s') ->
   SV (Xn prog w) A (.builtin "set.update.loop" ⟨[.ref D,.ref I],[]⟩) R s:=by
 have aj:D ∉ wr:=λh=>M (W.sub _ h);have more:∀b∈wr,b∈D::wr:=λb y=>XT _ y;have d:∀{h:Heap} {x:Addr} {p:Int×Int},(∀b o,h0.get? b=some o->h.get? b=some o)->T x p->zD h (.ref x) p:=λE hx=>by
  obtain⟨b,o,m,t,u,e,e1,e2,e3⟩:=hT _ _ hx;exact⟨b,o,m,t,u,e,E _ _ e1,e2,e3⟩
 have a:∀{s s':X7},Moved wr G s s'->(∀b o,h0.get? b=some o->s.heap.get? b=some o)->∀b o,h0.get? b=some o->s'.heap.get? b=some o:=λj E b o e =>
  j.heap b o (λy=>by
   rw[ar b y]at e;cases e) (E b o e)
 have f:∀{s s':X7} {ks:List (Addr×(Int×Int))},Moved wr G s s'->(∀b o,h0.get? b=some o->s'.heap.get? b=some o)->(∀q∈ks,T q.1 q.2)->zd1 (hP prog w) led s.heap D ks->zd1 (hP prog w) led s'.heap D ks :=
  λj E hk ⟨⟨es,ep,t,e1,e2⟩,e3,_,e5⟩=>⟨⟨es,ep,t,j.heap D _ aj e1,e2⟩,e3,λq hq=>d E (hk q hq),e5⟩
 intro k;induction k with
 | zero =>
  intro i s ks hk hi J E hS B g hR;have an:i=n:=by lia
  subst an;refine VH Tw ?_;rw[V8 Vd _];show Xj _ A.in1 (RW (.ref I) >>= _) _ _ s;refine Y1 (W.done s _ _ J λs' j=>?_);refine XR (hR s' ks (j.mono more) (f j (a j E) g hS) (λc=>?_) g);rw[B c,<- Y,XJ]
 | succ k ih =>
  intro i s ks hk hi J E hS B g hR;have aa:i<n:=by lia
  refine VH Tw ?_;rw[V8 Vd _];show Xj _ A.in1 (RW (.ref I) >>= _) _ _ s;refine Y1 (W.item i s _ _ aa J λv s' al af j=>?_);refine fH (λx p z0 hq hx=>?_) (ak i v al);subst z0;have L:=a j E;have N:=f j L g hS;have ae:p∈ps:=X8 hq;have tk:ps.take (i+1)=ps.take i++[p]:=by
   rw[Xx,hq];rfl
  refine Y1 (VT (zmc (show A.in1.units<VN from hu) N (d L hx) (y p ae) (λao=>?_) λb h' r H am ac aw=>?_))
  .have:=ah (p::ks.map (·.2)) (Wp.mpr ⟨ao,N.nd⟩) λc hc=>by
    rcases XH.mp hc with rfl | hc
    .exact ae
    .exact V9 ((B c).mp hc)
   rw[Xo,ZB]at this;lia
  have au:∀b o,h0.get? b=some o->h'.get? b=some o:=λb o e=>by
   rw[H.2 b (λz=>by
    rw[z,ai]at e;cases e)]
   exact L b o e
  refine XR ⟨UJ Vd _,?_⟩;refine ih (i+1) _ r (by lia) aa (W.frame _ s' _ _ af (U8 _ _) λb y o e=>?_) au am (λc=>?_) (λq aq=>?_) λav ag ab O U Q=>?_
  .rw[H.2 b (λz=>M (by rw[<- z];exact y))];exact e
  .rw[ac c,B c,tk,XO,Wf]
  .rcases aw q aq with z | z
   .exact g q z
   .rw[z];exact hx
  .refine hR av ag (Moved.trans W.gtrans ((j.mono more).then_heap (U8 _ _) λb o y e=>?_) ab) O U Q;rw[H.2 b (λz=>y (by rw[z];exact XQ))];exact e
end
section
variable {prog:Xm}{w:W3}{A:WN}{E:X9->X7->Prop}{s:X7}
def zom (a:X9){Q₁:X9->X7->Prop}(h:Q₁ (.ref s.heap.objs.size) { s with heap:=s.heap.push (qm #[] 0 (.fresh 0 0 (!w.params.followText "set-order"))) }) :
  SV (Xn prog w) A (.call (.builtin "set.__new__") ⟨[.type "set",a],[]⟩) (wants Q₁ E) s:=by
 refine codeAny_of_tree ?_;show Xj _ A.in1 (do checkBuiltinCall "set.__new__" ⟨[.type "set",a],[]⟩;N9 (.builtin "set.__new__" ⟨[.type "set",a],[]⟩)) _ _ s;refine Y1 (N8 (PySem.F.newCall_set_1 a) (XR ⟨UJ Ps _,VH PySem.F.entry_set_new ?_⟩));rw[V8 Ps _];unfold UQ.«set.__new__» Builtin.Frozenset.newClass;have b:=sub_set_self;obtain⟨c,g,d,e,os⟩:=s;dsimp only;wp_walk;refine Rc (XR ?_);dsimp only;simp only[newObj];refine Y1 (wpAny_alloc (XR ?_));exact XR h
def zic (led:Bool):Good (.fresh 0 0 led) #[]:=⟨.inl rfl,rfl,rfl,λi j _ h=>absurd h (by simp[SetTable.fresh]),λi h=>absurd h (by simp[SetTable.fresh]),by simp[SetTable.fresh],λi h=>absurd h (by simp[SetTable.fresh])⟩
set_option maxHeartbeats 8000000 in
theorem zme {l:Addr}{d:Array X9}{ps:List (Int×Int)}{T:Addr->Int×Int->Prop}{Q:X9->X7->Prop}(hh:A.handled=none)(hu:A.units+64<VN)(hl:s.heap.IsList l d)(N:ps.length=d.size)
  (hT:∀x p,T x p->zD s.heap (.ref x) p) (ac:∀(i:Nat) (v:X9),d[i]?=some v->∃x p,v=WT x/\ps[i]?=some p/\T x p) (hb:∀p∈ps,InB p) (ab:∀l:List (Int×Int),l.Nodup->(∀c∈l,c∈ps)->l.length<=63)
  (h:∀(h':Heap) (tk:Nat) (ks:List (Addr×(Int×Int))),(∀b o,s.heap.get? b=some o->h'.get? b=some o)->zd1 (hP prog w) (!w.params.followText "set-order") h' s.heap.objs.size ks->(∀c,c∈ks.map (·.2)↔c∈ps)->(∀q∈ks,T q.1 q.2)->Q (.ref s.heap.objs.size) { s with heap:=h',toks:=tk }) :
  Xj (Xn prog w) A (call (.type "set") [.ref l]) Q E s:=by
 obtain⟨c,tl,am⟩:=PySem.F.called_set.mro;have ah:=PySem.F.called_set.made;have aq:=PySem.F.called_set.sub;refine wpAny_call (codeAny_of_tree ?_);show Xj _ _ (callAny (.type "set") _) _ _ _;refine XR ⟨Code.quiet_builtin _ (by decide+kernel),VH PySem.F.entry_type_call ?_⟩;rw[Around.under_plain (weight_type_call_type "set" [.ref l] []) rfl];have h1:=PySem.F.called_set.notType;have h2:=PySem.F.called_set.canCreate;have av:=PySem.F.typeCall_set_1 (.ref l);repeat (any_goals (first | assumption | wp_step))
 refine SS (zom (.ref l) (E:=E) (Q₁:=λY j=>Y=.ref s.heap.objs.size/\j={ s with heap:=s.heap.push (qm #[] 0 (.fresh 0 0 (!w.params.followText "set-order"))) }) ⟨rfl,rfl⟩) λr j hr=>?_;cases r with
 | error e=>exact hr
 | ok fl =>
  cases fl with
  | ret Y =>
   obtain⟨rfl,rfl⟩:=hr;generalize al:(!w.params.followText "set-order")=led at h ⊢;have hS:(s.heap.push (qm #[] 0 (.fresh 0 0 led))).get? s.heap.objs.size=some (qm #[] 0 (.fresh 0 0 led)):=Xc _ rfl;have I:Sm { s with heap:=s.heap.push (qm #[] 0 (.fresh 0 0 led)) } (.ref s.heap.objs.size) "set":=⟨_,hS,rfl⟩;have aw:=PySem.F.called_set.init.lookup;have au:=PySem.F.called_set.init.bind (.ref s.heap.objs.size);repeat (any_goals (first | assumption | wp_step))
   refine SS (O6 (R:=wants (λr m=>r=.none/\∃h' tk ks,m={ s with heap:=h',toks:=tk }/\zd1 (hP prog w) led h' s.heap.objs.size ks/\(∀c,c∈ks.map (·.2)↔c∈ps)/\(∀q∈ks,T q.1 q.2) /\
     (∀b o,s.heap.get? b=some o->h'.get? b=some o)) E) PySem.F.called_set.init.plain PySem.F.entry_set_init (check_set_init_1 I ?_)) λaa m a=>?_
   .revert hl;refine fy λol U J=>gi λnl L=>?_;obtain⟨ar,H,ai,f⟩:=ol;simp only at J L;subst J;subst L;have g:(s.heap.push (qm #[] 0 (.fresh 0 0 led))).get? l=some { cls:=.type "list",dict:=H,data:=.seq d nl,slots:=f }:=XV _ U;have ao:=PySem.F.sub_list_set;have an:=PySem.F.sub_list_frozenset;have ax:(P8 "list" == P8 "dict")=false:=by decide
    have B:(s.heap.push (qm #[] 0 (.fresh 0 0 led))).IsList l d:=⟨_,g,rfl,nl,rfl⟩;unfold UQ.«set.__init__» noKeywords Builtin.Frozenset.updateFrom;generalize hG:s.heap.push (qm #[] 0 (.fresh 0 0 led))=G at hS I g B ⊢;unfold qm at hS;generalize ae:pyIter=PI;wp_walk;subst ae;subst hG;refine T5 B ?_;refine Y1 (wpAny_runValue ?_);have M:l<s.heap.objs.size:=XB U;have zS:(s.heap.push (qm #[] 0 (.fresh 0 0 led))).objs.size=s.heap.objs.size+1:=U3 ..;have O:l≠(s.heap.push (qm #[] 0 (.fresh 0 0 led))).objs.size:=by
     rw[zS];exact Xi (Wo M)
    have af:s.heap.objs.size ∉ [(s.heap.push (qm #[] 0 (.fresh 0 0 led))).objs.size,l]:=by
     rw[zS];simp only[XH,Vq,or_false,not_or];exact⟨Xi (Ss _),Uq M⟩
    refine zmd (h0:=s.heap) (led:=led) ((Walks.list (by simp[hh]) (s.heap.push (qm #[] 0 (.fresh 0 0 led))).objs.size l O d).toS) s.heap.objs.size af (UM (XU _)) (λb hb=>?_) ps N (by show A.units+1+1+1<VN;lia) T hT ac hb ab (d.size-0) 0 _ [] rfl (WY _)
     ⟨⟨_,Xc _ rfl,rfl,rfl⟩,(B.push _)⟩ (λb o z=>XV _ (XV _ z)) ⟨(dW (#[]) 0 (.fresh 0 0 led) (XV _ hS) rfl (by rw[Array.map_empty];exact zic led) rfl rfl),Vn,(λq z=>nomatch z),(λq z=>nomatch z)⟩ (λc=>by simp) (λq z=>nomatch z) ?_
    .have e:b=(s.heap.push (qm #[] 0 (.fresh 0 0 led))).objs.size:=by simpa using hb
     rw[e,zS];exact UM (VX _)
    .intro s' ks hm u D y;obtain⟨h',g',d',ak,aj⟩:=s';have eg:g'=s.gens:=hm.gens;have ed:d'=s.drawn:=hm.drawn;have eo:aj=s.os:=hm.os;subst eg;subst ed;subst eo;show Xj _ _ _ _ _ _;refine XR ?_;show Xj _ _ (ret Ur) _ _ _;refine XR ⟨rfl,(dW h' ak ks rfl u D y (λb o e=>?_))⟩;have lt:=XB e;refine hm.heap b o (λz=>?_) (XV _ (XV _ e));rcases XH.mp z with z | z
     .exact VJ _ (z ▸ lt)
     .have z':b=(s.heap.push (qm #[] 0 (.fresh 0 0 led))).objs.size:=by simpa using z
      rw[z',zS]at lt;exact absurd lt (Nat.not_lt.mpr (VX _))
   .cases aa with
    | error e=>exact a
    | ok n =>
     cases n with
     | ret r =>
      revert a;refine fR λz0=>fC λh' tk ks z1 u D y ag=>?_;subst z0 z1;repeat (any_goals (first | assumption | wp_step))
      exact h _ _ _ ag u D y
     | _=>exact a.elim
  | _=>exact hr.elim
end
def zc4 {α q:Type}(f:α->q){l p:List q}(h:l.Perm p):∀ks:List α,p=ks.map f->∃g:List α,g.Perm ks/\l=g.map f:=by
 induction h with
 | nil=>exact λks e=>⟨ks,List.Perm.refl _,e⟩
 | cons x h s =>
  intro ks e;cases ks with
  | nil=>simp at e
  | cons k ks =>
   rw[Xw]at e;injection e with j i
   obtain⟨g,h1,h2⟩:=s ks i;exact⟨k::g,h1.cons k,by rw[Xw,j,h2]⟩
 | swap x y l =>
  intro ks e;match ks,e with
  | [],e=>simp at e
  | [k],e=>simp at e
  | k1::o::ks,e =>
   rw[Xw,Xw]at e;injection e with j i
   injection i with i r
   exact⟨o::k1::ks,List.Perm.swap k1 o ks,by rw[Xw,Xw,j,i,r]⟩
 | trans h1 h2 m n =>
  intro ks e;obtain⟨g,a,b⟩:=n ks e;obtain⟨is,c,d⟩:=m g b;exact⟨is,c.trans a,d⟩
section
variable {X:Cx}
def zkF (hu:X.A.units+64<VN)(hh:X.A.handled=none):qM X (.type "set") (λxs H Q=>∃l g ps,xs=[.ref l]/\SqL X.K H l g/\yO H g ps/\(∀p∈ps,InB p)/\(∀l:List (Int×Int),l.Nodup->(∀c∈l,c∈ps)->l.length<=63) /\
  ∀d ks,H d=none->(∀q∈ks,H q.1=some (.tup [.int q.2.1,.int q.2.2]))->(ks.map (·.2)).Nodup->(∀c,c∈ks.map (·.2)↔c∈ps)->Q (.ref d) (upd H d (zgN X.prog X.w d ks))):=by
 intro bz s σ H xs aa Q I r h;revert h;refine fT λl g ps z0 hq L hb z q=>?_;subst z0;obtain⟨u,rfl,ru⟩:=vals1 r;cases ru;obtain⟨b,M,pl,hz⟩:=I.list hq;have hp:=yO.pairs I L M;have B:b.length=ps.length:=Paired.length hp;have tw:∀{g:AF} {ps:List (Int×Int)} {b:List X9},yO H g ps->Vals g b->∀(i:Nat) (v:X9),b[i]?=some v->∃x p,v=WT x/\ps[i]?=some p/\H x=some (.tup [.int p.1,.int p.2]):=by
  intro g ps b h1;induction h1 generalizing b with
  | nil =>
   intro r i v e;cases r;simp at e
  | cons a t ih =>
   intro r i v e;obtain⟨x,rfl,D⟩:=a;cases r with
   | cons r1 r2 =>
    cases r1;cases i with
    | zero =>
     simp at e;exact⟨x,_,e.symm,rfl,D⟩
    | succ i =>
     obtain⟨y,p,h1,h2,U⟩:=ih r2 i v (by simpa using e);exact⟨y,p,h1,by simpa using h2,U⟩
 refine zme (T:=λx p=>H x=some (.tup [.int p.1,.int p.2])) hh hu pl.isList (by simp[B]) (λx p D=>?_) (λi v e=>tw L M i v (by simpa using e)) hb z λh' tk ks kk J hm hT=>?_
 .obtain⟨E,G,tp,_⟩:=I.tuple (SqT.of D);obtain⟨u1,u2,rfl,⟨t1,rfl⟩,⟨t2,rfl⟩⟩:=vals2 G;obtain⟨ob,O,c1,n,N⟩:=tp;exact⟨x,ob,n,t1,t2,rfl,O,c1,N⟩
 .have Y:H s.heap.objs.size=none:=I.hok.fresh (XU _);refine fX (λo m t j f=>?_) J.ex;refine⟨.ref s.heap.objs.size,upd H s.heap.objs.size (zgN X.prog X.w s.heap.objs.size ks),I.laid (t':=tk) kk (XU _) ⟨⟨o,m,t,j,f⟩,⟨_,j⟩,λh1 h2 ⟨o,m,t,j,f⟩ k=>⟨o,m,t,k _ j,f⟩⟩,rfl,q _ _ Y hT J.nd hm⟩
end
end ST
namespace GS
section
variable {prog:Xm}{w:W3}{A:WN}{E:X9->X7->Prop}{s:X7}{rk:Xd->Int}{κ:TX}{a0:Array Xd}
def Rk (rk:Xd->Int)(xs:Array Xd)(i:Nat):Int:=match xs[i]? with
 | some p=>rk p
 | none=>0
def JV {xs ys:Array Xd}{i j:Nat}(h:xs[i]?=ys[j]?):Rk rk xs i=Rk rk ys j:=by
 unfold Rk;rw[h]
def Up (rk:Xd->Int)(xs:Array Xd)(lo a:Nat):Prop:=∀i j,lo<=i->i<=j->j<a->Rk rk xs i<=Rk rk xs j
def Tells (prog:Xm)(w:W3)(A:WN)(s:X7)(κ:TX)(rk:Xd->Int)(a0:Array Xd):Prop :=
 ∀x∈a0.toList,∀y∈a0.toList,∀C:Bool->X7->Prop,C (decide (rk x<rk y)) s->Xj (Xn prog w) A (keyLt' κ x.1 y.1) C (λ_ _=>False) s
structure Ok (κ:TX)(a0:Array Xd)(st:WQ):Prop where
 perm:(Xp st).Perm a0
 kind:kindOf st=κ
 good:SU st=none
theorem Ok.size {st:WQ}(h:Ok κ a0 st):(Xp st).size=a0.size:=h.perm.size_eq
def Ok.at {st:WQ}(h:Ok κ a0 st){i:Nat}(b:i<a0.size):∃x,(Xp st)[i]?=some x/\x∈a0.toList/\Rk rk (Xp st) i=rk x:=by
 have a:i<(Xp st).size:=by rw[h.size];exact b
 have e:(Xp st)[i]?=some (Xp st)[i]:=getElem?_pos _ i a;refine⟨(Xp st)[i],e,(UZ.mp h.perm).mem_iff.mp (by simp),?_⟩;unfold Rk;rw[e]
def zmf {st:WQ}{x y:Xd}{Q:Option Bool->WQ->Prop}(T:Tells prog w A s κ rk a0)(hk:kindOf st=κ)(e:x∈a0.toList)(f:y∈a0.toList)(h:Q (some (decide (rk x<rk y))) st):wpS (Xn prog w) A E s (lt' x y) Q st:=by
 rw[lt'_eq];refine XE (Sq ?_);rw[hk];refine XE (Rl (Ru (VY (T x e y f (λb c=>c=s/\b=decide (rk x<rk y)) ⟨rfl,rfl⟩) (λb c a=>⟨a.1,?_⟩) λ_ _ d=>d.elim)));rw[a.2];exact Xr h
def qP {st:WQ}{xs:Array Xd}{i:Nat}{x:Xd}{Q:Xd->WQ->Prop}(e:xs[i]?=some x)(h:Q x st):wpS (Xn prog w) A E s (elem' xs i) Q st:=by
 rw[elem'_eq,e];exact Xr h
def zc5 {st:WQ}{i j:Nat}{Q:Option Bool->WQ->Prop}(T:Tells prog w A s κ rk a0)(O:Ok κ a0 st)(c:i<a0.size)(d:j<a0.size)(h:Q (some (decide (Rk rk (Xp st) i<Rk rk (Xp st) j))) st):wpS (Xn prog w) A E s (ltAt' i j) Q st:=by
 obtain⟨x,a,e,g⟩:=O.at (rk:=rk) c;obtain⟨y,b,f,l⟩:=O.at (rk:=rk) d;rw[g,l]at h;rw[ltAt'_eq];refine XE (Sq ?_);exact XE (qP a (XE (qP b (zmf T O.kind e f h))))
structure Step (κ:TX)(a0:Array Xd)(lo:Nat)(st st':WQ):Prop where
 ok:Ok κ a0 st'
 pend:WP st'=WP st
 low:∀i:Nat,i<lo->(Xp st')[i]?=(Xp st)[i]?
def Step.refl {lo:Nat}{st:WQ}(O:Ok κ a0 st):Step κ a0 lo st st:=⟨O,rfl,λ_ _=>rfl⟩
def zbA {xs:Array Xd}{i j:Nat}(a:j<=xs.size)(k:Nat):Rk rk (mirror xs i j ((j-i)/2)) k=if i<=k/\k<j then Rk rk xs (i+j-1-k) else Rk rk xs k:=by
 have e:=OL (i:=i) a k;by_cases h1:i<=k/\k<j
 .rw[bw h1]at e ⊢;exact JV e
 .rw[bq h1]at e ⊢;exact JV e
def jU {xs:Array Xd}{i j:Nat}(b:j<=xs.size)(a:∀k,i<=k->k<j->Rk rk xs k=Rk rk xs (j-1))(k:Nat):Rk rk (mirror xs i j ((j-i)/2)) k=Rk rk xs k:=by
 rw[zbA b];split
 .rw[a _ (by lia) (by lia),a k (by lia) (by lia)]
 .rfl
theorem Step.mirror {lo i j:Nat}{st a:WQ}(x:Step κ a0 lo st a)(c:lo<=i)(b:j<=a0.size):Step κ a0 lo st (setArr a (mirror (Xp a) i j ((j-i)/2))):=by
 refine⟨⟨(mirror_perm _ _ _ _).trans x.ok.perm,x.ok.kind,x.ok.good⟩,x.pend,λk hk=>?_⟩;show (PyProof.Rows.mirror (Xp a) i j ((j-i)/2))[k]?=_;rw[OL (by rw[x.ok.size];exact b),bq (by lia)];exact x.low k hk
def zjm {st:WQ}{i j:Nat}{Q:Unit->WQ->Prop}(h:Q () (setArr st (mirror (Xp st) i j ((j-i)/2)))):wpS (Xn prog w) A E s (Sj i j) Q st:=by
 rw[reverseSlice'_eq];exact Ti h
def up1 (lo a d:Nat):StateT WQ Sem AscSt :=
 forIn [a:d] ((none,a):AscSt) λ_ c=>do
  let x <- ltAt' (lo+c.snd) (lo+c.snd-1)
  match x with
  | some b=>if b=true then pure (ForInStep.done (none,c.snd)) else pure (V3 (none,c.snd+1))
  | _=>pure (ForInStep.done (some none,c.snd))
def zmg (lo n a:Nat):StateT WQ Sem (Option Nat):=do
 Sj lo (lo+n)
 let c <- up1 lo n a
 match c.fst with
 | some r=>pure r
 | none=>pure (some c.snd)
def zjn (lo n a:Nat):StateT WQ Sem DescSt :=
 forIn [n:a] ((none,n,0):DescSt) λ_ c=>do
  let x <- ltAt' (lo+c.snd.fst) (lo+c.snd.fst-1)
  match x with
  | some b =>
   if b=true then
    if c.snd.snd>0 then do
     Sj (lo+c.snd.fst-(c.snd.snd+1)) (lo+c.snd.fst)
     pure (V3 (none,c.snd.fst+1,0))
    else pure (V3 (none,c.snd.fst+1,0))
   else do
    let x <- ltAt' (lo+c.snd.fst-1) (lo+c.snd.fst)
    match x with
    | some b =>
     if b=true then pure (ForInStep.done (none,c.snd.fst,c.snd.snd))
     else pure (V3 (none,c.snd.fst+1,c.snd.snd+1))
    | _=>pure (ForInStep.done (some none,c.snd.fst,c.snd.snd))
  | _=>pure (ForInStep.done (some none,c.snd.fst,c.snd.snd))
def part2 (lo n a:Nat):StateT WQ Sem (Option Nat):=do
 liftM (rule "list.sort.descending-run")
 let c <- zjn lo (n+1) a
 match c.fst with
 | some r=>pure r
 | none =>
  if c.snd.snd>0 then do
   Sj (lo+c.snd.fst-(c.snd.snd+1)) (lo+c.snd.fst)
   zmg lo c.snd.fst a
  else zmg lo c.snd.fst a
theorem run_eq (lo a:Nat):countRun' lo a=(do
  let c <- up1 lo 1 a
  match c.fst with
  | some r=>pure r
  | none =>
   if (c.snd==a)=true then pure (some c.snd)
   else if c.snd>1 then do
    let x <- ltAt' lo (lo+c.snd-1)
    match x with
    | some b=>if b=true then pure (some c.snd) else do
      Sj lo (lo+c.snd)
      part2 lo c.snd a
    | _=>pure none
   else part2 lo c.snd a):=by
 rw[countRun'_eq];unfold part2 zmg zjn up1;refine bind_congr λc=>?_;obtain⟨r,n⟩:=c;cases r with
 | some r=>rfl
 | none =>
  dsimp only;split
  .rfl
  .split
   .refine bind_congr λx=>?_;cases x with
    | none=>rfl
    | some b =>
     dsimp only;split
     .rfl
     .refine bind_congr λ_=>bind_congr λ_=>bind_congr λg=>?_;obtain⟨f,i,j⟩:=g;cases f with
      | some f=>rfl
      | none =>
       dsimp only;split
       .refine bind_congr λ_=>bind_congr λ_=>bind_congr λd=>?_;obtain⟨e,h⟩:=d;cases e<;>rfl
       .refine bind_congr λ_=>bind_congr λd=>?_;obtain⟨e,h⟩:=d;cases e<;>rfl
   .refine bind_congr λ_=>bind_congr λg=>?_;obtain⟨f,i,j⟩:=g;cases f with
    | some f=>rfl
    | none =>
     dsimp only;split
     .refine bind_congr λ_=>bind_congr λ_=>bind_congr λd=>?_;obtain⟨e,h⟩:=d;cases e<;>rfl
     .refine bind_congr λ_=>bind_congr λd=>?_;obtain⟨e,h⟩:=d;cases e<;>rfl
def Down (rk:Xd->Int)(xs:Array Xd)(lo n:Nat):Prop:=∀i j,i<=j->j<n->Rk rk xs (lo+j)<=Rk rk xs (lo+i)
def zpo {st:WQ}{lo a b:Nat}{Q:AscSt->WQ->Prop}(T:Tells prog w A s κ rk a0)(O:Ok κ a0 st)(z:lo+b<=a0.size)(v:1<=a)(g:a<=b)(r:Up rk (Xp st) lo (lo+a))
  (h:∀n,a<=n->n<=b->Up rk (Xp st) lo (lo+n)->(n=b\/Rk rk (Xp st) (lo+n)<Rk rk (Xp st) (lo+n-1))->Q (none,n) st):wpS (Xn prog w) A E s (up1 lo a b) Q st:=by
 unfold up1;refine V5 (I:=λx c f=>f=st/\c=(none,x)/\Up rk (Xp st) lo (lo+x)) ?step ?fin ⟨rfl,rfl,r⟩
 case fin =>
  rintro c f ⟨rfl,rfl,e⟩
  rw[show max a b=b by lia]at e ⊢
  exact h b g (XU _) e (.inl rfl)
 case step =>
  rintro x c f l u ⟨rfl,rfl,e⟩
  dsimp only
  refine XE (zc5 T O (by lia) (by lia) ?_)
  by_cases d:Rk rk (Xp f) (lo+x)<Rk rk (Xp f) (lo+x-1)
  .simp only[d,decide_true,if_true];exact Xr (h x l (by lia) e (.inr d))
  .simp only[d,decide_false,WD,if_false];refine Xr ⟨rfl,rfl,λi j q o y=>?_⟩;by_cases p:j<lo+x
   .exact e i j q o p
   .obtain rfl:j=lo+x:=by lia
    by_cases m:i=lo+x
    .subst m;exact Va _
    .exact VI (e i (lo+x-1) q (by lia) (by lia)) (Oo.mp d)
def zmh {d st:WQ}{lo n a:Nat}{Q:Option Nat->WQ->Prop}(T:Tells prog w A s κ rk a0)(S:Step κ a0 lo d st)(q:lo+a<=a0.size)(h1:1<=n)(f:n<=a)(r:Down rk (Xp st) lo n)
  (h:∀m b,Step κ a0 lo d b->1<=m->m<=a->Up rk (Xp b) lo (lo+m)->Q (some m) b):wpS (Xn prog w) A E s (zmg lo n a) Q st:=by
 unfold zmg;refine XE (zjm ?_);have l:=S.mirror (i:=lo) (j:=lo+n) (XU _) (by lia);refine XE (zpo T l.ok q h1 f ?_ λm p e g _=>Xr (h m _ l (by lia) e g));intro i j u o v;have c:lo+n<=(Xp st).size:=by
  rw[S.ok.size];lia
 show Rk rk (mirror (Xp st) lo (lo+n) ((lo+n-lo)/2)) i<=Rk rk (mirror (Xp st) lo (lo+n) ((lo+n-lo)/2)) j;rw[zbA c,zbA c,bw (by lia),bw (by lia)];have:=r (lo+n-1-j) (lo+n-1-i) (by lia) (by lia);rw[show lo+(lo+n-1-j)=lo+(lo+n)-1-j by lia,show lo+(lo+n-1-i)=lo+(lo+n)-1-i by lia]at this;exact this
def zon {v st:WQ}{lo n b:Nat}{Q:DescSt->WQ->Prop}(T:Tells prog w A s κ rk a0)(S:Step κ a0 lo v st)(U:lo+b<=a0.size)(h1:1<=n)(H:n<=b)(N:Down rk (Xp st) lo n)
  (h:∀m q a,Step κ a0 lo v a->n<=m->m<=b->Down rk (Xp a) lo m->q+1<=m->(∀i,m-(q+1)<=i->i<m->Rk rk (Xp a) (lo+i)=Rk rk (Xp a) (lo+(m-1)))->Q (none,m,q) a):wpS (Xn prog w) A E s (zjn lo n b) Q st:=by
 unfold zjn;refine V5 (I:=λx c a=>∃q,c=(none,x,q)/\Step κ a0 lo v a/\Down rk (Xp a) lo x/\q+1<=x /\
   (∀i,x-(q+1)<=i->i<x->Rk rk (Xp a) (lo+i)=Rk rk (Xp a) (lo+(x-1)))) ?step ?fin (dO 0 rfl S N (by lia) (λi h1 h2=>by congr 1;lia))
 case fin =>
  refine λc a=>fU λq z0 l d B he=>?_;subst z0
  rw[show max n b=b by lia]at d B he ⊢
  exact h b q a l H (XU _) d B he
 case step =>
  refine λx c a D O=>fU λq z0 l d B he=>?_;subst z0
  dsimp only
  have J:lo+x<=(Xp a).size:=by
   rw[l.ok.size];lia
  refine XE (zc5 T l.ok (by lia) (by lia) ?_)
  by_cases e:Rk rk (Xp a) (lo+x)<Rk rk (Xp a) (lo+x-1)
  .simp only[e,decide_true,if_true];have g:∀L:Array Xd,(∀k,Rk rk L k=Rk rk (Xp a) k)->Down rk L lo (x+1):=by
    intro L hk i j r M;rw[hk,hk];by_cases u:j<x
    .exact d i j r u
    .obtain rfl:j=x:=by lia
     by_cases p:i=j
     .subst p;exact Va _
     .have y:=d i (j-1) (by lia) (by lia);rw[show lo+(j-1)=lo+j-1 by lia]at y;exact VI (V4 e) y
   by_cases z:q>0
   .rw[bw z];refine XE (zjm (Xr (dO 0 rfl (l.mirror (by lia) (by lia)) (g _ (jU J λk Y k2=>?_)) (by lia) (λi h1 h2=>by congr 1;lia))));have y:=he (k-lo) (by lia) (by lia);rw[show lo+(k-lo)=k by lia,show lo+(x-1)=lo+x-1 by lia]at y;exact y
   .rw[bq z];exact Xr (dO 0 rfl l (g _ (λ_=>rfl)) (by lia) (λi h1 h2=>by congr 1;lia))
  .simp only[e,decide_false,WD,if_false];refine XE (zc5 T l.ok (by lia) (by lia) ?_);by_cases f:Rk rk (Xp a) (lo+x-1)<Rk rk (Xp a) (lo+x)
   .simp only[f,decide_true,if_true];exact Xr (h x q a l D (by lia) d B he)
   .simp only[f,decide_false,WD,if_false];have o:Rk rk (Xp a) (lo+x)=Rk rk (Xp a) (lo+(x-1)):=by
     rw[show lo+(x-1)=lo+x-1 by lia];lia
    refine Xr (dO (q+1) rfl l (λi j r M=>?_) (by lia) (λi h1 h2=>?_))
    .by_cases u:j<x
     .exact d i j r u
     .obtain rfl:j=x:=by lia
      by_cases p:i=j
      .subst p;exact Va _
      .rw[o];exact d i (j-1) (by lia) (by lia)
    .rw[show x+1-1=x by lia];by_cases G:i=x
     .subst G;rfl
     .rw[o];exact he i (by lia) (by lia)
def zjo {g st:WQ}{lo n b:Nat}{Q:Option Nat->WQ->Prop}(T:Tells prog w A s κ rk a0)(S:Step κ a0 lo g st)(p:lo+b<=a0.size)(r:n+1<=b)(y:Down rk (Xp st) lo (n+1))
  (h:∀m a,Step κ a0 lo g a->1<=m->m<=b->Up rk (Xp a) lo (lo+m)->Q (some m) a):wpS (Xn prog w) A E s (part2 lo n b) Q st:=by
 unfold part2;refine XE (Rl (U4 ⟨rfl,?_⟩));refine XE (zon T S p (by lia) r y λm q a l x c e z he=>?_);dsimp only;have f:lo+m<=(Xp a).size:=by
  rw[l.ok.size];lia
 by_cases d:q>0
 .rw[bw d];refine XE (zjm (zmh T (l.mirror (by lia) (by lia)) p (by lia) c ?_ h));intro i j o v;show Rk rk (mirror (Xp a) _ _ _) (lo+j)<=Rk rk (mirror (Xp a) _ _ _) (lo+i);have same:∀k,lo+m-(q+1)<=k->k<lo+m->Rk rk (Xp a) k=Rk rk (Xp a) (lo+m-1):=λk B D=>by
   have u:=he (k-lo) (by lia) (by lia);rw[show lo+(k-lo)=k by lia,show lo+(m-1)=lo+m-1 by lia]at u;exact u
  rw[jU f same,jU f same];exact e i j o v
 .rw[bq d];exact zmh T l p (by lia) c e h
def zrO {st:WQ}{lo b:Nat}{Q:Option Nat->WQ->Prop}(T:Tells prog w A s κ rk a0)(O:Ok κ a0 st)(v:lo+b<=a0.size)(h1:1<=b)
  (h:∀m l,Step κ a0 lo st l->1<=m->m<=b->Up rk (Xp l) lo (lo+m)->Q (some m) l):wpS (Xn prog w) A E s (countRun' lo b) Q st:=by
 have S:=Step.refl (lo:=lo) O;rw[run_eq];refine XE (zpo T O v (XU 1) h1 (λi j I p y=>by
  obtain rfl:i=j:=by lia
  exact Va _) λn q r d x=>?_)
 dsimp only;by_cases g:n=b
 .rw[bw (by simpa using g)];exact Xr (h n st S q r d)
 .rw[bq (by simpa using g)];have f:Rk rk (Xp st) (lo+n)<Rk rk (Xp st) (lo+n-1):=x.resolve_left g;have u:lo+n<=(Xp st).size:=by
   rw[O.size];lia
  by_cases o:n>1
  .rw[bw o];refine XE (zc5 T O (by lia) (by lia) ?_);by_cases c:Rk rk (Xp st) lo<Rk rk (Xp st) (lo+n-1)
   .simp only[c,decide_true,if_true];exact Xr (h n st S q r d)
   .simp only[c,decide_false,WD,if_false];have a:∀k,lo<=k->k<lo+n->Rk rk (Xp st) k=Rk rk (Xp st) (lo+n-1):=by
     intro k z D;have G:=d lo k (XU _) z D;have H:=d k (lo+n-1) z (by lia) (by lia);lia
    refine XE (zjm (zjo T (S.mirror (XU _) (by lia)) v (by lia) ?_ h));intro i j p y;show Rk rk (mirror (Xp st) _ _ _) (lo+j)<=Rk rk (mirror (Xp st) _ _ _) (lo+i);rw[jU u a,jU u a];by_cases B:j<n
    .rw[a (lo+i) (by lia) (by lia),a (lo+j) (by lia) (by lia)];exact Va _
    .obtain rfl:j=n:=by lia
     by_cases e:i=j
     .subst e;exact Va _
     .rw[a (lo+i) (by lia) (by lia)];exact V4 f
  .rw[bq o];obtain rfl:n=1:=by lia
   refine zjo T S v (by lia) ?_ h;intro i j p y;by_cases e:i=j
   .subst e;exact Va _
   .obtain rfl:i=0:=by lia
    obtain rfl:j=1:=by lia
    rw[Tc]at f;exact V4 f
def zeF {xs:Array Xd}{a d:Nat}(c:a<xs.size)(b:d<=a)(k:Nat):Rk rk (bubble xs a d) k=if k=a-d then Rk rk xs a else if a-d<k/\k<=a then Rk rk xs (k-1) else Rk rk xs k:=by
 have e:=getElem?_bubble c d b k;by_cases h1:k=a-d
 .rw[bw h1]at e ⊢;exact JV e
 .rw[bq h1]at e ⊢;by_cases h2:a-d<k/\k<=a
  .rw[bw h2]at e ⊢;exact JV e
  .rw[bq h2]at e ⊢;exact JV e
def zrP {st:WQ}{lo n ok:Nat}{Q:Bool->WQ->Prop}(T:Tells prog w A s κ rk a0)(O:Ok κ a0 st)(hn:lo+n<=a0.size)(ab:ok<=n)(hs:Up rk (Xp st) lo (lo+ok))
  (h:∀e,Step κ a0 lo st e->Up rk (Xp e) lo (lo+n)->Q true e):wpS (Xn prog w) A E s (binarySort' lo n ok) Q st:=by
 rw[binarySort'_eq];refine XE (UA (V5 (I:=λk c e=>c=(none,())/\Step κ a0 lo st e/\Up rk (Xp e) lo (lo+min k n))
  (Q:=λc e=>c=(none,())/\Step κ a0 lo st e/\Up rk (Xp e) lo (lo+n)) ?step ?fin ?init) ?post)
 case post =>
  rintro c e ⟨rfl,p,g⟩
  exact Xr (h e p g)
 case init =>
  refine⟨rfl,Step.refl O,λi j z D U=>?_⟩
  by_cases h1:ok=0
  .obtain rfl:i=j:=by lia
   exact Va _
  .exact hs i j z D (by lia)
 case fin =>
  rintro c e ⟨N,p,g⟩
  refine⟨N,p,?_⟩
  rwa [show min (max (max ok 1) n) n=n by lia]at g
 case step =>
  rintro k c e M Y ⟨rfl,p,g⟩
  rw[show min k n=k by lia]at g
  have v:=p.ok
  have hk:lo+k<a0.size:=by lia
  refine XE (UA (V5 (I:=λx c d=>d=e/\∃l r,c=(none,l,r)/\l<=r/\r<=k/\r-l<=k-x /\
    (∀i,i<l->Rk rk (Xp e) (lo+i)<=Rk rk (Xp e) (lo+k))/\(∀i,r<=i->i<k->Rk rk (Xp e) (lo+k)<Rk rk (Xp e) (lo+i)))
   (Q:=λc d=>d=e/\∃l r,c=(none,l,r)/\l<=k /\
    (∀i,i<l->Rk rk (Xp e) (lo+i)<=Rk rk (Xp e) (lo+k))/\(∀i,l<=i->i<k->Rk rk (Xp e) (lo+k)<Rk rk (Xp e) (lo+i))) ?istep ?ifin ?iinit) ?ipost)
  case iinit=>exact⟨rfl,(eK 0 k rfl (by lia) (by lia) (by lia) (λi z=>by lia) (λi h1 h2=>by lia))⟩
  case ifin =>
   refine λc d=>fR λz0=>fV λl r z1 G u hm o m=>?_;subst z0 z1
   obtain rfl:l=r:=by lia
   exact⟨rfl,(dY l l rfl u o m)⟩
  case istep =>
   refine λx c d _ ac=>fR λz0=>fV λl r z1 G u hm o m=>?_;subst z0 z1
   dsimp only
   by_cases y:l >= r
   .rw[bw y];obtain rfl:l=r:=by lia
    exact Xr ⟨rfl,(dY l l rfl u o m)⟩
   .rw[bq y];refine XE (zc5 T v hk (by lia) ?_);by_cases f:Rk rk (Xp d) (lo+k)<Rk rk (Xp d) (lo+(l+r)/2)
    .simp only[f,decide_true,if_true];refine Xr ⟨rfl,(eK l ((l+r)/2) rfl (by lia) (by lia) (by lia) o (λi h1 h2=>?_))⟩;exact Int.lt_of_lt_of_le f (g _ _ (by lia) (by lia) (by lia))
    .simp only[f,decide_false,WD,if_false];refine Xr ⟨rfl,(eK ((l+r)/2+1) r rfl (by lia) (by lia) (by lia) (λi h1=>?_) m)⟩;exact VI (g (lo+i) (lo+(l+r)/2) (by lia) (by lia) (by lia)) (Oo.mp f)
  case ipost =>
   refine λc d=>fR λz0=>fm λl r z1 aa o m=>?_;subst z0 z1
   show wpS _ _ _ _ (do moveDown' (lo+k) (lo+l);pure (V3 (none,()))) _ _
   rw[moveDown'_eq]
   have q:lo+k<(Xp d).size:=by
    rw[v.size];exact hk
   refine XE (Ti (Xr ⟨rfl,⟨⟨(bubble_perm _ _ _).trans v.perm,v.kind,v.good⟩,p.pend,λi z=>?_⟩,?_⟩))
   .show (bubble (Xp d) (lo+k) (lo+k-(lo+l)))[i]?=_;rw[getElem?_bubble q _ (by lia),bq (by lia),bq (by lia)];exact p.low i z
   .rw[show min (k+1) n=k+1 by lia];intro i j z D U;show Rk rk (bubble (Xp d) (lo+k) (lo+k-(lo+l))) i<=Rk rk (bubble (Xp d) (lo+k) (lo+k-(lo+l))) j;rw[zeF q (by lia),zeF q (by lia),show lo+k-(lo+k-(lo+l))=lo+l by lia];have up:∀a b,lo<=a->a<=b->b<lo+k->Rk rk (Xp d) a<=Rk rk (Xp d) b:=g;have H:∀a,lo<=a->a<lo+l->Rk rk (Xp d) a<=Rk rk (Xp d) (lo+k):=λa J L=>by
     have:=o (a-lo) (by lia);rwa [show lo+(a-lo)=a by lia]at this
    have B:∀a,lo+l<=a->a<lo+k->Rk rk (Xp d) (lo+k)<Rk rk (Xp d) a:=λa J L=>by
     have:=m (a-lo) (by lia) (by lia);rwa [show lo+(a-lo)=a by lia]at this
    repeat' split
    all_goals first
     | (exfalso;lia)
     | exact Va _
     | exact H _ (by lia) (by lia)
     | exact V4 (B _ (by lia) (by lia))
     | exact up _ _ (by lia) (by lia) (by lia)
def gallop':Bool->Xd->Array Xd->Nat->Nat->Nat->StateT WQ Sem (Option Nat):=sortPriv% PySem.Builtin.gallop
def mergeLo':Array Xd->Array Xd->StateT WQ Sem (Array Xd):=sortPriv% PySem.Builtin.mergeLo
def mergeHi':Array Xd->Array Xd->StateT WQ Sem (Array Xd):=sortPriv% PySem.Builtin.mergeHi
def bey (rk:Xd->Int)(left:Bool)(a x:Xd):Bool:=if left then decide (rk x<rk a) else !decide (rk a<rk x)
def zgO {st:WQ}{left:Bool}{z:Xd}{J:Array Xd}{base n hint:Nat}{Q:Option Nat->WQ->Prop}(T:Tells prog w A s κ rk a0)(hk:kindOf st=κ)(D:z∈a0.toList)(b:Nat->Bool)
  (he:∀i,i<n->∃x,J[base+i]?=some x/\x∈a0.toList/\b i=bey rk left z x) (mono:∀i j,i<=j->j<n->b j=true->b i=true) (hh:hint<n)
  (h:∀k,k<=n->(∀i,i<k->b i=true)->(∀i,k<=i->i<n->b i=false)->Q (some k) st):wpS (Xn prog w) A E s (gallop' left z J base n hint) Q st:=by
 have one:∀{i:Nat} {O:Option Bool->WQ->Prop},i<n->O (some (b i)) st->wpS (Xn prog w) A E s (do
   let x <- elem' J (base+i)
   if left=true then lt' x z
    else do
     let r <- lt' z x
     pure (Option.map (λx=>!x) r)) O st:=by
  intro i O y G;obtain⟨x,e1,Y,L⟩:=he i y;refine XE (qP e1 ?_);unfold bey at L;cases left with
  | true =>
   rw[bw rfl]at L ⊢;rw[L]at G;exact zmf T hk Y D G
  | false =>
   rw[bq XS]at L ⊢;rw[L]at G;exact XE (zmf T hk D Y (Xr G))
 have H:∀{f:Nat->Option (Option Nat)×AA->StateT WQ Sem (ForInStep (Option (Option Nat)×AA))} {g:Option (Option Nat)×AA->StateT WQ Sem (Option Nat)},
   (∀x l r (R:ForInStep (Option (Option Nat)×AA)->WQ->Prop),l >= r->R (.done (none,l,r)) st->wpS (Xn prog w) A E s (f x (none,l,r)) R st) ->
   (∀x l r (R:ForInStep (Option (Option Nat)×AA)->WQ->Prop),l<r->r<=n->R (.yield (if b (l+(r-l)/2)=true then (none,l+(r-l)/2+1,r) else (none,l,l+(r-l)/2))) st->wpS (Xn prog w) A E s (f x (none,l,r)) R st) ->
   (∀l r,Q (some r) st->wpS (Xn prog w) A E s (g (none,l,r)) Q st) ->
   ∀(lo y:Nat),lo<=y->y<=n->(∀i,i<lo->b i=true)->(∀i,y<=i->i<n->b i=false)->wpS (Xn prog w) A E s (forIn [:n] ((none,lo,y):Option (Option Nat)×AA) f >>= g) Q st:=by
  intro f g f1 f2 g1 lo y h1 h2 h3 h4;refine XE (UA (V5 (I:=λx c a=>a=st/\∃l r,c=(none,l,r)/\l<=r/\r<=n/\r-l<=n-x/\(∀i,i<l->b i=true)/\(∀i,r<=i->i<n->b i=false))
   (Q:=λc a=>a=st/\∃l,c=(none,l,l)/\l<=n/\(∀i,i<l->b i=true)/\(∀i,l<=i->i<n->b i=false)) ?step ?fin ⟨rfl,(eK lo y rfl h1 h2 (by lia) h3 h4)⟩) ?post)
  case fin =>
   refine λc a=>fR λz0=>fV λl r z1 q e p m B=>?_;subst z0 z1
   obtain rfl:l=r:=by lia
   exact⟨rfl,l,rfl,e,m,B⟩
  case post =>
   rintro c a ⟨rfl,l,rfl,e,m,B⟩
   exact g1 l l (h l e m B)
  case step =>
   refine λx c a _ hx=>fR λz0=>fV λl r z1 q e p m B=>?_;subst z0 z1
   by_cases d:l >= r
   .obtain rfl:l=r:=by lia
    exact f1 x l l _ d ⟨rfl,l,rfl,e,m,B⟩
   .refine f2 x l r _ (by lia) e ?_;cases hb:b (l+(r-l)/2) with
    | true =>
     rw[bw rfl];exact⟨rfl,(eK (l+(r-l)/2+1) r rfl (by lia) e (by lia) (λi y=>mono i _ (by lia) (by lia) hb) B)⟩
    | false =>
     rw[bq XS];refine⟨rfl,(eK l (l+(r-l)/2) rfl (by lia) (by lia) (by lia) m (λi N M=>?_))⟩;cases v:b i with
     | false=>rfl
     | true =>
      have:=mono _ i N M v;rw[hb]at this;cases this
 refine XE (one hh ?_);dsimp only;cases hb:b hint with
 | true =>
  rw[bw rfl];refine XE (UA (V5 (I:=λx c a=>a=st/\∃l o,c=(none,l,o)/\l<o/\hint+l<n/\b (hint+l)=true/\x+1<=o)
   (Q:=λc a=>a=st/\∃l o,c=(none,l,o)/\l<o/\hint+l<n/\b (hint+l)=true/\(o >= n-hint\/(hint+o<n/\b (hint+o)=false))) ?step ?fin ⟨rfl,0,1,rfl,by lia,hh,hb,by lia⟩) ?post)
  case fin =>
   refine λc a=>gj λz0 l o z1 q e p m=>?_;subst z0 z1
   exact⟨rfl,(dU l o rfl q e p (.inl (by lia)))⟩
  case step =>
   refine λx c a _ hx=>gj λz0 l o z1 q e p m=>?_;subst z0 z1
   dsimp only
   by_cases d:o >= n-hint
   .rw[bw d];exact Xr ⟨rfl,(dU l o rfl q e p (.inl d))⟩
   .rw[bq d];refine XE (one (by lia) ?_);dsimp only;cases hbo:b (hint+o) with
    | false =>
     rw[bw (by decide)];exact Xr ⟨rfl,(dU l o rfl q e p (.inr ⟨by lia,hbo⟩))⟩
    | true =>
     rw[bq (by decide)];exact Xr ⟨rfl,o,2*o+1,rfl,by lia,by lia,hbo,by lia⟩
  case post =>
   refine λc a=>gj λz0 l o z1 q e p m=>?_;subst z0 z1
   refine H (λx l r R d u=>?_) (λx l r R U hr u=>?_) (λl r G=>Xr G) (hint+l+1) (hint+min o (n-hint)) (by lia) (by lia) (λi y=>mono i (hint+l) (by lia) e p) λi N M=>?_
   .dsimp only;rw[bw d];exact Xr u
   .dsimp only;rw[bq (by lia)];refine XE (one (by lia) ?_);dsimp only;cases hbm:b (l+(r-l)/2) with
    | true =>
     rw[hbm,bw rfl]at u;rw[bw rfl];exact Xr u
    | false =>
     rw[hbm,bq XS]at u;rw[bq XS];exact Xr u
   .rcases m with m | ⟨m,B⟩
    .lia
    .cases v:b i with
     | false=>rfl
     | true =>
      have:=mono _ i (show hint+o<=i by lia) M v;rw[B]at this;cases this
 | false =>
  rw[bq XS];refine XE (UA (V5 (I:=λx c a=>a=st/\∃l o,c=(none,l,o)/\l<o/\l<=hint/\b (hint-l)=false/\x+1<=o)
   (Q:=λc a=>a=st/\∃l o,c=(none,l,o)/\l<o/\l<=hint/\b (hint-l)=false/\(o >= hint+1\/(o<=hint/\b (hint-o)=true))) ?step ?fin ⟨rfl,0,1,rfl,by lia,by lia,hb,by lia⟩) ?post)
  case fin =>
   refine λc a=>gj λz0 l o z1 q e p m=>?_;subst z0 z1
   exact⟨rfl,(dU l o rfl q e p (.inl (by lia)))⟩
  case step =>
   refine λx c a _ hx=>gj λz0 l o z1 q e p m=>?_;subst z0 z1
   dsimp only
   by_cases d:o >= hint+1
   .rw[bw d];exact Xr ⟨rfl,(dU l o rfl q e p (.inl d))⟩
   .rw[bq d];refine XE (one (by lia) ?_);dsimp only;cases hbo:b (hint-o) with
    | true =>
     rw[bw rfl];exact Xr ⟨rfl,(dU l o rfl q e p (.inr ⟨by lia,hbo⟩))⟩
    | false =>
     rw[bq (by decide)];exact Xr ⟨rfl,o,2*o+1,rfl,by lia,by lia,hbo,by lia⟩
  case post =>
   refine λc a=>gj λz0 l o z1 q e p m=>?_;subst z0 z1
   refine H (λx l r R d u=>?_) (λx l r R U hr u=>?_) (λl r G=>Xr G) (hint+1-min o (hint+1)) (hint-l) (by lia) (by lia) (λi y=>?_) λi N M=>?_
   .dsimp only;rw[bw d];exact Xr u
   .dsimp only;rw[bq (by lia)];refine XE (one (by lia) ?_);dsimp only;cases hbm:b (l+(r-l)/2) with
    | true =>
     rw[hbm,bw rfl]at u;rw[bw rfl];exact Xr u
    | false =>
     rw[hbm,bq XS]at u;rw[bq XS];exact Xr u
   .rcases m with m | ⟨m,B⟩
    .lia
    .exact mono i (hint-o) (by lia) (by lia) B
   .cases v:b i with
    | false=>rfl
    | true =>
     have:=mono _ i N M v;rw[p]at this;cases this
end
structure MI (rk:Xd->Int)(aL bL:List Xd)(ia ib:Nat)(oL:List Xd):Prop where
 perm:oL.Perm (aL.take ia++bL.take ib)
 srt:oL.Pairwise λx y=>rk x<=rk y
 la:∀x∈oL,∀y∈aL.drop ia,rk x<=rk y
 lb:∀x∈oL,∀y∈bL.drop ib,rk x<=rk y
section
variable {rk:Xd->Int}{aL bL oL:List Xd}{ia ib:Nat}
def MI.swap (M:MI rk aL bL ia ib oL):MI rk bL aL ib ia oL:=⟨M.perm.trans T8,M.srt,M.lb,M.la⟩
def zkG (l:List Xd)(i k:Nat):l.take (i+k)=l.take i++(l.drop i).take k:=by
 rw[List.take_add]
def MI.takeA (M:MI rk aL bL ia ib oL)(sa:aL.Pairwise λx y=>rk x<=rk y)(k:Nat)(h:∀x∈(aL.drop ia).take k,∀y∈bL.drop ib,rk x<=rk y):MI rk aL bL (ia+k) ib (oL++(aL.drop ia).take k):=by
 have b:(aL.drop ia).Pairwise λx y=>rk x<=rk y:=sa.sublist (Ry _ _);have c:(aL.drop ia).drop k=aL.drop (ia+k):=Pb;refine⟨?_,?_,λx hx y a=>?_,λx hx y a=>?_⟩
 .rw[zkG,W2];refine(M.perm.append_right _).trans ?_;rw[W2];exact SA _ T8
 .rw[TN];exact⟨M.srt,b.sublist (T4 _ _),λx hx y a=>M.la x hx y (V9 a)⟩
 .rw[<- c]at a;rcases XO.mp hx with hx | hx
  .exact M.la x hx y (O4 a)
  .have:=b;rw[<- W7 k (aL.drop ia),TN]at this;exact this.2.2 x hx y a
 .rcases XO.mp hx with hx | hx
  .exact M.lb x hx y a
  .exact h x hx y a
def MI.takeB (M:MI rk aL bL ia ib oL)(a:bL.Pairwise λx y=>rk x<=rk y)(k:Nat)(h:∀x∈(bL.drop ib).take k,∀y∈aL.drop ia,rk x<=rk y):MI rk aL bL ia (ib+k) (oL++(bL.drop ib).take k):=(M.swap.takeA a k h).swap
def Mg (rk:Xd->Int)(aL bL oL:List Xd):Prop:=oL.Perm (aL++bL)/\oL.Pairwise λx y=>rk x<=rk y
def MI.all (M:MI rk aL bL ia ib oL)(a:aL.length<=ia)(b:bL.length<=ib):Mg rk aL bL oL:=by
 have:=M.perm;rw[WR a,WR b]at this;exact⟨this,M.srt⟩
def MI.doneB (M:MI rk aL bL ia ib oL)(sa:aL.Pairwise λx y=>rk x<=rk y)(a:bL.length<=ib):Mg rk aL bL (oL++aL.drop ia):=by
 have:=M.takeA sa (aL.drop ia).length (λx _ y b=>by
  rw[SG a]at b;cases b)
 rw[XJ]at this;exact this.all (by rw[VP];lia) a
def MI.lastA (M:MI rk aL bL ia ib oL)(sa:aL.Pairwise λx y=>rk x<=rk y)(c:bL.Pairwise λx y=>rk x<=rk y)(h:∀x∈bL,∀y∈aL.drop ia,rk x<=rk y):Mg rk aL bL (oL++bL.drop ib++aL.drop ia):=by
 have M2:=M.takeB c (bL.drop ib).length (λx a y b=>h x (O4 (V9 a)) y b);rw[XJ]at M2;exact M2.doneB sa (by rw[VP];lia)
def ext_toList (a:Array Xd)(i j:Nat)(b:i<=j):(a.extract i j).toList=(a.toList.drop i).take (j-i):=by
 rw[O3,RI]
def zaZ (a:Array Xd)(i:Nat):(a.extract i a.size).toList=a.toList.drop i:=by
 rw[O3,RI,WR];rw[VP,X5];exact XU _
def zmi {a:Array Xd}{i:Nat}{x:Xd}(h:a[i]?=some x):(a.toList.drop i).take 1=[x]:=by
 have b:i<a.toList.length:=by
  rw[X5];exact(Vw.mp h).1
 rw[WI b,UC,Pa];have:a.toList[i]?=some x:=by rw[Xy];exact h
 rw[XZ b]at this;rw[Option.some.inj this]
end
section
variable {prog:Xm}{w:W3}{A:WN}{E:X9->X7->Prop}{s:X7}{rk:Xd->Int}{κ:TX}{a0:Array Xd}
structure Kept (st st':WQ):Prop where
 arr:Xp st'=Xp st
 kind:kindOf st'=kindOf st
 pend:WP st'=WP st
 bad:SU st'=SU st
def setG':Nat->StateT WQ Sem Unit:=sortPriv% PySem.Builtin.setMinGallop
def Kept.refl (st:WQ):Kept st st:=⟨rfl,rfl,rfl,rfl⟩
def zfA {b st:WQ}{g:Nat}{Q:Unit->WQ->Prop}(k:Kept b st)(h:∀a,Kept b a->Q () a):wpS (Xn prog w) A E s (setG' g) Q st:=by
 have e:setG' g=modify λc=>SortSt.mk' (kindOf c) (Xp c) (WP c) g (SU c):=rfl;rw[e];exact Ti (h _ ⟨k.arr,k.kind,k.pend,k.bad⟩)
def qp {α:Type}{c:Prop} [Decidable c]{x y:StateT WQ Sem α}{Q:α->WQ->Prop}{st:WQ}(h1:c->wpS (Xn prog w) A E s x Q st)(h2:¬ c->wpS (Xn prog w) A E s y Q st):wpS (Xn prog w) A E s (if c then x else y) Q st:=by
 by_cases a:c
 .rw[bw a];exact h1 a
 .rw[bq a];exact h2 a
def jc {a:Array Xd}{i:Nat}(h:i<a.size):∃x,a[i]?=some x/\x∈a.toList:=⟨a[i],getElem?_pos a i h,by simp⟩
def Zh {a:Array Xd}(sa:a.toList.Pairwise λx y=>rk x<=rk y){i:Nat}{x:Xd}(e:a[i]?=some x):∀y∈a.toList.drop i,rk x<=rk y:=by
 have b:i<a.toList.length:=by
  rw[X5];exact(Vw.mp e).1
 have c:a.toList[i]?=some x:=by rw[Xy];exact e
 rw[XZ b]at c;have d:=Option.some.inj c;have f:=sa.sublist (Ry i a.toList);rw[WI b,d,RO]at f;rw[WI b,d];intro y hy;rcases XH.mp hy with rfl | hy
 .exact Va _
 .exact f.1 y hy
def Qf {a b c:Array Xd}{f d:Nat}(M:MI rk a.toList b.toList f d c.toList)(sa:a.toList.Pairwise λx y=>rk x<=rk y)(e:b.size<=d):Mg rk a.toList b.toList (c++a.extract f a.size++b.extract d b.size).toList:=by
 rw[WM,WM,zaZ,zaZ,SG (as:=b.toList) (by rw[X5];exact e),Xf];exact M.doneB sa (by rw[X5];exact e)
def Qg {a b d:Array Xd}{c g:Nat}(M:MI rk a.toList b.toList c g d.toList)(sa:a.toList.Pairwise λx y=>rk x<=rk y)(l:b.toList.Pairwise λx y=>rk x<=rk y)(i:∀x∈b.toList,∀y,a[a.size-1]?=some y->rk x<=rk y)(m:c+1=a.size):Mg rk a.toList b.toList (d++b.extract g b.size++a.extract c a.size).toList:=by
 rw[WM,WM,zaZ,zaZ];refine M.lastA sa l λx j y f=>?_;have e:c<a.toList.length:=by rw[X5];lia
 rw[WI e,SG (by rw[X5];lia)]at f;have h:y=a.toList[c]:=by simpa using f
 refine i x j y ?_;rw[show a.size-1=c by lia,<- Xy,XZ e,h]
def zkH (a:Array Xd)(x:Xd):(a.push x).toList=a.toList++[x]:=SJ ..
def MI.oneB {a b c:Array Xd}{d f:Nat}{x:Xd}(M:MI rk a.toList b.toList d f c.toList)(l:b.toList.Pairwise λx y=>rk x<=rk y)(e:b[f]?=some x)(h:∀y∈a.toList.drop d,rk x<=rk y):MI rk a.toList b.toList d (f+1) (c.push x).toList:=by
 rw[zkH,<- zmi e];refine M.takeB l 1 λz g y j=>?_;rw[zmi e]at g;have i:z=x:=by simpa using g
 rw[i];exact h y j
def MI.oneA {a b c:Array Xd}{d f:Nat}{x:Xd}(M:MI rk a.toList b.toList d f c.toList)(sa:a.toList.Pairwise λx y=>rk x<=rk y)(e:a[d]?=some x)(h:∀y∈b.toList.drop f,rk x<=rk y):MI rk a.toList b.toList (d+1) f (c.push x).toList:=(MI.oneB M.swap sa e h).swap
def MI.someA {a b f:Array Xd}{c g k:Nat}{y:Xd}(M:MI rk a.toList b.toList c g f.toList)(sa:a.toList.Pairwise λx y=>rk x<=rk y)(o:b.toList.Pairwise λx y=>rk x<=rk y)(e:b[g]?=some y)(h:∀i x,i<k->a[c+i]?=some x->rk x<=rk y):MI rk a.toList b.toList (c+k) g (f++a.extract c (c+k)).toList:=by
 rw[WM,ext_toList _ _ _ (U8 _ _),Qb];refine M.takeA sa k λx m z n=>VI ?_ (Zh o e z n);obtain⟨i,j,l⟩:=Tz m;have d:i<k:=by
  rw[XN]at j;lia
 refine h i x d ?_;have:((a.toList.drop c).take k)[i]?=some x:=by rw[XZ j,l]
 rw[List.getElem?_take,bw d,Tb,Xy]at this;exact this
def MI.someB {a b d:Array Xd}{f c k:Nat}{y:Xd}(M:MI rk a.toList b.toList f c d.toList)(sa:a.toList.Pairwise λx y=>rk x<=rk y)(g:b.toList.Pairwise λx y=>rk x<=rk y)(e:a[f]?=some y)(h:∀i x,i<k->b[c+i]?=some x->rk x<=rk y):MI rk a.toList b.toList f (c+k) (d++b.extract c (c+k)).toList:=(MI.someA M.swap g sa e h).swap
def zbB {st:WQ}{b:Xd}{a:Array Xd}{base n hint:Nat}{Q:Option Nat->WQ->Prop}(T:Tells prog w A s κ rk a0)(hk:kindOf st=κ)(c:b∈a0.toList)(z:∀x∈a.toList,x∈a0.toList)(up:∀i j x y,base<=i->i<=j->j<base+n->a[i]?=some x->a[j]?=some y->rk x<=rk y)(B:base+n<=a.size)(r:hint<n)
  (h:∀k,k<=n->(∀i x,i<k->a[base+i]?=some x->rk x<=rk b)->(∀i x,k<=i->i<n->a[base+i]?=some x->rk b<rk x)->Q (some k) st):wpS (Xn prog w) A E s (gallop' false b a base n hint) Q st:=by
 have he:∀i,i<n->∃x,a[base+i]?=some x/\x∈a.toList:=λi f=>jc (by lia);refine zgO T hk c (λi=>match a[base+i]? with | some x=>bey rk false b x | none=>false) (λi f=>?_) (λi j u v d=>?_) r λk o h1 h2=>h k o (λi x f e=>?_) λi x g l e=>?_
 .obtain⟨x,e,m⟩:=he i f;refine⟨x,e,z x m,?_⟩;try dsimp only
  rw[e]
 .obtain⟨x,p,_⟩:=he i (by lia);obtain⟨y,q,_⟩:=he j v;try dsimp only at d ⊢
  rw[q]at d;rw[p];have:=up (base+i) (base+j) x y (by lia) (by lia) (by lia) p q;unfold bey at d ⊢;simp only[WD,if_false,WF,decide_eq_false_iff_not]at d ⊢;lia
 .have:=h1 i f;try dsimp only at this
  rw[e]at this;unfold bey at this;simp only[WD,if_false,WF,decide_eq_false_iff_not]at this;lia
 .have:=h2 i g l;try dsimp only at this
  rw[e]at this;unfold bey at this;simp only[WD,if_false,Bool.not_eq_false',bu]at this;exact this
def zbC {st:WQ}{b:Xd}{a:Array Xd}{base n hint:Nat}{Q:Option Nat->WQ->Prop}(T:Tells prog w A s κ rk a0)(hk:kindOf st=κ)(c:b∈a0.toList)(z:∀x∈a.toList,x∈a0.toList)(up:∀i j x y,base<=i->i<=j->j<base+n->a[i]?=some x->a[j]?=some y->rk x<=rk y)(B:base+n<=a.size)(r:hint<n)
  (h:∀k,k<=n->(∀i x,i<k->a[base+i]?=some x->rk x<rk b)->(∀i x,k<=i->i<n->a[base+i]?=some x->rk b<=rk x)->Q (some k) st):wpS (Xn prog w) A E s (gallop' true b a base n hint) Q st:=by
 have he:∀i,i<n->∃x,a[base+i]?=some x/\x∈a.toList:=λi f=>jc (by lia);refine zgO T hk c (λi=>match a[base+i]? with | some x=>bey rk true b x | none=>false) (λi f=>?_) (λi j u v d=>?_) r λk o h1 h2=>h k o (λi x f e=>?_) λi x g l e=>?_
 .obtain⟨x,e,m⟩:=he i f;refine⟨x,e,z x m,?_⟩;try dsimp only
  rw[e]
 .obtain⟨x,p,_⟩:=he i (by lia);obtain⟨y,q,_⟩:=he j v;try dsimp only at d ⊢
  rw[q]at d;rw[p];have:=up (base+i) (base+j) x y (by lia) (by lia) (by lia) p q;unfold bey at d ⊢;simp only[if_true,bu]at d ⊢;lia
 .have:=h1 i f;try dsimp only at this
  rw[e]at this;unfold bey at this;simp only[if_true,bu]at this;exact this
 .have:=h2 i g l;try dsimp only at this
  rw[e]at this;unfold bey at this;simp only[if_true,decide_eq_false_iff_not]at this;lia
def zjp {a:Array Xd}(sa:a.toList.Pairwise λx y=>rk x<=rk y){i j:Nat}{x y:Xd}(d:i<=j)(c:a[i]?=some x)(b:a[j]?=some y):rk x<=rk y:=by
 refine Zh sa c y ?_;have e:j<a.toList.length:=by
  rw[X5];exact(Vw.mp b).1
 refine X8 (i:=j-i) ?_;rw[Tb,Xy,show i+(j-i)=j by lia];exact b
set_option maxHeartbeats 8000000 in
theorem via {P:Prop}(h:∀G:Prop,(P->G)->G):P:=h P id
structure Key (P:Prop):Prop where
 get:P
def cut {P R:Prop}(k:P)(h:Key P->R):R:=h ⟨k⟩
def zkI {p:WQ}{a b:Array Xd}{Q:Array Xd->WQ->Prop}(T:Tells prog w A s κ rk a0)(hk:kindOf p=κ)(ma:∀x∈a.toList,x∈a0.toList)(mb:∀x∈b.toList,x∈a0.toList)(sa:a.toList.Pairwise λx y=>rk x<=rk y)(O:b.toList.Pairwise λx y=>rk x<=rk y)
  (ha:0<a.size) (hb:0<b.size) (h0:∀x y,b[0]?=some x->y∈a.toList->rk x<=rk y) (av:∀x∈b.toList,∀y,a[a.size-1]?=some y->rk x<rk y)
  (h:∀d l,Kept p l->Mg rk a.toList b.toList d.toList->Q d l):wpS (Xn prog w) A E s (mergeLo' a b) Q p:=by
 have hl:∀x∈b.toList,∀y,a[a.size-1]?=some y->rk x<=rk y:=λx hx y hy=>V4 (av x hx y hy);refine XE (Rl (U4 ⟨rfl,?_⟩));refine fq (λb0 ah _=>?_) (jc hb);refine XE (qP ah ?_);have M0:MI rk a.toList b.toList 0 0 (#[]:Array Xd).toList:=⟨by simp,List.Pairwise.nil,(λx hx=>nomatch hx),(λx hx=>nomatch hx)⟩;have M1:MI rk a.toList b.toList 0 1 (#[b0]:Array Xd).toList:=MI.oneB M0 O ah λy hy=>h0 b0 y ah (by simpa using hy);dsimp -zeta only;refine qp (λhc=>Xr (h _ _ (Kept.refl _) (Qf M1 sa (by rw[show 1=b.size by simpa using hc];exact XU _)))) λhc=>?_;refine qp (λak=>Xr (h _ _ (Kept.refl _) (Qg M1 sa O hl (by simpa using ak)))) λak=>?_;have a4:1<b.size:=by
  have:¬ 1=b.size:=by simpa using hc
  lia
 have az:0+1<a.size:=by
  have:¬ 0+1=a.size:=by simpa using ak
  lia
 refine XE (Sq ?_);refine XE (UA (V5 (I:=λx c l=>∃d f g mg,c=(none,d,f,g,mg)/\MI rk a.toList b.toList f g d.toList/\f+1<a.size/\g<b.size/\x+1<=f+g/\Kept p l)
  (Q:=λc l=>∃m,c.1=some m/\Mg rk a.toList b.toList m.toList/\Kept p l) ?step ?fin ⟨_,(dF 0 1 ⟨_,(dQ rfl M1 az a4 (by lia) (Kept.refl _))⟩)⟩) ?post)
 case fin =>
  refine λc l=>fW λd f g mg z0 M h1 h2 h3 k=>?_;subst z0
  lia
 case post =>
  rintro⟨c1,c2⟩ l ⟨m,e,hM,k⟩
  dsimp only at e ⊢
  subst e
  exact Xr (h _ _ k hM)
 case step =>
  intro x0 c ao _ aC hI
  refine via λG n=>?_
  obtain⟨d,f,g,mg,rfl,M,h1,h2,h3,k1⟩:=hI
  refine n ?_
  clear n
  have a7:kindOf ao=κ:=k1.kind.trans hk
  dsimp -zeta only
  refine XE (UA (V5 (I:=λx c l=>l=ao/\∃d f g D H,c=(none,d,f,g,D,H)/\MI rk a.toList b.toList f g d.toList/\f+1<a.size/\g<b.size/\x0+1+x<=f+g)
   (Q:=λc l=>l=ao/\((∃m,c.1=some m/\Mg rk a.toList b.toList m.toList)\/∃d f g D H,c=(none,d,f,g,D,H)/\MI rk a.toList b.toList f g d.toList/\f+1<a.size/\g<b.size/\x0+2<=f+g)) ?step1 ?fin1 ⟨rfl,(eZ rfl M h1 h2 (by lia))⟩) ?post1)
  case fin1 =>
   refine λc l=>fR λz0=>fY λd f g D H z1 M h1 h2 h3=>?_;subst z0 z1
   exact⟨rfl,.inr (dR d f g D (dO H rfl M h1 h2 (by lia)))⟩
  case step1 =>
   intro x c l _ hx hI
   refine via λG n=>?_
   revert hI;refine fR λz0=>fY λd f g D H z1 M h1 h2 h3=>?_;subst z0 z1
   obtain⟨y,ey,my⟩:=jc h2
   obtain⟨z,r,mz⟩:=jc (a:=a) (i:=f) (by lia)
   refine n ?_
   clear n
   dsimp -zeta only
   refine XE (qP ey (XE (qP r (XE (zmf T a7 (mb y my) (ma z mz) ?_)))))
   dsimp -zeta only
   refine qp (λam=>?_) λam=>?_
   .have aa:rk y<rk z:=bg am;have M2:=MI.oneB M O ey λv hv=>VI (V4 aa) (Zh sa r v hv);refine XE (qP ey ?_);refine qp (λhe=>Xr ⟨rfl,.inl ⟨_,rfl,Qf M2 sa (by rw[show g+1=b.size by simpa using he];exact XU _)⟩⟩) λhe=>?_;have af:g+1<b.size:=by
     have:¬ g+1=b.size:=by simpa using he
     lia
    exact qp (λ_=>Xr ⟨rfl,.inr (eZ rfl M2 h1 af (by lia))⟩) λ_=>Xr ⟨rfl,(eZ rfl M2 h1 af (by lia))⟩
   .have aa:¬ rk y<rk z:=λq=>am (br q);have M2:=MI.oneA M sa r λv hv=>VI (Oo.mp aa) (Zh O ey v hv);refine XE (qP r ?_);refine qp (λhe=>Xr ⟨rfl,.inl ⟨_,rfl,Qg M2 sa O hl (by simpa using he)⟩⟩) λhe=>?_;have Y:f+1+1<a.size:=by
     have:¬ f+1+1=a.size:=by simpa using he
     lia
    exact qp (λ_=>Xr ⟨rfl,.inr (eZ rfl M2 Y h2 (by lia))⟩) λ_=>Xr ⟨rfl,(eZ rfl M2 Y h2 (by lia))⟩
  case post1 =>
   intro c l hI
   refine via λG n=>?_
   rcases hI with ⟨rfl,a5 | ⟨d,f,g,D,H,rfl,M,h1,h2,h3⟩⟩
   all_goals (refine n ?_;clear n)
   .revert a5;refine fq λm e hM=>?_;obtain⟨c1,c2⟩:=c;dsimp only at e ⊢;subst e;exact Xr ⟨m,rfl,hM,k1⟩
   dsimp -zeta only
   refine XE (Rl (U4 ⟨rfl,?_⟩))
   refine XE (UA (V5 (I:=λx c B=>∃d f g mg D H,c=(none,d,f,g,mg,D,H)/\MI rk a.toList b.toList f g d.toList/\f+1<a.size/\g<b.size/\x0+2<=f+g/\Kept p B)
    (Q:=λc B=>(∃m,c.1=some m/\Mg rk a.toList b.toList m.toList/\Kept p B)\/∃d f g mg D H,c=(none,d,f,g,mg,D,H)/\MI rk a.toList b.toList f g d.toList/\f+1<a.size/\g<b.size/\x0+2<=f+g/\Kept p B) ?step2 ?fin2 (eO (dG (dQ rfl M h1 h2 h3 k1)))) ?post2)
   case fin2 =>
    rintro c B hc
    exact .inr hc
   case post2 =>
    rintro c B (⟨m,e,hM,k2⟩ | ⟨d,f,g,mg,D,H,rfl,M,h1,h2,h3,k2⟩)
    .obtain⟨c1,c2⟩:=c;dsimp only at e ⊢;subst e;exact Xr ⟨m,rfl,hM,k2⟩
    .dsimp -zeta only;exact XE (zfA k2 λax k3=>Xr (eO (dQ rfl M h1 h2 (by lia) k3)))
   case step2 =>
    intro x c B _ hx hI
    refine via λG n=>?_
    obtain⟨d,f,g,mg,D,H,rfl,M,h1,h2,h3,k2⟩:=hI
    obtain⟨y,ey,my⟩:=jc h2
    refine n ?_
    clear n
    dsimp -zeta only
    refine' cut ?key1 λo=>qp (λa8=>?a1) λa8=>?b1
    case a1 =>
     generalize mg-1=aw
     revert aw
     exact o.get
    case b1=>exact o.get mg
    intro aw
    dsimp -zeta only
    refine XE (zfA k2 λax k3=>?_)
    have au:kindOf ax=κ:=k3.kind.trans hk
    refine XE (qP ey (XE (zbB T au (mb y my) ma (λi j u v _ al _ eu J=>zjp sa al eu J) (by lia) (by lia) λk aA g1 g2=>?_)))
    dsimp -zeta only
    refine' cut ?key2 λo=>qp (λa6=>?a2) λa6=>?b2
    case a2 =>
     have M2:=MI.someA M sa O ey g1
     refine qp (λhe=>Xr (.inl ⟨_,rfl,Qg M2 sa O hl (by simpa using he),k3⟩)) λhe=>?_
     have aD:¬ f+k+1=a.size:=by simpa using he
     have kl:f+k<a.size:=by
      refine Nat.lt_of_not_le λa9=>?_;obtain⟨v,J,mv⟩:=jc (a:=a) (i:=a.size-1) (by lia);have q1:=g1 (a.size-1-f) v (by lia) (by rw[show f+(a.size-1-f)=a.size-1 by lia];exact J);have q2:=av y my v J;lia
     refine qp (λaq=>absurd (show f+k=a.size by simpa using aq) (by lia)) λaq=>?_
     have ai:f+k+1<a.size:=by lia
     have aj:x0+2<=f+k+g:=by lia
     have ab:∀z,a[f+k]?=some z->rk y<=rk z:=λz r=>V4 (g2 k z (XU _) (by lia) r)
     generalize d++a.extract f (f+k)=ag at M2 ⊢
     generalize f+k=N at M2 ai aj ab ⊢
     revert ab;revert aj;revert ai;revert M2;revert N;revert ag
     exact o.get
    case b2=>exact o.get d f M h1 h3 λz r=>V4 (g2 0 z (by lia) (by lia) (by simpa using r))
    intro ag N M2 ai aj ab
    refine via λG n=>?_
    obtain⟨z,r,mz⟩:=jc (a:=a) (i:=N) (by lia)
    refine n ?_
    clear n
    have M3:=MI.oneB M2 O ey λv hv=>VI (ab z r) (Zh sa r v hv)
    refine XE (qP ey ?_)
    refine qp (λhe=>Xr (.inl ⟨_,rfl,Qf M3 sa (by rw[show g+1=b.size by simpa using he];exact XU _),k3⟩)) λhe=>?_
    have af:g+1<b.size:=by
     have:¬ g+1=b.size:=by simpa using he
     lia
    refine XE (qP r (XE (zbC T au (ma z mz) mb (λi j u v _ al _ eu J=>zjp O al eu J) (by lia) (by lia) λk' aB g3 g4=>?_)))
    dsimp -zeta only
    refine' cut ?key3 λo=>qp (λar=>?a3) λar=>?b3
    case a3 =>
     have M4:=MI.someB M3 sa O r λi u hi eu=>V4 (g3 i u hi eu)
     refine qp (λhe=>Xr (.inl ⟨_,rfl,Qf M4 sa (by rw[show g+1+k'=b.size by simpa using he];exact XU _),k3⟩)) λhe=>?_
     have L:g+1+k'<b.size:=by
      have:¬ g+1+k'=b.size:=by simpa using he
      lia
     have ae:∀v,b[g+1+k']?=some v->rk z<=rk v:=λv J=>g4 k' v (XU _) (by lia) J
     have U:x0+2<=N+(g+1+k'):=by lia
     generalize ag.push y++b.extract (g+1) (g+1+k')=ay at M4 ⊢
     generalize g+1+k'=an at M4 L ae U ⊢
     revert U;revert ae;revert L;revert M4;revert an;revert ay
     exact o.get
    case b3=>exact o.get (ag.push y) (g+1) M3 af (λv J=>g4 0 v (by lia) (by lia) (by simpa using J)) (by lia)
    intro ay an M4 L ae U
    refine via λG n=>?_
    obtain⟨v,J,mv⟩:=jc (a:=b) (i:=an) L
    refine n ?_
    clear n
    have M5:=MI.oneA M4 sa r λu hu=>VI (ae v J) (Zh O J u hu)
    refine XE (qP r ?_)
    refine qp (λhe=>Xr (.inl ⟨_,rfl,Qg M5 sa O hl (by simpa using he),k3⟩)) λhe=>?_
    have Y:N+1+1<a.size:=by
     have:¬ N+1+1=a.size:=by simpa using he
     lia
    exact qp (λ_=>Xr (.inr (eO (dG (dQ rfl M5 Y L (by lia) k3))))) λ_=>Xr (eO (dG (dQ rfl M5 Y L (by lia) k3)))
end
def neg (rk:Xd->Int):Xd->Int:=λx=>- rk x
def zcC {a:Array Xd}{j:Nat}(h:j<a.size):a.reverse[j]?=a[a.size-1-j]?:=by
 rw[PL h]
def Hi (rk:Xd->Int)(a b:Array Xd)(d e:Nat)(c:Array Xd):Prop:=MI (neg rk) a.reverse.toList b.reverse.toList (a.size-d) (b.size-e) c.toList
section
variable {rk:Xd->Int}{a b out:Array Xd}{na nb:Nat}
def Ys (sa:a.toList.Pairwise λx y=>rk x<=rk y):a.reverse.toList.Pairwise λx y=>neg rk x<=neg rk y:=by
 rw[Vl,Pr];exact sa.imp λh=>SO h
def zc6 {i:Nat}{x:Xd}(h1:1<=i)(h2:i<=a.size)(e:a[i-1]?=some x):a.reverse[a.size-i]?=some x:=by
 rw[zcC (by lia),show a.size-1-(a.size-i)=i-1 by lia];exact e
theorem Hi.oneA {x y:Xd}(M:Hi rk a b na nb out)(sa:a.toList.Pairwise λx y=>rk x<=rk y)(i:b.toList.Pairwise λx y=>rk x<=rk y)(h1:1<=na)(h2:na<=a.size)(e:1<=nb)(f:nb<=b.size)(c:a[na-1]?=some x)(d:b[nb-1]?=some y)(h:rk y<=rk x):Hi rk a b (na-1) nb (out.push x):=by
 have:=MI.oneA (rk:=neg rk) M (Ys sa) (zc6 h1 h2 c) λv g=>VI (SO h) (Zh (Ys i) (zc6 e f d) v g);unfold Hi;rw[show a.size-(na-1)=a.size-na+1 by lia];exact this
theorem Hi.oneB {x y:Xd}(M:Hi rk a b na nb out)(sa:a.toList.Pairwise λx y=>rk x<=rk y)(i:b.toList.Pairwise λx y=>rk x<=rk y)(h1:1<=na)(h2:na<=a.size)(e:1<=nb)(f:nb<=b.size)(c:a[na-1]?=some x)(d:b[nb-1]?=some y)(h:rk x<=rk y):Hi rk a b na (nb-1) (out.push y):=by
 have:=MI.oneB (rk:=neg rk) M (Ys i) (zc6 e f d) λv g=>VI (SO h) (Zh (Ys sa) (zc6 h1 h2 c) v g);unfold Hi;rw[show b.size-(nb-1)=b.size-nb+1 by lia];exact this
def zoo {i j:Nat}(h1:i<=j)(h2:j<=a.size):(a.extract i j).reverse=a.reverse.extract (a.size-j) (a.size-j+(j-i)):=by
 apply Array.ext_getElem?;intro k;by_cases hk:k<j-i
 .rw[PL (by rw[Uj];lia),SF,SF,Uj];rw[bw (by lia),bw (by rw[U1];lia),zcC (by lia)];congr 1;lia
 .rw[WJ (by rw[U1,Uj];lia),WJ (by rw[Uj,U1];lia)]
theorem Hi.someA {i:Nat}{y:Xd}(M:Hi rk a b na nb out)(sa:a.toList.Pairwise λx y=>rk x<=rk y)(g:b.toList.Pairwise λx y=>rk x<=rk y)(h1:i<=na)(h2:na<=a.size)(e:1<=nb)(f:nb<=b.size)(d:b[nb-1]?=some y)(h:∀j x,i<=j->j<na->a[j]?=some x->rk y<=rk x):Hi rk a b i nb (out++(a.extract i na).reverse):=by
 have:=MI.someA (rk:=neg rk) (k:=na-i) M (Ys sa) (Ys g) (zc6 e f d) λj x l c=>SO (h (na-1-j) x (by lia) (by lia) (by
  rw[zcC (by lia)]at c;rw[<- c];congr 1;lia))
 unfold Hi;rw[zoo h1 h2,show a.size-i=a.size-na+(na-i) by lia];exact this
def Hi.someB {i:Nat}{y:Xd}(M:Hi rk a b na nb out)(sa:a.toList.Pairwise λx y=>rk x<=rk y)(f:b.toList.Pairwise λx y=>rk x<=rk y)(h1:i<=nb)(h2:nb<=b.size)(d:1<=na)(e:na<=a.size)(c:a[na-1]?=some y)(h:∀j x,i<=j->j<nb->b[j]?=some x->rk y<=rk x):Hi rk a b na i (out++(b.extract i nb).reverse):=(Hi.someA (a:=b) (b:=a) M.swap f sa h1 h2 d e c h).swap
def zmk {c:List Xd}(h:Mg (neg rk) b.reverse.toList a.reverse.toList c):Mg rk a.toList b.toList c.reverse:=by
 obtain⟨p,q⟩:=h;rw[Vl,Vl]at p;refine⟨?_,?_⟩
 .refine(Rx _).trans (p.trans (T8.trans ?_));exact List.Perm.append (Rx _) (Rx _)
 .rw[Pr];refine q.imp λ{x y} h=>?_;have d:- rk x<=- rk y:=h;lia
def zcD {i:Nat}(h:i<=a.size):(a.reverse.extract (a.size-i) a.reverse.size).toList.reverse=(a.extract 0 i).toList:=by
 rw[zaZ,Vl,ext_toList _ _ _ (WY _),Pe,Og];have:=List.reverse_take (l:=a.toList) (i:=i);rw[X5]at this;rw[<- this,O0]
def Hi.done (M:Hi rk a b 0 nb out)(d:b.toList.Pairwise λx y=>rk x<=rk y)(h:nb<=b.size):Mg rk a.toList b.toList (a.extract 0 0++b.extract 0 nb++out.reverse).toList:=by
 have h1:=Qf (rk:=neg rk) (a:=b.reverse) (b:=a.reverse) M.swap (Ys d) (by rw[U1];lia);have h2:=zmk h1;rw[WM,WM,Tx,Tx,zcD h]at h2;have c:=zcD (a:=a) (i:=0) (WY _);rw[c]at h2;rw[WM,WM,Vl,W2];exact h2
def Hi.first (M:Hi rk a b na 1 out)(sa:a.toList.Pairwise λx y=>rk x<=rk y)(f:b.toList.Pairwise λx y=>rk x<=rk y)(g:0<b.size)(h:na<=a.size)(h0:∀x y,b[0]?=some x->y∈a.toList->rk x<rk y):Mg rk a.toList b.toList (b.extract 0 1++a.extract 0 na++out.reverse).toList:=by
 have h1:=Qg (rk:=neg rk) (a:=b.reverse) (b:=a.reverse) M.swap (Ys f) (Ys sa) (λx e y d=>by
  rw[U1,zcC (by lia),show b.size-1-(b.size-1)=0 by lia]at d;have c:x∈a.toList:=by simpa using e
  exact SO (V4 (h0 y x d c))) (by rw[U1];lia)
 have h2:=zmk h1;rw[WM,WM,Tx,Tx,zcD h,zcD (by lia)]at h2;rw[WM,WM,Vl,W2];exact h2
end
section
variable {prog:Xm}{w:W3}{A:WN}{E:X9->X7->Prop}{s:X7}{rk:Xd->Int}{κ:TX}{a0:Array Xd}
set_option maxHeartbeats 8000000 in
theorem zkJ {p:WQ}{a b:Array Xd}{Q:Array Xd->WQ->Prop}(T:Tells prog w A s κ rk a0)(hk:kindOf p=κ)(ma:∀x∈a.toList,x∈a0.toList)(mb:∀x∈b.toList,x∈a0.toList)(sa:a.toList.Pairwise λx y=>rk x<=rk y)(r:b.toList.Pairwise λx y=>rk x<=rk y)
  (ha:0<a.size) (hb:0<b.size) (h0:∀x y,b[0]?=some x->y∈a.toList->rk x<rk y) (hl:∀x∈b.toList,∀y,a[a.size-1]?=some y->rk x<rk y)
  (h:∀d l,Kept p l->Mg rk a.toList b.toList d.toList->Q d l):wpS (Xn prog w) A E s (mergeHi' a b) Q p:=by
 refine XE (Rl (U4 ⟨rfl,?_⟩));refine fq (λz0 aj _=>?_) (jc (a:=a) (i:=a.size-1) (by lia));refine fq (λy0 a8 aF=>?_) (jc (a:=b) (i:=b.size-1) (by lia));refine XE (qP aj ?_);have M0:Hi rk a b a.size b.size #[]:=by
  unfold Hi;rw[TK,TK];exact⟨by simp,List.Pairwise.nil,(λx hx=>nomatch hx),(λx hx=>nomatch hx)⟩
 have M1:Hi rk a b (a.size-1) b.size #[z0]:=M0.oneA sa r (by lia) (XU _) (by lia) (XU _) aj a8 (V4 (hl y0 aF z0 aj));dsimp -zeta only;refine qp (λhc=>Xr (h _ _ (Kept.refl _) ?_)) λhc=>?_
 .have e:a.size-1=0:=by simpa using hc
  rw[e]at M1 ⊢;exact M1.done r (XU _)
 refine qp (λam=>Xr (h _ _ (Kept.refl _) ?_)) λam=>?_
 .have e:b.size=1:=by simpa using am
  rw[e]at M1 ⊢;exact M1.first sa r hb (by lia) h0
 have a9:1<=a.size-1:=by
  have:¬ a.size-1=0:=by simpa using hc
  lia
 have aA:1<b.size:=by
  have:¬ b.size=1:=by simpa using am
  lia
 refine XE (Sq ?_);refine XE (UA (V5 (I:=λx c l=>∃g f d mg,c=(none,g,f,d,mg)/\Hi rk a b g f d/\1<=g/\g<a.size/\1<f/\f<=b.size/\g+f+x+1<=a.size+b.size/\Kept p l)
  (Q:=λc l=>∃m,c.1=some m/\Mg rk a.toList b.toList m.toList/\Kept p l) ?step ?fin (eO (dJ rfl M1 a9 (by lia) (dZ aA (XU _) (by lia) (Kept.refl _))))) ?post)
 case fin =>
  refine λc l=>fS λg f d mg z0 M h1 h2=>fE λh3 n h5 k=>?_;subst z0
  lia
 case post =>
  rintro⟨c1,c2⟩ l ⟨m,e,hM,k⟩
  dsimp only at e ⊢
  subst e
  exact Xr (h _ _ k hM)
 case step =>
  intro x0 c av _ aI hI
  refine via λG L=>?_
  obtain⟨g,f,d,mg,rfl,M,h1,h2,h3,n,h5,k1⟩:=hI
  refine L ?_
  clear L
  have aD:kindOf av=κ:=k1.kind.trans hk
  dsimp -zeta only
  refine XE (UA (V5 (I:=λx c l=>l=av/\∃g f d O U,c=(none,g,f,d,O,U)/\Hi rk a b g f d/\1<=g/\g<a.size/\1<f/\f<=b.size/\g+f+x0+1+x<=a.size+b.size)
   (Q:=λc l=>l=av/\((∃m,c.1=some m/\Mg rk a.toList b.toList m.toList)\/∃g f d O U,c=(none,g,f,d,O,U)/\Hi rk a b g f d/\1<=g/\g<a.size/\1<f/\f<=b.size/\g+f+x0+2<=a.size+b.size)) ?step1 ?fin1 ⟨rfl,(eZ rfl M h1 h2 (dD h3 n (by lia)))⟩) ?post1)
  case fin1 =>
   refine λc l=>fR λz0=>fY λg f d O U z1 M h1 h2=>fB λh3 n h5=>?_;subst z0 z1
   exact⟨rfl,.inr (dR g f d O (dO U rfl M h1 h2 (dD h3 n (by lia))))⟩
  case step1 =>
   intro x c l _ hx hI
   refine via λG L=>?_
   revert hI;refine fR λz0=>fY λg f d O U z1 M h1 h2=>fB λh3 n h5=>?_;subst z0 z1
   obtain⟨y,ey,my⟩:=jc (a:=b) (i:=f-1) (by lia)
   obtain⟨z,B,mz⟩:=jc (a:=a) (i:=g-1) (by lia)
   refine L ?_
   clear L
   dsimp -zeta only
   refine XE (qP ey (XE (qP B (XE (zmf T aD (mb y my) (ma z mz) ?_)))))
   dsimp -zeta only
   refine qp (λar=>?_) λar=>?_
   .have ae:rk y<rk z:=bg ar;have M2:=M.oneA sa r h1 (by lia) (by lia) n B ey (V4 ae);refine XE (qP B ?_);refine qp (λhe=>Xr ⟨rfl,.inl ⟨_,rfl,?_⟩⟩) λhe=>?_
    .have e:g-1=0:=by simpa using he
     rw[e]at M2 ⊢;exact M2.done r n
    have hn:1<=g-1:=by
     have:¬ g-1=0:=by simpa using he
     lia
    exact qp (λ_=>Xr ⟨rfl,.inr (eZ rfl M2 hn (by lia) (dD h3 n (by lia)))⟩) λ_=>Xr ⟨rfl,(eZ rfl M2 hn (by lia) (dD h3 n (by lia)))⟩
   .have ae:¬ rk y<rk z:=λq=>ar (br q);have M2:=M.oneB sa r h1 (by lia) (by lia) n B ey (Oo.mp ae);refine XE (qP ey ?_);refine qp (λhe=>Xr ⟨rfl,.inl ⟨_,rfl,?_⟩⟩) λhe=>?_
    .have e:f-1=1:=by simpa using he
     rw[e]at M2 ⊢;exact M2.first sa r hb (by lia) h0
    have hn:1<f-1:=by
     have:¬ f-1=1:=by simpa using he
     lia
    exact qp (λ_=>Xr ⟨rfl,.inr (eZ rfl M2 h1 h2 (dD hn (by lia) (by lia)))⟩) λ_=>Xr ⟨rfl,(eZ rfl M2 h1 h2 (dD hn (by lia) (by lia)))⟩
  case post1 =>
   intro c l hI
   refine via λG L=>?_
   rcases hI with ⟨rfl,aB | ⟨g,f,d,O,U,rfl,M,h1,h2,h3,n,h5⟩⟩
   all_goals (refine L ?_;clear L)
   .revert aB;refine fq λm e hM=>?_;obtain⟨c1,c2⟩:=c;dsimp only at e ⊢;subst e;exact Xr ⟨m,rfl,hM,k1⟩
   dsimp -zeta only
   refine XE (Rl (U4 ⟨rfl,?_⟩))
   refine XE (UA (V5 (I:=λx c J=>∃g f d mg O U,c=(none,g,f,d,mg,O,U)/\Hi rk a b g f d/\1<=g/\g<a.size/\1<f/\f<=b.size/\g+f+x0+2<=a.size+b.size/\Kept p J)
    (Q:=λc J=>(∃m,c.1=some m/\Mg rk a.toList b.toList m.toList/\Kept p J)\/∃g f d mg O U,c=(none,g,f,d,mg,O,U)/\Hi rk a b g f d/\1<=g/\g<a.size/\1<f/\f<=b.size/\g+f+x0+2<=a.size+b.size/\Kept p J) ?step2 ?fin2 (eO (dG (dJ rfl M h1 h2 (dZ h3 n h5 k1))))) ?post2)
   case fin2 =>
    rintro c J hc
    exact .inr hc
   case post2 =>
    rintro c J (⟨m,e,hM,k2⟩ | ⟨g,f,d,mg,O,U,rfl,M,h1,h2,h3,n,h5,k2⟩)
    .obtain⟨c1,c2⟩:=c;dsimp only at e ⊢;subst e;exact Xr ⟨m,rfl,hM,k2⟩
    .dsimp -zeta only;exact XE (zfA k2 λa6 k3=>Xr (eO (dJ rfl M h1 h2 (dZ h3 n (by lia) k3))))
   case step2 =>
    intro x c J _ hx hI
    refine via λG L=>?_
    obtain⟨g,f,d,mg,O,U,rfl,M,h1,h2,h3,n,h5,k2⟩:=hI
    obtain⟨y,ey,my⟩:=jc (a:=b) (i:=f-1) (by lia)
    refine L ?_
    clear L
    dsimp -zeta only
    refine' cut ?key1 λo=>qp (λaE=>?a1) λaE=>?b1
    case a1 =>
     generalize mg-1=a5
     revert a5
     exact o.get
    case b1=>exact o.get mg
    intro a5
    dsimp -zeta only
    refine XE (zfA k2 λa6 k3=>?_)
    have ay:kindOf a6=κ:=k3.kind.trans hk
    refine XE (qP ey (XE (zbB T ay (mb y my) ma (λi j u v _ an _ eu Y=>zjp sa an eu Y) (by lia) (by lia) λk aG g1 g2=>?_)))
    dsimp -zeta only
    refine' cut ?key2 λo=>qp (λaC=>?a2) λaC=>?b2
    case a2 =>
     have M2:=M.someA sa r (i:=k) (by lia) (by lia) (by lia) n ey λj u ao aq eu=>V4 (g2 j u ao aq (by simpa using eu))
     refine qp (λhe=>Xr (.inl ⟨_,rfl,(by
      have e:k=0:=by simpa using he
      rw[e]at M2 ⊢;exact M2.done r n),k3⟩)) λhe=>?_
     have aa:1<=k:=by
      have:¬ k=0:=by simpa using he
      lia
     have ak:k<a.size:=by lia
     have al:k+f+x0+2<=a.size+b.size:=by lia
     have ag:∀z,a[k-1]?=some z->rk z<=rk y:=λz B=>g1 (k-1) z (by lia) (by simpa using B)
     generalize d++(a.extract k g).reverse=ai at M2 ⊢
     generalize g-k=kk
     generalize k=H at M2 aa ak al ag ⊢
     revert ag;revert al;revert ak;revert aa;revert M2;revert H;revert kk;revert ai
     exact o.get
    case b2=>exact o.get d (g-k) g M h1 h2 h5 λz B=>g1 (g-1) z (by lia) (by simpa using B)
    intro ai kk H M2 aa ak al ag
    refine via λG L=>?_
    obtain⟨z,B,mz⟩:=jc (a:=a) (i:=H-1) (by lia)
    refine L ?_
    clear L
    have M3:=M2.oneB sa r aa (by lia) (by lia) n B ey (ag z B)
    refine XE (qP ey ?_)
    refine qp (λhe=>Xr (.inl ⟨_,rfl,(by
     have e:f-1=1:=by simpa using he
     rw[e]at M3 ⊢;exact M3.first sa r hb (by lia) h0),k3⟩)) λhe=>?_
    have hn:1<f-1:=by
     have:¬ f-1=1:=by simpa using he
     lia
    refine XE (qP B (XE (zbC T ay (ma z mz) mb (λi j u v _ an _ eu Y=>zjp r an eu Y) (by lia) (by lia) λN aH g3 g4=>?_)))
    dsimp -zeta only
    refine' cut ?key3 λo=>qp (λax=>?a3) λax=>?b3
    case a3 =>
     have M4:=M3.someB sa r (i:=N) (by lia) (by lia) aa (by lia) B λj u ao aq eu=>g4 j u ao aq (by simpa using eu)
     refine qp (λhe=>Xr (.inl ⟨_,rfl,(by
      have e:N=1:=by simpa using he
      rw[e]at M4 ⊢;exact M4.first sa r hb (by lia) h0),k3⟩)) λhe=>?_
     have aJ:1<=N:=by
      refine PK.mpr λhz=>?_;obtain⟨v,Y,mv⟩:=jc (a:=b) (i:=0) hb;have q1:=g4 0 v (by lia) (by lia) (by simpa using Y);have q2:=h0 v z Y mz;lia
     refine qp (λaw=>absurd (show N=0 by simpa using aw) (by lia)) λaw=>?_
     have af:1<N:=by
      have:¬ N=1:=by simpa using he
      lia
     have D:N<=b.size:=by lia
     have ab:H+N+x0+2<=a.size+b.size:=by lia
     have ah:∀v,b[N-1]?=some v->rk v<=rk z:=λv Y=>V4 (g3 (N-1) v (by lia) (by simpa using Y))
     generalize ai.push y++(b.extract N (f-1)).reverse=a7 at M4 ⊢
     generalize f-1-N=a4
     generalize N=au at M4 af D ab ah ⊢
     revert ah;revert ab;revert D;revert af;revert M4;revert au;revert a4;revert a7
     exact o.get
    case b3=>exact o.get (ai.push y) (f-1-N) (f-1) M3 hn (by lia) (by lia) λv Y=>V4 (g3 (f-1-1) v (by lia) (by simpa using Y))
    intro a7 a4 au M4 af D ab ah
    refine fq (λv Y mv=>?_) (jc (a:=b) (i:=au-1) (by lia))
    have M5:=M4.oneA sa r aa (by lia) (by lia) D B Y (ah v Y)
    refine XE (qP B ?_)
    refine qp (λhe=>Xr (.inl ⟨_,rfl,(by
     have e:H-1=0:=by simpa using he
     rw[e]at M5 ⊢;exact M5.done r D),k3⟩)) λhe=>?_
    have az:1<=H-1:=by
     have:¬ H-1=0:=by simpa using he
     lia
    exact qp (λ_=>Xr (.inr (eO (dG (dJ rfl M5 az (by lia) (dZ af D (by lia) k3)))))) λ_=>Xr (eO (dG (dJ rfl M5 az (by lia) (dZ af D (by lia) k3))))
theorem zeG (sa:Nat):∀(l:List Xd) (j:Nat) (b:Array Xd),((l.zipIdx j).foldl (λa (p:Xd×Nat)=>a.setIfInBounds (sa+p.2) p.1) b).size=b.size
 | [],_,_=>rfl
 | x::l,j,b=>by
  rw[List.zipIdx_cons,Wc,zeG sa l (j+1)];exact Ts
def zop (sa:Nat):∀(l:List Xd) (j:Nat) (b:Array Xd) (i:Nat),sa+j+l.length<=b.size->((l.zipIdx j).foldl (λa (p:Xd×Nat)=>a.setIfInBounds (sa+p.2) p.1) b)[i]?=if sa+j<=i/\i<sa+j+l.length then l[i-(sa+j)]? else b[i]?:=by
 intro l;induction l with
 | nil =>
  intro j b i h;rw[bq (by simp only[Vu];lia)];rfl
 | cons x l c =>
  intro j b i h;rw[Xo]at h;rw[List.zipIdx_cons,Wc,c (j+1) _ i (by rw[Ts];lia),Xo];by_cases h1:sa+(j+1)<=i/\i<sa+(j+1)+l.length
  .rw[bw h1,bw (by lia),show i-(sa+j)=(i-(sa+(j+1)))+1 by lia,QQ]
  .rw[bq h1];by_cases h2:i=sa+j
   .subst h2;rw[bw (by lia),TK,List.getElem?_cons_zero];show (b.setIfInBounds (sa+j) x)[sa+j]?=some x;rw[Uc,bw rfl,bw (by lia)]
   .rw[bq (by lia)];show (b.setIfInBounds (sa+j) x)[i]?=b[i]?;rw[Uc,bq (λe=>h2 e.symm)]
def xg {xs:Array Xd}{lo a:Nat}(u:Up rk xs lo a){i j:Nat}{x y:Xd}(h1:lo<=i)(h2:i<=j)(d:j<a)(b:xs[i]?=some x)(c:xs[j]?=some y):rk x<=rk y:=by
 have:=u i j h1 h2 d;unfold Rk at this;rw[b,c]at this;exact this
def zpp {xs:Array Xd}{lo b:Nat}(hz:b<=xs.size)(h:∀i j x y,lo<=i->i<=j->j<b->xs[i]?=some x->xs[j]?=some y->rk x<=rk y):Up rk xs lo b:=λi j h1 h2 e=>by
 obtain⟨x,c,_⟩:=jc (a:=xs) (i:=i) (by lia);obtain⟨y,d,_⟩:=jc (a:=xs) (i:=j) (by lia);unfold Rk;rw[c,d];exact h i j x y h1 h2 e c d
def zjq {xs:Array Xd}{i:Nat}{x:Xd}(e:xs[i]?=some x):x∈xs.toList:=X8 (by rw[Xy];exact e)
def ext_get {xs:Array Xd}{i j k:Nat}(h1:i<=j)(h2:j<=xs.size)(hk:k<j-i):(xs.extract i j)[k]?=xs[i+k]?:=by
 rw[SF,bw (by lia)]
def za0 {xs:Array Xd}{i j:Nat}(h2:j<=xs.size):(xs.extract i j).size=j-i:=by
 rw[Uj];lia
def zml {xs:Array Xd}{lo b i j:Nat}(u:Up rk xs lo b)(h1:lo<=i)(h2:j<=b)(a:j<=xs.size):(xs.extract i j).toList.Pairwise λx y=>rk x<=rk y:=by
 rw[Vt];intro m n c d g;rw[X5,za0 a]at c d;have e:=ext_get (xs:=xs) (i:=i) (j:=j) (k:=m) (by lia) a c;have f:=ext_get (xs:=xs) (i:=i) (j:=j) (k:=n) (by lia) a d;refine xg u (i:=i+m) (j:=i+n) (by lia) (by lia) (by lia) ?_ ?_
 .rw[<- e,UL];exact getElem?_pos _ _ _
 .rw[<- f,UL];exact getElem?_pos _ _ _
def ext_mem {xs:Array Xd}{i j:Nat}{x:Xd}(a:j<=xs.size)(h:x∈(xs.extract i j).toList):∃k,i<=k/\k<j/\xs[k]?=some x:=by
 obtain⟨k,hk,e⟩:=Tz h;rw[X5,za0 a]at hk;refine⟨i+k,by lia,by lia,?_⟩;rw[<- ext_get (xs:=xs) (i:=i) (j:=j) (by lia) a hk,<- e,UL];exact getElem?_pos _ _ _
def zrQ {st a:WQ}{Q:PUnit->WQ->Prop}(h:∀b,b=a->Q ⟨⟩ b):wpS (Xn prog w) A E s (set a:StateT WQ Sem PUnit) Q st:=by
 unfold wpS;rw[StateT.run_set];exact XR ⟨rfl,h _ rfl⟩
set_option maxHeartbeats 8000000 in
theorem zkK {st:WQ}{i sa b p1 J p2:Nat}{Q:Bool->WQ->Prop}(T:Tells prog w A s κ rk a0)(O:Ok κ a0 st)(e1:(WP st)[i]?=some (sa,b,p1))(e2:(WP st)[i+1]?=some (sa+b,J,p2))(ar:1<=b)(au:1<=J)(hz:sa+b+J<=a0.size)(u1:Up rk (Xp st) sa (sa+b))(u2:Up rk (Xp st) (sa+b) (sa+b+J))
  (h:∀B,Ok κ a0 B->WP B=((WP st).setIfInBounds i (sa,b+J,p1)).eraseIdxIfInBounds (i+1)->Up rk (Xp B) sa (sa+b+J)->(∀j:Nat,(j<sa\/sa+b+J<=j)->(Xp B)[j]?=(Xp st)[j]?)->Q true B):wpS (Xn prog w) A E s (mergeAt' i) Q st:=by
 have aj:=O.size;have mX:∀x∈(Xp st).toList,x∈a0.toList:=λx hx=>(UZ.mp O.perm).mem_iff.mp hx;obtain⟨b0,r,am⟩:=jc (a:=Xp st) (i:=sa+b) (by lia);refine XE (Sq ?_);rw[e1,e2];dsimp only;refine XE (zrQ λn U=>?_);have k1:kindOf n=κ:=by rw[U];exact O.kind
 have ea:Xp n=Xp st:=by rw[U]
 have ep:WP n=((WP st).setIfInBounds i (sa,b+J,p1)).eraseIdxIfInBounds (i+1):=by rw[U]
 have ef:SU n=none:=by rw[U];exact O.good
 have O1:Ok κ a0 n:=⟨by rw[ea];exact O.perm,k1,ef⟩;refine XE (qP r (XE (zbB T k1 (mX b0 am) mX (λp q u v h1 h2 I G H=>xg u1 h1 h2 I G H) (by show sa+b<=(Xp st).size;lia) (by lia) λk hk g1 g2=>?_)));dsimp only;refine qp (λhc=>Xr (h n O1 ep (zpp (by rw[ea];lia) λp q u v h1 h2 I G H=>?_) λj _=>by rw[ea])) λhc=>?_
 .have ek:k=b:=by
   have:b-k=0:=by simpa using hc
   lia
  rw[ea]at G H;by_cases c1:q<sa+b
  .exact xg u1 h1 h2 c1 G H
  .by_cases c2:p<sa+b
   .have q1:=g1 (p-sa) u (by lia) (by rw[show sa+(p-sa)=p by lia];exact G);have q2:=xg u2 (XU _) (by lia) I r H;lia
   .exact xg u2 (by lia) h2 I G H
 have aq:k<b:=by
  have:¬ b-k=0:=by simpa using hc
  lia
 obtain⟨al,af,ak⟩:=jc (a:=Xp st) (i:=sa+k+(b-k)-1) (by lia);have o:(Xp st)[sa+b-1]?=some al:=by
  rw[<- af];congr 1;lia
 refine XE (qP af (XE (zbC T k1 (mX al ak) mX (λp q u v h1 h2 I G H=>xg u2 h1 h2 I G H) (by show sa+b+J<=(Xp st).size;lia) (by lia) λg ao g3 g4=>?_)));dsimp only;have an:rk b0<rk al:=g2 (b-1) al (by lia) (by lia) (by rw[show sa+(b-1)=sa+b-1 by lia];exact o);have aw:1<=g:=by
  refine PK.mpr λav=>?_;have:=g4 0 b0 (by lia) (by lia) (by simpa using r);lia
 refine qp (λhc=>absurd (show g=0 by simpa using hc) (by lia)) λ_=>?_;have X3:sa+b<=(Xp st).size:=by lia
 have Y3:sa+b+g<=(Xp st).size:=by lia
 have xs:=zml (i:=sa+k) (j:=sa+b) u1 (by lia) (XU _) X3;have ys:=zml (i:=sa+b) (j:=sa+b+g) u2 (XU _) (by lia) Y3;have xm:∀x∈((Xp st).extract (sa+k) (sa+b)).toList,x∈a0.toList:=λx hx=>by
  obtain⟨j,_,_,ej⟩:=ext_mem X3 hx;exact mX x (zjq ej)
 have ym:∀x∈((Xp st).extract (sa+b) (sa+b+g)).toList,x∈a0.toList:=λx hx=>by
  obtain⟨j,_,_,ej⟩:=ext_mem Y3 hx;exact mX x (zjq ej)
 have xz:((Xp st).extract (sa+k) (sa+b)).size=b-k:=by
  rw[za0 X3];lia
 have yz:((Xp st).extract (sa+b) (sa+b+g)).size=g:=by
  rw[za0 Y3];lia
 have first:∀x y,((Xp st).extract (sa+b) (sa+b+g))[0]?=some x->y∈((Xp st).extract (sa+k) (sa+b)).toList->rk x<rk y:=λx y ex my=>by
  rw[ext_get (by lia) Y3 (by lia),PZ,r]at ex;cases ex;obtain⟨j,j1,j2,ej⟩:=ext_mem X3 my;exact g2 (j-sa) y (by lia) (by lia) (by rw[show sa+(j-sa)=j by lia];exact ej)
 have aa:∀x∈((Xp st).extract (sa+b) (sa+b+g)).toList,∀y,((Xp st).extract (sa+k) (sa+b))[((Xp st).extract (sa+k) (sa+b)).size-1]?=some y->rk x<rk y:=λx mx y ey=>by
  rw[xz,ext_get (by lia) X3 (by lia),show sa+k+(b-k-1)=sa+b-1 by lia,o]at ey;cases ey;obtain⟨j,j1,j2,ej⟩:=ext_mem Y3 mx;exact g3 (j-(sa+b)) x (by lia) (by rw[show sa+b+(j-(sa+b))=j by lia];exact ej)
 have ab:∀(merged:Array Xd) (f:WQ),Kept n f->Mg rk ((Xp st).extract (sa+k) (sa+b)).toList ((Xp st).extract (sa+b) (sa+b+g)).toList merged.toList ->
   Q true (setArr f (merged.toList.zipIdx.foldl (λa (p:Xd×Nat)=>a.setIfInBounds (sa+k+p.2) p.1) (Xp f))):=λmerged f D Y=>by
  have ac:Xp f=Xp st:=D.arr.trans ea;have ml:merged.toList.length=b-k+g:=by
   rw[Y.1.length_eq,XY,X5,X5,xz,yz]
  have L:∀j:Nat,(merged.toList.zipIdx.foldl (λa (p:Xd×Nat)=>a.setIfInBounds (sa+k+p.2) p.1) (Xp f))[j]?=if sa+k<=j/\j<sa+b+g then merged.toList[j-(sa+k)]? else (Xp st)[j]?:=λj=>by
   have:=zop (sa+k) merged.toList 0 (Xp f) j (by rw[ac,ml];lia);rw[this,ac,PZ,ml];by_cases c:sa+k<=j/\j<sa+b+g
   .rw[bw c,bw (by lia)]
   .rw[bq c,bq (by lia)]
  have zA:=zeG (sa+k) merged.toList 0 (Xp f);generalize hN:merged.toList.zipIdx.foldl (λa (p:Xd×Nat)=>a.setIfInBounds (sa+k+p.2) p.1) (Xp f)=N at L zA ⊢;have zN:N.size=a0.size:=by
   rw[zA,ac,aj]
  have nl:N.toList=(Xp st).toList.take (sa+k)++merged.toList++(Xp st).toList.drop (sa+b+g):=by
   refine SH λj=>?_;rw[Xy,L j];by_cases c1:j<sa+k
   .rw[bq (by lia),W2,V7 (by rw[XN,X5];lia),List.getElem?_take,bw c1,Xy]
   .rw[W2,VU (by rw[XN,X5];lia),XN,X5,show min (sa+k) (Xp st).size=sa+k by lia];by_cases c2:j<sa+b+g
    .rw[bw ⟨by lia,c2⟩,V7 (by rw[ml];lia)]
    .rw[bq (by lia),VU (by rw[ml];lia),Tb,Xy,ml];congr 1;lia
  have ol:(Xp st).toList=(Xp st).toList.take (sa+k)++(((Xp st).extract (sa+k) (sa+b)).toList++((Xp st).extract (sa+b) (sa+b+g)).toList)++(Xp st).toList.drop (sa+b+g):=by
   rw[ext_toList _ _ _ (by lia),ext_toList _ _ _ (by lia)];have d1:(Xp st).toList.drop (sa+b)=((Xp st).toList.drop (sa+k)).drop (b-k):=by
    rw[Pb];congr 1;lia
   have d2:(Xp st).toList.drop (sa+b+g)=((Xp st).toList.drop (sa+b)).drop g:=by
    rw[Pb]
   rw[d2,show sa+b+g-(sa+b)=g by lia,W2,W2,W7,d1,show sa+b-(sa+k)=b-k by lia,W7,W7]
  refine h _ ⟨?_,D.kind.trans k1,D.bad.trans ef⟩ (D.pend.trans ep) (zpp (by show _<=N.size;lia) λp q u v h1 h2 I G H=>?_) λj hj=>?_
  .refine Array.Perm.trans ?_ O.perm;rw[UZ];show N.toList.Perm _;have pm:=List.Perm.append_right ((Xp st).toList.drop (sa+b+g)) (SA ((Xp st).toList.take (sa+k)) Y.1);rw[<- ol,<- nl]at pm;exact pm
  .have l:N[p]?=some u:=G;have d:N[q]?=some v:=H;rw[L]at l d;have ah:∀{j:Nat} {x:Xd},sa+k<=j->j<sa+b+g->merged.toList[j-(sa+k)]?=some x->(∃m,sa+k<=m/\m<sa+b/\(Xp st)[m]?=some x)\/∃m,sa+b<=m/\m<sa+b+g/\(Xp st)[m]?=some x:=λ_ _ e=>by
    rcases XO.mp (Y.1.mem_iff.mp (X8 e)) with z | z
    .exact .inl (ext_mem X3 z)
    .exact .inr (ext_mem Y3 z)
   by_cases c1:p<sa+k
   .rw[bq (by lia)]at l;by_cases c2:q<sa+k
    .rw[bq (by lia)]at d;exact xg u1 h1 h2 (by lia) l d
    .have ag:∀{m:Nat} {x:Xd},sa+b<=m->m<sa+b+J->(Xp st)[m]?=some x->rk u<=rk x:=λm1 m2 M=>by
      have q1:=g1 (p-sa) u (by lia) (by rw[show sa+(p-sa)=p by lia];exact l);exact VI q1 (xg u2 (XU _) m1 m2 r M)
     by_cases c3:q<sa+b+g
     .rw[bw ⟨by lia,c3⟩]at d;rcases ah (by lia) c3 d with ⟨m,m1,m2,M⟩ | ⟨m,m1,m2,M⟩
      .exact xg u1 h1 (by lia) m2 l M
      .exact ag m1 (by lia) M
     .rw[bq (by lia)]at d;exact ag (by lia) I d
   .by_cases c4:p<sa+b+g
    .rw[bw ⟨by lia,c4⟩]at l;by_cases c3:q<sa+b+g
     .rw[bw ⟨by lia,c3⟩]at d;by_cases ai:p=q
      .subst ai;rw[l]at d;cases d;exact Va _
      .have sp:=Y.2;rw[Vt]at sp;obtain⟨a1,a2⟩:=X4.mp l;obtain⟨b1,b2⟩:=X4.mp d;have:=sp _ _ a1 b1 (by lia);rw[a2,b2]at this;exact this
     .rw[bq (by lia)]at d;have q4:=g4 (q-(sa+b)) v (by lia) (by lia) (by rw[show sa+b+(q-(sa+b))=q by lia];exact d);rcases ah (by lia) c4 l with ⟨m,m1,m2,M⟩ | ⟨m,m1,m2,M⟩
      .exact VI (xg u1 (by lia) (by lia) (by lia) M o) q4
      .exact xg u2 m1 (by lia) I M d
    .rw[bq (by lia)]at l d;exact xg u2 (by lia) h2 I l d
  .show N[j]?=_;rw[L,bq (by lia)]
 refine qp (λ_=>?_) λ_=>?_
 .refine XE (zkI T k1 xm ym xs ys (S9 (show 0<b-k by lia) xz.symm) (S9 (show 0<g by lia) yz.symm) (λx y ex my=>V4 (first x y ex my)) aa λae f D Y=>?_);refine XE (Ti (XE (Sq ?_)));rw[show (SU f).isNone=true by rw[D.bad,ef];rfl];exact Xr (ab ae f D Y)
 .refine XE (zkJ T k1 xm ym xs ys (S9 (show 0<b-k by lia) xz.symm) (S9 (show 0<g by lia) yz.symm) first aa λae f D Y=>?_);refine XE (Ti (XE (Sq ?_)));rw[show (SU f).isNone=true by rw[D.bad,ef];rfl];exact Xr (ab ae f D Y)
def zab:List (Nat×AA)->Nat->Nat->Prop
 | [],s,e=>s=e
 | r::l,s,e=>r.1=s/\1<=r.2.1/\zab l (s+r.2.1) e
theorem yQ:∀{l1 l2:List (Nat×AA)} {s e:Nat},zab (l1++l2) s e ↔ ∃m,zab l1 s m/\zab l2 m e
 | [],l2,s,e=>⟨λh=>⟨s,rfl,h⟩,λ⟨m,h1,h2⟩=>by
  have e:s=m:=h1;subst e;exact h2⟩
 | r::l1,l2,s,e=>by
  constructor
  .rintro⟨h1,h2,h3⟩;obtain⟨m,a,b⟩:=yQ.mp h3;exact⟨m,⟨h1,h2,a⟩,b⟩
  .rintro⟨m,⟨h1,h2,h3⟩,a⟩;exact⟨h1,h2,yQ.mpr ⟨m,h3,a⟩⟩
theorem Qh:∀{l:List (Nat×AA)} {s e:Nat},zab l s e->s<=e/\l.length+s<=e/\∀r∈l,s<=r.1/\r.1+r.2.1<=e
 | [],s,e,h=>by
  have b:s=e:=h;subst b;exact⟨XU _,by simp,λr d=>nomatch d⟩
 | r::l,s,e,⟨h1,h2,c⟩=>by
  obtain⟨f,g,a⟩:=Qh c;refine⟨by lia,by rw[Xo];lia,λq hq=>?_⟩;rcases XH.mp hq with rfl | hq
  .lia
  .have:=a q hq;lia
structure PI (rk:Xd->Int)(κ:TX)(a0:Array Xd)(lo:Nat)(st:WQ):Prop where
 ok:Ok κ a0 st
 til:zab (WP st).toList 0 lo
 up:∀r∈(WP st).toList,Up rk (Xp st) r.1 (r.1+r.2.1)
def zcE {xs ys:Array Xd}{lo a:Nat}(u:Up rk xs lo a)(h:∀j:Nat,lo<=j->j<a->ys[j]?=xs[j]?):Up rk ys lo a:=λi j h1 h2 b=>by
 rw[JV (h i h1 (by lia)),JV (h j (by lia) b)];exact u i j h1 h2 b
def zqs {p:List (Nat×AA)}{i:Nat}(h:i+1<p.length):∃l1 a b l2,p=l1++a::b::l2/\l1.length=i/\p[i]?=some a/\p[i+1]?=some b:=by
 refine⟨p.take i,p[i],p[i+1],p.drop (i+2),?_,by rw[XN];lia,XZ (by lia),XZ h⟩;rw[<- WI h,<- WI (by lia),W7]
def zgP {st:WQ}{lo i:Nat}{Q:Bool->WQ->Prop}(T:Tells prog w A s κ rk a0)(P:PI rk κ a0 lo st)(N:i+1<(WP st).size)(O:lo<=a0.size)
  (h:∀a,PI rk κ a0 lo a->(WP a).size+1=(WP st).size->(∀j:Nat,lo<=j->(Xp a)[j]?=(Xp st)[j]?)->Q true a):wpS (Xn prog w) A E s (mergeAt' i) Q st:=by
 obtain⟨o,⟨sa,c,D⟩,⟨sb,d,Y⟩,U,f,M,z,B⟩:=zqs (p:=(WP st).toList) (i:=i) (by rw[X5];exact N);have g:=P.til;rw[f]at g;obtain⟨m,G,⟨u,v,x,y,l⟩⟩:=yQ.mp g;dsimp only at u v x y l;subst u;subst x;rw[Xy]at z B;have u1:=P.up (sa,c,D) (by rw[f];simp);have H:=P.up (sa+c,d,Y) (by rw[f];simp);dsimp only at u1 H;obtain⟨b1,b2,J⟩:=Qh l;obtain⟨c1,c2,L⟩:=Qh G;refine zkK T P.ok z B v y (by lia) u1 H λa I n q b=>?_;have e:(WP a).toList=o++(sa,c+d,D)::U:=by
  rw[n,Array.toList_eraseIdxIfInBounds,RK,f,<- M];rw[List.set_append_right _ _ (XU _),TK,RN,List.eraseIdx_append_of_length_le (by lia),show o.length+1-o.length=1 by lia];rfl
 refine h a ⟨I,?_,λr hr=>?_⟩ ?_ λj hj=>b j (by lia)
 .rw[e];exact yQ.mpr ⟨sa,G,rfl,by show 1<=c+d;lia,by rw[show sa+(c+d)=sa+c+d by lia];exact l⟩
 .rw[e]at hr;rcases XO.mp hr with hr | hr
  .have:=L r hr;exact zcE (P.up r (by rw[f];exact W1 _ hr)) λj h1 h2=>b j (by lia)
  .rcases XH.mp hr with rfl | hr
   .show Up rk (Xp a) sa (sa+(c+d));rw[show sa+(c+d)=sa+c+d by lia];exact q
   .have:=J r hr;exact zcE (P.up r (by rw[f];simp[hr])) λj h1 h2=>b j (by lia)
 .rw[<- X5,e,<- X5,f];simp only[XY,Xo];lia
def PI.step {lo a:Nat}{st b:WQ}(P:PI rk κ a0 lo st)(S:Step κ a0 a st b)(h:lo<=a):PI rk κ a0 lo b:=by
 refine⟨S.ok,by rw[S.pend];exact P.til,λr c=>?_⟩;rw[S.pend]at c;have:=(Qh P.til).2.2 r c;exact zcE (P.up r c) λj h1 h2=>S.low j (by lia)
theorem zb6 (b:Nat):∀{l:List (Nat×AA)} {k s e:Nat},zab l s e->zab (l.modify k λr=>(r.1,r.2.1,b)) s e
 | [],k,s,e,h=>by
  cases k<;>exact h
 | r::l,0,s,e,⟨h1,h2,a⟩=>⟨h1,h2,a⟩
 | r::l,k+1,s,e,⟨h1,h2,a⟩=>⟨h1,h2,zb6 b a⟩
theorem zeH {a:Nat}:∀{l:List (Nat×AA)} {k:Nat} {r:Nat×AA},r∈l.modify k (λr=>(r.1,r.2.1,a))->∃q∈l,q.1=r.1/\q.2.1=r.2.1
 | [],k,r,h=>by
  cases k<;>cases h
 | q::l,0,r,h=>by
  rcases XH.mp h with rfl | h
  .exact⟨q,XQ,rfl,rfl⟩
  .exact⟨r,XT _ h,rfl,rfl⟩
 | q::l,k+1,r,h=>by
  rcases XH.mp h with rfl | h
  .exact⟨r,XQ,rfl,rfl⟩
  .obtain⟨b,h1,h2⟩:=zeH h;exact⟨b,XT _ h1,h2⟩
def ite_le (c:Prop) [Decidable c](n:Nat):(if c then n-1 else n)<=n:=by
 split<;>lia
def zqt {st:WQ}{Q:Unit->WQ->Prop}(T:Tells prog w A s κ rk a0)(O:Ok κ a0 st)(hp:WP st=#[])(h:∀d,Ok κ a0 d->Up rk (Xp d) 0 a0.size->Q () d):wpS (Xn prog w) A E s sortRuns' Q st:=by
 rw[sortRuns'_eq];refine XE (Sq ?_);dsimp only;rw[O.size];generalize minRun' a0.size a0.size 0=mr;refine XE (UA (V5 (I:=λx c d=>∃lo,c=(none,lo)/\PI rk κ a0 lo d/\lo<=a0.size/\x<=lo)
  (Q:=λc d=>c=(none,a0.size)/\PI rk κ a0 a0.size d) ?step ?fin ⟨0,rfl,⟨O,by rw[hp];rfl,λr B=>by rw[hp]at B;cases B⟩,WY _,XU _⟩) ?post)
 case fin =>
  rintro c d ⟨lo,rfl,P,h1,h2⟩
  obtain rfl:lo=a0.size:=by lia
  exact⟨rfl,P⟩
 case step =>
  refine λx c U _ hx=>gi λlo=>fE λz0 P h1 h2=>?_;subst z0
  dsimp only
  refine qp (λL=>?_) λL=>?_
  .obtain rfl:lo=a0.size:=by lia
   exact Xr ⟨rfl,P⟩
  refine XE (zrO T P.ok (by lia) (by lia) λm b S m1 m2 hu=>?_)
  dsimp only
  have g:=P.step S (XU _)
  refine qp (λM=>?_) λM=>?_
  refine XE (Rl (U4 ⟨rfl,?_⟩))
  refine XE (zrP T S.ok (by lia) (by lia) hu λp S3 o=>?_)
  rw[bq (by decide)]
  have P3:=g.step S3 (XU _)
  have J:1<=min (a0.size-lo) mr:=by lia
  have H:lo+min (a0.size-lo) mr<=a0.size:=by lia
  clear g S3
  generalize min (a0.size-lo) mr=n at o J H ⊢
  rotate_left
  have P3:=g
  have o:=hu
  have J:=m1
  have H:lo+m<=a0.size:=by lia
  clear g
  generalize m=n at o J H ⊢
  generalize b=p at P3 o ⊢
  rotate_left
  all_goals
   refine XE (Sq ?_)
   have fin:∀a,PI rk κ a0 lo a->Up rk (Xp a) lo (lo+n)->PI rk κ a0 (lo+n) (setPending a ((WP a).push (lo,n,0))):=λa f z=>by
    refine⟨⟨f.ok.perm,f.ok.kind,f.ok.good⟩,?_,λr B=>?_⟩
    .show zab ((WP a).push (lo,n,0)).toList 0 (lo+n);rw[SJ];exact yQ.mpr ⟨lo,f.til,rfl,J,rfl⟩
    .have hr':r∈((WP a).push (lo,n,0)).toList:=B;rw[SJ]at hr';rcases XO.mp hr' with hr' | hr'
     .exact f.up r hr'
     .have er:r=(lo,n,0):=by simpa using hr'
      subst er;exact z
   cases ab:(WP p).back? with
   | none =>
    dsimp only;exact XE (Ti (Xr ⟨lo+n,rfl,fin p P3 o,H,by lia⟩))
   | some r =>
    obtain⟨s1,N,q1⟩:=r;dsimp only;generalize power' a0.size (2*s1+N) (2*s1+N+N+n) a0.size=pw;refine XE (UA (V5 (I:=λ_ c a=>c=(none,())/\PI rk κ a0 lo a/\Up rk (Xp a) lo (lo+n)) (Q:=λc a=>c=(none,())/\PI rk κ a0 lo a/\Up rk (Xp a) lo (lo+n)) ?_ (λ_ _ hh=>hh) ⟨rfl,P3,o⟩) ?_)
    .rintro y c a _ _ ⟨rfl,f,z⟩;refine XE (Sq ?_);by_cases D:(WP a).size>1
     .rw[bw D,getElem?_pos (WP a) ((WP a).size-2) (by lia)];generalize (WP a)[(WP a).size-2]'(by lia)=r2;obtain⟨ac,ae,af⟩:=r2;dsimp only;refine qp (λ_=>Xr ⟨rfl,f,z⟩) λ_=>?_;refine XE (zgP T f (by lia) h1 λag P5 _ aa=>?_);rw[bq (by decide)];exact Xr ⟨rfl,P5,zcE z λj j1 _=>aa j j1⟩
     .rw[bq D];exact Xr ⟨rfl,f,z⟩
    .rintro c a ⟨rfl,f,z⟩;dsimp only;refine XE (Ti (XE (Ti (Xr ⟨lo+n,rfl,fin _ ⟨⟨f.ok.perm,f.ok.kind,f.ok.good⟩,?_,λr B=>?_⟩ z,H,by lia⟩))))
     .show zab ((WP a).modify ((WP a).size-1) λr=>(r.1,r.2.1,pw)).toList 0 lo;rw[OK];exact zb6 pw f.til
     .have hr':r∈((WP a).modify ((WP a).size-1) λr=>(r.1,r.2.1,pw)).toList:=B;rw[OK]at hr';obtain⟨q,hq,e1,e2⟩:=zeH hr';have:=f.up q hq;rw[e1,e2]at this;exact this
 case post =>
  rintro c U ⟨rfl,P⟩
  dsimp only
  have G:=(Qh P.til).2.1
  rw[X5]at G
  refine XE (UA (V5 (I:=λx c b=>c=(none,())/\PI rk κ a0 a0.size b/\((WP b).size+x<=a0.size\/(WP b).size<=1)) (Q:=λc b=>c=(none,())/\PI rk κ a0 a0.size b/\(WP b).size<=1) ?step2 ?fin2 ⟨rfl,P,.inl (by lia)⟩) ?post2)
  case fin2 =>
   rintro c b ⟨rfl,g,D⟩
   exact⟨rfl,g,by lia⟩
  case step2 =>
   rintro x c b _ hx ⟨rfl,g,D⟩
   refine XE (Sq ?_)
   refine qp (λh1=>Xr ⟨rfl,g,h1⟩) λh1=>?_
   refine XE (zgP T g ?_ (XU _) λp P3 z3 _=>?_)
   .exact XM (O7 (ite_le _ _) 1) (show (WP b).size-2+1<(WP b).size by lia)
   .rw[bq (by decide)];exact Xr ⟨rfl,P3,by lia⟩
  case post2 =>
   rintro c b ⟨rfl,g,D⟩
   dsimp only
   refine Xr (h b g.ok ?_)
   have v:=g.til
   have up:=g.up
   have zl:(WP b).toList.length<=1:=by rw[X5];exact D
   cases hl:(WP b).toList with
   | nil =>
    rw[hl]at v;have e:0=a0.size:=v;exact λi j _ _ h3=>absurd h3 (by lia)
   | cons r l =>
    rw[hl]at v zl up;obtain rfl:l=[]:=Wb.mp (by rw[Xo]at zl;lia);obtain⟨t1,t2,t3⟩:=v;have Y:0+r.2.1=a0.size:=t3;have u:=up r XQ;rw[t1,Y]at u;exact u
end
structure Wk {K:Type}(lt:K->K->Bool):Prop where
 tot:∀x y,lt x y=true->lt y x=false
 tr:∀x y z,lt y x=false->lt z y=false->lt z x=false
def rkK {K:Type}(lt:K->K->Bool)(ks:List K)(k:K):Int:=((ks.countP λq=>lt q k:Nat):Int)
theorem count_le {K:Type}{p q:K->Bool}:∀{ks:List K},(∀x∈ks,p x=true->q x=true)->ks.countP p<=ks.countP q
 | [],_=>XU _
 | x::ks,h=>by
  have d:=count_le (ks:=ks) λy b=>h y (XT _ b);rw[Wq,Wq];have a:=h x XQ;by_cases c:p x=true
  .rw[bw c,bw (a c)];lia
  .rw[bq c];lia
def zmm {K:Type}{p q:K->Bool}{ks:List K}(h:∀x∈ks,p x=true->q x=true)(b:∃x∈ks,p x=false/\q x=true):ks.countP p<ks.countP q:=by
 obtain⟨y,hy,h1,h2⟩:=b;induction ks with
 | nil=>cases hy
 | cons x ks a =>
  rw[Wq,Wq];have d:=h x XQ;rcases XH.mp hy with rfl | hy
  .have a:=count_le (ks:=ks) λy hy=>h y (XT _ hy);rw[h1,h2,bq XS,bw rfl];lia
  .have a:=a (λy hy=>h y (XT _ hy)) hy;by_cases c:p x=true
   .rw[bw c,bw (d c)];lia
   .rw[bq c];lia
def Wk.rank {K:Type}{lt:K->K->Bool}(W:Wk lt){ks:List K}{x y:K}(c:x∈ks):lt x y=decide (rkK lt ks x<rkK lt ks y):=by
 unfold rkK;cases h:lt x y with
 | true =>
  refine(br ?_).symm;have:=zmm (ks:=ks) (p:=λq=>lt q x) (q:=λq=>lt q y) (λq _ b=>?_) ⟨x,c,?_,h⟩
  .lia
  .cases hc:lt q y with
   | true=>rfl
   | false =>
    have:=W.tr x y q (W.tot x y h) hc;have a:lt q x=true:=b;rw[this]at a;cases a
  .cases hc:lt x x with
   | false=>rfl
   | true=>exact hc.symm.trans (W.tot x x hc)
 | false =>
  refine(bf ?_).symm;have:=count_le (ks:=ks) (p:=λq=>lt q y) (q:=λq=>lt q x) λq _ b=>by
   cases hc:lt q x with
   | true=>rfl
   | false =>
    have:=W.tr y x q h hc;have a:lt q y=true:=b;rw[this]at a;cases a
  lia
section
variable {prog:Xm}{w:W3}{A:WN}{E:X9->X7->Prop}{s:X7}
def zeI {a:Addr}{vs:List X9}{n:Nat}{P:PySem.Fin->X7->Prop}(J:s.heap.get? a=some (Us "list" vs.toArray n))(hz:vs.length<=XA)(r:X9->Int)
  (hk:2<=vs.length->∀s':X7,(∀b o,b≠a->s.heap.get? b=some o->s'.heap.get? b=some o)->Xj (Xn prog w) A (keyKind' vs.toArray) (fun κ N=>N=s'/\Tells prog w A s' κ (λp=>r p.1) (OQ vs)) (λ_ _=>False) s')
  (h:∀(ws:List X9) (h':Heap) (c:Nat),ws.Perm vs->ws.Pairwise (λx y=>r x<=r y)->(∀b o,b≠a->s.heap.get? b=some o->h'.get? b=some o)->h'.get? a=some (Us "list" ws.toArray c)->P (.done (.ret .none)) { s with heap:=h' }) :
  Xj (Xn prog w) A (UQ.«list.sort» ⟨[.ref a],[]⟩) P E s:=by
 have ac:a<s.heap.objs.size:=XB J;have H:=get?_update_seq J λ_=>(#[]:Array X9);generalize U:s.heap.update a (Vh λ_=>(#[]:Array X9))=B at H;have zX:B.objs.size=s.heap.objs.size:=by rw[<- U,Heap.size_update]
 have kX:∀b o,b≠a->s.heap.get? b=some o->B.get? b=some o:=λb o v e=>by
  rw[<- U,R7 _ _ _ _ v];exact e
 obtain⟨I,M⟩:∃I,B.get? a=some (Us "list" #[] I):=⟨_,H⟩;generalize hY:(B.push (Us "tuple" vs.toArray 0)).push (Us "list" #[] 0)=Y;have m:Y.get? a=some (Us "list" #[] I):=by
  rw[<- hY];exact XV _ (XV _ M)
 have kY:∀b o,b≠a->s.heap.get? b=some o->Y.get? b=some o:=λb o v e=>by
  rw[<- hY];exact XV _ (XV _ (kX b o v e))
 have g:∀(st:WQ),(((Xp st).map (·.2)).toList.Perm vs)->(((Xp st).map (·.2)).toList.Pairwise λx y=>r x<=r y)->SU st=none ->
   Xj (Xn prog w) A (do
    let f:=(<- seqEpoch a) != I
    Builtin.List.listUpdate (.ref a) λ_=>(Xp st).map (·.2)
    if let some e:=SU st then rule "list.sort.comparison-raised";throw e
    if f then rule "list.sort.modified";raiseError "ValueError" "list modified during sort"
    ret .none) P E { s with heap:=Y }:=by
  intro st q L hf;generalize ew:(Xp st).map (·.2)=wsA at q L;rw[hf];have G:wsA.size=vs.length:=by rw[<- X5,q.length_eq]
  have ab:=get?_update_seq m λ_=>wsA;refine Y1 (seqEpoch_at m rfl (Y1 (listUpdate_at m rfl ?_ (WY _) (by rw[G];lia))));simp only[bne_self_eq_false,WD,if_false];refine XR (h wsA.toList _ _ q L (λb o v e=>?_) ab);rw[R7 _ _ _ _ v];exact kY b o v e
 rw[list_sort_plain];refine Y1 (listItems_at J rfl (Y1 (listUpdate_at J rfl ?_ (by rw[Xu];exact hz) (WY _))));rw[U];refine Y1 (seqEpoch_at M rfl (Y1 (wpAny_newTuple (Y1 (Ox ?_ (WY _))) hz)));show Xj (Xn prog w) A _ P E { s with heap:=(B.push (Us "tuple" vs.toArray 0)).push (Us "list" #[] 0) };rw[hY];refine VT ?_;dsimp only;have e2:((OQ vs).map (·.2)).toList=vs:=by
  rw[U6,Ux];exact List.map_snd_zip (XU _)
 by_cases l:vs.toArray.size<2
 .have D:vs.length<2:=by rw[Xu]at l;exact l
  rw[bw l,bw l];refine Y1 (XR ?_);rw[StateT.run_pure];refine Y1 (XR ?_);refine g (SortSt.mk' general' (OQ vs) #[] 7 none) (by show ((OQ vs).map (·.2)).toList.Perm vs;rw[e2]) (by
   show ((OQ vs).map (·.2)).toList.Pairwise _;rw[e2,Vt];intro i j hi hj aa;lia) rfl
 .have D:2<=vs.length:=by rw[Xu]at l;lia
  rw[bq l,bq l];refine Y1 (VY (hk D { s with heap:=Y } kY) (fun κ N ⟨e3,T⟩=>?_) λ_ _ x=>x.elim);subst e3;have run:=zqt (E:=E) (st:=SortSt.mk' κ (OQ vs) #[] 7 none) (Q:=λ_ d=>(((Xp d).map (·.2)).toList.Perm vs)/\(((Xp d).map (·.2)).toList.Pairwise λx y=>r x<=r y)/\SU d=none) T ⟨Array.Perm.refl _,rfl,rfl⟩ rfl λd O M=>?_
  .unfold wpS at run;refine Y1 (VY run ?_ λ_ _ z=>z);rintro⟨⟨⟩,d⟩ s' ⟨rfl,q,L,hf⟩;exact g d q L hf
  .have pm:=UZ.mp O.perm;have same:∀p∈(Xp d).toList,p.1=p.2:=λp q=>by
    have:=pm.mem_iff.mp q;rw[Ux]at this;exact(R3 this).1
   refine⟨?_,?_,O.good⟩
   .have:=pm.map (·.2);rw[U6];rw[Ux,List.map_snd_zip (XU _)]at this;exact this
   .rw[U6,Wh,Vt];intro i j hi hj aa;have zs:=O.size;rw[X5]at hi hj;have u:=xg M (i:=i) (j:=j) (WY _) (by lia) (by lia) (getElem?_pos _ i hi) (getElem?_pos _ j hj);have s1:=same (Xp d)[i] (by simp);have N:=same (Xp d)[j] (by simp);rw[UL,UL,<- s1,<- N];exact u
def zkL {l:Addr}{vs:List X9}{Q:X9->X7->Prop}(u:s.heap.IsList l vs.toArray)(hz:vs.length<=XA)(r:X9->Int)
  (hk:2<=vs.length->∀s':X7,(∀b o,s.heap.get? b=some o->s'.heap.get? b=some o)->Xj (Xn prog w) A.in1.in1 (keyKind' vs.toArray) (fun H G=>G=s'/\Tells prog w A.in1.in1 s' H (λp=>r p.1) (OQ vs)) (λ_ _=>False) s')
  (h:∀(f:List X9) (h':Heap) (c:Nat),f.Perm vs->f.Pairwise (λx y=>r x<=r y)->(∀b o,s.heap.get? b=some o->h'.get? b=some o)->h'.get? (s.heap.objs.size+1)=some (Us "list" f.toArray c)->Q (.ref (s.heap.objs.size+1)) { s with heap:=h' }) :
  Xj (Xn prog w) A (call (.builtin "sorted") [.ref l]) Q E s:=by
 generalize g:(s.heap.push (Us "list" #[] 0)).update s.heap.objs.size (Vh (·++vs.toArray))=a;have n:a.objs.size=s.heap.objs.size+1:=by rw[<- g,Heap.size_update,U3]
 have B:∀b o,s.heap.get? b=some o->a.get? b=some o:=λb o e=>by
  have lt:=XB e;rw[<- g,R7 _ _ _ _ (Xi lt)];exact XV _ e
 apply RG kind_sorted plain_sorted entry_sorted (args_sorted1 _);unfold UQ.«sorted»;refine Y1 (m:=checkCount "sorted" 1 1 _) (XR (Y1 (collect_list u ?_ hz)));rw[g];refine Y1 (Ox ?_ hz);show Xj _ _ _ _ _ { s with heap:=a.push (Us "list" vs.toArray 0) };have d:(a.push (Us "list" vs.toArray 0)).get? (s.heap.objs.size+1)=some (Us "list" vs.toArray 0):=by
  rw[<- n];exact Xc _ rfl
 have i:∀b o,s.heap.get? b=some o->(a.push (Us "list" vs.toArray 0)).get? b=some o:=λb o e=>XV _ (B b o e);have j:∀b o,s.heap.get? b=some o->b≠s.heap.objs.size+1:=λb o e=>Xi (Wo (XB e));rw[n];refine Y1 (VT (U7 slot_list_sort ⟨_,d,rfl⟩ entry_list_sort (zeI (s:={ s with heap:=a.push (Us "list" vs.toArray 0) }) d hz r (λc s' k=>hk c s' λb o e=>k b o (j b o e) (i b o e)) ?_) (args_list_sort _)));intro f h' c v z D q;exact⟨_,rfl,XR ⟨_,rfl,h f h' c v z (λb o e=>D b o (j b o e) (i b o e)) q⟩⟩
end
def zc7 {α d:Type}{R:α->d->Prop}{xs:List α}{ys:List d}(hp:Xl R xs ys):(∀p∈xs.zip ys,R p.1 p.2)/\(xs.zip ys).map (·.1)=xs/\(xs.zip ys).map (·.2)=ys:=by
 induction hp with
 | nil=>exact⟨(λp h=>nomatch h),rfl,rfl⟩
 | cons h _ e =>
  obtain⟨a,b,c⟩:=e;refine⟨λp hp=>?_,by rw[List.zip_cons_cons,Xw,b],by rw[List.zip_cons_cons,Xw,c]⟩;rcases XH.mp hp with rfl | hp
  .exact h
  .exact a p hp
theorem zeJ {α a:Type}{R:α->a->Prop}:∀{zs:List (α × a)},(∀p∈zs,R p.1 p.2)->Xl R (zs.map (·.1)) (zs.map (·.2))
 | [],_=>.nil
 | p::zs,h=>.cons (h p XQ) (zeJ λq b=>h q (XT _ b))
theorem JW {α a:Type}{R:α->a->Prop}:∀{xs:List α} {ys:List a},Xl R xs ys->∀x∈xs,∃y∈ys,R x y
 | _,_,.nil,x,h=>nomatch h
 | _,_,.cons h t,x,hx=>by
  rcases XH.mp hx with rfl | hx
  .exact⟨_,XQ,h⟩
  .obtain⟨y,h1,h2⟩:=JW t x hx;exact⟨y,XT _ h1,h2⟩
def Tri {K:Type}(a:V->K->Prop)(RH:X9->K->Prop)(t:V×X9×K):Prop:=RelV t.1 t.2.1/\a t.1 t.2.2/\RH t.2.1 t.2.2
def zqu {K:Type}{d:V->K->Prop}{RH:X9->K->Prop}{c:AF}{a:List X9}{ks:List K}(h1:Vals c a):Xl d c ks->Xl RH a ks->∃T:List (V×X9×K),(∀t∈T,Tri d RH t)/\T.map (·.1)=c/\T.map (·.2.1)=a/\T.map (·.2.2)=ks:=by
 induction h1 generalizing ks with
 | nil =>
  intro h2 b;cases h2;exact⟨[],(λt h=>nomatch h),rfl,rfl,rfl⟩
 | @cons u i c a g o f =>
  intro h2 b;cases h2 with
  | @cons _ k _ ks j m =>
   cases b with
   | cons l n =>
    refine gi (λT=>fE λh1 h2 b e=>?_) (f m n);refine⟨(u,i,k)::T,λt ht=>?_,by rw[Xw,h2],by rw[Xw,b],by rw[Xw,e]⟩;rcases XH.mp ht with rfl | ht
    .exact⟨g,j,l⟩
    .exact h1 t ht
theorem zgQ {K:Type}{d:V->K->Prop}{RH:X9->K->Prop}:∀{T:List (V×X9×K)},(∀t∈T,Tri d RH t)->Vals (T.map (·.1)) (T.map (·.2.1))/\Xl d (T.map (·.1)) (T.map (·.2.2))
 | [],_=>⟨.nil,.nil⟩
 | t::T,h=>by
  obtain⟨h1,h2⟩:=zgQ λx e=>h x (XT _ e);obtain⟨a,b,c⟩:=h t XQ;exact⟨.cons a h1,.cons b h2⟩
section
variable {X:Cx}{bz:List (Addr×Obj)}{σ:St}{H:Hp}{s:X7}{K:Type}
def zeK {lt:K->K->Bool}(W:Wk lt){Y:V->K->Prop}{RH:Heap->X9->K->Prop}(fn:∀h v k n,RH h v k->RH h v n->k=n)(kp:∀h h' v k,(∀b o,h.get? b=some o->h'.get? b=some o)->RH h v k->RH h' v k)
  {l:Addr} {U:AF} {f:List X9} {ks:List K} {Q:VK} (I:Inv X bz σ H s) (hl:s.heap.IsList l f.toArray) (hz:U.length<=1000000) (rv:Vals U f) (hv:Xl Y U ks) (E:Xl (RH s.heap) f ks)
  (N:∀s':X7,Xl (RH s'.heap) f ks->2<=f.length->Xj (Xn X.prog X.w) X.A.in1.in1 (keyKind' f.toArray) (fun κ s2=>s2=s'/\∀v v' k n,RH s'.heap v k->RH s'.heap v' n->∀C:Bool->X7->Prop,C (lt k n) s'->Xj (Xn X.prog X.w) X.A.in1.in1 (keyLt' κ v v') C (λ_ _=>False) s') (λ_ _=>False) s')
  (q:∀d D u,H d=none->Xl Y D u->u.Perm ks->u.Pairwise (λx y=>lt y x=false)->(D.Perm U)->Q (.ref d) (upd H d (.lst D))) :
  Xj (Xn X.prog X.w) X.A (call (.builtin "sorted") [.ref l]) (EP X bz σ Q) X.xe s:=by
 classical
 have aa:=rv.length;refine gi (λT=>fE λhT e1 e2 e3=>?_) (zqu rv hv E);let r:X9->Int:=λv=>if h:∃k,RH s.heap v k then rkK lt ks h.choose else 0
 have i:∀{v:X9} {k:K},RH s.heap v k->r v=rkK lt ks k:=λ{v k} h=>by
  have m:∃k,RH s.heap v k:=⟨k,h⟩;show (if h:∃k,RH s.heap v k then rkK lt ks h.choose else 0)=_;rw[dif_pos m,fn _ _ _ _ m.choose_spec h]
 have z1:f.length<=XA:=by
  rw[<- aa,TV];lia
 refine zkL (vs:=f) hl z1 r (λh2 s' O=>?_) λws h' c J hs O ha=>?_
 .have ab:Xl (RH s'.heap) f ks:=by
   obtain⟨a,b,c⟩:=zc7 E;have:=zeJ (R:=RH s'.heap) (zs:=f.zip ks) λp E=>kp _ _ _ _ O (a p E);rw[b,c]at this;exact this
  refine VY (N s' ab h2) (fun κ s2 ⟨e,hc⟩=>⟨e,λx m y L C hC=>?_⟩) λ_ _ z=>z;have mx:x.1∈f:=by
   rw[Ux]at m;exact(R3 m).2
  have my:y.1∈f:=by
   rw[Ux]at L;exact(R3 L).2
  obtain⟨k,k1,k2⟩:=JW E x.1 mx;obtain⟨n,ae,M⟩:=JW E y.1 my;refine hc x.1 y.1 k n (kp _ _ _ _ O k2) (kp _ _ _ _ O M) C ?_;have G:C (decide (r x.1<r y.1)) s':=hC;rw[i k2,i M,<- W.rank k1]at G;exact G
 .obtain⟨T',g,eT⟩:=ST.zc4 (λt:V×X9×K=>t.2.1) J T e2.symm;have j:∀t∈T',Tri Y (RH s.heap) t:=λt ht=>hT t (g.mem_iff.mp ht);obtain⟨B,ac⟩:=zgQ j;rw[<- eT]at B;have hD:H (s.heap.objs.size+1)=none:=I.hok.fresh (VX _);refine⟨.ref (s.heap.objs.size+1),upd H (s.heap.objs.size+1) (.lst (T'.map (·.1))),I.laid (t':=s.toks) O (VX _) ⟨?_,ws,c,B,ha⟩,rfl,q _ _ _ hD ac (by rw[<- e3];exact g.map _) ?_ (by rw[<- e1];exact g.map _)⟩
  .rw[B.length,J.length_eq];exact z1
  .rw[eT,Wh]at hs;rw[Wh];refine hs.imp_of_mem λ{x y} m L h=>?_;obtain⟨_,_,h1⟩:=j x m;obtain⟨_,_,h2⟩:=j y L;rw[i h1,i h2]at h;have my:y.2.2∈ks:=by
    rw[<- e3];exact XI.mpr ⟨y,g.mem_iff.mp L,rfl⟩
   rw[W.rank my];exact bf (by lia)
end
def zmn:Wk lt2:=by
 refine⟨λx y h=>?_,λx y z h1 h2=>?_⟩
 .cases e:lt2 y x with
  | false=>rfl
  | true =>
   have:=zhZ h e;rw[zjf]at this;cases this
 .cases e:lt2 z x with
  | false=>rfl
  | true =>
   by_cases a:x=y
   .subst a;rw[e]at h2;exact h2
   .have b:lt2 x y=true:=by
     have:=zcz (p:=x) (q:=y) a;rw[h1]at this;cases hh:lt2 x y with
     | true=>rfl
     | false =>
      rw[hh]at this;cases this
    have:=zhZ e b;rw[this]at h2;exact h2
def zfC {h:Heap}{v:X9}{p q:Int×Int}(h1:zD h v p)(h2:zD h v q):p=q:=by
 obtain⟨a,o,n,t,u,e,l,c1,i⟩:=h1;obtain⟨A,D,B,y,z,j,c,g,b⟩:=h2;subst e;cases j;rw[l]at c;cases c;rw[i]at b;obtain⟨r,s⟩:=p;obtain⟨w,x⟩:=q;injection b with b _
 have m:[Vv r t,Vv s u]=[Vv w y,Vv x z]:=congrArg Oi b;injection m with f d
 injection d with d _
 injection f with f _
 injection d with d _
 rw[f,d]
section
variable {X:Cx}
def jM:qM X (.builtin "sorted") (λxs H Q=>∃l f ps,xs=[.ref l]/\SqL X.K H l f/\yO H f ps/\f.length<=1000000 /\
  ∀d b c,H d=none->yO H b c->c.Perm ps->c.Pairwise (λp q=>lt2 q p=false)->Q (.ref d) (upd H d (.lst b))):=by
 intro Y s σ H xs b Q I r h;revert h;refine fC λl f ps z0 E j J q=>?_;subst z0;obtain⟨u,rfl,U⟩:=vals1 r;cases U;obtain⟨L,m,O,_⟩:=I.list E;have D:=yO.pairs I j m;refine zeK zmn (RH:=zD) (λh v k M=>zfC) (λh h' v k N ⟨a,o,n,t,u,e,w,r⟩=>⟨a,o,n,t,u,e,N _ _ w,r⟩) I O.isList J m j D (λs' g h2=>?_) λd b i A h1 h2 y _=>q d b i A h1 h2 y;obtain⟨fs,hk,B,hint⟩:=Yp g;refine kat_kind (T:=.type "int") hk (by lia) (λv G=>?_) (by decide) ⟨rfl,λv v' k M h1 h2 C z=>?_⟩
 .obtain⟨x,t,rfl⟩:=hint v G;exact Looks.of_pure rfl
 .exact zjd h1 h2 z
end
end GS
end L2
namespace PySem.SeqAt
open L2 AutoSeq1 MeetsSeq MeetsSeq2 MeetsSeq3
end PySem.SeqAt
namespace L2
open PySem PySem.Spec PyProof.Rows PySem.W PySem.SeqAt
end L2
namespace PySem.SeqAt
open L2 AutoSeq1 MeetsSeq MeetsSeq2 MeetsSeq3
def ltL:List (Int×Int)->List (Int×Int)->Bool
 | _,[]=>false
 | [],_::_=>true
 | p::r,q::t=>if p=q then ltL r t else lt2 p q
def zfD (ps:List (Int×Int)):ltL ps []=false:=by cases ps<;>rfl
theorem zjr:∀ps:List (Int×Int),ltL ps ps=false
 | []=>rfl
 | p::r=>by
  unfold ltL;rw[bw rfl];exact zjr r
theorem zjs:∀{ps qs:List (Int×Int)},ps≠qs->ltL qs ps=!ltL ps qs
 | [],[],h=>absurd rfl h
 | [],q::t,_=>rfl
 | p::r,[],_=>rfl
 | p::r,q::t,h=>by
  unfold ltL;by_cases e:p=q
  .subst e;rw[bw rfl,bw rfl];exact zjs λz=>h (by rw[z])
  .rw[bq e,bq (UY e)];exact zcz e
theorem zid:∀{ps qs d:List (Int×Int)},ltL ps qs=true->ltL qs d=true->ltL ps d=true
 | ps,[],_,h,_=>by
  rw[zfD]at h;cases h
 | _,_::_,[],_,h=>by
  rw[zfD]at h;cases h
 | [],_::_,_::_,_,_=>rfl
 | p::r,q::t,x::y,h1,h2=>by
  unfold ltL at *
  by_cases b:p=q
  .subst b;rw[bw rfl]at h1;by_cases a:p=x
   .rw[bw a]at h2 ⊢;exact zid h1 h2
   .rw[bq a]at h2 ⊢;exact h2
  .rw[bq b]at h1;by_cases a:q=x
   .subst a;rw[bq b];exact h1
   .rw[bq a]at h2;have c:=zhZ h1 h2;rw[bq]
    .exact c
    .intro e;subst e;rw[zjf]at c;cases c
def zie {A:WN}{s:X7}{v a:X9}{p q:Int×Int}(h1:zD s.heap v p)(h2:zD s.heap a q)(d:A.units+10<VN):EqAt A s v a (decide (p=q)):=by
 obtain⟨as,b⟩:=Q9 h1;obtain⟨bs,c⟩:=Q9 h2;have:=eqAt_reads _ _ A s _ _ as bs b c rfl rfl (by show A.units+min 1 1<VN;lia);rw[zeu]at this;exact this
def ZQ {h:Heap}{xs:Array X9}{ps:List (Int×Int)}(d:Xl (zD h) xs.toList ps){i:Nat}(g:i<xs.size):∃p r,ps.drop i=p::r/\ps.drop (i+1)=r/\zD h xs[i] p:=by
 have e:xs.toList.length=ps.length:=Paired.length d;rw[X5]at e;have h2:i<ps.length:=by lia
 obtain⟨a,b,c⟩:=GS.zc7 d;refine⟨ps[i],ps.drop (i+1),WI h2,rfl,?_⟩;have f:i<(xs.toList.zip ps).length:=by
  rw[List.length_zip,X5];lia
 have:=a _ (Uv f);rw[List.getElem_zip]at this;simpa using this
def zkM (l b:Addr)(c a:Array X9)(n n2:Nat)(dd B:Option Addr)(sl H:Array (Option X9))(ps qs:List (Int×Int))(k:Nat) :
  ∀i:Nat,c.size-i=k->i<=c.size->i<=a.size->Meets (UQ.«list.__eq__.loop» ⟨[.ref l,.ref b,Ua i,Ua 0],[]⟩)
   (λA R s=>s.heap.get? l=some { cls:=.type "list",dict:=dd,data:=.seq c n,slots:=sl }/\s.heap.get? b=some { cls:=.type "list",dict:=B,data:=.seq a n2,slots:=H } /\
    Xl (zD s.heap) c.toList ps/\Xl (zD s.heap) a.toList qs/\A.units+20<VN /\
    R (.ok (.ret (.bool (ltL (ps.drop i) (qs.drop i))))) s):=by
 induction k with
 | zero =>
  intro i hk h1 h2 f w A R s h;obtain⟨Y,g,d,tk,os⟩:=s;revert h;refine fJ λy x m o I h=>?_;have E:c.toList.length=ps.length:=Paired.length m;have G:a.toList.length=qs.length:=Paired.length o;rw[X5]at E G;wp_walk using Wd y,Wd x;have j:c[((i:Nat):Int).toNat]?=none:=by simp;lia
  rw[j];have D:ps.drop i=[]:=by simp;lia
  have e:ltL (ps.drop i) (qs.drop i)=decide (c.size<a.size):=by
   rw[D];by_cases hq:i<qs.length
   .rw[WI hq];exact(br (by lia)).symm
   .rw[List.drop_of_length_le (by lia)];exact(bf (by lia)).symm
  rw[e]at h;wp_walk using Wd y,Wd x;exact h
 | succ k ih =>
  intro i hk h1 h2 f w A R s h;obtain⟨Y,g,d,tk,os⟩:=s;revert h;refine fJ λy x m o I h=>?_;have E:c.toList.length=ps.length:=Paired.length m;have G:a.toList.length=qs.length:=Paired.length o;rw[X5]at E G;wp_walk using Wd y,Wd x;have z:i<c.size:=by lia
  have j:c[((i:Nat):Int).toNat]?=some c[i]:=by simp[z]
  by_cases v:i<a.size
  .have u:a[((i:Nat):Int).toNat]?=some a[i]:=by simp[v]
   have U:((i:Int)+1)=((i+1:Nat):Int):=by push_cast;rfl
   refine fH (λp r M O J=>?_) (ZQ m z);refine fH (λq t N Q L=>?_) (ZQ o v);rw[j,u];refine Y1 (zie J L (by show A.units+1+10<VN;lia) f w _ _ ?_);rw[M,N]at h;unfold ltL at h;by_cases e:p=q
   .rw[bw e]at h;rw[br e];wp_walk;rw[U];exact⟨UJ plain_eq_loop _,VH entry_eq_loop (by
     rw[V8 plain_eq_loop _];exact ih (i+1) (by lia) (by lia) (by lia) f w A R _ (dQ y x m o I (by rw[O,Q];exact h)))⟩
   .rw[bq e]at h;rw[bf e];simp only[WD,if_false];refine Y1 (RF y rfl (Y1 (RF x rfl ?_)));rw[j,u];exact Y1 (zao.pairs J L (by show A.units+1<VN;lia) f w _ _ (XR h))
  .have u:a[((i:Nat):Int).toNat]?=none:=by simp;lia
   rw[j,u];have D:qs.drop i=[]:=by simp;lia
   rw[D,zfD,show false=decide (c.size<a.size) from (bf (by lia)).symm]at h;wp_walk using Wd y,Wd x;exact h
def zif (l b:Addr)(c a:Array X9)(n j:Nat)(dd d:Option Addr)(m f:Array (Option X9))(ps qs:List (Int×Int)) :
  Meets (UQ.«list.__lt__» ⟨[.ref l,.ref b],[]⟩)
   (λA R s=>s.heap.get? l=some { cls:=.type "list",dict:=dd,data:=.seq c n,slots:=m }/\s.heap.get? b=some { cls:=.type "list",dict:=d,data:=.seq a j,slots:=f } /\
    Xl (zD s.heap) c.toList ps/\Xl (zD s.heap) a.toList qs/\A.units+20<VN/\R (.ok (.ret (.bool (ltL ps qs)))) s):=by
 intro e w A R s h;obtain⟨p,g1,x,v,u⟩:=s;revert h;refine fJ λi g o q r h=>?_;have y:=sub_list_list;wp_walk using Wd i,Wd g;exact⟨UJ plain_eq_loop _,VH entry_eq_loop (by
  rw[V8 plain_eq_loop _];exact zkM l b c a n j dd d m f ps qs _ 0 rfl (WY _) (WY _) e w A R _ (dQ i g o q r (by simpa using h)))⟩
structure ListPairs (h:Heap)(v:X9)(ps:List (Int×Int)):Prop where
 ex:∃a o xs n,v=.ref a/\h.get? a=some o/\o.cls=.type "list"/\o.data=.seq xs n/\Xl (zD h) xs.toList ps
def zmo {prog:Xm}{w:W3}{A:WN}{E:X9->X7->Prop}{s:X7}{v q:X9}{ps qs:List (Int×Int)}{C:Bool->X7->Prop}(y:ListPairs s.heap v ps)(g:ListPairs s.heap q qs)(H:A.units+30<VN)(h:C (ltL ps qs) s) :
  Xj (Xn prog w) A (PyProof.Rows.keyLt' PyProof.Rows.oneType' v q) C E s:=by
 obtain⟨a,⟨u,x,p,D⟩,G,n,rfl,e,c1,o,B⟩:=y;obtain⟨r,⟨m,d,data2,j⟩,l,z,rfl,f,b,c,i⟩:=g;simp only at c1 o b c;subst c1 o b c;rw[PyProof.Rows.keyLt'_oneType,PyProof.Rows.oneLt'_eq];simp only[if_true];refine Y1 (wpAny_cRoomFor (by lia) ?_);refine Y1 (wpAny_callSpecialIfBound?_slot (T:="list") ⟨_,e,rfl⟩ F.slot_list_lt ?_);refine P6 F.slot_list_lt ⟨_,e,rfl⟩ F.entry_list_lt (F.args_list_lt_2 _ _) (zif a r G l n z x d D j ps qs) (dQ e f B i (by lia) ?_);exact Wi h
end PySem.SeqAt
namespace L2
open PySem PySem.Spec PyProof.Rows PySem.W PySem.SeqAt
namespace GS
def zqv:Wk ltL:=by
 refine⟨λx y h=>?_,λx y z h1 h2=>?_⟩
 .cases e:ltL y x with
  | false=>rfl
  | true =>
   have:=zid h e;rw[zjr]at this;cases this
 .cases e:ltL z x with
  | false=>rfl
  | true =>
   by_cases a:x=y
   .subst a;rw[e]at h2;exact h2
   .have b:ltL x y=true:=by
     have:=zjs (ps:=x) (qs:=y) a;rw[h1]at this;cases hh:ltL x y with
     | true=>rfl
     | false =>
      rw[hh]at this;cases this
    have:=zid e b;rw[this]at h2;exact h2
def LstAt (H:Hp)(v:V)(ps:List (Int×Int)):Prop:=∃a b,v=V.ref a/\H a=some (.lst b)/\yO H b ps
def zkN {h:Heap}{vs:List X9}{ps qs:List (Int×Int)}(d:Xl (zD h) vs ps):Xl (zD h) vs qs->ps=qs:=by
 induction d generalizing qs with
 | nil =>
  intro c;cases c;rfl
 | cons a _ e =>
  intro c;cases c with
  | cons b u=>rw[zfC a b,e u]
def zmp {h:Heap}{v:X9}{ps qs:List (Int×Int)}(h1:ListPairs h v ps)(h2:ListPairs h v qs):ps=qs:=by
 obtain⟨a,o,s,n,e,j,c1,g,l⟩:=h1;obtain⟨p,r,m,q,i,c,f,b,d⟩:=h2;subst e;cases i;rw[j]at c;cases c;rw[g]at b;injection b with b _
 subst b;exact zkN l d
def Yo {h h':Heap}(k:∀b o,h.get? b=some o->h'.get? b=some o){vs:List X9}{ps:List (Int×Int)}(d:Xl (zD h) vs ps):Xl (zD h') vs ps:=by
 induction d with
 | nil=>exact .nil
 | cons q _ f =>
  obtain⟨a,o,n,t,u,e,c,r⟩:=q;exact .cons ⟨a,o,n,t,u,e,k _ _ c,r⟩ f
section
variable {X:Cx}{bz:List (Addr×Obj)}{σ:St}{H:Hp}{s:X7}
def zig (I:Inv X bz σ H s){c:AF}{ks:List (List (Int×Int))}{b:List X9}(d:Xl (LstAt H) c ks)(r:Vals c b):Xl (ListPairs s.heap) b ks:=by
 induction d generalizing b with
 | nil =>
  cases r;exact .nil
 | cons q _ g =>
  obtain⟨a,o,e,h,f⟩:=q;subst e;cases r with
  | cons i j =>
   cases i;refine .cons ?_ (g j);obtain⟨z,b,n,l,m,e⟩:=I.lstM h;exact⟨a,_,b.toArray,n,rfl,e,rfl,rfl,by rw[OJ];exact yO.pairs I f l⟩
end
def zih {h:Heap}{b:List X9}{ks:List (List (Int×Int))}(f:Xl (ListPairs h) b ks):∀v∈b,∃a o,v=WT a/\h.get? a=some o/\o.cls=.type "list":=by
 induction f with
 | nil=>exact λv hv=>nomatch hv
 | cons q _ g =>
  intro v hv;rcases XH.mp hv with rfl | hv
  .obtain⟨a,o,i,n,e,d,c,_⟩:=q;exact⟨a,o,e,d,c⟩
  .exact g v hv
section
variable {X:Cx}
def zac (hu:X.A.units+64<VN):qM X (.builtin "sorted") (λxs H Q=>∃l g ks,xs=[.ref l]/\SqL X.K H l g/\Xl (LstAt H) g ks/\g.length<=1000000 /\
  ∀d b f,H d=none->Xl (LstAt H) b f->f.Perm ks->f.Pairwise (λp q=>ltL q p=false)->b.Perm g->Q (.ref d) (upd H d (.lst b))):=by
 intro Y s σ H xs b Q I r h;revert h;refine fC λl g ks z0 G m L q=>?_;subst z0;obtain⟨u,rfl,U⟩:=vals1 r;cases U;obtain⟨M,x,O,_⟩:=I.list G;have E:=zig I m x;refine zeK zqv (RH:=ListPairs) (λh v k N=>zmp) (λh h' v k w ⟨a,o,xs,n,e,i,c,d,r⟩=>⟨a,o,xs,n,e,w _ _ i,c,d,Yo w r⟩) I O.isList L x m E (λs' j h2=>?_) λd b f D h1 h2 y z=>q d b f D h1 h2 y z;refine kas_kind (T:=.type "list") h2 (λv J=>?_) (by decide) (by decide) ⟨rfl,λv v' k N h1 h2 C B=>?_⟩
 .obtain⟨a,o,rfl,i,c1⟩:=zih j v J;exact c1 ▸ (Looks.ld i).andThen .now
 .exact zmo h1 h2 (by show X.A.units+1+1+30<VN;lia) B
end
end GS
open PySem PySem.Spec PyProof.Rows
def HasDef (K:XX)(x:Str)(st:Stmt):Prop:=∃(f:Addr) (e:X9) (g b:Option Addr) (i:Array (Option X9)) (kV d h a c:X9),XC K XG x=some (some (.ref f))/\K.lookup f=some ⟨e,g,.func (UP x x (J5 st) (xy st) (zp st) .none kV d h b a c),i⟩/\SR K a x=true/\TU K (.ref f)=true
def us0 {P:List X9->Prop}(h:P []):∀b:List X9,b.length=0->P b:=by
 intro b e;cases b with
 | nil=>exact h
 | cons a t=>cases e
def usS {n:Nat}{P:List X9->Prop}(h:∀a t,t.length=n->P (a::t)):∀b:List X9,b.length=n+1->P b:=by
 intro b e;cases b with
 | nil=>cases e
 | cons a t=>exact h a t (Nat.succ.inj e)
def us1 {P:List X9->Prop}(h:∀a,P [a]):∀b:List X9,b.length=1->P b:=usS λa=>us0 (h a)
def us2 {P:List X9->Prop}(h:∀a b,P [a,b]):∀c:List X9,c.length=2->P c:=usS λa=>us1 (h a)
def us3 {P:List X9->Prop}(h:∀a b c,P [a,b,c]):∀d:List X9,d.length=3->P d:=usS λa=>us2 (h a)
def us4 {P:List X9->Prop}(h:∀a b c d,P [a,b,c,d]):∀e:List X9,e.length=4->P e:=usS λa=>us3 (h a)
def HasDef.at {K:XX}{h:Heap}{i:Str->Option X9}{x:Str}{st:Stmt}{ps:AE}(H:HasDef K x st)(X:K.In h)(G:h.Ns XG i)
  (n:∀(kV doc j:X9) (e:Option Addr) (b g:X9) (d:List X9),d.length=ps.length->bindArgs (UP x x (J5 st) (xy st) (zp st) .none kV doc j e b g) ⟨d,[]⟩=pure (ps.zip d):=by intro _ _ _ _ _ _;first | exact us1 λ_=>rfl | exact us2 λ_ _=>rfl | exact us3 λ_ _ _=>rfl | exact us4 λ_ _ _ _=>rfl):∃f m,zm K i x st ps f m:=by
 revert H;refine fu λf q r e s kV p j=>fm λo g a l c k=>?_;have F:=zlI (st:=st) l c k;exact⟨f,_,F,VE X G a,F.binds n⟩
open PySem PySem.W
open PySem PySem.Spec PyProof.Rows PySem.W
namespace ST
variable {X:Cx}
def zd2 (hh:X.A.handled=none):qM X (.builtin "sorted") (λxs H Q=>∃l ks,xs=[.ref l]/\H l=some (zgN X.prog X.w l ks)/\(∀q∈ks,H q.1=some (.tup [.int q.2.1,.int q.2.2]))/\(ks.map (·.2)).Nodup/\ks.length<64 /\
  ∀d U O,H d=none->yO H U O->O.Perm (ks.map (·.2))->Up2 O->Q (.ref d) (upd H d (.lst U))):=by
 intro bz s σ H xs U Q I r h;revert h;refine fV λl ks z0 hl hT ak aq q=>?_;subst z0;obtain⟨u,rfl,ru⟩:=vals1 r;cases ru;obtain⟨⟨es,ep,t,ho,he,G,ab,am⟩,_,_⟩:=(show qH X.prog X.w H s.heap l (zgN X.prog X.w l ks) from I.hok l _ hl);have aw:ks.length=es.size:=by
  rw[<- X5,he,ZB]
 apply RG kind_sorted plain_sorted entry_sorted (args_sorted1 _);unfold UQ.«sorted»;refine Y1 (m:=checkCount "sorted" 1 1 _) (XR (Y1 (zgM (by simp[hh]) ho G ab am (by lia) λf h1 tk ae ah aj=>?_)));have ao:es.toList.map (·.2)=ks.map λq=>WT q.1:=by
  rw[he,Wv];rfl
 rw[ao]at ae;obtain⟨g,z,hj⟩:=zc4 (λq:Addr×(Int×Int)=>WT q.1) ae ks rfl;have aa:∀q∈g,H q.1=some (.tup [.int q.2.1,.int q.2.2]):=λq L=>hT q (z.mem_iff.mp L);have D:(g.map (·.2)).Nodup:=(z.map (·.2)).nodup_iff.mpr ak;have av:g.length=ks.length:=z.length_eq;have au:f.length=g.length:=by rw[hj,ZB]
 have rv:∀{g:List (Addr×(Int×Int))},Vals (g.map λq=>V.ref q.1) (g.map λq=>WT q.1):=λ{g}=>by
  induction g with
  | nil=>exact .nil
  | cons a t ih=>exact .cons rfl ih
 have ht:∀{g:List (Addr×(Int×Int))},(∀q∈g,H q.1=some (.tup [.int q.2.1,.int q.2.2]))->yO H (g.map λq=>V.ref q.1) (g.map (·.2)):=λ{g}=>by
  induction g with
  | nil=>exact λ_=>.nil
  | cons a t ih=>exact λh=>.cons ⟨a.1,rfl,h a XQ⟩ (ih λq L=>h q (XT _ L))
 have j:Xl (zD s.heap) f (g.map (·.2)):=by
  rw[hj];exact yO.pairs I (ht aa) rv
 generalize af:g.map (·.2)=ps at j D;have ax:f.length=ps.length:=Paired.length j;have W:=GS.zmn;have ip:∀q:Addr×(Int×Int),H q.1=some (.tup [.int q.2.1,.int q.2.2])->zD s.heap (.ref q.1) q.2:=λq L=>by
  have:=yO.pairs I (.cons ⟨q.1,rfl,L⟩ .nil:yO H [V.ref q.1] [q.2]) (.cons rfl .nil:Vals [V.ref q.1] [WT q.1]);cases this with
  | cons h _=>exact h
 classical
 let r:X9->Int:=λv=>if h:∃k,zD s.heap v k then GS.rkK lt2 ps h.choose else 0
 have B:∀{v:X9} {k:Int×Int},zD s.heap v k->r v=GS.rkK lt2 ps k:=λ{v k} h=>by
  have M:∃k,zD s.heap v k:=⟨k,h⟩;show (if h:∃k,zD s.heap v k then GS.rkK lt2 ps h.choose else 0)=_;rw[dif_pos M,GS.zfC M.choose_spec h]
 have small:f.length<=XA:=by rw[TV];lia
 refine Y1 (Ox ?_ small);have ac:(h1.push (Us "list" f.toArray 0)).get? h1.objs.size=some (Us "list" f.toArray 0):=Xc _ rfl;have kL:∀b o,s.heap.get? b=some o->(h1.push (Us "list" f.toArray 0)).get? b=some o:=λb o e=>XV _ (ah b o e);have ne:∀b o,s.heap.get? b=some o->b≠h1.objs.size:=λb o e=>Xi (XB (ah b o e));show Xj _ _ _ _ _ { s with heap:=h1.push (Us "list" f.toArray 0),toks:=tk };refine Y1 (VT (U7 slot_list_sort ⟨_,ac,rfl⟩ entry_list_sort (GS.zeI (s:={ s with heap:=h1.push (Us "list" f.toArray 0),toks:=tk }) ac small r (λh2 s' kk=>?_) ?_) (args_list_sort _)))
 .have al:=Yo (λb o e=>kk b o (ne b o e) (kL b o e)) j;obtain⟨fs,hk,ar,hint⟩:=Yp al;refine kat_kind (T:=.type "int") hk (by lia) (λv hv=>?_) (by decide) ⟨rfl,λx M y hy C hC=>?_⟩
  .obtain⟨x,t,rfl⟩:=hint v hv;exact Looks.of_pure rfl
  .have mx:x.1∈f:=by
    rw[Ux]at M;exact(R3 M).2
   have my:y.1∈f:=by
    rw[Ux]at hy;exact(R3 hy).2
   obtain⟨k,k1,k2⟩:=GS.JW j x.1 mx;obtain⟨k',ay,ag⟩:=GS.JW j y.1 my;have kp:∀{v:X9} {k:Int×Int},zD s.heap v k->zD s'.heap v k:=λ{v k} ⟨a,o,n,t,u,e,e1,r⟩=>⟨a,o,n,t,u,e,kk _ _ (ne _ _ e1) (kL _ _ e1),r⟩;have Y:C (decide (r x.1<r y.1)) s':=hC;rw[B k2,B ag,<- W.rank k1]at Y;exact zjd (kp k2) (kp ag) Y
 .intro ws h' c E hs kk ha;obtain⟨p,i,ej⟩:=zc4 (λq:Addr×(Int×Int)=>WT q.1) E g hj;have hD:H h1.objs.size=none:=I.hok.fresh aj;have J:∀q∈p,H q.1=some (.tup [.int q.2.1,.int q.2.2]):=λq L=>aa q (i.mem_iff.mp L);have ai:Vals (p.map λq=>V.ref q.1) ws:=by
   rw[ej];exact rv
  have N:(p.map (·.2)).Nodup:=(i.map (·.2)).nodup_iff.mpr (by rw[af];exact D);have an:Up2 (p.map (·.2)):=by
   unfold Up2;unfold Op at N;rw[Wh]at N ⊢;rw[ej,Wh]at hs;refine(hs.and N).imp_of_mem λ{x y} M hy ⟨h1,h2⟩=>?_;rw[B (ip x (J x M)),B (ip y (J y hy))]at h1;have my:y.2∈ps:=by
    rw[<- af];exact XI.mpr ⟨y,i.mem_iff.mp hy,rfl⟩
   have e1:lt2 y.2 x.2=false:=by
    rw[W.rank my];exact bf (by lia)
   have e2:=zcz h2;rw[e1]at e2;cases hh:lt2 x.2 y.2 with
   | true=>rfl
   | false =>
    rw[hh]at e2;cases e2
  refine⟨_,rfl,XR ⟨_,rfl,.ref h1.objs.size,upd H h1.objs.size (.lst (p.map λq=>V.ref q.1)),I.laid (t':=tk) (λb o e=>kk b o (ne b o e) (kL b o e)) aj ⟨?_,_,c,ai,ha⟩,rfl,q _ _ _ hD (ht J) ((i.trans z).map _) an⟩⟩;rw[ai.length,E.length_eq];exact small
end ST
section
variable {K:XX}{g:TG}{tc:TT}{te:TE}{Q:VK}{σ:St}{H:Hp}{D:Addr}
def zmq {a:Addr}{xs:AF}(Pv:Nat->St->Hp->Prop)(h0:Pv 0 σ H)(r:∀i σ H,i<=xs.length->Pv i σ H->SqT K H a xs)
  (s:∀i x σ H,xs[i]?=some x->Pv i σ H->g x σ H fun c l=>tc c l λb f=>if b=true then te c f λy h=>∃ys,h D=some (.lst ys)/\ys.length<XA/\Pv (i+1) c (upd h D (.lst (ys++[y]))) else Pv (i+1) c f)
  (n:∀ σ H,Pv xs.length σ H->Q (.ref D) H):yh (Itt K a) g tc te Q D σ H:=by
 refine⟨λi m σ H=>m=xs.length-i/\i<=xs.length/\Pv i σ H,⟨xs.length,by simp,WY _,h0⟩,?_⟩;rintro i m σ H ⟨rfl,o,p⟩;have q:=r i σ H o p;by_cases d:i<xs.length
 .refine .inr ⟨⟨xs,xs[i],q,by simp[d]⟩,Pv (i+1),fun v j u=>⟨xs.length-(i+1),by lia,rfl,d,u⟩,λx j y=>?_⟩;obtain⟨e,y⟩:=y;subst e;exact s i x σ _ (y xs q) p
 .have e:i=xs.length:=by lia
  subst e;exact .inl ⟨⟨xs,q,XU _⟩,n σ H p⟩
end
inductive Rd1 (σ:St)(i:Nat)(Q:VK)(H:Hp):Prop
 | mk (v:V) (h:σ[i]?=some (some v)) (q:Q v H):Rd1 σ i Q H
def tVS (i:Nat):TE:=fun a H Q=>Rd1 a i Q H
section
variable {X:Cx}
def pvS (i:Nat){x:Str}{pos:Pos}(c:X.N[i]?=some x:=by rfl)(f:Vis X.env.scope x:=by first | exact VL rfl | exact Pn (VL rfl) | exact Pn (Pn rfl))(d:(x==("__debug__":Str))=false:=by decide)
  (a:(x==("__classdict__":Str))=false:=by decide):PE X (.Name x pos) (tVS i):=by
 intro b s g H Q I h;obtain⟨v,e,q⟩:=h;exact pv i c f d a b s g H Q I ⟨v,e,q⟩
def OpR.imp {f:X9->X9->Sem X9}{r a:R2}(h:OpR X f r)(k:∀x y H Q,a x y H Q->r x y H Q):OpR X f a:=λb s e H x y v u Q I c d z=>h b s e H x y v u Q I c d (k x y H Q z)
def IxR.imp {r c:R2}(h:IxR X r)(k:∀x y H Q,c x y H Q->r x y H Q):IxR X c:=λb a d s i H x y v u Q I f g z e=>h b a d s i H x y v u Q I f g (k x y H Q z) e
inductive SI0 (g:Int->Int->V)(x y:V)(H:Hp)(Q:VK):Prop
 | mk (i j:Int) (hx:x=.int i) (hy:y=.int j) (q:Q (g i j) H):SI0 g x y H Q
inductive SI (C:Int->Int->Prop)(g:Int->Int->V)(x y:V)(H:Hp)(Q:VK):Prop
 | mk (i j:Int) (hx:x=.int i) (hy:y=.int j) (hc:C i j) (q:Q (g i j) H):SI C g x y H Q
def OpR.s0 {f:X9->X9->Sem X9}{g:Int->Int->V}(h:OpR X f (rI0 g)):OpR X f (SI0 g):=h.imp λ_ _ _ _ ⟨i,j,a,b,q⟩=>⟨i,j,a,b,q⟩
def OpR.s1 {f:X9->X9->Sem X9}{C:Int->Int->Prop}{g:Int->Int->V}(h:OpR X f (rI C g)):OpR X f (SI C g):=h.imp λ_ _ _ _ ⟨i,j,a,b,c,q⟩=>⟨i,j,a,b,c,q⟩
def Jq:OpR X (TY .Add) (SI0 λi j=>.int (i+j)):=yY.s0
def Zi:OpR X (TY .Sub) (SI0 λi j=>.int (i-j)):=Zv.s0
def zkO:OpR X (TY .FloorDiv) (SI JM λi j=>.int (i/j)):=yg.s1
def zqw:OpR X (Wr .Lt) (SI0 λi j=>.bl (decide (i<j))):=zgf.s0
def zfE:OpR X (Wr .LtE) (SI0 λi j=>.bl (decide (i<=j))):=zrx.s0
def zii:OpR X (Wr .Gt) (SI0 λi j=>.bl (decide (j<i))):=zpf.s0
inductive zqx (K:XX)(x y:V)(H:Hp)(Q:VK):Prop
 | mk (p:Addr) (xs:AF) (i:Int) (v:V) (hx:x=.ref p) (hy:y=.int i) (hq:SqL K H p xs) (he:atI xs i=some v) (q:Q v H):zqx K x y H Q
inductive zqy (K:XX)(x y:V)(H:Hp)(Q:VK):Prop
 | mk (p:Addr) (xs:AF) (i:Int) (v:V) (hx:x=.ref p) (hy:y=.int i) (hq:SqT K H p xs) (he:atI xs i=some v) (q:Q v H):zqy K x y H Q
inductive zrR (x y:V)(H:Hp)(Q:VK):Prop
 | mk (z:Str) (i:Int) (c:Nat) (hx:x=.str z) (hy:y=.int i) (hl:z.length<=XA) (he:atI z.cps.toList i=some c) (q:Q (.str ⟨#[c]⟩) H):zrR x y H Q
def xY:IxR X (zqx X.K):=ji.imp λ_ _ _ _ ⟨p,e,i,v,a,b,c,d,q⟩=>⟨p,e,i,v,a,b,c,d,q⟩
def zQ:IxR X (zqy X.K):=qN.imp λ_ _ _ _ ⟨p,e,i,v,a,b,c,d,q⟩=>⟨p,e,i,v,a,b,c,d,q⟩
def zjt:IxR X zrR:=zhP.imp λ_ _ _ _ ⟨z,i,c,a,b,d,e,q⟩=>⟨z,i,c,a,b,d,e,q⟩
def zbD {K:XX}(a:X.K=K):IxR X (zqx K):=a ▸ xY
def zmr {K:XX}(a:X.K=K):IxR X (zqy K):=a ▸ zQ
inductive SB (x:V)(Q:Bool->Hp->Prop)(H:Hp):Prop
 | mk (k:Bool) (h:x=.bl k) (q:Q k H):SB x Q H
def zqz (t:TE):TT:=fun b H Q=>t b H λx a=>SB x Q a
def z9 {op:NY}{r:R2}{a b:Expr}{f g:TE}{pos:Pos}(B:OpR X (Wr op) r)(p:PE X a f)(w:PE X b g)(A:Tv op b=false):PT X (.Compare a [op] [b] pos) (zqz (tOp r f g)):=by
 intro d s e H Q I h;refine SD (thn (p d s e H _ I h) λv s1 ⟨x,i,m,J,D⟩=>thn (w d s1 e i _ m D) λu N ⟨y,j,n,L,E⟩=>thn (B d N e j x y v u _ n J L E) λc O ⟨z,l,o,M,G⟩=>?_) A;obtain⟨k,rfl,q⟩:=G;cases M;exact Wi ⟨l,o,q⟩
inductive zqA (K:XX)(xs:AF)(H:Hp)(Q:VK):Prop
 | mk (p:Addr) (ys:AF) (hx:xs=[.ref p]) (hq:SqL K H p ys\/SqT K H p ys) (q:Q (.int ys.length) H):zqA K xs H Q
def zH:qM X (.builtin "len") (zqA X.K):=λc s g H e d Q I r ⟨p,f,a,b,q⟩=>qe c s g H e d Q I r ⟨p,f,a,b,q⟩
def zc8 {K:XX}(a:X.K=K):qM X (.builtin "len") (zqA K):=a ▸ zH
inductive zrS (x:V)(vs:AF)(H:Hp)(Q:VK):Prop
 | mk (l:Addr) (xs:AF) (y:V) (hx:x=.ref l) (hv:vs=[y]) (hl:H l=some (.lst xs)) (hz:xs.length<XA) (q:Q .non (upd H l (.lst (xs++[y])))):zrS x vs H Q
def JX:MtM X "list.append" zrS:=λe s m H x i v h Q I g f ⟨l,j,y,a,b,c,d,q⟩=>JC e s m H x i v h Q I g f ⟨l,j,y,a,b,c,d,q⟩
end
section
variable {X:Cx}{k k0:Nat}{f:Addr}{fd:XD}{ps:AE}{sp:Sp}{x:Str}{st:Stmt}{p pos:Pos}{e:Expr}{es:List Expr}{t:TA}
def pc0 (F:zU X.prog X.w X.K X.mg X.base CX0 k f fd ps sp)(i:ZF k0 X.A)(D:zm X.K X.mg x st ps f fd)(d:PA X (e::es) t)(hk:k<=k0:=by decide)(h:Gl X x:=by rfl)
  (a:(x==("__debug__":Str))=false:=by decide) (he:WS (e::es) X.env=(false,eval e X.env)::WS es X.env:=by rfl) (c:(Sw pos (WS es X.env)).any (·.1)=false:=by rfl) :
  PE X (.Call (.Name x p) (e::es) [] pos) (zph sp [] E0 t):=znQ F (i.mono hk) h D.g D.F.kp D.b .nil zrC d a he c
end
def yR:0<=XA:=by decide
def sz_1:1<=XA:=by decide
def yi:2<=XA:=by decide
def zij:3<=XA:=by decide
section
variable {X:Cx}{tg iter elt:Expr}{ifs:List Expr}{scope:UB}{pos:Pos}{N:AE}{src:List (Option Nat)}{cl:List (Str×Addr)}{wi:TI}{g:TG}{tc:TT}{te:TE}
def cP (a:scope.kind=.function:=by rfl)(b:∀y∈scope.names,y.2 ≠ .cell:=by decide+kernel)(c:∀y∈scope.names,y.2 ≠ .free:=by decide+kernel)(d:∀y∈scope.names,y.2=.local->scope.names.lookup y.1=some .local:=by decide+kernel)(e:src.length=N.length:=by rfl)(f:∀o∈src,o=none:=by decide):yN X N src scope []:=yN.plain a b c d e f
def cR (a:scope.kind=.function:=by rfl)(b:∀y∈scope.names,y.2 ≠ .cell:=by decide+kernel)(c:∀y∈scope.names,y.2=.local->scope.names.lookup y.1=some .local:=by decide+kernel)(d:(scope.names.all λy=>y.2 != .free || (X.env.cells.lookup y.1).isSome)=true:=by kernel_rfl)(e:src.length=N.length:=by rfl)
  (f:((N.zip src).all λq=>match q.2 with | none=>true | some j=>X.N[j]?==some q.1&&X.env.kindOf q.1==some .cell&&(UF scope X.env).names.lookup q.1==some .cell)=true:=by kernel_rfl):yN X N src scope (zaR (λx=>X.env.cells.lookup x) scope.names []):=yN.byRfl a b c d e f
def c1 {y:Str}(a:scope.kind=.function:=by rfl)(i:∀n g,RX n scope.names g=(y,n)::g:=by intro _ _;rfl)(l:∀h,Oa h scope.names=h.push { cls:=.type "cell",data:=.cell none }:=by intro _;rfl)(b:∀z∈scope.names,z.2=.cell->z.1=y:=by decide+kernel)(c:∀y∈scope.names,y.2=.local->scope.names.lookup y.1=some .local:=by decide+kernel)
  (d:(scope.names.all λy=>y.2 != .free || (X.env.cells.lookup y.1).isSome)=true:=by kernel_rfl) (e:src.length=N.length:=by rfl) (f:((N.zip src).all λq=>match q.2 with | none=>true | some j=>X.N[j]?==some q.1&&X.env.kindOf q.1==some .cell&&(UF scope X.env).names.lookup q.1==some .cell&&q.1 != y)=true:=by kernel_rfl):xK X N src scope (zaR (λx=>X.env.cells.lookup x) scope.names []) y:=xK.byRfl a i l b c d e f
def pgN (i:Nat){x:Str}(h:decide X.N.Nodup=true:=by kernel_rfl)(b:X.N[i]?=some x:=by rfl)(c:Loc X.env.scope x:=by first | exact VL rfl | exact Pn rfl)(a:X.fn x=true\/X.env.scope.names.lookup x=some .local:=by first | exact .inl rfl | exact .inr rfl):PG X (.Name x pos) (xU i):=zi6 (bg h) b c a
def pgq (i:Nat){x:Str}(h:X.N.Nodup)(b:X.N[i]?=some x:=by rfl)(c:Loc X.env.scope x:=by first | exact VL rfl | exact Pn rfl)(a:X.fn x=true\/X.env.scope.names.lookup x=some .local:=by first | exact .inl rfl | exact .inr rfl):PG X (.Name x pos) (xU i):=zi6 h b c a
def qA (i:Nat){x:Str}{e:Expr}{te:TE}{a:Pos}(b:X.N.Nodup)(he:PE X e te)(d:X.N[i]?=some x:=by rfl)(g:Loc X.env.scope x:=by first | exact VL rfl | exact Pn rfl)(f:RY e (some (.Name x a)) pos.line X.env=pure false:=by rfl)(c:X.fn x=true\/X.env.scope.names.lookup x=some .local:=by first | exact .inl rfl | exact .inr rfl):PS X (.Assign [.Name x a] e pos) (zlx te (xU i)):=qu b d g he f c
def pcm (N:AE)(src:List (Option Nat))(ok:yN X N src scope cl)(e:PI X tg iter wi)(d:∀{C fp b s H},PG (jz X N scope cl C fp b s H) tg g)(c:∀{C fp b s H},zcn (jz X N scope cl C fp b s H) ifs tc)(he:∀{C fp b s H},PE (jz X N scope cl C fp b s H) elt te)
  (a:X.calm=true:=by rfl) (f:∀x,VM iter X.env x=pure x:=by intro _;rfl):PE X (.ListComp elt [⟨tg,iter,ifs,0⟩] scope pos) (zb0 wi src g tc te):=znZ ok a e (λ_ _ _ _ _=>d) (λ_ _ _ _ _=>c) (λ_ _ _ _ _=>he) f
def zrT {y:Str}(N:AE)(src:List (Option Nat))(ok:xK X N src scope cl y)(e:PI X tg iter wi)(d:∀{C fp b s H},PG (yP X N scope cl y C fp b s H) tg g)(c:∀{C fp b s H},zcn (yP X N scope cl y C fp b s H) ifs tc)(he:∀{C fp b s H},PE (yP X N scope cl y C fp b s H) elt te)
  (a:X.calm=true:=by rfl) (f:∀x,VM iter X.env x=pure x:=by intro _;rfl):PE X (.ListComp elt [⟨tg,iter,ifs,0⟩] scope pos) (zb0 wi src g tc te):=zlU ok a e (λ_ _ _ _ _=>d) (λ_ _ _ _ _=>c) (λ_ _ _ _ _=>he) f
def psC (i:Nat){x:Str}{b a:Pos}(j:X.N.Nodup)(N:AE)(src:List (Option Nat))(ok:yN X N src scope cl)(n:PI X tg iter wi)(m:∀{C fp d s H},PG (jz X N scope cl C fp d s H) tg g)(l:∀{C fp d s H},zcn (jz X N scope cl C fp d s H) ifs tc)(he:∀{C fp d s H},PE (jz X N scope cl C fp d s H) elt te)
  (e:X.N[i]?=some x:=by rfl) (f:X.env.scope.names.lookup x=some .local:=by rfl) (c:X.calm=true:=by rfl) (o:∀x,VM iter X.env x=pure x:=by intro _;rfl) (h:RY (.ListComp elt [⟨tg,iter,ifs,0⟩] scope pos) (some (.Name x b)) a.line X.env=pure true:=by rfl) :
  PS X (.Assign [.Name x b] (.ListComp elt [⟨tg,iter,ifs,0⟩] scope pos) a) (zlx (zb0 wi src g tc te) (xU i)):=zn4 j e f ok c n (λ_ _ _ _ _=>m) (λ_ _ _ _ _=>l) (λ_ _ _ _ _=>he) o h
end
section
variable {X:Cx}{e:Expr}{te:TE}{x:Str}{p pos:Pos}{id T:String}{r:AF->Hp->VK->Prop}
def pb1 (b:qM X (.builtin id) r)(d:X.mg x=none)(g:UO x=some (.builtin id))(he:PE X e te)(c:Gl X x:=by rfl)(f:x ≠ "__name__":=by decide)(a:(x==("__debug__":Str))=false:=by decide)(h1:WS [e] X.env=(false,eval e X.env)::WS [] X.env:=by rfl):PE X (.Call (.Name x p) [e] [] pos) (tCB r (zel te zlE)):=yM b c d g (za he zd h1) f a h1 rfl
def pb2 {a:Expr}{d:TE}(f:qM X (.builtin id) r)(h:X.mg x=none)(j:UO x=some (.builtin id))(he:PE X e te)(h2:PE X a d)(g:Gl X x:=by rfl)(i:x ≠ "__name__":=by decide)(b:(x==("__debug__":Str))=false:=by decide)(h1:WS [e,a] X.env=(false,eval e X.env)::WS [a] X.env:=by rfl)(c:WS [a] X.env=(false,eval a X.env)::WS [] X.env:=by rfl):PE X (.Call (.Name x p) [e,a] [] pos) (tCB r (zel te (zel d zlE))):=yM f g h j (za he (za h2 zd c) h1) i b h1 (by rw[c];rfl)
def pt1 (b:qM X (.type T) r)(d:X.mg x=none)(g:UO x=some (.type T))(he:PE X e te)(c:Gl X x:=by rfl)(f:x ≠ "__name__":=by decide)(a:(x==("__debug__":Str))=false:=by decide)(h1:WS [e] X.env=(false,eval e X.env)::WS [] X.env:=by rfl):PE X (.Call (.Name x p) [e] [] pos) (tCB r (zel te zlE)):=zkg b c d g (za he zd h1) f a h1 rfl
def prg {c:Expr}(a:X.mg "range"=none)(he:PE X e te)(b:Gl X "range":=by rfl)(h1:WS [e] X.env=(false,eval e X.env)::WS [] X.env:=by rfl):PI X c (.Call (.Name "range" p) [e] [] pos) (zpe (zel te zlE)):=zka b a (za he zd h1) h1
end
section
variable {X:Cx}
def zoq {b:List Stmt}{h0:ExceptHandler}{j:List ExceptHandler}{e:TS}{pos:Pos}(i:PSs X.nox b e):PS X (.Try b (h0::j) [] [] pos) e:=by
 intro g s l H D I h;refine wpAny_Try_except (VY (i g s l H D (I.wish _) h) (λf s1 q=>?_) λ_ _ z=>VC z);cases f with
 | next =>
  obtain⟨a,c,d,q⟩:=q;exact Tq ⟨a,c,d.unwish,q⟩
 | brk =>
  obtain⟨a,c,d,q⟩:=q;exact⟨a,c,d.unwish,q⟩
 | cont =>
  obtain⟨a,c,d,q⟩:=q;exact⟨a,c,d.unwish,q⟩
 | ret u =>
  revert q;refine fM λv a c d r q=>?_;exact⟨v,a,c,d.unwish,r,q⟩
def zms {M:NZ}{A:WN}{E:X9->X7->Prop}{s:X7}{S e C:Addr}{bm:List X9}{j:Obj}{Q:Bool->X7->Prop}(O:zlR s.heap S bm)(he:s.heap.get? e=some j)(a:j.cls=.ref C)
  (m:PySem.W.Looks M s.heap (isSubtype (.ref C) (.ref S)) false) (p:Q false s):Xj M A (Os (.ref e) (.ref S)) Q E s:=by
 obtain⟨⟨N,G,H,bs,i,I,sub,r,l,u,w,x,y,z,B,D,c,v,o⟩,T⟩:=O;have n:=T.hasType PySem.F.excBase_ValueError.hasBase;obtain⟨h,g,d,t,os⟩:=s;have b:(WT S::bm).contains (.type "BaseException")=true:=by rw[List.contains_cons,n,Bool.or_true]
 have f:=tc_notTuple;unfold Os;repeat (first | (with_reducible refine SM he ?_;rw[a]) | with_reducible refine SM c ?_ | (with_reducible refine OP c ?_;rw[b]) | wp_step)
 refine m A _ E _ (λ_ _ q=>q) ?_;exact XR (XR (XR p))
def zqB (K:XX)(S g:Addr)(sp:Sp)(h:TA)(i b:TS):TS:=λD d H=>h d H λj f=>sp j f (λv a=>D.rt v a)
 (λc _ a=>∃C,c=.ref C/\((Wy K C (.ref S)=some true/\∀e,a e=none->i D d (upd a e (exO e C)))\/(Wy K C (.ref S)=some false/\Wy K C (.ref g)=some true/\∀e,a e=none->b D d (upd a e (exO e C)))))
def zmt {k:Nat}{f xS j:Str}{fA S S2:Addr}{fd:XD}{ps:AE}{sp:Sp}{ta:TA}{ts Y:TS}{e0:Expr}{G:List Expr}{fp cp ap al am hp ah pos:Pos}{b0 b2:Stmt}{d a:List Stmt}
  (i:X.stack=X.env::X.outer) (af:X.env.frame=some X.env.locals) (F:zU X.prog X.w X.K X.mg X.base (CXE X.prog X.w) k fA fd ps sp) (hr:ZF k X.A) (hg:Gl X f) (hm:X.mg f=some (.ref fA)) (hk:TU X.K (.ref fA)=true) (hb:Binds X.K fd ps [])
  (gS:Gl X xS) (O:Qc X.K X.mg xS S) (ab:Gl X j) (O2:Qc X.K X.mg j S2) (ha:PA X.nox (e0::G) ta) (hs:∀e,PSs (markX X e) (b0::d) ts) (aj:∀e,PSs (markX X e) (b2::a) Y)
  (he:WS (e0::G) X.env=(false,eval e0 X.env)::WS G X.env:=by rfl) (ai:(Sw cp (WS G X.env)).any (·.1)=false:=by rfl) (ae:(f==("__debug__":Str))=false:=by decide) (ac:(xS==("__debug__":Str))=false:=by decide) (J:(j==("__debug__":Str))=false:=by decide) :
  PS X (.Try [.Return (some (.Call (.Name f fp) (e0::G) [] cp)) ap] [.ExceptHandler (some (.Name xS al)) none (b0::d) hp,.ExceptHandler (some (.Name j am)) none (b2::a) ah] [] [] pos) (zqB X.K S S2 sp ta ts Y):=by
 intro bz s σ H D I h;refine wpAny_Try_except (Sv ?_);refine wpAny_Return_some (Tf (QJ I hg hm ?_ ae));refine PySem.W.callWith_K (h₀:=X.base) I.ok.mod.kin hk (VY (ha cp bz s σ H _ (I.wish _) h) (λus s1 ⟨vs,H1,E,r,q⟩=>⟨E.kIn,?_⟩) λ_ _ z=>VC z) he ai;have x:Inv X bz σ H1 s1:=E.unwish;have L:us.length=ps.length:=by rw[<- r.length];exact F.len _ _ _ _ q
 have bt:=hb s1 us x.kIn (by rw[Xf];exact L);rw[Xf]at bt;refine wpAny_call (SS (F.run X.A X.stack s1 H1 ⟨us,[]⟩ us vs _ _ hr x.env0 bt r q) λak s' M=>?_);cases ak with
 | ok fl =>
  cases fl with
  | ret u =>
   refine fH (λv H2 I2 rv U=>?_) (x.after M);exact⟨v,σ,H2,I2,rv,U⟩
  | next=>exact VC M
  | brk=>exact VC M
  | cont=>exact VC M
 | error y =>
  revert M;refine gh λe C a0 B H'=>fG λz0 Fl C' ec c=>?_;subst z0;cases ec;have ff:=Fl.fly;rw[i]at ff;refine wpAny_looks_onW (by rw[x.ok.frames,i]) af ff λh4 ar an=>?_;refine wpAny_landsW ar λh5 o ao=>?_;have up:=an.trans ao;have m:=Fl.caught x (h:=h5) (by rw[i];exact o) up;refine OI (Pq (QJ (X:=markX X e) (m.mark e) gS O.g ?_ ac)) (by intro z;cases z);obtain⟨bm,OS⟩:=zlS m.kIn O.q;refine fm (λoe aw q1 U q3 _=>?_) o.first;rcases c with ⟨c,Q⟩ | ⟨ag,c,Q⟩
  case' inl =>
   refine zje OS q1 U (R6 m.kIn c) (PJ ?_)
   have N:=hs
  case' inr =>
   refine zms OS q1 U (R6 m.kIn ag) ?_
   refine OI (Pq (QJ (X:=markX X e) (m.mark e) ab O2.g ?_ J)) (by intro z;cases z)
   obtain⟨av,aa⟩:=zlS m.kIn O2.q
   refine zje aa q1 U (R6 m.kIn c) (PJ ?_)
   have N:=aj
  all_goals
   refine lands_againW o λh6 au aq=>?_
   have I6:=Fl.caught x (h:=h6) (by rw[i];exact au) (up.trans aq)
   refine VY (N e bz _ _ _ _ (I6.mark e) (Q e Fl.free)) (λfl s8 b=>?_) λ_ _ z=>z.elim
   cases fl with
   | next =>
    obtain⟨p,l,n,b⟩:=b;exact⟨_,l,n.unmark I.ok,b⟩
   | brk =>
    obtain⟨p,l,n,b⟩:=b;exact⟨_,l,n.unmark I.ok,b⟩
   | cont =>
    obtain⟨p,l,n,b⟩:=b;exact⟨_,l,n.unmark I.ok,b⟩
   | ret u =>
    revert b;refine fM λv8 p l n r8 b=>?_;exact⟨v8,_,l,n.unmark I.ok,r8,b⟩
end
def zor {X:Cx}:OpR X (Wr .IsNot) (λx y H Q=>x=.bl true/\y=.bl true/\Q (.bl false) H):=by
 intro c s d H x y v u Q I a b h;obtain⟨rfl,rfl,q⟩:=h;cases a;cases b;exact wpAny_isNot_self rfl (qi I q rfl)
end L2
namespace Cells
def zK (p:Nat->Bool)(i:Nat):Nat->List Nat->AD
 | _,[]=>[]
 | j,c::r=>(if p c=true then [(i,j)] else [])++zK p i (j+1) r
def zE (p:Nat->Bool):Nat->List (List Nat)->AD
 | _,[]=>[]
 | i,t::r=>zK p i 0 t++zE p (i+1) r
theorem Yt (p:Nat->Bool)(i:Nat):∀(j:Nat) (a b:List Nat),zK p i j (a++b)=zK p i j a++zK p i (j+a.length) b
 | j,[],b=>by simp[zK]
 | j,c::a,b=>by
  simp only[Rh,zK,Yt p i (j+1) a b,Xo,W2];rw[show j+1+a.length=j+(a.length+1) by lia]
theorem Yu (p:Nat->Bool):∀(i:Nat) (a b:List (List Nat)),zE p i (a++b)=zE p i a++zE p (i+a.length) b
 | i,[],b=>by simp[zE]
 | i,t::a,b=>by
  simp only[Rh,zE,Yu p (i+1) a b,Xo,W2];rw[show i+1+a.length=i+(a.length+1) by lia]
def Yv {p:Nat->Bool}{i j c:Nat}{t:List Nat}(h:t[j]?=some c):zK p i 0 (t.take (j+1))=zK p i 0 (t.take j)++(if p c=true then [(i,j)] else []):=by
 rw[Xx,h,Yt];have a:(t.take j).length=j:=by
  have:=(X4.mp h).1;rw[XN];lia
 simp[zK,a]
def Yw {p:Nat->Bool}{i:Nat}{t:List Nat}{rs:List (List Nat)}(h:rs[i]?=some t):zE p 0 (rs.take (i+1))=zE p 0 (rs.take i)++zK p i 0 t:=by
 rw[Xx,h,Yu];have a:(rs.take i).length=i:=by
  have:=(X4.mp h).1;rw[XN];lia
 simp[zE,a]
theorem jB (p:Nat->Bool)(i:Nat):∀(j:Nat) (t:List Nat),(zK p i j t).length<=t.length
 | j,[]=>by simp[zK]
 | j,c::r=>by
  have:=jB p i (j+1) r;simp only[zK,XY,Xo];split<;>simp<;>lia
theorem qE (p:Nat->Bool):∀(i:Nat) (rs:List (List Nat)),(∀t∈rs,t.length<=8)->(zE p i rs).length<=8*rs.length
 | i,[],_=>by simp[zE]
 | i,t::r,h=>by
  have h1:=jB p i 0 t;have h2:=qE p (i+1) r λu a=>h u (XT _ a);have b:=h t XQ;simp only[zE,XY,Xo];lia
theorem JE {p:Nat->Bool}{i:Nat}:∀{j:Nat} {t:List Nat} {x:AA},x∈zK p i j t->∃m c,x=(i,j+m)/\t[m]?=some c/\p c=true
 | j,[],x,h=>by simp[zK]at h
 | j,c::r,x,h=>by
  simp only[zK,XO]at h;rcases h with h | h
  .split at h
   .rename_i hp;have:x=(i,j):=by simpa using h
    exact⟨0,c,this,rfl,hp⟩
   .cases h
  .obtain⟨m,a,e,h1,h2⟩:=JE h;exact⟨m+1,a,by rw[e,show j+1+m=j+(m+1) by lia],by simpa using h1,h2⟩
def yE {p:Nat->Bool}{i:Nat}{rs:List (List Nat)}{x:AA}(h:x∈zE p i rs):∃k j t c,x=(i+k,j)/\rs[k]?=some t/\t[j]?=some c/\p c=true:=by
 induction rs generalizing i with
 | nil=>simp[zE]at h
 | cons t r b =>
  simp only[zE,XO]at h;rcases h with h | h
  .obtain⟨m,c,e,h1,h2⟩:=JE h;exact⟨0,m,t,c,by simpa using e,rfl,h1,h2⟩
  .refine fN (λk j u c e h1 h2 a=>?_) (b h);exact⟨k+1,j,u,c,by rw[e,show i+1+k=i+(k+1) by lia],by simpa using h1,h2,a⟩
def sgn (rs:List (List Nat))(x:AA):Nat:=(rs.getD x.1 []).getD x.2 0
theorem za1 {p q:Nat->Bool}{i:Nat}(f:AA->Bool):∀(j:Nat) (t:List Nat),(∀m c,t[m]?=some c->f (i,j+m)=q c)->(zK p i j t).filter f=zK (λc=>p c&&q c) i j t
 | j,[],_=>by simp[zK]
 | j,c::r,h=>by
  have g:=za1 (p:=p) (q:=q) (i:=i) f (j+1) r λm d e=>by
   have:=h (m+1) d (by simpa using e);rw[show j+1+m=j+(m+1) by lia];exact this
  have h0:=h 0 c rfl;simp only[zK,WX,g];congr 1;simp only[PZ]at h0;by_cases a:p c=true
  .by_cases b:q c=true
   .simp[a,b,h0]
   .simp[a,b,h0]
  .simp[a]
theorem za2 {p q:Nat->Bool}(f:AA->Bool):∀(i:Nat) (rs:List (List Nat)),(∀k t m c,rs[k]?=some t->t[m]?=some c->f (i+k,m)=q c)->(zE p i rs).filter f=zE (λc=>p c&&q c) i rs
 | i,[],_=>by simp[zE]
 | i,t::r,h=>by
  have b:=za2 (p:=p) (q:=q) f (i+1) r λk u m c hk a=>by
   have:=h (k+1) u m c (by simpa using hk) a;rw[show i+1+k=i+(k+1) by lia];exact this
  simp only[zE,WX,b];rw[za1 (p:=p) (q:=q) f 0 t λm c a=>by simpa using h 0 t m c rfl a]
def zc9 {rs:List (List Nat)}{i j:Nat}{t:List Nat}{c:Nat}(h:rs[i]?=some t)(h2:t[j]?=some c):sgn rs (i,j)=c:=by
 unfold sgn;simp[List.getD,h,h2]
def all_filter {p q:Nat->Bool}(rs:List (List Nat)):(zE p 0 rs).filter (λx=>q (sgn rs x))=zE (λc=>p c&&q c) 0 rs :=
 za2 _ 0 rs λk t m c hk a=>by rw[show 0+k=k by lia,zc9 hk a]
def Qi {p q:Nat->Bool}(h:∀c,p c=q c)(i:Nat)(rs:List (List Nat)):zE p i rs=zE q i rs:=by
 rw[show p=q from funext h]
def near (x y:AA):Bool:=decide ((if (x.1:Int)-(y.1:Int)<0 then -((x.1:Int)-(y.1:Int)) else (x.1:Int)-(y.1:Int))<2)&&(decide ((if (x.2:Int)-(y.2:Int)<0 then -((x.2:Int)-(y.2:Int)) else (x.2:Int)-(y.2:Int))<2) && !decide (x=y))
def yS (x y:AA):near x y=true↔(x.1<=y.1+1/\y.1<=x.1+1)/\(x.2<=y.2+1/\y.2<=x.2+1)/\¬ x=y:=by
 unfold near;rw[WH,WH,decide_eq_true_iff,decide_eq_true_iff,WF,decide_eq_false_iff_not];constructor
 .rintro⟨h1,h2,h3⟩;refine⟨?_,?_,h3⟩
  .split at h1<;>lia
  .split at h2<;>lia
 .rintro⟨h1,h2,h3⟩;refine⟨?_,?_,h3⟩
  .split<;>lia
  .split<;>lia
def zkP (x y:AA):near x y=near y x:=by
 rw[WV,yS,yS];constructor
 .rintro⟨⟨a,b⟩,⟨c,d⟩,e⟩;exact⟨⟨b,a⟩,⟨d,c⟩,λz=>e z.symm⟩
 .rintro⟨⟨a,b⟩,⟨c,d⟩,e⟩;exact⟨⟨b,a⟩,⟨d,c⟩,λz=>e z.symm⟩
def lex (a b:AA):Prop:=a.1<b.1\/(a.1=b.1/\a.2<b.2)
theorem zeL (p:Nat->Bool)(i:Nat):∀(j:Nat) (t:List Nat),(zK p i j t).Pairwise lex
 | j,[]=>by simp[zK]
 | j,c::r=>by
  simp only[zK];rw[TN];refine⟨?_,zeL p i (j+1) r,λa d b g=>?_⟩
  .split<;>simp
  .split at d
   .have e:a=(i,j):=by simpa using d
    obtain⟨m,h,f,_,_⟩:=JE g;subst e f;exact .inr ⟨rfl,by show j<j+1+m;lia⟩
   .cases d
theorem JF (p:Nat->Bool):∀(i:Nat) (rs:List (List Nat)),(zE p i rs).Pairwise lex
 | i,[]=>by simp[zE]
 | i,t::r=>by
  simp only[zE];rw[TN];refine⟨zeL p i 0 t,JF p (i+1) r,λa f b g=>?_⟩;obtain⟨m,c,e,_,_⟩:=JE f;obtain⟨k,j,u,h,d,_,_,_⟩:=yE g;subst e d;exact .inl (by show i<i+1+k;lia)
def zmu {p:Nat->Bool}{f:AA->Bool}{n:Nat}{rs:List (List Nat)}(h:∀r c,r<n->f (r,c)=false):(zE p 0 (rs.take n)).filter f=[]:=by
 rw[Wg];intro x b;obtain⟨k,j,t,c,e,hk,_,_⟩:=yE b;have a:k<n:=by
  have:=(X4.mp hk).1;rw[XN]at this;lia
 subst e;rw[h _ _ (by lia)];exact XS
def zkQ {p:Nat->Bool}{f:AA->Bool}{n:Nat}{rs:List (List Nat)}(h:∀r c,n<=r->f (r,c)=false):(zE p 0 (rs.take n)).filter f=(zE p 0 rs).filter f:=by
 by_cases d:n<=rs.length
 .have e:=W7 n rs;have a:zE p 0 rs=zE p 0 (rs.take n)++zE p (0+(rs.take n).length) (rs.drop n):=by rw[<- Yu,e]
  rw[a,WX];have z:(zE p (0+(rs.take n).length) (rs.drop n)).filter f=[]:=by
   rw[Wg];intro x b;obtain⟨k,j,t,c,e,hk,_,_⟩:=yE b;subst e;rw[XN,h _ _ (by lia)];exact XS
  rw[z,Xf]
 .rw[WR (by lia)]
def zmv {p:Nat->Bool}{f:AA->Bool}{i n:Nat}{t:List Nat}(h:∀c,c<n->f (i,c)=false):(zK p i 0 (t.take n)).filter f=[]:=by
 rw[Wg];intro x d;obtain⟨m,c,e,a,_⟩:=JE d;have b:m<n:=by
  have:=(X4.mp a).1;rw[XN]at this;lia
 subst e;rw[h _ (by lia)];exact XS
def zkR {p:Nat->Bool}{f:AA->Bool}{i n:Nat}{t:List Nat}(h:∀c,n<=c->f (i,c)=false):(zK p i 0 (t.take n)).filter f=(zK p i 0 t).filter f:=by
 by_cases g:n<=t.length
 .have e:=W7 n t;have a:zK p i 0 t=zK p i 0 (t.take n)++zK p i (0+(t.take n).length) (t.drop n):=by rw[<- Yt,e]
  rw[a,WX];have z:(zK p i (0+(t.take n).length) (t.drop n)).filter f=[]:=by
   rw[Wg];intro x b;obtain⟨m,c,e,d,_⟩:=JE b;subst e;rw[XN,h _ (by lia)];exact XS
  rw[z,Xf]
 .rw[WR (by lia)]
end Cells
namespace Parts
abbrev C:=AA
structure Good (cl:C->List C)(done:List C)(gs:List (List C)):Prop where
 ne:∀g∈gs,g ≠ []
 nd:gs.flatten.Nodup
 from_:∀x∈gs.flatten,∃o∈done,x∈cl o
 cov:∀o∈done,cl o ≠ []->∃g∈gs,∀x∈cl o,x∈g
 con:∀g∈gs,∀S:C->Prop,(∀o∈done,(∃x∈cl o,S x)->∀x∈cl o,S x)->(∃x∈g,S x)->∀x∈g,S x
 srt:∀g∈gs,g.Pairwise Cells.lex
def Good.start (a:C->List C):Good a [] []:=⟨(λ_ h=>nomatch h),Vn,(λ_ h=>nomatch h),(λ_ h=>nomatch h),(λ_ h=>nomatch h),(λ_ h=>nomatch h)⟩
def Good.skip {a:C->List C}{done:List C}{gs:List (List C)}(G:Good a done gs){o:C}(h:a o=[]):Good a (done++[o]) gs:=by
 refine⟨G.ne,G.nd,λx b=>?_,λp hp c=>?_,λg f S d=>G.con g f S λp hp=>d p (W1 _ hp),G.srt⟩
 .obtain⟨p,hp,b⟩:=G.from_ x b;exact⟨p,W1 _ hp,b⟩
 .rcases XO.mp hp with hp | hp
  .exact G.cov p hp c
  .have e:p=o:=by simpa using hp
   subst e;exact absurd h c
def zeM {gs:List (List C)}(j:gs.flatten.Nodup):∀{g g':List C} {x:C},g∈gs->g'∈gs->x∈g->x∈g'->g=g':=by
 induction gs with
 | nil=>intro g g' x h;cases h
 | cons a r m =>
  rw[Wz,WL]at j;obtain⟨_,h2,i⟩:=j;intro g g' x l c e b;rcases XH.mp l with f | g1
  .rcases XH.mp c with d | g2
   .rw[f,d]
   .exact absurd rfl (i x (f ▸ e) x (WA.mpr ⟨g',g2,b⟩))
  .rcases XH.mp c with d | g2
   .exact absurd rfl (i x (d ▸ b) x (WA.mpr ⟨g,g1,e⟩))
   .exact m h2 g1 g2 e b
theorem qQ (p:List C->Bool):∀gs:List (List C),(gs.filter p).flatten.Sublist gs.flatten
 | []=>List.Sublist.refl _
 | a::r=>by
  rw[WE,Wz];split
  .rw[Wz];exact List.Sublist.append (List.Sublist.refl _) (qQ p r)
  .exact List.Sublist.trans (qQ p r) (RE _ _)
def meets (a g:List C):Bool:=!(g.filter λc=>a.any λx=>decide (x=c)).isEmpty
def ZR {a g:List C}:meets a g=true ↔ ∃x∈g,x∈a:=by
 unfold meets;rw[WF,UU];constructor
 .intro h;obtain⟨x,b⟩:=TD _ h;rw[XW,WG]at b;obtain⟨h1,y,h2,d⟩:=b;have e:y=x:=bg d;subst e;exact⟨y,h1,h2⟩
 .rintro⟨x,h1,h2⟩ hn;have:x∈g.filter λc=>a.any λx=>decide (x=c):=XW.mpr ⟨h1,WG.mpr ⟨x,h2,br rfl⟩⟩;rw[hn]at this;cases this
def whole (w:List C):List (List C)->List C
 | []=>w
 | g::r=>whole (w++g.filter λc=>!(w.any λx=>decide (x=c))) r
def za3 (w:List C)(c:C):(w.any λx=>decide (x=c))=true↔c∈w:=by
 rw[WG];constructor
 .rintro⟨x,h1,h2⟩;have e:x=c:=bg h2;subst e;exact h1
 .intro h;exact⟨c,h,br rfl⟩
theorem zbE {x:C}:∀{w:List C} {b:List (List C)},x∈whole w b↔x∈w\/∃m∈b,x∈m
 | w,[]=>by simp[whole]
 | w,g::r=>by
  rw[whole,zbE,XO,XW];constructor
  .rintro((h | ⟨h,_⟩) | ⟨m,hm,h⟩)
   .exact .inl h
   .exact .inr ⟨g,XQ,h⟩
   .exact .inr ⟨m,XT _ hm,h⟩
  .rintro(h | ⟨m,hm,h⟩)
   .exact .inl (.inl h)
   .rcases XH.mp hm with rfl | hm
    .by_cases a:x∈w
     .exact .inl (.inl a)
     .refine .inl (.inr ⟨h,?_⟩);rw[WF,Xs];exact λz=>a ((za3 w x).mp z)
    .exact .inr ⟨m,hm,h⟩
theorem Qj:∀{w:List C} {i:List (List C)},w.Nodup->(∀m∈i,m.Nodup)->(whole w i).Nodup
 | w,[],h,_=>h
 | w,g::r,h,f=>by
  rw[whole];refine Qj ?_ λm d=>f m (XT _ d);rw[WL];refine⟨h,(f g XQ).sublist W5,λa j b l e=>?_⟩;subst e;have c:=(XW.mp l).2;rw[(za3 w a).mpr j]at c;cases c
def Good.step {c:C->List C}{done:List C}{gs:List (List C)}(G:Good c done gs){o:C}(h:c o ≠ [])(Q:(c o).Nodup){d:List (List C)}{w:List C}(H:d=gs.filter λg=>!((gs.filter (meets (c o))).any λm=>decide (m=g)))
  (I:w.Perm (whole (c o) (gs.filter (meets (c o))))) (U:w.Pairwise Cells.lex):Good c (done++[o]) (d++[w]):=by
 have r:∀g,g∈d↔g∈gs/\¬ ∃x∈g,x∈c o:=λg=>by
  rw[H,XW,WF,Xs];constructor
  .rintro⟨h1,h2⟩;exact⟨h1,λj=>h2 (WG.mpr ⟨g,XW.mpr ⟨h1,ZR.mpr j⟩,br rfl⟩)⟩
  .rintro⟨h1,h2⟩;refine⟨h1,λj=>?_⟩;obtain⟨m,i,e⟩:=WG.mp j;have J:m=g:=bg e;subst J;exact h2 (ZR.mp (XW.mp i).2)
 have q:∀x,x∈w↔x∈c o\/∃g∈gs,(∃y∈g,y∈c o)/\x∈g:=λx=>by
  rw[I.mem_iff,zbE];constructor
  .rintro(h1 | ⟨m,i,h1⟩)
   .exact .inl h1
   .obtain⟨h2,j⟩:=XW.mp i;exact .inr ⟨m,h2,ZR.mp j,h1⟩
  .rintro(h1 | ⟨g,h2,j,h1⟩)
   .exact .inl h1
   .exact .inr ⟨g,XW.mpr ⟨h2,ZR.mpr j⟩,h1⟩
 have M:∀g∈gs,g.Nodup:=λg hg=>G.nd.sublist (VF hg);have wn:w.Nodup:=I.nodup_iff.mpr (Qj Q λm i=>M m (XW.mp i).1);refine⟨λg hg=>?_,?_,λx hx=>?_,λp hp A=>?_,λg hg S E=>?_,λg hg=>?_⟩
 .rcases XO.mp hg with hg | hg
  .exact G.ne g ((r g).mp hg).1
  .have e:g=w:=by simpa using hg
   subst e;obtain⟨x,hx⟩:=TD _ h;exact S8 ((q x).mpr (.inl hx))
 .rw[Ww,WL];refine⟨G.nd.sublist (by rw[H];exact qQ _ gs),by simpa using wn,λa N b O e=>?_⟩;subst e;have v:a∈w:=by simpa using O
  obtain⟨g,hg,hx⟩:=WA.mp N;obtain⟨g1,g2⟩:=(r g).mp hg;rcases(q a).mp v with h1 | ⟨m,s,m2,u⟩
  .exact g2 ⟨a,hx,h1⟩
  .have e:=zeM G.nd g1 s hx u;subst e;exact g2 m2
 .rw[Ww]at hx;rcases XO.mp hx with hx | hx
  .obtain⟨g,hg,hx⟩:=WA.mp hx;obtain⟨p,hp,hx⟩:=G.from_ x (WA.mpr ⟨g,((r g).mp hg).1,hx⟩);exact⟨p,W1 _ hp,hx⟩
  .have n:x∈w:=by simpa using hx
   rcases(q x).mp n with h1 | ⟨g,g1,_,L⟩
   .exact⟨o,by simp,h1⟩
   .obtain⟨p,hp,hx⟩:=G.from_ x (WA.mpr ⟨g,g1,L⟩);exact⟨p,W1 _ hp,hx⟩
 .rcases XO.mp hp with hp | hp
  .obtain⟨g,hg,hx⟩:=G.cov p hp A;by_cases i:∃x∈g,x∈c o
   .exact⟨w,by simp,λx n=>(q x).mpr (.inr ⟨g,hg,i,hx x n⟩)⟩
   .exact⟨g,W1 _ ((r g).mpr ⟨hg,i⟩),hx⟩
  .have e:p=o:=by simpa using hp
   subst e;exact⟨w,by simp,λx hx=>(q x).mpr (.inl hx)⟩
 .have l:∀p∈done,(∃x∈c p,S x)->∀x∈c p,S x:=λp hp=>E p (W1 _ hp);rcases XO.mp hg with hg | hg
  .exact G.con g ((r g).mp hg).1 S l
  .have e:g=w:=by simpa using hg
   subst e;rintro⟨x,hx,sx⟩;have f:∀y∈c o,S y:=by
    refine E o (by simp) ?_;rcases(q x).mp hx with h1 | ⟨m,s,⟨y,B,D⟩,u⟩
    .exact⟨x,h1,sx⟩
    .exact⟨y,D,G.con m s S l ⟨x,u,sx⟩ y B⟩
   intro z Y;rcases(q z).mp Y with h1 | ⟨m,s,⟨y,B,D⟩,u⟩
   .exact f z h1
   .exact G.con m s S l ⟨y,B,f y D⟩ z u
 .rcases XO.mp hg with hg | hg
  .exact G.srt g ((r g).mp hg).1
  .have e:g=w:=by simpa using hg
   subst e;exact U
def Good.perm {d:C->List C}{done:List C}{gs b:List (List C)}(G:Good d done gs)(h:b.Perm gs):Good d done b:=by
 refine⟨λg a=>G.ne g (h.mem_iff.mp a),h.flatten.nodup_iff.mpr G.nd,λx c=>G.from_ x (h.flatten.mem_iff.mp c),λo f e=>?_,λg a=>G.con g (h.mem_iff.mp a),λg a=>G.srt g (h.mem_iff.mp a)⟩;obtain⟨g,a,c⟩:=G.cov o f e;exact⟨g,h.mem_iff.mpr a,c⟩
theorem Qk:∀{gs:List (List C)},(∀g∈gs,g ≠ [])->gs.length<=gs.flatten.length
 | [],_=>XU _
 | g::r,h=>by
  have b:=Qk (gs:=r) λx a=>h x (XT _ a);have:1<=g.length:=List.length_pos_iff.mpr (h g XQ);rw[Wz,XY,Xo];lia
theorem j4:∀{a b:List C},a.Nodup->(∀x∈a,x∈b)->a.length<=b.length
 | [],_,_,_=>WY _
 | x::r,b,h,s=>by
  obtain⟨h1,h2⟩:=Wp.mp h;have c:=s x XQ;have f:=j4 (a:=r) (b:=b.erase x) h2 λy d=>(List.mem_erase_of_ne (λ(e:y=x)=>h1 (by rw[<- e];exact d))).mpr (s y (XT _ d));rw[List.length_erase_of_mem c]at f;have:=Ug c;rw[Xo];lia
end Parts
namespace Subs
variable {α:Type}
def step (S:List (List α))(c:α):List (List α):=S++S.map (·++[c])
def subs (a:List α):List (List α):=a.foldl step [[]]
def pick:List α->Nat->List α
 | [],_=>[]
 | c::r,b=>(if b%2=1 then [c] else [])++pick r (b/2)
def zkS (a:List α)(c:α):subs (a++[c])=step (subs a) c:=by
 unfold subs;rw[T2];rfl
theorem zju:∀(a:List α) (c:α) (b:Nat),b<2^a.length->pick (a++[c]) b=pick a b
 | [],c,b,h=>by
  have:b=0:=by
   simp at h;lia
  subst this;rfl
 | d::r,c,b,h=>by
  show _++pick (r++[c]) (b/2)=_++pick r (b/2);rw[zju r c (b/2) (by
   rw[Xo,Um]at h;lia)]
theorem zjv:∀(a:List α) (c:α) (b:Nat),b<2^a.length->pick (a++[c]) (2^a.length+b)=pick a b++[c]
 | [],c,b,h=>by
  have:b=0:=by
   simp at h;lia
  subst this;rfl
 | d::r,c,b,h=>by
  rw[Xo,Um]at h;show (if (2^(r.length+1)+b)%2=1 then [d] else [])++pick (r++[c]) ((2^(r.length+1)+b)/2)=((if b%2=1 then [d] else [])++pick r (b/2))++[c];have e:(2^(r.length+1)+b)%2=b%2:=by
   rw[Um];lia
  have f:(2^(r.length+1)+b)/2=2^r.length+b/2:=by
   rw[Um];lia
  rw[e,f,zjv r c (b/2) (by lia),W2]
def zbF (a:List α):subs a=(Wm (2^a.length)).map (pick a):=by
 rw[<- O0 a];induction a.reverse with
 | nil=>rfl
 | cons c r e =>
  rw[List.reverse_cons,zkS,e,XY,Py,Um,Nat.mul_two,List.range_add,Xz,Wv];unfold step;rw[Wv];congr 1
  .refine Xb λb d=>?_;exact(zju _ _ _ (VW.mp d)).symm
  .refine Xb λb d=>?_;exact(zjv _ _ _ (VW.mp d)).symm
end Subs
namespace Grow
variable {α β:Type}
def cnt (near:β->α->Bool)(o:β)(p:List α):Nat:=(p.filter (near o)).length
def zda (near:β->α->Bool)(a:β->Int)(b:List α)(o:β)(p:List α):Bool:=decide (a o-((cnt near o b:Nat):Int)<=((cnt near o p:Nat):Int))&&decide (((cnt near o p:Nat):Int)<=a o)
def chk (near:β->α->Bool)(b:β->Int)(O:List β)(c:α)(a:List α)(p:List α):Bool:=(O.filter λo=>near o c).all λo=>zda near b a o p
def grow (near:β->α->Bool)(b:β->Int)(O:List β):List (List α)->List α->List (List α)
 | F,[]=>F
 | F,c::a=>grow near b O ((Subs.step F c).filter (chk near b O c a)) a
def good (near:β->α->Bool)(b:β->Int)(O:List β)(done a:List α)(p:List α):Bool:=(O.filter λo=>done.any (near o)).all λo=>zda near b a o p
def cnt_cons (near:β->α->Bool)(o:β)(c:α)(r:List α):cnt near o (c::r)=cnt near o r+if near o c=true then 1 else 0:=by
 unfold cnt;rw[WE];split<;>rfl
def zgR (near:β->α->Bool)(o:β)(p:List α)(c:α):cnt near o (p++[c])=cnt near o p+if near o c=true then 1 else 0:=by
 unfold cnt;rw[WX,XY];congr 1;rw[WE];split<;>rfl
def yu {near:β->α->Bool}{b:β->Int}{a:List α}{o:β}{p:List α}:zda near b a o p=true↔b o-((cnt near o a:Nat):Int)<=((cnt near o p:Nat):Int)/\((cnt near o p:Nat):Int)<=b o:=by
 unfold zda;rw[WH,bu,bu]
def zjw {near:β->α->Bool}{b:β->Int}{O:List β}{c:α}{a p:List α}:chk near b O c a p=true ↔ ∀o∈O,near o c=true->zda near b a o p=true:=by
 unfold chk;rw[WK];exact⟨λh o d e=>h o (XW.mpr ⟨d,e⟩),λh o d=>h o (XW.mp d).1 (XW.mp d).2⟩
def Ql {near:β->α->Bool}{b:β->Int}{O:List β}{done a p:List α}:good near b O done a p=true ↔ ∀o∈O,done.any (near o)=true->zda near b a o p=true:=by
 unfold good;rw[WK];exact⟨λh o c d=>h o (XW.mpr ⟨c,d⟩),λh o c=>h o (XW.mp c).1 (XW.mp c).2⟩
def ZS (near:β->α->Bool)(o:β)(done:List α)(c:α):(done++[c]).any (near o)=true↔done.any (near o)=true\/near o c=true:=by
 rw[List.any_append,Bool.or_eq_true];simp
def zos (near:β->α->Bool)(b:β->Int)(O:List β)(done a:List α)(c:α)(p:List α):(good near b O done (c::a) p&&chk near b O c a p)=good near b O (done++[c]) a p:=by
 rw[WV,WH,Ql,zjw,Ql];constructor
 .rintro⟨h1,h2⟩ o d f;by_cases e:near o c=true
  .exact h2 o d e
  .have:=h1 o d (((ZS near o done c).mp f).resolve_right e);rw[yu,cnt_cons,bq e]at this;exact yu.mpr this
 .intro h;refine⟨λo d f=>?_,λo d e=>h o d ((ZS near o done c).mpr (.inr e))⟩;have:=yu.mp (h o d ((ZS near o done c).mpr (.inl f)));rw[yu,cnt_cons];split<;>lia
def zot (near:β->α->Bool)(d:β->Int)(O:List β)(done a:List α)(c:α)(p:List α):(good near d O done (c::a) p&&chk near d O c a (p++[c]))=good near d O (done++[c]) a (p++[c]):=by
 rw[WV,WH,Ql,zjw,Ql];constructor
 .rintro⟨h1,h2⟩ o e f;by_cases b:near o c=true
  .exact h2 o e b
  .have:=h1 o e (((ZS near o done c).mp f).resolve_right b);rw[yu,cnt_cons,bq b]at this;rw[yu,zgR,bq b];exact this
 .intro h;refine⟨λo e f=>?_,λo e b=>h o e ((ZS near o done c).mpr (.inr b))⟩;have:=yu.mp (h o e ((ZS near o done c).mpr (.inl f)));rw[zgR]at this;rw[yu,cnt_cons];split at this<;>rename_i b
  .rw[bw b];lia
  .rw[bq b];lia
def zkT (near:β->α->Bool)(b:β->Int)(O:List β)(done a:List α)(c:α)(S:List (List α)):(Subs.step (S.filter (good near b O done (c::a))) c).filter (chk near b O c a)=(Subs.step S c).filter (good near b O (done++[c]) a):=by
 unfold Subs.step;rw[WX,WX];congr 1
 .rw[U0];refine Vy λp _=>?_;rw[<- zos,Si]
 .rw[Pz,Pz,U0];congr 1;refine Vy λp _=>?_;show (chk near b O c a (p++[c])&&good near b O done (c::a) p)=good near b O (done++[c]) a (p++[c]);rw[<- zot,Si]
theorem zeN (near:β->α->Bool)(a:β->Int)(O:List β):∀(b done:List α) (S:List (List α)),grow near a O (S.filter (good near a O done b)) b=(b.foldl Subs.step S).filter (good near a O (done++b) [])
 | [],done,S=>by
  rw[Xf];rfl
 | c::r,done,S=>by
  show grow near a O ((Subs.step (S.filter (good near a O done (c::r))) c).filter (chk near a O c r)) r=_;rw[zkT,zeN near a O r (done++[c]) (Subs.step S c),W2];rfl
def fits (near:β->α->Bool)(a:β->Int)(O:List β)(part:List α)(p:List α):Bool:=(O.filter λo=>part.any (near o)).all λo=>decide (((cnt near o p:Nat):Int)=a o)
def zou (near:β->α->Bool)(a:β->Int)(O:List β)(part:List α):grow near a O [[]] part=(Subs.subs part).filter (fits near a O part):=by
 have h:=zeN near a O part [] [[]];have e:([[]]:List (List α)).filter (good near a O [] part)=[[]]:=by
  have:good near a O [] part []=true:=Ql.mpr λo _ b=>by simp at b
  rw[WE,bw this];rfl
 rw[e]at h;rw[h];show (Subs.subs part).filter _=_;refine Vy λp _=>?_;rw[PD];unfold good fits;congr 1;funext o;rw[WV,yu,bu];show a o-((0:Nat):Int)<=_/\_↔_;lia
end Grow
namespace Cnt
variable {α:Type}
def Jd (g:Nat)(ks:List (List α)):List Int:=(Wm (g+1)).map λn=>((ks.countP λk=>decide (k.length=n):Nat):Int)
def za4 (g:Nat)(ks:List (List α)):(Jd g ks).length=g+1:=by
 unfold Jd;rw[ZB,Wn]
def zmw (g:Nat):Jd g ([]:List (List α))=WU (g+1) 0:=by
 unfold Jd;refine List.eq_replicate_iff.mpr ⟨by rw[ZB,Wn],λb a=>?_⟩;obtain⟨n,_,rfl⟩:=XI.mp a;rfl
def zdb {g n:Nat}(ks:List (List α))(h:n<=g):(Jd g ks)[n]?=some ((ks.countP λk=>decide (k.length=n):Nat):Int):=by
 unfold Jd;rw[Xq,TB (by lia)];rfl
def zkU {g:Nat}(ks:List (List α)){k:List α}(h:k.length<=g):Jd g (ks++[k])=(Jd g ks).set k.length (((ks.countP λx=>decide (x.length=k.length):Nat):Int)+1):=by
 refine SH λn=>?_;rw[List.getElem?_set];by_cases b:n<=g
 .rw[zdb _ b,zdb _ b,za4,List.countP_append];by_cases e:k.length=n
  .rw[bw e,bw (by lia)];subst e;simp
  .rw[bq e];simp[e]
 .have a:∀c:List (List α),(Jd g c)[n]?=none:=λc=>Sz (by rw[za4];lia);rw[a,a,za4,bq (by lia)]
def zbG {g:Nat}{as bs:List (List α)}(h:as.Perm bs):Jd g as=Jd g bs:=by
 unfold Jd;refine Xb λn _=>?_;rw[h.countP_eq]
end Cnt
namespace Pour
def S (h:Nat->Int):Nat->Int
 | 0=>0
 | n+1=>S h n+h n
def F (xs:List Int)(i:Nat):Int:=(xs[i]?).getD 0
def hk (xs ys:List Int)(k i:Nat):Int:=if i<=k then F xs i*F ys (k-i) else 0
def Zw (xs ys:List Int):List Int:=(Wm (xs.length+ys.length-1)).map λk=>S (hk xs ys k) xs.length
def part (xs ys:List Int)(i j k:Nat):Int:=S (hk xs ys k) i+(if i<=k/\k-i<j then F xs i*F ys (k-i) else 0)
def st (xs ys:List Int)(i j:Nat):List Int:=(Wm (xs.length+ys.length-1)).map (part xs ys i j)
def zdc {xs:List Int}{i:Nat}(h:xs.length<=i):F xs i=0:=by
 unfold F;rw[Sz h];rfl
def zov {xs:List Int}{i:Nat}{x:Int}(h:xs[i]?=some x):F xs i=x:=by
 unfold F;rw[h];rfl
theorem Zj {f g:Nat->Int}:∀n,(∀i,i<n->f i=g i)->S f n=S g n
 | 0,_=>rfl
 | n+1,h=>by
  show S f n+f n=S g n+g n;rw[Zj n λi a=>h i (by lia),h n (by lia)]
theorem zmx {f:Nat->Int}{n:Nat}:∀m,(∀i,n<=i->i<n+m->f i=0)->S f (n+m)=S f n
 | 0,_=>rfl
 | m+1,h=>by
  show S f (n+m)+f (n+m)=S f n;rw[zmx m λi h1 h2=>h i h1 (by lia),h (n+m) (by lia) (by lia),R1]
def zow {f:Nat->Int}{n m:Nat}(a:n<=m)(h:∀i,n<=i->i<m->f i=0):S f m=S f n:=by
 obtain⟨d,rfl⟩:∃d,m=n+d:=⟨m-n,by lia⟩;exact zmx d h
def zqD (xs ys:List Int)(k:Nat):S (hk xs ys k) xs.length=S (λi=>F xs i*F ys (k-i)) (k+1):=by
 have a:S (λi=>F xs i*F ys (k-i)) (k+1)=S (hk xs ys k) (k+1):=Zj _ λi b=>by
  unfold hk;rw[bw (by lia)]
 rw[a];by_cases c:xs.length<=k+1
 .refine(zow c λi h1 _=>?_).symm;unfold hk;rw[zdc h1];split<;>simp
 .refine zow (by lia) λi h1 _=>?_;unfold hk;rw[bq (by lia)]
def zik (xs ys:List Int)(i j:Nat):(st xs ys i j).length=xs.length+ys.length-1:=by
 unfold st;rw[ZB,Wn]
def zil {xs ys:List Int}{i j k:Nat}(h:k<xs.length+ys.length-1):(st xs ys i j)[k]?=some (part xs ys i j k):=by
 unfold st;rw[Xq,TB h];rfl
def zmy (xs ys:List Int):st xs ys 0 0=WU (xs.length+ys.length-1) 0:=by
 unfold st;have e:∀k,part xs ys 0 0 k=0:=λk=>by
  unfold part;rw[bq (by lia)];rfl
 refine(Xb (g:=λ_=>(0:Int)) λk _=>e k).trans ?_;rw[List.map_const',Wn]
def zmz (xs ys:List Int)(i k:Nat):part xs ys i ys.length k=part xs ys (i+1) 0 k:=by
 unfold part;rw[bq (show ¬ (i+1<=k/\k-(i+1)<0) by lia),R1];show _=S (hk xs ys k) i+hk xs ys k i;congr 1;unfold hk;by_cases c:i<=k
 .by_cases d:k-i<ys.length
  .rw[bw ⟨c,d⟩,bw c]
  .rw[bq (λz=>d z.2),bw c,zdc (show ys.length<=k-i by lia),Of]
 .rw[bq (λz=>c z.1),bq c]
def zqE (xs ys:List Int)(i:Nat):st xs ys i ys.length=st xs ys (i+1) 0:=by
 unfold st;exact Xb λk _=>zmz xs ys i k
def zox {xs ys:List Int}{i j:Nat}{x y:Int}(a:xs[i]?=some x)(b:ys[j]?=some y):(st xs ys i j).set (i+j) (part xs ys i j (i+j)+x*y)=st xs ys i (j+1):=by
 have h:i<xs.length:=(X4.mp a).1;have l:j<ys.length:=(X4.mp b).1;apply SH;intro k;rw[List.getElem?_set];by_cases c:k<xs.length+ys.length-1
 .rw[zil c,zil c];by_cases e:i+j=k
  .subst e;rw[bw rfl,bw (by rw[zik];exact c)];congr 1;unfold part;rw[bq (by lia),bw (by lia),R1,zov a,Qb,zov b]
  .rw[bq e];congr 1;unfold part;congr 1;by_cases d:i<=k/\k-i<j
   .rw[bw d,bw (by lia)]
   .rw[bq d,bq (by lia)]
 .have g:∀f,(st xs ys i f)[k]?=none:=λf=>Sz (by rw[zik];lia);rw[g,g];by_cases e:i+j=k
  .lia
  .rw[bq e]
def zqF (xs ys:List Int):st xs ys xs.length 0=Zw xs ys:=by
 unfold st Zw;refine Xb λk _=>?_;unfold part;rw[bq (by lia),R1]
end Pour
namespace Choose
def ch:Nat->Nat->Nat
 | _,0=>1
 | 0,_+1=>0
 | n+1,k+1=>ch n k+ch n (k+1)
def QS (n:Nat):ch n 0=1:=by cases n<;>rfl
theorem zbH:∀(n k:Nat),n<k->ch n k=0
 | 0,0,h=>absurd h (by lia)
 | 0,k+1,_=>rfl
 | n+1,0,h=>absurd h (by lia)
 | n+1,k+1,h=>by
  show ch n k+ch n (k+1)=0;rw[zbH n k (by lia),zbH n (k+1) (by lia)]
theorem zcF:∀n k:Nat,(k+1)*ch n (k+1)+k*ch n k=n*ch n k
 | 0,0=>rfl
 | 0,k+1=>by
  show (k+1+1)*0+(k+1)*0=0*0;simp
 | n+1,0=>by
  have h:=zcF n 0;rw[QS]at h ⊢;show (0+1)*(ch n 0+ch n (0+1))+0*1=(n+1)*1;rw[QS];lia
 | n+1,j+1=>by
  have h1:=zcF n (j+1);have h2:=zcF n j;show (j+1+1)*(ch n (j+1)+ch n (j+1+1))+(j+1)*(ch n j+ch n (j+1))=(n+1)*(ch n j+ch n (j+1));generalize ch n (j+1+1)=C2 at *
  generalize ch n (j+1)=C1 at *
  generalize ch n j=C0 at *
  simp only[Nat.add_mul,Nat.mul_add,Nat.one_mul]at *
  lia
def zoy {n k:Nat}(h:k<n):(ch n k:Int)*((n:Int)-k)/((k:Int)+1)=ch n (k+1):=by
 have e:=zcF n k;have a:(ch n k:Int)*((n:Int)-k)=(ch n (k+1):Int)*((k:Int)+1):=by
  have:((k+1)*ch n (k+1)+k*ch n k:Int)=(n*ch n k:Int):=by exact_mod_cast e
  rw[Int.mul_sub,Oe (ch n k:Int) n,<- this,Oe (ch n (k+1):Int) ((k:Int)+1),Oe (ch n k:Int) (k:Int)];lia
 rw[a];exact Int.mul_ediv_cancel _ (by lia)
def zrV (n:Nat):∀k,ch n k<=2^n:=by
 induction n with
 | zero =>
  intro k;cases k with
  | zero=>decide
  | succ k =>
   show (0:Nat)<=2^0;decide
 | succ n a =>
  intro k;cases k with
  | zero =>
   rw[QS];exact Nat.one_le_two_pow
  | succ k =>
   show ch n k+ch n (k+1)<=2^(n+1);rw[Um];have:=a k;have:=a (k+1);lia
end Choose
namespace Tally
open Subs
variable {α:Type}
theorem za5:∀(B:List α) (a:List (List α)),B.foldl step a=(subs B).flatMap λb=>a.map (·++b)
 | [],a=>by simp[subs]
 | c::r,a=>by
  have e:subs (c::r)=(subs r).flatMap λb=>[b,c::b]:=by
   show r.foldl step (step [[]] c)=_;rw[za5 r];rfl
  show r.foldl step (step a c)=_;rw[za5 r,e,List.flatMap_assoc];congr 1;funext b;show (a++a.map (·++[c])).map (·++b)=a.map (·++b)++(a.map (·++(c::b))++[]);rw[Xz,Xf,Wv];congr 1;refine Xb λx _=>?_;show x++[c]++b=_;rw[W2];rfl
def zeO (c:α)(r:List α):subs (c::r)=(subs r).flatMap λb=>[b,c::b]:=by
 show r.foldl step (step [[]] c)=_;rw[za5 r];rfl
def za6 (A B:List α):subs (A++B)=(subs B).flatMap λb=>(subs A).map (·++b):=by
 unfold subs;rw[T2];exact za5 B _
theorem zeP (c:α)(p:List α->Bool):∀L:List (List α),(L.flatMap λb=>[b,c::b]).countP p=L.countP p+L.countP λS=>p (c::S)
 | []=>rfl
 | b::L=>by
  have a:=zeP c p L;rw[UN,List.countP_append,a,Wq (l:=L),Wq (l:=L),Wq,Wq,List.countP_nil];lia
def count_cons (c:α)(r:List α)(p:List α->Bool):(subs (c::r)).countP p=(subs r).countP p+(subs r).countP λS=>p (c::S):=by
 rw[zeO,zeP]
def Inv (p:List α->Bool):Prop:=∀a b,a.Perm b->p a=p b
theorem Inv.cons {p:List α->Bool}(h:Inv p)(c:α):Inv λS=>p (c::S):=λ_ _ e=>h _ _ (e.cons c)
def zim {a b:List α}(e:a.Perm b):∀{p:List α->Bool},Inv p->(subs a).countP p=(subs b).countP p:=by
 induction e with
 | nil=>intro p _;rfl
 | cons c _ d =>
  intro p h;rw[count_cons,count_cons,d h,d (h.cons c)]
 | swap x y l =>
  intro p h;rw[count_cons,count_cons,count_cons,count_cons,count_cons,count_cons];have:(subs l).countP (λS=>p (y::x::S))=(subs l).countP λS=>p (x::y::S):=Vk λS _=>by rw[h _ _ (List.Perm.swap x y S)]
  lia
 | trans _ _ f g =>
  intro p h;exact(f h).trans (g h)
def T (a:List α)(p:List α->Bool)(k:Nat):Nat:=(subs a).countP λS=>decide (S.length=k)&&p S
def zfF {c d:List α}(e:c.Perm d){p:List α->Bool}(h:Inv p)(k:Nat):T c p k=T d p k:=zim e λa b e=>by rw[h a b e,e.length_eq]
def zoz {a:List α}{p q:List α->Bool}(h:∀S∈subs a,p S=q S)(k:Nat):T a p k=T a q k:=Vk λS b=>by rw[h S b]
theorem zpq (f g:Nat->Int):∀n,Pour.S (λi=>f i+g i) n=Pour.S f n+Pour.S g n
 | 0=>rfl
 | n+1=>by
  show Pour.S (λi=>f i+g i) n+(f n+g n)=Pour.S f n+f n+(Pour.S g n+g n);rw[zpq f g n];lia
theorem zmA:∀n,Pour.S (λ_=>0) n=0
 | 0=>rfl
 | n+1=>by
  show Pour.S (λ_=>0) n+0=0;rw[zmA n];rfl
theorem zgS (j:Nat)(x:Int):∀n,Pour.S (λi=>if i=j then x else 0) n=if j<n then x else 0
 | 0=>rfl
 | n+1=>by
  show Pour.S (λi=>if i=j then x else 0) n+(if n=j then x else 0)=_;rw[zgS j x n];by_cases h:n=j
  .rw[bq (by lia),bw h,bw (by lia),VQ]
  .rw[bq h,R1];by_cases h2:j<n
   .rw[bw h2,bw (by lia)]
   .rw[bq h2,bq (by lia)]
def zgT (q:List α->Bool)(f:Nat->Nat)(k:Nat):∀L:List (List α),(((L.map λb=>if (q b&&decide (b.length<=k))=true then f (k-b.length) else 0).sum:Nat):Int)=Pour.S (λi=>(f i:Int)*((L.countP λb=>decide (b.length=k-i)&&q b:Nat):Int)) (k+1):=by
 intro L;induction L with
 | nil =>
  have:Pour.S (λi=>(f i:Int)*((([]:List (List α)).countP λb=>decide (b.length=k-i)&&q b:Nat):Int)) (k+1)=Pour.S (λ_=>0) (k+1):=Pour.Zj _ λi _=>by
   show (f i:Int)*0=0;lia
  rw[this,zmA];rfl
 | cons b L h =>
  rw[Xw,Ow,Tl,h];have e:Pour.S (λi=>(f i:Int)*(((b::L).countP λb=>decide (b.length=k-i)&&q b:Nat):Int)) (k+1)=Pour.S (λi=>(f i:Int)*((L.countP λb=>decide (b.length=k-i)&&q b:Nat):Int)+if i=k-b.length then (if (q b&&decide (b.length<=k))=true then (f (k-b.length):Int) else 0) else 0) (k+1):=Pour.Zj _ λi j=>by
   rw[Wq];by_cases c:q b=true
   .by_cases g:b.length<=k
    .by_cases a:i=k-b.length
     .have h1:b.length=k-i:=by lia
      have h2:k-i<=k:=by lia
      simp only[c,h1,h2,decide_true,Sh,if_true,bw a];rw[show k-(k-i)=i by lia,bw rfl,Tl,Int.mul_add];lia
     .have h1:¬b.length=k-i:=by lia
      simp only[c,h1,decide_false,Sh,bq a];simp
    .have h1:¬b.length=k-i:=by lia
     simp[c,h1,g]
   .have d:q b=false:=Xs.mpr c;simp[d]
  rw[e,zpq,zgS,bw (show k-b.length<k+1 by lia),Int.add_comm];congr 1;split<;>rfl
def zmB {A B:List α}{P f pB:List α->Bool}(h:∀a∈subs A,∀b∈subs B,P (a++b)=(f a&&pB b))(k:Nat):(T (A++B) P k:Int)=Pour.S (λi=>(T A f i:Int)*(T B pB (k-i):Int)) (k+1):=by
 unfold T;rw[za6,List.countP_flatMap];have e:(subs B).map (List.countP (λS=>decide (S.length=k)&&P S)∘λb=>(subs A).map (·++b))=(subs B).map λb=>if (pB b&&decide (b.length<=k))=true then (T A f) (k-b.length) else 0:=by
  refine Xb λb j=>?_;show List.countP _ ((subs A).map (·++b))=_;rw[List.countP_map];by_cases d:(pB b&&decide (b.length<=k))=true
  .rw[bw d];obtain⟨h1,h2⟩:=Wa.mp d;have h2:=bg h2;refine Vk λa g=>?_;show (decide ((a++b).length=k)&&P (a++b))=true↔(decide (a.length=k-b.length)&&f a)=true;rw[h a g b j,h1,Sh,XY,show (decide (a.length+b.length=k))=decide (a.length=k-b.length) from decide_eq_decide.mpr (by lia)]
  .rw[bq d];refine VO.mpr λa g c=>d ?_;have c:(decide ((a++b).length=k)&&P (a++b))=true:=c;rw[h a g b j]at c;obtain⟨h1,h2⟩:=Wa.mp c;have h1:=bg h1;rw[XY]at h1;rw[(Wa.mp h2).2,br (by lia)];rfl
 rw[e,zgT];rfl
def yv {a S:List α}(h:S∈subs a):S.Sublist a:=by
 revert S;induction a with
 | nil=>intro S h;simp[subs]at h;subst h;exact List.Sublist.refl _
 | cons c r e =>
  intro S h;rw[zeO]at h;obtain⟨b,d,h⟩:=Uu.mp h;have:=e d;simp at h;rcases h with rfl | rfl
  .exact this.cons c
  .exact this.cons_cons c
def zdd {a:List α}{p:List α->Bool}{k:Nat}(h:a.length<k):T a p k=0:=by
 refine VO.mpr λS b c=>?_;have h1:=bg (Wa.mp c).1;have h2:=(yv b).length_le;lia
def tl (a:List α)(p:List α->Bool):List Int:=(Wm (a.length+1)).map λk=>(T a p k:Int)
def jV (a:List α)(p:List α->Bool):(tl a p).length=a.length+1:=by
 unfold tl;rw[ZB,Wn]
def zkV (a:List α)(p:List α->Bool)(i:Nat):Pour.F (tl a p) i=(T a p i:Int):=by
 by_cases h:i<a.length+1
 .refine Pour.zov ?_;unfold tl;rw[Xq,TB h];rfl
 .rw[Pour.zdc (by rw[jV];lia),zdd (by lia)];rfl
def zoA {A B:List α}{P c pB:List α->Bool}(h:∀a∈subs A,∀b∈subs B,P (a++b)=(c a&&pB b)):Pour.Zw (tl A c) (tl B pB)=tl (A++B) P:=by
 unfold Pour.Zw;rw[jV,jV];show _=(Wm ((A++B).length+1)).map λk=>(T (A++B) P k:Int);rw[XY,show A.length+1+(B.length+1)-1=A.length+B.length+1 by lia];refine Xb λk _=>?_;have e:=Pour.zqD (tl A c) (tl B pB) k;rw[jV]at e;rw[e,zmB h];exact Pour.Zj _ λi _=>by rw[zkV,zkV]
def zmC {a:List α}{p q:List α->Bool}(h:∀S∈subs a,p S=q S):tl a p=tl a q:=by
 unfold tl;refine Xb λk _=>by rw[zoz h]
theorem zgU:∀(a:List α) (k:Nat),T a (λ_=>true) k=Choose.ch a.length k
 | [],0=>rfl
 | [],k+1=>rfl
 | c::r,0=>by
  have e:=zgU r 0;unfold T at e ⊢;rw[count_cons,e,Choose.QS,Choose.QS];have:(subs r).countP (λS=>decide ((c::S).length=0)&&true)=0:=VO.mpr λS _ f=>by simp at f
  rw[this]
 | c::r,k+1=>by
  have b:=zgU r k;have d:=zgU r (k+1);unfold T at b d ⊢;rw[count_cons,d];have:(subs r).countP (λS=>decide ((c::S).length=k+1)&&true)=(subs r).countP λS=>decide (S.length=k)&&true:=Vk λS _=>by
   rw[Xo,show decide (S.length+1=k+1)=decide (S.length=k) from decide_eq_decide.mpr (by lia)]
  rw[this,b];show _=Choose.ch r.length k+Choose.ch r.length (k+1);lia
def zqG [DecidableEq α]{d:List α}{c:α}(g:c∈d)(n:d.Nodup)(k:Nat):T d (λS=>decide (c∈S)) k=if k=0 then 0 else Choose.ch (d.length-1) (k-1):=by
 have i:d.Perm (c::d.erase c):=List.perm_cons_erase g;have m:c ∉ d.erase c:=λh=>by
  have:=i.nodup_iff.mp n;exact(Wp.mp this).1 h
 rw[zfF i (λa b e=>decide_eq_decide.mpr e.mem_iff)];unfold T;rw[count_cons];have z:(subs (d.erase c)).countP (λS=>decide (S.length=k)&&decide (c∈S))=0:=VO.mpr λS l f=>by
  have h1:=bg (Wa.mp f).2;exact m ((yv l).subset h1)
 rw[z,VR];have j:(d.erase c).length=d.length-1:=by rw[List.length_erase,bw g]
 cases k with
 | zero =>
  rw[bw rfl];exact VO.mpr λS _ f=>by simp at f
 | succ k =>
  rw[bq (by lia),<- j,Tc,<- zgU];unfold T;refine Vk λS _=>?_;rw[Xo,show decide (S.length+1=k+1)=decide (S.length=k) from decide_eq_decide.mpr (by lia)];show (_&&decide (c∈c::S))=true↔_;rw[br XQ]
variable {α:Type}
structure Loc (U:List α)(p:List α->Bool)(g:List α):Prop where
 l:∀a b,(∀c∈a,c∈U/\c ∉ g)->p (a++b)=p b
 r:∀a b,(∀c∈b,c∈U/\c ∉ g)->p (a++b)=p a
def j5 (a:List α->List α->Bool)(gs:List (List α))(S:List α):Bool:=gs.all λg=>a g S
def zde (a:List α->List α->Bool)(as bs:List (List α))(S:List α):j5 a (as++bs) S=(j5 a as S&&j5 a bs S):=List.all_append
def zin {a:List α->List α->Bool}{gs:List (List α)}{S b:List α}(h:∀g∈gs,a g S=a g b):j5 a gs S=j5 a gs b:=by
 unfold j5;induction gs with
 | nil=>rfl
 | cons g r d =>
  rw[Rv,Rv,h g XQ,d λx c=>h x (XT _ c)]
def zdf {U:List α}{d:List α->List α->Bool}{done:List (List α)}{g:List α}{q:List α->Bool}(u:(done.flatten++g).Nodup)(f:∀c∈done.flatten++g,c∈U)(p:∀x∈done,Loc U (d x) x)(s:Loc U q g) :
  Pour.Zw (tl done.flatten (j5 d done)) (tl g q)=tl (done.flatten++g) λS=>j5 d done S&&q S:=by
 obtain⟨_,_,j⟩:=WL.mp u;refine zoA λa n b o=>?_;have sa:=(yv n).subset;have m:=(yv o).subset;rw[s.l a b λc e=>⟨f c (W1 _ (sa e)),λh=>j c (sa e) c h rfl⟩];congr 1;exact zin λx i=>(p x i).r a b λc e=>⟨f c (WZ _ (m e)),λh=>j c (WA.mpr ⟨x,i,h⟩) c (m e) rfl⟩
def zoB {U:List α}{a:List α->List α->Bool}:∀(gs done:List (List α)),(done++gs).flatten.Nodup->(∀c∈(done++gs).flatten,c∈U)->(∀g∈done++gs,Loc U (a g) g)->(gs.map λg=>tl g (a g)).foldl Pour.Zw (tl done.flatten (j5 a done))=tl (done++gs).flatten (j5 a (done++gs)):=by
 intro gs;induction gs with
 | nil =>
  intro done _ _ _;rw[Xf];rfl
 | cons g r i =>
  intro done d h b;have e:done++g::r=(done++[g])++r:=by rw[W2];rfl
  rw[e]at d h b ⊢;have f:(done++[g]).flatten=done.flatten++g:=by rw[Ww];simp
  have j:(done.flatten++g).Nodup:=by
   rw[Ww,f]at d;exact(WL.mp d).1
  have i:=i (done++[g]) d h b;rw[<- i,Xw,Wc,f];congr 1;rw[zdf j (λc l=>h c (by rw[Ww,f];exact W1 _ l)) (λx m=>b x (by simp[m])) (b g (by simp))];refine zmC λS _=>?_;rw[zde];congr 1;show a g S=(a g S&&true);rw[Sh]
def zio {U:List α}{a:List α->List α->Bool}{gs:List (List α)}(e:gs.flatten.Nodup)(d:∀c∈gs.flatten,c∈U)(b:∀g∈gs,Loc U (a g) g):(gs.map λg=>tl g (a g)).foldl Pour.Zw [1]=tl gs.flatten (j5 a gs):=zoB gs [] e d b
def chZ (n:Nat)(k:Int):Int:=if k<0 then 0 else (Choose.ch n k.toNat:Nat)
def dl (xs:List Int)(m:Nat)(s:Int):Int:=Pour.S (λk=>Pour.F xs k*chZ m (s-(k:Nat))) xs.length
def zmD (g:Nat->Int){a b:Nat}(c:∀i,a<=i->g i=0)(d:∀i,b<=i->g i=0):Pour.S g a=Pour.S g b:=by
 by_cases h:a<=b
 .exact(Pour.zow h λi h1 _=>c i h1).symm
 .exact Pour.zow (by lia) λi h1 _=>d i h1
def zpr {A c:List α}{P d:List α->Bool}(h:∀a∈subs A,∀b∈subs c,P (a++b)=d a)(s:Nat):dl (tl A d) c.length (s:Nat)=(T (A++c) P s:Int):=by
 rw[zmB (pB:=λ_=>true) (λa f b g=>by rw[h a f b g,Sh]) s];unfold dl;rw[jV];rw[zmD (λk=>Pour.F (tl A d) k*chZ c.length ((s:Int)-(k:Nat))) (a:=A.length+1) (b:=s+1) (λi e=>by rw[zkV,zdd (by lia)];simp) (λi e=>by
  unfold chZ;rw[bw (by lia),Of])]
 refine Pour.Zj _ λi e=>?_;show Pour.F (tl A d) i*chZ c.length ((s:Int)-(i:Nat))=_;rw[zkV,zgU];unfold chZ;rw[bq (by lia),show ((s:Int)-(i:Nat)).toNat=s-i by lia]
def zoC [DecidableEq α]{A d:List α}{P f:List α->Bool}{c:α}(j:c∈d)(l:d.Nodup)(h:∀a∈subs A,∀b∈subs d,P (a++b)=(f a&&decide (c∈b)))(s:Nat):dl (tl A f) (d.length-1) ((s:Nat)-1)=(T (A++d) P s:Int):=by
 rw[zmB h s];unfold dl;rw[jV];rw[zmD (λk=>Pour.F (tl A f) k*chZ (d.length-1) ((s:Int)-1-(k:Nat))) (a:=A.length+1) (b:=s+1) (λi g=>by rw[zkV,zdd (by lia)];simp) (λi g=>by
  unfold chZ;rw[bw (by lia),Of])]
 refine Pour.Zj _ λi g=>?_;show Pour.F (tl A f) i*chZ (d.length-1) ((s:Int)-1-(i:Nat))=_;rw[zkV,zqG j l];unfold chZ;by_cases e:s-i=0
 .rw[bw (by lia),bw e];rfl
 .rw[bq (by lia),bq e,show ((s:Int)-1-(i:Nat)).toNat=s-i-1 by lia]
def zcG {a:List α}{p:List α->Bool}(h:∀S∈subs a,p S=false)(k:Nat):T a p k=0:=VO.mpr λS c b=>by
 rw[h S c,Pg]at b;cases b
def zjx (a:List α)(p:List α->Bool):Cnt.Jd a.length ((subs a).filter p)=tl a p:=by
 unfold Cnt.Jd tl T;refine Xb λk _=>?_;rw[List.countP_filter]
def zgV {b:Type}(g:Nat)(f:List α->List b)(a:∀k,(f k).length=k.length)(ks:List (List α)):Cnt.Jd g (ks.map f)=Cnt.Jd g ks:=by
 unfold Cnt.Jd;refine Xb λn _=>?_;rw[List.countP_map];congr 1;refine Vk λk _=>?_;show decide ((f k).length=n)=true↔_;rw[a]
variable {α β:Type}
end Tally
namespace K55
open PySem L2
variable {P:Xm}{w:W3}{K:XX}{mg:Str->Option X9}{base:Heap}{f:Addr}{fd:XD}{jaa jab:Addr}
abbrev top (i:Nat):Stmt:=J4.top i
abbrev ZT:Stmt:=top 7
abbrev qx:Stmt:=top 8
abbrev jK:Stmt:=top 9
abbrev jt:Stmt:=top 10
abbrev qv:Stmt:=top 11
abbrev qw:Stmt:=top 12
abbrev zcH:Stmt:=top 14
abbrev Qm:Stmt:=top 15
abbrev zjy:Stmt:=top 16
abbrev j6:Stmt:=top 17
abbrev Jr:Stmt:=top 18
abbrev qB:Stmt:=top 19
abbrev jW:Stmt:=top 22
abbrev xh:Stmt:=top 23
abbrev JG:Stmt:=top 24
abbrev xM:Stmt:=top 25
abbrev JH:Stmt:=top 26
abbrev Js:Stmt:=top 27
abbrev QT:Stmt:=top 29
abbrev za7:Stmt:=top 30
abbrev xN:Stmt:=top 32
abbrev zcI:Stmt:=top 33
abbrev Yx:Stmt:=top 34
abbrev j7:Stmt:=top 35
abbrev Jt:Stmt:=top 36
abbrev zcJ:Stmt:=top 37
abbrev QU:Stmt:=top 40
abbrev Yy:Stmt:=top 41
abbrev Yz:Stmt:=top 42
abbrev xO:Stmt:=top 43
abbrev za8:Stmt:=top 44
abbrev ZU:Stmt:=top 45
abbrev zcK:Stmt:=top 46
abbrev za9:Stmt:=top 47
abbrev Ju:Stmt:=top 48
abbrev Zk:Stmt:=top 49
abbrev QV:Stmt:=top 50
abbrev YA:Stmt:=top 53
abbrev Zl:Stmt:=top 54
abbrev xP:Stmt:=top 55
abbrev Jv:Stmt:=top 56
abbrev yj:Stmt:=top 58
abbrev xZ:Stmt:=top 59
abbrev JY:Stmt:=top 60
abbrev Zm:Stmt:=top 61
abbrev yF:Stmt:=top 62
abbrev JZ:Stmt:=top 63
abbrev Zn:Stmt:=top 64
abbrev YB:Stmt:=top 65
abbrev xQ:Stmt:=top 66
abbrev zgW:Stmt:=top 67
structure Txt (mg:Str->Option X9):Prop where
 zps:mg "abs"=none
 zmE:mg "all"=none
 zjz:mg "any"=none
 zqH:mg "bool"=none
 zfG:mg "dict"=none
 ju:mg "enumerate"=none
 zjA:mg "int"=none
 j8:mg "isinstance"=none
 qC:mg "len"=none
 zdg:mg "list"=none
 zgX:mg "max"=none
 zeQ:mg "min"=none
 yT:mg "range"=none
 zrW:mg "set"=none
 yU:mg "sorted"=none
 zmF:mg "str"=none
 zpt:mg "sum"=none
 zoD:mg "tuple"=none
 zrX:mg "zip"=none
 zmG:∃t,mg "ALL"=some (.str "all" t)
 Zx:∃t,mg "CLOSED_SIGN"=some (.str "?" t)
 zdh:∃t,mg "MOST_OF_PART"=some (.int 14 t)
 zd3:∃t,mg "MOST_THINGS"=some (.int 30 t)
 Qn:∃t,mg "NO_CELL_SIGN"=some (.str "#" t)
def Mq (K:XX)(mg:Str->Option X9)(n:Str)(s:Stmt)(p:List Str):=∃f fd,zm K mg n s p f fd
structure Prog (K:XX)(mg:Str->Option X9):Prop where
 closed:Mq K mg "closed" ZT ["board"]
 open_cells:Mq K mg "open_cells" qx ["board"]
 around:Mq K mg "around" jK ["board","cell"]
 number_at:Mq K mg "number_at" jt ["board","cell"]
 cells_of:Mq K mg "cells_of" qv ["board"]
 sign_at:Mq K mg "sign_at" qw ["board","cell"]
 parts:Mq K mg "parts" zcH ["board"]
 joined:Mq K mg "joined" Qm ["groups","cells"]
 far:Mq K mg "far" zjy ["board"]
 numbers_of:Mq K mg "numbers_of" j6 ["board","part"]
 bare_wrong:Mq K mg "bare_wrong" Jr ["board"]
 closed_around:Mq K mg "closed_around" qB ["board","cell"]
 part_layings:Mq K mg "part_layings" jW ["board","part"]
 needs_at:Mq K mg "needs_at" xh ["told","cell","rest"]
 may_fit:Mq K mg "may_fit" JG ["needs","pick"]
 part_counts:Mq K mg "part_counts" xM ["board","part"]
 counted:Mq K mg "counted" JH ["found","greatest"]
 counted_at:Mq K mg "counted_at" Js ["found","greatest","cell"]
 choices:Mq K mg "choices" QT ["n","k"]
 poured:Mq K mg "poured" za7 ["one","other"]
 near_counts:Mq K mg "near_counts" xN ["board"]
 count:Mq K mg "count" zcI ["board"]
 count_at:Mq K mg "count_at" Yx ["board","cell"]
 counts_by_cell:Mq K mg "counts_by_cell" j7 ["board"]
 all_poured:Mq K mg "all_poured" Jt ["lists"]
 dealt:Mq K mg "dealt" zcJ ["counts","cells","stones"]
 follows:Mq K mg "follows" QU ["board","things","finding"]
 asked_by:Mq K mg "asked_by" Yy ["board","thing"]
 known_of:Mq K mg "known_of" Yz ["finding"]
 still_asked:Mq K mg "still_asked" xO ["asked","known"]
 gained:Mq K mg "gained" za8 ["asked"]
 settled:Mq K mg "settled" ZU ["regions"]
 holds:Mq K mg "holds" zcK ["board","finding","step"]
 picked:Mq K mg "picked" za9 ["cells","some"]
 are_things:Mq K mg "are_things" Ju ["board","things"]
 are_cells:Mq K mg "are_cells" Zk ["cells"]
 is_cell:Mq K mg "is_cell" QV ["thing"]
 thoughts:Mq K mg "thoughts" YA ["board"]
 all_steps:Mq K mg "all_steps" Zl ["board","things"]
 place_lists:Mq K mg "place_lists" xP ["asked"]
 first_step:Mq K mg "first_step" Jv ["things","asked","lists","finding"]
 law_cell_at:Mq K mg "_law_cell_at" yj ["_law_script","_law_k"]
 law_mixed:Mq K mg "_law_mixed" xZ ["_law_cell","_law_k"]
 law_mark:Mq K mg "_law_mark" JY ["_law_drawn_here","_law_often","_law_many","_law_room"]
 law_drawn:Mq K mg "_law_drawn" Zm ["_law_script","_law_most","_law_limit"]
 law_cells:Mq K mg "_law_cells" yF ["_law_rows","_law_signs"]
 law_near:Mq K mg "_law_near" JZ ["_law_one","_law_other"]
 law_board:Mq K mg "_law_board" Zn ["_law_marks"]
 law_bent:Mq K mg "_law_bent" YB ["_law_board_here","_law_cell"]
 law_outcome:Mq K mg "_law_outcome" xQ ["_law_board_here"]
def ziq (K:XX):Sp:=λc H Q _=>∃(a:Addr) (b:List Int) (k:Int),c=[.ref a,.int k]/\SqL K H a (b.map V.int)/\0<=k/\∀z:Int,Q (.int z) H
structure Row (signs:List Nat)(n:Nat)(t:Str):Prop where
 len:t.cps.size=n
 mem:∀c∈t.cps.toList,c∈signs
structure Rows (signs:List Nat)(rs:AE):Prop where
 lo:1<=rs.length
 hi:rs.length<=8
 ex:∃n,1<=n/\n<=8/\∀t∈rs,Row signs n t
def bd:Str:="?012345678#"
def zdi:zB ["_law_script","_law_k"] ["_law_script","_law_k"] (zp yj):=bh
def Qo (T:Txt mg)(D:zm K mg "_law_cell_at" yj ["_law_script","_law_k"] f fd):zU P w K mg base CX0 1 f fd ["_law_script","_law_k"] (ziq K):=by
 refine D.F.ok zdi (λn H Q E h=>?_) (λj A d s H n Q E o h=>?_)
 .obtain⟨a,b,i,rfl,_⟩:=h;rfl
 .revert h;refine fF λa b i z0 e l k=>?_;subst z0;refine⟨_,(ze (qy (z9 zqw (pvS 1) (pb1 zH T.qC Xg (pvS 0)) (zP _)) (zg (zw (zF xY (pvS 0) (pvS 1) (λ_ _=>rfl)))) zY) (@zg _ _ _ (@zw _ _ _ _ zf))),?_⟩;(try dsimp only[cxK,cxP,cxW]);refine⟨_,rfl,_,rfl,a,_,rfl,.inl e,_,_,rfl,rfl,_,rfl,?_⟩;refine zcm (λc=>?_) (λc=>?_)
  .have g:i<((b.map V.int).length:Nat):=bg c;rw[ZB]at g;have m:i.toNat<b.length:=by lia
   refine⟨_,rfl,_,rfl,a,_,i,.int b[i.toNat],rfl,rfl,e,Yn l (by rw[Xq,XZ m];rfl),?_⟩;exact k _
  .exact k 0
structure qf (H:Hp)(p l:Addr)(rs:AE)(n:Int):Prop where
 tp:H p=some (.tup [.ref l,.int n])
 rw:H l=some (.lst (rs.map V.str))
def qf.mono {H a:Hp}{p l:Addr}{rs:AE}{n:Int}(b:qf H p l rs n)(s:zo H a):qf a p l rs n:=⟨s _ _ b.tp,s _ _ b.rw⟩
def codes (rs:AE):List (List Nat):=rs.map λt=>t.cps.toList
def j9 {rs:AE}{i:Nat}{t:Str}(h:rs[i]?=some t):(codes rs)[i]?=some t.cps.toList:=by
 unfold codes;rw[Xq,h];rfl
def QW {rs:AE}{i:Nat}{u:List Nat}(h:(codes rs)[i]?=some u):∃t,rs[i]?=some t/\u=t.cps.toList:=by
 unfold codes at h;rw[Xq]at h;cases e:rs[i]? with
 | none =>
  rw[e]at h;cases h
 | some t =>
  rw[e]at h;cases h;exact⟨t,rfl,rfl⟩
def qK (rs:AE):(codes rs).length=rs.length:=by
 unfold codes;rw[ZB]
def Rows.short {s:List Nat}{rs:AE}(R:Rows s rs):∀u∈codes rs,u.length<=8:=λu b=>by
 obtain⟨t,a,rfl⟩:=XI.mp b;obtain⟨n,_,c,q⟩:=R.ex;have:=(q t a).len;rw[X5];lia
def Rows.tlen {s:List Nat}{rs:AE}{i:Nat}{t:Str}(R:Rows s rs)(h:rs[i]?=some t):t.length<=XA:=by
 obtain⟨n,_,a,q⟩:=R.ex;have e:t.length=n:=(q t (X8 h)).len;rw[e];exact X6 a (by decide)
def yk (H:Hp)(v:V)(c:AA):Prop:=∃a,v=V.ref a/\H a=some (.tup [.int (c.1:Nat),.int (c.2:Nat)])
def Cel (H:Hp):AF->AD->Prop:=Xl (yk H)
def Cel.mono {H b:Hp}(s:zo H b){vs:AF}{c:AD}(d:Cel H vs c):Cel b vs c:=by
 induction d with
 | nil=>exact .nil
 | cons q _ f =>
  obtain⟨a,e,h⟩:=q;exact .cons ⟨a,e,s _ _ h⟩ f
theorem Cel.snoc {H:Hp}{vs:AF}{a:AD}{v:V}{c:AA}(h:Cel H vs a)(x:yk H v c):Cel H (vs++[v]) (a++[c]):=Paired.snoc h x
def Cel.append {H:Hp}{vs c:AF}{a b:AD}(h:Cel H vs a)(k:Cel H c b):Cel H (vs++c) (a++b):=zcQ h k
def Cel.into {H:Hp}(z:Addr)(o:HO){b:AF}(hz:H z=some (.lst b)){vs:AF}{c:AD}(d:Cel H vs c):Cel (upd H z o) vs c:=by
 induction d with
 | nil=>exact .nil
 | cons q _ f =>
  obtain⟨a,e,h⟩:=q;exact .cons ⟨a,e,by rw[zj (zei h hz (by intro y;cases y))];exact h⟩ f
theorem Cel.length {H:Hp}{vs:AF}{a:AD}(h:Cel H vs a):vs.length=a.length:=Paired.length h
theorem Cel.get {H:Hp}:∀{vs:AF} {a:AD} {i:Nat} {v:V},Cel H vs a->vs[i]?=some v->∃c,a[i]?=some c/\yk H v c
 | _,_,_,_,.nil,e=>by simp at e
 | _,_,0,_,.cons r _,e=>by
  simp at e;subst e;exact⟨_,rfl,r⟩
 | _,_,i+1,v,.cons _ t,e=>by
  obtain⟨c,h1,h2⟩:=Cel.get (i:=i) (v:=v) t (by simpa using e);exact⟨c,by simpa using h1,h2⟩
def zk (c:AA):We:=.tuple [.int (c.1:Nat),.int (c.2:Nat)]
def yk.rdv {K:XX}{H:Hp}{v:V}{c:AA}(h:yk H v c):Rdv K H v (zk c):=by
 obtain⟨a,rfl,h⟩:=h;exact .tup (SqT.of h) (.cons (.int _) (.cons (.int _) .nil))
def zeR (c d:AA):zlJ (zk c) (zk d):=⟨rfl,rfl,by show max 0 (max 0 0)+1<=64;decide⟩
def ZV (c d:AA):Xa (zk c) (zk d)=decide (c=d):=by
 obtain⟨a,b⟩:=c;obtain⟨x,y⟩:=d;show ((((a:Nat):Int)==((x:Nat):Int))&&((((b:Nat):Int)==((y:Nat):Int))&&true))=decide ((a,b)=(x,y));by_cases h1:a=x
 .by_cases h2:b=y
  .subst h1 h2;simp
  .have:¬ ((b:Int)=(y:Int)):=by lia
   simp[h2,this]
 .have:¬ ((a:Int)=(x:Int)):=by lia
  simp[h1,this]
def zdj (c k:Nat):(V.str ⟨#[c]⟩=V.str ⟨#[k]⟩)=(c=k):=by
 apply propext;constructor
 .intro h;have h2:(⟨#[c]⟩:Str)=⟨#[k]⟩:=V.str.inj h;have a:(#[c]:Array Nat)=#[k]:=congrArg Str.cps h2;simpa using a
 .rintro rfl;rfl
def Zg:("#":Str)=⟨#[35]⟩:=by decide+kernel
def zir:("?":Str)=⟨#[63]⟩:=by decide+kernel
def ql (c:Nat):Bool:=!decide (c=35)
def x8 (c:Nat):Bool:=decide (c=63)
def YY (c:Nat):Bool:=ql c && !decide (c=63)
def zqI:Sp:=λb H Q _=>∃(p l c:Addr) (a:AE) (n:Int) (i j:Nat) (t:Str) (k:Nat),b=[.ref p,.ref c]/\qf H p l a n/\H c=some (.tup [.int (i:Nat),.int (j:Nat)])/\a[i]?=some t/\t.cps.toList[j]?=some k/\t.length<=XA/\Q (.str ⟨#[k]⟩) H
def zfH (p:Nat->Bool):Sp:=λf H Q _=>∃(a l:Addr) (c:AE) (n:Int),f=[.ref a]/\qf H a l c n/\Rows bd.cps.toList c /\
 ∀(d:Addr) (e:AF) (b:Hp),H d=none->b d=some (.lst e)->Cel b e (Cells.zE p 0 (codes c))->zo H b->Q (.ref d) b
def zmH:Sp:=λb H Q _=>∃(p l c:Addr) (a:AE) (n:Int) (i j:Nat) (t:Str) (k:Nat),b=[.ref p,.ref c]/\qf H p l a n/\H c=some (.tup [.int (i:Nat),.int (j:Nat)])/\a[i]?=some t/\t.cps.toList[j]?=some k/\t.length<=XA/\48<=k/\k<=56/\Q (.int ((k:Int)-48)) H
def int_sign {k:Nat}(h1:48<=k)(h2:k<=56):Pf ⟨#[k]⟩=some ((k:Int)-48):=by
 have:∀k∈Wm 57,48<=k->Pf ⟨#[k]⟩=some ((k:Int)-48):=by decide+kernel
 exact this k (VW.mpr (by lia)) h1
def zis:zB ["board","cell"] ["board","cell"] (zp qw):=bh
def YC (D:zm K mg "sign_at" qw ["board","cell"] f fd):zU P w K mg base CX0 1 f fd ["board","cell"] zqI:=by
 refine D.F.ok zis (λu H Q E h=>?_) (λe A a s H u Q E x h=>?_)
 .revert h;refine fu λp l c r n i j t=>fq λk z0 _=>?_;subst z0;rfl
 .revert h;refine fu λp l c r n i j t=>fU λk z0 b d g=>fB λm o q=>?_;subst z0;refine⟨_,(zg (zw (zF zjt (zF xY (zF zQ (pvS 0) zf (λ_ _=>rfl)) (zF zQ (pvS 1) zf (λ_ _=>rfl)) (λ_ _=>rfl)) (zF zQ (pvS 1) zf (λ_ _=>rfl)) (λ_ _=>rfl)))),?_⟩;(try dsimp only[cxK,cxP,cxW]);exact⟨_,rfl,p,_,0,_,rfl,rfl,SqT.of b.tp,rfl,_,rfl,c,_,0,_,rfl,rfl,SqT.of d,rfl,l,_,_,_,rfl,rfl,SqL.of b.rw,j3 (v:=V.str t) (by rw[Xq,g];rfl),_,rfl,c,_,1,_,rfl,rfl,SqT.of d,rfl,t,_,k,rfl,rfl,o,j3 m,q⟩
def Zo:zB ["board","found","row","text"] ["board"] (zp qv):=bh
def zb7 (T:Txt mg)(D:zm K mg "cells_of" qv ["board"] f fd):zU P w K mg base CX0 1 f fd ["board"] (zfH ql):=by
 refine D.F.ok Zo (λvs H Q E h=>?_) (λak A aj s H vs Q E hr h=>?_)
 .revert h;refine fL λa l rs n z0 _=>?_;subst z0;rfl
 .revert h;refine fN λa l rs n z0 b R q=>?_;subst z0;refine⟨_,(@ze _ _ _ _ _ (@qu _ _ 1 _ _ _ _ Zo.nd rfl (VL rfl) (@zW _ _ _ _ zd) (by rfl) (.inr rfl)) (ze (qt Xe rfl (JP (by rfl) T.ju (za (zF zQ (pvS 0) zf (λ_ _=>rfl)) zd)) (yX rfl (zM (pgq 2 Zo.nd) (zM (pgq 3 Zo.nd) jw))) (zg (jR (Ze WO UH UG QN (pvS 1) (za (pcm ["column","sign","row"] [none,none,some 2] cR (zlL (by rfl) T.ju (za (pvS 3) zd)) (zfp (n:=2) (K:=K) (by rfl) rfl (zM (pgN 0) (zM (pgN 1) jw))) (qk (z9 zek (pvS 1) (xJ (v:=.str "#") (by rfl) T.Qn.choose_spec (by exact⟨_,rfl⟩)) (zP _))) (qj (za (pvS 2) (za (pvS 0) zd)))) zd))))) (zg (zw (pvS 1))))),?_⟩;(try dsimp only[cxK,cxP,cxW]);refine⟨yR,λd hd=>?_⟩;have s0:zo H (upd H d (.lst [])):=zc hd;refine⟨_,rfl,a,_,0,_,rfl,rfl,SqT.of (b.mono s0).tp,rfl,l,rfl,⟨_,SqL.of (b.mono s0).rw⟩,?_⟩;refine JD (K:=K) (l:=l) (xs:=rs.map V.str) (λi O J=>∃(v2 v3:Option V) (G:AF),O=[some (.ref a),some (.ref d),v2,v3]/\zo H J/\J d=some (.lst G)/\Cel J G (Cells.zE ql 0 ((codes rs).take i)))
   (dG (e8 [] rfl s0 zb (.nil))) (λi O J _ ⟨_,_,_,_,s1,_⟩=>SqL.of (b.mono s1).rw) ?_ ?_
  .refine λi x tt O H1 hx ah=>fF λv2 v3 G z0 s1 U B=>?_;subst z0;rw[Xq]at hx;cases e:rs[i]? with
   | none =>
    rw[e]at hx;cases hx
   | some t =>
    rw[e]at hx;cases hx;have al:i<rs.length:=(X4.mp e).1;have st:zo H1 (upd H1 tt (.tup [.int (i:Nat),.str t])):=zc ah;refine eW tt rfl (SqT.of zb) rfl rfl rfl rfl ?_;have Y:upd H1 tt (.tup [.int (i:Nat),.str t]) d=some (.lst G):=st _ _ U;refine⟨_,rfl,.inl ⟨rfl,_,SqL.of Y⟩,_,rfl,t,rfl,λz hz=>?_⟩;refine zhW (x:=t) (λj O J=>∃(u0 u1:Option V) (r:AF),O=[u0,u1,some (.int (i:Nat))]/\zo (upd H1 tt (.tup [.int (i:Nat),.str t])) J/\J z=some (.lst r)/\Cel J r (Cells.zK ql i 0 (t.cps.toList.take j)))
     (dG (e8 [] rfl (zc hz) zb (.nil))) ?_ ?_
    .refine λj c t2 O L hc ag=>fF λu0 u1 r z0 s2 m g=>?_;subst z0;refine eW t2 rfl (SqT.of zb) rfl rfl rfl rfl ?_;refine⟨_,rfl,rfl,_,rfl,?_⟩;have af:t.cps.toList[j]?=some c:=by rw[Xy];exact hc
     have M:zo L (upd L t2 (.tup [.int (j:Nat),.str ⟨#[c]⟩])):=zc ag;have step:=Cells.Yv (p:=ql) (i:=i) af;have ed:(!decide (V.str ⟨#[c]⟩=V.str "#"))=ql c:=by
      rw[Zg];simp only[zdj];rfl
     rw[ed];by_cases hp:ql c=true
     .rw[hp]at step;refine jb hp ?_;refine⟨_,rfl,_,rfl,yi,λN ae=>?_⟩;have ai:z≠N:=zh (M _ _ m) ae;have s4:zo (upd L t2 (.tup [.int (j:Nat),.str ⟨#[c]⟩])) (upd (upd L t2 (.tup [.int (j:Nat),.str ⟨#[c]⟩])) N (.tup [.int (i:Nat),.int (j:Nat)])):=zc ae;have ab:r.length<=8:=by
       rw[g.length];refine X6 (Cells.jB _ _ _ _) ?_;have:=R.short _ (X8 (j9 e));rw[XN];lia
      refine dI r (s4 _ _ (M _ _ m)) (XM ab (by decide)) (eS (some (.int (j:Nat))) (some (.str ⟨#[c]⟩)) (r++[.ref N]) rfl (λb' o I=>?_) zb ?_)
      .have hb:b'≠z:=λy=>by
        subst y;rw[hz]at I;cases I
       rw[zj hb];exact s4 _ _ (M _ _ (s2 _ _ I))
      .rw[step];have keep:∀x o,x≠z->upd (upd L t2 (.tup [.int (j:Nat),.str ⟨#[c]⟩])) N (.tup [.int (i:Nat),.int (j:Nat)]) x=some o->upd (upd (upd L t2 (.tup [.int (j:Nat),.str ⟨#[c]⟩])) N (.tup [.int (i:Nat),.int (j:Nat)])) z (.lst (r++[.ref N])) x=some o:=λx o hx I=>by
        rw[zj hx];exact I
       refine Cel.snoc ?_ ⟨N,rfl,keep _ _ ai.symm zb⟩;exact Cel.into z (.lst (r++[.ref N])) (s4 _ _ (M _ _ m)) (Cel.mono s4 (Cel.mono M g))
     .have ac:ql c=false:=by simpa using hp
      rw[ac]at step;refine qW ac ?_;refine eS (some (.int (j:Nat))) (some (.str ⟨#[c]⟩)) r rfl (s2.trans M) (M _ _ m) ?_;rw[step];simpa using Cel.mono M g
    .refine λO L=>fF λu0 u1 r z0 s2 m g=>?_;subst z0;have am:d≠z:=zh Y hz;have aa:L d=some (.lst G):=s2 _ _ Y;have full:t.cps.toList.take t.cps.size=t.cps.toList:=by
      rw[<- X5,XJ]
     rw[full]at g;have step:=Cells.Yw (p:=ql) (j9 e);have l1:G.length<=64:=by
      rw[B.length];refine X6 (Cells.qE _ _ _ λu hu=>R.short u (V9 hu)) ?_;have:=R.hi;rw[XN,qK];lia
     have l2:r.length<=8:=by
      rw[g.length];exact X6 (Cells.jB _ _ _ _) (R.short _ (X8 (j9 e)))
     refine dR d z G r (dQ rfl rfl aa m (X6 (Nat.add_le_add l1 l2) (by decide)) ?_);refine dG (e8 (G++r) rfl (λb' o I=>?_) zb ?_)
     .have hb:b'≠d:=λy=>by
       subst y;rw[hd]at I;cases I
      rw[zj hb];exact s2 _ _ (st _ _ (s1 _ _ I))
     .rw[step];exact Cel.into d _ aa (Cel.append (Cel.mono s2 (Cel.mono st B)) g)
  .refine λO H1=>fF λv2 v3 G z0 s1 U B=>?_;subst z0;rw[ZB,<- qK,XJ]at B;exact⟨_,rfl,q d G H1 hd U B s1⟩
def zoE (c:Nat):(ql c&&decide (c=63))=x8 c:=by
 unfold ql x8;by_cases h:c=63
 .subst h;rfl
 .simp[h]
def zkW:zB ["board"] ["board"] (zp ZT):=bh
def zbI {f1 f2:Addr}{aa ab:XD}(T:Txt mg)(D:zm K mg "closed" ZT ["board"] f fd)(zv:zm K mg "cells_of" qv ["board"] f1 aa)(zq:zm K mg "sign_at" qw ["board","cell"] f2 ab) :
  zU P w K mg base CX0 2 f fd ["board"] (zfH x8):=by
 refine D.F.ok zkW (λvs H Q E h=>?_) (λaf A ae s H vs Q E hr h=>?_)
 .revert h;refine fL λa l g n z0 _=>?_;subst z0;rfl
 .revert h;refine fN λa l g n z0 b R q=>?_;subst z0;refine⟨_,(zg (zw (pcm ["cell","board"] [none,some 0] cR (zG (pc0 (zb7 T zv) hr zv (za (pvS 0) zd))) (pgN 0) (qk (z9 ZD (pc0 (YC zq) hr zq (za (pvS 1) (za (pvS 0) zd))) (xJ (v:=.str "?") (by rfl) T.Zx.choose_spec (by exact⟨_,rfl⟩)) (zP _))) (pvS 0)))),?_⟩;(try dsimp only[cxK,cxP,cxW]);refine⟨_,rfl,a,l,g,n,rfl,b,R,λd ws H1 hd G I s1=>⟨d,rfl,⟨_,SqL.of G⟩,λz Y=>?_⟩⟩;have nz:d≠z:=zh G Y;refine qb (K:=K) (a:=d) (xs:=ws) (λi σ O=>∃(u0:Option V) (r:AF),σ=[u0,some (.ref a)]/\zo H1 O/\O z=some (.lst r)/\Cel O r (((Cells.zE ql 0 (codes g)).take i).filter λx=>decide (Cells.sgn (codes g) x=63)))
   (eF [] rfl (zc Y) zb (.nil)) (λi σ O _ ⟨_,_,_,B,_⟩=>SqL.of (B _ _ G)) ?_ ?_
  .refine λi x σ H2 hx=>fm λu0 r z0 B m e=>?_;subst z0;refine fK (λc L ca z0 J=>?_) (Cel.get (Cel.mono B I) hx);subst z0;refine fN (λk0 j u k ec M hj ag=>?_) (Cells.yE (X8 L));obtain⟨t,ht,rfl⟩:=QW M;rw[VR]at ec;subst ec;refine⟨_,rfl,_,rfl,a,l,ca,g,n,k0,j,t,k,rfl,(b.mono s1).mono B,J,ht,hj,R.tlen ht,rfl,_,rfl,?_⟩;have es:Cells.sgn (codes g) (k0,j)=k:=Cells.zc9 M hj;have step:((Cells.zE ql 0 (codes g)).take (i+1)).filter (λx=>decide (Cells.sgn (codes g) x=63))=((Cells.zE ql 0 (codes g)).take i).filter (λx=>decide (Cells.sgn (codes g) x=63))++(if decide (k=63)=true then [(k0,j)] else []):=by
    rw[Xx,L,WX];congr 1;show N7 _ [(k0,j)]=_;rw[WE];try dsimp only
    rw[es];split<;>rfl
   have ed:decide (V.str ⟨#[k]⟩=V.str "?")=decide (k=63):=by
    rw[zir];simp only[zdj]
   rw[ed];by_cases U:decide (k=63)=true
   .rw[bw U]at step;refine jb U ?_;have N:r.length<=64:=by
     rw[e.length];refine X6 (W6 _ _) ?_;rw[XN];have h1:=Cells.qE ql 0 (codes g) R.short;have h2:=R.hi;rw[qK]at h1;lia
    refine⟨_,rfl,r,m,XM N (by decide),_,r++[.ref ca],rfl,λb' o e'=>?_,zb,?_⟩
    .have hb:b'≠z:=λy=>by
      subst y;rw[Y]at e';cases e'
     rw[zj hb];exact B _ _ e'
    .rw[step];exact Cel.into z _ m (Cel.snoc e ⟨ca,rfl,J⟩)
   .rw[bq U]at step;refine qW (by simpa using U) ?_;refine eF r rfl B m ?_;rw[step];simpa using e
  .refine λσ H2=>fm λu0 r z0 B m e=>?_;subst z0;rw[I.length,XJ,Cells.all_filter (p:=ql) (q:=λk=>decide (k=63)) (codes g)]at e;have ac:H z=none:=s1.free Y;exact q z r H2 ac m (by rw[Cells.Qi (q:=x8) zoE]at e;exact e) (s1.trans B)
def zd4:zB ["board"] ["board"] (zp qx):=bh
def jN {f1 f2:Addr}{aa ab:XD}(T:Txt mg)(D:zm K mg "open_cells" qx ["board"] f fd)(zv:zm K mg "cells_of" qv ["board"] f1 aa)(zq:zm K mg "sign_at" qw ["board","cell"] f2 ab) :
  zU P w K mg base CX0 2 f fd ["board"] (zfH YY):=by
 refine D.F.ok zd4 (λvs H Q E h=>?_) (λaf A ae s H vs Q E hr h=>?_)
 .revert h;refine fL λa l g n z0 _=>?_;subst z0;rfl
 .revert h;refine fN λa l g n z0 b R q=>?_;subst z0;refine⟨_,(zg (zw (pcm ["cell","board"] [none,some 0] cR (zG (pc0 (zb7 T zv) hr zv (za (pvS 0) zd))) (pgN 0) (qk (z9 zek (pc0 (YC zq) hr zq (za (pvS 1) (za (pvS 0) zd))) (xJ (v:=.str "?") (by rfl) T.Zx.choose_spec (by exact⟨_,rfl⟩)) (zP _))) (pvS 0)))),?_⟩;(try dsimp only[cxK,cxP,cxW]);refine⟨_,rfl,a,l,g,n,rfl,b,R,λd ws H1 hd G I s1=>⟨d,rfl,⟨_,SqL.of G⟩,λz Y=>?_⟩⟩;have nz:d≠z:=zh G Y;refine qb (K:=K) (a:=d) (xs:=ws) (λi σ O=>∃(u0:Option V) (r:AF),σ=[u0,some (.ref a)]/\zo H1 O/\O z=some (.lst r)/\Cel O r (((Cells.zE ql 0 (codes g)).take i).filter λx=>!decide (Cells.sgn (codes g) x=63)))
   (eF [] rfl (zc Y) zb (.nil)) (λi σ O _ ⟨_,_,_,B,_⟩=>SqL.of (B _ _ G)) ?_ ?_
  .refine λi x σ H2 hx=>fm λu0 r z0 B m e=>?_;subst z0;refine fK (λc L ca z0 J=>?_) (Cel.get (Cel.mono B I) hx);subst z0;refine fN (λk0 j u k ec M hj ag=>?_) (Cells.yE (X8 L));obtain⟨t,ht,rfl⟩:=QW M;rw[VR]at ec;subst ec;refine⟨_,rfl,_,rfl,a,l,ca,g,n,k0,j,t,k,rfl,(b.mono s1).mono B,J,ht,hj,R.tlen ht,rfl,_,rfl,?_⟩;have es:Cells.sgn (codes g) (k0,j)=k:=Cells.zc9 M hj;have step:((Cells.zE ql 0 (codes g)).take (i+1)).filter (λx=>!decide (Cells.sgn (codes g) x=63))=((Cells.zE ql 0 (codes g)).take i).filter (λx=>!decide (Cells.sgn (codes g) x=63))++(if (!decide (k=63))=true then [(k0,j)] else []):=by
    rw[Xx,L,WX];congr 1;show N7 _ [(k0,j)]=_;rw[WE];try dsimp only
    rw[es];split<;>rfl
   have ed:(!decide (V.str ⟨#[k]⟩=V.str "?"))=(!decide (k=63)):=by
    rw[zir];simp only[zdj]
   rw[ed];by_cases U:(!decide (k=63))=true
   .rw[bw U]at step;refine jb U ?_;have N:r.length<=64:=by
     rw[e.length];refine X6 (W6 _ _) ?_;rw[XN];have h1:=Cells.qE ql 0 (codes g) R.short;have h2:=R.hi;rw[qK]at h1;lia
    refine⟨_,rfl,r,m,XM N (by decide),_,r++[.ref ca],rfl,λb' o e'=>?_,zb,?_⟩
    .have hb:b'≠z:=λy=>by
      subst y;rw[Y]at e';cases e'
     rw[zj hb];exact B _ _ e'
    .rw[step];exact Cel.into z _ m (Cel.snoc e ⟨ca,rfl,J⟩)
   .rw[bq U]at step;refine qW (by simpa using U) ?_;refine eF r rfl B m ?_;rw[step];simpa using e
  .refine λσ H2=>fm λu0 r z0 B m e=>?_;subst z0;rw[I.length,XJ,Cells.all_filter (p:=ql) (q:=λk=>(!decide (k=63))) (codes g)]at e;have ac:H z=none:=s1.free Y;exact q z r H2 ac m e (s1.trans B)
def zfI:zB ["board","cell"] ["board","cell"] (zp jt):=bh
def YD {o:Addr}{a:XD}(T:Txt mg)(D:zm K mg "number_at" jt ["board","cell"] f fd)(g:zm K mg "sign_at" qw ["board","cell"] o a):zU P w K mg base CX0 2 f fd ["board","cell"] zmH:=by
 refine D.F.ok zfI (λG H Q E h=>?_) (λm A d s H G Q E y h=>?_)
 .revert h;refine fu λp l c e n i j t=>fq λk z0 _=>?_;subst z0;rfl
 .revert h;refine fu λp l c e n i j t=>fU λk z0 b r u=>fO λv x z B q=>?_;subst z0;refine⟨_,(zg (zw (pt1 zaQ T.zjA T7 (pc0 (YC g) y g (za (pvS 0) (za (pvS 1) zd)))))),?_⟩;(try dsimp only[cxK,cxP,cxW]);exact⟨_,rfl,_,rfl,p,l,c,e,n,i,j,t,k,rfl,b,r,u,v,x,⟨#[k]⟩,_,rfl,int_sign z B,(by show 1<=640;decide),q⟩
def zbJ {k:Nat}(h:k∈bd.cps.toList)(a:YY k=true):48<=k/\k<=56:=by
 have:∀k∈bd.cps.toList,YY k=true->48<=k/\k<=56:=by decide+kernel
 exact this k h a
def Rows.openAt {rs:AE}(R:Rows bd.cps.toList rs){p:Nat->Bool}{c:AA}(h:c∈Cells.zE p 0 (codes rs)):∃t k,rs[c.1]?=some t/\t.cps.toList[c.2]?=some k/\p k=true/\k∈bd.cps.toList/\t.length<=XA:=by
 refine fN (λg j u k e a f b=>?_) (Cells.yE h);obtain⟨t,d,rfl⟩:=QW a;rw[VR]at e;subst e;obtain⟨n,_,_,q⟩:=R.ex;exact⟨t,k,d,f,b,(q t (X8 d)).mem k (X8 f),R.tlen d⟩
def zL (rs:AE)(y:AA):AD:=(Cells.zE ql 0 (codes rs)).filter λx=>Cells.near x y
def zmI:Sp:=λf H Q _=>∃(p l c:Addr) (b:AE) (n:Int) (i j:Nat),f=[.ref p,.ref c]/\qf H p l b n/\Rows bd.cps.toList b/\H c=some (.tup [.int (i:Nat),.int (j:Nat)])/\i<64/\j<64 /\
 ∀(d:Addr) (e:AF) (a:Hp),H d=none->a d=some (.lst e)->Cel a e (zL b (i,j))->zo H a->Q (.ref d) a
def zgY (i:Nat):(if (0:Int)>(i:Int)-1 then (0:Int) else (i:Int)-1)=((i-1:Nat):Int):=by
 split<;>lia
def zgZ (i m:Nat):(if ((m:Nat):Int)<(i:Int)+2 then ((m:Nat):Int) else (i:Int)+2)=((min (i+2) m:Nat):Int):=by
 split<;>lia
def zg0 {f:AA->Bool}{l:AD}{x:AA}(a:Bool):(l++(if a=true then [x] else [])).filter f=l.filter f++(if (a&&f x)=true then [x] else []):=by
 rw[WX];congr 1;by_cases h:a=true
 .by_cases h2:f x=true
  .simp[h,h2]
  .simp[h,h2]
 .simp[h]
def ZW:zB ["board","cell","rows","found","row","column"] ["board","cell"] (zp jK):=bh
def QX (T:Txt mg)(D:zm K mg "around" jK ["board","cell"] f fd):zU P w K mg base CX0 1 f fd ["board","cell"] zmI:=by
 refine D.F.ok ZW (λvs H Q E h=>?_) (λav A aq s H vs Q E hr h=>?_)
 .revert h;refine fZ λp l M e n i j z0 _=>?_;subst z0;rfl
 .revert h;refine gb λp l M e n i j z0 b R B=>fB λar au q=>?_;subst z0;refine⟨_,(ze (qA 2 ZW.nd (zF zQ (pvS 0) zf (λ_ _=>rfl))) (@ze _ _ _ _ _ (@qu _ _ 3 _ _ _ _ ZW.nd rfl (VL rfl) (@zW _ _ _ _ zd) (by rfl) (.inr rfl)) (ze (qt Xe rfl (zbu (by rfl) T.yT (za (pb2 (QL rfl) T.zgX UW (zC Zi (zF zQ (pvS 1) zf (λ_ _=>rfl)) zf) zf) (za (pb2 (ZE rfl) T.zeQ Vr (zC Jq (zF zQ (pvS 1) zf (λ_ _=>rfl)) zf) (pb1 zH T.qC Xg (pvS 2))) zd))) (pgq 4 ZW.nd) (zg (qt Xe rfl (zbu (by rfl) T.yT (za (pb2 (QL rfl) T.zgX UW (zC Zi (zF zQ (pvS 1) zf (λ_ _=>rfl)) zf) zf) (za (pb2 (ZE rfl) T.zeQ Vr (zC Jq (zF zQ (pvS 1) zf (λ_ _=>rfl)) zf) (pb1 zaO T.qC Xg (zF xY (pvS 2) (pvS 4) (λ_ _=>rfl)))) zd))) (pgq 5 ZW.nd) (zg (qy (PW.pt (zcL (z9 zek (zF zjt (zF xY (pvS 2) (pvS 4) (λ_ _=>rfl)) (pvS 5) (λ_ _=>rfl)) (xJ (v:=.str "#") (by rfl) T.Qn.choose_spec (by exact⟨_,rfl⟩)) (zP _)) (zaH (z9 (jy hr.units) (qj (za (pvS 4) (za (pvS 5) zd))) (pvS 1) (zP _))))) (zg (jR (Ze WO Wu Wt JX (pvS 3) (za (qj (za (pvS 4) (za (pvS 5) zd))) zd)))) zY))))) (zg (zw (pvS 3)))))),?_⟩;(try dsimp only[cxK,cxP,cxW]);refine⟨_,rfl,p,_,0,_,rfl,rfl,SqT.of b.tp,rfl,?_⟩;refine⟨yR,λd hd=>?_⟩;have s0:zo H (upd H d (.lst [])):=zc hd;have r8:=R.hi;refine⟨_,rfl,M,_,0,_,rfl,rfl,SqT.of (s0 _ _ B),rfl,_,_,rfl,rfl,_,_,rfl,_,rfl,M,_,0,_,rfl,rfl,SqT.of (s0 _ _ B),rfl,_,_,rfl,rfl,_,rfl,l,_,rfl,.inl (SqL.of (b.mono s0).rw),_,_,rfl,((i-1:Nat):Int),((min (i+2) e.length:Nat):Int),?_,⟨by lia,by lia,by lia,by lia⟩,?_⟩
  .show [V.int (if (0:Int)>(i:Int)-1 then (0:Int) else (i:Int)-1),V.int (if (((e.map V.str).length:Nat):Int)<(i:Int)+2 then (((e.map V.str).length:Nat):Int) else (i:Int)+2)]=_;rw[ZB,zgY,zgZ]
  refine jj (lo:=((i-1:Nat):Int)) (λk σ O=>∃(v4 v5:Option V) (L:AF),σ=[some (.ref p),some (.ref M),some (.ref l),some (.ref d),v4,v5]/\zo H O/\O d=some (.lst L)/\Cel O L ((Cells.zE ql 0 ((codes e).take (i-1+k))).filter λx=>Cells.near x (i,j)))
   (dG (e8 [] rfl s0 zb ?_)) ?_ ?_
  .rw[Cells.zmu]
   .exact .nil
   .intro r c al;rw[Xs,ne_eq,Cells.yS];rintro⟨⟨_,h2⟩,_⟩;dsimp only at h2;lia
  .refine λk σ H1 hk=>fF λv4 v5 L z0 s1 Y J=>?_;subst z0;have am:i-1+k<e.length:=by lia
   have U:((i-1:Nat):Int)+(k:Nat)=((i-1+k:Nat):Int):=by lia
   rw[U];generalize ay:i-1+k=r at *
   obtain⟨t,ht⟩:∃t,e[r]?=some t:=⟨_,XZ am⟩;have ai:t.length<=XA:=R.tlen ht;have a1:t.cps.toList.length<=8:=R.short _ (X8 (j9 ht));have ab:atI (e.map V.str) ((r:Nat):Int)=some (V.str t):=j3 (by rw[Xq,ht];rfl);refine⟨_,rfl,M,_,1,_,rfl,rfl,SqT.of (s1 _ _ B),rfl,_,_,rfl,rfl,_,_,rfl,_,rfl,M,_,1,_,rfl,rfl,SqT.of (s1 _ _ B),rfl,_,_,rfl,rfl,_,rfl,_,rfl,l,_,_,_,rfl,rfl,SqL.of (b.mono s1).rw,ab,t,rfl,ai,_,_,rfl,((j-1:Nat):Int),((min (j+2) t.cps.size:Nat):Int),?_,⟨by lia,by lia,by lia,?_⟩,?_⟩
   .show [V.int (if (0:Int)>(j:Int)-1 then (0:Int) else (j:Int)-1),V.int (if ((t.cps.size:Nat):Int)<(j:Int)+2 then ((t.cps.size:Nat):Int) else (j:Int)+2)]=_;rw[zgY,zgZ]
   .lia
   have az:t.cps.toList.length=t.cps.size:=X5;refine jj (lo:=((j-1:Nat):Int)) (λm σ O=>∃(v5:Option V) (L:AF),σ=[some (.ref p),some (.ref M),some (.ref l),some (.ref d),some (.int (r:Nat)),v5]/\zo H O/\O d=some (.lst L)/\Cel O L ((Cells.zE ql 0 ((codes e).take r)).filter (λx=>Cells.near x (i,j))++(Cells.zK ql r 0 (t.cps.toList.take (j-1+m))).filter λx=>Cells.near x (i,j)))
    (eF L rfl s1 Y ?_) ?_ ?_
   .rw[Cells.zmv (t:=t.cps.toList),Xf]
    .exact J
    .intro c aj;rw[Xs,ne_eq,Cells.yS];rintro⟨_,⟨_,h2⟩,_⟩;dsimp only at h2;lia
   .refine λm σ H2 hm=>fm λv5 y z0 s2 G g=>?_;subst z0;have ax:j-1+m<t.cps.size:=by lia
    have I:((j-1:Nat):Int)+(m:Nat)=((j-1+m:Nat):Int):=by lia
    rw[I];generalize aw:j-1+m=c at *
    have z:j-1+(m+1)=c+1:=by lia
    obtain⟨N,af⟩:∃N,t.cps.toList[c]?=some N:=⟨_,XZ (by lia)⟩;have step:=Cells.Yv (p:=ql) (i:=r) af;have a:(Cells.zK ql r 0 (t.cps.toList.take (c+1))).filter (λx=>Cells.near x (i,j))=(Cells.zK ql r 0 (t.cps.toList.take c)).filter (λx=>Cells.near x (i,j))++(if (ql N&&Cells.near (r,c) (i,j))=true then [(r,c)] else []):=by
     rw[step,zg0]
    have nr:Cells.near (r,c) (i,j)=!decide ((r,c)=(i,j)):=by
     rw[WV,Cells.yS];simp only[WF,decide_eq_false_iff_not];constructor
     .exact λh=>h.2.2
     .intro h;refine⟨⟨?_,?_⟩,⟨?_,?_⟩,h⟩<;>(try dsimp only)<;>lia
    refine⟨_,rfl,_,rfl,l,_,_,_,rfl,rfl,SqL.of (b.mono s2).rw,ab,_,rfl,t,_,N,rfl,rfl,ai,j3 af,rfl,_,rfl,?_⟩;have ed:(!decide (V.str ⟨#[N]⟩=V.str "#"))=ql N:=by
     rw[Zg];simp only[zdj];rfl
    rw[ed];by_cases hp:ql N=true
    .refine jb hp ?_;refine⟨_,rfl,_,rfl,yi,λtp an=>?_⟩;have s3:zo H2 (upd H2 tp (.tup [.int (r:Nat),.int (c:Nat)])):=zc an;have ae:=s3 _ _ (s2 _ _ B);refine⟨_,rfl,_,_,yk.rdv (c:=(r,c)) ⟨tp,rfl,zb⟩,yk.rdv (c:=(i,j)) ⟨M,rfl,ae⟩,zeR _ _,_,rfl,?_⟩;have ee:(if true=true then !PyData.eqv (zk (r,c)) (zk (i,j)) else Xa (zk (r,c)) (zk (i,j)))=Cells.near (r,c) (i,j):=by
      rw[ZV,nr];rfl
     rw[ee];rw[hp,Rs]at a;by_cases hn:Cells.near (r,c) (i,j)=true
     .refine jb hn ?_;rw[bw hn]at a;have aa:=s3 _ _ G;refine⟨_,rfl,.inl ⟨rfl,_,SqL.of aa⟩,_,rfl,_,rfl,yi,λtq ao=>?_⟩;have s4:zo (upd H2 tp (.tup [.int (r:Nat),.int (c:Nat)])) (upd (upd H2 tp (.tup [.int (r:Nat),.int (c:Nat)])) tq (.tup [.int (r:Nat),.int (c:Nat)])):=zc ao;have ag:y.length<=128:=by
       rw[g.length,XY];have h1:=W6 (λx=>Cells.near x (i,j)) (Cells.zE ql 0 ((codes e).take r));have h2:=W6 (λx=>Cells.near x (i,j)) (Cells.zK ql r 0 (t.cps.toList.take c));have h3:=Cells.qE ql 0 ((codes e).take r) λu hu=>R.short u (V9 hu);have h4:=Cells.jB ql r 0 (t.cps.toList.take c);rw[XN,qK]at h3;rw[XN]at h4;lia
      refine⟨d,_,_,rfl,rfl,s4 _ _ aa,XM ag (by decide),?_⟩;refine eF (y++[.ref tq]) rfl (λb' o e'=>?_) zb ?_
      .rw[zj (zh e' hd)];exact s4 _ _ (s3 _ _ (s2 _ _ e'))
      .rw[z,a,<- W2];exact Cel.into d _ (s4 _ _ aa) (Cel.snoc (Cel.mono s4 (Cel.mono s3 g)) ⟨tq,rfl,zb⟩)
     .have ak:Cells.near (r,c) (i,j)=false:=by simpa using hn
      refine qW ak ?_;rw[bq hn,Xf]at a;refine eF y rfl (s2.trans s3) (s3 _ _ G) ?_;rw[z,a];exact Cel.mono s3 g
    .have ah:ql N=false:=by simpa using hp
     refine qW ah ?_;refine ZG ?_;rw[ah,SQ,bq XS,Xf]at a;refine eF y rfl s2 G ?_;rw[z,a];exact g
   .refine λσ H2=>fm λv5 y z0 s2 G g=>?_;subst z0;refine dG (e8 y rfl s2 G ?_);have full:(Cells.zK ql r 0 (t.cps.toList.take (j-1+(((min (j+2) t.cps.size:Nat):Int)-((j-1:Nat):Int)).toNat))).filter (λx=>Cells.near x (i,j))=(Cells.zK ql r 0 t.cps.toList).filter λx=>Cells.near x (i,j):=by
     by_cases ac:t.cps.size<=j-1+(((min (j+2) t.cps.size:Nat):Int)-((j-1:Nat):Int)).toNat
     .rw[WR (by lia)]
     .refine Cells.zkR λc aj=>?_;rw[Xs,ne_eq,Cells.yS];rintro⟨_,⟨h2,_⟩,_⟩;dsimp only at h2;lia
    rw[full]at g;have e1:i-1+(k+1)=r+1:=by lia
    rw[e1,Cells.Yw (j9 ht),WX];exact g
  .refine λσ H1=>fF λv4 v5 L z0 s1 Y J=>?_;subst z0;have full:(Cells.zE ql 0 ((codes e).take (i-1+(((min (i+2) e.length:Nat):Int)-((i-1:Nat):Int)).toNat))).filter (λx=>Cells.near x (i,j))=zL e (i,j):=by
    by_cases ac:e.length<=i-1+(((min (i+2) e.length:Nat):Int)-((i-1:Nat):Int)).toNat
    .rw[WR (by rw[qK];lia)];rfl
    .refine Cells.zkQ λr c al=>?_;rw[Xs,ne_eq,Cells.yS];rintro⟨⟨h2,_⟩,_⟩;dsimp only at h2;lia
   rw[full]at J;exact⟨_,rfl,q d L H1 hd Y J s1⟩
def yk.rdn {N:Addr->Prop}{H:Hp}{v:V}{c:AA}(h:yk H v c):Rdn N H v (zk c):=by
 obtain⟨a,rfl,h⟩:=h;exact .tup h (.cons (.int _) (.cons (.int _) .nil))
theorem Cel.rdn {N:Addr->Prop}{H:Hp}{vs:AF}{a:AD}(b:Cel H vs a):zx N H vs (a.map zk):=by
 induction b with
 | nil=>exact .nil
 | cons h _ c =>
  exact .cons (yk.rdn h) c
def Rdn.celR {N:Addr->Prop}{H:Hp}{v:V}{c:AA}(h:Rdn N H v (zk c)):yk H v c:=by
 cases h with
 | tup h t =>
  cases t with
  | cons a t =>
   cases a;cases t with
   | cons b t =>
    cases b;cases t;exact⟨_,rfl,h⟩
theorem zx.cel {N:Addr->Prop}{H:Hp}:∀{b:AD} {vs:AF},zx N H vs (b.map zk)->Cel H vs b
 | [],_,h=>by cases h;exact .nil
 | c::r,_,h=>by
  cases h with
  | cons a t=>exact .cons (Rdn.celR a) (zx.cel t)
theorem zx.bools {N:Addr->Prop}{H:Hp}:∀{bs:List Bool} {vs:AF},zx N H vs (bs.map SX)->vs=bs.map V.bl
 | [],_,h=>by cases h;rfl
 | b::r,_,h=>by
  cases h with
  | cons a t =>
   cases a;rw[zx.bools t];rfl
theorem zZ {α:Type}(p:α->Bool)(g:α->We):∀a:List α,(a.map λx=>if p x=true then some (g x) else none).filterMap id=(a.filter p).map g
 | []=>rfl
 | c::r=>by
  rw[Xw,Vg,WE];by_cases h:p c=true
  .rw[bw h,bw h];show g c::_=g c::_;rw[zZ p g r]
  .rw[bq h,bq h];exact zZ p g r
theorem ZX {α:Type}(g:α->We):∀a:List α,(a.map λx=>some (g x)).filterMap id=a.map g
 | []=>rfl
 | c::r=>by
  rw[Xw,Vg];show g c::_=g c::_;rw[ZX g r]
def jd {α d:Type}{g:α->d}{a:List α}{i:Nat}{c:α}{o:d}(h:a[i]?=some c)(b:(a.map g)[i]?=some o):o=g c:=by
 rw[Xq,h]at b;exact(Option.some.inj b).symm
def clA (rs:AE)(c:AA):AD:=(zL rs c).filter λx=>decide (Cells.sgn (codes rs) x=63)
def zI (rs:AE):AD:=Cells.zE x8 0 (codes rs)
def zT (rs:AE):AD:=Cells.zE YY 0 (codes rs)
def yc (rs:AE):AD:=(zI rs).filter λc=>!((zT rs).map λo=>(zL rs o).any λz=>decide (z=c)).any id
def jS (rs:AE):AD:=((zT rs).filter λo=>(clA rs o).isEmpty).filter λo=>!decide (Cells.sgn (codes rs) o=48)
def qL {p:Nat->Bool}{rs:AE}(R:Rows bd.cps.toList rs):(Cells.zE p 0 (codes rs)).length<=64:=by
 have h1:=Cells.qE p 0 (codes rs) R.short;have h2:=R.hi;rw[qK]at h1;lia
def Zy {rs:AE}(R:Rows bd.cps.toList rs)(c:AA):(zL rs c).length<=64:=X6 (W6 _ _) (qL R)
def qd {p:Nat->Bool}{rs:AE}{c:AA}(h:c∈Cells.zE p 0 (codes rs)):∃t k,rs[c.1]?=some t/\t.cps.toList[c.2]?=some k/\p k=true/\Cells.sgn (codes rs) c=k:=by
 refine fN (λg j u k d a e b=>?_) (Cells.yE h);obtain⟨t,f,rfl⟩:=QW a;rw[VR]at d;subst d;exact⟨t,k,f,e,b,Cells.zc9 a e⟩
def yy {rs:AE}{c:AA}{t:Str}{k:Nat}(R:Rows bd.cps.toList rs)(h1:rs[c.1]?=some t)(h2:t.cps.toList[c.2]?=some k):c.1<64/\c.2<64:=by
 have a:=(X4.mp h1).1;have b:=(X4.mp h2).1;have e:=R.hi;have f:=R.short _ (X8 (j9 h1));lia
def zjB {rs:AE}{i j:Nat}{t:Str}{k:Nat}(R:Rows bd.cps.toList rs)(h1:rs[i]?=some t)(h2:t.cps.toList[j]?=some k):k∈bd.cps.toList:=by
 obtain⟨n,_,_,h⟩:=R.ex;exact(h t (X8 h1)).mem k (X8 h2)
def zpu:Sp:=λg H Q _=>∃(p l e:Addr) (b:AE) (n:Int) (c:AA),g=[.ref p,.ref e]/\qf H p l b n/\Rows bd.cps.toList b/\H e=some (.tup [.int (c.1:Nat),.int (c.2:Nat)])/\c.1<64/\c.2<64 /\
 ∀(d:Addr) (f:AF) (a:Hp),H d=none->a d=some (.lst f)->Cel a f (clA b c)->zo H a->Q (.ref d) a
def zpv (g:AE->AD):Sp:=λf H Q _=>∃(a l:Addr) (c:AE) (n:Int),f=[.ref a]/\qf H a l c n/\Rows bd.cps.toList c /\
 ∀(d:Addr) (e:AF) (b:Hp),H d=none->b d=some (.lst e)->Cel b e (g c)->zo H b->Q (.ref d) b
def zbK:zB ["board","cell"] ["board","cell"] (zp qB):=bh
def yd {f1 f2:Addr}{I J:XD}(T:Txt mg)(D:zm K mg "closed_around" qB ["board","cell"] f fd)(zJ:zm K mg "around" jK ["board","cell"] f1 I)(zq:zm K mg "sign_at" qw ["board","cell"] f2 J) :
  zU P w K mg base CX0 2 f fd ["board","cell"] zpu:=by
 refine D.F.ok zbK (λvs H Q E h=>?_) (λaa A N s H vs Q E hr h=>?_)
 .revert h;refine fQ λp l ca r=>fP λn c z0 _=>?_;subst z0;rfl
 .revert h;refine gc λp l ca r n c z0 b R L=>fB λci cj q=>?_;subst z0;refine⟨_,(zg (zw (pcm ["place","board"] [none,some 0] cR (zG (pc0 (QX T zJ) hr zJ (za (pvS 0) (za (pvS 1) zd)))) (pgN 0) (qk (z9 ZD (pc0 (YC zq) hr zq (za (pvS 1) (za (pvS 0) zd))) (xJ (v:=.str "?") (by rfl) T.Zx.choose_spec (by exact⟨_,rfl⟩)) (zP _))) (pvS 0)))),?_⟩;(try dsimp only[cxK,cxP,cxW]);refine⟨_,rfl,_,rfl,p,l,ca,r,n,c.1,c.2,rfl,b,R,L,ci,cj,λd ws H1 hd i e s1=>⟨d,rfl,⟨_,SqL.of i⟩,λz hz=>?_⟩⟩;refine qc (K:=K) (a:=d) (xs:=ws) (λa=>a≠z) ((zL r c).map λx=>if decide (Cells.sgn (codes r) x=63)=true then some (zk x) else none) (fun σ=>∃u0,σ=[u0,some (.ref p)]) hz (λ_ h=>h) ⟨_,rfl⟩ (by rw[ZB];exact e.length.symm) (by rw[e.length];exact X6 (Zy R c) (by decide)) (SqL.of i) ?_ ?_
  .rintro k x o σ U hx ho u _ ⟨u0,rfl⟩ Y Z O no;obtain⟨y,hy,r1⟩:=Cel.get e hx;have g:=jd hy ho;refine fm (λt G ht hj _ es=>?_) (qd (XW.mp (X8 hy)).1);obtain⟨ya,rfl,m⟩:=r1;refine⟨_,rfl,_,rfl,p,l,ya,r,n,y.1,y.2,t,G,rfl,(b.mono s1).mono u,u _ _ m,ht,hj,R.tlen ht,rfl,_,rfl,?_⟩;have ed:decide (V.str ⟨#[G]⟩=V.str "?")=decide (G=63):=by
    rw[zir];simp only[zdj]
   rw[ed];rw[es]at g;by_cases B:G=63
   .rw[br B];rw[bw (br B)]at g;exact zan ⟨_,rfl,O _ _ _ _ g ⟨_,rfl⟩ (zo.refl _) (yk.rdn ⟨ya,rfl,u _ _ m⟩)⟩
   .rw[bf B];rw[bq (by rw[bf B];exact XS)]at g;exact ZG (no _ _ g ⟨_,rfl⟩ (zo.refl _))
  .rintro ys U u M j;rw[zZ]at j;exact q z ys U (s1.free hz) M (zx.cel j) (s1.trans u)
def Y0 (a:AD):VB (a.map zk)=true:=by
 induction a with
 | nil=>rfl
 | cons c r b =>
  show (U2 (zk c)&&VB (r.map zk))=true;rw[b];rfl
def zdk (a:AD):UR (a.map zk)<=1:=by
 induction a with
 | nil=>exact WY _
 | cons c r b =>
  show max (PyData.depth (zk c)) (UR (r.map zk))<=1;have:PyData.depth (zk c)=1:=rfl;lia
def YE (a b:AD):zlJ (.list (a.map zk)) (.list (b.map zk)):=⟨Y0 a,Y0 b,by
 show UR (a.map zk)+1<=64;have:=zdk a;lia⟩
def x9 (a:AD)(c:AA):(a.map zk).any (λz=>Xa z (zk c))=a.any λz=>decide (z=c):=by
 rw[Ul];congr 1;funext z;exact ZV z c
def eq_nil (a:AD):Xa (.list (a.map zk)) (.list [])=a.isEmpty:=by
 cases a<;>rfl
def zmJ:zB ["board","told"] ["board"] (zp zjy):=bh
def zmK {f1 f2 f3 f4 f5:Addr}{al am an ao aq:XD}(T:Txt mg)(D:zm K mg "far" zjy ["board"] f fd)(zJ:zm K mg "around" jK ["board","cell"] f1 al)(zq:zm K mg "sign_at" qw ["board","cell"] f2 am)
  (zv:zm K mg "cells_of" qv ["board"] f3 an) (qR:zm K mg "closed" ZT ["board"] f4 ao) (zu:zm K mg "open_cells" qx ["board"] f5 aq):zU P w K mg base CX0 3 f fd ["board"] (zpv yc):=by
 refine D.F.ok zmJ (λvs H Q E h=>?_) (λa4 A a1 s H vs Q E hr h=>?_)
 .revert h;refine fL λa l g n z0 _=>?_;subst z0;rfl
 .revert h;refine fN λa l g n z0 b R q=>?_;subst z0;refine⟨_,(ze (qA 1 zmJ.nd (pcm ["cell","board"] [none,some 0] cR (zG (pc0 (jN T zu zv zq) hr zu (za (pvS 0) zd))) (pgN 0) qa (pc0 (QX T zJ) hr zJ (za (pvS 1) (za (pvS 0) zd))))) (zg (zw (zrT ["cell","told"] [none,some 1] (c1 (y:="cell")) (zG (pc0 (zbI T qR zv zq) hr qR (za (pvS 0) zd))) (pgN 0) (qk (zak (ZH (K:=K) (by rfl) (pb1 (zet (K:=K) (by rfl) (by rfl)) T.zjz T6 (pcm ["near","cell"] [none,some 0] cR (zcT (K:=K) (by rfl) (pvS 1)) (pgN 0) qa (jx (qI (K:=K) (by rfl) hr.units) (pvS 1) (pvS 0) (by rfl)))) (λ_=>rfl)))) (pvS 0))))),?_⟩;(try dsimp only[cxK,cxP,cxW]);refine⟨_,rfl,a,l,g,n,rfl,b,R,λd ws H1 hd aa u s1=>(dI d rfl ⟨_,SqL.of aa⟩ (λz hz=>?_))⟩;have b1:=b.mono s1;refine qc (K:=K) (a:=d) (xs:=ws) (λa=>a≠z) ((zT g).map λo=>some (.list ((zL g o).map zk))) (fun r=>∃I,r=[I,some (.ref a)]) hz (λ_ h=>h) ⟨_,rfl⟩ (by rw[ZB];exact u.length.symm) (by rw[u.length];exact X6 (qL R) (by decide)) (SqL.of aa) ?_ ?_
  .rintro k x o r H2 hx ho N az ⟨I,rfl⟩ Y Z L no;obtain⟨y,hy,r1⟩:=Cel.get u hx;have M:=jd hy ho;refine fm (λt sg ht hj _ es=>?_) (qd (X8 hy));obtain⟨J,rfl,i⟩:=r1;obtain⟨l1,l2⟩:=yy R ht hj;refine jA ⟨_,rfl,_,rfl,a,l,J,g,n,y.1,y.2,rfl,b1.mono N,R,N _ _ i,l1,l2,λd2 a6 H3 au ab ar O=>?_⟩;refine L _ _ _ _ M ⟨_,rfl⟩ O (.lst (λe=>az (e ▸ au)) ab (Cel.rdn ar))
  .rintro ys H2 N ax G;rw[ZX]at G;have b2:=b1.mono N;refine⟨_,rfl,a,l,g,n,rfl,b2,R,λd3 a2 H3 ab ac B O=>(dI d3 rfl ⟨_,SqL.of ac⟩ (λz3 ah=>?_))⟩;have ai:=O _ _ ax;have aw:=G.keep O;refine qc (K:=K) (a:=d3) (xs:=a2) (λa=>a≠z3) ((zI g).map λc=>if (!((zT g).map λo=>(zL g o).any λz=>decide (z=c)).any id)=true then some (zk c) else none) (fun r=>∃I,r=[I,some (.ref z)]) ah (λ_ h=>h) ⟨_,rfl⟩ (by rw[ZB];exact B.length.symm) (by rw[B.length];exact X6 (qL R) (by decide)) (SqL.of ac) ?_ ?_
   .rintro k x o r H4 hx ho U _ ⟨I,rfl⟩ Y Z L no;obtain⟨y,hy,r1⟩:=Cel.get B hx;have M:=jd hy ho;have r2:yk H4 x y:=by
     obtain⟨J,e,i⟩:=r1;exact⟨J,e,U _ _ i⟩
    refine⟨_,rfl,z,rfl,⟨_,SqL.of (U _ _ ai)⟩,λz5 ay=>?_⟩;have ag:ys.length=(zT g).length:=by rw[G.length,ZB]
    refine qc (K:=K) (a:=z) (xs:=ys) (λa=>a≠z5) ((zT g).map λo=>some (.bool ((zL g o).any λz=>decide (z=y)))) (fun r=>∃I,r=[I,some x]) ay (λ_ h=>h) ⟨_,rfl⟩ (by rw[ZB];exact ag.symm) (by rw[ag];exact X6 (qL R) (by decide)) (SqL.of (U _ _ ai)) ?_ ?_
    .rintro m v o2 r H5 hv av s5 _ ⟨u1,rfl⟩ Y2 Z2 aj a5;obtain⟨dv,j,rv⟩:=aw.get hv;rw[Xq]at j;cases eoc:(zT g)[m]? with
     | none=>rw[eoc]at j;cases j
     | some oc =>
      rw[eoc]at j;cases j;have ak:=jd eoc av;have r3:yk H5 x y:=by
       obtain⟨J,e,i⟩:=r2;exact⟨J,e,s5 _ _ i⟩
      refine jA ⟨_,rfl,_,rfl,zk y,(zL g oc).map zk,r3.rdv,(((rv.keep U).keep s5).rdv),rfl,Y0 _,(by show 1<=60;decide),?_⟩;have ei:(if false=true then !((zL g oc).map zk).any (λz=>Xa z (zk y)) else ((zL g oc).map zk).any λz=>Xa z (zk y))=(zL g oc).any λz=>decide (z=y):=x9 _ _;rw[ei];exact aj _ _ _ _ ak ⟨_,rfl⟩ (zo.refl _) (.bl _)
    .rintro a7 H5 s5 p af;rw[ZX,show ((zT g).map λo=>SX ((zL g o).any λz=>decide (z=y)))=((zT g).map λo=>(zL g o).any λz=>decide (z=y)).map SX by rw[Wv];rfl]at af;rw[zx.bools af]at p;refine eE z5 (dD rfl (SqL.of p) (dB rfl ?_));by_cases hp:(!((zT g).map λo=>(zL g o).any λz=>decide (z=y)).any id)=true
     .rw[bw hp]at M;refine jb hp ⟨_,rfl,L _ _ _ _ M ⟨_,rfl⟩ s5 (yk.rdn ?_)⟩;obtain⟨J,e,i⟩:=r2;exact⟨J,e,s5 _ _ i⟩
     .rw[bq hp]at M;exact qW (by simpa using hp) (no _ _ M ⟨_,rfl⟩ s5)
   .rintro a3 H4 U p ae;rw[zZ]at ae;exact q z3 a3 H4 (s1.free (N.free (O.free ah))) p (zx.cel ae) (((s1.trans N).trans O).trans U)
def zad:zB ["board","bare"] ["board"] (zp Jr):=bh
def zae {f1 f2 f3 f4 f5 f6:Addr}{aa ab ac ae af ag:XD}(T:Txt mg)(D:zm K mg "bare_wrong" Jr ["board"] f fd)(zJ:zm K mg "around" jK ["board","cell"] f1 aa)(zq:zm K mg "sign_at" qw ["board","cell"] f2 ab)
  (zv:zm K mg "cells_of" qv ["board"] f3 ac) (zz:zm K mg "closed_around" qB ["board","cell"] f4 ae) (zu:zm K mg "open_cells" qx ["board"] f5 af) (zO:zm K mg "number_at" jt ["board","cell"] f6 ag):zU P w K mg base CX0 3 f fd ["board"] (zpv jS):=by
 refine D.F.ok zad (λvs H Q E h=>?_) (λam A ak s H vs Q E hr h=>?_)
 .revert h;refine fL λa l c n z0 _=>?_;subst z0;rfl
 .revert h;refine fN λa l c n z0 b R q=>?_;subst z0;refine⟨_,(ze (psC 1 zad.nd ["cell","board"] [none,some 0] cR (zG (pc0 (jN T zu zv zq) hr zu (za (pvS 0) zd))) (pgN 0) (qk (z9 (zb1 (K:=K) (by rfl) hr.units) (pc0 (yd T zz zJ zq) hr zz (za (pvS 1) (za (pvS 0) zd))) (@zW _ _ _ _ zd) (zP _))) (pvS 0)) (zg (zw (pcm ["cell","board"] [none,some 0] cR (zG (pvS 1)) (pgN 0) (qk (z9 zek (pc0 (YD T zO zq) hr zO (za (pvS 1) (za (pvS 0) zd))) zf (zP _))) (pvS 0))))),?_⟩;(try dsimp only[cxK,cxP,cxW]);refine⟨_,rfl,a,l,c,n,rfl,b,R,λd ws H1 hd B r s1=>(dI d rfl ⟨_,SqL.of B⟩ (λz hz=>?_))⟩;have b1:=b.mono s1;refine qc (K:=K) (a:=d) (xs:=ws) (λa=>a≠z) ((zT c).map λo=>if (clA c o).isEmpty=true then some (zk o) else none) (fun σ=>∃U,σ=[U,some (.ref a)]) hz (λ_ h=>h) ⟨_,rfl⟩ (by rw[ZB];exact r.length.symm) (by rw[r.length];exact X6 (qL R) (by decide)) (SqL.of B) ?_ ?_
  .rintro k x o σ H2 hx ho u ao ⟨U,rfl⟩ Y Z v no;obtain⟨y,L,r1⟩:=Cel.get r hx;have m:=jd L ho;refine fm (λt sg J hj _ es=>?_) (qd (X8 L));obtain⟨ya,rfl,i⟩:=r1;obtain⟨l1,l2⟩:=yy R J hj;refine⟨_,rfl,_,rfl,a,l,ya,c,n,y,rfl,b1.mono u,R,u _ _ i,l1,l2,λd2 aq H3 an ah g s3=>⟨yR,λe he=>?_⟩⟩;have j:=zc (o:=.lst []) he;refine dY (.list ((clA c y).map zk)) (.list []) (.lst (SqL.of (j _ _ ah)) (zx.rdv (N:=λ_=>True) (Cel.rdn (Cel.mono j g)))) (.lst (SqL.of zb) .nil) (YE _ []) ⟨_,rfl,?_⟩;have ee:(if false=true then !PyData.eqv (.list ((clA c y).map zk)) (.list []) else Xa (.list ((clA c y).map zk)) (.list []))=(clA c y).isEmpty:=eq_nil _;rw[ee];by_cases p:(clA c y).isEmpty=true
   .rw[bw p]at m;exact jb p ⟨_,rfl,v _ _ _ _ m ⟨_,rfl⟩ (s3.trans j) (yk.rdn ⟨ya,rfl,j _ _ (s3 _ _ (u _ _ i))⟩)⟩
   .rw[bq p]at m;exact qW (by simpa using p) (no _ _ m ⟨_,rfl⟩ (s3.trans j))
  .rintro ys H2 u M G;rw[zZ]at G;have g:=zx.cel G;have b2:=b1.mono u;refine⟨_,rfl,z,rfl,⟨_,SqL.of M⟩,λz3 O=>?_⟩;refine qc (K:=K) (a:=z) (xs:=ys) (λa=>a≠z3) (((zT c).filter λo=>(clA c o).isEmpty).map λo=>if (!decide (Cells.sgn (codes c) o=48))=true then some (zk o) else none) (fun σ=>∃U,σ=[U,some (.ref a)]) O (λ_ h=>h) ⟨_,rfl⟩ (by rw[ZB];exact g.length.symm) (by rw[g.length];exact X6 (W6 _ _) (X6 (qL R) (by decide))) (SqL.of M) ?_ ?_
   .rintro k x o σ H4 hx ho j _ ⟨U,rfl⟩ Y Z v no;obtain⟨y,L,r1⟩:=Cel.get g hx;have m:=jd L ho;refine fm (λt sg J hj ai es=>?_) (qd (XW.mp (X8 L)).1);obtain⟨ya,rfl,i⟩:=r1;obtain⟨k1,k2⟩:=zbJ (zjB R J hj) ai;refine⟨_,rfl,_,rfl,a,l,ya,c,n,y.1,y.2,t,sg,rfl,b2.mono j,j _ _ i,J,hj,R.tlen J,k1,k2,rfl,_,rfl,?_⟩;have ed:(!decide (V.int ((sg:Int)-48)=V.int 0))=!decide (Cells.sgn (codes c) y=48):=by
     rw[es,zfl];congr 1;by_cases h:sg=48
     .rw[br h,h];rfl
     .rw[bf h];simp only[beq_eq_false_iff_ne,ne_eq];lia
    rw[ed];by_cases p:(!decide (Cells.sgn (codes c) y=48))=true
    .rw[bw p]at m;exact jb p ⟨_,rfl,v _ _ _ _ m ⟨_,rfl⟩ (zo.refl _) (yk.rdn ⟨ya,rfl,j _ _ i⟩)⟩
    .rw[bq p]at m;exact qW (by simpa using p) (no _ _ m ⟨_,rfl⟩ (zo.refl _))
   .rintro al H4 j aj I;rw[zZ]at I;exact q z3 al H4 (s1.free (u.free O)) aj (zx.cel I) ((s1.trans u).trans j)
def zmL {K:XX}{H:Hp}{vs:AF}{a:AD}(b:Cel H vs a):JN K H vs (a.map zk):=by
 induction b with
 | nil=>exact .nil
 | cons h _ c =>
  exact .cons (yk.rdv h) c
def toI (c:AA):Int×Int:=(((c.1:Nat):Int),((c.2:Nat):Int))
def ofI (p:Int×Int):AA:=(p.1.toNat,p.2.toNat)
def zjC (c:AA):ofI (toI c)=c:=rfl
def zoF {c d:AA}(h:toI c=toI d):c=d:=by rw[<- zjC c,h,zjC]
def zjD {c d:AA}:lt2 (toI c) (toI d)=true↔Cells.lex c d:=by
 obtain⟨a,b⟩:=c;obtain⟨x,y⟩:=d;unfold lt2 Cells.lex;show (if ((a:Nat):Int)=((x:Nat):Int) then decide (((b:Nat):Int)<((y:Nat):Int)) else decide (((a:Nat):Int)<((x:Nat):Int)))=true↔a<x\/(a=x/\b<y);by_cases e:a=x
 .rw[bw (by lia),bu];lia
 .rw[bq (by lia),bu];lia
def Cel.tup2 {H:Hp}{vs:AF}{b:AD}(c:Cel H vs b):yO H vs (b.map toI):=by
 induction c with
 | nil=>exact .nil
 | cons q _ d =>
  obtain⟨a,e,h⟩:=q;exact .cons ⟨a,e,h⟩ d
theorem qJ {H:Hp}:∀{b:AD} {vs:AF},yO H vs (b.map toI)->Cel H vs b
 | [],_,.nil=>.nil
 | _::_,_,.cons ⟨a,e,h⟩ t=>.cons ⟨a,e,h⟩ (qJ t)
def YF {ps:List (Int×Int)}{a:AD}(h:ps.Perm (a.map toI)):∃b:AD,ps=b.map toI/\b.Perm a:=by
 refine⟨ps.map ofI,?_,?_⟩
 .rw[Wv];refine(Se ps).symm.trans (Xb λp d=>?_);obtain⟨c,_,rfl⟩:=XI.mp (h.mem_iff.mp d);rfl
 .have:=h.map ofI;rw[Wv]at this;have e:a.map (ofI∘toI)=a:=(Xb λc _=>zjC c).trans (Se a);rwa [e]at this
def zqJ {a:AD}(h:Up2 (a.map toI)):a.Pairwise Cells.lex:=by
 unfold Up2 at h;rw[Wh]at h;exact h.imp λz=>zjD.mp z
def qg {c:AD}(h:c.Pairwise Cells.lex):c.Nodup:=h.imp λ{a b} z e=>by
 subst e;unfold Cells.lex at z;lia
def zkX (H:Hp)(v:V)(g:AD):Prop:=∃a b,v=V.ref a/\H a=some (.lst b)/\Cel H b g
def yC (H:Hp):AF->List AD->Prop:=Xl (zkX H)
theorem zkX.mono {H b:Hp}{v:V}{g:AD}(s:zo H b)(h:zkX H v g):zkX b v g:=by
 obtain⟨a,c,e,h1,h2⟩:=h;exact⟨a,c,e,s _ _ h1,h2.mono s⟩
theorem yC.mono {H a:Hp}(s:zo H a){vs:AF}{gs:List AD}(b:yC H vs gs):yC a vs gs:=by
 induction b with
 | nil=>exact .nil
 | cons h _ c =>
  exact .cons (h.mono s) c
theorem yC.get {H:Hp}:∀{vs:AF} {gs:List AD} {i:Nat} {v:V},yC H vs gs->vs[i]?=some v->∃g,gs[i]?=some g/\zkX H v g
 | _,_,_,_,.nil,e=>by simp at e
 | _,_,0,_,.cons r _,e=>by
  simp at e;subst e;exact⟨_,rfl,r⟩
 | _,_,i+1,v,.cons _ t,e=>by
  obtain⟨c,h1,h2⟩:=yC.get (i:=i) (v:=v) t (by simpa using e);exact⟨c,by simpa using h1,h2⟩
theorem yC.length {H:Hp}{vs:AF}{gs:List AD}(h:yC H vs gs):vs.length=gs.length:=Paired.length h
theorem yC.snoc {H:Hp}{vs:AF}{gs:List AD}{v:V}{g:AD}(h:yC H vs gs)(x:zkX H v g):yC H (vs++[v]) (gs++[g]):=Paired.snoc h x
def lD (g:AD):We:=.list (g.map zk)
theorem zeS {p q:Nat->Bool}(h:∀c,p c=true->q c=false)(i:Nat):∀(j:Nat) (t:List Nat),(Cells.zK p i j t).length+(Cells.zK q i j t).length<=t.length
 | _,[]=>XU _
 | j,c::r=>by
  have b:=zeS h i (j+1) r;rw[Cells.zK,Cells.zK,XY,XY,Xo];by_cases a:p c=true
  .rw[bw a,bq (by rw[h c a];exact XS)];simp only[Xo,Vu];lia
  .rw[bq a];split<;>simp only[Xo,Vu]<;>lia
theorem zeT {p q:Nat->Bool}(h:∀c,p c=true->q c=false):∀(i:Nat) (rs:List (List Nat)),(∀t∈rs,t.length<=8)->(Cells.zE p i rs).length+(Cells.zE q i rs).length<=8*rs.length
 | _,[],_=>XU _
 | i,t::r,a=>by
  have d:=zeT h (i+1) r λu b=>a u (XT _ b);have h1:=zeS h i 0 t;have h2:=a t XQ;rw[Cells.zE,Cells.zE,XY,XY,Xo];lia
def zeU {rs:AE}(R:Rows bd.cps.toList rs):(zT rs).length+(zI rs).length<=64:=by
 have:=zeT (p:=YY) (q:=x8) (λc a=>by
  unfold YY at a;rw[WH,WF]at a;exact a.2) 0 (codes rs) R.short
 have h2:=R.hi;rw[qK]at this;unfold zT zI;lia
theorem zba {p:Nat->Bool}{i:Nat}:∀{j m:Nat} {t:List Nat} {c:Nat},t[m]?=some c->p c=true->(i,j+m)∈Cells.zK p i j t
 | j,m,[],c,h,_=>by simp at h
 | j,0,d::r,c,h,a=>by
  have e:d=c:=by simpa using h
  subst e;rw[Cells.zK,bw a];exact W1 _ XQ
 | j,m+1,d::r,c,h,a=>by
  rw[Cells.zK];refine WZ _ ?_;have:=zba (i:=i) (j:=j+1) (m:=m) (t:=r) (c:=c) (by simpa using h) a;rwa [show j+1+m=j+(m+1) by lia]at this
theorem zbb {p:Nat->Bool}:∀{i m:Nat} {rs:List (List Nat)} {t:List Nat} {j c:Nat},rs[m]?=some t->t[j]?=some c->p c=true->(i+m,j)∈Cells.zE p i rs
 | i,m,[],t,j,c,h,_,_=>by simp at h
 | i,0,d::r,t,j,c,h,a,b=>by
  have e:d=t:=by simpa using h
  subst e;rw[Cells.zE];refine W1 _ ?_;have:=zba (i:=i) (j:=0) a b;rwa [show 0+j=j by lia]at this
 | i,m+1,d::r,t,j,c,h,a,b=>by
  rw[Cells.zE];refine WZ _ ?_;have:=zbb (i:=i+1) (m:=m) (rs:=r) (t:=t) (j:=j) (c:=c) (by simpa using h) a b;rwa [show i+1+m=i+(m+1) by lia]at this
def zbL (rs:AE)(c:AA):(clA rs c).Nodup:=((qg (Cells.JF _ 0 (codes rs))).sublist W5).sublist W5
def Ja {rs:AE}{c x:AA}(h:x∈clA rs c):x∈zI rs:=by
 unfold clA at h;obtain⟨h1,h2⟩:=XW.mp h;obtain⟨t,k,d,b,_,e⟩:=qd (XW.mp h1).1;have a:k=63:=by
  have:=bg h2;lia
 subst a;have:=zbb (p:=x8) (i:=0) (j9 d) b (by decide);rwa [VR]at this
def heads (gs:List AD):List (Int×Int):=gs.map λg=>toI (g.headD (0,0))
def head_mem {g:AD}(h:g ≠ []):g.headD (0,0)∈g:=by
 cases g with
 | nil=>exact absurd rfl h
 | cons a r=>exact XQ
theorem zb8:∀{gs:List AD},(∀g∈gs,g ≠ [])->gs.flatten.Nodup->(heads gs).Nodup
 | [],_,_=>Vn
 | g::r,h,c=>by
  rw[Wz,WL]at c;obtain⟨_,h2,f⟩:=c;unfold heads;rw[Xw,Wp];refine⟨λi=>?_,zb8 (λx j=>h x (XT _ j)) h2⟩;obtain⟨g2,a,e⟩:=XI.mp i;have d:=zoF e;have l:=head_mem (h g XQ);have b:=head_mem (h g2 (XT _ a));rw[d]at b;exact f _ l _ (WA.mpr ⟨g2,a,b⟩) rfl
def Jw (rs:AE)(part:AD):AD:=(zT rs).filter λo=>((zL rs o).map λz=>part.any λx=>decide (x=z)).any id
def zqK:Sp:=λh H Q _=>∃(a l e:Addr) (c:AE) (n:Int) (f:AF) (part:AD),h=[.ref a,.ref e]/\qf H a l c n/\Rows bd.cps.toList c/\H e=some (.lst f)/\Cel H f part /\
 ∀(d:Addr) (g:AF) (b:Hp),H d=none->b d=some (.lst g)->Cel b g (Jw c part)->zo H b->Q (.ref d) b
def zd5:zB ["board","part"] ["board","part"] (zp j6):=bh
def zd6 {f1 f2 f3 f5:Addr}{ab ac ae af:XD}(T:Txt mg)(D:zm K mg "numbers_of" j6 ["board","part"] f fd)(zJ:zm K mg "around" jK ["board","cell"] f1 ab)(zq:zm K mg "sign_at" qw ["board","cell"] f2 ac)
  (zv:zm K mg "cells_of" qv ["board"] f3 ae) (zu:zm K mg "open_cells" qx ["board"] f5 af):zU P w K mg base CX0 3 f fd ["board","part"] zqK:=by
 refine D.F.ok zd5 (λvs H Q E h=>?_) (λao A al s H vs Q E hr h=>?_)
 .revert h;refine fZ λa l pa e n ps part z0 _=>?_;subst z0;rfl
 .revert h;refine fQ λa l pa e=>fT λn ps part z0 b R ah ai q=>?_;subst z0;refine⟨_,(zg (zw (pcm ["cell","part","board"] [none,some 1,some 0] cR (zG (pc0 (jN T zu zv zq) hr zu (za (pvS 0) zd))) (pgN 0) (qk (ZH (K:=K) (by rfl) (pb1 (zet (K:=K) (by rfl) (by rfl)) T.zjz T6 (pcm ["place","part"] [none,some 1] cR (zcT (K:=K) (by rfl) (pc0 (QX T zJ) hr zJ (za (pvS 2) (za (pvS 0) zd)))) (pgN 0) qa (jx (qI (K:=K) (by rfl) hr.units) (pvS 0) (pvS 1) (by rfl)))) (λ_=>rfl))) (pvS 0)))),?_⟩;(try dsimp only[cxK,cxP,cxW]);refine⟨_,rfl,a,l,e,n,rfl,b,R,λd ws H1 hd r g s1=>(dI d rfl ⟨_,SqL.of r⟩ (λz hz=>?_))⟩;have b1:=b.mono s1;refine qc (K:=K) (a:=d) (xs:=ws) (λa=>a≠z) ((zT e).map λo=>if (((zL e o).map λz=>part.any λx=>decide (x=z)).any id)=true then some (zk o) else none) (fun M=>∃u0,M=[u0,some (.ref pa),some (.ref a)]) hz (λ_ h=>h) ⟨_,rfl⟩ (by rw[ZB];exact g.length.symm) (by rw[g.length];exact X6 (qL R) (by decide)) (SqL.of r) ?_ ?_
  .rintro k x o M H2 hx ho j ar ⟨u0,rfl⟩ Y Z an no;obtain⟨y,hy,r1⟩:=Cel.get g hx;have O:=jd hy ho;refine fm (λt sg ht hj _ es=>?_) (qd (X8 hy));obtain⟨ya,rfl,I⟩:=r1;obtain⟨l1,l2⟩:=yy R ht hj;refine⟨_,rfl,_,rfl,a,l,ya,e,n,y.1,y.2,rfl,b1.mono j,R,j _ _ I,l1,l2,λd2 am H3 aq u i s3=>(dI d2 rfl ⟨_,SqL.of u⟩ (λz5 ak=>?_))⟩;refine qc (K:=K) (a:=d2) (xs:=am) (λa=>a≠z5) ((zL e y).map λc=>some (.bool (part.any λx=>decide (x=c)))) (fun M=>∃u0,M=[u0,some (.ref pa)]) ak (λ_ h=>h) ⟨_,rfl⟩ (by rw[ZB];exact i.length.symm) (by rw[i.length];exact X6 (Zy R y) (by decide)) (SqL.of u) ?_ ?_
   .rintro m v o2 M H5 hv ag p _ ⟨u1,rfl⟩ Y2 Z2 L au;obtain⟨c,hc,rc⟩:=Cel.get (Cel.mono p i) hv;have aa:=jd hc ag;have sA:=((s1.trans j).trans s3).trans p;refine jA ⟨_,rfl,_,rfl,zk c,part.map zk,rc.rdv,.lst (SqL.of (sA _ _ ah)) (zx.rdv (N:=λ_=>True) (Cel.rdn (Cel.mono sA ai))),rfl,Y0 _,(by show 1<=60;decide),?_⟩;have ei:(if false=true then !(part.map zk).any (λz=>Xa z (zk c)) else (part.map zk).any λz=>Xa z (zk c))=part.any λz=>decide (z=c):=x9 _ _;rw[ei];exact L _ _ _ _ aa ⟨_,rfl⟩ (zo.refl _) (.bl _)
   .rintro av H5 p J G;rw[ZX,show ((zL e y).map λc=>SX (part.any λx=>decide (x=c)))=((zL e y).map λc=>part.any λx=>decide (x=c)).map SX by rw[Wv];rfl]at G;rw[zx.bools G]at J;refine eE z5 (dD rfl (SqL.of J) (dB rfl ?_));by_cases U:(((zL e y).map λz=>part.any λx=>decide (x=z)).any id)=true
    .rw[bw U]at O;exact jb U ⟨_,rfl,an _ _ _ _ O ⟨_,rfl⟩ (s3.trans p) (yk.rdn ⟨ya,rfl,p _ _ (s3 _ _ (j _ _ I))⟩)⟩
    .rw[bq U]at O;exact qW (by simpa using U) (no _ _ O ⟨_,rfl⟩ (s3.trans p))
  .rintro ys H2 j aj B;rw[zZ]at B;exact q z ys H2 (s1.free hz) aj (zx.cel B) (s1.trans j)
def QY {a b:AD}(p:a.Perm b)(c:a.Pairwise Cells.lex)(d:b.Pairwise Cells.lex):a=b:=p.eq_of_pairwise (λx y _ _ h1 h2=>by
 unfold Cells.lex at h1 h2;lia) c d
def zit {a:AA->AD}{done:AD}{gs:List AD}{o:AA}(G:Parts.Good a done gs)(h:a o ≠ [])(c:(a o).Nodup){w:AD}(d:w.Pairwise Cells.lex)(j:∀x,x∈w↔x∈a o\/∃g∈gs,Parts.meets (a o) g=true/\x∈g):Parts.Good a (done++[o]) ((gs.filter λg=>!Parts.meets (a o) g)++[w]):=by
 refine G.step h c ?_ ?_ d
 .refine Vy λg i=>?_;congr 1;rw[WV,WG];constructor
  .exact λz=>⟨g,XW.mpr ⟨i,z⟩,br rfl⟩
  .rintro⟨m,b,e⟩;have f:m=g:=bg e;subst f;exact(XW.mp b).2
 .refine(Wl (qg d) (Parts.Qj c λm b=>G.nd.sublist (VF (XW.mp b).1))).mpr λx=>?_;rw[j,Parts.zbE];constructor
  .rintro(z | ⟨g,h1,h2,h3⟩)
   .exact .inl z
   .exact .inr ⟨g,XW.mpr ⟨h1,h2⟩,h3⟩
  .rintro(z | ⟨g,h1,h3⟩)
   .exact .inl z
   .exact .inr ⟨g,(XW.mp h1).1,(XW.mp h1).2,h3⟩
def zkY (b g:AD):(b.map λc=>g.any λz=>decide (z=c)).any id=Parts.meets b g:=by
 rw[WV,Parts.ZR,Ul,WG];constructor
 .rintro⟨c,h1,h2⟩;have a:(g.any λz=>decide (z=c))=true:=h2;obtain⟨z,d,f⟩:=WG.mp a;have e:z=c:=bg f;subst e;exact⟨z,d,h1⟩
 .rintro⟨x,h1,h2⟩;refine⟨x,h2,?_⟩;show (g.any λz=>decide (z=x))=true;exact WG.mpr ⟨x,h1,br rfl⟩
def Zp (p:AD->Bool):AF->List AD->AF
 | v::vs,g::gs=>if p g=true then v::Zp p vs gs else Zp p vs gs
 | _,_=>[]
theorem ZY (p:AD->Bool):∀(vs:AF) (gs:List AD),(Zp p vs gs).Sublist vs
 | [],_=>Rb _
 | _::_,[]=>Rb _
 | v::vs,g::gs=>by
  rw[Zp];split
  .exact(ZY p vs gs).cons_cons v
  .exact(ZY p vs gs).cons v
theorem zar {H:Hp}(p:AD->Bool):∀{vs:AF} {gs:List AD},yC H vs gs->yC H (Zp p vs gs) (gs.filter p)
 | _,_,.nil=>.nil
 | _,_,.cons (a:=v) (b:=g) h t=>by
  rw[Zp,WE];by_cases c:p g=true
  .rw[bw c,bw c];exact .cons h (zar p t)
  .rw[bq c,bq c];exact zar p t
def ziu (p:AD->Bool){vs:AF}{gs:List AD}{i:Nat}{v:V}{g:AD}(h1:vs[i]?=some v)(h2:gs[i]?=some g):Zp p (vs.take (i+1)) (gs.take (i+1))=Zp p (vs.take i) (gs.take i)++if p g=true then [v] else []:=by
 induction vs generalizing gs i with
 | nil=>cases h1
 | cons w vs a =>
  cases gs with
  | nil=>cases h2
  | cons k gs =>
   cases i with
   | zero =>
    cases h1;cases h2;simp[Zp]
   | succ i =>
    rw[UC,UC,UC,UC,Zp,Zp,a h1 h2];split<;>rfl
def zfJ {m:List (Int×Int)}{l:AD}(h:∀c∈m,c∈l.map toI):m=(m.map ofI).map toI:=by
 rw[Wv];refine(Se m).symm.trans (Xb λc a=>?_);obtain⟨x,_,rfl⟩:=XI.mp (h c a);rfl
def zmM:Sp:=λm H Q _=>∃(e j:Addr) (i l:AF) (c:List AD) (a B:AD),m=[.ref e,.ref j]/\H e=some (.lst i)/\yC H i c/\H j=some (.lst l)/\Cel H l a/\a.Nodup/\c.flatten.Nodup/\(∀x∈a,x∈B)/\(∀x∈c.flatten,x∈B)/\(∀x∈B,x.1<8/\x.2<8)/\B.length<=63/\c.length<=63 /\
 (a=[]->∀b,zo H b->Q (.ref e) b) /\
 (a ≠ []->∀(d h:Addr) (f:AF) (w:AD) (b:Hp),H d=none->H h=none->b d=some (.lst (f++[.ref h]))->f.Sublist i->yC b (f++[.ref h]) ((c.filter λg=>!Parts.meets a g)++[w])->w.Pairwise Cells.lex->(∀x,x∈w↔x∈a\/∃g∈c,Parts.meets a g=true/\x∈g)->zo H b->Q (.ref d) b)
def QZ:zB ["groups","cells","apart","together","group"] ["groups","cells"] (zp Qm):=bh
def zkZ (T:Txt mg)(D:zm K mg "joined" Qm ["groups","cells"] f fd):zU P w K mg base CX0 1 f fd ["groups","cells"] zmM:=by
 refine D.F.ok QZ (λvs H Q E h=>?_) (λaK A aH s H vs Q E hr h=>?_)
 .revert h;refine fZ λga ca ws us n d B z0 _=>?_;subst z0;rfl
 .revert h;refine gb λga ca ws us n d B z0 aw hG N=>fO λhC a9 aA cB=>fJ λgB B8 ak am q1 q2=>?_;subst z0;have al:d.length<=63:=X6 (Parts.j4 a9 cB) ak;have ac:n.flatten.length<=63:=X6 (Parts.j4 aA gB) ak;refine⟨_,(ze (qy (z9 (yx hr.units) (pvS 1) (@zW _ _ _ _ zd) (zP _)) (zg (zw (pvS 0))) zY) (@ze _ _ _ _ _ (@qu _ _ 2 _ _ _ _ QZ.nd rfl (VL rfl) (@zW _ _ _ _ zd) (by rfl) (.inr rfl)) (ze (qA 3 QZ.nd (pt1 zfo T.zdg Vc (pvS 1))) (ze (qt Xe rfl (zG (pvS 0)) (pgq 4 QZ.nd) (zg (qy (yf (pb1 (zcR rfl) T.zjz T6 (pcm ["cell","group"] [none,some 4] cR (zG (pvS 1)) (pgN 0) qa (jx (qI (K:=K) (by rfl) hr.units) (pvS 0) (pvS 1) (by rfl)))) (λ_=>rfl)) (zg (jR (Ze WO UH UG QN (pvS 3) (za (pvS 4) zd)))) (zg (jR (Ze WO Wu Wt JX (pvS 2) (za (pvS 4) zd))))))) (zg (zw (zC yZ (pvS 2) (zW (za (pb1 (ST.zd2 hr.hd) T.yU Ws (pt1 (ST.zkF hr.units hr.hd) T.zrW PyProof.Rows.boot_set (pvS 3))) zd))))))))),?_⟩;(try dsimp only[cxK,cxP,cxW]);refine⟨_,rfl,yR,λe he=>?_⟩;have s1:zo H (upd H e (.lst [])):=zc he;refine dY (lD d) (.list []) (.lst (SqL.of (s1 _ _ N)) (zmL (hC.mono s1))) (.lst (SqL.of zb) .nil) (YE _ []) ⟨_,rfl,?_⟩;have en:(if false=true then !PyData.eqv (lD d) (.list []) else Xa (lD d) (.list []))=d.isEmpty:=by
   show Xa _ _=_;exact eq_nil d
  rw[en];by_cases ab:d=[]
  .rw[show d.isEmpty=true by rw[ab];rfl];exact zan ⟨_,rfl,q1 ab _ s1⟩
  rw[show d.isEmpty=false by rw[UU];exact ab];refine ZG ?_;generalize upd H e (.lst [])=H1 at *
  refine⟨yR,λap ar=>?_⟩;have s2:=s1.trans (zc (o:=.lst []) ar);have aq:upd H1 ap (.lst []) ap=some (.lst []):=zb;have au:=s1.free ar;generalize upd H1 ap (.lst [])=H2 at *
  refine⟨_,rfl,ca,_,rfl,.inl (SqL.of (s2 _ _ N)),λtg aj=>?_⟩;have z3:=zc (o:=.lst us) aj;have s3:=s2.trans z3;have aC:=z3 _ _ aq;have aF:upd H2 tg (.lst us) tg=some (.lst us):=zb;have a3:=s2.free aj;have a6:ap≠tg:=zh aq aj;generalize upd H2 tg (.lst us)=H3 at *
  refine⟨_,rfl,ga,rfl,⟨_,SqL.of (s3 _ _ aw)⟩,?_⟩;refine jG (K:=K) (a:=ga) (xs:=ws) (λi σ H'=>∃(ut:AF) (v4:Option V),σ=[some (.ref ga),some (.ref ca),some (.ref ap),some (.ref tg),v4]/\zo H H'/\H' ap=some (.lst (Zp (λg=>!Parts.meets d g) (ws.take i) (n.take i)))/\H' tg=some (.lst ut)/\Cel H ut (d++((n.take i).filter (Parts.meets d)).flatten))
   (eX us rfl s3 aC aF (by simpa using hC)) (λi σ H' _ ⟨_,_,_,z,_⟩=>SqL.of (z _ _ aw)) ?_ ?_
  .refine λi x σ H4 hx=>fD λut v4 z0 s4 L ah r=>?_;subst z0;refine fq (λg hg=>fH λan ug z0 ae ag=>?_) (yC.get hG hx);subst z0;have gm:=X8 hg;have tk:(n.take (i+1)).filter (Parts.meets d)=(n.take i).filter (Parts.meets d)++if Parts.meets d g=true then [g] else []:=by
    rw[Xx,hg,WX];congr 1;show [g].filter _=_;rw[WE];rfl
   have pk:=ziu (λg=>!Parts.meets d g) hx hg;refine⟨_,rfl,ca,rfl,⟨_,SqL.of (s4 _ _ N)⟩,λz hz=>?_⟩;refine qc (K:=K) (a:=ca) (xs:=us) (λa=>a≠z) (d.map λc=>some (.bool (g.any λz=>decide (z=c)))) (fun σ=>∃u0,σ=[u0,some (.ref an)]) hz (λ_ h=>h) ⟨_,rfl⟩ (by rw[ZB];exact hC.length.symm) (by rw[hC.length];exact X6 al (by decide)) (SqL.of (s4 _ _ N)) ?_ ?_
   .rintro m v o σ H5 hv ho U _ ⟨u1,rfl⟩ Y Z aI no;have u:=s4.trans U;obtain⟨c,M,rc⟩:=Cel.get (hC.mono u) hv;have eo:=jd M ho;refine jA ⟨_,rfl,_,rfl,zk c,g.map zk,rc.rdv,.lst (SqL.of (u _ _ ae)) (zmL (ag.mono u)),rfl,Y0 _,(by show 1<=60;decide),?_⟩;have ei:(if false=true then !(g.map zk).any (λz=>Xa z (zk c)) else (g.map zk).any λz=>Xa z (zk c))=g.any λz=>decide (z=c):=x9 _ _;rw[ei];exact aI _ _ _ _ eo ⟨_,rfl⟩ (zo.refl _) (.bl _)
   .rintro ys H5 U a5 az;rw[ZX,show (d.map λc=>SX (g.any λz=>decide (z=c)))=(d.map λc=>g.any λz=>decide (z=c)).map SX by rw[Wv];rfl]at az;rw[zx.bools az]at a5;refine eE z (dD rfl (SqL.of a5) (dB rfl ?_));rw[zkY];have u:=s4.trans U;have G:=U _ _ L;have ai:=U _ _ ah;have ao:∀(q:AD->Bool) (j:Nat),(((n.take j).filter q).flatten).length<=63:=λq j=>by
     refine X6 (Vx ?_) ac;refine List.Sublist.trans (Parts.qQ q (n.take j)) ?_;have e2:n=n.take j++n.drop j:=(W7 j n).symm;conv=>rhs;rw[e2,Ww]
     exact Tr _ _
    by_cases hp:Parts.meets d g=true
    .refine jb hp ?_;refine⟨_,rfl,.inl ⟨rfl,_,SqL.of ai⟩,_,rfl,tg,an,ut,ug,rfl,rfl,ai,u _ _ ae,?_,?_⟩
     .rw[r.length,ag.length,XY];have a1:=ao (Parts.meets d) i;have a2:g.length<=63:=X6 (Vx (VF gm)) ac;exact X6 (show _<=200 by lia) (by decide)
     .refine eX (ut++ug) rfl (λb o eb=>?_) ?_ zb ?_
      .rw[zj (zh eb a3)];exact u _ _ eb
      .rw[zj a6,pk,hp];simpa using G
      .rw[tk,bw hp,Ww,<- W2];simpa using Cel.append r ag
    .have ay:=Xs.mpr hp;refine qW ay ?_;refine⟨_,rfl,.inl ⟨rfl,_,SqL.of G⟩,_,rfl,ap,_,_,rfl,rfl,G,?_,?_⟩
     .refine XM (Vx ((ZY _ _ _).trans (T4 _ _))) ?_;rw[hG.length];exact XM am (by decide)
     .refine eX ut rfl (λb o eb=>?_) ?_ ?_ ?_
      .rw[zj (zh eb au)];exact u _ _ eb
      .rw[zb,pk,ay];rfl
      .rw[zj (UY a6)];exact ai
      .rw[tk,bq hp,Xf];exact r
  .refine λσ H4=>fD λut v4 z0 s4 L ah r=>?_;subst z0;rw[XJ,hG.length,XJ]at L;rw[hG.length,XJ]at r;generalize hl:d++(n.filter (Parts.meets d)).flatten=l at r;have lB:∀x∈l,x∈B:=λx hx=>by
    rw[<- hl]at hx;rcases XO.mp hx with hx | hx
    .exact cB x hx
    .exact gB x ((Parts.qQ _ n).subset hx)
   refine⟨_,rfl,_,rfl,tg,ut,_,rfl,SqL.of ah,Cel.tup2 (r.mono s4),(λp hp=>?_),(λm hm hs=>?_),λds J aD hT I af=>?_⟩
   .obtain⟨x,hx,rfl⟩:=XI.mp hp;have:=B8 x (lB x hx);unfold ST.InB toI;show (0<=((x.1:Nat):Int)/\((x.1:Nat):Int)<8)/\(0<=((x.2:Nat):Int)/\((x.2:Nat):Int)<8);lia
   .have h1:=zfJ hs;have h2:(m.map ofI).Nodup:=by
     rw[h1]at hm;unfold Op at hm ⊢;rw[Wh]at hm;exact hm.imp λz e=>z (by rw[e])
    have h3:=Parts.j4 (b:=B) h2 λx hx=>by
     obtain⟨c,M,rfl⟩:=XI.mp hx;obtain⟨y,hy,rfl⟩:=XI.mp (hs c M);exact lB y hy
    rw[ZB]at h3;lia
   have z5:=zc (o:=ST.zgN P w ds J) aD;have O:∀c∈J.map (·.2),c∈l.map toI:=λc M=>(af c).mp M;have kl:J.length<=63:=by
    have h1:=zfJ O;have h2:((J.map (·.2)).map ofI).Nodup:=by
     rw[h1]at I;unfold Op at I ⊢;rw[Wh]at I;exact I.imp λz e=>z (by rw[e])
    have h3:=Parts.j4 (b:=B) h2 λx hx=>by
     obtain⟨c,M,rfl⟩:=XI.mp hx;obtain⟨y,hy,rfl⟩:=XI.mp (O c M);exact lB y hy
    rw[ZB,ZB]at h3;lia
   have av:upd H4 ds (ST.zgN P w ds J) ds=some (ST.zgN P w ds J):=zb;have U:=s4.trans z5;have G:=z5 _ _ L;have aB:∀q∈J,upd H4 ds (ST.zgN P w ds J) q.1=some (.tup [.int q.2.1,.int q.2.2]):=λq hq=>z5 _ _ (hT q hq);refine eK ds J rfl av aB I (by lia) (λwa a7 aM a4 ht a8 aG=>?_);rw[zfJ O]at a8;obtain⟨wc,rfl,aJ⟩:=YF a8;have z6:=zc (o:=.lst a7) a4;refine⟨sz_1,λp1 aE=>?_⟩;have z7:=zc (o:=.lst [V.ref wa]) aE;have aa:=z6.trans z7;refine dF ap p1 (d9 [.ref wa] rfl rfl (aa _ _ G) zb ⟨?_,λk2 ax=>?_⟩)
   .have a1:(Zp (λg=>!Parts.meets d g) ws n).length<=63:=X6 (Vx (ZY _ _ _)) (by rw[hG.length];exact am);exact X6 (show _+1<=200 by lia) (by decide)
   .have z8:=zc (o:=.lst (Zp (λg=>!Parts.meets d g) ws n++[.ref wa])) ax;have s8:=U.trans (aa.trans z8);refine q2 ab k2 wa _ wc _ ((U.trans aa).free ax) (U.free a4) zb (ZY _ _ _) ?_ (zqJ aG) (λx=>?_) s8
    .exact yC.snoc ((zar _ hG).mono s8) (dF wa a7 (dD rfl (z8 _ _ (z7 _ _ zb)) (Cel.mono (aa.trans z8) (qJ ht))))
    .rw[aJ.mem_iff,XI];have hx:(∃a,a∈J.map (·.2)/\ofI a=x)↔x∈l:=by
      constructor
      .rintro⟨c,M,rfl⟩;obtain⟨y,hy,rfl⟩:=XI.mp (O c M);exact hy
      .intro h;exact⟨toI x,(af _).mpr (XI.mpr ⟨x,h,rfl⟩),rfl⟩
     rw[hx,<- hl,XO,WA];constructor
     .rintro(h | ⟨g,h1,h2⟩)
      .exact .inl h
      .exact .inr ⟨g,(XW.mp h1).1,(XW.mp h1).2,h2⟩
     .rintro(h | ⟨g,h1,h2,h3⟩)
      .exact .inl h
      .exact .inr ⟨g,XW.mpr ⟨h1,h2⟩,h3⟩
def zoG:Sp:=λg H Q _=>∃(p l:Addr) (c:AE) (n:Int),g=[.ref p]/\qf H p l c n/\Rows bd.cps.toList c /\
 ∀(d:Addr) (e:AF) (f:List AD) (b:Hp),H d=none->b d=some (.lst e)->yC b e f->e.Nodup->(∀v∈e,∃a,v=V.ref a/\H a=none/\a≠d)->Parts.Good (clA c) (zT c) f->Up2 (heads f)->zo H b->Q (.ref d) b
def ziw {rs:AE}(R:Rows bd.cps.toList rs){x:AA}(h:x∈zI rs):x.1<8/\x.2<8:=by
 obtain⟨t,k,c,d,_,_⟩:=qd h;have a:=(X4.mp c).1;have b:=(X4.mp d).1;have e:=R.hi;have g:=R.short _ (X8 (j9 c));lia
theorem yC.some {H:Hp}{c:AF}{gs:List AD}(h:yC H c gs):∀v∈c,∃a b,v=V.ref a/\H a=some (.lst b):=by
 intro v d;obtain⟨_,_,a,b,e,h1,_⟩:=zlM h d;exact⟨a,b,e,h1⟩
def zmN {H:Hp}{b:AF}{gs:List AD}(h:yC H b gs):Xl (GS.LstAt H) b (gs.map (TW toI)):=by
 induction h with
 | nil=>exact .nil
 | cons r _ c =>
  obtain⟨a,d,e,h1,h2⟩:=r;exact .cons ⟨a,d,e,h1,h2.tup2⟩ c
def zmO {H:Hp}:∀{gs:List AD} {b:AF},Xl (GS.LstAt H) b (gs.map (TW toI))->yC H b gs:=by
 intro gs;induction gs with
 | nil =>
  intro b h;cases h;exact .nil
 | cons g r c =>
  intro b h;cases h with
  | cons q t =>
   obtain⟨a,d,e,h1,h2⟩:=q;exact .cons ⟨a,d,e,h1,qJ h2⟩ (c t)
def zg1 {ks:List (List (Int×Int))}{gs:List AD}(h:ks.Perm (gs.map (TW toI))):∃a:List AD,ks=a.map (TW toI)/\a.Perm gs:=by
 have b:∀g:AD,(g.map toI).map ofI=g:=λg=>by
  rw[Wv];exact(Xb λc _=>zjC c).trans (Se g)
 refine⟨ks.map (TW ofI),?_,?_⟩
 .rw[Wv];refine(Se ks).symm.trans (Xb λp d=>?_);obtain⟨c,_,rfl⟩:=XI.mp (h.mem_iff.mp d);show c.map toI=((c.map toI).map ofI).map toI;rw[b]
 .have:=h.map (TW ofI);rw[Wv]at this;have e:gs.map (TW ofI∘TW toI)=gs:=(Xb λc _=>b c).trans (Se gs);rwa [e]at this
def zmP {gs:List AD}(h:(gs.map (TW toI)).Pairwise (λp q=>PySem.SeqAt.ltL q p=false))(i:∀g∈gs,g ≠ [])(u:(heads gs).Nodup):Up2 (heads gs):=by
 induction gs with
 | nil=>exact List.Pairwise.nil
 | cons g r n =>
  rw[Xw,RO]at h;have d:toI (g.headD (0,0)) ∉ heads r/\(heads r).Nodup:=Wp.mp u;refine RO.mpr ⟨λp l=>?_,n h.2 (λx m=>i x (XT _ m)) d.2⟩;obtain⟨g2,c,rfl⟩:=XI.mp l;have a:=h.1 _ (XI.mpr ⟨g2,c,rfl⟩);have f:toI (g.headD (0,0))≠toI (g2.headD (0,0)):=λe=>d.1 (e ▸ l);have o:=i g XQ;have s:=i g2 (XT _ c);cases g with
  | nil=>exact absurd rfl o
  | cons x v =>
   cases g2 with
   | nil=>exact absurd rfl s
   | cons y w =>
    have b:toI x≠toI y:=f;show lt2 (toI x) (toI y)=true;have j:(if toI y=toI x then PySem.SeqAt.ltL (w.map toI) (v.map toI) else lt2 (toI y) (toI x))=false:=a;rw[bq (UY b)]at j;have:=zcz b;rw[j]at this;cases hh:lt2 (toI x) (toI y) with
    | true=>rfl
    | false =>
     rw[hh]at this;cases this
def zbc:zB ["board","found","cell"] ["board"] (zp zcH):=bh
def zg2 {f1 f2 f3 f4 f5 f6:Addr}{ai aj ak al am an:XD}(T:Txt mg)(D:zm K mg "parts" zcH ["board"] f fd)(zJ:zm K mg "around" jK ["board","cell"] f1 ai)(zq:zm K mg "sign_at" qw ["board","cell"] f2 aj)
  (zv:zm K mg "cells_of" qv ["board"] f3 ak) (zu:zm K mg "open_cells" qx ["board"] f4 al) (zz:zm K mg "closed_around" qB ["board","cell"] f5 am) (ZZ:zm K mg "joined" Qm ["groups","cells"] f6 an):zU P w K mg base CX0 3 f fd ["board"] zoG:=by
 refine D.F.ok zbc (λvs H Q E h=>?_) (λa6 A ay s H vs Q E hr h=>?_)
 .revert h;refine fL λp l j n z0 _=>?_;subst z0;rfl
 .revert h;refine fN λp l j n z0 b R q=>?_;subst z0;refine⟨_,(@ze _ _ _ _ _ (@qu _ _ 1 _ _ _ _ zbc.nd rfl (VL rfl) (@zW _ _ _ _ zd) (by rfl) (.inr rfl)) (ze (qt Xe rfl (zG (pc0 (jN T zu zv zq) hr zu (za (pvS 0) zd))) (pgq 2 zbc.nd) (zg (qA 1 zbc.nd (pc0 (zkZ T ZZ) hr ZZ (za (pvS 1) (za (pc0 (yd T zz zJ zq) hr zz (za (pvS 0) (za (pvS 2) zd))) zd)))))) (zg (zw (pb1 (GS.zac hr.units) T.yU Ws (pvS 1)))))),?_⟩;(try dsimp only[cxK,cxP,cxW]);refine⟨yR,λk0 aw=>?_⟩;have s0:zo H (upd H k0 (.lst [])):=zc aw;have ac:upd H k0 (.lst []) k0=some (.lst []):=zb;generalize upd H k0 (.lst [])=H0 at *
  refine⟨_,rfl,p,l,j,n,rfl,b.mono s0,R,λdc wc H1 a8 ah J s1=>(dI dc rfl ⟨_,SqL.of ah⟩ ?_)⟩;have M:=s0.trans s1;have b1:=b.mono M;have J:Cel H1 wc (zT j):=J;have aA:=zeU R;refine jG (K:=K) (a:=dc) (xs:=wc) (λi σ H'=>∃(k:Addr) (U:AF) (I:List AD) (v2:Option V),σ=[some (.ref p),some (.ref k),v2]/\zo H1 H'/\H' k=some (.lst U)/\yC H' U I/\U.Nodup/\(∀v∈U,∃a,v=V.ref a/\H a=none)/\Parts.Good (clA j) ((zT j).take i) I)
   (dF k0 [] (eX [] rfl (zo.refl _) (s1 _ _ ac) (.nil) (dD Vn (λv h=>nomatch h) (Parts.Good.start _)))) (λi σ H' _ ⟨_,_,_,_,_,z,_⟩=>SqL.of (z _ _ ah)) ?_ ?_
  .refine λi x σ H2 L=>fS λk U I v2 z0 Y hk hG=>fB λO m G=>?_;subst z0;refine fK (λc hc ca z0 au=>?_) (Cel.get (Cel.mono Y J) L);subst z0;have cm:=X8 hc;refine fm (λt sg ht hj _ es=>?_) (qd cm);obtain⟨l1,l2⟩:=yy R ht hj;have tk:(zT j).take (i+1)=(zT j).take i++[c]:=by
    rw[Xx,hc];rfl
   have y:(zI j).length<=63:=by
    have:=Ug cm;lia
   have gB:∀x∈I.flatten,x∈zI j:=λx L=>by
    obtain⟨o,_,h2⟩:=G.from_ x L;exact Ja h2
   refine⟨_,rfl,_,rfl,_,rfl,p,l,ca,j,n,c,rfl,(b1.mono Y),R,au,l1,l2,λd a1 H3 hd av ar B=>?_⟩;have az:=M.trans (Y.trans B);refine dR k d U a1 (dW I (clA j c) (zI j) rfl (B _ _ hk) (hG.mono B) av (dJ ar (zbL j c) G.nd (λx L=>Ja L) (dQ gB (λx L=>ziw R L) y (X6 (Parts.Qk G.ne) (X6 (Parts.j4 G.nd gB) y)) (λa3 H' s'=>?_) (λax d2 wa va aB H' a7 ag ab u aq a5 ae s'=>?_))))
   .refine dF k U (eX I rfl (Y.trans (B.trans s')) (s' _ _ (B _ _ hk)) ((hG.mono B).mono s') (dD O m ?_));rw[tk];exact G.skip a3
   .refine dM d2 (eB rfl (Y.trans (B.trans s')) ab aq (dD ?_ (λv hv=>?_) ?_))
    .rw[WL];refine⟨O.sublist u,by simp,λa ha b hb e=>?_⟩;have aa:b=V.ref wa:=by simpa using hb
     subst e;obtain⟨a',N,e1,e2⟩:=yC.some (hG.mono B) a (u.subset ha);rw[aa]at e1;injection e1 with e1
     rw[<- e1,ag]at e2;cases e2
    .rcases XO.mp hv with hv | hv
     .exact m v (u.subset hv)
     .have aa:v=V.ref wa:=by simpa using hv
      exact⟨wa,aa,az.free ag⟩
    .rw[tk];exact zit G ax (zbL j c) a5 ae
  .refine λσ H2=>fS λk U I v2 z0 Y hk hG=>fB λO m G=>?_;subst z0;rw[J.length,XJ]at G;have ao:∀x∈I.flatten,x∈zI j:=λx L=>by
    obtain⟨o,_,h2⟩:=G.from_ x L;exact Ja h2
   have wl:I.length<=63:=by
    cases I with
    | nil=>exact WY _
    | cons g r =>
     have m1:=head_mem (G.ne g XQ);obtain⟨o,ho,_⟩:=G.from_ _ (WA.mpr ⟨g,XQ,m1⟩);have:=Ug ho;have h3:=X6 (Parts.Qk G.ne) (Parts.j4 (b:=zI j) G.nd ao);lia
   refine⟨_,rfl,k,U,_,rfl,SqL.of hk,zmN hG,(by rw[hG.length];lia),λd N a9 hd hl a2 a4 pw=>?_⟩;have B:=zc (o:=.lst N) hd;obtain⟨ds,rfl,pg⟩:=zg1 a2;have G':=G.perm pg;refine q d N ds _ ((M.trans Y).free hd) zb ((zmO hl).mono B) (pw.nodup_iff.mpr O) (λv hv=>?_) G' (zmP a4 G'.ne (zb8 G'.ne G'.nd)) ((M.trans Y).trans B);have af:=pw.mem_iff.mp hv;obtain⟨a,e1,e2⟩:=m v af;obtain⟨a',N,e3,e4⟩:=yC.some hG v af;refine⟨a,e1,e2,λz=>?_⟩;rw[e1]at e3;injection e3 with e3
   rw[<- e3,z,hd]at e4;cases e4
def pD (p:Int×Int):We:=.tuple [.int p.1,.int p.2]
def zqL (p q:Int×Int):Xa (pD p) (pD q)=decide (p=q):=PySem.SeqAt.zeu p q
def PR (H:Hp)(v:V)(p:Int×Int):Prop:=∃a,v=V.ref a/\H a=some (.tup [.int p.1,.int p.2])
def PR.mono {H b:Hp}(s:zo H b){v:V}{p:Int×Int}(h:PR H v p):PR b v p:=let ⟨a,e,h⟩:=h;⟨a,e,s _ _ h⟩
def Z0 {H a:Hp}(s:zo H a){b:AF}{ps:List (Int×Int)}(c:yO H b ps):yO a b ps:=by
 induction c with
 | nil=>exact .nil
 | cons h _ d =>
  exact .cons (PR.mono s h) d
def zg3 {H:Hp}{a:AF}{ps:List (Int×Int)}(h:yO H a ps):a.length=ps.length:=Paired.length h
def PR.rdv {K:XX}{H:Hp}{v:V}{p:Int×Int}(h:PR H v p):Rdv K H v (pD p):=by
 obtain⟨a,rfl,h⟩:=h;exact .tup (SqT.of h) (.cons (.int _) (.cons (.int _) .nil))
def zmQ {K:XX}{H:Hp}{a:AF}{ps:List (Int×Int)}(b:yO H a ps):JN K H a (ps.map pD):=by
 induction b with
 | nil=>exact .nil
 | cons h _ c =>
  exact .cons (PR.rdv h) c
theorem zmR:∀ps:List (Int×Int),VB (ps.map pD)=true
 | []=>rfl
 | p::r=>by
  show (U2 (pD p)&&VB (r.map pD))=true;rw[zmR r];rfl
def zqM (ps:List (Int×Int))(p:Int×Int):(ps.map pD).any (λz=>Xa z (pD p))=ps.any λz=>decide (z=p):=by
 rw[Ul];congr 1;funext z;exact zqL z p
def zqN (ps:List (Int×Int))(c:AA):(ps.map pD).any (λz=>Xa z (zk c))=ps.any λz=>decide (z=toI c):=zqM ps (toI c)
def zbM {H:Hp}{a z:Addr}{o c:HO}(h:H a=some o)(hz:H z=some c)(b:o≠c):a≠z:=λe=>by
 subst e;rw[h]at hz;exact b (Option.some.inj hz)
def zoH {H:Hp}{z:Addr}{ys b:AF}(hz:H z=some (.lst ys)){v:V}{p:Int×Int}(h:PR H v p):PR (upd H z (.lst b)) v p:=by
 obtain⟨a,e,h⟩:=h;refine⟨a,e,?_⟩;rw[zj (zbM h hz (λz=>nomatch z))];exact h
def Q0 {H:Hp}{z:Addr}{ys a:AF}(hz:H z=some (.lst ys)){b:AF}{ps:List (Int×Int)}(c:yO H b ps):yO (upd H z (.lst a)) b ps:=by
 induction c with
 | nil=>exact .nil
 | cons h _ d =>
  exact .cons (zoH hz h) d
def jT (N:Addr->Prop)(H:Hp):AF->List (List (Int×Int))->Prop:=Xl λv k=>∃a b,v=V.ref a/\N a/\H a=some (.lst b)/\yO H b k
def qS {N:Addr->Prop}{H b:Hp}(s:zo H b){c:AF}{ks:List (List (Int×Int))}(d:jT N H c ks):jT N b c ks:=by
 induction d with
 | nil=>exact .nil
 | cons q _ f =>
  obtain⟨a,g,e,n,h,t⟩:=q;exact .cons ⟨a,g,e,n,s _ _ h,Z0 s t⟩ f
def zas {N M:Addr->Prop}{H:Hp}(w:∀a,N a->M a){b:AF}{ks:List (List (Int×Int))}(c:jT N H b ks):jT M H b ks:=by
 induction c with
 | nil=>exact .nil
 | cons q _ d =>
  obtain⟨a,f,e,n,h,t⟩:=q;exact .cons ⟨a,f,e,w a n,h,t⟩ d
def J0 {N:Addr->Prop}{H:Hp}{z:Addr}{ys b:AF}(hz:H z=some (.lst ys))(w:∀a,N a->a≠z){c:AF}{ks:List (List (Int×Int))}(d:jT N H c ks):jT N (upd H z (.lst b)) c ks:=by
 induction d with
 | nil=>exact .nil
 | cons q _ f =>
  obtain⟨a,g,e,n,h,t⟩:=q;exact .cons ⟨a,g,e,n,by rw[zj (w a n)];exact h,Q0 hz t⟩ f
def Q2 {N:Addr->Prop}{H:Hp}{c:AF}{ks:List (List (Int×Int))}{b:AF}{a:List (List (Int×Int))}(h:jT N H c ks)(k:jT N H b a):jT N H (c++b) (ks++a):=zcQ h k
def jO {N:Addr->Prop}{H:Hp}{a:AF}{ks:List (List (Int×Int))}(h:jT N H a ks):a.length=ks.length:=Paired.length h
def zbd {N:Addr->Prop}{H:Hp}{c:AF}{ks:List (List (Int×Int))}{i:Nat}{v:V}(h:jT N H c ks)(e:c[i]?=some v):∃k a b,ks[i]?=some k/\v=V.ref a/\N a/\H a=some (.lst b)/\yO H b k:=by
 refine fq (λk h1=>gn λa b h2=>?_) (ZJ h e);exact⟨k,a,b,h1,h2⟩
def zk0 {N:Addr->Prop}{H:Hp}{b:AF}{ks:List (List (Int×Int))}(c:jT N H b ks):Xl (GS.LstAt H) b ks:=by
 induction c with
 | nil=>exact .nil
 | cons q _ d =>
  obtain⟨a,f,e,_,h,t⟩:=q;exact .cons ⟨a,f,e,h,t⟩ d
def zmS {N:Addr->Prop}{H:Hp}{c:AF}{ks:List (List (Int×Int))}(f:Xl (GS.LstAt H) c ks)(n:∀v∈c,∃a,v=V.ref a/\N a):jT N H c ks:=by
 induction f with
 | nil=>exact .nil
 | cons q _ i =>
  obtain⟨a,l,e,h,t⟩:=q;obtain⟨b,d,j⟩:=n _ XQ;subst e;cases d;exact .cons ⟨_,l,rfl,j,h,t⟩ (i λv g=>n v (XT _ g))
def Q3 {N:Addr->Prop}{H:Hp}{c:AF}{ks:List (List (Int×Int))}{v:V}(h:jT N H c ks)(e:v∈c):∃a b,v=V.ref a/\N a/\H a=some (.lst b):=by
 refine fq (λk _=>fm λa b h1 h2 d _=>?_) (zlM h e);exact⟨a,b,h1,h2,d⟩
def zmT {H:Hp}{c:AF}{ps:List (Int×Int)}{b:AF}{a:List (Int×Int)}(h:yO H c ps)(k:yO H b a):yO H (c++b) (ps++a):=zcQ h k
def nearF (rs:AE)(c x:AA):Bool:=(zL rs c).any λz=>decide (z=x)
def jC (rs:AE)(c:AA):Int:=((Cells.sgn (codes rs) c:Nat):Int)-48
def zk1 (rs:AE)(c:AA):(zL rs c).Nodup:=(qg (Cells.JF _ 0 (codes rs))).sublist W5
def zmU {rs:AE}{o:AA}{q:AD}(b:q.Nodup):((zL rs o).filter λx=>q.any λz=>decide (z=x)).length=Grow.cnt (nearF rs) o q:=by
 unfold Grow.cnt;refine OH ((Wl ((zk1 rs o).sublist W5) (b.sublist W5)).mpr λx=>?_);rw[XW,XW];unfold nearF;rw[WG,WG];constructor
 .rintro⟨h1,y,hy,e⟩;have a:y=x:=bg e;subst a;exact⟨hy,y,h1,br rfl⟩
 .rintro⟨h1,y,hy,e⟩;have a:y=x:=bg e;subst a;exact⟨hy,y,h1,br rfl⟩
def zg4 (H:Hp)(rs:AE)(v:V)(o:AA):Prop:=∃a b c,v=V.ref a/\H a=some (.tup [.int (jC rs o),.ref b])/\H b=some (.lst c)/\Cel H c (zL rs o)
def zg5 (H:Hp)(rs:AE)(b:AD)(v:V)(o:AA):Prop:=∃a c d,v=V.ref a/\H a=some (.tup [.int (jC rs o-((Grow.cnt (nearF rs) o b:Nat):Int)),.int (jC rs o),.ref c])/\H c=some (.lst d)/\Cel H d (zL rs o)
def zk2 {H b:Hp}(s:zo H b){rs:AE}{vs:AF}{c:AD}(g:Xl (zg4 H rs) vs c):Xl (zg4 b rs) vs c:=by
 induction g with
 | nil=>exact .nil
 | cons q _ h =>
  revert q;refine fF λa i j e h1 d f=>?_;exact .cons ⟨a,i,j,e,s _ _ h1,s _ _ d,f.mono s⟩ h
def zbN {H c:Hp}(s:zo H c){rs:AE}{b:AD}{vs:AF}{d:AD}(h:Xl (zg5 H rs b) vs d):Xl (zg5 c rs b) vs d:=by
 induction h with
 | nil=>exact .nil
 | cons q _ i =>
  revert q;refine fF λa j l e h1 f g=>?_;exact .cons (eS a j l e (s _ _ h1) (s _ _ f) (g.mono s)) i
def ZQ {α b:Type}{R:α->b->Prop}{vs:List α}{a:List b}{i:Nat}{v:α}(h:Xl R vs a)(e:vs[i]?=some v):∃c,a[i]?=some c/\R v c:=ZJ h e
def zix {α c:Type}{R:α->c->Prop}{e:List α}{d:List c}{b:List α}{a:List c}(h:Xl R e d)(k:Xl R b a):Xl R (e++b) (d++a):=zcQ h k
def zeW (H e:Hp)(rs:AE)(b:AD)(v:V)(o:AA):Prop:=∃a c d,v=V.ref a/\e a=some (.tup [.int (jC rs o-((Grow.cnt (nearF rs) o b:Nat):Int)),.int (jC rs o),.ref c])/\H c=some (.lst d)/\Cel H d (zL rs o)
def ziy {H c d:Hp}(s:zo c d){rs:AE}{b:AD}{vs:AF}{f:AD}(i:Xl (zeW H c rs b) vs f):Xl (zeW H d rs b) vs f:=by
 induction i with
 | nil=>exact .nil
 | cons q _ j =>
  revert q;refine fF λa l m e h1 g h=>?_;exact .cons (eS a l m e (s _ _ h1) g h) j
theorem zdl {H c:Hp}{z:Addr}{ys d:AF}(hz:c z=some (.lst ys)){rs:AE}{b:AD}:∀{vs:AF} {f:AD},Xl (zeW H c rs b) vs f->Xl (zeW H (upd c z (.lst d)) rs b) vs f
 | _,_,.nil=>.nil
 | _,_,.cons ⟨a,i,l,e,h1,g,h⟩ t=>.cons ⟨a,i,l,e,by
   have j:a≠z:=λe=>by
    subst e;rw[h1]at hz;cases hz
   rw[zj j];exact h1,g,h⟩ (zdl hz t)
def ziz {H c:Hp}(s:zo H c){rs:AE}{b:AD}{vs:AF}{d:AD}(h:Xl (zeW H c rs b) vs d):Xl (zg5 c rs b) vs d:=by
 induction h with
 | nil=>exact .nil
 | cons q _ i =>
  revert q;refine fF λa j l e h1 f g=>?_;exact .cons (eS a j l e h1 (s _ _ f) (g.mono s)) i
def zoI:Sp:=λm H Q _=>∃(h f g:Addr) (j i:AF) (e:AE) (O a:AD) (c:AA),m=[.ref h,.ref f,.ref g]/\H h=some (.lst j)/\Xl (zg4 H e) j O/\O.length<=64/\Rows bd.cps.toList e/\H f=some (.tup [.int (c.1:Nat),.int (c.2:Nat)])/\H g=some (.lst i)/\Cel H i a/\a.Nodup /\
 ∀(d:Addr) (l:AF) (b:Hp),b d=some (.lst l)->Xl (zg5 b e a) l (O.filter λo=>nearF e o c)->zo H b->Q (.ref d) b
def zr0:Sp:=λf H Q _=>∃(d e:Addr) (un up:AF) (b:AE) (a O q:AD),f=[.ref d,.ref e]/\H d=some (.lst un)/\Xl (zg5 H b a) un O/\H e=some (.lst up)/\Cel H up q/\q.length<=64 /\
 ∀c:Hp,zo H c->Q (.bl (O.all λo=>Grow.zda (nearF b) (jC b) a o q)) c
def Jb:zB ["told","cell","rest","needs","number","near","left"] ["told","cell","rest"] (zp xh):=bh
def zg6 (T:Txt mg)(D:zm K mg "needs_at" xh ["told","cell","rest"] f fd):zU P w K mg base CX0 1 f fd ["told","cell","rest"] zoI:=by
 refine D.F.ok Jb (λvs H Q E h=>?_) (λan A aj s H vs Q E hr h=>?_)
 .revert h;refine fu λta ca ra ut ur j O g=>fq λc z0 _=>?_;subst z0;rfl
 .revert h;refine fu λta ca ra ut ur j O g=>fU λc z0 ab hT ol=>fJ λR af ah ag ak q=>?_;subst z0;refine⟨_,(@ze _ _ _ _ _ (@qu _ _ 3 _ _ _ _ Jb.nd rfl (VL rfl) (@zW _ _ _ _ zd) (by rfl) (.inr rfl)) (ze (qt Xe rfl (zG (pvS 0)) (yX rfl (zM (pgq 4 Jb.nd) (zM (pgq 5 Jb.nd) jw))) (zg (qy (z9 (zcO hr.units) (pvS 1) (pvS 5) (by rfl)) (ze (qA 6 Jb.nd (pb1 zH T.qC Xg (pcm ["place","rest"] [none,some 2] cR (zG (pvS 5)) (pgN 0) (qk (z9 (qI (K:=K) (by rfl) hr.units) (pvS 0) (pvS 1) (by rfl))) (pvS 0)))) (zg (jR (Ze WO Wu Wt JX (pvS 3) (za (qj (za (zC Zi (pvS 4) (pvS 6)) (za (pvS 4) (za (pvS 5) zd)))) zd))))) zY))) (zg (zw (pvS 3))))),?_⟩;(try dsimp only[cxK,cxP,cxW]);refine⟨yR,λd hd=>?_⟩;have s0:=zc (o:=.lst []) hd;refine⟨_,rfl,ta,rfl,⟨_,SqL.of (s0 _ _ ab)⟩,?_⟩;refine jG (K:=K) (a:=ta) (xs:=ut) (λi L H'=>∃(r:AF) (v4 v5 v6:Option V),L=[some (.ref ta),some (.ref ca),some (.ref ra),some (.ref d),v4,v5,v6]/\zo H H'/\H' d=some (.lst r)/\Xl (zeW H H' j g) r ((O.take i).filter λo=>nearF j o c))
   (dM [] (eH rfl s0 zb (.nil))) (λi L H' _ ⟨_,_,_,_,_,z,_⟩=>SqL.of (z _ _ ab)) ?_ ?_
  .refine λi x L H1 hx=>fN λr v4 v5 v6 z0 s1 n M=>?_;subst z0;refine gk (λo ho a na wn z0 ae B y=>?_) (ZQ hT hx);subst z0;have ha:=s1 _ _ ae;have I:=s1 _ _ B;have l:=y.mono s1;have tk:O.take (i+1)=O.take i++[o]:=by
    rw[Xx,ho];rfl
   refine eW a rfl (SqT.of ha) rfl rfl rfl rfl ?_;refine⟨_,rfl,_,rfl,zk c,(zL j o).map zk,yk.rdv ⟨ca,rfl,s1 _ _ af⟩,.lst (SqL.of I) (zmL l),rfl,Y0 _,(by show 1<=60;decide),_,rfl,?_⟩;have ei:(if false=true then !((zL j o).map zk).any (λz=>Xa z (zk c)) else ((zL j o).map zk).any λz=>Xa z (zk c))=nearF j o c:=x9 _ _;rw[ei,tk,WX];by_cases p:nearF j o c=true
   .have ef:[o].filter (λo=>nearF j o c)=[o]:=by
     rw[WE,bw p];rfl
    rw[ef];refine jb p ⟨_,rfl,na,rfl,⟨_,SqL.of I⟩,λz hz=>?_⟩;refine qc (K:=K) (a:=na) (xs:=wn) (λa=>a≠z) ((zL j o).map λx=>if (g.any λz=>decide (z=x))=true then some (zk x) else none) (fun L=>∃u0,L=[u0,some (.ref ra)]) hz (λ_ h=>h) ⟨_,rfl⟩ (by rw[ZB];exact l.length.symm) (by rw[l.length];exact X6 (Zy R o) (by decide)) (SqL.of I) ?_ ?_
    .rintro m v u L H2 hv hu N _ ⟨u1,rfl⟩ Y Z am no;obtain⟨e,he,rc⟩:=Cel.get (l.mono N) hv;have eo:=jd he hu;refine⟨_,rfl,_,rfl,zk e,g.map zk,rc.rdv,.lst (SqL.of (N _ _ (s1 _ _ ah))) (zmL ((ag.mono s1).mono N)),rfl,Y0 _,(by show 1<=60;decide),_,rfl,?_⟩;have ei:(if false=true then !(g.map zk).any (λz=>Xa z (zk e)) else (g.map zk).any λz=>Xa z (zk e))=g.any λz=>decide (z=e):=x9 _ _;rw[ei];by_cases p:(g.any λz=>decide (z=e))=true
     .rw[bw p]at eo;exact jb p ⟨_,rfl,am _ _ _ _ eo ⟨_,rfl⟩ (zo.refl _) rc.rdn⟩
     .rw[bq p]at eo;exact qW (Xs.mpr p) (no _ _ eo ⟨_,rfl⟩ (zo.refl _))
    rintro ys H2 N ai aa;have er:((zL j o).map λx=>if (g.any λz=>decide (z=x))=true then some (zk x) else none).filterMap id=((zL j o).filter λx=>g.any λz=>decide (z=x)).map zk:=zZ _ _ _;rw[er]at aa;have yl:ys.length=Grow.cnt (nearF j) o g:=(zx.cel aa).length.trans (zmU ak);have G:=N _ _ n;refine⟨z,ys,rfl,.inl (SqL.of ai),?_⟩;rw[yl];refine⟨_,rfl,.inl ⟨rfl,_,SqL.of G⟩,_,rfl,_,rfl,_,_,rfl,rfl,_,rfl,_,rfl,zij,λtt J=>?_⟩;have z3:=zc (o:=.tup [.int (jC j o-((Grow.cnt (nearF j) o g:Nat):Int)),.int (jC j o),.ref na]) J;have ac:=N.trans z3;have al:r.length<=64:=by
     rw[Paired.length M];refine X6 (W6 _ _) ?_;rw[XN];lia
    have U:=z3 _ _ G;refine⟨d,r,_,rfl,rfl,U,XM al (by decide),r++[.ref tt],_,_,_,rfl,λb e' h'=>?_,zb,zix (zdl U (ziy ac M)) (.cons (eS tt na wn rfl ?_ B y) .nil)⟩
    .rw[zj (zh h' hd)];exact ac _ _ (s1 _ _ h')
    .have ne:tt≠d:=λe=>by
      subst e;rw[G]at J;cases J
     rw[zj ne,zb]
   .have ef:[o].filter (λo=>nearF j o c)=[]:=by
     rw[WE,bq p];rfl
    rw[ef,Xf];exact qW (Xs.mpr p) (dM r (eH rfl s1 n M))
  .refine λL H1=>fN λr v4 v5 v6 z0 s1 n M=>?_;subst z0;rw[Paired.length hT,XJ]at M;exact⟨_,rfl,q d r H1 n (ziz s1 M) s1⟩
def YG:zB ["needs","pick","least","most","near"] ["needs","pick"] (zp JG):=bh
def ziA (T:Txt mg)(D:zm K mg "may_fit" JG ["needs","pick"] f fd):zU P w K mg base CX0 1 f fd ["needs","pick"] zr0:=by
 refine D.F.ok YG (λvs H Q E h=>?_) (λae A ab s H vs Q E hr h=>?_)
 .revert h;refine fu λL M un up b c O p=>fR λz0 _=>?_;subst z0;rfl
 .revert h;refine fu λL M un up b c O p=>fO λz0 r hN y=>fB λg pl q=>?_;subst z0;refine⟨_,(ze (qt Xe rfl (zG (pvS 0)) (yX rfl (zM (pgq 2 YG.nd) (zM (pgq 3 YG.nd) (zM (pgq 4 YG.nd) jw)))) (zg (qy (zak (zgg zfE zfE (pvS 2) (pb1 zH T.qC Xg (pcm ["cell","near"] [none,some 4] cR (zG (pvS 1)) (pgN 0) (qk (z9 (qI (K:=K) (by rfl) hr.units) (pvS 0) (pvS 1) (by rfl))) (pvS 0))) (pvS 3))) (@zg _ _ _ (@zw _ _ _ _ YV)) zY))) (@zg _ _ _ (@zw _ _ _ _ YV))),?_⟩;(try dsimp only[cxK,cxP,cxW]);refine⟨_,rfl,L,rfl,⟨_,SqL.of r⟩,?_⟩;refine jG (K:=K) (a:=L) (xs:=un) (λi j H'=>∃(v2 v3 v4:Option V),j=[some (.ref L),some (.ref M),v2,v3,v4]/\zo H H'/\∀o∈O.take i,Grow.zda (nearF b) (jC b) c o p=true)
   (dG (dN rfl (zo.refl _) (λo I=>by simp at I))) (λi j H' _ ⟨_,_,_,_,z,_⟩=>SqL.of (z _ _ r)) ?_ ?_
  .refine λi x j H1 hx=>fM λv2 v3 v4 z0 s1 d=>?_;subst z0;refine gk (λo I a ra wn z0 ha U N=>?_) (ZQ (zbN s1 hN) hx);subst z0;refine e9 a rfl (SqT.of ha) rfl (fh rfl (fk rfl rfl rfl ?_));refine⟨_,rfl,_,rfl,M,rfl,⟨_,SqL.of (s1 _ _ y)⟩,λz hz=>?_⟩;refine qc (K:=K) (a:=M) (xs:=up) (λa=>a≠z) (p.map λx=>if nearF b o x=true then some (zk x) else none) (fun j=>∃u0,j=[u0,some (.ref ra)]) hz (λ_ h=>h) ⟨_,rfl⟩ (by rw[ZB];exact g.length.symm) (by rw[g.length];exact X6 pl (by decide)) (SqL.of (s1 _ _ y)) ?_ ?_
   .rintro m v u j H2 hv hu l _ ⟨u1,rfl⟩ Y Z ac no;obtain⟨e,he,rc⟩:=Cel.get ((g.mono s1).mono l) hv;have G:=jd he hu;refine⟨_,rfl,_,rfl,zk e,(zL b o).map zk,rc.rdv,.lst (SqL.of (l _ _ U)) (zmL (N.mono l)),rfl,Y0 _,(by show 1<=60;decide),_,rfl,?_⟩;have ei:(if false=true then !((zL b o).map zk).any (λz=>Xa z (zk e)) else ((zL b o).map zk).any λz=>Xa z (zk e))=nearF b o e:=x9 _ _;rw[ei];by_cases J:nearF b o e=true
    .rw[bw J]at G;exact jb J ⟨_,rfl,ac _ _ _ _ G ⟨_,rfl⟩ (zo.refl _) rc.rdn⟩
    .rw[bq J]at G;exact qW (Xs.mpr J) (no _ _ G ⟨_,rfl⟩ (zo.refl _))
   rintro ys H2 l aa B;have er:(p.map λx=>if nearF b o x=true then some (zk x) else none).filterMap id=(p.filter (nearF b o)).map zk:=zZ _ _ _;rw[er]at B;have yl:ys.length=Grow.cnt (nearF b) o p:=(zx.cel B).length;refine⟨z,ys,rfl,.inl (SqL.of aa),?_⟩;rw[yl];have om:=X8 I;have tk:O.take (i+1)=O.take i++[o]:=by
    rw[Xx,I];rfl
   have n:Grow.zda (nearF b) (jC b) c o p=false->Q (.bl false) H2:=λe=>by
    have e2:(O.all λo=>Grow.zda (nearF b) (jC b) c o p)=false:=Xs.mpr λz=>by
     have:=WK.mp z o om;rw[e]at this;cases this
    rw[e2]at q;exact q _ (s1.trans l)
   refine⟨_,_,rfl,rfl,_,rfl,?_⟩;by_cases h1:jC b o-((Grow.cnt (nearF b) o c:Nat):Int)<=((Grow.cnt (nearF b) o p:Nat):Int)
   .rw[br h1];refine zan ⟨_,rfl,_,_,rfl,rfl,_,rfl,?_⟩;by_cases h2:((Grow.cnt (nearF b) o p:Nat):Int)<=jC b o
    .rw[br h2];refine ZG (dG (dN rfl (s1.trans l) (λo' ho'=>?_)));rw[tk]at ho';rcases XO.mp ho' with ho' | ho'
     .exact d o' ho'
     .have e:o'=o:=by simpa using ho'
      rw[e];exact Grow.yu.mpr ⟨h1,h2⟩
    .rw[bf h2];exact zan (n (Xs.mpr λz=>h2 (Grow.yu.mp z).2))
   .rw[bf h1];refine ZG (dB rfl ?_);exact zan (n (Xs.mpr λz=>h1 (Grow.yu.mp z).1))
  .refine λj H1=>fM λv2 v3 v4 z0 s1 d=>?_;subst z0;rw[Paired.length hN,XJ]at d;have e:(O.all λo=>Grow.zda (nearF b) (jC b) c o p)=true:=WK.mpr d;rw[e]at q;exact q H1 s1
def toL (q:AD):List (Int×Int):=q.map toI
def zsK:Sp:=λi H Q _=>∃(a l h:Addr) (b:AE) (n:Int) (c:AF) (part:AD),i=[.ref a,.ref h]/\qf H a l b n/\Rows bd.cps.toList b/\H h=some (.lst c)/\Cel H c part/\part.Nodup/\part.length<=14 /\
 ∀(d:Addr) (g:AF) (f:List (List (Int×Int))) (e:Hp),H d=none->e d=some (.lst g)->jT (λa=>H a=none/\a≠d) e g f->g.Nodup->f.Perm (((Subs.subs part).filter (Grow.fits (nearF b) (jC b) (Jw b part) part)).map toL)->f.Pairwise (λp q=>PySem.SeqAt.ltL q p=false)->zo H e->Q (.ref d) e
def jD (rs:AE)(part:AD):Nat->List AD
 | 0=>[[]]
 | i+1=>match part[i]? with
  | some c=>(Subs.step (jD rs part i) c).filter (Grow.chk (nearF rs) (jC rs) (Jw rs part) c (part.drop (i+1)))
  | none=>jD rs part i
def zdm {rs:AE}{part:AD}{i:Nat}{c:AA}(h:part[i]?=some c):jD rs part (i+1)=(Subs.step (jD rs part i) c).filter (Grow.chk (nearF rs) (jC rs) (Jw rs part) c (part.drop (i+1))):=by
 show (match part[i]? with | some c=>_ | none=>_)=_;rw[h]
theorem zdn {rs:AE}{part:AD}:∀(k i:Nat),part.length-i=k->i<=part.length->Grow.grow (nearF rs) (jC rs) (Jw rs part) (jD rs part i) (part.drop i)=jD rs part part.length
 | 0,i,h,b=>by
  have e:i=part.length:=by lia
  subst e;rw[List.drop_length];rfl
 | k+1,i,h,b=>by
  have a:i<part.length:=by lia
  rw[WI a];show Grow.grow _ _ _ ((Subs.step (jD rs part i) part[i]).filter _) (part.drop (i+1))=_;rw[<- zdm (XZ a)];exact zdn k (i+1) (by lia) (by lia)
def zeX (rs:AE)(part:AD):jD rs part part.length=(Subs.subs part).filter (Grow.fits (nearF rs) (jC rs) (Jw rs part) part):=by
 rw[<- Grow.zou];exact(zdn (rs:=rs) (part:=part) part.length 0 (by lia) (WY _)).symm
theorem Q4 (rs:AE)(part:AD):∀i,(jD rs part i).length<=2^i
 | 0=>XU _
 | i+1=>by
  have a:=Q4 rs part i;show (match part[i]? with | some c=>_ | none=>_:List AD).length<=_;rw[Um];split
  .refine X6 (W6 _ _) ?_;unfold Subs.step;rw[XY,ZB];lia
  .lia
theorem zdo (rs:AE)(part:AD):∀i,∀q∈jD rs part i,q.length<=i
 | 0,q,h=>by
  have e:q=[]:=by simpa[jD] using h
  rw[e];exact XU _
 | i+1,q,h=>by
  have a:=zdo rs part i;cases e:part[i]? with
  | none =>
   have b:jD rs part (i+1)=jD rs part i:=by
    show (match part[i]? with | some c=>_ | none=>_)=_;rw[e]
   rw[b]at h;exact T3 (a q h)
  | some c =>
   rw[zdm e]at h;have h:=(XW.mp h).1;rcases XO.mp h with h | h
   .exact T3 (a q h)
   .obtain⟨p,d,rfl⟩:=XI.mp h;rw[XY];exact Nat.succ_le_succ (a p d)
def tD2 (rs:AE)(c:AA):We:=.tuple [.int (jC rs c),.list ((zL rs c).map zk)]
def zmV {N:Addr->Prop}{H:Hp}{rs:AE}{v:V}{c:AA}(h:Rdn N H v (tD2 rs c)):zg4 H rs v c:=by
 unfold tD2 at h;generalize a:(zL rs c).map zk=ds at h;cases h with
 | tup h t =>
  cases t with
  | cons b t =>
   cases b;cases t with
   | cons d t =>
    cases t;cases d with
    | lst n h1 h2 =>
     subst a;exact⟨_,_,_,rfl,h,h1,zx.cel h2⟩
theorem zeY {N:Addr->Prop}{H:Hp}{rs:AE}:∀{a:AD} {vs:AF},zx N H vs (a.map (tD2 rs))->Xl (zg4 H rs) vs a
 | [],_,.nil=>.nil
 | _::_,_,.cons h t=>.cons (zmV h) (zeY t)
def YH {c:St}{H:Hp}{A B:Hp->Prop}(h:A H):znX c H λb a=>if b=true then A a else B a:=by
 show if true=true then A H else B H
 rw[bw rfl];exact h
def zmW {F:List AD}{j:Nat}{k:List (Int×Int)}(h:(F.map toL)[j]?=some k):∃q,F[j]?=some q/\k=toL q:=by
 rw[Xq]at h;cases e:F[j]? with
 | none=>rw[e]at h;cases h
 | some q =>
  rw[e]at h;cases h;exact⟨q,rfl,rfl⟩
def zg7 (xs:AF)(i:Nat)(a:i<xs.length):Jo xs (some (((i:Nat):Int)+1)) none=xs.drop (i+1):=by
 have e:HT.sIx xs.length 0 (some (((i:Nat):Int)+1))=i+1:=by
  have:=HT.QM xs.length 0 (i+1);rw[Tl]at this;rw[show (((i:Nat):Int)+1)=((i:Nat):Int)+((1:Nat):Int) from rfl,this];lia
 unfold Jo;rw[e];show (xs.drop (i+1)).take (xs.length-(i+1))=_;rw[WR (by rw[VP];lia)]
theorem zg8 {H:Hp}:∀{b:AF} {a:AD} (i:Nat),Cel H b a->Cel H (b.drop i) (a.drop i)
 | _,_,0,h=>h
 | _,_,i+1,.nil=>.nil
 | _,_,i+1,.cons _ t=>zg8 i t
def qq:zB ["board","part","told","found","place","cell","needs","grown"] ["board","part"] (zp jW):=bh
def YZ {f1 f2 f3 f4 f5 f6 f7 f8:Addr}{aP aQ aR aS aT aU aV aW:XD}(T:Txt mg)(D:zm K mg "part_layings" jW ["board","part"] f fd)(zJ:zm K mg "around" jK ["board","cell"] f1 aP)(zq:zm K mg "sign_at" qw ["board","cell"] f2 aQ)
  (zv:zm K mg "cells_of" qv ["board"] f3 aR) (zu:zm K mg "open_cells" qx ["board"] f4 aS) (zO:zm K mg "number_at" jt ["board","cell"] f5 aT) (qZ:zm K mg "numbers_of" j6 ["board","part"] f6 aU)
  (jX:zm K mg "needs_at" xh ["told","cell","rest"] f7 aV) (yG:zm K mg "may_fit" JG ["needs","pick"] f8 aW):zU P w K mg base CX0 4 f fd ["board","part"] zsK:=by
 refine D.F.ok qq (λvs H Q E h=>?_) (λbF A b6 s H vs Q E hr h=>?_)
 .revert h;refine fZ λa l pa rs n I part z0 _=>?_;subst z0;rfl
 .revert h;refine gb λa l pa rs n I part z0 b R a2=>fE λah b7 pl q=>?_;subst z0;have ul:=ah.length;refine⟨_,(ze (qy (z9 zii (pb1 zH T.qC Xg (pvS 1)) (xJ (v:=.int 14) (by rfl) T.zdh.choose_spec (by exact⟨_,rfl⟩)) (zP _)) (zg zgd) zY) (ze (psC 2 qq.nd ["cell","board"] [none,some 0] cR (zG (pc0 (zd6 T qZ zJ zq zv zu) hr qZ (za (pvS 0) (za (pvS 1) zd)))) (pgN 0) qa (qj (za (pc0 (YD T zO zq) hr zO (za (pvS 1) (za (pvS 0) zd))) (za (pc0 (QX T zJ) hr zJ (za (pvS 1) (za (pvS 0) zd))) zd)))) (@ze _ _ _ _ _ (@qu _ _ 3 _ _ _ _ qq.nd rfl (VL rfl) (@zW _ _ _ _ (@za _ _ _ _ _ (@zW _ _ _ _ zd) zd rfl)) (by rfl) (.inr rfl)) (ze (qt Xe rfl (JP (by rfl) T.ju (za (pvS 1) zd)) (yX rfl (zM (pgq 4 qq.nd) (zM (pgq 5 qq.nd) jw))) (ze (qA 6 qq.nd (pc0 (zg6 T jX) hr jX (za (pvS 2) (za (pvS 5) (za (JL zaL (pvS 1) (Yl (zC Jq (pvS 4) zf)) Yk) zd))))) (ze (qA 7 qq.nd (zC yZ (pvS 3) (pcm ["pick","cell"] [none,some 5] cR (zG (pvS 3)) (pgN 0) qa (zC yZ (pvS 0) (zW (za (pvS 1) zd)))))) (zg (psC 3 qq.nd ["pick","needs"] [none,some 6] cR (zG (pvS 7)) (pgN 0) (qk (ZH (K:=K) (by rfl) (pc0 (ziA T yG) hr yG (za (pvS 1) (za (pvS 0) zd))) (λ_=>rfl))) (pvS 0)))))) (zg (zw (pb1 (GS.zac hr.units) T.yU Ws (pvS 3)))))))),?_⟩;(try dsimp only[cxK,cxP,cxW]);refine⟨_,rfl,pa,I,rfl,.inl (SqL.of a2),_,_,rfl,rfl,_,rfl,?_⟩;refine qW (bf (by lia)) ?_;refine⟨_,rfl,_,rfl,a,l,pa,rs,n,I,part,rfl,b,R,a2,ah,λd ws H1 hd aC au s1=>(dI d rfl ⟨_,SqL.of aC⟩ (λz hz=>?_))⟩;have b1:=b.mono s1;have nl:(Jw rs part).length<=64:=X6 (W6 _ _) (qL (p:=YY) R);refine qc (K:=K) (a:=d) (xs:=ws) (λa=>a≠z) ((Jw rs part).map λc=>some (tD2 rs c)) (fun σ=>∃u0,σ=[u0,some (.ref a)]) hz (λ_ h=>h) ⟨_,rfl⟩ (by rw[ZB];exact au.length.symm) (by rw[au.length];exact X6 nl (by decide)) (SqL.of aC) ?_ ?_
  .rintro k x o σ H2 hx ho s2 b3 ⟨u0,rfl⟩ Y Z bB no;obtain⟨y,hy,r1⟩:=Cel.get au hx;have eo:=jd hy ho;have yo:y∈zT rs:=(XW.mp (X8 hy)).1;refine fm (λt sg ht hj bo es=>?_) (qd yo);obtain⟨ya,rfl,bx⟩:=r1;obtain⟨l1,l2⟩:=yy R ht hj;obtain⟨o1,o2⟩:=zbJ (zjB R ht hj) bo;have b2:=b1.mono s2;have ao:=s2 _ _ bx;refine jA ⟨_,rfl,_,rfl,a,l,ya,rs,n,y.1,y.2,t,sg,rfl,b2,ao,ht,hj,R.tlen ht,o1,o2,_,rfl,_,rfl,a,l,ya,rs,n,y.1,y.2,rfl,b2,R,ao,l1,l2,λd2 bI H3 bi bj bc s3=>⟨yi,λtt a3=>?_⟩⟩;have s4:=zc (o:=.tup [.int (((sg:Nat):Int)-48),.ref d2]) a3;have en:jC rs y=((sg:Nat):Int)-48:=by
    unfold jC;rw[es]
   refine bB _ _ _ _ eo ⟨_,rfl⟩ (s3.trans s4) (.tup zb (.cons ?_ (.cons (.lst (λe=>b3 (e ▸ bi)) (s4 _ _ bj) (Cel.rdn (bc.mono s4))) .nil)));rw[en];exact .int _
  rintro ut H2 s2 b0 aH;rw[ZX]at aH;have hT:=zeY aH;have af:=s1.trans s2;refine⟨yR,λe0 aD=>⟨sz_1,λf0 bm=>?_⟩⟩;have y1:=zc (o:=.lst []) aD;have y2:=zc (o:=.lst [.ref e0]) bm;have aN:=y1.trans y2;have aZ:jT (λa=>H2 a=none) (upd (upd H2 e0 (.lst [])) f0 (.lst [.ref e0])) [.ref e0] ([[]]:List (List (Int×Int))):=.cons ⟨e0,[],rfl,aD,y2 _ _ zb,.nil⟩ .nil;have bn:upd (upd H2 e0 (.lst [])) f0 (.lst [.ref e0]) f0=some (.lst [.ref e0]):=zb;generalize upd (upd H2 e0 (.lst [])) f0 (.lst [.ref e0])=H3 at *
  have ae:=af _ _ a2;refine⟨_,rfl,pa,rfl,⟨_,SqL.of (aN _ _ ae)⟩,?_⟩;refine JD (K:=K) (l:=pa) (xs:=I) (λi σ L=>∃(fa:Addr) (fs:AF) (v4 v5 v6 v7:Option V),σ=[some (.ref a),some (.ref pa),some (.ref z),some (.ref fa),v4,v5,v6,v7]/\zo H2 L/\L fa=some (.lst fs)/\jT (λa=>H2 a=none) L fs ((jD rs part i).map toL)/\fs.Nodup)
   (dM f0 (dG (eB rfl aN bn aZ (by simp)))) (λi σ L _ ⟨_,_,_,_,_,_,_,y,_⟩=>SqL.of (y _ _ ae)) ?_ ?_
  .refine λi x tt σ H4 hx a3=>gc λfa fs v4 v5 v6 v7 z0 s4 aw hL ax=>?_;subst z0;refine fK (λc hc B z0 be=>?_) (Cel.get ((ah.mono af).mono s4) hx);subst z0;have il:=(X4.mp hx).1;have z5:=zc (o:=.tup [.int (i:Nat),.ref B]) a3;refine eW tt rfl (SqT.of zb) rfl rfl rfl rfl ?_;have s5:=s4.trans z5;have am:=z5 _ _ be;have aE:=z5 _ _ aw;have ba:=qS z5 hL;generalize upd H4 tt (.tup [.int (i:Nat),.ref B])=H5 at *
   refine⟨_,rfl,_,rfl,_,rfl,_,rfl,_,_,rfl,rfl,_,rfl,pa,I,rfl,SqL.of (s5 _ _ ae),λx1 bv=>?_⟩;have e1:=zg7 I i il;rw[e1]at *
   have z6:=zc (o:=.lst (I.drop (i+1))) bv;have s6:=s5.trans z6;refine eV z B x1 ut (I.drop (i+1)) rs (Jw rs part) (part.drop (i+1)) (dO c rfl (s6 _ _ b0) (zk2 s6 hT) nl (dQ R (z6 _ _ am) zb (zg8 _ ((ah.mono af).mono s6)) (b7.sublist (Ry _ _)) (λnd un H6 bD hN s7=>?_)));have al:=z6.trans s7;have aK:=s5.trans al;have ac:=al _ _ aE;have ar:=qS al ba;have aB:=al _ _ am;have b4:i<=13:=by lia
   have fl:fs.length<=8192:=by
    rw[jO hL,ZB];exact X6 (Q4 rs part i) (UK (by decide) b4)
   have dp:=zdo rs part i;have eG:=zdm (rs:=rs) hc;have gl:=Q4 rs part i;generalize jD rs part i=F at *
   refine⟨_,rfl,_,rfl,fa,rfl,⟨_,SqL.of ac⟩,λy hy=>?_⟩;refine qb (K:=K) (a:=fa) (xs:=fs) (λj r L=>∃(u0:Option V) (m:AF),r=[u0,some (.ref B)]/\zo H6 L/\L y=some (.lst m)/\jT (λa=>H6 a=none/\a≠y) L m (((F.take j).map (·++[c])).map toL)/\m.Nodup)
    (d9 [] rfl (zc hy) zb (.nil) Vn) (λj r L _ ⟨_,_,_,z,_⟩=>SqL.of (z _ _ ac)) ?_ ?_
   .refine λj v r H7 hv=>fD λu0 m z0 s8 ak G a8=>?_;subst z0;refine fC (λk a1 U hk z0 an ab t1=>?_) (zbd ar hv);subst z0;obtain⟨q1,N,rfl⟩:=zmW hk;have kd:=dp q1 (X8 N);have wl:U.length=q1.length:=(zg3 t1).trans (ZB _);have tj:((F.take (j+1)).map (·++[c])).map toL=((F.take j).map (·++[c])).map toL++[toL q1++[toI c]]:=by
     rw[Xx,N,Xz,Xz];simp[toL]
    rw[tj];unfold xU;refine YH ?_;refine⟨_,rfl,_,rfl,sz_1,λt2 bt=>?_⟩;have y5:=zc (o:=.lst [.ref B]) bt;refine dR a1 t2 U [.ref B] (dQ rfl rfl (y5 _ _ (s8 _ _ ab)) zb (X6 (show U.length+1<=100 by lia) (by decide)) (λt3 aj=>?_));have y6:=zc (o:=.lst (U++[.ref B])) aj;have ag:=y5.trans y6;have h6:upd (upd H7 t2 (.lst [.ref B])) t3 (.lst (U++[.ref B])) t3=some (.lst (U++[.ref B])):=zb;have tz:t3≠y:=λe=>by
     subst e;rw[y5 _ _ ak]at aj;cases aj
    have n4:=y5.free aj;have n3:=s8.free n4;have c1:yO (upd (upd H7 t2 (.lst [.ref B])) t3 (.lst (U++[.ref B]))) [.ref B] [toI c]:=.cons ⟨B,rfl,ag _ _ (s8 _ _ aB)⟩ .nil;have bA:=zmT (Z0 (s8.trans ag) t1) c1;generalize upd (upd H7 t2 (.lst [.ref B])) t3 (.lst (U++[.ref B]))=H8 at *
    have a6:=ag _ _ ak;have yl:m.length<=8192:=by
     rw[jO G,ZB,ZB,XN];have:=jO hL;rw[ZB]at this;lia
    refine dI m a6 (XM yl (by decide)) (d9 (m++[.ref t3]) rfl (λb' o e=>?_) zb (Q2 (J0 a6 (λa h=>h.2) (qS ag G)) (.cons (dY t3 (U++[.ref B]) rfl ⟨n3,tz⟩ (by rw[zj tz];exact h6) (Q0 a6 bA)) .nil)) ?_)
    .rw[zj (zh e hy)];exact ag _ _ (s8 _ _ e)
    .refine WL.mpr ⟨a8,by simp,λu hu u' a4 e=>?_⟩;obtain⟨b',wb,rfl,_,hb⟩:=Q3 G hu;have e2:u'=.ref t3:=by simpa using a4
     rw[e2]at e;cases e;rw[hb]at n4;cases n4
   refine λr H7=>fD λu0 m z0 s8 ak G a8=>?_;subst z0;have aX:fs.length=F.length:=(jO hL).trans (ZB _);rw[aX,XJ]at G;have yl:m.length<=8192:=by
    rw[jO G,ZB,ZB];lia
   refine dR fa y fs m (dQ rfl rfl (s8 _ _ ac) ak (X6 (Nat.add_le_add fl yl) (by decide)) (λg hg=>?_));have y9:=zc (o:=.lst (fs++m)) hg;have b8:=aK.trans s8;have b9:=b8.trans y9;have aF:upd H7 g (.lst (fs++m)) g=some (.lst (fs++m)):=zb;have a9:jT (λa=>H2 a=none) (upd H7 g (.lst (fs++m))) (fs++m) ((Subs.step F c).map toL):=by
    unfold Subs.step;rw[Xz];exact Q2 (qS (s8.trans y9) ar) (qS y9 (zas (λa h=>aK.free h.1) G))
   have aY:(fs++m).Nodup:=by
    refine WL.mpr ⟨ax,a8,λu hu u' a4 e=>?_⟩;obtain⟨b',wb,rfl,_,hb⟩:=Q3 ar hu;obtain⟨b2,bH,rfl,aA,_⟩:=Q3 G a4;cases e;rw[hb]at aA;cases aA.1
   have aG:=(s8.trans y9) _ _ bD;have bb:=zbN (s8.trans y9) hN;have bG:(fs++m).length<=16384:=by
    rw[XY];lia
   have aO:∀q∈Subs.step F c,q.length<=64:=λq hq=>by
    rcases XO.mp hq with hq | hq
    .have:=dp q hq;lia
    .obtain⟨p',ay,rfl⟩:=XI.mp hq;have:=dp p' ay;rw[XY];show p'.length+1<=64;lia
   generalize fs++m=gs at *
   generalize Subs.step F c=S at *
   generalize upd H7 g (.lst gs)=H8 at *
   refine⟨_,rfl,g,rfl,⟨_,SqL.of aF⟩,λy2 a5=>?_⟩;refine qb (K:=K) (a:=g) (xs:=gs) (λj r L=>∃(u0:Option V) (m:AF),r=[u0,some (.ref nd)]/\zo H8 L/\L y2=some (.lst m)/\jT (λa=>H2 a=none/\a≠y2) L m (((S.take j).filter (Grow.chk (nearF rs) (jC rs) (Jw rs part) c (part.drop (i+1)))).map toL)/\m.Sublist (gs.take j))
    (d9 [] rfl (zc a5) zb (.nil) List.Sublist.slnil) (λj r L _ ⟨_,_,_,z,_⟩=>SqL.of (z _ _ aF)) ?_ ?_
   .refine λj v r H9 hv=>fD λu0 m z0 s9 a7 aa O=>?_;subst z0;refine fC (λk a1 U hk z0 an ab t1=>?_) (zbd a9 hv);subst z0;refine fq (λq1 N z0=>?_) (zmW hk);subst z0;have tf:gs.take (j+1)=gs.take j++[.ref a1]:=by
     rw[Xx,hv];rfl
    refine⟨_,rfl,_,rfl,nd,a1,un,U,rs,part.drop (i+1),_,q1,rfl,s9 _ _ aG,zbN s9 bb,s9 _ _ ab,(qJ t1).mono s9,aO q1 (X8 N),λbE J=>(dB rfl ?_)⟩;rw[tf];have M:=J _ _ a7;show if Grow.chk (nearF rs) (jC rs) (Jw rs part) c (part.drop (i+1)) q1=true then _ else _
    by_cases ai:Grow.chk (nearF rs) (jC rs) (Jw rs part) c (part.drop (i+1)) q1=true
    .have e1:((S.take (j+1)).filter (Grow.chk (nearF rs) (jC rs) (Jw rs part) c (part.drop (i+1)))).map toL=((S.take j).filter (Grow.chk (nearF rs) (jC rs) (Jw rs part) c (part.drop (i+1)))).map toL++[toL q1]:=by
      rw[Xx,N,WX,Xz];simp[ai]
     rw[e1];have az:a1≠y2:=zh ab a5;have yl:m.length<=16384:=by
      have:=O.length_le;rw[XN]at this;lia
     refine jb ai ⟨_,rfl,m,M,XM yl (by decide),_,m++[.ref a1],rfl,λb' o e=>?_,zb,Q2 (J0 M (λa h=>h.2) (qS J aa)) (.cons (dY a1 U rfl ⟨an,az⟩ (by rw[zj az];exact J _ _ (s9 _ _ ab)) (Q0 M (Z0 (s9.trans J) t1))) .nil),List.Sublist.append O (List.Sublist.refl _)⟩;rw[zj (zh e a5)];exact J _ _ (s9 _ _ e)
    .have e1:((S.take (j+1)).filter (Grow.chk (nearF rs) (jC rs) (Jw rs part) c (part.drop (i+1)))).map toL=((S.take j).filter (Grow.chk (nearF rs) (jC rs) (Jw rs part) c (part.drop (i+1)))).map toL:=by
      rw[Xx,N,WX,Xz];simp[ai]
     rw[e1];exact qW (Xs.mpr ai) (d9 m rfl (s9.trans J) M (qS J aa) (O.trans (Tr _ _)))
   .refine λr H9=>fD λu0 m z0 s9 a7 aa O=>?_;subst z0;have aq:gs.length=S.length:=(jO a9).trans (ZB _);rw[aq,XJ,<- eG]at aa;rw[aq,<- aq,XJ]at O;exact dF y2 m (eO (dJ rfl (b9.trans s9) a7 (zas (λa h=>h.1) aa) (aY.sublist O)))
  .refine λσ H4=>gc λfa fs v4 v5 v6 v7 z0 s4 aw hL ax=>?_;subst z0;have gl:=Q4 rs part part.length;rw[ul,zeX]at hL;rw[zeX]at gl;have fl:fs.length<=16384:=by
    rw[jO hL,ZB];exact X6 gl (UK (by decide) pl)
   refine⟨_,rfl,fa,fs,_,rfl,SqL.of aw,zk0 hL,by lia,λd' aM b5 av ay bC bp aI=>?_⟩;have y5:=zc (o:=.lst aM) av;have aJ:=af.trans s4;refine q d' aM b5 _ (aJ.free av) zb (qS y5 (zmS ay λv hv=>?_)) (aI.nodup_iff.mpr ax) bC bp (aJ.trans y5);obtain⟨a1,wa,e,na,ha⟩:=Q3 hL (aI.mem_iff.mp hv);exact⟨a1,e,af.free na,zh ha av⟩
abbrev iL (xs:List Int):AF:=xs.map V.int
def ints_get {xs:List Int}{i:Nat}{v:V}(h:(iL xs)[i]?=some v):∃x,xs[i]?=some x/\v=.int x:=by
 rw[Xq]at h;cases e:xs[i]? with
 | none=>rw[e]at h;cases h
 | some x =>
  rw[e]at h;cases h;exact⟨x,rfl,rfl⟩
def zjE {xs:List Int}{i:Nat}{x:Int}(h:xs[i]?=some x):(iL xs)[i]?=some (.int x):=by
 rw[Xq,h];rfl
def zmX {n:Nat}{k:Int}(h0:0<=k)(h1:k<n):ixN n k=some k.toNat:=by
 unfold ixN;rw[bw h0,bw h1]
def zoJ (xs:List Int)(z:Int):iL (xs++[z])=iL xs++[.int z]:=by
 show TW V.int (xs++[z])=_;rw[Xz];rfl
def zco (c:AA)(k:List (Int×Int)):Bool:=k.any λz=>decide (z=toI c)
def YI (rs:AE)(part:AD):List (List (Int×Int)):=((Subs.subs part).filter (Grow.fits (nearF rs) (jC rs) (Jw rs part) part)).map toL
def zr1:Sp:=λf H Q _=>∃(c:Addr) (e:AF) (b:List (List (Int×Int))) (N:Addr->Prop) (g:Nat),f=[.ref c,.int (g:Nat)]/\H c=some (.lst e)/\jT N H e b/\(∀k∈b,k.length<=g)/\g<=64 /\
 ∀(d:Addr) (a:Hp),H d=none->a d=some (.lst (iL (Cnt.Jd g b)))->zo H a->Q (.ref d) a
def zoK:Sp:=λi H Q _=>∃(f e:Addr) (h:AF) (a:List (List (Int×Int))) (N:Addr->Prop) (g:Nat) (c:AA),i=[.ref f,.int (g:Nat),.ref e]/\H f=some (.lst h)/\jT N H h a/\(∀k∈a,k.length<=g)/\g<=64/\a.length<=16384/\H e=some (.tup [.int (c.1:Nat),.int (c.2:Nat)]) /\
 ∀(d:Addr) (b:Hp),H d=none->b d=some (.lst (iL (Cnt.Jd g (a.filter (zco c)))))->zo H b->Q (.ref d) b
def zsM:Sp:=λg H Q _=>∃(a l f:Addr) (e:AE) (n:Int) (b:AF) (part:AD),g=[.ref a,.ref f]/\qf H a l e n/\Rows bd.cps.toList e/\H f=some (.lst b)/\Cel H b part/\part.Nodup/\part.length<=14 /\
 ∀(d:Addr) (c:Hp),H d=none->c d=some (.lst (iL (Cnt.Jd part.length (YI e part))))->zo H c->Q (.ref d) c
def zg9 (n:Nat):(WU n [V.int 0]).flatten=iL (WU n 0):=by
 induction n with
 | zero=>rfl
 | succ n a =>
  rw[Vf,Wz,a];rfl
theorem zha {α:Type}:∀(a:List α) (b:Nat),(Subs.pick a b).length<=a.length
 | [],_=>WY _
 | c::r,b=>by
  have:=zha r (b/2);show ((if b%2=1 then [c] else [])++Subs.pick r (b/2)).length<=r.length+1;rw[XY];split
  .show 1+_<=_;lia
  .show 0+_<=_;lia
def zmY {α:Type}{a q:List α}(h:q∈Subs.subs a):q.length<=a.length:=by
 rw[Subs.zbF]at h;obtain⟨b,_,rfl⟩:=XI.mp h;exact zha a b
def zdp {rs:AE}{part:AD}{k:List (Int×Int)}(h:k∈YI rs part):k.length<=part.length:=by
 obtain⟨a,h1,rfl⟩:=XI.mp h;show (a.map toI).length<=_;rw[ZB];exact zmY (XW.mp h1).1
def zk3 {rs:AE}{part:AD}(h:part.length<=14):(YI rs part).length<=16384:=by
 unfold YI;rw[ZB];refine X6 (W6 _ _) ?_;rw[Subs.zbF,ZB,Wn];exact X6 (UK (by decide) h) (by decide)
def zat:zB ["found","greatest","counts","laying"] ["found","greatest"] (zp JH):=bh
def zau (T:Txt mg)(D:zm K mg "counted" JH ["found","greatest"] f fd):zU P w K mg base CX0 1 f fd ["found","greatest"] zr1:=by
 refine D.F.ok zat (λvs H Q E h=>?_) (λaa A I s H vs Q E hr h=>?_)
 .revert h;refine fQ λm Y G N=>fq λg z0 _=>?_;subst z0;rfl
 .revert h;refine gh λm Y G N g=>fJ λz0 d M hk ab q=>?_;subst z0;refine⟨_,(@ze _ _ _ _ _ (@qu _ _ 2 _ _ _ _ zat.nd rfl (VL rfl) (@zC _ _ _ _ _ _ _ _ zlG (@zW _ _ _ _ (@za _ _ _ _ _ zf zd rfl)) (zC Jq (pvS 1) zf)) (by rfl) (.inr rfl)) (ze (qt Xe rfl (zG (pvS 0)) (pgq 3 zat.nd) (zg (zi7 (pvS 2) (pb1 zH T.qC Xg (pvS 3)) zgp zf zlz set_list))) (zg (zw (pvS 2))))),?_⟩;(try dsimp only[cxK,cxP,cxW]);refine⟨sz_1,λU B=>?_⟩;have s0:zo H (upd H U (.lst [.int 0])):=zc B;refine⟨_,rfl,_,_,rfl,rfl,U,_,_,rfl,rfl,zb,by lia,by lia,?_,λp O=>?_⟩
  .exact X6 (show 1*((g:Int)+1).toNat<=120 by lia) (by decide)
  rw[show ((g:Int)+1).toNat=g+1 by lia,zg9,<- Cnt.zmw (α:=Int×Int)];have s1:=s0.trans (zc (o:=.lst (iL (Cnt.Jd g ([]:List (List (Int×Int)))))) O);have l:H p=none:=s0.free O;refine⟨_,rfl,m,rfl,⟨_,SqL.of (s1 _ _ d)⟩,?_⟩;refine jG (K:=K) (a:=m) (xs:=Y) (λi u x=>∃J,u=[some (.ref m),some (.int (g:Nat)),some (.ref p),J]/\zo H x/\x p=some (.lst (iL (Cnt.Jd g (G.take i)))))
   ⟨_,rfl,s1,zb⟩ (λi u x _ ⟨_,_,y,_⟩=>SqL.of (y _ _ d)) ?_ ?_
  .refine λi v u L hv=>fy λJ z0 r b=>?_;subst z0;refine fC (λk a1 wa j z0 _ z t1=>?_) (zbd M hv);subst z0;have kl:=hk k (X8 j);have wl:=zg3 t1;refine⟨_,rfl,_,rfl,a1,wa,rfl,.inl (SqL.of (r _ _ z)),p,_,_,_,rfl,rfl,SqL.of b,Yn (by lia) (zjE (Cnt.zdb (n:=wa.length) _ (by lia))),_,_,rfl,rfl,p,_,_,_,rfl,rfl,b,zmX (by lia) (by rw[ZB,Cnt.za4];lia),?_⟩;refine dN rfl (λc o e=>?_) ?_
   .rw[zj (zh e l)];exact r _ _ e
   .rw[zb,Xx,j];show _=some (HO.lst (iL (Cnt.Jd g (G.take i++[k]))));rw[Cnt.zkU _ kl,wl];show some (HO.lst ((TW V.int _).set _ (V.int _)))=_;rw[<- R0];rfl
  .rintro u L ⟨J,rfl,r,b⟩;rw[jO M,XJ]at b;exact⟨_,rfl,q p L l b r⟩
def zdq:zB ["board","part"] ["board","part"] (zp xM):=bh
def zdr {f1 f2 f3 f4 f5 f6 f7 f8 f9 p:Addr}{r u v x y z B G I i:XD}(T:Txt mg)(D:zm K mg "part_counts" xM ["board","part"] f fd)(zJ:zm K mg "around" jK ["board","cell"] f1 r)(zq:zm K mg "sign_at" qw ["board","cell"] f2 u)
  (zv:zm K mg "cells_of" qv ["board"] f3 v) (zu:zm K mg "open_cells" qx ["board"] f4 x) (zO:zm K mg "number_at" jt ["board","cell"] f5 y) (qZ:zm K mg "numbers_of" j6 ["board","part"] f6 z)
  (jX:zm K mg "needs_at" xh ["told","cell","rest"] f7 B) (yG:zm K mg "may_fit" JG ["needs","pick"] f8 G) (Y:zm K mg "part_layings" jW ["board","part"] f9 I) (U:zm K mg "counted" JH ["found","greatest"] p i):zU P w K mg base CX0 5 f fd ["board","part"] zsM:=by
 refine D.F.ok zdq (λvs H Q E h=>?_) (λaa A L s H vs Q E O h=>?_)
 .revert h;refine fZ λa l M rs n g part z0 _=>?_;subst z0;rfl
 .revert h;refine gb λa l M rs n g part z0 b R m=>fE λc N pl q=>?_;subst z0;refine⟨_,(zg (zw (pc0 (zau T U) O U (za (pc0 (YZ T Y zJ zq zv zu zO qZ jX yG) O Y (za (pvS 0) (za (pvS 1) zd))) (za (pb1 zH T.qC Xg (pvS 1)) zd))))),?_⟩;(try dsimp only[cxK,cxP,cxW]);refine⟨_,rfl,_,rfl,a,l,M,rs,n,g,part,rfl,b,R,m,c,N,pl,λd ws ks H1 hd J hL _ o _ s1=>?_⟩;refine⟨_,rfl,M,g,rfl,.inl (SqL.of (s1 _ _ m)),d,ws,ks,_,g.length,rfl,J,hL,λk hk=>?_,?_,λe H2 he j s2=>?_⟩
  .rw[c.length];exact zdp (o.mem_iff.mp hk)
  .rw[c.length];lia
  .rw[c.length,Cnt.zbG o]at j;exact q e H2 (s1.free he) j (s1.trans s2)
def qF (rs:AE)(g S:AD):Bool:=Grow.fits (nearF rs) (jC rs) (Jw rs g) g S
def zbO {rs:AE}{o x:AA}:nearF rs o x=true↔x∈zL rs o:=Parts.za3 _ _
def zqO {rs:AE}{x:AA}(h:x∈zI rs):Cells.sgn (codes rs) x=63:=by
 obtain⟨t,k,c,b,hk,a⟩:=qd h;have:k=63:=by
  unfold x8 at hk;simpa using hk
 rw[a,this]
def Jx {rs:AE}{o x:AA}(a:x∈zI rs):nearF rs o x=true↔x∈clA rs o:=by
 rw[zbO];constructor
 .exact λh=>XW.mpr ⟨h,br (zqO a)⟩
 .exact λh=>(XW.mp h).1
def zfK {rs:AE}{g:AD}{o:AA}:o∈Jw rs g↔o∈zT rs/\∃x∈g,nearF rs o x=true:=by
 unfold Jw;rw[XW,Ul,WG];refine and_congr_right λ_=>?_;constructor
 .rintro⟨z,hz,h⟩;have a:(g.any λx=>decide (x=z))=true:=h;exact⟨z,(Parts.za3 _ _).mp a,zbO.mpr hz⟩
 .rintro⟨x,hx,h⟩;exact⟨x,zbO.mp h,(Parts.za3 _ _).mpr hx⟩
section
variable {rs:AE}{gs:List AD}(G:Parts.Good (clA rs) (zT rs) gs)
include G
theorem yw:∀c∈gs.flatten,c∈zI rs:=λc a=>by
 obtain⟨o,_,h⟩:=G.from_ c a;exact Ja h
theorem zoL {g:AD}(f:g∈gs){o x:AA}(j:o∈Jw rs g)(l:x∈zI rs)(i:nearF rs o x=true):x∈g:=by
 obtain⟨h1,y,h,h2⟩:=zfK.mp j;have d:=yw G y (WA.mpr ⟨g,f,h⟩);have b:=(Jx d).mp h2;obtain⟨m,c,a⟩:=G.cov o h1 (S8 b);have e:=Parts.zeM G.nd c f (a y b) h;rw[<- e];exact a x ((Jx l).mp i)
theorem zjF {g:AD}(d:g∈gs){o:AA}(f:o∈Jw rs g){a:AD}(h:∀c∈a,c∈zI rs/\c ∉ g):Grow.cnt (nearF rs) o a=0:=by
 unfold Grow.cnt;rw[Wb,Wg];intro c b e;exact(h c b).2 (zoL G d f (h c b).1 e)
theorem zbe {g:AD}(i:g∈gs):Tally.Loc (zI rs) (qF rs g) g:=by
 have e:∀S f:AD,(∀o∈Jw rs g,Grow.cnt (nearF rs) o S=Grow.cnt (nearF rs) o f)->qF rs g S=qF rs g f:=λS f h=>by
  unfold qF Grow.fits;rw[WV,WK,WK];constructor
  .intro k o c;have:=k o c;rwa [h o (XW.mp c).1]at this
  .intro k o c;have:=k o c;rwa [<- h o (XW.mp c).1]at this
 have d:∀(o:AA) (a b:AD),Grow.cnt (nearF rs) o (a++b)=Grow.cnt (nearF rs) o a+Grow.cnt (nearF rs) o b:=λo a b=>by
  unfold Grow.cnt;rw[WX,XY]
 refine⟨λa b h=>e _ _ λo c=>?_,λa b h=>e _ _ λo c=>?_⟩
 .rw[d,zjF G i c h,VR]
 .rw[d,zjF G i c h,PZ]
theorem zhb:(gs.map λg=>Tally.tl g (qF rs g)).foldl Pour.Zw [1]=Tally.tl gs.flatten (Tally.j5 (qF rs) gs):=Tally.zio G.nd (yw G) λg a=>zbe G a
theorem zk4 (i:Nat):((gs.take i).map λg=>Tally.tl g (qF rs g)).foldl Pour.Zw [1]=Tally.tl (gs.take i).flatten (Tally.j5 (qF rs) (gs.take i)):=by
 have sub:(gs.take i).flatten.Sublist gs.flatten:=by
  have e:gs.flatten=(gs.take i).flatten++(gs.drop i).flatten:=by rw[<- Ww,W7]
  rw[e];exact Tr _ _
 exact Tally.zio (G.nd.sublist sub) (λc a=>yw G c (sub.subset a)) λg b=>zbe G (V9 b)
theorem Qp (R:Rows bd.cps.toList rs):gs.flatten.length<=64:=by
 have h1:=Parts.j4 G.nd (yw G);have h2:=zeU R;lia
end
def zeZ (rs:AE)(part:AD):Cnt.Jd part.length (YI rs part)=Tally.tl part (qF rs part):=by
 unfold YI;rw[Tally.zgV part.length toL (λk=>ZB _)];exact Tally.zjx part _
def zk5 (xs:List Int):Prop:=∀z∈xs,z.natAbs<2^8000
def zoM {a:AD}{p:AD->Bool}{k:Nat}(h:a.length<=64):Tally.T a p k<=2^64:=by
 refine X6 UV ?_;rw[Subs.zbF,ZB,Wn];exact UK (by decide) h
def YJ {a:AD}{p:AD->Bool}(h:a.length<=64):zk5 (Tally.tl a p):=λz b=>by
 unfold Tally.tl at b;obtain⟨k,_,rfl⟩:=XI.mp b;rw[S5];exact XM (zoM h) (OZ (by decide) (by decide))
def Z1 (rs:AE)(S:AD):Bool:=((zT rs).filter λo=>!(clA rs o).isEmpty).all λo=>decide (((Grow.cnt (nearF rs) o S:Nat):Int)=jC rs o)
def Jy {rs:AE}{S:AD}:Z1 rs S=true ↔ ∀o∈zT rs,clA rs o ≠ []->((Grow.cnt (nearF rs) o S:Nat):Int)=jC rs o:=by
 unfold Z1;rw[WK];constructor
 .intro h o a b;exact bg (h o (XW.mpr ⟨a,by rw[WF];exact UU.mpr b⟩))
 .intro h o a;obtain⟨h1,h2⟩:=XW.mp a;rw[WF]at h2;exact br (h o h1 (UU.mp h2))
def zbP {rs:AE}{gs:List AD}(G:Parts.Good (clA rs) (zT rs) gs)(S:AD):Tally.j5 (qF rs) gs S=Z1 rs S:=by
 rw[WV,Jy];unfold Tally.j5 qF Grow.fits;rw[WK];constructor
 .intro h o d i;obtain⟨x,b⟩:=TD _ i;obtain⟨g,e,a⟩:=G.cov o d i;have c:nearF rs o x=true:=(Jx (Ja b)).mpr b;have:=h g e;rw[WK]at this;exact bg (this o (XW.mpr ⟨zfK.mpr ⟨d,x,a x b,c⟩,WG.mpr ⟨x,a x b,c⟩⟩))
 .intro h g e;rw[WK];intro o d;obtain⟨h1,x,b,c⟩:=zfK.mp (XW.mp d).1;have f:=yw G x (WA.mpr ⟨g,e,b⟩);exact br (h o h1 (S8 ((Jx f).mp c)))
def zmZ {rs:AE}{gs:List AD}(G:Parts.Good (clA rs) (zT rs) gs){c:AA}:c∈gs.flatten↔c∈zI rs/\∃o∈zT rs,nearF rs o c=true:=by
 constructor
 .intro h;obtain⟨o,e,b⟩:=G.from_ c h;have d:=Ja b;exact⟨d,o,e,(Jx d).mpr b⟩
 .rintro⟨d,o,e,hn⟩;have b:=(Jx d).mp hn;obtain⟨g,f,a⟩:=G.cov o e (S8 b);exact WA.mpr ⟨g,f,a c b⟩
def jE (rs:AE)(S:AD):Bool:=(zT rs).all λo=>decide (((Grow.cnt (nearF rs) o S:Nat):Int)=jC rs o)
def YK {rs:AE}{S:AD}:jE rs S=true ↔ ∀o∈zT rs,((Grow.cnt (nearF rs) o S:Nat):Int)=jC rs o:=by
 unfold jE;rw[WK];exact⟨λh o a=>bg (h o a),λh o a=>br (h o a)⟩
def zds (rs:AE):Tally.Inv (jE rs):=λa b e=>by
 rw[WV,YK,YK];have:∀o,Grow.cnt (nearF rs) o a=Grow.cnt (nearF rs) o b:=λo=>(e.filter _).length_eq;constructor
 .intro h o c;rw[<- this o];exact h o c
 .intro h o c;rw[this o];exact h o c
def zm0 {rs:AE}:(jS rs).isEmpty=true ↔ ∀o∈zT rs,clA rs o=[]->jC rs o=0:=by
 rw[List.isEmpty_iff];unfold jS jC;rw[Wg];constructor
 .intro h o a b;have:=h o (XW.mpr ⟨a,by rw[b];rfl⟩);rw[WF,Bool.not_eq_false]at this;rw[bg this];rfl
 .intro h o a;obtain⟨h1,h2⟩:=XW.mp a;have:=h o h1 (List.isEmpty_iff.mp h2);rw[WF,Bool.not_eq_false];exact br (by lia)
def zbf {rs:AE}{S:AD}(d:∀c∈S,c∈zI rs):jE rs S=((jS rs).isEmpty&&Z1 rs S):=by
 have z:∀o,clA rs o=[]->Grow.cnt (nearF rs) o S=0:=λo a=>by
  unfold Grow.cnt;rw[Wb,Wg];intro c b e;have:=(Jx (d c b)).mp e;rw[a]at this;cases this
 rw[WV,WH,YK,zm0,Jy];constructor
 .intro h;refine⟨λo a b=>?_,λo a _=>h o a⟩;rw[<- h o a,z o b];rfl
 .rintro⟨h1,h2⟩ o a;by_cases b:clA rs o=[]
  .rw[z o b,h1 o a b];rfl
  .exact h2 o a b
def zjG {rs:AE}{c o:AA}(a:c∈yc rs)(b:o∈zT rs):nearF rs o c=false:=by
 unfold yc at a;have h:=(XW.mp a).2;rw[WF,Ul,RA]at h;exact Xs.mpr (h o b)
def zdu {rs:AE}{a b:AD}(i:∀c∈b,c∈yc rs):Z1 rs (a++b)=Z1 rs a:=by
 have e:∀o∈zT rs,Grow.cnt (nearF rs) o (a++b)=Grow.cnt (nearF rs) o a:=λo d=>by
  unfold Grow.cnt;rw[WX,XY];have:b.filter (nearF rs o)=[]:=Wg.mpr λc f g=>by
   rw[zjG (i c f) d]at g;cases g
  rw[this];rfl
 rw[WV,Jy,Jy];constructor
 .intro h o d f;rw[<- e o d];exact h o d f
 .intro h o d f;rw[e o d];exact h o d f
def zbg {rs:AE}{c:AA}(h:c∈yc rs):c∈zI rs:=(XW.mp h).1
def xj (rs:AE):(zI rs).Nodup:=qg (Cells.JF _ 0 (codes rs))
def ze0 (rs:AE):(yc rs).Nodup:=(xj rs).sublist W5
section
variable {rs:AE}{gs:List AD}(G:Parts.Good (clA rs) (zT rs) gs)
include G
theorem zbh {c:AA}:c∈yc rs↔c∈zI rs/\c ∉ gs.flatten:=by
 rw[zmZ G];constructor
 .intro h;refine⟨zbg h,?_⟩;rintro⟨_,o,b,a⟩;rw[zjG h b]at a;cases a
 .rintro⟨h1,h2⟩;unfold yc;refine XW.mpr ⟨h1,?_⟩;rw[WF,Ul,RA];intro o b a;exact h2 ⟨h1,o,b,a⟩
theorem zbQ:(zI rs).Perm (gs.flatten++yc rs):=by
 refine(Wl (xj rs) (WL.mpr ⟨G.nd,ze0 rs,λa f b g e=>?_⟩)).mpr λc=>?_
 .subst e;exact((zbh G).mp g).2 f
 .rw[XO,zbh G];constructor
  .intro h;by_cases d:c∈gs.flatten
   .exact .inl d
   .exact .inr ⟨h,d⟩
  .rintro(h | h)
   .exact yw G c h
   .exact h.1
theorem count_is (s:Nat):(if (jS rs).isEmpty=true then Tally.dl (Tally.tl gs.flatten (Tally.j5 (qF rs) gs)) (yc rs).length ((s:Nat):Int) else 0)=((Tally.T (zI rs) (jE rs) s:Nat):Int):=by
 rw[Tally.zfF (zbQ G) (zds rs)];have f:∀a∈Subs.subs gs.flatten,∀b∈Subs.subs (yc rs),jE rs (a++b)=((jS rs).isEmpty&&Tally.j5 (qF rs) gs a):=λa e b i=>by
  have sa:=(Tally.yv e).subset;have l:=(Tally.yv i).subset;rw[zbf λc j=>(XO.mp j).elim (λh=>yw G c (sa h)) λh=>zbg (l h),zdu λc j=>l j,zbP G]
 cases i:(jS rs).isEmpty with
 | true =>
  rw[bw rfl];refine Tally.zpr (λa e b d=>?_) s;rw[f a e b d,i,Rs]
 | false =>
  rw[bq (by decide),Tally.zcG λS g=>?_]
  .rfl
  .rw[Tally.za6]at g;obtain⟨b,d,g⟩:=Uu.mp g;obtain⟨a,e,rfl⟩:=XI.mp g;rw[f a e b d,i,SQ]
theorem zm1 (c:AA):Tally.Inv λS=>jE rs S&&decide (c∈S):=λa b e=>by
 show (jE rs a&&decide (c∈a))=(jE rs b&&decide (c∈b));rw[zds rs a b e,show decide (c∈a)=decide (c∈b) from decide_eq_decide.mpr e.mem_iff]
theorem zqP {c:AA}(f:c∈yc rs)(s:Nat):(if (jS rs).isEmpty=true then Tally.dl (Tally.tl gs.flatten (Tally.j5 (qF rs) gs)) ((yc rs).length-1) (((s:Nat):Int)-1) else 0)=((Tally.T (zI rs) (λS=>jE rs S&&decide (c∈S)) s:Nat):Int):=by
 rw[Tally.zfF (zbQ G) (zm1 G c)];have i:∀a∈Subs.subs gs.flatten,∀b∈Subs.subs (yc rs),(jE rs (a++b)&&decide (c∈a++b))=((jS rs).isEmpty&&(Tally.j5 (qF rs) gs a&&decide (c∈b))):=λa g b l=>by
  have sa:=(Tally.yv g).subset;have m:=(Tally.yv l).subset;have e:decide (c∈a++b)=decide (c∈b):=decide_eq_decide.mpr ⟨λh=>(XO.mp h).elim (λh=>absurd (sa h) ((zbh G).mp f).2) id,λh=>WZ _ h⟩;rw[zbf λc f=>(XO.mp f).elim (λh=>yw G c (sa h)) λh=>zbg (m h),zdu λc f=>m f,zbP G,e,TR]
 cases l:(jS rs).isEmpty with
 | true =>
  rw[bw rfl];refine Tally.zoC f (ze0 rs) (λa g b d=>?_) s;rw[i a g b d,l,Rs];exact congrArg _ (decide_eq_decide.mpr Iff.rfl)
 | false =>
  rw[bq (by decide),Tally.zcG λS j=>?_]
  .rfl
  .rw[Tally.za6]at j;obtain⟨b,d,j⟩:=Uu.mp j;obtain⟨a,g,rfl⟩:=XI.mp j;rw[i a g b d,l,SQ]
end
def zfL (A B:List AD)(g:AD):(A++g::B).flatten.Perm ((A++B).flatten++g):=by
 rw[Ww,Ww,Wz,W2];exact(T8 (l₁:=g) (l₂:=B.flatten)).append_left _
def zjH {rs:AE}{A B:List AD}{g:AD}(G:Parts.Good (clA rs) (zT rs) (A++g::B)){c:AA}(i:c∈g):Pour.Zw (Tally.tl (A++B).flatten (Tally.j5 (qF rs) (A++B))) (Tally.tl g λS=>qF rs g S&&decide (c∈S))=Tally.tl ((A++B).flatten++g) λS=>Tally.j5 (qF rs) (A++B) S&&(qF rs g S&&decide (c∈S)):=by
 have j:=zfL A B g;have o:((A++B).flatten++g).Nodup:=j.nodup_iff.mp G.nd;have n:∀x∈(A++B).flatten++g,x∈zI rs:=λx d=>yw G x (j.mem_iff.mpr d);have f:g∈A++g::B:=by simp
 have e:∀x∈A++B,x∈A++g::B:=λx d=>by
  rcases XO.mp d with h | h
  .exact W1 _ h
  .exact WZ _ (XT _ h)
 have L:=zbe G f;have m:Tally.Loc (zI rs) (λS=>qF rs g S&&decide (c∈S)) g:=by
  refine⟨λa b h=>?_,λa b h=>?_⟩
  .show (qF rs g (a++b)&&decide (c∈a++b))=(qF rs g b&&decide (c∈b));rw[L.l a b h,show decide (c∈a++b)=decide (c∈b) from decide_eq_decide.mpr ⟨λk=>(XO.mp k).elim (λk=>absurd i (h c k).2) id,λk=>WZ _ k⟩]
  .show (qF rs g (a++b)&&decide (c∈a++b))=(qF rs g a&&decide (c∈a));rw[L.r a b h,show decide (c∈a++b)=decide (c∈a) from decide_eq_decide.mpr ⟨λk=>(XO.mp k).elim id λk=>absurd i (h c k).2,λk=>W1 _ k⟩]
 exact Tally.zdf o n (λx d=>zbe G (e x d)) m
def zoN {rs:AE}{A B:List AD}{g:AD}(G:Parts.Good (clA rs) (zT rs) (A++g::B)){c:AA}(f:c∈g)(s:Nat) :
  (if (jS rs).isEmpty=true then Tally.dl (Pour.Zw (Tally.tl (A++B).flatten (Tally.j5 (qF rs) (A++B))) (Tally.tl g λS=>qF rs g S&&decide (c∈S))) (yc rs).length ((s:Nat):Int) else 0)=((Tally.T (zI rs) (λS=>jE rs S&&decide (c∈S)) s:Nat):Int):=by
 have p:=zfL A B g;have r:∀x∈(A++B).flatten++g,x∈zI rs:=λx u=>yw G x (p.mem_iff.mpr u);have n:g∈A++g::B:=by simp
 rw[zjH G f];have hP:(zI rs).Perm ((A++B).flatten++g++yc rs):=(zbQ G).trans (p.append_right _);rw[Tally.zfF hP (zm1 G c)];have j:∀a∈Subs.subs ((A++B).flatten++g),∀b∈Subs.subs (yc rs),(jE rs (a++b)&&decide (c∈a++b))=((jS rs).isEmpty&&(Tally.j5 (qF rs) (A++B) a&&(qF rs g a&&decide (c∈a)))):=λa i b m=>by
  have sa:=(Tally.yv i).subset;have o:=(Tally.yv m).subset;have e:decide (c∈a++b)=decide (c∈a):=decide_eq_decide.mpr ⟨λh=>(XO.mp h).elim id λh=>absurd (WA.mpr ⟨g,n,f⟩) ((zbh G).mp (o h)).2,λh=>W1 _ h⟩;have q:Tally.j5 (qF rs) (A++g::B) a=(Tally.j5 (qF rs) (A++B) a&&qF rs g a):=by
   rw[Tally.zde,Tally.zde];show (_&&(qF rs g a&&Tally.j5 (qF rs) B a))=_;rw[Si (qF rs g a),TR]
  rw[zbf λc f=>(XO.mp f).elim (λh=>r c (sa h)) λh=>zbg (o h),zdu λc f=>o f,<- zbP G,q,e,TR,TR]
 cases m:(jS rs).isEmpty with
 | true =>
  rw[bw rfl];refine Tally.zpr (λa i b d=>?_) s;show (jE rs (a++b)&&decide (c∈a++b))=_;rw[j a i b d,m,Rs]
 | false =>
  rw[bq (by decide),Tally.zcG λS l=>?_]
  .rfl
  .rw[Tally.za6]at l;obtain⟨b,d,l⟩:=Uu.mp l;obtain⟨a,i,rfl⟩:=XI.mp l;rw[j a i b d,m,SQ]
def zqQ (K:XX):Sp:=λf H Q _=>∃(a b:Addr) (c d:List Int),f=[.ref a,.ref b]/\SqL K H a (iL c)/\SqL K H b (iL d)/\1<=c.length/\c.length<=70/\1<=d.length/\d.length<=70/\zk5 c/\zk5 d /\
 ∀(l:Addr) (e:Hp),H l=none->e l=some (.lst (iL (Pour.Zw c d)))->zo H e->Q (.ref l) e
def yW (H:Hp):AF->List (List Int)->Prop:=Xl λv b=>∃a,v=V.ref a/\H a=some (.lst (iL b))
def xo {H c:Hp}(s:zo H c){d:AF}{b:List (List Int)}(f:yW H d b):yW c d b:=by
 induction f with
 | nil=>exact .nil
 | cons q _ g =>
  obtain⟨a,e,h⟩:=q;exact .cons ⟨a,e,s _ _ h⟩ g
def Q5 {H:Hp}{b:AF}{a:List (List Int)}(h:yW H b a):b.length=a.length:=Paired.length h
def zm2 {H:Hp}{c:AF}{b:List (List Int)}{i:Nat}{v:V}(h:yW H c b)(e:c[i]?=some v):∃xs a,b[i]?=some xs/\v=V.ref a/\H a=some (.lst (iL xs)):=by
 obtain⟨S,h1,a,h2⟩:=ZJ h e;exact⟨S,a,h1,h2⟩
structure ziB (xss:List (List Int)):Prop where
 one:∀xs∈xss,1<=xs.length/\xs.length<=70/\zk5 xs
 acc:∀i,1<=((xss.take i).foldl Pour.Zw [1]).length/\((xss.take i).foldl Pour.Zw [1]).length<=70/\zk5 ((xss.take i).foldl Pour.Zw [1])
def zqR:Sp:=λf H Q _=>∃(c:Addr) (e:AF) (a:List (List Int)),f=[.ref c]/\H c=some (.lst e)/\yW H e a/\ziB a /\
 ∀(d:Addr) (b:Hp),H d=none->b d=some (.lst (iL (a.foldl Pour.Zw [1])))->zo H b->Q (.ref d) b
def Small (rs:AE):Prop:=∀a,Parts.Good (clA rs) (zT rs) a->∀g∈a,g.length<=14
def zbi {rs:AE}(h:(zI rs).length<=14):Small rs:=λc G g a=>by
 have:=Parts.j4 (qg (G.srt g a)) λx b=>yw G x (WA.mpr ⟨g,a,b⟩);lia
def tls (rs:AE)(gs:List AD):List (List Int):=gs.map λg=>Tally.tl g (qF rs g)
def zm3 {rs:AE}(R:Rows bd.cps.toList rs){gs:List AD}(G:Parts.Good (clA rs) (zT rs) gs):ziB (tls rs gs):=by
 have a:=Qp G R;refine⟨λh f=>?_,λi=>?_⟩
 .obtain⟨g,d,rfl⟩:=XI.mp f;have c:g.length<=64:=X6 (Vx (VF d)) a;rw[Tally.jV];exact⟨by lia,by lia,YJ c⟩
 .unfold tls;rw[<- Sl,zk4 G i];have b:(gs.take i).flatten.length<=64:=by
   have e:gs.flatten=(gs.take i).flatten++(gs.drop i).flatten:=by rw[<- Ww,W7]
   rw[e,XY]at a;lia
  rw[Tally.jV];exact⟨by lia,by lia,YJ b⟩
def zqS:Sp:=λe H Q _=>∃(p l:Addr) (a:AE) (n:Int),e=[.ref p]/\qf H p l a n/\Rows bd.cps.toList a/\Small a /\
 ∀(d:Addr) (b:List AD) (c:Hp),H d=none->Parts.Good (clA a) (zT a) b->Up2 (heads b)->c d=some (.lst (iL (Tally.tl b.flatten (Tally.j5 (qF a) b))))->zo H c->Q (.ref d) c
def JI:zB ["one","other","counts","i","many","j","more"] ["one","other"] (zp za7):=bh
def ze1 (T:Txt mg)(D:zm K mg "poured" za7 ["one","other"] f fd):zU P w K mg base CX0 1 f fd ["one","other"] (zqQ K):=by
 refine D.F.ok JI (λvs H Q E h=>?_) (λaf A ae s H vs Q E hr h=>?_)
 .revert h;refine fL λa b xs m z0 _=>?_;subst z0;rfl
 .revert h;refine fS λa b xs m z0 U Y x1=>fJ λx2 y1 y2 bx bY q=>?_;subst z0;refine⟨_,(@ze _ _ _ _ _ (@qu _ _ 2 _ _ _ _ JI.nd rfl (VL rfl) (@zC _ _ _ _ _ _ _ _ zlG (@zW _ _ _ _ (@za _ _ _ _ _ zf zd rfl)) (zC Zi (zC Jq (pb1 zH T.qC Xg (pvS 0)) (pb1 zH T.qC Xg (pvS 1))) zf)) (by rfl) (.inr rfl)) (ze (qt Xe rfl (JP (by rfl) T.ju (za (pvS 0) zd)) (yX rfl (zM (pgq 3 JI.nd) (zM (pgq 4 JI.nd) jw))) (zg (qt Xe rfl (JP (by rfl) T.ju (za (pvS 1) zd)) (yX rfl (zM (pgq 5 JI.nd) (zM (pgq 6 JI.nd) jw))) (zg (zi7 (pvS 2) (zC Jq (pvS 3) (pvS 5)) zgp (zC Ym (pvS 4) (pvS 6)) zlz set_list))))) (zg (zw (pvS 2))))),?_⟩;(try dsimp only[cxK,cxP,cxW]);refine⟨sz_1,λl0 aa=>?_⟩;have s0:zo H (upd H l0 (.lst [.int 0])):=zc aa;refine⟨_,rfl,a,_,rfl,.inl (s0.seq U),_,rfl,b,_,rfl,.inl (s0.seq Y),_,_,rfl,rfl,_,_,rfl,rfl,l0,_,_,rfl,rfl,zb,?_,?_,?_,λp hp=>?_⟩
  .rw[ZB,ZB];lia
  .rw[ZB,ZB];lia
  .rw[ZB,ZB];exact X6 (show 1*((xs.length:Int)+(m.length:Int)-1).toNat<=140 by lia) (by decide)
  have en:(((iL xs).length:Nat)+((iL m).length:Nat)-1:Int).toNat=xs.length+m.length-1:=by
   rw[ZB,ZB];lia
  rw[en,zg9,<- Pour.zmy];have s1:zo H (upd (upd H l0 (.lst [.int 0])) p (.lst (iL (Pour.st xs m 0 0)))):=s0.trans (zc hp);have I:H p=none:=s0.free hp;refine⟨_,rfl,a,rfl,⟨_,s1.seq U⟩,?_⟩;refine JD (K:=K) (l:=a) (xs:=iL xs) (λi n r=>∃v3 v4 u B,n=[some (.ref a),some (.ref b),some (.ref p),v3,v4,u,B]/\zo H r/\r p=some (.lst (iL (Pour.st xs m i 0))))
   (dG (dP rfl s1 zb)) (λi n r _ ⟨_,_,_,_,_,s,_⟩=>s.seq U) ?_ ?_
  .refine λi v t n M hv ht=>fQ λv3 v4 u B=>fB λz0 N d=>?_;subst z0;refine fq (λx hx z0=>?_) (ints_get hv);subst z0;have st:zo M (upd M t (.tup [.int (i:Nat),.int x])):=zc ht;refine eW t rfl (SqT.of zb) rfl rfl rfl rfl ?_;refine⟨_,rfl,b,rfl,⟨_,(N.trans st).seq Y⟩,?_⟩;refine JD (K:=K) (l:=b) (xs:=iL m) (λj n r=>∃u B,n=[some (.ref a),some (.ref b),some (.ref p),some (.int (i:Nat)),some (.int x),u,B]/\zo H r/\r p=some (.lst (iL (Pour.st xs m i j))))
    (dP rfl (N.trans st) (st _ _ d)) (λj n r _ ⟨_,_,_,s,_⟩=>s.seq Y) ?_ ?_
   .refine λj v t2 n O ac ab=>fH λu B z0 s3 g=>?_;subst z0;refine fq (λy hy z0=>?_) (ints_get ac);subst z0;have L:zo O (upd O t2 (.tup [.int (j:Nat),.int y])):=zc ab;have J:=L _ _ g;have hi:i<xs.length:=(X4.mp hx).1;have hj:j<m.length:=(X4.mp hy).1;have G:((i:Int)+(j:Int)).toNat=i+j:=by lia
    refine eW t2 rfl (SqT.of zb) rfl rfl rfl rfl ?_;refine⟨_,rfl,_,rfl,_,rfl,_,_,rfl,rfl,p,_,_,_,rfl,rfl,SqL.of J,Yn (by lia) (by rw[G];exact zjE (Pour.zil (by lia))),?_⟩;refine⟨_,rfl,_,rfl,_,_,rfl,rfl,zrE (bx _ (X8 hx)) (bY _ (X8 hy)),_,_,rfl,rfl,p,_,_,_,rfl,rfl,J,zmX (by lia) (by rw[ZB,Pour.zik];lia),?_⟩;refine dP rfl (λc o e=>?_) ?_
    .have hc:c≠p:=λz=>by
      subst z;rw[I]at e;cases e
     rw[zj hc];exact L _ _ (s3 _ _ e)
    .rw[zb,G,<- Pour.zox hx hy];show some (HO.lst ((TW V.int _).set _ (V.int _)))=_;rw[<- R0]
   .refine λn O=>fH λu B z0 s3 g=>?_;subst z0;rw[ZB,Pour.zqE]at g;exact dG (dP rfl s3 g)
  .refine λn M=>fQ λv3 v4 u B=>fB λz0 N d=>?_;subst z0;rw[ZB,Pour.zqF]at d;exact⟨_,rfl,q p M I d N⟩
def xR:zB ["lists","counts","others"] ["lists"] (zp Jt):=bh
def Zz (T:Txt mg)(Z:Prog K mg)(D:zm K mg "all_poured" Jt ["lists"] f fd):zU P w K mg base CX0 2 f fd ["lists"] zqR:=by
 obtain⟨ab,aa,B⟩:=Z.poured;refine D.F.ok xR (λvs H Q E h=>?_) (λN A u s H vs Q E U h=>?_)
 .revert h;refine fX λm L l z0 _=>?_;subst z0;rfl
 .revert h;refine fC λm L l z0 g J ok q=>?_;subst z0;refine⟨_,(@ze _ _ _ _ _ (@qu _ _ 1 _ _ _ _ xR.nd rfl (VL rfl) (@zW _ _ _ _ (@za _ _ _ _ _ zf zd rfl)) (by rfl) (.inr rfl)) (ze (qt Xe rfl (zG (pvS 0)) (pgq 2 xR.nd) (zg (qA 1 xR.nd (pc0 (ze1 T B) U B (za (pvS 1) (za (pvS 2) zd)))))) (zg (zw (pvS 1))))),?_⟩;(try dsimp only[cxK,cxP,cxW]);refine⟨sz_1,λG e=>?_⟩;have s0:zo H (upd H G (.lst [.int 1])):=zc e;refine⟨_,rfl,m,rfl,⟨_,SqL.of (s0 _ _ g)⟩,?_⟩;refine jG (K:=K) (a:=m) (xs:=L) (λi n o=>∃(c:Addr) (x:Option V),n=[some (.ref m),some (.ref c),x]/\zo H o/\H c=none/\o c=some (.lst (iL ((l.take i).foldl Pour.Zw [1]))))
   ⟨G,_,rfl,s0,e,zb⟩ (λi n o _ ⟨_,_,_,y,_⟩=>SqL.of (y _ _ g)) ?_ ?_
  .refine λi v n z Y=>fm λc x z0 s1 I b=>?_;subst z0;refine fH (λxs M j z0 p=>?_) (zm2 J Y);subst z0;obtain⟨o1,o2,o3⟩:=ok.one xs (X8 j);obtain⟨p1,p2,p3⟩:=ok.acc i;refine⟨_,rfl,_,rfl,c,M,_,xs,rfl,SqL.of b,SqL.of (s1 _ _ p),p1,p2,o1,o2,p3,o3,λd H2 O r s2=>?_⟩;refine e9 d rfl (s1.trans s2) (s1.free O) ?_;rw[r,Xx,j,T2];rfl
  .refine λn z=>fm λc x z0 s1 I b=>?_;subst z0;rw[Q5 J,XJ]at b;exact⟨_,rfl,q c z I b s1⟩
def zdv:zB ["board"] ["board"] (zp xN):=bh
def zdw (T:Txt mg)(Z:Prog K mg)(D:zm K mg "near_counts" xN ["board"] f fd):zU P w K mg base CX0 6 f fd ["board"] zqS:=by
 obtain⟨Qs,Z3,zJ⟩:=Z.around;obtain⟨JJ,xq,zq⟩:=Z.sign_at;obtain⟨xr,yH,zv⟩:=Z.cells_of;obtain⟨Jz,xT,zu⟩:=Z.open_cells;obtain⟨Zq,JA,zO⟩:=Z.number_at;obtain⟨ak,ah,qZ⟩:=Z.numbers_of;obtain⟨an,am,jX⟩:=Z.needs_at;obtain⟨ar,ao,yG⟩:=Z.may_fit;obtain⟨aj,ag,qT⟩:=Z.part_layings;obtain⟨au,aq,jk⟩:=Z.counted;obtain⟨az,aw,U⟩:=Z.part_counts;obtain⟨jL,jn,zz⟩:=Z.closed_around;obtain⟨ax,av,ZZ⟩:=Z.joined;obtain⟨a1,ay,Y⟩:=Z.parts;obtain⟨al,ai,jF⟩:=Z.all_poured;refine D.F.ok zdv (λvs H Q E h=>?_) (λae A ac s H vs Q E hr h=>?_)
 .revert h;refine fL λp l r n z0 _=>?_;subst z0;rfl
 .revert h;refine fS λp l r n z0 b R sm q=>?_;subst z0;refine⟨_,(zg (zw (pc0 (Zz T Z jF) hr jF (za (pcm ["part","board"] [none,some 0] cR (zG (pc0 (zg2 T Y zJ zq zv zu zz ZZ) hr Y (za (pvS 0) zd))) (pgN 0) qa (pc0 (zdr T U zJ zq zv zu zO qZ jX yG qT jk) hr U (za (pvS 1) (za (pvS 0) zd)))) zd)))),?_⟩;(try dsimp only[cxK,cxP,cxW]);refine⟨_,rfl,p,l,r,n,rfl,b,R,λd ws m H1 hd J hG _ _ G up s1=>⟨d,rfl,⟨_,SqL.of J⟩,λz hz=>?_⟩⟩;have af:m.length<=64:=X6 (Parts.Qk G.ne) (Qp G R);refine qb (K:=K) (a:=d) (xs:=ws) (λj x H'=>∃(u0:Option V) (B:AF),x=[u0,some (.ref p)]/\zo H1 H'/\H' z=some (.lst B)/\(∀v∈B,∀a,v=V.ref a->a≠z)/\yW H' B (tls r (m.take j)))
   (d9 [] rfl (zc hz) zb (λ_ h=>nomatch h) (.nil)) (λj x H' _ ⟨_,_,_,y,_⟩=>SqL.of (y _ _ J)) ?_ ?_
  .refine λj v x H2 hv=>fD λu0 B z0 N u L i=>?_;subst z0;refine fq (λg hg=>fH λga ug z0 ab aa=>?_) (yC.get (hG.mono N) hv);subst z0;have gm:=X8 hg;have il:=(X4.mp hg).1;unfold xU;refine YH ?_;refine⟨_,rfl,_,rfl,p,l,ga,r,n,ug,g,rfl,(b.mono s1).mono N,R,ab,aa,qg (G.srt g gm),sm m G g gm,λe H3 he c O=>?_⟩;rw[zeZ]at c;have ez:e≠z:=λy=>by
    subst y;rw[u]at he;cases he
   refine dN (O _ _ u) ?_ (d9 (B++[.ref e]) rfl (λb o e'=>?_) zb (λv hv a ea=>?_) ?_)
   .rw[Q5 i];unfold tls;rw[ZB,XN];exact XM (show _<=64 by lia) (by decide)
   .rw[zj (zh e' hz)];exact O _ _ (N _ _ e')
   .rcases XO.mp hv with hv | hv
    .exact L v hv a ea
    .have:v=V.ref e:=by simpa using hv
     rw[this]at ea;cases ea;exact ez
   .have t1:tls r (m.take (j+1))=tls r (m.take j)++[Tally.tl g (qF r g)]:=by
     unfold tls;rw[Xx,hg,Xz];rfl
    rw[t1];have into:∀{us:AF} {I:List (List Int)},yW H3 us I->(∀v∈us,∀a,v=V.ref a->a≠z)->yW (upd H3 z (.lst (B++[.ref e]))) us I:=by
     intro us I h;induction h with
     | nil=>exact λ_=>.nil
     | cons h t ih =>
      intro L;obtain⟨a,rfl,ha⟩:=h;exact .cons ⟨a,rfl,by rw[zj (L _ XQ a rfl)];exact ha⟩ (ih λv hv=>L v (XT _ hv))
    exact Paired.snoc (into (xo O i) L) ⟨e,rfl,by rw[zj ez];exact c⟩
  refine λx H2=>fD λu0 B z0 N u _ i=>?_;subst z0;rw[hG.length,XJ]at i;refine dW z B (tls r m) rfl u i (zm3 R G) (λe H3 he c O=>?_);have M:=s1.trans N;rw[show (tls r m).foldl Pour.Zw [1]=Tally.tl m.flatten (Tally.j5 (qF r) m) from zhb G]at c;exact q e m H3 (M.free he) G up c (M.trans O)
def chV (n k:Int):Int:=if 0<=k/\k<=n then ((Choose.ch n.toNat k.toNat:Nat):Int) else 0
def zoP (m:Nat)(k:Int):chV (m:Nat) k=Tally.chZ m k:=by
 unfold chV Tally.chZ;rw[V1];by_cases h0:k<0
 .rw[bq (by lia),bw h0]
 .rw[bq h0];by_cases h1:k<=(m:Int)
  .rw[bw ⟨by lia,h1⟩]
  .rw[bq (by lia),Choose.zbH m k.toNat (by lia)];rfl
def zoQ {n k:Int}(h:n<=64):(chV n k).natAbs<2^8000:=by
 have h1:(2:Nat)^64<2^8000:=OZ (by decide) (by decide);have a:(0:Nat)<2^8000:=XM (WY _) h1;unfold chV;split
 .rw[S5];exact XM (X6 (Choose.zrV _ _) (UK (by decide) (show n.toNat<=64 by lia))) h1
 .exact a
def dlV (xs:List Int)(m st:Int):Int:=Pour.S (λk=>Pour.F xs k*chV m (st-(k:Nat))) xs.length
def zfO (xs:List Int)(m:Nat)(st:Int):dlV xs (m:Nat) st=Tally.dl xs m st:=by
 unfold dlV Tally.dl;exact Pour.Zj _ λi _=>by rw[zoP]
theorem zpw (h:Nat->Int):∀n,((Wm n).map h).sum=Pour.S h n
 | 0=>rfl
 | n+1=>by
  rw[List.range_succ,Xz,List.sum_append,zpw h n];show _+(h n+0)=Pour.S h n+h n;lia
def zsN:Sp:=λa H Q _=>∃(n k:Int),a=[.int n,.int k]/\n<=64/\Q (.int (chV n k)) H
def zoR:Sp:=λd H Q _=>∃(c:Addr) (a:List Int) (m st:Int),d=[.ref c,.int m,.int st]/\H c=some (.lst (iL a))/\zk5 a/\a.length<=150/\m<=64/\∀b,zo H b->Q (.int (dlV a m st)) b
def zav (rs:AE)(n:Int):Int:=((Tally.T (zI rs) (jE rs) n.toNat:Nat):Int)
def zfP:Sp:=λc H Q _=>∃(p l:Addr) (a:AE) (n:Int),c=[.ref p]/\qf H p l a n/\Rows bd.cps.toList a/\Small a/\0<=n/\∀b,zo H b->Q (.int (zav a n)) b
def YL:zB ["n","k","found","step"] ["n","k"] (zp QT):=bh
def ziF (T:Txt mg)(D:zm K mg "choices" QT ["n","k"] f fd):zU P w K mg base CX0 1 f fd ["n","k"] zsN:=by
 refine D.F.ok YL (λo H Q E h=>?_) (λj A d s H o Q E r h=>?_)
 .obtain⟨n,k,rfl,_⟩:=h;rfl
 .revert h;refine fH λn k z0 u q=>?_;subst z0;refine⟨_,(ze (qy (zak (zgg zfE zfE zf (pvS 1) (pvS 0))) (@zg _ _ _ (@zw _ _ _ _ zf)) zY) (@ze _ _ _ _ _ (@qu _ _ 2 _ _ _ _ YL.nd rfl (VL rfl) zf (by rfl) (.inr rfl)) (ze (qt Xe rfl (prg T.yT (pvS 1)) (pgq 3 YL.nd) (zg (qA 2 YL.nd (zC zkO (zC Ym (pvS 2) (zC Zi (pvS 0) (pvS 3))) (zC Jq (pvS 3) zf))))) (zg (zw (pvS 2)))))),?_⟩;(try dsimp only[cxK,cxP,cxW]);refine⟨_,rfl,_,_,rfl,rfl,_,rfl,?_⟩;unfold chV at q;refine zcm (λc=>?_) (λc=>?_)
  .have b:(0:Int)<=k:=bg c;refine⟨_,rfl,_,_,rfl,rfl,_,rfl,?_⟩;by_cases c:k<=n
   .rw[bw ⟨b,c⟩]at q;rw[br c];refine ZG ?_;refine⟨_,rfl,k,rfl,by lia,by lia,?_⟩;refine jj (lo:=0) (n:=k.toNat) (λi g a=>∃v,g=[some (.int n),some (.int k),some (.int (Choose.ch n.toNat i)),v]/\a=H) ⟨_,by rw[Choose.QS];rfl,rfl⟩ ?_ ?_
    .rintro i g a p ⟨v,rfl,rfl⟩;refine⟨_,rfl,_,rfl,_,rfl,_,_,rfl,rfl,_,_,rfl,rfl,zrD (by lia) (by lia),_,rfl,_,_,rfl,rfl,_,_,rfl,rfl,JM.small (by lia) (by lia),?_⟩;refine⟨some (.int (0+(i:Int))),?_,rfl⟩;have e:=Choose.zoy (n:=n.toNat) (k:=i) (by lia);have l:((n.toNat:Nat):Int)=n:=UD (by lia);rw[l]at e;have m:(Choose.ch n.toNat i:Int)*(n-(0+(i:Int)))/(0+(i:Int)+1)=Choose.ch n.toNat (i+1):=by
      rw[VQ];exact e
     show [_,_,some (V.int ((Choose.ch n.toNat i:Int)*(n-(0+(i:Int)))/(0+(i:Int)+1))),_]=_;rw[m]
    .rintro g a ⟨v,rfl,rfl⟩;exact⟨_,rfl,q⟩
   .rw[bq (λh=>c h.2)]at q;rw[bf c];exact zan q
  .have b:¬ (0:Int)<=k:=λz=>c (br z);rw[bq (λh=>b h.1)]at q;exact⟨_,rfl,zan q⟩
def zm8:zB ["counts","cells","stones"] ["counts","cells","stones"] (zp zcJ):=bh
def zdy (T:Txt mg)(Z:Prog K mg)(D:zm K mg "dealt" zcJ ["counts","cells","stones"] f fd):zU P w K mg base CX0 2 f fd ["counts","cells","stones"] zoR:=by
 obtain⟨ab,aa,e⟩:=Z.choices;refine D.F.ok zm8 (λvs H Q E h=>?_) (λN A r s H vs Q E O h=>?_)
 .revert h;refine fL λc xs m st z0 _=>?_;subst z0;rfl
 .revert h;refine fW λc xs m st z0 v M xl G q=>?_;subst z0;refine⟨_,(zg (zw (pb1 (zgr rfl) T.zpt Pp (pcm ["k","many","cells","stones"] [none,none,some 1,some 2] cR (JP (by rfl) T.ju (za (pvS 0) zd)) (zfp (n:=2) (K:=K) (by rfl) rfl (zM (pgN 0) (zM (pgN 1) jw))) qa (zC Ym (pvS 1) (pc0 (ziF T e) O e (za (pvS 2) (za (zC Zi (pvS 3) (pvS 0)) zd)))))))),?_⟩;(try dsimp only[cxK,cxP,cxW]);refine⟨_,rfl,c,rfl,⟨_,SqL.of v⟩,λz B=>?_⟩;refine zhX (K:=K) (a:=c) (xs:=iL xs) (λi g j=>(∃J u1,g=[J,u1,some (.int m),some (.int st)])/\zo H j/\j z=some (.lst (iL ((Wm i).map λk=>Pour.F xs k*chV m (st-(k:Nat)))))) ⟨⟨_,_,rfl⟩,zc B,zb⟩ (λi g j _ ⟨_,d,_⟩=>SqL.of (d _ _ v)) ?_ ?_
  .rintro i x Y g L U l ⟨⟨J,u1,rfl⟩,d,b⟩;obtain⟨y,p,rfl⟩:=ints_get U;have il:=(X4.mp p).1;have I:=zc (o:=.tup [.int ((i:Nat):Int),.int y]) l;refine eW Y rfl (SqT.of zb) rfl rfl rfl rfl ?_;unfold znX;refine zan ⟨_,rfl,_,rfl,_,rfl,_,rfl,_,_,rfl,rfl,m,_,rfl,G,_,_,rfl,rfl,zrE (M y (X8 p)) (zoQ G),_,I _ _ b,?_,⟨_,_,rfl⟩,λb' o u=>?_,?_⟩
   .rw[ZB,ZB,Wn];exact Xk (show i<150 by lia) (by decide)
   .rw[zj (zh u B)];exact I _ _ (d _ _ u)
   .rw[zb,List.range_succ,Xz];show _=some (HO.lst (iL (_++[Pour.F xs i*chV m (st-(i:Nat))])));rw[zoJ,Pour.zov p]
  .rintro g L ⟨_,d,b⟩;refine⟨z,_,rfl,SqL.of b,?_⟩;rw[ZB,zpw];exact q _ d
def zhd:zB ["board","near"] ["board"] (zp zcI):=bh
def zhe (T:Txt mg)(Z:Prog K mg)(D:zm K mg "count" zcI ["board"] f fd):zU P w K mg base CX0 7 f fd ["board"] zfP:=by
 obtain⟨Qs,Z3,zJ⟩:=Z.around;obtain⟨JJ,xq,zq⟩:=Z.sign_at;obtain⟨xr,yH,zv⟩:=Z.cells_of;obtain⟨ah,af,qR⟩:=Z.closed;obtain⟨Jz,xT,zu⟩:=Z.open_cells;obtain⟨Zq,JA,zO⟩:=Z.number_at;obtain⟨jL,jn,zz⟩:=Z.closed_around;obtain⟨ao,an,j⟩:=Z.far;obtain⟨ai,ag,Y⟩:=Z.bare_wrong;obtain⟨ak,aj,i⟩:=Z.near_counts;obtain⟨am,al,L⟩:=Z.dealt;refine D.F.ok zhd (λvs H Q E h=>?_) (λaa A y s H vs Q E g h=>?_)
 .revert h;refine fL λp l a n z0 _=>?_;subst z0;rfl
 .revert h;refine fW λp l a n z0 b R sm n0 q=>?_;subst z0;refine⟨_,(ze (qA 1 zhd.nd (pc0 (zdw T Z i) g i (za (pvS 0) zd))) (ze (qy (z9 (jy g.units) (pc0 (zae T Y zJ zq zv zz zu zO) g Y (za (pvS 0) zd)) (@zW _ _ _ _ zd) (zP _)) (@zg _ _ _ (@zw _ _ _ _ zf)) zY) (zg (zw (pc0 (zdy T Z L) g L (za (pvS 1) (za (pb1 zH T.qC Xg (pc0 (zmK T j zJ zq zv qR zu) g j (za (pvS 0) zd))) (za (zF zQ (pvS 0) zf (λ_ _=>rfl)) zd)))))))),?_⟩;(try dsimp only[cxK,cxP,cxW]);refine⟨_,rfl,p,l,a,n,rfl,b,R,sm,λd1 gs H1 ac G up I s1=>?_⟩;refine⟨_,rfl,p,l,a,n,rfl,b.mono s1,R,λd2 w2 H2 ae J u U=>⟨yR,λe he=>?_⟩⟩;have m:=zc (o:=.lst []) he;have O:=count_is G n.toNat;rw[UD n0]at O;unfold zav at q;rw[<- O]at q;refine dY (.list ((jS a).map zk)) (.list []) (.lst (SqL.of (m _ _ J)) (zx.rdv (N:=λ_=>True) (Cel.rdn (Cel.mono m u)))) (.lst (SqL.of zb) .nil) (YE _ []) ⟨_,rfl,?_⟩;have ee:(if true=true then !PyData.eqv (.list ((jS a).map zk)) (.list []) else Xa (.list ((jS a).map zk)) (.list []))=!(jS a).isEmpty:=by
   show (!PyData.eqv _ _)=_;rw[eq_nil]
  rw[ee];have c:=(s1.trans U).trans m;have d:=m _ _ (U _ _ I);generalize upd H2 e (.lst [])=H3 at *
  cases hb:(jS a).isEmpty with
  | false =>
   rw[hb,bq XS]at q;exact zan (q _ c)
  | true =>
   rw[hb,bw rfl]at q;refine ZG ?_;have M:=b.mono c;refine⟨_,rfl,_,rfl,p,l,a,n,rfl,M,R,λd4 B H4 _ x v z=>⟨d4,_,rfl,.inl (SqL.of x),?_⟩⟩;have hl:=v.length;have ab:(yc a).length<=64:=X6 (W6 _ _) (qL (p:=x8) R);have r:=Qp G R;refine⟨_,rfl,p,_,1,_,rfl,rfl,SqT.of (M.mono z).tp,rfl,d1,_,(B.length:Nat),n,rfl,z _ _ d,YJ r,by rw[Tally.jV];lia,by lia,λH' s'=>?_⟩;rw[hl,zfO];exact q _ ((c.trans z).trans s')
def zea:zB ["found","greatest","cell"] ["found","greatest","cell"] (zp Js):=bh
def zeb {f1:Addr}{M:XD}(T:Txt mg)(D:zm K mg "counted_at" Js ["found","greatest","cell"] f fd)(jk:zm K mg "counted" JH ["found","greatest"] f1 M):zU P w K mg base CX0 2 f fd ["found","greatest","cell"] zoK:=by
 refine D.F.ok zea (λvs H Q E h=>?_) (λac A ab s H vs Q E hr h=>?_)
 .revert h;refine fZ λL ca us x N g c z0 _=>?_;subst z0;rfl
 .revert h;refine gb λL ca us x N g c z0 r hL hk=>fE λO kl U q=>?_;subst z0;refine⟨_,(zg (zw (pc0 (zau T jk) hr jk (za (pcm ["laying","cell"] [none,some 2] cR (zG (pvS 0)) (pgN 0) (qk (z9 (qI (K:=K) (by rfl) hr.units) (pvS 1) (pvS 0) (by rfl))) (pvS 0)) (za (pvS 1) zd))))),?_⟩;(try dsimp only[cxK,cxP,cxW]);refine⟨_,rfl,L,rfl,⟨_,SqL.of r⟩,λz hz=>?_⟩;refine qb (K:=K) (a:=L) (xs:=us) (λj n B=>∃(u0:Option V) (m:AF),n=[u0,some (.ref ca)]/\zo H B/\B z=some (.lst m)/\jT (λa=>a≠z) B m ((x.take j).filter (zco c)))
   (eF [] rfl (zc hz) zb (.nil)) (λj n B _ ⟨_,_,_,y,_⟩=>SqL.of (y _ _ r)) ?_ ?_
  .refine λj v n H1 hv=>fm λu0 m z0 s1 l i=>?_;subst z0;refine fC (λk J wa u z0 _ p t1=>?_) (zbd hL hv);subst z0;have jl:j<x.length:=(X4.mp u).1;have G:(x.take (j+1)).filter (zco c)=(x.take j).filter (zco c)++if zco c k=true then [k] else []:=by
    rw[Xx,u,WX];congr 1;show N7 _ [k]=_;rw[WE];split<;>rfl
   refine⟨_,rfl,_,rfl,zk c,k.map pD,.tup (SqT.of (s1 _ _ U)) (.cons (.int _) (.cons (.int _) .nil)),.lst (SqL.of (s1 _ _ p)) (zmQ (Z0 s1 t1)),rfl,zmR _,(by show 1<=60;decide),_,rfl,?_⟩;have ei:(if false=true then !(k.map pD).any (λz=>Xa z (zk c)) else (k.map pD).any λz=>Xa z (zk c))=zco c k:=zqN k c;rw[ei];by_cases I:zco c k=true
   .rw[bw I]at G;refine jb I ?_;have yl:m.length<=16384:=by
     rw[jO i];refine X6 (W6 _ _) ?_;rw[XN];lia
    refine⟨_,rfl,m,l,XM yl (by decide),_,m++[.ref J],rfl,λb o e=>?_,zb,?_⟩
    .rw[zj (zh e hz)];exact s1 _ _ e
    .rw[G];have nz:J≠z:=zh p hz;exact Q2 (J0 l (λ_ h=>h) i) (.cons ⟨J,wa,rfl,nz,by rw[zj nz];exact s1 _ _ p,Q0 l (Z0 s1 t1)⟩ .nil)
   .rw[bq I,Xf]at G;refine qW (Xs.mpr I) ?_;exact eF m rfl s1 l (by rw[G];exact i)
  refine λn H1=>fm λu0 m z0 s1 l i=>?_;subst z0;rw[jO hL,XJ]at i;refine⟨_,rfl,z,m,_,_,g,rfl,l,i,λk aa=>hk k (XW.mp aa).1,O,λd H2 hd Y s2=>?_⟩;exact q d H2 (s1.free hd) Y (s1.trans s2)
abbrev KV1:=List (List Key×V)
def je (c:AA):List Key:=[.inl ((c.1:Nat):Int),.inl ((c.2:Nat):Int)]
def zhg {c d:AA}(h:je c=je d):c=d:=by
 unfold je at h;obtain⟨a,b⟩:=c;obtain⟨x,y⟩:=d;simp only[List.cons.injEq,Sum.inl.injEq,and_true]at h;obtain⟨h1,h2⟩:=h;have e:a=x:=by lia
 have f:b=y:=by lia
 rw[e,f]
def Jc (rs:AE)(n:Int)(c:AA):Int:=((Tally.T (zI rs) (λS=>jE rs S&&decide (c∈S)) n.toNat:Nat):Int)
def ziG {rs:AE}{n:Int}{c:AA}(h:(jS rs).isEmpty=false):Jc rs n c=0:=by
 unfold Jc;rw[Tally.zcG λS a=>?_]
 .rfl
 .rw[zbf λc b=>(Tally.yv a).subset b,h];rfl
def zoT (c:AA)(q:AD):zco c (toL q)=decide (c∈q):=by
 unfold zco toL;rw[Ul,WV,WG,bu];constructor
 .rintro⟨x,hx,h⟩;have f:toI x=toI c:=bg h;have:x=c:=by
   unfold toI at f;obtain⟨a,b⟩:=x;obtain⟨d,e⟩:=c;simp only[Prod.mk.injEq]at f;have g:a=d:=by lia
   have i:b=e:=by lia
   rw[g,i]
  rw[<- this];exact hx
 .intro h;exact⟨c,h,br rfl⟩
def zfR (rs:AE)(g:AD)(c:AA):Cnt.Jd g.length ((YI rs g).filter (zco c))=Tally.tl g λS=>qF rs g S&&decide (c∈S):=by
 unfold YI;rw[Pz,Tally.zgV g.length toL (λk=>ZB _),U0];have e:(λa=>(zco c∘toL) a&&Grow.fits (nearF rs) (jC rs) (Jw rs g) g a)=λS=>qF rs g S&&decide (c∈S):=by
  funext S;show (zco c (toL S)&&qF rs g S)=_;rw[zoT,Si]
 rw[e];exact Tally.zjx g _
def Qt {A B:List AD}(h:A.Sublist B):A.flatten.Sublist B.flatten:=by
 induction h with
 | slnil=>exact List.Sublist.refl _
 | cons a _ b=>rw[Wz];exact List.Sublist.trans b (RE _ _)
 | cons_cons a _ b=>rw[Wz,Wz];exact List.Sublist.append (List.Sublist.refl _) b
def zjI {rs:AE}{gs A:List AD}(G:Parts.Good (clA rs) (zT rs) gs)(h:A.Sublist gs):(tls rs A).foldl Pour.Zw [1]=Tally.tl A.flatten (Tally.j5 (qF rs) A) :=
 Tally.zio (G.nd.sublist (Qt h)) (λc a=>yw G c ((Qt h).subset a)) λg b=>zbe G (h.subset b)
def zqV {rs:AE}(R:Rows bd.cps.toList rs){gs A:List AD}(G:Parts.Good (clA rs) (zT rs) gs)(h:A.Sublist gs):ziB (tls rs A):=by
 have a:=Qp G R;refine⟨λj f=>?_,λi=>?_⟩
 .obtain⟨g,d,rfl⟩:=XI.mp f;have c:g.length<=64:=X6 (Vx (VF (h.subset d))) a;rw[Tally.jV];exact⟨by lia,by lia,YJ c⟩
 .have h2:=(T4 i A).trans h;have e:(tls rs A).take i=tls rs (A.take i):=by
   unfold tls;rw[Sl]
  have b:(A.take i).flatten.length<=64:=X6 (Qt h2).length_le a;rw[e,zjI G h2,Tally.jV];exact⟨by lia,by lia,YJ b⟩
def znc (rs:AE)(z:Addr)(H:Hp)(v:V)(g:AD):Prop:=∃a d c,v=V.ref a/\a≠z/\H a=some (.lst d)/\jT (λb=>b≠z) H d c/\c.Perm (YI rs g)
def zbS (rs:AE)(z:Addr)(H:Hp):AF->List AD->Prop:=Xl (znc rs z H)
def Zr {rs:AE}{z:Addr}{H b:Hp}(s:zo H b){c:AF}{gs:List AD}(d:zbS rs z H c gs):zbS rs z b c gs:=by
 induction d with
 | nil=>exact .nil
 | cons q _ f =>
  revert q;refine fC λa i g e n h l p=>?_;exact .cons (dW a i g e n (s _ _ h) (qS s l) p) f
def zhh {rs:AE}{z:Addr}{H:Hp}{xs ys:AF}(hz:H z=some (.lst xs)){b:AF}{gs:List AD}(c:zbS rs z H b gs):zbS rs z (upd H z (.lst ys)) b gs:=by
 induction c with
 | nil=>exact .nil
 | cons q _ d =>
  revert q;refine fC λa g f e n h l p=>?_;exact .cons (dW a g f e n (by rw[zj n];exact h) (J0 hz (λ_ h=>h) l) p) d
def ze3 {rs:AE}{z:Addr}{H:Hp}{a:AF}{gs:List AD}{i:Nat}{v:V}(h:zbS rs z H a gs)(e:a[i]?=some v):∃g,gs[i]?=some g/\znc rs z H v g:=ZJ h e
def ziH {H:Hp}{z:Addr}{o:HO}{b:AF}{ks:List (List Int)}(c:yW H b ks)(n:∀v∈b,v≠V.ref z):yW (upd H z o) b ks:=by
 induction c with
 | nil=>exact .nil
 | cons q _ f =>
  obtain⟨a,e,h⟩:=q;exact .cons ⟨a,e,by rw[zj λy=>n _ XQ (by rw[e,y])];exact h⟩ (f λv d=>n v (XT _ d))
theorem zdA {H:Hp}:∀{b:AF} {a:List (List Int)} (i:Nat),yW H b a->yW H (b.take i) (a.take i)
 | _,_,0,_=>.nil
 | _,_,_+1,.nil=>.nil
 | _,_,i+1,.cons h t=>.cons h (zdA i t)
theorem zdB {H:Hp}:∀{b:AF} {a:List (List Int)} (i:Nat),yW H b a->yW H (b.drop i) (a.drop i)
 | _,_,0,h=>h
 | _,_,_+1,.nil=>.nil
 | _,_,i+1,.cons _ t=>zdB i t
def zla {H:Hp}{d:AF}{c:List (List Int)}{b:AF}{a:List (List Int)}(h:yW H d c)(k:yW H b a):yW H (d++b) (c++a):=zcQ h k
def zjJ (a:List (List Key×V))(k:List Key)(v:V):(putK a k v).length<=a.length+1:=by
 unfold putK;split
 .rw[ZB];exact VX _
 .rw[XY];exact XU _
def znd (l:List (List Key×V)):(YX l).length<=l.length:=by
 have:∀(l a:List (List Key×V)),(l.foldl (λa b=>putK a b.1 b.2) a).length<=a.length+l.length:=λl=>by
  induction l with
  | nil=>exact λa=>XU _
  | cons x r c =>
   intro a;rw[Wc,Xo];have h1:=c (putK a x.1 x.2);have h2:=zjJ a x.1 x.2;lia
 have:=this l [];rw[Vu,VR]at this;exact this
def zqW (xs:AF){i:Nat}(h:i<=xs.length):Jo xs none (some ((i:Nat):Int))=xs.take i:=by
 unfold Jo;rw[HT.QM,Nat.min_eq_left h];show (xs.drop 0).take (i-0)=_;rw[Pe,Og]
def zne:Sp:=λf H Q _=>∃(p l:Addr) (b:AE) (n:Int),f=[.ref p]/\qf H p l b n/\Rows bd.cps.toList b/\Small b/\0<=n /\
 ∀(d:Addr) (a:List (List Key×V)) (e:Hp),H d=none->e d=some (.dT a)->(∀c∈zI b,qO a (je c)=some (V.int (Jc b n c)))->zo H e->Q (.ref d) e
def ze4:Sp:=λe H Q _=>∃(p l d:Addr) (a:AE) (n:Int) (c:AA),e=[.ref p,.ref d]/\qf H p l a n/\Rows bd.cps.toList a/\Small a/\0<=n/\H d=some (.tup [.int (c.1:Nat),.int (c.2:Nat)])/\c∈zI a/\∀b,zo H b->Q (.int (Jc a n c)) b
def zR:zB ["board","pieces","found","counts","rest","at_far","told","place","part","others","cell","near"] ["board"] (zp j7):=bh
def zbk (T:Txt mg)(Z:Prog K mg)(D:zm K mg "counts_by_cell" j7 ["board"] f fd):zU P w K mg base CX0 7 f fd ["board"] zne:=by
 obtain⟨Qs,Z3,zJ⟩:=Z.around;obtain⟨JJ,xq,zq⟩:=Z.sign_at;obtain⟨xr,yH,zv⟩:=Z.cells_of;obtain⟨dc,cV,qR⟩:=Z.closed;obtain⟨Jz,xT,zu⟩:=Z.open_cells;obtain⟨Zq,JA,zO⟩:=Z.number_at;obtain⟨de,cX,qZ⟩:=Z.numbers_of;obtain⟨di,dh,jX⟩:=Z.needs_at;obtain⟨dn,dj,yG⟩:=Z.may_fit;obtain⟨db,cW,qT⟩:=Z.part_layings;obtain⟨dp,dk,jk⟩:=Z.counted;obtain⟨d0,dv,bU⟩:=Z.counted_at;obtain⟨jL,jn,zz⟩:=Z.closed_around;obtain⟨dt,dq,ZZ⟩:=Z.joined;obtain⟨dy,du,bT⟩:=Z.parts;obtain⟨d3,d2,bV⟩:=Z.far;obtain⟨dg,da,yV⟩:=Z.bare_wrong;obtain⟨dr,dm,Qq⟩:=Z.poured;obtain⟨df,cZ,jF⟩:=Z.all_poured;obtain⟨dz,dw,YM⟩:=Z.dealt;refine D.F.ok zR (λvs H Q E h=>?_) (λcL A c6 s H vs Q E hr h=>?_)
 .revert h;refine fL λp l r n z0 _=>?_;subst z0;rfl
 .revert h;refine fW λp l r n z0 b R sm n0 q=>?_;subst z0;have ck:(zI r).length<=64:=qL R;refine⟨_,(ze (qA 1 zR.nd (pc0 (zg2 T bT zJ zq zv zu zz ZZ) hr bT (za (pvS 0) zd))) (ze (psC 2 zR.nd ["part","board"] [none,some 0] cR (zG (pvS 1)) (pgN 0) qa (pc0 (YZ T qT zJ zq zv zu zO qZ jX yG) hr qT (za (pvS 1) (za (pvS 0) zd)))) (ze (qy (z9 (jy hr.units) (pc0 (zae T yV zJ zq zv zz zu zO) hr yV (za (pvS 0) zd)) (@zW _ _ _ _ zd) (zP _)) (zg (zw (pt1 (yt hr.units hr.hd) T.zfG Uf (pcm ["cell"] [none] cP (zG (pc0 (zbI T qR zv zq) hr qR (za (pvS 0) zd))) (pgN 0) qa (qj (za (pvS 0) (@za _ _ _ _ _ zf zd rfl))))))) zY) (ze (psC 3 zR.nd ["part","some"] [none,none] cP (zqh (by rfl) T.zrX (za (pvS 1) (za (pvS 2) zd))) (zfp (n:=2) (K:=K) (by rfl) rfl (zM (pgN 0) (zM (pgN 1) jw))) qa (pc0 (zau T jk) hr jk (za (pvS 1) (za (pb1 (zc8 (K:=K) (by rfl)) T.qC Xg (pvS 0)) zd)))) (ze (qA 4 zR.nd (pc0 (zmK T bV zJ zq zv qR zu) hr bV (za (pvS 0) zd))) (ze (qA 5 zR.nd (pc0 (zdy T Z YM) hr YM (za (pc0 (Zz T Z jF) hr jF (za (pvS 3) zd)) (za (zC Zi (pb1 zH T.qC Xg (pvS 4)) zf) (za (zC Zi (zF zQ (pvS 0) zf (λ_ _=>rfl)) zf) zd))))) (ze (qA 6 zR.nd (pt1 (yt hr.units hr.hd) T.zfG Uf (pcm ["cell","at_far"] [none,some 5] cR (zG (pvS 4)) (pgN 0) qa (qj (za (pvS 0) (za (pvS 1) zd)))))) (ze (qt Xe rfl (JP (by rfl) T.ju (za (pvS 1) zd)) (yX rfl (zM (pgq 7 zR.nd) (zM (pgq 8 zR.nd) jw))) (ze (qA 9 zR.nd (pc0 (Zz T Z jF) hr jF (za (zC yZ (JL zaL (pvS 3) Yk (Yl (pvS 7))) (JL zaL (pvS 3) (Yl (zC Jq (pvS 7) zf)) Yk)) zd))) (zg (qt Xe rfl (zG (pvS 8)) (pgq 10 zR.nd) (ze (qA 11 zR.nd (pc0 (ze1 T Qq) hr Qq (za (pvS 9) (za (pc0 (zeb T bU jk) hr bU (za (zF xY (pvS 2) (pvS 7) (λ_ _=>rfl)) (za (pb1 zH T.qC Xg (pvS 8)) (za (pvS 10) zd)))) zd)))) (zg (zoa (u1 hr.units) (pvS 6) (pvS 10) (pc0 (zdy T Z YM) hr YM (za (pvS 11) (za (pb1 zH T.qC Xg (pvS 4)) (za (zF zQ (pvS 0) zf (λ_ _=>rfl)) zd)))) rfl))))))) (zg (zw (pvS 6))))))))))),?_⟩;(try dsimp only[cxK,cxP,cxW]);refine⟨_,rfl,p,l,r,n,rfl,b,R,λd1 w1 m H1 cN bi hG _ _ G up s1=>?_⟩;have ar:=Qp G R;have aG:m.length<=64:=X6 (Parts.Qk G.ne) ar;refine⟨_,rfl,d1,rfl,⟨_,SqL.of bi⟩,λz hz=>?_⟩;refine qb (K:=K) (a:=d1) (xs:=w1) (λj Y u=>∃(u0:Option V) (ys:AF),Y=[u0,some (.ref p)]/\zo H1 u/\u z=some (.lst ys)/\zbS r z u ys (m.take j))
   (eF [] rfl (zc hz) zb (.nil)) (λj Y u _ ⟨_,_,_,y,_⟩=>SqL.of (y _ _ bi)) ?_ ?_
  .refine λj v Y H2 hv=>fm λu0 ys z0 s2 ah bG=>?_;subst z0;refine fq (λg hg=>fH λga ug z0 ay am=>?_) (yC.get (hG.mono s2) hv);subst z0;have gm:=X8 hg;have il:=(X4.mp hg).1;unfold xU;refine YH ?_;refine⟨_,rfl,_,rfl,p,l,ga,r,n,ug,g,rfl,(b.mono s1).mono s2,R,ay,am,qg (G.srt g gm),sm m G g gm,λe we ks H3 he cw hL _ cx _ s3=>?_⟩;have ez:e≠z:=λy=>by
    subst y;rw[ah]at he;cases he
   have nz:∀a,(H2 a=none/\a≠e)->a≠z:=λa h y=>by
    subst y;rw[ah]at h;cases h.1
   have t1:m.take (j+1)=m.take j++[g]:=by
    rw[Xx,hg];rfl
   refine dN (s3 _ _ ah) ?_ (eF (ys++[.ref e]) rfl (λb' o e'=>?_) zb ?_)
   .rw[show ys.length=(m.take j).length from Paired.length bG,XN];exact XM (show _<=64 by lia) (by decide)
   .rw[zj (zh e' hz)];exact s3 _ _ (s2 _ _ e')
   .rw[t1];exact Paired.snoc (zhh (s3 _ _ ah) (Zr s3 bG)) (dW e we ks rfl ez (by rw[zj ez];exact cw) (J0 (s3 _ _ ah) (λ_ h=>h) (zas nz hL)) cx)
  refine λY H2=>fm λu0 ys z0 s2 ah aA=>?_;subst z0;rw[hG.length,XJ]at aA;have bJ:=s1.trans s2;have co:=hG.mono s2;have b2:=s2 _ _ bi;refine⟨_,rfl,p,l,r,n,rfl,b.mono bJ,R,λd w2 H3 hd cu aR s3=>⟨yR,λe he=>?_⟩⟩;have s4:=zc (o:=.lst []) he;refine dY (.list ((jS r).map zk)) (.list []) (.lst (SqL.of (s4 _ _ cu)) (zx.rdv (N:=λ_=>True) (Cel.rdn (Cel.mono s4 aR)))) (.lst (SqL.of zb) .nil) (YE _ []) ⟨_,rfl,?_⟩;have ee:(if true=true then !PyData.eqv (.list ((jS r).map zk)) (.list []) else Xa (.list ((jS r).map zk)) (.list []))=!(jS r).isEmpty:=by
   show (!PyData.eqv _ _)=_;rw[eq_nil]
  rw[ee];have a5:=s3.trans s4;have aD:=bJ.trans a5;have b4:=b.mono aD;have av:=a5 _ _ b2;have aZ:=a5 _ _ ah;have bt:=co.mono a5;have bp:=Zr a5 aA;generalize upd H3 e (.lst [])=H4 at *
  cases hb:(jS r).isEmpty with
  | false =>
   refine zan ?_;refine⟨_,rfl,p,l,r,n,rfl,b4,R,λd5 w5 H5 cv aJ aB s5=>(dI d5 rfl ⟨_,SqL.of aJ⟩ (λy hy=>?_))⟩;have b1:Cel H5 w5 (zI r):=aB;refine qb (K:=K) (a:=d5) (xs:=w5) (λi U u=>(∃u0,U=[u0])/\zo H5 u/\∃ys,u y=some (.lst ys)/\jr u ys (((zI r).take i).map λc=>(je c,V.int 0))) ⟨⟨_,rfl⟩,zc hy,[],zb,.nil⟩ (λi U u _ ⟨_,s6,_⟩=>SqL.of (s6 _ _ aJ)) ?_ ?_
   .rintro i x U H6 hx ⟨⟨u0,rfl⟩,s6,ys,ag,ab⟩;refine fK (λc aT ca z0 al=>?_) (Cel.get (Cel.mono s6 b1) hx);subst z0;refine jA ⟨_,rfl,yi,λp hp=>?_⟩;have s7:=zc (o:=.tup [.ref ca,.int 0]) hp;have az:ys.length<=64:=by
     rw[ab.length,ZB,XN];lia
    refine dO ys (s7 _ _ ag) (XM az (by decide)) ⟨_,rfl⟩ (λb' o e'=>?_) (dS (ys++[.ref p]) zb ?_)
    .rw[zj (zh e' hy)];exact s7 _ _ (s6 _ _ e')
    .rw[Xx,aT,Xz];exact jr.into y _ (s7 _ _ ag) (jr.snoc (ab.mono s7) ⟨p,ca,rfl,zb,s7 _ _ al⟩)
   .refine λU H6=>fG λ_ s6 ys ag ab=>?_;rw[b1.length,XJ]at ab;refine dF y ys (eH rfl ag ab (λdd an=>?_));refine q dd _ _ ((aD.trans (s5.trans s6)).free an) zb (λc J=>?_) ((aD.trans (s5.trans s6)).trans (zc an));rw[ziG hb];have:=zbw (v:=V.int 0) (k:=je c) ((zI r).map je) [] (.inl (XI.mpr ⟨c,J,rfl⟩));rw[Wv]at this;exact this
  | true =>
   refine ZG ?_;refine⟨_,rfl,_,rfl,d1,z,rfl,⟨_,SqL.of av⟩,⟨_,SqL.of aZ⟩,λt0 bD=>?_⟩;refine zl1 (K:=K) (l1:=d1) (l2:=z) (xs:=w1) (ys:=ys) (λj Y u=>∃(u0 u1:Option V) (B:AF),Y=[u0,u1]/\zo H4 u/\u t0=some (.lst B)/\(∀v∈B,v≠V.ref t0)/\yW u B (tls r (m.take j))) (hG.length.trans (Paired.length aA).symm)
    (fj [] rfl (zc bD) zb (λ_ h=>nomatch h) (.nil)) (λj Y u _ ⟨_,_,_,_,y,_⟩=>⟨SqL.of (y _ _ av),SqL.of (y _ _ aZ)⟩) ?_ ?_
   .refine λj v v' tt Y H5 hv cy a1=>fC λu0 u1 B z0 s5 aC nt ak=>?_;subst z0;refine fq (λg hg=>fH λga ug z0 ay am=>?_) (yC.get (bt.mono s5) hv);subst z0;refine fq (λg' ao=>fC λfa wf ks z0 fz aY aQ aq=>?_) (ze3 (Zr s5 bp) cy);subst z0;rw[hg]at ao;cases ao;have gm:=X8 hg;have il:=(X4.mp hg).1;have z6:=zc (o:=.tup [V.ref ga,V.ref fa]) a1;refine eW tt rfl (SqT.of zb) rfl rfl rfl rfl ?_;have bE:=z6 _ _ aC;have bA:=z6 _ _ ay;have b6:=z6 _ _ aY;have bx:=qS z6 aQ;have cA:=s5.trans z6;have cp:=xo z6 ak;generalize upd H5 tt (.tup [V.ref ga,V.ref fa])=H6 at *
    refine YH ?_;refine⟨_,rfl,_,rfl,ga,_,rfl,.inl (SqL.of bA),fa,wf,ks,_,ug.length,rfl,b6,bx,λk hk=>?_,?_,λe7 H7 b5 bY s7=>?_⟩
    .rw[am.length];exact zdp (aq.mem_iff.mp hk)
    .rw[am.length];have:=sm m G g gm;lia
    .rw[am.length,Cnt.zbG aq,zeZ]at bY;have et:e7≠t0:=λy=>by
      subst y;rw[bE]at b5;cases b5
     have t1:tls r (m.take (j+1))=tls r (m.take j)++[Tally.tl g (qF r g)]:=by
      unfold tls;rw[Xx,hg,Xz];rfl
     refine dN (s7 _ _ bE) ?_ (fj (B++[.ref e7]) rfl (λb' o e'=>?_) zb (λv hv=>?_) ?_)
     .rw[Q5 ak];unfold tls;rw[ZB,XN];exact XM (show _<=64 by lia) (by decide)
     .rw[zj (zh e' bD)];exact s7 _ _ (cA _ _ e')
     .rcases XO.mp hv with hv | hv
      .exact nt v hv
      .have:v=V.ref e7:=by simpa using hv
       rw[this];intro y;cases y;exact et rfl
     .rw[t1];exact Paired.snoc (ziH (xo s7 cp) nt) ⟨e7,rfl,by rw[zj et];exact bY⟩
   refine λY H5=>fC λu0 u1 B z0 s5 aC _ ak=>?_;subst z0;rw[hG.length,XJ]at ak;have ba:=aD.trans s5;refine⟨_,rfl,p,l,r,n,rfl,b.mono ba,R,λd5 w5 H6 cv bZ aB s6=>?_⟩;have wl:=aB.length;have cM:(yc r).length<=64:=X6 (W6 _ _) ck;refine⟨_,rfl,t0,B,tls r m,rfl,s6 _ _ aC,xo s6 ak,zm3 R G,λd7 H7 cO cb s7=>?_⟩;rw[show (tls r m).foldl Pour.Zw [1]=Tally.tl m.flatten (Tally.j5 (qF r) m) from zhb G]at cb;have b7:=((b.mono ba).mono s6).mono s7;refine⟨_,rfl,d5,_,rfl,.inl (SqL.of (s7 _ _ bZ)),_,_,rfl,rfl,_,rfl,p,_,1,_,rfl,rfl,SqT.of b7.tp,rfl,_,_,rfl,rfl,d7,_,_,_,rfl,cb,YJ ar,by rw[Tally.jV];lia,by lia,λH8 s8=>?_⟩;have be:=s7.trans s8;have aF:=s6.trans be;have c7:=ba.trans aF;have aw:=be _ _ bZ;have b0:=aB.mono be;have bn:∀c∈yc r,dlV (Tally.tl m.flatten (Tally.j5 (qF r) m)) (((w5.length:Nat):Int)-1) (n-1)=Jc r n c:=λc J=>by
    have pos:=Ug J;have ci:=zqP G J n.toNat;rw[hb,bw rfl,UD n0]at ci;unfold Jc;rw[<- ci,wl,show (((yc r).length:Nat):Int)-1=(((yc r).length-1:Nat):Int) by lia,zfO]
   generalize dlV (Tally.tl m.flatten (Tally.j5 (qF r) m)) (((w5.length:Nat):Int)-1) (n-1)=val at *
   refine⟨_,rfl,d5,rfl,⟨_,SqL.of aw⟩,λy hy=>?_⟩;refine qb (K:=K) (a:=d5) (xs:=w5) (λi U u=>(∃u0,U=[u0,some (.int val)])/\zo H8 u/\∃ys,u y=some (.lst ys)/\jr u ys (((yc r).take i).map λc=>(je c,V.int val))) (dD ⟨_,rfl⟩ (zc hy) (dS [] zb (.nil))) (λi U u _ ⟨_,s6,_⟩=>SqL.of (s6 _ _ aw)) ?_ ?_
   .rintro i x U cK hx ⟨⟨u0,rfl⟩,bO,a9,ag,ab⟩;refine fK (λc aT ca z0 al=>?_) (Cel.get (Cel.mono bO b0) hx);subst z0;refine jA ⟨_,rfl,_,rfl,yi,λp hp=>?_⟩;have a6:=zc (o:=.tup [.ref ca,.int val]) hp;have az:a9.length<=64:=by
     rw[ab.length,ZB,XN];lia
    refine dO a9 (a6 _ _ ag) (XM az (by decide)) ⟨_,rfl⟩ (λb' o e'=>?_) (dS (a9++[.ref p]) zb ?_)
    .rw[zj (zh e' hy)];exact a6 _ _ (bO _ _ e')
    .rw[Xx,aT,Xz];exact jr.into y _ (a6 _ _ ag) (jr.snoc (ab.mono a6) ⟨p,ca,rfl,zb,a6 _ _ al⟩)
   refine λU H9=>fG λ_ s9 a9 cz bC=>?_;rw[b0.length,XJ]at bC;refine dF y a9 (eH rfl cz bC (λdd an=>?_));have bP:=zc (o:=.dT (YX ((yc r).map λc=>(je c,V.int val)))) an;have aU:upd H9 dd (.dT (YX ((yc r).map λc=>(je c,V.int val)))) dd=some (.dT (YX ((yc r).map λc=>(je c,V.int val)))):=zb;have c4:(YX ((yc r).map λc=>(je c,V.int val))).length<=64:=by
    have:=znd ((yc r).map λc=>(je c,V.int val));rw[ZB]at this;lia
   have c5:∀c∈yc r,qO (YX ((yc r).map λc=>(je c,V.int val))) (je c)=some (V.int (Jc r n c)):=λc J=>by
    have:=zbw (v:=V.int val) (k:=je c) ((yc r).map je) [] (.inl (XI.mpr ⟨c,J,rfl⟩));rw[Wv]at this;rw[<- bn c J];exact this
   generalize YX ((yc r).map λc=>(je c,V.int val))=kvs0 at *
   generalize upd H9 dd (.dT kvs0)=H10 at *
   have aE:=s5.trans (aF.trans s9);have bb:=c7.trans s9;have cd:H dd=none:=bb.free an;have aI:=aE _ _ av;have c0:=aE _ _ aZ;have aP:=bt.mono aE;have cn:=Zr aE bp;have bF:=(aF.trans s9) _ _ aC;have bv:=xo (aF.trans s9) ak;have b3:=s9 _ _ aw;have b9:=b.mono bb;refine⟨_,rfl,d1,rfl,⟨_,SqL.of (bP _ _ aI)⟩,?_⟩;refine JD (K:=K) (l:=d1) (xs:=w1) (λi U u=>∃(I:List (List Key×V)) (v7 v8 v9 a7 a8:Option V),U=[some (.ref p),some (.ref d1),some (.ref z),some (.ref t0),some (.ref d5),some (.int val),some (.ref dd),v7,v8,v9,a7,a8]/\zo H9 u/\u dd=some (.dT I)/\I.length<=64+(m.take i).flatten.length/\(∀c,c∈yc r\/c∈(m.take i).flatten->qO I (je c)=some (V.int (Jc r n c))))
    (dM kvs0 (dG (eB rfl bP aU (by simpa using c4) (λc J=>J.elim (c5 c) (λh=>by simp at h))))) (λi U u _ ⟨_,_,_,_,_,_,_,y,_⟩=>SqL.of (y _ _ aI)) ?_ ?_
   .refine λi v tt U aN hv a1=>gc λI v7 v8 v9 a7 a8 z0 a2 L kl kv=>?_;subst z0;refine fq (λg hg=>fH λga ug z0 ay am=>?_) (yC.get (aP.mono a2) hv);subst z0;have gm:=X8 hg;have il:=(X4.mp hg).1;have cf:=sm m G g gm;have aO:m=m.take i++g::m.drop (i+1):=by
     have e1:=(W7 i m).symm;rw[WI il]at e1;have e2:m[i]=g:=by
      rw[XZ il]at hg;exact Option.some.inj hg
     rwa [e2]at e1
    have tk:(m.take (i+1)).flatten=(m.take i).flatten++g:=by
     rw[Xx,hg,Ww];congr 1;simp
    have AB:(m.take i++m.drop (i+1)).Sublist m:=by
     conv=>rhs;rw[aO]
     exact List.Sublist.append (List.Sublist.refl _) (List.sublist_cons_self _ _)
    have cU:tt≠dd:=λy=>by
     subst y;rw[L]at a1;cases a1
    have bQ:=zc (o:=.tup [.int (i:Nat),V.ref ga]) a1;refine eW tt rfl (SqT.of zb) rfl rfl rfl rfl ?_;have bc:=a2.trans bQ;have aV:=bQ _ _ L;generalize upd aN tt (.tup [.int (i:Nat),V.ref ga])=H12 at *
    have cl:=Q5 bv;have tlen:(tls r m).length=m.length:=ZB _;refine⟨_,rfl,_,rfl,_,rfl,t0,B,rfl,SqL.of (bc _ _ bF),λc1 cr=>?_⟩;have bR:=zc (o:=.lst (Jo B none (some ((i:Nat):Int)))) cr;refine⟨_,rfl,_,rfl,_,_,rfl,rfl,_,rfl,t0,B,rfl,SqL.of (bR _ _ (bc _ _ bF)),λc2 ct=>?_⟩;have bS:=zc (o:=.lst (Jo B (some (((i:Nat):Int)+1)) none)) ct;rw[zqW B (show i<=B.length by lia),zg7 B i (by lia)]at *
    refine dF c1 c2 (dG (dQ rfl rfl (bS _ _ zb) zb ?_ (λc3 aR=>?_)))
    .rw[XN,VP];exact X6 (show _<=128 by lia) (by decide)
    have cE:=zc (o:=.lst (B.take i++B.drop (i+1))) aR;have a3:=bR.trans (bS.trans cE);have bK:=bc.trans a3;have ax:=a3 _ _ aV;have aH:=xo bK bv;have et:tls r (m.take i++m.drop (i+1))=(tls r m).take i++(tls r m).drop (i+1):=by
     unfold tls;rw[Xz,Sl,Oy]
    have aS:upd (upd (upd H12 c1 (.lst (B.take i))) c2 (.lst (B.drop (i+1)))) c3 (.lst (B.take i++B.drop (i+1))) c3=some (.lst (B.take i++B.drop (i+1))):=zb;generalize upd (upd (upd H12 c1 (.lst (B.take i))) c2 (.lst (B.drop (i+1)))) c3 (.lst (B.take i++B.drop (i+1)))=H15 at *
    refine eE c3 (dO (tls r (m.take i++m.drop (i+1))) rfl aS (by rw[et];exact zla (zdA i aH) (zdB (i+1) aH)) (zqV R G AB) (λoa cG bB bW bM=>?_));rw[zjI G AB]at bW;have aK:=bK.trans bM;have aW:=bM _ _ ax;have bI:oa≠dd:=λy=>by
     subst y;rw[ax]at bB;cases bB
    have bo:(m.take i++m.drop (i+1)).flatten.length<=64:=X6 (Qt AB).length_le ar;have ai:H9 ga=some (.lst ug):=by
     obtain⟨g',ao,cg,cB,e',au,_⟩:=yC.get aP hv;cases e';have:=a2 _ _ au;rw[ay]at this;cases this;exact au
    have aa:Cel H9 ug g:=by
     obtain⟨g',ao,cg,cB,e',au,cj⟩:=yC.get aP hv;cases e';rw[hg]at ao;cases ao;rw[ai]at au;cases au;exact cj
    have zl:i<ys.length:=by
     rw[show ys.length=m.length from Paired.length aA];exact il
    refine fq (λg2 b8=>fC λfa wf ks ce fz aY aQ aq=>?_) (ze3 cn (XZ zl));rw[hg]at b8;cases b8;refine⟨_,rfl,ga,rfl,⟨_,SqL.of (aK _ _ ai)⟩,?_⟩;refine jG (K:=K) (a:=ga) (xs:=ug) (λj U u=>∃(I:List (List Key×V)) (a7 a8:Option V),U=[some (.ref p),some (.ref d1),some (.ref z),some (.ref t0),some (.ref d5),some (.int val),some (.ref dd),some (.int (i:Nat)),some (.ref ga),some (.ref oa),a7,a8]/\zo H9 u/\u oa=some (.lst (iL (Tally.tl (m.take i++m.drop (i+1)).flatten (Tally.j5 (qF r) (m.take i++m.drop (i+1))))))/\u dd=some (.dT I)/\I.length<=64+(m.take i).flatten.length+j/\(∀c,c∈yc r\/c∈(m.take i).flatten\/c∈g.take j->qO I (je c)=some (V.int (Jc r n c))))
     (dM I (dQ rfl aK bW aW (by lia) (λc J=>kv c (J.elim .inl λh=>h.elim .inr λh=>by simp at h)))) (λj U u _ ⟨_,_,_,_,y,_⟩=>SqL.of (y _ _ ai)) ?_ ?_
    .refine λj x U cc hx=>fT λac cC cD z0 M af ae bH aj=>?_;subst z0;refine fK (λc J ca z0 al=>?_) (Cel.get (aa.mono M) hx);subst z0;have cm:=X8 J;have jl:=(X4.mp J).1;have Gi:Parts.Good (clA r) (zT r) (m.take i++g::m.drop (i+1)):=by
      rw[<- aO];exact G
     have ap:=zoN Gi cm n.toNat;rw[hb,bw rfl,UD n0]at ap;refine⟨_,rfl,_,rfl,_,rfl,z,_,_,_,rfl,rfl,SqL.of (M _ _ c0),Yn (by lia) (by rw[V1];exact XZ zl),_,rfl,ga,_,rfl,.inl (SqL.of (M _ _ ai)),_,rfl,?_⟩;rw[ce];refine dR fa ca wf ks ⟨_,(dU ug.length c rfl (M _ _ aY) (qS M aQ) (λk hk=>?_) (dZ ?_ ?_ al (λea cH cQ bX bN=>?_)))⟩
     .rw[aa.length];exact zdp (aq.mem_iff.mp hk)
     .rw[aa.length];lia
     .rw[aq.length_eq];exact zk3 cf
     rw[aa.length,Cnt.zbG (aq.filter _),zfR]at bX;have aG:g.length<=64:=by lia
     refine dF oa ea (dG (dJ rfl (SqL.of (bN _ _ af)) (SqL.of bX) ?_ (dQ ?_ ?_ ?_ (YJ bo) (YJ aG) (λna cI cS cF c8=>?_))))
     .rw[Tally.jV];lia
     .rw[Tally.jV];lia
     .rw[Tally.jV];lia
     .rw[Tally.jV];lia
     have a4:=bN.trans c8;have aM:=M.trans a4;have cT:(m.take i).flatten.length<=64:=X6 (Qt (T4 i m)).length_le ar;have bj:((m.take i++m.drop (i+1)).flatten++g).length<=64:=by
      rw[<- (zfL _ _ _).length_eq,<- aO];exact ar
     have bm:=zjH Gi cm;refine⟨_,rfl,_,rfl,d5,_,rfl,.inl (SqL.of (aM _ _ b3)),_,rfl,p,_,1,_,rfl,rfl,SqT.of (b9.mono aM).tp,rfl,na,_,_,_,rfl,cF,by rw[bm];exact YJ bj,by rw[bm,Tally.jV];lia,by lia,λcJ c9=>?_⟩;have O:=a4.trans c9;have aX:=O _ _ ae;have ev:dlV (Pour.Zw (Tally.tl (m.take i++m.drop (i+1)).flatten (Tally.j5 (qF r) (m.take i++m.drop (i+1)))) (Tally.tl g λS=>qF r g S&&decide (c∈S))) (w5.length:Nat) n=Jc r n c:=by
      unfold Jc;rw[zfO,wl,ap]
     rw[ev];refine⟨_,rfl,_,rfl,dd,_,rfl,zlW.t (k:=je c) aX (O _ _ al) (XM (show ac.length<=200 by lia) (by decide)),?_⟩;refine dM (putK ac (je c) (V.int (Jc r n c))) (dQ rfl (λb' o e'=>?_) ?_ zb ?_ (λc' cq=>?_))
     .rw[zj (zh e' an)];exact O _ _ (M _ _ e')
     .rw[zj bI];exact O _ _ af
     .have:=zjJ ac (je c) (V.int (Jc r n c));lia
     .rw[zaT];by_cases ec:je c'=je c
      .rw[bw ec,zhg ec]
      .rw[bq ec];refine aj c' (cq.elim .inl λh=>h.elim (λh=>.inr (.inl h)) λh=>?_);rw[Xx,J]at h;rcases XO.mp h with h | h
       .exact .inr (.inr h)
       .have:c'=c:=by simpa using h
        exact absurd (by rw[this]) ec
    refine λU cc=>fT λac cC cD z0 M af ae bH aj=>?_;subst z0;have ul:ug.length=g.length:=aa.length;refine dM ac (dG (eB rfl M ae ?_ (λc J=>?_)))
    .rw[tk,XY];lia
    .rw[tk]at J;rw[ul,XJ]at aj;exact aj c (J.elim .inl λh=>(XO.mp h).elim (λh=>.inr (.inl h)) λh=>.inr (.inr h))
   refine λU aN=>gc λI v7 v8 v9 a7 a8 z0 a2 L kl kv=>?_;subst z0;rw[hG.length,XJ]at kv;refine⟨_,rfl,q dd I aN cd L (λc J=>kv c ?_) (bb.trans a2)⟩;by_cases hm:c∈m.flatten
   .exact .inr hm
   .exact .inl ((zbh G).mpr ⟨J,hm⟩)
def zhi:zB ["board","cell"] ["board","cell"] (zp Yx):=bh
def zhj (T:Txt mg)(Z:Prog K mg)(D:zm K mg "count_at" Yx ["board","cell"] f fd):zU P w K mg base CX0 8 f fd ["board","cell"] ze4:=by
 obtain⟨J,I,i⟩:=Z.counts_by_cell;refine D.F.ok zhi (λG H Q E h=>?_) (λr A e s H G Q E j h=>?_)
 .revert h;refine fQ λp l o m=>fP λn c z0 _=>?_;subst z0;rfl
 .revert h;refine gc λp l o m n c z0 b R B=>fE λz a u q=>?_;subst z0;refine⟨_,(zg (zw (zn9 (u1 j.units) (pc0 (zbk T Z i) j i (za (pvS 0) zd)) (pvS 1) (λ_ _=>rfl)))),?_⟩;(try dsimp only[cxK,cxP,cxW]);refine⟨_,rfl,p,l,m,n,rfl,b,R,B,z,λd y L _ v x s1=>⟨_,rfl,d,_,rfl,?_,q _ s1⟩⟩;have g:=zap.t (k:=je c) v (s1 _ _ a);rw[x c u]at g;exact g
def znf {b:KV1}{k:List Key}{v:V}(h:qO b k=some v):(k,v)∈b:=by
 unfold qO at h;cases e:b.find? (λa=>decide (a.1=k)) with
 | none =>
  rw[e]at h;cases h
 | some a =>
  rw[e]at h;have h1:a.2=v:=by simpa using h
  have h2:a.1=k:=bg (show decide (a.1=k)=true from List.find?_some (p:=λ(a:List Key×V)=>decide (a.1=k)) e);have c:=List.mem_of_find?_eq_some e;rw[<- h1,<- h2];exact c
def zhk (a:KV1)(k:List Key)(v:V):(k∈a.map (·.1)/\(putK a k v).map (·.1)=a.map (·.1))\/(¬ k∈a.map (·.1)/\(putK a k v).map (·.1)=a.map (·.1)++[k]):=by
 unfold putK;by_cases h:(a.any λb=>decide (b.1=k))=true
 .refine .inl ⟨?_,?_⟩
  .obtain⟨b,h1,h2⟩:=WG.mp h;exact XI.mpr ⟨b,h1,bg h2⟩
  .rw[bw h,Wv];refine Xb λb _=>?_;show (if b.1=k then (b.1,v) else b).1=b.1;split<;>rfl
 .refine .inr ⟨λc=>?_,?_⟩
  .obtain⟨b,h1,h2⟩:=XI.mp c;exact h (WG.mpr ⟨b,h1,br h2⟩)
  .rw[bq h,Xz];rfl
def zqX {c:KV1}(k:List Key)(v:V)(h:(c.map (·.1)).Nodup):((putK c k v).map (·.1)).Nodup:=by
 rcases zhk c k v with ⟨_,e⟩ | ⟨i,e⟩
 .rw[e];exact h
 .rw[e,WL];refine⟨h,by simp,λa f b g z=>i ?_⟩;have d:b=k:=by simpa using g
  rw[<- d,<- z];exact f
theorem zjL:∀(ps a:KV1),(a.map (·.1)).Nodup->((ps.foldl (λa b=>putK a b.1 b.2) a).map (·.1)).Nodup
 | [],_,h=>h
 | p::r,a,h=>zjL r _ (zqX p.1 p.2 h)
theorem ze5:∀(ps a:KV1) (k:List Key),k∈(ps.foldl (λa b=>putK a b.1 b.2) a).map (·.1)->k∈a.map (·.1)\/k∈ps.map (·.1)
 | [],_,_,h=>.inl h
 | p::r,a,k,h=>by
  rcases ze5 r _ k h with h | h
  .rcases zhk a p.1 p.2 with ⟨_,e⟩ | ⟨_,e⟩
   .rw[e]at h;exact .inl h
   .rw[e]at h;rcases XO.mp h with h | h
    .exact .inl h
    .exact .inr (by
      have:k=p.1:=by simpa using h
      rw[this];exact XQ)
  .exact .inr (XT _ h)
theorem zhl:∀(ps a:KV1),(ps.foldl (λa b=>putK a b.1 b.2) a).length<=a.length+ps.length
 | [],_=>XU _
 | p::r,a=>by
  have h1:=zhl r (putK a p.1 p.2);have h2:=xW a p.1 p.2;rw[Wc,Xo];lia
theorem ze6:∀(b a:KV1) (k:List Key),(b.map (·.1)).Nodup->qO (zaq a b) k=(qO b k).or (qO a k)
 | [],a,k,_=>rfl
 | kv::r,a,k,c=>by
  rw[Xw,Wp]at c;show qO (zaq (putK a kv.1 kv.2) r) k=_;rw[ze6 r _ k c.2,zaT];by_cases e:kv.1=k
  .rw[jH e,bw e.symm];have:qO r k=none:=by
    cases hr:qO r k with
    | none=>rfl
    | some v=>exact absurd (XI.mpr ⟨(k,v),znf hr,by rw[e]⟩) c.1
   rw[this];rfl
  .rw[jI e,bq (λz=>e z.symm)]
def Zs (a:AD)(v:V):KV1:=YX (a.map λc=>(je c,v))
theorem zdC (v:V)(x:AA):∀(b:AD) (a:KV1),qO ((b.map λc=>(je c,v)).foldl (λa d=>putK a d.1 d.2) a) (je x)=if x∈b then some v else qO a (je x)
 | [],a=>by simp
 | c::r,a=>by
  rw[Xw,Wc,zdC v x r,zaT];by_cases h:x∈r
  .rw[bw h,bw (XT _ h)]
  .rw[bq h];by_cases e:x=c
   .subst e;rw[bw rfl,bw XQ]
   .rw[bq (λz=>e (zhg z)),bq (λz=>by rcases XH.mp z with z | z;exact e z;exact h z)]
def zhm {a:AD}{v:V}(h:∀c∈a,c.1<8/\c.2<8):L2.Small ((Zs a v).map (·.1)):=λk hk=>by
 rcases ze5 _ [] k hk with h1 | h1
 .exact nomatch h1
 .rw[Wv]at h1;obtain⟨c,b,rfl⟩:=XI.mp h1;exact⟨c.1,c.2,(h c b).1,(h c b).2,rfl⟩
def ze7 (a:AD)(v:V):(Zs a v).length<=a.length:=by
 have:=zhl (a.map λc=>(je c,v)) [];rw[ZB]at this;unfold Zs YX;simpa using this
structure jY (H:Hp)(fa fc fs:Addr)(us ws:AF)(cl st:AD):Prop where
 tp:H fa=some (.tup [.ref fc,.ref fs])
 h1:H fc=some (.lst us)
 h2:H fs=some (.lst ws)
 c1:Cel H us cl
 c2:Cel H ws st
theorem jY.mono {H a:Hp}{c d fs:Addr}{e f:AF}{b st:AD}(x:jY H c d fs e f b st)(s:zo H a):jY a c d fs e f b st:=⟨s _ _ x.tp,s _ _ x.h1,s _ _ x.h2,x.c1.mono s,x.c2.mono s⟩
structure zoV (cl st:AD):Prop where
 b1:∀c∈cl,c.1<8/\c.2<8
 b2:∀c∈st,c.1<8/\c.2<8
 l1:cl.length<=64
 l2:st.length<=64
def zjM (a:KV1)(b st:AD):Prop:=∀c,qO a (je c)=if c∈st then some (V.int 1) else if c∈b then some (V.int 0) else none
def zfS:Sp:=λh H Q _=>∃(e f fs:Addr) (g i:AF) (c st:AD),h=[.ref e]/\jY H e f fs g i c st/\zoV c st /\
 ∀(d:Addr) (a:KV1) (b:Hp),H d=none->b d=some (.dT a)->zjM a c st->zo H b->Q (.ref d) b
def zbT (st a:AD):List Int:=a.map λc=>if c∈st then 1 else 0
def jg (a st b:AD):AD:=b.filter λc=>!(decide (c∈st) || decide (c∈a))
def zfT:Sp:=λl H Q _=>∃(t h g:Addr) (e:Int) (i:AF) (c f st:AD) (b:KV1),l=[.ref t,.ref g]/\H t=some (.tup [.int e,.ref h])/\H h=some (.lst i)/\Cel H i c/\c.length<=64/\H g=some (.dT b)/\zjM b f st /\
 ∀(r d:Addr) (j:AF) (a:Hp),H r=none->H d=none->a r=some (.tup [.int (e-(zbT st c).sum),.ref d])->a d=some (.lst j)->Cel a j (jg f st c)->zo H a->Q (.ref r) a
def zb9:zB ["finding","known"] ["finding"] (zp Yz):=bh
def zca (T:Txt mg)(D:zm K mg "known_of" Yz ["finding"] f fd):zU P w K mg base CX0 1 f fd ["finding"] zfS:=by
 refine D.F.ok zb9 (λvs H Q E h=>?_) (λah A af s H vs Q E Y h=>?_)
 .revert h;refine fZ λfa fc fs us ws j st z0 _=>?_;subst z0;rfl
 .revert h;refine fQ λfa fc fs us=>fF λws j st z0 X Fi q=>?_;subst z0;refine⟨_,(ze (qA 1 zb9.nd (pt1 (yt Y.units Y.hd) T.zfG Uf (pcm ["cell"] [none] cP (zG (zF qN (pv 0) zf (λ_ _=>rfl))) (pgN 0) qa (qj (za (pv 0) (@za _ _ _ _ _ zf zd rfl)))))) (ze (jR (Ze QR Ro PySem.F.type_dict_update (zh6 Y.units) (pv 1) (za (pt1 (yt Y.units Y.hd) T.zfG Uf (pcm ["cell"] [none] cP (zG (zF qN (pv 0) zf (λ_ _=>rfl))) (pgN 0) qa (qj (za (pv 0) (@za _ _ _ _ _ zf zd rfl))))) zd))) (zg (zw (pv 1))))),?_⟩;(try dsimp only[cxK,cxP,cxW]);refine d8 rfl fa 0 rfl rfl (SqT.of X.tp) rfl (dI fc rfl ⟨_,SqL.of X.h1⟩ (λy hy=>?_));have l1:=Fi.l1;have l2:=Fi.l2;refine qb (K:=K) (a:=fc) (xs:=us) (λi z u=>(∃u0,z=[u0])/\zo H u/\∃g,u y=some (.lst g)/\jr u g ((j.take i).map λc=>(je c,V.int 0))) ⟨⟨_,rfl⟩,zc hy,[],zb,.nil⟩ (λi z u _ ⟨_,v,_⟩=>SqL.of (v _ _ X.h1)) ?_ ?_
  .rintro i x z H6 hx ⟨⟨u0,rfl⟩,v,g,n,m⟩;refine fK (λc I J z0 G=>?_) (Cel.get (Cel.mono v X.c1) hx);subst z0;refine jA (dN rfl yi (λp hp=>?_));have r:=zc (o:=.tup [.ref J,.int 0]) hp;have l:g.length<=64:=by
    rw[m.length,ZB,XN];lia
   refine dO g (r _ _ n) (XM l (by decide)) ⟨_,rfl⟩ (λb' o L=>?_) (dS (g++[.ref p]) zb ?_)
   .rw[zj (zh L hy)];exact r _ _ (v _ _ L)
   .rw[Xx,I,Xz];exact jr.into y _ (r _ _ n) (jr.snoc (m.mono r) ⟨p,J,rfl,zb,r _ _ G⟩)
  refine λz H1=>fG λ_ s1 g ac O=>?_;rw[X.c1.length,XJ]at O;refine dF y g (eH rfl ac O (λd hd=>?_));have z2:=zc (o:=.dT (Zs j (.int 0))) hd;have N:upd H1 d (.dT (Zs j (.int 0))) d=some (.dT (Zs j (.int 0))):=zb;have s2:=s1.trans z2;have X2:=X.mono s2;have M:=s1.free hd;show _;refine dN rfl (.inr (.inr (.inl ⟨rfl,.inr ⟨_,zb⟩⟩))) (d8 rfl fa 1 rfl rfl (SqT.of X2.tp) rfl (dI fs rfl ⟨_,SqL.of X2.h2⟩ (λy2 aa=>?_)));refine qb (K:=K) (a:=fs) (xs:=ws) (λi z u=>(∃u0,z=[u0])/\zo (upd H1 d (.dT (Zs j (.int 0)))) u/\∃g,u y2=some (.lst g)/\jr u g ((st.take i).map λc=>(je c,V.int 1))) ⟨⟨_,rfl⟩,zc aa,[],zb,.nil⟩ (λi z u _ ⟨_,v,_⟩=>SqL.of (v _ _ X2.h2)) ?_ ?_
  .rintro i x z H6 hx ⟨⟨u0,rfl⟩,v,g,n,m⟩;refine fK (λc I J z0 G=>?_) (Cel.get (Cel.mono v X2.c2) hx);subst z0;refine jA (dN rfl yi (λp hp=>?_));have r:=zc (o:=.tup [.ref J,.int 1]) hp;have l:g.length<=64:=by
    rw[m.length,ZB,XN];lia
   refine dO g (r _ _ n) (XM l (by decide)) ⟨_,rfl⟩ (λb' o L=>?_) (dS (g++[.ref p]) zb ?_)
   .rw[zj (zh L aa)];exact r _ _ (v _ _ L)
   .rw[Xx,I,Xz];exact jr.into y2 _ (r _ _ n) (jr.snoc (m.mono r) ⟨p,J,rfl,zb,r _ _ G⟩)
  refine λz H3=>fG λ_ s3 ag ae U=>?_;rw[X.c2.length,XJ]at U;refine dF y2 ag (eH rfl ae U (λd2 B=>?_));have z4:=zc (o:=.dT (Zs st (.int 1))) B;have ne:d≠d2:=zh (s3 _ _ N) B;have ab:=z4 _ _ (s3 _ _ N);refine dR d d2 (Zs j (.int 0)) (Zs st (.int 1)) (dJ rfl rfl ne ab (dZ zb (zhm Fi.b2) ?_ (dB rfl ?_)))
  .have a1:=ze7 j (.int 0);have a2:=ze7 st (.int 1);exact X6 (show _<=128 by lia) (by decide)
  .refine q d _ _ M zb (λc=>?_) λb o e=>?_
   .rw[ze6 (Zs st (.int 1)) (Zs j (.int 0)) (je c) (zjL _ [] Vn)];have e1:qO (Zs st (.int 1)) (je c)=if c∈st then some (V.int 1) else none:=zdC _ c st []
    have e2:qO (Zs j (.int 0)) (je c)=if c∈j then some (V.int 0) else none:=zdC _ c j []
    rw[e1,e2];by_cases h1:c∈st
    .rw[bw h1,bw h1];rfl
    .rw[bq h1,bq h1];rfl
   .rw[zj (zh e M)];exact z4 _ _ (s3 _ _ (s2 _ _ e))
def Qu:zB ["asked","known","lying"] ["asked","known"] (zp xO):=bh
def Qv (T:Txt mg)(D:zm K mg "still_asked" xO ["asked","known"] f fd):zU P w K mg base CX0 1 f fd ["asked","known"] zfT:=by
 refine D.F.ok Qu (λvs H Q E h=>?_) (λah A af s H vs Q E hr h=>?_)
 .revert h;refine fu λt I G a0 us p j st=>fq λb z0 _=>?_;subst z0;rfl
 .revert h;refine fu λt I G a0 us p j st=>fU λb z0 ht g d=>fE λU l hK q=>?_;subst z0;refine⟨_,(ze (qA 2 Qu.nd (pb1 (zgr rfl) T.zpt Pp (pcm ["cell","known"] [none,some 1] cR (zG (zF qN (pv 0) zf (λ_ _=>rfl))) (pgN 0) qa (zgy (u1 hr.units) (pv 1) (pv 0) zf ⟨rfl,rfl,rfl,rfl⟩)))) (zg (zw (qj (za (zC Zv (zF qN (pv 0) zf (λ_ _=>rfl)) (pv 2)) (za (pcm ["cell","known"] [none,some 1] cR (zG (zF qN (pv 0) zf (λ_ _=>rfl))) (pgN 0) (qk (zpU (zkr (u1 hr.units) (pv 0) (pv 1)))) (pv 0)) zd)))))),?_⟩;(try dsimp only[cxK,cxP,cxW]);refine d8 rfl t 1 rfl rfl (SqT.of ht) rfl (dI I rfl ⟨_,SqL.of g⟩ (λy hy=>?_));refine qb (K:=K) (a:=I) (xs:=us) (λi m O=>(∃L,m=[L,some (.ref G)])/\zo H O/\O y=some (.lst ((zbT st (p.take i)).map V.int))) ⟨⟨_,rfl⟩,zc hy,zb⟩ (λi m O _ ⟨_,n,_⟩=>SqL.of (n _ _ g)) ?_ ?_
  .rintro i x m H6 hx ⟨⟨L,rfl⟩,n,ac⟩;refine fK (λc ab ca z0 e=>?_) (Cel.get (Cel.mono n d) hx);subst z0;refine jA (dB rfl (dI G rfl (.inr ⟨b,.inl (n _ _ l)⟩) (dB rfl (dS (qO b (je c)) (zap.t (k:=je c) (n _ _ l) e) ?_))));have eg:(qO b (je c)).getD (V.int 0)=V.int (if c∈st then 1 else 0):=by
    rw[hK c];by_cases h1:c∈st
    .rw[bw h1,bw h1];rfl
    .rw[bq h1,bq h1];by_cases h2:c∈j
     .rw[bw h2];rfl
     .rw[bq h2];rfl
   rw[eg];refine eB ac ?_ ⟨_,rfl⟩ (λb' o e'=>?_) ?_
   .unfold zbT;rw[ZB,ZB,XN];exact XM (show _<=64 by lia) (by decide)
   .rw[zj (zh e' hy)];exact n _ _ e'
   .rw[zb,Xx,ab];unfold zbT;rw[Xz,Xz];rfl
  rintro m H1 ⟨_,s1,B⟩;rw[d.length,XJ]at B;refine eE y (dD rfl (SqL.of B) ?_);refine d8 rfl t 0 rfl rfl (SqT.of (s1 _ _ ht)) rfl (dB rfl (dP rfl rfl (d8 rfl t 1 rfl rfl (SqT.of (s1 _ _ ht)) rfl (dI I rfl ⟨_,SqL.of (s1 _ _ g)⟩ (λz hz=>?_)))));refine qc (K:=K) (a:=I) (xs:=us) (λa=>a≠z) (p.map λc=>if (!(decide (c∈st) || decide (c∈j)))=true then some (zk c) else none) (fun m=>∃L,m=[L,some (.ref G)]) hz (λ_ h=>h) ⟨_,rfl⟩ (by rw[ZB];exact d.length.symm) (by rw[d.length];exact X6 U (by decide)) (SqL.of (s1 _ _ g)) ?_ ?_
  .rintro k x o m H2 hx ho J _ ⟨L,rfl⟩ Y Z ag no;obtain⟨c,hc,r1⟩:=Cel.get (Cel.mono (s1.trans J) d) hx;have M:=jd hc ho;obtain⟨ca,rfl,e⟩:=r1;refine dH rfl rfl (dF G (qO b (je c)) (dD rfl (zap.t (k:=je c) (J _ _ (s1 _ _ l)) e) (dB rfl ?_)));have ei:(!(qO b (je c)).isSome)=!(decide (c∈st) || decide (c∈j)):=by
    rw[hK c];by_cases h1:c∈st
    .rw[bw h1,br h1];rfl
    .rw[bq h1,bf h1];by_cases h2:c∈j
     .rw[bw h2,br h2];rfl
     .rw[bq h2,bf h2];rfl
   rw[ei];by_cases N:(!(decide (c∈st) || decide (c∈j)))=true
   .rw[bw N]at M;exact jb N ⟨_,rfl,ag _ _ _ _ M ⟨_,rfl⟩ (zo.refl _) (yk.rdn ⟨ca,rfl,e⟩)⟩
   .rw[bq N]at M;exact qW (Xs.mpr N) (no _ _ M ⟨_,rfl⟩ (zo.refl _))
  .rintro ys H2 J ae u;rw[zZ]at u;have aa:Cel H2 ys (jg j st p):=zx.cel u;refine⟨yi,λr v=>?_⟩;have z3:=zc (o:=.tup [.int (a0-(zbT st p).sum),.ref z]) v;exact q r z ys _ ((s1.trans J).free v) (s1.free hz) zb (z3 _ _ ae) (aa.mono z3) ((s1.trans J).trans z3)
def ZA (H:Hp)(v:V):Option AA->Prop
 | none=>v=V.str "all"
 | some c=>yk H v c
theorem ZA.mono {H b:Hp}{v:V}(s:zo H b):∀{c:Option AA},ZA H v c->ZA b v c
 | none,h=>h
 | some _,⟨a,e,h⟩=>⟨a,e,s _ _ h⟩
def zr7 (rs:AE)(n:Int):Option AA->Int
 | none=>n
 | some c=>((Cells.sgn (codes rs) c:Nat):Int)-48
def zqY (rs:AE):Option AA->AD
 | none=>zI rs
 | some c=>clA rs c
def zfU:Sp:=λg H Q _=>∃(p l:Addr) (b:AE) (n:Int) (v:V) (d:Option AA),g=[.ref p,v]/\qf H p l b n/\Rows bd.cps.toList b/\ZA H v d/\(∀c,d=some c->c∈zT b) /\
 ∀(t e:Addr) (f:AF) (a:Hp),H t=none->H e=none->a t=some (.tup [.int (zr7 b n d),.ref e])->a e=some (.lst f)->Cel a f (zqY b d)->zo H a->Q (.ref t) a
abbrev Rg:=AD×Int×Int
def RgR (H:Hp)(v:V)(g:Rg):Prop:=∃t l a,v=V.ref t/\H t=some (.tup [.ref l,.int g.2.1,.int g.2.2])/\H l=some (.lst a)/\Cel H a g.1
def zhn (H:Hp):AF->List Rg->Prop:=Xl (RgR H)
theorem zhn.get {H:Hp}:∀{vs:AF} {gs:List Rg} {i:Nat} {v:V},zhn H vs gs->vs[i]?=some v->∃g,gs[i]?=some g/\RgR H v g
 | _,_,_,_,.nil,e=>by simp at e
 | _,_,0,_,.cons r _,e=>by
  simp at e;subst e;exact⟨_,rfl,r⟩
 | _,_,i+1,v,.cons _ t,e=>by
  obtain⟨c,h1,h2⟩:=zhn.get (i:=i) (v:=v) t (by simpa using e);exact⟨c,by simpa using h1,h2⟩
def qU (gs:List Rg):AD:=gs.flatMap λg=>if g.2.2=0 then g.1 else []
def qV (gs:List Rg):AD:=gs.flatMap λg=>if g.2.1=((g.1.length:Nat):Int) then g.1 else []
theorem zdD (p:Rg->Bool):∀gs:List Rg,(gs.flatMap λg=>if p g=true then g.1 else []).Sublist (gs.flatMap λg=>g.1)
 | []=>List.Sublist.refl _
 | g::r=>by
  rw[UN,UN];refine List.Sublist.append ?_ (zdD p r);split
  .exact List.Sublist.refl _
  .exact Rb _
def YN (gs:List Rg):(qU gs).Sublist (gs.flatMap λg=>g.1):=by
 have:=zdD (λg=>decide (g.2.2=0)) gs;simpa[qU] using this
def YO (gs:List Rg):(qV gs).Sublist (gs.flatMap λg=>g.1):=by
 have:=zdD (λg=>decide (g.2.1=((g.1.length:Nat):Int))) gs;simpa[qV] using this
def ze8 {α:Type}(f:Rg->List α){gs:List Rg}{i:Nat}{g:Rg}(h:gs[i]?=some g):(gs.take (i+1)).flatMap f=(gs.take i).flatMap f++f g:=by
 rw[Xx,h,Ve];simp
def zlc:Sp:=λj H Q _=>∃(r:Addr) (f:AF) (b:List Rg),j=[.ref r]/\H r=some (.lst f)/\zhn H f b/\(b.flatMap λg=>g.1).Nodup/\(b.flatMap λg=>g.1).length<64 /\
 ∀(t c d:Addr) (h i:AF) (c1 e:AD) (a:Hp),H t=none->H c=none->H d=none->c≠d->a t=some (.tup [.ref c,.ref d])->a c=some (.lst h)->a d=some (.lst i)->Cel a h c1->Cel a i e ->
  c1.Perm (qU b)->e.Perm (qV b)->c1.Pairwise Cells.lex->e.Pairwise Cells.lex->zo H a->Q (.ref t) a
def zfV {f:AD}(g:f.Nodup)(h:(f.map toI).Pairwise λp q=>lt2 q p=false):f.Pairwise Cells.lex:=by
 rw[Wh]at h;refine(h.and g).imp λ{c d} ⟨a,i⟩=>?_;have b:¬ Cells.lex d c:=λz=>by
  rw[zjD.mpr z]at a;cases a
 have e:¬ (c.1=d.1/\c.2=d.2):=λz=>i (N2 z.1 z.2);unfold Cells.lex at *
 lia
def zho:zB ["board","thing"] ["board","thing"] (zp Yy):=bh
def zcb {f1 f2 f3 f4 f5 f6:Addr}{B G I J L M:XD}(T:Txt mg)(D:zm K mg "asked_by" Yy ["board","thing"] f fd)(zJ:zm K mg "around" jK ["board","cell"] f1 B)(zq:zm K mg "sign_at" qw ["board","cell"] f2 G)(zv:zm K mg "cells_of" qv ["board"] f3 I)
  (qR:zm K mg "closed" ZT ["board"] f4 J) (zO:zm K mg "number_at" jt ["board","cell"] f5 L) (zz:zm K mg "closed_around" qB ["board","cell"] f6 M):zU P w K mg base CX0 3 f fd ["board","thing"] zfU:=by
 refine D.F.ok zho (λvs H Q E h=>?_) (λae A Y s H vs Q E y h=>?_)
 .revert h;refine fQ λp l m n=>fP λv th z0 _=>?_;subst z0;rfl
 .revert h;refine fQ λp l m n=>fV λv th z0 b R x O q=>?_;subst z0;refine⟨_,(ze (qy (jh (yx y.units) (pv 1) (xJ (v:=.str "all") (by rfl) T.zmG.choose_spec (by exact⟨_,rfl⟩)) (zP _)) (zg (zw (qj (za (zF qN (pv 0) zf (λ_ _=>rfl)) (za (pc0 (zbI T qR zv zq) y qR (za (pv 0) zd)) zd))))) zY) (zg (zw (qj (za (pc0 (YD T zO zq) y zO (za (pv 0) (za (pv 1) zd))) (za (pc0 (yd T zz zJ zq) y zz (za (pv 0) (za (pv 1) zd))) zd)))))),?_⟩;(try dsimp only[cxK,cxP,cxW]);cases th with
  | none =>
   have ev:v=V.str "all":=x;subst ev;refine dB rfl (dY (.str "all") (.str "all") (.str _) (.str _) ⟨by decide+kernel,by decide+kernel,by decide+kernel⟩ (dB rfl (jb (by decide+kernel) ?_)));refine d8 rfl p 1 rfl rfl (SqT.of b.tp) rfl (dB rfl (dR p l m n (dZ rfl b R (λd ws H1 N g a s1=>⟨yi,λt u=>?_⟩))));have j:=zc (o:=.tup [.int n,.ref d]) u;exact q t d ws _ (s1.free u) N zb (j _ _ g) (a.mono j) (s1.trans j)
  | some c =>
   obtain⟨z,rfl,e⟩:=x;have hc:=O c rfl;refine fD (λt0 k i hk U r ac=>?_) (R.openAt hc);obtain⟨k1,k2⟩:=zbJ r U;obtain⟨aa,ab⟩:=yy R i hk;have es:Cells.sgn (codes m) c=k:=Cells.zc9 (j9 i) hk;refine dB rfl (dY (zk c) (.str "all") (yk.rdv ⟨z,rfl,e⟩) (.str _) ⟨rfl,by decide+kernel,by show max 0 (max 0 0)+1<=64;decide⟩ (dB rfl (qW rfl ?_)));refine dH rfl rfl (eV p l z m n c.1 c.2 t0 (dO k rfl b e i (dJ hk ac k1 k2 (dH rfl rfl (dR p l z m (dU n c rfl b R e (dD aa ab (λd ws H1 N g a s1=>⟨yi,λt u=>?_⟩))))))));have j:=zc (o:=.tup [.int ((k:Int)-48),.ref d]) u;refine q t d ws _ (s1.free u) N ?_ (j _ _ g) (a.mono j) (s1.trans j);rw[zb];show some (HO.tup [.int ((k:Int)-48),.ref d])=some (.tup [.int (((Cells.sgn (codes m) c:Nat):Int)-48),.ref d]);rw[es]
def xu:zB ["regions","clears","stones","cells","least","most"] ["regions"] (zp ZU):=bh
def ziI (T:Txt mg)(D:zm K mg "settled" ZU ["regions"] f fd):zU P w K mg base CX0 1 f fd ["regions"] zlc:=by
 refine D.F.ok xu (λvs H Q E h=>?_) (λa5 A aw s H vs Q E hr h=>?_)
 .revert h;refine fX λr us c z0 _=>?_;subst z0;rfl
 .revert h;refine fT λr us c z0 ak af ah y q=>?_;subst z0;have lc:∀i,(qU (c.take i)).length<64:=λi=>XM (X6 (YN (c.take i)).length_le (by
   have:c=c.take i++c.drop i:=(W7 i c).symm;conv=>rhs;rw[this,Ve,XY]
   exact U8 _ _)) y
  have ls:∀i,(qV (c.take i)).length<64:=λi=>XM (X6 (YO (c.take i)).length_le (by
   have:c=c.take i++c.drop i:=(W7 i c).symm;conv=>rhs;rw[this,Ve,XY]
   exact U8 _ _)) y
  have lg:∀{g:Rg},g∈c->g.1.length<64:=λ{g} hg=>XM (by
   obtain⟨i,hi⟩:=List.getElem?_of_mem hg;obtain⟨hl,e⟩:=X4.mp hi;have e1:c=c.take i++g::c.drop (i+1):=by
    rw[<- e,List.getElem_cons_drop,W7]
   rw[e1,Ve,UN,XY,XY];lia) y
  refine⟨_,(@ze _ _ _ _ _ (@qu _ _ 1 _ _ _ _ xu.nd rfl (VL rfl) (@zW _ _ _ _ zd) (by rfl) (.inr rfl)) (@ze _ _ _ _ _ (@qu _ _ 2 _ _ _ _ xu.nd rfl (VL rfl) (@zW _ _ _ _ zd) (by rfl) (.inr rfl)) (ze (qt Xe rfl (zG (pv 0)) (yX rfl (zM (pgq 3 xu.nd) (zM (pgq 4 xu.nd) (zM (pgq 5 xu.nd) jw)))) (zjc (qy (jh ZD (pv 5) zf (zP _)) (zg (jR (Ze WO UH UG QN (pv 1) (za (pv 3) zd)))) zY) (zg (qy (jh ZD (pv 4) (pb1 qe T.qC Xg (pv 3)) (zP _)) (zg (jR (Ze WO UH UG QN (pv 2) (za (pv 3) zd)))) zY)))) (zg (zw (qj (za (pb1 GS.jM T.yU Ws (pv 1)) (za (pb1 GS.jM T.yU Ws (pv 2)) zd)))))))),?_⟩;(try dsimp only[cxK,cxP,cxW]);refine⟨yR,λp U=>⟨yR,λI Y=>?_⟩⟩;have z1:=zc (o:=.lst []) U;have z2:=zc (o:=.lst []) Y;have am:p≠I:=zh (show upd H p (.lst []) p=some (.lst []) from zb) Y;have f2:=z1.free Y;have s0:=z1.trans z2;refine dB rfl (dI r rfl ⟨_,SqL.of (s0 _ _ ak)⟩ ?_);refine jG (K:=K) (a:=r) (xs:=us) (λi σ m=>∃(v3 v4 v5:Option V) (N J:AF),σ=[some (.ref r),some (.ref p),some (.ref I),v3,v4,v5]/\zo H m/\m p=some (.lst N)/\m I=some (.lst J)/\Cel m N (qU (c.take i))/\Cel m J (qV (c.take i)))
   (dG ⟨_,(eK [] [] rfl s0 (z2 _ _ zb) zb (.nil) (.nil))⟩) (λi σ m _ ⟨_,_,_,_,_,_,s',_⟩=>SqL.of (s' _ _ ak)) ?_ ?_
  .refine λi x σ H1 hx=>gh λv3 v4 v5 N J=>fJ λz0 s1 h1 h2 d u=>?_;subst z0;refine gk (λg hg t l ws z0 aq aa ae=>?_) (zhn.get af hx);subst z0;have ht:=s1 _ _ aq;have hl:=s1 _ _ aa;have L:=ae.mono s1;have av:l≠p:=zh aa U;have a7:l≠I:=zh aa f2;have gm:=X8 hg;have a6:=lg gm;have e1:qU (c.take (i+1))=qU (c.take i)++(if g.2.2=0 then g.1 else []):=ze8 _ hg;have e2:qV (c.take (i+1))=qV (c.take i)++(if g.2.1=((g.1.length:Nat):Int) then g.1 else []):=ze8 _ hg;have a3:=lc i;have a4:=ls i;refine e9 t rfl (SqT.of ht) rfl (fh rfl (fk rfl rfl rfl ?_));refine⟨fun ao m=>∃(G:AF),ao=[some (.ref r),some (.ref p),some (.ref I),some (.ref l),some (.int g.2.1),some (.int g.2.2)]/\zo H m/\m p=some (.lst G)/\m I=some (.lst J)/\Cel m G (qU (c.take (i+1)))/\Cel m J (qV (c.take i))/\m l=some (.lst ws)/\Cel m ws g.1,?_,?_⟩
   .refine dN rfl rfl (dB rfl (zcm (λhp=>?_) (λhp=>?_)))
    .have j:g.2.2=0:=V.int.inj (bg hp);rw[bw j]at e1;refine dN rfl (.inl ⟨rfl,_,SqL.of h1⟩) (dB rfl (dR p l N ws (dQ rfl rfl h1 hl ?_ (dO (N++ws) rfl (λb o e=>?_) zb ?_ (dZ ?_ (Cel.into p _ h1 u) ?_ (Cel.into p _ h1 L))))))
     .rw[d.length,L.length];exact X6 (show _<=200 by lia) (by decide)
     .rw[zj (zh e U)];exact s1 _ _ e
     .rw[zj (UY am)];exact h2
     .rw[e1];exact Cel.into p _ h1 (Cel.append d L)
     .rw[zj av];exact hl
    .have j:¬ g.2.2=0:=λz=>hp (br (by rw[z]));rw[bq j,Xf]at e1;exact dO N rfl s1 h1 h2 (dZ (by rw[e1];exact d) u hl L)
   .refine λao H2=>fU λG z0 s2 ab v=>fE λM B ag n=>?_;subst z0;refine dH rfl rfl (e9 l rfl (.inl (SqL.of ag)) rfl (dB rfl (zcm (λhp=>?_) (λhp=>?_))))
    .have j:g.2.1=((g.1.length:Nat):Int):=by
      have:=V.int.inj (bg hp);rw[n.length]at this;exact this
     rw[bw j]at e2;refine dN rfl (.inl ⟨rfl,_,SqL.of v⟩) (dB rfl (dR I l J ws (dQ rfl rfl v ag ?_ (dG ⟨_,(eK G (J++ws) rfl (λb o e=>?_) ?_ zb (Cel.into I _ v M) ?_)⟩))))
     .rw[B.length,n.length];exact X6 (show _<=200 by lia) (by decide)
     .rw[zj (zh e f2)];exact s2 _ _ e
     .rw[zj am];exact ab
     .rw[e2];exact Cel.into I _ v (Cel.append B n)
    .have j:¬ g.2.1=((g.1.length:Nat):Int):=λz=>hp (br (by rw[z,n.length]));rw[bq j,Xf]at e2;exact dG ⟨_,(eK G J rfl s2 ab v M (by rw[e2];exact B))⟩
  .refine λσ H1=>gh λv3 v4 v5 N J=>fJ λz0 s1 h1 h2 d u=>?_;subst z0;have gl:us.length=c.length:=Paired.length af;rw[gl,XJ]at d u;have n1:(qU c).Nodup:=ah.sublist (YN c);have n2:(qV c).Nodup:=ah.sublist (YO c);have m1:(qU c).length<64:=XM (YN c).length_le y;have m2:(qV c).length<64:=XM (YO c).length_le y;refine dB rfl (dF p N (eB rfl (SqL.of h1) (Cel.tup2 d) (by rw[d.length];lia) (λa1 u1 p1 ac ar ay az=>?_)));obtain⟨q1,rfl,ai⟩:=YF ay;have z3:=zc (o:=.lst u1) ac;refine dB rfl (dF I J (eB rfl (SqL.of (z3 _ _ h2)) (Cel.tup2 (u.mono z3)) (by rw[u.length];lia) (λa2 u2 p2 O au ax al=>?_)));obtain⟨q2,rfl,aj⟩:=YF ax;have z4:=zc (o:=.lst u2) O;have na:a1≠a2:=zh (show upd H1 a1 (.lst u1) a1=some (.lst u1) from zb) O;refine⟨yi,λt ht=>?_⟩;have z5:=zc (o:=.tup [.ref a1,.ref a2]) ht;have an:=(s1.trans z3).trans z4;exact q t a1 a2 u1 u2 q1 q2 _ (an.free ht) (s1.free ac) ((s1.trans z3).free O) na zb (z5 _ _ (z4 _ _ zb)) (z5 _ _ zb) (Cel.mono ((z3.trans z4).trans z5) (qJ ar)) (Cel.mono (z4.trans z5) (qJ au)) ai aj (zfV (ai.nodup_iff.mpr n1) az) (zfV (aj.nodup_iff.mpr n2) al) (an.trans z5)
def Two.both (A B:AD):AD:=A.filter λc=>decide (c∈B)
def Two.alone (A B:AD):AD:=A.filter λc=>!decide (c∈B)
def zbU (A B:AD)(a b:Int):Int:=mx3 0 (a-((Two.alone A B).length:Nat)) (b-((Two.alone B A).length:Nat))
def zbV (A B:AD)(a b:Int):Int:=mn3 ((Two.both A B).length:Nat) a b
def zld (A B:AD)(a b:Int):List Rg:=[(Two.both A B,zbU A B a b,zbV A B a b),(Two.alone A B,a-zbV A B a b,a-zbU A B a b),(Two.alone B A,b-zbV A B a b,b-zbU A B a b)]
abbrev Ak:=Int×AD
def AkV (H:Hp)(v:V)(k:Ak):Prop:=∃(t l:Addr) (a:AF),v=V.ref t/\H t=some (.tup [.int k.1,.ref l])/\H l=some (.lst a)/\Cel H a k.2
def ak1 (ks:List Ak):Ak:=ks.getD 0 (0,[])
def ak2 (ks:List Ak):Ak:=ks.getD 1 (0,[])
def gsU (ks:List Ak):List Rg:=zld (ak1 ks).2 (ak2 ks).2 (ak1 ks).1 (ak2 ks).1
def zq0 (ks:List Ak):Prop:=zbU (ak1 ks).2 (ak2 ks).2 (ak1 ks).1 (ak2 ks).1<=zbV (ak1 ks).2 (ak2 ks).2 (ak1 ks).1 (ak2 ks).1
def zbW:Sp:=λj H Q _=>∃(f:Addr) (g:AF) (b:List Ak),j=[.ref f]/\H f=some (.lst g)/\Xl (AkV H) g b/\(b.length=1\/b.length=2)/\(∀k∈b,k.2.Nodup/\k.2.length<=20) /\
 zq0 b/\∀(t c d:Addr) (h i:AF) (c1 e:AD) (a:Hp),H c=none->H d=none->c≠d->a t=some (.tup [.ref c,.ref d])->a c=some (.lst h)->a d=some (.lst i)->Cel a h c1->Cel a i e->c1.Perm (qU (gsU b))->e.Perm (qV (gsU b))->c1.Pairwise Cells.lex->e.Pairwise Cells.lex->zo H a->Q (.ref t) a
def zoW (A B:AD):(A.filter λc=>!decide (c∈Two.both A B))=Two.alone A B:=by
 unfold Two.alone Two.both;refine Vy λx a=>?_;congr 1;rw[decide_eq_decide,XW,bu];exact⟨λh=>h.2,λh=>⟨a,h⟩⟩
def zng (A B:AD):(B.filter λc=>!decide (c∈Two.both A B))=Two.alone B A:=by
 unfold Two.alone Two.both;refine Vy λx a=>?_;congr 1;rw[decide_eq_decide,XW,bu];exact⟨λh=>h.1,λh=>⟨h,a⟩⟩
def zjN (a:AD)(c:AA):(a.any λz=>decide (z=c))=decide (c∈a):=by
 rw[WV,WG,bu];constructor
 .rintro⟨x,h1,h2⟩;have e:x=c:=bg h2;rw[<- e];exact h1
 .intro h;exact⟨c,h,br rfl⟩
def Q8 {K:XX}{H:Hp}{vs:AF}{a:AD}(b:Cel H vs a):JN K H vs (a.map zk):=by
 induction b with
 | nil=>exact .nil
 | cons h _ c=>exact .cons (yk.rdv h) c
def zjO (g:AD)(c:AA):(if false=true then !(g.map zk).any (λz=>Xa z (zk c)) else (g.map zk).any λz=>Xa z (zk c))=decide (c∈g):=(x9 _ _).trans (zjN _ _)
def zhp (g:AD)(c:AA):(if true=true then !(g.map zk).any (λz=>Xa z (zk c)) else (g.map zk).any λz=>Xa z (zk c))=!decide (c∈g):=congrArg (λb=>!b) ((x9 _ _).trans (zjN _ _))
def zsQ {A:Hp->Addr->Prop}{G:Hp->Addr->Prop}{R:Prop}(k:∀H t,A H t->G H t)(h:(∀H t,A H t->G H t)->R):R:=h k
def yI:zB ["asked","one","other","both","one_alone","other_alone","least","most"] ["asked"] (zp za8):=bh
def ze9 {f1:Addr}{a9:XD}(T:Txt mg)(D:zm K mg "gained" za8 ["asked"] f fd)(JK:zm K mg "settled" ZU ["regions"] f1 a9):zU P w K mg base CX0 2 f fd ["asked"] zbW:=by
 refine D.F.ok yI (λvs H Q E h=>?_) (λaO A aK s H vs Q E hr h=>?_)
 .revert h;refine fX λla ls ks z0 _=>?_;subst z0;rfl
 .revert h;refine fC λla ls ks z0 J hP az=>fB λa1 ae q0=>?_;subst z0;refine⟨_,(ze (qA 1 yI.nd (zF ji (pv 0) zf (λ_ _=>rfl))) (ze (qA 2 yI.nd (zlw (jh ZD (pb1 qe T.qC Xg (pv 0)) zf (zP _)) (zF ji (pv 0) zf (λ_ _=>rfl)) (@qj _ _ _ _ _ (@za _ _ _ _ _ zf (@za _ _ _ _ _ (@zW _ _ _ _ zd) zd rfl) rfl)))) (ze (qA 3 yI.nd (pcm ["cell","other"] [none,some 2] cR (zG (zF qN (pv 1) zf (λ_ _=>rfl))) (pgN 0) (qk (jh (qI (K:=K) (by rfl) hr.units) (pv 0) (zF (zn0 (K:=K) (by rfl)) (pv 1) zf (λ_ _=>rfl)) (by rfl))) (pv 0))) (ze (psC 4 yI.nd ["cell","both"] [none,some 3] cR (zG (zF qN (pv 1) zf (λ_ _=>rfl))) (pgN 0) (qk (jh (Y9 (K:=K) (by rfl) hr.units) (pv 0) (pv 1) (by rfl))) (pv 0)) (ze (psC 5 yI.nd ["cell","both"] [none,some 3] cR (zG (zF qN (pv 2) zf (λ_ _=>rfl))) (pgN 0) (qk (jh (Y9 (K:=K) (by rfl) hr.units) (pv 0) (pv 1) (by rfl))) (pv 0)) (ze (qA 6 yI.nd (yM (zkw rfl) (by rfl) T.zgX UW (@za _ _ _ _ _ zf (za (zC Zv (zF qN (pv 1) zf (λ_ _=>rfl)) (pb1 qe T.qC Xg (pv 4))) (za (zC Zv (zF qN (pv 2) zf (λ_ _=>rfl)) (pb1 qe T.qC Xg (pv 5))) zd)) rfl))) (ze (qA 7 yI.nd (yM (zkx rfl) (by rfl) T.zeQ Vr (za (pb1 qe T.qC Xg (pv 3)) (za (zF qN (pv 1) zf (λ_ _=>rfl)) (za (zF qN (pv 2) zf (λ_ _=>rfl)) zd))))) (ze (qy (jh zpf (pv 6) (pv 7) (zP _)) (zg zgd) zY) (zg (zw (pc0 (ziI T JK) hr JK (za (zW (za (qj (za (pv 3) (za (pv 6) (za (pv 7) zd)))) (za (qj (za (pv 4) (za (zC Zv (zF qN (pv 1) zf (λ_ _=>rfl)) (pv 7)) (za (zC Zv (zF qN (pv 1) zf (λ_ _=>rfl)) (pv 6)) zd)))) (za (qj (za (pv 5) (za (zC Zv (zF qN (pv 2) zf (λ_ _=>rfl)) (pv 7)) (za (zC Zv (zF qN (pv 2) zf (λ_ _=>rfl)) (pv 6)) zd)))) zd)))) zd)))))))))))),?_⟩;(try dsimp only[cxK,cxP,cxW]);refine GS.via λGG G=>?_;obtain⟨g,N,us,a,A,aj,ah,ax,nA,lA,L⟩:∃(g N:Addr) (us:AF) (a:Int) (A:AD),H g=some (.tup [.int a,.ref N])/\H N=some (.lst us)/\Cel H us A/\A.Nodup/\A.length<=20/\((ls=[.ref g]/\ks=[(a,A)])\/∃(d v:Addr) (U:AF) (b:Int) (B:AD),ls=[.ref g,.ref d]/\ks=[(a,A),(b,B)]/\H d=some (.tup [.int b,.ref v])/\H v=some (.lst U)/\Cel H U B/\B.Nodup/\B.length<=20):=by
   cases hP with
   | nil=>rcases az with h | h<;>cases h
   | cons x xs =>
    revert x;refine fF λg N us z0 h1 h2 h3=>?_;subst z0;have n1:=a1 _ XQ;refine dF g N (dM us (dQ h1 h2 h3 n1.1 n1.2 ?_));cases xs with
    | nil=>exact .inl ⟨rfl,rfl⟩
    | cons y ys =>
     revert y;refine fF λd v U z0 g1 g2 g3=>?_;subst z0;cases ys with
     | nil =>
      have n2:=a1 _ (XT _ XQ);exact .inr (dF d v (dM U (dJ rfl rfl g1 g2 (dD g3 n2.1 n2.2))))
     | cons z zs =>
      rcases az with h | h<;>simp at h
  refine G ?_;clear G GG;have a3:atI ls 0=some (.ref g):=by
   rcases L with ⟨rfl,_⟩ | ⟨_,_,_,_,_,rfl,_⟩<;>rfl
  refine dB rfl (dM la (dO (.ref g) rfl rfl (SqL.of J) a3 ?_));refine' zsQ (A:=λ(H:Hp) (d:Addr)=>∃(v:Addr) (b:Int) (U:AF) (B:AD),H g=some (.tup [.int a,.ref N])/\H N=some (.lst us)/\Cel H us A/\H d=some (.tup [.int b,.ref v])/\H v=some (.lst U)/\Cel H U B/\B.Nodup/\B.length<=20/\zbU A B a b<=zbV A B a b/\∀(t d1 d2:Addr) (w1 w2:AF) (c1 c2:AD) (H':Hp),H d1=none->H d2=none->d1≠d2->H' t=some (.tup [.ref d1,.ref d2])->H' d1=some (.lst w1)->H' d2=some (.lst w2)->Cel H' w1 c1->Cel H' w2 c2->c1.Perm (qU (zld A B a b))->c2.Perm (qV (zld A B a b))->c1.Pairwise Cells.lex->c2.Pairwise Cells.lex->zo H H'->Q (.ref t) H') ?rest (λa7=>?tail)
  case tail =>
   have ao:=L
   rcases ao with ⟨al,ak⟩ | ⟨d,v,U,b,B,al,ak,i,I,hB,nB,lB⟩
   .have m:H la=some (.lst [.ref g]):=by rw[<- al];exact J
    have q1:=q0;have x1:=ae;rw[ak]at q1 x1;refine eN rfl la (dZ rfl (.inl (SqL.of m)) rfl (dB rfl (qW (by show decide (V.int ((1:Nat):Int)=V.int 2)=false;decide) ⟨yR,λe1 aD=>⟨yi,λd i=>?_⟩⟩)));have z1:=zc (o:=.lst []) aD;have z2:=zc (o:=.tup [.int 0,.ref e1]) i;have s2:=z1.trans z2;have an:upd (upd H e1 (.lst [])) d (.tup [.int 0,.ref e1]) e1=some (.lst []):=z2 _ _ zb;have M:upd (upd H e1 (.lst [])) d (.tup [.int 0,.ref e1]) d=some (.tup [.int 0,.ref e1]):=zb;clear z1 z2;revert s2 an M;generalize upd (upd H e1 (.lst [])) d (.tup [.int 0,.ref e1])=H2;intro s2 an M;exact a7 H2 d (dR e1 0 [] [] (dJ (s2 _ _ aj) (s2 _ _ ah) (ax.mono s2) M (dQ an (.nil) Vn (by decide) x1 (λt d1 d2 w1 w2 c1 c2 H' f1 f2 f3 g1 g2 g3 g4 g5 g6 g7 g8 g9 s'=>q1 t d1 d2 w1 w2 c1 c2 H' (s2.free f1) (s2.free f2) f3 g1 g2 g3 g4 g5 g6 g7 g8 g9 (s2.trans s')))))
   .have m:H la=some (.lst [.ref g,.ref d]):=by rw[<- al];exact J
    have q1:=q0;have x1:=ae;rw[ak]at q1 x1;refine eN rfl la (dZ rfl (.inl (SqL.of m)) rfl (dB rfl (jb (by show decide (V.int ((2:Nat):Int)=V.int 2)=true;decide) (dB rfl (dM la (dO (.ref d) rfl rfl (SqL.of m) rfl ?_))))));exact a7 H d (dR v b U B (dJ aj ah ax i (dQ I hB nB lB x1 q1)))
  intro H d hh;refine GS.via λGG G=>?_;revert hh;refine fS λv b U B aq ab hA i=>fJ λI hB nB lB hg q=>?_;refine G ?_;clear G GG;refine d8 rfl g 1 rfl rfl (SqT.of aq) rfl (dI N rfl ⟨_,SqL.of ab⟩ (λz hz=>?_));refine qc (K:=K) (a:=N) (xs:=us) (λa=>a≠z) (A.map λc=>if decide (c∈B)=true then some (zk c) else none) (fun σ=>∃u0,σ=[u0,some (.ref d)]) hz (λ_ h=>h) ⟨_,rfl⟩ (by rw[ZB];exact hA.length.symm) (by rw[hA.length];exact X6 lA (by decide)) (SqL.of ab) ?_ ?_
  .rintro k x o σ H4 hx ho u _ ⟨u0,rfl⟩ Y Z aa no;obtain⟨c,hc,rc⟩:=Cel.get (Cel.mono u hA) hx;have l:=jd hc ho;refine dH rfl rfl (eE d (eX 1 rfl rfl (SqT.of (u _ _ i)) rfl (eK (zk c) (B.map zk) rc.rdv (.lst (SqL.of (u _ _ I)) (Q8 (hB.mono u))) rfl (Y0 _) (by show 1<=60;decide) (dB rfl ?_))));rw[zjO];by_cases n:decide (c∈B)=true
   .rw[bw n]at l;exact jb n ⟨_,rfl,aa _ _ _ _ l ⟨_,rfl⟩ (zo.refl _) rc.rdn⟩
   .rw[bq n]at l;exact qW (Xs.mpr n) (no _ _ l ⟨_,rfl⟩ (zo.refl _))
  rintro yb H3 s3 ar ac;rw[zZ]at ac;have am:Cel H3 yb (Two.both A B):=zx.cel ac;refine d8 rfl g 1 rfl rfl (SqT.of (s3 _ _ aq)) rfl (dI N rfl ⟨_,SqL.of (s3 _ _ ab)⟩ (λo1 aF=>?_));refine qc (K:=K) (a:=N) (xs:=us) (λa=>a≠o1) (A.map λc=>if (!decide (c∈Two.both A B))=true then some (zk c) else none) (fun σ=>∃u0,σ=[u0,some (.ref z)]) aF (λ_ h=>h) ⟨_,rfl⟩ (by rw[ZB];exact hA.length.symm) (by rw[hA.length];exact X6 lA (by decide)) (SqL.of (s3 _ _ ab)) ?_ ?_
  .rintro k x o σ H4 hx ho u _ ⟨u0,rfl⟩ Y Z aa no;obtain⟨c,hc,rc⟩:=Cel.get (Cel.mono (s3.trans u) hA) hx;have l:=jd hc ho;refine dH rfl rfl (eK (zk c) ((Two.both A B).map zk) rc.rdv (.lst (SqL.of (u _ _ ar)) (Q8 (am.mono u))) rfl (Y0 _) (by show 1<=60;decide) (dB rfl ?_));rw[zhp];by_cases n:(!decide (c∈Two.both A B))=true
   .rw[bw n]at l;exact jb n ⟨_,rfl,aa _ _ _ _ l ⟨_,rfl⟩ (zo.refl _) rc.rdn⟩
   .rw[bq n]at l;exact qW (Xs.mpr n) (no _ _ l ⟨_,rfl⟩ (zo.refl _))
  rintro yo H4 u aH a4;rw[zZ,zoW]at a4;have aA:Cel H4 yo (Two.alone A B):=zx.cel a4;have O:=s3.trans u;refine d8 rfl d 1 rfl rfl (SqT.of (O _ _ i)) rfl (dI v rfl ⟨_,SqL.of (O _ _ I)⟩ (λo2 aG=>?_));refine qc (K:=K) (a:=v) (xs:=U) (λa=>a≠o2) (B.map λc=>if (!decide (c∈Two.both A B))=true then some (zk c) else none) (fun σ=>∃u0,σ=[u0,some (.ref z)]) aG (λ_ h=>h) ⟨_,rfl⟩ (by rw[ZB];exact hB.length.symm) (by rw[hB.length];exact X6 lB (by decide)) (SqL.of (O _ _ I)) ?_ ?_
  .rintro k x o σ H5 hx ho s5 _ ⟨u0,rfl⟩ Y Z aa no;obtain⟨c,hc,rc⟩:=Cel.get (Cel.mono (O.trans s5) hB) hx;have l:=jd hc ho;refine dH rfl rfl (eK (zk c) ((Two.both A B).map zk) rc.rdv (.lst (SqL.of (s5 _ _ (u _ _ ar))) (Q8 (am.mono (u.trans s5)))) rfl (Y0 _) (by show 1<=60;decide) (dB rfl ?_));rw[zhp];by_cases n:(!decide (c∈Two.both A B))=true
   .rw[bw n]at l;exact jb n ⟨_,rfl,aa _ _ _ _ l ⟨_,rfl⟩ (zo.refl _) rc.rdn⟩
   .rw[bq n]at l;exact qW (Xs.mpr n) (no _ _ l ⟨_,rfl⟩ (zo.refl _))
  rintro y2 H5 s5 a2 a5;rw[zZ,zng]at a5;have ay:Cel H5 y2 (Two.alone B A):=zx.cel a5;have au:=O.trans s5;have ai:=s5 _ _ aH;have a6:=s5 _ _ (u _ _ ar);have af:=am.mono (u.trans s5);have r:=au _ _ i;have p:=au _ _ aq;have ag:=aA.mono s5;refine d8 rfl g 0 rfl rfl (SqT.of p) rfl (eN rfl o1 (dD rfl (.inl (SqL.of ai)) (dP rfl rfl (d8 rfl d 0 rfl rfl (SqT.of r) rfl (eN rfl o2 (dD rfl (.inl (SqL.of a2)) (dP rfl rfl (dG (dB rfl ?_)))))))));refine eN rfl z (dD rfl (.inl (SqL.of a6)) (d8 rfl g 0 rfl rfl (SqT.of p) rfl (d8 rfl d 0 rfl rfl (SqT.of r) rfl (dG (dB rfl ?_)))));refine dH rfl rfl (dP rfl rfl (dB rfl ?_));have eL:mx3 0 (a-((yo.length:Nat):Int)) (b-((y2.length:Nat):Int))=zbU A B a b:=by
   unfold zbU;rw[ag.length,ay.length]
  have eM:mn3 ((yb.length:Nat):Int) a b=zbV A B a b:=by
   unfold zbV;rw[af.length]
  rw[eL,eM];refine qW (bf (by lia)) ?_;have q':=q;unfold zld at q';generalize zbU A B a b=lo at *
  generalize zbV A B a b=hi at *
  refine dH rfl rfl (dN rfl zij (λr1 aI=>?_));have y1:=zc (o:=.tup [.ref z,.int lo,.int hi]) aI;have x1:upd H5 r1 (.tup [.ref z,.int lo,.int hi]) r1=some (.tup [.ref z,.int lo,.int hi]):=zb;refine dH rfl rfl (eE g (eX 0 rfl rfl (SqT.of (y1 _ _ p)) rfl (dB rfl (dP rfl rfl (d8 rfl g 0 rfl rfl (SqT.of (y1 _ _ p)) rfl (eU rfl rfl rfl zij (λr2 ao=>?_)))))));have a8:=zc (o:=.tup [.ref o1,.int (a-hi),.int (a-lo)]) ao;have av:=y1.trans a8;refine dH rfl rfl (eE d (eX 0 rfl rfl (SqT.of (av _ _ r)) rfl (dB rfl (dP rfl rfl (d8 rfl d 0 rfl rfl (SqT.of (av _ _ r)) rfl (eU rfl rfl rfl zij (λr3 ac=>⟨zij,λrl aJ=>?_⟩)))))));have y3:=zc (o:=.tup [.ref o2,.int (b-hi),.int (b-lo)]) ac;have y4:=zc (o:=.lst [.ref r1,.ref r2,.ref r3]) aJ;have aw:=y3.trans y4;have j:=av.trans aw;have mB:∀{x:AA},x∈Two.both A B->x∈A/\x∈B:=λh=>⟨(XW.mp h).1,bg (XW.mp h).2⟩;have mA:∀{x:AA} {A B:AD},x∈Two.alone A B->x∈A/\x ∉ B:=λ{x A B} h=>⟨(XW.mp h).1,by
   have:=(XW.mp h).2;simpa using this⟩
  have aP:(Two.both A B).length<=20:=X6 (W6 _ _) lA;have aQ:(Two.alone A B).length<=20:=X6 (W6 _ _) lA;have aR:(Two.alone B A).length<=20:=X6 (W6 _ _) lB;refine eE rl (dO [(Two.both A B,lo,hi),(Two.alone A B,a-hi,a-lo),(Two.alone B A,b-hi,b-lo)] rfl zb (.cons (eS r1 z yb rfl (aw _ _ (a8 _ _ x1)) (j _ _ a6) (af.mono j)) (.cons (eS r2 o1 yo rfl (aw _ _ zb) (j _ _ ai) (ag.mono j)) (.cons (eS r3 o2 y2 rfl (y4 _ _ zb) (j _ _ a2) (ay.mono j)) .nil))) ?_ ⟨?_,λt d1 d2 w1 w2 c1 c2 H6 ht aB aC aE h1 h2 h3 k1 k2 p1 p2 aM aN s6=>?_⟩)
  .show (Two.both A B++(Two.alone A B++(Two.alone B A++[]))).Nodup;rw[Xf,WL,WL];refine⟨nA.sublist W5,⟨nA.sublist W5,nB.sublist W5,λx hx y hy e=>?_⟩,λx hx y hy e=>?_⟩
   .subst e;exact(mA hx).2 (mA hy).1
   .subst e;rcases XO.mp hy with hy | hy
    .exact(mA hy).2 (mB hx).2
    .exact(mA hy).2 (mB hx).1
  .show (Two.both A B++(Two.alone A B++(Two.alone B A++[]))).length<64;rw[Xf,XY,XY];lia
  .have sA:=au.trans j;exact q' t d1 d2 w1 w2 c1 c2 H6 (sA.free aB) (sA.free aC) aE h1 h2 h3 k1 k2 p1 p2 aM aN (sA.trans s6)
def zdE (a st:AD)(k:Ak):Ak:=(k.1-(zbT st k.2).sum,jg a st k.2)
theorem zfa {a st:AD}{p:AA->Bool}(d:∀c∈a,p c=false)(e:∀c∈st,p c=true):∀b:AD,((b.countP p:Nat):Int)=(zbT st b).sum+(((jg a st b).countP p:Nat):Int)
 | []=>rfl
 | c::r=>by
  have h:=zfa d e r;have g:(zbT st (c::r)).sum=(if c∈st then 1 else 0)+(zbT st r).sum:=by
   show (((c::r).map _).sum:Int)=_;rw[Xw,Ow];rfl
  have f:jg a st (c::r)=if (!(decide (c∈st) || decide (c∈a)))=true then c::jg a st r else jg a st r:=by
   unfold jg;rw[WE]
  rw[Wq,g,f];by_cases h1:c∈st
  .rw[e c h1,bw h1,br h1];show ((r.countP p+1:Nat):Int)=1+(zbT st r).sum+(((jg a st r).countP p:Nat):Int);lia
  .rw[bq h1,bf h1];by_cases h2:c∈a
   .rw[d c h2,br h2];show ((r.countP p+0:Nat):Int)=0+(zbT st r).sum+(((jg a st r).countP p:Nat):Int);lia
   .rw[bf h2];show ((r.countP p+(if p c=true then 1 else 0):Nat):Int)=0+(zbT st r).sum+(((c::jg a st r).countP p:Nat):Int);rw[Wq];lia
def znh {a st b:AD}{c:AA}:c∈jg a st b↔c∈b/\c ∉ st/\c ∉ a:=by
 unfold jg;rw[XW];simp
def zlf (p:AA->Bool)(gs:List Rg):Prop:=∀g∈gs,g.2.1<=((g.1.countP p:Nat):Int)/\((g.1.countP p:Nat):Int)<=g.2.2
def zlf.clear {p:AA->Bool}{gs:List Rg}(h:zlf p gs){c:AA}(b:c∈qU gs):p c=false:=by
 obtain⟨g,d,a⟩:=Uu.mp b;split at a
 .rename_i e;have:=(h g d).2;exact Xs.mpr (VO.mp (by lia) c a)
 .cases a
def zlf.stone {p:AA->Bool}{gs:List Rg}(h:zlf p gs){c:AA}(b:c∈qV gs):p c=true:=by
 obtain⟨g,d,a⟩:=Uu.mp b;split at a
 .rename_i e;have:=(h g d).1;have:=UV (p:=p) (l:=g.1);exact List.countP_eq_length.mp (by lia) c a
 .cases a
def zpz {A B:AD}{a b:Int}{p:AA->Bool}(e:A.Nodup)(f:B.Nodup)(m:((A.countP p:Nat):Int)=a)(n:((B.countP p:Nat):Int)=b):zlf p (zld A B a b)/\zbU A B a b<=zbV A B a b:=by
 have h:A.countP p=(Two.both A B).countP p+(Two.alone A B).countP p:=SE A p _;have i:B.countP p=(Two.both B A).countP p+(Two.alone B A).countP p:=SE B p _;have j:(Two.both B A).countP p=(Two.both A B).countP p:=OG _ ((Wl (f.sublist W5) (e.sublist W5)).mpr λc=>by
  rw[XW,XW,bu,bu];exact And.comm)
 have o:=UV (p:=p) (l:=Two.both A B);have q:=UV (p:=p) (l:=Two.alone A B);have r:=UV (p:=p) (l:=Two.alone B A);have lo:zbU A B a b<=(((Two.both A B).countP p:Nat):Int):=by
  unfold zbU mx3;repeat' split
  all_goals lia
 have d:(((Two.both A B).countP p:Nat):Int)<=zbV A B a b:=by
  unfold zbV mn3;repeat' split
  all_goals lia
 refine⟨λg hg=>?_,VI lo d⟩;rcases XH.mp hg with rfl | hg
 .exact⟨lo,d⟩
 .rcases XH.mp hg with rfl | hg
  .show a-zbV A B a b<=(((Two.alone A B).countP p:Nat):Int)/\(((Two.alone A B).countP p:Nat):Int)<=a-zbU A B a b;lia
  .rw[Wf.mp hg];show b-zbV A B a b<=(((Two.alone B A).countP p:Nat):Int)/\(((Two.alone B A).countP p:Nat):Int)<=b-zbU A B a b;lia
structure Qw (As:List Ak)(L:AA->Bool)(cl st:AD):Prop where
 no:∀c∈cl,L c=false
 ye:∀c∈st,L c=true
 ct:∀k∈As,((k.2.countP L:Nat):Int)=k.1
def Qw.ap {b:List Ak}{L:AA->Bool}{a st:AD}(h:Qw b L a st):∀c∈a,c ∉ st:=λc d e=>by
 have:=h.ye c e;rw[h.no c d]at this;cases this
def zni (rs:AE)(c:AA):clA rs c=(zI rs).filter λx=>Cells.near x c:=by
 unfold clA zL zI;have e:(Cells.zE ql 0 (codes rs)).filter (λx=>decide (Cells.sgn (codes rs) x=63))=Cells.zE x8 0 (codes rs):=by
  rw[Cells.all_filter (p:=ql) (q:=λk=>decide (k=63)) (codes rs)];refine Cells.Qi (λk=>?_) 0 _;unfold x8 ql;by_cases h:k=63
  .subst h;rfl
  .rw[bf h,Pg]
 rw[<- e,U0,U0];exact Vy λx _=>Si _ _
def Q6 {rs:AE}{a:Option AA}:(zqY rs a).Sublist (zI rs):=by
 cases a with
 | none=>exact List.Sublist.refl _
 | some c =>
  show (clA rs c).Sublist (zI rs);rw[zni];exact W5
abbrev Tg:=Option AA
def akT (rs:AE)(n:Int)(a:Tg):Ak:=(zr7 rs n a,zqY rs a)
def jo (rs:AE)(n:Int)(a:List Tg):List Ak:=a.map (akT rs n)
abbrev Qx (rs:AE)(n:Int)(cl st:AD)(ths:List Tg):List Ak:=ths.map λtg=>zdE cl st (akT rs n tg)
abbrev gsT (rs:AE)(n:Int)(cl st:AD)(ths:List Tg):List Rg:=gsU (Qx rs n cl st ths)
def zfW (c d:List Tg):Prop:=(∃a∈c,d=[a])\/∃a b,a∈c/\b∈c/\a≠b/\d=[a,b]
def zdF (rs:AE)(n:Int)(a st:AD)(b:Tg):(zdE a st (akT rs n b)).2.Nodup:=((xj rs).sublist Q6).sublist W5
def zjP {rs:AE}(n:Int)(a st:AD)(b:Tg)(h:(zI rs).length<=20):(zdE a st (akT rs n b)).2.length<=20:=X6 (W6 _ _) (X6 Q6.length_le h)
def Qw.ok {rs:AE}{n:Int}{e f:List Tg}{L:AA->Bool}{c st:AD}(h:Qw (jo rs n e) L c st)(o:zfW e f):zlf L (gsT rs n c st f)/\zq0 (Qx rs n c st f):=by
 have d:∀a∈e,(((zdE c st (akT rs n a)).2.countP L:Nat):Int)=(zdE c st (akT rs n a)).1:=λa g=>by
  have:=zfa h.no h.ye (akT rs n a).2;have:=h.ct _ (XI.mpr ⟨a,g,rfl⟩);show _=(akT rs n a).1-(zbT st (akT rs n a).2).sum;show (((jg c st (akT rs n a).2).countP L:Nat):Int)=_;lia
 rcases o with ⟨a,g,rfl⟩ | ⟨a,b,g,i,_,rfl⟩
 .exact zpz (zdF rs n c st a) (Vn (α:=AA)) (d a g) rfl
 .exact zpz (zdF rs n c st a) (zdF rs n c st b) (d a g) (d b i)
def zjQ {rs:AE}{n:Int}{i e:List Tg}{f st:AD}{c:AA}(o:zfW i e)(h:c∈(gsT rs n f st e).flatMap λg=>g.1):c∈zI rs/\c ∉ st/\c ∉ f:=by
 have one:∀a,c∈(zdE f st (akT rs n a)).2->c∈zI rs/\c ∉ st/\c ∉ f:=λa h=>let z:=znh.mp h;⟨Q6.subset z.1,z.2⟩
 have d:∀{A B:AD} {a b:Int},c∈(zld A B a b).flatMap (λg=>g.1)->c∈A\/c∈B:=λ{A B a b} h=>by
  have j:c∈Two.both A B++(Two.alone A B++(Two.alone B A++[])):=h;rw[Xf,XO,XO]at j;rcases j with h | h | h
  .exact .inl (XW.mp h).1
  .exact .inl (XW.mp h).1
  .exact .inr (XW.mp h).1
 rcases o with ⟨a,l,rfl⟩ | ⟨a,b,l,m,_,rfl⟩
 .rcases d h with z | z
  .exact one a z
  .cases z
 .exact(d h).elim (one a) (one b)
abbrev nlI (t:List Nat):List Int:=t.map λx=>((x:Nat):Int)
def zr8 (n:Nat)(t:List Nat):Prop:=(∃i,i<n/\t=[i])\/∃i j,i<j/\j<n/\t=[i,j]
def PlN (N:Addr->Prop)(n:Nat)(H:Hp)(v:V):Prop:=∃a t,v=V.ref a/\N a/\H a=some (.lst (iL (nlI t)))/\zr8 n t
abbrev NT:Addr->Prop:=λ_=>True
section
variable {N:Addr->Prop}{H H':Hp}{us:AF}{ts:List (List Nat)}{z:Addr}{ys ys':AF}
def Z5 {n:Nat}(s:zo H H')(h:∀v∈us,PlN N n H v):∀v∈us,PlN N n H' v:=λv b=>let ⟨a,t,e,n,z,o⟩:=h v b;⟨a,t,e,n,s _ _ z,o⟩
def zjR {n:Nat}(h:∀v∈us,PlN N n H v):∀v∈us,PlN NT n H v:=λv b=>let ⟨a,t,e,_,z,o⟩:=h v b;⟨a,t,e,trivial,z,o⟩
def zhq {n:Nat}{x:Addr}{t:List Nat}(s:zo H H')(hz:z≠x)(b:H' x=some (.lst (iL (nlI t))))(o:zr8 n t)(h:∀v∈us,PlN (· ≠ z) n H v):∀v∈us++[V.ref x],PlN (· ≠ z) n (upd H' z (.lst ys')) v:=λv hv=>by
 rcases XO.mp hv with hv | hv
 .obtain⟨a,t,e,n,y,o⟩:=h v hv;exact⟨a,t,e,n,by rw[zj n];exact s _ _ y,o⟩
 .exact⟨x,t,Wf.mp hv,hz.symm,by rw[zj hz.symm];exact b,o⟩
def zdG {ks:List Ak}(s:zo H H')(h:Xl (AkV H) us ks):Xl (AkV H') us ks:=Paired.imp' (λ_ _ ⟨t,l,b,e,h1,h2,a⟩=>⟨t,l,b,e,s _ _ h1,s _ _ h2,a.mono s⟩) h
def znj {ks:List Ak}(h:Xl (AkV H) us ks){i:Nat}{k:Ak}(e:ks[i]?=some k):∃v,us[i]?=some v/\AkV H v k:=by
 have l:=Paired.length h;have b:=(X4.mp e).1;obtain⟨v,a⟩:∃v,us[i]?=some v:=⟨_,XZ (by lia)⟩;obtain⟨c,hk,r⟩:=ZJ h a;rw[e]at hk;cases hk;exact⟨v,a,r⟩
def take_snoc {α:Type}{l:List α}{i:Nat}{x:α}(h:l[i]?=some x):l.take (i+1)=l.take i++[x]:=by
 rw[Xx,h];rfl
end
def zjS:Sp:=λg H Q _=>∃(c:Addr) (e:AF) (b:List Ak),g=[.ref c]/\H c=some (.lst e)/\Xl (AkV H) e b/\b.length<=32/\(∀k∈b,k.2.length<=64) /\
 ∀(d:Addr) (f:AF) (a:Hp),a d=some (.lst f)->(∀v∈f,PlN NT b.length a v)->zo H a->Q (.ref d) a
def jq:zB ["asked","singles","pairs","place","one","other"] ["asked"] (zp xP):=bh
def zdH (T:Txt mg){f:Addr}{fd:XD}(D:zm K mg "place_lists" xP ["asked"] f fd):zU P w K mg base CX0 1 f fd ["asked"] zjS:=by
 refine D.F.ok jq (λvs H Q E h=>?_) (λay A ax s H vs Q E hr h=>?_)
 .revert h;refine fX λO B ks z0 _=>?_;subst z0;rfl
 .revert h;refine fT λO B ks z0 G hA a1 aw q=>?_;subst z0;refine⟨_,(ze (psC 1 jq.nd ["place"] [none] cP (prg T.yT (pb1 zH T.qC Xg (pvS 0))) (pgN 0) qa (zW (za (pvS 0) zd))) (@ze _ _ _ _ _ (@qu _ _ 2 _ _ _ _ jq.nd rfl (VL rfl) (@zW _ _ _ _ zd) (by rfl) (.inr rfl)) (ze (qt Xe rfl (JP (by rfl) T.ju (za (pvS 0) zd)) (yX rfl (zM (pgq 3 jq.nd) (zM (pgq 4 jq.nd) jw))) (zg (qt Xe rfl (zbu (by rfl) T.yT (za (zC Jq (pvS 3) zf) (za (pb1 zH T.qC Xg (pvS 0)) zd))) (pgq 5 jq.nd) (zg (qy (yf (pb1 (zcR rfl) T.zjz T6 (pcm ["cell","asked","other"] [none,some 0,some 5] cR (zG (zF zQ (pvS 4) zf (λ_ _=>rfl))) (pgN 0) qa (jx (qI (K:=K) (by rfl) hr.units) (pvS 0) (zF (zmr (K:=K) (by rfl)) (zF (zbD (K:=K) (by rfl)) (pvS 1) (pvS 2) (λ_ _=>rfl)) zf (λ_ _=>rfl)) (by rfl)))) (λ_=>rfl)) (zg (jR (Ze WO Wu Wt JX (pvS 2) (za (zW (za (pvS 3) (za (pvS 5) zd))) zd)))) zY))))) (zg (zw (zC yZ (pvS 1) (pvS 2))))))),?_⟩;(try dsimp only[cxK,cxP,cxW]);have ll:B.length=ks.length:=Paired.length hA;refine⟨_,rfl,O,_,rfl,.inl (SqL.of G),_,rfl,by lia,by lia,λsg ag=>?_⟩;rw[show (((B.length:Nat):Int)).toNat=B.length by lia];refine zhT (lo:=0) (n:=B.length) (λi p u=>∃(u0:Option V) (L:AF),p=[u0]/\zo H u/\u sg=some (.lst L)/\L.length=i/\∀v∈L,PlN (· ≠ sg) ks.length u v) (dU none [] rfl (zc ag) zb rfl (λ_ h=>nomatch h)) ?_ ?_
  .refine λi p H1 hi=>fD λu0 L z0 s1 M yl hP=>?_;subst z0;rw[VQ];unfold xU;refine YH ?_;refine⟨_,rfl,sz_1,λx J=>?_⟩;have y2:=zc (o:=.lst [V.int (i:Nat)]) J;have nx:x≠sg:=λe=>by
    rw[e,M]at J;cases J
   refine dI L (y2 _ _ M) (Xk (show L.length<100 by lia) (by decide)) (d9 (L++[.ref x]) rfl (λb o e=>?_) zb (by rw[XY,yl];rfl) (zhq (t:=[i]) y2 nx.symm zb (.inl ⟨i,by lia,rfl⟩) hP))
   .rw[zj (zh e ag)];exact y2 _ _ (s1 _ _ e)
  refine λp H1=>fD λu0 L z0 s1 M yl hS=>?_;subst z0;refine⟨yR,λU af=>?_⟩;have y2:=zc (o:=.lst []) af;refine⟨_,rfl,O,rfl,⟨_,SqL.of (y2 _ _ (s1 _ _ G))⟩,?_⟩;refine JD (K:=K) (l:=O) (xs:=B) (λi σ u=>∃(w3 w4 w5:Option V) (g:AF),σ=[some (.ref O),some (.ref sg),some (.ref U),w3,w4,w5]/\zo H1 u/\u U=some (.lst g)/\g.length<=i*32/\∀v∈g,PlN (· ≠ U) ks.length u v)
   (dG (d9 [] rfl y2 zb (WY _) (λ_ h=>nomatch h))) (λi σ u _ ⟨_,_,_,_,_,s',_⟩=>SqL.of (s' _ _ (s1 _ _ G))) ?_ ?_
  .refine λi x tt σ H2 J aq=>fS λw3 w4 w5 g z0 s2 aa zl hZ=>?_;subst z0;refine gk (λk1 ak t1 l1 u1 z0 an ae ac=>?_) (ZJ hA J);subst z0;have i1:i<B.length:=(X4.mp J).1;have y3:=zc (o:=.tup [.int (i:Nat),.ref t1]) aq;have s3:=s2.trans y3;have au:=y3 _ _ aa;have ai:=Z5 y3 hZ;refine eW tt rfl (SqT.of zb) rfl rfl rfl rfl ?_;generalize upd H2 tt (.tup [.int (i:Nat),.ref t1])=H3 at *
   refine⟨_,rfl,_,_,rfl,rfl,_,rfl,O,_,rfl,.inl (SqL.of (s3 _ _ (s1 _ _ G))),((i+1:Nat):Int),((B.length:Nat):Int),rfl,⟨by lia,by lia,by lia,by lia⟩,?_⟩;rw[show (((B.length:Nat):Int)-((i+1:Nat):Int)).toNat=B.length-(i+1) by lia];refine jj (lo:=((i+1:Nat):Int)) (n:=B.length-(i+1)) (λm σ u=>∃(w5:Option V) (g:AF),σ=[some (.ref O),some (.ref sg),some (.ref U),some (.int (i:Nat)),some (.ref t1),w5]/\zo H1 u/\u U=some (.lst g)/\g.length<=i*32+m/\∀v∈g,PlN (· ≠ U) ks.length u v)
    (d9 g rfl s3 au zl ai) ?_ ?_
   .refine λm σ H4 hm=>fD λw5 g z0 s4 ab zl hZ=>?_;subst z0;obtain⟨j,hj,az⟩:∃j:Nat,((i+1:Nat):Int)+((m:Nat):Int)=((j:Nat):Int)/\j=i+1+m:=⟨i+1+m,by lia,rfl⟩;rw[hj];have jl:j<B.length:=by lia
    obtain⟨k2,al⟩:∃k,ks[j]?=some k:=⟨_,XZ (by lia)⟩;refine gk (λv2 ar t2 l2 u2 z0 ao am aj=>?_) (znj hA al);subst z0;have Y:=s1.trans s4;refine⟨_,rfl,t1,_,1,_,rfl,rfl,SqT.of (Y _ _ an),rfl,l1,rfl,⟨_,SqL.of (Y _ _ ae)⟩,λz hz=>?_⟩;have a2:=aw k1 (X8 ak);refine qb (K:=K) (a:=l1) (xs:=u1) (λr p u=>∃(u0:Option V),p=[u0,some (.ref O),some (.int (j:Nat))]/\zo H4 u/\u z=some (.lst (((k1.2.take r).map λc=>decide (c∈k2.2)).map V.bl))) ⟨_,rfl,zc hz,zb⟩ (λr p u _ ⟨_,_,s',_⟩=>SqL.of (s' _ _ (Y _ _ ae))) ?_ ?_
    .refine λr v p H5 hv=>fy λu0 z0 s5 N=>?_;subst z0;have I:=Y.trans s5;obtain⟨c,hc,rc⟩:=Cel.get (Cel.mono I ac) hv;unfold xU;refine YH ?_;refine⟨_,rfl,_,rfl,_,rfl,O,_,_,_,rfl,rfl,SqL.of (I _ _ G),j3 ar,t2,_,1,_,rfl,rfl,SqT.of (I _ _ ao),rfl,zk c,k2.2.map zk,rc.rdv,.lst (SqL.of (I _ _ am)) (Q8 (aj.mono I)),rfl,Y0 _,(by show 1<=60;decide),?_⟩;rw[zjO];refine dN N ?_ (dN rfl (λb o e=>?_) ?_)
     .rw[ZB,ZB,XN];exact Xk (show min r k1.2.length<100 by lia) (by decide)
     .rw[zj (zh e hz)];exact s5 _ _ e
     .rw[zb,take_snoc hc,Xz,Xz];rfl
    refine λp H5=>fy λu0 z0 s5 N=>?_;subst z0;rw[ac.length,XJ]at N;refine eE z (dD rfl (SqL.of N) (dB rfl ?_));have y:=s5 _ _ ab;refine zcm (λ_=>?_) λ_=>?_
    .refine⟨_,rfl,.inl ⟨rfl,_,SqL.of y⟩,_,rfl,_,rfl,yi,λx J=>?_⟩;have y6:=zc (o:=.lst [V.int (i:Nat),.int (j:Nat)]) J;have nx:x≠U:=λe=>by
      rw[e,y]at J;cases J
     have av:i*32<=32*32:=OY _ (by lia);refine⟨U,_,_,rfl,rfl,y6 _ _ y,XM (show g.length<=2000 by lia) (by decide),some (.int (j:Nat)),g++[.ref x],rfl,λb o e=>?_,zb,?_,zhq (t:=[i,j]) (s5.trans y6) nx.symm zb (.inr ⟨i,j,by lia,by lia,rfl⟩) hZ⟩
     .rw[zj (zh e af)];exact y6 _ _ (s5 _ _ (s4 _ _ e))
     .rw[XY];show g.length+1<=_;lia
    .exact dU (some (.int (j:Nat))) g rfl (s4.trans s5) y (by lia) (Z5 s5 hZ)
   .refine λσ H4=>fD λw5 g z0 s4 ab zl hZ=>?_;subst z0;exact dG (d9 g rfl s4 ab (by lia) hZ)
  .refine λσ H2=>fS λw3 w4 w5 g z0 s2 aa zl hZ=>?_;subst z0;have ah:=Z5 s2 hS;have av:B.length*32<=32*32:=OY _ (by lia);refine⟨_,rfl,_,rfl,sg,U,_,_,rfl,rfl,s2 _ _ M,aa,X6 (show L.length+g.length<=2000 by lia) (by decide),λd hd=>?_⟩;have y5:=zc (o:=.lst (L++g)) hd;exact q d _ _ zb (λv hv=>(XO.mp hv).elim (zjR (Z5 y5 ah) v) (zjR (Z5 y5 hZ) v)) (s1.trans (s2.trans y5))
def AkN (N:Addr->Prop)(H:Hp)(v:V)(k:Ak):Prop:=∃(t l:Addr) (a:AF),v=V.ref t/\N t/\N l/\H t=some (.tup [.int k.1,.ref l])/\H l=some (.lst a)/\Cel H a k.2
def znk {N:Addr->Prop}{H:Hp}{a:AF}{ks:List Ak}(h:Xl (AkN N H) a ks):Xl (AkV H) a ks:=Paired.imp' (λ_ _ ⟨t,l,c,e,_,_,h1,h2,b⟩=>⟨t,l,c,e,h1,h2,b⟩) h
def Cel.one {H c:Hp}{d:Addr}{xs:AF}(s:∀b o,b≠d->H b=some o->c b=some o)(g:H d=some (.lst xs)){vs:AF}{f:AD}(i:Cel H vs f):Cel c vs f:=by
 induction i with
 | nil=>exact .nil
 | cons q _ j =>
  obtain⟨a,e,h⟩:=q;exact .cons ⟨a,e,s a _ (λz=>by rw[z,g]at h;cases h) h⟩ j
def zdI {y:Addr}{H c:Hp}{a:AF}(j:H y=some (.lst a))(s:∀b o,b≠y->H b=some o->c b=some o){g:AF}{ks:List Ak}(h:Xl (AkN (· ≠ y) H) g ks):Xl (AkN (· ≠ y) c) g ks :=
 Paired.imp' (λ_ _ ⟨t,l,m,e,d,f,h1,h2,i⟩=>(dW t l m e d f (s _ _ d h1) ⟨s _ _ f h2,Cel.one s j i⟩)) h
theorem zoX:∀c1 a:AD,Xa (.tuple [.list (c1.map zk),.list (a.map zk)]) (.tuple [.list [],.list []])=decide (c1=[]/\a=[])
 | [],[]=>by decide+kernel
 | [],c::r=>rfl
 | c::r,d=>rfl
structure zjT (H:Hp)(th la pl fa fc fs:Addr)(ths ls us u w':AF)(tgs:List Tg)(ks:List Ak)(cl st:AD):Prop where
 h1:H th=some (.lst ths)
 t:Xl (ZA H) ths tgs
 h2:H la=some (.lst ls)
 k:Xl (AkV H) ls ks
 h3:H pl=some (.lst us)
 p:∀v∈us,PlN NT ks.length H v
 f:jY H fa fc fs u w' cl st
 fi:zoV cl st
structure Qy (rs:AE)(n:Int)(tgs:List Tg)(cl st:AD)(ths:List Tg)(c1 c2:AD):Prop where
 o:zfW tgs ths
 p1:c1.Perm (qU (gsT rs n cl st ths))
 p2:c2.Perm (qV (gsT rs n cl st ths))
 x1:c1.Pairwise Cells.lex
 x2:c2.Pairwise Cells.lex
 ne:¬ (c1=[]/\c2=[])
structure Z6 (N:Addr->Prop)(H:Hp)(r tl d1 d2:Addr)(tv w1 w2:AF)(ths:List Tg)(c1 c2:AD):Prop where
 tp:H r=some (.tup [.ref tl,.ref d1,.ref d2])
 h:H tl=some (.lst tv)
 t:Xl (ZA H) tv ths
 h1:H d1=some (.lst w1)
 h2:H d2=some (.lst w2)
 e1:Cel H w1 c1
 e2:Cel H w2 c2
 n0:N tl
 n1:N d1
 n2:N d2
def zjU:Sp:=λx H Q _=>∃(l i j h q fs:Addr) (f s w u y:AF) (d:AE) (n:Int) (b:List Tg) (e st:AD) (L:AA->Bool),x=[.ref l,.ref i,.ref j,.ref h]/\zjT H l i j h q fs f s w u y b (jo d n b) e st/\(zI d).length<=20/\b.length<=32/\b.Nodup/\Qw (jo d n b) L e st /\
 (∀c,zo H c->Q .non c) /\
 ∀(m:List Tg) (c1 g:AD) (r tl o p:Addr) (v z A:AF) (c:Hp),Qy d n b e st m c1 g->Z6 (λa=>H a=none) c r tl o p v z A m c1 g->zo H c->Q (.ref r) c
def yp:zB ["things","asked","lists","finding","known","left","places","told"] ["things","asked","lists","finding"] (zp Jv):=bh
def zec (T:Txt mg)(Z:Prog K mg){f:Addr}{fd:XD}(D:zm K mg "first_step" Jv ["things","asked","lists","finding"] f fd):zU P w K mg base CX0 3 f fd ["things","asked","lists","finding"] zjU:=by
 obtain⟨aO,aN,J1⟩:=Z.known_of;obtain⟨aM,aK,yq⟩:=Z.still_asked;obtain⟨aQ,aP,JK⟩:=Z.settled;obtain⟨aS,aR,Qz⟩:=Z.gained;have aB:=zca (P:=P) (w:=w) (base:=base) T J1;have ZC:=Qv (P:=P) (w:=w) (base:=base) T yq;have aC:=ze9 (P:=P) (w:=w) (base:=base) T Qz JK;refine D.F.ok yp (λvs H Q E h=>?_) (λaE A a7 s H vs Q E hr h=>?_)
 .revert h;refine fu λth la pl fa fc fs ak ls=>fu λus u w' rs n c O st=>fq λL z0 _=>?_;subst z0;rfl
 .revert h;refine fu λth la pl fa fc fs ak ls=>fu λus u w' rs n c O st=>fU λL z0 X aw aI=>fE λtn tr qn qs=>?_;subst z0;refine⟨_,(ze (qA 4 yp.nd (pc0 aB hr J1 (za (pvS 3) zd))) (ze (qA 5 yp.nd (pcm ["some","known"] [none,some 4] cR (zG (pvS 1)) (pgN 0) qa (pc0 ZC hr yq (za (pvS 0) (za (pvS 1) zd))))) (ze (qt Xe rfl (zG (pvS 2)) (pgq 6 yp.nd) (ze (qA 7 yp.nd (pc0 aC hr Qz (za (pcm ["place","left"] [none,some 5] cR (zG (pvS 6)) (pgN 0) qa (zF (zbD (K:=K) (by rfl)) (pvS 1) (pvS 0) (λ_ _=>rfl))) zd))) (zg (qy (z9 (jy hr.units) (pvS 7) (@qj _ _ _ _ _ (@za _ _ _ _ _ (@zW _ _ _ _ zd) (@za _ _ _ _ _ (@zW _ _ _ _ zd) zd rfl) rfl)) (zP _)) (zg (zw (qj (za (pcm ["place","things"] [none,some 0] cR (zG (pvS 6)) (pgN 0) qa (zF (zbD (K:=K) (by rfl)) (pvS 1) (pvS 0) (λ_ _=>rfl))) (za (zF zQ (pvS 7) zf (λ_ _=>rfl)) (za (zF zQ (pvS 7) zf (λ_ _=>rfl)) zd)))))) zY)))) (@zg _ _ _ (@zw _ _ _ _ zlt))))),?_⟩;(try dsimp only[cxK,cxP,cxW]);refine⟨_,rfl,fa,fc,fs,u,w',O,st,rfl,X.f,X.fi,λkd a6 H1 aG aD hK s1=>?_⟩;refine⟨_,rfl,la,rfl,⟨_,SqL.of (s1 _ _ X.h2)⟩,λy hy=>?_⟩;refine qb (K:=K) (a:=la) (xs:=ls) (λi σ B=>(∃U,σ=[U,some (.ref kd)])/\zo H1 B/\∃ys,B y=some (.lst ys)/\Xl (AkN (· ≠ y) B) ys (Qx rs n O st (c.take i))) (dD ⟨_,rfl⟩ (zc hy) (dS [] zb (.nil))) (λi σ B _ ⟨_,s',_⟩=>SqL.of (s' _ _ (s1 _ _ X.h2))) ?_ ?_
  .rintro i x σ H2 hx ⟨⟨U,rfl⟩,s2,ys,J,hP⟩;have m:=s1.trans s2;refine gk (λk hk t l us3 z0 ht hl hc=>?_) (ZJ X.k hx);subst z0;unfold jo at hk;rw[Xq]at hk;obtain⟨tg,hg,rfl⟩:=Uh.mp hk;refine jA ⟨_,rfl,_,rfl,t,l,kd,_,us3,_,O,st,a6,rfl,m _ _ ht,m _ _ hl,hc.mono m,X6 Q6.length_le (X6 aw (by decide)),s2 _ _ aD,hK,λr l2 a9 H4 aH ao ab a3 ay N=>?_⟩;have ai:=N _ _ J;have au:r≠y:=zbM ab ai (by intro q;cases q);have ar:l2≠y:=λz=>by
    rw[z,J]at ao;cases ao
   have aA:ys.length<=32:=by
    rw[Paired.length hP,ZB,XN];lia
   refine dO ys ai (XM aA (by decide)) ⟨_,rfl⟩ (λb o e'=>?_) (dS (ys++[.ref r]) zb ?_)
   .rw[zj (zh e' hy)];exact N _ _ (s2 _ _ e')
   .rw[take_snoc hg,Qx,Xz];have kk:∀b o,b≠y->H4 b=some o->upd H4 y (.lst (ys++[.ref r])) b=some o:=λb o nb e=>by
     rw[zj nb];exact e
    exact Paired.snoc (zdI J (λb o nb e=>by rw[zj nb];exact N _ _ e) hP) (dW r l2 a9 rfl au ar (kk _ _ au ab) ⟨kk _ _ ar a3,Cel.into y _ ai ay⟩)
  refine λσ H2=>fG λ_ s2 ys J hP=>?_;rw[Paired.length X.k,jo,ZB,XJ]at hP;have hV:=znk hP;have m:=s1.trans s2;refine⟨_,rfl,pl,rfl,⟨_,SqL.of (m _ _ X.h3)⟩,?_⟩;refine jG (K:=K) (a:=pl) (xs:=us) (λi σ B=>∃(w6 w7:Option V),σ=[some (.ref th),some (.ref la),some (.ref pl),some (.ref fa),some (.ref kd),some (.ref y),w6,w7]/\zo H2 B)
   ⟨_,_,rfl,zo.refl _⟩ (λi σ B _ ⟨_,_,_,s'⟩=>SqL.of (s' _ _ (m _ _ X.h3))) ?_ ?_
  .refine λi x σ H3 hx=>fP λw6 w7 z0 s3=>?_;subst z0;refine fm (λta t z0 _ aq po=>?_) (X.p x (X8 hx));subst z0;have aj:=m.trans s3;have ac:=aj _ _ aq;have kl:(jo rs n c).length=c.length:=ZB _;rw[kl]at po;have gm:∀j,j<c.length->c[j]?=some (c.getD j none)/\c.getD j none∈c:=λj hj=>by
    have e:c[j]?=some (c.getD j none):=by
     rw[W4,XZ hj];rfl
    exact⟨e,X8 e⟩
   have tb:∀j∈t,j<c.length:=λj hj=>by
    rcases po with ⟨i,hi,rfl⟩ | ⟨i,j',am,an,rfl⟩
    .rw[Wf.mp hj];exact hi
    .rcases XH.mp hj with rfl | hj
     .lia
     .rw[Wf.mp hj];exact an
   have a8:t.length=1\/t.length=2:=by
    rcases po with ⟨i,hi,rfl⟩ | ⟨i,j',am,an,rfl⟩
    .exact .inl rfl
    .exact .inr rfl
   have to:zfW c (t.map λi=>c.getD i none):=by
    rcases po with ⟨i,hi,rfl⟩ | ⟨i,j,am,hj,rfl⟩
    .exact .inl ⟨_,(gm i hi).2,rfl⟩
    .refine .inr ⟨_,_,(gm i (by lia)).2,(gm j hj).2,λe=>?_,rfl⟩;have a:=(gm i (by lia)).1;rw[e,<- (gm j hj).1]at a;have:=(List.getElem?_inj (by lia) tn).mp a;lia
   refine⟨_,rfl,ta,rfl,⟨_,SqL.of ac⟩,λg hg=>?_⟩;refine qb (K:=K) (a:=ta) (xs:=iL (nlI t)) (λr d B=>∃(U:Option V) (gv:AF),d=[U,some (.ref y)]/\zo H3 B/\B g=some (.lst gv)/\Xl (AkV H3) gv (Qx rs n O st ((t.take r).map λi=>c.getD i none))) (eF [] rfl (zc hg) zb (.nil)) (λr d B _ ⟨_,_,_,s',_⟩=>SqL.of (s' _ _ ac)) ?_ ?_
   .refine λr v d H4 hv=>fm λU gv z0 N af hG=>?_;subst z0;obtain⟨x0,I,rfl⟩:=ints_get hv;rw[Xq]at I;obtain⟨j,hj,rfl⟩:=Uh.mp I;have jm:=tb j (X8 hj);have ek:(Qx rs n O st c)[j]?=some (zdE O st (akT rs n (c.getD j none))):=by
     rw[Xq,(gm j jm).1];rfl
    refine fq (λv2 Y r2=>?_) (znj (zdG s3 hV) ek);unfold xU;refine YH ?_;have r1:r<t.length:=(X4.mp hj).1;refine⟨_,rfl,_,rfl,y,_,_,_,rfl,rfl,SqL.of (N _ _ (s3 _ _ J)),j3 Y,_,af,?_,_,gv++[v2],rfl,λb o e=>?_,zb,?_⟩
    .rw[Paired.length hG,ZB,ZB,XN];exact Xk (show min r t.length<100 by lia) (by decide)
    .rw[zj (zh e hg)];exact N _ _ e
    .rw[take_snoc hj,Xz,Qx,Xz];exact Paired.snoc hG r2
   refine λd H4=>fm λU gv z0 N af hG=>?_;subst z0;rw[ZB,ZB,XJ]at hG;have av:=aj.trans N;refine dW g gv (Qx rs n O st (t.map λi=>c.getD i none)) rfl af (zdG N hG) (by rw[ZB,ZB];exact a8) (dD (λk hk=>?_) (tr.ok to).2 (λtt d1 d2 w1 w2 c1 c2 H5 f1 f2 aF k1 k2 k3 g1 g2 p1 p2 x1 x2 s5=>?_))
   .obtain⟨tg,_,rfl⟩:=XI.mp hk;exact⟨zdF rs n O st tg,zjP n O st tg aw⟩
   refine⟨_,rfl,yR,λe1 az=>⟨yR,λe2 a1=>⟨yi,λe3 a2=>?_⟩⟩⟩;have y1:=zc (o:=.lst []) az;have y2:=zc (o:=.lst []) a1;have y3:=zc (o:=.tup [.ref e1,.ref e2]) a2;have G:=y1.trans (y2.trans y3);have ax:=s5.trans G;refine dY (.tuple [.list (c1.map zk),.list (c2.map zk)]) (.tuple [.list [],.list []]) (.tup (SqT.of (G _ _ k1)) (.cons (.lst (SqL.of (G _ _ k2)) (Q8 (g1.mono G))) (.cons (.lst (SqL.of (G _ _ k3)) (Q8 (g2.mono G))) .nil))) (.tup (SqT.of zb) (.cons (.lst (SqL.of (y3 _ _ (y2 _ _ zb))) .nil) (.cons (.lst (SqL.of (y3 _ _ zb)) .nil) .nil))) ⟨?_,rfl,?_⟩ ⟨_,rfl,?_⟩
   .show (VB (c1.map zk)&&(VB (c2.map zk)&&true))=true;rw[Y0,Y0];rfl
   .show max (UR (c1.map zk)+1) (max (UR (c2.map zk)+1) 0)+1<=64;have a:=zdk c1;have b:=zdk c2;lia
   rw[bw rfl,zoX];by_cases he:c1=[]/\c2=[]
   .exact qW (by rw[br he];rfl) ⟨_,_,rfl,s3.trans (N.trans ax)⟩
   .refine jb (by rw[bf he];rfl) ?_;generalize upd (upd (upd H5 e1 (.lst [])) e2 (.lst [])) e3 (.tup [.ref e1,.ref e2])=H6 at *
    have M:=aj.trans (N.trans ax);have ae:=M _ _ aq;refine⟨_,rfl,ta,rfl,⟨_,SqL.of ae⟩,λtl ah=>?_⟩;refine qb (K:=K) (a:=ta) (xs:=iL (nlI t)) (λr d B=>∃(U:Option V) (tv:AF),d=[U,some (.ref th)]/\zo H6 B/\B tl=some (.lst tv)/\Xl (ZA H6) tv ((t.take r).map λi=>c.getD i none)) (eF [] rfl (zc ah) zb (.nil)) (λr d B _ ⟨_,_,_,s',_⟩=>SqL.of (s' _ _ ae)) ?_ ?_
    .refine λr v d H7 hv=>fm λU tv z0 s7 ag hT=>?_;subst z0;obtain⟨x0,I,rfl⟩:=ints_get hv;rw[Xq]at I;obtain⟨j,hj,rfl⟩:=Uh.mp I;have jm:=tb j (X8 hj);have aJ:ak.length=c.length:=Paired.length X.t;obtain⟨v2,Y⟩:∃v,ak[j]?=some v:=⟨_,XZ (by lia)⟩;obtain⟨tg,a5,r2⟩:=ZJ X.t Y;unfold xU;refine YH ?_;have r1:r<t.length:=(X4.mp hj).1;refine⟨_,rfl,_,rfl,th,_,_,_,rfl,rfl,SqL.of (s7 _ _ (M _ _ X.h1)),j3 Y,_,ag,?_,_,tv++[v2],rfl,λb o e=>?_,zb,?_⟩
     .rw[Paired.length hT,ZB,XN];exact Xk (show min r t.length<100 by lia) (by decide)
     .rw[zj (zh e ah)];exact s7 _ _ e
     .rw[take_snoc hj,Xz];refine Paired.snoc hT ?_;have:c.getD j none=tg:=by
       rw[W4,a5];rfl
      show ZA H6 v2 (c.getD j none);rw[this];exact r2.mono M
    refine λd H7=>fm λU tv z0 s7 ag hT=>?_;subst z0;rw[ZB,ZB,XJ]at hT;have al:=G.trans s7;refine⟨_,rfl,tt,_,0,_,rfl,rfl,SqT.of (al _ _ k1),rfl,_,rfl,tt,_,1,_,rfl,rfl,SqT.of (al _ _ k1),rfl,zij,λr a4=>?_⟩;have y8:=zc (o:=.tup [.ref tl,.ref d1,.ref d2]) a4;have aa:=al.trans y8;exact qs _ c1 c2 r tl d1 d2 tv w1 w2 _ ⟨to,p1,p2,x1,x2,he⟩ ⟨zb,y8 _ _ ag,Paired.imp' (λ_ _ h=>ZA.mono (s7.trans y8) h) hT,aa _ _ k2,aa _ _ k3,g1.mono aa,g2.mono aa,M.free ah,av.free f1,av.free f2⟩ (M.trans (s7.trans y8))
  .rintro σ H3 ⟨w6,w7,rfl,s3⟩;exact qn H3 (m.trans s3)
abbrev Stp:=List Tg×AD×AD
structure Way (rs:AE)(n:Int)(tgs:List Tg)(S:List Stp)(cl st:AD):Prop where
 p1:cl.Perm (S.flatMap λs=>s.2.1)
 p2:st.Perm (S.flatMap λs=>s.2.2)
 tr:∀L,Qw (jo rs n tgs) L [] []->Qw (jo rs n tgs) L cl st
 x1:cl.Pairwise Cells.lex
 x2:st.Pairwise Cells.lex
 s1:∀c∈cl,c∈zI rs
 s2:∀c∈st,c∈zI rs
def zax {rs:AE}{a:AD}(n:a.Nodup)(h:∀c∈a,c∈zI rs)(d:(zI rs).length<=20):a.length<=20:=by
 have:=n.length_le_of_subset (λc b=>h c b:a ⊆ zI rs);lia
section
variable {rs:AE}{n:Int}{tgs ths:List Tg}{S:List Stp}{cl st c1 c2 q1 q2:AD}{L:AA->Bool}
def Way.len (W:Way rs n tgs S cl st)(h:Qw (jo rs n tgs) L [] [])(d:(zI rs).length<=20):cl.length+st.length<=20:=by
 rw[<- XY];refine zax (WL.mpr ⟨qg W.x1,qg W.x2,λa f b g e=>?_⟩) (λc i=>(XO.mp i).elim (W.s1 c) (W.s2 c)) d;subst e;exact(W.tr L h).ap a f g
def Qy.g1 (o:Qy rs n tgs cl st ths c1 c2):∀c∈c1,c∈zI rs/\c ∉ st/\c ∉ cl:=λc a=>zjQ o.o ((YN _).subset (o.p1.mem_iff.mp a))
def Qy.g2 (o:Qy rs n tgs cl st ths c1 c2):∀c∈c2,c∈zI rs/\c ∉ st/\c ∉ cl:=λc a=>zjQ o.o ((YO _).subset (o.p2.mem_iff.mp a))
def Way.next (W:Way rs n tgs S cl st)(o:Qy rs n tgs cl st ths c1 c2)(g:q1.Perm (cl++c1))(i:q2.Perm (st++c2))(u1:(q1.map toI).Pairwise λp q=>lt2 q p=false)(s:(q2.map toI).Pairwise λp q=>lt2 q p=false):Way rs n tgs (S++[(ths,c1,c2)]) q1 q2:=by
 have ap:∀{a b:AD},a.Pairwise Cells.lex->b.Pairwise Cells.lex->(∀c∈b,c ∉ a)->(a++b).Nodup:=λj l h=>WL.mpr ⟨qg j,qg l,λc f d m e=>by
  subst e;exact h c m f⟩
 refine⟨?_,?_,λL h=>?_,zfV (g.nodup_iff.mpr (ap W.x1 o.x1 λc f=>(o.g1 c f).2.2)) u1,zfV (i.nodup_iff.mpr (ap W.x2 o.x2 λc f=>(o.g2 c f).2.1)) s,λc f=>(XO.mp (g.mem_iff.mp f)).elim (W.s1 c) λz=>(o.g1 c z).1,λc f=>(XO.mp (i.mem_iff.mp f)).elim (W.s2 c) λz=>(o.g2 c z).1⟩
 .rw[Ve,UN,List.flatMap_nil,Xf];exact g.trans (W.p1.append_right _)
 .rw[Ve,UN,List.flatMap_nil,Xf];exact i.trans (W.p2.append_right _)
 .have t:=W.tr L h;have r:=(t.ok o.o).1;exact⟨λc f=>(XO.mp (g.mem_iff.mp f)).elim (t.no c) λz=>r.clear (o.p1.mem_iff.mp z),λc f=>(XO.mp (i.mem_iff.mp f)).elim (t.ye c) λz=>r.stone (o.p2.mem_iff.mp z),t.ct⟩
end
def zhs (rs:AE)(n:Int)(a:List Tg)(S:List Stp):Prop:=∀i s,S[i]?=some s->∃b st,Way rs n a (S.take i) b st/\Qy rs n a b st s.1 s.2.1 s.2.2
def zhs.snoc {rs:AE}{n:Int}{a:List Tg}{S:List Stp}{c st:AD}{s:Stp}(h:zhs rs n a S)(W:Way rs n a S c st)(o:Qy rs n a c st s.1 s.2.1 s.2.2):zhs rs n a (S++[s]):=λi x b=>by
 have d:=(X4.mp b).1;rw[XY]at d;have d:i<S.length+1:=d;rw[List.take_append_of_le_length (by lia)];by_cases e:i<S.length
 .rw[V7 e]at b;exact h i x b
 .have e:i=S.length:=by lia
  subst e;rw[VU (XU _),TK]at b;cases b;rw[XJ];exact⟨c,st,W,o⟩
def zoY {H:Hp}{d:Addr}{f ys:AF}(i:H d=some (.lst f)){g:AF}{b:List Tg}(h:Xl (ZA H) g b):Xl (ZA (upd H d (.lst ys))) g b:=Paired.imp' (λv j z=>by
 cases j with
 | none=>exact z
 | some c =>
  obtain⟨a,e,q⟩:=z;refine⟨a,e,?_⟩;rw[zj λw=>by rw[w,i]at q;cases q];exact q) h
theorem Z6.mono {N:Addr->Prop}{H b:Hp}{r tl d e:Addr}{f g i:AF}{a:List Tg}{c1 c:AD}(s:zo H b)(x:Z6 N H r tl d e f g i a c1 c):Z6 N b r tl d e f g i a c1 c:=⟨s _ _ x.tp,s _ _ x.h,Paired.imp' (λ_ _ z=>ZA.mono s z) x.t,s _ _ x.h1,s _ _ x.h2,x.e1.mono s,x.e2.mono s,x.n0,x.n1,x.n2⟩
theorem Z6.into {H:Hp}{d r tl f g:Addr}{c ys i j l:AF}{a:List Tg}{c1 e:AD}(b:H d=some (.lst c))(x:Z6 (· ≠ d) H r tl f g i j l a c1 e):Z6 (· ≠ d) (upd H d (.lst ys)) r tl f g i j l a c1 e :=
 ⟨by rw[zj (zbM x.tp b (by intro q;cases q))];exact x.tp,by rw[zj x.n0];exact x.h,zoY b x.t,by rw[zj x.n1];exact x.h1,by rw[zj x.n2];exact x.h2,Cel.into d _ b x.e1,Cel.into d _ b x.e2,x.n0,x.n1,x.n2⟩
def Z6.imp {N M:Addr->Prop}{H:Hp}{r tl d e:Addr}{f g i:AF}{b:List Tg}{c1 c:AD}(s:∀a,N a->M a)(x:Z6 N H r tl d e f g i b c1 c):Z6 M H r tl d e f g i b c1 c:=⟨x.tp,x.h,x.t,x.h1,x.h2,x.e1,x.e2,s _ x.n0,s _ x.n1,s _ x.n2⟩
def zli (N:Addr->Prop)(H:Hp)(v:V)(s:Stp):Prop:=∃r tl a b c d e,v=V.ref r/\Z6 N H r tl a b c d e s.1 s.2.1 s.2.2
def Q7 {N:Addr->Prop}{H a:Hp}{b:AF}{S:List Stp}(s:zo H a)(h:Xl (zli N H) b S):Xl (zli N a) b S:=Paired.imp' (λ_ _ ⟨r,tl,c,d,f,g,i,e,z⟩=>(dR r tl c d (dF f g (dS i e (z.mono s))))) h
def NxV (H:Hp)(sa:Addr)(rs:AE)(n:Int)(a:List Tg)(b st:AD)(v:V):Prop:=v=.non\/∃s:Stp,Qy rs n a b st s.1 s.2.1 s.2.2/\zli (· ≠ sa) H v s
def zsR {R:Prop}{G:V->Hp->Prop}(A:V->Hp->Prop)(h:(∀v H,A v H->G v H)->R)(k:∀v H,A v H->G v H):R:=h k
structure Told (H:Hp)(rs:AE)(n:Int)(tgs:List Tg)(t sa fa fc fs:Addr)(sv us ws:AF)(S:List Stp)(cl st:AD):Prop where
 tp:H t=some (.tup [.ref sa,.ref fa])
 h:H sa=some (.lst sv)
 s:Xl (zli (· ≠ sa) H) sv S
 f:jY H fa fc fs us ws cl st
 ss:zhs rs n tgs S
 w:Way rs n tgs S cl st
def znm:Sp:=λo H Q _=>∃(p l f:Addr) (b:AE) (n:Int) (d:AF) (a:List Tg) (L:AA->Bool),o=[.ref p,.ref f]/\qf H p l b n/\Rows bd.cps.toList b/\H f=some (.lst d)/\Xl (ZA H) d a/\a.length<=32/\a.Nodup/\(∀c,some c∈a->c∈zT b)/\(zI b).length<=20/\Qw (jo b n a) L [] [] /\
 ∀(t sa h i fs:Addr) (j m q:AF) (S:List Stp) (g st:AD) (e:Hp),Told e b n a t sa h i fs j m q S g st->zo H e->Q (.ref t) e
def Zt {rs:AE}(R:Rows bd.cps.toList rs){c:AA}(h:c∈zI rs):c.1<8/\c.2<8:=by
 obtain⟨t,k,g,hk,_,_⟩:=qd h;have a:=R.hi;obtain⟨m,_,i,f⟩:=R.ex;have e:=(f t (X8 g)).len;have b:=(X4.mp g).1;have d:=(X4.mp hk).1;rw[X5]at d;lia
def ja:zB ["board","things","asked","lists","steps","finding","step"] ["board","things"] (zp Zl):=bh
def zfX (T:Txt mg)(Z:Prog K mg){f:Addr}{fd:XD}(D:zm K mg "all_steps" Zl ["board","things"] f fd):zU P w K mg base CX0 4 f fd ["board","things"] znm:=by
 obtain⟨Qs,Z3,zJ⟩:=Z.around;obtain⟨JJ,xq,zq⟩:=Z.sign_at;obtain⟨xr,yH,zv⟩:=Z.cells_of;obtain⟨bB,bA,qR⟩:=Z.closed;obtain⟨Zq,JA,zO⟩:=Z.number_at;obtain⟨jL,jn,zz⟩:=Z.closed_around;obtain⟨bD,bC,J2⟩:=Z.asked_by;obtain⟨bE,bG,aN⟩:=Z.place_lists;obtain⟨bH,bF,YQ⟩:=Z.first_step;have b0:=zcb (P:=P) (w:=w) (base:=base) T J2 zJ zq zv qR zO zz;have b1:=zdH (P:=P) (w:=w) (base:=base) T aN;have aO:=zec (P:=P) (w:=w) (base:=base) T Z YQ;refine D.F.ok ja (λvs H Q E h=>?_) (λb5 A be s H vs Q E hr h=>?_)
 .revert h;refine fu λp l th U n af g L=>fR λz0 _=>?_;subst z0;rfl
 .revert h;refine fu λp l th U n af g L=>fO λz0 B R ao=>fO λhT aM tn aV=>fB λaa ag q=>?_;subst z0;refine⟨_,(ze (psC 2 ja.nd ["thing","board"] [none,some 0] cR (zG (pvS 1)) (pgN 0) qa (pc0 b0 hr J2 (za (pvS 1) (za (pvS 0) zd)))) (ze (qA 3 ja.nd (pc0 b1 hr aN (za (pvS 2) zd))) (@ze _ _ _ _ _ (@qu _ _ 4 _ _ _ _ ja.nd rfl (VL rfl) (@zW _ _ _ _ zd) (by rfl) (.inr rfl)) (@ze _ _ _ _ _ (@qu _ _ 5 _ _ _ _ ja.nd rfl (VL rfl) (@qj _ _ _ _ _ (@za _ _ _ _ _ (@zW _ _ _ _ zd) (@za _ _ _ _ _ (@zW _ _ _ _ zd) zd rfl) rfl)) (by rfl) (.inr rfl)) (ze (qA 6 ja.nd (pc0 aO hr YQ (za (pvS 1) (za (pvS 2) (za (pvS 3) (za (pvS 5) zd)))))) (ze (zlA Xe (z9 znN (pvS 6) zlt (zP _)) (ze (jR (Ze WO Wu Wt JX (pvS 4) (za (pvS 6) zd))) (ze (qA 5 ja.nd (qj (za (pb1 GS.jM T.yU Ws (zC yZ (zF zQ (pvS 5) zf (λ_ _=>rfl)) (zF zQ (pvS 6) zf (λ_ _=>rfl)))) (za (pb1 GS.jM T.yU Ws (zC yZ (zF zQ (pvS 5) zf (λ_ _=>rfl)) (zF zQ (pvS 6) zf (λ_ _=>rfl)))) zd)))) (zg (qA 6 ja.nd (pc0 aO hr YQ (za (pvS 1) (za (pvS 2) (za (pvS 3) (za (pvS 5) zd)))))))))) (zg (zw (qj (za (pvS 4) (za (pvS 5) zd))))))))))),?_⟩;(try dsimp only[cxK,cxP,cxW]);have kl:(jo U n g).length=g.length:=by
   unfold jo;rw[ZB]
  refine⟨_,rfl,th,rfl,⟨_,SqL.of ao⟩,λla aA=>?_⟩;refine qb (K:=K) (a:=th) (xs:=af) (λi σ H'=>∃(u0:Option V) (ys:AF),σ=[u0,some (.ref p)]/\zo H H'/\H' la=some (.lst ys)/\Xl (AkN (· ≠ la) H') ys (jo U n (g.take i))) (eF [] rfl (zc aA) zb (.nil)) (λi σ H' _ ⟨_,_,_,s',_⟩=>SqL.of (s' _ _ ao)) ?_ ?_
  .refine λi x σ H2 hx=>fm λu0 ys z0 s2 ar hP=>?_;subst z0;obtain⟨tg,aF,aX⟩:=ZJ hT hx;have ho:∀c,tg=some c->c∈zT U:=λc e=>aV c (by rw[<- e];exact X8 aF);unfold xU;refine YH ?_;refine⟨_,rfl,_,rfl,p,l,U,n,x,tg,rfl,B.mono s2,R,aX.mono s2,ho,λt l2 us3 H3 f1 f2 aE aU b3 s3=>?_⟩;have au:=s3 _ _ ar;have n1:t≠la:=zbM aE au (by intro q;cases q);have n2:l2≠la:=λz=>by
    rw[z,ar]at f2;cases f2
   have yl:ys.length<=32:=by
    rw[Paired.length hP];unfold jo;rw[ZB,XN];lia
   refine dI ys au (XM yl (by decide)) (eF (ys++[.ref t]) rfl (λb o e'=>?_) zb ?_)
   .rw[zj (zh e' aA)];exact s3 _ _ (s2 _ _ e')
   .unfold jo at *
    rw[take_snoc aF,Xz];refine Paired.snoc (zdI ar (λb o nb e=>by rw[zj nb];exact s3 _ _ e) hP) (dW t l2 us3 rfl n1 n2 ?_ ⟨?_,Cel.into la _ au b3⟩)
    .rw[zj n1];exact aE
    .rw[zj n2];exact aU
  refine λσ H2=>fm λu0 ys z0 s2 am hP=>?_;subst z0;rw[Paired.length hT,XJ]at hP;have hV:=znk hP;have bb:∀k∈jo U n g,k.2.length<=64:=λk hk=>by
   obtain⟨tg,_,rfl⟩:=XI.mp hk;exact X6 Q6.length_le (X6 aa (by decide))
  refine⟨_,rfl,la,ys,jo U n g,rfl,am,hV,by lia,bb,λpl us H3 b4 aW s3=>?_⟩;refine⟨yR,λsa aD=>⟨yR,λj ay=>⟨yR,λG az=>⟨yi,λY b2=>?_⟩⟩⟩⟩;have y1:=zc (o:=.lst []) aD;have y2:=zc (o:=.lst []) ay;have y3:=zc (o:=.lst []) az;have y4:=zc (o:=.tup [.ref j,.ref G]) b2;have b7:=s2.trans (s3.trans (y1.trans (y2.trans (y3.trans y4))));have n1:j≠sa:=λe=>by
   rw[e,zb]at ay;cases ay
  have n2:G≠sa:=λe=>by
   rw[e,y2 _ _ zb]at az;cases az
  have F0:jY (upd (upd (upd (upd H3 sa (.lst [])) j (.lst [])) G (.lst [])) Y (.tup [.ref j,.ref G])) Y j G [] [] [] []:=⟨zb,y4 _ _ (y3 _ _ zb),y4 _ _ zb,.nil,.nil⟩;have an:(upd (upd (upd (upd H3 sa (.lst [])) j (.lst [])) G (.lst [])) Y (.tup [.ref j,.ref G])) sa=some (.lst []):=y4 _ _ (y3 _ _ (y2 _ _ zb));have aK:zo H3 (upd (upd (upd (upd H3 sa (.lst [])) j (.lst [])) G (.lst [])) Y (.tup [.ref j,.ref G])):=y1.trans (y2.trans (y3.trans y4));generalize upd (upd (upd (upd H3 sa (.lst [])) j (.lst [])) G (.lst [])) Y (.tup [.ref j,.ref G])=H4 at *
  have first:∀(Hc:Hp) (fa fc fs:Addr) (u w':AF) (cl st:AD),zo H3 Hc->jY Hc fa fc fs u w' cl st->∀S,Way U n g S cl st->zjT Hc th la pl fa fc fs af ys us u w' g (jo U n g) cl st:=by
   intro Hc fa fc fs u w' cl st sc F S W;have aI:=s2.trans (s3.trans sc);have aJ:=s3.trans sc;have wl:=W.len ag aa;exact⟨aI _ _ ao,Paired.imp' (λ_ _ h=>ZA.mono aI h) hT,aJ _ _ am,zdG aJ hV,sc _ _ b4,Z5 sc aW,F,⟨λc hc=>Zt R (W.s1 c hc),λc hc=>Zt R (W.s2 c hc),by lia,by lia⟩⟩
  have ai:∀{Hc:Hp} {M:AF} {d:Addr},Hc sa=some (.lst M)->Hc d=none->d≠sa:=λh f e=>by
   rw[e,h]at f;cases f
  have W0:Way U n g [] [] []:=⟨.nil,.nil,λ_ h=>h,.nil,.nil,(λ_ h=>nomatch h),λ_ h=>nomatch h⟩;refine' zsR (λv H5=>NxV H5 sa U n g [] [] v/\zo H4 H5) (λgo=>?gTail) ?gRest
  case gTail =>
   refine⟨_,rfl,_,rfl,_,rfl,_,rfl,th,la,pl,Y,j,G,af,ys,us,[],[],U,n,g,[],[],L,rfl,first H4 Y j G [] [] [] [] aK F0 _ W0,aa,aM,tn,ag,?gN,λts c1 c2 r tl d1 d2 tv w1 w2 H' ok hx s'=>?gS⟩
   case gS =>
    have hv:NxV H' sa U n g [] [] (.ref r):=.inr (dS (ts,c1,c2) ok (dR r tl d1 d2 (dF tv w1 (dS w2 rfl (hx.imp λ_=>ai an)))))
    clear hx
    revert hv
    generalize V.ref r=v
    intro hv
    exact go v H' ⟨hv,s'⟩
   case gN=>exact λH' s'=>go _ _ ⟨.inl rfl,s'⟩
  rintro v H5 ⟨hv,av⟩;refine⟨λm σ H'=>∃(fa fc fs:Addr) (M u w':AF) (cl st:AD) (v:V) (S:List Stp),m=20-(cl.length+st.length)/\σ=[some (.ref p),some (.ref th),some (.ref la),some (.ref pl),some (.ref sa),some (.ref fa),some v]/\zo H3 H'/\H' sa=some (.lst M)/\M.length<=cl.length+st.length/\jY H' fa fc fs u w' cl st/\fc≠sa/\fs≠sa/\Way U n g S cl st/\zhs U n g S/\Xl (zli (· ≠ sa) H') M S/\NxV H' sa U n g cl st v,⟨_,(eV Y j G [] [] [] [] [] (dU v [] rfl rfl (aK.trans av) (av _ _ an) (dJ (XU _) (F0.mono av) n1 n2 (dZ W0 (λ_ _ h=>nomatch h) (.nil) hv))))⟩,?_⟩;intro m σ H6 hh;refine GS.via λGG a5=>?_;revert hh;refine fu λfa fc fs M u w' cl st=>fD λv S z0 z1 s6 I=>fO λb8 F nc ns=>fE λW a7 hS hv=>?_;subst z0 z1;have wl:=W.len ag aa;rcases hv with rfl | ⟨⟨ts,c1,c2⟩,ok,r,tl,d1,d2,tv,w1,w2,rfl,hx⟩
  .refine a5 ⟨_,rfl,rfl,_,rfl,?_⟩;refine qW (by decide) ?_;refine⟨_,rfl,_,rfl,yi,λtt ba=>?_⟩;have y:=zc (o:=.tup [.ref sa,.ref fa]) ba;exact q tt sa fa fc fs M u w' S cl st _ ⟨zb,y _ _ I,Q7 y hS,F.mono y,a7,W⟩ (s2.trans (s3.trans (s6.trans y)))
  .have ok:Qy U n g cl st ts c1 c2:=ok;refine a5 ⟨_,rfl,rfl,_,rfl,?_⟩;refine jb (by rw[bf (λz=>nomatch z)];rfl) ?_;refine dB (fun bI H' h=>h) ?_;have b6:(20:Nat)<=XA:=by decide
   refine⟨_,rfl,.inl ⟨rfl,_,SqL.of I⟩,_,rfl,sa,_,_,rfl,rfl,I,XM (show M.length<=20 by lia) (by decide),?_⟩;have F7:jY (upd H6 sa (.lst (M++[.ref r]))) fa fc fs u w' cl st:=⟨by rw[zj (zbM F.tp I (by intro q;cases q))];exact F.tp,by rw[zj nc];exact F.h1,by rw[zj ns];exact F.h2,Cel.into sa _ I F.c1,Cel.into sa _ I F.c2⟩;have O:Z6 (· ≠ sa) (upd H6 sa (.lst (M++[.ref r]))) r tl d1 d2 tv w1 w2 ts c1 c2:=hx.into I;have aT:Xl (zli (· ≠ sa) (upd H6 sa (.lst (M++[.ref r])))) (M++[.ref r]) (S++[(ts,c1,c2)]):=Paired.snoc (Paired.imp' (λ_ _ ⟨r,tl,d1,d2,tv,w1,w2,e,z⟩=>(dR r tl d1 d2 (dF tv w1 (dS w2 e (z.into I))))) hS) (dR r tl d1 d2 (dF tv w1 (dS w2 rfl O)));have s7:zo H3 (upd H6 sa (.lst (M++[.ref r]))):=λb o e=>by
    rw[zj (zh e aD)];exact s6 _ _ e
   have ac:upd H6 sa (.lst (M++[.ref r])) sa=some (.lst (M++[.ref r])):=zb;generalize upd H6 sa (.lst (M++[.ref r]))=H7 at *
   have m1:c1.length<=20:=zax (qg ok.x1) (λc hc=>(ok.g1 c hc).1) aa;have m2:c2.length<=20:=zax (qg ok.x2) (λc hc=>(ok.g2 c hc).1) aa;have a1:=F7.c1.length;have a2:=F7.c2.length;have a3:=O.e1.length;have a4:=O.e2.length;refine⟨_,rfl,fa,_,0,_,rfl,rfl,SqT.of F7.tp,rfl,_,rfl,r,_,1,_,rfl,rfl,SqT.of O.tp,rfl,fc,d1,_,_,rfl,rfl,F7.h1,O.h1,X6 (show u.length+w1.length<=100 by lia) (by decide),λx hx=>?_⟩;have y1:=zc (o:=.lst (u++w1)) hx;refine dM x (dJ rfl (SqL.of zb) (Cel.tup2 ((F7.c1.append O.e1).mono y1)) (by rw[XY];lia) (λJ u1 z1 ak aY bi up1=>?_));refine fq (λq1 z0 aB=>?_) (YF bi);subst z0;have y2:=zc (o:=.lst u1) ak;have ah:=y1.trans y2;refine⟨_,rfl,fa,_,1,_,rfl,rfl,SqT.of (ah _ _ F7.tp),rfl,_,rfl,r,_,2,_,rfl,rfl,SqT.of (ah _ _ O.tp),rfl,fs,d2,_,_,rfl,rfl,ah _ _ F7.h2,ah _ _ O.h2,X6 (show w'.length+w2.length<=100 by lia) (by decide),λx' aq=>?_⟩;have y3:=zc (o:=.lst (w'++w2)) aq;have aw:=ah.trans y3;refine dM x' (dJ rfl (SqL.of zb) (Cel.tup2 ((F7.c2.append O.e2).mono aw)) (by rw[XY];lia) (λN u2 z2 al aZ bj bp=>?_));refine fq (λq2 z0 aC=>?_) (YF bj);subst z0;have y4:=zc (o:=.lst u2) al;have bx:=aw.trans y4;refine⟨yi,λab a8=>?_⟩;have y5:=zc (o:=.tup [.ref J,.ref N]) a8;have ax:=bx.trans y5;have a9:=(y3.trans (y4.trans y5)) _ _ (zb (H:=upd H7 x (.lst (u++w1))) (a:=J) (o:=.lst u1));have F8:jY _ ab J N u1 u2 q1 q2:=⟨zb,a9,y5 _ _ zb,Cel.mono (y2.trans (y3.trans (y4.trans y5))) (qJ aY),Cel.mono (y4.trans y5) (qJ aZ)⟩;have aG:J≠sa:=ai (y1 _ _ ac) ak;have aH:N≠sa:=ai (aw _ _ ac) al;have W8:=W.next ok aB aC up1 bp;have ae:=ax _ _ ac;have a6:=Q7 ax aT;have aj:=a7.snoc (s:=(ts,c1,c2)) W ok;have s8:=s7.trans ax;generalize upd (upd (upd (upd (upd H7 x (.lst (u++w1))) J (.lst u1)) x' (.lst (w'++w2))) N (.lst u2)) ab (.tup [.ref J,.ref N])=H8 at *
   have k1:=aB.length_eq;have k2:=aC.length_eq;rw[XY]at k1 k2;have k3:1<=c1.length+c2.length:=by
    by_cases z:c1.length+c2.length=0
    .exact absurd ⟨Wb.mp (by lia),Wb.mp (by lia)⟩ ok.ne
    .lia
   have b9:=W8.len ag aa;refine⟨_,rfl,_,rfl,_,rfl,_,rfl,th,la,pl,ab,J,N,af,ys,us,u1,u2,U,n,g,q1,q2,L,rfl,first H8 ab J N u1 u2 q1 q2 s8 F8 _ W8,aa,aM,tn,W8.tr L ag,λH9 s9=>?_,λbn aP aQ r' bm aR aS bo bt bv H9 bc aq s9=>?_⟩
   .exact dB (by lia) (eV ab J N (M++[.ref r]) u1 u2 q1 q2 (eX (.non) rfl rfl (s8.trans s9) (s9 _ _ ae) (dJ (by rw[XY];show M.length+1<=_;lia) (F8.mono s9) aG aH (dZ W8 aj (Q7 s9 a6) (.inl rfl)))))
   .exact dB (by lia) (eV ab J N (M++[.ref r]) u1 u2 q1 q2 (eX (.ref r') rfl rfl (s8.trans s9) (s9 _ _ ae) (dJ (by rw[XY];show M.length+1<=_;lia) (F8.mono s9) aG aH (dZ W8 aj (Q7 s9 a6) (.inr (dS (bn,aP,aQ) bc (dR r' bm aR aS (dF bo bt (dS bv rfl (aq.imp λ_=>ai ae))))))))))
def nbC (rs:AE):AD:=(zT rs).filter λo=>!(clA rs o).isEmpty
def QA (rs:AE):List (Option AA):=(nbC rs).map some++[none]
structure Lay (rs:AE)(n:Int)(L:AA->Bool):Prop where
 a:(((zI rs).countP L:Nat):Int)=n
 o:∀o∈zT rs,(((clA rs o).countP L:Nat):Int)=jC rs o
def Lay.tr {rs:AE}{n:Int}{L:AA->Bool}(h:Lay rs n L):Qw (jo rs n (QA rs)) L [] []:=by
 refine⟨(λ_ z=>nomatch z),(λ_ z=>nomatch z),λk hk=>?_⟩;obtain⟨c,ht,rfl⟩:=XI.mp hk;rcases XO.mp ht with ht | ht
 .obtain⟨o,b,rfl⟩:=XI.mp ht;exact h.o o (XW.mp b).1
 .rw[Wf.mp ht];exact h.a
def zfY {rs:AE}{n:Int}(f:0<=n){S:AD}(b:S∈Subs.subs (zI rs))(z:(decide (S.length=n.toNat)&&jE rs S)=true):Lay rs n λc=>decide (c∈S):=by
 rw[WH,bu]at z;have sub:=Tally.yv b;have e:=(xj rs).sublist sub;have a:∀p:AA->Bool,((zI rs).filter p).countP (λc=>decide (c∈S))=(S.filter p).length:=λp=>by
  rw[List.countP_eq_length_filter,U0];refine OH ((Wl ((xj rs).sublist W5) (e.sublist W5)).mpr λc=>?_);rw[XW,XW,WH,bu];exact⟨λz=>z.2,λz=>⟨sub.subset z.1,z⟩⟩
 refine⟨?_,λo d=>?_⟩
 .have:=a λ_=>true;rw[R5.mpr λ_ _=>rfl,R5.mpr λ_ _=>rfl]at this;rw[this];lia
 .rw[<- YK.mp z.2 o d];congr 1;unfold Grow.cnt;rw[<- a];refine OG _ ((Wl (zbL rs o) ((xj rs).sublist W5)).mpr λc=>?_);rw[XW];exact⟨λz=>⟨Ja z,(Jx (Ja z)).mpr z⟩,λz=>(Jx z.1).mp z.2⟩
def zno {rs:AE}{n:Int}(b:0<=n)(h:zav rs n≠0):∃L,Lay rs n L:=by
 unfold zav Tally.T at h;obtain⟨S,a,z⟩:=OM.mp (show 0<(Subs.subs (zI rs)).countP λS=>decide (S.length=n.toNat)&&jE rs S by lia);exact⟨_,zfY b a z⟩
def zdL (d c:Addr):Sp:=λj H Q E=>∃(p l:Addr) (a:AE) (n:Int),j=[.ref p]/\qf H p l a n/\Rows bd.cps.toList a/\0<=n/\(zI a).length<=14 /\
 (30<(nbC a).length->∀b,zo H b->E (.ref c) none b) /\
 ((nbC a).length<=30->zav a n=0->∀b,zo H b->E (.ref d) none b) /\
 ((nbC a).length<=30->zav a n≠0->∀(t sa f g fs:Addr) (h i m:AF) (S:List Stp) (e st:AD) (b:Hp),Told b a n (QA a) t sa f g fs h i m S e st->zo H b->Q (.ref t) b)
def zhu {rs:AE}:∀c,some c∈QA rs->c∈zT rs:=λc hc=>by
 rcases XO.mp hc with hc | hc
 .obtain⟨o,a,e⟩:=XI.mp hc;cases e;exact(XW.mp a).1
 .cases Wf.mp hc
def zq2 (rs:AE):(QA rs).Nodup:=by
 refine WL.mpr ⟨?_,Wp.mpr ⟨(λh=>nomatch h),.nil⟩,λa d b c e=>?_⟩
 .exact List.Pairwise.map _ (λ_ _ h z=>h (Option.some.inj z)) ((qg (Cells.JF YY 0 (codes rs))).sublist W5)
 .obtain⟨o,_,rfl⟩:=XI.mp d;rw[<- e]at c;cases Wf.mp c
def znp {H:Hp}{vs:AF}{a:AD}(h:Cel H vs a):Xl (ZA H) vs (a.map some):=by
 induction h with
 | nil=>exact .nil
 | cons r _ b=>exact .cons r b
def zcc:zB ["board","cells"] ["board"] (zp YA):=bh
def zhv (T:Txt mg)(Z:Prog K mg)(ag:Qc K mg "NoLaying" jaa)(ah:Qc K mg "TooGreat" jab){f:Addr}{fd:XD}(D:zm K mg "thoughts" YA ["board"] f fd):zU P w K mg base (CXE P w) 8 f fd ["board"] (zdL jaa jab):=by
 obtain⟨Qs,Z3,zJ⟩:=Z.around;obtain⟨JJ,xq,zq⟩:=Z.sign_at;obtain⟨xr,yH,zv⟩:=Z.cells_of;obtain⟨Jz,xT,zu⟩:=Z.open_cells;obtain⟨jL,jn,zz⟩:=Z.closed_around;obtain⟨ay,ax,aa⟩:=Z.count;obtain⟨a1,az,ab⟩:=Z.all_steps;have am:=yd (P:=P) (w:=w) (base:=base) T zz zJ zq;have ao:=jN (P:=P) (w:=w) (base:=base) T zu zv zq;have an:=zhe (P:=P) (w:=w) (base:=base) T Z aa;have aq:=zfX (P:=P) (w:=w) (base:=base) T Z ab;refine D.F.okX zcc (λvs H Q E h=>?_) (λar A ai s H vs Q E u h=>?_)
 .revert h;refine fL λp l c n z0 _=>?_;subst z0;rfl
 .revert h;refine fS λp l c n z0 B R n0=>fE λM eg ez q=>?_;subst z0;refine⟨_,(ze (psC 1 zcc.nd ["cell","board"] [none,some 0] cR (zG (pc0 ao u zu (za (pvS 0) zd))) (pgN 0) (qk (z9 (zb2 (K:=K) (by rfl) u.units) (pc0 am u zz (za (pvS 1) (za (pvS 0) zd))) (@zW _ _ _ _ zd) (zP _))) (pvS 0)) (ze (qy (z9 zii (pb1 zH T.qC Xg (pvS 1)) (xJ (v:=.int 30) (by rfl) T.zd3.choose_spec (by exact⟨_,rfl⟩)) (zP _)) (zg (zgt zes ah (by rfl) rfl (@za _ _ _ _ _ qX zd rfl))) zY) (ze (qy (z9 ZD (pc0 an u aa (za (pvS 0) zd)) zf (zP _)) (zg (zgt zes ag (by rfl) rfl (@za _ _ _ _ _ qX zd rfl))) zY) (zg (zw (pc0 aq u ab (za (pvS 0) (za (zC yZ (pvS 1) (zW (za (xJ (v:=.str "all") (by rfl) T.zmG.choose_spec (by exact⟨_,rfl⟩)) zd))) zd)))))))),?_⟩;(try dsimp only[cxK,cxP,cxW]);refine⟨_,rfl,p,l,c,n,rfl,B,R,λd ws H1 hd r j s1=>(dI d rfl ⟨_,SqL.of r⟩ (λz hz=>?_))⟩;have b1:=B.mono s1;refine qc (K:=K) (a:=d) (xs:=ws) (λa=>a≠z) ((zT c).map λo=>if (!(clA c o).isEmpty)=true then some (zk o) else none) (fun σ=>∃u0,σ=[u0,some (.ref p)]) hz (λ_ h=>h) ⟨_,rfl⟩ (by rw[ZB];exact j.length.symm) (by rw[j.length];exact X6 (qL R) (by decide)) (SqL.of r) ?_ ?_
  .rintro k x o σ H2 hx ho O av ⟨u0,rfl⟩ Y Z al no;obtain⟨y,hy,r1⟩:=Cel.get j hx;have eo:=jd hy ho;refine fm (λt sg ht hj _ es=>?_) (qd (X8 hy));obtain⟨ya,rfl,I⟩:=r1;obtain⟨l1,l2⟩:=yy R ht hj;refine⟨_,rfl,_,rfl,p,l,ya,c,n,y,rfl,b1.mono O,R,O _ _ I,l1,l2,λd2 aw H3 au ae g m=>⟨yR,λe he=>?_⟩⟩;have s4:=zc (o:=.lst []) he;refine dY (.list ((clA c y).map zk)) (.list []) (.lst (SqL.of (s4 _ _ ae)) (Q8 (g.mono s4))) (.lst (SqL.of zb) .nil) (YE _ []) ⟨_,rfl,?_⟩;have ee:(if true=true then !PyData.eqv (.list ((clA c y).map zk)) (.list []) else Xa (.list ((clA c y).map zk)) (.list []))=!(clA c y).isEmpty:=congrArg (λb=>!b) (eq_nil _);rw[ee];by_cases hp:(!(clA c y).isEmpty)=true
   .rw[bw hp]at eo;exact jb hp ⟨_,rfl,al _ _ _ _ eo ⟨_,rfl⟩ (m.trans s4) (yk.rdn ⟨ya,rfl,s4 _ _ (m _ _ (O _ _ I))⟩)⟩
   .rw[bq hp]at eo;exact qW (Xs.mpr hp) (no _ _ eo ⟨_,rfl⟩ (m.trans s4))
  rintro ys H2 O J G;rw[zZ]at G;have g:Cel H2 ys (nbC c):=zx.cel G;have i:=s1.trans O;have B2:=B.mono i;have yl:ys.length=(nbC c).length:=g.length;refine⟨_,rfl,z,_,rfl,.inl (SqL.of J),_,_,rfl,rfl,_,rfl,?_⟩;by_cases ac:30<(nbC c).length
  .exact jb (br (by lia)) ⟨by decide,eg ac _ i⟩
  refine qW (bf (by lia)) ?_;refine⟨_,rfl,p,l,c,n,rfl,B2,R,zbi M,n0,λH3 m=>?_⟩;have aj:=i.trans m;refine⟨rfl,_,rfl,?_⟩;by_cases h0:zav c n=0
  .exact jb (br (congrArg V.int h0)) ⟨by decide,ez (by lia) h0 _ aj⟩
  refine qW (bf λe=>h0 (V.int.inj e)) ?_;obtain⟨L,hL⟩:=zno n0 h0;refine⟨_,rfl,_,rfl,sz_1,λx hx=>?_⟩;have y4:=zc (o:=.lst [V.str "all"]) hx;refine dF z x (dG (dQ rfl rfl (y4 _ _ (m _ _ J)) zb (X6 (show ys.length+1<=40 by lia) (by decide)) (λth af=>?_)));have y5:=zc (o:=.lst (ys++[V.str "all"])) af;have U:=m.trans (y4.trans y5);have N:=i.trans U;refine eV p l th c n (ys++[V.str "all"]) (QA c) L (dJ rfl (B.mono N) R zb (dJ (Paired.snoc (znp (g.mono U)) rfl) ?_ (zq2 c) zhu (dD (X6 M (by decide)) hL.tr (λt sa fa fc fs sv us ak S cl st H' k1 s'=>q (by lia) h0 t sa fa fc fs sv us ak S cl st H' k1 (N.trans s')))))
  .unfold QA;rw[XY,ZB];show (nbC c).length+1<=32;lia
def zpB (H:Hp)(v:V)(t:List Nat):Prop:=v=V.str ⟨t.toArray⟩\/∃a,v=V.ref a/\H a=some (.lst (t.map λc=>V.str ⟨#[c]⟩))
def Je (H:Hp):AF->List (List Nat)->Prop:=Xl (zpB H)
theorem Je.get {H:Hp}:∀{vs:AF} {gs:List (List Nat)} {i:Nat} {t:List Nat},Je H vs gs->gs[i]?=some t->∃v,vs[i]?=some v/\zpB H v t
 | _,_,_,_,.nil,e=>by simp at e
 | _,_,0,_,.cons r _,e=>by
  simp at e;subst e;exact⟨_,rfl,r⟩
 | _,_,i+1,t,.cons _ q,e=>by
  obtain⟨c,h1,h2⟩:=Je.get (i:=i) (t:=t) q (by simpa using e);exact⟨c,by simpa using h1,h2⟩
theorem Je.rows (H:Hp):∀rs:AE,Je H (rs.map V.str) (codes rs)
 | []=>.nil
 | t::r=>.cons (.inl (by
   obtain⟨⟨x⟩⟩:=t;rfl)) (Je.rows H r)
def pZ (zs:List Nat)(k:Nat):Bool:=decide (k∈zs)
def zfb (k c:Nat):eqV (V.str ⟨#[c]⟩) (V.str ⟨#[k]⟩)=decide (c=k):=by
 have a:eqV (V.str ⟨#[c]⟩) (V.str ⟨#[k]⟩)=((⟨#[c]⟩:Str)==(⟨#[k]⟩:Str)):=rfl;rw[a,WV,beq_iff_eq,bu];constructor
 .intro h;have b:(#[c]:Array Nat)=#[k]:=congrArg Str.cps h;simpa using b
 .rintro rfl;rfl
def zhx (k:Nat)(zs:List Nat):inV (V.str ⟨#[k]⟩) (zs.map λc=>V.str ⟨#[c]⟩)=pZ zs k:=by
 unfold inV pZ;rw[Ul,WV,WG,bu];constructor
 .rintro⟨c,hc,h⟩;have e:c=k:=bg ((zfb k c).symm.trans h);rw[<- e];exact hc
 .intro h;exact⟨k,h,(zfb k k).trans (br rfl)⟩
def zdM (zs:List Nat):(zs.map λc=>V.str ⟨#[c]⟩).all zaM=true:=by
 rw[WK];intro v a;obtain⟨c,_,rfl⟩:=XI.mp a;rfl
def znr (H a:Hp)(d:Addr):Prop:=∀b o,b≠d->H b=some o->a b=some o
def zhy:Sp:=λi H Q _=>∃(l e:Addr) (f:AF) (b:List (List Nat)) (h:List Nat),i=[.ref l,.ref e]/\H l=some (.lst f)/\Je H f b/\b.length<=8/\(∀t∈b,t.length<=8)/\H e=some (.lst (h.map λc=>V.str ⟨#[c]⟩)) /\
 ∀(d:Addr) (g:AF) (a:Hp),H d=none->a d=some (.lst g)->Cel a g (Cells.zE (pZ h) 0 b)->zo H a->Q (.ref d) a
def JB:zB ["_law_rows","_law_signs","_law_found","_law_row","_law_column"] ["_law_rows","_law_signs"] (zp yF):=bh
def YR (T:Txt mg)(D:zm K mg "_law_cells" yF ["_law_rows","_law_signs"] f fd):zU P w K mg base CX0 1 f fd ["_law_rows","_law_signs"] zhy:=by
 refine D.F.ok JB (λvs H Q E h=>?_) (λak A aj s H vs Q E hr h=>?_)
 .revert h;refine fQ λl sg us N=>fq λm z0 _=>?_;subst z0;rfl
 .revert h;refine fY λl sg us N m z0 hl hG g8=>fB λt8 ah q=>?_;subst z0;have ul:us.length=N.length:=Paired.length hG;refine⟨_,(@ze _ _ _ _ _ (@qu _ _ 2 _ _ _ _ JB.nd rfl (VL rfl) (@zW _ _ _ _ zd) (by rfl) (.inr rfl)) (ze (qt Xe rfl (prg T.yT (pb1 qe T.qC Xg (pv 0))) (pgq 3 JB.nd) (zg (qt Xe rfl (prg T.yT (pb1 zgD T.qC Xg (zF ji (pv 0) (pv 3) (λ_ _=>rfl)))) (pgq 4 JB.nd) (zg (qy (jh zkh (zF zrM (zF ji (pv 0) (pv 3) (λ_ _=>rfl)) (pv 4) (λ_ _=>rfl)) (pv 1) (by rfl)) (zg (jR (Ze WO Wu Wt JC (pv 2) (za (qj (za (pv 3) (za (pv 4) zd))) zd)))) zY))))) (zg (zw (pv 2))))),?_⟩;(try dsimp only[cxK,cxP,cxW]);refine⟨yR,λd hd=>?_⟩;have s0:zo H (upd H d (.lst [])):=zc hd;refine eN rfl l (dD rfl (.inl (SqL.of (s0 _ _ hl))) (eH rfl (by lia) (by lia) ?_));rw[V1,ul];refine jj (lo:=0) (n:=N.length) (λi M x=>∃(v3 L:Option V) (B:AF),M=[some (.ref l),some (.ref sg),some (.ref d),v3,L]/\zo H x/\x d=some (.lst B)/\Cel x B (Cells.zE (pZ m) 0 (N.take i))) (dG (e8 [] rfl s0 zb (.nil))) ?_ ?_
  .refine λi M H1 hi=>fF λv3 L B z0 s1 O G=>?_;subst z0;obtain⟨t,ht⟩:∃t,N[i]?=some t:=⟨_,XZ hi⟩;have tl:=t8 t (X8 ht);refine fq (λv hv ag=>?_) (Je.get hG ht);have ac:atI us (0+(i:Int))=some v:=by
    rw[VQ];exact j3 hv
   refine dH rfl rfl (dM l (dO v rfl rfl (SqL.of (s1 _ _ hl)) ac ?_));rcases ag with rfl | ⟨ra,rfl,aa⟩
   .have Y:(⟨t.toArray⟩:Str).length=t.length:=by show t.toArray.size=_;rw[Xu]
    refine .inr (dI ⟨t.toArray⟩ rfl (by rw[Y];exact X6 tl (by decide)) (eH rfl (by rw[Y];lia) (by rw[Y];lia) ?_));rw[V1,Y];refine jj (lo:=0) (n:=t.length) (λj M x=>∃(L:Option V) (B:AF),M=[some (.ref l),some (.ref sg),some (.ref d),some (.int (0+(i:Int))),L]/\zo H x/\znr H1 x d/\x d=some (.lst B)/\Cel x B (Cells.zE (pZ m) 0 (N.take i)++Cells.zK (pZ m) i 0 (t.take j))) (d9 B rfl s1 (λb o _ e=>e) O (by rw[Pa];rw[show Cells.zK (pZ m) i 0 []=[] from rfl,Xf];exact G)) ?_ ?_
    .refine λj M H2 hj=>fD λL r z0 z y g a=>?_;subst z0;obtain⟨k,hk⟩:∃k,t[j]?=some k:=⟨_,XZ hj⟩;have st:=Cells.Yv (p:=pZ m) (i:=i) hk;refine dH rfl rfl (dM l (eB rfl rfl (SqL.of (z _ _ hl)) ac (dB rfl (.inr (eE ⟨t.toArray⟩ (dO k rfl rfl (by rw[Y];exact X6 tl (by decide)) (by rw[VQ];exact j3 hk) (eN rfl sg (dJ rfl (.inl (SqL.of (z _ _ ah))) rfl (zdM m) (dB rfl ?_)))))))));have ab:(if false=true then !inV (V.str ⟨#[k]⟩) (m.map λc=>V.str ⟨#[c]⟩) else inV (V.str ⟨#[k]⟩) (m.map λc=>V.str ⟨#[c]⟩))=pZ m k:=zhx k m;rw[ab];have I:r.length<=200:=by
      rw[a.length,XY];have a1:=Cells.jB (pZ m) i 0 (t.take j);have a2:=Cells.qE (pZ m) 0 (N.take i) λu hu=>t8 u (V9 hu);rw[XN]at a1 a2;lia
     by_cases U:pZ m k=true
     .rw[bw U]at st;refine jb U (dN rfl (.inl ⟨rfl,_,SqL.of g⟩) (dB rfl (dN rfl yi (λtq ae=>?_))));have J:=zc (o:=.tup [.int (0+(i:Int)),.int (0+(j:Int))]) ae;refine dM d (dJ rfl rfl (J _ _ g) (XM I (by decide)) (d9 (r++[.ref tq]) rfl (λb o e=>?_) (λb o nb e=>?_) zb ?_))
      .rw[zj (zh e hd)];exact J _ _ (z _ _ e)
      .rw[zj nb];exact J _ _ (y b o nb e)
      .rw[st,<- W2];refine Cel.into d _ (J _ _ g) (Cel.snoc (Cel.mono J a) ⟨tq,rfl,?_⟩);rw[zb,VQ,VQ]
     .rw[bq U,Xf]at st;refine qW (Xs.mpr U) (d9 r rfl z y g ?_);rw[st];exact a
    .refine λM H2=>fD λL r z0 z _ g a=>?_;subst z0;refine dG (e8 r rfl z g ?_);rw[Cells.Yw ht];rw[XJ]at a;exact a
   .have af:=s1 _ _ aa;have ai:ra≠d:=zh aa hd;have Y:(t.map λc=>V.str ⟨#[c]⟩).length=t.length:=ZB _;refine .inl (eE ra (dD rfl (.inl (SqL.of af)) (eH rfl (by rw[Y];lia) (by rw[Y];lia) ?_)));rw[V1,Y];refine jj (lo:=0) (n:=t.length) (λj M x=>∃(L:Option V) (B:AF),M=[some (.ref l),some (.ref sg),some (.ref d),some (.int (0+(i:Int))),L]/\zo H x/\znr H1 x d/\x d=some (.lst B)/\Cel x B (Cells.zE (pZ m) 0 (N.take i)++Cells.zK (pZ m) i 0 (t.take j))) (d9 B rfl s1 (λb o _ e=>e) O (by rw[Pa];rw[show Cells.zK (pZ m) i 0 []=[] from rfl,Xf];exact G)) ?_ ?_
    .refine λj M H2 hj=>fD λL r z0 z y g a=>?_;subst z0;obtain⟨k,hk⟩:∃k,t[j]?=some k:=⟨_,XZ hj⟩;have st:=Cells.Yv (p:=pZ m) (i:=i) hk;refine dH rfl rfl (dM l (eB rfl rfl (SqL.of (z _ _ hl)) ac (dB rfl (.inl (dM ra (dO (V.str ⟨#[k]⟩) rfl rfl (SqL.of (y _ _ ai af)) (by rw[VQ];exact j3 (by rw[Xq,hk];rfl)) (eN rfl sg (dJ rfl (.inl (SqL.of (z _ _ ah))) rfl (zdM m) (dB rfl ?_)))))))));have ab:(if false=true then !inV (V.str ⟨#[k]⟩) (m.map λc=>V.str ⟨#[c]⟩) else inV (V.str ⟨#[k]⟩) (m.map λc=>V.str ⟨#[c]⟩))=pZ m k:=zhx k m;rw[ab];have I:r.length<=200:=by
      rw[a.length,XY];have a1:=Cells.jB (pZ m) i 0 (t.take j);have a2:=Cells.qE (pZ m) 0 (N.take i) λu hu=>t8 u (V9 hu);rw[XN]at a1 a2;lia
     by_cases U:pZ m k=true
     .rw[bw U]at st;refine jb U (dN rfl (.inl ⟨rfl,_,SqL.of g⟩) (dB rfl (dN rfl yi (λtq ae=>?_))));have J:=zc (o:=.tup [.int (0+(i:Int)),.int (0+(j:Int))]) ae;refine dM d (dJ rfl rfl (J _ _ g) (XM I (by decide)) (d9 (r++[.ref tq]) rfl (λb o e=>?_) (λb o nb e=>?_) zb ?_))
      .rw[zj (zh e hd)];exact J _ _ (z _ _ e)
      .rw[zj nb];exact J _ _ (y b o nb e)
      .rw[st,<- W2];refine Cel.into d _ (J _ _ g) (Cel.snoc (Cel.mono J a) ⟨tq,rfl,?_⟩);rw[zb,VQ,VQ]
     .rw[bq U,Xf]at st;refine qW (Xs.mpr U) (d9 r rfl z y g ?_);rw[st];exact a
    .refine λM H2=>fD λL r z0 z _ g a=>?_;subst z0;refine dG (e8 r rfl z g ?_);rw[Cells.Yw ht];rw[XJ]at a;exact a
  .refine λM H1=>fF λv3 L B z0 s1 O G=>?_;subst z0;rw[XJ]at G;exact⟨_,rfl,q d B H1 hd O G s1⟩
def zjV:Sp:=λe H Q _=>∃(a b:Addr) (c d:AA),e=[.ref a,.ref b]/\H a=some (.tup [.int (c.1:Nat),.int (c.2:Nat)])/\H b=some (.tup [.int (d.1:Nat),.int (d.2:Nat)])/\Q (.bl (Cells.near c d)) H
def zr9 (i j:Nat):decide ((if ((i:Nat):Int)-((j:Nat):Int)<0 then -(((i:Nat):Int)-((j:Nat):Int)) else ((i:Nat):Int)-((j:Nat):Int))<2)=decide (i<=j+1/\j<=i+1):=by
 rw[decide_eq_decide];split<;>lia
def zhz:zB ["_law_one","_law_other"] ["_law_one","_law_other"] (zp JZ):=bh
def zce (T:Txt mg)(D:zm K mg "_law_near" JZ ["_law_one","_law_other"] f fd):zU P w K mg base CX0 1 f fd ["_law_one","_law_other"] zjV:=by
 refine D.F.ok zhz (λp H Q E h=>?_) (λm A l s H p Q E o h=>?_)
 .revert h;refine fL λa b c d z0 _=>?_;subst z0;rfl
 .revert h;refine fN λa b c d z0 g i q=>?_;subst z0;refine⟨_,(zg (zw (Y5 (jx (jy o.units) (pv 0) (pv 1) (zP _)) (Y5 (jx zgf (pb1 zgh T.zps Po (zC Zv (zF qN (pv 0) zf (λ_ _=>rfl)) (zF qN (pv 1) zf (λ_ _=>rfl)))) zf (zP _)) (zal (jx zgf (pb1 zgh T.zps Po (zC Zv (zF qN (pv 0) zf (λ_ _=>rfl)) (zF qN (pv 1) zf (λ_ _=>rfl)))) zf (zP _))))))),?_⟩;(try dsimp only[cxK,cxP,cxW]);have r:∀x:Bool,(x=true↔Cells.near c d=true)->Cells.near c d=x:=λx h=>WV.mpr h.symm;have j:=Cells.yS (x:=c) (y:=d);refine dH rfl rfl (dY (zk c) (zk d) (yk.rdv ⟨a,rfl,g⟩) (yk.rdv ⟨b,rfl,i⟩) (zeR c d) ?_);have n:(if true=true then !PyData.eqv (zk c) (zk d) else Xa (zk c) (zk d))=!decide (c=d):=by
   show (!PyData.eqv _ _)=_;rw[ZV]
  rw[n];refine⟨_,rfl,?_⟩;by_cases e:c=d
  .rw[br e];refine ZG ?_;have:Cells.near c d=false:=by
    rw[Xs,ne_eq,j];exact λh=>h.2.2 e
   rw[this]at q;exact q
  .rw[bf e];refine zan ?_;refine d8 rfl a 0 rfl rfl (SqT.of g) rfl (d8 rfl b 0 rfl rfl (SqT.of i) rfl (dP rfl rfl (dB rfl (dP rfl rfl ?_))));refine⟨decide (c.1<=d.1+1/\d.1<=c.1+1),congrArg V.bl (zr9 c.1 d.1),?_⟩;by_cases h1:c.1<=d.1+1/\d.1<=c.1+1
   .rw[br h1];refine zan (d8 rfl a 1 rfl rfl (SqT.of g) rfl (d8 rfl b 1 rfl rfl (SqT.of i) rfl (dP rfl rfl (dB rfl (dP rfl rfl ?_)))));have:Cells.near c d=decide (c.2<=d.2+1/\d.2<=c.2+1):=by
     rw[WV,j,bu];exact⟨λh=>h.2.1,λh=>⟨h1,h,e⟩⟩
    show Q (V.bl (decide ((if ((c.2:Nat):Int)-((d.2:Nat):Int)<0 then -(((c.2:Nat):Int)-((d.2:Nat):Int)) else ((c.2:Nat):Int)-((d.2:Nat):Int))<2))) H;rw[zr9,<- this];exact q
   .rw[bf h1];refine ZG ?_;have:Cells.near c d=false:=by
     rw[Xs,ne_eq,j];exact λh=>h1 h.1
    rw[this]at q;exact q
def fData (c1 a:AD):We:=.tuple [.list (c1.map zk),.list (a.map zk)]
def zfc (c1 c:AD):zlJ (fData c1 c) (fData c1 c):=by
 have h1:U2 (fData c1 c)=true:=by
  show (U2 (.list (c1.map zk))&&(U2 (.list (c.map zk))&&true))=true;rw[show U2 (.list (c1.map zk))=true from Y0 c1,show U2 (.list (c.map zk))=true from Y0 c];rfl
 refine⟨h1,h1,?_⟩;show max (UR (c1.map zk)+1) (max (UR (c.map zk)+1) 0)+1<=64;have a:=zdk c1;have b:=zdk c;lia
def jY.rdv {K:XX}{H:Hp}{b c fs:Addr}{d e:AF}{a st:AD}(x:jY H b c fs d e a st):Rdv K H (.ref b) (fData a st):=.tup (SqT.of x.tp) (.cons (.lst (SqL.of x.h1) (Q8 x.c1)) (.cons (.lst (SqL.of x.h2) (Q8 x.c2)) .nil))
def zo3:Sp:=λa H Q _=>∃(c k:Int),a=[.int c,.int k]/\∀z:Int,Q (.int z) H
def marks:List Nat:=[35,111,99,46]
def zq3:Sp:=λa H Q _=>∃(x o m:Int) (r:Bool),a=[.int x,.int o,.int m,.bl r]/\0<o/\∀k:Nat,k∈marks->(r=false->k≠111/\k≠99)->Q (.str ⟨#[k]⟩) H
def zsa:("o":Str)=⟨#[111]⟩:=by decide+kernel
def zsU:("c":Str)=⟨#[99]⟩:=by decide+kernel
def zsV:(".":Str)=⟨#[46]⟩:=by decide+kernel
def YS:zB ["_law_cell","_law_k","_law_drawn_here"] ["_law_cell","_law_k"] (zp xZ):=bh
def zf1 (D:zm K mg "_law_mixed" xZ ["_law_cell","_law_k"] f fd):zU P w K mg base CX0 1 f fd ["_law_cell","_law_k"] zo3:=by
 refine D.F.ok YS (λe H Q E h=>?_) (λb A a s H e Q E l h=>?_)
 .obtain⟨c,i,rfl,_⟩:=h;rfl
 .obtain⟨c,i,rfl,k⟩:=h;refine⟨_,(ze (qA 2 YS.nd (zC jP (zC yY (zC yY (zC jP (pv 0) zf) (@zC _ _ _ _ _ _ _ _ Ym zf (pv 1))) zf) zf)) (ze (qA 2 YS.nd (zC jP (zC Ym (zC jP (zC Ym (pv 2) (pv 2)) zf) zf) zf)) (zg (zw (zC yg (pv 2) zf))))),?_⟩;(try dsimp only[cxK,cxP,cxW]);refine eU rfl rfl rfl (by show (0:Int)<2147483629;decide) (eU rfl rfl rfl (mulL (by decide) (by decide)) (dP rfl rfl (dP rfl rfl (dX rfl rfl (by show (0:Int)<2147483647;decide) ?_))));have g:=US (c%2147483629+7919*i+11) (show (2147483647:Int)≠0 by decide);have j:=Uk (c%2147483629+7919*i+11) (show (0:Int)<2147483647 by decide);generalize (c%2147483629+7919*i+11)%2147483647=d at *
  refine dH rfl rfl (dX rfl rfl (mulL (by lia) (by lia)) (dX rfl rfl (by show (0:Int)<2147483647;decide) (dX rfl rfl (zrD (by decide) (by decide)) (dX rfl rfl (by show (0:Int)<2147483587;decide) ?_))));exact eU rfl rfl rfl (JM.small (by decide) (by decide)) (k _)
def zhA:zB ["_law_drawn_here","_law_often","_law_many","_law_room"] ["_law_drawn_here","_law_often","_law_many","_law_room"] (zp JY):=bh
def zhB (D:zm K mg "_law_mark" JY ["_law_drawn_here","_law_often","_law_many","_law_room"] f fd):zU P w K mg base CX0 1 f fd ["_law_drawn_here","_law_often","_law_many","_law_room"] zq3:=by
 refine D.F.ok zhA (λj H Q E h=>?_) (λc A a s H j Q E l h=>?_)
 .obtain⟨x,o,m,r,rfl,_⟩:=h;rfl
 .revert h;refine fQ λx o m r=>fB λz0 d q=>?_;subst z0;refine⟨_,(ze (qy (jh ZD (zC jP (zC yg (pv 0) zf) zf) zf (zP _)) (@zg _ _ _ (@zw _ _ _ _ qX)) zY) (ze (qy (PW.pt (zcL (yf (pv 3) (λ_=>rfl)) (zaH (jh ZD (zC jP (zC jP (pv 0) zf) (pv 1)) zf (zP _))))) (@zg _ _ _ (@zw _ _ _ _ qX)) zY) (ze (qy (PW.pt (zcL (yf (pv 3) (λ_=>rfl)) (zaH (jh zgf (zC jP (zC yg (pv 0) zf) zf) (pv 2) (zP _))))) (@zg _ _ _ (@zw _ _ _ _ qX)) zY) (@zg _ _ _ (@zw _ _ _ _ qX))))),?_⟩;(try dsimp only[cxK,cxP,cxW]);have e:Q (.str "#") H:=by
   rw[Zg];exact q 35 (by decide) (λ_=>⟨by decide,by decide⟩)
  have b:Q (.str ".") H:=by
   rw[zsV];exact q 46 (by decide) (λ_=>⟨by decide,by decide⟩)
  refine eU rfl rfl rfl (JM.small (by decide) (by decide)) (dG (dJ rfl rfl (by show (0:Int)<13;decide) rfl (dB rfl (zcm (λ_=>e) (λ_=>?_)))));cases r with
  | false =>
   refine dH rfl rfl (ZG (ZG ?_));exact dH rfl rfl (ZG (ZG b))
  | true =>
   have g:Q (.str "o") H:=by
    rw[zsa];exact q 111 (by decide) (λh=>nomatch h)
   have i:Q (.str "c") H:=by
    rw[zsU];exact q 99 (by decide) (λh=>nomatch h)
   refine dH rfl rfl (zan (eU rfl rfl rfl (by show (0:Int)<64;decide) (dB rfl (dG (dJ rfl rfl d rfl (dB rfl (zcm (λ_=>g) (λ_=>?_))))))));exact dH rfl rfl (zan (eU rfl rfl rfl (JM.small (by decide) (by decide)) (dX rfl rfl (by show (0:Int)<5;decide) (dB rfl (dP rfl rfl (dB rfl (zcm (λ_=>i) (λ_=>b))))))))
def zsW (H:Hp)(v:V)(t:List Nat):Prop:=∃a,v=V.ref a/\H a=some (.lst (t.map λc=>V.str ⟨#[c]⟩))
def J3 (H:Hp):AF->List (List Nat)->Prop:=Xl (zsW H)
theorem J3.mono {H b:Hp}(s:zo H b):∀{vs:AF} {gs:List (List Nat)},J3 H vs gs->J3 b vs gs
 | _,_,.nil=>.nil
 | _,_,.cons ⟨a,e,h⟩ t=>.cons ⟨a,e,s _ _ h⟩ (J3.mono s t)
theorem J3.keep {H c:Hp}{d:Addr}(k:∀b o,b≠d->H b=some o->c b=some o):∀{vs:AF} {gs:List (List Nat)},J3 H vs gs->(∀v∈vs,v≠V.ref d)->J3 c vs gs
 | _,_,.nil,_=>.nil
 | _,_,.cons ⟨a,e,h⟩ t,f=>.cons ⟨a,e,k a _ (λz=>f _ XQ (by rw[e,z])) h⟩ (J3.keep k t λv g=>f v (XT _ g))
def J3.grid {H:Hp}{vs:AF}{gs:List (List Nat)}(h:J3 H vs gs):Je H vs gs:=Paired.imp' (λ_ _ z=>.inr z) h
theorem zjW {H:Hp}:∀{vs:AF} {gs:List (List Nat)} {i:Nat} {t:List Nat},J3 H vs gs->gs[i]?=some t->∃a,vs[i]?=some (V.ref a)/\H a=some (.lst (t.map λc=>V.str ⟨#[c]⟩))
 | _,_,_,_,.nil,e=>by simp at e
 | _,_,0,_,.cons ⟨a,r,h⟩ _,e=>by
  simp at e;subst e;exact⟨a,by rw[r];rfl,h⟩
 | _,_,i+1,t,.cons _ q,e=>by
  obtain⟨c,h1,h2⟩:=zjW (i:=i) (t:=t) q (by simpa using e);exact⟨c,by simpa using h1,h2⟩
def jQ (k:Nat):Bool:=decide (k=111) || decide (k=99)
def zbX (t:List Nat):Nat:=(t.filter jQ).length
def zbo (gs:List (List Nat)):Nat:=(gs.map zbX).sum
def zfd (t:List Nat)(k:Nat):zbX (t++[k])=zbX t+(if jQ k=true then 1 else 0):=by
 unfold zbX;rw[WX,XY,WE];split<;>rfl
def zll (gs:List (List Nat))(t:List Nat):zbo (gs++[t])=zbo gs+zbX t:=by
 unfold zbo;rw[Xz,List.sum_append];simp
structure zcf (gs:List (List Nat)):Prop where
 lo:1<=gs.length
 hi:gs.length<=8
 ex:∃n,1<=n/\n<=8/\∀t∈gs,t.length=n/\∀k∈t,k∈marks
 few:zbo gs<=10
def zjX (K:XX):Sp:=λg H Q _=>∃(a:Addr) (f:List Int),g=[.ref a,.int 36,.int 10]/\SqL K H a (f.map V.int) /\
 ∀(d:Addr) (e:AF) (c:List (List Nat)) (b:Hp),H d=none->b d=some (.lst e)->J3 b e c->zcf c->zo H b->Q (.ref d) b
def mr8 (x:Int):1<=1+x%8/\1+x%8<=8:=by
 have a:=US x (show (8:Int)≠0 by decide);have b:=Uk x (show (0:Int)<8 by decide);lia
def m16 {x:Int}(h1:1<=x)(a:x<=8):(0:Int)<(if 36/x<8 then 36/x else 8):=by
 have h:x=1\/x=2\/x=3\/x=4\/x=5\/x=6\/x=7\/x=8:=by lia
 rcases h with rfl | rfl | rfl | rfl | rfl | rfl | rfl | rfl<;>decide
def wd (c0 c1:Int):Int:=1+c1/8%(if 36/(1+c0%8)<8 then 36/(1+c0%8) else 8)
def zq4 {c0 c1:Int}(_:Int)(h1:1<=1+c0%8)(d:1+c0%8<=8):1<=wd c0 c1/\wd c0 c1<=8:=by
 have m:=m16 h1 d;have a:=US (c1/8) (Int.ne_of_gt m);have b:=Uk (c1/8) m;unfold wd;have c:(if 36/(1+c0%8)<8 then 36/(1+c0%8) else 8)<=8:=by split<;>lia
 lia
def zo4:∀k∈marks,([PyData.str "o",PyData.str "c"].any λz=>Xa z (.str ⟨#[k]⟩))=jQ k:=by decide+kernel
def zns:∀k∈marks,U2 (.str ⟨#[k]⟩)=true:=by decide+kernel
def znt {α:Type}(xs:List α)(v:α):atI (xs++[v]) (-1)=some v:=by
 have a:(xs++[v]).length=xs.length+1:=by simp
 have e:ixN (xs.length+1) (-1)=some xs.length:=by
  unfold ixN;rw[bq (by decide),bw (by lia)];congr 1;lia
 unfold atI;rw[a,e];show (xs++[v])[xs.length]?=some v;simp
def qh:zB ["_law_script","_law_most","_law_limit","_law_high","_law_wide","_law_often","_law_many","_law_marks","_law_shut","_law_row","_law_line","_law_column","_law_place","_law_drawn_here"] ["_law_script","_law_most","_law_limit"] (zp Zm):=bh
def zf2 {f1 f2 f3:Addr}{ac ai aj:XD}(T:Txt mg)(D:zm K mg "_law_drawn" Zm ["_law_script","_law_most","_law_limit"] f fd)(qo:zm K mg "_law_cell_at" yj ["_law_script","_law_k"] f1 ac)(Zu:zm K mg "_law_mixed" xZ ["_law_cell","_law_k"] f2 ai)(YT:zm K mg "_law_mark" JY ["_law_drawn_here","_law_often","_law_many","_law_room"] f3 aj):zU P w K mg base CX0 2 f fd ["_law_script","_law_most","_law_limit"] (zjX K):=by
 have jf:zU P w K mg base CX0 1 f1 ac ["_law_script","_law_k"] (ziq K):=Qo T qo;refine D.F.ok qh (λvs H Q E h=>?_) (λan A al s H vs Q E L h=>?_)
 .obtain⟨a,ns,rfl,_⟩:=h;rfl
 .revert h;refine fH λa ns z0 hS q=>?_;subst z0;refine⟨_,(@ze _ _ _ _ _ (@qu _ _ 3 _ _ _ _ qh.nd rfl (VL rfl) (@zC _ _ _ _ _ _ _ _ yY zf (zC jP (pc0 jf L qo (za (pv 0) (@za _ _ _ _ _ zf zd rfl))) (yM (ZE rfl) (by rfl) T.zeQ Vr (@za _ _ _ _ _ zf (za (pv 1) zd) rfl)))) (by rfl) (.inr rfl)) (@ze _ _ _ _ _ (@qu _ _ 4 _ _ _ _ qh.nd rfl (VL rfl) (@zC _ _ _ _ _ _ _ _ yY zf (zC jP (zC yg (pc0 jf L qo (za (pv 0) (@za _ _ _ _ _ zf zd rfl))) zf) (yM (ZE rfl) (by rfl) T.zeQ Vr (@za _ _ _ _ _ zf (za (zC yg (pv 1) (pv 3)) zd) rfl)))) (by rfl) (.inr rfl)) (@ze _ _ _ _ _ (@qu _ _ 5 _ _ _ _ qh.nd rfl (VL rfl) (@zC _ _ _ _ _ _ _ _ yY zf (zC jP (pc0 jf L qo (za (pv 0) (@za _ _ _ _ _ zf zd rfl))) zf)) (by rfl) (.inr rfl)) (ze (qA 6 qh.nd (zC jP (zC yg (pc0 jf L qo (za (pv 0) (@za _ _ _ _ _ zf zd rfl))) zf) zf)) (@ze _ _ _ _ _ (@qu _ _ 7 _ _ _ _ qh.nd rfl (VL rfl) (@zW _ _ _ _ zd) (by rfl) (.inr rfl)) (@ze _ _ _ _ _ (@qu _ _ 8 _ _ _ _ qh.nd rfl (VL rfl) zf (by rfl) (.inr rfl)) (ze (qt Xe rfl (prg T.yT (pv 3)) (pgq 9 qh.nd) (@ze _ _ _ _ _ (@qu _ _ 10 _ _ _ _ qh.nd rfl (VL rfl) (@zW _ _ _ _ zd) (by rfl) (.inr rfl)) (ze (qt Xe rfl (prg T.yT (pv 4)) (pgq 11 qh.nd) (@ze _ _ _ _ _ (@qu _ _ 12 _ _ _ _ qh.nd rfl (VL rfl) (@zC _ _ _ _ _ _ _ _ yY (@zC _ _ _ _ _ _ _ _ Ym zf (pv 9)) (pv 11)) (by rfl) (.inr rfl)) (ze (qA 13 qh.nd (pc0 (zf1 Zu) L Zu (za (pc0 jf L qo (za (pv 0) (@za _ _ _ _ _ (@zC _ _ _ _ _ _ _ _ yY zf (zC jP (pv 12) zf)) zd rfl))) (za (pv 12) zd)))) (ze (jR (Ze WO Wu Wt JC (pv 10) (za (pc0 (zhB YT) L YT (za (pv 13) (za (pv 5) (za (pv 6) (za (jx zgf (pv 8) (pv 2) (zP _)) zd))))) zd))) (zg (qA 8 qh.nd (zC yY (pv 8) (pt1 zkc T.zjA T7 (jx (zky L.units) (zF ji (pv 10) (zlC zhN zf) (λ_ _=>rfl)) (@qj _ _ _ _ _ (@za _ _ _ _ _ qX (@za _ _ _ _ _ qX zd rfl) rfl)) (by rfl)))))))))) (zg (jR (Ze WO Wu Wt JC (pv 7) (za (pv 10) zd))))))) (zg (zw (pv 7)))))))))),?_⟩;(try dsimp only[cxK,cxP,cxW]);refine dB rfl (dF a ns (eH rfl hS (by decide) (λc0=>(dB rfl (dF 8 36 ⟨rfl,(dX rfl rfl (by show (0:Int)<8;decide) (dP rfl rfl ?_))⟩)))));obtain⟨h1,h8⟩:=mr8 c0;refine dB rfl (dF a ns (eH rfl hS (by decide) (λc1=>(dX rfl rfl (JM.small (by decide) (by decide)) (dH rfl rfl (dX rfl rfl (JM.small (by show (0:Int)<1+c0%8;lia) (by show 1+c0%8<_;exact Int.lt_of_le_of_lt h8 (by decide))) ⟨8,(eU rfl rfl rfl ?_ (dP rfl rfl ?_))⟩))))))
  .show (0:Int)<(if 36/(1+c0%8)<8 then 36/(1+c0%8) else 8);exact m16 h1 h8
  obtain⟨w1,w8⟩:=zq4 (c0:=c0) (c1:=c1) 0 h1 h8;refine dB rfl (dF a ns (eH rfl hS (by decide) (λc2=>(dX rfl rfl (by show (0:Int)<5;decide) (dP rfl rfl ?_)))));have o0:=US c2 (show (5:Int)≠0 by decide);refine dB rfl (dF a ns (eH rfl hS (by decide) (λc3=>(dX rfl rfl (JM.small (by decide) (by decide)) (dX rfl rfl (by show (0:Int)<5;decide) ?_)))));refine⟨yR,λd hd=>?_⟩;have s0:=zc (o:=.lst []) hd;refine dB rfl (e8 (1+c0%8) rfl (by lia) (by lia) ?_);refine jj (lo:=0) (n:=(1+c0%8).toNat) (λi σ H'=>∃(v9 ab l m p:Option V) (M:AF) (g:List (List Nat)),σ=[some (.ref a),some (.int 36),some (.int 10),some (.int (1+c0%8)),some (.int (wd c0 c1)),some (.int (2+c2%5)),some (.int (c3/5%5)),some (.ref d),some (.int ((zbo g:Nat):Int)),v9,ab,l,m,p]/\zo H H'/\H' d=some (.lst M)/\J3 H' M g/\(∀v∈M,v≠V.ref d)/\g.length=i/\(∀t∈g,t.length=(wd c0 c1).toNat/\∀k∈t,k∈marks)/\zbo g<=10) (eO ⟨_,(dU [] [] rfl s0 zb (.nil) (dZ (λ_ h=>nomatch h) rfl (λ_ h=>nomatch h) (by decide)))⟩) ?_ ?_
  .refine λi σ H1 hi=>gb λv9 ab l m p M g z0 s1 G hM=>fE λO gl N B=>?_;subst z0;refine⟨yR,λy I=>?_⟩;have z2:=zc (o:=.lst []) I;refine dB rfl (e8 (wd c0 c1) rfl (by lia) (by lia) ?_);refine jj (lo:=0) (n:=(wd c0 c1).toNat) (λj σ H'=>∃(l m p:Option V) (t:List Nat),σ=[some (.ref a),some (.int 36),some (.int 10),some (.int (1+c0%8)),some (.int (wd c0 c1)),some (.int (2+c2%5)),some (.int (c3/5%5)),some (.ref d),some (.int (((zbo g+zbX t):Nat):Int)),some (.int (0+(i:Int))),some (.ref y),l,m,p]/\zo H1 H'/\H' y=some (.lst (t.map λc=>V.str ⟨#[c]⟩))/\t.length=j/\(∀k∈t,k∈marks)/\zbo g+zbX t<=10) (dG (d9 [] rfl z2 zb rfl ⟨(λ_ h=>nomatch h),B⟩)) ?_ ?_
   .refine λj σ H2 hj=>fW λl m p t z0 s2 r tl aa ae=>?_;subst z0;have am:=s1.trans s2;refine eU rfl rfl rfl (mulL (by decide) (by decide)) (dB rfl (dP rfl rfl ?_));have p0:=US (8*(0+(i:Int))+(0+(j:Int))) (show (58:Int)≠0 by decide);refine dH rfl rfl (dX rfl rfl (by show (0:Int)<58;decide) (dP rfl rfl (dF a ns (eH rfl (am.seq hS) (by show (0:Int)<=4+(8*(0+(i:Int))+(0+(j:Int)))%58;lia) (λcc=>(dB rfl (fh rfl (λdr=>?_))))))));refine dN rfl (.inl ⟨rfl,_,SqL.of r⟩) (dH rfl rfl (dH rfl rfl (dB rfl (dP rfl rfl (dG (dP rfl (by show (0:Int)<2+c2%5;lia) (λk hk U=>?_)))))));refine dM y (dJ rfl rfl r ?_ ?_)
    .rw[ZB];exact XM (show _<=8 by lia) (by decide)
    have t1:(t++[k]).map (λc=>V.str ⟨#[c]⟩)=t.map (λc=>V.str ⟨#[c]⟩)++[V.str ⟨#[k]⟩]:=by rw[Xz];rfl
    have J:upd H2 y (.lst (t.map (λc=>V.str ⟨#[c]⟩)++[V.str ⟨#[k]⟩])) y=some (.lst (t.map (λc=>V.str ⟨#[c]⟩)++[V.str ⟨#[k]⟩])):=zb;have s3:zo H1 (upd H2 y (.lst (t.map (λc=>V.str ⟨#[c]⟩)++[V.str ⟨#[k]⟩]))):=λb o e=>by
     rw[zj (zh e I)];exact s2 _ _ e
    generalize upd H2 y (.lst (t.map (λc=>V.str ⟨#[c]⟩)++[V.str ⟨#[k]⟩]))=H3 at *
    refine dH rfl rfl (dB rfl (dM y (dO (V.str ⟨#[k]⟩) rfl rfl (SqL.of J) (znt _ _) ⟨yi,λtp ak=>?_⟩)));have z4:=zc (o:=.tup [V.str "o",V.str "c"]) ak;refine eK (.str ⟨#[k]⟩) [.str "o",.str "c"] (.str _) (.tup (SqT.of zb) (.cons (.str _) (.cons (.str _) .nil))) (zns k hk) (by decide+kernel) (by show 0<=60;decide) ?_;rw[zo4 k hk];refine .inr (dB rfl (dP rfl rfl ?_));have ec:((zbo g+zbX t:Nat):Int)+(if jQ k=true then 1 else 0)=((zbo g+zbX (t++[k]):Nat):Int):=by
     rw[zfd];split<;>lia
    refine dR (some (.int (0+(j:Int)))) (some (.int (8*(0+(i:Int))+(0+(j:Int))))) (some (.int dr)) (t++[k]) (dQ ?_ (s3.trans z4) ?_ (by rw[XY,tl];rfl) (λx hx=>?_) ?_)
    .show [_,_,_,_,_,_,_,_,some (V.int (((zbo g+zbX t:Nat):Int)+(if jQ k=true then 1 else 0))),_,_,_,_,_]=_;rw[ec]
    .rw[t1];exact z4 _ _ J
    .rcases XO.mp hx with h | h
     .exact aa x h
     .have:x=k:=by simpa using h
      rw[this];exact hk
    .rw[zfd];split
     .rename_i Y;have ao:((zbo g+zbX t:Nat):Int)<10:=by
       refine TF λhc=>?_;have hf:=U (bf hc);unfold jQ at Y;rw[bf hf.1,bf hf.2]at Y;cases Y
      lia
     .lia
   .refine λσ H2=>fW λl m p t z0 s2 r tl aa ae=>?_;subst z0;have af:=s2 _ _ G;have ah:y≠d:=λz=>by
     rw[z,G]at I;cases I
    have ul:M.length=g.length:=Paired.length hM;refine dN rfl (.inl ⟨rfl,_,SqL.of af⟩) (dB rfl (dM d (dJ rfl rfl af ?_ ?_)))
    .exact XM (show _<=8 by lia) (by decide)
    have ag:=zll g t;refine dR (some (.int (0+(i:Int)))) (some (.ref y)) l m (dW p (M++[.ref y]) (g++[t]) ?_ (λb o e=>?_) zb ?_ (dZ (λv hv=>?_) (by rw[XY,gl];rfl) (λu hu=>?_) (by rw[ag];exact ae)))
    .rw[ag]
    .rw[zj (zh e hd)];exact s2 _ _ (s1 _ _ e)
    .refine Paired.snoc (J3.keep (d:=d) (λb o nb e=>by rw[zj nb];exact s2 _ _ e) hM O) ⟨y,rfl,?_⟩;rw[zj ah];exact r
    .rcases XO.mp hv with h | h
     .exact O v h
     .have:v=V.ref y:=by simpa using h
      rw[this];exact λz=>ah (V.ref.inj z)
    .rcases XO.mp hu with h | h
     .exact N u h
     .have:u=t:=by simpa using h
      rw[this];exact⟨tl,aa⟩
  .refine λσ H1=>gb λv9 ab l m p M g z0 s1 G hM=>fE λO gl N B=>?_;subst z0;exact⟨_,rfl,q d M g H1 hd G hM ⟨by lia,by lia,⟨(wd c0 c1).toNat,by lia,by lia,N⟩,B⟩ s1⟩
def zcf.t8 {gs:List (List Nat)}(M:zcf gs):∀t∈gs,t.length<=8:=λt b=>by
 obtain⟨n,_,a,h⟩:=M.ex;rw[(h t b).1];exact a
def dlt (c x:AA):AA:=(x.1+1-c.1,x.2+1-c.2)
def zjY:AD:=[(0,0),(0,1),(0,2),(1,0),(1,2),(2,0),(2,1),(2,2)]
def znu {a b:Nat}(d:a<3)(e:b<3)(h:¬ (a=1/\b=1)):(a,b)∈zjY:=by
 have c:∀a b:Fin 3,¬ (a=1/\b=1)->(a.1,b.1)∈zjY:=by decide
 exact c ⟨a,d⟩ ⟨b,e⟩ λz=>h ⟨congrArg Fin.val z.1,congrArg Fin.val z.2⟩
def zdN {p:Nat->Bool}(gs:List (List Nat))(c:AA):((Cells.zE p 0 gs).filter λx=>Cells.near x c).length<=8:=by
 have n:=(qg (Cells.JF p 0 gs)).sublist (W5 (p:=λx=>Cells.near x c));have d:∀x∈(Cells.zE p 0 gs).filter (λx=>Cells.near x c),(x.1<=c.1+1/\c.1<=x.1+1)/\(x.2<=c.2+1/\c.2<=x.2+1)/\¬ x=c:=λx f=>(Cells.yS x c).mp (XW.mp f).2;generalize (Cells.zE p 0 gs).filter (λx=>Cells.near x c)=L at *
 have o:(L.map (dlt c)).Nodup:=by
  refine Wh.mpr (n.imp_of_mem λ{a b} g i j e=>j ?_);obtain⟨q,r,_⟩:=d a g;obtain⟨s,u,_⟩:=d b i;have v:a.1+1-c.1=b.1+1-c.1:=congrArg Prod.fst e;have w:a.2+1-c.2=b.2+1-c.2:=congrArg Prod.snd e;exact N2 (by lia) (by lia)
 have m:∀y∈L.map (dlt c),y∈zjY:=λy l=>by
  obtain⟨x,f,rfl⟩:=XI.mp l;obtain⟨a,b,h⟩:=d x f;exact znu (by lia) (by lia) λz=>h (N2 (by lia) (by lia))
 have:=((Wl o ((by decide:zjY.Nodup).sublist (W5 (p:=λy=>decide (y∈L.map (dlt c)))))).mpr λy=>by
  rw[XW,bu];exact⟨λz=>⟨m y z,z⟩,λz=>z.2⟩).length_eq
 rw[ZB]at this;rw[this];exact W6 _ _
def zsb:∀d:Nat,d<9->((toString (d:Int):String):Str)=⟨#[48+d]⟩/\48+d∈bd.cps.toList/\x8 (48+d)=false:=by decide+kernel
def stM (gs:List (List Nat)):AD:=Cells.zE (pZ [111]) 0 gs
def nrM (gs:List (List Nat))(i j:Nat):AD:=(stM gs).filter λx=>Cells.near x (i,j)
def zcr (gs:List (List Nat))(i j k:Nat):Nat:=if k=46 then 48+(nrM gs i j).length else if jQ k=true then 63 else k
def zlm (gs:List (List Nat))(i:Nat)(t:List Nat):List Nat:=t.mapIdx (zcr gs i)
def zhC (gs:List (List Nat)):List (List Nat):=gs.mapIdx (zlm gs)
def zcg {α a:Type}(f:Nat->α->a){t:List α}{j:Nat}{k:α}(h:t[j]?=some k):(t.take (j+1)).mapIdx f=(t.take j).mapIdx f++[f j k]:=by
 obtain⟨b,e⟩:=X4.mp h;rw[Xx,h,List.mapIdx_append];simp only[Option.toList_some,Ra,List.mapIdx_nil,XN];rw[VR,Nat.min_eq_left (by lia)]
theorem zbp {p q:Nat->Bool}{f:Nat->Nat->Nat}(i:Nat)(b:∀m c,p (f m c)=q c):∀(j m:Nat) (t:List Nat),Cells.zK p i j (t.mapIdx λa=>f (a+m))=Cells.zK q i j t
 | _,_,[]=>rfl
 | j,m,c::r=>by
  rw[Ra,Cells.zK,Cells.zK,b];have:=zbp i b (j+1) (m+1) r;have e:(λa=>f (a+(m+1)))=λa=>f (a+1+m):=by
   funext a;congr 1;lia
  rw[e]at this;rw[this]
theorem zbq {p q:Nat->Bool}{f:Nat->List Nat->List Nat}(b:∀m i t,Cells.zK p i 0 (f m t)=Cells.zK q i 0 t):∀(i m:Nat) (gs:List (List Nat)),Cells.zE p i (gs.mapIdx λa=>f (a+m))=Cells.zE q i gs
 | _,_,[]=>rfl
 | i,m,t::r=>by
  rw[Ra,Cells.zE,Cells.zE,b];have:=zbq b (i+1) (m+1) r;have e:(λa=>f (a+(m+1)))=λa=>f (a+1+m):=by
   funext a;congr 1;lia
  rw[e]at this;rw[this]
def zln (gs:List (List Nat))(i j k:Nat):x8 (zcr gs i j k)=(jQ k || decide (k=63)):=by
 unfold zcr;have a:(nrM gs i j).length<=8:=zdN gs (i,j);by_cases h1:k=46
 .rw[bw h1,h1];show decide (48+(nrM gs i j).length=63)=false;exact bf (by lia)
 .rw[bq h1];by_cases h2:jQ k=true
  .rw[bw h2,h2];rfl
  .rw[bq h2,Xs.mpr h2];rfl
def znv {gs:List (List Nat)}:Cells.zE x8 0 (zhC gs)=Cells.zE (λk=>jQ k || decide (k=63)) 0 gs:=by
 have h:=zbq (p:=x8) (q:=λk=>jQ k || decide (k=63)) (f:=zlm gs) (λm i t=>zbp (f:=zcr gs m) i (λa c=>zln gs m a c) 0 0 t) 0 0 gs;exact h
theorem zfe (i:Nat):∀(j:Nat) (t:List Nat),(∀k∈t,k∈marks)->(Cells.zK (λk=>jQ k || decide (k=63)) i j t).length=zbX t
 | _,[],_=>rfl
 | j,c::r,h=>by
  have b:=zfe i (j+1) r λk hk=>h k (XT _ hk);have d:∀k∈marks,(jQ k || decide (k=63))=jQ k:=by decide
  have e:=d c (h c XQ);unfold zbX at b ⊢;rw[Cells.zK,WE];by_cases a:jQ c=true
  .rw[bw a,bw (e.trans a),XY,Xo,Xo,Vu,b];lia
  .rw[bq a,bq (by rw[e];exact a),PD,b]
theorem zff:∀(i:Nat) (gs:List (List Nat)),(∀t∈gs,∀k∈t,k∈marks)->(Cells.zE (λk=>jQ k || decide (k=63)) i gs).length=zbo gs
 | _,[],_=>rfl
 | i,t::r,h=>by
  have a:=zff (i+1) r λu b=>h u (XT _ b);have e:=zfe i 0 t (h t XQ);unfold zbo at a ⊢;rw[Cells.zE,XY,Xw,Ow,a,e]
def zcf.few9 {gs:List (List Nat)}{rs:AE}(M:zcf gs)(h:codes rs=zhC gs):(zI rs).length<=10:=by
 unfold zI;obtain⟨n,_,_,a⟩:=M.ex;rw[h,znv,zff 0 gs λt b=>(a t b).2];exact M.few
def zcf.rows {gs:List (List Nat)}{rs:AE}(M:zcf gs)(h:codes rs=zhC gs):Rows bd.cps.toList rs:=by
 have g:rs.length=gs.length:=by
  have e:(codes rs).length=(zhC gs).length:=by rw[h]
  rw[qK]at e;unfold zhC at e;rw[SZ]at e;exact e
 obtain⟨n,u,v,q⟩:=M.ex;refine⟨by rw[g];exact M.lo,by rw[g];exact M.hi,n,u,v,λt r=>?_⟩;have l:t.cps.toList∈zhC gs:=by
  rw[<- h];exact List.mem_map_of_mem r
 unfold zhC at l;obtain⟨i,o,e⟩:=List.mem_mapIdx.mp l;have f:=q gs[i] (Uv o);refine⟨?_,λk hk=>?_⟩
 .have c:t.cps.toList.length=n:=by
   rw[<- e];unfold zlm;rw[SZ,f.1]
  rw[X5]at c;exact c
 .rw[<- e]at hk;unfold zlm at hk;obtain⟨j,p,m⟩:=List.mem_mapIdx.mp hk;have s:=f.2 _ (Uv p);have w:(nrM gs i j).length<=8:=zdN gs (i,j);rw[<- m];unfold zcr;split
  .have:∀d:Nat,d<9->48+d∈bd.cps.toList:=by decide+kernel
   exact this _ (by lia)
  .split
   .decide+kernel
   .rename_i a b;have:∀k∈marks,k≠46->jQ k≠true->k∈bd.cps.toList:=by decide+kernel
    exact this _ s a b
def zhD:Sp:=λf H Q _=>∃(d:Addr) (e:AF) (a:List (List Nat)),f=[.ref d]/\H d=some (.lst e)/\J3 H e a/\zcf a /\
 ∀(p l:Addr) (c:AE) (b:Hp),H p=none->H l=none->qf b p l c ((stM a).length:Nat)->codes c=zhC a->zo H b->Q (.ref p) b
def zq5:∀k∈marks,k≠46->(qO (Yq [] [(.inr "o",V.str "?"),(.inr "c",V.str "?")]) (.inr ⟨#[k]⟩)).getD (V.str ⟨#[k]⟩)=V.str ⟨#[if jQ k=true then 63 else k]⟩:=by
 intro k hk h;have a:k=35\/k=111\/k=99\/k=46:=by simpa[marks] using hk
 rcases a with rfl | rfl | rfl | rfl
 .rfl
 .rfl
 .rfl
 .exact absurd rfl h
def zq6:∀d:Nat,d<9->(qO (Yq [] [(.inr "o",V.str "?"),(.inr "c",V.str "?")]) (.inr ⟨#[48+d]⟩)).getD (V.str ⟨#[48+d]⟩)=V.str ⟨#[48+d]⟩:=by
 intro d b;have a:d=0\/d=1\/d=2\/d=3\/d=4\/d=5\/d=6\/d=7\/d=8:=by lia
 rcases a with rfl | rfl | rfl | rfl | rfl | rfl | rfl | rfl | rfl<;>rfl
def qG:zB ["_law_marks","_law_stones","_law_rows","_law_row","_law_text","_law_column","_law_sign"] ["_law_marks"] (zp Zn):=bh
def zf3 {f1 f2:Addr}{aw ax:XD}(T:Txt mg)(D:zm K mg "_law_board" Zn ["_law_marks"] f fd)(xw:zm K mg "_law_near" JZ ["_law_one","_law_other"] f1 aw)(qz:zm K mg "_law_cells" yF ["_law_rows","_law_signs"] f2 ax):zU P w K mg base CX0 2 f fd ["_law_marks"] zhD:=by
 refine D.F.ok qG (λvs H Q E h=>?_) (λaD A a7 s H vs Q E hr h=>?_)
 .revert h;refine fX λd us g z0 _=>?_;subst z0;rfl
 .revert h;refine fC λd us g z0 hd hM M q=>?_;subst z0;refine⟨_,(ze (qA 1 qG.nd (pc0 (YR T qz) hr qz (za (pv 0) (@za _ _ _ _ _ (@zW _ _ _ _ (@za _ _ _ _ _ qX zd rfl)) zd rfl)))) (@ze _ _ _ _ _ (@qu _ _ 2 _ _ _ _ qG.nd rfl (VL rfl) (@zW _ _ _ _ zd) (by rfl) (.inr rfl)) (ze (qt Xe rfl (prg T.yT (pb1 qe T.qC Xg (pv 0))) (pgq 3 qG.nd) (@ze _ _ _ _ _ (@qu _ _ 4 _ _ _ _ qG.nd rfl (VL rfl) qX (by rfl) (.inr rfl)) (ze (qt Xe rfl (prg T.yT (pb1 qe T.qC Xg (zF ji (pv 0) (pv 3) (λ_ _=>rfl)))) (pgq 5 qG.nd) (ze (qA 6 qG.nd (zF ji (zF ji (pv 0) (pv 3) (λ_ _=>rfl)) (pv 5) (λ_ _=>rfl))) (zjc (qy (jh ZD (pv 6) qX (zP _)) (zg (qA 6 qG.nd (pt1 zaJ T.zmF Sy (pb1 qe T.qC Xg (pcm ["_law_one","_law_row","_law_column"] [none,some 3,some 5] cR (zG (pv 1)) (pgN 0) (qk (ZH (K:=K) (by rfl) (pc0 (zce T xw) hr xw (za (pv 0) (za (qj (za (pv 1) (za (pv 2) zd))) zd))) (λ_=>rfl))) (pv 0)))))) zY) (zg (qA 4 qG.nd (zC zam (pv 4) (zgy (u1 hr.units) (zoc (zgx qX qX (zgx qX qX zob)) rfl rfl (by simp) (by decide)) (pv 6) (pv 6) ⟨rfl,rfl,rfl,rfl⟩))))))) (zg (jR (Ze WO Wu Wt JC (pv 2) (za (pv 4) zd))))))) (zg (zw (qj (za (pv 2) (za (pb1 qe T.qC Xg (pv 1)) zd)))))))),?_⟩;(try dsimp only[cxK,cxP,cxW]);have ul:us.length=g.length:=Paired.length hM;have g8:=M.hi;refine dN rfl sz_1 (λsg a3=>?_);have z1:=zc (o:=.lst [V.str "o"]) a3;refine dR d sg us g (dO [111] rfl (z1 _ _ hd) (hM.mono z1).grid M.hi (dD M.t8 (by rw[zb,zsa];rfl) (λsa sv H2 aE ah az s2=>?_)));have a1:Cel H2 sv (stM g):=az;have ar:=z1.trans s2;refine⟨yR,λl hl=>?_⟩;have z3:=zc (o:=.lst []) hl;have au:=ar.trans z3;have al:upd H2 l (.lst []) l=some (.lst []):=zb;have ac:=z3 _ _ ah;have aa:=a1.mono z3;have G:=ar.free hl;generalize upd H2 l (.lst [])=H3 at *
  refine eN rfl d (dD rfl (.inl (SqL.of (au _ _ hd))) (eH rfl (by lia) (by lia) ?_));rw[V1,ul];refine jj (lo:=0) (n:=g.length) (λi L H'=>∃(v3 v4 O J:Option V) (rs:AE),L=[some (.ref d),some (.ref sa),some (.ref l),v3,v4,O,J]/\zo H H'/\znr H3 H' l/\H' l=some (.lst (rs.map V.str))/\codes rs=(g.take i).mapIdx (zlm g)) (eO (dO [] rfl au (λ_ _ _ e=>e) al rfl)) ?_ ?_
  .refine λi L H4 hi=>fY λv3 v4 O J rs z0 s4 I af er=>?_;subst z0;obtain⟨t,ht⟩:∃t,g[i]?=some t:=⟨_,XZ hi⟩;have tl:=M.t8 t (X8 ht);refine fq (λra a2 ab=>?_) (zjW (hM.mono s4) ht);have ai:atI us (0+(i:Int))=some (V.ref ra):=by
    rw[VQ];exact j3 a2
   have ag:sa≠l:=zh ah hl;have B:=I _ _ ag ac;have aj:Cel H4 sv (stM g):=Cel.one I al aa;have zl:(t.map λc=>V.str ⟨#[c]⟩).length=t.length:=ZB _;refine dH rfl rfl (dM d (eB rfl rfl (SqL.of (s4 _ _ hd)) ai (eE ra (dD rfl (.inl (SqL.of ab)) (eH rfl (by rw[zl];lia) (by rw[zl];lia) ?_)))));rw[V1,zl];refine jj (lo:=0) (n:=t.length) (λj L H'=>∃(O J:Option V) (r:Str),L=[some (.ref d),some (.ref sa),some (.ref l),some (.int (0+(i:Int))),some (.str r),O,J]/\zo H4 H'/\r.cps.toList=(t.take j).mapIdx (zcr g i)) (dG (dN rfl (zo.refl _) rfl)) ?_ ?_
   .refine λj L H5 hj=>fM λO J r z0 N et=>?_;subst z0;obtain⟨k,hk⟩:∃k,t[j]?=some k:=⟨_,XZ hj⟩;refine fy (λn n1 n8 hn=>?_) M.ex;have km:=(hn t (X8 ht)).2 k (X8 hk);have a9:r.length=j:=by
     rw[<- show r.cps.toList.length=r.length from X5,et,SZ,XN];lia
    have a8:=s4.trans N;refine dH rfl rfl (dM d (eB rfl rfl (SqL.of (a8 _ _ hd)) ai (dB rfl (dM ra (dO (V.str ⟨#[k]⟩) rfl rfl (SqL.of (N _ _ ab)) (by rw[VQ];exact j3 (by rw[Xq,hk];rfl)) ?_)))));have ay:∀(c:Nat) (U:Hp) (J:V),zo H5 U->c=zcr g i j k->∃(O aA:Option V) (av:Str),[some (V.ref d),some (V.ref sa),some (V.ref l),some (V.int (0+(i:Int))),some (V.str (r++⟨#[c]⟩)),some (V.int (0+(j:Int))),some J]=[some (V.ref d),some (V.ref sa),some (V.ref l),some (V.int (0+(i:Int))),some (V.str av),O,aA]/\zo H4 U/\av.cps.toList=(t.take (j+1)).mapIdx (zcr g i):=λc U J s6 ec=>by
     refine dG (dN rfl (N.trans s6) ?_);rw[zcg _ hk,<- et,<- ec];show (r.cps++#[c]).toList=_;rw[WM]
    refine⟨fun aC H'=>∃c:Nat,aC=[some (.ref d),some (.ref sa),some (.ref l),some (.int (0+(i:Int))),some (.str r),some (.int (0+(j:Int))),some (.str ⟨#[c]⟩)]/\zo H5 H'/\(qO (Yq [] [(.inr "o",V.str "?"),(.inr "c",V.str "?")]) (.inr ⟨#[c]⟩)).getD (V.str ⟨#[c]⟩)=V.str ⟨#[zcr g i j k]⟩,?_,?_⟩
    .by_cases u:k=46
     .have ae:=N _ _ B;have v:=aj.mono N;have aF:(nrM g i j).length<=8:=zdN g (i,j);refine dN rfl rfl (dB rfl (jb (by rw[u];decide+kernel) ?_));refine dB rfl (dI sa rfl ⟨_,SqL.of ae⟩ (λz hz=>?_));refine qc (K:=K) (a:=sa) (xs:=sv) (λa=>a≠z) ((stM g).map λx=>if Cells.near x (i,j)=true then some (zk x) else none) (fun L=>∃u0,L=[u0,some (.int (0+(i:Int))),some (.int (0+(j:Int)))]) hz (λ_ h=>h) ⟨_,rfl⟩ (by rw[ZB];exact v.length.symm) (by rw[v.length];exact X6 (show (stM g).length<=64 from X6 (Cells.qE (pZ [111]) 0 g M.t8) (by lia)) (by decide)) (SqL.of ae) ?_ ?_
      .rintro m x o L U hx ho s6 _ ⟨u0,rfl⟩ Y Z aB no;refine fK (λy hy ya z0 aq=>?_) (Cel.get (Cel.mono s6 v) hx);subst z0;have eo:=jd hy ho;refine dH rfl rfl (dN rfl yi (λtq a4=>?_));have z7:=zc (o:=.tup [V.int (0+(i:Int)),V.int (0+(j:Int))]) a4;refine dR ya tq y (i,j) (dZ rfl (z7 _ _ aq) (by rw[zb,VQ,VQ]) (dB rfl ?_));by_cases hp:Cells.near y (i,j)=true
       .rw[bw hp]at eo;exact jb hp ⟨_,rfl,aB _ _ _ _ eo ⟨_,rfl⟩ z7 (yk.rdn ⟨ya,rfl,z7 _ _ aq⟩)⟩
       .rw[bq hp]at eo;exact qW (Xs.mpr hp) (no _ _ eo ⟨_,rfl⟩ z7)
      .rintro ys U s6 a6 ao;rw[zZ]at ao;have yl:ys.length=(nrM g i j).length:=(zx.cel ao).length;have y9:ys.length<9:=by lia
       refine fB (λd1 d2 d3=>?_) (zsb ys.length y9);have an:((ys.length:Nat):Int).natAbs.log2<1920:=by
        rw[S5];have:∀d:Nat,d<9->d.log2<1920:=by decide+kernel
        exact this _ y9
       refine eE z (dD rfl (.inl (SqL.of a6)) (dN rfl an (dI (48+ys.length) ?_ s6 ?_)))
       .rw[<- d1];rfl
       .rw[zq6 _ y9,yl];unfold zcr;rw[bw u]
     .refine dN rfl rfl (dB rfl (qW ?_ ⟨k,rfl,zo.refl _,?_⟩))
      .have:∀k∈marks,k≠46->decide (V.str ⟨#[k]⟩=V.str ".")=false:=by decide+kernel
       exact this k km u
      .rw[zq5 k km u];unfold zcr;rw[bq u]
    .refine λ_ U=>fy λc z0 s6 hg=>?_;subst z0;refine dB rfl (λdp ak=>?_);have z7:=zc (o:=.dK []) ak;have a5:zo U (upd (upd U dp (.dK [])) dp (.dK (Yq [] [(.inr "o",V.str "?"),(.inr "c",V.str "?")]))):=λb o e=>by
      rw[zj (zh e ak)];exact z7 _ _ e
     refine⟨zb,(dI [(.inr "o",V.str "?"),(.inr "c",V.str "?")] rfl (by decide) (dI dp rfl (.inl ⟨_,.inl zb⟩) (dH rfl rfl (dB (zap.k (k:=.inr ⟨#[c]⟩) zb) (dY r ⟨#[zcr g i j k]⟩ rfl hg ?_ (ay _ _ _ (s6.trans a5) rfl))))))⟩;rw[a9];exact X6 (show j+1<=20 by lia) (by decide)
   .refine λL H5=>fM λO J r z0 N et=>?_;subst z0;rw[XJ]at et;have am:=N _ _ af;have rl:rs.length<=8:=by
     have:(codes rs).length=((g.take i).mapIdx (zlm g)).length:=by rw[er]
     rw[qK,SZ,XN]at this;lia
    refine dN rfl (.inl ⟨rfl,_,SqL.of am⟩) (dB rfl (dM l (dJ rfl rfl am ?_ ?_)))
    .rw[ZB];exact XM rl (by decide)
    refine eO (dO (rs++[r]) rfl (λb o e=>?_) (λb o nb e=>?_) ?_ ?_)
    .rw[zj (zh e G)];exact N _ _ (s4 _ _ e)
    .rw[zj nb];exact N _ _ (I _ _ nb e)
    .rw[zb,Xz];rfl
    .rw[zcg _ ht,<- er];unfold codes;rw[Xz];show _++[r.cps.toList]=_;rw[et];rfl
  .refine λL H4=>fY λv3 v4 O J rs z0 s4 I af er=>?_;subst z0;rw[XJ]at er;have ag:sa≠l:=zh ah hl;have B:=I _ _ ag ac;refine dH rfl rfl (e9 sa rfl (.inl (SqL.of B)) yi (λp hp=>?_));have z5:=zc (o:=.tup [V.ref l,V.int ((sv.length:Nat):Int)]) hp;refine q p l rs _ (s4.free hp) G ⟨?_,z5 _ _ af⟩ er (s4.trans z5);rw[zb,aa.length]
def zjZ:("012345678":Str).cps.toList=[48,49,50,51,52,53,54,55,56]:=by decide+kernel
def zj0:∀k∈bd.cps.toList,pZ [48,49,50,51,52,53,54,55,56] k=YY k:=by decide+kernel
theorem zhE {p q:Nat->Bool}(i:Nat):∀(j:Nat) (t:List Nat),(∀k∈t,p k=q k)->Cells.zK p i j t=Cells.zK q i j t
 | _,[],_=>rfl
 | j,c::r,h=>by
  rw[Cells.zK,Cells.zK,h c XQ,zhE i (j+1) r λk hk=>h k (XT _ hk)]
theorem zdO {p q:Nat->Bool}:∀(i:Nat) (gs:List (List Nat)),(∀t∈gs,∀k∈t,p k=q k)->Cells.zE p i gs=Cells.zE q i gs
 | _,[],_=>rfl
 | i,t::r,h=>by
  rw[Cells.zE,Cells.zE,zhE i 0 t (h t XQ),zdO (i+1) r λu a=>h u (XT _ a)]
def Rows.signsIn {rs:AE}(R:Rows bd.cps.toList rs):∀t∈codes rs,∀k∈t,k∈bd.cps.toList:=λt a k hk=>by
 obtain⟨u,b,rfl⟩:=XI.mp a;obtain⟨n,_,_,q⟩:=R.ex;exact(q u b).mem k hk
def zo5 {t:Str}{j:Nat}(c:Nat)(d:j<t.cps.toList.length):(ZK t none (some (j:Int))++⟨#[c]⟩++ZK t (some ((j:Int)+1)) none).cps.toList=t.cps.toList.set j c:=by
 have f:t.length=t.cps.toList.length:=(X5).symm;have a:(ZK t none (some (j:Int))).cps.toList=t.cps.toList.take j:=by
  have e:HT.sIx t.length t.length (some (j:Int))=j:=by
   rw[HT.QM];lia
  unfold ZK;rw[e];show ((t.cps.toList.drop 0).take (j-0)).toArray.toList=_;simp
 have b:(ZK t (some ((j:Int)+1)) none).cps.toList=t.cps.toList.drop (j+1):=by
  have e:HT.sIx t.length 0 (some ((j:Int)+1))=j+1:=by
   have:=HT.QM t.length 0 (j+1);rw[Tl]at this;rw[show ((j:Int)+1)=(j:Int)+((1:Nat):Int) from rfl,this];lia
  unfold ZK;rw[e];show ((t.cps.toList.drop (j+1)).take (t.length-(j+1))).toArray.toList=_;rw[OJ,WR (by rw[VP];lia)]
 show ((ZK t none (some (j:Int))).cps++#[c]++(ZK t (some ((j:Int)+1)) none).cps).toList=_;rw[WM,WM,a,b,SW,bw d];simp
def znw {xs:AF}{j:Nat}(v:V)(c:j<xs.length):Jo xs none (some (j:Int))++[v]++Jo xs (some ((j:Int)+1)) none=xs.set j v:=by
 have a:Jo xs none (some (j:Int))=xs.take j:=by
  have e:HT.sIx xs.length xs.length (some (j:Int))=j:=by
   rw[HT.QM];lia
  unfold Jo;rw[e];show ((xs.drop 0).take (j-0))=_;simp
 have b:Jo xs (some ((j:Int)+1)) none=xs.drop (j+1):=by
  have e:HT.sIx xs.length 0 (some ((j:Int)+1))=j+1:=by
   have:=HT.QM xs.length 0 (j+1);rw[Tl]at this;rw[show ((j:Int)+1)=(j:Int)+((1:Nat):Int) from rfl,this];lia
  unfold Jo;rw[e];show ((xs.drop (j+1)).take (xs.length-(j+1)))=_;rw[WR (by rw[VP];lia)]
 rw[a,b,SW,bw c];simp
theorem zbY {p:Nat->Bool}(i:Nat):∀(j:Nat) (t:List Nat) (m k a:Nat),t[m]?=some k->p a=p k->Cells.zK p i j (t.set m a)=Cells.zK p i j t
 | j,c::r,0,k,a,h,e=>by
  have:c=k:=by simpa using h
  subst this;rw[RN,Cells.zK,Cells.zK,e]
 | j,c::r,m+1,k,a,h,e=>by
  rw[RP,Cells.zK,Cells.zK,zbY i (j+1) r m k a (by simpa using h) e]
theorem zbZ {p:Nat->Bool}:∀(i:Nat) (gs:List (List Nat)) (m:Nat) (t t':List Nat),gs[m]?=some t->(∀i,Cells.zK p i 0 t'=Cells.zK p i 0 t)->Cells.zE p i (gs.set m t')=Cells.zE p i gs
 | i,c::r,0,t,t',h,e=>by
  have:c=t:=by simpa using h
  subst this;rw[RN,Cells.zE,Cells.zE,e]
 | i,c::r,m+1,t,t',h,e=>by
  rw[RP,Cells.zE,Cells.zE,zbZ (i+1) r m t t' (by simpa using h) e]
def zj1:Sp:=λh H Q _=>∃(p l:Addr) (b:AE) (n c:Int),h=[.ref p,.int c]/\qf H p l b n/\Rows bd.cps.toList b/\0<=n /\
 ∀(f g:Addr) (a:AE) (e:Int) (d:Hp),qf d f g a e->Rows bd.cps.toList a->0<=e->zI a=zI b->zT a=zT b->zo H d->Q (.ref f) d
def znx (c:Int):∃v:Int,atI [V.int (-1),V.int 1] (c%2)=some (.int v)/\-1<=v/\v<=1:=by
 have h:c%2=0\/c%2=1:=by lia
 rcases h with h | h
 .rw[h];exact⟨-1,rfl,by decide,by decide⟩
 .rw[h];exact⟨1,rfl,by decide,by decide⟩
def zsc:∀k:Nat,k<57->48<=k->YY k=true:=by decide+kernel
def zsd:∀k:Nat,k<57->48<=k->x8 k=false:=by decide+kernel
def zse:∀k∈bd.cps.toList,YY k=true->48<=k/\k<=56:=by decide+kernel
def jv:zB ["_law_board_here","_law_cell","_law_rows","_law_stones","_law_opens","_law_row","_law_column","_law_number","_law_text"] ["_law_board_here","_law_cell"] (zp YB):=bh
def zhF {f2:Addr}{aj:XD}(T:Txt mg)(D:zm K mg "_law_bent" YB ["_law_board_here","_law_cell"] f fd)(qz:zm K mg "_law_cells" yF ["_law_rows","_law_signs"] f2 aj):zU P w K mg base CX0 2 f fd ["_law_board_here","_law_cell"] zj1:=by
 refine D.F.ok jv (λvs H Q E h=>?_) (λay A aw s H vs Q E O h=>?_)
 .revert h;refine fQ λp l a n=>fq λc z0 _=>?_;subst z0;rfl
 .revert h;refine fY λp l a n c z0 b R n0 q=>?_;subst z0;refine⟨_,(ze (zly (pv 0) (yX rfl (zM (pgq 2 jv.nd) (zM (pgq 3 jv.nd) jw)))) (ze (qA 4 jv.nd (pc0 (YR T qz) O qz (za (pv 2) (za (pt1 (Qd rfl) T.zdg Vc qX) zd)))) (ze (qy (PW.pt (zcL (jh ZD (zC jP (pv 1) zf) zf (zP _)) (zaH (jh (jy O.units) (pv 4) (@zW _ _ _ _ zd) (zP _))))) (ze (zly (zF ji (pv 4) (zC jP (zC yg (pv 1) zf) (pb1 qe T.qC Xg (pv 4))) (λ_ _=>rfl)) (yX rfl (zM (pgq 5 jv.nd) (zM (pgq 6 jv.nd) jw)))) (ze (qA 7 jv.nd (yM (QL rfl) (by rfl) T.zgX UW (@za _ _ _ _ _ zf (za (yM (ZE rfl) (by rfl) T.zeQ Vr (@za _ _ _ _ _ zf (za (zC yY (pt1 zaQ T.zjA T7 (zF zhP (zF ji (pv 2) (pv 5) (λ_ _=>rfl)) (pv 6) (λ_ _=>rfl))) (zF ji (zW (za (zlC zhN zf) (@za _ _ _ _ _ zf zd rfl))) (zC jP (zC yg (pv 1) zf) zf) (λ_ _=>rfl))) zd) rfl)) zd) rfl))) (ze (qA 8 jv.nd (zC zam (zC zam (JL zlP (zF ji (pv 2) (pv 5) (λ_ _=>rfl)) Yk (Yl (pv 6))) (pt1 zaJ T.zmF Sy (pv 7))) (JL zlP (zF ji (pv 2) (pv 5) (λ_ _=>rfl)) (Yl (zC yY (pv 6) zf)) Yk))) (zg (zw (qj (za (zC yZ (zC yZ (JL zaL (pv 2) Yk (Yl (pv 5))) (zW (za (pv 8) zd))) (JL zaL (pv 2) (Yl (zC yY (pv 5) zf)) Yk)) (za (pv 3) zd)))))))) zY) (ze (qy (jh ZD (zC jP (pv 1) zf) zf (zP _)) (zg (zw (qj (za (pv 2) (za (yM (QL rfl) (by rfl) T.zgX UW (@za _ _ _ _ _ zf (za (zC yY (pv 3) (zF ji (zW (za (zlC zhN zf) (@za _ _ _ _ _ zf zd rfl))) (zC jP (zC yg (pv 1) zf) zf) (λ_ _=>rfl))) zd) rfl)) zd))))) zY) (zg (zw (pv 0))))))),?_⟩;(try dsimp only[cxK,cxP,cxW]);refine eN rfl p (dZ rfl (SqT.of b.tp) rfl (fk rfl rfl rfl ?_));refine dB rfl (dI "012345678" rfl (by decide) (λsg au=>?_));have z1:=zc (o:=.lst (("012345678":Str).cps.toList.map λc=>V.str ⟨#[c]⟩)) au;refine dF l sg ⟨_,(dU (codes a) [48,49,50,51,52,53,54,55,56] rfl (z1 _ _ b.rw) (Je.rows _ a) (by rw[qK];exact R.hi) (dD R.short (by rw[zb,zjZ]) (λd Y H2 hd ab M s2=>?_)))⟩;have ec:Cells.zE (pZ [48,49,50,51,52,53,54,55,56]) 0 (codes a)=zT a:=zdO 0 _ λt ht k hk=>zj0 k (R.signsIn t ht k hk);rw[ec]at M;have G:=z1.trans s2;refine dB rfl (dG (dJ rfl rfl (by show (0:Int)<4;decide) rfl (dB rfl (zcm (λ_=>?_) (λ_=>?_)))))
  .refine dN rfl yR (λe he=>?_);have z3:=zc (o:=.lst []) he;refine dY (.list ((zT a).map zk)) (.list (([]:AD).map zk)) (.lst (SqL.of (z3 _ _ ab)) (Q8 (M.mono z3))) (.lst (SqL.of zb) .nil) (YE _ _) (dB rfl (zcm (λaf=>?_) (λ_=>?_)))
   .have r:=G.trans z3;have ac:=z3 _ _ ab;have aa:=M.mono z3;have al:=r _ _ b.rw;have wl:=aa.length;have pos:0<Y.length:=by
     cases hb:zT a with
     | nil =>
      rw[hb]at af;exact absurd af (by decide)
     | cons x y =>
      rw[wl,hb];exact TJ _
    generalize upd H2 e (.lst [])=H3 at *
    have m0:=US (c/8) (show ((Y.length:Nat):Int)≠0 by lia);have m1:=Uk (c/8) (show (0:Int)<((Y.length:Nat):Int) by lia);obtain⟨x,hx⟩:∃x,Y[(c/8%((Y.length:Nat):Int)).toNat]?=some x:=⟨_,XZ (by lia)⟩;refine fK (λy hy ya z0 av=>?_) (Cel.get aa hx);subst z0;refine fN (λi j u k ey hu hk pk=>?_) (Cells.yE (X8 hy));rw[VR]at ey;subst ey;obtain⟨t,ht,rfl⟩:∃t,a[i]?=some t/\t.cps.toList=u:=by
     unfold codes at hu;rw[Xq]at hu;cases e1:a[i]? with
     | none =>
      rw[e1]at hu;cases hu
     | some t =>
      rw[e1]at hu;exact⟨t,rfl,Option.some.inj hu⟩
    refine dH rfl rfl (dX rfl rfl (JM.small (by decide) (by decide)) (eN rfl d (dD rfl (.inl (SqL.of ac)) (dX rfl rfl (by show (0:Int)<((Y.length:Nat):Int);lia) (dM d (eB rfl rfl (SqL.of ac) (Yn m0 hx) ?_))))));refine eW ya rfl (SqT.of av) rfl rfl rfl rfl ?_;have L:(a.map V.str)[((i:Nat):Int).toNat]?=some (V.str t):=by
     rw[V1,Xq,ht];rfl
    have ak:t.cps.toList[((j:Nat):Int).toNat]?=some k:=by rw[V1];exact hk
    have tm:=X8 ht;have tl:t.cps.toList.length<=8:=R.short _ (X8 hu);have ax:t.length<=8:=by
     rw[<- show t.cps.toList.length=t.length from X5];exact tl
    have N:t.length<=XA:=X6 ax (by decide);have jl:=(X4.mp hk).1;have il:=(X4.mp ht).1;obtain⟨k0,k1⟩:=zse k (R.signsIn _ (X8 hu) k (X8 hk)) pk;refine fy (λv hv v0 v1=>?_) (znx (c/4));refine dH rfl rfl (dM l (dO (.str t) rfl rfl (SqL.of al) (Yn (by lia) L) (eN rfl t (dO k rfl rfl N (Yn (by lia) ak) (dX rfl (int_sign k0 k1) (by show 1<=640;decide) (dN rfl yi (λU B=>(eU rfl rfl rfl (JM.small (by decide) (by decide)) (dX rfl rfl (by show (0:Int)<2;decide) (dM U (eB rfl rfl (SqL.of zb) hv (dP rfl rfl (fh rfl (fh rfl ?_))))))))))))));have ag:=r.trans (zc (o:=.lst [V.int (-1),V.int 1]) B);generalize upd H3 U (.lst [V.int (-1),V.int 1])=H4 at *
    have J:=ag _ _ b.rw;obtain⟨I,hD,eD⟩:∃D:Nat,D<9/\(if (if (k:Int)-48+v<8 then (k:Int)-48+v else 8)>0 then (if (k:Int)-48+v<8 then (k:Int)-48+v else 8) else 0)=(D:Int):=by
     refine⟨(if (if (k:Int)-48+v<8 then (k:Int)-48+v else 8)>0 then (if (k:Int)-48+v<8 then (k:Int)-48+v else 8) else 0).toNat,?_,?_⟩
     .split<;>split<;>lia
     .split<;>split<;>lia
    rw[eD];refine fB (λd1 d2 d3=>?_) (zsb I hD);have ae:((I:Nat):Int).natAbs.log2<1920:=by
     rw[S5];have:∀d:Nat,d<9->d.log2<1920:=by decide+kernel
     exact this _ hD
    have cs:=zo5 (t:=t) (48+I) jl;have cl:((ZK t none (some ((j:Nat):Int))++(⟨#[48+I]⟩:Str))++ZK t (some (((j:Nat):Int)+1)) none).cps.size=t.cps.toList.length:=by
     rw[<- X5,cs,Sb]
    have ai:((ZK t none (some ((j:Nat):Int))).cps++#[48+I]++(ZK t (some (((j:Nat):Int)+1)) none).cps).size=t.cps.toList.length:=cl;rw[Rw,Rw]at ai;have hc:#[48+I].size=1:=rfl;refine dH rfl rfl (dM l (dO (.str t) rfl rfl (SqL.of J) (Yn (by lia) L) (dH rfl rfl (dI t rfl N (dB rfl (dN rfl ae (dX rfl rfl ?_ (dH rfl rfl (dM l (dO (.str t) rfl rfl (SqL.of J) (Yn (by lia) L) (dB rfl (dP rfl rfl (dB rfl (dI t rfl N (dX rfl rfl ?_ ?_)))))))))))))))
    .rw[d1];refine X6 (show _<=20 from ?_) (by decide);show (ZK t none (some ((j:Nat):Int))).cps.size + #[48+I].size<=20;lia
    .rw[d1];refine X6 (show _<=20 from ?_) (by decide);show ((ZK t none (some ((j:Nat):Int))).cps++#[48+I]).size+(ZK t (some (((j:Nat):Int)+1)) none).cps.size<=20;rw[Rw];lia
    rw[d1];generalize ZK t none (some ((j:Nat):Int))++(⟨#[48+I]⟩:Str)++ZK t (some (((j:Nat):Int)+1)) none=tx at *
    have cv:=znw (xs:=a.map V.str) (j:=i) (.str tx) (by rw[ZB];exact il);have rl:(a.map V.str).length<=8:=by rw[ZB];exact R.hi
    have c1:=Y7 (a.map V.str) none (some ((i:Nat):Int));have c2:=Y7 (a.map V.str) (some (((i:Nat):Int)+1)) none;refine dH rfl rfl (eN rfl l (dD rfl (SqL.of J) (λq1 am=>(dN rfl sz_1 (λq2 an=>?_)))));have x1:=zc (o:=.lst (Jo (a.map V.str) none (some ((i:Nat):Int)))) am;have x2:=zc (o:=.lst [V.str tx]) an;refine dF q1 q2 (dG (dQ rfl rfl (x2 _ _ zb) zb ?_ (λq3 ao=>?_)))
    .exact X6 (show (Jo (a.map V.str) none (some ((i:Nat):Int))).length+1<=20 by lia) (by decide)
    have x3:=zc (o:=.lst (Jo (a.map V.str) none (some ((i:Nat):Int))++[V.str tx])) ao;have ah:=x1.trans (x2.trans x3);refine dH rfl rfl (dP rfl rfl (eN rfl l (dD rfl (SqL.of (ah _ _ J)) (λq4 aq=>?_))));have x4:=zc (o:=.lst (Jo (a.map V.str) (some (((i:Nat):Int)+1)) none)) aq;refine dF q3 q4 (dG (dQ rfl rfl (x4 _ _ zb) zb ?_ (λq5 ar=>?_)))
    .rw[XY];exact X6 (show (Jo (a.map V.str) none (some ((i:Nat):Int))).length+1+(Jo (a.map V.str) (some (((i:Nat):Int)+1)) none).length<=20 by lia) (by decide)
    have x5:=zc (o:=.lst (Jo (a.map V.str) none (some ((i:Nat):Int))++[V.str tx]++Jo (a.map V.str) (some (((i:Nat):Int)+1)) none)) ar;refine dN rfl yi (λtp g=>?_);have x6:=zc (o:=.tup [.ref q5,.int n]) g;refine q tp q5 (a.set i tx) n _ ⟨zb,?_⟩ ⟨by rw[Sb];exact R.lo,by rw[Sb];exact R.hi,?_⟩ n0 ?_ ?_ (ag.trans (ah.trans (x4.trans (x5.trans x6))))
    .refine x6 _ _ ?_;rw[zb,cv,R0]
    .obtain⟨m,a1,a8,O⟩:=R.ex;refine⟨m,a1,a8,λu hu=>?_⟩;rcases RD hu with hu | hu
     .exact O u hu
     .rw[hu];refine⟨?_,λz hz=>?_⟩
      .rw[cl,X5];exact(O t tm).len
      .rw[cs]at hz;rcases RD hz with hz | hz
       .exact(O t tm).mem z hz
       .rw[hz];exact d2
    .unfold zI codes;rw[R0];refine zbZ 0 _ i t.cps.toList _ hu λi'=>?_;rw[cs];exact zbY i' 0 _ j k _ hk (d3.trans (zsd k (by lia) k0).symm)
    .unfold zT codes;rw[R0];refine zbZ 0 _ i t.cps.toList _ hu λi'=>?_;rw[cs];exact zbY i' 0 _ j k _ hk ((zsc _ (by lia) (by lia)).trans (zsc k (by lia) k0).symm)
   .have r:=G.trans z3;refine dB rfl (dG (dJ rfl rfl (by show (0:Int)<4;decide) rfl (dB rfl (zcm (λ_=>?_) (λ_=>⟨_,rfl,q p l a n _ (b.mono r) R n0 rfl rfl r⟩)))));refine fy (λv hv _ _=>?_) (znx (c/4));refine dH rfl rfl (dN rfl yi (λU B=>(eU rfl rfl rfl (JM.small (by decide) (by decide)) (dX rfl rfl (by show (0:Int)<2;decide) (dM U (eB rfl rfl (SqL.of zb) hv (dP rfl rfl (dP rfl yi (λtp g=>?_)))))))));have y1:=r.trans (zc (o:=.lst [V.int (-1),V.int 1]) B);exact q tp l a _ _ ⟨zb,zc g _ _ (y1 _ _ b.rw)⟩ R (by split<;>lia) rfl rfl (y1.trans (zc g))
  .refine ZG ?_;refine dB rfl (dG (dJ rfl rfl (by show (0:Int)<4;decide) rfl (dB rfl (zcm (λ_=>?_) (λ_=>⟨_,rfl,q p l a n _ (b.mono G) R n0 rfl rfl G⟩)))));refine fy (λv hv _ _=>?_) (znx (c/4));refine dH rfl rfl (dN rfl yi (λU B=>(eU rfl rfl rfl (JM.small (by decide) (by decide)) (dX rfl rfl (by show (0:Int)<2;decide) (dM U (eB rfl rfl (SqL.of zb) hv (dP rfl rfl (dP rfl yi (λtp g=>?_)))))))));have y1:=G.trans (zc (o:=.lst [V.int (-1),V.int 1]) B);exact q tp l a _ _ ⟨zb,zc g _ _ (y1 _ _ b.rw)⟩ R (by split<;>lia) rfl rfl (y1.trans (zc g))
def zsf:Sp:=λc H Q _=>∃(a:Addr) (i j:Int),c=[.ref a]/\H a=some (.tup [.int i,.int j])/\∀b,zo H b->Q (.bl true) b
def zny:Sp:=λd H Q _=>∃(l:Addr) (c:AF) (b:AD),d=[.ref l]/\H l=some (.lst c)/\Cel H c b/\b.length<=20/\∀a,zo H a->Q (.bl true) a
def zhG:Sp:=λg H Q _=>∃(a b:Addr) (e f:AF) (c:AD),g=[.ref a,.ref b]/\H a=some (.lst e)/\H b=some (.lst f)/\Cel H e c/\Cel H f c/\c.length<=20/\∀d,zo H d->Q (.bl true) d
def znz:Sp:=λh H Q _=>∃(p l f:Addr) (b:AE) (n:Int) (g:AF) (d a:List Tg),h=[.ref p,.ref f]/\qf H p l b n/\Rows bd.cps.toList b/\H f=some (.lst g)/\Xl (ZA H) g a/\zfW d a/\(∀c,some c∈a->c∈zT b)/\∀e,zo H e->Q (.bl true) e
def zdP (i:Nat):(WU i true).map V.bl++[V.bl true]=(WU (i+1) true).map V.bl:=by
 rw[List.replicate_succ',Xz];rfl
def zf4 (i:Nat):(WU i true).all id=true:=by
 rw[WK];exact λx a=>(List.mem_replicate.mp a).2
def znA (c d:AD):Xa (.list (c.map zk)) (.list (d.map zk))=decide (c=d):=by
 show PyData.eqvAll (c.map zk) (d.map zk)=_;induction c generalizing d with
 | nil =>
  cases d with
  | nil=>rfl
  | cons j r=>rfl
 | cons i r a =>
  cases d with
  | nil=>rfl
  | cons j q =>
   show (Xa (zk i) (zk j)&&PyData.eqvAll (r.map zk) (q.map zk))=_;rw[a,ZV,WV,WH,bu,bu,bu,List.cons.injEq]
def zsX (n:Nat):(if true=true then !inV (V.int ((n:Nat):Int)) [V.int 1,V.int 2] else inV (V.int ((n:Nat):Int)) [V.int 1,V.int 2])=!(decide (n=1) || decide (n=2)):=by
 show (!(decide ((1:Int)=((n:Nat):Int)) || (decide ((2:Int)=((n:Nat):Int)) || false)))=_;rw[Bool.or_false,show decide ((1:Int)=((n:Nat):Int))=decide (n=1) from decide_eq_decide.mpr (by lia),show decide ((2:Int)=((n:Nat):Int))=decide (n=2) from decide_eq_decide.mpr (by lia)]
def zpC:Sp:=λs H Q _=>∃(p l j i r fs:Addr) (d:AE) (n:Int) (m u v:AF) (a:List Tg) (e st:AD),s=[.ref p,.ref j,.ref i]/\qf H p l d n/\Rows bd.cps.toList d/\H j=some (.lst m)/\Xl (ZA H) m a/\(a.length=1\/a.length=2)/\(∀c,some c∈a->c∈zT d)/\(zI d).length<=20/\jY H i r fs u v e st/\zoV e st/\zq0 (Qx d n e st a) /\
 ∀(t g h:Addr) (o q:AF) (c1 f:AD) (b:Hp),H g=none->H h=none->b t=some (.tup [.ref g,.ref h])->b g=some (.lst o)->b h=some (.lst q)->Cel b o c1->Cel b q f->c1.Perm (qU (gsT d n e st a))->f.Perm (qV (gsT d n e st a))->c1.Pairwise Cells.lex->f.Pairwise Cells.lex->zo H b->Q (.ref t) b
def zj2:Sp:=λu H Q _=>∃(p l h m fs sa o i j:Addr) (b:AE) (n:Int) (q s v u1 r:AF) (a d:List Tg) (e st c1 g:AD) (L:AA->Bool),u=[.ref p,.ref h,.ref sa]/\qf H p l b n/\Rows bd.cps.toList b/\(zI b).length<=20/\jY H h m fs s v e st/\zoV e st/\Z6 NT H sa o i j q u1 r d c1 g/\Qy b n a e st d c1 g/\(∀c,some c∈a->c∈zT b)/\Qw (jo b n a) L e st/\∀f,zo H f->Q (.bl true) f
def zsY {A P R:Prop}(k:A->P)(h:(A->P)->R):R:=h k
def tgD:Tg->We
 | none=>.str "all"
 | some c=>zk c
theorem ZA.rdv {K:XX}{H:Hp}{v:V}:∀{a:Tg},ZA H v a->Rdv K H v (tgD a)
 | none,h=>by
  have e:v=V.str "all":=h;subst e;exact .str _
 | some _,h=>yk.rdv h
theorem zj3:∀a b:Tg,zlJ (tgD a) (tgD b)
 | none,none=>⟨by decide+kernel,by decide+kernel,by decide+kernel⟩
 | none,some _=>⟨by decide+kernel,rfl,by decide+kernel⟩
 | some _,none=>⟨rfl,by decide+kernel,by show max 0 (max 0 0)+1<=64;decide⟩
 | some _,some _=>⟨rfl,rfl,by show max 0 (max 0 0)+1<=64;decide⟩
theorem zq8:∀a b:Tg,a≠b->Xa (tgD a) (tgD b)=false
 | none,none,h=>absurd rfl h
 | none,some _,_=>rfl
 | some _,none,_=>rfl
 | some c,some d,h=>(ZV c d).trans (bf λe=>h (congrArg some e))
def zfW.len {d c:List Tg}(o:zfW d c):c.length=1\/c.length=2:=by
 rcases o with ⟨a,_,rfl⟩ | ⟨a,b,_,_,_,rfl⟩
 .exact .inl rfl
 .exact .inr rfl
def zfW.mem {c d:List Tg}(o:zfW c d):∀t∈d,t∈c:=λt h=>by
 rcases o with ⟨a,e,rfl⟩ | ⟨a,b,e,f,_,rfl⟩
 .rw[Wf.mp h];exact e
 .rcases XH.mp h with rfl | h
  .exact e
  .rw[Wf.mp h];exact f
def ziM:zB ["thing"] ["thing"] (zp QV):=bh
def zdQ (T:Txt mg)(D:zm K mg "is_cell" QV ["thing"] f fd):zU P w K mg base CX0 1 f fd ["thing"] zsf:=by
 refine D.F.ok ziM (λJ H Q E h=>?_) (λG A n s H J Q E L h=>?_)
 .revert h;refine fX λa i j z0 _=>?_;subst z0;rfl
 .revert h;refine fM λa i j z0 l q=>?_;subst z0;refine⟨_,(zg (zw (Y5 (pb2 xV T.j8 V2 (pvS 0) (QK (v:=.ty "tuple") (by rfl) T.zoD PyProof.Rows.boot_tuple (by rfl))) (zal (pb1 (zcS rfl) T.zmE Sx (pcm ["part"] [none] cP (zpZ (pvS 0)) (pgN 0) qa (Y5 (pb2 (zaP (K:=K) (by rfl)) T.j8 V2 (pvS 0) (QK (v:=.ty "int") (by rfl) T.zjA T7 (by rfl))) (zal (zpV (pb2 (zaP (K:=K) (by rfl)) T.j8 V2 (pvS 0) (QK (v:=.ty "bool") (by rfl) T.zqH PyProof.Rows.boot_bool (by rfl)))))))))))),?_⟩;(try dsimp only[cxK,cxP,cxW]);refine⟨_,rfl,_,"tuple","tuple",true,rfl,.tup l,(by decide+kernel),_,rfl,jb rfl ?_⟩;refine⟨_,rfl,a,rfl,⟨_,SqT.of l⟩,λy u=>?_⟩;refine zmq (K:=K) (a:=a) (xs:=[.int i,.int j]) (λi d g=>(∃z,d=[z])/\zo H g/\i<=3/\g y=some (.lst ((WU i true).map V.bl))) ⟨⟨_,rfl⟩,zc u,by decide,zb⟩ (λi d g _ ⟨_,I,_⟩=>SqT.of (I _ _ l)) ?_ ?_
  .rintro k x d B r ⟨⟨z,rfl⟩,p,_,c⟩;have M:k<2:=(X4.mp r).1;obtain⟨m,rfl⟩:∃m:Int,x=.int m:=by
    rcases XH.mp (X8 r) with e | e
    .exact⟨_,e⟩
    .exact⟨_,Wf.mp e⟩
   refine jA ⟨_,rfl,_,"int","int",true,rfl,.int m,(by decide+kernel),_,rfl,jb rfl ⟨_,rfl,_,"int","bool",false,rfl,.int m,(by decide+kernel),_,rfl,?_⟩⟩;refine⟨_,(dQ c ?_ ⟨_,rfl⟩ (λb o e=>?_) (by lia) ?_)⟩
   .rw[ZB,T9];exact XM (show k<=3 by lia) (by decide)
   .rw[zj (zh e u)];exact p _ _ e
   .rw[zb,<- zdP];rfl
  .refine λd B=>fE λ_ p _ c=>?_;refine⟨y,_,rfl,SqL.of c,?_⟩;rw[zf4];exact q _ p
def zf5:zB ["cells"] ["cells"] (zp Zk):=bh
def zf6 (T:Txt mg)(Z:Prog K mg)(D:zm K mg "are_cells" Zk ["cells"] f fd):zU P w K mg base CX0 2 f fd ["cells"] zny:=by
 obtain⟨ab,aa,u⟩:=Z.is_cell;refine D.F.ok zf5 (λvs H Q E h=>?_) (λN A r s H vs Q E U h=>?_)
 .revert h;refine fX λl L O z0 _=>?_;subst z0;rfl
 .revert h;refine fC λl L O z0 n z hz q=>?_;subst z0;refine⟨_,(zg (zw (Y5 (pb2 xV T.j8 V2 (pvS 0) (QK (v:=.ty "list") (by rfl) T.zdg Vc (by rfl))) (zal (pb1 (zcS rfl) T.zmE Sx (pcm ["cell"] [none] cP (zG (pvS 0)) (pgN 0) qa (pc0 (zdQ T u) U u (za (pvS 0) zd)))))))),?_⟩;(try dsimp only[cxK,cxP,cxW]);refine⟨_,rfl,_,"list","list",true,rfl,.lst n,(by decide+kernel),_,rfl,jb rfl ?_⟩;refine⟨_,rfl,l,rfl,⟨_,SqL.of n⟩,λy G=>?_⟩;refine qb (K:=K) (a:=l) (xs:=L) (λi j m=>(∃J,j=[J])/\zo H m/\m y=some (.lst ((WU i true).map V.bl))) ⟨⟨_,rfl⟩,zc G,zb⟩ (λi j m _ ⟨_,s',_⟩=>SqL.of (s' _ _ n)) ?_ ?_
  .rintro i x j M B ⟨⟨J,rfl⟩,g,d⟩;obtain⟨c,_,rc⟩:=Cel.get (Cel.mono g z) B;have Y:=(X4.mp B).1;rw[z.length]at Y;obtain⟨xa,rfl,p⟩:=rc;refine jA ⟨_,rfl,xa,_,_,rfl,p,λH3 I=>?_⟩;refine eB (I _ _ d) ?_ ⟨_,rfl⟩ (λb o e=>?_) ?_
   .rw[ZB,T9];exact XM (show i<=20 by lia) (by decide)
   .rw[zj (zh e G)];exact I _ _ (g _ _ e)
   .rw[zb,<- zdP]
  .rintro j M ⟨_,g,d⟩;refine⟨y,_,rfl,SqL.of d,?_⟩;rw[zf4];exact q _ g
def zlp:zB ["cells","some"] ["cells","some"] (zp za9):=bh
def zlq (T:Txt mg)(D:zm K mg "picked" za9 ["cells","some"] f fd):zU P w K mg base CX0 1 f fd ["cells","some"] zhG:=by
 refine D.F.ok zlp (λvs H Q E h=>?_) (λU A p s H vs Q E I h=>?_)
 .revert h;refine fQ λa b M ws=>fq λd z0 _=>?_;subst z0;rfl
 .revert h;refine fY λa b M ws d z0 y B e=>fB λG hz q=>?_;subst z0;refine⟨_,(zg (zw (jx (yx I.units) (pvS 1) (pcm ["cell","some"] [none,some 1] cR (zG (pvS 0)) (pgN 0) (qk (z9 (qI (K:=K) (by rfl) I.units) (pvS 0) (pvS 1) (by rfl))) (pvS 0)) (zP _)))),?_⟩;(try dsimp only[cxK,cxP,cxW]);refine⟨_,rfl,_,rfl,a,rfl,⟨_,SqL.of y⟩,λz n=>?_⟩;refine qc (K:=K) (a:=a) (xs:=M) (λa=>a≠z) (d.map λc=>if decide (c∈d)=true then some (zk c) else none) (fun N=>∃L,N=[L,some (.ref b)]) n (λ_ h=>h) ⟨_,rfl⟩ (by rw[ZB];exact e.length.symm) (by rw[e.length];exact X6 hz (by decide)) (SqL.of y) ?_ ?_
  .rintro k x o N H4 hx ho u _ ⟨L,rfl⟩ Y Z v no;obtain⟨c,l,J⟩:=Cel.get (Cel.mono u e) hx;have i:=jd l ho;refine⟨_,rfl,_,rfl,zk c,d.map zk,J.rdv,.lst (SqL.of (u _ _ B)) (Q8 (G.mono u)),rfl,Y0 _,(by show 1<=60;decide),_,rfl,?_⟩;rw[zjO];by_cases j:decide (c∈d)=true
   .rw[bw j]at i;exact jb j ⟨_,rfl,v _ _ _ _ i ⟨_,rfl⟩ (zo.refl _) J.rdn⟩
   .rw[bq j]at i;exact qW (Xs.mpr j) (no _ _ i ⟨_,rfl⟩ (zo.refl _))
  .rintro ys O r m g;rw[zZ]at g;refine⟨.list (d.map zk),.list ((d.filter λc=>decide (c∈d)).map zk),.lst (SqL.of (r _ _ B)) (Q8 (G.mono r)),.lst (SqL.of m) (Q8 (zx.cel g)),YE _ _,?_⟩;show Q (.bl (Xa (.list (d.map zk)) (.list ((d.filter λc=>decide (c∈d)).map zk)))) O;rw[znA,br (R5.mpr λc e=>br e).symm];exact q _ r
def zai:zB ["board","things","told"] ["board","things"] (zp Ju):=bh
def zef (T:Txt mg)(Z:Prog K mg)(D:zm K mg "are_things" Ju ["board","things"] f fd):zU P w K mg base CX0 3 f fd ["board","things"] znz:=by
 obtain⟨ak,aj,Z7⟩:=Z.is_cell;obtain⟨Jz,xT,zu⟩:=Z.open_cells;obtain⟨xr,yH,zv⟩:=Z.cells_of;obtain⟨JJ,xq,zq⟩:=Z.sign_at;refine D.F.ok zai (λvs H Q E h=>?_) (λai A ag s H vs Q E L h=>?_)
 .revert h;refine fu λp l u rs n tv ah B=>fR λz0 _=>?_;subst z0;rfl
 .revert h;refine fu λp l u rs n tv ah B=>fO λz0 b R m=>fE λN ok ho q=>?_;subst z0;refine⟨_,(ze (qy (PW.pt (zlv (zak (yf (pb2 xV T.j8 V2 (pvS 1) (QK (v:=.ty "list") (by rfl) T.zdg Vc (by rfl))) (λ_=>rfl))) (zlu (z9 zfn (pb1 zH T.qC Xg (pvS 1)) (@qj _ _ _ _ _ (@za _ _ _ _ _ zf (@za _ _ _ _ _ zf zd rfl) rfl)) (by rfl))))) (@zg _ _ _ (@zw _ _ _ _ YV)) zY) (ze (qy (PW.pt (zcL (z9 ZD (pb1 zH T.qC Xg (pvS 1)) zf (zP _)) (zaH (z9 (yx L.units) (zF xY (pvS 1) zf (λ_ _=>rfl)) (zF xY (pvS 1) zf (λ_ _=>rfl)) (zP _))))) (@zg _ _ _ (@zw _ _ _ _ YV)) zY) (ze (qA 2 zai.nd (pc0 (jN T zu zv zq) L zu (za (pvS 0) zd))) (zg (zw (pb1 (zcS rfl) T.zmE Sx (pcm ["thing","told"] [none,some 2] cR (zG (pvS 1)) (pgN 0) qa (zrm (jx (zb1 (K:=K) (by rfl) L.units) (pvS 0) (xJ (v:=.str "all") (by rfl) T.zmG.choose_spec (by exact⟨_,rfl⟩)) (zP _)) (zal (Y5 (pc0 (zdQ T Z7) L Z7 (za (pvS 0) zd)) (zal (jx (qI (K:=K) (by rfl) L.units) (pvS 0) (pvS 1) (by rfl))))))))))))),?_⟩;(try dsimp only[cxK,cxP,cxW]);have tl:tv.length=B.length:=Paired.length N;have af:=ok.len;refine⟨_,rfl,_,"list","list",true,rfl,.lst m,(by decide+kernel),true,rfl,ZG ?_⟩;refine⟨_,rfl,u,_,rfl,.inl (SqL.of m),yi,λtp M=>?_⟩;have z1:=zc (o:=.tup [V.int 1,V.int 2]) M;refine eX tp rfl (.inr (SqT.of zb)) rfl rfl ⟨_,rfl,?_⟩;rw[zsX,tl];refine qW (by rcases af with h | h<;>rw[h]<;>rfl) ?_;have g:=z1 _ _ m;have j:Xl (ZA _) tv B:=Paired.imp' (λ_ _ z=>ZA.mono z1 z) N;have b1:=b.mono z1;clear M;generalize upd H tp (.tup [V.int 1,V.int 2])=H1 at *
  refine⟨_,rfl,u,_,rfl,.inl (SqL.of g),rfl,_,rfl,?_⟩;rw[tl];refine' zsY (A:=True) ?key (λkey=>?tail)
  case tail =>
   rcases ok with ⟨a,_,rfl⟩ | ⟨a,c,_,_,ne,rfl⟩
   .exact qW rfl (key trivial)
   .refine jb rfl ?_;cases j with
    | cons r0 t =>
     cases t with
     | cons r1 t =>
      cases t;refine⟨_,rfl,u,_,_,_,rfl,rfl,SqL.of g,rfl,_,rfl,u,_,_,_,rfl,rfl,SqL.of g,rfl,tgD a,tgD c,r0.rdv,r1.rdv,zj3 a c,_,rfl,?_⟩;exact qW (zq8 a c ne) (key trivial)
  intro _;refine⟨_,rfl,p,l,rs,n,rfl,b1,R,λd ws H2 hd ab aa U=>?_⟩;refine⟨_,rfl,u,rfl,⟨_,SqL.of (U _ _ g)⟩,λy hy=>?_⟩;refine qb (K:=K) (a:=u) (xs:=tv) (λi σ H'=>(∃u0,σ=[u0,some (.ref d)])/\zo H2 H'/\H' y=some (.lst ((WU i true).map V.bl))) ⟨⟨_,rfl⟩,zc hy,zb⟩ (λi σ H' _ ⟨_,s',_⟩=>SqL.of (s' _ _ (U _ _ g))) ?_ ?_
  .rintro i x σ H3 hx ⟨⟨u0,rfl⟩,G,r⟩;obtain⟨t,ae,ac⟩:=ZJ j hx;have il:=(X4.mp hx).1;have ht:=ac.mono (U.trans G);have J:∀(I:Hp),zo H3 I->∃ys,I y=some (.lst ys)/\ys.length<XA/\(∃u0,[some x,some (V.ref d)]=[u0,some (V.ref d)])/\zo H2 (upd I y (.lst (ys++[V.bl true])))/\upd I y (.lst (ys++[V.bl true])) y=some (.lst ((WU (i+1) true).map V.bl)):=λI s5=>by
    refine eB (s5 _ _ r) ?_ ⟨_,rfl⟩ (λb o e=>?_) ?_
    .rw[ZB,T9];exact XM (show _<=3 by lia) (by decide)
    .rw[zj (zh e hy)];exact s5 _ _ (G _ _ e)
    .rw[zb,<- zdP]
   refine jA ⟨_,rfl,tgD t,tgD none,ht.rdv,.str _,zj3 t none,_,rfl,?_⟩;cases t with
   | none=>exact jb (by decide+kernel) (J _ (zo.refl _))
   | some c =>
    obtain⟨xa,rfl,O⟩:=ht;refine qW rfl ⟨_,rfl,xa,_,_,rfl,O,λH4 Y=>⟨_,rfl,jb rfl ⟨_,rfl,_,rfl,zk c,(zT rs).map zk,yk.rdv ⟨xa,rfl,Y _ _ O⟩,.lst (SqL.of ((G.trans Y) _ _ ab)) (Q8 (aa.mono (G.trans Y))),rfl,Y0 _,(by show 1<=60;decide),?_⟩⟩⟩;rw[zjO,br (ho c (X8 ae))];exact J _ Y
  .rintro σ H3 ⟨_,G,r⟩;refine⟨y,_,rfl,SqL.of r,?_⟩;rw[zf4];exact q _ (z1.trans (U.trans G))
def zdR:zB ["board","things","finding","known"] ["board","things","finding"] (zp QU):=bh
def ziO (T:Txt mg)(Z:Prog K mg){f:Addr}{fd:XD}(D:zm K mg "follows" QU ["board","things","finding"] f fd):zU P w K mg base CX0 4 f fd ["board","things","finding"] zpC:=by
 obtain⟨Qs,Z3,zJ⟩:=Z.around;obtain⟨JJ,xq,zq⟩:=Z.sign_at;obtain⟨xr,yH,zv⟩:=Z.cells_of;obtain⟨a1,ay,qR⟩:=Z.closed;obtain⟨Zq,JA,zO⟩:=Z.number_at;obtain⟨jL,jn,zz⟩:=Z.closed_around;obtain⟨a7,a4,J2⟩:=Z.asked_by;obtain⟨a5,a3,J1⟩:=Z.known_of;obtain⟨a2,az,yq⟩:=Z.still_asked;obtain⟨a8,a6,JK⟩:=Z.settled;obtain⟨aA,a9,Qz⟩:=Z.gained;have ao:=zcb (P:=P) (w:=w) (base:=base) T J2 zJ zq zv qR zO zz;have an:=zca (P:=P) (w:=w) (base:=base) T J1;have ZC:=Qv (P:=P) (w:=w) (base:=base) T yq;have aq:=ze9 (P:=P) (w:=w) (base:=base) T Qz JK;refine D.F.ok zdR (λvs H Q E h=>?_) (λau A aj s H vs Q E hr h=>?_)
 .revert h;refine fu λp l th fa fc fs rs n=>fQ λtv u w' aa=>fP λG st z0 _=>?_;subst z0;rfl
 .revert h;refine fu λp l th fa fc fs rs n=>gc λtv u w' aa G st z0 B R L=>fO λhT ak ho U=>fE λF fi ab q=>?_;subst z0;refine⟨_,(ze (qA 3 zdR.nd (pc0 an hr J1 (za (pvS 2) zd))) (zg (zw (pc0 aq hr Qz (za (pcm ["thing","known","board"] [none,some 3,some 0] cR (zG (pvS 1)) (pgN 0) qa (pc0 ZC hr yq (za (pc0 ao hr J2 (za (pvS 2) (za (pvS 0) zd))) (za (pvS 1) zd)))) zd))))),?_⟩;(try dsimp only[cxK,cxP,cxW]);refine⟨_,rfl,fa,fc,fs,u,w',G,st,rfl,F,fi,λkd ai H1 aw ar hK s1=>?_⟩;refine⟨_,rfl,th,rfl,⟨_,SqL.of (s1 _ _ L)⟩,λy hy=>?_⟩;refine qb (K:=K) (a:=th) (xs:=tv) (λi σ H'=>(∃u0,σ=[u0,some (.ref kd),some (.ref p)])/\zo H1 H'/\∃j,H' y=some (.lst j)/\Xl (AkN (· ≠ y) H') j (Qx rs n G st (aa.take i))) (dD ⟨_,rfl⟩ (zc hy) (dS [] zb (.nil))) (λi σ H' _ ⟨_,s',_⟩=>SqL.of (s' _ _ (s1 _ _ L))) ?_ ?_
  .rintro i x σ H2 hx ⟨⟨u0,rfl⟩,O,j,g,hP⟩;have d:=s1.trans O;obtain⟨tg,J,rt⟩:=ZJ hT hx;refine jA ⟨_,rfl,_,rfl,p,l,rs,n,x,tg,rfl,B.mono d,R,rt.mono d,λc e=>ho c (by rw[<- e];exact X8 J),λt l2 us3 H3 _ _ ah af ac Y=>?_⟩;refine⟨_,rfl,t,l2,kd,_,us3,_,G,st,ai,rfl,ah,af,ac,X6 Q6.length_le (X6 U (by decide)),Y _ _ (O _ _ ar),hK,λr l4 al H4 ax I m ag ae s4=>?_⟩;have v:=s4 _ _ (Y _ _ g);have N:r≠y:=zbM m v (by intro q;cases q);have M:l4≠y:=λz=>by
    rw[z,Y _ _ g]at I;cases I
   have am:j.length<=32:=by
    rw[Paired.length hP,ZB,XN];lia
   refine dO j v (XM am (by decide)) ⟨_,rfl⟩ (λb o e'=>?_) (dS (j++[.ref r]) zb ?_)
   .rw[zj (zh e' hy)];exact s4 _ _ (Y _ _ (O _ _ e'))
   .rw[take_snoc J,Qx,Xz];have kk:∀b o,b≠y->H4 b=some o->upd H4 y (.lst (j++[.ref r])) b=some o:=λb o nb e=>by
     rw[zj nb];exact e
    exact Paired.snoc (zdI g (λb o nb e=>by rw[zj nb];exact s4 _ _ (Y _ _ e)) hP) (dW r l4 al rfl N M (kk _ _ N m) ⟨kk _ _ M ag,Cel.into y _ v ae⟩)
  refine λσ H2=>fG λ_ O j g hP=>?_;rw[Paired.length hT,XJ]at hP;have d:=s1.trans O;refine dF y j (eB rfl g (znk hP) (by rw[ZB];exact ak) (dD (λk hk=>?_) ab (λt d1 d2 w1 w2 c1 c2 H5 f1 f2 av k1 k2 k3 g1 g2 p1 p2 x1 x2 s5=>?_)))
  .obtain⟨tg,_,rfl⟩:=XI.mp hk;exact⟨zdF rs n G st tg,zjP n G st tg U⟩
  .exact q t d1 d2 w1 w2 c1 c2 H5 (d.free f1) (d.free f2) k1 k2 k3 g1 g2 p1 p2 x1 x2 (d.trans s5)
def zhH:zB ["board","finding","step","told"] ["board","finding","step"] (zp zcK):=bh
def znB (T:Txt mg)(Z:Prog K mg){f:Addr}{fd:XD}(D:zm K mg "holds" zcK ["board","finding","step"] f fd):zU P w K mg base CX0 5 f fd ["board","finding","step"] zj2:=by
 obtain⟨am,al,M⟩:=Z.follows;obtain⟨ai,ah,I⟩:=Z.are_things;obtain⟨ak,aj,QB⟩:=Z.are_cells;obtain⟨ao,an,r⟩:=Z.picked;have af:=ziO (P:=P) (w:=w) (base:=base) T Z M;have ae:=zef (P:=P) (w:=w) (base:=base) T Z I;have J:=zf6 (P:=P) (w:=w) (base:=base) T Z QB;have N:=zlq (P:=P) (w:=w) (base:=base) T r;refine D.F.ok zhH (λvs H Q E h=>?_) (λag A ac s H vs Q E i h=>?_)
 .revert h;refine fu λp l fa fc fs sa th ca=>fu λda rs n tv us ws u1 u2=>fZ λG d cl st c1 c2 L z0 _=>?_;subst z0;rfl
 .revert h;refine fu λp l fa fc fs sa th ca=>fu λda rs n tv us ws u1 u2=>gb λG d cl st c1 c2 L z0 b R m=>fO λF Fi S ok=>fB λho tr q=>?_;subst z0;refine⟨_,(ze (qy (PW.pt (zlv (zak (yf (pc0 ae i I (za (pvS 0) (za (zF zQ (pvS 2) zf (λ_ _=>rfl)) zd))) (λ_=>rfl))) (zlv (zak (yf (pc0 J i QB (za (zF zQ (pvS 2) zf (λ_ _=>rfl)) zd)) (λ_=>rfl))) (zlu (zak (yf (pc0 J i QB (za (zF zQ (pvS 2) zf (λ_ _=>rfl)) zd)) (λ_=>rfl))))))) (@zg _ _ _ (@zw _ _ _ _ YV)) zY) (ze (zoq (zg (qA 3 zhH.nd (pc0 af i M (za (pvS 0) (za (zF zQ (pvS 2) zf (λ_ _=>rfl)) (za (pvS 1) zd))))))) (zg (zw (Y5 (jx (jy i.units) (zC yZ (zF zQ (pvS 2) zf (λ_ _=>rfl)) (zF zQ (pvS 2) zf (λ_ _=>rfl))) (@zW _ _ _ _ zd) (zP _)) (Y5 (pc0 N i r (za (zF zQ (pvS 3) zf (λ_ _=>rfl)) (za (zF zQ (pvS 2) zf (λ_ _=>rfl)) zd))) (zal (pc0 N i r (za (zF zQ (pvS 3) zf (λ_ _=>rfl)) (za (zF zQ (pvS 2) zf (λ_ _=>rfl)) zd)))))))))),?_⟩;(try dsimp only[cxK,cxP,cxW]);have m1:c1.length<=20:=zax (qg ok.x1) (λc v=>(ok.g1 c v).1) m;have m2:c2.length<=20:=zax (qg ok.x2) (λc v=>(ok.g2 c v).1) m;have B:∀c,some c∈d->c∈zT rs:=λc v=>ho c (ok.o.mem _ v);refine⟨_,rfl,_,rfl,sa,_,0,_,rfl,rfl,SqT.of S.tp,rfl,p,l,th,rs,n,tv,G,d,rfl,b,R,S.h,S.t,ok.o,B,λH1 s1=>(dS true rfl (ZG ?_))⟩;have O:=S.mono s1;refine⟨_,rfl,sa,_,1,_,rfl,rfl,SqT.of O.tp,rfl,ca,_,c1,rfl,O.h1,O.e1,m1,λH2 s2=>⟨true,rfl,ZG ?_⟩⟩;have U:=O.mono s2;refine⟨_,rfl,sa,_,2,_,rfl,rfl,SqT.of U.tp,rfl,da,_,c2,rfl,U.h2,U.e2,m2,λH3 s3=>⟨true,rfl,ZG ?_⟩⟩;have Y:=U.mono s3;have j:=s1.trans (s2.trans s3);refine⟨_,rfl,_,rfl,sa,_,0,_,rfl,rfl,SqT.of Y.tp,rfl,_,rfl,p,l,th,fa,fc,fs,rs,n,tv,us,ws,d,cl,st,rfl,b.mono j,R,Y.h,Y.t,ok.o.len,B,m,F.mono j,Fi,(tr.ok ok.o).2,λt a1 a2 w1 w2 d1 d2 H4 _ _ ht aa ab g1 g2 p1 p2 x1 x2 s4=>?_⟩;have e1:d1=c1:=QY (p1.trans ok.p1.symm) x1 ok.x1;have e2:d2=c2:=QY (p2.trans ok.p2.symm) x2 ok.x2;subst e1 e2;have g:=Y.mono s4;have k1:=g.e1.length;have k2:=g.e2.length;refine⟨_,rfl,sa,_,1,_,rfl,rfl,SqT.of g.tp,rfl,_,rfl,sa,_,2,_,rfl,rfl,SqT.of g.tp,rfl,ca,da,_,_,rfl,rfl,g.h1,g.h2,X6 (show u1.length+u2.length<=200 by lia) (by decide),λx hx=>?_⟩;have z5:=zc (o:=.lst (u1++u2)) hx;refine⟨yR,λy hy=>?_⟩;have z6:=zc (o:=.lst []) hy;have a:=z5.trans z6;have u:=g.mono a;refine dY (.list ((d1++d2).map zk)) (.list (([]:AD).map zk)) (.lst (SqL.of (z6 _ _ zb)) (Q8 (u.e1.append u.e2))) (.lst (SqL.of zb) .nil) (YE _ _) (dB rfl ?_);show if (!PyData.eqv (.list ((d1++d2).map zk)) (.list (([]:AD).map zk)))=true then _ else _
  rw[znA];refine jb (by rw[bf λz=>ok.ne (List.append_eq_nil_iff.mp z)];rfl) ⟨_,rfl,t,_,0,_,rfl,rfl,SqT.of (a _ _ ht),rfl,_,rfl,sa,_,1,_,rfl,rfl,SqT.of u.tp,rfl,a1,ca,w1,u1,d1,rfl,a _ _ aa,u.h1,g1.mono a,u.e1,m1,λH7 s7=>⟨_,rfl,?_⟩⟩;have S7:=u.mono s7;have e:=a.trans s7;exact jb rfl ⟨_,rfl,t,_,1,_,rfl,rfl,SqT.of (e _ _ ht),rfl,_,rfl,sa,_,2,_,rfl,rfl,SqT.of S7.tp,rfl,a2,da,w2,u2,d2,rfl,e _ _ ab,S7.h2,g2.mono e,S7.e2,m2,λH8 s8=>q _ (j.trans (s4.trans (e.trans s8)))⟩
def zsh (rs:AE)(o:AA):((zI rs).filter λc=>Cells.near o c)=clA rs o:=by
 rw[zni];exact Vy λx _=>Cells.zkP _ _
def Way.zero {rs:AE}{n:Int}{S:List Stp}{a st:AD}(W:Way rs n (QA rs) S a st)(d:0<=n){c:AA}(h:c∈a):Jc rs n c=0:=by
 unfold Jc Tally.T;rw[VO.mpr λS b z=>?_]
 .rfl
 .rw[WH,WH]at z;have:=(W.tr _ (zfY d b (WH _ _ ▸ ⟨z.1,z.2.1⟩)).tr).no c h;rw[z.2.2]at this;cases this
def Way.all {rs:AE}{n:Int}{S:List Stp}{a st:AD}(W:Way rs n (QA rs) S a st)(d:0<=n){c:AA}(h:c∈st):Jc rs n c=zav rs n:=by
 unfold Jc zav Tally.T;congr 1;refine Vk λS b=>?_;cases hz:(decide (S.length=n.toNat)&&jE rs S) with
 | false =>
  rw[<- TR,hz];rfl
 | true =>
  rw[<- TR,hz];have:=(W.tr _ (zfY d b hz).tr).ye c h;rw[this];rfl
def zsZ (H:Hp)(rs:AE)(n:Int)(v:V):Prop:=(30<(nbC rs).length/\v=.str "great")\/((nbC rs).length<=30/\((zav rs n=0/\v=.str "laying")\/(zav rs n≠0/\∃t sa b c fs d e f S a st,v=.ref t/\Told H rs n (QA rs) t sa b c fs d e f S a st)))
def zpE:Sp:=λc H Q _=>∃(p l:Addr) (a:AE) (n:Int),c=[.ref p]/\qf H p l a n/\Rows bd.cps.toList a/\0<=n/\(zI a).length<=14/\∀v b,zsZ b a n v->zo H b->Q v b
def zj4 (K:XX):Sp:=λd H Q _=>∃(a:Addr) (b:List Int),d=[.ref a]/\SqL K H a (b.map V.int)/\b.length<=63/\∀c,Q (.bl true) c
def zdT:zB ["_law_board_here"] ["_law_board_here"] (zp xQ):=bh
def zdU (T:Txt mg)(a:Qc K mg "NoLaying" jaa)(c:Qc K mg "TooGreat" jab)(y:Wy K jaa (.ref jaa)=some true)(x:Wy K jaa (.ref jab)=some false)(v:Wy K jab (.ref jab)=some true)(Z:Prog K mg){f:Addr}{fd:XD}(D:zm K mg "_law_outcome" xQ ["_law_board_here"] f fd):zU P w K mg base CX0 9 f fd ["_law_board_here"] zpE:=by
 obtain⟨ab,aa,i⟩:=Z.thoughts;have o:=zhv (P:=P) (w:=w) (base:=base) T Z a c i;refine D.F.ok zdT (λU H Q E h=>?_) (λz A j s H U Q E L h=>?_)
 .revert h;refine fL λp l u n z0 _=>?_;subst z0;rfl
 .revert h;refine fW λp l u n z0 B R M m q=>?_;subst z0;refine⟨_,(zg (zmt rfl rfl o (L.mono (by decide)) (by rfl) i.g i.F.kp i.b (by rfl) c (by rfl) a (za (pvS 0) zd) (λ_=>(@zg _ _ _ (@zw _ _ _ _ qX))) (λ_=>(@zg _ _ _ (@zw _ _ _ _ qX))))),?_⟩;(try dsimp only[cxK,cxP,cxW]);exact⟨_,rfl,p,l,u,n,rfl,B,R,M,m,λh r d=>⟨jab,rfl,.inl ⟨v,λe he=>q _ _ (.inl ⟨h,rfl⟩) (d.trans (zc he))⟩⟩,λh h0 r d=>⟨jaa,rfl,.inr ⟨x,y,λe he=>q _ _ (.inr ⟨h,.inl ⟨h0,rfl⟩⟩) (d.trans (zc he))⟩⟩,λh h0 t sa I J fs N O Y S G st r k d=>q _ _ (.inr ⟨h,.inr ⟨h0,(eV t sa I J fs N O Y (dF S G (dS st rfl k)))⟩⟩) d⟩
def xx:zB ["_law_script","_law_board_here","_law_cells_here","_law_opens","_law_many","_law_found","_law_finding","_law_things","_law_clears","_law_stones","_law_cell"] ["_law_script"] (zp zgW):=bh
def zrb (T:Txt mg)(bH:Qc K mg "NoLaying" jaa)(bI:Qc K mg "TooGreat" jab)(FN:Wy K jaa (.ref jaa)=some true)(FM:Wy K jaa (.ref jab)=some false)(FG:Wy K jab (.ref jab)=some true)(Z:Prog K mg){f:Addr}{fd:XD}(D:zm K mg "law" zgW ["_law_script"] f fd):zU P w K mg base CX0 10 f fd ["_law_script"] (zj4 K):=by
 obtain⟨cn,cj,qo⟩:=Z.law_cell_at;obtain⟨cu,cr,Zu⟩:=Z.law_mixed;obtain⟨c6,cv,YT⟩:=Z.law_mark;obtain⟨cw,ct,be⟩:=Z.law_drawn;obtain⟨c7,cx,xw⟩:=Z.law_near;obtain⟨cy,c4,qz⟩:=Z.law_cells;obtain⟨cz,c5,bi⟩:=Z.law_board;obtain⟨c8,c0,bm⟩:=Z.law_bent;obtain⟨co,ck,bb⟩:=Z.law_outcome;obtain⟨cq,cp,bc⟩:=Z.count;obtain⟨cB,cA,bo⟩:=Z.holds;obtain⟨c9,c3,a9⟩:=Z.count_at;have jf:=Qo (P:=P) (w:=w) (base:=base) T qo;have bW:=zf2 (P:=P) (w:=w) (base:=base) T be qo Zu YT;have bY:=zce (P:=P) (w:=w) (base:=base) T xw;have bj:=YR (P:=P) (w:=w) (base:=base) T qz;have bX:=zf3 (P:=P) (w:=w) (base:=base) T bi xw qz;have bZ:=zhF (P:=P) (w:=w) (base:=base) T bm qz;have bV:=zhe (P:=P) (w:=w) (base:=base) T Z bc;have bn:=zhj (P:=P) (w:=w) (base:=base) T Z a9;have cb:=znB (P:=P) (w:=w) (base:=base) T Z bo;have bU:=zdU (P:=P) (w:=w) (base:=base) T bH bI FN FM FG Z bb;refine D.F.ok xx (λvs H Q E h=>?_) (λce A bK s H vs Q E N h=>?_)
 .obtain⟨a,ns,rfl,_⟩:=h;rfl
 .revert h;refine fm λa ns z0 hS nl q=>?_;subst z0;refine⟨_,(ze (qA 1 xx.nd (pc0 bZ N bm (za (pc0 bX N bi (za (pc0 bW N be (za (pvS 0) (@za _ _ _ _ _ zf (@za _ _ _ _ _ zf zd rfl) rfl))) zd)) (za (pc0 jf N qo (za (pvS 0) (@za _ _ _ _ _ zf zd rfl))) zd)))) (ze (qA 2 xx.nd (pc0 bj N qz (za (zF zQ (pvS 1) zf (λ_ _=>rfl)) (@za _ _ _ _ _ (@zW _ _ _ _ (@za _ _ _ _ _ qX zd rfl)) zd rfl)))) (ze (qA 3 xx.nd (pc0 bj N qz (za (zF zQ (pvS 1) zf (λ_ _=>rfl)) (za (pt1 (Qd rfl) T.zdg Vc qX) zd)))) (ze (qA 4 xx.nd (pc0 bV N bc (za (pvS 1) zd))) (ze (qA 5 xx.nd (pc0 bU N bb (za (pvS 1) zd))) (ze (qy (z9 zii (pb1 zH T.qC Xg (zrT ["_law_one","_law_cells_here"] [none,some 2] (c1 (y:="_law_one")) (zG (pvS 3)) (pgN 0) (qk (z9 (zb2 (K:=K) (by rfl) N.units) (pcm ["_law_cell","_law_one"] [none,some 0] cR (zcT (K:=K) (by rfl) (pvS 1)) (pgN 0) (qk (ZH (K:=K) (by rfl) (pc0 bY N xw (za (pvS 1) (za (pvS 0) zd))) (λ_=>rfl))) (pvS 0)) (@zW _ _ _ _ zd) (zP _))) (pvS 0))) zf (zP _)) (zg (zw (jx (yx N.units) (pvS 5) qX (zP _)))) zY) (ze (qy (z9 ZD (pvS 4) zf (zP _)) (zg (zw (jx (yx N.units) (pvS 5) qX (zP _)))) zY) (ze (qy (yf (pb2 xV T.j8 V2 (pvS 5) (QK (v:=.ty "str") (by rfl) T.zmF Sy (by rfl))) (λ_=>rfl)) (@zg _ _ _ (@zw _ _ _ _ YV)) zY) (@ze _ _ _ _ _ (@qu _ _ 6 _ _ _ _ xx.nd rfl (VL rfl) (@qj _ _ _ _ _ (@za _ _ _ _ _ (@zW _ _ _ _ zd) (@za _ _ _ _ _ (@zW _ _ _ _ zd) zd rfl) rfl)) (by rfl) (.inr rfl)) (ze (qt Xe rfl (zG (zF zQ (pvS 5) zf (λ_ _=>rfl))) (yX rfl (zM (pgq 7 xx.nd) (zM (pgq 8 xx.nd) (zM (pgq 9 xx.nd) jw)))) (ze (qy (z9 zor (pc0 cb N bo (za (pvS 1) (za (pvS 6) (za (qj (za (pvS 7) (za (pvS 8) (za (pvS 9) zd)))) zd)))) YV (zP _)) (@zg _ _ _ (@zw _ _ _ _ YV)) zY) (zg (qA 6 xx.nd (qj (za (pb1 GS.jM T.yU Ws (zC yZ (zF zQ (pvS 6) zf (λ_ _=>rfl)) (pvS 8))) (za (pb1 GS.jM T.yU Ws (zC yZ (zF zQ (pvS 6) zf (λ_ _=>rfl)) (pvS 9))) zd))))))) (ze (qy (z9 (jy N.units) (pvS 6) (zF zQ (pvS 5) zf (λ_ _=>rfl)) (zP _)) (@zg _ _ _ (@zw _ _ _ _ YV)) zY) (ze (qt Xe rfl (zG (zF zQ (pvS 6) zf (λ_ _=>rfl))) (pgq 10 xx.nd) (zg (qy (z9 zek (pc0 bn N a9 (za (pvS 1) (za (pvS 10) zd))) zf (zP _)) (@zg _ _ _ (@zw _ _ _ _ YV)) zY))) (ze (qt Xe rfl (zG (zF zQ (pvS 6) zf (λ_ _=>rfl))) (pgq 10 xx.nd) (zg (qy (z9 zek (pc0 bn N a9 (za (pvS 1) (za (pvS 10) zd))) (pvS 4) (zP _)) (@zg _ _ _ (@zw _ _ _ _ YV)) zY))) (@zg _ _ _ (@zw _ _ _ _ YV))))))))))))))),?_⟩;(try dsimp only[cxK,cxP,cxW]);refine⟨_,rfl,a,ns,rfl,hS,λd us gs H1 hd aJ hM M s1=>(dW d us gs rfl aJ hM M (λp0 l0 bO H2 hp hl B0 ec s2=>?_))⟩;have u:=s1.trans s2;refine⟨_,rfl,a,ns,_,rfl,u.seq hS,by decide,λc=>(dF p0 l0 (eE bO (dO c rfl B0 (M.rows ec) (by lia) (λp l g n H3 B R n0 es eo s3=>?_))))⟩;have ci:(zI g).length<=10:=by rw[es];exact M.few9 ec
  clear s1 s2 s3 u hd aJ hM M hp hl B0 ec es eo hS;refine⟨_,rfl,p,_,0,_,rfl,rfl,SqT.of B.tp,rfl,sz_1,λg1 aP=>?_⟩;have z1:=zc (o:=.lst [V.str "?"]) aP;have aD:Cells.zE (pZ [63]) 0 (codes g)=zI g:=Cells.Qi (λk=>by unfold pZ x8;simp) 0 _;refine dF l g1 ⟨_,(dU (codes g) [63] rfl (z1 _ _ B.rw) (Je.rows _ g) (by rw[qK];exact R.hi) (dD R.short (by rw[zb];rfl) (λdc wc H4 b4 bx a6 s4=>?_)))⟩;rw[aD]at a6;have B4:=B.mono (z1.trans s4);refine⟨_,rfl,p,_,0,_,rfl,rfl,SqT.of B4.tp,rfl,_,rfl,by decide,λsg aT=>?_⟩;have z2:=zc (o:=.lst (("012345678":Str).cps.toList.map λc=>V.str ⟨#[c]⟩)) aT;refine dF l sg ⟨_,(dU (codes g) [48,49,50,51,52,53,54,55,56] rfl (z2 _ _ B4.rw) (Je.rows _ g) (by rw[qK];exact R.hi) (dD R.short (by rw[zb,zjZ]) (λaf wo H5 b5 b0 a7 s5=>?_)))⟩;have eo:Cells.zE (pZ [48,49,50,51,52,53,54,55,56]) 0 (codes g)=zT g:=zdO 0 _ λt ht k hk=>zj0 k (R.signsIn t ht k hk);rw[eo]at a7;have ar:=z2.trans s5;have B5:=B4.mono ar;have ax:=ar _ _ bx;have aw:=a6.mono ar;refine⟨_,rfl,p,l,g,n,rfl,B5,R,zbi (by lia),n0,λH6 s6=>?_⟩;refine⟨_,rfl,p,l,g,n,rfl,B5.mono s6,R,n0,by lia,λv H7 hv s7=>?_⟩;have ac:=s6.trans s7;have B7:=B5.mono ac;have aK:=ac _ _ ax;have ai:=aw.mono ac;have az:=ac _ _ b0;have aj:=a7.mono ac;clear aP aT b4 b5 bx a6 s4 s5 z1 z2 B B4 ar B5 ax aw s6 s7 ac b0 a7 aD eo;refine⟨_,rfl,af,rfl,⟨_,SqL.of az⟩,λz hz=>?_⟩;refine qc (K:=K) (a:=af) (xs:=wo) (λa=>a≠z) ((zT g).map λo=>if (!(clA g o).isEmpty)=true then some (zk o) else none) (fun G=>∃u0,G=[u0,some (.ref dc)]) hz (λ_ h=>h) ⟨_,rfl⟩ (by rw[ZB];exact aj.length.symm) (by rw[aj.length];exact X6 (qL R) (by decide)) (SqL.of az) ?_ ?_
  .rintro k x o G H8 hx ho s8 cf ⟨u0,rfl⟩ Y Z bS no;refine fK (λy hy xa z0 aU=>?_) (Cel.get aj hx);subst z0;have eo:=jd hy ho;have ay:=s8 _ _ aK;have aI:=ai.mono s8;refine⟨_,rfl,dc,rfl,⟨_,SqL.of ay⟩,λz2 bE=>?_⟩;refine qc (K:=K) (a:=dc) (xs:=wc) (λa=>a≠z2) ((zI g).map λc=>if Cells.near y c=true then some (zk c) else none) (fun G=>∃u1,G=[u1,some (.ref xa)]) bE (λ_ h=>h) ⟨_,rfl⟩ (by rw[ZB];exact ai.length.symm) (by rw[ai.length];exact X6 (qL R) (by decide)) (SqL.of ay) ?_ ?_
   .rintro k2 x2 o2 cC H9 bD b6 s9 _ ⟨u1,rfl⟩ Y2 Z2 ba bJ;refine fK (λc hc ca z0 ab=>?_) (Cel.get (aI.mono s9) bD);subst z0;have an:=jd hc b6;refine⟨_,rfl,_,rfl,xa,ca,y,c,rfl,s9 _ _ (s8 _ _ aU),ab,_,rfl,?_⟩;by_cases hp:Cells.near y c=true
    .rw[bw hp]at an;exact jb hp ⟨_,rfl,ba _ _ _ _ an ⟨_,rfl⟩ (zo.refl _) (yk.rdn ⟨ca,rfl,ab⟩)⟩
    .rw[bq hp]at an;exact qW (Xs.mpr hp) (bJ _ _ an ⟨_,rfl⟩ (zo.refl _))
   rintro bT H9 s9 bG aR;rw[zZ,zsh]at aR;have b3:Cel H9 bT (clA g y):=zx.cel aR;refine⟨yR,λe he=>?_⟩;have s4:=zc (o:=.lst []) he;refine dY (.list ((clA g y).map zk)) (.list []) (.lst (SqL.of (s4 _ _ bG)) (Q8 (b3.mono s4))) (.lst (SqL.of zb) .nil) (YE _ []) ⟨_,rfl,?_⟩;have ee:(if true=true then !PyData.eqv (.list ((clA g y).map zk)) (.list []) else Xa (.list ((clA g y).map zk)) (.list []))=!(clA g y).isEmpty:=congrArg (λb=>!b) (eq_nil _);rw[ee];by_cases hp:(!(clA g y).isEmpty)=true
   .rw[bw hp]at eo;exact jb hp ⟨_,rfl,bS _ _ _ _ eo ⟨_,rfl⟩ (s9.trans s4) (yk.rdn ⟨xa,rfl,s4 _ _ (s9 _ _ (s8 _ _ aU))⟩)⟩
   .rw[bq hp]at eo;exact qW (Xs.mpr hp) (no _ _ eo ⟨_,rfl⟩ (s9.trans s4))
  rintro ys H8 s8 bF aQ;rw[zZ]at aQ;have b2:Cel H8 ys (nbC g):=zx.cel aQ;have yl:ys.length=(nbC g).length:=b2.length;have B8:=B7.mono s8;refine⟨z,_,rfl,.inl (SqL.of bF),_,_,rfl,rfl,_,rfl,?_⟩;by_cases aG:30<(nbC g).length
  .refine jb (br (by lia)) ?_;rcases hv with ⟨_,rfl⟩ | ⟨h,_⟩
   .refine⟨_,rfl,.str "great",.str "great",.str _,.str _,⟨by decide+kernel,by decide+kernel,by decide+kernel⟩,?_⟩;rw[bq XS,O9 _ (by decide+kernel)];exact q _
   .exact absurd h (by lia)
  refine qW (bf (by lia)) ⟨_,rfl,rfl,_,rfl,?_⟩;by_cases h0:zav g n=0
  .refine jb (br (congrArg V.int h0)) ?_;rcases hv with ⟨h,_⟩ | ⟨_,⟨_,rfl⟩ | ⟨h,_⟩⟩
   .exact absurd h aG
   .refine⟨_,rfl,.str "laying",.str "laying",.str _,.str _,⟨by decide+kernel,by decide+kernel,by decide+kernel⟩,?_⟩;rw[bq XS,O9 _ (by decide+kernel)];exact q _
   .exact absurd h0 h
  refine qW (bf λe=>h0 (V.int.inj e)) ?_;refine GS.via λGG aH=>?_;rcases hv with ⟨h,_⟩ | ⟨_,⟨h,_⟩ | ⟨_,t,sa,fa,fc,fs,sv,us,ws,S,cl,st,rfl,Td⟩⟩
  .exact absurd h aG
  .exact absurd h h0
  refine aH ?_;clear aH GG;obtain⟨L,hL⟩:=zno n0 h0;have aX:=hL.tr;have aq:(zI g).length<=20:=by lia
  refine⟨_,rfl,_,"tuple","str",false,rfl,.tup (s8 _ _ Td.tp),(by decide+kernel),false,rfl,qW rfl ?_⟩;refine⟨yR,λO bp=>⟨yR,λU bt=>⟨yi,λao bv=>?_⟩⟩⟩;have y2:=zc (o:=.lst []) bp;have y3:=zc (o:=.lst []) bt;have y4:=zc (o:=.tup [.ref O,.ref U]) bv;have F0:jY (upd (upd (upd H8 O (.lst [])) U (.lst [])) ao (.tup [.ref O,.ref U])) ao O U [] [] [] []:=⟨zb,y4 _ _ (y3 _ _ zb),y4 _ _ zb,.nil,.nil⟩;have bR:=y2.trans (y3.trans y4);clear y2 y3 y4 bp bt bv;generalize upd (upd (upd H8 O (.lst [])) U (.lst [])) ao (.tup [.ref O,.ref U])=H9 at *
  have ak:=s8.trans bR;refine⟨_,rfl,t,_,0,_,rfl,rfl,SqT.of (ak _ _ Td.tp),rfl,sa,rfl,⟨_,SqL.of (ak _ _ Td.h)⟩,?_⟩;refine jG (K:=K) (a:=sa) (xs:=sv) (λi G H'=>∃(w7 w8 w9 m:Option V) (fa fc fs:Addr) (us ws:AF) (cl st:AD),G=[some (.ref a),some (.ref p),some (.ref dc),some (.ref af),some (.int (zav g n)),some (.ref t),some (.ref fa),w7,w8,w9,m]/\zo H9 H'/\jY H' fa fc fs us ws cl st/\Way g n (QA g) (S.take i) cl st)
   (eO (dR ao O U [] (eS [] [] [] rfl (zo.refl _) F0 ⟨.nil,.nil,λ_ h=>h,.nil,.nil,(λ_ h=>nomatch h),λ_ h=>nomatch h⟩))) (λi G H' _ ⟨_,_,_,_,_,_,_,_,_,_,_,_,s',_⟩=>SqL.of (s' _ _ (ak _ _ Td.h))) ?_ ?_
  .refine λi x G aA hx=>fu λw7 w8 w9 m I ag ah us1=>fF λam ae al z0 aa F W=>?_;subst z0;refine fq (λs0 aS=>fZ λr tl d1 d2 tv w1 w2 z0 X0=>?_) (ZJ Td.s hx);subst z0;have j:=ak.trans aa;have X:=X0.mono j;refine fP (λaC aW W' ok=>?_) (Td.ss i s0 aS);have e1:aC=ae:=QY (W'.p1.trans W.p1.symm) W'.x1 W.x1;have e2:aW=al:=QY (W'.p2.trans W.p2.symm) W'.x2 W.x2;subst e1 e2;have wl:=W.len aX aq;refine e9 r rfl (SqT.of X.tp) rfl (fh rfl (fk rfl rfl rfl ?_));refine⟨_,rfl,_,rfl,_,rfl,_,rfl,_,rfl,zij,λtt bB=>?_⟩;have y1:=zc (o:=.tup [.ref tl,.ref d1,.ref d2]) bB;have X1:=X.mono y1;refine eV p l I ag ah tt tl d1 (eV d2 g n tv us1 am w1 w2 (dR (QA g) s0.1 aC aW (dW s0.2.1 s0.2.2 L rfl (B7.mono (j.trans y1)) R aq (dJ (F.mono y1) ⟨λc hc=>Zt R (W.s1 c hc),λc hc=>Zt R (W.s2 c hc),by lia,by lia⟩ ⟨zb,X1.h,X1.t,X1.h1,X1.h2,X1.e1,X1.e2,trivial,trivial,trivial⟩ ok (dD zhu (W.tr L aX) (λa5 J=>?_))))));refine dD rfl rfl ⟨_,rfl,qW rfl ?_⟩;have au:=y1.trans J;have F1:=F.mono au;have X2:=X.mono au;have cc:=j.trans au;have aV:=aa.trans au;have m1:s0.2.1.length<=20:=zax (qg ok.x1) (λc hc=>(ok.g1 c hc).1) aq;have m2:s0.2.2.length<=20:=zax (qg ok.x2) (λc hc=>(ok.g2 c hc).1) aq;have a1:=F1.c1.length;have a2:=F1.c2.length;have a3:=X2.e1.length;have a4:=X2.e2.length;have cg:(20:Nat)<=XA:=by decide
   refine⟨_,rfl,I,_,0,_,rfl,rfl,SqT.of F1.tp,rfl,_,rfl,ag,d1,_,_,rfl,rfl,F1.h1,X2.h1,X6 (show us1.length+w1.length<=100 by lia) (by decide),λx hx=>?_⟩;have y2:=zc (o:=.lst (us1++w1)) hx;refine dM x (dJ rfl (SqL.of zb) (Cel.tup2 ((F1.c1.append X2.e1).mono y2)) (by rw[XY];lia) (λaE u1 z1 aN b9 bM up1=>?_));refine fq (λq1 z0 b7=>?_) (YF bM);subst z0;have y3:=zc (o:=.lst u1) aN;have av:=y2.trans y3;refine⟨_,rfl,I,_,1,_,rfl,rfl,SqT.of (av _ _ F1.tp),rfl,_,rfl,ah,d2,_,_,rfl,rfl,av _ _ F1.h2,av _ _ X2.h2,X6 (show am.length+w2.length<=100 by lia) (by decide),λx' bC=>?_⟩;have y4:=zc (o:=.lst (am++w2)) bC;have aY:=av.trans y4;refine dM x' (dJ rfl (SqL.of zb) (Cel.tup2 ((F1.c2.append X2.e2).mono aY)) (by rw[XY];lia) (λaF u2 z2 aO bA bN bQ=>?_));refine fq (λq2 z0 b8=>?_) (YF bN);subst z0;have y5:=zc (o:=.lst u2) aO;refine⟨yi,λb1 aM=>?_⟩;have y6:=zc (o:=.tup [.ref aE,.ref aF]) aM;have a8:=y5.trans y6;have aZ:=y4.trans a8;refine eO (dR b1 aE aF u1 (eS u2 q1 q2 rfl (aV.trans (aY.trans a8)) ⟨zb,aZ _ _ zb,y6 _ _ zb,Cel.mono (y3.trans aZ) (qJ b9),Cel.mono a8 (qJ bA)⟩ ?_));rw[take_snoc aS];exact W.next ok b7 b8 up1 bQ
  .refine λG aA=>fu λw7 w8 w9 m I ag ah us1=>fF λam ae al z0 aa F W=>?_;subst z0;rw[Paired.length Td.s,XJ]at W;have e1:ae=cl:=QY (W.p1.trans Td.w.p1.symm) W.x1 Td.w.x1;have e2:al=st:=QY (W.p2.trans Td.w.p2.symm) W.x2 Td.w.x2;subst e1 e2;have j:=ak.trans aa;refine⟨_,rfl,_,rfl,t,_,1,_,rfl,rfl,SqT.of (j _ _ Td.tp),rfl,_,_,F.rdv,(Td.f.mono j).rdv,zfc ae al,_,rfl,qW ?_ ?_⟩
   .rw[bw rfl,O9 _ (zfc ae al).l1];rfl
   refine⟨_,rfl,I,_,0,_,rfl,rfl,SqT.of F.tp,rfl,ag,rfl,⟨_,SqL.of F.h1⟩,?_⟩;refine jG (K:=K) (a:=ag) (xs:=us1) (λi G H'=>∃(m:Option V),G=[some (.ref a),some (.ref p),some (.ref dc),some (.ref af),some (.int (zav g n)),some (.ref t),some (.ref I),w7,w8,w9,m]/\zo aA H') ⟨_,rfl,zo.refl _⟩ (λi G H' _ ⟨_,_,s'⟩=>SqL.of (s' _ _ F.h1)) ?_ ?_
   .rintro i x G a5 hx ⟨m,rfl,J⟩;refine fK (λc hc ca z0 ab=>?_) (Cel.get F.c1 hx);subst z0;have cm:=X8 hc;refine⟨_,rfl,_,rfl,p,l,ca,g,n,c,rfl,B7.mono (j.trans J),R,zbi (by lia),n0,J _ _ ab,W.s1 c cm,λaB u=>?_⟩;rw[W.zero n0 cm];exact⟨rfl,_,rfl,qW rfl ⟨_,rfl,J.trans u⟩⟩
   rintro G a5 ⟨m,rfl,J⟩;have F1:=F.mono J;refine⟨_,rfl,I,_,1,_,rfl,rfl,SqT.of F1.tp,rfl,ah,rfl,⟨_,SqL.of F1.h2⟩,?_⟩;refine jG (K:=K) (a:=ah) (xs:=am) (λi G H'=>∃(m:Option V),G=[some (.ref a),some (.ref p),some (.ref dc),some (.ref af),some (.int (zav g n)),some (.ref t),some (.ref I),w7,w8,w9,m]/\zo a5 H') ⟨_,rfl,zo.refl _⟩ (λi G H' _ ⟨_,_,s'⟩=>SqL.of (s' _ _ F1.h2)) ?_ ?_
   .rintro i x G aB hx ⟨m,rfl,u⟩;refine fK (λc hc ca z0 ab=>?_) (Cel.get F1.c2 hx);subst z0;have cm:=X8 hc;refine⟨_,rfl,_,rfl,p,l,ca,g,n,c,rfl,B7.mono (j.trans (J.trans u)),R,zbi (by lia),n0,u _ _ ab,W.s2 c cm,λcd bP=>?_⟩;rw[W.all n0 cm];exact⟨_,rfl,rfl,_,rfl,qW (by simp) ⟨_,rfl,u.trans bP⟩⟩
   rintro G aB ⟨m,rfl,u⟩;exact q _
def all_mk {l:PB}{w:W3}{K:XX}{h:Heap}{mg:Str->Option X9}{fa:Addr}{m:Tok}{n:Tok}{o:Tok}{p:Tok}{q:Tok}{jaa:Addr}{jab:Addr}(X:K.In h)(G:h.Ns XG mg)(b:mg "law"=some (.ref fa))
  (A:HasDef K "closed" ZT)
  (Jf:HasDef K "open_cells" qx)
  (B:HasDef K "around" jK)
  (J6:HasDef K "number_at" jt)
  (Z8:HasDef K "cells_of" qv)
  (QC:HasDef K "sign_at" qw)
  (M:HasDef K "parts" zcH)
  (E:HasDef K "joined" Qm)
  (ak:HasDef K "far" zjy)
  (Jg:HasDef K "numbers_of" j6)
  (Jh:HasDef K "bare_wrong" Jr)
  (yr:HasDef K "closed_around" qB)
  (yJ:HasDef K "part_layings" jW)
  (Z9:HasDef K "needs_at" xh)
  (QD:HasDef K "may_fit" JG)
  (xA:HasDef K "part_counts" xM)
  (QE:HasDef K "counted" JH)
  (Ji:HasDef K "counted_at" Js)
  (QF:HasDef K "choices" QT)
  (H:HasDef K "poured" za7)
  (xB:HasDef K "near_counts" xN)
  (N:HasDef K "count" zcI)
  (Yb:HasDef K "count_at" Yx)
  (jZ:HasDef K "counts_by_cell" j7)
  (Jj:HasDef K "all_poured" Jt)
  (O:HasDef K "dealt" zcJ)
  (QG:HasDef K "follows" QU)
  (Yc:HasDef K "asked_by" Yy)
  (Yd:HasDef K "known_of" Yz)
  (xC:HasDef K "still_asked" xO)
  (I:HasDef K "gained" za8)
  (QH:HasDef K "settled" ZU)
  (Q:HasDef K "holds" zcK)
  (J:HasDef K "picked" za9)
  (Jk:HasDef K "are_things" Ju)
  (J7:HasDef K "are_cells" Zk)
  (QI:HasDef K "is_cell" QV)
  (Ye:HasDef K "thoughts" YA)
  (J8:HasDef K "all_steps" Zl)
  (xD:HasDef K "place_lists" xP)
  (Jl:HasDef K "first_step" Jv)
  (xE:HasDef K "_law_cell_at" yj)
  (J9:HasDef K "_law_mixed" xZ)
  (Yg:HasDef K "_law_mark" JY)
  (Za:HasDef K "_law_drawn" Zm)
  (Zb:HasDef K "_law_cells" yF)
  (Yh:HasDef K "_law_near" JZ)
  (Zc:HasDef K "_law_board" Zn)
  (Yi:HasDef K "_law_bent" YB)
  (xF:HasDef K "_law_outcome" xQ)
  (al:HasDef K "law" zgW)
  (am:XC K XG "abs"=some none)
  (ao:XC K XG "all"=some none)
  (aq:XC K XG "any"=some none)
  (aa:XC K XG "bool"=some none)
  (ab:XC K XG "dict"=some none)
  (Zd:XC K XG "enumerate"=some none)
  (ar:XC K XG "int"=some none)
  (Jm:XC K XG "isinstance"=some none)
  (au:XC K XG "len"=some none)
  (ac:XC K XG "list"=some none)
  (av:XC K XG "max"=some none)
  (ae:XC K XG "min"=some none)
  (U:XC K XG "range"=some none)
  (af:XC K XG "set"=some none)
  (L:XC K XG "sorted"=some none)
  (ag:XC K XG "str"=some none)
  (ah:XC K XG "sum"=some none)
  (Y:XC K XG "tuple"=some none)
  (ai:XC K XG "zip"=some none)
  (aj:XC K XG "ALL"=some (some (.str "all" m)))
  (xG:XC K XG "CLOSED_SIGN"=some (some (.str "?" n)))
  (yK:XC K XG "MOST_OF_PART"=some (some (.int 14 o)))
  (xH:XC K XG "MOST_THINGS"=some (some (.int 30 p)))
  (yL:XC K XG "NO_CELL_SIGN"=some (some (.str "#" q)))
  (i:XC K XG "NoLaying"=some (some (.ref jaa)))
  (r:Ub K jaa zf8 "ValueError.__new__"=true)
  (j:XC K XG "TooGreat"=some (some (.ref jab)))
  (u:Ub K jab zf8 "ValueError.__new__"=true)
  (z:Wy K jaa (.ref jaa)=some true)
  (y:Wy K jaa (.ref jab)=some false)
  (x:Wy K jab (.ref jab)=some true) :
  ∃fd:XD,(∀(s:X7) (v:X9),On s fd ⟨[v],[]⟩ [("_law_script",v)])/\∀base:Heap,K.In base->base.Ns XG mg->zU l.prog w K mg base CX0 10 fa fd ["_law_script"] (zj4 K):=by
 revert al;refine fu λf oc od an sl kV dc pm=>fm λcd ct a l0 c k=>?_;have e:=b.symm.trans (VE X G a);cases e;have T:Txt mg:=⟨WW X G am,WW X G ao,WW X G aq,WW X G aa,WW X G ab,WW X G Zd,WW X G ar,WW X G Jm,WW X G au,WW X G ac,WW X G av,WW X G ae,WW X G U,WW X G af,WW X G L,WW X G ag,WW X G ah,WW X G Y,WW X G ai,⟨_,VE X G aj⟩,⟨_,VE X G xG⟩,⟨_,VE X G yK⟩,⟨_,VE X G xH⟩,⟨_,VE X G yL⟩⟩;have Z:Prog K mg:=⟨A.at X G,Jf.at X G,B.at X G,J6.at X G,Z8.at X G,QC.at X G,M.at X G,E.at X G,ak.at X G,Jg.at X G,Jh.at X G,yr.at X G,yJ.at X G,Z9.at X G,QD.at X G,xA.at X G,QE.at X G,Ji.at X G,QF.at X G,H.at X G,xB.at X G,N.at X G,Yb.at X G,jZ.at X G,Jj.at X G,O.at X G,QG.at X G,Yc.at X G,Yd.at X G,xC.at X G,I.at X G,QH.at X G,Q.at X G,J.at X G,Jk.at X G,J7.at X G,QI.at X G,Ye.at X G,J8.at X G,xD.at X G,Jl.at X G,xE.at X G,J9.at X G,Yg.at X G,Za.at X G,Zb.at X G,Yh.at X G,Zc.at X G,Yi.at X G,xF.at X G⟩;have F:=zlI (st:=zgW) l0 c k;have D:zm K mg "law" zgW ["_law_script"] _ _:=⟨F,VE X G a,F.binds (ps:=["_law_script"]) (λ_ _ _ _ _ _=>us1 λ_=>rfl)⟩;have d:Qc K mg "NoLaying" jaa:=⟨VE X G i,r⟩;have g:Qc K mg "TooGreat" jab:=⟨VE X G j,u⟩;have FN:Wy K jaa (.ref jaa)=some true:=z;have FM:Wy K jaa (.ref jab)=some false:=y;have FG:Wy K jab (.ref jab)=some true:=x;exact⟨_,λs v=>.of_eq rfl,λbase _ _=>zrb T d g FN FM FG Z D⟩
def walk {l:PB}{q:Xm}{loose:AE}{XP:(Str->Option X9)->Heap->Prop}{YP:W3->Heap->Prop}{d:DefRec}{K:Od->XX}(j:l.most=some 63)(b:d.params.defaults=[])
  (g:∀(w:W3) (h:Heap),YP w h->(K w.params).In h)
  (F:∀(w:W3) (mg:Str->Option X9) (c:Addr) (h:Heap),(K w.params).In h->h.Ns XG mg->mg d.name=some (.ref c) ->
   ∃fd:XD,(∀(s:X7) (u:X9),On s fd ⟨[u],[]⟩ [("_law_script",u)])/\∀base:Heap,(K w.params).In base->base.Ns XG mg->zU l.prog w (K w.params) mg base CX0 10 c fd ["_law_script"] (zj4 (K w.params))) :
  OE q loose XP YP l.row.toRowW d [] (λf vs=>PySem.call f vs) :=
 L2.zjb (n:=63) (k:=10) (x:="_law_script") (CX:=λ_=>CX0) (sp:=λw=>zj4 (K w.params)) j (by decide) b ⟨rfl,by decide,by decide⟩ g F (λ_ _ a m i _ e=>⟨a,m,rfl,e,i,λ_=>rfl⟩) λ_ _ _ _ _ z=>z
end K55
open PySem PySem.W PyProof.Rows
set_option maxRecDepth 100000 in
set_option maxHeartbeats 0 in
theorem PySem.Challenge.cw_stonelay_k55_what_is_found_is_sure_holds : PySem.Challenge.rw_stonelay_k55_what_is_found_is_sure.Holds := by
 refine J4.early λ{q XP YP d K} hdf hY hn F=>?_;refine K55.walk (l:=PySem.Challenge.rw_stonelay_k55_what_is_found_is_sure) rfl hdf hY λw mg fa h KX G hmg=>?_;rw[hn]at hmg;refine L2.GS.via λGG hGG=>?_;obtain⟨zaA,Jf,zaB,J6,Z8,QC,zcs,zaC,ziS,Jg,Jh,yr,yJ,Z9,QD,xA,QE,Ji,QF,zaD,xB,zct,Yb,jZ,Jj,zcu,QG,Yc,Yd,xC,zaE,QH,zcv,zaF,Jk,J7,QI,Ye,J8,xD,Jl,xE,J9,Yg,Za,Zb,Yh,Zc,Yi,xF,ziT,ziU,ziV,ziW,zfh,zfi,Zd,ziX,Jm,ziY,zfj,ziZ,zi0,zcw,zi1,zaG,zi2,zi3,zcx,zi4,⟨_,zi5⟩,⟨_,xG⟩,⟨_,yK⟩,⟨_,xH⟩,⟨_,yL⟩,⟨_,_,jae,jaf,jal,jam,jap,jao,jan⟩⟩:=F w;refine hGG ?_;exact K55.all_mk KX G hmg zaA Jf zaB J6 Z8 QC zcs zaC ziS Jg Jh yr yJ Z9 QD xA QE Ji QF zaD xB zct Yb jZ Jj zcu QG Yc Yd xC zaE QH zcv zaF Jk J7 QI Ye J8 xD Jl xE J9 Yg Za Zb Yh Zc Yi xF ziT ziU ziV ziW zfh zfi Zd ziX Jm ziY zfj ziZ zi0 zcw zi1 zaG zi2 zi3 zcx zi4 zi5 xG yK xH yL jae jal jaf jam jap jao jan