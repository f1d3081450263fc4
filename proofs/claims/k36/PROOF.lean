import PyProof.Rows.All
import KE.IntBitsLaws
import KE.KDictOf
import KE.KDictSum
import KE.KIntText
import KE.KSortTup
import KE.LcSums
import KE.RegKIsAll
import KE.KNestM
import KE.KPairComp
import Lean
import PySem.Challenge.RW_stonelay_k36_whole_one_cell_opened
open PySem renaming wpAny_bind->ZB,Value->X9,Shared->X8,wpAny_pure->X4,mainGlobals->XM,sizeLine->Xz,wpAny->Xy,model->Xo,Program->Xd,FuncData->Xc,wpAny_holding->W1,World->WV,Paired->WU,Around->WT,starEach->WR,boot_len->WL,mem_of_lookup->WJ,wpAny_mono->WE,SetTable->Wr,codeAny_builtin->Wd,PyData->V3,wpAny_loadPart'->V0,wpAny_newObj_type->VX,compareOp->VN,wpAny_truthy_bool->VJ,foldedSetIterable->VI,wpAny_loadPart_at->VH,tupleKind->VE,plainId_quiet->VC,relabel->Vs,Scope->Va,cLine->U3,codeAny_call_builtin->U0,codeAny->UX,Builtin->UW,Spec->UT,wpAny_rule->UQ,codeAny_mono->UI,wpAny_standAt->UH,wpAny_call_entry->UE,GenState->UC,wpAny_pyIter_list->Ur,sysModules->Uj,hashInt->Ud,binaryOp->Ua,compEnvC->T9,sizeLine_eq->T3,rawInt->T2,bootBuiltins->T0,wpAny_Call_Name_kw->TX,comprehension->TN,builtinLookup_eq_fast->TK,wpAny_setState_of->TD,backTo->Tx,intKind->Tq,NameKind->Ta,wpAny_attempt->S9,wpAny_passesOwn->S1,wpAny_updateSeq->SX,pyNext->SV,assignEach->SS,call_meets->SR,sliceBounds->SJ,wpAny_pyIter_enum->Sr,ofAClassStatement->So,Result->R7,checkBuiltinCall->R4,wpAny_comp_letGo->R3,storedH->R1,wpAny_of_eq->RT,wpAny_newFunctionEnv->RP,wpAny_execs_nil->RM,letOwnedTupleGo->RL,typeLookup_type->RJ,wpAny_setEntries_of->RE,cellsFrom->Ry,closureFor->Rx,newFunctionEnv->Ru,firstArgMember->Rt,wpAny_tryCatch->Rs,wpAny_seqItems->Rq,wpAny_setField->Rp,tupleKind_room_in1->Rj,wpAny_assign_Name->P6,behindInMarks->PV,setSearchFrom->PP,wpAny_newList->PN,Comprehension->PM,wpAny_comprehension_free->PJ,swapsWith->Py,pickOrder->Px,wpAny_execs_cons->Pw,wpAny_forIn_list->Pr,wpAny_askSetting->Pp,wpAny_callSpecial?_slot->Pk,wpAny_call->Pg,seqIndex_neg->Pf,wpAny_typeOf->Pe,setAddHashed->Pd,wpAny_getItem_list_neg->Pa,codeAny_compStart_list->O8,Model->OX,wpAny_specialOf->OR,codeAny_of_tree->OQ,exec_Assign_Name_used->OM,weight_type_call_type->OI,again->OF,assign->OE,seqIndex_of->OD,subscripted->OC,hashByValue->OB,wpAny_letGo->OA,intText?->Ox,isSubtype_type->Ow,setAddHashedIn->Ov,wpAny_runValue->Ou,lookup_relabel_local->Oi,holding->Ob,getItem->Oa,Keyword->N9,callerA->N8,valueAt->N7,noteFrame->N5,attributeBase->NW,pyIter->NT,argsOk->NS,builtinsNs->NR,typeLookup->NQ,BindsTo->NM,OsState->NL,ReadsAll->NK,updateSeq->Nz,atKey->Ny,keywordEach->Nx,wpAny_throw->Nw,Drawn->Nt,bindL->Nr,bindC->Nq,Moved->Np,getAttr?->No,entryFor->Nn
open List renaming length_map->Y1,getElem?_eq_getElem->X5,mem_cons_self->X2,mem_of_getElem?->XZ,mem_filter->XX,getElem?_eq_some_iff->XW,mem_cons_of_mem->XV,length_append->XS,mem_append->XR,mem_cons->XQ,mem_map->XO,getD_eq_getElem?_getD->XH,length_cons->XE,mem_append_right->XC,take_length->XB,length_take->XA,size_toArray->Xs,mem_range->Xq,range->Xp,getElem?_map->Xn,map_congr_left->Xm,map_append->Xj,mem_append_left->Xi,take_add_one->Xh,map_cons->Xf,length_filter_le->Xa,filter_append->W8,append_nil->W6,length_range->W4,append_assoc->W0,Nodup->WZ,map_map->WY,replicate->WP,flatten_cons->WH,take_append_drop->WF,take_of_length_le->WD,mem_singleton->WB,drop_eq_getElem_cons->Wz,mem_flatten->Wy,all_eq_true->Wx,countP_cons->Ws,mem_of_mem_take->Wq,getElem?_eq_none_iff->Wo,filter_cons->Wn,any_eq_true->Wm,nodup_cons->Wl,filter_sublist->Wj,flatten_append->Wi,pairwise_map->Wf,not_mem_nil->V6,sublist_flatten_of_mem->V4,getElem?_append_left->VV,exists_mem_of_ne_nil->VU,filter_eq_nil_iff->VS,foldl_cons->VO,nodup_append->VG,getElem?_append_right->VD,isEmpty_eq_false_iff->VA,replicate_succ->Vz,countP_eq_zero->Vy,length_drop->Vp,filter_congr->Vi,countP_congr->Vh,length_pos_of_mem->Vg,perm_ext_iff_of_nodup->Vf,pairwise_iff_getElem->Vc,lookup_cons->U6,mem_filterMap->U5,length_mapIdx->U4,pairwise_append->UZ,length_eq_zero_iff->UU,length_nil->UP,range_succ->UN,filterMap_cons->UL,getElem?_range->UK,ne_nil_of_mem->Uy,filter_filter->Ux,take_sublist->Uq,mem_of_mem_drop->Um,map_take->Ui,sublist_append_left->Ue,take_succ_cons->Ub,nodup_nil->T7,getElem_mem->T6,mem_flatMap->T4,any_map->TY,pairwise_cons->TW,map->TU,find?_cons->TR,filter_map->TQ,perm_append_comm->TJ,ext_getElem?->TB,filter->Tv,getElem?_zip_eq_some->Tg,getElem_of_mem->Td,reverse_append->Tc,length_take_le->Tb,map_drop->S7,length_erase_of_mem->S4,countP_map->SW,getElem?_drop->SM,foldl_append->Sq,getElem?_set_self->Sl,drop_eq_nil_of_le->Sj,getElem?_eq_none->Sd,any_cons->RZ,lookup->RU,map_id->RS,getElem?_set_ne->RR,mem_erase_of_ne->RN,nil_append->RK,extract_eq_take_drop->QP,sublist_append_right->Qb,mem_or_eq_of_mem_set->P9,countP->P8,any_eq_false->P0,drop_sublist->PY,reverse_perm->PX,all_cons->PU,getElem?_take_of_lt->PK,cons_append->Pu,perm_middle->Pq,nil_sublist->Po,getElem?_cons_succ->Pl,of_mem_zip->OV,length_set->OU,length_singleton->ON,mem_iff_getElem?->OL,pairwise_reverse->OH,drop_drop->Ot,take_zero->Os,reverse_reverse->Oj,getElem?_mapIdx->Og,getElem?_of_mem->Of,countP_pos_iff->N3,toList_toArray->N0,length_pos_iff->NZ,sum_cons->NV,map_nil->NJ,map_set->NC
open Array renaming length_toList->X7,getElem?_toList->Xr,toList_append->WQ,getElem?_eq_none->WC,getElem?_eq_some_iff->VY,size_map->VQ,toList_map->VM,getElem?_eq_getElem->Vb,toList_reverse->UY,getElem?_setIfInBounds->UM,size_reverse->Uz,perm_iff_toList_perm->Uw,getElem_toList->Ul,size_extract->TV,mem_toList_iff->Tr,toList_inj->Th,size_setIfInBounds->S5,toList_push->Sm,getElem?_extract->Si,append_assoc->Rn,toList_setIfInBounds->Rb,getElem?_replicate->PF,toList_filterMap->O5,getElem?_reverse->O2,toList_extract->Ol,toList_modify->N1
open PySem.Heap renaming get?_push_of_some->X6,lt_size->XJ,get?_push_size->Xe,get?_update_self->We,get?_update_other->Wa,SameBut->V5,size_push->Vu,get?_none_of_le->Uo,get?_update_ne->RD,HeldW->NN,FlyingW->NI
open Nat renaming le_trans->X0,le_refl->XU,lt_of_le_of_lt->Xx,lt_of_lt_of_le->Xu,ne_of_lt->Xk,zero_le->W7,lt_succ_of_lt->Wv,le_succ->V9,lt_irrefl->V8,zero_add->VL,succ_ne_self->Vo,le_of_lt->UJ,le_add_right->UF,ne_of_gt->Us,pow_le_pow_right->Uk,pow_succ->TZ,le_succ_of_le->TH,mul_le_mul->Ts,succ_mul->Tp,add_comm->To,mul_comm->Tn,lt_trans->Tl,succ_pos->Tk,lt_succ_self->Ti,not_lt_zero->SY,mod_lt->SQ,lt_of_lt_of_eq->SK,add_sub_cancel_left->SG,sub_self->Sz,lt_or_ge->Sy,add_zero->Sx,not_lt->Rv,add_le_add->Ro,add_sub_cancel->Ri,lt_trichotomy->PZ,one_le_iff_ne_zero->O0,min_eq_left->OO,add_le_add_right->On,pow_lt_pow_right->Oh,mul_le_mul_right->Oe,add_assoc->NU,mul_succ->NB
open PySem.W renaming Frag->XY,nsIn->XI,kitOne->Xb,mg_none_of->WO,excIn->WA,mg_of->V7,kia_one->VP,findIn->Vv,mroIn->Vl,hashAt->Vk,fnOf->Ut,keepIn->Tu,hideAll_get->Te,isClsIn->S2,codeIn->Sv,cellsFrom_some->Sk,looks_findIn->RO,looks_mroIn->RF,methodObj->P7,instObj->OW,OpenLaw->OT,lookIn->Oz,WalkO->NY
open Bool renaming false_ne_true->XT,eq_false_iff->WX,and_eq_true->WG,eq_iff_iff->Ww,not_eq_true'->Wu,false_eq_true->Wc,and_eq_true_iff->VW,and_true->Uh,false_and->Tt,true_and->S6,and_assoc->Ss,and_comm->PL,and_false->Oy
open PySem.SetTable renaming bits->XG,insertAt->Xw,below->Xv,turns->W5,runEnd->Vq,leap->U2,grown->UB,sizeAbove->SL,fill->RY,Probe->Rr,advance->Ps
open PyProof.Rows renaming wpS_bind->XF,wpS_pure->Xl,arrOf->Xg,Keyed->W9,boot_isinstance->WW,SortSt->WM,pendingOf->WK,wpS_forRange->VT,callWith_type1->VF,boot_max->U9,boot_min->U8,pairsOf_toList->U1,seqObj->UD,boot_sorted->Uf,wpS_mono->T8,SortKind->Tw,mem_zip_self->Tj,wpS_modify->SO,AllBare->SC,failedOf->SA,boot_int->Sc,boot_any->Sb,boot_str->Sa,wpS_get->R0,reverseSlice'->RX,IntsAre->RC,listItems_at->Qr,wpS_lift->Pz,envOfC->Ph,subscriptTail_builtinR->Pb,boot_list->OZ,boot_dict->OY,entry_list_sort->OP,boot_set->OG,slot_list_sort->Oq,args_list_sort->Op,pairsOf->N6,getElem?_mirror_all->N2,subscriptTail->NX,plain_sorted->NH,entry_sorted->NG,args_sorted1->NF,kind_sorted->Nv,IsTup->Nu
open Or renaming inl->XD,inr->TL
open PySem.PassesOwn renaming never->W3
open PySem.F renaming plainAttrs_list->W2,slot_list_append->Wh,type_list_append->Wg,plain_max_loop->T5,typeOf_object_class->Tz,slot_list_count->SF,type_list_count->SD,plainAttrs_str->Sh,slot_dict_get->Sf,slot_str_join->R9,type_str_join->R8,excBase_ValueError->Rc,sub_list_frozenset->Ra,slot_list_extend->PC,type_list_extend->PB,args_dict_get_3->Pn,plain_list_iadd->Pj,entry_type_call->Pi,entry_dict_get->O7,typeCall_set_1->O4,entry_set_init->O3,slot_set_iter->OK,plain_set_new->OJ,sub_list_set->Om,args_list_count_2->N4
open PySem.PyData renaming eqv->WS,str->VZ,depthAll->VB,canLayAll0->Vw,canLay0->UA,bool->SH,int->R5
open PySem.Value renaming ref->WN,int->Wt,none->US,bool->SU,type->R6,isInt->RW,builtin->PQ,str->NA
open Int renaming toNat_natCast->WI,le_of_lt->V2,toNat_of_nonneg->V1,le_trans->Vr,le_refl->Ve,natCast_add->Uv,natCast_mul->SZ,emod_lt_of_pos->SN,add_zero->Sw,neg_le_neg->Su,emod_nonneg->RI,zero_add->RB,natAbs_natCast->Rh,fmod_eq_emod_of_nonneg->Rf,fdiv_eq_ediv_of_nonneg->Re,not_lt->NO,mul_zero->NE,mul_comm->ND
open PySem.Around renaming under_plainId->Wp
open PyProof.Rows.F renaming plain_set_update_loop->Wb,entry_set_update_loop->Vx
open List.Sublist renaming length_le->VR
open Option renaming isSome_iff_exists->Vt,getD_some->Vn,map_some->UO,map->NP
open Ne renaming symm->Vm
open PySem.SetTable.below renaming go->Vj
open ForInStep renaming yield->Vd
open PySem.Obj renaming mapSeq->U7,mapFields->TM
open PySem.Builtin.Str renaming occurrences->UV
open False renaming elim->UR
open PySem.NameKind renaming cell->UG
open PySem.Str renaming join->Uu,ofString->Pc
open PySem.Builtin.List renaming listTooLong->Ug,listExtendWith->RA,listSameRef->PD
open PySem.Heap.SameBut renaming update->Uc
open True renaming intro->T1
open PySem.SetTable.probe renaming go->TF
open PySem.Calls renaming call_function_entry->Tf,evalArgs_plain->RQ,spliced_cons->Rm,Name_function_global->Rg,callWith_builtin->O9
open PySem.Shared renaming TypeIs->S8
open List.Perm renaming append_left->Se
open PySem.Builtin.Frozenset renaming updateFrom->RG
open PySem.Builtin.Builtins renaming bindParams->Rz
open PySem.Code renaming quiet_builtin->Rl
open PySem.SeqAt.EqAt renaming bool_bool->QR
open Classical renaming byContradiction->QQ
open PySem.SeqAt renaming list_countAt->PH,eqv_refl->Oo
open PySem.Builtin.Dict renaming updateFrom->Pm,pairItems->O6
open Sum renaming inl->Od,inr->Oc
set_option Elab.async false
set_option linter.all false
set_option maxRecDepth 100000
theorem bq {c:Prop}{h:Decidable c}(n:¬c){α:Sort _}{t e:α}:ite c t e=e:=if_neg n
theorem bw {c:Prop}{h:Decidable c}(n:c){α:Sort _}{t e:α}:ite c t e=t:=if_pos n
theorem br {p:Prop}[Decidable p](h:p):decide p=true:=decide_eq_true h
theorem bu {p:Prop}[Decidable p]:(decide p=true)=p:=decide_eq_true_eq
theorem bf {p:Prop}[Decidable p](h:¬p):decide p=false:=decide_eq_false h
theorem bh {p:Prop}[Decidable p](h:decide p=true):p:=of_decide_eq_true h
namespace zbJ
open PySem PySem.W
noncomputable def sel:List Nat->Nat->List Stmt->List Stmt
 | _,_,[]=>[]
 | ns,i,x::xs=>match ns.contains i with
  | true=>sel ns (i+1) xs
  | false=>x::sel ns (i+1) xs
theorem zh2 {r:OpenRow}{q:Xd}{H:Hook}{d:DefRec}{kwd:List (PySem.Str×Expr)}{N:Nat}(left:LeftO r.prog q [] (λs=>xlAt q [] s&&recOk (RowW.records r.toRowW) s) (Hook.obs H) (Hook.val H) N)
  (hdef:defOf q r.name=some (d,kwd)) (hp:r.prog.theDef r.name=some (d.params,d.body,d.scope)) (hk:kwWritten? d.params.kwonlyargs d.params.kw_defaults=some kwd) (hwr:(!r.writes || r.records.isEmpty)=true)
  (k1:r.wellSaid=true) (ok:(chainsOk q&&opensWell r.prog&&(frees r.toRowW&&r.within.isEmpty))=true) (hb:r.prog.bare) (hw:r.toRowW.promised)
  (call:WalkO q [] (XL q []) (Hook.says H) r.toRowW d kwd λf vs=>PySem.call f vs):r.Holds :=
 holds_open (q:=q) (loose:=[]) (Xt:=λs=>xlAt q [] s&&recOk (RowW.records r.toRowW) s) (XP:=XL q []) (Yf:=Hook.obs H) (Ya:=Hook.val H) (YP:=Hook.says H) (N:=N) left (Hook.of H) (Hook.keeps H) (λs e=>xl_of s (VW.mp e).1) XL.keeps hdef hp hk
  (λs e=>recFacts_of (VW.mp e).2) hwr k1 ok hb hw call
noncomputable def top (i:Nat):Stmt:=PySem.Challenge.pw_stonelay_k36_whole_one_cell_opened.main.body.getD i (.Pass ⟨0,0,0,0⟩)
noncomputable def JH (s:Stmt):Arguments:=match s with
 | .FunctionDef _ a _ _ _ _ _ _ _ _=>a
 | _=>{ posonlyargs:=[],args:=[],vararg:=none,kwonlyargs:=[],kw_defaults:=[],kwarg:=none,defaults:=[] }
noncomputable def yP (s:Stmt):List Stmt:=match s with
 | .FunctionDef _ _ b _ _ _ _ _ _ _=>b
 | _=>[]
noncomputable def zj (s:Stmt):Va:=match s with
 | .FunctionDef _ _ _ _ _ _ sc _ _ _=>sc
 | _=>{ kind:=.function,names:=[],isGenerator:=false,isCoroutine:=false }
def HD (K:XY)(x:Str)(i:Nat):Prop:=∃(f:Addr) (oc:X9) (od an:Option Addr) (sl:Array (Option X9)) (kV dc pm cd ct:X9),XI K XM x=some (some (.ref f))/\K.lookup f=some ⟨oc,od,.func (Ut x x (JH (top i)) (yP (top i)) (zj (top i)) .none kV dc pm an cd ct),sl⟩/\Sv K cd x=true/\Tu K (.ref f)=true
def xP:List X9:=[.type "ValueError",.type "Exception",.type "BaseException",.type "object"]
structure Facts (K:XY):Prop where
 Qu:HD K "closed" 14
 xQ:HD K "open_cells" 15
 Qv:HD K "around" 16
 JI:HD K "number_at" 17
 Qw:HD K "opened" 18
 ZD:HD K "cells_of" 19
 YA:HD K "sign_at" 20
 zbq:HD K "parts" 22
 Qx:HD K "joined" 23
 zhc:HD K "far" 24
 xR:HD K "numbers_of" 25
 xT:HD K "bare_wrong" 26
 j4:HD K "closed_around" 27
 yj:HD K "part_layings" 30
 ZE:HD K "needs_at" 31
 YB:HD K "may_fit" 32
 yQ:HD K "part_counts" 33
 YC:HD K "counted" 34
 xU:HD K "counted_at" 35
 YD:HD K "choices" 37
 Qy:HD K "poured" 38
 yR:HD K "near_counts" 40
 zbr:HD K "count" 41
 ZF:HD K "count_at" 42
 jL:HD K "counts_by_cell" 43
 xV:HD K "all_poured" 44
 zbs:HD K "dealt" 45
 yS:HD K "_law_cell_at" 47
 JJ:HD K "_law_whole" 48
 ZG:HD K "_law_near" 49
 JK:HD K "_law_texts" 50
 YE:HD K "_law_dug" 51
 JL:HD K "_law_great" 52
 yk:HD K "_law_greatest" 53
 yT:HD K "_law_outcome" 54
 xW:HD K "_law_closed" 55
 yU:HD K "_law_counted" 56
 zhd:HD K "law" 57
 xX:XI K XM "ValueError"=some none
 zhe:XI K XM "any"=some none
 zd3:XI K XM "bool"=some none
 zd4:XI K XM "dict"=some none
 Qz:XI K XM "divmod"=some none
 JM:XI K XM "enumerate"=some none
 zhf:XI K XM "int"=some none
 xY:XI K XM "isinstance"=some none
 zhg:XI K XM "len"=some none
 zd5:XI K XM "list"=some none
 zhh:XI K XM "max"=some none
 zhi:XI K XM "min"=some none
 zbt:XI K XM "range"=some none
 zhj:XI K XM "set"=some none
 QA:XI K XM "sorted"=some none
 zhk:XI K XM "str"=some none
 zhl:XI K XM "sum"=some none
 zhm:XI K XM "zip"=some none
 yV:∃t,XI K XM "CLOSED_SIGN"=some (some (.str "?" t))
 yp:∃t,XI K XM "MOST_OF_PART"=some (some (.int 14 t))
 yq:∃t,XI K XM "NO_CELL_SIGN"=some (some (.str "#" t))
 cls:∃jai jaj jad jaa jac jab jah jaf jae jag:Addr,XI K XM "StoneError"=some (some (.ref jai))/\XI K XM "TooGreat"=some (some (.ref jaj))/\XI K XM "NoLaying"=some (some (.ref jad))/\XI K XM "NoBoard"=some (some (.ref jaa))/\XI K XM "NoCount"=some (some (.ref jac))/\XI K XM "NoCell"=some (some (.ref jab))/\XI K XM "NoText"=some (some (.ref jah))/\XI K XM "NoRow"=some (some (.ref jaf))/\XI K XM "NoNumber"=some (some (.ref jae))/\XI K XM "NoTable"=some (some (.ref jag))/\WA K jai xP "ValueError.__new__"=true/\WA K jaj xP "ValueError.__new__"=true/\WA K jad xP "ValueError.__new__"=true/\WA K jaa xP "ValueError.__new__"=true/\WA K jac xP "ValueError.__new__"=true/\WA K jab xP "ValueError.__new__"=true/\WA K jah xP "ValueError.__new__"=true/\WA K jaf xP "ValueError.__new__"=true/\WA K jae xP "ValueError.__new__"=true/\WA K jag xP "ValueError.__new__"=true/\Vv K (.ref jaj) "__getattribute__"=some (some (.builtin "BaseException.__getattribute__"))/\Vv K (.ref jaj) "__getattr__"=some none/\Vv K (.ref jaj) "__class__"=some (some (.builtin "object.__class__"))/\Vl K jaj (.type "BaseException")=some true/\Vl K jaj (.type "object")=some true/\S2 K jaj=true/\Vl K jaj (.ref jai)=some true/\Xb K (.ref jaj) (.ref jaj)=some true/\Xb K (.ref jaj) (.ref jad)=some false/\Xb K (.ref jaj) (.ref jaa)=some false/\Xb K (.ref jaj) (.ref jac)=some false/\Xb K (.ref jaj) (.ref jab)=some false/\Xb K (.ref jaj) (.ref jah)=some false/\Xb K (.ref jaj) (.ref jaf)=some false/\Xb K (.ref jaj) (.ref jae)=some false/\Xb K (.ref jaj) (.ref jag)=some false/\Xb K (.ref jaj) (.type "ValueError")=some true
end zbJ
noncomputable def zbJ.view:PySem.Program:={ PySem.Challenge.rw_stonelay_k36_whole_one_cell_opened.prog with main:={ PySem.Challenge.rw_stonelay_k36_whole_one_cell_opened.prog.main with body:=zbJ.sel [0,11,21,28,36,39,46] 0 PySem.Challenge.rw_stonelay_k36_whole_one_cell_opened.prog.main.body } }
namespace zbJ
open PySem PySem.W
theorem left4 {E:Option Shared}{β γ δ ε α:Type}{O:Shared->β×γ×δ×ε}{g:β×γ×δ×ε}{Y:Shared->α}{y:α}(a:E.map (λs=>(O s).1)=some g.1)(b:E.map (λs=>((O s).2.1,(O s).2.2.1))=some (g.2.1,g.2.2.1))(c:E.map (λs=>(O s).2.2.2)=some g.2.2.2)(d:E.map Y=some y):E.map (λs=>(O s,Y s))=some (g,y):=by
 cases E with
 | none=>cases a
 | some s=>exact congrArg some (Prod.ext (Prod.ext (Option.some.inj a) (Prod.ext (congrArg (·.1) (Option.some.inj b)) (Prod.ext (congrArg (·.2) (Option.some.inj b)) (Option.some.inj c)))) (Option.some.inj d))
noncomputable abbrev OS:=openSeen view [] (importedModules PySem.Challenge.rw_stonelay_k36_whole_one_cell_opened.row.prog.main.body) (λs=>xlAt view [] s&&recOk (RowW.records PySem.Challenge.rw_stonelay_k36_whole_one_cell_opened.row.toRowW) s) true
noncomputable abbrev GG:=openGood view []
set_option maxRecDepth 100000
set_option maxHeartbeats 0
theorem sa (w:World):(openEnds treeTable PySem.Challenge.rw_stonelay_k36_whole_one_cell_opened.row.prog w 6724).map (λs=>(OS s).1)=some GG.1:=by kernel_rfl
theorem sb (w:World):(openEnds treeTable PySem.Challenge.rw_stonelay_k36_whole_one_cell_opened.row.prog w 6724).map (λs=>((OS s).2.1,(OS s).2.2.1))=some (GG.2.1,GG.2.2.1):=by kernel_rfl
theorem sc (w:World):(openEnds treeTable PySem.Challenge.rw_stonelay_k36_whole_one_cell_opened.row.prog w 6724).map (λs=>(OS s).2.2.2)=some GG.2.2.2:=by kernel_rfl
end zbJ
local macro_rules | `(tactic| o_head $H)=>`(tactic| (refine' zbJ.zh2 (q:=zbJ.view) (H:=$H) (N:=6724) (λw=>zbJ.left4 (O:=zbJ.OS) (zbJ.sa w) (zbJ.sb w) (zbJ.sc w) (by kernel_rfl)) (by rfl) (by rfl) (by rfl) (by rfl) (by first | assumption | decide+kernel) (by decide+kernel) ⟨rfl,rfl,rfl,rfl,rfl,by decide+kernel⟩ ?_ ?_))
open PySem PySem.W PyProof.Rows in
set_option maxRecDepth 100000 in
set_option maxHeartbeats 0 in
theorem zbJ.look:PySem.Challenge.rw_stonelay_k36_whole_one_cell_opened.wellSaid=true:=by kernel_rfl
open PySem PySem.W PyProof.Rows in
set_option maxRecDepth 100000 in
set_option maxHeartbeats 0 in
theorem zbJ.early (h:∀{q:Xd} {XP:(Str->Option X9)->Heap->Prop} {YP:WV->Heap->Prop} {d:DefRec} {K:Params->XY},d.params.defaults=[]->(∀(w:WV) (h:Heap),YP w h->(K w.params).In h)->d.name="law"->(∀w:WV,zbJ.Facts (K w.params))->NY q [] XP YP PySem.Challenge.rw_stonelay_k36_whole_one_cell_opened.row.toRowW d [] (λf vs=>PySem.call f vs)):PySem.Challenge.rw_stonelay_k36_whole_one_cell_opened.Holds:=by
 w_on;refine holds_law zbJ.look λsaid=>?_;k_head;w_witness2;k_fill;refine h rfl (λw h Y=>PySem.W.kIn_of Y) rfl λw=>?_;constructor;all_goals first | k_is | exact⟨_,_,_,_,_,_,_,_,_,_,by k_is,by k_is,by k_is,by k_is⟩ | exact⟨_,by k_is⟩ | exact⟨_,_,_,_,_,_,_,_,_,_,by k_is,by k_is,by k_is,by k_is,by k_is,by k_is,by k_is,by k_is,by k_is,by k_is,by k_exc,by k_exc,by k_exc,by k_exc,by k_exc,by k_exc,by k_exc,by k_exc,by k_exc,by k_exc,by k_is,by k_is,by k_is,by k_is,by k_is,by k_is,by k_is,by kit_is,by kit_is,by kit_is,by kit_is,by kit_is,by kit_is,by kit_is,by kit_is,by kit_is,by kit_is⟩
noncomputable section
abbrev AE:=List PySem.Str
abbrev  AA:=Nat×Nat
abbrev AD:=List AA
namespace L2
open PySem PySem.Spec PyProof.Rows
abbrev Key:=Sum Int Str
def zdb:Key->X9->Bool
 | .inl k,v=>RW k v
 | .inr x,v=>Value.isStrOf x v
def zno (w:WV):Key->Int
 | .inl k=>Ud k
 | .inr x=>hashStr w x
theorem qZ:∀{k:Key} {v:X9},zdb k v=true->(∃i t,k=Od i/\v=Wt i t)\/(∃x t,k=Oc x/\v=NA x t)
 | .inl i,v,h=>by
  obtain⟨t,e⟩:=Value.isInt_shape (k:=i) (v:=v) h;exact .inl ⟨i,t,rfl,e⟩
 | .inr x,v,h=>by
  obtain⟨t,e⟩:=Value.isStrOf_shape (x:=x) (v:=v) h;exact .inr ⟨x,t,rfl,e⟩
def zau (i:Int)(t:Tok):zdb (.inl i) (.int i t)=true:=by simp[zdb,RW]
def zh3 (x:Str)(t:Tok):zdb (.inr x) (.str x t)=true:=by simp[zdb,Value.isStrOf]
def znp (a b:Int):decide ((Od a:Key)=Od b)=(a==b):=by
 by_cases e:a=b
 .subst e;simp
 .have h:¬ (Od a:Key)=Od b:=λq=>e (Sum.inl.inj q);rw[bf h];exact(beq_eq_false_iff_ne.mpr e).symm
def znq (a b:Str):decide ((Oc a:Key)=Oc b)=decide (a=b):=by
 by_cases e:a=b
 .subst e;simp
 .have h:¬ (Oc a:Key)=Oc b:=λq=>e (Sum.inr.inj q);rw[bf h,bf e]
def znr (a:Int)(b:Str):decide ((Od a:Key)=Oc b)=false:=bf (λq=>nomatch q)
def zns (a:Str)(b:Int):decide ((Oc a:Key)=Od b)=false:=bf (λq=>nomatch q)
def zW (prog:Xd)(w:WV):PySem.KeyKind prog w Key where
 is:=zdb
 hash:=zno w
 inj:=λv a b ha hb=>by
  rcases qZ ha with ⟨i,t,rfl,rfl⟩ | ⟨x,t,rfl,rfl⟩
  .rcases qZ hb with ⟨j,u,rfl,e⟩ | ⟨y,u,rfl,e⟩
   .injection e with e1 _;rw[e1]
   .exact nomatch e
  .rcases qZ hb with ⟨j,u,rfl,e⟩ | ⟨y,u,rfl,e⟩
   .exact nomatch e
   .injection e with e1 _;rw[e1]
 byValue:=λk v h=>by
  rcases qZ h with ⟨i,t,rfl,rfl⟩ | ⟨x,t,rfl,rfl⟩<;>rfl
 pyHash:=λhv h=>by
  rcases qZ hv with ⟨i,t,rfl,rfl⟩ | ⟨x,t,rfl,rfl⟩
  .exact wpAny_pyHash_int h
  .exact wpAny_pyHash_str h
 eqBool:=λhu hv h=>by
  rcases qZ hu with ⟨i,t,rfl,rfl⟩ | ⟨x,t,rfl,rfl⟩
  .rcases qZ hv with ⟨j,u,rfl,rfl⟩ | ⟨y,u,rfl,rfl⟩
   .rw[znp]at h;exact wpAny_eqBool_int h
   .rw[znr]at h;exact SeqAt.EqAt.int_str i t y u _ _ _ _ h
  .rcases qZ hv with ⟨j,u,rfl,rfl⟩ | ⟨y,u,rfl,rfl⟩
   .rw[zns]at h;exact SeqAt.EqAt.str_int x t j u _ _ _ _ h
   .rw[znq]at h;exact wpAny_eqBool_str h
 «strs»:=λk x t v h=>by
  rcases qZ h with ⟨i,u,rfl,e⟩ | ⟨y,u,rfl,e⟩
  .exact nomatch e
  .injection e with e1 _
   subst e1;cases v<;>rfl
def zeS (prog:Xd)(w:WV)(i:Int)(t:Tok):(zW prog w).is (.inl i) (.int i t)=true:=zau i t
def zeT (prog:Xd)(w:WV)(x:Str)(t:Tok):(zW prog w).is (.inr x) (.str x t)=true:=zh3 x t
inductive V where
 | non | bl (b:Bool) | int (i:Int) | str (x:Str) | byt (b:Array UInt8) | flt (b:UInt64) | ref (a:Addr) | ty (n:String)
 deriving DecidableEq
abbrev AF:=List V
def RelV:V->X9->Prop
 | .non,u=>u=US
 | .bl b,u=>u=SU b
 | .int i,u=>∃t,u=Wt i t
 | .str x,u=>∃t,u=NA x t
 | .byt b,u=>∃t,u=Value.bytes b t
 | .flt b,u=>∃t,u=Value.float b t
 | .ref a,u=>u=WN a
 | .ty n,u=>u=R6 n
abbrev Vals:AF->List X9->Prop:=WU RelV
theorem Vals.length {xs:AF}{us:List X9}(r:Vals xs us):xs.length=us.length:=Paired.length r
theorem Vals.get:∀{xs:AF} {us:List X9} {i:Nat} {x:V},Vals xs us->xs[i]?=some x->∃u,us[i]?=some u/\RelV x u
 | _,_,_,_,.nil,e=>by simp at e
 | _,_,0,_,.cons r _,e=>by simp at e;subst e;exact⟨_,rfl,r⟩
 | _,_,i+1,x,.cons _ t,e=>by
  obtain⟨u,h1,h2⟩:=Vals.get (i:=i) (x:=x) t (by simpa using e);exact⟨u,by simpa using h1,h2⟩
theorem Vals.set {x:V}{u:X9}(r:RelV x u):∀{xs:AF} {us:List X9} (i:Nat),Vals xs us->Vals (xs.set i x) (us.set i u)
 | _,_,_,.nil=>.nil
 | _,_,0,.cons _ t=>.cons r t
 | _,_,i+1,.cons q t=>.cons q (Vals.set r i t)
theorem Vals.append:∀{xs ys:AF} {us ws:List X9},Vals xs us->Vals ys ws->Vals (xs++ys) (us++ws)
 | _,_,_,_,.nil,s=>s
 | _,_,_,_,.cons r t,s=>.cons r (Vals.append t s)
theorem Vals.take:∀{xs:AF} {us:List X9} (n:Nat),Vals xs us->Vals (xs.take n) (us.take n)
 | _,_,0,_=>.nil
 | _,_,_+1,.nil=>.nil
 | _,_,n+1,.cons r t=>.cons r (Vals.take n t)
theorem Vals.drop:∀{xs:AF} {us:List X9} (n:Nat),Vals xs us->Vals (xs.drop n) (us.drop n)
 | _,_,0,r=>r
 | _,_,_+1,.nil=>.nil
 | _,_,n+1,.cons _ t=>Vals.drop n t
def zav:Option V->Option X9->Prop
 | some v,some u=>RelV v u
 | none,none=>True
 | _,_=>False
def KV {κ:Type}:List (κ × V)->List (κ × X9)->Prop:=WU λ(p:κ × V) (q:κ × X9)=>p.1=q.1/\RelV p.2 q.2
def kV:Key->V
 | .inl i=>.int i
 | .inr x=>.str x
inductive HO where
  | lst (xs:AF)
  | tup (xs:AF)
  | dK (kvs:List (Key×V)) | dT (kvs:List (List Key×V))
  | set (S:Int->Bool) (n:Nat)
  | ins (C dx:Addr) (fs:List (Str×V))
  | own (x:Addr)
  | xd (fs:List (Str×V))
  | met (f x:Addr)
  | rng (lo hi:Int)
  | frz (o:Obj) (u:HO)
  | tbl (ps:Array X9)
  | ext (φ:Heap->Prop)
abbrev Hp:=Addr->Option HO
def upd (H:Hp)(a:Addr)(o:HO):Hp:=λb=>if b=a then some o else H b
def zd {H:Hp}{a:Addr}{o:HO}:upd H a o a=some o:=by unfold upd;rw[bw rfl]
def zk {H:Hp}{a b:Addr}{o:HO}(h:b≠a):upd H a o b=H b:=by unfold upd;rw[bq h]
def zdc {H:Hp}{a b:Addr}{o u:HO}(h:H a=some o)(h':H b=some u)(d:o≠u):a≠b:=by
 intro e;subst e;rw[h]at h';exact d (Option.some.inj h')
def zh {H:Hp}{a b:Addr}{o:HO}(h:H a=some o)(h':H b=none):a≠b:=by
 intro e;subst e;rw[h]at h';cases h'
section
variable (P:Xd)(w:WV)
def qI (H:Hp)(h:Heap)(a:Addr):HO->Prop
 | .lst xs=>xs.length<=Xz/\∃(its:List X9) (n:Nat),Vals xs its/\h.get? a=some { cls:=.type "list",data:=.seq its.toArray n }
 | .tup xs=>xs.length<=Xz/\∃its:List X9,Vals xs its/\Nu h a its.toArray
 | .dK kvs=>kvs.length<=Xz/\(a==Uj)=false/\∃vs,KV kvs vs/\h.DictOf (zW P w) a vs
 | .dT kvs=>kvs.length<=Xz/\(a==Uj)=false/\∃xs:List (List Key×Addr×X9),
   WU (λ(p:List Key×V) (q:List Key×Addr×X9)=>p.1=q.1/\H q.2.1=some (.tup (p.1.map kV))/\RelV p.2 q.2.2) kvs xs /\
   ∃o es ep,h.get? a=some o/\o.ExactDict/\o.data=.dict es ep/\es.toList=xs.map (entryOfKey (VE (zW P w)))/\(xs.map (·.1)).Nodup
 | .set S n=>h.SetOf (Tq P w) a S n
 | .ins C dx fs=>H dx=some (.own a)/\fs.length<=1000/\dx≠a/\h.get? a=some (OW C dx) /\
   ∃mA,h.Ns1 dx mA/\(∀f,zav (fs.lookup f) (mA f))/\PySem.Within mA (fs.map (·.1))
 | .own _=>∃o,h.get? a=some o
 | .xd fs=>∃mA,h.Ns1 a mA/\∀f,zav (fs.lookup f) (mA f)
 | .rng lo hi=>∃t u v,h.get? a=some { cls:=.type "range",data:=.fields #[.int lo t,.int hi u,.int 1 v] }
 | .frz o u=>h.get? a=some o/\qI H h a u
 | .tbl ps=>h.get? a=some { cls:=.none,data:=.fields ps }
 | .met f x=>h.get? a=some (P7 (.ref f) (.ref x))
 | .ext φ=>φ h/\(∃o,h.get? a=some o)/\∀h1 h2:Heap,φ h1->(∀o,h1.get? a=some o->h2.get? a=some o)->φ h2
def HOk (H:Hp)(h:Heap):Prop:=∀a o,H a=some o->qI P w H h a o
end
section
variable {P:Xd}{w:WV}{H H':Hp}{h h':Heap}{a:Addr}{o:HO}
theorem qI.lt (x:qI P w H h a o):a<h.objs.size:=by
 cases o with
 | lst xs=>obtain⟨_,_,_,_,e⟩:=x;exact XJ e
 | tup xs=>obtain⟨_,_,_,p⟩:=x;exact p.lt
 | dK kvs=>obtain⟨_,_,_,_,o,_,_,e,_⟩:=x;exact XJ e
 | dT kvs=>obtain⟨_,_,_,_,o,_,_,e,_⟩:=x;exact XJ e
 | set S n=>obtain⟨o,_,_,_,e,_⟩:=x;exact XJ e
 | ins C dx fs=>obtain⟨_,_,_,e,_⟩:=x;exact XJ e
 | own y=>obtain⟨_,e⟩:=x;exact XJ e
 | xd fs=>obtain⟨_,⟨_,_,_,e,_⟩,_⟩:=x;exact XJ e
 | rng lo hi=>obtain⟨_,_,_,e⟩:=x;exact XJ e
 | frz ob u=>obtain⟨e,_⟩:=x;exact XJ e
 | tbl ps=>exact XJ (show h.get? a=some _ from x)
 | met f y=>exact XJ (show h.get? a=some _ from x)
 | ext φ=>obtain⟨_,⟨_,e⟩,_⟩:=x;exact XJ e
theorem Paired.mapP {α β:Type}{F G:α->β->Prop}:∀{l₁:List α} {l₂:List β},WU F l₁ l₂->(∀a b,F a b->G a b)->WU G l₁ l₂
 | _,_,.nil,_=>.nil
 | _,_,.cons r t,f=>.cons (f _ _ r) (Paired.mapP t f)
def Paired.imp' {α β:Type}{F G:α->β->Prop}(f:∀a b,F a b->G a b){l₁:List α}{l₂:List β}(r:WU F l₁ l₂):WU G l₁ l₂:=Paired.mapP r f
def qI.stay (x:qI P w H h a o)(k:∀b u,(b=a\/H b=some (.own a))->h.get? b=some u->h'.get? b=some u)
  (ho:∀b,H b=some (.own a)->H' b=some (.own a)) (ht:∀b xs,H b=some (.tup xs)->H' b=some (.tup xs)):qI P w H' h' a o:=by
 induction o with
 | lst xs=>obtain⟨z,its,n,r,e⟩:=x;exact⟨z,its,n,r,k _ _ (.inl rfl) e⟩
 | tup xs=>obtain⟨z,its,r,ob,e,c⟩:=x;exact⟨z,its,r,ob,k _ _ (.inl rfl) e,c⟩
 | dK kvs=>obtain⟨z,y,vs,r,ob,es,ep,e,c⟩:=x;exact⟨z,y,vs,r,ob,es,ep,k _ _ (.inl rfl) e,c⟩
 | dT kvs =>
  obtain⟨z,y,xs,r,ob,es,ep,e,c⟩:=x;exact⟨z,y,xs,Paired.mapP r λp q z=>⟨z.1,ht _ _ z.2.1,z.2.2⟩,ob,es,ep,k _ _ (.inl rfl) e,c⟩
 | set S n=>obtain⟨ob,es,ep,t,e,c⟩:=x;exact⟨ob,es,ep,t,k _ _ (.inl rfl) e,c⟩
 | ins C dx fs =>
  obtain⟨d,z,ne,e,mA,⟨od,es,ep,e2,c⟩,r⟩:=x;exact⟨ho _ d,z,ne,k _ _ (.inl rfl) e,mA,⟨od,es,ep,k _ _ (.inr d) e2,c⟩,r⟩
 | own y=>obtain⟨ob,e⟩:=x;exact⟨ob,k _ _ (.inl rfl) e⟩
 | xd fs=>obtain⟨mA,⟨od,es,ep,e,c⟩,r⟩:=x;exact⟨mA,⟨od,es,ep,k _ _ (.inl rfl) e,c⟩,r⟩
 | rng lo hi=>obtain⟨t,u,v,e⟩:=x;exact⟨t,u,v,k _ _ (.inl rfl) e⟩
 | frz ob u ih=>obtain⟨e,q⟩:=x;exact⟨k _ _ (.inl rfl) e,ih q⟩
 | tbl ps =>
  have e:h.get? a=some { cls:=.none,data:=.fields ps }:=x;show h'.get? a=some { cls:=.none,data:=.fields ps };exact k a _ (.inl rfl) e
 | met f y =>
  have e:h.get? a=some (P7 (.ref f) (.ref y)):=x;show h'.get? a=some (P7 (.ref f) (.ref y));exact k a _ (.inl rfl) e
 | ext φ=>obtain⟨p,⟨o,e⟩,st⟩:=x;exact⟨st _ _ p λo q=>k _ _ (.inl rfl) q,⟨o,k _ _ (.inl rfl) e⟩,st⟩
theorem HOk.lt (x:HOk P w H h)(e:H a=some o):a<h.objs.size:=(x a o e).lt
def HOk.fresh (x:HOk P w H h)(e:h.objs.size<=a):H a=none:=by
 cases q:H a with
 | none=>rfl
 | some u=>exact absurd (Xu (x.lt q) e) (V8 _)
def HOk.kept (x:HOk P w H h)(k:∀b u,h.get? b=some u->h'.get? b=some u):HOk P w H h':=λa o e =>
 (x a o e).stay (λb u _ q=>k b u q) (λ_ q=>q) λ_ _ q=>q
def HOk.laid (x:HOk P w H h)(k:∀b u,h.get? b=some u->h'.get? b=some u)(hp:h.objs.size<=a)(new:qI P w (upd H a o) h' a o):HOk P w (upd H a o) h':=λb u e=>by
 have hn:=x.fresh hp;by_cases hb:b=a
 .subst hb;rw[zd]at e;cases e;exact new
 .rw[zk hb]at e;exact(x b u e).stay (λc v _ q=>k c v q) (λc q=>by rw[zk (zh q hn)];exact q) λc xs q=>by rw[zk (zh q hn)];exact q
end
def Rd (H:Hp)(a:Addr)(u:HO):Prop:=H a=some u\/∃o,H a=some (.frz o u)
def Rd.ok {P:Xd}{w:WV}{H:Hp}{h:Heap}{a:Addr}{u:HO}(r:Rd H a u)(x:HOk P w H h):qI P w H h a u:=by
 rcases r with r | ⟨o,r⟩
 .exact x a u r
 .obtain⟨_,q⟩:=x a _ r;exact q
def Mut:Option HO->Prop
 | some (.lst _)=>True
 | some (.dK _)=>True
 | some (.dT _)=>True
 | some (.set _ _)=>True
 | some (.ins _ _ _)=>True
 | some (.ext _)=>True
 | _=>False
section
variable {P:Xd}{w:WV}{H:Hp}{h h':Heap}{x e:Addr}{o':HO}
def HOk.write (ok:HOk P w H h)(mu:Mut (H x))(he:e=x\/H e=some (.own x))(k:∀b u,b≠e->h.get? b=some u->h'.get? b=some u)(heo:∃u,h'.get? e=some u)
  (new:qI P w (upd H x o') h' x o'):HOk P w (upd H x o') h':=λb u q=>by
 have nown:∀c y,H c=some (.own y)->c≠x:=λc y r z=>by subst z;rw[r]at mu;exact mu
 have ntup:∀c xs,H c=some (.tup xs)->c≠x:=λc xs r z=>by subst z;rw[r]at mu;exact mu
 by_cases hb:b=x
 .subst hb;rw[zd]at q;cases q;exact new
 .rw[zk hb]at q;by_cases hbe:b=e
  .have q':H b=some (.own x):=by
    rcases he with z | z
    .exact absurd (hbe.trans z) hb
    .rw[hbe];exact z
   rw[q]at q';cases q';obtain⟨v,hv⟩:=heo;exact⟨v,by rw[hbe];exact hv⟩
  .refine(ok b u q).stay (λc v hc r=>k c v ?_ r) (λc r=>by rw[zk (nown c b r)];exact r) λc xs r=>by rw[zk (ntup c xs r)];exact r
   rcases hc with rfl | hc
   .exact hbe
   .rintro rfl;rcases he with z | z
    .exact nown c b hc z
    .rw[hc]at z;cases z;exact hb rfl
end
structure Un (fs ex:List Addr)(H H':Hp)(h h':Heap):Prop where
 keep:∀b o,h.get? b=some o->H b=none->b ∉ fs->b ∉ ex->h'.get? b=some o
 slot:∀b o,h.get? b=some o->H b=none->b∈fs->b ∉ ex->∃sl,h'.get? b=some { o with slots:=sl }
 free:∀b o,h.get? b=some o->H b=none->b ∉ ex->H' b=none
 there:∀b o,h.get? b=some o->b ∉ ex->∃o',h'.get? b=some o'
 tups:∀b xs,H b=some (.tup xs)->H' b=some (.tup xs)
 frzs:∀b o u,H b=some (.frz o u)->H' b=some (.frz o u)
 tbls:∀b ps,H b=some (.tbl ps)->∃more,H' b=some (.tbl (ps++more))
section
variable {fs fs' ex ex':List Addr}{H H1 H2:Hp}{h h1 h2 h':Heap}{a x e:Addr}{o:HO}
def Un.any (u:Un fs ex H H1 h h1){b:Addr}{ob:Obj}(q:h.get? b=some ob)(n:H b=none)(hx:b ∉ ex):∃sl,h1.get? b=some { ob with slots:=sl }:=by
 by_cases hb:b∈fs
 .exact u.slot b ob q n hb hx
 .exact⟨ob.slots,u.keep b ob q n hb hx⟩
def Un.kept (k:∀b u,h.get? b=some u->h'.get? b=some u):Un fs ex H H h h' :=
 ⟨λb ob q _ _ _=>k b ob q,λb ob q _ _ _=>⟨ob.slots,k b ob q⟩,λ_ _ _ n _=>n,λb ob q _=>⟨ob,k b ob q⟩,λ_ _ q=>q,λ_ _ _ q=>q,λ_ ps q=>⟨#[],by rw[q];simp⟩⟩
def Un.refl:Un fs ex H H h h:=Un.kept λ_ _ q=>q
def Un.laid (k:∀b u,h.get? b=some u->h'.get? b=some u)(hp:h.objs.size<=a)(hn:H a=none):Un fs ex H (upd H a o) h h' where
 keep:=λb u q _ _ _=>k b u q
 slot:=λb u q _ _ _=>⟨u.slots,k b u q⟩
 free:=λb u q n _=>by rw[zk (Xk (Xu (XJ q) hp))];exact n
 there:=λb u q _=>⟨u,k b u q⟩
 tups:=λb xs q=>by rw[zk (zh q hn)];exact q
 frzs:=λb u xs q=>by rw[zk (zh q hn)];exact q
 tbls:=λb ps q=>⟨#[],by rw[zk (zh q hn),q];simp⟩
def Un.write (mu:Mut (H x))(he:e=x\/H e=some (.own x))(k:∀b u,b≠e->h.get? b=some u->h'.get? b=some u)(heo:∃u,h'.get? e=some u):Un fs ex H (upd H x o) h h':=by
 have hx:∀b,H b=none->b≠x:=λb n z=>by subst z;rw[n]at mu;exact mu
 have hb:∀b,H b=none->b≠e:=λb n z=>by
  subst z;rcases he with r | r
  .exact hx b n r
  .rw[n]at r;cases r
 have hm:∀b u,H b=some u->¬ Mut (some u)->b≠x:=λb u q nm z=>by subst z;rw[q]at mu;exact nm mu
 refine⟨λb u q n _ _=>k b u (hb b n) q,λb u q n _ _=>⟨u.slots,k b u (hb b n) q⟩,λb u q n _=>by rw[zk (hx b n)];exact n,λb u q _=>?_,
  λb xs q=>by rw[zk (hm b _ q λz=>z)];exact q,λb u xs q=>by rw[zk (hm b _ q λz=>z)];exact q,λb ps q=>⟨#[],by rw[zk (hm b _ q λz=>z),q];simp⟩⟩
 by_cases hbe:b=e
 .subst hbe;exact heo
 .exact⟨u,k b u hbe q⟩
end
def trk (h:Heap)(H:Hp):List Addr:=(Xp h.objs.size).filter λa=>(H a).isSome
def zd6 (h:Heap)(H:Hp):Heap:=PySem.W.hideAll h (trk h H)
def zh4 (h:Heap)(H:Hp):(zd6 h H).objs.size=h.objs.size:=PySem.W.hideAll_size _ _
def zjq {h:Heap}{H:Hp}{b:Addr}{o:Obj}(e:h.get? b=some o)(n:H b=none):(zd6 h H).get? b=some o :=
 Te _ e λhm=>by
  have q:(H b).isSome=true:=(XX.mp hm).2;rw[n]at q;simp at q
def zlF {h:Heap}{H:Hp}{b:Addr}{o:Obj}(e:(zd6 h H).get? b=some o):h.get? b=some o/\H b=none:=by
 have e':h.get? b=some o:=PySem.W.of_hideAll (trk h H) e;refine⟨e',?_⟩;cases q:H b with
 | none=>rfl
 | some x =>
  have hm:b∈trk h H:=XX.mpr ⟨Xq.mpr (XJ e'),by simp[q]⟩;have z:(zd6 h H).get? b=none:=PySem.W.hideAll_none (trk h H) hm;rw[z]at e;cases e
structure Mod (K:XY)(mg:Str->Option X9)(base:Heap):Prop where
 kin:K.In base
 glob:base.Ns XM mg
 blt:∃mb,base.Ns NR mb/\∀x:Str,x ≠ "__name__"->mb x=T0 x
 nolimit:base.NoLimit
structure Cx where
 prog:Xd
 w:WV
 K:XY
 mg:Str->Option X9
 base:Heap
 A:WT
 N:AE
 s₀:X8
 H₀:Hp
 env:Env
 outer:List Env
 stack:List Env
 ex:List Addr
 fn:Str->Bool
 calm:Bool
 pn:List (Addr×Obj)
 xe:X9->X8->Prop
def frs (l:List Env):List Addr:=l.filterMap (·.frame)
abbrev Cx.fs (X:Cx):List Addr:=frs X.outer
def Vis (sc:Va)(x:Str):Prop:=sc.names.lookup x=some .local\/sc.names.lookup x=some .cell\/sc.names.lookup x=some .free
def Loc (sc:Va)(x:Str):Prop:=sc.names.lookup x=some .local\/sc.names.lookup x=some .cell
def Look (env:Env)(h:Heap)(m:Str->Option X9)(x:Str)(u:X9):Prop :=
 (env.kindOf x=some .local/\m x=some u)\/((env.kindOf x=some .cell\/env.kindOf x=some .free)/\∃c,env.cells.lookup x=some c/\h.IsCell c (some u))
structure Cx.Ok (X:Cx):Prop where
 mod:Mod X.K X.mg X.base
 kind:X.env.scope.kind=.function
 glob:X.env.globals=XM
 blt:X.env.builtins=NR
 above:X.s₀.heap.objs.size<=X.env.locals
 inj:∀x y c,X.env.cells.lookup x=some c->X.env.cells.lookup y=some c->x=y
 has:∀x,(X.env.kindOf x=some .cell\/X.env.kindOf x=some .free)->∃c,X.env.cells.lookup x=some c
 cab:∀x c,X.fn x=true->X.env.cells.lookup x=some c->X.s₀.heap.objs.size<=c
 hd:X.calm=true->X.A.handled=none
 frames:X.A.frames=some X.stack
 stk:X.stack=X.outer\/(X.stack=X.env::X.outer/\X.env.frame=some X.env.locals)
 exf:∀b∈X.ex,b≠X.env.locals/\∀x c,X.env.cells.lookup x=some c->c≠b
 bs:∀b o,X.base.get? b=some o->X.s₀.heap.get? b=some o/\X.H₀ b=none
 bsz:X.base.objs.size<=X.s₀.heap.objs.size
 noex:∀b o,X.base.get? b=some o->b ∉ X.ex
 exfs:∀b∈X.ex,b ∉ X.fs
 funs:X.s₀.heap.FunFrames X.base X.outer
 frf:∀b∈X.fs,X.H₀ b=none
structure Inv (X:Cx)(bQ:List (Addr×Obj))(σ:List (Option V))(H:Hp)(s:X8):Prop where
 ok:X.Ok
 os:s.os=X.s₀.os
 bare:SC s.gens
 base:Un X.fs X.ex X.H₀ H X.s₀.heap s.heap
 loc:∃m,s.heap.Ns X.env.locals m/\∀(i:Nat) (x:Str) (v:V),X.N[i]?=some x->σ[i]?=some (some v)->Vis X.env.scope x->∃u,RelV v u/\Look X.env s.heap m x u
 cell:∀x c,X.env.cells.lookup x=some c->∃v,s.heap.IsCell c v
 free:H X.env.locals=none
 freeC:∀x c,X.env.cells.lookup x=some c->H c=none
 pin:∀p∈X.pn++bQ,s.heap.get? p.1=some p.2/\H p.1=none/\p.1≠X.env.locals/\p.1 ∉ X.fs/\∀v,p.2.data ≠ .cell v
 hok:HOk X.prog X.w H s.heap
 len:σ.length=X.N.length
section
variable {X:Cx}{bQ:List (Addr×Obj)}{σ:List (Option V)}{H H':Hp}{s:X8}{h':Heap}
def Cx.Ok.nofr (ok:X.Ok){b:Addr}{o:Obj}(e:X.base.get? b=some o):b ∉ X.fs:=λhb=>by
 have:=(ok.funs.mem hb).1;rw[e]at this;cases this
theorem Inv.bs (I:Inv X bQ σ H s):∀b o,X.base.get? b=some o->s.heap.get? b=some o/\H b=none:=λb o e =>
 ⟨I.base.keep b o (I.ok.bs b o e).1 (I.ok.bs b o e).2 (I.ok.nofr e) (I.ok.noex b o e),I.base.free b o (I.ok.bs b o e).1 (I.ok.bs b o e).2 (I.ok.noex b o e)⟩
def Inv.bk (I:Inv X bQ σ H s):∀b o,X.base.get? b=some o->s.heap.get? b=some o:=λb o e=>(I.bs b o e).1
theorem Inv.mod (I:Inv X bQ σ H s):Mod X.K X.mg X.base:=I.ok.mod
def Inv.kIn (I:Inv X bQ σ H s):X.K.In s.heap:=I.ok.mod.kin.keeps I.bk
theorem Inv.lt (I:Inv X bQ σ H s):X.env.locals<s.heap.objs.size:=let ⟨_,hn,_⟩:=I.loc;hn.lt
def Inv.sz (I:Inv X bQ σ H s):X.s₀.heap.objs.size<=s.heap.objs.size:=X0 I.ok.above (UJ I.lt)
def Inv.nofs (I:Inv X bQ σ H s){a:Addr}(h:s.heap.objs.size<=a):a ∉ X.fs:=λhb=>by
 obtain⟨_,o,ho,_⟩:=I.ok.funs.mem hb;exact absurd (Xu (XJ ho) (X0 I.sz h)) (V8 _)
def Inv.cne (I:Inv X bQ σ H s):∀x c,X.env.cells.lookup x=some c->c≠X.env.locals:=λx c e z=>by
 obtain⟨v,o,ho,hd⟩:=I.cell x c e;obtain⟨m,⟨o',es,ep,ho',hd',_⟩,_⟩:=I.loc;rw[z,ho']at ho;cases ho;rw[hd']at hd;cases hd
theorem Inv.funs (I:Inv X bQ σ H s):s.heap.FunFrames X.base X.outer:=by
 have all:∀(l:List Env),(∀b∈frs l,b∈X.fs)->X.s₀.heap.FunFrames X.base l->s.heap.FunFrames X.base l:=by
  intro l;induction l with
  | nil=>intro _ _;trivial
  | cons env r ih =>
   intro hs hl;obtain⟨hk,⟨L,o,hf,hn,ho,hd⟩,hr⟩:=hl;have hL:L∈X.fs:=hs L (by unfold frs;rw[UL,hf];exact X2);obtain⟨sl,e⟩:=I.base.slot L o ho (I.ok.frf L hL) hL λz=>I.ok.exfs L z hL;exact⟨hk,⟨L,_,hf,hn,e,hd⟩,ih (λb hb=>hs b (by unfold frs;rw[UL,hf];exact XV _ hb)) hr⟩
 exact all X.outer (λ_ hb=>hb) I.ok.funs
theorem Inv.stack (I:Inv X bQ σ H s):s.heap.FunFrames X.base X.stack:=by
 rcases I.ok.stk with e | ⟨e,hf⟩
 .rw[e];exact I.funs
 .rw[e];obtain⟨m,hn,_⟩:=I.loc;refine .cons (by rw[I.ok.kind];decide) hf hn ?_ I.funs;exact Uo (X0 I.ok.bsz I.ok.above)
def Inv.stkSub (I:Inv X bQ σ H s):∀b∈frs X.stack,b∈X.env.locals::X.fs:=λb hb=>by
 rcases I.ok.stk with e | ⟨e,hf⟩
 .rw[e]at hb;exact XV _ hb
 .rw[e]at hb;unfold frs at hb;rw[UL,hf]at hb;exact hb
def Inv.stkFree (I:Inv X bQ σ H s):∀b∈frs X.stack,H b=none:=λb hb=>by
 rcases XQ.mp (I.stkSub b hb) with e | hb
 .rw[e];exact I.free
 .obtain⟨_,o,ho,_⟩:=I.ok.funs.mem hb;exact I.base.free b o ho (I.ok.frf b hb) λz=>I.ok.exfs b z hb
def Inv.step {g':Array UC}{t':Nat}{d':Nt}{ch:List Addr}(I:Inv X bQ σ H s)
  (hch:∀b∈ch,(b∈X.ex\/X.s₀.heap.objs.size<=b)/\b≠X.env.locals/\(∀x c,X.env.cells.lookup x=some c->c≠b)/\∀p∈X.pn++bQ,p.1≠b)
  (keep:∀b o,b≠X.env.locals->b ∉ X.fs->b ∉ ch->s.heap.get? b=some o->H b=none->h'.get? b=some o)
  (slot:∀b o,b≠X.env.locals->b∈X.fs->b ∉ ch->s.heap.get? b=some o->H b=none->∃sl,h'.get? b=some { o with slots:=sl }) (free:∀b o,b ∉ ch->s.heap.get? b=some o->H b=none->H' b=none)
  (there:∀b o,b ∉ ch->s.heap.get? b=some o->∃o',h'.get? b=some o')
  (tups:∀b xs,H b=some (.tup xs)->H' b=some (.tup xs)) (frzs:∀b o u,H b=some (.frz o u)->H' b=some (.frz o u)) (tbls:∀b ps,H b=some (.tbl ps)->∃more,H' b=some (.tbl (ps++more)))
  (ns:∀m,s.heap.Ns X.env.locals m->h'.Ns X.env.locals m) (hok:HOk X.prog X.w H' h') (hg:SC g') :
  Inv X bQ σ H' { s with heap:=h',gens:=g',drawn:=d',toks:=t' }:=by
 have neL:∀b o,X.s₀.heap.get? b=some o->b≠X.env.locals:=λb o e=>Xk (Xu (XJ e) I.ok.above);have neC:∀b o,X.s₀.heap.get? b=some o->b ∉ X.ex->b ∉ ch:=λb o e hx hb=>by
  rcases(hch b hb).1 with z | z
  .exact hx z
  .exact absurd (Xu (XJ e) z) (V8 _)
 have cellK:∀x c,X.env.cells.lookup x=some c->∀v,s.heap.IsCell c v->h'.IsCell c v:=λx c e v ⟨o,ho,hd⟩=>by
  have nch:c ∉ ch:=λz=>(hch c z).2.2.1 x c e rfl;by_cases hc:c∈X.fs
  .obtain⟨sl,q⟩:=slot c o (I.cne x c e) hc nch ho (I.freeC x c e);exact⟨_,q,hd⟩
  .exact⟨o,keep c o (I.cne x c e) hc nch ho (I.freeC x c e),hd⟩
 refine⟨I.ok,I.os,hg,⟨λb o e n hb hx=>?_,λb o e n hb hx=>?_,λb o e n hx=>?_,λb o e hx=>?_,λb xs e=>tups b xs (I.base.tups b xs e),λb o xs e=>frzs b o xs (I.base.frzs b o xs e),λb ps e=>?_⟩,?_,λx c e=>?_,?_,λx c e=>?_,λp hp=>?_,hok,I.len⟩
 .exact keep b o (neL b o e) hb (neC b o e hx) (I.base.keep b o e n hb hx) (I.base.free b o e n hx)
 .obtain⟨sl,e1⟩:=I.base.slot b o e n hb hx;obtain⟨sl',e2⟩:=slot b _ (neL b o e) hb (neC b o e hx) e1 (I.base.free b o e n hx);exact⟨sl',e2⟩
 .obtain⟨o',e1⟩:=I.base.there b o e hx;exact free b o' (neC b o e hx) e1 (I.base.free b o e n hx)
 .obtain⟨o',e1⟩:=I.base.there b o e hx;exact there b o' (neC b o e hx) e1
 .obtain⟨m1,e1⟩:=I.base.tbls b ps e;obtain⟨m2,e2⟩:=tbls b _ e1;exact⟨m1++m2,by rw[e2,Rn]⟩
 .obtain⟨m,hn,hl⟩:=I.loc;refine⟨m,ns m hn,λi x v e1 e2 e3=>?_⟩;obtain⟨u,r,l⟩:=hl i x v e1 e2 e3;refine⟨u,r,?_⟩;rcases l with l | ⟨k,c,e,z⟩
  .exact .inl l
  .exact .inr ⟨k,c,e,cellK x c e _ z⟩
 .obtain⟨v,z⟩:=I.cell x c e;exact⟨v,cellK x c e v z⟩
 .obtain⟨m,⟨o,_,_,ho,_⟩,_⟩:=I.loc;exact free _ o (λz=>(hch _ z).2.1 rfl) ho I.free
 .obtain⟨v,o,ho,hd⟩:=I.cell x c e;exact free c o (λz=>(hch c z).2.2.1 x c e rfl) ho (I.freeC x c e)
 .obtain⟨e,n,ne,nf,d⟩:=I.pin p hp;have nch:p.1 ∉ ch:=λz=>(hch p.1 z).2.2.2 p hp rfl;exact⟨keep p.1 p.2 ne nf nch e n,free p.1 p.2 nch e n,ne,nf,d⟩
def Inv.un {t':Nat}(I:Inv X bQ σ H s)(u:Un X.fs [] H H' s.heap h')(hok:HOk X.prog X.w H' h'):Inv X bQ σ H' { s with heap:=h',toks:=t' }:=by
 obtain⟨m,⟨o,es,ep,ho,r⟩,_⟩:=id I.loc;obtain⟨sl,hL⟩:=u.any ho I.free (by simp);exact I.step (g':=s.gens) (d':=s.drawn) (ch:=[]) (λ_ z=>nomatch z) (λb o _ hb _ e n=>u.keep b o e n hb (by simp)) (λb o _ hb _ e n=>u.slot b o e n hb (by simp)) (λb o _ e n=>u.free b o e n (by simp)) (λb o _ e=>u.there b o e (by simp)) u.tups u.frzs u.tbls (λm' hm=>by
  obtain⟨o',es',ep',ho',r'⟩:=hm;rw[ho]at ho';cases ho';exact⟨_,es',ep',hL,r'⟩) hok I.bare
def Inv.call {g':Array UC}{t':Nat}{d':Nt}{ch:List Addr}(I:Inv X bQ σ H s)(u:Un (frs X.stack) ch H H' s.heap h')(hok:HOk X.prog X.w H' h')(hg:SC g')
  (hch:∀b∈ch,(b∈X.ex\/X.s₀.heap.objs.size<=b)/\b≠X.env.locals/\(∀x c,X.env.cells.lookup x=some c->c≠b)/\∀p∈X.pn++bQ,p.1≠b) :
  Inv X bQ σ H' { s with heap:=h',gens:=g',drawn:=d',toks:=t' }:=by
 obtain⟨m,⟨o,es,ep,ho,r⟩,_⟩:=id I.loc;obtain⟨sl,hL⟩:=u.any ho I.free λz=>(hch _ z).2.1 rfl;exact I.step (ch:=ch) hch (λb o hL hb hc e n=>u.keep b o e n (λz=>(XQ.mp (I.stkSub b z)).elim hL hb) hc) (λb o _ _ hc e n=>u.any e n hc) (λb o hc e n=>u.free b o e n hc) (λb o hc e=>u.there b o e hc) u.tups u.frzs u.tbls (λm' hm=>by
  obtain⟨o',es',ep',ho',r'⟩:=hm;rw[ho]at ho';cases ho';exact⟨_,es',ep',hL,r'⟩) hok hg
def Inv.turned {t':Nat}{it:Addr}(I:Inv X bQ σ H s)(k:∀b o,b≠it->s.heap.get? b=some o->h'.get? b=some o)(hn:H it=none)(hL:it≠X.env.locals)
  (h1:it∈X.ex\/X.s₀.heap.objs.size<=it) (h2:∀x c,X.env.cells.lookup x=some c->c≠it) (h3:∀p∈X.pn++bQ,p.1≠it):Inv X bQ σ H { s with heap:=h',toks:=t' }:=by
 have nit:∀b u,H b=some u->b≠it:=λb u e z=>by rw[z,hn]at e;cases e
 refine I.step (g':=s.gens) (d':=s.drawn) (ch:=[it]) (λb hb=>?_) (λb o _ _ hc e _=>k b o (λz=>hc (by simp[z])) e) (λb o _ _ hc e _=>⟨o.slots,k b o (λz=>hc (by simp[z])) e⟩) (λ_ _ _ _ n=>n)
  (λb o hc e=>⟨o,k b o (λz=>hc (by simp[z])) e⟩) (λ_ _ e=>e) (λ_ _ _ e=>e) (λb ps e=>⟨#[],by rw[e];simp⟩) (λm hm=>?_) (λb u e=>?_) I.bare
 .have e:b=it:=by simpa using hb
  subst e;exact⟨h1,hL,h2,h3⟩
 .obtain⟨o,es,ep,ho,r⟩:=hm;exact⟨o,es,ep,k _ o (Vm hL) ho,r⟩
 .refine(I.hok b u e).stay (λc v hc q=>k c v ?_ q) (λ_ q=>q) λ_ _ q=>q;rcases hc with z | z
  .rw[z];exact nit b u e
  .exact nit c _ z
def Inv.tok (I:Inv X bQ σ H s)(t:Nat):Inv X bQ σ H { s with toks:=t }:=I.un (h':=s.heap) (t':=t) Un.refl I.hok
theorem Inv.kept {t':Nat}(I:Inv X bQ σ H s)(k:∀b u,s.heap.get? b=some u->h'.get? b=some u):Inv X bQ σ H { s with heap:=h',toks:=t' }:=I.un (Un.kept k) (I.hok.kept k)
theorem Inv.laid {a:Addr}{o:HO}{t':Nat}(I:Inv X bQ σ H s)(k:∀b u,s.heap.get? b=some u->h'.get? b=some u)(hp:s.heap.objs.size<=a)(new:qI X.prog X.w (upd H a o) h' a o) :
  Inv X bQ σ (upd H a o) { s with heap:=h',toks:=t' }:=I.un (Un.laid k hp (I.hok.fresh hp)) (I.hok.laid k hp new)
theorem Inv.write {x e:Addr}{o:HO}{t':Nat}(I:Inv X bQ σ H s)(mu:Mut (H x))(he:e=x\/H e=some (.own x))(k:∀b u,b≠e->s.heap.get? b=some u->h'.get? b=some u)(heo:∃u,h'.get? e=some u)
  (new:qI X.prog X.w (upd H x o) h' x o):Inv X bQ σ (upd H x o) { s with heap:=h',toks:=t' }:=I.un (Un.write mu he k heo) (I.hok.write mu he k heo new)
def Inv.pins_of {pins':List (Addr×Obj)}(I:Inv X bQ σ H s)(h:∀p∈pins',s.heap.get? p.1=some p.2/\H p.1=none/\p.1≠X.env.locals/\p.1 ∉ X.fs/\∀v,p.2.data ≠ .cell v):Inv X pins' σ H s :=
 ⟨I.ok,I.os,I.bare,I.base,I.loc,I.cell,I.free,I.freeC,λp hp=>(XR.mp hp).elim (λz=>I.pin p (Xi _ z)) (h p),I.hok,I.len⟩
def zbK {N:AE}(hN:N.Nodup){i j:Nat}{x:Str}(a:N[i]?=some x)(b:N[j]?=some x):i=j:=by
 obtain⟨h1,e1⟩:=XW.mp a;obtain⟨h2,e2⟩:=XW.mp b;exact(List.getElem_inj hN).mp (e1.trans e2.symm)
def zaw {M:OX}{A:WT}{E:X9->X8->Prop}{i:Nat}{x:Str}{v:V}{u:X9}{Q:Unit->X8->Prop}(I:Inv X bQ σ H s)(hN:X.N.Nodup)(hi:X.N[i]?=some x)(hx:Loc X.env.scope x)(r:RelV v u)
  (h:∀s',Inv X bQ (σ.set i (some v)) H s'->(∃a,V5 a s.heap s'.heap/\(a=X.env.locals\/X.env.cells.lookup x=some a))->Q () s') (hf:X.fn x=true\/X.env.scope.names.lookup x=some .local:=by first | exact .inl rfl | exact .inr rfl | assumption):Xy M A (storeName X.env x u) Q E s:=by
 obtain⟨m,hn,hl⟩:=id I.loc;have hcls:(X.env.scope.kind == .class || (X.env.scope.kind == .module&&X.env.locals != X.env.globals))=false:=by rw[I.ok.kind];rfl
 have hiσ:i < σ.length:=by rw[I.len];exact(XW.mp hi).1
 have cne:=I.cne;have tracked:∀{a:Addr} {h':Heap},(∃o,s.heap.get? a=some o/\H a=none)->V5 a s.heap h'->HOk X.prog X.w H h':=λ{a h'} ha hs b ob e=>by
  obtain⟨_,_,hfree⟩:=ha;refine(I.hok b ob e).stay (λc w' hc q=>(hs.2 c ?_).trans q) (λ_ q=>q) λ_ _ q=>q;rintro rfl;rcases hc with rfl | hc
  .rw[hfree]at e;cases e
  .rw[hfree]at hc;cases hc
 rcases hx with hk | hk
 .refine wpAny_storeName_local hk hn (λh' hn' hs=>?_) hcls;obtain⟨oL,_,_,hoL,_⟩:=id hn;refine h _ ⟨I.ok,I.os,I.bare,⟨λb o e n hb hx=>?_,λb o e n hb hx=>?_,I.base.free,λb o e hx=>?_,I.base.tups,I.base.frzs,I.base.tbls⟩,⟨_,hn',λj y v' e1 e2 e3=>?_⟩,λy c e=>?_,I.free,I.freeC,λp hp=>?_,tracked ⟨oL,hoL,I.free⟩ hs,by simpa using I.len⟩ ⟨_,hs,.inl rfl⟩
  .exact(hs.2 b (Xk (Xu (XJ e) I.ok.above))).trans (I.base.keep b o e n hb hx)
  .obtain⟨sl,e1⟩:=I.base.slot b o e n hb hx;exact⟨sl,(hs.2 b (Xk (Xu (XJ e) I.ok.above))).trans e1⟩
  .obtain⟨o',e1⟩:=I.base.there b o e hx;exact⟨o',(hs.2 b (Xk (Xu (XJ e) I.ok.above))).trans e1⟩
  .by_cases hj:j=i
   .subst hj;rw[hi]at e1;cases e1;rw[Sl hiσ]at e2;cases e2;exact⟨u,r,.inl ⟨hk,by simp⟩⟩
   .rw[RR (Vm hj)]at e2;obtain⟨u',r',q⟩:=hl j y v' e1 e2 e3;refine⟨u',r',?_⟩;rcases q with ⟨k,e⟩ | ⟨k,c,e,z⟩
    .refine .inl ⟨k,?_⟩;have:y≠x:=λe=>hj (zbK hN e1 (e ▸ hi));simp[this,e]
    .exact .inr ⟨k,c,e,z.sameBut hs (cne y c e)⟩
  .obtain⟨w',z⟩:=I.cell y c e;exact⟨w',z.sameBut hs (cne y c e)⟩
  .obtain⟨e,n,ne,nf,d⟩:=I.pin p hp;exact⟨(hs.2 p.1 ne).trans e,n,ne,nf,d⟩
 .have hfn:X.fn x=true:=by
   rcases hf with z | z
   .exact z
   .rw[z]at hk;cases hk
  obtain⟨c,hc⟩:=I.ok.has x (.inl hk);obtain⟨w',z⟩:=I.cell x c hc;refine wpAny_storeName_cell I.ok.kind hk hc z (λh' hc' hs=>?_);obtain⟨oc,hoc,hocd⟩:=id z;refine h { s with heap:=h' } ⟨I.ok,I.os,I.bare,⟨λb o e n hb hx=>?_,λb o e n hb hx=>?_,I.base.free,λb o e hx=>?_,I.base.tups,I.base.frzs,I.base.tbls⟩,⟨m,hn.sameBut hs (Vm (cne x c hc)),λj y v' e1 e2 e3=>?_⟩,λy c' e=>?_,I.free,I.freeC,λp hp=>?_,tracked ⟨oc,hoc,I.freeC x c hc⟩ hs,by simpa using I.len⟩ ⟨c,hs,.inr hc⟩
  .exact(hs.2 b (Xk (Xu (XJ e) (I.ok.cab x c hfn hc)))).trans (I.base.keep b o e n hb hx)
  .obtain⟨sl,e1⟩:=I.base.slot b o e n hb hx;exact⟨sl,(hs.2 b (Xk (Xu (XJ e) (I.ok.cab x c hfn hc)))).trans e1⟩
  .obtain⟨o',e1⟩:=I.base.there b o e hx;exact⟨o',(hs.2 b (Xk (Xu (XJ e) (I.ok.cab x c hfn hc)))).trans e1⟩
  .by_cases hj:j=i
   .subst hj;rw[hi]at e1;cases e1;rw[Sl hiσ]at e2;cases e2;exact⟨u,r,.inr ⟨.inl hk,c,hc,hc'⟩⟩
   .rw[RR (Vm hj)]at e2;obtain⟨u',r',q⟩:=hl j y v' e1 e2 e3;refine⟨u',r',?_⟩;rcases q with q | ⟨k,c',e,z'⟩
    .exact .inl q
    .refine .inr ⟨k,c',e,z'.sameBut hs ?_⟩;rintro rfl;exact hj (zbK hN e1 (I.ok.inj _ _ _ e hc ▸ hi))
  .by_cases hcc:c'=c
   .subst hcc;exact⟨_,hc'⟩
   .obtain⟨w2,z2⟩:=I.cell y c' e;exact⟨w2,z2.sameBut hs hcc⟩
  .obtain⟨e,n,ne,nf,d⟩:=I.pin p hp;refine⟨(hs.2 p.1 ?_).trans e,n,ne,nf,d⟩;intro q;rw[q,hoc]at e;have q':oc=p.2:=Option.some.inj e;exact d w' (by rw[<- q'];exact hocd)
def zbL {M:OX}{A:WT}{E:X9->X8->Prop}{i:Nat}{x:Str}{v:V}{u:X9}{Q:Unit->X8->Prop}(I:Inv X bQ σ H s)(hN:X.N.Nodup)(hi:X.N[i]?=some x)(hx:Loc X.env.scope x)(r:RelV v u)
  (h:∀s',Inv X bQ (σ.set i (some v)) H s'->Q () s') (hf:X.fn x=true\/X.env.scope.names.lookup x=some .local:=by first | exact .inl rfl | exact .inr rfl | assumption):Xy M A (storeName X.env x u) Q E s :=
 zaw I hN hi hx r (λs' I' _=>h s' I') hf
def Inv.call' {s':X8}{ch:List Addr}(I:Inv X bQ σ H s)(ho:s'.os=s.os)(u:Un (frs X.stack) ch H H' s.heap s'.heap)(hok:HOk X.prog X.w H' s'.heap)(hg:SC s'.gens)
  (hch:∀b∈ch,(b∈X.ex\/X.s₀.heap.objs.size<=b)/\b≠X.env.locals/\(∀x c,X.env.cells.lookup x=some c->c≠b)/\∀p∈X.pn++bQ,p.1≠b):Inv X bQ σ H' s':=by
 obtain⟨h',g',d',t',o'⟩:=s';have e:o'=s.os:=ho;subst e;exact I.call (g':=g') (t':=t') (d':=d') u hok hg hch
end
abbrev XK:=X9->Option Addr->Hp->Prop
abbrev St:=List (Option V)
abbrev VK:=V->Hp->Prop
abbrev TE:=St->Hp->VK->Prop
abbrev TT:=St->Hp->(Bool->Hp->Prop)->Prop
abbrev TA:=St->Hp->(AF->Hp->Prop)->Prop
structure Ends where
 nx:St->Hp->Prop
 rt:VK
 bk:St->Hp->Prop:=λ_ _=>False
 ct:St->Hp->Prop:=λ_ _=>False
abbrev TS:=Ends->St->Hp->Prop
def EP (X:Cx)(bQ:List (Addr×Obj))(σ:St)(Q:VK)(u:X9)(s':X8):Prop:=∃v H',Inv X bQ σ H' s'/\RelV v u/\Q v H'
def TP (X:Cx)(bQ:List (Addr×Obj))(σ:St)(Q:Bool->Hp->Prop)(b:Bool)(s':X8):Prop:=∃H',Inv X bQ σ H' s'/\Q b H'
def AP (X:Cx)(bQ:List (Addr×Obj))(σ:St)(Q:AF->Hp->Prop)(us:List X9)(s':X8):Prop:=∃vs H',Inv X bQ σ H' s'/\Vals vs us/\Q vs H'
def SP (X:Cx)(bQ:List (Addr×Obj))(D:Ends)(f:Flow)(s':X8):Prop :=
 match f with
 | .next=>∃ σ' H',Inv X bQ σ' H' s'/\D.nx σ' H'
 | .brk=>∃ σ' H',Inv X bQ σ' H' s'/\D.bk σ' H'
 | .cont=>∃ σ' H',Inv X bQ σ' H' s'/\D.ct σ' H'
 | .ret u=>∃v σ' H',Inv X bQ σ' H' s'/\RelV v u/\D.rt v H'
def PE (X:Cx)(e:Expr)(t:TE):Prop :=
 ∀(bQ:List (Addr×Obj)) (s:X8) (σ:St) (H:Hp) (Q:VK),Inv X bQ σ H s->t σ H Q->Xy (Xo X.prog X.w) X.A (eval e X.env) (EP X bQ σ Q) X.xe s
def PT (X:Cx)(e:Expr)(t:TT):Prop :=
 ∀(bQ:List (Addr×Obj)) (s:X8) (σ:St) (H:Hp) (Q:Bool->Hp->Prop),Inv X bQ σ H s->t σ H Q->Xy (Xo X.prog X.w) X.A (isTrue e X.env (eval e X.env)) (TP X bQ σ Q) X.xe s
def PW (X:Cx)(e:Expr)(t:TT):Prop :=
 ∀(whole:Sem X9) (bQ:List (Addr×Obj)) (s:X8) (σ:St) (H:Hp) (Q:Bool->Hp->Prop),Inv X bQ σ H s->t σ H Q->Xy (Xo X.prog X.w) X.A (isTrue e X.env whole) (TP X bQ σ Q) X.xe s
def PW.pt {X:Cx}{e:Expr}{t:TT}(h:PW X e t):PT X e t:=h _
def PA (X:Cx)(es:List Expr)(t:TA):Prop :=
 ∀(pos:Pos) (bQ:List (Addr×Obj)) (s:X8) (σ:St) (H:Hp) (Q:AF->Hp->Prop),Inv X bQ σ H s->t σ H Q->Xy (Xo X.prog X.w) X.A (spliced (Tx pos (WR es X.env))) (AP X bQ σ Q) X.xe s
def PS (X:Cx)(st:Stmt)(t:TS):Prop :=
 ∀(bQ:List (Addr×Obj)) (s:X8) (σ:St) (H:Hp) (D:Ends),Inv X bQ σ H s->t D σ H->Xy (Xo X.prog X.w) X.A (exec st X.env) (SP X bQ D) X.xe s
def PSs (X:Cx)(st:List Stmt)(t:TS):Prop :=
 ∀(bQ:List (Addr×Obj)) (s:X8) (σ:St) (H:Hp) (D:Ends),Inv X bQ σ H s->t D σ H->Xy (Xo X.prog X.w) X.A (execs st X.env) (SP X bQ D) X.xe s
def thn {α:Type}{t:Sem α}{Q Q':α->X8->Prop}{M:OX}{A:WT}{E:X9->X8->Prop}{s:X8}(h:Xy M A t Q E s)(hQ:∀a s,Q a s->Q' a s):Xy M A t Q' E s:=WE h hQ λ_ _ x=>x
section
variable {X:Cx}
def zoQ (i:Nat):TE:=fun σ H Q=>∃v,σ[i]?=some (some v)/\Q v H
def tC (v:V):TE:=λ_ H Q=>Q v H
def znt {i:Nat}{x:Str}{pos:Pos}(hN:X.N[i]?=some x)(hv:Vis X.env.scope x)(hd:(x==("__debug__":Str))=false:=by decide)(hcd:(x==("__classdict__":Str))=false:=by decide):PE X (.Name x pos) (zoQ i):=by
 intro bQ s σ H Q I h;obtain⟨v,e,h⟩:=h;obtain⟨m,hn,hl⟩:=I.loc;obtain⟨u,r,l⟩:=hl i x v hN e hv;have fin:EP X bQ σ Q u s:=⟨v,H,I,r,h⟩;rcases l with ⟨hk,hm⟩ | ⟨hk,c,hc,hcell⟩
 .exact wpAny_Name (wpAny_loadName_local I.ok.kind hk hn hm fin) hd
 .rcases hk with hk | hk
  .exact wpAny_Name (wpAny_loadName_cell I.ok.kind hk hc hcell fin) hd
  .exact wpAny_Name (wpAny_loadName_free I.ok.kind hk hc hcell fin hcd) hd
def zm {i j pos}:PE X (.Constant (.int i) j pos) (tC (.int i)):=λ_ _ _ H _ I h=>wpAny_Constant_int ⟨.int i,H,I.tok _,⟨_,rfl⟩,h⟩
def zdd {b j pos}:PE X (.Constant (.bool b) j pos) (tC (.bl b)):=λ_ _ _ H _ I h=>Constant_bool ⟨.bl b,H,I,rfl,h⟩
def zax {j pos}:PE X (.Constant .none j pos) (tC .non):=λ_ _ _ H _ I h=>Constant_none ⟨.non,H,I,rfl,h⟩
def qe {x j pos}:PE X (.Constant (.str x) j pos) (tC (.str x)):=λ_ _ _ H _ I h=>Calls.Constant_str ⟨.str x,H,I.tok _,⟨_,rfl⟩,h⟩
def Gl (X:Cx)(x:Str):Prop:=X.env.kindOf x=some .globalImplicit
def QB {E:X9->X8->Prop}{bQ:List (Addr×Obj)}{s:X8}{σ:St}{H:Hp}{x:Str}{u:X9}{pos:Pos}{Q:X9->X8->Prop}(I:Inv X bQ σ H s)(hg:Gl X x)(hm:X.mg x=some u)(h:Q u s)
  (hd:(x==("__debug__":Str))=false:=by decide):Xy (Xo X.prog X.w) X.A (eval (.Name x pos) X.env) Q E s :=
 Rg I.ok.kind hg (Calls.loadGlobal_global (by rw[I.ok.glob];exact I.mod.glob.keeps I.bk) hm h) hd
def ZH {E:X9->X8->Prop}{bQ:List (Addr×Obj)}{s:X8}{σ:St}{H:Hp}{x:Str}{u:X9}{pos:Pos}{Q:X9->X8->Prop}(I:Inv X bQ σ H s)(hg:Gl X x)(hm:X.mg x=none)(hv:T0 x=some u)(h:Q u s)
  (hn:x ≠ "__name__":=by decide) (hd:(x==("__debug__":Str))=false:=by decide):Xy (Xo X.prog X.w) X.A (eval (.Name x pos) X.env) Q E s:=by
 obtain⟨mb,h1,h2⟩:=I.mod.blt;exact Rg I.ok.kind hg (Calls.loadGlobal_builtin (by rw[I.ok.glob];exact I.mod.glob.keeps I.bk) hm (by rw[I.ok.blt];exact h1.keeps I.bk) ((h2 x hn).trans hv) h) hd
def jn {x:Str}{v:V}{u:X9}{pos:Pos}(hg:Gl X x)(hm:X.mg x=some u)(r:RelV v u)(hd:(x==("__debug__":Str))=false:=by decide):PE X (.Name x pos) (tC v) :=
 λ_ _ _ H _ I h=>QB I hg hm ⟨v,H,I,r,h⟩ hd
def zd7 {x:Str}{v:V}{u:X9}{pos:Pos}(hg:Gl X x)(hm:X.mg x=none)(hv:T0 x=some u)(r:RelV v u)(hn:x ≠ "__name__":=by decide)(hd:(x==("__debug__":Str))=false:=by decide):PE X (.Name x pos) (tC v) :=
 λ_ _ _ H _ I h=>ZH I hg hm hv ⟨v,H,I,r,h⟩ hn hd
variable {a b:Expr}{ta tb:TE}{pos:Pos}
variable {tA tB':TT}{rest:List Expr}
def zp5 (t u:TT):TT:=fun σ H Q=>t σ H λc H1=>if c=true then u σ H1 Q else Q false H1
def tOr (t u:TT):TT:=fun σ H Q=>t σ H λc H1=>if c=true then Q true H1 else u σ H1 Q
def zp6 (t:TT):TT:=fun σ H Q=>t σ H λc H1=>Q (!c) H1
def zhn (ha:PT X a tA):PW X (.BoolOp .And [a] pos) tA:=by
 intro wh bQ s σ H Q I h;refine isTrue_and (thn (ha bQ s σ H Q I h) λc s1 e=>?_);cases c with
 | true=>exact isTrue_and_nil e
 | false=>exact e
def znu (ha:PT X a tA):PW X (.BoolOp .Or [a] pos) tA:=by
 intro wh bQ s σ H Q I h;refine isTrue_or (thn (ha bQ s σ H Q I h) λc s1 e=>?_);cases c with
 | false=>exact isTrue_or_nil e
 | true=>exact e
def zjr (ha:PT X a tA)(hb:PW X (.BoolOp .And (b::rest) pos) tB'):PW X (.BoolOp .And (a::b::rest) pos) (zp5 tA tB'):=by
 intro wh bQ s σ H Q I h;refine isTrue_and (thn (ha bQ s σ H _ I h) λc s1 ⟨H1,I1,q1⟩=>?_);cases c with
 | true=>exact hb wh bQ s1 σ H1 Q I1 q1
 | false=>exact⟨H1,I1,q1⟩
def zoR (ha:PT X a tA)(hb:PW X (.BoolOp .Or (b::rest) pos) tB'):PW X (.BoolOp .Or (a::b::rest) pos) (tOr tA tB'):=by
 intro wh bQ s σ H Q I h;refine isTrue_or (thn (ha bQ s σ H _ I h) λc s1 ⟨H1,I1,q1⟩=>?_);cases c with
 | true=>exact⟨H1,I1,q1⟩
 | false=>exact hb wh bQ s1 σ H1 Q I1 q1
def zbM (ha:PT X a tA):PT X (.UnaryOp .Not a pos) (zp6 tA):=by
 intro bQ s σ H Q I h;exact isTrue_not (ha bQ s σ H (λc H1=>Q (!c) H1) I h)
def zoS (ta tb:TE):TE:=fun σ H Q=>ta σ H λx H1=>∃c,x=.bl c/\if c=true then tb σ H1 Q else Q (.bl false) H1
def zp7 (ta tb:TE):TE:=fun σ H Q=>ta σ H λx H1=>∃c,x=.bl c/\if c=true then Q (.bl true) H1 else tb σ H1 Q
def zoT (ta:TE):TE:=fun σ H Q=>ta σ H λx H1=>∃c,x=.bl c/\Q (.bl (!c)) H1
def zay {op}{t:TE}(h:PE X a t):PE X (.BoolOp op [a] pos) t:=λbQ s σ H Q I hw=>BoolOp_one (h bQ s σ H Q I hw)
def Yb (ha:PE X a ta)(hb:PE X (.BoolOp .And (b::rest) pos) tb):PE X (.BoolOp .And (a::b::rest) pos) (zoS ta tb):=by
 intro bQ s σ H Q I h;refine BoolOp_and (thn (ha bQ s σ H _ I h) λv s1 ⟨x,H1,I1,r1,q1⟩=>?_);obtain⟨c,rfl,q1⟩:=q1;cases r1;refine VJ ?_;cases c with
 | true=>exact hb bQ s1 σ H1 Q I1 q1
 | false=>exact⟨.bl false,H1,I1,rfl,q1⟩
def zoU (ha:PE X a ta)(hb:PE X (.BoolOp .Or (b::rest) pos) tb):PE X (.BoolOp .Or (a::b::rest) pos) (zp7 ta tb):=by
 intro bQ s σ H Q I h;refine BoolOp_or (thn (ha bQ s σ H _ I h) λv s1 ⟨x,H1,I1,r1,q1⟩=>?_);obtain⟨c,rfl,q1⟩:=q1;cases r1;refine VJ ?_;cases c with
 | false=>exact hb bQ s1 σ H1 Q I1 q1
 | true=>exact⟨.bl true,H1,I1,rfl,q1⟩
def zjs (ha:PE X a ta):PE X (.UnaryOp .Not a pos) (zoT ta):=by
 intro bQ s σ H Q I h;refine UnaryOp_ (thn (ha bQ s σ H _ I h) λv s1 ⟨x,H1,I1,r1,q1⟩=>?_);obtain⟨c,rfl,q1⟩:=q1;cases r1;exact not_of (VJ ⟨.bl (!c),H1,I1,rfl,q1⟩)
end
def SqL (K:XY)(H:Hp)(a:Addr)(xs:AF):Prop :=
 Rd H a (.lst xs) \/
  ∃(o:Obj) (its:Array X9) (n:Nat),K.lookup a=some o/\o.cls=.type "list"/\o.dict=none/\o.data=.seq its n/\its.size<=Xz/\Vals xs its.toList
def SqT (K:XY)(H:Hp)(a:Addr)(xs:AF):Prop :=
 Rd H a (.tup xs) \/
  ∃(o:Obj) (its:Array X9) (n:Nat),K.lookup a=some o/\o.cls=.type "tuple"/\o.data=.seq its n/\its.size<=Xz/\Vals xs its.toList
def zp8:X9->Option V
 | .none=>some .non
 | .bool b=>some (.bl b)
 | .int i _=>some (.int i)
 | .str x _=>some (.str x)
 | .bytes b _=>some (.byt b)
 | .float b _=>some (.flt b)
 | .ref a=>some (.ref a)
 | .type n=>some (.ty n)
 | _=>none
def RelV.abs {x:V}{u:X9}(r:RelV x u):zp8 u=some x:=by
 cases x with
 | non=>cases r;rfl
 | bl _=>cases r;rfl
 | int _=>obtain⟨t,rfl⟩:=r;rfl
 | str _=>obtain⟨t,rfl⟩:=r;rfl
 | byt _=>obtain⟨t,rfl⟩:=r;rfl
 | flt _=>obtain⟨t,rfl⟩:=r;rfl
 | ref _=>cases r;rfl
 | ty _=>cases r;rfl
theorem RelV.inj {x y:V}{u:X9}(r:RelV x u)(q:RelV y u):x=y:=Option.some.inj (r.abs.symm.trans q.abs)
theorem Vals.inj:∀{xs ys:AF} {us:List X9},Vals xs us->Vals ys us->xs=ys
 | _,_,_,.nil,.nil=>rfl
 | _,_,_,.cons r t,.cons r' t'=>by rw[r.inj r',Vals.inj t t']
section
variable {X:Cx}{bQ:List (Addr×Obj)}{σ:St}{H:Hp}{s:X8}{a:Addr}{xs ys:AF}
def SqL.of {K:XY}(h:H a=some (.lst xs)):SqL K H a xs:=.inl (.inl h)
def SqT.of {K:XY}(h:H a=some (.tup xs)):SqT K H a xs:=.inl (.inl h)
def Inv.list (I:Inv X bQ σ H s)(h:SqL X.K H a xs):∃its:List X9,Vals xs its/\PlainL s.heap a its.toArray/\xs.length<=Xz:=by
 rcases h with h | ⟨o,its,n,hk,hc,hd,hs,hz,r⟩
 .obtain⟨z,its,n,r,e⟩:=h.ok I.hok;exact⟨its,r,⟨_,n,e,rfl,rfl,rfl⟩,z⟩
 .refine⟨its.toList,r,⟨o,n,I.kIn a o hk,hc,hd,by simpa using hs⟩,?_⟩;have e:=r.length;simp only[X7]at e;lia
def Inv.tuple (I:Inv X bQ σ H s)(h:SqT X.K H a xs):∃its:List X9,Vals xs its/\Nu s.heap a its.toArray/\xs.length<=Xz:=by
 rcases h with h | ⟨o,its,n,hk,hc,hs,hz,r⟩
 .obtain⟨z,its,r,p⟩:=h.ok I.hok;exact⟨its,r,p,z⟩
 .refine⟨its.toList,r,⟨o,I.kIn a o hk,hc,n,by simpa using hs⟩,?_⟩;have e:=r.length;simp only[X7]at e;lia
def Inv.list_inj (I:Inv X bQ σ H s)(h:SqL X.K H a xs)(h':SqL X.K H a ys):xs=ys:=by
 obtain⟨its,r,⟨o,n,e,_,_,d⟩,_⟩:=I.list h;obtain⟨its',r',⟨o',n',e',_,_,d'⟩,_⟩:=I.list h';rw[e]at e';cases e';rw[d]at d';injection d' with d1 _
 have:its=its':=by simpa using congrArg Array.toList d1
 subst this;exact r.inj r'
end
abbrev Cx.wish (X:Cx)(E:X9->X8->Prop):Cx:={ X with xe:=E }
abbrev Cx.nox (X:Cx):Cx:=X.wish λ_ _=>False
theorem Cx.Ok.wish {X:Cx}(ok:X.Ok)(E:X9->X8->Prop):(X.wish E).Ok :=
 ⟨ok.mod,ok.kind,ok.glob,ok.blt,ok.above,ok.inj,ok.has,ok.cab,ok.hd,ok.frames,ok.stk,ok.exf,ok.bs,ok.bsz,ok.noex,ok.exfs,ok.funs,ok.frf⟩
def Cx.Ok.unwish {X:Cx}{E:X9->X8->Prop}(ok:(X.wish E).Ok):X.Ok :=
 ⟨ok.mod,ok.kind,ok.glob,ok.blt,ok.above,ok.inj,ok.has,ok.cab,ok.hd,ok.frames,ok.stk,ok.exf,ok.bs,ok.bsz,ok.noex,ok.exfs,ok.funs,ok.frf⟩
section
variable {X:Cx}{bQ:List (Addr×Obj)}{σ:St}{H:Hp}{s:X8}{E:X9->X8->Prop}
theorem Inv.wish (I:Inv X bQ σ H s)(E:X9->X8->Prop):Inv (X.wish E) bQ σ H s:=⟨I.ok.wish E,I.os,I.bare,I.base,I.loc,I.cell,I.free,I.freeC,I.pin,I.hok,I.len⟩
theorem Inv.unwish (I:Inv (X.wish E) bQ σ H s):Inv X bQ σ H s:=⟨I.ok.unwish,I.os,I.bare,I.base,I.loc,I.cell,I.free,I.freeC,I.pin,I.hok,I.len⟩
theorem SP.unwish {D:Ends}{f:Flow}{s':X8}(h:SP (X.wish E) bQ D f s'):SP X bQ D f s':=by
 cases f with
 | next=>obtain⟨σ',H',I,q⟩:=h;exact⟨σ',H',I.unwish,q⟩
 | brk=>obtain⟨σ',H',I,q⟩:=h;exact⟨σ',H',I.unwish,q⟩
 | cont=>obtain⟨σ',H',I,q⟩:=h;exact⟨σ',H',I.unwish,q⟩
 | ret u=>obtain⟨v,σ',H',I,r,q⟩:=h;exact⟨v,σ',H',I.unwish,r,q⟩
theorem PSs.nox {st:List Stmt}{t:TS}(h:PSs X.nox st t):PSs X st t:=λbQ s σ H D I hw =>
 WE (h bQ s σ H D (I.wish _) hw) (λ_ _ q=>q.unwish) λ_ _ z=>UR z
end
section
variable {X:Cx}{st:Stmt}{rest:List Stmt}{t u:TS}{e:Expr}{te:TE}{pos:Pos}
def zoV:TS:=λD σ H=>D.nx σ H
def zp9 (t u:TS):TS:=λD σ H=>t { D with nx:=u D } σ H
def qp:PSs X [] zoV:=λ_ _ σ H _ I h=>RM ⟨σ,H,I,h⟩
def zf (h1:PS X st t)(h2:PSs X rest u):PSs X (st::rest) (zp9 t u):=by
 intro bQ s σ H D I h;refine Pw (thn (h1 bQ s σ H { D with nx:=u D } I h) λf s1 q=>?_);cases f with
 | next =>
  obtain⟨σ',H',I',q⟩:=q;exact h2 bQ s1 σ' H' D I' q
 | ret v=>exact q
 | brk=>exact q
 | cont=>exact q
def zg (h1:PS X st t):PSs X [st] t:=by
 intro bQ s σ H D I h;refine Pw (thn (h1 bQ s σ H D I h) λf s1 q=>?_);cases f with
 | next=>exact RM q
 | ret v=>exact q
 | brk=>exact q
 | cont=>exact q
def Inv.quiet {bQ:List (Addr×Obj)}{σ:St}{H:Hp}{s:X8}(I:Inv X bQ σ H s):interactive X.env=false:=by simp[interactive,I.ok.kind]
def zoW (te:TE):TS:=λD σ H=>te σ H λ_ H1=>D.nx σ H1
def j5 (he:PE X e te)(hs:Py e none pos.line X.env=pure false:=by rfl):PS X (.Expr e pos) (zoW te):=by
 intro bQ s σ H D I h;exact wpAny_Expr_any (thn (he bQ s σ H _ I h) λv s1 ⟨x,H1,I1,r1,q1⟩=>⟨σ,H1,I1,q1⟩) I.quiet hs
def zqa (te:TE):TS:=λD σ H=>te σ H D.rt
def zL (he:PE X e te):PS X (.Return (some e) pos) (zqa te):=by
 intro bQ s σ H D I h;exact wpAny_Return_some (thn (he bQ s σ H _ I h) λv s1 ⟨x,H1,I1,r1,q1⟩=>⟨x,σ,H1,I1,r1,q1⟩)
def zqb (c:TT)(t u:TS):TS:=λD σ H=>c σ H λb H1=>if b=true then t D σ H1 else u D σ H1
def jm {c:Expr}{a b:List Stmt}{tc:TT}(hc:PT X c tc)(ha:PSs X a t)(hb:PSs X b u):PS X (.If c a b pos) (zqb tc t u):=by
 intro bQ s σ H D I h;refine wpAny_If (thn (hc bQ s σ H _ I h) λd s1 ⟨H1,I1,q1⟩=>?_);cases d with
 | true=>exact ha bQ s1 σ H1 D I1 q1
 | false=>exact hb bQ s1 σ H1 D I1 q1
end
abbrev TG:=V->St->Hp->(St->Hp->Prop)->Prop
abbrev TGs:=AF->St->Hp->(St->Hp->Prop)->Prop
def PG (X:Cx)(target:Expr)(t:TG):Prop :=
 ∀(bQ:List (Addr×Obj)) (s:X8) (σ:St) (H:Hp) (v:V) (u:X9) (Q:St->Hp->Prop),Inv X bQ σ H s->RelV v u->t v σ H Q ->
  Xy (Xo X.prog X.w) X.A (OE target X.env u) (λ_ s'=>∃ σ' H',Inv X bQ σ' H' s'/\Q σ' H') X.xe s
def PGs (X:Cx)(ts:List Expr)(t:TGs):Prop :=
 ∀(bQ:List (Addr×Obj)) (s:X8) (σ:St) (H:Hp) (vs:AF) (us:List X9) (Q:St->Hp->Prop),Inv X bQ σ H s->Vals vs us->t vs σ H Q ->
  Xy (Xo X.prog X.w) X.A (assignInOrder ((SS ts X.env).map (·.2)) us) (λ_ s'=>∃ σ' H',Inv X bQ σ' H' s'/\Q σ' H') X.xe s
abbrev zjt:=V->V->V->Hp->(Hp->Prop)->Prop
def znv (X:Cx)(t:zjt):Prop :=
 ∀(bQ:List (Addr×Obj)) (s:X8) (σ:St) (H:Hp) (o i v:V) (ov iv u:X9) (Q:Hp->Prop),Inv X bQ σ H s->RelV o ov->RelV i iv->RelV v u->t o i v H Q ->
  Xy (Xo X.prog X.w) X.A (setItem ov iv u) (λ_ s'=>∃H',Inv X bQ σ H' s'/\Q H') X.xe s
abbrev TIp:=V->V->Hp->VK->Prop
def PIp (X:Cx)(op:Operator)(t:TIp):Prop :=
 ∀(bQ:List (Addr×Obj)) (s:X8) (σ:St) (H:Hp) (x y:V) (v u:X9) (Q:VK),Inv X bQ σ H s->RelV x v->RelV y u->t x y H Q ->
  Xy (Xo X.prog X.w) X.A (inplaceOp op v u) (EP X bQ σ Q) X.xe s
section
variable {X:Cx}{pos:Pos}
def yr (i:Nat):TG:=λv σ H Q=>Q (σ.set i (some v)) H
def zo {i:Nat}{x:Str}(hN:X.N.Nodup)(hi:X.N[i]?=some x)(hx:Loc X.env.scope x)(hf:X.fn x=true\/X.env.scope.names.lookup x=some .local:=by first | exact .inl rfl | exact .inr rfl | assumption):PG X (.Name x pos) (yr i):=by
 intro bQ s σ H v u Q I r h;exact P6 (zbL I hN hi hx r (λs' I'=>⟨_,H,I',h⟩) hf)
def zqc:TGs:=λvs σ H Q=>vs=[]/\Q σ H
def zoX (t:TG)(u:TGs):TGs:=λvs σ H Q=>∃v r,vs=v::r/\t v σ H fun σ' H'=>u r σ' H' Q
def jE:PGs X [] zqc:=by
 intro bQ s σ H vs us Q I r h;obtain⟨e,h⟩:=h;subst e;cases r;exact assignInOrder_nil ⟨σ,H,I,h⟩
def zP {e:Expr}{es:List Expr}{t:TG}{u:TGs}(h1:PG X e t)(h2:PGs X es u)
  (hs:(SS (e::es) X.env).map (·.2)=OE e X.env::(SS es X.env).map (·.2):=by rfl):PGs X (e::es) (zoX t u):=by
 intro bQ s σ H vs us Q I r h;obtain⟨v,vr,e1,h⟩:=h;subst e1;cases r with
 | cons r rr =>
  rw[hs];refine assignInOrder_cons (thn (h1 bQ s σ H _ _ _ I r h) λ_ s1 ⟨σ1,H1,I1,q1⟩=>?_);exact h2 bQ s1 σ1 H1 _ _ Q I1 rr q1
def zoY (K:XY)(n:Nat)(t:TGs):TG:=λv σ H Q=>∃a xs,v=.ref a/\SqT K H a xs/\xs.length=n/\t xs σ H Q
def Jo {es:List Expr}{k:Nat}{t:TGs}{n:Nat}(hc:X.calm=true)(h:PGs X es t)
  (hn:(SS es X.env).length=n:=by rfl) (hst:(SS es X.env).findIdx? (·.1)=none:=by rfl):PG X (.Tuple es k pos) (zoY X.K n t):=by
 intro bQ s σ H v u Q I r hw;obtain⟨a,xs,e1,hq,hl,hw⟩:=hw;subst e1;cases r;obtain⟨its,rv,ht,hz⟩:=I.tuple hq;refine assign_Tuple_tuple (I.ok.hd hc) ht (by simp[hn,<- hl,rv.length]) hst λh' hx=>?_;have I1:Inv X bQ σ H { s with heap:=h' }:=I.kept (t':=s.toks) λb o e=>hx b o (Xk (XJ e)) e;exact h bQ _ σ H xs _ Q I1 (by simpa using rv) hw
def zqd (to ti:TE)(t:zjt):TG:=λv σ H Q=>to σ H λo H1=>ti σ H1 λi H2=>t o i v H2 λH3=>Q σ H3
def zju {o i:Expr}{to ti:TE}{t:zjt}(ho:PE X o to)(hi:PE X i ti)(hs:znv X t)
  (ha:∀v,OE (.Subscript o i pos) X.env v=(do
   let ov <- Ob [v] (eval o X.env)
   let iv <- Ob [v,ov] (eval i X.env)
   standAt pos
   Ob [v,ov,iv] (setItem ov iv v)
   release [v,ov,iv] []):=by intro _;rfl):PG X (.Subscript o i pos) (zqd to ti t):=by
 intro bQ s σ H v u Q I r h;rw[ha];refine ZB (W1 (thn (ho bQ s σ H _ I h) λov s1 ⟨x,H1,I1,r1,q1⟩=>?_));refine ZB (W1 (thn (hi bQ s1 σ H1 _ I1 q1) λiv s2 ⟨y,H2,I2,r2,q2⟩=>?_));refine ZB (UH (ZB (W1 (thn (hs bQ s2 σ H2 x y v ov iv u _ I2 r1 r2 r q2) λ_ s3 ⟨H3,I3,q3⟩=>?_))));exact wpAny_release ⟨σ,H3,I3,q3⟩
def zlG (te:TE)(g:TG):TS:=λD σ H=>te σ H λx H1=>g x σ H1 D.nx
def zd8 {tg e:Expr}{te:TE}{g:TG}(he:PE X e te)(hg:PG X tg g)(hs:swapsWithSole [tg] e pos.line X.env=pure false:=by rfl)(hw:swappedStores [tg] e X.env=pure none:=by rfl)
  (h1:(SS [tg] X.env).map (·.2)=[OE tg X.env]:=by rfl):PS X (.Assign [tg] e pos) (zlG te g):=by
 intro bQ s σ H D I h;refine wpAny_Assign_stores (thn (he bQ s σ H _ I h) λv s1 ⟨x,H1,I1,r1,q1⟩=>?_) hs hw;rw[h1];exact thn (hg bQ s1 σ H1 x v _ I1 r1 q1) λ_ s2 q=>q
def zv {i:Nat}{x:Str}{e:Expr}{te:TE}{pos':Pos}(hN:X.N.Nodup)(hi:X.N[i]?=some x)(hx:Loc X.env.scope x)(he:PE X e te)(hs:Py e (some (.Name x pos')) pos.line X.env=pure false:=by rfl)(hf:X.fn x=true\/X.env.scope.names.lookup x=some .local:=by first | exact .inl rfl | exact .inr rfl | assumption) :
  PS X (.Assign [.Name x pos'] e pos) (zlG te (yr i)):=by
 intro bQ s σ H D I h;refine wpAny_Assign_Name (thn (he bQ s σ H _ I h) λv s1 ⟨y,H1,I1,r1,q1⟩=>?_) hs;exact zbL I1 hN hi hx r1 (λs2 I2=>⟨_,H1,I2,q1⟩) hf
def zoZ (to ti te:TE)(tget:V->V->Hp->VK->Prop)(tip:TIp)(tset:zjt):TS:=λD σ H=>to σ H λo H1=>ti σ H1 λi H2=>tget o i H2 λx H3=>te σ H3 λy H4=>tip x y H4 λz H5=>tset o i z H5 λH6=>D.nx σ H6
def zo0 (X:Cx)(t:V->V->Hp->VK->Prop):Prop :=
 ∀(bQ:List (Addr×Obj)) (s:X8) (σ:St) (H:Hp) (o i:V) (ov iv:X9) (Q:VK),Inv X bQ σ H s->RelV o ov->RelV i iv->t o i H Q ->
  Xy (Xo X.prog X.w) X.A (Oa ov iv) (EP X bQ σ Q) X.xe s
def zho {o i e:Expr}{to ti te:TE}{tget:V->V->Hp->VK->Prop}{tip:TIp}{tset:zjt}{op:Operator}{tpos:Pos}(ho:PE X o to)(hi:PE X i ti)(hg:zo0 X tget)(he:PE X e te)(hp:PIp X op tip)(hs:znv X tset)
  (ha:∀ov iv new,augStore i ov iv new=(do Ob [new,ov,iv] (setItem ov iv new);release [new,ov,iv] [];pure .next):=by intros;rfl):PS X (.AugAssign (.Subscript o i tpos) op e pos) (zoZ to ti te tget tip tset):=by
 intro bQ s σ H D I h;refine wpAny_AugAssign_SubscriptAny (thn (ho bQ s σ H _ I h) λov s1 ⟨x1,H1,I1,r1,q1⟩=>?_) ha;refine thn (hi bQ s1 σ H1 _ I1 q1) λiv s2 ⟨x2,H2,I2,r2,q2⟩=>?_;refine thn (hg bQ s2 σ H2 x1 x2 ov iv _ I2 r1 r2 q2) λold s3 ⟨x3,H3,I3,r3,q3⟩=>?_;refine thn (he bQ s3 σ H3 _ I3 q3) λv s4 ⟨x4,H4,I4,r4,q4⟩=>?_;refine thn (hp bQ s4 σ H4 x3 x4 old v _ I4 r3 r4 q4) λnew s5 ⟨x5,H5,I5,r5,q5⟩=>?_;exact thn (hs bQ s5 σ H5 x1 x2 x5 ov iv new _ I5 r1 r2 r5 q5) λ_ s6 ⟨H6,I6,q6⟩=>⟨σ,H6,I6,q6⟩
def ipI (f:Int->Int->Int):TIp:=λx y H Q=>∃i j,x=.int i/\y=.int j/\Q (.int (f i j)) H
def zjv:PIp X .Add (ipI λi j=>i+j):=by
 intro bQ s σ H x y v u Q I r1 r2 h;obtain⟨i,j,e1,e2,q⟩:=h;subst e1;subst e2;obtain⟨t,rfl⟩:=r1;obtain⟨t',rfl⟩:=r2;exact iadd_int ⟨.int _,H,I.tok _,⟨_,rfl⟩,q⟩
end
structure It where
 go:Nat->Hp->Prop
 yld:Nat->Hp->V->Hp->Prop
 stop:Nat->Hp->Prop
def YX (X:Cx)(bQ:List (Addr×Obj))(H:Hp)(b:Addr):Prop :=
 H b=none/\b≠X.env.locals/\b ∉ X.fs/\(b∈X.ex\/X.s₀.heap.objs.size<=b)/\(∀x c,X.env.cells.lookup x=some c->c≠b)/\∀p∈X.pn++bQ,p.1≠b
def Inv.fpOk {X:Cx}{bQ:List (Addr×Obj)}{σ:St}{H H':Hp}{s:X8}{b:Addr}(I:Inv X bQ σ H s)(hb:s.heap.objs.size<=b)(hn:H' b=none):YX X bQ H' b:=by
 refine⟨hn,Us (Xu I.lt hb),I.nofs hb,.inr (X0 I.sz hb),λx c e z=>?_,λp hp z=>?_⟩
 .obtain⟨v,q⟩:=I.cell x c e;exact absurd (Xu q.lt (by rw[z];exact hb)) (V8 _)
 .exact absurd (Xu (XJ (I.pin p hp).1) (by rw[z];exact hb)) (V8 _)
structure Turn (P:Xd)(w:WV)(K:XY)(tg:Expr)(J:It)(fp:List Addr)(it:Addr)(tn:Nat->Heap->Prop):Prop where
 mem:it∈fp
 obj:∀i h,tn i h->∀b∈fp,∃o,h.get? b=some o/\∀v,o.data ≠ .cell v
 keep:∀i h h',tn i h->(∀b∈fp,∀o,h.get? b=some o->h'.get? b=some o)->tn i h'
 item:∀(X:Cx),X.prog=P->X.w=w->X.K=K->X.calm=true->∀(i:Nat) (bQ:List (Addr×Obj)) (s:X8) (σ:St) (H:Hp) (E:X9->X8->Prop),Inv X bQ σ H s->(∀b∈fp,YX X bQ H b)->tn i s.heap->J.go i H ->
  Xy (Xo P w) X.A (SV (.ref it)) (λr s1=>∃u,r=some u /\
   Xy (Xo P w) X.A (RL tg (.ref it) u) (λ_ s2=>∃x H',Inv X bQ σ H' s2/\RelV x u/\J.yld i H x H'/\tn (i+1) s2.heap/\∀b∈fp,H' b=none) E s1) E s
 done:∀(X:Cx),X.prog=P->X.w=w->X.K=K->X.calm=true->∀(i:Nat) (bQ:List (Addr×Obj)) (s:X8) (σ:St) (H:Hp) (E:X9->X8->Prop),Inv X bQ σ H s->(∀b∈fp,YX X bQ H b)->tn i s.heap->J.stop i H ->
  Xy (Xo P w) X.A (SV (.ref it)) (λr s1=>r=none/\Inv X bQ σ H s1) E s
 self:∀(A:WT) (i:Nat) (s:X8) (Q:X9->X8->Prop) (E:X9->X8->Prop),tn i s.heap->Q (.ref it) s->Xy (Xo P w) A (NT (.ref it)) Q E s
abbrev TI:=St->Hp->(It->Hp->Prop)->Prop
def PIE (X:Cx)(bQ:List (Addr×Obj))(σ:St)(tg:Expr)(R:It->Hp->Prop)(itv:X9)(s2:X8):Prop :=
 ∃(it:Addr) (fp:List Addr) (tn:Nat->Heap->Prop) (J:It) (H':Hp),itv=.ref it/\Inv X bQ σ H' s2/\Turn X.prog X.w X.K tg J fp it tn/\tn 0 s2.heap/\(∀b∈fp,YX X bQ H' b)/\R J H'
def PI (X:Cx)(tg iter:Expr)(wi:TI):Prop :=
 ∀(bQ:List (Addr×Obj)) (s:X8) (σ:St) (H:Hp) (R:It->Hp->Prop),Inv X bQ σ H s->wi σ H R ->
  Xy (Xo X.prog X.w) X.A (eval iter X.env) (λv s1=>Xy (Xo X.prog X.w) X.A (NT v) (PIE X bQ σ tg R) X.xe s1) X.xe s
def zmY {M:OX}{A:WT}{E:X9->X8->Prop}{s:X8}{tg:Expr}{it:Addr}{u:X9}{o:Obj}{n:String}{vs:Array X9}{Q:Unit->X8->Prop}(ho:s.heap.get? it=some o)(hc:o.cls=.type n)(hd:o.data=.fields vs)
    (hn:["enumerate","zip","dict_itemiterator","dict_reverseitemiterator","odict_iterator","itertools.zip_longest","itertools.pairwise"].contains n=false) (hQ:Q () s):Xy M A (RL tg (.ref it) u) Q E s:=by
  unfold RL;cases tg<;>first
    | exact X4 hQ
    | (cases u<;>first
        | exact X4 hQ
        | (refine ZB (wpAny_load ho ?_)
           rw[hc,hd]
           show Xy M A (if (["enumerate","zip","dict_itemiterator","dict_reverseitemiterator","odict_iterator","itertools.zip_longest","itertools.pairwise"].contains n&&vs[0]?==some (T2 _))=true then _ else _) Q E s
           rw[bq (by intro h;rw[hn,Tt]at h;cases h)]
           exact X4 hQ))
def Itl (K:XY)(a:Addr):It :=
 ⟨λi H=>∃xs x,SqL K H a xs/\xs[i]?=some x,λi H x H'=>H'=H/\∀xs,SqL K H a xs->xs[i]?=some x,λi H=>∃xs,SqL K H a xs/\xs.length<=i⟩
def Itr (lo:Int)(n:Nat):It:=⟨λi _=>i<n,λi H x H'=>H'=H/\x=.int (lo+i),λi _=>n<=i⟩
def zh5 {P:Xd}{w:WV}{K:XY}{tg:Expr}(a it:Addr):Turn P w K tg (Itl K a) [it] it (λi h=>h.IsListIter it a i) where
 mem:=by simp
 obj:=λi h st b hb=>by
  have e:b=it:=by simpa using hb
  subst e;obtain⟨o,e,c,d⟩:=st;exact⟨o,e,λv z=>by rw[d]at z;cases z⟩
 keep:=λi h h' st k=>st.at λo e=>k it (by simp) o e
 item:=by
  intro X hP hw hK hc i bQ s σ H E I hf st hg;subst hP hw hK;obtain⟨xs,x,hq,hx⟩:=hg;obtain⟨its,rv,p,hz⟩:=I.list hq;obtain⟨u,hu,ru⟩:=rv.get hx;obtain⟨f0,f1,f2,f3,f4,f5⟩:=hf it (by simp);refine wpAny_pyNext_list_item st p.isList (x:=u) (by simpa using hu) λh' st' sb=>?_;have I1:Inv X bQ σ H { s with heap:=h' }:=I.turned (t':=s.toks) (λb o hb e=>(sb.2 b hb).trans e) f0 f1 f3 f4 f5;obtain⟨o,e,c,d⟩:=id st';exact⟨u,rfl,zmY (s:={ s with heap:=h' }) e c d (by decide) ⟨x,H,I1,ru,⟨rfl,λys hy=>by rw[I.list_inj hy hq];exact hx⟩,st',λb hb=>(hf b hb).1⟩⟩
 done:=by
  intro X hP hw hK hc i bQ s σ H E I hf st hg;subst hP hw hK;obtain⟨xs,hq,hx⟩:=hg;obtain⟨its,rv,p,hz⟩:=I.list hq;obtain⟨f0,f1,f2,f3,f4,f5⟩:=hf it (by simp);have hl:=rv.length;exact wpAny_pyNext_list_end (I.ok.hd hc) st p.isList (by simp;lia) λh' eb=>⟨rfl,I.turned (t':=s.toks) (λb o hb e=>eb b o hb e) f0 f1 f3 f4 f5⟩
 self:=λ_ _ _ _ _ st h=>wpAny_pyIter_listiter st h
def zgh {P:Xd}{w:WV}{K:XY}{tg:Expr}(it:Addr)(lo:Int)(n:Nat):Turn P w K tg (Itr lo n) [it] it (λi h=>IsRangeIter h it (lo+(i:Nat)*1) ((n:Int)-(i:Nat)) 1) where
 mem:=by simp
 obj:=λi h st b hb=>by
  have e:b=it:=by simpa using hb
  subst e;exact⟨_,st,λv z=>by
   have z':Data.fields _=Data.cell v:=z;cases z'⟩
 keep:=λi h h' st k=>k it (by simp) _ st
 item:=by
  intro X hP hw hK hc i bQ s σ H E I hf st hg;subst hP hw hK;obtain⟨f0,f1,f2,f3,f4,f5⟩:=hf it (by simp);have W:=Walks.range (prog:=X.prog) (w:=X.w) (I.ok.hd hc) it lo 1 n;refine W.item i s _ _ hg st λv h' tk hv st' kk=>?_;obtain⟨t,rfl⟩:=hv;have I1:Inv X bQ σ H { s with heap:=h',toks:=tk }:=I.turned (λb o hb e=>kk b o (by simpa using hb) e) f0 f1 f3 f4 f5;refine⟨_,rfl,zmY (s:={ s with heap:=h',toks:=tk }) (n:="range_iterator") st' rfl rfl (by decide) ⟨.int (lo+i),H,I1,⟨t,?_⟩,⟨rfl,rfl⟩,st',λb hb=>(hf b hb).1⟩⟩;rw[Int.mul_one]
 done:=by
  intro X hP hw hK hc i bQ s σ H E I hf st hg;subst hP hw hK;obtain⟨f0,f1,f2,f3,f4,f5⟩:=hf it (by simp);exact wpAny_pyNext_range_end (I.ok.hd hc) st (by have:n<=i:=hg;lia) λh' eb=>⟨rfl,I.turned (t':=s.toks) (λb o hb e=>eb b o hb e) f0 f1 f3 f4 f5⟩
 self:=λ_ _ _ _ _ st h=>wpAny_pyIter_rangeiter st h
section
variable {X:Cx}{tg:Expr}
def zmZ (K:XY)(tl:TE):TI:=fun σ H R=>tl σ H λx H1=>∃a,x=.ref a/\(∃xs,SqL K H1 a xs)/\R (Itl K a) H1
def z4 {l:Expr}{tl:TE}(hl:PE X l tl):PI X tg l (zmZ X.K tl):=by
 intro bQ s σ H R I h;refine thn (hl bQ s σ H _ I h) λv s1 ⟨x,H1,I1,r1,q1⟩=>?_;obtain⟨a,e,⟨xs,hq⟩,q⟩:=q1;subst e;cases r1;obtain⟨its,rv,p,hz⟩:=I1.list hq;refine Ur p.isList ?_;refine⟨s1.heap.objs.size,[s1.heap.objs.size],_,_,H1,rfl,I1.kept (t':=s1.toks) λb o e=>X6 _ e,zh5 a _,⟨_,Xe _ rfl,rfl,rfl⟩,λb hb=>?_,q⟩;have e:b=s1.heap.objs.size:=by simpa using hb
 subst e;exact I1.fpOk (XU _) (I1.hok.fresh (XU _))
def zeU {bQ:List (Addr×Obj)}{σ:St}{H:Hp}{s:X8}{R:It->Hp->Prop}{E:X9->X8->Prop}{lo hi:Int}{t u v:Tok}{tk:Nat}(I:Inv X bQ σ H s)(h1:-(2^62)<=lo)(h2:lo<2^62)(h3:-(2^62)<=hi)(h4:hi<2^62)
  (q:R (Itr lo (hi-lo).toNat) H):Xy (Xo X.prog X.w) X.A (NT (.ref s.heap.objs.size)) (PIE X bQ σ tg R) E { s with heap:=s.heap.push { cls:=.type "range",data:=.fields #[.int lo t,.int hi u,.int 1 v] },toks:=tk }:=by
 refine wpAny_pyIter_range (IsRange.new ..) (small_one h1 h2 h3 h4) ?_;have I1:Inv X bQ σ H { s with heap:=s.heap.push { cls:=.type "range",data:=.fields #[.int lo t,.int hi u,.int 1 v] },toks:=tk }:=I.kept λb o e=>X6 _ e;refine⟨(s.heap.push { cls:=.type "range",data:=.fields #[.int lo t,.int hi u,.int 1 v] }).objs.size,[(s.heap.push { cls:=.type "range",data:=.fields #[.int lo t,.int hi u,.int 1 v] }).objs.size],_,_,H,rfl,
  I1.kept (t':=tk) λb o e=>X6 _ e,zgh _ lo (hi-lo).toNat,?_,λb hb=>?_,q⟩
 .have e1:lo+((0:Nat):Int)*1=lo:=by simp
  have e2:(((hi-lo).toNat:Nat):Int)-((0:Nat):Int)=Builtin.Range.rangeSize lo hi 1:=by rw[rangeSize_one];split<;>lia
  show IsRangeIter _ _ (lo+((0:Nat):Int)*1) ((((hi-lo).toNat:Nat):Int)-((0:Nat):Int)) 1;rw[e1,e2];exact Xe _ rfl
 .have e:b=(s.heap.push { cls:=.type "range",data:=.fields #[.int lo t,.int hi u,.int 1 v] }).objs.size:=by simpa using hb
  subst e;exact I1.fpOk (XU _) (I1.hok.fresh (XU _))
def zo1 (ta:TA):TI:=fun σ H R=>ta σ H λvs H1=>∃j:Int,vs=[.int j]/\-(2^62)<=j/\j<2^62/\R (Itr 0 j.toNat) H1
def zo2 (ta:TA):TI:=fun σ H R=>ta σ H λvs H1=>∃i j:Int,vs=[.int i,.int j]/\(-(2^62)<=i/\i<2^62/\-(2^62)<=j/\j<2^62)/\R (Itr i (j-i).toNat) H1
def qW {a:Expr}{ta:TA}{p pos:Pos}(hg:Gl X "range")(hm:X.mg "range"=none)(ha:PA X [a] ta)(hs:WR [a] X.env=[(false,eval a X.env)]:=by rfl):PI X tg (.Call (.Name "range" p) [a] [] pos) (zo1 ta):=by
 intro bQ s σ H R I h;refine Call_ (ZH I hg hm boot_range (VF (thn (ha pos bQ s σ H _ I h) λus s1 ⟨vs,H1,I1,r1,q1⟩=>?_) hs rfl));obtain⟨j,e,q1,q2,q⟩:=q1;subst e;cases r1 with
 | cons r rr =>
  cases rr;obtain⟨t,rfl⟩:=r;exact call_range_1 (zeU I1 (by lia) (by lia) q1 q2 (by simpa using q))
def YF {a b:Expr}{ta:TA}{p pos:Pos}(hg:Gl X "range")(hm:X.mg "range"=none)(ha:PA X [a,b] ta)(hs:WR [a,b] X.env=[(false,eval a X.env),(false,eval b X.env)]:=by rfl)(hs2:WR [b] X.env=[(false,eval b X.env)]:=by rfl) :
  PI X tg (.Call (.Name "range" p) [a,b] [] pos) (zo2 ta):=by
 intro bQ s σ H R I h;refine Call_ (ZH I hg hm boot_range (VF (thn (ha pos bQ s σ H _ I h) λus s1 ⟨vs,H1,I1,r1,q1⟩=>?_) (by rw[hs,hs2]) (by rw[hs2];rfl)));obtain⟨i,j,e,⟨q1,q2,q3,q4⟩,q⟩:=q1;subst e;cases r1 with
 | cons r rr =>
  cases rr with
  | cons r' rr =>
   cases rr;obtain⟨t,rfl⟩:=r;obtain⟨t',rfl⟩:=r';exact call_range_2 (zeU I1 q1 q2 q3 q4 q)
def zqe (wi:TI)(g:TG)(tb:TS):TS:=λD σ H=>wi σ H λJ H1=>∃W:Nat->Nat->St->Hp->Prop,(∃m,W 0 m σ H1)/\∀i m σ H,W i m σ H ->
 (J.stop i H/\D.nx σ H)\/(J.go i H/\∃N:St->Hp->Prop,(∀ σ' H',N σ' H'->∃m',m'<m/\W (i+1) m' σ' H')/\∀x H',J.yld i H x H'->g x σ H' fun σ2 H2=>tb { D with nx:=N,ct:=N,bk:=D.nx } σ2 H2)
def zaz (fp:List Addr)(h:Heap):List (Addr×Obj):=fp.filterMap λb=>(h.get? b).map λo=>(b,o)
def yK {fp:List Addr}{h:Heap}{b:Addr}{o:Obj}(hb:b∈fp)(e:h.get? b=some o):(b,o)∈zaz fp h:=U5.mpr ⟨b,hb,by rw[e];rfl⟩
def zh6 {fp:List Addr}{h:Heap}{p:Addr×Obj}(hp:p∈zaz fp h):p.1∈fp/\h.get? p.1=some p.2:=by
 obtain⟨b,hb,e⟩:=U5.mp hp;cases q:h.get? b with
 | none=>rw[q]at e;cases e
 | some o =>
  rw[q]at e;have e':(b,o)=p:=Option.some.inj e;subst e';exact⟨hb,q⟩
def Inv.pinned {bQ:List (Addr×Obj)}{σ:St}{H:Hp}{s:X8}{fp:List Addr}(I:Inv X bQ σ H s)(hf:∀b∈fp,YX X bQ H b)(ho:∀b∈fp,∃o,s.heap.get? b=some o/\∀v,o.data ≠ .cell v):Inv X (bQ++zaz fp s.heap) σ H s :=
 I.pins_of λp hp=>(XR.mp hp).elim (λz=>I.pin p (XC _ z)) λz=>by
  obtain⟨hb,e⟩:=zh6 z;obtain⟨f0,f1,f2,_⟩:=hf p.1 hb;obtain⟨o,e',d⟩:=ho p.1 hb;rw[e]at e';cases e';exact⟨e,f0,f1,f2,d⟩
def Inv.unpinned {bQ pl:List (Addr×Obj)}{σ:St}{H:Hp}{s:X8}(I:Inv X (bQ++pl) σ H s):Inv X bQ σ H s:=I.pins_of λp hp=>I.pin p (XC _ (Xi _ hp))
def qq {iter:Expr}{body:List Stmt}{wi:TI}{g:TG}{tb:TS}{pos:Pos}(hp:PassesOwn (Xo X.prog X.w) X.A X.env X.xe)(hc:X.calm=true)(hi:PI X tg iter wi)(hg:PG X tg g)(hb:PSs X body tb)
  (hs:∀x,VI iter X.env x=pure x:=by intro _;rfl):PS X (.For tg iter body [] pos) (zqe wi g tb):=by
 intro bQ s σ H D I h;refine wpAny_For (thn (hi bQ s σ H _ I h) λv s1 h1=>thn h1 λitv s2 h2=>?_) hs;obtain⟨it,fp,tn,J,H2,e,I2,T,st2,f2,W,⟨m0,w0⟩,turn⟩:=h2;subst e;have stat:∀{H':Hp},(∀b∈fp,H' b=none)->∀b∈fp,YX X bQ H' b:=λhn b hb=>⟨hn b hb,(f2 b hb).2⟩;refine codeAny_forLoop_any (λn s'=>∃i σ' H',Inv X bQ σ' H' s'/\tn i s'.heap/\(∀b∈fp,H' b=none)/\W i n σ' H') ?_ m0 ⟨0,σ,H2,I2,st2,λb hb=>(f2 b hb).1,w0⟩;rintro n s3 ⟨i,σ3,H3,I3,st3,fr3,w3⟩;rcases turn i n σ3 H3 w3 with ⟨stop,qn⟩ | ⟨go,N,hN,step⟩
 .refine S1 hp (thn (T.done X rfl rfl rfl hc i bQ s3 σ3 H3 X.xe I3 (stat fr3) st3 stop) λr s4 ⟨hr,I4⟩=>?_);subst hr;exact RM ⟨σ3,H3,I4,qn⟩
 .refine S1 hp (thn (T.item X rfl rfl rfl hc i bQ s3 σ3 H3 X.xe I3 (stat fr3) st3 go) λr s4 ⟨u,hr,h4⟩=>?_);subst hr;refine S1 hp (thn h4 λ_ s5 ⟨x,H5,I5,r5,y5,st5,fr5⟩=>?_);have I5':=I5.pinned (stat fr5) (T.obj _ _ st5);refine S1 hp (thn (hg _ s5 σ3 H5 x u _ I5' r5 (step x H5 y5)) λ_ s6 ⟨σ6,H6,I6,q6⟩=>?_);refine S1 hp (thn (hb _ s6 σ6 H6 _ I6 q6) λf s7 q7=>?_);have OF:∀{σ7:St} {H7:Hp},Inv X (bQ++zaz fp s5.heap) σ7 H7 s7->N σ7 H7->∃m,m<n/\∃i σ' H',Inv X bQ σ' H' s7/\tn i s7.heap/\(∀b∈fp,H' b=none)/\W i m σ' H':=λ{σ7 H7} I7 n7=>by
   obtain⟨m',hm,w7⟩:=hN σ7 H7 n7;refine⟨m',hm,i+1,σ7,H7,I7.unpinned,T.keep _ _ _ st5 λb hb o e=>(I7.pin (b,o) (XC _ (XC _ (yK hb e)))).1,λb hb=>?_,w7⟩;obtain⟨o,e,d⟩:=T.obj _ _ st5 b hb;exact(I7.pin (b,o) (XC _ (XC _ (yK hb e)))).2.1
  cases f with
  | next=>obtain⟨σ7,H7,I7,n7⟩:=q7;exact OF I7 n7
  | cont=>obtain⟨σ7,H7,I7,n7⟩:=q7;exact OF I7 n7
  | brk=>obtain⟨σ7,H7,I7,q7⟩:=q7;exact⟨σ7,H7,I7.unpinned,q7⟩
  | ret v=>obtain⟨x7,σ7,H7,I7,r7,q7⟩:=q7;exact⟨x7,σ7,H7,I7.unpinned,r7,q7⟩
end
def xw {K:XY}{a:Addr}{xs:AF}{g:TG}{tb:TS}{D:Ends}{σ:St}{H:Hp}(Pv:Nat->St->Hp->Prop)(h0:Pv 0 σ H)(hl:∀i σ H,i<=xs.length->Pv i σ H->SqL K H a xs)
  (hs:∀i x σ H,xs[i]?=some x->Pv i σ H->g x σ H fun σ2 H2=>tb { D with nx:=Pv (i+1),ct:=Pv (i+1),bk:=D.nx } σ2 H2) (hd:∀ σ H,Pv xs.length σ H->D.nx σ H) :
  ∃W:Nat->Nat->St->Hp->Prop,(∃m,W 0 m σ H)/\∀i m σ H,W i m σ H ->
   ((Itl K a).stop i H/\D.nx σ H)\/((Itl K a).go i H/\∃N:St->Hp->Prop,(∀ σ' H',N σ' H'->∃m',m'<m/\W (i+1) m' σ' H')/\∀x H',(Itl K a).yld i H x H'->g x σ H' fun σ2 H2=>tb { D with nx:=N,ct:=N,bk:=D.nx } σ2 H2):=by
 refine⟨λi m σ H=>m=xs.length-i/\i<=xs.length/\Pv i σ H,⟨xs.length,by simp,W7 _,h0⟩,?_⟩;rintro i m σ H ⟨rfl,hi,p⟩;have q:=hl i σ H hi p;by_cases hlt:i<xs.length
 .refine .inr ⟨⟨xs,xs[i],q,by simp[hlt]⟩,Pv (i+1),fun σ' H' p'=>⟨xs.length-(i+1),by lia,rfl,hlt,p'⟩,λx H' y=>?_⟩;obtain⟨e,y⟩:=y;subst e;exact hs i x σ _ (y xs q) p
 .have e:i=xs.length:=by lia
  subst e;exact .inl ⟨⟨xs,q,XU _⟩,hd σ H p⟩
def qx {lo:Int}{n:Nat}{g:TG}{tb:TS}{D:Ends}{σ:St}{H:Hp}(Pv:Nat->St->Hp->Prop)(h0:Pv 0 σ H)
  (hs:∀i σ H,i<n->Pv i σ H->g (.int (lo+i)) σ H fun σ2 H2=>tb { D with nx:=Pv (i+1),ct:=Pv (i+1),bk:=D.nx } σ2 H2) (hd:∀ σ H,Pv n σ H->D.nx σ H) :
  ∃W:Nat->Nat->St->Hp->Prop,(∃m,W 0 m σ H)/\∀i m σ H,W i m σ H ->
   ((Itr lo n).stop i H/\D.nx σ H)\/((Itr lo n).go i H/\∃N:St->Hp->Prop,(∀ σ' H',N σ' H'->∃m',m'<m/\W (i+1) m' σ' H')/\∀x H',(Itr lo n).yld i H x H'->g x σ H' fun σ2 H2=>tb { D with nx:=N,ct:=N,bk:=D.nx } σ2 H2):=by
 refine⟨λi m σ H=>m=n-i/\i<=n/\Pv i σ H,⟨n,by simp,W7 _,h0⟩,?_⟩;rintro i m σ H ⟨rfl,hi,p⟩;by_cases hlt:i<n
 .refine .inr ⟨hlt,Pv (i+1),fun σ' H' p'=>⟨n-(i+1),by lia,rfl,hlt,p'⟩,λx H' y=>?_⟩;obtain⟨e,y⟩:=y;subst e y;exact hs i σ _ hlt p
 .have e:i=n:=by lia
  subst e;exact .inl ⟨XU _,hd σ H p⟩
abbrev R2:=V->V->Hp->VK->Prop
def OpR (X:Cx)(f:X9->X9->Sem X9)(r:R2):Prop :=
 ∀(bQ:List (Addr×Obj)) (s:X8) (σ:St) (H:Hp) (x y:V) (v u:X9) (Q:VK),Inv X bQ σ H s->RelV x v->RelV y u->r x y H Q ->
  Xy (Xo X.prog X.w) X.A (f v u) (EP X bQ σ Q) X.xe s
def UnR (X:Cx)(f:X9->Sem X9)(r:V->Hp->VK->Prop):Prop :=
 ∀(bQ:List (Addr×Obj)) (s:X8) (σ:St) (H:Hp) (x:V) (v:X9) (Q:VK),Inv X bQ σ H s->RelV x v->r x H Q ->
  Xy (Xo X.prog X.w) X.A (f v) (EP X bQ σ Q) X.xe s
def jw (X:Cx)(f:X9)(r:AF->Hp->VK->Prop):Prop :=
 ∀(bQ:List (Addr×Obj)) (s:X8) (σ:St) (H:Hp) (xs:AF) (us:List X9) (Q:VK),Inv X bQ σ H s->Vals xs us->r xs H Q ->
  Xy (Xo X.prog X.w) X.A (call f us) (EP X bQ σ Q) X.xe s
def zqf (X:Cx)(r:V->Hp->(Bool->Hp->Prop)->Prop):Prop :=
 ∀(bQ:List (Addr×Obj)) (s:X8) (σ:St) (H:Hp) (x:V) (v:X9) (Q:Bool->Hp->Prop),Inv X bQ σ H s->RelV x v->r x H Q ->
  Xy (Xo X.prog X.w) X.A (truthy v) (TP X bQ σ Q) X.xe s
def tOp (r:R2)(ta tb:TE):TE:=fun σ H Q=>ta σ H λx H1=>tb σ H1 λy H2=>r x y H2 Q
def tUn (r:V->Hp->VK->Prop)(ta:TE):TE:=fun σ H Q=>ta σ H λx H1=>r x H1 Q
def rI (C:Int->Int->Prop)(g:Int->Int->V):R2:=λx y H Q=>∃i j,x=.int i/\y=.int j/\C i j/\Q (g i j) H
def rI0 (g:Int->Int->V):R2:=λx y H Q=>∃i j,x=.int i/\y=.int j/\Q (g i j) H
def rU (g:Int->V):V->Hp->VK->Prop:=λx H Q=>∃i,x=.int i/\Q (g i) H
section
variable {X:Cx}{a b c:Expr}{ta tb tc:TE}{pos:Pos}
def znw (ha:PE X a ta)(hb:PE X b tb){bQ:List (Addr×Obj)}{s:X8}{σ:St}{H:Hp}{R:V->V->Hp->Prop}(I:Inv X bQ σ H s)
  (h:ta σ H λx H1=>tb σ H1 λy H2=>R x y H2) {Q:X9->X8->Prop} {f:X9->X9->Sem X9}
  (hf:∀v u s2 x y H2,Inv X bQ σ H2 s2->RelV x v->RelV y u->R x y H2->Xy (Xo X.prog X.w) X.A (f v u) Q X.xe s2) :
  Xy (Xo X.prog X.w) X.A (eval a X.env) (λv s₁=>Xy (Xo X.prog X.w) X.A (eval b X.env) (λu s₂=>Xy (Xo X.prog X.w) X.A (f v u) Q X.xe s₂) X.xe s₁) X.xe s:=by
 refine thn (ha bQ s σ H _ I h) λv s1 ⟨x,H1,I1,r1,q1⟩=>?_;refine thn (hb bQ s1 σ H1 _ I1 q1) λu s2 ⟨y,H2,I2,r2,q2⟩=>?_;exact hf v u s2 x y H2 I2 r1 r2 q2
def zD {op:Operator}{r:R2}(ho:OpR X (Ua op) r)(ha:PE X a ta)(hb:PE X b tb):PE X (.BinOp a op b pos) (tOp r ta tb):=by
 intro bQ s σ H Q I h;exact wpAny_BinOp (znw ha hb I h λv u s2 x y H2 I2 rx ry q=>ho bQ s2 σ H2 x y v u Q I2 rx ry q)
def zo3 {op:UnaryOp}{r:V->Hp->VK->Prop}(ho:UnR X (unaryOp op) r)(ha:PE X a ta):PE X (.UnaryOp op a pos) (tUn r ta):=by
 intro bQ s σ H Q I h;exact UnaryOp_ (thn (ha bQ s σ H _ I h) λv s1 ⟨x,H1,I1,r1,q1⟩=>ho bQ s1 σ H1 x v Q I1 r1 q1)
def opI {f:X9->X9->Sem X9}{C:Int->Int->Prop}{g:Int->Int->Int}
  (rule:∀(i j:Int) (t u:Tok) (s:X8) (Q:X9->X8->Prop) (E:X9->X8->Prop),C i j->Q (.int (g i j) s.toks) { s with toks:=s.toks+1 }->Xy (Xo X.prog X.w) X.A (f (.int i t) (.int j u)) Q E s) :
  OpR X f (rI C λi j=>.int (g i j)):=by
 intro bQ s σ H x y v u Q I rx ry h;obtain⟨i,j,rfl,rfl,hc,q⟩:=h;obtain⟨t,rfl⟩:=rx;obtain⟨t',rfl⟩:=ry;exact rule i j t t' s _ _ hc ⟨.int (g i j),H,I.tok _,⟨_,rfl⟩,q⟩
def zo4 {f:X9->X9->Sem X9}{g:Int->Int->Int}
  (rule:∀(i j:Int) (t u:Tok) (s:X8) (Q:X9->X8->Prop) (E:X9->X8->Prop),Q (.int (g i j) s.toks) { s with toks:=s.toks+1 }->Xy (Xo X.prog X.w) X.A (f (.int i t) (.int j u)) Q E s) :
  OpR X f (rI0 λi j=>.int (g i j)):=by
 intro bQ s σ H x y v u Q I rx ry h;obtain⟨i,j,rfl,rfl,q⟩:=h;obtain⟨t,rfl⟩:=rx;obtain⟨t',rfl⟩:=ry;exact rule i j t t' s _ _ ⟨.int (g i j),H,I.tok _,⟨_,rfl⟩,q⟩
def znx {f:X9->X9->Sem X9}{g:Int->Int->Bool}
  (rule:∀(i j:Int) (t u:Tok) (s:X8) (Q:X9->X8->Prop) (E:X9->X8->Prop),Q (.bool (g i j)) s->Xy (Xo X.prog X.w) X.A (f (.int i t) (.int j u)) Q E s) :
  OpR X f (rI0 λi j=>.bl (g i j)):=by
 intro bQ s σ H x y v u Q I rx ry h;obtain⟨i,j,rfl,rfl,q⟩:=h;obtain⟨t,rfl⟩:=rx;obtain⟨t',rfl⟩:=ry;exact rule i j t t' s _ _ ⟨.bl (g i j),H,I,rfl,q⟩
def zqg (i j:Int):Prop:=0<j/\j<1073741824
def zny:OpR X (Ua .Add) (rI0 λi j=>.int (i+j)):=zo4 λ_ _ _ _ _ _ _ q=>add_int q
def znz:OpR X (Ua .Sub) (rI0 λi j=>.int (i-j)):=zo4 λ_ _ _ _ _ _ _ q=>sub_int q
def znA:OpR X (Ua .Mod) (rI (λ_ j=>0<j) λi j=>.int (i%j)):=opI λi j _ _ _ _ _ hc q=>by
 have h1:(0:Int)<j:=hc;exact mod_int' (by lia) (by rw[Rf i (by lia)];exact q)
def unI {f:X9->Sem X9}{g:Int->Int}
  (rule:∀(i:Int) (t:Tok) (s:X8) (Q:X9->X8->Prop) (E:X9->X8->Prop),Q (.int (g i) s.toks) { s with toks:=s.toks+1 }->Xy (Xo X.prog X.w) X.A (f (.int i t)) Q E s) :
  UnR X f (rU λi=>.int (g i)):=by
 intro bQ s σ H x v Q I rx h;obtain⟨i,rfl,q⟩:=h;obtain⟨t,rfl⟩:=rx;exact rule i t s _ _ ⟨.int (g i),H,I.tok _,⟨_,rfl⟩,q⟩
def znB:UnR X (unaryOp .USub) (rU λi=>.int (-i)):=unI λ_ _ _ _ _ q=>neg_int q
def zo5:V->V->Bool
 | .non,.non=>true | .non,.int _=>true | .int _,.non=>true | .non,.bl _=>true | .bl _,.non=>true | .non,.str _=>true | .str _,.non=>true
 | .int _,.int _=>true | .bl _,.bl _=>true | .str _,.str _=>true | .byt _,.byt _=>true
 | .int _,.str _=>true | .str _,.int _=>true | .bl _,.str _=>true | .str _,.bl _=>true
 | _,_=>false
def rEq:R2:=λx y H Q=>zo5 x y=true/\Q (.bl (decide (x=y))) H
def rNe:R2:=λx y H Q=>zo5 x y=true/\Q (.bl (!decide (x=y))) H
def zd9 {i j:Int}:decide (V.int i=V.int j)=(i==j):=by
 rw[Ww];simp
def zjw {i j:Bool}:decide (V.bl i=V.bl j)=(i==j):=by
 rw[Ww];simp
def zhp {i j:Str}:decide (V.str i=V.str j)=(i==j):=by
 rw[Ww];simp
def zhq {i j:Array UInt8}:decide (V.byt i=V.byt j)=(i.toList==j.toList):=by
 rw[Ww];cases i;cases j;simp
def qi {bQ:List (Addr×Obj)}{σ:St}{H:Hp}{s:X8}{Q:VK}{k k':Bool}(I:Inv X bQ σ H s)(q:Q (.bl k) H)(e:k=k'):EP X bQ σ Q (.bool k') s:=by
 subst e;exact⟨.bl k,H,I,rfl,q⟩
def Yc:OpR X (VN .Eq) rEq:=by
 intro bQ s σ H x y v u Q I rx ry h;obtain⟨hs,q⟩:=h;cases x with
 | non =>
  cases rx;cases y with
  | non=>cases ry;exact PySem.EqNone.eq_none_none (qi I q (by simp))
  | bl j=>cases ry;exact PySem.EqNone.eq_none_bool (qi I q (by simp))
  | int j=>obtain⟨t',rfl⟩:=ry;exact PySem.EqNone.eq_none_int (qi I q (by simp))
  | str j=>obtain⟨t',rfl⟩:=ry;exact PySem.EqNone.eq_none_str (qi I q (by simp))
  | _=>exact absurd (show false=true from hs) XT
 | bl i =>
  cases rx;cases y with
  | non=>cases ry;exact PySem.EqNone.eq_bool_none (qi I q (by simp))
  | bl j=>cases ry;exact eq_bool (qi I q zjw)
  | str j=>obtain⟨t',rfl⟩:=ry;exact PySem.EqMixed.eq_bool_str (qi I q (by simp))
  | _=>exact absurd (show false=true from hs) XT
 | int i =>
  obtain⟨t,rfl⟩:=rx;cases y with
  | non=>cases ry;exact PySem.EqNone.eq_int_none (qi I q (by simp))
  | int j=>obtain⟨t',rfl⟩:=ry;exact eq_int (qi I q zd9)
  | str j=>obtain⟨t',rfl⟩:=ry;exact PySem.EqMixed.eq_int_str (qi I q (by simp))
  | _=>exact absurd (show false=true from hs) XT
 | str i =>
  obtain⟨t,rfl⟩:=rx;cases y with
  | non=>cases ry;exact PySem.EqNone.eq_str_none (qi I q (by simp))
  | bl j=>cases ry;exact PySem.EqMixed.eq_str_bool (qi I q (by simp))
  | int j=>obtain⟨t',rfl⟩:=ry;exact PySem.EqMixed.eq_str_int (qi I q (by simp))
  | str j=>obtain⟨t',rfl⟩:=ry;exact eq_str (qi I q zhp)
  | _=>exact absurd (show false=true from hs) XT
 | byt i =>
  obtain⟨t,rfl⟩:=rx;cases y with
  | byt j=>obtain⟨t',rfl⟩:=ry;exact PySem.W.eq_bytes (qi I q zhq)
  | _=>exact absurd (show false=true from hs) XT
 | _=>cases y<;>exact absurd (show false=true from hs) XT
def zbN:OpR X (VN .NotEq) rNe:=by
 intro bQ s σ H x y v u Q I rx ry h;obtain⟨hs,q⟩:=h;cases x with
 | non =>
  cases rx;cases y with
  | non=>cases ry;exact PySem.EqNone.ne_none_none (qi I q (by simp))
  | bl j=>cases ry;exact PySem.EqNone.ne_none_bool (qi I q (by simp))
  | int j=>obtain⟨t',rfl⟩:=ry;exact PySem.EqNone.ne_none_int (qi I q (by simp))
  | str j=>obtain⟨t',rfl⟩:=ry;exact PySem.EqNone.ne_none_str (qi I q (by simp))
  | _=>exact absurd (show false=true from hs) XT
 | bl i =>
  cases rx;cases y with
  | non=>cases ry;exact PySem.EqNone.ne_bool_none (qi I q (by simp))
  | bl j=>cases ry;exact ne_bool (qi I q (congrArg not zjw))
  | str j=>obtain⟨t',rfl⟩:=ry;exact PySem.EqMixed.ne_bool_str (qi I q (by simp))
  | _=>exact absurd (show false=true from hs) XT
 | int i =>
  obtain⟨t,rfl⟩:=rx;cases y with
  | non=>cases ry;exact PySem.EqNone.ne_int_none (qi I q (by simp))
  | int j=>obtain⟨t',rfl⟩:=ry;exact ne_int (qi I q (congrArg not zd9))
  | str j=>obtain⟨t',rfl⟩:=ry;exact PySem.EqMixed.ne_int_str (qi I q (by simp))
  | _=>exact absurd (show false=true from hs) XT
 | str i =>
  obtain⟨t,rfl⟩:=rx;cases y with
  | non=>cases ry;exact PySem.EqNone.ne_str_none (qi I q (by simp))
  | bl j=>cases ry;exact PySem.EqMixed.ne_str_bool (qi I q (by simp))
  | int j=>obtain⟨t',rfl⟩:=ry;exact PySem.EqMixed.ne_str_int (qi I q (by simp))
  | str j=>obtain⟨t',rfl⟩:=ry;exact ne_str (qi I q (congrArg not zhp))
  | _=>exact absurd (show false=true from hs) XT
 | byt i =>
  obtain⟨t,rfl⟩:=rx;cases y with
  | byt j=>obtain⟨t',rfl⟩:=ry;exact PySem.W.ne_bytes (qi I q (congrArg not zhq))
  | _=>exact absurd (show false=true from hs) XT
 | _=>cases y<;>exact absurd (show false=true from hs) XT
def zo6:OpR X (VN .Lt) (rI0 λi j=>.bl (decide (i<j))):=znx λ_ _ _ _ _ _ _ q=>lt_int q
def zo7:OpR X (VN .LtE) (rI0 λi j=>.bl (decide (i<=j))):=znx λ_ _ _ _ _ _ _ q=>le_int q
def zo8:OpR X (VN .Gt) (rI0 λi j=>.bl (decide (j<i))):=znx λ_ _ _ _ _ _ _ q=>gt_int q
def znC:OpR X (VN .Is) (λx y H Q=>y=.non/\Q (.bl (decide (x=.non))) H):=by
 intro bQ s σ H x y v u Q I rx ry h;obtain⟨rfl,q⟩:=h;cases ry;refine is_none_gen (qi I q ?_);cases x<;>first
  | (cases rx;rfl)
  | (obtain⟨t,rfl⟩:=rx;rfl)
def zlH:OpR X (VN .IsNot) (λx y H Q=>y=.non/\Q (.bl (!decide (x=.non))) H):=by
 intro bQ s σ H x y v u Q I rx ry h;obtain⟨rfl,q⟩:=h;cases ry;refine isnot_none_gen (qi I q ?_);cases x<;>first
  | (cases rx;rfl)
  | (obtain⟨t,rfl⟩:=rx;rfl)
def qa (b:Expr){op:CmpOp}(h:op ≠ .In:=by decide)(h2:op ≠ .NotIn:=by decide):PV op b=false:=by
 have e1:(op==CmpOp.In)=false:=by cases op<;>first | rfl | exact absurd rfl h
 have e2:(op==CmpOp.NotIn)=false:=by cases op<;>first | rfl | exact absurd rfl h2
 cases b<;>simp[PV,e1,e2]
def j6 {op:CmpOp}{r:R2}(ho:OpR X (VN op) r)(ha:PE X a ta)(hb:PE X b tb)(hm:PV op b=false):PE X (.Compare a [op] [b] pos) (tOp r ta tb):=by
 intro bQ s σ H Q I h;exact wpAny_Compare1 (znw ha hb I h λv u s2 x y H2 I2 rx ry q=>ho bQ s2 σ H2 x y v u Q I2 rx ry q) hm
def zo9 (t:TE):TT:=fun σ H Q=>t σ H λx H'=>∃k,x=.bl k/\Q k H'
def znD (r r':R2)(ta tb tc:TE):TE:=fun σ H Q=>ta σ H λx H1=>tb σ H1 λy H2=>r x y H2 λz H3=>∃k,z=.bl k /\
 (if k=true then tc σ H3 λw' H4=>r' y w' H4 Q else Q (.bl false) H3)
def zeV {op op':CmpOp}{r r':R2}(ho:OpR X (VN op) r)(ho':OpR X (VN op') r')(ha:PE X a ta)(hb:PE X b tb)(hc:PE X c tc)
  (hm:lastMarks [op,op'] [b,c]=false:=by with_unfolding_all rfl):PT X (.Compare a [op,op'] [b,c] pos) (zo9 (znD r r' ta tb tc)):=by
 intro bQ s σ H Q I h;refine isTrue_chain (thn (ha bQ s σ H _ I h) λv s1 ⟨x,H1,I1,r1,q1⟩=>test_link (thn (hb bQ s1 σ H1 _ I1 q1) λu s2 ⟨y,H2,I2,r2,q2⟩ =>
  thn (ho bQ s2 σ H2 x y v u _ I2 r1 r2 q2) λd s3 ⟨z,H3,I3,r3,k,e,q3⟩=>?_)) hm
 subst e;cases r3;refine VJ ?_;cases k with
 | false =>
  obtain⟨k',e',q'⟩:=q3;cases e';exact ite_ff ⟨H3,I3,q'⟩
 | true =>
  refine ite_tt (test_last (thn (hc bQ s3 σ H3 _ I3 q3) λw' s4 ⟨z',H4,I4,r4,q4⟩=>thn (ho' bQ s4 σ H4 y z' u w' _ I4 r2 r4 q4) λd' s5 ⟨z2,H5,I5,r5,k2,e2,q5⟩=>?_));subst e2;cases r5;exact VJ ⟨H5,I5,q5⟩
def znE (K:XY)(x:V)(H:Hp)(k:Bool):Prop :=
 match x with
 | .non=>k=false
 | .bl b=>k=b
 | .int i=>k=(i != 0)
 | .str y=>y.length<=Xz/\k=((y.length:Int) != 0)
 | .byt y=>y.size<=Xz/\k=((y.size:Int) != 0)
 | .ref p=>(∃xs,SqL K H p xs/\k=!xs.isEmpty)\/(∃xs,SqT K H p xs/\k=!xs.isEmpty)\/∃kvs,H p=some (.dK kvs)/\k=!kvs.isEmpty
 | _=>False
def zgi {κ:Type}{kvs:List (κ × V)}{vs:List (κ × X9)}(r:KV kvs vs):(!vs.isEmpty)=!kvs.isEmpty:=by
 cases r<;>rfl
def zbO {xs:AF}{its:List X9}(r:Vals xs its):(!its.toArray.isEmpty)=!xs.isEmpty:=by
 cases r<;>simp
def Yd:(Xz:Nat)<2^63:=by rw[T3];decide
def znF:zqf X (λx H Q=>∃k,znE X.K x H k/\Q k H):=by
 intro bQ s σ H x v Q I rx h;obtain⟨k,e,q⟩:=h;have hl:=Yd;have hs:Xz=16777216:=T3;cases x with
 | non =>
  cases rx;have e':k=false:=e;subst e';exact truthy_none ⟨H,I,q⟩
 | bl b =>
  cases rx;have e':k=b:=e;subst e';exact VJ ⟨H,I,q⟩
 | int i =>
  obtain⟨t,rfl⟩:=rx;have e':k=(i != 0):=e;subst e';exact PySem.P.truthy_int ⟨H,I,q⟩
 | str y =>
  obtain⟨t,rfl⟩:=rx;obtain⟨hy,e'⟩:y.length<=Xz/\k=((y.length:Int) != 0):=e;subst e';exact PySem.P.truthy_str (by lia) ⟨H,I.tok _,q⟩
 | byt y =>
  obtain⟨t,rfl⟩:=rx;obtain⟨hy,e'⟩:y.size<=Xz/\k=((y.size:Int) != 0):=e;subst e';exact PySem.W.truthy_bytes (by lia) ⟨H,I.tok _,q⟩
 | ref p =>
  cases rx;have e':(∃xs,SqL X.K H p xs/\k=!xs.isEmpty)\/(∃xs,SqT X.K H p xs/\k=!xs.isEmpty)\/∃kvs,H p=some (.dK kvs)/\k=!kvs.isEmpty:=e;rcases e' with ⟨xs,hx,e'⟩ | ⟨xs,hx,e'⟩ | ⟨kvs,hx,e'⟩
  .subst e';obtain⟨its,r,pl,hz⟩:=I.list hx;have hlen:=r.length;exact wpAny_truthy_list pl.isList (by simp only[Xs];lia) ⟨H,I.tok _,by rw[zbO r];exact q⟩
  .subst e';obtain⟨its,r,pl,hz⟩:=I.tuple hx;have hlen:=r.length;exact truthy_tuple pl (by simp only[Xs];lia) ⟨H,I.tok _,by rw[zbO r];exact q⟩
  .subst e';obtain⟨hz,hS,vs,r,m⟩:kvs.length<=Xz/\(p==Uj)=false/\∃vs,KV kvs vs/\s.heap.DictOf (zW X.prog X.w) p vs:=I.hok p _ hx;have hlen:kvs.length=vs.length:=Paired.length r;exact wpAny_truthy_dict hS m (by lia) ⟨H,I.tok _,by rw[zgi r];exact q⟩
 | _=>exact(show False from e).elim
def QC (ha:PE X a ta)(he:∀whole,isTrue a X.env whole=(do let v <- whole;standAt a.pos;Ob [v] (truthy v))) :
  PT X a (fun σ H Q=>ta σ H λx H'=>∃k,znE X.K x H' k/\Q k H'):=by
 intro bQ s σ H Q I h;exact isTrue_plain (thn (ha bQ s σ H _ I h) λv s1 ⟨x,H1,I1,r1,q1⟩=>znF bQ s1 σ H1 x v Q I1 r1 q1) (he _)
def Qd:OpR X (Ua .Add) (λx y H Q=>∃i j,x=.str i/\y=.str j/\i.length+j.length<=Xz/\Q (.str (i++j)) H):=by
 intro bQ s σ H x y v u Q I rx ry h;obtain⟨i,j,rfl,rfl,hz,q⟩:=h;obtain⟨t,rfl⟩:=rx;obtain⟨t',rfl⟩:=ry;exact add_str (λt' tk=>⟨.str (i++j),H,I.tok _,⟨_,rfl⟩,q⟩) hz
def vals1 {x:V}{us:List X9}(r:Vals [x] us):∃u,us=[u]/\RelV x u:=by
 cases r with
 | cons r1 r2=>cases r2;exact⟨_,rfl,r1⟩
def vals2 {x y:V}{us:List X9}(r:Vals [x,y] us):∃u w',us=[u,w']/\RelV x u/\RelV y w':=by
 cases r with
 | cons r1 r2 =>
  cases r2 with
  | cons r3 r4=>cases r4;exact⟨_,_,rfl,r1,r3⟩
def J6 (hc:X.calm=true):jw X (.builtin "max") (λxs H Q=>∃i j,xs=[.int i,.int j]/\Q (.int (if j>i then j else i)) H):=by
 intro bQ s σ H xs us Q I r h;obtain⟨i,j,rfl,q⟩:=h;obtain⟨u,w',rfl,⟨t,rfl⟩,⟨t',rfl⟩⟩:=vals2 r;refine max_two_ints (I.ok.hd hc) λh' tk k=>⟨_,H,I.kept k,?_,q⟩;by_cases hj:j>i
 .rw[bw hj,bw hj];exact⟨_,rfl⟩
 .rw[bq hj,bq hj];exact⟨_,rfl⟩
def Jg (hc:X.calm=true):jw X (.builtin "min") (λxs H Q=>∃i j,xs=[.int i,.int j]/\Q (.int (if j<i then j else i)) H):=by
 intro bQ s σ H xs us Q I r h;obtain⟨i,j,rfl,q⟩:=h;obtain⟨u,w',rfl,⟨t,rfl⟩,⟨t',rfl⟩⟩:=vals2 r;refine min_two_ints (I.ok.hd hc) λh' tk k=>⟨_,H,I.kept k,?_,q⟩;by_cases hj:j<i
 .rw[bw hj,bw hj];exact⟨_,rfl⟩
 .rw[bq hj,bq hj];exact⟨_,rfl⟩
def ZI:jw X (.type "str") (λxs H Q=>∃i,xs=[.int i]/\i.natAbs.log2<1920/\Q (.str (toString i)) H):=by
 intro bQ s σ H xs us Q I r h;obtain⟨i,rfl,hz,q⟩:=h;obtain⟨u,rfl,t,rfl⟩:=vals1 r;exact PySem.P.str_of_int hz ⟨.str _,H,I.tok _,⟨_,rfl⟩,q⟩
def zeW:jw X (.builtin "divmod") (λxs H Q=>∃i j,xs=[.int i,.int j]/\zqg i j/\∀p,H p=none->Q (.ref p) (upd H p (.tup [.int (i/j),.int (i%j)]))):=by
 intro bQ s σ H xs us Q I r h;obtain⟨i,j,rfl,⟨h1,h2⟩,q⟩:=h;obtain⟨u,w',rfl,⟨t,rfl⟩,⟨t',rfl⟩⟩:=vals2 r;refine divmod_int (by lia) ?_ (.inl (PyProof.noPylong_small (by lia)));rw[Re i (by lia),Rf i (by lia)];have hn:H s.heap.objs.size=none:=I.hok.fresh (XU _);refine⟨.ref s.heap.objs.size,_,?_,rfl,q _ hn⟩;refine I.laid (λb o e=>X6 _ e) (XU _) ⟨by simp only[XE,UP];rw[T3];decide,[.int (i/j) s.toks,.int (i%j) (s.toks+1)],.cons ⟨_,rfl⟩ (.cons ⟨_,rfl⟩ .nil),?_⟩;exact⟨_,Xe s.heap rfl,rfl,0,rfl⟩
end
structure znG (h:Heap)(x dx C:Addr)(mA:Str->Option X9):Prop where
 obj:h.get? x=some (OW C dx)
 ns:h.Ns1 dx mA
 ne:dx≠x
def zh7 {h:Heap}{dx:Addr}{mA:Str->Option X9}(n:h.Ns1 dx mA):∃od,h.get? dx=some od/\∀name,Oz name od=some (mA name):=by
 obtain⟨o,es,ep,ho,hd,hk,_,hm⟩:=n;refine⟨o,ho,λname=>?_⟩;have e:=hm name;unfold nsFind findBy at e;rw[<- Array.find?_toList]at e;unfold Oz;rw[hd];dsimp only;split
 .rename_i y q;rw[q]at e;exact congrArg some e
 .rename_i q;rw[q]at e;have a:es.toList.any (·.refKey)=false:=by
   rw[P0];intro y hy;obtain⟨z,t,hkey⟩:=hk y (Tr.mp hy);simp[DictEntry.refKey,hkey]
  have a':¬ es.toList.any (·.refKey)=true:=by rw[a];exact XT
  rw[bq a'];exact congrArg some e
def znG.look {h:Heap}{x dx C:Addr}{mA:Str->Option X9}(I:znG h x dx C mA):∃od,PySem.W.InstAt h x (OW C dx) C (some od)/\∀name,Oz name od=some (mA name) :=
 let ⟨od,ho,hl⟩:=zh7 I.ns
 ⟨od,⟨I.obj,rfl,rfl,ho⟩,hl⟩
def zav.some_of {v:V}{o:Option X9}(r:zav (some v) o):∃u,o=some u/\RelV v u:=by
 cases o with
 | none=>exact(show False from r).elim
 | some u=>exact⟨u,rfl,r⟩
section
variable {P:Xd}{w:WV}{H H':Hp}{h h':Heap}{a C dx:Addr}{fs fs':List (Str×V)}
def zlI (hok:HOk P w H h)(e:H a=some (.ins C dx fs)):∃mA,znG h a dx C mA/\(∀f,zav (fs.lookup f) (mA f))/\PySem.Within mA (fs.map (·.1))/\fs.length<=1000/\H dx=some (.own a):=by
 obtain⟨d,z,ne,ob,mA,n,r,q⟩:=(show qI P w H h a (.ins C dx fs) from hok a _ e);exact⟨mA,⟨ob,n,ne⟩,r,q,z,d⟩
end
structure Cls (K:XY)(C:Addr):Prop where
 pg:PySem.W.plainGet K C Str.empty=true
 hd:PySem.W.hasDictIn K C=true
 po:PySem.W.plainOver K C=true
 sa:Vv K (.ref C) "__setattr__"=some (some (.builtin "object.__setattr__"))
def Cls.get {K:XY}{C:Addr}(c:Cls K C)(f:Str):PySem.W.plainGet K C f=true:=c.pg
section
variable {X:Cx}{bQ:List (Addr×Obj)}{σ:St}{H:Hp}{s:X8}{A:WT}{E:X9->X8->Prop}{Q:X9->X8->Prop}{c:X9}{b:Bool}
inductive zaA (K:XY)(H:Hp):V->X9->Prop where
 | non:zaA K H .non (.type "NoneType")
 | bl (x:Bool):zaA K H (.bl x) (.type "bool")
 | int (i:Int):zaA K H (.int i) (.type "int")
 | str (x:Str):zaA K H (.str x) (.type "str")
 | flt (x:UInt64):zaA K H (.flt x) (.type "float")
 | lst {a:Addr} {xs:AF} (e:H a=some (.lst xs)):zaA K H (.ref a) (.type "list")
 | frz {a:Addr} {o:Obj} {xs:AF} (e:H a=some (.frz o (.lst xs))):zaA K H (.ref a) (.type "list")
 | tup {a:Addr} {xs:AF} (e:H a=some (.tup xs)):zaA K H (.ref a) (.type "tuple")
 | dK {a:Addr} {kvs:List (Key×V)} (e:H a=some (.dK kvs)):zaA K H (.ref a) (.type "dict")
 | dT {a:Addr} {kvs:List (List Key×V)} (e:H a=some (.dT kvs)):zaA K H (.ref a) (.type "dict")
 | ins {a C dx:Addr} {fs:List (Str×V)} (e:H a=some (.ins C dx fs)) (cl:Cls K C) (ha:Vv K (.ref C) "__class__"=some (some (.builtin "object.__class__")))
   (hn:PySem.W.specialIn K (.builtin "object.__class__") "__get__"=some (some (.builtin "getset_descriptor.__get__"))) (htk:PySem.W.takesIn K (.builtin "object.__class__")=some true)
   (hm:Vl K C (.type "object")=some true):zaA K H (.ref a) (.ref C)
def zh8 {x:V}{u t:X9}(I:Inv X bQ σ H s)(rx:RelV x u)(ty:zaA X.K H x t)(e:Xb X.K t c=some b)(h:∀tk,Q (.bool b) { s with toks:=tk }) :
  Xy (Xo X.prog X.w) A (call (.builtin "isinstance") [u,c]) Q E s:=by
 cases ty with
 | non=>cases (show u=US from rx);exact VP PySem.W.kitx_none I.kIn T1 e (λz=>nomatch z) h
 | bl y=>cases (show u=SU y from rx);exact VP PySem.W.kitx_bool I.kIn T1 e (λz=>nomatch z) h
 | int i=>obtain⟨t,q⟩:=(show ∃t,u=Wt i t from rx);cases q;exact VP PySem.W.kitx_int I.kIn T1 e (λz=>nomatch z) h
 | str y=>obtain⟨t,q⟩:=(show ∃t,u=NA y t from rx);cases q;exact VP PySem.W.kitx_str I.kIn T1 e (λz=>nomatch z) h
 | flt y=>obtain⟨t,q⟩:=(show ∃t,u=Value.float y t from rx);cases q;exact VP PySem.W.kitx_float I.kIn T1 e (λz=>nomatch z) h
 | @lst a xs ea =>
  cases (show u=WN a from rx);obtain⟨_,_,n,_,h1⟩:=(show qI X.prog X.w H s.heap a (.lst xs) from I.hok a _ ea);exact VP PySem.W.kitx_list I.kIn ⟨_,h1,rfl⟩ e (λz=>nomatch z) h
 | @frz a ob xs ea =>
  cases (show u=WN a from rx);obtain⟨_,_,_,n,_,h1⟩:=(show qI X.prog X.w H s.heap a (.frz ob (.lst xs)) from I.hok a _ ea);exact VP PySem.W.kitx_list I.kIn ⟨_,h1,rfl⟩ e (λz=>nomatch z) h
 | @tup a xs ea =>
  cases (show u=WN a from rx);obtain⟨_,_,_,p⟩:=(show qI X.prog X.w H s.heap a (.tup xs) from I.hok a _ ea);obtain⟨o,h1,h2,_⟩:=p;exact VP PySem.W.kitx_tuple I.kIn ⟨o,h1,h2⟩ e (λz=>nomatch z) h
 | @dK a kvs ea =>
  cases (show u=WN a from rx);obtain⟨_,_,vs,_,p⟩:=(show qI X.prog X.w H s.heap a (.dK kvs) from I.hok a _ ea);obtain⟨o,es,ep,h1,h2,_⟩:=p;exact VP PySem.W.kitx_dict I.kIn ⟨o,h1,h2.1⟩ e (λz=>nomatch z) h
 | @dT a kvs ea =>
  cases (show u=WN a from rx);obtain⟨_,_,xs,_,o,es,ep,h1,h2,_⟩:=(show qI X.prog X.w H s.heap a (.dT kvs) from I.hok a _ ea);exact VP PySem.W.kitx_dict I.kIn ⟨o,h1,h2.1⟩ e (λz=>nomatch z) h
 | @ins a C dx fs ea cl ha hn htk hm =>
  cases (show u=WN a from rx);obtain⟨mA,O,_⟩:=zlI I.hok ea;obtain⟨od,J,_⟩:=O.look;exact VP (PySem.W.kitx_own (cl.get _) cl.hd ha hn htk hm) I.kIn J e (λz=>nomatch z) h
end
structure JG (k:Nat)(A:WT):Prop where
 hd:A.handled=none
 dp:A.depth+3*k+5<recursionLimit
 un:A.units+16*k+200<U3
def JG.mono {j k:Nat}{A:WT}(r:JG k A)(h:j<=k):JG j A:=⟨r.hd,by have:=r.dp;lia,by have:=r.un;lia⟩
theorem JG.deeper {k:Nat}{A:WT}(r:JG (k+1) A)(env:Env):JG k (A.deeper env) :=
 ⟨r.hd,by have:=r.dp;show A.depth+1+3*k+5<_;lia,by have:=r.un;show A.units+3+16*k+200<_;lia⟩
theorem JG.depth {k:Nat}{A:WT}(r:JG k A):A.depth<recursionLimit:=by have:=r.dp;lia
theorem JG.units {k:Nat}{A:WT}(r:JG k A):A.units+64<U3:=by have:=r.un;lia
def zpa:TA:=λ_ H Q=>Q [] H
def zjx (ta:TE)(tr:TA):TA:=fun σ H Q=>ta σ H λx H1=>tr σ H1 λxs H2=>Q (x::xs) H2
section
variable {X:Cx}{e:Expr}{es:List Expr}{te:TE}{t:TA}{pos:Pos}
def zc:PA X [] zpa:=λ_ _ _ _ H Q I h=>Calls.spliced_nil ⟨[],H,I,.nil,h⟩
def za (ha:PE X e te)(hr:PA X es t)(hs:WR (e::es) X.env=(false,eval e X.env)::WR es X.env:=by rfl):PA X (e::es) (zjx te t):=by
 intro pos bQ s σ H Q I h;rw[hs];show Xy _ _ (spliced ((false,eval e X.env)::Tx pos (WR es X.env))) _ _ s;refine Rm (thn (ha bQ s σ H _ I h) λu s1 ⟨x,H1,I1,r1,q1⟩=>?_);exact thn (hr pos bQ s1 σ H1 _ I1 q1) λus s2 ⟨xs,H2,I2,r2,q2⟩=>⟨x::xs,H2,I2,.cons r1 r2,q2⟩
def zqh (t:TA):TE:=fun σ H Q=>t σ H λxs H1=>xs.length<=Xz/\∀p,H1 p=none->Q (.ref p) (upd H1 p (.tup xs))
def zqi (t:TA):TE:=fun σ H Q=>t σ H λxs H1=>xs.length<=Xz/\∀p,H1 p=none->Q (.ref p) (upd H1 p (.lst xs))
def yt {x1}(h:PA X es t):PE X (.Tuple es x1 pos) (zqh t):=by
 intro bQ s σ H Q I hq;refine wpAny_Tuple_spliced (thn (h pos bQ s σ H _ I hq) λus s1 ⟨xs,H1,I1,r,z,q⟩=>⟨by rw[<- r.length];exact z,?_⟩);have hf:H1 s1.heap.objs.size=none:=I1.hok.fresh (XU _);refine⟨.ref s1.heap.objs.size,upd H1 s1.heap.objs.size (.tup xs),I1.laid (t':=s1.toks) (λb u e=>X6 _ e) (XU _) ?_,rfl,q _ hf⟩;exact⟨z,us,r,⟨_,Xe _ rfl,rfl,_,rfl⟩⟩
def qf (h:PA X es t):PE X (.List es pos) (zqi t):=by
 intro bQ s σ H Q I hq;refine wpAny_List_spliced (thn (h pos bQ s σ H _ I hq) λus s1 ⟨xs,H1,I1,r,z,q⟩=>⟨by rw[<- r.length];exact z,?_⟩);have hf:H1 s1.heap.objs.size=none:=I1.hok.fresh (XU _);refine⟨.ref s1.heap.objs.size,upd H1 s1.heap.objs.size (.lst xs),I1.laid (t':=s1.toks) (λb u e=>X6 _ e) (XU _) ?_,rfl,q _ hf⟩;exact⟨z,us,0,r,Xe _ rfl⟩
end
abbrev Sp:=AF->Hp->VK->XK->Prop
abbrev CXT:=List Env->Hp->X8->XK->X9->X8->Prop
structure zlJ (P:Xd)(w:WV)(K:XY)(mg:Str->Option X9)(base:Heap)(A:WT)(outer:List Env)(s:X8)(H:Hp):Prop where
 frames:A.frames=some outer
 mod:Mod K mg base
 bs:∀b o,base.get? b=some o->s.heap.get? b=some o/\H b=none
 bsz:base.objs.size<=s.heap.objs.size
 funs:s.heap.FunFrames base outer
 frf:∀b∈frs outer,H b=none
 hok:HOk P w H s.heap
 bare:SC s.gens
def CE (outer:List Env)(P:Xd)(w:WV)(H:Hp)(s:X8)(Q:VK)(u:X9)(s':X8):Prop :=
 ∃v H',s'.os=s.os/\SC s'.gens/\Un (frs outer) [] H H' s.heap s'.heap/\HOk P w H' s'.heap/\RelV v u/\Q v H'
def CR (CX:CXT)(outer:List Env)(P:Xd)(w:WV)(H:Hp)(s:X8)(Q:VK)(E:XK)(r:R7)(s':X8):Prop :=
 match r with
 | .ok (.ret u)=>CE outer P w H s Q u s'
 | .ok _=>False
 | .error e=>CX outer H s E e s'
structure ql (P:Xd)(w:WV)(K:XY)(mg:Str->Option X9)(base:Heap)(CX:CXT)(k:Nat)(f:Addr)(fd:Xc)(ps:AE)(sp:Sp):Prop where
 len:∀vs H Q E,sp vs H Q E->vs.length=ps.length
 run:∀(A:WT) (outer:List Env) (s:X8) (H:Hp) (args:Args) (us:List X9) (vs:AF) (Q:VK) (E:XK),JG k A->zlJ P w K mg base A outer s H->NM s fd args (ps.zip us)->Vals vs us->sp vs H Q E ->
  UX (Xo P w) A (.call (.ref f) args) (CR CX outer P w H s Q E) s
section
variable {X:Cx}{bQ:List (Addr×Obj)}{σ:St}{H:Hp}{s s':X8}
def Inv.env0 (I:Inv X bQ σ H s):zlJ X.prog X.w X.K X.mg X.base X.A X.stack s H :=
 ⟨I.ok.frames,I.ok.mod,I.bs,X0 I.ok.bsz I.sz,I.stack,I.stkFree,I.hok,I.bare⟩
def Inv.after {Q:VK}{u:X9}(I:Inv X bQ σ H s)(h:CE X.stack X.prog X.w H s Q u s'):EP X bQ σ Q u s':=by
 obtain⟨v,H',os,bare,un,hok,r,q⟩:=h;obtain⟨hh,g,d,t,os'⟩:=s';obtain rfl:os'=s.os:=os;exact⟨v,H',I.call (h':=hh) (g':=g) (d':=d) (t':=t) (ch:=[]) un hok bare (λb z=>absurd z (by simp)),r,q⟩
end
def zhr (sp:Sp)(dvs:AF)(E:XK)(t:TA):TE:=fun σ H Q=>t σ H λvs H1=>sp (vs++dvs) H1 Q E
def Binds (K:XY)(fd:Xc)(ps:AE)(ds:List X9):Prop :=
 ∀(s:X8) (us:List X9),K.In s.heap->(us++ds).length=ps.length->NM s fd ⟨us,[]⟩ (ps.zip (us++ds))
def Binds.all {K:XY}{fd:Xc}{ps:AE}(h:∀us:List X9,us.length=ps.length->bindArgs fd ⟨us,[]⟩=pure (ps.zip us)):Binds K fd ps []:=λs us _ hl=>by
 rw[W6]at hl ⊢;exact .of_eq (h us hl)
def Passes (CX:CXT)(X:Cx)(E:XK):Prop:=∀(bQ:List (Addr×Obj)) (σ:St) (H:Hp) (s:X8) (e:X9) (s':X8),Inv X bQ σ H s->CX X.stack H s E e s'->X.xe e s'
section
variable {X:Cx}{CX:CXT}{k:Nat}{f C:Addr}{fd:Xc}{ps:AE}{sp:Sp}{dvs:AF}{ds:List X9}{E:XK}{x m:Str}{p pos apos:Pos}{e o:Expr}{es:List Expr}{ta:TE}{t:TA}
def znH {bQ:List (Addr×Obj)}{σ:St}{H:Hp}{s:X8}{Q:VK}{us:List X9}{vs:AF}(F:ql X.prog X.w X.K X.mg X.base CX k f fd ps sp)(hr:JG k X.A)(hb:Binds X.K fd ps ds)(hd:Vals dvs ds)(hx:Passes CX X E)
  (I:Inv X bQ σ H s) (r:Vals vs us) (h:sp (vs++dvs) H Q E):Xy (Xo X.prog X.w) X.A (call (.ref f) us) (EP X bQ σ Q) X.xe s:=by
 have r2:Vals (vs++dvs) (us++ds):=r.append hd;have hl:(us++ds).length=ps.length:=by rw[<- r2.length];exact F.len _ _ _ _ h
 refine Pg (UI (F.run X.A X.stack s H ⟨us,[]⟩ (us++ds) (vs++dvs) Q E hr I.env0 (hb s us I.kIn hl) r2 h) λr s' hq=>?_);cases r with
 | error e=>exact hx bQ σ H s e s' I hq
 | ok fl =>
  cases fl with
  | ret u=>exact I.after hq
  | next=>exact UR hq
  | brk=>exact UR hq
  | cont=>exact UR hq
def QD (F:ql X.prog X.w X.K X.mg X.base CX k f fd ps sp)(hr:JG k X.A)(hg:Gl X x)(hm:X.mg x=some (.ref f))(hk:Tu X.K (.ref f)=true)(hb:Binds X.K fd ps ds)(hd:Vals dvs ds)(hx:Passes CX X E)
  (ha:PA X (e::es) t) (hdb:(x==("__debug__":Str))=false:=by decide) (he:WR (e::es) X.env=(false,eval e X.env)::WR es X.env:=by rfl) (hpl:(Tx pos (WR es X.env)).any (·.1)=false:=by rfl) :
  PE X (.Call (.Name x p) (e::es) [] pos) (zhr sp dvs E t):=by
 intro bQ s σ H Q I h;refine TX (QB I hg hm ?_ hdb);refine PySem.W.callWith_K (h₀:=X.base) I.ok.mod.kin hk (thn (ha pos bQ s σ H _ I h) λus s1 ⟨vs,H1,I1,r,q⟩=>⟨I1.kIn,?_⟩) he hpl;exact znH F hr hb hd hx I1 r q
end
structure zH (N P:AE)(sc:Va):Prop where
 kind:sc.kind=.function
 co:sc.isCoroutine=false
 gen:sc.isGenerator=false
 nd:N.Nodup
 pre:N.take P.length=P
 par:∀x∈P,sc.names.lookup x=some .local\/sc.names.lookup x=some .cell
 nofree:∀y∈sc.names,y.2 ≠ .free
def bz {N P:AE}{sc:Va}(k:sc.kind=.function:=by rfl)(a:sc.isCoroutine=false:=by rfl)(b:sc.isGenerator=false:=by rfl)(p:N.take P.length=P:=by rfl)(h:(N.Nodup)/\(∀x∈P,sc.names.lookup x=some .local\/sc.names.lookup x=some .cell)/\∀y∈sc.names,y.2 ≠ .free:=by decide+kernel):zH N P sc:=⟨k,a,b,h.1,p,h.2.1,h.2.2⟩
theorem zde {kindOf:Str->Option Ta}{x:Str}:∀{binds:List (Str×X9)} {m:Str->Option X9},(∀v,(x,v) ∉ binds)->Nr kindOf binds m x=m x
 | [],_,_=>rfl
 | (n,v)::r,m,h=>by
  unfold Nr;rw[zde λw hw=>h w (XV _ hw)];split
  .have:x≠n:=by rintro rfl;exact h v X2
   simp[this]
  .rfl
theorem zdf {kindOf:Str->Option Ta}{x:Str}:∀{binds:List (Str×X9)} {m:Str->Option X9},(∀v,(x,v) ∉ binds)->Nq kindOf binds m x=m x
 | [],_,_=>rfl
 | (n,v)::r,m,h=>by
  unfold Nq;rw[zdf λw hw=>h w (XV _ hw)];split
  .rfl
  .have:x≠n:=by rintro rfl;exact h v X2
   simp[this]
theorem zdg {kindOf:Str->Option Ta}{x:Str}{v:X9}:∀{P:AE} {vs:List X9} {i:Nat} {m:Str->Option X9},P.Nodup->P[i]?=some x->vs[i]?=some v->kindOf x=some .local ->
  Nr kindOf (P.zip vs) m x=some v
 | [],_,_,_,_,h,_,_=>by simp at h
 | _::_,[],_,_,_,_,h,_=>by simp at h
 | p::P,w::vs,0,m,nd,h1,h2,hk=>by
  simp at h1 h2;subst h1;subst h2;show Nr kindOf ((p,w)::P.zip vs) m p=_;unfold Nr;rw[zde λv hv=>(Wl.mp nd).1 (OV hv).1,bw hk];simp
 | p::P,w::vs,i+1,m,nd,h1,h2,hk=>by
  show Nr kindOf ((p,w)::P.zip vs) m x=_;unfold Nr;exact zdg (i:=i) (Wl.mp nd).2 (by simpa using h1) (by simpa using h2) hk
theorem zdh {kindOf:Str->Option Ta}{x:Str}{v:X9}:∀{P:AE} {vs:List X9} {i:Nat} {m:Str->Option X9},P.Nodup->P[i]?=some x->vs[i]?=some v->kindOf x≠some .local ->
  Nq kindOf (P.zip vs) m x=some v
 | [],_,_,_,_,h,_,_=>by simp at h
 | _::_,[],_,_,_,_,h,_=>by simp at h
 | p::P,w::vs,0,m,nd,h1,h2,hk=>by
  simp at h1 h2;subst h1;subst h2;show Nq kindOf ((p,w)::P.zip vs) m p=_;unfold Nq;rw[zdf λv hv=>(Wl.mp nd).1 (OV hv).1,bq hk];simp
 | p::P,w::vs,i+1,m,nd,h1,h2,hk=>by
  show Nq kindOf ((p,w)::P.zip vs) m x=_;unfold Nq;exact zdh (i:=i) (Wl.mp nd).2 (by simpa using h1) (by simpa using h2) hk
def start (N:AE)(vs:AF):St:=vs.map some++WP (N.length-vs.length) none
def zeX (CX:CXT)(P:Xd)(w:WV)(K:XY)(mg:Str->Option X9)(base:Heap)(N:AE)(qual:Str)(scope:Va)(f:Addr)(cd:X9)(A:WT)(outer:List Env)(s:X8)(H:Hp)(E:XK):Cx where
 prog:=P
 w:=w
 K:=K
 mg:=mg
 base:=base
 A:=A.deeper (Ph qual scope s.heap.objs.size f cd)
 N:=N
 s₀:=s
 H₀:=H
 env:=Ph qual scope s.heap.objs.size f cd
 outer:=outer
 stack:=Ph qual scope s.heap.objs.size f cd::outer
 ex:=[]
 calm:=true
 fn:=λ_=>true
 pn:=[]
 xe:=λe s'=>Xy (Xo P w) (A.deeper (Ph qual scope s.heap.objs.size f cd)) (leaving (Ph qual scope s.heap.objs.size f cd) e) (λ_ s''=>CX outer H s E e s'') (λe' s''=>CX outer H s E e' s'') s'
def zeY {sc:Va}{n:Nat}{x:Str}(h:sc.names.lookup x=some .cell):∃c,(Ry n sc.names []).lookup x=some c:=by
 have q:=Sk sc.names n [] (.inl h);exact Vt.mp q
def zh9 {CX:CXT}{P:Xd}{w:WV}{K:XY}{mg:Str->Option X9}{base:Heap}{N ps:AE}{qual:Str}{scope:Va}{f:Addr}{cd:X9}{A:WT}{outer:List Env}{s s1:X8}{H:Hp}{E:XK}{us:List X9}{vs:AF}
  (S:zH N ps scope) (hd:A.handled=none) (e0:zlJ P w K mg base A outer s H) (hl:vs.length=ps.length) (r:Vals vs us)
  (x:InCallC s s.heap.objs.size (Nr (Ph qual scope s.heap.objs.size f cd).kindOf (ps.zip us) λ_=>none) (Ry (s.heap.objs.size+1) scope.names []) (Nq (Ph qual scope s.heap.objs.size f cd).kindOf (ps.zip us) λ_=>none) s1) :
  Inv (zeX CX P w K mg base N qual scope f cd A outer s H E) [] (start N vs) H s1:=by
 have hpl:ps.length<=N.length:=by have:=congrArg List.length S.pre;rw[XA]at this;lia
 obtain⟨h1,tk,rfl,hk⟩:=x.done;have noA:∀b:Addr,b ∉ (zeX CX P w K mg base N qual scope f cd A outer s H E).ex:=λb z=>absurd (show b∈([]:List Addr) from z) (by simp);refine⟨⟨e0.mod,S.kind,rfl,rfl,XU _,λy z c h1 h2=>?_,λy hy=>?_,λy c _ h=>?_,λ_=>hd,Around.frames_deeper e0.frames,.inr ⟨rfl,rfl⟩,λb z=>absurd z (noA b),e0.bs,e0.bsz,λb _ _=>noA b,λb z=>absurd z (noA b),e0.funs,e0.frf⟩,
  rfl,e0.bare,Un.kept hk,⟨_,x.toInCall.ns,λi y v h1 h2 h3=>?_⟩,λy c h=>⟨_,x.cell y c h⟩,e0.hok.fresh (XU _),λy c h=>?_,λp hp=>absurd (show p∈([]:List (Addr×Obj)) from hp) (by simp),e0.hok.kept hk,?_⟩
 .exact name_of_addr x.apart (WJ h1) (WJ h2)
 .have hy:scope.names.lookup y=some .cell\/scope.names.lookup y=some .free:=hy;rcases hy with hy | hy
  .exact zeY hy
  .exact absurd rfl (S.nofree _ (WJ hy))
 .exact UJ (x.above y c (WJ h))
 .have hi:i<vs.length:=by
   unfold start at h2;by_cases hi:i<vs.length
   .exact hi
   .rw[VD (by simpa using hi)]at h2;rw[List.getElem?_replicate]at h2;split at h2<;>cases h2
  have ha:vs[i]?=some v:=by
   unfold start at h2;rw[VV (by simpa using hi),Xn]at h2;cases e:vs[i]? with
   | none=>rw[e]at h2;cases h2
   | some a=>rw[e]at h2;cases h2;rfl
  obtain⟨u,hu,rv⟩:=r.get ha;have hp:ps[i]?=some y:=by
   rw[<- S.pre,PK (by lia)];exact h1
  have ndP:ps.Nodup:=by rw[<- S.pre];exact S.nd.sublist (Uq _ _)
  refine⟨u,rv,?_⟩;rcases S.par y (XZ hp) with k | k
  .exact .inl ⟨k,zdg ndP hp hu k⟩
  .obtain⟨c,e⟩:=zeY (n:=s.heap.objs.size+1) k;refine .inr ⟨.inl k,c,e,?_⟩;have q:=x.cell y c e;rw[zdh ndP hp hu (by show scope.names.lookup y≠_;rw[k];decide)]at q;exact q
 .exact e0.hok.fresh (UJ (x.above y c (WJ h)))
 .unfold start;show _=N.length;rw[XS,Y1,List.length_replicate];lia
def zm0 {CX:CXT}{P:Xd}{w:WV}{K:XY}{mg:Str->Option X9}{base:Heap}{k:Nat}{f:Addr}{name qual:Str}{params:Arguments}{body:List Stmt}{scope:Va}{dV kV doc pm cdv ct oc:X9}{an od:Option Addr}
  {osl:Array (Option X9)} {N ps:AE} {sp:Sp} (lk:K.lookup f=some ⟨oc,od,.func (Ut name qual params body scope dV kV doc pm an cdv ct),osl⟩) (hcd:Sv K cdv qual=true) (S:zH N ps scope)
  (len:∀vs H Q E,sp vs H Q E->vs.length=ps.length)
  (hbody:∀(A:WT) (outer:List Env) (s:X8) (H:Hp) (vs:AF) (Q:VK) (E:XK),JG k (A.deeper (Ph qual scope s.heap.objs.size f cdv))->sp vs H Q E ->
   ∃t,PSs (zeX CX P w K mg base N qual scope f cdv A outer s H E) body t/\t { nx:=λ_ H'=>Q .non H',rt:=Q } (start N vs) H) :
  ql P w K mg base CX (k+1) f (Ut name qual params body scope dV kV doc pm an cdv ct) ps sp:=by
 refine⟨len,λA outer s H args us vs Q E hr e0 hb r hsp=>?_⟩;have hl:=len _ _ _ _ hsp;have KX:K.In s.heap:=e0.mod.kin.keeps λb o e=>(e0.bs b o e).1;have lim:s.heap.NoLimit:=e0.mod.nolimit.keeps λb o e=>(e0.bs b o e).1;have hkind:∀y∈ps.zip us,scope.names.lookup y.1=some .local\/(scope.names.lookup y.1=some .cell/\((Ry (s.heap.objs.size+1) scope.names []).lookup y.1).isSome=true):=λ⟨n,v⟩ hy=>by
  rcases S.par n (OV hy).1 with q | q
  .exact .inl q
  .exact .inr ⟨q,Sk _ _ _ (.inl q)⟩
 refine codeAny_call_function hr.depth (KX _ _ lk) rfl S.co S.gen rfl (PySem.W.codeRec_of KX hcd) (hb _ _ _ _ ?_);refine wpAny_newFunctionEnv_cells S.kind hkind λenv he s1 x=>?_;subst he;refine⟨lim.keeps x.toInCall.keep,codeAny_func ?_⟩;obtain⟨t,ht,hq⟩:=hbody A outer s H vs Q E (hr.deeper _) hsp;have I:Inv (zeX CX P w K mg base N qual scope f cdv A outer s H E) [] (start N vs) H s1:=zh9 S hr.hd e0 hl r x;refine WE (ht [] s1 (start N vs) H _ I hq) (λfl s' hs=>?_) λe s' hs=>hs;have fin:∀{σ':St} {H':Hp} {v:V} {u:X9},Inv (zeX CX P w K mg base N qual scope f cdv A outer s H E) [] σ' H' s'->RelV v u->Q v H'->CE outer P w H s Q u s' :=
  λ{σ' H' v u} J rv q=>⟨v,H',J.os,J.bare,J.base,J.hok,rv,q⟩
 cases fl with
 | ret u =>
  obtain⟨v,σ',H',J,rv,q⟩:=hs;exact fin J rv q
 | next =>
  obtain⟨σ',H',J,q⟩:=hs;exact fin (v:=V.non) (u:=US) J rfl q
 | brk =>
  obtain⟨_,_,_,q⟩:=hs;exact UR q
 | cont =>
  obtain⟨_,_,_,q⟩:=hs;exact UR q
section
variable {X:Cx}{x:Str}{p pos:Pos}{e:Expr}{es:List Expr}{t:TA}{id T:String}{r:AF->Hp->VK->Prop}
def tCB (r:AF->Hp->VK->Prop)(t:TA):TE:=fun σ H Q=>t σ H λvs H1=>r vs H1 Q
def zp (hc:jw X (.builtin id) r)(hg:Gl X x)(hm:X.mg x=none)(hv:T0 x=some (.builtin id))(ha:PA X (e::es) t)(hn:x ≠ "__name__":=by decide)(hdb:(x==("__debug__":Str))=false:=by decide)
  (he:WR (e::es) X.env=(false,eval e X.env)::WR es X.env:=by rfl) (hpl:(Tx pos (WR es X.env)).any (·.1)=false:=by rfl):PE X (.Call (.Name x p) (e::es) [] pos) (tCB r t):=by
 intro bQ s σ H Q I h;refine TX (ZH I hg hm hv ?_ hn hdb);exact PyProof.Rows.callWith_builtin1 (thn (ha pos bQ s σ H _ I h) λus s1 ⟨vs,H1,I1,r1,q1⟩=>hc bQ s1 σ H1 vs us Q I1 r1 q1) he hpl
def ji (hc:jw X (.type T) r)(hg:Gl X x)(hm:X.mg x=none)(hv:T0 x=some (.type T))(ha:PA X (e::es) t)(hn:x ≠ "__name__":=by decide)(hdb:(x==("__debug__":Str))=false:=by decide)
  (he:WR (e::es) X.env=(false,eval e X.env)::WR es X.env:=by rfl) (hpl:(Tx pos (WR es X.env)).any (·.1)=false:=by rfl):PE X (.Call (.Name x p) (e::es) [] pos) (tCB r t):=by
 intro bQ s σ H Q I h;refine TX (ZH I hg hm hv ?_ hn hdb);exact VF (thn (ha pos bQ s σ H _ I h) λus s1 ⟨vs,H1,I1,r1,q1⟩=>hc bQ s1 σ H1 vs us Q I1 r1 q1) he hpl
end
end L2
namespace HT
open PySem PyProof.Rows
section
variable {prog:Xd}{w:WV}{A:WT}{E:X9->X8->Prop}{s:X8}
def sIx (n d:Nat):Option Int->Nat
 | none=>d
 | some v=>if v<0 then (v+(n:Int)).toNat else min v.toNat n
def zbu (n d k:Nat):sIx n d (some (k:Int))=min k n:=by
 show (if (k:Int)<0 then ((k:Int)+(n:Int)).toNat else min (k:Int).toNat n)=min k n;rw[bq (by lia),WI]
end
end HT
namespace L2
open PySem PySem.Spec PyProof.Rows
abbrev TO:=St->Hp->(Option Int->Hp->Prop)->Prop
def PO (X:Cx)(e:Option Expr)(t:TO):Prop :=
 ∀(bQ:List (Addr×Obj)) (s:X8) (σ:St) (H:Hp) (Q:Option Int->Hp->Prop),Inv X bQ σ H s->t σ H Q ->
  Xy (Xo X.prog X.w) X.A (evalPart e X.env) (λu s'=>∃o H',Inv X bQ σ H' s'/\IsPart u o/\Q o H') X.xe s
def zlK:TO:=λ_ H Q=>Q none H
def zpb (t:TE):TO:=fun σ H Q=>t σ H λx H1=>∃i,x=.int i/\Q (some i) H1
section
variable {X:Cx}{e:Expr}{te:TE}{lo hi:Option Expr}{tl th:TO}{pos p2:Pos}
def zea:PO X none zlK:=by
 intro bQ s σ H Q I h;rw[evalPart_none];exact X4 ⟨none,H,I,.none,h⟩
def QE (h:PE X e te):PO X (some e) (zpb te):=by
 intro bQ s σ H Q I hw;rw[evalPart_some];refine thn (h bQ s σ H _ I hw) λu s1 ⟨x,H1,I1,r1,q1⟩=>?_;obtain⟨i,rfl,q⟩:=q1;obtain⟨t,rfl⟩:=r1;exact⟨some i,H1,I1,.int i t,q⟩
def SlR (X:Cx)(r:V->Option Int->Option Int->Hp->VK->Prop):Prop :=
 ∀(bQ:List (Addr×Obj)) (s:X8) (σ:St) (H:Hp) (x:V) (v vl vu:X9) (lo hi:Option Int) (sl:Addr) (Q:VK),Inv X bQ σ H s->RelV x v->s.heap.IsSliceOf sl vl vu .none->IsPart vl lo->IsPart vu hi->r x lo hi H Q ->
  ∃T id,NQ (.type T) "__getitem__"=pure (some (.builtin id))/\s.TypeIs v T/\Xy (Xo X.prog X.w) X.A (Oa v (.ref sl)) (EP X bQ σ Q) X.xe s
def tSl (r:V->Option Int->Option Int->Hp->VK->Prop)(te:TE)(tl th:TO):TE:=fun σ H Q=>te σ H λx H1=>tl σ H1 λl H2=>th σ H2 λu H3=>r x l u H3 Q
def QF {r:V->Option Int->Option Int->Hp->VK->Prop}(hr:SlR X r)(he:PE X e te)(hl:PO X lo tl)(hu:PO X hi th):PE X (.Subscript e (.Slice lo hi none p2) pos) (tSl r te tl th):=by
 intro bQ s σ H Q I h;refine Subscript_ (thn (he bQ s σ H _ I h) λv s1 ⟨x,H1,I1,r1,q1⟩=>?_);refine wpAny_Slice (thn (hl bQ s1 σ H1 _ I1 q1) λvl s2 ⟨l,H2,I2,pl,q2⟩=>thn (hu bQ s2 σ H2 _ I2 q2) λvu s3 ⟨u,H3,I3,pu,q3⟩=>?_);rw[evalPart_none];refine X4 ?_;have I4:Inv X bQ σ H3 { s3 with heap:=s3.heap.push { cls:=.type "slice",data:=.fields #[vl,vu,.none] } }:=I3.kept (t':=s3.toks) λb ob q=>X6 _ q;obtain⟨T,id,hT,ht,hg⟩:=hr bQ { s3 with heap:=s3.heap.push { cls:=.type "slice",data:=.fields #[vl,vu,.none] } } σ H3 x v vl vu l u s3.heap.objs.size Q I4 r1 (Heap.IsSliceOf.new ..) pl pu q3;show Xy (Xo X.prog X.w) X.A (NX e (.Slice lo hi none p2) v (.ref s3.heap.objs.size)) (EP X bQ σ Q) X.xe { s3 with heap:=s3.heap.push { cls:=.type "slice",data:=.fields #[vl,vu,.none] } };exact tail_any (ops:=[.ref s3.heap.objs.size,v]) ht hT hg (by with_unfolding_all rfl)
def QG (xs:AF)(lo hi:Option Int):AF:=(xs.drop (HT.sIx xs.length 0 lo)).take (HT.sIx xs.length xs.length hi-HT.sIx xs.length 0 lo)
def zeZ (xs:AF)(lo hi:Option Int):(QG xs lo hi).length<=xs.length:=by
 unfold QG;rw[XA,Vp];lia
end
def ixN (n:Nat)(i:Int):Option Nat:=if 0<=i then (if i<n then some i.toNat else none) else if -(n:Int)<=i then some (i+n).toNat else none
def atI {α:Type}(xs:List α)(i:Int):Option α:=(ixN xs.length i).bind λj=>xs[j]?
def zhs {n:Nat}{i:Int}{j:Nat}(h:ixN n i=some j):seqIndex? i n=some j/\j<n/\-(n:Int)<=i/\i<n:=by
 unfold ixN at h;by_cases h0:0<=i
 .rw[bw h0]at h;by_cases h1:i<n
  .rw[bw h1]at h;have e:i.toNat=j:=Option.some.inj h;exact⟨by rw[OD h0 h1,e],by lia,by lia,h1⟩
  .rw[bq h1]at h;cases h
 .rw[bq h0]at h;by_cases h1:-(n:Int)<=i
  .rw[bw h1]at h;have e:(i+n).toNat=j:=Option.some.inj h;exact⟨by rw[Pf (by lia) h1,e],by lia,h1,by lia⟩
  .rw[bq h1]at h;cases h
def zbv {α:Type}{xs:List α}{i:Int}{v:α}(h:atI xs i=some v):∃j,seqIndex? i xs.length=some j/\xs[j]?=some v/\j<xs.length/\-(xs.length:Int)<=i/\i<xs.length:=by
 unfold atI at h;cases e:ixN xs.length i with
 | none=>rw[e]at h;cases h
 | some j =>
  rw[e]at h;obtain⟨h1,h2,h3,h4⟩:=zhs e;exact⟨j,h1,h,h2,h3,h4⟩
def QH {α:Type}{xs:List α}{j:Nat}{v:α}(h:xs[j]?=some v):atI xs (j:Int)=some v:=by
 have hj:j<xs.length:=(XW.mp h).1;have e:ixN xs.length (j:Int)=some j:=by
  unfold ixN;rw[bw (by lia),bw (by lia)];simp
 unfold atI;rw[e];exact h
def zlL (b:Expr):Prop:=∀o i,OC b false o i=operate [o,i] (Oa o i)
def IxR (X:Cx)(r:R2):Prop :=
 ∀(value slice:Expr) (bQ:List (Addr×Obj)) (s:X8) (σ:St) (H:Hp) (x y:V) (v u:X9) (Q:VK),Inv X bQ σ H s->RelV x v->RelV y u->r x y H Q ->
  OC slice false v u=operate [v,u] (Oa v u)->Xy (Xo X.prog X.w) X.A (NX value slice v u) (EP X bQ σ Q) X.xe s
def MtR (X:Cx)(id:String)(r:V->AF->Hp->VK->Prop):Prop :=
 ∀(bQ:List (Addr×Obj)) (s:X8) (σ:St) (H:Hp) (x:V) (xs:AF) (v:X9) (us:List X9) (Q:VK),Inv X bQ σ H s->RelV x v->Vals xs us->r x xs H Q ->
  Xy (Xo X.prog X.w) X.A (call (.builtin id) (v::us)) (EP X bQ σ Q) X.xe s
section
variable {X:Cx}{a b:Expr}{ta tb:TE}{pos:Pos}
def qt {r:R2}(hr:IxR X r)(ha:PE X a ta)(hb:PE X b tb)(hs:zlL b):PE X (.Subscript a b pos) (tOp r ta tb):=by
 intro bQ s σ H Q I h;exact Subscript_ (znw ha hb I h λv u s2 x y H2 I2 rx ry q=>hr a b bQ s2 σ H2 x y v u Q I2 rx ry q (hs _ _))
def zpc (K:XY):R2:=λx y H Q=>∃p xs i v,x=.ref p/\y=.int i/\SqL K H p xs/\atI xs i=some v/\Q v H
def zqj (K:XY):R2:=λx y H Q=>∃p xs i v,x=.ref p/\y=.int i/\SqT K H p xs/\atI xs i=some v/\Q v H
def zqk:R2:=λx y H Q=>∃z i c,x=.str z/\y=.int i/\z.length<=Xz/\atI z.cps.toList i=some c/\Q (.str ⟨#[c]⟩) H
def zlM:IxR X (zpc X.K):=by
 intro value slice bQ s σ H x y v u Q I rx ry h hs;obtain⟨p,xs,i,z,rfl,rfl,hq,he,q⟩:=h;cases rx;obtain⟨t,rfl⟩:=ry;obtain⟨its,r,pl,hz⟩:=I.list hq;obtain⟨j,h1,h2,h3,h4,h5⟩:=zbv he;obtain⟨w,ew,rw'⟩:=r.get h2;have hl:=r.length;have hn:=Yd;have fin:EP X bQ σ Q w s:=⟨z,H,I,rw',q⟩;by_cases h0:0<=i
 .have hj:i.toNat=j:=by
   rw[OD h0 h5]at h1;exact Option.some.inj h1
  exact item_listR pl.isList h0 (by lia) (by rw[hj];simpa using ew) fin hs
 .have hj:(i+(its.toArray.size:Int)).toNat=j:=by
   rw[Pf (by lia) h4]at h1;rw[Xs,<- hl];exact Option.some.inj h1
  exact Pb (x:=w) pl.isList.typeIs slot_list_getitem.lookup
   (Pa (Q:=λr s'=>r=w/\EP X bQ σ Q r s') pl.isList (by lia) (by rw[Xs]<;>lia) (by lia) (by rw[hj];simpa using ew) ⟨rfl,fin⟩) hs
def znI:IxR X (zqj X.K):=by
 intro value slice bQ s σ H x y v u Q I rx ry h hs;obtain⟨p,xs,i,z,rfl,rfl,hq,he,q⟩:=h;cases rx;obtain⟨t,rfl⟩:=ry;obtain⟨its,r,pl,hz⟩:=I.tuple hq;obtain⟨j,h1,h2,h3,h4,h5⟩:=zbv he;obtain⟨w,ew,rw'⟩:=r.get h2;have hl:=r.length;have hn:=Yd;have fin:EP X bQ σ Q w s:=⟨z,H,I,rw',q⟩;exact Pb (x:=w) pl.typeIs slot_tuple_getitem.lookup
  (getItem_tuple (j:=j) (Q:=λr s'=>r=w/\EP X bQ σ Q r s') pl (by lia) (by lia) (by rw[Xs,<- hl];exact h1) (by simpa using ew) ⟨rfl,fin⟩) hs
def znJ:IxR X zqk:=by
 intro value slice bQ s σ H x y v u Q I rx ry h hs;obtain⟨z,i,c,rfl,rfl,hz,he,q⟩:=h;obtain⟨t,rfl⟩:=rx;obtain⟨t',rfl⟩:=ry;obtain⟨j,h1,h2,h3,h4,h5⟩:=zbv he;have hl:z.cps.toList.length=z.length:=by simp[Str.length]
 rw[hl]at h1 h4 h5;have hn:=Yd;exact tail_any (typeIs_str s z t) slot_str_getitem.lookup (getItem_str (c:=c) (by
  have e1:decide (i < -(2^63:Int))=false:=bf (by lia);have e2:decide (i >= 2^63)=false:=bf (by lia);rw[e1,e2,Bool.or_false]) (by rw[h1];simpa using h2) ⟨.str ⟨#[c]⟩,H,I.tok _,⟨_,rfl⟩,q⟩) hs
def zgj (its:List X9)(n j:Nat)(u:X9):U7 (·.setIfInBounds j u) { cls:=.type "list",data:=.seq its.toArray n }={ cls:=.type "list",data:=.seq (its.set j u).toArray n }:=by
 simp[U7]
theorem Inv.lst {bQ:List (Addr×Obj)}{σ:St}{H:Hp}{s:X8}{p:Addr}{xs:AF}(I:Inv X bQ σ H s)(h:H p=some (.lst xs)) :
  ∃(its:List X9) (n:Nat),Vals xs its/\s.heap.get? p=some { cls:=.type "list",data:=.seq its.toArray n }/\xs.length<=Xz:=by
 obtain⟨z,its,n,r,e⟩:=I.hok p _ h;exact⟨its,n,r,e,z⟩
def Inv.lstUpd {bQ:List (Addr×Obj)}{σ:St}{H:Hp}{s:X8}{p:Addr}{xs ys:AF}{its its':List X9}{n n':Nat}{f:Obj->Obj}(I:Inv X bQ σ H s)(h:H p=some (.lst xs))
  (ho:s.heap.get? p=some { cls:=.type "list",data:=.seq its.toArray n }) (hf:f { cls:=.type "list",data:=.seq its.toArray n }={ cls:=.type "list",data:=.seq its'.toArray n' }) (r:Vals ys its') (hz:ys.length<=Xz) (t:Nat) :
  Inv X bQ σ (upd H p (.lst ys)) { s with heap:=s.heap.update p f,toks:=t }:=by
 have e:(s.heap.update p f).get? p=some { cls:=.type "list",data:=.seq its'.toArray n' }:=by
  rw[We f ho (by rw[hf]<;>rfl),hf]
 refine I.write (x:=p) (e:=p) (by rw[h];trivial) (.inl rfl) (λb u hb q=>(Wa _ _ (Vm hb)).trans q) ⟨_,e⟩ ?_;exact⟨hz,its',n',r,e⟩
def zpd:V->V->V->Hp->(Hp->Prop)->Prop:=λo i v H Q=>∃p xs k j,o=.ref p/\i=.int k/\H p=some (.lst xs)/\ixN xs.length k=some j/\Q (upd H p (.lst (xs.set j v)))
def set_list:znv X zpd:=by
 intro bQ s σ H o i v ov iv u Q I ro ri rv h;obtain⟨p,xs,k,j,rfl,rfl,hp,hj,q⟩:=h;cases ro;obtain⟨t,rfl⟩:=ri;obtain⟨its,n,r,ho,hz⟩:=I.lst hp;obtain⟨h1,h2,h3,h4⟩:=zhs hj;have hl:=r.length;have hn:=Yd;have I':Inv X bQ σ (upd H p (.lst (xs.set j v))) { s with heap:=s.heap.update p (U7 (·.setIfInBounds j u)) } :=
  I.lstUpd hp ho (zgj its n j u) (r.set rv j) (by rw[OU];exact hz) s.toks
 by_cases h0:0<=k
 .have hk:k.toNat=j:=by
   rw[OD h0 h4]at h1;exact Option.some.inj h1
  exact PySem.W.ki_setAt ho h0 (by lia) (by rw[Xs,<- hl];exact h4) (by rw[hk];exact⟨_,I',q⟩)
 .have hk:(k+(its.toArray.size:Int)).toNat=j:=by
   rw[Pf (by lia) h3]at h1;rw[Xs,<- hl];exact Option.some.inj h1
  exact PySem.W.ki_setBack ho (by lia) (by rw[Xs,<- hl];exact h3) (by lia) (by rw[hk];exact⟨_,I',q⟩)
def zeb (lo hi:Option Int)(n:Nat):(SJ lo hi none n).1=((HT.sIx n 0 lo:Nat):Int)/\(SJ lo hi none n).2.1=((HT.sIx n n hi:Nat):Int)/\(SJ lo hi none n).2.2=1:=by
 refine⟨?_,?_,rfl⟩
 .cases lo with
  | none=>simp[SJ,HT.sIx]
  | some i =>
   simp only[SJ,HT.sIx,Option.getD_none,show (1:Int)>0 by decide,if_true];by_cases h:i<0
   .simp only[h,if_true]<;>lia
   .simp only[h,if_false]<;>lia
 .cases hi with
  | none=>simp[SJ,HT.sIx]
  | some i =>
   simp only[SJ,HT.sIx,Option.getD_none,show (1:Int)>0 by decide,if_true];by_cases h:i<0
   .simp only[h,if_true]<;>lia
   .simp only[h,if_false]<;>lia
def zcW (its:List X9)(lo hi:Option Int):slicePick its.toArray lo hi none=((its.drop (HT.sIx its.length 0 lo)).take (HT.sIx its.length its.length hi-HT.sIx its.length 0 lo)).toArray:=by
 obtain⟨h1,h2,h3⟩:=zeb lo hi its.toArray.size;unfold slicePick;rw[h1,h2,h3];simp only[sliceRange_one,pick_run,Xs]<;>rfl
def zpe (K:XY):V->Option Int->Option Int->Hp->VK->Prop:=λx lo hi H Q=>∃a xs,x=.ref a/\SqL K H a xs/\∀p,H p=none->Q (.ref p) (upd H p (.lst (QG xs lo hi)))
def zbw:SlR X (zpe X.K):=by
 intro bQ s σ H x v vl vu lo hi sl Q I rx hs pl pu h;obtain⟨a,xs,rfl,hx,q⟩:=h;cases rx;obtain⟨its,r,ht,hz⟩:=I.list hx;have hlen:=r.length;refine⟨"list",_,slot_list_getitem.lookup,ht.isList.typeIs,?_⟩;refine wpAny_getItem_list_slice ht.isList hs pl pu .none (by simp) ?_ (by rw[Xs]<;>lia);rw[zcW,<- hlen];refine⟨.ref s.heap.objs.size,_,I.laid (t':=s.toks) (o:=.lst (QG xs lo hi)) (λb ob q=>X6 _ q) (XU _) ?_,rfl,q _ (I.hok.fresh (XU _))⟩;exact⟨X0 (zeZ xs lo hi) hz,_,0,(r.drop (HT.sIx xs.length 0 lo)).take (HT.sIx xs.length xs.length hi-HT.sIx xs.length 0 lo),Xe _ rfl⟩
def QI:V->Bool
 | .non=>true
 | .bl _=>true
 | .int _=>true
 | .str _=>true
 | _=>false
def eqV:V->V->Bool
 | .non,.non=>true
 | .bl a,.bl b=>a==b
 | .bl a,.int b=>(if a then 1 else 0)==b
 | .int a,.bl b=>a==(if b then 1 else 0)
 | .int a,.int b=>a==b
 | .str a,.str b=>a==b
 | _,_=>false
def znK {A:WT}{s:X8}{y x:V}{u v:X9}(ry:RelV y u)(rx:RelV x v)(fy:QI y=true)(fx:QI x=true):SeqAt.EqAt A s u v (eqV y x):=by
 cases y with
 | non =>
  cases ry;cases x with
  | non=>cases rx;exact SeqAt.EqAt.same _
  | bl b=>cases rx;exact SeqAt.EqAt.none_bool b
  | int b=>obtain⟨t,rfl⟩:=rx;exact SeqAt.EqAt.none_int b t
  | str b=>obtain⟨t,rfl⟩:=rx;exact SeqAt.EqAt.none_str b t
  | _=>exact absurd (show false=true from fx) XT
 | bl a =>
  cases ry;cases x with
  | non=>cases rx;exact SeqAt.EqAt.bool_none a
  | bl b=>cases rx;exact SeqAt.EqAt.bool_bool a b
  | int b=>obtain⟨t,rfl⟩:=rx;exact SeqAt.EqAt.bool_int a b t
  | str b=>obtain⟨t,rfl⟩:=rx;exact SeqAt.EqAt.bool_str a b t
  | _=>exact absurd (show false=true from fx) XT
 | int a =>
  obtain⟨t',rfl⟩:=ry;cases x with
  | non=>cases rx;exact SeqAt.EqAt.int_none a t'
  | bl b=>cases rx;exact SeqAt.EqAt.int_bool a t' b
  | int b=>obtain⟨t,rfl⟩:=rx;exact SeqAt.EqAt.int_int a t' b t
  | str b=>obtain⟨t,rfl⟩:=rx;exact SeqAt.EqAt.int_str a t' b t
  | _=>exact absurd (show false=true from fx) XT
 | str a =>
  obtain⟨t',rfl⟩:=ry;cases x with
  | non=>cases rx;exact SeqAt.EqAt.str_none a t'
  | bl b=>cases rx;exact SeqAt.EqAt.str_bool a t' b
  | int b=>obtain⟨t,rfl⟩:=rx;exact SeqAt.EqAt.str_int a t' b t
  | str b=>obtain⟨t,rfl⟩:=rx;exact SeqAt.EqAt.str_str a t' b t
  | _=>exact absurd (show false=true from fx) XT
 | _=>exact absurd (show false=true from fy) XT
def eqU (x:V)(u:X9):Bool:=match u with
 | .none=>eqV .non x
 | .bool b=>eqV (.bl b) x
 | .int i _=>eqV (.int i) x
 | .str z _=>eqV (.str z) x
 | _=>false
def zjy {x y:V}{u:X9}(r:RelV y u)(f:QI y=true):eqU x u=eqV y x:=by
 cases y with
 | non=>cases r;rfl
 | bl b=>cases r;rfl
 | int i=>obtain⟨t,rfl⟩:=r;rfl
 | str z=>obtain⟨t,rfl⟩:=r;rfl
 | _=>exact absurd (show false=true from f) XT
theorem zec {x:V}:∀{xs:AF} {us:List X9},Vals xs us->xs.all QI=true->us.any (eqU x)=xs.any λy=>eqV y x
 | _,_,.nil,_=>rfl
 | y::xs,u::us,.cons r t,f=>by
  rw[PU,WG]at f;rw[RZ,RZ,zjy r f.1,zec t f.2]
theorem zbP {A:WT}{s:X8}{x:V}{v:X9}(rx:RelV x v)(fx:QI x=true):∀{xs:AF} {us:List X9},Vals xs us->xs.all QI=true->∀u∈us,SeqAt.EqAt A s u v (eqU x u)
 | _,_,.nil,_=>λu hu=>by cases hu
 | y::xs,u::us,.cons r t,f=>λu' hu=>by
  rw[PU,WG]at f;rcases XQ.mp hu with rfl | hu
  .rw[zjy r f.1];exact znK r rx f.1 fx
  .exact zbP rx fx t f.2 u' hu
def inV (x:V)(xs:AF):Bool:=xs.any λy=>eqV y x
def rIn (K:XY)(neg:Bool):R2:=λx y H Q=>∃p xs,y=.ref p/\(SqL K H p xs\/SqT K H p xs)/\QI x=true/\xs.all QI=true/\Q (.bl (if neg then !inV x xs else inV x xs)) H
def zia:OpR X (VN .In) (rIn X.K false):=by
 intro bQ s σ H x y v u Q I rx ry h;obtain⟨p,xs,rfl,hq,fx,fs,q⟩:=h;cases ry;rcases hq with hq | hq
 .obtain⟨its,r,pl,hz⟩:=I.list hq;refine SeqAt.in_listAt (eqU x) pl.isList (λw hw=>zbP rx fx r fs w (by simpa using hw)) ⟨.bl _,H,I,rfl,?_⟩;rw[show its.toArray.any (eqU x)=its.any (eqU x) by simp,zec r fs];exact q
 .obtain⟨its,r,pl,hz⟩:=I.tuple hq;refine SeqAt.in_tupleAt (eqU x) pl (λw hw=>zbP rx fx r fs w (by simpa using hw)) ⟨.bl _,H,I,rfl,?_⟩;rw[show its.toArray.any (eqU x)=its.any (eqU x) by simp,zec r fs];exact q
def QJ:OpR X (VN .NotIn) (λx y H Q=>∃i j,x=.str i/\y=.str j/\Q (.bl (!(!(UV j i 0 j.length 1).isEmpty))) H):=by
 intro bQ s σ H x y v u Q I rx ry h;obtain⟨i,j,rfl,rfl,q⟩:=h;obtain⟨t,rfl⟩:=rx;obtain⟨t',rfl⟩:=ry;exact notIn_str ⟨.bl _,H,I,rfl,q⟩
def zed:jw X (.builtin "len") (λxs H Q=>∃p ys,xs=[.ref p]/\(SqL X.K H p ys\/SqT X.K H p ys)/\Q (.int ys.length) H):=by
 intro bQ s σ H xs us Q I r h;obtain⟨p,ys,rfl,hq,q⟩:=h;obtain⟨u,rfl,rx⟩:=vals1 r;cases rx;have hn:=Yd;rcases hq with hq | hq
 .obtain⟨its,r',pl,hz⟩:=I.list hq;have hlen:=r'.length;exact Calls.call_len_list pl.isList (by simp only[Xs]<;>lia) ⟨.int ys.length,H,I.tok _,⟨s.toks+1,by rw[Xs,hlen]⟩,q⟩
 .obtain⟨its,r',pl,hz⟩:=I.tuple hq;have hlen:=r'.length;exact len_tuple pl (by simp only[Xs]<;>lia) ⟨.int ys.length,H,I.tok _,⟨s.toks+1,by rw[Xs,hlen]⟩,q⟩
def xZ:jw X (.builtin "len") (λxs H Q=>∃z,xs=[.str z]/\z.length<=Xz/\Q (.int z.length) H):=by
 intro bQ s σ H xs us Q I r h;obtain⟨z,rfl,hz,q⟩:=h;obtain⟨u,rfl,t,rfl⟩:=vals1 r;have hn:=Yd;exact len_str (by lia) ⟨.int z.length,H,I.tok _,⟨_,rfl⟩,q⟩
def QK:jw X (.type "list") (λxs H Q=>∃p ys,xs=[.ref p]/\(SqL X.K H p ys\/SqT X.K H p ys)/\∀l,H l=none->Q (.ref l) (upd H l (.lst ys))):=by
 intro bQ s σ H xs us Q I r h;obtain⟨p,ys,rfl,hq,q⟩:=h;obtain⟨u,rfl,rx⟩:=vals1 r;cases rx;have fin:∀(its:List X9),Vals ys its->ys.length<=Xz->∀(h':Heap) (c':Nat),(∀b o',s.heap.get? b=some o'->h'.get? b=some o') ->
   h'.get? s.heap.objs.size=some { cls:=.type "list",dict:=none,data:=.seq its.toArray c',slots:=#[] }->EP X bQ σ Q (.ref s.heap.objs.size) { s with heap:=h' }:=λits r' hz h' c' kp e =>
  ⟨.ref s.heap.objs.size,_,I.laid (t':=s.toks) kp (XU _) (show qI X.prog X.w _ h' _ (.lst ys) from ⟨hz,its,c',r',e⟩),rfl,q _ (I.hok.fresh (XU _))⟩
 rcases hq with hq | hq
 .obtain⟨its,r',pl,hz⟩:=I.list hq;have hlen:=r'.length;obtain⟨o,ho,hc,n,hd⟩:=pl.isList;exact call_list_seq p (.inl rfl) ho hc hd (λh' c' kp e=>fin its r' hz h' c' kp e) (by simp only[Xs]<;>lia)
 .obtain⟨its,r',pl,hz⟩:=I.tuple hq;have hlen:=r'.length;obtain⟨o,ho,hc,n,hd⟩:=pl;exact call_list_seq p (.inr rfl) ho hc hd (λh' c' kp e=>fin its r' hz h' c' kp e) (by simp only[Xs]<;>lia)
def tyV (K:XY)(T:String)(x:V)(H:Hp):Prop:=match x with
 | .str _=>T="str"
 | .int _=>T="int"
 | .ref p=>(T="list"/\∃xs,SqL K H p xs)\/(T="tuple"/\∃o,K.lookup p=some o/\o.cls=.type "tuple"/\o.dict=none) \/
   (T="dict"/\((∃kvs,H p=some (.dK kvs))\/∃kvs,H p=some (.dT kvs)))\/(T="set"/\∃S n,H p=some (.set S n))
 | _=>False
def znL {bQ:List (Addr×Obj)}{σ:St}{H:Hp}{s:X8}{T:String}{x:V}{v:X9}(I:Inv X bQ σ H s)(r:RelV x v)(ty:tyV X.K T x H) :
  s.TypeIs v T/\∀a,v=.ref a->∃ob,s.heap.get? a=some ob/\ob.dict=none:=by
 cases x with
 | str z =>
  obtain⟨t,rfl⟩:=r;cases (show T="str" from ty);exact⟨typeIs_str s z t,λ_ e=>nomatch e⟩
 | int i =>
  obtain⟨t,rfl⟩:=r;cases (show T="int" from ty);exact⟨typeIs_int s i t,λ_ e=>nomatch e⟩
 | ref p =>
  cases r;rcases ty with ⟨rfl,xs,hq⟩ | ⟨rfl,o,hk,hc,hd⟩ | ⟨rfl,hk⟩ | ⟨rfl,S,n,hk⟩
  .obtain⟨its,_,pl,_⟩:=I.list hq;refine⟨pl.isList.typeIs,λa e=>?_⟩;cases e;obtain⟨o,n,e,c,hd,_⟩:=pl;exact⟨o,e,hd⟩
  .refine⟨⟨o,I.kIn p o hk,hc⟩,λa e=>?_⟩;cases e;exact⟨o,I.kIn _ o hk,hd⟩
  .have z:∃o,s.heap.get? p=some o/\o.ExactDict:=by
    rcases hk with ⟨kvs,hk⟩ | ⟨kvs,hk⟩
    .obtain⟨_,_,_,_,o,_,_,e,ex,_⟩:=I.hok p _ hk;exact⟨o,e,ex⟩
    .obtain⟨_,_,_,_,o,_,_,e,ex,_⟩:=I.hok p _ hk;exact⟨o,e,ex⟩
   obtain⟨o,e,ex⟩:=z;refine⟨⟨o,e,ex.1⟩,λa e2=>?_⟩;cases e2;exact⟨o,e,ex.2.1⟩
  .obtain⟨o,_,_,_,e,ex,_⟩:=I.hok p _ hk;refine⟨⟨o,e,ex.1⟩,λa e2=>?_⟩;cases e2;exact⟨o,e,ex.2.1⟩
 | _=>exact UR ty
def tBM (K:XY)(T:String)(r:V->AF->Hp->VK->Prop)(to:TE)(t:TA):TE:=fun σ H Q=>to σ H λx H1=>tyV K T x H1/\t σ H1 λxs H2=>r x xs H2 Q
variable {o e:Expr}{es:List Expr}{to:TE}{t:TA}{name:Str}{apos cpos:Pos}{T id:String}{r:V->AF->Hp->VK->Prop}
def yu (pa:PlainAttrs T)(slot:Slot T name id)(hty:typeOf (.builtin id)=pure (.type "method_descriptor"))(hm:MtR X id r)(ho:PE X o to)(ha:PA X (e::es) t)
  (hbase:NW o name X.env (eval o X.env)=eval o X.env:=by rfl)
  (hfew:((Tx cpos (WR (e::es) X.env)).all (λx=>!x.1)&&(backToKw cpos (Nx [] X.env)).all (λx=>x.1.isSome)
   && decide ((e::es).length+([]:List N9).length+(if ([]:List N9).isEmpty then 0 else 1)<30))=true:=by rfl)
  (hline:(apos.endLine==cpos.line)=true:=by rfl) (hs:WR (e::es) X.env=(false,eval e X.env)::WR es X.env:=by rfl) (hplain:(Tx cpos (WR es X.env)).any (·.1)=false:=by rfl) :
  PE X (.Call (.Attribute o name apos) (e::es) [] cpos) (tBM X.K T r to t):=by
 intro bQ s σ H Q I h;refine wpAny_Call_method_late hbase hfew hline rfl (thn (ho bQ s σ H _ I h) λv s1 ⟨x,H1,I1,r1,ty,q1⟩=>?_);obtain⟨h1,h2⟩:=znL I1 r1 ty;refine⟨T,id,pa,slot,hty,h1,h2,?_⟩;have hA:=ha cpos bQ s1 σ H1 _ I1 q1;rw[hs]at hA ⊢;refine O9 (by show (false || (Tx cpos (WR es X.env)).any (·.1))=false;rw[hplain]<;>rfl) (RQ ?_);exact thn hA λus s2 ⟨vs,H2,I2,r2,q2⟩=>hm bQ s2 σ H2 x vs v us Q I2 r1 r2 q2
/- xs.append(e),list.index on a module's tuple .. are MtR facts of 06m -/
end
def MtM (X:Cx)(id:String)(r:V->AF->Hp->VK->Prop):Prop :=
 ∀(bQ:List (Addr×Obj)) (s:X8) (σ:St) (H:Hp) (x:V) (xs:AF) (v:X9) (us:List X9) (Q:VK),Inv X bQ σ H s->RelV x v->Vals xs us->r x xs H Q ->
  Xy (Xo X.prog X.w) X.A (call (.builtin id) (v::us)) (EP X bQ σ Q) X.xe s
theorem Vals.one:∀{x:V} {us:List X9},Vals [x] us->∃u,us=[u]/\RelV x u
 | _,_,.cons r .nil=>⟨_,rfl,r⟩
theorem Vals.rep {xs:AF}{us:List X9}(h:Vals xs us):∀k:Nat,Vals (WP k xs).flatten (WP k us).flatten
 | 0=>.nil
 | k+1=>by
  rw[Vz,Vz,WH,WH];exact Vals.append h (Vals.rep h k)
theorem foldl_rep (its:List X9):∀(k:Nat) (acc:List X9),
  List.foldl (λx1 x2=>x1++x2) acc.toArray (WP k its.toArray)=(acc++(WP k its).flatten).toArray
 | 0,acc=>by simp
 | k+1,acc=>by
  have e:acc.toArray++its.toArray=(acc++its).toArray:=by simp
  have e2:(acc++its)++(WP k its).flatten=acc++(WP (k+1) its).flatten:=by
   rw[Vz,WH,W0]
  rw[<- e2,<- foldl_rep its k (acc++its),<- e,Vz,VO]
section
variable {X:Cx}{bQ:List (Addr×Obj)}{σ:St}{H:Hp}{s:X8}{l b:Addr}{xs ys zs:AF}
def Inv.lset {its its':List X9}{n:Nat}{f:Array X9->Array X9}{t':Nat}(I:Inv X bQ σ H s)(hH:H l=some (.lst xs))
  (e:s.heap.get? l=some { cls:=.type "list",data:=.seq its.toArray n }) (hf:f its.toArray=its'.toArray) (hv:Vals ys its') (hz:ys.length<=Xz) :
  Inv X bQ σ (upd H l (.lst ys)) { s with heap:=s.heap.update l (U7 f),toks:=t' }:=by
 have q:=PySem.IsL.update e f;rw[hf]at q;refine I.write (x:=l) (e:=l) (by rw[hH];exact trivial) (.inl rfl) (λb' u hb hu=>(Wa s.heap (U7 f) (Vm hb)).trans hu) ⟨_,q⟩ ?_;exact⟨hz,its',_,hv,q⟩
def Inv.lnew {its:List X9}{t':Nat}(I:Inv X bQ σ H s)(hv:Vals ys its)(hz:ys.length<=Xz) :
  Inv X bQ σ (upd H s.heap.objs.size (.lst ys)) { s with heap:=s.heap.push { cls:=.type "list",data:=.seq its.toArray },toks:=t' } :=
 I.laid (λ_ _ q=>X6 _ q) (XU _) ⟨hz,its,0,hv,Xe _ rfl⟩
theorem Inv.fresh (I:Inv X bQ σ H s):H s.heap.objs.size=none:=I.hok.fresh (XU _)
def Inv.lstM (I:Inv X bQ σ H s)(hH:H l=some (.lst xs)):xs.length<=Xz/\∃(its:List X9) (n:Nat),Vals xs its/\xs.length=its.length/\s.heap.get? l=some { cls:=.type "list",data:=.seq its.toArray n }:=by
 obtain⟨z,its,n,r,e⟩:=I.hok l _ hH;exact⟨z,its,n,r,r.length,e⟩
def ze0 {n:Nat}(h:n<=Xz):Ug n=false:=by
 unfold Ug;exact bf (by lia)
end
section
variable {X:Cx}
def zlN:V->AF->Hp->VK->Prop:=λx vs H Q=>∃l xs y,x=.ref l/\vs=[y]/\H l=some (.lst xs)/\xs.length<Xz/\Q .non (upd H l (.lst (xs++[y])))
def zaB:MtM X "list.append" zlN:=by
 intro bQ s σ H x vs v us Q I rx rv h;obtain⟨l,xs,y,rfl,rfl,hH,hz,q⟩:=h;cases rx;obtain⟨u,rfl,ru⟩:=rv.one;obtain⟨z,its,n,r,hl,e⟩:=I.lstM hH;refine SR F.slot_list_append ⟨_,e,rfl⟩ F.entry_list_append (F.args_list_append_2 _ _) (PySem.list_append l its.toArray n u (by rw[Xs];lia)) ⟨e,?_⟩;refine⟨.non,_,I.lset (its':=its++[u]) hH e (by simp) (r.append (.cons ru .nil)) ?_,rfl,q⟩;rw[XS,ON];lia
def zlO:V->AF->Hp->VK->Prop:=λx vs H Q=>∃l b xs zs,x=.ref l/\vs=[.ref b]/\H l=some (.lst xs)/\H b=some (.lst zs)/\xs.length+zs.length<=Xz/\Q .non (upd H l (.lst (xs++zs)))
def zdi:MtM X "list.extend" zlO:=by
 intro bQ s σ H x vs v us Q I rx rv h;obtain⟨l,b,xs,zs,rfl,rfl,hH,hB,hz,q⟩:=h;cases rx;obtain⟨u,rfl,ru⟩:=rv.one;cases ru;obtain⟨z,its,n,r,hl,e⟩:=I.lstM hH;obtain⟨z2,its2,n2,r2,hl2,e2⟩:=I.lstM hB;have hsz:its.toArray.size+its2.toArray.size<=Xz:=by rw[Xs,Xs];lia
 have hlong:¬ (!its.toArray.isEmpty&&Ug (its.toArray.size+its2.toArray.size))=true:=by
  rw[ze0 hsz,Oy];exact XT
 refine SR F.slot_list_extend ⟨_,e,rfl⟩ F.entry_list_extend (F.args_list_extend_2 _ _)
  (AutoSeq1.list_extend_list_list_0 l its.toArray n b its2.toArray n2 hlong (by rw[Xs];lia) (by lia)) ⟨e,e2,?_⟩
 refine⟨.non,_,I.lset (its':=its++its2) hH e (by simp) (r.append r2) ?_,rfl,q⟩;rw[XS];lia
def zql:R2:=λx y H Q=>∃l b xs zs,x=.ref l/\y=.ref b/\H l=some (.lst xs)/\H b=some (.lst zs)/\xs.length+zs.length<=Xz/\∀p,H p=none->Q (.ref p) (upd H p (.lst (xs++zs)))
def Ye:OpR X (Ua .Add) zql:=by
 intro bQ s σ H x y v u Q I rx ry h;obtain⟨l,b,xs,zs,rfl,rfl,hH,hB,hz,q⟩:=h;cases rx;cases ry;obtain⟨z,its,n,r,hl,e⟩:=I.lstM hH;obtain⟨z2,its2,n2,r2,hl2,e2⟩:=I.lstM hB;refine PySem.P.add_list e e2 ?_ (by rw[Xs,Xs];lia);have ea:its.toArray++its2.toArray=(its++its2).toArray:=by simp
 rw[ea];exact⟨.ref _,_,I.lnew (t':=s.toks) (r.append r2) (by rw[XS];lia),rfl,q _ I.fresh⟩
def zqm:R2:=λx y H Q=>∃l k xs,x=.ref l/\y=.int k/\H l=some (.lst xs)/\-(2^63)<=k/\k<2^63/\xs.length*k.toNat<=Xz /\
 ∀p,H p=none->Q (.ref p) (upd H p (.lst (WP k.toNat xs).flatten))
def len_rep {α:Type}(xs:List α)(k:Nat):(WP k xs).flatten.length=k*xs.length:=by
 induction k with
 | zero=>simp
 | succ k ih=>rw[Vz,WH,XS,ih,Tp,To]
def zjz:OpR X (Ua .Mult) zqm:=by
 intro bQ s σ H x y v u Q I rx ry h;obtain⟨l,k,xs,rfl,rfl,hH,h1,h2,hz,q⟩:=h;cases rx;obtain⟨t,rfl⟩:=ry;obtain⟨z,its,n,r,hl,e⟩:=I.lstM hH;have hlen:its.toArray.size*k.toNat<=Xz:=by rw[Xs,<- hl];exact hz
 have hcap:¬ its.toArray.size*k.toNat>(2^63-1)/8:=by
  have:(Xz:Nat)<=(2^63-1)/8:=by decide
  lia
 have hfit:¬ (!Builtin.List.listFitsIndex k)=true:=by
  rw[fitsIndex_both h1 h2];exact XT
 have hlong:¬ Ug (its.toArray.size*k.toNat)=true:=by
  rw[ze0 hlen];exact XT
 have hnew:List.foldl (λx1 x2=>x1++x2) #[] (WP (if its.toArray.isEmpty=true then 0 else k.toNat) its.toArray)=(WP k.toNat its).flatten.toArray:=by
  have f0:∀m:Nat,List.foldl (λx1 x2=>x1++x2) #[] (WP m its.toArray)=(WP m its).flatten.toArray:=λm=>by
   have:=foldl_rep its m [];rw[RK]at this;exact this
  rw[f0];cases its with
  | nil=>simp
  | cons a r'=>rw[bq (by simp)]
 refine wpAny_binaryOp_repeat_ref (T:="list") (U:="int") (by decide) ⟨_,e,rfl⟩ (λs'=>typeIs_int s' k t) noFill_list_mul F.fills_int_mul F.slot_int_rmul repeat_list F.slot_int_index.lookup
  (SR F.slot_int_rmul (typeIs_int s k t) F.entry_int_rmul (F.args_int_rmul_2 _ _) (int___rmul___int_list k t l its.toArray n)
   ⟨e,rfl,⟨_,e,rfl⟩,SR F.slot_list_mul ⟨_,e,rfl⟩ F.entry_list_mul (F.args_list_mul_2 _ _) (AutoListH.list___mul___list_int_3 l its.toArray n k t hfit hcap hlong) ⟨e,?_⟩⟩)
 rw[hnew];exact⟨.ref _,_,I.lnew (t':=s.toks) (r.rep k.toNat) (by rw[len_rep,Tn];exact hz),rfl,q _ I.fresh⟩
end
end L2
namespace Att
open PySem PySem.W PySem.Calls PyProof.Rows
def zbk {P:Params}{h:Heap}:∀(ns:List Int) (vs:List X9),WellAll P h vs (ns.map WData.int)->RC vs ns:=by
 intro ns;induction ns with
 | nil =>
  intro vs w;rw[NJ]at w;cases w;exact .nil
 | cons n ns ih =>
  intro vs w;rw[Xf]at w;cases w with
  | cons a b =>
   cases a;exact .cons _ _ (ih _ b)
def zib {l:OpenLaw}{n:Nat}(hn:l.most=some n){P:Params}{h:Heap}{args:List WData}{vals:List X9}
  (hpre:l.row.toRowW.claim.pre args=true) (hwl:WellAll P h vals args) :
  ∃a vs ns,vals=[WN a]/\args=[WData.list (ns.map WData.int)]/\h.get? a=some { cls:=.type "list",data:=.seq vs.toArray }/\RC vs ns/\ns.length<=n:=by
 have hsh:WShape.hasAll [] args [.list .int]=true:=(pre_splitW hpre).1;have hc:l.pre.holds [] { args:=args }=true:=(pre_splitW hpre).2;obtain⟨d,r,rfl,h1,h2⟩:=hasAllW_cons hsh;obtain rfl:=hasAllW_nil h2;obtain⟨xs,rfl,h3⟩:=hasW_list h1;obtain⟨ns,rfl⟩:=items_int h3;have hlen:ns.length<=n:=by
  unfold OpenLaw.pre at hc;have h4:(WTm.not (.lt (.lit (.int (n:Int))) (.len (.arg 0)))).holds [] { args:=[.list (ns.map .int)] }=true:=by
   have h4:=(holds_andW hc).1;rw[hn]at h4;exact h4
  have h5:=condW_of h4 (w_not (w_lt w_lit (w_len_list (w_arg rfl))));rw[Y1]at h5;refine Nat.le_of_not_lt λq=>?_;have q':(n:Int)<((ns.length:Nat):Int):=by lia
  first
   | (rw[br q']at h5;exact absurd h5 (by decide))
   | (simp at h5;lia)
 cases hwl with
 | cons w1 w2 =>
  cases w2;cases w1 with
  | list ho hall=>exact⟨_,_,ns,rfl,rfl,ho,zbk ns _ hall,hlen⟩
def zic (l:OpenLaw)(args:List WData):l.row.toRowW.claim.post args (.bool true) args=true :=
 postW_of (r:=l.row.toRowW) (X:=(true==true))
  (show WShape.has [] (.bool true) .bool=true by first | rfl | decide | simp[WShape.has,WShape.arms,WShape.armsAll])
  (show (WTm.eq .res (.lit (.bool true))).value [] { args:=args,res:=some (.bool true),after:=args }=some (.bool (true==true)) from w_eq_bool (w_res rfl) w_lit) rfl
def ze1 {l:OpenLaw}{n:Nat}{q:Xd}{loose:AE}{XP:(Str->Option X9)->Heap->Prop}{YP:WV->Heap->Prop}{d:DefRec}
  (hn:l.most=some n) (hdf:d.params.defaults=[])
  (call:∀(w:WV) (s₀ s₁:X8) (mg mb:Str->Option X9) (fa:Addr) (o:Obj) (pm cd doc:X9) (a:Addr) (vs:List X9) (ns:List Int),
   Ground q loose [] XP w s₀ mg mb s₁.heap->YP w s₁.heap ->
   s₁.heap.get? fa=some o->o.data=.func (docDef d.name d.params d.body d.scope pm cd doc)->s₁.heap.CodeRec cd d.name->mg d.name=some (.ref fa) ->
   s₁.heap.get? a=some { cls:=.type "list",data:=.seq vs.toArray }->RC vs ns->ns.length<=n->s₁.gens=#[] ->
   UX (Xo l.prog w) N8 (.call (.ref fa) ⟨[.ref a],[]⟩) (λr s'=>r=.ok (.ret (.bool true))/\OldK s₁.heap s'.heap/\s'.os=s₁.os/\SC s'.gens) s₁) :
  WalkO q loose XP YP l.row.toRowW d [] (λf vs=>PySem.call f vs):=by
 intro w s₀ s₁ mg mb G Y fa o pm cd doc dV kV ho hd hcd hD hmg hg args vals as hpre hlay hrd hwl hlo;obtain rfl:dV=.none:=Dflts.none hD hdf;obtain rfl:kV=.none:=Dflts.noKw hD;obtain⟨a,vs,ns,rfl,rfl,hobj,hints,hlen⟩:=zib hn hpre hwl;refine enter_call (UI (call w s₀ s₁ mg mb fa o pm cd doc a vs ns G Y ho (fd_plain hd) hcd hmg hobj hints hlen hg) λr s' hq=>?_);obtain⟨rfl,h2,h3,h4⟩:=hq;exact⟨.inl ⟨.bool true,.bool true,[],rfl,λ_=>rfl,.bool true,zic l _,λ_=>⟨List.Pairwise.nil,λ_ hm=>(nomatch hm)⟩⟩,h2,h3,h4⟩
end Att
namespace L2
open PySem PySem.Spec PyProof.Rows
theorem zdj:∀{vs:List X9} {ns:List Int},RC vs ns->Vals (ns.map V.int) vs
 | _,_,.nil=>.nil
 | _,_,.cons n t h=>.cons ⟨t,rfl⟩ (zdj h)
def znM (H:Hp):Prop:=∀b,H b=none\/∃o xs,H b=some (.frz o (.lst xs))
def zjA {P:Xd}{w:WV}{K:XY}{mg mb:Str->Option X9}{CX:CXT}{k:Nat}{fa a:Addr}{fd:Xc}{x:Str}{sp:Sp}{s₁:X8}{vs:List X9}{ns:List Int}
  (KX:K.In s₁.heap) (hns:s₁.heap.Ns XM mg) (hb:s₁.heap.Ns NR mb) (hbb:∀x:Str,x ≠ "__name__"->mb x=T0 x) (hlim:s₁.heap.NoLimit) (hg:s₁.gens=#[])
  (ha:s₁.heap.get? a=some { cls:=.type "list",data:=.seq vs.toArray }) (hi:RC vs ns) (hl:ns.length<=Xz) (hr:JG k N8)
  (F:∀base:Heap,K.In base->base.Ns XM mg->ql P w K mg base CX k fa fd [x] sp) (hbind:∀(s:X8) (u:X9),NM s fd ⟨[u],[]⟩ [(x,u)])
  (hsp:∀H:Hp,znM H->SqL K H a (ns.map V.int)->sp [.ref a] H (λv _=>v=.bl true) λ_ _ _=>False)
  (hCX:∀H e s',CX [] H s₁ (λ_ _ _=>False) e s'->False) :
  UX (Xo P w) N8 (.call (.ref fa) ⟨[.ref a],[]⟩) (λr s'=>r=.ok (.ret (.bool true))/\OldK s₁.heap s'.heap/\s'.os=s₁.os/\SC s'.gens) s₁:=by
 have rv:=zdj hi;have lenV:=hi.length;have core:∀H:Hp,znM H->SqL K H a (ns.map V.int)->HOk P w H s₁.heap->(∀b,H b≠none->b=a)->(H a≠none->K.lookup a=none) ->
   UX (Xo P w) N8 (.call (.ref fa) ⟨[.ref a],[]⟩) (λr s'=>r=.ok (.ret (.bool true))/\OldK s₁.heap s'.heap/\s'.os=s₁.os/\SC s'.gens) s₁:=by
  intro H hO hS hok hA hK;have base_of:∀{b:Addr} {o:Obj},s₁.heap.get? b=some o->H b=none->(zd6 s₁.heap H).get? b=some o:=λe n=>zjq e n;have noA:∀{b:Addr} {o:Obj} {es:Array DictEntry} {ep:Nat},s₁.heap.get? b=some o->o.data=.dict es ep->H b=none:=λ{b o es ep} e d=>by
   cases q:H b with
   | none=>rfl
   | some u =>
    have e':b=a:=hA b (by rw[q];simp);subst e';rw[ha]at e;cases e;have d':Data.seq vs.toArray _=Data.dict es ep:=d;cases d'
  have nsK:∀{b:Addr} {m:Str->Option X9},s₁.heap.Ns b m->(zd6 s₁.heap H).Ns b m:=λ{b m} ⟨o,es,ep,e,d,r⟩=>⟨o,es,ep,base_of e (noA e d),d,r⟩;have hKb:K.In (zd6 s₁.heap H):=λb o e=>base_of (KX b o e) (by
   cases q:H b with
   | none=>rfl
   | some u =>
    have e':b=a:=hA b (by rw[q];simp);subst e';rw[hK (by rw[q];simp)]at e;cases e)
  have hM:Mod K mg (zd6 s₁.heap H):=⟨hKb,nsK hns,⟨mb,nsK hb,hbb⟩,let ⟨mc,h1,h2⟩:=hlim;⟨mc,nsK h1,h2⟩⟩;have e0:zlJ P w K mg (zd6 s₁.heap H) N8 [] s₁ H:=⟨rfl,hM,λb o e=>zlF e,Nat.le_of_eq (zh4 _ _),trivial,λb hb=>absurd (show b∈([]:List Addr) from hb) (by simp),hok,.of_eq hg⟩;refine UI ((F _ hKb (nsK hns)).run N8 [] s₁ H ⟨[.ref a],[]⟩ [.ref a] [.ref a] _ _ hr e0 (hbind s₁ (.ref a)) (.cons rfl .nil) (hsp H hO hS)) λr s' h=>?_;cases r with
  | error e=>exact(hCX H e s' h).elim
  | ok fl =>
   cases fl with
   | next=>exact UR h
   | brk=>exact UR h
   | cont=>exact UR h
   | ret u =>
    obtain⟨v,H',os,bare,un,hok',r',q⟩:=h;have q':v=.bl true:=q;subst q';obtain rfl:u=SU true:=r';refine⟨rfl,OldK.of_keep λb o e=>?_,os,bare⟩;cases q:H b with
    | none=>exact un.keep b o e q (by intro z;exact absurd (show b∈([]:List Addr) from z) (by simp)) (by simp)
    | some u =>
     rcases hO b with z | ⟨ob,xs,z⟩
     .rw[q]at z;cases z
     .have z2:=un.frzs b ob _ z;obtain⟨e1,_⟩:=hok b _ z;obtain⟨e2,_⟩:=hok' b _ z2;rw[e]at e1;cases e1;exact e2
 cases hk:K.lookup a with
 | some o =>
  have e:=KX a o hk;rw[ha]at e;cases e;refine core (λ_=>none) (λ_=>.inl rfl) (.inr ⟨_,vs.toArray,_,hk,rfl,rfl,rfl,by rw[Xs,lenV];exact hl,by simpa using rv⟩) (λb u z=>by have z':(none:Option HO)=some u:=z;cases z') (λb z=>absurd rfl z) λz=>absurd rfl z
 | none =>
  refine core (λb=>if b=a then some (.frz { cls:=.type "list",data:=.seq vs.toArray } (.lst (ns.map V.int))) else none) (λb=>?_) (.inl (.inr ⟨{ cls:=.type "list",data:=.seq vs.toArray },bw rfl⟩)) (λb u z=>?_) (λb z=>?_) λ_=>hk
  .by_cases hb:b=a
   .exact .inr ⟨_,_,bw hb⟩
   .exact .inl (bq hb)
  .by_cases hb:b=a
   .have z':=(bw hb).symm.trans z;cases z';subst hb;exact⟨ha,by rw[Y1];exact hl,vs,_,rv,ha⟩
   .have z':=(bq hb).symm.trans z;cases z'
  .by_cases hb:b=a
   .exact hb
   .exact absurd (bq hb) z
def zht {l:OT}{n k:Nat}{q:Xd}{loose:AE}{XP:(Str->Option X9)->Heap->Prop}{YP:WV->Heap->Prop}{d:DefRec}{K:Params->XY}{CX:WV->CXT}{sp:WV->Sp}{x:Str}
  (hn:l.most=some n) (hn2:n<=Xz) (hdf:d.params.defaults=[]) (hr:JG k N8)
  (hY:∀(w:WV) (h:Heap),YP w h->(K w.params).In h)
  (F:∀(w:WV) (mg:Str->Option X9) (fa:Addr) (h:Heap),(K w.params).In h->h.Ns XM mg->mg d.name=some (.ref fa) ->
   ∃fd:Xc,(∀(s:X8) (u:X9),NM s fd ⟨[u],[]⟩ [(x,u)]) /\
    ∀base:Heap,(K w.params).In base->base.Ns XM mg->ql l.prog w (K w.params) mg base (CX w) k fa fd [x] (sp w))
  (hsp:∀(w:WV) (H:Hp) (a:Addr) (ns:List Int),ns.length<=n->znM H->SqL (K w.params) H a (ns.map V.int)->sp w [.ref a] H (λv _=>v=.bl true) λ_ _ _=>False)
  (hCX:∀(w:WV) (H:Hp) (s:X8) (e:X9) (s':X8),CX w [] H s (λ_ _ _=>False) e s'->False) :
  NY q loose XP YP l.row.toRowW d [] (λf vs=>PySem.call f vs):=by
 refine Att.ze1 hn hdf λw s₀ s₁ mg mb fa o pm cd doc a vs ns G Y ho hd hcd hmg hobj hints hlen hg=>?_;have KX:=hY w _ Y;obtain⟨fd,hb,hF⟩:=F w mg fa _ KX G.T.g hmg;exact zjA KX G.T.g G.T.b G.T.builtins G.T.nolimit hg hobj hints (X0 hlen hn2) hr hF hb (λH hO hS=>hsp w H a ns hlen hO hS) λH e s'=>hCX w H s₁ e s'
end L2
/- THE LAST THEOREM (shape;LID,My.* are yours):
   My.Adr: a structure of the addresses that your layer names (classes,functions);My.Txt K t: a structure (Prop) of the equations over K;
   My.txt_mk:{K} {implicit addresses ..} (e1:nsIn K XM "law"=some (some (.ref f))) (e2:K.lookup f=some ⟨oc,od,.func (fnOf "law" "law" params body scope dV kV doc pm an cdv ct),sl⟩) (e3:codeIn K cdv "law"=true) ..:∃t,My.Txt K t
set_option maxRecDepth 100000 in
set_option maxHeartbeats 0 in
theorem PySem.Challenge.cw_LID_holds : PySem.Challenge.rw_LID.Holds := by
 w_on;o_law;k_head;(case hw=>w_witness2);k_fill;refine L2.zht (l:=PySem.Challenge.rw_LID) (n:=63) (k:=40) (x:="script") (CX:=λw=>..) (sp:=λ_=>My.zqn) rfl (by decide) rfl ⟨rfl,by decide,by decide⟩ (λw h Y=>PySem.W.kIn_of Y) ?F ?S ?C
 case F =>
  intro w mg fa h KX G hmg
  have T:∃t,My.Txt (L2.KOf KX) t:=by
   dsimp only[L2.KOf]                          -- K must stand as «<heap const> w.params» for k_is;refine' My.txt_mk ?e1 ?e2 ?e3 ..;(case e1=>PySem.W.k_is)                    -- in the order: a name->its address->its object->its parts;(case e2=>PySem.W.k_is);..
  obtain⟨t,T⟩:=T
  have e0:=hmg.symm.trans (V7 KX G T.law)
  cases e0                                       -- fa is the law's own address
  exact⟨_,λs u=>.of_eq rfl,λbase kb nb=>My.law_fn T kb nb⟩     -- if «.of_eq rfl» comes too early: refine' ⟨_,?b,λbase kb nb=>My.law_fn T kb nb⟩;exact λs u=>.of_eq rfl
 case S=>exact λw H a ns hl hO hS=>..
 case C=>exact ..
(the tactic k_is has no namespace: write k_is) -/
namespace L2
open PySem PySem.Spec PyProof.Rows
def JH (s:Stmt):Arguments:=match s with
 | .FunctionDef _ a _ _ _ _ _ _ _ _=>a
 | _=>{ posonlyargs:=[],args:=[],vararg:=none,kwonlyargs:=[],kw_defaults:=[],kwarg:=none,defaults:=[] }
def yP (s:Stmt):List Stmt:=match s with
 | .FunctionDef _ _ b _ _ _ _ _ _ _=>b
 | _=>[]
def zj (s:Stmt):Va:=match s with
 | .FunctionDef _ _ _ _ _ _ sc _ _ _=>sc
 | _=>{ kind:=.function,names:=[],isGenerator:=false,isCoroutine:=false }
abbrev CX0:CXT:=λ_ _ _ _ _ _=>False
abbrev E0:XK:=λ_ _ _=>False
def zpf {X:Cx}:Passes CX0 X E0:=λ_ _ _ _ _ _ _ h=>h.elim
structure Fun (K:XY)(x qual:Str)(st:Stmt)(f:Addr)(fd:Xc):Prop where
 ex:∃(oc:X9) (od:Option Addr) (kV doc pm:X9) (an:Option Addr) (cdv ct:X9) (osl:Array (Option X9)),
  fd=Ut x qual (JH st) (yP st) (zj st) .none kV doc pm an cdv ct/\K.lookup f=some ⟨oc,od,.func fd,osl⟩/\Sv K cdv qual=true
 kp:Tu K (.ref f)=true
section
variable {P:Xd}{w:WV}{K:XY}{mg:Str->Option X9}{base:Heap}
theorem cxK {CX P w K mg base N q sc f cd A o s H E}:(zeX CX P w K mg base N q sc f cd A o s H E).K=K:=rfl
theorem cxP {CX P w K mg base N q sc f cd A o s H E}:(zeX CX P w K mg base N q sc f cd A o s H E).prog=P:=rfl
theorem cxW {CX P w K mg base N q sc f cd A o s H E}:(zeX CX P w K mg base N q sc f cd A o s H E).w=w:=rfl
def Fun.ok {x qual:Str}{st:Stmt}{f:Addr}{fd:Xc}{N ps:AE}{k:Nat}{sp:Sp}(F:Fun K x qual st f fd)(S:zH N ps (zj st))(len:∀vs H Q E,sp vs H Q E->vs.length=ps.length)
  (hbody:∀(cdv:X9) (A:WT) (outer:List Env) (s:X8) (H:Hp) (vs:AF) (Q:VK) (E:XK),JG k (A.deeper (Ph qual (zj st) s.heap.objs.size f cdv))->sp vs H Q E ->
   ∃t,PSs (zeX CX0 P w K mg base N qual (zj st) f cdv A outer s H E).nox (yP st) t/\t { nx:=λ_ H'=>Q .non H',rt:=Q } (start N vs) H):ql P w K mg base CX0 (k+1) f fd ps sp:=by
 obtain⟨oc,od,kV,doc,pm,an,cdv,ct,osl,rfl,lk,hcd⟩:=F.ex;refine zm0 lk hcd S len λA outer s H vs Q E hr hsp=>?_;obtain⟨t,h,q⟩:=hbody cdv A outer s H vs Q E hr hsp;exact⟨t,h.nox,q⟩
def Fun.binds {x qual:Str}{st:Stmt}{f:Addr}{fd:Xc}{ps:AE}(F:Fun K x qual st f fd)
  (h:∀(kV doc pm:X9) (an:Option Addr) (cdv ct:X9) (us:List X9),us.length=ps.length->bindArgs (Ut x qual (JH st) (yP st) (zj st) .none kV doc pm an cdv ct) ⟨us,[]⟩=pure (ps.zip us)):Binds K fd ps []:=by
 obtain⟨oc,od,kV,doc,pm,an,cdv,ct,osl,rfl,lk,hcd⟩:=F.ex;exact .all (h kV doc pm an cdv ct)
def zjB {x qual:Str}{st:Stmt}{f:Addr}{oc:X9}{od an:Option Addr}{osl:Array (Option X9)}{kV doc pm cdv ct:X9}(l:K.lookup f=some ⟨oc,od,.func (Ut x qual (JH st) (yP st) (zj st) .none kV doc pm an cdv ct),osl⟩)
  (c:Sv K cdv qual=true) (k:Tu K (.ref f)=true):Fun K x qual st f (Ut x qual (JH st) (yP st) (zj st) .none kV doc pm an cdv ct):=⟨⟨oc,od,kV,doc,pm,an,cdv,ct,osl,rfl,l,c⟩,k⟩
end
section
variable {X:Cx}
def pv (i:Nat){x:Str}{pos:Pos}(hN:X.N[i]?=some x:=by rfl)(hv:Vis X.env.scope x:=by first | exact XD rfl | exact TL (XD rfl) | exact TL (TL rfl))(hd:(x==("__debug__":Str))=false:=by decide)
  (hcd:(x==("__classdict__":Str))=false:=by decide):PE X (.Name x pos) (zoQ i):=znt hN hv hd hcd
end
def zbl {A B:Prop}(h:B):if false=true then A else B:=by
 rw[bq XT];exact h
def Yg {A B:Prop}(h:A):if true=true then A else B:=by
 rw[bw rfl];exact h
def zcX {c A B:Prop} [Decidable c](h1:c->A)(h2:¬ c->B):if c then A else B:=by
 by_cases h:c
 .rw[bw h];exact h1 h
 .rw[bq h];exact h2 h
def zq (H H':Hp):Prop:=∀b o,H b=some o->H' b=some o
def zq.refl (H:Hp):zq H H:=λ_ _ h=>h
def zq.trans {H H1 H2:Hp}(a:zq H H1)(b:zq H1 H2):zq H H2:=λc o h=>b c o (a c o h)
def zq.free {H H':Hp}(e:zq H H'){l:Addr}(h:H' l=Option.none):H l=Option.none:=by
 cases q:H l with
 | none=>rfl
 | some o =>
  rw[e l o q]at h;cases h
def zq.seq {K:XY}{H H':Hp}{a:Addr}{xs:AF}(e:zq H H')(h:SqL K H a xs):SqL K H' a xs:=by
 rcases h with (h | ⟨o,h⟩) | h
 .exact .inl (.inl (e _ _ h))
 .exact .inl (.inr ⟨o,e _ _ h⟩)
 .exact .inr h
end L2
set_option maxHeartbeats 4000000
namespace L2
open PySem PySem.Spec PyProof.Rows
section
variable {X:Cx}
def yW:OpR X (Ua .Mult) (rI IntMulOk λi j=>.int (i*j)):=opI λ_ _ _ _ _ _ _ hc q=>mul_int q hc
def J7 (_ j:Int):Prop:=0<j/\j.natAbs.log2<9000
def zjC:OpR X (Ua .FloorDiv) (rI J7 λi j=>.int (i/j)):=opI λi j _ _ _ _ _ hc q=>by
 have h1:(0:Int)<j:=hc.1;exact floordiv_int (by lia) (by rw[Re i (by lia)];exact q) (.inl (PyProof.noPylong_of_log2 hc.2))
def J7.small {i j:Int}(h:0<j)(h':j<1073741824):J7 i j:=by
 refine⟨h,?_⟩;have h0:j.natAbs≠0:=by lia
 have:j.natAbs.log2<30:=(Nat.log2_lt h0).mpr (by lia);lia
def ze2 {i j:Int}(h1:-(2^64)<j)(h2:j<2^64):IntMulOk i j:=IntMulOk.of_right (intBits_le_64 h1 h2)
def zpg {i j:Int}(h1:i.natAbs<2^8000)(h2:j.natAbs<2^8000):IntMulOk i j:=IntMulOk.of_le (m:=8000) (n:=8000) (intBits_le_iff.mpr h1) (intBits_le_iff.mpr h2) (by decide)
def zph (T U:String):Option Bool:=if (R6 T==R6 U)=true then some true else if PySem.W.kitMeta U=true then (fastBuiltinMro T).map (·.contains (.type U)) else none
def znN (K:XY){T U:String}{b:Bool}(e:zph T U=some b):Xb K (.type T) (.type U)=some b:=e
def za5:jw X (.builtin "isinstance") (λxs H Q=>∃x T U b,xs=[x,.ty U]/\zaA X.K H x (.type T)/\zph T U=some b/\Q (.bl b) H):=by
 intro bQ s σ H xs us Q I r h;obtain⟨x,T,U,b,rfl,ty,e,q⟩:=h;obtain⟨u,w',rfl,rx,ru⟩:=vals2 r;cases ru;exact zh8 I rx ty (znN X.K e) λtk=>⟨.bl b,H,I.tok tk,rfl,q⟩
end
def j8 {b:Bool}{A B:Prop}(e:b=true)(h:A):if b=true then A else B:=by
 rw[bw e];exact h
def yI {b:Bool}{A B:Prop}(e:b=false)(h:B):if b=true then A else B:=by
 subst e;exact zbl h
structure zu (K:XY)(mg:Str->Option X9)(x:Str)(st:Stmt)(ps:AE)(f:Addr)(fd:Xc):Prop where
 F:Fun K x x st f fd
 g:mg x=some (.ref f)
 b:Binds K fd ps []
def jW {α:Type}{xs:List α}{i:Int}{v:α}(h:0<=i)(e:xs[i.toNat]?=some v):atI xs i=some v:=by
 have:=QH e;rwa [V1 h]at this
def zqo (t u:TS):TS:=λD σ H=>∃M:St->Hp->Prop,t { D with nx:=M } σ H/\∀ σ' H',M σ' H'->u D σ' H'
def zbx {X:Cx}{st:Stmt}{rest:List Stmt}{t u:TS}(h1:PS X st t)(h2:PSs X rest u):PSs X (st::rest) (zqo t u):=by
 intro bQ s σ H D I h;obtain⟨M,h3,h4⟩:=h;refine Pw (thn (h1 bQ s σ H _ I h3) λf s1 q=>?_);cases f with
 | next =>
  obtain⟨σ1,H1,I1,q1⟩:=q;exact h2 bQ s1 σ1 H1 D I1 (h4 σ1 H1 q1)
 | brk=>exact q
 | cont=>exact q
 | ret v=>exact q
def ze {H:Hp}{l:Addr}{o:HO}(h:H l=none):zq H (upd H l o):=λb u e=>by rw[zk (zh e h)];exact e
mutual
inductive Rdv (K:XY)(H:Hp):V->V3->Prop
 | non:Rdv K H .non .none
 | bl (b:Bool):Rdv K H (.bl b) (.bool b)
 | int (i:Int):Rdv K H (.int i) (.int i)
 | str (x:Str):Rdv K H (.str x) (.str x)
 | lst {a:Addr} {xs:AF} {ds:List V3}:SqL K H a xs->xK K H xs ds->Rdv K H (.ref a) (.list ds)
 | tup {a:Addr} {xs:AF} {ds:List V3}:SqT K H a xs->xK K H xs ds->Rdv K H (.ref a) (.tuple ds)
inductive xK (K:XY)(H:Hp):AF->List V3->Prop
 | nil:xK K H [] []
 | cons {x:V} {d:V3} {xs:AF} {ds:List V3}:Rdv K H x d->xK K H xs ds->xK K H (x::xs) (d::ds)
end
section
variable {X:Cx}{bQ:List (Addr×Obj)}{σ:St}{H:Hp}{s:X8}
def zid {a:Addr}{xs:AF}{ds:List V3}(I:Inv X bQ σ H s)(hq:SqL X.K H a xs)(h:∀us,Vals xs us->∃as,NK s.heap us ds as):∀u,RelV (.ref a) u->∃as,Reads s.heap u (.list ds) as:=by
 intro u r;cases r;obtain⟨its,rv,p,hz⟩:=I.list hq;obtain⟨as,ra⟩:=h _ rv;obtain⟨o,ho,hc,n,hd⟩:=p.isList;exact⟨_,.list ho hc hd (by simpa using ra)⟩
def zie {a:Addr}{xs:AF}{ds:List V3}(I:Inv X bQ σ H s)(hq:SqT X.K H a xs)(h:∀us,Vals xs us->∃as,NK s.heap us ds as):∀u,RelV (.ref a) u->∃as,Reads s.heap u (.tuple ds) as:=by
 intro u r;cases r;obtain⟨its,rv,p,hz⟩:=I.tuple hq;obtain⟨as,ra⟩:=h _ rv;obtain⟨o,ho,hc,n,hd⟩:=p;exact⟨_,.tuple ho hc hd (by simpa using ra)⟩
def zgk {v:V}{vs:AF}{d:V3}{ds:List V3}(h:∀u,RelV v u->∃as,Reads s.heap u d as)(t:∀us,Vals vs us->∃as,NK s.heap us ds as):∀us,Vals (v::vs) us->∃as,NK s.heap us (d::ds) as:=by
 intro us r;cases r with
 | cons r1 r2 =>
  obtain⟨as,ra⟩:=h _ r1;obtain⟨bs,rb⟩:=t _ r2;exact⟨_,.cons ra rb⟩
def Rdv.reads (I:Inv X bQ σ H s){v:V}{d:V3}{u:X9}(h:Rdv X.K H v d):RelV v u->∃as,Reads s.heap u d as :=
 Rdv.rec (motive_1:=λv d _=>∀u,RelV v u->∃as,Reads s.heap u d as) (motive_2:=λvs ds _=>∀us,Vals vs us->∃as,NK s.heap us ds as)
  (λu r=>by cases r;exact⟨_,.none⟩) (λb u r=>by cases r;exact⟨_,.bool b⟩) (λi u r=>by obtain⟨t,rfl⟩:=r;exact⟨_,.int i t⟩) (λx u r=>by obtain⟨t,rfl⟩:=r;exact⟨_,.str x t⟩)
  (λhq _ h=>zid I hq h) (λhq _ h=>zie I hq h) (λus r=>by cases r;exact⟨_,.nil⟩) (λ_ _ h t=>zgk h t) h u
structure zgl (x y:V3):Prop where
 l1:x.canLay0=true
 l2:y.canLay0=true
 dp:x.depth<=64
def znO (K:XY)(neg:Bool):R2:=λx y H Q=>∃dx dy,Rdv K H x dx/\Rdv K H y dy/\zgl dx dy/\Q (.bl (if neg then !PyData.eqv dx dy else WS dx dy)) H
def jo (hu:X.A.units+64<U3):OpR X (VN .Eq) (znO X.K false):=by
 intro bQ s σ H x y v u Q I rx ry h;obtain⟨dx,dy,hx,hy,c,q⟩:=h;obtain⟨as,ra⟩:=hx.reads I rx;obtain⟨bs,rb⟩:=hy.reads I ry;have:=c.dp;exact SeqAt.compareEq_reads ra rb c.l1 c.l2 (by lia) ⟨.bl _,H,I,rfl,q⟩
def ZJ (hu:X.A.units+64<U3):OpR X (VN .NotEq) (znO X.K true):=by
 intro bQ s σ H x y v u Q I rx ry h;obtain⟨dx,dy,hx,hy,c,q⟩:=h;obtain⟨as,ra⟩:=hx.reads I rx;obtain⟨bs,rb⟩:=hy.reads I ry;have:=c.dp;exact SeqAt.compareNe_reads ra rb c.l1 c.l2 (by lia) ⟨.bl _,H,I,rfl,q⟩
def zpi (K:XY)(neg:Bool):R2:=λx y H Q=>∃d ds,Rdv K H x d/\Rdv K H y (.list ds)/\d.canLay0=true/\Vw ds=true/\d.depth<=60/\Q (.bl (if neg then !ds.any (λz=>WS z d) else ds.any λz=>WS z d)) H
def zbQ (hu:X.A.units+64<U3):OpR X (VN .In) (zpi X.K false):=by
 intro bQ s σ H x y v u Q I rx ry h;obtain⟨d,ds,hx,hy,c1,c2,c3,q⟩:=h;obtain⟨as,ra⟩:=hx.reads I rx;obtain⟨bs,rb⟩:=hy.reads I ry;exact SeqAt.in_list_reads rb ra c2 c1 (by lia) ⟨.bl _,H,I,rfl,q⟩
end
def jX (X:Cx)(N:AE)(scope:Va)(cl:List (Str×Addr))(C:Addr)(fp:List Addr)(bQ:List (Addr×Obj))(s:X8)(H:Hp):Cx where
 prog:=X.prog
 w:=X.w
 K:=X.K
 mg:=X.mg
 base:=X.base
 A:=X.A
 N:=N
 s₀:=s
 H₀:=H
 env:=T9 scope cl C X.env
 outer:=X.stack
 stack:=X.stack
 ex:=fp
 fn:=λ_=>false
 calm:=X.calm
 pn:=X.pn++bQ
 xe:=λ_ _=>False
def pull (src:List (Option Nat))(σ:St):St:=src.map λo=>match o with
 | some j=>(σ[j]?).getD none
 | none=>none
structure zZ (X:Cx)(N:AE)(src:List (Option Nat))(scope:Va)(cl:List (Str×Addr)):Prop where
 kind:scope.kind=.function
 nocell:∀y∈scope.names,y.2 ≠ .cell
 names:∀y∈scope.names,y.2=.local->scope.names.lookup y.1=some .local
 clos:Rx scope X.env=pure cl
 sub:∀x c,cl.lookup x=some c->X.env.cells.lookup x=some c
 has:∀x,((Vs scope X.env).names.lookup x=some .cell\/(Vs scope X.env).names.lookup x=some .free)->∃c,cl.lookup x=some c
 len:src.length=N.length
 pulls:∀(i j:Nat) (x:Str),N[i]?=some x->src[i]?=some (some j)->X.N[j]?=some x/\(X.env.kindOf x=some .cell\/X.env.kindOf x=some .free)/\((Vs scope X.env).names.lookup x=some .cell\/(Vs scope X.env).names.lookup x=some .free)
def zcY {scope:Va}{env:Env}(nf:∀y∈scope.names,y.2 ≠ .free):(Vs scope env).names=scope.names:=by
 show scope.names.map _=scope.names;refine map_eq_self λx hx=>?_;obtain⟨n,k⟩:=x;have:(k==NameKind.free)=false:=by simpa using nf _ hx
 simp[this]
def zZ.plain {X:Cx}{N:AE}{src:List (Option Nat)}{scope:Va}(kind:scope.kind=.function)(nocell:∀y∈scope.names,y.2 ≠ .cell)(nofree:∀y∈scope.names,y.2 ≠ .free)
  (names:∀y∈scope.names,y.2=.local->scope.names.lookup y.1=some .local) (len:src.length=N.length) (none:∀o∈src,o=none):zZ X N src scope [] where
 kind:=kind
 nocell:=nocell
 names:=names
 clos:=closureFor_none nofree
 sub:=λx c h=>nomatch h
 has:=λx h=>by
  rw[zcY nofree]at h;rcases h with h | h
  .exact absurd rfl (nocell _ (WJ h))
  .exact absurd rfl (nofree _ (WJ h))
 len:=len
 pulls:=λi j x _ h=>by
  have:=none _ (XZ h);cases this
def zbR (X:Cx)(ifs:List Expr)(t:TT):Prop :=
 ∀(bQ:List (Addr×Obj)) (s:X8) (σ:St) (H:Hp) (Q:Bool->Hp->Prop),Inv X bQ σ H s->t σ H Q ->
  Xy (Xo X.prog X.w) X.A (forIn ifs true λc r=>if r=true then do let ok <- isTrue c X.env (eval c X.env);pure (Vd ok) else pure (Vd r)) (TP X bQ σ Q) X.xe s
def zjD:TT:=λ_ H Q=>Q true H
def qN {X:Cx}:zbR X [] zjD:=λ_ _ _ H _ I h=>wpAny_tests_nil ⟨H,I,h⟩
def qO {X:Cx}{c:Expr}{t:TT}(h:PT X c t):zbR X [c] t:=λbQ s σ H Q I hq=>wpAny_tests_one (h bQ s σ H Q I hq)
def yv (J:It)(g:TG)(tc:TT)(te:TE)(Q:VK)(D:Addr)(σ0:St)(H0:Hp):Prop :=
 ∃W:Nat->Nat->St->Hp->Prop,(∃m,W 0 m σ0 H0)/\∀i m σ' H',W i m σ' H' ->
  (J.stop i H'/\Q (.ref D) H')\/(J.go i H'/\∃N:St->Hp->Prop,(∀ σ'' H'',N σ'' H''->∃m',m'<m/\W (i+1) m' σ'' H'') /\
   ∀x H2,J.yld i H' x H2->g x σ' H2 fun σ2 H3=>tc σ2 H3 λb H4=>if b=true then te σ2 H4 λy H5=>∃ys,H5 D=some (.lst ys)/\ys.length<Xz/\N σ2 (upd H5 D (.lst (ys++[y]))) else N σ2 H4)
def zbS (wi:TI)(src:List (Option Nat))(g:TG)(tc:TT)(te:TE):TE:=fun σ H Q=>wi σ H λJ H1=>∀D,H1 D=none->yv J g tc te Q D (pull src σ) (upd H1 D (.lst []))
def Un.but {fs ex:List Addr}{H H1:Hp}{h h1 h2:Heap}{C:Addr}(u:Un fs ex H H1 h h1)(hC:h.objs.size<=C)(sb:V5 C h1 h2):Un fs ex H H1 h h2:=by
 have ne:∀b o,h.get? b=some o->b≠C:=λb o e=>Xk (Xu (XJ e) hC);refine⟨λb o e n hb hx=>(sb.2 b (ne b o e)).trans (u.keep b o e n hb hx),λb o e n hb hx=>?_,u.free,λb o e hx=>?_,u.tups,u.frzs,u.tbls⟩
 .obtain⟨sl,q⟩:=u.slot b o e n hb hx;exact⟨sl,(sb.2 b (ne b o e)).trans q⟩
 .obtain⟨o',q⟩:=u.there b o e hx;exact⟨o',(sb.2 b (ne b o e)).trans q⟩
def HOk.but {P:Xd}{w:WV}{H:Hp}{h h':Heap}{C:Addr}(ok:HOk P w H h)(hn:H C=none)(sb:V5 C h h'):HOk P w H h':=λb ob e=>by
 refine(ok b ob e).stay (λc w' hc q=>(sb.2 c ?_).trans q) (λ_ q=>q) λ_ _ q=>q;rintro rfl;rcases hc with rfl | hc
 .rw[hn]at e;cases e
 .rw[hn]at hc;cases hc
section
variable {X:Cx}{tg iter elt:Expr}{ifs:List Expr}{scope:Va}{pos:Pos}{N:AE}{src:List (Option Nat)}{cl:List (Str×Addr)}{wi:TI}{g:TG}{tc:TT}{te:TE}
def Qe {bQ:List (Addr×Obj)}{σ:St}{H:Hp}{s:X8}{fp:List Addr}{h1:Heap}{C:Addr}{tk:Nat}(ok:zZ X N src scope cl)(I:Inv X bQ σ H s)(hf:∀b∈fp,YX X bQ H b)(ho:∀b∈fp,∃o,s.heap.get? b=some o)
  (hC:C=s.heap.objs.size+1) (k:∀b u,s.heap.get? b=some u->h1.get? b=some u) (hD:h1.get? s.heap.objs.size=some { cls:=.type "list",data:=.seq #[] }) {m:Str->Option X9} (hn:h1.Ns C m) :
  Inv (jX X N scope cl C fp bQ s H) [] (pull src σ) (upd H s.heap.objs.size (.lst [])) { s with heap:=h1,toks:=tk }:=by
 have lt:∀b o,s.heap.get? b=some o->b<s.heap.objs.size:=λb o e=>XJ e;have nC:∀b o,s.heap.get? b=some o->b≠C:=λb o e=>by rw[hC];exact Xk (Wv (lt b o e))
 have nD:∀b o,s.heap.get? b=some o->b≠s.heap.objs.size:=λb o e=>Xk (lt b o e);have fr:∀b,s.heap.objs.size<=b->H b=none:=λb hb=>I.hok.fresh hb;have nst:∀b,b≠X.env.locals->b ∉ X.fs->b ∉ frs X.stack:=λb h1 h2 z=>(XQ.mp (I.stkSub b z)).elim h1 h2;have sub:=ok.sub;refine⟨⟨I.ok.mod,ok.kind,I.ok.glob,I.ok.blt,by rw[show (jX X N scope cl C fp bQ s H).env.locals=C from rfl,hC];exact V9 _,λx y c e1 e2=>I.ok.inj x y c (sub x c e1) (sub y c e2),ok.has,(λx c z _=>nomatch z),I.ok.hd,I.ok.frames,.inl rfl,λb hb=>?_,I.bs,X0 I.ok.bsz I.sz,λb o e hb=>?_,λb hb hz=>?_,I.stack,I.stkFree⟩,
  rfl,I.bare,Un.laid k (XU _) (fr _ (XU _)),⟨m,hn,λi x v e1 e2 e3=>?_⟩,λx c e=>?_,?_,λx c e=>?_,λp hp=>?_,I.hok.laid k (XU _) ⟨W7 _,[],0,.nil,hD⟩,?_⟩
 .obtain⟨o,e⟩:=ho b hb;exact⟨nC b o e,λx c z=>(hf b hb).2.2.2.2.1 x c (sub x c z)⟩
 .rcases(hf b hb).2.2.2.1 with z | z
  .exact I.ok.noex b o e z
  .exact absurd (Xu (XJ (I.ok.bs b o e).1) z) (V8 _)
 .exact nst b (hf b hb).2.1 (hf b hb).2.2.1 hz
 .have hi:i<src.length:=by
   have:=(XW.mp e2).1;unfold pull at this;rw[Y1]at this;exact this
  unfold pull at e2;rw[Xn,X5 hi]at e2;cases q:src[i] with
  | none=>rw[q]at e2;cases e2
  | some j =>
   rw[q]at e2;have e2':(σ[j]?).getD none=some v:=Option.some.inj e2;have e4:σ[j]?=some (some v):=by
    cases z:σ[j]? with
    | none=>rw[z]at e2';cases e2'
    | some o=>rw[z]at e2';exact congrArg some e2'
   obtain⟨p1,p2,p3⟩:=ok.pulls i j x e1 (by rw[X5 hi,q]);obtain⟨m',hn',hl⟩:=I.loc;obtain⟨u,r,l⟩:=hl j x v p1 e4 (by
    rcases p2 with z | z
    .exact .inr (.inl z)
    .exact .inr (.inr z))
   refine⟨u,r,.inr ⟨p3,?_⟩⟩;obtain⟨c,hc⟩:=ok.has x p3;refine⟨c,hc,?_⟩;rcases l with ⟨z,_⟩ | ⟨_,c',hc',o,ho',hd'⟩
   .rcases p2 with y | y<;>rw[z]at y<;>cases y
   .rw[sub x c hc]at hc';cases hc';exact⟨o,k _ o ho',hd'⟩
 .obtain⟨v,o,e1,e2⟩:=I.cell x c (sub x c e);exact⟨v,o,k c o e1,e2⟩
 .show upd H s.heap.objs.size (.lst []) C=none;rw[hC,zk (Vo _)];exact fr _ (V9 _)
 .show upd H s.heap.objs.size (.lst []) c=none;obtain⟨v,o,e1,e2⟩:=I.cell x c (sub x c e);rw[zk (nD c o e1)];exact I.freeC x c (sub x c e)
 .have hp':p∈X.pn++bQ:=by
   have:p∈(X.pn++bQ)++[]:=hp;simpa using this
  obtain⟨e1,e2,e3,e4,e5⟩:=I.pin p hp';refine⟨k _ _ e1,?_,nC _ _ e1,nst _ e3 e4,e5⟩;show upd H s.heap.objs.size (.lst []) p.1=none;rw[zk (nD _ _ e1)];exact e2
 .unfold pull;rw[Y1];exact ok.len
def zif {Y:Cx}{D it:Addr}{fp:List Addr}{tn:Nat->Heap->Prop}{J:It}{σ0:St}{H0:Hp}{s:X8}{Q:VK}{R:R7->X8->Prop}(hcalm:Y.calm=true)(hx:∀{x s},Y.xe x s->notedBy (Xo Y.prog Y.w) Y.A Y.env (λx s=>R (.error x) s) x s)(T:Turn Y.prog Y.w Y.K tg J fp it tn)(hg:PG Y tg g)(hc:zbR Y ifs tc)(he:PE Y elt te)
  (q:yv J g tc te Q D σ0 H0) (stat:∀{H':Hp},(∀b∈fp,H' b=none)->∀b∈fp,YX Y [] H' b) (I0:Inv Y [] σ0 H0 s) (st0:tn 0 s.heap) (fr0:∀b∈fp,H0 b=none)
  (fin:∀f σ H s',Inv Y [] σ H s'->Q (.ref D) H->R (.ok f) s'):UX (Xo Y.prog Y.w) Y.A (.compStart (.ListComp elt [⟨tg,iter,ifs,0⟩] scope pos) 0 (.ref it) (.ref D) Y.env) R s:=by
 obtain⟨W,⟨m0,w0⟩,turn⟩:=q;have loop:UX (Xo Y.prog Y.w) Y.A (.compLoop (.ListComp elt [⟨tg,iter,ifs,0⟩] scope pos) 0 (.ref it) (.ref D) Y.env) R s:=by
  refine codeAny_loop rfl (λn s'=>∃i σ' H',Inv Y [] σ' H' s'/\tn i s'.heap/\(∀b∈fp,H' b=none)/\W i n σ' H') ?_ m0 ⟨0,_,_,I0,st0,fr0,w0⟩;rintro n s3 ⟨i,σ3,H3,I3,st3,fr3,w3⟩;show Xy _ Y.A ((compTurn (.ListComp elt [⟨tg,iter,ifs,0⟩] scope pos) 0 (.ref it) (.ref D) Y.env).onRaise (λx=>do N5 x Y.env;theTreesLotGoes x)) _ _ s3;refine wpAny_noted ?_;rw[compTurn_list];rcases turn i n σ3 H3 w3 with ⟨stop,qn⟩ | ⟨go,N',hN,step⟩
  .refine ZB (UH (ZB (thn (T.done Y rfl rfl rfl hcalm i [] s3 σ3 H3 _ I3 (stat fr3) st3 stop) λr s4 ⟨hr,I4⟩=>?_)));subst hr;exact X4 (fin _ _ _ _ I4 qn)
  .refine ZB (UH (ZB (thn (T.item Y rfl rfl rfl hcalm i [] s3 σ3 H3 _ I3 (stat fr3) st3 go) λr s4 ⟨u,hr,h4⟩=>?_)));subst hr;dsimp only;refine ZB (thn h4 λ_ s5 ⟨x,H5,I5,r5,y5,st5,fr5⟩=>?_);have I5':=I5.pinned (stat fr5) (T.obj _ _ st5);refine ZB (WE (hg _ s5 σ3 H5 x u _ I5' r5 (step x H5 y5)) (λ_ s6 ⟨σ6,H6,I6,q6⟩=>?_) λ_ _ z=>hx z);have OF:∀{s7:X8} {σ7:St} {H7:Hp},Inv Y ([]++zaz fp s5.heap) σ7 H7 s7->N' σ7 H7->∃m,m<n/\∃i σ' H',Inv Y [] σ' H' s7/\tn i s7.heap/\(∀b∈fp,H' b=none)/\W i m σ' H':=λ{s7 σ7 H7} I7 n7=>by
    obtain⟨m',hm,w7⟩:=hN σ7 H7 n7;refine⟨m',hm,i+1,σ7,H7,I7.unpinned,T.keep _ _ _ st5 λb hb o e=>(I7.pin (b,o) (XC _ (XC _ (yK hb e)))).1,λb hb=>?_,w7⟩;obtain⟨o,e,d⟩:=T.obj _ _ st5 b hb;exact(I7.pin (b,o) (XC _ (XC _ (yK hb e)))).2.1
   refine ZB (WE (hc _ s6 σ6 H6 _ I6 q6) (λb s7 ⟨H7,I7,q7⟩=>?_) λ_ _ z=>hx z);cases b with
   | false =>
    rw[bq XT]at q7;exact X4 ⟨rfl,OF I7 q7⟩
   | true =>
    rw[bw rfl]at q7;refine ZB (ZB (WE (he _ s7 σ6 H7 _ I7 q7) (λy s8 ⟨v8,H8,I8,r8,ys,hys,hlen,q8⟩=>?_) λ_ _ z=>hx z));refine ZB (WE (zaB (X:=Y) _ s8 σ6 H8 (.ref D) [v8] (.ref D) [y] (λ_ H9=>N' σ6 H9) I8 rfl (.cons r8 .nil) ⟨_,ys,v8,rfl,rfl,hys,hlen,q8⟩) (λ_ s9 ⟨v9,H9,I9,_,q9⟩=>?_) λ_ _ z=>hx z);exact X4 (X4 ⟨rfl,OF I9 q9⟩)
 exact O8 loop (T.self _ 0 _ _ _ st0 loop)
abbrev cY (X:Cx)(N:AE)(scope:Va)(cl:List (Str×Addr))(C:Addr)(fp:List Addr)(bQ:List (Addr×Obj))(s:X8)(H:Hp)(fn:Str->Bool)(xe:X9->X8->Prop):Cx:={ jX X N scope cl C fp bQ s H with fn:=fn,xe:=xe }
def zlP (X:Cx)(N:AE)(scope:Va)(bQ:List (Addr×Obj))(σ:St)(use:Option (X9->Sem Unit))(R:X9->X8->Prop)(Q:VK):Prop:=∀{cl fp s2 H2 C H3 s4 f fn xe σ3},C=s2.heap.objs.size+1->Inv X bQ σ H2 s2->(∀b∈fp,YX X bQ H2 b)->Inv (cY X N scope cl C fp bQ s2 H2 fn xe) [] σ3 H3 s4->Q (.ref s2.heap.objs.size) H3->compPost (Xo X.prog X.w) X.A X.xe use R (.ref s2.heap.objs.size) C (.ok f) s4
def zjE {bQ:List (Addr×Obj)}{σ:St}{Q:VK}:zlP X N scope bQ σ none (EP X bQ σ Q) Q:=by
 intro cl fp s2 H2 C H3 s4 f fn xe σ3 hC I2 f2 I4 qn;obtain⟨m,hm,_⟩:=I4.loc;refine⟨m,hm,λh' sb=>⟨.ref s2.heap.objs.size,H3,?_,rfl,qn⟩⟩;exact I2.call' (s':={ s4 with heap:=h' }) (ch:=fp) I4.os (Un.but I4.base (by rw[hC];exact V9 _) sb) (HOk.but I4.hok I4.free sb) I4.bare λb hb=>⟨(f2 b hb).2.2.2.1,(f2 b hb).2.1,(f2 b hb).2.2.2.2.1,(f2 b hb).2.2.2.2.2⟩
def zbT {bQ:List (Addr×Obj)}{σ:St}{H2:Hp}{s2:X8}{R:R7->X8->Prop}{Q:VK}{it C:Addr}{fp:List Addr}{tn:Nat->Heap->Prop}{J:It}{h₁:Heap}{tk:Nat}{fn:Str->Bool}{xe:X9->X8->Prop}{σ0:St}(hC:C=s2.heap.objs.size+1)(hcalm:X.calm=true)
  (hx:∀{x s},xe x s->notedBy (Xo X.prog X.w) X.A (T9 scope cl C X.env) (λx s=>R (.error x) s) x s) (hg:PG (cY X N scope cl C fp bQ s2 H2 fn xe) tg g) (hc:zbR (cY X N scope cl C fp bQ s2 H2 fn xe) ifs tc) (he:PE (cY X N scope cl C fp bQ s2 H2 fn xe) elt te) (I2:Inv X bQ σ H2 s2) (T:Turn X.prog X.w X.K tg J fp it tn) (st2:tn 0 s2.heap) (f2:∀b∈fp,YX X bQ H2 b)
  (q2:yv J g tc te Q s2.heap.objs.size σ0 (upd H2 s2.heap.objs.size (.lst []))) (k:∀b u,s2.heap.get? b=some u->h₁.get? b=some u) (own:∀x c,cl.lookup x=some c->X.env.cells.lookup x=some c\/C<=c)
  (I0:(∀b∈fp,∃o,s2.heap.get? b=some o)->Inv (cY X N scope cl C fp bQ s2 H2 fn xe) [] σ0 (upd H2 s2.heap.objs.size (.lst [])) { s2 with heap:=h₁,toks:=tk }) (fin:∀f σ H s4,Inv (cY X N scope cl C fp bQ s2 H2 fn xe) [] σ H s4->Q (.ref s2.heap.objs.size) H->R (.ok f) s4) :
  UX (Xo X.prog X.w) X.A (.compStart (.ListComp elt [⟨tg,iter,ifs,0⟩] scope pos) 0 (.ref it) (.ref s2.heap.objs.size) (T9 scope cl C X.env)) R { s2 with heap:=h₁,toks:=tk }:=by
 have ho:∀b∈fp,∃o,s2.heap.get? b=some o:=λb hb=>let ⟨o,e,_⟩:=T.obj 0 _ st2 b hb;⟨o,e⟩
 have lt:∀b∈fp,b<s2.heap.objs.size:=λb hb=>let ⟨_,e⟩:=ho b hb;XJ e
 refine zif (Y:=cY X N scope cl C fp bQ s2 H2 fn xe) hcalm hx T hg hc he q2 (λ{H'} hn b hb=>⟨hn b hb,?_,λz=>(XQ.mp (I2.stkSub b z)).elim (f2 b hb).2.1 (f2 b hb).2.2.1,.inl hb,λx c z=>?_,λp hp=>?_⟩) (I0 ho) (T.keep 0 _ _ st2 λb _ o e=>k b o e) (λb hb=>?_) fin
 .show b≠C;rw[hC];exact Xk (Wv (lt b hb))
 .rcases own x c z with z | z
  .exact(f2 b hb).2.2.2.2.1 x c z
  .rw[hC]at z;exact Us (Xu (Wv (lt b hb)) z)
 .have hp':p∈X.pn++bQ:=by
   have:p∈(X.pn++bQ)++[]:=hp;simpa using this
  exact(f2 b hb).2.2.2.2.2 p hp'
 .rw[zk (Xk (lt b hb))];exact(f2 b hb).1
def zjF {h h₁:Heap}(sb:V5 (h.push { cls:=.type "list",dict:=none,data:=.seq ([]:List X9).toArray }).objs.size ((h.push { cls:=.type "list",dict:=none,data:=.seq ([]:List X9).toArray }).push { cls:=.type "dict",data:=.dict #[] }) h₁):(h.push { cls:=.type "list",dict:=none,data:=.seq ([]:List X9).toArray }).objs.size=h.objs.size+1/\(∀b u,h.get? b=some u->h₁.get? b=some u)/\h₁.get? h.objs.size=some { cls:=.type "list",data:=.seq #[] }:=by
 generalize hP:h.push { cls:=.type "list",dict:=none,data:=.seq ([]:List X9).toArray }=P2 at sb ⊢;have hC:P2.objs.size=h.objs.size+1:=by rw[<- hP,Vu]
 exact⟨hC,λb u e=>(sb.2 b (by rw[hC];exact Xk (Wv (XJ e)))).trans (X6 _ (hP ▸ X6 _ e)),(sb.2 _ (by rw[hC];exact(Vo _).symm)).trans (X6 _ (hP ▸ Xe _ rfl))⟩
section
variable {bQ:List (Addr×Obj)}{σ:St}{H:Hp}{s:X8}{use:Option (X9->Sem Unit)}{R:X9->X8->Prop}{Q:VK}{p2:Pos}
def ze3 (ok:zZ X N src scope cl)(hcalm:X.calm=true)(hi:PI X tg iter wi)
  (hg:∀C fp bQ s H,PG (jX X N scope cl C fp bQ s H) tg g) (hc:∀C fp bQ s H,zbR (jX X N scope cl C fp bQ s H) ifs tc) (he:∀C fp bQ s H,PE (jX X N scope cl C fp bQ s H) elt te)
  (hs:∀x,VI iter X.env x=pure x) (I:Inv X bQ σ H s) (h:zbS wi src g tc te σ H Q) (fin:zlP X N scope bQ σ use R Q):Xy (Xo X.prog X.w) X.A (TN (.ListComp elt [⟨tg,iter,ifs,0⟩] scope pos) scope X.env p2 (newList []) false (eval iter X.env) use) R X.xe s:=by
 refine PJ (use:=use) rfl hs ok.clos ok.kind ok.names (thn (hi bQ s σ H _ I h) λxv s1 h1=>thn h1 λitv s2 h2=>?_);obtain⟨it,fp,tn,J,H2,e,I2,T,st2,f2,q2⟩:=h2;subst e;refine VX (RP ok.nocell (by intro y hy;simp at hy) (λh₁ hns₁ hsb₁=>?_) ok.kind);dsimp only at hns₁ hsb₁ ⊢;obtain⟨hC,k,hD⟩:=zjF hsb₁;exact zbT hC hcalm (λz=>z.elim) (hg _ _ _ _ _) (hc _ _ _ _ _) (he _ _ _ _ _) I2 T st2 f2 (q2 _ (I2.hok.fresh (XU _))) k (λx c z=>.inl (ok.sub x c z)) (λho=>Qe ok I2 f2 ho hC k hD hns₁) λ_ _ _ _ I4 qn=>fin hC I2 f2 I4 qn
end
def qB (ok:zZ X N src scope cl)(hcalm:X.calm=true)(hi:PI X tg iter wi)
  (hg:∀C fp bQ s H,PG (jX X N scope cl C fp bQ s H) tg g) (hc:∀C fp bQ s H,zbR (jX X N scope cl C fp bQ s H) ifs tc) (he:∀C fp bQ s H,PE (jX X N scope cl C fp bQ s H) elt te)
  (hs:∀x,VI iter X.env x=pure x:=by intro _;rfl):PE X (.ListComp elt [⟨tg,iter,ifs,0⟩] scope pos) (zbS wi src g tc te):=λ_ _ _ _ _ I h=>ze3 ok hcalm hi hg hc he hs I h zjE
end
section
variable {K:XY}{src:List (Option Nat)}{g:TG}{tc:TT}{te:TE}{Q:VK}{σ:St}{H:Hp}{D:Addr}
def qC {a:Addr}{xs:AF}(Pv:Nat->St->Hp->Prop)(h0:Pv 0 σ H)(hl:∀i σ H,i<=xs.length->Pv i σ H->SqL K H a xs)
  (hs:∀i x σ H,xs[i]?=some x->Pv i σ H->g x σ H fun σ2 H3=>tc σ2 H3 λb H4=>if b=true then te σ2 H4 λy H5=>∃ys,H5 D=some (.lst ys)/\ys.length<Xz/\Pv (i+1) σ2 (upd H5 D (.lst (ys++[y]))) else Pv (i+1) σ2 H4)
  (hd:∀ σ H,Pv xs.length σ H->Q (.ref D) H):yv (Itl K a) g tc te Q D σ H:=by
 refine⟨λi m σ H=>m=xs.length-i/\i<=xs.length/\Pv i σ H,⟨xs.length,by simp,W7 _,h0⟩,?_⟩;rintro i m σ H ⟨rfl,hi,p⟩;have q:=hl i σ H hi p;by_cases hlt:i<xs.length
 .refine .inr ⟨⟨xs,xs[i],q,by simp[hlt]⟩,Pv (i+1),fun σ' H' p'=>⟨xs.length-(i+1),by lia,rfl,hlt,p'⟩,λx H' y=>?_⟩;obtain⟨e,y⟩:=y;subst e;exact hs i x σ _ (y xs q) p
 .have e:i=xs.length:=by lia
  subst e;exact .inl ⟨⟨xs,q,XU _⟩,hd σ H p⟩
def zgm {lo:Int}{n:Nat}(Pv:Nat->St->Hp->Prop)(h0:Pv 0 σ H)
  (hs:∀i σ H,i<n->Pv i σ H->g (.int (lo+i)) σ H fun σ2 H3=>tc σ2 H3 λb H4=>if b=true then te σ2 H4 λy H5=>∃ys,H5 D=some (.lst ys)/\ys.length<Xz/\Pv (i+1) σ2 (upd H5 D (.lst (ys++[y]))) else Pv (i+1) σ2 H4)
  (hd:∀ σ H,Pv n σ H->Q (.ref D) H):yv (Itr lo n) g tc te Q D σ H:=by
 refine⟨λi m σ H=>m=n-i/\i<=n/\Pv i σ H,⟨n,by simp,W7 _,h0⟩,?_⟩;rintro i m σ H ⟨rfl,hi,p⟩;by_cases hlt:i<n
 .refine .inr ⟨hlt,Pv (i+1),fun σ' H' p'=>⟨n-(i+1),by lia,rfl,hlt,p'⟩,λx H' y=>?_⟩;obtain⟨e,y⟩:=y;subst e y;exact hs i σ _ hlt p
 .have e:i=n:=by lia
  subst e;exact .inl ⟨XU _,hd σ H p⟩
end
theorem J8 {K:XY}{H:Hp}:∀rs:AE,xK K H (rs.map V.str) (rs.map VZ)
 | []=>.nil
 | t::r=>.cons (.str t) (J8 r)
section
variable {X:Cx}{K:XY}
def zaC {a:Expr}{ta:TE}(hK:X.K=K)(ha:PE X a ta)(he:∀whole,isTrue a X.env whole=(do let v <- whole;standAt a.pos;Ob [v] (truthy v))) :
  PT X a (fun σ H Q=>ta σ H λx H'=>∃k,znE K x H' k/\Q k H'):=by
 subst hK;exact QC ha he
def ze4 (hK:X.K=K)(hu:X.A.units+64<U3):OpR X (VN .Eq) (znO K false):=by
 subst hK;exact jo hu
def yc (hK:X.K=K)(hu:X.A.units+64<U3):OpR X (VN .In) (zpi K false):=by
 subst hK;exact zbQ hu
def zby {es:List Expr}{k:Nat}{t:TGs}{n:Nat}{pos:Pos}(hK:X.K=K)(hc:X.calm=true)(h:PGs X es t)
  (hn:(SS es X.env).length=n:=by rfl) (hst:(SS es X.env).findIdx? (·.1)=none:=by rfl):PG X (.Tuple es k pos) (zoY K n t):=by
 subst hK;exact Jo hc h hn hst
end
section
variable {fs ch:List Addr}{H:Hp}{h h':Heap}{a:Addr}{o:HO}
def Un.laidX (k:∀b u,b ∉ ch->h.get? b=some u->h'.get? b=some u)(hp:h.objs.size<=a)(hn:H a=none):Un fs ch H (upd H a o) h h' where
 keep:=λb u q _ _ hx=>k b u hx q
 slot:=λb u q _ _ hx=>⟨u.slots,k b u hx q⟩
 free:=λb u q n _=>by rw[zk (Xk (Xu (XJ q) hp))];exact n
 there:=λb u q hx=>⟨u,k b u hx q⟩
 tups:=λb xs q=>by rw[zk (zh q hn)];exact q
 frzs:=λb u xs q=>by rw[zk (zh q hn)];exact q
 tbls:=λb ps q=>⟨#[],by rw[zk (zh q hn),q];simp⟩
def Un.keptX (k:∀b u,b ∉ ch->h.get? b=some u->h'.get? b=some u):Un fs ch H H h h' :=
 ⟨λb ob q _ _ hx=>k b ob hx q,λb ob q _ _ hx=>⟨ob.slots,k b ob hx q⟩,λ_ _ _ n _=>n,λb ob q hx=>⟨ob,k b ob hx q⟩,λ_ _ q=>q,λ_ _ _ q=>q,λ_ ps q=>⟨#[],by rw[q];simp⟩⟩
def HOk.keptX {P:Xd}{w:WV}(x:HOk P w H h)(k:∀b u,b ∉ ch->h.get? b=some u->h'.get? b=some u)(hch:∀b∈ch,H b=none):HOk P w H h':=λb u e=>by
 refine(x b u e).stay (λc v hc q=>k c v (λz=>?_) q) (λ_ q=>q) λ_ _ q=>q;have n:=hch c z;rcases hc with rfl | hc
 .rw[n]at e;cases e
 .rw[n]at hc;cases hc
def HOk.laidX {P:Xd}{w:WV}(x:HOk P w H h)(k:∀b u,b ∉ ch->h.get? b=some u->h'.get? b=some u)(hch:∀b∈ch,H b=none)(hp:h.objs.size<=a)(new:qI P w (upd H a o) h' a o):HOk P w (upd H a o) h':=λb u e=>by
 have hn:=x.fresh hp;by_cases hb:b=a
 .subst hb;rw[zd]at e;cases e;exact new
 .rw[zk hb]at e;refine(x b u e).stay (λc v hc q=>k c v (λz=>?_) q) (λc q=>by rw[zk (zh q hn)];exact q) λc xs q=>by rw[zk (zh q hn)];exact q
  have n:=hch c z;rcases hc with rfl | hc
  .rw[n]at e;cases e
  .rw[n]at hc;cases hc
end
section
variable {X:Cx}{bQ:List (Addr×Obj)}{s:X8}{σ:St}{H:Hp}{E:X9->X8->Prop}{fp wr FP:List Addr}{elts:List Expr}{k:Nat}{pos:Pos}{e:Addr}{n i:Nat}{Pt:Nat->Array X9->Prop}{Sn:Nat->Heap->Prop}{Mid:Nat->Addr->Heap->Prop}{J:It}{tn:Nat->Heap->Prop}
def zgn (I:Inv X bQ σ H s)(hf:∀b∈fp,YX X bQ H b)(ho:∀b∈fp,∃o,s.heap.get? b=some o)(hwr:∀b∈wr,b∈fp)(W:WalksT X.prog X.w X.A e FP wr n Pt Sn Mid)(hi:i<n)(st:Sn i s.heap)
  (y:∀T vals,H T=none->Pt i vals->∃vs,Vals vs vals.toList/\vs.length<=Xz/\J.yld i H (.ref T) (upd H T (.tup vs))) (nx:∀h'',Sn (i+1) h''->tn (i+1) h'') :
  Xy (Xo X.prog X.w) X.A (SV (.ref e)) (λr s1=>∃u,r=some u /\
   Xy (Xo X.prog X.w) X.A (RL (.Tuple elts k pos) (.ref e) u) (λ_ s2=>∃x H',Inv X bQ σ H' s2/\RelV x u/\J.yld i H x H'/\tn (i+1) s2.heap/\∀b∈fp,H' b=none) E s1) E s:=by
 refine W.item i s _ E hi st λT vals h' tk hP hT0 hT hm kk=>⟨.ref T,rfl,?_⟩;have hn:H T=none:=I.hok.fresh hT0;obtain⟨vs,hv,hl,hy⟩:=y T vals hn hP;refine W.go elts k pos i T { s with heap:=h',toks:=tk } _ E hm λh'' st'' kk2=>?_;have k2:∀b o,b ∉ wr->s.heap.get? b=some o->h''.get? b=some o:=λb o hb e=>kk2 b o hb (kk b o hb e);have hTup:Nu h'' T vals:=by
  obtain⟨o,e1,c,m,d⟩:=hT;exact⟨o,kk2 T o (W.apart i T _ hm) e1,c,m,d⟩
 have hch:∀b∈wr,H b=none:=λb hb=>(hf b (hwr b hb)).1;refine⟨.ref T,upd H T (.tup vs),?_,rfl,hy,nx _ st'',λb hb=>?_⟩
 .exact I.call' (s':={ s with heap:=h'',toks:=tk }) (ch:=wr) rfl (Un.laidX k2 hT0 hn) (HOk.laidX I.hok k2 hch hT0 ⟨hl,vals.toList,hv,by simpa using hTup⟩) I.bare λb hb=>let f:=hf b (hwr b hb);⟨f.2.2.2.1,f.2.1,f.2.2.2.2.1,f.2.2.2.2.2⟩
 .obtain⟨o,e1⟩:=ho b hb;rw[zk (Xk (Xu (XJ e1) hT0))];exact(hf b hb).1
def zgo (I:Inv X bQ σ H s)(hf:∀b∈fp,YX X bQ H b)(hwr:∀b∈wr,b∈fp)(W:WalksT X.prog X.w X.A e FP wr n Pt Sn Mid)(st:Sn n s.heap) :
  Xy (Xo X.prog X.w) X.A (SV (.ref e)) (λr s1=>r=none/\Inv X bQ σ H s1) E s :=
 W.done s _ E st λh' tk kk=>⟨rfl,I.call' (s':={ s with heap:=h',toks:=tk }) (ch:=wr) rfl (Un.keptX kk) (HOk.keptX I.hok kk λb hb=>(hf b (hwr b hb)).1) I.bare λb hb=>let f:=hf b (hwr b hb);⟨f.2.2.2.1,f.2.1,f.2.2.2.2.1,f.2.2.2.2.2⟩⟩
end
def Jp {h:Heap}{b:Addr}{o:Obj}{vs:Array X9}(e:h.get? b=some o)(d:o.data=.fields vs):∃o,h.get? b=some o/\∀v,o.data ≠ .cell v:=⟨o,e,λv z=>by rw[d]at z;cases z⟩
def Ite (K:XY)(l:Addr):It:=⟨λi H=>∃xs,SqL K H l xs/\i<xs.length,λi H x H'=>∃T,x=.ref T/\H T=none/\∀xs,SqL K H l xs->∃v,xs[i]?=some v/\H'=upd H T (.tup [.int i,v]),λi H=>∃xs,SqL K H l xs/\i=xs.length⟩
def zig {P:Xd}{w:WV}{K:XY}{elts:List Expr}{k:Nat}{pos:Pos}(e it l:Addr)(hei:e≠it)(hle:l≠e)(hli:l≠it) :
  Turn P w K (.Tuple elts k pos) (Ite K l) [e,it] e (λi h=>(∃old,IsEnum h e it i old)/\h.IsListIter it l i) where
 mem:=by simp
 obj:=λi h st b hb=>by
  obtain⟨⟨old,he⟩,o,e2,c,d⟩:=st;rcases XQ.mp hb with rfl | hb
  .exact Jp he rfl
  .have z:b=it:=by simpa using hb
   subst z;exact Jp e2 d
 keep:=λi h h' st kk=>by
  obtain⟨⟨old,he⟩,o,e2,r⟩:=st;exact⟨⟨old,kk e (by simp) _ he⟩,o,kk it (by simp) o e2,r⟩
 item:=by
  intro X hP hw hK hc i bQ s σ H E I hf st hg;subst hP hw hK;obtain⟨xs,hq,hlt⟩:=hg;obtain⟨its,rv,p,hz⟩:=I.list hq;have hl:=rv.length;obtain⟨⟨old,he⟩,o2,e2,c2,d2⟩:=id st;refine zgn (wr:=[e,it]) (J:=Ite X.K l) (tn:=λi h=>(∃old,IsEnum h e it i old)/\h.IsListIter it l i) I hf (λb hb=>?_) (λb hb=>hb) (WalksT.enumerate (I.ok.hd hc) e it l hei hle hli its.toArray) (by simp;lia) ⟨st.1,st.2,p.isList⟩ (λT vals hn hp=>?_) λh'' q=>⟨q.1,q.2.1⟩
  .rcases XQ.mp hb with rfl | hb
   .exact⟨_,he⟩
   .have z:b=it:=by simpa using hb
    subst z;exact⟨_,e2⟩
  .obtain⟨t,x,hx,rfl⟩:=hp;have hx':its[i]?=some x:=by simpa using hx
   obtain⟨u,hu,ru⟩:=rv.get (i:=i) (x:=xs[i]) (by rw[X5 hlt]);rw[hu]at hx';cases hx';exact⟨[.int i,xs[i]],.cons ⟨t,rfl⟩ (.cons ru .nil),(by show 2<=Xz;decide),T,rfl,hn,λys hy=>⟨xs[i],by rw[I.list_inj hy hq,X5 hlt],rfl⟩⟩
 done:=by
  intro X hP hw hK hc i bQ s σ H E I hf st hg;subst hP hw hK;obtain⟨xs,hq,rfl⟩:=hg;obtain⟨its,rv,p,hz⟩:=I.list hq;have hl:its.toArray.size=xs.length:=by simp[rv.length]
  refine zgo (fp:=[e,it]) (wr:=[e,it]) I hf (λb hb=>hb) (WalksT.enumerate (I.ok.hd hc) e it l hei hle hli its.toArray) ?_;rw[hl];exact⟨st.1,st.2,p.isList⟩
 self:=λA i s Q E st h=>by
  obtain⟨⟨old,he⟩,_⟩:=st;exact Sr he h
def zlQ (x:Str):It:=⟨λi _=>i<x.cps.size,λi H v H'=>∃T c,v=.ref T/\H T=none/\x.cps[i]?=some c/\H'=upd H T (.tup [.int i,.str ⟨#[c]⟩]),λi _=>i=x.cps.size⟩
def zbU {P:Xd}{w:WV}{K:XY}{elts:List Expr}{k:Nat}{pos:Pos}(e it:Addr)(x:Str)(t:Tok)(n:String)(hei:e≠it)
  (D:∀A:WT,A.handled=none->Draws P w A it [it] x.cps.size (λi v=>∃c u,x.cps[i]?=some c/\v=.str ⟨#[c]⟩ u) (λi h=>h.IsStrIter it n x t i)) :
  Turn P w K (.Tuple elts k pos) (zlQ x) [e,it] e (λi h=>(∃old,IsEnum h e it i old)/\h.IsStrIter it n x t i) where
 mem:=by simp
 obj:=λi h st b hb=>by
  obtain⟨⟨old,he⟩,o,e2,c,d⟩:=st;rcases XQ.mp hb with rfl | hb
  .exact Jp he rfl
  .have z:b=it:=by simpa using hb
   subst z;exact Jp e2 d
 keep:=λi h h' st kk=>by
  obtain⟨⟨old,he⟩,o,e2,r⟩:=st;exact⟨⟨old,kk e (by simp) _ he⟩,o,kk it (by simp) o e2,r⟩
 item:=by
  intro X hP hw hK hc i bQ s σ H E I hf st hg;subst hP hw hK;obtain⟨⟨old,he⟩,o2,e2,c2,d2⟩:=id st;refine zgn (wr:=[e,it]) (J:=zlQ x) (tn:=λi h=>(∃old,IsEnum h e it i old)/\h.IsStrIter it n x t i) I hf (λb hb=>?_) (λb hb=>hb) (WalksT.enumerateD (D X.A.in1 (I.ok.hd hc)) e hei (by simpa using hei) (by simp)) hg st (λT vals hn hp=>?_) λh'' q=>q
  .rcases XQ.mp hb with rfl | hb
   .exact⟨_,he⟩
   .have z:b=it:=by simpa using hb
    subst z;exact⟨_,e2⟩
  .obtain⟨t',v,⟨c,u,hx,rfl⟩,rfl⟩:=hp;exact⟨[.int i,.str ⟨#[c]⟩],.cons ⟨t',rfl⟩ (.cons ⟨u,rfl⟩ .nil),(by show 2<=Xz;decide),T,c,rfl,hn,hx,rfl⟩
 done:=by
  intro X hP hw hK hc i bQ s σ H E I hf st hg;subst hP hw hK;have z:i=x.cps.size:=hg;subst z;exact zgo (fp:=[e,it]) (wr:=[e,it]) I hf (λb hb=>hb) (WalksT.enumerateD (D X.A.in1 (I.ok.hd hc)) e hei (by simpa using hei) (by simp)) st
 self:=λA i s Q E st h=>by
  obtain⟨⟨old,he⟩,_⟩:=st;exact Sr he h
def Itz (K:XY)(l1 l2:Addr):It:=⟨λi H=>∃xs ys,SqL K H l1 xs/\SqL K H l2 ys/\i<xs.length/\i<ys.length,
 λi H x H'=>∃T,x=.ref T/\H T=none/\∀xs ys,SqL K H l1 xs->SqL K H l2 ys->∃v v',xs[i]?=some v/\ys[i]?=some v'/\H'=upd H T (.tup [v,v']),λi H=>∃xs ys,SqL K H l1 xs/\SqL K H l2 ys/\i=min xs.length ys.length⟩
def zjG {P:Xd}{w:WV}{K:XY}{elts:List Expr}{k:Nat}{pos:Pos}(z TI TO i1 i2 l1 l2:Addr)(D:ZipApart z TI TO i1 i2 l1 l2) :
  Turn P w K (.Tuple elts k pos) (Itz K l1 l2) [z,TI,TO,i1,i2] z (λi h=>IsZip h z TI TO .none/\IsPair h TI (.ref i1) (.ref i2)/\(∃a b,IsPair h TO a b)/\h.IsListIter i1 l1 i/\h.IsListIter i2 l2 i) where
 mem:=by simp
 obj:=λi h st b hb=>by
  obtain⟨hz,hTI,⟨a,b',hTO⟩,⟨o1,e1,c1,d1⟩,⟨o2,e2,c2,d2⟩⟩:=st;simp only[XQ,V6,or_false]at hb;rcases hb with rfl | rfl | rfl | rfl | rfl
  .exact Jp hz rfl
  .exact⟨_,hTI,λv q=>by cases q⟩
  .exact⟨_,hTO,λv q=>by cases q⟩
  .exact Jp e1 d1
  .exact Jp e2 d2
 keep:=λi h h' st kk=>by
  obtain⟨hz,hTI,⟨a,b',hTO⟩,⟨o1,e1,r1⟩,⟨o2,e2,r2⟩⟩:=st;exact⟨kk z (by simp) _ hz,kk TI (by simp) _ hTI,⟨a,b',kk TO (by simp) _ hTO⟩,⟨o1,kk i1 (by simp) _ e1,r1⟩,⟨o2,kk i2 (by simp) _ e2,r2⟩⟩
 item:=by
  intro X hP hw hK hc i bQ s σ H E I hf st hg;subst hP hw hK;obtain⟨xs,ys,hq1,hq2,hlt1,hlt2⟩:=hg;obtain⟨its1,rv1,p1,hz1⟩:=I.list hq1;obtain⟨its2,rv2,p2,hz2⟩:=I.list hq2;have g1:=rv1.length;have g2:=rv2.length;obtain⟨hz,hTI,⟨a,b',hTO⟩,⟨o1,e1,r1⟩,⟨o2,e2,r2⟩⟩:=id st;refine zgn (wr:=[z,TO,i1,i2]) (J:=Itz X.K l1 l2) (tn:=λi h=>IsZip h z TI TO .none/\IsPair h TI (.ref i1) (.ref i2)/\(∃a b,IsPair h TO a b)/\h.IsListIter i1 l1 i/\h.IsListIter i2 l2 i) I hf (λb hb=>?_) (λb hb=>?_) (WalksT.zip2 (I.ok.hd hc) z TI TO i1 i2 l1 l2 D its1.toArray its2.toArray) (by simp;lia) ⟨st.1,st.2.1,st.2.2.1,st.2.2.2.1,st.2.2.2.2,p1.isList,p2.isList⟩ (λT vals hn hp=>?_) λh'' q=>⟨q.1,q.2.1,q.2.2.1,q.2.2.2.1,q.2.2.2.2.1⟩
  .simp only[XQ,V6,or_false]at hb;rcases hb with rfl | rfl | rfl | rfl | rfl
   .exact⟨_,hz⟩
   .exact⟨_,hTI⟩
   .exact⟨_,hTO⟩
   .exact⟨_,e1⟩
   .exact⟨_,e2⟩
  .simp only[XQ,V6,or_false]at hb ⊢;rcases hb with rfl | rfl | rfl | rfl<;>simp
  .obtain⟨x,y,hx,hy,rfl⟩:=hp;have hx':its1[i]?=some x:=by simpa using hx
   have hy':its2[i]?=some y:=by simpa using hy
   obtain⟨u,hu,ru⟩:=rv1.get (i:=i) (x:=xs[i]) (by rw[X5 hlt1]);obtain⟨u',hu',ru'⟩:=rv2.get (i:=i) (x:=ys[i]) (by rw[X5 hlt2]);rw[hu]at hx';rw[hu']at hy';cases hx';cases hy';exact⟨[xs[i],ys[i]],.cons ru (.cons ru' .nil),(by show 2<=Xz;decide),T,rfl,hn,λxs' ys' h1 h2=>⟨xs[i],ys[i],by rw[I.list_inj h1 hq1,X5 hlt1],by rw[I.list_inj h2 hq2,X5 hlt2],rfl⟩⟩
 done:=by
  intro X hP hw hK hc i bQ s σ H E I hf st hg;subst hP hw hK;obtain⟨xs,ys,hq1,hq2,rfl⟩:=hg;obtain⟨its1,rv1,p1,hz1⟩:=I.list hq1;obtain⟨its2,rv2,p2,hz2⟩:=I.list hq2;have g1:min its1.toArray.size its2.toArray.size=min xs.length ys.length:=by simp[rv1.length,rv2.length]
  refine zgo (fp:=[z,TI,TO,i1,i2]) (wr:=[z,TO,i1,i2]) I hf (λb hb=>?_) (WalksT.zip2 (I.ok.hd hc) z TI TO i1 i2 l1 l2 D its1.toArray its2.toArray) ?_
  .simp only[XQ,V6,or_false]at hb ⊢;rcases hb with rfl | rfl | rfl | rfl<;>simp
  .rw[g1];exact⟨st.1,st.2.1,st.2.2.1,st.2.2.2.1,st.2.2.2.2,p1.isList,p2.isList⟩
 self:=λA i s Q E st h=>wpAny_pyIter_zip st.1 h
section
variable {X:Cx}{elts:List Expr}{k:Nat}{tpos:Pos}
def znP (K:XY)(ta:TA):TI:=fun σ H R=>ta σ H λvs H1=>∃l,vs=[.ref l]/\(∃xs,SqL K H1 l xs)/\R (Ite K l) H1
def Jq {a:Expr}{ta:TA}{p pos:Pos}(hg:Gl X "enumerate")(hm:X.mg "enumerate"=none)(ha:PA X [a] ta)(hs:WR [a] X.env=[(false,eval a X.env)]:=by rfl):PI X (.Tuple elts k tpos) (.Call (.Name "enumerate" p) [a] [] pos) (znP X.K ta):=by
 intro bQ s σ H R I h;refine Call_ (ZH I hg hm boot_enumerate (VF (thn (ha pos bQ s σ H _ I h) λus s1 ⟨vs,H1,I1,r1,q1⟩=>?_) hs rfl));obtain⟨l,rfl,⟨xs,hq⟩,q⟩:=q1;obtain⟨u,rfl,ru⟩:=vals1 r1;cases ru;obtain⟨its,rv,pl,hz⟩:=I1.list hq;obtain⟨ol,hol,_⟩:=pl.isList;have hlt:=XJ hol;refine call_enumerate_list pl.isList λh' he hit hsz kk=>?_;have I2:Inv X bQ σ H1 { s1 with heap:=h' }:=I1.kept (t':=s1.toks) kk;refine Sr he ?_;refine⟨s1.heap.objs.size+1,[s1.heap.objs.size+1,s1.heap.objs.size],_,_,H1,rfl,I2,zig (s1.heap.objs.size+1) s1.heap.objs.size l (Vo _) (Xk (Wv hlt)) (Xk hlt),⟨⟨_,he⟩,hit⟩,λb hb=>?_,q⟩;have hb':s1.heap.objs.size<=b:=by
  rcases XQ.mp hb with e | hb
  .rw[e];exact V9 _
  .have e:b=s1.heap.objs.size:=by simpa using hb
   rw[e];exact XU _
 exact I1.fpOk hb' (I1.hok.fresh hb')
def znQ (ta:TA):TI:=fun σ H R=>ta σ H λvs H1=>∃z,vs=[.str z]/\R (zlQ z) H1
def ze5 {a:Expr}{ta:TA}{p pos:Pos}(hg:Gl X "enumerate")(hm:X.mg "enumerate"=none)(ha:PA X [a] ta)(hs:WR [a] X.env=[(false,eval a X.env)]:=by rfl):PI X (.Tuple elts k tpos) (.Call (.Name "enumerate" p) [a] [] pos) (znQ ta):=by
 intro bQ s σ H R I h;refine Call_ (ZH I hg hm boot_enumerate (VF (thn (ha pos bQ s σ H _ I h) λus s1 ⟨vs,H1,I1,r1,q1⟩=>?_) hs rfl));obtain⟨z,rfl,q⟩:=q1;obtain⟨u,rfl,t,rfl⟩:=vals1 r1;refine call_enumerate_str λh' he hit hsz kk=>?_;have I2:Inv X bQ σ H1 { s1 with heap:=h' }:=I1.kept (t':=s1.toks) kk;refine Sr he ?_;have fpk:∀b ∈ [s1.heap.objs.size+1,s1.heap.objs.size],YX X bQ H1 b:=λb hb=>by
  have hb':s1.heap.objs.size<=b:=by
   rcases XQ.mp hb with e | hb
   .rw[e];exact V9 _
   .have e:b=s1.heap.objs.size:=by simpa using hb
    rw[e];exact XU _
  exact I1.fpOk hb' (I1.hok.fresh hb')
 unfold strIterType at hit;by_cases ha:z.cps.all (· < 128)=true
 .rw[bw ha]at hit;exact⟨s1.heap.objs.size+1,[s1.heap.objs.size+1,s1.heap.objs.size],_,_,H1,rfl,I2,zbU (s1.heap.objs.size+1) s1.heap.objs.size z t "str_ascii_iterator" (Vo _) (λA hA=>Draws.strAscii hA _ z t),⟨⟨_,he⟩,hit⟩,fpk,q⟩
 .rw[bq ha]at hit;exact⟨s1.heap.objs.size+1,[s1.heap.objs.size+1,s1.heap.objs.size],_,_,H1,rfl,I2,zbU (s1.heap.objs.size+1) s1.heap.objs.size z t "str_iterator" (Vo _) (λA hA=>Draws.strWide hA _ z t),⟨⟨_,he⟩,hit⟩,fpk,q⟩
def zqp (K:XY)(ta:TA):TI:=fun σ H R=>ta σ H λvs H1=>∃l1 l2,vs=[.ref l1,.ref l2]/\(∃xs,SqL K H1 l1 xs)/\(∃ys,SqL K H1 l2 ys)/\R (Itz K l1 l2) H1
def znR {a b:Expr}{ta:TA}{p pos:Pos}(hg:Gl X "zip")(hm:X.mg "zip"=none)(ha:PA X [a,b] ta)(hs:WR [a,b] X.env=[(false,eval a X.env),(false,eval b X.env)]:=by rfl)(hs2:WR [b] X.env=[(false,eval b X.env)]:=by rfl) :
  PI X (.Tuple elts k tpos) (.Call (.Name "zip" p) [a,b] [] pos) (zqp X.K ta):=by
 intro bQ s σ H R I h;refine Call_ (ZH I hg hm boot_zip (VF (thn (ha pos bQ s σ H _ I h) λus s1 ⟨vs,H1,I1,r1,q1⟩=>?_) (by rw[hs,hs2]) (by rw[hs2];rfl)));obtain⟨l1,l2,rfl,⟨xs,hq1⟩,⟨ys,hq2⟩,q⟩:=q1;obtain⟨u,u',rfl,ru,ru'⟩:=vals2 r1;cases ru;cases ru';obtain⟨its1,rv1,p1,hz1⟩:=I1.list hq1;obtain⟨its2,rv2,p2,hz2⟩:=I1.list hq2;obtain⟨o1,ho1,_⟩:=p1.isList;obtain⟨o2,ho2,_⟩:=p2.isList;have lt1:@LT.lt Nat _ l1 s1.heap.objs.size:=XJ ho1;have lt2:@LT.lt Nat _ l2 s1.heap.objs.size:=XJ ho2;refine call_zip_2 p1.isList p2.isList λh' hz hTI hTO hi1 hi2 hsz kk=>?_;have I2:Inv X bQ σ H1 { s1 with heap:=h' }:=I1.kept (t':=s1.toks) kk;refine wpAny_pyIter_zip hz ?_;generalize hN:s1.heap.objs.size=N at *
 have apart:ZipApart (N+4) (N+2) (N+3) N (N+1) l1 l2:=by
  constructor<;>first
   | exact Xk (by lia)
   | exact Us (by lia)
 refine⟨N+4,[N+4,N+2,N+3,N,N+1],_,_,H1,rfl,I2,zjG (N+4) (N+2) (N+3) N (N+1) l1 l2 apart,⟨hz,hTI,⟨_,_,hTO⟩,hi1,hi2⟩,λb hb=>?_,q⟩;have hb':s1.heap.objs.size<=b:=by
  rw[hN];simp only[XQ,V6,or_false]at hb;rcases hb with rfl | rfl | rfl | rfl | rfl<;>lia
 exact I1.fpOk hb' (I1.hok.fresh hb')
def QL:jw X (.type "int") (λxs H Q=>∃x n,xs=[.str x]/\Ox x=some n/\x.length<=640/\Q (.int n) H):=by
 intro bQ s σ H xs us Q I r h;obtain⟨x,n,rfl,hn,hl,q⟩:=h;obtain⟨u,rfl,t,rfl⟩:=vals1 r;exact PySem.W.KIN.call_text hn hl ⟨.int n,H,I.tok _,⟨_,rfl⟩,q⟩
def zee:jw X (.type "str") (λxs H Q=>∃x,xs=[.str x]/\Q (.str x) H):=by
 intro bQ s σ H xs us Q I r h;obtain⟨x,rfl,q⟩:=h;obtain⟨u,rfl,t,rfl⟩:=vals1 r;exact PySem.P.str_of_str ⟨.str x,H,I,⟨_,rfl⟩,q⟩
end
def Jh {K:XY}{l:Addr}{xs:AF}{g:TG}{tb:TS}{D:Ends}{σ:St}{H:Hp}(Pv:Nat->St->Hp->Prop)(h0:Pv 0 σ H)(hl:∀i σ H,i<=xs.length->Pv i σ H->SqL K H l xs)
  (hs:∀i x T σ H,xs[i]?=some x->H T=none->Pv i σ H->g (.ref T) σ (upd H T (.tup [.int i,x])) fun σ2 H2=>tb { D with nx:=Pv (i+1),ct:=Pv (i+1),bk:=D.nx } σ2 H2) (hd:∀ σ H,Pv xs.length σ H->D.nx σ H) :
  ∃W:Nat->Nat->St->Hp->Prop,(∃m,W 0 m σ H)/\∀i m σ H,W i m σ H ->
   ((Ite K l).stop i H/\D.nx σ H)\/((Ite K l).go i H/\∃N:St->Hp->Prop,(∀ σ' H',N σ' H'->∃m',m'<m/\W (i+1) m' σ' H')/\∀x H',(Ite K l).yld i H x H'->g x σ H' fun σ2 H2=>tb { D with nx:=N,ct:=N,bk:=D.nx } σ2 H2):=by
 refine⟨λi m σ H=>m=xs.length-i/\i<=xs.length/\Pv i σ H,⟨xs.length,by simp,W7 _,h0⟩,?_⟩;rintro i m σ H ⟨rfl,hi,p⟩;have q:=hl i σ H hi p;by_cases hlt:i<xs.length
 .refine .inr ⟨⟨xs,q,hlt⟩,Pv (i+1),fun σ' H' p'=>⟨xs.length-(i+1),by lia,rfl,hlt,p'⟩,λx H' y=>?_⟩;obtain⟨T,rfl,hT,y⟩:=y;obtain⟨v,hv,rfl⟩:=y xs q;exact hs i v T σ H hv hT p
 .have e:i=xs.length:=by lia
  subst e;exact .inl ⟨⟨xs,q,rfl⟩,hd σ H p⟩
def zbV {g:TG}{tc:TT}{te:TE}{Q:VK}{σ:St}{H:Hp}{D:Addr}{x:Str}(Pv:Nat->St->Hp->Prop)(h0:Pv 0 σ H)
  (hs:∀i c T σ H,x.cps[i]?=some c->H T=none->Pv i σ H->g (.ref T) σ (upd H T (.tup [.int i,.str ⟨#[c]⟩])) fun σ2 H3=>tc σ2 H3 λb H4=>if b=true then te σ2 H4 λy H5=>∃ys,H5 D=some (.lst ys)/\ys.length<Xz/\Pv (i+1) σ2 (upd H5 D (.lst (ys++[y]))) else Pv (i+1) σ2 H4)
  (hd:∀ σ H,Pv x.cps.size σ H->Q (.ref D) H):yv (zlQ x) g tc te Q D σ H:=by
 refine⟨λi m σ H=>m=x.cps.size-i/\i<=x.cps.size/\Pv i σ H,⟨x.cps.size,by simp,W7 _,h0⟩,?_⟩;rintro i m σ H ⟨rfl,hi,p⟩;by_cases hlt:i<x.cps.size
 .refine .inr ⟨hlt,Pv (i+1),fun σ' H' p'=>⟨x.cps.size-(i+1),by lia,rfl,hlt,p'⟩,λv H' y=>?_⟩;obtain⟨T,c,rfl,hT,hc,rfl⟩:=y;exact hs i c T σ H hc hT p
 .have e:i=x.cps.size:=by lia
  subst e;exact .inl ⟨rfl,hd σ H p⟩
def zaD (look:Str->Option Addr):List (Str×Ta)->List (Str×Addr)->List (Str×Addr)
 | [],acc=>acc
 | (n,k)::r,acc=>if k == .free then (match look n with
  | some c=>zaD look r ((n,c)::acc)
  | none=>zaD look r acc) else zaD look r acc
theorem J9 {look:Str->Option Addr}:∀(names:List (Str×Ta)) (acc:List (Str×Addr)) (p:Str×Addr),p∈zaD look names acc->p∈acc\/look p.1=some p.2
 | [],acc,p,h=>.inl h
 | (n,k)::r,acc,p,h=>by
  unfold zaD at h;split at h
  .cases e:look n with
   | none =>
    rw[e]at h;exact J9 r acc p h
   | some c =>
    rw[e]at h;rcases J9 r _ p h with h | h
    .rcases XQ.mp h with h | h
     .subst h;exact .inr e
     .exact .inl h
    .exact .inr h
  .exact J9 r acc p h
def Za {x n:Str}{c:Addr}{acc:List (Str×Addr)}(h:(acc.lookup x).isSome=true\/x=n):(RU x ((n,c)::acc)).isSome=true:=by
 rw[U6];cases e:x==n with
 | true=>rfl
 | false =>
  rcases h with h | h
  .exact h
  .subst h;simp at e
def zbW {look:Str->Option Addr}{x:Str}(names:List (Str×Ta))(acc:List (Str×Addr))(h:(acc.lookup x).isSome=true\/((x,NameKind.free)∈names/\(look x).isSome=true)):((zaD look names acc).lookup x).isSome=true:=by
 induction names generalizing acc with
 | nil =>
  rcases h with h | h
  .exact h
  .cases h.1
 | cons y r ih =>
  obtain⟨n,k⟩:=y;unfold zaD;split
  .rename_i hk;cases e:look n with
   | none =>
    refine ih acc ?_;rcases h with h | ⟨h,h2⟩
    .exact .inl h
    .rcases XQ.mp h with h | h
     .cases h;rw[e]at h2;cases h2
     .exact .inr ⟨h,h2⟩
   | some c =>
    refine ih _ ?_;rcases h with h | ⟨h,h2⟩
    .exact .inl (Za (.inl h))
    .rcases XQ.mp h with h | h
     .cases h;exact .inl (Za (.inr rfl))
     .exact .inr ⟨h,h2⟩
  .rename_i hk;refine ih acc ?_;rcases h with h | ⟨h,h2⟩
   .exact .inl h
   .rcases XQ.mp h with h | h
    .cases h;exact absurd rfl hk
    .exact .inr ⟨h,h2⟩
def xM {scope:Va}{env:Env}(h:∀y∈scope.names,y.2=.free->(env.cells.lookup y.1).isSome=true):Rx scope env=pure (zaD (λx=>env.cells.lookup x) scope.names []):=by
 have go:∀(names:List (Str×Ta)) (acc:List (Str×Addr)),(∀y∈names,y.2=.free->(env.cells.lookup y.1).isSome=true) ->
   (forIn names acc λx cs=>(match x with
    | (name,kind)=>if (kind == .free)=true then do let a <- cellOf env name;pure (Vd ((name,a)::cs)) else pure (Vd cs):Sem (ForInStep (List (Str×Addr)))))=(pure (zaD (λx=>env.cells.lookup x) names acc):Sem _):=by
  intro names;induction names with
  | nil=>intro acc _;rfl
  | cons y r ih =>
   intro acc hy;obtain⟨n,k⟩:=y;have hr:∀y∈r,y.2=.free->(env.cells.lookup y.1).isSome=true:=λy hm=>hy y (XV _ hm);rw[List.forIn_cons];unfold zaD;by_cases hk:(k==NameKind.free)=true
   .have hk':k=.free:=by simpa using hk
    have hs:=hy (n,k) X2 hk';obtain⟨c,hc⟩:=Vt.mp hs;have hc':RU n env.cells=some c:=hc;have e1:cellOf env n=pure c:=by
     unfold cellOf;rw[hc']
    simp only[hk,if_true,e1,hc',pure_bind];exact ih _ hr
   .simp only[hk,Wc,if_false,pure_bind];exact ih _ hr
 simp only[Rx];exact Eq.trans (congrArg (λm:Sem (List (Str×Addr))=>m >>= λcs=>pure cs) (go scope.names [] h)) rfl
def yd {scope:Va}{env:Env}{x:Str}{k:Ta}(h:(x,k)∈(Vs scope env).names)(hk:k=.cell\/k=.free):(x,UG)∈scope.names\/(x,NameKind.free)∈scope.names:=by
 obtain⟨y,hy,e⟩:=XO.mp h;obtain⟨n,k0⟩:=y;by_cases c:(k0==NameKind.free&&env.scope.kind == .function&&env.kindOf n==some .cell)=true
 .have e':(if (k0==NameKind.free&&env.scope.kind == .function&&env.kindOf n==some .cell)=true then (n,UG) else (n,k0))=(x,k):=e;rw[bw c]at e';cases e';have c1:k0=.free:=by
   have:=(VW.mp (VW.mp c).1).1;simpa using this
  subst c1;exact .inr hy
 .have e':(if (k0==NameKind.free&&env.scope.kind == .function&&env.kindOf n==some .cell)=true then (n,UG) else (n,k0))=(x,k):=e;rw[bq c]at e';cases e';rcases hk with rfl | rfl
  .exact .inl hy
  .exact .inr hy
def zef {scope:Va}{env:Env}{x:Str}(hk:env.scope.kind=.function)(ho:env.kindOf x=some .cell)(h:scope.names.lookup x=some .free):(Vs scope env).names.lookup x=some .cell:=by
 have go:∀names:List (Str×Ta),names.lookup x=some .free->(names.map λ(n,k)=>if (k==NameKind.free&&env.scope.kind == .function&&env.kindOf n==some .cell)=true then (n,UG) else (n,k)).lookup x=some .cell:=by
  intro names;induction names with
  | nil=>intro h;cases h
  | cons y r ih =>
   obtain⟨n,k⟩:=y;intro h;show RU x ((if (k==NameKind.free&&env.scope.kind == .function&&env.kindOf n==some .cell)=true then (n,UG) else (n,k))::_)=_;rw[U6]at h;cases e:x==n with
   | true =>
    rw[e]at h;have hk':k=.free:=Option.some.inj h;have hn:x=n:=by simpa using e
    subst hk' hn;rw[bw (by rw[hk,ho];rfl),U6,beq_self_eq_true]
   | false =>
    rw[e]at h;by_cases c:(k==NameKind.free&&env.scope.kind == .function&&env.kindOf n==some .cell)=true
    .rw[bw c,U6,e];exact ih h
    .rw[bq c,U6,e];exact ih h
 exact go scope.names h
theorem zZ.free {X:Cx}{N:AE}{src:List (Option Nat)}{scope:Va}{O:List (Str×Ta)}{XN:AE}(hO:X.env.scope.names=O)(hK:X.env.scope.kind=.function)(hC:∃n,X.env.cells=Ry n O [])(hX:X.N=XN)
  (kind:scope.kind=.function) (nocell:∀y∈scope.names,y.2 ≠ .cell) (names:∀y∈scope.names,y.2=.local->scope.names.lookup y.1=some .local) (fr:∀y∈scope.names,y.2=.free->O.lookup y.1=some .cell) (len:src.length=N.length)
  (pc:∀q∈N.zip src,q.2=none\/(∃j∈Xp XN.length,q.2=some j/\XN[j]?=some q.1/\O.lookup q.1=some .cell/\scope.names.lookup q.1=some .free)):zZ X N src scope (zaD (λx=>X.env.cells.lookup x) scope.names []):=by
 have hs:∀y∈scope.names,y.2=.free->(X.env.cells.lookup y.1).isSome=true:=λy hy e=>by
  obtain⟨n,hn⟩:=hC;rw[hn];exact Sk O n [] (.inl (fr y hy e))
 refine⟨kind,nocell,names,xM hs,λx c h=>?_,λx h=>?_,len,λi j x h1 h2=>?_⟩
 .rcases J9 _ _ _ (WJ h) with z | z
  .cases z
  .exact z
 .refine Vt.mp (zbW _ _ (.inr ?_));have hm:(x,UG)∈scope.names\/(x,NameKind.free)∈scope.names:=by
   rcases h with h | h
   .exact yd (WJ h) (.inl rfl)
   .exact yd (WJ h) (.inr rfl)
  rcases hm with hm | hm
  .exact absurd rfl (nocell _ hm)
  .exact⟨hm,hs _ hm rfl⟩
 .have hm:(x,some j)∈N.zip src:=by
   refine XZ (i:=i) ?_;rw[Tg];exact⟨h1,h2⟩
  rcases pc _ hm with z | ⟨j',_,e,e1,e2,e3⟩
  .cases z
  .cases e;have ko:X.env.kindOf x=some .cell:=by
    show X.env.scope.names.lookup x=some .cell;rw[hO];exact e2
   exact⟨by rw[hX];exact e1,.inl ko,.inl (zef hK ko e3)⟩
open PySem PySem.Spec PyProof.Rows PySem.W
section
variable {α β:Type}{R:α->β->Prop}{us us':List α}{cs cs':List β}{i:Nat}{v:α}{c:β}
def zbX (h:WU R us cs)(k:WU R us' cs'):WU R (us++us') (cs++cs'):=by
 induction h with
 | nil=>exact k
 | cons q _ ih=>exact .cons q ih
def za6 (h:WU R us cs)(e:us[i]?=some v):∃c,cs[i]?=some c/\R v c:=by
 induction h generalizing i with
 | nil=>cases e
 | cons q _ ih =>
  cases i with
  | zero =>
   cases e;exact⟨_,rfl,q⟩
  | succ i=>exact ih (i:=i) e
def zjH (h:WU R us cs)(e:v∈us):∃c∈cs,R v c:=by
 induction h with
 | nil=>cases e
 | cons q _ ih =>
  rcases XQ.mp e with rfl | e
  .exact⟨_,X2,q⟩
  .obtain⟨c,h,r⟩:=ih e;exact⟨c,XV _ h,r⟩
end
def xx (H:Hp):AF->List (Int×Int)->Prop:=WU λv p=>∃a,v=V.ref a/\H a=some (.tup [.int p.1,.int p.2])
def lt2 (p q:Int×Int):Bool:=if p.1=q.1 then decide (p.2<q.2) else decide (p.1<q.1)
structure zz (h:Heap)(v:X9)(p:Int×Int):Prop where
 ex:∃a o n t u,v=.ref a/\h.get? a=some o/\o.cls=.type "tuple"/\o.data=.seq #[.int p.1 t,.int p.2 u] n
section
variable {X:Cx}{bQ:List (Addr×Obj)}{σ:St}{H:Hp}{s:X8}
def xx.pairs (I:Inv X bQ σ H s){us:AF}{ps:List (Int×Int)}{its:List X9}(hp:xx H us ps)(r:Vals us its):WU (zz s.heap) its ps:=by
 induction hp generalizing its with
 | nil =>
  cases r;exact .nil
 | cons q _ ih =>
  obtain⟨a,e,h⟩:=q;subst e;cases r with
  | cons r1 r2 =>
   cases r1;refine .cons ?_ (ih r2);obtain⟨items,rv,tp,_⟩:=I.tuple (SqT.of h);obtain⟨u1,u2,rfl,⟨t1,rfl⟩,⟨t2,rfl⟩⟩:=vals2 rv;obtain⟨ob,e1,c1,n,d1⟩:=tp;exact⟨a,ob,n,t1,t2,rfl,e1,c1,d1⟩
end
theorem ZK {h h':Heap}(k:∀b o,h.get? b=some o->h'.get? b=some o):∀{its:List X9} {ps:List (Int×Int)},WU (zz h) its ps->WU (zz h') its ps
 | _,_,.nil=>.nil
 | _,_,.cons ⟨a,o,n,t,u,e,e1,r⟩ tl=>.cons ⟨a,o,n,t,u,e,k _ _ e1,r⟩ (ZK k tl)
theorem QM {h:Heap}:∀{its:List X9} {ps:List (Int×Int)},WU (zz h) its ps->∃fs:List X9,KatTups h its fs/\fs.length=its.length/\∀v∈fs,∃x t,v=Wt x t
 | _,_,.nil=>⟨[],.nil,rfl,λ_ z=>nomatch z⟩
 | _,_,.cons ⟨a,o,n,t,u,e,e1,c,d⟩ tl=>by
  obtain⟨fs,k,l,q⟩:=QM tl;subst e;refine⟨.int _ t::fs,KatTups.cons e1 c d rfl k,by simp[l],λv hv=>?_⟩;rcases XQ.mp hv with rfl | hv
  .exact⟨_,t,rfl⟩
  .exact q v hv
section
variable {prog:Xd}{w:WV}{A:WT}{E:X9->X8->Prop}{s:X8}
def zlR {v v':X9}{p q:Int×Int}{C:Bool->X8->Prop}(hv:zz s.heap v p)(hv':zz s.heap v' q)(h:C (lt2 p q) s):Xy (Xo prog w) A (keyLt' (tuples' true) v v') C E s:=by
 obtain⟨a,o,n,t,u,rfl,e1,c1,d1⟩:=hv;obtain⟨a',o',n',t',u',rfl,e1',c1',d1'⟩:=hv';refine kat_lt e1 d1 e1' d1' ?_;show KatLex prog w A true _ C [(Wt p.1 t,Wt q.1 t'),(Wt p.2 u,Wt q.2 u')] 0 s;unfold lt2 at h;refine kat_cons (SeqAt.EqAt.int_int _ _ _ _ prog w _ _ (kat_go (λee=>kat_yes ?_) λee=>kat_no ?_))
 .have e:p.1=q.1:=by simpa using ee
  rw[bw e]at h;refine kat_cons (SeqAt.EqAt.int_int _ _ _ _ prog w _ _ (kat_go (λe2=>kat_yes (kat_nil ?_)) λe2=>kat_no ?_))
  .have e3:p.2=q.2:=by simpa using e2
   have e4:decide (p.2<q.2)=false:=bf (by lia);rw[e4]at h;exact h
  .exact kat_one _ _ (lt_int h)
 .have e:¬ p.1=q.1:=by simpa using ee
  rw[bq e]at h;exact oneLt_int h
end
section
variable {X:Cx}
def ze6:zo0 X (zpc X.K):=by
 intro bQ s σ H x y v u Q I rx ry h;obtain⟨p,xs,i,z,rfl,rfl,hq,he,q⟩:=h;cases rx;obtain⟨t,rfl⟩:=ry;obtain⟨its,r,pl,hz⟩:=I.list hq;obtain⟨j,h1,h2,h3,h4,h5⟩:=zbv he;obtain⟨w,ew,rw'⟩:=r.get h2;have hl:=r.length;have hn:=Yd;have fin:EP X bQ σ Q w s:=⟨z,H,I,rw',q⟩;by_cases h0:0<=i
 .have hj:i.toNat=j:=by
   rw[OD h0 h5]at h1;exact Option.some.inj h1
  exact wpAny_getItem_list pl.isList h0 (by lia) (by rw[hj];simpa using ew) fin
 .have hj:(i+(its.toArray.size:Int)).toNat=j:=by
   rw[Pf (by lia) h4]at h1;rw[Xs,<- hl];exact Option.some.inj h1
  exact Pa pl.isList (by lia) (by rw[Xs]<;>lia) (by lia) (by rw[hj];simpa using ew) fin
theorem zbY:∀{ns:List Int} {its:List X9},Vals (ns.map V.int) its->RC its ns
 | [],_,r=>by cases r;exact .nil
 | n::ns,_,r=>by
  cases r with
  | cons r1 r2 =>
   obtain⟨t,rfl⟩:=r1;exact .cons n t (zbY r2)
def zjI (hc:X.calm=true):jw X (.builtin "sum") (λxs H Q=>∃(l:Addr) (ns:List Int),xs=[.ref l]/\SqL X.K H l (ns.map V.int)/\Q (.int ns.sum) H):=by
 intro bQ s σ H xs us Q I r h;obtain⟨l,ns,rfl,hq,q⟩:=h;obtain⟨u,rfl,ru⟩:=vals1 r;cases ru;obtain⟨its,rv,pl,hz⟩:=I.list hq;have hi:RC its ns:=zbY rv;obtain⟨ys,ey⟩:=hi.allInts.items;refine sum_intListG (I.ok.hd hc) (xs:=ys) (ey ▸ pl.isList) λh' tk t' hk=>?_;have f1:ns=ys.toList.map (·.1):=by
  rw[<- nums_intItems,<- ey];exact(show numsOf its.toArray.toList=ns from hi.numsOf).symm
 have f2:preSum (numAt ys) ys.size=ns.sum:=by
  rw[f1,preSum_eq,WD (by simp)]
 rw[f2];exact⟨.int _,H,I.kept hk,⟨_,rfl⟩,q⟩
def zih {bs:List Bool}{its:List X9}(r:Vals (bs.map V.bl) its){i:Nat}{v:X9}(e:its[i]?=some v):∃b,bs[i]?=some b/\v=.bool b:=by
 have hl:=r.length;rw[Y1]at hl;have hi:i<bs.length:=by
  have:=(XW.mp e).1;lia
 obtain⟨u,hu,ru⟩:=r.get (i:=i) (x:=.bl bs[i]) (by rw[Xn,X5 hi];rfl);rw[hu]at e;cases e;exact⟨bs[i],X5 hi,ru⟩
def ze7 (hc:X.calm=true):jw X (.builtin "any") (λxs H Q=>∃(l:Addr) (bs:List Bool),xs=[.ref l]/\SqL X.K H l (bs.map V.bl)/\Q (.bl (bs.any id)) H):=by
 intro bQ s σ H xs us Q I r h;obtain⟨l,bs,rfl,hq,q⟩:=h;obtain⟨u,rfl,ru⟩:=vals1 r;cases ru;obtain⟨its,rv,pl,hz⟩:=I.list hq;have hl:=pl.isList;have hlt:l<s.heap.objs.size:=let ⟨_,he,_⟩:=hl;XJ he
 have hln:=rv.length;rw[Y1]at hln;refine call_any_walk (Ur hl ?_);refine⟨s.heap.objs.size,[s.heap.objs.size,l],[s.heap.objs.size],its.toArray.size,_,_,λi=>(bs[i]?).getD false,rfl,Walks.list (A:=X.A.in1) (I.ok.hd hc) _ l (Xk hlt) its.toArray,
  ⟨⟨_,Xe _ rfl,rfl,rfl⟩,hl.push _⟩,λi v s' Q' E' hP hQ=>?_,λh' tk hk=>?_⟩
 .obtain⟨b,eb,rfl⟩:=zih rv (i:=i) (v:=v) (by simpa using hP);simp only[eb,Vn]at hQ;exact VJ hQ
 .have e:((Xp its.toArray.size).any λi=>(bs[i]?).getD false)=bs.any id:=by
   rw[Xs,<- hln];exact LSm.range_any bs
  rw[e];exact⟨.bl _,H,I.kept (LSm.kept_iter hk),rfl,q⟩
end
mutual
inductive Rdn (N:Addr->Prop)(H:Hp):V->V3->Prop
 | non:Rdn N H .non .none
 | bl (b:Bool):Rdn N H (.bl b) (.bool b)
 | int (i:Int):Rdn N H (.int i) (.int i)
 | str (x:Str):Rdn N H (.str x) (.str x)
 | lst {a:Addr} {xs:AF} {ds:List V3}:N a->H a=some (.lst xs)->zB N H xs ds->Rdn N H (.ref a) (.list ds)
 | tup {a:Addr} {xs:AF} {ds:List V3}:H a=some (.tup xs)->zB N H xs ds->Rdn N H (.ref a) (.tuple ds)
inductive zB (N:Addr->Prop)(H:Hp):AF->List V3->Prop
 | nil:zB N H [] []
 | cons {x:V} {d:V3} {xs:AF} {ds:List V3}:Rdn N H x d->zB N H xs ds->zB N H (x::xs) (d::ds)
end
section
variable {K:XY}{N N':Addr->Prop}{H H':Hp}
def Rdn.rdv {v:V}{d:V3}(h:Rdn N H v d):Rdv K H v d :=
 Rdn.rec (motive_1:=λv d _=>Rdv K H v d) (motive_2:=λvs ds _=>xK K H vs ds) .non .bl .int .str (λ_ h _ t=>.lst (SqL.of h) t) (λh _ t=>.tup (SqT.of h) t) .nil (λ_ _ a t=>.cons a t) h
def zB.rdv {vs:AF}{ds:List V3}(h:zB N H vs ds):xK K H vs ds :=
 zB.rec (motive_1:=λv d _=>Rdv K H v d) (motive_2:=λvs ds _=>xK K H vs ds) .non .bl .int .str (λ_ h _ t=>.lst (SqL.of h) t) (λh _ t=>.tup (SqT.of h) t) .nil (λ_ _ a t=>.cons a t) h
def Rdn.mono (s:zq H H')(i:∀a,N a->N' a){v:V}{d:V3}(h:Rdn N H v d):Rdn N' H' v d :=
 Rdn.rec (motive_1:=λv d _=>Rdn N' H' v d) (motive_2:=λvs ds _=>zB N' H' vs ds) .non .bl .int .str (λn h _ t=>.lst (i _ n) (s _ _ h) t) (λh _ t=>.tup (s _ _ h) t) .nil (λ_ _ a t=>.cons a t) h
def zB.mono (s:zq H H')(i:∀a,N a->N' a){vs:AF}{ds:List V3}(h:zB N H vs ds):zB N' H' vs ds :=
 zB.rec (motive_1:=λv d _=>Rdn N' H' v d) (motive_2:=λvs ds _=>zB N' H' vs ds) .non .bl .int .str (λn h _ t=>.lst (i _ n) (s _ _ h) t) (λh _ t=>.tup (s _ _ h) t) .nil (λ_ _ a t=>.cons a t) h
def zB.into {D:Addr}{o:HO}{old:AF}(hD:H D=some (.lst old))(i:∀a,N a->a≠D){vs:AF}{ds:List V3}(h:zB N H vs ds):zB N (upd H D o) vs ds :=
 zB.rec (motive_1:=λv d _=>Rdn N (upd H D o) v d) (motive_2:=λvs ds _=>zB N (upd H D o) vs ds) .non .bl .int .str (λn h _ t=>.lst n (by rw[zk (i _ n)];exact h) t) (λh _ t=>.tup (by rw[zk (zdc h hD (by intro z;cases z))];exact h) t) .nil (λ_ _ a t=>.cons a t) h
def Rdn.keep (s:zq H H'){v:V}{d:V3}(h:Rdn N H v d):Rdn N H' v d:=h.mono s λ_ n=>n
def zB.keep (s:zq H H'){vs:AF}{ds:List V3}(h:zB N H vs ds):zB N H' vs ds:=h.mono s λ_ n=>n
def zB.append {vs ws:AF}{ds es:List V3}(h:zB N H vs ds)(k:zB N H ws es):zB N H (vs++ws) (ds++es) :=
 zB.rec (motive_1:=λ_ _ _=>True) (motive_2:=λvs ds _=>zB N H (vs++ws) (ds++es))
  trivial (λ_=>trivial) (λ_=>trivial) (λ_=>trivial) (λ_ _ _ _=>trivial) (λ_ _ _=>trivial) k (λa _ _ t=>.cons a t) h
def zB.snoc {vs:AF}{ds:List V3}{v:V}{d:V3}(h:zB N H vs ds)(k:Rdn N H v d):zB N H (vs++[v]) (ds++[d]):=h.append (.cons k .nil)
def zB.paired {vs:AF}{ds:List V3}(h:zB N H vs ds):WU (Rdn N H) vs ds :=
 zB.rec (motive_1:=λ_ _ _=>True) (motive_2:=λvs ds _=>WU (Rdn N H) vs ds)
  trivial (λ_=>trivial) (λ_=>trivial) (λ_=>trivial) (λ_ _ _ _=>trivial) (λ_ _ _=>trivial) .nil (λa _ _ t=>.cons a t) h
theorem zB.length {vs:AF}{ds:List V3}(h:zB N H vs ds):vs.length=ds.length:=Paired.length h.paired
def zB.get {vs:AF}{ds:List V3}{i:Nat}{v:V}(h:zB N H vs ds)(e:vs[i]?=some v):∃d,ds[i]?=some d/\Rdn N H v d:=za6 h.paired e
end
section
variable {K:XY}{g:TG}{tc:TT}{te:TE}{Q:VK}{σ0:St}{H1:Hp}{D:Addr}
def zlS (N:Addr->Prop)(inv:St->Prop)(H:Hp)(o:Option V3)(Y:St->V->Hp->Prop):Prop:=∀d y σ2 H5,o=some d->inv σ2->zq H H5->Rdn N H5 y d->Y σ2 y H5
def znS (inv:St->Prop)(H:Hp)(o:Option V3)(Z:St->Hp->Prop):Prop:=∀ σ2 H4,o=none->inv σ2->zq H H4->Z σ2 H4
def qX {a:Addr}{xs:AF}(N:Addr->Prop)(outs:List (Option V3))(inv:St->Prop)(hD:H1 D=none)(hN:∀a,N a->a≠D)(h0:inv σ0)(hlen:outs.length=xs.length)(hz:xs.length<=100000)
  (hl:SqL K H1 a xs)
  (hs:∀(i:Nat) (x:V) (o:Option V3) (σ:St) (H:Hp),xs[i]?=some x->outs[i]?=some o->zq H1 H->H D≠none->inv σ->∀Y Z,zlS N inv H o Y->znS inv H o Z ->
   g x σ H fun σ2 H3=>tc σ2 H3 λb H4=>if b=true then te σ2 H4 λy H5=>Y σ2 y H5 else Z σ2 H4)
  (hd:∀ys H',zq H1 H'->H' D=some (.lst ys)->zB N H' ys (outs.filterMap id)->Q (.ref D) H'):yv (Itl K a) g tc te Q D σ0 (upd H1 D (.lst [])):=by
 refine qC (K:=K) (a:=a) (xs:=xs) (λi σ H'=>inv σ/\zq H1 H'/\∃ys,H' D=some (.lst ys)/\ys.length<=i/\zB N H' ys ((outs.take i).filterMap id)) ⟨h0,ze hD,[],zd,XU _,.nil⟩ (λi σ H' _ ⟨_,s,_⟩=>s.seq hl) ?_ ?_
 .rintro i x σ H hx ⟨hi,s,ys,hy,yl,hr⟩;have hil:i<xs.length:=(XW.mp hx).1;obtain⟨o,ho⟩:∃o,outs[i]?=some o:=⟨outs[i]'(by lia),X5 (by lia)⟩;have step:(outs.take (i+1)).filterMap id=(outs.take i).filterMap id++o.toList:=by
   rw[Xh,ho,List.filterMap_append];cases o<;>rfl
  refine hs i x o σ H hx ho s (by rw[hy];exact λz=>nomatch z) hi _ _ (λd y σ2 H5 e hi2 s5 hr5=>?_) (fun σ2 H4 e hi2 s4=>?_)
  .subst e;refine⟨ys,s5 _ _ hy,Xx yl (Xu hil (X0 hz (by decide))),hi2,λb ob e=>?_,ys++[y],zd,?_,?_⟩
   .rw[zk (zh e hD)];exact s5 _ _ (s _ _ e)
   .rw[XS];exact On yl 1
   .rw[step];exact zB.into (s5 _ _ hy) hN (zB.snoc (hr.keep s5) hr5)
  .subst e;refine⟨hi2,s.trans s4,ys,s4 _ _ hy,TH yl,?_⟩;rw[step];simpa using hr.keep s4
 .rintro σ H ⟨_,s,ys,hy,_,hr⟩;rw[<- hlen,XB]at hr;exact hd ys H s hy hr
def zgp {a:Addr}{xs:AF}(Pv:Nat->St->Hp->Prop){H:Hp}(h0:Pv 0 σ0 H)(hl:∀i σ H,i<=xs.length->Pv i σ H->SqL K H a xs)
  (hs:∀i x T σ H,xs[i]?=some x->H T=none->Pv i σ H->g (.ref T) σ (upd H T (.tup [.int i,x])) fun σ2 H3=>tc σ2 H3 λb H4=>if b=true then te σ2 H4 λy H5=>∃ys,H5 D=some (.lst ys)/\ys.length<Xz/\Pv (i+1) σ2 (upd H5 D (.lst (ys++[y]))) else Pv (i+1) σ2 H4)
  (hd:∀ σ H,Pv xs.length σ H->Q (.ref D) H):yv (Ite K a) g tc te Q D σ0 H:=by
 refine⟨λi m σ H=>m=xs.length-i/\i<=xs.length/\Pv i σ H,⟨xs.length,by simp,W7 _,h0⟩,?_⟩;rintro i m σ H ⟨rfl,hi,p⟩;have q:=hl i σ H hi p;by_cases hlt:i<xs.length
 .refine .inr ⟨⟨xs,q,hlt⟩,Pv (i+1),fun σ' H' p'=>⟨xs.length-(i+1),by lia,rfl,hlt,p'⟩,λx H' y=>?_⟩;obtain⟨T,rfl,hT,y⟩:=y;obtain⟨v,hv,rfl⟩:=y xs q;exact hs i v T σ H hv hT p
 .have e:i=xs.length:=by lia
  subst e;exact .inl ⟨⟨xs,q,rfl⟩,hd σ H p⟩
def ZL {i:Nat}{v:V}{σ:St}{H:Hp}{A B:St->Hp->Prop}(h:A (σ.set i (some v)) H):yr i v σ H fun σ2 H3=>zjD σ2 H3 λb H4=>if b=true then A σ2 H4 else B σ2 H4:=by
 show if true=true then A (σ.set i (some v)) H else B (σ.set i (some v)) H
 exact Yg h
end
def xP:List X9:=[.type "ValueError",.type "Exception",.type "BaseException",.type "object"]
structure Fly (P:Xd)(w:WV)(outer:List Env)(H:Hp)(s:X8)(e C:Addr)(a0:X9)(B:Heap)(H':Hp)(s':X8):Prop where
 fly:NI B outer e (.ref C) a0 s'.heap
 os:s'.os=s.os
 bare:SC s'.gens
 un:Un (frs outer) [] H H' s.heap s'.heap
 ok:HOk P w H' B
 kB:∀b o,s.heap.get? b=some o->H b=none->b ∉ frs outer->B.get? b=some o
 tB:∀b o,s.heap.get? b=some o->b ∉ frs outer->∃o',B.get? b=some o'
 new:s.heap.get? e=none
 free:H' e=none
def CXE (P:Xd)(w:WV):CXT:=λouter H s E x s'=>∃(e C:Addr) (a0:X9) (B:Heap) (H':Hp),x=.ref e/\Fly P w outer H s e C a0 B H' s'/\E (.ref C) none H'
theorem zjJ {P:Xd}{w:WV}{H:Hp}{h:Heap}{a:Addr}:∀{o:HO},qI P w H h a o->∃ob,h.get? a=some ob
 | .lst _,x=>by obtain⟨_,_,_,_,q⟩:=x;exact⟨_,q⟩
 | .tup _,x=>by obtain⟨_,_,_,ob,q,_⟩:=x;exact⟨ob,q⟩
 | .dK _,x=>by obtain⟨_,_,_,_,ob,_,_,q,_⟩:=x;exact⟨ob,q⟩
 | .dT _,x=>by obtain⟨_,_,_,_,ob,_,_,q,_⟩:=x;exact⟨ob,q⟩
 | .set _ _,x=>by obtain⟨ob,_,_,_,q,_⟩:=x;exact⟨ob,q⟩
 | .ins _ _ _,x=>by obtain⟨_,_,_,q,_⟩:=x;exact⟨_,q⟩
 | .own _,x=>x
 | .xd _,x=>by obtain⟨_,⟨ob,_,_,q,_⟩,_⟩:=x;exact⟨ob,q⟩
 | .met _ _,x=>⟨_,x⟩
 | .rng _ _,x=>by obtain⟨_,_,_,q⟩:=x;exact⟨_,q⟩
 | .frz _ _,x=>⟨_,x.1⟩
 | .tbl _,x=>⟨_,x⟩
 | .ext _,x=>x.2.1
section
variable {X:Cx}{bQ:List (Addr×Obj)}{σ:St}{H H':Hp}{s s':X8}{e C:Addr}{a0:X9}{B h2:Heap}
def Inv.notLoc (I:Inv X bQ σ H s){b:Addr}{o:Obj}(q:X.s₀.heap.get? b=some o):b≠X.env.locals:=λz=>V8 _ (Xu (z ▸ XJ q) I.ok.above)
def Inv.notStk (I:Inv X bQ σ H s){b:Addr}{o:Obj}(q:X.s₀.heap.get? b=some o)(hb:b ∉ X.fs):b ∉ frs X.stack:=λz=>by
 rcases XQ.mp (I.stkSub b z) with r | r
 .exact I.notLoc q r
 .exact hb r
def Inv.flies (I:Inv X bQ σ H s)(hex:X.ex=[])(F:NI B X.outer e (.ref C) a0 h2)(up:s'.heap.UpToSlots h2)(os:s'.os=s.os)(bare:SC s'.gens)(un:Un (frs X.stack) [] H H' s.heap s'.heap)(ok:HOk X.prog X.w H' B)
  (kB:∀b o,s.heap.get? b=some o->H b=none->b ∉ frs X.stack->B.get? b=some o) (tB:∀b o,s.heap.get? b=some o->b ∉ frs X.stack->∃o',B.get? b=some o') (new:s.heap.get? e=none) (free:H' e=none) :
  Fly X.prog X.w X.outer X.H₀ X.s₀ e C a0 B H' { s' with heap:=h2 }:=by
 have nx:∀b,b ∉ X.ex:=λb z=>by rw[hex]at z;cases z
 have keep:∀b o,X.s₀.heap.get? b=some o->X.H₀ b=none->b ∉ X.fs->B.get? b=some o:=λb o q n hb =>
  kB b o (I.base.keep b o q n hb (nx b)) (I.base.free b o q n (nx b)) (I.notStk q hb)
 have there:∀b o,X.s₀.heap.get? b=some o->b ∉ X.fs->∃o',B.get? b=some o':=λb o q hb=>by
  obtain⟨o',q'⟩:=I.base.there b o q (nx b);exact tB b o' q' (I.notStk q hb)
 have slot:∀b o,X.s₀.heap.get? b=some o->b∈X.fs->∃sl,h2.get? b=some { o with slots:=sl }:=λb o q hb=>by
  obtain⟨_,o1,q1,nf⟩:=I.ok.funs.mem hb;rw[q]at q1;cases q1;obtain⟨sl,q2⟩:=I.base.slot b o q (I.ok.frf b hb) hb (nx b);obtain⟨sl2,q3⟩:=un.any q2 (I.base.free b o q (I.ok.frf b hb) (nx b)) (λz=>nomatch z);obtain⟨sl3,q4⟩:=up b _ q3 nf;exact⟨sl3,q4⟩
 refine⟨F,os.trans I.os,bare,⟨λb o q n hb _=>F.1 b o (keep b o q n hb),λb o q _ hb _=>slot b o q hb,λb o q n _=>?_,λb o q _=>?_,λb xs q=>un.tups b xs (I.base.tups b xs q),λb o u q=>un.frzs b o u (I.base.frzs b o u q),λb ps q=>?_⟩,ok,keep,there,?_,free⟩
 .obtain⟨o',q'⟩:=I.base.there b o q (nx b);exact un.free b o' q' (I.base.free b o q n (nx b)) λz=>nomatch z
 .by_cases hb:b∈X.fs
  .obtain⟨sl,r⟩:=slot b o q hb;exact⟨_,r⟩
  .obtain⟨o',r⟩:=there b o q hb;exact⟨o',F.1 b o' r⟩
 .obtain⟨m1,r1⟩:=I.base.tbls b ps q;obtain⟨m2,r2⟩:=un.tbls b _ r1;exact⟨m1++m2,by rw[r2,Rn]⟩
 .cases q:X.s₀.heap.get? e with
  | none=>rfl
  | some o =>
   obtain⟨o',q'⟩:=I.base.there e o q (nx e);rw[new]at q';cases q'
structure jC (X:Cx)(E:XK):Prop where
 stk:X.stack=X.env::X.outer
 fr:X.env.frame=some X.env.locals
 ex:X.ex=[]
 xe:X.xe=λx s'=>Xy (Xo X.prog X.w) X.A (leaving X.env x) (λ_ s''=>CXE X.prog X.w X.outer X.H₀ X.s₀ E x s'') (λx' s''=>CXE X.prog X.w X.outer X.H₀ X.s₀ E x' s'') s'
def jM {P:Xd}{w:WV}{K:XY}{mg:Str->Option X9}{base:Heap}{N:AE}{qual:Str}{scope:Va}{f:Addr}{cd:X9}{A:WT}{outer:List Env}{s:X8}{H:Hp}{E:XK} :
  jC (zeX (CXE P w) P w K mg base N qual scope f cd A outer s H E) E:=⟨rfl,rfl,rfl,rfl⟩
def znT {l:List Env}:∀env∈l,∀a,env.frame=some a->a∈frs l:=λenv he a hf=>U5.mpr ⟨env,he,hf⟩
def jC.made {E:XK}(L:jC X E)(I:Inv X bQ σ H s){h1:Heap}{vs:List X9}(hx:Heap.MadeExcOf s.heap h1 e (.ref C) vs)(hE:E (.ref C) none H):X.xe (.ref e) { s with heap:=h1 }:=by
 rw[L.xe];have hs:=I.stack;have nb:∀a o,H a=some o->a ∉ frs X.stack:=λa o q z=>by
  rw[I.stkFree a z]at q;cases q
 have own:∀a b,H b=some (.own a)->b ∉ frs X.stack:=λa b q=>nb b _ q;have fresh:H e=none:=by
  cases q:H e with
  | none=>rfl
  | some o =>
   obtain⟨o',q'⟩:∃o',s.heap.get? e=some o':=by
    exact zjJ (I.hok e o q)
   rw[hx.new]at q';cases q'
 refine wpAny_leaves_madeW (base:=PySem.W.hideAll s.heap (frs X.stack)) (L:=X.env.locals) (by rw[I.ok.frames,L.stk]) L.fr (λb o q=>PySem.W.of_hideAll _ q) (PySem.W.funFrames_hide (by rw[<- L.stk];exact hs) (by rw[<- L.stk];exact znT)) hx λh' t x1 x2 x3 x4=>?_;refine⟨e,C,_,_,H,rfl,I.flies (s':={ s with heap:=h1 }) L.ex x1 x4 rfl I.bare (Un.kept hx.keeps) ?_ (λb o q _ hb=>Te _ q hb) (λb o q hb=>⟨o,Te _ q hb⟩) hx.new fresh,hE⟩;exact λa o q=>(I.hok a o q).stay (λb u hb r=>Te _ r (by
  rcases hb with hb | hb
  .rw[hb];exact nb a o q
  .exact own a b hb)) (λ_ r=>r) λ_ _ r=>r
def jC.passes {E:XK}(L:jC X E):Passes (CXE X.prog X.w) X E:=by
 intro bQ σ H s x s' I h;obtain⟨e,C,a0,B,H',rfl,F,hE⟩:=h;rw[L.xe];have ff:=F.fly;rw[L.stk]at ff;refine wpAny_leaves_onW (by rw[I.ok.frames,L.stk]) L.fr ff λh2 x1 x2=>?_;exact⟨e,C,a0,B,H',rfl,I.flies L.ex x1 x2 F.os F.bare F.un F.ok F.kB F.tB F.new F.free,hE⟩
def jC.own {E:XK}(L:jC X E):PassesOwn (Xo X.prog X.w) X.A X.env X.xe:=by
 rw[L.xe];exact PassesOwn.leaving
end
structure qv (K:XY)(mg:Str->Option X9)(x:Str)(C:Addr):Prop where
 g:mg x=some (.ref C)
 q:WA K C xP "ValueError.__new__"=true
structure zm1 (h:Heap)(C:Addr)(bm:List X9):Prop where
 ex:∃N nm qn bs hdct sn sub ab col dd k0 k1 k2 k3 k5 mN,h.get? C=some (excClassObj nm qn C N bs bm hdct sn sub ab col dd k0 k1 k2 k3 k5 "ValueError.__new__")/\h.Ns N mN/\mN "__init__"=none
 tl:OwnTail h xP bm
def zm2 {K:XY}{h:Heap}{C:Addr}(kin:K.In h)(hq:WA K C xP "ValueError.__new__"=true):∃bm,zm1 h C bm:=by
 unfold WA at hq;split at hq
 .rename_i dd cd sl look;split at hq
  .rename_i C' bm k0 k1 k2 k3 n k5 em es;simp only[WG,beq_iff_eq,Wu]at hq;obtain⟨⟨⟨⟨⟨rfl,rfl⟩,nodel⟩,tailok⟩,nsok⟩,noinit⟩:=hq;obtain⟨nm,bs,mro,ns,qn,hd,sn,sub,ab,col,del⟩:=cd;dsimp only at em nodel nsok noinit;subst em nodel;have esl:sl=#[k0,k1,k2,k3,some (.builtin "ValueError.__new__"),k5]:=by
    obtain⟨l⟩:=sl;simp only at es;rw[es]
   subst esl;exact⟨bm,⟨ns,nm,qn,bs,hd,sn,sub,ab,col,dd,k0,k1,k2,k3,k5,_,kin _ _ look,.of_isNs (PySem.W.isNs_of_in kin nsok),PySem.W.nsMap_none_of_in kin nsok noinit⟩,PySem.W.tail_of_in kin tailok⟩
  .cases hq
 .cases hq
section
variable {X:Cx}
def znU (E:XK)(C:Addr)(t:TA):TS:=λ_ σ H=>t σ H λvs H1=>vs.length<=Xz/\E (.ref C) none H1
def zjK {x:Str}{C:Addr}{np cpos pos:Pos}{e0:Expr}{rest:List Expr}{t:TA}{E:XK}(L:jC X E)(O:qv X.K X.mg x C)(hg:Gl X x)(hc:X.calm=true)(ha:PA X (e0::rest) t)
  (he:WR (e0::rest) X.env=(false,eval e0 X.env)::WR rest X.env:=by rfl) (hp:(Tx cpos (WR rest X.env)).any (·.1)=false:=by rfl) (hdb:(x==("__debug__":Str))=false:=by decide) :
  PS X (.Raise (some (.Call (.Name x np) (e0::rest) [] cpos)) none pos) (znU E C t):=by
 intro bQ s σ H D I h;obtain⟨bm,⟨N,nm,qn,bs,hdct,sn,sub,ab,col,dd,k0,k1,k2,k3,k5,mN,hC,hN,hni⟩,T⟩:=zm2 I.ok.mod.kin O.q;refine wpAny_Raise_call_subU (C:=C) (nm:=nm) (q:=qn) (N:=N) (bs:=bs) (bm:=bm) (hdct:=hdct) (sn:=sn) (sub:=sub) (ab:=ab) (col:=col) (dd:=dd) (k0:=k0) (k1:=k1) (k2:=k2) (k3:=k3) (k5:=k5)
  Rc (by decide) Rc (mN:=mN) (T.hasType PySem.F.excBase_ValueError.hasBase) (I.ok.hd hc) (by rw[he];show (false || (Tx cpos (WR rest X.env)).any (·.1))=false;rw[hp];rfl) hni (QB I hg O.g ⟨rfl,?_⟩ hdb)
 have a:=ha cpos bQ s σ H _ I h;rw[he]at a ⊢;refine RQ (thn a λus s2 ⟨vs,H1,I1,r,hz,q⟩=>?_);exact⟨rfl,by rw[<- r.length];exact hz,I1.bk _ _ hC,hN.keeps I1.bk,T.keeps I1.bk,λh' e hx=>L.made I1 hx q⟩
def markX (X:Cx)(e:Addr):Cx:={ X with A:=X.A.mark (some (.ref e)),calm:=false,xe:=λ_ _=>False }
variable {bQ:List (Addr×Obj)}{σ:St}{H:Hp}{s:X8}
def Cx.Ok.mark (ok:X.Ok)(e:Addr):(markX X e).Ok :=
 ⟨ok.mod,ok.kind,ok.glob,ok.blt,ok.above,ok.inj,ok.has,ok.cab,(λz=>nomatch z),ok.frames,ok.stk,ok.exf,ok.bs,ok.bsz,ok.noex,ok.exfs,ok.funs,ok.frf⟩
theorem Inv.mark (I:Inv X bQ σ H s)(e:Addr):Inv (markX X e) bQ σ H s:=⟨I.ok.mark e,I.os,I.bare,I.base,I.loc,I.cell,I.free,I.freeC,I.pin,I.hok,I.len⟩
def Inv.unmark {e:Addr}(I:Inv (markX X e) bQ σ H s)(ok:X.Ok):Inv X bQ σ H s:=⟨ok,I.os,I.bare,I.base,I.loc,I.cell,I.free,I.freeC,I.pin,I.hok,I.len⟩
def znV (e C:Addr)(h:Heap):Prop:=∃ob vs,h.get? e=some ob/\ob.cls=.ref C/\ob.data=.fields vs
def exO (e C:Addr):HO:=.ext (znV e C)
def Inv.nameGoes {M:OX}{A:WT}{E:X9->X8->Prop}{j:Nat}{n:Str}{pos:Pos}{Q:Unit->X8->Prop}(I:Inv X bQ σ H s)(hN:X.N.Nodup)(hj:X.N[j]?=some n)(hl:X.env.scope.names.lookup n=some .local)
  (h:∀s',Inv X bQ (σ.set j none) H s'->Q () s'):Xy M A (do bindName X.env n .none;unbindBehindTheSuite X.env n pos) Q E s:=by
 obtain⟨m,hn,hlk⟩:=id I.loc;refine wpAny_nameGoes_keeps hl hn (by rw[I.ok.kind];rfl) λh' v hn' sb=>h _ ?_;have other:∀b o,b≠X.env.locals->s.heap.get? b=some o->h'.get? b=some o:=λb o hb q=>(sb.2 b hb).trans q;obtain⟨oL,_,_,hoL,_⟩:=id hn;have low:∀b o,X.s₀.heap.get? b=some o->b≠X.env.locals:=λb o q=>I.notLoc q;refine⟨I.ok,I.os,I.bare,⟨λb o q n hb hx=>other b o (low b o q) (I.base.keep b o q n hb hx),λb o q n hb hx=>?_,I.base.free,λb o q hx=>?_,I.base.tups,I.base.frzs,I.base.tbls⟩,⟨_,hn',λi y v' e1 e2 e3=>?_⟩,λy c q=>?_,I.free,I.freeC,λp hp=>?_,λb ob q=>?_,by simpa using I.len⟩
 .obtain⟨sl,r⟩:=I.base.slot b o q n hb hx;exact⟨sl,other b _ (low b o q) r⟩
 .obtain⟨o',r⟩:=I.base.there b o q hx;exact⟨o',other b _ (low b o q) r⟩
 .by_cases hij:i=j
  .subst hij;have hiσ:i < σ.length:=by rw[I.len];exact(XW.mp hj).1
   rw[Sl hiσ]at e2;cases e2
  .rw[RR (Vm hij)]at e2;obtain⟨u',r',z⟩:=hlk i y v' e1 e2 e3;refine⟨u',r',?_⟩;rcases z with ⟨k,q⟩ | ⟨k,c,q,z⟩
   .refine .inl ⟨k,?_⟩;have ny:y≠n:=λq=>hij (zbK hN e1 (q ▸ hj));simp[ny,q]
   .exact .inr ⟨k,c,q,z.sameBut sb (I.cne y c q)⟩
 .obtain⟨w',z⟩:=I.cell y c q;exact⟨w',z.sameBut sb (I.cne y c q)⟩
 .obtain⟨q,n',ne,nf,d⟩:=I.pin p hp;exact⟨other p.1 _ ne q,n',ne,nf,d⟩
 .refine(I.hok b ob q).stay (λc w' hc r=>other c w' ?_ r) (λ_ r=>r) λ_ _ r=>r;rintro rfl;rcases hc with rfl | hc
  .rw[I.free]at q;cases q
  .rw[I.free]at hc;cases hc
def Fly.caught {H1 H':Hp}{s1 s':X8}{e C:Addr}{a0:X9}{B h:Heap}(I:Inv X bQ σ H1 s1)(F:Fly X.prog X.w X.stack H1 s1 e C a0 B H' s')(fl:NI B X.stack e (.ref C) a0 h)(up:s'.heap.UpToSlots h) :
  Inv X bQ σ (upd H' e (exO e C)) { s' with heap:=h }:=by
 have ne:∀b o,s1.heap.get? b=some o->b≠e:=λb o q z=>by
  rw[z,F.new]at q;cases q
 have nt:∀b u,H' b=some u->b≠e:=λb u q=>zh q F.free;have slot:∀b o,s1.heap.get? b=some o->H1 b=none->b∈frs X.stack->∃sl,h.get? b=some { o with slots:=sl }:=λb o q n hb=>by
  obtain⟨_,o1,q1,nf⟩:=I.stack.mem hb;rw[q]at q1;cases q1;obtain⟨sl,q2⟩:=F.un.slot b o q n hb (λz=>nomatch z);obtain⟨sl2,q3⟩:=up b _ q2 nf;exact⟨sl2,q3⟩
 refine I.call' (ch:=[]) F.os ⟨λb o q n hb _=>fl.1 b o (F.kB b o q n hb),λb o q n hb _=>slot b o q n hb,λb o q n _=>?_,λb o q _=>?_,λb xs q=>?_,λb o u q=>?_,λb ps q=>?_⟩ (λb ob q=>?_) F.bare λb z=>nomatch z
 .rw[zk (ne b o q)];exact F.un.free b o q n λz=>nomatch z
 .by_cases hb:b∈frs X.stack
  .obtain⟨sl,r⟩:=slot b o q (I.stkFree b hb) hb;exact⟨_,r⟩
  .obtain⟨o',r⟩:=F.tB b o q hb;exact⟨o',fl.1 b o' r⟩
 .have r:=F.un.tups b xs q;rw[zk (nt b _ r)];exact r
 .have r:=F.un.frzs b o u q;rw[zk (nt b _ r)];exact r
 .obtain⟨m,r⟩:=F.un.tbls b ps q;exact⟨m,by rw[zk (nt b _ r)];exact r⟩
 .by_cases hb:b=e
  .subst hb;rw[zd]at q;cases q;obtain⟨oe,vs,q1,q2,q3,_⟩:=fl.first;exact⟨⟨oe,vs,q1,q2,q3⟩,⟨oe,q1⟩,λg1 g2 ⟨o1,v1,r1,r2,r3⟩ k=>⟨o1,v1,k _ r1,r2,r3⟩⟩
  .rw[zk hb]at q;refine(F.ok b ob q).stay (λc u _ r=>fl.1 c u r) (λc r=>?_) λc xs r=>?_
   .rw[zk (nt c _ r)];exact r
   .rw[zk (nt c _ r)];exact r
def zlT {M:OX}{A:WT}{E:X9->X8->Prop}{s:X8}{S e C:Addr}{bm:List X9}{oe:Obj}{Q:Bool->X8->Prop}(O:zm1 s.heap S bm)(he:s.heap.get? e=some oe)(hcls:oe.cls=.ref C)
  (hL:PySem.W.Looks M s.heap (isSubtype (.ref C) (.ref S)) true) (hq:Q true s):Xy M A (excMatches (.ref e) (.ref S)) Q E s:=by
 obtain⟨⟨N,nm,qn,bs,hdct,sn,sub,ab,col,dd,k0,k1,k2,k3,k5,mN,hS,hN,hni⟩,T⟩:=O;have hb:=T.hasType PySem.F.excBase_ValueError.hasBase;obtain⟨h,g,d,t,os⟩:=s;have hcB:(WN S::bm).contains (.type "BaseException")=true:=by rw[List.contains_cons,hb,Bool.or_true]
 have f:=tc_notTuple;unfold excMatches;repeat (first | (with_reducible refine VH he ?_;rw[hcls]) | with_reducible refine VH hS ?_ | (with_reducible refine wpAny_isSubtype_exc hS ?_;rw[hcB]) | wp_step)
 refine hL A _ E _ (λ_ _ q=>q) ?_;rw[bw rfl];exact X4 (X4 (X4 hq))
end
def Fun.okX {P:Xd}{w:WV}{K:XY}{mg:Str->Option X9}{base:Heap}{x qual:Str}{st:Stmt}{f:Addr}{fd:Xc}{N ps:AE}{k:Nat}{sp:Sp}(F:Fun K x qual st f fd)(S:zH N ps (zj st))(len:∀vs H Q E,sp vs H Q E->vs.length=ps.length)
  (hbody:∀(cdv:X9) (A:WT) (outer:List Env) (s:X8) (H:Hp) (vs:AF) (Q:VK) (E:XK),JG k (A.deeper (Ph qual (zj st) s.heap.objs.size f cdv))->sp vs H Q E ->
   ∃t,PSs (zeX (CXE P w) P w K mg base N qual (zj st) f cdv A outer s H E) (yP st) t/\t { nx:=λ_ H'=>Q .non H',rt:=Q } (start N vs) H):ql P w K mg base (CXE P w) (k+1) f fd ps sp:=by
 obtain⟨oc,od,kV,doc,pm,an,cdv,ct,osl,rfl,lk,hcd⟩:=F.ex;exact zm0 lk hcd S len λA outer s H vs Q E hr hsp=>hbody cdv A outer s H vs Q E hr hsp
structure Yh (K:XY)(C:Addr):Prop where
 ga:Vv K (.ref C) "__getattribute__"=some (some (.builtin "BaseException.__getattribute__"))
 gh:Vv K (.ref C) "__getattr__"=some none
 cl:Vv K (.ref C) "__class__"=some (some (.builtin "object.__class__"))
 mb:Vl K C (.type "BaseException")=some true
 mo:Vl K C (.type "object")=some true
 ci:S2 K C=true
section
variable {prog:Xd}{w:WV}{A:WT}{E:X9->X8->Prop}{K:XY}{e C:Addr}
def zcZ {R:R7->X8->Prop}{h:Heap}{g:Array UC}{d:Nt}{t:Nat}{os:NL}(F:Yh K C)(kin:K.In h){o:Obj}(hx:h.get? e=some o)(hc:o.cls=.ref C)(hq:R (.ok (.ret (.ref C))) ⟨h,g,d,t,os⟩) :
  UX (Xo prog w) A (.call (.builtin "getset_descriptor.__get__") ⟨[.builtin "object.__class__",.ref e,.ref C],[]⟩) R ⟨h,g,d,t,os⟩:=by
 have hT5:(⟨h,g,d,t,os⟩:X8).TypeIs (.builtin "object.__class__") "getset_descriptor":=Tz;have lo:=RF (M:=Xo prog w) kin F.mo;rw[<- PySem.F.owner_object_class]at lo;refine U0 PySem.F.slot_gs_get.plain PySem.F.entry_gs_get (PySem.F.slot_gs_get.check _ _ _ _ _ _ _ _ hT5 (PySem.F.args_gs_get _ _ _) ?_);repeat (any_goals (first | assumption | (with_reducible refine VH hx ?_;rw[hc]) | wp_step))
 refine lo _ _ _ _ (λ_ _ z=>z) ?_;repeat (any_goals (first | assumption | wp_step))
 refine⟨Rl _ (by decide+kernel),Wd PySem.F.entry_object_class ?_⟩;repeat (any_goals (first | assumption | (with_reducible refine VH hx ?_;rw[hc]) | wp_step))
def zbm {tk:Tok}{Q:Fin->X8->Prop}{h:Heap}{g:Array UC}{d:Nt}{t:Nat}{os:NL}(F:Yh K C)(kin:K.In h){o:Obj}(hx:h.get? e=some o)(hc:o.cls=.ref C)(hq:Q (.done (.ret (.ref C))) ⟨h,g,d,t,os⟩) :
  Xy (Xo prog w) A (UW.«object.__getattribute__» ⟨[.ref e,.str "__class__" tk],[]⟩) Q E ⟨h,g,d,t,os⟩:=by
 have hT5:(⟨h,g,d,t,os⟩:X8).TypeIs (.builtin "object.__class__") "getset_descriptor":=Tz;have f5:=Tz;have f6:=PySem.F.slot_gs_get.lookup;have f7:=PySem.F.slot_gs_set.lookup;have lc:=RO (M:=Xo prog w) kin F.cl;repeat (any_goals (first | assumption | (with_reducible refine VH hx ?_;rw[hc]) | wp_step))
 refine lc _ _ _ _ (λ_ _ z=>z) ?_;repeat (any_goals (first | assumption | (with_reducible refine VH hx ?_;rw[hc]) | wp_step))
 refine zcZ F kin hx hc ?_;repeat (any_goals (first | assumption | wp_step))
def zeg {M:OX}{nameV:X9}{Q:Unit->X8->Prop}{h:Heap}{g:Array UC}{d:Nt}{t:Nat}{os:NL}(F:Yh K C)(kin:K.In h){o:Obj}(hx:h.get? e=some o)(hc:o.cls=.ref C)(hq:Q () ⟨h,g,d,t,os⟩) :
  Xy M A (R4 "BaseException.__getattribute__" ⟨[.ref e,nameV],[]⟩) Q E ⟨h,g,d,t,os⟩:=by
 have kd:builtinKind "BaseException.__getattribute__"=some .slot:=by decide+kernel
 have sp:splitId "BaseException.__getattribute__"=some ("BaseException","__getattribute__"):=by decide+kernel
 have ha:=PySem.F.args_bexc_ga (.ref e) nameV;have lb:=RF (M:=M) kin F.mb;simp only[R4,kd,sp];refine ZB ?_;unfold isInstance;repeat (first | (with_reducible refine VH hx ?_;rw[hc]) | wp_step)
 refine lb _ _ _ _ (λ_ _ z=>z) ?_;repeat (any_goals (first | assumption | wp_step))
def zbZ {tk:Tok}{R:R7->X8->Prop}{h:Heap}{g:Array UC}{d:Nt}{t:Nat}{os:NL}(F:Yh K C)(kin:K.In h){o:Obj}(hx:h.get? e=some o)(hc:o.cls=.ref C)(hq:R (.ok (.ret (.ref C))) ⟨h,g,d,t,os⟩) :
  UX (Xo prog w) A (.call (.builtin "BaseException.__getattribute__") ⟨[.ref e,.str "__class__" tk],[]⟩) R ⟨h,g,d,t,os⟩ :=
 U0 PySem.F.attr_ValueError.ga.plain PySem.F.entry_bexc_ga (zeg F kin hx hc (zbm F kin hx hc hq))
def zb0 {Q:Option X9->X8->Prop}{h:Heap}{g:Array UC}{d:Nt}{t:Nat}{os:NL}(F:Yh K C)(kin:K.In h){o:Obj}(hx:h.get? e=some o)(hc:o.cls=.ref C)(hq:Q (some (.ref C)) ⟨h,g,d,t+1,os⟩) :
  Xy (Xo prog w) A (No (.ref e) "__class__") Q E ⟨h,g,d,t,os⟩:=by
 have f3:=PySem.F.attr_ValueError.ga.bind (.ref e);have hx2:(PQ "BaseException.__getattribute__" == PQ "object.__getattribute__")=false:=by decide+kernel
 have hx1:(onTheHeap (WN C)&&PQ "BaseException.__getattribute__" == PQ "object.__getattribute__")=false:=by rw[hx2];rfl
 have l1:=RO (M:=Xo prog w) kin F.ga;have l2:=RO (M:=Xo prog w) kin F.gh;unfold No getAttrBy? getAttrBy;repeat (any_goals (first | assumption | (with_reducible refine VH hx ?_;rw[hc]) | wp_step))
 refine l1 _ _ _ _ (λ_ _ z=>z) ?_;repeat (any_goals (first | assumption | (with_reducible refine VH hx ?_;rw[hc]) | wp_step))
 refine l2 _ _ _ _ (λ_ _ z=>z) ?_;repeat (any_goals (first | assumption | (with_reducible refine VH hx ?_;rw[hc]) | wp_step))
 refine zbZ F kin hx hc ?_;repeat (any_goals (first | assumption | wp_step))
def zjL (F:Yh K C):PySem.W.KitX K (.ref e) (.ref C) (znV e C) where
 ty:=λM h _ p=>by
  obtain⟨ob,vs,q1,q2,_⟩:=p;exact q2 ▸ (PySem.W.Looks.ld q1).andThen .now
 it:=λM h kin _=>by
  have ci:=F.ci;unfold S2 PySem.W.clsIn at ci;split at ci
  .rename_i c1 d1 cd1 sl1 lk;intro A1 Q1 E1 s1 k q;unfold isType loadHead;exact ZB (wpAny_loadPart (k _ _ (kin _ _ lk)) (X4 q))
  .cases ci
 ne:=λh tp dd its n sl kin htp=>by
  refine WX.mpr λq=>?_;have ec:C=tp:=Value.ref.inj (beq_iff_eq.mp q);subst ec;have ci:=F.ci;unfold S2 PySem.W.clsIn at ci;split at ci
  .rename_i c1 d1 cd1 sl1 lk;have z:=(kin _ _ lk).symm.trans htp;cases z
  .cases ci
 ca:=λ{prog w A E Q s} kin p k=>by
  obtain⟨ob,vs,q1,q2,_⟩:=p;obtain⟨h,g,d,t,os⟩:=s;exact zb0 F kin q1 q2 k
def zjM:V->X9
 | .ref D=>.ref D
 | .ty n=>.type n
 | _=>.none
def qy {X:Cx}(hK:X.K=K):jw X (.builtin "isinstance") (λxs H Q=>∃e C c b,xs=[.ref e,c]/\H e=some (exO e C)/\Yh K C/\((∃D,c=.ref D)\/∃n,c=.ty n)/\Xb K (.ref C) (zjM c)=some b/\Q (.bl b) H):=by
 intro bQ s σ H xs us Q I r h;obtain⟨e,C,c,b,rfl,he,F,hc,hk,q⟩:=h;obtain⟨u,u2,rfl,rx,ru⟩:=vals2 r;cases rx;have p:znV e C s.heap:=(I.hok e _ he).1;have kin:=I.kIn;rw[hK]at kin;have e2:u2=zjM c:=by
  rcases hc with ⟨D,rfl⟩ | ⟨n,rfl⟩
  .cases ru;rfl
  .cases ru;rfl
 subst e2;exact VP (zjL F) kin p hk (λz=>nomatch z) λtk=>⟨.bl b,H,I.tok tk,rfl,q⟩
end
theorem ze8 {α:Type}(a:Array α):∀(n:Nat) (acc:Array α),(WP n a).foldl (·++·) acc=acc++((WP n a.toList).flatten).toArray
 | 0,acc=>by simp
 | n+1,acc=>by
  rw[Vz,VO,ze8 a n,Vz,WH,Rn];congr 1;simp
def zpj:R2:=λx y H Q=>∃z k,x=.str z/\y=.int k/\1<=k/\k<=1000/\z.length<=1000/\∀z':Str,z'.length=z.length*k.toNat->(∀c∈z'.cps.toList,c∈z.cps.toList)->Q (.str z') H
section
variable {X:Cx}
def zb1:OpR X (Ua .Mult) zpj:=by
 intro bQ s σ H x y v u Q I rx ry h;obtain⟨z,k,rfl,rfl,k1,k2,hz,q⟩:=h;obtain⟨t,rfl⟩:=rx;obtain⟨t',rfl⟩:=ry;have hprod:z.length*k.toNat<=1000000:=by
  have:=Ts hz (show k.toNat<=1000 by lia);lia
 refine PySem.P.mul_str ?_ (λ_ _=>?_) (λ_ _=>?_) ?_
 .rw[bf (show ¬ k < -(2^63:Int) by lia),bf (show ¬ k >= 2^63 by lia)];rfl
 .have hp:(z.length:Int)*k<=1000000:=by
   have e:((z.length*k.toNat:Nat):Int)=(z.length:Int)*k:=by
    rw[SZ,V1 (by lia)]
   lia
  have:=Int.le_ediv_of_mul_le (a:=(z.length:Int)) (b:=2^63-1) (c:=k) (by lia) (by lia);lia
 .exact bf (Rv.mpr (X0 hprod (by decide)))
 .rw[bq (show ¬ k<1 by lia)];by_cases c:(k==1 || z.length==0)=true
  .rw[bw c];refine⟨.str z,H,I,⟨_,rfl⟩,q z ?_ λ_ h=>h⟩;rw[Bool.or_eq_true,beq_iff_eq,beq_iff_eq]at c;rcases c with c | c
   .rw[c];simp
   .rw[c];simp
  .rw[bq c];have e:(⟨(WP k.toNat z.cps).foldl (·++·) #[]⟩:Str)=⟨((WP k.toNat z.cps.toList).flatten).toArray⟩:=by
    rw[ze8];simp
   have hl:(⟨((WP k.toNat z.cps.toList).flatten).toArray⟩:Str).length=z.length*k.toNat:=by
    show ((WP k.toNat z.cps.toList).flatten).toArray.size=_;rw[Xs,len_rep,X7,Tn];rfl
   rw[e];refine⟨by rw[hl];exact X0 hprod (by decide),⟨.str _,H,I.tok _,⟨_,rfl⟩,q _ hl λd hd=>?_⟩⟩;have hd':d∈(WP k.toNat z.cps.toList).flatten:=by simpa using hd
   obtain⟨l,hl1,hl2⟩:=Wy.mp hd';rw[List.eq_of_mem_replicate hl1]at hl2;exact hl2
end
section
variable {X:Cx}{tg iter elt:Expr}{ifs:List Expr}{scope:Va}{pos:Pos}{N:AE}{src:List (Option Nat)}{cl:List (Str×Addr)}{wi:TI}{g:TG}{tc:TT}{te:TE}
def zpk {bQ:List (Addr×Obj)}{σ:St}{D:Ends}{i:Nat}{x:Str}{xpos:Pos}(hN:X.N.Nodup)(hix:X.N[i]?=some x)(hlx:X.env.scope.names.lookup x=some .local):zlP X N scope bQ σ (some (OE (.Name x xpos) X.env)) (λ_ s''=>∃ σ' H',Inv X bQ σ' H' s''/\D.nx σ' H') λv H'=>yr i v σ H' D.nx:=by
 intro cl fp s2 H2 C H3 s4 f fn xe σ3 hC I2 f2 I4 qn;obtain⟨m,hm,_⟩:=I4.loc;have ltC:s2.heap.objs.size<C:=by rw[hC];exact Ti _
 have IX:Inv X bQ σ H3 s4:=I2.call' (s':=s4) (ch:=fp) I4.os I4.base I4.hok I4.bare λb hb=>⟨(f2 b hb).2.2.2.1,(f2 b hb).2.1,(f2 b hb).2.2.2.2.1,(f2 b hb).2.2.2.2.2⟩;have ne:∀b o,s2.heap.get? b=some o->b≠C:=λb o e=>Xk (Tl (XJ e) ltC);have cellLt:∀y c,X.env.cells.lookup y=some c->c≠C:=λy c e=>by
  obtain⟨_,o,e1,_⟩:=I2.cell y c e;exact ne c o e1
 have locNe:X.env.locals≠C:=Xk (Tl I2.lt ltC);refine P6 (zaw IX hN hix (.inl hlx) (v:=.ref s2.heap.objs.size) rfl (λs5 I5 ⟨a5,sb5,ha5⟩=>?_) (.inr hlx));have na:a5≠C:=ha5.elim (λz=>by rw[z];exact locNe) (cellLt _ _);exact⟨m,hm.sameBut sb5 (Vm na),λh' sb=>⟨_,H3,I5.turned (t':=s5.toks) (it:=C) (λb o hb e=>(sb.2 b hb).trans e) I4.free (Vm locNe) (.inr (X0 I2.sz (UJ ltC))) cellLt λp hp=>ne _ _ (I2.pin p hp).1,qn⟩⟩
def zjN {bQ:List (Addr×Obj)}{s:X8}{x:Str}{xpos spos:Pos}{D:Ends}(hsw:Py (.ListComp elt [⟨tg,iter,ifs,0⟩] scope pos) (some (.Name x xpos)) spos.line X.env=pure true)
  (h:Xy (Xo X.prog X.w) X.A (TN (.ListComp elt [⟨tg,iter,ifs,0⟩] scope pos) scope X.env (firstIterPos [⟨tg,iter,ifs,0⟩] pos) (newList []) false (eval iter X.env) (some (OE (.Name x xpos) X.env))) (λ_ s''=>∃ σ' H',Inv X bQ σ' H' s''/\D.nx σ' H') X.xe s):Xy (Xo X.prog X.w) X.A (exec (.Assign [.Name x xpos] (.ListComp elt [⟨tg,iter,ifs,0⟩] scope pos) spos) X.env) (SP X bQ D) X.xe s:=by
 rw[OM _ _ _ _ hsw];refine ZB (UH (ZB ?_));unfold evalThenUse;exact ZB (WE h (λ_ s'' ⟨σ',H',I',q'⟩=>X4 (X4 ⟨σ',H',I',q'⟩)) λ_ _ z=>z)
def ZM {i:Nat}{x:Str}{xpos spos:Pos}(hN:X.N.Nodup)(hix:X.N[i]?=some x)(hlx:X.env.scope.names.lookup x=some .local)(ok:zZ X N src scope cl)(hcalm:X.calm=true)(hi:PI X tg iter wi)
  (hg:∀C fp bQ s H,PG (jX X N scope cl C fp bQ s H) tg g) (hc:∀C fp bQ s H,zbR (jX X N scope cl C fp bQ s H) ifs tc) (he:∀C fp bQ s H,PE (jX X N scope cl C fp bQ s H) elt te)
  (hs:∀x,VI iter X.env x=pure x:=by intro _;rfl) (hsw:Py (.ListComp elt [⟨tg,iter,ifs,0⟩] scope pos) (some (.Name x xpos)) spos.line X.env=pure true:=by rfl) :
  PS X (.Assign [.Name x xpos] (.ListComp elt [⟨tg,iter,ifs,0⟩] scope pos) spos) (zlG (zbS wi src g tc te) (yr i)):=λ_ _ _ _ _ I h=>zjN hsw (ze3 ok hcalm hi hg hc he hs I h (zpk hN hix hlx))
end
def zZ.byRfl {X:Cx}{N:AE}{src:List (Option Nat)}{scope:Va}(kind:scope.kind=.function)(nocell:∀y∈scope.names,y.2 ≠ .cell)(names:∀y∈scope.names,y.2=.local->scope.names.lookup y.1=some .local)
  (hs:(scope.names.all λy=>y.2 != .free || (X.env.cells.lookup y.1).isSome)=true) (len:src.length=N.length)
  (pc:((N.zip src).all λq=>match q.2 with | none=>true | some j=>X.N[j]?==some q.1&&X.env.kindOf q.1==some .cell&&(Vs scope X.env).names.lookup q.1==some .cell)=true):zZ X N src scope (zaD (λx=>X.env.cells.lookup x) scope.names []):=by
 have hs':∀y∈scope.names,y.2=.free->(X.env.cells.lookup y.1).isSome=true:=λy hy e=>by
  have z:=Wx.mp hs y hy;rw[e]at z;simpa using z
 refine⟨kind,nocell,names,xM hs',λx c h=>?_,λx h=>?_,len,λi j x h1 h2=>?_⟩
 .rcases J9 _ _ _ (WJ h) with z | z
  .cases z
  .exact z
 .refine Vt.mp (zbW _ _ (.inr ?_));have hm:(x,UG)∈scope.names\/(x,NameKind.free)∈scope.names:=by
   rcases h with h | h
   .exact yd (WJ h) (.inl rfl)
   .exact yd (WJ h) (.inr rfl)
  rcases hm with hm | hm
  .exact absurd rfl (nocell _ hm)
  .exact⟨hm,hs' _ hm rfl⟩
 .have hm:(x,some j)∈N.zip src:=XZ (i:=i) (by rw[Tg];exact⟨h1,h2⟩);have z:=Wx.mp pc _ hm;simp only[WG,beq_iff_eq]at z;exact⟨z.1.1,.inl z.1.2,.inl z.2⟩
structure JN (X:Cx)(N:AE)(src:List (Option Nat))(scope:Va)(cl:List (Str×Addr))(y:Str):Prop where
 kind:scope.kind=.function
 one:∀n acc,Ry n scope.names acc=(y,n)::acc
 push:∀h,pushCells h scope.names=h.push { cls:=.type "cell",data:=.cell none }
 names:∀y∈scope.names,y.2=.local->scope.names.lookup y.1=some .local
 clos:Rx scope X.env=pure cl
 sub:∀x c,cl.lookup x=some c->X.env.cells.lookup x=some c
 has:∀x,((Vs scope X.env).names.lookup x=some .cell\/(Vs scope X.env).names.lookup x=some .free)->x=y\/∃c,cl.lookup x=some c
 len:src.length=N.length
 pulls:∀(i j:Nat) (x:Str),N[i]?=some x->src[i]?=some (some j)->X.N[j]?=some x/\(X.env.kindOf x=some .cell\/X.env.kindOf x=some .free)/\((Vs scope X.env).names.lookup x=some .cell\/(Vs scope X.env).names.lookup x=some .free)
 pny:∀(i j:Nat) (x:Str),N[i]?=some x->src[i]?=some (some j)->x≠y
def JN.has1 {X:Cx}{N:AE}{src:List (Option Nat)}{scope:Va}{cl:List (Str×Addr)}{y:Str}{C:Addr}(ok:JN X N src scope cl y)(x:Str)(h:(Vs scope X.env).names.lookup x=some .cell\/(Vs scope X.env).names.lookup x=some .free):∃c,RU x ((y,C)::cl)=some c:=by
 rw[U6];cases q:x==y with
 | true=>exact⟨_,rfl⟩
 | false =>
  rcases ok.has x h with z | z
  .rw[z]at q;simp at q
  .exact z
def JN.byRfl {X:Cx}{N:AE}{src:List (Option Nat)}{scope:Va}{y:Str}(kind:scope.kind=.function)(one:∀n acc,Ry n scope.names acc=(y,n)::acc)(push:∀h,pushCells h scope.names=h.push { cls:=.type "cell",data:=.cell none })
  (only:∀z∈scope.names,z.2=.cell->z.1=y) (names:∀y∈scope.names,y.2=.local->scope.names.lookup y.1=some .local)
  (hs:(scope.names.all λy=>y.2 != .free || (X.env.cells.lookup y.1).isSome)=true) (len:src.length=N.length)
  (pc:((N.zip src).all λq=>match q.2 with | none=>true | some j=>X.N[j]?==some q.1&&X.env.kindOf q.1==some .cell&&(Vs scope X.env).names.lookup q.1==some .cell&&q.1 != y)=true):JN X N src scope (zaD (λx=>X.env.cells.lookup x) scope.names []) y:=by
 have hs':∀y∈scope.names,y.2=.free->(X.env.cells.lookup y.1).isSome=true:=λy hy e=>by
  have z:=Wx.mp hs y hy;rw[e]at z;simpa using z
 have pk:∀(i j:Nat) (x:Str),N[i]?=some x->src[i]?=some (some j)->(X.N[j]?=some x/\X.env.kindOf x=some .cell/\(Vs scope X.env).names.lookup x=some .cell)/\x≠y:=λi j x h1 h2=>by
  have hm:(x,some j)∈N.zip src:=XZ (i:=i) (by rw[Tg];exact⟨h1,h2⟩);have z:=Wx.mp pc _ hm;simp only[WG,beq_iff_eq,bne_iff_ne]at z;exact⟨⟨z.1.1.1,z.1.1.2,z.1.2⟩,z.2⟩
 refine⟨kind,one,push,names,xM hs',λx c h=>?_,λx h=>?_,len,λi j x h1 h2=>⟨(pk i j x h1 h2).1.1,.inl (pk i j x h1 h2).1.2.1,.inl (pk i j x h1 h2).1.2.2⟩,λi j x h1 h2=>(pk i j x h1 h2).2⟩
 .rcases J9 _ _ _ (WJ h) with z | z
  .cases z
  .exact z
 .have hm:(x,UG)∈scope.names\/(x,NameKind.free)∈scope.names:=by
   rcases h with h | h
   .exact yd (WJ h) (.inl rfl)
   .exact yd (WJ h) (.inr rfl)
  rcases hm with hm | hm
  .exact .inl (only _ hm rfl)
  .exact .inr (Vt.mp (zbW _ _ (.inr ⟨hm,hs' _ hm rfl⟩)))
def JO (X:Cx)(N:AE)(scope:Va)(cl:List (Str×Addr))(y:Str)(C:Addr)(fp:List Addr)(bQ:List (Addr×Obj))(s:X8)(H:Hp):Cx :=
 { jX X N scope ((y,C+1)::cl) C fp bQ s H with fn:=λx=>decide (x=y) }
def zlU {M:OX}{A:WT}{E:X9->X8->Prop}{s:X8}{scope:Va}{globals:Addr}{cl:List (Str×Addr)}{qual:Str}{env:Env}{y:Str}{Q:Env->X8->Prop}(one:∀n acc,Ry n scope.names acc=(y,n)::acc)(push:∀h,pushCells h scope.names=h.push { cls:=.type "cell",data:=.cell none })
  (hQ:Q (newEnv scope s.heap.objs.size globals ((y,s.heap.objs.size+1)::cl) qual none .none (some env) NR) { s with heap:=(s.heap.push { cls:=.type "dict",data:=.dict #[] }).push { cls:=.type "cell",data:=.cell none } }) :
  Xy M A (Ru scope globals cl [] qual none .none (some env)) Q E s:=by
 simp only[Ru,Option.isSome_some,if_true];refine ZB (wpAny_alloc ?_);refine ZB (wpAny_layCells _ (λname kind cells=>by cases hkc:kind==UG<;>simp[hkc]) _ _ _ _ ?_);rw[push,one,show ({ s with heap:=s.heap.push { cls:=.type "dict",data:=.dict #[] } }:X8).heap.objs.size=s.heap.objs.size+1 from Vu ..];exact ZB (X4 (X4 hQ))
section
variable {X:Cx}{tg iter elt:Expr}{ifs:List Expr}{scope:Va}{pos:Pos}{N:AE}{src:List (Option Nat)}{cl:List (Str×Addr)}{wi:TI}{g:TG}{tc:TT}{te:TE}{y:Str}
def ze9 {bQ:List (Addr×Obj)}{σ:St}{H:Hp}{s:X8}{fp:List Addr}{h1:Heap}{C:Addr}{tk:Nat}(ok:JN X N src scope cl y)(I:Inv X bQ σ H s)(hf:∀b∈fp,YX X bQ H b)(ho:∀b∈fp,∃o,s.heap.get? b=some o)
  (hC:C=s.heap.objs.size+1) (k:∀b u,s.heap.get? b=some u->h1.get? b=some u) (hD:h1.get? s.heap.objs.size=some { cls:=.type "list",data:=.seq #[] }) {m:Str->Option X9} (hn:h1.Ns C m) (hcc:h1.IsCell (C+1) none) :
  Inv (JO X N scope cl y C fp bQ s H) [] (pull src σ) (upd H s.heap.objs.size (.lst [])) { s with heap:=h1,toks:=tk }:=by
 have lt:∀b o,s.heap.get? b=some o->b<s.heap.objs.size:=λb o e=>XJ e;have nC:∀b o,s.heap.get? b=some o->b≠C:=λb o e=>by rw[hC];exact Xk (Wv (lt b o e))
 have nD:∀b o,s.heap.get? b=some o->b≠s.heap.objs.size:=λb o e=>Xk (lt b o e);have fr:∀b,s.heap.objs.size<=b->H b=none:=λb hb=>I.hok.fresh hb;have nst:∀b,b≠X.env.locals->b ∉ X.fs->b ∉ frs X.stack:=λb h1 h2 z=>(XQ.mp (I.stkSub b z)).elim h1 h2;have nC1:∀b o,s.heap.get? b=some o->b≠C+1:=λb o e=>by rw[hC];exact Xk (Wv (Wv (lt b o e)))
 have own:∀x c,RU x ((y,C+1)::cl)=some c->(x=y/\c=C+1)\/(x≠y/\X.env.cells.lookup x=some c):=λx c e=>by
  rw[U6]at e;cases q:x==y with
  | true =>
   rw[q]at e;exact .inl ⟨by simpa using q,(Option.some.inj e).symm⟩
  | false =>
   rw[q]at e;exact .inr ⟨by simpa using q,ok.sub x c e⟩
 have oldc:∀x c,X.env.cells.lookup x=some c->c≠C+1:=λx c e=>by
  obtain⟨_,o,e1,_⟩:=I.cell x c e;exact nC1 c o e1
 refine⟨⟨I.ok.mod,ok.kind,I.ok.glob,I.ok.blt,by rw[show (JO X N scope cl y C fp bQ s H).env.locals=C from rfl,hC];exact V9 _,?inj,ok.has1,?cab,I.ok.hd,I.ok.frames,.inl rfl,λb hb=>?_,I.bs,X0 I.ok.bsz I.sz,λb o e hb=>?_,λb hb hz=>?_,I.stack,I.stkFree⟩,
  rfl,I.bare,Un.laid k (XU _) (fr _ (XU _)),⟨m,hn,λi x v e1 e2 e3=>?_⟩,λx c e=>?_,?_,λx c e=>?_,λp hp=>?_,I.hok.laid k (XU _) ⟨W7 _,[],0,.nil,hD⟩,?_⟩
 case inj =>
  intro x x' c e1 e2
  rcases own x c e1 with ⟨a1,a2⟩ | ⟨a1,a2⟩
  .rcases own x' c e2 with ⟨b1,b2⟩ | ⟨b1,b2⟩
   .rw[a1,b1]
   .exact absurd a2 (oldc x' c b2)
  .rcases own x' c e2 with ⟨b1,b2⟩ | ⟨b1,b2⟩
   .exact absurd b2 (oldc x c a2)
   .exact I.ok.inj x x' c a2 b2
 case cab =>
  intro x c z e
  have zy:x=y:=bh z
  rcases own x c e with ⟨_,a2⟩ | ⟨a1,_⟩
  .rw[a2,hC];exact TH (V9 _)
  .exact absurd zy a1
 .obtain⟨o,e⟩:=ho b hb;refine⟨nC b o e,λx c z=>?_⟩;rcases own x c z with ⟨_,a2⟩ | ⟨_,a2⟩
  .rw[a2];exact Vm (nC1 b o e)
  .exact(hf b hb).2.2.2.2.1 x c a2
 .rcases(hf b hb).2.2.2.1 with z | z
  .exact I.ok.noex b o e z
  .exact absurd (Xu (XJ (I.ok.bs b o e).1) z) (V8 _)
 .exact nst b (hf b hb).2.1 (hf b hb).2.2.1 hz
 .have hi:i<src.length:=by
   have:=(XW.mp e2).1;unfold pull at this;rw[Y1]at this;exact this
  unfold pull at e2;rw[Xn,X5 hi]at e2;cases q:src[i] with
  | none=>rw[q]at e2;cases e2
  | some j =>
   rw[q]at e2;have e2':(σ[j]?).getD none=some v:=Option.some.inj e2;have e4:σ[j]?=some (some v):=by
    cases z:σ[j]? with
    | none=>rw[z]at e2';cases e2'
    | some o=>rw[z]at e2';exact congrArg some e2'
   obtain⟨p1,p2,p3⟩:=ok.pulls i j x e1 (by rw[X5 hi,q]);obtain⟨m',hn',hl⟩:=I.loc;obtain⟨u,r,l⟩:=hl j x v p1 e4 (by
    rcases p2 with z | z
    .exact .inr (.inl z)
    .exact .inr (.inr z))
   refine⟨u,r,.inr ⟨p3,?_⟩⟩;obtain⟨c,hc⟩:=ok.has1 x p3;refine⟨c,hc,?_⟩;rcases l with ⟨z,_⟩ | ⟨_,c',hc',o,ho',hd'⟩
   .rcases p2 with y | y<;>rw[z]at y<;>cases y
   .rcases own x c hc with ⟨a1,_⟩ | ⟨_,a2⟩
    .exact absurd a1 (ok.pny i j x e1 (by rw[X5 hi,q]))
    .rw[a2]at hc';cases hc';exact⟨o,k _ o ho',hd'⟩
 .rcases own x c e with ⟨_,a2⟩ | ⟨_,a2⟩
  .rw[a2];exact⟨_,hcc⟩
  .obtain⟨v,o,e1,e2⟩:=I.cell x c a2;exact⟨v,o,k c o e1,e2⟩
 .show upd H s.heap.objs.size (.lst []) C=none;rw[hC,zk (Vo _)];exact fr _ (V9 _)
 .show upd H s.heap.objs.size (.lst []) c=none;rcases own x c e with ⟨_,a2⟩ | ⟨_,a2⟩
  .rw[a2,hC,zk (Us (Wv (Ti _)))];exact fr _ (TH (V9 _))
  .obtain⟨v,o,e1,e2⟩:=I.cell x c a2;rw[zk (nD c o e1)];exact I.freeC x c a2
 .have hp':p∈X.pn++bQ:=by
   have:p∈(X.pn++bQ)++[]:=hp;simpa using this
  obtain⟨e1,e2,e3,e4,e5⟩:=I.pin p hp';refine⟨k _ _ e1,?_,nC _ _ e1,nst _ e3 e4,e5⟩;show upd H s.heap.objs.size (.lst []) p.1=none;rw[zk (nD _ _ e1)];exact e2
 .unfold pull;rw[Y1];exact ok.len
section
variable {bQ:List (Addr×Obj)}{σ:St}{H:Hp}{s:X8}{use:Option (X9->Sem Unit)}{R:X9->X8->Prop}{Q:VK}{p2:Pos}
def zii (ok:JN X N src scope cl y)(hcalm:X.calm=true)(hi:PI X tg iter wi)
  (hg:∀C fp bQ s H,PG (JO X N scope cl y C fp bQ s H) tg g) (hc:∀C fp bQ s H,zbR (JO X N scope cl y C fp bQ s H) ifs tc) (he:∀C fp bQ s H,PE (JO X N scope cl y C fp bQ s H) elt te)
  (hs:∀x,VI iter X.env x=pure x) (I:Inv X bQ σ H s) (h:zbS wi src g tc te σ H Q) (fin:zlP X N scope bQ σ use R Q):Xy (Xo X.prog X.w) X.A (TN (.ListComp elt [⟨tg,iter,ifs,0⟩] scope pos) scope X.env p2 (newList []) false (eval iter X.env) use) R X.xe s:=by
 refine PJ (use:=use) rfl hs ok.clos ok.kind ok.names (thn (hi bQ s σ H _ I h) λxv s1 h1=>thn h1 λitv s2 h2=>?_);obtain⟨it,fp,tn,J,H2,e,I2,T,st2,f2,q2⟩:=h2;subst e;refine VX (zlU ok.one ok.push ?_);generalize hP:s2.heap.push { cls:=.type "list",dict:=none,data:=.seq ([]:List X9).toArray }=P2;have hC:P2.objs.size=s2.heap.objs.size+1:=by rw[<- hP,Vu]
 have sz1:(P2.push { cls:=.type "dict",data:=.dict #[] }).objs.size=P2.objs.size+1:=Vu ..;refine zbT hC hcalm (λz=>z.elim) (hg _ _ _ _ _) (hc _ _ _ _ _) (he _ _ _ _ _) I2 T st2 f2 (q2 _ (I2.hok.fresh (XU _))) (λb u e=>?_) (λx c z=>?_) (λho=>ze9 (tk:=s2.toks) ok I2 f2 ho hC (λb u e=>?_) ?_ ((Heap.Ns.new P2 _).push _) ?_) λ_ _ _ _ I4 qn=>fin hC I2 f2 I4 qn
 .exact X6 _ (X6 _ (hP ▸ X6 _ e))
 .show _\/P2.objs.size<=c;have z:RU x ((y,P2.objs.size+1)::cl)=some c:=z;rw[U6]at z;cases q:x==y with
  | true =>
   rw[q]at z;rw[<- Option.some.inj z];exact .inr (V9 _)
  | false =>
   rw[q]at z;exact .inl (ok.sub x c z)
 .exact X6 _ (X6 _ (hP ▸ X6 _ e))
 .exact X6 _ (X6 _ (hP ▸ Xe _ rfl))
 .rw[<- sz1];exact⟨_,Xe _ rfl,rfl⟩
end
def zjO (ok:JN X N src scope cl y)(hcalm:X.calm=true)(hi:PI X tg iter wi)
  (hg:∀C fp bQ s H,PG (JO X N scope cl y C fp bQ s H) tg g) (hc:∀C fp bQ s H,zbR (JO X N scope cl y C fp bQ s H) ifs tc) (he:∀C fp bQ s H,PE (JO X N scope cl y C fp bQ s H) elt te)
  (hs:∀x,VI iter X.env x=pure x:=by intro _;rfl):PE X (.ListComp elt [⟨tg,iter,ifs,0⟩] scope pos) (zbS wi src g tc te):=λ_ _ _ _ _ I h=>zii ok hcalm hi hg hc he hs I h zjE
end
section
variable {X:Cx}{K:XY}
def zdk (hK:X.K=K)(hc:X.calm=true):jw X (.builtin "any") (λxs H Q=>∃(l:Addr) (bs:List Bool),xs=[.ref l]/\SqL K H l (bs.map V.bl)/\Q (.bl (bs.any id)) H):=by
 subst hK;exact ze7 hc
def zfa {tg l:Expr}{tl:TE}(hK:X.K=K)(hl:PE X l tl):PI X tg l (zmZ K tl):=by
 subst hK;exact z4 hl
end
section
variable {X:Cx}
def zfb:MtM X "list.count" (λx vs H Q=>∃(l:Addr) (ts:AE) (y:Str),x=.ref l/\vs=[.str y]/\H l=some (.lst (ts.map V.str))/\Q (.int ((ts.countP λt=>t==y:Nat):Int)) H):=by
 intro bQ s σ H x vs v us Q I rx rv h;obtain⟨l,ts,y,rfl,rfl,hH,q⟩:=h;cases rx;obtain⟨u,rfl,t,rfl⟩:=rv.one;obtain⟨z,its,n,r,hl,e⟩:=I.lstM hH;have hv:∃f:X9->Bool,(∀w∈its,∃a k,w=.str a k/\f w=(a==y))/\its.countP f=ts.countP λt=>t==y:=by
  refine⟨λw=>match w with | .str a _=>a==y | _=>false,?_⟩;clear hl e z hH q;generalize ew:ts.map V.str=ws at r;induction r generalizing ts with
  | nil =>
   cases ts with
   | nil=>exact⟨(λ_ h=>nomatch h),rfl⟩
   | cons a b=>cases ew
  | cons r1 r2 ih =>
   cases ts with
   | nil=>cases ew
   | cons a b =>
    rw[Xf]at ew;obtain⟨e1,e2⟩:=List.cons.inj ew;subst e1;obtain⟨k,rfl⟩:=r1;obtain⟨h1,h2⟩:=ih b e2;refine⟨λw hw=>?_,?_⟩
    .rcases XQ.mp hw with rfl | hw
     .exact⟨a,k,rfl,rfl⟩
     .exact h1 w hw
    .rw[Ws,Ws,h2]
 obtain⟨f,hf,hc⟩:=hv;refine SR F.slot_list_count ⟨_,e,rfl⟩ F.entry_list_count (N4 _ _) (PH l its.toArray n none #[] (.str y t) f) ⟨e,λw hw=>?_,?_⟩
 .obtain⟨a,k,rfl,h2⟩:=hf w (by simpa using hw);rw[h2];exact PySem.SeqAt.EqAt.str_str a k y t
 .refine⟨.int _,H,I.tok _,⟨_,rfl⟩,?_⟩;show Q (.int ((its.countP f:Nat):Int)) H;rw[hc];exact q
def EF:XK:=λ_ _ _=>False
def zpl {X:Cx}:Passes (CXE X.prog X.w) X EF:=by
 intro bQ σ H s x s' I h;obtain⟨e,C,a0,B,H',rfl,F,hE⟩:=h;exact hE.elim
theorem zdl:∀{ts:AE} {its:List X9},Vals (ts.map V.str) its->StrsAre its ts
 | [],_,.nil=>.nil
 | t::_,_,.cons ⟨k,e⟩ h=>by
  subst e;exact .cons t k (zdl h)
def rJoin (K:XY):V->AF->Hp->VK->Prop:=λx xs H Q=>∃(z:Str) (l:Addr) (ts:AE),x=.str z/\xs=[.ref l]/\SqL K H l (ts.map V.str)/\(ts.map (·.length)).sum+ts.length*z.length<=16777216/\Q (.str (Uu z ts)) H
def zeh:MtR X "str.join" (rJoin X.K):=by
 intro bQ s σ H x xs v us Q I rx rv h;obtain⟨z,l,ts,rfl,rfl,hl,hsz,q⟩:=h;obtain⟨tk,rfl⟩:=rx;obtain⟨u,rfl,r⟩:=rv.one;cases r;obtain⟨its,rv2,p,hz⟩:=I.list hl;refine join_list (ys:=ts) p.isList (by simpa using zdl rv2) hsz λt' k=>⟨.str (Uu z ts),H,I.tok k,⟨t',?_⟩,q⟩;rw[show Txt.join z ts=Uu z ts from StrLaws.glued_eq_join z ts]
end
def zb2 {α:Type}(d:α)(xs:List α):((Xp xs.length).map λi=>xs.getD i d)=xs:=by
 refine List.ext_getElem (by simp) λi h1 h2=>?_;simp[h2]
def zhu (p:Int×Int):lt2 p p=false:=by
 unfold lt2;rw[bw rfl,bf (by lia)]
def zbz {p q:Int×Int}(h:p≠q):lt2 q p=!lt2 p q:=by
 unfold lt2;obtain⟨a,b⟩:=p;obtain⟨c,d⟩:=q;simp only;by_cases e:a=c
 .subst e;rw[bw rfl,bw rfl];have hb:b≠d:=λz=>h (by rw[z]);by_cases l:b<d
  .rw[br l,bf (by lia)];rfl
  .rw[bf l,br (by lia)];rfl
 .rw[bq e,bq (λz=>e z.symm)];by_cases l:a<c
  .rw[br l,bf (by lia)];rfl
  .rw[bf l,br (by lia)];rfl
def zgq {p q r:Int×Int}(h1:lt2 p q=true)(h2:lt2 q r=true):lt2 p r=true:=by
 unfold lt2 at *
 obtain⟨a,b⟩:=p;obtain⟨c,d⟩:=q;obtain⟨e,f⟩:=r;simp only at *
 by_cases e1:a=c
 .subst e1;rw[bw rfl,bu]at h1;by_cases e2:a=e
  .subst e2;rw[bw rfl,bu]at h2 ⊢;lia
  .rw[bq e2]at h2 ⊢;exact h2
 .rw[bq e1,bu]at h1;by_cases e2:c=e
  .subst e2;rw[bq e1,bu];exact h1
  .rw[bq e2,bu]at h2;rw[bq (by lia),bu];lia
def Up2 (ps:List (Int×Int)):Prop:=ps.Pairwise λp q=>lt2 p q=true
end L2
namespace PySem.SeqAt
open L2 AutoSeq1 MeetsSeq MeetsSeq2 MeetsSeq3
def Qf (A:WT)(s:X8)(y x:X9)(b:Bool):Prop:=∀(prog:Xd) (w:WV) (E:X9->X8->Prop) (Q:X9->X8->Prop),Q (.bool b) s->Xy (Xo prog w) A (richCompare .Lt y x) Q E s
def Qf.int_int {A:WT}{s:X8}(a:Int)(t:Tok)(b:Int)(u:Tok):Qf A s (.int a t) (.int b u) (decide (a<b)):=λprog w E Q h=>wpAny_lt_int h
def zgr (l b:Addr)(x y x2 y2:Int)(t u t2 u2:Tok)(n n2:Nat)(dd dd2:Option Addr)(sl sl2:Array (Option X9)) :
  Meets (UW.«tuple.__lt__» ⟨[.ref l,.ref b],[]⟩)
   (λ_ R s=>s.heap.get? l=some { cls:=.type "tuple",dict:=dd,data:=.seq #[.int x t,.int y u] n,slots:=sl }/\s.heap.get? b=some { cls:=.type "tuple",dict:=dd2,data:=.seq #[.int x2 t2,.int y2 u2] n2,slots:=sl2 } /\
    R (.ok (.ret (.bool (lt2 (x,y) (x2,y2))))) s) :=
 .of_wp λprog w A R s h=>by
  obtain⟨hp1,g1,d1,tk1,os1⟩:=s;obtain⟨hL,hB,h⟩:=h;have fT:=sub_tuple_tuple;wp_walk using V0 hL,V0 hB;refine EqAt.int_int x t x2 t2 prog w _ _ ?_;unfold lt2 at h;by_cases e:x=x2
  .have e':(x==x2)=true:=by simpa using e
   rw[e'];rw[bw e]at h;wp_walk;refine EqAt.int_int y u y2 u2 prog w _ _ ?_;by_cases e2:y=y2
   .have e2':(y==y2)=true:=by simpa using e2
    rw[e2'];rw[bf (by show ¬ y<y2;lia)]at h;wp_walk;exact⟨_,rfl,h⟩
   .have e2':(y==y2)=false:=by simpa using e2
    rw[e2'];simp only[Bool.not_false,if_true];refine ZB (UQ (ZB (Qf.int_int y u y2 u2 prog w _ _ ?_)));wp_walk;exact⟨_,rfl,h⟩
  .have e':(x==x2)=false:=by simpa using e
   rw[e'];rw[bq e]at h;simp only[Bool.not_false,if_true];refine ZB (UQ (ZB (Qf.int_int x t x2 t2 prog w _ _ ?_)));wp_walk;exact⟨_,rfl,h⟩
def Qf.pairs {A:WT}{s:X8}{v v':X9}{p q:Int×Int}(hv:zz s.heap v p)(hv':zz s.heap v' q)(hu:A.units<U3):Qf A s v v' (lt2 p q):=λprog w E Q h=>by
 obtain⟨a,⟨cls,dd,data,sl⟩,n,t,u,rfl,e1,c1,d1⟩:=hv;obtain⟨a',⟨cls2,dd2,data2,sl2⟩,n',t',u',rfl,e1',c1',d1'⟩:=hv';simp only at c1 d1 c1' d1';subst c1 d1 c1' d1';exact richCompare_meets_room (op:=.Lt) ⟨_,e1,rfl⟩ ⟨_,e1',rfl⟩ F.slot_tuple_lt F.entry_tuple_lt (F.args_tuple_lt_2 _ _) (zgr a a' p.1 p.2 q.1 q.2 t u t' u' n n' dd dd2 sl sl2)
  ⟨e1,e1',show SU (lt2 p q)≠Value.notImplemented/\Q (.bool (lt2 p q)) s from ⟨(λx=>nomatch x),h⟩⟩ hu
def YZ {h:Heap}{v:X9}{p:Int×Int}(hv:zz h v p):∃as,Reads h v (.tuple [.int p.1,.int p.2]) as:=by
 obtain⟨a,o,n,t,u,rfl,e1,c1,d1⟩:=hv;exact⟨_,.tuple e1 c1 d1 (.cons (.int _ _) (.cons (.int _ _) .nil))⟩
def zdm (p q:Int×Int):WS (.tuple [.int p.1,.int p.2]) (.tuple [.int q.1,.int q.2])=decide (p=q):=by
 obtain⟨a,b⟩:=p;obtain⟨c,d⟩:=q;show ((a==c)&&((b==d)&&true))=_;by_cases h1:a=c
 .by_cases h2:b=d
  .subst h1 h2;simp
  .simp[h2]
 .simp[h1]
end PySem.SeqAt
namespace L2
open PySem PySem.Spec PyProof.Rows PySem.W PySem.SeqAt
open PySem PySem.Spec PyProof.Rows
section
variable {κ:Type} [DecidableEq κ]
def jY (kvs:List (κ × V))(k:κ):Option V:=(kvs.find? λkv=>decide (kv.1=k)).map (·.2)
def putK (kvs:List (κ × V))(k:κ)(v:V):List (κ × V) :=
 if (kvs.any λkv=>decide (kv.1=k))=true then kvs.map (λkv=>if kv.1=k then (kv.1,v) else kv) else kvs++[(k,v)]
def jx {p:κ × V}{r:List (κ × V)}{k:κ}(e:p.1=k):jY (p::r) k=some p.2:=by simp[jY,TR,e]
def jy {p:κ × V}{r:List (κ × V)}{k:κ}(e:¬ p.1=k):jY (p::r) k=jY r k:=by simp[jY,TR,e]
theorem QN (k:κ):∀kvs:List (κ × V),(kvs.any λkv=>decide (kv.1=k))=(jY kvs k).isSome
 | []=>rfl
 | p::r=>by
  rw[RZ];by_cases e:p.1=k
  .simp only[jx e,br e,Bool.true_or,Option.isSome_some]
  .rw[jy e,bf e,Bool.false_or];exact QN k r
theorem zfc (k j:κ)(y:V):∀kvs:List (κ × V),jY (kvs.map λkv=>if kv.1=k then (kv.1,y) else kv) j=(jY kvs j).map λx=>if j=k then y else x
 | []=>rfl
 | p::r=>by
  have ih:=zfc k j y r;rw[Xf];by_cases h:p.1=k
  .rw[bw h];by_cases e:p.1=j
   .rw[jx (p:=(p.1,y)) e,jx e,UO,bw (e.symm.trans h)]
   .rw[jy (p:=(p.1,y)) e,jy e,ih]
  .rw[bq h];by_cases e:p.1=j
   .rw[jx (p:=p) e,jx e,UO,bq (λz=>h (e.trans z))]
   .rw[jy (p:=p) e,jy e,ih]
theorem zdn (k j:κ)(y:V):∀kvs:List (κ × V),jY kvs k=none->jY (kvs++[(k,y)]) j=if j=k then some y else jY kvs j
 | [],_=>by
  by_cases e:k=j
  .rw[bw e.symm];exact jx (p:=(k,y)) e
  .rw[bq (λz=>e z.symm)];exact jy (p:=(k,y)) e
 | p::r,hn=>by
  rw[Pu];have hk:¬ p.1=k:=λz=>by rw[jx z]at hn;cases hn
  rw[jy hk]at hn;have ih:=zdn k j y r hn;by_cases e:p.1=j
  .rw[jx e,jx e,bq (λz=>hk (e.trans z))]
  .rw[jy e,jy e,ih]
def zfd (kvs:List (κ × V))(k j:κ)(y:V):jY (putK kvs k y) j=if j=k then some y else jY kvs j:=by
 unfold putK;by_cases a:(kvs.any λkv=>decide (kv.1=k))=true
 .rw[bw a,zfc];rw[QN]at a;by_cases e:j=k
  .obtain⟨x,hx⟩:=Vt.mp a;rw[bw e,e,hx,UO,bw rfl]
  .rw[bq e];cases jY kvs j with
   | none=>rfl
   | some x=>rw[UO,bq e]
 .rw[bq a];refine zdn k j y kvs ?_;rw[QN]at a;cases q:jY kvs k with
  | none=>rfl
  | some x=>rw[q]at a;exact(a rfl).elim
def za7 (kvs:List (κ × V))(k:κ)(v:V):(putK kvs k v).length<=kvs.length+1:=by
 unfold putK;split
 .rw[Y1];lia
 .rw[XS,XE,UP];lia
def zav.isSome_eq {o:Option V}{u:Option X9}(r:zav o u):o.isSome=u.isSome:=by
 cases o with
 | none=>cases u with
  | none=>rfl
  | some _=>exact(show False from r).elim
 | some _=>cases u with
  | none=>exact(show False from r).elim
  | some _=>rfl
theorem zav.getD {o:Option V}{u:Option X9}{d:V}{d':X9}(r:zav o u)(rd:RelV d d'):RelV (o.getD d) (u.getD d'):=by
 cases o with
 | none=>cases u with
  | none=>exact rd
  | some _=>exact(show False from r).elim
 | some _=>cases u with
  | none=>exact(show False from r).elim
  | some _=>exact r
def KV.val {kvs:List (κ × V)}{vs:List (κ × X9)}(r:KV kvs vs)(k:κ):zav (jY kvs k) (N7 vs k):=by
 unfold KV at r;induction r with
 | nil=>exact T1
 | @cons p q ps qs h t ih =>
  obtain⟨h1,h2⟩:=h;by_cases e:p.1=k
  .have e':q.1=k:=h1.symm.trans e;have b:N7 (q::qs) k=some q.2:=by simp[N7,TR,e']
   rw[jx e,b];exact h2
  .have e':¬ q.1=k:=λz=>e (h1.trans z);have b:N7 (q::qs) k=N7 qs k:=by simp[N7,TR,e']
   rw[jy e,b];exact ih
theorem KV.any {kvs:List (κ × V)}{vs:List (κ × X9)}(r:KV kvs vs)(k:κ):(kvs.any λkv=>decide (kv.1=k))=vs.any λkv=>decide (kv.1=k):=by
 unfold KV at r;induction r with
 | nil=>rfl
 | cons h t ih=>rw[RZ,RZ,ih,h.1]
def KV.repl {kvs:List (κ × V)}{vs:List (κ × X9)}(r:KV kvs vs)(k:κ){y:V}{u:X9}(ry:RelV y u) :
  KV (kvs.map λkv=>if kv.1=k then (kv.1,y) else kv) (vs.map λkv=>if kv.1=k then (kv.1,u) else kv):=by
 unfold KV at r ⊢;induction r with
 | nil=>exact .nil
 | @cons p q ps qs h t ih =>
  rw[Xf,Xf];refine .cons ?_ ih;obtain⟨h1,h2⟩:=h;by_cases e:p.1=k
  .rw[bw e,bw (h1.symm.trans e)];exact⟨h1,ry⟩
  .rw[bq e,bq (λz=>e (h1.trans z))];exact⟨h1,h2⟩
def KV.put {kvs:List (κ × V)}{vs:List (κ × X9)}(r:KV kvs vs)(k:κ){y:V}{u:X9}(ry:RelV y u):KV (putK kvs k y) (stored vs k u):=by
 unfold putK stored;rw[r.any k];by_cases e:(vs.any λkv=>decide (kv.1=k))=true
 .rw[bw e,bw e];exact r.repl k ry
 .rw[bq e,bq e];exact Paired.snoc r ⟨rfl,ry⟩
theorem KV.length {kvs:List (κ × V)}{vs:List (κ × X9)}(r:KV kvs vs):kvs.length=vs.length:=Paired.length r
end
def zhv {P:Xd}{w:WV}{k:Key}{u:X9}(r:RelV (kV k) u):(zW P w).is k u=true:=by
 cases k with
 | inl i=>obtain⟨t,e⟩:=(show ∃t,u=Wt i t from r);subst e;exact zeS P w i t
 | inr x=>obtain⟨t,e⟩:=(show ∃t,u=NA x t from r);subst e;exact zeT P w x t
theorem zdo {P:Xd}{w:WV}:∀{ks:List Key} {us:List X9},Vals (ks.map kV) us->ItemsAre (zW P w) ks us
 | [],_,r=>by rw[NJ]at r;cases r;exact .nil
 | k::ks,_,r=>by
  rw[Xf]at r;cases r with
  | cons h t=>exact .cons (zhv h) (zdo t)
abbrev KT (H:Hp):List (List Key×V)->List (List Key×Addr×X9)->Prop:=WU λp q=>p.1=q.1/\H q.2.1=some (.tup (p.1.map kV))/\RelV p.2 q.2.2
def KT.val {H:Hp}{kvs:List (List Key×V)}{xs:List (List Key×Addr×X9)}(r:KT H kvs xs)(k:List Key):zav (jY kvs k) ((Ny xs k).map (·.2)):=by
 induction r with
 | nil=>exact T1
 | @cons p q ps qs h t ih =>
  obtain⟨h1,_,h2⟩:=h;by_cases e:p.1=k
  .have e':q.1=k:=h1.symm.trans e;have b:Ny (q::qs) k=some q.2:=by simp[Ny,TR,e']
   rw[jx e,b];exact h2
  .have e':¬ q.1=k:=λz=>e (h1.trans z);have b:Ny (q::qs) k=Ny qs k:=by simp[Ny,TR,e']
   rw[jy e,b];exact ih
def KT.repl {H:Hp}{kvs:List (List Key×V)}{xs:List (List Key×Addr×X9)}(r:KT H kvs xs)(k:List Key){y:V}{u:X9}(ry:RelV y u) :
  KT H (kvs.map λkv=>if kv.1=k then (kv.1,y) else kv) (xs.map (putAt k u)):=by
 induction r with
 | nil=>exact .nil
 | @cons p q ps qs h t ih =>
  rw[Xf,Xf];refine .cons ?_ ih;obtain⟨h1,h2,h3⟩:=h;unfold putAt;by_cases e:p.1=k
  .rw[bw e,bw (h1.symm.trans e)];exact⟨h1,h2,ry⟩
  .rw[bq e,bq (λz=>e (h1.trans z))];exact⟨h1,h2,h3⟩
def KT.put {H:Hp}{kvs:List (List Key×V)}{xs:List (List Key×Addr×X9)}(r:KT H kvs xs)(k:List Key){b:Addr}{y:V}{u:X9}(hb:H b=some (.tup (k.map kV)))(ry:RelV y u) :
  KT H (putK kvs k y) (R1 xs k b u):=by
 have e:(kvs.any λkv=>decide (kv.1=k))=(Ny xs k).isSome:=by
  rw[QN,(r.val k).isSome_eq,Option.isSome_map]
 unfold putK R1;rw[e];by_cases q:(Ny xs k).isSome=true
 .rw[bw q,bw q];exact r.repl k ry
 .rw[bq q,bq q];exact Paired.snoc r ⟨rfl,hb,ry⟩
def KT.keeps {H H':Hp}{kvs:List (List Key×V)}{xs:List (List Key×Addr×X9)}(r:KT H kvs xs)(ht:∀b ys,H b=some (.tup ys)->H' b=some (.tup ys)):KT H' kvs xs :=
 Paired.mapP r λ_ _ z=>⟨z.1,ht _ _ z.2.1,z.2.2⟩
section
variable {P:Xd}{w:WV}{H:Hp}{h:Heap}{a:Addr}
def zm3 {u:HO}(ok:HOk P w H h)(e:Rd H a u):qI P w H h a u:=e.ok ok
def zfe {kvs:List (Key×V)}(ok:HOk P w H h)(e:Rd H a (.dK kvs)):kvs.length<=Xz/\(a==Uj)=false/\∃vs,KV kvs vs/\h.DictOf (zW P w) a vs :=
 show qI P w H h a (.dK kvs) from zm3 ok e
def zpm {kvs:List (Key×V)}(ok:HOk P w H h)(e:H a=some (.dK kvs)):kvs.length<=Xz/\(a==Uj)=false/\∃vs,KV kvs vs/\h.DictOf (zW P w) a vs:=zfe ok (.inl e)
def zaE {ks:List Key}(ok:HOk P w H h)(e:H a=some (.tup (ks.map kV))):(VE (zW P w)).is h ks a:=by
 obtain⟨_,its,r,o,h1,h2,n,h3⟩:=(show qI P w H h a (.tup (ks.map kV)) from ok a _ e);exact⟨o,its.toArray,n,h1,h2,h3,by simpa using zdo r⟩
def zff {kvs:List (List Key×V)}(ok:HOk P w H h)(e:Rd H a (.dT kvs)):kvs.length<=Xz/\(a==Uj)=false /\
  ∃xs,KT H kvs xs/\h.DictOfH (VE (zW P w)) a xs:=by
 obtain⟨z,y,xs,r,o,es,ep,h1,h2,h3,h4,h5⟩:=(show qI P w H h a (.dT kvs) from zm3 ok e);refine⟨z,y,xs,r,o,es,ep,h1,h2,h3,h4,λx hx=>?_,h5⟩;have all:∀{l:List (List Key×V)} {m:List (List Key×Addr×X9)},KT H l m->∀x∈m,(VE (zW P w)).is h x.1 x.2.1:=by
  intro l m q;induction q with
  | nil=>intro x hx;exact nomatch hx
  | @cons p q ps qs hq t ih =>
   intro x hx;rcases XQ.mp hx with e | hx
   .subst e;exact zaE ok (by rw[<- hq.1];exact hq.2.1)
   .exact ih x hx
 exact all r x hx
def zm4 {kvs:List (List Key×V)}(ok:HOk P w H h)(e:H a=some (.dT kvs)):kvs.length<=Xz/\(a==Uj)=false /\
  ∃xs,KT H kvs xs/\h.DictOfH (VE (zW P w)) a xs:=zff ok (.inl e)
end
def zei (H:Hp)(a:Addr)(y:V)(r:Option V):Prop :=
 (∃kvs k,Rd H a (.dK kvs)/\y=kV k/\r=jY kvs k)\/∃kvs k b,Rd H a (.dT kvs)/\y=.ref b/\H b=some (.tup (k.map kV))/\r=jY kvs k
def zjP (H:Hp)(a:Addr)(y v:V)(H':Hp):Prop :=
 (∃kvs k,H a=some (.dK kvs)/\y=kV k/\kvs.length<Xz/\H'=upd H a (.dK (putK kvs k v))) \/
 ∃kvs k b,H a=some (.dT kvs)/\y=.ref b/\H b=some (.tup (k.map kV))/\kvs.length<Xz/\H'=upd H a (.dT (putK kvs k v))
def zei.t {H:Hp}{a b:Addr}{kvs:List (List Key×V)}{k:List Key}(e:H a=some (.dT kvs))(eb:H b=some (.tup (k.map kV))):zei H a (.ref b) (jY kvs k):=.inr ⟨kvs,k,b,.inl e,rfl,eb,rfl⟩
def zjP.t {H:Hp}{a b:Addr}{kvs:List (List Key×V)}{k:List Key}{v:V}(e:H a=some (.dT kvs))(eb:H b=some (.tup (k.map kV)))(hl:kvs.length<Xz) :
  zjP H a (.ref b) v (upd H a (.dT (putK kvs k v))):=.inr ⟨kvs,k,b,e,rfl,eb,hl,rfl⟩
section
variable {X:Cx}{bQ:List (Addr×Obj)}{σ:St}{H:Hp}{s:X8}{a:Addr}{y v:V}{u r:X9}{o:Option V}{A:WT}{E:X9->X8->Prop}
def Inv.big (I:Inv X bQ σ H s):Uj<s.heap.objs.size:=by
 have h:XM<s.heap.objs.size:=(I.mod.glob.keeps I.bk).lt;exact Tl (by decide) h
def zij {Q:X9->X8->Prop}(hu:A.units+1<U3)(I:Inv X bQ σ H s)(g:zei H a y (some v))(ry:RelV y u)(h:∀w' s',Inv X bQ σ H s'->RelV v w'->Q w' s') :
  Xy (Xo X.prog X.w) A (Oa (.ref a) u) Q E s:=by
 rcases g with ⟨kvs,k,e,ey,l⟩ | ⟨kvs,k,b,e,ey,eb,l⟩
 .subst ey;obtain⟨z,hd,vs,rel,dd⟩:=zfe I.hok e;obtain⟨w',hw,rw'⟩:=zav.some_of (v:=v) (o:=N7 vs k) (by rw[l];exact rel.val k);exact wpAny_getItem_of (zhv ry) dd.mapOf hw (h w' _ (I.tok _) rw')
 .subst ey;cases (show u=WN b from ry);obtain⟨z,hd,xs,rel,dd⟩:=zff I.hok e;obtain⟨w',hw,rw'⟩:=zav.some_of (v:=v) (o:=(Ny xs k).map (·.2)) (by rw[l];exact rel.val k);obtain⟨p,hp,hp2⟩:=Option.map_eq_some_iff.mp hw;refine wpAny_getItem_heap (Rj hu) (zaE I.hok eb) dd hp ?_;rw[hp2];exact h w' _ (I.tok _) rw'
def zej {h':Heap}{t':Nat}{ob:HO}(I:Inv X bQ σ H s)(mu:Mut (H a))(hs:V5 a s.heap h')(he:∃q,h'.get? a=some q)(new:qI X.prog X.w (upd H a ob) h' a ob) :
  Inv X bQ σ (upd H a ob) { s with heap:=h',toks:=t' } :=
 I.write (x:=a) (e:=a) mu (.inl rfl) (λb q hb z=>(hs.2 b hb).trans z) he new
def znW {P:Xd}{w:WV}{H':Hp}{h':Heap}{kvs:List (Key×V)}{vs:List (Key×X9)}(z:kvs.length<=Xz)(hd:(a==Uj)=false)(rel:KV kvs vs)(dd:h'.DictOf (zW P w) a vs) :
  qI P w H' h' a (.dK kvs):=⟨z,hd,vs,rel,dd⟩
def zik {H':Hp}{Q:Unit->X8->Prop}(hu:A.units+1<U3)(I:Inv X bQ σ H s)(g:zjP H a y v H')(ry:RelV y u)(rv:RelV v r)(h:∀s',Inv X bQ σ H' s'->Q () s') :
  Xy (Xo X.prog X.w) A (setItem (.ref a) u r) Q E s:=by
 rcases g with ⟨kvs,k,e,ey,l,eH⟩ | ⟨kvs,k,b,e,ey,eb,l,eH⟩
 .subst ey eH;obtain⟨z,hd,vs,rel,dd⟩:=zpm I.hok e;have hz:vs.length<=Xz:=by rw[<- rel.length];exact z
  have hl:(putK kvs k v).length<=Xz:=by have:=za7 kvs k v;lia
  refine wpAny_setItem_pairs (hsz:=hz) (zhv ry) dd λh' dd' hs=>h _ ?_;have he:∃q,h'.get? a=some q:=let ⟨q,_,_,hq,_⟩:=dd';⟨q,hq⟩
  exact zej I (by rw[e];exact T1) hs he (znW hl hd (rel.put k rv) dd')
 .subst ey eH;cases (show u=WN b from ry);obtain⟨z,hd,xs,rel,dd⟩:=zm4 I.hok e;have hz:xs.length<=Xz:=by rw[<- Paired.length rel];exact z
  have hl:(putK kvs k v).length<=Xz:=by have:=za7 kvs k v;lia
  refine wpAny_setItem_heap (hsz:=hz) (Rj hu) (zaE I.hok eb) dd λh' dd' hs=>h _ ?_;obtain⟨q,es,ep,hq,h2,h3,h4,_,h5⟩:=dd';refine zej I (by rw[e];exact T1) hs ⟨q,hq⟩ ⟨hl,hd,_,(rel.put k eb rv).keeps λc ys ec=>?_,q,es,ep,hq,h2,h3,h4,h5⟩;rw[zk (zdc ec e (λz=>nomatch z))];exact ec
end
def zpn (i:Expr):Prop:=∀ov iv,OC i false ov iv=operate [ov,iv] (Oa ov iv)
def zlV {prog:Xd}{w:WV}{A:WT}{E:X9->X8->Prop}{s:X8}{env:Env}{value slice:Expr}{pos:Pos}{T id:String}{Q:X9->X8->Prop}
  (hl:NQ (.type T) "__getitem__"=pure (some (.builtin id))) (hs:zpn slice)
  (h:Xy (Xo prog w) A (eval value env) (λo s₁=>Xy (Xo prog w) A (eval slice env) (λi s₂=>s₂.TypeIs o T/\Xy (Xo prog w) A (Oa o i) Q E s₂) E s₁) E s) :
  Xy (Xo prog w) A (eval (.Subscript value slice pos) env) Q E s:=by
 refine Subscript_ (WE h (λo s₁ h₁=>WE h₁ (λi s₂ h₂=>?_) λ_ _ x=>x) λ_ _ x=>x);obtain⟨hT,h₂⟩:=h₂;unfold NX;refine ZB ?_;rw[getitemInPython_of_ne hT.not_modules];refine ZB (OR hT hl ?_);have fin:Xy (Xo prog w) A (OC slice false o i) (λr s₃=>Xy (Xo prog w) A (letTemporaryGo value o r >>= λ_=>pure r) Q E s₃) E s₂:=by
  rw[hs o i];exact wpAny_operating (WE h₂ (λr s₃ h₃=>ZB (wpAny_letTemporaryGo (X4 h₃))) λ_ _ x=>x)
 first
  | exact X4 (ZB fin)
  | exact ZB (X4 (ZB fin))
  | exact ZB fin
def zfg {X:Cx}{bQ:List (Addr×Obj)}{σ:St}{H:Hp}{s:X8}{a:Addr}{y:V}{o:Option V}(I:Inv X bQ σ H s)(g:zei H a y o):s.TypeIs (.ref a) "dict":=by
 rcases g with ⟨kvs,k,e,_,_⟩ | ⟨kvs,k,b,e,_,_,_⟩
 .obtain⟨_,_,vs,_,dd⟩:=zfe I.hok e;exact dd.typeIs
 .obtain⟨_,_,xs,_,dd⟩:=zff I.hok e;exact dd.typeIs
def zpo (td ty:TE):TE:=fun σ H Q=>td σ H λx H1=>ty σ H1 λy H2=>∃a v,x=.ref a/\zei H2 a y (some v)/\Q v H2
def zpp (td ty tv:TE):TS:=λD σ H=>tv σ H λv H1=>td σ H1 λx H2=>ty σ H2 λy H3=>∃a H4,x=.ref a/\zjP H3 a y v H4/\D.nx σ H4
section
variable {X:Cx}{o i e value:Expr}{pos pos' tpos:Pos}{td ty tv:TE}
def zlW (hu:X.A.units+1<U3)(ho:PE X o td)(hi:PE X i ty)(hs:zpn i):PE X (.Subscript o i pos) (zpo td ty):=by
 intro bQ s σ H Q I h;refine zlV PySem.F.slot_dict_getitem.lookup hs (thn (ho bQ s σ H _ I h) λu s1 ⟨x,H1,I1,rx,q1⟩=>thn (hi bQ s1 σ H1 _ I1 q1) λiv s2 ⟨y,H2,I2,ry,a,v,ex,g,q2⟩=>?_);subst ex;obtain rfl:u=WN a:=rx;exact⟨zfg I2 g,zij hu I2 g ry λw' s3 I3 rw'=>⟨v,H2,I3,rw',q2⟩⟩
def zlX (hu:X.A.units+1<U3)(ho:PE X o td)(hi:PE X i ty)(hv:PE X value tv)(hs:Py value (some (.Subscript o i pos')) pos.line X.env=pure false) :
  PS X (.Assign [.Subscript o i pos'] value pos) (zpp td ty tv):=by
 intro bQ s σ H D I h;refine wpAny_Assign_Subscript (thn (hv bQ s σ H _ I h) λr s1 ⟨v,H1,I1,rv,q1⟩=>thn (ho bQ s1 σ H1 _ I1 q1) λu s2 ⟨x,H2,I2,rx,q2⟩=>thn (hi bQ s2 σ H2 _ I2 q2) λiv s3 ⟨y,H3,I3,ry,a,H4,ex,g,q3⟩=>?_) hs;subst ex;obtain rfl:u=WN a:=rx;exact zik hu I3 g ry rv λs4 I4=>⟨σ,H4,I4,q3⟩
end
def zjQ {P:Xd}{w:WV}{H:Hp}(h:Heap)(hb:Uj<h.objs.size):qI P w H (h.push { cls:=.type "dict",data:=.dict #[] }) h.objs.size (.dT []) :=
 ⟨W7 _,beq_eq_false_iff_ne.mpr (Vm (Xk hb)),[],.nil,_,#[],0,Xe _ rfl,⟨rfl,rfl,rfl⟩,rfl,rfl,T7⟩
structure M2 (X:Cx)(o:Expr)(m:Str)(apos:Pos)(e f:Expr)(cpos:Pos):Prop where
 base:NW o m X.env (eval o X.env)=eval o X.env
 few:((Tx cpos (WR [e,f] X.env)).all (λx=>!x.1)&&(backToKw cpos (Nx [] X.env)).all (λx=>x.1.isSome)
  && decide (([e,f]:List Expr).length+([]:List N9).length+(if ([]:List N9).isEmpty then 0 else 1)<30))=true
 line:(apos.endLine==cpos.line)=true
 trees:Tx cpos (WR [e,f] X.env)=[(false,eval e X.env),(false,eval f X.env)]
def IsD (H:Hp)(a:Addr):Prop:=(∃kvs,Rd H a (.dK kvs))\/∃kvs,Rd H a (.dT kvs)
def znX {X:Cx}{bQ:List (Addr×Obj)}{σ:St}{H:Hp}{s:X8}{a:Addr}(I:Inv X bQ σ H s)(d:IsD H a) :
  s.TypeIs (.ref a) "dict"/\(∀b,WN a=.ref b->∃ob,s.heap.get? b=some ob/\ob.dict=none)/\(a==Uj)=false:=by
 rcases d with ⟨kvs,e⟩ | ⟨kvs,e⟩
 .obtain⟨_,hd,vs,_,dd⟩:=zfe I.hok e;refine⟨dd.typeIs,λb q=>?_,hd⟩;cases q;obtain⟨ob,_,_,h1,h2,_⟩:=dd;exact⟨ob,h1,h2.2.1⟩
 .obtain⟨_,hd,xs,_,dd⟩:=zff I.hok e;refine⟨dd.typeIs,λb q=>?_,hd⟩;cases q;obtain⟨ob,_,_,h1,h2,_⟩:=dd;exact⟨ob,h1,h2.2.1⟩
section
variable {X:Cx}{bQ:List (Addr×Obj)}{σ:St}{H:Hp}{s:X8}{a:Addr}{y d:V}{u r:X9}{o:Option V}{A:WT}{E:X9->X8->Prop}
def znY {Q:X9->X8->Prop}(hu:A.units+1<U3)(I:Inv X bQ σ H s)(g:zei H a y o)(ry:RelV y u)(rd:RelV d r)(h:∀w' s',Inv X bQ σ H s'->RelV (o.getD d) w'->Q w' s') :
  Xy (Xo X.prog X.w) A (call (.builtin "dict.get") [.ref a,u,r]) Q E s:=by
 rcases g with ⟨kvs,k,e,ey,l⟩ | ⟨kvs,k,b,e,ey,eb,l⟩
 .subst ey;obtain⟨z,hd,vs,rel,dd⟩:=zfe I.hok e;refine call_meetsIn Sf dd.typeIs O7 (Pn _ _ _) (meets_dict_get_default (zW X.prog X.w) a (zhv ry) hd r) ⟨_,dd.mapOf,h _ _ (I.tok _) ?_⟩;rw[l];exact(rel.val k).getD rd
 .subst ey;cases (show u=WN b from ry);obtain⟨z,hd,xs,rel,dd⟩:=zff I.hok e;refine call_meetsIn Sf dd.typeIs O7 (Pn _ _ _) (meetsH_dict_get_default (VE (zW X.prog X.w)) a b hd r) ⟨Rj hu,k,xs,zaE I.hok eb,dd,h _ _ (I.tok _) ?_⟩;rw[l];exact(rel.val k).getD rd
end
def znZ (td ty tx:TE):TE:=fun σ H Q=>td σ H λx H1=>∃a,x=.ref a/\IsD H1 a/\ty σ H1 λy H2=>tx σ H2 λz H3=>∃o,zei H3 a y o/\Q (o.getD z) H3
section
variable {X:Cx}{o e f:Expr}{apos cpos:Pos}{td ty tx:TE}
def zjR (hu:X.A.units+1<U3)(ho:PE X o td)(he:PE X e ty)(hf:PE X f tx)(m:M2 X o "get" apos e f cpos):PE X (.Call (.Attribute o "get" apos) [e,f] [] cpos) (znZ td ty tx):=by
 intro bQ s σ H Q I h;refine wpAny_Call_method m.base m.few m.line PySem.F.plainAttrs_dict Sf PySem.F.type_dict_get (thn (ho bQ s σ H _ I h) λu s1 ⟨x,H1,I1,rx,a,ex,d,q1⟩=>?_);subst ex;obtain rfl:u=WN a:=rx;obtain⟨t1,t2,_⟩:=znX I1 d;refine⟨t1,t2,?_⟩;rw[m.trees];refine O9 rfl (RQ (Rm (thn (he bQ s1 σ H1 _ I1 q1) λiv s2 ⟨y,H2,I2,ry,q2⟩ =>
  Rm (thn (hf bQ s2 σ H2 _ I2 q2) λfv s3 ⟨z,H3,I3,rz,ov,g,q3⟩=>Calls.spliced_nil ?_))))
 exact znY hu I3 g ry rz λw' s4 I4 rw'=>⟨_,H3,I4,rw',q3⟩
end
def zil:NQ (.type "list") "keys"=pure none:=by rw[RJ,TK];kernel_rfl
def zim:NQ (.type "list") "__getattr__"=pure none:=by rw[RJ,TK];kernel_rfl
def zb3:isSubtype (.type "AttributeError") (.type "AttributeError")=pure true:=by rw[Ow];kernel_rfl
def zjS (args:List X9):ownMembersOf (.type "AttributeError") args=#[unsetMember,unsetMember]:=rfl
def zgs:((Manifest.find? "AttributeError").elim false λt=>t.mro.contains "StopIteration" || t.mro.contains "SystemExit")=false:=by decide+kernel
section
variable {prog:Xd}{w:WV}{A:WT}{E:X9->X8->Prop}{h:Heap}{g:Array UC}{d:Nt}{t:Nat}{os:NL}{a:Addr}{its:Array X9}{n:Nat}
def zjT {tk:Tok}{Q:Fin->X8->Prop}(hx:h.get? a=some { cls:=.type "list",dict:=none,data:=.seq its n,slots:=#[] })(hh:A.handled=none)
  (he:∀h' t' e,(∀b o',h.get? b=some o'->h'.get? b=some o')->(⟨h',g,d,t',os⟩:X8).TypeIs (.ref e) "AttributeError"->E (.ref e) ⟨h',g,d,t',os⟩) :
  Xy (Xo prog w) A (UW.«object.__getattribute__» ⟨[.ref a,.str "keys" tk],[]⟩) Q E ⟨h,g,d,t,os⟩:=by
 have hT:(⟨h,g,d,t,os⟩:X8).TypeIs (.ref a) "list":=⟨_,hx,rfl⟩;have f4:=zil;have f5:=zb3;repeat (any_goals (first | assumption | wp_step))
 unfold raiseAttrError;refine ZB (wpAny_mkStr (ZB ?_) (by decide+kernel));unfold newExc newTuple;refine ZB (VX ?_);refine ZB (m:=Rt _ _) (RT (a:=US) (by simp only[Rt,zgs];rfl) ?_);rw[zjS];refine VX ?_;refine ZB (wpAny_mkText ?_);refine ZB ?_;unfold noteAttr lacksNameAndObj;repeat (any_goals (first | assumption | wp_step))
 unfold raiseNew;refine ZB (wpAny_handled ?_);rw[hh];refine ZB (X4 (Nw ?_));dsimp only;refine he _ _ _ (λb o' hb=>?_) ?_
 .rw[(Uc ..).2 b (Xk ?_)]
  .exact X6 _ (X6 _ hb)
  .rw[Vu];exact Wv (XJ hb)
 .refine⟨_,We _ (Xe _ rfl) rfl,rfl⟩
def zlY {tk:Tok}{R:R7->X8->Prop}(hx:h.get? a=some { cls:=.type "list",dict:=none,data:=.seq its n,slots:=#[] })(hh:A.handled=none)
  (he:∀h' t' e,(∀b o',h.get? b=some o'->h'.get? b=some o')->(⟨h',g,d,t',os⟩:X8).TypeIs (.ref e) "AttributeError"->R (.error (.ref e)) ⟨h',g,d,t',os⟩) :
  UX (Xo prog w) A (.call (.builtin "list.__getattribute__") ⟨[.ref a,.str "keys" tk],[]⟩) R ⟨h,g,d,t,os⟩ :=
 U0 PySem.F.slot_list_getattribute.plain PySem.F.entry_list_ga (PySem.F.slot_list_getattribute.check _ _ _ _ _ _ _ _ (show (⟨h,g,d,t,os⟩:X8).TypeIs (.ref a) "list" from ⟨_,hx,rfl⟩) (PySem.F.args_list_getattribute_2 _ _) (zjT hx (by simp[hh]) he))
def zpq {tk:Tok}{Q:X9->X8->Prop}(hx:h.get? a=some { cls:=.type "list",dict:=none,data:=.seq its n,slots:=#[] })(hh:A.handled=none)
  (he:∀h' t' e,(∀b o',h.get? b=some o'->h'.get? b=some o')->(⟨h',g,d,t',os⟩:X8).TypeIs (.ref e) "AttributeError"->E (.ref e) ⟨h',g,d,t',os⟩) :
  Xy (Xo prog w) A (getAttrBy (.ref a) (.str "keys" tk) false) Q E ⟨h,g,d,t,os⟩:=by
 have hT:(⟨h,g,d,t,os⟩:X8).TypeIs (.ref a) "list":=⟨_,hx,rfl⟩;have f2:=PySem.F.slot_list_getattribute.lookup;have f3:=PySem.F.slot_list_getattribute.bind (.ref a);have f4:=zim;have f5:=zb3;repeat (any_goals (first | assumption | wp_step))
 refine zlY hx (by simp[hh]) λh' t' e kp hE=>?_;repeat (any_goals (first | assumption | wp_step))
 exact he _ _ _ kp hE
def zlZ {Q:Option X9->X8->Prop}(hx:h.get? a=some { cls:=.type "list",dict:=none,data:=.seq its n,slots:=#[] })(hh:A.handled=none)
  (hq:∀h' t',(∀b o',h.get? b=some o'->h'.get? b=some o')->Q none ⟨h',g,d,t',os⟩) :
  Xy (Xo prog w) A (No (.ref a) "keys") Q E ⟨h,g,d,t,os⟩:=by
 have f5:=zb3;unfold No getAttrBy?;refine ZB (wpAny_mkText (ZB (S9 ?_)));refine zpq (t:=t+1) hx hh λh' t' e kp hE=>?_;repeat (any_goals (first | assumption | wp_step))
 exact hq _ _ kp
def QO:Nn table "dict.update.loop"=some UW.«dict.update.loop»:=entryFor_of_tree (by kernel_rfl)
def x6:plainId "dict.update.loop"=true:=by decide+kernel
end
section
variable {prog:Xd}{w:WV}{A:WT}{R:R7->X8->Prop}{I:Addr}{fp wr:List Addr}{G:Array UC->Array UC->Prop}{n:Nat}{P:Nat->X9->Prop}{St:Nat->X8->Prop}
abbrev KQ:=List Key×Addr×X9
def putAll (ks:List KQ):List KQ:=ks.foldl (λacc q=>R1 acc q.1 q.2.1 q.2.2) []
def putAll_snoc (ks:List KQ)(q:KQ):putAll (ks++[q])=R1 (putAll ks) q.1 q.2.1 q.2.2:=by
 unfold putAll;rw[Sq];rfl
def zfh (xs:List KQ)(k:List Key)(a:Addr)(v:X9):(R1 xs k a v).length<=xs.length+1:=by
 unfold R1;split
 .rw[Y1];lia
 .rw[XS];exact XU _
def zb4 (ks:List KQ):(putAll ks).length<=ks.length:=by
 suffices h:∀(ks acc:List KQ),(ks.foldl (λacc q=>R1 acc q.1 q.2.1 q.2.2) acc).length<=acc.length+ks.length by
  have:=h ks [];simpa[putAll] using this
 intro ks;induction ks with
 | nil=>intro acc;exact XU _
 | cons q r ih =>
  intro acc;have h1:=ih (R1 acc q.1 q.2.1 q.2.2);have h2:=zfh acc q.1 q.2.1 q.2.2;rw[VO,XE];lia
def zek {A:WT}{E:X9->X8->Prop}{s:X8}{ta:Addr}{x y:X9}{Q:List X9->X8->Prop}(h:Nu s.heap ta #[x,y])(q:Q [x,y] s):Xy (Xo prog w) A (O6 (.ref ta)) Q E s:=by
 obtain⟨o,h1,h2,n,h3⟩:=h;have hT:s.TypeIs (.ref ta) "tuple":=⟨o,h1,h2⟩;unfold O6;repeat (any_goals (first | assumption | wp_step))
 rw[h3];exact X4 (X4 q)
theorem za8 (T:List Key->Addr->Prop):∀(js acc:List KQ),(∀x∈acc,T x.1 x.2.1)->(∀x∈js,T x.1 x.2.1)->∀x∈js.foldl (λacc q=>R1 acc q.1 q.2.1 q.2.2) acc,T x.1 x.2.1
 | [],_,ha,_=>ha
 | q::r,acc,ha,hj=>by
  rw[VO];refine za8 T r _ (λx hx=>?_) λx hx=>hj x (XV _ hx);unfold R1 at hx;split at hx
  .obtain⟨y,hy,rfl⟩:=XO.mp hx;have:=ha y hy;unfold putAt;split
   .exact this
   .exact this
  .rcases XR.mp hx with hx | hx
   .exact ha x hx
   .have e:x=(q.1,q.2.1,q.2.2):=by simpa using hx
    subst e;exact hj q X2
def zgt {h0:Heap}(W:WalksS prog w A.in1 I fp wr G n P St)(D:Addr)(hDf:D ∉ fp)(hD0:h0.get? D=none)(hw0:∀b∈wr,h0.get? b=none)(ks:List KQ)(hlen:ks.length=n)(hb:n<=Xz)(hu:A.units+1<U3)
  (hks:∀q∈ks,(VE (zW prog w)).is h0 q.1 q.2.1) (hP:∀i v,P i v->∃ta q,v=.ref ta/\ks[i]?=some q/\Nu h0 ta #[.ref q.2.1,q.2.2]) :
  ∀(k i:Nat) (s:X8),n-i=k->i<=n->St i s->(∀b o,h0.get? b=some o->s.heap.get? b=some o)->s.heap.DictOfH (VE (zW prog w)) D (putAll (ks.take i)) ->
   (∀s',Np (D::wr) G s s'->s'.heap.DictOfH (VE (zW prog w)) D (putAll ks)->R (.ok (.ret .none)) s') ->
   UX (Xo prog w) A (.builtin "dict.update.loop" ⟨[.ref D,.ref I,T2 (i:Int),.none],[]⟩) R s:=by
 have hDw:D ∉ wr:=λh=>hDf (W.sub _ h);have more:∀b∈wr,b∈D::wr:=λb hb=>XV _ hb;have tup_up:∀{h:Heap} {ta:Addr} {xs:Array X9},(∀b o,h0.get? b=some o->h.get? b=some o)->Nu h0 ta xs->Nu h ta xs:=λkp ⟨o,h1,h2,m,h3⟩=>⟨o,kp _ _ h1,h2,m,h3⟩;have key_up:∀{h:Heap} {ka:Addr} {q:List Key},(∀b o,h0.get? b=some o->h.get? b=some o)->(VE (zW prog w)).is h0 q ka->(VE (zW prog w)).is h q ka:=λkp ⟨o,xs,m,h1,h2⟩=>⟨o,xs,m,kp _ _ h1,h2⟩;have dict_to:∀{s s':X8} {xs:List KQ},Np wr G s s'->(∀b o,h0.get? b=some o->s'.heap.get? b=some o)->(∀x∈xs,(VE (zW prog w)).is h0 x.1 x.2.1)->s.heap.DictOfH (VE (zW prog w)) D xs->s'.heap.DictOfH (VE (zW prog w)) D xs :=
  λhm kp hk ⟨o,es,ep,e1,e2,e3,e4,_,e6⟩=>⟨o,es,ep,hm.heap D _ hDw e1,e2,e3,e4,λx hx=>key_up kp (hk x hx),e6⟩
 have keep_to:∀{s s':X8},Np wr G s s'->(∀b o,h0.get? b=some o->s.heap.get? b=some o)->∀b o,h0.get? b=some o->s'.heap.get? b=some o:=λhm kp b o e =>
  hm.heap b o (λhb=>by
   rw[hw0 b hb]at e;cases e) (kp b o e)
 have keys0:∀i,∀x∈putAll (ks.take i),(VE (zW prog w)).is h0 x.1 x.2.1:=λi=>za8 (λa b=>(VE (zW prog w)).is h0 a b) _ [] (λx hx=>nomatch hx) λx hx=>hks x (Wq hx);intro k;induction k with
 | zero =>
  intro i s hk hi hst kp hS hR;have hin:i=n:=by lia
  subst hin;refine Wd QO ?_;rw[Wp x6 _];show Xy _ A.in1 (SV (.ref I) >>= _) _ _ s;refine ZB (W.done s _ _ hst λs' hm=>?_);show Xy _ A.in1 (Builtin.Dict.addKeywords D [] >>= λ_=>ret US) _ _ s';refine ZB (X4 (X4 (hR s' (hm.mono more) ?_)));have:=dict_to hm (keep_to hm kp) (keys0 _) hS;rw[<- hlen,XB]at this;exact this
 | succ k ih =>
  intro i s hk hi hst kp hS hR;have hlt:i<n:=by lia
  refine Wd QO ?_;rw[Wp x6 _];show Xy _ A.in1 (SV (.ref I) >>= _) _ _ s;refine ZB (W.item i s _ _ hlt hst λv s' hPv hst' hm=>?_);obtain⟨ta,q,rfl,hq,ht⟩:=hP i v hPv;have kp':=keep_to hm kp;have hS':=dict_to hm kp' (keys0 _) hS;have l1:=zb4 (ks.take i);have l2:(ks.take i).length<=n:=by
   rw[XA];lia
  have tk:ks.take (i+1)=ks.take i++[q]:=by
   rw[Xh,hq];rfl
  refine ZB (W1 (ZB (Rs (zek (tup_up kp' ht) ?_))));refine W1 (wpAny_dictSet_heap (show A.in1.units<U3 from hu) (key_up kp' (hks q (XZ hq))) hS' (λh' hd' hs'=>?_) (by lia));have kp2:∀b o,h0.get? b=some o->h'.get? b=some o:=λb o e=>by
   rw[hs'.2 b (λz=>by
    rw[z,hD0]at e;cases e)]
   exact kp' b o e
  have d2:h'.DictOfH (VE (zW prog w)) D (putAll (ks.take (i+1))):=by
   rw[tk,putAll_snoc];exact hd'
  refine X4 ⟨VC x6 _,?_⟩;show UX _ A (.builtin "dict.update.loop" ⟨[.ref D,.ref I,T2 ((i:Int)+1),.none],[]⟩) R _;rw[show ((i:Int)+1)=((i+1:Nat):Int) by lia];refine ih (i+1) _ (by lia) hlt (W.frame _ s' _ _ hst' (UF _ _) λb hb o e=>?_) kp2 d2 λs'' hm'' hS''=>?_
  .rw[hs'.2 b (λz=>hDf (by rw[<- z];exact hb))];exact e
  .refine hR s'' (Moved.trans W.gtrans ((hm.mono more).then_heap (UF _ _) λb o hb e=>?_) hm'') hS'';rw[hs'.2 b (λz=>hb (by rw[z];exact X2))];exact e
end
def zpr (H:Hp)(v:V)(kv:List Key×V):Prop:=∃a b,v=V.ref a/\H a=some (.tup [.ref b,kv.2])/\H b=some (.tup (kv.1.map kV))
def ye (H:Hp):AF->List (List Key×V)->Prop:=WU (zpr H)
def ye.mono {H H':Hp}(s:zq H H'){vs:AF}{kvs:List (List Key×V)}(hp:ye H vs kvs):ye H' vs kvs:=by
 induction hp with
 | nil=>exact .nil
 | cons q _ ih =>
  obtain⟨a,b,e,h1,h2⟩:=q;exact .cons ⟨a,b,e,s _ _ h1,s _ _ h2⟩ ih
def Y0 (kvs:List (List Key×V)):List (List Key×V):=kvs.foldl (λacc kv=>putK acc kv.1 kv.2) []
def KT.puts {H:Hp}{kvs:List (List Key×V)}{ks:List KQ}{acc:List (List Key×V)}{xs:List KQ}(hp:KT H kvs ks)(r:KT H acc xs):KT H (kvs.foldl (λacc kv=>putK acc kv.1 kv.2) acc) (ks.foldl (λacc q=>R1 acc q.1 q.2.1 q.2.2) xs):=by
 induction hp generalizing acc xs with
 | nil=>exact r
 | cons q _ ih =>
  obtain⟨h1,h2,h3⟩:=q;rw[VO,VO];refine ih ?_;rw[<- h1];exact r.put _ h2 h3
def zl0 {P:Xd}{w:WV}{H:Hp}{h:Heap}(ok:HOk P w H h){kvs:List (List Key×V)}{ks:List KQ}(hp:KT H kvs ks):∀x∈ks,(VE (zW P w)).is h x.1 x.2.1:=by
 induction hp with
 | nil=>exact λx hx=>nomatch hx
 | cons q _ ih =>
  intro x hx;rcases XQ.mp hx with e | hx
  .subst e;exact zaE ok (by rw[<- q.1];exact q.2.1)
  .exact ih x hx
def zl1 {P:Xd}{w:WV}{H:Hp}{h:Heap}(ok:HOk P w H h){vs:AF}{kvs:List (List Key×V)}{its:List X9}(hp:ye H vs kvs)(hv:Vals vs its):∃ks:List KQ,KT H kvs ks/\ks.length=its.length/\(∀(i:Nat) (v:X9),its[i]?=some v->∃(ta:Addr) (q:KQ),v=WN ta/\ks[i]?=some q/\Nu h ta #[.ref q.2.1,q.2.2]):=by
 induction hp generalizing its with
 | nil =>
  cases hv;exact⟨[],.nil,rfl,λi v e=>by simp at e⟩
 | @cons x kv xs ys q _ ih =>
  obtain⟨a,b,e,h1,h2⟩:=q;cases hv with
  | cons rv rs =>
  obtain⟨ks,k1,k2,k3⟩:=ih rs;subst e;cases rv;obtain⟨_,xs,r,tp⟩:=(show qI P w H h a (.tup [.ref b,kv.2]) from ok a _ h1);obtain⟨u,u2,rfl,ru,ru2⟩:=vals2 r;cases ru;refine⟨(kv.1,b,u2)::ks,.cons ⟨rfl,h2,ru2⟩ k1,by rw[XE,XE,k2],λi v e=>?_⟩;cases i with
  | zero =>
   have e':WN a=v:=by simpa using e
   exact⟨a,_,e'.symm,rfl,tp⟩
  | succ i =>
   obtain⟨ta,q,h1,h2,h3⟩:=k3 i v (by simpa using e);exact⟨ta,q,h1,by simpa using h2,h3⟩
section
variable {X:Cx}
set_option maxHeartbeats 8000000 in
theorem Z5 (hu:X.A.units+64<U3)(hh:X.A.handled=none):jw X (.type "dict") (λxs H Q=>∃l us kvs,xs=[.ref l]/\H l=some (.lst us)/\ye H us kvs/\∀d,H d=none->Q (.ref d) (upd H d (.dT (Y0 kvs)))):=by
 intro bQ s σ H xs us' Q I r h;obtain⟨l,us,kvs,rfl,hl,hp,q⟩:=h;obtain⟨u,rfl,ru⟩:=vals1 r;cases ru;obtain⟨hz,its,n,rv,e⟩:=(show qI X.prog X.w H s.heap l (.lst us) from I.hok l _ hl);obtain⟨ks,hkt,hkl,hraw⟩:=zl1 I.hok hp rv;have big:=I.big;have hil:its.length<=Xz:=by
  rw[<- rv.length];exact hz
 have hks:=zl0 I.hok hkt;refine callType_codes (Q₁:=λobj s₁=>obj=.ref s.heap.objs.size/\s₁={ s with heap:=s.heap.push { cls:=.type "dict",data:=.dict #[] } }) PySem.F.kt_called_dict (PySem.F.kt_typeCall_dict_1 _) PySem.F.entry_dict_init (kt_code_dict_new _ ⟨rfl,rfl⟩) ?_;rintro obj s₁ ⟨rfl,rfl⟩;have hnew:(s.heap.push { cls:=.type "dict",data:=.dict #[] }).DictOfH (VE (zW X.prog X.w)) s.heap.objs.size []:=Heap.DictOfH.new s.heap;have e1:(s.heap.push { cls:=.type "dict",data:=.dict #[] }).get? l=some { cls:=.type "list",dict:=none,data:=.seq its.toArray n,slots:=#[] }:=X6 _ e;refine⟨hnew.typeIs,PySem.F.args_dict_init_2 _ _,?_⟩;unfold UW.«dict.__init__»;refine ZB ?_;unfold Builtin.Dict.selfAndRest;refine ZB (wpAny_notOrdered_dict hnew.typeIs ?_);show Xy _ _ (pure (s.heap.objs.size,[WN l])) _ _ _;refine X4 ?_;show Xy _ _ (Pm "dict.__init__" s.heap.objs.size (.ref l) [] .none) _ _ _;unfold Pm;have hT:S8 { s with heap:=s.heap.push { cls:=.type "dict",data:=.dict #[] } } (.ref l) "list":=⟨_,e1,rfl⟩;refine ZB (Pe hT ?_);rw[bw (by decide)];refine ZB (zlZ e1 (by simp[hh]) λh2 t2 kp=>?_);rw[bw (show (none:Option X9).isNone=true from rfl)];have kp0:∀b o',s.heap.get? b=some o'->h2.get? b=some o':=λb o' z=>kp b o' (X6 _ z);have hl2:h2.IsList l its.toArray:=⟨_,kp _ _ e1,rfl,n,rfl⟩;refine ZB (UQ (ZB (Ur hl2 ?_)));have hls:l<s.heap.objs.size:=XJ e;have hDl:s.heap.objs.size<h2.objs.size:=by
  obtain⟨o,_,_,ho,_⟩:=hnew;exact XJ (kp _ _ ho)
 have hneI:l≠h2.objs.size:=Xk (Tl hls hDl);have hDf:s.heap.objs.size ∉ [h2.objs.size,l]:=by
  simp only[XQ,V6,or_false,not_or];exact⟨Xk hDl,Us hls⟩
 refine X4 ⟨VC x6 _,?_⟩;have hd2:(h2.push { cls:=.type "list_iterator",data:=.fields #[.ref l,.int 0 0] }).DictOfH (VE (zW X.prog X.w)) s.heap.objs.size []:=by
  obtain⟨o,es,ep,ho,h3,h4,h5,_,h6⟩:=hnew;exact⟨o,es,ep,X6 _ (kp _ _ ho),h3,h4,h5,(λx hx=>nomatch hx),h6⟩
 refine zgt (h0:=s.heap) ((Walks.list (by simp[hh]) h2.objs.size l hneI its.toArray).toS) s.heap.objs.size hDf (Uo (XU _)) (λb hb=>?_) ks (by rw[hkl];simp) (by simpa using hil) (by show X.A.units+1+1<U3;lia) hks (λi v hv=>hraw i v (by rw[<- hv];simp)) _ 0 _ rfl (W7 _)
  ⟨⟨_,Xe _ rfl,rfl,rfl⟩,hl2.push _⟩ (λb o z=>X6 _ (kp0 b o z)) hd2 ?_
 .have e:b=h2.objs.size:=by simpa using hb
  rw[e];exact Uo (UJ hDl)
 .intro s' hm hS';obtain⟨h',g',d',tk',os'⟩:=s';have eg:g'=s.gens:=hm.gens;have ed:d'=s.drawn:=hm.drawn;have eo:os'=s.os:=hm.os;subst eg;subst ed;subst eo;have kp3:∀b o',s.heap.get? b=some o'->h'.get? b=some o':=λb o' z=>by
   have lt:=XJ z;refine hm.heap b o' (λhb=>?_) (X6 _ (kp0 b o' z));rcases XQ.mp hb with e | hb
   .exact V8 _ (e ▸ lt)
   .have e:b=h2.objs.size:=by simpa using hb
    rw[e]at lt;exact V8 _ (Tl lt hDl)
  obtain⟨o,es,ep,ho,h3,h4,h5,_,h6⟩:=hS';have hkk:KT H (Y0 kvs) (putAll ks):=KT.puts hkt .nil;have hfresh:H s.heap.objs.size=none:=I.hok.fresh (XU _);refine⟨rfl,.ref s.heap.objs.size,_,I.laid (a:=s.heap.objs.size) (o:=.dT (Y0 kvs)) (t':=tk') kp3 (XU _) ⟨?_,beq_eq_false_iff_ne.mpr (Vm (Xk big)),_,KT.keeps hkk λb ys hb=>?_,o,es,ep,ho,h3,h4,h5,h6⟩,rfl,q _ hfresh⟩
  .rw[Paired.length hkk];exact X0 (zb4 ks) (by rw[hkl];exact hil)
  .rw[zk (zh hb hfresh)];exact hb
end
def u1 {A:PySem.Around}(h:A.units+64<PySem.cLine):A.units+1<PySem.cLine:=by lia
section
variable {K:XY}{g:TG}{tc:TT}{te:TE}{Q:VK}{σ0:St}{D:Addr}
def zjU {l1 l2:Addr}{xs ys:AF}(Pv:Nat->St->Hp->Prop){H:Hp}(he:xs.length=ys.length)(h0:Pv 0 σ0 H)(hl:∀i σ H,i<=xs.length->Pv i σ H->SqL K H l1 xs/\SqL K H l2 ys)
  (hs:∀i x y T σ H,xs[i]?=some x->ys[i]?=some y->H T=none->Pv i σ H->g (.ref T) σ (upd H T (.tup [x,y])) fun σ2 H3=>tc σ2 H3 λb H4=>if b=true then te σ2 H4 λy H5=>∃zs,H5 D=some (.lst zs)/\zs.length<Xz/\Pv (i+1) σ2 (upd H5 D (.lst (zs++[y]))) else Pv (i+1) σ2 H4)
  (hd:∀ σ H,Pv xs.length σ H->Q (.ref D) H):yv (Itz K l1 l2) g tc te Q D σ0 H:=by
 refine⟨λi m σ H=>m=xs.length-i/\i<=xs.length/\Pv i σ H,⟨xs.length,by simp,W7 _,h0⟩,?_⟩;rintro i m σ H ⟨rfl,hi,p⟩;obtain⟨q1,q2⟩:=hl i σ H hi p;by_cases hlt:i<xs.length
 .refine .inr ⟨⟨xs,ys,q1,q2,hlt,by lia⟩,Pv (i+1),fun σ' H' p'=>⟨xs.length-(i+1),by lia,rfl,hlt,p'⟩,λx H' y=>?_⟩;obtain⟨T,rfl,hT,y⟩:=y;obtain⟨v,v',hv,hv',rfl⟩:=y xs ys q1 q2;exact hs i v v' T σ H hv hv' hT p
 .have e:i=xs.length:=by lia
  subst e;exact .inl ⟨⟨xs,ys,q1,q2,by lia⟩,hd σ H p⟩
end
theorem ye.into {H:Hp}(z:Addr)(o:HO){old:AF}(hz:H z=some (.lst old)):∀{vs:AF} {kvs:List (List Key×V)},ye H vs kvs->ye (upd H z o) vs kvs
 | _,_,.nil=>.nil
 | _,_,.cons ⟨a,b,e,h1,h2⟩ t=>.cons ⟨a,b,e,by rw[zk (zdc h1 hz (by intro y;cases y))];exact h1,by rw[zk (zdc h2 hz (by intro y;cases y))];exact h2⟩ (ye.into z o hz t)
theorem ye.snoc {H:Hp}{vs:AF}{kvs:List (List Key×V)}{v:V}{kv:List Key×V}(h:ye H vs kvs)(x:zpr H v kv):ye H (vs++[v]) (kvs++[kv]):=Paired.snoc h x
theorem ye.length {H:Hp}{vs:AF}{kvs:List (List Key×V)}(h:ye H vs kvs):vs.length=kvs.length:=Paired.length h
theorem zaF {v:V}{k:List Key}:∀(ks:List (List Key)) (acc:List (List Key×V)),(k∈ks\/jY acc k=some v)->jY ((ks.map λx=>(x,v)).foldl (λacc kv=>putK acc kv.1 kv.2) acc) k=some v
 | [],acc,h=>by
  rcases h with h | h
  .cases h
  .exact h
 | x::r,acc,h=>by
  rw[Xf,VO];refine zaF r _ ?_;rw[zfd];by_cases e:k=x
  .rw[bw e];exact .inr rfl
  .rw[bq e];rcases h with h | h
   .rcases XQ.mp h with h | h
    .exact absurd h e
    .exact .inl h
   .exact .inr h
section
variable {prog:Xd}{w:WV}{A:WT}{E:X9->X8->Prop}{s:X8}{d o a:Addr}{xs ys:List KQ}{k:List Key}{v:X9}
abbrev tk2 (prog:Xd)(w:WV):HeapKind prog w (List Key):=VE (zW prog w)
end
def HH (i j:Nat):Int:=reduceHash (Builtin.Tuple.tupleHashOf [Ud (i:Int),Ud (j:Int)])
def QS (prog:Xd)(w:WV)(i j:Nat):(tk2 prog w).hash [.inl ((i:Nat):Int),.inl ((j:Nat):Int)]=HH i j:=by
 show tupleKeyHash (zW prog w) [.inl ((i:Nat):Int),.inl ((j:Nat):Int)]=HH i j;unfold tupleKeyHash HH;rw[Xf,Xf,NJ];have e:∀n:Nat,(zW prog w).hash (.inl ((n:Nat):Int))=Ud ((n:Nat):Int):=λn=>by
  show zno w (.inl ((n:Nat):Int))=_;unfold zno;with_reducible rfl
 rw[e,e]
def zn0:(Xp 64).all λn=>(Xp 64).all λm=>decide (HH (n/8) (n%8)=HH (m/8) (m%8))==decide (n=m):=by decide+kernel
def zjV {i j i' j':Nat}(h1:i<8)(h2:j<8)(h3:i'<8)(h4:j'<8)(e:HH i j=HH i' j'):i=i'/\j=j':=by
 have h:=zn0;rw[Wx]at h;have a:=h (8*i+j) (Xq.mpr (by lia));rw[Wx]at a;have b:=a (8*i'+j') (Xq.mpr (by lia));rw[show (8*i+j)/8=i by lia,show (8*i+j)%8=j by lia,show (8*i'+j')/8=i' by lia,show (8*i'+j')%8=j' by lia,br e]at b;have c:decide (8*i+j=8*i'+j')=true:=by simpa using b
 have d:=bh c;lia
section
variable {X:Cx}
def zfi:jw X (.type "str") (λxs H Q=>∃v z,xs=[v]/\(v=V.str z\/∃i:Int,v=V.int i/\i.natAbs.log2<1920/\z=toString i)/\Q (.str z) H):=by
 intro bQ s σ H xs us Q I r h;obtain⟨v,z,rfl,h,q⟩:=h;rcases h with rfl | ⟨i,rfl,hz,rfl⟩
 .exact zee bQ s σ H _ us Q I r ⟨z,rfl,q⟩
 .exact ZI bQ s σ H _ us Q I r ⟨i,rfl,hz,q⟩
end
open PySem
namespace ST
def run (mask i:Nat):List Nat:=(Xp (Vq mask i+1-i)).map (i + ·)
def walk (mask:Nat):Nat->Nat->Nat->List Nat
 | 0,_,_=>[]
 | f+1,i,p=>run mask i++walk mask f (U2 mask i p).1 (U2 mask i p).2
def zl2 (mask i:Nat):1<=(run mask i).length/\(run mask i).length<=10:=by
 unfold run Vq;rw[Y1,W4];split<;>lia
theorem zb5 (mask:Nat):∀f i p,(walk mask f i p).length<=10*f
 | 0,_,_=>XU _
 | f+1,i,p=>by
  rw[walk,XS];have:=(zl2 mask i).2;have:=zb5 mask f (U2 mask i p).1 (U2 mask i p).2;lia
def steps (t:Wr):Nat->Rr->Rr
 | 0,p=>p
 | n+1,p=>steps t n (t.advance p)
theorem zaG (t:Wr):∀n m p,steps t (n+m) p=steps t m (steps t n p)
 | 0,m,p=>by rw[VL];rfl
 | n+1,m,p=>by
  rw[show n+1+m=(n+m)+1 from by lia];exact zaG t n m (t.advance p)
theorem zaH (t:Wr)(i pt:Nat)(dm:Option Nat):∀(d r j:Nat),d<=r->steps t d { j:=j,more:=r,i:=i,perturb:=pt,dummy:=dm }={ j:=j+d,more:=r-d,i:=i,perturb:=pt,dummy:=dm }
 | 0,r,j,_=>rfl
 | d+1,r,j,h=>by
  have e:t.advance { j:=j,more:=r,i:=i,perturb:=pt,dummy:=dm }={ j:=j+1,more:=r-1,i:=i,perturb:=pt,dummy:=dm }:=by
   unfold Ps;rw[bw (by show r>0;lia)]
  show steps t d (t.advance _)=_;rw[e,zaH t i pt dm d (r-1) (j+1) (by lia)];congr 1<;>lia
def YG (mask i pt:Nat)(dm:Option Nat):Rr:={ j:=i,more:=Vq mask i-i,i:=i,perturb:=pt,dummy:=dm }
def zaI (mask i:Nat):i<=Vq mask i:=by
 unfold Vq;split<;>lia
def zgu (t:Wr)(i pt:Nat)(dm:Option Nat):steps t (run t.mask i).length (YG t.mask i pt dm)=YG t.mask (U2 t.mask i pt).1 (U2 t.mask i pt).2 dm:=by
 have hl:(run t.mask i).length=(Vq t.mask i-i)+1:=by
  unfold run;rw[Y1,W4];have:=zaI t.mask i;lia
 rw[hl,zaG];unfold YG;rw[zaH t i pt dm _ _ _ (XU _),Sz];rw[steps,steps];unfold Ps;rw[bq (by show ¬ 0>0;lia)]
theorem Jr (t:Wr):∀(f i pt:Nat) (dm:Option Nat) (n:Nat) (j:Nat),(walk t.mask f i pt)[n]?=some j->(steps t n (YG t.mask i pt dm)).j=j
 | 0,_,_,_,_,_,h=>by simp[walk]at h
 | f+1,i,pt,dm,n,j,h=>by
  rw[walk]at h;by_cases hn:n<(run t.mask i).length
  .rw[VV hn]at h;unfold run at h;rw[Xn,UK (by unfold run at hn;simpa using hn)]at h;have hl:(run t.mask i).length=(Vq t.mask i-i)+1:=by
    unfold run;rw[Y1,W4];have:=zaI t.mask i;lia
   unfold YG;rw[zaH t i pt dm n _ _ (by lia)];exact Option.some.inj h
  .rw[VD (by lia)]at h;have e:n=(run t.mask i).length+(n-(run t.mask i).length):=by lia
   rw[e,zaG,zgu];exact Jr t f _ _ dm _ j h
theorem zel (t:Wr)(Vk:Nat->Int)(h:Int):∀(n F:Nat) (p:Rr),(∀k,k<n->∃i,t.slot (steps t k p).j=.live i/\(Vk i==h)=false)->n<=F->TF t Vk h F p=TF t Vk h (F-n) (steps t n p)
 | 0,F,p,_,_=>rfl
 | n+1,F,p,hk,hF=>by
  obtain⟨F',rfl⟩:∃F',F=F'+1:=⟨F-1,by lia⟩;obtain⟨i,h1,h2⟩:=hk 0 (by lia);have h1':t.slot p.j=.live i:=h1;rw[TF,h1'];show (if (Vk i==h)=true then _ else _)=_;rw[bq (by rw[h2];decide),zel t Vk h n F' (t.advance p) (λk hk'=>hk (k+1) (by lia)) (by lia),Nat.add_sub_add_right];rfl
def Up (xs:Array Nat):Prop:=∀i j,i<j->j<xs.size->xs.getD i 0<xs.getD j 0
def zjW {xs:Array Nat}(U:Up xs)(j:Nat):∀(f lo hi:Nat),hi-lo<=f->lo<=hi->hi<=xs.size->(∀i,i<lo->xs.getD i 0<j)->(∀i,hi<=i->i<xs.size->j<=xs.getD i 0) ->
  Vj xs j f lo hi<=xs.size/\(∀i,i<Vj xs j f lo hi->xs.getD i 0<j)/\(∀i,Vj xs j f lo hi<=i->i<xs.size->j<=xs.getD i 0):=by
 intro f;induction f with
 | zero =>
  intro lo hi hf hl hs h1 h2;have:lo=hi:=by lia
  subst this;exact⟨hs,h1,h2⟩
 | succ f ih =>
  intro lo hi hf hl hs h1 h2;by_cases hlt:lo<hi
  .have hm:(lo+hi)/2<hi:=by lia
   have hm2:lo<=(lo+hi)/2:=by lia
   have hms:(lo+hi)/2<xs.size:=by lia
   have e:xs.getD ((lo+hi)/2) j=xs.getD ((lo+hi)/2) 0:=by
    simp[Array.getD,hms]
   have e2:Vj xs j (f+1) lo hi=if xs.getD ((lo+hi)/2) 0<j then Vj xs j f ((lo+hi)/2+1) hi else Vj xs j f lo ((lo+hi)/2):=by
    rw[Vj,bw hlt];show (if xs.getD ((lo+hi)/2) j<j then _ else _)=_;rw[e]
   by_cases hx:xs.getD ((lo+hi)/2) 0<j
   .rw[e2,bw hx];refine ih ((lo+hi)/2+1) hi (by lia) (by lia) hs (λi hi'=>?_) h2;by_cases he:i=(lo+hi)/2
    .rw[he];exact hx
    .exact Tl (U i ((lo+hi)/2) (by lia) hms) hx
   .rw[e2,bq hx];refine ih lo ((lo+hi)/2) (by lia) (by lia) (by lia) h1 (λi hi' hi2=>?_);by_cases he:i=(lo+hi)/2
    .rw[he];lia
    .have:=U ((lo+hi)/2) i (by lia) hi2;lia
  .rw[Vj,bq hlt];have:lo=hi:=by lia
   subst this;exact⟨hs,h1,h2⟩
def Js {xs:Array Nat}(U:Up xs)(j:Nat):Xv xs j<=xs.size/\(∀i,i<Xv xs j->xs.getD i 0<j)/\(∀i,Xv xs j<=i->i<xs.size->j<=xs.getD i 0) :=
 zjW U j xs.size 0 xs.size (by lia) (W7 _) (XU _) (λ_ h=>absurd h (SY _)) (λi h1 h2=>absurd h2 (by lia))
def Jt {xs:Array Nat}{i:Nat}(h:i<xs.size):xs[i]?=some (xs.getD i 0):=by
 simp[Array.getD,h]
def Ji {t:Wr}(U:Up t.place){i:Nat}(hi:i<t.place.size):t.slot (t.place.getD i 0)=.live i:=by
 have b:=Js U (t.place.getD i 0);have e:Xv t.place (t.place.getD i 0)=i:=by
  rcases PZ (Xv t.place (t.place.getD i 0)) i with h | h | h
  .have h1:=b.2.2 _ (XU _) (by lia);have h2:=U _ i h hi;lia
  .exact h
  .have:=b.2.1 i h;lia
 unfold SetTable.slot;simp only[e,Jt hi];rw[bw (by simp)]
def slot_of {t:Wr}(U:Up t.place)(hd:t.dummies=#[])(j:Nat):(∃i,i<t.place.size/\t.place.getD i 0=j/\t.slot j=.live i)\/(t.slot j=.empty/\∀i,i<t.place.size->t.place.getD i 0≠j):=by
 by_cases h:∃i,i<t.place.size/\t.place.getD i 0=j
 .obtain⟨i,hi,rfl⟩:=h;exact .inl ⟨i,hi,rfl,Ji U hi⟩
 .have hn:∀i,i<t.place.size->t.place.getD i 0≠j:=λi hi e=>h ⟨i,hi,e⟩;refine .inr ⟨?_,hn⟩;unfold SetTable.slot;have h1:¬ ((t.place[Xv t.place j]?==some j)=true):=λz=>by
   have z':t.place[Xv t.place j]?=some j:=by simpa using z
   have hl:Xv t.place j<t.place.size:=by
    rcases Sy (Xv t.place j) t.place.size with q | q
    .exact q
    .rw[WC q]at z';cases z'
   rw[Jt hl]at z';exact hn _ hl (Option.some.inj z')
  simp only[];rw[bq h1,hd];rfl
def Reach (t:Wr)(h:Int)(j:Nat):Prop:=∃n:Nat,(walk t.mask (W5 t.mask) (XG h%(t.mask+1)) (XG h))[n]?=some j/\∀k:Nat,k<n->∀j',(walk t.mask (W5 t.mask) (XG h%(t.mask+1)) (XG h))[k]?=some j'->∃i,i<t.place.size/\t.place.getD i 0=j'
def QT (t:Wr)(h:Int):t.probeStart h=YG t.mask (XG h%(t.mask+1)) (XG h) none:=rfl
theorem zfj (t:Wr):∀n p,(steps t n p).dummy=p.dummy
 | 0,_=>rfl
 | n+1,p=>by
  rw[steps,zfj t n];unfold Ps;split<;>rfl
def zfk {t:Wr}(U:Up t.place)(Vk:Nat->Int){h:Int}{i:Nat}(hi:i<t.place.size)(eh:Vk i=h)(one:∀i',i'<t.place.size->Vk i'=h->i'=i)(R:Reach t h (t.place.getD i 0)):∃nx,t.probe Vk h (t.probeStart h)=some (.candidate (t.place.getD i 0) i nx):=by
 obtain⟨n,hn,hk⟩:=R;have hlen:=(XW.mp hn).1;have wl:=zb5 t.mask (W5 t.mask) (XG h%(t.mask+1)) (XG h);have key:∀m:Nat,m<=n->(∀k,k<m->∃i',t.slot (steps t k (t.probeStart h)).j=.live i'/\(Vk i'==h)=false)\/∃m',m'<m/\(∀k,k<m'->∃i',t.slot (steps t k (t.probeStart h)).j=.live i'/\(Vk i'==h)=false)/\t.slot (steps t m' (t.probeStart h)).j=.live i/\(steps t m' (t.probeStart h)).j=t.place.getD i 0:=λm=>by
  induction m with
  | zero=>exact λ_=>.inl λk hk=>absurd hk (SY _)
  | succ m ih =>
   intro hm;rcases ih (by lia) with h1 | ⟨m',a,b⟩
   .have hw:∃j',(walk t.mask (W5 t.mask) (XG h%(t.mask+1)) (XG h))[m]?=some j':=⟨_,X5 (by lia)⟩;obtain⟨j',hj'⟩:=hw;obtain⟨i',hi',ei'⟩:=hk m (by lia) j' hj';have ej:(steps t m (t.probeStart h)).j=j':=by
     rw[QT];exact Jr t _ _ _ none m j' hj'
    have sl:t.slot (steps t m (t.probeStart h)).j=.live i':=by
     rw[ej,<- ei'];exact Ji U hi'
    by_cases he:Vk i'=h
    .have:=one i' hi' he;subst this;exact .inr ⟨m,by lia,h1,sl,by rw[ej,ei']⟩
    .refine .inl λk hk'=>?_;by_cases hkm:k=m
     .subst hkm;exact⟨i',sl,by simpa using he⟩
     .exact h1 k (by lia)
   .exact .inr ⟨m',by lia,b⟩
 have fin:∀m:Nat,m<10*W5 t.mask->(∀k,k<m->∃i',t.slot (steps t k (t.probeStart h)).j=.live i'/\(Vk i'==h)=false)->t.slot (steps t m (t.probeStart h)).j=.live i->(steps t m (t.probeStart h)).j=t.place.getD i 0->∃nx,t.probe Vk h (t.probeStart h)=some (.candidate (t.place.getD i 0) i nx):=λm hm hp sl ej=>by
  unfold SetTable.probe;rw[zel t Vk h m _ _ hp (by lia)];obtain⟨F',hF⟩:∃F',10*W5 t.mask-m=F'+1:=⟨10*W5 t.mask-m-1,by lia⟩;rw[hF,TF,sl];simp only[];rw[bw (by simpa using eh),ej];exact⟨_,rfl⟩
 rcases key n (XU _) with h1 | ⟨m',a,b,c,d⟩
 .have ej:(steps t n (t.probeStart h)).j=t.place.getD i 0:=by
   rw[QT];exact Jr t _ _ _ none n _ hn
  exact fin n (by lia) h1 (by rw[ej];exact Ji U hi) ej
 .exact fin m' (by lia) b c d
def QU {t:Wr}(U:Up t.place)(hd:t.dummies=#[])(Vk:Nat->Int){h:Int}(no:∀i,i<t.place.size->Vk i≠h){e:Nat}(he:∀i,i<t.place.size->t.place.getD i 0≠e)(hw:e∈walk t.mask (W5 t.mask) (XG h%(t.mask+1)) (XG h)) :
  ∃j,t.probe Vk h (t.probeStart h)=some (.empty j none)/\t.slot j=.empty/\Reach t h j/\j∈walk t.mask (W5 t.mask) (XG h%(t.mask+1)) (XG h):=by
 obtain⟨N,hN⟩:=OL.mp hw;have hlen:=(XW.mp hN).1;have wl:=zb5 t.mask (W5 t.mask) (XG h%(t.mask+1)) (XG h);have key:∀m:Nat,m<=N+1->(∀k:Nat,k<m->∀j',(walk t.mask (W5 t.mask) (XG h%(t.mask+1)) (XG h))[k]?=some j'->∃i,i<t.place.size/\t.place.getD i 0=j')\/∃m' j:Nat,m'<m/\(walk t.mask (W5 t.mask) (XG h%(t.mask+1)) (XG h))[m']?=some j/\t.slot j=.empty/\(∀k:Nat,k<m'->∀j',(walk t.mask (W5 t.mask) (XG h%(t.mask+1)) (XG h))[k]?=some j'->∃i,i<t.place.size/\t.place.getD i 0=j'):=λm=>by
  induction m with
  | zero=>exact λ_=>.inl λk hk=>absurd hk (SY _)
  | succ m ih =>
   intro hm;rcases ih (by lia) with h1 | ⟨m',j,a,b⟩
   .obtain⟨j',hj'⟩:∃j',(walk t.mask (W5 t.mask) (XG h%(t.mask+1)) (XG h))[m]?=some j':=⟨_,X5 (by lia)⟩;rcases slot_of U hd j' with ⟨i,hi,ei,_⟩ | ⟨se,_⟩
    .refine .inl λk hk' j2 hj2=>?_;by_cases hkm:k=m
     .subst hkm;rw[hj']at hj2;exact⟨i,hi,by rw[ei];exact Option.some.inj hj2⟩
     .exact h1 k (by lia) j2 hj2
    .exact .inr ⟨m,j',by lia,hj',se,h1⟩
   .exact .inr ⟨m',j,by lia,b⟩
 rcases key (N+1) (XU _) with h1 | ⟨m',j,a,b,c,d⟩
 .obtain⟨i,hi,ei⟩:=h1 N (by lia) e hN;exact absurd ei (he i hi)
 .refine⟨j,?_,c,⟨m',b,d⟩,XZ b⟩;have ej:(steps t m' (t.probeStart h)).j=j:=by
   rw[QT];exact Jr t _ _ _ none m' j b
  have hp:∀k,k<m'->∃i',t.slot (steps t k (t.probeStart h)).j=.live i'/\(Vk i'==h)=false:=λk hk=>by
   obtain⟨j',hj'⟩:∃j',(walk t.mask (W5 t.mask) (XG h%(t.mask+1)) (XG h))[k]?=some j':=⟨_,X5 (by lia)⟩;obtain⟨i,hi,ei⟩:=d k hk j' hj';refine⟨i,?_,by simpa using no i hi⟩;have:(steps t k (t.probeStart h)).j=j':=by
    rw[QT];exact Jr t _ _ _ none k j' hj'
   rw[this,<- ei];exact Ji U hi
  unfold SetTable.probe;rw[zel t Vk h m' _ _ hp (by lia)];obtain⟨F',hF⟩:∃F',10*W5 t.mask-m'=F'+1:=⟨10*W5 t.mask-m'-1,by lia⟩;rw[hF,TF,ej,c];simp only[zfj];rfl
def orb (m:Nat):Nat->Nat->Nat
 | 0,i=>i
 | n+1,i=>orb m n ((i*5+1)%m)
def zio (m:Nat):Nat->Nat->List Nat
 | 0,_=>[]
 | n+1,i=>i::zio m n ((i*5+1)%m)
theorem zb6 (m:Nat):∀(n i e:Nat),e∈zio m n i->∃k,k<n/\orb m k i=e
 | 0,_,_,h=>nomatch h
 | n+1,i,e,h=>by
  rcases XQ.mp h with rfl | h
  .exact⟨0,Tk _,rfl⟩
  .obtain⟨k,hk,q⟩:=zb6 m n _ e h;exact⟨k+1,by lia,q⟩
theorem zbA (m:Nat):∀a b i,orb m (a+b) i=orb m b (orb m a i)
 | 0,b,i=>by rw[VL];rfl
 | a+1,b,i=>by
  rw[show a+1+b=(a+b)+1 from by lia];exact zbA m a b _
def full {m:Nat}(h1:∀e,e<m->e∈zio m m 0)(h2:orb m m 0=0){i e:Nat}(hi:i<m)(he:e<m):∃k,k<m+1/\orb m k i=e:=by
 obtain⟨a,ha,ea⟩:=zb6 m m 0 i (h1 i hi);obtain⟨b,hb,eb⟩:=zb6 m m 0 e (h1 e he);rcases Sy b a with q | q
 .refine⟨m-a+b,by lia,?_⟩;rw[<- ea,<- zbA,show a+(m-a+b)=m+b from by lia,zbA,h2,eb]
 .refine⟨b-a,by lia,?_⟩;rw[<- ea,<- zbA,show a+(b-a)=b from by lia,eb]
def zm5:(∀e,e<8->e∈zio 8 8 0)/\orb 8 8 0=0:=by decide+kernel
def zjX:(∀e,e<32->e∈zio 32 32 0)/\orb 32 32 0=0:=by decide+kernel
def zhw:(∀e,e<128->e∈zio 128 128 0)/\orb 128 128 0=0:=by decide+kernel
def Zb (mask:Nat):Nat->Nat->Nat->AA
 | 0,i,p=>(i,p)
 | n+1,i,p=>Zb mask n (U2 mask i p).1 (U2 mask i p).2
theorem zdp (mask:Nat):∀a b i p,Zb mask (a+b) i p=Zb mask b (Zb mask a i p).1 (Zb mask a i p).2
 | 0,b,i,p=>by rw[VL];rfl
 | a+1,b,i,p=>by
  rw[show a+1+b=(a+b)+1 from by lia];exact zdp mask a b _ _
theorem zhx (mask:Nat):∀n i p,(Zb mask n i p).2=p/32^n
 | 0,i,p=>by rw[Nat.pow_zero,Nat.div_one];rfl
 | n+1,i,p=>by
  rw[Zb,zhx mask n];show p/32/32^n=_;rw[Nat.div_div_eq_div_mul,TZ,Tn]
theorem zfl (mask:Nat):∀n i p,i<mask+1->(Zb mask n i p).1<mask+1
 | 0,i,p,h=>h
 | n+1,i,p,h=>zfl mask n _ _ (SQ _ (Tk _))
theorem zdq (mask:Nat):∀n i,(Zb mask n i 0).1=orb (mask+1) n i
 | 0,_=>rfl
 | n+1,i=>by
  have e1:(U2 mask i 0).1=(i*5+1)%(mask+1):=rfl;have e2:(U2 mask i 0).2=0:=rfl;rw[Zb,e1,e2];exact zdq mask n _
theorem head_mem (mask:Nat):∀(f n i p:Nat),n<f->(Zb mask n i p).1∈walk mask f i p
 | 0,_,_,_,h=>absurd h (SY _)
 | f+1,0,i,p,_=>by
  rw[walk];refine Xi _ ?_;unfold run;refine XO.mpr ⟨0,Xq.mpr ?_,by rfl⟩;have:=zaI mask i;lia
 | f+1,n+1,i,p,h=>by
  rw[walk];exact XC _ (head_mem mask f n _ _ (by lia))
def zb7 {mask:Nat}(hm:mask=7\/mask=31\/mask=127)(h:Int){e:Nat}(he:e<mask+1):e∈walk mask (W5 mask) (XG h%(mask+1)) (XG h):=by
 have hb:XG h<2^64:=by
  unfold XG;have h1:=RI h (show (2^64:Int)≠0 by decide);have h2:=SN h (show (0:Int)<2^64 by decide);lia
 have hp:(Zb mask 13 (XG h%(mask+1)) (XG h)).2=0:=by
  rw[zhx];exact Nat.div_eq_of_lt (Tl hb (by decide))
 have hi:=zfl mask 13 (XG h%(mask+1)) (XG h) (SQ _ (Tk _));obtain⟨k,hk,ek⟩:∃k,k<mask+1+1/\orb (mask+1) k (Zb mask 13 (XG h%(mask+1)) (XG h)).1=e:=by
  rcases hm with rfl | rfl | rfl
  .exact full zm5.1 zm5.2 hi he
  .exact full zjX.1 zjX.2 hi he
  .exact full zhw.1 zhw.2 hi he
 have hh:=head_mem mask (W5 mask) (13+k) (XG h%(mask+1)) (XG h) (by unfold W5;lia);rw[zdp,hp,zdq,ek]at hh;exact hh
def xy {α:Type}(xs:Array α){p:Nat}(x:α):(Xw xs p x).toList=xs.toList.take p++x::xs.toList.drop p:=by
 unfold Xw;simp;rw[WD (by rw[Vp,X7];lia)]
def zjY {α:Type}(xs:Array α){p:Nat}(hp:p<=xs.size)(x:α)(i:Nat):(Xw xs p x)[i]?=if i<p then xs[i]? else if i=p then some x else xs[i-1]?:=by
 have hl:(xs.toList.take p).length=p:=by
  rw[XA,X7];lia
 rw[<- Xr,xy];by_cases h1:i<p
 .rw[bw h1,VV (by lia),PK h1,Xr]
 .rw[bq h1,VD (by lia),hl];by_cases h2:i=p
  .rw[bw h2,h2,Sz];rfl
  .rw[bq h2,show i-p=(i-p-1)+1 from by lia,Pl,SM,Xr];congr 1;lia
def qP {α:Type}(xs:Array α){p:Nat}(hp:p<=xs.size)(x:α):(Xw xs p x).size=xs.size+1:=by
 rw[<- X7,xy,XS,XE,XA,Vp,X7];lia
def Zc (xs:Array Nat){p:Nat}(hp:p<=xs.size)(x i:Nat)(hi:i<xs.size+1):(Xw xs p x).getD i 0=if i<p then xs.getD i 0 else if i=p then x else xs.getD (i-1) 0:=by
 have h:=zjY xs hp x i;rw[Jt (by rw[qP xs hp x];exact hi)]at h;by_cases h1:i<p
 .rw[bw h1]at h ⊢;rw[Jt (by lia)]at h;exact Option.some.inj h
 .rw[bq h1]at h ⊢;by_cases h2:i=p
  .rw[bw h2]at h ⊢;exact Option.some.inj h
  .rw[bq h2]at h ⊢;rw[Jt (by lia)]at h;exact Option.some.inj h
def zgv {t:Wr}(U:Up t.place)(hd:t.dummies=#[]){j:Nat}(he:∀i,i<t.place.size->t.place.getD i 0≠j):(t.put j).2=Xv t.place j/\(t.put j).1={ t with place:=Xw t.place (Xv t.place j) j }/\Up (Xw t.place (Xv t.place j) j):=by
 have b:=Js U j;refine⟨rfl,?_,λa c hac hc=>?_⟩
 .unfold SetTable.put;simp only[hd];rfl
 .rw[qP _ b.1]at hc;rw[Zc _ b.1 _ _ (by lia),Zc _ b.1 _ _ hc];have lo:∀i,i<Xv t.place j->t.place.getD i 0<j:=b.2.1;have hi:∀i,Xv t.place j<=i->i<t.place.size->j<t.place.getD i 0:=λi h1 h2=>by
   have:=b.2.2 i h1 h2;have:=he i h2;lia
  by_cases a1:a<Xv t.place j
  .rw[bw a1];by_cases c1:c<Xv t.place j
   .rw[bw c1];exact U a c hac (by lia)
   .rw[bq c1];by_cases c2:c=Xv t.place j
    .rw[bw c2];exact lo a a1
    .rw[bq c2];have h1:=lo a a1;have h2:=hi (c-1) (by lia) (by lia);lia
  .have c1:¬ c<Xv t.place j:=by lia
   have c2:¬ c=Xv t.place j:=by lia
   rw[bq a1,bq c1,bq c2];by_cases a2:a=Xv t.place j
   .rw[bw a2];exact hi (c-1) (by lia) (by lia)
   .rw[bq a2];exact U (a-1) (c-1) (by lia) (by lia)
def Reach.more {t t':Wr}(hm:t'.mask=t.mask)(hp:∀i,i<t.place.size->∃i',i'<t'.place.size/\t'.place.getD i' 0=t.place.getD i 0){h:Int}{j:Nat}(R:Reach t h j):Reach t' h j:=by
 obtain⟨n,h1,h2⟩:=R;unfold Reach;rw[hm];refine⟨n,h1,λk hk j' hj'=>?_⟩;obtain⟨i,hi,ei⟩:=h2 k hk j' hj';obtain⟨i',hi',ei'⟩:=hp i hi;exact⟨i',hi',ei'.trans ei⟩
def zjZ {t:Wr}(U:Up t.place)(j:Nat):∀i,i<t.place.size->∃i',i'<(Xw t.place (Xv t.place j) j).size/\(Xw t.place (Xv t.place j) j).getD i' 0=t.place.getD i 0:=λi hi=>by
 have b:=Js U j;by_cases h:i<Xv t.place j
 .refine⟨i,by rw[qP _ b.1];lia,?_⟩;rw[Zc _ b.1 _ _ (by lia),bw h]
 .refine⟨i+1,by rw[qP _ b.1];lia,?_⟩;rw[Zc _ b.1 _ _ (by lia),bq (by lia),bq (by lia),Ri]
theorem zhy (mask:Nat)(owner:Array (Option Nat)):∀(f i p:Nat),SetTable.layClean.free mask owner f i p=(walk mask f i p).find? λj=>(owner.getD j (some 0)).isNone
 | 0,_,_=>rfl
 | f+1,i,p=>by
  rw[SetTable.layClean.free,walk,List.find?_append];unfold run;rw[List.find?_map];have e:((λj=>(owner.getD j (some 0)).isNone)∘λx=>i+x)=λk=>(owner.getD (i+k) (some 0)).isNone:=rfl;rw[e];cases h:(Xp (Vq mask i+1-i)).find? λk=>(owner.getD (i+k) (some 0)).isNone with
  | some k=>rfl
  | none =>
   simp only[Option.map_none,Option.none_or];exact zhy mask owner f _ _
structure Own (mask:Nat)(hs:List Int)(owner:Array (Option Nat))(k:Nat):Prop where
 sz:owner.size=mask+1
 few:(owner.toList.countP λo=>o.isNone)+k=mask+1
 at_:∀i,i<k->∃j:Nat,owner[j]?=some (some i)/\∃n:Nat,(walk mask (W5 mask) (XG (hs.getD i 0)%(mask+1)) (XG (hs.getD i 0)))[n]?=some j/\∀m:Nat,m<n->∀j':Nat,(walk mask (W5 mask) (XG (hs.getD i 0)%(mask+1)) (XG (hs.getD i 0)))[m]?=some j'->∃o,owner[j']?=some (some o)
 lt:∀j i:Nat,owner[j]?=some (some i)->i<k
 inj:∀j j' i:Nat,owner[j]?=some (some i)->owner[j']?=some (some i)->j=j'
def Own.nil (mask:Nat)(hs:List Int):Own mask hs (Array.replicate (mask+1) none) 0:=by
 refine⟨by simp,by rw[Array.toList_replicate,List.countP_replicate];rfl,λi h=>absurd h (SY _),λj i h=>?_,λj j' i h=>?_⟩
 .rw[PF]at h;split at h<;>cases h
 .rw[PF]at h;split at h<;>cases h
def count_set {l:List (Option Nat)}:∀{j:Nat} (k:Nat),l[j]?=some none->(l.set j (some k)).countP (λo=>o.isNone)+1=l.countP λo=>o.isNone:=by
 induction l with
 | nil=>exact λ_ h=>by simp at h
 | cons o r ih =>
  intro j k h;cases j with
  | zero =>
   have:o=none:=by simpa using h
   subst this;simp[Ws]
  | succ j =>
   have:=ih k (by simpa using h);rw[List.set_cons_succ,Ws,Ws];lia
def ziq {l:List (Option Nat)}(h:0<l.countP λo=>o.isNone):∃j:Nat,l[j]?=some none:=by
 obtain⟨o,ho,hn⟩:=N3.mp h;obtain⟨j,hj⟩:=OL.mp ho;refine⟨j,?_⟩;rw[hj];cases o with
 | none=>rfl
 | some _=>cases hn
def getD_none {owner:Array (Option Nat)}{j:Nat}:(owner.getD j (some 0)).isNone=true↔owner[j]?=some none:=by
 by_cases h:j<owner.size
 .have e:owner[j]?=some (owner.getD j (some 0)):=by simp[Array.getD,h]
  rw[e];cases owner.getD j (some 0)<;>simp
 .have e:owner.getD j (some 0)=some 0:=by simp[Array.getD,h]
  rw[e,WC (by lia)];simp
theorem zbB (mask:Nat):∀(f i p:Nat),i<mask+1->∀j∈walk mask f i p,j<mask+1
 | 0,_,_,_,_,h=>nomatch h
 | f+1,i,p,hi,j,h=>by
  rw[walk]at h;rcases XR.mp h with h | h
  .unfold run at h;obtain⟨k,hk,rfl⟩:=XO.mp h;have hk':=Xq.mp hk;have:Vq mask i<=mask:=by
    unfold Vq;split<;>lia
   lia
  .exact zbB mask f _ _ (SQ _ (Tk _)) j h
def Own.step {mask:Nat}(hm:mask=7\/mask=31\/mask=127){hs:List Int}{owner:Array (Option Nat)}{k:Nat}(O:Own mask hs owner k)(hk:k<mask+1):∃j,SetTable.layClean.free mask owner (W5 mask) (XG (hs.getD k 0)%(mask+1)) (XG (hs.getD k 0))=some j/\Own mask hs (owner.setIfInBounds j (some k)) (k+1):=by
 obtain⟨e,he⟩:=ziq (l:=owner.toList) (by have:=O.few;lia);rw[Xr]at he;have hel:e<owner.size:=by
  rcases Sy e owner.size with q | q
  .exact q
  .rw[WC q]at he;cases he
 have hw:=zb7 hm (hs.getD k 0) (e:=e) (by have:=O.sz;lia);rw[zhy];cases hf:(walk mask (W5 mask) (XG (hs.getD k 0)%(mask+1)) (XG (hs.getD k 0))).find? λj=>(owner.getD j (some 0)).isNone with
 | none =>
  have:=List.find?_eq_none.mp hf e hw;exact absurd (getD_none.mpr he) this
 | some j =>
  refine⟨j,rfl,?_⟩;have hj:owner[j]?=some none:=getD_none.mp (List.find?_some (p:=λj=>(owner.getD j (some 0)).isNone) hf);have hjl:j<owner.size:=by
   rcases Sy j owner.size with q | q
   .exact q
   .rw[WC q]at hj;cases hj
  have get:∀i:Nat,(owner.setIfInBounds j (some k))[i]?=if j=i then some (some k) else owner[i]?:=λi=>by
   rw[UM];by_cases h:j=i
   .rw[bw h,bw h];simp[hjl]
   .rw[bq h,bq h]
  have keep:∀(i o:Nat),owner[i]?=some (some o)->(owner.setIfInBounds j (some k))[i]?=some (some o):=λi o h=>by
   rw[get,bq (λz=>by rw[<- z,hj]at h;cases h)];exact h
  refine⟨by rw[S5];exact O.sz,?_,λi hi=>?_,λj' i h=>?_,λj1 j2 i h1 h2=>?_⟩
  .rw[Rb];have:=count_set (l:=owner.toList) (j:=j) k (by rw[Xr];exact hj);have:=O.few;lia
  .by_cases hik:i=k
   .subst hik;refine⟨j,by rw[get,bw rfl],?_⟩;obtain⟨_,as,bs,hab,hn⟩:=List.find?_eq_some_iff_append.mp hf;refine⟨as.length,by rw[hab];simp,λm hm' j' hj'=>?_⟩;rw[hab,VV hm']at hj';have hmem:=XZ hj';have hnn:=hn j' hmem;have hjw:j'∈walk mask (W5 mask) (XG (hs.getD i 0)%(mask+1)) (XG (hs.getD i 0)):=by
     rw[hab];exact Xi _ hmem
    cases ho:owner[j']? with
    | none =>
     have:=zbB mask (W5 mask) _ _ (SQ _ (Tk _)) j' hjw;rw[VY.mpr ⟨by rw[O.sz];exact this,rfl⟩]at ho;cases ho
    | some o =>
     cases o with
     | none =>
      rw[getD_none.mpr ho]at hnn;cases hnn
     | some o=>exact⟨o,keep j' o ho⟩
   .obtain⟨j0,a,n,b,c⟩:=O.at_ i (by lia);refine⟨j0,keep _ _ a,n,b,λm hm' j' hj'=>?_⟩;obtain⟨o,ho⟩:=c m hm' j' hj';exact⟨o,keep _ _ ho⟩
  .rw[get]at h;split at h
   .have:k=i:=by simpa using h
    lia
   .have:=O.lt j' i h;lia
  .rw[get]at h1 h2;split at h1<;>split at h2
   .lia
   .have:k=i:=by simpa using h1
    have:=O.lt j2 i h2;lia
   .have:k=i:=by simpa using h2
    have:=O.lt j1 i h1;lia
   .exact O.inj j1 j2 i h1 h2
theorem zfm {mask:Nat}(hm:mask=7\/mask=31\/mask=127)(hs:List Int)(hl:hs.length<=mask+1):∀(l done:List Int) (owner:Array (Option Nat)),hs=done++l->Own mask hs owner done.length ->
  ∃owner',l.foldl (λ(acc:Option (Array (Option Nat)×Nat)) h=>do
   let (owner,k) <- acc
   let j <- SetTable.layClean.free mask owner (W5 mask) (XG h%(mask+1)) (XG h)
   pure (owner.setIfInBounds j (some k),k+1)) (some (owner,done.length))=some (owner',hs.length)/\Own mask hs owner' hs.length
 | [],done,owner,e,O=>by
  rw[W6]at e;subst e;exact⟨owner,rfl,O⟩
 | h::r,done,owner,e,O=>by
  have hd:hs.getD done.length 0=h:=by
   rw[e];simp[List.getD]
  have hlen:done.length<mask+1:=by
   have:hs.length=done.length+(r.length+1):=by rw[e,XS,XE]
   lia
  obtain⟨j,hj,O'⟩:=O.step hm hlen;rw[hd]at hj;obtain⟨owner',h1,h2⟩:=zfm hm hs hl r (done++[h]) (owner.setIfInBounds j (some done.length)) (by rw[e,W0];rfl) (by rw[XS];exact O');refine⟨owner',?_,h2⟩;rw[XS]at h1;rw[VO];have e1:(do
   let (owner,k) <- (some (owner,done.length):Option (Array (Option Nat)×Nat))
   let j <- SetTable.layClean.free mask owner (W5 mask) (XG h%(mask+1)) (XG h)
   pure (owner.setIfInBounds j (some k),k+1))=some (owner.setIfInBounds j (some done.length),done.length+1):=by
   show (SetTable.layClean.free mask owner (W5 mask) (XG h%(mask+1)) (XG h)).bind _=_;rw[hj];rfl
  rw[e1];exact h1
def zn1 {mask:Nat}(hm:mask=7\/mask=31\/mask=127)(hashes:Array Int)(hl:hashes.size<=mask+1):∃owner,SetTable.layClean mask hashes=some owner/\Own mask hashes.toList owner hashes.size:=by
 obtain⟨owner,h1,h2⟩:=zfm hm hashes.toList (by rw[X7];exact hl) hashes.toList [] _ rfl (Own.nil mask _);rw[X7]at h1 h2;refine⟨owner,?_,h2⟩;unfold SetTable.layClean;rw[<- Array.foldl_toList];exact congrArg (NP (·.1)) h1
def qF (mask:Nat)(owner:Array (Option Nat)):AD:=(Xp (mask+1)).filterMap λj=>(owner.getD j none).map (j,·)
def Ju {mask:Nat}{owner:Array (Option Nat)}(sz:owner.size=mask+1){j i:Nat}:(j,i)∈qF mask owner↔owner[j]?=some (some i):=by
 unfold qF;rw[U5];constructor
 .rintro⟨a,ha,h⟩;have hl:a<owner.size:=by rw[sz];exact Xq.mp ha
  have e:owner[a]?=some (owner.getD a none):=by simp[Array.getD,hl]
  cases ho:owner.getD a none with
  | none =>
   rw[ho]at h;cases h
  | some b =>
   rw[ho]at h;have hb:(a,b)=(j,i):=Option.some.inj h;cases hb;rw[e,ho]
 .intro h;have hl:j<owner.size:=by
   rcases Sy j owner.size with q | q
   .exact q
   .rw[WC q]at h;cases h
  have e:owner[j]?=some (owner.getD j none):=by simp[Array.getD,hl]
  refine⟨j,Xq.mpr (by rw[<- sz];exact hl),?_⟩;rw[e]at h;rw[Option.some.inj h];rfl
def zhz (mask:Nat)(owner:Array (Option Nat)):(qF mask owner).Pairwise λa b=>a.1<b.1:=by
 unfold qF;rw[List.pairwise_filterMap];refine List.pairwise_lt_range.imp λ{a b} hab x hx y hy=>?_;cases h1:owner.getD a none with
 | none=>rw[h1]at hx;cases hx
 | some p =>
  cases h2:owner.getD b none with
  | none=>rw[h2]at hy;cases hy
  | some q =>
   rw[h1]at hx;rw[h2]at hy;have e1:(a,p)=x:=Option.some.inj hx;have e2:(b,q)=y:=Option.some.inj hy;rw[<- e1,<- e2];exact hab
def zir {mask:Nat}{hs:List Int}{owner:Array (Option Nat)}{k:Nat}(O:Own mask hs owner k):((qF mask owner).map (·.2)).Perm (Xp k):=by
 have nd:((qF mask owner).map (·.2)).Nodup:=by
  refine Wf.mpr ((zhz mask owner).imp_of_mem λ{a b} ha hb hab e=>?_);obtain⟨a1,a2⟩:=a;obtain⟨b1,b2⟩:=b;have e':a2=b2:=e;subst e';have:=O.inj a1 b1 a2 ((Ju O.sz).mp ha) ((Ju O.sz).mp hb);have hab':a1<b1:=hab;lia
 refine(Vf nd List.nodup_range).mpr λi=>?_;rw[Xq,XO];constructor
 .rintro⟨⟨j,i'⟩,hm,rfl⟩;exact O.lt j _ ((Ju O.sz).mp hm)
 .intro hi;obtain⟨j,hj,_⟩:=O.at_ i hi;exact⟨(j,i),(Ju O.sz).mpr hj,rfl⟩
def zl3 {mask:Nat}(hm:mask=7\/mask=31\/mask=127)(finger moves:Nat)(led plain:Bool)(hashes:Array Int)(hl:hashes.size<=mask+1):∃place order,SetTable.laid mask finger moves led plain hashes=some ({ mask:=mask,place:=place,dummies:=#[],finger:=finger,led:=led,moves:=moves,plain:=plain },order) /\
  Up place/\place.size=hashes.size/\order.size=hashes.size/\order.toList.Perm (Xp hashes.size)/\(∀i,i<place.size->place.getD i 0<mask+1) /\
  ∀i,i<place.size->Reach { mask:=mask,place:=place,dummies:=#[],finger:=finger,led:=led,moves:=moves,plain:=plain } (hashes.toList.getD (order.getD i 0) 0) (place.getD i 0):=by
 obtain⟨owner,h1,O⟩:=zn1 hm hashes hl;have perm:=zir O;have up:=zhz mask owner;have ll:(qF mask owner).length=hashes.size:=by
  have:=perm.length_eq;rw[Y1,W4]at this;exact this
 have pg:∀i (h:i<(qF mask owner).length),((qF mask owner).map (·.1)).toArray.getD i 0=((qF mask owner)[i]).1:=λi h=>by
  simp[Array.getD,h]
 have og:∀i (h:i<(qF mask owner).length),((qF mask owner).map (·.2)).toArray.getD i 0=((qF mask owner)[i]).2:=λi h=>by
  simp[Array.getD,h]
 refine⟨((qF mask owner).map (·.1)).toArray,((qF mask owner).map (·.2)).toArray,?_,λi j hij hj=>?_,by simp[ll],by simp[ll],perm,λi hi=>?_,λi hi=>?_⟩
 .unfold SetTable.laid;rw[h1];rfl
 .have hj':j<(qF mask owner).length:=by simpa using hj
  rw[pg i (by lia),pg j hj'];exact Vc.mp up i j (by lia) hj' hij
 .have hi':i<(qF mask owner).length:=by simpa using hi
  rw[pg i hi'];have hmem:=T6 hi';have:=(Ju O.sz (j:=(qF mask owner)[i].1) (i:=(qF mask owner)[i].2)).mp hmem;rw[<- O.sz];rcases Sy (qF mask owner)[i].1 owner.size with q | q
  .exact q
  .rw[WC q]at this;cases this
 .have hi':i<(qF mask owner).length:=by simpa using hi
  rw[pg i hi',og i hi'];have hmem:=T6 hi';have ho:=(Ju O.sz (j:=(qF mask owner)[i].1) (i:=(qF mask owner)[i].2)).mp hmem;obtain⟨j0,a,n,b,c⟩:=O.at_ _ (O.lt _ _ ho);have ej:=O.inj _ _ _ a ho;rw[ej]at b;refine⟨n,b,λk hk j' hj'=>?_⟩;obtain⟨o,hoo⟩:=c k hk j' hj';obtain⟨x,hx,ex⟩:=Td ((Ju O.sz).mpr hoo);refine⟨x,by simpa using hx,?_⟩;show ((qF mask owner).map (·.1)).toArray.getD x 0=j';rw[pg x hx,ex]
structure Good (t:Wr)(hs:Array Int):Prop where
 mask:t.mask=7\/t.mask=31\/t.mask=127
 sz:t.place.size=hs.size
 dum:t.dummies=#[]
 up:Up t.place
 le:∀i,i<t.place.size->t.place.getD i 0<t.mask+1
 room:t.place.size*5<t.mask*3
 reach:∀i,i<t.place.size->Reach t (hs.toList.getD i 0) (t.place.getD i 0)
def Good.free {t:Wr}{hs:Array Int}(G:Good t hs):∃e,e<t.mask+1/\∀i,i<t.place.size->t.place.getD i 0≠e:=by
 refine QQ λhn=>?_;have all:∀e,e<t.mask+1->∃i,i<t.place.size/\t.place.getD i 0=e:=λe he=>QQ λh2=>hn ⟨e,he,λi hi z=>h2 ⟨i,hi,z⟩⟩;have hr:=G.room;have id_:∀e,e<t.mask+1->∃i,i<t.place.size/\e<=i:=λe=>by
  induction e with
  | zero=>exact λh=>let ⟨i,hi,_⟩:=all 0 h;⟨i,hi,W7 _⟩
  | succ e ih =>
   intro h;obtain⟨i,hi,hei⟩:=all (e+1) h;obtain⟨i0,hi0,hei0⟩:=all e (by lia);have cnt:∀d,d<=e+1->∃i,i<t.place.size/\t.place.getD i 0=d/\d<=i:=λd=>by
    induction d with
    | zero=>exact λ_=>let ⟨i,hi,he⟩:=all 0 (by lia);⟨i,hi,he,W7 _⟩
    | succ d ihd =>
     intro hd;obtain⟨a,ha,ea,la⟩:=ihd (by lia);obtain⟨b,hb,eb⟩:=all (d+1) (by lia);have:a<b:=by
      rcases PZ a b with q | q | q
      .exact q
      .subst q;lia
      .have:=G.up b a q ha;lia
     exact⟨b,hb,eb,by lia⟩
   obtain⟨x,hx,_,lx⟩:=cnt (e+1) (XU _);exact⟨x,hx,lx⟩
 obtain⟨i,hi,le⟩:=id_ t.mask (by lia);lia
def Good.found {t:Wr}{hs:Array Int}(G:Good t hs)(Vk:Nat->Int)(hh:∀i,i<hs.size->Vk i=hs.toList.getD i 0)(nd:hs.toList.Nodup){i:Nat}(hi:i<hs.size):∃nx,t.probe Vk (hs.toList.getD i 0) (t.probeStart (hs.toList.getD i 0))=some (.candidate (t.place.getD i 0) i nx):=by
 have gd:∀k (h:k<hs.size),hs.toList.getD k 0=hs.toList[k]'(by rw[X7];exact h):=λk h=>by
  rw[XH,X5 (by rw[X7];exact h)];rfl
 refine zfk G.up Vk (by rw[G.sz];exact hi) (hh i hi) (λi' hi' e=>?_) (G.reach i (by rw[G.sz];exact hi));rw[G.sz]at hi';rw[hh i' hi',gd i' hi',gd i hi]at e;exact(List.getElem_inj nd).mp e
def Good.missed {t:Wr}{hs:Array Int}(G:Good t hs)(Vk:Nat->Int)(hh:∀i,i<hs.size->Vk i=hs.toList.getD i 0){h:Int}(no:h ∉ hs.toList):∃j,t.probe Vk h (t.probeStart h)=some (.empty j none)/\j<t.mask+1/\(∀i,i<t.place.size->t.place.getD i 0≠j)/\Reach t h j:=by
 obtain⟨e,he,hn⟩:=G.free;have no':∀i,i<t.place.size->Vk i≠h:=λi hi z=>by
  rw[G.sz]at hi;rw[hh i hi,XH,X5 (by rw[X7];exact hi)]at z;have z':hs.toList[i]'(by rw[X7];exact hi)=h:=z;exact no (z' ▸ T6 _)
 obtain⟨j,h1,h2,h3,h4⟩:=QU G.up G.dum Vk (h:=h) no' hn (zb7 G.mask h he);refine⟨j,h1,zbB _ _ _ _ (SQ _ (Tk _)) j h4,λi hi z=>?_,h3⟩;rw[<- z,Ji G.up hi]at h2;cases h2
theorem Good.put {t:Wr}{hs:Array Int}(G:Good t hs){h:Int}{j:Nat}(hj:j<t.mask+1)(he:∀i,i<t.place.size->t.place.getD i 0≠j)(R:Reach t h j)(room:(t.place.size+1)*5<t.mask*3):Good (t.put j).1 (Xw hs (t.put j).2 h):=by
 obtain⟨e2,e1,U⟩:=zgv G.up G.dum he;have b:=Js G.up j;rw[e2,e1];have bs:Xv t.place j<=hs.size:=by rw[<- G.sz];exact b.1
 have hget:∀i,(Xw hs (Xv t.place j) h).toList.getD i 0=if i<Xv t.place j then hs.toList.getD i 0 else if i=Xv t.place j then h else hs.toList.getD (i-1) 0:=λi=>by
  rw[XH,Xr,zjY hs bs];split
  .rw[XH,Xr]
  .split
   .rfl
   .rw[XH,Xr]
 have more:∀{h':Int} {j':Nat},Reach t h' j'->Reach { t with place:=Xw t.place (Xv t.place j) j } h' j':=λR'=>Reach.more (t:=t) (t':={ t with place:=Xw t.place (Xv t.place j) j }) rfl (zjZ G.up j) R';refine⟨G.mask,?_,G.dum,U,λi hi=>?_,?_,λi hi=>?_⟩
 .show (Xw t.place _ j).size=_;rw[qP _ b.1,qP _ bs,G.sz]
 .have hi':i<t.place.size+1:=by
   have:=hi;rw[show ({ t with place:=Xw t.place (Xv t.place j) j }:Wr).place=Xw t.place (Xv t.place j) j from rfl,qP _ b.1]at this;exact this
  show (Xw t.place _ j).getD i 0<t.mask+1;rw[Zc _ b.1 _ _ hi'];split
  .exact G.le i (by lia)
  .split
   .exact hj
   .exact G.le (i-1) (by lia)
 .show (Xw t.place _ j).size*5<t.mask*3;rw[qP _ b.1];exact room
 .have hi':i<t.place.size+1:=by
   have:=hi;rw[show ({ t with place:=Xw t.place (Xv t.place j) j }:Wr).place=Xw t.place (Xv t.place j) j from rfl,qP _ b.1]at this;exact this
  show Reach _ _ ((Xw t.place _ j).getD i 0);rw[hget,Zc _ b.1 _ _ hi'];by_cases h1:i<Xv t.place j
  .rw[bw h1,bw h1];exact more (G.reach i (by lia))
  .rw[bq h1,bq h1];by_cases h2:i=Xv t.place j
   .rw[bw h2,bw h2];exact more R
   .rw[bq h2,bq h2];exact more (G.reach (i-1) (by lia))
def zb8 (t:Wr)(hs:Array Int)(hn:hs.size=5\/hs.size=19):∃t' order,t.relaid hs (UB hs.size)=some (t',order)/\order.size=hs.size/\order.toList.Perm (Xp hs.size)/\t'.led=t.led/\t'.plain=t.plain/\t'.place.size=hs.size/\Good t' (order.map λi=>hs.toList.getD i 0):=by
 have key:∀mask,(mask=7\/mask=31\/mask=127)->hs.size<=mask+1->hs.size*5<mask*3->SL (UB hs.size)-1=mask->∃t' order,t.relaid hs (UB hs.size)=some (t',order)/\order.size=hs.size/\order.toList.Perm (Xp hs.size)/\t'.led=t.led/\t'.plain=t.plain/\t'.place.size=hs.size/\Good t' (order.map λi=>hs.toList.getD i 0):=λmask hm hl hr em=>by
  obtain⟨place,order,h1,h2,h3,h4,h5,h6,h7⟩:=zl3 hm t.finger (t.movedTo mask) t.led t.plain hs hl;refine⟨{ mask:=mask,place:=place,dummies:=#[],finger:=t.finger,led:=t.led,moves:=t.movedTo mask,plain:=t.plain },order,?_,h4,h5,rfl,rfl,h3,hm,?_,rfl,h2,h6,?_,λi hi=>?_⟩
  .unfold SetTable.relaid;rw[em];exact h1
  .show place.size=_;rw[VQ,h3,h4]
  .show place.size*5<mask*3;rw[h3];exact hr
  .have hi':i<order.size:=by
    have:i<place.size:=hi;lia
   have e:(order.map λi=>hs.toList.getD i 0).toList.getD i 0=hs.toList.getD (order.getD i 0) 0:=by
    rw[XH,Xr,Array.getElem?_map,Jt hi'];rfl
   rw[e];exact h7 i hi
 rcases hn with e | e
 .exact key 31 (.inr (.inl rfl)) (by lia) (by lia) (by rw[e];decide+kernel)
 .exact key 127 (.inr (.inr rfl)) (by lia) (by lia) (by rw[e];decide+kernel)
def zT (es:Array (Int×X9))(ep:Nat)(t:Wr):Obj:={ cls:=.type "set",dict:=none,data:=.set es ep t }
def kP (p:Int×Int):List Key:=[.inl p.1,.inl p.2]
def InB (p:Int×Int):Prop:=(0<=p.1/\p.1<8)/\(0<=p.2/\p.2<8)
def hP (prog:Xd)(w:WV)(p:Int×Int):Int:=(tk2 prog w).hash (kP p)
section
variable {prog:Xd}{w:WV}{A:WT}{E:X9->X8->Prop}{s:X8}{a:Addr}{es:Array (Int×X9)}{ep:Nat}{t:Wr}
def zn2 {p q:Int×Int}(hp:InB p)(hq:InB q)(e:hP prog w p=hP prog w q):p=q:=by
 obtain⟨p1,p2⟩:=p;obtain⟨q1,q2⟩:=q;obtain⟨⟨a1,a2⟩,a3,a4⟩:=hp;obtain⟨⟨b1,b2⟩,b3,b4⟩:=hq;simp only at a1 a2 a3 a4 b1 b2 b3 b4;obtain⟨i,rfl⟩:∃i:Nat,p1=i:=⟨p1.toNat,by lia⟩;obtain⟨j,rfl⟩:∃i:Nat,p2=i:=⟨p2.toNat,by lia⟩;obtain⟨k,rfl⟩:∃i:Nat,q1=i:=⟨q1.toNat,by lia⟩;obtain⟨l,rfl⟩:∃i:Nat,q2=i:=⟨q2.toNat,by lia⟩;unfold hP kP at e;rw[QS,QS]at e;obtain⟨c,d⟩:=zjV (by lia) (by lia) (by lia) (by lia) e;rw[c,d]
def Jv {h:Heap}{x:Addr}{p:Int×Int}(h1:zz h (.ref x) p):(tk2 prog w).is h (kP p) x:=by
 obtain⟨b,o,n,t,u,e,e1,e2,e3⟩:=h1;cases e;exact⟨o,#[.int p.1 t,.int p.2 u],n,e1,e2,e3,.cons (zau p.1 t) (.cons (zau p.2 u) .nil)⟩
theorem Good.fits {hs:Array Int}(G:Good t hs):t.fits hs.size=true:=by
 have h1:=G.sz;have h2:=G.room;unfold SetTable.fits RY;rw[G.dum,h1];simp;lia
def Good.odd {hs:Array Int}(G:Good t hs):t.gaveWay=false:=by
 unfold SetTable.gaveWay;rcases G.mask with e | e | e<;>rw[e]<;>rfl
def xA {Q:Array (Int×X9)×Nat×Wr->X8->Prop}(ho:s.heap.get? a=some (zT es ep t))(G:Good t (es.map (·.1)))(q:Q (es,ep,t) s):Xy (Xo prog w) A (setState a) Q E s:=by
 refine TD ho rfl ?_ q;have:=G.fits;rwa [VQ]at this
def zem (i:Nat)(hi:i<(es.map (·.1)).size):(es[i]?.map (·.1)).getD 0=(es.map (·.1)).toList.getD i 0:=by
 rw[XH,Xr,Array.getElem?_map]
def zc0 {n:Nat}{h:Int}{x:X9}{Q:SetFound->X8->Prop}(ho:s.heap.get? a=some (zT es ep t))(G:Good t (es.map (·.1)))(no:h ∉ (es.map (·.1)).toList)
  (hQ:∀j,j<t.mask+1->(∀i,i<t.place.size->t.place.getD i 0≠j)->Reach t h j->Q (.free j false) s):Xy (Xo prog w) A (PP a x h true (n+1) none) Q E s:=by
 obtain⟨j,e,h1,h2,h3⟩:=G.missed (λi=>(es[i]?.map (·.1)).getD 0) zem no;rw[PP];refine ZB (xA ho G ?_);dsimp only;rw[G.odd,bq XT];generalize hm:t.probe _ h _=m;have em:m=some (.empty j none):=hm.symm.trans e;subst em;exact X4 (hQ j h1 h2 h3)
def zdr {d:Nat}{x:Addr}{p:Int×Int}{Q:Bool->X8->Prop}(hx:zz s.heap (.ref x) p)(q:Q false s):Xy (Xo prog w) A (So 8 (.ref x)) Q E s:=by
 obtain⟨b,o,n,t,u,e,e1,e2,e3⟩:=hx;cases e;have hT:s.TypeIs (.ref x) "tuple":=⟨o,e1,e2⟩;unfold So;refine ZB (Pe hT ?_);dsimp only;rw[bw (by decide)];refine ZB (X4 ?_);rw[bq (by decide)];refine ZB (Rq e1 e3 ?_);dsimp only;refine ZB ?_;rw[<- Array.forIn_toList];refine Pr _ (λrest r s'=>r.1=none/\s'=s/\∀v∈rest,∃i t,v=Wt i t) _ ?_ ?_ _ _ ⟨rfl,rfl,λv hv=>?_⟩
 .rintro v rest r s' ⟨hr,rfl,hall⟩;obtain⟨i,t,rfl⟩:=hall v X2;rw[show So 7 (Wt i t)=pure false by unfold So;rfl];refine ZB (X4 ?_);rw[bq XT];exact X4 ⟨rfl,rfl,λu hu'=>hall u (XV _ hu')⟩
 .rintro⟨r1,r2⟩ s' ⟨hr,rfl,_⟩;simp only at hr;subst hr;exact X4 q
 .simp at hv;rcases hv with rfl | rfl
  .exact⟨_,_,rfl⟩
  .exact⟨_,_,rfl⟩
def zj0 {x:Addr}{p:Int×Int}{l:List X9}{Q:Bool->X8->Prop}(hx:zz s.heap (.ref x) p)(hl:∀v∈l,∃b q,v=.ref b/\zz s.heap (.ref b) q)(q:Q false s):Xy (Xo prog w) A (searchCouldBeSeen (.ref x) l) Q E s:=by
 unfold searchCouldBeSeen;refine ZB ?_;refine Pr _ (λrest r s'=>r.1=none/\s'=s/\∀v∈rest,∃b q,v=.ref b/\zz s.heap (.ref b) q) _ ?_ ?_ _ _ ⟨rfl,rfl,hl⟩
 .rintro v rest r s' ⟨hr,rfl,hall⟩;obtain⟨b,q',rfl,hb⟩:=hall v X2;dsimp only;split
  .exact X4 ⟨rfl,rfl,λu hu'=>hall u (XV _ hu')⟩
  .refine ZB ((tk2 prog w).quiet (Jv hx) ?_);rw[bq (by decide)];refine ZB ((tk2 prog w).quiet (Jv hb) ?_);rw[bq (by decide)];refine ZB (zdr (d:=0) hx ?_);rw[bq XT];refine ZB (zdr (d:=0) hb ?_);rw[bq XT];exact X4 ⟨rfl,rfl,λu hu'=>hall u (XV _ hu')⟩
 .rintro⟨r1,r2⟩ s' ⟨hr,rfl,_⟩;simp only at hr;subst hr;exact X4 q
def zj1 {x:Addr}{p:Int×Int}{Q:Bool->X8->Prop}(hx:zz s.heap (.ref x) p)(q:Q true s):Xy (Xo prog w) A (OB 8 (.ref x)) Q E s:=by
 obtain⟨b,o,n,t,u,e,e1,e2,e3⟩:=hx;cases e;have hT:s.TypeIs (.ref x) "tuple":=⟨o,e1,e2⟩;unfold OB;refine ZB (OR hT PySem.F.slot_tuple_hash.lookup ?_);dsimp only;refine ZB (Rq e1 e3 ?_);dsimp only[Option.getD];refine ZB ?_;rw[<- Array.forIn_toList];refine Pr _ (λrest r s'=>r.1=none/\s'=s/\∀v∈rest,∃i t,v=Wt i t) _ ?_ ?_ _ _ ⟨rfl,rfl,λv hv=>?_⟩
 .rintro v rest r s' ⟨hr,rfl,hall⟩;obtain⟨i,t,rfl⟩:=hall v X2;rw[show OB 7 (Wt i t)=pure true by unfold OB;rfl];refine ZB (X4 ?_);rw[bq (by decide)];exact X4 ⟨rfl,rfl,λu hu'=>hall u (XV _ hu')⟩
 .rintro⟨r1,r2⟩ s' ⟨hr,rfl,_⟩;simp only at hr;subst hr;exact X4 q
 .simp at hv;rcases hv with rfl | rfl
  .exact⟨_,_,rfl⟩
  .exact⟨_,_,rfl⟩
def zen {n:Nat}{h:Int}{x b:Addr}{p:Int×Int}{i:Nat}{Q:SetFound->X8->Prop}(hu:A.units<U3)(ho:s.heap.get? a=some (zT es ep t))(G:Good t (es.map (·.1)))(nd:(es.map (·.1)).toList.Nodup)
  (all:∀e∈es.toList,∃b q,e.2=WN b/\zz s.heap (.ref b) q) (hi:es[i]?=some (h,.ref b)) (hx:zz s.heap (.ref x) p) (hb:zz s.heap (.ref b) p)
  (hQ:Q (.there none) s):Xy (Xo prog w) A (PP a (.ref x) h true (n+1) none) Q E s:=by
 have hlt:i<(es.map (·.1)).size:=by
  rw[VQ];exact(VY.mp hi).1
 have eh:(es.map (·.1)).toList.getD i 0=h:=by
  rw[<- zem i hlt,hi];rfl
 obtain⟨nx,e⟩:=G.found (λi=>(es[i]?.map (·.1)).getD 0) zem nd hlt;rw[eh]at e;rw[PP];refine ZB (xA ho G ?_);dsimp only;rw[G.odd,bq XT];generalize hm:t.probe _ h _=m;have em:m=some (.candidate (t.place.getD i 0) i nx):=hm.symm.trans e;subst em;dsimp only;have seen:∀v∈(es.filter (·.1==h)).toList.map (·.2),∃b q,v=WN b/\zz s.heap (.ref b) q:=λv hv=>by
  obtain⟨e,he,rfl⟩:=XO.mp hv;rw[Array.toList_filter]at he;exact all e (XX.mp he).1
 rw[hi];cases hl:t.led with
 | true =>
  rw[bq (by decide)];refine ZB (W1 ((tk2 prog w).eqBool hu (Jv hb) (Jv hx) ?_));refine ZB (xA ho G ?_);dsimp only;rw[br rfl,bw (by decide)];exact X4 hQ
 | false =>
  rw[bw (by decide)];refine ZB (zj0 hx seen ?_);rw[bq XT];refine ZB (W1 ((tk2 prog w).eqBool hu (Jv hb) (Jv hx) ?_));refine ZB (xA ho G ?_);dsimp only;rw[br rfl,bw (by decide)];exact X4 hQ
end
def zb9 (f:Int×Int->Int)(q:Addr×(Int×Int)):Int×X9:=(f q.2,WN q.1)
structure zc1 (f:Int×Int->Int)(led:Bool)(h:Heap)(a:Addr)(ks:List (Addr×(Int×Int))):Prop where
 ex:∃es ep t,h.get? a=some (zT es ep t)/\es.toList=ks.map (zb9 f)/\Good t (es.map (·.1))/\t.led=led/\t.plain=true
 nd:(ks.map (·.2)).Nodup
 cells:∀q∈ks,zz h (.ref q.1) q.2
 inb:∀q∈ks,InB q.2
def zz.up {h h':Heap}{x:Addr}{p:Int×Int}(H:zz h (.ref x) p){a:Addr}(hs:V5 a h h'){o:Obj}(ho:h.get? a=some o)(hc:o.cls=.type "set"):zz h' (.ref x) p:=by
 obtain⟨b,o',n,t,u,e,e1,e2,e3⟩:=H;cases e;refine⟨x,o',n,t,u,rfl,?_,e2,e3⟩;rw[hs.2 x λz=>?_]
 .exact e1
 .subst z;rw[ho]at e1;cases e1;rw[hc]at e2;exact absurd e2 (by decide)
section
variable {prog:Xd}{w:WV}{A:WT}{E:X9->X8->Prop}{s:X8}{a:Addr}{es:Array (Int×X9)}{ep:Nat}{t:Wr}{ks:List (Addr×(Int×Int))}{f:Int×Int->Int}{led:Bool}
def ZN (he:es.toList=ks.map (zb9 f)):(es.map (·.1)).toList=ks.map λq=>f q.2:=by
 rw[VM,he,WY];rfl
def zis (inj:∀p q,InB p->InB q->f p=f q->p=q)(nd:(ks.map (·.2)).Nodup)(inb:∀q∈ks,InB q.2):(ks.map λq=>f q.2).Nodup:=by
 rw[WZ,Wf]at nd ⊢;refine nd.imp_of_mem λ{x y} hx hy h e=>h (inj _ _ (inb x hx) (inb y hy) e)
def QV {es':Array (Int×X9)}{t':Wr}{Q:Unit->X8->Prop}(ho:s.heap.get? a=some (zT es ep t))(hz:es'.size<=64)
  (q:∀h',V5 a s.heap h'->h'.get? a=some (zT es' (ep+1) t')->Q () { s with heap:=h' }):Xy (Xo prog w) A (storeSet a es' t') Q E s:=by
 refine wpAny_storeSet_of (o:=zT es ep t) ho rfl (q _ (Uc ..) ?_) (X0 hz (by rw[T3];decide));have:=We (Obj.putSet es' t') ho (by rw[putSet_of es' t' (o:=zT es ep t) rfl];rfl);rw[putSet_of es' t' (o:=zT es ep t) rfl]at this;exact this
theorem zca {α:Type}(d:α)(xs:Array α):∀(l:List Nat),(∀i∈l,i<xs.size)->l.filterMap (λi=>xs[i]?)=l.map λi=>xs.toList.getD i d
 | [],_=>rfl
 | i::l,h=>by
  have hi:=h i X2;rw[UL,Xf,Vb hi];dsimp only;rw[zca d xs l λj hj=>h j (XV _ hj)];congr 1;rw[XH,Xr,Vb hi];rfl
def zeo {n:Nat}(hn:n=5\/n=19):¬ SL (UB n)>Xz:=by
 rw[T3];rcases hn with rfl | rfl
 .rw[show SL (UB 5)=32 by decide+kernel];lia
 .rw[show SL (UB 19)=128 by decide+kernel];lia
def zj2 {Q:Unit->X8->Prop}(ho:s.heap.get? a=some (zT es ep t))(hf:t.fits es.size=true)(hn:es.size=5\/es.size=19)(he:es.toList=ks.map (zb9 f))
  (q:∀(h':Heap) (es':Array (Int×X9)) (t':Wr) (ks':List (Addr×(Int×Int))),V5 a s.heap h'->h'.get? a=some (zT es' (ep+1) t')->es'.toList=ks'.map (zb9 f)->ks'.Perm ks->Good t' (es'.map (·.1))->t'.led=t.led->t'.plain=t.plain->Q () { s with heap:=h' }):Xy (Xo prog w) A (setRelay a (UB es.size)) Q E s:=by
 have hsz:(es.map (·.1)).size=es.size:=VQ ..;obtain⟨t',order,e1,e2,e3,e4,e5,e6,e7⟩:=zb8 t (es.map (·.1)) (by rw[hsz];exact hn);rw[hsz]at e1 e2 e3 e6;have hlt:∀i∈order.toList,i<es.size:=λi hi=>Xq.mp (e3.mem_iff.mp hi);have hkl:ks.length=es.size:=by
  rw[<- X7,he,Y1]
 have d0:Addr×(Int×Int):=(0,(0,0));have el:(order.filterMap (es[·]?)).toList=(order.toList.map λi=>ks.getD i d0).map (zb9 f):=by
  rw[O5,zca (zb9 f d0) es order.toList hlt,WY];refine Xm λi hi=>?_;have h1:=hlt i hi;show es.toList.getD i _=zb9 f (ks.getD i d0);rw[he,XH,Xn,XH,X5 (by lia),UO,Vn,Vn]
 have es_:(order.filterMap (es[·]?)).size=es.size:=by
  rw[<- X7,el,Y1,Y1,X7,e2]
 unfold setRelay;refine ZB (TD (o:=zT es ep t) ho rfl hf ?_);dsimp only;rw[bq (zeo hn),e1];refine ZB ?_;show Xy (Xo prog w) A (do
  let es':=order.filterMap (es[·]?)
  if es'.size != es.size then unsupported "internal:set-table-lost-an-element"
  pure (es',t')) _ _ _
 dsimp only;rw[es_,bq (by simp)];refine X4 ?_;dsimp only;refine QV ho (by rw[es_];lia) λh' h1 h2=>q h' _ t' _ h1 h2 el ?_ ?_ e4 e5
 .have:=e3.map λi=>ks.getD i d0;rw[<- hkl,zb2]at this;exact this
 .have eh:(order.filterMap (es[·]?)).map (·.1)=order.map λi=>(es.map (·.1)).toList.getD i 0:=by
   apply Th.mp;rw[ZN el,VM,WY];refine Xm λi hi=>?_;have h1:=hlt i hi;show f (ks.getD i d0).2=_;rw[ZN he,XH,XH,Xn,X5 (by lia),UO,Vn,Vn]
  rw[eh];exact e7
def zj3 {n:Nat}{x:Addr}{p:Int×Int}{Q:Bool->X8->Prop}(inj:∀p q,InB p->InB q->f p=f q->p=q)(hu:A.units<U3)(S:zc1 f led s.heap a ks)(hx:zz s.heap (.ref x) p)(hb:InB p)(hn:p ∉ ks.map (·.2)->ks.length<63)
  (q:∀(b:Bool) (h':Heap) (ks':List (Addr×(Int×Int))),V5 a s.heap h'->zc1 f led h' a ks'->(∀c,c∈ks'.map (·.2)↔c∈ks.map (·.2)\/c=p)->(∀c∈ks',c∈ks\/c=(x,p))->Q b { s with heap:=h' }) :
  Xy (Xo prog w) A (Ov a (.ref x) (f p) (n+1)) Q E s:=by
 obtain⟨⟨es,ep,t,ho,he,G,hl,hp⟩,nd,hc,inb⟩:=S;have hkl:ks.length=es.size:=by
  rw[<- X7,he,Y1]
 generalize hh:f p=h;rw[Ov];refine ZB (xA ho G ?_);dsimp only;rw[show byScan (.ref x) es=false by simp[byScan,Value.scannable],bq XT];by_cases hm:p∈ks.map (·.2)
 .obtain⟨⟨b,p'⟩,hk,e⟩:=XO.mp hm;simp only at e;subst e;obtain⟨i,hi,ei⟩:=Td hk;have eg:es[i]?=some (h,.ref b):=by
   rw[<- Xr,he,Xn,X5 hi,ei,<- hh];rfl
  unfold setSearch;refine ZB (zen (n:=99999) hu ho G (by rw[ZN he];exact zis inj nd inb) (λe hm'=>?_) eg hx (hc _ hk) ?_)
  .rw[he]at hm';obtain⟨c,h1,rfl⟩:=XO.mp hm';exact⟨c.1,c.2,rfl,hc c h1⟩
  .refine X4 (q false s.heap ks (Heap.SameBut.refl _ _) ⟨⟨es,ep,t,ho,he,G,hl,hp⟩,nd,hc,inb⟩ (λc=>⟨.inl,λz=>z.elim id λz=>z ▸ hm⟩) λc h1=>.inl h1)
 .have hlen:=hn hm;have no:h ∉ (es.map (·.1)).toList:=λz=>by
   rw[ZN he,<- hh]at z;obtain⟨c,h1,h2⟩:=XO.mp z;exact hm (XO.mpr ⟨c,h1,inj _ _ (inb c h1) hb h2⟩)
  unfold setSearch;refine ZB (zc0 (n:=99999) ho G no λj h1 h2 h3=>?_);dsimp only;refine ZB (xA ho G ?_);obtain⟨f1,f2,f3⟩:=zgv G.up G.dum h2;have hsz:t.place.size=es.size:=by rw[G.sz,VQ]
  have bs:Xv t.place j<=es.size:=by
   rw[<- hsz];exact(Js G.up j).1
  generalize hpos:Xv t.place j=pos at f1 f2 f3 bs;have ep1:(t.put j).1.plain=true:=by rw[f2];exact hp
  have el1:(t.put j).1.led=led:=by rw[f2];exact hl
  have hks:∃ks1,ks1=ks.take pos++(x,p)::ks.drop pos:=⟨_,rfl⟩;obtain⟨ks1,hks⟩:=hks;have he1:(Xw es pos (h,WN x)).toList=ks1.map (zb9 f):=by
   rw[xy,he,hks,Xj,Xf,Ui,S7];simp only[zb9,hh]
  have hsz1:(Xw es pos (h,WN x)).size=es.size+1:=qP _ bs _;have pm:ks1.Perm ((x,p)::ks):=by
   rw[hks];refine Pq.trans (List.Perm.cons _ ?_);rw[WF]
  have fits1:(t.put j).1.fits (Xw es pos (h,WN x)).size=true:=by
   have hr:=G.room;have bp:pos<=t.place.size:=by rw[hsz];exact bs
   rw[hsz1,f2];unfold SetTable.fits RY;simp only[G.dum,qP _ bp,hsz];rcases G.mask with e | e | e<;>simp[e]<;>rw[hsz,e]at hr<;>lia
  have fin:∀(h':Heap) (ks':List (Addr×(Int×Int))) (es':Array (Int×X9)) (ep':Nat) (t':Wr),V5 a s.heap h'->h'.get? a=some (zT es' ep' t')->es'.toList=ks'.map (zb9 f)->ks'.Perm ((x,p)::ks)->Good t' (es'.map (·.1))->t'.led=led->t'.plain=true->Q true { s with heap:=h' }:=by
   intro h' ks' es' ep' t' hs hg hel hpm hG hle hpl;have mem:∀c,c∈ks'↔c=(x,p)\/c∈ks:=λc=>by rw[hpm.mem_iff,XQ]
   refine q true h' ks' hs ⟨⟨es',ep',t',hg,hel,hG,hle,hpl⟩,?_,λc hc'=>?_,λc hc'=>?_⟩ (λc=>?_) λc hc'=>(mem c).mp hc' |>.symm
   .rw[(hpm.map (·.2)).nodup_iff,Xf,Wl];exact⟨hm,nd⟩
   .rcases(mem c).mp hc' with rfl | z
    .exact zz.up hx hs ho rfl
    .exact zz.up (hc c z) hs ho rfl
   .rcases(mem c).mp hc' with rfl | z
    .exact hb
    .exact inb c z
   .rw[(hpm.map (·.2)).mem_iff,Xf,XQ];exact Or.comm
  have eT:t.put j=((t.put j).1,pos):=by rw[<- f1]
  have fl:(t.put j).1.tooFull=decide ((es.size+1)*5 >= t.mask*3):=by
   have bp:pos<=t.place.size:=by rw[hsz];exact bs
   rw[f2];unfold SetTable.tooFull RY;simp only[G.dum,qP _ bp,hsz];rfl
  have gd:¬ (es.size+1)*5 >= t.mask*3->Good (t.put j).1 ((Xw es pos (h,WN x)).map (·.1)):=λhr=>by
   have:=G.put (h:=h) h1 h2 h3 (by rw[hsz];lia);rw[f1]at this;have e:(Xw es pos (h,WN x)).map (·.1)=Xw (es.map (·.1)) pos h:=by
    apply Th.mp;rw[VM,xy,xy,VM,Xj,Xf,Ui,S7]
   rw[e];exact this
  have hroom:=G.room;have hmask:=G.mask;rw[hsz]at hroom;dsimp only;rw[eT];dsimp only;generalize t.put j=T at ep1 el1 fits1 fl gd;obtain⟨t1,p1⟩:=T;dsimp only at ep1 el1 fits1 fl gd ⊢;rw[ep1,bw rfl];refine ZB (zj1 hx ?_);rw[bw rfl];refine ZB (QV ho (by rw[hsz1];lia) λh' hs hg=>?_);by_cases full:(es.size+1)*5 >= t.mask*3
  .rw[fl,br full,bw (by decide)];rw[<- hsz1];refine ZB (zj2 (s:={ s with heap:=h' }) hg fits1 (by rw[hsz1];rcases hmask with e | e | e<;>rw[e]at full hroom<;>lia) he1 λh2' es' t' ks' hs' hg' hel hpm hG hle hpl=>?_);exact X4 (fin h2' ks' es' _ t' (hs.trans hs') hg' hel (hpm.trans pm) hG (hle.trans el1) (hpl.trans ep1))
  .rw[fl,bf full,bq (by decide)];exact X4 (fin h' ks1 _ _ t1 hs hg he1 pm (gd full) el1 ep1)
def zj4 {x:Addr}{p:Int×Int}{Q:Bool->X8->Prop}(hu:A.units<U3)(S:zc1 (hP prog w) led s.heap a ks)(hx:zz s.heap (.ref x) p)(hb:InB p)(hn:p ∉ ks.map (·.2)->ks.length<63)
  (q:∀(b:Bool) (h':Heap) (ks':List (Addr×(Int×Int))),V5 a s.heap h'->zc1 (hP prog w) led h' a ks'->(∀c,c∈ks'.map (·.2)↔c∈ks.map (·.2)\/c=p)->(∀c∈ks',c∈ks\/c=(x,p))->Q b { s with heap:=h',toks:=s.toks+3 }) :
  Xy (Xo prog w) A (setAdd a (.ref x)) Q E s:=by
 unfold setAdd;refine W1 (ZB ((tk2 prog w).pyHash hu (Jv hx) ?_));show Xy (Xo prog w) A (Pd a (.ref x) (hP prog w p)) Q E { s with toks:=s.toks+3 };unfold Pd;refine W1 ?_;exact zj3 (n:=99999) (s:={ s with toks:=s.toks+3 }) (λp q h1 h2 h3=>zn2 h1 h2 h3) hu S hx hb hn q
end
theorem zhA {α:Type}(next:Nat->Nat):∀(fuel k:Nat) (left:List α) (out:Array α),left.length=fuel->(pickOrder.go next fuel k left out).toList.Perm (out.toList++left)
 | 0,k,left,out,h=>by
  rw[UU.mp h,W6];exact List.Perm.refl _
 | fuel+1,k,left,out,h=>by
  have hl:next k%left.length<left.length:=SQ _ (by lia)
  rw[pickOrder.go,X5 hl];dsimp only;refine(zhA next fuel (k+1) _ _ (by rw[List.length_eraseIdx_of_lt hl];lia)).trans ?_;rw[Sm,W0];refine Se _ ?_;have e:left=left.take (next k%left.length)++left[next k%left.length]::left.drop (next k%left.length+1):=by
   rw[<- Wz hl,WF]
  rw[List.eraseIdx_eq_take_drop_succ];have e2:=@Pq _ left[next k%left.length] (left.take (next k%left.length)) (left.drop (next k%left.length+1));rw[<- e]at e2;exact e2.symm
def zit {α:Type}(next:Nat->Nat)(xs:Array α):(Px next xs).toList.Perm xs.toList:=by
 have h:=zhA next xs.size 0 xs.toList #[] (by simp)
 rw[show (#[]:Array α).toList++xs.toList=xs.toList from rfl]at h;exact h
def yf:Slot "set_iterator" "__next__" "set_iterator.__next__" :=
 .of (owner:="set_iterator") (n:="__next__") (by rw[RJ,TK];kernel_rfl) (by decide+kernel) (by decide+kernel) (by decide+kernel) (.inl (by decide+kernel)) (by rw[Ow];kernel_rfl)
def QW:Nn table "set_iterator.__next__"=some UW.«set_iterator.__next__»:=entryFor_of_tree (by kernel_rfl)
def zcb:Manifest.owners.lookup (String.ofList ['r','o','t','a','r','e','t','i','_','t','e','s'].reverse)=some Manifest.sig_set_iterator:=by kernel_rfl
def za9 (a:X9):NS "set_iterator.__next__" ⟨[a],[]⟩:=by
 unfold NS;rw[signature?_of (id:="set_iterator.__next__") (n:=['_','_','t','x','e','n','_','_']) (o:=['r','o','t','a','r','e','t','i','_','t','e','s']) (by kernel_rfl) zcb];kernel_rfl
def zep:Nn table "set.__iter__"=some UW.«frozenset.__iter__»:=entryFor_alias (id':="frozenset.__iter__") (by kernel_rfl) rfl (by decide+kernel) (by kernel_rfl)
def zcc (slot i:Nat)(a:Addr)(n ep:Nat):Obj:={ cls:=.type "set_iterator",data:=.fields #[T2 slot,T2 i,.ref a,T2 n,T2 ep] }
def slotAt (byText:Bool)(t:Wr)(i:Nat):Nat:=if byText then 0 else if i=0 then 0 else t.place.getD (i-1) 0+1
def Zd (w:WV)(a:Addr)(ep:Nat)(es:Array (Int×X9)):Array (Int×X9):=if w.params.followText "set-order" then Px (w.params.setOrder a ep) es else es
def QX (w:WV)(a:Addr)(ep:Nat)(es:Array (Int×X9)):(Zd w a ep es).toList.Perm es.toList:=by
 unfold Zd;split
 .exact zit _ _
 .exact List.Perm.refl _
section
variable {prog:Xd}{w:WV}{A:WT}{E:X9->X8->Prop}{s:X8}{a:Addr}{es:Array (Int×X9)}{ep:Nat}{t:Wr}
def zeq {Q:Bool->X8->Prop}(q:Q (w.params.followText "set-order") s):Xy (Xo prog w) A setsByText Q E s:=by
 unfold setsByText;exact ZB (Pp (X4 q))
def below_at {t:Wr}(U:Up t.place){i:Nat}(hi:i<=t.place.size):Xv t.place (slotAt false t i)=i:=by
 obtain⟨b1,b2,b3⟩:=Js U (slotAt false t i);unfold slotAt at *
 simp only[Wc,if_false]at *
 by_cases h0:i=0
 .subst h0;rw[bw rfl]at *
  rcases Nat.eq_zero_or_pos (Xv t.place 0) with e | e
  .exact e
  .have:=b2 0 e;lia
 .rw[bq h0]at *
  rcases PZ (Xv t.place (t.place.getD (i-1) 0+1)) i with e | e | e
  .have:=b3 (i-1) (by lia) (by lia);lia
  .exact e
  .have h1:=b2 i e;have h2:=U (i-1) i (by lia) (by lia);lia
def zhB {i:Nat}{Q:Option (X9×Nat)->X8->Prop}(ho:s.heap.get? a=some (zT es ep t))(G:Good t (es.map (·.1)))(hl:t.led=!w.params.followText "set-order")(hp:t.plain=true)(hi:i<=es.size)
  (q1:∀v,(Zd w a ep es)[i]?.map (·.2)=some v->Q (some (v,slotAt (w.params.followText "set-order") t (i+1))) s) (q2:i=es.size->Q none s) :
  Xy (Xo prog w) A (setNext a (slotAt (w.params.followText "set-order") t i) i ep) Q E s:=by
 have hsz:t.place.size=es.size:=by rw[G.sz,VQ]
 have hos:(Zd w a ep es).size=es.size:=by
  rw[<- X7,(QX w a ep es).length_eq,X7]
 unfold setNext;refine ZB (xA ho G ?_);dsimp only;refine ZB (zeq ?_);cases hb:w.params.followText "set-order" with
 | true =>
  rw[bw rfl];rw[hb]at q1;rw[bq (by simp)];unfold setWalk;refine ZB (ZB (xA ho G ?_));dsimp only;refine ZB (zeq ?_);rw[hb,bw rfl];refine ZB (Pp (X4 (X4 ?_)));have eo:Zd w a ep es=Px (w.params.setOrder a ep) es:=by
   unfold Zd;rw[hb,bw rfl]
  rw[eo]at q1 hos;show Q (NP _ (Px (w.params.setOrder a ep) es)[i]?) s;by_cases h:i<es.size
  .have e:(Px (w.params.setOrder a ep) es)[i]?=some (Px (w.params.setOrder a ep) es)[i]:=Vb (by lia);rw[e]at q1 ⊢;exact q1 _ rfl
  .rw[WC (by lia)];exact q2 (by lia)
 | false =>
  rw[bq XT];rw[hb]at q1 hl;have eo:Zd w a ep es=es:=by
   unfold Zd;rw[hb,bq XT]
  rw[eo]at q1;split
  .rename_i h;exact absurd h (by show ¬ ((!t.plain&&decide (es.size>1))=true);rw[hp];exact XT)
  refine ZB ?_;show Xy _ _ (if (!t.led && !es.isEmpty)=true then unsupported "set:maker-not-led" else pure ()) _ _ _;rw[hl,bq (by simp)];refine X4 ?_;rw[below_at G.up (by lia)];by_cases h:i<es.size
  .have e:es[i]?=some es[i]:=Vb h;have e2:t.place[i]?=some (t.place.getD i 0):=Jt (by lia);rw[e]at q1 ⊢;rw[e2];refine X4 (q1 _ rfl)
  .rw[WC (by lia)];exact X4 (q2 (by lia))
end
def zds:Slot "set_iterator" "__iter__" "set_iterator.__iter__" :=
 .of (owner:="set_iterator") (n:="__iter__") (by rw[RJ,TK];kernel_rfl) (by decide+kernel) (by decide+kernel) (by decide+kernel) (.inl (by decide+kernel)) (by rw[Ow];kernel_rfl)
def zgw:Nn table "set_iterator.__iter__"=some UW.«dict_keyiterator.__iter__»:=entryFor_alias (id':="dict_keyiterator.__iter__") (by kernel_rfl) rfl (by decide+kernel) (by kernel_rfl)
def ziu (a:X9):NS "set_iterator.__iter__" ⟨[a],[]⟩:=by
 unfold NS;rw[signature?_of (id:="set_iterator.__iter__") (n:=['_','_','r','e','t','i','_','_']) (o:=['r','o','t','a','r','e','t','i','_','t','e','s']) (by kernel_rfl) zcb];kernel_rfl
section
variable {prog:Xd}{w:WV}{A:WT}{E:X9->X8->Prop}{s:X8}{a I:Addr}{es:Array (Int×X9)}{ep:Nat}{t:Wr}
def zgx {slot i a n ep:Nat}(x y:Nat):TM (·.setIfInBounds 1 (T2 y)) (TM (·.setIfInBounds 0 (T2 x)) (zcc slot i a n ep))=zcc x y a n ep:=rfl
def zl4 {i:Nat}{Q:Option X9->X8->Prop}(hI:s.heap.get? I=some (zcc (slotAt (w.params.followText "set-order") t i) i a es.size ep))(ho:s.heap.get? a=some (zT es ep t))(G:Good t (es.map (·.1)))(hl:t.led=!w.params.followText "set-order")(hp:t.plain=true)(hi:i<es.size)
  (q:∀v h',(Zd w a ep es)[i]?.map (·.2)=some v->h'.get? I=some (zcc (slotAt (w.params.followText "set-order") t (i+1)) (i+1) a es.size ep)->V5 I s.heap h'->Q (some v) { s with heap:=h' }) :
  Xy (Xo prog w) A (SV (.ref I)) Q E s:=by
 have hT:s.TypeIs (.ref I) "set_iterator":=⟨_,hI,rfl⟩;unfold SV;refine ZB (S9 (Pk (name:=Pc "__next__") hT yf (UE yf hT QW ?_ (za9 _))));unfold UW.«set_iterator.__next__»;refine ZB (X4 ?_);refine ZB (wpAny_fieldsOf hI rfl ?_);dsimp only[T2];refine ZB (RE (o:=zT es ep t) ho rfl ?_ ?_)
 .have:=G.fits;rwa [VQ]at this
 rw[bq (by simp)];show Xy _ _ (setNext a (slotAt (w.params.followText "set-order") t i) i ep >>= _) _ _ _;refine ZB (zhB ho G hl hp (UJ hi) (λv hv=>?_) λz=>absurd z (by lia));dsimp only;refine ZB (Rp hI rfl (by simp[zcc]) ?_);have h1:=We (TM (·.setIfInBounds 0 (T2 ((slotAt (w.params.followText "set-order") t (i+1):Nat):Int)))) hI rfl;refine ZB (Rp h1 rfl (by simp[zcc,TM]) ?_);have h2:=We (TM (·.setIfInBounds 1 (T2 ((i:Int)+1)))) h1 rfl;refine X4 ⟨_,rfl,X4 (q v _ hv ?_ ((Uc ..).trans (Uc ..)))⟩;rw[show ((i:Int)+1)=((i+1:Nat):Int) by lia]at h2 ⊢;rw[zgx]at h2;exact h2
def zn3 {Q:Option X9->X8->Prop}(hh:A.handled=none)(hI:s.heap.get? I=some (zcc (slotAt (w.params.followText "set-order") t es.size) es.size a es.size ep))(ho:s.heap.get? a=some (zT es ep t))(G:Good t (es.map (·.1)))(hl:t.led=!w.params.followText "set-order")(hp:t.plain=true)
  (q:∀h',Heap.ExtBut I s.heap h'->Q none { s with heap:=h' }):Xy (Xo prog w) A (SV (.ref I)) Q E s:=by
 have hT:s.TypeIs (.ref I) "set_iterator":=⟨_,hI,rfl⟩;unfold SV;refine ZB (S9 (Pk (name:=Pc "__next__") hT yf (UE yf hT QW ?_ (za9 _))));unfold UW.«set_iterator.__next__»;refine ZB (X4 ?_);refine ZB (wpAny_fieldsOf hI rfl ?_);dsimp only[T2];refine ZB (RE (o:=zT es ep t) ho rfl ?_ ?_)
 .have:=G.fits;rwa [VQ]at this
 rw[bq (by simp)];show Xy _ _ (setNext a (slotAt (w.params.followText "set-order") t es.size) es.size ep >>= _) _ _ _;refine ZB (zhB ho G hl hp (XU _) (λv hv=>?_) λ_=>?_)
 .have hos:(Zd w a ep es).size=es.size:=by
   rw[<- X7,(QX w a ep es).length_eq,X7]
  rw[WC (by lia)]at hv;cases hv
 dsimp only;refine ZB (Rp hI rfl (by simp[zcc]) ?_);refine ZB ?_;simp only[newExc,newTuple];refine ZB (VX ?_ (by size_fits));refine ZB (m:=Rt _ _) (RT (a:=US) (by first | rfl | (simp only[Rt];rfl)) ?_);refine VX ?_ (by size_fits);simp only[raiseNew];refine ZB (wpAny_handled ?_);rw[show A.in1.handled=none from hh];refine ZB (X4 (Nw ?_));refine ZB (wpAny_isInstance (T:="StopIteration") (b:=true) ⟨_,Xe _ rfl,rfl⟩ isSubtype_stop ?_);exact X4 (q _ (((Uc ..).extBut.push _).push _))
def zl5 {slot i n:Nat}{Q:X9->X8->Prop}(hI:s.heap.get? I=some (zcc slot i a n ep))(q:Q (.ref I) s):Xy (Xo prog w) A (NT (.ref I)) Q E s:=by
 have hT:s.TypeIs (.ref I) "set_iterator":=⟨_,hI,rfl⟩;refine wpAny_pyIter_slot hT zds (UE zds hT zgw ?_ (ziu _));exact X4 ⟨_,rfl,"set_iterator",_,hT,yf.lookup,q⟩
def walks (hh:A.handled=none)(hne:a≠I)(G:Good t (es.map (·.1)))(hl:t.led=!w.params.followText "set-order")(hp:t.plain=true) :
  Walks prog w A I [I,a] [I] es.size (λi v=>(Zd w a ep es)[i]?.map (·.2)=some v) (λi h=>h.get? I=some (zcc (slotAt (w.params.followText "set-order") t i) i a es.size ep)/\h.get? a=some (zT es ep t)) where
 sub:=λb hb=>by simp at hb;simp[hb]
 frame:=λ_ _ _ st hk=>⟨hk I (by simp) _ st.1,hk a (by simp) _ st.2⟩
 item:=λi s Q E hi st hQ=>zl4 st.1 st.2 G hl hp hi λv h' hv h1 hs=>hQ v h' s.toks hv ⟨h1,(hs.2 a hne).trans st.2⟩ λb o hb e=>(hs.2 b λz=>hb (by simp[z])).trans e
 done:=λs Q E st hQ=>zn3 hh st.1 st.2 G hl hp λh' he=>hQ h' s.toks λb o hb e=>he b o (λz=>hb (by simp[z])) e
 self:=λ_ _ _ _ st hQ=>zl5 st.1 hQ
def zfn:splitId "set.__len__"=some ("set","__len__"):=by decide+kernel
def zba {Q:List X9->X8->Prop}(hh:A.handled=none)(ho:s.heap.get? a=some (zT es ep t))(G:Good t (es.map (·.1)))(hl:t.led=!w.params.followText "set-order")(hp:t.plain=true)(hn:es.size<=64)
  (q:∀vs h' tk,vs.Perm (es.toList.map (·.2))->(∀b o,s.heap.get? b=some o->h'.get? b=some o)->s.heap.objs.size<=h'.objs.size->Q vs { s with heap:=h',toks:=tk }):Xy (Xo prog w) A (collect (.ref a)) Q E s:=by
 have hlt:a<s.heap.objs.size:=XJ ho;unfold collect;refine ZB (Ou (Wd PySem.F.entry_proto_collect ?_));rw[Wp PySem.F.plain_proto_collect _];show Xy _ A.in1 (newList [] >>= λl=>OF (.builtin "list.__iadd__" ⟨[l,.ref a],[]⟩)) _ _ s;refine ZB (VX ?_);refine X4 ⟨VC Pj _,Wd PySem.F.entry_list_iadd ?_⟩;rw[Wp Pj _];show Xy _ A.in1 (RA (.ref s.heap.objs.size) (.ref a) (.ref s.heap.objs.size)) _ _ _;generalize hL:(s.heap.push { cls:=.type "list",data:=.seq ([]:List X9).toArray })=h1;have ho1:h1.get? a=some (zT es ep t):=by rw[<- hL];exact X6 _ ho
 have hS1:h1.get? s.heap.objs.size=some { cls:=.type "list",data:=.seq #[] }:=by rw[<- hL];exact Xe _ rfl
 have kp1:∀b o,s.heap.get? b=some o->h1.get? b=some o:=λb o e=>by rw[<- hL];exact X6 _ e
 have z1:h1.objs.size=s.heap.objs.size+1:=by rw[<- hL];exact Vu ..
 have hT:S8 { s with heap:=h1 } (.ref a) "set":=⟨_,ho1,rfl⟩;have h1':PD (.ref s.heap.objs.size) (.ref a)=false:=by
  simp[PD];exact Us hlt
 unfold RA;refine ZB (Pe hT ?_);rw[bq (by rw[h1'];decide)];have hf:t.fits es.size=true:=by
  have:=G.fits;rwa [VQ]at this
 refine ZB (wpAny_pyIter_slot hT OK (UE OK hT zep ?_ (PySem.F.args_set_iter_1 _)));unfold UW.«frozenset.__iter__» Builtin.Frozenset.slot0 slotArgs;simp only[List.isEmpty_nil,Bool.not_true,Wc,↓reduceIte,bind_assoc,UP,bne_self_eq_false];unfold Builtin.Frozenset.addrOf Builtin.Frozenset.sizeOf;refine ZB (X4 ?_);dsimp only;refine ZB (X4 ?_);refine ZB (ZB (RE (s:={ s with heap:=h1 }) (o:=zT es ep t) ho1 rfl hf (X4 ?_)));unfold setDrawn;refine ZB (ZB (TD (s:={ s with heap:=h1 }) (o:=zT es ep t) ho1 rfl hf ?_));dsimp only;refine ZB (zeq (X4 ?_));split
 .rename_i h;exact absurd h (by show ¬ ((!w.params.followText "set-order" && (!t.plain&&decide (es.size>1)))=true);rw[hp];simp)
 refine ZB (X4 ?_);unfold setEpoch;refine ZB (ZB (TD (s:={ s with heap:=h1 }) (o:=zT es ep t) ho1 rfl hf (X4 ?_)));unfold newFields;refine ZB (VX ?_);generalize hI:h1.push { cls:=.type "set_iterator",data:=.fields (List.toArray [T2 0,T2 0,WN a,T2 ((es.size:Nat):Int),T2 ((ep:Nat):Int)]) }=h2;have ho2:h2.get? a=some (zT es ep t):=by rw[<- hI];exact X6 _ ho1
 have hS2:h2.get? s.heap.objs.size=some { cls:=.type "list",data:=.seq #[] }:=by rw[<- hI];exact X6 _ hS1
 have kp2:∀b o,s.heap.get? b=some o->h2.get? b=some o:=λb o e=>by rw[<- hI];exact X6 _ (kp1 b o e)
 have hI2:h2.get? h1.objs.size=some (zcc 0 0 a es.size ep):=by rw[<- hI];exact Xe _ rfl
 have hTI:S8 { s with heap:=h2 } (.ref h1.objs.size) "set_iterator":=⟨_,hI2,rfl⟩;have hT2:S8 { s with heap:=h2 } (.ref a) "set":=⟨_,ho2,rfl⟩;refine X4 ⟨_,rfl,"set_iterator",_,hTI,yf.lookup,?_⟩;refine ZB (W1 ?_);unfold Builtin.List.listLengthHint;refine ZB (OR hT2 PySem.F.slot_set_len.lookup ?_);dsimp only;rw[zfn];dsimp only;refine ZB (wpAny_isInstance (b:=true) hT2 sub_set_self ?_);rw[bq (by decide)];show Xy _ _ (typeOf (WN a) >>= _) _ _ _;refine ZB (Pe hT2 ?_);show Xy _ _ (pure false) _ _ _;refine X4 ?_;show Xy _ A.in1 (rule "list.extend.makes-room" >>= λ_=>Builtin.List.listTouch (.ref s.heap.objs.size) >>= λ_=>OF (.builtin "list.extend.loop" ⟨[.ref s.heap.objs.size,.ref h1.objs.size,.ref s.heap.objs.size],[]⟩)) _ _ _;refine ZB (UQ (ZB ?_));show Xy _ A.in1 (Nz s.heap.objs.size (·.push .none) >>= λ_=>Nz s.heap.objs.size (·.pop)) _ _ _;refine ZB (SX hS2 rfl ?_);have hS3:=We (U7 (·.push US)) hS2 rfl;refine SX hS3 rfl ?_;have hS4:=We (U7 (·.pop)) hS3 rfl;have oth:∀b o,b≠s.heap.objs.size->h2.get? b=some o->((h2.update s.heap.objs.size (U7 (·.push US))).update s.heap.objs.size (U7 (·.pop))).get? b=some o :=
  λb o hb e=>(Wa _ _ (Vm hb)).trans ((Wa _ _ (Vm hb)).trans e)
 generalize (h2.update s.heap.objs.size (U7 (·.push US))).update s.heap.objs.size (U7 (·.pop))=h4 at hS4 oth;have hne:a≠h1.objs.size:=by
  rw[z1];exact Xk (Wv hlt)
 have hSf:s.heap.objs.size ∉ [h1.objs.size,a]:=by
  rw[z1];simp only[XQ,V6,or_false,not_or];exact⟨Xk (Ti _),Us hlt⟩
 have sl0:slotAt (w.params.followText "set-order") t 0=0:=by
  unfold slotAt;split<;>rfl
 have hos:(Zd w a ep es).size=es.size:=by
  rw[<- X7,(QX w a ep es).length_eq,X7]
 refine X4 ⟨VC PySem.F.plain_extend_loop _,codeAny_extend_loopS ((walks (A:=A.in1) (prog:=prog) (ep:=ep) hh hne G hl hp).toS) (X0 hn (by rw[T3];decide)) _ hSf _ es.size 0 _ _ _ rfl (W7 _)
  ⟨by rw[sl0];exact oth _ _ (by rw[z1];exact Vo _) hI2,oth _ _ (Xk hlt) ho2⟩ hS4 (ItemsOf.nil _) λs' acc' c' hm hS' hacc=>?_⟩
 show Xy _ A (load s.heap.objs.size >>= _) _ _ s';refine ZB (wpAny_load hS' ?_);obtain⟨h',g',d',tk',os'⟩:=s';have eg:g'=s.gens:=hm.gens;have ed:d'=s.drawn:=hm.drawn;have eo:os'=s.os:=hm.os;subst eg;subst ed;subst eo;refine X4 (q _ _ _ ?_ (λb o e=>?_) (UJ (XJ hS')))
 .have e:acc'.toList=(Zd w a ep es).toList.map (·.2):=by
   refine TB λi=>?_;rw[Xr,Xn,Xr];by_cases hi:i<es.size
   .have hi':i<acc'.size:=by rw[hacc.1];exact hi
    have e1:acc'[i]?=some acc'[i]:=Vb hi';rw[e1];exact(hacc.2 i _ e1).symm
   .rw[WC (by rw[hacc.1];lia),WC (by lia)];rfl
  rw[e];exact(QX w a ep es).map _
 .have hb:b<s.heap.objs.size:=XJ e;refine hm.heap b o (λz=>?_) (oth b o (Xk hb) (kp2 b o e));rcases XQ.mp z with z | z
  .exact V8 _ (z ▸ hb)
  .have z':b=h1.objs.size:=by simpa using z
   rw[z',z1]at hb;exact absurd hb (Rv.mpr (V9 _))
end
end ST
open PySem PySem.Spec PyProof.Rows PySem.W
namespace ST
def zfo (prog:Xd)(w:WV)(d:Addr)(ks:List (Addr×(Int×Int))):HO:=.ext λh=>∃es ep t,h.get? d=some (zT es ep t)/\es.toList=ks.map (zb9 (hP prog w))/\Good t (es.map (·.1))/\t.led=(!w.params.followText "set-order")/\t.plain=true
section
variable {prog:Xd}{w:WV}{A:WT}{R:R7->X8->Prop}{I:Addr}{fp wr:List Addr}{G:Array UC->Array UC->Prop}{n:Nat}{P:Nat->X9->Prop}{St:Nat->X8->Prop}{led:Bool}
def zj5 {h0:Heap}(W:WalksS prog w A.in1 I fp wr G n P St)(D:Addr)(hDf:D ∉ fp)(hD0:h0.get? D=none)(hw0:∀b∈wr,h0.get? b=none)(ps:List (Int×Int))(hlen:ps.length=n)(hu:A.units+1<U3)
  (T:Addr->Int×Int->Prop) (hT:∀x p,T x p->zz h0 (.ref x) p) (hP':∀i v,P i v->∃x p,v=.ref x/\ps[i]?=some p/\T x p) (hb:∀p∈ps,InB p) (few:∀l:List (Int×Int),l.Nodup->(∀c∈l,c∈ps)->l.length<=63) :
  ∀(k i:Nat) (s:X8) (ks:List (Addr×(Int×Int))),n-i=k->i<=n->St i s->(∀b o,h0.get? b=some o->s.heap.get? b=some o)->zc1 (hP prog w) led s.heap D ks->(∀c,c∈ks.map (·.2)↔c∈ps.take i)->(∀q∈ks,T q.1 q.2) ->
   (∀s' ks',Np (D::wr) G s s'->zc1 (hP prog w) led s'.heap D ks'->(∀c,c∈ks'.map (·.2)↔c∈ps)->(∀q∈ks',T q.1 q.2)->R (.ok (.ret .none)) s') ->
   UX (Xo prog w) A (.builtin "set.update.loop" ⟨[.ref D,.ref I],[]⟩) R s:=by
 have hDw:D ∉ wr:=λh=>hDf (W.sub _ h);have more:∀b∈wr,b∈D::wr:=λb hb=>XV _ hb;have pair_up:∀{h:Heap} {x:Addr} {p:Int×Int},(∀b o,h0.get? b=some o->h.get? b=some o)->T x p->zz h (.ref x) p:=λkp hx=>by
  obtain⟨b,o,m,t,u,e,e1,e2,e3⟩:=hT _ _ hx;exact⟨b,o,m,t,u,e,kp _ _ e1,e2,e3⟩
 have keep_to:∀{s s':X8},Np wr G s s'->(∀b o,h0.get? b=some o->s.heap.get? b=some o)->∀b o,h0.get? b=some o->s'.heap.get? b=some o:=λhm kp b o e =>
  hm.heap b o (λhb=>by
   rw[hw0 b hb]at e;cases e) (kp b o e)
 have set_to:∀{s s':X8} {ks:List (Addr×(Int×Int))},Np wr G s s'->(∀b o,h0.get? b=some o->s'.heap.get? b=some o)->(∀q∈ks,T q.1 q.2)->zc1 (hP prog w) led s.heap D ks->zc1 (hP prog w) led s'.heap D ks :=
  λhm kp hk ⟨⟨es,ep,t,e1,e2⟩,e3,_,e5⟩=>⟨⟨es,ep,t,hm.heap D _ hDw e1,e2⟩,e3,λq hq=>pair_up kp (hk q hq),e5⟩
 intro k;induction k with
 | zero =>
  intro i s ks hk hi hst kp hS hm' hTk hR;have hin:i=n:=by lia
  subst hin;refine Wd Vx ?_;rw[Wp Wb _];show Xy _ A.in1 (SV (.ref I) >>= _) _ _ s;refine ZB (W.done s _ _ hst λs' hm=>?_);refine X4 (hR s' ks (hm.mono more) (set_to hm (keep_to hm kp) hTk hS) (λc=>?_) hTk);rw[hm' c,<- hlen,XB]
 | succ k ih =>
  intro i s ks hk hi hst kp hS hm' hTk hR;have hlt:i<n:=by lia
  refine Wd Vx ?_;rw[Wp Wb _];show Xy _ A.in1 (SV (.ref I) >>= _) _ _ s;refine ZB (W.item i s _ _ hlt hst λv s' hPv hst' hm=>?_);obtain⟨x,p,rfl,hq,hx⟩:=hP' i v hPv;have kp':=keep_to hm kp;have hS':=set_to hm kp' hTk hS;have hpm:p∈ps:=XZ hq;have tk:ps.take (i+1)=ps.take i++[p]:=by
   rw[Xh,hq];rfl
  refine ZB (W1 (zj4 (show A.in1.units<U3 from hu) hS' (pair_up kp' hx) (hb p hpm) (λhno=>?_) λb h' ks' hs' hS2 hmem zps=>?_))
  .have:=few (p::ks.map (·.2)) (Wl.mpr ⟨hno,hS'.nd⟩) λc hc=>by
    rcases XQ.mp hc with rfl | hc
    .exact hpm
    .exact Wq ((hm' c).mp hc)
   rw[XE,Y1]at this;lia
  have kp2:∀b o,h0.get? b=some o->h'.get? b=some o:=λb o e=>by
   rw[hs'.2 b (λz=>by
    rw[z,hD0]at e;cases e)]
   exact kp' b o e
  refine X4 ⟨VC Wb _,?_⟩;refine ih (i+1) _ ks' (by lia) hlt (W.frame _ s' _ _ hst' (UF _ _) λb hb o e=>?_) kp2 hS2 (λc=>?_) (λq hq'=>?_) λs'' ks'' hm'' hS'' hc'' hT''=>?_
  .rw[hs'.2 b (λz=>hDf (by rw[<- z];exact hb))];exact e
  .rw[hmem c,hm' c,tk,XR,WB]
  .rcases zps q hq' with z | z
   .exact hTk q z
   .rw[z];exact hx
  .refine hR s'' ks'' (Moved.trans W.gtrans ((hm.mono more).then_heap (UF _ _) λb o hb e=>?_) hm'') hS'' hc'' hT'';rw[hs'.2 b (λz=>hb (by rw[z];exact X2))];exact e
end
section
variable {prog:Xd}{w:WV}{A:WT}{E:X9->X8->Prop}{s:X8}
def zhC (a:X9){Q₁:X9->X8->Prop}(h:Q₁ (.ref s.heap.objs.size) { s with heap:=s.heap.push (zT #[] 0 (.fresh 0 0 (!w.params.followText "set-order"))) }) :
  UX (Xo prog w) A (.call (.builtin "set.__new__") ⟨[.type "set",a],[]⟩) (wants Q₁ E) s:=by
 refine OQ ?_;show Xy _ A.in1 (do R4 "set.__new__" ⟨[.type "set",a],[]⟩;OF (.builtin "set.__new__" ⟨[.type "set",a],[]⟩)) _ _ s;refine ZB (RT (PySem.F.newCall_set_1 a) (X4 ⟨VC OJ _,Wd PySem.F.entry_set_new ?_⟩));rw[Wp OJ _];unfold UW.«set.__new__» Builtin.Frozenset.newClass;have hsub:=sub_set_self;obtain⟨hp,g,d,tk,os⟩:=s;dsimp only;wp_walk;refine Pp (X4 ?_);dsimp only;simp only[newObj];refine ZB (wpAny_alloc (X4 ?_));exact X4 h
def zcd (led:Bool):Good (.fresh 0 0 led) #[]:=⟨.inl rfl,rfl,rfl,λi j _ h=>absurd h (by simp[SetTable.fresh]),λi h=>absurd h (by simp[SetTable.fresh]),by simp[SetTable.fresh],λi h=>absurd h (by simp[SetTable.fresh])⟩
set_option maxHeartbeats 8000000 in
theorem zj6 {l:Addr}{its:Array X9}{ps:List (Int×Int)}{T:Addr->Int×Int->Prop}{Q:X9->X8->Prop}(hh:A.handled=none)(hu:A.units+64<U3)(hl:s.heap.IsList l its)(hlen:ps.length=its.size)
  (hT:∀x p,T x p->zz s.heap (.ref x) p) (hP':∀(i:Nat) (v:X9),its[i]?=some v->∃x p,v=WN x/\ps[i]?=some p/\T x p) (hb:∀p∈ps,InB p) (few:∀l:List (Int×Int),l.Nodup->(∀c∈l,c∈ps)->l.length<=63)
  (h:∀(h':Heap) (tk:Nat) (ks:List (Addr×(Int×Int))),(∀b o,s.heap.get? b=some o->h'.get? b=some o)->zc1 (hP prog w) (!w.params.followText "set-order") h' s.heap.objs.size ks->(∀c,c∈ks.map (·.2)↔c∈ps)->(∀q∈ks,T q.1 q.2)->Q (.ref s.heap.objs.size) { s with heap:=h',toks:=tk }) :
  Xy (Xo prog w) A (call (.type "set") [.ref l]) Q E s:=by
 obtain⟨c,tl,hmro⟩:=PySem.F.called_set.mro;have hmade:=PySem.F.called_set.made;have hsub:=PySem.F.called_set.sub;refine Pg (OQ ?_);show Xy _ _ (callAny (.type "set") _) _ _ _;refine X4 ⟨Rl _ (by decide+kernel),Wd Pi ?_⟩;rw[Around.under_plain (OI "set" [.ref l] []) rfl];have h1:=PySem.F.called_set.notType;have h2:=PySem.F.called_set.canCreate;have hct:=O4 (.ref l);repeat (any_goals (first | assumption | wp_step))
 refine UI (zhC (.ref l) (E:=E) (Q₁:=λobj s₁=>obj=.ref s.heap.objs.size/\s₁={ s with heap:=s.heap.push (zT #[] 0 (.fresh 0 0 (!w.params.followText "set-order"))) }) ⟨rfl,rfl⟩) λr s₁ hr=>?_;cases r with
 | error e=>exact hr
 | ok fl =>
  cases fl with
  | ret obj =>
   obtain⟨rfl,rfl⟩:=hr;generalize hled:(!w.params.followText "set-order")=led at h ⊢;have hS:(s.heap.push (zT #[] 0 (.fresh 0 0 led))).get? s.heap.objs.size=some (zT #[] 0 (.fresh 0 0 led)):=Xe _ rfl;have hTy:S8 { s with heap:=s.heap.push (zT #[] 0 (.fresh 0 0 led)) } (.ref s.heap.objs.size) "set":=⟨_,hS,rfl⟩;have hli:=PySem.F.called_set.init.lookup;have hbi:=PySem.F.called_set.init.bind (.ref s.heap.objs.size);repeat (any_goals (first | assumption | wp_step))
   refine UI (U0 (R:=wants (λr s₂=>r=.none/\∃h' tk ks,s₂={ s with heap:=h',toks:=tk }/\zc1 (hP prog w) led h' s.heap.objs.size ks/\(∀c,c∈ks.map (·.2)↔c∈ps)/\(∀q∈ks,T q.1 q.2) /\
     (∀b o,s.heap.get? b=some o->h'.get? b=some o)) E) PySem.F.called_set.init.plain O3 (check_set_init_1 hTy ?_)) λr₂ s₂ hr₂=>?_
   .obtain⟨ol,hol,hcl,nl,hdl⟩:=hl;obtain⟨ocls,odict,odata,oslots⟩:=ol;simp only at hcl hdl;subst hcl;subst hdl;have hol':(s.heap.push (zT #[] 0 (.fresh 0 0 led))).get? l=some { cls:=.type "list",dict:=odict,data:=.seq its nl,slots:=oslots }:=X6 _ hol;have hsls:=Om;have hslf:=Ra;have hne:(R6 "list" == R6 "dict")=false:=by decide
    have hl1:(s.heap.push (zT #[] 0 (.fresh 0 0 led))).IsList l its:=⟨_,hol',rfl,nl,rfl⟩;unfold UW.«set.__init__» noKeywords RG;generalize hG:s.heap.push (zT #[] 0 (.fresh 0 0 led))=G at hS hTy hol' hl1 ⊢;unfold zT at hS;generalize hPI:NT=PI;wp_walk;subst hPI;subst hG;refine Ur hl1 ?_;refine ZB (Ou ?_);have hlS:l<s.heap.objs.size:=XJ hol;have zS:(s.heap.push (zT #[] 0 (.fresh 0 0 led))).objs.size=s.heap.objs.size+1:=Vu ..;have hneI:l≠(s.heap.push (zT #[] 0 (.fresh 0 0 led))).objs.size:=by
     rw[zS];exact Xk (Wv hlS)
    have hSf:s.heap.objs.size ∉ [(s.heap.push (zT #[] 0 (.fresh 0 0 led))).objs.size,l]:=by
     rw[zS];simp only[XQ,V6,or_false,not_or];exact⟨Xk (Ti _),Us hlS⟩
    refine zj5 (h0:=s.heap) (led:=led) ((Walks.list (by simp[hh]) (s.heap.push (zT #[] 0 (.fresh 0 0 led))).objs.size l hneI its).toS) s.heap.objs.size hSf (Uo (XU _)) (λb hb=>?_) ps hlen (by show A.units+1+1+1<U3;lia) T hT hP' hb few (its.size-0) 0 _ [] rfl (W7 _)
     ⟨⟨_,Xe _ rfl,rfl,rfl⟩,(hl1.push _)⟩ (λb o z=>X6 _ (X6 _ z)) ⟨⟨#[],0,.fresh 0 0 led,X6 _ hS,rfl,(by rw[Array.map_empty];exact zcd led),rfl,rfl⟩,T7,(λq z=>nomatch z),(λq z=>nomatch z)⟩ (λc=>by simp) (λq z=>nomatch z) ?_
    .have e:b=(s.heap.push (zT #[] 0 (.fresh 0 0 led))).objs.size:=by simpa using hb
     rw[e,zS];exact Uo (V9 _)
    .intro s' ks hm hS' hm' hT';obtain⟨h',g',d',tk',os'⟩:=s';have eg:g'=s.gens:=hm.gens;have ed:d'=s.drawn:=hm.drawn;have eo:os'=s.os:=hm.os;subst eg;subst ed;subst eo;show Xy _ _ _ _ _ _;refine X4 ?_;show Xy _ _ (ret US) _ _ _;refine X4 ⟨rfl,h',tk',ks,rfl,hS',hm',hT',λb o e=>?_⟩;have lt:=XJ e;refine hm.heap b o (λz=>?_) (X6 _ (X6 _ e));rcases XQ.mp z with z | z
     .exact V8 _ (z ▸ lt)
     .have z':b=(s.heap.push (zT #[] 0 (.fresh 0 0 led))).objs.size:=by simpa using z
      rw[z',zS]at lt;exact absurd lt (Rv.mpr (V9 _))
   .cases r₂ with
    | error e=>exact hr₂
    | ok fl₂ =>
     cases fl₂ with
     | ret r =>
      obtain⟨rfl,h',tk,ks,rfl,hS',hm',hT',hk'⟩:=hr₂;repeat (any_goals (first | assumption | wp_step))
      exact h _ _ _ hk' hS' hm' hT'
     | _=>exact hr₂.elim
  | _=>exact hr.elim
end
def zce {α β:Type}(f:α->β){l l':List β}(h:l.Perm l'):∀ks:List α,l'=ks.map f->∃js:List α,js.Perm ks/\l=js.map f:=by
 induction h with
 | nil=>exact λks e=>⟨ks,List.Perm.refl _,e⟩
 | cons x h ih =>
  intro ks e;cases ks with
  | nil=>simp at e
  | cons k ks =>
   rw[Xf]at e;injection e with e1 e2
   obtain⟨js,h1,h2⟩:=ih ks e2;exact⟨k::js,h1.cons k,by rw[Xf,e1,h2]⟩
 | swap x y l =>
  intro ks e;match ks,e with
  | [],e=>simp at e
  | [k],e=>simp at e
  | k1::k2::ks,e =>
   rw[Xf,Xf]at e;injection e with e1 e2
   injection e2 with e2 e3
   exact⟨k2::k1::ks,List.Perm.swap k1 k2 ks,by rw[Xf,Xf,e1,e2,e3]⟩
 | trans h1 h2 ih1 ih2 =>
  intro ks e;obtain⟨js,a,b⟩:=ih2 ks e;obtain⟨is,c,d⟩:=ih1 js b;exact⟨is,c.trans a,d⟩
section
variable {X:Cx}
def ziv (hu:X.A.units+64<U3)(hh:X.A.handled=none):jw X (.type "set") (λxs H Q=>∃l us ps,xs=[.ref l]/\SqL X.K H l us/\xx H us ps/\(∀p∈ps,InB p)/\(∀l:List (Int×Int),l.Nodup->(∀c∈l,c∈ps)->l.length<=63) /\
  ∀d ks,H d=none->(∀q∈ks,H q.1=some (.tup [.int q.2.1,.int q.2.2]))->(ks.map (·.2)).Nodup->(∀c,c∈ks.map (·.2)↔c∈ps)->Q (.ref d) (upd H d (zfo X.prog X.w d ks))):=by
 intro bQ s σ H xs us' Q I r h;obtain⟨l,us,ps,rfl,hq,ht,hb,few,q⟩:=h;obtain⟨u,rfl,ru⟩:=vals1 r;cases ru;obtain⟨its,rv,pl,hz⟩:=I.list hq;have hp:=xx.pairs I ht rv;have hlp:its.length=ps.length:=Paired.length hp;have tw:∀{us:AF} {ps:List (Int×Int)} {its:List X9},xx H us ps->Vals us its->∀(i:Nat) (v:X9),its[i]?=some v->∃x p,v=WN x/\ps[i]?=some p/\H x=some (.tup [.int p.1,.int p.2]):=by
  intro us ps its h1;induction h1 generalizing its with
  | nil =>
   intro r i v e;cases r;simp at e
  | cons a t ih =>
   intro r i v e;obtain⟨x,rfl,hx⟩:=a;cases r with
   | cons r1 r2 =>
    cases r1;cases i with
    | zero =>
     simp at e;exact⟨x,_,e.symm,rfl,hx⟩
    | succ i =>
     obtain⟨y,p,h1,h2,h3⟩:=ih r2 i v (by simpa using e);exact⟨y,p,h1,by simpa using h2,h3⟩
 refine zj6 (T:=λx p=>H x=some (.tup [.int p.1,.int p.2])) hh hu pl.isList (by simp[hlp]) (λx p hx=>?_) (λi v e=>tw ht rv i v (by simpa using e)) hb few λh' tk ks kk hS hm hT=>?_
 .obtain⟨items,rv',tp,_⟩:=I.tuple (SqT.of hx);obtain⟨u1,u2,rfl,⟨t1,rfl⟩,⟨t2,rfl⟩⟩:=vals2 rv';obtain⟨ob,e1,c1,n,d1⟩:=tp;exact⟨x,ob,n,t1,t2,rfl,e1,c1,d1⟩
 .have hD:H s.heap.objs.size=none:=I.hok.fresh (XU _);obtain⟨es,ep,t,ho,rest⟩:=hS.ex;refine⟨.ref s.heap.objs.size,upd H s.heap.objs.size (zfo X.prog X.w s.heap.objs.size ks),I.laid (t':=tk) kk (XU _) ⟨⟨es,ep,t,ho,rest⟩,⟨_,ho⟩,λh1 h2 ⟨es,ep,t,ho,rest⟩ k=>⟨es,ep,t,k _ ho,rest⟩⟩,rfl,q _ _ hD hT hS.nd hm⟩
end
end ST
namespace GS
section
variable {prog:Xd}{w:WV}{A:WT}{E:X9->X8->Prop}{s:X8}{rk:W9->Int}{κ:Tw}{a0:Array W9}
def Rk (rk:W9->Int)(xs:Array W9)(i:Nat):Int:=match xs[i]? with
 | some p=>rk p
 | none=>0
def Jw {xs ys:Array W9}{i j:Nat}(h:xs[i]?=ys[j]?):Rk rk xs i=Rk rk ys j:=by
 unfold Rk;rw[h]
def Up (rk:W9->Int)(xs:Array W9)(lo hi:Nat):Prop:=∀i j,lo<=i->i<=j->j<hi->Rk rk xs i<=Rk rk xs j
def Tells (prog:Xd)(w:WV)(A:WT)(s:X8)(κ:Tw)(rk:W9->Int)(a0:Array W9):Prop :=
 ∀x∈a0.toList,∀y∈a0.toList,∀C:Bool->X8->Prop,C (decide (rk x<rk y)) s->Xy (Xo prog w) A (keyLt' κ x.1 y.1) C (λ_ _=>False) s
structure Ok (κ:Tw)(a0:Array W9)(st:WM):Prop where
 perm:(Xg st).Perm a0
 kind:kindOf st=κ
 good:SA st=none
theorem Ok.size {st:WM}(h:Ok κ a0 st):(Xg st).size=a0.size:=h.perm.size_eq
def Ok.at {st:WM}(h:Ok κ a0 st){i:Nat}(hi:i<a0.size):∃x,(Xg st)[i]?=some x/\x∈a0.toList/\Rk rk (Xg st) i=rk x:=by
 have hi':i<(Xg st).size:=by rw[h.size];exact hi
 have e:(Xg st)[i]?=some (Xg st)[i]:=getElem?_pos _ i hi';refine⟨(Xg st)[i],e,(Uw.mp h.perm).mem_iff.mp (by simp),?_⟩;unfold Rk;rw[e]
def zj7 {st:WM}{x y:W9}{Q:Option Bool->WM->Prop}(T:Tells prog w A s κ rk a0)(hk:kindOf st=κ)(hx:x∈a0.toList)(hy:y∈a0.toList)(h:Q (some (decide (rk x<rk y))) st):wpS (Xo prog w) A E s (lt' x y) Q st:=by
 rw[lt'_eq];refine XF (R0 ?_);rw[hk];refine XF (Pz (S9 (WE (T x hx y hy (λb s'=>s'=s/\b=decide (rk x<rk y)) ⟨rfl,rfl⟩) (λb s' hb=>⟨hb.1,?_⟩) λ_ _ hF=>hF.elim)));rw[hb.2];exact Xl h
def qQ {st:WM}{xs:Array W9}{i:Nat}{x:W9}{Q:W9->WM->Prop}(e:xs[i]?=some x)(h:Q x st):wpS (Xo prog w) A E s (elem' xs i) Q st:=by
 rw[elem'_eq,e];exact Xl h
def zcf {st:WM}{i j:Nat}{Q:Option Bool->WM->Prop}(T:Tells prog w A s κ rk a0)(O:Ok κ a0 st)(hi:i<a0.size)(hj:j<a0.size)(h:Q (some (decide (Rk rk (Xg st) i<Rk rk (Xg st) j))) st):wpS (Xo prog w) A E s (ltAt' i j) Q st:=by
 obtain⟨x,e1,m1,r1⟩:=O.at (rk:=rk) hi;obtain⟨y,e2,m2,r2⟩:=O.at (rk:=rk) hj;rw[r1,r2]at h;rw[ltAt'_eq];refine XF (R0 ?_);exact XF (qQ e1 (XF (qQ e2 (zj7 T O.kind m1 m2 h))))
structure Step (κ:Tw)(a0:Array W9)(lo:Nat)(st st':WM):Prop where
 ok:Ok κ a0 st'
 pend:WK st'=WK st
 low:∀i:Nat,i<lo->(Xg st')[i]?=(Xg st)[i]?
def Step.refl {lo:Nat}{st:WM}(O:Ok κ a0 st):Step κ a0 lo st st:=⟨O,rfl,λ_ _=>rfl⟩
def zaJ {xs:Array W9}{i j:Nat}(hj:j<=xs.size)(k:Nat):Rk rk (mirror xs i j ((j-i)/2)) k=if i<=k/\k<j then Rk rk xs (i+j-1-k) else Rk rk xs k:=by
 have e:=N2 (i:=i) hj k;by_cases h1:i<=k/\k<j
 .rw[bw h1]at e ⊢;exact Jw e
 .rw[bq h1]at e ⊢;exact Jw e
def jI {xs:Array W9}{i j:Nat}(hj:j<=xs.size)(heq:∀k,i<=k->k<j->Rk rk xs k=Rk rk xs (j-1))(k:Nat):Rk rk (mirror xs i j ((j-i)/2)) k=Rk rk xs k:=by
 rw[zaJ hj];split
 .rw[heq _ (by lia) (by lia),heq k (by lia) (by lia)]
 .rfl
theorem Step.mirror {lo i j:Nat}{st st':WM}(x:Step κ a0 lo st st')(hi:lo<=i)(hj:j<=a0.size):Step κ a0 lo st (setArr st' (mirror (Xg st') i j ((j-i)/2))):=by
 refine⟨⟨(mirror_perm _ _ _ _).trans x.ok.perm,x.ok.kind,x.ok.good⟩,x.pend,λk hk=>?_⟩;show (PyProof.Rows.mirror (Xg st') i j ((j-i)/2))[k]?=_;rw[N2 (by rw[x.ok.size];exact hj),bq (by lia)];exact x.low k hk
def zhD {st:WM}{i j:Nat}{Q:Unit->WM->Prop}(h:Q () (setArr st (mirror (Xg st) i j ((j-i)/2)))):wpS (Xo prog w) A E s (RX i j) Q st:=by
 rw[reverseSlice'_eq];exact SO h
def up1 (lo a nrem:Nat):StateT WM Sem AscSt :=
 forIn [a:nrem] ((none,a):AscSt) λ_ c=>do
  let x <- ltAt' (lo+c.snd) (lo+c.snd-1)
  match x with
  | some b=>if b=true then pure (ForInStep.done (none,c.snd)) else pure (Vd (none,c.snd+1))
  | _=>pure (ForInStep.done (some none,c.snd))
def zj8 (lo n nrem:Nat):StateT WM Sem (Option Nat):=do
 RX lo (lo+n)
 let c <- up1 lo n nrem
 match c.fst with
 | some r=>pure r
 | none=>pure (some c.snd)
def zhE (lo n nrem:Nat):StateT WM Sem DescSt :=
 forIn [n:nrem] ((none,n,0):DescSt) λ_ c=>do
  let x <- ltAt' (lo+c.snd.fst) (lo+c.snd.fst-1)
  match x with
  | some b =>
   if b=true then
    if c.snd.snd>0 then do
     RX (lo+c.snd.fst-(c.snd.snd+1)) (lo+c.snd.fst)
     pure (Vd (none,c.snd.fst+1,0))
    else pure (Vd (none,c.snd.fst+1,0))
   else do
    let x <- ltAt' (lo+c.snd.fst-1) (lo+c.snd.fst)
    match x with
    | some b =>
     if b=true then pure (ForInStep.done (none,c.snd.fst,c.snd.snd))
     else pure (Vd (none,c.snd.fst+1,c.snd.snd+1))
    | _=>pure (ForInStep.done (some none,c.snd.fst,c.snd.snd))
  | _=>pure (ForInStep.done (some none,c.snd.fst,c.snd.snd))
def part2 (lo n nrem:Nat):StateT WM Sem (Option Nat):=do
 liftM (rule "list.sort.descending-run")
 let c <- zhE lo (n+1) nrem
 match c.fst with
 | some r=>pure r
 | none =>
  if c.snd.snd>0 then do
   RX (lo+c.snd.fst-(c.snd.snd+1)) (lo+c.snd.fst)
   zj8 lo c.snd.fst nrem
  else zj8 lo c.snd.fst nrem
theorem run_eq (lo nrem:Nat):countRun' lo nrem=(do
  let c <- up1 lo 1 nrem
  match c.fst with
  | some r=>pure r
  | none =>
   if (c.snd==nrem)=true then pure (some c.snd)
   else if c.snd>1 then do
    let x <- ltAt' lo (lo+c.snd-1)
    match x with
    | some b=>if b=true then pure (some c.snd) else do
      RX lo (lo+c.snd)
      part2 lo c.snd nrem
    | _=>pure none
   else part2 lo c.snd nrem):=by
 rw[countRun'_eq];unfold part2 zj8 zhE up1;refine bind_congr λc=>?_;obtain⟨r,n⟩:=c;cases r with
 | some r=>rfl
 | none =>
  dsimp only;split
  .rfl
  .split
   .refine bind_congr λx=>?_;cases x with
    | none=>rfl
    | some b =>
     dsimp only;split
     .rfl
     .refine bind_congr λ_=>bind_congr λ_=>bind_congr λc2=>?_;obtain⟨r2,n2,q2⟩:=c2;cases r2 with
      | some r2=>rfl
      | none =>
       dsimp only;split
       .refine bind_congr λ_=>bind_congr λ_=>bind_congr λc3=>?_;obtain⟨r3,n3⟩:=c3;cases r3<;>rfl
       .refine bind_congr λ_=>bind_congr λc3=>?_;obtain⟨r3,n3⟩:=c3;cases r3<;>rfl
   .refine bind_congr λ_=>bind_congr λc2=>?_;obtain⟨r2,n2,q2⟩:=c2;cases r2 with
    | some r2=>rfl
    | none =>
     dsimp only;split
     .refine bind_congr λ_=>bind_congr λ_=>bind_congr λc3=>?_;obtain⟨r3,n3⟩:=c3;cases r3<;>rfl
     .refine bind_congr λ_=>bind_congr λc3=>?_;obtain⟨r3,n3⟩:=c3;cases r3<;>rfl
def Down (rk:W9->Int)(xs:Array W9)(lo n:Nat):Prop:=∀i j,i<=j->j<n->Rk rk xs (lo+j)<=Rk rk xs (lo+i)
def zm6 {st:WM}{lo a nrem:Nat}{Q:AscSt->WM->Prop}(T:Tells prog w A s κ rk a0)(O:Ok κ a0 st)(hn:lo+nrem<=a0.size)(ha:1<=a)(han:a<=nrem)(hs:Up rk (Xg st) lo (lo+a))
  (h:∀n,a<=n->n<=nrem->Up rk (Xg st) lo (lo+n)->(n=nrem\/Rk rk (Xg st) (lo+n)<Rk rk (Xg st) (lo+n-1))->Q (none,n) st):wpS (Xo prog w) A E s (up1 lo a nrem) Q st:=by
 unfold up1;refine VT (I:=λx c st'=>st'=st/\c=(none,x)/\Up rk (Xg st) lo (lo+x)) ?step ?fin ⟨rfl,rfl,hs⟩
 case fin =>
  rintro c st' ⟨rfl,rfl,hs'⟩
  rw[show max a nrem=nrem by lia]at hs' ⊢
  exact h nrem han (XU _) hs' (.inl rfl)
 case step =>
  rintro x c st' hax hxn ⟨rfl,rfl,hs'⟩
  dsimp only
  refine XF (zcf T O (by lia) (by lia) ?_)
  by_cases hless:Rk rk (Xg st') (lo+x)<Rk rk (Xg st') (lo+x-1)
  .simp only[hless,decide_true,if_true];exact Xl (h x hax (by lia) hs' (.inr hless))
  .simp only[hless,decide_false,Wc,if_false];refine Xl ⟨rfl,rfl,λi j hi hij hj=>?_⟩;by_cases hjx:j<lo+x
   .exact hs' i j hi hij hjx
   .obtain rfl:j=lo+x:=by lia
    by_cases hi':i=lo+x
    .subst hi';exact Ve _
    .exact Vr (hs' i (lo+x-1) hi (by lia) (by lia)) (NO.mp hless)
def zj9 {st0 st:WM}{lo n nrem:Nat}{Q:Option Nat->WM->Prop}(T:Tells prog w A s κ rk a0)(S:Step κ a0 lo st0 st)(hn:lo+nrem<=a0.size)(h1:1<=n)(hnn:n<=nrem)(hs:Down rk (Xg st) lo n)
  (h:∀m st',Step κ a0 lo st0 st'->1<=m->m<=nrem->Up rk (Xg st') lo (lo+m)->Q (some m) st'):wpS (Xo prog w) A E s (zj8 lo n nrem) Q st:=by
 unfold zj8;refine XF (zhD ?_);have S':=S.mirror (i:=lo) (j:=lo+n) (XU _) (by lia);refine XF (zm6 T S'.ok hn h1 hnn ?_ λm hm1 hm2 hsm _=>Xl (h m _ S' (by lia) hm2 hsm));intro i j hi hij hj;have hsz:lo+n<=(Xg st).size:=by
  rw[S.ok.size];lia
 show Rk rk (mirror (Xg st) lo (lo+n) ((lo+n-lo)/2)) i<=Rk rk (mirror (Xg st) lo (lo+n) ((lo+n-lo)/2)) j;rw[zaJ hsz,zaJ hsz,bw (by lia),bw (by lia)];have:=hs (lo+n-1-j) (lo+n-1-i) (by lia) (by lia);rw[show lo+(lo+n-1-j)=lo+(lo+n)-1-j by lia,show lo+(lo+n-1-i)=lo+(lo+n)-1-i by lia]at this;exact this
def zl6 {st0 st:WM}{lo n nrem:Nat}{Q:DescSt->WM->Prop}(T:Tells prog w A s κ rk a0)(S:Step κ a0 lo st0 st)(hn:lo+nrem<=a0.size)(h1:1<=n)(hnn:n<=nrem)(hs:Down rk (Xg st) lo n)
  (h:∀m q st',Step κ a0 lo st0 st'->n<=m->m<=nrem->Down rk (Xg st') lo m->q+1<=m->(∀i,m-(q+1)<=i->i<m->Rk rk (Xg st') (lo+i)=Rk rk (Xg st') (lo+(m-1)))->Q (none,m,q) st'):wpS (Xo prog w) A E s (zhE lo n nrem) Q st:=by
 unfold zhE;refine VT (I:=λx c st'=>∃q,c=(none,x,q)/\Step κ a0 lo st0 st'/\Down rk (Xg st') lo x/\q+1<=x /\
   (∀i,x-(q+1)<=i->i<x->Rk rk (Xg st') (lo+i)=Rk rk (Xg st') (lo+(x-1)))) ?step ?fin ⟨0,rfl,S,hs,by lia,λi h1 h2=>by congr 1;lia⟩
 case fin =>
  rintro c st' ⟨q,rfl,S',hs',hq,he⟩
  rw[show max n nrem=nrem by lia]at hs' hq he ⊢
  exact h nrem q st' S' hnn (XU _) hs' hq he
 case step =>
  rintro x c st' hax hxn ⟨q,rfl,S',hs',hq,he⟩
  dsimp only
  have hsz:lo+x<=(Xg st').size:=by
   rw[S'.ok.size];lia
  refine XF (zcf T S'.ok (by lia) (by lia) ?_)
  by_cases hless:Rk rk (Xg st') (lo+x)<Rk rk (Xg st') (lo+x-1)
  .simp only[hless,decide_true,if_true];have step1:∀xs:Array W9,(∀k,Rk rk xs k=Rk rk (Xg st') k)->Down rk xs lo (x+1):=by
    intro xs hk i j hij hj;rw[hk,hk];by_cases hjx:j<x
    .exact hs' i j hij hjx
    .obtain rfl:j=x:=by lia
     by_cases hi':i=j
     .subst hi';exact Ve _
     .have a1:=hs' i (j-1) (by lia) (by lia);rw[show lo+(j-1)=lo+j-1 by lia]at a1;exact Vr (V2 hless) a1
   by_cases hq0:q>0
   .rw[bw hq0];refine XF (zhD (Xl ⟨0,rfl,S'.mirror (by lia) (by lia),step1 _ (jI hsz λk k1 k2=>?_),by lia,λi h1 h2=>by congr 1;lia⟩));have a1:=he (k-lo) (by lia) (by lia);rw[show lo+(k-lo)=k by lia,show lo+(x-1)=lo+x-1 by lia]at a1;exact a1
   .rw[bq hq0];exact Xl ⟨0,rfl,S',step1 _ (λ_=>rfl),by lia,λi h1 h2=>by congr 1;lia⟩
  .simp only[hless,decide_false,Wc,if_false];refine XF (zcf T S'.ok (by lia) (by lia) ?_);by_cases hmore:Rk rk (Xg st') (lo+x-1)<Rk rk (Xg st') (lo+x)
   .simp only[hmore,decide_true,if_true];exact Xl (h x q st' S' hax (by lia) hs' hq he)
   .simp only[hmore,decide_false,Wc,if_false];have heqx:Rk rk (Xg st') (lo+x)=Rk rk (Xg st') (lo+(x-1)):=by
     rw[show lo+(x-1)=lo+x-1 by lia];lia
    refine Xl ⟨q+1,rfl,S',λi j hij hj=>?_,by lia,λi h1 h2=>?_⟩
    .by_cases hjx:j<x
     .exact hs' i j hij hjx
     .obtain rfl:j=x:=by lia
      by_cases hi':i=j
      .subst hi';exact Ve _
      .rw[heqx];exact hs' i (j-1) (by lia) (by lia)
    .rw[show x+1-1=x by lia];by_cases hix:i=x
     .subst hix;rfl
     .rw[heqx];exact he i (by lia) (by lia)
def zhF {st0 st:WM}{lo n nrem:Nat}{Q:Option Nat->WM->Prop}(T:Tells prog w A s κ rk a0)(S:Step κ a0 lo st0 st)(hn:lo+nrem<=a0.size)(hnn:n+1<=nrem)(hs:Down rk (Xg st) lo (n+1))
  (h:∀m st',Step κ a0 lo st0 st'->1<=m->m<=nrem->Up rk (Xg st') lo (lo+m)->Q (some m) st'):wpS (Xo prog w) A E s (part2 lo n nrem) Q st:=by
 unfold part2;refine XF (Pz (UQ ⟨rfl,?_⟩));refine XF (zl6 T S hn (by lia) hnn hs λm q st' S' hm1 hm2 hs' hq he=>?_);dsimp only;have hsz:lo+m<=(Xg st').size:=by
  rw[S'.ok.size];lia
 by_cases hq0:q>0
 .rw[bw hq0];refine XF (zhD (zj9 T (S'.mirror (by lia) (by lia)) hn (by lia) hm2 ?_ h));intro i j hij hj;show Rk rk (mirror (Xg st') _ _ _) (lo+j)<=Rk rk (mirror (Xg st') _ _ _) (lo+i);have same:∀k,lo+m-(q+1)<=k->k<lo+m->Rk rk (Xg st') k=Rk rk (Xg st') (lo+m-1):=λk k1 k2=>by
   have a1:=he (k-lo) (by lia) (by lia);rw[show lo+(k-lo)=k by lia,show lo+(m-1)=lo+m-1 by lia]at a1;exact a1
  rw[jI hsz same,jI hsz same];exact hs' i j hij hj
 .rw[bq hq0];exact zj9 T S' hn (by lia) hm2 hs' h
def zpt {st:WM}{lo nrem:Nat}{Q:Option Nat->WM->Prop}(T:Tells prog w A s κ rk a0)(O:Ok κ a0 st)(hn:lo+nrem<=a0.size)(h1:1<=nrem)
  (h:∀m st',Step κ a0 lo st st'->1<=m->m<=nrem->Up rk (Xg st') lo (lo+m)->Q (some m) st'):wpS (Xo prog w) A E s (countRun' lo nrem) Q st:=by
 have S:=Step.refl (lo:=lo) O;rw[run_eq];refine XF (zm6 T O hn (XU 1) h1 (λi j hi hij hj=>by
  obtain rfl:i=j:=by lia
  exact Ve _) λn hn1 hn2 hsn hor=>?_)
 dsimp only;by_cases hnn:n=nrem
 .rw[bw (by simpa using hnn)];exact Xl (h n st S hn1 hn2 hsn)
 .rw[bq (by simpa using hnn)];have hlt:Rk rk (Xg st) (lo+n)<Rk rk (Xg st) (lo+n-1):=hor.resolve_left hnn;have hsz:lo+n<=(Xg st).size:=by
   rw[O.size];lia
  by_cases hgt:n>1
  .rw[bw hgt];refine XF (zcf T O (by lia) (by lia) ?_);by_cases hrose:Rk rk (Xg st) lo<Rk rk (Xg st) (lo+n-1)
   .simp only[hrose,decide_true,if_true];exact Xl (h n st S hn1 hn2 hsn)
   .simp only[hrose,decide_false,Wc,if_false];have hall:∀k,lo<=k->k<lo+n->Rk rk (Xg st) k=Rk rk (Xg st) (lo+n-1):=by
     intro k k1 k2;have a1:=hsn lo k (XU _) k1 k2;have a2:=hsn k (lo+n-1) k1 (by lia) (by lia);lia
    refine XF (zhD (zhF T (S.mirror (XU _) (by lia)) hn (by lia) ?_ h));intro i j hij hj;show Rk rk (mirror (Xg st) _ _ _) (lo+j)<=Rk rk (mirror (Xg st) _ _ _) (lo+i);rw[jI hsz hall,jI hsz hall];by_cases hjn:j<n
    .rw[hall (lo+i) (by lia) (by lia),hall (lo+j) (by lia) (by lia)];exact Ve _
    .obtain rfl:j=n:=by lia
     by_cases hi':i=j
     .subst hi';exact Ve _
     .rw[hall (lo+i) (by lia) (by lia)];exact V2 hlt
  .rw[bq hgt];obtain rfl:n=1:=by lia
   refine zhF T S hn (by lia) ?_ h;intro i j hij hj;by_cases hi':i=j
   .subst hi';exact Ve _
   .obtain rfl:i=0:=by lia
    obtain rfl:j=1:=by lia
    rw[Ri]at hlt;exact V2 hlt
def zdu {xs:Array W9}{src d:Nat}(hs:src<xs.size)(hd:d<=src)(k:Nat):Rk rk (bubble xs src d) k=if k=src-d then Rk rk xs src else if src-d<k/\k<=src then Rk rk xs (k-1) else Rk rk xs k:=by
 have e:=getElem?_bubble hs d hd k;by_cases h1:k=src-d
 .rw[bw h1]at e ⊢;exact Jw e
 .rw[bq h1]at e ⊢;by_cases h2:src-d<k/\k<=src
  .rw[bw h2]at e ⊢;exact Jw e
  .rw[bq h2]at e ⊢;exact Jw e
def zpu {st:WM}{lo n ok:Nat}{Q:Bool->WM->Prop}(T:Tells prog w A s κ rk a0)(O:Ok κ a0 st)(hn:lo+n<=a0.size)(hok:ok<=n)(hs:Up rk (Xg st) lo (lo+ok))
  (h:∀st',Step κ a0 lo st st'->Up rk (Xg st') lo (lo+n)->Q true st'):wpS (Xo prog w) A E s (binarySort' lo n ok) Q st:=by
 rw[binarySort'_eq];refine XF (T8 (VT (I:=λk c st'=>c=(none,())/\Step κ a0 lo st st'/\Up rk (Xg st') lo (lo+min k n))
  (Q:=λc st'=>c=(none,())/\Step κ a0 lo st st'/\Up rk (Xg st') lo (lo+n)) ?step ?fin ?init) ?post)
 case post =>
  rintro c st' ⟨rfl,S',hs'⟩
  exact Xl (h st' S' hs')
 case init =>
  refine⟨rfl,Step.refl O,λi j hi hij hj=>?_⟩
  by_cases h1:ok=0
  .obtain rfl:i=j:=by lia
   exact Ve _
  .exact hs i j hi hij (by lia)
 case fin =>
  rintro c st' ⟨hc,S',hs'⟩
  refine⟨hc,S',?_⟩
  rwa [show min (max (max ok 1) n) n=n by lia]at hs'
 case step =>
  rintro k c st' hak hkn ⟨rfl,S',hs'⟩
  rw[show min k n=k by lia]at hs'
  have O':=S'.ok
  have hk:lo+k<a0.size:=by lia
  refine XF (T8 (VT (I:=λx c st''=>st''=st'/\∃l r,c=(none,l,r)/\l<=r/\r<=k/\r-l<=k-x /\
    (∀i,i<l->Rk rk (Xg st') (lo+i)<=Rk rk (Xg st') (lo+k))/\(∀i,r<=i->i<k->Rk rk (Xg st') (lo+k)<Rk rk (Xg st') (lo+i)))
   (Q:=λc st''=>st''=st'/\∃l r,c=(none,l,r)/\l<=k /\
    (∀i,i<l->Rk rk (Xg st') (lo+i)<=Rk rk (Xg st') (lo+k))/\(∀i,l<=i->i<k->Rk rk (Xg st') (lo+k)<Rk rk (Xg st') (lo+i))) ?istep ?ifin ?iinit) ?ipost)
  case iinit=>exact⟨rfl,0,k,rfl,by lia,by lia,by lia,λi hi=>by lia,λi h1 h2=>by lia⟩
  case ifin =>
   rintro c st'' ⟨rfl,l,r,rfl,hlr,hrk,hm,hlo,hhi⟩
   obtain rfl:l=r:=by lia
   exact⟨rfl,l,l,rfl,hrk,hlo,hhi⟩
  case istep =>
   rintro x c st'' _ hxk ⟨rfl,l,r,rfl,hlr,hrk,hm,hlo,hhi⟩
   dsimp only
   by_cases hge:l >= r
   .rw[bw hge];obtain rfl:l=r:=by lia
    exact Xl ⟨rfl,l,l,rfl,hrk,hlo,hhi⟩
   .rw[bq hge];refine XF (zcf T O' hk (by lia) ?_);by_cases hless:Rk rk (Xg st'') (lo+k)<Rk rk (Xg st'') (lo+(l+r)/2)
    .simp only[hless,decide_true,if_true];refine Xl ⟨rfl,l,(l+r)/2,rfl,by lia,by lia,by lia,hlo,λi h1 h2=>?_⟩;exact Int.lt_of_lt_of_le hless (hs' _ _ (by lia) (by lia) (by lia))
    .simp only[hless,decide_false,Wc,if_false];refine Xl ⟨rfl,(l+r)/2+1,r,rfl,by lia,by lia,by lia,λi h1=>?_,hhi⟩;exact Vr (hs' (lo+i) (lo+(l+r)/2) (by lia) (by lia) (by lia)) (NO.mp hless)
  case ipost =>
   rintro c st'' ⟨rfl,l,r,rfl,hlk,hlo,hhi⟩
   show wpS _ _ _ _ (do moveDown' (lo+k) (lo+l);pure (Vd (none,()))) _ _
   rw[moveDown'_eq]
   have hks:lo+k<(Xg st'').size:=by
    rw[O'.size];exact hk
   refine XF (SO (Xl ⟨rfl,⟨⟨(bubble_perm _ _ _).trans O'.perm,O'.kind,O'.good⟩,S'.pend,λi hi=>?_⟩,?_⟩))
   .show (bubble (Xg st'') (lo+k) (lo+k-(lo+l)))[i]?=_;rw[getElem?_bubble hks _ (by lia),bq (by lia),bq (by lia)];exact S'.low i hi
   .rw[show min (k+1) n=k+1 by lia];intro i j hi hij hj;show Rk rk (bubble (Xg st'') (lo+k) (lo+k-(lo+l))) i<=Rk rk (bubble (Xg st'') (lo+k) (lo+k-(lo+l))) j;rw[zdu hks (by lia),zdu hks (by lia),show lo+k-(lo+k-(lo+l))=lo+l by lia];have up:∀a b,lo<=a->a<=b->b<lo+k->Rk rk (Xg st'') a<=Rk rk (Xg st'') b:=hs';have low:∀a,lo<=a->a<lo+l->Rk rk (Xg st'') a<=Rk rk (Xg st'') (lo+k):=λa a1 a2=>by
     have:=hlo (a-lo) (by lia);rwa [show lo+(a-lo)=a by lia]at this
    have high:∀a,lo+l<=a->a<lo+k->Rk rk (Xg st'') (lo+k)<Rk rk (Xg st'') a:=λa a1 a2=>by
     have:=hhi (a-lo) (by lia) (by lia);rwa [show lo+(a-lo)=a by lia]at this
    repeat' split
    all_goals first
     | (exfalso;lia)
     | exact Ve _
     | exact low _ (by lia) (by lia)
     | exact V2 (high _ (by lia) (by lia))
     | exact up _ _ (by lia) (by lia) (by lia)
def gallop':Bool->W9->Array W9->Nat->Nat->Nat->StateT WM Sem (Option Nat):=sortPriv% PySem.Builtin.gallop
def mergeLo':Array W9->Array W9->StateT WM Sem (Array W9):=sortPriv% PySem.Builtin.mergeLo
def mergeHi':Array W9->Array W9->StateT WM Sem (Array W9):=sortPriv% PySem.Builtin.mergeHi
def bey (rk:W9->Int)(left:Bool)(key x:W9):Bool:=if left then decide (rk x<rk key) else !decide (rk key<rk x)
def zfp {st:WM}{left:Bool}{key:W9}{arr:Array W9}{base n hint:Nat}{Q:Option Nat->WM->Prop}(T:Tells prog w A s κ rk a0)(hk:kindOf st=κ)(hkey:key∈a0.toList)(b:Nat->Bool)
  (he:∀i,i<n->∃x,arr[base+i]?=some x/\x∈a0.toList/\b i=bey rk left key x) (mono:∀i j,i<=j->j<n->b j=true->b i=true) (hh:hint<n)
  (h:∀k,k<=n->(∀i,i<k->b i=true)->(∀i,k<=i->i<n->b i=false)->Q (some k) st):wpS (Xo prog w) A E s (gallop' left key arr base n hint) Q st:=by
 have one:∀{i:Nat} {Q':Option Bool->WM->Prop},i<n->Q' (some (b i)) st->wpS (Xo prog w) A E s (do
   let x <- elem' arr (base+i)
   if left=true then lt' x key
    else do
     let r <- lt' key x
     pure (NP (λx=>!x) r)) Q' st:=by
  intro i Q' hi hq;obtain⟨x,e1,e2,e3⟩:=he i hi;refine XF (qQ e1 ?_);unfold bey at e3;cases left with
  | true =>
   rw[bw rfl]at e3 ⊢;rw[e3]at hq;exact zj7 T hk e2 hkey hq
  | false =>
   rw[bq XT]at e3 ⊢;rw[e3]at hq;exact XF (zj7 T hk hkey e2 (Xl hq))
 have last:∀{f:Nat->Option (Option Nat)×AA->StateT WM Sem (ForInStep (Option (Option Nat)×AA))} {g:Option (Option Nat)×AA->StateT WM Sem (Option Nat)},
   (∀x l r (R:ForInStep (Option (Option Nat)×AA)->WM->Prop),l >= r->R (.done (none,l,r)) st->wpS (Xo prog w) A E s (f x (none,l,r)) R st) ->
   (∀x l r (R:ForInStep (Option (Option Nat)×AA)->WM->Prop),l<r->r<=n->R (.yield (if b (l+(r-l)/2)=true then (none,l+(r-l)/2+1,r) else (none,l,l+(r-l)/2))) st->wpS (Xo prog w) A E s (f x (none,l,r)) R st) ->
   (∀l r,Q (some r) st->wpS (Xo prog w) A E s (g (none,l,r)) Q st) ->
   ∀(lo hi:Nat),lo<=hi->hi<=n->(∀i,i<lo->b i=true)->(∀i,hi<=i->i<n->b i=false)->wpS (Xo prog w) A E s (forIn [:n] ((none,lo,hi):Option (Option Nat)×AA) f >>= g) Q st:=by
  intro f g f1 f2 g1 lo hi h1 h2 h3 h4;refine XF (T8 (VT (I:=λx c st'=>st'=st/\∃l r,c=(none,l,r)/\l<=r/\r<=n/\r-l<=n-x/\(∀i,i<l->b i=true)/\(∀i,r<=i->i<n->b i=false))
   (Q:=λc st'=>st'=st/\∃l,c=(none,l,l)/\l<=n/\(∀i,i<l->b i=true)/\(∀i,l<=i->i<n->b i=false)) ?step ?fin ⟨rfl,lo,hi,rfl,h1,h2,by lia,h3,h4⟩) ?post)
  case fin =>
   rintro c st' ⟨rfl,l,r,rfl,a1,a2,a3,a4,a5⟩
   obtain rfl:l=r:=by lia
   exact⟨rfl,l,rfl,a2,a4,a5⟩
  case post =>
   rintro c st' ⟨rfl,l,rfl,a2,a4,a5⟩
   exact g1 l l (h l a2 a4 a5)
  case step =>
   rintro x c st' _ hx ⟨rfl,l,r,rfl,a1,a2,a3,a4,a5⟩
   by_cases hge:l >= r
   .obtain rfl:l=r:=by lia
    exact f1 x l l _ hge ⟨rfl,l,rfl,a2,a4,a5⟩
   .refine f2 x l r _ (by lia) a2 ?_;cases hb:b (l+(r-l)/2) with
    | true =>
     rw[bw rfl];exact⟨rfl,l+(r-l)/2+1,r,rfl,by lia,a2,by lia,λi hi=>mono i _ (by lia) (by lia) hb,a5⟩
    | false =>
     rw[bq XT];refine⟨rfl,l,l+(r-l)/2,rfl,by lia,by lia,by lia,a4,λi i1 i2=>?_⟩;cases hbi:b i with
     | false=>rfl
     | true =>
      have:=mono _ i i1 i2 hbi;rw[hb]at this;cases this
 refine XF (one hh ?_);dsimp only;cases hb:b hint with
 | true =>
  rw[bw rfl];refine XF (T8 (VT (I:=λx c st'=>st'=st/\∃l o,c=(none,l,o)/\l<o/\hint+l<n/\b (hint+l)=true/\x+1<=o)
   (Q:=λc st'=>st'=st/\∃l o,c=(none,l,o)/\l<o/\hint+l<n/\b (hint+l)=true/\(o >= n-hint\/(hint+o<n/\b (hint+o)=false))) ?step ?fin ⟨rfl,0,1,rfl,by lia,hh,hb,by lia⟩) ?post)
  case fin =>
   rintro c st' ⟨rfl,l,o,rfl,a1,a2,a3,a4⟩
   exact⟨rfl,l,o,rfl,a1,a2,a3,.inl (by lia)⟩
  case step =>
   rintro x c st' _ hx ⟨rfl,l,o,rfl,a1,a2,a3,a4⟩
   dsimp only
   by_cases hge:o >= n-hint
   .rw[bw hge];exact Xl ⟨rfl,l,o,rfl,a1,a2,a3,.inl hge⟩
   .rw[bq hge];refine XF (one (by lia) ?_);dsimp only;cases hbo:b (hint+o) with
    | false =>
     rw[bw (by decide)];exact Xl ⟨rfl,l,o,rfl,a1,a2,a3,.inr ⟨by lia,hbo⟩⟩
    | true =>
     rw[bq (by decide)];exact Xl ⟨rfl,o,2*o+1,rfl,by lia,by lia,hbo,by lia⟩
  case post =>
   rintro c st' ⟨rfl,l,o,rfl,a1,a2,a3,a4⟩
   refine last (λx l r R hge hR=>?_) (λx l r R hlt hr hR=>?_) (λl r hq=>Xl hq) (hint+l+1) (hint+min o (n-hint)) (by lia) (by lia) (λi hi=>mono i (hint+l) (by lia) a2 a3) λi i1 i2=>?_
   .dsimp only;rw[bw hge];exact Xl hR
   .dsimp only;rw[bq (by lia)];refine XF (one (by lia) ?_);dsimp only;cases hbm:b (l+(r-l)/2) with
    | true =>
     rw[hbm,bw rfl]at hR;rw[bw rfl];exact Xl hR
    | false =>
     rw[hbm,bq XT]at hR;rw[bq XT];exact Xl hR
   .rcases a4 with a4 | ⟨a4,a5⟩
    .lia
    .cases hbi:b i with
     | false=>rfl
     | true =>
      have:=mono _ i (show hint+o<=i by lia) i2 hbi;rw[a5]at this;cases this
 | false =>
  rw[bq XT];refine XF (T8 (VT (I:=λx c st'=>st'=st/\∃l o,c=(none,l,o)/\l<o/\l<=hint/\b (hint-l)=false/\x+1<=o)
   (Q:=λc st'=>st'=st/\∃l o,c=(none,l,o)/\l<o/\l<=hint/\b (hint-l)=false/\(o >= hint+1\/(o<=hint/\b (hint-o)=true))) ?step ?fin ⟨rfl,0,1,rfl,by lia,by lia,hb,by lia⟩) ?post)
  case fin =>
   rintro c st' ⟨rfl,l,o,rfl,a1,a2,a3,a4⟩
   exact⟨rfl,l,o,rfl,a1,a2,a3,.inl (by lia)⟩
  case step =>
   rintro x c st' _ hx ⟨rfl,l,o,rfl,a1,a2,a3,a4⟩
   dsimp only
   by_cases hge:o >= hint+1
   .rw[bw hge];exact Xl ⟨rfl,l,o,rfl,a1,a2,a3,.inl hge⟩
   .rw[bq hge];refine XF (one (by lia) ?_);dsimp only;cases hbo:b (hint-o) with
    | true =>
     rw[bw rfl];exact Xl ⟨rfl,l,o,rfl,a1,a2,a3,.inr ⟨by lia,hbo⟩⟩
    | false =>
     rw[bq (by decide)];exact Xl ⟨rfl,o,2*o+1,rfl,by lia,by lia,hbo,by lia⟩
  case post =>
   rintro c st' ⟨rfl,l,o,rfl,a1,a2,a3,a4⟩
   refine last (λx l r R hge hR=>?_) (λx l r R hlt hr hR=>?_) (λl r hq=>Xl hq) (hint+1-min o (hint+1)) (hint-l) (by lia) (by lia) (λi hi=>?_) λi i1 i2=>?_
   .dsimp only;rw[bw hge];exact Xl hR
   .dsimp only;rw[bq (by lia)];refine XF (one (by lia) ?_);dsimp only;cases hbm:b (l+(r-l)/2) with
    | true =>
     rw[hbm,bw rfl]at hR;rw[bw rfl];exact Xl hR
    | false =>
     rw[hbm,bq XT]at hR;rw[bq XT];exact Xl hR
   .rcases a4 with a4 | ⟨a4,a5⟩
    .lia
    .exact mono i (hint-o) (by lia) (by lia) a5
   .cases hbi:b i with
    | false=>rfl
    | true =>
     have:=mono _ i i1 i2 hbi;rw[a3]at this;cases this
end
structure MI (rk:W9->Int)(aL bL:List W9)(ia ib:Nat)(oL:List W9):Prop where
 perm:oL.Perm (aL.take ia++bL.take ib)
 srt:oL.Pairwise λx y=>rk x<=rk y
 la:∀x∈oL,∀y∈aL.drop ia,rk x<=rk y
 lb:∀x∈oL,∀y∈bL.drop ib,rk x<=rk y
section
variable {rk:W9->Int}{aL bL oL:List W9}{ia ib:Nat}
def MI.swap (M:MI rk aL bL ia ib oL):MI rk bL aL ib ia oL:=⟨M.perm.trans TJ,M.srt,M.lb,M.la⟩
def ziw (l:List W9)(i k:Nat):l.take (i+k)=l.take i++(l.drop i).take k:=by
 rw[List.take_add]
def MI.takeA (M:MI rk aL bL ia ib oL)(sa:aL.Pairwise λx y=>rk x<=rk y)(k:Nat)(h:∀x∈(aL.drop ia).take k,∀y∈bL.drop ib,rk x<=rk y):MI rk aL bL (ia+k) ib (oL++(aL.drop ia).take k):=by
 have sd:(aL.drop ia).Pairwise λx y=>rk x<=rk y:=sa.sublist (PY _ _);have e2:(aL.drop ia).drop k=aL.drop (ia+k):=Ot;refine⟨?_,?_,λx hx y hy=>?_,λx hx y hy=>?_⟩
 .rw[ziw,W0];refine(M.perm.append_right _).trans ?_;rw[W0];exact Se _ TJ
 .rw[UZ];exact⟨M.srt,sd.sublist (Uq _ _),λx hx y hy=>M.la x hx y (Wq hy)⟩
 .rw[<- e2]at hy;rcases XR.mp hx with hx | hx
  .exact M.la x hx y (Um hy)
  .have:=sd;rw[<- WF k (aL.drop ia),UZ]at this;exact this.2.2 x hx y hy
 .rcases XR.mp hx with hx | hx
  .exact M.lb x hx y hy
  .exact h x hx y hy
def MI.takeB (M:MI rk aL bL ia ib oL)(sb:bL.Pairwise λx y=>rk x<=rk y)(k:Nat)(h:∀x∈(bL.drop ib).take k,∀y∈aL.drop ia,rk x<=rk y):MI rk aL bL ia (ib+k) (oL++(bL.drop ib).take k):=(M.swap.takeA sb k h).swap
def Mg (rk:W9->Int)(aL bL oL:List W9):Prop:=oL.Perm (aL++bL)/\oL.Pairwise λx y=>rk x<=rk y
def MI.all (M:MI rk aL bL ia ib oL)(ha:aL.length<=ia)(hb:bL.length<=ib):Mg rk aL bL oL:=by
 have:=M.perm;rw[WD ha,WD hb]at this;exact⟨this,M.srt⟩
def MI.doneB (M:MI rk aL bL ia ib oL)(sa:aL.Pairwise λx y=>rk x<=rk y)(hb:bL.length<=ib):Mg rk aL bL (oL++aL.drop ia):=by
 have:=M.takeA sa (aL.drop ia).length (λx _ y hy=>by
  rw[Sj hb]at hy;cases hy)
 rw[XB]at this;exact this.all (by rw[Vp];lia) hb
def MI.lastA (M:MI rk aL bL ia ib oL)(sa:aL.Pairwise λx y=>rk x<=rk y)(sb:bL.Pairwise λx y=>rk x<=rk y)(h:∀x∈bL,∀y∈aL.drop ia,rk x<=rk y):Mg rk aL bL (oL++bL.drop ib++aL.drop ia):=by
 have M2:=M.takeB sb (bL.drop ib).length (λx hx y hy=>h x (Um (Wq hx)) y hy);rw[XB]at M2;exact M2.doneB sa (by rw[Vp];lia)
def ext_toList (a:Array W9)(i j:Nat)(hj:i<=j):(a.extract i j).toList=(a.toList.drop i).take (j-i):=by
 rw[Ol,QP]
def QY (a:Array W9)(i:Nat):(a.extract i a.size).toList=a.toList.drop i:=by
 rw[Ol,QP,WD];rw[Vp,X7];exact XU _
def zka {a:Array W9}{i:Nat}{x:W9}(h:a[i]?=some x):(a.toList.drop i).take 1=[x]:=by
 have hi:i<a.toList.length:=by
  rw[X7];exact(VY.mp h).1
 rw[Wz hi,Ub,Os];have:a.toList[i]?=some x:=by rw[Xr];exact h
 rw[X5 hi]at this;rw[Option.some.inj this]
end
section
variable {prog:Xd}{w:WV}{A:WT}{E:X9->X8->Prop}{s:X8}{rk:W9->Int}{κ:Tw}{a0:Array W9}
structure Kept (st st':WM):Prop where
 arr:Xg st'=Xg st
 kind:kindOf st'=kindOf st
 pend:WK st'=WK st
 bad:SA st'=SA st
def setG':Nat->StateT WM Sem Unit:=sortPriv% PySem.Builtin.setMinGallop
def Kept.refl (st:WM):Kept st st:=⟨rfl,rfl,rfl,rfl⟩
def zer {st0 st:WM}{g:Nat}{Q:Unit->WM->Prop}(k:Kept st0 st)(h:∀st',Kept st0 st'->Q () st'):wpS (Xo prog w) A E s (setG' g) Q st:=by
 have e:setG' g=modify λc=>SortSt.mk' (kindOf c) (Xg c) (WK c) g (SA c):=rfl;rw[e];exact SO (h _ ⟨k.arr,k.kind,k.pend,k.bad⟩)
def qu {α:Type}{c:Prop} [Decidable c]{x y:StateT WM Sem α}{Q:α->WM->Prop}{st:WM}(h1:c->wpS (Xo prog w) A E s x Q st)(h2:¬ c->wpS (Xo prog w) A E s y Q st):wpS (Xo prog w) A E s (if c then x else y) Q st:=by
 by_cases hc:c
 .rw[bw hc];exact h1 hc
 .rw[bq hc];exact h2 hc
def jc {a:Array W9}{i:Nat}(h:i<a.size):∃x,a[i]?=some x/\x∈a.toList:=⟨a[i],getElem?_pos a i h,by simp⟩
def JP {a:Array W9}(sa:a.toList.Pairwise λx y=>rk x<=rk y){i:Nat}{x:W9}(e:a[i]?=some x):∀y∈a.toList.drop i,rk x<=rk y:=by
 have hi:i<a.toList.length:=by
  rw[X7];exact(VY.mp e).1
 have e':a.toList[i]?=some x:=by rw[Xr];exact e
 rw[X5 hi]at e';have ex:=Option.some.inj e';have sd:=sa.sublist (PY i a.toList);rw[Wz hi,ex,TW]at sd;rw[Wz hi,ex];intro y hy;rcases XQ.mp hy with rfl | hy
 .exact Ve _
 .exact sd.1 y hy
def Yi {a b out:Array W9}{ia ib:Nat}(M:MI rk a.toList b.toList ia ib out.toList)(sa:a.toList.Pairwise λx y=>rk x<=rk y)(hb:b.size<=ib):Mg rk a.toList b.toList (out++a.extract ia a.size++b.extract ib b.size).toList:=by
 rw[WQ,WQ,QY,QY,Sj (as:=b.toList) (by rw[X7];exact hb),W6];exact M.doneB sa (by rw[X7];exact hb)
def Yj {a b out:Array W9}{ia ib:Nat}(M:MI rk a.toList b.toList ia ib out.toList)(sa:a.toList.Pairwise λx y=>rk x<=rk y)(sb:b.toList.Pairwise λx y=>rk x<=rk y)(hl:∀x∈b.toList,∀y,a[a.size-1]?=some y->rk x<=rk y)(ha:ia+1=a.size):Mg rk a.toList b.toList (out++b.extract ib b.size++a.extract ia a.size).toList:=by
 rw[WQ,WQ,QY,QY];refine M.lastA sa sb λx hx y hy=>?_;have hi:ia<a.toList.length:=by rw[X7];lia
 rw[Wz hi,Sj (by rw[X7];lia)]at hy;have ey:y=a.toList[ia]:=by simpa using hy
 refine hl x hx y ?_;rw[show a.size-1=ia by lia,<- Xr,X5 hi,ey]
def zix (out:Array W9)(x:W9):(out.push x).toList=out.toList++[x]:=Sm ..
def MI.oneB {a b out:Array W9}{ia ib:Nat}{x:W9}(M:MI rk a.toList b.toList ia ib out.toList)(sb:b.toList.Pairwise λx y=>rk x<=rk y)(e:b[ib]?=some x)(h:∀y∈a.toList.drop ia,rk x<=rk y):MI rk a.toList b.toList ia (ib+1) (out.push x).toList:=by
 rw[zix,<- zka e];refine M.takeB sb 1 λz hz y hy=>?_;rw[zka e]at hz;have ez:z=x:=by simpa using hz
 rw[ez];exact h y hy
def MI.oneA {a b out:Array W9}{ia ib:Nat}{x:W9}(M:MI rk a.toList b.toList ia ib out.toList)(sa:a.toList.Pairwise λx y=>rk x<=rk y)(e:a[ia]?=some x)(h:∀y∈b.toList.drop ib,rk x<=rk y):MI rk a.toList b.toList (ia+1) ib (out.push x).toList:=(MI.oneB M.swap sa e h).swap
def MI.someA {a b out:Array W9}{ia ib k:Nat}{y:W9}(M:MI rk a.toList b.toList ia ib out.toList)(sa:a.toList.Pairwise λx y=>rk x<=rk y)(sb:b.toList.Pairwise λx y=>rk x<=rk y)(e:b[ib]?=some y)(h:∀i x,i<k->a[ia+i]?=some x->rk x<=rk y):MI rk a.toList b.toList (ia+k) ib (out++a.extract ia (ia+k)).toList:=by
 rw[WQ,ext_toList _ _ _ (UF _ _),SG];refine M.takeA sa k λx hx z hz=>Vr ?_ (JP sb e z hz);obtain⟨i,hi,ex⟩:=Td hx;have hik:i<k:=by
  rw[XA]at hi;lia
 refine h i x hik ?_;have:((a.toList.drop ia).take k)[i]?=some x:=by rw[X5 hi,ex]
 rw[List.getElem?_take,bw hik,SM,Xr]at this;exact this
def MI.someB {a b out:Array W9}{ia ib k:Nat}{y:W9}(M:MI rk a.toList b.toList ia ib out.toList)(sa:a.toList.Pairwise λx y=>rk x<=rk y)(sb:b.toList.Pairwise λx y=>rk x<=rk y)(e:a[ia]?=some y)(h:∀i x,i<k->b[ib+i]?=some x->rk x<=rk y):MI rk a.toList b.toList ia (ib+k) (out++b.extract ib (ib+k)).toList:=(MI.someA M.swap sb sa e h).swap
def zaK {st:WM}{key:W9}{a:Array W9}{base n hint:Nat}{Q:Option Nat->WM->Prop}(T:Tells prog w A s κ rk a0)(hk:kindOf st=κ)(hkey:key∈a0.toList)(ma:∀x∈a.toList,x∈a0.toList)(up:∀i j x y,base<=i->i<=j->j<base+n->a[i]?=some x->a[j]?=some y->rk x<=rk y)(hn:base+n<=a.size)(hh:hint<n)
  (h:∀k,k<=n->(∀i x,i<k->a[base+i]?=some x->rk x<=rk key)->(∀i x,k<=i->i<n->a[base+i]?=some x->rk key<rk x)->Q (some k) st):wpS (Xo prog w) A E s (gallop' false key a base n hint) Q st:=by
 have he:∀i,i<n->∃x,a[base+i]?=some x/\x∈a.toList:=λi hi=>jc (by lia);refine zfp T hk hkey (λi=>match a[base+i]? with | some x=>bey rk false key x | none=>false) (λi hi=>?_) (λi j hij hj hb=>?_) hh λk hk1 h1 h2=>h k hk1 (λi x hi e=>?_) λi x hi1 hi2 e=>?_
 .obtain⟨x,e,m⟩:=he i hi;refine⟨x,e,ma x m,?_⟩;try dsimp only
  rw[e]
 .obtain⟨x,ex,_⟩:=he i (by lia);obtain⟨y,ey,_⟩:=he j hj;try dsimp only at hb ⊢
  rw[ey]at hb;rw[ex];have:=up (base+i) (base+j) x y (by lia) (by lia) (by lia) ex ey;unfold bey at hb ⊢;simp only[Wc,if_false,Wu,decide_eq_false_iff_not]at hb ⊢;lia
 .have:=h1 i hi;try dsimp only at this
  rw[e]at this;unfold bey at this;simp only[Wc,if_false,Wu,decide_eq_false_iff_not]at this;lia
 .have:=h2 i hi1 hi2;try dsimp only at this
  rw[e]at this;unfold bey at this;simp only[Wc,if_false,Bool.not_eq_false',bu]at this;exact this
def zaL {st:WM}{key:W9}{a:Array W9}{base n hint:Nat}{Q:Option Nat->WM->Prop}(T:Tells prog w A s κ rk a0)(hk:kindOf st=κ)(hkey:key∈a0.toList)(ma:∀x∈a.toList,x∈a0.toList)(up:∀i j x y,base<=i->i<=j->j<base+n->a[i]?=some x->a[j]?=some y->rk x<=rk y)(hn:base+n<=a.size)(hh:hint<n)
  (h:∀k,k<=n->(∀i x,i<k->a[base+i]?=some x->rk x<rk key)->(∀i x,k<=i->i<n->a[base+i]?=some x->rk key<=rk x)->Q (some k) st):wpS (Xo prog w) A E s (gallop' true key a base n hint) Q st:=by
 have he:∀i,i<n->∃x,a[base+i]?=some x/\x∈a.toList:=λi hi=>jc (by lia);refine zfp T hk hkey (λi=>match a[base+i]? with | some x=>bey rk true key x | none=>false) (λi hi=>?_) (λi j hij hj hb=>?_) hh λk hk1 h1 h2=>h k hk1 (λi x hi e=>?_) λi x hi1 hi2 e=>?_
 .obtain⟨x,e,m⟩:=he i hi;refine⟨x,e,ma x m,?_⟩;try dsimp only
  rw[e]
 .obtain⟨x,ex,_⟩:=he i (by lia);obtain⟨y,ey,_⟩:=he j hj;try dsimp only at hb ⊢
  rw[ey]at hb;rw[ex];have:=up (base+i) (base+j) x y (by lia) (by lia) (by lia) ex ey;unfold bey at hb ⊢;simp only[if_true,bu]at hb ⊢;lia
 .have:=h1 i hi;try dsimp only at this
  rw[e]at this;unfold bey at this;simp only[if_true,bu]at this;exact this
 .have:=h2 i hi1 hi2;try dsimp only at this
  rw[e]at this;unfold bey at this;simp only[if_true,decide_eq_false_iff_not]at this;lia
def zhG {a:Array W9}(sa:a.toList.Pairwise λx y=>rk x<=rk y){i j:Nat}{x y:W9}(hij:i<=j)(ex:a[i]?=some x)(ey:a[j]?=some y):rk x<=rk y:=by
 refine JP sa ex y ?_;have hj:j<a.toList.length:=by
  rw[X7];exact(VY.mp ey).1
 refine XZ (i:=j-i) ?_;rw[SM,Xr,show i+(j-i)=j by lia];exact ey
set_option maxHeartbeats 8000000 in
theorem via {P:Prop}(h:∀G:Prop,(P->G)->G):P:=h P id
structure Key (P:Prop):Prop where
 get:P
def cut {P R:Prop}(k:P)(h:Key P->R):R:=h ⟨k⟩
def ziy {st0:WM}{a b:Array W9}{Q:Array W9->WM->Prop}(T:Tells prog w A s κ rk a0)(hk:kindOf st0=κ)(ma:∀x∈a.toList,x∈a0.toList)(mb:∀x∈b.toList,x∈a0.toList)(sa:a.toList.Pairwise λx y=>rk x<=rk y)(sb:b.toList.Pairwise λx y=>rk x<=rk y)
  (ha:0<a.size) (hb:0<b.size) (h0:∀x y,b[0]?=some x->y∈a.toList->rk x<=rk y) (hl':∀x∈b.toList,∀y,a[a.size-1]?=some y->rk x<rk y)
  (h:∀out st',Kept st0 st'->Mg rk a.toList b.toList out.toList->Q out st'):wpS (Xo prog w) A E s (mergeLo' a b) Q st0:=by
 have hl:∀x∈b.toList,∀y,a[a.size-1]?=some y->rk x<=rk y:=λx hx y hy=>V2 (hl' x hx y hy);refine XF (Pz (UQ ⟨rfl,?_⟩));obtain⟨b0,eb0,_⟩:=jc hb;refine XF (qQ eb0 ?_);have M0:MI rk a.toList b.toList 0 0 (#[]:Array W9).toList:=⟨by simp,List.Pairwise.nil,(λx hx=>nomatch hx),(λx hx=>nomatch hx)⟩;have M1:MI rk a.toList b.toList 0 1 (#[b0]:Array W9).toList:=MI.oneB M0 sb eb0 λy hy=>h0 b0 y eb0 (by simpa using hy);dsimp -zeta only;refine qu (λhc=>Xl (h _ _ (Kept.refl _) (Yi M1 sa (by rw[show 1=b.size by simpa using hc];exact XU _)))) λhc=>?_;refine qu (λhc2=>Xl (h _ _ (Kept.refl _) (Yj M1 sa sb hl (by simpa using hc2)))) λhc2=>?_;have hb2:1<b.size:=by
  have:¬ 1=b.size:=by simpa using hc
  lia
 have ha2:0+1<a.size:=by
  have:¬ 0+1=a.size:=by simpa using hc2
  lia
 refine XF (R0 ?_);refine XF (T8 (VT (I:=λx c st'=>∃out ia ib mg,c=(none,out,ia,ib,mg)/\MI rk a.toList b.toList ia ib out.toList/\ia+1<a.size/\ib<b.size/\x+1<=ia+ib/\Kept st0 st')
  (Q:=λc st'=>∃res,c.1=some res/\Mg rk a.toList b.toList res.toList/\Kept st0 st') ?step ?fin ⟨_,0,1,_,rfl,M1,ha2,hb2,by lia,Kept.refl _⟩) ?post)
 case fin =>
  rintro c st' ⟨out,ia,ib,mg,rfl,M,h1,h2,h3,k⟩
  lia
 case post =>
  rintro⟨c1,c2⟩ st' ⟨res,e,hM,k⟩
  dsimp only at e ⊢
  subst e
  exact Xl (h _ _ k hM)
 case step =>
  intro x0 c st1 _ hx0 hI
  refine via λG hG=>?_
  obtain⟨out,ia,ib,mg,rfl,M,h1,h2,h3,k1⟩:=hI
  refine hG ?_
  clear hG
  have hk1:kindOf st1=κ:=k1.kind.trans hk
  dsimp -zeta only
  refine XF (T8 (VT (I:=λx c st'=>st'=st1/\∃out ia ib ac bc,c=(none,out,ia,ib,ac,bc)/\MI rk a.toList b.toList ia ib out.toList/\ia+1<a.size/\ib<b.size/\x0+1+x<=ia+ib)
   (Q:=λc st'=>st'=st1/\((∃res,c.1=some res/\Mg rk a.toList b.toList res.toList)\/∃out ia ib ac bc,c=(none,out,ia,ib,ac,bc)/\MI rk a.toList b.toList ia ib out.toList/\ia+1<a.size/\ib<b.size/\x0+2<=ia+ib)) ?step1 ?fin1 ⟨rfl,_,_,_,_,_,rfl,M,h1,h2,by lia⟩) ?post1)
  case fin1 =>
   rintro c st' ⟨rfl,out,ia,ib,ac,bc,rfl,M,h1,h2,h3⟩
   exact⟨rfl,.inr ⟨out,ia,ib,ac,bc,rfl,M,h1,h2,by lia⟩⟩
  case step1 =>
   intro x c st' _ hx hI
   refine via λG hG=>?_
   obtain⟨rfl,out,ia,ib,ac,bc,rfl,M,h1,h2,h3⟩:=hI
   obtain⟨y,ey,my⟩:=jc h2
   obtain⟨z,ez,mz⟩:=jc (a:=a) (i:=ia) (by lia)
   refine hG ?_
   clear hG
   dsimp -zeta only
   refine XF (qQ ey (XF (qQ ez (XF (zj7 T hk1 (mb y my) (ma z mz) ?_)))))
   dsimp -zeta only
   refine qu (λhlt=>?_) λhlt=>?_
   .have hlt':rk y<rk z:=bh hlt;have M2:=MI.oneB M sb ey λv hv=>Vr (V2 hlt') (JP sa ez v hv);refine XF (qQ ey ?_);refine qu (λhe=>Xl ⟨rfl,.inl ⟨_,rfl,Yi M2 sa (by rw[show ib+1=b.size by simpa using he];exact XU _)⟩⟩) λhe=>?_;have hb3:ib+1<b.size:=by
     have:¬ ib+1=b.size:=by simpa using he
     lia
    exact qu (λ_=>Xl ⟨rfl,.inr ⟨_,_,_,_,_,rfl,M2,h1,hb3,by lia⟩⟩) λ_=>Xl ⟨rfl,_,_,_,_,_,rfl,M2,h1,hb3,by lia⟩
   .have hlt':¬ rk y<rk z:=λq=>hlt (br q);have M2:=MI.oneA M sa ez λv hv=>Vr (NO.mp hlt') (JP sb ey v hv);refine XF (qQ ez ?_);refine qu (λhe=>Xl ⟨rfl,.inl ⟨_,rfl,Yj M2 sa sb hl (by simpa using he)⟩⟩) λhe=>?_;have ha3:ia+1+1<a.size:=by
     have:¬ ia+1+1=a.size:=by simpa using he
     lia
    exact qu (λ_=>Xl ⟨rfl,.inr ⟨_,_,_,_,_,rfl,M2,ha3,h2,by lia⟩⟩) λ_=>Xl ⟨rfl,_,_,_,_,_,rfl,M2,ha3,h2,by lia⟩
  case post1 =>
   intro c st' hI
   refine via λG hG=>?_
   rcases hI with ⟨rfl,hc1 | ⟨out,ia,ib,ac,bc,rfl,M,h1,h2,h3⟩⟩
   all_goals (refine hG ?_;clear hG)
   .obtain⟨res,e,hM⟩:=hc1;obtain⟨c1,c2⟩:=c;dsimp only at e ⊢;subst e;exact Xl ⟨res,rfl,hM,k1⟩
   dsimp -zeta only
   refine XF (Pz (UQ ⟨rfl,?_⟩))
   refine XF (T8 (VT (I:=λx c st2=>∃out ia ib mg ac bc,c=(none,out,ia,ib,mg,ac,bc)/\MI rk a.toList b.toList ia ib out.toList/\ia+1<a.size/\ib<b.size/\x0+2<=ia+ib/\Kept st0 st2)
    (Q:=λc st2=>(∃res,c.1=some res/\Mg rk a.toList b.toList res.toList/\Kept st0 st2)\/∃out ia ib mg ac bc,c=(none,out,ia,ib,mg,ac,bc)/\MI rk a.toList b.toList ia ib out.toList/\ia+1<a.size/\ib<b.size/\x0+2<=ia+ib/\Kept st0 st2) ?step2 ?fin2 ⟨_,_,_,_,_,_,rfl,M,h1,h2,h3,k1⟩) ?post2)
   case fin2 =>
    rintro c st2 hc
    exact .inr hc
   case post2 =>
    rintro c st2 (⟨res,e,hM,k2⟩ | ⟨out,ia,ib,mg,ac,bc,rfl,M,h1,h2,h3,k2⟩)
    .obtain⟨c1,c2⟩:=c;dsimp only at e ⊢;subst e;exact Xl ⟨res,rfl,hM,k2⟩
    .dsimp -zeta only;exact XF (zer k2 λst3 k3=>Xl ⟨_,_,_,_,rfl,M,h1,h2,by lia,k3⟩)
   case step2 =>
    intro x c st2 _ hx hI
    refine via λG hG=>?_
    obtain⟨out,ia,ib,mg,ac,bc,rfl,M,h1,h2,h3,k2⟩:=hI
    obtain⟨y,ey,my⟩:=jc h2
    refine hG ?_
    clear hG
    dsimp -zeta only
    refine' cut ?key1 λkey=>qu (λhmg=>?a1) λhmg=>?b1
    case a1 =>
     generalize mg-1=mg1
     revert mg1
     exact key.get
    case b1=>exact key.get mg
    intro mg1
    dsimp -zeta only
    refine XF (zer k2 λst3 k3=>?_)
    have hk3:kindOf st3=κ:=k3.kind.trans hk
    refine XF (qQ ey (XF (zaK T hk3 (mb y my) ma (λi j u v _ hij _ eu ev=>zhG sa hij eu ev) (by lia) (by lia) λk hk4 g1 g2=>?_)))
    dsimp -zeta only
    refine' cut ?key2 λkey=>qu (λhk0=>?a2) λhk0=>?b2
    case a2 =>
     have M2:=MI.someA M sa sb ey g1
     refine qu (λhe=>Xl (.inl ⟨_,rfl,Yj M2 sa sb hl (by simpa using he),k3⟩)) λhe=>?_
     have ne1:¬ ia+k+1=a.size:=by simpa using he
     have kl:ia+k<a.size:=by
      refine Nat.lt_of_not_le λhge=>?_;obtain⟨v,ev,mv⟩:=jc (a:=a) (i:=a.size-1) (by lia);have q1:=g1 (a.size-1-ia) v (by lia) (by rw[show ia+(a.size-1-ia)=a.size-1 by lia];exact ev);have q2:=hl' y my v ev;lia
     refine qu (λhe2=>absurd (show ia+k=a.size by simpa using he2) (by lia)) λhe2=>?_
     have h1':ia+k+1<a.size:=by lia
     have h3':x0+2<=ia+k+ib:=by lia
     have g2':∀z,a[ia+k]?=some z->rk y<=rk z:=λz ez=>V2 (g2 k z (XU _) (by lia) ez)
     generalize out++a.extract ia (ia+k)=zes at M2 ⊢
     generalize ia+k=ia1 at M2 h1' h3' g2' ⊢
     revert g2';revert h3';revert h1';revert M2;revert ia1;revert zes
     exact key.get
    case b2=>exact key.get out ia M h1 h3 λz ez=>V2 (g2 0 z (by lia) (by lia) (by simpa using ez))
    intro zes ia1 M2 h1' h3' g2'
    refine via λG hG=>?_
    obtain⟨z,ez,mz⟩:=jc (a:=a) (i:=ia1) (by lia)
    refine hG ?_
    clear hG
    have M3:=MI.oneB M2 sb ey λv hv=>Vr (g2' z ez) (JP sa ez v hv)
    refine XF (qQ ey ?_)
    refine qu (λhe=>Xl (.inl ⟨_,rfl,Yi M3 sa (by rw[show ib+1=b.size by simpa using he];exact XU _),k3⟩)) λhe=>?_
    have hb3:ib+1<b.size:=by
     have:¬ ib+1=b.size:=by simpa using he
     lia
    refine XF (qQ ez (XF (zaL T hk3 (ma z mz) mb (λi j u v _ hij _ eu ev=>zhG sb hij eu ev) (by lia) (by lia) λk' hk5 g3 g4=>?_)))
    dsimp -zeta only
    refine' cut ?key3 λkey=>qu (λhk0'=>?a3) λhk0'=>?b3
    case a3 =>
     have M4:=MI.someB M3 sa sb ez λi u hi eu=>V2 (g3 i u hi eu)
     refine qu (λhe=>Xl (.inl ⟨_,rfl,Yi M4 sa (by rw[show ib+1+k'=b.size by simpa using he];exact XU _),k3⟩)) λhe=>?_
     have hb4:ib+1+k'<b.size:=by
      have:¬ ib+1+k'=b.size:=by simpa using he
      lia
     have g4':∀v,b[ib+1+k']?=some v->rk z<=rk v:=λv ev=>g4 k' v (XU _) (by lia) ev
     have h3'':x0+2<=ia1+(ib+1+k'):=by lia
     generalize zes.push y++b.extract (ib+1) (ib+1+k')=zkb at M4 ⊢
     generalize ib+1+k'=ib1 at M4 hb4 g4' h3'' ⊢
     revert h3'';revert g4';revert hb4;revert M4;revert ib1;revert zkb
     exact key.get
    case b3=>exact key.get (zes.push y) (ib+1) M3 hb3 (λv ev=>g4 0 v (by lia) (by lia) (by simpa using ev)) (by lia)
    intro zkb ib1 M4 hb4 g4' h3''
    refine via λG hG=>?_
    obtain⟨v,ev,mv⟩:=jc (a:=b) (i:=ib1) hb4
    refine hG ?_
    clear hG
    have M5:=MI.oneA M4 sa ez λu hu=>Vr (g4' v ev) (JP sb ev u hu)
    refine XF (qQ ez ?_)
    refine qu (λhe=>Xl (.inl ⟨_,rfl,Yj M5 sa sb hl (by simpa using he),k3⟩)) λhe=>?_
    have ha3:ia1+1+1<a.size:=by
     have:¬ ia1+1+1=a.size:=by simpa using he
     lia
    exact qu (λ_=>Xl (.inr ⟨_,_,_,_,_,_,rfl,M5,ha3,hb4,by lia,k3⟩)) λ_=>Xl ⟨_,_,_,_,_,_,rfl,M5,ha3,hb4,by lia,k3⟩
end
def neg (rk:W9->Int):W9->Int:=λx=>- rk x
def zbC {a:Array W9}{j:Nat}(h:j<a.size):a.reverse[j]?=a[a.size-1-j]?:=by
 rw[O2 h]
def Hi (rk:W9->Int)(a b:Array W9)(na nb:Nat)(out:Array W9):Prop:=MI (neg rk) a.reverse.toList b.reverse.toList (a.size-na) (b.size-nb) out.toList
section
variable {rk:W9->Int}{a b out:Array W9}{na nb:Nat}
def ZO (sa:a.toList.Pairwise λx y=>rk x<=rk y):a.reverse.toList.Pairwise λx y=>neg rk x<=neg rk y:=by
 rw[UY,OH];exact sa.imp λh=>Su h
def zcg {i:Nat}{x:W9}(h1:1<=i)(h2:i<=a.size)(e:a[i-1]?=some x):a.reverse[a.size-i]?=some x:=by
 rw[zbC (by lia),show a.size-1-(a.size-i)=i-1 by lia];exact e
theorem Hi.oneA {x y:W9}(M:Hi rk a b na nb out)(sa:a.toList.Pairwise λx y=>rk x<=rk y)(sb:b.toList.Pairwise λx y=>rk x<=rk y)(h1:1<=na)(h2:na<=a.size)(h3:1<=nb)(h4:nb<=b.size)(ex:a[na-1]?=some x)(ey:b[nb-1]?=some y)(h:rk y<=rk x):Hi rk a b (na-1) nb (out.push x):=by
 have:=MI.oneA (rk:=neg rk) M (ZO sa) (zcg h1 h2 ex) λv hv=>Vr (Su h) (JP (ZO sb) (zcg h3 h4 ey) v hv);unfold Hi;rw[show a.size-(na-1)=a.size-na+1 by lia];exact this
theorem Hi.oneB {x y:W9}(M:Hi rk a b na nb out)(sa:a.toList.Pairwise λx y=>rk x<=rk y)(sb:b.toList.Pairwise λx y=>rk x<=rk y)(h1:1<=na)(h2:na<=a.size)(h3:1<=nb)(h4:nb<=b.size)(ex:a[na-1]?=some x)(ey:b[nb-1]?=some y)(h:rk x<=rk y):Hi rk a b na (nb-1) (out.push y):=by
 have:=MI.oneB (rk:=neg rk) M (ZO sb) (zcg h3 h4 ey) λv hv=>Vr (Su h) (JP (ZO sa) (zcg h1 h2 ex) v hv);unfold Hi;rw[show b.size-(nb-1)=b.size-nb+1 by lia];exact this
def zl7 {i j:Nat}(h1:i<=j)(h2:j<=a.size):(a.extract i j).reverse=a.reverse.extract (a.size-j) (a.size-j+(j-i)):=by
 apply Array.ext_getElem?;intro k;by_cases hk:k<j-i
 .rw[O2 (by rw[TV];lia),Si,Si,TV];rw[bw (by lia),bw (by rw[Uz];lia),zbC (by lia)];congr 1;lia
 .rw[WC (by rw[Uz,TV];lia),WC (by rw[TV,Uz];lia)]
theorem Hi.someA {i:Nat}{y:W9}(M:Hi rk a b na nb out)(sa:a.toList.Pairwise λx y=>rk x<=rk y)(sb:b.toList.Pairwise λx y=>rk x<=rk y)(h1:i<=na)(h2:na<=a.size)(h3:1<=nb)(h4:nb<=b.size)(ey:b[nb-1]?=some y)(h:∀j x,i<=j->j<na->a[j]?=some x->rk y<=rk x):Hi rk a b i nb (out++(a.extract i na).reverse):=by
 have:=MI.someA (rk:=neg rk) (k:=na-i) M (ZO sa) (ZO sb) (zcg h3 h4 ey) λj x hj ex=>Su (h (na-1-j) x (by lia) (by lia) (by
  rw[zbC (by lia)]at ex;rw[<- ex];congr 1;lia))
 unfold Hi;rw[zl7 h1 h2,show a.size-i=a.size-na+(na-i) by lia];exact this
def Hi.someB {i:Nat}{y:W9}(M:Hi rk a b na nb out)(sa:a.toList.Pairwise λx y=>rk x<=rk y)(sb:b.toList.Pairwise λx y=>rk x<=rk y)(h1:i<=nb)(h2:nb<=b.size)(h3:1<=na)(h4:na<=a.size)(ey:a[na-1]?=some y)(h:∀j x,i<=j->j<nb->b[j]?=some x->rk y<=rk x):Hi rk a b na i (out++(b.extract i nb).reverse):=(Hi.someA (a:=b) (b:=a) M.swap sb sa h1 h2 h3 h4 ey h).swap
def zkc {oL:List W9}(h:Mg (neg rk) b.reverse.toList a.reverse.toList oL):Mg rk a.toList b.toList oL.reverse:=by
 obtain⟨p,q⟩:=h;rw[UY,UY]at p;refine⟨?_,?_⟩
 .refine(PX _).trans (p.trans (TJ.trans ?_));exact List.Perm.append (PX _) (PX _)
 .rw[OH];refine q.imp λ{x y} h=>?_;have h':- rk x<=- rk y:=h;lia
def zbD {i:Nat}(h:i<=a.size):(a.reverse.extract (a.size-i) a.reverse.size).toList.reverse=(a.extract 0 i).toList:=by
 rw[QY,UY,ext_toList _ _ _ (W7 _),List.drop_zero,Nat.sub_zero];have:=List.reverse_take (l:=a.toList) (i:=i);rw[X7]at this;rw[<- this,Oj]
def Hi.done (M:Hi rk a b 0 nb out)(sb:b.toList.Pairwise λx y=>rk x<=rk y)(h:nb<=b.size):Mg rk a.toList b.toList (a.extract 0 0++b.extract 0 nb++out.reverse).toList:=by
 have h1:=Yi (rk:=neg rk) (a:=b.reverse) (b:=a.reverse) M.swap (ZO sb) (by rw[Uz];lia);have h2:=zkc h1;rw[WQ,WQ,Tc,Tc,zbD h]at h2;have e0:=zbD (a:=a) (i:=0) (W7 _);rw[e0]at h2;rw[WQ,WQ,UY,W0];exact h2
def Hi.first (M:Hi rk a b na 1 out)(sa:a.toList.Pairwise λx y=>rk x<=rk y)(sb:b.toList.Pairwise λx y=>rk x<=rk y)(hb:0<b.size)(h:na<=a.size)(h0:∀x y,b[0]?=some x->y∈a.toList->rk x<rk y):Mg rk a.toList b.toList (b.extract 0 1++a.extract 0 na++out.reverse).toList:=by
 have h1:=Yj (rk:=neg rk) (a:=b.reverse) (b:=a.reverse) M.swap (ZO sb) (ZO sa) (λx hx y ey=>by
  rw[Uz,zbC (by lia),show b.size-1-(b.size-1)=0 by lia]at ey;have hx':x∈a.toList:=by simpa using hx
  exact Su (V2 (h0 y x ey hx'))) (by rw[Uz];lia)
 have h2:=zkc h1;rw[WQ,WQ,Tc,Tc,zbD h,zbD (by lia)]at h2;rw[WQ,WQ,UY,W0];exact h2
end
section
variable {prog:Xd}{w:WV}{A:WT}{E:X9->X8->Prop}{s:X8}{rk:W9->Int}{κ:Tw}{a0:Array W9}
set_option maxHeartbeats 8000000 in
theorem ziz {st0:WM}{a b:Array W9}{Q:Array W9->WM->Prop}(T:Tells prog w A s κ rk a0)(hk:kindOf st0=κ)(ma:∀x∈a.toList,x∈a0.toList)(mb:∀x∈b.toList,x∈a0.toList)(sa:a.toList.Pairwise λx y=>rk x<=rk y)(sb:b.toList.Pairwise λx y=>rk x<=rk y)
  (ha:0<a.size) (hb:0<b.size) (h0:∀x y,b[0]?=some x->y∈a.toList->rk x<rk y) (hl:∀x∈b.toList,∀y,a[a.size-1]?=some y->rk x<rk y)
  (h:∀out st',Kept st0 st'->Mg rk a.toList b.toList out.toList->Q out st'):wpS (Xo prog w) A E s (mergeHi' a b) Q st0:=by
 refine XF (Pz (UQ ⟨rfl,?_⟩));obtain⟨z0,ez0,_⟩:=jc (a:=a) (i:=a.size-1) (by lia);obtain⟨y0,ey0,my0⟩:=jc (a:=b) (i:=b.size-1) (by lia);refine XF (qQ ez0 ?_);have M0:Hi rk a b a.size b.size #[]:=by
  unfold Hi;rw[Sz,Sz];exact⟨by simp,List.Pairwise.nil,(λx hx=>nomatch hx),(λx hx=>nomatch hx)⟩
 have M1:Hi rk a b (a.size-1) b.size #[z0]:=M0.oneA sa sb (by lia) (XU _) (by lia) (XU _) ez0 ey0 (V2 (hl y0 my0 z0 ez0));dsimp -zeta only;refine qu (λhc=>Xl (h _ _ (Kept.refl _) ?_)) λhc=>?_
 .have e:a.size-1=0:=by simpa using hc
  rw[e]at M1 ⊢;exact M1.done sb (XU _)
 refine qu (λhc2=>Xl (h _ _ (Kept.refl _) ?_)) λhc2=>?_
 .have e:b.size=1:=by simpa using hc2
  rw[e]at M1 ⊢;exact M1.first sa sb hb (by lia) h0
 have ha2:1<=a.size-1:=by
  have:¬ a.size-1=0:=by simpa using hc
  lia
 have hb2:1<b.size:=by
  have:¬ b.size=1:=by simpa using hc2
  lia
 refine XF (R0 ?_);refine XF (T8 (VT (I:=λx c st'=>∃na nb out mg,c=(none,na,nb,out,mg)/\Hi rk a b na nb out/\1<=na/\na<a.size/\1<nb/\nb<=b.size/\na+nb+x+1<=a.size+b.size/\Kept st0 st')
  (Q:=λc st'=>∃res,c.1=some res/\Mg rk a.toList b.toList res.toList/\Kept st0 st') ?step ?fin ⟨_,_,_,_,rfl,M1,ha2,by lia,hb2,XU _,by lia,Kept.refl _⟩) ?post)
 case fin =>
  rintro c st' ⟨na,nb,out,mg,rfl,M,h1,h2,h3,h4,h5,k⟩
  lia
 case post =>
  rintro⟨c1,c2⟩ st' ⟨res,e,hM,k⟩
  dsimp only at e ⊢
  subst e
  exact Xl (h _ _ k hM)
 case step =>
  intro x0 c st1 _ hx0 hI
  refine via λG hG=>?_
  obtain⟨na,nb,out,mg,rfl,M,h1,h2,h3,h4,h5,k1⟩:=hI
  refine hG ?_
  clear hG
  have hk1:kindOf st1=κ:=k1.kind.trans hk
  dsimp -zeta only
  refine XF (T8 (VT (I:=λx c st'=>st'=st1/\∃na nb out ac bc,c=(none,na,nb,out,ac,bc)/\Hi rk a b na nb out/\1<=na/\na<a.size/\1<nb/\nb<=b.size/\na+nb+x0+1+x<=a.size+b.size)
   (Q:=λc st'=>st'=st1/\((∃res,c.1=some res/\Mg rk a.toList b.toList res.toList)\/∃na nb out ac bc,c=(none,na,nb,out,ac,bc)/\Hi rk a b na nb out/\1<=na/\na<a.size/\1<nb/\nb<=b.size/\na+nb+x0+2<=a.size+b.size)) ?step1 ?fin1 ⟨rfl,_,_,_,_,_,rfl,M,h1,h2,h3,h4,by lia⟩) ?post1)
  case fin1 =>
   rintro c st' ⟨rfl,na,nb,out,ac,bc,rfl,M,h1,h2,h3,h4,h5⟩
   exact⟨rfl,.inr ⟨na,nb,out,ac,bc,rfl,M,h1,h2,h3,h4,by lia⟩⟩
  case step1 =>
   intro x c st' _ hx hI
   refine via λG hG=>?_
   obtain⟨rfl,na,nb,out,ac,bc,rfl,M,h1,h2,h3,h4,h5⟩:=hI
   obtain⟨y,ey,my⟩:=jc (a:=b) (i:=nb-1) (by lia)
   obtain⟨z,ez,mz⟩:=jc (a:=a) (i:=na-1) (by lia)
   refine hG ?_
   clear hG
   dsimp -zeta only
   refine XF (qQ ey (XF (qQ ez (XF (zj7 T hk1 (mb y my) (ma z mz) ?_)))))
   dsimp -zeta only
   refine qu (λhlt=>?_) λhlt=>?_
   .have hlt':rk y<rk z:=bh hlt;have M2:=M.oneA sa sb h1 (by lia) (by lia) h4 ez ey (V2 hlt');refine XF (qQ ez ?_);refine qu (λhe=>Xl ⟨rfl,.inl ⟨_,rfl,?_⟩⟩) λhe=>?_
    .have e:na-1=0:=by simpa using he
     rw[e]at M2 ⊢;exact M2.done sb h4
    have hn:1<=na-1:=by
     have:¬ na-1=0:=by simpa using he
     lia
    exact qu (λ_=>Xl ⟨rfl,.inr ⟨_,_,_,_,_,rfl,M2,hn,by lia,h3,h4,by lia⟩⟩) λ_=>Xl ⟨rfl,_,_,_,_,_,rfl,M2,hn,by lia,h3,h4,by lia⟩
   .have hlt':¬ rk y<rk z:=λq=>hlt (br q);have M2:=M.oneB sa sb h1 (by lia) (by lia) h4 ez ey (NO.mp hlt');refine XF (qQ ey ?_);refine qu (λhe=>Xl ⟨rfl,.inl ⟨_,rfl,?_⟩⟩) λhe=>?_
    .have e:nb-1=1:=by simpa using he
     rw[e]at M2 ⊢;exact M2.first sa sb hb (by lia) h0
    have hn:1<nb-1:=by
     have:¬ nb-1=1:=by simpa using he
     lia
    exact qu (λ_=>Xl ⟨rfl,.inr ⟨_,_,_,_,_,rfl,M2,h1,h2,hn,by lia,by lia⟩⟩) λ_=>Xl ⟨rfl,_,_,_,_,_,rfl,M2,h1,h2,hn,by lia,by lia⟩
  case post1 =>
   intro c st' hI
   refine via λG hG=>?_
   rcases hI with ⟨rfl,hc1 | ⟨na,nb,out,ac,bc,rfl,M,h1,h2,h3,h4,h5⟩⟩
   all_goals (refine hG ?_;clear hG)
   .obtain⟨res,e,hM⟩:=hc1;obtain⟨c1,c2⟩:=c;dsimp only at e ⊢;subst e;exact Xl ⟨res,rfl,hM,k1⟩
   dsimp -zeta only
   refine XF (Pz (UQ ⟨rfl,?_⟩))
   refine XF (T8 (VT (I:=λx c st2=>∃na nb out mg ac bc,c=(none,na,nb,out,mg,ac,bc)/\Hi rk a b na nb out/\1<=na/\na<a.size/\1<nb/\nb<=b.size/\na+nb+x0+2<=a.size+b.size/\Kept st0 st2)
    (Q:=λc st2=>(∃res,c.1=some res/\Mg rk a.toList b.toList res.toList/\Kept st0 st2)\/∃na nb out mg ac bc,c=(none,na,nb,out,mg,ac,bc)/\Hi rk a b na nb out/\1<=na/\na<a.size/\1<nb/\nb<=b.size/\na+nb+x0+2<=a.size+b.size/\Kept st0 st2) ?step2 ?fin2 ⟨_,_,_,_,_,_,rfl,M,h1,h2,h3,h4,h5,k1⟩) ?post2)
   case fin2 =>
    rintro c st2 hc
    exact .inr hc
   case post2 =>
    rintro c st2 (⟨res,e,hM,k2⟩ | ⟨na,nb,out,mg,ac,bc,rfl,M,h1,h2,h3,h4,h5,k2⟩)
    .obtain⟨c1,c2⟩:=c;dsimp only at e ⊢;subst e;exact Xl ⟨res,rfl,hM,k2⟩
    .dsimp -zeta only;exact XF (zer k2 λst3 k3=>Xl ⟨_,_,_,_,rfl,M,h1,h2,h3,h4,by lia,k3⟩)
   case step2 =>
    intro x c st2 _ hx hI
    refine via λG hG=>?_
    obtain⟨na,nb,out,mg,ac,bc,rfl,M,h1,h2,h3,h4,h5,k2⟩:=hI
    obtain⟨y,ey,my⟩:=jc (a:=b) (i:=nb-1) (by lia)
    refine hG ?_
    clear hG
    dsimp -zeta only
    refine' cut ?key1 λkey=>qu (λhmg=>?a1) λhmg=>?b1
    case a1 =>
     generalize mg-1=mg1
     revert mg1
     exact key.get
    case b1=>exact key.get mg
    intro mg1
    dsimp -zeta only
    refine XF (zer k2 λst3 k3=>?_)
    have hk3:kindOf st3=κ:=k3.kind.trans hk
    refine XF (qQ ey (XF (zaK T hk3 (mb y my) ma (λi j u v _ hij _ eu ev=>zhG sa hij eu ev) (by lia) (by lia) λk hk4 g1 g2=>?_)))
    dsimp -zeta only
    refine' cut ?key2 λkey=>qu (λhk0=>?a2) λhk0=>?b2
    case a2 =>
     have M2:=M.someA sa sb (i:=k) (by lia) (by lia) (by lia) h4 ey λj u hj1 hj2 eu=>V2 (g2 j u hj1 hj2 (by simpa using eu))
     refine qu (λhe=>Xl (.inl ⟨_,rfl,(by
      have e:k=0:=by simpa using he
      rw[e]at M2 ⊢;exact M2.done sb h4),k3⟩)) λhe=>?_
     have h1':1<=k:=by
      have:¬ k=0:=by simpa using he
      lia
     have h2':k<a.size:=by lia
     have h5':k+nb+x0+2<=a.size+b.size:=by lia
     have g1':∀z,a[k-1]?=some z->rk z<=rk y:=λz ez=>g1 (k-1) z (by lia) (by simpa using ez)
     generalize out++(a.extract k na).reverse=zes at M2 ⊢
     generalize na-k=kk
     generalize k=na1 at M2 h1' h2' h5' g1' ⊢
     revert g1';revert h5';revert h2';revert h1';revert M2;revert na1;revert kk;revert zes
     exact key.get
    case b2=>exact key.get out (na-k) na M h1 h2 h5 λz ez=>g1 (na-1) z (by lia) (by simpa using ez)
    intro zes kk na1 M2 h1' h2' h5' g1'
    refine via λG hG=>?_
    obtain⟨z,ez,mz⟩:=jc (a:=a) (i:=na1-1) (by lia)
    refine hG ?_
    clear hG
    have M3:=M2.oneB sa sb h1' (by lia) (by lia) h4 ez ey (g1' z ez)
    refine XF (qQ ey ?_)
    refine qu (λhe=>Xl (.inl ⟨_,rfl,(by
     have e:nb-1=1:=by simpa using he
     rw[e]at M3 ⊢;exact M3.first sa sb hb (by lia) h0),k3⟩)) λhe=>?_
    have hn:1<nb-1:=by
     have:¬ nb-1=1:=by simpa using he
     lia
    refine XF (qQ ez (XF (zaL T hk3 (ma z mz) mb (λi j u v _ hij _ eu ev=>zhG sb hij eu ev) (by lia) (by lia) λk' hk5 g3 g4=>?_)))
    dsimp -zeta only
    refine' cut ?key3 λkey=>qu (λhk0'=>?a3) λhk0'=>?b3
    case a3 =>
     have M4:=M3.someB sa sb (i:=k') (by lia) (by lia) h1' (by lia) ez λj u hj1 hj2 eu=>g4 j u hj1 hj2 (by simpa using eu)
     refine qu (λhe=>Xl (.inl ⟨_,rfl,(by
      have e:k'=1:=by simpa using he
      rw[e]at M4 ⊢;exact M4.first sa sb hb (by lia) h0),k3⟩)) λhe=>?_
     have k1':1<=k':=by
      refine O0.mpr λhz=>?_;obtain⟨v,ev,mv⟩:=jc (a:=b) (i:=0) hb;have q1:=g4 0 v (by lia) (by lia) (by simpa using ev);have q2:=h0 v z ev mz;lia
     refine qu (λhe2=>absurd (show k'=0 by simpa using he2) (by lia)) λhe2=>?_
     have hn':1<k':=by
      have:¬ k'=1:=by simpa using he
      lia
     have hb':k'<=b.size:=by lia
     have h5'':na1+k'+x0+2<=a.size+b.size:=by lia
     have g3':∀v,b[k'-1]?=some v->rk v<=rk z:=λv ev=>V2 (g3 (k'-1) v (by lia) (by simpa using ev))
     generalize zes.push y++(b.extract k' (nb-1)).reverse=zkb at M4 ⊢
     generalize nb-1-k'=kk'
     generalize k'=nb1 at M4 hn' hb' h5'' g3' ⊢
     revert g3';revert h5'';revert hb';revert hn';revert M4;revert nb1;revert kk';revert zkb
     exact key.get
    case b3=>exact key.get (zes.push y) (nb-1-k') (nb-1) M3 hn (by lia) (by lia) λv ev=>V2 (g3 (nb-1-1) v (by lia) (by simpa using ev))
    intro zkb kk' nb1 M4 hn' hb' h5'' g3'
    obtain⟨v,ev,mv⟩:=jc (a:=b) (i:=nb1-1) (by lia)
    have M5:=M4.oneA sa sb h1' (by lia) (by lia) hb' ez ev (g3' v ev)
    refine XF (qQ ez ?_)
    refine qu (λhe=>Xl (.inl ⟨_,rfl,(by
     have e:na1-1=0:=by simpa using he
     rw[e]at M5 ⊢;exact M5.done sb hb'),k3⟩)) λhe=>?_
    have hn2:1<=na1-1:=by
     have:¬ na1-1=0:=by simpa using he
     lia
    exact qu (λ_=>Xl (.inr ⟨_,_,_,_,_,_,rfl,M5,hn2,by lia,hn',hb',by lia,k3⟩)) λ_=>Xl ⟨_,_,_,_,_,_,rfl,M5,hn2,by lia,hn',hb',by lia,k3⟩
theorem zdv (sa:Nat):∀(l:List W9) (j:Nat) (arr:Array W9),((l.zipIdx j).foldl (λa (p:W9×Nat)=>a.setIfInBounds (sa+p.2) p.1) arr).size=arr.size
 | [],_,_=>rfl
 | x::l,j,arr=>by
  rw[List.zipIdx_cons,VO,zdv sa l (j+1)];exact S5
def zl8 (sa:Nat):∀(l:List W9) (j:Nat) (arr:Array W9) (i:Nat),sa+j+l.length<=arr.size->((l.zipIdx j).foldl (λa (p:W9×Nat)=>a.setIfInBounds (sa+p.2) p.1) arr)[i]?=if sa+j<=i/\i<sa+j+l.length then l[i-(sa+j)]? else arr[i]?:=by
 intro l;induction l with
 | nil =>
  intro j arr i h;rw[bq (by simp only[UP];lia)];rfl
 | cons x l ih =>
  intro j arr i h;rw[XE]at h;rw[List.zipIdx_cons,VO,ih (j+1) _ i (by rw[S5];lia),XE];by_cases h1:sa+(j+1)<=i/\i<sa+(j+1)+l.length
  .rw[bw h1,bw (by lia),show i-(sa+j)=(i-(sa+(j+1)))+1 by lia,Pl]
  .rw[bq h1];by_cases h2:i=sa+j
   .subst h2;rw[bw (by lia),Sz,List.getElem?_cons_zero];show (arr.setIfInBounds (sa+j) x)[sa+j]?=some x;rw[UM,bw rfl,bw (by lia)]
   .rw[bq (by lia)];show (arr.setIfInBounds (sa+j) x)[i]?=arr[i]?;rw[UM,bq (λe=>h2 e.symm)]
def yL {xs:Array W9}{lo hi:Nat}(u:Up rk xs lo hi){i j:Nat}{x y:W9}(h1:lo<=i)(h2:i<=j)(h3:j<hi)(ex:xs[i]?=some x)(ey:xs[j]?=some y):rk x<=rk y:=by
 have:=u i j h1 h2 h3;unfold Rk at this;rw[ex,ey]at this;exact this
def zm7 {xs:Array W9}{lo hi:Nat}(hz:hi<=xs.size)(h:∀i j x y,lo<=i->i<=j->j<hi->xs[i]?=some x->xs[j]?=some y->rk x<=rk y):Up rk xs lo hi:=λi j h1 h2 h3=>by
 obtain⟨x,ex,_⟩:=jc (a:=xs) (i:=i) (by lia);obtain⟨y,ey,_⟩:=jc (a:=xs) (i:=j) (by lia);unfold Rk;rw[ex,ey];exact h i j x y h1 h2 h3 ex ey
def zhH {xs:Array W9}{i:Nat}{x:W9}(e:xs[i]?=some x):x∈xs.toList:=XZ (by rw[Xr];exact e)
def ext_get {xs:Array W9}{i j k:Nat}(h1:i<=j)(h2:j<=xs.size)(hk:k<j-i):(xs.extract i j)[k]?=xs[i+k]?:=by
 rw[Si,bw (by lia)]
def QZ {xs:Array W9}{i j:Nat}(h2:j<=xs.size):(xs.extract i j).size=j-i:=by
 rw[TV];lia
def zkd {xs:Array W9}{lo hi i j:Nat}(u:Up rk xs lo hi)(h1:lo<=i)(h2:j<=hi)(h3:j<=xs.size):(xs.extract i j).toList.Pairwise λx y=>rk x<=rk y:=by
 rw[Vc];intro m n hm hn hmn;rw[X7,QZ h3]at hm hn;have em:=ext_get (xs:=xs) (i:=i) (j:=j) (k:=m) (by lia) h3 hm;have en:=ext_get (xs:=xs) (i:=i) (j:=j) (k:=n) (by lia) h3 hn;refine yL u (i:=i+m) (j:=i+n) (by lia) (by lia) (by lia) ?_ ?_
 .rw[<- em,Ul];exact getElem?_pos _ _ _
 .rw[<- en,Ul];exact getElem?_pos _ _ _
def ext_mem {xs:Array W9}{i j:Nat}{x:W9}(h3:j<=xs.size)(h:x∈(xs.extract i j).toList):∃k,i<=k/\k<j/\xs[k]?=some x:=by
 obtain⟨k,hk,e⟩:=Td h;rw[X7,QZ h3]at hk;refine⟨i+k,by lia,by lia,?_⟩;rw[<- ext_get (xs:=xs) (i:=i) (j:=j) (by lia) h3 hk,<- e,Ul];exact getElem?_pos _ _ _
def zpv {st st1:WM}{Q:PUnit->WM->Prop}(h:∀st2,st2=st1->Q ⟨⟩ st2):wpS (Xo prog w) A E s (set st1:StateT WM Sem PUnit) Q st:=by
 unfold wpS;rw[StateT.run_set];exact X4 ⟨rfl,h _ rfl⟩
set_option maxHeartbeats 8000000 in
theorem ziA {st:WM}{i sa na p1 nb p2:Nat}{Q:Bool->WM->Prop}(T:Tells prog w A s κ rk a0)(O:Ok κ a0 st)(e1:(WK st)[i]?=some (sa,na,p1))(e2:(WK st)[i+1]?=some (sa+na,nb,p2))(hna:1<=na)(hnb:1<=nb)(hz:sa+na+nb<=a0.size)(u1:Up rk (Xg st) sa (sa+na))(u2:Up rk (Xg st) (sa+na) (sa+na+nb))
  (h:∀st',Ok κ a0 st'->WK st'=((WK st).setIfInBounds i (sa,na+nb,p1)).eraseIdxIfInBounds (i+1)->Up rk (Xg st') sa (sa+na+nb)->(∀j:Nat,(j<sa\/sa+na+nb<=j)->(Xg st')[j]?=(Xg st)[j]?)->Q true st'):wpS (Xo prog w) A E s (mergeAt' i) Q st:=by
 have hsz:=O.size;have mX:∀x∈(Xg st).toList,x∈a0.toList:=λx hx=>(Uw.mp O.perm).mem_iff.mp hx;obtain⟨b0,eb0,mb0⟩:=jc (a:=Xg st) (i:=sa+na) (by lia);refine XF (R0 ?_);rw[e1,e2];dsimp only;refine XF (zpv λst1 hst=>?_);have k1:kindOf st1=κ:=by rw[hst];exact O.kind
 have ea:Xg st1=Xg st:=by rw[hst]
 have ep:WK st1=((WK st).setIfInBounds i (sa,na+nb,p1)).eraseIdxIfInBounds (i+1):=by rw[hst]
 have ef:SA st1=none:=by rw[hst];exact O.good
 have O1:Ok κ a0 st1:=⟨by rw[ea];exact O.perm,k1,ef⟩;refine XF (qQ eb0 (XF (zaK T k1 (mX b0 mb0) mX (λp q u v h1 h2 h3 eu ev=>yL u1 h1 h2 h3 eu ev) (by show sa+na<=(Xg st).size;lia) (by lia) λk hk g1 g2=>?_)));dsimp only;refine qu (λhc=>Xl (h st1 O1 ep (zm7 (by rw[ea];lia) λp q u v h1 h2 h3 eu ev=>?_) λj _=>by rw[ea])) λhc=>?_
 .have ek:k=na:=by
   have:na-k=0:=by simpa using hc
   lia
  rw[ea]at eu ev;by_cases c1:q<sa+na
  .exact yL u1 h1 h2 c1 eu ev
  .by_cases c2:p<sa+na
   .have q1:=g1 (p-sa) u (by lia) (by rw[show sa+(p-sa)=p by lia];exact eu);have q2:=yL u2 (XU _) (by lia) h3 eb0 ev;lia
   .exact yL u2 (by lia) h2 h3 eu ev
 have hkn:k<na:=by
  have:¬ na-k=0:=by simpa using hc
  lia
 obtain⟨al,eal,mal⟩:=jc (a:=Xg st) (i:=sa+k+(na-k)-1) (by lia);have eal':(Xg st)[sa+na-1]?=some al:=by
  rw[<- eal];congr 1;lia
 refine XF (qQ eal (XF (zaL T k1 (mX al mal) mX (λp q u v h1 h2 h3 eu ev=>yL u2 h1 h2 h3 eu ev) (by show sa+na+nb<=(Xg st).size;lia) (by lia) λk' hk' g3 g4=>?_)));dsimp only;have b0a:rk b0<rk al:=g2 (na-1) al (by lia) (by lia) (by rw[show sa+(na-1)=sa+na-1 by lia];exact eal');have k'1:1<=k':=by
  refine O0.mpr λhz0=>?_;have:=g4 0 b0 (by lia) (by lia) (by simpa using eb0);lia
 refine qu (λhc=>absurd (show k'=0 by simpa using hc) (by lia)) λ_=>?_;have X3:sa+na<=(Xg st).size:=by lia
 have Y3:sa+na+k'<=(Xg st).size:=by lia
 have xs:=zkd (i:=sa+k) (j:=sa+na) u1 (by lia) (XU _) X3;have ys:=zkd (i:=sa+na) (j:=sa+na+k') u2 (XU _) (by lia) Y3;have xm:∀x∈((Xg st).extract (sa+k) (sa+na)).toList,x∈a0.toList:=λx hx=>by
  obtain⟨j,_,_,ej⟩:=ext_mem X3 hx;exact mX x (zhH ej)
 have ym:∀x∈((Xg st).extract (sa+na) (sa+na+k')).toList,x∈a0.toList:=λx hx=>by
  obtain⟨j,_,_,ej⟩:=ext_mem Y3 hx;exact mX x (zhH ej)
 have xz:((Xg st).extract (sa+k) (sa+na)).size=na-k:=by
  rw[QZ X3];lia
 have yz:((Xg st).extract (sa+na) (sa+na+k')).size=k':=by
  rw[QZ Y3];lia
 have first:∀x y,((Xg st).extract (sa+na) (sa+na+k'))[0]?=some x->y∈((Xg st).extract (sa+k) (sa+na)).toList->rk x<rk y:=λx y ex my=>by
  rw[ext_get (by lia) Y3 (by lia),Sx,eb0]at ex;cases ex;obtain⟨j,j1,j2,ej⟩:=ext_mem X3 my;exact g2 (j-sa) y (by lia) (by lia) (by rw[show sa+(j-sa)=j by lia];exact ej)
 have last:∀x∈((Xg st).extract (sa+na) (sa+na+k')).toList,∀y,((Xg st).extract (sa+k) (sa+na))[((Xg st).extract (sa+k) (sa+na)).size-1]?=some y->rk x<rk y:=λx mx y ey=>by
  rw[xz,ext_get (by lia) X3 (by lia),show sa+k+(na-k-1)=sa+na-1 by lia,eal']at ey;cases ey;obtain⟨j,j1,j2,ej⟩:=ext_mem Y3 mx;exact g3 (j-(sa+na)) x (by lia) (by rw[show sa+na+(j-(sa+na))=j by lia];exact ej)
 have tail:∀(merged:Array W9) (st2:WM),Kept st1 st2->Mg rk ((Xg st).extract (sa+k) (sa+na)).toList ((Xg st).extract (sa+na) (sa+na+k')).toList merged.toList ->
   Q true (setArr st2 (merged.toList.zipIdx.foldl (λa (p:W9×Nat)=>a.setIfInBounds (sa+k+p.2) p.1) (Xg st2))):=λmerged st2 K2 hM=>by
  have ea2:Xg st2=Xg st:=K2.arr.trans ea;have ml:merged.toList.length=na-k+k':=by
   rw[hM.1.length_eq,XS,X7,X7,xz,yz]
  have at_:∀j:Nat,(merged.toList.zipIdx.foldl (λa (p:W9×Nat)=>a.setIfInBounds (sa+k+p.2) p.1) (Xg st2))[j]?=if sa+k<=j/\j<sa+na+k' then merged.toList[j-(sa+k)]? else (Xg st)[j]?:=λj=>by
   have:=zl8 (sa+k) merged.toList 0 (Xg st2) j (by rw[ea2,ml];lia);rw[this,ea2,Sx,ml];by_cases c:sa+k<=j/\j<sa+na+k'
   .rw[bw c,bw (by lia)]
   .rw[bq c,bq (by lia)]
  have zA:=zdv (sa+k) merged.toList 0 (Xg st2);generalize hN:merged.toList.zipIdx.foldl (λa (p:W9×Nat)=>a.setIfInBounds (sa+k+p.2) p.1) (Xg st2)=N at at_ zA ⊢;have zN:N.size=a0.size:=by
   rw[zA,ea2,hsz]
  have nl:N.toList=(Xg st).toList.take (sa+k)++merged.toList++(Xg st).toList.drop (sa+na+k'):=by
   refine TB λj=>?_;rw[Xr,at_ j];by_cases c1:j<sa+k
   .rw[bq (by lia),W0,VV (by rw[XA,X7];lia),List.getElem?_take,bw c1,Xr]
   .rw[W0,VD (by rw[XA,X7];lia),XA,X7,show min (sa+k) (Xg st).size=sa+k by lia];by_cases c2:j<sa+na+k'
    .rw[bw ⟨by lia,c2⟩,VV (by rw[ml];lia)]
    .rw[bq (by lia),VD (by rw[ml];lia),SM,Xr,ml];congr 1;lia
  have ol:(Xg st).toList=(Xg st).toList.take (sa+k)++(((Xg st).extract (sa+k) (sa+na)).toList++((Xg st).extract (sa+na) (sa+na+k')).toList)++(Xg st).toList.drop (sa+na+k'):=by
   rw[ext_toList _ _ _ (by lia),ext_toList _ _ _ (by lia)];have d1:(Xg st).toList.drop (sa+na)=((Xg st).toList.drop (sa+k)).drop (na-k):=by
    rw[Ot];congr 1;lia
   have d2:(Xg st).toList.drop (sa+na+k')=((Xg st).toList.drop (sa+na)).drop k':=by
    rw[Ot]
   rw[d2,show sa+na+k'-(sa+na)=k' by lia,W0,W0,WF,d1,show sa+na-(sa+k)=na-k by lia,WF,WF]
  refine h _ ⟨?_,K2.kind.trans k1,K2.bad.trans ef⟩ (K2.pend.trans ep) (zm7 (by show _<=N.size;lia) λp q u v h1 h2 h3 eu ev=>?_) λj hj=>?_
  .refine Array.Perm.trans ?_ O.perm;rw[Uw];show N.toList.Perm _;have pm:=List.Perm.append_right ((Xg st).toList.drop (sa+na+k')) (Se ((Xg st).toList.take (sa+k)) hM.1);rw[<- ol,<- nl]at pm;exact pm
  .have eu':N[p]?=some u:=eu;have ev':N[q]?=some v:=ev;rw[at_]at eu' ev';have mid:∀{j:Nat} {x:W9},sa+k<=j->j<sa+na+k'->merged.toList[j-(sa+k)]?=some x->(∃m,sa+k<=m/\m<sa+na/\(Xg st)[m]?=some x)\/∃m,sa+na<=m/\m<sa+na+k'/\(Xg st)[m]?=some x:=λ_ _ e=>by
    rcases XR.mp (hM.1.mem_iff.mp (XZ e)) with z | z
    .exact .inl (ext_mem X3 z)
    .exact .inr (ext_mem Y3 z)
   by_cases c1:p<sa+k
   .rw[bq (by lia)]at eu';by_cases c2:q<sa+k
    .rw[bq (by lia)]at ev';exact yL u1 h1 h2 (by lia) eu' ev'
    .have low:∀{m:Nat} {x:W9},sa+na<=m->m<sa+na+nb->(Xg st)[m]?=some x->rk u<=rk x:=λm1 m2 em=>by
      have q1:=g1 (p-sa) u (by lia) (by rw[show sa+(p-sa)=p by lia];exact eu');exact Vr q1 (yL u2 (XU _) m1 m2 eb0 em)
     by_cases c3:q<sa+na+k'
     .rw[bw ⟨by lia,c3⟩]at ev';rcases mid (by lia) c3 ev' with ⟨m,m1,m2,em⟩ | ⟨m,m1,m2,em⟩
      .exact yL u1 h1 (by lia) m2 eu' em
      .exact low m1 (by lia) em
     .rw[bq (by lia)]at ev';exact low (by lia) h3 ev'
   .by_cases c4:p<sa+na+k'
    .rw[bw ⟨by lia,c4⟩]at eu';by_cases c3:q<sa+na+k'
     .rw[bw ⟨by lia,c3⟩]at ev';by_cases epq:p=q
      .subst epq;rw[eu']at ev';cases ev';exact Ve _
      .have sp:=hM.2;rw[Vc]at sp;obtain⟨a1,a2⟩:=XW.mp eu';obtain⟨b1,b2⟩:=XW.mp ev';have:=sp _ _ a1 b1 (by lia);rw[a2,b2]at this;exact this
     .rw[bq (by lia)]at ev';have q4:=g4 (q-(sa+na)) v (by lia) (by lia) (by rw[show sa+na+(q-(sa+na))=q by lia];exact ev');rcases mid (by lia) c4 eu' with ⟨m,m1,m2,em⟩ | ⟨m,m1,m2,em⟩
      .exact Vr (yL u1 (by lia) (by lia) (by lia) em eal') q4
      .exact yL u2 m1 (by lia) h3 em ev'
    .rw[bq (by lia)]at eu' ev';exact yL u2 (by lia) h2 h3 eu' ev'
  .show N[j]?=_;rw[at_,bq (by lia)]
 refine qu (λ_=>?_) λ_=>?_
 .refine XF (ziy T k1 xm ym xs ys (SK (show 0<na-k by lia) xz.symm) (SK (show 0<k' by lia) yz.symm) (λx y ex my=>V2 (first x y ex my)) last λout st2 K2 hM=>?_);refine XF (SO (XF (R0 ?_)));rw[show (SA st2).isNone=true by rw[K2.bad,ef];rfl];exact Xl (tail out st2 K2 hM)
 .refine XF (ziz T k1 xm ym xs ys (SK (show 0<na-k by lia) xz.symm) (SK (show 0<k' by lia) yz.symm) first last λout st2 K2 hM=>?_);refine XF (SO (XF (R0 ?_)));rw[show (SA st2).isNone=true by rw[K2.bad,ef];rfl];exact Xl (tail out st2 K2 hM)
def Y4:List (Nat×AA)->Nat->Nat->Prop
 | [],s,e=>s=e
 | r::l,s,e=>r.1=s/\1<=r.2.1/\Y4 l (s+r.2.1) e
theorem yw:∀{l1 l2:List (Nat×AA)} {s e:Nat},Y4 (l1++l2) s e ↔ ∃m,Y4 l1 s m/\Y4 l2 m e
 | [],l2,s,e=>⟨λh=>⟨s,rfl,h⟩,λ⟨m,h1,h2⟩=>by
  have e:s=m:=h1;subst e;exact h2⟩
 | r::l1,l2,s,e=>by
  constructor
  .rintro⟨h1,h2,h3⟩;obtain⟨m,h4,h5⟩:=yw.mp h3;exact⟨m,⟨h1,h2,h4⟩,h5⟩
  .rintro⟨m,⟨h1,h2,h3⟩,h4⟩;exact⟨h1,h2,yw.mpr ⟨m,h3,h4⟩⟩
theorem Yk:∀{l:List (Nat×AA)} {s e:Nat},Y4 l s e->s<=e/\l.length+s<=e/\∀r∈l,s<=r.1/\r.1+r.2.1<=e
 | [],s,e,h=>by
  have e':s=e:=h;subst e';exact⟨XU _,by simp,λr hr=>nomatch hr⟩
 | r::l,s,e,⟨h1,h2,h3⟩=>by
  obtain⟨a1,a2,a3⟩:=Yk h3;refine⟨by lia,by rw[XE];lia,λq hq=>?_⟩;rcases XQ.mp hq with rfl | hq
  .lia
  .have:=a3 q hq;lia
structure PI (rk:W9->Int)(κ:Tw)(a0:Array W9)(lo:Nat)(st:WM):Prop where
 ok:Ok κ a0 st
 til:Y4 (WK st).toList 0 lo
 up:∀r∈(WK st).toList,Up rk (Xg st) r.1 (r.1+r.2.1)
def zbE {xs ys:Array W9}{lo hi:Nat}(u:Up rk xs lo hi)(h:∀j:Nat,lo<=j->j<hi->ys[j]?=xs[j]?):Up rk ys lo hi:=λi j h1 h2 h3=>by
 rw[Jw (h i h1 (by lia)),Jw (h j (by lia) h3)];exact u i j h1 h2 h3
def zn4 {p:List (Nat×AA)}{i:Nat}(h:i+1<p.length):∃l1 r1 r2 l2,p=l1++r1::r2::l2/\l1.length=i/\p[i]?=some r1/\p[i+1]?=some r2:=by
 refine⟨p.take i,p[i],p[i+1],p.drop (i+2),?_,by rw[XA];lia,X5 (by lia),X5 h⟩;rw[<- Wz h,<- Wz (by lia),WF]
def zfq {st:WM}{lo i:Nat}{Q:Bool->WM->Prop}(T:Tells prog w A s κ rk a0)(P:PI rk κ a0 lo st)(hi:i+1<(WK st).size)(hlo:lo<=a0.size)
  (h:∀st',PI rk κ a0 lo st'->(WK st').size+1=(WK st).size->(∀j:Nat,lo<=j->(Xg st')[j]?=(Xg st)[j]?)->Q true st'):wpS (Xo prog w) A E s (mergeAt' i) Q st:=by
 obtain⟨l1,⟨sa,na,p1⟩,⟨sb,nb,p2⟩,l2,ep,el,e1,e2⟩:=zn4 (p:=(WK st).toList) (i:=i) (by rw[X7];exact hi);have til:=P.til;rw[ep]at til;obtain⟨m,t1,⟨a1,a2,a3,a4,a5⟩⟩:=yw.mp til;dsimp only at a1 a2 a3 a4 a5;subst a1;subst a3;rw[Xr]at e1 e2;have u1:=P.up (sa,na,p1) (by rw[ep];simp);have u2:=P.up (sa+na,nb,p2) (by rw[ep];simp);dsimp only at u1 u2;obtain⟨b1,b2,b3⟩:=Yk a5;obtain⟨c1,c2,c3⟩:=Yk t1;refine ziA T P.ok e1 e2 a2 a4 (by lia) u1 u2 λst' O' ep' up' out'=>?_;have el':(WK st').toList=l1++(sa,na+nb,p1)::l2:=by
  rw[ep',Array.toList_eraseIdxIfInBounds,Rb,ep,<- el];rw[List.set_append_right _ _ (XU _),Sz,List.set_cons_zero,List.eraseIdx_append_of_length_le (by lia),show l1.length+1-l1.length=1 by lia];rfl
 refine h st' ⟨O',?_,λr hr=>?_⟩ ?_ λj hj=>out' j (by lia)
 .rw[el'];exact yw.mpr ⟨sa,t1,rfl,by show 1<=na+nb;lia,by rw[show sa+(na+nb)=sa+na+nb by lia];exact a5⟩
 .rw[el']at hr;rcases XR.mp hr with hr | hr
  .have:=c3 r hr;exact zbE (P.up r (by rw[ep];exact Xi _ hr)) λj h1 h2=>out' j (by lia)
  .rcases XQ.mp hr with rfl | hr
   .show Up rk (Xg st') sa (sa+(na+nb));rw[show sa+(na+nb)=sa+na+nb by lia];exact up'
   .have:=b3 r hr;exact zbE (P.up r (by rw[ep];simp[hr])) λj h1 h2=>out' j (by lia)
 .rw[<- X7,el',<- X7,ep];simp only[XS,XE];lia
def PI.step {lo lo':Nat}{st st':WM}(P:PI rk κ a0 lo st)(S:Step κ a0 lo' st st')(h:lo<=lo'):PI rk κ a0 lo st':=by
 refine⟨S.ok,by rw[S.pend];exact P.til,λr hr=>?_⟩;rw[S.pend]at hr;have:=(Yk P.til).2.2 r hr;exact zbE (P.up r hr) λj h1 h2=>S.low j (by lia)
theorem zbb (pw:Nat):∀{l:List (Nat×AA)} {k s e:Nat},Y4 l s e->Y4 (l.modify k λr=>(r.1,r.2.1,pw)) s e
 | [],k,s,e,h=>by
  cases k<;>exact h
 | r::l,0,s,e,⟨h1,h2,h3⟩=>⟨h1,h2,h3⟩
 | r::l,k+1,s,e,⟨h1,h2,h3⟩=>⟨h1,h2,zbb pw h3⟩
theorem zdw {pw:Nat}:∀{l:List (Nat×AA)} {k:Nat} {r:Nat×AA},r∈l.modify k (λr=>(r.1,r.2.1,pw))->∃q∈l,q.1=r.1/\q.2.1=r.2.1
 | [],k,r,h=>by
  cases k<;>cases h
 | q::l,0,r,h=>by
  rcases XQ.mp h with rfl | h
  .exact⟨q,X2,rfl,rfl⟩
  .exact⟨r,XV _ h,rfl,rfl⟩
 | q::l,k+1,r,h=>by
  rcases XQ.mp h with rfl | h
  .exact⟨r,X2,rfl,rfl⟩
  .obtain⟨q',h1,h2⟩:=zdw h;exact⟨q',XV _ h1,h2⟩
def ite_le (c:Prop) [Decidable c](n:Nat):(if c then n-1 else n)<=n:=by
 split<;>lia
def zn5 {st:WM}{Q:Unit->WM->Prop}(T:Tells prog w A s κ rk a0)(O:Ok κ a0 st)(hp:WK st=#[])(h:∀st',Ok κ a0 st'->Up rk (Xg st') 0 a0.size->Q () st'):wpS (Xo prog w) A E s sortRuns' Q st:=by
 rw[sortRuns'_eq];refine XF (R0 ?_);dsimp only;rw[O.size];generalize minRun' a0.size a0.size 0=mr;refine XF (T8 (VT (I:=λx c st'=>∃lo,c=(none,lo)/\PI rk κ a0 lo st'/\lo<=a0.size/\x<=lo)
  (Q:=λc st'=>c=(none,a0.size)/\PI rk κ a0 a0.size st') ?step ?fin ⟨0,rfl,⟨O,by rw[hp];rfl,λr hr=>by rw[hp]at hr;cases hr⟩,W7 _,XU _⟩) ?post)
 case fin =>
  rintro c st' ⟨lo,rfl,P,h1,h2⟩
  obtain rfl:lo=a0.size:=by lia
  exact⟨rfl,P⟩
 case step =>
  rintro x c st1 _ hx ⟨lo,rfl,P,h1,h2⟩
  dsimp only
  refine qu (λhge=>?_) λhge=>?_
  .obtain rfl:lo=a0.size:=by lia
   exact Xl ⟨rfl,P⟩
  refine XF (zpt T P.ok (by lia) (by lia) λm st2 S m1 m2 hu=>?_)
  dsimp only
  have P2:=P.step S (XU _)
  refine qu (λhmr=>?_) λhmr=>?_
  refine XF (Pz (UQ ⟨rfl,?_⟩))
  refine XF (zpu T S.ok (by lia) (by lia) hu λst3 S3 hu3=>?_)
  rw[bq (by decide)]
  have P3:=P2.step S3 (XU _)
  have n1:1<=min (a0.size-lo) mr:=by lia
  have n2:lo+min (a0.size-lo) mr<=a0.size:=by lia
  clear P2 S3
  generalize min (a0.size-lo) mr=n at hu3 n1 n2 ⊢
  rotate_left
  have P3:=P2
  have hu3:=hu
  have n1:=m1
  have n2:lo+m<=a0.size:=by lia
  clear P2
  generalize m=n at hu3 n1 n2 ⊢
  generalize st2=st3 at P3 hu3 ⊢
  rotate_left
  all_goals
   refine XF (R0 ?_)
   have fin:∀st4,PI rk κ a0 lo st4->Up rk (Xg st4) lo (lo+n)->PI rk κ a0 (lo+n) (setPending st4 ((WK st4).push (lo,n,0))):=λst4 P4 u4=>by
    refine⟨⟨P4.ok.perm,P4.ok.kind,P4.ok.good⟩,?_,λr hr=>?_⟩
    .show Y4 ((WK st4).push (lo,n,0)).toList 0 (lo+n);rw[Sm];exact yw.mpr ⟨lo,P4.til,rfl,n1,rfl⟩
    .have hr':r∈((WK st4).push (lo,n,0)).toList:=hr;rw[Sm]at hr';rcases XR.mp hr' with hr' | hr'
     .exact P4.up r hr'
     .have er:r=(lo,n,0):=by simpa using hr'
      subst er;exact u4
   cases hbk:(WK st3).back? with
   | none =>
    dsimp only;exact XF (SO (Xl ⟨lo+n,rfl,fin st3 P3 hu3,n2,by lia⟩))
   | some r =>
    obtain⟨s1,k1,q1⟩:=r;dsimp only;generalize power' a0.size (2*s1+k1) (2*s1+k1+k1+n) a0.size=pw;refine XF (T8 (VT (I:=λ_ c st4=>c=(none,())/\PI rk κ a0 lo st4/\Up rk (Xg st4) lo (lo+n)) (Q:=λc st4=>c=(none,())/\PI rk κ a0 lo st4/\Up rk (Xg st4) lo (lo+n)) ?_ (λ_ _ hh=>hh) ⟨rfl,P3,hu3⟩) ?_)
    .rintro y c st4 _ _ ⟨rfl,P4,u4⟩;refine XF (R0 ?_);by_cases hz:(WK st4).size>1
     .rw[bw hz,getElem?_pos (WK st4) ((WK st4).size-2) (by lia)];generalize (WK st4)[(WK st4).size-2]'(by lia)=r2;obtain⟨r2a,r2b,r2c⟩:=r2;dsimp only;refine qu (λ_=>Xl ⟨rfl,P4,u4⟩) λ_=>?_;refine XF (zfq T P4 (by lia) h1 λst5 P5 _ zqq=>?_);rw[bq (by decide)];exact Xl ⟨rfl,P5,zbE u4 λj j1 _=>zqq j j1⟩
     .rw[bq hz];exact Xl ⟨rfl,P4,u4⟩
    .rintro c st4 ⟨rfl,P4,u4⟩;dsimp only;refine XF (SO (XF (SO (Xl ⟨lo+n,rfl,fin _ ⟨⟨P4.ok.perm,P4.ok.kind,P4.ok.good⟩,?_,λr hr=>?_⟩ u4,n2,by lia⟩))))
     .show Y4 ((WK st4).modify ((WK st4).size-1) λr=>(r.1,r.2.1,pw)).toList 0 lo;rw[N1];exact zbb pw P4.til
     .have hr':r∈((WK st4).modify ((WK st4).size-1) λr=>(r.1,r.2.1,pw)).toList:=hr;rw[N1]at hr';obtain⟨q,hq,e1,e2⟩:=zdw hr';have:=P4.up q hq;rw[e1,e2]at this;exact this
 case post =>
  rintro c st1 ⟨rfl,P⟩
  dsimp only
  have len0:=(Yk P.til).2.1
  rw[X7]at len0
  refine XF (T8 (VT (I:=λx c st2=>c=(none,())/\PI rk κ a0 a0.size st2/\((WK st2).size+x<=a0.size\/(WK st2).size<=1)) (Q:=λc st2=>c=(none,())/\PI rk κ a0 a0.size st2/\(WK st2).size<=1) ?step2 ?fin2 ⟨rfl,P,.inl (by lia)⟩) ?post2)
  case fin2 =>
   rintro c st2 ⟨rfl,P2,hz⟩
   exact⟨rfl,P2,by lia⟩
  case step2 =>
   rintro x c st2 _ hx ⟨rfl,P2,hz⟩
   refine XF (R0 ?_)
   refine qu (λh1=>Xl ⟨rfl,P2,h1⟩) λh1=>?_
   refine XF (zfq T P2 ?_ (XU _) λst3 P3 z3 _=>?_)
   .exact Xx (On (ite_le _ _) 1) (show (WK st2).size-2+1<(WK st2).size by lia)
   .rw[bq (by decide)];exact Xl ⟨rfl,P3,by lia⟩
  case post2 =>
   rintro c st2 ⟨rfl,P2,hz⟩
   dsimp only
   refine Xl (h st2 P2.ok ?_)
   have til:=P2.til
   have up:=P2.up
   have zl:(WK st2).toList.length<=1:=by rw[X7];exact hz
   cases hl:(WK st2).toList with
   | nil =>
    rw[hl]at til;have e:0=a0.size:=til;exact λi j _ _ h3=>absurd h3 (by lia)
   | cons r l =>
    rw[hl]at til zl up;obtain rfl:l=[]:=UU.mp (by rw[XE]at zl;lia);obtain⟨t1,t2,t3⟩:=til;have t3':0+r.2.1=a0.size:=t3;have u:=up r X2;rw[t1,t3']at u;exact u
end
structure Wk {K:Type}(lt:K->K->Bool):Prop where
 tot:∀x y,lt x y=true->lt y x=false
 tr:∀x y z,lt y x=false->lt z y=false->lt z x=false
def rkK {K:Type}(lt:K->K->Bool)(ks:List K)(k:K):Int:=((ks.countP λq=>lt q k:Nat):Int)
theorem count_le {K:Type}{p q:K->Bool}:∀{ks:List K},(∀x∈ks,p x=true->q x=true)->ks.countP p<=ks.countP q
 | [],_=>XU _
 | x::ks,h=>by
  have ih:=count_le (ks:=ks) λy hy=>h y (XV _ hy);rw[Ws,Ws];have hx:=h x X2;by_cases c:p x=true
  .rw[bw c,bw (hx c)];lia
  .rw[bq c];lia
def zke {K:Type}{p q:K->Bool}{ks:List K}(h:∀x∈ks,p x=true->q x=true)(hq:∃x∈ks,p x=false/\q x=true):ks.countP p<ks.countP q:=by
 obtain⟨y,hy,h1,h2⟩:=hq;induction ks with
 | nil=>cases hy
 | cons x ks ih =>
  rw[Ws,Ws];have hx:=h x X2;rcases XQ.mp hy with rfl | hy
  .have ih:=count_le (ks:=ks) λy hy=>h y (XV _ hy);rw[h1,h2,bq XT,bw rfl];lia
  .have ih:=ih (λy hy=>h y (XV _ hy)) hy;by_cases c:p x=true
   .rw[bw c,bw (hx c)];lia
   .rw[bq c];lia
def Wk.rank {K:Type}{lt:K->K->Bool}(W:Wk lt){ks:List K}{x y:K}(hx:x∈ks):lt x y=decide (rkK lt ks x<rkK lt ks y):=by
 unfold rkK;cases h:lt x y with
 | true =>
  refine(br ?_).symm;have:=zke (ks:=ks) (p:=λq=>lt q x) (q:=λq=>lt q y) (λq _ hq=>?_) ⟨x,hx,?_,h⟩
  .lia
  .cases hc:lt q y with
   | true=>rfl
   | false =>
    have:=W.tr x y q (W.tot x y h) hc;have hq':lt q x=true:=hq;rw[this]at hq';cases hq'
  .cases hc:lt x x with
   | false=>rfl
   | true=>exact hc.symm.trans (W.tot x x hc)
 | false =>
  refine(bf ?_).symm;have:=count_le (ks:=ks) (p:=λq=>lt q y) (q:=λq=>lt q x) λq _ hq=>by
   cases hc:lt q x with
   | true=>rfl
   | false =>
    have:=W.tr y x q h hc;have hq':lt q y=true:=hq;rw[this]at hq';cases hq'
  lia
section
variable {prog:Xd}{w:WV}{A:WT}{E:X9->X8->Prop}{s:X8}
def zaM {a:Addr}{vs:List X9}{n:Nat}{P:PySem.Fin->X8->Prop}(ho:s.heap.get? a=some (UD "list" vs.toArray n))(hz:vs.length<=Xz)(r:X9->Int)
  (hk:2<=vs.length->∀s':X8,(∀b o,b≠a->s.heap.get? b=some o->s'.heap.get? b=some o)->Xy (Xo prog w) A (keyKind' vs.toArray) (fun κ s2=>s2=s'/\Tells prog w A s' κ (λp=>r p.1) (N6 vs)) (λ_ _=>False) s')
  (h:∀(ws:List X9) (h':Heap) (c:Nat),ws.Perm vs->ws.Pairwise (λx y=>r x<=r y)->(∀b o,b≠a->s.heap.get? b=some o->h'.get? b=some o)->h'.get? a=some (UD "list" ws.toArray c)->P (.done (.ret .none)) { s with heap:=h' }) :
  Xy (Xo prog w) A (UW.«list.sort» ⟨[.ref a],[]⟩) P E s:=by
 have lta:a<s.heap.objs.size:=XJ ho;have hu1:=get?_update_seq ho λ_=>(#[]:Array X9);generalize hX:s.heap.update a (U7 λ_=>(#[]:Array X9))=X1 at hu1;have zX:X1.objs.size=s.heap.objs.size:=by rw[<- hX,Heap.size_update]
 have kX:∀b o,b≠a->s.heap.get? b=some o->X1.get? b=some o:=λb o hb e=>by
  rw[<- hX,RD _ _ _ _ hb];exact e
 obtain⟨e1,hu⟩:∃e1,X1.get? a=some (UD "list" #[] e1):=⟨_,hu1⟩;generalize hY:(X1.push (UD "tuple" vs.toArray 0)).push (UD "list" #[] 0)=Y;have hYa:Y.get? a=some (UD "list" #[] e1):=by
  rw[<- hY];exact X6 _ (X6 _ hu)
 have kY:∀b o,b≠a->s.heap.get? b=some o->Y.get? b=some o:=λb o hb e=>by
  rw[<- hY];exact X6 _ (X6 _ (kX b o hb e))
 have last:∀(st:WM),(((Xg st).map (·.2)).toList.Perm vs)->(((Xg st).map (·.2)).toList.Pairwise λx y=>r x<=r y)->SA st=none ->
   Xy (Xo prog w) A (do
    let touched:=(<- seqEpoch a) != e1
    Builtin.List.listUpdate (.ref a) λ_=>(Xg st).map (·.2)
    if let some e:=SA st then rule "list.sort.comparison-raised";throw e
    if touched then rule "list.sort.modified";raiseError "ValueError" "list modified during sort"
    ret .none) P E { s with heap:=Y }:=by
  intro st hp hs hf;generalize ew:(Xg st).map (·.2)=wsA at hp hs;rw[hf];have hlen:wsA.size=vs.length:=by rw[<- X7,hp.length_eq]
  have hu2:=get?_update_seq hYa λ_=>wsA;refine ZB (seqEpoch_at hYa rfl (ZB (listUpdate_at hYa rfl ?_ (W7 _) (by rw[hlen];lia))));simp only[bne_self_eq_false,Wc,if_false];refine X4 (h wsA.toList _ _ hp hs (λb o hb e=>?_) hu2);rw[RD _ _ _ _ hb];exact kY b o hb e
 rw[list_sort_plain];refine ZB (listItems_at ho rfl (ZB (listUpdate_at ho rfl ?_ (by rw[Xs];exact hz) (W7 _))));rw[hX];refine ZB (seqEpoch_at hu rfl (ZB (wpAny_newTuple (ZB (PN ?_ (W7 _))) hz)));show Xy (Xo prog w) A _ P E { s with heap:=(X1.push (UD "tuple" vs.toArray 0)).push (UD "list" #[] 0) };rw[hY];refine W1 ?_;dsimp only;have e2:((N6 vs).map (·.2)).toList=vs:=by
  rw[VM,U1];exact List.map_snd_zip (XU _)
 by_cases c2:vs.toArray.size<2
 .have c2':vs.length<2:=by rw[Xs]at c2;exact c2
  rw[bw c2,bw c2];refine ZB (X4 ?_);rw[StateT.run_pure];refine ZB (X4 ?_);refine last (SortSt.mk' general' (N6 vs) #[] 7 none) (by show ((N6 vs).map (·.2)).toList.Perm vs;rw[e2]) (by
   show ((N6 vs).map (·.2)).toList.Pairwise _;rw[e2,Vc];intro i j hi hj hij;lia) rfl
 .have c2':2<=vs.length:=by rw[Xs]at c2;lia
  rw[bq c2,bq c2];refine ZB (WE (hk c2' { s with heap:=Y } kY) (fun κ s2 ⟨e3,T⟩=>?_) λ_ _ x=>x.elim);subst e3;have run:=zn5 (E:=E) (st:=SortSt.mk' κ (N6 vs) #[] 7 none) (Q:=λ_ st'=>(((Xg st').map (·.2)).toList.Perm vs)/\(((Xg st').map (·.2)).toList.Pairwise λx y=>r x<=r y)/\SA st'=none) T ⟨Array.Perm.refl _,rfl,rfl⟩ rfl λst' O hu=>?_
  .unfold wpS at run;refine ZB (WE run ?_ λ_ _ z=>z);rintro⟨⟨⟩,st'⟩ s' ⟨rfl,hp,hs,hf⟩;exact last st' hp hs hf
  .have pm:=Uw.mp O.perm;have same:∀p∈(Xg st').toList,p.1=p.2:=λp hp=>by
    have:=pm.mem_iff.mp hp;rw[U1]at this;exact(Tj this).1
   refine⟨?_,?_,O.good⟩
   .have:=pm.map (·.2);rw[VM];rw[U1,List.map_snd_zip (XU _)]at this;exact this
   .rw[VM,Wf,Vc];intro i j hi hj hij;have zs:=O.size;rw[X7]at hi hj;have u:=yL hu (i:=i) (j:=j) (W7 _) (by lia) (by lia) (getElem?_pos _ i hi) (getElem?_pos _ j hj);have s1:=same (Xg st')[i] (by simp);have s2:=same (Xg st')[j] (by simp);rw[Ul,Ul,<- s1,<- s2];exact u
def ziB {l:Addr}{vs:List X9}{Q:X9->X8->Prop}(hl:s.heap.IsList l vs.toArray)(hz:vs.length<=Xz)(r:X9->Int)
  (hk:2<=vs.length->∀s':X8,(∀b o,s.heap.get? b=some o->s'.heap.get? b=some o)->Xy (Xo prog w) A.in1.in1 (keyKind' vs.toArray) (fun κ s2=>s2=s'/\Tells prog w A.in1.in1 s' κ (λp=>r p.1) (N6 vs)) (λ_ _=>False) s')
  (h:∀(ws:List X9) (h':Heap) (c:Nat),ws.Perm vs->ws.Pairwise (λx y=>r x<=r y)->(∀b o,s.heap.get? b=some o->h'.get? b=some o)->h'.get? (s.heap.objs.size+1)=some (UD "list" ws.toArray c)->Q (.ref (s.heap.objs.size+1)) { s with heap:=h' }) :
  Xy (Xo prog w) A (call (.builtin "sorted") [.ref l]) Q E s:=by
 generalize hX:(s.heap.push (UD "list" #[] 0)).update s.heap.objs.size (U7 (·++vs.toArray))=X1;have zX:X1.objs.size=s.heap.objs.size+1:=by rw[<- hX,Heap.size_update,Vu]
 have kX:∀b o,s.heap.get? b=some o->X1.get? b=some o:=λb o e=>by
  have lt:=XJ e;rw[<- hX,RD _ _ _ _ (Xk lt)];exact X6 _ e
 apply Tf Nv NH NG (NF _);unfold UW.«sorted»;refine ZB (m:=checkCount "sorted" 1 1 _) (X4 (ZB (collect_list hl ?_ hz)));rw[hX];refine ZB (PN ?_ hz);show Xy _ _ _ _ _ { s with heap:=X1.push (UD "list" vs.toArray 0) };have hoL:(X1.push (UD "list" vs.toArray 0)).get? (s.heap.objs.size+1)=some (UD "list" vs.toArray 0):=by
  rw[<- zX];exact Xe _ rfl
 have kL:∀b o,s.heap.get? b=some o->(X1.push (UD "list" vs.toArray 0)).get? b=some o:=λb o e=>X6 _ (kX b o e);have ne:∀b o,s.heap.get? b=some o->b≠s.heap.objs.size+1:=λb o e=>Xk (Wv (XJ e));rw[zX];refine ZB (W1 (UE Oq ⟨_,hoL,rfl⟩ OP (zaM (s:={ s with heap:=X1.push (UD "list" vs.toArray 0) }) hoL hz r (λc s' k=>hk c s' λb o e=>k b o (ne b o e) (kL b o e)) ?_) (Op _)));intro ws h' c hp hs kk ha;exact⟨_,rfl,X4 ⟨_,rfl,h ws h' c hp hs (λb o e=>kk b o (ne b o e) (kL b o e)) ha⟩⟩
end
def zch {α β:Type}{R:α->β->Prop}{xs:List α}{ys:List β}(hp:WU R xs ys):(∀p∈xs.zip ys,R p.1 p.2)/\(xs.zip ys).map (·.1)=xs/\(xs.zip ys).map (·.2)=ys:=by
 induction hp with
 | nil=>exact⟨(λp h=>nomatch h),rfl,rfl⟩
 | cons h _ ih =>
  obtain⟨a,b,c⟩:=ih;refine⟨λp hp=>?_,by rw[List.zip_cons_cons,Xf,b],by rw[List.zip_cons_cons,Xf,c]⟩;rcases XQ.mp hp with rfl | hp
  .exact h
  .exact a p hp
theorem zdx {α β:Type}{R:α->β->Prop}:∀{zs:List (α × β)},(∀p∈zs,R p.1 p.2)->WU R (zs.map (·.1)) (zs.map (·.2))
 | [],_=>.nil
 | p::zs,h=>.cons (h p X2) (zdx λq hq=>h q (XV _ hq))
theorem Jx {α β:Type}{R:α->β->Prop}:∀{xs:List α} {ys:List β},WU R xs ys->∀x∈xs,∃y∈ys,R x y
 | _,_,.nil,x,h=>nomatch h
 | _,_,.cons h t,x,hx=>by
  rcases XQ.mp hx with rfl | hx
  .exact⟨_,X2,h⟩
  .obtain⟨y,h1,h2⟩:=Jx t x hx;exact⟨y,XV _ h1,h2⟩
def Tri {K:Type}(RV:V->K->Prop)(RH:X9->K->Prop)(t:V×X9×K):Prop:=RelV t.1 t.2.1/\RV t.1 t.2.2/\RH t.2.1 t.2.2
def zn6 {K:Type}{RV:V->K->Prop}{RH:X9->K->Prop}{us:AF}{its:List X9}{ks:List K}(h1:Vals us its):WU RV us ks->WU RH its ks->∃T:List (V×X9×K),(∀t∈T,Tri RV RH t)/\T.map (·.1)=us/\T.map (·.2.1)=its/\T.map (·.2.2)=ks:=by
 induction h1 generalizing ks with
 | nil =>
  intro h2 h3;cases h2;exact⟨[],(λt h=>nomatch h),rfl,rfl,rfl⟩
 | @cons u i us its r1 t1 ih =>
  intro h2 h3;cases h2 with
  | @cons _ k _ ks r2 t2 =>
   cases h3 with
   | cons r3 t3 =>
    obtain⟨T,h1,h2,h3,h4⟩:=ih t2 t3;refine⟨(u,i,k)::T,λt ht=>?_,by rw[Xf,h2],by rw[Xf,h3],by rw[Xf,h4]⟩;rcases XQ.mp ht with rfl | ht
    .exact⟨r1,r2,r3⟩
    .exact h1 t ht
theorem zfr {K:Type}{RV:V->K->Prop}{RH:X9->K->Prop}:∀{T:List (V×X9×K)},(∀t∈T,Tri RV RH t)->Vals (T.map (·.1)) (T.map (·.2.1))/\WU RV (T.map (·.1)) (T.map (·.2.2))
 | [],_=>⟨.nil,.nil⟩
 | t::T,h=>by
  obtain⟨h1,h2⟩:=zfr λx hx=>h x (XV _ hx);obtain⟨a,b,c⟩:=h t X2;exact⟨.cons a h1,.cons b h2⟩
section
variable {X:Cx}{bQ:List (Addr×Obj)}{σ:St}{H:Hp}{s:X8}{K:Type}
def ziC {lt:K->K->Bool}(W:Wk lt){RV:V->K->Prop}{RH:Heap->X9->K->Prop}(fn:∀h v k k',RH h v k->RH h v k'->k=k')(kp:∀h h' v k,(∀b o,h.get? b=some o->h'.get? b=some o)->RH h v k->RH h' v k)
  {l:Addr} {us:AF} {its:List X9} {ks:List K} {Q:VK} (I:Inv X bQ σ H s) (hl:s.heap.IsList l its.toArray) (hz:us.length<=1000000) (rv:Vals us its) (hv:WU RV us ks) (hp:WU (RH s.heap) its ks)
  (kind:∀s':X8,WU (RH s'.heap) its ks->2<=its.length->Xy (Xo X.prog X.w) X.A.in1.in1 (keyKind' its.toArray) (fun κ s2=>s2=s'/\∀v v' k k',RH s'.heap v k->RH s'.heap v' k'->∀C:Bool->X8->Prop,C (lt k k') s'->Xy (Xo X.prog X.w) X.A.in1.in1 (keyLt' κ v v') C (λ_ _=>False) s') (λ_ _=>False) s')
  (q:∀d us' ks',H d=none->WU RV us' ks'->ks'.Perm ks->ks'.Pairwise (λx y=>lt y x=false)->(us'.Perm us)->Q (.ref d) (upd H d (.lst us'))) :
  Xy (Xo X.prog X.w) X.A (call (.builtin "sorted") [.ref l]) (EP X bQ σ Q) X.xe s:=by
 classical
 have hil:=rv.length;obtain⟨T,hT,e1,e2,e3⟩:=zn6 rv hv hp;let r:X9->Int:=λv=>if h:∃k,RH s.heap v k then rkK lt ks h.choose else 0
 have rk_:∀{v:X9} {k:K},RH s.heap v k->r v=rkK lt ks k:=λ{v k} h=>by
  have hx:∃k,RH s.heap v k:=⟨k,h⟩;show (if h:∃k,RH s.heap v k then rkK lt ks h.choose else 0)=_;rw[dif_pos hx,fn _ _ _ _ hx.choose_spec h]
 have z1:its.length<=Xz:=by
  rw[<- hil,T3];lia
 refine ziB (vs:=its) hl z1 r (λh2 s' kk=>?_) λws h' c hpm hs kk ha=>?_
 .have hp':WU (RH s'.heap) its ks:=by
   obtain⟨a,b,c⟩:=zch hp;have:=zdx (R:=RH s'.heap) (zs:=its.zip ks) λp hp=>kp _ _ _ _ kk (a p hp);rw[b,c]at this;exact this
  refine WE (kind s' hp' h2) (fun κ s2 ⟨e,hc⟩=>⟨e,λx hx y hy C hC=>?_⟩) λ_ _ z=>z;have mx:x.1∈its:=by
   rw[U1]at hx;exact(Tj hx).2
  have my:y.1∈its:=by
   rw[U1]at hy;exact(Tj hy).2
  obtain⟨k,k1,k2⟩:=Jx hp x.1 mx;obtain⟨k',k1',k2'⟩:=Jx hp y.1 my;refine hc x.1 y.1 k k' (kp _ _ _ _ kk k2) (kp _ _ _ _ kk k2') C ?_;have hC':C (decide (r x.1<r y.1)) s':=hC;rw[rk_ k2,rk_ k2',<- W.rank k1]at hC';exact hC'
 .obtain⟨T',hT',eT⟩:=ST.zce (λt:V×X9×K=>t.2.1) hpm T e2.symm;have hTr:∀t∈T',Tri RV (RH s.heap) t:=λt ht=>hT t (hT'.mem_iff.mp ht);obtain⟨rv',hv'⟩:=zfr hTr;rw[<- eT]at rv';have hD:H (s.heap.objs.size+1)=none:=I.hok.fresh (V9 _);refine⟨.ref (s.heap.objs.size+1),upd H (s.heap.objs.size+1) (.lst (T'.map (·.1))),I.laid (t':=s.toks) kk (V9 _) ⟨?_,ws,c,rv',ha⟩,rfl,q _ _ _ hD hv' (by rw[<- e3];exact hT'.map _) ?_ (by rw[<- e1];exact hT'.map _)⟩
  .rw[rv'.length,hpm.length_eq];exact z1
  .rw[eT,Wf]at hs;rw[Wf];refine hs.imp_of_mem λ{x y} hx hy h=>?_;obtain⟨_,_,h1⟩:=hTr x hx;obtain⟨_,_,h2⟩:=hTr y hy;rw[rk_ h1,rk_ h2]at h;have my:y.2.2∈ks:=by
    rw[<- e3];exact XO.mpr ⟨y,hT'.mem_iff.mp hy,rfl⟩
   rw[W.rank my];exact bf (by lia)
end
def zn7:Wk lt2:=by
 refine⟨λx y h=>?_,λx y z h1 h2=>?_⟩
 .cases e:lt2 y x with
  | false=>rfl
  | true =>
   have:=zgq h e;rw[zhu]at this;cases this
 .cases e:lt2 z x with
  | false=>rfl
  | true =>
   by_cases exy:x=y
   .subst exy;rw[e]at h2;exact h2
   .have h3:lt2 x y=true:=by
     have:=zbz (p:=x) (q:=y) exy;rw[h1]at this;cases hh:lt2 x y with
     | true=>rfl
     | false =>
      rw[hh]at this;cases this
    have:=zgq e h3;rw[this]at h2;exact h2
def zhI {h:Heap}{v:X9}{p q:Int×Int}(h1:zz h v p)(h2:zz h v q):p=q:=by
 obtain⟨a,o,n,t,u,e,e1,c1,d1⟩:=h1;obtain⟨a',o',n',t',u',e',e1',c1',d1'⟩:=h2;subst e;cases e';rw[e1]at e1';cases e1';rw[d1]at d1';obtain⟨p1,p2⟩:=p;obtain⟨q1,q2⟩:=q;injection d1' with d1' _
 have e2:[Wt p1 t,Wt p2 u]=[Wt q1 t',Wt q2 u']:=congrArg Array.toList d1';injection e2 with e3 e4
 injection e4 with e4 _
 injection e3 with e3 _
 injection e4 with e4 _
 rw[e3,e4]
end GS
end L2
namespace PySem.SeqAt
open L2 AutoSeq1 MeetsSeq MeetsSeq2 MeetsSeq3
end PySem.SeqAt
namespace L2
open PySem PySem.Spec PyProof.Rows PySem.W PySem.SeqAt
end L2
namespace PySem.SeqAt
open L2 AutoSeq1 MeetsSeq MeetsSeq2 MeetsSeq3
def ltL:List (Int×Int)->List (Int×Int)->Bool
 | _,[]=>false
 | [],_::_=>true
 | p::r,q::t=>if p=q then ltL r t else lt2 p q
def zet (ps:List (Int×Int)):ltL ps []=false:=by cases ps<;>rfl
theorem zhJ:∀ps:List (Int×Int),ltL ps ps=false
 | []=>rfl
 | p::r=>by
  unfold ltL;rw[bw rfl];exact zhJ r
theorem zhK:∀{ps qs:List (Int×Int)},ps≠qs->ltL qs ps=!ltL ps qs
 | [],[],h=>absurd rfl h
 | [],q::t,_=>rfl
 | p::r,[],_=>rfl
 | p::r,q::t,h=>by
  unfold ltL;by_cases e:p=q
  .subst e;rw[bw rfl,bw rfl];exact zhK λz=>h (by rw[z])
  .rw[bq e,bq (Vm e)];exact zbz e
theorem zgy:∀{ps qs ss:List (Int×Int)},ltL ps qs=true->ltL qs ss=true->ltL ps ss=true
 | ps,[],_,h,_=>by
  rw[zet]at h;cases h
 | _,_::_,[],_,h=>by
  rw[zet]at h;cases h
 | [],_::_,_::_,_,_=>rfl
 | p::r,q::t,x::y,h1,h2=>by
  unfold ltL at *
  by_cases e1:p=q
  .subst e1;rw[bw rfl]at h1;by_cases e2:p=x
   .rw[bw e2]at h2 ⊢;exact zgy h1 h2
   .rw[bq e2]at h2 ⊢;exact h2
  .rw[bq e1]at h1;by_cases e2:q=x
   .subst e2;rw[bq e1];exact h1
   .rw[bq e2]at h2;have h3:=zgq h1 h2;rw[bq]
    .exact h3
    .intro e;subst e;rw[zhu]at h3;cases h3
def zgz {A:WT}{s:X8}{v v':X9}{p q:Int×Int}(h1:zz s.heap v p)(h2:zz s.heap v' q)(hu:A.units+10<U3):EqAt A s v v' (decide (p=q)):=by
 obtain⟨as,ra⟩:=YZ h1;obtain⟨bs,rb⟩:=YZ h2;have:=eqAt_reads _ _ A s _ _ as bs ra rb rfl rfl (by show A.units+min 1 1<U3;lia);rw[zdm]at this;exact this
def Ze {h:Heap}{xs:Array X9}{ps:List (Int×Int)}(hp:WU (zz h) xs.toList ps){i:Nat}(hi:i<xs.size):∃p r,ps.drop i=p::r/\ps.drop (i+1)=r/\zz h xs[i] p:=by
 have hl:xs.toList.length=ps.length:=Paired.length hp;rw[X7]at hl;have h2:i<ps.length:=by lia
 obtain⟨a,b,c⟩:=GS.zch hp;refine⟨ps[i],ps.drop (i+1),Wz h2,rfl,?_⟩;have hz:i<(xs.toList.zip ps).length:=by
  rw[List.length_zip,X7];lia
 have:=a _ (T6 hz);rw[List.getElem_zip]at this;simpa using this
def ziD (l b:Addr)(items items2:Array X9)(n n2:Nat)(dd dd2:Option Addr)(sl sl2:Array (Option X9))(ps qs:List (Int×Int))(k:Nat) :
  ∀i:Nat,items.size-i=k->i<=items.size->i<=items2.size->Meets (UW.«list.__eq__.loop» ⟨[.ref l,.ref b,T2 i,T2 0],[]⟩)
   (λA R s=>s.heap.get? l=some { cls:=.type "list",dict:=dd,data:=.seq items n,slots:=sl }/\s.heap.get? b=some { cls:=.type "list",dict:=dd2,data:=.seq items2 n2,slots:=sl2 } /\
    WU (zz s.heap) items.toList ps/\WU (zz s.heap) items2.toList qs/\A.units+20<U3 /\
    R (.ok (.ret (.bool (ltL (ps.drop i) (qs.drop i))))) s):=by
 induction k with
 | zero =>
  intro i hk h1 h2 prog w A R s h;obtain⟨hp,g,d,tk,os⟩:=s;obtain⟨hl,hb,hp1,hp2,hu,h⟩:=h;have l1:items.toList.length=ps.length:=Paired.length hp1;have l2:items2.toList.length=qs.length:=Paired.length hp2;rw[X7]at l1 l2;wp_walk using V0 hl,V0 hb;have hi1:items[((i:Nat):Int).toNat]?=none:=by simp;lia
  rw[hi1];have hd:ps.drop i=[]:=by simp;lia
  have e:ltL (ps.drop i) (qs.drop i)=decide (items.size<items2.size):=by
   rw[hd];by_cases hq:i<qs.length
   .rw[Wz hq];exact(br (by lia)).symm
   .rw[List.drop_of_length_le (by lia)];exact(bf (by lia)).symm
  rw[e]at h;wp_walk using V0 hl,V0 hb;exact h
 | succ k ih =>
  intro i hk h1 h2 prog w A R s h;obtain⟨hp,g,d,tk,os⟩:=s;obtain⟨hl,hb,hp1,hp2,hu,h⟩:=h;have l1:items.toList.length=ps.length:=Paired.length hp1;have l2:items2.toList.length=qs.length:=Paired.length hp2;rw[X7]at l1 l2;wp_walk using V0 hl,V0 hb;have hlt:i<items.size:=by lia
  have hi1:items[((i:Nat):Int).toNat]?=some items[i]:=by simp[hlt]
  by_cases hlt2:i<items2.size
  .have hi2:items2[((i:Nat):Int).toNat]?=some items2[i]:=by simp[hlt2]
   have hc:((i:Int)+1)=((i+1:Nat):Int):=by push_cast;rfl
   obtain⟨p,r,ep,er,rp⟩:=Ze hp1 hlt;obtain⟨q,t,eq,et,rq⟩:=Ze hp2 hlt2;rw[hi1,hi2];refine ZB (zgz rp rq (by show A.units+1+10<U3;lia) prog w _ _ ?_);rw[ep,eq]at h;unfold ltL at h;by_cases e:p=q
   .rw[bw e]at h;rw[br e];wp_walk;rw[hc];exact⟨VC plain_eq_loop _,Wd entry_eq_loop (by
     rw[Wp plain_eq_loop _];exact ih (i+1) (by lia) (by lia) (by lia) prog w A R _ ⟨hl,hb,hp1,hp2,hu,by rw[er,et];exact h⟩)⟩
   .rw[bq e]at h;rw[bf e];simp only[Wc,if_false];refine ZB (Qr hl rfl (ZB (Qr hb rfl ?_)));rw[hi1,hi2];exact ZB (Qf.pairs rp rq (by show A.units+1<U3;lia) prog w _ _ (X4 h))
  .have hi2:items2[((i:Nat):Int).toNat]?=none:=by simp;lia
   rw[hi1,hi2];have hd:qs.drop i=[]:=by simp;lia
   rw[hd,zet,show false=decide (items.size<items2.size) from (bf (by lia)).symm]at h;wp_walk using V0 hl,V0 hb;exact h
def zgA (l b:Addr)(items items2:Array X9)(n n2:Nat)(dd dd2:Option Addr)(sl sl2:Array (Option X9))(ps qs:List (Int×Int)) :
  Meets (UW.«list.__lt__» ⟨[.ref l,.ref b],[]⟩)
   (λA R s=>s.heap.get? l=some { cls:=.type "list",dict:=dd,data:=.seq items n,slots:=sl }/\s.heap.get? b=some { cls:=.type "list",dict:=dd2,data:=.seq items2 n2,slots:=sl2 } /\
    WU (zz s.heap) items.toList ps/\WU (zz s.heap) items2.toList qs/\A.units+20<U3/\R (.ok (.ret (.bool (ltL ps qs)))) s):=by
 intro prog w A R s h;obtain⟨hp1,g1,d1,tk1,os1⟩:=s;obtain⟨hL,hB,hp,hq,hu,h⟩:=h;have fL:=sub_list_list;wp_walk using V0 hL,V0 hB;exact⟨VC plain_eq_loop _,Wd entry_eq_loop (by
  rw[Wp plain_eq_loop _];exact ziD l b items items2 n n2 dd dd2 sl sl2 ps qs _ 0 rfl (W7 _) (W7 _) prog w A R _ ⟨hL,hB,hp,hq,hu,by simpa using h⟩)⟩
structure ListPairs (h:Heap)(v:X9)(ps:List (Int×Int)):Prop where
 ex:∃a o xs n,v=.ref a/\h.get? a=some o/\o.cls=.type "list"/\o.data=.seq xs n/\WU (zz h) xs.toList ps
def zkf {prog:Xd}{w:WV}{A:WT}{E:X9->X8->Prop}{s:X8}{v v':X9}{ps qs:List (Int×Int)}{C:Bool->X8->Prop}(hv:ListPairs s.heap v ps)(hv':ListPairs s.heap v' qs)(hu:A.units+30<U3)(h:C (ltL ps qs) s) :
  Xy (Xo prog w) A (PyProof.Rows.keyLt' PyProof.Rows.oneType' v v') C E s:=by
 obtain⟨a,⟨cls,dd,data,sl⟩,xs,n,rfl,e1,c1,d1,p1⟩:=hv;obtain⟨a',⟨cls2,dd2,data2,sl2⟩,xs',n',rfl,e1',c1',d1',p1'⟩:=hv';simp only at c1 d1 c1' d1';subst c1 d1 c1' d1';rw[PyProof.Rows.keyLt'_oneType,PyProof.Rows.oneLt'_eq];simp only[if_true];refine ZB (wpAny_cRoomFor (by lia) ?_);refine ZB (wpAny_callSpecialIfBound?_slot (T:="list") ⟨_,e1,rfl⟩ F.slot_list_lt ?_);refine SR F.slot_list_lt ⟨_,e1,rfl⟩ F.entry_list_lt (F.args_list_lt_2 _ _) (zgA a a' xs xs' n n' dd dd2 sl sl2 ps qs) ⟨e1,e1',p1,p1',(by lia),?_⟩;exact VJ h
end PySem.SeqAt
namespace L2
open PySem PySem.Spec PyProof.Rows PySem.W PySem.SeqAt
namespace GS
def zn8:Wk ltL:=by
 refine⟨λx y h=>?_,λx y z h1 h2=>?_⟩
 .cases e:ltL y x with
  | false=>rfl
  | true =>
   have:=zgy h e;rw[zhJ]at this;cases this
 .cases e:ltL z x with
  | false=>rfl
  | true =>
   by_cases exy:x=y
   .subst exy;rw[e]at h2;exact h2
   .have h3:ltL x y=true:=by
     have:=zhK (ps:=x) (qs:=y) exy;rw[h1]at this;cases hh:ltL x y with
     | true=>rfl
     | false =>
      rw[hh]at this;cases this
    have:=zgy e h3;rw[this]at h2;exact h2
def LstAt (H:Hp)(v:V)(ps:List (Int×Int)):Prop:=∃a ws,v=V.ref a/\H a=some (.lst ws)/\xx H ws ps
def ziE {h:Heap}{vs:List X9}{ps qs:List (Int×Int)}(hp:WU (zz h) vs ps):WU (zz h) vs qs->ps=qs:=by
 induction hp generalizing qs with
 | nil =>
  intro hq;cases hq;rfl
 | cons a _ ih =>
  intro hq;cases hq with
  | cons b u=>rw[zhI a b,ih u]
def zkg {h:Heap}{v:X9}{ps qs:List (Int×Int)}(h1:ListPairs h v ps)(h2:ListPairs h v qs):ps=qs:=by
 obtain⟨a,o,xs,n,e,e1,c1,d1,p1⟩:=h1;obtain⟨a',o',xs',n',e',e1',c1',d1',p1'⟩:=h2;subst e;cases e';rw[e1]at e1';cases e1';rw[d1]at d1';injection d1' with d1' _
 subst d1';exact ziE p1 p1'
def ZK {h h':Heap}(k:∀b o,h.get? b=some o->h'.get? b=some o){vs:List X9}{ps:List (Int×Int)}(hp:WU (zz h) vs ps):WU (zz h') vs ps:=by
 induction hp with
 | nil=>exact .nil
 | cons q _ ih =>
  obtain⟨a,o,n,t,u,e,e1,r⟩:=q;exact .cons ⟨a,o,n,t,u,e,k _ _ e1,r⟩ ih
section
variable {X:Cx}{bQ:List (Addr×Obj)}{σ:St}{H:Hp}{s:X8}
def zgB (I:Inv X bQ σ H s){us:AF}{ks:List (List (Int×Int))}{its:List X9}(hp:WU (LstAt H) us ks)(r:Vals us its):WU (ListPairs s.heap) its ks:=by
 induction hp generalizing its with
 | nil =>
  cases r;exact .nil
 | cons q _ ih =>
  obtain⟨a,ws,e,h,ht⟩:=q;subst e;cases r with
  | cons r1 r2 =>
   cases r1;refine .cons ?_ (ih r2);obtain⟨z,its,n,rv,hl,e⟩:=I.lstM h;exact⟨a,_,its.toArray,n,rfl,e,rfl,rfl,by rw[N0];exact xx.pairs I ht rv⟩
end
def zgC {h:Heap}{its:List X9}{ks:List (List (Int×Int))}(hp:WU (ListPairs h) its ks):∀v∈its,∃a o,v=WN a/\h.get? a=some o/\o.cls=.type "list":=by
 induction hp with
 | nil=>exact λv hv=>nomatch hv
 | cons q _ ih =>
  intro v hv;rcases XQ.mp hv with rfl | hv
  .obtain⟨a,o,xs,n,e,e1,c,_⟩:=q;exact⟨a,o,e,e1,c⟩
  .exact ih v hv
section
variable {X:Cx}
def Y5 (hu:X.A.units+64<U3):jw X (.builtin "sorted") (λxs H Q=>∃l us ks,xs=[.ref l]/\SqL X.K H l us/\WU (LstAt H) us ks/\us.length<=1000000 /\
  ∀d us' ks',H d=none->WU (LstAt H) us' ks'->ks'.Perm ks->ks'.Pairwise (λp q=>ltL q p=false)->us'.Perm us->Q (.ref d) (upd H d (.lst us'))):=by
 intro bQ s σ H xs us' Q I r h;obtain⟨l,us,ks,rfl,hq,ht,hz,q⟩:=h;obtain⟨u,rfl,ru⟩:=vals1 r;cases ru;obtain⟨its,rv,pl,_⟩:=I.list hq;have hp:=zgB I ht rv;refine ziC zn8 (RH:=ListPairs) (λh v k k'=>zkg) (λh h' v k kk ⟨a,o,xs,n,e,e1,c,d,r⟩=>⟨a,o,xs,n,e,kk _ _ e1,c,d,ZK kk r⟩) I pl.isList hz rv ht hp (λs' hp' h2=>?_) λd us' ks' hd h1 h2 h3 h4=>q d us' ks' hd h1 h2 h3 h4;refine kas_kind (T:=.type "list") h2 (λv hv=>?_) (by decide) (by decide) ⟨rfl,λv v' k k' h1 h2 C hC=>?_⟩
 .obtain⟨a,o,rfl,e1,c1⟩:=zgC hp' v hv;exact c1 ▸ (Looks.ld e1).andThen .now
 .exact zkf h1 h2 (by show X.A.units+1+1+30<U3;lia) hC
end
end GS
open PySem PySem.Spec PyProof.Rows
section
variable {X:Cx}{K:XY}
def zkh (hK:X.K=K):MtR X "str.join" (rJoin K):=by
 subst hK;exact zeh
def zki (hK:X.K=K):SlR X (zpe K):=by
 subst hK;exact zbw
def zgD (hK:X.K=K):OpR X (VN .In) (rIn K false):=by
 subst hK;exact zia
def zn9 {T:String}{name:Str}{id:String}{r:V->AF->Hp->VK->Prop}{o e:Expr}{es:List Expr}{to:TE}{t:TA}{apos cpos:Pos}(hK:X.K=K)(pa:PlainAttrs T)(slot:Slot T name id)(hty:typeOf (.builtin id)=pure (.type "method_descriptor"))(hm:MtR X id r)(ho:PE X o to)(ha:PA X (e::es) t)
  (h1:NW o name X.env (eval o X.env)=eval o X.env:=by rfl)
  (h2:((Tx cpos (WR (e::es) X.env)).all (λx=>!x.1)&&(backToKw cpos (Nx [] X.env)).all (λx=>x.1.isSome)
   && decide ((e::es).length+([]:List N9).length+(if ([]:List N9).isEmpty then 0 else 1)<30))=true:=by rfl)
  (h3:(apos.endLine==cpos.line)=true:=by rfl) (h4:WR (e::es) X.env=(false,eval e X.env)::WR es X.env:=by rfl) (h5:(Tx cpos (WR es X.env)).any (·.1)=false:=by rfl) :
  PE X (.Call (.Attribute o name apos) (e::es) [] cpos) (tBM K T r to t):=by
 subst hK;exact yu pa slot hty hm ho ha h1 h2 h3 h4 h5
end
def HasDef (K:XY)(x:Str)(st:Stmt):Prop:=∃(f:Addr) (oc:X9) (od an:Option Addr) (sl:Array (Option X9)) (kV dc pm cd ct:X9),XI K XM x=some (some (.ref f))/\K.lookup f=some ⟨oc,od,.func (Ut x x (JH st) (yP st) (zj st) .none kV dc pm an cd ct),sl⟩/\Sv K cd x=true/\Tu K (.ref f)=true
def us0 {P:List X9->Prop}(h:P []):∀us:List X9,us.length=0->P us:=by
 intro us e;cases us with
 | nil=>exact h
 | cons a t=>cases e
def usS {n:Nat}{P:List X9->Prop}(h:∀a t,t.length=n->P (a::t)):∀us:List X9,us.length=n+1->P us:=by
 intro us e;cases us with
 | nil=>cases e
 | cons a t=>exact h a t (Nat.succ.inj e)
def us1 {P:List X9->Prop}(h:∀a,P [a]):∀us:List X9,us.length=1->P us:=usS λa=>us0 (h a)
def us2 {P:List X9->Prop}(h:∀a b,P [a,b]):∀us:List X9,us.length=2->P us:=usS λa=>us1 (h a)
def us3 {P:List X9->Prop}(h:∀a b c,P [a,b,c]):∀us:List X9,us.length=3->P us:=usS λa=>us2 (h a)
def HasDef.at {K:XY}{h:Heap}{mg:Str->Option X9}{x:Str}{st:Stmt}{ps:AE}(H:HasDef K x st)(X:K.In h)(G:h.Ns XM mg)
  (hb:∀(kV doc pm:X9) (an:Option Addr) (cdv ct:X9) (us:List X9),us.length=ps.length->bindArgs (Ut x x (JH st) (yP st) (zj st) .none kV doc pm an cdv ct) ⟨us,[]⟩=pure (ps.zip us):=by intro _ _ _ _ _ _;first | exact us1 λ_=>rfl | exact us2 λ_ _=>rfl | exact us3 λ_ _ _=>rfl):∃f fd,zu K mg x st ps f fd:=by
 obtain⟨f,oc,od,an,sl,kV,dc,pm,cd,ct,a,l,c,k⟩:=H;have F:=zjB (st:=st) l c k;exact⟨f,_,F,V7 X G a,F.binds hb⟩
open PySem PySem.W
open PySem PySem.Spec PyProof.Rows PySem.W
namespace ST
variable {X:Cx}
def zc2 (hh:X.A.handled=none):jw X (.builtin "sorted") (λxs H Q=>∃l ks,xs=[.ref l]/\H l=some (zfo X.prog X.w l ks)/\(∀q∈ks,H q.1=some (.tup [.int q.2.1,.int q.2.2]))/\(ks.map (·.2)).Nodup/\ks.length<64 /\
  ∀d us' ps',H d=none->xx H us' ps'->ps'.Perm (ks.map (·.2))->Up2 ps'->Q (.ref d) (upd H d (.lst us'))):=by
 intro bQ s σ H xs us' Q I r h;obtain⟨l,ks,rfl,hl,hT,hnd,h64,q⟩:=h;obtain⟨u,rfl,ru⟩:=vals1 r;cases ru;obtain⟨⟨es,ep,t,ho,he,G,hled,hpl⟩,_,_⟩:=(show qI X.prog X.w H s.heap l (zfo X.prog X.w l ks) from I.hok l _ hl);have hkl:ks.length=es.size:=by
  rw[<- X7,he,Y1]
 apply Tf Nv NH NG (NF _);unfold UW.«sorted»;refine ZB (m:=checkCount "sorted" 1 1 _) (X4 (ZB (zba (by simp[hh]) ho G hled hpl (by lia) λits h1 tk hpm kk1 zle=>?_)));have hvs:es.toList.map (·.2)=ks.map λq=>WN q.1:=by
  rw[he,WY];rfl
 rw[hvs]at hpm;obtain⟨js,hjp,hj⟩:=zce (λq:Addr×(Int×Int)=>WN q.1) hpm ks rfl;have hTj:∀q∈js,H q.1=some (.tup [.int q.2.1,.int q.2.2]):=λq hq=>hT q (hjp.mem_iff.mp hq);have hndj:(js.map (·.2)).Nodup:=(hjp.map (·.2)).nodup_iff.mpr hnd;have hjl:js.length=ks.length:=hjp.length_eq;have hil:its.length=js.length:=by rw[hj,Y1]
 have rv:∀{js:List (Addr×(Int×Int))},Vals (js.map λq=>V.ref q.1) (js.map λq=>WN q.1):=λ{js}=>by
  induction js with
  | nil=>exact .nil
  | cons a t ih=>exact .cons rfl ih
 have ht:∀{js:List (Addr×(Int×Int))},(∀q∈js,H q.1=some (.tup [.int q.2.1,.int q.2.2]))->xx H (js.map λq=>V.ref q.1) (js.map (·.2)):=λ{js}=>by
  induction js with
  | nil=>exact λ_=>.nil
  | cons a t ih=>exact λh=>.cons ⟨a.1,rfl,h a X2⟩ (ih λq hq=>h q (XV _ hq))
 have hp0:WU (zz s.heap) its (js.map (·.2)):=by
  rw[hj];exact xx.pairs I (ht hTj) rv
 generalize hps:js.map (·.2)=ps at hp0 hndj;have hlp:its.length=ps.length:=Paired.length hp0;have W:=GS.zn7;have ip:∀q:Addr×(Int×Int),H q.1=some (.tup [.int q.2.1,.int q.2.2])->zz s.heap (.ref q.1) q.2:=λq hq=>by
  have:=xx.pairs I (.cons ⟨q.1,rfl,hq⟩ .nil:xx H [V.ref q.1] [q.2]) (.cons rfl .nil:Vals [V.ref q.1] [WN q.1]);cases this with
  | cons h _=>exact h
 classical
 let r:X9->Int:=λv=>if h:∃k,zz s.heap v k then GS.rkK lt2 ps h.choose else 0
 have rk_:∀{v:X9} {k:Int×Int},zz s.heap v k->r v=GS.rkK lt2 ps k:=λ{v k} h=>by
  have hx:∃k,zz s.heap v k:=⟨k,h⟩;show (if h:∃k,zz s.heap v k then GS.rkK lt2 ps h.choose else 0)=_;rw[dif_pos hx,GS.zhI hx.choose_spec h]
 have small:its.length<=Xz:=by rw[T3];lia
 refine ZB (PN ?_ small);have hoL:(h1.push (UD "list" its.toArray 0)).get? h1.objs.size=some (UD "list" its.toArray 0):=Xe _ rfl;have kL:∀b o,s.heap.get? b=some o->(h1.push (UD "list" its.toArray 0)).get? b=some o:=λb o e=>X6 _ (kk1 b o e);have ne:∀b o,s.heap.get? b=some o->b≠h1.objs.size:=λb o e=>Xk (XJ (kk1 b o e));show Xy _ _ _ _ _ { s with heap:=h1.push (UD "list" its.toArray 0),toks:=tk };refine ZB (W1 (UE Oq ⟨_,hoL,rfl⟩ OP (GS.zaM (s:={ s with heap:=h1.push (UD "list" its.toArray 0),toks:=tk }) hoL small r (λh2 s' kk=>?_) ?_) (Op _)))
 .have hp':=ZK (λb o e=>kk b o (ne b o e) (kL b o e)) hp0;obtain⟨fs,hk,hfl,hint⟩:=QM hp';refine kat_kind (T:=.type "int") hk (by lia) (λv hv=>?_) (by decide) ⟨rfl,λx hx y hy C hC=>?_⟩
  .obtain⟨x,t,rfl⟩:=hint v hv;exact Looks.of_pure rfl
  .have mx:x.1∈its:=by
    rw[U1]at hx;exact(Tj hx).2
   have my:y.1∈its:=by
    rw[U1]at hy;exact(Tj hy).2
   obtain⟨k,k1,k2⟩:=GS.Jx hp0 x.1 mx;obtain⟨k',k1',k2'⟩:=GS.Jx hp0 y.1 my;have kp:∀{v:X9} {k:Int×Int},zz s.heap v k->zz s'.heap v k:=λ{v k} ⟨a,o,n,t,u,e,e1,r⟩=>⟨a,o,n,t,u,e,kk _ _ (ne _ _ e1) (kL _ _ e1),r⟩;have hC':C (decide (r x.1<r y.1)) s':=hC;rw[rk_ k2,rk_ k2',<- W.rank k1]at hC';exact zlR (kp k2) (kp k2') hC'
 .intro ws h' c hpm' hs kk ha;obtain⟨js',hjp',ej⟩:=zce (λq:Addr×(Int×Int)=>WN q.1) hpm' js hj;have hD:H h1.objs.size=none:=I.hok.fresh zle;have hT':∀q∈js',H q.1=some (.tup [.int q.2.1,.int q.2.2]):=λq hq=>hTj q (hjp'.mem_iff.mp hq);have rv':Vals (js'.map λq=>V.ref q.1) ws:=by
   rw[ej];exact rv
  have nd':(js'.map (·.2)).Nodup:=(hjp'.map (·.2)).nodup_iff.mpr (by rw[hps];exact hndj);have hup:Up2 (js'.map (·.2)):=by
   unfold Up2;unfold WZ at nd';rw[Wf]at nd' ⊢;rw[ej,Wf]at hs;refine(hs.and nd').imp_of_mem λ{x y} hx hy ⟨h1,h2⟩=>?_;rw[rk_ (ip x (hT' x hx)),rk_ (ip y (hT' y hy))]at h1;have my:y.2∈ps:=by
    rw[<- hps];exact XO.mpr ⟨y,hjp'.mem_iff.mp hy,rfl⟩
   have e1:lt2 y.2 x.2=false:=by
    rw[W.rank my];exact bf (by lia)
   have e2:=zbz h2;rw[e1]at e2;cases hh:lt2 x.2 y.2 with
   | true=>rfl
   | false =>
    rw[hh]at e2;cases e2
  refine⟨_,rfl,X4 ⟨_,rfl,.ref h1.objs.size,upd H h1.objs.size (.lst (js'.map λq=>V.ref q.1)),I.laid (t':=tk) (λb o e=>kk b o (ne b o e) (kL b o e)) zle ⟨?_,_,c,rv',ha⟩,rfl,q _ _ _ hD (ht hT') ((hjp'.trans hjp).map _) hup⟩⟩;rw[rv'.length,hpm'.length_eq];exact small
end ST
inductive Rd1 (σ:St)(i:Nat)(Q:VK)(H:Hp):Prop
 | mk (v:V) (h:σ[i]?=some (some v)) (q:Q v H):Rd1 σ i Q H
def tVS (i:Nat):TE:=fun σ H Q=>Rd1 σ i Q H
section
variable {X:Cx}
def pvS (i:Nat){x:Str}{pos:Pos}(hN:X.N[i]?=some x:=by rfl)(hv:Vis X.env.scope x:=by first | exact XD rfl | exact TL (XD rfl) | exact TL (TL rfl))(hd:(x==("__debug__":Str))=false:=by decide)
  (hcd:(x==("__classdict__":Str))=false:=by decide):PE X (.Name x pos) (tVS i):=by
 intro bQ s σ H Q I h;obtain⟨v,e,q⟩:=h;exact pv i hN hv hd hcd bQ s σ H Q I ⟨v,e,q⟩
def OpR.imp {f:X9->X9->Sem X9}{r r':R2}(h:OpR X f r)(k:∀x y H Q,r' x y H Q->r x y H Q):OpR X f r':=λbQ s σ H x y v u Q I rx ry z=>h bQ s σ H x y v u Q I rx ry (k x y H Q z)
def IxR.imp {r r':R2}(h:IxR X r)(k:∀x y H Q,r' x y H Q->r x y H Q):IxR X r':=λvalue slice bQ s σ H x y v u Q I rx ry z hs=>h value slice bQ s σ H x y v u Q I rx ry (k x y H Q z) hs
inductive SI0 (g:Int->Int->V)(x y:V)(H:Hp)(Q:VK):Prop
 | mk (i j:Int) (hx:x=.int i) (hy:y=.int j) (q:Q (g i j) H):SI0 g x y H Q
inductive SI (C:Int->Int->Prop)(g:Int->Int->V)(x y:V)(H:Hp)(Q:VK):Prop
 | mk (i j:Int) (hx:x=.int i) (hy:y=.int j) (hc:C i j) (q:Q (g i j) H):SI C g x y H Q
def OpR.s0 {f:X9->X9->Sem X9}{g:Int->Int->V}(h:OpR X f (rI0 g)):OpR X f (SI0 g):=h.imp λ_ _ _ _ ⟨i,j,a,b,q⟩=>⟨i,j,a,b,q⟩
def OpR.s1 {f:X9->X9->Sem X9}{C:Int->Int->Prop}{g:Int->Int->V}(h:OpR X f (rI C g)):OpR X f (SI C g):=h.imp λ_ _ _ _ ⟨i,j,a,b,c,q⟩=>⟨i,j,a,b,c,q⟩
def qm:OpR X (Ua .Add) (SI0 λi j=>.int (i+j)):=zny.s0
def yX:OpR X (Ua .Sub) (SI0 λi j=>.int (i-j)):=znz.s0
def jf:OpR X (Ua .Mod) (SI (λ_ j=>0<j) λi j=>.int (i%j)):=znA.s1
def jN:OpR X (Ua .FloorDiv) (SI J7 λi j=>.int (i/j)):=zjC.s1
def zoa:OpR X (VN .Lt) (SI0 λi j=>.bl (decide (i<j))):=zo6.s0
def zeu:OpR X (VN .LtE) (SI0 λi j=>.bl (decide (i<=j))):=zo7.s0
def zew:OpR X (VN .Gt) (SI0 λi j=>.bl (decide (j<i))):=zo8.s0
inductive zob (K:XY)(x y:V)(H:Hp)(Q:VK):Prop
 | mk (p:Addr) (xs:AF) (i:Int) (v:V) (hx:x=.ref p) (hy:y=.int i) (hq:SqL K H p xs) (he:atI xs i=some v) (q:Q v H):zob K x y H Q
inductive zpw (K:XY)(x y:V)(H:Hp)(Q:VK):Prop
 | mk (p:Addr) (xs:AF) (i:Int) (v:V) (hx:x=.ref p) (hy:y=.int i) (hq:SqT K H p xs) (he:atI xs i=some v) (q:Q v H):zpw K x y H Q
inductive zpx (x y:V)(H:Hp)(Q:VK):Prop
 | mk (z:Str) (i:Int) (c:Nat) (hx:x=.str z) (hy:y=.int i) (hl:z.length<=Xz) (he:atI z.cps.toList i=some c) (q:Q (.str ⟨#[c]⟩) H):zpx x y H Q
def qz:IxR X (zob X.K):=zlM.imp λ_ _ _ _ ⟨p,xs,i,v,a,b,c,d,q⟩=>⟨p,xs,i,v,a,b,c,d,q⟩
def jg:IxR X (zpw X.K):=znI.imp λ_ _ _ _ ⟨p,xs,i,v,a,b,c,d,q⟩=>⟨p,xs,i,v,a,b,c,d,q⟩
def YH:IxR X zpx:=znJ.imp λ_ _ _ _ ⟨z,i,c,a,b,d,e,q⟩=>⟨z,i,c,a,b,d,e,q⟩
def ziF {K:XY}(hK:X.K=K):IxR X (zob K):=hK ▸ qz
inductive SB (x:V)(Q:Bool->Hp->Prop)(H:Hp):Prop
 | mk (k:Bool) (h:x=.bl k) (q:Q k H):SB x Q H
def zoc (t:TE):TT:=fun σ H Q=>t σ H λx H'=>SB x Q H'
def zQ {op:CmpOp}{r:R2}{a b:Expr}{ta tb:TE}{pos:Pos}(ho:OpR X (VN op) r)(ha:PE X a ta)(hb:PE X b tb)(hm:PV op b=false):PT X (.Compare a [op] [b] pos) (zoc (tOp r ta tb)):=by
 intro bQ s σ H Q I h;refine wpAny_isTrue_Compare1 (thn (ha bQ s σ H _ I h) λv s1 ⟨x,H1,I1,r1,q1⟩=>thn (hb bQ s1 σ H1 _ I1 q1) λu s2 ⟨y,H2,I2,r2,q2⟩=>thn (ho bQ s2 σ H2 x y v u _ I2 r1 r2 q2) λc s3 ⟨z,H3,I3,r3,q3⟩=>?_) hm;obtain⟨k,rfl,q⟩:=q3;cases r3;exact VJ ⟨H3,I3,q⟩
inductive zod (K:XY)(xs:AF)(H:Hp)(Q:VK):Prop
 | mk (p:Addr) (ys:AF) (hx:xs=[.ref p]) (hq:SqL K H p ys\/SqT K H p ys) (q:Q (.int ys.length) H):zod K xs H Q
def zJ:jw X (.builtin "len") (zod X.K):=λbQ s σ H xs us Q I r ⟨p,ys,a,b,q⟩=>zed bQ s σ H xs us Q I r ⟨p,ys,a,b,q⟩
def Yl {K:XY}(hK:X.K=K):jw X (.builtin "len") (zod K):=hK ▸ zJ
inductive zpy (x:V)(vs:AF)(H:Hp)(Q:VK):Prop
 | mk (l:Addr) (xs:AF) (y:V) (hx:x=.ref l) (hv:vs=[y]) (hl:H l=some (.lst xs)) (hz:xs.length<Xz) (q:Q .non (upd H l (.lst (xs++[y])))):zpy x vs H Q
def jd:MtM X "list.append" zpy:=λbQ s σ H x xs v us Q I rx rv ⟨l,ys,y,a,b,c,d,q⟩=>zaB bQ s σ H x xs v us Q I rx rv ⟨l,ys,y,a,b,c,d,q⟩
def zdy {ts:List Bool}{ws:AF}{its:List X9}(ew:ts.map V.bl=ws)(r:Vals ws its):its=ts.map SU:=by
 induction r generalizing ts with
 | nil =>
  cases ts with
  | nil=>rfl
  | cons a b=>cases ew
 | cons r1 r2 ih =>
  cases ts with
  | nil=>cases ew
  | cons a b =>
   rw[Xf]at ew;obtain⟨e1,e2⟩:=List.cons.inj ew;subst e1;cases r1;rw[ih e2];rfl
def eqT (y:Bool):X9->Bool
 | .bool a=>a==y
 | _=>false
def ziG:MtM X "list.count" (λx vs H Q=>∃(l:Addr) (ts:List Bool) (y:Bool),x=.ref l/\vs=[.bl y]/\H l=some (.lst (ts.map V.bl))/\Q (.int ((ts.countP λt=>t==y:Nat):Int)) H):=by
 intro bQ s σ H x vs v us Q I rx rv h;obtain⟨l,ts,y,rfl,rfl,hH,q⟩:=h;cases rx;obtain⟨u,rfl,r1⟩:=rv.one;cases r1;obtain⟨z,its,n,r,hl,e⟩:=I.lstM hH;have ei:=zdy rfl r;subst ei;refine SR F.slot_list_count ⟨_,e,rfl⟩ F.entry_list_count (N4 _ _) (PH l (ts.map SU).toArray n none #[] (.bool y) (eqT y)) ⟨e,λw hw=>?_,?_⟩
 .obtain⟨a,_,rfl⟩:=XO.mp (Tr.mpr hw);exact QR a y
 .refine⟨.int _,H,I.tok _,⟨_,rfl⟩,?_⟩;show Q (.int (((ts.map SU).countP (eqT y):Nat):Int)) H;rw[SW];exact q
def ziH:MtM X "list.index" (λx vs H Q=>∃(l:Addr) (ts:List Bool) (y:Bool) (j:Nat),x=.ref l/\vs=[.bl y]/\H l=some (.lst (ts.map V.bl))/\ts[j]?=some y/\(∀m<j,ts[m]?=some (!y))/\j<=1000/\Q (.int (j:Nat)) H):=by
 intro bQ s σ H x vs v us Q I rx rv h;obtain⟨l,ts,y,j,rfl,rfl,hH,hj,hm,js,q⟩:=h;cases rx;obtain⟨u,rfl,r1⟩:=rv.one;cases r1;obtain⟨z,its,n,r,hl,e⟩:=I.lstM hH;have ei:=zdy rfl r;subst ei;obtain⟨h1,h2⟩:=XW.mp hj;refine SR F.slot_list_index ⟨_,e,rfl⟩ F.entry_list_index (F.args_list_index_2 _ _) (PySem.SeqAt.list_indexAt l (ts.map SU).toArray n none #[] (.bool y) (eqT y) j (by simpa using h1) (by lia) ?_ ?_) ⟨e,λw hw=>?_,?_⟩
 .simp[eqT,h2]
 .intro m hm1 hm2;obtain⟨a1,a2⟩:=XW.mp (hm m hm2);simp[eqT,a2]
 .obtain⟨a,_,rfl⟩:=XO.mp (Tr.mpr hw);exact QR a y
 .exact⟨.int _,H,I.tok _,⟨_,rfl⟩,q⟩
end
def xeT (X:Cx)(bQ:List (Addr×Obj))(EX:St->XK):X9->X8->Prop:=λy s'=>∃ σ1 H1 s1,Inv X bQ σ1 H1 s1/\CXE X.prog X.w X.stack H1 s1 (EX σ1) y s'
def ziI (X:Cx)(bQ:List (Addr×Obj))(EX:St->XK):Cx:={ X with pn:=X.pn++bQ,xe:=xeT X bQ EX }
section
variable {X:Cx}{bQ ps:List (Addr×Obj)}{σ:St}{H:Hp}{s:X8}{EX:St->XK}
def Inv.intry (I:Inv X bQ σ H s)(EX:St->XK):Inv (ziI X bQ EX) [] σ H s :=
 ⟨⟨I.ok.mod,I.ok.kind,I.ok.glob,I.ok.blt,I.ok.above,I.ok.inj,I.ok.has,I.ok.cab,I.ok.hd,I.ok.frames,I.ok.stk,I.ok.exf,I.ok.bs,I.ok.bsz,I.ok.noex,I.ok.exfs,I.ok.funs,I.ok.frf⟩,I.os,I.bare,I.base,I.loc,I.cell,I.free,I.freeC,(λp hp=>I.pin p (by rw[W6]at hp;exact hp)),I.hok,I.len⟩
def Inv.untry (I:Inv (ziI X bQ EX) ps σ H s):Inv X bQ σ H s :=
 ⟨⟨I.ok.mod,I.ok.kind,I.ok.glob,I.ok.blt,I.ok.above,I.ok.inj,I.ok.has,I.ok.cab,I.ok.hd,I.ok.frames,I.ok.stk,I.ok.exf,I.ok.bs,I.ok.bsz,I.ok.noex,I.ok.exfs,I.ok.funs,I.ok.frf⟩,I.os,I.bare,I.base,I.loc,I.cell,I.free,I.freeC,(λp hp=>I.pin p (Xi _ hp)),I.hok,I.len⟩
def zoe (sp:Sp)(EX:St->XK)(t:TA):TE:=fun σ H Q=>t σ H λvs H1=>sp vs H1 Q (EX σ)
def zfs {k:Nat}{f:Addr}{fd:Xc}{pm:AE}{sp:Sp}{x:Str}{p pos:Pos}{e:Expr}{es:List Expr}{t:TA}(F:ql X.prog X.w X.K X.mg X.base (CXE X.prog X.w) k f fd pm sp)(hr:JG k X.A)(hg:Gl (ziI X bQ EX) x)(hm:X.mg x=some (.ref f))(hk:Tu X.K (.ref f)=true)(hb:Binds X.K fd pm [])
  (ha:PA (ziI X bQ EX) (e::es) t) (hdb:(x==("__debug__":Str))=false:=by decide) (he:WR (e::es) X.env=(false,eval e X.env)::WR es X.env:=by rfl) (hpl:(Tx pos (WR es X.env)).any (·.1)=false:=by rfl) :
  PE (ziI X bQ EX) (.Call (.Name x p) (e::es) [] pos) (zoe sp EX t):=by
 intro ps s σ H Q I h;refine TX (QB I hg hm ?_ hdb);refine PySem.W.callWith_K (h₀:=X.base) I.ok.mod.kin hk (thn (ha pos ps s σ H _ I h) λus s1 ⟨vs,H1,I1,r,q⟩=>⟨I1.kIn,?_⟩) he hpl;have hlen:us.length=pm.length:=by rw[<- r.length];exact F.len _ _ _ _ q
 have bt:=hb s1 us I1.kIn (by rw[W6];exact hlen);rw[W6]at bt;refine Pg (UI (F.run X.A X.stack s1 H1 ⟨us,[]⟩ us vs _ _ hr I1.env0 bt r q) λres s' hq=>?_);cases res with
 | error y=>exact⟨σ,H1,s1,I1.untry,hq⟩
 | ok fl =>
  cases fl with
  | ret u=>exact I1.after hq
  | next=>exact UR hq
  | brk=>exact UR hq
  | cont=>exact UR hq
def zpz (K:XY)(S:Addr)(j:Nat)(tb:(St->XK)->TS)(ts:TS):TS:=λD σ H =>
 tb (fun σ1 c _ H2=>∃C,c=.ref C/\Vl K C (.ref S)=some true/\∀e,H2 e=none ->
  ts { nx:=fun σ3 H3=>D.nx (σ3.set j none) H3,rt:=D.rt,bk:=fun σ3 H3=>D.bk (σ3.set j none) H3,ct:=fun σ3 H3=>D.ct (σ3.set j none) H3 } (σ1.set j (some (.ref e))) (upd H2 e (exO e C))) D σ H
def zl9 {j:Nat}{n xS:Str}{S:Addr}{tb:(St->XK)->TS}{ts:TS}{body:List Stmt}{sp0 hp pos:Pos}{b0:Stmt}{suite:List Stmt}
  (hst:X.stack=X.env::X.outer) (hfr:X.env.frame=some X.env.locals)
  (hN:X.N.Nodup) (hj:X.N[j]?=some n) (hl:X.env.scope.names.lookup n=some .local) (gS:Gl X xS) (O:qv X.K X.mg xS S)
  (hb:∀bQ EX,PSs (ziI X bQ EX) body (tb EX)) (hs:∀e,PSs (markX X e) (b0::suite) ts) (hdS:(xS==("__debug__":Str))=false:=by decide) :
  PS X (.Try body [.ExceptHandler (some (.Name xS sp0)) (some n) (b0::suite) hp] [] [] pos) (zpz X.K S j tb ts):=by
 intro bQ s σ H D I h;refine wpAny_Try_except (WE (hb bQ _ [] s σ H D (I.intry _) h) (λf s1 q=>?_) λy s' q=>?_)
 .cases f with
  | next =>
   obtain⟨σ1,H1,I1,q⟩:=q;exact RM ⟨σ1,H1,I1.untry,q⟩
  | brk =>
   obtain⟨σ1,H1,I1,q⟩:=q;exact⟨σ1,H1,I1.untry,q⟩
  | cont =>
   obtain⟨σ1,H1,I1,q⟩:=q;exact⟨σ1,H1,I1.untry,q⟩
  | ret u =>
   obtain⟨v,σ1,H1,I1,r,q⟩:=q;exact⟨v,σ1,H1,I1.untry,r,q⟩
 .obtain⟨σ1,H1,s1,I1,e,C,a0,B,H',rfl,Fl,C',ec,hmr,hsu⟩:=q;cases ec;have ff:=Fl.fly;rw[hst]at ff;refine wpAny_looks_onW (by rw[I1.ok.frames,hst]) hfr ff λh4 zpA up4=>?_;refine wpAny_landsW zpA λh5 zof up5=>?_;have up:=up4.trans up5;have I5:=Fl.caught I1 (h:=h5) (by rw[hst];exact zof) up;refine wpAny_handleBy_cons (codeAny_handlers_test (QB (X:=markX X e) (I5.mark e) gS O.g ?_ hdS)) (by intro z;cases z);obtain⟨bm,OS⟩:=zm2 I5.kIn O.q;obtain⟨oe,vs5,q1,q2,q3,_⟩:=zof.first;refine zlT OS q1 q2 (RF I5.kIn hmr) (codeAny_handlers_suite_as ?_);refine lands_againW zof λh6 zqr up6=>?_;have I6:=Fl.caught I1 (h:=h6) (by rw[hst];exact zqr) (up.trans up6);refine zbL (X:=markX X e) (I6.mark e) hN hj (.inl hl) (v:=.ref e) rfl (λs7 I7=>?_) (.inr hl);refine WE (hs e bQ s7 _ _ _ I7 (hsu e Fl.free)) (λfl s8 q8=>?_) λ_ _ z=>z.elim;cases fl with
  | next =>
   obtain⟨σ8,H8,I8,q8⟩:=q8;exact(I8.unmark I.ok).nameGoes hN hj hl λs9 I9=>⟨_,H8,I9,q8⟩
  | brk =>
   obtain⟨σ8,H8,I8,q8⟩:=q8;exact(I8.unmark I.ok).nameGoes hN hj hl λs9 I9=>⟨_,H8,I9,q8⟩
  | cont =>
   obtain⟨σ8,H8,I8,q8⟩:=q8;exact(I8.unmark I.ok).nameGoes hN hj hl λs9 I9=>⟨_,H8,I9,q8⟩
  | ret u =>
   obtain⟨v8,σ8,H8,I8,r8,q8⟩:=q8;exact(I8.unmark I.ok).nameGoes hN hj hl λs9 I9=>⟨v8,_,H8,I9,r8,q8⟩
end
section
variable {X:Cx}{k k0:Nat}{f:Addr}{fd:Xc}{ps:AE}{sp:Sp}{x:Str}{st:Stmt}{p pos:Pos}{e:Expr}{es:List Expr}{t:TA}
def pc0 (F:ql X.prog X.w X.K X.mg X.base CX0 k f fd ps sp)(hr:JG k0 X.A)(D:zu X.K X.mg x st ps f fd)(ha:PA X (e::es) t)(hk:k<=k0:=by decide)(hg:Gl X x:=by rfl)
  (hdb:(x==("__debug__":Str))=false:=by decide) (he:WR (e::es) X.env=(false,eval e X.env)::WR es X.env:=by rfl) (hpl:(Tx pos (WR es X.env)).any (·.1)=false:=by rfl) :
  PE X (.Call (.Name x p) (e::es) [] pos) (zhr sp [] E0 t):=QD F (hr.mono hk) hg D.g D.F.kp D.b .nil zpf ha hdb he hpl
def pcX (F:ql X.prog X.w X.K X.mg X.base (CXE X.prog X.w) k f fd ps sp)(hr:JG k0 X.A)(D:zu X.K X.mg x st ps f fd)(ha:PA X (e::es) t)(hk:k<=k0:=by decide)(hg:Gl X x:=by rfl)
  (hdb:(x==("__debug__":Str))=false:=by decide) (he:WR (e::es) X.env=(false,eval e X.env)::WR es X.env:=by rfl) (hpl:(Tx pos (WR es X.env)).any (·.1)=false:=by rfl) :
  PE X (.Call (.Name x p) (e::es) [] pos) (zhr sp [] EF t):=QD F (hr.mono hk) hg D.g D.F.kp D.b .nil zpl ha hdb he hpl
def pcL {E:XK}(L:jC X E)(F:ql X.prog X.w X.K X.mg X.base (CXE X.prog X.w) k f fd ps sp)(hr:JG k0 X.A)(D:zu X.K X.mg x st ps f fd)(ha:PA X (e::es) t)(hk:k<=k0:=by decide)(hg:Gl X x:=by rfl)
  (hdb:(x==("__debug__":Str))=false:=by decide) (he:WR (e::es) X.env=(false,eval e X.env)::WR es X.env:=by rfl) (hpl:(Tx pos (WR es X.env)).any (·.1)=false:=by rfl) :
  PE X (.Call (.Name x p) (e::es) [] pos) (zhr sp [] E t):=QD F (hr.mono hk) hg D.g D.F.kp D.b .nil (jC.passes L) ha hdb he hpl
end
def Zf:0<=Xz:=by decide
def sz_1:1<=Xz:=by decide
def zbn:2<=Xz:=by decide
def ziJ:3<=Xz:=by decide
def zpB:6<=Xz:=by decide
def zog (tk tv:TE):TE:=fun σ H Q=>∀p,H p=none->tk σ (upd H p (.dT [])) λx H1=>tv σ H1 λy H2=>∃(b:Addr) (k:List Key),x=.ref b/\H2 b=some (.tup (k.map kV))/\H2 p=some (.dT [])/\Q (.ref p) (upd H2 p (.dT [(k,y)]))
def zkj {X:Cx}{pos:Pos}{k v:Expr}{tk tv:TE}(hu:X.A.units+1<U3)(hk:PE X k tk)(hv:PE X v tv):PE X (.Dict [some k] [v] pos) (zog tk tv):=by
 intro bQ s σ H Q I q;have hn:=I.hok.fresh (XU s.heap.objs.size);have I1:=I.laid (a:=s.heap.objs.size) (o:=.dT []) (h':=s.heap.push { cls:=.type "dict",data:=.dict #[] }) (t':=s.toks) (λ_ _ q=>X6 _ q) (XU _) (zjQ s.heap I.big);refine wpAny_Dict_any rfl rfl (by simp) (by show 1<=15;decide) (pairTrees_cons_walk (thn (hk bQ _ σ _ _ I1 (q _ hn)) λu s1 ⟨x,H1,I2,rx,q1⟩=>thn (hv bQ s1 σ H1 _ I2 q1) λr s2 ⟨y,H2,I3,ry,b,kk,ex,eb,ep,q2⟩=>pairTrees_nil_walk ?_));subst ex;cases (show u=WN b from rx);obtain⟨z,hd,xs,rel,dd⟩:=zm4 I3.hok ep;cases rel;unfold storeAll;simp only[List.forIn_cons,List.forIn_nil];refine ZB (ZB (wpAny_dictSet_heap (hsz:=W7 _) (show X.A.units<U3 by lia) (zaE I3.hok eb) dd λh' dd' hs=>?_));refine X4 (X4 ?_);obtain⟨qo,es,epp,hq,h2,h3,h4,_,h5⟩:=dd';refine⟨.ref s.heap.objs.size,upd H2 s.heap.objs.size (.dT [(kk,y)]),zej (ob:=.dT [(kk,y)]) I3 (by rw[ep];exact T1) hs ⟨qo,hq⟩ ⟨by show 1<=Xz;decide,hd,_,(KT.put (kvs:=[]) (xs:=[]) .nil kk eb ry).keeps λc ys ec=>?_,qo,es,epp,hq,h2,h3,h4,h5⟩,rfl,q2⟩;rw[zk (zdc ec ep (λz=>nomatch z))];exact ec
section
variable {M:OX}{A:WT}{E:X9->X8->Prop}{env:Env}{s:X8}
def zoh (M:OX)(A:WT)(E:X9->X8->Prop)(Q:X9->X8->Prop)(acc:X9)(ce:Env)(r:R7)(s':X8):Prop :=
 ∃m,s'.heap.Ns ce.locals m/\∀h' m',h'.Ns ce.locals m'->V5 ce.locals s'.heap h'->match r with
  | .ok _=>Q acc { s' with heap:=h' }
  | .error x=>Xy M A (passOn "comprehension.variables-let-go" x ce:Sem X9) (λ_ _=>False) E { s' with heap:=h' }
def zma {e:Expr}{scope:Va}{pos:Pos}{nacc fst:Sem X9}{g:PM}{gs:List PM}{cl:List (Str×Addr)}{Q:X9->X8->Prop}
  (hc:clausesOf e=g::gs) (hs:∀x,VI g.iter env x=pure x) (hcl:Rx scope env=pure cl)
  (hk:scope.kind=.function) (hn:∀x∈scope.names,x.2=.local->scope.names.lookup x.1=some .local)
  (h:Xy M A fst (λx s1=>Xy M A (NT x) (λit s2=>Xy M A nacc (λacc s3 =>
   Xy M A (Ru scope env.globals cl [] env.qual none .none (some env)) (λce s4 =>
    UX M A (.compStart e 0 it acc { ce with scope:=Vs scope env }) (zoh M A E Q acc { ce with scope:=Vs scope env }) s4) E s3) E s2) E s1) E s) :
  Xy M A (TN e scope env pos nacc false fst none) Q E s:=by
 unfold TN;rw[hcl,hc];refine ZB (WE h (λx s1 h1=>?_) λ_ _ z=>z);refine ZB (UH (ZB (RT (hs x) (ZB (W1 ?_)))));refine WE h1 (λit s2 h2=>?_) λ_ _ z=>z;refine wpAny_standIf (ZB (WE h2 (λacc s3 h3=>?_) λ_ _ z=>z));refine ZB (X4 (ZB (WE h3 (λce s4 h4=>?_) λ_ _ z=>z)));dsimp only;have own:∀x∈(scope.names.filter λy=>(y.2 == .local || y.2 == .cell)&&y.1 != (".0":Str)).reverse,x.2=.local->Env.kindOf { ce with scope:=Vs scope env } x.1=some .local :=
  λx hx hl=>Oi (hn x (XX.mp (List.mem_reverse.mp hx)).1 hl)
 refine W1 (ZB (S9 (W1 (wpAny_run (UI h4 λr s5 hr=>?_)))));obtain⟨m,hm,hr⟩:=hr;cases r with
 | ok f=>exact ZB (W1 (R3 (cenv:={ ce with scope:=Vs scope env }) hk _ s5 m own hm λh' m' hn sb=>X4 (hr h' m' hn sb)))
 | error x=>exact ZB (W1 (R3 (cenv:={ ce with scope:=Vs scope env }) hk _ s5 m own hm λh' m' hn sb=>WE (hr h' m' hn sb) (λ_ _ z=>z.elim) λ_ _ z=>z))
end
def ziK (x:X9)(scope:Va)(cl:List (Str×Addr))(C:Addr)(env:Env):N5 x (T9 scope cl C env)=N5 x env:=rfl
def zft {o:Obj}{ts:Array X9}{x:X9}(hd:o.data=.fields ts)(h3:ts[3]?=some x):TM (·.setIfInBounds 3 x) o=o:=by
 obtain⟨c,d,dat,sl⟩:=o;have hd':dat=.fields ts:=hd;subst hd';show (⟨c,d,.fields (ts.setIfInBounds 3 x),sl⟩:Obj)=⟨c,d,.fields ts,sl⟩;have:ts.setIfInBounds 3 x=ts:=by
  refine Array.ext_getElem? λi=>?_;rw[UM];split
  .rename_i z;subst z;rw[bw (VY.mp h3).1,h3]
  .rfl
 rw[this]
section
variable {M:OX}{A:WT}{Ex:X9->X8->Prop}{s:X8}
def zgE {base:Heap}{l:List Env}{e L:Addr}{cls a0:X9}{Q:Unit->X8->Prop}(R:NN base l e cls a0 L s.heap)
  (h:∀h',NN base l e cls a0 L h'->(∀b,h'.get? b=s.heap.get? b)->Q () { s with heap:=h' }):Xy M A (setFlight (.ref e) (some L)) Q Ex s:=by
 obtain⟨k1,k2,k3,oe,vs,T,oT,ts,he,hc,hd,h1,hn,hTe,hT,hdT,h3⟩:=R;have hsz:3<ts.size:=(VY.mp h3).1;unfold setFlight;refine ZB (wpAny_field he hd h1 ?_);rw[bw (show (WN T != US)=true from by simp)];refine Rp hT hdT hsz ?_;have same:∀b,(s.heap.update T (TM (·.setIfInBounds 3 (T2 L)))).get? b=s.heap.get? b:=λb=>by
  by_cases hb:b=T
  .subst hb;rw[We _ hT (Obj.isFreed_of_fields (Obj.data_mapFields hdT _)),hT,zft hdT h3]
  .exact Wa _ _ (Vm hb)
 refine h _ ⟨λb o q=>(same b).trans (k1 b o q),k2,k3.of_keeps λb o q _=>⟨o,(same b).trans q,rfl⟩,oe,vs,T,oT,ts,(same e).trans he,hc,hd,h1,hn,hTe,(same T).trans hT,hdT,h3⟩ same
end
theorem zkk {h h' B B':Heap}{C:Addr}(hs:∀b,b≠C->h'.get? b=h.get? b)(bs:∀b,b≠C->B'.get? b=B.get? b):∀{l:List Env},C ∉ frs l->h.FunFrames B l->h'.FunFrames B' l
 | [],_,_=>trivial
 | env::r,nf,⟨k,⟨L,o,e,n,q,d⟩,t⟩=>by
  have nL:L≠C:=λz=>nf (U5.mpr ⟨env,X2,by rw[e,z]⟩);exact⟨k,⟨L,o,e,(bs L nL).trans n,(hs L nL).trans q,d⟩,zkk hs bs (λz=>nf (by
   obtain⟨v,hv,ev⟩:=U5.mp z;exact U5.mpr ⟨v,XV _ hv,ev⟩)) t⟩
section
variable {X:Cx}{bQ ps:List (Addr×Obj)}{σ σ1:St}{H H' H1 H2:Hp}{s s1 s2 s':X8}{e C Cc:Addr}{a0:X9}{B:Heap}{E:XK}
def jC.held (L:jC X E)(J:Inv X bQ σ H s)(R:NN B X.stack e (.ref C) a0 X.env.locals s'.heap)(os:s'.os=s.os)(bare:SC s'.gens)(un:Un (frs X.stack) [] H H' s.heap s'.heap)(ok:HOk X.prog X.w H' B)
  (kB:∀b o,s.heap.get? b=some o->H b=none->b ∉ frs X.stack->B.get? b=some o) (tB:∀b o,s.heap.get? b=some o->b ∉ frs X.stack->∃o',B.get? b=some o') (new:s.heap.get? e=none) (free:H' e=none) (hE:E (.ref C) none H') :
  X.xe (.ref e) s':=by
 rw[L.xe];show Xy _ _ (leaving X.env (.ref e)) _ _ s';unfold leaving;refine ZB (wpAny_noteFrame_againW L.fr R.2.2.2 ?_);refine wpAny_landsW R λh4 f4 up=>?_;obtain⟨g1,g2,g3,g4⟩:=f4;rw[L.stk]at g3;exact⟨e,C,a0,B,H',rfl,J.flies L.ex ⟨g1,g2,g3.2.2,g4⟩ up os bare un ok kB tB new free,hE⟩
def Inv.stkIn (I:Inv X bQ σ H s){b:Addr}(hb:b∈frs X.stack):b<s.heap.objs.size:=by
 rcases XQ.mp (I.stkSub b hb) with r | r
 .rw[r];exact I.lt
 .obtain⟨_,o,q,_⟩:=I.ok.funs.mem r;obtain⟨o',q'⟩:=I.base.there b o q λz=>I.ok.exfs b z r;exact XJ q'
variable {N:AE}{scope:Va}{cl:List (Str×Addr)}{fp:List Addr}{x acc:X9}{Q:X9->X8->Prop}{E':X9->X8->Prop}
def zfu (L:jC X E)(I2:Inv X bQ σ H2 s2)(f2:∀b∈fp,YX X bQ H2 b)(hC:s2.heap.objs.size<=C)(I1:Inv (jX X N scope cl C fp bQ s2 H2) ps σ1 H1 s1)(h:CXE X.prog X.w X.stack H1 s1 E x s') :
  Xy (Xo X.prog X.w) X.A (N5 x (T9 scope cl C X.env)) (λ_ s''=>zoh (Xo X.prog X.w) X.A X.xe Q acc (T9 scope cl C X.env) (.error x) s'') E' s':=by
 obtain⟨e,Cc,a0,B,H',rfl,F,hE⟩:=h;have ff:=F.fly;rw[ziK];rw[L.stk]at ff;refine wpAny_looks_onW (by rw[I2.ok.frames,L.stk]) L.fr ff λh' hh up=>?_;rw[<- L.stk]at hh;obtain⟨m,⟨o1,es,ep,ho,hd,hk,hf⟩,_⟩:=I1.loc;have ho:s1.heap.get? C=some o1:=ho;have nst:C ∉ frs X.stack:=λz=>V8 _ (Xu (I2.stkIn z) hC);have fC:H1 C=none:=I1.free;have oC:B.get? C=some o1:=F.kB C o1 ho fC nst;have eC:e≠C:=by
  rintro rfl;rw[F.new]at ho;cases ho
 obtain⟨k1,k2,k3,oe,vs,T,oT,ts,he,hc,hdd,h1,hn,hTe,hT,hdT,h3⟩:=hh;have TC:T≠C:=by
  rintro rfl;rw[hn]at oC;cases oC
 refine⟨m,⟨o1,es,ep,k1 C o1 oC,hd,hk,hf⟩,λh'' m' hn' sb=>?_⟩;obtain⟨o2,es2,ep2,q2,d2,_,_⟩:=hn';have q2:h''.get? C=some o2:=q2;have sb:V5 C h' h'':=sb;have fr2:o2.isFreed=false:=(Heap.get?_some_iff.mp q2).2;have gB:(B.update C λ_=>o2).get? C=some o2:=We (λ_=>o2) oC fr2;have nB:∀b,b≠C->(B.update C λ_=>o2).get? b=B.get? b:=λb hb=>Wa _ _ (Vm hb);have gS:(s1.heap.update C λ_=>o2).get? C=some o2:=We (λ_=>o2) ho fr2;have nS:∀b,b≠C->(s1.heap.update C λ_=>o2).get? b=s1.heap.get? b:=λb hb=>Wa _ _ (Vm hb);have hh2:NN (B.update C λ_=>o2) X.stack e (.ref Cc) a0 X.env.locals h'':=by
  refine⟨λb o q=>?_,(nB e eC).trans k2,zkk sb.2 nB nst k3,oe,vs,T,oT,ts,(sb.2 e eC).trans he,hc,hdd,h1,(nB T TC).trans hn,hTe,(sb.2 T TC).trans hT,hdT,h3⟩;by_cases hb:b=C
  .rw[hb]at q ⊢;rw[gB]at q;rw[q2,q]
  .exact(sb.2 b hb).trans (k1 b o ((nB b hb).symm.trans q))
 show Xy _ _ (PySem.passOn "comprehension.variables-let-go" (.ref e) (T9 scope cl C X.env):Sem X9) _ _ _;unfold PySem.passOn;refine ZB (wpAny_field ((sb.2 e eC).trans he) hdd h1 ?_);rw[bq (show ¬ ((WN T==US)=true) from by simp)];have fl:(T9 scope cl C X.env).frame=some X.env.locals:=L.fr;rw[fl];refine ZB (zgE hh2 λh3' hh3 same=>Nw ?_);have same:∀b,h3'.get? b=h''.get? b:=same;have J:Inv X bQ σ H1 { s1 with heap:=s1.heap.update C λ_=>o2 }:=I2.call' (s':={ s1 with heap:=s1.heap.update C λ_=>o2 }) (ch:=fp) I1.os (Un.but I1.base hC (.update ..)) (HOk.but I1.hok fC (.update ..)) I1.bare λb hb=>⟨(f2 b hb).2.2.2.1,(f2 b hb).2.1,(f2 b hb).2.2.2.2.1,(f2 b hb).2.2.2.2.2⟩;have H'C:H' C=none:=F.un.free C o1 ho fC λz=>nomatch z
 have inB:∀b o,b≠C->B.get? b=some o->h3'.get? b=some o:=λb o hb q=>(same b).trans ((sb.2 b hb).trans (k1 b o q));have inF:∀b,b∈frs X.stack->∀(o:Obj) sl,s'.heap.get? b=some { o with slots:=sl }->∃sl',h3'.get? b=some { o with slots:=sl' }:=λb hb o sl q=>by
  obtain⟨_,o',q',nf⟩:=F.fly.2.2.1.mem hb;rw[q]at q';cases q';obtain⟨sl2,q3⟩:=up b _ q nf;exact⟨sl2,(same b).trans ((sb.2 b λz=>nst (z ▸ hb)).trans q3)⟩
 refine L.held (s':={ s' with heap:=h3' }) J hh3 F.os F.bare ⟨λb o q n hb _=>?_,λb o q n hb _=>?_,λb o q n _=>?_,λb o q _=>?_,F.un.tups,F.un.frzs,F.un.tbls⟩ (HOk.but F.ok H'C (.update ..)) (λb o q n hb=>?_) (λb o q hb=>?_) ((nS e eC).trans F.new) F.free hE
 .by_cases z:b=C
  .rw[z]at q ⊢;have q:(s1.heap.update C λ_=>o2).get? C=some o:=q;rw[gS]at q;exact(same C).trans (q2.trans q)
  .exact inB b o z (F.kB b o ((nS b z).symm.trans q) n hb)
 .have z:b≠C:=λz=>nst (z ▸ hb);obtain⟨sl,q1⟩:=F.un.slot b o ((nS b z).symm.trans q) n hb λz=>nomatch z
  exact inF b hb o sl q1
 .by_cases z:b=C
  .rw[z];exact H'C
  .exact F.un.free b o ((nS b z).symm.trans q) n λz=>nomatch z
 .by_cases z:b=C
  .rw[z];exact⟨o2,(same C).trans q2⟩
  .by_cases hb:b∈frs X.stack
   .obtain⟨_,o',q',nf⟩:=F.fly.2.2.1.mem hb;obtain⟨sl,q3⟩:=inF b hb o' o'.slots q';exact⟨_,q3⟩
   .obtain⟨o',q'⟩:=F.tB b o ((nS b z).symm.trans q) hb;exact⟨o',inB b o' z q'⟩
 .by_cases z:b=C
  .rw[z]at q ⊢;have q:(s1.heap.update C λ_=>o2).get? C=some o:=q;rw[gS]at q;exact gB.trans q
  .exact(nB b z).trans (F.kB b o ((nS b z).symm.trans q) n hb)
 .by_cases z:b=C
  .rw[z];exact⟨o2,gB⟩
  .obtain⟨o',q'⟩:=F.tB b o ((nS b z).symm.trans q) hb;exact⟨o',(nB b z).trans q'⟩
end
def zgF (X:Cx)(N:AE)(scope:Va)(cl:List (Str×Addr))(C:Addr)(fp:List Addr)(bQ:List (Addr×Obj))(s:X8)(H:Hp)(E:XK)(x:X9)(s':X8):Prop :=
 ∃(ps:List (Addr×Obj)) (σ1:St) (H1:Hp) (s1:X8),Inv (jX X N scope cl C fp bQ s H) ps σ1 H1 s1/\CXE X.prog X.w X.stack H1 s1 E x s'
abbrev yx (X:Cx)(N:AE)(scope:Va)(cl:List (Str×Addr))(C:Addr)(fp:List Addr)(bQ:List (Addr×Obj))(s:X8)(H:Hp)(E:XK):Cx:=(jX X N scope cl C fp bQ s H).wish (zgF X N scope cl C fp bQ s H E)
def Q0 {X:Cx}{N:AE}{scope:Va}{cl:List (Str×Addr)}{C:Addr}{fp:List Addr}{bQ:List (Addr×Obj)}{s:X8}{H:Hp}{E:XK}:Passes (CXE X.prog X.w) (yx X N scope cl C fp bQ s H E) E :=
 λps σ1 H1 s1 x s' I1 z=>⟨ps,σ1,H1,s1,I1.unwish,z⟩
section
variable {X:Cx}{tg iter elt:Expr}{ifs:List Expr}{scope:Va}{pos:Pos}{N:AE}{src:List (Option Nat)}{cl:List (Str×Addr)}{wi:TI}{g:TG}{tc:TT}{te:TE}
def zkl {E:XK}(L:jC X E)(ok:zZ X N src scope cl)(hcalm:X.calm=true)(hi:PI X tg iter wi)
  (hg:∀C fp bQ s H,PG (yx X N scope cl C fp bQ s H E) tg g) (hc:∀C fp bQ s H,zbR (yx X N scope cl C fp bQ s H E) ifs tc) (he:∀C fp bQ s H,PE (yx X N scope cl C fp bQ s H E) elt te)
  (hs:∀x,VI iter X.env x=pure x:=by intro _;rfl):PE X (.ListComp elt [⟨tg,iter,ifs,0⟩] scope pos) (zbS wi src g tc te):=by
 intro bQ s σ H Q I h;rw[eval_ListComp];refine zma rfl hs ok.clos ok.kind ok.names (thn (hi bQ s σ H _ I h) λxv s1 h1=>thn h1 λitv s2 h2=>?_);obtain⟨it,fp,tn,J,H2,e,I2,T,st2,f2,q2⟩:=h2;subst e;refine VX (RP ok.nocell (by intro y hy;simp at hy) (λh₁ hns₁ hsb₁=>?_) ok.kind);dsimp only at hns₁ hsb₁ ⊢;obtain⟨hC,k,hD⟩:=zjF hsb₁;exact zbT hC hcalm (λ⟨ps,σ1,H1,s1,I1,z⟩=>zfu L I2 f2 (by rw[hC];exact V9 _) I1 z) (hg _ _ _ _ _) (hc _ _ _ _ _) (he _ _ _ _ _) I2 T st2 f2 (q2 _ (I2.hok.fresh (XU _))) k (λx c z=>.inl (ok.sub x c z)) (λho=>(Qe ok I2 f2 ho hC k hD hns₁).wish _) λf _ _ _ I4 qn=>let ⟨m,hm,g⟩:=zjE (f:=f) hC I2 f2 I4 qn;⟨m,hm,λh' _ _ sb=>g h' sb⟩
end
section
variable {M:OX}{A:WT}{E:X9->X8->Prop}{env:Env}{s:X8}
def zoi (M:OX)(A:WT)(E:X9->X8->Prop)(u:X9->Sem Unit)(Q:X9->X8->Prop)(acc:X9)(ce:Env)(r:R7)(s':X8):Prop :=
 match r with
 | .ok _=>Xy M A (u acc) (λ_ s''=>∃m,s''.heap.Ns ce.locals m/\∀h',V5 ce.locals s''.heap h'->Q .none { s'' with heap:=h' }) E s'
 | .error x=>zoh M A E Q acc ce (.error x) s'
def zkm {e:Expr}{scope:Va}{pos:Pos}{nacc fst:Sem X9}{g:PM}{gs:List PM}{cl:List (Str×Addr)}{u:X9->Sem Unit}{Q:X9->X8->Prop}
  (hc:clausesOf e=g::gs) (hs:∀x,VI g.iter env x=pure x) (hcl:Rx scope env=pure cl)
  (hk:scope.kind=.function) (hn:∀x∈scope.names,x.2=.local->scope.names.lookup x.1=some .local)
  (h:Xy M A fst (λx s1=>Xy M A (NT x) (λit s2=>Xy M A nacc (λacc s3 =>
   Xy M A (Ru scope env.globals cl [] env.qual none .none (some env)) (λce s4 =>
    UX M A (.compStart e 0 it acc { ce with scope:=Vs scope env }) (zoi M A E u Q acc { ce with scope:=Vs scope env }) s4) E s3) E s2) E s1) E s) :
  Xy M A (TN e scope env pos nacc false fst (some u)) Q E s:=by
 unfold TN;rw[hcl,hc];refine ZB (WE h (λx s1 h1=>?_) λ_ _ z=>z);refine ZB (UH (ZB (RT (hs x) (ZB (W1 ?_)))));refine WE h1 (λit s2 h2=>?_) λ_ _ z=>z;refine wpAny_standIf (ZB (WE h2 (λacc s3 h3=>?_) λ_ _ z=>z));refine ZB (X4 (ZB (WE h3 (λce s4 h4=>?_) λ_ _ z=>z)));dsimp only;have own:∀x∈(scope.names.filter λy=>(y.2 == .local || y.2 == .cell)&&y.1 != (".0":Str)).reverse,x.2=.local->Env.kindOf { ce with scope:=Vs scope env } x.1=some .local :=
  λx hx hl=>Oi (hn x (XX.mp (List.mem_reverse.mp hx)).1 hl)
 refine W1 (ZB (S9 (W1 (wpAny_run (UI h4 λr s5 hr=>?_)))));cases r with
 | ok f =>
  refine ZB (UQ (ZB (W1 (WE hr (λ_ s6 hr6=>?_) λ_ _ z=>z))));obtain⟨m,hm,hr6⟩:=hr6;refine ZB (R3 (cenv:={ ce with scope:=Vs scope env }) hk _ s6 m (λx hx hl=>?_) hm λh' m' _ sb=>X4 (hr6 h' sb));rcases XR.mp hx with z | z
  .exact own x (Um z) hl
  .exact own x (Wq z) hl
 | error x =>
  obtain⟨m,hm,hr⟩:=hr;exact ZB (W1 (R3 (cenv:={ ce with scope:=Vs scope env }) hk _ s5 m own hm λh' m' hn sb=>WE (hr h' m' hn sb) (λ_ _ z=>z.elim) λ_ _ z=>z))
end
section
variable {X:Cx}{tg iter elt:Expr}{ifs:List Expr}{scope:Va}{pos:Pos}{N:AE}{src:List (Option Nat)}{cl:List (Str×Addr)}{wi:TI}{g:TG}{tc:TT}{te:TE}
def zkn {i:Nat}{x:Str}{xpos spos:Pos}{E:XK}(hN:X.N.Nodup)(hix:X.N[i]?=some x)(hlx:X.env.scope.names.lookup x=some .local)(L:jC X E)(ok:zZ X N src scope cl)(hcalm:X.calm=true)(hi:PI X tg iter wi)
  (hg:∀C fp bQ s H,PG (yx X N scope cl C fp bQ s H E) tg g) (hc:∀C fp bQ s H,zbR (yx X N scope cl C fp bQ s H E) ifs tc) (he:∀C fp bQ s H,PE (yx X N scope cl C fp bQ s H E) elt te)
  (hs:∀x,VI iter X.env x=pure x:=by intro _;rfl) (hsw:Py (.ListComp elt [⟨tg,iter,ifs,0⟩] scope pos) (some (.Name x xpos)) spos.line X.env=pure true:=by rfl) :
  PS X (.Assign [.Name x xpos] (.ListComp elt [⟨tg,iter,ifs,0⟩] scope pos) spos) (zlG (zbS wi src g tc te) (yr i)):=by
 intro bQ s σ H D I h;rw[OM _ _ _ _ hsw];refine ZB (UH (ZB ?_));unfold evalThenUse;refine ZB (WE (Q:=λ_ s''=>∃ σ' H',Inv X bQ σ' H' s''/\D.nx σ' H') ?_ (λ_ s'' ⟨σ',H',I',q'⟩=>X4 (X4 ⟨σ',H',I',q'⟩)) λ_ _ z=>z);refine zkm (u:=OE (.Name x xpos) X.env) rfl hs ok.clos ok.kind ok.names (thn (hi bQ s σ H _ I h) λxv s1 h1=>thn h1 λitv s2 h2=>?_);obtain⟨it,fp,tn,J,H2,e,I2,T,st2,f2,q2⟩:=h2;subst e;refine VX (RP ok.nocell (by intro y hy;simp at hy) (λh₁ hns₁ hsb₁=>?_) ok.kind);dsimp only at hns₁ hsb₁ ⊢;generalize hP:s2.heap.push { cls:=.type "list",dict:=none,data:=.seq ([]:List X9).toArray }=P2 at hns₁ hsb₁ ⊢;have hC:P2.objs.size=s2.heap.objs.size+1:=by rw[<- hP,Vu]
 have k:∀b u,s2.heap.get? b=some u->h₁.get? b=some u:=λb u e=>by
  have lt:=XJ e;exact(hsb₁.2 b (by rw[hC];exact Xk (Wv lt))).trans (X6 _ (hP ▸ X6 _ e))
 have hD:h₁.get? s2.heap.objs.size=some { cls:=.type "list",data:=.seq #[] }:=(hsb₁.2 _ (by rw[hC];exact(Vo _).symm)).trans (X6 _ (hP ▸ Xe _ rfl));have ho:∀b∈fp,∃o,s2.heap.get? b=some o:=λb hb=>let ⟨o,e,_⟩:=T.obj 0 _ st2 b hb;⟨o,e⟩
 obtain⟨W,⟨m0,w0⟩,turn⟩:=q2 s2.heap.objs.size (I2.hok.fresh (XU _));have I0:=(Qe (tk:=s2.toks+([]:List (Str×X9)).length) ok I2 f2 ho hC k hD hns₁).wish (zgF X N scope cl P2.objs.size fp bQ s2 H2 E);have st0:tn 0 h₁:=T.keep 0 _ _ st2 λb _ o e=>k b o e;have fr0:∀b∈fp,upd H2 s2.heap.objs.size (.lst []) b=none:=λb hb=>by
  obtain⟨o,e⟩:=ho b hb;rw[zk (Xk (XJ e))];exact(f2 b hb).1
 have stat:∀{H':Hp},(∀b∈fp,H' b=none)->∀b∈fp,YX (yx X N scope cl P2.objs.size fp bQ s2 H2 E) [] H' b:=λ{H'} hn b hb=>by
  obtain⟨o,e⟩:=ho b hb;have lt:=XJ e;refine⟨hn b hb,?_,λz=>(XQ.mp (I2.stkSub b z)).elim (f2 b hb).2.1 (f2 b hb).2.2.1,.inl hb,λx c z=>(f2 b hb).2.2.2.2.1 x c (ok.sub x c z),λp hp=>?_⟩
  .show b≠P2.objs.size;rw[hC];exact Xk (Wv lt)
  .have hp':p∈X.pn++bQ:=by
    have:p∈(X.pn++bQ)++[]:=hp;simpa using this
   exact(f2 b hb).2.2.2.2.2 p hp'
 have out:∀{x':X9} {s':X8},zgF X N scope cl P2.objs.size fp bQ s2 H2 E x' s'->notedBy (Xo X.prog X.w) X.A (T9 scope cl P2.objs.size X.env) (λx' s'=>zoi (Xo X.prog X.w) X.A X.xe (OE (.Name x xpos) X.env) (λ_ s''=>∃ σ' H',Inv X bQ σ' H' s''/\D.nx σ' H') (.ref s2.heap.objs.size) (T9 scope cl P2.objs.size X.env) (.error x') s') x' s':=λ{x' s'} ⟨ps,σ1,H1,s1,I1,z⟩=>zfu (Q:=λ_ s''=>∃ σ' H',Inv X bQ σ' H' s''/\D.nx σ' H') (acc:=.ref s2.heap.objs.size) L I2 f2 (by rw[hC];exact V9 _) I1 z;have loop:∀s₃:X8,s₃={ s2 with heap:=h₁,toks:=s2.toks+([]:List (Str×X9)).length } ->
   UX (Xo X.prog X.w) X.A (.compLoop (.ListComp elt [⟨tg,iter,ifs,0⟩] scope pos) 0 (.ref it) (.ref s2.heap.objs.size) (T9 scope cl P2.objs.size X.env))
    (zoi (Xo X.prog X.w) X.A X.xe (OE (.Name x xpos) X.env) (λ_ s''=>∃ σ' H',Inv X bQ σ' H' s''/\D.nx σ' H') (.ref s2.heap.objs.size) (T9 scope cl P2.objs.size X.env)) s₃:=by
  rintro s₃ rfl;refine codeAny_loop rfl (λn s'=>∃i σ' H',Inv (yx X N scope cl P2.objs.size fp bQ s2 H2 E) [] σ' H' s'/\tn i s'.heap/\(∀b∈fp,H' b=none)/\W i n σ' H') ?_ m0 ⟨0,_,_,I0,st0,fr0,w0⟩;rintro n s3 ⟨i,σ3,H3,I3,st3,fr3,w3⟩;show Xy _ X.A ((compTurn (.ListComp elt [⟨tg,iter,ifs,0⟩] scope pos) 0 (.ref it) (.ref s2.heap.objs.size) (T9 scope cl P2.objs.size X.env)).onRaise (λx=>do N5 x (T9 scope cl P2.objs.size X.env);theTreesLotGoes x)) _ _ s3;refine wpAny_noted ?_;rw[compTurn_list];rcases turn i n σ3 H3 w3 with ⟨stop,qn⟩ | ⟨go,N',hN,step⟩
  .refine ZB (UH (ZB (thn (T.done (yx X N scope cl P2.objs.size fp bQ s2 H2 E) rfl rfl rfl hcalm i [] s3 σ3 H3 _ I3 (stat fr3) st3 stop) λr s4 ⟨hr,I4⟩=>?_)));subst hr;refine X4 ?_;obtain⟨m,hm,_⟩:=I4.loc;have leC:s2.heap.objs.size<=P2.objs.size:=by rw[hC];exact V9 _
   have IX:Inv X bQ σ H3 s4:=I2.call' (s':=s4) (ch:=fp) I4.os I4.base I4.hok I4.bare λb hb=>⟨(f2 b hb).2.2.2.1,(f2 b hb).2.1,(f2 b hb).2.2.2.2.1,(f2 b hb).2.2.2.2.2⟩;have cellLt:∀y c,X.env.cells.lookup y=some c->c≠P2.objs.size:=λy c e z=>by
    obtain⟨_,o,e1,_⟩:=I2.cell y c e;have:=XJ e1;rw[z]at this;exact V8 _ (Xu this leC)
   have locNe:X.env.locals≠P2.objs.size:=λz=>by
    have:=I2.lt;rw[z]at this;exact V8 _ (Xu this leC)
   refine P6 (zaw IX hN hix (.inl hlx) (v:=.ref s2.heap.objs.size) rfl (λs5 I5 ⟨a5,sb5,ha5⟩=>?_) (.inr hlx));have na:a5≠P2.objs.size:=by
    rcases ha5 with z | z
    .rw[z];exact locNe
    .exact cellLt _ _ z
   refine⟨m,hm.sameBut sb5 (Vm na),λh' sb=>⟨_,H3,?_,qn⟩⟩;exact I5.turned (t':=s5.toks) (it:=P2.objs.size) (λb o hb e=>(sb.2 b hb).trans e) I4.free (Vm locNe) (.inr (X0 I2.sz leC)) cellLt λp hp z=>by
    obtain⟨e1,_⟩:=I2.pin p hp;have:=XJ e1;rw[z]at this;exact V8 _ (Xu this leC)
  .refine ZB (UH (ZB (thn (T.item (yx X N scope cl P2.objs.size fp bQ s2 H2 E) rfl rfl rfl hcalm i [] s3 σ3 H3 _ I3 (stat fr3) st3 go) λr s4 ⟨u,hr,h4⟩=>?_)));subst hr;dsimp only;refine ZB (thn h4 λ_ s5 ⟨x,H5,I5,r5,y5,st5,fr5⟩=>?_);have I5':=I5.pinned (stat fr5) (T.obj _ _ st5);refine ZB (WE (hg P2.objs.size fp bQ s2 H2 _ s5 σ3 H5 x u _ I5' r5 (step x H5 y5)) (λ_ s6 ⟨σ6,H6,I6,q6⟩=>?_) λ_ _ z=>out z);have OF:∀{s7:X8} {σ7:St} {H7:Hp},Inv (yx X N scope cl P2.objs.size fp bQ s2 H2 E) ([]++zaz fp s5.heap) σ7 H7 s7->N' σ7 H7->∃m,m<n/\∃i σ' H',Inv (yx X N scope cl P2.objs.size fp bQ s2 H2 E) [] σ' H' s7/\tn i s7.heap/\(∀b∈fp,H' b=none)/\W i m σ' H':=λ{s7 σ7 H7} I7 n7=>by
    obtain⟨m',hm,w7⟩:=hN σ7 H7 n7;refine⟨m',hm,i+1,σ7,H7,I7.unpinned,T.keep _ _ _ st5 λb hb o e=>(I7.pin (b,o) (XC _ (XC _ (yK hb e)))).1,λb hb=>?_,w7⟩;obtain⟨o,e,d⟩:=T.obj _ _ st5 b hb;exact(I7.pin (b,o) (XC _ (XC _ (yK hb e)))).2.1
   refine ZB (WE (hc P2.objs.size fp bQ s2 H2 _ s6 σ6 H6 _ I6 q6) (λb s7 ⟨H7,I7,q7⟩=>?_) λ_ _ z=>out z);cases b with
   | false =>
    rw[bq XT]at q7;exact X4 ⟨rfl,OF I7 q7⟩
   | true =>
    rw[bw rfl]at q7;refine ZB (ZB (WE (he P2.objs.size fp bQ s2 H2 _ s7 σ6 H7 _ I7 q7) (λy s8 ⟨v8,H8,I8,r8,ys,hys,hlen,q8⟩=>?_) λ_ _ z=>out z));refine ZB (WE (zaB (X:=yx X N scope cl P2.objs.size fp bQ s2 H2 E) _ s8 σ6 H8 (.ref s2.heap.objs.size) [v8] (.ref s2.heap.objs.size) [y] (λ_ H9=>N' σ6 H9) I8 rfl (.cons r8 .nil) ⟨_,ys,v8,rfl,rfl,hys,hlen,q8⟩) (λ_ s9 ⟨v9,H9,I9,_,q9⟩=>?_) λ_ _ z=>out z);exact X4 (X4 ⟨rfl,OF I9 q9⟩)
 exact O8 (loop _ rfl) (T.self _ 0 _ _ _ st0 (loop _ rfl))
end
namespace ST
def Good.slot {t:Wr}{hs:Array Int}(G:Good t hs)(h:Int):∃j,t.freeSlot h=some (j,false)/\j<t.mask+1/\(∀i,i<t.place.size->t.place.getD i 0≠j)/\Reach t h j:=by
 obtain⟨e,he,hn⟩:=G.free;obtain⟨j,h1,h2,h3,h4⟩:=QU G.up G.dum (λ_=>h+1) (h:=h) (λi _ z=>by lia) hn (zb7 G.mask h he);refine⟨j,?_,zbB _ _ _ _ (SQ _ (Tk _)) j h4,λi hi z=>?_,h3⟩
 .unfold SetTable.freeSlot;rw[h1];rfl
 .rw[<- z,Ji G.up hi]at h2;cases h2
def YY (q:Int×Tok):Int×X9:=(Ud q.1,Wt q.1 q.2)
def InI (i:Int):Prop:=0<=i/\i<64
structure zfv (led:Bool)(h:Heap)(a:Addr)(ks:List (Int×Tok)):Prop where
 ex:∃es ep t,h.get? a=some (zT es ep t)/\es.toList=ks.map YY/\Good t (es.map (·.1))/\t.led=led/\t.plain=true
 nd:(ks.map (·.1)).Nodup
 inb:∀q∈ks,InI q.1
 few:ks.length<=63
section
variable {prog:Xd}{w:WV}{A:WT}{E:X9->X8->Prop}{s:X8}{a:Addr}{es:Array (Int×X9)}{ep:Nat}{t:Wr}{ks:List (Int×Tok)}{led:Bool}
def zfw (he:es.toList=ks.map YY):(es.map (·.1)).toList=ks.map λq=>Ud q.1:=by
 rw[VM,he,WY];rfl
def zmb (he:es.toList=ks.map YY):ElemsOf (Tq prog w) es.toList:=λe h=>by
 rw[he]at h;obtain⟨q,_,rfl⟩:=XO.mp h;exact⟨⟨q.1,by simp[YY,Tq,RW],rfl⟩,rfl⟩
def ziL (hn:es.size=5\/es.size=19)(he:es.toList=ks.map YY):∃(es':Array (Int×X9)) (t':Wr) (ks':List (Int×Tok)),relayAll t es (UB es.size)=(es',t',false)/\es'.toList=ks'.map YY/\ks'.Perm ks/\Good t' (es'.map (·.1))/\t'.led=t.led/\t'.plain=t.plain:=by
 have hsz:(es.map (·.1)).size=es.size:=VQ ..;obtain⟨t',order,e1,e2,e3,e4,e5,e6,e7⟩:=zb8 t (es.map (·.1)) (by rw[hsz];exact hn);rw[hsz]at e1 e2 e3 e6;have hlt:∀i∈order.toList,i<es.size:=λi hi=>Xq.mp (e3.mem_iff.mp hi);have hkl:ks.length=es.size:=by
  rw[<- X7,he,Y1]
 obtain⟨d0⟩:Nonempty (Int×Tok):=by
  cases ks with
  | nil=>rcases hn with e | e<;>rw[<- hkl]at e<;>cases e
  | cons q _=>exact⟨q⟩
 have el:(order.filterMap (es[·]?)).toList=(order.toList.map λi=>ks.getD i d0).map YY:=by
  rw[O5,zca (YY d0) es order.toList hlt,WY];refine Xm λi hi=>?_;have h1:=hlt i hi;show es.toList.getD i _=YY (ks.getD i d0);rw[he,XH,Xn,XH,X5 (by lia),UO,Vn,Vn]
 have es_:(order.filterMap (es[·]?)).size=es.size:=by
  rw[<- X7,el,Y1,Y1,X7,e2]
 have eh:(order.filterMap (es[·]?)).map (·.1)=order.map λi=>(es.map (·.1)).toList.getD i 0:=by
  apply Th.mp;rw[zfw el,VM,WY];refine Xm λi hi=>?_;have h1:=hlt i hi;show Ud (ks.getD i d0).1=_;rw[zfw he,XH,XH,Xn,X5 (by lia),UO,Vn,Vn]
 have G':Good t' ((order.filterMap (es[·]?)).map (·.1)):=by
  rw[eh];exact e7
 refine⟨_,t',_,?_,el,?_,G',e4,e5⟩
 .unfold relayAll;rw[e1];dsimp only;have f:=G'.fits;rw[VQ]at f;rw[f,show coversAll order es.size=true by unfold coversAll;rw[List.isPerm_iff];exact e3];rfl
 .have:=e3.map λi=>ks.getD i d0;rw[<- hkl,zb2]at this;exact this
def add_int {k:Int}{tk:Tok}{Q:Bool->X8->Prop}(S:zfv led s.heap a ks)(hb:InI k)(hn:k ∉ ks.map (·.1)->ks.length<63)
  (q:∀(b:Bool) (h':Heap) (ks':List (Int×Tok)),V5 a s.heap h'->zfv led h' a ks'->(∀c,c∈ks'.map (·.1)↔c∈ks.map (·.1)\/c=k)->Q b { s with heap:=h',toks:=s.toks+1 }) :
  Xy (Xo prog w) A (setAdd a (.int k tk)) Q E s:=by
 obtain⟨⟨es,ep,t,ho,he,G,hl,hp⟩,nd,inb,l64⟩:=S;have hkl:ks.length=es.size:=by
  rw[<- X7,he,Y1]
 have hf:t.fits es.size=true:=by
  have:=G.fits;rwa [VQ]at this
 have hel:=zmb (prog:=prog) (w:=w) he;have hkey:(Tq prog w).is k (.int k tk)=true:=by simp[Tq,RW]
 unfold setAdd;refine W1 (ZB ((Tq prog w).pyHash hkey ?_));show Xy (Xo prog w) A (Pd a (.int k tk) ((Tq prog w).hash k)) Q E { s with toks:=s.toks+1 };unfold Pd Ov;refine W1 (ZB (TD (s:={ s with toks:=s.toks+1 }) (o:=zT es ep t) ho rfl hf ?_));dsimp only;rw[byScan_of (knd:=Tq prog w) rfl (by show es.size<4096;lia) hel];simp only[↓reduceIte];unfold setAddByScan;refine ZB (ZB (UQ (ZB (wpAny_setScan_of (s:={ s with toks:=s.toks+1 }) (o:=zT es ep t) hkey ho rfl hf hel ?_))));cases hr:List.findIdx? (λe=>(Tq prog w).is k e.2) es.toList with
 | some j =>
  dsimp only;obtain⟨hj,hpj,_⟩:=List.findIdx?_eq_some_iff_getElem.mp hr;have hm:k∈ks.map (·.1):=by
   have hx:es.toList[j]∈es.toList:=T6 hj;generalize es.toList[j]=x at hx hpj;rw[he]at hx;obtain⟨c,hc,rfl⟩:=XO.mp hx;have:c.1=k:=(Tq prog w).inj _ _ _ (show (Tq prog w).is c.1 (YY c).2=true by simp[YY,Tq,RW]) hpj;exact XO.mpr ⟨c,hc,this⟩
  exact X4 (X4 (q false s.heap ks (Heap.SameBut.refl _ _) ⟨⟨es,ep,t,ho,he,G,hl,hp⟩,nd,inb,l64⟩ λc=>⟨.inl,λz=>z.elim id λz=>z ▸ hm⟩))
 | none =>
  dsimp only;have hm:k ∉ ks.map (·.1):=λz=>by
   obtain⟨c,hc,e⟩:=XO.mp z;have:=List.findIdx?_eq_none_iff.mp hr (YY c) (by rw[he];exact XO.mpr ⟨c,hc,rfl⟩);rw[show (YY c).2=Wt c.1 c.2 from rfl,e]at this;simp[Tq,RW]at this
  have hlen:=hn hm;obtain⟨j,hj,h1,h2,h3⟩:=G.slot (Ud k);obtain⟨f1,f2,f3⟩:=zgv G.up G.dum h2;have hsz:t.place.size=es.size:=by rw[G.sz,VQ]
  have bs:Xv t.place j<=es.size:=by
   rw[<- hsz];exact(Js G.up j).1
  generalize hpos:Xv t.place j=pos at f1 f2 f3 bs;have ep1:(t.put j).1.plain=true:=by rw[f2];exact hp
  have el1:(t.put j).1.led=led:=by rw[f2];exact hl
  obtain⟨ks1,hks⟩:∃ks1,ks1=ks.take pos++(k,tk)::ks.drop pos:=⟨_,rfl⟩;have he1:(Xw es pos (Ud k,Wt k tk)).toList=ks1.map YY:=by
   rw[xy,he,hks,Xj,Xf,Ui,S7];rfl
  have hsz1:(Xw es pos (Ud k,Wt k tk)).size=es.size+1:=qP _ bs _;have pm:ks1.Perm ((k,tk)::ks):=by
   rw[hks];refine Pq.trans (List.Perm.cons _ ?_);rw[WF]
  have fits1:(t.put j).1.fits (Xw es pos (Ud k,Wt k tk)).size=true:=by
   have hr:=G.room;have bp:pos<=t.place.size:=by rw[hsz];exact bs
   rw[hsz1,f2];unfold SetTable.fits RY;simp only[G.dum,qP _ bp,hsz];rcases G.mask with e | e | e<;>simp[e]<;>rw[hsz,e]at hr<;>lia
  have fin:∀(h':Heap) (ks':List (Int×Tok)) (es':Array (Int×X9)) (ep':Nat) (t':Wr),V5 a s.heap h'->h'.get? a=some (zT es' ep' t')->es'.toList=ks'.map YY->ks'.Perm ((k,tk)::ks)->Good t' (es'.map (·.1))->t'.led=led->t'.plain=true->Q true { s with heap:=h',toks:=s.toks+1 }:=by
   intro h' ks' es' ep' t' hs hg hel hpm hG hle hpl;have mem:∀c,c∈ks'↔c=(k,tk)\/c∈ks:=λc=>by rw[hpm.mem_iff,XQ]
   refine q true h' ks' hs ⟨⟨es',ep',t',hg,hel,hG,hle,hpl⟩,?_,λc hc'=>?_,by rw[hpm.length_eq,XE];lia⟩ λc=>?_
   .rw[(hpm.map (·.1)).nodup_iff,Xf,Wl];exact⟨hm,nd⟩
   .rcases(mem c).mp hc' with rfl | z
    .exact hb
    .exact inb c z
   .rw[(hpm.map (·.1)).mem_iff,Xf,XQ];exact Or.comm
  have fl:(t.put j).1.tooFull=decide ((es.size+1)*5 >= t.mask*3):=by
   have bp:pos<=t.place.size:=by rw[hsz];exact bs
   rw[f2];unfold SetTable.tooFull RY;simp only[G.dum,qP _ bp,hsz];rfl
  have gd:¬ (es.size+1)*5 >= t.mask*3->Good (t.put j).1 ((Xw es pos (Ud k,Wt k tk)).map (·.1)):=λhr=>by
   have:=G.put (h:=Ud k) h1 h2 h3 (by rw[hsz];lia);rw[f1]at this;have e:(Xw es pos (Ud k,Wt k tk)).map (·.1)=Xw (es.map (·.1)) pos (Ud k):=by
    apply Th.mp;rw[VM,xy,xy,VM,Xj,Xf,Ui,S7]
   rw[e];exact this
  have hroom:=G.room;have hmask:=G.mask;rw[hsz]at hroom;have lay:layNew t es ((Tq prog w).hash k) (.int k tk)=(Xw es pos (Ud k,Wt k tk),(t.put j).1,false,false):=by
   show layNew t es (Ud k) (.int k tk)=_;unfold layNew;rw[hj];dsimp only;rw[f1];unfold SetTable.orStandIn;rw[bw fits1,fits1];rfl
  rw[lay];dsimp only;refine ZB (X4 ?_);rw[ep1,bw rfl,hashByValue_scannable 8 (show (Wt k tk).scannable=true from rfl)];refine ZB (X4 ?_);dsimp only[plainKind];rw[bw rfl];refine ZB (QV (s:={ s with toks:=s.toks+1 }) ho (by rw[hsz1];lia) λh' hs hg=>?_);by_cases full:(es.size+1)*5 >= t.mask*3
  .rw[fl,br full,bw (by decide)];obtain⟨es',t',ks',er,hel',hpm,hG,hle,hpl⟩:=ziL (t:=(t.put j).1) (by rw[hsz1];rcases hmask with e | e | e<;>rw[e]at full hroom<;>lia) he1;rw[er];dsimp only;refine ZB (X4 ?_);have z':es'.size<=64:=by
    rw[<- X7,hel',Y1,hpm.length_eq,pm.length_eq,XE];lia
   refine ZB (QV (s:={ s with heap:=h',toks:=s.toks+1 }) hg z' λh2' hs' hg'=>?_);exact X4 (X4 (fin h2' ks' es' _ t' (hs.trans hs') hg' hel' (hpm.trans pm) hG (hle.trans el1) (hpl.trans ep1)))
  .rw[fl,bf full,bq (by decide)];exact X4 (X4 (fin h' ks1 _ _ _ hs hg he1 pm (gd full) el1 ep1))
end
def zfx (w:WV)(d:Addr)(ks:List (Int×Tok)):HO:=.ext λh=>∃es ep t,h.get? d=some (zT es ep t)/\es.toList=ks.map YY/\Good t (es.map (·.1))/\t.led=(!w.params.followText "set-order")/\t.plain=true
section
variable {prog:Xd}{w:WV}{A:WT}{R:R7->X8->Prop}{I:Addr}{fp wr:List Addr}{G:Array UC->Array UC->Prop}{n:Nat}{P:Nat->X9->Prop}{St:Nat->X8->Prop}{led:Bool}
def ziM (W:WalksS prog w A.in1 I fp wr G n P St)(D:Addr)(hDf:D ∉ fp)(ps:List Int)(hlen:ps.length=n)
  (hP':∀i v,P i v->∃k tk,v=.int k tk/\ps[i]?=some k) (hb:∀p∈ps,InI p) (few:∀l:List Int,l.Nodup->(∀c∈l,c∈ps)->l.length<=63) :
  ∀(k i:Nat) (s:X8) (ks:List (Int×Tok)),n-i=k->i<=n->St i s->zfv led s.heap D ks->(∀c,c∈ks.map (·.1)↔c∈ps.take i) ->
   (∀s' ks',Np (D::wr) G s s'->zfv led s'.heap D ks'->(∀c,c∈ks'.map (·.1)↔c∈ps)->R (.ok (.ret .none)) s') ->
   UX (Xo prog w) A (.builtin "set.update.loop" ⟨[.ref D,.ref I],[]⟩) R s:=by
 have hDw:D ∉ wr:=λh=>hDf (W.sub _ h);have more:∀b∈wr,b∈D::wr:=λb hb=>XV _ hb;have set_to:∀{s s':X8} {ks:List (Int×Tok)},Np wr G s s'->zfv led s.heap D ks->zfv led s'.heap D ks :=
  λhm ⟨⟨es,ep,t,e1,e2⟩,e3,e4,e5⟩=>⟨⟨es,ep,t,hm.heap D _ hDw e1,e2⟩,e3,e4,e5⟩
 intro k;induction k with
 | zero =>
  intro i s ks hk hi hst hS hm' hR;have hin:i=n:=by lia
  subst hin;refine Wd Vx ?_;rw[Wp Wb _];show Xy _ A.in1 (SV (.ref I) >>= _) _ _ s;refine ZB (W.done s _ _ hst λs' hm=>?_);refine X4 (hR s' ks (hm.mono more) (set_to hm hS) λc=>?_);rw[hm' c,<- hlen,XB]
 | succ k ih =>
  intro i s ks hk hi hst hS hm' hR;have hlt:i<n:=by lia
  refine Wd Vx ?_;rw[Wp Wb _];show Xy _ A.in1 (SV (.ref I) >>= _) _ _ s;refine ZB (W.item i s _ _ hlt hst λv s' hPv hst' hm=>?_);obtain⟨p,tk,rfl,hq⟩:=hP' i v hPv;have hS':=set_to hm hS;have hpm:p∈ps:=XZ hq;have tk':ps.take (i+1)=ps.take i++[p]:=by
   rw[Xh,hq];rfl
  refine ZB (W1 (add_int hS' (hb p hpm) (λhno=>?_) λb h' ks' hs' hS2 hmem=>?_))
  .have:=few (p::ks.map (·.1)) (Wl.mpr ⟨hno,hS'.nd⟩) λc hc=>by
    rcases XQ.mp hc with rfl | hc
    .exact hpm
    .exact Wq ((hm' c).mp hc)
   rw[XE,Y1]at this;lia
  refine X4 ⟨VC Wb _,?_⟩;refine ih (i+1) _ ks' (by lia) hlt (W.frame _ s' _ _ hst' (UF _ _) λb hb o e=>?_) hS2 (λc=>?_) λs'' ks'' hm'' hS'' hc''=>?_
  .rw[hs'.2 b (λz=>hDf (by rw[<- z];exact hb))];exact e
  .rw[hmem c,hm' c,tk',XR,WB]
  .refine hR s'' ks'' (Moved.trans W.gtrans ((hm.mono more).then_heap (UF _ _) λb o hb e=>?_) hm'') hS'' hc'';rw[hs'.2 b (λz=>hb (by rw[z];exact X2))];exact e
end
section
variable {prog:Xd}{w:WV}{A:WT}{E:X9->X8->Prop}{s:X8}
set_option maxHeartbeats 8000000 in
theorem ziN {l:Addr}{its:Array X9}{ps:List Int}{Q:X9->X8->Prop}(hh:A.handled=none)(hl:s.heap.IsList l its)(hlen:ps.length=its.size)
  (hP':∀(i:Nat) (v:X9),its[i]?=some v->∃k tk,v=Wt k tk/\ps[i]?=some k) (hb:∀p∈ps,InI p) (few:∀l:List Int,l.Nodup->(∀c∈l,c∈ps)->l.length<=63)
  (h:∀(h':Heap) (tk:Nat) (ks:List (Int×Tok)),(∀b o,s.heap.get? b=some o->h'.get? b=some o)->zfv (!w.params.followText "set-order") h' s.heap.objs.size ks->(∀c,c∈ks.map (·.1)↔c∈ps)->Q (.ref s.heap.objs.size) { s with heap:=h',toks:=tk }) :
  Xy (Xo prog w) A (call (.type "set") [.ref l]) Q E s:=by
 obtain⟨c,tl,hmro⟩:=PySem.F.called_set.mro;have hmade:=PySem.F.called_set.made;have hsub:=PySem.F.called_set.sub;refine Pg (OQ ?_);show Xy _ _ (callAny (.type "set") _) _ _ _;refine X4 ⟨Rl _ (by decide+kernel),Wd Pi ?_⟩;rw[Around.under_plain (OI "set" [.ref l] []) rfl];have h1:=PySem.F.called_set.notType;have h2:=PySem.F.called_set.canCreate;have hct:=O4 (.ref l);repeat (any_goals (first | assumption | wp_step))
 refine UI (zhC (.ref l) (E:=E) (Q₁:=λobj s₁=>obj=.ref s.heap.objs.size/\s₁={ s with heap:=s.heap.push (zT #[] 0 (.fresh 0 0 (!w.params.followText "set-order"))) }) ⟨rfl,rfl⟩) λr s₁ hr=>?_;cases r with
 | error e=>exact hr
 | ok fl =>
  cases fl with
  | ret obj =>
   obtain⟨rfl,rfl⟩:=hr;generalize hled:(!w.params.followText "set-order")=led at h ⊢;have hS:(s.heap.push (zT #[] 0 (.fresh 0 0 led))).get? s.heap.objs.size=some (zT #[] 0 (.fresh 0 0 led)):=Xe _ rfl;have hTy:S8 { s with heap:=s.heap.push (zT #[] 0 (.fresh 0 0 led)) } (.ref s.heap.objs.size) "set":=⟨_,hS,rfl⟩;have hli:=PySem.F.called_set.init.lookup;have hbi:=PySem.F.called_set.init.bind (.ref s.heap.objs.size);repeat (any_goals (first | assumption | wp_step))
   refine UI (U0 (R:=wants (λr s₂=>r=.none/\∃h' tk ks,s₂={ s with heap:=h',toks:=tk }/\zfv led h' s.heap.objs.size ks/\(∀c,c∈ks.map (·.1)↔c∈ps) /\
     (∀b o,s.heap.get? b=some o->h'.get? b=some o)) E) PySem.F.called_set.init.plain O3 (check_set_init_1 hTy ?_)) λr₂ s₂ hr₂=>?_
   .obtain⟨ol,hol,hcl,nl,hdl⟩:=hl;obtain⟨ocls,odict,odata,oslots⟩:=ol;simp only at hcl hdl;subst hcl;subst hdl;have hol':(s.heap.push (zT #[] 0 (.fresh 0 0 led))).get? l=some { cls:=.type "list",dict:=odict,data:=.seq its nl,slots:=oslots }:=X6 _ hol;have hsls:=Om;have hslf:=Ra;have hne:(R6 "list" == R6 "dict")=false:=by decide
    have hl1:(s.heap.push (zT #[] 0 (.fresh 0 0 led))).IsList l its:=⟨_,hol',rfl,nl,rfl⟩;unfold UW.«set.__init__» noKeywords RG;generalize hG:s.heap.push (zT #[] 0 (.fresh 0 0 led))=G at hS hTy hol' hl1 ⊢;unfold zT at hS;generalize hPI:NT=PI;wp_walk;subst hPI;subst hG;refine Ur hl1 ?_;refine ZB (Ou ?_);have hlS:l<s.heap.objs.size:=XJ hol;have zS:(s.heap.push (zT #[] 0 (.fresh 0 0 led))).objs.size=s.heap.objs.size+1:=Vu ..;have hneI:l≠(s.heap.push (zT #[] 0 (.fresh 0 0 led))).objs.size:=by
     rw[zS];exact Xk (Wv hlS)
    have hSf:s.heap.objs.size ∉ [(s.heap.push (zT #[] 0 (.fresh 0 0 led))).objs.size,l]:=by
     rw[zS];simp only[XQ,V6,or_false,not_or];exact⟨Xk (Ti _),Us hlS⟩
    refine ziM (led:=led) ((Walks.list (by simp[hh]) (s.heap.push (zT #[] 0 (.fresh 0 0 led))).objs.size l hneI its).toS) s.heap.objs.size hSf ps hlen hP' hb few (its.size-0) 0 _ [] rfl (W7 _)
     ⟨⟨_,Xe _ rfl,rfl,rfl⟩,(hl1.push _)⟩ ⟨⟨#[],0,.fresh 0 0 led,X6 _ hS,rfl,(by rw[Array.map_empty];exact zcd led),rfl,rfl⟩,T7,(λq z=>nomatch z),W7 _⟩ (λc=>by simp) ?_
    .intro s' ks hm hS' hm';obtain⟨h',g',d',tk',os'⟩:=s';have eg:g'=s.gens:=hm.gens;have ed:d'=s.drawn:=hm.drawn;have eo:os'=s.os:=hm.os;subst eg;subst ed;subst eo;show Xy _ _ _ _ _ _;refine X4 ?_;show Xy _ _ (ret US) _ _ _;refine X4 ⟨rfl,h',tk',ks,rfl,hS',hm',λb o e=>?_⟩;have lt:=XJ e;refine hm.heap b o (λz=>?_) (X6 _ (X6 _ e));rcases XQ.mp z with z | z
     .exact V8 _ (z ▸ lt)
     .have z':b=(s.heap.push (zT #[] 0 (.fresh 0 0 led))).objs.size:=by simpa using z
      rw[z',zS]at lt;exact absurd lt (Rv.mpr (V9 _))
   .cases r₂ with
    | error e=>exact hr₂
    | ok fl₂ =>
     cases fl₂ with
     | ret r =>
      obtain⟨rfl,h',tk,ks,rfl,hS',hm',hk'⟩:=hr₂;repeat (any_goals (first | assumption | wp_step))
      exact h _ _ _ hk' hS' hm'
     | _=>exact hr₂.elim
  | _=>exact hr.elim
end
section
variable {X:Cx}
def ziO (hh:X.A.handled=none):jw X (.type "set") (λxs H Q=>∃(l:Addr) (ns:List Int),xs=[.ref l]/\SqL X.K H l (ns.map V.int)/\(∀p∈ns,InI p)/\(∀l:List Int,l.Nodup->(∀c∈l,c∈ns)->l.length<=63) /\
  ∀d ks,H d=none->(ks.map (·.1)).Nodup->(∀c,c∈ks.map (·.1)↔c∈ns)->ks.length<=63->Q (.ref d) (upd H d (zfx X.w d ks))):=by
 intro bQ s σ H xs us' Q I r h;obtain⟨l,ns,rfl,hq,hb,few,q⟩:=h;obtain⟨u,rfl,ru⟩:=vals1 r;cases ru;obtain⟨its,rv,pl,hz⟩:=I.list hq;have tw:∀{ns:List Int} {its:List X9},Vals (ns.map V.int) its->its.length=ns.length/\∀(i:Nat) (v:X9),its[i]?=some v->∃k tk,v=Wt k tk/\ns[i]?=some k:=by
  intro ns;induction ns with
  | nil =>
   intro its r;cases r;exact⟨rfl,λi v e=>by simp at e⟩
  | cons a t ih =>
   intro its r;cases r with
   | cons r1 r2 =>
    obtain⟨tk,rfl⟩:=r1;obtain⟨l1,h1⟩:=ih r2;refine⟨by rw[XE,XE,l1],λi v e=>?_⟩;cases i with
    | zero =>
     simp at e;exact⟨a,tk,e.symm,rfl⟩
    | succ i =>
     obtain⟨y,p,h1,h2⟩:=h1 i v (by simpa using e);exact⟨y,p,h1,by simpa using h2⟩
 obtain⟨hlp,tw⟩:=tw rv;refine ziN hh pl.isList (by simp[hlp]) (λi v e=>tw i v (by simpa using e)) hb few λh' tk ks kk hS hm=>?_;have hD:H s.heap.objs.size=none:=I.hok.fresh (XU _);obtain⟨es,ep,t,ho,rest⟩:=hS.ex;exact⟨.ref s.heap.objs.size,upd H s.heap.objs.size (zfx X.w s.heap.objs.size ks),I.laid (t':=tk) kk (XU _) ⟨⟨es,ep,t,ho,rest⟩,⟨_,ho⟩,λh1 h2 ⟨es,ep,t,ho,rest⟩ k=>⟨es,ep,t,k _ ho,rest⟩⟩,rfl,q _ _ hD hS.nd hm hS.few⟩
def nJ:X9->Int
 | .int k _=>k
 | _=>0
def zex (hh:X.A.handled=none):jw X (.builtin "sorted") (λxs H Q=>∃(l:Addr) (ks:List (Int×Tok)),xs=[.ref l]/\H l=some (zfx X.w l ks)/\ks.length<=63 /\
  ∀(d:Addr) (ms:List Int),H d=none->ms.Perm (ks.map (·.1))->ms.Pairwise (·<=·)->Q (.ref d) (upd H d (.lst (ms.map V.int)))):=by
 intro bQ s σ H xs us' Q I r h;obtain⟨l,ks,rfl,hl,h64,q⟩:=h;obtain⟨u,rfl,ru⟩:=vals1 r;cases ru;obtain⟨⟨es,ep,t,ho,he,G,hled,hpl⟩,_,_⟩:=(show qI X.prog X.w H s.heap l (zfx X.w l ks) from I.hok l _ hl);have hkl:ks.length=es.size:=by
  rw[<- X7,he,Y1]
 apply Tf Nv NH NG (NF _);unfold UW.«sorted»;refine ZB (m:=checkCount "sorted" 1 1 _) (X4 (ZB (zba (by simp[hh]) ho G hled hpl (by lia) λits h1 tk hpm kk1 zle=>?_)));have hvs:es.toList.map (·.2)=ks.map λq=>Wt q.1 q.2:=by
  rw[he,WY];rfl
 rw[hvs]at hpm;have hil:its.length=ks.length:=by rw[hpm.length_eq,Y1]
 have hmem:∀v∈its,∃(k:Int) (t:Tok),v=Wt k t:=λv hm=>by
  obtain⟨c,_,rfl⟩:=XO.mp (hpm.mem_iff.mp hm);exact⟨_,_,rfl⟩
 have hmap:(its.map nJ).Perm (ks.map (·.1)):=by
  have:=hpm.map nJ;rw[WY]at this;exact this
 have small:its.length<=Xz:=by rw[T3];lia
 refine ZB (PN ?_ small);have hoL:(h1.push (UD "list" its.toArray 0)).get? h1.objs.size=some (UD "list" its.toArray 0):=Xe _ rfl;show Xy _ _ _ _ _ { s with heap:=h1.push (UD "list" its.toArray 0),toks:=tk };refine ZB (W1 (UE Oq ⟨_,hoL,rfl⟩ OP (GS.zaM (s:={ s with heap:=h1.push (UD "list" its.toArray 0),toks:=tk }) hoL small nJ (λh2 s' kk=>?_) ?_) (Op _)))
 .have ia:∀{ws:List X9},(∀v∈ws,∃(k:Int) (t:Tok),v=Wt k t)->RC ws (ws.map nJ):=λ{ws}=>by
   induction ws with
   | nil=>exact λ_=>.nil
   | cons a r ih =>
    intro h;obtain⟨k,t,rfl⟩:=h a X2;exact .cons k t (ih λv hv=>h v (XV _ hv))
  have ia:RC its.toArray.toList (its.map nJ):=ia hmem;rw[ksk_kind ia (by simpa using h2)];refine X4 ⟨rfl,λx hx y hy C hC=>?_⟩;have mx:x.1∈its:=by
   rw[U1]at hx;exact(Tj hx).2
  have my:y.1∈its:=by
   rw[U1]at hy;exact(Tj hy).2
  obtain⟨k,t,e1⟩:=hmem _ mx;obtain⟨k',t',e2⟩:=hmem _ my;rw[e1,e2];have hC:C (decide (nJ x.1<nJ y.1)) s':=hC;rw[e1,e2]at hC;exact kat_lt_int hC
 .intro ws h' c hpm' hs kk ha;have I1:Inv X bQ σ H { s with heap:=h1,toks:=tk }:=I.kept kk1;have hD:H h1.objs.size=none:=I1.hok.fresh (XU _);have hmw:∀v∈ws,∃(k:Int) (t:Tok),v=Wt k t:=λv hm=>hmem v (hpm'.mem_iff.mp hm);have rv':∀{ws:List X9},(∀v∈ws,∃(k:Int) (t:Tok),v=Wt k t)->Vals ((ws.map nJ).map V.int) ws:=λ{ws}=>by
   induction ws with
   | nil=>exact λ_=>.nil
   | cons a r ih =>
    intro h;obtain⟨k,t,rfl⟩:=h a X2;exact .cons ⟨t,rfl⟩ (ih λv hv=>h v (XV _ hv))
  have rv:=rv' hmw;refine⟨_,rfl,X4 ⟨_,rfl,.ref h1.objs.size,upd H h1.objs.size (.lst ((ws.map nJ).map V.int)),I1.laid (t':=tk) (λb o e=>kk b o (Xk (XJ e)) (X6 _ e)) (XU _) ⟨?_,_,c,rv,ha⟩,rfl,q _ _ hD ((hpm'.map _).trans hmap) (by rw[Wf];exact hs)⟩⟩;rw[rv.length,hpm'.length_eq];exact small
end
end ST
section
variable {prog:Xd}{w:WV}{A:WT}{R:R7->X8->Prop}{I:Addr}{fp wr:List Addr}{n:Nat}{P:Nat->X9->Prop}{St:Nat->Heap->Prop}
def DfK (d:X9):List (Str×X9):=[(Pc "default",d)]
def Led (ns:List Int)(i:Nat)(old:Array X9):Prop:=(old=#[]/\i=0)\/∃b t,old=#[.int b t,.int b t]/\b∈ns.take i/\∀x∈ns.take i,x<=b
def zpC (ns:List Int)(d v:X9):Prop:=(ns=[]/\v=d)\/∃b t,v=.int b t/\b∈ns/\∀x∈ns,x<=b
def ziP (W:Walks prog w A.in1 I fp wr n P St)(ns:List Int)(hl:ns.length=n)(hP:∀i v,P i v->∃t,v=.int (ns.getD i 0) t)(S:Addr)(hSf:S ∉ fp)(d:X9) :
  ∀(k i:Nat) (s:X8) (c:Nat) (old:Array X9),n-i=k->i<=n->St i s.heap->s.heap.get? S=some { cls:=.type "list",dict:=none,data:=.seq old c,slots:=#[] }->Led ns i old ->
   (∀v h' tk,zpC ns d v->(∀b o,b≠S->b ∉ wr->s.heap.get? b=some o->h'.get? b=some o)->R (.ok (.ret v)) { s with heap:=h',toks:=tk }) ->
   UX (Xo prog w) A (.builtin "max.loop" ⟨[.ref I,.none,.ref S],DfK d⟩) R s:=by
 have hSw:S ∉ wr:=λh=>hSf (W.sub _ h);have nm:(toString "max"++toString ".loop":String)="max.loop":=by decide
 intro k;induction k with
 | zero =>
  intro i s c old hk hi hst hS led fin;have e:i=n:=by lia
  subst e;refine Wd F.entry_max_loop ?_;rw[Wp T5 _];show Xy _ A.in1 (seqItems? (.ref S) >>= _) _ _ s;refine ZB (Rq hS rfl ?_);show Xy _ A.in1 (tryCatch (SV (.ref I)) _ >>= _) _ _ s;refine ZB (Rs (W.done s _ _ hst λh' tk keep=>?_));rcases led with ⟨rfl,e0⟩ | ⟨b,t,rfl,hb,hm⟩
  .show Xy _ A.in1 (rule _ >>= _) _ _ _;refine ZB (UQ (X4 (fin d h' tk (.inl ⟨UU.mp (hl.trans e0),rfl⟩) λb o _ hw e=>keep b o hw e)))
  .rw[<- hl,XB]at hb hm;have hS':=keep S _ hSw hS;show Xy _ A.in1 (Nz S (λ_=>#[]) >>= _) _ _ _;refine ZB (SX hS' rfl (ZB (OA (X4 ?_))));exact fin _ _ tk (.inr ⟨b,t,rfl,hb,hm⟩) λa o ha hw e=>(Wa _ _ (Vm ha)).trans (keep a o hw e)
 | succ k ih =>
  intro i s c old hk hi hst hS led fin;have lt:i<n:=by lia
  have hg:ns[i]?=some (ns.getD i 0):=by
   rw[XH,X5 (by lia)];rfl
  have tk1:ns.take (i+1)=ns.take i++[ns.getD i 0]:=by
   rw[Xh,hg];rfl
  refine Wd F.entry_max_loop ?_;rw[Wp T5 _];show Xy _ A.in1 (seqItems? (.ref S) >>= _) _ _ s;refine ZB (Rq hS rfl ?_);show Xy _ A.in1 (tryCatch (SV (.ref I)) _ >>= _) _ _ s;refine ZB (Rs (W.item i s _ _ lt hst λv h' tk hPv hst' keep=>?_));have hS':=keep S _ hSw hS;obtain⟨t,rfl⟩:=hP i v hPv;have go:∀(h2:Heap) (c2:Nat) (zmc:Array X9),h2.get? S=some { cls:=.type "list",dict:=none,data:=.seq zmc c2,slots:=#[] }->Led ns (i+1) zmc->(∀b,b≠S->h2.get? b=h'.get? b) ->
    UX (Xo prog w) A (.builtin "max.loop" ⟨[.ref I,.none,.ref S],DfK d⟩) R { s with heap:=h2,toks:=tk }:=λh2 c2 zmc hS2 zqs same =>
   ih (i+1) { s with heap:=h2,toks:=tk } c2 zmc (by lia) lt (W.frame _ h' _ hst' λb hb o e=>(same b λz=>hSf (z ▸ hb)).trans e) hS2 zqs λv h3 tk3 mo zpD=>fin v h3 tk3 mo λb o hb hw e=>zpD b o hb hw ((same b hb).trans (keep b o hw e))
  have put:∀(x:X9),∃c2,(h'.update S (U7 λ_=>#[x,x])).get? S=some { cls:=.type "list",dict:=none,data:=.seq #[x,x] c2,slots:=#[] }:=λx=>⟨_,We _ hS' rfl⟩;rcases led with ⟨rfl,rfl⟩ | ⟨b,u,rfl,hb,hm⟩
  .show Xy _ A.in1 (Nz S (λ_=>#[.int (ns.getD 0 0) t,.int (ns.getD 0 0) t]) >>= _) _ _ _;refine ZB (SX hS' rfl ?_);rw[nm];obtain⟨c2,h2⟩:=put (.int (ns.getD 0 0) t);refine X4 ⟨VC T5 _,go _ c2 _ h2 (.inr ⟨_,t,rfl,?_,?_⟩) λa ha=>Wa _ _ (Vm ha)⟩
   .rw[tk1];exact XC _ X2
   .intro x hx;rw[tk1,Os,RK,WB]at hx;rw[hx];exact Ve _
  .show Xy _ A.in1 (tryCatch (Ob [.int (ns.getD i 0) t,.int (ns.getD i 0) t] (richCompare .Gt (.int (ns.getD i 0) t) (.int b u) >>= _)) _ >>= _) _ _ _;have cmp:CmpOf prog w A.in1 .Gt (λj v=>∃t,v=Wt (if j=0 then ns.getD i 0 else b) t) (λi' j'=>decide ((if i'=0 then ns.getD i 0 else b)>(if j'=0 then ns.getD i 0 else b))):=CmpOf.ints_gt _ λ_ _ h=>h;refine ZB (Rs (W1 (ZB (cmp 0 1 _ _ _ _ _ ⟨t,rfl⟩ ⟨u,rfl⟩ ?_))));refine ZB (W1 (VJ (ZB (OA (X4 ?_)))));show Xy _ A.in1 (if decide (ns.getD i 0>b)=true then _ else _) _ _ _;by_cases gt:ns.getD i 0>b
   .rw[br gt,bw rfl];refine ZB (SX hS' rfl (ZB (OA ?_)));rw[nm];obtain⟨c2,h2⟩:=put (.int (ns.getD i 0) t);refine X4 ⟨VC T5 _,go _ c2 _ h2 (.inr ⟨_,t,rfl,?_,?_⟩) λa ha=>Wa _ _ (Vm ha)⟩
    .rw[tk1];exact XC _ X2
    .intro x hx;rw[tk1]at hx;rcases XR.mp hx with hx | hx
     .exact Vr (hm x hx) (V2 gt)
     .rw[WB.mp hx];exact Ve _
   .rw[bf gt,bq XT];refine ZB (OA ?_);rw[nm];refine X4 ⟨VC T5 _,go _ c _ hS' (.inr ⟨b,u,rfl,?_,?_⟩) λ_ _=>rfl⟩
    .rw[tk1];exact Xi _ hb
    .intro x hx;rw[tk1]at hx;rcases XR.mp hx with hx | hx
     .exact hm x hx
     .rw[WB.mp hx];lia
def ziQ {l:Addr}{its:Array X9}{ns:List Int}{d:X9}{E:X9->X8->Prop}{s:X8}{Q:X9->X8->Prop}(hh:A.handled=none)(hl:s.heap.IsList l its)(hz:ns.length=its.size)(hi:∀(i:Nat) (v:X9),its[i]?=some v->∃t,v=.int (ns.getD i 0) t)(ha:NS "max" ⟨[.ref l],DfK d⟩)
  (h:∀v h' tk,zpC ns d v->(∀b o,s.heap.get? b=some o->h'.get? b=some o)->Q v { s with heap:=h',toks:=tk }):Xy (Xo prog w) A (call (.builtin "max") [.ref l] (DfK d)) Q E s:=by
 have nm:(toString "max"++toString ".loop":String)="max.loop":=by decide
 refine Pg (U0 F.plain_max F.entry_max ?_);simp only[R4,F.kind_max];have key:Xy (Xo prog w) A.in1 (UW.«max» ⟨[.ref l],DfK d⟩) (λfin s'=>match fin with
   | .done f=>(match (Except.ok f:R7) with | .ok (.ret v)=>Q v s' | .ok _=>False | .error e=>E e s')
   | .again c'=>c'.quiet=true/\UX (Xo prog w) A c' (λr s'=>match r with | .ok (.ret v)=>Q v s' | .ok _=>False | .error e=>E e s') s') E s:=by
  show Xy _ A.in1 (Rz "max" ["key","default"] 0 ⟨[],DfK d⟩ >>= _) _ _ s;refine ZB (RT (show Rz "max" ["key","default"] 0 ⟨[],DfK d⟩=pure [none,some d] from rfl) ?_);refine ZB (X4 ?_);refine ZB (Ur hl ?_);refine ZB (VX ?_);have lt:l<s.heap.objs.size:=by
   obtain⟨_,e,_⟩:=hl;exact XJ e
  generalize hb1:s.heap.push { cls:=.type "list_iterator",data:=.fields #[.ref l,.int 0 0] }=h1;have z1:h1.objs.size=s.heap.objs.size+1:=by rw[<- hb1];exact Vu ..
  have k1:∀b o,s.heap.get? b=some o->h1.get? b=some o:=λb o e=>by rw[<- hb1];exact X6 _ e
  have i1:h1.IsListIter s.heap.objs.size l 0:=by rw[<- hb1];exact⟨_,Xe _ rfl,rfl,rfl⟩
  have l1:h1.IsList l its:=by rw[<- hb1];exact hl.push _
  have i2:∀{o:Obj},(h1.push o).IsListIter s.heap.objs.size l 0:=by
   obtain⟨o',a,r⟩:=i1;exact⟨o',X6 _ a,r⟩
  rw[nm];refine X4 ⟨VC T5 _,ziP (Walks.list (A:=A.in1) hh s.heap.objs.size l (Xk lt) its) ns hz hi h1.objs.size (λm=>?_) d its.size 0 _ _ #[] rfl (W7 _) ⟨i2,l1.push _⟩ (Xe _ rfl) (.inl ⟨rfl,rfl⟩) λv h' tk mo keep=>?_⟩
  .rcases XQ.mp m with m | m
   .exact absurd (z1.symm.trans m) (Vo _)
   .have m':s.heap.objs.size+1=l:=z1.symm.trans (WB.mp m);exact absurd lt (by rw[<- m'];exact Rv.mpr (V9 _))
  .refine h v h' tk mo λb o e=>keep b o (λz=>?_) (λz=>?_) (X6 _ (k1 b o e))
   .have lb:b<s.heap.objs.size:=XJ e;have zb:b=s.heap.objs.size+1:=z.trans z1;exact absurd lb (by rw[zb];exact Rv.mpr (V9 _))
   .have lb:b<s.heap.objs.size:=XJ e;have zb:b=s.heap.objs.size:=WB.mp z;exact absurd lb (by rw[zb];exact V8 _)
 cases hsig:Manifest.signature? "max" with
 | none=>exact X4 key
 | some sig =>
  have ha':Bind.checkArgs "max" sig ⟨[.ref l],DfK d⟩=pure ():=by simpa only[NS,hsig] using ha
  simp only[ha'];exact X4 key
def ziR (a v:X9):NS "max" ⟨[a],DfK v⟩:=by
 unfold NS DfK;kernel_rfl
end
section
variable {X:Cx}{e d:Expr}{te td:TE}{p pos kp:Pos}
def zm8 (K:XY)(xs:AF)(H:Hp)(Q:VK):Prop:=∃(l:Addr) (ns:List Int) (k:Int),xs=[.ref l,.int k]/\SqL K H l (ns.map V.int)/\∀m,(ns=[]/\m=k\/m∈ns/\∀x∈ns,x<=m)->Q (.int m) H
def zmd (hm:X.mg "max"=none)(hv:T0 "max"=some (.builtin "max"))(hh:X.A.handled=none)(he:PE X e te)(hd:PE X d td)(hg:Gl X "max":=by rfl)(h1:WR [e] X.env=(false,eval e X.env)::WR [] X.env:=by rfl) :
  PE X (.Call (.Name "max" p) [e] [⟨some (Pc "default"),d,kp⟩] pos) (tCB (zm8 X.K) (zjx te (zjx td zpa))):=by
 intro bQ s σ H Q I h;refine TX (ZH I hg hm hv ?_ (by decide) (by decide));refine callWith_kw (thn (za he zc h1 pos bQ s σ H (λvs H1=>td σ H1 λy H2=>zm8 X.K (vs++[y]) H2 Q) I h) λus s1 ⟨vs,H1,I1,r1,q1⟩=>?_) (by rw[h1];rfl) (by rw[h1];rfl);refine kws_cons (thn (hd bQ s1 σ H1 _ I1 q1) λv s2 ⟨y,H2,I2,r2,l,ns,k,e1,hl,q2⟩=>kws_nil ?_);obtain⟨x,rfl⟩:∃x,vs=[x]:=by
  match vs,e1 with
  | [x],_=>exact⟨x,rfl⟩
  | [],e1=>cases e1
  | _::_::_,e1=>simp at e1
 cases e1;obtain⟨u,rfl,ru⟩:=vals1 r1;cases ru;obtain⟨t,rfl⟩:=r2;obtain⟨its,rv,pl,hz⟩:=I2.list hl;have hi:RC its ns:=zbY rv;obtain⟨ys,ey⟩:=hi.allInts.items;have f1:ns=ys.toList.map (·.1):=by
  rw[<- nums_intItems,<- ey];exact(show numsOf its.toArray.toList=ns from hi.numsOf).symm
 have fz:ns.length=ys.size:=by rw[f1,Y1,X7]
 show Xy _ _ (call (.builtin "max") [.ref l] (DfK (.int k t))) _ _ s2;refine ziQ (ns:=ns) hh (ey ▸ pl.isList) (by rw[fz];simp[intItems]) (λi v hv=>?_) (ziR _ _) λv h' tk mo keep=>?_
 .obtain⟨t,e⟩:=intItems_at hv;refine⟨t,?_⟩;rw[e,numAt_eq,<- f1]
 .rcases mo with ⟨e0,rfl⟩ | ⟨b,u,rfl,h2,h3⟩
  .exact⟨.int k,H2,I2.kept (t':=tk) keep,⟨_,rfl⟩,q2 k (.inl ⟨e0,rfl⟩)⟩
  .exact⟨.int b,H2,I2.kept (t':=tk) keep,⟨_,rfl⟩,q2 b (.inr ⟨h2,h3⟩)⟩
end
end L2
namespace Cells
def qd (p:Nat->Bool)(i:Nat):Nat->List Nat->AD
 | _,[]=>[]
 | j,c::r=>(if p c=true then [(i,j)] else [])++qd p i (j+1) r
def zI (p:Nat->Bool):Nat->List (List Nat)->AD
 | _,[]=>[]
 | i,t::r=>qd p i 0 t++zI p (i+1) r
theorem ZP (p:Nat->Bool)(i:Nat):∀(j:Nat) (a b:List Nat),qd p i j (a++b)=qd p i j a++qd p i (j+a.length) b
 | j,[],b=>by simp[qd]
 | j,c::a,b=>by
  simp only[Pu,qd,ZP p i (j+1) a b,XE,W0];rw[show j+1+a.length=j+(a.length+1) by lia]
theorem ZQ (p:Nat->Bool):∀(i:Nat) (a b:List (List Nat)),zI p i (a++b)=zI p i a++zI p (i+a.length) b
 | i,[],b=>by simp[zI]
 | i,t::a,b=>by
  simp only[Pu,zI,ZQ p (i+1) a b,XE,W0];rw[show i+1+a.length=i+(a.length+1) by lia]
def Qg {p:Nat->Bool}{i j c:Nat}{t:List Nat}(h:t[j]?=some c):qd p i 0 (t.take (j+1))=qd p i 0 (t.take j)++(if p c=true then [(i,j)] else []):=by
 rw[Xh,h,ZP];have hl:(t.take j).length=j:=by
  have:=(XW.mp h).1;rw[XA];lia
 simp[qd,hl]
def Qh {p:Nat->Bool}{i:Nat}{t:List Nat}{rs:List (List Nat)}(h:rs[i]?=some t):zI p 0 (rs.take (i+1))=zI p 0 (rs.take i)++qd p i 0 t:=by
 rw[Xh,h,ZQ];have hl:(rs.take i).length=i:=by
  have:=(XW.mp h).1;rw[XA];lia
 simp[zI,hl]
theorem jO (p:Nat->Bool)(i:Nat):∀(j:Nat) (t:List Nat),(qd p i j t).length<=t.length
 | j,[]=>by simp[qd]
 | j,c::r=>by
  have:=jO p i (j+1) r;simp only[qd,XS,XE];split<;>simp<;>lia
theorem jq (p:Nat->Bool):∀(i:Nat) (rs:List (List Nat)),(∀t∈rs,t.length<=8)->(zI p i rs).length<=8*rs.length
 | i,[],_=>by simp[zI]
 | i,t::r,h=>by
  have h1:=jO p i 0 t;have h2:=jq p (i+1) r λu hu=>h u (XV _ hu);have h3:=h t X2;simp only[zI,XS,XE];lia
theorem Jj {p:Nat->Bool}{i:Nat}:∀{j:Nat} {t:List Nat} {x:AA},x∈qd p i j t->∃m c,x=(i,j+m)/\t[m]?=some c/\p c=true
 | j,[],x,h=>by simp[qd]at h
 | j,c::r,x,h=>by
  simp only[qd,XR]at h;rcases h with h | h
  .split at h
   .rename_i hp;have:x=(i,j):=by simpa using h
    exact⟨0,c,this,rfl,hp⟩
   .cases h
  .obtain⟨m,c',e,h1,h2⟩:=Jj h;exact⟨m+1,c',by rw[e,show j+1+m=j+(m+1) by lia],by simpa using h1,h2⟩
def Jk {p:Nat->Bool}{i:Nat}{rs:List (List Nat)}{x:AA}(h:x∈zI p i rs):∃k j t c,x=(i+k,j)/\rs[k]?=some t/\t[j]?=some c/\p c=true:=by
 induction rs generalizing i with
 | nil=>simp[zI]at h
 | cons t r ih =>
  simp only[zI,XR]at h;rcases h with h | h
  .obtain⟨m,c,e,h1,h2⟩:=Jj h;exact⟨0,m,t,c,by simpa using e,rfl,h1,h2⟩
  .obtain⟨k,j,u,c,e,h1,h2,h3⟩:=ih h;exact⟨k+1,j,u,c,by rw[e,show i+1+k=i+(k+1) by lia],by simpa using h1,h2,h3⟩
def sgn (rs:List (List Nat))(x:AA):Nat:=(rs.getD x.1 []).getD x.2 0
theorem Q2 {p q:Nat->Bool}{i:Nat}(f:AA->Bool):∀(j:Nat) (t:List Nat),(∀m c,t[m]?=some c->f (i,j+m)=q c)->(qd p i j t).filter f=qd (λc=>p c&&q c) i j t
 | j,[],_=>by simp[qd]
 | j,c::r,h=>by
  have ih:=Q2 (p:=p) (q:=q) (i:=i) f (j+1) r λm c' hm=>by
   have:=h (m+1) c' (by simpa using hm);rw[show j+1+m=j+(m+1) by lia];exact this
  have h0:=h 0 c rfl;simp only[qd,W8,ih];congr 1;simp only[Sx]at h0;by_cases hp:p c=true
  .by_cases hq:q c=true
   .simp[hp,hq,h0]
   .simp[hp,hq,h0]
  .simp[hp]
theorem Q3 {p q:Nat->Bool}(f:AA->Bool):∀(i:Nat) (rs:List (List Nat)),(∀k t m c,rs[k]?=some t->t[m]?=some c->f (i+k,m)=q c)->(zI p i rs).filter f=zI (λc=>p c&&q c) i rs
 | i,[],_=>by simp[zI]
 | i,t::r,h=>by
  have ih:=Q3 (p:=p) (q:=q) f (i+1) r λk u m c hk hm=>by
   have:=h (k+1) u m c (by simpa using hk) hm;rw[show i+1+k=i+(k+1) by lia];exact this
  simp only[zI,W8,ih];rw[Q2 (p:=p) (q:=q) f 0 t λm c hm=>by simpa using h 0 t m c rfl hm]
def zci {rs:List (List Nat)}{i j:Nat}{t:List Nat}{c:Nat}(h:rs[i]?=some t)(h2:t[j]?=some c):sgn rs (i,j)=c:=by
 unfold sgn;simp[List.getD,h,h2]
def all_filter {p q:Nat->Bool}(rs:List (List Nat)):(zI p 0 rs).filter (λx=>q (sgn rs x))=zI (λc=>p c&&q c) 0 rs :=
 Q3 _ 0 rs λk t m c hk hm=>by rw[show 0+k=k by lia,zci hk hm]
def zfy {p q:Nat->Bool}(h:∀c,p c=q c)(i:Nat)(rs:List (List Nat)):zI p i rs=zI q i rs:=by
 rw[show p=q from funext h]
def near (x y:AA):Bool:=decide ((if (x.1:Int)-(y.1:Int)<0 then -((x.1:Int)-(y.1:Int)) else (x.1:Int)-(y.1:Int))<2)&&(decide ((if (x.2:Int)-(y.2:Int)<0 then -((x.2:Int)-(y.2:Int)) else (x.2:Int)-(y.2:Int))<2) && !decide (x=y))
def Zg (x y:AA):near x y=true↔(x.1<=y.1+1/\y.1<=x.1+1)/\(x.2<=y.2+1/\y.2<=x.2+1)/\¬ x=y:=by
 unfold near;rw[WG,WG,decide_eq_true_iff,decide_eq_true_iff,Wu,decide_eq_false_iff_not];constructor
 .rintro⟨h1,h2,h3⟩;refine⟨?_,?_,h3⟩
  .split at h1<;>lia
  .split at h2<;>lia
 .rintro⟨h1,h2,h3⟩;refine⟨?_,?_,h3⟩
  .split<;>lia
  .split<;>lia
def lex (a b:AA):Prop:=a.1<b.1\/(a.1=b.1/\a.2<b.2)
theorem zdz (p:Nat->Bool)(i:Nat):∀(j:Nat) (t:List Nat),(qd p i j t).Pairwise lex
 | j,[]=>by simp[qd]
 | j,c::r=>by
  simp only[qd];rw[UZ];refine⟨?_,zdz p i (j+1) r,λa ha b hb=>?_⟩
  .split<;>simp
  .split at ha
   .have e:a=(i,j):=by simpa using ha
    obtain⟨m,c',e',_,_⟩:=Jj hb;subst e e';exact .inr ⟨rfl,by show j<j+1+m;lia⟩
   .cases ha
theorem jP (p:Nat->Bool):∀(i:Nat) (rs:List (List Nat)),(zI p i rs).Pairwise lex
 | i,[]=>by simp[zI]
 | i,t::r=>by
  simp only[zI];rw[UZ];refine⟨zdz p i 0 t,jP p (i+1) r,λa ha b hb=>?_⟩;obtain⟨m,c,e,_,_⟩:=Jj ha;obtain⟨k,j,u,c',e',_,_,_⟩:=Jk hb;subst e e';exact .inl (by show i<i+1+k;lia)
def zko {p:Nat->Bool}{f:AA->Bool}{n:Nat}{rs:List (List Nat)}(h:∀r c,r<n->f (r,c)=false):(zI p 0 (rs.take n)).filter f=[]:=by
 rw[VS];intro x hx;obtain⟨k,j,t,c,e,hk,_,_⟩:=Jk hx;have hkl:k<n:=by
  have:=(XW.mp hk).1;rw[XA]at this;lia
 subst e;rw[h _ _ (by lia)];exact XT
def ziS {p:Nat->Bool}{f:AA->Bool}{n:Nat}{rs:List (List Nat)}(h:∀r c,n<=r->f (r,c)=false):(zI p 0 (rs.take n)).filter f=(zI p 0 rs).filter f:=by
 by_cases hn:n<=rs.length
 .have e:=WF n rs;have e2:zI p 0 rs=zI p 0 (rs.take n)++zI p (0+(rs.take n).length) (rs.drop n):=by rw[<- ZQ,e]
  rw[e2,W8];have z:(zI p (0+(rs.take n).length) (rs.drop n)).filter f=[]:=by
   rw[VS];intro x hx;obtain⟨k,j,t,c,e,hk,_,_⟩:=Jk hx;subst e;rw[XA,h _ _ (by lia)];exact XT
  rw[z,W6]
 .rw[WD (by lia)]
def zkp {p:Nat->Bool}{f:AA->Bool}{i n:Nat}{t:List Nat}(h:∀c,c<n->f (i,c)=false):(qd p i 0 (t.take n)).filter f=[]:=by
 rw[VS];intro x hx;obtain⟨m,c,e,hm,_⟩:=Jj hx;have hml:m<n:=by
  have:=(XW.mp hm).1;rw[XA]at this;lia
 subst e;rw[h _ (by lia)];exact XT
def ziT {p:Nat->Bool}{f:AA->Bool}{i n:Nat}{t:List Nat}(h:∀c,n<=c->f (i,c)=false):(qd p i 0 (t.take n)).filter f=(qd p i 0 t).filter f:=by
 by_cases hn:n<=t.length
 .have e:=WF n t;have e2:qd p i 0 t=qd p i 0 (t.take n)++qd p i (0+(t.take n).length) (t.drop n):=by rw[<- ZP,e]
  rw[e2,W8];have z:(qd p i (0+(t.take n).length) (t.drop n)).filter f=[]:=by
   rw[VS];intro x hx;obtain⟨m,c,e,hm,_⟩:=Jj hx;subst e;rw[XA,h _ (by lia)];exact XT
  rw[z,W6]
 .rw[WD (by lia)]
end Cells
namespace Parts
abbrev C:=AA
structure Good (cl:C->List C)(done:List C)(gs:List (List C)):Prop where
 ne:∀g∈gs,g ≠ []
 nd:gs.flatten.Nodup
 from_:∀x∈gs.flatten,∃o∈done,x∈cl o
 cov:∀o∈done,cl o ≠ []->∃g∈gs,∀x∈cl o,x∈g
 con:∀g∈gs,∀S:C->Prop,(∀o∈done,(∃x∈cl o,S x)->∀x∈cl o,S x)->(∃x∈g,S x)->∀x∈g,S x
 srt:∀g∈gs,g.Pairwise Cells.lex
def Good.start (cl:C->List C):Good cl [] []:=⟨(λ_ h=>nomatch h),T7,(λ_ h=>nomatch h),(λ_ h=>nomatch h),(λ_ h=>nomatch h),(λ_ h=>nomatch h)⟩
def Good.skip {cl:C->List C}{done:List C}{gs:List (List C)}(G:Good cl done gs){o:C}(h:cl o=[]):Good cl (done++[o]) gs:=by
 refine⟨G.ne,G.nd,λx hx=>?_,λp hp hn=>?_,λg hg S hS=>G.con g hg S λp hp=>hS p (Xi _ hp),G.srt⟩
 .obtain⟨p,hp,hx⟩:=G.from_ x hx;exact⟨p,Xi _ hp,hx⟩
 .rcases XR.mp hp with hp | hp
  .exact G.cov p hp hn
  .have e:p=o:=by simpa using hp
   subst e;exact absurd h hn
def zaN {gs:List (List C)}(nd:gs.flatten.Nodup):∀{g g':List C} {x:C},g∈gs->g'∈gs->x∈g->x∈g'->g=g':=by
 induction gs with
 | nil=>intro g g' x h;cases h
 | cons a r ih =>
  rw[WH,VG]at nd;obtain⟨_,h2,h3⟩:=nd;intro g g' x hg hg' hx hx';rcases XQ.mp hg with e1 | g1
  .rcases XQ.mp hg' with e2 | g2
   .rw[e1,e2]
   .exact absurd rfl (h3 x (e1 ▸ hx) x (Wy.mpr ⟨g',g2,hx'⟩))
  .rcases XQ.mp hg' with e2 | g2
   .exact absurd rfl (h3 x (e2 ▸ hx') x (Wy.mpr ⟨g,g1,hx⟩))
   .exact ih h2 g1 g2 hx hx'
theorem qR (p:List C->Bool):∀gs:List (List C),(gs.filter p).flatten.Sublist gs.flatten
 | []=>List.Sublist.refl _
 | a::r=>by
  rw[Wn,WH];split
  .rw[WH];exact List.Sublist.append (List.Sublist.refl _) (qR p r)
  .exact List.Sublist.trans (qR p r) (Qb _ _)
def meets (g0 g:List C):Bool:=!(g.filter λc=>g0.any λx=>decide (x=c)).isEmpty
def Zh {g0 g:List C}:meets g0 g=true ↔ ∃x∈g,x∈g0:=by
 unfold meets;rw[Wu,VA];constructor
 .intro h;obtain⟨x,hx⟩:=VU _ h;rw[XX,Wm]at hx;obtain⟨h1,y,h2,h3⟩:=hx;have e:y=x:=bh h3;subst e;exact⟨y,h1,h2⟩
 .rintro⟨x,h1,h2⟩ hn;have:x∈g.filter λc=>g0.any λx=>decide (x=c):=XX.mpr ⟨h1,Wm.mpr ⟨x,h2,br rfl⟩⟩;rw[hn]at this;cases this
def whole (w:List C):List (List C)->List C
 | []=>w
 | g::r=>whole (w++g.filter λc=>!(w.any λx=>decide (x=c))) r
def Q4 (w:List C)(c:C):(w.any λx=>decide (x=c))=true↔c∈w:=by
 rw[Wm];constructor
 .rintro⟨x,h1,h2⟩;have e:x=c:=bh h2;subst e;exact h1
 .intro h;exact⟨c,h,br rfl⟩
theorem zaO {x:C}:∀{w:List C} {ms:List (List C)},x∈whole w ms↔x∈w\/∃m∈ms,x∈m
 | w,[]=>by simp[whole]
 | w,g::r=>by
  rw[whole,zaO,XR,XX];constructor
  .rintro((h | ⟨h,_⟩) | ⟨m,hm,h⟩)
   .exact .inl h
   .exact .inr ⟨g,X2,h⟩
   .exact .inr ⟨m,XV _ hm,h⟩
  .rintro(h | ⟨m,hm,h⟩)
   .exact .inl (.inl h)
   .rcases XQ.mp hm with rfl | hm
    .by_cases hw:x∈w
     .exact .inl (.inl hw)
     .refine .inl (.inr ⟨h,?_⟩);rw[Wu,WX];exact λz=>hw ((Q4 w x).mp z)
    .exact .inr ⟨m,hm,h⟩
theorem Ym:∀{w:List C} {ms:List (List C)},w.Nodup->(∀m∈ms,m.Nodup)->(whole w ms).Nodup
 | w,[],h,_=>h
 | w,g::r,h,hm=>by
  rw[whole];refine Ym ?_ λm hm'=>hm m (XV _ hm');rw[VG];refine⟨h,(hm g X2).sublist Wj,λa ha b hb e=>?_⟩;subst e;have hb2:=(XX.mp hb).2;rw[(Q4 w a).mpr ha]at hb2;cases hb2
def Good.step {cl:C->List C}{done:List C}{gs:List (List C)}(G:Good cl done gs){o:C}(h:cl o ≠ [])(hn:(cl o).Nodup){rest:List (List C)}{w:List C}(hr:rest=gs.filter λg=>!((gs.filter (meets (cl o))).any λm=>decide (m=g)))
  (hw:w.Perm (whole (cl o) (gs.filter (meets (cl o))))) (hs:w.Pairwise Cells.lex):Good cl (done++[o]) (rest++[w]):=by
 have mr:∀g,g∈rest↔g∈gs/\¬ ∃x∈g,x∈cl o:=λg=>by
  rw[hr,XX,Wu,WX];constructor
  .rintro⟨h1,h2⟩;exact⟨h1,λh3=>h2 (Wm.mpr ⟨g,XX.mpr ⟨h1,Zh.mpr h3⟩,br rfl⟩)⟩
  .rintro⟨h1,h2⟩;refine⟨h1,λh3=>?_⟩;obtain⟨m,hm,e⟩:=Wm.mp h3;have e':m=g:=bh e;subst e';exact h2 (Zh.mp (XX.mp hm).2)
 have mw:∀x,x∈w↔x∈cl o\/∃g∈gs,(∃y∈g,y∈cl o)/\x∈g:=λx=>by
  rw[hw.mem_iff,zaO];constructor
  .rintro(h1 | ⟨m,hm,h1⟩)
   .exact .inl h1
   .obtain⟨h2,h3⟩:=XX.mp hm;exact .inr ⟨m,h2,Zh.mp h3,h1⟩
  .rintro(h1 | ⟨g,h2,h3,h1⟩)
   .exact .inl h1
   .exact .inr ⟨g,XX.mpr ⟨h2,Zh.mpr h3⟩,h1⟩
 have gn:∀g∈gs,g.Nodup:=λg hg=>G.nd.sublist (V4 hg);have wn:w.Nodup:=hw.nodup_iff.mpr (Ym hn λm hm=>gn m (XX.mp hm).1);refine⟨λg hg=>?_,?_,λx hx=>?_,λp hp hne=>?_,λg hg S hS=>?_,λg hg=>?_⟩
 .rcases XR.mp hg with hg | hg
  .exact G.ne g ((mr g).mp hg).1
  .have e:g=w:=by simpa using hg
   subst e;obtain⟨x,hx⟩:=VU _ h;exact Uy ((mw x).mpr (.inl hx))
 .rw[Wi,VG];refine⟨G.nd.sublist (by rw[hr];exact qR _ gs),by simpa using wn,λa ha b hb e=>?_⟩;subst e;have hb':a∈w:=by simpa using hb
  obtain⟨g,hg,hx⟩:=Wy.mp ha;obtain⟨g1,g2⟩:=(mr g).mp hg;rcases(mw a).mp hb' with h1 | ⟨m,m1,m2,m3⟩
  .exact g2 ⟨a,hx,h1⟩
  .have e:=zaN G.nd g1 m1 hx m3;subst e;exact g2 m2
 .rw[Wi]at hx;rcases XR.mp hx with hx | hx
  .obtain⟨g,hg,hx⟩:=Wy.mp hx;obtain⟨p,hp,hx⟩:=G.from_ x (Wy.mpr ⟨g,((mr g).mp hg).1,hx⟩);exact⟨p,Xi _ hp,hx⟩
  .have hx':x∈w:=by simpa using hx
   rcases(mw x).mp hx' with h1 | ⟨g,g1,_,g3⟩
   .exact⟨o,by simp,h1⟩
   .obtain⟨p,hp,hx⟩:=G.from_ x (Wy.mpr ⟨g,g1,g3⟩);exact⟨p,Xi _ hp,hx⟩
 .rcases XR.mp hp with hp | hp
  .obtain⟨g,hg,hx⟩:=G.cov p hp hne;by_cases hm:∃x∈g,x∈cl o
   .exact⟨w,by simp,λx hx'=>(mw x).mpr (.inr ⟨g,hg,hm,hx x hx'⟩)⟩
   .exact⟨g,Xi _ ((mr g).mpr ⟨hg,hm⟩),hx⟩
  .have e:p=o:=by simpa using hp
   subst e;exact⟨w,by simp,λx hx=>(mw x).mpr (.inl hx)⟩
 .have hS':∀p∈done,(∃x∈cl p,S x)->∀x∈cl p,S x:=λp hp=>hS p (Xi _ hp);rcases XR.mp hg with hg | hg
  .exact G.con g ((mr g).mp hg).1 S hS'
  .have e:g=w:=by simpa using hg
   subst e;rintro⟨x,hx,sx⟩;have all0:∀y∈cl o,S y:=by
    refine hS o (by simp) ?_;rcases(mw x).mp hx with h1 | ⟨m,m1,⟨y,y1,y2⟩,m3⟩
    .exact⟨x,h1,sx⟩
    .exact⟨y,y2,G.con m m1 S hS' ⟨x,m3,sx⟩ y y1⟩
   intro z hz;rcases(mw z).mp hz with h1 | ⟨m,m1,⟨y,y1,y2⟩,m3⟩
   .exact all0 z h1
   .exact G.con m m1 S hS' ⟨y,y1,all0 y y2⟩ z m3
 .rcases XR.mp hg with hg | hg
  .exact G.srt g ((mr g).mp hg).1
  .have e:g=w:=by simpa using hg
   subst e;exact hs
def Good.perm {cl:C->List C}{done:List C}{gs gs':List (List C)}(G:Good cl done gs)(h:gs'.Perm gs):Good cl done gs':=by
 refine⟨λg hg=>G.ne g (h.mem_iff.mp hg),h.flatten.nodup_iff.mpr G.nd,λx hx=>G.from_ x (h.flatten.mem_iff.mp hx),λo ho hn=>?_,λg hg=>G.con g (h.mem_iff.mp hg),λg hg=>G.srt g (h.mem_iff.mp hg)⟩;obtain⟨g,hg,hx⟩:=G.cov o ho hn;exact⟨g,h.mem_iff.mpr hg,hx⟩
theorem Yn:∀{gs:List (List C)},(∀g∈gs,g ≠ [])->gs.length<=gs.flatten.length
 | [],_=>XU _
 | g::r,h=>by
  have ih:=Yn (gs:=r) λx hx=>h x (XV _ hx);have:1<=g.length:=NZ.mpr (h g X2);rw[WH,XS,XE];lia
theorem yg:∀{a b:List C},a.Nodup->(∀x∈a,x∈b)->a.length<=b.length
 | [],_,_,_=>W7 _
 | x::r,b,h,s=>by
  obtain⟨h1,h2⟩:=Wl.mp h;have hx:=s x X2;have ih:=yg (a:=r) (b:=b.erase x) h2 λy hy=>(RN (λ(e:y=x)=>h1 (by rw[<- e];exact hy))).mpr (s y (XV _ hy));rw[S4 hx]at ih;have:=Vg hx;rw[XE];lia
end Parts
namespace Subs
variable {α:Type}
def step (S:List (List α))(c:α):List (List α):=S++S.map (·++[c])
def subs (cs:List α):List (List α):=cs.foldl step [[]]
def pick:List α->Nat->List α
 | [],_=>[]
 | c::r,b=>(if b%2=1 then [c] else [])++pick r (b/2)
def ziU (cs:List α)(c:α):subs (cs++[c])=step (subs cs) c:=by
 unfold subs;rw[Sq];rfl
theorem zhL:∀(cs:List α) (c:α) (b:Nat),b<2^cs.length->pick (cs++[c]) b=pick cs b
 | [],c,b,h=>by
  have:b=0:=by
   simp at h;lia
  subst this;rfl
 | d::r,c,b,h=>by
  show _++pick (r++[c]) (b/2)=_++pick r (b/2);rw[zhL r c (b/2) (by
   rw[XE,TZ]at h;lia)]
theorem zhM:∀(cs:List α) (c:α) (b:Nat),b<2^cs.length->pick (cs++[c]) (2^cs.length+b)=pick cs b++[c]
 | [],c,b,h=>by
  have:b=0:=by
   simp at h;lia
  subst this;rfl
 | d::r,c,b,h=>by
  rw[XE,TZ]at h;show (if (2^(r.length+1)+b)%2=1 then [d] else [])++pick (r++[c]) ((2^(r.length+1)+b)/2)=((if b%2=1 then [d] else [])++pick r (b/2))++[c];have e1:(2^(r.length+1)+b)%2=b%2:=by
   rw[TZ];lia
  have e2:(2^(r.length+1)+b)/2=2^r.length+b/2:=by
   rw[TZ];lia
  rw[e1,e2,zhM r c (b/2) (by lia),W0]
def zaP (cs:List α):subs cs=(Xp (2^cs.length)).map (pick cs):=by
 rw[<- Oj cs];induction cs.reverse with
 | nil=>rfl
 | cons c r ih =>
  rw[List.reverse_cons,ziU,ih,XS,ON,TZ,Nat.mul_two,List.range_add,Xj,WY];unfold step;rw[WY];congr 1
  .refine Xm λb hb=>?_;exact(zhL _ _ _ (Xq.mp hb)).symm
  .refine Xm λb hb=>?_;exact(zhM _ _ _ (Xq.mp hb)).symm
end Subs
namespace Grow
variable {α β:Type}
def cnt (near:β->α->Bool)(o:β)(p:List α):Nat:=(p.filter (near o)).length
def zcj (near:β->α->Bool)(num:β->Int)(rest:List α)(o:β)(p:List α):Bool:=decide (num o-((cnt near o rest:Nat):Int)<=((cnt near o p:Nat):Int))&&decide (((cnt near o p:Nat):Int)<=num o)
def chk (near:β->α->Bool)(num:β->Int)(O:List β)(c:α)(rest:List α)(p:List α):Bool:=(O.filter λo=>near o c).all λo=>zcj near num rest o p
def grow (near:β->α->Bool)(num:β->Int)(O:List β):List (List α)->List α->List (List α)
 | F,[]=>F
 | F,c::rest=>grow near num O ((Subs.step F c).filter (chk near num O c rest)) rest
def good (near:β->α->Bool)(num:β->Int)(O:List β)(done rest:List α)(p:List α):Bool:=(O.filter λo=>done.any (near o)).all λo=>zcj near num rest o p
def cnt_cons (near:β->α->Bool)(o:β)(c:α)(r:List α):cnt near o (c::r)=cnt near o r+if near o c=true then 1 else 0:=by
 unfold cnt;rw[Wn];split<;>rfl
def zfz (near:β->α->Bool)(o:β)(p:List α)(c:α):cnt near o (p++[c])=cnt near o p+if near o c=true then 1 else 0:=by
 unfold cnt;rw[W8,XS];congr 1;rw[Wn];split<;>rfl
def j7 {near:β->α->Bool}{num:β->Int}{rest:List α}{o:β}{p:List α}:zcj near num rest o p=true↔num o-((cnt near o rest:Nat):Int)<=((cnt near o p:Nat):Int)/\((cnt near o p:Nat):Int)<=num o:=by
 unfold zcj;rw[WG,bu,bu]
def zhN {near:β->α->Bool}{num:β->Int}{O:List β}{c:α}{rest p:List α}:chk near num O c rest p=true ↔ ∀o∈O,near o c=true->zcj near num rest o p=true:=by
 unfold chk;rw[Wx];exact⟨λh o ho hn=>h o (XX.mpr ⟨ho,hn⟩),λh o ho=>h o (XX.mp ho).1 (XX.mp ho).2⟩
def Yo {near:β->α->Bool}{num:β->Int}{O:List β}{done rest p:List α}:good near num O done rest p=true ↔ ∀o∈O,done.any (near o)=true->zcj near num rest o p=true:=by
 unfold good;rw[Wx];exact⟨λh o ho hn=>h o (XX.mpr ⟨ho,hn⟩),λh o ho=>h o (XX.mp ho).1 (XX.mp ho).2⟩
def Zi (near:β->α->Bool)(o:β)(done:List α)(c:α):(done++[c]).any (near o)=true↔done.any (near o)=true\/near o c=true:=by
 rw[List.any_append,Bool.or_eq_true];simp
def zme (near:β->α->Bool)(num:β->Int)(O:List β)(done rest:List α)(c:α)(p:List α):(good near num O done (c::rest) p&&chk near num O c rest p)=good near num O (done++[c]) rest p:=by
 rw[Ww,WG,Yo,zhN,Yo];constructor
 .rintro⟨h1,h2⟩ o ho hn;by_cases hc:near o c=true
  .exact h2 o ho hc
  .have:=h1 o ho (((Zi near o done c).mp hn).resolve_right hc);rw[j7,cnt_cons,bq hc]at this;exact j7.mpr this
 .intro h;refine⟨λo ho hn=>?_,λo ho hc=>h o ho ((Zi near o done c).mpr (.inr hc))⟩;have:=j7.mp (h o ho ((Zi near o done c).mpr (.inl hn)));rw[j7,cnt_cons];split<;>lia
def zmf (near:β->α->Bool)(num:β->Int)(O:List β)(done rest:List α)(c:α)(p:List α):(good near num O done (c::rest) p&&chk near num O c rest (p++[c]))=good near num O (done++[c]) rest (p++[c]):=by
 rw[Ww,WG,Yo,zhN,Yo];constructor
 .rintro⟨h1,h2⟩ o ho hn;by_cases hc:near o c=true
  .exact h2 o ho hc
  .have:=h1 o ho (((Zi near o done c).mp hn).resolve_right hc);rw[j7,cnt_cons,bq hc]at this;rw[j7,zfz,bq hc];exact this
 .intro h;refine⟨λo ho hn=>?_,λo ho hc=>h o ho ((Zi near o done c).mpr (.inr hc))⟩;have:=j7.mp (h o ho ((Zi near o done c).mpr (.inl hn)));rw[zfz]at this;rw[j7,cnt_cons];split at this<;>rename_i hc
  .rw[bw hc];lia
  .rw[bq hc];lia
def ziV (near:β->α->Bool)(num:β->Int)(O:List β)(done rest:List α)(c:α)(S:List (List α)):(Subs.step (S.filter (good near num O done (c::rest))) c).filter (chk near num O c rest)=(Subs.step S c).filter (good near num O (done++[c]) rest):=by
 unfold Subs.step;rw[W8,W8];congr 1
 .rw[Ux];refine Vi λp _=>?_;rw[<- zme,PL]
 .rw[TQ,TQ,Ux];congr 1;refine Vi λp _=>?_;show (chk near num O c rest (p++[c])&&good near num O done (c::rest) p)=good near num O (done++[c]) rest (p++[c]);rw[<- zmf,PL]
theorem zdA (near:β->α->Bool)(num:β->Int)(O:List β):∀(rest done:List α) (S:List (List α)),grow near num O (S.filter (good near num O done rest)) rest=(rest.foldl Subs.step S).filter (good near num O (done++rest) [])
 | [],done,S=>by
  rw[W6];rfl
 | c::r,done,S=>by
  show grow near num O ((Subs.step (S.filter (good near num O done (c::r))) c).filter (chk near num O c r)) r=_;rw[ziV,zdA near num O r (done++[c]) (Subs.step S c),W0];rfl
def fits (near:β->α->Bool)(num:β->Int)(O:List β)(part:List α)(p:List α):Bool:=(O.filter λo=>part.any (near o)).all λo=>decide (((cnt near o p:Nat):Int)=num o)
def zmg (near:β->α->Bool)(num:β->Int)(O:List β)(part:List α):grow near num O [[]] part=(Subs.subs part).filter (fits near num O part):=by
 have h:=zdA near num O part [] [[]];have e:([[]]:List (List α)).filter (good near num O [] part)=[[]]:=by
  have:good near num O [] part []=true:=Yo.mpr λo _ hn=>by simp at hn
  rw[Wn,bw this];rfl
 rw[e]at h;rw[h];show (Subs.subs part).filter _=_;refine Vi λp _=>?_;rw[RK];unfold good fits;congr 1;funext o;rw[Ww,j7,bu];show num o-((0:Nat):Int)<=_/\_↔_;lia
end Grow
namespace Cnt
variable {α:Type}
def xN (g:Nat)(ks:List (List α)):List Int:=(Xp (g+1)).map λn=>((ks.countP λk=>decide (k.length=n):Nat):Int)
def Q5 (g:Nat)(ks:List (List α)):(xN g ks).length=g+1:=by
 unfold xN;rw[Y1,W4]
def zkq (g:Nat):xN g ([]:List (List α))=WP (g+1) 0:=by
 unfold xN;refine List.eq_replicate_iff.mpr ⟨by rw[Y1,W4],λb hb=>?_⟩;obtain⟨n,_,rfl⟩:=XO.mp hb;rfl
def zck {g n:Nat}(ks:List (List α))(h:n<=g):(xN g ks)[n]?=some ((ks.countP λk=>decide (k.length=n):Nat):Int):=by
 unfold xN;rw[Xn,UK (by lia)];rfl
def ziW {g:Nat}(ks:List (List α)){k:List α}(h:k.length<=g):xN g (ks++[k])=(xN g ks).set k.length (((ks.countP λx=>decide (x.length=k.length):Nat):Int)+1):=by
 refine TB λn=>?_;rw[List.getElem?_set];by_cases hn:n<=g
 .rw[zck _ hn,zck _ hn,Q5,List.countP_append];by_cases e:k.length=n
  .rw[bw e,bw (by lia)];subst e;simp
  .rw[bq e];simp[e]
 .have e1:∀xs:List (List α),(xN g xs)[n]?=none:=λxs=>Sd (by rw[Q5];lia);rw[e1,e1,Q5,bq (by lia)]
def zaQ {g:Nat}{as bs:List (List α)}(h:as.Perm bs):xN g as=xN g bs:=by
 unfold xN;refine Xm λn _=>?_;rw[h.countP_eq]
end Cnt
namespace Pour
def S (h:Nat->Int):Nat->Int
 | 0=>0
 | n+1=>S h n+h n
def F (xs:List Int)(i:Nat):Int:=(xs[i]?).getD 0
def hk (xs ys:List Int)(k i:Nat):Int:=if i<=k then F xs i*F ys (k-i) else 0
def JY (xs ys:List Int):List Int:=(Xp (xs.length+ys.length-1)).map λk=>S (hk xs ys k) xs.length
def part (xs ys:List Int)(i j k:Nat):Int:=S (hk xs ys k) i+(if i<=k/\k-i<j then F xs i*F ys (k-i) else 0)
def st (xs ys:List Int)(i j:Nat):List Int:=(Xp (xs.length+ys.length-1)).map (part xs ys i j)
def zcl {xs:List Int}{i:Nat}(h:xs.length<=i):F xs i=0:=by
 unfold F;rw[Sd h];rfl
def zmh {xs:List Int}{i:Nat}{x:Int}(h:xs[i]?=some x):F xs i=x:=by
 unfold F;rw[h];rfl
theorem JQ {f g:Nat->Int}:∀n,(∀i,i<n->f i=g i)->S f n=S g n
 | 0,_=>rfl
 | n+1,h=>by
  show S f n+f n=S g n+g n;rw[JQ n λi hi=>h i (by lia),h n (by lia)]
theorem zkr {f:Nat->Int}{n:Nat}:∀m,(∀i,n<=i->i<n+m->f i=0)->S f (n+m)=S f n
 | 0,_=>rfl
 | m+1,h=>by
  show S f (n+m)+f (n+m)=S f n;rw[zkr m λi h1 h2=>h i h1 (by lia),h (n+m) (by lia) (by lia),Sw]
def zmi {f:Nat->Int}{n m:Nat}(hm:n<=m)(h:∀i,n<=i->i<m->f i=0):S f m=S f n:=by
 obtain⟨d,rfl⟩:∃d,m=n+d:=⟨m-n,by lia⟩;exact zkr d h
def zoj (xs ys:List Int)(k:Nat):S (hk xs ys k) xs.length=S (λi=>F xs i*F ys (k-i)) (k+1):=by
 have e1:S (λi=>F xs i*F ys (k-i)) (k+1)=S (hk xs ys k) (k+1):=JQ _ λi hi=>by
  unfold hk;rw[bw (by lia)]
 rw[e1];by_cases c:xs.length<=k+1
 .refine(zmi c λi h1 _=>?_).symm;unfold hk;rw[zcl h1];split<;>simp
 .refine zmi (by lia) λi h1 _=>?_;unfold hk;rw[bq (by lia)]
def zgG (xs ys:List Int)(i j:Nat):(st xs ys i j).length=xs.length+ys.length-1:=by
 unfold st;rw[Y1,W4]
def zgH {xs ys:List Int}{i j k:Nat}(h:k<xs.length+ys.length-1):(st xs ys i j)[k]?=some (part xs ys i j k):=by
 unfold st;rw[Xn,UK h];rfl
def zks (xs ys:List Int):st xs ys 0 0=WP (xs.length+ys.length-1) 0:=by
 unfold st;have e:∀k,part xs ys 0 0 k=0:=λk=>by
  unfold part;rw[bq (by lia)];rfl
 refine(Xm (g:=λ_=>(0:Int)) λk _=>e k).trans ?_;rw[List.map_const',W4]
def zkt (xs ys:List Int)(i k:Nat):part xs ys i ys.length k=part xs ys (i+1) 0 k:=by
 unfold part;rw[bq (show ¬ (i+1<=k/\k-(i+1)<0) by lia),Sw];show _=S (hk xs ys k) i+hk xs ys k i;congr 1;unfold hk;by_cases c:i<=k
 .by_cases d:k-i<ys.length
  .rw[bw ⟨c,d⟩,bw c]
  .rw[bq (λz=>d z.2),bw c,zcl (show ys.length<=k-i by lia),NE]
 .rw[bq (λz=>c z.1),bq c]
def zok (xs ys:List Int)(i:Nat):st xs ys i ys.length=st xs ys (i+1) 0:=by
 unfold st;exact Xm λk _=>zkt xs ys i k
def zmj {xs ys:List Int}{i j:Nat}{x y:Int}(hx:xs[i]?=some x)(hy:ys[j]?=some y):(st xs ys i j).set (i+j) (part xs ys i j (i+j)+x*y)=st xs ys i (j+1):=by
 have hi:i<xs.length:=(XW.mp hx).1;have hj:j<ys.length:=(XW.mp hy).1;apply TB;intro k;rw[List.getElem?_set];by_cases c:k<xs.length+ys.length-1
 .rw[zgH c,zgH c];by_cases e:i+j=k
  .subst e;rw[bw rfl,bw (by rw[zgG];exact c)];congr 1;unfold part;rw[bq (by lia),bw (by lia),Sw,zmh hx,SG,zmh hy]
  .rw[bq e];congr 1;unfold part;congr 1;by_cases d:i<=k/\k-i<j
   .rw[bw d,bw (by lia)]
   .rw[bq d,bq (by lia)]
 .have n1:∀j',(st xs ys i j')[k]?=none:=λj'=>Sd (by rw[zgG];lia);rw[n1,n1];by_cases e:i+j=k
  .lia
  .rw[bq e]
def zol (xs ys:List Int):st xs ys xs.length 0=JY xs ys:=by
 unfold st JY;refine Xm λk _=>?_;unfold part;rw[bq (by lia),Sw]
end Pour
namespace Choose
def ch:Nat->Nat->Nat
 | _,0=>1
 | 0,_+1=>0
 | n+1,k+1=>ch n k+ch n (k+1)
def YI (n:Nat):ch n 0=1:=by cases n<;>rfl
theorem zaR:∀(n k:Nat),n<k->ch n k=0
 | 0,0,h=>absurd h (by lia)
 | 0,k+1,_=>rfl
 | n+1,0,h=>absurd h (by lia)
 | n+1,k+1,h=>by
  show ch n k+ch n (k+1)=0;rw[zaR n k (by lia),zaR n (k+1) (by lia)]
theorem zbF:∀n k:Nat,(k+1)*ch n (k+1)+k*ch n k=n*ch n k
 | 0,0=>rfl
 | 0,k+1=>by
  show (k+1+1)*0+(k+1)*0=0*0;simp
 | n+1,0=>by
  have h:=zbF n 0;rw[YI]at h ⊢;show (0+1)*(ch n 0+ch n (0+1))+0*1=(n+1)*1;rw[YI];lia
 | n+1,j+1=>by
  have h1:=zbF n (j+1);have h2:=zbF n j;show (j+1+1)*(ch n (j+1)+ch n (j+1+1))+(j+1)*(ch n j+ch n (j+1))=(n+1)*(ch n j+ch n (j+1));generalize ch n (j+1+1)=C2 at *
  generalize ch n (j+1)=C1 at *
  generalize ch n j=C0 at *
  simp only[Nat.add_mul,Nat.mul_add,Nat.one_mul]at *
  lia
def zmk {n k:Nat}(h:k<n):(ch n k:Int)*((n:Int)-k)/((k:Int)+1)=ch n (k+1):=by
 have e:=zbF n k;have e2:(ch n k:Int)*((n:Int)-k)=(ch n (k+1):Int)*((k:Int)+1):=by
  have:((k+1)*ch n (k+1)+k*ch n k:Int)=(n*ch n k:Int):=by exact_mod_cast e
  rw[Int.mul_sub,ND (ch n k:Int) n,<- this,ND (ch n (k+1):Int) ((k:Int)+1),ND (ch n k:Int) (k:Int)];lia
 rw[e2];exact Int.mul_ediv_cancel _ (by lia)
def zpE (n:Nat):∀k,ch n k<=2^n:=by
 induction n with
 | zero =>
  intro k;cases k with
  | zero=>decide
  | succ k =>
   show (0:Nat)<=2^0;decide
 | succ n ih =>
  intro k;cases k with
  | zero =>
   rw[YI];exact Nat.one_le_two_pow
  | succ k =>
   show ch n k+ch n (k+1)<=2^(n+1);rw[TZ];have:=ih k;have:=ih (k+1);lia
end Choose
namespace Tally
open Subs
variable {α:Type}
theorem Q6:∀(B:List α) (S0:List (List α)),B.foldl step S0=(subs B).flatMap λb=>S0.map (·++b)
 | [],S0=>by simp[subs]
 | c::r,S0=>by
  have e:subs (c::r)=(subs r).flatMap λb=>[b,c::b]:=by
   show r.foldl step (step [[]] c)=_;rw[Q6 r];rfl
  show r.foldl step (step S0 c)=_;rw[Q6 r,e,List.flatMap_assoc];congr 1;funext b;show (S0++S0.map (·++[c])).map (·++b)=S0.map (·++b)++(S0.map (·++(c::b))++[]);rw[Xj,W6,WY];congr 1;refine Xm λx _=>?_;show x++[c]++b=_;rw[W0];rfl
def zaS (c:α)(r:List α):subs (c::r)=(subs r).flatMap λb=>[b,c::b]:=by
 show r.foldl step (step [[]] c)=_;rw[Q6 r];rfl
def Q7 (A B:List α):subs (A++B)=(subs B).flatMap λb=>(subs A).map (·++b):=by
 unfold subs;rw[Sq];exact Q6 B _
theorem zdB (c:α)(p:List α->Bool):∀L:List (List α),(L.flatMap λb=>[b,c::b]).countP p=L.countP p+L.countP λS=>p (c::S)
 | []=>rfl
 | b::L=>by
  have ih:=zdB c p L;rw[List.flatMap_cons,List.countP_append,ih,Ws (l:=L),Ws (l:=L),Ws,Ws,List.countP_nil];lia
def count_cons (c:α)(r:List α)(p:List α->Bool):(subs (c::r)).countP p=(subs r).countP p+(subs r).countP λS=>p (c::S):=by
 rw[zaS,zdB]
def Inv (p:List α->Bool):Prop:=∀a b,a.Perm b->p a=p b
theorem Inv.cons {p:List α->Bool}(h:Inv p)(c:α):Inv λS=>p (c::S):=λ_ _ e=>h _ _ (e.cons c)
def zgI {cs ds:List α}(e:cs.Perm ds):∀{p:List α->Bool},Inv p->(subs cs).countP p=(subs ds).countP p:=by
 induction e with
 | nil=>intro p _;rfl
 | cons c _ ih =>
  intro p h;rw[count_cons,count_cons,ih h,ih (h.cons c)]
 | swap x y l =>
  intro p h;rw[count_cons,count_cons,count_cons,count_cons,count_cons,count_cons];have:(subs l).countP (λS=>p (y::x::S))=(subs l).countP λS=>p (x::y::S):=Vh λS _=>by rw[h _ _ (List.Perm.swap x y S)]
  lia
 | trans _ _ i1 i2 =>
  intro p h;exact(i1 h).trans (i2 h)
def T (cs:List α)(p:List α->Bool)(k:Nat):Nat:=(subs cs).countP λS=>decide (S.length=k)&&p S
def zaT {cs ds:List α}(e:cs.Perm ds){p:List α->Bool}(h:Inv p)(k:Nat):T cs p k=T ds p k:=zgI e λa b e=>by rw[h a b e,e.length_eq]
def zey {cs:List α}{p q:List α->Bool}(h:∀S∈subs cs,p S=q S)(k:Nat):T cs p k=T cs q k:=Vh λS hS=>by rw[h S hS]
theorem zm9 (f g:Nat->Int):∀n,Pour.S (λi=>f i+g i) n=Pour.S f n+Pour.S g n
 | 0=>rfl
 | n+1=>by
  show Pour.S (λi=>f i+g i) n+(f n+g n)=Pour.S f n+f n+(Pour.S g n+g n);rw[zm9 f g n];lia
theorem zku:∀n,Pour.S (λ_=>0) n=0
 | 0=>rfl
 | n+1=>by
  show Pour.S (λ_=>0) n+0=0;rw[zku n];rfl
theorem zfA (j:Nat)(x:Int):∀n,Pour.S (λi=>if i=j then x else 0) n=if j<n then x else 0
 | 0=>rfl
 | n+1=>by
  show Pour.S (λi=>if i=j then x else 0) n+(if n=j then x else 0)=_;rw[zfA j x n];by_cases h:n=j
  .rw[bq (by lia),bw h,bw (by lia),RB]
  .rw[bq h,Sw];by_cases h2:j<n
   .rw[bw h2,bw (by lia)]
   .rw[bq h2,bq (by lia)]
def zfB (q:List α->Bool)(f:Nat->Nat)(k:Nat):∀L:List (List α),(((L.map λb=>if (q b&&decide (b.length<=k))=true then f (k-b.length) else 0).sum:Nat):Int)=Pour.S (λi=>(f i:Int)*((L.countP λb=>decide (b.length=k-i)&&q b:Nat):Int)) (k+1):=by
 intro L;induction L with
 | nil =>
  have:Pour.S (λi=>(f i:Int)*((([]:List (List α)).countP λb=>decide (b.length=k-i)&&q b:Nat):Int)) (k+1)=Pour.S (λ_=>0) (k+1):=Pour.JQ _ λi _=>by
   show (f i:Int)*0=0;lia
  rw[this,zku];rfl
 | cons b L ih =>
  rw[Xf,NV,Uv,ih];have e:Pour.S (λi=>(f i:Int)*(((b::L).countP λb=>decide (b.length=k-i)&&q b:Nat):Int)) (k+1)=Pour.S (λi=>(f i:Int)*((L.countP λb=>decide (b.length=k-i)&&q b:Nat):Int)+if i=k-b.length then (if (q b&&decide (b.length<=k))=true then (f (k-b.length):Int) else 0) else 0) (k+1):=Pour.JQ _ λi hi=>by
   rw[Ws];by_cases hq:q b=true
   .by_cases hb:b.length<=k
    .by_cases hik:i=k-b.length
     .have h1:b.length=k-i:=by lia
      have h2:k-i<=k:=by lia
      simp only[hq,h1,h2,decide_true,Uh,if_true,bw hik];rw[show k-(k-i)=i by lia,bw rfl,Uv,Int.mul_add];lia
     .have h1:¬b.length=k-i:=by lia
      simp only[hq,h1,decide_false,Uh,bq hik];simp
    .have h1:¬b.length=k-i:=by lia
     simp[hq,h1,hb]
   .have hq':q b=false:=WX.mpr hq;simp[hq']
  rw[e,zm9,zfA,bw (show k-b.length<k+1 by lia),Int.add_comm];congr 1;split<;>rfl
def zkv {A B:List α}{P pA pB:List α->Bool}(h:∀a∈subs A,∀b∈subs B,P (a++b)=(pA a&&pB b))(k:Nat):(T (A++B) P k:Int)=Pour.S (λi=>(T A pA i:Int)*(T B pB (k-i):Int)) (k+1):=by
 unfold T;rw[Q7,List.countP_flatMap];have e:(subs B).map (P8 (λS=>decide (S.length=k)&&P S)∘λb=>(subs A).map (·++b))=(subs B).map λb=>if (pB b&&decide (b.length<=k))=true then (T A pA) (k-b.length) else 0:=by
  refine Xm λb hb=>?_;show P8 _ ((subs A).map (·++b))=_;rw[SW];by_cases hq:(pB b&&decide (b.length<=k))=true
  .rw[bw hq];obtain⟨h1,h2⟩:=VW.mp hq;have h2:=bh h2;refine Vh λa ha=>?_;show (decide ((a++b).length=k)&&P (a++b))=true↔(decide (a.length=k-b.length)&&pA a)=true;rw[h a ha b hb,h1,Uh,XS,show (decide (a.length+b.length=k))=decide (a.length=k-b.length) from decide_eq_decide.mpr (by lia)]
  .rw[bq hq];refine Vy.mpr λa ha hh=>hq ?_;have hh:(decide ((a++b).length=k)&&P (a++b))=true:=hh;rw[h a ha b hb]at hh;obtain⟨h1,h2⟩:=VW.mp hh;have h1:=bh h1;rw[XS]at h1;rw[(VW.mp h2).2,br (by lia)];rfl
 rw[e,zfB];rfl
def jQ {cs S:List α}(h:S∈subs cs):S.Sublist cs:=by
 revert S;induction cs with
 | nil=>intro S h;simp[subs]at h;subst h;exact List.Sublist.refl _
 | cons c r ih =>
  intro S h;rw[zaS]at h;obtain⟨b,hb,h⟩:=T4.mp h;have:=ih hb;simp at h;rcases h with rfl | rfl
  .exact this.cons c
  .exact this.cons_cons c
def zml {cs:List α}:∀{S:List α},S.Sublist cs->S∈subs cs:=by
 induction cs with
 | nil=>intro S h;cases h;simp[subs]
 | cons c r ih =>
  intro S h;rw[zaS];cases h with
  | cons _ h=>exact T4.mpr ⟨S,ih h,by simp⟩
  | cons_cons _ h=>exact T4.mpr ⟨_,ih h,by simp⟩
def zcm {cs:List α}{p:List α->Bool}{k:Nat}(h:cs.length<k):T cs p k=0:=by
 refine Vy.mpr λS hS hh=>?_;have h1:=bh (VW.mp hh).1;have h2:=(jQ hS).length_le;lia
def tl (cs:List α)(p:List α->Bool):List Int:=(Xp (cs.length+1)).map λk=>(T cs p k:Int)
def jJ (cs:List α)(p:List α->Bool):(tl cs p).length=cs.length+1:=by
 unfold tl;rw[Y1,W4]
def ziX (cs:List α)(p:List α->Bool)(i:Nat):Pour.F (tl cs p) i=(T cs p i:Int):=by
 by_cases h:i<cs.length+1
 .refine Pour.zmh ?_;unfold tl;rw[Xn,UK h];rfl
 .rw[Pour.zcl (by rw[jJ];lia),zcm (by lia)];rfl
def zmm {A B:List α}{P pA pB:List α->Bool}(h:∀a∈subs A,∀b∈subs B,P (a++b)=(pA a&&pB b)):Pour.JY (tl A pA) (tl B pB)=tl (A++B) P:=by
 unfold Pour.JY;rw[jJ,jJ];show _=(Xp ((A++B).length+1)).map λk=>(T (A++B) P k:Int);rw[XS,show A.length+1+(B.length+1)-1=A.length+B.length+1 by lia];refine Xm λk _=>?_;have e:=Pour.zoj (tl A pA) (tl B pB) k;rw[jJ]at e;rw[e,zkv h];exact Pour.JQ _ λi _=>by rw[ziX,ziX]
def zkw {cs:List α}{p q:List α->Bool}(h:∀S∈subs cs,p S=q S):tl cs p=tl cs q:=by
 unfold tl;refine Xm λk _=>by rw[zey h]
theorem zfC:∀(cs:List α) (k:Nat),T cs (λ_=>true) k=Choose.ch cs.length k
 | [],0=>rfl
 | [],k+1=>rfl
 | c::r,0=>by
  have e:=zfC r 0;unfold T at e ⊢;rw[count_cons,e,Choose.YI,Choose.YI];have:(subs r).countP (λS=>decide ((c::S).length=0)&&true)=0:=Vy.mpr λS _ hh=>by simp at hh
  rw[this]
 | c::r,k+1=>by
  have e1:=zfC r k;have e2:=zfC r (k+1);unfold T at e1 e2 ⊢;rw[count_cons,e2];have:(subs r).countP (λS=>decide ((c::S).length=k+1)&&true)=(subs r).countP λS=>decide (S.length=k)&&true:=Vh λS _=>by
   rw[XE,show decide (S.length+1=k+1)=decide (S.length=k) from decide_eq_decide.mpr (by lia)]
  rw[this,e1];show _=Choose.ch r.length k+Choose.ch r.length (k+1);lia
def zom [DecidableEq α]{cs:List α}{c:α}(hc:c∈cs)(nd:cs.Nodup)(k:Nat):T cs (λS=>decide (c∈S)) k=if k=0 then 0 else Choose.ch (cs.length-1) (k-1):=by
 have hp:cs.Perm (c::cs.erase c):=List.perm_cons_erase hc;have hn:c ∉ cs.erase c:=λh=>by
  have:=hp.nodup_iff.mp nd;exact(Wl.mp this).1 h
 rw[zaT hp (λa b e=>decide_eq_decide.mpr e.mem_iff)];unfold T;rw[count_cons];have z:(subs (cs.erase c)).countP (λS=>decide (S.length=k)&&decide (c∈S))=0:=Vy.mpr λS hS hh=>by
  have h1:=bh (VW.mp hh).2;exact hn ((jQ hS).subset h1)
 rw[z,VL];have el:(cs.erase c).length=cs.length-1:=by rw[List.length_erase,bw hc]
 cases k with
 | zero =>
  rw[bw rfl];exact Vy.mpr λS _ hh=>by simp at hh
 | succ k =>
  rw[bq (by lia),<- el,Ri,<- zfC];unfold T;refine Vh λS _=>?_;rw[XE,show decide (S.length+1=k+1)=decide (S.length=k) from decide_eq_decide.mpr (by lia)];show (_&&decide (c∈c::S))=true↔_;rw[br X2]
variable {α:Type}
structure Loc (U:List α)(p:List α->Bool)(g:List α):Prop where
 l:∀a b,(∀c∈a,c∈U/\c ∉ g)->p (a++b)=p b
 r:∀a b,(∀c∈b,c∈U/\c ∉ g)->p (a++b)=p a
def jR (fit:List α->List α->Bool)(gs:List (List α))(S:List α):Bool:=gs.all λg=>fit g S
def zcn (fit:List α->List α->Bool)(as bs:List (List α))(S:List α):jR fit (as++bs) S=(jR fit as S&&jR fit bs S):=List.all_append
def zgJ {fit:List α->List α->Bool}{gs:List (List α)}{S S':List α}(h:∀g∈gs,fit g S=fit g S'):jR fit gs S=jR fit gs S':=by
 unfold jR;induction gs with
 | nil=>rfl
 | cons g r ih =>
  rw[PU,PU,h g X2,ih λx hx=>h x (XV _ hx)]
def zco {U:List α}{fit:List α->List α->Bool}{done:List (List α)}{g:List α}{q:List α->Bool}(nd:(done.flatten++g).Nodup)(hU:∀c∈done.flatten++g,c∈U)(hd:∀x∈done,Loc U (fit x) x)(hg:Loc U q g) :
  Pour.JY (tl done.flatten (jR fit done)) (tl g q)=tl (done.flatten++g) λS=>jR fit done S&&q S:=by
 obtain⟨_,_,n3⟩:=VG.mp nd;refine zmm λa ha b hb=>?_;have sa:=(jQ ha).subset;have sb:=(jQ hb).subset;rw[hg.l a b λc hc=>⟨hU c (Xi _ (sa hc)),λh=>n3 c (sa hc) c h rfl⟩];congr 1;exact zgJ λx hx=>(hd x hx).r a b λc hc=>⟨hU c (XC _ (sb hc)),λh=>n3 c (Wy.mpr ⟨x,hx,h⟩) c (sb hc) rfl⟩
def zmn {U:List α}{fit:List α->List α->Bool}:∀(gs done:List (List α)),(done++gs).flatten.Nodup->(∀c∈(done++gs).flatten,c∈U)->(∀g∈done++gs,Loc U (fit g) g)->(gs.map λg=>tl g (fit g)).foldl Pour.JY (tl done.flatten (jR fit done))=tl (done++gs).flatten (jR fit (done++gs)):=by
 intro gs;induction gs with
 | nil =>
  intro done _ _ _;rw[W6];rfl
 | cons g r ih =>
  intro done nd hU hL;have e:done++g::r=(done++[g])++r:=by rw[W0];rfl
  rw[e]at nd hU hL ⊢;have e2:(done++[g]).flatten=done.flatten++g:=by rw[Wi];simp
  have nd2:(done.flatten++g).Nodup:=by
   rw[Wi,e2]at nd;exact(VG.mp nd).1
  have ih:=ih (done++[g]) nd hU hL;rw[<- ih,Xf,VO,e2];congr 1;rw[zco nd2 (λc hc=>hU c (by rw[Wi,e2];exact Xi _ hc)) (λx hx=>hL x (by simp[hx])) (hL g (by simp))];refine zkw λS _=>?_;rw[zcn];congr 1;show fit g S=(fit g S&&true);rw[Uh]
def zgK {U:List α}{fit:List α->List α->Bool}{gs:List (List α)}(nd:gs.flatten.Nodup)(hU:∀c∈gs.flatten,c∈U)(hL:∀g∈gs,Loc U (fit g) g):(gs.map λg=>tl g (fit g)).foldl Pour.JY [1]=tl gs.flatten (jR fit gs):=zmn gs [] nd hU hL
def chZ (n:Nat)(k:Int):Int:=if k<0 then 0 else (Choose.ch n k.toNat:Nat)
def dl (xs:List Int)(m:Nat)(s:Int):Int:=Pour.S (λk=>Pour.F xs k*chZ m (s-(k:Nat))) xs.length
def zkx (g:Nat->Int){a b:Nat}(ha:∀i,a<=i->g i=0)(hb:∀i,b<=i->g i=0):Pour.S g a=Pour.S g b:=by
 by_cases h:a<=b
 .exact(Pour.zmi h λi h1 _=>ha i h1).symm
 .exact Pour.zmi (by lia) λi h1 _=>hb i h1
def zna {A far:List α}{P pA:List α->Bool}(h:∀a∈subs A,∀b∈subs far,P (a++b)=pA a)(s:Nat):dl (tl A pA) far.length (s:Nat)=(T (A++far) P s:Int):=by
 rw[zkv (pB:=λ_=>true) (λa ha b hb=>by rw[h a ha b hb,Uh]) s];unfold dl;rw[jJ];rw[zkx (λk=>Pour.F (tl A pA) k*chZ far.length ((s:Int)-(k:Nat))) (a:=A.length+1) (b:=s+1) (λi hi=>by rw[ziX,zcm (by lia)];simp) (λi hi=>by
  unfold chZ;rw[bw (by lia),NE])]
 refine Pour.JQ _ λi hi=>?_;show Pour.F (tl A pA) i*chZ far.length ((s:Int)-(i:Nat))=_;rw[ziX,zfC];unfold chZ;rw[bq (by lia),show ((s:Int)-(i:Nat)).toNat=s-i by lia]
def zmo [DecidableEq α]{A far:List α}{P pA:List α->Bool}{c:α}(hc:c∈far)(nd:far.Nodup)(h:∀a∈subs A,∀b∈subs far,P (a++b)=(pA a&&decide (c∈b)))(s:Nat):dl (tl A pA) (far.length-1) ((s:Nat)-1)=(T (A++far) P s:Int):=by
 rw[zkv h s];unfold dl;rw[jJ];rw[zkx (λk=>Pour.F (tl A pA) k*chZ (far.length-1) ((s:Int)-1-(k:Nat))) (a:=A.length+1) (b:=s+1) (λi hi=>by rw[ziX,zcm (by lia)];simp) (λi hi=>by
  unfold chZ;rw[bw (by lia),NE])]
 refine Pour.JQ _ λi hi=>?_;show Pour.F (tl A pA) i*chZ (far.length-1) ((s:Int)-1-(i:Nat))=_;rw[ziX,zom hc nd];unfold chZ;by_cases e:s-i=0
 .rw[bw (by lia),bw e];rfl
 .rw[bq (by lia),bq e,show ((s:Int)-1-(i:Nat)).toNat=s-i-1 by lia]
def zbG {cs:List α}{p:List α->Bool}(h:∀S∈subs cs,p S=false)(k:Nat):T cs p k=0:=Vy.mpr λS hS hh=>by
 rw[h S hS,Oy]at hh;cases hh
def zhO (cs:List α)(p:List α->Bool):Cnt.xN cs.length ((subs cs).filter p)=tl cs p:=by
 unfold Cnt.xN tl T;refine Xm λk _=>?_;rw[List.countP_filter]
def zfD {β:Type}(g:Nat)(f:List α->List β)(hf:∀k,(f k).length=k.length)(ks:List (List α)):Cnt.xN g (ks.map f)=Cnt.xN g ks:=by
 unfold Cnt.xN;refine Xm λn _=>?_;rw[SW];congr 1;refine Vh λk _=>?_;show decide ((f k).length=n)=true↔_;rw[hf]
variable {α β:Type}
end Tally
namespace K36
open PySem L2
variable {P:Xd}{w:WV}{K:XY}{mg:Str->Option X9}{base:Heap}{f:Addr}{fd:Xc}{jaa jab jac jad jae jaf jag jah jai jaj:Addr}
abbrev top (i:Nat):Stmt:=zbJ.top i
abbrev Zj:Stmt:=top 14
abbrev qG:Stmt:=top 15
abbrev yy:Stmt:=top 16
abbrev xB:Stmt:=top 17
abbrev Yp:Stmt:=top 18
abbrev qS:Stmt:=top 19
abbrev qY:Stmt:=top 20
abbrev zbH:Stmt:=top 22
abbrev Zk:Stmt:=top 23
abbrev zfE:Stmt:=top 24
abbrev yC:Stmt:=top 25
abbrev jS:Stmt:=top 26
abbrev qD:Stmt:=top 27
abbrev qT:Stmt:=top 30
abbrev Jy:Stmt:=top 31
abbrev Zl:Stmt:=top 32
abbrev yY:Stmt:=top 33
abbrev Zm:Stmt:=top 34
abbrev yD:Stmt:=top 35
abbrev YJ:Stmt:=top 37
abbrev Q8:Stmt:=top 38
abbrev jZ:Stmt:=top 40
abbrev zbI:Stmt:=top 41
abbrev ZR:Stmt:=top 42
abbrev qL:Stmt:=top 43
abbrev x8:Stmt:=top 44
abbrev Q9:Stmt:=top 45
abbrev yZ:Stmt:=top 47
abbrev JR:Stmt:=top 48
abbrev ZS:Stmt:=top 49
abbrev xC:Stmt:=top 50
abbrev YK:Stmt:=top 51
abbrev xD:Stmt:=top 52
abbrev jj:Stmt:=top 53
abbrev xg:Stmt:=top 54
abbrev x9:Stmt:=top 55
abbrev xh:Stmt:=top 56
abbrev zdC:Stmt:=top 57
structure Txt (mg:Str->Option X9):Prop where
 zez:mg "ValueError"=none
 zky:mg "any"=none
 zon:mg "bool"=none
 zkz:mg "dict"=none
 zkA:mg "divmod"=none
 ja:mg "enumerate"=none
 zkB:mg "int"=none
 qj:mg "isinstance"=none
 jK:mg "len"=none
 zkC:mg "list"=none
 zdD:mg "max"=none
 zdE:mg "min"=none
 jh:mg "range"=none
 znb:mg "set"=none
 zaa:mg "sorted"=none
 zkD:mg "str"=none
 zpF:mg "sum"=none
 zpG:mg "zip"=none
 JZ:∃t,mg "CLOSED_SIGN"=some (.str "?" t)
 zcp:∃t,mg "MOST_OF_PART"=some (.int 14 t)
 Yq:∃t,mg "NO_CELL_SIGN"=some (.str "#" t)
def Mq (K:XY)(mg:Str->Option X9)(n:Str)(s:Stmt)(p:List Str):=∃f fd,zu K mg n s p f fd
structure Prog (K:XY)(mg:Str->Option X9):Prop where
 closed:Mq K mg "closed" Zj ["board"]
 open_cells:Mq K mg "open_cells" qG ["board"]
 around:Mq K mg "around" yy ["board","cell"]
 number_at:Mq K mg "number_at" xB ["board","cell"]
 opened:Mq K mg "opened" Yp ["board","numbers"]
 cells_of:Mq K mg "cells_of" qS ["board"]
 sign_at:Mq K mg "sign_at" qY ["board","cell"]
 parts:Mq K mg "parts" zbH ["board"]
 joined:Mq K mg "joined" Zk ["groups","cells"]
 far:Mq K mg "far" zfE ["board"]
 numbers_of:Mq K mg "numbers_of" yC ["board","part"]
 bare_wrong:Mq K mg "bare_wrong" jS ["board"]
 closed_around:Mq K mg "closed_around" qD ["board","cell"]
 part_layings:Mq K mg "part_layings" qT ["board","part"]
 needs_at:Mq K mg "needs_at" Jy ["told","cell","rest"]
 may_fit:Mq K mg "may_fit" Zl ["needs","pick"]
 part_counts:Mq K mg "part_counts" yY ["board","part"]
 counted:Mq K mg "counted" Zm ["found","greatest"]
 counted_at:Mq K mg "counted_at" yD ["found","greatest","cell"]
 choices:Mq K mg "choices" YJ ["n","k"]
 poured:Mq K mg "poured" Q8 ["one","other"]
 near_counts:Mq K mg "near_counts" jZ ["board"]
 count:Mq K mg "count" zbI ["board"]
 count_at:Mq K mg "count_at" ZR ["board","cell"]
 counts_by_cell:Mq K mg "counts_by_cell" qL ["board"]
 all_poured:Mq K mg "all_poured" x8 ["lists"]
 dealt:Mq K mg "dealt" Q9 ["counts","cells","stones"]
 law_cell_at:Mq K mg "_law_cell_at" yZ ["_law_script","_law_k"]
 law_whole:Mq K mg "_law_whole" JR ["_law_found"]
 law_near:Mq K mg "_law_near" ZS ["_law_at","_law_rows","_law_columns"]
 law_texts:Mq K mg "_law_texts" xC ["_law_signs","_law_rows","_law_columns"]
 law_dug:Mq K mg "_law_dug" YK ["_law_script","_law_rows","_law_columns"]
 law_great:Mq K mg "_law_great" xD ["_law_script"]
 law_greatest:Mq K mg "_law_greatest" jj ["_law_texts_here"]
 law_outcome:Mq K mg "_law_outcome" xg ["_law_error"]
 law_closed:Mq K mg "_law_closed" x9 ["_law_texts_here"]
 law_counted:Mq K mg "_law_counted" xh ["_law_board","_law_cell"]
def zgL (K:XY):Sp:=λvs H Q _=>∃(a:Addr) (ns:List Int) (k:Int),vs=[.ref a,.int k]/\SqL K H a (ns.map V.int)/\0<=k/\∀z:Int,Q (.int z) H
structure Row (signs:List Nat)(n:Nat)(t:Str):Prop where
 len:t.cps.size=n
 mem:∀c∈t.cps.toList,c∈signs
structure Rows (signs:List Nat)(rs:AE):Prop where
 lo:1<=rs.length
 hi:rs.length<=8
 ex:∃n,1<=n/\n<=8/\∀t∈rs,Row signs n t
def bd:Str:="?012345678#"
def zcq:zH ["_law_script","_law_k"] ["_law_script","_law_k"] (zj yZ):=bz
def yE (T:Txt mg)(D:zu K mg "_law_cell_at" yZ ["_law_script","_law_k"] f fd):ql P w K mg base CX0 1 f fd ["_law_script","_law_k"] (zgL K):=by
 refine D.F.ok zcq (λvs H Q E h=>?_) (λcdv A outer s H vs Q E hr h=>?_)
 .obtain⟨a,ns,i,rfl,_⟩:=h;rfl
 .obtain⟨a,ns,i,rfl,hS,hi,k⟩:=h;refine⟨_,(zf (jm (zQ zoa (pvS 1) (zp zJ (by rfl) T.jK WL (za (pvS 0) zc)) (qa _)) (zg (zL (qt qz (pvS 0) (pvS 1) (λ_ _=>rfl)))) qp) (@zg _ _ _ (@zL _ _ _ _ zm))),?_⟩;(try dsimp only[cxK,cxP,cxW]);refine⟨_,rfl,_,rfl,a,_,rfl,.inl hS,_,_,rfl,rfl,_,rfl,?_⟩;refine zcX (λc=>?_) (λc=>?_)
  .have c':i<((ns.map V.int).length:Nat):=bh c;rw[Y1]at c';have hl:i.toNat<ns.length:=by lia
   refine⟨_,rfl,_,rfl,a,_,i,.int ns[i.toNat],rfl,rfl,hS,jW hi (by rw[Xn,X5 hl];rfl),?_⟩;exact k _
  .exact k 0
structure qk (H:Hp)(p l:Addr)(rs:AE)(n:Int):Prop where
 tp:H p=some (.tup [.ref l,.int n])
 rw:H l=some (.lst (rs.map V.str))
def zkE:∀c∈bd.cps.toList,c<1114112:=by decide+kernel
def zmp {n:Nat}{t:Str}(r:Row bd.cps.toList n t):UA (.str t)=true:=by
 show t.cps.all (· < 0x110000)=true;rw[Array.all_eq_true'];intro c hc;exact br (zkE c (r.mem c (Tr.mpr hc)))
def zab {rs:AE}{n:Nat}(h:∀t∈rs,Row bd.cps.toList n t):Vw (rs.map VZ)=true:=by
 induction rs with
 | nil=>rfl
 | cons t r ih =>
  show (UA (.str t)&&Vw (r.map VZ))=true;rw[zmp (h t X2),ih λu hu=>h u (XV _ hu)];rfl
def Qi (rs:AE):VB (rs.map VZ)=0:=by
 induction rs with
 | nil=>rfl
 | cons t r ih =>
  show max (PyData.depth (.str t)) (VB (r.map VZ))=0;rw[ih];rfl
def Rows.cmp {rs:AE}(R:Rows bd.cps.toList rs):zgl (.list (rs.map VZ)) (.list (rs.map VZ)):=by
 obtain⟨n,_,_,h⟩:=R.ex;refine⟨zab h,zab h,?_⟩;show VB (rs.map VZ)+1<=64;rw[Qi];decide
def bData (rs:AE)(n:Int):V3:=.tuple [.list (rs.map VZ),.int n]
def Rows.cmpB {rs:AE}(R:Rows bd.cps.toList rs)(n:Int):zgl (bData rs n) (bData rs n):=by
 have c:=R.cmp;have h1:UA (bData rs n)=true:=by
  show (UA (.list (rs.map VZ))&&(UA (.int n)&&true))=true;rw[c.l1];rfl
 refine⟨h1,h1,?_⟩;show max (VB (rs.map VZ)+1) (max 0 0)+1<=64;rw[Qi];decide
def qk.rdv {K:XY}{H:Hp}{p l:Addr}{rs:AE}{n:Int}(b:qk H p l rs n):Rdv K H (.ref p) (bData rs n):=.tup (SqT.of b.tp) (.cons (.lst (SqL.of b.rw) (J8 rs)) (.cons (.int n) .nil))
def qk.mono {H H':Hp}{p l:Addr}{rs:AE}{n:Int}(b:qk H p l rs n)(s:zq H H'):qk H' p l rs n:=⟨s _ _ b.tp,s _ _ b.rw⟩
def codes (rs:AE):List (List Nat):=rs.map λt=>t.cps.toList
def qM {rs:AE}{i:Nat}{t:Str}(h:rs[i]?=some t):(codes rs)[i]?=some t.cps.toList:=by
 unfold codes;rw[Xn,h];rfl
def zaU {rs:AE}{i:Nat}{u:List Nat}(h:(codes rs)[i]?=some u):∃t,rs[i]?=some t/\u=t.cps.toList:=by
 unfold codes at h;rw[Xn]at h;cases e:rs[i]? with
 | none =>
  rw[e]at h;cases h
 | some t =>
  rw[e]at h;cases h;exact⟨t,rfl,rfl⟩
def jk (rs:AE):(codes rs).length=rs.length:=by
 unfold codes;rw[Y1]
def Rows.short {s:List Nat}{rs:AE}(R:Rows s rs):∀u∈codes rs,u.length<=8:=λu hu=>by
 obtain⟨t,ht,rfl⟩:=XO.mp hu;obtain⟨n,_,h8,q⟩:=R.ex;have:=(q t ht).len;rw[X7];lia
def Rows.tlen {s:List Nat}{rs:AE}{i:Nat}{t:Str}(R:Rows s rs)(h:rs[i]?=some t):t.length<=Xz:=by
 obtain⟨n,_,h8,q⟩:=R.ex;have e:t.length=n:=(q t (XZ h)).len;rw[e];exact X0 h8 (by decide)
def Zn (H:Hp)(v:V)(c:AA):Prop:=∃a,v=V.ref a/\H a=some (.tup [.int (c.1:Nat),.int (c.2:Nat)])
def Cel (H:Hp):AF->AD->Prop:=WU (Zn H)
def Cel.mono {H H':Hp}(s:zq H H'){vs:AF}{cs:AD}(hp:Cel H vs cs):Cel H' vs cs:=by
 induction hp with
 | nil=>exact .nil
 | cons q _ ih =>
  obtain⟨a,e,h⟩:=q;exact .cons ⟨a,e,s _ _ h⟩ ih
theorem Cel.snoc {H:Hp}{vs:AF}{cs:AD}{v:V}{c:AA}(h:Cel H vs cs)(x:Zn H v c):Cel H (vs++[v]) (cs++[c]):=Paired.snoc h x
def Cel.append {H:Hp}{vs ws:AF}{cs ds:AD}(h:Cel H vs cs)(k:Cel H ws ds):Cel H (vs++ws) (cs++ds):=zbX h k
def Cel.into {H:Hp}(z:Addr)(o:HO){old:AF}(hz:H z=some (.lst old)){vs:AF}{cs:AD}(hp:Cel H vs cs):Cel (upd H z o) vs cs:=by
 induction hp with
 | nil=>exact .nil
 | cons q _ ih =>
  obtain⟨a,e,h⟩:=q;exact .cons ⟨a,e,by rw[zk (zdc h hz (by intro y;cases y))];exact h⟩ ih
theorem Cel.length {H:Hp}{vs:AF}{cs:AD}(h:Cel H vs cs):vs.length=cs.length:=Paired.length h
theorem Cel.get {H:Hp}:∀{vs:AF} {cs:AD} {i:Nat} {v:V},Cel H vs cs->vs[i]?=some v->∃c,cs[i]?=some c/\Zn H v c
 | _,_,_,_,.nil,e=>by simp at e
 | _,_,0,_,.cons r _,e=>by
  simp at e;subst e;exact⟨_,rfl,r⟩
 | _,_,i+1,v,.cons _ t,e=>by
  obtain⟨c,h1,h2⟩:=Cel.get (i:=i) (v:=v) t (by simpa using e);exact⟨c,by simpa using h1,h2⟩
def zw (c:AA):V3:=.tuple [.int (c.1:Nat),.int (c.2:Nat)]
def Zn.rdv {K:XY}{H:Hp}{v:V}{c:AA}(h:Zn H v c):Rdv K H v (zw c):=by
 obtain⟨a,rfl,h⟩:=h;exact .tup (SqT.of h) (.cons (.int _) (.cons (.int _) .nil))
def ziY (c d:AA):zgl (zw c) (zw d):=⟨rfl,rfl,by show max 0 (max 0 0)+1<=64;decide⟩
def zdF (c d:AA):WS (zw c) (zw d)=decide (c=d):=by
 obtain⟨a,b⟩:=c;obtain⟨x,y⟩:=d;show ((((a:Nat):Int)==((x:Nat):Int))&&((((b:Nat):Int)==((y:Nat):Int))&&true))=decide ((a,b)=(x,y));by_cases h1:a=x
 .by_cases h2:b=y
  .subst h1 h2;simp
  .have:¬ ((b:Int)=(y:Int)):=by lia
   simp[h2,this]
 .have:¬ ((a:Int)=(x:Int)):=by lia
  simp[h1,this]
def Qj (c k:Nat):(V.str ⟨#[c]⟩=V.str ⟨#[k]⟩)=(c=k):=by
 apply propext;constructor
 .intro h;have h2:(⟨#[c]⟩:Str)=⟨#[k]⟩:=V.str.inj h;have h3:(#[c]:Array Nat)=#[k]:=congrArg Str.cps h2;simpa using h3
 .rintro rfl;rfl
def QS:("#":Str)=⟨#[35]⟩:=by decide+kernel
def zaV:("?":Str)=⟨#[63]⟩:=by decide+kernel
def qh (c:Nat):Bool:=!decide (c=35)
def jV (c:Nat):Bool:=decide (c=63)
def Jz (c:Nat):Bool:=qh c && !decide (c=63)
def zoo:Sp:=λvs H Q _=>∃(p l c:Addr) (rs:AE) (n:Int) (i j:Nat) (t:Str) (k:Nat),vs=[.ref p,.ref c]/\qk H p l rs n/\H c=some (.tup [.int (i:Nat),.int (j:Nat)])/\rs[i]?=some t/\t.cps.toList[j]?=some k/\t.length<=Xz/\Q (.str ⟨#[k]⟩) H
def zgM (p:Nat->Bool):Sp:=λvs H Q _=>∃(a l:Addr) (rs:AE) (n:Int),vs=[.ref a]/\qk H a l rs n/\Rows bd.cps.toList rs /\
 ∀(d:Addr) (ws:AF) (H':Hp),H d=none->H' d=some (.lst ws)->Cel H' ws (Cells.zI p 0 (codes rs))->zq H H'->Q (.ref d) H'
def zkF:Sp:=λvs H Q _=>∃(p l c:Addr) (rs:AE) (n:Int) (i j:Nat) (t:Str) (k:Nat),vs=[.ref p,.ref c]/\qk H p l rs n/\H c=some (.tup [.int (i:Nat),.int (j:Nat)])/\rs[i]?=some t/\t.cps.toList[j]?=some k/\t.length<=Xz/\48<=k/\k<=56/\Q (.int ((k:Int)-48)) H
def int_sign {k:Nat}(h1:48<=k)(h2:k<=56):Ox ⟨#[k]⟩=some ((k:Int)-48):=by
 have:∀k∈Xp 57,48<=k->Ox ⟨#[k]⟩=some ((k:Int)-48):=by decide+kernel
 exact this k (Xq.mpr (by lia)) h1
def zgN:zH ["board","cell"] ["board","cell"] (zj qY):=bz
def ZT (D:zu K mg "sign_at" qY ["board","cell"] f fd):ql P w K mg base CX0 1 f fd ["board","cell"] zoo:=by
 refine D.F.ok zgN (λvs H Q E h=>?_) (λcdv A outer s H vs Q E hr h=>?_)
 .obtain⟨p,l,c,rs,n,i,j,t,k,rfl,_⟩:=h;rfl
 .obtain⟨p,l,c,rs,n,i,j,t,k,rfl,b,hc,hi,hj,hl,q⟩:=h;refine⟨_,(zg (zL (qt YH (qt qz (qt jg (pvS 0) zm (λ_ _=>rfl)) (qt jg (pvS 1) zm (λ_ _=>rfl)) (λ_ _=>rfl)) (qt jg (pvS 1) zm (λ_ _=>rfl)) (λ_ _=>rfl)))),?_⟩;(try dsimp only[cxK,cxP,cxW]);exact⟨_,rfl,p,_,0,_,rfl,rfl,SqT.of b.tp,rfl,_,rfl,c,_,0,_,rfl,rfl,SqT.of hc,rfl,l,_,_,_,rfl,rfl,SqL.of b.rw,QH (v:=V.str t) (by rw[Xn,hi];rfl),_,rfl,c,_,1,_,rfl,rfl,SqT.of hc,rfl,t,_,k,rfl,rfl,hl,QH hj,q⟩
def JS:zH ["board","found","row","text"] ["board"] (zj qS):=bz
def zbc (T:Txt mg)(D:zu K mg "cells_of" qS ["board"] f fd):ql P w K mg base CX0 1 f fd ["board"] (zgM qh):=by
 refine D.F.ok JS (λvs H Q E h=>?_) (λcdv A outer s H vs Q E hr h=>?_)
 .obtain⟨a,l,rs,n,rfl,_⟩:=h;rfl
 .obtain⟨a,l,rs,n,rfl,b,R,q⟩:=h;refine⟨_,(@zf _ _ _ _ _ (@zv _ _ 1 _ _ _ _ JS.nd rfl (XD rfl) (@qf _ _ _ _ zc) (by rfl) (.inr rfl)) (zf (qq W3 rfl (Jq (by rfl) T.ja (za (qt jg (pvS 0) zm (λ_ _=>rfl)) zc)) (Jo rfl (zP (zo (i:=2) JS.nd rfl (TL rfl)) (zP (zo (i:=3) JS.nd rfl (XD rfl)) jE))) (zg (j5 (yu W2 PC PB zdi (pvS 1) (za (qB (N:=["column","sign","row"]) (src:=[none,none,some 2]) (zZ.free (O:=(zj qS).names) (XN:=["board","found","row","text"]) rfl rfl ⟨_,rfl⟩ rfl rfl (by decide+kernel) (by decide+kernel) (by decide+kernel) rfl (by decide+kernel)) rfl (ze5 (by rfl) T.ja (za (pvS 3) zc)) (λ_ _ _ _ _=>(zby (n:=2) (K:=K) (by rfl) rfl (zP (zo (i:=0) (by show WZ (["column","sign","row"]:AE);decide+kernel) rfl (XD rfl)) (zP (zo (i:=1) (by show WZ (["column","sign","row"]:AE);decide+kernel) rfl (XD rfl)) jE)))) (λ_ _ _ _ _=>(qO (zQ zbN (pvS 1) (jn (v:=.str "#") (by rfl) T.Yq.choose_spec (by exact⟨_,rfl⟩)) (qa _)))) (λ_ _ _ _ _=>(yt (za (pvS 2) (za (pvS 0) zc))))) zc))))) (zg (zL (pvS 1))))),?_⟩;(try dsimp only[cxK,cxP,cxW]);refine⟨Zf,λd hd=>?_⟩;have s0:zq H (upd H d (.lst [])):=ze hd;refine⟨_,rfl,a,_,0,_,rfl,rfl,SqT.of (b.mono s0).tp,rfl,l,rfl,⟨_,SqL.of (b.mono s0).rw⟩,?_⟩;refine Jh (K:=K) (l:=l) (xs:=rs.map V.str) (λi σ H'=>∃(v2 v3:Option V) (ws:AF),σ=[some (.ref a),some (.ref d),v2,v3]/\zq H H'/\H' d=some (.lst ws)/\Cel H' ws (Cells.zI qh 0 ((codes rs).take i)))
   ⟨_,_,[],rfl,s0,zd,.nil⟩ (λi σ H' _ ⟨_,_,_,_,s1,_⟩=>SqL.of (b.mono s1).rw) ?_ ?_
  .rintro i x tt σ H1 hx htt ⟨v2,v3,ws,rfl,s1,hd1,hc1⟩;rw[Xn]at hx;cases e:rs[i]? with
   | none =>
    rw[e]at hx;cases hx
   | some t =>
    rw[e]at hx;cases hx;have hil:i<rs.length:=(XW.mp e).1;have st:zq H1 (upd H1 tt (.tup [.int (i:Nat),.str t])):=ze htt;refine⟨tt,_,rfl,SqT.of zd,rfl,_,_,rfl,_,_,rfl,rfl,?_⟩;have hd2:upd H1 tt (.tup [.int (i:Nat),.str t]) d=some (.lst ws):=st _ _ hd1;refine⟨_,rfl,.inl ⟨rfl,_,SqL.of hd2⟩,_,rfl,t,rfl,λz hz=>?_⟩;refine zbV (x:=t) (λj σ H'=>∃(u0 u1:Option V) (ys:AF),σ=[u0,u1,some (.int (i:Nat))]/\zq (upd H1 tt (.tup [.int (i:Nat),.str t])) H'/\H' z=some (.lst ys)/\Cel H' ys (Cells.qd qh i 0 (t.cps.toList.take j)))
     ⟨_,_,[],rfl,ze hz,zd,.nil⟩ ?_ ?_
    .rintro j c t2 σ H2 hc ht2 ⟨u0,u1,ys,rfl,s2,hz2,hc2⟩;refine⟨t2,_,rfl,SqT.of zd,rfl,_,_,rfl,_,_,rfl,rfl,?_⟩;refine⟨_,rfl,rfl,_,rfl,?_⟩;have hc':t.cps.toList[j]?=some c:=by rw[Xr];exact hc
     have s3:zq H2 (upd H2 t2 (.tup [.int (j:Nat),.str ⟨#[c]⟩])):=ze ht2;have step:=Cells.Qg (p:=qh) (i:=i) hc';have ed:(!decide (V.str ⟨#[c]⟩=V.str "#"))=qh c:=by
      rw[QS];simp only[Qj];rfl
     rw[ed];by_cases hp:qh c=true
     .rw[hp]at step;refine j8 hp ?_;refine⟨_,rfl,_,rfl,zbn,λt3 ht3=>?_⟩;have nz3:z≠t3:=zh (s3 _ _ hz2) ht3;have s4:zq (upd H2 t2 (.tup [.int (j:Nat),.str ⟨#[c]⟩])) (upd (upd H2 t2 (.tup [.int (j:Nat),.str ⟨#[c]⟩])) t3 (.tup [.int (i:Nat),.int (j:Nat)])):=ze ht3;have hlen:ys.length<=8:=by
       rw[hc2.length];refine X0 (Cells.jO _ _ _ _) ?_;have:=R.short _ (XZ (qM e));rw[XA];lia
      refine⟨ys,s4 _ _ (s3 _ _ hz2),Xx hlen (by decide),some (.int (j:Nat)),some (.str ⟨#[c]⟩),ys++[.ref t3],rfl,λb' o e'=>?_,zd,?_⟩
      .have hb:b'≠z:=λy=>by
        subst y;rw[hz]at e';cases e'
       rw[zk hb];exact s4 _ _ (s3 _ _ (s2 _ _ e'))
      .rw[step];have keep:∀x o,x≠z->upd (upd H2 t2 (.tup [.int (j:Nat),.str ⟨#[c]⟩])) t3 (.tup [.int (i:Nat),.int (j:Nat)]) x=some o->upd (upd (upd H2 t2 (.tup [.int (j:Nat),.str ⟨#[c]⟩])) t3 (.tup [.int (i:Nat),.int (j:Nat)])) z (.lst (ys++[.ref t3])) x=some o:=λx o hx e'=>by
        rw[zk hx];exact e'
       refine Cel.snoc ?_ ⟨t3,rfl,keep _ _ nz3.symm zd⟩;exact Cel.into z (.lst (ys++[.ref t3])) (s4 _ _ (s3 _ _ hz2)) (Cel.mono s4 (Cel.mono s3 hc2))
     .have hp':qh c=false:=by simpa using hp
      rw[hp']at step;refine yI hp' ?_;refine⟨some (.int (j:Nat)),some (.str ⟨#[c]⟩),ys,rfl,s2.trans s3,s3 _ _ hz2,?_⟩;rw[step];simpa using Cel.mono s3 hc2
    .rintro σ H2 ⟨u0,u1,ys,rfl,s2,hz2,hc2⟩;have hne:d≠z:=zh hd2 hz;have hd3:H2 d=some (.lst ws):=s2 _ _ hd2;have full:t.cps.toList.take t.cps.size=t.cps.toList:=by
      rw[<- X7,XB]
     rw[full]at hc2;have step:=Cells.Qh (p:=qh) (qM e);have l1:ws.length<=64:=by
      rw[hc1.length];refine X0 (Cells.jq _ _ _ λu hu=>R.short u (Wq hu)) ?_;have:=R.hi;rw[XA,jk];lia
     have l2:ys.length<=8:=by
      rw[hc2.length];exact X0 (Cells.jO _ _ _ _) (R.short _ (XZ (qM e)))
     refine⟨d,z,ws,ys,rfl,rfl,hd3,hz2,X0 (Ro l1 l2) (by decide),?_⟩;refine⟨_,_,ws++ys,rfl,λb' o e'=>?_,zd,?_⟩
     .have hb:b'≠d:=λy=>by
       subst y;rw[hd]at e';cases e'
      rw[zk hb];exact s2 _ _ (st _ _ (s1 _ _ e'))
     .rw[step];exact Cel.into d _ hd3 (Cel.append (Cel.mono s2 (Cel.mono st hc1)) hc2)
  .rintro σ H1 ⟨v2,v3,ws,rfl,s1,hd1,hc1⟩;rw[Y1,<- jk,XB]at hc1;exact⟨_,rfl,q d ws H1 hd hd1 hc1 s1⟩
def zmq (c:Nat):(qh c&&decide (c=63))=jV c:=by
 unfold qh jV;by_cases h:c=63
 .subst h;rfl
 .simp[h]
def ziZ:zH ["board"] ["board"] (zj Zj):=bz
def zdG {f1 f2:Addr}{fd1 fd2:Xc}(T:Txt mg)(D:zu K mg "closed" Zj ["board"] f fd)(zG:zu K mg "cells_of" qS ["board"] f1 fd1)(zC:zu K mg "sign_at" qY ["board","cell"] f2 fd2) :
  ql P w K mg base CX0 2 f fd ["board"] (zgM jV):=by
 refine D.F.ok ziZ (λvs H Q E h=>?_) (λcdv A outer s H vs Q E hr h=>?_)
 .obtain⟨a,l,rs,n,rfl,_⟩:=h;rfl
 .obtain⟨a,l,rs,n,rfl,b,R,q⟩:=h;refine⟨_,(zg (zL (qB (N:=["cell","board"]) (src:=[none,some 0]) (zZ.free (O:=(zj Zj).names) (XN:=["board"]) rfl rfl ⟨_,rfl⟩ rfl rfl (by decide+kernel) (by decide+kernel) (by decide+kernel) rfl (by decide+kernel)) rfl (z4 (pc0 (zbc T zG) hr zG (za (pvS 0) zc))) (λ_ _ _ _ _=>(zo (i:=0) (by show WZ (["cell","board"]:AE);decide+kernel) rfl (XD rfl))) (λ_ _ _ _ _=>(qO (zQ Yc (pc0 (ZT zC) hr zC (za (pvS 1) (za (pvS 0) zc))) (jn (v:=.str "?") (by rfl) T.JZ.choose_spec (by exact⟨_,rfl⟩)) (qa _)))) (λ_ _ _ _ _=>(pvS 0))))),?_⟩;(try dsimp only[cxK,cxP,cxW]);refine⟨_,rfl,a,l,rs,n,rfl,b,R,λd ws H1 hd hd1 hc1 s1=>⟨d,rfl,⟨_,SqL.of hd1⟩,λz hz=>?_⟩⟩;have nz:d≠z:=zh hd1 hz;refine qC (K:=K) (a:=d) (xs:=ws) (λi σ H'=>∃(u0:Option V) (ys:AF),σ=[u0,some (.ref a)]/\zq H1 H'/\H' z=some (.lst ys)/\Cel H' ys (((Cells.zI qh 0 (codes rs)).take i).filter λx=>decide (Cells.sgn (codes rs) x=63)))
   ⟨_,[],rfl,ze hz,zd,.nil⟩ (λi σ H' _ ⟨_,_,_,s2,_⟩=>SqL.of (s2 _ _ hd1)) ?_ ?_
  .rintro i x σ H2 hx ⟨u0,ys,rfl,s2,hz2,hc2⟩;obtain⟨c,hci,ca,rfl,hca⟩:=Cel.get (Cel.mono s2 hc1) hx;obtain⟨k0,j,u,k,ec,hk0,hj,hpc⟩:=Cells.Jk (XZ hci);obtain⟨t,ht,rfl⟩:=zaU hk0;rw[VL]at ec;subst ec;refine⟨_,rfl,_,rfl,a,l,ca,rs,n,k0,j,t,k,rfl,(b.mono s1).mono s2,hca,ht,hj,R.tlen ht,rfl,_,rfl,?_⟩;have es:Cells.sgn (codes rs) (k0,j)=k:=Cells.zci hk0 hj;have step:((Cells.zI qh 0 (codes rs)).take (i+1)).filter (λx=>decide (Cells.sgn (codes rs) x=63))=((Cells.zI qh 0 (codes rs)).take i).filter (λx=>decide (Cells.sgn (codes rs) x=63))++(if decide (k=63)=true then [(k0,j)] else []):=by
    rw[Xh,hci,W8];congr 1;show Tv _ [(k0,j)]=_;rw[Wn];try dsimp only
    rw[es];split<;>rfl
   have ed:decide (V.str ⟨#[k]⟩=V.str "?")=decide (k=63):=by
    rw[zaV];simp only[Qj]
   rw[ed];by_cases hp:decide (k=63)=true
   .rw[bw hp]at step;refine j8 hp ?_;have hlen:ys.length<=64:=by
     rw[hc2.length];refine X0 (Xa _ _) ?_;rw[XA];have h1:=Cells.jq qh 0 (codes rs) R.short;have h2:=R.hi;rw[jk]at h1;lia
    refine⟨_,rfl,ys,hz2,Xx hlen (by decide),_,ys++[.ref ca],rfl,λb' o e'=>?_,zd,?_⟩
    .have hb:b'≠z:=λy=>by
      subst y;rw[hz]at e';cases e'
     rw[zk hb];exact s2 _ _ e'
    .rw[step];exact Cel.into z _ hz2 (Cel.snoc hc2 ⟨ca,rfl,hca⟩)
   .rw[bq hp]at step;refine yI (by simpa using hp) ?_;refine⟨_,ys,rfl,s2,hz2,?_⟩;rw[step];simpa using hc2
  .rintro σ H2 ⟨u0,ys,rfl,s2,hz2,hc2⟩;rw[hc1.length,XB,Cells.all_filter (p:=qh) (q:=λk=>decide (k=63)) (codes rs)]at hc2;have hz0:H z=none:=s1.free hz;exact q z ys H2 hz0 hz2 (by rw[Cells.zfy (q:=jV) zmq]at hc2;exact hc2) (s1.trans s2)
def zc3:zH ["board"] ["board"] (zj qG):=bz
def xj {f1 f2:Addr}{fd1 fd2:Xc}(T:Txt mg)(D:zu K mg "open_cells" qG ["board"] f fd)(zG:zu K mg "cells_of" qS ["board"] f1 fd1)(zC:zu K mg "sign_at" qY ["board","cell"] f2 fd2) :
  ql P w K mg base CX0 2 f fd ["board"] (zgM Jz):=by
 refine D.F.ok zc3 (λvs H Q E h=>?_) (λcdv A outer s H vs Q E hr h=>?_)
 .obtain⟨a,l,rs,n,rfl,_⟩:=h;rfl
 .obtain⟨a,l,rs,n,rfl,b,R,q⟩:=h;refine⟨_,(zg (zL (qB (N:=["cell","board"]) (src:=[none,some 0]) (zZ.free (O:=(zj qG).names) (XN:=["board"]) rfl rfl ⟨_,rfl⟩ rfl rfl (by decide+kernel) (by decide+kernel) (by decide+kernel) rfl (by decide+kernel)) rfl (z4 (pc0 (zbc T zG) hr zG (za (pvS 0) zc))) (λ_ _ _ _ _=>(zo (i:=0) (by show WZ (["cell","board"]:AE);decide+kernel) rfl (XD rfl))) (λ_ _ _ _ _=>(qO (zQ zbN (pc0 (ZT zC) hr zC (za (pvS 1) (za (pvS 0) zc))) (jn (v:=.str "?") (by rfl) T.JZ.choose_spec (by exact⟨_,rfl⟩)) (qa _)))) (λ_ _ _ _ _=>(pvS 0))))),?_⟩;(try dsimp only[cxK,cxP,cxW]);refine⟨_,rfl,a,l,rs,n,rfl,b,R,λd ws H1 hd hd1 hc1 s1=>⟨d,rfl,⟨_,SqL.of hd1⟩,λz hz=>?_⟩⟩;have nz:d≠z:=zh hd1 hz;refine qC (K:=K) (a:=d) (xs:=ws) (λi σ H'=>∃(u0:Option V) (ys:AF),σ=[u0,some (.ref a)]/\zq H1 H'/\H' z=some (.lst ys)/\Cel H' ys (((Cells.zI qh 0 (codes rs)).take i).filter λx=>!decide (Cells.sgn (codes rs) x=63)))
   ⟨_,[],rfl,ze hz,zd,.nil⟩ (λi σ H' _ ⟨_,_,_,s2,_⟩=>SqL.of (s2 _ _ hd1)) ?_ ?_
  .rintro i x σ H2 hx ⟨u0,ys,rfl,s2,hz2,hc2⟩;obtain⟨c,hci,ca,rfl,hca⟩:=Cel.get (Cel.mono s2 hc1) hx;obtain⟨k0,j,u,k,ec,hk0,hj,hpc⟩:=Cells.Jk (XZ hci);obtain⟨t,ht,rfl⟩:=zaU hk0;rw[VL]at ec;subst ec;refine⟨_,rfl,_,rfl,a,l,ca,rs,n,k0,j,t,k,rfl,(b.mono s1).mono s2,hca,ht,hj,R.tlen ht,rfl,_,rfl,?_⟩;have es:Cells.sgn (codes rs) (k0,j)=k:=Cells.zci hk0 hj;have step:((Cells.zI qh 0 (codes rs)).take (i+1)).filter (λx=>!decide (Cells.sgn (codes rs) x=63))=((Cells.zI qh 0 (codes rs)).take i).filter (λx=>!decide (Cells.sgn (codes rs) x=63))++(if (!decide (k=63))=true then [(k0,j)] else []):=by
    rw[Xh,hci,W8];congr 1;show Tv _ [(k0,j)]=_;rw[Wn];try dsimp only
    rw[es];split<;>rfl
   have ed:(!decide (V.str ⟨#[k]⟩=V.str "?"))=(!decide (k=63)):=by
    rw[zaV];simp only[Qj]
   rw[ed];by_cases hp:(!decide (k=63))=true
   .rw[bw hp]at step;refine j8 hp ?_;have hlen:ys.length<=64:=by
     rw[hc2.length];refine X0 (Xa _ _) ?_;rw[XA];have h1:=Cells.jq qh 0 (codes rs) R.short;have h2:=R.hi;rw[jk]at h1;lia
    refine⟨_,rfl,ys,hz2,Xx hlen (by decide),_,ys++[.ref ca],rfl,λb' o e'=>?_,zd,?_⟩
    .have hb:b'≠z:=λy=>by
      subst y;rw[hz]at e';cases e'
     rw[zk hb];exact s2 _ _ e'
    .rw[step];exact Cel.into z _ hz2 (Cel.snoc hc2 ⟨ca,rfl,hca⟩)
   .rw[bq hp]at step;refine yI (by simpa using hp) ?_;refine⟨_,ys,rfl,s2,hz2,?_⟩;rw[step];simpa using hc2
  .rintro σ H2 ⟨u0,ys,rfl,s2,hz2,hc2⟩;rw[hc1.length,XB,Cells.all_filter (p:=qh) (q:=λk=>(!decide (k=63))) (codes rs)]at hc2;have hz0:H z=none:=s1.free hz;exact q z ys H2 hz0 hz2 hc2 (s1.trans s2)
def zeA:zH ["board","cell"] ["board","cell"] (zj xB):=bz
def zac {f1:Addr}{fd1:Xc}(T:Txt mg)(D:zu K mg "number_at" xB ["board","cell"] f fd)(zC:zu K mg "sign_at" qY ["board","cell"] f1 fd1):ql P w K mg base CX0 2 f fd ["board","cell"] zkF:=by
 refine D.F.ok zeA (λvs H Q E h=>?_) (λcdv A outer s H vs Q E hr h=>?_)
 .obtain⟨p,l,c,rs,n,i,j,t,k,rfl,_⟩:=h;rfl
 .obtain⟨p,l,c,rs,n,i,j,t,k,rfl,b,hc,hi,hj,hl,k1,k2,q⟩:=h;refine⟨_,(zg (zL (ji QL (by rfl) T.zkB Sc (za (pc0 (ZT zC) hr zC (za (pvS 0) (za (pvS 1) zc))) zc)))),?_⟩;(try dsimp only[cxK,cxP,cxW]);exact⟨_,rfl,_,rfl,p,l,c,rs,n,i,j,t,k,rfl,b,hc,hi,hj,hl,⟨#[k]⟩,_,rfl,int_sign k1 k2,(by show 1<=640;decide),q⟩
def zkG {k:Nat}(h1:48<=k)(h2:k<=56):V.str (toString ((k:Int)-48))=V.str ⟨#[k]⟩:=by
 have:∀k∈Xp 57,48<=k->((toString ((k:Int)-48):String):Str)=⟨#[k]⟩:=by decide+kernel
 exact congrArg V.str (this k (Xq.mpr (by lia)) h1)
def zdH {k:Nat}(h:k∈bd.cps.toList)(hp:Jz k=true):48<=k/\k<=56:=by
 have:∀k∈bd.cps.toList,Jz k=true->48<=k/\k<=56:=by decide+kernel
 exact this k h hp
def zE (rs:AE)(y:AA):AD:=(Cells.zI qh 0 (codes rs)).filter λx=>Cells.near x y
def zkH:Sp:=λvs H Q _=>∃(p l ca:Addr) (rs:AE) (n:Int) (i j:Nat),vs=[.ref p,.ref ca]/\qk H p l rs n/\Rows bd.cps.toList rs/\H ca=some (.tup [.int (i:Nat),.int (j:Nat)])/\i<64/\j<64 /\
 ∀(d:Addr) (ws:AF) (H':Hp),H d=none->H' d=some (.lst ws)->Cel H' ws (zE rs (i,j))->zq H H'->Q (.ref d) H'
def zfF (i:Nat):(if (0:Int)>(i:Int)-1 then (0:Int) else (i:Int)-1)=((i-1:Nat):Int):=by
 split<;>lia
def zfG (i m:Nat):(if ((m:Nat):Int)<(i:Int)+2 then ((m:Nat):Int) else (i:Int)+2)=((min (i+2) m:Nat):Int):=by
 split<;>lia
def zfH {f:AA->Bool}{l:AD}{x:AA}(a:Bool):(l++(if a=true then [x] else [])).filter f=l.filter f++(if (a&&f x)=true then [x] else []):=by
 rw[W8];congr 1;by_cases h:a=true
 .by_cases h2:f x=true
  .simp[h,h2]
  .simp[h,h2]
 .simp[h]
def Zo:zH ["board","cell","rows","found","row","column"] ["board","cell"] (zj yy):=bz
def YL (T:Txt mg)(D:zu K mg "around" yy ["board","cell"] f fd):ql P w K mg base CX0 1 f fd ["board","cell"] zkH:=by
 refine D.F.ok Zo (λvs H Q E h=>?_) (λcdv A outer s H vs Q E hr h=>?_)
 .obtain⟨p,l,ca,rs,n,i,j,rfl,_⟩:=h;rfl
 .obtain⟨p,l,ca,rs,n,i,j,rfl,b,R,hca,hi64,hj64,q⟩:=h;refine⟨_,(zf (zv (i:=2) Zo.nd rfl (XD rfl) (qt jg (pvS 0) zm (λ_ _=>rfl))) (@zf _ _ _ _ _ (@zv _ _ 3 _ _ _ _ Zo.nd rfl (XD rfl) (@qf _ _ _ _ zc) (by rfl) (.inr rfl)) (zf (qq W3 rfl (YF (by rfl) T.jh (za (zp (J6 rfl) (by rfl) T.zdD U9 (za (zD yX (qt jg (pvS 1) zm (λ_ _=>rfl)) zm) (@za _ _ _ _ _ zm zc rfl))) (za (zp (Jg rfl) (by rfl) T.zdE U8 (za (zD qm (qt jg (pvS 1) zm (λ_ _=>rfl)) zm) (za (zp zJ (by rfl) T.jK WL (za (pvS 2) zc)) zc))) zc))) (zo (i:=4) Zo.nd rfl (XD rfl)) (zg (qq W3 rfl (YF (by rfl) T.jh (za (zp (J6 rfl) (by rfl) T.zdD U9 (za (zD yX (qt jg (pvS 1) zm (λ_ _=>rfl)) zm) (@za _ _ _ _ _ zm zc rfl))) (za (zp (Jg rfl) (by rfl) T.zdE U8 (za (zD qm (qt jg (pvS 1) zm (λ_ _=>rfl)) zm) (za (zp xZ (by rfl) T.jK WL (za (qt qz (pvS 2) (pvS 4) (λ_ _=>rfl)) zc)) zc))) zc))) (zo (i:=5) Zo.nd rfl (XD rfl)) (zg (jm (PW.pt (zjr (zQ zbN (qt YH (qt qz (pvS 2) (pvS 4) (λ_ _=>rfl)) (pvS 5) (λ_ _=>rfl)) (jn (v:=.str "#") (by rfl) T.Yq.choose_spec (by exact⟨_,rfl⟩)) (qa _)) (zhn (zQ (ZJ hr.units) (yt (za (pvS 4) (za (pvS 5) zc))) (pvS 1) (qa _))))) (zg (j5 (yu W2 Wh Wg jd (pvS 3) (za (yt (za (pvS 4) (za (pvS 5) zc))) zc)))) qp))))) (zg (zL (pvS 3)))))),?_⟩;(try dsimp only[cxK,cxP,cxW]);refine⟨_,rfl,p,_,0,_,rfl,rfl,SqT.of b.tp,rfl,?_⟩;refine⟨Zf,λd hd=>?_⟩;have s0:zq H (upd H d (.lst [])):=ze hd;have r8:=R.hi;refine⟨_,rfl,ca,_,0,_,rfl,rfl,SqT.of (s0 _ _ hca),rfl,_,_,rfl,rfl,_,_,rfl,_,rfl,ca,_,0,_,rfl,rfl,SqT.of (s0 _ _ hca),rfl,_,_,rfl,rfl,_,rfl,l,_,rfl,.inl (SqL.of (b.mono s0).rw),_,_,rfl,((i-1:Nat):Int),((min (i+2) rs.length:Nat):Int),?_,⟨by lia,by lia,by lia,by lia⟩,?_⟩
  .show [V.int (if (0:Int)>(i:Int)-1 then (0:Int) else (i:Int)-1),V.int (if (((rs.map V.str).length:Nat):Int)<(i:Int)+2 then (((rs.map V.str).length:Nat):Int) else (i:Int)+2)]=_;rw[Y1,zfF,zfG]
  refine qx (lo:=((i-1:Nat):Int)) (λk σ H'=>∃(v4 v5:Option V) (ws:AF),σ=[some (.ref p),some (.ref ca),some (.ref l),some (.ref d),v4,v5]/\zq H H'/\H' d=some (.lst ws)/\Cel H' ws ((Cells.zI qh 0 ((codes rs).take (i-1+k))).filter λx=>Cells.near x (i,j)))
   ⟨_,_,[],rfl,s0,zd,?_⟩ ?_ ?_
  .rw[Cells.zko]
   .exact .nil
   .intro r c hr';rw[WX,ne_eq,Cells.Zg];rintro⟨⟨_,h2⟩,_⟩;dsimp only at h2;lia
  .rintro k σ H1 hk ⟨v4,v5,ws,rfl,s1,hd1,hc1⟩;have hrl:i-1+k<rs.length:=by lia
   have ecast:((i-1:Nat):Int)+(k:Nat)=((i-1+k:Nat):Int):=by lia
   rw[ecast];generalize hr0:i-1+k=r at *
   obtain⟨t,ht⟩:∃t,rs[r]?=some t:=⟨_,X5 hrl⟩;have htl:t.length<=Xz:=R.tlen ht;have ht8:t.cps.toList.length<=8:=R.short _ (XZ (qM ht));have hat:atI (rs.map V.str) ((r:Nat):Int)=some (V.str t):=QH (by rw[Xn,ht];rfl);refine⟨_,rfl,ca,_,1,_,rfl,rfl,SqT.of (s1 _ _ hca),rfl,_,_,rfl,rfl,_,_,rfl,_,rfl,ca,_,1,_,rfl,rfl,SqT.of (s1 _ _ hca),rfl,_,_,rfl,rfl,_,rfl,_,rfl,l,_,_,_,rfl,rfl,SqL.of (b.mono s1).rw,hat,t,rfl,htl,_,_,rfl,((j-1:Nat):Int),((min (j+2) t.cps.size:Nat):Int),?_,⟨by lia,by lia,by lia,?_⟩,?_⟩
   .show [V.int (if (0:Int)>(j:Int)-1 then (0:Int) else (j:Int)-1),V.int (if ((t.cps.size:Nat):Int)<(j:Int)+2 then ((t.cps.size:Nat):Int) else (j:Int)+2)]=_;rw[zfF,zfG]
   .lia
   have hsz:t.cps.toList.length=t.cps.size:=X7;refine qx (lo:=((j-1:Nat):Int)) (λm σ H'=>∃(v5:Option V) (ws:AF),σ=[some (.ref p),some (.ref ca),some (.ref l),some (.ref d),some (.int (r:Nat)),v5]/\zq H H'/\H' d=some (.lst ws)/\Cel H' ws ((Cells.zI qh 0 ((codes rs).take r)).filter (λx=>Cells.near x (i,j))++(Cells.qd qh r 0 (t.cps.toList.take (j-1+m))).filter λx=>Cells.near x (i,j)))
    ⟨_,ws,rfl,s1,hd1,?_⟩ ?_ ?_
   .rw[Cells.zkp (t:=t.cps.toList),W6]
    .exact hc1
    .intro c hc';rw[WX,ne_eq,Cells.Zg];rintro⟨_,⟨_,h2⟩,_⟩;dsimp only at h2;lia
   .rintro m σ H2 hm ⟨v5,ws2,rfl,s2,hd2,hc2⟩;have hcl:j-1+m<t.cps.size:=by lia
    have ecast2:((j-1:Nat):Int)+(m:Nat)=((j-1+m:Nat):Int):=by lia
    rw[ecast2];generalize hc0:j-1+m=c at *
    have hc0':j-1+(m+1)=c+1:=by lia
    obtain⟨k0,hk0⟩:∃k0,t.cps.toList[c]?=some k0:=⟨_,X5 (by lia)⟩;have step:=Cells.Qg (p:=qh) (i:=r) hk0;have step2:(Cells.qd qh r 0 (t.cps.toList.take (c+1))).filter (λx=>Cells.near x (i,j))=(Cells.qd qh r 0 (t.cps.toList.take c)).filter (λx=>Cells.near x (i,j))++(if (qh k0&&Cells.near (r,c) (i,j))=true then [(r,c)] else []):=by
     rw[step,zfH]
    have nr:Cells.near (r,c) (i,j)=!decide ((r,c)=(i,j)):=by
     rw[Ww,Cells.Zg];simp only[Wu,decide_eq_false_iff_not];constructor
     .exact λh=>h.2.2
     .intro h;refine⟨⟨?_,?_⟩,⟨?_,?_⟩,h⟩<;>(try dsimp only)<;>lia
    refine⟨_,rfl,_,rfl,l,_,_,_,rfl,rfl,SqL.of (b.mono s2).rw,hat,_,rfl,t,_,k0,rfl,rfl,htl,QH hk0,rfl,_,rfl,?_⟩;have ed:(!decide (V.str ⟨#[k0]⟩=V.str "#"))=qh k0:=by
     rw[QS];simp only[Qj];rfl
    rw[ed];by_cases hp:qh k0=true
    .refine j8 hp ?_;refine⟨_,rfl,_,rfl,zbn,λtp htp=>?_⟩;have s3:zq H2 (upd H2 tp (.tup [.int (r:Nat),.int (c:Nat)])):=ze htp;have hca3:=s3 _ _ (s2 _ _ hca);refine⟨_,rfl,_,_,Zn.rdv (c:=(r,c)) ⟨tp,rfl,zd⟩,Zn.rdv (c:=(i,j)) ⟨ca,rfl,hca3⟩,ziY _ _,_,rfl,?_⟩;have ee:(if true=true then !PyData.eqv (zw (r,c)) (zw (i,j)) else WS (zw (r,c)) (zw (i,j)))=Cells.near (r,c) (i,j):=by
      rw[zdF,nr];rfl
     rw[ee];rw[hp,S6]at step2;by_cases hn:Cells.near (r,c) (i,j)=true
     .refine j8 hn ?_;rw[bw hn]at step2;have hd3:=s3 _ _ hd2;refine⟨_,rfl,.inl ⟨rfl,_,SqL.of hd3⟩,_,rfl,_,rfl,zbn,λtq htq=>?_⟩;have s4:zq (upd H2 tp (.tup [.int (r:Nat),.int (c:Nat)])) (upd (upd H2 tp (.tup [.int (r:Nat),.int (c:Nat)])) tq (.tup [.int (r:Nat),.int (c:Nat)])):=ze htq;have hlen:ws2.length<=128:=by
       rw[hc2.length,XS];have h1:=Xa (λx=>Cells.near x (i,j)) (Cells.zI qh 0 ((codes rs).take r));have h2:=Xa (λx=>Cells.near x (i,j)) (Cells.qd qh r 0 (t.cps.toList.take c));have h3:=Cells.jq qh 0 ((codes rs).take r) λu hu=>R.short u (Wq hu);have h4:=Cells.jO qh r 0 (t.cps.toList.take c);rw[XA,jk]at h3;rw[XA]at h4;lia
      refine⟨d,_,_,rfl,rfl,s4 _ _ hd3,Xx hlen (by decide),?_⟩;refine⟨_,ws2++[.ref tq],rfl,λb' o e'=>?_,zd,?_⟩
      .rw[zk (zh e' hd)];exact s4 _ _ (s3 _ _ (s2 _ _ e'))
      .rw[hc0',step2,<- W0];exact Cel.into d _ (s4 _ _ hd3) (Cel.snoc (Cel.mono s4 (Cel.mono s3 hc2)) ⟨tq,rfl,zd⟩)
     .have hn':Cells.near (r,c) (i,j)=false:=by simpa using hn
      refine yI hn' ?_;rw[bq hn,W6]at step2;refine⟨_,ws2,rfl,s2.trans s3,s3 _ _ hd2,?_⟩;rw[hc0',step2];exact Cel.mono s3 hc2
    .have hp':qh k0=false:=by simpa using hp
     refine yI hp' ?_;refine zbl ?_;rw[hp',Tt,bq XT,W6]at step2;refine⟨_,ws2,rfl,s2,hd2,?_⟩;rw[hc0',step2];exact hc2
   .rintro σ H2 ⟨v5,ws2,rfl,s2,hd2,hc2⟩;refine⟨_,_,ws2,rfl,s2,hd2,?_⟩;have full:(Cells.qd qh r 0 (t.cps.toList.take (j-1+(((min (j+2) t.cps.size:Nat):Int)-((j-1:Nat):Int)).toNat))).filter (λx=>Cells.near x (i,j))=(Cells.qd qh r 0 t.cps.toList).filter λx=>Cells.near x (i,j):=by
     by_cases hbig:t.cps.size<=j-1+(((min (j+2) t.cps.size:Nat):Int)-((j-1:Nat):Int)).toNat
     .rw[WD (by lia)]
     .refine Cells.ziT λc hc'=>?_;rw[WX,ne_eq,Cells.Zg];rintro⟨_,⟨h2,_⟩,_⟩;dsimp only at h2;lia
    rw[full]at hc2;have e1:i-1+(k+1)=r+1:=by lia
    rw[e1,Cells.Qh (qM ht),W8];exact hc2
  .rintro σ H1 ⟨v4,v5,ws,rfl,s1,hd1,hc1⟩;have full:(Cells.zI qh 0 ((codes rs).take (i-1+(((min (i+2) rs.length:Nat):Int)-((i-1:Nat):Int)).toNat))).filter (λx=>Cells.near x (i,j))=zE rs (i,j):=by
    by_cases hbig:rs.length<=i-1+(((min (i+2) rs.length:Nat):Int)-((i-1:Nat):Int)).toNat
    .rw[WD (by rw[jk];lia)];rfl
    .refine Cells.ziS λr c hr'=>?_;rw[WX,ne_eq,Cells.Zg];rintro⟨⟨h2,_⟩,_⟩;dsimp only at h2;lia
   rw[full]at hc1;exact⟨_,rfl,q d ws H1 hd hd1 hc1 s1⟩
def Zn.rdn {N:Addr->Prop}{H:Hp}{v:V}{c:AA}(h:Zn H v c):Rdn N H v (zw c):=by
 obtain⟨a,rfl,h⟩:=h;exact .tup h (.cons (.int _) (.cons (.int _) .nil))
theorem Cel.rdn {N:Addr->Prop}{H:Hp}{vs:AF}{cs:AD}(hp:Cel H vs cs):zB N H vs (cs.map zw):=by
 induction hp with
 | nil=>exact .nil
 | cons h _ ih =>
  exact .cons (Zn.rdn h) ih
def Rdn.celR {N:Addr->Prop}{H:Hp}{v:V}{c:AA}(h:Rdn N H v (zw c)):Zn H v c:=by
 cases h with
 | tup h t =>
  cases t with
  | cons a t =>
   cases a;cases t with
   | cons b t =>
    cases b;cases t;exact⟨_,rfl,h⟩
theorem zB.cel {N:Addr->Prop}{H:Hp}:∀{cs:AD} {vs:AF},zB N H vs (cs.map zw)->Cel H vs cs
 | [],_,h=>by cases h;exact .nil
 | c::r,_,h=>by
  cases h with
  | cons a t=>exact .cons (Rdn.celR a) (zB.cel t)
theorem zB.bools {N:Addr->Prop}{H:Hp}:∀{bs:List Bool} {vs:AF},zB N H vs (bs.map SH)->vs=bs.map V.bl
 | [],_,h=>by cases h;rfl
 | b::r,_,h=>by
  cases h with
  | cons a t =>
   cases a;rw[zB.bools t];rfl
theorem jb {α:Type}(p:α->Bool)(g:α->V3):∀cs:List α,(cs.map λx=>if p x=true then some (g x) else none).filterMap id=(cs.filter p).map g
 | []=>rfl
 | c::r=>by
  rw[Xf,UL,Wn];by_cases h:p c=true
  .rw[bw h,bw h];show g c::_=g c::_;rw[jb p g r]
  .rw[bq h,bq h];exact jb p g r
theorem Zp {α:Type}(g:α->V3):∀cs:List α,(cs.map λx=>some (g x)).filterMap id=cs.map g
 | []=>rfl
 | c::r=>by
  rw[Xf,UL];show g c::_=g c::_;rw[Zp g r]
def xO {α β:Type}{g:α->β}{cs:List α}{i:Nat}{c:α}{o:β}(h:cs[i]?=some c)(ho:(cs.map g)[i]?=some o):o=g c:=by
 rw[Xn,h]at ho;exact(Option.some.inj ho).symm
def clA (rs:AE)(c:AA):AD:=(zE rs c).filter λx=>decide (Cells.sgn (codes rs) x=63)
def zM (rs:AE):AD:=Cells.zI jV 0 (codes rs)
def zR (rs:AE):AD:=Cells.zI Jz 0 (codes rs)
def jT (rs:AE):AD:=(zM rs).filter λc=>!((zR rs).map λo=>(zE rs o).any λz=>decide (z=c)).any id
def jF (rs:AE):AD:=((zR rs).filter λo=>(clA rs o).isEmpty).filter λo=>!decide (Cells.sgn (codes rs) o=48)
def jz {p:Nat->Bool}{rs:AE}(R:Rows bd.cps.toList rs):(Cells.zI p 0 (codes rs)).length<=64:=by
 have h1:=Cells.jq p 0 (codes rs) R.short;have h2:=R.hi;rw[jk]at h1;lia
def J0 {rs:AE}(R:Rows bd.cps.toList rs)(c:AA):(zE rs c).length<=64:=X0 (Xa _ _) (jz R)
def zK {p:Nat->Bool}{rs:AE}{c:AA}(h:c∈Cells.zI p 0 (codes rs)):∃t k,rs[c.1]?=some t/\t.cps.toList[c.2]?=some k/\p k=true/\Cells.sgn (codes rs) c=k:=by
 obtain⟨k0,j,u,k,ec,hk0,hj,hpc⟩:=Cells.Jk h;obtain⟨t,ht,rfl⟩:=zaU hk0;rw[VL]at ec;subst ec;exact⟨t,k,ht,hj,hpc,Cells.zci hk0 hj⟩
def JA {rs:AE}{c:AA}{t:Str}{k:Nat}(R:Rows bd.cps.toList rs)(h1:rs[c.1]?=some t)(h2:t.cps.toList[c.2]?=some k):c.1<64/\c.2<64:=by
 have a:=(XW.mp h1).1;have b:=(XW.mp h2).1;have e:=R.hi;have f:=R.short _ (XZ (qM h1));lia
def zhP {rs:AE}{i j:Nat}{t:Str}{k:Nat}(R:Rows bd.cps.toList rs)(h1:rs[i]?=some t)(h2:t.cps.toList[j]?=some k):k∈bd.cps.toList:=by
 obtain⟨n,_,_,h⟩:=R.ex;exact(h t (XZ h1)).mem k (XZ h2)
def zpH:Sp:=λvs H Q _=>∃(p l ca:Addr) (rs:AE) (n:Int) (c:AA),vs=[.ref p,.ref ca]/\qk H p l rs n/\Rows bd.cps.toList rs/\H ca=some (.tup [.int (c.1:Nat),.int (c.2:Nat)])/\c.1<64/\c.2<64 /\
 ∀(d:Addr) (ws:AF) (H':Hp),H d=none->H' d=some (.lst ws)->Cel H' ws (clA rs c)->zq H H'->Q (.ref d) H'
def znc (g:AE->AD):Sp:=λvs H Q _=>∃(a l:Addr) (rs:AE) (n:Int),vs=[.ref a]/\qk H a l rs n/\Rows bd.cps.toList rs /\
 ∀(d:Addr) (ws:AF) (H':Hp),H d=none->H' d=some (.lst ws)->Cel H' ws (g rs)->zq H H'->Q (.ref d) H'
def zaW:zH ["board","cell"] ["board","cell"] (zj qD):=bz
def Zq {f1 f2:Addr}{fd1 fd2:Xc}(T:Txt mg)(D:zu K mg "closed_around" qD ["board","cell"] f fd)(qb:zu K mg "around" yy ["board","cell"] f1 fd1)(zC:zu K mg "sign_at" qY ["board","cell"] f2 fd2) :
  ql P w K mg base CX0 2 f fd ["board","cell"] zpH:=by
 refine D.F.ok zaW (λvs H Q E h=>?_) (λcdv A outer s H vs Q E hr h=>?_)
 .obtain⟨p,l,ca,rs,n,c,rfl,_⟩:=h;rfl
 .obtain⟨p,l,ca,rs,n,c,rfl,b,R,hca,ci,cj,q⟩:=h;refine⟨_,(zg (zL (qB (N:=["place","board"]) (src:=[none,some 0]) (zZ.free (O:=(zj qD).names) (XN:=["board","cell"]) rfl rfl ⟨_,rfl⟩ rfl rfl (by decide+kernel) (by decide+kernel) (by decide+kernel) rfl (by decide+kernel)) rfl (z4 (pc0 (YL T qb) hr qb (za (pvS 0) (za (pvS 1) zc)))) (λ_ _ _ _ _=>(zo (i:=0) (by show WZ (["place","board"]:AE);decide+kernel) rfl (XD rfl))) (λ_ _ _ _ _=>(qO (zQ Yc (pc0 (ZT zC) hr zC (za (pvS 1) (za (pvS 0) zc))) (jn (v:=.str "?") (by rfl) T.JZ.choose_spec (by exact⟨_,rfl⟩)) (qa _)))) (λ_ _ _ _ _=>(pvS 0))))),?_⟩;(try dsimp only[cxK,cxP,cxW]);refine⟨_,rfl,_,rfl,p,l,ca,rs,n,c.1,c.2,rfl,b,R,hca,ci,cj,λd ws H1 hd hd1 hc1 s1=>⟨d,rfl,⟨_,SqL.of hd1⟩,λz hz=>?_⟩⟩;refine qX (K:=K) (a:=d) (xs:=ws) (λa=>a≠z) ((zE rs c).map λx=>if decide (Cells.sgn (codes rs) x=63)=true then some (zw x) else none) (fun σ=>∃u0,σ=[u0,some (.ref p)]) hz (λ_ h=>h) ⟨_,rfl⟩ (by rw[Y1];exact hc1.length.symm) (by rw[hc1.length];exact X0 (J0 R c) (by decide)) (SqL.of hd1) ?_ ?_
  .rintro k x o σ H2 hx ho s2 _ ⟨u0,rfl⟩ Y Z yes no;obtain⟨y,hy,r1⟩:=Cel.get hc1 hx;have eo:=xO hy ho;obtain⟨t,sg,ht,hj,_,es⟩:=zK (XX.mp (XZ hy)).1;obtain⟨ya,rfl,hya⟩:=r1;refine⟨_,rfl,_,rfl,p,l,ya,rs,n,y.1,y.2,t,sg,rfl,(b.mono s1).mono s2,s2 _ _ hya,ht,hj,R.tlen ht,rfl,_,rfl,?_⟩;have ed:decide (V.str ⟨#[sg]⟩=V.str "?")=decide (sg=63):=by
    rw[zaV];simp only[Qj]
   rw[ed];rw[es]at eo;by_cases hp:sg=63
   .rw[br hp];rw[bw (br hp)]at eo;exact Yg ⟨_,rfl,yes _ _ _ _ eo ⟨_,rfl⟩ (zq.refl _) (Zn.rdn ⟨ya,rfl,s2 _ _ hya⟩)⟩
   .rw[bf hp];rw[bq (by rw[bf hp];exact XT)]at eo;exact zbl (no _ _ eo ⟨_,rfl⟩ (zq.refl _))
  .rintro ys H2 s2 hz2 hr2;rw[jb]at hr2;exact q z ys H2 (s1.free hz) hz2 (zB.cel hr2) (s1.trans s2)
def zfI (cs:AD):Vw (cs.map zw)=true:=by
 induction cs with
 | nil=>rfl
 | cons c r ih =>
  show (UA (zw c)&&Vw (r.map zw))=true;rw[ih];rfl
def zop (cs:AD):VB (cs.map zw)<=1:=by
 induction cs with
 | nil=>exact W7 _
 | cons c r ih =>
  show max (PyData.depth (zw c)) (VB (r.map zw))<=1;have:PyData.depth (zw c)=1:=rfl;lia
def zcr (cs ds:AD):zgl (.list (cs.map zw)) (.list (ds.map zw)):=⟨zfI cs,zfI ds,by
 show VB (cs.map zw)+1<=64;have:=zop cs;lia⟩
def Zr (cs:AD)(c:AA):(cs.map zw).any (λz=>WS z (zw c))=cs.any λz=>decide (z=c):=by
 rw[TY];congr 1;funext z;exact zdF z c
def eq_nil (cs:AD):WS (.list (cs.map zw)) (.list [])=cs.isEmpty:=by
 cases cs<;>rfl
def zkI:zH ["board","told"] ["board"] (zj zfE):=bz
def zkJ {f1 f2 f3 f4 f5:Addr}{fd1 fd2 fd3 fd4 fd5:Xc}(T:Txt mg)(D:zu K mg "far" zfE ["board"] f fd)(qb:zu K mg "around" yy ["board","cell"] f1 fd1)(zC:zu K mg "sign_at" qY ["board","cell"] f2 fd2)
  (zG:zu K mg "cells_of" qS ["board"] f3 fd3) (xE:zu K mg "closed" Zj ["board"] f4 fd4) (zF:zu K mg "open_cells" qG ["board"] f5 fd5):ql P w K mg base CX0 3 f fd ["board"] (znc jT):=by
 refine D.F.ok zkI (λvs H Q E h=>?_) (λcdv A outer s H vs Q E hr h=>?_)
 .obtain⟨a,l,rs,n,rfl,_⟩:=h;rfl
 .obtain⟨a,l,rs,n,rfl,b,R,q⟩:=h;refine⟨_,(zf (zv (i:=1) zkI.nd rfl (TL rfl) (qB (N:=["cell","board"]) (src:=[none,some 0]) (zZ.free (O:=(zj zfE).names) (XN:=["board","told"]) rfl rfl ⟨_,rfl⟩ rfl rfl (by decide+kernel) (by decide+kernel) (by decide+kernel) rfl (by decide+kernel)) rfl (z4 (pc0 (xj T zF zG zC) hr zF (za (pvS 0) zc))) (λ_ _ _ _ _=>(zo (i:=0) (by show WZ (["cell","board"]:AE);decide+kernel) rfl (XD rfl))) (λ_ _ _ _ _=>qN) (λ_ _ _ _ _=>(pc0 (YL T qb) hr qb (za (pvS 1) (za (pvS 0) zc)))))) (zg (zL (zjO (N:=["cell","told"]) (src:=[none,some 1]) (JN.byRfl (y:="cell") rfl (λ_ _=>rfl) (λ_=>rfl) (by decide+kernel) (by decide+kernel) (by rfl) rfl (by rfl)) rfl (z4 (pc0 (zdG T xE zG zC) hr xE (za (pvS 0) zc))) (λ_ _ _ _ _=>(zo (i:=0) (by show WZ (["cell","told"]:AE);decide+kernel) rfl (TL rfl))) (λ_ _ _ _ _=>(qO (zbM (zaC (K:=K) (by rfl) (zp (zdk (K:=K) (by rfl) (by rfl)) (by rfl) T.zky Sb (za (qB (N:=["near","cell"]) (src:=[none,some 0]) (zZ.byRfl rfl (by decide+kernel) (by decide+kernel) (by rfl) rfl (by rfl)) (by rfl) (zfa (K:=K) (by rfl) (pvS 1)) (λ_ _ _ _ _=>(zo (i:=0) (by show WZ (["near","cell"]:AE);decide+kernel) rfl (XD rfl))) (λ_ _ _ _ _=>qN) (λ_ _ _ _ _=>(j6 (yc (K:=K) (by rfl) hr.units) (pvS 1) (pvS 0) (by rfl)))) zc)) (λ_=>rfl))))) (λ_ _ _ _ _=>(pvS 0)))))),?_⟩;(try dsimp only[cxK,cxP,cxW]);refine⟨_,rfl,a,l,rs,n,rfl,b,R,λd ws H1 hd hd1 hc1 s1=>⟨d,rfl,⟨_,SqL.of hd1⟩,λz hz=>?_⟩⟩;have b1:=b.mono s1;refine qX (K:=K) (a:=d) (xs:=ws) (λa=>a≠z) ((zR rs).map λo=>some (.list ((zE rs o).map zw))) (fun σ=>∃u0,σ=[u0,some (.ref a)]) hz (λ_ h=>h) ⟨_,rfl⟩ (by rw[Y1];exact hc1.length.symm) (by rw[hc1.length];exact X0 (jz R) (by decide)) (SqL.of hd1) ?_ ?_
  .rintro k x o σ H2 hx ho s2 hzn ⟨u0,rfl⟩ Y Z yes no;obtain⟨y,hy,r1⟩:=Cel.get hc1 hx;have eo:=xO hy ho;obtain⟨t,sg,ht,hj,_,es⟩:=zK (XZ hy);obtain⟨ya,rfl,hya⟩:=r1;obtain⟨l1,l2⟩:=JA R ht hj;refine ZL ⟨_,rfl,_,rfl,a,l,ya,rs,n,y.1,y.2,rfl,b1.mono s2,R,s2 _ _ hya,l1,l2,λd2 ws2 H3 hd2 hd3 hc2 s3=>?_⟩;refine yes _ _ _ _ eo ⟨_,rfl⟩ s3 (.lst (λe=>hzn (e ▸ hd2)) hd3 (Cel.rdn hc2))
  .rintro ys H2 s2 hz2 hr2;rw[Zp]at hr2;have b2:=b1.mono s2;refine⟨_,rfl,a,l,rs,n,rfl,b2,R,λd3 ws3 H3 hd3 hd4 hc3 s3=>⟨d3,rfl,⟨_,SqL.of hd4⟩,λz3 hz3=>?_⟩⟩;have hz4:=s3 _ _ hz2;have hr3:=hr2.keep s3;refine qX (K:=K) (a:=d3) (xs:=ws3) (λa=>a≠z3) ((zM rs).map λc=>if (!((zR rs).map λo=>(zE rs o).any λz=>decide (z=c)).any id)=true then some (zw c) else none) (fun σ=>∃u0,σ=[u0,some (.ref z)]) hz3 (λ_ h=>h) ⟨_,rfl⟩ (by rw[Y1];exact hc3.length.symm) (by rw[hc3.length];exact X0 (jz R) (by decide)) (SqL.of hd4) ?_ ?_
   .rintro k x o σ H4 hx ho s4 _ ⟨u0,rfl⟩ Y Z yes no;obtain⟨y,hy,r1⟩:=Cel.get hc3 hx;have eo:=xO hy ho;have r2:Zn H4 x y:=by
     obtain⟨ya,e,hya⟩:=r1;exact⟨ya,e,s4 _ _ hya⟩
    refine⟨_,rfl,z,rfl,⟨_,SqL.of (s4 _ _ hz4)⟩,λz5 hz5=>?_⟩;have hyl:ys.length=(zR rs).length:=by rw[hr2.length,Y1]
    refine qX (K:=K) (a:=z) (xs:=ys) (λa=>a≠z5) ((zR rs).map λo=>some (.bool ((zE rs o).any λz=>decide (z=y)))) (fun σ=>∃u0,σ=[u0,some x]) hz5 (λ_ h=>h) ⟨_,rfl⟩ (by rw[Y1];exact hyl.symm) (by rw[hyl];exact X0 (jz R) (by decide)) (SqL.of (s4 _ _ hz4)) ?_ ?_
    .rintro m v o2 σ H5 hv ho2 s5 _ ⟨u1,rfl⟩ Y2 Z2 yes2 no2;obtain⟨dv,hdv,rv⟩:=hr3.get hv;rw[Xn]at hdv;cases eoc:(zR rs)[m]? with
     | none=>rw[eoc]at hdv;cases hdv
     | some oc =>
      rw[eoc]at hdv;cases hdv;have eo2:=xO eoc ho2;have r3:Zn H5 x y:=by
       obtain⟨ya,e,hya⟩:=r2;exact⟨ya,e,s5 _ _ hya⟩
      refine ZL ⟨_,rfl,_,rfl,zw y,(zE rs oc).map zw,r3.rdv,(((rv.keep s4).keep s5).rdv),rfl,zfI _,(by show 1<=60;decide),?_⟩;have ei:(if false=true then !((zE rs oc).map zw).any (λz=>WS z (zw y)) else ((zE rs oc).map zw).any λz=>WS z (zw y))=(zE rs oc).any λz=>decide (z=y):=Zr _ _;rw[ei];exact yes2 _ _ _ _ eo2 ⟨_,rfl⟩ (zq.refl _) (.bl _)
    .rintro ys5 H5 s5 hz6 hr5;rw[Zp,show ((zR rs).map λo=>SH ((zE rs o).any λz=>decide (z=y)))=((zR rs).map λo=>(zE rs o).any λz=>decide (z=y)).map SH by rw[WY];rfl]at hr5;rw[zB.bools hr5]at hz6;refine⟨z5,_,rfl,SqL.of hz6,_,rfl,?_⟩;by_cases hp:(!((zR rs).map λo=>(zE rs o).any λz=>decide (z=y)).any id)=true
     .rw[bw hp]at eo;refine j8 hp ⟨_,rfl,yes _ _ _ _ eo ⟨_,rfl⟩ s5 (Zn.rdn ?_)⟩;obtain⟨ya,e,hya⟩:=r2;exact⟨ya,e,s5 _ _ hya⟩
     .rw[bq hp]at eo;exact yI (by simpa using hp) (no _ _ eo ⟨_,rfl⟩ s5)
   .rintro ys4 H4 s4 hz6 hr4;rw[jb]at hr4;exact q z3 ys4 H4 (s1.free (s2.free (s3.free hz3))) hz6 (zB.cel hr4) (((s1.trans s2).trans s3).trans s4)
def Y6:zH ["board","bare"] ["board"] (zj jS):=bz
def Y7 {f1 f2 f3 f4 f5 f6:Addr}{fd1 fd2 fd3 fd4 fd5 fd6:Xc}(T:Txt mg)(D:zu K mg "bare_wrong" jS ["board"] f fd)(qb:zu K mg "around" yy ["board","cell"] f1 fd1)(zC:zu K mg "sign_at" qY ["board","cell"] f2 fd2)
  (zG:zu K mg "cells_of" qS ["board"] f3 fd3) (zY:zu K mg "closed_around" qD ["board","cell"] f4 fd4) (zF:zu K mg "open_cells" qG ["board"] f5 fd5) (qJ:zu K mg "number_at" xB ["board","cell"] f6 fd6):ql P w K mg base CX0 3 f fd ["board"] (znc jF):=by
 refine D.F.ok Y6 (λvs H Q E h=>?_) (λcdv A outer s H vs Q E hr h=>?_)
 .obtain⟨a,l,rs,n,rfl,_⟩:=h;rfl
 .obtain⟨a,l,rs,n,rfl,b,R,q⟩:=h;refine⟨_,(zf (ZM (i:=1) Y6.nd rfl rfl (N:=["cell","board"]) (src:=[none,some 0]) (zZ.free (O:=(zj jS).names) (XN:=["board","bare"]) rfl rfl ⟨_,rfl⟩ rfl rfl (by decide+kernel) (by decide+kernel) (by decide+kernel) rfl (by decide+kernel)) rfl (z4 (pc0 (xj T zF zG zC) hr zF (za (pvS 0) zc))) (λ_ _ _ _ _=>(zo (i:=0) (by show WZ (["cell","board"]:AE);decide+kernel) rfl (XD rfl))) (λ_ _ _ _ _=>(qO (zQ (ze4 (K:=K) (by rfl) hr.units) (pc0 (Zq T zY qb zC) hr zY (za (pvS 1) (za (pvS 0) zc))) (@qf _ _ _ _ zc) (qa _)))) (λ_ _ _ _ _=>(pvS 0))) (zg (zL (qB (N:=["cell","board"]) (src:=[none,some 0]) (zZ.free (O:=(zj jS).names) (XN:=["board","bare"]) rfl rfl ⟨_,rfl⟩ rfl rfl (by decide+kernel) (by decide+kernel) (by decide+kernel) rfl (by decide+kernel)) rfl (z4 (pvS 1)) (λ_ _ _ _ _=>(zo (i:=0) (by show WZ (["cell","board"]:AE);decide+kernel) rfl (XD rfl))) (λ_ _ _ _ _=>(qO (zQ zbN (pc0 (zac T qJ zC) hr qJ (za (pvS 1) (za (pvS 0) zc))) zm (qa _)))) (λ_ _ _ _ _=>(pvS 0)))))),?_⟩;(try dsimp only[cxK,cxP,cxW]);refine⟨_,rfl,a,l,rs,n,rfl,b,R,λd ws H1 hd hd1 hc1 s1=>⟨d,rfl,⟨_,SqL.of hd1⟩,λz hz=>?_⟩⟩;have b1:=b.mono s1;refine qX (K:=K) (a:=d) (xs:=ws) (λa=>a≠z) ((zR rs).map λo=>if (clA rs o).isEmpty=true then some (zw o) else none) (fun σ=>∃u0,σ=[u0,some (.ref a)]) hz (λ_ h=>h) ⟨_,rfl⟩ (by rw[Y1];exact hc1.length.symm) (by rw[hc1.length];exact X0 (jz R) (by decide)) (SqL.of hd1) ?_ ?_
  .rintro k x o σ H2 hx ho s2 hzn ⟨u0,rfl⟩ Y Z yes no;obtain⟨y,hy,r1⟩:=Cel.get hc1 hx;have eo:=xO hy ho;obtain⟨t,sg,ht,hj,_,es⟩:=zK (XZ hy);obtain⟨ya,rfl,hya⟩:=r1;obtain⟨l1,l2⟩:=JA R ht hj;refine⟨_,rfl,_,rfl,a,l,ya,rs,n,y,rfl,b1.mono s2,R,s2 _ _ hya,l1,l2,λd2 ws2 H3 hd2 hd3 hc2 s3=>⟨Zf,λe he=>?_⟩⟩;have s4:=ze (o:=.lst []) he;refine⟨.list ((clA rs y).map zw),.list [],.lst (SqL.of (s4 _ _ hd3)) (zB.rdv (N:=λ_=>True) (Cel.rdn (Cel.mono s4 hc2))),.lst (SqL.of zd) .nil,zcr _ [],_,rfl,?_⟩;have ee:(if false=true then !PyData.eqv (.list ((clA rs y).map zw)) (.list []) else WS (.list ((clA rs y).map zw)) (.list []))=(clA rs y).isEmpty:=eq_nil _;rw[ee];by_cases hp:(clA rs y).isEmpty=true
   .rw[bw hp]at eo;exact j8 hp ⟨_,rfl,yes _ _ _ _ eo ⟨_,rfl⟩ (s3.trans s4) (Zn.rdn ⟨ya,rfl,s4 _ _ (s3 _ _ (s2 _ _ hya))⟩)⟩
   .rw[bq hp]at eo;exact yI (by simpa using hp) (no _ _ eo ⟨_,rfl⟩ (s3.trans s4))
  .rintro ys H2 s2 hz2 hr2;rw[jb]at hr2;have hc2:=zB.cel hr2;have b2:=b1.mono s2;refine⟨_,rfl,z,rfl,⟨_,SqL.of hz2⟩,λz3 hz3=>?_⟩;refine qX (K:=K) (a:=z) (xs:=ys) (λa=>a≠z3) (((zR rs).filter λo=>(clA rs o).isEmpty).map λo=>if (!decide (Cells.sgn (codes rs) o=48))=true then some (zw o) else none) (fun σ=>∃u0,σ=[u0,some (.ref a)]) hz3 (λ_ h=>h) ⟨_,rfl⟩ (by rw[Y1];exact hc2.length.symm) (by rw[hc2.length];exact X0 (Xa _ _) (X0 (jz R) (by decide))) (SqL.of hz2) ?_ ?_
   .rintro k x o σ H4 hx ho s4 _ ⟨u0,rfl⟩ Y Z yes no;obtain⟨y,hy,r1⟩:=Cel.get hc2 hx;have eo:=xO hy ho;obtain⟨t,sg,ht,hj,hpo,es⟩:=zK (XX.mp (XZ hy)).1;obtain⟨ya,rfl,hya⟩:=r1;obtain⟨k1,k2⟩:=zdH (zhP R ht hj) hpo;refine⟨_,rfl,_,rfl,a,l,ya,rs,n,y.1,y.2,t,sg,rfl,b2.mono s4,s4 _ _ hya,ht,hj,R.tlen ht,k1,k2,rfl,_,rfl,?_⟩;have ed:(!decide (V.int ((sg:Int)-48)=V.int 0))=!decide (Cells.sgn (codes rs) y=48):=by
     rw[es,zd9];congr 1;by_cases h:sg=48
     .rw[br h,h];rfl
     .rw[bf h];simp only[beq_eq_false_iff_ne,ne_eq];lia
    rw[ed];by_cases hp:(!decide (Cells.sgn (codes rs) y=48))=true
    .rw[bw hp]at eo;exact j8 hp ⟨_,rfl,yes _ _ _ _ eo ⟨_,rfl⟩ (zq.refl _) (Zn.rdn ⟨ya,rfl,s4 _ _ hya⟩)⟩
    .rw[bq hp]at eo;exact yI (by simpa using hp) (no _ _ eo ⟨_,rfl⟩ (zq.refl _))
   .rintro ys4 H4 s4 hz6 hr4;rw[jb]at hr4;exact q z3 ys4 H4 (s1.free (s2.free hz3)) hz6 (zB.cel hr4) ((s1.trans s2).trans s4)
def zi0 {K:XY}{H:Hp}{vs:AF}{cs:AD}(hp:Cel H vs cs):xK K H vs (cs.map zw):=by
 induction hp with
 | nil=>exact .nil
 | cons h _ ih =>
  exact .cons (Zn.rdv h) ih
def toI (c:AA):Int×Int:=(((c.1:Nat):Int),((c.2:Nat):Int))
def ofI (p:Int×Int):AA:=(p.1.toNat,p.2.toNat)
def zhQ (c:AA):ofI (toI c)=c:=rfl
def zmr {c d:AA}(h:toI c=toI d):c=d:=by rw[<- zhQ c,h,zhQ]
def zms {c d:AA}:lt2 (toI c) (toI d)=true↔Cells.lex c d:=by
 obtain⟨a,b⟩:=c;obtain⟨x,y⟩:=d;unfold lt2 Cells.lex;show (if ((a:Nat):Int)=((x:Nat):Int) then decide (((b:Nat):Int)<((y:Nat):Int)) else decide (((a:Nat):Int)<((x:Nat):Int)))=true↔a<x\/(a=x/\b<y);by_cases e:a=x
 .rw[bw (by lia),bu];lia
 .rw[bq (by lia),bu];lia
def Cel.tup2 {H:Hp}{vs:AF}{cs:AD}(hp:Cel H vs cs):xx H vs (cs.map toI):=by
 induction hp with
 | nil=>exact .nil
 | cons q _ ih =>
  obtain⟨a,e,h⟩:=q;exact .cons ⟨a,e,h⟩ ih
theorem JT {H:Hp}:∀{cs:AD} {vs:AF},xx H vs (cs.map toI)->Cel H vs cs
 | [],_,.nil=>.nil
 | _::_,_,.cons ⟨a,e,h⟩ t=>.cons ⟨a,e,h⟩ (JT t)
def zmt {ps:List (Int×Int)}{cs:AD}(h:ps.Perm (cs.map toI)):∃ds:AD,ps=ds.map toI/\ds.Perm cs:=by
 refine⟨ps.map ofI,?_,?_⟩
 .rw[WY];refine(RS ps).symm.trans (Xm λp hp=>?_);obtain⟨c,_,rfl⟩:=XO.mp (h.mem_iff.mp hp);rfl
 .have:=h.map ofI;rw[WY]at this;have e:cs.map (ofI∘toI)=cs:=(Xm λc _=>zhQ c).trans (RS cs);rwa [e]at this
def zoq {cs:AD}(h:Up2 (cs.map toI)):cs.Pairwise Cells.lex:=by
 unfold Up2 at h;rw[Wf]at h;exact h.imp λz=>zms.mp z
def yh {cs:AD}(h:cs.Pairwise Cells.lex):cs.Nodup:=h.imp λ{a b} z e=>by
 subst e;unfold Cells.lex at z;lia
def zi1 (H:Hp)(v:V)(g:AD):Prop:=∃a us,v=V.ref a/\H a=some (.lst us)/\Cel H us g
def j9 (H:Hp):AF->List AD->Prop:=WU (zi1 H)
theorem zi1.mono {H H':Hp}{v:V}{g:AD}(s:zq H H')(h:zi1 H v g):zi1 H' v g:=by
 obtain⟨a,us,e,h1,h2⟩:=h;exact⟨a,us,e,s _ _ h1,h2.mono s⟩
theorem j9.mono {H H':Hp}(s:zq H H'){vs:AF}{gs:List AD}(hp:j9 H vs gs):j9 H' vs gs:=by
 induction hp with
 | nil=>exact .nil
 | cons h _ ih =>
  exact .cons (h.mono s) ih
theorem j9.get {H:Hp}:∀{vs:AF} {gs:List AD} {i:Nat} {v:V},j9 H vs gs->vs[i]?=some v->∃g,gs[i]?=some g/\zi1 H v g
 | _,_,_,_,.nil,e=>by simp at e
 | _,_,0,_,.cons r _,e=>by
  simp at e;subst e;exact⟨_,rfl,r⟩
 | _,_,i+1,v,.cons _ t,e=>by
  obtain⟨c,h1,h2⟩:=j9.get (i:=i) (v:=v) t (by simpa using e);exact⟨c,by simpa using h1,h2⟩
theorem j9.length {H:Hp}{vs:AF}{gs:List AD}(h:j9 H vs gs):vs.length=gs.length:=Paired.length h
theorem j9.snoc {H:Hp}{vs:AF}{gs:List AD}{v:V}{g:AD}(h:j9 H vs gs)(x:zi1 H v g):j9 H (vs++[v]) (gs++[g]):=Paired.snoc h x
def lD (g:AD):V3:=.list (g.map zw)
theorem zdI {p q:Nat->Bool}(h:∀c,p c=true->q c=false)(i:Nat):∀(j:Nat) (t:List Nat),(Cells.qd p i j t).length+(Cells.qd q i j t).length<=t.length
 | _,[]=>XU _
 | j,c::r=>by
  have ih:=zdI h i (j+1) r;rw[Cells.qd,Cells.qd,XS,XS,XE];by_cases hp:p c=true
  .rw[bw hp,bq (by rw[h c hp];exact XT)];simp only[XE,UP];lia
  .rw[bq hp];split<;>simp only[XE,UP]<;>lia
theorem zdJ {p q:Nat->Bool}(h:∀c,p c=true->q c=false):∀(i:Nat) (rs:List (List Nat)),(∀t∈rs,t.length<=8)->(Cells.zI p i rs).length+(Cells.zI q i rs).length<=8*rs.length
 | _,[],_=>XU _
 | i,t::r,ht=>by
  have ih:=zdJ h (i+1) r λu hu=>ht u (XV _ hu);have h1:=zdI h i 0 t;have h2:=ht t X2;rw[Cells.zI,Cells.zI,XS,XS,XE];lia
def zdK {rs:AE}(R:Rows bd.cps.toList rs):(zR rs).length+(zM rs).length<=64:=by
 have:=zdJ (p:=Jz) (q:=jV) (λc hc=>by
  unfold Jz at hc;rw[WG,Wu]at hc;exact hc.2) 0 (codes rs) R.short
 have h2:=R.hi;rw[jk]at this;unfold zR zM;lia
theorem zad {p:Nat->Bool}{i:Nat}:∀{j m:Nat} {t:List Nat} {c:Nat},t[m]?=some c->p c=true->(i,j+m)∈Cells.qd p i j t
 | j,m,[],c,h,_=>by simp at h
 | j,0,d::r,c,h,hp=>by
  have e:d=c:=by simpa using h
  subst e;rw[Cells.qd,bw hp];exact Xi _ X2
 | j,m+1,d::r,c,h,hp=>by
  rw[Cells.qd];refine XC _ ?_;have:=zad (i:=i) (j:=j+1) (m:=m) (t:=r) (c:=c) (by simpa using h) hp;rwa [show j+1+m=j+(m+1) by lia]at this
theorem Ja {p:Nat->Bool}:∀{i m:Nat} {rs:List (List Nat)} {t:List Nat} {j c:Nat},rs[m]?=some t->t[j]?=some c->p c=true->(i+m,j)∈Cells.zI p i rs
 | i,m,[],t,j,c,h,_,_=>by simp at h
 | i,0,d::r,t,j,c,h,hj,hp=>by
  have e:d=t:=by simpa using h
  subst e;rw[Cells.zI];refine Xi _ ?_;have:=zad (i:=i) (j:=0) hj hp;rwa [show 0+j=j by lia]at this
 | i,m+1,d::r,t,j,c,h,hj,hp=>by
  rw[Cells.zI];refine XC _ ?_;have:=Ja (i:=i+1) (m:=m) (rs:=r) (t:=t) (j:=j) (c:=c) (by simpa using h) hj hp;rwa [show i+1+m=i+(m+1) by lia]at this
def zdL (rs:AE)(c:AA):(clA rs c).Nodup:=((yh (Cells.jP _ 0 (codes rs))).sublist Wj).sublist Wj
def xF {rs:AE}{c x:AA}(h:x∈clA rs c):x∈zM rs:=by
 unfold clA at h;obtain⟨h1,h2⟩:=XX.mp h;obtain⟨t,k,ht,hj,_,es⟩:=zK (XX.mp h1).1;have e63:k=63:=by
  have:=bh h2;lia
 subst e63;have:=Ja (p:=jV) (i:=0) (qM ht) hj (by decide);rwa [VL]at this
def heads (gs:List AD):List (Int×Int):=gs.map λg=>toI (g.headD (0,0))
def head_mem {g:AD}(h:g ≠ []):g.headD (0,0)∈g:=by
 cases g with
 | nil=>exact absurd rfl h
 | cons a r=>exact X2
theorem zbd:∀{gs:List AD},(∀g∈gs,g ≠ [])->gs.flatten.Nodup->(heads gs).Nodup
 | [],_,_=>T7
 | g::r,h,nd=>by
  rw[WH,VG]at nd;obtain⟨_,h2,h3⟩:=nd;unfold heads;rw[Xf,Wl];refine⟨λhm=>?_,zbd (λx hx=>h x (XV _ hx)) h2⟩;obtain⟨g2,hg2,e⟩:=XO.mp hm;have e':=zmr e;have m1:=head_mem (h g X2);have m2:=head_mem (h g2 (XV _ hg2));rw[e']at m2;exact h3 _ m1 _ (Wy.mpr ⟨g2,hg2,m2⟩) rfl
def Jb (rs:AE)(part:AD):AD:=(zR rs).filter λo=>((zE rs o).map λz=>part.any λx=>decide (x=z)).any id
def zor:Sp:=λvs H Q _=>∃(a l pa:Addr) (rs:AE) (n:Int) (ps:AF) (part:AD),vs=[.ref a,.ref pa]/\qk H a l rs n/\Rows bd.cps.toList rs/\H pa=some (.lst ps)/\Cel H ps part /\
 ∀(d:Addr) (ws:AF) (H':Hp),H d=none->H' d=some (.lst ws)->Cel H' ws (Jb rs part)->zq H H'->Q (.ref d) H'
def zc4:zH ["board","part"] ["board","part"] (zj yC):=bz
def zc5 {f1 f2 f3 f5:Addr}{fd1 fd2 fd3 fd5:Xc}(T:Txt mg)(D:zu K mg "numbers_of" yC ["board","part"] f fd)(qb:zu K mg "around" yy ["board","cell"] f1 fd1)(zC:zu K mg "sign_at" qY ["board","cell"] f2 fd2)
  (zG:zu K mg "cells_of" qS ["board"] f3 fd3) (zF:zu K mg "open_cells" qG ["board"] f5 fd5):ql P w K mg base CX0 3 f fd ["board","part"] zor:=by
 refine D.F.ok zc4 (λvs H Q E h=>?_) (λcdv A outer s H vs Q E hr h=>?_)
 .obtain⟨a,l,pa,rs,n,ps,part,rfl,_⟩:=h;rfl
 .obtain⟨a,l,pa,rs,n,ps,part,rfl,b,R,hpa,hpt,q⟩:=h;refine⟨_,(zg (zL (qB (N:=["cell","part","board"]) (src:=[none,some 1,some 0]) (zZ.free (O:=(zj yC).names) (XN:=["board","part"]) rfl rfl ⟨_,rfl⟩ rfl rfl (by decide+kernel) (by decide+kernel) (by decide+kernel) rfl (by decide+kernel)) rfl (z4 (pc0 (xj T zF zG zC) hr zF (za (pvS 0) zc))) (λ_ _ _ _ _=>(zo (i:=0) (by show WZ (["cell","part","board"]:AE);decide+kernel) rfl (XD rfl))) (λ_ _ _ _ _=>(qO (zaC (K:=K) (by rfl) (zp (zdk (K:=K) (by rfl) (by rfl)) (by rfl) T.zky Sb (za (qB (N:=["place","part"]) (src:=[none,some 1]) (zZ.byRfl rfl (by decide+kernel) (by decide+kernel) (by rfl) rfl (by rfl)) (by rfl) (zfa (K:=K) (by rfl) (pc0 (YL T qb) hr qb (za (pvS 2) (za (pvS 0) zc)))) (λ_ _ _ _ _=>(zo (i:=0) (by show WZ (["place","part"]:AE);decide+kernel) rfl (XD rfl))) (λ_ _ _ _ _=>qN) (λ_ _ _ _ _=>(j6 (yc (K:=K) (by rfl) hr.units) (pvS 0) (pvS 1) (by rfl)))) zc)) (λ_=>rfl)))) (λ_ _ _ _ _=>(pvS 0))))),?_⟩;(try dsimp only[cxK,cxP,cxW]);refine⟨_,rfl,a,l,rs,n,rfl,b,R,λd ws H1 hd hd1 hc1 s1=>⟨d,rfl,⟨_,SqL.of hd1⟩,λz hz=>?_⟩⟩;have b1:=b.mono s1;refine qX (K:=K) (a:=d) (xs:=ws) (λa=>a≠z) ((zR rs).map λo=>if (((zE rs o).map λz=>part.any λx=>decide (x=z)).any id)=true then some (zw o) else none) (fun σ=>∃u0,σ=[u0,some (.ref pa),some (.ref a)]) hz (λ_ h=>h) ⟨_,rfl⟩ (by rw[Y1];exact hc1.length.symm) (by rw[hc1.length];exact X0 (jz R) (by decide)) (SqL.of hd1) ?_ ?_
  .rintro k x o σ H2 hx ho s2 hzn ⟨u0,rfl⟩ Y Z yes no;obtain⟨y,hy,r1⟩:=Cel.get hc1 hx;have eo:=xO hy ho;obtain⟨t,sg,ht,hj,_,es⟩:=zK (XZ hy);obtain⟨ya,rfl,hya⟩:=r1;obtain⟨l1,l2⟩:=JA R ht hj;refine⟨_,rfl,_,rfl,a,l,ya,rs,n,y.1,y.2,rfl,b1.mono s2,R,s2 _ _ hya,l1,l2,λd2 ws2 H3 hd2 hd3 hc2 s3=>⟨d2,rfl,⟨_,SqL.of hd3⟩,λz5 hz5=>?_⟩⟩;refine qX (K:=K) (a:=d2) (xs:=ws2) (λa=>a≠z5) ((zE rs y).map λc=>some (.bool (part.any λx=>decide (x=c)))) (fun σ=>∃u0,σ=[u0,some (.ref pa)]) hz5 (λ_ h=>h) ⟨_,rfl⟩ (by rw[Y1];exact hc2.length.symm) (by rw[hc2.length];exact X0 (J0 R y) (by decide)) (SqL.of hd3) ?_ ?_
   .rintro m v o2 σ H5 hv ho2 s5 _ ⟨u1,rfl⟩ Y2 Z2 yes2 no2;obtain⟨c,hc,rc⟩:=Cel.get (Cel.mono s5 hc2) hv;have eo2:=xO hc ho2;have sA:=((s1.trans s2).trans s3).trans s5;refine ZL ⟨_,rfl,_,rfl,zw c,part.map zw,rc.rdv,.lst (SqL.of (sA _ _ hpa)) (zB.rdv (N:=λ_=>True) (Cel.rdn (Cel.mono sA hpt))),rfl,zfI _,(by show 1<=60;decide),?_⟩;have ei:(if false=true then !(part.map zw).any (λz=>WS z (zw c)) else (part.map zw).any λz=>WS z (zw c))=part.any λz=>decide (z=c):=Zr _ _;rw[ei];exact yes2 _ _ _ _ eo2 ⟨_,rfl⟩ (zq.refl _) (.bl _)
   .rintro ys5 H5 s5 hz6 hr5;rw[Zp,show ((zE rs y).map λc=>SH (part.any λx=>decide (x=c)))=((zE rs y).map λc=>part.any λx=>decide (x=c)).map SH by rw[WY];rfl]at hr5;rw[zB.bools hr5]at hz6;refine⟨z5,_,rfl,SqL.of hz6,_,rfl,?_⟩;by_cases hp:(((zE rs y).map λz=>part.any λx=>decide (x=z)).any id)=true
    .rw[bw hp]at eo;exact j8 hp ⟨_,rfl,yes _ _ _ _ eo ⟨_,rfl⟩ (s3.trans s5) (Zn.rdn ⟨ya,rfl,s5 _ _ (s3 _ _ (s2 _ _ hya))⟩)⟩
    .rw[bq hp]at eo;exact yI (by simpa using hp) (no _ _ eo ⟨_,rfl⟩ (s3.trans s5))
  .rintro ys H2 s2 hz2 hr2;rw[jb]at hr2;exact q z ys H2 (s1.free hz) hz2 (zB.cel hr2) (s1.trans s2)
def zgO {cl:AA->AD}{done:AD}{gs:List AD}{o:AA}(G:Parts.Good cl done gs)(h:cl o ≠ [])(hn:(cl o).Nodup){w:AD}(hs:w.Pairwise Cells.lex)(hw:∀x,x∈w↔x∈cl o\/∃g∈gs,Parts.meets (cl o) g=true/\x∈g):Parts.Good cl (done++[o]) ((gs.filter λg=>!Parts.meets (cl o) g)++[w]):=by
 refine G.step h hn ?_ ?_ hs
 .refine Vi λg hg=>?_;congr 1;rw[Ww,Wm];constructor
  .exact λz=>⟨g,XX.mpr ⟨hg,z⟩,br rfl⟩
  .rintro⟨m,hm,e⟩;have e':m=g:=bh e;subst e';exact(XX.mp hm).2
 .refine(Vf (yh hs) (Parts.Ym hn λm hm=>G.nd.sublist (V4 (XX.mp hm).1))).mpr λx=>?_;rw[hw,Parts.zaO];constructor
  .rintro(z | ⟨g,h1,h2,h3⟩)
   .exact .inl z
   .exact .inr ⟨g,XX.mpr ⟨h1,h2⟩,h3⟩
  .rintro(z | ⟨g,h1,h3⟩)
   .exact .inl z
   .exact .inr ⟨g,(XX.mp h1).1,(XX.mp h1).2,h3⟩
def zi2 (cs g:AD):(cs.map λc=>g.any λz=>decide (z=c)).any id=Parts.meets cs g:=by
 rw[Ww,Parts.Zh,TY,Wm];constructor
 .rintro⟨c,h1,h2⟩;have h2':(g.any λz=>decide (z=c))=true:=h2;obtain⟨z,h3,h4⟩:=Wm.mp h2';have e:z=c:=bh h4;subst e;exact⟨z,h3,h1⟩
 .rintro⟨x,h1,h2⟩;refine⟨x,h2,?_⟩;show (g.any λz=>decide (z=x))=true;exact Wm.mpr ⟨x,h1,br rfl⟩
def JU (p:AD->Bool):AF->List AD->AF
 | v::vs,g::gs=>if p g=true then v::JU p vs gs else JU p vs gs
 | _,_=>[]
theorem Zs (p:AD->Bool):∀(vs:AF) (gs:List AD),(JU p vs gs).Sublist vs
 | [],_=>Po _
 | _::_,[]=>Po _
 | v::vs,g::gs=>by
  rw[JU];split
  .exact(Zs p vs gs).cons_cons v
  .exact(Zs p vs gs).cons v
theorem Qk {H:Hp}(p:AD->Bool):∀{vs:AF} {gs:List AD},j9 H vs gs->j9 H (JU p vs gs) (gs.filter p)
 | _,_,.nil=>.nil
 | _,_,.cons (a:=v) (b:=g) h t=>by
  rw[JU,Wn];by_cases hp:p g=true
  .rw[bw hp,bw hp];exact .cons h (Qk p t)
  .rw[bq hp,bq hp];exact Qk p t
def zgP (p:AD->Bool){vs:AF}{gs:List AD}{i:Nat}{v:V}{g:AD}(h1:vs[i]?=some v)(h2:gs[i]?=some g):JU p (vs.take (i+1)) (gs.take (i+1))=JU p (vs.take i) (gs.take i)++if p g=true then [v] else []:=by
 induction vs generalizing gs i with
 | nil=>cases h1
 | cons w vs ih =>
  cases gs with
  | nil=>cases h2
  | cons k gs =>
   cases i with
   | zero =>
    cases h1;cases h2;simp[JU]
   | succ i =>
    rw[Ub,Ub,Ub,Ub,JU,JU,ih h1 h2];split<;>rfl
def zeB {m:List (Int×Int)}{l:AD}(h:∀c∈m,c∈l.map toI):m=(m.map ofI).map toI:=by
 rw[WY];refine(RS m).symm.trans (Xm λc hc=>?_);obtain⟨x,_,rfl⟩:=XO.mp (h c hc);rfl
def zkK:Sp:=λvs H Q _=>∃(ga ca:Addr) (ws us:AF) (gs:List AD) (cs B:AD),vs=[.ref ga,.ref ca]/\H ga=some (.lst ws)/\j9 H ws gs/\H ca=some (.lst us)/\Cel H us cs/\cs.Nodup/\gs.flatten.Nodup/\(∀x∈cs,x∈B)/\(∀x∈gs.flatten,x∈B)/\(∀x∈B,x.1<8/\x.2<8)/\B.length<=63/\gs.length<=63 /\
 (cs=[]->∀H',zq H H'->Q (.ref ga) H') /\
 (cs ≠ []->∀(d wa:Addr) (va:AF) (w:AD) (H':Hp),H d=none->H wa=none->H' d=some (.lst (va++[.ref wa]))->va.Sublist ws->j9 H' (va++[.ref wa]) ((gs.filter λg=>!Parts.meets cs g)++[w])->w.Pairwise Cells.lex->(∀x,x∈w↔x∈cs\/∃g∈gs,Parts.meets cs g=true/\x∈g)->zq H H'->Q (.ref d) H')
def YM:zH ["groups","cells","apart","together","group"] ["groups","cells"] (zj Zk):=bz
def zi3 (T:Txt mg)(D:zu K mg "joined" Zk ["groups","cells"] f fd):ql P w K mg base CX0 1 f fd ["groups","cells"] zkK:=by
 refine D.F.ok YM (λvs H Q E h=>?_) (λcdv A outer s H vs Q E hr h=>?_)
 .obtain⟨ga,ca,ws,us,gs,cs,B,rfl,_⟩:=h;rfl
 .obtain⟨ga,ca,ws,us,gs,cs,B,rfl,hga,hG,hca,hC,cnd,gnd,cB,gB,B8,B63,g63,q1,q2⟩:=h;have cl63:cs.length<=63:=X0 (Parts.yg cnd cB) B63;have fl63:gs.flatten.length<=63:=X0 (Parts.yg gnd gB) B63;refine⟨_,(zf (jm (zQ (jo hr.units) (pvS 1) (@qf _ _ _ _ zc) (qa _)) (zg (zL (pvS 0))) qp) (@zf _ _ _ _ _ (@zv _ _ 2 _ _ _ _ YM.nd rfl (XD rfl) (@qf _ _ _ _ zc) (by rfl) (.inr rfl)) (zf (zv (i:=3) YM.nd rfl (XD rfl) (ji QK (by rfl) T.zkC OZ (za (pvS 1) zc))) (zf (qq W3 rfl (z4 (pvS 0)) (zo (i:=4) YM.nd rfl (TL rfl)) (zg (jm (QC (zp (ze7 rfl) (by rfl) T.zky Sb (za (qB (N:=["cell","group"]) (src:=[none,some 4]) (zZ.free (O:=(zj Zk).names) (XN:=["groups","cells","apart","together","group"]) rfl rfl ⟨_,rfl⟩ rfl rfl (by decide+kernel) (by decide+kernel) (by decide+kernel) rfl (by decide+kernel)) rfl (z4 (pvS 1)) (λ_ _ _ _ _=>(zo (i:=0) (by show WZ (["cell","group"]:AE);decide+kernel) rfl (XD rfl))) (λ_ _ _ _ _=>qN) (λ_ _ _ _ _=>(j6 (yc (K:=K) (by rfl) hr.units) (pvS 0) (pvS 1) (by rfl)))) zc)) (λ_=>rfl)) (zg (j5 (yu W2 PC PB zdi (pvS 3) (za (pvS 4) zc)))) (zg (j5 (yu W2 Wh Wg jd (pvS 2) (za (pvS 4) zc))))))) (zg (zL (zD Ye (pvS 2) (qf (za (zp (ST.zc2 hr.hd) (by rfl) T.zaa Uf (za (ji (ST.ziv hr.units hr.hd) (by rfl) T.znb OG (za (pvS 3) zc)) zc)) zc))))))))),?_⟩;(try dsimp only[cxK,cxP,cxW]);refine⟨_,rfl,Zf,λe he=>?_⟩;have s1:zq H (upd H e (.lst [])):=ze he;refine⟨lD cs,.list [],.lst (SqL.of (s1 _ _ hca)) (zi0 (hC.mono s1)),.lst (SqL.of zd) .nil,zcr _ [],_,rfl,?_⟩;have en:(if false=true then !PyData.eqv (lD cs) (.list []) else WS (lD cs) (.list []))=cs.isEmpty:=by
   show WS _ _=_;exact eq_nil cs
  rw[en];by_cases zi4:cs=[]
  .rw[show cs.isEmpty=true by rw[zi4];rfl];exact Yg ⟨_,rfl,q1 zi4 _ s1⟩
  rw[show cs.isEmpty=false by rw[VA];exact zi4];refine zbl ?_;generalize upd H e (.lst [])=H1 at *
  refine⟨Zf,λap hap=>?_⟩;have s2:=s1.trans (ze (o:=.lst []) hap);have ha2:upd H1 ap (.lst []) ap=some (.lst []):=zd;have hap0:=s1.free hap;generalize upd H1 ap (.lst [])=H2 at *
  refine⟨_,rfl,ca,_,rfl,.inl (SqL.of (s2 _ _ hca)),λtg htg=>?_⟩;have z3:=ze (o:=.lst us) htg;have s3:=s2.trans z3;have ha3:=z3 _ _ ha2;have ht3:upd H2 tg (.lst us) tg=some (.lst us):=zd;have htg0:=s2.free htg;have nat:ap≠tg:=zh ha2 htg;generalize upd H2 tg (.lst us)=H3 at *
  refine⟨_,rfl,ga,rfl,⟨_,SqL.of (s3 _ _ hga)⟩,?_⟩;refine xw (K:=K) (a:=ga) (xs:=ws) (λi σ H'=>∃(ut:AF) (v4:Option V),σ=[some (.ref ga),some (.ref ca),some (.ref ap),some (.ref tg),v4]/\zq H H'/\H' ap=some (.lst (JU (λg=>!Parts.meets cs g) (ws.take i) (gs.take i)))/\H' tg=some (.lst ut)/\Cel H ut (cs++((gs.take i).filter (Parts.meets cs)).flatten))
   ⟨us,_,rfl,s3,ha3,ht3,by simpa using hC⟩ (λi σ H' _ ⟨_,_,_,z,_⟩=>SqL.of (z _ _ hga)) ?_ ?_
  .rintro i x σ H4 hx ⟨ut,v4,rfl,s4,ha4,ht4,hct⟩;obtain⟨g,hg,gad,ug,rfl,hgad,hcg⟩:=j9.get hG hx;have gm:=XZ hg;have tk:(gs.take (i+1)).filter (Parts.meets cs)=(gs.take i).filter (Parts.meets cs)++if Parts.meets cs g=true then [g] else []:=by
    rw[Xh,hg,W8];congr 1;show [g].filter _=_;rw[Wn];rfl
   have pk:=zgP (λg=>!Parts.meets cs g) hx hg;refine⟨_,rfl,ca,rfl,⟨_,SqL.of (s4 _ _ hca)⟩,λz hz=>?_⟩;refine qX (K:=K) (a:=ca) (xs:=us) (λa=>a≠z) (cs.map λc=>some (.bool (g.any λz=>decide (z=c)))) (fun σ=>∃u0,σ=[u0,some (.ref gad)]) hz (λ_ h=>h) ⟨_,rfl⟩ (by rw[Y1];exact hC.length.symm) (by rw[hC.length];exact X0 cl63 (by decide)) (SqL.of (s4 _ _ hca)) ?_ ?_
   .rintro m v o σ H5 hv ho s5 _ ⟨u1,rfl⟩ Y Z yes no;have s05:=s4.trans s5;obtain⟨c,hc,rc⟩:=Cel.get (hC.mono s05) hv;have eo:=xO hc ho;refine ZL ⟨_,rfl,_,rfl,zw c,g.map zw,rc.rdv,.lst (SqL.of (s05 _ _ hgad)) (zi0 (hcg.mono s05)),rfl,zfI _,(by show 1<=60;decide),?_⟩;have ei:(if false=true then !(g.map zw).any (λz=>WS z (zw c)) else (g.map zw).any λz=>WS z (zw c))=g.any λz=>decide (z=c):=Zr _ _;rw[ei];exact yes _ _ _ _ eo ⟨_,rfl⟩ (zq.refl _) (.bl _)
   .rintro ys H5 s5 hz5 hr5;rw[Zp,show (cs.map λc=>SH (g.any λz=>decide (z=c)))=(cs.map λc=>g.any λz=>decide (z=c)).map SH by rw[WY];rfl]at hr5;rw[zB.bools hr5]at hz5;refine⟨z,_,rfl,SqL.of hz5,_,rfl,?_⟩;rw[zi2];have s05:=s4.trans s5;have ha5:=s5 _ _ ha4;have ht5:=s5 _ _ ht4;have gsub:∀(q:AD->Bool) (j:Nat),(((gs.take j).filter q).flatten).length<=63:=λq j=>by
     refine X0 (VR ?_) fl63;refine List.Sublist.trans (Parts.qR q (gs.take j)) ?_;have e2:gs=gs.take j++gs.drop j:=(WF j gs).symm;conv=>rhs;rw[e2,Wi]
     exact Ue _ _
    by_cases hp:Parts.meets cs g=true
    .refine j8 hp ?_;refine⟨_,rfl,.inl ⟨rfl,_,SqL.of ht5⟩,_,rfl,tg,gad,ut,ug,rfl,rfl,ht5,s05 _ _ hgad,?_,?_⟩
     .rw[hct.length,hcg.length,XS];have a1:=gsub (Parts.meets cs) i;have a2:g.length<=63:=X0 (VR (V4 gm)) fl63;exact X0 (show _<=200 by lia) (by decide)
     .refine⟨ut++ug,_,rfl,λb o eb=>?_,?_,zd,?_⟩
      .rw[zk (zh eb htg0)];exact s05 _ _ eb
      .rw[zk nat,pk,hp];simpa using ha5
      .rw[tk,bw hp,Wi,<- W0];simpa using Cel.append hct hcg
    .have hp2:=WX.mpr hp;refine yI hp2 ?_;refine⟨_,rfl,.inl ⟨rfl,_,SqL.of ha5⟩,_,rfl,ap,_,_,rfl,rfl,ha5,?_,?_⟩
     .refine Xx (VR ((Zs _ _ _).trans (Uq _ _))) ?_;rw[hG.length];exact Xx g63 (by decide)
     .refine⟨ut,_,rfl,λb o eb=>?_,?_,?_,?_⟩
      .rw[zk (zh eb hap0)];exact s05 _ _ eb
      .rw[zd,pk,hp2];rfl
      .rw[zk (Vm nat)];exact ht5
      .rw[tk,bq hp,W6];exact hct
  .rintro σ H4 ⟨ut,v4,rfl,s4,ha4,ht4,hct⟩;rw[XB,hG.length,XB]at ha4;rw[hG.length,XB]at hct;generalize hl:cs++(gs.filter (Parts.meets cs)).flatten=l at hct;have lB:∀x∈l,x∈B:=λx hx=>by
    rw[<- hl]at hx;rcases XR.mp hx with hx | hx
    .exact cB x hx
    .exact gB x ((Parts.qR _ gs).subset hx)
   refine⟨_,rfl,_,rfl,tg,ut,_,rfl,SqL.of ht4,Cel.tup2 (hct.mono s4),(λp hp=>?_),(λm hm hs=>?_),λds ks hds hT hnd hmem=>?_⟩
   .obtain⟨x,hx,rfl⟩:=XO.mp hp;have:=B8 x (lB x hx);unfold ST.InB toI;show (0<=((x.1:Nat):Int)/\((x.1:Nat):Int)<8)/\(0<=((x.2:Nat):Int)/\((x.2:Nat):Int)<8);lia
   .have h1:=zeB hs;have h2:(m.map ofI).Nodup:=by
     rw[h1]at hm;unfold WZ at hm ⊢;rw[Wf]at hm;exact hm.imp λz e=>z (by rw[e])
    have h3:=Parts.yg (b:=B) h2 λx hx=>by
     obtain⟨c,hc,rfl⟩:=XO.mp hx;obtain⟨y,hy,rfl⟩:=XO.mp (hs c hc);exact lB y hy
    rw[Y1]at h3;lia
   have z5:=ze (o:=ST.zfo P w ds ks) hds;have hks:∀c∈ks.map (·.2),c∈l.map toI:=λc hc=>(hmem c).mp hc;have kl:ks.length<=63:=by
    have h1:=zeB hks;have h2:((ks.map (·.2)).map ofI).Nodup:=by
     rw[h1]at hnd;unfold WZ at hnd ⊢;rw[Wf]at hnd;exact hnd.imp λz e=>z (by rw[e])
    have h3:=Parts.yg (b:=B) h2 λx hx=>by
     obtain⟨c,hc,rfl⟩:=XO.mp hx;obtain⟨y,hy,rfl⟩:=XO.mp (hks c hc);exact lB y hy
    rw[Y1,Y1]at h3;lia
   have hds5:upd H4 ds (ST.zfo P w ds ks) ds=some (ST.zfo P w ds ks):=zd;have s5:=s4.trans z5;have ha5:=z5 _ _ ha4;have hT5:∀q∈ks,upd H4 ds (ST.zfo P w ds ks) q.1=some (.tup [.int q.2.1,.int q.2.2]):=λq hq=>z5 _ _ (hT q hq);refine⟨ds,ks,rfl,hds5,hT5,hnd,(by lia),λwa us' ps' hwa ht zdM hup=>?_⟩;rw[zeB hks]at zdM;obtain⟨wc,rfl,hperm2⟩:=zmt zdM;have z6:=ze (o:=.lst us') hwa;refine⟨sz_1,λp1 hp1=>?_⟩;have z7:=ze (o:=.lst [V.ref wa]) hp1;have z67:=z6.trans z7;refine⟨ap,p1,_,[.ref wa],rfl,rfl,z67 _ _ ha5,zd,?_,λk2 hk2=>?_⟩
   .have a1:(JU (λg=>!Parts.meets cs g) ws gs).length<=63:=X0 (VR (Zs _ _ _)) (by rw[hG.length];exact g63);exact X0 (show _+1<=200 by lia) (by decide)
   .have z8:=ze (o:=.lst (JU (λg=>!Parts.meets cs g) ws gs++[.ref wa])) hk2;have s8:=s5.trans (z67.trans z8);refine q2 zi4 k2 wa _ wc _ ((s5.trans z67).free hk2) (s5.free hwa) zd (Zs _ _ _) ?_ (zoq hup) (λx=>?_) s8
    .exact j9.snoc ((Qk _ hG).mono s8) ⟨wa,us',rfl,z8 _ _ (z7 _ _ zd),Cel.mono (z67.trans z8) (JT ht)⟩
    .rw[hperm2.mem_iff,XO];have hx:(∃a,a∈ks.map (·.2)/\ofI a=x)↔x∈l:=by
      constructor
      .rintro⟨c,hc,rfl⟩;obtain⟨y,hy,rfl⟩:=XO.mp (hks c hc);exact hy
      .intro h;exact⟨toI x,(hmem _).mpr (XO.mpr ⟨x,h,rfl⟩),rfl⟩
     rw[hx,<- hl,XR,Wy];constructor
     .rintro(h | ⟨g,h1,h2⟩)
      .exact .inl h
      .exact .inr ⟨g,(XX.mp h1).1,(XX.mp h1).2,h2⟩
     .rintro(h | ⟨g,h1,h2,h3⟩)
      .exact .inl h
      .exact .inr ⟨g,XX.mpr ⟨h1,h2⟩,h3⟩
def zmu:Sp:=λvs H Q _=>∃(p l:Addr) (rs:AE) (n:Int),vs=[.ref p]/\qk H p l rs n/\Rows bd.cps.toList rs /\
 ∀(d:Addr) (ws:AF) (gs:List AD) (H':Hp),H d=none->H' d=some (.lst ws)->j9 H' ws gs->ws.Nodup->(∀v∈ws,∃a,v=V.ref a/\H a=none/\a≠d)->Parts.Good (clA rs) (zR rs) gs->Up2 (heads gs)->zq H H'->Q (.ref d) H'
def zgQ {rs:AE}(R:Rows bd.cps.toList rs){x:AA}(h:x∈zM rs):x.1<8/\x.2<8:=by
 obtain⟨t,k,ht,hj,_,_⟩:=zK h;have a:=(XW.mp ht).1;have b:=(XW.mp hj).1;have e:=R.hi;have g:=R.short _ (XZ (qM ht));lia
theorem j9.some {H:Hp}{ws:AF}{gs:List AD}(h:j9 H ws gs):∀v∈ws,∃a us,v=V.ref a/\H a=some (.lst us):=by
 intro v hv;obtain⟨_,_,a,us,e,h1,_⟩:=zjH h hv;exact⟨a,us,e,h1⟩
def zkL {H:Hp}{ws:AF}{gs:List AD}(h:j9 H ws gs):WU (GS.LstAt H) ws (gs.map (TU toI)):=by
 induction h with
 | nil=>exact .nil
 | cons r _ ih =>
  obtain⟨a,us,e,h1,h2⟩:=r;exact .cons ⟨a,us,e,h1,h2.tup2⟩ ih
def zkM {H:Hp}:∀{gs:List AD} {ws:AF},WU (GS.LstAt H) ws (gs.map (TU toI))->j9 H ws gs:=by
 intro gs;induction gs with
 | nil =>
  intro ws h;cases h;exact .nil
 | cons g r ih =>
  intro ws h;cases h with
  | cons q t =>
   obtain⟨a,us,e,h1,h2⟩:=q;exact .cons ⟨a,us,e,h1,JT h2⟩ (ih t)
def zfJ {ks:List (List (Int×Int))}{gs:List AD}(h:ks.Perm (gs.map (TU toI))):∃ds:List AD,ks=ds.map (TU toI)/\ds.Perm gs:=by
 have oo:∀g:AD,(g.map toI).map ofI=g:=λg=>by
  rw[WY];exact(Xm λc _=>zhQ c).trans (RS g)
 refine⟨ks.map (TU ofI),?_,?_⟩
 .rw[WY];refine(RS ks).symm.trans (Xm λp hp=>?_);obtain⟨c,_,rfl⟩:=XO.mp (h.mem_iff.mp hp);show c.map toI=((c.map toI).map ofI).map toI;rw[oo]
 .have:=h.map (TU ofI);rw[WY]at this;have e:gs.map (TU ofI∘TU toI)=gs:=(Xm λc _=>oo c).trans (RS gs);rwa [e]at this
def zkN {gs:List AD}(h:(gs.map (TU toI)).Pairwise (λp q=>PySem.SeqAt.ltL q p=false))(ne:∀g∈gs,g ≠ [])(nd:(heads gs).Nodup):Up2 (heads gs):=by
 induction gs with
 | nil=>exact List.Pairwise.nil
 | cons g r ih =>
  rw[Xf,TW]at h;have nd':toI (g.headD (0,0)) ∉ heads r/\(heads r).Nodup:=Wl.mp nd;refine TW.mpr ⟨λp hp=>?_,ih h.2 (λx hx=>ne x (XV _ hx)) nd'.2⟩;obtain⟨g2,hg2,rfl⟩:=XO.mp hp;have a:=h.1 _ (XO.mpr ⟨g2,hg2,rfl⟩);have hne:toI (g.headD (0,0))≠toI (g2.headD (0,0)):=λe=>nd'.1 (e ▸ hp);have n1:=ne g X2;have n2:=ne g2 (XV _ hg2);cases g with
  | nil=>exact absurd rfl n1
  | cons x xs =>
   cases g2 with
   | nil=>exact absurd rfl n2
   | cons y ys =>
    have hne':toI x≠toI y:=hne;show lt2 (toI x) (toI y)=true;have a':(if toI y=toI x then PySem.SeqAt.ltL (ys.map toI) (xs.map toI) else lt2 (toI y) (toI x))=false:=a;rw[bq (Vm hne')]at a';have:=zbz hne';rw[a']at this;cases hh:lt2 (toI x) (toI y) with
    | true=>rfl
    | false =>
     rw[hh]at this;cases this
def zae:zH ["board","found","cell"] ["board"] (zj zbH):=bz
def zfK {f1 f2 f3 f4 f5 f6:Addr}{fd1 fd2 fd3 fd4 fd5 fd6:Xc}(T:Txt mg)(D:zu K mg "parts" zbH ["board"] f fd)(qb:zu K mg "around" yy ["board","cell"] f1 fd1)(zC:zu K mg "sign_at" qY ["board","cell"] f2 fd2)
  (zG:zu K mg "cells_of" qS ["board"] f3 fd3) (zF:zu K mg "open_cells" qG ["board"] f4 fd4) (zY:zu K mg "closed_around" qD ["board","cell"] f5 fd5) (Zt:zu K mg "joined" Zk ["groups","cells"] f6 fd6):ql P w K mg base CX0 3 f fd ["board"] zmu:=by
 refine D.F.ok zae (λvs H Q E h=>?_) (λcdv A outer s H vs Q E hr h=>?_)
 .obtain⟨p,l,rs,n,rfl,_⟩:=h;rfl
 .obtain⟨p,l,rs,n,rfl,b,R,q⟩:=h;refine⟨_,(@zf _ _ _ _ _ (@zv _ _ 1 _ _ _ _ zae.nd rfl (XD rfl) (@qf _ _ _ _ zc) (by rfl) (.inr rfl)) (zf (qq W3 rfl (z4 (pc0 (xj T zF zG zC) hr zF (za (pvS 0) zc))) (zo (i:=2) zae.nd rfl (XD rfl)) (zg (zv (i:=1) zae.nd rfl (XD rfl) (pc0 (zi3 T Zt) hr Zt (za (pvS 1) (za (pc0 (Zq T zY qb zC) hr zY (za (pvS 0) (za (pvS 2) zc))) zc)))))) (zg (zL (zp (GS.Y5 hr.units) (by rfl) T.zaa Uf (za (pvS 1) zc)))))),?_⟩;(try dsimp only[cxK,cxP,cxW]);refine⟨Zf,λk0 hk0=>?_⟩;have s0:zq H (upd H k0 (.lst [])):=ze hk0;have hk00:upd H k0 (.lst []) k0=some (.lst []):=zd;generalize upd H k0 (.lst [])=H0 at *
  refine⟨_,rfl,p,l,rs,n,rfl,b.mono s0,R,λdc wc H1 hdc zpI hcc s1=>⟨dc,rfl,⟨_,SqL.of zpI⟩,?_⟩⟩;have s01:=s0.trans s1;have b1:=b.mono s01;have hcc:Cel H1 wc (zR rs):=hcc;have o64:=zdK R;refine xw (K:=K) (a:=dc) (xs:=wc) (λi σ H'=>∃(k:Addr) (ws:AF) (gs:List AD) (v2:Option V),σ=[some (.ref p),some (.ref k),v2]/\zq H1 H'/\H' k=some (.lst ws)/\j9 H' ws gs/\ws.Nodup/\(∀v∈ws,∃a,v=V.ref a/\H a=none)/\Parts.Good (clA rs) ((zR rs).take i) gs)
   ⟨k0,[],[],_,rfl,zq.refl _,s1 _ _ hk00,.nil,T7,(λv h=>nomatch h),Parts.Good.start _⟩ (λi σ H' _ ⟨_,_,_,_,_,z,_⟩=>SqL.of (z _ _ zpI)) ?_ ?_
  .rintro i x σ H2 hx ⟨k,ws,gs,v2,rfl,s2,hk,hG,wnd,wnew,G⟩;obtain⟨c,hc,ca,rfl,hca⟩:=Cel.get (Cel.mono s2 hcc) hx;have cm:=XZ hc;obtain⟨t,sg,ht,hj,_,es⟩:=zK cm;obtain⟨l1,l2⟩:=JA R ht hj;have tk:(zR rs).take (i+1)=(zR rs).take i++[c]:=by
    rw[Xh,hc];rfl
   have lshut:(zM rs).length<=63:=by
    have:=Vg cm;lia
   have gB:∀x∈gs.flatten,x∈zM rs:=λx hx=>by
    obtain⟨o,_,h2⟩:=G.from_ x hx;exact xF h2
   refine⟨_,rfl,_,rfl,_,rfl,p,l,ca,rs,n,c,rfl,(b1.mono s2),R,hca,l1,l2,λd ws1 H3 hd hd3 hc3 s3=>?_⟩;have s03:=s01.trans (s2.trans s3);refine⟨k,d,ws,ws1,gs,clA rs c,zM rs,rfl,s3 _ _ hk,hG.mono s3,hd3,hc3,zdL rs c,G.nd,(λx hx=>xF hx),gB,(λx hx=>zgQ R hx),lshut,X0 (Parts.Yn G.ne) (X0 (Parts.yg G.nd gB) lshut),(λzi4 H' s'=>?_),λhne d2 wa va wc2 H' hd2 hwa hd2' hsub hG' zqt hmem s'=>?_⟩
   .refine⟨k,ws,gs,_,rfl,s2.trans (s3.trans s'),s' _ _ (s3 _ _ hk),(hG.mono s3).mono s',wnd,wnew,?_⟩;rw[tk];exact G.skip zi4
   .refine⟨d2,_,_,_,rfl,s2.trans (s3.trans s'),hd2',hG',?_,(λv hv=>?_),?_⟩
    .rw[VG];refine⟨wnd.sublist hsub,by simp,λa ha b hb e=>?_⟩;have hb':b=V.ref wa:=by simpa using hb
     subst e;obtain⟨a',us',e1,e2⟩:=j9.some (hG.mono s3) a (hsub.subset ha);rw[hb']at e1;injection e1 with e1
     rw[<- e1,hwa]at e2;cases e2
    .rcases XR.mp hv with hv | hv
     .exact wnew v (hsub.subset hv)
     .have hb':v=V.ref wa:=by simpa using hv
      exact⟨wa,hb',s03.free hwa⟩
    .rw[tk];exact zgO G hne (zdL rs c) zqt hmem
  .rintro σ H2 ⟨k,ws,gs,v2,rfl,s2,hk,hG,wnd,wnew,G⟩;rw[hcc.length,XB]at G;have gsh:∀x∈gs.flatten,x∈zM rs:=λx hx=>by
    obtain⟨o,_,h2⟩:=G.from_ x hx;exact xF h2
   have wl:gs.length<=63:=by
    cases gs with
    | nil=>exact W7 _
    | cons g r =>
     have m1:=head_mem (G.ne g X2);obtain⟨o,ho,_⟩:=G.from_ _ (Wy.mpr ⟨g,X2,m1⟩);have:=Vg ho;have h3:=X0 (Parts.Yn G.ne) (Parts.yg (b:=zM rs) G.nd gsh);lia
   refine⟨_,rfl,k,ws,_,rfl,SqL.of hk,zkL hG,(by rw[hG.length];lia),λd us' ks' hd hl zdM zpJ pw=>?_⟩;have s3:=ze (o:=.lst us') hd;obtain⟨ds,rfl,pg⟩:=zfJ zdM;have G':=G.perm pg;refine q d us' ds _ ((s01.trans s2).free hd) zd ((zkM hl).mono s3) (pw.nodup_iff.mpr wnd) (λv hv=>?_) G' (zkN zpJ G'.ne (zbd G'.ne G'.nd)) ((s01.trans s2).trans s3);have hv':=pw.mem_iff.mp hv;obtain⟨a,e1,e2⟩:=wnew v hv';obtain⟨a',us',e3,e4⟩:=j9.some hG v hv';refine⟨a,e1,e2,λz=>?_⟩;rw[e1]at e3;injection e3 with e3
   rw[<- e3,z,hd]at e4;cases e4
def pD (p:Int×Int):V3:=.tuple [.int p.1,.int p.2]
def zos (p q:Int×Int):WS (pD p) (pD q)=decide (p=q):=PySem.SeqAt.zdm p q
def PR (H:Hp)(v:V)(p:Int×Int):Prop:=∃a,v=V.ref a/\H a=some (.tup [.int p.1,.int p.2])
def PR.mono {H H':Hp}(s:zq H H'){v:V}{p:Int×Int}(h:PR H v p):PR H' v p:=let ⟨a,e,h⟩:=h;⟨a,e,s _ _ h⟩
def Zu {H H':Hp}(s:zq H H'){us:AF}{ps:List (Int×Int)}(hp:xx H us ps):xx H' us ps:=by
 induction hp with
 | nil=>exact .nil
 | cons h _ ih =>
  exact .cons (PR.mono s h) ih
def zfL {H:Hp}{us:AF}{ps:List (Int×Int)}(h:xx H us ps):us.length=ps.length:=Paired.length h
def PR.rdv {K:XY}{H:Hp}{v:V}{p:Int×Int}(h:PR H v p):Rdv K H v (pD p):=by
 obtain⟨a,rfl,h⟩:=h;exact .tup (SqT.of h) (.cons (.int _) (.cons (.int _) .nil))
def zkO {K:XY}{H:Hp}{us:AF}{ps:List (Int×Int)}(hp:xx H us ps):xK K H us (ps.map pD):=by
 induction hp with
 | nil=>exact .nil
 | cons h _ ih =>
  exact .cons (PR.rdv h) ih
theorem zkP:∀ps:List (Int×Int),Vw (ps.map pD)=true
 | []=>rfl
 | p::r=>by
  show (UA (pD p)&&Vw (r.map pD))=true;rw[zkP r];rfl
def zot (ps:List (Int×Int))(p:Int×Int):(ps.map pD).any (λz=>WS z (pD p))=ps.any λz=>decide (z=p):=by
 rw[TY];congr 1;funext z;exact zos z p
def zou (ps:List (Int×Int))(c:AA):(ps.map pD).any (λz=>WS z (zw c))=ps.any λz=>decide (z=toI c):=zot ps (toI c)
def zov {H:Hp}{a z:Addr}{o o':HO}(h:H a=some o)(hz:H z=some o')(hne:o≠o'):a≠z:=λe=>by
 subst e;rw[h]at hz;exact hne (Option.some.inj hz)
def zmv {H:Hp}{z:Addr}{ys ys':AF}(hz:H z=some (.lst ys)){v:V}{p:Int×Int}(h:PR H v p):PR (upd H z (.lst ys')) v p:=by
 obtain⟨a,e,h⟩:=h;refine⟨a,e,?_⟩;rw[zk (zov h hz (λz=>nomatch z))];exact h
def YN {H:Hp}{z:Addr}{ys ys':AF}(hz:H z=some (.lst ys)){us:AF}{ps:List (Int×Int)}(hp:xx H us ps):xx (upd H z (.lst ys')) us ps:=by
 induction hp with
 | nil=>exact .nil
 | cons h _ ih =>
  exact .cons (zmv hz h) ih
def jG (N:Addr->Prop)(H:Hp):AF->List (List (Int×Int))->Prop:=WU λv k=>∃a ws,v=V.ref a/\N a/\H a=some (.lst ws)/\xx H ws k
def qU {N:Addr->Prop}{H H':Hp}(s:zq H H'){us:AF}{ks:List (List (Int×Int))}(hp:jG N H us ks):jG N H' us ks:=by
 induction hp with
 | nil=>exact .nil
 | cons q _ ih =>
  obtain⟨a,ws,e,n,h,t⟩:=q;exact .cons ⟨a,ws,e,n,s _ _ h,Zu s t⟩ ih
def Ql {N M:Addr->Prop}{H:Hp}(w:∀a,N a->M a){us:AF}{ks:List (List (Int×Int))}(hp:jG N H us ks):jG M H us ks:=by
 induction hp with
 | nil=>exact .nil
 | cons q _ ih =>
  obtain⟨a,ws,e,n,h,t⟩:=q;exact .cons ⟨a,ws,e,w a n,h,t⟩ ih
def JB {N:Addr->Prop}{H:Hp}{z:Addr}{ys ys':AF}(hz:H z=some (.lst ys))(w:∀a,N a->a≠z){us:AF}{ks:List (List (Int×Int))}(hp:jG N H us ks):jG N (upd H z (.lst ys')) us ks:=by
 induction hp with
 | nil=>exact .nil
 | cons q _ ih =>
  obtain⟨a,ws,e,n,h,t⟩:=q;exact .cons ⟨a,ws,e,n,by rw[zk (w a n)];exact h,YN hz t⟩ ih
def YO {N:Addr->Prop}{H:Hp}{us:AF}{ks:List (List (Int×Int))}{us':AF}{ks':List (List (Int×Int))}(h:jG N H us ks)(k:jG N H us' ks'):jG N H (us++us') (ks++ks'):=zbX h k
def jA {N:Addr->Prop}{H:Hp}{us:AF}{ks:List (List (Int×Int))}(h:jG N H us ks):us.length=ks.length:=Paired.length h
def zaf {N:Addr->Prop}{H:Hp}{us:AF}{ks:List (List (Int×Int))}{i:Nat}{v:V}(h:jG N H us ks)(e:us[i]?=some v):∃k a ws,ks[i]?=some k/\v=V.ref a/\N a/\H a=some (.lst ws)/\xx H ws k:=by
 obtain⟨k,h1,a,ws,h2⟩:=za6 h e;exact⟨k,a,ws,h1,h2⟩
def zi5 {N:Addr->Prop}{H:Hp}{us:AF}{ks:List (List (Int×Int))}(hp:jG N H us ks):WU (GS.LstAt H) us ks:=by
 induction hp with
 | nil=>exact .nil
 | cons q _ ih =>
  obtain⟨a,ws,e,_,h,t⟩:=q;exact .cons ⟨a,ws,e,h,t⟩ ih
def zkQ {N:Addr->Prop}{H:Hp}{us:AF}{ks:List (List (Int×Int))}(hp:WU (GS.LstAt H) us ks)(n:∀v∈us,∃a,v=V.ref a/\N a):jG N H us ks:=by
 induction hp with
 | nil=>exact .nil
 | cons q _ ih =>
  obtain⟨a,ws,e,h,t⟩:=q;obtain⟨b,e2,n2⟩:=n _ X2;subst e;cases e2;exact .cons ⟨_,ws,rfl,n2,h,t⟩ (ih λv hv=>n v (XV _ hv))
def YQ {N:Addr->Prop}{H:Hp}{us:AF}{ks:List (List (Int×Int))}{v:V}(h:jG N H us ks)(e:v∈us):∃a ws,v=V.ref a/\N a/\H a=some (.lst ws):=by
 obtain⟨k,_,a,ws,h1,h2,h3,_⟩:=zjH h e;exact⟨a,ws,h1,h2,h3⟩
def zkR {H:Hp}{us:AF}{ps:List (Int×Int)}{us':AF}{ps':List (Int×Int)}(h:xx H us ps)(k:xx H us' ps'):xx H (us++us') (ps++ps'):=zbX h k
def nearF (rs:AE)(c x:AA):Bool:=(zE rs c).any λz=>decide (z=x)
def je (rs:AE)(c:AA):Int:=((Cells.sgn (codes rs) c:Nat):Int)-48
def zi6 (rs:AE)(c:AA):(zE rs c).Nodup:=(yh (Cells.jP _ 0 (codes rs))).sublist Wj
def zkS {rs:AE}{o:AA}{q:AD}(hq:q.Nodup):((zE rs o).filter λx=>q.any λz=>decide (z=x)).length=Grow.cnt (nearF rs) o q:=by
 unfold Grow.cnt;refine List.Perm.length_eq ((Vf ((zi6 rs o).sublist Wj) (hq.sublist Wj)).mpr λx=>?_);rw[XX,XX];unfold nearF;rw[Wm,Wm];constructor
 .rintro⟨h1,y,hy,e⟩;have e2:y=x:=bh e;subst e2;exact⟨hy,y,h1,br rfl⟩
 .rintro⟨h1,y,hy,e⟩;have e2:y=x:=bh e;subst e2;exact⟨hy,y,h1,br rfl⟩
def zfM (H:Hp)(rs:AE)(v:V)(o:AA):Prop:=∃a na wn,v=V.ref a/\H a=some (.tup [.int (je rs o),.ref na])/\H na=some (.lst wn)/\Cel H wn (zE rs o)
def zfN (H:Hp)(rs:AE)(rest:AD)(v:V)(o:AA):Prop:=∃a na wn,v=V.ref a/\H a=some (.tup [.int (je rs o-((Grow.cnt (nearF rs) o rest:Nat):Int)),.int (je rs o),.ref na])/\H na=some (.lst wn)/\Cel H wn (zE rs o)
def zi7 {H H':Hp}(s:zq H H'){rs:AE}{vs:AF}{cs:AD}(hp:WU (zfM H rs) vs cs):WU (zfM H' rs) vs cs:=by
 induction hp with
 | nil=>exact .nil
 | cons q _ ih =>
  obtain⟨a,na,wn,e,h1,h3,h4⟩:=q;exact .cons ⟨a,na,wn,e,s _ _ h1,s _ _ h3,h4.mono s⟩ ih
def zaX {H H':Hp}(s:zq H H'){rs:AE}{rest:AD}{vs:AF}{cs:AD}(hp:WU (zfN H rs rest) vs cs):WU (zfN H' rs rest) vs cs:=by
 induction hp with
 | nil=>exact .nil
 | cons q _ ih =>
  obtain⟨a,na,wn,e,h1,h3,h4⟩:=q;exact .cons ⟨a,na,wn,e,s _ _ h1,s _ _ h3,h4.mono s⟩ ih
def Ze {α β:Type}{R:α->β->Prop}{vs:List α}{cs:List β}{i:Nat}{v:α}(h:WU R vs cs)(e:vs[i]?=some v):∃c,cs[i]?=some c/\R v c:=za6 h e
def zgR {α β:Type}{R:α->β->Prop}{us:List α}{cs:List β}{us':List α}{cs':List β}(h:WU R us cs)(k:WU R us' cs'):WU R (us++us') (cs++cs'):=zbX h k
def zdN (H H':Hp)(rs:AE)(rest:AD)(v:V)(o:AA):Prop:=∃a na wn,v=V.ref a/\H' a=some (.tup [.int (je rs o-((Grow.cnt (nearF rs) o rest:Nat):Int)),.int (je rs o),.ref na])/\H na=some (.lst wn)/\Cel H wn (zE rs o)
def zgS {H H1 H2:Hp}(s:zq H1 H2){rs:AE}{rest:AD}{vs:AF}{cs:AD}(hp:WU (zdN H H1 rs rest) vs cs):WU (zdN H H2 rs rest) vs cs:=by
 induction hp with
 | nil=>exact .nil
 | cons q _ ih =>
  obtain⟨a,na,wn,e,h1,h3,h4⟩:=q;exact .cons ⟨a,na,wn,e,s _ _ h1,h3,h4⟩ ih
theorem zcs {H H1:Hp}{z:Addr}{ys ys':AF}(hz:H1 z=some (.lst ys)){rs:AE}{rest:AD}:∀{vs:AF} {cs:AD},WU (zdN H H1 rs rest) vs cs->WU (zdN H (upd H1 z (.lst ys')) rs rest) vs cs
 | _,_,.nil=>.nil
 | _,_,.cons ⟨a,na,wn,e,h1,h3,h4⟩ t=>.cons ⟨a,na,wn,e,by
   have ne:a≠z:=λe=>by
    subst e;rw[h1]at hz;cases hz
   rw[zk ne];exact h1,h3,h4⟩ (zcs hz t)
def zgT {H H1:Hp}(s:zq H H1){rs:AE}{rest:AD}{vs:AF}{cs:AD}(hp:WU (zdN H H1 rs rest) vs cs):WU (zfN H1 rs rest) vs cs:=by
 induction hp with
 | nil=>exact .nil
 | cons q _ ih =>
  obtain⟨a,na,wn,e,h1,h3,h4⟩:=q;exact .cons ⟨a,na,wn,e,h1,s _ _ h3,h4.mono s⟩ ih
def zmw:Sp:=λvs H Q _=>∃(ta ca ra:Addr) (ut ur:AF) (rs:AE) (O rest:AD) (c:AA),vs=[.ref ta,.ref ca,.ref ra]/\H ta=some (.lst ut)/\WU (zfM H rs) ut O/\O.length<=64/\Rows bd.cps.toList rs/\H ca=some (.tup [.int (c.1:Nat),.int (c.2:Nat)])/\H ra=some (.lst ur)/\Cel H ur rest/\rest.Nodup /\
 ∀(d:Addr) (uw:AF) (H':Hp),H' d=some (.lst uw)->WU (zfN H' rs rest) uw (O.filter λo=>nearF rs o c)->zq H H'->Q (.ref d) H'
def zpK:Sp:=λvs H Q _=>∃(na pa:Addr) (un up:AF) (rs:AE) (rest O q:AD),vs=[.ref na,.ref pa]/\H na=some (.lst un)/\WU (zfN H rs rest) un O/\H pa=some (.lst up)/\Cel H up q/\q.length<=64 /\
 ∀H':Hp,zq H H'->Q (.bl (O.all λo=>Grow.zcj (nearF rs) (je rs) rest o q)) H'
def xG:zH ["told","cell","rest","needs","number","near","left"] ["told","cell","rest"] (zj Jy):=bz
def zfO (T:Txt mg)(D:zu K mg "needs_at" Jy ["told","cell","rest"] f fd):ql P w K mg base CX0 1 f fd ["told","cell","rest"] zmw:=by
 refine D.F.ok xG (λvs H Q E h=>?_) (λcdv A outer s H vs Q E hr h=>?_)
 .obtain⟨ta,ca,ra,ut,ur,rs,O,rest,c,rfl,_⟩:=h;rfl
 .obtain⟨ta,ca,ra,ut,ur,rs,O,rest,c,rfl,hta,hT,ol,R,hca,hra,hcr,rnd,q⟩:=h;refine⟨_,(@zf _ _ _ _ _ (@zv _ _ 3 _ _ _ _ xG.nd rfl (XD rfl) (@qf _ _ _ _ zc) (by rfl) (.inr rfl)) (zf (qq W3 rfl (z4 (pvS 0)) (Jo rfl (zP (zo (i:=4) xG.nd rfl (XD rfl)) (zP (zo (i:=5) xG.nd rfl (XD rfl)) jE))) (zg (jm (zQ (zbQ hr.units) (pvS 1) (pvS 5) (by rfl)) (zf (zv (i:=6) xG.nd rfl (XD rfl) (zp zJ (by rfl) T.jK WL (za (qB (N:=["place","rest"]) (src:=[none,some 2]) (zZ.free (O:=(zj Jy).names) (XN:=["told","cell","rest","needs","number","near","left"]) rfl rfl ⟨_,rfl⟩ rfl rfl (by decide+kernel) (by decide+kernel) (by decide+kernel) rfl (by decide+kernel)) rfl (z4 (pvS 5)) (λ_ _ _ _ _=>(zo (i:=0) (by show WZ (["place","rest"]:AE);decide+kernel) rfl (XD rfl))) (λ_ _ _ _ _=>(qO (zQ (yc (K:=K) (by rfl) hr.units) (pvS 0) (pvS 1) (by rfl)))) (λ_ _ _ _ _=>(pvS 0))) zc))) (zg (j5 (yu W2 Wh Wg jd (pvS 3) (za (yt (za (zD yX (pvS 4) (pvS 6)) (za (pvS 4) (za (pvS 5) zc)))) zc))))) qp))) (zg (zL (pvS 3))))),?_⟩;(try dsimp only[cxK,cxP,cxW]);refine⟨Zf,λd hd=>?_⟩;have s0:=ze (o:=.lst []) hd;refine⟨_,rfl,ta,rfl,⟨_,SqL.of (s0 _ _ hta)⟩,?_⟩;refine xw (K:=K) (a:=ta) (xs:=ut) (λi σ H'=>∃(uw:AF) (v4 v5 v6:Option V),σ=[some (.ref ta),some (.ref ca),some (.ref ra),some (.ref d),v4,v5,v6]/\zq H H'/\H' d=some (.lst uw)/\WU (zdN H H' rs rest) uw ((O.take i).filter λo=>nearF rs o c))
   ⟨[],_,_,_,rfl,s0,zd,.nil⟩ (λi σ H' _ ⟨_,_,_,_,_,z,_⟩=>SqL.of (z _ _ hta)) ?_ ?_
  .rintro i x σ H1 hx ⟨uw,v4,v5,v6,rfl,s1,hd1,hN⟩;obtain⟨o,ho,a,na,wn,rfl,ha0,hna0,hcn0⟩:=Ze hT hx;have ha:=s1 _ _ ha0;have hna:=s1 _ _ hna0;have hcn:=hcn0.mono s1;have tk:O.take (i+1)=O.take i++[o]:=by
    rw[Xh,ho];rfl
   refine⟨a,_,rfl,SqT.of ha,rfl,_,_,rfl,_,_,rfl,rfl,?_⟩;refine⟨_,rfl,_,rfl,zw c,(zE rs o).map zw,Zn.rdv ⟨ca,rfl,s1 _ _ hca⟩,.lst (SqL.of hna) (zi0 hcn),rfl,zfI _,(by show 1<=60;decide),_,rfl,?_⟩;have ei:(if false=true then !((zE rs o).map zw).any (λz=>WS z (zw c)) else ((zE rs o).map zw).any λz=>WS z (zw c))=nearF rs o c:=Zr _ _;rw[ei,tk,W8];by_cases hp:nearF rs o c=true
   .have ef:[o].filter (λo=>nearF rs o c)=[o]:=by
     rw[Wn,bw hp];rfl
    rw[ef];refine j8 hp ⟨_,rfl,na,rfl,⟨_,SqL.of hna⟩,λz hz=>?_⟩;refine qX (K:=K) (a:=na) (xs:=wn) (λa=>a≠z) ((zE rs o).map λx=>if (rest.any λz=>decide (z=x))=true then some (zw x) else none) (fun σ=>∃u0,σ=[u0,some (.ref ra)]) hz (λ_ h=>h) ⟨_,rfl⟩ (by rw[Y1];exact hcn.length.symm) (by rw[hcn.length];exact X0 (J0 R o) (by decide)) (SqL.of hna) ?_ ?_
    .rintro m v u σ H2 hv hu s2 _ ⟨u1,rfl⟩ Y Z yes no;obtain⟨e,he,rc⟩:=Cel.get (hcn.mono s2) hv;have eo:=xO he hu;refine⟨_,rfl,_,rfl,zw e,rest.map zw,rc.rdv,.lst (SqL.of (s2 _ _ (s1 _ _ hra))) (zi0 ((hcr.mono s1).mono s2)),rfl,zfI _,(by show 1<=60;decide),_,rfl,?_⟩;have ei:(if false=true then !(rest.map zw).any (λz=>WS z (zw e)) else (rest.map zw).any λz=>WS z (zw e))=rest.any λz=>decide (z=e):=Zr _ _;rw[ei];by_cases hp:(rest.any λz=>decide (z=e))=true
     .rw[bw hp]at eo;exact j8 hp ⟨_,rfl,yes _ _ _ _ eo ⟨_,rfl⟩ (zq.refl _) rc.rdn⟩
     .rw[bq hp]at eo;exact yI (WX.mpr hp) (no _ _ eo ⟨_,rfl⟩ (zq.refl _))
    rintro ys H2 s2 hz2 hr2;have er:((zE rs o).map λx=>if (rest.any λz=>decide (z=x))=true then some (zw x) else none).filterMap id=((zE rs o).filter λx=>rest.any λz=>decide (z=x)).map zw:=jb _ _ _;rw[er]at hr2;have yl:ys.length=Grow.cnt (nearF rs) o rest:=(zB.cel hr2).length.trans (zkS rnd);have hd2:=s2 _ _ hd1;refine⟨z,ys,rfl,.inl (SqL.of hz2),?_⟩;rw[yl];refine⟨_,rfl,.inl ⟨rfl,_,SqL.of hd2⟩,_,rfl,_,rfl,_,_,rfl,rfl,_,rfl,_,rfl,ziJ,λtt htt=>?_⟩;have z3:=ze (o:=.tup [.int (je rs o-((Grow.cnt (nearF rs) o rest:Nat):Int)),.int (je rs o),.ref na]) htt;have s23:=s2.trans z3;have uwl:uw.length<=64:=by
     rw[Paired.length hN];refine X0 (Xa _ _) ?_;rw[XA];lia
    have hd3:=z3 _ _ hd2;refine⟨d,uw,_,rfl,rfl,hd3,Xx uwl (by decide),uw++[.ref tt],_,_,_,rfl,λb e' h'=>?_,zd,zgR (zcs hd3 (zgS s23 hN)) (.cons ⟨tt,na,wn,rfl,?_,hna0,hcn0⟩ .nil)⟩
    .rw[zk (zh h' hd)];exact s23 _ _ (s1 _ _ h')
    .have ne:tt≠d:=λe=>by
      subst e;rw[hd2]at htt;cases htt
     rw[zk ne,zd]
   .have ef:[o].filter (λo=>nearF rs o c)=[]:=by
     rw[Wn,bq hp];rfl
    rw[ef,W6];exact yI (WX.mpr hp) ⟨uw,_,_,_,rfl,s1,hd1,hN⟩
  .rintro σ H1 ⟨uw,v4,v5,v6,rfl,s1,hd1,hN⟩;rw[Paired.length hT,XB]at hN;exact⟨_,rfl,q d uw H1 hd1 (zgT s1 hN) s1⟩
def ZU:zH ["needs","pick","least","most","near"] ["needs","pick"] (zj Zl):=bz
def zgU (T:Txt mg)(D:zu K mg "may_fit" Zl ["needs","pick"] f fd):ql P w K mg base CX0 1 f fd ["needs","pick"] zpK:=by
 refine D.F.ok ZU (λvs H Q E h=>?_) (λcdv A outer s H vs Q E hr h=>?_)
 .obtain⟨na,pa,un,up,rs,rest,O,p,rfl,_⟩:=h;rfl
 .obtain⟨na,pa,un,up,rs,rest,O,p,rfl,hna,hN,hpa,hcp,pl,q⟩:=h;refine⟨_,(zf (qq W3 rfl (z4 (pvS 0)) (Jo rfl (zP (zo (i:=2) ZU.nd rfl (XD rfl)) (zP (zo (i:=3) ZU.nd rfl (XD rfl)) (zP (zo (i:=4) ZU.nd rfl (TL rfl)) jE)))) (zg (jm (zbM (zeV zeu zeu (pvS 2) (zp zJ (by rfl) T.jK WL (za (qB (N:=["cell","near"]) (src:=[none,some 4]) (zZ.free (O:=(zj Zl).names) (XN:=["needs","pick","least","most","near"]) rfl rfl ⟨_,rfl⟩ rfl rfl (by decide+kernel) (by decide+kernel) (by decide+kernel) rfl (by decide+kernel)) rfl (z4 (pvS 1)) (λ_ _ _ _ _=>(zo (i:=0) (by show WZ (["cell","near"]:AE);decide+kernel) rfl (XD rfl))) (λ_ _ _ _ _=>(qO (zQ (yc (K:=K) (by rfl) hr.units) (pvS 0) (pvS 1) (by rfl)))) (λ_ _ _ _ _=>(pvS 0))) zc)) (pvS 3))) (@zg _ _ _ (@zL _ _ _ _ zdd)) qp))) (@zg _ _ _ (@zL _ _ _ _ zdd))),?_⟩;(try dsimp only[cxK,cxP,cxW]);refine⟨_,rfl,na,rfl,⟨_,SqL.of hna⟩,?_⟩;refine xw (K:=K) (a:=na) (xs:=un) (λi σ H'=>∃(v2 v3 v4:Option V),σ=[some (.ref na),some (.ref pa),v2,v3,v4]/\zq H H'/\∀o∈O.take i,Grow.zcj (nearF rs) (je rs) rest o p=true)
   ⟨_,_,_,rfl,zq.refl _,λo ho=>by simp at ho⟩ (λi σ H' _ ⟨_,_,_,_,z,_⟩=>SqL.of (z _ _ hna)) ?_ ?_
  .rintro i x σ H1 hx ⟨v2,v3,v4,rfl,s1,hall⟩;obtain⟨o,ho,a,ra,wn,rfl,ha,hra,hcn⟩:=Ze (zaX s1 hN) hx;refine⟨a,_,rfl,SqT.of ha,rfl,_,_,rfl,_,_,rfl,_,_,rfl,rfl,?_⟩;refine⟨_,rfl,_,rfl,pa,rfl,⟨_,SqL.of (s1 _ _ hpa)⟩,λz hz=>?_⟩;refine qX (K:=K) (a:=pa) (xs:=up) (λa=>a≠z) (p.map λx=>if nearF rs o x=true then some (zw x) else none) (fun σ=>∃u0,σ=[u0,some (.ref ra)]) hz (λ_ h=>h) ⟨_,rfl⟩ (by rw[Y1];exact hcp.length.symm) (by rw[hcp.length];exact X0 pl (by decide)) (SqL.of (s1 _ _ hpa)) ?_ ?_
   .rintro m v u σ H2 hv hu s2 _ ⟨u1,rfl⟩ Y Z yes no;obtain⟨e,he,rc⟩:=Cel.get ((hcp.mono s1).mono s2) hv;have eo:=xO he hu;refine⟨_,rfl,_,rfl,zw e,(zE rs o).map zw,rc.rdv,.lst (SqL.of (s2 _ _ hra)) (zi0 (hcn.mono s2)),rfl,zfI _,(by show 1<=60;decide),_,rfl,?_⟩;have ei:(if false=true then !((zE rs o).map zw).any (λz=>WS z (zw e)) else ((zE rs o).map zw).any λz=>WS z (zw e))=nearF rs o e:=Zr _ _;rw[ei];by_cases hp:nearF rs o e=true
    .rw[bw hp]at eo;exact j8 hp ⟨_,rfl,yes _ _ _ _ eo ⟨_,rfl⟩ (zq.refl _) rc.rdn⟩
    .rw[bq hp]at eo;exact yI (WX.mpr hp) (no _ _ eo ⟨_,rfl⟩ (zq.refl _))
   rintro ys H2 s2 hz2 hr2;have er:(p.map λx=>if nearF rs o x=true then some (zw x) else none).filterMap id=(p.filter (nearF rs o)).map zw:=jb _ _ _;rw[er]at hr2;have yl:ys.length=Grow.cnt (nearF rs) o p:=(zB.cel hr2).length;refine⟨z,ys,rfl,.inl (SqL.of hz2),?_⟩;rw[yl];have om:=XZ ho;have tk:O.take (i+1)=O.take i++[o]:=by
    rw[Xh,ho];rfl
   have bad:Grow.zcj (nearF rs) (je rs) rest o p=false->Q (.bl false) H2:=λe=>by
    have e2:(O.all λo=>Grow.zcj (nearF rs) (je rs) rest o p)=false:=WX.mpr λz=>by
     have:=Wx.mp z o om;rw[e]at this;cases this
    rw[e2]at q;exact q _ (s1.trans s2)
   refine⟨_,_,rfl,rfl,_,rfl,?_⟩;by_cases h1:je rs o-((Grow.cnt (nearF rs) o rest:Nat):Int)<=((Grow.cnt (nearF rs) o p:Nat):Int)
   .rw[br h1];refine Yg ⟨_,rfl,_,_,rfl,rfl,_,rfl,?_⟩;by_cases h2:((Grow.cnt (nearF rs) o p:Nat):Int)<=je rs o
    .rw[br h2];refine zbl ⟨_,_,_,rfl,s1.trans s2,λo' ho'=>?_⟩;rw[tk]at ho';rcases XR.mp ho' with ho' | ho'
     .exact hall o' ho'
     .have e:o'=o:=by simpa using ho'
      rw[e];exact Grow.j7.mpr ⟨h1,h2⟩
    .rw[bf h2];exact Yg (bad (WX.mpr λz=>h2 (Grow.j7.mp z).2))
   .rw[bf h1];refine zbl ⟨_,rfl,?_⟩;exact Yg (bad (WX.mpr λz=>h1 (Grow.j7.mp z).1))
  .rintro σ H1 ⟨v2,v3,v4,rfl,s1,hall⟩;rw[Paired.length hN,XB]at hall;have e:(O.all λo=>Grow.zcj (nearF rs) (je rs) rest o p)=true:=Wx.mpr hall;rw[e]at q;exact q H1 s1
def toL (q:AD):List (Int×Int):=q.map toI
def zqu (CG:Addr):Sp:=λvs H Q E=>∃(a l pa:Addr) (rs:AE) (n:Int) (ups:AF) (part:AD),vs=[.ref a,.ref pa]/\qk H a l rs n/\Rows bd.cps.toList rs/\H pa=some (.lst ups)/\Cel H ups part/\part.Nodup/\part.length<=64/\(14<part.length->∀H',zq H H'->E (.ref CG) none H')/\(part.length<=14 ->
 ∀(d:Addr) (ws:AF) (ks:List (List (Int×Int))) (H':Hp),H d=none->H' d=some (.lst ws)->jG (λa=>H a=none/\a≠d) H' ws ks->ws.Nodup->ks.Perm (((Subs.subs part).filter (Grow.fits (nearF rs) (je rs) (Jb rs part) part)).map toL)->ks.Pairwise (λp q=>PySem.SeqAt.ltL q p=false)->zq H H'->Q (.ref d) H')
def jr (rs:AE)(part:AD):Nat->List AD
 | 0=>[[]]
 | i+1=>match part[i]? with
  | some c=>(Subs.step (jr rs part i) c).filter (Grow.chk (nearF rs) (je rs) (Jb rs part) c (part.drop (i+1)))
  | none=>jr rs part i
def zct {rs:AE}{part:AD}{i:Nat}{c:AA}(h:part[i]?=some c):jr rs part (i+1)=(Subs.step (jr rs part i) c).filter (Grow.chk (nearF rs) (je rs) (Jb rs part) c (part.drop (i+1))):=by
 show (match part[i]? with | some c=>_ | none=>_)=_;rw[h]
theorem zcu {rs:AE}{part:AD}:∀(k i:Nat),part.length-i=k->i<=part.length->Grow.grow (nearF rs) (je rs) (Jb rs part) (jr rs part i) (part.drop i)=jr rs part part.length
 | 0,i,h,hi=>by
  have e:i=part.length:=by lia
  subst e;rw[List.drop_length];rfl
 | k+1,i,h,hi=>by
  have hl:i<part.length:=by lia
  rw[Wz hl];show Grow.grow _ _ _ ((Subs.step (jr rs part i) part[i]).filter _) (part.drop (i+1))=_;rw[<- zct (X5 hl)];exact zcu k (i+1) (by lia) (by lia)
def zdO (rs:AE)(part:AD):jr rs part part.length=(Subs.subs part).filter (Grow.fits (nearF rs) (je rs) (Jb rs part) part):=by
 rw[<- Grow.zmg];exact(zcu (rs:=rs) (part:=part) part.length 0 (by lia) (W7 _)).symm
theorem YR (rs:AE)(part:AD):∀i,(jr rs part i).length<=2^i
 | 0=>XU _
 | i+1=>by
  have ih:=YR rs part i;show (match part[i]? with | some c=>_ | none=>_:List AD).length<=_;rw[TZ];split
  .refine X0 (Xa _ _) ?_;unfold Subs.step;rw[XS,Y1];lia
  .lia
theorem zcv (rs:AE)(part:AD):∀i,∀q∈jr rs part i,q.length<=i
 | 0,q,h=>by
  have e:q=[]:=by simpa[jr] using h
  rw[e];exact XU _
 | i+1,q,h=>by
  have ih:=zcv rs part i;cases e:part[i]? with
  | none =>
   have e2:jr rs part (i+1)=jr rs part i:=by
    show (match part[i]? with | some c=>_ | none=>_)=_;rw[e]
   rw[e2]at h;exact TH (ih q h)
  | some c =>
   rw[zct e]at h;have h:=(XX.mp h).1;rcases XR.mp h with h | h
   .exact TH (ih q h)
   .obtain⟨p,hp,rfl⟩:=XO.mp h;rw[XS];exact Nat.succ_le_succ (ih p hp)
def tD2 (rs:AE)(c:AA):V3:=.tuple [.int (je rs c),.list ((zE rs c).map zw)]
def zkT {N:Addr->Prop}{H:Hp}{rs:AE}{v:V}{c:AA}(h:Rdn N H v (tD2 rs c)):zfM H rs v c:=by
 unfold tD2 at h;generalize ed:(zE rs c).map zw=ds at h;cases h with
 | tup h t =>
  cases t with
  | cons b t =>
   cases b;cases t with
   | cons d t =>
    cases t;cases d with
    | lst n h1 h2 =>
     subst ed;exact⟨_,_,_,rfl,h,h1,zB.cel h2⟩
theorem zdP {N:Addr->Prop}{H:Hp}{rs:AE}:∀{cs:AD} {vs:AF},zB N H vs (cs.map (tD2 rs))->WU (zfM H rs) vs cs
 | [],_,.nil=>.nil
 | _::_,_,.cons h t=>.cons (zkT h) (zdP t)
def zaY {σ:St}{H:Hp}{A B:Hp->Prop}(h:A H):zjD σ H λb H4=>if b=true then A H4 else B H4:=by
 show if true=true then A H else B H
 rw[bw rfl];exact h
def zkU {F:List AD}{j:Nat}{k:List (Int×Int)}(h:(F.map toL)[j]?=some k):∃q,F[j]?=some q/\k=toL q:=by
 rw[Xn]at h;cases e:F[j]? with
 | none=>rw[e]at h;cases h
 | some q =>
  rw[e]at h;cases h;exact⟨q,rfl,rfl⟩
def zfP (xs:AF)(i:Nat)(hi:i<xs.length):QG xs (some (((i:Nat):Int)+1)) none=xs.drop (i+1):=by
 have e:HT.sIx xs.length 0 (some (((i:Nat):Int)+1))=i+1:=by
  have:=HT.zbu xs.length 0 (i+1);rw[Uv]at this;rw[show (((i:Nat):Int)+1)=((i:Nat):Int)+((1:Nat):Int) from rfl,this];lia
 unfold QG;rw[e];show (xs.drop (i+1)).take (xs.length-(i+1))=_;rw[WD (by rw[Vp];lia)]
theorem zfQ {H:Hp}:∀{us:AF} {cs:AD} (i:Nat),Cel H us cs->Cel H (us.drop i) (cs.drop i)
 | _,_,0,h=>h
 | _,_,i+1,.nil=>.nil
 | _,_,i+1,.cons _ t=>zfQ i t
def qw:zH ["board","part","told","found","place","cell","needs","grown"] ["board","part"] (zj qT):=bz
def Z6 {jaj:Addr}(T:Txt mg)(Z:Prog K mg)(jat:qv K mg "TooGreat" jaj){f:Addr}{fd:Xc}(D:zu K mg "part_layings" qT ["board","part"] f fd):ql P w K mg base (CXE P w) 4 f fd ["board","part"] (zqu jaj):=by
 obtain⟨zcw,zaZ,qb⟩:=Z.around;obtain⟨za0,Qm,zC⟩:=Z.sign_at;obtain⟨Qn,Yr,zG⟩:=Z.cells_of;obtain⟨ZV,J1,zF⟩:=Z.open_cells;obtain⟨Ys,ZW,qJ⟩:=Z.number_at;obtain⟨zag,Y8,Jc⟩:=Z.numbers_of;obtain⟨zcx,zbe,ZX⟩:=Z.needs_at;obtain⟨zdQ,zcy,YS⟩:=Z.may_fit;refine D.F.okX qw (λvs H Q E h=>?_) (λcdv A outer s H vs Q E hr h=>?_)
 .obtain⟨a,l,pa,rs,n,ups,part,rfl,_⟩:=h;rfl
 .obtain⟨a,l,pa,rs,n,ups,part,rfl,b,R,hpa,hcp,pnd,p64,qg,q⟩:=h;have ul:=hcp.length;refine⟨_,(zf (jm (zQ zew (zp zJ (by rfl) T.jK WL (za (pvS 1) zc)) (jn (v:=.int 14) (by rfl) T.zcp.choose_spec (by exact⟨_,rfl⟩)) (qa _)) (zg (zjK jM jat (by rfl) rfl (@za _ _ _ _ _ qe zc rfl))) qp) (zf (ZM (i:=2) qw.nd rfl rfl (N:=["cell","board"]) (src:=[none,some 0]) (zZ.free (O:=(zj qT).names) (XN:=["board","part","told","found","place","cell","needs","grown"]) rfl rfl ⟨_,rfl⟩ rfl rfl (by decide+kernel) (by decide+kernel) (by decide+kernel) rfl (by decide+kernel)) rfl (z4 (pc0 (zc5 T Jc qb zC zG zF) hr Jc (za (pvS 0) (za (pvS 1) zc)))) (λ_ _ _ _ _=>(zo (i:=0) (by show WZ (["cell","board"]:AE);decide+kernel) rfl (XD rfl))) (λ_ _ _ _ _=>qN) (λ_ _ _ _ _=>(yt (za (pc0 (zac T qJ zC) hr qJ (za (pvS 1) (za (pvS 0) zc))) (za (pc0 (YL T qb) hr qb (za (pvS 1) (za (pvS 0) zc))) zc))))) (@zf _ _ _ _ _ (@zv _ _ 3 _ _ _ _ qw.nd rfl (XD rfl) (@qf _ _ _ _ (@za _ _ _ _ _ (@qf _ _ _ _ zc) zc rfl)) (by rfl) (.inr rfl)) (zf (qq (jC.own jM) rfl (Jq (by rfl) T.ja (za (pvS 1) zc)) (Jo rfl (zP (zo (i:=4) qw.nd rfl (XD rfl)) (zP (zo (i:=5) qw.nd rfl (TL rfl)) jE))) (zf (zv (i:=6) qw.nd rfl (TL rfl) (pc0 (zfO T ZX) hr ZX (za (pvS 2) (za (pvS 5) (za (QF zbw (pvS 1) (QE (zD qm (pvS 4) zm)) zea) zc))))) (zf (zv (i:=7) qw.nd rfl (XD rfl) (zD Ye (pvS 3) (qB (N:=["pick","cell"]) (src:=[none,some 5]) (zZ.free (O:=(zj qT).names) (XN:=["board","part","told","found","place","cell","needs","grown"]) rfl rfl ⟨_,rfl⟩ rfl rfl (by decide+kernel) (by decide+kernel) (by decide+kernel) rfl (by decide+kernel)) rfl (z4 (pvS 3)) (λ_ _ _ _ _=>(zo (i:=0) (by show WZ (["pick","cell"]:AE);decide+kernel) rfl (XD rfl))) (λ_ _ _ _ _=>qN) (λ_ _ _ _ _=>(zD Ye (pvS 0) (qf (za (pvS 1) zc))))))) (zg (ZM (i:=3) qw.nd rfl rfl (N:=["pick","needs"]) (src:=[none,some 6]) (zZ.free (O:=(zj qT).names) (XN:=["board","part","told","found","place","cell","needs","grown"]) rfl rfl ⟨_,rfl⟩ rfl rfl (by decide+kernel) (by decide+kernel) (by decide+kernel) rfl (by decide+kernel)) rfl (z4 (pvS 7)) (λ_ _ _ _ _=>(zo (i:=0) (by show WZ (["pick","needs"]:AE);decide+kernel) rfl (XD rfl))) (λ_ _ _ _ _=>(qO (zaC (K:=K) (by rfl) (pc0 (zgU T YS) hr YS (za (pvS 1) (za (pvS 0) zc))) (λ_=>rfl)))) (λ_ _ _ _ _=>(pvS 0))))))) (zg (zL (zp (GS.Y5 hr.units) (by rfl) T.zaa Uf (za (pvS 3) zc)))))))),?_⟩;(try dsimp only[cxK,cxP,cxW]);refine⟨_,rfl,pa,ups,rfl,.inl (SqL.of hpa),_,_,rfl,rfl,_,rfl,?_⟩;by_cases h14:14<part.length
  .exact j8 (br (by lia)) ⟨sz_1,qg h14 H (zq.refl _)⟩
  have pl:part.length<=14:=by lia
  have q:=q pl;refine yI (bf (by lia)) ?_;refine⟨_,rfl,_,rfl,a,l,pa,rs,n,ups,part,rfl,b,R,hpa,hcp,λd ws H1 hd hd1 hc1 s1=>⟨d,rfl,⟨_,SqL.of hd1⟩,λz hz=>?_⟩⟩;have b1:=b.mono s1;have nl:(Jb rs part).length<=64:=X0 (Xa _ _) (jz (p:=Jz) R);refine qX (K:=K) (a:=d) (xs:=ws) (λa=>a≠z) ((Jb rs part).map λc=>some (tD2 rs c)) (fun σ=>∃u0,σ=[u0,some (.ref a)]) hz (λ_ h=>h) ⟨_,rfl⟩ (by rw[Y1];exact hc1.length.symm) (by rw[hc1.length];exact X0 nl (by decide)) (SqL.of hd1) ?_ ?_
  .rintro k x o σ H2 hx ho s2 hzn ⟨u0,rfl⟩ Y Z yes no;obtain⟨y,hy,r1⟩:=Cel.get hc1 hx;have eo:=xO hy ho;have yo:y∈zR rs:=(XX.mp (XZ hy)).1;obtain⟨t,sg,ht,hj,hop,es⟩:=zK yo;obtain⟨ya,rfl,hya⟩:=r1;obtain⟨l1,l2⟩:=JA R ht hj;obtain⟨o1,o2⟩:=zdH (zhP R ht hj) hop;have b2:=b1.mono s2;have hya2:=s2 _ _ hya;refine ZL ⟨_,rfl,_,rfl,a,l,ya,rs,n,y.1,y.2,t,sg,rfl,b2,hya2,ht,hj,R.tlen ht,o1,o2,_,rfl,_,rfl,a,l,ya,rs,n,y.1,y.2,rfl,b2,R,hya2,l1,l2,λd2 ws2 H3 hd2 hd3 hc2 s3=>⟨zbn,λtt htt=>?_⟩⟩;have s4:=ze (o:=.tup [.int (((sg:Nat):Int)-48),.ref d2]) htt;have en:je rs y=((sg:Nat):Int)-48:=by
    unfold je;rw[es]
   refine yes _ _ _ _ eo ⟨_,rfl⟩ (s3.trans s4) (.tup zd (.cons ?_ (.cons (.lst (λe=>hzn (e ▸ hd2)) (s4 _ _ hd3) (Cel.rdn (hc2.mono s4))) .nil)));rw[en];exact .int _
  rintro ut H2 s2 hz2 hr2;rw[Zp]at hr2;have hT:=zdP hr2;have s02:=s1.trans s2;refine⟨Zf,λe0 he0=>⟨sz_1,λf0 hf0=>?_⟩⟩;have y1:=ze (o:=.lst []) he0;have y2:=ze (o:=.lst [.ref e0]) hf0;have y12:=y1.trans y2;have hL0:jG (λa=>H2 a=none) (upd (upd H2 e0 (.lst [])) f0 (.lst [.ref e0])) [.ref e0] ([[]]:List (List (Int×Int))):=.cons ⟨e0,[],rfl,he0,y2 _ _ zd,.nil⟩ .nil;have hf3:upd (upd H2 e0 (.lst [])) f0 (.lst [.ref e0]) f0=some (.lst [.ref e0]):=zd;generalize upd (upd H2 e0 (.lst [])) f0 (.lst [.ref e0])=H3 at *
  have hpa2:=s02 _ _ hpa;refine⟨_,rfl,pa,rfl,⟨_,SqL.of (y12 _ _ hpa2)⟩,?_⟩;refine Jh (K:=K) (l:=pa) (xs:=ups) (λi σ H'=>∃(fa:Addr) (fs:AF) (v4 v5 v6 v7:Option V),σ=[some (.ref a),some (.ref pa),some (.ref z),some (.ref fa),v4,v5,v6,v7]/\zq H2 H'/\H' fa=some (.lst fs)/\jG (λa=>H2 a=none) H' fs ((jr rs part i).map toL)/\fs.Nodup)
   ⟨f0,_,_,_,_,_,rfl,y12,hf3,hL0,by simp⟩ (λi σ H' _ ⟨_,_,_,_,_,_,_,y,_⟩=>SqL.of (y _ _ hpa2)) ?_ ?_
  .rintro i x tt σ H4 hx htt ⟨fa,fs,v4,v5,v6,v7,rfl,s4,hfa,hL,hnd⟩;obtain⟨c,hc,ca,rfl,hca⟩:=Cel.get ((hcp.mono s02).mono s4) hx;have il:=(XW.mp hx).1;have z5:=ze (o:=.tup [.int (i:Nat),.ref ca]) htt;refine⟨tt,_,rfl,SqT.of zd,rfl,_,_,rfl,_,_,rfl,rfl,?_⟩;have s5:=s4.trans z5;have hca5:=z5 _ _ hca;have hfa5:=z5 _ _ hfa;have hL5:=qU z5 hL;generalize upd H4 tt (.tup [.int (i:Nat),.ref ca])=H5 at *
   refine⟨_,rfl,_,rfl,_,rfl,_,rfl,_,_,rfl,rfl,_,rfl,pa,ups,rfl,SqL.of (s5 _ _ hpa2),λx1 hx1=>?_⟩;have e1:=zfP ups i il;rw[e1]at *
   have z6:=ze (o:=.lst (ups.drop (i+1))) hx1;have s6:=s5.trans z6;refine⟨z,ca,x1,ut,ups.drop (i+1),rs,Jb rs part,part.drop (i+1),c,rfl,s6 _ _ hz2,zi7 s6 hT,nl,R,z6 _ _ hca5,zd,zfQ _ ((hcp.mono s02).mono s6),pnd.sublist (PY _ _),λnd un H6 zqv hN s7=>?_⟩;have s56:=z6.trans s7;have s26:=s5.trans s56;have hfa6:=s56 _ _ hfa5;have hL6:=qU s56 hL5;have hca6:=s56 _ _ hca5;have i14:i<=13:=by lia
   have fl:fs.length<=8192:=by
    rw[jA hL,Y1];exact X0 (YR rs part i) (Uk (by decide) i14)
   have dp:=zcv rs part i;have eG:=zct (rs:=rs) hc;have gl:=YR rs part i;generalize jr rs part i=F at *
   refine⟨_,rfl,_,rfl,fa,rfl,⟨_,SqL.of hfa6⟩,λy hy=>?_⟩;refine qC (K:=K) (a:=fa) (xs:=fs) (λj σ' H'=>∃(u0:Option V) (ys:AF),σ'=[u0,some (.ref ca)]/\zq H6 H'/\H' y=some (.lst ys)/\jG (λa=>H6 a=none/\a≠y) H' ys (((F.take j).map (·++[c])).map toL)/\ys.Nodup)
    ⟨_,[],rfl,ze hy,zd,.nil,T7⟩ (λj σ' H' _ ⟨_,_,_,z,_⟩=>SqL.of (z _ _ hfa6)) ?_ ?_
   .rintro j v σ' H7 hv ⟨u0,ys,rfl,s8,hy7,hL7,nd7⟩;obtain⟨k,a1,w1,hk,rfl,an,ha1,t1⟩:=zaf hL6 hv;obtain⟨q1,hq1,rfl⟩:=zkU hk;have kd:=dp q1 (XZ hq1);have wl:w1.length=q1.length:=(zfL t1).trans (Y1 _);have tj:((F.take (j+1)).map (·++[c])).map toL=((F.take j).map (·++[c])).map toL++[toL q1++[toI c]]:=by
     rw[Xh,hq1,Xj,Xj];simp[toL]
    rw[tj];unfold yr;refine zaY ?_;refine⟨_,rfl,_,rfl,sz_1,λt2 ht2=>?_⟩;have y5:=ze (o:=.lst [.ref ca]) ht2;refine⟨a1,t2,w1,[.ref ca],rfl,rfl,y5 _ _ (s8 _ _ ha1),zd,X0 (show w1.length+1<=100 by lia) (by decide),λt3 ht3=>?_⟩;have y6:=ze (o:=.lst (w1++[.ref ca])) ht3;have y56:=y5.trans y6;have h6:upd (upd H7 t2 (.lst [.ref ca])) t3 (.lst (w1++[.ref ca])) t3=some (.lst (w1++[.ref ca])):=zd;have tz:t3≠y:=λe=>by
     subst e;rw[y5 _ _ hy7]at ht3;cases ht3
    have n4:=y5.free ht3;have n3:=s8.free n4;have c1:xx (upd (upd H7 t2 (.lst [.ref ca])) t3 (.lst (w1++[.ref ca]))) [.ref ca] [toI c]:=.cons ⟨ca,rfl,y56 _ _ (s8 _ _ hca6)⟩ .nil;have tw6:=zkR (Zu (s8.trans y56) t1) c1;generalize upd (upd H7 t2 (.lst [.ref ca])) t3 (.lst (w1++[.ref ca]))=H8 at *
    have hy8:=y56 _ _ hy7;have yl:ys.length<=8192:=by
     rw[jA hL7,Y1,Y1,XA];have:=jA hL;rw[Y1]at this;lia
    refine⟨ys,hy8,Xx yl (by decide),_,ys++[.ref t3],rfl,λb' o e=>?_,zd,YO (JB hy8 (λa h=>h.2) (qU y56 hL7)) (.cons ⟨t3,w1++[.ref ca],rfl,⟨n3,tz⟩,by rw[zk tz];exact h6,YN hy8 tw6⟩ .nil),?_⟩
    .rw[zk (zh e hy)];exact y56 _ _ (s8 _ _ e)
    .refine VG.mpr ⟨nd7,by simp,λu hu u' hu' e=>?_⟩;obtain⟨b',wb,rfl,_,hb⟩:=YQ hL7 hu;have e2:u'=.ref t3:=by simpa using hu'
     rw[e2]at e;cases e;rw[hb]at n4;cases n4
   rintro σ' H7 ⟨u0,ys,rfl,s8,hy7,hL7,nd7⟩;have fsl:fs.length=F.length:=(jA hL).trans (Y1 _);rw[fsl,XB]at hL7;have yl:ys.length<=8192:=by
    rw[jA hL7,Y1,Y1];lia
   refine⟨fa,y,fs,ys,rfl,rfl,s8 _ _ hfa6,hy7,X0 (Ro fl yl) (by decide),λg hg=>?_⟩;have y9:=ze (o:=.lst (fs++ys)) hg;have s27:=s26.trans s8;have s28:=s27.trans y9;have hg8:upd H7 g (.lst (fs++ys)) g=some (.lst (fs++ys)):=zd;have hLg:jG (λa=>H2 a=none) (upd H7 g (.lst (fs++ys))) (fs++ys) ((Subs.step F c).map toL):=by
    unfold Subs.step;rw[Xj];exact YO (qU (s8.trans y9) hL6) (qU y9 (Ql (λa h=>s26.free h.1) hL7))
   have gnd:(fs++ys).Nodup:=by
    refine VG.mpr ⟨hnd,nd7,λu hu u' hu' e=>?_⟩;obtain⟨b',wb,rfl,_,hb⟩:=YQ hL6 hu;obtain⟨b2,wb2,rfl,hb2,_⟩:=YQ hL7 hu';cases e;rw[hb]at hb2;cases hb2.1
   have hnd8:=(s8.trans y9) _ _ zqv;have hN8:=zaX (s8.trans y9) hN;have gll:(fs++ys).length<=16384:=by
    rw[XS];lia
   have dps:∀q∈Subs.step F c,q.length<=64:=λq hq=>by
    rcases XR.mp hq with hq | hq
    .have:=dp q hq;lia
    .obtain⟨p',hp',rfl⟩:=XO.mp hq;have:=dp p' hp';rw[XS];show p'.length+1<=64;lia
   generalize fs++ys=gs at *
   generalize Subs.step F c=S at *
   generalize upd H7 g (.lst gs)=H8 at *
   refine⟨_,rfl,g,rfl,⟨_,SqL.of hg8⟩,λy2 hy2=>?_⟩;refine qC (K:=K) (a:=g) (xs:=gs) (λj σ' H'=>∃(u0:Option V) (ys:AF),σ'=[u0,some (.ref nd)]/\zq H8 H'/\H' y2=some (.lst ys)/\jG (λa=>H2 a=none/\a≠y2) H' ys (((S.take j).filter (Grow.chk (nearF rs) (je rs) (Jb rs part) c (part.drop (i+1)))).map toL)/\ys.Sublist (gs.take j))
    ⟨_,[],rfl,ze hy2,zd,.nil,List.Sublist.slnil⟩ (λj σ' H' _ ⟨_,_,_,z,_⟩=>SqL.of (z _ _ hg8)) ?_ ?_
   .rintro j v σ' H9 hv ⟨u0,ys,rfl,s9,hz9,hL9,sb9⟩;obtain⟨k,a1,w1,hk,rfl,an,ha1,t1⟩:=zaf hLg hv;obtain⟨q1,hq1,rfl⟩:=zkU hk;have tf:gs.take (j+1)=gs.take j++[.ref a1]:=by
     rw[Xh,hv];rfl
    refine⟨_,rfl,_,rfl,nd,a1,un,w1,rs,part.drop (i+1),_,q1,rfl,s9 _ _ hnd8,zaX s9 hN8,s9 _ _ ha1,(JT t1).mono s9,dps q1 (XZ hq1),λH10 s10=>⟨_,rfl,?_⟩⟩;rw[tf];have hz10:=s10 _ _ hz9;show if Grow.chk (nearF rs) (je rs) (Jb rs part) c (part.drop (i+1)) q1=true then _ else _
    by_cases hlt:Grow.chk (nearF rs) (je rs) (Jb rs part) c (part.drop (i+1)) q1=true
    .have e1:((S.take (j+1)).filter (Grow.chk (nearF rs) (je rs) (Jb rs part) c (part.drop (i+1)))).map toL=((S.take j).filter (Grow.chk (nearF rs) (je rs) (Jb rs part) c (part.drop (i+1)))).map toL++[toL q1]:=by
      rw[Xh,hq1,W8,Xj];simp[hlt]
     rw[e1];have az:a1≠y2:=zh ha1 hy2;have yl:ys.length<=16384:=by
      have:=sb9.length_le;rw[XA]at this;lia
     refine j8 hlt ⟨_,rfl,ys,hz10,Xx yl (by decide),_,ys++[.ref a1],rfl,λb' o e=>?_,zd,YO (JB hz10 (λa h=>h.2) (qU s10 hL9)) (.cons ⟨a1,w1,rfl,⟨an,az⟩,by rw[zk az];exact s10 _ _ (s9 _ _ ha1),YN hz10 (Zu (s9.trans s10) t1)⟩ .nil),List.Sublist.append sb9 (List.Sublist.refl _)⟩;rw[zk (zh e hy2)];exact s10 _ _ (s9 _ _ e)
    .have e1:((S.take (j+1)).filter (Grow.chk (nearF rs) (je rs) (Jb rs part) c (part.drop (i+1)))).map toL=((S.take j).filter (Grow.chk (nearF rs) (je rs) (Jb rs part) c (part.drop (i+1)))).map toL:=by
      rw[Xh,hq1,W8,Xj];simp[hlt]
     rw[e1];exact yI (WX.mpr hlt) ⟨_,ys,rfl,s9.trans s10,hz10,qU s10 hL9,sb9.trans (Ue _ _)⟩
   .rintro σ' H9 ⟨u0,ys,rfl,s9,hz9,hL9,sb9⟩;have gsl:gs.length=S.length:=(jA hLg).trans (Y1 _);rw[gsl,XB,<- eG]at hL9;rw[gsl,<- gsl,XB]at sb9;exact⟨y2,ys,_,_,_,_,rfl,s28.trans s9,hz9,Ql (λa h=>h.1) hL9,gnd.sublist sb9⟩
  .rintro σ H4 ⟨fa,fs,v4,v5,v6,v7,rfl,s4,hfa,hL,hnd⟩;have gl:=YR rs part part.length;rw[ul,zdO]at hL;rw[zdO]at gl;have fl:fs.length<=16384:=by
    rw[jA hL,Y1];exact X0 gl (Uk (by decide) pl)
   refine⟨_,rfl,fa,fs,_,rfl,SqL.of hfa,zi5 hL,by lia,λd' us' ks' hd' hp' zdM hpw hup=>?_⟩;have y5:=ze (o:=.lst us') hd';have s04:=s02.trans s4;refine q d' us' ks' _ (s04.free hd') zd (qU y5 (zkQ hp' λv hv=>?_)) (hup.nodup_iff.mpr hnd) zdM hpw (s04.trans y5);obtain⟨a1,wa,e,na,ha⟩:=YQ hL (hup.mem_iff.mp hv);exact⟨a1,e,s02.free na,zh ha hd'⟩
abbrev iL (xs:List Int):AF:=xs.map V.int
def zcz (xs:List Int):V3:=.list (xs.map R5)
theorem zbf {K:XY}{H:Hp}:∀xs:List Int,xK K H (iL xs) (xs.map R5)
 | []=>.nil
 | x::r=>.cons (.int x) (zbf r)
def zfR {K:XY}{H:Hp}{a:Addr}{xs:List Int}(h:SqL K H a (iL xs)):Rdv K H (.ref a) (zcz xs):=.lst h (zbf xs)
theorem lay_ints:∀xs:List Int,Vw (xs.map R5)=true
 | []=>rfl
 | x::r=>by
  show (UA (.int x)&&Vw (r.map R5))=true;rw[lay_ints r];rfl
theorem zcA:∀xs:List Int,VB (xs.map R5)=0
 | []=>rfl
 | x::r=>by
  show max (PyData.depth (.int x)) (VB (r.map R5))=0;rw[zcA r];rfl
def zdR (xs:List Int):(zcz xs).canLay0=true:=lay_ints xs
def zfS (xs:List Int):(zcz xs).depth=1:=by
 show VB (xs.map R5)+1=1;rw[zcA]
def zi8 (xs ys:List Int):zgl (zcz xs) (zcz ys):=⟨zdR xs,zdR ys,by rw[zfS];decide⟩
def ints_get {xs:List Int}{i:Nat}{v:V}(h:(iL xs)[i]?=some v):∃x,xs[i]?=some x/\v=.int x:=by
 rw[Xn]at h;cases e:xs[i]? with
 | none=>rw[e]at h;cases h
 | some x =>
  rw[e]at h;cases h;exact⟨x,rfl,rfl⟩
def zhR {xs:List Int}{i:Nat}{x:Int}(h:xs[i]?=some x):(iL xs)[i]?=some (.int x):=by
 rw[Xn,h];rfl
def zeC {n:Nat}{k:Int}(h0:0<=k)(h1:k<n):ixN n k=some k.toNat:=by
 unfold ixN;rw[bw h0,bw h1]
def zmx (xs:List Int)(z:Int):iL (xs++[z])=iL xs++[.int z]:=by
 show TU V.int (xs++[z])=_;rw[Xj];rfl
def zbo (c:AA)(k:List (Int×Int)):Bool:=k.any λz=>decide (z=toI c)
def ZY (rs:AE)(part:AD):List (List (Int×Int)):=((Subs.subs part).filter (Grow.fits (nearF rs) (je rs) (Jb rs part) part)).map toL
def zpL:Sp:=λvs H Q _=>∃(fa:Addr) (us:AF) (ks:List (List (Int×Int))) (N:Addr->Prop) (g:Nat),vs=[.ref fa,.int (g:Nat)]/\H fa=some (.lst us)/\jG N H us ks/\(∀k∈ks,k.length<=g)/\g<=64 /\
 ∀(d:Addr) (H':Hp),H d=none->H' d=some (.lst (iL (Cnt.xN g ks)))->zq H H'->Q (.ref d) H'
def zmy:Sp:=λvs H Q _=>∃(fa ca:Addr) (us:AF) (ks:List (List (Int×Int))) (N:Addr->Prop) (g:Nat) (c:AA),vs=[.ref fa,.int (g:Nat),.ref ca]/\H fa=some (.lst us)/\jG N H us ks/\(∀k∈ks,k.length<=g)/\g<=64/\ks.length<=16384/\H ca=some (.tup [.int (c.1:Nat),.int (c.2:Nat)]) /\
 ∀(d:Addr) (H':Hp),H d=none->H' d=some (.lst (iL (Cnt.xN g (ks.filter (zbo c)))))->zq H H'->Q (.ref d) H'
def zqw (CG:Addr):Sp:=λvs H Q E=>∃(a l pa:Addr) (rs:AE) (n:Int) (ups:AF) (part:AD),vs=[.ref a,.ref pa]/\qk H a l rs n/\Rows bd.cps.toList rs/\H pa=some (.lst ups)/\Cel H ups part/\part.Nodup/\part.length<=64/\(14<part.length->∀H',zq H H'->E (.ref CG) none H')/\(part.length<=14 ->
 ∀(d:Addr) (H':Hp),H d=none->H' d=some (.lst (iL (Cnt.xN part.length (ZY rs part))))->zq H H'->Q (.ref d) H')
def zfT (n:Nat):(WP n [V.int 0]).flatten=iL (WP n 0):=by
 induction n with
 | zero=>rfl
 | succ n ih =>
  rw[Vz,WH,ih];rfl
theorem zfU {α:Type}:∀(cs:List α) (b:Nat),(Subs.pick cs b).length<=cs.length
 | [],_=>W7 _
 | c::r,b=>by
  have:=zfU r (b/2);show ((if b%2=1 then [c] else [])++Subs.pick r (b/2)).length<=r.length+1;rw[XS];split
  .show 1+_<=_;lia
  .show 0+_<=_;lia
def zkV {α:Type}{cs q:List α}(h:q∈Subs.subs cs):q.length<=cs.length:=by
 rw[Subs.zaP]at h;obtain⟨b,_,rfl⟩:=XO.mp h;exact zfU cs b
def zcB {rs:AE}{part:AD}{k:List (Int×Int)}(h:k∈ZY rs part):k.length<=part.length:=by
 obtain⟨q1,h1,rfl⟩:=XO.mp h;show (q1.map toI).length<=_;rw[Y1];exact zkV (XX.mp h1).1
def zi9 {rs:AE}{part:AD}(h:part.length<=14):(ZY rs part).length<=16384:=by
 unfold ZY;rw[Y1];refine X0 (Xa _ _) ?_;rw[Subs.zaP,Y1,W4];exact X0 (Uk (by decide) h) (by decide)
def Qo:zH ["found","greatest","counts","laying"] ["found","greatest"] (zj Zm):=bz
def Qp (T:Txt mg)(D:zu K mg "counted" Zm ["found","greatest"] f fd):ql P w K mg base CX0 1 f fd ["found","greatest"] zpL:=by
 refine D.F.ok Qo (λvs H Q E h=>?_) (λcdv A outer s H vs Q E hr h=>?_)
 .obtain⟨fa,us,ks,N,g,rfl,_⟩:=h;rfl
 .obtain⟨fa,us,ks,N,g,rfl,hfa,hL,hk,g64,q⟩:=h;refine⟨_,(@zf _ _ _ _ _ (@zv _ _ 2 _ _ _ _ Qo.nd rfl (XD rfl) (@zD _ _ _ _ _ _ _ _ zjz (@qf _ _ _ _ (@za _ _ _ _ _ zm zc rfl)) (zD qm (pvS 1) zm)) (by rfl) (.inr rfl)) (zf (qq W3 rfl (z4 (pvS 0)) (zo (i:=3) Qo.nd rfl (XD rfl)) (zg (zho (pvS 2) (zp zJ (by rfl) T.jK WL (za (pvS 3) zc)) ze6 zm zjv set_list))) (zg (zL (pvS 2))))),?_⟩;(try dsimp only[cxK,cxP,cxW]);refine⟨sz_1,λl0 hl0=>?_⟩;have s0:zq H (upd H l0 (.lst [.int 0])):=ze hl0;refine⟨_,rfl,_,_,rfl,rfl,l0,_,_,rfl,rfl,zd,by lia,by lia,?_,λp hp=>?_⟩
  .exact X0 (show 1*((g:Int)+1).toNat<=120 by lia) (by decide)
  rw[show ((g:Int)+1).toNat=g+1 by lia,zfT,<- Cnt.zkq (α:=Int×Int)];have s1:=s0.trans (ze (o:=.lst (iL (Cnt.xN g ([]:List (List (Int×Int)))))) hp);have hp0:H p=none:=s0.free hp;refine⟨_,rfl,fa,rfl,⟨_,SqL.of (s1 _ _ hfa)⟩,?_⟩;refine xw (K:=K) (a:=fa) (xs:=us) (λi σ H'=>∃v3,σ=[some (.ref fa),some (.int (g:Nat)),some (.ref p),v3]/\zq H H'/\H' p=some (.lst (iL (Cnt.xN g (ks.take i)))))
   ⟨_,rfl,s1,zd⟩ (λi σ H' _ ⟨_,_,y,_⟩=>SqL.of (y _ _ hfa)) ?_ ?_
  .rintro i v σ H1 hv ⟨v3,rfl,s2,hp2⟩;obtain⟨k,a1,wa,hk1,rfl,_,ha1,t1⟩:=zaf hL hv;have kl:=hk k (XZ hk1);have wl:=zfL t1;refine⟨_,rfl,_,rfl,a1,wa,rfl,.inl (SqL.of (s2 _ _ ha1)),p,_,_,_,rfl,rfl,SqL.of hp2,jW (by lia) (zhR (Cnt.zck (n:=wa.length) _ (by lia))),_,_,rfl,rfl,p,_,_,_,rfl,rfl,hp2,zeC (by lia) (by rw[Y1,Cnt.Q5];lia),?_⟩;refine⟨_,rfl,λc o e=>?_,?_⟩
   .rw[zk (zh e hp0)];exact s2 _ _ e
   .rw[zd,Xh,hk1];show _=some (HO.lst (iL (Cnt.xN g (ks.take i++[k]))));rw[Cnt.ziW _ kl,wl];show some (HO.lst ((TU V.int _).set _ (V.int _)))=_;rw[<- NC];rfl
  .rintro σ H1 ⟨v3,rfl,s2,hp2⟩;rw[jA hL,XB]at hp2;exact⟨_,rfl,q p H1 hp0 hp2 s2⟩
def zcC:zH ["board","part"] ["board","part"] (zj yY):=bz
def zcD {jaj:Addr}(T:Txt mg)(Z:Prog K mg)(jat:qv K mg "TooGreat" jaj){f:Addr}{fd:Xc}(D:zu K mg "part_counts" yY ["board","part"] f fd):ql P w K mg base (CXE P w) 5 f fd ["board","part"] (zqw jaj):=by
 obtain⟨Yt,Z7,qA⟩:=Z.part_layings;obtain⟨zdS,zcE,jB⟩:=Z.counted;refine D.F.okX zcC (λvs H Q E h=>?_) (λcdv A outer s H vs Q E hr h=>?_)
 .obtain⟨a,l,pa,rs,n,ups,part,rfl,_⟩:=h;rfl
 .obtain⟨a,l,pa,rs,n,ups,part,rfl,b,R,hpa,hcp,pnd,p64,qg,q⟩:=h;refine⟨_,(zg (zL (pc0 (Qp T jB) hr jB (za (pcL jM (Z6 T Z jat qA) hr qA (za (pvS 0) (za (pvS 1) zc))) (za (zp zJ (by rfl) T.jK WL (za (pvS 1) zc)) zc))))),?_⟩;(try dsimp only[cxK,cxP,cxW]);refine⟨_,rfl,_,rfl,a,l,pa,rs,n,ups,part,rfl,b,R,hpa,hcp,pnd,p64,qg,λpl d ws ks H1 hd hd1 hL _ hpm _ s1=>?_⟩;refine⟨_,rfl,pa,ups,rfl,.inl (SqL.of (s1 _ _ hpa)),d,ws,ks,_,ups.length,rfl,hd1,hL,λk hk=>?_,?_,λe H2 he he2 s2=>?_⟩
  .rw[hcp.length];exact zcB (hpm.mem_iff.mp hk)
  .rw[hcp.length];lia
  .rw[hcp.length,Cnt.zaQ hpm]at he2;exact q pl e H2 (s1.free he) he2 (s1.trans s2)
def qH (rs:AE)(g S:AD):Bool:=Grow.fits (nearF rs) (je rs) (Jb rs g) g S
def YT {rs:AE}{o x:AA}:nearF rs o x=true↔x∈zE rs o:=Parts.Q4 _ _
def zkW {rs:AE}{x:AA}(h:x∈zM rs):Cells.sgn (codes rs) x=63:=by
 obtain⟨t,k,ht,hj,hk,es⟩:=zK h;have:k=63:=by
  unfold jV at hk;simpa using hk
 rw[es,this]
def Jd {rs:AE}{o x:AA}(hx:x∈zM rs):nearF rs o x=true↔x∈clA rs o:=by
 rw[YT];constructor
 .exact λh=>XX.mpr ⟨h,br (zkW hx)⟩
 .exact λh=>(XX.mp h).1
def zeD {rs:AE}{g:AD}{o:AA}:o∈Jb rs g↔o∈zR rs/\∃x∈g,nearF rs o x=true:=by
 unfold Jb;rw[XX,TY,Wm];refine and_congr_right λ_=>?_;constructor
 .rintro⟨z,hz,h⟩;have h':(g.any λx=>decide (x=z))=true:=h;exact⟨z,(Parts.Q4 _ _).mp h',YT.mpr hz⟩
 .rintro⟨x,hx,h⟩;exact⟨x,YT.mp h,(Parts.Q4 _ _).mpr hx⟩
section
variable {rs:AE}{gs:List AD}(G:Parts.Good (clA rs) (zR rs) gs)
include G
theorem yF:∀c∈gs.flatten,c∈zM rs:=λc hc=>by
 obtain⟨o,_,h⟩:=G.from_ c hc;exact xF h
theorem zmz {g:AD}(hg:g∈gs){o x:AA}(ho:o∈Jb rs g)(hx:x∈zM rs)(hn:nearF rs o x=true):x∈g:=by
 obtain⟨h1,y,hy,h2⟩:=zeD.mp ho;have hys:=yF G y (Wy.mpr ⟨g,hg,hy⟩);have hyc:=(Jd hys).mp h2;obtain⟨g',hg',hall⟩:=G.cov o h1 (Uy hyc);have e:=Parts.zaN G.nd hg' hg (hall y hyc) hy;rw[<- e];exact hall x ((Jd hx).mp hn)
theorem zhS {g:AD}(hg:g∈gs){o:AA}(ho:o∈Jb rs g){a:AD}(h:∀c∈a,c∈zM rs/\c ∉ g):Grow.cnt (nearF rs) o a=0:=by
 unfold Grow.cnt;rw[UU,VS];intro c hc hn;exact(h c hc).2 (zmz G hg ho (h c hc).1 hn)
theorem zah {g:AD}(hg:g∈gs):Tally.Loc (zM rs) (qH rs g) g:=by
 have key:∀S S':AD,(∀o∈Jb rs g,Grow.cnt (nearF rs) o S=Grow.cnt (nearF rs) o S')->qH rs g S=qH rs g S':=λS S' h=>by
  unfold qH Grow.fits;rw[Ww,Wx,Wx];constructor
  .intro k o ho;have:=k o ho;rwa [h o (XX.mp ho).1]at this
  .intro k o ho;have:=k o ho;rwa [<- h o (XX.mp ho).1]at this
 have app:∀(o:AA) (a b:AD),Grow.cnt (nearF rs) o (a++b)=Grow.cnt (nearF rs) o a+Grow.cnt (nearF rs) o b:=λo a b=>by
  unfold Grow.cnt;rw[W8,XS]
 refine⟨λa b h=>key _ _ λo ho=>?_,λa b h=>key _ _ λo ho=>?_⟩
 .rw[app,zhS G hg ho h,VL]
 .rw[app,zhS G hg ho h,Sx]
theorem zfV:(gs.map λg=>Tally.tl g (qH rs g)).foldl Pour.JY [1]=Tally.tl gs.flatten (Tally.jR (qH rs) gs):=Tally.zgK G.nd (yF G) λg hg=>zah G hg
theorem zja (i:Nat):((gs.take i).map λg=>Tally.tl g (qH rs g)).foldl Pour.JY [1]=Tally.tl (gs.take i).flatten (Tally.jR (qH rs) (gs.take i)):=by
 have sub:(gs.take i).flatten.Sublist gs.flatten:=by
  have e:gs.flatten=(gs.take i).flatten++(gs.drop i).flatten:=by rw[<- Wi,WF]
  rw[e];exact Ue _ _
 exact Tally.zgK (G.nd.sublist sub) (λc hc=>yF G c (sub.subset hc)) λg hg=>zah G (Wq hg)
theorem Zv (R:Rows bd.cps.toList rs):gs.flatten.length<=64:=by
 have h1:=Parts.yg G.nd (yF G);have h2:=zdK R;lia
end
def zdT (rs:AE)(part:AD):Cnt.xN part.length (ZY rs part)=Tally.tl part (qH rs part):=by
 unfold ZY;rw[Tally.zfD part.length toL (λk=>Y1 _)];exact Tally.zhO part _
def zjb (xs:List Int):Prop:=∀z∈xs,z.natAbs<2^8000
def zmA {cs:AD}{p:AD->Bool}{k:Nat}(h:cs.length<=64):Tally.T cs p k<=2^64:=by
 refine X0 List.countP_le_length ?_;rw[Subs.zaP,Y1,W4];exact Uk (by decide) h
def ZZ {cs:AD}{p:AD->Bool}(h:cs.length<=64):zjb (Tally.tl cs p):=λz hz=>by
 unfold Tally.tl at hz;obtain⟨k,_,rfl⟩:=XO.mp hz;rw[Rh];exact Xx (zmA h) (Oh (by decide) (by decide))
def Zw (rs:AE)(S:AD):Bool:=((zR rs).filter λo=>!(clA rs o).isEmpty).all λo=>decide (((Grow.cnt (nearF rs) o S:Nat):Int)=je rs o)
def Je {rs:AE}{S:AD}:Zw rs S=true ↔ ∀o∈zR rs,clA rs o ≠ []->((Grow.cnt (nearF rs) o S:Nat):Int)=je rs o:=by
 unfold Zw;rw[Wx];constructor
 .intro h o ho hc;exact bh (h o (XX.mpr ⟨ho,by rw[Wu];exact VA.mpr hc⟩))
 .intro h o ho;obtain⟨h1,h2⟩:=XX.mp ho;rw[Wu]at h2;exact br (h o h1 (VA.mp h2))
def za1 {rs:AE}{gs:List AD}(G:Parts.Good (clA rs) (zR rs) gs)(S:AD):Tally.jR (qH rs) gs S=Zw rs S:=by
 rw[Ww,Je];unfold Tally.jR qH Grow.fits;rw[Wx];constructor
 .intro h o ho hc;obtain⟨x,hx⟩:=VU _ hc;obtain⟨g,hg,hall⟩:=G.cov o ho hc;have hn:nearF rs o x=true:=(Jd (xF hx)).mpr hx;have:=h g hg;rw[Wx]at this;exact bh (this o (XX.mpr ⟨zeD.mpr ⟨ho,x,hall x hx,hn⟩,Wm.mpr ⟨x,hall x hx,hn⟩⟩))
 .intro h g hg;rw[Wx];intro o ho;obtain⟨h1,x,hx,hn⟩:=zeD.mp (XX.mp ho).1;have hxs:=yF G x (Wy.mpr ⟨g,hg,hx⟩);exact br (h o h1 (Uy ((Jd hxs).mp hn)))
def zkX {rs:AE}{gs:List AD}(G:Parts.Good (clA rs) (zR rs) gs){c:AA}:c∈gs.flatten↔c∈zM rs/\∃o∈zR rs,nearF rs o c=true:=by
 constructor
 .intro h;obtain⟨o,ho,hc⟩:=G.from_ c h;have hs:=xF hc;exact⟨hs,o,ho,(Jd hs).mpr hc⟩
 .rintro⟨hs,o,ho,hn⟩;have hc:=(Jd hs).mp hn;obtain⟨g,hg,hall⟩:=G.cov o ho (Uy hc);exact Wy.mpr ⟨g,hg,hall c hc⟩
def qE (rs:AE)(S:AD):Bool:=(zR rs).all λo=>decide (((Grow.cnt (nearF rs) o S:Nat):Int)=je rs o)
def yM {rs:AE}{S:AD}:qE rs S=true ↔ ∀o∈zR rs,((Grow.cnt (nearF rs) o S:Nat):Int)=je rs o:=by
 unfold qE;rw[Wx];exact⟨λh o ho=>bh (h o ho),λh o ho=>br (h o ho)⟩
def Qq (rs:AE):Tally.Inv (qE rs):=λa b e=>by
 rw[Ww,yM,yM];have:∀o,Grow.cnt (nearF rs) o a=Grow.cnt (nearF rs) o b:=λo=>(e.filter _).length_eq;constructor
 .intro h o ho;rw[<- this o];exact h o ho
 .intro h o ho;rw[this o];exact h o ho
def zkY {rs:AE}:(jF rs).isEmpty=true ↔ ∀o∈zR rs,clA rs o=[]->je rs o=0:=by
 rw[List.isEmpty_iff];unfold jF je;rw[VS];constructor
 .intro h o ho hc;have:=h o (XX.mpr ⟨ho,by rw[hc];rfl⟩);rw[Wu,Bool.not_eq_false]at this;rw[bh this];rfl
 .intro h o ho;obtain⟨h1,h2⟩:=XX.mp ho;have:=h o h1 (List.isEmpty_iff.mp h2);rw[Wu,Bool.not_eq_false];exact br (by lia)
def zai {rs:AE}{S:AD}(hS:∀c∈S,c∈zM rs):qE rs S=((jF rs).isEmpty&&Zw rs S):=by
 have z:∀o,clA rs o=[]->Grow.cnt (nearF rs) o S=0:=λo ho=>by
  unfold Grow.cnt;rw[UU,VS];intro c hc hn;have:=(Jd (hS c hc)).mp hn;rw[ho]at this;cases this
 rw[Ww,WG,yM,zkY,Je];constructor
 .intro h;refine⟨λo ho hc=>?_,λo ho _=>h o ho⟩;rw[<- h o ho,z o hc];rfl
 .rintro⟨h1,h2⟩ o ho;by_cases hc:clA rs o=[]
  .rw[z o hc,h1 o ho hc];rfl
  .exact h2 o ho hc
def zhT {rs:AE}{c o:AA}(hc:c∈jT rs)(ho:o∈zR rs):nearF rs o c=false:=by
 unfold jT at hc;have h:=(XX.mp hc).2;rw[Wu,TY,P0]at h;exact WX.mpr (h o ho)
def zcF {rs:AE}{a b:AD}(hb:∀c∈b,c∈jT rs):Zw rs (a++b)=Zw rs a:=by
 have e:∀o∈zR rs,Grow.cnt (nearF rs) o (a++b)=Grow.cnt (nearF rs) o a:=λo ho=>by
  unfold Grow.cnt;rw[W8,XS];have:b.filter (nearF rs o)=[]:=VS.mpr λc hc hn=>by
   rw[zhT (hb c hc) ho]at hn;cases hn
  rw[this];rfl
 rw[Ww,Je,Je];constructor
 .intro h o ho hc;rw[<- e o ho];exact h o ho hc
 .intro h o ho hc;rw[e o ho];exact h o ho hc
def zaj {rs:AE}{c:AA}(h:c∈jT rs):c∈zM rs:=(XX.mp h).1
def Z0 (rs:AE):(zM rs).Nodup:=yh (Cells.jP _ 0 (codes rs))
def zdU (rs:AE):(jT rs).Nodup:=(Z0 rs).sublist Wj
section
variable {rs:AE}{gs:List AD}(G:Parts.Good (clA rs) (zR rs) gs)
include G
theorem zak {c:AA}:c∈jT rs↔c∈zM rs/\c ∉ gs.flatten:=by
 rw[zkX G];constructor
 .intro h;refine⟨zaj h,?_⟩;rintro⟨_,o,ho,hn⟩;rw[zhT h ho]at hn;cases hn
 .rintro⟨h1,h2⟩;unfold jT;refine XX.mpr ⟨h1,?_⟩;rw[Wu,TY,P0];intro o ho hn;exact h2 ⟨h1,o,ho,hn⟩
theorem za2:(zM rs).Perm (gs.flatten++jT rs):=by
 refine(Vf (Z0 rs) (VG.mpr ⟨G.nd,zdU rs,λa ha b hb e=>?_⟩)).mpr λc=>?_
 .subst e;exact((zak G).mp hb).2 ha
 .rw[XR,zak G];constructor
  .intro h;by_cases hc:c∈gs.flatten
   .exact .inl hc
   .exact .inr ⟨h,hc⟩
  .rintro(h | h)
   .exact yF G c h
   .exact h.1
theorem count_is (s:Nat):(if (jF rs).isEmpty=true then Tally.dl (Tally.tl gs.flatten (Tally.jR (qH rs) gs)) (jT rs).length ((s:Nat):Int) else 0)=((Tally.T (zM rs) (qE rs) s:Nat):Int):=by
 rw[Tally.zaT (za2 G) (Qq rs)];have key:∀a∈Subs.subs gs.flatten,∀b∈Subs.subs (jT rs),qE rs (a++b)=((jF rs).isEmpty&&Tally.jR (qH rs) gs a):=λa ha b hb=>by
  have sa:=(Tally.jQ ha).subset;have sb:=(Tally.jQ hb).subset;rw[zai λc hc=>(XR.mp hc).elim (λh=>yF G c (sa h)) λh=>zaj (sb h),zcF λc hc=>sb hc,za1 G]
 cases hb:(jF rs).isEmpty with
 | true =>
  rw[bw rfl];refine Tally.zna (λa ha b hb'=>?_) s;rw[key a ha b hb',hb,S6]
 | false =>
  rw[bq (by decide),Tally.zbG λS hS=>?_]
  .rfl
  .rw[Tally.Q7]at hS;obtain⟨b,hb',hS⟩:=T4.mp hS;obtain⟨a,ha,rfl⟩:=XO.mp hS;rw[key a ha b hb',hb,Tt]
theorem zkZ (c:AA):Tally.Inv λS=>qE rs S&&decide (c∈S):=λa b e=>by
 show (qE rs a&&decide (c∈a))=(qE rs b&&decide (c∈b));rw[Qq rs a b e,show decide (c∈a)=decide (c∈b) from decide_eq_decide.mpr e.mem_iff]
theorem zow {c:AA}(hc:c∈jT rs)(s:Nat):(if (jF rs).isEmpty=true then Tally.dl (Tally.tl gs.flatten (Tally.jR (qH rs) gs)) ((jT rs).length-1) (((s:Nat):Int)-1) else 0)=((Tally.T (zM rs) (λS=>qE rs S&&decide (c∈S)) s:Nat):Int):=by
 rw[Tally.zaT (za2 G) (zkZ G c)];have key:∀a∈Subs.subs gs.flatten,∀b∈Subs.subs (jT rs),(qE rs (a++b)&&decide (c∈a++b))=((jF rs).isEmpty&&(Tally.jR (qH rs) gs a&&decide (c∈b))):=λa ha b hb=>by
  have sa:=(Tally.jQ ha).subset;have sb:=(Tally.jQ hb).subset;have e:decide (c∈a++b)=decide (c∈b):=decide_eq_decide.mpr ⟨λh=>(XR.mp h).elim (λh=>absurd (sa h) ((zak G).mp hc).2) id,λh=>XC _ h⟩;rw[zai λc hc=>(XR.mp hc).elim (λh=>yF G c (sa h)) λh=>zaj (sb h),zcF λc hc=>sb hc,za1 G,e,Ss]
 cases hb:(jF rs).isEmpty with
 | true =>
  rw[bw rfl];refine Tally.zmo hc (zdU rs) (λa ha b hb'=>?_) s;rw[key a ha b hb',hb,S6];exact congrArg _ (decide_eq_decide.mpr Iff.rfl)
 | false =>
  rw[bq (by decide),Tally.zbG λS hS=>?_]
  .rfl
  .rw[Tally.Q7]at hS;obtain⟨b,hb',hS⟩:=T4.mp hS;obtain⟨a,ha,rfl⟩:=XO.mp hS;rw[key a ha b hb',hb,Tt]
end
def zeE (A B:List AD)(g:AD):(A++g::B).flatten.Perm ((A++B).flatten++g):=by
 rw[Wi,Wi,WH,W0];exact(TJ (l₁:=g) (l₂:=B.flatten)).append_left _
def zhU {rs:AE}{A B:List AD}{g:AD}(G:Parts.Good (clA rs) (zR rs) (A++g::B)){c:AA}(hc:c∈g):Pour.JY (Tally.tl (A++B).flatten (Tally.jR (qH rs) (A++B))) (Tally.tl g λS=>qH rs g S&&decide (c∈S))=Tally.tl ((A++B).flatten++g) λS=>Tally.jR (qH rs) (A++B) S&&(qH rs g S&&decide (c∈S)):=by
 have hp:=zeE A B g;have nd:((A++B).flatten++g).Nodup:=hp.nodup_iff.mp G.nd;have hU:∀x∈(A++B).flatten++g,x∈zM rs:=λx hx=>yF G x (hp.mem_iff.mpr hx);have hgm:g∈A++g::B:=by simp
 have hAB:∀x∈A++B,x∈A++g::B:=λx hx=>by
  rcases XR.mp hx with h | h
  .exact Xi _ h
  .exact XC _ (XV _ h)
 have L:=zah G hgm;have Lc:Tally.Loc (zM rs) (λS=>qH rs g S&&decide (c∈S)) g:=by
  refine⟨λa b h=>?_,λa b h=>?_⟩
  .show (qH rs g (a++b)&&decide (c∈a++b))=(qH rs g b&&decide (c∈b));rw[L.l a b h,show decide (c∈a++b)=decide (c∈b) from decide_eq_decide.mpr ⟨λk=>(XR.mp k).elim (λk=>absurd hc (h c k).2) id,λk=>XC _ k⟩]
  .show (qH rs g (a++b)&&decide (c∈a++b))=(qH rs g a&&decide (c∈a));rw[L.r a b h,show decide (c∈a++b)=decide (c∈a) from decide_eq_decide.mpr ⟨λk=>(XR.mp k).elim id λk=>absurd hc (h c k).2,λk=>Xi _ k⟩]
 exact Tally.zco nd hU (λx hx=>zah G (hAB x hx)) Lc
def zmB {rs:AE}{A B:List AD}{g:AD}(G:Parts.Good (clA rs) (zR rs) (A++g::B)){c:AA}(hc:c∈g)(s:Nat) :
  (if (jF rs).isEmpty=true then Tally.dl (Pour.JY (Tally.tl (A++B).flatten (Tally.jR (qH rs) (A++B))) (Tally.tl g λS=>qH rs g S&&decide (c∈S))) (jT rs).length ((s:Nat):Int) else 0)=((Tally.T (zM rs) (λS=>qE rs S&&decide (c∈S)) s:Nat):Int):=by
 have hp:=zeE A B g;have hU:∀x∈(A++B).flatten++g,x∈zM rs:=λx hx=>yF G x (hp.mem_iff.mpr hx);have hgm:g∈A++g::B:=by simp
 rw[zhU G hc];have hP:(zM rs).Perm ((A++B).flatten++g++jT rs):=(za2 G).trans (hp.append_right _);rw[Tally.zaT hP (zkZ G c)];have key:∀a∈Subs.subs ((A++B).flatten++g),∀b∈Subs.subs (jT rs),(qE rs (a++b)&&decide (c∈a++b))=((jF rs).isEmpty&&(Tally.jR (qH rs) (A++B) a&&(qH rs g a&&decide (c∈a)))):=λa ha b hb=>by
  have sa:=(Tally.jQ ha).subset;have sb:=(Tally.jQ hb).subset;have e:decide (c∈a++b)=decide (c∈a):=decide_eq_decide.mpr ⟨λh=>(XR.mp h).elim id λh=>absurd (Wy.mpr ⟨g,hgm,hc⟩) ((zak G).mp (sb h)).2,λh=>Xi _ h⟩;have ep:Tally.jR (qH rs) (A++g::B) a=(Tally.jR (qH rs) (A++B) a&&qH rs g a):=by
   rw[Tally.zcn,Tally.zcn];show (_&&(qH rs g a&&Tally.jR (qH rs) B a))=_;rw[PL (qH rs g a),Ss]
  rw[zai λc hc=>(XR.mp hc).elim (λh=>hU c (sa h)) λh=>zaj (sb h),zcF λc hc=>sb hc,<- za1 G,ep,e,Ss,Ss]
 cases hb:(jF rs).isEmpty with
 | true =>
  rw[bw rfl];refine Tally.zna (λa ha b hb'=>?_) s;show (qE rs (a++b)&&decide (c∈a++b))=_;rw[key a ha b hb',hb,S6]
 | false =>
  rw[bq (by decide),Tally.zbG λS hS=>?_]
  .rfl
  .rw[Tally.Q7]at hS;obtain⟨b,hb',hS⟩:=T4.mp hS;obtain⟨a,ha,rfl⟩:=XO.mp hS;rw[key a ha b hb',hb,Tt]
def zox (K:XY):Sp:=λvs H Q _=>∃(a b:Addr) (xs ys:List Int),vs=[.ref a,.ref b]/\SqL K H a (iL xs)/\SqL K H b (iL ys)/\1<=xs.length/\xs.length<=70/\1<=ys.length/\ys.length<=70/\zjb xs/\zjb ys /\
 ∀(l:Addr) (H':Hp),H l=none->H' l=some (.lst (iL (Pour.JY xs ys)))->zq H H'->Q (.ref l) H'
def yJ (H:Hp):AF->List (List Int)->Prop:=WU λv xs=>∃a,v=V.ref a/\H a=some (.lst (iL xs))
def yN {H H':Hp}(s:zq H H'){us:AF}{xss:List (List Int)}(hp:yJ H us xss):yJ H' us xss:=by
 induction hp with
 | nil=>exact .nil
 | cons q _ ih =>
  obtain⟨a,e,h⟩:=q;exact .cons ⟨a,e,s _ _ h⟩ ih
def YU {H:Hp}{us:AF}{xss:List (List Int)}(h:yJ H us xss):us.length=xss.length:=Paired.length h
def zk0 {H:Hp}{us:AF}{xss:List (List Int)}{i:Nat}{v:V}(h:yJ H us xss)(e:us[i]?=some v):∃xs a,xss[i]?=some xs/\v=V.ref a/\H a=some (.lst (iL xs)):=by
 obtain⟨S,h1,a,h2⟩:=za6 h e;exact⟨S,a,h1,h2⟩
structure zgV (xss:List (List Int)):Prop where
 one:∀xs∈xss,1<=xs.length/\xs.length<=70/\zjb xs
 acc:∀i,1<=((xss.take i).foldl Pour.JY [1]).length/\((xss.take i).foldl Pour.JY [1]).length<=70/\zjb ((xss.take i).foldl Pour.JY [1])
def zoy:Sp:=λvs H Q _=>∃(la:Addr) (us:AF) (xss:List (List Int)),vs=[.ref la]/\H la=some (.lst us)/\yJ H us xss/\zgV xss /\
 ∀(d:Addr) (H':Hp),H d=none->H' d=some (.lst (iL (xss.foldl Pour.JY [1])))->zq H H'->Q (.ref d) H'
def tls (rs:AE)(gs:List AD):List (List Int):=gs.map λg=>Tally.tl g (qH rs g)
def zk1 {rs:AE}(R:Rows bd.cps.toList rs){gs:List AD}(G:Parts.Good (clA rs) (zR rs) gs):zgV (tls rs gs):=by
 have n64:=Zv G R;refine⟨λxs hx=>?_,λi=>?_⟩
 .obtain⟨g,hg,rfl⟩:=XO.mp hx;have gl:g.length<=64:=X0 (VR (V4 hg)) n64;rw[Tally.jJ];exact⟨by lia,by lia,ZZ gl⟩
 .unfold tls;rw[<- Ui,zja G i];have tl64:(gs.take i).flatten.length<=64:=by
   have e:gs.flatten=(gs.take i).flatten++(gs.drop i).flatten:=by rw[<- Wi,WF]
   rw[e,XS]at n64;lia
  rw[Tally.jJ];exact⟨by lia,by lia,ZZ tl64⟩
def zoz (CG:Addr):Sp:=λvs H Q E=>∃(p l:Addr) (rs:AE) (n:Int),vs=[.ref p]/\qk H p l rs n/\Rows bd.cps.toList rs/\(∀gs,Parts.Good (clA rs) (zR rs) gs->(∃g∈gs,14<g.length)->∀H',zq H H'->E (.ref CG) none H') /\
 ∀(d:Addr) (gs:List AD) (H':Hp),H d=none->(∀g∈gs,g.length<=14)->Parts.Good (clA rs) (zR rs) gs->Up2 (heads gs)->H' d=some (.lst (iL (Tally.tl gs.flatten (Tally.jR (qH rs) gs))))->zq H H'->Q (.ref d) H'
def Jl:zH ["one","other","counts","i","many","j","more"] ["one","other"] (zj Q8):=bz
def zdV (T:Txt mg)(D:zu K mg "poured" Q8 ["one","other"] f fd):ql P w K mg base CX0 1 f fd ["one","other"] (zox K):=by
 refine D.F.ok Jl (λvs H Q E h=>?_) (λcdv A outer s H vs Q E hr h=>?_)
 .obtain⟨a,b,xs,ys,rfl,_⟩:=h;rfl
 .obtain⟨a,b,xs,ys,rfl,ha,hb,x1,x2,y1,y2,bx,bY,q⟩:=h;refine⟨_,(@zf _ _ _ _ _ (@zv _ _ 2 _ _ _ _ Jl.nd rfl (XD rfl) (@zD _ _ _ _ _ _ _ _ zjz (@qf _ _ _ _ (@za _ _ _ _ _ zm zc rfl)) (zD yX (zD qm (zp zJ (by rfl) T.jK WL (za (pvS 0) zc)) (zp zJ (by rfl) T.jK WL (za (pvS 1) zc))) zm)) (by rfl) (.inr rfl)) (zf (qq W3 rfl (Jq (by rfl) T.ja (za (pvS 0) zc)) (Jo rfl (zP (zo (i:=3) Jl.nd rfl (XD rfl)) (zP (zo (i:=4) Jl.nd rfl (XD rfl)) jE))) (zg (qq W3 rfl (Jq (by rfl) T.ja (za (pvS 1) zc)) (Jo rfl (zP (zo (i:=5) Jl.nd rfl (XD rfl)) (zP (zo (i:=6) Jl.nd rfl (XD rfl)) jE))) (zg (zho (pvS 2) (zD qm (pvS 3) (pvS 5)) ze6 (zD yW (pvS 4) (pvS 6)) zjv set_list))))) (zg (zL (pvS 2))))),?_⟩;(try dsimp only[cxK,cxP,cxW]);refine⟨sz_1,λl0 hl0=>?_⟩;have s0:zq H (upd H l0 (.lst [.int 0])):=ze hl0;refine⟨_,rfl,a,_,rfl,.inl (s0.seq ha),_,rfl,b,_,rfl,.inl (s0.seq hb),_,_,rfl,rfl,_,_,rfl,rfl,l0,_,_,rfl,rfl,zd,?_,?_,?_,λp hp=>?_⟩
  .rw[Y1,Y1];lia
  .rw[Y1,Y1];lia
  .rw[Y1,Y1];exact X0 (show 1*((xs.length:Int)+(ys.length:Int)-1).toNat<=140 by lia) (by decide)
  have en:(((iL xs).length:Nat)+((iL ys).length:Nat)-1:Int).toNat=xs.length+ys.length-1:=by
   rw[Y1,Y1];lia
  rw[en,zfT,<- Pour.zks];have s1:zq H (upd (upd H l0 (.lst [.int 0])) p (.lst (iL (Pour.st xs ys 0 0)))):=s0.trans (ze hp);have hp0:H p=none:=s0.free hp;refine⟨_,rfl,a,rfl,⟨_,s1.seq ha⟩,?_⟩;refine Jh (K:=K) (l:=a) (xs:=iL xs) (λi σ H'=>∃v3 v4 v5 v6,σ=[some (.ref a),some (.ref b),some (.ref p),v3,v4,v5,v6]/\zq H H'/\H' p=some (.lst (iL (Pour.st xs ys i 0))))
   ⟨_,_,_,_,rfl,s1,zd⟩ (λi σ H' _ ⟨_,_,_,_,_,s,_⟩=>s.seq ha) ?_ ?_
  .rintro i v t σ H1 hv ht ⟨v3,v4,v5,v6,rfl,s2,hp2⟩;obtain⟨x,hx,rfl⟩:=ints_get hv;have st:zq H1 (upd H1 t (.tup [.int (i:Nat),.int x])):=ze ht;refine⟨t,_,rfl,SqT.of zd,rfl,_,_,rfl,_,_,rfl,rfl,?_⟩;refine⟨_,rfl,b,rfl,⟨_,(s2.trans st).seq hb⟩,?_⟩;refine Jh (K:=K) (l:=b) (xs:=iL ys) (λj σ H'=>∃v5 v6,σ=[some (.ref a),some (.ref b),some (.ref p),some (.int (i:Nat)),some (.int x),v5,v6]/\zq H H'/\H' p=some (.lst (iL (Pour.st xs ys i j))))
    ⟨_,_,rfl,s2.trans st,st _ _ hp2⟩ (λj σ H' _ ⟨_,_,_,s,_⟩=>s.seq hb) ?_ ?_
   .rintro j v t2 σ H2 hv2 ht2 ⟨v5,v6,rfl,s3,hp3⟩;obtain⟨y,hy,rfl⟩:=ints_get hv2;have st2:zq H2 (upd H2 t2 (.tup [.int (j:Nat),.int y])):=ze ht2;have hp4:=st2 _ _ hp3;have hi:i<xs.length:=(XW.mp hx).1;have hj:j<ys.length:=(XW.mp hy).1;have en2:((i:Int)+(j:Int)).toNat=i+j:=by lia
    refine⟨t2,_,rfl,SqT.of zd,rfl,_,_,rfl,_,_,rfl,rfl,?_⟩;refine⟨_,rfl,_,rfl,_,rfl,_,_,rfl,rfl,p,_,_,_,rfl,rfl,SqL.of hp4,jW (by lia) (by rw[en2];exact zhR (Pour.zgH (by lia))),?_⟩;refine⟨_,rfl,_,rfl,_,_,rfl,rfl,zpg (bx _ (XZ hx)) (bY _ (XZ hy)),_,_,rfl,rfl,p,_,_,_,rfl,rfl,hp4,zeC (by lia) (by rw[Y1,Pour.zgG];lia),?_⟩;refine⟨_,_,rfl,λc o e=>?_,?_⟩
    .have hc:c≠p:=λz=>by
      subst z;rw[hp0]at e;cases e
     rw[zk hc];exact st2 _ _ (s3 _ _ e)
    .rw[zd,en2,<- Pour.zmj hx hy];show some (HO.lst ((TU V.int _).set _ (V.int _)))=_;rw[<- NC]
   .rintro σ H2 ⟨v5,v6,rfl,s3,hp3⟩;rw[Y1,Pour.zok]at hp3;exact⟨_,_,_,_,rfl,s3,hp3⟩
  .rintro σ H1 ⟨v3,v4,v5,v6,rfl,s2,hp2⟩;rw[Y1,Pour.zol]at hp2;exact⟨_,rfl,q p H1 hp0 hp2 s2⟩
def xo:zH ["lists","counts","others"] ["lists"] (zj x8):=bz
def J2 (T:Txt mg)(Z:Prog K mg)(D:zu K mg "all_poured" x8 ["lists"] f fd):ql P w K mg base CX0 2 f fd ["lists"] zoy:=by
 obtain⟨zk2,zjc,Yu⟩:=Z.poured;refine D.F.ok xo (λvs H Q E h=>?_) (λcdv A outer s H vs Q E hr h=>?_)
 .obtain⟨la,us,xss,rfl,_⟩:=h;rfl
 .obtain⟨la,us,xss,rfl,hla,hx,ok,q⟩:=h;refine⟨_,(@zf _ _ _ _ _ (@zv _ _ 1 _ _ _ _ xo.nd rfl (XD rfl) (@qf _ _ _ _ (@za _ _ _ _ _ zm zc rfl)) (by rfl) (.inr rfl)) (zf (qq W3 rfl (z4 (pvS 0)) (zo (i:=2) xo.nd rfl (XD rfl)) (zg (zv (i:=1) xo.nd rfl (XD rfl) (pc0 (zdV T Yu) hr Yu (za (pvS 1) (za (pvS 2) zc)))))) (zg (zL (pvS 1))))),?_⟩;(try dsimp only[cxK,cxP,cxW]);refine⟨sz_1,λc0 hc0=>?_⟩;have s0:zq H (upd H c0 (.lst [.int 1])):=ze hc0;refine⟨_,rfl,la,rfl,⟨_,SqL.of (s0 _ _ hla)⟩,?_⟩;refine xw (K:=K) (a:=la) (xs:=us) (λi σ H'=>∃(c:Addr) (v2:Option V),σ=[some (.ref la),some (.ref c),v2]/\zq H H'/\H c=none/\H' c=some (.lst (iL ((xss.take i).foldl Pour.JY [1]))))
   ⟨c0,_,rfl,s0,hc0,zd⟩ (λi σ H' _ ⟨_,_,_,y,_⟩=>SqL.of (y _ _ hla)) ?_ ?_
  .rintro i v σ H1 hv ⟨c,v2,rfl,s1,hc,hc1⟩;obtain⟨xs,a1,hxs,rfl,ha1⟩:=zk0 hx hv;obtain⟨o1,o2,o3⟩:=ok.one xs (XZ hxs);obtain⟨p1,p2,p3⟩:=ok.acc i;refine⟨_,rfl,_,rfl,c,a1,_,xs,rfl,SqL.of hc1,SqL.of (s1 _ _ ha1),p1,p2,o1,o2,p3,o3,λd H2 hd hd2 s2=>?_⟩;refine⟨d,_,rfl,s1.trans s2,s1.free hd,?_⟩;rw[hd2,Xh,hxs,Sq];rfl
  .rintro σ H1 ⟨c,v2,rfl,s1,hc,hc1⟩;rw[YU hx,XB]at hc1;exact⟨_,rfl,q c H1 hc hc1 s1⟩
def zcG:zH ["board"] ["board"] (zj jZ):=bz
def zcH {jaj:Addr}(T:Txt mg)(Z:Prog K mg)(jat:qv K mg "TooGreat" jaj)(D:zu K mg "near_counts" jZ ["board"] f fd):ql P w K mg base (CXE P w) 6 f fd ["board"] (zoz jaj):=by
 obtain⟨zcw,zaZ,qb⟩:=Z.around;obtain⟨za0,Qm,zC⟩:=Z.sign_at;obtain⟨Qn,Yr,zG⟩:=Z.cells_of;obtain⟨ZV,J1,zF⟩:=Z.open_cells;obtain⟨Ys,ZW,qJ⟩:=Z.number_at;obtain⟨zag,Y8,Jc⟩:=Z.numbers_of;obtain⟨zcx,zbe,ZX⟩:=Z.needs_at;obtain⟨zdQ,zcy,YS⟩:=Z.may_fit;obtain⟨Yt,Z7,qA⟩:=Z.part_layings;obtain⟨zdS,zcE,jB⟩:=Z.counted;obtain⟨zlz,zk3,xq⟩:=Z.part_counts;obtain⟨Z8,Zx,zY⟩:=Z.closed_around;obtain⟨zk4,zjd,Zt⟩:=Z.joined;obtain⟨zmC,zk5,zal⟩:=Z.parts;obtain⟨zeF,zc6,jt⟩:=Z.all_poured;refine D.F.okX zcG (λvs H Q E h=>?_) (λcdv A outer s H vs Q E hr h=>?_)
 .obtain⟨p,l,rs,n,rfl,_⟩:=h;rfl
 .obtain⟨p,l,rs,n,rfl,b,R,qg,q⟩:=h;refine⟨_,(zg (zL (pc0 (J2 T Z jt) hr jt (za (zkl jM (N:=["part","board"]) (src:=[none,some 0]) (zZ.free (O:=(zj jZ).names) (XN:=["board"]) rfl rfl ⟨_,rfl⟩ rfl rfl (by decide+kernel) (by decide+kernel) (by decide+kernel) rfl (by decide+kernel)) rfl (z4 (pc0 (zfK T zal qb zC zG zF zY Zt) hr zal (za (pvS 0) zc))) (λ_ _ _ _ _=>(zo (i:=0) (by show WZ (["part","board"]:AE);decide+kernel) rfl (XD rfl))) (λ_ _ _ _ _=>qN) (λ_ _ _ _ _=>(QD (zcD T Z jat xq) (hr.mono (by decide)) (by rfl) xq.g xq.F.kp xq.b .nil Q0 (za (pvS 1) (za (pvS 0) zc))))) zc)))),?_⟩;(try dsimp only[cxK,cxP,cxW]);refine⟨_,rfl,p,l,rs,n,rfl,b,R,λd ws gs H1 hd hd1 hG _ _ G up s1=>⟨d,rfl,⟨_,SqL.of hd1⟩,λz hz=>?_⟩⟩;have g64:gs.length<=64:=X0 (Parts.Yn G.ne) (Zv G R);refine qC (K:=K) (a:=d) (xs:=ws) (λj σ' H'=>∃(u0:Option V) (ys:AF),σ'=[u0,some (.ref p)]/\zq H1 H'/\H' z=some (.lst ys)/\(∀v∈ys,∀a,v=V.ref a->a≠z)/\(∀g∈gs.take j,g.length<=14)/\yJ H' ys (tls rs (gs.take j)))
   ⟨_,[],rfl,ze hz,zd,(λ_ h=>nomatch h),(λ_ h=>nomatch h),.nil⟩ (λj σ' H' _ ⟨_,_,_,y,_⟩=>SqL.of (y _ _ hd1)) ?_ ?_
  .rintro j v σ' H2 hv ⟨u0,ys,rfl,s2,hz2,nz,n14,hy2⟩;obtain⟨g,hg,ga,ug,rfl,hga,hcg⟩:=j9.get (hG.mono s2) hv;have gm:=XZ hg;have il:=(XW.mp hg).1;have g64':g.length<=64:=X0 (VR (V4 gm)) (Zv G R);unfold yr;refine zaY ?_;refine⟨_,rfl,_,rfl,p,l,ga,rs,n,ug,g,rfl,(b.mono s1).mono s2,R,hga,hcg,yh (G.srt g gm),g64',λg14 H3 s3=>qg gs G ⟨g,gm,g14⟩ H3 ((s1.trans s2).trans s3),λg14 e H3 he he3 s3=>?_⟩;rw[zdT]at he3;have ez:e≠z:=λy=>by
    subst y;rw[hz2]at he;cases he
   refine⟨_,s3 _ _ hz2,?_,_,ys++[.ref e],rfl,λb o e'=>?_,zd,λv hv a ea=>?_,λg' hg'=>?_,?_⟩
   .rw[YU hy2];unfold tls;rw[Y1,XA];exact Xx (show _<=64 by lia) (by decide)
   .rw[zk (zh e' hz)];exact s3 _ _ (s2 _ _ e')
   .rcases XR.mp hv with hv | hv
    .exact nz v hv a ea
    .have:v=V.ref e:=by simpa using hv
     rw[this]at ea;cases ea;exact ez
   .rw[Xh,hg]at hg';rcases XR.mp hg' with y | y
    .exact n14 g' y
    .have y:g'=g:=by simpa using y
     rw[y];exact g14
   .have t1:tls rs (gs.take (j+1))=tls rs (gs.take j)++[Tally.tl g (qH rs g)]:=by
     unfold tls;rw[Xh,hg,Xj];rfl
    rw[t1];have into:∀{us:AF} {xss:List (List Int)},yJ H3 us xss->(∀v∈us,∀a,v=V.ref a->a≠z)->yJ (upd H3 z (.lst (ys++[.ref e]))) us xss:=by
     intro us xss h;induction h with
     | nil=>exact λ_=>.nil
     | cons h t ih =>
      intro nz;obtain⟨a,rfl,ha⟩:=h;exact .cons ⟨a,rfl,by rw[zk (nz _ X2 a rfl)];exact ha⟩ (ih λv hv=>nz v (XV _ hv))
    exact Paired.snoc (into (yN s3 hy2) nz) ⟨e,rfl,by rw[zk ez];exact he3⟩
  rintro σ' H2 ⟨u0,ys,rfl,s2,hz2,_,n14,hy2⟩;rw[hG.length,XB]at hy2 n14;refine⟨z,ys,tls rs gs,rfl,hz2,hy2,zk1 R G,λe H3 he he3 s3=>?_⟩;have s12:=s1.trans s2;rw[show (tls rs gs).foldl Pour.JY [1]=Tally.tl gs.flatten (Tally.jR (qH rs) gs) from zfV G]at he3;exact q e gs H3 (s12.free he) n14 G up he3 (s12.trans s3)
def chV (n k:Int):Int:=if 0<=k/\k<=n then ((Choose.ch n.toNat k.toNat:Nat):Int) else 0
def zmD (m:Nat)(k:Int):chV (m:Nat) k=Tally.chZ m k:=by
 unfold chV Tally.chZ;rw[WI];by_cases h0:k<0
 .rw[bq (by lia),bw h0]
 .rw[bq h0];by_cases h1:k<=(m:Int)
  .rw[bw ⟨by lia,h1⟩]
  .rw[bq (by lia),Choose.zaR m k.toNat (by lia)];rfl
def zmE {n k:Int}(h:n<=64):(chV n k).natAbs<2^8000:=by
 have h1:(2:Nat)^64<2^8000:=Oh (by decide) (by decide);have hz:(0:Nat)<2^8000:=Xx (W7 _) h1;unfold chV;split
 .rw[Rh];exact Xx (X0 (Choose.zpE _ _) (Uk (by decide) (show n.toNat<=64 by lia))) h1
 .exact hz
def dlV (xs:List Int)(m st:Int):Int:=Pour.S (λk=>Pour.F xs k*chV m (st-(k:Nat))) xs.length
def zeG (xs:List Int)(m:Nat)(st:Int):dlV xs (m:Nat) st=Tally.dl xs m st:=by
 unfold dlV Tally.dl;exact Pour.JQ _ λi _=>by rw[zmD]
theorem znd (h:Nat->Int):∀n,((Xp n).map h).sum=Pour.S h n
 | 0=>rfl
 | n+1=>by
  rw[UN,Xj,List.sum_append,znd h n];show _+(h n+0)=Pour.S h n+h n;lia
def zqx:Sp:=λvs H Q _=>∃(n k:Int),vs=[.int n,.int k]/\n<=64/\Q (.int (chV n k)) H
def zmF:Sp:=λvs H Q _=>∃(c:Addr) (xs:List Int) (m st:Int),vs=[.ref c,.int m,.int st]/\H c=some (.lst (iL xs))/\zjb xs/\xs.length<=150/\m<=64/\∀H',zq H H'->Q (.int (dlV xs m st)) H'
def Yv (rs:AE)(n:Int):Int:=((Tally.T (zM rs) (qE rs) n.toNat:Nat):Int)
def zhV (CG:Addr):Sp:=λvs H Q E=>∃(p l:Addr) (rs:AE) (n:Int),vs=[.ref p]/\qk H p l rs n/\Rows bd.cps.toList rs/\(∀gs,Parts.Good (clA rs) (zR rs) gs->(∃g∈gs,14<g.length)->∀H',zq H H'->E (.ref CG) none H')/\0<=n/\∀gs,Parts.Good (clA rs) (zR rs) gs->(∀g∈gs,g.length<=14)->∀H',zq H H'->Q (.int (Yv rs n)) H'
def Z1:zH ["n","k","found","step"] ["n","k"] (zj YJ):=bz
def zgW (T:Txt mg)(D:zu K mg "choices" YJ ["n","k"] f fd):ql P w K mg base CX0 1 f fd ["n","k"] zqx:=by
 refine D.F.ok Z1 (λvs H Q E h=>?_) (λcdv A outer s H vs Q E hr h=>?_)
 .obtain⟨n,k,rfl,_⟩:=h;rfl
 .obtain⟨n,k,rfl,n1,q⟩:=h;refine⟨_,(zf (jm (zbM (zeV zeu zeu zm (pvS 1) (pvS 0))) (@zg _ _ _ (@zL _ _ _ _ zm)) qp) (@zf _ _ _ _ _ (@zv _ _ 2 _ _ _ _ Z1.nd rfl (XD rfl) zm (by rfl) (.inr rfl)) (zf (qq W3 rfl (qW (by rfl) T.jh (za (pvS 1) zc)) (zo (i:=3) Z1.nd rfl (XD rfl)) (zg (zv (i:=2) Z1.nd rfl (XD rfl) (zD jN (zD yW (pvS 2) (zD yX (pvS 0) (pvS 3))) (zD qm (pvS 3) zm))))) (zg (zL (pvS 2)))))),?_⟩;(try dsimp only[cxK,cxP,cxW]);refine⟨_,rfl,_,_,rfl,rfl,_,rfl,?_⟩;unfold chV at q;refine zcX (λc=>?_) (λc=>?_)
  .have k0:(0:Int)<=k:=bh c;refine⟨_,rfl,_,_,rfl,rfl,_,rfl,?_⟩;by_cases c:k<=n
   .rw[bw ⟨k0,c⟩]at q;rw[br c];refine zbl ?_;refine⟨_,rfl,k,rfl,by lia,by lia,?_⟩;refine qx (lo:=0) (n:=k.toNat) (λi σ H'=>∃v,σ=[some (.int n),some (.int k),some (.int (Choose.ch n.toNat i)),v]/\H'=H) ⟨_,by rw[Choose.YI];rfl,rfl⟩ ?_ ?_
    .rintro i σ H' hi ⟨v,rfl,rfl⟩;refine⟨_,rfl,_,rfl,_,rfl,_,_,rfl,rfl,_,_,rfl,rfl,ze2 (by lia) (by lia),_,rfl,_,_,rfl,rfl,_,_,rfl,rfl,J7.small (by lia) (by lia),?_⟩;refine⟨some (.int (0+(i:Int))),?_,rfl⟩;have e:=Choose.zmk (n:=n.toNat) (k:=i) (by lia);have e1:((n.toNat:Nat):Int)=n:=V1 (by lia);rw[e1]at e;have e2:(Choose.ch n.toNat i:Int)*(n-(0+(i:Int)))/(0+(i:Int)+1)=Choose.ch n.toNat (i+1):=by
      rw[RB];exact e
     show [_,_,some (V.int ((Choose.ch n.toNat i:Int)*(n-(0+(i:Int)))/(0+(i:Int)+1))),_]=_;rw[e2]
    .rintro σ H' ⟨v,rfl,rfl⟩;exact⟨_,rfl,q⟩
   .rw[bq (λh=>c h.2)]at q;rw[bf c];exact Yg q
  .have k0:¬ (0:Int)<=k:=λz=>c (br z);rw[bq (λh=>k0 h.1)]at q;exact⟨_,rfl,Yg q⟩
def zk6:zH ["counts","cells","stones"] ["counts","cells","stones"] (zj Q9):=bz
def zcI (T:Txt mg)(Z:Prog K mg)(D:zu K mg "dealt" Q9 ["counts","cells","stones"] f fd):ql P w K mg base CX0 2 f fd ["counts","cells","stones"] zmF:=by
 obtain⟨zoN,zoA,zdW⟩:=Z.choices;refine D.F.ok zk6 (λvs H Q E h=>?_) (λcdv A outer s H vs Q E hr h=>?_)
 .obtain⟨c,xs,m,st,rfl,_⟩:=h;rfl
 .obtain⟨c,xs,m,st,rfl,hc,bx,xl,m1,q⟩:=h;refine⟨_,(zg (zL (zp (zjI rfl) (by rfl) T.zpF PyProof.Rows.boot_sum (za (qB (N:=["k","many","cells","stones"]) (src:=[none,none,some 1,some 2]) (zZ.free (O:=(zj Q9).names) (XN:=["counts","cells","stones"]) rfl rfl ⟨_,rfl⟩ rfl rfl (by decide+kernel) (by decide+kernel) (by decide+kernel) rfl (by decide+kernel)) rfl (Jq (by rfl) T.ja (za (pvS 0) zc)) (λ_ _ _ _ _=>(zby (n:=2) (K:=K) (by rfl) rfl (zP (zo (i:=0) (by show WZ (["k","many","cells","stones"]:AE);decide+kernel) rfl (XD rfl)) (zP (zo (i:=1) (by show WZ (["k","many","cells","stones"]:AE);decide+kernel) rfl (XD rfl)) jE)))) (λ_ _ _ _ _=>qN) (λ_ _ _ _ _=>(zD yW (pvS 1) (pc0 (zgW T zdW) hr zdW (za (pvS 2) (za (zD yX (pvS 3) (pvS 0)) zc)))))) zc)))),?_⟩;(try dsimp only[cxK,cxP,cxW]);refine⟨_,rfl,c,rfl,⟨_,SqL.of hc⟩,λz hz=>?_⟩;refine zgp (K:=K) (a:=c) (xs:=iL xs) (λi σ H'=>(∃u0 u1,σ=[u0,u1,some (.int m),some (.int st)])/\zq H H'/\H' z=some (.lst (iL ((Xp i).map λk=>Pour.F xs k*chV m (st-(k:Nat)))))) ⟨⟨_,_,rfl⟩,ze hz,zd⟩ (λi σ H' _ ⟨_,s3,_⟩=>SqL.of (s3 _ _ hc)) ?_ ?_
  .rintro i x tt σ H3 hx htt ⟨⟨u0,u1,rfl⟩,s3,hz3⟩;obtain⟨y,hy,rfl⟩:=ints_get hx;have il:=(XW.mp hy).1;have s4:=ze (o:=.tup [.int ((i:Nat):Int),.int y]) htt;refine⟨tt,_,rfl,SqT.of zd,rfl,_,_,rfl,_,_,rfl,rfl,?_⟩;unfold zjD;refine Yg ⟨_,rfl,_,rfl,_,rfl,_,rfl,_,_,rfl,rfl,m,_,rfl,m1,_,_,rfl,rfl,zpg (bx y (XZ hy)) (zmE m1),_,s4 _ _ hz3,?_,⟨_,_,rfl⟩,λb' o e'=>?_,?_⟩
   .rw[Y1,Y1,W4];exact Xu (show i<150 by lia) (by decide)
   .rw[zk (zh e' hz)];exact s4 _ _ (s3 _ _ e')
   .rw[zd,UN,Xj];show _=some (HO.lst (iL (_++[Pour.F xs i*chV m (st-(i:Nat))])));rw[zmx,Pour.zmh hy]
  .rintro σ H3 ⟨_,s3,hz3⟩;refine⟨z,_,rfl,SqL.of hz3,?_⟩;rw[Y1,znd];exact q _ s3
def zfW:zH ["board","near"] ["board"] (zj zbI):=bz
def zfX {jaj:Addr}(T:Txt mg)(Z:Prog K mg)(jat:qv K mg "TooGreat" jaj)(D:zu K mg "count" zbI ["board"] f fd):ql P w K mg base (CXE P w) 7 f fd ["board"] (zhV jaj):=by
 obtain⟨zcw,zaZ,qb⟩:=Z.around;obtain⟨za0,Qm,zC⟩:=Z.sign_at;obtain⟨Qn,Yr,zG⟩:=Z.cells_of;obtain⟨zk7,zje,xE⟩:=Z.closed;obtain⟨ZV,J1,zF⟩:=Z.open_cells;obtain⟨Ys,ZW,qJ⟩:=Z.number_at;obtain⟨Z8,Zx,zY⟩:=Z.closed_around;obtain⟨zpM,zoB,zfY⟩:=Z.far;obtain⟨zeH,zc7,yG⟩:=Z.bare_wrong;obtain⟨zlA,zk8,Y9⟩:=Z.near_counts;obtain⟨zmG,zk9,Z3⟩:=Z.dealt;refine D.F.okX zfW (λvs H Q E h=>?_) (λcdv A outer s H vs Q E hr h=>?_)
 .obtain⟨p,l,rs,n,rfl,_⟩:=h;rfl
 .obtain⟨p,l,rs,n,rfl,b,R,qg,n0,q⟩:=h;refine⟨_,(zf (zv (i:=1) zfW.nd rfl (XD rfl) (pcL jM (zcH T Z jat Y9) hr Y9 (za (pvS 0) zc))) (zf (jm (zQ (ZJ hr.units) (pc0 (Y7 T yG qb zC zG zY zF qJ) hr yG (za (pvS 0) zc)) (@qf _ _ _ _ zc) (qa _)) (@zg _ _ _ (@zL _ _ _ _ zm)) qp) (zg (zL (pc0 (zcI T Z Z3) hr Z3 (za (pvS 1) (za (zp zJ (by rfl) T.jK WL (za (pc0 (zkJ T zfY qb zC zG xE zF) hr zfY (za (pvS 0) zc)) zc)) (za (qt jg (pvS 0) zm (λ_ _=>rfl)) zc)))))))),?_⟩;(try dsimp only[cxK,cxP,cxW]);refine⟨_,rfl,p,l,rs,n,rfl,b,R,qg,λd1 gs H1 hd1 n14 G up zla s1=>?_⟩;have q:=q gs G n14;refine⟨_,rfl,p,l,rs,n,rfl,b.mono s1,R,λd2 w2 H2 hd2 zqy hc2 s2=>⟨Zf,λe he=>?_⟩⟩;have s3:=ze (o:=.lst []) he;have ci:=count_is G n.toNat;rw[V1 n0]at ci;unfold Yv at q;rw[<- ci]at q;refine⟨.list ((jF rs).map zw),.list [],.lst (SqL.of (s3 _ _ zqy)) (zB.rdv (N:=λ_=>True) (Cel.rdn (Cel.mono s3 hc2))),.lst (SqL.of zd) .nil,zcr _ [],_,rfl,?_⟩;have ee:(if true=true then !PyData.eqv (.list ((jF rs).map zw)) (.list []) else WS (.list ((jF rs).map zw)) (.list []))=!(jF rs).isEmpty:=by
   show (!PyData.eqv _ _)=_;rw[eq_nil]
  rw[ee];have s13:=(s1.trans s2).trans s3;have hd13:=s3 _ _ (s2 _ _ zla);generalize upd H2 e (.lst [])=H3 at *
  cases hb:(jF rs).isEmpty with
  | false =>
   rw[hb,bq XT]at q;exact Yg (q _ s13)
  | true =>
   rw[hb,bw rfl]at q;refine zbl ?_;have b3:=b.mono s13;refine⟨_,rfl,_,rfl,p,l,rs,n,rfl,b3,R,λd4 ws4 H4 _ hd4 hc4 s4=>⟨d4,_,rfl,.inl (SqL.of hd4),?_⟩⟩;have hl:=hc4.length;have h64:(jT rs).length<=64:=X0 (Xa _ _) (jz (p:=jV) R);have g64:=Zv G R;refine⟨_,rfl,p,_,1,_,rfl,rfl,SqT.of (b3.mono s4).tp,rfl,d1,_,(ws4.length:Nat),n,rfl,s4 _ _ hd13,ZZ g64,by rw[Tally.jJ];lia,by lia,λH' s'=>?_⟩;rw[hl,zeG];exact q _ ((s13.trans s4).trans s')
def zc8:zH ["found","greatest","cell"] ["found","greatest","cell"] (zj yD):=bz
def zc9 {f1:Addr}{fd1:Xc}(T:Txt mg)(D:zu K mg "counted_at" yD ["found","greatest","cell"] f fd)(jB:zu K mg "counted" Zm ["found","greatest"] f1 fd1):ql P w K mg base CX0 2 f fd ["found","greatest","cell"] zmy:=by
 refine D.F.ok zc8 (λvs H Q E h=>?_) (λcdv A outer s H vs Q E hr h=>?_)
 .obtain⟨fa,ca,us,ks,N,g,c,rfl,_⟩:=h;rfl
 .obtain⟨fa,ca,us,ks,N,g,c,rfl,hfa,hL,hk,g64,kl,hca,q⟩:=h;refine⟨_,(zg (zL (pc0 (Qp T jB) hr jB (za (qB (N:=["laying","cell"]) (src:=[none,some 2]) (zZ.free (O:=(zj yD).names) (XN:=["found","greatest","cell"]) rfl rfl ⟨_,rfl⟩ rfl rfl (by decide+kernel) (by decide+kernel) (by decide+kernel) rfl (by decide+kernel)) rfl (z4 (pvS 0)) (λ_ _ _ _ _=>(zo (i:=0) (by show WZ (["laying","cell"]:AE);decide+kernel) rfl (XD rfl))) (λ_ _ _ _ _=>(qO (zQ (yc (K:=K) (by rfl) hr.units) (pvS 1) (pvS 0) (by rfl)))) (λ_ _ _ _ _=>(pvS 0))) (za (pvS 1) zc))))),?_⟩;(try dsimp only[cxK,cxP,cxW]);refine⟨_,rfl,fa,rfl,⟨_,SqL.of hfa⟩,λz hz=>?_⟩;refine qC (K:=K) (a:=fa) (xs:=us) (λj σ' H'=>∃(u0:Option V) (ys:AF),σ'=[u0,some (.ref ca)]/\zq H H'/\H' z=some (.lst ys)/\jG (λa=>a≠z) H' ys ((ks.take j).filter (zbo c)))
   ⟨_,[],rfl,ze hz,zd,.nil⟩ (λj σ' H' _ ⟨_,_,_,y,_⟩=>SqL.of (y _ _ hfa)) ?_ ?_
  .rintro j v σ' H1 hv ⟨u0,ys,rfl,s1,hz1,hy1⟩;obtain⟨k,a1,wa,hk1,rfl,_,ha1,t1⟩:=zaf hL hv;have jl:j<ks.length:=(XW.mp hk1).1;have e1:(ks.take (j+1)).filter (zbo c)=(ks.take j).filter (zbo c)++if zbo c k=true then [k] else []:=by
    rw[Xh,hk1,W8];congr 1;show Tv _ [k]=_;rw[Wn];split<;>rfl
   refine⟨_,rfl,_,rfl,zw c,k.map pD,.tup (SqT.of (s1 _ _ hca)) (.cons (.int _) (.cons (.int _) .nil)),.lst (SqL.of (s1 _ _ ha1)) (zkO (Zu s1 t1)),rfl,zkP _,(by show 1<=60;decide),_,rfl,?_⟩;have ei:(if false=true then !(k.map pD).any (λz=>WS z (zw c)) else (k.map pD).any λz=>WS z (zw c))=zbo c k:=zou k c;rw[ei];by_cases hh:zbo c k=true
   .rw[bw hh]at e1;refine j8 hh ?_;have yl:ys.length<=16384:=by
     rw[jA hy1];refine X0 (Xa _ _) ?_;rw[XA];lia
    refine⟨_,rfl,ys,hz1,Xx yl (by decide),_,ys++[.ref a1],rfl,λb o e=>?_,zd,?_⟩
    .rw[zk (zh e hz)];exact s1 _ _ e
    .rw[e1];have nz:a1≠z:=zh ha1 hz;exact YO (JB hz1 (λ_ h=>h) hy1) (.cons ⟨a1,wa,rfl,nz,by rw[zk nz];exact s1 _ _ ha1,YN hz1 (Zu s1 t1)⟩ .nil)
   .rw[bq hh,W6]at e1;refine yI (WX.mpr hh) ?_;exact⟨_,ys,rfl,s1,hz1,by rw[e1];exact hy1⟩
  rintro σ' H1 ⟨u0,ys,rfl,s1,hz1,hy1⟩;rw[jA hL,XB]at hy1;refine⟨_,rfl,z,ys,_,_,g,rfl,hz1,hy1,λk hk2=>hk k (XX.mp hk2).1,g64,λd H2 hd hd2 s2=>?_⟩;exact q d H2 (s1.free hd) hd2 (s1.trans s2)
abbrev KV1:=List (List Key×V)
def ju (c:AA):List Key:=[.inl ((c.1:Nat):Int),.inl ((c.2:Nat):Int)]
def zcJ {c d:AA}(h:ju c=ju d):c=d:=by
 unfold ju at h;obtain⟨a,b⟩:=c;obtain⟨x,y⟩:=d;simp only[List.cons.injEq,Sum.inl.injEq,and_true]at h;obtain⟨h1,h2⟩:=h;have e1:a=x:=by lia
 have e2:b=y:=by lia
 rw[e1,e2]
def xH (rs:AE)(n:Int)(c:AA):Int:=((Tally.T (zM rs) (λS=>qE rs S&&decide (c∈S)) n.toNat:Nat):Int)
def zgX {rs:AE}{n:Int}{c:AA}(h:(jF rs).isEmpty=false):xH rs n c=0:=by
 unfold xH;rw[Tally.zbG λS hS=>?_]
 .rfl
 .rw[zai λc hc=>(Tally.jQ hS).subset hc,h];rfl
def zmH (c:AA)(q:AD):zbo c (toL q)=decide (c∈q):=by
 unfold zbo toL;rw[TY,Ww,Wm,bu];constructor
 .rintro⟨x,hx,h⟩;have h':toI x=toI c:=bh h;have:x=c:=by
   unfold toI at h';obtain⟨a,b⟩:=x;obtain⟨d,e⟩:=c;simp only[Prod.mk.injEq]at h';have e1:a=d:=by lia
   have e2:b=e:=by lia
   rw[e1,e2]
  rw[<- this];exact hx
 .intro h;exact⟨c,h,br rfl⟩
def zeI (rs:AE)(g:AD)(c:AA):Cnt.xN g.length ((ZY rs g).filter (zbo c))=Tally.tl g λS=>qH rs g S&&decide (c∈S):=by
 unfold ZY;rw[TQ,Tally.zfD g.length toL (λk=>Y1 _),Ux];have e:(λa=>(zbo c∘toL) a&&Grow.fits (nearF rs) (je rs) (Jb rs g) g a)=λS=>qH rs g S&&decide (c∈S):=by
  funext S;show (zbo c (toL S)&&qH rs g S)=_;rw[zmH,PL]
 rw[e];exact Tally.zhO g _
def Yw {A B:List AD}(h:A.Sublist B):A.flatten.Sublist B.flatten:=by
 induction h with
 | slnil=>exact List.Sublist.refl _
 | cons a _ ih=>rw[WH];exact List.Sublist.trans ih (Qb _ _)
 | cons_cons a _ ih=>rw[WH,WH];exact List.Sublist.append (List.Sublist.refl _) ih
def zhW {rs:AE}{gs A:List AD}(G:Parts.Good (clA rs) (zR rs) gs)(h:A.Sublist gs):(tls rs A).foldl Pour.JY [1]=Tally.tl A.flatten (Tally.jR (qH rs) A) :=
 Tally.zgK (G.nd.sublist (Yw h)) (λc hc=>yF G c ((Yw h).subset hc)) λg hg=>zah G (h.subset hg)
def zoC {rs:AE}(R:Rows bd.cps.toList rs){gs A:List AD}(G:Parts.Good (clA rs) (zR rs) gs)(h:A.Sublist gs):zgV (tls rs A):=by
 have n64:=Zv G R;refine⟨λxs hx=>?_,λi=>?_⟩
 .obtain⟨g,hg,rfl⟩:=XO.mp hx;have gl:g.length<=64:=X0 (VR (V4 (h.subset hg))) n64;rw[Tally.jJ];exact⟨by lia,by lia,ZZ gl⟩
 .have h2:=(Uq i A).trans h;have e:(tls rs A).take i=tls rs (A.take i):=by
   unfold tls;rw[Ui]
  have tl64:(A.take i).flatten.length<=64:=X0 (Yw h2).length_le n64;rw[e,zhW G h2,Tally.jJ];exact⟨by lia,by lia,ZZ tl64⟩
def zlb (rs:AE)(z:Addr)(H:Hp)(v:V)(g:AD):Prop:=∃a ws ks,v=V.ref a/\a≠z/\H a=some (.lst ws)/\jG (λb=>b≠z) H ws ks/\ks.Perm (ZY rs g)
def za3 (rs:AE)(z:Addr)(H:Hp):AF->List AD->Prop:=WU (zlb rs z H)
def JV {rs:AE}{z:Addr}{H H':Hp}(s:zq H H'){us:AF}{gs:List AD}(hp:za3 rs z H us gs):za3 rs z H' us gs:=by
 induction hp with
 | nil=>exact .nil
 | cons q _ ih =>
  obtain⟨a,ws,ks,e,n,h,l,p⟩:=q;exact .cons ⟨a,ws,ks,e,n,s _ _ h,qU s l,p⟩ ih
def zfZ {rs:AE}{z:Addr}{H:Hp}{xs ys:AF}(hz:H z=some (.lst xs)){us:AF}{gs:List AD}(hp:za3 rs z H us gs):za3 rs z (upd H z (.lst ys)) us gs:=by
 induction hp with
 | nil=>exact .nil
 | cons q _ ih =>
  obtain⟨a,ws,ks,e,n,h,l,p⟩:=q;exact .cons ⟨a,ws,ks,e,n,by rw[zk n];exact h,JB hz (λ_ h=>h) l,p⟩ ih
def zdX {rs:AE}{z:Addr}{H:Hp}{us:AF}{gs:List AD}{i:Nat}{v:V}(h:za3 rs z H us gs)(e:us[i]?=some v):∃g,gs[i]?=some g/\zlb rs z H v g:=za6 h e
def zgY {H:Hp}{z:Addr}{o:HO}{us:AF}{ks:List (List Int)}(hp:yJ H us ks)(n:∀v∈us,v≠V.ref z):yJ (upd H z o) us ks:=by
 induction hp with
 | nil=>exact .nil
 | cons q _ ih =>
  obtain⟨a,e,h⟩:=q;exact .cons ⟨a,e,by rw[zk λy=>n _ X2 (by rw[e,y])];exact h⟩ (ih λv hv=>n v (XV _ hv))
theorem zcK {H:Hp}:∀{us:AF} {xss:List (List Int)} (i:Nat),yJ H us xss->yJ H (us.take i) (xss.take i)
 | _,_,0,_=>.nil
 | _,_,_+1,.nil=>.nil
 | _,_,i+1,.cons h t=>.cons h (zcK i t)
theorem zcL {H:Hp}:∀{us:AF} {xss:List (List Int)} (i:Nat),yJ H us xss->yJ H (us.drop i) (xss.drop i)
 | _,_,0,h=>h
 | _,_,_+1,.nil=>.nil
 | _,_,i+1,.cons _ t=>zcL i t
def zjf {H:Hp}{us:AF}{xss:List (List Int)}{us':AF}{xss':List (List Int)}(h:yJ H us xss)(k:yJ H us' xss'):yJ H (us++us') (xss++xss'):=zbX h k
def zhX (kvs:List (List Key×V))(k:List Key)(v:V):(putK kvs k v).length<=kvs.length+1:=by
 unfold putK;split
 .rw[Y1];exact V9 _
 .rw[XS];exact XU _
def zlc (l:List (List Key×V)):(Y0 l).length<=l.length:=by
 have:∀(l acc:List (List Key×V)),(l.foldl (λacc kv=>putK acc kv.1 kv.2) acc).length<=acc.length+l.length:=λl=>by
  induction l with
  | nil=>exact λacc=>XU _
  | cons x r ih =>
   intro acc;rw[VO,XE];have h1:=ih (putK acc x.1 x.2);have h2:=zhX acc x.1 x.2;lia
 have:=this l [];rw[UP,VL]at this;exact this
def zoD (xs:AF){i:Nat}(h:i<=xs.length):QG xs none (some ((i:Nat):Int))=xs.take i:=by
 unfold QG;rw[HT.zbu,OO h];show (xs.drop 0).take (i-0)=_;rw[List.drop_zero,Nat.sub_zero]
def zld (CG:Addr):Sp:=λvs H Q E=>∃(p l:Addr) (rs:AE) (n:Int),vs=[.ref p]/\qk H p l rs n/\Rows bd.cps.toList rs/\(∀gs,Parts.Good (clA rs) (zR rs) gs->(∃g∈gs,14<g.length)->∀H',zq H H'->E (.ref CG) none H')/\0<=n /\
 ∀gs,Parts.Good (clA rs) (zR rs) gs->(∀g∈gs,g.length<=14)->∀(d:Addr) (kvs:List (List Key×V)) (H':Hp),H d=none->H' d=some (.dT kvs)->(∀c∈zM rs,jY kvs (ju c)=some (V.int (xH rs n c)))->zq H H'->Q (.ref d) H'
def zdY (CG:Addr):Sp:=λvs H Q E=>∃(p l ca:Addr) (rs:AE) (n:Int) (c:AA),vs=[.ref p,.ref ca]/\qk H p l rs n/\Rows bd.cps.toList rs/\(∀gs,Parts.Good (clA rs) (zR rs) gs->(∃g∈gs,14<g.length)->∀H',zq H H'->E (.ref CG) none H')/\0<=n/\H ca=some (.tup [.int (c.1:Nat),.int (c.2:Nat)])/\∀gs,Parts.Good (clA rs) (zR rs) gs->(∀g∈gs,g.length<=14)->c∈zM rs/\∀H',zq H H'->Q (.int (xH rs n c)) H'
def zO:zH ["board","pieces","found","counts","rest","at_far","told","place","part","others","cell","near"] ["board"] (zj qL):=bz
def zam {jaj:Addr}(T:Txt mg)(Z:Prog K mg)(jat:qv K mg "TooGreat" jaj)(D:zu K mg "counts_by_cell" qL ["board"] f fd):ql P w K mg base (CXE P w) 7 f fd ["board"] (zld jaj):=by
 obtain⟨zcw,zaZ,qb⟩:=Z.around;obtain⟨za0,Qm,zC⟩:=Z.sign_at;obtain⟨Qn,Yr,zG⟩:=Z.cells_of;obtain⟨zk7,zje,xE⟩:=Z.closed;obtain⟨ZV,J1,zF⟩:=Z.open_cells;obtain⟨Ys,ZW,qJ⟩:=Z.number_at;obtain⟨zag,Y8,Jc⟩:=Z.numbers_of;obtain⟨zcx,zbe,ZX⟩:=Z.needs_at;obtain⟨zdQ,zcy,YS⟩:=Z.may_fit;obtain⟨Yt,Z7,qA⟩:=Z.part_layings;obtain⟨zdS,zcE,jB⟩:=Z.counted;obtain⟨zmI,zlB,zan⟩:=Z.counted_at;obtain⟨Z8,Zx,zY⟩:=Z.closed_around;obtain⟨zk4,zjd,Zt⟩:=Z.joined;obtain⟨zmC,zk5,zal⟩:=Z.parts;obtain⟨zpM,zoB,zfY⟩:=Z.far;obtain⟨zeH,zc7,yG⟩:=Z.bare_wrong;obtain⟨zk2,zjc,Yu⟩:=Z.poured;obtain⟨zeF,zc6,jt⟩:=Z.all_poured;obtain⟨zmG,zk9,Z3⟩:=Z.dealt;refine D.F.okX zO (λvs H Q E h=>?_) (λcdv A outer s H vs Q E hr h=>?_)
 .obtain⟨p,l,rs,n,rfl,_⟩:=h;rfl
 .obtain⟨p,l,rs,n,rfl,b,R,qg,n0,q⟩:=h;have h64:(zM rs).length<=64:=jz R;refine⟨_,(zf (zv (i:=1) zO.nd rfl (XD rfl) (pc0 (zfK T zal qb zC zG zF zY Zt) hr zal (za (pvS 0) zc))) (zf (zkn (i:=2) zO.nd rfl rfl jM (N:=["part","board"]) (src:=[none,some 0]) (zZ.free (O:=(zj qL).names) (XN:=["board","pieces","found","counts","rest","at_far","told","place","part","others","cell","near"]) rfl rfl ⟨_,rfl⟩ rfl rfl (by decide+kernel) (by decide+kernel) (by decide+kernel) rfl (by decide+kernel)) rfl (z4 (pvS 1)) (λ_ _ _ _ _=>(zo (i:=0) (by show WZ (["part","board"]:AE);decide+kernel) rfl (XD rfl))) (λ_ _ _ _ _=>qN) (λ_ _ _ _ _=>(QD (Z6 T Z jat qA) (hr.mono (by decide)) (by rfl) qA.g qA.F.kp qA.b .nil Q0 (za (pvS 1) (za (pvS 0) zc))))) (zf (jm (zQ (ZJ hr.units) (pc0 (Y7 T yG qb zC zG zY zF qJ) hr yG (za (pvS 0) zc)) (@qf _ _ _ _ zc) (qa _)) (zg (zL (ji (Z5 hr.units hr.hd) (by rfl) T.zkz OY (za (qB (N:=["cell"]) (src:=[none]) (zZ.plain rfl (by decide+kernel) (by decide+kernel) (by decide+kernel) rfl (by decide)) rfl (z4 (pc0 (zdG T xE zG zC) hr xE (za (pvS 0) zc))) (λ_ _ _ _ _=>(zo (i:=0) (by show WZ (["cell"]:AE);decide+kernel) rfl (XD rfl))) (λ_ _ _ _ _=>qN) (λ_ _ _ _ _=>(yt (za (pvS 0) (@za _ _ _ _ _ zm zc rfl))))) zc)))) qp) (zf (ZM (i:=3) zO.nd rfl rfl (N:=["part","some"]) (src:=[none,none]) (zZ.plain rfl (by decide+kernel) (by decide+kernel) (by decide+kernel) rfl (by decide)) rfl (znR (by rfl) T.zpG (za (pvS 1) (za (pvS 2) zc))) (λ_ _ _ _ _=>(zby (n:=2) (K:=K) (by rfl) rfl (zP (zo (i:=0) (by show WZ (["part","some"]:AE);decide+kernel) rfl (XD rfl)) (zP (zo (i:=1) (by show WZ (["part","some"]:AE);decide+kernel) rfl (XD rfl)) jE)))) (λ_ _ _ _ _=>qN) (λ_ _ _ _ _=>(pc0 (Qp T jB) hr jB (za (pvS 1) (za (zp (Yl (K:=K) (by rfl)) (by rfl) T.jK WL (za (pvS 0) zc)) zc))))) (zf (zv (i:=4) zO.nd rfl (XD rfl) (pc0 (zkJ T zfY qb zC zG xE zF) hr zfY (za (pvS 0) zc))) (zf (zv (i:=5) zO.nd rfl (TL rfl) (pc0 (zcI T Z Z3) hr Z3 (za (pc0 (J2 T Z jt) hr jt (za (pvS 3) zc)) (za (zD yX (zp zJ (by rfl) T.jK WL (za (pvS 4) zc)) zm) (za (zD yX (qt jg (pvS 0) zm (λ_ _=>rfl)) zm) zc))))) (zf (zv (i:=6) zO.nd rfl (XD rfl) (ji (Z5 hr.units hr.hd) (by rfl) T.zkz OY (za (qB (N:=["cell","at_far"]) (src:=[none,some 5]) (zZ.free (O:=(zj qL).names) (XN:=["board","pieces","found","counts","rest","at_far","told","place","part","others","cell","near"]) rfl rfl ⟨_,rfl⟩ rfl rfl (by decide+kernel) (by decide+kernel) (by decide+kernel) rfl (by decide+kernel)) rfl (z4 (pvS 4)) (λ_ _ _ _ _=>(zo (i:=0) (by show WZ (["cell","at_far"]:AE);decide+kernel) rfl (XD rfl))) (λ_ _ _ _ _=>qN) (λ_ _ _ _ _=>(yt (za (pvS 0) (za (pvS 1) zc))))) zc))) (zf (qq (jC.own jM) rfl (Jq (by rfl) T.ja (za (pvS 1) zc)) (Jo rfl (zP (zo (i:=7) zO.nd rfl (XD rfl)) (zP (zo (i:=8) zO.nd rfl (XD rfl)) jE))) (zf (zv (i:=9) zO.nd rfl (XD rfl) (pc0 (J2 T Z jt) hr jt (za (zD Ye (QF zbw (pvS 3) zea (QE (pvS 7))) (QF zbw (pvS 3) (QE (zD qm (pvS 7) zm)) zea)) zc))) (zg (qq (jC.own jM) rfl (z4 (pvS 8)) (zo (i:=10) zO.nd rfl (XD rfl)) (zf (zv (i:=11) zO.nd rfl (XD rfl) (pc0 (zdV T Yu) hr Yu (za (pvS 9) (za (pc0 (zc9 T zan jB) hr zan (za (qt qz (pvS 2) (pvS 7) (λ_ _=>rfl)) (za (zp zJ (by rfl) T.jK WL (za (pvS 8) zc)) (za (pvS 10) zc)))) zc)))) (zg (zlX (u1 hr.units) (pvS 6) (pvS 10) (pc0 (zcI T Z Z3) hr Z3 (za (pvS 11) (za (zp zJ (by rfl) T.jK WL (za (pvS 4) zc)) (za (qt jg (pvS 0) zm (λ_ _=>rfl)) zc)))) rfl))))))) (zg (zL (pvS 6))))))))))),?_⟩;(try dsimp only[cxK,cxP,cxW]);refine⟨_,rfl,p,l,rs,n,rfl,b,R,λd1 w1 gs H1 hd1 zla hG _ _ G up s1=>?_⟩;have g64:=Zv G R;have gl64:gs.length<=64:=X0 (Parts.Yn G.ne) g64;refine⟨_,rfl,d1,rfl,⟨_,SqL.of zla⟩,λz hz=>?_⟩;refine qC (K:=K) (a:=d1) (xs:=w1) (λj σ' H'=>∃(u0:Option V) (ys:AF),σ'=[u0,some (.ref p)]/\zq H1 H'/\H' z=some (.lst ys)/\(∀g∈gs.take j,g.length<=14)/\za3 rs z H' ys (gs.take j))
   ⟨_,[],rfl,ze hz,zd,(λ_ h=>nomatch h),.nil⟩ (λj σ' H' _ ⟨_,_,_,y,_⟩=>SqL.of (y _ _ zla)) ?_ ?_
  .rintro j v σ' H2 hv ⟨u0,ys,rfl,s2,hz2,n14,hy2⟩;obtain⟨g,hg,ga,ug,rfl,hga,hcg⟩:=j9.get (hG.mono s2) hv;have gm:=XZ hg;have il:=(XW.mp hg).1;unfold yr;refine zaY ?_;refine⟨_,rfl,_,rfl,p,l,ga,rs,n,ug,g,rfl,(b.mono s1).mono s2,R,hga,hcg,yh (G.srt g gm),X0 (VR (V4 gm)) g64,λg14 H3 s3=>qg gs G ⟨g,gm,g14⟩ H3 ((s1.trans s2).trans s3),λg14 e we ks H3 he he3 hL _ hpm _ s3=>?_⟩;have ez:e≠z:=λy=>by
    subst y;rw[hz2]at he;cases he
   have nz:∀a,(H2 a=none/\a≠e)->a≠z:=λa h y=>by
    subst y;rw[hz2]at h;cases h.1
   have t1:gs.take (j+1)=gs.take j++[g]:=by
    rw[Xh,hg];rfl
   refine⟨_,s3 _ _ hz2,?_,_,ys++[.ref e],rfl,λb' o e'=>?_,zd,λg' hg'=>?_,?_⟩
   .rw[show ys.length=(gs.take j).length from Paired.length hy2,XA];exact Xx (show _<=64 by lia) (by decide)
   .rw[zk (zh e' hz)];exact s3 _ _ (s2 _ _ e')
   .rw[t1]at hg';rcases XR.mp hg' with y | y
    .exact n14 g' y
    .have y:g'=g:=by simpa using y
     rw[y];exact g14
   .rw[t1];exact Paired.snoc (zfZ (s3 _ _ hz2) (JV s3 hy2)) ⟨e,we,ks,rfl,ez,by rw[zk ez];exact he3,JB (s3 _ _ hz2) (λ_ h=>h) (Ql nz hL),hpm⟩
  rintro σ' H2 ⟨u0,ys,rfl,s2,hz2,n14,hF2⟩;rw[hG.length,XB]at hF2 n14;have q:=q gs G n14;have s02:=s1.trans s2;have hG2:=hG.mono s2;have hd12:=s2 _ _ zla;refine⟨_,rfl,p,l,rs,n,rfl,b.mono s02,R,λd w2 H3 hd hd3 hc3 s3=>⟨Zf,λe he=>?_⟩⟩;have s4:=ze (o:=.lst []) he;refine⟨.list ((jF rs).map zw),.list [],.lst (SqL.of (s4 _ _ hd3)) (zB.rdv (N:=λ_=>True) (Cel.rdn (Cel.mono s4 hc3))),.lst (SqL.of zd) .nil,zcr _ [],_,rfl,?_⟩;have ee:(if true=true then !PyData.eqv (.list ((jF rs).map zw)) (.list []) else WS (.list ((jF rs).map zw)) (.list []))=!(jF rs).isEmpty:=by
   show (!PyData.eqv _ _)=_;rw[eq_nil]
  rw[ee];have s24:=s3.trans s4;have s04:=s02.trans s24;have b4:=b.mono s04;have hd14:=s24 _ _ hd12;have hz4:=s24 _ _ hz2;have hG4:=hG2.mono s24;have hF4:=JV s24 hF2;generalize upd H3 e (.lst [])=H4 at *
  cases hb:(jF rs).isEmpty with
  | false =>
   refine Yg ?_;refine⟨_,rfl,p,l,rs,n,rfl,b4,R,λd5 w5 H5 hd5 hd5' hc5 s5=>⟨d5,rfl,⟨_,SqL.of hd5'⟩,λy hy=>?_⟩⟩;have hcs:Cel H5 w5 (zM rs):=hc5;refine qC (K:=K) (a:=d5) (xs:=w5) (λi σ H'=>(∃u0,σ=[u0])/\zq H5 H'/\∃ys,H' y=some (.lst ys)/\ye H' ys (((zM rs).take i).map λc=>(ju c,V.int 0))) ⟨⟨_,rfl⟩,ze hy,[],zd,.nil⟩ (λi σ H' _ ⟨_,s6,_⟩=>SqL.of (s6 _ _ hd5')) ?_ ?_
   .rintro i x σ H6 hx ⟨⟨u0,rfl⟩,s6,ys,hy6,hp6⟩;obtain⟨c,hci,ca,rfl,hca⟩:=Cel.get (Cel.mono s6 hcs) hx;refine ZL ⟨_,rfl,zbn,λp hp=>?_⟩;have s7:=ze (o:=.tup [.ref ca,.int 0]) hp;have hlen:ys.length<=64:=by
     rw[hp6.length,Y1,XA];lia
    refine⟨ys,s7 _ _ hy6,Xx hlen (by decide),⟨_,rfl⟩,λb' o e'=>?_,ys++[.ref p],zd,?_⟩
    .rw[zk (zh e' hy)];exact s7 _ _ (s6 _ _ e')
    .rw[Xh,hci,Xj];exact ye.into y _ (s7 _ _ hy6) (ye.snoc (hp6.mono s7) ⟨p,ca,rfl,zd,s7 _ _ hca⟩)
   .rintro σ H6 ⟨_,s6,ys,hy6,hp6⟩;rw[hcs.length,XB]at hp6;refine⟨y,ys,_,rfl,hy6,hp6,λdd hdd=>?_⟩;refine q dd _ _ ((s04.trans (s5.trans s6)).free hdd) zd (λc hc=>?_) ((s04.trans (s5.trans s6)).trans (ze hdd));rw[zgX hb];have:=zaF (v:=V.int 0) (k:=ju c) ((zM rs).map ju) [] (.inl (XO.mpr ⟨c,hc,rfl⟩));rw[WY]at this;exact this
  | true =>
   refine zbl ?_;refine⟨_,rfl,_,rfl,d1,z,rfl,⟨_,SqL.of hd14⟩,⟨_,SqL.of hz4⟩,λt0 ht0=>?_⟩;refine zjU (K:=K) (l1:=d1) (l2:=z) (xs:=w1) (ys:=ys) (λj σ' H'=>∃(u0 u1:Option V) (cs:AF),σ'=[u0,u1]/\zq H4 H'/\H' t0=some (.lst cs)/\(∀v∈cs,v≠V.ref t0)/\yJ H' cs (tls rs (gs.take j))) (hG.length.trans (Paired.length hF2).symm)
    ⟨_,_,[],rfl,ze ht0,zd,(λ_ h=>nomatch h),.nil⟩ (λj σ' H' _ ⟨_,_,_,_,y,_⟩=>⟨SqL.of (y _ _ hd14),SqL.of (y _ _ hz4)⟩) ?_ ?_
   .rintro j v v' tt σ' H5 hv hv' htt ⟨u0,u1,cs,rfl,s5,ht5,nt,hI5⟩;obtain⟨g,hg,ga,ug,rfl,hga,hcg⟩:=j9.get (hG4.mono s5) hv;obtain⟨g',hg',fa,wf,ks,rfl,fz,hfa,hLf,hpf⟩:=zdX (JV s5 hF4) hv';rw[hg]at hg';cases hg';have gm:=XZ hg;have il:=(XW.mp hg).1;have z6:=ze (o:=.tup [V.ref ga,V.ref fa]) htt;refine⟨tt,_,rfl,SqT.of zd,rfl,_,_,rfl,_,_,rfl,rfl,?_⟩;have ht6:=z6 _ _ ht5;have hga6:=z6 _ _ hga;have hfa6:=z6 _ _ hfa;have hLf6:=qU z6 hLf;have s46:=s5.trans z6;have hI6:=yN z6 hI5;generalize upd H5 tt (.tup [V.ref ga,V.ref fa])=H6 at *
    refine zaY ?_;refine⟨_,rfl,_,rfl,ga,_,rfl,.inl (SqL.of hga6),fa,wf,ks,_,ug.length,rfl,hfa6,hLf6,λk hk=>?_,?_,λe7 H7 he7 zpN s7=>?_⟩
    .rw[hcg.length];exact zcB (hpf.mem_iff.mp hk)
    .rw[hcg.length];have:=n14 g gm;lia
    .rw[hcg.length,Cnt.zaQ hpf,zdT]at zpN;have et:e7≠t0:=λy=>by
      subst y;rw[ht6]at he7;cases he7
     have t1:tls rs (gs.take (j+1))=tls rs (gs.take j)++[Tally.tl g (qH rs g)]:=by
      unfold tls;rw[Xh,hg,Xj];rfl
     refine⟨_,s7 _ _ ht6,?_,_,_,cs++[.ref e7],rfl,λb' o e'=>?_,zd,λv hv=>?_,?_⟩
     .rw[YU hI5];unfold tls;rw[Y1,XA];exact Xx (show _<=64 by lia) (by decide)
     .rw[zk (zh e' ht0)];exact s7 _ _ (s46 _ _ e')
     .rcases XR.mp hv with hv | hv
      .exact nt v hv
      .have:v=V.ref e7:=by simpa using hv
       rw[this];intro y;cases y;exact et rfl
     .rw[t1];exact Paired.snoc (zgY (yN s7 hI6) nt) ⟨e7,rfl,by rw[zk et];exact zpN⟩
   rintro σ' H5 ⟨u0,u1,cs,rfl,s5,ht5,_,hI5⟩;rw[hG.length,XB]at hI5;have s05:=s04.trans s5;refine⟨_,rfl,p,l,rs,n,rfl,b.mono s05,R,λd5 w5 H6 hd5 zpO hc5 s6=>?_⟩;have wl:=hc5.length;have f64:(jT rs).length<=64:=X0 (Xa _ _) h64;refine⟨_,rfl,t0,cs,tls rs gs,rfl,s6 _ _ ht5,yN s6 hI5,zk1 R G,λd7 H7 hd7 zpP s7=>?_⟩;rw[show (tls rs gs).foldl Pour.JY [1]=Tally.tl gs.flatten (Tally.jR (qH rs) gs) from zfV G]at zpP;have b7:=((b.mono s05).mono s6).mono s7;refine⟨_,rfl,d5,_,rfl,.inl (SqL.of (s7 _ _ zpO)),_,_,rfl,rfl,_,rfl,p,_,1,_,rfl,rfl,SqT.of b7.tp,rfl,_,_,rfl,rfl,d7,_,_,_,rfl,zpP,ZZ g64,by rw[Tally.jJ];lia,by lia,λH8 s8=>?_⟩;have s68:=s7.trans s8;have s58:=s6.trans s68;have s08:=s05.trans s58;have hd58:=s68 _ _ zpO;have hc8:=hc5.mono s68;have farv:∀c∈jT rs,dlV (Tally.tl gs.flatten (Tally.jR (qH rs) gs)) (((w5.length:Nat):Int)-1) (n-1)=xH rs n c:=λc hc=>by
    have pos:=Vg hc;have ci:=zow G hc n.toNat;rw[hb,bw rfl,V1 n0]at ci;unfold xH;rw[<- ci,wl,show (((jT rs).length:Nat):Int)-1=(((jT rs).length-1:Nat):Int) by lia,zeG]
   generalize dlV (Tally.tl gs.flatten (Tally.jR (qH rs) gs)) (((w5.length:Nat):Int)-1) (n-1)=val at *
   refine⟨_,rfl,d5,rfl,⟨_,SqL.of hd58⟩,λy hy=>?_⟩;refine qC (K:=K) (a:=d5) (xs:=w5) (λi σ H'=>(∃u0,σ=[u0,some (.int val)])/\zq H8 H'/\∃ys,H' y=some (.lst ys)/\ye H' ys (((jT rs).take i).map λc=>(ju c,V.int val))) ⟨⟨_,rfl⟩,ze hy,[],zd,.nil⟩ (λi σ H' _ ⟨_,s6,_⟩=>SqL.of (s6 _ _ hd58)) ?_ ?_
   .rintro i x σ H6' hx ⟨⟨u0,rfl⟩,s6',ys',hy6,hp6⟩;obtain⟨c,hci,ca,rfl,hca⟩:=Cel.get (Cel.mono s6' hc8) hx;refine ZL ⟨_,rfl,_,rfl,zbn,λp hp=>?_⟩;have s7':=ze (o:=.tup [.ref ca,.int val]) hp;have hlen:ys'.length<=64:=by
     rw[hp6.length,Y1,XA];lia
    refine⟨ys',s7' _ _ hy6,Xx hlen (by decide),⟨_,rfl⟩,λb' o e'=>?_,ys'++[.ref p],zd,?_⟩
    .rw[zk (zh e' hy)];exact s7' _ _ (s6' _ _ e')
    .rw[Xh,hci,Xj];exact ye.into y _ (s7' _ _ hy6) (ye.snoc (hp6.mono s7') ⟨p,ca,rfl,zd,s7' _ _ hca⟩)
   rintro σ H9 ⟨_,s9,ys',hy9,hp9⟩;rw[hc8.length,XB]at hp9;refine⟨y,ys',_,rfl,hy9,hp9,λdd hdd=>?_⟩;have z10:=ze (o:=.dT (Y0 ((jT rs).map λc=>(ju c,V.int val)))) hdd;have hdd10:upd H9 dd (.dT (Y0 ((jT rs).map λc=>(ju c,V.int val)))) dd=some (.dT (Y0 ((jT rs).map λc=>(ju c,V.int val)))):=zd;have kl0:(Y0 ((jT rs).map λc=>(ju c,V.int val))).length<=64:=by
    have:=zlc ((jT rs).map λc=>(ju c,V.int val));rw[Y1]at this;lia
   have kv0:∀c∈jT rs,jY (Y0 ((jT rs).map λc=>(ju c,V.int val))) (ju c)=some (V.int (xH rs n c)):=λc hc=>by
    have:=zaF (v:=V.int val) (k:=ju c) ((jT rs).map ju) [] (.inl (XO.mpr ⟨c,hc,rfl⟩));rw[WY]at this;rw[<- farv c hc];exact this
   generalize Y0 ((jT rs).map λc=>(ju c,V.int val))=kvs0 at *
   generalize upd H9 dd (.dT kvs0)=H10 at *
   have s49:=s5.trans (s58.trans s9);have s09:=s08.trans s9;have ddn:H dd=none:=s09.free hdd;have hd19:=s49 _ _ hd14;have hz9:=s49 _ _ hz4;have hG9:=hG4.mono s49;have hF9:=JV s49 hF4;have ht9:=(s58.trans s9) _ _ ht5;have hI9:=yN (s58.trans s9) hI5;have hd59:=s9 _ _ hd58;have b9:=b.mono s09;refine⟨_,rfl,d1,rfl,⟨_,SqL.of (z10 _ _ hd19)⟩,?_⟩;refine Jh (K:=K) (l:=d1) (xs:=w1) (λi σ H'=>∃(kvs:List (List Key×V)) (v7 v8 v9 v10 v11:Option V),σ=[some (.ref p),some (.ref d1),some (.ref z),some (.ref t0),some (.ref d5),some (.int val),some (.ref dd),v7,v8,v9,v10,v11]/\zq H9 H'/\H' dd=some (.dT kvs)/\kvs.length<=64+(gs.take i).flatten.length/\(∀c,c∈jT rs\/c∈(gs.take i).flatten->jY kvs (ju c)=some (V.int (xH rs n c))))
    ⟨kvs0,_,_,_,_,_,rfl,z10,hdd10,by simpa using kl0,λc hc=>hc.elim (kv0 c) (λh=>by simp at h)⟩ (λi σ H' _ ⟨_,_,_,_,_,_,_,y,_⟩=>SqL.of (y _ _ hd19)) ?_ ?_
   .rintro i v tt σ H11 hv htt ⟨kvs,v7,v8,v9,v10,v11,rfl,s11,hdd11,kl,kv⟩;obtain⟨g,hg,ga,ug,rfl,hga,hcg⟩:=j9.get (hG9.mono s11) hv;have gm:=XZ hg;have il:=(XW.mp hg).1;have g14:=n14 g gm;have egs:gs=gs.take i++g::gs.drop (i+1):=by
     have e1:=(WF i gs).symm;rw[Wz il]at e1;have e2:gs[i]=g:=by
      rw[X5 il]at hg;exact Option.some.inj hg
     rwa [e2]at e1
    have tk:(gs.take (i+1)).flatten=(gs.take i).flatten++g:=by
     rw[Xh,hg,Wi];congr 1;simp
    have AB:(gs.take i++gs.drop (i+1)).Sublist gs:=by
     conv=>rhs;rw[egs]
     exact List.Sublist.append (List.Sublist.refl _) (List.sublist_cons_self _ _)
    have tdd:tt≠dd:=λy=>by
     subst y;rw[hdd11]at htt;cases htt
    have z12:=ze (o:=.tup [.int (i:Nat),V.ref ga]) htt;refine⟨tt,_,rfl,SqT.of zd,rfl,_,_,rfl,_,_,rfl,rfl,?_⟩;have s12:=s11.trans z12;have hdd12:=z12 _ _ hdd11;generalize upd H11 tt (.tup [.int (i:Nat),V.ref ga])=H12 at *
    have cl:=YU hI9;have tlen:(tls rs gs).length=gs.length:=Y1 _;refine⟨_,rfl,_,rfl,_,rfl,t0,cs,rfl,SqL.of (s12 _ _ ht9),λc1 hc1=>?_⟩;have z13:=ze (o:=.lst (QG cs none (some ((i:Nat):Int)))) hc1;refine⟨_,rfl,_,rfl,_,_,rfl,rfl,_,rfl,t0,cs,rfl,SqL.of (z13 _ _ (s12 _ _ ht9)),λc2 hc2=>?_⟩;have z14:=ze (o:=.lst (QG cs (some (((i:Nat):Int)+1)) none)) hc2;rw[zoD cs (show i<=cs.length by lia),zfP cs i (by lia)]at *
    refine⟨c1,c2,_,_,rfl,rfl,z14 _ _ zd,zd,?_,λc3 hc3=>?_⟩
    .rw[XA,Vp];exact X0 (show _<=128 by lia) (by decide)
    have z15:=ze (o:=.lst (cs.take i++cs.drop (i+1))) hc3;have s1215:=z13.trans (z14.trans z15);have s15:=s12.trans s1215;have hdd15:=s1215 _ _ hdd12;have hI15:=yN s15 hI9;have et:tls rs (gs.take i++gs.drop (i+1))=(tls rs gs).take i++(tls rs gs).drop (i+1):=by
     unfold tls;rw[Xj,Ui,S7]
    have hc315:upd (upd (upd H12 c1 (.lst (cs.take i))) c2 (.lst (cs.drop (i+1)))) c3 (.lst (cs.take i++cs.drop (i+1))) c3=some (.lst (cs.take i++cs.drop (i+1))):=zd;generalize upd (upd (upd H12 c1 (.lst (cs.take i))) c2 (.lst (cs.drop (i+1)))) c3 (.lst (cs.take i++cs.drop (i+1)))=H15 at *
    refine⟨c3,_,tls rs (gs.take i++gs.drop (i+1)),rfl,hc315,by rw[et];exact zjf (zcK i hI15) (zcL (i+1) hI15),zoC R G AB,λoa H16 hoa zne s16=>?_⟩;rw[zhW G AB]at zne;have s916:=s15.trans s16;have hdd16:=s16 _ _ hdd15;have oadd:oa≠dd:=λy=>by
     subst y;rw[hdd15]at hoa;cases hoa
    have fl64:(gs.take i++gs.drop (i+1)).flatten.length<=64:=X0 (Yw AB).length_le g64;have hga9:H9 ga=some (.lst ug):=by
     obtain⟨g',hg',ga',ug',e',h1',_⟩:=j9.get hG9 hv;cases e';have:=s11 _ _ h1';rw[hga]at this;cases this;exact h1'
    have hcg9:Cel H9 ug g:=by
     obtain⟨g',hg',ga',ug',e',h1',h2'⟩:=j9.get hG9 hv;cases e';rw[hg]at hg';cases hg';rw[hga9]at h1';cases h1';exact h2'
    have zl:i<ys.length:=by
     rw[show ys.length=gs.length from Paired.length hF2];exact il
    obtain⟨g2,hg2,fa,wf,ks,efa,fz,hfa,hLf,hpf⟩:=zdX hF9 (X5 zl);rw[hg]at hg2;cases hg2;refine⟨_,rfl,ga,rfl,⟨_,SqL.of (s916 _ _ hga9)⟩,?_⟩;refine xw (K:=K) (a:=ga) (xs:=ug) (λj σ H'=>∃(kvs:List (List Key×V)) (v10 v11:Option V),σ=[some (.ref p),some (.ref d1),some (.ref z),some (.ref t0),some (.ref d5),some (.int val),some (.ref dd),some (.int (i:Nat)),some (.ref ga),some (.ref oa),v10,v11]/\zq H9 H'/\H' oa=some (.lst (iL (Tally.tl (gs.take i++gs.drop (i+1)).flatten (Tally.jR (qH rs) (gs.take i++gs.drop (i+1))))))/\H' dd=some (.dT kvs)/\kvs.length<=64+(gs.take i).flatten.length+j/\(∀c,c∈jT rs\/c∈(gs.take i).flatten\/c∈g.take j->jY kvs (ju c)=some (V.int (xH rs n c))))
     ⟨kvs,_,_,rfl,s916,zne,hdd16,by lia,λc hc=>kv c (hc.elim .inl λh=>h.elim .inr λh=>by simp at h)⟩ (λj σ H' _ ⟨_,_,_,_,y,_⟩=>SqL.of (y _ _ hga9)) ?_ ?_
    .rintro j x σ H17 hx ⟨kvs',w10,w11,rfl,s17,hoa17,hdd17,kl17,kv17⟩;obtain⟨c,hc,ca,rfl,hca⟩:=Cel.get (hcg9.mono s17) hx;have cm:=XZ hc;have jl:=(XW.mp hc).1;have Gi:Parts.Good (clA rs) (zR rs) (gs.take i++g::gs.drop (i+1)):=by
      rw[<- egs];exact G
     have ap:=zmB Gi cm n.toNat;rw[hb,bw rfl,V1 n0]at ap;refine⟨_,rfl,_,rfl,_,rfl,z,_,_,_,rfl,rfl,SqL.of (s17 _ _ hz9),jW (by lia) (by rw[WI];exact X5 zl),_,rfl,ga,_,rfl,.inl (SqL.of (s17 _ _ hga9)),_,rfl,?_⟩;rw[efa];refine⟨fa,ca,wf,ks,_,ug.length,c,rfl,s17 _ _ hfa,qU s17 hLf,λk hk=>?_,?_,?_,hca,λea H18 hea znf s18=>?_⟩
     .rw[hcg9.length];exact zcB (hpf.mem_iff.mp hk)
     .rw[hcg9.length];lia
     .rw[hpf.length_eq];exact zi9 g14
     rw[hcg9.length,Cnt.zaQ (hpf.filter _),zeI]at znf;have gl64:g.length<=64:=by lia
     refine⟨oa,ea,_,_,rfl,SqL.of (s18 _ _ hoa17),SqL.of znf,?_,?_,?_,?_,ZZ fl64,ZZ gl64,λna H19 hna zpQ s19=>?_⟩
     .rw[Tally.jJ];lia
     .rw[Tally.jJ];lia
     .rw[Tally.jJ];lia
     .rw[Tally.jJ];lia
     have s1719:=s18.trans s19;have s919:=s17.trans s1719;have t64:(gs.take i).flatten.length<=64:=X0 (Yw (Uq i gs)).length_le g64;have ab64:((gs.take i++gs.drop (i+1)).flatten++g).length<=64:=by
      rw[<- (zeE _ _ _).length_eq,<- egs];exact g64
     have epi:=zhU Gi cm;refine⟨_,rfl,_,rfl,d5,_,rfl,.inl (SqL.of (s919 _ _ hd59)),_,rfl,p,_,1,_,rfl,rfl,SqT.of (b9.mono s919).tp,rfl,na,_,_,_,rfl,zpQ,by rw[epi];exact ZZ ab64,by rw[epi,Tally.jJ];lia,by lia,λH20 s20=>?_⟩;have s1720:=s1719.trans s20;have hdd20:=s1720 _ _ hdd17;have ev:dlV (Pour.JY (Tally.tl (gs.take i++gs.drop (i+1)).flatten (Tally.jR (qH rs) (gs.take i++gs.drop (i+1)))) (Tally.tl g λS=>qH rs g S&&decide (c∈S))) (w5.length:Nat) n=xH rs n c:=by
      unfold xH;rw[zeG,wl,ap]
     rw[ev];refine⟨_,rfl,_,rfl,dd,_,rfl,zjP.t (k:=ju c) hdd20 (s1720 _ _ hca) (Xx (show kvs'.length<=200 by lia) (by decide)),?_⟩;refine⟨putK kvs' (ju c) (V.int (xH rs n c)),_,_,rfl,λb' o e'=>?_,?_,zd,?_,λc' hc'=>?_⟩
     .rw[zk (zh e' hdd)];exact s1720 _ _ (s17 _ _ e')
     .rw[zk oadd];exact s1720 _ _ hoa17
     .have:=zhX kvs' (ju c) (V.int (xH rs n c));lia
     .rw[zfd];by_cases ec:ju c'=ju c
      .rw[bw ec,zcJ ec]
      .rw[bq ec];refine kv17 c' (hc'.elim .inl λh=>h.elim (λh=>.inr (.inl h)) λh=>?_);rw[Xh,hc]at h;rcases XR.mp h with h | h
       .exact .inr (.inr h)
       .have:c'=c:=by simpa using h
        exact absurd (by rw[this]) ec
    rintro σ H17 ⟨kvs',w10,w11,rfl,s17,hoa17,hdd17,kl17,kv17⟩;have ul:ug.length=g.length:=hcg9.length;refine⟨kvs',_,_,_,_,_,rfl,s17,hdd17,?_,λc hc=>?_⟩
    .rw[tk,XS];lia
    .rw[tk]at hc;rw[ul,XB]at kv17;exact kv17 c (hc.elim .inl λh=>(XR.mp h).elim (λh=>.inr (.inl h)) λh=>.inr (.inr h))
   rintro σ H11 ⟨kvs,v7,v8,v9,v10,v11,rfl,s11,hdd11,kl,kv⟩;rw[hG.length,XB]at kv;refine⟨_,rfl,q dd kvs H11 ddn hdd11 (λc hc=>kv c ?_) (s09.trans s11)⟩;by_cases hm:c∈gs.flatten
   .exact .inr hm
   .exact .inl ((zak G).mpr ⟨hc,hm⟩)
def zf0:zH ["board","cell"] ["board","cell"] (zj ZR):=bz
def zbg {jaj:Addr}(T:Txt mg)(Z:Prog K mg)(jat:qv K mg "TooGreat" jaj)(D:zu K mg "count_at" ZR ["board","cell"] f fd):ql P w K mg base (CXE P w) 8 f fd ["board","cell"] (zdY jaj):=by
 obtain⟨zjg,zhY,Zy⟩:=Z.counts_by_cell;refine D.F.okX zf0 (λvs H Q E h=>?_) (λcdv A outer s H vs Q E hr h=>?_)
 .obtain⟨p,l,ca,rs,n,c,rfl,_⟩:=h;rfl
 .obtain⟨p,l,ca,rs,n,c,rfl,b,R,qg,n0,hca,q⟩:=h;refine⟨_,(zg (zL (zlW (u1 hr.units) (pcL jM (zam T Z jat Zy) hr Zy (za (pvS 0) zc)) (pvS 1) (λ_ _=>rfl)))),?_⟩;(try dsimp only[cxK,cxP,cxW]);refine⟨_,rfl,p,l,rs,n,rfl,b,R,qg,n0,λgs G n14 d kvs H1 _ hd kv s1=>⟨_,rfl,d,_,rfl,?_,(q gs G n14).2 _ s1⟩⟩;have g:=zei.t (k:=ju c) hd (s1 _ _ hca);rw[kv c (q gs G n14).1]at g;exact g
structure Facts (K:XY)(C SE C1 C2 C3 C4 C5 C6 C7 C8 C9:Addr)(b1 b2:Bool):Prop where
 fd:Yh K C
 mro:Vl K C (.ref SE)=some true
 k1:Xb K (.ref C) (.ref C1)=some b1
 k2:Xb K (.ref C) (.ref C2)=some b2
 k3:Xb K (.ref C) (.ref C3)=some false
 k4:Xb K (.ref C) (.ref C4)=some false
 k5:Xb K (.ref C) (.ref C5)=some false
 k6:Xb K (.ref C) (.ref C6)=some false
 k7:Xb K (.ref C) (.ref C7)=some false
 k8:Xb K (.ref C) (.ref C8)=some false
 k9:Xb K (.ref C) (.ref C9)=some false
 kv:Xb K (.ref C) (.type "ValueError")=some true
def zmJ:T0 "ValueError"=some (.type "ValueError"):=by with_unfolding_all rfl
structure zoE (K:XY)(mg:Str->Option X9)(C0 C1 C2 C3 C4 C5 C6 C7 C8 C9:Addr):Prop where
 o0:qv K mg "StoneError" C0
 o1:qv K mg "TooGreat" C1
 o2:qv K mg "NoLaying" C2
 o3:qv K mg "NoBoard" C3
 o4:qv K mg "NoCount" C4
 o5:qv K mg "NoCell" C5
 o6:qv K mg "NoText" C6
 o7:qv K mg "NoRow" C7
 o8:qv K mg "NoNumber" C8
 o9:qv K mg "NoTable" C9
 fg:Facts K C1 C0 C1 C2 C3 C4 C5 C6 C7 C8 C9 true false
def zpR (C:Addr):Sp:=λvs H Q _=>∃e:Addr,vs=[.ref e]/\H e=some (exO e C)/\∀H',zq H H'->Q (.str "great") H'
def yH:zH ["_law_error","_law_kinds"] ["_law_error"] (zj xg):=bz
def zcM (T:Txt mg)(U:zoE K mg jai jaj jad jaa jac jab jah jaf jae jag)(D:zu K mg "_law_outcome" xg ["_law_error"] f fd):ql P w K mg base CX0 1 f fd ["_law_error"] (zpR jaj):=by
 obtain⟨jas,jat,jan,jak,jam,jal,jar,jap,jao,jaq,F⟩:=U;refine D.F.ok yH (λvs H Q E h=>?_) (λcdv A outer s H vs Q E hr h=>?_)
 .obtain⟨e,rfl,_⟩:=h;rfl
 .obtain⟨e,rfl,he,q⟩:=h;refine⟨_,(zf (zv (i:=1) yH.nd rfl (XD rfl) (qf (za (zp (qy (K:=K) (by rfl)) (by rfl) T.qj WW (za (pvS 0) (za (jn (v:=.ref jaj) (by rfl) jat.g (by exact rfl)) zc))) (za (zp (qy (K:=K) (by rfl)) (by rfl) T.qj WW (za (pvS 0) (za (jn (v:=.ref jad) (by rfl) jan.g (by exact rfl)) zc))) (za (zp (qy (K:=K) (by rfl)) (by rfl) T.qj WW (za (pvS 0) (za (jn (v:=.ref jaa) (by rfl) jak.g (by exact rfl)) zc))) zc))))) (zf (zv (i:=1) yH.nd rfl (XD rfl) (zD Ye (pvS 1) (qf (za (zp (qy (K:=K) (by rfl)) (by rfl) T.qj WW (za (pvS 0) (za (jn (v:=.ref jac) (by rfl) jam.g (by exact rfl)) zc))) (za (zp (qy (K:=K) (by rfl)) (by rfl) T.qj WW (za (pvS 0) (za (jn (v:=.ref jab) (by rfl) jal.g (by exact rfl)) zc))) (za (zp (qy (K:=K) (by rfl)) (by rfl) T.qj WW (za (pvS 0) (za (jn (v:=.ref jah) (by rfl) jar.g (by exact rfl)) zc))) zc)))))) (zf (zv (i:=1) yH.nd rfl (XD rfl) (zD Ye (pvS 1) (qf (za (zp (qy (K:=K) (by rfl)) (by rfl) T.qj WW (za (pvS 0) (za (jn (v:=.ref jaf) (by rfl) jap.g (by exact rfl)) zc))) (za (zp (qy (K:=K) (by rfl)) (by rfl) T.qj WW (za (pvS 0) (za (jn (v:=.ref jae) (by rfl) jao.g (by exact rfl)) zc))) (za (zp (qy (K:=K) (by rfl)) (by rfl) T.qj WW (za (pvS 0) (za (jn (v:=.ref jag) (by rfl) jaq.g (by exact rfl)) zc))) zc)))))) (zf (jm (PW.pt (zoR (zQ zbN (yu W2 SF SD ziG (pvS 1) (@za _ _ _ _ _ zdd zc rfl)) zm (qa _)) (znu (zbM (QC (zp (qy (K:=K) (by rfl)) (by rfl) T.qj WW (za (pvS 0) (za (zd7 (v:=.ty "ValueError") (by rfl) T.zez zmJ (by rfl)) zc))) (λ_=>rfl)))))) (@zg _ _ _ (@zL _ _ _ _ qe)) qp) (@zg _ _ _ (@zL _ _ _ _ (@qt _ _ _ _ _ _ _ qz (@qf _ _ _ _ (@za _ _ _ _ _ qe (@za _ _ _ _ _ qe (@za _ _ _ _ _ qe zc rfl) rfl) rfl)) (zp (Jg rfl) (by rfl) T.zdE U8 (@za _ _ _ _ _ zm (za (yu W2 PySem.F.slot_list_index PySem.F.type_list_index ziH (pvS 1) (@za _ _ _ _ _ zdd zc rfl)) zc) rfl)) (λ_ _=>rfl)))))))),?_⟩;(try dsimp only[cxK,cxP,cxW]);refine⟨_,rfl,e,_,_,_,rfl,he,F.fd,.inl ⟨_,rfl⟩,F.k1,_,rfl,e,_,_,_,rfl,he,F.fd,.inl ⟨_,rfl⟩,F.k2,_,rfl,e,_,_,_,rfl,he,F.fd,.inl ⟨_,rfl⟩,F.k3,ziJ,λd1 hd1=>?_⟩;have s1:=ze (o:=.lst [.bl true,.bl false,.bl false]) hd1;have he1:=s1 _ _ he;refine⟨_,rfl,_,rfl,e,_,_,_,rfl,he1,F.fd,.inl ⟨_,rfl⟩,F.k4,_,rfl,e,_,_,_,rfl,he1,F.fd,.inl ⟨_,rfl⟩,F.k5,_,rfl,e,_,_,_,rfl,he1,F.fd,.inl ⟨_,rfl⟩,F.k6,ziJ,λd2 hd2=>⟨d1,d2,_,_,rfl,rfl,ze hd2 _ _ zd,zd,zpB,λd3 hd3=>?_⟩⟩;have s3:=(s1.trans (ze (o:=.lst [.bl false,.bl false,.bl false]) hd2)).trans (ze (o:=.lst ([.bl true,.bl false,.bl false]++[.bl false,.bl false,.bl false])) hd3);have he3:=s3 _ _ he;refine⟨_,rfl,_,rfl,e,_,_,_,rfl,he3,F.fd,.inl ⟨_,rfl⟩,F.k7,_,rfl,e,_,_,_,rfl,he3,F.fd,.inl ⟨_,rfl⟩,F.k8,_,rfl,e,_,_,_,rfl,he3,F.fd,.inl ⟨_,rfl⟩,F.k9,ziJ,λd4 hd4=>⟨d3,d4,_,_,rfl,rfl,ze hd4 _ _ zd,zd,(by show 9<=Xz;decide),λd5 hd5=>?_⟩⟩;have s5:=(s3.trans (ze (o:=.lst [.bl false,.bl false,.bl false]) hd4)).trans (ze (o:=.lst (([.bl true,.bl false,.bl false]++[.bl false,.bl false,.bl false])++[.bl false,.bl false,.bl false])) hd5);have he5:=s5 _ _ he;refine⟨_,rfl,.inl ⟨rfl,_,SqL.of zd⟩,d5,[true,false,false,false,false,false,false,false,false],true,rfl,rfl,zd,rfl,_,rfl,yI (by decide) ?_⟩;refine⟨_,rfl,e,_,_,_,rfl,he5,F.fd,.inr ⟨_,rfl⟩,F.kv,true,rfl,zbl ?_⟩;refine⟨ziJ,λd6 hd6=>⟨_,rfl,.inl ⟨rfl,_,SqL.of (ze hd6 _ _ zd)⟩,d5,[true,false,false,false,false,false,false,false,false],true,0,rfl,rfl,ze hd6 _ _ zd,rfl,?_,by decide,_,_,rfl,d6,_,_,_,rfl,rfl,SqL.of zd,rfl,?_⟩⟩
  .intro m hm;lia
  .exact q _ (s5.trans (ze hd6))
def pV (xs:List Nat):AF:=xs.map λx=>V.int (x:Nat)
def nrP (n at_ x:Nat):Bool:=Cells.near (x/n,x%n) (at_/n,at_%n)
def j3 (R n at_:Nat):List Nat:=(Xp (R*n)).filter (nrP n at_)
def zcN (n at_ r c0 m:Nat):List Nat:=((Xp m).map λi=>r*n+(c0+i)).filter λx=>!decide (x=at_)
def Qa (n at_ r0 k c0 m:Nat):List Nat:=(Xp k).flatMap λi=>zcN n at_ (r0+i) c0 m
def zjh (n at_ r c0 m:Nat):zcN n at_ r c0 (m+1)=zcN n at_ r c0 m++if (!decide (r*n+(c0+m)=at_))=true then [r*n+(c0+m)] else []:=by
 unfold zcN;rw[UN,Xj,W8];congr 1;show Tv _ [r*n+(c0+m)]=_;rw[Wn];split<;>rfl
def zcO (n at_ r0 k c0 m:Nat):Qa n at_ r0 (k+1) c0 m=Qa n at_ r0 k c0 m++zcN n at_ (r0+k) c0 m:=by
 unfold Qa;rw[UN,List.flatMap_append];simp
def zlf {R n at_:Nat}(hR:R<=8)(hn:n<=8)(ha:at_<R*n):Qa n at_ (at_/n-1) (min (at_/n+2) R-(at_/n-1)) (at_%n-1) (min (at_%n+2) n-(at_%n-1))=j3 R n at_:=by
 have h:∀R∈Xp 9,∀n∈Xp 9,∀a∈Xp (R*n),Qa n a (a/n-1) (min (a/n+2) R-(a/n-1)) (a%n-1) (min (a%n+2) n-(a%n-1))=j3 R n a:=by decide+kernel
 exact h R (Xq.mpr (by lia)) n (Xq.mpr (by lia)) at_ (Xq.mpr ha)
def JC {R n at_:Nat}(hR:R<=8)(hn:n<=8)(ha:at_<R*n):(j3 R n at_).length<=8:=by
 have h:∀R∈Xp 9,∀n∈Xp 9,∀a∈Xp (R*n),(j3 R n a).length<=8:=by decide+kernel
 exact h R (Xq.mpr (by lia)) n (Xq.mpr (by lia)) at_ (Xq.mpr ha)
def zf1 (n at_ r c0 m:Nat):(zcN n at_ r c0 m).length<=m:=by
 unfold zcN;refine X0 (Xa _ _) ?_;rw[Y1,W4];exact XU _
theorem zdZ (n at_ r0 c0 m:Nat):∀k,(Qa n at_ r0 k c0 m).length<=k*m
 | 0=>W7 _
 | k+1=>by
  rw[zcO,XS,Tp];exact Ro (zdZ n at_ r0 c0 m k) (zf1 _ _ _ _ _)
def zng (i:Nat):(if (i:Int)-1>0 then (i:Int)-1 else 0)=((i-1:Nat):Int):=by
 split<;>lia
def znh (i m:Nat):(if (i:Int)+2<((m:Nat):Int) then (i:Int)+2 else ((m:Nat):Int))=((min (i+2) m:Nat):Int):=by
 split<;>lia
def zoF {a b:Nat}:decide (V.int ((a:Nat):Int)=V.int ((b:Nat):Int))=decide (a=b):=decide_eq_decide.mpr ⟨λh=>by injection h with h;lia,λh=>by rw[h]⟩
def zmK:Sp:=λvs H Q _=>∃(a R n:Nat),vs=[.int (a:Nat),.int (R:Nat),.int (n:Nat)]/\R<=8/\1<=n/\n<=8/\a<R*n/\∀(d:Addr) (H':Hp),H d=none->H' d=some (.lst (pV (j3 R n a)))->zq H H'->Q (.ref d) H'
def yi:zH ["_law_at","_law_rows","_law_columns","_law_row","_law_column","_law_found","_law_r","_law_c"] ["_law_at","_law_rows","_law_columns"] (zj ZS):=bz
def zbh (T:Txt mg)(D:zu K mg "_law_near" ZS ["_law_at","_law_rows","_law_columns"] f fd):ql P w K mg base CX0 1 f fd ["_law_at","_law_rows","_law_columns"] zmK:=by
 refine D.F.ok yi (λvs H Q E h=>?_) (λcdv A outer s H vs Q E hr h=>?_)
 .obtain⟨a,R,n,rfl,_⟩:=h;rfl
 .obtain⟨a,R,n,rfl,hR,n1,hn,ha,q⟩:=h;have hrow:a/n<R:=Nat.div_lt_of_lt_mul (by rw[Tn];exact ha);have hcol:a%n<n:=SQ _ (by lia);refine⟨_,(zf (zd8 (zp zeW (by rfl) T.zkA PyProof.Rows.boot_divmod (za (pvS 0) (za (pvS 2) zc))) (Jo rfl (zP (zo (i:=3) yi.nd rfl (XD rfl)) (zP (zo (i:=4) yi.nd rfl (XD rfl)) jE)))) (@zf _ _ _ _ _ (@zv _ _ 5 _ _ _ _ yi.nd rfl (XD rfl) (@qf _ _ _ _ zc) (by rfl) (.inr rfl)) (zf (qq W3 rfl (YF (by rfl) T.jh (za (zp (J6 rfl) (by rfl) T.zdD U9 (@za _ _ _ _ _ zm (za (zD yX (pvS 3) zm) zc) rfl)) (za (zp (Jg rfl) (by rfl) T.zdE U8 (za (pvS 1) (za (zD qm (pvS 3) zm) zc))) zc))) (zo (i:=6) yi.nd rfl (XD rfl)) (zg (qq W3 rfl (YF (by rfl) T.jh (za (zp (J6 rfl) (by rfl) T.zdD U9 (@za _ _ _ _ _ zm (za (zD yX (pvS 4) zm) zc) rfl)) (za (zp (Jg rfl) (by rfl) T.zdE U8 (za (pvS 2) (za (zD qm (pvS 4) zm) zc))) zc))) (zo (i:=7) yi.nd rfl (XD rfl)) (zg (jm (zQ zbN (zD qm (zD yW (pvS 6) (pvS 2)) (pvS 7)) (pvS 0) (qa _)) (zg (j5 (yu W2 Wh Wg jd (pvS 5) (za (zD qm (zD yW (pvS 6) (pvS 2)) (pvS 7)) zc)))) qp))))) (zg (zL (pvS 5)))))),?_⟩;(try dsimp only[cxK,cxP,cxW]);refine⟨_,rfl,_,rfl,_,_,rfl,⟨by lia,by lia⟩,λp hp=>?_⟩;have s0:=ze (o:=.tup [.int (((a:Nat):Int)/((n:Nat):Int)),.int (((a:Nat):Int)%((n:Nat):Int))]) hp;refine⟨p,_,rfl,SqT.of zd,rfl,_,_,rfl,_,_,rfl,rfl,?_⟩;generalize upd H p (.tup [.int (((a:Nat):Int)/((n:Nat):Int)),.int (((a:Nat):Int)%((n:Nat):Int))])=H0 at *
  rw[<- Int.natCast_ediv,<- Int.natCast_emod];generalize hr0:a/n=row at *
  generalize hc0:a%n=col at *
  refine⟨Zf,λd hd=>?_⟩;have s1:zq H0 (upd H0 d (.lst [])):=ze hd;refine⟨_,rfl,_,_,rfl,rfl,0,_,rfl,_,rfl,_,rfl,_,_,rfl,rfl,_,_,rfl,((row-1:Nat):Int),((min (row+2) R:Nat):Int),?_,⟨by lia,by lia,by lia,by lia⟩,?_⟩
  .show [V.int (if (row:Int)-1>0 then (row:Int)-1 else 0),V.int (if (row:Int)+2<((R:Nat):Int) then (row:Int)+2 else ((R:Nat):Int))]=_;rw[zng,znh]
  have hn9:∀k m:Nat,k<=8->m<=8->k*m<=64:=λk m h1 h2=>Ts h1 h2;refine qx (lo:=((row-1:Nat):Int)) (λk σ H'=>∃(v6 v7:Option V),σ=[some (.int (a:Nat)),some (.int (R:Nat)),some (.int (n:Nat)),some (.int (row:Nat)),some (.int (col:Nat)),some (.ref d),v6,v7]/\zq H0 H'/\H' d=some (.lst (pV (Qa n a (row-1) k (col-1) (min (col+2) n-(col-1))))))
   ⟨_,_,rfl,s1,zd⟩ ?_ ?_
  .rintro k σ H1 hk ⟨v6,v7,rfl,s2,hd1⟩;rw[show ((row-1:Nat):Int)+(k:Nat)=((row-1+k:Nat):Int) by lia];refine⟨_,rfl,_,_,rfl,rfl,0,_,rfl,_,rfl,_,rfl,_,_,rfl,rfl,_,_,rfl,((col-1:Nat):Int),((min (col+2) n:Nat):Int),?_,⟨by lia,by lia,by lia,by lia⟩,?_⟩
   .show [V.int (if (col:Int)-1>0 then (col:Int)-1 else 0),V.int (if (col:Int)+2<((n:Nat):Int) then (col:Int)+2 else ((n:Nat):Int))]=_;rw[zng,znh]
   refine qx (lo:=((col-1:Nat):Int)) (λm σ H'=>∃(v7:Option V),σ=[some (.int (a:Nat)),some (.int (R:Nat)),some (.int (n:Nat)),some (.int (row:Nat)),some (.int (col:Nat)),some (.ref d),some (.int ((row-1+k:Nat):Int)),v7]/\zq H0 H'/\H' d=some (.lst (pV (Qa n a (row-1) k (col-1) (min (col+2) n-(col-1))++zcN n a (row-1+k) (col-1) m))))
    ⟨_,rfl,s2,by rw[hd1];unfold zcN;simp⟩ ?_ ?_
   .rintro m σ H2 hm ⟨v7,rfl,s3,hd2⟩;rw[show ((col-1:Nat):Int)+(m:Nat)=((col-1+m:Nat):Int) by lia];have ev:((row-1+k:Nat):Int)*((n:Nat):Int)+((col-1+m:Nat):Int)=(((row-1+k)*n+(col-1+m):Nat):Int):=by
     simp only[Uv,SZ]
    have hb:(!decide (V.int (((row-1+k:Nat):Int)*((n:Nat):Int)+((col-1+m:Nat):Int))=V.int ((a:Nat):Int)))=!decide ((row-1+k)*n+(col-1+m)=a):=by rw[ev,zoF]
    refine⟨_,rfl,_,rfl,_,_,rfl,rfl,ze2 (by lia) (by lia),_,rfl,_,_,rfl,rfl,_,rfl,rfl,_,rfl,?_⟩;have e1:=zjh n a (row-1+k) (col-1) m;by_cases hp:(!decide ((row-1+k)*n+(col-1+m)=a))=true
    .rw[bw hp]at e1;refine j8 (hb.trans hp) ?_;refine⟨_,rfl,.inl ⟨rfl,_,SqL.of hd2⟩,_,rfl,_,rfl,_,_,rfl,rfl,ze2 (by lia) (by lia),_,rfl,_,_,rfl,rfl,d,_,_,rfl,rfl,hd2,?_,_,rfl,λb o e=>?_,?_⟩
     .unfold pV;rw[Y1,XS];have a1:=zdZ n a (row-1) (col-1) (min (col+2) n-(col-1)) k;have a2:=zf1 n a (row-1+k) (col-1) m;have a3:=hn9 k (min (col+2) n-(col-1)) (by lia) (by lia);exact Xx (X0 (Ro (X0 a1 a3) (X0 a2 (show m<=8 by lia))) (by decide:64+8<=100)) (by decide)
     .rw[zk (zh e hd)];exact s3 _ _ e
     .have e2:pV (Qa n a (row-1) k (col-1) (min (col+2) n-(col-1))++zcN n a (row-1+k) (col-1) (m+1))=pV (Qa n a (row-1) k (col-1) (min (col+2) n-(col-1))++zcN n a (row-1+k) (col-1) m)++[V.int (((row-1+k:Nat):Int)*((n:Nat):Int)+((col-1+m:Nat):Int))]:=by
       rw[ev,e1,<- W0];unfold pV;rw[Xj (l₂:=[_])];rfl
      rw[zd,e2]
    .rw[bq hp,W6]at e1;refine yI (hb.trans (WX.mpr hp)) ?_;exact⟨_,rfl,s3,by rw[e1];exact hd2⟩
   .rintro σ H2 ⟨v7,rfl,s3,hd2⟩;rw[show (((min (col+2) n:Nat):Int)-((col-1:Nat):Int)).toNat=min (col+2) n-(col-1) by lia]at hd2;refine⟨_,_,rfl,s3,?_⟩;rw[zcO];exact hd2
  .rintro σ H1 ⟨v6,v7,rfl,s2,hd1⟩;rw[show (((min (row+2) R:Nat):Int)-((row-1:Nat):Int)).toNat=min (row+2) R-(row-1) by lia,<- hr0,<- hc0,zlf hR hn ha]at hd1;exact⟨_,rfl,q d H1 (s0.free hd) hd1 (s0.trans s2)⟩
def zf2:Sp:=λvs H Q _=>∃n:Int,vs=[.int n]/\Q (.bl true) H
def zeJ:zH ["_law_found"] ["_law_found"] (zj JR):=bz
def zeK (T:Txt mg)(D:zu K mg "_law_whole" JR ["_law_found"] f fd):ql P w K mg base CX0 1 f fd ["_law_found"] zf2:=by
 refine D.F.ok zeJ (λvs H Q E h=>?_) (λcdv A outer s H vs Q E hr h=>?_)
 .obtain⟨n,rfl,_⟩:=h;rfl
 .obtain⟨n,rfl,k⟩:=h;refine⟨_,(zg (zL (Yb (zp za5 (by rfl) T.qj WW (za (pvS 0) (za (zd7 (v:=.ty "int") (by rfl) T.zkB Sc (by rfl)) zc))) (zay (zjs (zp za5 (by rfl) T.qj WW (za (pvS 0) (za (zd7 (v:=.ty "bool") (by rfl) T.zon PyProof.Rows.boot_bool (by rfl)) zc)))))))),?_⟩;(try dsimp only[cxK,cxP,cxW]);refine⟨_,rfl,_,"int","int",true,rfl,.int n,(by decide+kernel),true,rfl,Yg ?_⟩;exact⟨_,rfl,_,"int","bool",false,rfl,.int n,(by decide+kernel),false,rfl,k⟩
def zlg:Sp:=λvs H Q _=>∃(l:Addr) (rs:AE),vs=[.ref l]/\H l=some (.lst (rs.map V.str))/\Rows bd.cps.toList rs /\
 ∀(d:Addr) (ws:AF) (H':Hp),H d=none->H' d=some (.lst ws)->Cel H' ws (zM rs)->zq H H'->Q (.ref d) H'
def xr:zH ["_law_texts_here","_law_found","_law_row","_law_column"] ["_law_texts_here"] (zj x9):=bz
def zda (T:Txt mg)(D:zu K mg "_law_closed" x9 ["_law_texts_here"] f fd):ql P w K mg base CX0 1 f fd ["_law_texts_here"] zlg:=by
 refine D.F.ok xr (λvs H Q E h=>?_) (λcdv A outer s H vs Q E hr h=>?_)
 .obtain⟨l,rs,rfl,_⟩:=h;rfl
 .obtain⟨l,rs,rfl,hl,R,q⟩:=h;obtain⟨C,c1,c8,hC⟩:=R.ex;have hlo:=R.lo;have hhi:=R.hi;refine⟨_,(@zf _ _ _ _ _ (@zv _ _ 1 _ _ _ _ xr.nd rfl (XD rfl) (@qf _ _ _ _ zc) (by rfl) (.inr rfl)) (zf (qq W3 rfl (qW (by rfl) T.jh (za (zp zJ (by rfl) T.jK WL (za (pvS 0) zc)) zc)) (zo (i:=2) xr.nd rfl (XD rfl)) (zg (qq W3 rfl (qW (by rfl) T.jh (za (zp xZ (by rfl) T.jK WL (za (qt qz (pvS 0) zm (λ_ _=>rfl)) zc)) zc)) (zo (i:=3) xr.nd rfl (XD rfl)) (zg (jm (zQ Yc (qt YH (qt qz (pvS 0) (pvS 2) (λ_ _=>rfl)) (pvS 3) (λ_ _=>rfl)) qe (qa _)) (zg (j5 (yu W2 Wh Wg jd (pvS 1) (za (yt (za (pvS 2) (za (pvS 3) zc))) zc)))) qp))))) (zg (zL (pvS 1))))),?_⟩;(try dsimp only[cxK,cxP,cxW]);refine⟨Zf,λd hd=>?_⟩;have s0:zq H (upd H d (.lst [])):=ze hd;have rl:(rs.map V.str).length=rs.length:=Y1 _;refine⟨_,rfl,l,_,rfl,.inl (SqL.of (s0 _ _ hl)),_,rfl,by lia,by lia,?_⟩;rw[WI,rl];refine qx (lo:=0) (n:=rs.length) (λi σ H'=>∃(v2 v3:Option V) (ws:AF),σ=[some (.ref l),some (.ref d),v2,v3]/\zq H H'/\H' d=some (.lst ws)/\Cel H' ws (Cells.zI jV 0 ((codes rs).take i))) ⟨_,_,[],rfl,s0,zd,.nil⟩ ?_ ?_
  .rintro i σ H1 hi ⟨v2,v3,ws,rfl,s1,hd1,hc1⟩;obtain⟨t0,ht0⟩:∃t0,rs[0]?=some t0:=⟨_,X5 (by lia)⟩;obtain⟨t,ht⟩:∃t,rs[i]?=some t:=⟨_,X5 hi⟩;have e0:t0.length=C:=(hC t0 (XZ ht0)).len;have et:t.cps.toList.length=C:=by
    rw[X7];exact(hC t (XZ ht)).len
   have hat:∀{i:Nat} {t:Str},rs[i]?=some t->(rs.map V.str)[i]?=some (V.str t):=λh=>by rw[Xn,h];rfl
   refine⟨_,rfl,l,_,_,.str t0,rfl,rfl,SqL.of (s1 _ _ hl),jW (by decide) (hat ht0),t0,rfl,R.tlen ht0,_,rfl,?_,?_,?_⟩
   .show -(2^62)<=((t0.length:Nat):Int);lia
   .show ((t0.length:Nat):Int)<2^62;lia
   rw[WI,e0];refine qx (lo:=0) (n:=C) (λj σ H'=>∃(v3:Option V) (ws:AF),σ=[some (.ref l),some (.ref d),some (.int (0+(i:Int))),v3]/\zq H H'/\H' d=some (.lst ws)/\Cel H' ws (Cells.zI jV 0 ((codes rs).take i)++Cells.qd jV i 0 (t.cps.toList.take j))) ⟨_,ws,rfl,s1,hd1,by rw[Os];show Cel H1 ws (_++[]);rw[W6];exact hc1⟩ ?_ ?_
   .rintro j σ H2 hj ⟨v3,ws2,rfl,s2,hd2,hc2⟩;obtain⟨k,hk⟩:∃k,t.cps.toList[j]?=some k:=⟨_,X5 (by lia)⟩;have st:=Cells.Qg (p:=jV) (i:=i) hk;refine⟨_,rfl,_,rfl,l,_,_,.str t,rfl,rfl,SqL.of (s2 _ _ hl),jW (by lia) (by rw[show ((0:Int)+(i:Int)).toNat=i by lia];exact hat ht),_,rfl,t,_,k,rfl,rfl,R.tlen ht,jW (by lia) (by rw[show ((0:Int)+(j:Int)).toNat=j by lia];exact hk),rfl,_,rfl,?_⟩;have ed:decide (V.str ⟨#[k]⟩=V.str "?")=decide (k=63):=by
     rw[zaV];simp only[Qj]
    rw[ed];by_cases hp:k=63
    .rw[br hp];rw[bw (show jV k=true from br hp)]at st;refine Yg ?_;have hlen:ws2.length<=1000:=by
      rw[hc2.length,XS];have a1:=Cells.jO jV i 0 (t.cps.toList.take j);have a2:=Cells.jq jV 0 ((codes rs).take i) λu hu=>R.short u (Wq hu);rw[XA]at a1 a2;lia
     refine⟨_,rfl,.inl ⟨rfl,_,SqL.of hd2⟩,_,rfl,_,rfl,zbn,λp hp=>?_⟩;have s3:=ze (o:=.tup [.int (0+(i:Int)),.int (0+(j:Int))]) hp;refine⟨d,_,_,rfl,rfl,s3 _ _ hd2,Xx hlen (by decide),?_⟩;refine⟨_,ws2++[.ref p],rfl,λb o e=>?_,zd,?_⟩
     .rw[zk (zh e hd)];exact s3 _ _ (s2 _ _ e)
     .rw[st,<- W0];refine Cel.into d _ (s3 _ _ hd2) (Cel.snoc (Cel.mono s3 hc2) ⟨p,rfl,?_⟩);rw[zd,RB,RB]
    .rw[bf hp];rw[bq (show ¬ jV k=true from λy=>hp (bh y)),W6]at st;refine zbl ⟨_,ws2,rfl,s2,hd2,?_⟩;rw[st];exact hc2
   .rintro σ H2 ⟨v3,ws2,rfl,s2,hd2,hc2⟩;refine⟨_,_,ws2,rfl,s2,hd2,?_⟩;rw[WD (l:=t.cps.toList) (by lia)]at hc2;rw[Cells.Qh (qM ht)];exact hc2
  .rintro σ H1 ⟨v2,v3,ws,rfl,s1,hd1,hc1⟩;rw[WD (by rw[jk];exact XU _)]at hc1;exact⟨_,rfl,q d ws H1 hd hd1 hc1 s1⟩
def zni (rs:AE):Prop:=∀gs,Parts.Good (clA rs) (zR rs) gs->∃g∈gs,14<g.length
def zqz (rs:AE):Prop:=∀gs,Parts.Good (clA rs) (zR rs) gs->∀g∈gs,g.length<=14
def znj:Sp:=λvs H Q _=>∃(p l:Addr) (rs:AE) (n:Int) (cv:V),vs=[.ref p,cv]/\qk H p l rs n/\Rows bd.cps.toList rs/\0<=n /\
  ((∃(ca:Addr) (c:AA),cv=.ref ca/\H ca=some (.tup [.int (c.1:Nat),.int (c.2:Nat)])/\zni rs/\∀H',zq H H'->Q (.str "great") H') \/
   (cv=.non/\(∀gs,Parts.Good (clA rs) (zR rs) gs->(∃g∈gs,14<g.length)->∀H',zq H H'->Q (.str "great") H')/\∀gs,Parts.Good (clA rs) (zR rs) gs->(∀g∈gs,g.length<=14)->∀H',zq H H'->Q (.int (Yv rs n)) H'))
def Yx {rs:AE}{gs:List AD}(G:Parts.Good (clA rs) (zR rs) gs)(h:∃g∈gs,14<g.length)(a:∀g∈gs,g.length<=14):False:=by
 obtain⟨g,hg,l⟩:=h;have:=a g hg;lia
def qV:zH ["_law_board","_law_cell","_law_found","_law_error","e"] ["_law_board","_law_cell"] (zj xh):=bz
def zcP (T:Txt mg)(U:zoE K mg jai jaj jad jaa jac jab jah jaf jae jag)(Z:Prog K mg)(D:zu K mg "_law_counted" xh ["_law_board","_law_cell"] f fd):ql P w K mg base CX0 9 f fd ["_law_board","_law_cell"] znj:=by
 obtain⟨zmL,zlh,Jf⟩:=Z.count;obtain⟨zgZ,zf3,yb⟩:=Z.count_at;obtain⟨zlC,zli,Qc⟩:=Z.law_outcome;have jas:=U.o0;refine D.F.ok qV (λvs H Q E h=>?_) (λcdv A outer s H vs Q E hr h=>?_)
 .obtain⟨p,l,rs,n,cv,rfl,_⟩:=h;rfl
 .obtain⟨p,l,rs,n,cv,rfl,B,R,n0,h⟩:=h;refine⟨_,(@zf _ _ _ _ _ (@zv _ _ 2 _ _ _ _ qV.nd rfl (XD rfl) zax (by rfl) (.inr rfl)) (@zf _ _ _ _ _ (@zv _ _ 3 _ _ _ _ qV.nd rfl (XD rfl) zax (by rfl) (.inr rfl)) (zbx (zl9 (j:=4) rfl rfl qV.nd rfl rfl (by rfl) jas (λ_ _=>(zg (jm (zQ znC (pvS 1) zax (qa _)) (zg (zv (i:=2) qV.nd rfl (XD rfl) (zfs (zfX T Z U.o1 Jf) (hr.mono (by decide)) (by rfl) Jf.g Jf.F.kp Jf.b (za (pvS 0) zc)))) (zg (zv (i:=2) qV.nd rfl (XD rfl) (zfs (zbg T Z U.o1 yb) (hr.mono (by decide)) (by rfl) yb.g yb.F.kp yb.b (za (pvS 0) (za (pvS 1) zc)))))))) (λ_=>(zg (zv (i:=3) qV.nd rfl (XD rfl) (pvS 4))))) (zf (jm (zQ zlH (pvS 3) zax (qa _)) (zg (zL (pc0 (zcM T U Qc) hr Qc (za (pvS 3) zc)))) qp) (zg (zL (pvS 2))))))),?_⟩;(try dsimp only[cxK,cxP,cxW]);refine⟨fun σ' H'=>(∃e:Addr,σ'=[some (.ref p),some cv,some .non,some (.ref e),none]/\zq H H'/\H' e=some (exO e jaj)/\∀H2,zq H H2->Q (.str "great") H2)\/(σ'=[some (.ref p),some cv,some (.int (Yv rs n)),some .non,none]/\zq H H'/\Q (.int (Yv rs n)) H'),?_,?_⟩
  .rcases h with ⟨ca,c,rfl,hca,big,q⟩ | ⟨rfl,q1,q2⟩
   .refine⟨_,rfl,rfl,_,rfl,yI (bf λz=>nomatch z) ?_⟩;refine⟨_,rfl,_,rfl,p,l,ca,rs,n,c,rfl,B,R,λgs G _ H' s1=>⟨jaj,rfl,U.fg.mro,λe hn=>?_⟩,n0,hca,λgs G a14=>(Yx G (big gs G) a14).elim⟩;exact⟨_,rfl,.inl ⟨e,rfl,s1.trans (ze hn),zd,q⟩⟩
   .refine⟨_,rfl,rfl,_,rfl,j8 rfl ?_⟩;refine⟨_,rfl,p,l,rs,n,rfl,B,R,λgs G bg H' s1=>⟨jaj,rfl,U.fg.mro,λe hn=>?_⟩,n0,λgs G a14 H' s1=>?_⟩
    .exact⟨_,rfl,.inl ⟨e,rfl,s1.trans (ze hn),zd,q1 gs G bg⟩⟩
    .exact .inr ⟨rfl,s1,q2 gs G a14 H' s1⟩
  .rintro σ' H' (⟨e,rfl,s1,he,q⟩ | ⟨rfl,s1,q⟩)
   .exact⟨_,rfl,rfl,_,rfl,j8 rfl ⟨_,rfl,e,rfl,he,λH2 s2=>q H2 (s1.trans s2)⟩⟩
   .exact⟨_,rfl,rfl,_,rfl,yI (by decide) ⟨_,rfl,q⟩⟩
def dig (kvs:KV1)(c:AA)(k:Nat):Nat:=match jY kvs (ju c) with
 | some (.int v)=>48+v.toNat
 | _=>k
structure Nums (cs:AD)(N:Nat)(kvs:KV1):Prop where
 vals:∀kv∈kvs,∃c∈cs,∃v:Nat,v<=8/\kv.1=ju c/\kv.2=V.int (v:Nat)
 nd:(kvs.map (·.1)).Nodup
 len:kvs.length<=N
def zlj {kvs:KV1}{k:List Key}{v:V}(h:jY kvs k=some v):(k,v)∈kvs:=by
 unfold jY at h;cases e:kvs.find? (λkv=>decide (kv.1=k)) with
 | none =>
  rw[e]at h;cases h
 | some kv =>
  rw[e]at h;have h1:kv.2=v:=by simpa using h
  have h2:kv.1=k:=bh (show decide (kv.1=k)=true from List.find?_some (p:=λ(kv:List Key×V)=>decide (kv.1=k)) e);have h3:=List.mem_of_find?_eq_some e;rw[<- h1,<- h2];exact h3
def Nums.at {cs:AD}{N:Nat}{kvs:KV1}(h:Nums cs N kvs)(c:AA):jY kvs (ju c)=none\/∃v:Nat,v<=8/\c∈cs/\jY kvs (ju c)=some (V.int (v:Nat)):=by
 cases e:jY kvs (ju c) with
 | none=>exact .inl rfl
 | some v =>
  obtain⟨c',hc,n,hn,e1,e2⟩:=h.vals _ (zlj e);have ec:=zcJ e1;subst ec;have e2':v=V.int (n:Nat):=e2;subst e2';exact .inr ⟨n,hn,hc,rfl⟩
def jD (kvs:KV1)(i:Nat)(t:List Nat):List Nat:=t.mapIdx λj c=>dig kvs (i,j) c
def zlk (kvs:KV1)(i:Nat)(t:Str):Str:=⟨(jD kvs i t.cps.toList).toArray⟩
def jH (kvs:KV1)(rs:AE):AE:=rs.mapIdx λi t=>zlk kvs i t
def Zz (kvs:KV1)(i:Nat)(t:Str):(zlk kvs i t).cps.toList=jD kvs i t.cps.toList:=by
 show (jD kvs i t.cps.toList).toArray.toList=_;rw[N0]
def zmM {a b:Str}(h:a.cps.toList=b.cps.toList):a=b:=by
 obtain⟨⟨x⟩⟩:=a;obtain⟨⟨y⟩⟩:=b;have:x=y:=h;rw[this]
def zao {kvs:KV1}{rs:AE}{i:Nat}{t:Str}(h:rs[i]?=some t):(jH kvs rs)[i]?=some (zlk kvs i t):=by
 unfold jH;rw[Og,h];rfl
def Jm (kvs:KV1)(rs:AE):(jH kvs rs).length=rs.length:=by
 unfold jH;rw[U4]
def YV {kvs:KV1}{i j c:Nat}{t:List Nat}(h:t[j]?=some c):(jD kvs i t)[j]?=some (dig kvs (i,j) c):=by
 unfold jD;rw[Og,h];rfl
def zoG:∀v:Nat,v<=8->48+v∈bd.cps.toList:=by decide+kernel
def Rows.put {cs:AD}{N:Nat}{kvs:KV1}(h:Nums cs N kvs){rs:AE}(R:Rows bd.cps.toList rs):Rows bd.cps.toList (jH kvs rs):=by
 obtain⟨n,n1,n8,hr⟩:=R.ex;refine⟨by rw[Jm];exact R.lo,by rw[Jm];exact R.hi,n,n1,n8,λt ht=>?_⟩;obtain⟨i,hi⟩:=Of ht;cases e:rs[i]? with
 | none =>
  have h0:=Wo.mp e;rw[Wo.mpr (by rw[Jm];exact h0)]at hi;cases hi
 | some u =>
  rw[zao e]at hi;have eu:=Option.some.inj hi;subst eu;have ru:=hr u (XZ e);refine⟨?_,λc hc=>?_⟩
  .rw[<- X7,Zz];unfold jD;rw[U4,X7];exact ru.len
  .rw[Zz]at hc;obtain⟨j,hj⟩:=Of hc;cases e2:u.cps.toList[j]? with
   | none =>
    have h0:=Wo.mp e2;rw[Wo.mpr (by unfold jD;rw[U4];exact h0)]at hj;cases hj
   | some k =>
    rw[YV e2]at hj;have ec:=Option.some.inj hj;subst ec;unfold dig;rcases h.at (i,j) with e3 | ⟨v,hv,_,e3⟩
    .rw[e3];exact ru.mem k (XZ e2)
    .rw[e3];exact zoG v hv
def zf4:Sp:=λvs H Q _=>∃(p l d:Addr) (rs:AE) (n:Int) (cs:AD) (N:Nat) (kvs:KV1),vs=[.ref p,.ref d]/\qk H p l rs n/\Rows bd.cps.toList rs/\H d=some (.dT kvs)/\Nums cs N kvs /\
 ∀(q l2:Addr) (H':Hp),H q=none->H l2=none->qk H' q l2 (jH kvs rs) n->zq H H'->Q (.ref q) H'
theorem join_ones:∀cs:List Nat,(Uu "" (cs.map λc=>(⟨#[c]⟩:Str))).cps.toList=cs
 | []=>rfl
 | [c]=>rfl
 | c::e::r=>by
  have h:(Uu "" ((c::e::r).map λc=>(⟨#[c]⟩:Str))).cps=#[c]++("":Str).cps++(Uu "" ((e::r).map λc=>(⟨#[c]⟩:Str))).cps:=rfl;rw[h,WQ,WQ,join_ones (e::r)];rfl
def zji (kvs:KV1)(i:Nat)(t:Str):Uu "" ((jD kvs i t.cps.toList).map λc=>(⟨#[c]⟩:Str))=zlk kvs i t:=zmM (by rw[join_ones,Zz])
def zoH:∀d:Nat,d<=8->((toString (d:Int):String):Str)=⟨#[48+d]⟩:=by decide+kernel
theorem zcQ:∀cs:List Nat,((cs.map λc=>(⟨#[c]⟩:Str)).map (·.length)).sum=cs.length
 | []=>rfl
 | c::r=>by
  rw[Xf,Xf,NV,zcQ r,XE];show 1+r.length=_;lia
def take_snoc {α:Type}{xs:List α}{i:Nat}{x:α}(h:xs[i]?=some x):xs.take (i+1)=xs.take i++[x]:=by
 rw[Xh,h];rfl
def ZA:zH ["board","numbers","rows","row","text","signs"] ["board","numbers"] (zj Yp):=bz
def zjj (T:Txt mg)(D:zu K mg "opened" Yp ["board","numbers"] f fd):ql P w K mg base CX0 1 f fd ["board","numbers"] zf4:=by
 refine D.F.ok ZA (λvs H Q E h=>?_) (λcdv A outer s H vs Q E hr h=>?_)
 .obtain⟨p,l,d,rs,n,cs,N,kvs,rfl,_⟩:=h;rfl
 .obtain⟨p,l,d,rs,n,cs,N,kvs,rfl,b,R,hd,hN,q⟩:=h;refine⟨_,(@zf _ _ _ _ _ (@zv _ _ 2 _ _ _ _ ZA.nd rfl (XD rfl) (@qf _ _ _ _ zc) (by rfl) (.inr rfl)) (zf (qq W3 rfl (Jq (by rfl) T.ja (za (qt jg (pvS 0) zm (λ_ _=>rfl)) zc)) (Jo rfl (zP (zo (i:=3) ZA.nd rfl (TL rfl)) (zP (zo (i:=4) ZA.nd rfl (XD rfl)) jE))) (zf (ZM (i:=5) ZA.nd rfl rfl (N:=["column","sign","numbers","row"]) (src:=[none,none,some 1,some 3]) (zZ.free (O:=(zj Yp).names) (XN:=["board","numbers","rows","row","text","signs"]) rfl rfl ⟨_,rfl⟩ rfl rfl (by decide+kernel) (by decide+kernel) (by decide+kernel) rfl (by decide+kernel)) rfl (ze5 (by rfl) T.ja (za (pvS 4) zc)) (λ_ _ _ _ _=>(zby (n:=2) (K:=K) (by rfl) rfl (zP (zo (i:=0) (by show WZ (["column","sign","numbers","row"]:AE);decide+kernel) rfl (XD rfl)) (zP (zo (i:=1) (by show WZ (["column","sign","numbers","row"]:AE);decide+kernel) rfl (XD rfl)) jE)))) (λ_ _ _ _ _=>qN) (λ_ _ _ _ _=>(ji zfi (by rfl) T.zkD Sa (za (zjR (u1 hr.units) (pvS 2) (yt (za (pvS 3) (za (pvS 0) zc))) (pvS 1) ⟨rfl,rfl,rfl,rfl⟩) zc)))) (zg (j5 (yu W2 Wh Wg jd (pvS 2) (@za _ _ _ _ _ (@yu _ _ _ _ _ _ _ _ _ _ _ _ Sh R9 R8 zeh qe (za (pvS 5) zc) (by rfl) (by rfl) (by rfl) (by rfl) (by rfl)) zc rfl)))))) (zg (zL (yt (za (pvS 2) (za (qt jg (pvS 0) zm (λ_ _=>rfl)) zc))))))),?_⟩;(try dsimp only[cxK,cxP,cxW]);refine⟨Zf,λd0 hd0=>?_⟩;have s0:zq H (upd H d0 (.lst [])):=ze hd0;have rhi:=R.hi;refine⟨_,rfl,p,_,0,_,rfl,rfl,SqT.of (b.mono s0).tp,rfl,l,rfl,⟨_,SqL.of (b.mono s0).rw⟩,?_⟩;refine Jh (K:=K) (l:=l) (xs:=rs.map V.str) (λi σ H'=>∃(v3 v4 v5:Option V),σ=[some (.ref p),some (.ref d),some (.ref d0),v3,v4,v5]/\zq H H'/\H' d0=some (.lst (((jH kvs rs).take i).map V.str)))
   ⟨_,_,_,rfl,s0,zd⟩ (λi σ H' _ ⟨_,_,_,_,s1,_⟩=>SqL.of (b.mono s1).rw) ?_ ?_
  .rintro i x tt σ H1 hx htt ⟨v3,v4,v5,rfl,s1,hd1⟩;rw[Xn]at hx;cases e:rs[i]? with
   | none =>
    rw[e]at hx;cases hx
   | some t =>
    rw[e]at hx;cases hx;have tl8:t.cps.toList.length<=8:=R.short _ (XZ (qM e));have hil:i<rs.length:=(XW.mp e).1;have st:zq H1 (upd H1 tt (.tup [.int (i:Nat),.str t])):=ze htt;refine⟨tt,_,rfl,SqT.of zd,rfl,_,_,rfl,_,_,rfl,rfl,?_⟩;have s2:=s1.trans st;have hd2:=st _ _ hd1;generalize upd H1 tt (.tup [.int (i:Nat),.str t])=H2 at *
    refine⟨_,rfl,t,rfl,λz hz=>?_⟩;refine zbV (x:=t) (λj σ H'=>∃(u0 u1:Option V),σ=[u0,u1,some (.ref d),some (.int (i:Nat))]/\zq H2 H'/\H' z=some (.lst (((jD kvs i t.cps.toList).take j).map λc=>V.str ⟨#[c]⟩))) ⟨_,_,rfl,ze hz,zd⟩ ?_ ?_
    .rintro j c t2 σ H3 hc ht2 ⟨u0,u1,rfl,s3,hz3⟩;have hc':t.cps.toList[j]?=some c:=by rw[Xr];exact hc
     refine⟨t2,_,rfl,SqT.of zd,rfl,_,_,rfl,_,_,rfl,rfl,?_⟩;have s4:zq H3 (upd H3 t2 (.tup [.int (j:Nat),.str ⟨#[c]⟩])):=ze ht2;have hd4:=s4 _ _ (s3 _ _ (s2 _ _ hd));have hz4:=s4 _ _ hz3;have s34:=s3.trans s4;generalize upd H3 t2 (.tup [.int (j:Nat),.str ⟨#[c]⟩])=H4 at *
     unfold zjD;refine Yg ⟨_,rfl,d,rfl,.inr ⟨kvs,.inl hd4⟩,_,rfl,_,rfl,zbn,λtp htp=>⟨_,rfl,jY kvs (ju (i,j)),?_,?_⟩⟩
     .exact zei.t (k:=ju (i,j)) (ze htp _ _ hd4) zd
     have s5:=ze (o:=.tup [.int (i:Nat),.int (j:Nat)]) htp;have fin:∀k:Nat,k=dig kvs (i,j) c->∃ys,upd H4 tp (.tup [.int (i:Nat),.int (j:Nat)]) z=some (.lst ys)/\ys.length<Xz/\∃(u0 u1:Option V),[some (V.int (j:Nat)),some (V.str ⟨#[c]⟩),some (.ref d),some (.int (i:Nat))]=[u0,u1,some (.ref d),some (.int (i:Nat))]/\zq H2 (upd (upd H4 tp (.tup [.int (i:Nat),.int (j:Nat)])) z (.lst (ys++[V.str ⟨#[k]⟩])))/\upd (upd H4 tp (.tup [.int (i:Nat),.int (j:Nat)])) z (.lst (ys++[V.str ⟨#[k]⟩])) z=some (.lst (((jD kvs i t.cps.toList).take (j+1)).map λc=>V.str ⟨#[c]⟩)):=λk hk=>by
      refine⟨_,s5 _ _ hz4,?_,_,_,rfl,λb' o e'=>?_,?_⟩
      .rw[Y1,XA];unfold jD;rw[U4];exact Xx (show _<=8 by lia) (by decide)
      .rw[zk (zh e' hz)];exact s5 _ _ (s34 _ _ e')
      .rw[zd,take_snoc (YV hc'),Xj,hk];rfl
     rcases hN.at (i,j) with e3 | ⟨v,hv,_,e3⟩
     .rw[e3];exact⟨_,_,rfl,.inl rfl,fin c (by unfold dig;rw[e3])⟩
     .rw[e3];refine⟨_,⟨#[48+v]⟩,rfl,.inr ⟨(v:Nat),rfl,?_,(zoH v hv).symm⟩,fin (48+v) (by unfold dig;rw[e3];rfl)⟩;have:∀v:Nat,v<=8->((v:Nat):Int).natAbs.log2<1920:=by decide+kernel
      exact this v hv
    .rintro σ H3 ⟨u0,u1,rfl,s3,hz3⟩;have ez:(jD kvs i t.cps.toList).take t.cps.size=jD kvs i t.cps.toList:=WD (by unfold jD;rw[U4,X7];exact XU _);rw[ez]at hz3;have hz3':H3 z=some (.lst (((jD kvs i t.cps.toList).map λc=>(⟨#[c]⟩:Str)).map V.str)):=by
      rw[hz3,WY];rfl
     have pl:(jD kvs i t.cps.toList).length<=8:=by
      unfold jD;rw[U4];exact tl8
     refine⟨_,rfl,.inl ⟨rfl,_,SqL.of (s3 _ _ hd2)⟩,rfl,_,rfl,"",z,_,rfl,rfl,SqL.of hz3',?_,d0,_,_,rfl,rfl,s3 _ _ hd2,?_,?_⟩
     .rw[zcQ,Y1];have:("":Str).length=0:=rfl;rw[this];lia
     .rw[Y1,XA,Jm];exact Xx (show _<=8 by lia) (by decide)
     .rw[zji];refine⟨_,_,_,rfl,λb' o e'=>?_,?_⟩
      .rw[zk (zh e' hd0)];exact s3 _ _ (s2 _ _ e')
      .rw[zd,take_snoc (zao e),Xj];rfl
  .rintro σ H1 ⟨v3,v4,v5,rfl,s1,hd1⟩;rw[Y1,<- Jm kvs rs,XB]at hd1;refine⟨_,rfl,_,rfl,p,_,1,_,rfl,rfl,SqT.of (b.mono s1).tp,rfl,zbn,λq2 hq2=>?_⟩;have s2:=ze (o:=.tup [.ref d0,.int n]) hq2;exact q q2 d0 _ (s1.free hq2) hd0 ⟨zd,s2 _ _ hd1⟩ (s1.trans s2)
def zap {p:Nat->Bool}{rs:AE}{c:AA}{t:Str}{k:Nat}(h:rs[c.1]?=some t)(hj:t.cps.toList[c.2]?=some k)(hp:p k=true):c∈Cells.zI p 0 (codes rs):=by
 have:=Ja (p:=p) (i:=0) (qM h) hj hp;rw[VL]at this;exact this
theorem zcR:∀{a b:AD},a.Pairwise Cells.lex->b.Pairwise Cells.lex->(∀x,x∈a↔x∈b)->a=b
 | [],[],_,_,_=>rfl
 | [],y::b,_,_,h=>absurd ((h y).mpr X2) V6
 | x::a,[],_,_,h=>absurd ((h x).mp X2) V6
 | x::a,y::b,ha,hb,h=>by
  obtain⟨a1,a2⟩:=TW.mp ha;obtain⟨b1,b2⟩:=TW.mp hb;have irr:∀z:AA,¬ Cells.lex z z:=λz hz=>by
   unfold Cells.lex at hz;lia
  have e:x=y:=by
   rcases XQ.mp ((h x).mp X2) with e | m1
   .exact e
   .rcases XQ.mp ((h y).mpr X2) with e | m2
    .exact e.symm
    .have h1:=b1 x m1;have h2:=a1 y m2;unfold Cells.lex at h1 h2;lia
  subst e;rw[zcR a2 b2 λz=>?_];constructor
  .intro hz;rcases XQ.mp ((h z).mp (XV _ hz)) with e | m
   .subst e;exact absurd (a1 z hz) (irr z)
   .exact m
  .intro hz;rcases XQ.mp ((h z).mpr (XV _ hz)) with e | m
   .subst e;exact absurd (b1 z hz) (irr z)
   .exact m
def one (c:AA)(m:Nat):KV1:=[(ju c,V.int (m:Nat))]
def zf5 {c:AA}{m:Nat}(h:m<=8):Nums [c] 1 (one c m):=⟨λkv hkv=>by
 rw[WB.mp hkv];exact⟨c,WB.mpr rfl,m,h,rfl,rfl⟩,by
 show [ju c].Nodup;exact Wl.mpr ⟨V6,.nil⟩,XU _⟩
def zhZ (c x:AA)(m k:Nat):dig (one c m) x k=if x=c then 48+m else k:=by
 unfold dig one;by_cases e:x=c
 .subst e;rw[jx rfl,bw rfl];rfl
 .rw[jy (λh=>e (zcJ h).symm),bq e];rfl
def zg0 {rs:AE}{c x:AA}{m:Nat}{t:Str}{k:Nat}(h1:rs[x.1]?=some t)(h2:t.cps.toList[x.2]?=some k):∃t',(jH (one c m) rs)[x.1]?=some t'/\t'.cps.toList[x.2]?=some (if x=c then 48+m else k):=by
 refine⟨zlk (one c m) x.1 t,zao h1,?_⟩;rw[Zz,YV h2,zhZ]
def zoI {rs:AE}{c x:AA}{m:Nat}{t':Str}{k':Nat}(h1:(jH (one c m) rs)[x.1]?=some t')(h2:t'.cps.toList[x.2]?=some k'):∃t k,rs[x.1]?=some t/\t.cps.toList[x.2]?=some k/\k'=if x=c then 48+m else k:=by
 cases e:rs[x.1]? with
 | none =>
  have h0:=Wo.mp e;rw[Wo.mpr (by rw[Jm];exact h0)]at h1;cases h1
 | some t =>
  rw[zao e]at h1;have et:=Option.some.inj h1;subst et;rw[Zz]at h2;cases e2:t.cps.toList[x.2]? with
  | none =>
   have h0:=Wo.mp e2;rw[Wo.mpr (by unfold jD;rw[U4];exact h0)]at h2;cases h2
  | some k =>
   rw[YV e2,zhZ]at h2;exact⟨t,k,rfl,e2,(Option.some.inj h2).symm⟩
def zcS {p:Nat->Bool}{rs:AE}{c x:AA}{m:Nat}(hc:c∈zM rs):x∈Cells.zI p 0 (codes (jH (one c m) rs))↔(x=c/\p (48+m)=true)\/(x≠c/\x∈Cells.zI p 0 (codes rs)):=by
 constructor
 .intro h;obtain⟨t',k',h1,h2,hp,_⟩:=zK h;obtain⟨t,k,g1,g2,e⟩:=zoI h1 h2;by_cases ex:x=c
  .rw[bw ex]at e;exact .inl ⟨ex,by rw[<- e];exact hp⟩
  .rw[bq ex]at e;exact .inr ⟨ex,zap g1 g2 (by rw[<- e];exact hp)⟩
 .rintro(⟨rfl,hp⟩ | ⟨ex,h⟩)
  .obtain⟨t,k,h1,h2,_,_⟩:=zK hc;obtain⟨t',g1,g2⟩:=zg0 (c:=x) (m:=m) h1 h2;rw[bw rfl]at g2;exact zap g1 g2 hp
  .obtain⟨t,k,h1,h2,hp,_⟩:=zK h;obtain⟨t',g1,g2⟩:=zg0 (c:=c) (m:=m) h1 h2;rw[bq ex]at g2;exact zap g1 g2 hp
def zll {rs:AE}{c:AA}{m:Nat}(hc:c∈zM rs)(hm:m<=8):zM (jH (one c m) rs)=(zM rs).filter λx=>!decide (x=c):=by
 refine zcR (Cells.jP _ 0 _) ((Cells.jP _ 0 _).filter _) λx=>?_;rw[XX,Wu,decide_eq_false_iff_not];unfold zM;rw[zcS hc];have hp:jV (48+m)=false:=bf (by lia);rw[hp];constructor
 .rintro(⟨_,h⟩ | ⟨h1,h2⟩)
  .cases h
  .exact⟨h2,h1⟩
 .rintro⟨h1,h2⟩;exact .inr ⟨h2,h1⟩
def zg1 {rs:AE}{c y:AA}{m:Nat}(hc:c∈zM rs)(hm:m<=8):zE (jH (one c m) rs) y=zE rs y:=by
 unfold zE;congr 1;refine zcR (Cells.jP _ 0 _) (Cells.jP _ 0 _) λx=>?_;rw[zcS hc];have hp:qh (48+m)=true:=by
  unfold qh;rw[bf (by lia)];rfl
 constructor
 .rintro(⟨rfl,_⟩ | ⟨_,h⟩)
  .obtain⟨t,k,h1,h2,h3,_⟩:=zK hc;refine zap h1 h2 ?_;have e:k=63:=bh h3;rw[e];rfl
  .exact h
 .intro h;by_cases e:x=c
  .exact .inl ⟨e,hp⟩
  .exact .inr ⟨e,h⟩
def zmN {rs:AE}{c x:AA}{m:Nat}{t:Str}{k:Nat}(h1:rs[x.1]?=some t)(h2:t.cps.toList[x.2]?=some k):Cells.sgn (codes (jH (one c m) rs)) x=if x=c then 48+m else k:=by
 obtain⟨t',g1,g2⟩:=zg0 (c:=c) (m:=m) h1 h2;exact Cells.zci (qM g1) g2
def zmO {X:AD}{c:AA}(hc:c∈X)(nd:X.Nodup){p:AD->Bool}(hp:Tally.Inv p)(k:Nat):Tally.T X p k=Tally.T (X.filter λx=>!decide (x=c)) p k+Tally.T X (λS=>p S&&decide (c∈S)) k:=by
 have pm:X.Perm (c::X.filter λx=>!decide (x=c)):=by
  refine(Vf nd (Wl.mpr ⟨λh=>?_,nd.sublist Wj⟩)).mpr λx=>?_
  .have:=(XX.mp h).2;simp at this
  .rw[XQ,XX];by_cases e:x=c
   .exact⟨λ_=>.inl e,λ_=>e ▸ hc⟩
   .exact⟨λh=>.inr ⟨h,by simp[e]⟩,λh=>h.elim (λz=>absurd z e) λz=>z.1⟩
 have hq:Tally.Inv λS=>p S&&decide (c∈S):=λa b e=>by
  show (p a&&decide (c∈a))=(p b&&decide (c∈b));rw[hp a b e,decide_eq_decide.mpr e.mem_iff]
 rw[Tally.zaT pm hp,Tally.zaT pm hq];unfold Tally.T;rw[Tally.count_cons,Tally.count_cons];have z:(Subs.subs (X.filter λx=>!decide (x=c))).countP (λS=>decide (S.length=k)&&(p S&&decide (c∈S)))=0:=by
  refine Vy.mpr λS hS h=>?_;rw[WG,WG,bu,bu]at h;have:=(XX.mp ((Tally.jQ hS).subset h.2.2)).2;simp at this
 rw[z,VL];congr 1;refine Vh λS _=>?_;show (decide ((c::S).length=k)&&p (c::S))=true↔(decide ((c::S).length=k)&&(p (c::S)&&decide (c∈c::S)))=true;rw[br (X2:c∈c::S),Uh]
def zjk (rs:AE)(n:Int)(c:AA):Nat->Int
 | 0=>0
 | m+1=>zjk rs n c m+Yv (jH (one c m) rs) n
def zaq {a b:AD}(h:a.Nodup)(s:∀x∈a,x∈b):a.length<=b.length:=by
 induction a generalizing b with
 | nil=>exact W7 _
 | cons x a ih =>
  rw[Wl]at h;have hx:=s x X2;have:=ih (b:=b.erase x) h.2 λy hy=>(RN (show y≠x from λe=>h.1 (by rw[<- e];exact hy))).mpr (s y (XV _ hy));rw[S4 hx]at this;have:0<b.length:=Vg hx;rw[XE];lia
def zg2 (rs:AE)(c:AA):(zE rs c).length<=8:=by
 unfold zE;refine zaq (b:=[(c.1-1,c.2-1),(c.1-1,c.2),(c.1-1,c.2+1),(c.1,c.2-1),(c.1,c.2+1),(c.1+1,c.2-1),(c.1+1,c.2),(c.1+1,c.2+1)]) ((yh (Cells.jP qh 0 (codes rs))).sublist Wj) λx hx=>?_;obtain⟨⟨h1,h2⟩,⟨h3,h4⟩⟩:(x.1<=c.1+1/\c.1<=x.1+1)/\((x.2<=c.2+1/\c.2<=x.2+1)/\¬ (x.1=c.1/\x.2=c.2)):=by
  have h:=(Cells.Zg x c).mp (XX.mp hx).2;exact⟨h.1,h.2.1,λz=>h.2.2 (Prod.ext z.1 z.2)⟩
 simp only[XQ,Prod.ext_iff,V6,or_false];lia
def zlm {rs:AE}(R:Rows bd.cps.toList rs){c:AA}{S:AD}(nd:S.Nodup):Grow.cnt (nearF rs) c S<=8:=by
 unfold Grow.cnt;refine X0 ?_ (zg2 rs c);refine zaq (nd.sublist Wj) λx hx=>?_;obtain⟨z,h1,h2⟩:=Wm.mp (XX.mp hx).2;rw[<- bh h2];exact h1
def zjl {rs:AE}{c:AA}{m:Nat}(hc:c∈zM rs)(hm:m<=8)(S:AD):qE (jH (one c m) rs) S=(qE rs S&&decide (Grow.cnt (nearF rs) c S=m)):=by
 have nf:∀o,nearF (jH (one c m) rs) o=nearF rs o:=λo=>funext λx=>by
  unfold nearF;rw[zg1 hc hm]
 have cn:∀o,Grow.cnt (nearF (jH (one c m) rs)) o S=Grow.cnt (nearF rs) o S:=λo=>by
  unfold Grow.cnt;rw[nf o]
 have nc:∀o∈zR rs,o≠c:=λo ho e=>by
  rw[e]at ho;obtain⟨t,k,h1,h2,h3,h4⟩:=zK ho;rw[zkW hc]at h4;rw[<- h4]at h3;cases h3
 have num:∀o,o=c\/o∈zR rs->je (jH (one c m) rs) o=if o=c then (m:Int) else je rs o:=λo ho=>by
  have hx:∃t k,rs[o.1]?=some t/\t.cps.toList[o.2]?=some k/\Cells.sgn (codes rs) o=k:=by
   rcases ho with rfl | ho
   .obtain⟨t,k,h1,h2,_,h4⟩:=zK hc;exact⟨t,k,h1,h2,h4⟩
   .obtain⟨t,k,h1,h2,_,h4⟩:=zK ho;exact⟨t,k,h1,h2,h4⟩
  obtain⟨t,k,h1,h2,h4⟩:=hx;unfold je;rw[zmN h1 h2];by_cases e:o=c
  .rw[bw e,bw e];lia
  .rw[bq e,bq e,h4]
 have po:Jz (48+m)=true:=by
  have:∀m:Nat,m<=8->Jz (48+m)=true:=by decide
  exact this m hm
 refine Ww.mpr ?_;rw[WG,bu,yM,yM];constructor
 .intro h;refine⟨λo ho=>?_,?_⟩
  .have:=h o ((zcS hc).mpr (.inr ⟨nc o ho,ho⟩));rw[cn,num o (.inr ho),bq (nc o ho)]at this;exact this
  .have:=h c ((zcS hc).mpr (.inl ⟨rfl,po⟩));rw[cn,num c (.inl rfl),bw rfl]at this;lia
 .rintro⟨h1,h2⟩ o ho;rcases(zcS hc).mp ho with ⟨rfl,_⟩ | ⟨hn,ho⟩
  .rw[cn,num o (.inl rfl),bw rfl,h2]
  .rw[cn,num o (.inr ho),bq hn];exact h1 o ho
theorem zh0 {rs:AE}{n:Int}{c:AA}(hc:c∈zM rs):∀m,m<=9->zjk rs n c m=((Tally.T ((zM rs).filter λx=>!decide (x=c)) (λS=>qE rs S&&decide (Grow.cnt (nearF rs) c S<m)) n.toNat:Nat):Int)
 | 0,_=>by
  have:Tally.T ((zM rs).filter λx=>!decide (x=c)) (λS=>qE rs S&&decide (Grow.cnt (nearF rs) c S<0)) n.toNat=0:=by
   unfold Tally.T;refine Vy.mpr λS _ h=>?_;rw[WG,WG,bu (p:=Grow.cnt (nearF rs) c S<0)]at h;lia
  rw[this];rfl
 | m+1,hm=>by
  show zjk rs n c m+Yv (jH (one c m) rs) n=_;rw[zh0 hc m (by lia)];unfold Yv;rw[zll hc (by lia),Tally.zey (q:=λS=>qE rs S&&decide (Grow.cnt (nearF rs) c S=m)) (λS _=>zjl hc (by lia) S),<- Uv];congr 1;unfold Tally.T;generalize Subs.subs ((zM rs).filter λx=>!decide (x=c))=L;induction L with
  | nil=>rfl
  | cons S r ih =>
   rw[Ws,Ws,Ws,<- ih];by_cases hw:(decide (S.length=n.toNat)&&qE rs S)=true
   .rw[WG]at hw;simp only[hw.1,hw.2,S6,bu];by_cases h1:Grow.cnt (nearF rs) c S<m
    .rw[bw h1,bq (by lia),bw (by lia)];lia
    .by_cases h2:Grow.cnt (nearF rs) c S=m
     .rw[bq h1,bw h2,bw (by lia)];lia
     .rw[bq h1,bq h2,bq (by lia)];lia
   .have e:∀q:Bool,(decide (S.length=n.toNat)&&(qE rs S&&q))=false:=λq=>by
     rw[<- Ss,WX.mpr hw];rfl
    simp only[e];simp
def zg3 {rs:AE}(R:Rows bd.cps.toList rs){n:Int}{c:AA}(hc:c∈zM rs):Yv rs n=xH rs n c+zjk rs n c 9:=by
 rw[zh0 hc 9 (by lia)];unfold Yv xH;rw[zmO hc (Z0 rs) (Qq rs),Uv,Int.add_comm];congr 2;refine Tally.zey (λS hS=>?_) _;rw[br (Nat.lt_succ_of_le (zlm R (((Z0 rs).sublist Wj).sublist (Tally.jQ hS)))),Uh]
def Qs (a b:Str):(a++b).cps.toList=a.cps.toList++b.cps.toList:=by
 have e:(a++b).cps=a.cps++b.cps:=rfl;rw[e,WQ]
def cV (ts:List Nat):AF:=ts.map λc=>V.str ⟨#[c]⟩
def zcT (ts:List Nat):(cV ts).length=ts.length:=Y1 _
def zln (ts:List Nat)(j c:Nat):(cV ts).set j (V.str ⟨#[c]⟩)=cV (ts.set j c):=by
 unfold cV;rw[NC]
def zf6 {ts:List Nat}{j:Nat}(h:j<ts.length):(cV ts)[j]?=some (V.str ⟨#[ts.getD j 0]⟩):=by
 unfold cV;rw[Xn,X5 h,XH,X5 h];rfl
def getD_mem {ts:List Nat}{j:Nat}(h:j<ts.length):ts.getD j 0∈ts:=by
 rw[XH,X5 h];exact T6 h
def mem_set {c:Nat}{S:List Nat}(hc:c∈S){ts:List Nat}(h:∀x∈ts,x∈S)(j:Nat):∀x∈ts.set j c,x∈S:=λx hx=>by
 rcases P9 hx with h1 | h1
 .exact h x h1
 .rw[h1];exact hc
def zg4:(".":Str)=⟨#[46]⟩:=by decide+kernel
def zlo:("o":Str)=⟨#[111]⟩:=by decide+kernel
def J3 {x:Int}{M:Nat}(h:0<M):0<=x%(M:Int)/\x%(M:Int)<(M:Int):=⟨RI _ (by lia),SN _ (by lia)⟩
def ZC:bd.cps.toList=[63,48,49,50,51,52,53,54,55,56,35]:=by decide+kernel
def zf7 {m:Nat}(h:m<=8):48+m∈bd.cps.toList:=by
 rw[ZC];have:∀m∈Xp 9,48+m ∈ [63,48,49,50,51,52,53,54,55,56,35]:=by decide
 exact this m (Xq.mpr (by lia))
def zd0 {m:Nat}(h:m<=8):V.str (toString ((m:Nat):Int))=V.str ⟨#[48+m]⟩:=by
 have:=zkG (k:=48+m) (by lia) (by lia);rwa [show (((48+m:Nat):Int)-48)=((m:Nat):Int) by lia]at this
def zlp {xs:List Nat}{i:Nat}{v:V}(h:(pV xs)[i]?=some v):∃x,xs[i]?=some x/\v=.int ((x:Nat):Int):=by
 unfold pV at h;rw[Xn]at h;cases e:xs[i]? with
 | none=>rw[e]at h;cases h
 | some x =>
  rw[e]at h;cases h;exact⟨x,rfl,rfl⟩
def Z4 (c k:Nat):decide (V.str ⟨#[c]⟩=V.str ⟨#[k]⟩)=decide (c=k):=decide_eq_decide.mpr (by rw[Qj])
theorem zd1:∀rs:AE,(Uu "" rs).cps.toList=(codes rs).flatten
 | []=>by decide+kernel
 | [t]=>by
  show t.cps.toList=_;unfold codes;simp
 | t::u::r=>by
  have ih:=zd1 (u::r);show (t++("":Str)++Uu "" (u::r)).cps.toList=_;rw[Qs,Qs,ih];have e:("":Str).cps.toList=[]:=by decide+kernel
  rw[e,W6];rfl
def Yy {α:Type}{p:α->Bool}{L:List α}{j:Nat}{k:α}(hk:L[j]?=some k):(L.take (j+1)).filter p=(L.take j).filter p++if p k=true then [k] else []:=by
 rw[Xh,hk,W8];congr 1;show Tv _ [k]=_;rw[Wn];split<;>rfl
def zeL {p:Nat->Bool}(j:Nat):(Xp (j+1)).filter p=(Xp j).filter p++if p j=true then [j] else []:=by
 rw[UN,W8];congr 1;show Tv _ [j]=_;rw[Wn];split<;>rfl
def zjm {u:Nat}(h:u∈bd.cps.toList)(k:(!(!(UV ("?#":Str) ⟨#[u]⟩ 0 ("?#":Str).length 1).isEmpty))=true):48<=u/\u<=56:=by
 have:∀u∈bd.cps.toList,(!(!(UV ("?#":Str) ⟨#[u]⟩ 0 ("?#":Str).length 1).isEmpty))=true->48<=u/\u<=56:=by decide+kernel
 exact this u h k
theorem join_one:∀ts:List Nat,(Uu "" (ts.map λc=>(⟨#[c]⟩:Str)))=⟨ts.toArray⟩
 | []=>rfl
 | [c]=>rfl
 | c::c'::r=>by
  have ih:=join_one (c'::r);show (⟨#[c]⟩:Str)++("":Str)++Uu "" ((c'::r).map λc=>(⟨#[c]⟩:Str))=_;rw[ih];have e:((⟨#[c]⟩:Str)++("":Str))=⟨#[c]⟩:=by
   show (⟨#[c]++("":Str).cps⟩:Str)=_;have:("":Str).cps=#[]:=by decide+kernel
   rw[this];rfl
  rw[e];show (⟨#[c]++(c'::r).toArray⟩:Str)=⟨(c::c'::r).toArray⟩;congr 1;apply Th.mp;rw[WQ];rfl
def rowOf (us:List Nat)(n k:Nat):List Nat:=(us.drop (n*k)).take n
def rowsOf (us:List Nat)(n R:Nat):AE:=(Xp R).map λk=>(⟨(rowOf us n k).toArray⟩:Str)
def zeM (us:List Nat)(n R:Nat):codes (rowsOf us n R)=(Xp R).map (rowOf us n):=by
 unfold codes rowsOf;rw[WY];rfl
theorem zbi (us:List Nat)(n:Nat):∀R,((Xp R).map (rowOf us n)).flatten=us.take (n*R)
 | 0=>by simp
 | R+1=>by
  rw[UN,Xj,Wi,zbi us n R];show _++(rowOf us n R++[])=_;rw[W6];unfold rowOf;rw[NB,List.take_add]
def za4 {us:List Nat}{n R k:Nat}(h:us.length=R*n)(hk:k<R):(rowOf us n k).length=n:=by
 unfold rowOf;rw[XA,Vp,h];have:n*k+n<=R*n:=by
  rw[<- NB,Tn];exact Oe n hk
 lia
def zmP {us:List Nat}{n R k:Nat}(h:us.length=R*n)(hk:k<R):QG (cV us) (some (((n*k:Nat):Nat):Int)) (some (((n*k+n:Nat):Nat):Int))=cV (rowOf us n k):=by
 have:n*k+n<=R*n:=by
  rw[<- NB,Tn];exact Oe n hk
 unfold QG rowOf;rw[zcT,HT.zbu,HT.zbu,OO (by lia),OO (by lia),show n*k+n-n*k=n by lia];unfold cV;rw[Ui,S7]
def zpS (x:Int):∃z:Int,atI [V.int 0,V.int 0,V.int 0,V.int 1,V.int (-1),V.int 0] (x%6)=some (.int z)/\z<=1:=by
 have a0:=RI x (show (6:Int)≠0 by decide);have a1:=SN x (show (0:Int)<6 by decide);have t:∀m∈Xp 6,∃z ∈ [(0:Int),1,-1],atI [V.int 0,V.int 0,V.int 0,V.int 1,V.int (-1),V.int 0] ((m:Nat):Int)=some (.int z):=by decide+kernel
 obtain⟨z,h1,h2⟩:=t (x%6).toNat (Xq.mpr (by lia));rw[V1 a0]at h2;have t2:∀z ∈ [(0:Int),1,-1],z<=1:=by decide
 exact⟨z,h2,t2 z h1⟩
def isO (ts:List Nat)(y:Nat):Bool:=decide (ts.getD y 0=111)
def tx (R n:Nat)(ts:List Nat)(x:Nat):Nat:=if ts.getD x 0=46 then 48+((j3 R n x).filter (isO ts)).length else if ts.getD x 0=111 then 63 else ts.getD x 0
def txs (R n:Nat)(ts:List Nat):List Nat:=(Xp (R*n)).map (tx R n ts)
def Sg (ts:List Nat):Prop:=∀c∈ts,c=46\/c=63\/c=111\/c=35
def zpT {R n:Nat}{ts:List Nat}(tm:Sg ts)(r8:R<=8)(n8:n<=8){x:Nat}(hx:x<ts.length)(hm:x<R*n):tx R n ts x∈bd.cps.toList:=by
 have c4:=tm _ (getD_mem hx);unfold tx;rcases c4 with e | e | e | e
 .rw[bw e];exact zf7 (X0 (Xa _ _) (JC r8 n8 hm))
 .rw[bq (by lia),bq (by lia),e,ZC];decide
 .rw[bq (by lia),bw e,ZC];decide
 .rw[bq (by lia),bq (by lia),e,ZC];decide
def zlq {R n:Nat}{ts:List Nat}(tm:Sg ts)(r8:R<=8)(n8:n<=8)(tl:ts.length=R*n):∀c∈txs R n ts,c∈bd.cps.toList:=λc hc=>by
 obtain⟨x,hx,rfl⟩:=XO.mp hc;have:=Xq.mp hx;exact zpT tm r8 n8 (by lia) this
def zh1 (R n:Nat)(ts:List Nat):(txs R n ts).length=R*n:=by
 unfold txs;rw[Y1,W4]
def zqA:Sp:=λvs H Q _=>∃(l:Addr) (ts:List Nat) (R n:Nat),vs=[.ref l,.int (R:Nat),.int (n:Nat)]/\H l=some (.lst (cV ts))/\ts.length=R*n/\R<=8/\1<=n/\n<=8 /\
 ∀(d:Addr) (H':Hp),H d=none->H' d=some (.lst (cV (txs R n ts)))->zq H H'->Q (.ref d) H'
def jU:zH ["_law_signs","_law_rows","_law_columns","_law_found","_law_at","_law_sign"] ["_law_signs","_law_rows","_law_columns"] (zj xC):=bz
def zar (T:Txt mg)(Z:Prog K mg)(D:zu K mg "_law_texts" xC ["_law_signs","_law_rows","_law_columns"] f fd):ql P w K mg base CX0 2 f fd ["_law_signs","_law_rows","_law_columns"] zqA:=by
 obtain⟨zg5,zf8,JD⟩:=Z.law_near;refine D.F.ok jU (λvs H Q E h=>?_) (λcdv A outer s H vs Q E hr h=>?_)
 .obtain⟨l,ts,R,n,rfl,_⟩:=h;rfl
 .obtain⟨l,ts,R,n,rfl,hl,tl,r5,n1,n5,q⟩:=h;have m25:R*n<=8*8:=Ts r5 n5;refine⟨_,(@zf _ _ _ _ _ (@zv _ _ 3 _ _ _ _ jU.nd rfl (XD rfl) (@qf _ _ _ _ zc) (by rfl) (.inr rfl)) (zf (qq W3 rfl (qW (by rfl) T.jh (za (zD yW (pvS 1) (pvS 2)) zc)) (zo (i:=4) jU.nd rfl (XD rfl)) (zf (zv (i:=5) jU.nd rfl (XD rfl) (qt qz (pvS 0) (pvS 4) (λ_ _=>rfl))) (zbx (jm (zQ Yc (pvS 5) qe (qa _)) (zg (zv (i:=5) jU.nd rfl (XD rfl) (ji ZI (by rfl) T.zkD Sa (za (zp zJ (by rfl) T.jK WL (za (qB (N:=["_law_one","_law_signs"]) (src:=[none,some 0]) (zZ.free (O:=(zj xC).names) (XN:=["_law_signs","_law_rows","_law_columns","_law_found","_law_at","_law_sign"]) rfl rfl ⟨_,rfl⟩ rfl rfl (by decide+kernel) (by decide+kernel) (by decide+kernel) rfl (by decide+kernel)) rfl (z4 (pc0 (zbh T JD) hr JD (za (pvS 4) (za (pvS 1) (za (pvS 2) zc))))) (λ_ _ _ _ _=>(zo (i:=0) (by show WZ (["_law_one","_law_signs"]:AE);decide+kernel) rfl (XD rfl))) (λ_ _ _ _ _=>(qO (zQ Yc (qt (ziF (K:=K) (by rfl)) (pvS 1) (pvS 0) (λ_ _=>rfl)) qe (qa _)))) (λ_ _ _ _ _=>(pvS 0))) zc)) zc)))) qp) (zbx (jm (zQ Yc (pvS 5) qe (qa _)) (@zg _ _ _ (@zv _ _ 5 _ _ _ _ jU.nd rfl (XD rfl) qe (by rfl) (.inr rfl))) qp) (zg (j5 (yu W2 Wh Wg jd (pvS 3) (za (pvS 5) zc)))))))) (zg (zL (pvS 3))))),?_⟩;(try dsimp only[cxK,cxP,cxW]);refine⟨Zf,λd hd=>?_⟩;have s0:zq H (upd H d (.lst [])):=ze hd;have em:(((R:Nat):Int)*((n:Nat):Int))=((R*n:Nat):Int):=(SZ R n).symm;refine⟨_,rfl,_,rfl,_,_,rfl,rfl,ze2 (by lia) (by lia),_,rfl,by lia,by lia,?_⟩;refine qx (lo:=0) (n:=(((R:Nat):Int)*((n:Nat):Int)).toNat) (λi σ H'=>∃(v4 v5:Option V),σ=[some (.ref l),some (.int (R:Nat)),some (.int (n:Nat)),some (.ref d),v4,v5]/\zq H H'/\H' d=some (.lst (cV ((Xp i).map (tx R n ts)))))
   ⟨_,_,rfl,s0,zd⟩ ?_ ?_
  .rintro i σ H1 hi ⟨v4,v5,rfl,s1,hd1⟩;have iM:i<R*n:=by lia
   have jl:i<ts.length:=by lia
   rw[show (0:Int)+(i:Nat)=((i:Nat):Int) by lia];refine⟨_,rfl,_,rfl,l,_,_,_,rfl,rfl,SqL.of (s1 _ _ hl),jW (by lia) (by rw[WI];exact zf6 jl),?_⟩;refine⟨fun σ' H'=>∃(k:Nat),σ'=[some (.ref l),some (.int (R:Nat)),some (.int (n:Nat)),some (.ref d),some (.int ((i:Nat):Int)),some (.str ⟨#[k]⟩)]/\zq H1 H'/\k=(if ts.getD i 0=46 then 48+((j3 R n i).filter (isO ts)).length else ts.getD i 0),?_,?_⟩
   .refine⟨_,rfl,rfl,_,rfl,zcX (λhx=>?_) (λhx=>?_)⟩
    .rw[zg4,Z4]at hx;have e46:ts.getD i 0=46:=bh hx;refine⟨_,rfl,_,rfl,_,rfl,i,R,n,rfl,r5,n1,n5,iM,λnp H2 hnp zlr s2=>⟨np,rfl,⟨_,SqL.of zlr⟩,λz hz=>?_⟩⟩;refine qC (K:=K) (a:=np) (xs:=pV (j3 R n i)) (λj σ' H'=>∃(u0:Option V) (ys:AF),σ'=[u0,some (.ref l)]/\zq H2 H'/\H' z=some (.lst ys)/\ys.length=(((j3 R n i).take j).filter (isO ts)).length)
      ⟨_,[],rfl,ze hz,zd,rfl⟩ (λj σ' H' _ ⟨_,_,_,y,_⟩=>SqL.of (y _ _ zlr)) ?_ ?_
     .rintro j v σ' H3 hv ⟨u0,ys,rfl,s3,hz3,yl⟩;obtain⟨x,hx',rfl⟩:=zlp hv;have xm:=Xq.mp (XX.mp (XZ hx')).1;have n8:(((j3 R n i).take j).filter (isO ts)).length<=8:=X0 (Xa _ _) (X0 (Tb _ _) (X0 (UJ (XW.mp hx').1) (JC r5 n5 iM)));have st:=Yy (p:=isO ts) hx';refine⟨_,rfl,_,rfl,l,_,_,_,rfl,rfl,SqL.of (s3 _ _ (s2 _ _ (s1 _ _ hl))),jW (by lia) (by rw[WI];exact zf6 (j:=x) (by lia)),rfl,_,rfl,zcX (λhy=>?_) (λhy=>?_)⟩
      .rw[zlo,Z4]at hy;rw[bw (show isO ts x=true from hy)]at st;refine⟨_,rfl,_,hz3,Xx (show _<=64 by lia) (by decide),_,_,rfl,λb o e=>?_,zd,?_⟩
       .rw[zk (zh e hz)];exact s3 _ _ e
       .rw[st,XS,XS,yl];rfl
      .rw[zlo,Z4]at hy;rw[bq (show ¬ isO ts x=true from hy),W6]at st;exact⟨_,ys,rfl,s3,hz3,by rw[st];exact yl⟩
     rintro σ' H3 ⟨u0,ys,rfl,s3,hz3,yl⟩;have pl:(pV (j3 R n i)).length=(j3 R n i).length:=Y1 _;rw[pl,XB]at yl;have n8:ys.length<=8:=by rw[yl];exact X0 (Xa _ _) (JC r5 n5 iM)
     refine⟨z,ys,rfl,.inl (SqL.of hz3),_,rfl,?_,?_⟩
     .show (((ys.length:Nat):Int).natAbs).log2<1920;rw[Rh];exact Xx (Nat.log2_le_self _) (by lia)
     .exact⟨48+ys.length,congrArg (λv=>[some (V.ref l),some (.int (R:Nat)),some (.int (n:Nat)),some (.ref d),some (.int ((i:Nat):Int)),some v]) (zd0 n8),s2.trans s3,by rw[bw e46,yl]⟩
    .rw[zg4,Z4]at hx;exact⟨ts.getD i 0,rfl,zq.refl _,(bq λe=>hx (br e)).symm⟩
   rintro σ' H2 ⟨k,rfl,s2,ek⟩;refine⟨fun σ' H'=>σ'=[some (.ref l),some (.int (R:Nat)),some (.int (n:Nat)),some (.ref d),some (.int ((i:Nat):Int)),some (.str ⟨#[if k=111 then 63 else k]⟩)]/\H'=H2,?_,?_⟩
   .refine⟨_,rfl,rfl,_,rfl,zcX (λhx=>?_) (λhx=>?_)⟩
    .rw[zlo,Z4]at hx;rw[bw (bh hx)];exact⟨congrArg (λv=>[some (V.ref l),some (.int (R:Nat)),some (.int (n:Nat)),some (.ref d),some (.int ((i:Nat):Int)),some (V.str v)]) zaV,rfl⟩
    .rw[zlo,Z4]at hx;rw[bq λe=>hx (br e)];exact⟨rfl,rfl⟩
   rintro σ' H3 ⟨rfl,rfl⟩;have ek2:(if k=111 then 63 else k)=tx R n ts i:=by
    have n8:=X0 (Xa (isO ts) _) (JC r5 n5 iM);unfold tx;rw[ek];by_cases e:ts.getD i 0=46
    .rw[bw e,bw e,bq (by lia)]
    .rw[bq e,bq e]
   rw[ek2];have hd3:=s2 _ _ hd1;refine⟨_,rfl,.inl ⟨rfl,_,SqL.of hd3⟩,_,rfl,d,_,_,rfl,rfl,hd3,?_,_,_,rfl,λb o e=>?_,?_⟩
   .rw[zcT,Y1,W4];exact Xu (show i<64 by lia) (by decide)
   .rw[zk (zh e hd)];exact s2 _ _ (s1 _ _ e)
   .rw[zd,UN,Xj];unfold cV;rw[Xj];rfl
  .rintro σ H1 ⟨v4,v5,rfl,s1,hd1⟩;rw[em,WI]at hd1;exact⟨_,rfl,q d H1 hd hd1 s1⟩
def zg6 {c:Nat}(h:c∈("?":Str).cps.toList\/c∈("#":Str).cps.toList\/c∈("012345678":Str).cps.toList):c∈bd.cps.toList:=by
 rw[ZC];have e1:("?":Str).cps.toList=[63]:=by decide+kernel
 have e2:("#":Str).cps.toList=[35]:=by decide+kernel
 have e3:("012345678":Str).cps.toList=[48,49,50,51,52,53,54,55,56]:=by decide+kernel
 rw[e1,e2,e3]at h;have t1:∀c ∈ [63],c ∈ [63,48,49,50,51,52,53,54,55,56,35]:=by decide
 have t2:∀c ∈ [35],c ∈ [63,48,49,50,51,52,53,54,55,56,35]:=by decide
 have t3:∀c ∈ [48,49,50,51,52,53,54,55,56],c ∈ [63,48,49,50,51,52,53,54,55,56,35]:=by decide
 rcases h with h | h | h
 .exact t1 c h
 .exact t2 c h
 .exact t3 c h
def zpU (K:XY):Sp:=λvs H Q _=>∃(a:Addr) (ns:List Int) (R n:Nat),vs=[.ref a,.int (R:Nat),.int (n:Nat)]/\SqL K H a (ns.map V.int)/\1<=R/\R<=8/\1<=n/\n<=8 /\
 ∀(p l:Addr) (rs:AE) (c:Int) (H':Hp),H' p=some (.tup [.ref l,.int c,.bl false])->H' l=some (.lst (rs.map V.str))->rs.length=R->(∀t∈rs,Row bd.cps.toList n t)->0<=c->c<=64->zq H H'->Q (.ref p) H'
def jv:zH ["_law_script","_law_rows","_law_columns","_law_signs","_law_texts_here","_law_row","_law_number","_law_text","_law_column"] ["_law_script","_law_rows","_law_columns"] (zj YK):=bz
def zg7 (T:Txt mg)(Z:Prog K mg)(D:zu K mg "_law_dug" YK ["_law_script","_law_rows","_law_columns"] f fd):ql P w K mg base CX0 2 f fd ["_law_script","_law_rows","_law_columns"] (zpU K):=by
 obtain⟨J4,JE,zV⟩:=Z.law_cell_at;refine D.F.ok jv (λvs H Q E h=>?_) (λcdv A outer s H vs Q E hr h=>?_)
 .obtain⟨a,ns,R,n,rfl,_⟩:=h;rfl
 .obtain⟨a,ns,R,n,rfl,hS,r1,r8,n1,n8,q⟩:=h;refine⟨_,(@zf _ _ _ _ _ (@zv _ _ 3 _ _ _ _ jv.nd rfl (XD rfl) (@zD _ _ _ _ _ _ _ _ Qd (@zD _ _ _ _ _ _ _ _ Qd (@zD _ _ _ _ _ _ _ _ zb1 qe zm) (@zD _ _ _ _ _ _ _ _ zb1 qe zm)) qe) (by rfl) (.inr rfl)) (@zf _ _ _ _ _ (@zv _ _ 4 _ _ _ _ jv.nd rfl (XD rfl) (@qf _ _ _ _ zc) (by rfl) (.inr rfl)) (zf (qq W3 rfl (qW (by rfl) T.jh (za (pvS 1) zc)) (zo (i:=5) jv.nd rfl (XD rfl)) (zf (zv (i:=6) jv.nd rfl (XD rfl) (pc0 (yE T zV) hr zV (za (pvS 0) (@za _ _ _ _ _ (@zD _ _ _ _ _ _ _ _ qm zm (pvS 5)) zc rfl)))) (@zf _ _ _ _ _ (@zv _ _ 7 _ _ _ _ jv.nd rfl (XD rfl) qe (by rfl) (.inr rfl)) (zf (qq W3 rfl (qW (by rfl) T.jh (za (pvS 2) zc)) (zo (i:=8) jv.nd rfl (XD rfl)) (zf (zv (i:=7) jv.nd rfl (XD rfl) (zD Qd (pvS 7) (qt YH (pvS 3) (zD jf (pvS 6) zm) (λ_ _=>rfl)))) (zg (zv (i:=6) jv.nd rfl (XD rfl) (zD jN (pvS 6) zm))))) (zg (j5 (yu W2 Wh Wg jd (pvS 4) (za (pvS 7) zc)))))))) (zg (zL (yt (za (pvS 4) (za (zD jf (pc0 (yE T zV) hr zV (za (pvS 0) (@za _ _ _ _ _ zm zc rfl))) zm) (@za _ _ _ _ _ zdd zc rfl))))))))),?_⟩;(try dsimp only[cxK,cxP,cxW]);have l1:("?":Str).length=1:=by decide+kernel
  have l2:("#":Str).length=1:=by decide+kernel
  have l3:("012345678":Str).length=9:=by decide+kernel
  refine⟨_,_,rfl,rfl,(by decide),(by decide),(by rw[l1];decide),λz1 z1l z1m=>⟨_,_,rfl,rfl,(by decide),(by decide),(by rw[l2];decide),λz2 z2l z2m=>?_⟩⟩;rw[l1]at z1l;rw[l2]at z2l;have al:∀x y:Str,(x++y).length=x.length+y.length:=λx y=>by
   show (x++y).cps.size=x.cps.size+y.cps.size;rw[<- X7,Qs,XS,X7,X7]
  refine⟨_,_,rfl,rfl,?_,_,_,rfl,rfl,?_,?_⟩
  .rw[z1l,z2l];decide
  .rw[al,z1l,z2l,l3];decide
  obtain⟨sg,hsg⟩:∃sg:Str,sg=(z1++z2)++("012345678":Str):=⟨_,rfl⟩;have sl:sg.cps.toList.length=60:=by
   rw[X7];show sg.length=60;rw[hsg,al,al,z1l,z2l,l3];decide
  have sm:∀c∈sg.cps.toList,c∈bd.cps.toList:=λc hc=>by
   rw[hsg,Qs,Qs]at hc;rcases XR.mp hc with hc | hc
   .rcases XR.mp hc with hc | hc
    .exact zg6 (.inl (z1m c hc))
    .exact zg6 (.inr (.inl (z2m c hc)))
   .exact zg6 (.inr (.inr hc))
  show yr 3 (V.str ((z1++z2)++("012345678":Str))) _ _ _;rw[<- hsg];clear hsg z1l z1m z2l z2m;refine⟨Zf,λd hd=>?_⟩;have s0:zq H (upd H d (.lst [])):=ze hd;refine⟨_,rfl,_,rfl,by lia,by lia,?_⟩;refine qx (lo:=0) (n:=((R:Nat):Int).toNat) (λi σ H'=>∃(rs:AE) (v5 v6 v7 v8:Option V),σ=[some (.ref a),some (.int (R:Nat)),some (.int (n:Nat)),some (.str sg),some (.ref d),v5,v6,v7,v8]/\zq H H'/\H' d=some (.lst (rs.map V.str))/\rs.length=i/\(∀t∈rs,Row bd.cps.toList n t))
   ⟨[],_,_,_,_,rfl,s0,zd,rfl,(λ_ h=>nomatch h)⟩ ?_ ?_
  .rintro i σ H1 hi ⟨rs,v5,v6,v7,v8,rfl,s1,hd1,rl,rr⟩;refine⟨_,rfl,_,rfl,_,_,rfl,rfl,a,ns,_,rfl,s1.seq hS,by lia,λc=>?_⟩;refine⟨_,rfl,_,rfl,by lia,by lia,?_⟩;refine qx (lo:=0) (n:=((n:Nat):Int).toNat) (λj σ H'=>∃(t:Str) (x:Int) (v8:Option V),σ=[some (.ref a),some (.int (R:Nat)),some (.int (n:Nat)),some (.str sg),some (.ref d),some (.int (0+(i:Int))),some (.int x),some (.str t),v8]/\H'=H1/\t.cps.toList.length=j/\(∀c∈t.cps.toList,c∈bd.cps.toList))
    ⟨"",c,_,rfl,rfl,rfl,(by intro c hc;cases hc)⟩ ?_ ?_
   .rintro j σ H2 hj ⟨t,x,w8,rfl,rfl,tl,tm⟩;obtain⟨x0,x1⟩:=J3 (x:=x) (M:=60) (by decide);obtain⟨ch,hch⟩:∃ch,sg.cps.toList[(x%60).toNat]?=some ch:=⟨_,X5 (by lia)⟩;refine⟨_,rfl,_,rfl,_,rfl,_,_,rfl,rfl,(by show (0:Int)<60;decide),sg,_,ch,rfl,rfl,(by show sg.length<=Xz;rw[show sg.length=60 by rw[<- sl,X7];rfl];decide),jW x0 hch,_,_,rfl,rfl,?_,?_⟩
    .show t.cps.size+1<=Xz;have:t.cps.size=j:=by rw[<- tl,X7]
     exact X0 (show _<=64 by lia) (by decide)
    .refine⟨_,rfl,_,_,rfl,rfl,J7.small (by decide) (by decide),?_⟩;refine⟨t++⟨#[ch]⟩,x/60,_,rfl,rfl,?_,λc hc=>?_⟩
     .rw[Qs,XS,tl];rfl
     .rw[Qs]at hc;rcases XR.mp hc with hc | hc
      .exact tm c hc
      .have:c=ch:=by simpa using hc
       rw[this];exact sm ch (XZ hch)
   rintro σ H2 ⟨t,x,w8,rfl,rfl,tl,tm⟩;rw[WI]at tl;refine⟨_,rfl,.inl ⟨rfl,_,SqL.of hd1⟩,_,rfl,d,_,_,rfl,rfl,hd1,?_,rs++[t],_,_,_,_,rfl,λb o e=>?_,?_,?_,λu hu=>?_⟩
   .rw[Y1,rl];exact Xu (show i<64 by lia) (by decide)
   .rw[zk (zh e hd)];exact s1 _ _ e
   .rw[zd,Xj];rfl
   .rw[XS,rl];rfl
   .rcases XR.mp hu with hu | hu
    .exact rr u hu
    .have:u=t:=by simpa using hu
     rw[this];exact⟨by rw[<- tl,X7],tm⟩
  rintro σ H1 ⟨rs,v5,v6,v7,v8,rfl,s1,hd1,rl,rr⟩;rw[WI]at rl;refine⟨_,rfl,_,rfl,a,ns,_,rfl,s1.seq hS,by decide,λc=>⟨_,_,rfl,rfl,(by show (0:Int)<65;decide),ziJ,λp hp=>?_⟩⟩;have z2:=ze (o:=.tup [.ref d,.int (c%65),.bl false]) hp;exact q p d rs _ _ zd (z2 _ _ hd1) rl rr (by lia) (by lia) (s1.trans z2)
def zpV (x:Int):∃c:Nat,atI [V.str "?",V.str "?",V.str "o",V.str "?",V.str "o",V.str "#",V.str "?"] (x%7)=some (V.str ⟨#[c]⟩)/\(c=46\/c=63\/c=111\/c=35):=by
 have a0:=RI x (show (7:Int)≠0 by decide);have a1:=SN x (show (0:Int)<7 by decide);have t:∀m∈Xp 7,∃c ∈ [63,111,35],atI [V.str "?",V.str "?",V.str "o",V.str "?",V.str "o",V.str "#",V.str "?"] ((m:Nat):Int)=some (V.str ⟨#[c]⟩):=by decide+kernel
 obtain⟨c,h1,h2⟩:=t (x%7).toNat (Xq.mpr (by lia));rw[V1 a0]at h2;have t2:∀c ∈ [63,111,35],(c=46\/c=63\/c=111\/c=35):=by decide
 exact⟨c,h2,t2 c h1⟩
theorem Sg.set {ts:List Nat}(h:Sg ts)(j:Nat):Sg (ts.set j 46):=λx hx=>by
 rcases P9 hx with hx | hx
 .exact h x hx
 .exact .inl hx
def zls (rs:AE)(c:Int):Prop:=∃(ts:List Nat) (R n:Nat),ts.length=R*n/\Sg ts/\1<=R/\R<=8/\1<=n/\n<=8/\rs=rowsOf (txs R n ts) n R/\c=((ts.countP (λc=>decide (c=111)):Nat):Int)
def zpW (K:XY):Sp:=λvs H Q _=>∃(a:Addr) (ns:List Int),vs=[.ref a]/\SqL K H a (ns.map V.int) /\
 ∀(p l:Addr) (rs:AE) (c:Int) (zjn:Bool) (H':Hp),H' p=some (.tup [.ref l,.int c,.bl zjn])->H' l=some (.lst (rs.map V.str))->Rows bd.cps.toList rs->0<=c->c<=64->(zjn=true->zls rs c)->zq H H'->Q (.ref p) H'
def zcU (ts:List Nat):cV ts=(ts.map λc=>(⟨#[c]⟩:Str)).map V.str:=by
 unfold cV;rw[WY];rfl
theorem zf9:∀a b:List Nat,PyData.eqvAll ((a.map λc=>(⟨#[c]⟩:Str)).map VZ) ((b.map λc=>(⟨#[c]⟩:Str)).map VZ)=true->a=b
 | [],[],_=>rfl
 | [],_::_,h=>by cases h
 | _::_,[],h=>by cases h
 | x::a,y::b,h=>by
  have h:(WS (.str ⟨#[x]⟩) (.str ⟨#[y]⟩)&&PyData.eqvAll ((a.map λc=>(⟨#[c]⟩:Str)).map VZ) ((b.map λc=>(⟨#[c]⟩:Str)).map VZ))=true:=h;rw[WG]at h;have e:(⟨#[x]⟩:Str)=⟨#[y]⟩:=by
   have:=h.1;simpa[WS] using this
  have e:x=y:=by
   have:=congrArg (λt:Str=>t.cps.toList) e;simpa using this
  rw[e,zf9 a b h.2]
def zlt {a b:List Nat}(ha:∀c∈a,c∈bd.cps.toList)(hb:∀c∈b,c∈bd.cps.toList):zgl (.list ((a.map λc=>(⟨#[c]⟩:Str)).map VZ)) (.list ((b.map λc=>(⟨#[c]⟩:Str)).map VZ)):=by
  have row:∀{a:List Nat},(∀c∈a,c∈bd.cps.toList)->∀t∈a.map λc=>(⟨#[c]⟩:Str),Row bd.cps.toList 1 t:=λh t ht=>by
    obtain⟨c,hc,rfl⟩:=XO.mp ht;exact⟨rfl,λx hx=>(show x=c by simpa using hx)▸h c hc⟩
  refine⟨zab (row ha),zab (row hb),?_⟩;show VB _+1<=64;rw[Qi];decide
def zU:zH ["_law_script","_law_head","_law_rows","_law_columns","_law_signs","_law_row","_law_bits","_law_column","_law_k","_law_at","_law_told","_law_bent","_law_stones","_law_texts_here","_law_fair"] ["_law_script"] (zj xD):=bz
def zeN (T:Txt mg)(Z:Prog K mg)(D:zu K mg "_law_great" xD ["_law_script"] f fd):ql P w K mg base CX0 3 f fd ["_law_script"] (zpW K):=by
 obtain⟨J4,JE,zV⟩:=Z.law_cell_at;obtain⟨znk,zmQ,JW⟩:=Z.law_texts;obtain⟨zoO,zoJ,zd2⟩:=Z.law_dug;have qK:ql P w K mg base CX0 1 J4 JE ["_law_script","_law_k"] (zgL K):=yE T zV;refine D.F.ok zU (λvs H Q E h=>?_) (λcdv A outer s H vs Q E hr h=>?_)
 .obtain⟨a,ns,rfl,_⟩:=h;rfl
 .obtain⟨a,ns,rfl,hS,q⟩:=h;refine⟨_,(zf (zv (i:=1) zU.nd rfl (XD rfl) (pc0 qK hr zV (za (pvS 0) (@za _ _ _ _ _ zm zc rfl)))) (@zf _ _ _ _ _ (@zv _ _ 2 _ _ _ _ zU.nd rfl (XD rfl) (@zD _ _ _ _ _ _ _ _ qm zm (zD jf (pvS 1) zm)) (by rfl) (.inr rfl)) (@zf _ _ _ _ _ (@zv _ _ 3 _ _ _ _ zU.nd rfl (TL rfl) (@zD _ _ _ _ _ _ _ _ qm zm (zD jf (zD jN (pvS 1) zm) zm)) (by rfl) (.inl rfl)) (zf (jm (zQ Yc (zD jf (zD jN (pc0 qK hr zV (za (pvS 0) (@za _ _ _ _ _ zm zc rfl))) zm) zm) zm (qa _)) (zg (zL (pc0 (zg7 T Z zd2) hr zd2 (za (pvS 0) (@za _ _ _ _ _ (@zD _ _ _ _ _ _ _ _ qm zm (zD jf (pvS 1) zm)) (@za _ _ _ _ _ (@zD _ _ _ _ _ _ _ _ qm zm (zD jf (zD jN (pvS 1) zm) zm)) zc rfl) rfl))))) qp) (@zf _ _ _ _ _ (@zv _ _ 4 _ _ _ _ zU.nd rfl (XD rfl) (@qf _ _ _ _ zc) (by rfl) (.inr rfl)) (zf (qq W3 rfl (qW (by rfl) T.jh (za (pvS 2) zc)) (zo (i:=5) zU.nd rfl (XD rfl)) (zf (zv (i:=6) zU.nd rfl (XD rfl) (pc0 qK hr zV (za (pvS 0) (@za _ _ _ _ _ (@zD _ _ _ _ _ _ _ _ qm zm (pvS 5)) zc rfl)))) (zg (qq W3 rfl (qW (by rfl) T.jh (za (pvS 3) zc)) (zo (i:=7) zU.nd rfl (XD rfl)) (zf (j5 (yu W2 Wh Wg jd (pvS 4) (@za _ _ _ _ _ (@qt _ _ _ _ _ _ _ qz (@qf _ _ _ _ (@za _ _ _ _ _ qe (@za _ _ _ _ _ qe (@za _ _ _ _ _ qe (@za _ _ _ _ _ qe (@za _ _ _ _ _ qe (@za _ _ _ _ _ qe (@za _ _ _ _ _ qe zc rfl) rfl) rfl) rfl) rfl) rfl) rfl)) (zD jf (pvS 6) zm) (λ_ _=>rfl)) zc rfl))) (zg (zv (i:=6) zU.nd rfl (XD rfl) (zD jN (pvS 6) zm)))))))) (zf (qq W3 rfl (qW (by rfl) T.jh (za (zD jf (zD jN (pvS 1) zm) zm) zc)) (zo (i:=8) zU.nd rfl (XD rfl)) (zf (zv (i:=9) zU.nd rfl (XD rfl) (zD jf (pc0 qK hr zV (za (pvS 0) (@za _ _ _ _ _ (@zD _ _ _ _ _ _ _ _ qm zm (pvS 8)) zc rfl))) (zD yW (pvS 2) (pvS 3)))) (zg (jm (zQ zbN (qt qz (pvS 4) (pvS 9) (λ_ _=>rfl)) qe (qa _)) (@zg _ _ _ (@zd8 _ _ _ _ _ _ qe (zju (pvS 4) (pvS 9) set_list) (by rfl) (by rfl) (by rfl))) qp)))) (zf (zv (i:=10) zU.nd rfl (TL rfl) (pc0 (zar T Z JW) hr JW (za (pvS 4) (za (pvS 2) (za (pvS 3) zc))))) (zf (zv (i:=11) zU.nd rfl (XD rfl) (pc0 qK hr zV (za (pvS 0) (@za _ _ _ _ _ zm zc rfl)))) (zf (zv (i:=12) zU.nd rfl (XD rfl) (zp (Jg rfl) (by rfl) T.zdE U8 (@za _ _ _ _ _ zm (za (zp (J6 rfl) (by rfl) T.zdD U9 (@za _ _ _ _ _ zm (za (zD qm (yu W2 SF SD zfb (pvS 4) (@za _ _ _ _ _ qe zc rfl)) (@qt _ _ _ _ _ _ _ qz (@qf _ _ _ _ (@za _ _ _ _ _ zm (@za _ _ _ _ _ zm (@za _ _ _ _ _ zm (@za _ _ _ _ _ zm (za (zo3 znB zm) (@za _ _ _ _ _ zm zc rfl)) rfl) rfl) rfl) rfl)) (zD jf (pvS 11) zm) (λ_ _=>rfl))) zc) rfl)) zc) rfl))) (zf (zv (i:=9) zU.nd rfl (XD rfl) (zD jf (pc0 qK hr zV (za (pvS 0) (@za _ _ _ _ _ zm zc rfl))) (zD yW (pvS 2) (pvS 3)))) (zbx (jm (PW.pt (zjr (zQ Yc (zD jf (zD jN (pvS 11) zm) zm) zm (qa _)) (zhn (zQ QJ (qt qz (pvS 10) (pvS 9) (λ_ _=>rfl)) qe (by rfl))))) (zg (zd8 (ji ZI (by rfl) T.zkD Sa (za (zD jf (zD qm (zD qm (ji QL (by rfl) T.zkB Sc (za (qt qz (pvS 10) (pvS 9) (λ_ _=>rfl)) zc)) zm) (zD jf (zD jN (pvS 11) zm) zm)) zm) zc)) (zju (pvS 10) (pvS 9) set_list))) qp) (zf (ZM (i:=13) zU.nd rfl rfl (N:=["_law_k","_law_told","_law_columns"]) (src:=[none,some 10,some 3]) (zZ.free (O:=(zj xD).names) (XN:=["_law_script","_law_head","_law_rows","_law_columns","_law_signs","_law_row","_law_bits","_law_column","_law_k","_law_at","_law_told","_law_bent","_law_stones","_law_texts_here","_law_fair"]) rfl rfl ⟨_,rfl⟩ rfl rfl (by decide+kernel) (by decide+kernel) (by decide+kernel) rfl (by decide+kernel)) rfl (qW (by rfl) T.jh (za (pvS 2) zc)) (λ_ _ _ _ _=>(zo (i:=0) (by show WZ (["_law_k","_law_told","_law_columns"]:AE);decide+kernel) rfl (XD rfl))) (λ_ _ _ _ _=>qN) (λ_ _ _ _ _=>(@zn9 _ K _ _ _ _ _ _ _ _ _ _ _ (by rfl) Sh R9 R8 (zkh (K:=K) (by rfl)) qe (za (QF (zki (K:=K) (by rfl)) (pvS 1) (QE (zD yW (pvS 2) (pvS 0))) (QE (zD qm (zD yW (pvS 2) (pvS 0)) (pvS 2)))) zc) (by rfl) (by rfl) (by rfl) (by rfl) (by rfl)))) (zf (zv (i:=14) zU.nd rfl (XD rfl) (Yb (j6 Yc (pvS 12) (yu W2 SF SD zfb (pvS 4) (@za _ _ _ _ _ qe zc rfl)) (qa _)) (zay (j6 (jo hr.units) (pvS 10) (pc0 (zar T Z JW) hr JW (za (pvS 4) (za (pvS 2) (za (pvS 3) zc)))) (qa _))))) (zg (zL (yt (za (pvS 13) (za (pvS 12) (za (pvS 14) zc)))))))))))))))))))),?_⟩;(try dsimp only[cxK,cxP,cxW]);refine⟨_,rfl,a,ns,_,rfl,hS,by decide,λc=>?_⟩;refine⟨_,rfl,_,_,rfl,rfl,(by show (0:Int)<5;decide),_,_,rfl,rfl,?_⟩;show yr 2 (V.int (4+c%5)) _ _ _;obtain⟨x0,x1⟩:=J3 (x:=c) (M:=5) (by decide);obtain⟨R,hR⟩:∃R:Nat,4+c%5=(R:Int):=⟨(4+c%5).toNat,by lia⟩;rw[hR];refine⟨_,rfl,_,_,rfl,rfl,J7.small (by decide) (by decide),_,_,rfl,rfl,(by show (0:Int)<5;decide),_,_,rfl,rfl,?_⟩;show yr 3 (V.int (4+c/5%5)) _ _ _;obtain⟨y0,y1⟩:=J3 (x:=c/5) (M:=5) (by decide);obtain⟨n,hn⟩:∃n:Nat,4+c/5%5=(n:Int):=⟨(4+c/5%5).toNat,by lia⟩;rw[hn];have r1:1<=R:=by lia
  have r8:R<=8:=by lia
  have n1:1<=n:=by lia
  have n8:n<=8:=by lia
  have m1:0<R*n:=Nat.mul_pos (by lia) (by lia);have m64:R*n<=8*8:=Ts r8 n8;refine⟨_,rfl,a,ns,_,rfl,hS,by decide,λc1=>⟨_,_,rfl,rfl,J7.small (by decide) (by decide),_,_,rfl,rfl,(by show (0:Int)<4;decide),rfl,_,rfl,zcX (λ_=>?_) (λ_=>?_)⟩⟩
  .obtain⟨u0,u1⟩:=J3 (x:=c) (M:=8) (by decide);obtain⟨w0,w1⟩:=J3 (x:=c/8) (M:=8) (by decide);obtain⟨R',hR'⟩:∃R:Nat,1+c%8=(R:Int):=⟨(1+c%8).toNat,by lia⟩;obtain⟨n',hn'⟩:∃n:Nat,1+c/8%8=(n:Int):=⟨(1+c/8%8).toNat,by lia⟩;refine⟨_,rfl,_,rfl,_,_,rfl,rfl,(by show (0:Int)<8;decide),_,_,rfl,rfl,_,rfl,_,_,rfl,rfl,J7.small (by decide) (by decide),_,_,rfl,rfl,(by show (0:Int)<8;decide),_,_,rfl,rfl,a,ns,R',n',?_,hS,by lia,by lia,by lia,by lia,λp l rs b H1 hp hl rl rr b0 b1 s1=>?_⟩
   .show [V.ref a,V.int (1+c%8),V.int (1+c/8%8)]=_;rw[hR',hn']
   .exact q p l rs b false H1 hp hl ⟨by lia,by lia,n',by lia,by lia,rr⟩ b0 b1 (λz=>nomatch z) s1
  refine⟨Zf,λd hd=>?_⟩;have s0:zq H (upd H d (.lst [])):=ze hd;refine⟨_,rfl,_,rfl,by lia,by lia,?_⟩;refine qx (lo:=0) (n:=((R:Nat):Int).toNat) (λi σ H'=>∃(ts:List Nat) (v5 v6 v7:Option V),σ=[some (.ref a),some (.int c),some (.int (R:Nat)),some (.int (n:Nat)),some (.ref d),v5,v6,v7,none,none,none,none,none,none,none]/\zq H H'/\H' d=some (.lst (cV ts))/\ts.length=i*n/\Sg ts)
   ⟨[],_,_,_,rfl,s0,zd,by rw[Nat.zero_mul];rfl,(λ_ h=>nomatch h)⟩ ?_ ?_
  .rintro i σ H1 hi ⟨ts,v5,v6,v7,rfl,s1,hd1,tl,tm⟩;have i8:i*n+n<=64:=by
    have:(i+1)*n<=8*8:=Ts (by lia) n8;rw[Tp]at this;exact this
   refine⟨_,rfl,_,rfl,_,_,rfl,rfl,a,ns,_,rfl,s1.seq hS,by lia,λc2=>?_⟩;refine⟨_,rfl,_,rfl,by lia,by lia,?_⟩;refine qx (lo:=0) (n:=((n:Nat):Int).toNat) (λj σ H'=>∃(ts:List Nat) (x:Int) (v7:Option V),σ=[some (.ref a),some (.int c),some (.int (R:Nat)),some (.int (n:Nat)),some (.ref d),some (.int (0+(i:Int))),some (.int x),v7,none,none,none,none,none,none,none]/\zq H H'/\H' d=some (.lst (cV ts))/\ts.length=i*n+j/\Sg ts)
    ⟨ts,c2,_,rfl,s1,hd1,by lia,tm⟩ ?_ ?_
   .rintro j σ H2 hj ⟨ts,x,w7,rfl,s2,hd2,tl,tm⟩;obtain⟨ch,hch,hcs⟩:=zpV x;refine⟨_,rfl,.inl ⟨rfl,_,SqL.of hd2⟩,(by show 7<=Xz;decide),λml hml=>?_⟩;have z3:=ze (o:=.lst [V.str "?",V.str "?",V.str "o",V.str "?",V.str "o",V.str "#",V.str "?"]) hml;refine⟨_,rfl,_,_,rfl,rfl,(by show (0:Int)<7;decide),ml,_,_,_,rfl,rfl,SqL.of zd,hch,d,_,_,rfl,rfl,z3 _ _ hd2,?_,?_⟩
    .rw[zcT,tl];exact Xu (show i*n+j<64 by lia) (by decide)
    .refine⟨_,rfl,_,_,rfl,rfl,J7.small (by decide) (by decide),ts++[ch],x/7,_,rfl,λb o e=>?_,?_,?_,λy hy=>?_⟩
     .rw[zk (zh e hd)];exact z3 _ _ (s2 _ _ e)
     .rw[zd];unfold cV;rw[Xj];rfl
     .rw[XS,tl];rfl
     .rcases XR.mp hy with hy | hy
      .exact tm y hy
      .have:y=ch:=by simpa using hy
       rw[this];exact hcs
   rintro σ H2 ⟨ts,x,w7,rfl,s2,hd2,tl,tm⟩;refine⟨ts,_,_,_,rfl,s2,hd2,?_,tm⟩;rw[tl,WI,Tp]
  rintro σ H1 ⟨ts,v5,v6,v7,rfl,s1,hd1,tl,tm⟩;rw[WI]at tl;obtain⟨k0,k1⟩:=J3 (x:=c/25) (M:=7) (by decide);have hRn:((R:Nat):Int)*((n:Nat):Int)=((R*n:Nat):Int):=(SZ R n).symm;refine⟨_,rfl,_,_,rfl,rfl,J7.small (by decide) (by decide),_,_,rfl,rfl,(by show (0:Int)<7;decide),_,rfl,by lia,by lia,?_⟩;refine qx (lo:=0) (n:=(c/25%7).toNat) (λi σ H'=>∃(ts:List Nat) (v8 v9:Option V),σ=[some (.ref a),some (.int c),some (.int (R:Nat)),some (.int (n:Nat)),some (.ref d),v5,v6,v7,v8,v9,none,none,none,none,none]/\zq H H'/\H' d=some (.lst (cV ts))/\ts.length=R*n/\Sg ts)
   ⟨ts,_,_,rfl,s1,hd1,tl,tm⟩ ?_ ?_
  .rintro i σ H2 hi ⟨ts,v8,v9,rfl,s2,hd2,tl,tm⟩;refine⟨_,rfl,_,rfl,_,_,rfl,rfl,a,ns,_,rfl,s2.seq hS,by lia,λc3=>⟨_,rfl,_,rfl,_,_,rfl,rfl,ze2 (by lia) (by lia),_,_,rfl,rfl,(by rw[hRn];lia),?_⟩⟩;show yr 9 (V.int (c3%(((R:Nat):Int)*((n:Nat):Int)))) _ _ _;rw[hRn];obtain⟨a0,a1⟩:=J3 (x:=c3) (M:=R*n) m1;generalize c3%((R*n:Nat):Int)=at_ at *
   have jl:at_.toNat<ts.length:=by lia
   refine⟨_,rfl,_,rfl,d,_,_,_,rfl,rfl,SqL.of hd2,jW a0 (zf6 jl),rfl,_,rfl,zcX (λ_=>?_) (λ_=>?_)⟩
   .refine⟨_,rfl,_,rfl,d,_,_,_,rfl,rfl,hd2,zeC a0 (by rw[zcT,tl];exact a1),ts.set at_.toNat 46,_,_,rfl,λb o ee=>?_,?_,?_,tm.set _⟩
    .rw[zk (zh ee hd)];exact s2 _ _ ee
    .rw[zd,<- zln];exact congrArg (λv=>some (HO.lst ((cV ts).set at_.toNat (V.str v)))) zg4
    .rw[OU,tl]
   .exact⟨ts,_,_,rfl,s2,hd2,tl,tm⟩
  rintro σ H2 ⟨ts,v8,v9,rfl,s2,hd2,tl,tm⟩;refine⟨_,rfl,_,rfl,_,rfl,d,ts,R,n,rfl,hd2,tl,r8,n1,n8,λe H3 he he3 s3=>?_⟩;have he0:H e=none:=s2.free he;have s03:=s2.trans s3;have hd3:=s3 _ _ hd2;refine⟨_,rfl,a,ns,_,rfl,s03.seq hS,by decide,λzg8=>?_⟩;obtain⟨z,hz,z1⟩:=zpS zg8;refine⟨_,rfl,.inl ⟨rfl,_,SqL.of hd3⟩,d,ts.map λc=>(⟨#[c]⟩:Str),"o",rfl,rfl,by rw[<- zcU];exact hd3,_,rfl,zpB,λml hml=>?_⟩;have z3:=ze (o:=.lst [.int 0,.int 0,.int 0,.int 1,.int (-1),.int 0]) hml;refine⟨_,rfl,_,_,rfl,rfl,(by show (0:Int)<6;decide),ml,_,_,_,rfl,rfl,SqL.of zd,hz,_,_,rfl,rfl,_,_,rfl,_,_,rfl,?_⟩;have he4:=z3 _ _ he3;have hd4:=z3 _ _ hd3;have s04:=s03.trans z3;generalize upd H3 ml (.lst [.int 0,.int 0,.int 0,.int 1,.int (-1),.int 0])=H4 at *
  have ecn:P8 (λt=>t==("o":Str)) (ts.map λc=>(⟨#[c]⟩:Str))=ts.countP (λc=>decide (c=111)):=by
   rw[SW,zlo];refine Vh λc _=>?_;show ((⟨#[c]⟩:Str)==⟨#[111]⟩)=true↔decide (c=111)=true;rw[beq_iff_eq,bu];exact⟨λh=>by have:=congrArg (λt:Str=>t.cps.toList) h;simpa using this,λh=>by rw[h]⟩
  generalize hcn:P8 (λt=>t==("o":Str)) (ts.map λc=>(⟨#[c]⟩:Str))=cn at *
  show yr 12 (V.int (if (if ((cn:Nat):Int)+z>0 then ((cn:Nat):Int)+z else 0)<64 then (if ((cn:Nat):Int)+z>0 then ((cn:Nat):Int)+z else 0) else 64)) _ _ _;obtain⟨so,hso,so0,so1⟩:∃so:Int,(if (if ((cn:Nat):Int)+z>0 then ((cn:Nat):Int)+z else 0)<64 then (if ((cn:Nat):Int)+z>0 then ((cn:Nat):Int)+z else 0) else 64)=so/\0<=so/\so<=64:=⟨_,rfl,by split<;>split<;>lia,by split<;>lia⟩;rw[hso];refine⟨_,rfl,a,ns,_,rfl,s04.seq hS,by decide,λc4=>⟨_,rfl,_,rfl,_,_,rfl,rfl,ze2 (by lia) (by lia),_,_,rfl,rfl,(by rw[hRn];lia),?_⟩⟩;show yr 9 (V.int (c4%(((R:Nat):Int)*((n:Nat):Int)))) _ _ _;rw[hRn];obtain⟨a0,a1⟩:=J3 (x:=c4) (M:=R*n) m1;generalize c4%((R*n:Nat):Int)=at_ at *
  have um:=zlq tm r8 n8 tl;have ul:=zh1 R n ts;generalize hus:txs R n ts=us at *
  have jl:at_.toNat<us.length:=by lia
  refine⟨fun σ' H'=>∃(vs:List Nat),σ'=[some (.ref a),some (.int c),some (.int (R:Nat)),some (.int (n:Nat)),some (.ref d),v5,v6,v7,v8,some (.int at_),some (.ref e),some (.int zg8),some (.int so),none,none]/\zq H H'/\H' d=some (.lst (cV ts))/\H' e=some (.lst (cV vs))/\vs.length=R*n/\(∀c∈vs,c∈bd.cps.toList),?_,?_⟩
  .refine⟨_,rfl,_,_,rfl,rfl,J7.small (by decide) (by decide),_,_,rfl,rfl,(by show (0:Int)<4;decide),rfl,_,rfl,zcX (λ_=>?_) (λ_=>?_)⟩
   .refine⟨_,rfl,_,rfl,e,_,_,_,rfl,rfl,SqL.of he4,jW a0 (zf6 jl),_,_,rfl,rfl,_,rfl,zcX (λhx=>?_) (λ_=>?_)⟩
    .obtain⟨g1,g2⟩:=zjm (um _ (getD_mem jl)) hx;obtain⟨w0,w1⟩:=J3 (x:=((us.getD at_.toNat 0:Nat):Int)-48+1+zg8/24%8) (M:=9) (by decide);refine⟨_,rfl,_,rfl,e,_,_,_,rfl,rfl,SqL.of he4,jW a0 (zf6 jl),_,_,rfl,int_sign g1 g2,(by show 1<=640;decide),_,_,rfl,rfl,_,rfl,_,_,rfl,rfl,J7.small (by decide) (by decide),_,_,rfl,rfl,(by show (0:Int)<8;decide),_,_,rfl,rfl,_,_,rfl,rfl,(by show (0:Int)<9;decide),_,rfl,?_,?_⟩
     .show (((((us.getD at_.toNat 0:Nat):Int)-48+1+zg8/24%8)%9).natAbs).log2<1920;exact Xx (Nat.log2_le_self _) (by lia)
     .obtain⟨dg,hdg⟩:∃dg:Nat,(((us.getD at_.toNat 0:Nat):Int)-48+1+zg8/24%8)%9=(dg:Int):=⟨((((us.getD at_.toNat 0:Nat):Int)-48+1+zg8/24%8)%9).toNat,by lia⟩;have ed:V.str (toString ((((us.getD at_.toNat 0:Nat):Int)-48+1+zg8/24%8)%9))=V.str ⟨#[48+dg]⟩:=by
       rw[hdg];exact zd0 (by lia)
      refine⟨_,rfl,_,rfl,e,_,_,_,rfl,rfl,he4,zeC a0 (by rw[zcT,ul];exact a1),?_⟩;refine⟨us.set at_.toNat (48+dg),rfl,λb o ee=>?_,?_,?_,?_,mem_set (zf7 (by lia)) um _⟩
      .rw[zk (zh ee he0)];exact s04 _ _ ee
      .rw[zk (zh hd2 he)];exact hd4
      .rw[zd,<- zln];exact congrArg (λv=>some (HO.lst ((cV us).set at_.toNat v))) ed
      .rw[OU,ul]
    .exact⟨us,rfl,s04,hd4,he4,ul,um⟩
   .exact⟨us,rfl,s04,hd4,he4,ul,um⟩
  rintro σ' H5 ⟨vs,rfl,s5,hd5,he5,vl,vm⟩;refine⟨_,rfl,_,rfl,by lia,by lia,λp hp=>?_⟩;refine zgm (lo:=0) (n:=((R:Nat):Int).toNat) (λk σ' H'=>∃u0,σ'=[u0,some (.ref e),some (.int (n:Nat))]/\zq H5 H'/\H' p=some (.lst ((rowsOf vs n k).map V.str)))
   ⟨_,rfl,ze hp,zd⟩ ?_ ?_
  .rintro k σ' H6 hk ⟨u0,rfl,s6,hp6⟩;have kR:k<R:=by lia
   have e1:((n:Nat):Int)*(0+(k:Int))=((n*k:Nat):Int):=by
    rw[RB,SZ]
   have rl:=za4 vl kR;unfold yr;refine zaY ?_;refine⟨rfl,_,rfl,_,rfl,_,rfl,_,_,rfl,rfl,ze2 (by lia) (by lia),_,rfl,_,rfl,_,rfl,_,_,rfl,rfl,ze2 (by lia) (by lia),_,rfl,_,_,rfl,rfl,_,rfl,e,_,rfl,SqL.of (s6 _ _ he5),λcp hcp=>?_⟩;have ec:QG (cV vs) (some (((n:Nat):Int)*(0+(k:Int)))) (some (((n:Nat):Int)*(0+(k:Int))+((n:Nat):Int)))=((rowOf vs n k).map λc=>(⟨#[c]⟩:Str)).map V.str:=by
    rw[e1,<- Uv,zmP vl kR];exact zcU _
   have z6:=ze (o:=.lst (QG (cV vs) (some (((n:Nat):Int)*(0+(k:Int)))) (some (((n:Nat):Int)*(0+(k:Int))+((n:Nat):Int))))) hcp;refine⟨"",cp,(rowOf vs n k).map λc=>(⟨#[c]⟩:Str),rfl,rfl,SqL.of (by rw[<- ec];exact zd),?_,?_⟩
   .have e0:("":Str).length=0:=by decide+kernel
    rw[e0,Nat.mul_zero,Sx];have e2:=zcQ (rowOf vs n k);rw[rl]at e2;exact X0 (Nat.le_of_eq e2) (X0 n8 (by decide))
   .refine⟨_,z6 _ _ hp6,?_,_,rfl,λb o ee=>?_,?_⟩
    .unfold rowsOf;rw[Y1,Y1,W4];exact Xu (show k<64 by lia) (by decide)
    .rw[zk (zh ee hp)];exact z6 _ _ (s6 _ _ ee)
    .rw[zd,join_one];unfold rowsOf;rw[UN,Xj,Xj];rfl
  rintro σ' H6 ⟨u0,rfl,s6,hp6⟩;rw[WI]at hp6;have hd6:=s6 _ _ hd5;have he6:=s6 _ _ he5;have fin:∀(b:Bool) (H7:Hp),(b=true->zls (rowsOf vs n R) so)->zq H6 H7->∀x,(x=3/\H7 p=some (.lst ((rowsOf vs n R).map V.str)))->3<=Xz/\∀o,H7 o=none->Q (.ref o) (upd H7 o (.tup [.ref p,.int so,.bl b])):=λb H7 hb s7 x hx=>by
   refine⟨by decide,λo ho=>?_⟩;have z8:=ze (o:=.tup [.ref p,.int so,.bl b]) ho;refine q o p (rowsOf vs n R) so b _ zd (z8 _ _ hx.2) ⟨?_,?_,n,n1,n8,λt ht=>?_⟩ so0 so1 hb ((s5.trans (s6.trans s7)).trans z8)
   .unfold rowsOf;rw[Y1,W4];exact r1
   .unfold rowsOf;rw[Y1,W4];exact r8
   .obtain⟨k,hk,rfl⟩:=XO.mp ht;refine⟨?_,λx hx=>vm x ?_⟩
    .show (rowOf vs n k).toArray.size=n;rw[Xs];exact za4 vl (Xq.mp hk)
    .exact Um (Wq hx)
  refine⟨_,rfl,_,rfl,.inl ⟨rfl,_,SqL.of hd6⟩,d,ts.map λc=>(⟨#[c]⟩:Str),"o",rfl,rfl,by rw[<- zcU];exact hd6,rfl,_,rfl,zcX (λhx=>?_) (λhx=>?_)⟩
  .have eso:so=((ts.countP (λc=>decide (c=111)):Nat):Int):=by
    have:=V.int.inj (bh hx);rw[this,hcn,ecn]
   refine⟨_,rfl,_,rfl,_,rfl,_,rfl,d,ts,R,n,rfl,hd6,tl,r8,n1,n8,λg H7 hg hg7 s7=>?_⟩;rw[hus]at hg7;refine⟨_,_,.lst (SqL.of (by rw[<- zcU];exact s7 _ _ he6)) (J8 (vs.map λc=>(⟨#[c]⟩:Str))),.lst (SqL.of (by rw[<- zcU];exact hg7)) (J8 (us.map λc=>(⟨#[c]⟩:Str))),zlt vm um,?_⟩;rw[bq (by decide)];have hf:WS (.list ((vs.map λc=>(⟨#[c]⟩:Str)).map VZ)) (.list ((us.map λc=>(⟨#[c]⟩:Str)).map VZ))=true->zls (rowsOf vs n R) so:=λhb=>by
    have ev:vs=us:=zf9 vs us (by rw[WS]at hb;exact hb);exact⟨ts,R,n,tl,tm,r1,r8,n1,n8,by rw[ev,hus],eso⟩
   obtain⟨f1,f2⟩:=fin _ H7 hf s7 3 ⟨rfl,s7 _ _ hp6⟩;exact⟨_,rfl,_,rfl,_,rfl,f1,f2⟩
  .obtain⟨f1,f2⟩:=fin false H6 (λz=>nomatch z) (zq.refl _) 3 ⟨rfl,hp6⟩;exact⟨_,rfl,_,rfl,_,rfl,f1,f2⟩
def Dis (a b:List Nat):Prop:=∀x∈a,x ∉ b
structure Prt (cl:Nat->List Nat)(done:List Nat)(L:List (List Nat)):Prop where
 nd:∀l∈L,l.Nodup
 ap:L.Pairwise Dis
 fr:∀l∈L,∀x∈l,∃o∈done,x∈cl o
 cov:∀o∈done,∃l∈L,∀x∈cl o,x∈l
 con:∀l∈L,∀S:Nat->Prop,(∀o∈done,(∃x∈cl o,S x)->∀x∈cl o,S x)->(∃x∈l,S x)->∀x∈l,S x
theorem Prt.nil (cl:Nat->List Nat):Prt cl [] []:=⟨(λ_ h=>nomatch h),.nil,(λ_ h=>nomatch h),(λ_ h=>nomatch h),(λ_ h=>nomatch h)⟩
def zmR {L:List (List Nat)}(ap:L.Pairwise Dis){a b:List Nat}(ha:a∈L)(hb:b∈L){x:Nat}(hx:x∈a)(hy:x∈b):a=b:=by
 induction ap with
 | nil=>cases ha
 | cons h _ ih =>
  rcases XQ.mp ha with rfl | ha'
  .rcases XQ.mp hb with rfl | hb'
   .rfl
   .exact absurd hy (h b hb' x hx)
  .rcases XQ.mp hb with rfl | hb'
   .exact absurd hx (h a ha' x hy)
   .exact ih ha' hb'
structure Mid (L:List (List Nat))(h0 h:List Nat)(os:List (List Nat))(j:Nat):Prop where
 hn:h.Nodup
 up:∀x∈h0,x∈h
 hm:∀x∈h,x∈h0\/∃g∈L.take j,x∈g/\(∃y∈g,y∈h0)/\∀z∈g,z∈h
 sb:os.Sublist (L.take j)
 ap:∀g∈os,Dis g h
 all:∀g∈L.take j,g∈os\/∀x∈g,x∈h
def Mid.start (L:List (List Nat)){h0:List Nat}(nd:h0.Nodup):Mid L h0 h0 [] 0:=⟨nd,λ_ h=>h,λ_ h=>.inl h,Po _,(λ_ h=>nomatch h),λg hg=>by simp at hg⟩
def zeO {L:List (List Nat)}{j:Nat}{g:List Nat}(h:L[j]?=some g):L.take (j+1)=L.take j++[g]:=by
 rw[Xh,h];rfl
def Mid.merge {L:List (List Nat)}{h0 h h' g:List Nat}{os:List (List Nat)}{j:Nat}(ap:L.Pairwise Dis)(M:Mid L h0 h os j)(hg:L[j]?=some g)(hx:∃y∈h,y∈g)(nd:h'.Nodup)(mem:∀x,x∈h'↔x∈h\/x∈g):Mid L h0 h' os (j+1):=by
 have tk:=zeO hg;have ap1:∀g'∈L.take j,Dis g' g:=λg' hg'=>by
  have:=ap.sublist (Uq (j+1) L);rw[tk,UZ]at this;exact this.2.2 g' hg' g X2
 have meet:∃y∈g,y∈h0:=by
  obtain⟨y,h1,h2⟩:=hx;rcases M.hm y h1 with z | ⟨g',h3,h4,_⟩
  .exact⟨y,h2,z⟩
  .exact absurd h2 (ap1 g' h3 y h4)
 refine⟨nd,λx hx=>(mem x).mpr (.inl (M.up x hx)),λx hx=>?_,?_,λg' hg' x hx hx'=>?_,λg' hg'=>?_⟩
 .rcases(mem x).mp hx with hx | hx
  .rcases M.hm x hx with z | ⟨g',h1,h2,h3,h4⟩
   .exact .inl z
   .exact .inr ⟨g',by rw[tk];exact Xi _ h1,h2,h3,λz hz=>(mem z).mpr (.inl (h4 z hz))⟩
  .exact .inr ⟨g,by rw[tk];exact XC _ X2,hx,meet,λz hz=>(mem z).mpr (.inr hz)⟩
 .rw[tk];exact M.sb.trans (Ue _ _)
 .rcases(mem x).mp hx' with z | z
  .exact M.ap g' hg' x hx z
  .exact ap1 g' (M.sb.subset hg') x hx z
 .rw[tk]at hg';rcases XR.mp hg' with z | z
  .exact(M.all g' z).imp id λw x hx=>(mem x).mpr (.inl (w x hx))
  .rw[WB.mp z];exact .inr λx hx=>(mem x).mpr (.inr hx)
def Mid.leave {L:List (List Nat)}{h0 h g:List Nat}{os:List (List Nat)}{j:Nat}(M:Mid L h0 h os j)(hg:L[j]?=some g)(hx:∀y∈h,y ∉ g):Mid L h0 h (os++[g]) (j+1):=by
 have tk:=zeO hg;refine⟨M.hn,M.up,λx hx=>?_,?_,λg' hg' x hx' hh=>?_,λg' hg'=>?_⟩
 .rcases M.hm x hx with z | ⟨g',h1,h2⟩
  .exact .inl z
  .exact .inr ⟨g',by rw[tk];exact Xi _ h1,h2⟩
 .rw[tk];exact M.sb.append (List.Sublist.refl _)
 .rcases XR.mp hg' with z | z
  .exact M.ap g' z x hx' hh
  .rw[WB.mp z]at hx';exact hx x hh hx'
 .rw[tk]at hg';rcases XR.mp hg' with z | z
  .exact(M.all g' z).imp (Xi _) id
  .exact .inl (XC _ z)
def Prt.step {cl:Nat->List Nat}{done:List Nat}{L os:List (List Nat)}{h:List Nat}{o:Nat}(P:Prt cl done L)(M:Mid L (cl o) h os L.length):Prt cl (done++[o]) (os++[h]):=by
 have hs:=M.sb;have hm:=M.hm;have ha:=M.all;rw[XB]at hs hm ha;have old:∀{S:Nat->Prop},(∀p∈done++[o],(∃x∈cl p,S x)->∀x∈cl p,S x)->∀p∈done,(∃x∈cl p,S x)->∀x∈cl p,S x:=λh p hp=>h p (Xi _ hp);refine⟨λl hl=>?_,?_,λl hl x hx=>?_,λp hp=>?_,λl hl S hS hx=>?_⟩
 .rcases XR.mp hl with z | z
  .exact P.nd l (hs.subset z)
  .rw[WB.mp z];exact M.hn
 .rw[UZ];refine⟨P.ap.sublist hs,List.pairwise_singleton _ _,λa ha b hb=>?_⟩;rw[WB.mp hb];exact M.ap a ha
 .have key:∀l∈L,x∈l->∃p∈done++[o],x∈cl p:=λl hl hx=>by
   obtain⟨p,h1,h2⟩:=P.fr l hl x hx;exact⟨p,Xi _ h1,h2⟩
  rcases XR.mp hl with z | z
  .exact key l (hs.subset z) hx
  .rw[WB.mp z]at hx;rcases hm x hx with w | ⟨g,h1,h2,_⟩
   .exact⟨o,XC _ X2,w⟩
   .exact key g h1 h2
 .rcases XR.mp hp with z | z
  .obtain⟨l,h1,h2⟩:=P.cov p z;rcases ha l h1 with w | w
   .exact⟨l,Xi _ w,h2⟩
   .exact⟨h,XC _ X2,λx hx=>w x (h2 x hx)⟩
  .rw[WB.mp z];exact⟨h,XC _ X2,M.up⟩
 .rcases XR.mp hl with z | z
  .exact P.con l (hs.subset z) S (old hS) hx
  .rw[WB.mp z]at hx ⊢;have h0:∃y∈cl o,S y:=by
    obtain⟨x,h1,h2⟩:=hx;rcases hm x h1 with w | ⟨g,g1,g2,⟨y,g3,g4⟩,_⟩
    .exact⟨x,w,h2⟩
    .exact⟨y,g4,P.con g g1 S (old hS) ⟨x,g2,h2⟩ y g3⟩
   have all0:=hS o (XC _ X2) h0;intro x hx;rcases hm x hx with w | ⟨g,g1,g2,⟨y,g3,g4⟩,_⟩
   .exact all0 x w
   .exact P.con g g1 S (old hS) ⟨y,g3,all0 y g4⟩ x g2
def Prt.sizes {cl:Nat->List Nat}{done:List Nat}{L:List (List Nat)}(P:Prt cl done L){f:Nat->AA}(inj:∀x y,f x=f y->x=y){cl':AA->AD}(hc:∀o∈done,∀c,c∈cl' (f o) ↔ ∃x∈cl o,c=f x){gs:List AD}(G:Parts.Good cl' (done.map f) gs) :
  (∀l∈L,l ≠ []->∃g∈gs,g.length=l.length)/\∀g∈gs,∃l∈L,l.length=g.length:=by
 have same:∀{l:List Nat} {g:AD},l∈L->g∈gs->∀{x:Nat},x∈l->f x∈g->g.length=l.length:=λ{l g} hl hg {x} hx hfx=>by
  have lg:∀y∈l,f y∈g:=P.con l hl (λy=>f y∈g) (λo ho ⟨y,h1,h2⟩ z hz=>by
   have hy:f y∈cl' (f o):=(hc o ho _).mpr ⟨y,h1,rfl⟩;obtain⟨g',h3,h4⟩:=G.cov (f o) (XO.mpr ⟨o,ho,rfl⟩) (Uy hy);rw[Parts.zaN G.nd hg h3 h2 (h4 _ hy)];exact h4 _ ((hc o ho _).mpr ⟨z,hz,rfl⟩)) ⟨x,hx,hfx⟩
  have gl:∀c∈g,∃y∈l,c=f y:=G.con g hg (λc=>∃y∈l,c=f y) (λp hp ⟨c,h1,y,h2,h3⟩ d hd=>by
   obtain⟨o,ho,rfl⟩:=XO.mp hp;obtain⟨y',h4,h5⟩:=(hc o ho c).mp h1;have e:y=y':=inj _ _ (h3.symm.trans h5);obtain⟨l',h6,h7⟩:=P.cov o ho;have el:l=l':=zmR P.ap hl h6 h2 (e ▸ h7 y' h4);obtain⟨z,h8,h9⟩:=(hc o ho d).mp hd;exact⟨z,by rw[el];exact h7 z h8,h9⟩) ⟨f x,hfx,x,hx,rfl⟩
  have gn:g.Nodup:=yh (G.srt g hg);have a:=zaq (a:=l.map f) (b:=g) (by
   rw[WZ,Wf];exact(P.nd l hl).imp λh e=>h (inj _ _ e)) λc h=>by
    obtain⟨y,hy,rfl⟩:=XO.mp h;exact lg y hy
  have b:=zaq (a:=g) (b:=l.map f) gn λc h=>by
   obtain⟨y,hy,rfl⟩:=gl c h;exact XO.mpr ⟨y,hy,rfl⟩
  rw[Y1]at a b;lia
 constructor
 .intro l hl hn;obtain⟨x,hx⟩:=VU l hn;obtain⟨o,ho,h1⟩:=P.fr l hl x hx;have hf:f x∈cl' (f o):=(hc o ho _).mpr ⟨x,h1,rfl⟩;obtain⟨g,h2,h3⟩:=G.cov (f o) (XO.mpr ⟨o,ho,rfl⟩) (Uy hf);exact⟨g,h2,same hl h2 hx (h3 _ hf)⟩
 .intro g hg;obtain⟨c,hcg⟩:=VU g (G.ne g hg);obtain⟨p,hp,h1⟩:=G.from_ c (Wy.mpr ⟨g,hg,hcg⟩);obtain⟨o,ho,rfl⟩:=XO.mp hp;obtain⟨x,h2,rfl⟩:=(hc o ho c).mp h1;obtain⟨l,h3,h4⟩:=P.cov o ho;exact⟨l,h3,(same h3 hg (h4 x h2) hcg).symm⟩
def pos (n x:Nat):AA:=(x/n,x%n)
def Z9 (rs:AE):List Nat:=(codes rs).flatten
def zga {a b:List Nat}{x:Nat}(h:x<a.length):(a++b).getD x 0=a.getD x 0:=by
 rw[XH,XH,VV h]
def zgb {a b:List Nat}(x:Nat):(a++b).getD (a.length+x) 0=b.getD x 0:=by
 rw[XH,XH,VD (by lia),SG]
theorem zcV (p:Nat->Bool)(i:Nat):∀(t:List Nat) (j:Nat),Cells.qd p i j t=((Xp t.length).filter λx=>p (t.getD x 0)).map λx=>(i,j+x)
 | [],_=>rfl
 | c::r,j=>by
  rw[Cells.qd,zcV p i r (j+1),XE,List.range_succ_eq_map,Wn,TQ];have e:Tv ((λx=>p ((c::r).getD x 0))∘Nat.succ) (Xp r.length)=Tv (λx=>p (r.getD x 0)) (Xp r.length):=rfl;rw[e];by_cases h:p c=true
  .rw[bw h,bw (show p ((c::r).getD 0 0)=true from h),Xf,WY];show [(i,j)]++_=_;refine congrArg (λl=>(i,j)::l) (Xm λx _=>?_);show (i,j+1+x)=(i,j+(x+1));rw[NU,To 1 x]
  .rw[bq h,bq (show ¬p ((c::r).getD 0 0)=true from h),RK,WY];refine Xm λx _=>?_;show (i,j+1+x)=(i,j+(x+1));rw[NU,To 1 x]
theorem zgc {n:Nat}:∀{gs:List (List Nat)},(∀t∈gs,t.length=n)->gs.flatten.length=gs.length*n
 | [],_=>by simp
 | t::r,h=>by
  rw[WH,XS,zgc λu hu=>h u (XV _ hu),h t X2,XE,Tp,To]
def zg9 (p:Nat->Bool){n:Nat}(n1:1<=n):∀(gs:List (List Nat)) (i:Nat),(∀t∈gs,t.length=n)->Cells.zI p i gs=((Xp (gs.length*n)).filter λx=>p (gs.flatten.getD x 0)).map λx=>(i+x/n,x%n):=by
 intro gs;induction gs with
 | nil=>exact λ_ _=>by simp[Cells.zI]
 | cons t r ih =>
  intro i h;have tl:=h t X2;rw[Cells.zI,zcV,ih (i+1) λu hu=>h u (XV _ hu),XE,Tp,To (r.length*n) n,List.range_add,W8,Xj,tl];congr 1
  .have e:(Xp n).filter (λx=>p ((t::r).flatten.getD x 0))=(Xp n).filter λx=>p (t.getD x 0):=Vi λx hx=>by
    rw[WH,zga (by rw[tl];exact Xq.mp hx)]
   rw[e];refine Xm λx hx=>?_;have hx:=Xq.mp (XX.mp hx).1;rw[Nat.div_eq_of_lt hx,Nat.mod_eq_of_lt hx,VL];rfl
  .rw[TQ,WY];have e:(Xp (r.length*n)).filter ((λx=>p ((t::r).flatten.getD x 0))∘λx=>n+x)=(Xp (r.length*n)).filter λx=>p (r.flatten.getD x 0):=Vi λx _=>by
    show p ((t::r).flatten.getD (n+x) 0)=_;rw[WH,<- tl,zgb]
   rw[e];refine Xm λx _=>?_;show (i+1+x/n,x%n)=(i+(n+x)/n,(n+x)%n);rw[Nat.add_div_left x (by lia),Nat.add_mod_left,NU,To 1]
structure Wide (rs:AE)(n:Nat):Prop where
 n1:1<=n
 n5:n<=8
 row:∀t∈rs,Row bd.cps.toList n t
section
variable {rs:AE}{n:Nat}(W:Wide rs n)
include W
theorem Wide.lens:∀t∈codes rs,t.length=n:=λt ht=>by
 obtain⟨u,hu,rfl⟩:=XO.mp ht;rw[X7];exact(W.row u hu).len
theorem Wide.flat:(Z9 rs).length=rs.length*n:=by
 unfold Z9;rw[zgc W.lens,jk]
theorem Wide.cells (p:Nat->Bool):Cells.zI p 0 (codes rs)=((Xp (rs.length*n)).filter λx=>p ((Z9 rs).getD x 0)).map (pos n):=by
 rw[zg9 p W.n1 _ 0 W.lens,jk];refine Xm λx _=>?_;unfold pos;rw[VL]
theorem Wide.mem {p:Nat->Bool}{c:AA}:c∈Cells.zI p 0 (codes rs) ↔ ∃x,x<rs.length*n/\p ((Z9 rs).getD x 0)=true/\c=pos n x:=by
 rw[W.cells p,XO];constructor
 .rintro⟨x,hx,rfl⟩;obtain⟨h1,h2⟩:=XX.mp hx;exact⟨x,Xq.mp h1,h2,rfl⟩
 .rintro⟨x,h1,h2,rfl⟩;exact⟨x,XX.mpr ⟨Xq.mpr h1,h2⟩,rfl⟩
theorem Wide.inj {x y:Nat}(h:pos n x=pos n y):x=y:=by
 have h1:x/n=y/n:=congrArg Prod.fst h;have h2:x%n=y%n:=congrArg Prod.snd h;rw[<- Nat.div_add_mod x n,<- Nat.div_add_mod y n,h1,h2]
theorem Wide.sgn {x:Nat}(hx:x<rs.length*n):Cells.sgn (codes rs) (pos n x)=(Z9 rs).getD x 0:=by
 have hm:pos n x∈Cells.zI (λ_=>true) 0 (codes rs):=W.mem.mpr ⟨x,hx,rfl,rfl⟩;have hk:pos n x∈Cells.zI (λk=>decide (k=Cells.sgn (codes rs) (pos n x))) 0 (codes rs):=by
  obtain⟨t,k,ht,hj,_,es⟩:=zK hm;have:=Ja (p:=λk=>decide (k=Cells.sgn (codes rs) (pos n x))) (i:=0) (qM ht) hj (br es.symm);rwa [VL]at this
 obtain⟨y,_,h2,h3⟩:=W.mem.mp hk;rw[<- W.inj h3]at h2;exact(bh h2).symm
theorem Wide.near {x y:Nat}(hy:y<rs.length*n)(hc:qh ((Z9 rs).getD y 0)=true):nearF rs (pos n x) (pos n y)=true↔y∈j3 rs.length n x:=by
 unfold j3 nrP;rw[YT,XX,Xq];unfold zE;rw[XX];constructor
 .rintro⟨_,h⟩;exact⟨hy,h⟩
 .rintro⟨_,h⟩;exact⟨W.mem.mpr ⟨y,hy,hc,rfl⟩,h⟩
end
def zha {c:Nat}(h:c∈bd.cps.toList):(!(!(UV ("?#":Str) ⟨#[c]⟩ 0 ("?#":Str).length 1).isEmpty))=Jz c:=by
 have:∀c∈bd.cps.toList,(!(!(UV ("?#":Str) ⟨#[c]⟩ 0 ("?#":Str).length 1).isEmpty))=Jz c:=by decide+kernel
 exact this c h
def clP (zs:List Nat)(R n o:Nat):List Nat:=(j3 R n o).filter λy=>decide (zs.getD y 0=63)
def dnP (zs:List Nat)(i:Nat):List Nat:=(Xp i).filter λx=>Jz (zs.getD x 0)
def zlu (H:Hp):AF->List (List Nat)->Prop:=WU λv l=>∃a,v=V.ref a/\H a=some (.lst (pV l))
def zlu.mono {H H':Hp}(s:zq H H'){us:AF}{L:List (List Nat)}(h:zlu H us L):zlu H' us L:=Paired.imp' (λ_ _ ⟨a,e,h⟩=>⟨a,e,s _ _ h⟩) h
def zpX (x:Nat)(xs:List Nat):inV (V.int (x:Nat)) (pV xs)=decide (x∈xs):=by
 unfold inV pV;rw[TY];refine Ww.mpr ?_;rw[Wm,bu];constructor
 .rintro⟨y,h1,h2⟩;have:y=x:=by
   have h2:decide (((y:Nat):Int)=((x:Nat):Int))=true:=h2;have:=bh h2;lia
  exact this ▸ h1
 .intro h;exact⟨x,h,show decide (((x:Nat):Int)=((x:Nat):Int))=true from br rfl⟩
def Qt (xs:List Nat):(pV xs).length=xs.length:=Y1 _
def zmS (xs:List Nat):(pV xs).all QI=true:=Wx.mpr λv hv=>by
 obtain⟨x,_,rfl⟩:=XO.mp hv;rfl
def zpY (xs:List Nat):pV xs=iL (xs.map λx=>((x:Nat):Int)):=by
 unfold pV;show _=TU V.int _;rw[WY];rfl
theorem zjo:∀xs:List Int,WS (zcz xs) (zcz [])=xs.isEmpty
 | []=>rfl
 | _::_=>rfl
def zoK {ms:List Int}(h:∀x∈ms,0<=x):(pV (ms.map Int.toNat))=ms.map V.int:=by
 unfold pV;rw[WY];exact Xm λx hx=>congrArg V.int (V1 (h x hx))
def zlv {n:Nat}:∀ts:AE,(∀t∈ts,t.length=n)->(ts.map (·.length)).sum+ts.length*("":Str).length=ts.length*n:=λts h=>by
 have e0:("":Str).length=0:=by decide+kernel
 rw[e0,Nat.mul_zero,Sx];induction ts with
 | nil=>simp
 | cons t r ih=>rw[Xf,NV,ih λu hu=>h u (XV _ hu),h t X2,XE,Tp,To]
def zpZ {rs:AE}{n:Nat}(W:Wide rs n){x:Nat}(h:x<rs.length*n):(Z9 rs).getD x 0∈bd.cps.toList:=by
 have hm:(Z9 rs).getD x 0∈Z9 rs:=getD_mem (by rw[W.flat];exact h);obtain⟨t,ht,hx⟩:=Wy.mp hm;obtain⟨u,hu,rfl⟩:=XO.mp ht;exact(W.row u hu).mem _ hx
def zp0 {rs:AE}{n:Nat}(W:Wide rs n){x:Nat}(h:x<rs.length*n):(Z9 rs)[x]?=some ((Z9 rs).getD x 0):=by
 rw[XH,X5 (by rw[W.flat];exact h)];rfl
def zeP {zs:List Nat}{R n o x:Nat}(h:x∈clP zs R n o):x<R*n/\zs.getD x 0=63:=by
 obtain⟨h1,h2⟩:=XX.mp h;exact⟨Xq.mp (XX.mp h1).1,bh h2⟩
def zoL (zs:List Nat)(R n o:Nat):(clP zs R n o).Nodup:=(List.nodup_range.sublist Wj).sublist Wj
theorem YW:∀{b c:List Nat},b.Nodup->(∀x∈b,x∈c)->b.length<=c.length
 | [],_,_,_=>W7 _
 | x::b,c,h,s=>by
  rw[Wl]at h;have hx:=s x X2;have:=YW (c:=c.erase x) h.2 λy hy=>(RN (show y≠x from λe=>h.1 (by rw[<- e];exact hy))).mpr (s y (XV _ hy));rw[S4 hx]at this;have:0<c.length:=Vg hx;rw[XE];lia
def zp1 {l:List Int}(nd:l.Nodup)(h:∀x∈l,0<=x/\x<64){a:Nat}(ha:a<64)(hn:((a:Nat):Int) ∉ l):l.length<=63:=by
 have:=YW (b:=a::l.map Int.toNat) (c:=Xp 64) (Wl.mpr ⟨λz=>?_,?_⟩) λx hx=>?_
 .rw[XE,Y1,W4]at this;lia
 .obtain⟨x,hx,e⟩:=XO.mp z;have:=h x hx;exact hn (by rw[<- e,V1 this.1];exact hx)
 .rw[WZ,Wf];refine nd.imp_of_mem λ{x y} hx hy hxy e=>hxy ?_;have:=h x hx;have:=h y hy;lia
 .rcases XQ.mp hx with rfl | hx
  .exact Xq.mpr ha
  .obtain⟨y,hy,rfl⟩:=XO.mp hx;have:=h y hy;exact Xq.mpr (by lia)
def znl:Sp:=λvs H Q _=>∃(l:Addr) (rs:AE),vs=[.ref l]/\H l=some (.lst (rs.map V.str))/\Rows bd.cps.toList rs /\
 ∀(m:Nat) (H':Hp),(14<m->zni rs)->(m<=14->zqz rs)->zq H H'->Q (.int (m:Nat)) H'
def qc:zH ["_law_texts_here","_law_rows","_law_columns","_law_signs","_law_groups","_law_at","_law_here","_law_others","_law_group"] ["_law_texts_here"] (zj jj):=bz
def zbp (T:Txt mg)(Z:Prog K mg)(D:zu K mg "_law_greatest" jj ["_law_texts_here"] f fd):ql P w K mg base CX0 2 f fd ["_law_texts_here"] znl:=by
 obtain⟨zg5,zf8,JD⟩:=Z.law_near;refine D.F.ok qc (λvs H Q E h=>?_) (λcdv A outer s H vs Q E hr h=>?_)
 .obtain⟨l,rs,rfl,_⟩:=h;rfl
 .obtain⟨l,rs,rfl,hl,Rw,q⟩:=h;obtain⟨n,n1,n8,hC⟩:=Rw.ex;have W:Wide rs n:=⟨n1,n8,hC⟩;have r1:=Rw.lo;have r8:=Rw.hi;have m64:rs.length*n<=8*8:=Ts r8 n8;obtain⟨t0,ht0⟩:∃t0,rs[0]?=some t0:=⟨_,X5 (by lia)⟩;have e0:t0.length=n:=(hC t0 (XZ ht0)).len;have rl:(rs.map V.str).length=rs.length:=Y1 _;refine⟨_,(zf (zv (i:=1) qc.nd rfl (XD rfl) (zp zJ (by rfl) T.jK WL (za (pvS 0) zc))) (zf (zv (i:=2) qc.nd rfl (XD rfl) (zp xZ (by rfl) T.jK WL (za (qt qz (pvS 0) zm (λ_ _=>rfl)) zc))) (@zf _ _ _ _ _ (@zv _ _ 3 _ _ _ _ qc.nd rfl (TL rfl) (@yu _ _ _ _ _ _ _ _ _ _ _ _ Sh R9 R8 zeh qe (za (pvS 0) zc) (by rfl) (by rfl) (by rfl) (by rfl) (by rfl)) (by rfl) (.inl rfl)) (@zf _ _ _ _ _ (@zv _ _ 4 _ _ _ _ qc.nd rfl (XD rfl) (@qf _ _ _ _ zc) (by rfl) (.inr rfl)) (zf (qq W3 rfl (qW (by rfl) T.jh (za (zp xZ (by rfl) T.jK WL (za (pvS 3) zc)) zc)) (zo (i:=5) qc.nd rfl (XD rfl)) (zg (jm (zQ QJ (qt YH (pvS 3) (pvS 5) (λ_ _=>rfl)) qe (by rfl)) (zf (ZM (i:=6) qc.nd rfl rfl (N:=["_law_one","_law_signs"]) (src:=[none,some 3]) (zZ.free (O:=(zj jj).names) (XN:=["_law_texts_here","_law_rows","_law_columns","_law_signs","_law_groups","_law_at","_law_here","_law_others","_law_group"]) rfl rfl ⟨_,rfl⟩ rfl rfl (by decide+kernel) (by decide+kernel) (by decide+kernel) rfl (by decide+kernel)) rfl (z4 (pc0 (zbh T JD) hr JD (za (pvS 5) (za (pvS 1) (za (pvS 2) zc))))) (λ_ _ _ _ _=>(zo (i:=0) (by show WZ (["_law_one","_law_signs"]:AE);decide+kernel) rfl (XD rfl))) (λ_ _ _ _ _=>(qO (zQ Yc (qt YH (pvS 1) (pvS 0) (λ_ _=>rfl)) qe (qa _)))) (λ_ _ _ _ _=>(pvS 0))) (@zf _ _ _ _ _ (@zv _ _ 7 _ _ _ _ qc.nd rfl (XD rfl) (@qf _ _ _ _ zc) (by rfl) (.inr rfl)) (zf (qq W3 rfl (z4 (pvS 4)) (zo (i:=8) qc.nd rfl (TL rfl)) (zg (jm (zQ (ZJ hr.units) (qB (N:=["_law_one","_law_group"]) (src:=[none,some 8]) (zZ.free (O:=(zj jj).names) (XN:=["_law_texts_here","_law_rows","_law_columns","_law_signs","_law_groups","_law_at","_law_here","_law_others","_law_group"]) rfl rfl ⟨_,rfl⟩ rfl rfl (by decide+kernel) (by decide+kernel) (by decide+kernel) rfl (by decide+kernel)) rfl (z4 (pvS 6)) (λ_ _ _ _ _=>(zo (i:=0) (by show WZ (["_law_one","_law_group"]:AE);decide+kernel) rfl (XD rfl))) (λ_ _ _ _ _=>(qO (zQ (zgD (K:=K) (by rfl)) (pvS 0) (pvS 1) (by rfl)))) (λ_ _ _ _ _=>(pvS 0))) (@qf _ _ _ _ zc) (qa _)) (zg (zv (i:=6) qc.nd rfl (XD rfl) (zp (ST.zex hr.hd) (by rfl) T.zaa Uf (za (ji (ST.ziO hr.hd) (by rfl) T.znb OG (za (zD Ye (pvS 6) (pvS 8)) zc)) zc)))) (zg (j5 (yu W2 Wh Wg jd (pvS 7) (za (pvS 8) zc))))))) (zg (zv (i:=4) qc.nd rfl (XD rfl) (zD Ye (pvS 7) (qf (za (pvS 6) zc)))))))) qp))) (zg (zL (zmd T.zdD U9 hr.hd (qB (N:=["_law_group"]) (src:=[none]) (zZ.plain rfl (by decide+kernel) (by decide+kernel) (by decide+kernel) rfl (by decide)) rfl (z4 (pvS 4)) (λ_ _ _ _ _=>(zo (i:=0) (by show WZ (["_law_group"]:AE);decide+kernel) rfl (XD rfl))) (λ_ _ _ _ _=>qN) (λ_ _ _ _ _=>(zp (Yl (K:=K) (by rfl)) (by rfl) T.jK WL (za (pvS 0) zc)))) zm)))))))),?_⟩;(try dsimp only[cxK,cxP,cxW]);refine⟨_,rfl,l,_,rfl,.inl (SqL.of hl),?_⟩;show yr 1 (V.int (((rs.map V.str).length:Nat):Int)) _ _ _;rw[rl];refine⟨_,rfl,l,_,_,.str t0,rfl,rfl,SqL.of hl,jW (by decide) (by rw[Xn];exact(congrArg (NP V.str) ht0)),t0,rfl,Rw.tlen ht0,?_⟩;show yr 2 (V.int ((t0.length:Nat):Int)) _ _ _;rw[e0];have fz:(Uu "" rs).cps.toList=Z9 rs:=zd1 rs;have zl:(Uu "" rs).length=rs.length*n:=by
   show (Uu "" rs).cps.size=_;rw[<- X7,fz,W.flat]
  refine⟨rfl,_,rfl,"",l,rs,rfl,rfl,SqL.of hl,?_,?_⟩
  .rw[zlv rs λt ht=>(W.row t ht).len];exact X0 m64 (by decide)
  generalize Uu "" rs=z at *
  have zat:∀{x:Nat},x<rs.length*n->atI z.cps.toList ((x:Nat):Int)=some ((Z9 rs).getD x 0):=λ{x} hx=>jW (by lia) (by rw[WI,fz];exact zp0 W hx);have zsz:z.length<=Xz:=X0 (show z.length<=64 by lia) (by decide);have zin:∀{x:Nat},x<rs.length*n->(Z9 rs).getD x 0∈bd.cps.toList:=λ{x} hx=>zpZ W hx;generalize hzs:Z9 rs=zs at *
  refine⟨Zf,λg0 hg0=>?_⟩;have s0:zq H (upd H g0 (.lst [])):=ze hg0;refine⟨_,rfl,z,rfl,zsz,_,rfl,by lia,by lia,?_⟩;rw[WI,zl];refine qx (lo:=0) (n:=rs.length*n) (λi σ H'=>∃(v5 v6 v7 v8:Option V) (ga:Addr) (us:AF) (L:List (List Nat)),σ=[some (.ref l),some (.int (rs.length:Nat)),some (.int (n:Nat)),some (.str z),some (.ref ga),v5,v6,v7,v8]/\zq H H'/\H' ga=some (.lst us)/\zlu H' us L/\Prt (clP zs rs.length n) (dnP zs i) L/\L.length<=i)
   ⟨_,_,_,_,g0,[],[],rfl,s0,zd,.nil,Prt.nil _,XU _⟩ ?_ ?_
  .rintro i σ H1 hi ⟨v5,v6,v7,v8,ga,us,L,rfl,s1,hga,hP,P1,Ll⟩;have dn:dnP zs (i+1)=dnP zs i++if Jz (zs.getD i 0)=true then [i] else []:=zeL i
   rw[show (0:Int)+(i:Nat)=((i:Nat):Int) by lia];refine⟨_,rfl,_,rfl,z,_,_,rfl,rfl,zsz,zat hi,_,_,rfl,rfl,_,rfl,?_⟩;rw[zha (zin hi)];by_cases ho:Jz (zs.getD i 0)=true
   .refine j8 ho ?_;rw[bw ho]at dn;refine⟨_,rfl,_,rfl,_,rfl,i,rs.length,n,rfl,r8,n1,n8,hi,λnp H2 hnp zlr s2=>⟨np,rfl,⟨_,SqL.of zlr⟩,λh0 hh0=>?_⟩⟩;have nr8:=JC r8 n8 hi;refine qC (K:=K) (a:=np) (xs:=pV (j3 rs.length n i)) (λj σ' H'=>∃(u0:Option V),σ'=[u0,some (.str z)]/\zq H2 H'/\H' h0=some (.lst (pV (((j3 rs.length n i).take j).filter λy=>decide (zs.getD y 0=63)))))
     ⟨_,rfl,ze hh0,zd⟩ (λj σ' H' _ ⟨_,_,y,_⟩=>SqL.of (y _ _ zlr)) ?_ ?_
    .rintro j v σ' H3 hv ⟨u0,rfl,s3,hz3⟩;obtain⟨x,hx',rfl⟩:=zlp hv;have xm:x<rs.length*n:=Xq.mp (XX.mp (XZ hx')).1;have st:=Yy (p:=λy=>decide (zs.getD y 0=63)) hx';have jl:=(XW.mp hx').1;refine⟨_,rfl,_,rfl,z,_,_,rfl,rfl,zsz,zat xm,rfl,_,rfl,?_⟩;rw[zaV,Z4];by_cases h63:zs.getD x 0=63
     .rw[bw (br h63)]at st;refine j8 (br h63) ⟨_,rfl,_,hz3,?_,_,rfl,λb o e=>?_,?_⟩
      .rw[Qt];exact Xx (X0 (Xa _ _) (X0 (Tb _ _) (X0 (UJ jl) nr8))) (by decide)
      .rw[zk (zh e hh0)];exact s3 _ _ e
      .rw[zd,st];unfold pV;rw[Xj];rfl
     .rw[bq (λz=>h63 (bh z)),W6]at st;refine yI (bf h63) ⟨_,rfl,s3,?_⟩;rw[st];exact hz3
    rintro σ' H3 ⟨u0,rfl,s3,hz3⟩;rw[Qt,XB]at hz3;have hz3:H3 h0=some (.lst (pV (clP zs rs.length n i))):=hz3;have s13:=s1.trans (s2.trans s3);have hga3:=s3 _ _ (s2 _ _ hga);have hP3:=hP.mono (s2.trans s3);have ll:us.length=L.length:=Paired.length hP3;have bnd:∀{h:List Nat} {os:List (List Nat)} {j:Nat},Mid L (clP zs rs.length n i) h os j->∀x∈h,x<rs.length*n/\zs.getD x 0=63:=λM x hx=>by
     rcases M.hm x hx with w | ⟨g,g1,g2,_⟩
     .exact zeP w
     .obtain⟨o,_,h2⟩:=P1.fr g (Wq g1) x g2;exact zeP h2
    have bndL:∀g∈L,∀x∈g,x<rs.length*n/\zs.getD x 0=63:=λg hg x hx=>by
     obtain⟨o,_,h2⟩:=P1.fr g hg x hx;exact zeP h2
    have iop:zs.getD i 0≠63:=λe=>by
     rw[e]at ho;cases ho
    refine⟨Zf,λol hol=>?_⟩;refine⟨_,rfl,ga,rfl,⟨_,SqL.of (ze hol _ _ hga3)⟩,?_⟩;refine xw (K:=K) (a:=ga) (xs:=us) (λj σ H'=>∃(v8:Option V) (ha:Addr) (h:List Nat) (ws:AF) (os:List (List Nat)),σ=[some (.ref l),some (.int (rs.length:Nat)),some (.int (n:Nat)),some (.str z),some (.ref ga),some (.int ((i:Nat):Int)),some (.ref ha),some (.ref ol),v8]/\zq H3 H'/\H' ha=some (.lst (pV h))/\ha≠ol/\H' ol=some (.lst ws)/\zlu H3 ws os/\Mid L (clP zs rs.length n i) h os j)
     ⟨_,h0,_,[],[],rfl,ze hol,ze hol _ _ hz3,zh hz3 hol,zd,.nil,Mid.start L (zoL _ _ _ _)⟩ (λj σ H' _ ⟨_,_,_,_,_,_,y,_⟩=>SqL.of (y _ _ hga3)) ?_ ?_
    .rintro j x σ H4 hx ⟨v8,ha,h,ws,os,rfl,s4,hha,hne,hol4,hPo,M⟩;obtain⟨g,hg,ag,rfl,hag⟩:=za6 hP3 hx;have gL:g∈L:=XZ hg;have hag4:=s4 _ _ hag;have hag0:ag≠ol:=zh hag hol;have h64:h.length<=64:=X0 (YW M.hn λx hx=>Xq.mpr (bnd M x hx).1) (by rw[W4];lia);have g64:g.length<=64:=X0 (YW (P1.nd g gL) λx hx=>Xq.mpr (bndL g gL x hx).1) (by rw[W4];lia);refine⟨_,rfl,ha,rfl,⟨_,SqL.of hha⟩,λcz hcz=>?_⟩;refine qC (K:=K) (a:=ha) (xs:=pV h) (λk σ' H'=>∃(u0:Option V),σ'=[u0,some (.ref ag)]/\zq H4 H'/\H' cz=some (.lst (pV ((h.take k).filter λy=>decide (y∈g)))))
      ⟨_,rfl,ze hcz,zd⟩ (λk σ' H' _ ⟨_,_,y,_⟩=>SqL.of (y _ _ hha)) ?_ ?_
     .rintro k v σ' H5 hv ⟨u0,rfl,s5,hc5⟩;obtain⟨x,hx',rfl⟩:=zlp hv;have st:=Yy (p:=λy=>decide (y∈g)) hx';have kl:=(XW.mp hx').1;refine⟨_,rfl,_,rfl,ag,_,rfl,.inl (SqL.of (s5 _ _ hag4)),rfl,zmS g,_,rfl,?_⟩;have hb:(if false=true then !inV (V.int ((x:Nat):Int)) (pV g) else inV (V.int ((x:Nat):Int)) (pV g))=decide (x∈g):=by
       rw[bq (by decide)];exact zpX x g
      by_cases hm:x∈g
      .rw[bw (br hm)]at st;refine j8 (hb.trans (br hm)) ⟨_,rfl,_,hc5,?_,_,rfl,λb o e=>?_,?_⟩
       .rw[Qt];exact Xx (X0 (Xa _ _) (X0 (Tb _ _) (X0 (UJ kl) h64))) (by decide)
       .rw[zk (zh e hcz)];exact s5 _ _ e
       .rw[zd,st];unfold pV;rw[Xj];rfl
      .rw[bq (λz=>hm (bh z)),W6]at st;refine yI (hb.trans (bf hm)) ⟨_,rfl,s5,?_⟩;rw[st];exact hc5
     rintro σ' H5 ⟨u0,rfl,s5,hc5⟩;rw[Qt,XB]at hc5;refine⟨Zf,λel hel=>?_⟩;have s6:=ze (o:=.lst []) hel;have hc6:=s6 _ _ hc5;rw[zpY]at hc6;have s46:=s5.trans s6;refine⟨_,_,zfR (SqL.of hc6),zfR (xs:=[]) (SqL.of zd),zi8 _ _,_,rfl,?_⟩;rw[bw rfl,zjo,List.isEmpty_map];generalize upd H5 el (.lst [])=H6 at *
     by_cases hm:(h.filter λy=>decide (y∈g))=[]
     .have he:(!(h.filter λy=>decide (y∈g)).isEmpty)=false:=by rw[hm];rfl
      refine yI he ?_;have no:∀y∈h,y ∉ g:=λy hy hy'=>by
       have:y∈h.filter λy=>decide (y∈g):=XX.mpr ⟨hy,br hy'⟩;rw[hm]at this;cases this
      have hol6:=s46 _ _ hol4;refine⟨_,rfl,.inl ⟨rfl,_,SqL.of hol6⟩,_,rfl,ol,_,_,rfl,rfl,hol6,?_,?_⟩
      .have e1:ws.length=os.length:=Paired.length hPo;have e2:=M.sb.length_le;have e3:=Tb j L;rw[e1];exact Xx (show _<=64 by have:=List.length_take_le' j L;lia) (by decide)
      .refine⟨_,ha,h,ws++[.ref ag],os++[g],rfl,λb o e=>?_,?_,hne,zd,Paired.snoc hPo ⟨ag,rfl,hag⟩,M.leave hg no⟩
       .rw[zk (zh e hol)];exact s46 _ _ (s4 _ _ e)
       .rw[zk hne];exact s46 _ _ hha
     .have he:(!(h.filter λy=>decide (y∈g)).isEmpty)=true:=by
       rw[VA.mpr hm];rfl
      refine j8 he ?_;obtain⟨y,hy⟩:=VU _ hm;obtain⟨hy1,hy2⟩:=XX.mp hy;have hy2:y∈g:=bh hy2;refine⟨_,rfl,_,rfl,ha,ag,_,_,rfl,rfl,s46 _ _ hha,s46 _ _ hag4,?_,λct hct=>?_⟩
      .rw[Qt,Qt];exact X0 (show _<=128 by lia) (by decide)
      have s7:=ze (o:=.lst (pV h++pV g)) hct;have ecat:pV h++pV g=((h++g).map λx=>((x:Nat):Int)).map V.int:=by
       unfold pV;rw[WY,Xj];rfl
      have inI:∀p∈(h++g).map λx=>((x:Nat):Int),0<=p/\p<64:=λp hp=>by
       obtain⟨x,hx,rfl⟩:=XO.mp hp;have:x<rs.length*n:=by
        rcases XR.mp hx with z | z
        .exact(bnd M x z).1
        .exact(bndL g gL x z).1
       lia
      have noI:((i:Nat):Int) ∉ (h++g).map λx=>((x:Nat):Int):=λhp=>by
       obtain⟨x,hx,e⟩:=XO.mp hp;have e:x=i:=by lia
       rw[e]at hx;rcases XR.mp hx with z | z
       .exact iop (bnd M i z).2
       .exact iop (bndL g gL i z).2
      refine⟨ct,(h++g).map λx=>((x:Nat):Int),rfl,SqL.of (by rw[<- ecat];exact zd),inI,λl nd sub=>zp1 nd (λx hx=>inI x (sub x hx)) (a:=i) (by lia) λz=>noI (sub _ z),λsd ks hsd knd zqB k63=>?_⟩;refine⟨sd,ks,rfl,zd,k63,λrd ms hrd pm pw=>?_⟩;have s8:=ze (o:=ST.zfx w sd ks) hsd;have mm:∀x,x∈ms↔x∈(h++g).map λx=>((x:Nat):Int):=λx=>by rw[pm.mem_iff,zqB]
      have ms0:∀x∈ms,0<=x:=λx hx=>(inI x ((mm x).mp hx)).1;have s9:=ze (o:=.lst (ms.map V.int)) hrd;have s49:=s46.trans (s7.trans (s8.trans s9));refine⟨_,rd,ms.map Int.toNat,ws,os,rfl,s4.trans s49,?_,?_,s49 _ _ hol4,hPo,M.merge P1.ap hg ⟨y,hy1,hy2⟩ ?_ λx=>?_⟩
      .rw[zoK ms0];exact zd
      .exact(zh (s8 _ _ (s7 _ _ (s46 _ _ hol4))) hrd).symm
      .have nd:ms.Nodup:=pm.nodup_iff.mpr knd;rw[WZ,Wf];refine nd.imp_of_mem λ{x y} hx hy hxy e=>hxy ?_;have:=ms0 x hx;have:=ms0 y hy;lia
      .constructor
       .intro hx;obtain⟨y,h1,rfl⟩:=XO.mp hx;obtain⟨z,h2,rfl⟩:=XO.mp ((mm y).mp h1);rw[WI];exact XR.mp h2
       .intro hx;exact XO.mpr ⟨((x:Nat):Int),(mm _).mpr (XO.mpr ⟨x,XR.mpr hx,rfl⟩),WI x⟩
    .rintro σ H4 ⟨v8,ha,h,ws,os,rfl,s4,hha,hne,hol4,hPo,M⟩;rw[ll]at M;have e1:ws.length=os.length:=Paired.length hPo;have e2:=M.sb.length_le;rw[XB]at e2;refine⟨_,rfl,_,rfl,sz_1,λsl hsl=>?_⟩;have s5:=ze (o:=.lst [V.ref ha]) hsl;refine⟨ol,sl,_,_,rfl,rfl,s5 _ _ hol4,zd,?_,λgn hgn=>?_⟩
     .exact X0 (show ws.length+1<=65 by lia) (by decide)
     have s6:=ze (o:=.lst (ws++[V.ref ha])) hgn;have s46:=s5.trans s6;refine⟨_,_,_,_,gn,ws++[.ref ha],os++[h],rfl,s13.trans (s4.trans s46),zd,Paired.snoc (hPo.mono (s4.trans s46)) ⟨ha,rfl,s46 _ _ hha⟩,?_,?_⟩
     .rw[dn];exact P1.step M
     .rw[XS];show os.length+1<=i+1;lia
   .refine yI (WX.mpr ho) ?_;rw[bq ho,W6]at dn;exact⟨_,_,_,_,ga,us,L,rfl,s1,hga,hP,by rw[dn];exact P1,by lia⟩
  .rintro σ H1 ⟨v5,v6,v7,v8,ga,us,L,rfl,s1,hga,hP,P1,Ll⟩;have ll:us.length=L.length:=Paired.length hP;refine⟨_,rfl,ga,rfl,⟨_,SqL.of hga⟩,λcz hcz=>?_⟩;refine qC (K:=K) (a:=ga) (xs:=us) (λj σ' H'=>∃(u0:Option V),σ'=[u0]/\zq H1 H'/\H' cz=some (.lst (((L.take j).map λg=>((g.length:Nat):Int)).map V.int)))
    ⟨_,rfl,ze hcz,zd⟩ (λj σ' H' _ ⟨_,_,y,_⟩=>SqL.of (y _ _ hga)) ?_ ?_
   .rintro j x σ' H2 hx ⟨u0,rfl,s2,hc2⟩;obtain⟨g,hg,ag,rfl,hag⟩:=za6 hP hx;have jl:=(XW.mp hg).1;unfold yr;refine zaY ?_;refine⟨_,rfl,ag,_,rfl,.inl (SqL.of (s2 _ _ hag)),_,hc2,?_,_,rfl,λb o e=>?_,?_⟩
    .rw[Y1,Y1,XA];exact Xx (show _<=64 by lia) (by decide)
    .rw[zk (zh e hcz)];exact s2 _ _ e
    .rw[zd,zeO hg,Xj,Xj,Qt];rfl
   rintro σ' H2 ⟨u0,rfl,s2,hc2⟩;rw[ll,XB]at hc2;refine⟨cz,L.map λg=>((g.length:Nat):Int),0,rfl,SqL.of hc2,λm hm=>?_⟩;have ho:zR rs=(dnP zs (rs.length*n)).map (pos n):=by
    rw[<- hzs];exact W.cells Jz
   have hc:∀o∈dnP zs (rs.length*n),∀c,c∈clA rs (pos n o) ↔ ∃x∈clP zs rs.length n o,c=pos n x:=λo ho c=>by
    constructor
    .intro h;have hs:=xF h;obtain⟨x,h1,h2,rfl⟩:=W.mem.mp hs;have h63:zs.getD x 0=63:=by
      rw[<- hzs];exact bh h2
     refine⟨x,XX.mpr ⟨(W.near h1 ?_).mp ((Jd hs).mpr h),br h63⟩,rfl⟩;rw[hzs,h63];rfl
    .rintro⟨x,h,rfl⟩;obtain⟨h1,h63⟩:=zeP h;have hs:pos n x∈zM rs:=W.mem.mpr ⟨x,h1,by rw[hzs,h63];rfl,rfl⟩;refine(Jd hs).mp ((W.near h1 ?_).mpr (XX.mp h).1);rw[hzs,h63];rfl
   have sz:∀{gs:List AD},Parts.Good (clA rs) (zR rs) gs->(∀l∈L,l ≠ []->∃g∈gs,g.length=l.length)/\∀g∈gs,∃l∈L,l.length=g.length:=λG=>by
    rw[ho]at G;exact P1.sizes (λx y e=>W.inj e) hc G
   obtain⟨k,rfl⟩:∃k:Nat,m=((k:Nat):Int):=by
    rcases hm with ⟨_,rfl⟩ | ⟨h,_⟩
    .exact⟨0,rfl⟩
    .obtain⟨g,_,rfl⟩:=XO.mp h;exact⟨_,rfl⟩
   refine q k H2 (λh14 gs G=>?_) (λh14 gs G g hg=>?_) (s1.trans s2)
   .rcases hm with ⟨_,e⟩ | ⟨h,_⟩
    .lia
    .obtain⟨l,hl',e⟩:=XO.mp h;obtain⟨g,h1,h2⟩:=(sz G).1 l hl' λz=>by
      rw[z,UP]at e;lia
     exact⟨g,h1,by lia⟩
   .obtain⟨l,h1,h2⟩:=(sz G).2 g hg;rcases hm with ⟨e,_⟩ | ⟨_,h⟩
    .have:L=[]:=List.map_eq_nil_iff.mp e;rw[this]at h1;cases h1
    .have:=h _ (XO.mpr ⟨l,h1,rfl⟩);lia
def range_getD (ts:List Nat):(Xp ts.length).map (λx=>ts.getD x 0)=ts:=by
 refine TB λi=>?_;rw[Xn];by_cases h:i<ts.length
 .rw[UK h,X5 h];show some (ts.getD i 0)=_;rw[XH,X5 h];rfl
 .rw[Wo.mpr (by rw[W4];lia),Wo.mpr (by lia)];rfl
def zls.some {rs:AE}{c:Int}(h:zls rs c):Yv rs c≠0:=by
 obtain⟨ts,R,n,tl,tm,r1,r8,n1,n8,rfl,rfl⟩:=h;have ul:=zh1 R n ts;have um:=zlq tm r8 n8 tl;have rl:(rowsOf (txs R n ts) n R).length=R:=by
  unfold rowsOf;rw[Y1,W4]
 have W:Wide (rowsOf (txs R n ts) n R) n:=⟨n1,n8,λt ht=>by
  obtain⟨k,hk,rfl⟩:=XO.mp ht;refine⟨?_,λx hx=>um x (Um (Wq hx))⟩;show (rowOf (txs R n ts) n k).toArray.size=n;rw[Xs];exact za4 ul (Xq.mp hk)⟩
 have hz:Z9 (rowsOf (txs R n ts) n R)=txs R n ts:=by
  unfold Z9;rw[zeM,zbi,Tn,<- ul,XB]
 have zx:∀x,x<R*n->(txs R n ts).getD x 0=tx R n ts x:=λx hx=>by
  unfold txs;rw[XH,Xn,UK hx];rfl
 have sh:zM (rowsOf (txs R n ts) n R)=((Xp (R*n)).filter λx=>jV ((txs R n ts).getD x 0)).map (pos n):=by
  have:=W.cells jV;rw[rl,hz]at this;exact this
 have o63:∀x,x<R*n->isO ts x=true->jV ((txs R n ts).getD x 0)=true:=λx hx h=>by
  have e:ts.getD x 0=111:=bh h;rw[zx x hx];unfold tx;rw[bq (by lia),bw e];rfl
 have ff:((Xp (R*n)).filter λx=>jV ((txs R n ts).getD x 0)).filter (isO ts)=(Xp (R*n)).filter (isO ts):=by
  rw[Ux];refine Vi λx hx=>?_;have hx:=Xq.mp hx;cases h:isO ts x with
  | true=>rw[o63 x hx h];rfl
  | false=>rfl
 have len:(((Xp (R*n)).filter (isO ts)).map (pos n)).length=ts.countP (λc=>decide (c=111)):=by
  rw[Y1,<- List.countP_eq_length_filter,<- tl];have:=congrArg (P8 λc=>decide (c=111)) (range_getD ts);rw[SW]at this;exact this
 have sub:(((Xp (R*n)).filter (isO ts)).map (pos n)).Sublist (zM (rowsOf (txs R n ts) n R)):=by
  rw[sh,<- ff];exact List.filter_sublist.map _
 have whole:qE (rowsOf (txs R n ts) n R) (((Xp (R*n)).filter (isO ts)).map (pos n))=true:=yM.mpr λo ho=>by
  obtain⟨x,hx,hp,rfl⟩:=W.mem.mp ho;rw[rl]at hx;have sg:=W.sgn (x:=x) (by rw[rl];exact hx);rw[hz]at hp sg;unfold je;rw[sg];have e46:ts.getD x 0=46:=by
   rw[zx x hx]at hp;unfold tx at hp;rcases tm _ (getD_mem (by lia:x<ts.length)) with e | e | e | e
   .exact e
   .rw[bq (by lia),bq (by lia),e]at hp;cases hp
   .rw[bq (by lia),bw e]at hp;cases hp
   .rw[bq (by lia),bq (by lia),e]at hp;cases hp
  have et:(txs R n ts).getD x 0=48+((j3 R n x).filter (isO ts)).length:=by
   rw[zx x hx];unfold tx;rw[bw e46]
  rw[et];unfold Grow.cnt;rw[TQ,Y1,Ux];have en:(Xp (R*n)).filter (λy=>(nearF (rowsOf (txs R n ts) n R) (pos n x)∘pos n) y&&isO ts y)=(j3 R n x).filter (isO ts):=by
   unfold j3;rw[Ux];refine Vi λy hy=>?_;have hy:=Xq.mp hy;cases h:isO ts y with
   | false=>rw[Oy,Tt]
   | true =>
    rw[Uh,S6];have hc:qh ((Z9 (rowsOf (txs R n ts) n R)).getD y 0)=true:=by
     rw[hz,show (txs R n ts).getD y 0=63 from bh (o63 y hy h)];rfl
    have nr:=W.near (x:=x) (by rw[rl];exact hy) hc;rw[rl]at nr;refine Ww.mpr (nr.trans ?_);unfold j3;rw[XX,Xq];exact⟨λz=>z.2,λz=>⟨hy,z⟩⟩
  rw[en];lia
 unfold Yv Tally.T;have:0<(Subs.subs (zM (rowsOf (txs R n ts) n R))).countP λS=>decide (S.length=((ts.countP (λc=>decide (c=111)):Nat):Int).toNat)&&qE (rowsOf (txs R n ts) n R) S:=N3.mpr ⟨_,Tally.zml sub,by rw[whole,br (len.trans (WI _).symm)];rfl⟩;lia
def zgd (K:XY):Sp:=λvs H Q _=>∃(a:Addr) (ns:List Int),vs=[.ref a]/\SqL K H a (ns.map V.int)/\ns.length<=63/\∀H',Q (.bl true) H'
def zmT {rs:AE}(h:zM rs=[]){gs:List AD}(G:Parts.Good (clA rs) (zR rs) gs):gs=[]:=by
 cases gs with
 | nil=>rfl
 | cons g r =>
  obtain⟨x,hx⟩:=VU g (G.ne g X2);obtain⟨o,_,h2⟩:=G.from_ x (Wy.mpr ⟨g,X2,hx⟩);have:=xF h2;rw[h]at this;cases this
def zge (rs:AE)(n:Int):0<=Yv rs n:=by
 unfold Yv;exact Int.natCast_nonneg _
def yO:zH ["_law_script","_law_texts_here","_law_stones","_law_fair","_law_board","_law_cells","_law_cell","_law_total","_law_number","_law_other","_law_part","_law_found"] ["_law_script"] (zj zdC):=bz
def zmU (T:Txt mg)(Z:Prog K mg)(U:zoE K mg jai jaj jad jaa jac jab jah jaf jae jag){f:Addr}{fd:Xc}(D:zu K mg "law" zdC ["_law_script"] f fd):ql P w K mg base CX0 10 f fd ["_law_script"] (zgd K):=by
 obtain⟨J4,JE,zV⟩:=Z.law_cell_at;obtain⟨znm,zmV,xJ⟩:=Z.law_whole;obtain⟨znn,zmW,zbj⟩:=Z.law_great;obtain⟨zlw,zjp,JF⟩:=Z.law_greatest;obtain⟨zmX,zlD,zas⟩:=Z.law_closed;obtain⟨zlE,zlx,xu⟩:=Z.law_counted;obtain⟨zp2,zoP,zgf⟩:=Z.opened;obtain⟨zmL,zlh,Jf⟩:=Z.count;obtain⟨zgZ,zf3,yb⟩:=Z.count_at;have qK:=yE (P:=P) (w:=w) (base:=base) T zV;have JX:=zeK (P:=P) (w:=w) (base:=base) T xJ;have zgg:=zeN (P:=P) (w:=w) (base:=base) T Z zbj;have Yz:=zbp (P:=P) (w:=w) (base:=base) T Z JF;have zeQ:=zda (P:=P) (w:=w) (base:=base) T zas;have J5:=zcP (P:=P) (w:=w) (base:=base) T U Z xu;have zly:=zjj (P:=P) (w:=w) (base:=base) T zgf;have zeR:=zfX (P:=P) (w:=w) (base:=base) T Z U.o1 Jf;have zhb:=zbg (P:=P) (w:=w) (base:=base) T Z U.o1 yb;refine D.F.ok yO (λvs H Q E h=>?_) (λcdv A outer s H vs Q E hr h=>?_)
 .obtain⟨a,ns,rfl,_⟩:=h;rfl
 .obtain⟨a,ns,rfl,hS,nl,q⟩:=h;refine⟨_,(zf (zd8 (pc0 zgg hr zbj (za (pvS 0) zc)) (Jo rfl (zP (zo (i:=1) yO.nd rfl (XD rfl)) (zP (zo (i:=2) yO.nd rfl (XD rfl)) (zP (zo (i:=3) yO.nd rfl (XD rfl)) jE))))) (zf (zv (i:=4) yO.nd rfl (XD rfl) (yt (za (ji QK (by rfl) T.zkC OZ (za (pvS 1) zc)) (za (pvS 2) zc)))) (zf (zv (i:=5) yO.nd rfl (XD rfl) (pc0 zeQ hr zas (za (pvS 1) zc))) (zf (jm (zQ (jo hr.units) (pvS 5) (@qf _ _ _ _ zc) (qa _)) (zg (zL (pc0 JX hr xJ (za (pcX zeR hr Jf (za (pvS 4) zc)) zc)))) qp) (zf (zv (i:=6) yO.nd rfl (XD rfl) (qt qz (pvS 5) (zD jf (pc0 qK hr zV (za (pvS 0) (@za _ _ _ _ _ zm zc rfl))) (zp zJ (by rfl) T.jK WL (za (pvS 5) zc))) (λ_ _=>rfl))) (zf (jm (zQ zew (pc0 Yz hr JF (za (pvS 1) zc)) zm (qa _)) (zg (zL (Yb (j6 (jo hr.units) (pc0 J5 hr xu (za (pvS 4) (@za _ _ _ _ _ zax zc rfl))) qe (qa _)) (Yb (j6 (jo hr.units) (pc0 J5 hr xu (za (pvS 4) (za (pvS 6) zc))) qe (qa _)) (zay (j6 (jo hr.units) (qt jg (pvS 4) zm (λ_ _=>rfl)) (pvS 1) (qa _))))))) qp) (zf (zv (i:=7) yO.nd rfl (XD rfl) (pcX zhb hr yb (za (pvS 4) (za (pvS 6) zc)))) (zf (qq W3 rfl (qW (by rfl) T.jh (@za _ _ _ _ _ zm zc rfl)) (zo (i:=8) yO.nd rfl (XD rfl)) (zf (zv (i:=9) yO.nd rfl (XD rfl) (pc0 zly hr zgf (za (pvS 4) (za (zkj (u1 hr.units) (pvS 6) (pvS 8)) zc)))) (zf (zv (i:=10) yO.nd rfl (XD rfl) (pc0 J5 hr xu (za (pvS 9) (@za _ _ _ _ _ zax zc rfl)))) (zf (jm (zQ zew (pc0 Yz hr JF (za (qt jg (pvS 9) zm (λ_ _=>rfl)) zc)) zm (qa _)) (zg (zL (Yb (j6 (jo hr.units) (pvS 10) qe (qa _)) (zay (pc0 JX hr xJ (za (pcX zeR hr Jf (za (pvS 4) zc)) zc)))))) qp) (zf (jm (zbM (QC (pc0 JX hr xJ (za (pvS 10) zc)) (λ_=>rfl))) (@zg _ _ _ (@zL _ _ _ _ zdd)) qp) (zg (zv (i:=7) yO.nd rfl (XD rfl) (zD qm (pvS 7) (pvS 10))))))))) (zf (zv (i:=11) yO.nd rfl (XD rfl) (pcX zeR hr Jf (za (pvS 4) zc))) (zg (zL (Yb (pc0 JX hr xJ (za (pvS 11) zc)) (Yb (j6 Yc (pvS 11) (pvS 7) (qa _)) (Yb (zoU (j6 zew (pvS 11) zm (qa _)) (zay (zjs (pvS 3)))) (zay (j6 (jo hr.units) (pvS 4) (yt (za (pvS 1) (za (pvS 2) zc))) (qa _))))))))))))))))),?_⟩;(try dsimp only[cxK,cxP,cxW]);refine⟨_,rfl,a,ns,rfl,hS,λp l rs st zjn H1 hp hl R n0 zqC zp3 s1=>⟨p,_,rfl,SqT.of hp,rfl,_,_,rfl,_,_,rfl,_,_,rfl,rfl,?_⟩⟩;refine⟨_,rfl,l,_,rfl,.inl (SqL.of hl),λlb hlb=>?_⟩;have y1:=ze (o:=.lst (rs.map V.str)) hlb;refine⟨_,rfl,zbn,λb hb=>?_⟩;have y2:=ze (o:=.tup [.ref lb,.int st]) hb;have B2:qk (upd (upd H1 lb (.lst (rs.map V.str))) b (.tup [.ref lb,.int st])) b lb rs st:=⟨zd,y2 _ _ zd⟩;have y12:=y1.trans y2;have hl2:=y12 _ _ hl;have s02:=s1.trans y12;generalize upd (upd H1 lb (.lst (rs.map V.str))) b (.tup [.ref lb,.int st])=H2 at *
  refine⟨_,rfl,l,rs,rfl,hl2,R,λd ws H3 hd hd3 zp4 s3=>?_⟩;have B3:=B2.mono s3;have hl3:=s3 _ _ hl2;have s03:=s02.trans s3;have rq:WS (.list (rs.map VZ)) (.list (rs.map VZ))=true:=Oo _ R.cmp.l1;refine⟨_,rfl,Zf,λel hel=>?_⟩;have y4:=ze (o:=.lst []) hel;refine⟨.list ((zM rs).map zw),.list [],.lst (SqL.of (y4 _ _ hd3)) (zi0 (zp4.mono y4)),.lst (SqL.of zd) .nil,zcr (zM rs) [],_,rfl,?_⟩;have ev:WS (.list ((zM rs).map zw)) (.list [])=(zM rs).isEmpty:=by
   cases zM rs with
   | nil=>rfl
   | cons c r=>rfl
  have hb4:(if false=true then !PyData.eqv (.list ((zM rs).map zw)) (.list []) else WS (.list ((zM rs).map zw)) (.list []))=(zM rs).isEmpty:=by
   rw[bq (by decide)];exact ev
  have B4:=B3.mono y4;have hl4:=y4 _ _ hl3;have hd4:=y4 _ _ hd3;have hc4:=zp4.mono y4;have s04:=s03.trans y4;generalize upd H3 el (.lst [])=H4 at *
  by_cases he:zM rs=[]
  .refine j8 (hb4.trans (by rw[he];rfl)) ?_;refine⟨_,rfl,b,lb,rs,st,rfl,B4,R,(λgs G ⟨g,hg,_⟩=>by rw[zmT he G]at hg;cases hg),n0,λgs G _ H5 s5=>?_⟩;exact⟨_,rfl,q _⟩
  .refine yI (hb4.trans (VA.mpr he)) ?_;have wl:ws.length=(zM rs).length:=hc4.length;have w0:0<ws.length:=by
    rw[wl];exact NZ.mpr he
   refine⟨_,rfl,_,rfl,a,ns,_,rfl,s04.seq hS,by decide,λz=>⟨_,rfl,d,_,rfl,.inl (SqL.of hd4),_,_,rfl,rfl,(by lia),?_⟩⟩;obtain⟨z0,z1⟩:=J3 (x:=z) (M:=ws.length) w0;obtain⟨v,hv⟩:∃v,ws[(z%((ws.length:Nat):Int)).toNat]?=some v:=⟨_,X5 (by lia)⟩;obtain⟨c,hc,ca,rfl,hca⟩:=za6 hc4 hv;have cm:c∈zM rs:=XZ hc;refine⟨d,_,_,_,rfl,rfl,SqL.of hd4,jW z0 hv,?_⟩;refine⟨_,rfl,l,rs,rfl,hl4,R,λm H5 big slim s5=>⟨_,_,rfl,rfl,_,rfl,?_⟩⟩;have B5:=B4.mono s5;have hl5:=s5 _ _ hl4;have hca5:=s5 _ _ hca;have s05:=s04.trans s5;by_cases h14:14<m
   .refine j8 (br (by lia)) ?_;have gr:=big h14;refine⟨_,rfl,b,lb,rs,st,.non,rfl,B5,R,n0,.inr ⟨rfl,λgs G _ H6 s6=>?_,λgs G a14=>(Yx G (gr gs G) a14).elim⟩⟩;refine⟨.str "great",.str "great",.str _,.str _,⟨by decide+kernel,by decide+kernel,by decide+kernel⟩,_,rfl,j8 (by decide+kernel) ?_⟩;refine⟨_,rfl,_,rfl,b,lb,rs,st,.ref ca,rfl,B5.mono s6,R,n0,.inl ⟨ca,c,rfl,s6 _ _ hca5,gr,λH7 s7=>?_⟩⟩;refine⟨.str "great",.str "great",.str _,.str _,⟨by decide+kernel,by decide+kernel,by decide+kernel⟩,_,rfl,j8 (by decide+kernel) ?_⟩;have s57:=s6.trans s7;refine⟨_,rfl,b,_,0,_,rfl,rfl,SqT.of (B5.mono s57).tp,rfl,_,rfl,_,_,.lst (SqL.of (B5.mono s57).rw) (J8 rs),.lst (SqL.of (s57 _ _ hl5)) (J8 rs),R.cmp,?_⟩;rw[bq (by decide),rq];exact q _
   .refine yI (bf (by lia)) ?_;have sl:=slim (by lia);have noG:∀gs,Parts.Good (clA rs) (zR rs) gs->(∃g∈gs,14<g.length)->False:=λgs G bg=>Yx G bg (sl gs G);refine⟨_,rfl,_,rfl,b,lb,ca,rs,st,c,rfl,B5,R,(λgs G h=>(noG gs G h).elim),n0,hca5,λgs G _=>⟨cm,λH6 s6=>?_⟩⟩;have B6:=B5.mono s6;have hl6:=s6 _ _ hl5;have hca6:=s6 _ _ hca5;refine⟨_,rfl,by decide,by decide,?_⟩;refine qx (lo:=0) (n:=9) (λi σ H'=>∃(t:Int) (v8 v9 v10:Option V),σ=[some (.ref a),some (.ref l),some (.int st),some (.bl zjn),some (.ref b),some (.ref d),some (.ref ca),some (.int t),v8,v9,v10,none]/\t=xH rs st c+zjk rs st c i/\zq H6 H')
     ⟨_,_,_,_,rfl,(Sw _).symm,zq.refl _⟩ ?_ ?_
    .rintro i σ H7 hi ⟨t,v8,v9,v10,rfl,ht,s7⟩;rw[show (0:Int)+(i:Nat)=((i:Nat):Int) by lia];have i8:i<=8:=by lia
     have R':=Rows.put (zf5 (c:=c) i8) R;refine⟨_,rfl,λdd hdd=>?_⟩;have z8:=ze (o:=.dT []) hdd;refine⟨_,rfl,_,rfl,ca,ju c,rfl,z8 _ _ (s7 _ _ hca6),zd,?_⟩;have z9:zq H7 (upd (upd H7 dd (.dT [])) dd (.dT [(ju c,V.int (i:Nat))])):=λb' o e=>by
      rw[zk (zh e hdd)];exact z8 _ _ e
     have hdd9:=zd (H:=upd H7 dd (.dT [])) (a:=dd) (o:=.dT [(ju c,V.int (i:Nat))]);generalize upd (upd H7 dd (.dT [])) dd (.dT [(ju c,V.int (i:Nat))])=H9 at *
     have s79:=s7.trans z9;refine⟨b,lb,dd,rs,st,[c],1,one c i,rfl,B6.mono s79,R,hdd9,zf5 i8,λq2 l2 H10 hq2 hl2' B10 s10=>?_⟩;refine⟨_,rfl,q2,l2,jH (one c i) rs,st,.non,rfl,B10,R',n0,.inr ⟨rfl,λgs G bg H11 s11=>?_,λgs G a14 H11 s11=>?_⟩⟩
     .have B11:=B10.mono s11;refine⟨_,rfl,q2,_,0,_,rfl,rfl,SqT.of B11.tp,rfl,l2,jH (one c i) rs,rfl,B11.rw,R',λm' H12 big' slim' s12=>⟨_,_,rfl,rfl,_,rfl,?_⟩⟩;have g14:14<m':=by
       by_cases h:14<m'
       .exact h
       .exact(Yx G bg (slim' (by lia) gs G)).elim
      refine j8 (br (by lia)) ?_;have s6c:=s79.trans (s10.trans (s11.trans s12));refine⟨_,rfl,.str "great",.str "great",.str _,.str _,⟨by decide+kernel,by decide+kernel,by decide+kernel⟩,_,rfl,j8 (by decide+kernel) ?_⟩;refine⟨_,rfl,b,lb,rs,st,rfl,B6.mono s6c,R,(λgs G h=>(noG gs G h).elim),n0,λgs G _ H13 s13=>?_⟩;exact⟨_,rfl,q _⟩
     .have B11:=B10.mono s11;refine⟨_,rfl,q2,_,0,_,rfl,rfl,SqT.of B11.tp,rfl,l2,jH (one c i) rs,rfl,B11.rw,R',λm' H12 big' slim' s12=>⟨_,_,rfl,rfl,_,rfl,?_⟩⟩;have g14:¬ 14<m':=λh=>Yx G (big' h gs G) a14;refine yI (bf (by lia)) ?_;have s6c:=s79.trans (s10.trans (s11.trans s12));refine⟨_,rfl,_,rfl,true,rfl,zbl ?_⟩;refine⟨_,rfl,_,rfl,_,_,rfl,rfl,?_⟩;refine⟨t+Yv (jH (one c i) rs) st,_,_,_,rfl,?_,s6c⟩;show _=xH rs st c+(zjk rs st c i+Yv (jH (one c i) rs) st);rw[ht];lia
    .rintro σ H7 ⟨t,v8,v9,v10,rfl,ht,s7⟩;rw[<- zg3 R cm]at ht;have B7:=B6.mono s7;refine⟨_,rfl,b,lb,rs,st,rfl,B7,R,(λgs G h=>(noG gs G h).elim),n0,λgs G _ H8 s8=>?_⟩;refine⟨_,rfl,_,rfl,true,rfl,Yg ?_⟩;refine⟨_,rfl,_,rfl,rfl,_,rfl,j8 (br (by rw[ht])) ?_⟩;have B8:=B7.mono s8;have hl8:=s8 _ _ (s7 _ _ hl6);by_cases h0:Yv rs st>0
     .refine⟨_,rfl,_,_,rfl,rfl,_,rfl,j8 (br h0) ?_⟩;refine⟨_,rfl,Yg ?_⟩;refine⟨_,rfl,_,rfl,_,rfl,zbn,λtb htb=>?_⟩;have z9:=ze (o:=.tup [.ref l,.int st]) htb;refine⟨bData rs st,bData rs st,(B8.mono z9).rdv,(show qk _ tb l rs st from ⟨zd,z9 _ _ hl8⟩).rdv,R.cmpB st,?_⟩;rw[bq (by decide),Oo _ (R.cmpB st).l1];exact q _
     .have ff:zjn=false:=by
       cases zjn with
       | false=>rfl
       | true =>
        have:=(zp3 rfl).some;have:=zge rs st;lia
      subst ff;refine⟨_,rfl,_,_,rfl,rfl,_,rfl,yI (bf h0) ?_⟩;refine⟨_,rfl,false,rfl,_,rfl,Yg ?_⟩;refine⟨_,rfl,_,rfl,_,rfl,zbn,λtb htb=>?_⟩;have z9:=ze (o:=.tup [.ref l,.int st]) htb;refine⟨bData rs st,bData rs st,(B8.mono z9).rdv,(show qk _ tb l rs st from ⟨zd,z9 _ _ hl8⟩).rdv,R.cmpB st,?_⟩;rw[bq (by decide),Oo _ (R.cmpB st).l1];exact q _
def zoM (T:Txt mg)(jas:qv K mg "StoneError" jai)(jat:qv K mg "TooGreat" jaj)(jan:qv K mg "NoLaying" jad)(jak:qv K mg "NoBoard" jaa)(jam:qv K mg "NoCount" jac)(jal:qv K mg "NoCell" jab)(jar:qv K mg "NoText" jah)(jap:qv K mg "NoRow" jaf)(jao:qv K mg "NoNumber" jae)(jaq:qv K mg "NoTable" jag)(FG:Facts K jaj jai jaj jad jaa jac jab jah jaf jae jag true false)(Z:Prog K mg){f:Addr}{fd:Xc}(D:zu K mg "law" zdC ["_law_script"] f fd):ql P w K mg base CX0 10 f fd ["_law_script"] (zgd K) :=
 zmU T Z ⟨jas,jat,jan,jak,jam,jal,jar,jap,jao,jaq,FG⟩ D
def all_mk {l:OT}{w:WV}{K:XY}{h:Heap}{mg:Str->Option X9}{fa:Addr}{jaE:Tok}{jaF:Tok}{jaG:Tok}{jai:Addr}{jaj:Addr}{jad:Addr}{jaa:Addr}{jac:Addr}{jab:Addr}{jah:Addr}{jaf:Addr}{jae:Addr}{jag:Addr}(X:K.In h)(G:h.Ns XM mg)(hfa:mg "law"=some (.ref fa))
  (Qu:HasDef K "closed" Zj)
  (xQ:HasDef K "open_cells" qG)
  (Qv:HasDef K "around" yy)
  (JI:HasDef K "number_at" xB)
  (Qw:HasDef K "opened" Yp)
  (ZD:HasDef K "cells_of" qS)
  (YA:HasDef K "sign_at" qY)
  (zbq:HasDef K "parts" zbH)
  (Qx:HasDef K "joined" Zk)
  (zhc:HasDef K "far" zfE)
  (xR:HasDef K "numbers_of" yC)
  (xT:HasDef K "bare_wrong" jS)
  (j4:HasDef K "closed_around" qD)
  (yj:HasDef K "part_layings" qT)
  (ZE:HasDef K "needs_at" Jy)
  (YB:HasDef K "may_fit" Zl)
  (yQ:HasDef K "part_counts" yY)
  (YC:HasDef K "counted" Zm)
  (xU:HasDef K "counted_at" yD)
  (YD:HasDef K "choices" YJ)
  (Qy:HasDef K "poured" Q8)
  (yR:HasDef K "near_counts" jZ)
  (zbr:HasDef K "count" zbI)
  (ZF:HasDef K "count_at" ZR)
  (jL:HasDef K "counts_by_cell" qL)
  (xV:HasDef K "all_poured" x8)
  (zbs:HasDef K "dealt" Q9)
  (yS:HasDef K "_law_cell_at" yZ)
  (JJ:HasDef K "_law_whole" JR)
  (ZG:HasDef K "_law_near" ZS)
  (JK:HasDef K "_law_texts" xC)
  (YE:HasDef K "_law_dug" YK)
  (JL:HasDef K "_law_great" xD)
  (yk:HasDef K "_law_greatest" jj)
  (yT:HasDef K "_law_outcome" xg)
  (xW:HasDef K "_law_closed" x9)
  (yU:HasDef K "_law_counted" xh)
  (zhd:HasDef K "law" zdC)
  (xX:XI K XM "ValueError"=some none)
  (zhe:XI K XM "any"=some none)
  (zd3:XI K XM "bool"=some none)
  (zd4:XI K XM "dict"=some none)
  (Qz:XI K XM "divmod"=some none)
  (JM:XI K XM "enumerate"=some none)
  (zhf:XI K XM "int"=some none)
  (xY:XI K XM "isinstance"=some none)
  (zhg:XI K XM "len"=some none)
  (zd5:XI K XM "list"=some none)
  (zhh:XI K XM "max"=some none)
  (zhi:XI K XM "min"=some none)
  (zbt:XI K XM "range"=some none)
  (zhj:XI K XM "set"=some none)
  (QA:XI K XM "sorted"=some none)
  (zhk:XI K XM "str"=some none)
  (zhl:XI K XM "sum"=some none)
  (zhm:XI K XM "zip"=some none)
  (yV:XI K XM "CLOSED_SIGN"=some (some (.str "?" jaE)))
  (yp:XI K XM "MOST_OF_PART"=some (some (.int 14 jaF)))
  (yq:XI K XM "NO_CELL_SIGN"=some (some (.str "#" jaG)))
  (jaC:XI K XM "StoneError"=some (some (.ref jai)))
  (jaP:WA K jai xP "ValueError.__new__"=true)
  (jaD:XI K XM "TooGreat"=some (some (.ref jaj)))
  (jaQ:WA K jaj xP "ValueError.__new__"=true)
  (jax:XI K XM "NoLaying"=some (some (.ref jad)))
  (jaK:WA K jad xP "ValueError.__new__"=true)
  (jau:XI K XM "NoBoard"=some (some (.ref jaa)))
  (jaH:WA K jaa xP "ValueError.__new__"=true)
  (jaw:XI K XM "NoCount"=some (some (.ref jac)))
  (jaJ:WA K jac xP "ValueError.__new__"=true)
  (jav:XI K XM "NoCell"=some (some (.ref jab)))
  (jaI:WA K jab xP "ValueError.__new__"=true)
  (jaB:XI K XM "NoText"=some (some (.ref jah)))
  (jaO:WA K jah xP "ValueError.__new__"=true)
  (jaz:XI K XM "NoRow"=some (some (.ref jaf)))
  (jaM:WA K jaf xP "ValueError.__new__"=true)
  (jay:XI K XM "NoNumber"=some (some (.ref jae)))
  (jaL:WA K jae xP "ValueError.__new__"=true)
  (jaA:XI K XM "NoTable"=some (some (.ref jag)))
  (jaN:WA K jag xP "ValueError.__new__"=true)
  (jaR:Vv K (.ref jaj) "__getattribute__"=some (some (.builtin "BaseException.__getattribute__")))
  (jaS:Vv K (.ref jaj) "__getattr__"=some none)
  (ja0:Vv K (.ref jaj) "__class__"=some (some (.builtin "object.__class__")))
  (ja1:Vl K jaj (.type "BaseException")=some true)
  (ja2:Vl K jaj (.type "object")=some true)
  (ja3:S2 K jaj=true)
  (ja4:Vl K jaj (.ref jai)=some true)
  (ja5:Xb K (.ref jaj) (.ref jaj)=some true)
  (ja6:Xb K (.ref jaj) (.ref jad)=some false)
  (ja7:Xb K (.ref jaj) (.ref jaa)=some false)
  (jaT:Xb K (.ref jaj) (.ref jac)=some false)
  (jaU:Xb K (.ref jaj) (.ref jab)=some false)
  (jaV:Xb K (.ref jaj) (.ref jah)=some false)
  (jaW:Xb K (.ref jaj) (.ref jaf)=some false)
  (jaX:Xb K (.ref jaj) (.ref jae)=some false)
  (jaY:Xb K (.ref jaj) (.ref jag)=some false)
  (jaZ:Xb K (.ref jaj) (.type "ValueError")=some true) :
  ∃fd:Xc,(∀(s:X8) (v:X9),NM s fd ⟨[v],[]⟩ [("_law_script",v)])/\∀base:Heap,K.In base->base.Ns XM mg->ql l.prog w K mg base CX0 10 fa fd ["_law_script"] (zgd K):=by
 obtain⟨f,oc,od,an,sl,kV,dc,pm,cd,ct,a,l0,c,k⟩:=zhd;have e:=hfa.symm.trans (V7 X G a);cases e;have T:Txt mg:=⟨WO X G xX,WO X G zhe,WO X G zd3,WO X G zd4,WO X G Qz,WO X G JM,WO X G zhf,WO X G xY,WO X G zhg,WO X G zd5,WO X G zhh,WO X G zhi,WO X G zbt,WO X G zhj,WO X G QA,WO X G zhk,WO X G zhl,WO X G zhm,⟨_,V7 X G yV⟩,⟨_,V7 X G yp⟩,⟨_,V7 X G yq⟩⟩;have Z:Prog K mg:=⟨Qu.at X G,xQ.at X G,Qv.at X G,JI.at X G,Qw.at X G,ZD.at X G,YA.at X G,zbq.at X G,Qx.at X G,zhc.at X G,xR.at X G,xT.at X G,j4.at X G,yj.at X G,ZE.at X G,YB.at X G,yQ.at X G,YC.at X G,xU.at X G,YD.at X G,Qy.at X G,yR.at X G,zbr.at X G,ZF.at X G,jL.at X G,xV.at X G,zbs.at X G,yS.at X G,JJ.at X G,ZG.at X G,JK.at X G,YE.at X G,JL.at X G,yk.at X G,yT.at X G,xW.at X G,yU.at X G⟩;have F:=zjB (st:=zdC) l0 c k;have D:zu K mg "law" zdC ["_law_script"] _ _:=⟨F,V7 X G a,F.binds (ps:=["_law_script"]) (λ_ _ _ _ _ _=>us1 λ_=>rfl)⟩;have jas:qv K mg "StoneError" jai:=⟨V7 X G jaC,jaP⟩;have jat:qv K mg "TooGreat" jaj:=⟨V7 X G jaD,jaQ⟩;have jan:qv K mg "NoLaying" jad:=⟨V7 X G jax,jaK⟩;have jak:qv K mg "NoBoard" jaa:=⟨V7 X G jau,jaH⟩;have jam:qv K mg "NoCount" jac:=⟨V7 X G jaw,jaJ⟩;have jal:qv K mg "NoCell" jab:=⟨V7 X G jav,jaI⟩;have jar:qv K mg "NoText" jah:=⟨V7 X G jaB,jaO⟩;have jap:qv K mg "NoRow" jaf:=⟨V7 X G jaz,jaM⟩;have jao:qv K mg "NoNumber" jae:=⟨V7 X G jay,jaL⟩;have jaq:qv K mg "NoTable" jag:=⟨V7 X G jaA,jaN⟩;have FG:Facts K jaj jai jaj jad jaa jac jab jah jaf jae jag true false:=⟨⟨jaR,jaS,ja0,ja1,ja2,ja3⟩,ja4,ja5,ja6,ja7,jaT,jaU,jaV,jaW,jaX,jaY,jaZ⟩;exact⟨_,λs v=>.of_eq rfl,λbase _ _=>zoM T jas jat jan jak jam jal jar jap jao jaq FG Z D⟩
def walk {l:OT}{q:Xd}{loose:AE}{XP:(Str->Option X9)->Heap->Prop}{YP:WV->Heap->Prop}{d:DefRec}{K:Params->XY}(hn:l.most=some 63)(hdf:d.params.defaults=[])
  (hY:∀(w:WV) (h:Heap),YP w h->(K w.params).In h)
  (F:∀(w:WV) (mg:Str->Option X9) (fa:Addr) (h:Heap),(K w.params).In h->h.Ns XM mg->mg d.name=some (.ref fa) ->
   ∃fd:Xc,(∀(s:X8) (u:X9),NM s fd ⟨[u],[]⟩ [("_law_script",u)])/\∀base:Heap,(K w.params).In base->base.Ns XM mg->ql l.prog w (K w.params) mg base CX0 10 fa fd ["_law_script"] (zgd (K w.params))) :
  NY q loose XP YP l.row.toRowW d [] (λf vs=>PySem.call f vs) :=
 L2.zht (n:=63) (k:=10) (x:="_law_script") (CX:=λ_=>CX0) (sp:=λw=>zgd (K w.params)) hn (by decide) hdf ⟨rfl,by decide,by decide⟩ hY F (λ_ _ a ns hl _ hS=>⟨a,ns,rfl,hS,hl,λ_=>rfl⟩) λ_ _ _ _ _ z=>z
end K36
open PySem PySem.W PyProof.Rows
set_option maxRecDepth 100000 in
set_option maxHeartbeats 0 in
theorem PySem.Challenge.cw_stonelay_k36_whole_one_cell_opened_holds : PySem.Challenge.rw_stonelay_k36_whole_one_cell_opened.Holds := by
 refine zbJ.early λ{q XP YP d K} hdf hY hn F=>?_;refine K36.walk (l:=PySem.Challenge.rw_stonelay_k36_whole_one_cell_opened) rfl hdf hY λw mg fa h KX G hmg=>?_;rw[hn]at hmg;refine L2.GS.via λGG hGG=>?_;obtain⟨Qu,xQ,Qv,JI,Qw,ZD,YA,zbq,Qx,zhc,xR,xT,j4,yj,ZE,YB,yQ,YC,xU,YD,Qy,yR,zbr,ZF,jL,xV,zbs,yS,JJ,ZG,JK,YE,JL,yk,yT,xW,yU,zhd,xX,zhe,zd3,zd4,Qz,JM,zhf,xY,zhg,zd5,zhh,zhi,zbt,zhj,QA,zhk,zhl,zhm,⟨_,yV⟩,⟨_,yp⟩,⟨_,yq⟩,⟨_,_,_,_,_,_,_,_,_,_,jaC,jaD,jax,jau,jaw,jav,jaB,jaz,jay,jaA,jaP,jaQ,jaK,jaH,jaJ,jaI,jaO,jaM,jaL,jaN,jaR,jaS,ja0,ja1,ja2,ja3,ja4,ja5,ja6,ja7,jaT,jaU,jaV,jaW,jaX,jaY,jaZ⟩⟩:=F w;refine hGG ?_;exact K36.all_mk KX G hmg Qu xQ Qv JI Qw ZD YA zbq Qx zhc xR xT j4 yj ZE YB yQ YC xU YD Qy yR zbr ZF jL xV zbs yS JJ ZG JK YE JL yk yT xW yU zhd xX zhe zd3 zd4 Qz JM zhf xY zhg zd5 zhh zhi zbt zhj QA zhk zhl zhm yV yp yq jaC jaP jaD jaQ jax jaK jau jaH jaw jaJ jav jaI jaB jaO jaz jaM jay jaL jaA jaN jaR jaS ja0 ja1 ja2 ja3 ja4 ja5 ja6 ja7 jaT jaU jaV jaW jaX jaY jaZ