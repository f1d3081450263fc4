import PyProof.Rows.All
import KE.IntBitsLaws
import KE.KDictOf
import KE.KDictSum
import KE.KIntText
import KE.KSortTup
import KE.LcSums
import KE.RegKIsAll
import KE.KNestM
import KE.KPairComp
import Lean
import PySem.Challenge.RW_stonelay_k91_whole_two_boards_parted
open List renaming length_map->ZB,length_append->X5,mem_of_getElem?->X4,getElem?_eq_some_iff->X2,mem_filter->XZ,mem_map->XY,getElem?_eq_getElem->XX,mem_append->XU,mem_cons_self->XT,map_append->XS,mem_cons_of_mem->XQ,take_length->XH,mem_cons->XF,length_take->XC,take_add_one->XB,length_cons->XA,mem_append_right->Xx,length_filter_le->Xw,size_toArray->Xr,mem_append_left->Xq,filter_append->Xp,map_congr_left->Xo,getD_eq_getElem?_getD->Xm,getElem?_map->Xl,range->Xk,map_cons->Xe,append_nil->Xc,mem_range->W9,replicate->W6,filter_cons->W3,length_range->WZ,all_eq_true->WV,flatten_append->WS,take_append_drop->WR,countP_cons->WQ,append_assoc->WP,mem_flatten->WN,filter_sublist->WM,flatten_cons->WG,filter_eq_nil_iff->WB,map_map->Wz,pairwise_map->Wx,any_eq_true->Ww,mem_of_mem_take->Wv,take_of_length_le->Wt,mem_flatMap->Wq,foldl_cons->Wp,nodup_append->Wl,mem_singleton->Wj,perm_ext_iff_of_nodup->Wi,drop_eq_getElem_cons->Wg,replicate_succ->V2,filter_congr->VZ,not_mem_nil->VS,countP_eq_zero->VP,length_eq_zero_iff->VF,sublist_flatten_of_mem->VE,foldl_append->Vw,countP_congr->Vu,nodup_cons->Vp,getElem?_append_left->Vm,isEmpty_eq_false_iff->Vk,lookup_cons->Vi,range_succ->U5,filterMap_cons->U4,length_drop->UZ,getElem?_append_right->UQ,perm_append_comm->UN,length_nil->UJ,filter_map->UI,map->UF,getElem?_range->Uz,take_succ_cons->Ux,filter->Ul,any_map->Ug,countP_append->Ud,length_pos_of_mem->Ua,nil_append->T8,find?_cons->T6,countP_map->T1,map_take->TY,take_sublist->TV,getElem_mem->TB,getElem?_zip_eq_some->Tx,pairwise_iff_getElem->Tw,getElem?_eq_none_iff->Tv,exists_mem_of_ne_nil->Tu,Nodup->Te,mem_filterMap->Td,ne_nil_of_mem->Ta,map_id->S7,take_zero->SS,ext_getElem?->SM,getElem?_set_self->SL,getElem?_eq_none->SH,any_cons->Sw,lookup->Sq,countP->So,getElem?_set_ne->Sl,length_set->Sf,dropLast_concat_getLast->Sd,getElem_of_mem->Sb,map_nil->R5,nodup_nil->RS,drop_drop->RR,filter_filter->RO,extract_eq_take_drop->RF,sublist_append_right->RC,any_eq_false->Rz,map_drop->Rt,getElem?_take_of_lt->Rr,sublist_append_left->Rg,cons_append->QQ,of_mem_zip->Px,length_replicate->Ps,length_singleton->Pr,mem_iff_getElem?->Pp,countP_replicate->Po,set_append_right->Pl,countP_le_length->Pj,pairwise_append->OY,length_dropLast->OW,countP_pos_iff->OM,length_pos_iff->OK,flatMap_append->OJ,take_add->OD,map_set->Oh
open PySem renaming Value->Y1,wpAny_bind->X9,Shared->X8,wpAny_pure->XR,mainGlobals->XO,FuncData->Xz,sizeLine->Xy,Program->Xv,model->Xn,wpAny->Xh,World->W5,boot_len->W0,Paired->WW,starEach->WO,Around->WL,mem_of_lookup->WD,SetTable->Wr,compareOp->Wf,wpAny_holding->We,wpAny_loadPart'->V9,codeAny_builtin->V8,wpAny_truthy_bool->V7,PyData->V6,wpAny_loadPart_at->V0,tupleKind->VT,wpAny_mono->VQ,foldedSetIterable->VO,cLine->VD,wpAny_newObj_type->Vy,plainId_quiet->Vf,Spec->U8,bootBuiltins->U2,GenState->UW,Builtin->UO,wpAny_passesOwn->UK,Scope->UH,relabel->UG,wpAny_rule->UC,rawInt->Uw,binaryOp->Uv,treeTable->Uu,wpAny_call_entry->Us,sizeLine_eq->Um,codeAny->Uj,sysModules->Ui,builtinLookup_eq_fast->TX,wpAny_pyIter_list->TW,codeAny_call_builtin->TJ,NameKind->Tq,behindInMarks->Tp,wpAny_execs_nil->Tk,assignEach->Th,call_meets->Tg,wpAny_Call_Name_kw->Tc,sliceBounds->S9,backTo->S5,codeAny_mono->S4,wpAny_pyIter_enum->SQ,wpAny_setState_of->SO,ofAClassStatement->SN,wpAny_isTrue_Compare1->SJ,pyNext->SF,cellsFrom->SD,storedH->Sx,letOwnedTupleGo->Sh,typeLookup_type->Se,wpAny_setEntries_of->Sa,wpAny_typeOf->R4,swapsWith->RX,firstArgMember->RU,tupleKind_room_in1->RP,wpAny_standAt->Rx,wpAny_attempt->Rv,setSearchFrom->Ru,wpAny_comprehension_free->Rq,pickOrder->Re,wpAny_execs_cons->Rc,checkBuiltinCall->QR,wpAny_forIn_list->Qr,wpAny_askSetting->P9,wpAny_callSpecial?_slot->P5,Result->PY,stored->PV,seqIndex_neg->PP,wpAny_getItem_list_neg->PJ,wpAny_pyNext_items_end->PB,wpAny_specialOf->Pu,wpAny_notOrdered_dict->Pq,seqIndex_of->Pf,subscripted->Pe,hashByValue->Pd,intText?->Pb,isSubtype_type->Pa,wpAny_setField->O9,getItem->OT,callerA->OQ,valueAt->OP,attributeBase->OG,comprehension->OF,wpAny_newList->OC,builtinsNs->Oy,typeLookup->Ox,closureFor->Ow,holding->Ou,BindsTo->Ot,OsState->Os,ReadsAll->Op,Params->Of,DictEntry->Od,pushCells->Oc,again->Ob,atKey->Oa,Moved->N9,wpAny_of_eq->N8,Keyword->N7,Drawn->N6,Model->N5,bindL->N4,bindC->N3,assign->N2,getAttr?->N1,entryFor->NZ,CmpOp->NX
open Nat renaming le_trans->X7,le_refl->XW,lt_of_le_of_lt->XI,lt_of_lt_of_le->XD,ne_of_lt->Xi,zero_le->W2,lt_succ_of_lt->Wm,lt_irrefl->V3,zero_add->V1,le_succ->VW,pow_le_pow_right->VU,le_add_right->VH,le_of_lt->VA,le_succ_of_le->Vx,min_eq_left->Vn,ne_of_gt->Vg,lt_trans->U1,succ_ne_self->UY,add_lt_add_left->Uy,add_sub_cancel_left->Uo,pow_succ->Uh,add_sub_cancel->Ue,not_lt_zero->T4,mul_le_mul->TK,mul_comm->TD,succ_le_succ->Tz,add_comm->S2,lt_or_ge->S1,succ_pos->SZ,add_le_add->SR,mod_lt->SC,lt_succ_self->Sz,add_le_add_left->R9,lt_trichotomy->Ry,succ_mul->PN,sub_self->PM,add_le_add_right->O6,pow_lt_pow_right->OX,mul_le_mul_right->OV,add_assoc->Oz,add_zero->Oj,mul_succ->Og
open PySem.Heap renaming get?_push_of_some->X6,lt_size->XE,get?_push_size->Xf,get?_update_self->VN,SameBut->VL,get?_none_of_le->VG,size_push->UT,get?_update_other->Ub,get?_update_ne->R8,FlyingW->Om
open PySem.W renaming Frag->X0,nsIn->XJ,kitOne->Xa,mg_none_of->WH,excIn->WA,mg_of->Wh,kia_one->V4,findIn->VM,mroIn->VC,hashAt->VB,fnOf->UE,openEnds->TQ,keepIn->TL,hideAll_get->Ts,isClsIn->Tl,codeIn->SW,cellsFrom_some->SK,looks_findIn->Sj,looks_mroIn->Sc,methodObj->RA,instObj->Py,OpenLaw->Pw,lookIn->Pc,WalkO->OI
open Array renaming length_toList->XV,getElem?_toList->WY,getElem?_eq_none->Ws,size_map->Vz,toList_append->Vq,getElem?_eq_getElem->Vl,toList_map->UX,perm_iff_toList_perm->UP,toList_setIfInBounds->TH,getElem?_eq_some_iff->TF,getD->Tf,mem_toList_iff->Sk,getElem_toList->Si,append_assoc->RQ,getElem?_replicate->Rl,toList_inj->Qb,toList_extract->O0,toList_reverse->OZ
open Bool renaming false_ne_true->XM,eq_iff_iff->W7,eq_false_iff->WU,and_eq_true_iff->WT,not_eq_true'->Wu,false_eq_true->V5,and_eq_true->VR,and_assoc->UR,false_and->SV,and_comm->Ss,and_true->Sr,true_and->Rs
open PySem.SetTable renaming bits->XG,below->Xs,insertAt->Xd,turns->W1,runEnd->VJ,leap->Ve,grown->Ut,sizeAbove->Tb,Probe->RT,advance->QP,fill->OE
open PyProof.Rows renaming wpS_bind->Xu,wpS_pure->Xj,arrOf->W8,pendingOf->W4,boot_isinstance->WX,SortSt->WJ,Keyed->WI,callWith_type1->VY,boot_int->Vj,boot_sorted->Vd,SortKind->UV,pairsOf_toList->US,boot_max->UM,boot_min->UL,seqObj->Uk,boot_dict->T9,failedOf->TN,boot_divmod->Tn,mem_zip_self->SY,boot_any->SG,wpS_modify->SA,AllBare->Sy,reverseSlice'->Su,wpS_get->R6,wpS_forRange->R3,listItems_at->RE,wpS_lift->Rf,envOfC->PX,setPending->PQ,subscriptTail_builtinR->PK,boot_list->Pz,boot_set->Pk,boot_str->Pi,IsTup->Ph,IntsAre->OR,pairsOf->OO,getElem?_mirror_all->OL,subscriptTail->OH,wpS_mono->NY
open PySem.PyData renaming eqv->Xg,canLayAll0->Vb,depthAll->TZ,bool->S8,canLay0->O8
open PySem.PassesOwn renaming never->Xb
open PySem.Value renaming ref->WF,int->Vs,none->UD,bool->Ti,builtin->Rw,type->PU,str->Oe
open PySem.F renaming plainAttrs_list->WE,slot_list_append->Wc,type_list_append->Wb,typeOf_object_class->TR,slot_dict_items->S6,excBase_ValueError->RK,kt_typeCall_dict_1->RJ,args_dict_init_2->Rn,slot_list_extend->Ri,type_list_extend->Rh,entry_dict_init->P6,plain_list_iadd->P4,plainAttrs_dict->P3,type_dict_items->P1,slot_list_count->P0,type_list_count->PZ,kt_called_dict->PD,slot_set_iter->Pn,plain_set_new->Pm,args_list_count_2->ON
open Int renaming toNat_natCast->WC,natCast_nonneg->Wo,gcd->Wa,toNat_of_nonneg->Vr,mul_ediv_cancel_left->Vc,gcd_dvd_right->Va,gcd_dvd_left->Ur,emod_lt_of_pos->Uf,natAbs_natCast->Uc,natCast_mul->T7,emod_nonneg->T3,le_refl->TM,natCast_add->Tj,zero_add->SX,le_of_lt->R0,add_zero->RZ,fmod_eq_emod_of_nonneg->RM,fdiv_eq_ediv_of_nonneg->RL,natAbs_ediv_le_natAbs->RB,natCast_ediv->P8,natCast_emod->P7,mul_zero->PL,ediv_self->OA,not_lt->Ov,le_trans->Ol,mul_comm->Oi
open PySem.Around renaming under_plainId->Wn
open Option renaming isSome_iff_exists->Wd,map_some->T5,getD_some->TC,map->RW
open Sum renaming inl->VX,inr->OU
open Or renaming inl->VI,inr->Pg
open PySem.SetTable.below renaming go->Vv
open List.Sublist renaming length_le->Vt
open ForInStep renaming yield->Vo,done->SU
open Ne renaming symm->Vh
open PySem.Builtin.Str renaming occurrences->U9
open False renaming elim->U7
open PySem.Obj renaming mapSeq->U6,mapFields->Sv
open PyProof.Rows.F renaming plain_set_update_loop->U3,entry_set_update_loop->Tr
open PySem.NameKind renaming cell->U0
open True renaming intro->UU
open PySem.Builtin.List renaming listTooLong->UB,listExtendWith->RY,listSameRef->Rj
open PySem.Heap.SameBut renaming update->UA
open PySem.Builtin.Dict renaming updateFrom->Uq,addKeywords->Ro,selfAndRest->Rm,pairItems->PF
open PySem.SetTable.probe renaming go->TU
open PySem.Shared renaming TypeIs->To
open Function renaming comp_apply->R7
open PySem.Calls renaming Name_function_global->RN,call_function_entry->RD,callWith_builtin->PH,evalArgs_plain->O7
open PySem.SeqAt.EqAt renaming bool_bool->RI
open Classical renaming byContradiction->RG
open PySem.SeqAt renaming list_countAt->Rp
open Prod.mk renaming injEq->OB
open PySem.W.Hook renaming obs->Oq
open PySem.Str renaming join->Oo
open PySem.W.RowW renaming records->On
set_option Elab.async false
set_option linter.all false
set_option maxRecDepth 100000
theorem bq {c:Prop}{h:Decidable c}(n:¬c){α:Sort _}{t e:α}:ite c t e=e:=if_neg n
theorem bw {c:Prop}{h:Decidable c}(n:c){α:Sort _}{t e:α}:ite c t e=t:=if_pos n
theorem br {p:Prop}[Decidable p](h:p):decide p=true:=decide_eq_true h
theorem bu {p:Prop}[Decidable p]:(decide p=true)=p:=decide_eq_true_eq
theorem bg {p:Prop}[Decidable p](h:¬p):decide p=false:=decide_eq_false h
theorem bh {p:Prop}[Decidable p](h:decide p=true):p:=of_decide_eq_true h
namespace Zs
open PySem PySem.W
theorem zky {loose:List PySem.Str}{r:OpenRow}{q:Xv}{H:Hook}{d:DefRec}{kwd:List (PySem.Str×Expr)}{N:Nat}(left:LeftO r.prog q loose (λs=>xlAt q [] s&&recOk (On r.toRowW) s) (Oq H) (Hook.val H) N)
  (hdef:defOf q r.name=some (d,kwd)) (hp:r.prog.theDef r.name=some (d.params,d.body,d.scope)) (hk:kwWritten? d.params.kwonlyargs d.params.kw_defaults=some kwd) (hwr:(!r.writes || r.records.isEmpty)=true)
  (k1:r.wellSaid=true) (ok:(chainsOk q&&opensWell r.prog&&(frees r.toRowW&&r.within.isEmpty))=true) (hb:r.prog.bare) (hw:r.toRowW.promised)
  (call:WalkO q loose (XL q []) (Hook.says H) r.toRowW d kwd λf vs=>PySem.call f vs):r.Holds :=
 holds_open (q:=q) (loose:=loose) (Xt:=λs=>xlAt q [] s&&recOk (On r.toRowW) s) (XP:=XL q []) (Yf:=Oq H) (Ya:=Hook.val H) (YP:=Hook.says H) (N:=N) left (Hook.of H) (Hook.keeps H) (λs e=>xl_of s (WT.mp e).1) XL.keeps hdef hp hk
  (λs e=>recFacts_of (WT.mp e).2) hwr k1 ok hb hw call
noncomputable def top (i:Nat):Stmt:=PySem.Challenge.pw_stonelay_k91_whole_two_boards_parted.main.body.getD i (.Pass ⟨0,0,0,0⟩)
noncomputable def Zt (s:Stmt):Arguments:=match s with
 | .FunctionDef _ a _ _ _ _ _ _ _ _=>a
 | _=>{ posonlyargs:=[],args:=[],vararg:=none,kwonlyargs:=[],kw_defaults:=[],kwarg:=none,defaults:=[] }
noncomputable def xQ (s:Stmt):List Stmt:=match s with
 | .FunctionDef _ _ b _ _ _ _ _ _ _=>b
 | _=>[]
noncomputable def zo (s:Stmt):UH:=match s with
 | .FunctionDef _ _ _ _ _ _ sc _ _ _=>sc
 | _=>{ kind:=.function,names:=[],isGenerator:=false,isCoroutine:=false }
def HD (K:X0)(x:Str)(i:Nat):Prop:=∃(f:Addr) (oc:Y1) (od an:Option Addr) (sl:Array (Option Y1)) (kV dc pm cd ct:Y1),XJ K XO x=some (some (.ref f))/\K.lookup f=some ⟨oc,od,.func (UE x x (Zt (top i)) (xQ (top i)) (zo (top i)) .none kV dc pm an cd ct),sl⟩/\SW K cd x=true/\TL K (.ref f)=true
def JB:List Y1:=[.type "ValueError",.type "Exception",.type "BaseException",.type "object"]
structure Facts (K:X0):Prop where
 za6:HD K "closed" 14
 JC:HD K "open_cells" 15
 za7:HD K "around" 16
 Zu:HD K "number_at" 17
 YJ:HD K "cells_of" 18
 Q5:HD K "sign_at" 19
 zcC:HD K "parts" 21
 za8:HD K "joined" 22
 zjs:HD K "far" 23
 JD:HD K "numbers_of" 24
 JE:HD K "bare_wrong" 25
 yx:HD K "closed_around" 26
 yQ:HD K "part_layings" 29
 YK:HD K "needs_at" 30
 Q6:HD K "may_fit" 31
 xR:HD K "part_counts" 32
 Q7:HD K "counted" 33
 JF:HD K "counted_at" 34
 Q8:HD K "choices" 36
 za9:HD K "poured" 37
 xT:HD K "near_counts" 39
 zcD:HD K "count" 40
 YL:HD K "count_at" 41
 yh:HD K "counts_by_cell" 42
 JG:HD K "all_poured" 43
 zcE:HD K "dealt" 44
 YM:HD K "fraction" 46
 jI:HD K "greatest_divisor" 47
 zcF:HD K "share" 49
 zba:HD K "shares" 50
 JH:HD K "some_count" 51
 zfB:HD K "sure" 52
 Zv:HD K "witnesses" 53
 Zw:HD K "far_picks" 54
 xU:HD K "some_laying" 55
 zcG:HD K "grown" 56
 xV:HD K "_law_cell_at" 58
 Zx:HD K "_law_whole" 59
 YN:HD K "_law_near" 60
 Zy:HD K "_law_signs" 61
 Q9:HD K "_law_dug" 62
 Zz:HD K "_law_texts" 63
 xW:HD K "_law_outcome" 64
 JI:HD K "_law_closed" 65
 YO:HD K "_law_told" 66
 YQ:HD K "_law_half" 67
 JJ:HD K "_law_poured" 68
 yy:HD K "_law_is_laying" 69
 yi:HD K "_law_cell_right" 70
 zjt:HD K "law" 71
 JK:XJ K XO "ValueError"=some none
 zju:XJ K XO "any"=some none
 zfC:XJ K XO "bool"=some none
 zfD:XJ K XO "dict"=some none
 zbb:XJ K XO "divmod"=some none
 ZA:XJ K XO "enumerate"=some none
 zjv:XJ K XO "int"=some none
 JL:XJ K XO "isinstance"=some none
 zjw:XJ K XO "len"=some none
 zfE:XJ K XO "list"=some none
 zjx:XJ K XO "max"=some none
 zjy:XJ K XO "min"=some none
 zcH:XJ K XO "range"=some none
 zjz:XJ K XO "set"=some none
 zbc:XJ K XO "sorted"=some none
 zjA:XJ K XO "str"=some none
 zjB:XJ K XO "sum"=some none
 zjC:XJ K XO "zip"=some none
 xX:∃t,XJ K XO "CLOSED_SIGN"=some (some (.str "?" t))
 yR:∃t,XJ K XO "MOST_OF_PART"=some (some (.int 14 t))
 yS:∃t,XJ K XO "NO_CELL_SIGN"=some (some (.str "#" t))
 cls:∃jai jaj jad jaa jac jab jah jaf jae jag:Addr,XJ K XO "StoneError"=some (some (.ref jai))/\XJ K XO "TooGreat"=some (some (.ref jaj))/\XJ K XO "NoLaying"=some (some (.ref jad))/\XJ K XO "NoBoard"=some (some (.ref jaa))/\XJ K XO "NoCount"=some (some (.ref jac))/\XJ K XO "NoCell"=some (some (.ref jab))/\XJ K XO "NoText"=some (some (.ref jah))/\XJ K XO "NoRow"=some (some (.ref jaf))/\XJ K XO "NoNumber"=some (some (.ref jae))/\XJ K XO "NoTable"=some (some (.ref jag))/\WA K jai JB "ValueError.__new__"=true/\WA K jaj JB "ValueError.__new__"=true/\WA K jad JB "ValueError.__new__"=true/\WA K jaa JB "ValueError.__new__"=true/\WA K jac JB "ValueError.__new__"=true/\WA K jab JB "ValueError.__new__"=true/\WA K jah JB "ValueError.__new__"=true/\WA K jaf JB "ValueError.__new__"=true/\WA K jae JB "ValueError.__new__"=true/\WA K jag JB "ValueError.__new__"=true/\VM K (.ref jad) "__getattribute__"=some (some (.builtin "BaseException.__getattribute__"))/\VM K (.ref jad) "__getattr__"=some none/\VM K (.ref jad) "__class__"=some (some (.builtin "object.__class__"))/\VC K jad (.type "BaseException")=some true/\VC K jad (.type "object")=some true/\Tl K jad=true/\VC K jad (.ref jai)=some true/\Xa K (.ref jad) (.ref jaj)=some false/\Xa K (.ref jad) (.ref jad)=some true/\Xa K (.ref jad) (.ref jaa)=some false/\Xa K (.ref jad) (.ref jac)=some false/\Xa K (.ref jad) (.ref jab)=some false/\Xa K (.ref jad) (.ref jah)=some false/\Xa K (.ref jad) (.ref jaf)=some false/\Xa K (.ref jad) (.ref jae)=some false/\Xa K (.ref jad) (.ref jag)=some false/\Xa K (.ref jad) (.type "ValueError")=some true
end Zs
noncomputable def Zs.ob:List PySem.Str:="StoneError" :: "NoBoard" :: "NoCount" :: "TooGreat" :: "NoLaying" :: "NoCell" :: "NoText" :: "NoRow" :: "NoNumber" :: "NoTable" :: "CLOSED_SIGN" :: "NO_CELL_SIGN" :: "closed" :: "open_cells" :: "around" :: "number_at" :: "cells_of" :: "sign_at" :: "parts" :: "joined" :: "far" :: "numbers_of" :: "bare_wrong" :: "closed_around" :: "MOST_OF_PART" :: "part_layings" :: "needs_at" :: "may_fit" :: "part_counts" :: "counted" :: "counted_at" :: "choices" :: "poured" :: "near_counts" :: "count" :: "count_at" :: "counts_by_cell" :: "all_poured" :: "dealt" :: "fraction" :: "greatest_divisor" :: "share" :: "shares" :: "some_count" :: "sure" :: "witnesses" :: "far_picks" :: "some_laying" :: "grown" :: "_law_cell_at" :: "_law_whole" :: "_law_near" :: "_law_signs" :: "_law_dug" :: "_law_texts" :: "_law_outcome" :: "_law_closed" :: "_law_told" :: "_law_half" :: "_law_poured" :: "_law_is_laying" :: "_law_cell_right" :: []
noncomputable def Zs.view:PySem.Program:={ PySem.Challenge.rw_stonelay_k91_whole_two_boards_parted.prog with main:={ PySem.Challenge.rw_stonelay_k91_whole_two_boards_parted.prog.main with body:=PySem.Challenge.rw_stonelay_k91_whole_two_boards_parted.prog.main.body.drop 71 } }
theorem Zs.keep (H:PySem.W.Hook){P:Prop}(h:P):P:=h
local macro_rules | `(tactic| o_head $H)=>`(tactic| refine Zs.keep $H ?_)
open PySem PySem.W PyProof.Rows in
set_option maxRecDepth 100000 in
set_option maxHeartbeats 0 in
theorem Zs.pre (h:PySem.Challenge.rw_stonelay_k91_whole_two_boards_parted.row.Holds):PySem.Challenge.rw_stonelay_k91_whole_two_boards_parted.row.Holds:=by
 k_head;exact h
namespace Zs
open PySem PySem.W
noncomputable def as:List Addr:=[2,3,15,22,23,24,25,28,35,36,37,40,47,48,49,52,59,60,61,64,71,72,73,76,83,84,85,88,95,96,97,100,107,108,109,112,119,120,121,124,131,132,133,136,139,140,141,144,145,146,148,149,151,152,153,155,156,158,159,160,163,164,165,167,168,170,171,172,174,175,177,178,179,182,183,184,187,188,189,192,193,194,197,198,199,202,203,204,207,208,209,212,213,214,217,218,219,221,222,224,225,226,228,229,231,232,233,236,237,238,240,241,243,244,245,247,248,250,251,252,255,256,257,259,260,262,263,264,266,267,269,270,271,274,275,276,278,279,281,282,283,286,287,288,290,291,293,294,295,297,298,300,301,302,304,305,307,308,309,312,313,314,316,317,319,320,321,324,325,326,329,330,331,334,335,336,339,340,341,344,345,346,348,349,351,352,353,355,356,358,359,360,362,363,365,366,367,369,370,372,373,374,376,377,379,380,381,384,385,386,388,389,391,392,393,395,396,398,399,400,402,403,405,406,407,410,411,412,414,415,417,418,419,422,423,424,426,427,429,430,431,434,435]
theorem cut {E:Option X8}{as:List Addr}{K:Frag}(n:Nat)(a:E.map (λs=>(as.take n).map s.heap.get?)=some ((K.take n).map λp=>some p.2))(b:E.map (λs=>(as.drop n).map s.heap.get?)=some ((K.drop n).map λp=>some p.2)):E.map (λs=>as.map s.heap.get?)=some (K.map λp=>some p.2):=by
 cases E with
 | none=>cases a
 | some s =>
  have e:=congr (congrArg HAppend.hAppend (Option.some.inj a)) (Option.some.inj b);rw[<- XS,<- XS,WR,WR]at e;exact congrArg some e
theorem hook {K:Of->Frag}{as:List Addr}{e:∀P,as=(K P).map (·.1)}{w:W5}{E:Option X8}(h:E.map (λs=>as.map s.heap.get?)=some ((K w.params).map λp=>some p.2)):E.map (Oq (kHook K as e))=some (Hook.val (kHook K as e) w):=h
theorem he (P:Of):as=(pre.heap_1 P).map (·.1):=by kernel_rfl
noncomputable abbrev OS:=openSeen view ob (importedModules PySem.Challenge.rw_stonelay_k91_whole_two_boards_parted.row.prog.main.body) (λs=>xlAt view [] s&&recOk (On PySem.Challenge.rw_stonelay_k91_whole_two_boards_parted.row.toRowW) s) true
set_option maxRecDepth 100000
set_option maxHeartbeats 0
theorem sa (w:W5):(TQ Uu PySem.Challenge.rw_stonelay_k91_whole_two_boards_parted.row.prog w 7468).map (λs=>(OS s,decide (0<=s.toks)))=some (openGood view ob,true):=by kernel_rfl
theorem h0 (w:W5):(TQ Uu PySem.Challenge.rw_stonelay_k91_whole_two_boards_parted.row.prog w 7468).map (λs=>(as.take 95).map s.heap.get?)=some (((pre.heap_1 w.params).take 95).map λp=>some p.2):=by kernel_rfl
theorem h1 (w:W5):(TQ Uu PySem.Challenge.rw_stonelay_k91_whole_two_boards_parted.row.prog w 7468).map (λs=>((as.drop 95).take 95).map s.heap.get?)=some ((((pre.heap_1 w.params).drop 95).take 95).map λp=>some p.2):=by kernel_rfl
theorem h2 (w:W5):(TQ Uu PySem.Challenge.rw_stonelay_k91_whole_two_boards_parted.row.prog w 7468).map (λs=>((as.drop 95).drop 95).map s.heap.get?)=some ((((pre.heap_1 w.params).drop 95).drop 95).map λp=>some p.2):=by kernel_rfl
theorem lift {w:W5}{α:Type}{Y:X8->α}{y:α}(h:(TQ Uu PySem.Challenge.rw_stonelay_k91_whole_two_boards_parted.row.prog w 7468).map Y=some y):(TQ Uu PySem.Challenge.rw_stonelay_k91_whole_two_boards_parted.row.prog w 7468).map (λs=>(OS s,Y s))=some (openGood view ob,y):=by
 have a:=sa w;generalize TQ Uu PySem.Challenge.rw_stonelay_k91_whole_two_boards_parted.row.prog w 7468=E at a h ⊢;cases E with
 | none=>cases a
 | some s =>
  have a:=Option.some.inj a;have h:=Option.some.inj h;exact congrArg some (Prod.ext (congrArg (·.1) a) h)
theorem hk (w:W5):(TQ Uu PySem.Challenge.rw_stonelay_k91_whole_two_boards_parted.row.prog w 7468).map (λs=>as.map s.heap.get?)=some ((pre.heap_1 w.params).map λp=>some p.2):=(cut (E:=TQ Uu PySem.Challenge.rw_stonelay_k91_whole_two_boards_parted.row.prog w 7468) (as:=as) (K:=(pre.heap_1 w.params)) 95 (h0 w) (cut (E:=TQ Uu PySem.Challenge.rw_stonelay_k91_whole_two_boards_parted.row.prog w 7468) (as:=(as.drop 95)) (K:=((pre.heap_1 w.params).drop 95)) 95 (h1 w) (h2 w)))
theorem lf (w:W5):(TQ Uu PySem.Challenge.rw_stonelay_k91_whole_two_boards_parted.row.prog w 7468).map (λs=>(OS s,Oq (kHook pre.heap_1 as he) s))=some (openGood view ob,Hook.val (kHook pre.heap_1 as he) w):=lift (Y:=Oq (kHook pre.heap_1 as he)) (y:=Hook.val (kHook pre.heap_1 as he) w) (hook (K:=pre.heap_1) (as:=as) (e:=he) (E:=TQ Uu PySem.Challenge.rw_stonelay_k91_whole_two_boards_parted.row.prog w 7468) (hk w))
end Zs
local macro_rules | `(tactic| o_head $H)=>`(tactic| (refine' Zs.zky (loose:=Zs.ob) (q:=Zs.view) (H:=PySem.W.kHook Zs.pre.heap_1 Zs.as Zs.he) (N:=7468) Zs.lf (by rfl) (by rfl) (by rfl) (by rfl) (by first | assumption | decide+kernel) (by decide+kernel) ⟨rfl,rfl,rfl,rfl,rfl,by decide+kernel⟩ ?_ ?_))
open PySem PySem.W PyProof.Rows in
set_option maxRecDepth 100000 in
set_option maxHeartbeats 0 in
theorem Zs.look:PySem.Challenge.rw_stonelay_k91_whole_two_boards_parted.wellSaid=true:=by kernel_rfl
open PySem PySem.W PyProof.Rows in
set_option maxRecDepth 100000 in
set_option maxHeartbeats 0 in
theorem Zs.early (h:∀{q:Xv} {XP:(Str->Option Y1)->Heap->Prop} {YP:W5->Heap->Prop} {d:DefRec} {K:Of->X0},d.params.defaults=[]->(∀(w:W5) (h:Heap),YP w h->(K w.params).In h)->d.name="law"->(∀w:W5,Zs.Facts (K w.params))->OI q Zs.ob XP YP PySem.Challenge.rw_stonelay_k91_whole_two_boards_parted.row.toRowW d [] (λf vs=>PySem.call f vs)):PySem.Challenge.rw_stonelay_k91_whole_two_boards_parted.Holds:=by
 w_on;refine holds_law Zs.look λsaid=>?_;o_head trivial;w_witness2;k_fill;refine h rfl (λw h Y=>PySem.W.kIn_of Y) rfl λw=>?_;constructor;all_goals first | k_is | exact⟨_,_,_,_,_,_,_,_,_,_,by k_is,by k_is,by k_is,by k_is⟩ | exact⟨_,by k_is⟩ | exact⟨_,_,_,_,_,_,_,_,_,_,by k_is,by k_is,by k_is,by k_is,by k_is,by k_is,by k_is,by k_is,by k_is,by k_is,by k_exc,by k_exc,by k_exc,by k_exc,by k_exc,by k_exc,by k_exc,by k_exc,by k_exc,by k_exc,by k_is,by k_is,by k_is,by k_is,by k_is,by k_is,by k_is,by kit_is,by kit_is,by kit_is,by kit_is,by kit_is,by kit_is,by kit_is,by kit_is,by kit_is,by kit_is⟩
noncomputable section
section
variable{α β γ δ ε ζ η θ ι κ μ ν ξ:Sort _}
theorem dB {p q r s:α->β->Prop}(a:α)(b:β)(h:p a b)(A:q a b)(B:r a b)(C:s a b):∃a,∃b,p a b/\q a b/\r a b/\s a b:=⟨a,b,h,A,B,C⟩
theorem dD {p q r:α->Prop}(a:α)(h:p a)(A:q a)(B:r a):∃a,p a/\q a/\r a:=⟨a,h,A,B⟩
theorem dF {p q r s:α->β->γ->Prop}(a:α)(b:β)(c:γ)(h:p a b c)(A:q a b c)(B:r a b c)(C:s a b c):∃a,∃b,∃c,p a b c/\q a b c/\r a b c/\s a b c:=⟨a,b,c,h,A,B,C⟩
theorem dG {p q:α->Prop}(a:α)(h:p a)(A:q a):∃a,p a/\q a:=⟨a,h,A⟩
theorem dH {p q r s t:α->β->Prop}(a:α)(b:β)(h:p a b)(A:q a b)(B:r a b)(C:s a b)(D:t a b):∃a,∃b,p a b/\q a b/\r a b/\s a b/\t a b:=⟨a,b,h,A,B,C,D⟩
theorem dI {p q r s t:α->β->γ->Prop}(a:α)(b:β)(c:γ)(h:p a b c)(A:q a b c)(B:r a b c)(C:s a b c)(D:t a b c):∃a,∃b,∃c,p a b c/\q a b c/\r a b c/\s a b c/\t a b c:=⟨a,b,c,h,A,B,C,D⟩
theorem dJ {p q r:α->β->Prop}{s:α->β->γ->δ->Prop}{t u v:α->β->γ->δ->ε->ζ->Prop}(a:α)(b:β)(h:p a b)(A:q a b)(B:r a b)(c:γ)(d:δ)(C:s a b c d)(e:ε)(f:ζ)(D:t a b c d e f)(E:u a b c d e f)(F:v a b c d e f):∃a,∃b,p a b/\q a b/\r a b/\∃c,∃d,s a b c d/\∃e,∃f,t a b c d e f/\u a b c d e f/\v a b c d e f:=⟨a,b,h,A,B,c,d,C,e,f,D,E,F⟩
theorem dM {p q r:α->β->Prop}(a:α)(b:β)(h:p a b)(A:q a b)(B:r a b):∃a,∃b,p a b/\q a b/\r a b:=⟨a,b,h,A,B⟩
theorem dN {p:α->Prop}{q r:α->β->Prop}(a:α)(h:p a)(b:β)(A:q a b)(B:r a b):∃a,p a/\∃b,q a b/\r a b:=⟨a,h,b,A,B⟩
theorem dO {p q r s t u:α->β->γ->δ->ε->Prop}(a:α)(b:β)(c:γ)(d:δ)(e:ε)(h:p a b c d e)(A:q a b c d e)(B:r a b c d e)(C:s a b c d e)(D:t a b c d e)(E:u a b c d e):∃a,∃b,∃c,∃d,∃e,p a b c d e/\q a b c d e/\r a b c d e/\s a b c d e/\t a b c d e/\u a b c d e:=⟨a,b,c,d,e,h,A,B,C,D,E⟩
theorem dP {p q r s t u:α->β->γ->Prop}(a:α)(b:β)(c:γ)(h:p a b c)(A:q a b c)(B:r a b c)(C:s a b c)(D:t a b c)(E:u a b c):∃a,∃b,∃c,p a b c/\q a b c/\r a b c/\s a b c/\t a b c/\u a b c:=⟨a,b,c,h,A,B,C,D,E⟩
theorem dQ {p q r s t u:α->β->γ->δ->Prop}(a:α)(b:β)(c:γ)(d:δ)(h:p a b c d)(A:q a b c d)(B:r a b c d)(C:s a b c d)(D:t a b c d)(E:u a b c d):∃a,∃b,∃c,∃d,p a b c d/\q a b c d/\r a b c d/\s a b c d/\t a b c d/\u a b c d:=⟨a,b,c,d,h,A,B,C,D,E⟩
theorem dR {p q r s t u:Prop}(h:p)(A:q)(B:r)(C:s)(D:t)(E:u):p/\q/\r/\s/\t/\u:=⟨h,A,B,C,D,E⟩
theorem dS {p:α->β->γ->δ->Prop}(a:α)(b:β)(c:γ)(d:δ)(h:p a b c d):∃a,∃b,∃c,∃d,p a b c d:=⟨a,b,c,d,h⟩
theorem dU {p q r:Prop}(h:p)(A:q)(B:r):p/\q/\r:=⟨h,A,B⟩
theorem dW {p q r s:α->Prop}(a:α)(h:p a)(A:q a)(B:r a)(C:s a):∃a,p a/\q a/\r a/\s a:=⟨a,h,A,B,C⟩
theorem dX {p:α->Prop}{q r s:α->β->Prop}(a:α)(h:p a)(b:β)(A:q a b)(B:r a b)(C:s a b):∃a,p a/\∃b,q a b/\r a b/\s a b:=⟨a,h,b,A,B,C⟩
theorem dY {p q r s t:Prop}(h:p)(A:q)(B:r)(C:s)(D:t):p/\q/\r/\s/\t:=⟨h,A,B,C,D⟩
theorem dZ {p q r s t:α->Prop}(a:α)(h:p a)(A:q a)(B:r a)(C:s a)(D:t a):∃a,p a/\q a/\r a/\s a/\t a:=⟨a,h,A,B,C,D⟩
theorem d8 {p q r s t u v w:α->β->γ->Prop}(a:α)(b:β)(c:γ)(h:p a b c)(A:q a b c)(B:r a b c)(C:s a b c)(D:t a b c)(E:u a b c)(F:v a b c)(G:w a b c):∃a,∃b,∃c,p a b c/\q a b c/\r a b c/\s a b c/\t a b c/\u a b c/\v a b c/\w a b c:=⟨a,b,c,h,A,B,C,D,E,F,G⟩
theorem d9 {p q r s t u:α->β->Prop}(a:α)(b:β)(h:p a b)(A:q a b)(B:r a b)(C:s a b)(D:t a b)(E:u a b):∃a,∃b,p a b/\q a b/\r a b/\s a b/\t a b/\u a b:=⟨a,b,h,A,B,C,D,E⟩
theorem eu {p q r:α->β->γ->Prop}(a:α)(b:β)(c:γ)(h:p a b c)(A:q a b c)(B:r a b c):∃a,∃b,∃c,p a b c/\q a b c/\r a b c:=⟨a,b,c,h,A,B⟩
theorem eB {p q:α->Prop}{r s t u:α->β->γ->Prop}(a:α)(h:p a)(A:q a)(b:β)(c:γ)(B:r a b c)(C:s a b c)(D:t a b c)(E:u a b c):∃a,p a/\q a/\∃b,∃c,r a b c/\s a b c/\t a b c/\u a b c:=⟨a,h,A,b,c,B,C,D,E⟩
theorem eE {p:α->Prop}{q r s:α->β->γ->Prop}(a:α)(h:p a)(b:β)(c:γ)(A:q a b c)(B:r a b c)(C:s a b c):∃a,p a/\∃b,∃c,q a b c/\r a b c/\s a b c:=⟨a,h,b,c,A,B,C⟩
theorem eF {p:α->Prop}{q:α->β->γ->Prop}(a:α)(h:p a)(b:β)(c:γ)(A:q a b c):∃a,p a/\∃b,∃c,q a b c:=⟨a,h,b,c,A⟩
theorem eH {p:Prop}{q r:α->Prop}(h:p)(a:α)(A:q a)(B:r a):p/\∃a,q a/\r a:=⟨h,a,A,B⟩
theorem eK {p:α->β->Prop}(a:α)(b:β)(h:p a b):∃a,∃b,p a b:=⟨a,b,h⟩
theorem eL {p q:α->β->γ->δ->Prop}(a:α)(b:β)(c:γ)(d:δ)(h:p a b c d)(A:q a b c d):∃a,∃b,∃c,∃d,p a b c d/\q a b c d:=⟨a,b,c,d,h,A⟩
theorem eN {p q r s t:α->β->γ->δ->ε->ζ->η->Prop}(a:α)(b:β)(c:γ)(d:δ)(e:ε)(f:ζ)(g:η)(h:p a b c d e f g)(A:q a b c d e f g)(B:r a b c d e f g)(C:s a b c d e f g)(D:t a b c d e f g):∃a,∃b,∃c,∃d,∃e,∃f,∃g,p a b c d e f g/\q a b c d e f g/\r a b c d e f g/\s a b c d e f g/\t a b c d e f g:=⟨a,b,c,d,e,f,g,h,A,B,C,D⟩
theorem eO {p q:Prop}{r s:α->Prop}(h:p)(A:q)(a:α)(B:r a)(C:s a):p/\q/\∃a,r a/\s a:=⟨h,A,a,B,C⟩
theorem eS {p q:α->β->Prop}{r s:α->β->γ->Prop}(a:α)(b:β)(h:p a b)(A:q a b)(c:γ)(B:r a b c)(C:s a b c):∃a,∃b,p a b/\q a b/\∃c,r a b c/\s a b c:=⟨a,b,h,A,c,B,C⟩
theorem eU {p q r s t:α->β->γ->δ->Prop}(a:α)(b:β)(c:γ)(d:δ)(h:p a b c d)(A:q a b c d)(B:r a b c d)(C:s a b c d)(D:t a b c d):∃a,∃b,∃c,∃d,p a b c d/\q a b c d/\r a b c d/\s a b c d/\t a b c d:=⟨a,b,c,d,h,A,B,C,D⟩
theorem eV {p q r s:α->β->γ->δ->Prop}(a:α)(b:β)(c:γ)(d:δ)(h:p a b c d)(A:q a b c d)(B:r a b c d)(C:s a b c d):∃a,∃b,∃c,∃d,p a b c d/\q a b c d/\r a b c d/\s a b c d:=⟨a,b,c,d,h,A,B,C⟩
theorem eW {p q:α->Prop}{r s t u v:α->β->γ->Prop}(a:α)(h:p a)(A:q a)(b:β)(c:γ)(B:r a b c)(C:s a b c)(D:t a b c)(E:u a b c)(F:v a b c):∃a,p a/\q a/\∃b,∃c,r a b c/\s a b c/\t a b c/\u a b c/\v a b c:=⟨a,h,A,b,c,B,C,D,E,F⟩
theorem eX {p q r s t u v w:α->β->γ->δ->ε->Prop}(a:α)(b:β)(c:γ)(d:δ)(e:ε)(h:p a b c d e)(A:q a b c d e)(B:r a b c d e)(C:s a b c d e)(D:t a b c d e)(E:u a b c d e)(F:v a b c d e)(G:w a b c d e):∃a,∃b,∃c,∃d,∃e,p a b c d e/\q a b c d e/\r a b c d e/\s a b c d e/\t a b c d e/\u a b c d e/\v a b c d e/\w a b c d e:=⟨a,b,c,d,e,h,A,B,C,D,E,F,G⟩
theorem eY {p:α->Prop}{q r s t u:α->β->γ->δ->ε->Prop}(a:α)(h:p a)(b:β)(c:γ)(d:δ)(e:ε)(A:q a b c d e)(B:r a b c d e)(C:s a b c d e)(D:t a b c d e)(E:u a b c d e):∃a,p a/\∃b,∃c,∃d,∃e,q a b c d e/\r a b c d e/\s a b c d e/\t a b c d e/\u a b c d e:=⟨a,h,b,c,d,e,A,B,C,D,E⟩
theorem eZ {p q:α->β->γ->δ->ε->Prop}(a:α)(b:β)(c:γ)(d:δ)(e:ε)(h:p a b c d e)(A:q a b c d e):∃a,∃b,∃c,∃d,∃e,p a b c d e/\q a b c d e:=⟨a,b,c,d,e,h,A⟩
theorem e8 {p:α->β->γ->δ->ε->ζ->Prop}(a:α)(b:β)(c:γ)(d:δ)(e:ε)(f:ζ)(h:p a b c d e f):∃a,∃b,∃c,∃d,∃e,∃f,p a b c d e f:=⟨a,b,c,d,e,f,h⟩
theorem e9 {p q:α->Prop}{r s t:α->β->Prop}(a:α)(h:p a)(A:q a)(b:β)(B:r a b)(C:s a b)(D:t a b):∃a,p a/\q a/\∃b,r a b/\s a b/\t a b:=⟨a,h,A,b,B,C,D⟩
theorem fc {p q r s:Prop}(h:p)(A:q)(B:r)(C:s):p/\q/\r/\s:=⟨h,A,B,C⟩
theorem fh {p q:α->β->γ->Prop}(a:α)(b:β)(c:γ)(h:p a b c)(A:q a b c):∃a,∃b,∃c,p a b c/\q a b c:=⟨a,b,c,h,A⟩
theorem fj {p:Prop}{q r s t u v:α->β->Prop}(h:p)(a:α)(b:β)(A:q a b)(B:r a b)(C:s a b)(D:t a b)(E:u a b)(F:v a b):p/\∃a,∃b,q a b/\r a b/\s a b/\t a b/\u a b/\v a b:=⟨h,a,b,A,B,C,D,E,F⟩
theorem fk {p:Prop}{q r s:α->β->Prop}(h:p)(a:α)(b:β)(A:q a b)(B:r a b)(C:s a b):p/\∃a,∃b,q a b/\r a b/\s a b:=⟨h,a,b,A,B,C⟩
theorem fm {p q r s:α->β->Prop}{Z:Prop}(k:∀a,∀b,p a b->q a b->r a b->s a b->Z):(∃a,∃b,p a b/\q a b/\r a b/\s a b)->Z:=λ⟨a,b,h,A,B,C⟩=>k a b h A B C
theorem fq {p q:α->Prop}{Z:Prop}(k:∀a,p a->q a->Z):(∃a,p a/\q a)->Z:=λ⟨a,h,A⟩=>k a h A
theorem fu {p q r:α->Prop}{Z:Prop}(k:∀a,p a->q a->r a->Z):(∃a,p a/\q a/\r a)->Z:=λ⟨a,h,A,B⟩=>k a h A B
theorem fy {p q r:α->β->Prop}{Z:Prop}(k:∀a,∀b,p a b->q a b->r a b->Z):(∃a,∃b,p a b/\q a b/\r a b)->Z:=λ⟨a,b,h,A,B⟩=>k a b h A B
theorem fB {p:α->β->γ->δ->Prop}{Z:Prop}(k:∀a,∀b,∀c,∀d,p a b c d->Z):(∃a,∃b,∃c,∃d,p a b c d)->Z:=λ⟨a,b,c,d,h⟩=>k a b c d h
theorem fC {p q r s t:α->β->γ->Prop}{Z:Prop}(k:∀a,∀b,∀c,p a b c->q a b c->r a b c->s a b c->t a b c->Z):(∃a,∃b,∃c,p a b c/\q a b c/\r a b c/\s a b c/\t a b c)->Z:=λ⟨a,b,c,h,A,B,C,D⟩=>k a b c h A B C D
theorem fD {p q r s:α->β->γ->Prop}{Z:Prop}(k:∀a,∀b,∀c,p a b c->q a b c->r a b c->s a b c->Z):(∃a,∃b,∃c,p a b c/\q a b c/\r a b c/\s a b c)->Z:=λ⟨a,b,c,h,A,B,C⟩=>k a b c h A B C
theorem fE {p q r s t u:α->β->γ->Prop}{Z:Prop}(k:∀a,∀b,∀c,p a b c->q a b c->r a b c->s a b c->t a b c->u a b c->Z):(∃a,∃b,∃c,p a b c/\q a b c/\r a b c/\s a b c/\t a b c/\u a b c)->Z:=λ⟨a,b,c,h,A,B,C,D,E⟩=>k a b c h A B C D E
theorem fF {p q r s t:α->β->Prop}{Z:Prop}(k:∀a,∀b,p a b->q a b->r a b->s a b->t a b->Z):(∃a,∃b,p a b/\q a b/\r a b/\s a b/\t a b)->Z:=λ⟨a,b,h,A,B,C,D⟩=>k a b h A B C D
theorem fG {p q r s t u:Prop}{Z:Prop}(k:p->q->r->s->t->u->Z):(p/\q/\r/\s/\t/\u)->Z:=λ⟨h,A,B,C,D,E⟩=>k h A B C D E
theorem fH {p q:Prop}{r s:α->Prop}{Z:Prop}(k:p->q->∀a,r a->s a->Z):(p/\q/\∃a,r a/\s a)->Z:=λ⟨h,A,a,B,C⟩=>k h A a B C
theorem fJ {p:α->Prop}{q r:α->β->Prop}{Z:Prop}(k:∀a,p a->∀b,q a b->r a b->Z):(∃a,p a/\∃b,q a b/\r a b)->Z:=λ⟨a,h,b,A,B⟩=>k a h b A B
theorem fK {p q:α->β->Prop}{Z:Prop}(k:∀a,∀b,p a b->q a b->Z):(∃a,∃b,p a b/\q a b)->Z:=λ⟨a,b,h,A⟩=>k a b h A
theorem fL {p q r:Prop}{Z:Prop}(k:p->q->r->Z):(p/\q/\r)->Z:=λ⟨h,A,B⟩=>k h A B
theorem fM {p q r s:α->β->γ->δ->Prop}{Z:Prop}(k:∀a,∀b,∀c,∀d,p a b c d->q a b c d->r a b c d->s a b c d->Z):(∃a,∃b,∃c,∃d,p a b c d/\q a b c d/\r a b c d/\s a b c d)->Z:=λ⟨a,b,c,d,h,A,B,C⟩=>k a b c d h A B C
theorem fN {p q r s t:Prop}{Z:Prop}(k:p->q->r->s->t->Z):(p/\q/\r/\s/\t)->Z:=λ⟨h,A,B,C,D⟩=>k h A B C D
theorem fO {p q r s:Prop}{Z:Prop}(k:p->q->r->s->Z):(p/\q/\r/\s)->Z:=λ⟨h,A,B,C⟩=>k h A B C
theorem fP {p q r:α->β->γ->Prop}{Z:Prop}(k:∀a,∀b,∀c,p a b c->q a b c->r a b c->Z):(∃a,∃b,∃c,p a b c/\q a b c/\r a b c)->Z:=λ⟨a,b,c,h,A,B⟩=>k a b c h A B
theorem fQ {p:Prop}{q r s:α->β->Prop}{Z:Prop}(k:p->∀a,∀b,q a b->r a b->s a b->Z):(p/\∃a,∃b,q a b/\r a b/\s a b)->Z:=λ⟨h,a,b,A,B,C⟩=>k h a b A B C
theorem fR {p q r s t:α->Prop}{Z:Prop}(k:∀a,p a->q a->r a->s a->t a->Z):(∃a,p a/\q a/\r a/\s a/\t a)->Z:=λ⟨a,h,A,B,C,D⟩=>k a h A B C D
theorem fS {p q r s t u:α->β->γ->δ->ε->Prop}{Z:Prop}(k:∀a,∀b,∀c,∀d,∀e,p a b c d e->q a b c d e->r a b c d e->s a b c d e->t a b c d e->u a b c d e->Z):(∃a,∃b,∃c,∃d,∃e,p a b c d e/\q a b c d e/\r a b c d e/\s a b c d e/\t a b c d e/\u a b c d e)->Z:=λ⟨a,b,c,d,e,h,A,B,C,D,E⟩=>k a b c d e h A B C D E
theorem fT {p q:α->β->γ->Prop}{Z:Prop}(k:∀a,∀b,∀c,p a b c->q a b c->Z):(∃a,∃b,∃c,p a b c/\q a b c)->Z:=λ⟨a,b,c,h,A⟩=>k a b c h A
theorem fU {p q r s t:α->β->γ->δ->Prop}{Z:Prop}(k:∀a,∀b,∀c,∀d,p a b c d->q a b c d->r a b c d->s a b c d->t a b c d->Z):(∃a,∃b,∃c,∃d,p a b c d/\q a b c d/\r a b c d/\s a b c d/\t a b c d)->Z:=λ⟨a,b,c,d,h,A,B,C,D⟩=>k a b c d h A B C D
theorem fV {p q r s t:α->β->γ->δ->ε->ζ->η->Prop}{Z:Prop}(k:∀a,∀b,∀c,∀d,∀e,∀f,∀g,p a b c d e f g->q a b c d e f g->r a b c d e f g->s a b c d e f g->t a b c d e f g->Z):(∃a,∃b,∃c,∃d,∃e,∃f,∃g,p a b c d e f g/\q a b c d e f g/\r a b c d e f g/\s a b c d e f g/\t a b c d e f g)->Z:=λ⟨a,b,c,d,e,f,g,h,A,B,C,D⟩=>k a b c d e f g h A B C D
theorem fW {p q r s t:α->β->γ->δ->ε->ζ->Prop}{Z:Prop}(k:∀a,∀b,∀c,∀d,∀e,∀f,p a b c d e f->q a b c d e f->r a b c d e f->s a b c d e f->t a b c d e f->Z):(∃a,∃b,∃c,∃d,∃e,∃f,p a b c d e f/\q a b c d e f/\r a b c d e f/\s a b c d e f/\t a b c d e f)->Z:=λ⟨a,b,c,d,e,f,h,A,B,C,D⟩=>k a b c d e f h A B C D
theorem fX {p q r s t u:α->β->γ->δ->Prop}{Z:Prop}(k:∀a,∀b,∀c,∀d,p a b c d->q a b c d->r a b c d->s a b c d->t a b c d->u a b c d->Z):(∃a,∃b,∃c,∃d,p a b c d/\q a b c d/\r a b c d/\s a b c d/\t a b c d/\u a b c d)->Z:=λ⟨a,b,c,d,h,A,B,C,D,E⟩=>k a b c d h A B C D E
theorem fY {p q r s t u:α->β->Prop}{Z:Prop}(k:∀a,∀b,p a b->q a b->r a b->s a b->t a b->u a b->Z):(∃a,∃b,p a b/\q a b/\r a b/\s a b/\t a b/\u a b)->Z:=λ⟨a,b,h,A,B,C,D,E⟩=>k a b h A B C D E
theorem fZ {p q:Prop}{r:α->Prop}{s t:α->β->γ->δ->Prop}{Z:Prop}(k:p->q->∀a,r a->∀b,∀c,∀d,s a b c d->t a b c d->Z):(p/\q/\∃a,r a/\∃b,∃c,∃d,s a b c d/\t a b c d)->Z:=λ⟨h,A,a,B,b,c,d,C,D⟩=>k h A a B b c d C D
theorem f7 {p q:Prop}{Z:Prop}(k:p->q->Z):(p/\q)->Z:=λ⟨h,A⟩=>k h A
theorem f9 {p:Prop}{q r:α->β->Prop}{Z:Prop}(k:p->∀a,∀b,q a b->r a b->Z):(p/\∃a,∃b,q a b/\r a b)->Z:=λ⟨h,a,b,A,B⟩=>k h a b A B
theorem gb {p q r s:α->Prop}{Z:Prop}(k:∀a,p a->q a->r a->s a->Z):(∃a,p a/\q a/\r a/\s a)->Z:=λ⟨a,h,A,B,C⟩=>k a h A B C
theorem gc {p q r s t u v:α->β->γ->δ->Prop}{Z:Prop}(k:∀a,∀b,∀c,∀d,p a b c d->q a b c d->r a b c d->s a b c d->t a b c d->u a b c d->v a b c d->Z):(∃a,∃b,∃c,∃d,p a b c d/\q a b c d/\r a b c d/\s a b c d/\t a b c d/\u a b c d/\v a b c d)->Z:=λ⟨a,b,c,d,h,A,B,C,D,E,F⟩=>k a b c d h A B C D E F
theorem gf {p:α->Prop}{q r s:α->β->γ->Prop}{Z:Prop}(k:∀a,p a->∀b,∀c,q a b c->r a b c->s a b c->Z):(∃a,p a/\∃b,∃c,q a b c/\r a b c/\s a b c)->Z:=λ⟨a,h,b,c,A,B,C⟩=>k a h b c A B C
theorem gg {p q r s t u v w:α->β->γ->δ->ε->Prop}{Z:Prop}(k:∀a,∀b,∀c,∀d,∀e,p a b c d e->q a b c d e->r a b c d e->s a b c d e->t a b c d e->u a b c d e->v a b c d e->w a b c d e->Z):(∃a,∃b,∃c,∃d,∃e,p a b c d e/\q a b c d e/\r a b c d e/\s a b c d e/\t a b c d e/\u a b c d e/\v a b c d e/\w a b c d e)->Z:=λ⟨a,b,c,d,e,h,A,B,C,D,E,F,G⟩=>k a b c d e h A B C D E F G
theorem gi {p q:α->β->γ->δ->Prop}{Z:Prop}(k:∀a,∀b,∀c,∀d,p a b c d->q a b c d->Z):(∃a,∃b,∃c,∃d,p a b c d/\q a b c d)->Z:=λ⟨a,b,c,d,h,A⟩=>k a b c d h A
theorem gj {p q r s t:α->β->γ->δ->ε->Prop}{Z:Prop}(k:∀a,∀b,∀c,∀d,∀e,p a b c d e->q a b c d e->r a b c d e->s a b c d e->t a b c d e->Z):(∃a,∃b,∃c,∃d,∃e,p a b c d e/\q a b c d e/\r a b c d e/\s a b c d e/\t a b c d e)->Z:=λ⟨a,b,c,d,e,h,A,B,C,D⟩=>k a b c d e h A B C D
theorem gn {p:α->Prop}{Z:Prop}(k:∀a,p a->Z):(∃a,p a)->Z:=λ⟨a,h⟩=>k a h
theorem gp {p:α->β->Prop}{Z:Prop}(k:∀a,∀b,p a b->Z):(∃a,∃b,p a b)->Z:=λ⟨a,b,h⟩=>k a b h
theorem gq {p q r s t u:α->Prop}{Z:Prop}(k:∀a,p a->q a->r a->s a->t a->u a->Z):(∃a,p a/\q a/\r a/\s a/\t a/\u a)->Z:=λ⟨a,h,A,B,C,D,E⟩=>k a h A B C D E
end
local macro_rules | `("a")=>`(by lia) | `("d")=>`(by decide) | `("r")=>`(by rfl) | `("s")=>`(by simp) | `("q")=>`(by decide+kernel) | `(↑$x)=>`(by simpa using $x) | `("l")=>`(λ_ _ _ _ h=>by (repeat (obtain⟨_,h⟩:=h));subst_vars;rfl)
local macro_rules | `(tactic| ac_nf)=>`(tactic|try dsimp only[L2.cxK,L2.cxP,L2.cxW])
abbrev AE:=List PySem.Str
abbrev  AA:=Nat×Nat
abbrev AD:=List AA
namespace L2
open PySem PySem.Spec PyProof.Rows
abbrev Key:=Sum Int Str
def zcd:Key->Y1->Bool
 | .inl k,v=>Value.isInt k v
 | .inr x,v=>Value.isStrOf x v
def zpZ (w:W5):Key->Int
 | .inl k=>hashInt k
 | .inr x=>hashStr w x
theorem qU:∀{k:Key} {v:Y1},zcd k v=true->(∃i t,k=VX i/\v=Vs i t)\/(∃x t,k=OU x/\v=Oe x t)
 | .inl i,v,h=>by
  obtain⟨t,e⟩:=Value.isInt_shape (k:=i) (v:=v) h;exact .inl ⟨i,t,rfl,e⟩
 | .inr x,v,h=>by
  obtain⟨t,e⟩:=Value.isStrOf_shape (x:=x) (v:=v) h;exact .inr ⟨x,t,rfl,e⟩
def zbN (i:Int)(t:Tok):zcd (.inl i) (.int i t)=true:=by simp[zcd,Value.isInt]
def zkz (x:Str)(t:Tok):zcd (.inr x) (.str x t)=true:=by simp[zcd,Value.isStrOf]
def zp0 (a b:Int):decide ((VX a:Key)=VX b)=(a==b):=by
 by_cases e:a=b
 .subst e;simp
 .have h:¬ (VX a:Key)=VX b:=λq=>e (Sum.inl.inj q);rw[bg h];exact(beq_eq_false_iff_ne.mpr e).symm
def zp1 (a b:Str):decide ((OU a:Key)=OU b)=decide (a=b):=by
 by_cases e:a=b
 .subst e;simp
 .have h:¬ (OU a:Key)=OU b:=λq=>e (Sum.inr.inj q);rw[bg h,bg e]
def zp2 (a:Int)(b:Str):decide ((VX a:Key)=OU b)=false:=bg (λq=>nomatch q)
def zp3 (a:Str)(b:Int):decide ((OU a:Key)=VX b)=false:=bg (λq=>nomatch q)
def zK (prog:Xv)(w:W5):PySem.KeyKind prog w Key where
 is:=zcd
 hash:=zpZ w
 inj:=λv a b ha hb=>by
  rcases qU ha with ⟨i,t,rfl,rfl⟩ | ⟨x,t,rfl,rfl⟩
  .rcases qU hb with ⟨j,u,rfl,e⟩ | ⟨y,u,rfl,e⟩
   .injection e with e1 _;rw[e1]
   .exact nomatch e
  .rcases qU hb with ⟨j,u,rfl,e⟩ | ⟨y,u,rfl,e⟩
   .exact nomatch e
   .injection e with e1 _;rw[e1]
 byValue:=λk v h=>by
  rcases qU h with ⟨i,t,rfl,rfl⟩ | ⟨x,t,rfl,rfl⟩<;>rfl
 pyHash:=λhv h=>by
  rcases qU hv with ⟨i,t,rfl,rfl⟩ | ⟨x,t,rfl,rfl⟩
  .exact wpAny_pyHash_int h
  .exact wpAny_pyHash_str h
 eqBool:=λhu hv h=>by
  rcases qU hu with ⟨i,t,rfl,rfl⟩ | ⟨x,t,rfl,rfl⟩
  .rcases qU hv with ⟨j,u,rfl,rfl⟩ | ⟨y,u,rfl,rfl⟩
   .rw[zp0]at h;exact wpAny_eqBool_int h
   .rw[zp2]at h;exact SeqAt.EqAt.int_str i t y u _ _ _ _ h
  .rcases qU hv with ⟨j,u,rfl,rfl⟩ | ⟨y,u,rfl,rfl⟩
   .rw[zp3]at h;exact SeqAt.EqAt.str_int x t j u _ _ _ _ h
   .rw[zp1]at h;exact wpAny_eqBool_str h
 «strs»:=λk x t v h=>by
  rcases qU h with ⟨i,u,rfl,e⟩ | ⟨y,u,rfl,e⟩
  .exact nomatch e
  .injection e with e1 _
   subst e1;cases v<;>rfl
def zgI (prog:Xv)(w:W5)(i:Int)(t:Tok):(zK prog w).is (.inl i) (.int i t)=true:=zbN i t
def zgJ (prog:Xv)(w:W5)(x:Str)(t:Tok):(zK prog w).is (.inr x) (.str x t)=true:=zkz x t
inductive V where
 | non | bl (b:Bool) | int (i:Int) | str (x:Str) | byt (b:Array UInt8) | flt (b:UInt64) | ref (a:Addr) | ty (n:String)
 deriving DecidableEq
abbrev AF:=List V
def RelV:V->Y1->Prop
 | .non,u=>u=UD
 | .bl b,u=>u=Ti b
 | .int i,u=>∃t,u=Vs i t
 | .str x,u=>∃t,u=Oe x t
 | .byt b,u=>∃t,u=Value.bytes b t
 | .flt b,u=>∃t,u=Value.float b t
 | .ref a,u=>u=WF a
 | .ty n,u=>u=PU n
abbrev Vals:AF->List Y1->Prop:=WW RelV
theorem Vals.length {xs:AF}{a:List Y1}(r:Vals xs a):xs.length=a.length:=Paired.length r
theorem Vals.get:∀{xs:AF} {a:List Y1} {i:Nat} {x:V},Vals xs a->xs[i]?=some x->∃u,a[i]?=some u/\RelV x u
 | _,_,_,_,.nil,e=>by simp at e
 | _,_,0,_,.cons r _,e=>by simp at e;subst e;exact⟨_,rfl,r⟩
 | _,_,i+1,x,.cons _ t,e=>by
  obtain⟨u,h1,h2⟩:=Vals.get (i:=i) (x:=x) t ↑e;exact⟨u,↑h1,h2⟩
theorem Vals.set {x:V}{u:Y1}(r:RelV x u):∀{xs:AF} {a:List Y1} (i:Nat),Vals xs a->Vals (xs.set i x) (a.set i u)
 | _,_,_,.nil=>.nil
 | _,_,0,.cons _ t=>.cons r t
 | _,_,i+1,.cons q t=>.cons q (Vals.set r i t)
theorem Vals.append:∀{xs ys:AF} {a b:List Y1},Vals xs a->Vals ys b->Vals (xs++ys) (a++b)
 | _,_,_,_,.nil,s=>s
 | _,_,_,_,.cons r t,s=>.cons r (Vals.append t s)
theorem Vals.take:∀{xs:AF} {a:List Y1} (n:Nat),Vals xs a->Vals (xs.take n) (a.take n)
 | _,_,0,_=>.nil
 | _,_,_+1,.nil=>.nil
 | _,_,n+1,.cons r t=>.cons r (Vals.take n t)
theorem Vals.drop:∀{xs:AF} {a:List Y1} (n:Nat),Vals xs a->Vals (xs.drop n) (a.drop n)
 | _,_,0,r=>r
 | _,_,_+1,.nil=>.nil
 | _,_,n+1,.cons _ t=>Vals.drop n t
def zc0:Option V->Option Y1->Prop
 | some v,some u=>RelV v u
 | none,none=>True
 | _,_=>False
def KV {a:Type}:List (a × V)->List (a × Y1)->Prop:=WW λ(p:a × V) (q:a × Y1)=>p.1=q.1/\RelV p.2 q.2
def kV:Key->V
 | .inl i=>.int i
 | .inr x=>.str x
inductive HO where
  | lst (xs:AF)
  | tup (xs:AF)
  | dK (kvs:List (Key×V)) | dT (kvs:List (List Key×V))
  | set (S:Int->Bool) (n:Nat)
  | ins (C dx:Addr) (fs:List (Str×V))
  | own (x:Addr)
  | xd (fs:List (Str×V))
  | met (f x:Addr)
  | rng (lo hi:Int)
  | frz (o:Obj) (u:HO)
  | tbl (ps:Array Y1)
  | ext (φ:Heap->Prop)
abbrev Hp:=Addr->Option HO
def upd (H:Hp)(a:Addr)(o:HO):Hp:=λb=>if b=a then some o else H b
def zb {H:Hp}{a:Addr}{o:HO}:upd H a o a=some o:=by unfold upd;rw[bw rfl]
def zg {H:Hp}{a b:Addr}{o:HO}(h:b≠a):upd H a o b=H b:=by unfold upd;rw[bq h]
def zeA {H:Hp}{a b:Addr}{o u:HO}(h:H a=some o)(h':H b=some u)(d:o≠u):a≠b:=by
 intro e;subst e;rw[h]at h';exact d (Option.some.inj h')
def zh {H:Hp}{a b:Addr}{o:HO}(h:H a=some o)(h':H b=none):a≠b:=by
 intro e;subst e;rw[h]at h';cases h'
section
variable (P:Xv)(w:W5)
def qv (H:Hp)(h:Heap)(a:Addr):HO->Prop
 | .lst xs=>xs.length<=Xy/\∃(b:List Y1) (n:Nat),Vals xs b/\h.get? a=some { cls:=.type "list",data:=.seq b.toArray n }
 | .tup xs=>xs.length<=Xy/\∃b:List Y1,Vals xs b/\Ph h a b.toArray
 | .dK c=>c.length<=Xy/\(a==Ui)=false/\∃j,KV c j/\h.DictOf (zK P w) a j
 | .dT c=>c.length<=Xy/\(a==Ui)=false/\∃xs:List (List Key×Addr×Y1),
   WW (λ(p:List Key×V) (q:List Key×Addr×Y1)=>p.1=q.1/\H q.2.1=some (.tup (p.1.map kV))/\RelV p.2 q.2.2) c xs /\
   ∃o i l,h.get? a=some o/\o.ExactDict/\o.data=.dict i l/\i.toList=xs.map (entryOfKey (VT (zK P w)))/\(xs.map (·.1)).Nodup
 | .set S n=>h.SetOf (intKind P w) a S n
 | .ins C e fs=>H e=some (.own a)/\fs.length<=1000/\e≠a/\h.get? a=some (Py C e) /\
   ∃d,h.Ns1 e d/\(∀f,zc0 (fs.lookup f) (d f))/\PySem.Within d (fs.map (·.1))
 | .own _=>∃o,h.get? a=some o
 | .xd fs=>∃d,h.Ns1 a d/\∀f,zc0 (fs.lookup f) (d f)
 | .rng lo m=>∃t u v,h.get? a=some { cls:=.type "range",data:=.fields #[.int lo t,.int m u,.int 1 v] }
 | .frz o u=>h.get? a=some o/\qv H h a u
 | .tbl r=>h.get? a=some { cls:=.none,data:=.fields r }
 | .met f x=>h.get? a=some (RA (.ref f) (.ref x))
 | .ext g=>g h/\(∃o,h.get? a=some o)/\∀h1 h2:Heap,g h1->(∀o,h1.get? a=some o->h2.get? a=some o)->g h2
def HOk (H:Hp)(h:Heap):Prop:=∀a o,H a=some o->qv P w H h a o
end
section
variable {P:Xv}{w:W5}{H H':Hp}{h h':Heap}{a:Addr}{o:HO}
theorem qv.lt (x:qv P w H h a o):a<h.objs.size:=by
 cases o with
 | lst c=>obtain⟨_,_,_,_,e⟩:=x;exact XE e
 | tup c=>obtain⟨_,_,_,p⟩:=x;exact p.lt
 | dK b=>revert x;refine fZ λ_ _ _ _ o _ _ e _=>?_;exact XE e
 | dT b=>revert x;refine fZ λ_ _ _ _ o _ _ e _=>?_;exact XE e
 | set S n=>revert x;refine gi λo _ _ _ e _=>?_;exact XE e
 | ins C d fs=>obtain⟨_,_,_,e,_⟩:=x;exact XE e
 | own y=>obtain⟨_,e⟩:=x;exact XE e
 | xd fs=>obtain⟨_,⟨_,_,_,e,_⟩,_⟩:=x;exact XE e
 | rng lo g=>obtain⟨_,_,_,e⟩:=x;exact XE e
 | frz ob u=>obtain⟨e,_⟩:=x;exact XE e
 | tbl i=>exact XE (show h.get? a=some _ from x)
 | met f y=>exact XE (show h.get? a=some _ from x)
 | ext j=>obtain⟨_,⟨_,e⟩,_⟩:=x;exact XE e
theorem Paired.mapP {α c:Type}{F G:α->c->Prop}:∀{l₁:List α} {l₂:List c},WW F l₁ l₂->(∀a b,F a b->G a b)->WW G l₁ l₂
 | _,_,.nil,_=>.nil
 | _,_,.cons r t,f=>.cons (f _ _ r) (Paired.mapP t f)
def qv.stay (x:qv P w H h a o)(k:∀b u,(b=a\/H b=some (.own a))->h.get? b=some u->h'.get? b=some u)
  (D:∀b,H b=some (.own a)->H' b=some (.own a)) (E:∀b xs,H b=some (.tup xs)->H' b=some (.tup xs)):qv P w H' h' a o:=by
 induction o with
 | lst xs=>obtain⟨z,j,n,r,e⟩:=x;exact⟨z,j,n,r,k _ _ (.inl rfl) e⟩
 | tup xs=>revert x;refine f7 λz=>fJ λj r ob e c=>?_;exact⟨z,j,r,ob,k _ _ (.inl rfl) e,c⟩
 | dK l=>revert x;refine fZ λz y J r ob i g e c=>?_;exact dU z y (eF J r ob i (dG g (k _ _ (.inl rfl) e) c))
 | dT l =>
  revert x;refine fZ λz y xs r ob i g e c=>?_;exact dU z y (eF xs (Paired.mapP r λp q z=>⟨z.1,E _ _ z.2.1,z.2.2⟩) ob i (dG g (k _ _ (.inl rfl) e) c))
 | set S n=>revert x;refine gi λob i g t e c=>?_;exact eL ob i g t (k _ _ (.inl rfl) e) c
 | ins C L fs =>
  obtain⟨d,z,I,e,m,⟨s,i,g,B,c⟩,r⟩:=x;exact dY (D _ d) z I (k _ _ (.inl rfl) e) (dG m ⟨s,i,g,k _ _ (.inr d) B,c⟩ r)
 | own y=>obtain⟨ob,e⟩:=x;exact⟨ob,k _ _ (.inl rfl) e⟩
 | xd fs=>obtain⟨m,⟨s,i,g,e,c⟩,r⟩:=x;exact⟨m,⟨s,i,g,k _ _ (.inl rfl) e,c⟩,r⟩
 | rng lo M=>obtain⟨t,u,v,e⟩:=x;exact⟨t,u,v,k _ _ (.inl rfl) e⟩
 | frz ob u G=>obtain⟨e,q⟩:=x;exact⟨k _ _ (.inl rfl) e,G q⟩
 | tbl A =>
  have e:h.get? a=some { cls:=.none,data:=.fields A }:=x;show h'.get? a=some { cls:=.none,data:=.fields A };exact k a _ (.inl rfl) e
 | met f y =>
  have e:h.get? a=some (RA (.ref f) (.ref y)):=x;show h'.get? a=some (RA (.ref f) (.ref y));exact k a _ (.inl rfl) e
 | ext N=>obtain⟨p,⟨o,e⟩,st⟩:=x;exact⟨st _ _ p λo q=>k _ _ (.inl rfl) q,⟨o,k _ _ (.inl rfl) e⟩,st⟩
theorem HOk.lt (x:HOk P w H h)(e:H a=some o):a<h.objs.size:=(x a o e).lt
def HOk.fresh (x:HOk P w H h)(e:h.objs.size<=a):H a=none:=by
 cases q:H a with
 | none=>rfl
 | some u=>exact absurd (XD (x.lt q) e) (V3 _)
def HOk.kept (x:HOk P w H h)(k:∀b u,h.get? b=some u->h'.get? b=some u):HOk P w H h':=λa o e =>
 (x a o e).stay (λb u _ q=>k b u q) (λ_ q=>q) λ_ _ q=>q
def HOk.laid (x:HOk P w H h)(k:∀b u,h.get? b=some u->h'.get? b=some u)(i:h.objs.size<=a)(d:qv P w (upd H a o) h' a o):HOk P w (upd H a o) h':=λb u e=>by
 have g:=x.fresh i;by_cases f:b=a
 .subst f;rw[zb]at e;cases e;exact d
 .rw[zg f]at e;exact(x b u e).stay (λc v _ q=>k c v q) (λc q=>by rw[zg (zh q g)];exact q) λc j q=>by rw[zg (zh q g)];exact q
end
def Rd (H:Hp)(a:Addr)(u:HO):Prop:=H a=some u\/∃o,H a=some (.frz o u)
def Rd.ok {P:Xv}{w:W5}{H:Hp}{h:Heap}{a:Addr}{u:HO}(r:Rd H a u)(x:HOk P w H h):qv P w H h a u:=by
 rcases r with r | ⟨o,r⟩
 .exact x a u r
 .obtain⟨_,q⟩:=x a _ r;exact q
def Mut:Option HO->Prop
 | some (.lst _)=>True
 | some (.dK _)=>True
 | some (.dT _)=>True
 | some (.set _ _)=>True
 | some (.ins _ _ _)=>True
 | some (.ext _)=>True
 | _=>False
section
variable {P:Xv}{w:W5}{H:Hp}{h h':Heap}{x e:Addr}{o':HO}
def HOk.write (ok:HOk P w H h)(i:Mut (H x))(he:e=x\/H e=some (.own x))(k:∀b u,b≠e->h.get? b=some u->h'.get? b=some u)(l:∃u,h'.get? e=some u)
  (m:qv P w (upd H x o') h' x o'):HOk P w (upd H x o') h':=λb u q=>by
 have d:∀c y,H c=some (.own y)->c≠x:=λc y r z=>by subst z;rw[r]at i;exact i
 have f:∀c j,H c=some (.tup j)->c≠x:=λc j r z=>by subst z;rw[r]at i;exact i
 by_cases g:b=x
 .subst g;rw[zb]at q;cases q;exact m
 .rw[zg g]at q;by_cases a:b=e
  .have n:H b=some (.own x):=by
    rcases he with z | z
    .exact absurd (a.trans z) g
    .rw[a];exact z
   rw[q]at n;cases n;obtain⟨v,o⟩:=l;exact⟨v,by rw[a];exact o⟩
  .refine(ok b u q).stay (λc v hc r=>k c v ?_ r) (λc r=>by rw[zg (d c b r)];exact r) λc j r=>by rw[zg (f c j r)];exact r
   rcases hc with rfl | hc
   .exact a
   .rintro rfl;rcases he with z | z
    .exact d c b hc z
    .rw[hc]at z;cases z;exact g rfl
end
structure Un (fs ex:List Addr)(H H':Hp)(h h':Heap):Prop where
 keep:∀b o,h.get? b=some o->H b=none->b ∉ fs->b ∉ ex->h'.get? b=some o
 slot:∀b o,h.get? b=some o->H b=none->b∈fs->b ∉ ex->∃sl,h'.get? b=some { o with slots:=sl }
 free:∀b o,h.get? b=some o->H b=none->b ∉ ex->H' b=none
 there:∀b o,h.get? b=some o->b ∉ ex->∃o',h'.get? b=some o'
 tups:∀b xs,H b=some (.tup xs)->H' b=some (.tup xs)
 frzs:∀b o u,H b=some (.frz o u)->H' b=some (.frz o u)
 tbls:∀b ps,H b=some (.tbl ps)->∃more,H' b=some (.tbl (ps++more))
section
variable {fs fs' ex ex':List Addr}{H H1 H2:Hp}{h h1 h2 h':Heap}{a x e:Addr}{o:HO}
def Un.any (u:Un fs ex H H1 h h1){b:Addr}{ob:Obj}(q:h.get? b=some ob)(n:H b=none)(c:b ∉ ex):∃d,h1.get? b=some { ob with slots:=d }:=by
 by_cases a:b∈fs
 .exact u.slot b ob q n a c
 .exact⟨ob.slots,u.keep b ob q n a c⟩
def Un.kept (k:∀b u,h.get? b=some u->h'.get? b=some u):Un fs ex H H h h' :=
 ⟨λb ob q _ _ _=>k b ob q,λb ob q _ _ _=>⟨ob.slots,k b ob q⟩,λ_ _ _ n _=>n,λb ob q _=>⟨ob,k b ob q⟩,λ_ _ q=>q,λ_ _ _ q=>q,λ_ a q=>⟨#[],by rw[q];simp⟩⟩
def Un.refl:Un fs ex H H h h:=Un.kept λ_ _ q=>q
def Un.laid (k:∀b u,h.get? b=some u->h'.get? b=some u)(hp:h.objs.size<=a)(hn:H a=none):Un fs ex H (upd H a o) h h' where
 keep:=λb u q _ _ _=>k b u q
 slot:=λb u q _ _ _=>⟨u.slots,k b u q⟩
 free:=λb u q n _=>by rw[zg (Xi (XD (XE q) hp))];exact n
 there:=λb u q _=>⟨u,k b u q⟩
 tups:=λb xs q=>by rw[zg (zh q hn)];exact q
 frzs:=λb u xs q=>by rw[zg (zh q hn)];exact q
 tbls:=λb ps q=>⟨#[],by rw[zg (zh q hn),q];simp⟩
def Un.write (c:Mut (H x))(he:e=x\/H e=some (.own x))(k:∀b u,b≠e->h.get? b=some u->h'.get? b=some u)(d:∃u,h'.get? e=some u):Un fs ex H (upd H x o) h h':=by
 have i:∀b,H b=none->b≠x:=λb n z=>by subst z;rw[n]at c;exact c
 have g:∀b,H b=none->b≠e:=λb n z=>by
  subst z;rcases he with r | r
  .exact i b n r
  .rw[n]at r;cases r
 have f:∀b u,H b=some u->¬ Mut (some u)->b≠x:=λb u q j z=>by subst z;rw[q]at c;exact j c
 refine⟨λb u q n _ _=>k b u (g b n) q,λb u q n _ _=>⟨u.slots,k b u (g b n) q⟩,λb u q n _=>by rw[zg (i b n)];exact n,λb u q _=>?_,λb l q=>by rw[zg (f b _ q λz=>z)];exact q,λb u l q=>by rw[zg (f b _ q λz=>z)];exact q,λb m q=>⟨#[],by rw[zg (f b _ q λz=>z),q];simp⟩⟩
 by_cases a:b=e
 .subst a;exact d
 .exact⟨u,k b u a q⟩
end
def trk (h:Heap)(H:Hp):List Addr:=(Xk h.objs.size).filter λa=>(H a).isSome
def zfF (h:Heap)(H:Hp):Heap:=PySem.W.hideAll h (trk h H)
def zkA (h:Heap)(H:Hp):(zfF h H).objs.size=h.objs.size:=PySem.W.hideAll_size _ _
def zlF {h:Heap}{H:Hp}{b:Addr}{o:Obj}(e:h.get? b=some o)(n:H b=none):(zfF h H).get? b=some o :=
 Ts _ e λa=>by
  have q:(H b).isSome=true:=(XZ.mp a).2;rw[n]at q;simp at q
def znY {h:Heap}{H:Hp}{b:Addr}{o:Obj}(e:(zfF h H).get? b=some o):h.get? b=some o/\H b=none:=by
 have a:h.get? b=some o:=PySem.W.of_hideAll (trk h H) e;refine⟨a,?_⟩;cases q:H b with
 | none=>rfl
 | some x =>
  have c:b∈trk h H:=XZ.mpr ⟨W9.mpr (XE a),by simp[q]⟩;have z:(zfF h H).get? b=none:=PySem.W.hideAll_none (trk h H) c;rw[z]at e;cases e
structure Mod (K:X0)(mg:Str->Option Y1)(base:Heap):Prop where
 kin:K.In base
 glob:base.Ns XO mg
 blt:∃mb,base.Ns Oy mb/\∀x:Str,x ≠ "__name__"->mb x=U2 x
 nolimit:base.NoLimit
structure Cx where
 prog:Xv
 w:W5
 K:X0
 mg:Str->Option Y1
 base:Heap
 A:WL
 N:AE
 s₀:X8
 H₀:Hp
 env:Env
 outer:List Env
 stack:List Env
 ex:List Addr
 fn:Str->Bool
 calm:Bool
 pn:List (Addr×Obj)
 xe:Y1->X8->Prop
def frs (l:List Env):List Addr:=l.filterMap (·.frame)
abbrev Cx.fs (X:Cx):List Addr:=frs X.outer
def Vis (a:UH)(x:Str):Prop:=a.names.lookup x=some .local\/a.names.lookup x=some .cell\/a.names.lookup x=some .free
def Loc (a:UH)(x:Str):Prop:=a.names.lookup x=some .local\/a.names.lookup x=some .cell
def Look (a:Env)(h:Heap)(m:Str->Option Y1)(x:Str)(u:Y1):Prop :=
 (a.kindOf x=some .local/\m x=some u)\/((a.kindOf x=some .cell\/a.kindOf x=some .free)/\∃c,a.cells.lookup x=some c/\h.IsCell c (some u))
structure Cx.Ok (X:Cx):Prop where
 mod:Mod X.K X.mg X.base
 kind:X.env.scope.kind=.function
 glob:X.env.globals=XO
 blt:X.env.builtins=Oy
 above:X.s₀.heap.objs.size<=X.env.locals
 inj:∀x y c,X.env.cells.lookup x=some c->X.env.cells.lookup y=some c->x=y
 has:∀x,(X.env.kindOf x=some .cell\/X.env.kindOf x=some .free)->∃c,X.env.cells.lookup x=some c
 cab:∀x c,X.fn x=true->X.env.cells.lookup x=some c->X.s₀.heap.objs.size<=c
 hd:X.calm=true->X.A.handled=none
 frames:X.A.frames=some X.stack
 stk:X.stack=X.outer\/(X.stack=X.env::X.outer/\X.env.frame=some X.env.locals)
 exf:∀b∈X.ex,b≠X.env.locals/\∀x c,X.env.cells.lookup x=some c->c≠b
 bs:∀b o,X.base.get? b=some o->X.s₀.heap.get? b=some o/\X.H₀ b=none
 bsz:X.base.objs.size<=X.s₀.heap.objs.size
 noex:∀b o,X.base.get? b=some o->b ∉ X.ex
 exfs:∀b∈X.ex,b ∉ X.fs
 funs:X.s₀.heap.FunFrames X.base X.outer
 frf:∀b∈X.fs,X.H₀ b=none
structure Inv (X:Cx)(bQ:List (Addr×Obj))(σ:List (Option V))(H:Hp)(s:X8):Prop where
 ok:X.Ok
 os:s.os=X.s₀.os
 bare:Sy s.gens
 base:Un X.fs X.ex X.H₀ H X.s₀.heap s.heap
 loc:∃m,s.heap.Ns X.env.locals m/\∀(i:Nat) (x:Str) (v:V),X.N[i]?=some x->σ[i]?=some (some v)->Vis X.env.scope x->∃u,RelV v u/\Look X.env s.heap m x u
 cell:∀x c,X.env.cells.lookup x=some c->∃v,s.heap.IsCell c v
 free:H X.env.locals=none
 freeC:∀x c,X.env.cells.lookup x=some c->H c=none
 pin:∀p∈X.pn++bQ,s.heap.get? p.1=some p.2/\H p.1=none/\p.1≠X.env.locals/\p.1 ∉ X.fs/\∀v,p.2.data ≠ .cell v
 hok:HOk X.prog X.w H s.heap
 len:σ.length=X.N.length
section
variable {X:Cx}{bQ:List (Addr×Obj)}{σ:List (Option V)}{H H':Hp}{s:X8}{h':Heap}
def Cx.Ok.nofr (ok:X.Ok){b:Addr}{o:Obj}(e:X.base.get? b=some o):b ∉ X.fs:=λa=>by
 have:=(ok.funs.mem a).1;rw[e]at this;cases this
theorem Inv.bs (I:Inv X bQ σ H s):∀b o,X.base.get? b=some o->s.heap.get? b=some o/\H b=none:=λb o e =>
 ⟨I.base.keep b o (I.ok.bs b o e).1 (I.ok.bs b o e).2 (I.ok.nofr e) (I.ok.noex b o e),I.base.free b o (I.ok.bs b o e).1 (I.ok.bs b o e).2 (I.ok.noex b o e)⟩
def Inv.bk (I:Inv X bQ σ H s):∀b o,X.base.get? b=some o->s.heap.get? b=some o:=λb o e=>(I.bs b o e).1
theorem Inv.mod (I:Inv X bQ σ H s):Mod X.K X.mg X.base:=I.ok.mod
def Inv.kIn (I:Inv X bQ σ H s):X.K.In s.heap:=I.ok.mod.kin.keeps I.bk
theorem Inv.lt (I:Inv X bQ σ H s):X.env.locals<s.heap.objs.size:=let ⟨_,hn,_⟩:=I.loc;hn.lt
def Inv.sz (I:Inv X bQ σ H s):X.s₀.heap.objs.size<=s.heap.objs.size:=X7 I.ok.above (VA I.lt)
def Inv.nofs (I:Inv X bQ σ H s){a:Addr}(h:s.heap.objs.size<=a):a ∉ X.fs:=λb=>by
 obtain⟨_,o,c,_⟩:=I.ok.funs.mem b;exact absurd (XD (XE c) (X7 I.sz h)) (V3 _)
def Inv.cne (I:Inv X bQ σ H s):∀x c,X.env.cells.lookup x=some c->c≠X.env.locals:=λx c e z=>by
 obtain⟨v,o,f,d⟩:=I.cell x c e;obtain⟨m,⟨i,h,g,b,a,_⟩,_⟩:=I.loc;rw[z,b]at f;cases f;rw[a]at d;cases d
theorem Inv.funs (I:Inv X bQ σ H s):s.heap.FunFrames X.base X.outer:=by
 have all:∀(l:List Env),(∀b∈frs l,b∈X.fs)->X.s₀.heap.FunFrames X.base l->s.heap.FunFrames X.base l:=by
  intro l;induction l with
  | nil=>intro _ _;trivial
  | cons g r p =>
   intro f i;obtain⟨hk,⟨L,o,d,j,m,h⟩,n⟩:=i;have a:L∈X.fs:=f L (by unfold frs;rw[U4,d];exact XT);obtain⟨q,e⟩:=I.base.slot L o m (I.ok.frf L a) a λz=>I.ok.exfs L z a;exact⟨hk,⟨L,_,d,j,e,h⟩,p (λb c=>f b (by unfold frs;rw[U4,d];exact XQ _ c)) n⟩
 exact all X.outer (λ_ c=>c) I.ok.funs
theorem Inv.stack (I:Inv X bQ σ H s):s.heap.FunFrames X.base X.stack:=by
 rcases I.ok.stk with e | ⟨e,a⟩
 .rw[e];exact I.funs
 .rw[e];obtain⟨m,b,_⟩:=I.loc;refine .cons (by rw[I.ok.kind];decide) a b ?_ I.funs;exact VG (X7 I.ok.bsz I.ok.above)
def Inv.stkSub (I:Inv X bQ σ H s):∀b∈frs X.stack,b∈X.env.locals::X.fs:=λb a=>by
 rcases I.ok.stk with e | ⟨e,c⟩
 .rw[e]at a;exact XQ _ a
 .rw[e]at a;unfold frs at a;rw[U4,c]at a;exact a
def Inv.stkFree (I:Inv X bQ σ H s):∀b∈frs X.stack,H b=none:=λb hb=>by
 rcases XF.mp (I.stkSub b hb) with e | hb
 .rw[e];exact I.free
 .obtain⟨_,o,a,_⟩:=I.ok.funs.mem hb;exact I.base.free b o a (I.ok.frf b hb) λz=>I.ok.exfs b z hb
def Inv.step {g':Array UW}{t':Nat}{d':N6}{ch:List Addr}(I:Inv X bQ σ H s)
  (g:∀b∈ch,(b∈X.ex\/X.s₀.heap.objs.size<=b)/\b≠X.env.locals/\(∀x c,X.env.cells.lookup x=some c->c≠b)/\∀p∈X.pn++bQ,p.1≠b)
  (keep:∀b o,b≠X.env.locals->b ∉ X.fs->b ∉ ch->s.heap.get? b=some o->H b=none->h'.get? b=some o)
  (A:∀b o,b≠X.env.locals->b∈X.fs->b ∉ ch->s.heap.get? b=some o->H b=none->∃sl,h'.get? b=some { o with slots:=sl }) (free:∀b o,b ∉ ch->s.heap.get? b=some o->H b=none->H' b=none)
  (E:∀b o,b ∉ ch->s.heap.get? b=some o->∃N,h'.get? b=some N)
  (Q:∀b B,H b=some (.tup B)->H' b=some (.tup B)) (L:∀b o u,H b=some (.frz o u)->H' b=some (.frz o u)) (O:∀b U,H b=some (.tbl U)->∃more,H' b=some (.tbl (U++more)))
  (ns:∀m,s.heap.Ns X.env.locals m->h'.Ns X.env.locals m) (aa:HOk X.prog X.w H' h') (hg:Sy g') :
  Inv X bQ σ H' { s with heap:=h',gens:=g',drawn:=d',toks:=t' }:=by
 have M:∀b o,X.s₀.heap.get? b=some o->b≠X.env.locals:=λb o e=>Xi (XD (XE e) I.ok.above);have y:∀b o,X.s₀.heap.get? b=some o->b ∉ X.ex->b ∉ ch:=λb o e a D=>by
  rcases(g b D).1 with z | z
  .exact a z
  .exact absurd (XD (XE e) z) (V3 _)
 have f:∀x c,X.env.cells.lookup x=some c->∀v,s.heap.IsCell c v->h'.IsCell c v:=λx c e v ⟨o,G,Y⟩=>by
  have h:c ∉ ch:=λz=>(g c z).2.2.1 x c e rfl;by_cases hc:c∈X.fs
  .obtain⟨sl,q⟩:=A c o (I.cne x c e) hc h G (I.freeC x c e);exact⟨_,q,Y⟩
  .exact⟨o,keep c o (I.cne x c e) hc h G (I.freeC x c e),Y⟩
 refine⟨I.ok,I.os,hg,⟨λb o e n D a=>?_,λb o e n D a=>?_,λb o e n a=>?_,λb o e a=>?_,λb B e=>Q b B (I.base.tups b B e),λb o B e=>L b o B (I.base.frzs b o B e),λb U e=>?_⟩,?_,λx c e=>?_,?_,λx c e=>?_,λp hp=>?_,aa,I.len⟩
 .exact keep b o (M b o e) D (y b o e a) (I.base.keep b o e n D a) (I.base.free b o e n a)
 .obtain⟨sl,j⟩:=I.base.slot b o e n D a;obtain⟨ab,J⟩:=A b _ (M b o e) D (y b o e a) j (I.base.free b o e n a);exact⟨ab,J⟩
 .obtain⟨N,j⟩:=I.base.there b o e a;exact free b N (y b o e a) j (I.base.free b o e n a)
 .obtain⟨N,j⟩:=I.base.there b o e a;exact E b N (y b o e a) j
 .obtain⟨m1,j⟩:=I.base.tbls b U e;obtain⟨m2,J⟩:=O b _ j;exact⟨m1++m2,by rw[J,RQ]⟩
 .obtain⟨m,hn,hl⟩:=I.loc;refine⟨m,ns m hn,λi x v j J e3=>?_⟩;obtain⟨u,r,l⟩:=hl i x v j J e3;refine⟨u,r,?_⟩;rcases l with l | ⟨k,c,e,z⟩
  .exact .inl l
  .exact .inr ⟨k,c,e,f x c e _ z⟩
 .obtain⟨v,z⟩:=I.cell x c e;exact⟨v,f x c e v z⟩
 .obtain⟨m,⟨o,_,_,G,_⟩,_⟩:=I.loc;exact free _ o (λz=>(g _ z).2.1 rfl) G I.free
 .obtain⟨v,o,G,Y⟩:=I.cell x c e;exact free c o (λz=>(g c z).2.2.1 x c e rfl) G (I.freeC x c e)
 .refine fN (λe n ne nf d=>?_) (I.pin p hp);have h:p.1 ∉ ch:=λz=>(g p.1 z).2.2.2 p hp rfl;exact⟨keep p.1 p.2 ne nf h e n,free p.1 p.2 h e n,ne,nf,d⟩
def Inv.un {t':Nat}(I:Inv X bQ σ H s)(u:Un X.fs [] H H' s.heap h')(g:HOk X.prog X.w H' h'):Inv X bQ σ H' { s with heap:=h',toks:=t' }:=by
 obtain⟨m,⟨o,q,p,h,r⟩,_⟩:=id I.loc;obtain⟨y,i⟩:=u.any h I.free "s";exact I.step (g':=s.gens) (d':=s.drawn) (ch:=[]) (λ_ z=>nomatch z) (λb o _ f _ e n=>u.keep b o e n f "s") (λb o _ f _ e n=>u.slot b o e n f "s") (λb o _ e n=>u.free b o e n "s") (λb o _ e=>u.there b o e "s") u.tups u.frzs u.tbls (λv j=>by
  obtain⟨x,d,c,a,l⟩:=j;rw[h]at a;cases a;exact⟨_,d,c,i,l⟩) g I.bare
def Inv.call {g':Array UW}{t':Nat}{d':N6}{ch:List Addr}(I:Inv X bQ σ H s)(u:Un (frs X.stack) ch H H' s.heap h')(j:HOk X.prog X.w H' h')(v:Sy g')
  (d:∀b∈ch,(b∈X.ex\/X.s₀.heap.objs.size<=b)/\b≠X.env.locals/\(∀x c,X.env.cells.lookup x=some c->c≠b)/\∀p∈X.pn++bQ,p.1≠b) :
  Inv X bQ σ H' { s with heap:=h',gens:=g',drawn:=d',toks:=t' }:=by
 obtain⟨m,⟨o,D,B,l,r⟩,_⟩:=id I.loc;obtain⟨J,i⟩:=u.any l I.free λz=>(d _ z).2.1 rfl;exact I.step (ch:=ch) d (λb o i q a e n=>u.keep b o e n (λz=>(XF.mp (I.stkSub b z)).elim i q) a) (λb o _ _ a e n=>u.any e n a) (λb o a e n=>u.free b o e n a) (λb o a e=>u.there b o e a) u.tups u.frzs u.tbls (λE y=>by
  obtain⟨G,h,g,f,A⟩:=y;rw[l]at f;cases f;exact⟨_,h,g,i,A⟩) j v
def Inv.turned {t':Nat}{it:Addr}(I:Inv X bQ σ H s)(k:∀b o,b≠it->s.heap.get? b=some o->h'.get? b=some o)(w:H it=none)(f:it≠X.env.locals)
  (h1:it∈X.ex\/X.s₀.heap.objs.size<=it) (h2:∀x c,X.env.cells.lookup x=some c->c≠it) (i:∀p∈X.pn++bQ,p.1≠it):Inv X bQ σ H { s with heap:=h',toks:=t' }:=by
 have d:∀b u,H b=some u->b≠it:=λb u e z=>by rw[z,w]at e;cases e
 refine I.step (g':=s.gens) (d':=s.drawn) (ch:=[it]) (λb j=>?_) (λb o _ _ a e _=>k b o (λz=>a (by simp[z])) e) (λb o _ _ a e _=>⟨o.slots,k b o (λz=>a (by simp[z])) e⟩) (λ_ _ _ _ n=>n)
  (λb o a e=>⟨o,k b o (λz=>a (by simp[z])) e⟩) (λ_ _ e=>e) (λ_ _ _ e=>e) (λb A e=>⟨#[],by rw[e];simp⟩) (λm l=>?_) (λb u e=>?_) I.bare
 .have e:b=it:=by simpa using j
  subst e;exact⟨h1,f,h2,i⟩
 .obtain⟨o,h,g,y,r⟩:=l;exact⟨o,h,g,k _ o (Vh f) y,r⟩
 .refine(I.hok b u e).stay (λc v a q=>k c v ?_ q) (λ_ q=>q) λ_ _ q=>q;rcases a with z | z
  .rw[z];exact d b u e
  .exact d c _ z
def Inv.tok (I:Inv X bQ σ H s)(t:Nat):Inv X bQ σ H { s with toks:=t }:=I.un (h':=s.heap) (t':=t) Un.refl I.hok
theorem Inv.kept {t':Nat}(I:Inv X bQ σ H s)(k:∀b u,s.heap.get? b=some u->h'.get? b=some u):Inv X bQ σ H { s with heap:=h',toks:=t' }:=I.un (Un.kept k) (I.hok.kept k)
theorem Inv.laid {a:Addr}{o:HO}{t':Nat}(I:Inv X bQ σ H s)(k:∀b u,s.heap.get? b=some u->h'.get? b=some u)(c:s.heap.objs.size<=a)(d:qv X.prog X.w (upd H a o) h' a o) :
  Inv X bQ σ (upd H a o) { s with heap:=h',toks:=t' }:=I.un (Un.laid k c (I.hok.fresh c)) (I.hok.laid k c d)
theorem Inv.write {x e:Addr}{o:HO}{t':Nat}(I:Inv X bQ σ H s)(d:Mut (H x))(he:e=x\/H e=some (.own x))(k:∀b u,b≠e->s.heap.get? b=some u->h'.get? b=some u)(a:∃u,h'.get? e=some u)
  (c:qv X.prog X.w (upd H x o) h' x o):Inv X bQ σ (upd H x o) { s with heap:=h',toks:=t' }:=I.un (Un.write d he k a) (I.hok.write d he k a c)
def Inv.pins_of {a:List (Addr×Obj)}(I:Inv X bQ σ H s)(h:∀p∈a,s.heap.get? p.1=some p.2/\H p.1=none/\p.1≠X.env.locals/\p.1 ∉ X.fs/\∀v,p.2.data ≠ .cell v):Inv X a σ H s :=
 ⟨I.ok,I.os,I.bare,I.base,I.loc,I.cell,I.free,I.freeC,λp b=>(XU.mp b).elim (λz=>I.pin p (Xq _ z)) (h p),I.hok,I.len⟩
def zc1 {N:AE}(e:N.Nodup){i j:Nat}{x:Str}(a:N[i]?=some x)(b:N[j]?=some x):i=j:=by
 obtain⟨h1,c⟩:=X2.mp a;obtain⟨h2,d⟩:=X2.mp b;exact(List.getElem_inj e).mp (c.trans d.symm)
def zeB {M:N5}{A:WL}{E:Y1->X8->Prop}{i:Nat}{x:Str}{v:V}{u:Y1}{Q:Unit->X8->Prop}(I:Inv X bQ σ H s)(hN:X.N.Nodup)(hi:X.N[i]?=some x)(B:Loc X.env.scope x)(r:RelV v u)
  (h:∀s',Inv X bQ (σ.set i (some v)) H s'->(∃a,VL a s.heap s'.heap/\(a=X.env.locals\/X.env.cells.lookup x=some a))->Q () s') (hf:X.fn x=true\/X.env.scope.names.lookup x=some .local:=by first | exact .inl rfl | exact .inr rfl | assumption):Xh M A (storeName X.env x u) Q E s:=by
 obtain⟨m,hn,hl⟩:=id I.loc;have ab:(X.env.scope.kind == .class || (X.env.scope.kind == .module&&X.env.locals != X.env.globals))=false:=by rw[I.ok.kind];rfl
 have J:i < σ.length:=by rw[I.len];exact(X2.mp hi).1
 have cne:=I.cne;have l:∀{a:Addr} {h':Heap},(∃o,s.heap.get? a=some o/\H a=none)->VL a s.heap h'->HOk X.prog X.w H h':=λ{a h'} ha f b ob e=>by
  obtain⟨_,_,D⟩:=ha;refine(I.hok b ob e).stay (λc w' hc q=>(f.2 c ?_).trans q) (λ_ q=>q) λ_ _ q=>q;rintro rfl;rcases hc with rfl | hc
  .rw[D]at e;cases e
  .rw[D]at hc;cases hc
 rcases B with hk | hk
 .refine wpAny_storeName_local hk hn (λh' af f=>?_) ab;refine fT (λoL _ _ ag _=>?_) (id hn);refine h _ ⟨I.ok,I.os,I.bare,⟨λb o e n L B=>?_,λb o e n L B=>?_,I.base.free,λb o e B=>?_,I.base.tups,I.base.frzs,I.base.tbls⟩,⟨_,af,λj y v' g G e3=>?_⟩,λy c e=>?_,I.free,I.freeC,λp hp=>?_,l ⟨oL,ag,I.free⟩ f,↑I.len⟩ ⟨_,f,.inl rfl⟩
  .exact(f.2 b (Xi (XD (XE e) I.ok.above))).trans (I.base.keep b o e n L B)
  .obtain⟨sl,g⟩:=I.base.slot b o e n L B;exact⟨sl,(f.2 b (Xi (XD (XE e) I.ok.above))).trans g⟩
  .obtain⟨o',g⟩:=I.base.there b o e B;exact⟨o',(f.2 b (Xi (XD (XE e) I.ok.above))).trans g⟩
  .by_cases U:j=i
   .subst U;rw[hi]at g;cases g;rw[SL J]at G;cases G;exact⟨u,r,.inl ⟨hk,"s"⟩⟩
   .rw[Sl (Vh U)]at G;obtain⟨u',r',q⟩:=hl j y v' g G e3;refine⟨u',r',?_⟩;rcases q with ⟨k,e⟩ | ⟨k,c,e,z⟩
    .refine .inl ⟨k,?_⟩;have:y≠x:=λe=>U (zc1 hN g (e ▸ hi));simp[this,e]
    .exact .inr ⟨k,c,e,z.sameBut f (cne y c e)⟩
  .obtain⟨w',z⟩:=I.cell y c e;exact⟨w',z.sameBut f (cne y c e)⟩
  .refine fN (λe n ne nf d=>?_) (I.pin p hp);exact⟨(f.2 p.1 ne).trans e,n,ne,nf,d⟩
 .have O:X.fn x=true:=by
   rcases hf with z | z
   .exact z
   .rw[z]at hk;cases hk
  obtain⟨c,hc⟩:=I.ok.has x (.inl hk);obtain⟨w',z⟩:=I.cell x c hc;refine wpAny_storeName_cell I.ok.kind hk hc z (λh' Y f=>?_);obtain⟨oc,ac,ae⟩:=id z;refine h { s with heap:=h' } ⟨I.ok,I.os,I.bare,⟨λb o e n L B=>?_,λb o e n L B=>?_,I.base.free,λb o e B=>?_,I.base.tups,I.base.frzs,I.base.tbls⟩,⟨m,hn.sameBut f (Vh (cne x c hc)),λj y v' g G e3=>?_⟩,λy c' e=>?_,I.free,I.freeC,λp hp=>?_,l ⟨oc,ac,I.freeC x c hc⟩ f,↑I.len⟩ ⟨c,f,.inr hc⟩
  .exact(f.2 b (Xi (XD (XE e) (I.ok.cab x c O hc)))).trans (I.base.keep b o e n L B)
  .obtain⟨sl,g⟩:=I.base.slot b o e n L B;exact⟨sl,(f.2 b (Xi (XD (XE e) (I.ok.cab x c O hc)))).trans g⟩
  .obtain⟨o',g⟩:=I.base.there b o e B;exact⟨o',(f.2 b (Xi (XD (XE e) (I.ok.cab x c O hc)))).trans g⟩
  .by_cases U:j=i
   .subst U;rw[hi]at g;cases g;rw[SL J]at G;cases G;exact⟨u,r,.inr ⟨.inl hk,c,hc,Y⟩⟩
   .rw[Sl (Vh U)]at G;obtain⟨u',r',q⟩:=hl j y v' g G e3;refine⟨u',r',?_⟩;rcases q with q | ⟨k,c',e,z'⟩
    .exact .inl q
    .refine .inr ⟨k,c',e,z'.sameBut f ?_⟩;rintro rfl;exact U (zc1 hN g (I.ok.inj _ _ _ e hc ▸ hi))
  .by_cases aa:c'=c
   .subst aa;exact⟨_,Y⟩
   .obtain⟨w2,z2⟩:=I.cell y c' e;exact⟨w2,z2.sameBut f aa⟩
  .refine fN (λe n ne nf d=>?_) (I.pin p hp);refine⟨(f.2 p.1 ?_).trans e,n,ne,nf,d⟩;intro q;rw[q,ac]at e;have q':oc=p.2:=Option.some.inj e;exact d w' (by rw[<- q'];exact ae)
def zc2 {M:N5}{A:WL}{E:Y1->X8->Prop}{i:Nat}{x:Str}{v:V}{u:Y1}{Q:Unit->X8->Prop}(I:Inv X bQ σ H s)(b:X.N.Nodup)(d:X.N[i]?=some x)(e:Loc X.env.scope x)(r:RelV v u)
  (h:∀s',Inv X bQ (σ.set i (some v)) H s'->Q () s') (c:X.fn x=true\/X.env.scope.names.lookup x=some .local:=by first | exact .inl rfl | exact .inr rfl | assumption):Xh M A (storeName X.env x u) Q E s :=
 zeB I b d e r (λs' a _=>h s' a) c
def Inv.call' {s':X8}{ch:List Addr}(I:Inv X bQ σ H s)(g:s'.os=s.os)(u:Un (frs X.stack) ch H H' s.heap s'.heap)(d:HOk X.prog X.w H' s'.heap)(f:Sy s'.gens)
  (a:∀b∈ch,(b∈X.ex\/X.s₀.heap.objs.size<=b)/\b≠X.env.locals/\(∀x c,X.env.cells.lookup x=some c->c≠b)/\∀p∈X.pn++bQ,p.1≠b):Inv X bQ σ H' s':=by
 obtain⟨h',g',d',t',h⟩:=s';have e:h=s.os:=g;subst e;exact I.call (g':=g') (t':=t') (d':=d') u d f a
end
abbrev XK:=Y1->Option Addr->Hp->Prop
abbrev St:=List (Option V)
abbrev VK:=V->Hp->Prop
abbrev TE:=St->Hp->VK->Prop
abbrev TT:=St->Hp->(Bool->Hp->Prop)->Prop
abbrev TA:=St->Hp->(AF->Hp->Prop)->Prop
structure Ends where
 nx:St->Hp->Prop
 rt:VK
 bk:St->Hp->Prop:=λ_ _=>False
 ct:St->Hp->Prop:=λ_ _=>False
abbrev TS:=Ends->St->Hp->Prop
def EP (X:Cx)(b:List (Addr×Obj))(c:St)(Q:VK)(u:Y1)(s':X8):Prop:=∃v a,Inv X b c a s'/\RelV v u/\Q v a
def TP (X:Cx)(c:List (Addr×Obj))(d:St)(Q:Bool->Hp->Prop)(b:Bool)(s':X8):Prop:=∃a,Inv X c d a s'/\Q b a
def AP (X:Cx)(c:List (Addr×Obj))(e:St)(Q:AF->Hp->Prop)(d:List Y1)(s':X8):Prop:=∃b a,Inv X c e a s'/\Vals b d/\Q b a
def SP (X:Cx)(c:List (Addr×Obj))(D:Ends)(f:Flow)(s':X8):Prop :=
 match f with
 | .next=>∃ a b,Inv X c a b s'/\D.nx a b
 | .brk=>∃ a b,Inv X c a b s'/\D.bk a b
 | .cont=>∃ a b,Inv X c a b s'/\D.ct a b
 | .ret u=>∃v a b,Inv X c a b s'/\RelV v u/\D.rt v b
def PE (X:Cx)(e:Expr)(t:TE):Prop :=
 ∀(b:List (Addr×Obj)) (s:X8) (a:St) (H:Hp) (Q:VK),Inv X b a H s->t a H Q->Xh (Xn X.prog X.w) X.A (eval e X.env) (EP X b a Q) X.xe s
def PT (X:Cx)(e:Expr)(t:TT):Prop :=
 ∀(b:List (Addr×Obj)) (s:X8) (a:St) (H:Hp) (Q:Bool->Hp->Prop),Inv X b a H s->t a H Q->Xh (Xn X.prog X.w) X.A (isTrue e X.env (eval e X.env)) (TP X b a Q) X.xe s
def PW (X:Cx)(e:Expr)(t:TT):Prop :=
 ∀(whole:Sem Y1) (b:List (Addr×Obj)) (s:X8) (a:St) (H:Hp) (Q:Bool->Hp->Prop),Inv X b a H s->t a H Q->Xh (Xn X.prog X.w) X.A (isTrue e X.env whole) (TP X b a Q) X.xe s
def PW.pt {X:Cx}{e:Expr}{t:TT}(h:PW X e t):PT X e t:=h _
def PA (X:Cx)(c:List Expr)(t:TA):Prop :=
 ∀(pos:Pos) (b:List (Addr×Obj)) (s:X8) (a:St) (H:Hp) (Q:AF->Hp->Prop),Inv X b a H s->t a H Q->Xh (Xn X.prog X.w) X.A (spliced (S5 pos (WO c X.env))) (AP X b a Q) X.xe s
def PS (X:Cx)(st:Stmt)(t:TS):Prop :=
 ∀(a:List (Addr×Obj)) (s:X8) (b:St) (H:Hp) (D:Ends),Inv X a b H s->t D b H->Xh (Xn X.prog X.w) X.A (exec st X.env) (SP X a D) X.xe s
def PSs (X:Cx)(st:List Stmt)(t:TS):Prop :=
 ∀(a:List (Addr×Obj)) (s:X8) (b:St) (H:Hp) (D:Ends),Inv X a b H s->t D b H->Xh (Xn X.prog X.w) X.A (execs st X.env) (SP X a D) X.xe s
def thn {α:Type}{t:Sem α}{Q b:α->X8->Prop}{M:N5}{A:WL}{E:Y1->X8->Prop}{s:X8}(h:Xh M A t Q E s)(c:∀a s,Q a s->b a s):Xh M A t b E s:=VQ h c λ_ _ x=>x
section
variable {X:Cx}
def zrz (i:Nat):TE:=fun a H Q=>∃v,a[i]?=some (some v)/\Q v H
def tC (v:V):TE:=λ_ H Q=>Q v H
def zp4 {i:Nat}{x:Str}{pos:Pos}(n:X.N[i]?=some x)(w:Vis X.env.scope x)(f:(x==("__debug__":Str))=false:=by decide)(d:(x==("__classdict__":Str))=false:=by decide):PE X (.Name x pos) (zrz i):=by
 intro j s y H Q I h;obtain⟨v,e,h⟩:=h;obtain⟨m,q,o⟩:=I.loc;obtain⟨u,r,l⟩:=o i x v n e w;have b:EP X j y Q u s:=⟨v,H,I,r,h⟩;rcases l with ⟨hk,p⟩ | ⟨hk,c,g,a⟩
 .exact wpAny_Name (wpAny_loadName_local I.ok.kind hk q p b) f
 .rcases hk with hk | hk
  .exact wpAny_Name (wpAny_loadName_cell I.ok.kind hk g a b) f
  .exact wpAny_Name (wpAny_loadName_free I.ok.kind hk g a b d) f
def zj {i j pos}:PE X (.Constant (.int i) j pos) (tC (.int i)):=λ_ _ _ H _ I h=>wpAny_Constant_int ⟨.int i,H,I.tok _,⟨_,rfl⟩,h⟩
def xE {b j pos}:PE X (.Constant (.bool b) j pos) (tC (.bl b)):=λ_ _ _ H _ I h=>Constant_bool ⟨.bl b,H,I,rfl,h⟩
def ZV {j pos}:PE X (.Constant .none j pos) (tC .non):=λ_ _ _ H _ I h=>Constant_none ⟨.non,H,I,rfl,h⟩
def qK {x j pos}:PE X (.Constant (.str x) j pos) (tC (.str x)):=λ_ _ _ H _ I h=>Calls.Constant_str ⟨.str x,H,I.tok _,⟨_,rfl⟩,h⟩
def Gl (X:Cx)(x:Str):Prop:=X.env.kindOf x=some .globalImplicit
def zbd {E:Y1->X8->Prop}{a:List (Addr×Obj)}{s:X8}{e:St}{H:Hp}{x:Str}{u:Y1}{pos:Pos}{Q:Y1->X8->Prop}(I:Inv X a e H s)(c:Gl X x)(d:X.mg x=some u)(h:Q u s)
  (b:(x==("__debug__":Str))=false:=by decide):Xh (Xn X.prog X.w) X.A (eval (.Name x pos) X.env) Q E s :=
 RN I.ok.kind c (Calls.loadGlobal_global (by rw[I.ok.glob];exact I.mod.glob.keeps I.bk) d h) b
def Qv {E:Y1->X8->Prop}{a:List (Addr×Obj)}{s:X8}{g:St}{H:Hp}{x:Str}{u:Y1}{pos:Pos}{Q:Y1->X8->Prop}(I:Inv X a g H s)(c:Gl X x)(d:X.mg x=none)(f:U2 x=some u)(h:Q u s)
  (e:x ≠ "__name__":=by decide) (b:(x==("__debug__":Str))=false:=by decide):Xh (Xn X.prog X.w) X.A (eval (.Name x pos) X.env) Q E s:=by
 obtain⟨i,h1,h2⟩:=I.mod.blt;exact RN I.ok.kind c (Calls.loadGlobal_builtin (by rw[I.ok.glob];exact I.mod.glob.keeps I.bk) d (by rw[I.ok.blt];exact h1.keeps I.bk) ((h2 x e).trans f) h) b
def YR {x:Str}{v:V}{u:Y1}{pos:Pos}(b:Gl X x)(c:X.mg x=some u)(r:RelV v u)(a:(x==("__debug__":Str))=false:=by decide):PE X (.Name x pos) (tC v) :=
 λ_ _ _ H _ I h=>zbd I b c ⟨v,H,I,r,h⟩ a
def zcI {x:Str}{v:V}{u:Y1}{pos:Pos}(b:Gl X x)(c:X.mg x=none)(e:U2 x=some u)(r:RelV v u)(d:x ≠ "__name__":=by decide)(a:(x==("__debug__":Str))=false:=by decide):PE X (.Name x pos) (tC v) :=
 λ_ _ _ H _ I h=>Qv I b c e ⟨v,H,I,r,h⟩ d a
variable {a b:Expr}{ta tb:TE}{pos:Pos}
def PC (X:Cx)(op:NX)(a b:Expr)(t:TE):Prop :=
 ∀(f:List (Addr×Obj)) (s:X8) (e:St) (H:Hp) (Q:VK),Inv X f e H s->t e H Q ->
  Xh (Xn X.prog X.w) X.A (eval a X.env) (λv c=>Xh (Xn X.prog X.w) X.A (eval b X.env) (λu d=>Xh (Xn X.prog X.w) X.A (Wf op v u) (EP X f e Q) X.xe d) X.xe c) X.xe s
def tB (t:TE):TT:=fun b H Q=>t b H λx a=>∃c,x=.bl c/\Q c a
def zp5 {op:NX}{t:TE}(h:PC X op a b t)(h1:Tp op b=false:=by first | exact e _ "d" "d" | rfl):PT X (.Compare a [op] [b] pos) (tB t):=by
 intro i s n H Q I j;refine SJ (thn (h i s n H _ I j) λv s1 h1=>thn h1 λu o h2=>thn h2 λc p ⟨x,f,g,m,l⟩=>?_) h1;obtain⟨d,rfl,q⟩:=l;cases m;exact V7 ⟨f,g,q⟩
variable {tA tB':TT}{rest:List Expr}
def zsL (t u:TT):TT:=fun b H Q=>t b H λc a=>if c=true then u b a Q else Q false a
def tOr (t u:TT):TT:=fun b H Q=>t b H λc a=>if c=true then Q true a else u b a Q
def zsM (t:TT):TT:=fun b H Q=>t b H λc a=>Q (!c) a
def zcJ (d:PT X a tA):PW X (.BoolOp .And [a] pos) tA:=by
 intro g b s f H Q I h;refine isTrue_and (thn (d b s f H Q I h) λc s1 e=>?_);cases c with
 | true=>exact isTrue_and_nil e
 | false=>exact e
def ZW (d:PT X a tA):PW X (.BoolOp .Or [a] pos) tA:=by
 intro g b s f H Q I h;refine isTrue_or (thn (d b s f H Q I h) λc s1 e=>?_);cases c with
 | false=>exact isTrue_or_nil e
 | true=>exact e
def zfG (j:PT X a tA)(l:PW X (.BoolOp .And (b::rest) pos) tB'):PW X (.BoolOp .And (a::b::rest) pos) (zsL tA tB'):=by
 intro m f s i H Q I h;refine isTrue_and (thn (j f s i H _ I h) λc s1 ⟨d,e,g⟩=>?_);cases c with
 | true=>exact l m f s1 i d Q e g
 | false=>exact⟨d,e,g⟩
def Z9 (j:PT X a tA)(l:PW X (.BoolOp .Or (b::rest) pos) tB'):PW X (.BoolOp .Or (a::b::rest) pos) (tOr tA tB'):=by
 intro m f s i H Q I h;refine isTrue_or (thn (j f s i H _ I h) λc s1 ⟨d,e,g⟩=>?_);cases c with
 | true=>exact⟨d,e,g⟩
 | false=>exact l m f s1 i d Q e g
def ZX (e:PT X a tA):PT X (.UnaryOp .Not a pos) (zsM tA):=by
 intro d s f H Q I h;exact isTrue_not (e d s f H (λc b=>Q (!c) b) I h)
def zrA (ta tb:TE):TE:=fun b H Q=>ta b H λx a=>∃c,x=.bl c/\if c=true then tb b a Q else Q (.bl false) a
def zsN (ta tb:TE):TE:=fun b H Q=>ta b H λx a=>∃c,x=.bl c/\if c=true then Q (.bl true) a else tb b a Q
def zrB (ta:TE):TE:=fun b H Q=>ta b H λx a=>∃c,x=.bl c/\Q (.bl (!c)) a
def zie {op}{t:TE}(h:PE X a t):PE X (.BoolOp op [a] pos) t:=λb s d H Q I c=>BoolOp_one (h b s d H Q I c)
def zlG (j:PE X a ta)(l:PE X (.BoolOp .And (b::rest) pos) tb):PE X (.BoolOp .And (a::b::rest) pos) (zrA ta tb):=by
 intro g s i H Q I h;refine BoolOp_and (thn (j g s i H _ I h) λv s1 ⟨x,e,f,m,d⟩=>?_);obtain⟨c,rfl,d⟩:=d;cases m;refine V7 ?_;cases c with
 | true=>exact l g s1 i e Q f d
 | false=>exact⟨.bl false,e,f,rfl,d⟩
def zrC (j:PE X a ta)(l:PE X (.BoolOp .Or (b::rest) pos) tb):PE X (.BoolOp .Or (a::b::rest) pos) (zsN ta tb):=by
 intro g s i H Q I h;refine BoolOp_or (thn (j g s i H _ I h) λv s1 ⟨x,e,f,m,d⟩=>?_);obtain⟨c,rfl,d⟩:=d;cases m;refine V7 ?_;cases c with
 | false=>exact l g s1 i e Q f d
 | true=>exact⟨.bl true,e,f,rfl,d⟩
def zp6 (g:PE X a ta):PE X (.UnaryOp .Not a pos) (zrB ta):=by
 intro f s j H Q I h;refine UnaryOp_ (thn (g f s j H _ I h) λv s1 ⟨x,d,e,i,b⟩=>?_);obtain⟨c,rfl,b⟩:=b;cases i;exact not_of (V7 ⟨.bl (!c),d,e,rfl,b⟩)
end
def SqL (K:X0)(H:Hp)(a:Addr)(xs:AF):Prop :=
 Rd H a (.lst xs) \/
  ∃(o:Obj) (b:Array Y1) (n:Nat),K.lookup a=some o/\o.cls=.type "list"/\o.dict=none/\o.data=.seq b n/\b.size<=Xy/\Vals xs b.toList
def SqT (K:X0)(H:Hp)(a:Addr)(xs:AF):Prop :=
 Rd H a (.tup xs) \/
  ∃(o:Obj) (b:Array Y1) (n:Nat),K.lookup a=some o/\o.cls=.type "tuple"/\o.data=.seq b n/\b.size<=Xy/\Vals xs b.toList
def zsO:Y1->Option V
 | .none=>some .non
 | .bool b=>some (.bl b)
 | .int i _=>some (.int i)
 | .str x _=>some (.str x)
 | .bytes b _=>some (.byt b)
 | .float b _=>some (.flt b)
 | .ref a=>some (.ref a)
 | .type n=>some (.ty n)
 | _=>none
def RelV.abs {x:V}{u:Y1}(r:RelV x u):zsO u=some x:=by
 cases x with
 | non=>cases r;rfl
 | bl _=>cases r;rfl
 | int _=>obtain⟨t,rfl⟩:=r;rfl
 | str _=>obtain⟨t,rfl⟩:=r;rfl
 | byt _=>obtain⟨t,rfl⟩:=r;rfl
 | flt _=>obtain⟨t,rfl⟩:=r;rfl
 | ref _=>cases r;rfl
 | ty _=>cases r;rfl
theorem RelV.inj {x y:V}{u:Y1}(r:RelV x u)(q:RelV y u):x=y:=Option.some.inj (r.abs.symm.trans q.abs)
theorem Vals.inj:∀{xs ys:AF} {a:List Y1},Vals xs a->Vals ys a->xs=ys
 | _,_,_,.nil,.nil=>rfl
 | _,_,_,.cons r t,.cons b t'=>by rw[r.inj b,Vals.inj t t']
section
variable {X:Cx}{bQ:List (Addr×Obj)}{σ:St}{H:Hp}{s:X8}{a:Addr}{xs ys:AF}
def SqL.of {K:X0}(h:H a=some (.lst xs)):SqL K H a xs:=.inl (.inl h)
def SqT.of {K:X0}(h:H a=some (.tup xs)):SqT K H a xs:=.inl (.inl h)
def Inv.list (I:Inv X bQ σ H s)(h:SqL X.K H a xs):∃b:List Y1,Vals xs b/\PlainL s.heap a b.toArray/\xs.length<=Xy:=by
 rcases h with h | ⟨o,b,n,hk,c,d,f,g,r⟩
 .obtain⟨z,b,n,r,e⟩:=h.ok I.hok;exact⟨b,r,⟨_,n,e,rfl,rfl,rfl⟩,z⟩
 .refine⟨b.toList,r,⟨o,n,I.kIn a o hk,c,d,↑f⟩,?_⟩;have e:=r.length;simp only[XV]at e;lia
def Inv.tuple (I:Inv X bQ σ H s)(h:SqT X.K H a xs):∃b:List Y1,Vals xs b/\Ph s.heap a b.toArray/\xs.length<=Xy:=by
 rcases h with h | ⟨o,b,n,hk,c,d,f,r⟩
 .obtain⟨z,b,r,p⟩:=h.ok I.hok;exact⟨b,r,p,z⟩
 .refine⟨b.toList,r,⟨o,I.kIn a o hk,c,n,↑d⟩,?_⟩;have e:=r.length;simp only[XV]at e;lia
def Inv.list_inj (I:Inv X bQ σ H s)(h:SqL X.K H a xs)(h':SqL X.K H a ys):xs=ys:=by
 obtain⟨c,r,⟨o,n,e,_,_,d⟩,_⟩:=I.list h;obtain⟨b,j,⟨m,l,g,_,_,f⟩,_⟩:=I.list h';rw[e]at g;cases g;rw[d]at f;injection f with i _
 have:c=b:=by simpa using congrArg Array.toList i
 subst this;exact r.inj j
end
abbrev Cx.wish (X:Cx)(E:Y1->X8->Prop):Cx:={ X with xe:=E }
abbrev Cx.nox (X:Cx):Cx:=X.wish λ_ _=>False
theorem Cx.Ok.wish {X:Cx}(ok:X.Ok)(E:Y1->X8->Prop):(X.wish E).Ok :=
 ⟨ok.mod,ok.kind,ok.glob,ok.blt,ok.above,ok.inj,ok.has,ok.cab,ok.hd,ok.frames,ok.stk,ok.exf,ok.bs,ok.bsz,ok.noex,ok.exfs,ok.funs,ok.frf⟩
def Cx.Ok.unwish {X:Cx}{E:Y1->X8->Prop}(ok:(X.wish E).Ok):X.Ok :=
 ⟨ok.mod,ok.kind,ok.glob,ok.blt,ok.above,ok.inj,ok.has,ok.cab,ok.hd,ok.frames,ok.stk,ok.exf,ok.bs,ok.bsz,ok.noex,ok.exfs,ok.funs,ok.frf⟩
section
variable {X:Cx}{bQ:List (Addr×Obj)}{σ:St}{H:Hp}{s:X8}{E:Y1->X8->Prop}
theorem Inv.wish (I:Inv X bQ σ H s)(E:Y1->X8->Prop):Inv (X.wish E) bQ σ H s:=⟨I.ok.wish E,I.os,I.bare,I.base,I.loc,I.cell,I.free,I.freeC,I.pin,I.hok,I.len⟩
theorem Inv.unwish (I:Inv (X.wish E) bQ σ H s):Inv X bQ σ H s:=⟨I.ok.unwish,I.os,I.bare,I.base,I.loc,I.cell,I.free,I.freeC,I.pin,I.hok,I.len⟩
theorem SP.unwish {D:Ends}{f:Flow}{s':X8}(h:SP (X.wish E) bQ D f s'):SP X bQ D f s':=by
 cases f with
 | next=>obtain⟨a,b,I,q⟩:=h;exact⟨a,b,I.unwish,q⟩
 | brk=>obtain⟨a,b,I,q⟩:=h;exact⟨a,b,I.unwish,q⟩
 | cont=>obtain⟨a,b,I,q⟩:=h;exact⟨a,b,I.unwish,q⟩
 | ret u=>obtain⟨v,a,b,I,r,q⟩:=h;exact⟨v,a,b,I.unwish,r,q⟩
theorem PSs.nox {st:List Stmt}{t:TS}(h:PSs X.nox st t):PSs X st t:=λbQ s σ H D I a =>
 VQ (h bQ s σ H D (I.wish _) a) (λ_ _ q=>q.unwish) λ_ _ z=>U7 z
end
section
variable {X:Cx}{st:Stmt}{rest:List Stmt}{t u:TS}{e:Expr}{te:TE}{pos:Pos}
def zrD:TS:=λD a H=>D.nx a H
def zsP (t u:TS):TS:=λD a H=>t { D with nx:=u D } a H
def zR:PSs X [] zrD:=λ_ _ a H _ I h=>Tk ⟨a,H,I,h⟩
def zd (h1:PS X st t)(h2:PSs X rest u):PSs X (st::rest) (zsP t u):=by
 intro b s e H D I h;refine Rc (thn (h1 b s e H { D with nx:=u D } I h) λf s1 q=>?_);cases f with
 | next =>
  obtain⟨a,c,d,q⟩:=q;exact h2 b s1 a c D d q
 | ret v=>exact q
 | brk=>exact q
 | cont=>exact q
def zf (h1:PS X st t):PSs X [st] t:=by
 intro a s b H D I h;refine Rc (thn (h1 a s b H D I h) λf s1 q=>?_);cases f with
 | next=>exact Tk q
 | ret v=>exact q
 | brk=>exact q
 | cont=>exact q
def zrE:TS:=λD a H=>D.ct a H
def zgK:PS X (.Continue pos) zrE:=λ_ _ a H _ I h=>wpAny_Continue ⟨a,H,I,h⟩
def Inv.quiet {a:List (Addr×Obj)}{b:St}{H:Hp}{s:X8}(I:Inv X a b H s):interactive X.env=false:=by simp[interactive,I.ok.kind]
def zrF (te:TE):TS:=λD a H=>te a H λ_ b=>D.nx a b
def yT (he:PE X e te)(f:RX e none pos.line X.env=pure false:=by rfl):PS X (.Expr e pos) (zrF te):=by
 intro d s a H D I h;exact wpAny_Expr_any (thn (he d s a H _ I h) λv s1 ⟨x,b,c,i,g⟩=>⟨a,b,c,g⟩) I.quiet f
def zsQ (te:TE):TS:=λD a H=>te a H D.rt
def zx (he:PE X e te):PS X (.Return (some e) pos) (zsQ te):=by
 intro d s a H D I h;exact wpAny_Return_some (thn (he d s a H _ I h) λv s1 ⟨x,b,c,g,f⟩=>⟨x,a,b,c,g,f⟩)
def zsR (c:TT)(t u:TS):TS:=λD a H=>c a H λb d=>if b=true then t D a d else u D a d
def qo {c:Expr}{a b:List Stmt}{l:TT}(o:PT X c l)(m:PSs X a t)(n:PSs X b u):PS X (.If c a b pos) (zsR l t u):=by
 intro e s f H D I h;refine wpAny_If (thn (o e s f H _ I h) λd s1 ⟨g,i,j⟩=>?_);cases d with
 | true=>exact m e s1 f g D i j
 | false=>exact n e s1 f g D i j
def zp7:TS:=λ_ _ _=>False
def zlH:PS X st zp7:=λ_ _ _ _ _ _ h=>h.elim
end
abbrev TG:=V->St->Hp->(St->Hp->Prop)->Prop
abbrev TGs:=AF->St->Hp->(St->Hp->Prop)->Prop
def PG (X:Cx)(a:Expr)(t:TG):Prop :=
 ∀(d:List (Addr×Obj)) (s:X8) (e:St) (H:Hp) (v:V) (u:Y1) (Q:St->Hp->Prop),Inv X d e H s->RelV v u->t v e H Q ->
  Xh (Xn X.prog X.w) X.A (N2 a X.env u) (λ_ f=>∃ b c,Inv X d b c f/\Q b c) X.xe s
def PGs (X:Cx)(ts:List Expr)(t:TGs):Prop :=
 ∀(c:List (Addr×Obj)) (s:X8) (f:St) (H:Hp) (e:AF) (d:List Y1) (Q:St->Hp->Prop),Inv X c f H s->Vals e d->t e f H Q ->
  Xh (Xn X.prog X.w) X.A (assignInOrder ((Th ts X.env).map (·.2)) d) (λ_ g=>∃ a b,Inv X c a b g/\Q a b) X.xe s
abbrev zlI:=V->V->V->Hp->(Hp->Prop)->Prop
def zp8 (X:Cx)(t:zlI):Prop :=
 ∀(b:List (Addr×Obj)) (s:X8) (e:St) (H:Hp) (o i v:V) (d c u:Y1) (Q:Hp->Prop),Inv X b e H s->RelV o d->RelV i c->RelV v u->t o i v H Q ->
  Xh (Xn X.prog X.w) X.A (setItem d c u) (λ_ f=>∃a,Inv X b e a f/\Q a) X.xe s
abbrev TIp:=V->V->Hp->VK->Prop
def PIp (X:Cx)(op:Operator)(t:TIp):Prop :=
 ∀(a:List (Addr×Obj)) (s:X8) (b:St) (H:Hp) (x y:V) (v u:Y1) (Q:VK),Inv X a b H s->RelV x v->RelV y u->t x y H Q ->
  Xh (Xn X.prog X.w) X.A (inplaceOp op v u) (EP X a b Q) X.xe s
section
variable {X:Cx}{pos:Pos}
def yv (i:Nat):TG:=λv a H Q=>Q (a.set i (some v)) H
def zfH {i:Nat}{x:Str}(b:X.N.Nodup)(d:X.N[i]?=some x)(e:Loc X.env.scope x)(c:X.fn x=true\/X.env.scope.names.lookup x=some .local:=by first | exact .inl rfl | exact .inr rfl | assumption):PG X (.Name x pos) (yv i):=by
 intro f s j H v u Q I r h;exact wpAny_assign_Name (zc2 I b d e r (λg a=>⟨_,H,a,h⟩) c)
def zsS:TGs:=λa b H Q=>a=[]/\Q b H
def zrG (t:TG)(u:TGs):TGs:=λc d H Q=>∃v r,c=v::r/\t v d H fun a b=>u r a b Q
def qS:PGs X [] zsS:=by
 intro b s a H d c Q I r h;obtain⟨e,h⟩:=h;subst e;cases r;exact assignInOrder_nil ⟨a,H,I,h⟩
def zH {e:Expr}{a:List Expr}{t:TG}{u:TGs}(h1:PG X e t)(h2:PGs X a u)
  (i:(Th (e::a) X.env).map (·.2)=N2 e X.env::(Th a X.env).map (·.2):=by rfl):PGs X (e::a) (zrG t u):=by
 intro c s m H p n Q I r h;revert h;refine fK λv o g h=>?_;subst g;cases r with
 | cons r l =>
  rw[i];refine assignInOrder_cons (thn (h1 c s m H _ _ _ I r h) λ_ s1 ⟨b,d,f,j⟩=>?_);exact h2 c s1 b d _ _ Q f l j
def zrH (K:X0)(n:Nat)(t:TGs):TG:=λv c H Q=>∃a b,v=.ref a/\SqT K H a b/\b.length=n/\t b c H Q
def j5 {c:List Expr}{k:Nat}{t:TGs}{n:Nat}(q:X.calm=true)(h:PGs X c t)
  (x:(Th c X.env).length=n:=by rfl) (d:(Th c X.env).findIdx? (·.1)=none:=by rfl):PG X (.Tuple c k pos) (zrH X.K n t):=by
 intro g s j H v u Q I r f;revert f;refine fm λa D m y w f=>?_;subst m;cases r;obtain⟨B,i,z,E⟩:=I.tuple y;refine assign_Tuple_tuple (I.ok.hd q) z (by simp[x,<- w,i.length]) d λp A=>?_;have l:Inv X g j H { s with heap:=p }:=I.kept (t':=s.toks) λb o e=>A b o (Xi (XE e)) e;exact h g _ j H D _ Q l ↑i f
def zsT (f e:TE)(t:zlI):TG:=λv a H Q=>f a H λo b=>e a b λi c=>t o i v c λd=>Q a d
def zif {o i:Expr}{f e:TE}{t:zlI}(w:PE X o f)(q:PE X i e)(z:zp8 X t)
  (p:∀v,N2 (.Subscript o i pos) X.env v=(do
   let a <- Ou [v] (eval o X.env)
   let b <- Ou [v,a] (eval i X.env)
   standAt pos
   Ou [v,a,b] (setItem a b v)
   release [v,a,b] []):=by intro _;rfl):PG X (.Subscript o i pos) (zsT f e t):=by
 intro d s c H v u Q I r h;rw[p];refine X9 (We (thn (w d s c H _ I h) λa s1 ⟨x,g,m,E,A⟩=>?_));refine X9 (We (thn (q d s1 c g _ m A) λb J ⟨y,j,n,G,B⟩=>?_));refine X9 (Rx (X9 (We (thn (z d J c j x y v a b u _ n E G r B) λ_ L ⟨l,I3,D⟩=>?_))));exact wpAny_release ⟨c,l,I3,D⟩
def zlJ (c:TE)(g:TG):TS:=λD a H=>c a H λx b=>g x a b D.nx
def YS {a e:Expr}{c:TE}{g:TG}(he:PE X e c)(j:PG X a g)(l:swapsWithSole [a] e pos.line X.env=pure false:=by rfl)(m:swappedStores [a] e X.env=pure none:=by rfl)
  (h1:(Th [a] X.env).map (·.2)=[N2 a X.env]:=by rfl):PS X (.Assign [a] e pos) (zlJ c g):=by
 intro b s d H D I h;refine wpAny_Assign_stores (thn (he b s d H _ I h) λv s1 ⟨x,f,i,o,n⟩=>?_) l m;rw[h1];exact thn (j b s1 d f x v _ i o n) λ_ p q=>q
def qP {i:Nat}{x:Str}{e:Expr}{b:TE}{a:Pos}(j:X.N.Nodup)(m:X.N[i]?=some x)(o:Loc X.env.scope x)(he:PE X e b)(n:RX e (some (.Name x a)) pos.line X.env=pure false:=by rfl)(l:X.fn x=true\/X.env.scope.names.lookup x=some .local:=by first | exact .inl rfl | exact .inr rfl | assumption) :
  PS X (.Assign [.Name x a] e pos) (zlJ b (yv i)):=by
 intro g s r H D I h;refine wpAny_Assign_Name (thn (he g s r H _ I h) λv s1 ⟨y,c,d,q,p⟩=>?_) n;exact zc2 d j m o q (λu f=>⟨_,c,f,p⟩) l
def zrI (p n m:TE)(a:V->V->Hp->VK->Prop)(d:TIp)(b:zlI):TS:=λD c H=>p c H λo e=>n c e λi f=>a o i f λx g=>m c g λy h=>d x y h λz j=>b o i z j λl=>D.nx c l
def zrJ (X:Cx)(t:V->V->Hp->VK->Prop):Prop :=
 ∀(a:List (Addr×Obj)) (s:X8) (d:St) (H:Hp) (o i:V) (c b:Y1) (Q:VK),Inv X a d H s->RelV o c->RelV i b->t o i H Q ->
  Xh (Xn X.prog X.w) X.A (OT c b) (EP X a d Q) X.xe s
def zjD {o i e:Expr}{w u r:TE}{b:V->V->Hp->VK->Prop}{l:TIp}{c:zlI}{op:Operator}{m:Pos}(ho:PE X o w)(hi:PE X i u)(Y:zrJ X b)(he:PE X e r)(hp:PIp X op l)(hs:zp8 X c)
  (U:∀f d a,augStore i f d a=(do Ou [a,f,d] (setItem f d a);release [a,f,d] [];pure .next):=by intros;rfl):PS X (.AugAssign (.Subscript o i m) op e pos) (zrI w u r b l c):=by
 intro j s g H D I h;refine wpAny_AugAssign_SubscriptAny (thn (ho j s g H _ I h) λf s1 ⟨x,z,L,p,q1⟩=>?_) U;refine thn (hi j s1 g z _ L q1) λd s2 ⟨y,A,M,q,q2⟩=>?_;refine thn (Y j s2 g A x y f d _ M p q q2) λn s3 ⟨x3,B,I3,r3,q3⟩=>?_;refine thn (he j s3 g B _ I3 q3) λv s4 ⟨x4,E,N,r4,q4⟩=>?_;refine thn (hp j s4 g E x3 x4 n v _ N r3 r4 q4) λa s5 ⟨x5,G,O,r5,q5⟩=>?_;exact thn (hs j s5 g G x y x5 f d a _ O p q r5 q5) λ_ s6 ⟨J,Q,q6⟩=>⟨g,J,Q,q6⟩
def ipI (f:Int->Int->Int):TIp:=λx y H Q=>∃i j,x=.int i/\y=.int j/\Q (.int (f i j)) H
def zlK:PIp X .Add (ipI λi j=>i+j):=by
 intro e s g H x y v u Q I c d h;obtain⟨i,j,a,b,q⟩:=h;subst a;subst b;obtain⟨t,rfl⟩:=c;obtain⟨f,rfl⟩:=d;exact iadd_int ⟨.int _,H,I.tok _,⟨_,rfl⟩,q⟩
def zp9 (c:TT)(h:TS):TS:=λD a H=>∃W:Nat->St->Hp->Prop,(∃m,W m a H)/\∀m a H,W m a H ->
 c a H λb f=>if b=true then ∃N:St->Hp->Prop,(∀ d e,N d e->∃g,g<m/\W g d e)/\h { D with nx:=N,ct:=N,bk:=D.nx } a f else D.nx a f
def zlL {c:Expr}{e:List Stmt}{L:TT}{J:TS}(G:PassesOwn (Xn X.prog X.w) X.A X.env X.xe)(Q:PT X c L)(O:PSs X e J):PS X (.While c e [] pos) (zp9 L J):=by
 intro o s σ H D I h;obtain⟨W,⟨U,w0⟩,i⟩:=h;refine wpAny_While (codeAny_whileLoop (λn Y=>∃ j x,Inv X o j x Y/\W n j x) ?_ U ⟨σ,H,I,w0⟩);refine λn s1=>fK λd y M w1=>?_;refine UK G (thn (Q o s1 d y _ M (i n d y w1)) λb s2 ⟨z,B,l⟩=>?_);cases b with
 | true =>
  obtain⟨N,E,l⟩:=l;rw[bw rfl];refine UK G (thn (O o s2 d z _ B l) λf s3 m=>?_);cases f with
  | next =>
   revert m;refine fK λa g I3 r=>?_;obtain⟨q,p,u⟩:=E a g r;exact⟨q,p,a,g,I3,u⟩
  | cont =>
   revert m;refine fK λa g I3 r=>?_;obtain⟨q,p,u⟩:=E a g r;exact⟨q,p,a,g,I3,u⟩
  | brk=>exact m
  | ret v=>exact m
 | false =>
  rw[bq XM];exact Tk ⟨d,z,B,l⟩
end
structure It where
 go:Nat->Hp->Prop
 yld:Nat->Hp->V->Hp->Prop
 stop:Nat->Hp->Prop
def zbe (X:Cx)(a:List (Addr×Obj))(H:Hp)(b:Addr):Prop :=
 H b=none/\b≠X.env.locals/\b ∉ X.fs/\(b∈X.ex\/X.s₀.heap.objs.size<=b)/\(∀x c,X.env.cells.lookup x=some c->c≠b)/\∀p∈X.pn++a,p.1≠b
def Inv.fpOk {X:Cx}{f:List (Addr×Obj)}{i:St}{H d:Hp}{s:X8}{b:Addr}(I:Inv X f i H s)(a:s.heap.objs.size<=b)(g:d b=none):zbe X f d b:=by
 refine⟨g,Vg (XD I.lt a),I.nofs a,.inr (X7 I.sz a),λx c e z=>?_,λp h z=>?_⟩
 .obtain⟨v,q⟩:=I.cell x c e;exact absurd (XD q.lt (by rw[z];exact a)) (V3 _)
 .exact absurd (XD (XE (I.pin p h).1) (by rw[z];exact a)) (V3 _)
structure Turn (P:Xv)(w:W5)(K:X0)(tg:Expr)(J:It)(fp:List Addr)(it:Addr)(tn:Nat->Heap->Prop):Prop where
 mem:it∈fp
 obj:∀i h,tn i h->∀b∈fp,∃o,h.get? b=some o/\∀v,o.data ≠ .cell v
 keep:∀i h h',tn i h->(∀b∈fp,∀o,h.get? b=some o->h'.get? b=some o)->tn i h'
 item:∀(X:Cx),X.prog=P->X.w=w->X.K=K->X.calm=true->∀(i:Nat) (bQ:List (Addr×Obj)) (s:X8) (σ:St) (H:Hp) (E:Y1->X8->Prop),Inv X bQ σ H s->(∀b∈fp,zbe X bQ H b)->tn i s.heap->J.go i H ->
  Xh (Xn P w) X.A (SF (.ref it)) (λr s1=>∃u,r=some u /\
   Xh (Xn P w) X.A (Sh tg (.ref it) u) (λ_ s2=>∃x H',Inv X bQ σ H' s2/\RelV x u/\J.yld i H x H'/\tn (i+1) s2.heap/\∀b∈fp,H' b=none) E s1) E s
 done:∀(X:Cx),X.prog=P->X.w=w->X.K=K->X.calm=true->∀(i:Nat) (bQ:List (Addr×Obj)) (s:X8) (σ:St) (H:Hp) (E:Y1->X8->Prop),Inv X bQ σ H s->(∀b∈fp,zbe X bQ H b)->tn i s.heap->J.stop i H ->
  Xh (Xn P w) X.A (SF (.ref it)) (λr s1=>r=none/\Inv X bQ σ H s1) E s
 self:∀(A:WL) (i:Nat) (s:X8) (Q:Y1->X8->Prop) (E:Y1->X8->Prop),tn i s.heap->Q (.ref it) s->Xh (Xn P w) A (pyIter (.ref it)) Q E s
abbrev TI:=St->Hp->(It->Hp->Prop)->Prop
def PIE (X:Cx)(d:List (Addr×Obj))(j:St)(i:Expr)(R:It->Hp->Prop)(c:Y1)(g:X8):Prop :=
 ∃(f:Addr) (e:List Addr) (h:Nat->Heap->Prop) (J:It) (a:Hp),c=.ref f/\Inv X d j a g/\Turn X.prog X.w X.K i J e f h/\h 0 g.heap/\(∀b∈e,zbe X d a b)/\R J a
def PI (X:Cx)(d a:Expr)(e:TI):Prop :=
 ∀(c:List (Addr×Obj)) (s:X8) (b:St) (H:Hp) (R:It->Hp->Prop),Inv X c b H s->e b H R ->
  Xh (Xn X.prog X.w) X.A (eval a X.env) (λv s1=>Xh (Xn X.prog X.w) X.A (pyIter v) (PIE X c b d R) X.xe s1) X.xe s
def zps {M:N5}{A:WL}{E:Y1->X8->Prop}{s:X8}{b:Expr}{it:Addr}{u:Y1}{o:Obj}{n:String}{vs:Array Y1}{Q:Unit->X8->Prop}(f:s.heap.get? it=some o)(c:o.cls=.type n)(d:o.data=.fields vs)
    (e:["enumerate","zip","dict_itemiterator","dict_reverseitemiterator","odict_iterator","itertools.zip_longest","itertools.pairwise"].contains n=false) (a:Q () s):Xh M A (Sh b (.ref it) u) Q E s:=by
  unfold Sh;cases b<;>first
    | exact XR a
    | (cases u<;>first
        | exact XR a
        | (refine X9 (wpAny_load f ?_)
           rw[c,d]
           show Xh M A (if (["enumerate","zip","dict_itemiterator","dict_reverseitemiterator","odict_iterator","itertools.zip_longest","itertools.pairwise"].contains n&&vs[0]?==some (Uw _))=true then _ else _) Q E s
           rw[bq (by intro h;rw[e,SV]at h;cases h)]
           exact XR a))
def Itl (K:X0)(a:Addr):It :=
 ⟨λi H=>∃b x,SqL K H a b/\b[i]?=some x,λi H x c=>c=H/\∀b,SqL K H a b->b[i]?=some x,λi H=>∃b,SqL K H a b/\b.length<=i⟩
def Itr (lo:Int)(n:Nat):It:=⟨λi _=>i<n,λi H x a=>a=H/\x=.int (lo+i),λi _=>n<=i⟩
def zkB {P:Xv}{w:W5}{K:X0}{tg:Expr}(a it:Addr):Turn P w K tg (Itl K a) [it] it (λi h=>h.IsListIter it a i) where
 mem:="s"
 obj:=λi h st b hb=>by
  have e:b=it:=by simpa using hb
  subst e;obtain⟨o,e,c,d⟩:=st;exact⟨o,e,λv z=>by rw[d]at z;cases z⟩
 keep:=λi h h' st k=>st.at λo e=>k it "s" o e
 item:=by
  intro X hP hw hK hc i bQ s σ H E I hf st hg;subst hP hw hK;revert hg;refine fK λxs x hq hx=>?_;refine fu (λits rv p hz=>?_) (I.list hq);obtain⟨u,hu,ru⟩:=rv.get hx;refine fG (λf0 f1 f2 f3 f4 f5=>?_) (hf it "s");refine wpAny_pyNext_list_item st p.isList (x:=u) ↑hu λh' st' sb=>?_;have I1:Inv X bQ σ H { s with heap:=h' }:=I.turned (t':=s.toks) (λb o hb e=>(sb.2 b hb).trans e) f0 f1 f3 f4 f5;refine fu (λo e c d=>?_) (id st');exact⟨u,rfl,zps (s:={ s with heap:=h' }) e c d "d" (dH x H I1 ru ⟨rfl,λys hy=>by rw[I.list_inj hy hq];exact hx⟩ st' (λb hb=>(hf b hb).1))⟩
 done:=by
  intro X hP hw hK hc i bQ s σ H E I hf st hg;subst hP hw hK;obtain⟨xs,hq,hx⟩:=hg;obtain⟨its,rv,p,hz⟩:=I.list hq;refine fG (λf0 f1 f2 f3 f4 f5=>?_) (hf it "s");have hl:=rv.length;exact wpAny_pyNext_list_end (I.ok.hd hc) st p.isList (by simp;lia) λh' eb=>⟨rfl,I.turned (t':=s.toks) (λb o hb e=>eb b o hb e) f0 f1 f3 f4 f5⟩
 self:=λ_ _ _ _ _ st h=>wpAny_pyIter_listiter st h
def zig {P:Xv}{w:W5}{K:X0}{tg:Expr}(it:Addr)(lo:Int)(n:Nat):Turn P w K tg (Itr lo n) [it] it (λi h=>IsRangeIter h it (lo+(i:Nat)*1) ((n:Int)-(i:Nat)) 1) where
 mem:="s"
 obj:=λi h st b hb=>by
  have e:b=it:=by simpa using hb
  subst e;exact⟨_,st,λv z=>by
   have z':Data.fields _=Data.cell v:=z;cases z'⟩
 keep:=λi h h' st k=>k it "s" _ st
 item:=by
  intro X hP hw hK hc i bQ s σ H E I hf st hg;subst hP hw hK;refine fG (λf0 f1 f2 f3 f4 f5=>?_) (hf it "s");have W:=Walks.range (prog:=X.prog) (w:=X.w) (I.ok.hd hc) it lo 1 n;refine W.item i s _ _ hg st λv h' tk hv st' kk=>?_;obtain⟨t,rfl⟩:=hv;have I1:Inv X bQ σ H { s with heap:=h',toks:=tk }:=I.turned (λb o hb e=>kk b o ↑hb e) f0 f1 f3 f4 f5;refine⟨_,rfl,zps (s:={ s with heap:=h',toks:=tk }) (n:="range_iterator") st' rfl rfl "d" (dH (.int (lo+i)) H I1 ⟨t,?_⟩ ⟨rfl,rfl⟩ st' (λb hb=>(hf b hb).1))⟩;rw[Int.mul_one]
 done:=by
  intro X hP hw hK hc i bQ s σ H E I hf st hg;subst hP hw hK;refine fG (λf0 f1 f2 f3 f4 f5=>?_) (hf it "s");exact wpAny_pyNext_range_end (I.ok.hd hc) st (by have:n<=i:=hg;lia) λh' eb=>⟨rfl,I.turned (t':=s.toks) (λb o hb e=>eb b o hb e) f0 f1 f3 f4 f5⟩
 self:=λ_ _ _ _ _ st h=>wpAny_pyIter_rangeiter st h
section
variable {X:Cx}{tg:Expr}
def zpt (K:X0)(tl:TE):TI:=fun d H R=>tl d H λx b=>∃a,x=.ref a/\(∃c,SqL K b a c)/\R (Itl K a) b
def zN {l:Expr}{tl:TE}(i:PE X l tl):PI X tg l (zpt X.K tl):=by
 intro f s u H R I h;refine thn (i f s u H _ I h) λv s1 ⟨x,d,c,r,n⟩=>?_;obtain⟨a,e,⟨z,j⟩,q⟩:=n;subst e;cases r;obtain⟨m,y,p,w⟩:=c.list j;refine TW p.isList ?_;refine dO s1.heap.objs.size [s1.heap.objs.size] _ _ d rfl (c.kept (t':=s1.toks) λb o e=>X6 _ e) (zkB a _) ⟨_,Xf _ rfl,rfl,rfl⟩ (λb g=>?_) q;have e:b=s1.heap.objs.size:=by simpa using g
 subst e;exact c.fpOk (XW _) (c.hok.fresh (XW _))
def zgL {d:List (Addr×Obj)}{f:St}{H:Hp}{s:X8}{R:It->Hp->Prop}{E:Y1->X8->Prop}{lo a:Int}{t u v:Tok}{tk:Nat}(I:Inv X d f H s)(h1:-(2^62)<=lo)(h2:lo<2^62)(i:-(2^62)<=a)(j:a<2^62)
  (q:R (Itr lo (a-lo).toNat) H):Xh (Xn X.prog X.w) X.A (pyIter (.ref s.heap.objs.size)) (PIE X d f tg R) E { s with heap:=s.heap.push { cls:=.type "range",data:=.fields #[.int lo t,.int a u,.int 1 v] },toks:=tk }:=by
 refine wpAny_pyIter_range (IsRange.new ..) (small_one h1 h2 i j) ?_;have c:Inv X d f H { s with heap:=s.heap.push { cls:=.type "range",data:=.fields #[.int lo t,.int a u,.int 1 v] },toks:=tk }:=I.kept λb o e=>X6 _ e;refine dO (s.heap.push { cls:=.type "range",data:=.fields #[.int lo t,.int a u,.int 1 v] }).objs.size [(s.heap.push { cls:=.type "range",data:=.fields #[.int lo t,.int a u,.int 1 v] }).objs.size] _ _ H rfl (c.kept (t':=tk) λb o e=>X6 _ e) (zig _ lo (a-lo).toNat) ?_ (λb l=>?_) q
 .have g:lo+((0:Nat):Int)*1=lo:="s"
  have h:(((a-lo).toNat:Nat):Int)-((0:Nat):Int)=Builtin.Range.rangeSize lo a 1:=by rw[rangeSize_one];split<;>lia
  show IsRangeIter _ _ (lo+((0:Nat):Int)*1) ((((a-lo).toNat:Nat):Int)-((0:Nat):Int)) 1;rw[g,h];exact Xf _ rfl
 .have e:b=(s.heap.push { cls:=.type "range",data:=.fields #[.int lo t,.int a u,.int 1 v] }).objs.size:=by simpa using l
  subst e;exact c.fpOk (XW _) (c.hok.fresh (XW _))
def zpu (b:TA):TI:=fun d H R=>b d H λc a=>∃j:Int,c=[.int j]/\-(2^62)<=j/\j<2^62/\R (Itr 0 j.toNat) a
def zrK (b:TA):TI:=fun d H R=>b d H λc a=>∃i j:Int,c=[.int i,.int j]/\(-(2^62)<=i/\i<2^62/\-(2^62)<=j/\j<2^62)/\R (Itr i (j-i).toNat) a
def zeC {a:Expr}{c:TA}{p pos:Pos}(i:Gl X "range")(l:X.mg "range"=none)(g:PA X [a] c)(m:WO [a] X.env=[(false,eval a X.env)]:=by rfl):PI X tg (.Call (.Name "range" p) [a] [] pos) (zpu c):=by
 intro f s v H R I h;refine Call_ (Qv I i l boot_range (VY (thn (g pos f s v H _ I h) λx s1 ⟨y,w,d,o,b⟩=>?_) m rfl));obtain⟨j,e,b,n,q⟩:=b;subst e;cases o with
 | cons r u =>
  cases u;obtain⟨t,rfl⟩:=r;exact call_range_1 (zgL d "a" "a" b n ↑q)
def zaa {a b:Expr}{g:TA}{p pos:Pos}(o:Gl X "range")(u:X.mg "range"=none)(n:PA X [a,b] g)(v:WO [a,b] X.env=[(false,eval a X.env),(false,eval b X.env)]:=by rfl)(c:WO [b] X.env=[(false,eval b X.env)]:=by rfl) :
  PI X tg (.Call (.Name "range" p) [a,b] [] pos) (zrK g):=by
 intro m s B H R I h;refine Call_ (Qv I o u boot_range (VY (thn (n pos m s B H _ I h) λG s1 ⟨J,D,l,A,d⟩=>?_) (by rw[v,c]) (by rw[c];rfl)));obtain⟨i,j,e,⟨d,w,x,y⟩,q⟩:=d;subst e;cases A with
 | cons r f =>
  cases f with
  | cons z f =>
   cases f;obtain⟨t,rfl⟩:=r;obtain⟨E,rfl⟩:=z;exact call_range_2 (zgL l d w x y q)
def zsU (l:TI)(g:TG)(j:TS):TS:=λD a H=>l a H λJ f=>∃W:Nat->Nat->St->Hp->Prop,(∃m,W 0 m a f)/\∀i m a H,W i m a H ->
 (J.stop i H/\D.nx a H)\/(J.go i H/\∃N:St->Hp->Prop,(∀ c b,N c b->∃e,e<m/\W (i+1) e c b)/\∀x b,J.yld i H x b->g x a b fun d h=>j { D with nx:=N,ct:=N,bk:=D.nx } d h)
def zc3 (fp:List Addr)(h:Heap):List (Addr×Obj):=fp.filterMap λb=>(h.get? b).map λo=>(b,o)
def YT {fp:List Addr}{h:Heap}{b:Addr}{o:Obj}(a:b∈fp)(e:h.get? b=some o):(b,o)∈zc3 fp h:=Td.mpr ⟨b,a,by rw[e];rfl⟩
def zkC {fp:List Addr}{h:Heap}{p:Addr×Obj}(d:p∈zc3 fp h):p.1∈fp/\h.get? p.1=some p.2:=by
 obtain⟨b,c,e⟩:=Td.mp d;cases q:h.get? b with
 | none=>rw[q]at e;cases e
 | some o =>
  rw[q]at e;have a:(b,o)=p:=Option.some.inj e;subst a;exact⟨c,q⟩
def Inv.pinned {a:List (Addr×Obj)}{g:St}{H:Hp}{s:X8}{fp:List Addr}(I:Inv X a g H s)(l:∀b∈fp,zbe X a H b)(m:∀b∈fp,∃o,s.heap.get? b=some o/\∀v,o.data ≠ .cell v):Inv X (a++zc3 fp s.heap) g H s :=
 I.pins_of λp n=>(XU.mp n).elim (λz=>I.pin p (Xx _ z)) λz=>by
  obtain⟨f,e⟩:=zkC z;refine fO (λh i j _=>?_) (l p.1 f);obtain⟨o,c,d⟩:=m p.1 f;rw[e]at c;cases c;exact⟨e,h,i,j,d⟩
def Inv.unpinned {a d:List (Addr×Obj)}{b:St}{H:Hp}{s:X8}(I:Inv X (a++d) b H s):Inv X a b H s:=I.pins_of λp c=>I.pin p (Xx _ (Xq _ c))
def qu {p:Expr}{E:List Stmt}{wi:TI}{g:TG}{tb:TS}{pos:Pos}(U:PassesOwn (Xn X.prog X.w) X.A X.env X.xe)(hc:X.calm=true)(hi:PI X tg p wi)(hg:PG X tg g)(l:PSs X E tb)
  (hs:∀x,VO p X.env x=pure x:=by intro _;rfl):PS X (.For tg p E [] pos) (zsU wi g tb):=by
 intro L s σ H D I h;refine wpAny_For (thn (hi L s σ H _ I h) λv s1 h1=>thn h1 λai s2 h2=>?_) hs;obtain⟨it,O,tn,J,H2,e,I2,T,ag,f2,W,⟨m0,w0⟩,ac⟩:=h2;subst e;have q:∀{B:Hp},(∀b∈O,B b=none)->∀b∈O,zbe X L B b:=λhn b l=>⟨hn b l,(f2 b l).2⟩;refine codeAny_forLoop_any (λn s'=>∃i y B,Inv X L y B s'/\tn i s'.heap/\(∀b∈O,B b=none)/\W i n y B) ?_ m0 ⟨0,σ,H2,I2,ag,λb l=>(f2 b l).1,w0⟩;refine λn s3=>fD λi z H3 I3 aa Q w3=>?_;rcases ac i n z H3 w3 with ⟨ab,qn⟩ | ⟨go,N,hN,step⟩
 .refine UK U (thn (T.done X rfl rfl rfl hc i L s3 z H3 X.xe I3 (q Q) aa ab) λr s4 ⟨hr,I4⟩=>?_);subst hr;exact Tk ⟨z,H3,I4,qn⟩
 .refine UK U (thn (T.item X rfl rfl rfl hc i L s3 z H3 X.xe I3 (q Q) aa go) λr s4 ⟨u,hr,h4⟩=>?_);subst hr;refine UK U (thn h4 λ_ s5 ⟨x,H5,I5,r5,y5,M,af⟩=>?_);have ae:=I5.pinned (q af) (T.obj _ _ M);refine UK U (thn (hg _ s5 z H5 x u _ ae r5 (step x H5 y5)) λ_ s6 ⟨ah,H6,I6,q6⟩=>?_);refine UK U (thn (l _ s6 ah H6 _ I6 q6) λf s7 G=>?_);have Ob:∀{a:St} {c:Hp},Inv X (L++zc3 O s5.heap) a c s7->N a c->∃m,m<n/\∃i y B,Inv X L y B s7/\tn i s7.heap/\(∀b∈O,B b=none)/\W i m y B:=λ{a c} j Y=>by
   obtain⟨m',hm,w7⟩:=hN a c Y;refine dG m' hm (dF (i+1) a c j.unpinned (T.keep _ _ _ M λb l o e=>(j.pin (b,o) (Xx _ (Xx _ (YT l e)))).1) (λb l=>?_) w7);obtain⟨o,e,d⟩:=T.obj _ _ M b l;exact(j.pin (b,o) (Xx _ (Xx _ (YT l e)))).2.1
  cases f with
  | next=>revert G;refine fK λa c j Y=>?_;exact Ob j Y
  | cont=>revert G;refine fK λa c j Y=>?_;exact Ob j Y
  | brk=>revert G;refine fK λa c j G=>?_;exact⟨a,c,j.unpinned,G⟩
  | ret v=>revert G;refine fP λx7 a c j r7 G=>?_;exact⟨x7,a,c,j.unpinned,r7,G⟩
end
def Ji {K:X0}{a:Addr}{xs:AF}{g:TG}{n:TS}{D:Ends}{b:St}{H:Hp}(Pv:Nat->St->Hp->Prop)(h0:Pv 0 b H)(s:∀i b H,i<=xs.length->Pv i b H->SqL K H a xs)
  (u:∀i x b H,xs[i]?=some x->Pv i b H->g x b H fun f j=>n { D with nx:=Pv (i+1),ct:=Pv (i+1),bk:=D.nx } f j) (o:∀ b H,Pv xs.length b H->D.nx b H) :
  ∃W:Nat->Nat->St->Hp->Prop,(∃m,W 0 m b H)/\∀i m b H,W i m b H ->
   ((Itl K a).stop i H/\D.nx b H)\/((Itl K a).go i H/\∃N:St->Hp->Prop,(∀ d c,N d c->∃l,l<m/\W (i+1) l d c)/\∀x c,(Itl K a).yld i H x c->g x b c fun f j=>n { D with nx:=N,ct:=N,bk:=D.nx } f j):=by
 refine⟨λi m b H=>m=xs.length-i/\i<=xs.length/\Pv i b H,⟨xs.length,"s",W2 _,h0⟩,?_⟩;rintro i m b H ⟨rfl,r,p⟩;have q:=s i b H r p;by_cases h:i<xs.length
 .refine .inr ⟨⟨xs,xs[i],q,by simp[h]⟩,Pv (i+1),fun d c v=>⟨xs.length-(i+1),"a",rfl,h,v⟩,λx c y=>?_⟩;obtain⟨e,y⟩:=y;subst e;exact u i x b _ (y xs q) p
 .have e:i=xs.length:="a"
  subst e;exact .inl ⟨⟨xs,q,XW _⟩,o b H p⟩
def qF {lo:Int}{n:Nat}{g:TG}{l:TS}{D:Ends}{a:St}{H:Hp}(Pv:Nat->St->Hp->Prop)(h0:Pv 0 a H)
  (q:∀i a H,i<n->Pv i a H->g (.int (lo+i)) a H fun f h=>l { D with nx:=Pv (i+1),ct:=Pv (i+1),bk:=D.nx } f h) (o:∀ a H,Pv n a H->D.nx a H) :
  ∃W:Nat->Nat->St->Hp->Prop,(∃m,W 0 m a H)/\∀i m a H,W i m a H ->
   ((Itr lo n).stop i H/\D.nx a H)\/((Itr lo n).go i H/\∃N:St->Hp->Prop,(∀ d b,N d b->∃j,j<m/\W (i+1) j d b)/\∀x b,(Itr lo n).yld i H x b->g x a b fun f h=>l { D with nx:=N,ct:=N,bk:=D.nx } f h):=by
 refine⟨λi m a H=>m=n-i/\i<=n/\Pv i a H,⟨n,"s",W2 _,h0⟩,?_⟩;rintro i m a H ⟨rfl,s,p⟩;by_cases c:i<n
 .refine .inr ⟨c,Pv (i+1),fun d b r=>⟨n-(i+1),"a",rfl,c,r⟩,λx b y=>?_⟩;obtain⟨e,y⟩:=y;subst e y;exact q i a _ c p
 .have e:i=n:="a"
  subst e;exact .inl ⟨XW _,o a H p⟩
abbrev R2:=V->V->Hp->VK->Prop
def OpR (X:Cx)(f:Y1->Y1->Sem Y1)(r:R2):Prop :=
 ∀(a:List (Addr×Obj)) (s:X8) (b:St) (H:Hp) (x y:V) (v u:Y1) (Q:VK),Inv X a b H s->RelV x v->RelV y u->r x y H Q ->
  Xh (Xn X.prog X.w) X.A (f v u) (EP X a b Q) X.xe s
def UnR (X:Cx)(f:Y1->Sem Y1)(r:V->Hp->VK->Prop):Prop :=
 ∀(a:List (Addr×Obj)) (s:X8) (b:St) (H:Hp) (x:V) (v:Y1) (Q:VK),Inv X a b H s->RelV x v->r x H Q ->
  Xh (Xn X.prog X.w) X.A (f v) (EP X a b Q) X.xe s
def jm (X:Cx)(f:Y1)(r:AF->Hp->VK->Prop):Prop :=
 ∀(a:List (Addr×Obj)) (s:X8) (d:St) (H:Hp) (c:AF) (b:List Y1) (Q:VK),Inv X a d H s->Vals c b->r c H Q ->
  Xh (Xn X.prog X.w) X.A (call f b) (EP X a d Q) X.xe s
def zsV (X:Cx)(r:V->Hp->(Bool->Hp->Prop)->Prop):Prop :=
 ∀(a:List (Addr×Obj)) (s:X8) (b:St) (H:Hp) (x:V) (v:Y1) (Q:Bool->Hp->Prop),Inv X a b H s->RelV x v->r x H Q ->
  Xh (Xn X.prog X.w) X.A (truthy v) (TP X a b Q) X.xe s
def tOp (r:R2)(d e:TE):TE:=fun a H Q=>d a H λx b=>e a b λy c=>r x y c Q
def tUn (r:V->Hp->VK->Prop)(b:TE):TE:=fun c H Q=>b c H λx a=>r x a Q
def rI (C:Int->Int->Prop)(g:Int->Int->V):R2:=λx y H Q=>∃i j,x=.int i/\y=.int j/\C i j/\Q (g i j) H
def rI0 (g:Int->Int->V):R2:=λx y H Q=>∃i j,x=.int i/\y=.int j/\Q (g i j) H
def rU (g:Int->V):V->Hp->VK->Prop:=λx H Q=>∃i,x=.int i/\Q (g i) H
section
variable {X:Cx}{a b c:Expr}{ta tb tc:TE}{pos:Pos}
def zqa (o:PE X a ta)(p:PE X b tb){i:List (Addr×Obj)}{s:X8}{d:St}{H:Hp}{R:V->V->Hp->Prop}(I:Inv X i d H s)
  (h:ta d H λx l=>tb d l λy c=>R x y c) {Q:Y1->X8->Prop} {f:Y1->Y1->Sem Y1}
  (q:∀v u j x y c,Inv X i d c j->RelV x v->RelV y u->R x y c->Xh (Xn X.prog X.w) X.A (f v u) Q X.xe j) :
  Xh (Xn X.prog X.w) X.A (eval a X.env) (λv e=>Xh (Xn X.prog X.w) X.A (eval b X.env) (λu g=>Xh (Xn X.prog X.w) X.A (f v u) Q X.xe g) X.xe e) X.xe s:=by
 refine thn (o i s d H _ I h) λv s1 ⟨x,l,m,B,r⟩=>?_;refine thn (p i s1 d l _ m r) λu j ⟨y,c,n,D,z⟩=>?_;exact q v u j x y c n B D z
def zu {op:Operator}{r:R2}(i:OpR X (Uv op) r)(f:PE X a ta)(g:PE X b tb):PE X (.BinOp a op b pos) (tOp r ta tb):=by
 intro e s n H Q I h;exact wpAny_BinOp (zqa f g I h λv u m x y c d j l q=>i e m n c x y v u Q d j l q)
def zpv {op:UnaryOp}{r:V->Hp->VK->Prop}(g:UnR X (unaryOp op) r)(f:PE X a ta):PE X (.UnaryOp op a pos) (tUn r ta):=by
 intro b s c H Q I h;exact UnaryOp_ (thn (f b s c H _ I h) λv s1 ⟨x,d,e,j,i⟩=>g b s1 c d x v Q e j i)
def opI {f:Y1->Y1->Sem Y1}{C:Int->Int->Prop}{g:Int->Int->Int}
  (rule:∀(i j:Int) (t u:Tok) (s:X8) (Q:Y1->X8->Prop) (E:Y1->X8->Prop),C i j->Q (.int (g i j) s.toks) { s with toks:=s.toks+1 }->Xh (Xn X.prog X.w) X.A (f (.int i t) (.int j u)) Q E s) :
  OpR X f (rI C λi j=>.int (g i j)):=by
 intro e s l H x y v u Q I b c h;revert h;refine fm λi j z0 z1 a q=>?_;subst z0 z1;obtain⟨t,rfl⟩:=b;obtain⟨d,rfl⟩:=c;exact rule i j t d s _ _ a ⟨.int (g i j),H,I.tok _,⟨_,rfl⟩,q⟩
def zrL {f:Y1->Y1->Sem Y1}{g:Int->Int->Int}
  (rule:∀(i j:Int) (t u:Tok) (s:X8) (Q:Y1->X8->Prop) (E:Y1->X8->Prop),Q (.int (g i j) s.toks) { s with toks:=s.toks+1 }->Xh (Xn X.prog X.w) X.A (f (.int i t) (.int j u)) Q E s) :
  OpR X f (rI0 λi j=>.int (g i j)):=by
 intro d s e H x y v u Q I a b h;revert h;refine fy λi j z0 z1 q=>?_;subst z0 z1;obtain⟨t,rfl⟩:=a;obtain⟨c,rfl⟩:=b;exact rule i j t c s _ _ ⟨.int (g i j),H,I.tok _,⟨_,rfl⟩,q⟩
def zqb {f:Y1->Y1->Sem Y1}{g:Int->Int->Bool}
  (rule:∀(i j:Int) (t u:Tok) (s:X8) (Q:Y1->X8->Prop) (E:Y1->X8->Prop),Q (.bool (g i j)) s->Xh (Xn X.prog X.w) X.A (f (.int i t) (.int j u)) Q E s) :
  OpR X f (rI0 λi j=>.bl (g i j)):=by
 intro d s e H x y v u Q I a b h;revert h;refine fy λi j z0 z1 q=>?_;subst z0 z1;obtain⟨t,rfl⟩:=a;obtain⟨c,rfl⟩:=b;exact rule i j t c s _ _ ⟨.bl (g i j),H,I,rfl,q⟩
def zsW (i j:Int):Prop:=0<j/\j<1073741824
def zih:OpR X (Uv .Add) (rI0 λi j=>.int (i+j)):=zrL λ_ _ _ _ _ _ _ q=>add_int q
def zqc:OpR X (Uv .Sub) (rI0 λi j=>.int (i-j)):=zrL λ_ _ _ _ _ _ _ q=>sub_int q
def zqd:OpR X (Uv .Mod) (rI (λ_ j=>0<j) λi j=>.int (i%j)):=opI λi j _ _ _ _ _ a q=>by
 have h1:(0:Int)<j:=a;exact mod_int' "a" (by rw[RM i "a"];exact q)
def unI {f:Y1->Sem Y1}{g:Int->Int}
  (rule:∀(i:Int) (t:Tok) (s:X8) (Q:Y1->X8->Prop) (E:Y1->X8->Prop),Q (.int (g i) s.toks) { s with toks:=s.toks+1 }->Xh (Xn X.prog X.w) X.A (f (.int i t)) Q E s) :
  UnR X f (rU λi=>.int (g i)):=by
 intro b s c H x v Q I a h;obtain⟨i,rfl,q⟩:=h;obtain⟨t,rfl⟩:=a;exact rule i t s _ _ ⟨.int (g i),H,I.tok _,⟨_,rfl⟩,q⟩
def zlM:UnR X (unaryOp .USub) (rU λi=>.int (-i)):=unI λ_ _ _ _ _ q=>neg_int q
def zrM:V->V->Bool
 | .non,.non=>true | .non,.int _=>true | .int _,.non=>true | .non,.bl _=>true | .bl _,.non=>true | .non,.str _=>true | .str _,.non=>true
 | .int _,.int _=>true | .bl _,.bl _=>true | .str _,.str _=>true | .byt _,.byt _=>true
 | .int _,.str _=>true | .str _,.int _=>true | .bl _,.str _=>true | .str _,.bl _=>true
 | _,_=>false
def rEq:R2:=λx y H Q=>zrM x y=true/\Q (.bl (decide (x=y))) H
def rNe:R2:=λx y H Q=>zrM x y=true/\Q (.bl (!decide (x=y))) H
def ZC {i j:Int}:decide (V.int i=V.int j)=(i==j):=by
 rw[W7];simp
def zlN {i j:Bool}:decide (V.bl i=V.bl j)=(i==j):=by
 rw[W7];simp
def zjE {i j:Str}:decide (V.str i=V.str j)=(i==j):=by
 rw[W7];simp
def zjF {i j:Array UInt8}:decide (V.byt i=V.byt j)=(i.toList==j.toList):=by
 rw[W7];cases i;cases j;simp
def qm {a:List (Addr×Obj)}{c:St}{H:Hp}{s:X8}{Q:VK}{k b:Bool}(I:Inv X a c H s)(q:Q (.bl k) H)(e:k=b):EP X a c Q (.bool b) s:=by
 subst e;exact⟨.bl k,H,I,rfl,q⟩
def j6:OpR X (Wf .Eq) rEq:=by
 intro e s f H x y v u Q I d a h;obtain⟨c,q⟩:=h;cases x with
 | non =>
  cases d;cases y with
  | non=>cases a;exact PySem.EqNone.eq_none_none (qm I q "s")
  | bl j=>cases a;exact PySem.EqNone.eq_none_bool (qm I q "s")
  | int j=>obtain⟨b,rfl⟩:=a;exact PySem.EqNone.eq_none_int (qm I q "s")
  | str j=>obtain⟨b,rfl⟩:=a;exact PySem.EqNone.eq_none_str (qm I q "s")
  | _=>exact absurd (show false=true from c) XM
 | bl i =>
  cases d;cases y with
  | non=>cases a;exact PySem.EqNone.eq_bool_none (qm I q "s")
  | bl j=>cases a;exact eq_bool (qm I q zlN)
  | str j=>obtain⟨b,rfl⟩:=a;exact PySem.EqMixed.eq_bool_str (qm I q "s")
  | _=>exact absurd (show false=true from c) XM
 | int i =>
  obtain⟨t,rfl⟩:=d;cases y with
  | non=>cases a;exact PySem.EqNone.eq_int_none (qm I q "s")
  | int j=>obtain⟨b,rfl⟩:=a;exact eq_int (qm I q ZC)
  | str j=>obtain⟨b,rfl⟩:=a;exact PySem.EqMixed.eq_int_str (qm I q "s")
  | _=>exact absurd (show false=true from c) XM
 | str i =>
  obtain⟨t,rfl⟩:=d;cases y with
  | non=>cases a;exact PySem.EqNone.eq_str_none (qm I q "s")
  | bl j=>cases a;exact PySem.EqMixed.eq_str_bool (qm I q "s")
  | int j=>obtain⟨b,rfl⟩:=a;exact PySem.EqMixed.eq_str_int (qm I q "s")
  | str j=>obtain⟨b,rfl⟩:=a;exact eq_str (qm I q zjE)
  | _=>exact absurd (show false=true from c) XM
 | byt i =>
  obtain⟨t,rfl⟩:=d;cases y with
  | byt j=>obtain⟨b,rfl⟩:=a;exact PySem.W.eq_bytes (qm I q zjF)
  | _=>exact absurd (show false=true from c) XM
 | _=>cases y<;>exact absurd (show false=true from c) XM
def Jj:OpR X (Wf .NotEq) rNe:=by
 intro e s f H x y v u Q I d a h;obtain⟨c,q⟩:=h;cases x with
 | non =>
  cases d;cases y with
  | non=>cases a;exact PySem.EqNone.ne_none_none (qm I q "s")
  | bl j=>cases a;exact PySem.EqNone.ne_none_bool (qm I q "s")
  | int j=>obtain⟨b,rfl⟩:=a;exact PySem.EqNone.ne_none_int (qm I q "s")
  | str j=>obtain⟨b,rfl⟩:=a;exact PySem.EqNone.ne_none_str (qm I q "s")
  | _=>exact absurd (show false=true from c) XM
 | bl i =>
  cases d;cases y with
  | non=>cases a;exact PySem.EqNone.ne_bool_none (qm I q "s")
  | bl j=>cases a;exact ne_bool (qm I q (congrArg not zlN))
  | str j=>obtain⟨b,rfl⟩:=a;exact PySem.EqMixed.ne_bool_str (qm I q "s")
  | _=>exact absurd (show false=true from c) XM
 | int i =>
  obtain⟨t,rfl⟩:=d;cases y with
  | non=>cases a;exact PySem.EqNone.ne_int_none (qm I q "s")
  | int j=>obtain⟨b,rfl⟩:=a;exact ne_int (qm I q (congrArg not ZC))
  | str j=>obtain⟨b,rfl⟩:=a;exact PySem.EqMixed.ne_int_str (qm I q "s")
  | _=>exact absurd (show false=true from c) XM
 | str i =>
  obtain⟨t,rfl⟩:=d;cases y with
  | non=>cases a;exact PySem.EqNone.ne_str_none (qm I q "s")
  | bl j=>cases a;exact PySem.EqMixed.ne_str_bool (qm I q "s")
  | int j=>obtain⟨b,rfl⟩:=a;exact PySem.EqMixed.ne_str_int (qm I q "s")
  | str j=>obtain⟨b,rfl⟩:=a;exact ne_str (qm I q (congrArg not zjE))
  | _=>exact absurd (show false=true from c) XM
 | byt i =>
  obtain⟨t,rfl⟩:=d;cases y with
  | byt j=>obtain⟨b,rfl⟩:=a;exact PySem.W.ne_bytes (qm I q (congrArg not zjF))
  | _=>exact absurd (show false=true from c) XM
 | _=>cases y<;>exact absurd (show false=true from c) XM
def zrN:OpR X (Wf .Lt) (rI0 λi j=>.bl (decide (i<j))):=zqb λ_ _ _ _ _ _ _ q=>lt_int q
def zrO:OpR X (Wf .LtE) (rI0 λi j=>.bl (decide (i<=j))):=zqb λ_ _ _ _ _ _ _ q=>le_int q
def zrP:OpR X (Wf .Gt) (rI0 λi j=>.bl (decide (j<i))):=zqb λ_ _ _ _ _ _ _ q=>gt_int q
def zii:OpR X (Wf .Is) (λx y H Q=>y=.non/\Q (.bl (decide (x=.non))) H):=by
 intro c s d H x y v u Q I a b h;obtain⟨rfl,q⟩:=h;cases b;refine is_none_gen (qm I q ?_);cases x<;>first
  | (cases a;rfl)
  | (obtain⟨t,rfl⟩:=a;rfl)
def zjG:OpR X (Wf .IsNot) (λx y H Q=>y=.non/\Q (.bl (!decide (x=.non))) H):=by
 intro c s d H x y v u Q I a b h;obtain⟨rfl,q⟩:=h;cases b;refine isnot_none_gen (qm I q ?_);cases x<;>first
  | (cases a;rfl)
  | (obtain⟨t,rfl⟩:=a;rfl)
def zG (b:Expr){op:NX}(h:op ≠ .In:=by decide)(h2:op ≠ .NotIn:=by decide):Tp op b=false:=by
 have a:(op==CmpOp.In)=false:=by cases op<;>first | rfl | exact absurd rfl h
 have c:(op==CmpOp.NotIn)=false:=by cases op<;>first | rfl | exact absurd rfl h2
 cases b<;>simp[Tp,a,c]
def jB {op:NX}{r:R2}(j:OpR X (Wf op) r)(f:PE X a ta)(g:PE X b tb)(i:Tp op b=false):PE X (.Compare a [op] [b] pos) (tOp r ta tb):=by
 intro e s o H Q I h;exact wpAny_Compare1 (zqa f g I h λv u n x y c d l m q=>j e n o c x y v u Q d l m q) i
def zpw (t:TE):TT:=fun b H Q=>t b H λx a=>∃k,x=.bl k/\Q k a
def zcK {op:NX}{r:R2}(q:OpR X (Wf op) r)(n:PE X a ta)(o:PE X b tb)(p:Tp op b=false):PT X (.Compare a [op] [b] pos) (zpw (tOp r ta tb)):=by
 intro d s f H Q I h;refine SJ (thn (n d s f H _ I h) λv s1 ⟨x,g,l,D,w⟩=>thn (o d s1 f g _ l w) λu J ⟨y,i,m,E,A⟩ =>
  thn (q d J f i x y v u _ m D E A) λc L ⟨z,j,I3,G,k,e,B⟩=>?_) p
 subst e;cases G;exact V7 ⟨j,I3,B⟩
def zqe (r f:R2)(ta tb tc:TE):TE:=fun a H Q=>ta a H λx c=>tb a c λy d=>r x y d λz b=>∃k,z=.bl k /\
 (if k=true then tc a b λg e=>f y g e Q else Q (.bl false) b)
def zgM {op f:NX}{r n:R2}(Y:OpR X (Wf op) r)(j:OpR X (Wf f) n)(M:PE X a ta)(N:PE X b tb)(O:PE X c tc)
  (U:lastMarks [op,f] [b,c]=false:=by with_unfolding_all rfl):PT X (.Compare a [op,f] [b,c] pos) (zpw (zqe r n ta tb tc)):=by
 intro g s i H Q I h;refine isTrue_chain (thn (M g s i H _ I h) λv s1 ⟨x,p,B,r1,q1⟩=>test_link (thn (N g s1 i p _ B q1) λu s2 ⟨y,q,D,o,q2⟩ =>
  thn (Y g s2 i q x y v u _ D r1 o q2) λd s3 ⟨z,l,I3,r3,k,e,m⟩=>?_)) U
 subst e;cases r3;refine V7 ?_;cases k with
 | false =>
  obtain⟨k',J,q'⟩:=m;cases J;exact ite_ff ⟨l,I3,q'⟩
 | true =>
  refine ite_tt (test_last (thn (O g s3 i l _ I3 m) λw' s4 ⟨z',w,E,r4,q4⟩=>thn (j g s4 i w y z' u w' _ E o r4 q4) λd' s5 ⟨z2,A,G,r5,k2,L,q5⟩=>?_));subst L;cases r5;exact V7 ⟨A,G,q5⟩
def zqf (K:X0)(x:V)(H:Hp)(k:Bool):Prop :=
 match x with
 | .non=>k=false
 | .bl b=>k=b
 | .int i=>k=(i != 0)
 | .str y=>y.length<=Xy/\k=((y.length:Int) != 0)
 | .byt y=>y.size<=Xy/\k=((y.size:Int) != 0)
 | .ref p=>(∃c,SqL K H p c/\k=!c.isEmpty)\/(∃c,SqT K H p c/\k=!c.isEmpty)\/∃a,H p=some (.dK a)/\k=!a.isEmpty
 | _=>False
def zij {b:Type}{a:List (b × V)}{vs:List (b × Y1)}(r:KV a vs):(!vs.isEmpty)=!a.isEmpty:=by
 cases r<;>rfl
def zc4 {xs:AF}{a:List Y1}(r:Vals xs a):(!a.toArray.isEmpty)=!xs.isEmpty:=by
 cases r<;>simp
def Qw:(Xy:Nat)<2^63:=by rw[Um];decide
def zqg:zsV X (λx H Q=>∃k,zqf X.K x H k/\Q k H):=by
 intro B s G H x v Q I g h;obtain⟨k,e,q⟩:=h;have D:=Qw;have E:Xy=16777216:=Um;cases x with
 | non =>
  cases g;have a:k=false:=e;subst a;exact truthy_none ⟨H,I,q⟩
 | bl b =>
  cases g;have a:k=b:=e;subst a;exact V7 ⟨H,I,q⟩
 | int i =>
  obtain⟨t,rfl⟩:=g;have a:k=(i != 0):=e;subst a;exact PySem.P.truthy_int ⟨H,I,q⟩
 | str y =>
  obtain⟨t,rfl⟩:=g;obtain⟨A,a⟩:y.length<=Xy/\k=((y.length:Int) != 0):=e;subst a;exact PySem.P.truthy_str "a" ⟨H,I.tok _,q⟩
 | byt y =>
  obtain⟨t,rfl⟩:=g;obtain⟨A,a⟩:y.size<=Xy/\k=((y.size:Int) != 0):=e;subst a;exact PySem.W.truthy_bytes "a" ⟨H,I.tok _,q⟩
 | ref p =>
  cases g;have a:(∃f,SqL X.K H p f/\k=!f.isEmpty)\/(∃f,SqT X.K H p f/\k=!f.isEmpty)\/∃c,H p=some (.dK c)/\k=!c.isEmpty:=e;rcases a with ⟨f,j,a⟩ | ⟨f,j,a⟩ | ⟨c,j,a⟩
  .subst a;obtain⟨n,r,o,u⟩:=I.list j;have d:=r.length;exact wpAny_truthy_list o.isList (by simp only[Xr];lia) ⟨H,I.tok _,by rw[zc4 r];exact q⟩
  .subst a;obtain⟨n,r,o,u⟩:=I.tuple j;have d:=r.length;exact truthy_tuple o (by simp only[Xr];lia) ⟨H,I.tok _,by rw[zc4 r];exact q⟩
  .subst a;obtain⟨u,z,l,r,m⟩:c.length<=Xy/\(p==Ui)=false/\∃l,KV c l/\s.heap.DictOf (zK X.prog X.w) p l:=I.hok p _ j;have d:c.length=l.length:=Paired.length r;exact wpAny_truthy_dict z m "a" ⟨H,I.tok _,by rw[zij r];exact q⟩
 | _=>exact(show False from e).elim
def yU (g:PE X a ta)(he:∀whole,isTrue a X.env whole=(do let v <- whole;standAt a.pos;Ou [v] (truthy v))) :
  PT X a (fun b H Q=>ta b H λx c=>∃k,zqf X.K x c k/\Q k c):=by
 intro d s b H Q I h;exact isTrue_plain (thn (g d s b H _ I h) λv s1 ⟨x,e,f,j,i⟩=>zqg d s1 b e x v Q f j i) (he _)
def zik:OpR X (Uv .Add) (λx y H Q=>∃i j,x=.str i/\y=.str j/\i.length+j.length<=Xy/\Q (.str (i++j)) H):=by
 intro e s g H x y v u Q I b c h;revert h;refine fm λi j z0 z1 a q=>?_;subst z0 z1;obtain⟨t,rfl⟩:=b;obtain⟨d,rfl⟩:=c;exact add_str (λd f=>⟨.str (i++j),H,I.tok _,⟨_,rfl⟩,q⟩) a
def vals1 {x:V}{a:List Y1}(r:Vals [x] a):∃u,a=[u]/\RelV x u:=by
 cases r with
 | cons b c=>cases c;exact⟨_,rfl,b⟩
def vals2 {x y:V}{a:List Y1}(r:Vals [x,y] a):∃u b,a=[u,b]/\RelV x u/\RelV y b:=by
 cases r with
 | cons c d =>
  cases d with
  | cons e f=>cases f;exact⟨_,_,rfl,c,e⟩
def Yb (b:X.calm=true):jm X (.builtin "max") (λxs H Q=>∃i j,xs=[.int i,.int j]/\Q (.int (if j>i then j else i)) H):=by
 intro c s m H xs g Q I r h;obtain⟨i,j,rfl,q⟩:=h;obtain⟨u,l,rfl,⟨t,rfl⟩,⟨e,rfl⟩⟩:=vals2 r;refine max_two_ints (I.ok.hd b) λd f k=>⟨_,H,I.kept k,?_,q⟩;by_cases a:j>i
 .rw[bw a,bw a];exact⟨_,rfl⟩
 .rw[bq a,bq a];exact⟨_,rfl⟩
def Yc (b:X.calm=true):jm X (.builtin "min") (λxs H Q=>∃i j,xs=[.int i,.int j]/\Q (.int (if j<i then j else i)) H):=by
 intro c s m H xs g Q I r h;obtain⟨i,j,rfl,q⟩:=h;obtain⟨u,l,rfl,⟨t,rfl⟩,⟨e,rfl⟩⟩:=vals2 r;refine min_two_ints (I.ok.hd b) λd f k=>⟨_,H,I.kept k,?_,q⟩;by_cases a:j<i
 .rw[bw a,bw a];exact⟨_,rfl⟩
 .rw[bq a,bq a];exact⟨_,rfl⟩
def zeD:jm X (.type "int") (λxs H Q=>(∃i,xs=[.int i]/\Q (.int i) H)\/∃k,xs=[.bl k]/\Q (.int (if k then 1 else 0)) H):=by
 intro b s d H xs c Q I r h;rcases h with ⟨i,rfl,q⟩ | ⟨k,rfl,q⟩
 .obtain⟨u,rfl,t,rfl⟩:=vals1 r;exact call_int_int ⟨.int i,H,I,⟨_,rfl⟩,q⟩
 .obtain⟨u,rfl,a⟩:=vals1 r;cases a;exact call_int_bool ⟨.int (if k then 1 else 0),H,I.tok _,⟨_,rfl⟩,q⟩
def zbf:jm X (.type "str") (λxs H Q=>∃i,xs=[.int i]/\i.natAbs.log2<1920/\Q (.str (toString i)) H):=by
 intro b s d H xs c Q I r h;obtain⟨i,rfl,a,q⟩:=h;obtain⟨u,rfl,t,rfl⟩:=vals1 r;exact PySem.P.str_of_int a ⟨.str _,H,I.tok _,⟨_,rfl⟩,q⟩
def Qx:jm X (.builtin "divmod") (λxs H Q=>∃i j,xs=[.int i,.int j]/\zsW i j/\∀p,H p=none->Q (.ref p) (upd H p (.tup [.int (i/j),.int (i%j)]))):=by
 intro c s l H xs f Q I r h;obtain⟨i,j,rfl,⟨h1,h2⟩,q⟩:=h;obtain⟨u,g,rfl,⟨t,rfl⟩,⟨d,rfl⟩⟩:=vals2 r;refine divmod_int "a" ?_ (.inl (PyProof.noPylong_small "a"));rw[RL i "a",RM i "a"];have a:H s.heap.objs.size=none:=I.hok.fresh (XW _);refine⟨.ref s.heap.objs.size,_,?_,rfl,q _ a⟩;refine I.laid (λb o e=>X6 _ e) (XW _) ⟨by simp only[XA,UJ];rw[Um];decide,[.int (i/j) s.toks,.int (i%j) (s.toks+1)],.cons ⟨_,rfl⟩ (.cons ⟨_,rfl⟩ .nil),?_⟩;exact⟨_,Xf s.heap rfl,rfl,0,rfl⟩
end
structure zqh (h:Heap)(x dx C:Addr)(mA:Str->Option Y1):Prop where
 obj:h.get? x=some (Py C dx)
 ns:h.Ns1 dx mA
 ne:dx≠x
def zkD {h:Heap}{c:Addr}{f:Str->Option Y1}(n:h.Ns1 c f):∃g,h.get? c=some g/\∀name,Pc name g=some (f name):=by
 revert n;refine fC λo d r m j hk _ l=>?_;refine⟨o,m,λname=>?_⟩;have e:=l name;unfold nsFind findBy at e;rw[<- Array.find?_toList]at e;unfold Pc;rw[j];dsimp only;split
 .rename_i y q;rw[q]at e;exact congrArg some e
 .rename_i q;rw[q]at e;have a:d.toList.any (·.refKey)=false:=by
   rw[Rz];intro y p;obtain⟨z,t,b⟩:=hk y (Sk.mp p);simp[DictEntry.refKey,b]
  have i:¬ d.toList.any (·.refKey)=true:=by rw[a];exact XM
  rw[bq i];exact congrArg some e
def zqh.look {h:Heap}{x b C:Addr}{c:Str->Option Y1}(I:zqh h x b C c):∃a,PySem.W.InstAt h x (Py C b) C (some a)/\∀name,Pc name a=some (c name) :=
 let ⟨a,ho,hl⟩:=zkD I.ns
 ⟨a,⟨I.obj,rfl,rfl,ho⟩,hl⟩
def zc0.some_of {v:V}{o:Option Y1}(r:zc0 (some v) o):∃u,o=some u/\RelV v u:=by
 cases o with
 | none=>exact(show False from r).elim
 | some u=>exact⟨u,rfl,r⟩
section
variable {P:Xv}{w:W5}{H H':Hp}{h h':Heap}{a C dx:Addr}{fs fs':List (Str×V)}
def znZ (c:HOk P w H h)(e:H a=some (.ins C dx fs)):∃b,zqh h a dx C b/\(∀f,zc0 (fs.lookup f) (b f))/\PySem.Within b (fs.map (·.1))/\fs.length<=1000/\H dx=some (.own a):=by
 refine fN (λd z g ob=>fu λb n r q=>?_) (show qv P w H h a (.ins C dx fs) from c a _ e);exact⟨b,⟨ob,n,g⟩,r,q,z,d⟩
end
structure Cls (K:X0)(C:Addr):Prop where
 pg:PySem.W.plainGet K C Str.empty=true
 hd:PySem.W.hasDictIn K C=true
 po:PySem.W.plainOver K C=true
 sa:VM K (.ref C) "__setattr__"=some (some (.builtin "object.__setattr__"))
def Cls.get {K:X0}{C:Addr}(c:Cls K C)(f:Str):PySem.W.plainGet K C f=true:=c.pg
section
variable {X:Cx}{bQ:List (Addr×Obj)}{σ:St}{H:Hp}{s:X8}{A:WL}{E:Y1->X8->Prop}{Q:Y1->X8->Prop}{c:Y1}{b:Bool}
inductive zbO (K:X0)(H:Hp):V->Y1->Prop where
 | non:zbO K H .non (.type "NoneType")
 | bl (x:Bool):zbO K H (.bl x) (.type "bool")
 | int (i:Int):zbO K H (.int i) (.type "int")
 | str (x:Str):zbO K H (.str x) (.type "str")
 | flt (x:UInt64):zbO K H (.flt x) (.type "float")
 | lst {a:Addr} {xs:AF} (e:H a=some (.lst xs)):zbO K H (.ref a) (.type "list")
 | frz {a:Addr} {o:Obj} {xs:AF} (e:H a=some (.frz o (.lst xs))):zbO K H (.ref a) (.type "list")
 | tup {a:Addr} {xs:AF} (e:H a=some (.tup xs)):zbO K H (.ref a) (.type "tuple")
 | dK {a:Addr} {kvs:List (Key×V)} (e:H a=some (.dK kvs)):zbO K H (.ref a) (.type "dict")
 | dT {a:Addr} {kvs:List (List Key×V)} (e:H a=some (.dT kvs)):zbO K H (.ref a) (.type "dict")
 | ins {a C dx:Addr} {fs:List (Str×V)} (e:H a=some (.ins C dx fs)) (cl:Cls K C) (ha:VM K (.ref C) "__class__"=some (some (.builtin "object.__class__")))
   (hn:PySem.W.specialIn K (.builtin "object.__class__") "__get__"=some (some (.builtin "getset_descriptor.__get__"))) (htk:PySem.W.takesIn K (.builtin "object.__class__")=some true)
   (hm:VC K C (.type "object")=some true):zbO K H (.ref a) (.ref C)
def zkE {x:V}{u t:Y1}(I:Inv X bQ σ H s)(f:RelV x u)(ty:zbO X.K H x t)(e:Xa X.K t c=some b)(h:∀tk,Q (.bool b) { s with toks:=tk }) :
  Xh (Xn X.prog X.w) A (call (.builtin "isinstance") [u,c]) Q E s:=by
 cases ty with
 | non=>cases (show u=UD from f);exact V4 PySem.W.kitx_none I.kIn UU e (λz=>nomatch z) h
 | bl y=>cases (show u=Ti y from f);exact V4 PySem.W.kitx_bool I.kIn UU e (λz=>nomatch z) h
 | int i=>obtain⟨t,q⟩:=(show ∃t,u=Vs i t from f);cases q;exact V4 PySem.W.kitx_int I.kIn UU e (λz=>nomatch z) h
 | str y=>obtain⟨t,q⟩:=(show ∃t,u=Oe y t from f);cases q;exact V4 PySem.W.kitx_str I.kIn UU e (λz=>nomatch z) h
 | flt y=>obtain⟨t,q⟩:=(show ∃t,u=Value.float y t from f);cases q;exact V4 PySem.W.kitx_float I.kIn UU e (λz=>nomatch z) h
 | @lst a j d =>
  cases (show u=WF a from f);refine f9 (λ_ _ n _ h1=>?_) (show qv X.prog X.w H s.heap a (.lst j) from I.hok a _ d);exact V4 PySem.W.kitx_list I.kIn ⟨_,h1,rfl⟩ e (λz=>nomatch z) h
 | @frz a ob j d =>
  cases (show u=WF a from f);refine fL (λ_ _=>fK λ_ n _ h1=>?_) (show qv X.prog X.w H s.heap a (.frz ob (.lst j)) from I.hok a _ d);exact V4 PySem.W.kitx_list I.kIn ⟨_,h1,rfl⟩ e (λz=>nomatch z) h
 | @tup a j d =>
  cases (show u=WF a from f);obtain⟨_,_,_,p⟩:=(show qv X.prog X.w H s.heap a (.tup j) from I.hok a _ d);obtain⟨o,h1,h2,_⟩:=p;exact V4 PySem.W.kitx_tuple I.kIn ⟨o,h1,h2⟩ e (λz=>nomatch z) h
 | @dK a g d =>
  cases (show u=WF a from f);refine fH (λ_ _ U _ p=>?_) (show qv X.prog X.w H s.heap a (.dK g) from I.hok a _ d);revert p;refine fP λo v r h1 h2 _=>?_;exact V4 PySem.W.kitx_dict I.kIn ⟨o,h1,h2.1⟩ e (λz=>nomatch z) h
 | @dT a g d =>
  cases (show u=WF a from f);refine fH (λ_ _ j _=>fP λo v r h1 h2 _=>?_) (show qv X.prog X.w H s.heap a (.dT g) from I.hok a _ d);exact V4 PySem.W.kitx_dict I.kIn ⟨o,h1,h2.1⟩ e (λz=>nomatch z) h
 | @ins a C L fs d m B G l D =>
  cases (show u=WF a from f);obtain⟨M,O,_⟩:=znZ I.hok d;obtain⟨N,J,_⟩:=O.look;exact V4 (PySem.W.kitx_own (m.get _) m.hd B G l D) I.kIn J e (λz=>nomatch z) h
end
structure ZY (k:Nat)(A:WL):Prop where
 hd:A.handled=none
 dp:A.depth+3*k+5<recursionLimit
 un:A.units+16*k+200<VD
def ZY.mono {j k:Nat}{A:WL}(r:ZY k A)(h:j<=k):ZY j A:=⟨r.hd,by have:=r.dp;lia,by have:=r.un;lia⟩
theorem ZY.deeper {k:Nat}{A:WL}(r:ZY (k+1) A)(a:Env):ZY k (A.deeper a) :=
 ⟨r.hd,by have:=r.dp;show A.depth+1+3*k+5<_;lia,by have:=r.un;show A.units+3+16*k+200<_;lia⟩
theorem ZY.depth {k:Nat}{A:WL}(r:ZY k A):A.depth<recursionLimit:=by have:=r.dp;lia
theorem ZY.units {k:Nat}{A:WL}(r:ZY k A):A.units+64<VD:=by have:=r.un;lia
def zlO:TA:=λ_ H Q=>Q [] H
def zeE (d:TE)(e:TA):TA:=fun a H Q=>d a H λx b=>e a b λf c=>Q (x::f) c
section
variable {X:Cx}{e:Expr}{es:List Expr}{te:TE}{t:TA}{pos:Pos}
def ze:PA X [] zlO:=λ_ _ _ _ H Q I h=>Calls.spliced_nil ⟨[],H,I,.nil,h⟩
def za (i:PE X e te)(j:PA X es t)(l:WO (e::es) X.env=(false,eval e X.env)::WO es X.env:=by rfl):PA X (e::es) (zeE te t):=by
 intro pos a s b H Q I h;rw[l];show Xh _ _ (spliced ((false,eval e X.env)::S5 pos (WO es X.env))) _ _ s;refine Calls.spliced_cons (thn (i a s b H _ I h) λu s1 ⟨x,c,f,o,m⟩=>?_);exact thn (j pos a s1 b c _ f m) λv r ⟨q,d,g,p,n⟩=>⟨x::q,d,g,.cons o p,n⟩
def zsX (t:TA):TE:=fun c H Q=>t c H λb a=>b.length<=Xy/\∀p,a p=none->Q (.ref p) (upd a p (.tup b))
def zsY (t:TA):TE:=fun c H Q=>t c H λb a=>b.length<=Xy/\∀p,a p=none->Q (.ref p) (upd a p (.lst b))
def jb {x1}(h:PA X es t):PE X (.Tuple es x1 pos) (zsX t):=by
 intro d s l H Q I g;refine wpAny_Tuple_spliced (thn (h pos d s l H _ I g) λi s1 ⟨j,a,c,r,z,q⟩=>⟨by rw[<- r.length];exact z,?_⟩);have f:a s1.heap.objs.size=none:=c.hok.fresh (XW _);refine⟨.ref s1.heap.objs.size,upd a s1.heap.objs.size (.tup j),c.laid (t':=s1.toks) (λb u e=>X6 _ e) (XW _) ?_,rfl,q _ f⟩;exact⟨z,i,r,⟨_,Xf _ rfl,rfl,_,rfl⟩⟩
def ql (h:PA X es t):PE X (.List es pos) (zsY t):=by
 intro d s l H Q I g;refine wpAny_List_spliced (thn (h pos d s l H _ I g) λi s1 ⟨j,a,c,r,z,q⟩=>⟨by rw[<- r.length];exact z,?_⟩);have f:a s1.heap.objs.size=none:=c.hok.fresh (XW _);refine⟨.ref s1.heap.objs.size,upd a s1.heap.objs.size (.lst j),c.laid (t':=s1.toks) (λb u e=>X6 _ e) (XW _) ?_,rfl,q _ f⟩;exact⟨z,i,0,r,Xf _ rfl⟩
end
abbrev Sp:=AF->Hp->VK->XK->Prop
abbrev CXT:=List Env->Hp->X8->XK->Y1->X8->Prop
structure zn0 (P:Xv)(w:W5)(K:X0)(mg:Str->Option Y1)(base:Heap)(A:WL)(outer:List Env)(s:X8)(H:Hp):Prop where
 frames:A.frames=some outer
 mod:Mod K mg base
 bs:∀b o,base.get? b=some o->s.heap.get? b=some o/\H b=none
 bsz:base.objs.size<=s.heap.objs.size
 funs:s.heap.FunFrames base outer
 frf:∀b∈frs outer,H b=none
 hok:HOk P w H s.heap
 bare:Sy s.gens
def CE (a:List Env)(P:Xv)(w:W5)(H:Hp)(s:X8)(Q:VK)(u:Y1)(s':X8):Prop :=
 ∃v b,s'.os=s.os/\Sy s'.gens/\Un (frs a) [] H b s.heap s'.heap/\HOk P w b s'.heap/\RelV v u/\Q v b
def CR (CX:CXT)(a:List Env)(P:Xv)(w:W5)(H:Hp)(s:X8)(Q:VK)(E:XK)(r:PY)(s':X8):Prop :=
 match r with
 | .ok (.ret u)=>CE a P w H s Q u s'
 | .ok _=>False
 | .error e=>CX a H s E e s'
structure zT (P:Xv)(w:W5)(K:X0)(mg:Str->Option Y1)(base:Heap)(CX:CXT)(k:Nat)(f:Addr)(fd:Xz)(ps:AE)(sp:Sp):Prop where
 len:∀vs H Q E,sp vs H Q E->vs.length=ps.length
 run:∀(A:WL) (outer:List Env) (s:X8) (H:Hp) (args:Args) (us:List Y1) (vs:AF) (Q:VK) (E:XK),ZY k A->zn0 P w K mg base A outer s H->Ot s fd args (ps.zip us)->Vals vs us->sp vs H Q E ->
  Uj (Xn P w) A (.call (.ref f) args) (CR CX outer P w H s Q E) s
section
variable {X:Cx}{bQ:List (Addr×Obj)}{σ:St}{H:Hp}{s s':X8}
def Inv.env0 (I:Inv X bQ σ H s):zn0 X.prog X.w X.K X.mg X.base X.A X.stack s H :=
 ⟨I.ok.frames,I.ok.mod,I.bs,X7 I.ok.bsz I.sz,I.stack,I.stkFree,I.hok,I.bare⟩
def Inv.after {Q:VK}{u:Y1}(I:Inv X bQ σ H s)(h:CE X.stack X.prog X.w H s Q u s'):EP X bQ σ Q u s':=by
 obtain⟨v,f,os,a,un,c,r,q⟩:=h;obtain⟨i,g,d,t,e⟩:=s';obtain rfl:e=s.os:=os;exact⟨v,f,I.call (h':=i) (g':=g) (d':=d) (t':=t) (ch:=[]) un c a (λb z=>absurd z "s"),r,q⟩
end
def zlP (sp:Sp)(a:AF)(E:XK)(t:TA):TE:=fun d H Q=>t d H λc b=>sp (c++a) b Q E
def Binds (K:X0)(c:Xz)(ps:AE)(b:List Y1):Prop :=
 ∀(s:X8) (a:List Y1),K.In s.heap->(a++b).length=ps.length->Ot s c ⟨a,[]⟩ (ps.zip (a++b))
def Binds.all {K:X0}{b:Xz}{ps:AE}(h:∀a:List Y1,a.length=ps.length->bindArgs b ⟨a,[]⟩=pure (ps.zip a)):Binds K b ps []:=λs a _ c=>by
 rw[Xc]at c ⊢;exact .of_eq (h a c)
def Passes (CX:CXT)(X:Cx)(E:XK):Prop:=∀(b:List (Addr×Obj)) (c:St) (H:Hp) (s:X8) (e:Y1) (a:X8),Inv X b c H s->CX X.stack H s E e a->X.xe e a
section
variable {X:Cx}{CX:CXT}{k:Nat}{f C:Addr}{fd:Xz}{ps:AE}{sp:Sp}{dvs:AF}{ds:List Y1}{E:XK}{x m:Str}{p pos apos:Pos}{e o:Expr}{es:List Expr}{ta:TE}{t:TA}
def zqi {c:List (Addr×Obj)}{d:St}{H:Hp}{s:X8}{Q:VK}{a:List Y1}{vs:AF}(F:zT X.prog X.w X.K X.mg X.base CX k f fd ps sp)(n:ZY k X.A)(j:Binds X.K fd ps ds)(l:Vals dvs ds)(o:Passes CX X E)
  (I:Inv X c d H s) (r:Vals vs a) (h:sp (vs++dvs) H Q E):Xh (Xn X.prog X.w) X.A (call (.ref f) a) (EP X c d Q) X.xe s:=by
 have g:Vals (vs++dvs) (a++ds):=r.append l;have m:(a++ds).length=ps.length:=by rw[<- g.length];exact F.len _ _ _ _ h
 refine wpAny_call (S4 (F.run X.A X.stack s H ⟨a,[]⟩ (a++ds) (vs++dvs) Q E n I.env0 (j s a I.kIn m) g h) λr p b=>?_);cases r with
 | error e=>exact o c d H s e p I b
 | ok i =>
  cases i with
  | ret u=>exact I.after b
  | next=>exact U7 b
  | brk=>exact U7 b
  | cont=>exact U7 b
def zjH (F:zT X.prog X.w X.K X.mg X.base CX k f fd ps sp)(n:ZY k X.A)(l:Gl X x)(m:X.mg x=some (.ref f))(hk:TL X.K (.ref f)=true)(i:Binds X.K fd ps ds)(j:Vals dvs ds)(o:Passes CX X E)
  (g:PA X (e::es) t) (a:(x==("__debug__":Str))=false:=by decide) (he:WO (e::es) X.env=(false,eval e X.env)::WO es X.env:=by rfl) (b:(S5 pos (WO es X.env)).any (·.1)=false:=by rfl) :
  PE X (.Call (.Name x p) (e::es) [] pos) (zlP sp dvs E t):=by
 intro d s u H Q I h;refine Tc (zbd I l m ?_ a);refine PySem.W.callWith_K (h₀:=X.base) I.ok.mod.kin hk (thn (g pos d s u H _ I h) λy s1 ⟨z,v,c,r,q⟩=>⟨c.kIn,?_⟩) he b;exact zqi F n i j o c r q
end
structure zB (N P:AE)(sc:UH):Prop where
 kind:sc.kind=.function
 co:sc.isCoroutine=false
 gen:sc.isGenerator=false
 nd:N.Nodup
 pre:N.take P.length=P
 par:∀x∈P,sc.names.lookup x=some .local\/sc.names.lookup x=some .cell
 nofree:∀y∈sc.names,y.2 ≠ .free
def bz {N P:AE}{c:UH}(k:c.kind=.function:=by rfl)(a:c.isCoroutine=false:=by rfl)(b:c.isGenerator=false:=by rfl)(p:N.take P.length=P:=by rfl)(h:(N.Nodup)/\(∀x∈P,c.names.lookup x=some .local\/c.names.lookup x=some .cell)/\∀y∈c.names,y.2 ≠ .free:=by decide+kernel):zB N P c:=⟨k,a,b,h.1,p,h.2.1,h.2.2⟩
theorem zeF {kindOf:Str->Option Tq}{x:Str}:∀{binds:List (Str×Y1)} {m:Str->Option Y1},(∀v,(x,v) ∉ binds)->N4 kindOf binds m x=m x
 | [],_,_=>rfl
 | (n,v)::r,m,h=>by
  unfold N4;rw[zeF λw a=>h w (XQ _ a)];split
  .have:x≠n:=by rintro rfl;exact h v XT
   simp[this]
  .rfl
theorem zeG {kindOf:Str->Option Tq}{x:Str}:∀{binds:List (Str×Y1)} {m:Str->Option Y1},(∀v,(x,v) ∉ binds)->N3 kindOf binds m x=m x
 | [],_,_=>rfl
 | (n,v)::r,m,h=>by
  unfold N3;rw[zeG λw a=>h w (XQ _ a)];split
  .rfl
  .have:x≠n:=by rintro rfl;exact h v XT
   simp[this]
theorem zeH {kindOf:Str->Option Tq}{x:Str}{v:Y1}:∀{P:AE} {vs:List Y1} {i:Nat} {m:Str->Option Y1},P.Nodup->P[i]?=some x->vs[i]?=some v->kindOf x=some .local ->
  N4 kindOf (P.zip vs) m x=some v
 | [],_,_,_,_,h,_,_=>by simp at h
 | _::_,[],_,_,_,_,h,_=>by simp at h
 | p::P,w::vs,0,m,a,h1,h2,hk=>by
  simp at h1 h2;subst h1;subst h2;show N4 kindOf ((p,w)::P.zip vs) m p=_;unfold N4;rw[zeF λv b=>(Vp.mp a).1 (Px b).1,bw hk];simp
 | p::P,w::vs,i+1,m,a,h1,h2,hk=>by
  show N4 kindOf ((p,w)::P.zip vs) m x=_;unfold N4;exact zeH (i:=i) (Vp.mp a).2 ↑h1 ↑h2 hk
theorem zeI {kindOf:Str->Option Tq}{x:Str}{v:Y1}:∀{P:AE} {vs:List Y1} {i:Nat} {m:Str->Option Y1},P.Nodup->P[i]?=some x->vs[i]?=some v->kindOf x≠some .local ->
  N3 kindOf (P.zip vs) m x=some v
 | [],_,_,_,_,h,_,_=>by simp at h
 | _::_,[],_,_,_,_,h,_=>by simp at h
 | p::P,w::vs,0,m,a,h1,h2,hk=>by
  simp at h1 h2;subst h1;subst h2;show N3 kindOf ((p,w)::P.zip vs) m p=_;unfold N3;rw[zeG λv b=>(Vp.mp a).1 (Px b).1,bq hk];simp
 | p::P,w::vs,i+1,m,a,h1,h2,hk=>by
  show N3 kindOf ((p,w)::P.zip vs) m x=_;unfold N3;exact zeI (i:=i) (Vp.mp a).2 ↑h1 ↑h2 hk
def start (N:AE)(vs:AF):St:=vs.map some++W6 (N.length-vs.length) none
def zgN (CX:CXT)(P:Xv)(w:W5)(K:X0)(mg:Str->Option Y1)(base:Heap)(N:AE)(qual:Str)(scope:UH)(f:Addr)(cd:Y1)(A:WL)(outer:List Env)(s:X8)(H:Hp)(E:XK):Cx where
 prog:=P
 w:=w
 K:=K
 mg:=mg
 base:=base
 A:=A.deeper (PX qual scope s.heap.objs.size f cd)
 N:=N
 s₀:=s
 H₀:=H
 env:=PX qual scope s.heap.objs.size f cd
 outer:=outer
 stack:=PX qual scope s.heap.objs.size f cd::outer
 ex:=[]
 calm:=true
 fn:=λ_=>true
 pn:=[]
 xe:=λe s'=>Xh (Xn P w) (A.deeper (PX qual scope s.heap.objs.size f cd)) (leaving (PX qual scope s.heap.objs.size f cd) e) (λ_ s''=>CX outer H s E e s'') (λe' s''=>CX outer H s E e' s'') s'
def zgO {a:UH}{n:Nat}{x:Str}(h:a.names.lookup x=some .cell):∃c,(SD n a.names []).lookup x=some c:=by
 have q:=SK a.names n [] (.inl h);exact Wd.mp q
def zkF {CX:CXT}{P:Xv}{w:W5}{K:X0}{I:Str->Option Y1}{base:Heap}{N ps:AE}{j:Str}{d:UH}{f:Addr}{D:Y1}{A:WL}{g:List Env}{s s1:X8}{H:Hp}{E:XK}{J:List Y1}{vs:AF}
  (S:zB N ps d) (O:A.handled=none) (l:zn0 P w K I base A g s H) (hl:vs.length=ps.length) (r:Vals vs J)
  (x:InCallC s s.heap.objs.size (N4 (PX j d s.heap.objs.size f D).kindOf (ps.zip J) λ_=>none) (SD (s.heap.objs.size+1) d.names []) (N3 (PX j d s.heap.objs.size f D).kindOf (ps.zip J) λ_=>none) s1) :
  Inv (zgN CX P w K I base N j d f D A g s H E) [] (start N vs) H s1:=by
 have Q:ps.length<=N.length:=by have:=congrArg List.length S.pre;rw[XC]at this;lia
 obtain⟨h1,tk,rfl,hk⟩:=x.done;have m:∀b:Addr,b ∉ (zgN CX P w K I base N j d f D A g s H E).ex:=λb z=>absurd (show b∈([]:List Addr) from z) "s";refine⟨⟨l.mod,S.kind,rfl,rfl,XW _,λy z c h1 h2=>?_,λy hy=>?_,λy c _ h=>?_,λ_=>O,Around.frames_deeper l.frames,.inr ⟨rfl,rfl⟩,λb z=>absurd z (m b),l.bs,l.bsz,λb _ _=>m b,λb z=>absurd z (m b),l.funs,l.frf⟩,rfl,l.bare,Un.kept hk,⟨_,x.toInCall.ns,λi y v h1 h2 Y=>?_⟩,λy c h=>⟨_,x.cell y c h⟩,l.hok.fresh (XW _),λy c h=>?_,λp o=>absurd (show p∈([]:List (Addr×Obj)) from o) "s",l.hok.kept hk,?_⟩
 .exact name_of_addr x.apart (WD h1) (WD h2)
 .have hy:d.names.lookup y=some .cell\/d.names.lookup y=some .free:=hy;rcases hy with hy | hy
  .exact zgO hy
  .exact absurd rfl (S.nofree _ (WD hy))
 .exact VA (x.above y c (WD h))
 .have G:i<vs.length:=by
   unfold start at h2;by_cases G:i<vs.length
   .exact G
   .rw[UQ ↑G]at h2;rw[List.getElem?_replicate]at h2;split at h2<;>cases h2
  have M:vs[i]?=some v:=by
   unfold start at h2;rw[Vm ↑G,Xl]at h2;cases e:vs[i]? with
   | none=>rw[e]at h2;cases h2
   | some a=>rw[e]at h2;cases h2;rfl
  obtain⟨u,L,U⟩:=r.get M;have o:ps[i]?=some y:=by
   rw[<- S.pre,Rr "a"];exact h1
  have B:ps.Nodup:=by rw[<- S.pre];exact S.nd.sublist (TV _ _)
  refine⟨u,U,?_⟩;rcases S.par y (X4 o) with k | k
  .exact .inl ⟨k,zeH B o L k⟩
  .obtain⟨c,e⟩:=zgO (n:=s.heap.objs.size+1) k;refine .inr ⟨.inl k,c,e,?_⟩;have q:=x.cell y c e;rw[zeI B o L (by show d.names.lookup y≠_;rw[k];decide)]at q;exact q
 .exact l.hok.fresh (VA (x.above y c (WD h)))
 .unfold start;show _=N.length;rw[X5,ZB,Ps];lia
def zpx {CX:CXT}{P:Xv}{w:W5}{K:X0}{M:Str->Option Y1}{base:Heap}{k:Nat}{f:Addr}{name d:Str}{h:Arguments}{i:List Stmt}{a:UH}{dV kV doc pm g ct oc:Y1}{an od:Option Addr}
  {aa:Array (Option Y1)} {N ps:AE} {sp:Sp} (lk:K.lookup f=some ⟨oc,od,.func (UE name d h i a dV kV doc pm an g ct),aa⟩) (O:SW K g d=true) (S:zB N ps a)
  (L:∀vs H Q E,sp vs H Q E->vs.length=ps.length)
  (m:∀(A:WL) (c:List Env) (s:X8) (H:Hp) (vs:AF) (Q:VK) (E:XK),ZY k (A.deeper (PX d a s.heap.objs.size f g))->sp vs H Q E ->
   ∃t,PSs (zgN CX P w K M base N d a f g A c s H E) i t/\t { nx:=λ_ l=>Q .non l,rt:=Q } (start N vs) H) :
  zT P w K M base CX (k+1) f (UE name d h i a dV kV doc pm an g ct) ps sp:=by
 refine⟨L,λA c s H ab us vs Q E U B hb r G=>?_⟩;have hl:=L _ _ _ _ G;have KX:K.In s.heap:=B.mod.kin.keeps λb o e=>(B.bs b o e).1;have Y:s.heap.NoLimit:=B.mod.nolimit.keeps λb o e=>(B.bs b o e).1;have p:∀y∈ps.zip us,a.names.lookup y.1=some .local\/(a.names.lookup y.1=some .cell/\((SD (s.heap.objs.size+1) a.names []).lookup y.1).isSome=true):=λ⟨n,v⟩ hy=>by
  rcases S.par n (Px hy).1 with q | q
  .exact .inl q
  .exact .inr ⟨q,SK _ _ _ (.inl q)⟩
 refine codeAny_call_function U.depth (KX _ _ lk) rfl S.co S.gen rfl (PySem.W.codeRec_of KX O) (hb _ _ _ _ ?_);refine wpAny_newFunctionEnv_cells S.kind p λac he s1 x=>?_;subst he;refine⟨Y.keeps x.toInCall.keep,codeAny_func ?_⟩;refine fq (λt ht hq=>?_) (m A c s H vs Q E (U.deeper _) G);have I:Inv (zgN CX P w K M base N d a f g A c s H E) [] (start N vs) H s1:=zkF S U.hd B hl r x;refine VQ (ht [] s1 (start N vs) H _ I hq) (λfl s' z=>?_) λe s' z=>z;have D:∀{j:St} {l:Hp} {v:V} {u:Y1},Inv (zgN CX P w K M base N d a f g A c s H E) [] j l s'->RelV v u->Q v l->CE c P w H s Q u s' :=
  λ{j l v u} J rv q=>(d9 v l J.os J.bare J.base J.hok rv q)
 cases fl with
 | ret u =>
  revert z;refine fP λv j l J rv q=>?_;exact D J rv q
 | next =>
  obtain⟨j,l,J,q⟩:=z;exact D (v:=V.non) (u:=UD) J rfl q
 | brk =>
  obtain⟨_,_,_,q⟩:=z;exact U7 q
 | cont =>
  obtain⟨_,_,_,q⟩:=z;exact U7 q
section
variable {X:Cx}{x:Str}{p pos:Pos}{e:Expr}{es:List Expr}{t:TA}{id T:String}{r:AF->Hp->VK->Prop}
def tCB (r:AF->Hp->VK->Prop)(t:TA):TE:=fun c H Q=>t c H λb a=>r b a Q
def Yd (j:jm X (.builtin id) r)(l:Gl X x)(m:X.mg x=none)(o:U2 x=some (.builtin id))(i:PA X (e::es) t)(n:x ≠ "__name__":=by decide)(a:(x==("__debug__":Str))=false:=by decide)
  (he:WO (e::es) X.env=(false,eval e X.env)::WO es X.env:=by rfl) (b:(S5 pos (WO es X.env)).any (·.1)=false:=by rfl):PE X (.Call (.Name x p) (e::es) [] pos) (tCB r t):=by
 intro c s d H Q I h;refine Tc (Qv I l m o ?_ n a);exact PyProof.Rows.callWith_builtin1 (thn (i pos c s d H _ I h) λv s1 ⟨w,f,g,u,q⟩=>j c s1 d f w v Q g u q) he b
def zkG (j:jm X (.type T) r)(l:Gl X x)(m:X.mg x=none)(o:U2 x=some (.type T))(i:PA X (e::es) t)(n:x ≠ "__name__":=by decide)(a:(x==("__debug__":Str))=false:=by decide)
  (he:WO (e::es) X.env=(false,eval e X.env)::WO es X.env:=by rfl) (b:(S5 pos (WO es X.env)).any (·.1)=false:=by rfl):PE X (.Call (.Name x p) (e::es) [] pos) (tCB r t):=by
 intro c s d H Q I h;refine Tc (Qv I l m o ?_ n a);exact VY (thn (i pos c s d H _ I h) λv s1 ⟨w,f,g,u,q⟩=>j c s1 d f w v Q g u q) he b
end
end L2
namespace HT
open PySem PyProof.Rows
section
variable {prog:Xv}{w:W5}{A:WL}{E:Y1->X8->Prop}{s:X8}
def sIx (n d:Nat):Option Int->Nat
 | none=>d
 | some v=>if v<0 then (v+(n:Int)).toNat else min v.toNat n
def zbg (n d k:Nat):sIx n d (some (k:Int))=min k n:=by
 show (if (k:Int)<0 then ((k:Int)+(n:Int)).toNat else min (k:Int).toNat n)=min k n;rw[bq "a",WC]
end
end HT
namespace L2
open PySem PySem.Spec PyProof.Rows
abbrev TO:=St->Hp->(Option Int->Hp->Prop)->Prop
def PO (X:Cx)(e:Option Expr)(t:TO):Prop :=
 ∀(c:List (Addr×Obj)) (s:X8) (a:St) (H:Hp) (Q:Option Int->Hp->Prop),Inv X c a H s->t a H Q ->
  Xh (Xn X.prog X.w) X.A (evalPart e X.env) (λu d=>∃o b,Inv X c a b d/\IsPart u o/\Q o b) X.xe s
def zn1:TO:=λ_ H Q=>Q none H
def zrQ (t:TE):TO:=fun b H Q=>t b H λx a=>∃i,x=.int i/\Q (some i) a
section
variable {X:Cx}{e:Expr}{te:TE}{lo hi:Option Expr}{tl th:TO}{pos p2:Pos}
def zcL:PO X none zn1:=by
 intro a s b H Q I h;rw[evalPart_none];exact XR ⟨none,H,I,.none,h⟩
def zab (h:PE X e te):PO X (some e) (zrQ te):=by
 intro c s j H Q I d;rw[evalPart_some];refine thn (h c s j H _ I d) λu s1 ⟨x,a,b,g,f⟩=>?_;obtain⟨i,rfl,q⟩:=f;obtain⟨t,rfl⟩:=g;exact⟨some i,a,b,.int i t,q⟩
def SlR (X:Cx)(r:V->Option Int->Option Int->Hp->VK->Prop):Prop :=
 ∀(a:List (Addr×Obj)) (s:X8) (e:St) (H:Hp) (x:V) (v c d:Y1) (lo hi:Option Int) (b:Addr) (Q:VK),Inv X a e H s->RelV x v->s.heap.IsSliceOf b c d .none->IsPart c lo->IsPart d hi->r x lo hi H Q ->
  ∃T id,Ox (.type T) "__getitem__"=pure (some (.builtin id))/\s.TypeIs v T/\Xh (Xn X.prog X.w) X.A (OT v (.ref b)) (EP X a e Q) X.xe s
def tSl (r:V->Option Int->Option Int->Hp->VK->Prop)(te:TE)(tl th:TO):TE:=fun a H Q=>te a H λx b=>tl a b λl c=>th a c λu d=>r x l u d Q
def Qy {r:V->Option Int->Option Int->Hp->VK->Prop}(D:SlR X r)(he:PE X e te)(B:PO X lo tl)(G:PO X hi th):PE X (.Subscript e (.Slice lo hi none p2) pos) (tSl r te tl th):=by
 intro c s d H Q I h;refine Subscript_ (thn (he c s d H _ I h) λv s1 ⟨x,j,n,U,M⟩=>?_);refine wpAny_Slice (thn (B c s1 d j _ n M) λf Y ⟨l,m,o,J,N⟩=>thn (G c Y d m _ o N) λg a ⟨u,i,I3,L,O⟩=>?_);rw[evalPart_none];refine XR ?_;have p:Inv X c d i { a with heap:=a.heap.push { cls:=.type "slice",data:=.fields #[f,g,.none] } }:=I3.kept (t':=a.toks) λb ob q=>X6 _ q;refine fy (λT id y E z=>?_) (D c { a with heap:=a.heap.push { cls:=.type "slice",data:=.fields #[f,g,.none] } } d i x v f g l u a.heap.objs.size Q p U (Heap.IsSliceOf.new ..) J L O);show Xh (Xn X.prog X.w) X.A (OH e (.Slice lo hi none p2) v (.ref a.heap.objs.size)) (EP X c d Q) X.xe { a with heap:=a.heap.push { cls:=.type "slice",data:=.fields #[f,g,.none] } };exact tail_any (ops:=[.ref a.heap.objs.size,v]) E y z (by with_unfolding_all rfl)
def zaw (xs:AF)(lo hi:Option Int):AF:=(xs.drop (HT.sIx xs.length 0 lo)).take (HT.sIx xs.length xs.length hi-HT.sIx xs.length 0 lo)
def zgP (xs:AF)(lo hi:Option Int):(zaw xs lo hi).length<=xs.length:=by
 unfold zaw;rw[XC,UZ];lia
end
def ixN (n:Nat)(i:Int):Option Nat:=if 0<=i then (if i<n then some i.toNat else none) else if -(n:Int)<=i then some (i+n).toNat else none
def atI {α:Type}(xs:List α)(i:Int):Option α:=(ixN xs.length i).bind λj=>xs[j]?
def zjI {n:Nat}{i:Int}{j:Nat}(h:ixN n i=some j):seqIndex? i n=some j/\j<n/\-(n:Int)<=i/\i<n:=by
 unfold ixN at h;by_cases h0:0<=i
 .rw[bw h0]at h;by_cases h1:i<n
  .rw[bw h1]at h;have e:i.toNat=j:=Option.some.inj h;exact⟨by rw[Pf h0 h1,e],"a","a",h1⟩
  .rw[bq h1]at h;cases h
 .rw[bq h0]at h;by_cases h1:-(n:Int)<=i
  .rw[bw h1]at h;have e:(i+n).toNat=j:=Option.some.inj h;exact⟨by rw[PP "a" h1,e],"a",h1,"a"⟩
  .rw[bq h1]at h;cases h
def zcM {α:Type}{xs:List α}{i:Int}{v:α}(h:atI xs i=some v):∃j,seqIndex? i xs.length=some j/\xs[j]?=some v/\j<xs.length/\-(xs.length:Int)<=i/\i<xs.length:=by
 unfold atI at h;cases e:ixN xs.length i with
 | none=>rw[e]at h;cases h
 | some j =>
  rw[e]at h;obtain⟨h1,h2,a,b⟩:=zjI e;exact⟨j,h1,h,h2,a,b⟩
def zbh {α:Type}{xs:List α}{j:Nat}{v:α}(h:xs[j]?=some v):atI xs (j:Int)=some v:=by
 have a:j<xs.length:=(X2.mp h).1;have e:ixN xs.length (j:Int)=some j:=by
  unfold ixN;rw[bw "a",bw "a"];simp
 unfold atI;rw[e];exact h
def zn2 (b:Expr):Prop:=∀o i,Pe b false o i=operate [o,i] (OT o i)
def IxR (X:Cx)(r:R2):Prop :=
 ∀(b a:Expr) (c:List (Addr×Obj)) (s:X8) (d:St) (H:Hp) (x y:V) (v u:Y1) (Q:VK),Inv X c d H s->RelV x v->RelV y u->r x y H Q ->
  Pe a false v u=operate [v,u] (OT v u)->Xh (Xn X.prog X.w) X.A (OH b a v u) (EP X c d Q) X.xe s
def MtR (X:Cx)(id:String)(r:V->AF->Hp->VK->Prop):Prop :=
 ∀(a:List (Addr×Obj)) (s:X8) (d:St) (H:Hp) (x:V) (c:AF) (v:Y1) (b:List Y1) (Q:VK),Inv X a d H s->RelV x v->Vals c b->r x c H Q ->
  Xh (Xn X.prog X.w) X.A (call (.builtin id) (v::b)) (EP X a d Q) X.xe s
section
variable {X:Cx}{a b:Expr}{ta tb:TE}{pos:Pos}
def zW {r:R2}(i:IxR X r)(f:PE X a ta)(g:PE X b tb)(j:zn2 b):PE X (.Subscript a b pos) (tOp r ta tb):=by
 intro e s o H Q I h;exact Subscript_ (zqa f g I h λv u n x y c d l m q=>i a b e n o c x y v u Q d l m q (j _ _))
def zrR (K:X0):R2:=λx y H Q=>∃p a i v,x=.ref p/\y=.int i/\SqL K H p a/\atI a i=some v/\Q v H
def zsZ (K:X0):R2:=λx y H Q=>∃p a i v,x=.ref p/\y=.int i/\SqT K H p a/\atI a i=some v/\Q v H
def zs0:R2:=λx y H Q=>∃z i c,x=.str z/\y=.int i/\z.length<=Xy/\atI z.cps.toList i=some c/\Q (.str ⟨#[c]⟩) H
def zn3:IxR X (zrR X.K):=by
 intro g f l s o H x y v u Q I G J h n;revert h;refine fU λp U i z z0 z1 E he q=>?_;subst z0 z1;cases G;obtain⟨t,rfl⟩:=J;obtain⟨c,r,d,O⟩:=I.list E;refine fR (λj h1 h2 M A B=>?_) (zcM he);obtain⟨w,m,e⟩:=r.get h2;have D:=r.length;have N:=Qw;have a:EP X l o Q w s:=⟨z,H,I,e,q⟩;by_cases h0:0<=i
 .have b:i.toNat=j:=by
   rw[Pf h0 B]at h1;exact Option.some.inj h1
  exact item_listR d.isList h0 "a" (by rw[b];simpa using m) a n
 .have b:(i+(c.toArray.size:Int)).toNat=j:=by
   rw[PP "a" A]at h1;rw[Xr,<- D];exact Option.some.inj h1
  exact PK (x:=w) d.isList.typeIs slot_list_getitem.lookup
   (PJ (Q:=λr L=>r=w/\EP X l o Q r L) d.isList "a" (by rw[Xr]<;>lia) "a" (by rw[b];simpa using m) ⟨rfl,a⟩) n
def zil:IxR X (zsZ X.K):=by
 intro d c e s g H x y v u Q I B D h o;revert h;refine fU λp O i z z0 z1 n he q=>?_;subst z0 z1;cases B;obtain⟨t,rfl⟩:=D;obtain⟨A,r,f,N⟩:=I.tuple n;refine fR (λj h1 h2 G J L=>?_) (zcM he);obtain⟨w,l,b⟩:=r.get h2;have m:=r.length;have M:=Qw;have a:EP X e g Q w s:=⟨z,H,I,b,q⟩;exact PK (x:=w) f.typeIs slot_tuple_getitem.lookup
  (getItem_tuple (j:=j) (Q:=λr E=>r=w/\EP X e g Q r E) f "a" "a" (by rw[Xr,<- m];exact h1) ↑l ⟨rfl,a⟩) o
def zqj:IxR X zs0:=by
 intro b a p s D H x y v u Q I n o h m;revert h;refine fC λz i c z0 z1 A he q=>?_;subst z0 z1;obtain⟨t,rfl⟩:=n;obtain⟨B,rfl⟩:=o;refine fR (λj h1 h2 r f g=>?_) (zcM he);have l:z.cps.toList.length=z.length:=by simp[Str.length]
 rw[l]at h1 f g;have w:=Qw;exact tail_any (typeIs_str s z t) slot_str_getitem.lookup (getItem_str (c:=c) (by
  have d:decide (i < -(2^63:Int))=false:=bg "a";have e:decide (i >= 2^63)=false:=bg "a";rw[d,e,Bool.or_false]) (by rw[h1];simpa using h2) ⟨.str ⟨#[c]⟩,H,I.tok _,⟨_,rfl⟩,q⟩) m
def zim (a:List Y1)(n j:Nat)(u:Y1):U6 (·.setIfInBounds j u) { cls:=.type "list",data:=.seq a.toArray n }={ cls:=.type "list",data:=.seq (a.set j u).toArray n }:=by
 simp[U6]
theorem Inv.lst {b:List (Addr×Obj)}{c:St}{H:Hp}{s:X8}{p:Addr}{xs:AF}(I:Inv X b c H s)(h:H p=some (.lst xs)) :
  ∃(a:List Y1) (n:Nat),Vals xs a/\s.heap.get? p=some { cls:=.type "list",data:=.seq a.toArray n }/\xs.length<=Xy:=by
 refine f9 (λz a n r e=>?_) (I.hok p _ h);exact⟨a,n,r,e,z⟩
def Inv.lstUpd {d:List (Addr×Obj)}{i:St}{H:Hp}{s:X8}{p:Addr}{xs ys:AF}{a its':List Y1}{n c:Nat}{f:Obj->Obj}(I:Inv X d i H s)(h:H p=some (.lst xs))
  (l:s.heap.get? p=some { cls:=.type "list",data:=.seq a.toArray n }) (g:f { cls:=.type "list",data:=.seq a.toArray n }={ cls:=.type "list",data:=.seq its'.toArray c }) (r:Vals ys its') (m:ys.length<=Xy) (t:Nat) :
  Inv X d i (upd H p (.lst ys)) { s with heap:=s.heap.update p f,toks:=t }:=by
 have e:(s.heap.update p f).get? p=some { cls:=.type "list",data:=.seq its'.toArray c }:=by
  rw[VN f l (by rw[g]<;>rfl),g]
 refine I.write (x:=p) (e:=p) (by rw[h];trivial) (.inl rfl) (λb u j q=>(Ub _ _ (Vh j)).trans q) ⟨_,e⟩ ?_;exact⟨m,its',c,r,e⟩
def zrS:V->V->V->Hp->(Hp->Prop)->Prop:=λo i v H Q=>∃p a k j,o=.ref p/\i=.int k/\H p=some (.lst a)/\ixN a.length k=some j/\Q (upd H p (.lst (a.set j v)))
def set_list:zp8 X zrS:=by
 intro l s B H o i v G E u Q I y x z h;revert h;refine fU λp A k j z0 z1 g m q=>?_;subst z0 z1;cases y;obtain⟨t,rfl⟩:=x;refine fy (λa n r c w=>?_) (I.lst g);obtain⟨h1,h2,e,f⟩:=zjI m;have b:=r.length;have D:=Qw;have d:Inv X l B (upd H p (.lst (A.set j v))) { s with heap:=s.heap.update p (U6 (·.setIfInBounds j u)) } :=
  I.lstUpd g c (zim a n j u) (r.set z j) (by rw[Sf];exact w) s.toks
 by_cases h0:0<=k
 .have hk:k.toNat=j:=by
   rw[Pf h0 f]at h1;exact Option.some.inj h1
  exact PySem.W.ki_setAt c h0 "a" (by rw[Xr,<- b];exact f) (by rw[hk];exact⟨_,d,q⟩)
 .have hk:(k+(a.toArray.size:Int)).toNat=j:=by
   rw[PP "a" e]at h1;rw[Xr,<- b];exact Option.some.inj h1
  exact PySem.W.ki_setBack c "a" (by rw[Xr,<- b];exact e) "a" (by rw[hk];exact⟨_,d,q⟩)
def zfI (lo a:Option Int)(n:Nat):(S9 lo a none n).1=((HT.sIx n 0 lo:Nat):Int)/\(S9 lo a none n).2.1=((HT.sIx n n a:Nat):Int)/\(S9 lo a none n).2.2=1:=by
 refine⟨?_,?_,rfl⟩
 .cases lo with
  | none=>simp[S9,HT.sIx]
  | some i =>
   simp only[S9,HT.sIx,Option.getD_none,show (1:Int)>0 by decide,if_true];by_cases h:i<0
   .simp only[h,if_true]<;>lia
   .simp only[h,if_false]<;>lia
 .cases a with
  | none=>simp[S9,HT.sIx]
  | some i =>
   simp only[S9,HT.sIx,Option.getD_none,show (1:Int)>0 by decide,if_true];by_cases h:i<0
   .simp only[h,if_true]<;>lia
   .simp only[h,if_false]<;>lia
def zee (a:List Y1)(lo b:Option Int):slicePick a.toArray lo b none=((a.drop (HT.sIx a.length 0 lo)).take (HT.sIx a.length a.length b-HT.sIx a.length 0 lo)).toArray:=by
 obtain⟨h1,h2,c⟩:=zfI lo b a.toArray.size;unfold slicePick;rw[h1,h2,c];simp only[sliceRange_one,pick_run,Xr]<;>rfl
def zrT (K:X0):V->Option Int->Option Int->Hp->VK->Prop:=λx lo c H Q=>∃a b,x=.ref a/\SqL K H a b/\∀p,H p=none->Q (.ref p) (upd H p (.lst (zaw b lo c)))
def zcN:SlR X (zrT X.K):=by
 intro u s A H x v y z lo e w Q I p g m n h;revert h;refine fy λa c z0 i q=>?_;subst z0;cases p;obtain⟨l,r,f,j⟩:=I.list i;have d:=r.length;refine⟨"list",_,slot_list_getitem.lookup,f.isList.typeIs,?_⟩;refine wpAny_getItem_list_slice f.isList g m n .none "s" ?_ (by rw[Xr]<;>lia);rw[zee,<- d];refine⟨.ref s.heap.objs.size,_,I.laid (t':=s.toks) (o:=.lst (zaw c lo e)) (λb ob q=>X6 _ q) (XW _) ?_,rfl,q _ (I.hok.fresh (XW _))⟩;exact⟨X7 (zgP c lo e) j,_,0,(r.drop (HT.sIx c.length 0 lo)).take (HT.sIx c.length c.length e-HT.sIx c.length 0 lo),Xf _ rfl⟩
def zbi:OpR X (Wf .NotIn) (λx y H Q=>∃i j,x=.str i/\y=.str j/\Q (.bl (!(!(U9 j i 0 j.length 1).isEmpty))) H):=by
 intro c s e H x y v u Q I a b h;revert h;refine fy λi j z0 z1 q=>?_;subst z0 z1;obtain⟨t,rfl⟩:=a;obtain⟨d,rfl⟩:=b;exact notIn_str ⟨.bl _,H,I,rfl,q⟩
def YU:jm X (.builtin "len") (λxs H Q=>∃p ys,xs=[.ref p]/\(SqL X.K H p ys\/SqT X.K H p ys)/\Q (.int ys.length) H):=by
 intro g s l H xs j Q I r h;obtain⟨p,ys,rfl,hq,q⟩:=h;obtain⟨u,rfl,f⟩:=vals1 r;cases f;have i:=Qw;rcases hq with hq | hq
 .obtain⟨b,d,c,e⟩:=I.list hq;have a:=d.length;exact Calls.call_len_list c.isList (by simp only[Xr]<;>lia) ⟨.int ys.length,H,I.tok _,⟨s.toks+1,by rw[Xr,a]⟩,q⟩
 .obtain⟨b,d,c,e⟩:=I.tuple hq;have a:=d.length;exact len_tuple c (by simp only[Xr]<;>lia) ⟨.int ys.length,H,I.tok _,⟨s.toks+1,by rw[Xr,a]⟩,q⟩
def YV:jm X (.builtin "len") (λxs H Q=>∃z,xs=[.str z]/\z.length<=Xy/\Q (.int z.length) H):=by
 intro a s e H xs d Q I r h;obtain⟨z,rfl,c,q⟩:=h;obtain⟨u,rfl,t,rfl⟩:=vals1 r;have b:=Qw;exact len_str "a" ⟨.int z.length,H,I.tok _,⟨_,rfl⟩,q⟩
def zfJ:jm X (.type "list") (λxs H Q=>∃p ys,xs=[.ref p]/\(SqL X.K H p ys\/SqT X.K H p ys)/\∀l,H l=none->Q (.ref l) (upd H l (.lst ys))):=by
 intro B s E H xs G Q I r h;revert h;refine fy λp ys z0 hq q=>?_;subst z0;obtain⟨u,rfl,D⟩:=vals1 r;cases D;have g:∀(a:List Y1),Vals ys a->ys.length<=Xy->∀(c:Heap) (d:Nat),(∀b A,s.heap.get? b=some A->c.get? b=some A) ->
   c.get? s.heap.objs.size=some { cls:=.type "list",dict:=none,data:=.seq a.toArray d,slots:=#[] }->EP X B E Q (.ref s.heap.objs.size) { s with heap:=c }:=λa f j c d m e =>
  ⟨.ref s.heap.objs.size,_,I.laid (t':=s.toks) m (XW _) (show qv X.prog X.w _ c _ (.lst ys) from ⟨j,a,d,f,e⟩),rfl,q _ (I.hok.fresh (XW _))⟩
 rcases hq with hq | hq
 .obtain⟨a,f,z,j⟩:=I.list hq;have i:=f.length;obtain⟨o,y,v,n,x⟩:=z.isList;exact call_list_seq p (.inl rfl) y v x (λc d m e=>g a f j c d m e) (by simp only[Xr]<;>lia)
 .obtain⟨a,f,z,j⟩:=I.tuple hq;have i:=f.length;obtain⟨o,y,v,n,x⟩:=z;exact call_list_seq p (.inr rfl) y v x (λc d m e=>g a f j c d m e) (by simp only[Xr]<;>lia)
def tyV (K:X0)(T:String)(x:V)(H:Hp):Prop:=match x with
 | .str _=>T="str"
 | .int _=>T="int"
 | .ref p=>(T="list"/\∃b,SqL K H p b)\/(T="tuple"/\∃o,K.lookup p=some o/\o.cls=.type "tuple"/\o.dict=none) \/
   (T="dict"/\((∃a,H p=some (.dK a))\/∃a,H p=some (.dT a)))\/(T="set"/\∃S n,H p=some (.set S n))
 | _=>False
def zlQ {j:List (Addr×Obj)}{u:St}{H:Hp}{s:X8}{T:String}{x:V}{v:Y1}(I:Inv X j u H s)(r:RelV x v)(ty:tyV X.K T x H) :
  s.TypeIs v T/\∀a,v=.ref a->∃ob,s.heap.get? a=some ob/\ob.dict=none:=by
 cases x with
 | str z =>
  obtain⟨t,rfl⟩:=r;cases (show T="str" from ty);exact⟨typeIs_str s z t,λ_ e=>nomatch e⟩
 | int i =>
  obtain⟨t,rfl⟩:=r;cases (show T="int" from ty);exact⟨typeIs_int s i t,λ_ e=>nomatch e⟩
 | ref p =>
  cases r;rcases ty with ⟨rfl,w,m⟩ | ⟨rfl,o,hk,l,f⟩ | ⟨rfl,hk⟩ | ⟨rfl,S,n,hk⟩
  .obtain⟨q,_,h,_⟩:=I.list m;refine⟨h.isList.typeIs,λa e=>?_⟩;cases e;obtain⟨o,n,e,c,f,_⟩:=h;exact⟨o,e,f⟩
  .refine⟨⟨o,I.kIn p o hk,l⟩,λa e=>?_⟩;cases e;exact⟨o,I.kIn _ o hk,f⟩
  .have z:∃o,s.heap.get? p=some o/\o.ExactDict:=by
    rcases hk with ⟨g,hk⟩ | ⟨g,hk⟩
    .refine fH (λ_ _ _ _=>fP λo _ _ e b _=>?_) (I.hok p _ hk);exact⟨o,e,b⟩
    .refine fH (λ_ _ _ _=>fP λo _ _ e b _=>?_) (I.hok p _ hk);exact⟨o,e,b⟩
   obtain⟨o,e,b⟩:=z;refine⟨⟨o,e,b.1⟩,λa d=>?_⟩;cases d;exact⟨o,e,b.2.1⟩
  .refine fB (λo _ _ _=>fL λe b _=>?_) (I.hok p _ hk);refine⟨⟨o,e,b.1⟩,λa d=>?_⟩;cases d;exact⟨o,e,b.2.1⟩
 | _=>exact U7 ty
def zs1 (K:X0)(T:String)(r:V->AF->Hp->VK->Prop)(b:TE):TE:=fun c H Q=>b c H λx a=>tyV K T x a/\r x [] a Q
def tBM (K:X0)(T:String)(r:V->AF->Hp->VK->Prop)(d:TE)(t:TA):TE:=fun b H Q=>d b H λx a=>tyV K T x a/\t b a λe c=>r x e c Q
variable {o e:Expr}{es:List Expr}{to:TE}{t:TA}{name:Str}{apos cpos:Pos}{T id:String}{r:V->AF->Hp->VK->Prop}
def zlR (n:PlainAttrs T)(c:Slot T name id)(d:typeOf (.builtin id)=pure (.type "method_descriptor"))(l:MtR X id r)(m:PE X o to)
  (a:OG o name X.env (eval o X.env)=eval o X.env:=by rfl) (b:(apos.endLine==cpos.line)=true:=by rfl):PE X (.Call (.Attribute o name apos) [] [] cpos) (zs1 X.K T r to):=by
 intro f s i H Q I h;refine wpAny_Call_method0_late a b (thn (m f s i H _ I h) λv s1 ⟨x,j,e,g,ty,p⟩=>?_);obtain⟨h1,h2⟩:=zlQ e g ty;exact d9 T id n c d h1 h2 (PH rfl (PySem.evalArgs_none (l f s1 i j x [] v [] Q e g .nil p)))
def ZD (B:PlainAttrs T)(f:Slot T name id)(i:typeOf (.builtin id)=pure (.type "method_descriptor"))(y:MtR X id r)(z:PE X o to)(w:PA X (e::es) t)
  (b:OG o name X.env (eval o X.env)=eval o X.env:=by rfl)
  (d:((S5 cpos (WO (e::es) X.env)).all (λx=>!x.1)&&(backToKw cpos (keywordEach [] X.env)).all (λx=>x.1.isSome)
   && decide ((e::es).length+([]:List N7).length+(if ([]:List N7).isEmpty then 0 else 1)<30))=true:=by rfl)
  (c:(apos.endLine==cpos.line)=true:=by rfl) (A:WO (e::es) X.env=(false,eval e X.env)::WO es X.env:=by rfl) (a:(S5 cpos (WO es X.env)).any (·.1)=false:=by rfl) :
  PE X (.Call (.Attribute o name apos) (e::es) [] cpos) (tBM X.K T r to t):=by
 intro g s j H Q I h;refine wpAny_Call_method_late b d c rfl (thn (z g s j H _ I h) λv s1 ⟨x,p,l,n,ty,D⟩=>?_);obtain⟨h1,h2⟩:=zlQ l n ty;refine d9 T id B f i h1 h2 ?_;have m:=w cpos g s1 j p _ l D;rw[A]at m ⊢;refine PH (by show (false || (S5 cpos (WO es X.env)).any (·.1))=false;rw[a]<;>rfl) (O7 ?_);exact thn m λL J ⟨M,q,u,G,E⟩=>y g J j q x M v L Q u n G E
/- xs.append(e),list.index on a module's tuple .. are MtR facts of 06m -/
end
def MtM (X:Cx)(id:String)(r:V->AF->Hp->VK->Prop):Prop :=
 ∀(a:List (Addr×Obj)) (s:X8) (d:St) (H:Hp) (x:V) (c:AF) (v:Y1) (b:List Y1) (Q:VK),Inv X a d H s->RelV x v->Vals c b->r x c H Q ->
  Xh (Xn X.prog X.w) X.A (call (.builtin id) (v::b)) (EP X a d Q) X.xe s
theorem Vals.one:∀{x:V} {a:List Y1},Vals [x] a->∃u,a=[u]/\RelV x u
 | _,_,.cons r .nil=>⟨_,rfl,r⟩
theorem Vals.rep {xs:AF}{a:List Y1}(h:Vals xs a):∀k:Nat,Vals (W6 k xs).flatten (W6 k a).flatten
 | 0=>.nil
 | k+1=>by
  rw[V2,V2,WG,WG];exact Vals.append h (Vals.rep h k)
theorem foldl_rep (b:List Y1):∀(k:Nat) (a:List Y1),
  List.foldl (λd f=>d++f) a.toArray (W6 k b.toArray)=(a++(W6 k b).flatten).toArray
 | 0,a=>"s"
 | k+1,a=>by
  have e:a.toArray++b.toArray=(a++b).toArray:="s"
  have c:(a++b)++(W6 k b).flatten=a++(W6 (k+1) b).flatten:=by
   rw[V2,WG,WP]
  rw[<- c,<- foldl_rep b k (a++b),<- e,V2,Wp]
section
variable {X:Cx}{bQ:List (Addr×Obj)}{σ:St}{H:Hp}{s:X8}{l b:Addr}{xs ys zs:AF}
def Inv.lset {a its':List Y1}{n:Nat}{f:Array Y1->Array Y1}{t':Nat}(I:Inv X bQ σ H s)(b:H l=some (.lst xs))
  (e:s.heap.get? l=some { cls:=.type "list",data:=.seq a.toArray n }) (d:f a.toArray=its'.toArray) (h:Vals ys its') (i:ys.length<=Xy) :
  Inv X bQ σ (upd H l (.lst ys)) { s with heap:=s.heap.update l (U6 f),toks:=t' }:=by
 have q:=PySem.IsL.update e f;rw[d]at q;refine I.write (x:=l) (e:=l) (by rw[b];exact trivial) (.inl rfl) (λj u c g=>(Ub s.heap (U6 f) (Vh c)).trans g) ⟨_,q⟩ ?_;exact⟨i,its',_,h,q⟩
def Inv.lnew {a:List Y1}{t':Nat}(I:Inv X bQ σ H s)(b:Vals ys a)(c:ys.length<=Xy) :
  Inv X bQ σ (upd H s.heap.objs.size (.lst ys)) { s with heap:=s.heap.push { cls:=.type "list",data:=.seq a.toArray },toks:=t' } :=
 I.laid (λ_ _ q=>X6 _ q) (XW _) ⟨c,a,0,b,Xf _ rfl⟩
theorem Inv.fresh (I:Inv X bQ σ H s):H s.heap.objs.size=none:=I.hok.fresh (XW _)
def Inv.lstM (I:Inv X bQ σ H s)(b:H l=some (.lst xs)):xs.length<=Xy/\∃(a:List Y1) (n:Nat),Vals xs a/\xs.length=a.length/\s.heap.get? l=some { cls:=.type "list",data:=.seq a.toArray n }:=by
 refine f9 (λz a n r e=>?_) (I.hok l _ b);exact⟨z,a,n,r,r.length,e⟩
def zgQ {n:Nat}(h:n<=Xy):UB n=false:=by
 unfold UB;exact bg "a"
end
section
variable {X:Cx}
def zn4:V->AF->Hp->VK->Prop:=λx b H Q=>∃l a y,x=.ref l/\b=[y]/\H l=some (.lst a)/\a.length<Xy/\Q .non (upd H l (.lst (a++[y])))
def zbP:MtM X "list.append" zn4:=by
 intro g s w H x o v m Q I f d h;revert h;refine fC λl p y z0 z1 b j q=>?_;subst z0 z1;cases f;obtain⟨u,rfl,c⟩:=d.one;refine fQ (λz a n r i e=>?_) (I.lstM b);refine Tg F.slot_list_append ⟨_,e,rfl⟩ F.entry_list_append (F.args_list_append_2 _ _) (PySem.list_append l a.toArray n u (by rw[Xr];lia)) ⟨e,?_⟩;refine⟨.non,_,I.lset (its':=a++[u]) b e "s" (r.append (.cons c .nil)) ?_,rfl,q⟩;rw[X5,Pr];lia
def zn5:V->AF->Hp->VK->Prop:=λx d H Q=>∃l b a c,x=.ref l/\d=[.ref b]/\H l=some (.lst a)/\H b=some (.lst c)/\a.length+c.length<=Xy/\Q .non (upd H l (.lst (a++c)))
def zeJ:MtM X "list.extend" zn5:=by
 intro B s O H x J v G Q I A y h;revert h;refine fX λl b L N z0 z1 g j E q=>?_;subst z0 z1;cases A;obtain⟨u,rfl,w⟩:=y.one;cases w;refine fQ (λz c n r D e=>?_) (I.lstM g);refine fQ (λM a o p m i=>?_) (I.lstM j);have f:c.toArray.size+a.toArray.size<=Xy:=by rw[Xr,Xr];lia
 have d:¬ (!c.toArray.isEmpty&&UB (c.toArray.size+a.toArray.size))=true:=by
  rw[zgQ f,Bool.and_false];exact XM
 refine Tg F.slot_list_extend ⟨_,e,rfl⟩ F.entry_list_extend (F.args_list_extend_2 _ _)
  (AutoSeq1.list_extend_list_list_0 l c.toArray n b a.toArray o d (by rw[Xr];lia) "a") ⟨e,i,?_⟩
 refine⟨.non,_,I.lset (its':=c++a) g e "s" (r.append p) ?_,rfl,q⟩;rw[X5];lia
def zs3:R2:=λx y H Q=>∃l b a c,x=.ref l/\y=.ref b/\H l=some (.lst a)/\H b=some (.lst c)/\a.length+c.length<=Xy/\∀p,H p=none->Q (.ref p) (upd H p (.lst (a++c)))
def J9:OpR X (Uv .Add) zs3:=by
 intro w s L H x y v u Q I o p h;revert h;refine fX λl b E J z0 z1 i g B q=>?_;subst z0 z1;cases o;cases p;refine fQ (λz c n r A e=>?_) (I.lstM i);refine fQ (λG a D m j d=>?_) (I.lstM g);refine PySem.P.add_list e d ?_ (by rw[Xr,Xr];lia);have f:c.toArray++a.toArray=(c++a).toArray:="s"
 rw[f];exact⟨.ref _,_,I.lnew (t':=s.toks) (r.append m) (by rw[X5];lia),rfl,q _ I.fresh⟩
def zs4:R2:=λx y H Q=>∃l k a,x=.ref l/\y=.int k/\H l=some (.lst a)/\-(2^63)<=k/\k<2^63/\a.length*k.toNat<=Xy /\
 ∀p,H p=none->Q (.ref p) (upd H p (.lst (W6 k.toNat a).flatten))
def len_rep {α:Type}(xs:List α)(k:Nat):(W6 k xs).flatten.length=k*xs.length:=by
 induction k with
 | zero=>simp
 | succ k a=>rw[V2,WG,X5,a,PN,S2]
def zio:OpR X (Uv .Mult) zs4:=by
 intro J s N H x y v u Q I D E h;revert h;refine fC λl k M z0 z1 A h1=>fL λh2 p q=>?_;subst z0 z1;cases D;obtain⟨t,rfl⟩:=E;refine fQ (λz b n r B e=>?_) (I.lstM A);have g:b.toArray.size*k.toNat<=Xy:=by rw[Xr,<- B];exact p
 have d:¬ b.toArray.size*k.toNat>(2^63-1)/8:=by
  have:(Xy:Nat)<=(2^63-1)/8:="d"
  lia
 have f:¬ (!Builtin.List.listFitsIndex k)=true:=by
  rw[fitsIndex_both h1 h2];exact XM
 have c:¬ UB (b.toArray.size*k.toNat)=true:=by
  rw[zgQ g];exact XM
 have i:List.foldl (λj o=>j++o) #[] (W6 (if b.toArray.isEmpty=true then 0 else k.toNat) b.toArray)=(W6 k.toNat b).flatten.toArray:=by
  have w:∀m:Nat,List.foldl (λj o=>j++o) #[] (W6 m b.toArray)=(W6 m b).flatten.toArray:=λm=>by
   have:=foldl_rep b m [];rw[T8]at this;exact this
  rw[w];cases b with
  | nil=>simp
  | cons a L=>rw[bq "s"]
 refine wpAny_binaryOp_repeat_ref (T:="list") (U:="int") "d" ⟨_,e,rfl⟩ (λG=>typeIs_int G k t) noFill_list_mul F.fills_int_mul F.slot_int_rmul repeat_list F.slot_int_index.lookup
  (Tg F.slot_int_rmul (typeIs_int s k t) F.entry_int_rmul (F.args_int_rmul_2 _ _) (int___rmul___int_list k t l b.toArray n)
   ⟨e,rfl,⟨_,e,rfl⟩,Tg F.slot_list_mul ⟨_,e,rfl⟩ F.entry_list_mul (F.args_list_mul_2 _ _) (AutoListH.list___mul___list_int_3 l b.toArray n k t f d c) ⟨e,?_⟩⟩)
 rw[i];exact⟨.ref _,_,I.lnew (t':=s.toks) (r.rep k.toNat) (by rw[len_rep,TD];exact p),rfl,q _ I.fresh⟩
end
end L2
namespace Att
open PySem PySem.W PySem.Calls PyProof.Rows
def zcv {P:Of}{h:Heap}:∀(c:List Int) (vs:List Y1),WellAll P h vs (c.map WData.int)->OR vs c:=by
 intro c;induction c with
 | nil =>
  intro vs w;rw[R5]at w;cases w;exact .nil
 | cons n c d =>
  intro vs w;rw[Xe]at w;cases w with
  | cons a b =>
   cases a;exact .cons _ _ (d _ b)
def zkH {l:OpenLaw}{n:Nat}(u:l.most=some n){P:Of}{h:Heap}{args:List WData}{e:List Y1}
  (c:l.row.toRowW.claim.pre args=true) (o:WellAll P h e args) :
  ∃a vs b,e=[WF a]/\args=[WData.list (b.map WData.int)]/\h.get? a=some { cls:=.type "list",data:=.seq vs.toArray }/\OR vs b/\b.length<=n:=by
 have m:WShape.hasAll [] args [.list .int]=true:=(pre_splitW c).1;have p:l.pre.holds [] { args:=args }=true:=(pre_splitW c).2;obtain⟨d,r,rfl,h1,h2⟩:=hasAllW_cons m;obtain rfl:=hasAllW_nil h2;obtain⟨z,rfl,s⟩:=hasW_list h1;obtain⟨b,rfl⟩:=items_int s;have g:b.length<=n:=by
  unfold OpenLaw.pre at p;have i:(WTm.not (.lt (.lit (.int (n:Int))) (.len (.arg 0)))).holds [] { args:=[.list (b.map .int)] }=true:=by
   have i:=(holds_andW p).1;rw[u]at i;exact i
  have j:=condW_of i (w_not (w_lt w_lit (w_len_list (w_arg rfl))));rw[ZB]at j;refine Nat.le_of_not_lt λq=>?_;have w:(n:Int)<((b.length:Nat):Int):="a"
  first
   | (rw[br w]at j;exact absurd j "d")
   | (simp at j;lia)
 cases o with
 | cons x y =>
  cases y;cases x with
  | list v f=>exact⟨_,_,b,rfl,rfl,v,zcv b _ f,g⟩
def zkI (l:OpenLaw)(args:List WData):l.row.toRowW.claim.post args (.bool true) args=true :=
 postW_of (r:=l.row.toRowW) (X:=(true==true))
  (show WShape.has [] (.bool true) .bool=true by first | rfl | decide | simp[WShape.has,WShape.arms,WShape.armsAll])
  (show (WTm.eq .res (.lit (.bool true))).value [] { args:=args,res:=some (.bool true),after:=args }=some (.bool (true==true)) from w_eq_bool (w_res rfl) w_lit) rfl
def zgR {l:OpenLaw}{n:Nat}{q:Xv}{loose:AE}{XP:(Str->Option Y1)->Heap->Prop}{YP:W5->Heap->Prop}{d:DefRec}
  (hn:l.most=some n) (x:d.params.defaults=[])
  (call:∀(w:W5) (c b:X8) (p A:Str->Option Y1) (g:Addr) (o:Obj) (B m doc:Y1) (a:Addr) (vs:List Y1) (s:List Int),
   Ground q loose [] XP w c p A b.heap->YP w b.heap ->
   b.heap.get? g=some o->o.data=.func (docDef d.name d.params d.body d.scope B m doc)->b.heap.CodeRec m d.name->p d.name=some (.ref g) ->
   b.heap.get? a=some { cls:=.type "list",data:=.seq vs.toArray }->OR vs s->s.length<=n->b.gens=#[] ->
   Uj (Xn l.prog w) OQ (.call (.ref g) ⟨[.ref a],[]⟩) (λr u=>r=.ok (.ret (.bool true))/\OldK b.heap u.heap/\u.os=b.os/\Sy u.gens) b) :
  WalkO q loose XP YP l.row.toRowW d [] (λf vs=>PySem.call f vs):=by
 intro w c b p A G Y g o B m doc J kV ho N v E y O D I as j H aa z Q;obtain rfl:J=.none:=Dflts.none E x;obtain rfl:kV=.none:=Dflts.noKw E;refine fC (λa vs s z0 z1 i e h=>?_) (zkH hn j z);subst z0 z1;refine enter_call (S4 (call w c b p A g o B m doc a vs s G Y ho (fd_plain N) v y i e h O) λr u hq=>?_);obtain⟨rfl,h2,L,M⟩:=hq;exact⟨.inl (dI (.bool true) (.bool true) [] rfl (λ_=>rfl) (.bool true) (zkI l _) (λ_=>⟨List.Pairwise.nil,λ_ U=>(nomatch U)⟩)),h2,L,M⟩
end Att
namespace L2
open PySem PySem.Spec PyProof.Rows
theorem zeK:∀{vs:List Y1} {a:List Int},OR vs a->Vals (a.map V.int) vs
 | _,_,.nil=>.nil
 | _,_,.cons n t h=>.cons ⟨t,rfl⟩ (zeK h)
def zqk (H:Hp):Prop:=∀b,H b=none\/∃o a,H b=some (.frz o (.lst a))
def zlS {P:Xv}{w:W5}{K:X0}{N mb:Str->Option Y1}{CX:CXT}{k:Nat}{fa a:Addr}{fd:Xz}{x:Str}{sp:Sp}{c:X8}{vs:List Y1}{O:List Int}
  (KX:K.In c.heap) (I:c.heap.Ns XO N) (g:c.heap.Ns Oy mb) (ab:∀x:Str,x ≠ "__name__"->mb x=U2 x) (G:c.heap.NoLimit) (hg:c.gens=#[])
  (U:c.heap.get? a=some { cls:=.type "list",data:=.seq vs.toArray }) (hi:OR vs O) (hl:O.length<=Xy) (hr:ZY k OQ)
  (F:∀i:Heap,K.In i->i.Ns XO N->zT P w K N i CX k fa fd [x] sp) (y:∀(s:X8) (u:Y1),Ot s fd ⟨[u],[]⟩ [(x,u)])
  (ac:∀H:Hp,zqk H->SqL K H a (O.map V.int)->sp [.ref a] H (λv _=>v=.bl true) λ_ _ _=>False)
  (aa:∀H e j,CX [] H c (λ_ _ _=>False) e j->False) :
  Uj (Xn P w) OQ (.call (.ref fa) ⟨[.ref a],[]⟩) (λr j=>r=.ok (.ret (.bool true))/\OldK c.heap j.heap/\j.os=c.os/\Sy j.gens) c:=by
 have rv:=zeK hi;have M:=hi.length;have p:∀H:Hp,zqk H->SqL K H a (O.map V.int)->HOk P w H c.heap->(∀b,H b≠none->b=a)->(H a≠none->K.lookup a=none) ->
   Uj (Xn P w) OQ (.call (.ref fa) ⟨[.ref a],[]⟩) (λr j=>r=.ok (.ret (.bool true))/\OldK c.heap j.heap/\j.os=c.os/\Sy j.gens) c:=by
  intro H hO hS J hA hK;have f:∀{b:Addr} {o:Obj},c.heap.get? b=some o->H b=none->(zfF c.heap H).get? b=some o:=λe n=>zlF e n;have ae:∀{b:Addr} {o:Obj} {D:Array Od} {B:Nat},c.heap.get? b=some o->o.data=.dict D B->H b=none:=λ{b o D B} e d=>by
   cases q:H b with
   | none=>rfl
   | some u =>
    have Y:b=a:=hA b (by rw[q];simp);subst Y;rw[U]at e;cases e;have d':Data.seq vs.toArray _=Data.dict D B:=d;cases d'
  have l:∀{b:Addr} {m:Str->Option Y1},c.heap.Ns b m->(zfF c.heap H).Ns b m:=λ{b m} ⟨o,D,B,e,d,r⟩=>⟨o,D,B,f e (ae e d),d,r⟩;have E:K.In (zfF c.heap H):=λb o e=>f (KX b o e) (by
   cases q:H b with
   | none=>rfl
   | some u =>
    have Y:b=a:=hA b (by rw[q];simp);subst Y;rw[hK (by rw[q];simp)]at e;cases e)
  have hM:Mod K N (zfF c.heap H):=⟨E,l I,⟨mb,l g,ab⟩,let ⟨mc,h1,h2⟩:=G;⟨mc,l h1,h2⟩⟩;have e0:zn0 P w K N (zfF c.heap H) OQ [] c H:=⟨rfl,hM,λb o e=>znY e,Nat.le_of_eq (zkA _ _),trivial,λb g=>absurd (show b∈([]:List Addr) from g) "s",J,.of_eq hg⟩;refine S4 ((F _ E (l I)).run OQ [] c H ⟨[.ref a],[]⟩ [.ref a] [.ref a] _ _ hr e0 (y c (.ref a)) (.cons rfl .nil) (ac H hO hS)) λr j h=>?_;cases r with
  | error e=>exact(aa H e j h).elim
  | ok fl =>
   cases fl with
   | next=>exact U7 h
   | brk=>exact U7 h
   | cont=>exact U7 h
   | ret u =>
    revert h;refine fY λv H' os A un L r' q=>?_;have q':v=.bl true:=q;subst q';obtain rfl:u=Ti true:=r';refine⟨rfl,OldK.of_keep λb o e=>?_,os,A⟩;cases q:H b with
    | none=>exact un.keep b o e q (by intro z;exact absurd (show b∈([]:List Addr) from z) "s") "s"
    | some u =>
     rcases hO b with z | ⟨ob,xs,z⟩
     .rw[q]at z;cases z
     .have z2:=un.frzs b ob _ z;obtain⟨e1,_⟩:=J b _ z;obtain⟨e2,_⟩:=L b _ z2;rw[e]at e1;cases e1;exact e2
 cases hk:K.lookup a with
 | some o =>
  have e:=KX a o hk;rw[U]at e;cases e;refine p (λ_=>none) (λ_=>.inl rfl) (.inr ⟨_,vs.toArray,_,hk,rfl,rfl,rfl,by rw[Xr,M];exact hl,↑rv⟩) (λb u z=>by have Q:(none:Option HO)=some u:=z;cases Q) (λb z=>absurd rfl z) λz=>absurd rfl z
 | none =>
  refine p (λb=>if b=a then some (.frz { cls:=.type "list",data:=.seq vs.toArray } (.lst (O.map V.int))) else none) (λb=>?_) (.inl (.inr ⟨{ cls:=.type "list",data:=.seq vs.toArray },bw rfl⟩)) (λb u z=>?_) (λb z=>?_) λ_=>hk
  .by_cases g:b=a
   .exact .inr ⟨_,_,bw g⟩
   .exact .inl (bq g)
  .by_cases g:b=a
   .have Q:=(bw g).symm.trans z;cases Q;subst g;exact⟨U,by rw[ZB];exact hl,vs,_,rv,U⟩
   .have Q:=(bq g).symm.trans z;cases Q
  .by_cases g:b=a
   .exact g
   .exact absurd (bq g) z
def zjJ {l:Pw}{n k:Nat}{q:Xv}{loose:AE}{XP:(Str->Option Y1)->Heap->Prop}{YP:W5->Heap->Prop}{d:DefRec}{K:Of->X0}{CX:W5->CXT}{sp:W5->Sp}{x:Str}
  (hn:l.most=some n) (E:n<=Xy) (B:d.params.defaults=[]) (hr:ZY k OQ)
  (Q:∀(w:W5) (h:Heap),YP w h->(K w.params).In h)
  (F:∀(w:W5) (j:Str->Option Y1) (r:Addr) (h:Heap),(K w.params).In h->h.Ns XO j->j d.name=some (.ref r) ->
   ∃z:Xz,(∀(s:X8) (u:Y1),Ot s z ⟨[u],[]⟩ [(x,u)]) /\
    ∀base:Heap,(K w.params).In base->base.Ns XO j->zT l.prog w (K w.params) j base (CX w) k r z [x] (sp w))
  (I:∀(w:W5) (H:Hp) (a:Addr) (y:List Int),y.length<=n->zqk H->SqL (K w.params) H a (y.map V.int)->sp w [.ref a] H (λv _=>v=.bl true) λ_ _ _=>False)
  (A:∀(w:W5) (H:Hp) (s:X8) (e:Y1) (s':X8),CX w [] H s (λ_ _ _=>False) e s'->False) :
  OI q loose XP YP l.row.toRowW d [] (λf vs=>PySem.call f vs):=by
 refine Att.zgR hn B λw L p j mb r o pm cd doc a vs y G Y ho hd aa D m i c hg=>?_;have J:=Q w _ Y;obtain⟨z,U,M⟩:=F w j r _ J G.T.g D;exact zlS J G.T.g G.T.b G.T.builtins G.T.nolimit hg m i (X7 c E) hr M U (λH N O=>I w H a y c N O) λH e s'=>A w H p e s'
end L2
/- THE LAST THEOREM (shape;LID,My.* are yours):
   My.Adr: a structure of the addresses that your layer names (classes,functions);My.Txt K t: a structure (Prop) of the equations over K;
   My.txt_mk:{K} {implicit addresses ..} (e1:nsIn K XO "law"=some (some (.ref f))) (e2:K.lookup f=some ⟨oc,od,.func (fnOf "law" "law" params body scope dV kV doc pm an cdv ct),sl⟩) (e3:codeIn K cdv "law"=true) ..:∃t,My.Txt K t
set_option maxRecDepth 100000 in
set_option maxHeartbeats 0 in
theorem PySem.Challenge.cw_LID_holds : PySem.Challenge.rw_LID.Holds := by
 w_on;o_law;k_head;(case hw=>w_witness2);k_fill;refine L2.zjJ (l:=PySem.Challenge.rw_LID) (n:=63) (k:=40) (x:="script") (CX:=λw=>..) (sp:=λ_=>My.zs5) rfl "d" rfl ⟨rfl,"d","d"⟩ (λw h Y=>PySem.W.kIn_of Y) ?F ?S ?C
 case F =>
  intro w mg fa h KX G hmg
  have T:∃t,My.Txt (L2.KOf KX) t:=by
   dsimp only[L2.KOf]                          -- K must stand as «<heap const> w.params» for k_is;refine' My.txt_mk ?e1 ?e2 ?e3 ..;(case e1=>PySem.W.k_is)                    -- in the order: a name->its address->its object->its parts;(case e2=>PySem.W.k_is);..
  obtain⟨t,T⟩:=T
  have e0:=hmg.symm.trans (Wh KX G T.law)
  cases e0                                       -- fa is the law's own address
  exact⟨_,λs u=>.of_eq rfl,λbase kb nb=>My.law_fn T kb nb⟩     -- if «.of_eq rfl» comes too early: refine' ⟨_,?b,λbase kb nb=>My.law_fn T kb nb⟩;exact λs u=>.of_eq rfl
 case S=>exact λw H a ns hl hO hS=>..
 case C=>exact ..
(the tactic k_is has no namespace: write k_is) -/
namespace L2
open PySem PySem.Spec PyProof.Rows
def Zt (s:Stmt):Arguments:=match s with
 | .FunctionDef _ a _ _ _ _ _ _ _ _=>a
 | _=>{ posonlyargs:=[],args:=[],vararg:=none,kwonlyargs:=[],kw_defaults:=[],kwarg:=none,defaults:=[] }
def xQ (s:Stmt):List Stmt:=match s with
 | .FunctionDef _ _ b _ _ _ _ _ _ _=>b
 | _=>[]
def zo (s:Stmt):UH:=match s with
 | .FunctionDef _ _ _ _ _ _ a _ _ _=>a
 | _=>{ kind:=.function,names:=[],isGenerator:=false,isCoroutine:=false }
abbrev CX0:CXT:=λ_ _ _ _ _ _=>False
abbrev E0:XK:=λ_ _ _=>False
def zrU {X:Cx}:Passes CX0 X E0:=λ_ _ _ _ _ _ _ h=>h.elim
structure Fun (K:X0)(x qual:Str)(st:Stmt)(f:Addr)(fd:Xz):Prop where
 ex:∃(oc:Y1) (od:Option Addr) (kV doc pm:Y1) (an:Option Addr) (cdv ct:Y1) (osl:Array (Option Y1)),
  fd=UE x qual (Zt st) (xQ st) (zo st) .none kV doc pm an cdv ct/\K.lookup f=some ⟨oc,od,.func fd,osl⟩/\SW K cdv qual=true
 kp:TL K (.ref f)=true
section
variable {P:Xv}{w:W5}{K:X0}{mg:Str->Option Y1}{base:Heap}
theorem cxK {CX P w K mg base N q sc f cd A o s H E}:(zgN CX P w K mg base N q sc f cd A o s H E).K=K:=rfl
theorem cxP {CX P w K mg base N q sc f cd A o s H E}:(zgN CX P w K mg base N q sc f cd A o s H E).prog=P:=rfl
theorem cxW {CX P w K mg base N q sc f cd A o s H E}:(zgN CX P w K mg base N q sc f cd A o s H E).w=w:=rfl
def Fun.ok {x b:Str}{st:Stmt}{f:Addr}{j:Xz}{N ps:AE}{k:Nat}{sp:Sp}(F:Fun K x b st f j)(S:zB N ps (zo st))(i:∀vs H Q E,sp vs H Q E->vs.length=ps.length)
  (d:∀(c:Y1) (A:WL) (a:List Env) (s:X8) (H:Hp) (vs:AF) (Q:VK) (E:XK),ZY k (A.deeper (PX b (zo st) s.heap.objs.size f c))->sp vs H Q E ->
   ∃t,PSs (zgN CX0 P w K mg base N b (zo st) f c A a s H E).nox (xQ st) t/\t { nx:=λ_ l=>Q .non l,rt:=Q } (start N vs) H):zT P w K mg base CX0 (k+1) f j ps sp:=by
 refine fB (λu v kV doc=>fB λy p c r=>fu λo z0 n e=>?_) F.ex;subst z0;refine zpx n e S i λA a s H vs Q E m g=>?_;obtain⟨t,h,q⟩:=d c A a s H vs Q E m g;exact⟨t,h.nox,q⟩
def Fun.binds {x a:Str}{st:Stmt}{f:Addr}{i:Xz}{ps:AE}(F:Fun K x a st f i)
  (h:∀(kV doc e:Y1) (c:Option Addr) (b d:Y1) (g:List Y1),g.length=ps.length->bindArgs (UE x a (Zt st) (xQ st) (zo st) .none kV doc e c b d) ⟨g,[]⟩=pure (ps.zip g)):Binds K i ps []:=by
 refine fB (λn o kV doc=>fB λe c b d=>fu λl z0 m j=>?_) F.ex;subst z0;exact .all (h kV doc e c b d)
def zlT {x a:Str}{st:Stmt}{f:Addr}{i:Y1}{j e:Option Addr}{d:Array (Option Y1)}{kV doc h b g:Y1}(l:K.lookup f=some ⟨i,j,.func (UE x a (Zt st) (xQ st) (zo st) .none kV doc h e b g),d⟩)
  (c:SW K b a=true) (k:TL K (.ref f)=true):Fun K x a st f (UE x a (Zt st) (xQ st) (zo st) .none kV doc h e b g):=⟨(e8 i j kV doc h e (eu b g d rfl l c)),k⟩
end
section
variable {X:Cx}
def pv (i:Nat){x:Str}{pos:Pos}(b:X.N[i]?=some x:=by rfl)(d:Vis X.env.scope x:=by first | exact VI rfl | exact Pg (VI rfl) | exact Pg (Pg rfl))(c:(x==("__debug__":Str))=false:=by decide)
  (a:(x==("__classdict__":Str))=false:=by decide):PE X (.Name x pos) (zrz i):=zp4 b d c a
end
def YW {A B:Prop}(h:B):if false=true then A else B:=by
 rw[bq XM];exact h
def zbj {A B:Prop}(h:A):if true=true then A else B:=by
 rw[bw rfl];exact h
def zfK {c A B:Prop} [Decidable c](h1:c->A)(h2:¬ c->B):if c then A else B:=by
 by_cases h:c
 .rw[bw h];exact h1 h
 .rw[bq h];exact h2 h
def zrV {c A B:Prop} [Decidable c](a:c)(h:B):if (!decide c)=true then A else B:=by
 rw[br a];exact YW h
def zq (H a:Hp):Prop:=∀b o,H b=some o->a b=some o
def zq.refl (H:Hp):zq H H:=λ_ _ h=>h
def zq.trans {H d e:Hp}(a:zq H d)(b:zq d e):zq H e:=λc o h=>b c o (a c o h)
def zq.free {H a:Hp}(e:zq H a){l:Addr}(h:a l=Option.none):H l=Option.none:=by
 cases q:H l with
 | none=>rfl
 | some o =>
  rw[e l o q]at h;cases h
def zq.seq {K:X0}{H b:Hp}{a:Addr}{xs:AF}(e:zq H b)(h:SqL K H a xs):SqL K b a xs:=by
 rcases h with (h | ⟨o,h⟩) | h
 .exact .inl (.inl (e _ _ h))
 .exact .inl (.inr ⟨o,e _ _ h⟩)
 .exact .inr h
end L2
set_option maxHeartbeats 4000000
namespace L2
open PySem PySem.Spec PyProof.Rows
section
variable {X:Cx}
def jo:OpR X (Uv .Mult) (rI IntMulOk λi j=>.int (i*j)):=opI λ_ _ _ _ _ _ _ a q=>mul_int q a
def yV (_ j:Int):Prop:=0<j/\j.natAbs.log2<9000
def zlU:OpR X (Uv .FloorDiv) (rI yV λi j=>.int (i/j)):=opI λi j _ _ _ _ _ a q=>by
 have h1:(0:Int)<j:=a.1;exact floordiv_int "a" (by rw[RL i "a"];exact q) (.inl (PyProof.noPylong_of_log2 a.2))
def yV.small {i j:Int}(h:0<j)(h':j<1073741824):yV i j:=by
 refine⟨h,?_⟩;have h0:j.natAbs≠0:="a"
 have:j.natAbs.log2<30:=(Nat.log2_lt h0).mpr "a";lia
def yV.big {i j:Int}(h:0<j)(h':j.natAbs<2^8000):yV i j:=by
 refine⟨h,?_⟩;have h0:j.natAbs≠0:="a"
 have:j.natAbs.log2<8000:=(Nat.log2_lt h0).mpr h';lia
def zef {i j:Int}(h1:-(2^64)<j)(h2:j<2^64):IntMulOk i j:=IntMulOk.of_right (intBits_le_64 h1 h2)
def zn6 {i j:Int}(h1:i.natAbs<2^8000)(h2:j.natAbs<2^8000):IntMulOk i j:=IntMulOk.of_le (m:=8000) (n:=8000) (intBits_le_iff.mpr h1) (intBits_le_iff.mpr h2) "d"
def zrW (T U:String):Option Bool:=if (PU T==PU U)=true then some true else if PySem.W.kitMeta U=true then (fastBuiltinMro T).map (·.contains (.type U)) else none
def zql (K:X0){T U:String}{b:Bool}(e:zrW T U=some b):Xa K (.type T) (.type U)=some b:=e
def Qz:jm X (.builtin "isinstance") (λxs H Q=>∃x T U b,xs=[x,.ty U]/\zbO X.K H x (.type T)/\zrW T U=some b/\Q (.bl b) H):=by
 intro f s j H xs g Q I r h;revert h;refine fM λx T U b z0 ty e q=>?_;subst z0;obtain⟨u,i,rfl,c,a⟩:=vals2 r;cases a;exact zkE I c ty (zql X.K e) λd=>⟨.bl b,H,I.tok d,rfl,q⟩
end
def jQ {b:Bool}{A B:Prop}(e:b=true)(h:A):if b=true then A else B:=by
 rw[bw e];exact h
def qw {b:Bool}{A B:Prop}(e:b=false)(h:B):if b=true then A else B:=by
 subst e;exact YW h
structure zm (K:X0)(mg:Str->Option Y1)(x:Str)(st:Stmt)(ps:AE)(f:Addr)(fd:Xz):Prop where
 F:Fun K x x st f fd
 g:mg x=some (.ref f)
 b:Binds K fd ps []
def jJ {α:Type}{xs:List α}{i:Int}{v:α}(h:0<=i)(e:xs[i.toNat]?=some v):atI xs i=some v:=by
 have:=zbh e;rwa [Vr h]at this
def zs6 (t u:TS):TS:=λD c H=>∃M:St->Hp->Prop,t { D with nx:=M } c H/\∀ a b,M a b->u D a b
def zac {X:Cx}{st:Stmt}{a:List Stmt}{t u:TS}(h1:PS X st t)(h2:PSs X a u):PSs X (st::a) (zs6 t u):=by
 intro d s l H D I h;obtain⟨M,g,i⟩:=h;refine Rc (thn (h1 d s l H _ I g) λf s1 q=>?_);cases f with
 | next =>
  obtain⟨b,c,e,j⟩:=q;exact h2 d s1 b c D e (i b c j)
 | brk=>exact q
 | cont=>exact q
 | ret v=>exact q
def zc {H:Hp}{l:Addr}{o:HO}(h:H l=none):zq H (upd H l o):=λb u e=>by rw[zg (zh e h)];exact e
mutual
inductive Rdv (K:X0)(H:Hp):V->V6->Prop
 | non:Rdv K H .non .none
 | bl (b:Bool):Rdv K H (.bl b) (.bool b)
 | int (i:Int):Rdv K H (.int i) (.int i)
 | str (x:Str):Rdv K H (.str x) (.str x)
 | lst {a:Addr} {xs:AF} {ds:List V6}:SqL K H a xs->ZZ K H xs ds->Rdv K H (.ref a) (.list ds)
 | tup {a:Addr} {xs:AF} {ds:List V6}:SqT K H a xs->ZZ K H xs ds->Rdv K H (.ref a) (.tuple ds)
inductive ZZ (K:X0)(H:Hp):AF->List V6->Prop
 | nil:ZZ K H [] []
 | cons {x:V} {d:V6} {xs:AF} {ds:List V6}:Rdv K H x d->ZZ K H xs ds->ZZ K H (x::xs) (d::ds)
end
section
variable {X:Cx}{bQ:List (Addr×Obj)}{σ:St}{H:Hp}{s:X8}
def zkJ {a:Addr}{xs:AF}{b:List V6}(I:Inv X bQ σ H s)(g:SqL X.K H a xs)(h:∀c,Vals xs c->∃as,Op s.heap c b as):∀u,RelV (.ref a) u->∃as,Reads s.heap u (.list b) as:=by
 intro u r;cases r;obtain⟨i,l,p,m⟩:=I.list g;obtain⟨as,j⟩:=h _ l;obtain⟨o,f,d,n,e⟩:=p.isList;exact⟨_,.list f d e ↑j⟩
def zkK {a:Addr}{xs:AF}{b:List V6}(I:Inv X bQ σ H s)(g:SqT X.K H a xs)(h:∀c,Vals xs c->∃as,Op s.heap c b as):∀u,RelV (.ref a) u->∃as,Reads s.heap u (.tuple b) as:=by
 intro u r;cases r;obtain⟨i,l,p,m⟩:=I.tuple g;obtain⟨as,j⟩:=h _ l;obtain⟨o,f,d,n,e⟩:=p;exact⟨_,.tuple f d e ↑j⟩
def ziq {v:V}{vs:AF}{d:V6}{b:List V6}(h:∀u,RelV v u->∃as,Reads s.heap u d as)(t:∀a,Vals vs a->∃as,Op s.heap a b as):∀a,Vals (v::vs) a->∃as,Op s.heap a (d::b) as:=by
 intro a r;cases r with
 | cons c e =>
  obtain⟨as,f⟩:=h _ c;obtain⟨bs,g⟩:=t _ e;exact⟨_,.cons f g⟩
def Rdv.reads (I:Inv X bQ σ H s){v:V}{d:V6}{u:Y1}(h:Rdv X.K H v d):RelV v u->∃as,Reads s.heap u d as :=
 Rdv.rec (motive_1:=λv d _=>∀u,RelV v u->∃as,Reads s.heap u d as) (motive_2:=λf e _=>∀c,Vals f c->∃as,Op s.heap c e as)
  (λu r=>by cases r;exact⟨_,.none⟩) (λb u r=>by cases r;exact⟨_,.bool b⟩) (λi u r=>by obtain⟨t,rfl⟩:=r;exact⟨_,.int i t⟩) (λx u r=>by obtain⟨t,rfl⟩:=r;exact⟨_,.str x t⟩)
  (λa _ h=>zkJ I a h) (λa _ h=>zkK I a h) (λc r=>by cases r;exact⟨_,.nil⟩) (λ_ _ h t=>ziq h t) h u
structure zlV (x y:V6):Prop where
 l1:x.canLay0=true
 l2:y.canLay0=true
 dp:x.depth<=64
def zn7 (K:X0)(neg:Bool):R2:=λx y H Q=>∃a b,Rdv K H x a/\Rdv K H y b/\zlV a b/\Q (.bl (if neg then !PyData.eqv a b else Xg a b)) H
def zc5 (l:X.A.units+64<VD):OpR X (Wf .Eq) (zn7 X.K false):=by
 intro bQ s σ H x y v u Q I f g h;revert h;refine fm λi j a b c q=>?_;obtain⟨as,d⟩:=a.reads I f;obtain⟨bs,e⟩:=b.reads I g;have:=c.dp;exact SeqAt.compareEq_reads d e c.l1 c.l2 "a" ⟨.bl _,H,I,rfl,q⟩
def j7 (l:X.A.units+64<VD):OpR X (Wf .NotEq) (zn7 X.K true):=by
 intro bQ s σ H x y v u Q I f g h;revert h;refine fm λi j a b c q=>?_;obtain⟨as,d⟩:=a.reads I f;obtain⟨bs,e⟩:=b.reads I g;have:=c.dp;exact SeqAt.compareNe_reads d e c.l1 c.l2 "a" ⟨.bl _,H,I,rfl,q⟩
def zn8 (K:X0)(neg:Bool):R2:=λx y H Q=>∃d a,Rdv K H x d/\Rdv K H y (.list a)/\d.canLay0=true/\Vb a=true/\d.depth<=60/\Q (.bl (if neg then !a.any (λz=>Xg z d) else a.any λz=>Xg z d)) H
def YX (m:X.A.units+64<VD):OpR X (Wf .In) (zn8 X.K false):=by
 intro bQ s σ H x y v u Q I g i h;revert h;refine fY λd l b c c1 a j q=>?_;obtain⟨as,e⟩:=b.reads I g;obtain⟨bs,f⟩:=c.reads I i;exact SeqAt.in_list_reads f e a c1 "a" ⟨.bl _,H,I,rfl,q⟩
def xY (m:X.A.units+64<VD):OpR X (Wf .NotIn) (zn8 X.K true):=by
 intro bQ s σ H x y v u Q I g i h;revert h;refine fY λd l b c c1 a j q=>?_;obtain⟨as,e⟩:=b.reads I g;obtain⟨bs,f⟩:=c.reads I i;exact SeqAt.notIn_list_reads f e a c1 "a" ⟨.bl _,H,I,rfl,q⟩
end
def jK (X:Cx)(N:AE)(scope:UH)(cl:List (Str×Addr))(C:Addr)(fp:List Addr)(bQ:List (Addr×Obj))(s:X8)(H:Hp):Cx where
 prog:=X.prog
 w:=X.w
 K:=X.K
 mg:=X.mg
 base:=X.base
 A:=X.A
 N:=N
 s₀:=s
 H₀:=H
 env:=compEnvC scope cl C X.env
 outer:=X.stack
 stack:=X.stack
 ex:=fp
 fn:=λ_=>false
 calm:=X.calm
 pn:=X.pn++bQ
 xe:=λ_ _=>False
def pull (src:List (Option Nat))(a:St):St:=src.map λo=>match o with
 | some j=>(a[j]?).getD none
 | none=>none
structure j8 (X:Cx)(N:AE)(src:List (Option Nat))(scope:UH)(cl:List (Str×Addr)):Prop where
 kind:scope.kind=.function
 nocell:∀y∈scope.names,y.2 ≠ .cell
 names:∀y∈scope.names,y.2=.local->scope.names.lookup y.1=some .local
 clos:Ow scope X.env=pure cl
 sub:∀x c,cl.lookup x=some c->X.env.cells.lookup x=some c
 has:∀x,((UG scope X.env).names.lookup x=some .cell\/(UG scope X.env).names.lookup x=some .free)->∃c,cl.lookup x=some c
 len:src.length=N.length
 pulls:∀(i j:Nat) (x:Str),N[i]?=some x->src[i]?=some (some j)->X.N[j]?=some x/\(X.env.kindOf x=some .cell\/X.env.kindOf x=some .free)/\((UG scope X.env).names.lookup x=some .cell\/(UG scope X.env).names.lookup x=some .free)
def zeg {a:UH}{b:Env}(d:∀y∈a.names,y.2 ≠ .free):(UG a b).names=a.names:=by
 show a.names.map _=a.names;refine map_eq_self λx c=>?_;obtain⟨n,k⟩:=x;have:(k==NameKind.free)=false:=by simpa using d _ c
 simp[this]
def j8.plain {X:Cx}{N:AE}{src:List (Option Nat)}{scope:UH}(kind:scope.kind=.function)(nocell:∀y∈scope.names,y.2 ≠ .cell)(nofree:∀y∈scope.names,y.2 ≠ .free)
  (names:∀y∈scope.names,y.2=.local->scope.names.lookup y.1=some .local) (len:src.length=N.length) (none:∀o∈src,o=none):j8 X N src scope [] where
 kind:=kind
 nocell:=nocell
 names:=names
 clos:=closureFor_none nofree
 sub:=λx c h=>nomatch h
 has:=λx h=>by
  rw[zeg nofree]at h;rcases h with h | h
  .exact absurd rfl (nocell _ (WD h))
  .exact absurd rfl (nofree _ (WD h))
 len:=len
 pulls:=λi j x _ h=>by
  have:=none _ (X4 h);cases this
def zcw (X:Cx)(a:List Expr)(t:TT):Prop :=
 ∀(d:List (Addr×Obj)) (s:X8) (b:St) (H:Hp) (Q:Bool->Hp->Prop),Inv X d b H s->t b H Q ->
  Xh (Xn X.prog X.w) X.A (forIn a true λc r=>if r=true then do let ok <- isTrue c X.env (eval c X.env);pure (Vo ok) else pure (Vo r)) (TP X d b Q) X.xe s
def zn9:TT:=λ_ H Q=>Q true H
def qx {X:Cx}:zcw X [] zn9:=λ_ _ _ H _ I h=>wpAny_tests_nil ⟨H,I,h⟩
def qp {X:Cx}{c:Expr}{t:TT}(h:PT X c t):zcw X [c] t:=λa s d H Q I b=>wpAny_tests_one (h a s d H Q I b)
def yW (J:It)(g:TG)(s:TT)(u:TE)(Q:VK)(D:Addr)(j:St)(q:Hp):Prop :=
 ∃W:Nat->Nat->St->Hp->Prop,(∃m,W 0 m j q)/\∀i m f d,W i m f d ->
  (J.stop i d/\Q (.ref D) d)\/(J.go i d/\∃N:St->Hp->Prop,(∀ c e,N c e->∃p,p<m/\W (i+1) p c e) /\
   ∀x l,J.yld i d x l->g x f l fun a r=>s a r λb n=>if b=true then u a n λy o=>∃h,o D=some (.lst h)/\h.length<Xy/\N a (upd o D (.lst (h++[y]))) else N a n)
def zce (e:TI)(src:List (Option Nat))(g:TG)(c:TT)(d:TE):TE:=fun b H Q=>e b H λJ a=>∀D,a D=none->yW J g c d Q D (pull src b) (upd a D (.lst []))
def Un.but {fs i:List Addr}{H g:Hp}{h h1 h2:Heap}{C:Addr}(u:Un fs i H g h h1)(j:h.objs.size<=C)(f:VL C h1 h2):Un fs i H g h h2:=by
 have d:∀b o,h.get? b=some o->b≠C:=λb o e=>Xi (XD (XE e) j);refine⟨λb o e n c a=>(f.2 b (d b o e)).trans (u.keep b o e n c a),λb o e n c a=>?_,u.free,λb o e a=>?_,u.tups,u.frzs,u.tbls⟩
 .obtain⟨m,q⟩:=u.slot b o e n c a;exact⟨m,(f.2 b (d b o e)).trans q⟩
 .obtain⟨l,q⟩:=u.there b o e a;exact⟨l,(f.2 b (d b o e)).trans q⟩
def HOk.but {P:Xv}{w:W5}{H:Hp}{h h':Heap}{C:Addr}(ok:HOk P w H h)(a:H C=none)(d:VL C h h'):HOk P w H h':=λb ob e=>by
 refine(ok b ob e).stay (λc f hc q=>(d.2 c ?_).trans q) (λ_ q=>q) λ_ _ q=>q;rintro rfl;rcases hc with rfl | hc
 .rw[a]at e;cases e
 .rw[a]at hc;cases hc
section
variable {X:Cx}{tg iter elt:Expr}{ifs:List Expr}{scope:UH}{pos:Pos}{N:AE}{src:List (Option Nat)}{cl:List (Str×Addr)}{wi:TI}{g:TG}{tc:TT}{te:TE}
def zir {h:List (Addr×Obj)}{A:St}{H:Hp}{s:X8}{fp:List Addr}{h1:Heap}{C:Addr}{tk:Nat}(ok:j8 X N src scope cl)(I:Inv X h A H s)(B:∀b∈fp,zbe X h H b)(ho:∀b∈fp,∃o,s.heap.get? b=some o)
  (E:C=s.heap.objs.size+1) (k:∀b u,s.heap.get? b=some u->h1.get? b=some u) (hD:h1.get? s.heap.objs.size=some { cls:=.type "list",data:=.seq #[] }) {m:Str->Option Y1} (hn:h1.Ns C m) :
  Inv (jK X N scope cl C fp h s H) [] (pull src A) (upd H s.heap.objs.size (.lst [])) { s with heap:=h1,toks:=tk }:=by
 have lt:∀b o,s.heap.get? b=some o->b<s.heap.objs.size:=λb o e=>XE e;have Y:∀b o,s.heap.get? b=some o->b≠C:=λb o e=>by rw[E];exact Xi (Wm (lt b o e))
 have nD:∀b o,s.heap.get? b=some o->b≠s.heap.objs.size:=λb o e=>Xi (lt b o e);have O:∀b,s.heap.objs.size<=b->H b=none:=λb g=>I.hok.fresh g;have w:∀b,b≠X.env.locals->b ∉ X.fs->b ∉ frs X.stack:=λb h1 h2 z=>(XF.mp (I.stkSub b z)).elim h1 h2;have sub:=ok.sub;refine⟨⟨I.ok.mod,ok.kind,I.ok.glob,I.ok.blt,by rw[show (jK X N scope cl C fp h s H).env.locals=C from rfl,E];exact VW _,λx y c d a=>I.ok.inj x y c (sub x c d) (sub y c a),ok.has,(λx c z _=>nomatch z),I.ok.hd,I.ok.frames,.inl rfl,λb g=>?_,I.bs,X7 I.ok.bsz I.sz,λb o e g=>?_,λb g hz=>?_,I.stack,I.stkFree⟩,rfl,I.bare,Un.laid k (XW _) (O _ (XW _)),⟨m,hn,λi x v d a M=>?_⟩,λx c e=>?_,?_,λx c e=>?_,λp hp=>?_,I.hok.laid k (XW _) ⟨W2 _,[],0,.nil,hD⟩,?_⟩
 .obtain⟨o,e⟩:=ho b g;exact⟨Y b o e,λx c z=>(B b g).2.2.2.2.1 x c (sub x c z)⟩
 .rcases(B b g).2.2.2.1 with z | z
  .exact I.ok.noex b o e z
  .exact absurd (XD (XE (I.ok.bs b o e).1) z) (V3 _)
 .exact w b (B b g).2.1 (B b g).2.2.1 hz
 .have U:i<src.length:=by
   have:=(X2.mp a).1;unfold pull at this;rw[ZB]at this;exact this
  unfold pull at a;rw[Xl,XX U]at a;cases q:src[i] with
  | none=>rw[q]at a;cases a
  | some j =>
   rw[q]at a;have f:(A[j]?).getD none=some v:=Option.some.inj a;have D:A[j]?=some (some v):=by
    cases z:A[j]? with
    | none=>rw[z]at f;cases f
    | some o=>rw[z]at f;exact congrArg some f
   obtain⟨p1,p2,p3⟩:=ok.pulls i j x d (by rw[XX U,q]);obtain⟨m',aa,hl⟩:=I.loc;obtain⟨u,r,l⟩:=hl j x v p1 D (by
    rcases p2 with z | z
    .exact .inr (.inl z)
    .exact .inr (.inr z))
   refine⟨u,r,.inr ⟨p3,?_⟩⟩;obtain⟨c,Q⟩:=ok.has x p3;refine⟨c,Q,?_⟩;rcases l with ⟨z,_⟩ | ⟨_,c',n,o,J,G⟩
   .rcases p2 with y | y<;>rw[z]at y<;>cases y
   .rw[sub x c Q]at n;cases n;exact⟨o,k _ o J,G⟩
 .obtain⟨v,o,d,a⟩:=I.cell x c (sub x c e);exact⟨v,o,k c o d,a⟩
 .show upd H s.heap.objs.size (.lst []) C=none;rw[E,zg (UY _)];exact O _ (VW _)
 .show upd H s.heap.objs.size (.lst []) c=none;obtain⟨v,o,d,a⟩:=I.cell x c (sub x c e);rw[zg (nD c o d)];exact I.freeC x c (sub x c e)
 .have L:p∈X.pn++h:=by
   have:p∈(X.pn++h)++[]:=hp;simpa using this
  refine fN (λd a M D e5=>?_) (I.pin p L);refine⟨k _ _ d,?_,Y _ _ d,w _ M D,e5⟩;show upd H s.heap.objs.size (.lst []) p.1=none;rw[zg (nD _ _ d)];exact a
 .unfold pull;rw[ZB];exact ok.len
def zkL {Y:Cx}{D it:Addr}{fp:List Addr}{tn:Nat->Heap->Prop}{J:It}{ac:St}{H0:Hp}{s:X8}{Q:VK}{R:PY->X8->Prop}(a:Y.calm=true)(hx:∀{x s},Y.xe x s->notedBy (Xn Y.prog Y.w) Y.A Y.env (λx s=>R (.error x) s) x s)(T:Turn Y.prog Y.w Y.K tg J fp it tn)(hg:PG Y tg g)(hc:zcw Y ifs tc)(he:PE Y elt te)
  (q:yW J g tc te Q D ac H0) (c:∀{l:Hp},(∀b∈fp,l b=none)->∀b∈fp,zbe Y [] l b) (I0:Inv Y [] ac H0 s) (O:tn 0 s.heap) (ag:∀b∈fp,H0 b=none)
  (af:∀f σ H s',Inv Y [] σ H s'->Q (.ref D) H->R (.ok f) s'):Uj (Xn Y.prog Y.w) Y.A (.compStart (.ListComp elt [⟨tg,iter,ifs,0⟩] scope pos) 0 (.ref it) (.ref D) Y.env) R s:=by
 obtain⟨W,⟨m0,w0⟩,ab⟩:=q;have B:Uj (Xn Y.prog Y.w) Y.A (.compLoop (.ListComp elt [⟨tg,iter,ifs,0⟩] scope pos) 0 (.ref it) (.ref D) Y.env) R s:=by
  refine codeAny_loop rfl (λn s'=>∃i h l,Inv Y [] h l s'/\tn i s'.heap/\(∀b∈fp,l b=none)/\W i n h l) ?_ m0 ⟨0,_,_,I0,O,ag,w0⟩;refine λn s3=>fD λi p H3 I3 U M w3=>?_;show Xh _ Y.A ((compTurn (.ListComp elt [⟨tg,iter,ifs,0⟩] scope pos) 0 (.ref it) (.ref D) Y.env).onRaise (λx=>do noteFrame x Y.env;theTreesLotGoes x)) _ _ s3;refine wpAny_noted ?_;rw[compTurn_list];rcases ab i n p H3 w3 with ⟨aa,qn⟩ | ⟨go,N',hN,step⟩
  .refine X9 (Rx (X9 (thn (T.done Y rfl rfl rfl a i [] s3 p H3 _ I3 (c M) U aa) λr s4 ⟨hr,I4⟩=>?_)));subst hr;exact XR (af _ _ _ _ I4 qn)
  .refine X9 (Rx (X9 (thn (T.item Y rfl rfl rfl a i [] s3 p H3 _ I3 (c M) U go) λr s4 ⟨u,hr,h4⟩=>?_)));subst hr;dsimp only;refine X9 (thn h4 λ_ s5 ⟨x,H5,I5,r5,y5,G,ah⟩=>?_);have ae:=I5.pinned (c ah) (T.obj _ _ G);refine X9 (VQ (hg _ s5 p H5 x u _ ae r5 (step x H5 y5)) (λ_ s6 ⟨v,H6,I6,q6⟩=>?_) λ_ _ z=>hx z);have Ob:∀{L:X8} {j:St} {E:Hp},Inv Y ([]++zc3 fp s5.heap) j E L->N' j E->∃m,m<n/\∃i h l,Inv Y [] h l L/\tn i L.heap/\(∀b∈fp,l b=none)/\W i m h l:=λ{L j E} I n7=>by
    obtain⟨m',hm,w7⟩:=hN j E n7;refine dG m' hm (dF (i+1) j E I.unpinned (T.keep _ _ _ G λb hb o e=>(I.pin (b,o) (Xx _ (Xx _ (YT hb e)))).1) (λb hb=>?_) w7);obtain⟨o,e,d⟩:=T.obj _ _ G b hb;exact(I.pin (b,o) (Xx _ (Xx _ (YT hb e)))).2.1
   refine X9 (VQ (hc _ s6 v H6 _ I6 q6) (λb L ⟨E,I,q7⟩=>?_) λ_ _ z=>hx z);cases b with
   | false =>
    rw[bq XM]at q7;exact XR ⟨rfl,Ob I q7⟩
   | true =>
    rw[bw rfl]at q7;refine X9 (X9 (VQ (he _ L v E _ I q7) (λy s8 ⟨v8,H8,I8,r8,ys,ai,N,q8⟩=>?_) λ_ _ z=>hx z));refine X9 (VQ (zbP (X:=Y) _ s8 v H8 (.ref D) [v8] (.ref D) [y] (λ_ H9=>N' v H9) I8 rfl (.cons r8 .nil) (dI _ ys v8 rfl rfl ai N q8)) (λ_ s9 ⟨v9,H9,I9,_,q9⟩=>?_) λ_ _ z=>hx z);exact XR (XR ⟨rfl,Ob I9 q9⟩)
 exact codeAny_compStart_list B (T.self _ 0 _ _ _ O B)
abbrev cY (X:Cx)(N:AE)(scope:UH)(cl:List (Str×Addr))(C:Addr)(fp:List Addr)(bQ:List (Addr×Obj))(s:X8)(H:Hp)(fn:Str->Bool)(xe:Y1->X8->Prop):Cx:={ jK X N scope cl C fp bQ s H with fn:=fn,xe:=xe }
def zoa (X:Cx)(N:AE)(scope:UH)(d:List (Addr×Obj))(m:St)(use:Option (Y1->Sem Unit))(R:Y1->X8->Prop)(Q:VK):Prop:=∀{cl h a c C g i f j l e},C=a.heap.objs.size+1->Inv X d m c a->(∀b∈h,zbe X d c b)->Inv (cY X N scope cl C h d a c j l) [] e g i->Q (.ref a.heap.objs.size) g->compPost (Xn X.prog X.w) X.A X.xe use R (.ref a.heap.objs.size) C (.ok f) i
def zpy {e:List (Addr×Obj)}{h:St}{Q:VK}:zoa X N scope e h none (EP X e h Q) Q:=by
 intro cl l r v C i s f w x u o j c a q;obtain⟨m,p,_⟩:=a.loc;refine⟨m,p,λn g=>⟨.ref r.heap.objs.size,i,?_,rfl,q⟩⟩;exact j.call' (s':={ s with heap:=n }) (ch:=l) a.os (Un.but a.base (by rw[o];exact VW _) g) (HOk.but a.hok a.free g) a.bare λb d=>⟨(c b d).2.2.2.1,(c b d).2.1,(c b d).2.2.2.2.1,(c b d).2.2.2.2.2⟩
def zgS {j:List (Addr×Obj)}{D:St}{i:Hp}{a:X8}{R:PY->X8->Prop}{Q:VK}{it C:Addr}{fp:List Addr}{tn:Nat->Heap->Prop}{J:It}{h:Heap}{tk:Nat}{n:Str->Bool}{m:Y1->X8->Prop}{v:St}(E:C=a.heap.objs.size+1)(l:X.calm=true)
  (hx:∀{x s},m x s->notedBy (Xn X.prog X.w) X.A (compEnvC scope cl C X.env) (λx s=>R (.error x) s) x s) (U:PG (cY X N scope cl C fp j a i n m) tg g) (O:zcw (cY X N scope cl C fp j a i n m) ifs tc) (he:PE (cY X N scope cl C fp j a i n m) elt te) (M:Inv X j D i a) (T:Turn X.prog X.w X.K tg J fp it tn) (r:tn 0 a.heap) (q:∀b∈fp,zbe X j i b)
  (q2:yW J g tc te Q a.heap.objs.size v (upd i a.heap.objs.size (.lst []))) (k:∀b u,a.heap.get? b=some u->h.get? b=some u) (own:∀x c,cl.lookup x=some c->X.env.cells.lookup x=some c\/C<=c)
  (L:(∀b∈fp,∃o,a.heap.get? b=some o)->Inv (cY X N scope cl C fp j a i n m) [] v (upd i a.heap.objs.size (.lst [])) { a with heap:=h,toks:=tk }) (y:∀f D H I,Inv (cY X N scope cl C fp j a i n m) [] D H I->Q (.ref a.heap.objs.size) H->R (.ok f) I) :
  Uj (Xn X.prog X.w) X.A (.compStart (.ListComp elt [⟨tg,iter,ifs,0⟩] scope pos) 0 (.ref it) (.ref a.heap.objs.size) (compEnvC scope cl C X.env)) R { a with heap:=h,toks:=tk }:=by
 have G:∀b∈fp,∃o,a.heap.get? b=some o:=λb d=>let ⟨o,e,_⟩:=T.obj 0 _ r b d;⟨o,e⟩
 have lt:∀b∈fp,b<a.heap.objs.size:=λb d=>let ⟨_,e⟩:=G b d;XE e
 refine zkL (Y:=cY X N scope cl C fp j a i n m) l hx T U O he q2 (λ{H'} hn b d=>(dR (hn b d) ?_ (λz=>(XF.mp (M.stkSub b z)).elim (q b d).2.1 (q b d).2.2.1) (.inl d) (λx c z=>?_) (λp hp=>?_))) (L G) (T.keep 0 _ _ r λb _ o e=>k b o e) (λb d=>?_) y
 .show b≠C;rw[E];exact Xi (Wm (lt b d))
 .rcases own x c z with z | z
  .exact(q b d).2.2.2.2.1 x c z
  .rw[E]at z;exact Vg (XD (Wm (lt b d)) z)
 .have B:p∈X.pn++j:=by
   have:p∈(X.pn++j)++[]:=hp;simpa using this
  exact(q b d).2.2.2.2.2 p B
 .rw[zg (Xi (lt b d))];exact(q b d).1
def zqm {h a:Heap}(d:VL (h.push { cls:=.type "list",dict:=none,data:=.seq ([]:List Y1).toArray }).objs.size ((h.push { cls:=.type "list",dict:=none,data:=.seq ([]:List Y1).toArray }).push { cls:=.type "dict",data:=.dict #[] }) a):(h.push { cls:=.type "list",dict:=none,data:=.seq ([]:List Y1).toArray }).objs.size=h.objs.size+1/\(∀b u,h.get? b=some u->a.get? b=some u)/\a.get? h.objs.size=some { cls:=.type "list",data:=.seq #[] }:=by
 generalize hP:h.push { cls:=.type "list",dict:=none,data:=.seq ([]:List Y1).toArray }=P2 at d ⊢;have c:P2.objs.size=h.objs.size+1:=by rw[<- hP,UT]
 exact⟨c,λb u e=>(d.2 b (by rw[c];exact Xi (Wm (XE e)))).trans (X6 _ (hP ▸ X6 _ e)),(d.2 _ (by rw[c];exact(UY _).symm)).trans (X6 _ (hP ▸ Xf _ rfl))⟩
section
variable {bQ:List (Addr×Obj)}{σ:St}{H:Hp}{s:X8}{use:Option (Y1->Sem Unit)}{R:Y1->X8->Prop}{Q:VK}{p2:Pos}
def zgT (ok:j8 X N src scope cl)(d:X.calm=true)(u:PI X tg iter wi)
  (r:∀C fp bQ s H,PG (jK X N scope cl C fp bQ s H) tg g) (q:∀C fp bQ s H,zcw (jK X N scope cl C fp bQ s H) ifs tc) (he:∀C fp bQ s H,PE (jK X N scope cl C fp bQ s H) elt te)
  (B:∀x,VO iter X.env x=pure x) (I:Inv X bQ σ H s) (h:zce wi src g tc te σ H Q) (j:zoa X N scope bQ σ use R Q):Xh (Xn X.prog X.w) X.A (OF (.ListComp elt [⟨tg,iter,ifs,0⟩] scope pos) scope X.env p2 (newList []) false (eval iter X.env) use) R X.xe s:=by
 refine Rq (use:=use) rfl B ok.clos ok.kind ok.names (thn (u bQ s σ H _ I h) λxv s1 h1=>thn h1 λE U h2=>?_);revert h2;refine fS λO fp Y J M e f T m i G=>?_;subst e;refine Vy (wpAny_newFunctionEnv ok.nocell (by intro y D;simp at D) (λn a b=>?_) ok.kind);dsimp only at a b ⊢;obtain⟨l,k,p⟩:=zqm b;exact zgS l d (λz=>z.elim) (r _ _ _ _ _) (q _ _ _ _ _) (he _ _ _ _ _) f T m i (G _ (f.hok.fresh (XW _))) k (λx c z=>.inl (ok.sub x c z)) (λv=>zir ok f i v l k p a) λ_ _ _ _ o L=>j l f i o L
end
def zjK (ok:j8 X N src scope cl)(a:X.calm=true)(e:PI X tg iter wi)
  (d:∀C fp b s H,PG (jK X N scope cl C fp b s H) tg g) (c:∀C fp b s H,zcw (jK X N scope cl C fp b s H) ifs tc) (he:∀C fp b s H,PE (jK X N scope cl C fp b s H) elt te)
  (f:∀x,VO iter X.env x=pure x:=by intro _;rfl):PE X (.ListComp elt [⟨tg,iter,ifs,0⟩] scope pos) (zce wi src g tc te):=λ_ _ _ _ _ I h=>zgT ok a e d c he f I h zpy
end
section
variable {K:X0}{src:List (Option Nat)}{g:TG}{tc:TT}{te:TE}{Q:VK}{σ:St}{H:Hp}{D:Addr}
def zY {a:Addr}{xs:AF}(Pv:Nat->St->Hp->Prop)(h0:Pv 0 σ H)(r:∀i σ H,i<=xs.length->Pv i σ H->SqL K H a xs)
  (s:∀i x σ H,xs[i]?=some x->Pv i σ H->g x σ H fun c l=>tc c l λb f=>if b=true then te c f λy h=>∃ys,h D=some (.lst ys)/\ys.length<Xy/\Pv (i+1) c (upd h D (.lst (ys++[y]))) else Pv (i+1) c f)
  (n:∀ σ H,Pv xs.length σ H->Q (.ref D) H):yW (Itl K a) g tc te Q D σ H:=by
 refine⟨λi m σ H=>m=xs.length-i/\i<=xs.length/\Pv i σ H,⟨xs.length,"s",W2 _,h0⟩,?_⟩;rintro i m σ H ⟨rfl,o,p⟩;have q:=r i σ H o p;by_cases d:i<xs.length
 .refine .inr (eH ⟨xs,xs[i],q,by simp[d]⟩ (Pv (i+1)) (fun v j u=>⟨xs.length-(i+1),"a",rfl,d,u⟩) (λx j y=>?_));obtain⟨e,y⟩:=y;subst e;exact s i x σ _ (y xs q) p
 .have e:i=xs.length:="a"
  subst e;exact .inl ⟨⟨xs,q,XW _⟩,n σ H p⟩
def zaQ {lo:Int}{n:Nat}(Pv:Nat->St->Hp->Prop)(h0:Pv 0 σ H)
  (o:∀i σ H,i<n->Pv i σ H->g (.int (lo+i)) σ H fun a j=>tc a j λb d=>if b=true then te a d λy f=>∃ys,f D=some (.lst ys)/\ys.length<Xy/\Pv (i+1) a (upd f D (.lst (ys++[y]))) else Pv (i+1) a d)
  (l:∀ σ H,Pv n σ H->Q (.ref D) H):yW (Itr lo n) g tc te Q D σ H:=by
 refine⟨λi m σ H=>m=n-i/\i<=n/\Pv i σ H,⟨n,"s",W2 _,h0⟩,?_⟩;rintro i m σ H ⟨rfl,s,p⟩;by_cases c:i<n
 .refine .inr (eH c (Pv (i+1)) (fun r h q=>⟨n-(i+1),"a",rfl,c,q⟩) (λx h y=>?_));obtain⟨e,y⟩:=y;subst e y;exact o i σ _ c p
 .have e:i=n:="a"
  subst e;exact .inl ⟨XW _,l σ H p⟩
end
section
variable {X:Cx}{K:X0}
def zbQ {a:Expr}{c:TE}(d:X.K=K)(e:PE X a c)(he:∀whole,isTrue a X.env whole=(do let v <- whole;standAt a.pos;Ou [v] (truthy v))) :
  PT X a (fun f H Q=>c f H λx b=>∃k,zqf K x b k/\Q k b):=by
 subst d;exact yU e he
def zeh (a:X.K=K):jm X (.builtin "len") (λxs H Q=>∃p ys,xs=[.ref p]/\(SqL K H p ys\/SqT K H p ys)/\Q (.int ys.length) H):=by
 subst a;exact YU
def QA (a:X.K=K)(b:X.A.units+64<VD):OpR X (Wf .Eq) (zn7 K false):=by
 subst a;exact zc5 b
def zcf (a:X.K=K)(b:X.A.units+64<VD):OpR X (Wf .NotEq) (zn7 K true):=by
 subst a;exact j7 b
def jH (a:X.K=K)(b:X.A.units+64<VD):OpR X (Wf .In) (zn8 K false):=by
 subst a;exact YX b
def QB (a:X.K=K)(b:X.A.units+64<VD):OpR X (Wf .NotIn) (zn8 K true):=by
 subst a;exact xY b
def zfL {a:List Expr}{k:Nat}{t:TGs}{n:Nat}{pos:Pos}(c:X.K=K)(d:X.calm=true)(h:PGs X a t)
  (e:(Th a X.env).length=n:=by rfl) (b:(Th a X.env).findIdx? (·.1)=none:=by rfl):PG X (.Tuple a k pos) (zrH K n t):=by
 subst c;exact j5 d h e b
end
section
variable {fs ch:List Addr}{H:Hp}{h h':Heap}{a:Addr}{o:HO}
def Un.laidX (k:∀b u,b ∉ ch->h.get? b=some u->h'.get? b=some u)(hp:h.objs.size<=a)(hn:H a=none):Un fs ch H (upd H a o) h h' where
 keep:=λb u q _ _ hx=>k b u hx q
 slot:=λb u q _ _ hx=>⟨u.slots,k b u hx q⟩
 free:=λb u q n _=>by rw[zg (Xi (XD (XE q) hp))];exact n
 there:=λb u q hx=>⟨u,k b u hx q⟩
 tups:=λb xs q=>by rw[zg (zh q hn)];exact q
 frzs:=λb u xs q=>by rw[zg (zh q hn)];exact q
 tbls:=λb ps q=>⟨#[],by rw[zg (zh q hn),q];simp⟩
def Un.keptX (k:∀b u,b ∉ ch->h.get? b=some u->h'.get? b=some u):Un fs ch H H h h' :=
 ⟨λb ob q _ _ a=>k b ob a q,λb ob q _ _ a=>⟨ob.slots,k b ob a q⟩,λ_ _ _ n _=>n,λb ob q a=>⟨ob,k b ob a q⟩,λ_ _ q=>q,λ_ _ _ q=>q,λ_ c q=>⟨#[],by rw[q];simp⟩⟩
def HOk.keptX {P:Xv}{w:W5}(x:HOk P w H h)(k:∀b u,b ∉ ch->h.get? b=some u->h'.get? b=some u)(a:∀b∈ch,H b=none):HOk P w H h':=λb u e=>by
 refine(x b u e).stay (λc v hc q=>k c v (λz=>?_) q) (λ_ q=>q) λ_ _ q=>q;have n:=a c z;rcases hc with rfl | hc
 .rw[n]at e;cases e
 .rw[n]at hc;cases hc
def HOk.laidX {P:Xv}{w:W5}(x:HOk P w H h)(k:∀b u,b ∉ ch->h.get? b=some u->h'.get? b=some u)(d:∀b∈ch,H b=none)(j:h.objs.size<=a)(f:qv P w (upd H a o) h' a o):HOk P w (upd H a o) h':=λb u e=>by
 have i:=x.fresh j;by_cases g:b=a
 .subst g;rw[zb]at e;cases e;exact f
 .rw[zg g]at e;refine(x b u e).stay (λc v hc q=>k c v (λz=>?_) q) (λc q=>by rw[zg (zh q i)];exact q) λc l q=>by rw[zg (zh q i)];exact q
  have n:=d c z;rcases hc with rfl | hc
  .rw[n]at e;cases e
  .rw[n]at hc;cases hc
end
section
variable {X:Cx}{bQ:List (Addr×Obj)}{s:X8}{σ:St}{H:Hp}{E:Y1->X8->Prop}{fp wr FP:List Addr}{elts:List Expr}{k:Nat}{pos:Pos}{e:Addr}{n i:Nat}{Pt:Nat->Array Y1->Prop}{Sn:Nat->Heap->Prop}{Mid:Nat->Addr->Heap->Prop}{J:It}{tn:Nat->Heap->Prop}
def zfM (I:Inv X bQ σ H s)(G:∀b∈fp,zbe X bQ H b)(ho:∀b∈fp,∃o,s.heap.get? b=some o)(p:∀b∈wr,b∈fp)(W:WalksT X.prog X.w X.A e FP wr n Pt Sn Mid)(hi:i<n)(st:Sn i s.heap)
  (y:∀T a,H T=none->Pt i a->∃vs,Vals vs a.toList/\vs.length<=Xy/\J.yld i H (.ref T) (upd H T (.tup vs))) (nx:∀g,Sn (i+1) g->tn (i+1) g) :
  Xh (Xn X.prog X.w) X.A (SF (.ref e)) (λr s1=>∃u,r=some u /\
   Xh (Xn X.prog X.w) X.A (Sh (.Tuple elts k pos) (.ref e) u) (λ_ O=>∃x z,Inv X bQ σ z O/\RelV x u/\J.yld i H x z/\tn (i+1) O.heap/\∀b∈fp,z b=none) E s1) E s:=by
 refine W.item i s _ E hi st λT a U Q hP h Y L kk=>⟨.ref T,rfl,?_⟩;have M:H T=none:=I.hok.fresh h;refine fu (λvs hv hl hy=>?_) (y T a M hP);refine W.go elts k pos i T { s with heap:=U,toks:=Q } _ E L λg v q=>?_;have N:∀b o,b ∉ wr->s.heap.get? b=some o->g.get? b=some o:=λb o j e=>q b o j (kk b o j e);have l:Ph g T a:=by
  obtain⟨o,B,c,m,d⟩:=Y;exact⟨o,q T o (W.apart i T _ L) B,c,m,d⟩
 have D:∀b∈wr,H b=none:=λb j=>(G b (p b j)).1;refine dH (.ref T) (upd H T (.tup vs)) ?_ rfl hy (nx _ v) (λb j=>?_)
 .exact I.call' (s':={ s with heap:=g,toks:=Q }) (ch:=wr) rfl (Un.laidX N h M) (HOk.laidX I.hok N D h ⟨hl,a.toList,hv,↑l⟩) I.bare λb j=>let f:=G b (p b j);⟨f.2.2.2.1,f.2.1,f.2.2.2.2.1,f.2.2.2.2.2⟩
 .obtain⟨o,B⟩:=ho b j;rw[zg (Xi (XD (XE B) h))];exact(G b j).1
def zis (I:Inv X bQ σ H s)(d:∀b∈fp,zbe X bQ H b)(a:∀b∈wr,b∈fp)(W:WalksT X.prog X.w X.A e FP wr n Pt Sn Mid)(st:Sn n s.heap) :
  Xh (Xn X.prog X.w) X.A (SF (.ref e)) (λr s1=>r=none/\Inv X bQ σ H s1) E s :=
 W.done s _ E st λh i g=>⟨rfl,I.call' (s':={ s with heap:=h,toks:=i }) (ch:=wr) rfl (Un.keptX g) (HOk.keptX I.hok g λb c=>(d b (a b c)).1) I.bare λb c=>let f:=d b (a b c);⟨f.2.2.2.1,f.2.1,f.2.2.2.2.1,f.2.2.2.2.2⟩⟩
end
def Jk {h:Heap}{b:Addr}{o:Obj}{vs:Array Y1}(e:h.get? b=some o)(d:o.data=.fields vs):∃o,h.get? b=some o/\∀v,o.data ≠ .cell v:=⟨o,e,λv z=>by rw[d]at z;cases z⟩
def Ite (K:X0)(l:Addr):It:=⟨λi H=>∃a,SqL K H l a/\i<a.length,λi H x b=>∃T,x=.ref T/\H T=none/\∀a,SqL K H l a->∃v,a[i]?=some v/\b=upd H T (.tup [.int i,v]),λi H=>∃a,SqL K H l a/\i=a.length⟩
def zkM {P:Xv}{w:W5}{K:X0}{elts:List Expr}{k:Nat}{pos:Pos}(e it l:Addr)(hei:e≠it)(hle:l≠e)(hli:l≠it) :
  Turn P w K (.Tuple elts k pos) (Ite K l) [e,it] e (λi h=>(∃old,IsEnum h e it i old)/\h.IsListIter it l i) where
 mem:="s"
 obj:=λi h st b hb=>by
  obtain⟨⟨old,he⟩,o,e2,c,d⟩:=st;rcases XF.mp hb with rfl | hb
  .exact Jk he rfl
  .have z:b=it:=by simpa using hb
   subst z;exact Jk e2 d
 keep:=λi h h' st kk=>by
  obtain⟨⟨old,he⟩,o,e2,r⟩:=st;exact⟨⟨old,kk e "s" _ he⟩,o,kk it "s" o e2,r⟩
 item:=by
  intro X hP hw hK hc i bQ s σ H E I hf st hg;subst hP hw hK;obtain⟨xs,hq,hlt⟩:=hg;refine fu (λits rv p hz=>?_) (I.list hq);have hl:=rv.length;obtain⟨⟨old,he⟩,o2,e2,c2,d2⟩:=id st;refine zfM (wr:=[e,it]) (J:=Ite X.K l) (tn:=λi h=>(∃old,IsEnum h e it i old)/\h.IsListIter it l i) I hf (λb hb=>?_) (λb hb=>hb) (WalksT.enumerate (I.ok.hd hc) e it l hei hle hli its.toArray) (by simp;lia) ⟨st.1,st.2,p.isList⟩ (λT vals hn hp=>?_) λh'' q=>⟨q.1,q.2.1⟩
  .rcases XF.mp hb with rfl | hb
   .exact⟨_,he⟩
   .have z:b=it:=by simpa using hb
    subst z;exact⟨_,e2⟩
  .obtain⟨t,x,hx,rfl⟩:=hp;have hx':its[i]?=some x:=by simpa using hx
   obtain⟨u,hu,ru⟩:=rv.get (i:=i) (x:=xs[i]) (by rw[XX hlt]);rw[hu]at hx';cases hx';exact e9 [.int i,xs[i]] (.cons ⟨t,rfl⟩ (.cons ru .nil)) (by show 2<=Xy;decide) T rfl hn (λys hy=>⟨xs[i],by rw[I.list_inj hy hq,XX hlt],rfl⟩)
 done:=by
  intro X hP hw hK hc i bQ s σ H E I hf st hg;subst hP hw hK;obtain⟨xs,hq,rfl⟩:=hg;obtain⟨its,rv,p,hz⟩:=I.list hq;have hl:its.toArray.size=xs.length:=by simp[rv.length]
  refine zis (fp:=[e,it]) (wr:=[e,it]) I hf (λb hb=>hb) (WalksT.enumerate (I.ok.hd hc) e it l hei hle hli its.toArray) ?_;rw[hl];exact⟨st.1,st.2,p.isList⟩
 self:=λA i s Q E st h=>by
  obtain⟨⟨old,he⟩,_⟩:=st;exact SQ he h
def zob (x:Str):It:=⟨λi _=>i<x.cps.size,λi H v a=>∃T c,v=.ref T/\H T=none/\x.cps[i]?=some c/\a=upd H T (.tup [.int i,.str ⟨#[c]⟩]),λi _=>i=x.cps.size⟩
def zc6 {P:Xv}{w:W5}{K:X0}{elts:List Expr}{k:Nat}{pos:Pos}(e it:Addr)(x:Str)(t:Tok)(n:String)(hei:e≠it)
  (D:∀A:WL,A.handled=none->Draws P w A it [it] x.cps.size (λi v=>∃c u,x.cps[i]?=some c/\v=.str ⟨#[c]⟩ u) (λi h=>h.IsStrIter it n x t i)) :
  Turn P w K (.Tuple elts k pos) (zob x) [e,it] e (λi h=>(∃old,IsEnum h e it i old)/\h.IsStrIter it n x t i) where
 mem:="s"
 obj:=λi h st b hb=>by
  obtain⟨⟨old,he⟩,o,e2,c,d⟩:=st;rcases XF.mp hb with rfl | hb
  .exact Jk he rfl
  .have z:b=it:=by simpa using hb
   subst z;exact Jk e2 d
 keep:=λi h h' st kk=>by
  obtain⟨⟨old,he⟩,o,e2,r⟩:=st;exact⟨⟨old,kk e "s" _ he⟩,o,kk it "s" o e2,r⟩
 item:=by
  intro X hP hw hK hc i bQ s σ H E I hf st hg;subst hP hw hK;obtain⟨⟨old,he⟩,o2,e2,c2,d2⟩:=id st;refine zfM (wr:=[e,it]) (J:=zob x) (tn:=λi h=>(∃old,IsEnum h e it i old)/\h.IsStrIter it n x t i) I hf (λb hb=>?_) (λb hb=>hb) (WalksT.enumerateD (D X.A.in1 (I.ok.hd hc)) e hei ↑hei "s") hg st (λT vals hn hp=>?_) λh'' q=>q
  .rcases XF.mp hb with rfl | hb
   .exact⟨_,he⟩
   .have z:b=it:=by simpa using hb
    subst z;exact⟨_,e2⟩
  .obtain⟨t',v,⟨c,u,hx,rfl⟩,rfl⟩:=hp;exact eB [.int i,.str ⟨#[c]⟩] (.cons ⟨t',rfl⟩ (.cons ⟨u,rfl⟩ .nil)) (by show 2<=Xy;decide) T c rfl hn hx rfl
 done:=by
  intro X hP hw hK hc i bQ s σ H E I hf st hg;subst hP hw hK;have z:i=x.cps.size:=hg;subst z;exact zis (fp:=[e,it]) (wr:=[e,it]) I hf (λb hb=>hb) (WalksT.enumerateD (D X.A.in1 (I.ok.hd hc)) e hei ↑hei "s") st
 self:=λA i s Q E st h=>by
  obtain⟨⟨old,he⟩,_⟩:=st;exact SQ he h
def Itz (K:X0)(l1 l2:Addr):It:=⟨λi H=>∃a b,SqL K H l1 a/\SqL K H l2 b/\i<a.length/\i<b.length,
 λi H x d=>∃T,x=.ref T/\H T=none/\∀a b,SqL K H l1 a->SqL K H l2 b->∃v c,a[i]?=some v/\b[i]?=some c/\d=upd H T (.tup [v,c]),λi H=>∃a b,SqL K H l1 a/\SqL K H l2 b/\i=min a.length b.length⟩
def zlW {P:Xv}{w:W5}{K:X0}{elts:List Expr}{k:Nat}{pos:Pos}(z TI TO i1 i2 l1 l2:Addr)(D:ZipApart z TI TO i1 i2 l1 l2) :
  Turn P w K (.Tuple elts k pos) (Itz K l1 l2) [z,TI,TO,i1,i2] z (λi h=>IsZip h z TI TO .none/\IsPair h TI (.ref i1) (.ref i2)/\(∃a b,IsPair h TO a b)/\h.IsListIter i1 l1 i/\h.IsListIter i2 l2 i) where
 mem:="s"
 obj:=λi h st b hb=>by
  obtain⟨hz,hTI,⟨a,b',hTO⟩,⟨o1,e1,c1,d1⟩,⟨o2,e2,c2,d2⟩⟩:=st;simp only[XF,VS,or_false]at hb;rcases hb with rfl | rfl | rfl | rfl | rfl
  .exact Jk hz rfl
  .exact⟨_,hTI,λv q=>by cases q⟩
  .exact⟨_,hTO,λv q=>by cases q⟩
  .exact Jk e1 d1
  .exact Jk e2 d2
 keep:=λi h h' st kk=>by
  obtain⟨hz,hTI,⟨a,b',hTO⟩,⟨o1,e1,r1⟩,⟨o2,e2,r2⟩⟩:=st;exact⟨kk z "s" _ hz,kk TI "s" _ hTI,⟨a,b',kk TO "s" _ hTO⟩,⟨o1,kk i1 "s" _ e1,r1⟩,⟨o2,kk i2 "s" _ e2,r2⟩⟩
 item:=by
  intro X hP hw hK hc i bQ s σ H E I hf st hg;subst hP hw hK;revert hg;refine fm λxs ys hq1 hq2 hlt1 hlt2=>?_;refine fu (λits1 rv1 p1 hz1=>?_) (I.list hq1);refine fu (λits2 rv2 p2 hz2=>?_) (I.list hq2);have g1:=rv1.length;have g2:=rv2.length;obtain⟨hz,hTI,⟨a,b',hTO⟩,⟨o1,e1,r1⟩,⟨o2,e2,r2⟩⟩:=id st;refine zfM (wr:=[z,TO,i1,i2]) (J:=Itz X.K l1 l2) (tn:=λi h=>IsZip h z TI TO .none/\IsPair h TI (.ref i1) (.ref i2)/\(∃a b,IsPair h TO a b)/\h.IsListIter i1 l1 i/\h.IsListIter i2 l2 i) I hf (λb hb=>?_) (λb hb=>?_) (WalksT.zip2 (I.ok.hd hc) z TI TO i1 i2 l1 l2 D its1.toArray its2.toArray) (by simp;lia) (dY st.1 st.2.1 st.2.2.1 st.2.2.2.1 (dU st.2.2.2.2 p1.isList p2.isList)) (λT vals hn hp=>?_) λh'' q=>⟨q.1,q.2.1,q.2.2.1,q.2.2.2.1,q.2.2.2.2.1⟩
  .simp only[XF,VS,or_false]at hb;rcases hb with rfl | rfl | rfl | rfl | rfl
   .exact⟨_,hz⟩
   .exact⟨_,hTI⟩
   .exact⟨_,hTO⟩
   .exact⟨_,e1⟩
   .exact⟨_,e2⟩
  .simp only[XF,VS,or_false]at hb ⊢;rcases hb with rfl | rfl | rfl | rfl<;>simp
  .obtain⟨x,y,hx,hy,rfl⟩:=hp;have hx':its1[i]?=some x:=by simpa using hx
   have hy':its2[i]?=some y:=by simpa using hy
   obtain⟨u,hu,ru⟩:=rv1.get (i:=i) (x:=xs[i]) (by rw[XX hlt1]);obtain⟨u',hu',ru'⟩:=rv2.get (i:=i) (x:=ys[i]) (by rw[XX hlt2]);rw[hu]at hx';rw[hu']at hy';cases hx';cases hy';exact e9 [xs[i],ys[i]] (.cons ru (.cons ru' .nil)) (by show 2<=Xy;decide) T rfl hn (λxs' ys' h1 h2=>⟨xs[i],ys[i],by rw[I.list_inj h1 hq1,XX hlt1],by rw[I.list_inj h2 hq2,XX hlt2],rfl⟩)
 done:=by
  intro X hP hw hK hc i bQ s σ H E I hf st hg;subst hP hw hK;obtain⟨xs,ys,hq1,hq2,rfl⟩:=hg;obtain⟨its1,rv1,p1,hz1⟩:=I.list hq1;obtain⟨its2,rv2,p2,hz2⟩:=I.list hq2;have g1:min its1.toArray.size its2.toArray.size=min xs.length ys.length:=by simp[rv1.length,rv2.length]
  refine zis (fp:=[z,TI,TO,i1,i2]) (wr:=[z,TO,i1,i2]) I hf (λb hb=>?_) (WalksT.zip2 (I.ok.hd hc) z TI TO i1 i2 l1 l2 D its1.toArray its2.toArray) ?_
  .simp only[XF,VS,or_false]at hb ⊢;rcases hb with rfl | rfl | rfl | rfl<;>simp
  .rw[g1];exact dY st.1 st.2.1 st.2.2.1 st.2.2.2.1 (dU st.2.2.2.2 p1.isList p2.isList)
 self:=λA i s Q E st h=>wpAny_pyIter_zip st.1 h
section
variable {X:Cx}{elts:List Expr}{k:Nat}{tpos:Pos}
def zqn (K:X0)(b:TA):TI:=fun e H R=>b e H λc a=>∃l,c=[.ref l]/\(∃d,SqL K a l d)/\R (Ite K l) a
def Ye {a:Expr}{o:TA}{p pos:Pos}(y:Gl X "enumerate")(z:X.mg "enumerate"=none)(x:PA X [a] o)(B:WO [a] X.env=[(false,eval a X.env)]:=by rfl):PI X (.Tuple elts k tpos) (.Call (.Name "enumerate" p) [a] [] pos) (zqn X.K o):=by
 intro m s r H R I h;refine Call_ (Qv I y z boot_enumerate (VY (thn (x pos m s r H _ I h) λU s1 ⟨Y,j,f,L,J⟩=>?_) B rfl));obtain⟨l,rfl,⟨xs,A⟩,q⟩:=J;obtain⟨u,rfl,M⟩:=vals1 L;cases M;obtain⟨E,Q,n,N⟩:=f.list A;obtain⟨O,i,_⟩:=n.isList;have d:=XE i;refine call_enumerate_list n.isList λw he g D G=>?_;have v:Inv X m r j { s1 with heap:=w }:=f.kept (t':=s1.toks) G;refine SQ he ?_;refine dO (s1.heap.objs.size+1) [s1.heap.objs.size+1,s1.heap.objs.size] _ _ j rfl v (zkM (s1.heap.objs.size+1) s1.heap.objs.size l (UY _) (Xi (Wm d)) (Xi d)) ⟨⟨_,he⟩,g⟩ (λb hb=>?_) q;have c:s1.heap.objs.size<=b:=by
  rcases XF.mp hb with e | hb
  .rw[e];exact VW _
  .have e:b=s1.heap.objs.size:=by simpa using hb
   rw[e];exact XW _
 exact f.fpOk c (f.hok.fresh c)
def zqo (b:TA):TI:=fun d H R=>b d H λc a=>∃z,c=[.str z]/\R (zob z) a
def zlX {a:Expr}{o:TA}{p pos:Pos}(w:Gl X "enumerate")(x:X.mg "enumerate"=none)(i:PA X [a] o)(y:WO [a] X.env=[(false,eval a X.env)]:=by rfl):PI X (.Tuple elts k tpos) (.Call (.Name "enumerate" p) [a] [] pos) (zqo o):=by
 intro l s r H R I h;refine Call_ (Qv I w x boot_enumerate (VY (thn (i pos l s r H _ I h) λJ s1 ⟨L,g,j,G,E⟩=>?_) y rfl));obtain⟨z,rfl,q⟩:=E;obtain⟨u,rfl,t,rfl⟩:=vals1 G;refine call_enumerate_str λv he c B D=>?_;have n:Inv X l r g { s1 with heap:=v }:=j.kept (t':=s1.toks) D;refine SQ he ?_;have d:∀b ∈ [s1.heap.objs.size+1,s1.heap.objs.size],zbe X l g b:=λb hb=>by
  have f:s1.heap.objs.size<=b:=by
   rcases XF.mp hb with e | hb
   .rw[e];exact VW _
   .have e:b=s1.heap.objs.size:=by simpa using hb
    rw[e];exact XW _
  exact j.fpOk f (j.hok.fresh f)
 unfold strIterType at c;by_cases i:z.cps.all (· < 128)=true
 .rw[bw i]at c;exact dO (s1.heap.objs.size+1) [s1.heap.objs.size+1,s1.heap.objs.size] _ _ g rfl n (zc6 (s1.heap.objs.size+1) s1.heap.objs.size z t "str_ascii_iterator" (UY _) (λA m=>Draws.strAscii m _ z t)) ⟨⟨_,he⟩,c⟩ d q
 .rw[bq i]at c;exact dO (s1.heap.objs.size+1) [s1.heap.objs.size+1,s1.heap.objs.size] _ _ g rfl n (zc6 (s1.heap.objs.size+1) s1.heap.objs.size z t "str_iterator" (UY _) (λA m=>Draws.strWide m _ z t)) ⟨⟨_,he⟩,c⟩ d q
def zs7 (K:X0)(d:TA):TI:=fun h H R=>d h H λe a=>∃b c,e=[.ref b,.ref c]/\(∃f,SqL K a b f)/\(∃g,SqL K a c g)/\R (Itz K b c) a
def zqp {a b:Expr}{L:TA}{p pos:Pos}(hg:Gl X "zip")(hm:X.mg "zip"=none)(Y:PA X [a,b] L)(hs:WO [a,b] X.env=[(false,eval a X.env),(false,eval b X.env)]:=by rfl)(f:WO [b] X.env=[(false,eval b X.env)]:=by rfl) :
  PI X (.Tuple elts k tpos) (.Call (.Name "zip" p) [a,b] [] pos) (zs7 X.K L):=by
 intro z s M H R I h;refine Call_ (Qv I hg hm boot_zip (VY (thn (Y pos z s M H _ I h) λus s1 ⟨vs,y,d,r1,q1⟩=>?_) (by rw[hs,f]) (by rw[f];rfl)));obtain⟨v,w,rfl,⟨xs,o⟩,⟨ys,r⟩,q⟩:=q1;refine fy (λu u' z0 ru x=>?_) (vals2 r1);subst z0;cases ru;cases x;obtain⟨D,af,G,ab⟩:=d.list o;obtain⟨E,ag,J,ac⟩:=d.list r;obtain⟨o1,m,_⟩:=G.isList;obtain⟨o2,n,_⟩:=J.isList;have ae:@LT.lt Nat _ v s1.heap.objs.size:=XE m;have lt2:@LT.lt Nat _ w s1.heap.objs.size:=XE n;refine call_zip_2 G.isList J.isList λQ B g i j l aa kk=>?_;have O:Inv X z M y { s1 with heap:=Q }:=d.kept (t':=s1.toks) kk;refine wpAny_pyIter_zip B ?_;generalize U:s1.heap.objs.size=N at *
 have c:ZipApart (N+4) (N+2) (N+3) N (N+1) v w:=by
  constructor<;>first
   | exact Xi "a"
   | exact Vg "a"
 refine dO (N+4) [N+4,N+2,N+3,N,N+1] _ _ y rfl O (zlW (N+4) (N+2) (N+3) N (N+1) v w c) ⟨B,g,⟨_,_,i⟩,j,l⟩ (λb A=>?_) q;have e:s1.heap.objs.size<=b:=by
  rw[U];simp only[XF,VS,or_false]at A;rcases A with rfl | rfl | rfl | rfl | rfl<;>lia
 exact d.fpOk e (d.hok.fresh e)
def YY:jm X (.type "int") (λxs H Q=>∃x n,xs=[.str x]/\Pb x=some n/\x.length<=640/\Q (.int n) H):=by
 intro c s e H xs d Q I r h;revert h;refine fm λx n z0 b a q=>?_;subst z0;obtain⟨u,rfl,t,rfl⟩:=vals1 r;exact PySem.W.KIN.call_text b a ⟨.int n,H,I.tok _,⟨_,rfl⟩,q⟩
end
def Yg {K:X0}{l:Addr}{xs:AF}{g:TG}{n:TS}{D:Ends}{a:St}{H:Hp}(Pv:Nat->St->Hp->Prop)(h0:Pv 0 a H)(u:∀i a H,i<=xs.length->Pv i a H->SqL K H l xs)
  (w:∀i x T a H,xs[i]?=some x->H T=none->Pv i a H->g (.ref T) a (upd H T (.tup [.int i,x])) fun d h=>n { D with nx:=Pv (i+1),ct:=Pv (i+1),bk:=D.nx } d h) (r:∀ a H,Pv xs.length a H->D.nx a H) :
  ∃W:Nat->Nat->St->Hp->Prop,(∃m,W 0 m a H)/\∀i m a H,W i m a H ->
   ((Ite K l).stop i H/\D.nx a H)\/((Ite K l).go i H/\∃N:St->Hp->Prop,(∀ c b,N c b->∃j,j<m/\W (i+1) j c b)/\∀x b,(Ite K l).yld i H x b->g x a b fun d h=>n { D with nx:=N,ct:=N,bk:=D.nx } d h):=by
 refine⟨λi m a H=>m=xs.length-i/\i<=xs.length/\Pv i a H,⟨xs.length,"s",W2 _,h0⟩,?_⟩;rintro i m a H ⟨rfl,s,p⟩;have q:=u i a H s p;by_cases f:i<xs.length
 .refine .inr ⟨⟨xs,q,f⟩,Pv (i+1),fun c b A=>⟨xs.length-(i+1),"a",rfl,f,A⟩,λx b y=>?_⟩;revert y;refine fu λT z0 o y=>?_;subst z0;obtain⟨v,z,rfl⟩:=y xs q;exact w i v T a H z o p
 .have e:i=xs.length:="a"
  subst e;exact .inl ⟨⟨xs,q,rfl⟩,r a H p⟩
def zit {g:TG}{l:TT}{n:TE}{Q:VK}{a:St}{H:Hp}{D:Addr}{x:Str}(Pv:Nat->St->Hp->Prop)(h0:Pv 0 a H)
  (w:∀i c T a H,x.cps[i]?=some c->H T=none->Pv i a H->g (.ref T) a (upd H T (.tup [.int i,.str ⟨#[c]⟩])) fun d q=>l d q λb h=>if b=true then n d h λy j=>∃ys,j D=some (.lst ys)/\ys.length<Xy/\Pv (i+1) d (upd j D (.lst (ys++[y]))) else Pv (i+1) d h)
  (u:∀ a H,Pv x.cps.size a H->Q (.ref D) H):yW (zob x) g l n Q D a H:=by
 refine⟨λi m a H=>m=x.cps.size-i/\i<=x.cps.size/\Pv i a H,⟨x.cps.size,"s",W2 _,h0⟩,?_⟩;rintro i m a H ⟨rfl,B,p⟩;by_cases f:i<x.cps.size
 .refine .inr (eH f (Pv (i+1)) (fun A o z=>⟨x.cps.size-(i+1),"a",rfl,f,z⟩) (λv o y=>?_));revert y;refine fm λT c z0 r s z1=>?_;subst z0 z1;exact w i c T a H s r p
 .have e:i=x.cps.size:="a"
  subst e;exact .inl ⟨rfl,u a H p⟩
def zaR (look:Str->Option Addr):List (Str×Tq)->List (Str×Addr)->List (Str×Addr)
 | [],a=>a
 | (n,k)::r,a=>if k == .free then (match look n with
  | some c=>zaR look r ((n,c)::a)
  | none=>zaR look r a) else zaR look r a
theorem Yh {look:Str->Option Addr}:∀(b:List (Str×Tq)) (a:List (Str×Addr)) (p:Str×Addr),p∈zaR look b a->p∈a\/look p.1=some p.2
 | [],a,p,h=>.inl h
 | (n,k)::r,a,p,h=>by
  unfold zaR at h;split at h
  .cases e:look n with
   | none =>
    rw[e]at h;exact Yh r a p h
   | some c =>
    rw[e]at h;rcases Yh r _ p h with h | h
    .rcases XF.mp h with h | h
     .subst h;exact .inr e
     .exact .inl h
    .exact .inr h
  .exact Yh r a p h
def Yi {x n:Str}{c:Addr}{a:List (Str×Addr)}(h:(a.lookup x).isSome=true\/x=n):(Sq x ((n,c)::a)).isSome=true:=by
 rw[Vi];cases e:x==n with
 | true=>rfl
 | false =>
  rcases h with h | h
  .exact h
  .subst h;simp at e
def zc7 {look:Str->Option Addr}{x:Str}(a:List (Str×Tq))(b:List (Str×Addr))(h:(b.lookup x).isSome=true\/((x,NameKind.free)∈a/\(look x).isSome=true)):((zaR look a b).lookup x).isSome=true:=by
 induction a generalizing b with
 | nil =>
  rcases h with h | h
  .exact h
  .cases h.1
 | cons y r d =>
  obtain⟨n,k⟩:=y;unfold zaR;split
  .rename_i hk;cases e:look n with
   | none =>
    refine d b ?_;rcases h with h | ⟨h,h2⟩
    .exact .inl h
    .rcases XF.mp h with h | h
     .cases h;rw[e]at h2;cases h2
     .exact .inr ⟨h,h2⟩
   | some c =>
    refine d _ ?_;rcases h with h | ⟨h,h2⟩
    .exact .inl (Yi (.inl h))
    .rcases XF.mp h with h | h
     .cases h;exact .inl (Yi (.inr rfl))
     .exact .inr ⟨h,h2⟩
  .rename_i hk;refine d b ?_;rcases h with h | ⟨h,h2⟩
   .exact .inl h
   .rcases XF.mp h with h | h
    .cases h;exact absurd rfl hk
    .exact .inr ⟨h,h2⟩
def Jt {e:UH}{d:Env}(h:∀y∈e.names,y.2=.free->(d.cells.lookup y.1).isSome=true):Ow e d=pure (zaR (λx=>d.cells.lookup x) e.names []):=by
 have v:∀(b:List (Str×Tq)) (f:List (Str×Addr)),(∀y∈b,y.2=.free->(d.cells.lookup y.1).isSome=true) ->
   (forIn b f λx l=>(match x with
    | (g,j)=>if (j == .free)=true then do let a <- cellOf d g;pure (Vo ((g,a)::l)) else pure (Vo l):Sem (ForInStep (List (Str×Addr)))))=(pure (zaR (λx=>d.cells.lookup x) b f):Sem _):=by
  intro b;induction b with
  | nil=>intro f _;rfl
  | cons y r s =>
   intro f q;obtain⟨n,k⟩:=y;have p:∀y∈r,y.2=.free->(d.cells.lookup y.1).isSome=true:=λy z=>q y (XQ _ z);rw[List.forIn_cons];unfold zaR;by_cases hk:(k==NameKind.free)=true
   .have o:k=.free:=by simpa using hk
    have A:=q (n,k) XT o;obtain⟨c,w⟩:=Wd.mp A;have i:Sq n d.cells=some c:=w;have u:cellOf d n=pure c:=by
     unfold cellOf;rw[i]
    simp only[hk,if_true,u,i,pure_bind];exact s _ p
   .simp only[hk,V5,if_false,pure_bind];exact s _ p
 simp only[Ow];exact Eq.trans (congrArg (λm:Sem (List (Str×Addr))=>m >>= λl=>pure l) (v e.names [] h)) rfl
def yJ {b:UH}{a:Env}{x:Str}{k:Tq}(h:(x,k)∈(UG b a).names)(hk:k=.cell\/k=.free):(x,U0)∈b.names\/(x,NameKind.free)∈b.names:=by
 obtain⟨y,g,e⟩:=XY.mp h;obtain⟨n,d⟩:=y;by_cases c:(d==NameKind.free&&a.scope.kind == .function&&a.kindOf n==some .cell)=true
 .have f:(if (d==NameKind.free&&a.scope.kind == .function&&a.kindOf n==some .cell)=true then (n,U0) else (n,d))=(x,k):=e;rw[bw c]at f;cases f;have c1:d=.free:=by
   have:=(WT.mp (WT.mp c).1).1;simpa using this
  subst c1;exact .inr g
 .have f:(if (d==NameKind.free&&a.scope.kind == .function&&a.kindOf n==some .cell)=true then (n,U0) else (n,d))=(x,k):=e;rw[bq c]at f;cases f;rcases hk with rfl | rfl
  .exact .inl g
  .exact .inr g
def zfN {d:UH}{a:Env}{x:Str}(hk:a.scope.kind=.function)(l:a.kindOf x=some .cell)(h:d.names.lookup x=some .free):(UG d a).names.lookup x=some .cell:=by
 have i:∀b:List (Str×Tq),b.lookup x=some .free->(b.map λ(n,k)=>if (k==NameKind.free&&a.scope.kind == .function&&a.kindOf n==some .cell)=true then (n,U0) else (n,k)).lookup x=some .cell:=by
  intro b;induction b with
  | nil=>intro h;cases h
  | cons y r g =>
   obtain⟨n,k⟩:=y;intro h;show Sq x ((if (k==NameKind.free&&a.scope.kind == .function&&a.kindOf n==some .cell)=true then (n,U0) else (n,k))::_)=_;rw[Vi]at h;cases e:x==n with
   | true =>
    rw[e]at h;have f:k=.free:=Option.some.inj h;have j:x=n:=by simpa using e
    subst f j;rw[bw (by rw[hk,l];rfl),Vi,beq_self_eq_true]
   | false =>
    rw[e]at h;by_cases c:(k==NameKind.free&&a.scope.kind == .function&&a.kindOf n==some .cell)=true
    .rw[bw c,Vi,e];exact g h
    .rw[bq c,Vi,e];exact g h
 exact i d.names h
theorem j8.free {X:Cx}{N:AE}{src:List (Option Nat)}{a:UH}{O:List (Str×Tq)}{XN:AE}(w:X.env.scope.names=O)(v:X.env.scope.kind=.function)(u:∃n,X.env.cells=SD n O [])(A:X.N=XN)
  (f:a.kind=.function) (b:∀y∈a.names,y.2 ≠ .cell) (d:∀y∈a.names,y.2=.local->a.names.lookup y.1=some .local) (s:∀y∈a.names,y.2=.free->O.lookup y.1=some .cell) (g:src.length=N.length)
  (E:∀q∈N.zip src,q.2=none\/(∃j∈Xk XN.length,q.2=some j/\XN[j]?=some q.1/\O.lookup q.1=some .cell/\a.names.lookup q.1=some .free)):j8 X N src a (zaR (λx=>X.env.cells.lookup x) a.names []):=by
 have l:∀y∈a.names,y.2=.free->(X.env.cells.lookup y.1).isSome=true:=λy D e=>by
  obtain⟨n,B⟩:=u;rw[B];exact SK O n [] (.inl (s y D e))
 refine⟨f,b,d,Jt l,λx c h=>?_,λx h=>?_,g,λi j x h1 h2=>?_⟩
 .rcases Yh _ _ _ (WD h) with z | z
  .cases z
  .exact z
 .refine Wd.mp (zc7 _ _ (.inr ?_));have hm:(x,U0)∈a.names\/(x,NameKind.free)∈a.names:=by
   rcases h with h | h
   .exact yJ (WD h) (.inl rfl)
   .exact yJ (WD h) (.inr rfl)
  rcases hm with hm | hm
  .exact absurd rfl (b _ hm)
  .exact⟨hm,l _ hm rfl⟩
 .have hm:(x,some j)∈N.zip src:=by
   refine X4 (i:=i) ?_;rw[Tx];exact⟨h1,h2⟩
  rcases E _ hm with z | ⟨G,_,e,o,p,r⟩
  .cases z
  .cases e;have m:X.env.kindOf x=some .cell:=by
    show X.env.scope.names.lookup x=some .cell;rw[w];exact p
   exact⟨by rw[A];exact o,.inl m,.inl (zfN v m r)⟩
open PySem PySem.Spec PyProof.Rows PySem.W
section
variable {α β:Type}{R:α->β->Prop}{us us':List α}{cs cs':List β}{i:Nat}{v:α}{c:β}
def YZ (h:WW R us cs)(k:WW R us' cs'):WW R (us++us') (cs++cs'):=by
 induction h with
 | nil=>exact k
 | cons q _ a=>exact .cons q a
def zaA (h:WW R us cs)(e:us[i]?=some v):∃c,cs[i]?=some c/\R v c:=by
 induction h generalizing i with
 | nil=>cases e
 | cons q _ a =>
  cases i with
  | zero =>
   cases e;exact⟨_,rfl,q⟩
  | succ i=>exact a (i:=i) e
def zlY (h:WW R us cs)(e:v∈us):∃c∈cs,R v c:=by
 induction h with
 | nil=>cases e
 | cons q _ a =>
  rcases XF.mp e with rfl | e
  .exact⟨_,XT,q⟩
  .obtain⟨c,h,r⟩:=a e;exact⟨c,XQ _ h,r⟩
end
def j9 (H:Hp):AF->List (Int×Int)->Prop:=WW λv p=>∃a,v=V.ref a/\H a=some (.tup [.int p.1,.int p.2])
def lt2 (p q:Int×Int):Bool:=if p.1=q.1 then decide (p.2<q.2) else decide (p.1<q.1)
structure zC (h:Heap)(v:Y1)(p:Int×Int):Prop where
 ex:∃a o n t u,v=.ref a/\h.get? a=some o/\o.cls=.type "tuple"/\o.data=.seq #[.int p.1 t,.int p.2 u] n
section
variable {X:Cx}{bQ:List (Addr×Obj)}{σ:St}{H:Hp}{s:X8}
def j9.pairs (I:Inv X bQ σ H s){d:AF}{ps:List (Int×Int)}{b:List Y1}(i:j9 H d ps)(r:Vals d b):WW (zC s.heap) b ps:=by
 induction i generalizing b with
 | nil =>
  cases r;exact .nil
 | cons q _ j =>
  obtain⟨a,e,h⟩:=q;subst e;cases r with
  | cons l m =>
   cases l;refine .cons ?_ (j m);obtain⟨c,o,v,_⟩:=I.tuple (SqT.of h);obtain⟨u1,w,rfl,⟨p,rfl⟩,⟨u,rfl⟩⟩:=vals2 o;obtain⟨ob,g,c1,n,f⟩:=v;exact⟨a,ob,n,p,u,rfl,g,c1,f⟩
end
theorem Y0 {h h':Heap}(k:∀b o,h.get? b=some o->h'.get? b=some o):∀{c:List Y1} {ps:List (Int×Int)},WW (zC h) c ps->WW (zC h') c ps
 | _,_,.nil=>.nil
 | _,_,.cons ⟨a,o,n,t,u,e,d,r⟩ tl=>.cons ⟨a,o,n,t,u,e,k _ _ d,r⟩ (Y0 k tl)
theorem Y4 {h:Heap}:∀{b:List Y1} {ps:List (Int×Int)},WW (zC h) b ps->∃fs:List Y1,KatTups h b fs/\fs.length=b.length/\∀v∈fs,∃x t,v=Vs x t
 | _,_,.nil=>⟨[],.nil,rfl,λ_ z=>nomatch z⟩
 | _,_,.cons ⟨a,o,n,t,u,e,f,c,d⟩ tl=>by
  obtain⟨fs,k,l,q⟩:=Y4 tl;subst e;refine⟨.int _ t::fs,KatTups.cons f c d rfl k,by simp[l],λv hv=>?_⟩;rcases XF.mp hv with rfl | hv
  .exact⟨_,t,rfl⟩
  .exact q v hv
section
variable {prog:Xv}{w:W5}{A:WL}{E:Y1->X8->Prop}{s:X8}
def zjL {v i:Y1}{p q:Int×Int}{C:Bool->X8->Prop}(x:zC s.heap v p)(f:zC s.heap i q)(h:C (lt2 p q) s):Xh (Xn prog w) A (keyLt' (tuples' true) v i) C E s:=by
 obtain⟨a,o,n,t,u,rfl,m,c1,l⟩:=x;obtain⟨B,H,G,y,z,rfl,c,j,b⟩:=f;refine kat_lt m l c b ?_;show KatLex prog w A true _ C [(Vs p.1 t,Vs q.1 y),(Vs p.2 u,Vs q.2 z)] 0 s;unfold lt2 at h;refine kat_cons (SeqAt.EqAt.int_int _ _ _ _ prog w _ _ (kat_go (λd=>kat_yes ?_) λd=>kat_no ?_))
 .have e:p.1=q.1:=by simpa using d
  rw[bw e]at h;refine kat_cons (SeqAt.EqAt.int_int _ _ _ _ prog w _ _ (kat_go (λg=>kat_yes (kat_nil ?_)) λg=>kat_no ?_))
  .have D:p.2=q.2:=by simpa using g
   have r:decide (p.2<q.2)=false:=bg "a";rw[r]at h;exact h
  .exact kat_one _ _ (lt_int h)
 .have e:¬ p.1=q.1:=by simpa using d
  rw[bq e]at h;exact oneLt_int h
end
section
variable {X:Cx}
def zgU:zrJ X (zrR X.K):=by
 intro g s D H x y v u Q I A B h;revert h;refine fU λp L i z z0 z1 o he q=>?_;subst z0 z1;cases A;obtain⟨t,rfl⟩:=B;obtain⟨c,r,f,J⟩:=I.list o;refine fR (λj h1 h2 E l m=>?_) (zcM he);obtain⟨w,e,d⟩:=r.get h2;have n:=r.length;have G:=Qw;have a:EP X g D Q w s:=⟨z,H,I,d,q⟩;by_cases h0:0<=i
 .have b:i.toNat=j:=by
   rw[Pf h0 m]at h1;exact Option.some.inj h1
  exact wpAny_getItem_list f.isList h0 "a" (by rw[b];simpa using e) a
 .have b:(i+(c.toArray.size:Int)).toNat=j:=by
   rw[PP "a" l]at h1;rw[Xr,<- n];exact Option.some.inj h1
  exact PJ f.isList "a" (by rw[Xr]<;>lia) "a" (by rw[b];simpa using e) a
theorem zgV:∀{b:List Int} {a:List Y1},Vals (b.map V.int) a->OR a b
 | [],_,r=>by cases r;exact .nil
 | n::b,_,r=>by
  cases r with
  | cons c d =>
   obtain⟨t,rfl⟩:=c;exact .cons n t (zgV d)
def zlZ (i:X.calm=true):jm X (.builtin "sum") (λxs H Q=>∃(l:Addr) (a:List Int),xs=[.ref l]/\SqL X.K H l (a.map V.int)/\Q (.int a.sum) H):=by
 intro p s A H xs z Q I r h;obtain⟨l,a,rfl,j,q⟩:=h;obtain⟨u,rfl,n⟩:=vals1 r;cases n;obtain⟨b,o,m,w⟩:=I.list j;have e:OR b a:=zgV o;obtain⟨c,d⟩:=e.allInts.items;refine sum_intListG (I.ok.hd i) (xs:=c) (d ▸ m.isList) λv y x hk=>?_;have f:a=c.toList.map (·.1):=by
  rw[<- nums_intItems,<- d];exact(show numsOf b.toArray.toList=a from e.numsOf).symm
 have g:preSum (numAt c) c.size=a.sum:=by
  rw[f,preSum_eq,Wt "s"]
 rw[g];exact⟨.int _,H,I.kept hk,⟨_,rfl⟩,q⟩
def zkN {bs:List Bool}{a:List Y1}(r:Vals (bs.map V.bl) a){i:Nat}{v:Y1}(e:a[i]?=some v):∃b,bs[i]?=some b/\v=.bool b:=by
 have d:=r.length;rw[ZB]at d;have c:i<bs.length:=by
  have:=(X2.mp e).1;lia
 obtain⟨u,f,g⟩:=r.get (i:=i) (x:=.bl bs[i]) (by rw[Xl,XX c];rfl);rw[f]at e;cases e;exact⟨bs[i],XX c,g⟩
def zgW (n:X.calm=true):jm X (.builtin "any") (λxs H Q=>∃(l:Addr) (bs:List Bool),xs=[.ref l]/\SqL X.K H l (bs.map V.bl)/\Q (.bl (bs.any id)) H):=by
 intro z s L H xs J Q I r h;obtain⟨l,bs,rfl,o,q⟩:=h;obtain⟨u,rfl,w⟩:=vals1 r;cases w;obtain⟨a,j,p,D⟩:=I.list o;have d:=p.isList;have f:l<s.heap.objs.size:=let ⟨_,he,_⟩:=d;XE he
 have c:=j.length;rw[ZB]at c;refine call_any_walk (TW d ?_);refine eN s.heap.objs.size [s.heap.objs.size,l] [s.heap.objs.size] a.toArray.size _ _ (λi=>(bs[i]?).getD false) rfl (Walks.list (A:=X.A.in1) (I.ok.hd n) _ l (Xi f) a.toArray) ⟨⟨_,Xf _ rfl,rfl,rfl⟩,d.push _⟩ (λi v E y x hP g=>?_) (λB G hk=>?_)
 .obtain⟨b,m,rfl⟩:=zkN j (i:=i) (v:=v) ↑hP;simp only[m,TC]at g;exact V7 g
 .have e:((Xk a.toArray.size).any λi=>(bs[i]?).getD false)=bs.any id:=by
   rw[Xr,<- c];exact LSm.range_any bs
  rw[e];exact⟨.bl _,H,I.kept (LSm.kept_iter hk),rfl,q⟩
end
mutual
inductive Rdn (N:Addr->Prop)(H:Hp):V->V6->Prop
 | non:Rdn N H .non .none
 | bl (b:Bool):Rdn N H (.bl b) (.bool b)
 | int (i:Int):Rdn N H (.int i) (.int i)
 | str (x:Str):Rdn N H (.str x) (.str x)
 | lst {a:Addr} {xs:AF} {ds:List V6}:N a->H a=some (.lst xs)->zD N H xs ds->Rdn N H (.ref a) (.list ds)
 | tup {a:Addr} {xs:AF} {ds:List V6}:H a=some (.tup xs)->zD N H xs ds->Rdn N H (.ref a) (.tuple ds)
inductive zD (N:Addr->Prop)(H:Hp):AF->List V6->Prop
 | nil:zD N H [] []
 | cons {x:V} {d:V6} {xs:AF} {ds:List V6}:Rdn N H x d->zD N H xs ds->zD N H (x::xs) (d::ds)
end
section
variable {K:X0}{N N':Addr->Prop}{H H':Hp}
def Rdn.rdv {v:V}{d:V6}(h:Rdn N H v d):Rdv K H v d :=
 Rdn.rec (motive_1:=λv d _=>Rdv K H v d) (motive_2:=λc b _=>ZZ K H c b) .non .bl .int .str (λ_ h _ t=>.lst (SqL.of h) t) (λh _ t=>.tup (SqT.of h) t) .nil (λ_ _ a t=>.cons a t) h
def zD.rdv {vs:AF}{b:List V6}(h:zD N H vs b):ZZ K H vs b :=
 zD.rec (motive_1:=λv d _=>Rdv K H v d) (motive_2:=λvs b _=>ZZ K H vs b) .non .bl .int .str (λ_ h _ t=>.lst (SqL.of h) t) (λh _ t=>.tup (SqT.of h) t) .nil (λ_ _ a t=>.cons a t) h
def Rdn.mono (s:zq H H')(i:∀a,N a->N' a){v:V}{d:V6}(h:Rdn N H v d):Rdn N' H' v d :=
 Rdn.rec (motive_1:=λv d _=>Rdn N' H' v d) (motive_2:=λc b _=>zD N' H' c b) .non .bl .int .str (λn h _ t=>.lst (i _ n) (s _ _ h) t) (λh _ t=>.tup (s _ _ h) t) .nil (λ_ _ a t=>.cons a t) h
def zD.mono (s:zq H H')(i:∀a,N a->N' a){vs:AF}{b:List V6}(h:zD N H vs b):zD N' H' vs b :=
 zD.rec (motive_1:=λv d _=>Rdn N' H' v d) (motive_2:=λvs b _=>zD N' H' vs b) .non .bl .int .str (λn h _ t=>.lst (i _ n) (s _ _ h) t) (λh _ t=>.tup (s _ _ h) t) .nil (λ_ _ a t=>.cons a t) h
def zD.into {D:Addr}{o:HO}{c:AF}(e:H D=some (.lst c))(i:∀a,N a->a≠D){vs:AF}{b:List V6}(h:zD N H vs b):zD N (upd H D o) vs b :=
 zD.rec (motive_1:=λv d _=>Rdn N (upd H D o) v d) (motive_2:=λvs b _=>zD N (upd H D o) vs b) .non .bl .int .str (λn h _ t=>.lst n (by rw[zg (i _ n)];exact h) t) (λh _ t=>.tup (by rw[zg (zeA h e (by intro z;cases z))];exact h) t) .nil (λ_ _ a t=>.cons a t) h
def Rdn.keep (s:zq H H'){v:V}{d:V6}(h:Rdn N H v d):Rdn N H' v d:=h.mono s λ_ n=>n
def zD.keep (s:zq H H'){vs:AF}{a:List V6}(h:zD N H vs a):zD N H' vs a:=h.mono s λ_ n=>n
def zD.append {vs d:AF}{b c:List V6}(h:zD N H vs b)(k:zD N H d c):zD N H (vs++d) (b++c) :=
 zD.rec (motive_1:=λ_ _ _=>True) (motive_2:=λvs b _=>zD N H (vs++d) (b++c))
  trivial (λ_=>trivial) (λ_=>trivial) (λ_=>trivial) (λ_ _ _ _=>trivial) (λ_ _ _=>trivial) k (λa _ _ t=>.cons a t) h
def zD.snoc {vs:AF}{a:List V6}{v:V}{d:V6}(h:zD N H vs a)(k:Rdn N H v d):zD N H (vs++[v]) (a++[d]):=h.append (.cons k .nil)
def zD.paired {vs:AF}{b:List V6}(h:zD N H vs b):WW (Rdn N H) vs b :=
 zD.rec (motive_1:=λ_ _ _=>True) (motive_2:=λvs b _=>WW (Rdn N H) vs b)
  trivial (λ_=>trivial) (λ_=>trivial) (λ_=>trivial) (λ_ _ _ _=>trivial) (λ_ _ _=>trivial) .nil (λa _ _ t=>.cons a t) h
theorem zD.length {vs:AF}{a:List V6}(h:zD N H vs a):vs.length=a.length:=Paired.length h.paired
def zD.get {vs:AF}{a:List V6}{i:Nat}{v:V}(h:zD N H vs a)(e:vs[i]?=some v):∃d,a[i]?=some d/\Rdn N H v d:=zaA h.paired e
end
section
variable {K:X0}{g:TG}{tc:TT}{te:TE}{Q:VK}{σ0:St}{H1:Hp}{D:Addr}
def zoc (N:Addr->Prop)(c:St->Prop)(H:Hp)(o:Option V6)(Y:St->V->Hp->Prop):Prop:=∀d y a b,o=some d->c a->zq H b->Rdn N b y d->Y a y b
def zqq (b:St->Prop)(H:Hp)(o:Option V6)(Z:St->Hp->Prop):Prop:=∀ a c,o=none->b a->zq H c->Z a c
def ji {a:Addr}{xs:AF}(N:Addr->Prop)(c:List (Option V6))(h:St->Prop)(G:H1 D=none)(M:∀a,N a->a≠D)(h0:h σ0)(p:c.length=xs.length)(hz:xs.length<=100000)
  (hl:SqL K H1 a xs)
  (hs:∀(i:Nat) (x:V) (o:Option V6) (l:St) (H:Hp),xs[i]?=some x->c[i]?=some o->zq H1 H->H D≠none->h l->∀Y Z,zoc N h H o Y->zqq h H o Z ->
   g x l H fun f L=>tc f L λb u=>if b=true then te f u λy E=>Y f y E else Z f u)
  (O:∀ys j,zq H1 j->j D=some (.lst ys)->zD N j ys (c.filterMap id)->Q (.ref D) j):yW (Itl K a) g tc te Q D σ0 (upd H1 D (.lst [])):=by
 refine zY (K:=K) (a:=a) (xs:=xs) (λi l j=>h l/\zq H1 j/\∃ys,j D=some (.lst ys)/\ys.length<=i/\zD N j ys ((c.take i).filterMap id)) ⟨h0,zc G,[],zb,XW _,.nil⟩ (λi l j _ ⟨_,s,_⟩=>s.seq hl) ?_ ?_
 .refine λi x l H J=>fL λU s=>fu λys n B q=>?_;have v:i<xs.length:=(X2.mp J).1;obtain⟨o,I⟩:∃o,c[i]?=some o:=⟨c[i]'"a",XX "a"⟩;have step:(c.take (i+1)).filterMap id=(c.take i).filterMap id++o.toList:=by
   rw[XB,I,List.filterMap_append];cases o<;>rfl
  refine hs i x o l H J I s (by rw[n];exact λz=>nomatch z) U _ _ (λd y f E e m r w=>?_) (fun f u e m A=>?_)
  .subst e;refine dZ ys (r _ _ n) (XI B (XD v (X7 hz "d"))) m (λb ob e=>?_) (dD (ys++[y]) zb ?_ ?_)
   .rw[zg (zh e G)];exact r _ _ (s _ _ e)
   .rw[X5];exact O6 B 1
   .rw[step];exact zD.into (r _ _ n) M (zD.snoc (q.keep r) w)
  .subst e;refine⟨m,s.trans A,ys,A _ _ n,Vx B,?_⟩;rw[step];simpa using q.keep A
 .rintro l H ⟨_,s,ys,n,_,q⟩;rw[<- p,XH]at q;exact O ys H s n q
def ziu {a:Addr}{xs:AF}(Pv:Nat->St->Hp->Prop){H:Hp}(h0:Pv 0 σ0 H)(u:∀i c H,i<=xs.length->Pv i c H->SqL K H a xs)
  (w:∀i x T c H,xs[i]?=some x->H T=none->Pv i c H->g (.ref T) c (upd H T (.tup [.int i,x])) fun d n=>tc d n λb h=>if b=true then te d h λy j=>∃ys,j D=some (.lst ys)/\ys.length<Xy/\Pv (i+1) d (upd j D (.lst (ys++[y]))) else Pv (i+1) d h)
  (r:∀ c H,Pv xs.length c H->Q (.ref D) H):yW (Ite K a) g tc te Q D σ0 H:=by
 refine⟨λi m c H=>m=xs.length-i/\i<=xs.length/\Pv i c H,⟨xs.length,"s",W2 _,h0⟩,?_⟩;rintro i m c H ⟨rfl,s,p⟩;have q:=u i c H s p;by_cases f:i<xs.length
 .refine .inr (eH ⟨xs,q,f⟩ (Pv (i+1)) (fun B l A=>⟨xs.length-(i+1),"a",rfl,f,A⟩) (λx l y=>?_));revert y;refine fu λT z0 o y=>?_;subst z0;obtain⟨v,z,rfl⟩:=y xs q;exact w i v T c H z o p
 .have e:i=xs.length:="a"
  subst e;exact .inl ⟨⟨xs,q,rfl⟩,r c H p⟩
def ZE {i:Nat}{v:V}{c:St}{H:Hp}{A B:St->Hp->Prop}(h:A (c.set i (some v)) H):yv i v c H fun a e=>zn9 a e λb d=>if b=true then A a d else B a d:=by
 show if true=true then A (c.set i (some v)) H else B (c.set i (some v)) H
 exact zbj h
end
def JB:List Y1:=[.type "ValueError",.type "Exception",.type "BaseException",.type "object"]
structure Fly (P:Xv)(w:W5)(outer:List Env)(H:Hp)(s:X8)(e C:Addr)(a0:Y1)(B:Heap)(H':Hp)(s':X8):Prop where
 fly:Om B outer e (.ref C) a0 s'.heap
 os:s'.os=s.os
 bare:Sy s'.gens
 un:Un (frs outer) [] H H' s.heap s'.heap
 ok:HOk P w H' B
 kB:∀b o,s.heap.get? b=some o->H b=none->b ∉ frs outer->B.get? b=some o
 tB:∀b o,s.heap.get? b=some o->b ∉ frs outer->∃o',B.get? b=some o'
 new:s.heap.get? e=none
 free:H' e=none
def CXE (P:Xv)(w:W5):CXT:=λa H s E x d=>∃(e C:Addr) (c:Y1) (B:Heap) (b:Hp),x=.ref e/\Fly P w a H s e C c B b d/\E (.ref C) none b
theorem zl0 {P:Xv}{w:W5}{H:Hp}{h:Heap}{a:Addr}:∀{o:HO},qv P w H h a o->∃ob,h.get? a=some ob
 | .lst _,x=>by obtain⟨_,_,_,_,q⟩:=x;exact⟨_,q⟩
 | .tup _,x=>by obtain⟨_,_,_,ob,q,_⟩:=x;exact⟨ob,q⟩
 | .dK _,x=>by revert x;refine fZ λ_ _ _ _ ob _ _ q _=>?_;exact⟨ob,q⟩
 | .dT _,x=>by revert x;refine fZ λ_ _ _ _ ob _ _ q _=>?_;exact⟨ob,q⟩
 | .set _ _,x=>by revert x;refine gi λob _ _ _ q _=>?_;exact⟨ob,q⟩
 | .ins _ _ _,x=>by obtain⟨_,_,_,q,_⟩:=x;exact⟨_,q⟩
 | .own _,x=>x
 | .xd _,x=>by obtain⟨_,⟨ob,_,_,q,_⟩,_⟩:=x;exact⟨ob,q⟩
 | .met _ _,x=>⟨_,x⟩
 | .rng _ _,x=>by obtain⟨_,_,_,q⟩:=x;exact⟨_,q⟩
 | .frz _ _,x=>⟨_,x.1⟩
 | .tbl _,x=>⟨_,x⟩
 | .ext _,x=>x.2.1
section
variable {X:Cx}{bQ:List (Addr×Obj)}{σ:St}{H H':Hp}{s s':X8}{e C:Addr}{a0:Y1}{B h2:Heap}
def Inv.notLoc (I:Inv X bQ σ H s){b:Addr}{o:Obj}(q:X.s₀.heap.get? b=some o):b≠X.env.locals:=λz=>V3 _ (XD (z ▸ XE q) I.ok.above)
def Inv.notStk (I:Inv X bQ σ H s){b:Addr}{o:Obj}(q:X.s₀.heap.get? b=some o)(a:b ∉ X.fs):b ∉ frs X.stack:=λz=>by
 rcases XF.mp (I.stkSub b z) with r | r
 .exact I.notLoc q r
 .exact a r
def Inv.flies (I:Inv X bQ σ H s)(j:X.ex=[])(F:Om B X.outer e (.ref C) a0 h2)(up:s'.heap.UpToSlots h2)(os:s'.os=s.os)(i:Sy s'.gens)(un:Un (frs X.stack) [] H H' s.heap s'.heap)(ok:HOk X.prog X.w H' B)
  (y:∀b o,s.heap.get? b=some o->H b=none->b ∉ frs X.stack->B.get? b=some o) (tB:∀b o,s.heap.get? b=some o->b ∉ frs X.stack->∃c,B.get? b=some c) (l:s.heap.get? e=none) (free:H' e=none) :
  Fly X.prog X.w X.outer X.H₀ X.s₀ e C a0 B H' { s' with heap:=h2 }:=by
 have f:∀b,b ∉ X.ex:=λb z=>by rw[j]at z;cases z
 have keep:∀b o,X.s₀.heap.get? b=some o->X.H₀ b=none->b ∉ X.fs->B.get? b=some o:=λb o q n a =>
  y b o (I.base.keep b o q n a (f b)) (I.base.free b o q n (f b)) (I.notStk q a)
 have d:∀b o,X.s₀.heap.get? b=some o->b ∉ X.fs->∃c,B.get? b=some c:=λb o q a=>by
  obtain⟨c,h⟩:=I.base.there b o q (f b);exact tB b c h (I.notStk q a)
 have g:∀b o,X.s₀.heap.get? b=some o->b∈X.fs->∃m,h2.get? b=some { o with slots:=m }:=λb o q a=>by
  obtain⟨_,U,v,E⟩:=I.ok.funs.mem a;rw[q]at v;cases v;obtain⟨m,J⟩:=I.base.slot b o q (I.ok.frf b a) a (f b);obtain⟨Q,L⟩:=un.any J (I.base.free b o q (I.ok.frf b a) (f b)) (λz=>nomatch z);obtain⟨p,M⟩:=up b _ L E;exact⟨p,M⟩
 refine⟨F,os.trans I.os,i,⟨λb o q n a _=>F.1 b o (keep b o q n a),λb o q _ a _=>g b o q a,λb o q n _=>?_,λb o q _=>?_,λb x q=>un.tups b x (I.base.tups b x q),λb o u q=>un.frzs b o u (I.base.frzs b o u q),λb G q=>?_⟩,ok,keep,d,?_,free⟩
 .obtain⟨c,h⟩:=I.base.there b o q (f b);exact un.free b c h (I.base.free b o q n (f b)) λz=>nomatch z
 .by_cases a:b∈X.fs
  .obtain⟨m,r⟩:=g b o q a;exact⟨_,r⟩
  .obtain⟨c,r⟩:=d b o q a;exact⟨c,F.1 b c r⟩
 .obtain⟨A,N⟩:=I.base.tbls b G q;obtain⟨D,O⟩:=un.tbls b _ N;exact⟨A++D,by rw[O,RQ]⟩
 .cases q:X.s₀.heap.get? e with
  | none=>rfl
  | some o =>
   obtain⟨c,h⟩:=I.base.there e o q (f e);rw[l]at h;cases h
structure QC (X:Cx)(E:XK):Prop where
 stk:X.stack=X.env::X.outer
 fr:X.env.frame=some X.env.locals
 ex:X.ex=[]
 xe:X.xe=λx s'=>Xh (Xn X.prog X.w) X.A (leaving X.env x) (λ_ s''=>CXE X.prog X.w X.outer X.H₀ X.s₀ E x s'') (λx' s''=>CXE X.prog X.w X.outer X.H₀ X.s₀ E x' s'') s'
def Yj {P:Xv}{w:W5}{K:X0}{e:Str->Option Y1}{base:Heap}{N:AE}{c:Str}{b:UH}{f:Addr}{d:Y1}{A:WL}{a:List Env}{s:X8}{H:Hp}{E:XK} :
  QC (zgN (CXE P w) P w K e base N c b f d A a s H E) E:=⟨rfl,rfl,rfl,rfl⟩
def zqr {l:List Env}:∀b∈l,∀a,b.frame=some a->a∈frs l:=λb he a c=>Td.mpr ⟨b,he,c⟩
def QC.made {E:XK}(L:QC X E)(I:Inv X bQ σ H s){h1:Heap}{vs:List Y1}(c:Heap.MadeExcOf s.heap h1 e (.ref C) vs)(h:E (.ref C) none H):X.xe (.ref e) { s with heap:=h1 }:=by
 rw[L.xe];have i:=I.stack;have d:∀a o,H a=some o->a ∉ frs X.stack:=λa o q z=>by
  rw[I.stkFree a z]at q;cases q
 have own:∀a b,H b=some (.own a)->b ∉ frs X.stack:=λa b q=>d b _ q;have fresh:H e=none:=by
  cases q:H e with
  | none=>rfl
  | some o =>
   obtain⟨f,g⟩:∃f,s.heap.get? e=some f:=by
    exact zl0 (I.hok e o q)
   rw[c.new]at g;cases g
 refine wpAny_leaves_madeW (base:=PySem.W.hideAll s.heap (frs X.stack)) (L:=X.env.locals) (by rw[I.ok.frames,L.stk]) L.fr (λb o q=>PySem.W.of_hideAll _ q) (PySem.W.funFrames_hide (by rw[<- L.stk];exact i) (by rw[<- L.stk];exact zqr)) c λm t j n p l=>?_;refine eK e C (eu _ _ H rfl (I.flies (s':={ s with heap:=h1 }) L.ex j l rfl I.bare (Un.kept c.keeps) ?_ (λb o q _ hb=>Ts _ q hb) (λb o q hb=>⟨o,Ts _ q hb⟩) c.new fresh) h);exact λa o q=>(I.hok a o q).stay (λb u hb r=>Ts _ r (by
  rcases hb with hb | hb
  .rw[hb];exact d a o q
  .exact own a b hb)) (λ_ r=>r) λ_ _ r=>r
def QC.passes {E:XK}(L:QC X E):Passes (CXE X.prog X.w) X E:=by
 intro bQ σ H s x s' I h;obtain⟨e,C,a0,B,H',rfl,F,b⟩:=h;rw[L.xe];have a:=F.fly;rw[L.stk]at a;refine wpAny_leaves_onW (by rw[I.ok.frames,L.stk]) L.fr a λh2 c d=>?_;exact eK e C (eu a0 B H' rfl (I.flies L.ex c d F.os F.bare F.un F.ok F.kB F.tB F.new F.free) b)
end
structure qC (K:X0)(mg:Str->Option Y1)(x:Str)(C:Addr):Prop where
 g:mg x=some (.ref C)
 q:WA K C JB "ValueError.__new__"=true
structure zpz (h:Heap)(C:Addr)(bm:List Y1):Prop where
 ex:∃N nm qn bs hdct sn sub ab col dd k0 k1 k2 k3 k5 mN,h.get? C=some (excClassObj nm qn C N bs bm hdct sn sub ab col dd k0 k1 k2 k3 k5 "ValueError.__new__")/\h.Ns N mN/\mN "__init__"=none
 tl:OwnTail h JB bm
def zpA {K:X0}{h:Heap}{C:Addr}(d:K.In h)(f:WA K C JB "ValueError.__new__"=true):∃bm,zpz h C bm:=by
 unfold WA at f;split at f
 .rename_i dd cd sl look;split at f
  .rename_i C' bm k0 k1 k2 k3 n k5 em es;simp only[VR,beq_iff_eq,Wu]at f;obtain⟨⟨⟨⟨⟨rfl,rfl⟩,b⟩,e⟩,c⟩,a⟩:=f;obtain⟨q,bs,p,r,s,o,u,sub,j,g,m⟩:=cd;dsimp only at em b c a;subst em b;have i:sl=#[k0,k1,k2,k3,some (.builtin "ValueError.__new__"),k5]:=by
    obtain⟨l⟩:=sl;simp only at es;rw[es]
   subst i;exact⟨bm,(dS r q s bs (dS o u sub j (e8 g dd k0 k1 k2 k3 (dM k5 _ (d _ _ look) (.of_isNs (PySem.W.isNs_of_in d c)) (PySem.W.nsMap_none_of_in d c a))))),PySem.W.tail_of_in d e⟩
  .cases f
 .cases f
section
variable {X:Cx}
def zqs (E:XK)(C:Addr)(t:TA):TS:=λ_ c H=>t c H λb a=>b.length<=Xy/\E (.ref C) none a
def zl1 {x:Str}{C:Addr}{z c pos:Pos}{f:Expr}{b:List Expr}{t:TA}{E:XK}(L:QC X E)(O:qC X.K X.mg x C)(u:Gl X x)(p:X.calm=true)(o:PA X (f::b) t)
  (he:WO (f::b) X.env=(false,eval f X.env)::WO b X.env:=by rfl) (v:(S5 c (WO b X.env)).any (·.1)=false:=by rfl) (i:(x==("__debug__":Str))=false:=by decide) :
  PS X (.Raise (some (.Call (.Name x z) (f::b) [] c)) none pos) (zqs E C t):=by
 intro l s B H D I h;obtain⟨bm,⟨N,nm,A,bs,hdct,sn,sub,ab,col,dd,k0,k1,k2,k3,k5,mN,m,n,j⟩,T⟩:=zpA I.ok.mod.kin O.q;refine wpAny_Raise_call_subU (C:=C) (nm:=nm) (q:=A) (N:=N) (bs:=bs) (bm:=bm) (hdct:=hdct) (sn:=sn) (sub:=sub) (ab:=ab) (col:=col) (dd:=dd) (k0:=k0) (k1:=k1) (k2:=k2) (k3:=k3) (k5:=k5)
  RK "d" RK (mN:=mN) (T.hasType PySem.F.excBase_ValueError.hasBase) (I.ok.hd p) (by rw[he];show (false || (S5 c (WO b X.env)).any (·.1))=false;rw[v];rfl) j (zbd I u O.g ⟨rfl,?_⟩ i)
 have a:=o c l s B H _ I h;rw[he]at a ⊢;refine O7 (thn a λQ M ⟨U,G,d,r,y,q⟩=>?_);exact dR rfl (by rw[<- r.length];exact y) (d.bk _ _ m) (n.keeps d.bk) (T.keeps d.bk) (λJ e w=>L.made d w q)
def markX (X:Cx)(e:Addr):Cx:={ X with A:=X.A.mark (some (.ref e)),calm:=false,xe:=λ_ _=>False }
variable {bQ:List (Addr×Obj)}{σ:St}{H:Hp}{s:X8}
def Cx.Ok.mark (ok:X.Ok)(e:Addr):(markX X e).Ok :=
 ⟨ok.mod,ok.kind,ok.glob,ok.blt,ok.above,ok.inj,ok.has,ok.cab,(λz=>nomatch z),ok.frames,ok.stk,ok.exf,ok.bs,ok.bsz,ok.noex,ok.exfs,ok.funs,ok.frf⟩
theorem Inv.mark (I:Inv X bQ σ H s)(e:Addr):Inv (markX X e) bQ σ H s:=⟨I.ok.mark e,I.os,I.bare,I.base,I.loc,I.cell,I.free,I.freeC,I.pin,I.hok,I.len⟩
def Inv.unmark {e:Addr}(I:Inv (markX X e) bQ σ H s)(ok:X.Ok):Inv X bQ σ H s:=⟨ok,I.os,I.bare,I.base,I.loc,I.cell,I.free,I.freeC,I.pin,I.hok,I.len⟩
def zqt (e C:Addr)(h:Heap):Prop:=∃ob a,h.get? e=some ob/\ob.cls=.ref C/\ob.data=.fields a
def exO (e C:Addr):HO:=.ext (zqt e C)
def Inv.nameGoes {M:N5}{A:WL}{E:Y1->X8->Prop}{j:Nat}{n:Str}{pos:Pos}{Q:Unit->X8->Prop}(I:Inv X bQ σ H s)(hN:X.N.Nodup)(L:X.N[j]?=some n)(hl:X.env.scope.names.lookup n=some .local)
  (h:∀s',Inv X bQ (σ.set j none) H s'->Q () s'):Xh M A (do bindName X.env n .none;unbindBehindTheSuite X.env n pos) Q E s:=by
 obtain⟨m,O,x⟩:=id I.loc;refine wpAny_nameGoes_keeps hl O (by rw[I.ok.kind];rfl) λh' v B D=>h _ ?_;have a:∀b o,b≠X.env.locals->s.heap.get? b=some o->h'.get? b=some o:=λb o g q=>(D.2 b g).trans q;refine fT (λoL _ _ aa _=>?_) (id O);have f:∀b o,X.s₀.heap.get? b=some o->b≠X.env.locals:=λb o q=>I.notLoc q;refine⟨I.ok,I.os,I.bare,⟨λb o q n g u=>a b o (f b o q) (I.base.keep b o q n g u),λb o q n g u=>?_,I.base.free,λb o q u=>?_,I.base.tups,I.base.frzs,I.base.tbls⟩,⟨_,B,λi y v' J w Y=>?_⟩,λy c q=>?_,I.free,I.freeC,λp hp=>?_,λb ob q=>?_,↑I.len⟩
 .obtain⟨sl,r⟩:=I.base.slot b o q n g u;exact⟨sl,a b _ (f b o q) r⟩
 .obtain⟨o',r⟩:=I.base.there b o q u;exact⟨o',a b _ (f b o q) r⟩
 .by_cases e:i=j
  .subst e;have l:i < σ.length:=by rw[I.len];exact(X2.mp L).1
   rw[SL l]at w;cases w
  .rw[Sl (Vh e)]at w;obtain⟨u',r',z⟩:=x i y v' J w Y;refine⟨u',r',?_⟩;rcases z with ⟨k,q⟩ | ⟨k,c,q,z⟩
   .refine .inl ⟨k,?_⟩;have ny:y≠n:=λq=>e (zc1 hN J (q ▸ L));simp[ny,q]
   .exact .inr ⟨k,c,q,z.sameBut D (I.cne y c q)⟩
 .obtain⟨G,z⟩:=I.cell y c q;exact⟨G,z.sameBut D (I.cne y c q)⟩
 .refine fN (λq n' U nf d=>?_) (I.pin p hp);exact⟨a p.1 _ U q,n',U,nf,d⟩
 .refine(I.hok b ob q).stay (λc G hc r=>a c G ?_ r) (λ_ r=>r) λ_ _ r=>r;rintro rfl;rcases hc with rfl | hc
  .rw[I.free]at q;cases q
  .rw[I.free]at hc;cases hc
def Fly.caught {l j:Hp}{s1 s':X8}{e C:Addr}{y:Y1}{B h:Heap}(I:Inv X bQ σ l s1)(F:Fly X.prog X.w X.stack l s1 e C y B j s')(i:Om B X.stack e (.ref C) y h)(up:s'.heap.UpToSlots h) :
  Inv X bQ σ (upd j e (exO e C)) { s' with heap:=h }:=by
 have H:∀b o,s1.heap.get? b=some o->b≠e:=λb o q z=>by
  rw[z,F.new]at q;cases q
 have f:∀b u,j b=some u->b≠e:=λb u q=>zh q F.free;have d:∀b o,s1.heap.get? b=some o->l b=none->b∈frs X.stack->∃v,h.get? b=some { o with slots:=v }:=λb o q n a=>by
  obtain⟨_,D,g,J⟩:=I.stack.mem a;rw[q]at g;cases g;obtain⟨v,p⟩:=F.un.slot b o q n a (λz=>nomatch z);obtain⟨x,s⟩:=up b _ p J;exact⟨x,s⟩
 refine I.call' (ch:=[]) F.os ⟨λb o q n a _=>i.1 b o (F.kB b o q n a),λb o q n a _=>d b o q n a,λb o q n _=>?_,λb o q _=>?_,λb G q=>?_,λb o u q=>?_,λb L q=>?_⟩ (λb ob q=>?_) F.bare λb z=>nomatch z
 .rw[zg (H b o q)];exact F.un.free b o q n λz=>nomatch z
 .by_cases a:b∈frs X.stack
  .obtain⟨v,r⟩:=d b o q (I.stkFree b a) a;exact⟨_,r⟩
  .obtain⟨A,r⟩:=F.tB b o q a;exact⟨A,i.1 b A r⟩
 .have r:=F.un.tups b G q;rw[zg (f b _ r)];exact r
 .have r:=F.un.frzs b o u q;rw[zg (f b _ r)];exact r
 .obtain⟨m,r⟩:=F.un.tbls b L q;exact⟨m,by rw[zg (f b _ r)];exact r⟩
 .by_cases a:b=e
  .subst a;rw[zb]at q;cases q;refine fm (λE U g p s _=>?_) i.first;exact⟨⟨E,U,g,p,s⟩,⟨E,g⟩,λY g2 ⟨D,Q,M,N,O⟩ k=>⟨D,Q,k _ M,N,O⟩⟩
  .rw[zg a]at q;refine(F.ok b ob q).stay (λc u _ r=>i.1 c u r) (λc r=>?_) λc G r=>?_
   .rw[zg (f c _ r)];exact r
   .rw[zg (f c _ r)];exact r
def zod {M:N5}{A:WL}{E:Y1->X8->Prop}{s:X8}{S e C:Addr}{bm:List Y1}{j:Obj}{Q:Bool->X8->Prop}(O:zpz s.heap S bm)(he:s.heap.get? e=some j)(a:j.cls=.ref C)
  (m:PySem.W.Looks M s.heap (isSubtype (.ref C) (.ref S)) true) (p:Q true s):Xh M A (excMatches (.ref e) (.ref S)) Q E s:=by
 obtain⟨⟨N,G,H,bs,i,I,sub,r,l,u,w,x,y,z,B,D,c,v,o⟩,T⟩:=O;have n:=T.hasType PySem.F.excBase_ValueError.hasBase;obtain⟨h,g,d,t,os⟩:=s;have b:(WF S::bm).contains (.type "BaseException")=true:=by rw[List.contains_cons,n,Bool.or_true]
 have f:=tc_notTuple;unfold excMatches;repeat (first | (with_reducible refine V0 he ?_;rw[a]) | with_reducible refine V0 c ?_ | (with_reducible refine wpAny_isSubtype_exc c ?_;rw[b]) | wp_step)
 refine m A _ E _ (λ_ _ q=>q) ?_;rw[bw rfl];exact XR (XR (XR p))
end
def Fun.okX {P:Xv}{w:W5}{K:X0}{j:Str->Option Y1}{base:Heap}{x b:Str}{st:Stmt}{f:Addr}{i:Xz}{N ps:AE}{k:Nat}{sp:Sp}(F:Fun K x b st f i)(S:zB N ps (zo st))(h:∀vs H Q E,sp vs H Q E->vs.length=ps.length)
  (d:∀(c:Y1) (A:WL) (a:List Env) (s:X8) (H:Hp) (vs:AF) (Q:VK) (E:XK),ZY k (A.deeper (PX b (zo st) s.heap.objs.size f c))->sp vs H Q E ->
   ∃t,PSs (zgN (CXE P w) P w K j base N b (zo st) f c A a s H E) (xQ st) t/\t { nx:=λ_ l=>Q .non l,rt:=Q } (start N vs) H):zT P w K j base (CXE P w) (k+1) f i ps sp:=by
 refine fB (λr u kV doc=>fB λv p c q=>fu λo z0 n e=>?_) F.ex;subst z0;exact zpx n e S h λA a s H vs Q E m g=>d c A a s H vs Q E m g
structure QD (K:X0)(C:Addr):Prop where
 ga:VM K (.ref C) "__getattribute__"=some (some (.builtin "BaseException.__getattribute__"))
 gh:VM K (.ref C) "__getattr__"=some none
 cl:VM K (.ref C) "__class__"=some (some (.builtin "object.__class__"))
 mb:VC K C (.type "BaseException")=some true
 mo:VC K C (.type "object")=some true
 ci:Tl K C=true
section
variable {prog:Xv}{w:W5}{A:WL}{E:Y1->X8->Prop}{K:X0}{e C:Addr}
def zei {R:PY->X8->Prop}{h:Heap}{g:Array UW}{d:N6}{t:Nat}{os:Os}(F:QD K C)(b:K.In h){o:Obj}(f:h.get? e=some o)(c:o.cls=.ref C)(i:R (.ok (.ret (.ref C))) ⟨h,g,d,t,os⟩) :
  Uj (Xn prog w) A (.call (.builtin "getset_descriptor.__get__") ⟨[.builtin "object.__class__",.ref e,.ref C],[]⟩) R ⟨h,g,d,t,os⟩:=by
 have a:(⟨h,g,d,t,os⟩:X8).TypeIs (.builtin "object.__class__") "getset_descriptor":=TR;have lo:=Sc (M:=Xn prog w) b F.mo;rw[<- PySem.F.owner_object_class]at lo;refine TJ PySem.F.slot_gs_get.plain PySem.F.entry_gs_get (PySem.F.slot_gs_get.check _ _ _ _ _ _ _ _ a (PySem.F.args_gs_get _ _ _) ?_);repeat (any_goals (first | assumption | (with_reducible refine V0 f ?_;rw[c]) | wp_step))
 refine lo _ _ _ _ (λ_ _ z=>z) ?_;repeat (any_goals (first | assumption | wp_step))
 refine⟨Code.quiet_builtin _ "q",V8 PySem.F.entry_object_class ?_⟩;repeat (any_goals (first | assumption | (with_reducible refine V0 f ?_;rw[c]) | wp_step))
def zcx {tk:Tok}{Q:Fin->X8->Prop}{h:Heap}{g:Array UW}{d:N6}{t:Nat}{os:Os}(F:QD K C)(a:K.In h){o:Obj}(c:h.get? e=some o)(b:o.cls=.ref C)(n:Q (.done (.ret (.ref C))) ⟨h,g,d,t,os⟩) :
  Xh (Xn prog w) A (UO.«object.__getattribute__» ⟨[.ref e,.str "__class__" tk],[]⟩) Q E ⟨h,g,d,t,os⟩:=by
 have f:(⟨h,g,d,t,os⟩:X8).TypeIs (.builtin "object.__class__") "getset_descriptor":=TR;have j:=TR;have l:=PySem.F.slot_gs_get.lookup;have m:=PySem.F.slot_gs_set.lookup;have i:=Sj (M:=Xn prog w) a F.cl;repeat (any_goals (first | assumption | (with_reducible refine V0 c ?_;rw[b]) | wp_step))
 refine i _ _ _ _ (λ_ _ z=>z) ?_;repeat (any_goals (first | assumption | (with_reducible refine V0 c ?_;rw[b]) | wp_step))
 refine zei F a c b ?_;repeat (any_goals (first | assumption | wp_step))
def zfO {M:N5}{a:Y1}{Q:Unit->X8->Prop}{h:Heap}{g:Array UW}{d:N6}{t:Nat}{os:Os}(F:QD K C)(b:K.In h){o:Obj}(f:h.get? e=some o)(c:o.cls=.ref C)(n:Q () ⟨h,g,d,t,os⟩) :
  Xh M A (QR "BaseException.__getattribute__" ⟨[.ref e,a],[]⟩) Q E ⟨h,g,d,t,os⟩:=by
 have i:builtinKind "BaseException.__getattribute__"=some .slot:="q"
 have l:splitId "BaseException.__getattribute__"=some ("BaseException","__getattribute__"):="q"
 have m:=PySem.F.args_bexc_ga (.ref e) a;have j:=Sc (M:=M) b F.mb;simp only[QR,i,l];refine X9 ?_;unfold isInstance;repeat (first | (with_reducible refine V0 f ?_;rw[c]) | wp_step)
 refine j _ _ _ _ (λ_ _ z=>z) ?_;repeat (any_goals (first | assumption | wp_step))
def zc8 {tk:Tok}{R:PY->X8->Prop}{h:Heap}{g:Array UW}{d:N6}{t:Nat}{os:Os}(F:QD K C)(a:K.In h){o:Obj}(c:h.get? e=some o)(b:o.cls=.ref C)(f:R (.ok (.ret (.ref C))) ⟨h,g,d,t,os⟩) :
  Uj (Xn prog w) A (.call (.builtin "BaseException.__getattribute__") ⟨[.ref e,.str "__class__" tk],[]⟩) R ⟨h,g,d,t,os⟩ :=
 TJ PySem.F.attr_ValueError.ga.plain PySem.F.entry_bexc_ga (zfO F a c b (zcx F a c b f))
def zc9 {Q:Option Y1->X8->Prop}{h:Heap}{g:Array UW}{d:N6}{t:Nat}{os:Os}(F:QD K C)(a:K.In h){o:Obj}(c:h.get? e=some o)(b:o.cls=.ref C)(n:Q (some (.ref C)) ⟨h,g,d,t+1,os⟩) :
  Xh (Xn prog w) A (N1 (.ref e) "__class__") Q E ⟨h,g,d,t,os⟩:=by
 have m:=PySem.F.attr_ValueError.ga.bind (.ref e);have f:(Rw "BaseException.__getattribute__" == Rw "object.__getattribute__")=false:="q"
 have i:(onTheHeap (WF C)&&Rw "BaseException.__getattribute__" == Rw "object.__getattribute__")=false:=by rw[f];rfl
 have j:=Sj (M:=Xn prog w) a F.ga;have l:=Sj (M:=Xn prog w) a F.gh;unfold N1 getAttrBy? getAttrBy;repeat (any_goals (first | assumption | (with_reducible refine V0 c ?_;rw[b]) | wp_step))
 refine j _ _ _ _ (λ_ _ z=>z) ?_;repeat (any_goals (first | assumption | (with_reducible refine V0 c ?_;rw[b]) | wp_step))
 refine l _ _ _ _ (λ_ _ z=>z) ?_;repeat (any_goals (first | assumption | (with_reducible refine V0 c ?_;rw[b]) | wp_step))
 refine zc8 F a c b ?_;repeat (any_goals (first | assumption | wp_step))
def zl2 (F:QD K C):PySem.W.KitX K (.ref e) (.ref C) (zqt e C) where
 ty:=λM h _ p=>by
  obtain⟨ob,vs,q1,q2,_⟩:=p;exact q2 ▸ (PySem.W.Looks.ld q1).andThen .now
 it:=λM h kin _=>by
  have ci:=F.ci;unfold Tl PySem.W.clsIn at ci;split at ci
  .rename_i c1 d1 cd1 sl1 lk;intro A1 Q1 E1 s1 k q;unfold isType loadHead;exact X9 (wpAny_loadPart (k _ _ (kin _ _ lk)) (XR q))
  .cases ci
 ne:=λh tp dd its n sl kin htp=>by
  refine WU.mpr λq=>?_;have ec:C=tp:=Value.ref.inj (beq_iff_eq.mp q);subst ec;have ci:=F.ci;unfold Tl PySem.W.clsIn at ci;split at ci
  .rename_i c1 d1 cd1 sl1 lk;have z:=(kin _ _ lk).symm.trans htp;cases z
  .cases ci
 ca:=λ{prog w A E Q s} kin p k=>by
  obtain⟨ob,vs,q1,q2,_⟩:=p;obtain⟨h,g,d,t,os⟩:=s;exact zc9 F kin q1 q2 k
def zl3:V->Y1
 | .ref D=>.ref D
 | .ty n=>.type n
 | _=>.none
def qJ {X:Cx}(g:X.K=K):jm X (.builtin "isinstance") (λxs H Q=>∃e C c b,xs=[.ref e,c]/\H e=some (exO e C)/\QD K C/\((∃D,c=.ref D)\/∃n,c=.ty n)/\Xa K (.ref C) (zl3 c)=some b/\Q (.bl b) H):=by
 intro o s w H xs v Q I r h;revert h;refine fX λe C c b z0 he F i hk q=>?_;subst z0;obtain⟨u,m,rfl,j,d⟩:=vals2 r;cases j;have p:zqt e C s.heap:=(I.hok e _ he).1;have a:=I.kIn;rw[g]at a;have f:m=zl3 c:=by
  rcases i with ⟨D,rfl⟩ | ⟨n,rfl⟩
  .cases d;rfl
  .cases d;rfl
 subst f;exact V4 (zl2 F) a p hk (λz=>nomatch z) λl=>⟨.bl b,H,I.tok l,rfl,q⟩
end
theorem zgX {α:Type}(a:Array α):∀(n:Nat) (b:Array α),(W6 n a).foldl (·++·) b=b++((W6 n a.toList).flatten).toArray
 | 0,b=>"s"
 | n+1,b=>by
  rw[V2,Wp,zgX a n,V2,WG,RQ];congr 1;simp
def zrX:R2:=λx y H Q=>∃z k,x=.str z/\y=.int k/\1<=k/\k<=1000/\z.length<=1000/\∀a:Str,a.length=z.length*k.toNat->(∀c∈a.cps.toList,c∈z.cps.toList)->Q (.str a) H
section
variable {X:Cx}
def ziv:OpR X (Uv .Mult) zrX:=by
 intro w s G H x y v u Q I p r h;revert h;refine fY λz k z0 z1 B D o q=>?_;subst z0 z1;obtain⟨t,rfl⟩:=p;obtain⟨E,rfl⟩:=r;have f:z.length*k.toNat<=1000000:=by
  have:=TK o (show k.toNat<=1000 by lia);lia
 refine PySem.P.mul_str ?_ (λ_ _=>?_) (λ_ _=>?_) ?_
 .rw[bg (show ¬ k < -(2^63:Int) by lia),bg (show ¬ k >= 2^63 by lia)];rfl
 .have A:(z.length:Int)*k<=1000000:=by
   have e:((z.length*k.toNat:Nat):Int)=(z.length:Int)*k:=by
    rw[T7,Vr "a"]
   lia
  have:=Int.le_ediv_of_mul_le (a:=(z.length:Int)) (b:=2^63-1) (c:=k) "a" "a";lia
 .exact bg (Nat.not_lt.mpr (X7 f "d"))
 .rw[bq (show ¬ k<1 by lia)];by_cases c:(k==1 || z.length==0)=true
  .rw[bw c];refine⟨.str z,H,I,⟨_,rfl⟩,q z ?_ λ_ h=>h⟩;rw[Bool.or_eq_true,beq_iff_eq,beq_iff_eq]at c;rcases c with c | c
   .rw[c];simp
   .rw[c];simp
  .rw[bq c];have e:(⟨(W6 k.toNat z.cps).foldl (·++·) #[]⟩:Str)=⟨((W6 k.toNat z.cps.toList).flatten).toArray⟩:=by
    rw[zgX];simp
   have m:(⟨((W6 k.toNat z.cps.toList).flatten).toArray⟩:Str).length=z.length*k.toNat:=by
    show ((W6 k.toNat z.cps.toList).flatten).toArray.size=_;rw[Xr,len_rep,XV,TD];rfl
   rw[e];refine⟨by rw[m];exact X7 f "d",⟨.str _,H,I.tok _,⟨_,rfl⟩,q _ m λd n=>?_⟩⟩;have i:d∈(W6 k.toNat z.cps.toList).flatten:=by simpa using n
   obtain⟨l,j,g⟩:=WN.mp i;rw[List.eq_of_mem_replicate j]at g;exact g
end
section
variable {X:Cx}{tg iter elt:Expr}{ifs:List Expr}{scope:UH}{pos:Pos}{N:AE}{src:List (Option Nat)}{cl:List (Str×Addr)}{wi:TI}{g:TG}{tc:TT}{te:TE}
def zrY {w:List (Addr×Obj)}{I:St}{D:Ends}{i:Nat}{x:Str}{q:Pos}(hN:X.N.Nodup)(B:X.N[i]?=some x)(n:X.env.scope.names.lookup x=some .local):zoa X N scope w I (some (N2 (.Name x q) X.env)) (λ_ E=>∃ r s,Inv X w r s E/\D.nx r s) λv s=>yv i v I s D.nx:=by
 intro cl fp G H2 C J M f fn xe aa hC l u h qn;refine fq (λm hm _=>?_) h.loc;have g:G.heap.objs.size<C:=by rw[hC];exact Sz _
 have Q:Inv X w I J M:=l.call' (s':=M) (ch:=fp) h.os h.base h.hok h.bare λb j=>⟨(u b j).2.2.2.1,(u b j).2.1,(u b j).2.2.2.2.1,(u b j).2.2.2.2.2⟩;have L:∀b o,G.heap.get? b=some o->b≠C:=λb o e=>Xi (U1 (XE e) g);have a:∀y c,X.env.cells.lookup y=some c->c≠C:=λy c e=>by
  obtain⟨_,o,Y,_⟩:=l.cell y c e;exact L c o Y
 have d:X.env.locals≠C:=Xi (U1 l.lt g);refine wpAny_assign_Name (zeB Q hN B (.inl n) (v:=.ref G.heap.objs.size) rfl (λs5 O ⟨U,H,A⟩=>?_) (.inr n));have na:U≠C:=A.elim (λz=>by rw[z];exact d) (a _ _);exact⟨m,hm.sameBut H (Vh na),λh' sb=>⟨_,J,O.turned (t':=s5.toks) (it:=C) (λb o j e=>(sb.2 b j).trans e) h.free (Vh d) (.inr (X7 l.sz (VA g))) a λp hp=>L _ _ (l.pin p hp).1,qn⟩⟩
def zl4 {g:List (Addr×Obj)}{s:X8}{x:Str}{a c:Pos}{D:Ends}(f:RX (.ListComp elt [⟨tg,iter,ifs,0⟩] scope pos) (some (.Name x a)) c.line X.env=pure true)
  (h:Xh (Xn X.prog X.w) X.A (OF (.ListComp elt [⟨tg,iter,ifs,0⟩] scope pos) scope X.env (firstIterPos [⟨tg,iter,ifs,0⟩] pos) (newList []) false (eval iter X.env) (some (N2 (.Name x a) X.env))) (λ_ d=>∃ b e,Inv X g b e d/\D.nx b e) X.xe s):Xh (Xn X.prog X.w) X.A (exec (.Assign [.Name x a] (.ListComp elt [⟨tg,iter,ifs,0⟩] scope pos) c) X.env) (SP X g D) X.xe s:=by
 rw[exec_Assign_Name_used _ _ _ _ f];refine X9 (Rx (X9 ?_));unfold evalThenUse;exact X9 (VQ h (λ_ d ⟨b,e,i,j⟩=>XR (XR ⟨b,e,i,j⟩)) λ_ _ z=>z)
def zoe {i:Nat}{x:Str}{b a:Pos}(l:X.N.Nodup)(e:X.N[i]?=some x)(f:X.env.scope.names.lookup x=some .local)(ok:j8 X N src scope cl)(c:X.calm=true)(o:PI X tg iter wi)
  (n:∀C fp d s H,PG (jK X N scope cl C fp d s H) tg g) (m:∀C fp d s H,zcw (jK X N scope cl C fp d s H) ifs tc) (he:∀C fp d s H,PE (jK X N scope cl C fp d s H) elt te)
  (p:∀x,VO iter X.env x=pure x:=by intro _;rfl) (j:RX (.ListComp elt [⟨tg,iter,ifs,0⟩] scope pos) (some (.Name x b)) a.line X.env=pure true:=by rfl) :
  PS X (.Assign [.Name x b] (.ListComp elt [⟨tg,iter,ifs,0⟩] scope pos) a) (zlJ (zce wi src g tc te) (yv i)):=λ_ _ _ _ _ I h=>zl4 j (zgT ok c o n m he p I h (zrY l e f))
end
def j8.byRfl {X:Cx}{N:AE}{src:List (Option Nat)}{a:UH}(g:a.kind=.function)(b:∀y∈a.names,y.2 ≠ .cell)(d:∀y∈a.names,y.2=.local->a.names.lookup y.1=some .local)
  (m:(a.names.all λy=>y.2 != .free || (X.env.cells.lookup y.1).isSome)=true) (l:src.length=N.length)
  (o:((N.zip src).all λq=>match q.2 with | none=>true | some j=>X.N[j]?==some q.1&&X.env.kindOf q.1==some .cell&&(UG a X.env).names.lookup q.1==some .cell)=true):j8 X N src a (zaR (λx=>X.env.cells.lookup x) a.names []):=by
 have f:∀y∈a.names,y.2=.free->(X.env.cells.lookup y.1).isSome=true:=λy n e=>by
  have z:=WV.mp m y n;rw[e]at z;simpa using z
 refine⟨g,b,d,Jt f,λx c h=>?_,λx h=>?_,l,λi j x h1 h2=>?_⟩
 .rcases Yh _ _ _ (WD h) with z | z
  .cases z
  .exact z
 .refine Wd.mp (zc7 _ _ (.inr ?_));have hm:(x,U0)∈a.names\/(x,NameKind.free)∈a.names:=by
   rcases h with h | h
   .exact yJ (WD h) (.inl rfl)
   .exact yJ (WD h) (.inr rfl)
  rcases hm with hm | hm
  .exact absurd rfl (b _ hm)
  .exact⟨hm,f _ hm rfl⟩
 .have hm:(x,some j)∈N.zip src:=X4 (i:=i) (by rw[Tx];exact⟨h1,h2⟩);have z:=WV.mp o _ hm;simp only[VR,beq_iff_eq]at z;exact⟨z.1.1,.inl z.1.2,.inl z.2⟩
structure xZ (X:Cx)(N:AE)(src:List (Option Nat))(scope:UH)(cl:List (Str×Addr))(y:Str):Prop where
 kind:scope.kind=.function
 one:∀n acc,SD n scope.names acc=(y,n)::acc
 push:∀h,Oc h scope.names=h.push { cls:=.type "cell",data:=.cell none }
 names:∀y∈scope.names,y.2=.local->scope.names.lookup y.1=some .local
 clos:Ow scope X.env=pure cl
 sub:∀x c,cl.lookup x=some c->X.env.cells.lookup x=some c
 has:∀x,((UG scope X.env).names.lookup x=some .cell\/(UG scope X.env).names.lookup x=some .free)->x=y\/∃c,cl.lookup x=some c
 len:src.length=N.length
 pulls:∀(i j:Nat) (x:Str),N[i]?=some x->src[i]?=some (some j)->X.N[j]?=some x/\(X.env.kindOf x=some .cell\/X.env.kindOf x=some .free)/\((UG scope X.env).names.lookup x=some .cell\/(UG scope X.env).names.lookup x=some .free)
 pny:∀(i j:Nat) (x:Str),N[i]?=some x->src[i]?=some (some j)->x≠y
def xZ.has1 {X:Cx}{N:AE}{src:List (Option Nat)}{a:UH}{b:List (Str×Addr)}{y:Str}{C:Addr}(ok:xZ X N src a b y)(x:Str)(h:(UG a X.env).names.lookup x=some .cell\/(UG a X.env).names.lookup x=some .free):∃c,Sq x ((y,C)::b)=some c:=by
 rw[Vi];cases q:x==y with
 | true=>exact⟨_,rfl⟩
 | false =>
  rcases ok.has x h with z | z
  .rw[z]at q;simp at q
  .exact z
def xZ.byRfl {X:Cx}{N:AE}{src:List (Option Nat)}{a:UH}{y:Str}(g:a.kind=.function)(one:∀n d,SD n a.names d=(y,n)::d)(l:∀h,Oc h a.names=h.push { cls:=.type "cell",data:=.cell none })
  (only:∀z∈a.names,z.2=.cell->z.1=y) (b:∀y∈a.names,y.2=.local->a.names.lookup y.1=some .local)
  (p:(a.names.all λy=>y.2 != .free || (X.env.cells.lookup y.1).isSome)=true) (o:src.length=N.length)
  (s:((N.zip src).all λq=>match q.2 with | none=>true | some j=>X.N[j]?==some q.1&&X.env.kindOf q.1==some .cell&&(UG a X.env).names.lookup q.1==some .cell&&q.1 != y)=true):xZ X N src a (zaR (λx=>X.env.cells.lookup x) a.names []) y:=by
 have f:∀y∈a.names,y.2=.free->(X.env.cells.lookup y.1).isSome=true:=λy r e=>by
  have z:=WV.mp p y r;rw[e]at z;simpa using z
 have m:∀(i j:Nat) (x:Str),N[i]?=some x->src[i]?=some (some j)->(X.N[j]?=some x/\X.env.kindOf x=some .cell/\(UG a X.env).names.lookup x=some .cell)/\x≠y:=λi j x h1 h2=>by
  have hm:(x,some j)∈N.zip src:=X4 (i:=i) (by rw[Tx];exact⟨h1,h2⟩);have z:=WV.mp s _ hm;simp only[VR,beq_iff_eq,bne_iff_ne]at z;exact⟨⟨z.1.1.1,z.1.1.2,z.1.2⟩,z.2⟩
 refine⟨g,one,l,b,Jt f,λx c h=>?_,λx h=>?_,o,λi j x h1 h2=>⟨(m i j x h1 h2).1.1,.inl (m i j x h1 h2).1.2.1,.inl (m i j x h1 h2).1.2.2⟩,λi j x h1 h2=>(m i j x h1 h2).2⟩
 .rcases Yh _ _ _ (WD h) with z | z
  .cases z
  .exact z
 .have hm:(x,U0)∈a.names\/(x,NameKind.free)∈a.names:=by
   rcases h with h | h
   .exact yJ (WD h) (.inl rfl)
   .exact yJ (WD h) (.inr rfl)
  rcases hm with hm | hm
  .exact .inl (only _ hm rfl)
  .exact .inr (Wd.mp (zc7 _ _ (.inr ⟨hm,f _ hm rfl⟩)))
def yX (X:Cx)(N:AE)(a:UH)(c:List (Str×Addr))(y:Str)(C:Addr)(fp:List Addr)(b:List (Addr×Obj))(s:X8)(H:Hp):Cx :=
 { jK X N a ((y,C+1)::c) C fp b s H with fn:=λx=>decide (x=y) }
def zof {M:N5}{A:WL}{E:Y1->X8->Prop}{s:X8}{a:UH}{b:Addr}{i:List (Str×Addr)}{c:Str}{e:Env}{y:Str}{Q:Env->X8->Prop}(one:∀n d,SD n a.names d=(y,n)::d)(g:∀h,Oc h a.names=h.push { cls:=.type "cell",data:=.cell none })
  (l:Q (newEnv a s.heap.objs.size b ((y,s.heap.objs.size+1)::i) c none .none (some e) Oy) { s with heap:=(s.heap.push { cls:=.type "dict",data:=.dict #[] }).push { cls:=.type "cell",data:=.cell none } }) :
  Xh M A (newFunctionEnv a b i [] c none .none (some e)) Q E s:=by
 simp only[newFunctionEnv,Option.isSome_some,if_true];refine X9 (wpAny_alloc ?_);refine X9 (wpAny_layCells _ (λj f cells=>by cases hkc:f==U0<;>simp[hkc]) _ _ _ _ ?_);rw[g,one,show ({ s with heap:=s.heap.push { cls:=.type "dict",data:=.dict #[] } }:X8).heap.objs.size=s.heap.objs.size+1 from UT ..];exact X9 (XR (XR l))
section
variable {X:Cx}{tg iter elt:Expr}{ifs:List Expr}{scope:UH}{pos:Pos}{N:AE}{src:List (Option Nat)}{cl:List (Str×Addr)}{wi:TI}{g:TG}{tc:TT}{te:TE}{y:Str}
def zgY {B:List (Addr×Obj)}{L:St}{H:Hp}{s:X8}{fp:List Addr}{h1:Heap}{C:Addr}{tk:Nat}(ok:xZ X N src scope cl y)(I:Inv X B L H s)(O:∀b∈fp,zbe X B H b)(ho:∀b∈fp,∃o,s.heap.get? b=some o)
  (D:C=s.heap.objs.size+1) (k:∀b u,s.heap.get? b=some u->h1.get? b=some u) (hD:h1.get? s.heap.objs.size=some { cls:=.type "list",data:=.seq #[] }) {m:Str->Option Y1} (hn:h1.Ns C m) (aa:h1.IsCell (C+1) none) :
  Inv (yX X N scope cl y C fp B s H) [] (pull src L) (upd H s.heap.objs.size (.lst [])) { s with heap:=h1,toks:=tk }:=by
 have lt:∀b o,s.heap.get? b=some o->b<s.heap.objs.size:=λb o e=>XE e;have nC:∀b o,s.heap.get? b=some o->b≠C:=λb o e=>by rw[D];exact Xi (Wm (lt b o e))
 have nD:∀b o,s.heap.get? b=some o->b≠s.heap.objs.size:=λb o e=>Xi (lt b o e);have Y:∀b,s.heap.objs.size<=b->H b=none:=λb h=>I.hok.fresh h;have J:∀b,b≠X.env.locals->b ∉ X.fs->b ∉ frs X.stack:=λb h1 h2 z=>(XF.mp (I.stkSub b z)).elim h1 h2;have G:∀b o,s.heap.get? b=some o->b≠C+1:=λb o e=>by rw[D];exact Xi (Wm (Wm (lt b o e)))
 have own:∀x c,Sq x ((y,C+1)::cl)=some c->(x=y/\c=C+1)\/(x≠y/\X.env.cells.lookup x=some c):=λx c e=>by
  rw[Vi]at e;cases q:x==y with
  | true =>
   rw[q]at e;exact .inl ⟨↑q,(Option.some.inj e).symm⟩
  | false =>
   rw[q]at e;exact .inr ⟨↑q,ok.sub x c e⟩
 have n:∀x c,X.env.cells.lookup x=some c->c≠C+1:=λx c e=>by
  obtain⟨_,o,f,_⟩:=I.cell x c e;exact G c o f
 refine⟨⟨I.ok.mod,ok.kind,I.ok.glob,I.ok.blt,by rw[show (yX X N scope cl y C fp B s H).env.locals=C from rfl,D];exact VW _,?inj,ok.has1,?cab,I.ok.hd,I.ok.frames,.inl rfl,λb h=>?_,I.bs,X7 I.ok.bsz I.sz,λb o e h=>?_,λb h hz=>?_,I.stack,I.stkFree⟩,rfl,I.bare,Un.laid k (XW _) (Y _ (XW _)),⟨m,hn,λi x v f d e3=>?_⟩,λx c e=>?_,?_,λx c e=>?_,λp hp=>?_,I.hok.laid k (XW _) ⟨W2 _,[],0,.nil,hD⟩,?_⟩
 case inj =>
  intro x Q c f d
  rcases own x c f with ⟨w,a⟩ | ⟨w,a⟩
  .rcases own Q c d with ⟨M,A⟩ | ⟨M,A⟩
   .rw[w,M]
   .exact absurd a (n Q c A)
  .rcases own Q c d with ⟨M,A⟩ | ⟨M,A⟩
   .exact absurd A (n x c a)
   .exact I.ok.inj x Q c a A
 case cab =>
  intro x c z e
  have zy:x=y:=bh z
  rcases own x c e with ⟨_,a⟩ | ⟨w,_⟩
  .rw[a,D];exact Vx (VW _)
  .exact absurd zy w
 .obtain⟨o,e⟩:=ho b h;refine⟨nC b o e,λx c z=>?_⟩;rcases own x c z with ⟨_,a⟩ | ⟨_,a⟩
  .rw[a];exact Vh (G b o e)
  .exact(O b h).2.2.2.2.1 x c a
 .rcases(O b h).2.2.2.1 with z | z
  .exact I.ok.noex b o e z
  .exact absurd (XD (XE (I.ok.bs b o e).1) z) (V3 _)
 .exact J b (O b h).2.1 (O b h).2.2.1 hz
 .have hi:i<src.length:=by
   have:=(X2.mp d).1;unfold pull at this;rw[ZB]at this;exact this
  unfold pull at d;rw[Xl,XX hi]at d;cases q:src[i] with
  | none=>rw[q]at d;cases d
  | some j =>
   rw[q]at d;have g:(L[j]?).getD none=some v:=Option.some.inj d;have U:L[j]?=some (some v):=by
    cases z:L[j]? with
    | none=>rw[z]at g;cases g
    | some o=>rw[z]at g;exact congrArg some g
   obtain⟨p1,p2,p3⟩:=ok.pulls i j x f (by rw[XX hi,q]);obtain⟨m',af,hl⟩:=I.loc;obtain⟨u,r,l⟩:=hl j x v p1 U (by
    rcases p2 with z | z
    .exact .inr (.inl z)
    .exact .inr (.inr z))
   refine⟨u,r,.inr ⟨p3,?_⟩⟩;obtain⟨c,hc⟩:=ok.has1 x p3;refine⟨c,hc,?_⟩;rcases l with ⟨z,_⟩ | ⟨_,c',E,o,ac,ab⟩
   .rcases p2 with y | y<;>rw[z]at y<;>cases y
   .rcases own x c hc with ⟨w,_⟩ | ⟨_,a⟩
    .exact absurd w (ok.pny i j x f (by rw[XX hi,q]))
    .rw[a]at E;cases E;exact⟨o,k _ o ac,ab⟩
 .rcases own x c e with ⟨_,a⟩ | ⟨_,a⟩
  .rw[a];exact⟨_,aa⟩
  .obtain⟨v,o,f,d⟩:=I.cell x c a;exact⟨v,o,k c o f,d⟩
 .show upd H s.heap.objs.size (.lst []) C=none;rw[D,zg (UY _)];exact Y _ (VW _)
 .show upd H s.heap.objs.size (.lst []) c=none;rcases own x c e with ⟨_,a⟩ | ⟨_,a⟩
  .rw[a,D,zg (Vg (Wm (Sz _)))];exact Y _ (Vx (VW _))
  .obtain⟨v,o,f,d⟩:=I.cell x c a;rw[zg (nD c o f)];exact I.freeC x c a
 .have ae:p∈X.pn++B:=by
   have:p∈(X.pn++B)++[]:=hp;simpa using this
  refine fN (λf d e3 U e5=>?_) (I.pin p ae);refine⟨k _ _ f,?_,nC _ _ f,J _ e3 U,e5⟩;show upd H s.heap.objs.size (.lst []) p.1=none;rw[zg (nD _ _ f)];exact d
 .unfold pull;rw[ZB];exact ok.len
section
variable {bQ:List (Addr×Obj)}{σ:St}{H:Hp}{s:X8}{use:Option (Y1->Sem Unit)}{R:Y1->X8->Prop}{Q:VK}{p2:Pos}
def zkO (ok:xZ X N src scope cl y)(a:X.calm=true)(v:PI X tg iter wi)
  (r:∀C fp bQ s H,PG (yX X N scope cl y C fp bQ s H) tg g) (p:∀C fp bQ s H,zcw (yX X N scope cl y C fp bQ s H) ifs tc) (he:∀C fp bQ s H,PE (yX X N scope cl y C fp bQ s H) elt te)
  (D:∀x,VO iter X.env x=pure x) (I:Inv X bQ σ H s) (h:zce wi src g tc te σ H Q) (i:zoa X N scope bQ σ use R Q):Xh (Xn X.prog X.w) X.A (OF (.ListComp elt [⟨tg,iter,ifs,0⟩] scope pos) scope X.env p2 (newList []) false (eval iter X.env) use) R X.xe s:=by
 refine Rq (use:=use) rfl D ok.clos ok.kind ok.names (thn (v bQ s σ H _ I h) λY s1 h1=>thn h1 λE l h2=>?_);revert h2;refine fS λO fp U J M e d T m f G=>?_;subst e;refine Vy (zof ok.one ok.push ?_);generalize hP:l.heap.push { cls:=.type "list",dict:=none,data:=.seq ([]:List Y1).toArray }=P2;have j:P2.objs.size=l.heap.objs.size+1:=by rw[<- hP,UT]
 have n:(P2.push { cls:=.type "dict",data:=.dict #[] }).objs.size=P2.objs.size+1:=UT ..;refine zgS j a (λz=>z.elim) (r _ _ _ _ _) (p _ _ _ _ _) (he _ _ _ _ _) d T m f (G _ (d.hok.fresh (XW _))) (λb u e=>?_) (λx c z=>?_) (λB=>zgY (tk:=l.toks) ok d f B j (λb u e=>?_) ?_ ((Heap.Ns.new P2 _).push _) ?_) λ_ _ _ _ o L=>i j d f o L
 .exact X6 _ (X6 _ (hP ▸ X6 _ e))
 .show _\/P2.objs.size<=c;have z:Sq x ((y,P2.objs.size+1)::cl)=some c:=z;rw[Vi]at z;cases q:x==y with
  | true =>
   rw[q]at z;rw[<- Option.some.inj z];exact .inr (VW _)
  | false =>
   rw[q]at z;exact .inl (ok.sub x c z)
 .exact X6 _ (X6 _ (hP ▸ X6 _ e))
 .exact X6 _ (X6 _ (hP ▸ Xf _ rfl))
 .rw[<- n];exact⟨_,Xf _ rfl,rfl⟩
end
def zl5 (ok:xZ X N src scope cl y)(a:X.calm=true)(e:PI X tg iter wi)
  (d:∀C fp b s H,PG (yX X N scope cl y C fp b s H) tg g) (c:∀C fp b s H,zcw (yX X N scope cl y C fp b s H) ifs tc) (he:∀C fp b s H,PE (yX X N scope cl y C fp b s H) elt te)
  (f:∀x,VO iter X.env x=pure x:=by intro _;rfl):PE X (.ListComp elt [⟨tg,iter,ifs,0⟩] scope pos) (zce wi src g tc te):=λ_ _ _ _ _ I h=>zkO ok a e d c he f I h zpy
end
section
variable {X:Cx}{K:X0}
def zeL (a:X.K=K)(b:X.calm=true):jm X (.builtin "any") (λxs H Q=>∃(l:Addr) (bs:List Bool),xs=[.ref l]/\SqL K H l (bs.map V.bl)/\Q (.bl (bs.any id)) H):=by
 subst a;exact zgW b
def zgZ {c l:Expr}{tl:TE}(a:X.K=K)(b:PE X l tl):PI X c l (zpt K tl):=by
 subst a;exact zN b
end
section
variable {X:Cx}
def zl6:MtM X "list.count" (λx vs H Q=>∃(l:Addr) (ts:AE) (y:Str),x=.ref l/\vs=[.str y]/\H l=some (.lst (ts.map V.str))/\Q (.int ((ts.countP λt=>t==y:Nat):Int)) H):=by
 intro J s N H x vs v M Q I G E h;revert h;refine fD λl ts y z0 z1 g q=>?_;subst z0 z1;cases G;obtain⟨u,rfl,t,rfl⟩:=E.one;refine fQ (λz c n r p e=>?_) (I.lstM g);have A:∃f:Y1->Bool,(∀w∈c,∃a k,w=.str a k/\f w=(a==y))/\c.countP f=ts.countP λt=>t==y:=by
  refine⟨λw=>match w with | .str a _=>a==y | _=>false,?_⟩;clear p e z g q;generalize d:ts.map V.str=ws at r;induction r generalizing ts with
  | nil =>
   cases ts with
   | nil=>exact⟨(λ_ h=>nomatch h),rfl⟩
   | cons a b=>cases d
  | cons D L B =>
   cases ts with
   | nil=>cases d
   | cons a b =>
    rw[Xe]at d;obtain⟨i,j⟩:=List.cons.inj d;subst i;obtain⟨k,rfl⟩:=D;obtain⟨h1,h2⟩:=B b j;refine⟨λw hw=>?_,?_⟩
    .rcases XF.mp hw with rfl | hw
     .exact⟨a,k,rfl,rfl⟩
     .exact h1 w hw
    .rw[WQ,WQ,h2]
 obtain⟨f,o,m⟩:=A;refine Tg F.slot_list_count ⟨_,e,rfl⟩ F.entry_list_count (ON _ _) (Rp l c.toArray n none #[] (.str y t) f) ⟨e,λw hw=>?_,?_⟩
 .obtain⟨a,k,rfl,h2⟩:=o w ↑hw;rw[h2];exact PySem.SeqAt.EqAt.str_str a k y t
 .refine⟨.int _,H,I.tok _,⟨_,rfl⟩,?_⟩;show Q (.int ((c.countP f:Nat):Int)) H;rw[m];exact q
theorem zeM:∀{ts:AE} {a:List Y1},Vals (ts.map V.str) a->StrsAre a ts
 | [],_,.nil=>.nil
 | t::_,_,.cons ⟨k,e⟩ h=>by
  subst e;exact .cons t k (zeM h)
def rJoin (K:X0):V->AF->Hp->VK->Prop:=λx b H Q=>∃(z:Str) (l:Addr) (a:AE),x=.str z/\b=[.ref l]/\SqL K H l (a.map V.str)/\(a.map (·.length)).sum+a.length*z.length<=16777216/\Q (.str (Oo z a)) H
def zog:MtR X "str.join" (rJoin X.K):=by
 intro j s y H x w v o Q I g f h;revert h;refine fC λz l a z0 z1 d b q=>?_;subst z0 z1;obtain⟨n,rfl⟩:=g;obtain⟨u,rfl,r⟩:=f.one;cases r;obtain⟨e,c,p,m⟩:=I.list d;refine join_list (ys:=a) p.isList (by simpa using zeM c) b λi k=>⟨.str (Oo z a),H,I.tok k,⟨i,?_⟩,q⟩;rw[show Txt.join z a=Oo z a from StrLaws.glued_eq_join z a]
end
def ziw {α:Type}(d:α)(xs:List α):((Xk xs.length).map λi=>xs.getD i d)=xs:=by
 refine List.ext_getElem "s" λi h1 h2=>?_;simp[h2]
def zjM (p:Int×Int):lt2 p p=false:=by
 unfold lt2;rw[bw rfl,bg "a"]
def zcO {p q:Int×Int}(h:p≠q):lt2 q p=!lt2 p q:=by
 unfold lt2;obtain⟨a,b⟩:=p;obtain⟨c,d⟩:=q;simp only;by_cases e:a=c
 .subst e;rw[bw rfl,bw rfl];have f:b≠d:=λz=>h (by rw[z]);by_cases l:b<d
  .rw[br l,bg "a"];rfl
  .rw[bg l,br "a"];rfl
 .rw[bq e,bq (λz=>e z.symm)];by_cases l:a<c
  .rw[br l,bg "a"];rfl
  .rw[bg l,br "a"];rfl
def zix {p q r:Int×Int}(h1:lt2 p q=true)(h2:lt2 q r=true):lt2 p r=true:=by
 unfold lt2 at *
 obtain⟨a,b⟩:=p;obtain⟨c,d⟩:=q;obtain⟨e,f⟩:=r;simp only at *
 by_cases h:a=c
 .subst h;rw[bw rfl,bu]at h1;by_cases g:a=e
  .subst g;rw[bw rfl,bu]at h2 ⊢;lia
  .rw[bq g]at h2 ⊢;exact h2
 .rw[bq h,bu]at h1;by_cases g:c=e
  .subst g;rw[bq h,bu];exact h1
  .rw[bq g,bu]at h2;rw[bq "a",bu];lia
def Up2 (ps:List (Int×Int)):Prop:=ps.Pairwise λp q=>lt2 p q=true
end L2
namespace PySem.SeqAt
open L2 AutoSeq1 MeetsSeq MeetsSeq2 MeetsSeq3
def zaS (A:WL)(s:X8)(y x:Y1)(b:Bool):Prop:=∀(a:Xv) (w:W5) (E:Y1->X8->Prop) (Q:Y1->X8->Prop),Q (.bool b) s->Xh (Xn a w) A (richCompare .Lt y x) Q E s
def zaS.int_int {A:WL}{s:X8}(a:Int)(t:Tok)(b:Int)(u:Tok):zaS A s (.int a t) (.int b u) (decide (a<b)):=λc w E Q h=>wpAny_lt_int h
def ziy (l b:Addr)(x y f c:Int)(t u m o:Tok)(n z:Nat)(dd g:Option Addr)(D j:Array (Option Y1)) :
  Meets (UO.«tuple.__lt__» ⟨[.ref l,.ref b],[]⟩)
   (λ_ R s=>s.heap.get? l=some { cls:=.type "tuple",dict:=dd,data:=.seq #[.int x t,.int y u] n,slots:=D }/\s.heap.get? b=some { cls:=.type "tuple",dict:=g,data:=.seq #[.int f m,.int c o] z,slots:=j } /\
    R (.ok (.ret (.bool (lt2 (x,y) (f,c))))) s) :=
 .of_wp λa w A R s h=>by
  obtain⟨v,I,G,E,B⟩:=s;obtain⟨r,q,h⟩:=h;have H:=sub_tuple_tuple;wp_walk using V9 r,V9 q;refine EqAt.int_int x t f m a w _ _ ?_;unfold lt2 at h;by_cases e:x=f
  .have i:(x==f)=true:=by simpa using e
   rw[i];rw[bw e]at h;wp_walk;refine EqAt.int_int y u c o a w _ _ ?_;by_cases p:y=c
   .have d:(y==c)=true:=by simpa using p
    rw[d];rw[bg (by show ¬ y<c;lia)]at h;wp_walk;exact⟨_,rfl,h⟩
   .have d:(y==c)=false:=by simpa using p
    rw[d];simp only[Bool.not_false,if_true];refine X9 (UC (X9 (zaS.int_int y u c o a w _ _ ?_)));wp_walk;exact⟨_,rfl,h⟩
  .have i:(x==f)=false:=by simpa using e
   rw[i];rw[bq e]at h;simp only[Bool.not_false,if_true];refine X9 (UC (X9 (zaS.int_int x t f m a w _ _ ?_)));wp_walk;exact⟨_,rfl,h⟩
def zaS.pairs {A:WL}{s:X8}{v r:Y1}{p q:Int×Int}(G:zC s.heap v p)(f:zC s.heap r q)(D:A.units<VD):zaS A s v r (lt2 p q):=λo w E Q h=>by
 obtain⟨a,⟨z,B,l,I⟩,n,t,u,rfl,m,c1,j⟩:=G;obtain⟨y,⟨i,e,data2,g⟩,H,J,L,rfl,d,b,c⟩:=f;simp only at c1 j b c;subst c1 j b c;exact richCompare_meets_room (op:=.Lt) ⟨_,m,rfl⟩ ⟨_,d,rfl⟩ F.slot_tuple_lt F.entry_tuple_lt (F.args_tuple_lt_2 _ _) (ziy a y p.1 p.2 q.1 q.2 t u J L n H B e I g)
  ⟨m,d,show Ti (lt2 p q)≠Value.notImplemented/\Q (.bool (lt2 p q)) s from ⟨(λx=>nomatch x),h⟩⟩ D
def zaB {h:Heap}{v:Y1}{p:Int×Int}(d:zC h v p):∃as,Reads h v (.tuple [.int p.1,.int p.2]) as:=by
 obtain⟨a,o,n,t,u,rfl,c,c1,b⟩:=d;exact⟨_,.tuple c c1 b (.cons (.int _ _) (.cons (.int _ _) .nil))⟩
def zeN (p q:Int×Int):Xg (.tuple [.int p.1,.int p.2]) (.tuple [.int q.1,.int q.2])=decide (p=q):=by
 obtain⟨a,b⟩:=p;obtain⟨c,d⟩:=q;show ((a==c)&&((b==d)&&true))=_;by_cases h1:a=c
 .by_cases h2:b=d
  .subst h1 h2;simp
  .simp[h2]
 .simp[h1]
end PySem.SeqAt
namespace L2
open PySem PySem.Spec PyProof.Rows PySem.W PySem.SeqAt
open PySem PySem.Spec PyProof.Rows
section
variable {κ:Type} [DecidableEq κ]
def j4 (a:List (κ × V))(k:κ):Option V:=(a.find? λb=>decide (b.1=k)).map (·.2)
def putK (a:List (κ × V))(k:κ)(v:V):List (κ × V) :=
 if (a.any λb=>decide (b.1=k))=true then a.map (λb=>if b.1=k then (b.1,v) else b) else a++[(k,v)]
def jR {p:κ × V}{r:List (κ × V)}{k:κ}(e:p.1=k):j4 (p::r) k=some p.2:=by simp[j4,T6,e]
def jS {p:κ × V}{r:List (κ × V)}{k:κ}(e:¬ p.1=k):j4 (p::r) k=j4 r k:=by simp[j4,T6,e]
theorem QE (k:κ):∀a:List (κ × V),(a.any λb=>decide (b.1=k))=(j4 a k).isSome
 | []=>rfl
 | p::r=>by
  rw[Sw];by_cases e:p.1=k
  .simp only[jR e,br e,Bool.true_or,Option.isSome_some]
  .rw[jS e,bg e,Bool.false_or];exact QE k r
theorem zg0 (k j:κ)(y:V):∀a:List (κ × V),j4 (a.map λb=>if b.1=k then (b.1,y) else b) j=(j4 a j).map λx=>if j=k then y else x
 | []=>rfl
 | p::r=>by
  have c:=zg0 k j y r;rw[Xe];by_cases h:p.1=k
  .rw[bw h];by_cases e:p.1=j
   .rw[jR (p:=(p.1,y)) e,jR e,T5,bw (e.symm.trans h)]
   .rw[jS (p:=(p.1,y)) e,jS e,c]
  .rw[bq h];by_cases e:p.1=j
   .rw[jR (p:=p) e,jR e,T5,bq (λz=>h (e.trans z))]
   .rw[jS (p:=p) e,jS e,c]
theorem zeO (k j:κ)(y:V):∀a:List (κ × V),j4 a k=none->j4 (a++[(k,y)]) j=if j=k then some y else j4 a j
 | [],_=>by
  by_cases e:k=j
  .rw[bw e.symm];exact jR (p:=(k,y)) e
  .rw[bq (λz=>e z.symm)];exact jS (p:=(k,y)) e
 | p::r,b=>by
  rw[QQ];have hk:¬ p.1=k:=λz=>by rw[jR z]at b;cases b
  rw[jS hk]at b;have c:=zeO k j y r b;by_cases e:p.1=j
  .rw[jR e,jR e,bq (λz=>hk (e.trans z))]
  .rw[jS e,jS e,c]
def QF (b:List (κ × V))(k j:κ)(y:V):j4 (putK b k y) j=if j=k then some y else j4 b j:=by
 unfold putK;by_cases a:(b.any λd=>decide (d.1=k))=true
 .rw[bw a,zg0];rw[QE]at a;by_cases e:j=k
  .obtain⟨x,c⟩:=Wd.mp a;rw[bw e,e,c,T5,bw rfl]
  .rw[bq e];cases j4 b j with
   | none=>rfl
   | some x=>rw[T5,bq e]
 .rw[bq a];refine zeO k j y b ?_;rw[QE]at a;cases q:j4 b k with
  | none=>rfl
  | some x=>rw[q]at a;exact(a rfl).elim
def QG (a:List (κ × V))(k:κ)(v:V):(putK a k v).length<=a.length+1:=by
 unfold putK;split
 .rw[ZB];lia
 .rw[X5,XA,UJ];lia
def zc0.isSome_eq {o:Option V}{u:Option Y1}(r:zc0 o u):o.isSome=u.isSome:=by
 cases o with
 | none=>cases u with
  | none=>rfl
  | some _=>exact(show False from r).elim
 | some _=>cases u with
  | none=>exact(show False from r).elim
  | some _=>rfl
def KV.val {a:List (κ × V)}{vs:List (κ × Y1)}(r:KV a vs)(k:κ):zc0 (j4 a k) (OP vs k):=by
 unfold KV at r;induction r with
 | nil=>exact UU
 | @cons p q g d h t f =>
  obtain⟨h1,h2⟩:=h;by_cases e:p.1=k
  .have c:q.1=k:=h1.symm.trans e;have b:OP (q::d) k=some q.2:=by simp[OP,T6,c]
   rw[jR e,b];exact h2
  .have c:¬ q.1=k:=λz=>e (h1.trans z);have b:OP (q::d) k=OP d k:=by simp[OP,T6,c]
   rw[jS e,b];exact f
theorem KV.any {a:List (κ × V)}{vs:List (κ × Y1)}(r:KV a vs)(k:κ):(a.any λb=>decide (b.1=k))=vs.any λb=>decide (b.1=k):=by
 unfold KV at r;induction r with
 | nil=>rfl
 | cons h t c=>rw[Sw,Sw,c,h.1]
def KV.repl {b:List (κ × V)}{vs:List (κ × Y1)}(r:KV b vs)(k:κ){y:V}{u:Y1}(d:RelV y u) :
  KV (b.map λa=>if a.1=k then (a.1,y) else a) (vs.map λa=>if a.1=k then (a.1,u) else a):=by
 unfold KV at r ⊢;induction r with
 | nil=>exact .nil
 | @cons p q f g h t c =>
  rw[Xe,Xe];refine .cons ?_ c;obtain⟨h1,h2⟩:=h;by_cases e:p.1=k
  .rw[bw e,bw (h1.symm.trans e)];exact⟨h1,d⟩
  .rw[bq e,bq (λz=>e (h1.trans z))];exact⟨h1,h2⟩
def KV.put {a:List (κ × V)}{vs:List (κ × Y1)}(r:KV a vs)(k:κ){y:V}{u:Y1}(b:RelV y u):KV (putK a k y) (PV vs k u):=by
 unfold putK PV;rw[r.any k];by_cases e:(vs.any λc=>decide (c.1=k))=true
 .rw[bw e,bw e];exact r.repl k b
 .rw[bq e,bq e];exact Paired.snoc r ⟨rfl,b⟩
theorem KV.length {a:List (κ × V)}{vs:List (κ × Y1)}(r:KV a vs):a.length=vs.length:=Paired.length r
end
def zeP {P:Xv}{w:W5}{k:Key}{u:Y1}(r:RelV (kV k) u):(zK P w).is k u=true:=by
 cases k with
 | inl i=>obtain⟨t,e⟩:=(show ∃t,u=Vs i t from r);subst e;exact zgI P w i t
 | inr x=>obtain⟨t,e⟩:=(show ∃t,u=Oe x t from r);subst e;exact zgJ P w x t
theorem zeQ {P:Xv}{w:W5}:∀{ks:List Key} {a:List Y1},Vals (ks.map kV) a->ItemsAre (zK P w) ks a
 | [],_,r=>by rw[R5]at r;cases r;exact .nil
 | k::ks,_,r=>by
  rw[Xe]at r;cases r with
  | cons h t=>exact .cons (zeP h) (zeQ t)
abbrev KT (H:Hp):List (List Key×V)->List (List Key×Addr×Y1)->Prop:=WW λp q=>p.1=q.1/\H q.2.1=some (.tup (p.1.map kV))/\RelV p.2 q.2.2
def KT.val {H:Hp}{a:List (List Key×V)}{xs:List (List Key×Addr×Y1)}(r:KT H a xs)(k:List Key):zc0 (j4 a k) ((Oa xs k).map (·.2)):=by
 induction r with
 | nil=>exact UU
 | @cons p q g d h t f =>
  obtain⟨h1,_,h2⟩:=h;by_cases e:p.1=k
  .have c:q.1=k:=h1.symm.trans e;have b:Oa (q::d) k=some q.2:=by simp[Oa,T6,c]
   rw[jR e,b];exact h2
  .have c:¬ q.1=k:=λz=>e (h1.trans z);have b:Oa (q::d) k=Oa d k:=by simp[Oa,T6,c]
   rw[jS e,b];exact f
def KT.repl {H:Hp}{a:List (List Key×V)}{xs:List (List Key×Addr×Y1)}(r:KT H a xs)(k:List Key){y:V}{u:Y1}(f:RelV y u) :
  KT H (a.map λb=>if b.1=k then (b.1,y) else b) (xs.map (putAt k u)):=by
 induction r with
 | nil=>exact .nil
 | @cons p q g i h t d =>
  rw[Xe,Xe];refine .cons ?_ d;obtain⟨h1,h2,c⟩:=h;unfold putAt;by_cases e:p.1=k
  .rw[bw e,bw (h1.symm.trans e)];exact⟨h1,h2,f⟩
  .rw[bq e,bq (λz=>e (h1.trans z))];exact⟨h1,h2,c⟩
def KT.put {H:Hp}{a:List (List Key×V)}{xs:List (List Key×Addr×Y1)}(r:KT H a xs)(k:List Key){b:Addr}{y:V}{u:Y1}(d:H b=some (.tup (k.map kV)))(c:RelV y u) :
  KT H (putK a k y) (Sx xs k b u):=by
 have e:(a.any λf=>decide (f.1=k))=(Oa xs k).isSome:=by
  rw[QE,(r.val k).isSome_eq,Option.isSome_map]
 unfold putK Sx;rw[e];by_cases q:(Oa xs k).isSome=true
 .rw[bw q,bw q];exact r.repl k c
 .rw[bq q,bq q];exact Paired.snoc r ⟨rfl,d,c⟩
def KT.keeps {H c:Hp}{a:List (List Key×V)}{xs:List (List Key×Addr×Y1)}(r:KT H a xs)(d:∀b ys,H b=some (.tup ys)->c b=some (.tup ys)):KT c a xs :=
 Paired.mapP r λ_ _ z=>⟨z.1,d _ _ z.2.1,z.2.2⟩
section
variable {P:Xv}{w:W5}{H:Hp}{h:Heap}{a:Addr}
def zpB {u:HO}(ok:HOk P w H h)(e:Rd H a u):qv P w H h a u:=e.ok ok
def zjN {b:List (Key×V)}(ok:HOk P w H h)(e:Rd H a (.dK b)):b.length<=Xy/\(a==Ui)=false/\∃vs,KV b vs/\h.DictOf (zK P w) a vs :=
 show qv P w H h a (.dK b) from zpB ok e
def zl7 {b:List (Key×V)}(ok:HOk P w H h)(e:H a=some (.dK b)):b.length<=Xy/\(a==Ui)=false/\∃vs,KV b vs/\h.DictOf (zK P w) a vs:=zjN ok (.inl e)
def zda {ks:List Key}(ok:HOk P w H h)(e:H a=some (.tup (ks.map kV))):(VT (zK P w)).is h ks a:=by
 refine f7 (λ_=>fq λb r=>fu λo h1 h2=>gn λn c=>?_) (show qv P w H h a (.tup (ks.map kV)) from ok a _ e);exact⟨o,b.toArray,n,h1,h2,c,by simpa using zeQ r⟩
def zjO {b:List (List Key×V)}(ok:HOk P w H h)(e:Rd H a (.dT b)):b.length<=Xy/\(a==Ui)=false /\
  ∃xs,KT H b xs/\h.DictOfH (VT (zK P w)) a xs:=by
 refine fH (λz y xs r=>fC λo f d h1 h2 g i j=>?_) (show qv P w H h a (.dT b) from zpB ok e);refine eO z y xs r (dP o f d h1 h2 g i (λx hx=>?_) j);have all:∀{l:List (List Key×V)} {m:List (List Key×Addr×Y1)},KT H l m->∀x∈m,(VT (zK P w)).is h x.1 x.2.1:=by
  intro l m q;induction q with
  | nil=>intro x hx;exact nomatch hx
  | @cons p q s u c t n =>
   intro x hx;rcases XF.mp hx with e | hx
   .subst e;exact zda ok (by rw[<- c.1];exact c.2.1)
   .exact n x hx
 exact all r x hx
def zrZ {b:List (List Key×V)}(ok:HOk P w H h)(e:H a=some (.dT b)):b.length<=Xy/\(a==Ui)=false /\
  ∃xs,KT H b xs/\h.DictOfH (VT (zK P w)) a xs:=zjO ok (.inl e)
end
def zax (H:Hp)(a:Addr)(y:V)(r:Option V):Prop :=
 (∃c k,Rd H a (.dK c)/\y=kV k/\r=j4 c k)\/∃c k b,Rd H a (.dT c)/\y=.ref b/\H b=some (.tup (k.map kV))/\r=j4 c k
def zg1 (H:Hp)(a:Addr)(y v:V)(d:Hp):Prop :=
 (∃c k,H a=some (.dK c)/\y=kV k/\c.length<Xy/\d=upd H a (.dK (putK c k v))) \/
 ∃c k b,H a=some (.dT c)/\y=.ref b/\H b=some (.tup (k.map kV))/\c.length<Xy/\d=upd H a (.dT (putK c k v))
theorem zax.k {H:Hp}{a:Addr}{b:List (Key×V)}{k:Key}(e:H a=some (.dK b)):zax H a (kV k) (j4 b k):=.inl ⟨b,k,.inl e,rfl,rfl⟩
def zax.t {H:Hp}{a b:Addr}{c:List (List Key×V)}{k:List Key}(e:H a=some (.dT c))(d:H b=some (.tup (k.map kV))):zax H a (.ref b) (j4 c k):=.inr ⟨c,k,b,.inl e,rfl,d,rfl⟩
theorem zg1.k {H:Hp}{a:Addr}{b:List (Key×V)}{k:Key}{v:V}(e:H a=some (.dK b))(c:b.length<Xy):zg1 H a (kV k) v (upd H a (.dK (putK b k v))):=.inl ⟨b,k,e,rfl,c,rfl⟩
def zg1.t {H:Hp}{a b:Addr}{c:List (List Key×V)}{k:List Key}{v:V}(e:H a=some (.dT c))(d:H b=some (.tup (k.map kV)))(f:c.length<Xy) :
  zg1 H a (.ref b) v (upd H a (.dT (putK c k v))):=.inr (dI c k b e rfl d f rfl)
section
variable {X:Cx}{bQ:List (Addr×Obj)}{σ:St}{H:Hp}{s:X8}{a:Addr}{y v:V}{u r:Y1}{o:Option V}{A:WL}{E:Y1->X8->Prop}
def Inv.big (I:Inv X bQ σ H s):Ui<s.heap.objs.size:=by
 have h:XO<s.heap.objs.size:=(I.mod.glob.keeps I.bk).lt;exact U1 "d" h
def zkP {Q:Y1->X8->Prop}(G:A.units+1<VD)(I:Inv X bQ σ H s)(g:zax H a y (some v))(r:RelV y u)(h:∀f s',Inv X bQ σ H s'->RelV v f->Q f s') :
  Xh (Xn X.prog X.w) A (OT (.ref a) u) Q E s:=by
 rcases g with ⟨q,k,e,j,l⟩ | ⟨q,k,b,e,j,x,l⟩
 .subst j;refine fH (λz B J c i=>?_) (zjN I.hok e);obtain⟨f,n,d⟩:=zc0.some_of (v:=v) (o:=OP J k) (by rw[l];exact c.val k);exact wpAny_getItem_of (zeP r) i.mapOf n (h f _ (I.tok _) d)
 .subst j;cases (show u=WF b from r);refine fH (λz B L c i=>?_) (zjO I.hok e);obtain⟨f,n,d⟩:=zc0.some_of (v:=v) (o:=(Oa L k).map (·.2)) (by rw[l];exact c.val k);obtain⟨p,D,m⟩:=Option.map_eq_some_iff.mp n;refine wpAny_getItem_heap (RP G) (zda I.hok x) i D ?_;rw[m];exact h f _ (I.tok _) d
def zoh {Q:Y1->X8->Prop}(p:A.units+1<VD)(I:Inv X bQ σ H s)(g:zax H a y o)(m:RelV y u)(h:∀s',Inv X bQ σ H s'->Q (.bool (!o.isSome)) s') :
  Xh (Xn X.prog X.w) A (Wf .NotIn u (.ref a)) Q E s:=by
 rcases g with ⟨j,k,e,f,l⟩ | ⟨j,k,b,e,f,n,l⟩
 .subst f;refine fH (λz i r c d=>?_) (zjN I.hok e);refine wpAny_notIn_of (zeP m) i d.mapOf ?_;rw[<- (c.val k).isSome_eq,<- l];exact h _ (I.tok _)
 .subst f;cases (show u=WF b from m);refine fH (λz i v c d=>?_) (zjO I.hok e);refine wpAny_notIn_heap (RP p) (zda I.hok n) i d ?_;have q:=(c.val k).isSome_eq;rw[Option.isSome_map]at q;rw[<- q,<- l];exact h _ (I.tok _)
def zfP {h':Heap}{t':Nat}{ob:HO}(I:Inv X bQ σ H s)(g:Mut (H a))(f:VL a s.heap h')(he:∃q,h'.get? a=some q)(c:qv X.prog X.w (upd H a ob) h' a ob) :
  Inv X bQ σ (upd H a ob) { s with heap:=h',toks:=t' } :=
 I.write (x:=a) (e:=a) g (.inl rfl) (λb q d z=>(f.2 b d).trans z) he c
def zl8 {P:Xv}{w:W5}{d:Hp}{h':Heap}{b:List (Key×V)}{vs:List (Key×Y1)}(z:b.length<=Xy)(e:(a==Ui)=false)(c:KV b vs)(dd:h'.DictOf (zK P w) a vs) :
  qv P w d h' a (.dK b):=⟨z,e,vs,c,dd⟩
def zkQ {G:Hp}{Q:Unit->X8->Prop}(hu:A.units+1<VD)(I:Inv X bQ σ H s)(g:zg1 H a y v G)(O:RelV y u)(N:RelV v r)(h:∀s',Inv X bQ σ G s'->Q () s') :
  Xh (Xn X.prog X.w) A (setItem (.ref a) u r) Q E s:=by
 rcases g with ⟨d,k,e,o,l,n⟩ | ⟨d,k,b,e,o,J,l,n⟩
 .subst o n;refine fH (λz p vs f m=>?_) (zl7 I.hok e);have D:vs.length<=Xy:=by rw[<- f.length];exact z
  have x:(putK d k v).length<=Xy:=by have:=QG d k v;lia
  refine wpAny_setItem_pairs (hsz:=D) (zeP O) m λM i B=>h _ ?_;have he:∃q,M.get? a=some q:=let ⟨q,_,_,j,_⟩:=i;⟨q,j⟩
  exact zfP I (by rw[e];exact UU) B he (zl8 x p (f.put k N) i)
 .subst o n;cases (show u=WF b from O);refine fH (λz p xs f m=>?_) (zrZ I.hok e);have D:xs.length<=Xy:=by rw[<- Paired.length f];exact z
  have x:(putK d k v).length<=Xy:=by have:=QG d k v;lia
  refine wpAny_setItem_heap (hsz:=D) (RP hu) (zda I.hok J) m λM i B=>h _ ?_;revert i;refine fE λq Y U j h2 h3 h4 _ h5=>?_;refine zfP I (by rw[e];exact UU) B ⟨q,j⟩ (eO x p _ ((f.put k J N).keeps λc ys L=>?_) (dI q Y U j h2 h3 h4 h5));rw[zg (zeA L e (λz=>nomatch z))];exact L
end
def zr0 (i:Expr):Prop:=∀b a,Pe i false b a=operate [b,a] (OT b a)
def zoi {prog:Xv}{w:W5}{A:WL}{E:Y1->X8->Prop}{s:X8}{g:Env}{b a:Expr}{pos:Pos}{T id:String}{Q:Y1->X8->Prop}
  (p:Ox (.type T) "__getitem__"=pure (some (.builtin id))) (q:zr0 a)
  (h:Xh (Xn prog w) A (eval b g) (λo e=>Xh (Xn prog w) A (eval a g) (λi c=>c.TypeIs o T/\Xh (Xn prog w) A (OT o i) Q E c) E e) E s) :
  Xh (Xn prog w) A (eval (.Subscript b a pos) g) Q E s:=by
 refine Subscript_ (VQ h (λo e l=>VQ l (λi c d=>?_) λ_ _ x=>x) λ_ _ x=>x);obtain⟨n,d⟩:=d;unfold OH;refine X9 ?_;rw[getitemInPython_of_ne n.not_modules];refine X9 (Pu n p ?_);have j:Xh (Xn prog w) A (Pe a false o i) (λr f=>Xh (Xn prog w) A (letTemporaryGo b o r >>= λ_=>pure r) Q E f) E c:=by
  rw[q o i];exact wpAny_operating (VQ d (λr f m=>X9 (wpAny_letTemporaryGo (XR m))) λ_ _ x=>x)
 first
  | exact XR (X9 j)
  | exact X9 (XR (X9 j))
  | exact X9 j
def zg2 {X:Cx}{f:List (Addr×Obj)}{h:St}{H:Hp}{s:X8}{a:Addr}{y:V}{o:Option V}(I:Inv X f h H s)(g:zax H a y o):s.TypeIs (.ref a) "dict":=by
 rcases g with ⟨d,k,e,_,_⟩ | ⟨d,k,b,e,_,_,_⟩
 .obtain⟨_,_,i,_,c⟩:=zjN I.hok e;exact c.typeIs
 .obtain⟨_,_,j,_,c⟩:=zjO I.hok e;exact c.typeIs
def zr1 (e ty:TE):TE:=fun c H Q=>e c H λx d=>ty c d λy b=>∃a v,x=.ref a/\zax b a y (some v)/\Q v b
def zoj (ty e:TE):TE:=fun c H Q=>ty c H λy d=>e c d λx b=>∃a o,x=.ref a/\zax b a y o/\Q (.bl (!o.isSome)) b
def zr2 (g ty h:TE):TS:=λD b H=>h b H λv d=>g b d λx e=>ty b e λy f=>∃a c,x=.ref a/\zg1 f a y v c/\D.nx b c
section
variable {X:Cx}{o i e value:Expr}{pos pos' tpos:Pos}{td ty tv:TE}
def zad (r:X.A.units+1<VD)(p:PE X o td)(n:PE X i ty)(q:zr0 i):PE X (.Subscript o i pos) (zr1 td ty):=by
 intro d s e H Q I h;refine zoi PySem.F.slot_dict_getitem.lookup q (thn (p d s e H _ I h) λu s1 ⟨x,f,l,B,w⟩=>thn (n d s1 e f _ l w) λE G ⟨y,j,c,D,a,v,m,g,z⟩=>?_);subst m;obtain rfl:u=WF a:=B;exact⟨zg2 c g,zkP r c g D λL J I3 b=>⟨v,j,I3,b,z⟩⟩
def zkR (p:X.A.units+1<VD)(m:PE X i ty)(n:PE X o td):PC X .NotIn i o (zoj ty td):=by
 intro b s c H Q I h;refine thn (m b s c H _ I h) λB s1 ⟨y,d,f,z,r⟩=>thn (n b s1 c d _ f r) λu D ⟨x,e,j,w,a,q,l,g,v⟩=>?_;subst l;obtain rfl:u=WF a:=w;exact zoh p j g z λE I3=>⟨.bl (!q.isSome),e,I3,rfl,v⟩
def zjP (z:X.A.units+1<VD)(q:PE X o td)(p:PE X i ty)(B:PE X value tv)(w:RX value (some (.Subscript o i pos')) pos.line X.env=pure false) :
  PS X (.Assign [.Subscript o i pos'] value pos) (zr2 td ty tv):=by
 intro c s b H D I h;refine wpAny_Assign_Subscript (thn (B c s b H _ I h) λr s1 ⟨v,d,j,L,E⟩=>thn (q c s1 b d _ j E) λu O ⟨x,e,l,M,G⟩=>thn (p c O b e _ l G) λU Y ⟨y,Q,I3,N,a,f,n,g,J⟩=>?_) w;subst n;obtain rfl:u=WF a:=M;exact zkQ z I3 g N L λs4 m=>⟨b,f,m,J⟩
end
def zg3 {P:Xv}{w:W5}{H:Hp}(h:Heap)(a:Ui<h.objs.size):qv P w H (h.push { cls:=.type "dict",data:=.dict #[] }) h.objs.size (.dK []) :=
 ⟨W2 _,beq_eq_false_iff_ne.mpr (Vh (Xi a)),[],.nil,Heap.DictOf.new h⟩
def zqu:TE:=λ_ H Q=>∀p,H p=none->Q (.ref p) (upd H p (.dK []))
section
variable {X:Cx}{pos:Pos}
def zl9:PE X (.Dict [] [] pos) zqu:=λb s c H Q I h =>
 wpAny_Dict_empty ⟨.ref s.heap.objs.size,_,I.laid (a:=s.heap.objs.size) (o:=.dK []) (t':=s.toks) (λ_ _ q=>X6 _ q) (XW _) (zg3 s.heap I.big),rfl,h _ (I.hok.fresh (XW _))⟩
end
def ziz:List (TE×TE)->St->Hp->(List (V×V)->Hp->Prop)->Prop
 | [],_,H,Q=>Q [] H
 | (tk,e)::r,a,H,Q=>tk a H λx b=>e a b λy c=>ziz r a c λps d=>Q ((x,y)::ps) d
abbrev VV:List (V×V)->List (Y1×Y1)->Prop:=WW λp q=>RelV p.1 q.1/\RelV p.2 q.2
def PPs (X:Cx)(pos:Pos)(b:List (Option Expr))(a:List Expr)(c:List (TE×TE)):Prop :=
 ∀(f:List (Addr×Obj)) (s:X8) (d:St) (H:Hp) (Q:List (V×V)->Hp->Prop),Inv X f d H s->ziz c d H Q ->
  Xh (Xn X.prog X.w) X.A (evalPairs (pairTrees b a X.env pos)) (λi h=>∃g e,Inv X f d e h/\VV g i/\Q g e) X.xe s
def zok {X:Cx}{pos:Pos}:PPs X pos [] [] []:=λa s b H Q I h=>pairTrees_nil_walk ⟨[],H,I,.nil,h⟩
def zma {X:Cx}{pos:Pos}{k v:Expr}{ks:List (Option Expr)}{vs:List Expr}{tk e:TE}{a:List (TE×TE)}(hk:PE X k tk)(n:PE X v e)(m:PPs X pos ks vs a) :
  PPs X pos (some k::ks) (v::vs) ((tk,e)::a):=λb s d H Q I h =>
 pairTrees_cons_walk (thn (hk b s d H _ I h) λu s1 ⟨x,f,j,w,p⟩=>thn (n b s1 d f _ j p) λD A ⟨y,g,l,z,q⟩ =>
  thn (m b A d g _ l q) λE B ⟨o,i,I3,c,r⟩=>⟨(x,y)::o,i,I3,.cons ⟨w,z⟩ c,r⟩)
def Z0 (b more:List (Key×V)):List (Key×V):=more.foldl (λa c=>putK a c.1 c.2) b
def KV.merge:∀{more:List (Key×V)} {rs:List (Key×Y1)} {a:List (Key×V)} {vs:List (Key×Y1)},KV more rs->KV a vs->KV (Z0 a more) (merged vs rs):=by
 intro more rs a vs r;unfold KV at r;induction r generalizing a vs with
 | nil=>intro q;exact q
 | @cons p q d f h t b =>
  intro c;have e:KV (putK a p.1 p.2) (PV vs q.1 q.2):=by
   have:=c.put p.1 h.2;rw[<- h.1];exact this
  exact b e
theorem zaC:∀(more a:List (Key×V)),(Z0 a more).length<=a.length+more.length
 | [],a=>by show a.length<=a.length+0;lia
 | p::r,a=>by
  have h1:=zaC r (putK a p.1 p.2);have h2:=QG a p.1 p.2;show (Z0 (putK a p.1 p.2) r).length<=_;rw[XA];lia
theorem zdb {P:Xv}{w:W5}:∀{d:List (Key×V)} {f:List (Y1×Y1)},VV (d.map λe=>(kV e.1,e.2)) f->∃rs,Carries (zK P w) f rs/\KV d rs
 | [],_,r=>by rw[R5]at r;cases r;exact⟨[],UU,.nil⟩
 | p::d,_,r=>by
  rw[Xe]at r;cases r with
  | @cons a b as bs h t =>
   obtain⟨rs,c,q⟩:=zdb (P:=P) (w:=w) t;obtain⟨i,g⟩:=b;exact⟨(p.1,g)::rs,⟨zeP h.1,rfl,c⟩,.cons ⟨rfl,h.2⟩ q⟩
def zr3 (b:List (TE×TE)):TE:=fun f H Q=>∀p,H p=none->ziz b f (upd H p (.dK [])) λe c=>c p=some (.dK [])/\∃a:List (Key×V),e=a.map (λd=>(kV d.1,d.2))/\a.length<=15/\Q (.ref p) (upd c p (.dK (Z0 [] a)))
def zol {X:Cx}{pos:Pos}{b:List (Option Expr)}{d:List Expr}{j:List (TE×TE)}(h:PPs X pos b d j)(g:b.all (·.isSome)=true)(y:b.length=d.length)(h0:b ≠ [])
  (l:b.length<=15):PE X (.Dict b d pos) (zr3 j):=by
 intro r s N H Q I q;have A:=I.hok.fresh (XW s.heap.objs.size);have p:=I.laid (a:=s.heap.objs.size) (o:=.dK []) (h':=s.heap.push { cls:=.type "dict",data:=.dict #[] }) (t':=s.toks) (λ_ _ q=>X6 _ q) (XW _) (zg3 s.heap I.big);refine wpAny_Dict_walk (knd:=zK X.prog X.w) g y h0 l (thn (h r _ N _ _ p (q _ A)) λws s2 ⟨Y,O,n,m,e,i,v,U,E⟩=>?_);subst v;obtain⟨L,c,J⟩:=zdb (P:=X.prog) (w:=X.w) m;refine fH (λz x M G u=>?_) (zl7 n.hok e);cases G;refine⟨L,c,u,λh' f B=>⟨.ref s.heap.objs.size,_,?_,rfl,E⟩⟩;have D:(Z0 [] i).length<=Xy:=by
  have h1:=zaC i [];rw[UJ]at h1;rw[Um];lia
 have he:∃q,h'.get? s.heap.objs.size=some q:=let ⟨q,_,_,hq,_⟩:=f;⟨q,hq⟩
 exact zfP n (by rw[e];exact UU) B he (zl8 D x (J.merge .nil) f)
def zkS:Ox (.type "list") "keys"=pure none:=by rw[Se,TX];kernel_rfl
def zkT:Ox (.type "list") "__getattr__"=pure none:=by rw[Se,TX];kernel_rfl
def zdc:isSubtype (.type "AttributeError") (.type "AttributeError")=pure true:=by rw[Pa];kernel_rfl
def zmb (a:List Y1):ownMembersOf (.type "AttributeError") a=#[unsetMember,unsetMember]:=rfl
def ziA:((Manifest.find? "AttributeError").elim false λt=>t.mro.contains "StopIteration" || t.mro.contains "SystemExit")=false:="q"
section
variable {prog:Xv}{w:W5}{A:WL}{E:Y1->X8->Prop}{h:Heap}{g:Array UW}{d:N6}{t:Nat}{os:Os}{a:Addr}{its:Array Y1}{n:Nat}
def zmc {tk:Tok}{Q:Fin->X8->Prop}(o:h.get? a=some { cls:=.type "list",dict:=none,data:=.seq its n,slots:=#[] })(l:A.handled=none)
  (he:∀c j e,(∀b f,h.get? b=some f->c.get? b=some f)->(⟨c,g,d,j,os⟩:X8).TypeIs (.ref e) "AttributeError"->E (.ref e) ⟨c,g,d,j,os⟩) :
  Xh (Xn prog w) A (UO.«object.__getattribute__» ⟨[.ref a,.str "keys" tk],[]⟩) Q E ⟨h,g,d,t,os⟩:=by
 have r:(⟨h,g,d,t,os⟩:X8).TypeIs (.ref a) "list":=⟨_,o,rfl⟩;have p:=zkS;have q:=zdc;repeat (any_goals (first | assumption | wp_step))
 unfold raiseAttrError;refine X9 (wpAny_mkStr (X9 ?_) "q");unfold newExc newTuple;refine X9 (Vy ?_);refine X9 (m:=RU _ _) (N8 (a:=UD) (by simp only[RU,ziA];rfl) ?_);rw[zmb];refine Vy ?_;refine X9 (wpAny_mkText ?_);refine X9 ?_;unfold noteAttr lacksNameAndObj;repeat (any_goals (first | assumption | wp_step))
 unfold raiseNew;refine X9 (wpAny_handled ?_);rw[l];refine X9 (XR (wpAny_throw ?_));dsimp only;refine he _ _ _ (λb f i=>?_) ?_
 .rw[(UA ..).2 b (Xi ?_)]
  .exact X6 _ (X6 _ i)
  .rw[UT];exact Wm (XE i)
 .refine⟨_,VN _ (Xf _ rfl) rfl,rfl⟩
def zom {tk:Tok}{R:PY->X8->Prop}(f:h.get? a=some { cls:=.type "list",dict:=none,data:=.seq its n,slots:=#[] })(l:A.handled=none)
  (he:∀c j e,(∀b i,h.get? b=some i->c.get? b=some i)->(⟨c,g,d,j,os⟩:X8).TypeIs (.ref e) "AttributeError"->R (.error (.ref e)) ⟨c,g,d,j,os⟩) :
  Uj (Xn prog w) A (.call (.builtin "list.__getattribute__") ⟨[.ref a,.str "keys" tk],[]⟩) R ⟨h,g,d,t,os⟩ :=
 TJ PySem.F.slot_list_getattribute.plain PySem.F.entry_list_ga (PySem.F.slot_list_getattribute.check _ _ _ _ _ _ _ _ (show (⟨h,g,d,t,os⟩:X8).TypeIs (.ref a) "list" from ⟨_,f,rfl⟩) (PySem.F.args_list_getattribute_2 _ _) (zmc f (by simp[l]) he))
def zr4 {tk:Tok}{Q:Y1->X8->Prop}(i:h.get? a=some { cls:=.type "list",dict:=none,data:=.seq its n,slots:=#[] })(m:A.handled=none)
  (he:∀c f e,(∀b j,h.get? b=some j->c.get? b=some j)->(⟨c,g,d,f,os⟩:X8).TypeIs (.ref e) "AttributeError"->E (.ref e) ⟨c,g,d,f,os⟩) :
  Xh (Xn prog w) A (getAttrBy (.ref a) (.str "keys" tk) false) Q E ⟨h,g,d,t,os⟩:=by
 have u:(⟨h,g,d,t,os⟩:X8).TypeIs (.ref a) "list":=⟨_,i,rfl⟩;have p:=PySem.F.slot_list_getattribute.lookup;have q:=PySem.F.slot_list_getattribute.bind (.ref a);have r:=zkT;have s:=zdc;repeat (any_goals (first | assumption | wp_step))
 refine zom i (by simp[m]) λc f e o l=>?_;repeat (any_goals (first | assumption | wp_step))
 exact he _ _ _ o l
def zjQ {Q:Option Y1->X8->Prop}(m:h.get? a=some { cls:=.type "list",dict:=none,data:=.seq its n,slots:=#[] })(j:A.handled=none)
  (l:∀c i,(∀b f,h.get? b=some f->c.get? b=some f)->Q none ⟨c,g,d,i,os⟩) :
  Xh (Xn prog w) A (N1 (.ref a) "keys") Q E ⟨h,g,d,t,os⟩:=by
 have p:=zdc;unfold N1 getAttrBy?;refine X9 (wpAny_mkText (X9 (Rv ?_)));refine zr4 (t:=t+1) m j λc i e o q=>?_;repeat (any_goals (first | assumption | wp_step))
 exact l _ _ o
def JM:NZ table "dict.update.loop"=some UO.«dict.update.loop»:=entryFor_of_tree (by kernel_rfl)
def jq:plainId "dict.update.loop"=true:="q"
end
section
variable {prog:Xv}{w:W5}{A:WL}{R:PY->X8->Prop}{I:Addr}{fp wr:List Addr}{G:Array UW->Array UW->Prop}{n:Nat}{P:Nat->Y1->Prop}{St:Nat->X8->Prop}
abbrev KQ:=List Key×Addr×Y1
def putAll (ks:List KQ):List KQ:=ks.foldl (λa q=>Sx a q.1 q.2.1 q.2.2) []
def putAll_snoc (ks:List KQ)(q:KQ):putAll (ks++[q])=Sx (putAll ks) q.1 q.2.1 q.2.2:=by
 unfold putAll;rw[Vw];rfl
def zg4 (xs:List KQ)(k:List Key)(a:Addr)(v:Y1):(Sx xs k a v).length<=xs.length+1:=by
 unfold Sx;split
 .rw[ZB];lia
 .rw[X5];exact XW _
def zdd (ks:List KQ):(putAll ks).length<=ks.length:=by
 suffices h:∀(ks a:List KQ),(ks.foldl (λa q=>Sx a q.1 q.2.1 q.2.2) a).length<=a.length+ks.length by
  have:=h ks [];simpa[putAll] using this
 intro ks;induction ks with
 | nil=>intro a;exact XW _
 | cons q r b =>
  intro a;have h1:=b (Sx a q.1 q.2.1 q.2.2);have h2:=zg4 a q.1 q.2.1 q.2.2;rw[Wp,XA];lia
def zbk {A:WL}{E:Y1->X8->Prop}{s:X8}{a:Addr}{x y:Y1}{Q:List Y1->X8->Prop}(h:Ph s.heap a #[x,y])(q:Q [x,y] s):Xh (Xn prog w) A (PF (.ref a)) Q E s:=by
 obtain⟨o,h1,h2,n,b⟩:=h;have c:s.TypeIs (.ref a) "tuple":=⟨o,h1,h2⟩;unfold PF;repeat (any_goals (first | assumption | wp_step))
 rw[b];exact XR (XR q)
theorem zcg (T:List Key->Addr->Prop):∀(d a:List KQ),(∀x∈a,T x.1 x.2.1)->(∀x∈d,T x.1 x.2.1)->∀x∈d.foldl (λa q=>Sx a q.1 q.2.1 q.2.2) a,T x.1 x.2.1
 | [],_,b,_=>b
 | q::r,a,b,c=>by
  rw[Wp];refine zcg T r _ (λx hx=>?_) λx hx=>c x (XQ _ hx);unfold Sx at hx;split at hx
  .obtain⟨y,f,rfl⟩:=XY.mp hx;have:=b y f;unfold putAt;split
   .exact this
   .exact this
  .rcases XU.mp hx with hx | hx
   .exact b x hx
   .have e:x=(q.1,q.2.1,q.2.2):=by simpa using hx
    subst e;exact c q XT
def ziB {h0:Heap}(W:WalksS prog w A.in1 I fp wr G n P St)(D:Addr)(J:D ∉ fp)(aa:h0.get? D=none)(ah:∀b∈wr,h0.get? b=none)(ks:List KQ)(N:ks.length=n)(u:n<=Xy)(hu:A.units+1<VD)
  (M:∀q∈ks,(VT (zK prog w)).is h0 q.1 q.2.1) (hP:∀i v,P i v->∃H q,v=.ref H/\ks[i]?=some q/\Ph h0 H #[.ref q.2.1,q.2.2]) :
  ∀(k i:Nat) (s:X8),n-i=k->i<=n->St i s->(∀b o,h0.get? b=some o->s.heap.get? b=some o)->s.heap.DictOfH (VT (zK prog w)) D (putAll (ks.take i)) ->
   (∀s',N9 (D::wr) G s s'->s'.heap.DictOfH (VT (zK prog w)) D (putAll ks)->R (.ok (.ret .none)) s') ->
   Uj (Xn prog w) A (.builtin "dict.update.loop" ⟨[.ref D,.ref I,Uw (i:Int),.none],[]⟩) R s:=by
 have ab:D ∉ wr:=λh=>J (W.sub _ h);have more:∀b∈wr,b∈D::wr:=λb u=>XQ _ u;have r:∀{h:Heap} {H:Addr} {y:Array Y1},(∀b o,h0.get? b=some o->h.get? b=some o)->Ph h0 H y->Ph h H y:=λl ⟨o,h1,h2,m,h3⟩=>⟨o,l _ _ h1,h2,m,h3⟩;have f:∀{h:Heap} {ka:Addr} {q:List Key},(∀b o,h0.get? b=some o->h.get? b=some o)->(VT (zK prog w)).is h0 q ka->(VT (zK prog w)).is h q ka:=λl ⟨o,y,m,h1,h2⟩=>⟨o,y,m,l _ _ h1,h2⟩;have c:∀{s s':X8} {y:List KQ},N9 wr G s s'->(∀b o,h0.get? b=some o->s'.heap.get? b=some o)->(∀x∈y,(VT (zK prog w)).is h0 x.1 x.2.1)->s.heap.DictOfH (VT (zK prog w)) D y->s'.heap.DictOfH (VT (zK prog w)) D y :=
  λg l hk ⟨o,es,ep,e1,e2,e3,e4,_,e6⟩=>(dP o es ep (g.heap D _ ab e1) e2 e3 e4 (λx Y=>f l (hk x Y)) e6)
 have d:∀{s s':X8},N9 wr G s s'->(∀b o,h0.get? b=some o->s.heap.get? b=some o)->∀b o,h0.get? b=some o->s'.heap.get? b=some o:=λg l b o e =>
  g.heap b o (λu=>by
   rw[ah b u]at e;cases e) (l b o e)
 have j:∀i,∀x∈putAll (ks.take i),(VT (zK prog w)).is h0 x.1 x.2.1:=λi=>zcg (λa b=>(VT (zK prog w)).is h0 a b) _ [] (λx Y=>nomatch Y) λx Y=>M x (Wv Y);intro k;induction k with
 | zero =>
  intro i s hk hi E l hS hR;have ag:i=n:="a"
  subst ag;refine V8 JM ?_;rw[Wn jq _];show Xh _ A.in1 (SF (.ref I) >>= _) _ _ s;refine X9 (W.done s _ _ E λs' g=>?_);show Xh _ A.in1 (Ro D [] >>= λ_=>ret UD) _ _ s';refine X9 (XR (XR (hR s' (g.mono more) ?_)));have:=c g (d g l) (j _) hS;rw[<- N,XH]at this;exact this
 | succ k ih =>
  intro i s hk hi E l hS hR;have O:i<n:="a"
  refine V8 JM ?_;rw[Wn jq _];show Xh _ A.in1 (SF (.ref I) >>= _) _ _ s;refine X9 (W.item i s _ _ O E λv s' ac U g=>?_);refine fy (λH q z0 hq ht=>?_) (hP i v ac);subst z0;have p:=d g l;have ae:=c g p (j _) hS;have l1:=zdd (ks.take i);have l2:(ks.take i).length<=n:=by
   rw[XC];lia
  have tk:ks.take (i+1)=ks.take i++[q]:=by
   rw[XB,hq];rfl
  refine X9 (We (X9 (wpAny_tryCatch (zbk (r p ht) ?_))));refine We (wpAny_dictSet_heap (show A.in1.units<VD from hu) (f p (M q (X4 hq))) ae (λh' af B=>?_) "a");have ai:∀b o,h0.get? b=some o->h'.get? b=some o:=λb o e=>by
   rw[B.2 b (λz=>by
    rw[z,aa]at e;cases e)]
   exact p b o e
  have d2:h'.DictOfH (VT (zK prog w)) D (putAll (ks.take (i+1))):=by
   rw[tk,putAll_snoc];exact af
  refine XR ⟨Vf jq _,?_⟩;show Uj _ A (.builtin "dict.update.loop" ⟨[.ref D,.ref I,Uw ((i:Int)+1),.none],[]⟩) R _;rw[show ((i:Int)+1)=((i+1:Nat):Int) by lia];refine ih (i+1) _ "a" O (W.frame _ s' _ _ U (VH _ _) λb u o e=>?_) ai d2 λaj Q L=>?_
  .rw[B.2 b (λz=>J (by rw[<- z];exact u))];exact e
  .refine hR aj (Moved.trans W.gtrans ((g.mono more).then_heap (VH _ _) λb o u e=>?_) Q) L;rw[B.2 b (λz=>u (by rw[z];exact XT))];exact e
end
def zr5 (H:Hp)(v:V)(c:List Key×V):Prop:=∃a b,v=V.ref a/\H a=some (.tup [.ref b,c.2])/\H b=some (.tup (c.1.map kV))
def yb (H:Hp):AF->List (List Key×V)->Prop:=WW (zr5 H)
def yb.mono {H d:Hp}(s:zq H d){vs:AF}{c:List (List Key×V)}(f:yb H vs c):yb d vs c:=by
 induction f with
 | nil=>exact .nil
 | cons q _ g =>
  obtain⟨a,b,e,h1,h2⟩:=q;exact .cons ⟨a,b,e,s _ _ h1,s _ _ h2⟩ g
def Qs (b:List (List Key×V)):List (List Key×V):=b.foldl (λa c=>putK a c.1 c.2) []
def KT.Yk {H:Hp}{b:List (List Key×V)}{ks:List KQ}{a:List (List Key×V)}{xs:List KQ}(e:KT H b ks)(r:KT H a xs):KT H (b.foldl (λa c=>putK a c.1 c.2) a) (ks.foldl (λa q=>Sx a q.1 q.2.1 q.2.2) xs):=by
 induction e generalizing a xs with
 | nil=>exact r
 | cons q _ f =>
  obtain⟨h1,h2,d⟩:=q;rw[Wp,Wp];refine f ?_;rw[<- h1];exact r.put _ h2 d
def zon {P:Xv}{w:W5}{H:Hp}{h:Heap}(ok:HOk P w H h){a:List (List Key×V)}{ks:List KQ}(b:KT H a ks):∀x∈ks,(VT (zK P w)).is h x.1 x.2.1:=by
 induction b with
 | nil=>exact λx hx=>nomatch hx
 | cons q _ c =>
  intro x hx;rcases XF.mp hx with e | hx
  .subst e;exact zda ok (by rw[<- q.1];exact q.2.1)
  .exact c x hx
def zoo {P:Xv}{w:W5}{H:Hp}{h:Heap}(ok:HOk P w H h){vs:AF}{d:List (List Key×V)}{c:List Y1}(o:yb H vs d)(j:Vals vs c):∃ks:List KQ,KT H d ks/\ks.length=c.length/\(∀(i:Nat) (v:Y1),c[i]?=some v->∃(f:Addr) (q:KQ),v=WF f/\ks[i]?=some q/\Ph h f #[.ref q.2.1,q.2.2]):=by
 induction o generalizing c with
 | nil =>
  cases j;exact⟨[],.nil,rfl,λi v e=>by simp at e⟩
 | @cons x l I J q _ p =>
  revert q;refine fy λa b e h1 h2=>?_;cases j with
  | cons D A =>
  refine fu (λks s y z=>?_) (p A);subst e;cases D;obtain⟨_,I,r,E⟩:=(show qv P w H h a (.tup [.ref b,l.2]) from ok a _ h1);refine fy (λu G z0 B g=>?_) (vals2 r);subst z0;cases B;refine⟨(l.1,b,G)::ks,.cons ⟨rfl,h2,g⟩ s,by rw[XA,XA,y],λi v e=>?_⟩;cases i with
  | zero =>
   have m:WF a=v:=by simpa using e
   exact⟨a,_,m.symm,rfl,E⟩
  | succ i =>
   refine fy (λf q h1 h2 n=>?_) (z i v ↑e);exact⟨f,q,h1,↑h2,n⟩
section
variable {X:Cx}
set_option maxHeartbeats 8000000 in
theorem Ju (hu:X.A.units+64<VD)(hh:X.A.handled=none):jm X (.type "dict") (λxs H Q=>∃l us g,xs=[.ref l]/\H l=some (.lst us)/\yb H us g/\∀d,H d=none->Q (.ref d) (upd H d (.dT (Qs g)))):=by
 intro bQ s σ H xs ai Q I r h;revert h;refine fD λl us g z0 hl hp q=>?_;subst z0;obtain⟨u,rfl,ru⟩:=vals1 r;cases ru;refine f9 (λhz p n rv e=>?_) (show qv X.prog X.w H s.heap l (.lst us) from I.hok l _ hl);obtain⟨ks,G,E,O⟩:=zoo I.hok hp rv;have big:=I.big;have B:p.length<=Xy:=by
  rw[<- rv.length];exact hz
 have ae:=zon I.hok G;refine callType_codes (Q₁:=λY y=>Y=.ref s.heap.objs.size/\y={ s with heap:=s.heap.push { cls:=.type "dict",data:=.dict #[] } }) PD (RJ _) P6 (kt_code_dict_new _ ⟨rfl,rfl⟩) ?_;rintro Y y ⟨rfl,rfl⟩;have f:(s.heap.push { cls:=.type "dict",data:=.dict #[] }).DictOfH (VT (zK X.prog X.w)) s.heap.objs.size []:=Heap.DictOfH.new s.heap;have e1:(s.heap.push { cls:=.type "dict",data:=.dict #[] }).get? l=some { cls:=.type "list",dict:=none,data:=.seq p.toArray n,slots:=#[] }:=X6 _ e;refine⟨f.typeIs,Rn _ _,?_⟩;unfold UO.«dict.__init__»;refine X9 ?_;unfold Rm;refine X9 (Pq f.typeIs ?_);show Xh _ _ (pure (s.heap.objs.size,[WF l])) _ _ _;refine XR ?_;show Xh _ _ (Uq "dict.__init__" s.heap.objs.size (.ref l) [] .none) _ _ _;unfold Uq;have hT:To { s with heap:=s.heap.push { cls:=.type "dict",data:=.dict #[] } } (.ref l) "list":=⟨_,e1,rfl⟩;refine X9 (R4 hT ?_);rw[bw "d"];refine X9 (zjQ e1 (by simp[hh]) λh2 t2 kp=>?_);rw[bw (show (none:Option Y1).isNone=true from rfl)];have U:∀b j,s.heap.get? b=some j->h2.get? b=some j:=λb j z=>kp b j (X6 _ z);have J:h2.IsList l p.toArray:=⟨_,kp _ _ e1,rfl,n,rfl⟩;refine X9 (UC (X9 (TW J ?_)));have L:l<s.heap.objs.size:=XE e;have m:s.heap.objs.size<h2.objs.size:=by
  revert f;refine fT λo _ _ N _=>?_;exact XE (kp _ _ N)
 have M:l≠h2.objs.size:=Xi (U1 L m);have aa:s.heap.objs.size ∉ [h2.objs.size,l]:=by
  simp only[XF,VS,or_false,not_or];exact⟨Xi m,Vg L⟩
 refine XR ⟨Vf jq _,?_⟩;have ac:(h2.push { cls:=.type "list_iterator",data:=.fields #[.ref l,.int 0 0] }).DictOfH (VT (zK X.prog X.w)) s.heap.objs.size []:=by
  revert f;refine fE λo es ep N h3 h4 h5 _ h6=>?_;exact dP o es ep (X6 _ (kp _ _ N)) h3 h4 h5 (λx hx=>nomatch hx) h6
 refine ziB (h0:=s.heap) ((Walks.list (by simp[hh]) h2.objs.size l M p.toArray).toS) s.heap.objs.size aa (VG (XW _)) (λb hb=>?_) ks (by rw[E];simp) ↑B (by show X.A.units+1+1<VD;lia) ae (λi v hv=>O i v (by rw[<- hv];simp)) _ 0 _ rfl (W2 _)
  ⟨⟨_,Xf _ rfl,rfl,rfl⟩,J.push _⟩ (λb o z=>X6 _ (U b o z)) ac ?_
 .have e:b=h2.objs.size:=by simpa using hb
  rw[e];exact VG (VA m)
 .intro s' hm ab;obtain⟨h',g',d',ah,ag⟩:=s';have eg:g'=s.gens:=hm.gens;have ed:d'=s.drawn:=hm.drawn;have eo:ag=s.os:=hm.os;subst eg;subst ed;subst eo;have af:∀b j,s.heap.get? b=some j->h'.get? b=some j:=λb j z=>by
   have lt:=XE z;refine hm.heap b j (λhb=>?_) (X6 _ (U b j z));rcases XF.mp hb with e | hb
   .exact V3 _ (e ▸ lt)
   .have e:b=h2.objs.size:=by simpa using hb
    rw[e]at lt;exact V3 _ (U1 lt m)
  revert ab;refine fE λo es ep N h3 h4 h5 _ h6=>?_;have D:KT H (Qs g) (putAll ks):=KT.Yk G .nil;have c:H s.heap.objs.size=none:=I.hok.fresh (XW _);refine⟨rfl,.ref s.heap.objs.size,_,I.laid (a:=s.heap.objs.size) (o:=.dT (Qs g)) (t':=ah) af (XW _) (eO ?_ (beq_eq_false_iff_ne.mpr (Vh (Xi big))) _ (KT.keeps D λb ys hb=>?_) (dI o es ep N h3 h4 h5 h6)),rfl,q _ c⟩
  .rw[Paired.length D];exact X7 (zdd ks) (by rw[E];exact B)
  .rw[zg (zh hb c)];exact hb
end
def u1 {A:PySem.Around}(h:A.units+64<PySem.cLine):A.units+1<PySem.cLine:="a"
section
variable {K:X0}{g:TG}{tc:TT}{te:TE}{Q:VK}{σ0:St}{D:Addr}
def zmd {l1 l2:Addr}{xs ys:AF}(Pv:Nat->St->Hp->Prop){H:Hp}(he:xs.length=ys.length)(h0:Pv 0 σ0 H)(w:∀i a H,i<=xs.length->Pv i a H->SqL K H l1 xs/\SqL K H l2 ys)
  (z:∀i x y T a H,xs[i]?=some x->ys[i]?=some y->H T=none->Pv i a H->g (.ref T) a (upd H T (.tup [x,y])) fun c q=>tc c q λb l=>if b=true then te c l λy n=>∃zs,n D=some (.lst zs)/\zs.length<Xy/\Pv (i+1) c (upd n D (.lst (zs++[y]))) else Pv (i+1) c l)
  (s:∀ a H,Pv xs.length a H->Q (.ref D) H):yW (Itz K l1 l2) g tc te Q D σ0 H:=by
 refine⟨λi m a H=>m=xs.length-i/\i<=xs.length/\Pv i a H,⟨xs.length,"s",W2 _,h0⟩,?_⟩;rintro i m a H ⟨rfl,u,p⟩;obtain⟨h,j⟩:=w i a H u p;by_cases d:i<xs.length
 .refine .inr (eH ⟨xs,ys,h,j,d,"a"⟩ (Pv (i+1)) (fun G o B=>⟨xs.length-(i+1),"a",rfl,d,B⟩) (λx o y=>?_));revert y;refine fu λT z0 r y=>?_;subst z0;refine fy (λv E A f z0=>?_) (y xs ys h j);subst z0;exact z i v E T a H A f r p
 .have e:i=xs.length:="a"
  subst e;exact .inl ⟨⟨xs,ys,h,j,"a"⟩,s a H p⟩
end
theorem yb.into {H:Hp}(z:Addr)(o:HO){f:AF}(d:H z=some (.lst f)):∀{vs:AF} {c:List (List Key×V)},yb H vs c->yb (upd H z o) vs c
 | _,_,.nil=>.nil
 | _,_,.cons ⟨a,b,e,h1,h2⟩ t=>.cons ⟨a,b,e,by rw[zg (zeA h1 d (by intro y;cases y))];exact h1,by rw[zg (zeA h2 d (by intro y;cases y))];exact h2⟩ (yb.into z o d t)
theorem yb.snoc {H:Hp}{vs:AF}{a:List (List Key×V)}{v:V}{b:List Key×V}(h:yb H vs a)(x:zr5 H v b):yb H (vs++[v]) (a++[b]):=Paired.snoc h x
theorem yb.length {H:Hp}{vs:AF}{a:List (List Key×V)}(h:yb H vs a):vs.length=a.length:=Paired.length h
theorem zbR {v:V}{k:List Key}:∀(ks:List (List Key)) (a:List (List Key×V)),(k∈ks\/j4 a k=some v)->j4 ((ks.map λx=>(x,v)).foldl (λa b=>putK a b.1 b.2) a) k=some v
 | [],a,h=>by
  rcases h with h | h
  .cases h
  .exact h
 | x::r,a,h=>by
  rw[Xe,Wp];refine zbR r _ ?_;rw[QF];by_cases e:k=x
  .rw[bw e];exact .inr rfl
  .rw[bq e];rcases h with h | h
   .rcases XF.mp h with h | h
    .exact absurd h e
    .exact .inl h
   .exact .inr h
section
variable {prog:Xv}{w:W5}{A:WL}{E:Y1->X8->Prop}{s:X8}{d o a:Addr}{xs ys:List KQ}{k:List Key}{v:Y1}
abbrev tk2 (prog:Xv)(w:W5):HeapKind prog w (List Key):=VT (zK prog w)
end
def HH (i j:Nat):Int:=reduceHash (Builtin.Tuple.tupleHashOf [hashInt (i:Int),hashInt (j:Int)])
def zbl (prog:Xv)(w:W5)(i j:Nat):(tk2 prog w).hash [.inl ((i:Nat):Int),.inl ((j:Nat):Int)]=HH i j:=by
 show tupleKeyHash (zK prog w) [.inl ((i:Nat):Int),.inl ((j:Nat):Int)]=HH i j;unfold tupleKeyHash HH;rw[Xe,Xe,R5];have e:∀n:Nat,(zK prog w).hash (.inl ((n:Nat):Int))=hashInt ((n:Nat):Int):=λn=>by
  show zpZ w (.inl ((n:Nat):Int))=_;unfold zpZ;with_reducible rfl
 rw[e,e]
def zqv:(Xk 64).all λn=>(Xk 64).all λm=>decide (HH (n/8) (n%8)=HH (m/8) (m%8))==decide (n=m):="q"
def zme {i j f g:Nat}(h1:i<8)(h2:j<8)(l:f<8)(m:g<8)(e:HH i j=HH f g):i=f/\j=g:=by
 have h:=zqv;rw[WV]at h;have a:=h (8*i+j) (W9.mpr "a");rw[WV]at a;have b:=a (8*f+g) (W9.mpr "a");rw[show (8*i+j)/8=i by lia,show (8*i+j)%8=j by lia,show (8*f+g)/8=f by lia,show (8*f+g)%8=g by lia,br e]at b;have c:decide (8*i+j=8*f+g)=true:=by simpa using b
 have d:=bh c;lia
open PySem
namespace ST
def run (a i:Nat):List Nat:=(Xk (VJ a i+1-i)).map (i + ·)
def walk (a:Nat):Nat->Nat->Nat->List Nat
 | 0,_,_=>[]
 | f+1,i,p=>run a i++walk a f (Ve a i p).1 (Ve a i p).2
def zop (a i:Nat):1<=(run a i).length/\(run a i).length<=10:=by
 unfold run VJ;rw[ZB,WZ];split<;>lia
theorem zde (a:Nat):∀f i p,(walk a f i p).length<=10*f
 | 0,_,_=>XW _
 | f+1,i,p=>by
  rw[walk,X5];have:=(zop a i).2;have:=zde a f (Ve a i p).1 (Ve a i p).2;lia
def steps (t:Wr):Nat->RT->RT
 | 0,p=>p
 | n+1,p=>steps t n (t.advance p)
theorem zbS (t:Wr):∀n m p,steps t (n+m) p=steps t m (steps t n p)
 | 0,m,p=>by rw[V1];rfl
 | n+1,m,p=>by
  rw[show n+1+m=(n+m)+1 from by lia];exact zbS t n m (t.advance p)
theorem zbT (t:Wr)(i pt:Nat)(a:Option Nat):∀(d r j:Nat),d<=r->steps t d { j:=j,more:=r,i:=i,perturb:=pt,dummy:=a }={ j:=j+d,more:=r-d,i:=i,perturb:=pt,dummy:=a }
 | 0,r,j,_=>rfl
 | d+1,r,j,h=>by
  have e:t.advance { j:=j,more:=r,i:=i,perturb:=pt,dummy:=a }={ j:=j+1,more:=r-1,i:=i,perturb:=pt,dummy:=a }:=by
   unfold QP;rw[bw (by show r>0;lia)]
  show steps t d (t.advance _)=_;rw[e,zbT t i pt a d (r-1) (j+1) "a"];congr 1<;>lia
def zae (a i pt:Nat)(b:Option Nat):RT:={ j:=i,more:=VJ a i-i,i:=i,perturb:=pt,dummy:=b }
def zbU (a i:Nat):i<=VJ a i:=by
 unfold VJ;split<;>lia
def ziC (t:Wr)(i pt:Nat)(a:Option Nat):steps t (run t.mask i).length (zae t.mask i pt a)=zae t.mask (Ve t.mask i pt).1 (Ve t.mask i pt).2 a:=by
 have b:(run t.mask i).length=(VJ t.mask i-i)+1:=by
  unfold run;rw[ZB,WZ];have:=zbU t.mask i;lia
 rw[b,zbS];unfold zae;rw[zbT t i pt a _ _ _ (XW _),PM];rw[steps,steps];unfold QP;rw[bq (by show ¬ 0>0;lia)]
theorem Za (t:Wr):∀(f i pt:Nat) (a:Option Nat) (n:Nat) (j:Nat),(walk t.mask f i pt)[n]?=some j->(steps t n (zae t.mask i pt a)).j=j
 | 0,_,_,_,_,_,h=>by simp[walk]at h
 | f+1,i,pt,a,n,j,h=>by
  rw[walk]at h;by_cases b:n<(run t.mask i).length
  .rw[Vm b]at h;unfold run at h;rw[Xl,Uz (by unfold run at b;simpa using b)]at h;have c:(run t.mask i).length=(VJ t.mask i-i)+1:=by
    unfold run;rw[ZB,WZ];have:=zbU t.mask i;lia
   unfold zae;rw[zbT t i pt a n _ _ "a"];exact Option.some.inj h
  .rw[UQ "a"]at h;have e:n=(run t.mask i).length+(n-(run t.mask i).length):="a"
   rw[e,zbS,ziC];exact Za t f _ _ a _ j h
theorem zfQ (t:Wr)(VB:Nat->Int)(h:Int):∀(n F:Nat) (p:RT),(∀k,k<n->∃i,t.slot (steps t k p).j=.live i/\(VB i==h)=false)->n<=F->TU t VB h F p=TU t VB h (F-n) (steps t n p)
 | 0,F,p,_,_=>rfl
 | n+1,F,p,hk,d=>by
  obtain⟨a,rfl⟩:∃a,F=a+1:=⟨F-1,"a"⟩;obtain⟨i,h1,h2⟩:=hk 0 "a";have b:t.slot p.j=.live i:=h1;rw[TU,b];show (if (VB i==h)=true then _ else _)=_;rw[bq (by rw[h2];decide),zfQ t VB h n a (t.advance p) (λk c=>hk (k+1) "a") "a",Nat.add_sub_add_right];rfl
def Up (xs:Array Nat):Prop:=∀i j,i<j->j<xs.size->xs.getD i 0<xs.getD j 0
def zmf {xs:Array Nat}(U:Up xs)(j:Nat):∀(f lo a:Nat),a-lo<=f->lo<=a->a<=xs.size->(∀i,i<lo->xs.getD i 0<j)->(∀i,a<=i->i<xs.size->j<=xs.getD i 0) ->
  Vv xs j f lo a<=xs.size/\(∀i,i<Vv xs j f lo a->xs.getD i 0<j)/\(∀i,Vv xs j f lo a<=i->i<xs.size->j<=xs.getD i 0):=by
 intro f;induction f with
 | zero =>
  intro lo a o p d h1 h2;have:lo=a:="a"
  subst this;exact⟨d,h1,h2⟩
 | succ f n =>
  intro lo a o p d h1 h2;by_cases b:lo<a
  .have r:(lo+a)/2<a:="a"
   have q:lo<=(lo+a)/2:="a"
   have c:(lo+a)/2<xs.size:="a"
   have e:xs.getD ((lo+a)/2) j=xs.getD ((lo+a)/2) 0:=by
    simp[Tf,c]
   have m:Vv xs j (f+1) lo a=if xs.getD ((lo+a)/2) 0<j then Vv xs j f ((lo+a)/2+1) a else Vv xs j f lo ((lo+a)/2):=by
    rw[Vv,bw b];show (if xs.getD ((lo+a)/2) j<j then _ else _)=_;rw[e]
   by_cases g:xs.getD ((lo+a)/2) 0<j
   .rw[m,bw g];refine n ((lo+a)/2+1) a "a" "a" d (λi h=>?_) h2;by_cases he:i=(lo+a)/2
    .rw[he];exact g
    .exact U1 (U i ((lo+a)/2) "a" c) g
   .rw[m,bq g];refine n lo ((lo+a)/2) "a" "a" "a" h1 (λi h l=>?_);by_cases he:i=(lo+a)/2
    .rw[he];lia
    .have:=U ((lo+a)/2) i "a" l;lia
  .rw[Vv,bq b];have:lo=a:="a"
   subst this;exact⟨d,h1,h2⟩
def Yl {xs:Array Nat}(U:Up xs)(j:Nat):Xs xs j<=xs.size/\(∀i,i<Xs xs j->xs.getD i 0<j)/\(∀i,Xs xs j<=i->i<xs.size->j<=xs.getD i 0) :=
 zmf U j xs.size 0 xs.size "a" (W2 _) (XW _) (λ_ h=>absurd h (T4 _)) (λi h1 h2=>absurd h2 "a")
def Zb {xs:Array Nat}{i:Nat}(h:i<xs.size):xs[i]?=some (xs.getD i 0):=by
 simp[Tf,h]
def Ym {t:Wr}(U:Up t.place){i:Nat}(a:i<t.place.size):t.slot (t.place.getD i 0)=.live i:=by
 have b:=Yl U (t.place.getD i 0);have e:Xs t.place (t.place.getD i 0)=i:=by
  rcases Ry (Xs t.place (t.place.getD i 0)) i with h | h | h
  .have h1:=b.2.2 _ (XW _) "a";have h2:=U _ i h a;lia
  .exact h
  .have:=b.2.1 i h;lia
 unfold SetTable.slot;simp only[e,Zb a];rw[bw "s"]
def slot_of {t:Wr}(U:Up t.place)(f:t.dummies=#[])(j:Nat):(∃i,i<t.place.size/\t.place.getD i 0=j/\t.slot j=.live i)\/(t.slot j=.empty/\∀i,i<t.place.size->t.place.getD i 0≠j):=by
 by_cases h:∃i,i<t.place.size/\t.place.getD i 0=j
 .obtain⟨i,a,rfl⟩:=h;exact .inl ⟨i,a,rfl,Ym U a⟩
 .have d:∀i,i<t.place.size->t.place.getD i 0≠j:=λi a e=>h ⟨i,a,e⟩;refine .inr ⟨?_,d⟩;unfold SetTable.slot;have h1:¬ ((t.place[Xs t.place j]?==some j)=true):=λz=>by
   have b:t.place[Xs t.place j]?=some j:=by simpa using z
   have c:Xs t.place j<t.place.size:=by
    rcases S1 (Xs t.place j) t.place.size with q | q
    .exact q
    .rw[Ws q]at b;cases b
   rw[Zb c]at b;exact d _ c (Option.some.inj b)
  simp only[];rw[bq h1,f];rfl
def Reach (t:Wr)(h:Int)(j:Nat):Prop:=∃n:Nat,(walk t.mask (W1 t.mask) (XG h%(t.mask+1)) (XG h))[n]?=some j/\∀k:Nat,k<n->∀a,(walk t.mask (W1 t.mask) (XG h%(t.mask+1)) (XG h))[k]?=some a->∃i,i<t.place.size/\t.place.getD i 0=a
def zbm (t:Wr)(h:Int):t.probeStart h=zae t.mask (XG h%(t.mask+1)) (XG h) none:=rfl
theorem zg5 (t:Wr):∀n p,(steps t n p).dummy=p.dummy
 | 0,_=>rfl
 | n+1,p=>by
  rw[steps,zg5 t n];unfold QP;split<;>rfl
def zg6 {t:Wr}(U:Up t.place)(VB:Nat->Int){h:Int}{i:Nat}(D:i<t.place.size)(A:VB i=h)(one:∀e,e<t.place.size->VB e=h->e=i)(R:Reach t h (t.place.getD i 0)):∃w,t.probe VB h (t.probeStart h)=some (.candidate (t.place.getD i 0) i w):=by
 obtain⟨n,z,hk⟩:=R;have y:=(X2.mp z).1;have L:=zde t.mask (W1 t.mask) (XG h%(t.mask+1)) (XG h);have v:∀m:Nat,m<=n->(∀k,k<m->∃e,t.slot (steps t k (t.probeStart h)).j=.live e/\(VB e==h)=false)\/∃f,f<m/\(∀k,k<f->∃e,t.slot (steps t k (t.probeStart h)).j=.live e/\(VB e==h)=false)/\t.slot (steps t f (t.probeStart h)).j=.live i/\(steps t f (t.probeStart h)).j=t.place.getD i 0:=λm=>by
  induction m with
  | zero=>exact λ_=>.inl λk hk=>absurd hk (T4 _)
  | succ m J =>
   intro G;rcases J "a" with h1 | ⟨f,a,b⟩
   .have I:∃r,(walk t.mask (W1 t.mask) (XG h%(t.mask+1)) (XG h))[m]?=some r:=⟨_,XX "a"⟩;obtain⟨r,q⟩:=I;obtain⟨e,p,l⟩:=hk m "a" r q;have g:(steps t m (t.probeStart h)).j=r:=by
     rw[zbm];exact Za t _ _ _ none m r q
    have s:t.slot (steps t m (t.probeStart h)).j=.live e:=by
     rw[g,<- l];exact Ym U p
    by_cases he:VB e=h
    .have:=one e p he;subst this;exact .inr ⟨m,"a",h1,s,by rw[g,l]⟩
    .refine .inl λk E=>?_;by_cases u:k=m
     .subst u;exact⟨e,s,↑he⟩
     .exact h1 k "a"
   .exact .inr ⟨f,"a",b⟩
 have o:∀m:Nat,m<10*W1 t.mask->(∀k,k<m->∃e,t.slot (steps t k (t.probeStart h)).j=.live e/\(VB e==h)=false)->t.slot (steps t m (t.probeStart h)).j=.live i->(steps t m (t.probeStart h)).j=t.place.getD i 0->∃w,t.probe VB h (t.probeStart h)=some (.candidate (t.place.getD i 0) i w):=λm G H s g=>by
  unfold SetTable.probe;rw[zfQ t VB h m _ _ H "a"];obtain⟨x,B⟩:∃x,10*W1 t.mask-m=x+1:=⟨10*W1 t.mask-m-1,"a"⟩;rw[B,TU,s];simp only[];rw[bw ↑A,g];exact⟨_,rfl⟩
 rcases v n (XW _) with h1 | ⟨f,a,b,c,d⟩
 .have g:(steps t n (t.probeStart h)).j=t.place.getD i 0:=by
   rw[zbm];exact Za t _ _ _ none n _ z
  exact o n "a" h1 (by rw[g];exact Ym U D) g
 .exact o f "a" b c d
def zfR {t:Wr}(U:Up t.place)(z:t.dummies=#[])(VB:Nat->Int){h:Int}(H:∀i,i<t.place.size->VB i≠h){e:Nat}(he:∀i,i<t.place.size->t.place.getD i 0≠e)(D:e∈walk t.mask (W1 t.mask) (XG h%(t.mask+1)) (XG h)) :
  ∃j,t.probe VB h (t.probeStart h)=some (.empty j none)/\t.slot j=.empty/\Reach t h j/\j∈walk t.mask (W1 t.mask) (XG h%(t.mask+1)) (XG h):=by
 obtain⟨N,u⟩:=Pp.mp D;have v:=(X2.mp u).1;have L:=zde t.mask (W1 t.mask) (XG h%(t.mask+1)) (XG h);have r:∀m:Nat,m<=N+1->(∀k:Nat,k<m->∀f,(walk t.mask (W1 t.mask) (XG h%(t.mask+1)) (XG h))[k]?=some f->∃i,i<t.place.size/\t.place.getD i 0=f)\/∃g j:Nat,g<m/\(walk t.mask (W1 t.mask) (XG h%(t.mask+1)) (XG h))[g]?=some j/\t.slot j=.empty/\(∀k:Nat,k<g->∀f,(walk t.mask (W1 t.mask) (XG h%(t.mask+1)) (XG h))[k]?=some f->∃i,i<t.place.size/\t.place.getD i 0=f):=λm=>by
  induction m with
  | zero=>exact λ_=>.inl λk hk=>absurd hk (T4 _)
  | succ m E =>
   intro J;rcases E "a" with h1 | ⟨g,j,a,b⟩
   .obtain⟨f,l⟩:∃f,(walk t.mask (W1 t.mask) (XG h%(t.mask+1)) (XG h))[m]?=some f:=⟨_,XX "a"⟩;rcases slot_of U z f with ⟨i,o,p,_⟩ | ⟨I,_⟩
    .refine .inl λk A G n=>?_;by_cases q:k=m
     .subst q;rw[l]at n;exact⟨i,o,by rw[p];exact Option.some.inj n⟩
     .exact h1 k "a" G n
    .exact .inr (dB m f "a" l I h1)
   .exact .inr ⟨g,j,"a",b⟩
 rcases r (N+1) (XW _) with h1 | ⟨g,j,a,b,c,d⟩
 .obtain⟨i,o,p⟩:=h1 N "a" e u;exact absurd p (he i o)
 .refine⟨j,?_,c,⟨g,b,d⟩,X4 b⟩;have x:(steps t g (t.probeStart h)).j=j:=by
   rw[zbm];exact Za t _ _ _ none g j b
  have B:∀k,k<g->∃w,t.slot (steps t k (t.probeStart h)).j=.live w/\(VB w==h)=false:=λk hk=>by
   obtain⟨f,l⟩:∃f,(walk t.mask (W1 t.mask) (XG h%(t.mask+1)) (XG h))[k]?=some f:=⟨_,XX "a"⟩;obtain⟨i,o,p⟩:=d k hk f l;refine⟨i,?_,by simpa using H i o⟩;have:(steps t k (t.probeStart h)).j=f:=by
    rw[zbm];exact Za t _ _ _ none k f l
   rw[this,<- p];exact Ym U o
  unfold SetTable.probe;rw[zfQ t VB h g _ _ B "a"];obtain⟨s,y⟩:∃s,10*W1 t.mask-g=s+1:=⟨10*W1 t.mask-g-1,"a"⟩;rw[y,TU,x,c];simp only[zg5];rfl
def orb (m:Nat):Nat->Nat->Nat
 | 0,i=>i
 | n+1,i=>orb m n ((i*5+1)%m)
def zkU (m:Nat):Nat->Nat->List Nat
 | 0,_=>[]
 | n+1,i=>i::zkU m n ((i*5+1)%m)
theorem zdf (m:Nat):∀(n i e:Nat),e∈zkU m n i->∃k,k<n/\orb m k i=e
 | 0,_,_,h=>nomatch h
 | n+1,i,e,h=>by
  rcases XF.mp h with rfl | h
  .exact⟨0,SZ _,rfl⟩
  .obtain⟨k,hk,q⟩:=zdf m n _ e h;exact⟨k+1,"a",q⟩
theorem zcP (m:Nat):∀a b i,orb m (a+b) i=orb m b (orb m a i)
 | 0,b,i=>by rw[V1];rfl
 | a+1,b,i=>by
  rw[show a+1+b=(a+b)+1 from by lia];exact zcP m a b _
def full {m:Nat}(h1:∀e,e<m->e∈zkU m m 0)(h2:orb m m 0=0){i e:Nat}(f:i<m)(he:e<m):∃k,k<m+1/\orb m k i=e:=by
 obtain⟨a,g,c⟩:=zdf m m 0 i (h1 i f);obtain⟨b,h,d⟩:=zdf m m 0 e (h1 e he);rcases S1 b a with q | q
 .refine⟨m-a+b,"a",?_⟩;rw[<- c,<- zcP,show a+(m-a+b)=m+b from by lia,zcP,h2,d]
 .refine⟨b-a,"a",?_⟩;rw[<- c,<- zcP,show a+(b-a)=b from by lia,d]
def zpC:(∀e,e<8->e∈zkU 8 8 0)/\orb 8 8 0=0:="q"
def zmg:(∀e,e<32->e∈zkU 32 32 0)/\orb 32 32 0=0:="q"
def zjR:(∀e,e<128->e∈zkU 128 128 0)/\orb 128 128 0=0:="q"
def Yn (a:Nat):Nat->Nat->Nat->AA
 | 0,i,p=>(i,p)
 | n+1,i,p=>Yn a n (Ve a i p).1 (Ve a i p).2
theorem zeR (c:Nat):∀a b i p,Yn c (a+b) i p=Yn c b (Yn c a i p).1 (Yn c a i p).2
 | 0,b,i,p=>by rw[V1];rfl
 | a+1,b,i,p=>by
  rw[show a+1+b=(a+b)+1 from by lia];exact zeR c a b _ _
theorem zjS (a:Nat):∀n i p,(Yn a n i p).2=p/32^n
 | 0,i,p=>by rw[Nat.pow_zero,Nat.div_one];rfl
 | n+1,i,p=>by
  rw[Yn,zjS a n];show p/32/32^n=_;rw[Nat.div_div_eq_div_mul,Uh,TD]
theorem zg7 (a:Nat):∀n i p,i<a+1->(Yn a n i p).1<a+1
 | 0,i,p,h=>h
 | n+1,i,p,h=>zg7 a n _ _ (SC _ (SZ _))
theorem zeS (a:Nat):∀n i,(Yn a n i 0).1=orb (a+1) n i
 | 0,_=>rfl
 | n+1,i=>by
  have b:(Ve a i 0).1=(i*5+1)%(a+1):=rfl;have c:(Ve a i 0).2=0:=rfl;rw[Yn,b,c];exact zeS a n _
theorem head_mem (a:Nat):∀(f n i p:Nat),n<f->(Yn a n i p).1∈walk a f i p
 | 0,_,_,_,h=>absurd h (T4 _)
 | f+1,0,i,p,_=>by
  rw[walk];refine Xq _ ?_;unfold run;refine XY.mpr ⟨0,W9.mpr ?_,"r"⟩;have:=zbU a i;lia
 | f+1,n+1,i,p,h=>by
  rw[walk];exact Xx _ (head_mem a f n _ _ "a")
def zg8 {a:Nat}(g:a=7\/a=31\/a=127)(h:Int){e:Nat}(he:e<a+1):e∈walk a (W1 a) (XG h%(a+1)) (XG h):=by
 have f:XG h<2^64:=by
  unfold XG;have h1:=T3 h (show (2^64:Int)≠0 by decide);have h2:=Uf h (show (0:Int)<2^64 by decide);lia
 have i:(Yn a 13 (XG h%(a+1)) (XG h)).2=0:=by
  rw[zjS];exact Nat.div_eq_of_lt (U1 f "d")
 have b:=zg7 a 13 (XG h%(a+1)) (XG h) (SC _ (SZ _));obtain⟨k,hk,d⟩:∃k,k<a+1+1/\orb (a+1) k (Yn a 13 (XG h%(a+1)) (XG h)).1=e:=by
  rcases g with rfl | rfl | rfl
  .exact full zpC.1 zpC.2 b he
  .exact full zmg.1 zmg.2 b he
  .exact full zjR.1 zjR.2 b he
 have c:=head_mem a (W1 a) (13+k) (XG h%(a+1)) (XG h) (by unfold W1;lia);rw[zeR,i,zeS,d]at c;exact c
def QH {α:Type}(xs:Array α){p:Nat}(x:α):(Xd xs p x).toList=xs.toList.take p++x::xs.toList.drop p:=by
 unfold Xd;simp;rw[Wt (by rw[UZ,XV];lia)]
def zmh {α:Type}(xs:Array α){p:Nat}(b:p<=xs.size)(x:α)(i:Nat):(Xd xs p x)[i]?=if i<p then xs[i]? else if i=p then some x else xs[i-1]?:=by
 have a:(xs.toList.take p).length=p:=by
  rw[XC,XV];lia
 rw[<- WY,QH];by_cases h1:i<p
 .rw[bw h1,Vm "a",Rr h1,WY]
 .rw[bq h1,UQ "a",a];by_cases h2:i=p
  .rw[bw h2,h2,PM];rfl
  .rw[bq h2,show i-p=(i-p-1)+1 from by lia,List.getElem?_cons_succ,List.getElem?_drop,WY];congr 1;lia
def jT {α:Type}(xs:Array α){p:Nat}(a:p<=xs.size)(x:α):(Xd xs p x).size=xs.size+1:=by
 rw[<- XV,QH,X5,XA,XC,UZ,XV];lia
def Yo (xs:Array Nat){p:Nat}(a:p<=xs.size)(x i:Nat)(b:i<xs.size+1):(Xd xs p x).getD i 0=if i<p then xs.getD i 0 else if i=p then x else xs.getD (i-1) 0:=by
 have h:=zmh xs a x i;rw[Zb (by rw[jT xs a x];exact b)]at h;by_cases h1:i<p
 .rw[bw h1]at h ⊢;rw[Zb "a"]at h;exact Option.some.inj h
 .rw[bq h1]at h ⊢;by_cases h2:i=p
  .rw[bw h2]at h ⊢;exact Option.some.inj h
  .rw[bq h2]at h ⊢;rw[Zb "a"]at h;exact Option.some.inj h
def zmi {t:Wr}(U:Up t.place)(m:t.dummies=#[]){j:Nat}(he:∀i,i<t.place.size->t.place.getD i 0≠j):(t.put j).2=Xs t.place j/\(t.put j).1={ t with place:=Xd t.place (Xs t.place j) j }/\Up (Xd t.place (Xs t.place j) j):=by
 have b:=Yl U j;refine⟨rfl,?_,λa c f h=>?_⟩
 .unfold SetTable.put;simp only[m];rfl
 .rw[jT _ b.1]at h;rw[Yo _ b.1 _ _ "a",Yo _ b.1 _ _ h];have lo:∀i,i<Xs t.place j->t.place.getD i 0<j:=b.2.1;have l:∀i,Xs t.place j<=i->i<t.place.size->j<t.place.getD i 0:=λi h1 h2=>by
   have:=b.2.2 i h1 h2;have:=he i h2;lia
  by_cases d:a<Xs t.place j
  .rw[bw d];by_cases c1:c<Xs t.place j
   .rw[bw c1];exact U a c f "a"
   .rw[bq c1];by_cases e:c=Xs t.place j
    .rw[bw e];exact lo a d
    .rw[bq e];have h1:=lo a d;have h2:=l (c-1) "a" "a";lia
  .have c1:¬ c<Xs t.place j:="a"
   have e:¬ c=Xs t.place j:="a"
   rw[bq d,bq c1,bq e];by_cases g:a=Xs t.place j
   .rw[bw g];exact l (c-1) "a" "a"
   .rw[bq g];exact U (a-1) (c-1) "a" "a"
def Reach.more {t t':Wr}(g:t'.mask=t.mask)(l:∀i,i<t.place.size->∃a,a<t'.place.size/\t'.place.getD a 0=t.place.getD i 0){h:Int}{j:Nat}(R:Reach t h j):Reach t' h j:=by
 obtain⟨n,h1,h2⟩:=R;unfold Reach;rw[g];refine⟨n,h1,λk hk m d=>?_⟩;obtain⟨i,f,e⟩:=h2 k hk m d;obtain⟨a,c,b⟩:=l i f;exact⟨a,c,b.trans e⟩
def zmj {t:Wr}(U:Up t.place)(j:Nat):∀i,i<t.place.size->∃a,a<(Xd t.place (Xs t.place j) j).size/\(Xd t.place (Xs t.place j) j).getD a 0=t.place.getD i 0:=λi c=>by
 have b:=Yl U j;by_cases h:i<Xs t.place j
 .refine⟨i,by rw[jT _ b.1];lia,?_⟩;rw[Yo _ b.1 _ _ "a",bw h]
 .refine⟨i+1,by rw[jT _ b.1];lia,?_⟩;rw[Yo _ b.1 _ _ "a",bq "a",bq "a",Ue]
theorem zjT (a:Nat)(owner:Array (Option Nat)):∀(f i p:Nat),SetTable.layClean.free a owner f i p=(walk a f i p).find? λj=>(owner.getD j (some 0)).isNone
 | 0,_,_=>rfl
 | f+1,i,p=>by
  rw[SetTable.layClean.free,walk,List.find?_append];unfold run;rw[List.find?_map];have e:((λj=>(owner.getD j (some 0)).isNone)∘λx=>i+x)=λk=>(owner.getD (i+k) (some 0)).isNone:=rfl;rw[e];cases h:(Xk (VJ a i+1-i)).find? λk=>(owner.getD (i+k) (some 0)).isNone with
  | some k=>rfl
  | none =>
   simp only[Option.map_none,Option.none_or];exact zjT a owner f _ _
structure Own (mask:Nat)(hs:List Int)(owner:Array (Option Nat))(k:Nat):Prop where
 sz:owner.size=mask+1
 few:(owner.toList.countP λo=>o.isNone)+k=mask+1
 at_:∀i,i<k->∃j:Nat,owner[j]?=some (some i)/\∃n:Nat,(walk mask (W1 mask) (XG (hs.getD i 0)%(mask+1)) (XG (hs.getD i 0)))[n]?=some j/\∀m:Nat,m<n->∀j':Nat,(walk mask (W1 mask) (XG (hs.getD i 0)%(mask+1)) (XG (hs.getD i 0)))[m]?=some j'->∃o,owner[j']?=some (some o)
 lt:∀j i:Nat,owner[j]?=some (some i)->i<k
 inj:∀j j' i:Nat,owner[j]?=some (some i)->owner[j']?=some (some i)->j=j'
def Own.nil (a:Nat)(b:List Int):Own a b (Array.replicate (a+1) none) 0:=by
 refine⟨"s",by rw[Array.toList_replicate,Po];rfl,λi h=>absurd h (T4 _),λj i h=>?_,λj c i h=>?_⟩
 .rw[Rl]at h;split at h<;>cases h
 .rw[Rl]at h;split at h<;>cases h
def count_set {l:List (Option Nat)}:∀{j:Nat} (k:Nat),l[j]?=some none->(l.set j (some k)).countP (λo=>o.isNone)+1=l.countP λo=>o.isNone:=by
 induction l with
 | nil=>exact λ_ h=>by simp at h
 | cons o r a =>
  intro j k h;cases j with
  | zero =>
   have:o=none:=by simpa using h
   subst this;simp[WQ]
  | succ j =>
   have:=a k ↑h;rw[List.set_cons_succ,WQ,WQ];lia
def zkV {l:List (Option Nat)}(h:0<l.countP λo=>o.isNone):∃j:Nat,l[j]?=some none:=by
 obtain⟨o,c,b⟩:=OM.mp h;obtain⟨j,a⟩:=Pp.mp c;refine⟨j,?_⟩;rw[a];cases o with
 | none=>rfl
 | some _=>cases b
def getD_none {owner:Array (Option Nat)}{j:Nat}:(owner.getD j (some 0)).isNone=true↔owner[j]?=some none:=by
 by_cases h:j<owner.size
 .have e:owner[j]?=some (owner.getD j (some 0)):=by simp[Tf,h]
  rw[e];cases owner.getD j (some 0)<;>simp
 .have e:owner.getD j (some 0)=some 0:=by simp[Tf,h]
  rw[e,Ws "a"];simp
theorem zfS (a:Nat):∀(f i p:Nat),i<a+1->∀j∈walk a f i p,j<a+1
 | 0,_,_,_,_,h=>nomatch h
 | f+1,i,p,c,j,h=>by
  rw[walk]at h;rcases XU.mp h with h | h
  .unfold run at h;obtain⟨k,hk,rfl⟩:=XY.mp h;have b:=W9.mp hk;have:VJ a i<=a:=by
    unfold VJ;split<;>lia
   lia
  .exact zfS a f _ _ (SC _ (SZ _)) j h
def Own.step {d:Nat}(J:d=7\/d=31\/d=127){g:List Int}{owner:Array (Option Nat)}{k:Nat}(O:Own d g owner k)(hk:k<d+1):∃j,SetTable.layClean.free d owner (W1 d) (XG (g.getD k 0)%(d+1)) (XG (g.getD k 0))=some j/\Own d g (owner.setIfInBounds j (some k)) (k+1):=by
 obtain⟨e,he⟩:=zkV (l:=owner.toList) (by have:=O.few;lia);rw[WY]at he;have I:e<owner.size:=by
  rcases S1 e owner.size with q | q
  .exact q
  .rw[Ws q]at he;cases he
 have M:=zg8 J (g.getD k 0) (e:=e) (by have:=O.sz;lia);rw[zjT];cases A:(walk d (W1 d) (XG (g.getD k 0)%(d+1)) (XG (g.getD k 0))).find? λj=>(owner.getD j (some 0)).isNone with
 | none =>
  have:=List.find?_eq_none.mp A e M;exact absurd (getD_none.mpr he) this
 | some j =>
  refine⟨j,rfl,?_⟩;have y:owner[j]?=some none:=getD_none.mp (List.find?_some (p:=λj=>(owner.getD j (some 0)).isNone) A);have D:j<owner.size:=by
   rcases S1 j owner.size with q | q
   .exact q
   .rw[Ws q]at y;cases y
  have get:∀i:Nat,(owner.setIfInBounds j (some k))[i]?=if j=i then some (some k) else owner[i]?:=λi=>by
   rw[Array.getElem?_setIfInBounds];by_cases h:j=i
   .rw[bw h,bw h];simp[D]
   .rw[bq h,bq h]
  have keep:∀(i o:Nat),owner[i]?=some (some o)->(owner.setIfInBounds j (some k))[i]?=some (some o):=λi o h=>by
   rw[get,bq (λz=>by rw[<- z,y]at h;cases h)];exact h
  refine⟨by rw[Array.size_setIfInBounds];exact O.sz,?_,λi Q=>?_,λr i h=>?_,λG H i h1 h2=>?_⟩
  .rw[TH];have:=count_set (l:=owner.toList) (j:=j) k (by rw[WY];exact y);have:=O.few;lia
  .by_cases B:i=k
   .subst B;refine⟨j,by rw[get,bw rfl],?_⟩;refine f9 (λ_ as bs u L=>?_) (List.find?_eq_some_iff_append.mp A);refine⟨as.length,by rw[u];simp,λm v r f=>?_⟩;rw[u,Vm v]at f;have s:=X4 f;have x:=L r s;have E:r∈walk d (W1 d) (XG (g.getD i 0)%(d+1)) (XG (g.getD i 0)):=by
     rw[u];exact Xq _ s
    cases w:owner[r]? with
    | none =>
     have:=zfS d (W1 d) _ _ (SC _ (SZ _)) r E;rw[TF.mpr ⟨by rw[O.sz];exact this,rfl⟩]at w;cases w
    | some o =>
     cases o with
     | none =>
      rw[getD_none.mpr w]at x;cases x
     | some o=>exact⟨o,keep r o w⟩
   .refine fJ (λN a n b c=>?_) (O.at_ i "a");refine dN N (keep _ _ a) n b (λm v r f=>?_);obtain⟨o,w⟩:=c m v r f;exact⟨o,keep _ _ w⟩
  .rw[get]at h;split at h
   .have:k=i:=by simpa using h
    lia
   .have:=O.lt r i h;lia
  .rw[get]at h1 h2;split at h1<;>split at h2
   .lia
   .have:k=i:=by simpa using h1
    have:=O.lt H i h2;lia
   .have:k=i:=by simpa using h2
    have:=O.lt G i h1;lia
   .exact O.inj G H i h1 h2
theorem zg9 {a:Nat}(i:a=7\/a=31\/a=127)(c:List Int)(p:c.length<=a+1):∀(l done:List Int) (owner:Array (Option Nat)),c=done++l->Own a c owner done.length ->
  ∃b,l.foldl (λ(f:Option (Array (Option Nat)×Nat)) h=>do
   let (owner,k) <- f
   let j <- SetTable.layClean.free a owner (W1 a) (XG h%(a+1)) (XG h)
   pure (owner.setIfInBounds j (some k),k+1)) (some (owner,done.length))=some (b,c.length)/\Own a c b c.length
 | [],done,owner,e,O=>by
  rw[Xc]at e;subst e;exact⟨owner,rfl,O⟩
 | h::r,done,owner,e,O=>by
  have o:c.getD done.length 0=h:=by
   rw[e];simp[List.getD]
  have d:done.length<a+1:=by
   have:c.length=done.length+(r.length+1):=by rw[e,X5,XA]
   lia
  obtain⟨j,g,m⟩:=O.step i d;rw[o]at g;obtain⟨b,h1,h2⟩:=zg9 i c p r (done++[h]) (owner.setIfInBounds j (some done.length)) (by rw[e,WP];rfl) (by rw[X5];exact m);refine⟨b,?_,h2⟩;rw[X5]at h1;rw[Wp];have n:(do
   let (owner,k) <- (some (owner,done.length):Option (Array (Option Nat)×Nat))
   let j <- SetTable.layClean.free a owner (W1 a) (XG h%(a+1)) (XG h)
   pure (owner.setIfInBounds j (some k),k+1))=some (owner.setIfInBounds j (some done.length),done.length+1):=by
   show (SetTable.layClean.free a owner (W1 a) (XG h%(a+1)) (XG h)).bind _=_;rw[g];rfl
  rw[n];exact h1
def zqw {b:Nat}(d:b=7\/b=31\/b=127)(a:Array Int)(c:a.size<=b+1):∃owner,SetTable.layClean b a=some owner/\Own b a.toList owner a.size:=by
 obtain⟨owner,h1,h2⟩:=zg9 d a.toList (by rw[XV];exact c) a.toList [] _ rfl (Own.nil b _);rw[XV]at h1 h2;refine⟨owner,?_,h2⟩;unfold SetTable.layClean;rw[<- Array.foldl_toList];exact congrArg (RW (·.1)) h1
def qT (a:Nat)(owner:Array (Option Nat)):AD:=(Xk (a+1)).filterMap λj=>(owner.getD j none).map (j,·)
def Zc {c:Nat}{owner:Array (Option Nat)}(sz:owner.size=c+1){j i:Nat}:(j,i)∈qT c owner↔owner[j]?=some (some i):=by
 unfold qT;rw[Td];constructor
 .rintro⟨a,ha,h⟩;have d:a<owner.size:=by rw[sz];exact W9.mp ha
  have e:owner[a]?=some (owner.getD a none):=by simp[Tf,d]
  cases ho:owner.getD a none with
  | none =>
   rw[ho]at h;cases h
  | some b =>
   rw[ho]at h;have f:(a,b)=(j,i):=Option.some.inj h;cases f;rw[e,ho]
 .intro h;have d:j<owner.size:=by
   rcases S1 j owner.size with q | q
   .exact q
   .rw[Ws q]at h;cases h
  have e:owner[j]?=some (owner.getD j none):=by simp[Tf,d]
  refine⟨j,W9.mpr (by rw[<- sz];exact d),?_⟩;rw[e]at h;rw[Option.some.inj h];rfl
def zjU (c:Nat)(owner:Array (Option Nat)):(qT c owner).Pairwise λa b=>a.1<b.1:=by
 unfold qT;rw[List.pairwise_filterMap];refine List.pairwise_lt_range.imp λ{a b} f x d y e=>?_;cases h1:owner.getD a none with
 | none=>rw[h1]at d;cases d
 | some p =>
  cases h2:owner.getD b none with
  | none=>rw[h2]at e;cases e
  | some q =>
   rw[h1]at d;rw[h2]at e;have g:(a,p)=x:=Option.some.inj d;have h:(b,q)=y:=Option.some.inj e;rw[<- g,<- h];exact f
def zkW {c:Nat}{s:List Int}{owner:Array (Option Nat)}{k:Nat}(O:Own c s owner k):((qT c owner).map (·.2)).Perm (Xk k):=by
 have u:((qT c owner).map (·.2)).Nodup:=by
  refine Wx.mpr ((zjU c owner).imp_of_mem λ{a b} o p d e=>?_);obtain⟨f,g⟩:=a;obtain⟨h,m⟩:=b;have n:g=m:=e;subst n;have:=O.inj f h g ((Zc O.sz).mp o) ((Zc O.sz).mp p);have l:f<h:=d;lia
 refine(Wi u List.nodup_range).mpr λi=>?_;rw[W9,XY];constructor
 .rintro⟨⟨j,i'⟩,hm,rfl⟩;exact O.lt j _ ((Zc O.sz).mp hm)
 .intro q;obtain⟨j,r,_⟩:=O.at_ i q;exact⟨(j,i),(Zc O.sz).mpr r,rfl⟩
def zoq {mask:Nat}(G:mask=7\/mask=31\/mask=127)(finger moves:Nat)(led plain:Bool)(e:Array Int)(E:e.size<=mask+1):∃place f,SetTable.laid mask finger moves led plain e=some ({ mask:=mask,place:=place,dummies:=#[],finger:=finger,led:=led,moves:=moves,plain:=plain },f) /\
  Up place/\place.size=e.size/\f.size=e.size/\f.toList.Perm (Xk e.size)/\(∀i,i<place.size->place.getD i 0<mask+1) /\
  ∀i,i<place.size->Reach { mask:=mask,place:=place,dummies:=#[],finger:=finger,led:=led,moves:=moves,plain:=plain } (e.toList.getD (f.getD i 0) 0) (place.getD i 0):=by
 obtain⟨d,h1,O⟩:=zqw G e E;have perm:=zkW O;have up:=zjU mask d;have z:(qT mask d).length=e.size:=by
  have:=perm.length_eq;rw[ZB,WZ]at this;exact this
 have p:∀i (h:i<(qT mask d).length),((qT mask d).map (·.1)).toArray.getD i 0=((qT mask d)[i]).1:=λi h=>by
  simp[Tf,h]
 have H:∀i (h:i<(qT mask d).length),((qT mask d).map (·.2)).toArray.getD i 0=((qT mask d)[i]).2:=λi h=>by
  simp[Tf,h]
 refine dH ((qT mask d).map (·.1)).toArray ((qT mask d).map (·.2)).toArray ?_ (λi j s D=>?_) (by simp[z]) (by simp[z]) (dU perm (λi r=>?_) (λi r=>?_))
 .unfold SetTable.laid;rw[h1];rfl
 .have m:j<(qT mask d).length:=by simpa using D
  rw[p i "a",p j m];exact Tw.mp up i j "a" m s
 .have g:i<(qT mask d).length:=by simpa using r
  rw[p i g];have l:=TB g;have:=(Zc O.sz (j:=(qT mask d)[i].1) (i:=(qT mask d)[i].2)).mp l;rw[<- O.sz];rcases S1 (qT mask d)[i].1 d.size with q | q
  .exact q
  .rw[Ws q]at this;cases this
 .have g:i<(qT mask d).length:=by simpa using r
  rw[p i g,H i g];have l:=TB g;have v:=(Zc O.sz (j:=(qT mask d)[i].1) (i:=(qT mask d)[i].2)).mp l;refine fJ (λI a n b c=>?_) (O.at_ _ (O.lt _ _ v));have A:=O.inj _ _ _ a v;rw[A]at b;refine⟨n,b,λk hk y m=>?_⟩;obtain⟨o,u⟩:=c k hk y m;obtain⟨x,w,B⟩:=Sb ((Zc O.sz).mpr u);refine⟨x,↑w,?_⟩;show ((qT mask d).map (·.1)).toArray.getD x 0=y;rw[p x w,B]
structure Good (t:Wr)(hs:Array Int):Prop where
 mask:t.mask=7\/t.mask=31\/t.mask=127
 sz:t.place.size=hs.size
 dum:t.dummies=#[]
 up:Up t.place
 le:∀i,i<t.place.size->t.place.getD i 0<t.mask+1
 room:t.place.size*5<t.mask*3
 reach:∀i,i<t.place.size->Reach t (hs.toList.getD i 0) (t.place.getD i 0)
def Good.free {t:Wr}{s:Array Int}(G:Good t s):∃e,e<t.mask+1/\∀i,i<t.place.size->t.place.getD i 0≠e:=by
 refine RG λr=>?_;have all:∀e,e<t.mask+1->∃i,i<t.place.size/\t.place.getD i 0=e:=λe he=>RG λh2=>r ⟨e,he,λi c z=>h2 ⟨i,c,z⟩⟩;have A:=G.room;have f:∀e,e<t.mask+1->∃i,i<t.place.size/\e<=i:=λe=>by
  induction e with
  | zero=>exact λh=>let ⟨i,c,_⟩:=all 0 h;⟨i,c,W2 _⟩
  | succ e D =>
   intro h;obtain⟨i,c,o⟩:=all (e+1) h;obtain⟨B,p,j⟩:=all e "a";have cnt:∀d,d<=e+1->∃i,i<t.place.size/\t.place.getD i 0=d/\d<=i:=λd=>by
    induction d with
    | zero=>exact λ_=>let ⟨i,c,he⟩:=all 0 "a";⟨i,c,he,W2 _⟩
    | succ d g =>
     intro y;obtain⟨a,m,w,E⟩:=g "a";obtain⟨b,n,l⟩:=all (d+1) "a";have:a<b:=by
      rcases Ry a b with q | q | q
      .exact q
      .subst q;lia
      .have:=G.up b a q m;lia
     exact⟨b,n,l,"a"⟩
   obtain⟨x,u,_,v⟩:=cnt (e+1) (XW _);exact⟨x,u,v⟩
 obtain⟨i,c,H⟩:=f t.mask "a";lia
def Good.found {t:Wr}{a:Array Int}(G:Good t a)(VB:Nat->Int)(f:∀i,i<a.size->VB i=a.toList.getD i 0)(j:a.toList.Nodup){i:Nat}(c:i<a.size):∃l,t.probe VB (a.toList.getD i 0) (t.probeStart (a.toList.getD i 0))=some (.candidate (t.place.getD i 0) i l):=by
 have d:∀k (h:k<a.size),a.toList.getD k 0=a.toList[k]'(by rw[XV];exact h):=λk h=>by
  rw[Xm,XX (by rw[XV];exact h)];rfl
 refine zg6 G.up VB (by rw[G.sz];exact c) (f i c) (λg b e=>?_) (G.reach i (by rw[G.sz];exact c));rw[G.sz]at b;rw[f g b,d g b,d i c]at e;exact(List.getElem_inj j).mp e
def Good.missed {t:Wr}{b:Array Int}(G:Good t b)(VB:Nat->Int)(g:∀i,i<b.size->VB i=b.toList.getD i 0){h:Int}(m:h ∉ b.toList):∃j,t.probe VB h (t.probeStart h)=some (.empty j none)/\j<t.mask+1/\(∀i,i<t.place.size->t.place.getD i 0≠j)/\Reach t h j:=by
 obtain⟨e,he,l⟩:=G.free;have c:∀i,i<t.place.size->VB i≠h:=λi a z=>by
  rw[G.sz]at a;rw[g i a,Xm,XX (by rw[XV];exact a)]at z;have n:b.toList[i]'(by rw[XV];exact a)=h:=z;exact m (n ▸ TB _)
 refine gb (λj h1 h2 d f=>?_) (zfR G.up G.dum VB (h:=h) c l (zg8 G.mask h he));refine⟨j,h1,zfS _ _ _ _ (SC _ (SZ _)) j f,λi a z=>?_,d⟩;rw[<- z,Ym G.up a]at h2;cases h2
theorem Good.put {t:Wr}{c:Array Int}(G:Good t c){h:Int}{j:Nat}(p:j<t.mask+1)(he:∀i,i<t.place.size->t.place.getD i 0≠j)(R:Reach t h j)(e:(t.place.size+1)*5<t.mask*3):Good (t.put j).1 (Xd c (t.put j).2 h):=by
 obtain⟨o,n,U⟩:=zmi G.up G.dum he;have b:=Yl G.up j;rw[o,n];have bs:Xs t.place j<=c.size:=by rw[<- G.sz];exact b.1
 have d:∀i,(Xd c (Xs t.place j) h).toList.getD i 0=if i<Xs t.place j then c.toList.getD i 0 else if i=Xs t.place j then h else c.toList.getD (i-1) 0:=λi=>by
  rw[Xm,WY,zmh c bs];split
  .rw[Xm,WY]
  .split
   .rfl
   .rw[Xm,WY]
 have more:∀{g:Int} {l:Nat},Reach t g l->Reach { t with place:=Xd t.place (Xs t.place j) j } g l:=λm=>Reach.more (t:=t) (t':={ t with place:=Xd t.place (Xs t.place j) j }) rfl (zmj G.up j) m;refine⟨G.mask,?_,G.dum,U,λi f=>?_,?_,λi f=>?_⟩
 .show (Xd t.place _ j).size=_;rw[jT _ b.1,jT _ bs,G.sz]
 .have a:i<t.place.size+1:=by
   have:=f;rw[show ({ t with place:=Xd t.place (Xs t.place j) j }:Wr).place=Xd t.place (Xs t.place j) j from rfl,jT _ b.1]at this;exact this
  show (Xd t.place _ j).getD i 0<t.mask+1;rw[Yo _ b.1 _ _ a];split
  .exact G.le i "a"
  .split
   .exact p
   .exact G.le (i-1) "a"
 .show (Xd t.place _ j).size*5<t.mask*3;rw[jT _ b.1];exact e
 .have a:i<t.place.size+1:=by
   have:=f;rw[show ({ t with place:=Xd t.place (Xs t.place j) j }:Wr).place=Xd t.place (Xs t.place j) j from rfl,jT _ b.1]at this;exact this
  show Reach _ _ ((Xd t.place _ j).getD i 0);rw[d,Yo _ b.1 _ _ a];by_cases h1:i<Xs t.place j
  .rw[bw h1,bw h1];exact more (G.reach i "a")
  .rw[bq h1,bq h1];by_cases h2:i=Xs t.place j
   .rw[bw h2,bw h2];exact more R
   .rw[bq h2,bq h2];exact more (G.reach (i-1) "a")
def ziD (t:Wr)(b:Array Int)(q:b.size=5\/b.size=19):∃t' a,t.relaid b (Ut b.size)=some (t',a)/\a.size=b.size/\a.toList.Perm (Xk b.size)/\t'.led=t.led/\t'.plain=t.plain/\t'.place.size=b.size/\Good t' (a.map λi=>b.toList.getD i 0):=by
 have c:∀mask,(mask=7\/mask=31\/mask=127)->b.size<=mask+1->b.size*5<mask*3->Tb (Ut b.size)-1=mask->∃t' a,t.relaid b (Ut b.size)=some (t',a)/\a.size=b.size/\a.toList.Perm (Xk b.size)/\t'.led=t.led/\t'.plain=t.plain/\t'.place.size=b.size/\Good t' (a.map λi=>b.toList.getD i 0):=λmask j p r l=>by
  refine fF (λplace a h1 h2 d g=>fL λm n o=>?_) (zoq j t.finger (t.movedTo mask) t.led t.plain b p);refine dH { mask:=mask,place:=place,dummies:=#[],finger:=t.finger,led:=t.led,moves:=t.movedTo mask,plain:=t.plain } a ?_ g m rfl (dU rfl d ⟨j,?_,rfl,h2,n,?_,λi h=>?_⟩)
  .unfold SetTable.relaid;rw[l];exact h1
  .show place.size=_;rw[Vz,d,g]
  .show place.size*5<mask*3;rw[d];exact r
  .have f:i<a.size:=by
    have:i<place.size:=h;lia
   have e:(a.map λi=>b.toList.getD i 0).toList.getD i 0=b.toList.getD (a.getD i 0) 0:=by
    rw[Xm,WY,Array.getElem?_map,Zb f];rfl
   rw[e];exact o i h
 rcases q with e | e
 .exact c 31 (.inr (.inl rfl)) "a" "a" (by rw[e];decide+kernel)
 .exact c 127 (.inr (.inr rfl)) "a" "a" (by rw[e];decide+kernel)
def qq (a:Array (Int×Y1))(ep:Nat)(t:Wr):Obj:={ cls:=.type "set",dict:=none,data:=.set a ep t }
def kP (p:Int×Int):List Key:=[.inl p.1,.inl p.2]
def InB (p:Int×Int):Prop:=(0<=p.1/\p.1<8)/\(0<=p.2/\p.2<8)
def hP (prog:Xv)(w:W5)(p:Int×Int):Int:=(tk2 prog w).hash (kP p)
section
variable {prog:Xv}{w:W5}{A:WL}{E:Y1->X8->Prop}{s:X8}{a:Addr}{es:Array (Int×Y1)}{ep:Nat}{t:Wr}
def zqx {p q:Int×Int}(x:InB p)(y:InB q)(e:hP prog w p=hP prog w q):p=q:=by
 obtain⟨a,b⟩:=p;obtain⟨f,g⟩:=q;obtain⟨⟨h,m⟩,n,o⟩:=x;obtain⟨⟨r,s⟩,u,v⟩:=y;simp only at h m n o r s u v;obtain⟨i,rfl⟩:∃i:Nat,a=i:=⟨a.toNat,"a"⟩;obtain⟨j,rfl⟩:∃i:Nat,b=i:=⟨b.toNat,"a"⟩;obtain⟨k,rfl⟩:∃i:Nat,f=i:=⟨f.toNat,"a"⟩;obtain⟨l,rfl⟩:∃i:Nat,g=i:=⟨g.toNat,"a"⟩;unfold hP kP at e;rw[zbl,zbl]at e;obtain⟨c,d⟩:=zme "a" "a" "a" "a" e;rw[c,d]
def Zd {h:Heap}{x:Addr}{p:Int×Int}(h1:zC h (.ref x) p):(tk2 prog w).is h (kP p) x:=by
 obtain⟨b,o,n,t,u,e,a,c,d⟩:=h1;cases e;exact⟨o,#[.int p.1 t,.int p.2 u],n,a,c,d,.cons (zbN p.1 t) (.cons (zbN p.2 u) .nil)⟩
theorem Good.fits {a:Array Int}(G:Good t a):t.fits a.size=true:=by
 have h1:=G.sz;have h2:=G.room;unfold SetTable.fits OE;rw[G.dum,h1];simp;lia
def Good.odd {a:Array Int}(G:Good t a):t.gaveWay=false:=by
 unfold SetTable.gaveWay;rcases G.mask with e | e | e<;>rw[e]<;>rfl
def Jl {Q:Array (Int×Y1)×Nat×Wr->X8->Prop}(b:s.heap.get? a=some (qq es ep t))(G:Good t (es.map (·.1)))(q:Q (es,ep,t) s):Xh (Xn prog w) A (setState a) Q E s:=by
 refine SO b rfl ?_ q;have:=G.fits;rwa [Vz]at this
def zfT (i:Nat)(a:i<(es.map (·.1)).size):(es[i]?.map (·.1)).getD 0=(es.map (·.1)).toList.getD i 0:=by
 rw[Xm,WY,Array.getElem?_map]
def zej {n:Nat}{h:Int}{x:Y1}{Q:SetFound->X8->Prop}(g:s.heap.get? a=some (qq es ep t))(G:Good t (es.map (·.1)))(l:h ∉ (es.map (·.1)).toList)
  (d:∀j,j<t.mask+1->(∀i,i<t.place.size->t.place.getD i 0≠j)->Reach t h j->Q (.free j false) s):Xh (Xn prog w) A (Ru a x h true (n+1) none) Q E s:=by
 obtain⟨j,e,h1,h2,c⟩:=G.missed (λi=>(es[i]?.map (·.1)).getD 0) zfT l;rw[Ru];refine X9 (Jl g G ?_);dsimp only;rw[G.odd,bq XM];generalize f:t.probe _ h _=m;have b:m=some (.empty j none):=f.symm.trans e;subst b;exact XR (d j h1 h2 c)
def zeT {d:Nat}{x:Addr}{p:Int×Int}{Q:Bool->X8->Prop}(B:zC s.heap (.ref x) p)(q:Q false s):Xh (Xn prog w) A (SN 8 (.ref x)) Q E s:=by
 obtain⟨b,o,n,t,u,e,j,m,y⟩:=B;cases e;have z:s.TypeIs (.ref x) "tuple":=⟨o,j,m⟩;unfold SN;refine X9 (R4 z ?_);dsimp only;rw[bw "d"];refine X9 (XR ?_);rw[bq "d"];refine X9 (wpAny_seqItems j y ?_);dsimp only;refine X9 ?_;rw[<- Array.forIn_toList];refine Qr _ (λc r h=>r.1=none/\h=s/\∀v∈c,∃i t,v=Vs i t) _ ?_ ?_ _ _ ⟨rfl,rfl,λv l=>?_⟩
 .rintro v c r h ⟨f,rfl,a⟩;obtain⟨i,t,rfl⟩:=a v XT;rw[show SN 7 (Vs i t)=pure false by unfold SN;rfl];refine X9 (XR ?_);rw[bq XM];exact XR ⟨rfl,rfl,λu g=>a u (XQ _ g)⟩
 .rintro⟨r1,r2⟩ h ⟨f,rfl,_⟩;simp only at f;subst f;exact XR q
 .simp at l;rcases l with rfl | rfl
  .exact⟨_,_,rfl⟩
  .exact⟨_,_,rfl⟩
def zmk {x:Addr}{p:Int×Int}{l:List Y1}{Q:Bool->X8->Prop}(i:zC s.heap (.ref x) p)(j:∀v∈l,∃b q,v=.ref b/\zC s.heap (.ref b) q)(q:Q false s):Xh (Xn prog w) A (searchCouldBeSeen (.ref x) l) Q E s:=by
 unfold searchCouldBeSeen;refine X9 ?_;refine Qr _ (λc r g=>r.1=none/\g=s/\∀v∈c,∃b q,v=.ref b/\zC s.heap (.ref b) q) _ ?_ ?_ _ _ ⟨rfl,rfl,j⟩
 .rintro v c r g ⟨f,rfl,a⟩;refine fK (λb m z0 h=>?_) (a v XT);subst z0;dsimp only;split
  .exact XR ⟨rfl,rfl,λu e=>a u (XQ _ e)⟩
  .refine X9 ((tk2 prog w).quiet (Zd i) ?_);rw[bq "d"];refine X9 ((tk2 prog w).quiet (Zd h) ?_);rw[bq "d"];refine X9 (zeT (d:=0) i ?_);rw[bq XM];refine X9 (zeT (d:=0) h ?_);rw[bq XM];exact XR ⟨rfl,rfl,λu e=>a u (XQ _ e)⟩
 .rintro⟨r1,r2⟩ g ⟨f,rfl,_⟩;simp only at f;subst f;exact XR q
def zml {x:Addr}{p:Int×Int}{Q:Bool->X8->Prop}(z:zC s.heap (.ref x) p)(q:Q true s):Xh (Xn prog w) A (Pd 8 (.ref x)) Q E s:=by
 obtain⟨b,o,n,t,u,e,h,l,m⟩:=z;cases e;have y:s.TypeIs (.ref x) "tuple":=⟨o,h,l⟩;unfold Pd;refine X9 (Pu y PySem.F.slot_tuple_hash.lookup ?_);dsimp only;refine X9 (wpAny_seqItems h m ?_);dsimp only[Option.getD];refine X9 ?_;rw[<- Array.forIn_toList];refine Qr _ (λc r g=>r.1=none/\g=s/\∀v∈c,∃i t,v=Vs i t) _ ?_ ?_ _ _ ⟨rfl,rfl,λv j=>?_⟩
 .rintro v c r g ⟨d,rfl,a⟩;obtain⟨i,t,rfl⟩:=a v XT;rw[show Pd 7 (Vs i t)=pure true by unfold Pd;rfl];refine X9 (XR ?_);rw[bq "d"];exact XR ⟨rfl,rfl,λu f=>a u (XQ _ f)⟩
 .rintro⟨r1,r2⟩ g ⟨d,rfl,_⟩;simp only at d;subst d;exact XR q
 .simp at j;rcases j with rfl | rfl
  .exact⟨_,_,rfl⟩
  .exact⟨_,_,rfl⟩
def zfU {n:Nat}{h:Int}{x b:Addr}{p:Int×Int}{i:Nat}{Q:SetFound->X8->Prop}(o:A.units<VD)(f:s.heap.get? a=some (qq es ep t))(G:Good t (es.map (·.1)))(B:(es.map (·.1)).toList.Nodup)
  (all:∀e∈es.toList,∃b q,e.2=WF b/\zC s.heap (.ref b) q) (d:es[i]?=some (h,.ref b)) (g:zC s.heap (.ref x) p) (l:zC s.heap (.ref b) p)
  (j:Q (.there none) s):Xh (Xn prog w) A (Ru a (.ref x) h true (n+1) none) Q E s:=by
 have c:i<(es.map (·.1)).size:=by
  rw[Vz];exact(TF.mp d).1
 have r:(es.map (·.1)).toList.getD i 0=h:=by
  rw[<- zfT i c,d];rfl
 obtain⟨D,e⟩:=G.found (λi=>(es[i]?.map (·.1)).getD 0) zfT B c;rw[r]at e;rw[Ru];refine X9 (Jl f G ?_);dsimp only;rw[G.odd,bq XM];generalize y:t.probe _ h _=m;have u:m=some (.candidate (t.place.getD i 0) i D):=y.symm.trans e;subst u;dsimp only;have seen:∀v∈(es.filter (·.1==h)).toList.map (·.2),∃b q,v=WF b/\zC s.heap (.ref b) q:=λv z=>by
  obtain⟨e,he,rfl⟩:=XY.mp z;rw[Array.toList_filter]at he;exact all e (XZ.mp he).1
 rw[d];cases hl:t.led with
 | true =>
  rw[bq "d"];refine X9 (We ((tk2 prog w).eqBool o (Zd l) (Zd g) ?_));refine X9 (Jl f G ?_);dsimp only;rw[br rfl,bw "d"];exact XR j
 | false =>
  rw[bw "d"];refine X9 (zmk g seen ?_);rw[bq XM];refine X9 (We ((tk2 prog w).eqBool o (Zd l) (Zd g) ?_));refine X9 (Jl f G ?_);dsimp only;rw[br rfl,bw "d"];exact XR j
end
def zdg (f:Int×Int->Int)(q:Addr×(Int×Int)):Int×Y1:=(f q.2,WF q.1)
structure zek (f:Int×Int->Int)(led:Bool)(h:Heap)(a:Addr)(ks:List (Addr×(Int×Int))):Prop where
 ex:∃es ep t,h.get? a=some (qq es ep t)/\es.toList=ks.map (zdg f)/\Good t (es.map (·.1))/\t.led=led/\t.plain=true
 nd:(ks.map (·.2)).Nodup
 cells:∀q∈ks,zC h (.ref q.1) q.2
 inb:∀q∈ks,InB q.2
def zC.up {h h':Heap}{x:Addr}{p:Int×Int}(H:zC h (.ref x) p){a:Addr}(j:VL a h h'){o:Obj}(i:h.get? a=some o)(g:o.cls=.type "set"):zC h' (.ref x) p:=by
 obtain⟨b,l,n,t,u,e,c,d,f⟩:=H;cases e;refine⟨x,l,n,t,u,rfl,?_,d,f⟩;rw[j.2 x λz=>?_]
 .exact c
 .subst z;rw[i]at c;cases c;rw[g]at d;exact absurd d "d"
section
variable {prog:Xv}{w:W5}{A:WL}{E:Y1->X8->Prop}{s:X8}{a:Addr}{es:Array (Int×Y1)}{ep:Nat}{t:Wr}{ks:List (Addr×(Int×Int))}{f:Int×Int->Int}{led:Bool}
def Y5 (he:es.toList=ks.map (zdg f)):(es.map (·.1)).toList=ks.map λq=>f q.2:=by
 rw[UX,he,Wz];rfl
def zkX (inj:∀p q,InB p->InB q->f p=f q->p=q)(b:(ks.map (·.2)).Nodup)(a:∀q∈ks,InB q.2):(ks.map λq=>f q.2).Nodup:=by
 rw[Te,Wx]at b ⊢;refine b.imp_of_mem λ{x y} c d h e=>h (inj _ _ (a x c) (a y d) e)
def zha {b:Array (Int×Y1)}{t':Wr}{Q:Unit->X8->Prop}(c:s.heap.get? a=some (qq es ep t))(d:b.size<=64)
  (q:∀h',VL a s.heap h'->h'.get? a=some (qq b (ep+1) t')->Q () { s with heap:=h' }):Xh (Xn prog w) A (storeSet a b t') Q E s:=by
 refine wpAny_storeSet_of (o:=qq es ep t) c rfl (q _ (UA ..) ?_) (X7 d (by rw[Um];decide));have:=VN (Obj.putSet b t') c (by rw[putSet_of b t' (o:=qq es ep t) rfl];rfl);rw[putSet_of b t' (o:=qq es ep t) rfl]at this;exact this
theorem zhb {α:Type}(d:α)(xs:Array α):∀(l:List Nat),(∀i∈l,i<xs.size)->l.filterMap (λi=>xs[i]?)=l.map λi=>xs.toList.getD i d
 | [],_=>rfl
 | i::l,h=>by
  have a:=h i XT;rw[U4,Xe,Vl a];dsimp only;rw[zhb d xs l λj b=>h j (XQ _ b)];congr 1;rw[Xm,WY,Vl a];rfl
def zfV {n:Nat}(a:n=5\/n=19):¬ Tb (Ut n)>Xy:=by
 rw[Um];rcases a with rfl | rfl
 .rw[show Tb (Ut 5)=32 by decide+kernel];lia
 .rw[show Tb (Ut 19)=128 by decide+kernel];lia
def zmm {Q:Unit->X8->Prop}(x:s.heap.get? a=some (qq es ep t))(H:t.fits es.size=true)(v:es.size=5\/es.size=19)(he:es.toList=ks.map (zdg f))
  (q:∀(h':Heap) (c:Array (Int×Y1)) (t':Wr) (l:List (Addr×(Int×Int))),VL a s.heap h'->h'.get? a=some (qq c (ep+1) t')->c.toList=l.map (zdg f)->l.Perm ks->Good t' (c.map (·.1))->t'.led=t.led->t'.plain=t.plain->Q () { s with heap:=h' }):Xh (Xn prog w) A (setRelay a (Ut es.size)) Q E s:=by
 have j:(es.map (·.1)).size=es.size:=Vz ..;refine fF (λt' b r u m y=>fL λz B D=>?_) (ziD t (es.map (·.1)) (by rw[j];exact v));rw[j]at r u m B;have d:∀i∈b.toList,i<es.size:=λi h=>W9.mp (m.mem_iff.mp h);have p:ks.length=es.size:=by
  rw[<- XV,he,ZB]
 have e:Addr×(Int×Int):=(0,(0,0));have n:(b.filterMap (es[·]?)).toList=(b.toList.map λi=>ks.getD i e).map (zdg f):=by
  rw[Array.toList_filterMap,zhb (zdg f e) es b.toList d,Wz];refine Xo λi h=>?_;have h1:=d i h;show es.toList.getD i _=zdg f (ks.getD i e);rw[he,Xm,Xl,Xm,XX "a",T5,TC,TC]
 have g:(b.filterMap (es[·]?)).size=es.size:=by
  rw[<- XV,n,ZB,ZB,XV,u]
 unfold setRelay;refine X9 (SO (o:=qq es ep t) x rfl H ?_);dsimp only;rw[bq (zfV v),r];refine X9 ?_;show Xh (Xn prog w) A (do
  let c:=b.filterMap (es[·]?)
  if c.size != es.size then unsupported "internal:set-table-lost-an-element"
  pure (c,t')) _ _ _
 dsimp only;rw[g,bq "s"];refine XR ?_;dsimp only;refine zha x (by rw[g];lia) λh' h1 h2=>q h' _ t' _ h1 h2 n ?_ ?_ y z
 .have:=m.map λi=>ks.getD i e;rw[<- p,ziw]at this;exact this
 .have G:(b.filterMap (es[·]?)).map (·.1)=b.map λi=>(es.map (·.1)).toList.getD i 0:=by
   apply Qb.mp;rw[Y5 n,UX,Wz];refine Xo λi h=>?_;have h1:=d i h;show f (ks.getD i e).2=_;rw[Y5 he,Xm,Xm,Xl,XX "a",T5,TC,TC]
  rw[G];exact D
def zmn {n:Nat}{x:Addr}{p:Int×Int}{Q:Bool->X8->Prop}(inj:∀p q,InB p->InB q->f p=f q->p=q)(hu:A.units<VD)(S:zek f led s.heap a ks)(hx:zC s.heap (.ref x) p)(hb:InB p)(hn:p ∉ ks.map (·.2)->ks.length<64)
  (q:∀(b:Bool) (h':Heap) (d:List (Addr×(Int×Int))),VL a s.heap h'->zek f led h' a d->(∀c,c∈d.map (·.2)↔c∈ks.map (·.2)\/c=p)->(∀c∈d,c∈ks\/c=(x,p))->Q b { s with heap:=h' }) :
  Xh (Xn prog w) A (setAddHashedIn a (.ref x) (f p) (n+1)) Q E s:=by
 obtain⟨⟨es,ep,t,J,he,G,hl,hp⟩,nd,hc,I⟩:=S;have aj:ks.length=es.size:=by
  rw[<- XV,he,ZB]
 generalize hh:f p=h;rw[setAddHashedIn];refine X9 (Jl J G ?_);dsimp only;rw[show byScan (.ref x) es=false by simp[byScan,Value.scannable],bq XM];by_cases hm:p∈ks.map (·.2)
 .obtain⟨⟨b,p'⟩,hk,e⟩:=XY.mp hm;simp only at e;subst e;obtain⟨i,hi,ei⟩:=Sb hk;have eg:es[i]?=some (h,.ref b):=by
   rw[<- WY,he,Xl,XX hi,ei,<- hh];rfl
  unfold setSearch;refine X9 (zfU (n:=99999) hu J G (by rw[Y5 he];exact zkX inj nd I) (λe ac=>?_) eg hx (hc _ hk) ?_)
  .rw[he]at ac;obtain⟨c,h1,rfl⟩:=XY.mp ac;exact⟨c.1,c.2,rfl,hc c h1⟩
  .refine XR (q false s.heap ks (Heap.SameBut.refl _ _) ⟨⟨es,ep,t,J,he,G,hl,hp⟩,nd,hc,I⟩ (λc=>⟨.inl,λz=>z.elim id λz=>z ▸ hm⟩) λc h1=>.inl h1)
 .have ah:=hn hm;have no:h ∉ (es.map (·.1)).toList:=λz=>by
   rw[Y5 he,<- hh]at z;obtain⟨c,h1,h2⟩:=XY.mp z;exact hm (XY.mpr ⟨c,h1,inj _ _ (I c h1) hb h2⟩)
  unfold setSearch;refine X9 (zej (n:=99999) J G no λj h1 h2 h3=>?_);dsimp only;refine X9 (Jl J G ?_);obtain⟨f1,f2,f3⟩:=zmi G.up G.dum h2;have g:t.place.size=es.size:=by rw[G.sz,Vz]
  have bs:Xs t.place j<=es.size:=by
   rw[<- g];exact(Yl G.up j).1
  generalize ai:Xs t.place j=pos at f1 f2 f3 bs;have r:(t.put j).1.plain=true:=by rw[f2];exact hp
  have D:(t.put j).1.led=led:=by rw[f2];exact hl
  have H:∃B,B=ks.take pos++(x,p)::ks.drop pos:=⟨_,rfl⟩;obtain⟨B,H⟩:=H;have ab:(Xd es pos (h,WF x)).toList=B.map (zdg f):=by
   rw[QH,he,H,XS,Xe,TY,Rt];simp only[zdg,hh]
  have o:(Xd es pos (h,WF x)).size=es.size+1:=jT _ bs _;have pm:B.Perm ((x,p)::ks):=by
   rw[H];refine List.perm_middle.trans (List.Perm.cons _ ?_);rw[WR]
  have m:(t.put j).1.fits (Xd es pos (h,WF x)).size=true:=by
   have hr:=G.room;have bp:pos<=t.place.size:=by rw[g];exact bs
   rw[o,f2];unfold SetTable.fits OE;simp only[G.dum,jT _ bp,g];rcases G.mask with e | e | e<;>simp[e]<;>rw[g,e]at hr<;>lia
  have aa:∀(h':Heap) (d:List (Addr×(Int×Int))) (l:Array (Int×Y1)) (M:Nat) (L:Wr),VL a s.heap h'->h'.get? a=some (qq l M L)->l.toList=d.map (zdg f)->d.Perm ((x,p)::ks)->Good L (l.map (·.1))->L.led=led->L.plain=true->Q true { s with heap:=h' }:=by
   intro h' d l M L hs hg N v hG O Y;have mem:∀c,c∈d↔c=(x,p)\/c∈ks:=λc=>by rw[v.mem_iff,XF]
   refine q true h' d hs ⟨⟨l,M,L,hg,N,hG,O,Y⟩,?_,λc u=>?_,λc u=>?_⟩ (λc=>?_) λc u=>(mem c).mp u |>.symm
   .rw[(v.map (·.2)).nodup_iff,Xe,Vp];exact⟨hm,nd⟩
   .rcases(mem c).mp u with rfl | z
    .exact zC.up hx hs J rfl
    .exact zC.up (hc c z) hs J rfl
   .rcases(mem c).mp u with rfl | z
    .exact hb
    .exact I c z
   .rw[(v.map (·.2)).mem_iff,Xe,XF];exact Or.comm
  have eT:t.put j=((t.put j).1,pos):=by rw[<- f1]
  have fl:(t.put j).1.tooFull=decide ((es.size+1)*5 >= t.mask*3):=by
   have bp:pos<=t.place.size:=by rw[g];exact bs
   rw[f2];unfold SetTable.tooFull OE;simp only[G.dum,jT _ bp,g];rfl
  have gd:¬ (es.size+1)*5 >= t.mask*3->Good (t.put j).1 ((Xd es pos (h,WF x)).map (·.1)):=λhr=>by
   have:=G.put (h:=h) h1 h2 h3 (by rw[g];lia);rw[f1]at this;have e:(Xd es pos (h,WF x)).map (·.1)=Xd (es.map (·.1)) pos h:=by
    apply Qb.mp;rw[UX,QH,QH,UX,XS,Xe,TY,Rt]
   rw[e];exact this
  have y:=G.room;have U:=G.mask;rw[g]at y;dsimp only;rw[eT];dsimp only;generalize t.put j=T at r D m fl gd;obtain⟨t1,p1⟩:=T;dsimp only at r D m fl gd ⊢;rw[r,bw rfl];refine X9 (zml hx ?_);rw[bw rfl];refine X9 (zha J (by rw[o];lia) λh' hs hg=>?_);by_cases full:(es.size+1)*5 >= t.mask*3
  .rw[fl,br full,bw "d"];rw[<- o];refine X9 (zmm (s:={ s with heap:=h' }) hg m (by rw[o];rcases U with e | e | e<;>rw[e]at full y<;>lia) ab λae l L d ag af N v hG O Y=>?_);exact XR (aa ae d l _ L (hs.trans ag) af N (v.trans pm) hG (O.trans D) (Y.trans r))
  .rw[fl,bg full,bq "d"];exact XR (aa h' B _ _ t1 hs hg ab pm (gd full) D r)
def zmo {x:Addr}{p:Int×Int}{Q:Bool->X8->Prop}(e:A.units<VD)(S:zek (hP prog w) led s.heap a ks)(f:zC s.heap (.ref x) p)(h:InB p)(i:p ∉ ks.map (·.2)->ks.length<64)
  (q:∀(b:Bool) (h':Heap) (d:List (Addr×(Int×Int))),VL a s.heap h'->zek (hP prog w) led h' a d->(∀c,c∈d.map (·.2)↔c∈ks.map (·.2)\/c=p)->(∀c∈d,c∈ks\/c=(x,p))->Q b { s with heap:=h',toks:=s.toks+3 }) :
  Xh (Xn prog w) A (setAdd a (.ref x)) Q E s:=by
 unfold setAdd;refine We (X9 ((tk2 prog w).pyHash e (Zd f) ?_));show Xh (Xn prog w) A (setAddHashed a (.ref x) (hP prog w p)) Q E { s with toks:=s.toks+3 };unfold setAddHashed;refine We ?_;exact zmn (n:=99999) (s:={ s with toks:=s.toks+3 }) (λp q h1 h2 g=>zqx h1 h2 g) e S f h i q
end
theorem zjV {α:Type}(next:Nat->Nat):∀(fuel k:Nat) (left:List α) (a:Array α),left.length=fuel->(pickOrder.go next fuel k left a).toList.Perm (a.toList++left)
 | 0,k,left,a,h=>by
  rw[VF.mp h,Xc];exact List.Perm.refl _
 | fuel+1,k,left,a,h=>by
  have b:next k%left.length<left.length:=SC _ "a"
  rw[pickOrder.go,XX b];dsimp only;refine(zjV next fuel (k+1) _ _ (by rw[List.length_eraseIdx_of_lt b];lia)).trans ?_;rw[Array.toList_push,WP];refine List.Perm.append_left _ ?_;have e:left=left.take (next k%left.length)++left[next k%left.length]::left.drop (next k%left.length+1):=by
   rw[<- Wg b,WR]
  rw[List.eraseIdx_eq_take_drop_succ];have c:=@List.perm_middle _ left[next k%left.length] (left.take (next k%left.length)) (left.drop (next k%left.length+1));rw[<- e]at c;exact c.symm
def zkY {α:Type}(next:Nat->Nat)(xs:Array α):(Re next xs).toList.Perm xs.toList:=by
 have h:=zjV next xs.size 0 xs.toList #[] "s"
 rw[show (#[]:Array α).toList++xs.toList=xs.toList from rfl]at h;exact h
def yK:Slot "set_iterator" "__next__" "set_iterator.__next__" :=
 .of (owner:="set_iterator") (n:="__next__") (by rw[Se,TX];kernel_rfl) "q" "q" "q" (.inl "q") (by rw[Pa];kernel_rfl)
def zbn:NZ table "set_iterator.__next__"=some UO.«set_iterator.__next__»:=entryFor_of_tree (by kernel_rfl)
def zdh:Manifest.owners.lookup (String.ofList ['r','o','t','a','r','e','t','i','_','t','e','s'].reverse)=some Manifest.sig_set_iterator:=by kernel_rfl
def zch (a:Y1):argsOk "set_iterator.__next__" ⟨[a],[]⟩:=by
 unfold argsOk;rw[signature?_of (id:="set_iterator.__next__") (n:=['_','_','t','x','e','n','_','_']) (o:=['r','o','t','a','r','e','t','i','_','t','e','s']) (by kernel_rfl) zdh];kernel_rfl
def zfW:NZ table "set.__iter__"=some UO.«frozenset.__iter__»:=entryFor_alias (id':="frozenset.__iter__") (by kernel_rfl) rfl "q" (by kernel_rfl)
def zdi (b i:Nat)(a:Addr)(n ep:Nat):Obj:={ cls:=.type "set_iterator",data:=.fields #[Uw b,Uw i,.ref a,Uw n,Uw ep] }
def slotAt (a:Bool)(t:Wr)(i:Nat):Nat:=if a then 0 else if i=0 then 0 else t.place.getD (i-1) 0+1
def Yp (w:W5)(a:Addr)(ep:Nat)(b:Array (Int×Y1)):Array (Int×Y1):=if w.params.followText "set-order" then Re (w.params.setOrder a ep) b else b
def zbo (w:W5)(a:Addr)(ep:Nat)(b:Array (Int×Y1)):(Yp w a ep b).toList.Perm b.toList:=by
 unfold Yp;split
 .exact zkY _ _
 .exact List.Perm.refl _
section
variable {prog:Xv}{w:W5}{A:WL}{E:Y1->X8->Prop}{s:X8}{a:Addr}{es:Array (Int×Y1)}{ep:Nat}{t:Wr}
def zfX {Q:Bool->X8->Prop}(q:Q (w.params.followText "set-order") s):Xh (Xn prog w) A setsByText Q E s:=by
 unfold setsByText;exact X9 (P9 (XR q))
def below_at {t:Wr}(U:Up t.place){i:Nat}(d:i<=t.place.size):Xs t.place (slotAt false t i)=i:=by
 obtain⟨c,a,b⟩:=Yl U (slotAt false t i);unfold slotAt at *
 simp only[V5,if_false]at *
 by_cases h0:i=0
 .subst h0;rw[bw rfl]at *
  rcases Nat.eq_zero_or_pos (Xs t.place 0) with e | e
  .exact e
  .have:=a 0 e;lia
 .rw[bq h0]at *
  rcases Ry (Xs t.place (t.place.getD (i-1) 0+1)) i with e | e | e
  .have:=b (i-1) "a" "a";lia
  .exact e
  .have h1:=a i e;have h2:=U (i-1) i "a" "a";lia
def zjW {i:Nat}{Q:Option (Y1×Nat)->X8->Prop}(g:s.heap.get? a=some (qq es ep t))(G:Good t (es.map (·.1)))(f:t.led=!w.params.followText "set-order")(m:t.plain=true)(o:i<=es.size)
  (b:∀v,(Yp w a ep es)[i]?.map (·.2)=some v->Q (some (v,slotAt (w.params.followText "set-order") t (i+1))) s) (j:i=es.size->Q none s) :
  Xh (Xn prog w) A (setNext a (slotAt (w.params.followText "set-order") t i) i ep) Q E s:=by
 have n:t.place.size=es.size:=by rw[G.sz,Vz]
 have d:(Yp w a ep es).size=es.size:=by
  rw[<- XV,(zbo w a ep es).length_eq,XV]
 unfold setNext;refine X9 (Jl g G ?_);dsimp only;refine X9 (zfX ?_);cases hb:w.params.followText "set-order" with
 | true =>
  rw[bw rfl];rw[hb]at b;rw[bq "s"];unfold setWalk;refine X9 (X9 (Jl g G ?_));dsimp only;refine X9 (zfX ?_);rw[hb,bw rfl];refine X9 (P9 (XR (XR ?_)));have c:Yp w a ep es=Re (w.params.setOrder a ep) es:=by
   unfold Yp;rw[hb,bw rfl]
  rw[c]at b d;show Q (RW _ (Re (w.params.setOrder a ep) es)[i]?) s;by_cases h:i<es.size
  .have e:(Re (w.params.setOrder a ep) es)[i]?=some (Re (w.params.setOrder a ep) es)[i]:=Vl "a";rw[e]at b ⊢;exact b _ rfl
  .rw[Ws "a"];exact j "a"
 | false =>
  rw[bq XM];rw[hb]at b f;have c:Yp w a ep es=es:=by
   unfold Yp;rw[hb,bq XM]
  rw[c]at b;split
  .rename_i h;exact absurd h (by show ¬ ((!t.plain&&decide (es.size>1))=true);rw[m];exact XM)
  refine X9 ?_;show Xh _ _ (if (!t.led && !es.isEmpty)=true then unsupported "set:maker-not-led" else pure ()) _ _ _;rw[f,bq "s"];refine XR ?_;rw[below_at G.up "a"];by_cases h:i<es.size
  .have e:es[i]?=some es[i]:=Vl h;have l:t.place[i]?=some (t.place.getD i 0):=Zb "a";rw[e]at b ⊢;rw[l];refine XR (b _ rfl)
  .rw[Ws "a"];exact XR (j "a")
end
def zeU:Slot "set_iterator" "__iter__" "set_iterator.__iter__" :=
 .of (owner:="set_iterator") (n:="__iter__") (by rw[Se,TX];kernel_rfl) "q" "q" "q" (.inl "q") (by rw[Pa];kernel_rfl)
def ziE:NZ table "set_iterator.__iter__"=some UO.«dict_keyiterator.__iter__»:=entryFor_alias (id':="dict_keyiterator.__iter__") (by kernel_rfl) rfl "q" (by kernel_rfl)
def zkZ (a:Y1):argsOk "set_iterator.__iter__" ⟨[a],[]⟩:=by
 unfold argsOk;rw[signature?_of (id:="set_iterator.__iter__") (n:=['_','_','r','e','t','i','_','_']) (o:=['r','o','t','a','r','e','t','i','_','t','e','s']) (by kernel_rfl) zdh];kernel_rfl
section
variable {prog:Xv}{w:W5}{A:WL}{E:Y1->X8->Prop}{s:X8}{a I:Addr}{es:Array (Int×Y1)}{ep:Nat}{t:Wr}
def ziF {b i a n ep:Nat}(x y:Nat):Sv (·.setIfInBounds 1 (Uw y)) (Sv (·.setIfInBounds 0 (Uw x)) (zdi b i a n ep))=zdi x y a n ep:=rfl
def zor {i:Nat}{Q:Option Y1->X8->Prop}(b:s.heap.get? I=some (zdi (slotAt (w.params.followText "set-order") t i) i a es.size ep))(d:s.heap.get? a=some (qq es ep t))(G:Good t (es.map (·.1)))(f:t.led=!w.params.followText "set-order")(g:t.plain=true)(e:i<es.size)
  (q:∀v h',(Yp w a ep es)[i]?.map (·.2)=some v->h'.get? I=some (zdi (slotAt (w.params.followText "set-order") t (i+1)) (i+1) a es.size ep)->VL I s.heap h'->Q (some v) { s with heap:=h' }) :
  Xh (Xn prog w) A (SF (.ref I)) Q E s:=by
 have c:s.TypeIs (.ref I) "set_iterator":=⟨_,b,rfl⟩;unfold SF;refine X9 (Rv (P5 (name:=Str.ofString "__next__") c yK (Us yK c zbn ?_ (zch _))));unfold UO.«set_iterator.__next__»;refine X9 (XR ?_);refine X9 (wpAny_fieldsOf b rfl ?_);dsimp only[Uw];refine X9 (Sa (o:=qq es ep t) d rfl ?_ ?_)
 .have:=G.fits;rwa [Vz]at this
 rw[bq "s"];show Xh _ _ (setNext a (slotAt (w.params.followText "set-order") t i) i ep >>= _) _ _ _;refine X9 (zjW d G f g (VA e) (λv h=>?_) λz=>absurd z "a");dsimp only;refine X9 (O9 b rfl (by simp[zdi]) ?_);have h1:=VN (Sv (·.setIfInBounds 0 (Uw ((slotAt (w.params.followText "set-order") t (i+1):Nat):Int)))) b rfl;refine X9 (O9 h1 rfl (by simp[zdi,Sv]) ?_);have h2:=VN (Sv (·.setIfInBounds 1 (Uw ((i:Int)+1)))) h1 rfl;refine XR ⟨_,rfl,XR (q v _ h ?_ ((UA ..).trans (UA ..)))⟩;rw[show ((i:Int)+1)=((i+1:Nat):Int) by lia]at h2 ⊢;rw[ziF]at h2;exact h2
def zqy {Q:Option Y1->X8->Prop}(g:A.handled=none)(c:s.heap.get? I=some (zdi (slotAt (w.params.followText "set-order") t es.size) es.size a es.size ep))(e:s.heap.get? a=some (qq es ep t))(G:Good t (es.map (·.1)))(h:t.led=!w.params.followText "set-order")(j:t.plain=true)
  (q:∀h',Heap.ExtBut I s.heap h'->Q none { s with heap:=h' }):Xh (Xn prog w) A (SF (.ref I)) Q E s:=by
 have d:s.TypeIs (.ref I) "set_iterator":=⟨_,c,rfl⟩;unfold SF;refine X9 (Rv (P5 (name:=Str.ofString "__next__") d yK (Us yK d zbn ?_ (zch _))));unfold UO.«set_iterator.__next__»;refine X9 (XR ?_);refine X9 (wpAny_fieldsOf c rfl ?_);dsimp only[Uw];refine X9 (Sa (o:=qq es ep t) e rfl ?_ ?_)
 .have:=G.fits;rwa [Vz]at this
 rw[bq "s"];show Xh _ _ (setNext a (slotAt (w.params.followText "set-order") t es.size) es.size ep >>= _) _ _ _;refine X9 (zjW e G h j (XW _) (λv f=>?_) λ_=>?_)
 .have i:(Yp w a ep es).size=es.size:=by
   rw[<- XV,(zbo w a ep es).length_eq,XV]
  rw[Ws "a"]at f;cases f
 dsimp only;refine X9 (O9 c rfl (by simp[zdi]) ?_);refine X9 ?_;simp only[newExc,newTuple];refine X9 (Vy ?_ (by size_fits));refine X9 (m:=RU _ _) (N8 (a:=UD) (by first | rfl | (simp only[RU];rfl)) ?_);refine Vy ?_ (by size_fits);simp only[raiseNew];refine X9 (wpAny_handled ?_);rw[show A.in1.handled=none from g];refine X9 (XR (wpAny_throw ?_));refine X9 (wpAny_isInstance (T:="StopIteration") (b:=true) ⟨_,Xf _ rfl,rfl⟩ isSubtype_stop ?_);exact XR (q _ (((UA ..).extBut.push _).push _))
def zos {b i n:Nat}{Q:Y1->X8->Prop}(d:s.heap.get? I=some (zdi b i a n ep))(q:Q (.ref I) s):Xh (Xn prog w) A (pyIter (.ref I)) Q E s:=by
 have c:s.TypeIs (.ref I) "set_iterator":=⟨_,d,rfl⟩;refine wpAny_pyIter_slot c zeU (Us zeU c ziE ?_ (zkZ _));exact XR ⟨_,rfl,"set_iterator",_,c,yK.lookup,q⟩
def walks (hh:A.handled=none)(hne:a≠I)(G:Good t (es.map (·.1)))(hl:t.led=!w.params.followText "set-order")(hp:t.plain=true) :
  Walks prog w A I [I,a] [I] es.size (λi v=>(Yp w a ep es)[i]?.map (·.2)=some v) (λi h=>h.get? I=some (zdi (slotAt (w.params.followText "set-order") t i) i a es.size ep)/\h.get? a=some (qq es ep t)) where
 sub:=λb hb=>by simp at hb;simp[hb]
 frame:=λ_ _ _ st hk=>⟨hk I "s" _ st.1,hk a "s" _ st.2⟩
 item:=λi s Q E hi st hQ=>zor st.1 st.2 G hl hp hi λv h' hv h1 hs=>hQ v h' s.toks hv ⟨h1,(hs.2 a hne).trans st.2⟩ λb o hb e=>(hs.2 b λz=>hb (by simp[z])).trans e
 done:=λs Q E st hQ=>zqy hh st.1 st.2 G hl hp λh' he=>hQ h' s.toks λb o hb e=>he b o (λz=>hb (by simp[z])) e
 self:=λ_ _ _ _ st hQ=>zos st.1 hQ
def zhc:splitId "set.__len__"=some ("set","__len__"):="q"
def zhd {Q:List Y1->X8->Prop}(hh:A.handled=none)(ho:s.heap.get? a=some (qq es ep t))(G:Good t (es.map (·.1)))(hl:t.led=!w.params.followText "set-order")(hp:t.plain=true)(hn:es.size<=64)
  (q:∀vs h' tk,vs.Perm (es.toList.map (·.2))->(∀b o,s.heap.get? b=some o->h'.get? b=some o)->s.heap.objs.size<=h'.objs.size->Q vs { s with heap:=h',toks:=tk }):Xh (Xn prog w) A (collect (.ref a)) Q E s:=by
 have g:a<s.heap.objs.size:=XE ho;unfold collect;refine X9 (wpAny_runValue (V8 PySem.F.entry_proto_collect ?_));rw[Wn PySem.F.plain_proto_collect _];show Xh _ A.in1 (newList [] >>= λl=>Ob (.builtin "list.__iadd__" ⟨[l,.ref a],[]⟩)) _ _ s;refine X9 (Vy ?_);refine XR ⟨Vf P4 _,V8 PySem.F.entry_list_iadd ?_⟩;rw[Wn P4 _];show Xh _ A.in1 (RY (.ref s.heap.objs.size) (.ref a) (.ref s.heap.objs.size)) _ _ _;generalize B:(s.heap.push { cls:=.type "list",data:=.seq ([]:List Y1).toArray })=h1;have f:h1.get? a=some (qq es ep t):=by rw[<- B];exact X6 _ ho
 have J:h1.get? s.heap.objs.size=some { cls:=.type "list",data:=.seq #[] }:=by rw[<- B];exact Xf _ rfl
 have aa:∀b o,s.heap.get? b=some o->h1.get? b=some o:=λb o e=>by rw[<- B];exact X6 _ e
 have H:h1.objs.size=s.heap.objs.size+1:=by rw[<- B];exact UT ..
 have M:To { s with heap:=h1 } (.ref a) "set":=⟨_,f,rfl⟩;have I:Rj (.ref s.heap.objs.size) (.ref a)=false:=by
  simp[Rj];exact Vg g
 unfold RY;refine X9 (R4 M ?_);rw[bq (by rw[I];decide)];have O:t.fits es.size=true:=by
  have:=G.fits;rwa [Vz]at this
 refine X9 (wpAny_pyIter_slot M Pn (Us Pn M zfW ?_ (PySem.F.args_set_iter_1 _)));unfold UO.«frozenset.__iter__» Builtin.Frozenset.slot0 slotArgs;simp only[List.isEmpty_nil,Bool.not_true,V5,↓reduceIte,bind_assoc,UJ,bne_self_eq_false];unfold Builtin.Frozenset.addrOf Builtin.Frozenset.sizeOf;refine X9 (XR ?_);dsimp only;refine X9 (XR ?_);refine X9 (X9 (Sa (s:={ s with heap:=h1 }) (o:=qq es ep t) f rfl O (XR ?_)));unfold setDrawn;refine X9 (X9 (SO (s:={ s with heap:=h1 }) (o:=qq es ep t) f rfl O ?_));dsimp only;refine X9 (zfX (XR ?_));split
 .rename_i h;exact absurd h (by show ¬ ((!w.params.followText "set-order" && (!t.plain&&decide (es.size>1)))=true);rw[hp];simp)
 refine X9 (XR ?_);unfold setEpoch;refine X9 (X9 (SO (s:={ s with heap:=h1 }) (o:=qq es ep t) f rfl O (XR ?_)));unfold newFields;refine X9 (Vy ?_);generalize y:h1.push { cls:=.type "set_iterator",data:=.fields (List.toArray [Uw 0,Uw 0,WF a,Uw ((es.size:Nat):Int),Uw ((ep:Nat):Int)]) }=h2;have x:h2.get? a=some (qq es ep t):=by rw[<- y];exact X6 _ f
 have r:h2.get? s.heap.objs.size=some { cls:=.type "list",data:=.seq #[] }:=by rw[<- y];exact X6 _ J
 have ab:∀b o,s.heap.get? b=some o->h2.get? b=some o:=λb o e=>by rw[<- y];exact X6 _ (aa b o e)
 have n:h2.get? h1.objs.size=some (zdi 0 0 a es.size ep):=by rw[<- y];exact Xf _ rfl
 have N:To { s with heap:=h2 } (.ref h1.objs.size) "set_iterator":=⟨_,n,rfl⟩;have j:To { s with heap:=h2 } (.ref a) "set":=⟨_,x,rfl⟩;refine XR (eE _ rfl "set_iterator" _ N yK.lookup ?_);refine X9 (We ?_);unfold Builtin.List.listLengthHint;refine X9 (Pu j PySem.F.slot_set_len.lookup ?_);dsimp only;rw[zhc];dsimp only;refine X9 (wpAny_isInstance (b:=true) j sub_set_self ?_);rw[bq "d"];show Xh _ _ (typeOf (WF a) >>= _) _ _ _;refine X9 (R4 j ?_);show Xh _ _ (pure false) _ _ _;refine XR ?_;show Xh _ A.in1 (rule "list.extend.makes-room" >>= λ_=>Builtin.List.listTouch (.ref s.heap.objs.size) >>= λ_=>Ob (.builtin "list.extend.loop" ⟨[.ref s.heap.objs.size,.ref h1.objs.size,.ref s.heap.objs.size],[]⟩)) _ _ _;refine X9 (UC (X9 ?_));show Xh _ A.in1 (updateSeq s.heap.objs.size (·.push .none) >>= λ_=>updateSeq s.heap.objs.size (·.pop)) _ _ _;refine X9 (wpAny_updateSeq r rfl ?_);have u:=VN (U6 (·.push UD)) r rfl;refine wpAny_updateSeq u rfl ?_;have v:=VN (U6 (·.pop)) u rfl;have oth:∀b o,b≠s.heap.objs.size->h2.get? b=some o->((h2.update s.heap.objs.size (U6 (·.push UD))).update s.heap.objs.size (U6 (·.pop))).get? b=some o :=
  λb o m e=>(Ub _ _ (Vh m)).trans ((Ub _ _ (Vh m)).trans e)
 generalize (h2.update s.heap.objs.size (U6 (·.push UD))).update s.heap.objs.size (U6 (·.pop))=h4 at v oth;have Y:a≠h1.objs.size:=by
  rw[H];exact Xi (Wm g)
 have L:s.heap.objs.size ∉ [h1.objs.size,a]:=by
  rw[H];simp only[XF,VS,or_false,not_or];exact⟨Xi (Sz _),Vg g⟩
 have ae:slotAt (w.params.followText "set-order") t 0=0:=by
  unfold slotAt;split<;>rfl
 have af:(Yp w a ep es).size=es.size:=by
  rw[<- XV,(zbo w a ep es).length_eq,XV]
 refine XR ⟨Vf PySem.F.plain_extend_loop _,codeAny_extend_loopS ((walks (A:=A.in1) (prog:=prog) (ep:=ep) hh Y G hl hp).toS) (X7 hn (by rw[Um];decide)) _ L _ es.size 0 _ _ _ rfl (W2 _)
  ⟨by rw[ae];exact oth _ _ (by rw[H];exact UY _) n,oth _ _ (Xi g) x⟩ v (ItemsOf.nil _) λs' c c' D p d=>?_⟩
 show Xh _ A (load s.heap.objs.size >>= _) _ _ s';refine X9 (wpAny_load p ?_);obtain⟨h',g',d',ag,ac⟩:=s';have eg:g'=s.gens:=D.gens;have ed:d'=s.drawn:=D.drawn;have eo:ac=s.os:=D.os;subst eg;subst ed;subst eo;refine XR (q _ _ _ ?_ (λb o e=>?_) (VA (XE p)))
 .have e:c.toList=(Yp w a ep es).toList.map (·.2):=by
   refine SM λi=>?_;rw[WY,Xl,WY];by_cases hi:i<es.size
   .have U:i<c.size:=by rw[d.1];exact hi
    have e1:c[i]?=some c[i]:=Vl U;rw[e1];exact(d.2 i _ e1).symm
   .rw[Ws (by rw[d.1];lia),Ws "a"];rfl
  rw[e];exact(zbo w a ep es).map _
 .have m:b<s.heap.objs.size:=XE e;refine D.heap b o (λz=>?_) (oth b o (Xi m) (ab b o e));rcases XF.mp z with z | z
  .exact V3 _ (z ▸ m)
  .have z':b=h1.objs.size:=by simpa using z
   rw[z',H]at m;exact absurd m (Nat.not_lt.mpr (VW _))
end
end ST
open PySem PySem.Spec PyProof.Rows PySem.W
namespace ST
def zdj (prog:Xv)(w:W5)(d:Addr)(ks:List (Addr×(Int×Int))):HO:=.ext λh=>∃a b t,h.get? d=some (qq a b t)/\a.toList=ks.map (zdg (hP prog w))/\Good t (a.map (·.1))/\t.led=(!w.params.followText "set-order")/\t.plain=true
section
variable {prog:Xv}{w:W5}{A:WL}{R:PY->X8->Prop}{I:Addr}{fp wr:List Addr}{G:Array UW->Array UW->Prop}{n:Nat}{P:Nat->Y1->Prop}{St:Nat->X8->Prop}{led:Bool}
def zmp {h0:Heap}(W:WalksS prog w A.in1 I fp wr G n P St)(D:Addr)(M:D ∉ fp)(ah:h0.get? D=none)(ap:∀b∈wr,h0.get? b=none)(ps:List (Int×Int))(Y:ps.length=n)(hu:A.units+1<VD)
  (T:Addr->Int×Int->Prop) (hT:∀x p,T x p->zC h0 (.ref x) p) (aj:∀i v,P i v->∃x p,v=.ref x/\ps[i]?=some p/\T x p) (y:∀p∈ps,InB p) (few:∀l:List (Int×Int),l.Nodup->(∀c∈l,c∈ps)->l.length<=64) :
  ∀(k i:Nat) (s:X8) (ks:List (Addr×(Int×Int))),n-i=k->i<=n->St i s->(∀b o,h0.get? b=some o->s.heap.get? b=some o)->zek (hP prog w) led s.heap D ks->(∀c,c∈ks.map (·.2)↔c∈ps.take i)->(∀q∈ks,T q.1 q.2) ->
   (∀s' r,N9 (D::wr) G s s'->zek (hP prog w) led s'.heap D r->(∀c,c∈r.map (·.2)↔c∈ps)->(∀q∈r,T q.1 q.2)->R (.ok (.ret .none)) s') ->
   Uj (Xn prog w) A (.builtin "set.update.loop" ⟨[.ref D,.ref I],[]⟩) R s:=by
 have ai:D ∉ wr:=λh=>M (W.sub _ h);have more:∀b∈wr,b∈D::wr:=λb y=>XQ _ y;have d:∀{h:Heap} {x:Addr} {p:Int×Int},(∀b o,h0.get? b=some o->h.get? b=some o)->T x p->zC h (.ref x) p:=λE hx=>by
  obtain⟨b,o,m,t,u,e,e1,e2,e3⟩:=hT _ _ hx;exact⟨b,o,m,t,u,e,E _ _ e1,e2,e3⟩
 have a:∀{s s':X8},N9 wr G s s'->(∀b o,h0.get? b=some o->s.heap.get? b=some o)->∀b o,h0.get? b=some o->s'.heap.get? b=some o:=λj E b o e =>
  j.heap b o (λy=>by
   rw[ap b y]at e;cases e) (E b o e)
 have f:∀{s s':X8} {ks:List (Addr×(Int×Int))},N9 wr G s s'->(∀b o,h0.get? b=some o->s'.heap.get? b=some o)->(∀q∈ks,T q.1 q.2)->zek (hP prog w) led s.heap D ks->zek (hP prog w) led s'.heap D ks :=
  λj E hk ⟨⟨es,ep,t,e1,e2⟩,e3,_,e5⟩=>⟨⟨es,ep,t,j.heap D _ ai e1,e2⟩,e3,λq hq=>d E (hk q hq),e5⟩
 intro k;induction k with
 | zero =>
  intro i s ks hk hi J E hS B g hR;have am:i=n:="a"
  subst am;refine V8 Tr ?_;rw[Wn U3 _];show Xh _ A.in1 (SF (.ref I) >>= _) _ _ s;refine X9 (W.done s _ _ J λs' j=>?_);refine XR (hR s' ks (j.mono more) (f j (a j E) g hS) (λc=>?_) g);rw[B c,<- Y,XH]
 | succ k ih =>
  intro i s ks hk hi J E hS B g hR;have aa:i<n:="a"
  refine V8 Tr ?_;rw[Wn U3 _];show Xh _ A.in1 (SF (.ref I) >>= _) _ _ s;refine X9 (W.item i s _ _ aa J λv s' ak af j=>?_);refine fy (λx p z0 hq hx=>?_) (aj i v ak);subst z0;have L:=a j E;have N:=f j L g hS;have ae:p∈ps:=X4 hq;have tk:ps.take (i+1)=ps.take i++[p]:=by
   rw[XB,hq];rfl
  refine X9 (We (zmo (show A.in1.units<VD from hu) N (d L hx) (y p ae) (λan=>?_) λb h' r H al ac au=>?_))
  .have:=few (p::ks.map (·.2)) (Vp.mpr ⟨an,N.nd⟩) λc hc=>by
    rcases XF.mp hc with rfl | hc
    .exact ae
    .exact Wv ((B c).mp hc)
   rw[XA,ZB]at this;lia
  have aq:∀b o,h0.get? b=some o->h'.get? b=some o:=λb o e=>by
   rw[H.2 b (λz=>by
    rw[z,ah]at e;cases e)]
   exact L b o e
  refine XR ⟨Vf U3 _,?_⟩;refine ih (i+1) _ r "a" aa (W.frame _ s' _ _ af (VH _ _) λb y o e=>?_) aq al (λc=>?_) (λq ao=>?_) λar ag ab O U Q=>?_
  .rw[H.2 b (λz=>M (by rw[<- z];exact y))];exact e
  .rw[ac c,B c,tk,XU,Wj]
  .rcases au q ao with z | z
   .exact g q z
   .rw[z];exact hx
  .refine hR ar ag (Moved.trans W.gtrans ((j.mono more).then_heap (VH _ _) λb o y e=>?_) ab) O U Q;rw[H.2 b (λz=>y (by rw[z];exact XT))];exact e
end
section
variable {prog:Xv}{w:W5}{A:WL}{E:Y1->X8->Prop}{s:X8}
def zot (a:Y1){Q₁:Y1->X8->Prop}(h:Q₁ (.ref s.heap.objs.size) { s with heap:=s.heap.push (qq #[] 0 (.fresh 0 0 (!w.params.followText "set-order"))) }) :
  Uj (Xn prog w) A (.call (.builtin "set.__new__") ⟨[.type "set",a],[]⟩) (wants Q₁ E) s:=by
 refine codeAny_of_tree ?_;show Xh _ A.in1 (do QR "set.__new__" ⟨[.type "set",a],[]⟩;Ob (.builtin "set.__new__" ⟨[.type "set",a],[]⟩)) _ _ s;refine X9 (N8 (PySem.F.newCall_set_1 a) (XR ⟨Vf Pm _,V8 PySem.F.entry_set_new ?_⟩));rw[Wn Pm _];unfold UO.«set.__new__» Builtin.Frozenset.newClass;have b:=sub_set_self;obtain⟨c,g,d,e,os⟩:=s;dsimp only;wp_walk;refine P9 (XR ?_);dsimp only;simp only[newObj];refine X9 (wpAny_alloc (XR ?_));exact XR h
def ziG (led:Bool):Good (.fresh 0 0 led) #[]:=⟨.inl rfl,rfl,rfl,λi j _ h=>absurd h (by simp[SetTable.fresh]),λi h=>absurd h (by simp[SetTable.fresh]),by simp[SetTable.fresh],λi h=>absurd h (by simp[SetTable.fresh])⟩
set_option maxHeartbeats 8000000 in
theorem zmq {l:Addr}{d:Array Y1}{ps:List (Int×Int)}{T:Addr->Int×Int->Prop}{Q:Y1->X8->Prop}(hh:A.handled=none)(hu:A.units+64<VD)(hl:s.heap.IsList l d)(N:ps.length=d.size)
  (hT:∀x p,T x p->zC s.heap (.ref x) p) (ab:∀(i:Nat) (v:Y1),d[i]?=some v->∃x p,v=WF x/\ps[i]?=some p/\T x p) (hb:∀p∈ps,InB p) (few:∀l:List (Int×Int),l.Nodup->(∀c∈l,c∈ps)->l.length<=64)
  (h:∀(h':Heap) (tk:Nat) (ks:List (Addr×(Int×Int))),(∀b o,s.heap.get? b=some o->h'.get? b=some o)->zek (hP prog w) (!w.params.followText "set-order") h' s.heap.objs.size ks->(∀c,c∈ks.map (·.2)↔c∈ps)->(∀q∈ks,T q.1 q.2)->Q (.ref s.heap.objs.size) { s with heap:=h',toks:=tk }) :
  Xh (Xn prog w) A (call (.type "set") [.ref l]) Q E s:=by
 obtain⟨c,tl,al⟩:=PySem.F.called_set.mro;have ag:=PySem.F.called_set.made;have ao:=PySem.F.called_set.sub;refine wpAny_call (codeAny_of_tree ?_);show Xh _ _ (callAny (.type "set") _) _ _ _;refine XR ⟨Code.quiet_builtin _ "q",V8 PySem.F.entry_type_call ?_⟩;rw[Around.under_plain (weight_type_call_type "set" [.ref l] []) rfl];have h1:=PySem.F.called_set.notType;have h2:=PySem.F.called_set.canCreate;have ar:=PySem.F.typeCall_set_1 (.ref l);repeat (any_goals (first | assumption | wp_step))
 refine S4 (zot (.ref l) (E:=E) (Q₁:=λY j=>Y=.ref s.heap.objs.size/\j={ s with heap:=s.heap.push (qq #[] 0 (.fresh 0 0 (!w.params.followText "set-order"))) }) ⟨rfl,rfl⟩) λr j hr=>?_;cases r with
 | error e=>exact hr
 | ok fl =>
  cases fl with
  | ret Y =>
   obtain⟨rfl,rfl⟩:=hr;generalize ak:(!w.params.followText "set-order")=led at h ⊢;have hS:(s.heap.push (qq #[] 0 (.fresh 0 0 led))).get? s.heap.objs.size=some (qq #[] 0 (.fresh 0 0 led)):=Xf _ rfl;have I:To { s with heap:=s.heap.push (qq #[] 0 (.fresh 0 0 led)) } (.ref s.heap.objs.size) "set":=⟨_,hS,rfl⟩;have au:=PySem.F.called_set.init.lookup;have aq:=PySem.F.called_set.init.bind (.ref s.heap.objs.size);repeat (any_goals (first | assumption | wp_step))
   refine S4 (TJ (R:=wants (λr m=>r=.none/\∃h' tk ks,m={ s with heap:=h',toks:=tk }/\zek (hP prog w) led h' s.heap.objs.size ks/\(∀c,c∈ks.map (·.2)↔c∈ps)/\(∀q∈ks,T q.1 q.2) /\
     (∀b o,s.heap.get? b=some o->h'.get? b=some o)) E) PySem.F.called_set.init.plain PySem.F.entry_set_init (check_set_init_1 I ?_)) λaa m a=>?_
   .revert hl;refine fu λol U J=>gn λnl L=>?_;obtain⟨ap,H,ah,f⟩:=ol;simp only at J L;subst J;subst L;have g:(s.heap.push (qq #[] 0 (.fresh 0 0 led))).get? l=some { cls:=.type "list",dict:=H,data:=.seq d nl,slots:=f }:=X6 _ U;have an:=PySem.F.sub_list_set;have am:=PySem.F.sub_list_frozenset;have av:(PU "list" == PU "dict")=false:="d"
    have B:(s.heap.push (qq #[] 0 (.fresh 0 0 led))).IsList l d:=⟨_,g,rfl,nl,rfl⟩;unfold UO.«set.__init__» noKeywords Builtin.Frozenset.updateFrom;generalize hG:s.heap.push (qq #[] 0 (.fresh 0 0 led))=G at hS I g B ⊢;unfold qq at hS;generalize ac:pyIter=PI;wp_walk;subst ac;subst hG;refine TW B ?_;refine X9 (wpAny_runValue ?_);have M:l<s.heap.objs.size:=XE U;have zS:(s.heap.push (qq #[] 0 (.fresh 0 0 led))).objs.size=s.heap.objs.size+1:=UT ..;have O:l≠(s.heap.push (qq #[] 0 (.fresh 0 0 led))).objs.size:=by
     rw[zS];exact Xi (Wm M)
    have ae:s.heap.objs.size ∉ [(s.heap.push (qq #[] 0 (.fresh 0 0 led))).objs.size,l]:=by
     rw[zS];simp only[XF,VS,or_false,not_or];exact⟨Xi (Sz _),Vg M⟩
    refine zmp (h0:=s.heap) (led:=led) ((Walks.list (by simp[hh]) (s.heap.push (qq #[] 0 (.fresh 0 0 led))).objs.size l O d).toS) s.heap.objs.size ae (VG (XW _)) (λb hb=>?_) ps N (by show A.units+1+1+1<VD;lia) T hT ab hb few (d.size-0) 0 _ [] rfl (W2 _)
     ⟨⟨_,Xf _ rfl,rfl,rfl⟩,(B.push _)⟩ (λb o z=>X6 _ (X6 _ z)) ⟨(dI (#[]) 0 (.fresh 0 0 led) (X6 _ hS) rfl (by rw[Array.map_empty];exact ziG led) rfl rfl),RS,(λq z=>nomatch z),(λq z=>nomatch z)⟩ (λc=>"s") (λq z=>nomatch z) ?_
    .have e:b=(s.heap.push (qq #[] 0 (.fresh 0 0 led))).objs.size:=by simpa using hb
     rw[e,zS];exact VG (VW _)
    .intro s' ks hm u D y;obtain⟨h',g',d',aj,ai⟩:=s';have eg:g'=s.gens:=hm.gens;have ed:d'=s.drawn:=hm.drawn;have eo:ai=s.os:=hm.os;subst eg;subst ed;subst eo;show Xh _ _ _ _ _ _;refine XR ?_;show Xh _ _ (ret UD) _ _ _;refine XR ⟨rfl,(dI h' aj ks rfl u D y (λb o e=>?_))⟩;have lt:=XE e;refine hm.heap b o (λz=>?_) (X6 _ (X6 _ e));rcases XF.mp z with z | z
     .exact V3 _ (z ▸ lt)
     .have z':b=(s.heap.push (qq #[] 0 (.fresh 0 0 led))).objs.size:=by simpa using z
      rw[z',zS]at lt;exact absurd lt (Nat.not_lt.mpr (VW _))
   .cases aa with
    | error e=>exact a
    | ok n =>
     cases n with
     | ret r =>
      revert a;refine f7 λz0=>fC λh' tk ks z1 u D y af=>?_;subst z0 z1;repeat (any_goals (first | assumption | wp_step))
      exact h _ _ _ af u D y
     | _=>exact a.elim
  | _=>exact hr.elim
end
def zdk {α q:Type}(f:α->q){l p:List q}(h:l.Perm p):∀ks:List α,p=ks.map f->∃g:List α,g.Perm ks/\l=g.map f:=by
 induction h with
 | nil=>exact λks e=>⟨ks,List.Perm.refl _,e⟩
 | cons x h s =>
  intro ks e;cases ks with
  | nil=>simp at e
  | cons k ks =>
   rw[Xe]at e;injection e with j i
   obtain⟨g,h1,h2⟩:=s ks i;exact⟨k::g,h1.cons k,by rw[Xe,j,h2]⟩
 | swap x y l =>
  intro ks e;match ks,e with
  | [],e=>simp at e
  | [k],e=>simp at e
  | k1::o::ks,e =>
   rw[Xe,Xe]at e;injection e with j i
   injection i with i r
   exact⟨o::k1::ks,List.Perm.swap k1 o ks,by rw[Xe,Xe,j,i,r]⟩
 | trans h1 h2 m n =>
  intro ks e;obtain⟨g,a,b⟩:=n ks e;obtain⟨is,c,d⟩:=m g b;exact⟨is,c.trans a,d⟩
section
variable {X:Cx}
def zeV (hu:X.A.units+64<VD)(hh:X.A.handled=none):jm X (.type "set") (λxs H Q=>∃l g ps,xs=[.ref l]/\SqL X.K H l g/\j9 H g ps/\(∀p∈ps,InB p)/\(∀l:List (Int×Int),l.Nodup->(∀c∈l,c∈ps)->l.length<=64) /\
  ∀d ks,H d=none->(∀q∈ks,H q.1=some (.tup [.int q.2.1,.int q.2.2]))->(ks.map (·.2)).Nodup->(∀c,c∈ks.map (·.2)↔c∈ps)->Q (.ref d) (upd H d (zdj X.prog X.w d ks))):=by
 intro bQ s σ H xs aa Q I r h;revert h;refine fE λl g ps z0 hq J hb few q=>?_;subst z0;obtain⟨u,rfl,ru⟩:=vals1 r;cases ru;obtain⟨b,L,pl,hz⟩:=I.list hq;have hp:=j9.pairs I J L;have z:b.length=ps.length:=Paired.length hp;have tw:∀{g:AF} {ps:List (Int×Int)} {b:List Y1},j9 H g ps->Vals g b->∀(i:Nat) (v:Y1),b[i]?=some v->∃x p,v=WF x/\ps[i]?=some p/\H x=some (.tup [.int p.1,.int p.2]):=by
  intro g ps b h1;induction h1 generalizing b with
  | nil =>
   intro r i v e;cases r;simp at e
  | cons a t ih =>
   intro r i v e;obtain⟨x,rfl,B⟩:=a;cases r with
   | cons r1 r2 =>
    cases r1;cases i with
    | zero =>
     simp at e;exact⟨x,_,e.symm,rfl,B⟩
    | succ i =>
     refine fy (λy p h1 h2 O=>?_) (ih r2 i v ↑e);exact⟨y,p,h1,↑h2,O⟩
 refine zmq (T:=λx p=>H x=some (.tup [.int p.1,.int p.2])) hh hu pl.isList (by simp[z]) (λx p B=>?_) (λi v e=>tw J L i v ↑e) hb few λh' tk ks kk G hm Y=>?_
 .obtain⟨D,E,tp,_⟩:=I.tuple (SqT.of B);obtain⟨u1,u2,rfl,⟨t1,rfl⟩,⟨t2,rfl⟩⟩:=vals2 E;obtain⟨ob,N,c1,n,M⟩:=tp;exact⟨x,ob,n,t1,t2,rfl,N,c1,M⟩
 .have U:H s.heap.objs.size=none:=I.hok.fresh (XW _);refine fT (λo m t j f=>?_) G.ex;refine⟨.ref s.heap.objs.size,upd H s.heap.objs.size (zdj X.prog X.w s.heap.objs.size ks),I.laid (t':=tk) kk (XW _) ⟨⟨o,m,t,j,f⟩,⟨_,j⟩,λh1 h2 ⟨o,m,t,j,f⟩ k=>⟨o,m,t,k _ j,f⟩⟩,rfl,q _ _ U Y G.nd hm⟩
end
end ST
namespace GS
section
variable {prog:Xv}{w:W5}{A:WL}{E:Y1->X8->Prop}{s:X8}{rk:WI->Int}{κ:UV}{a0:Array WI}
def Rk (rk:WI->Int)(xs:Array WI)(i:Nat):Int:=match xs[i]? with
 | some p=>rk p
 | none=>0
def QI {xs ys:Array WI}{i j:Nat}(h:xs[i]?=ys[j]?):Rk rk xs i=Rk rk ys j:=by
 unfold Rk;rw[h]
def Up (rk:WI->Int)(xs:Array WI)(lo a:Nat):Prop:=∀i j,lo<=i->i<=j->j<a->Rk rk xs i<=Rk rk xs j
def Tells (prog:Xv)(w:W5)(A:WL)(s:X8)(κ:UV)(rk:WI->Int)(a0:Array WI):Prop :=
 ∀x∈a0.toList,∀y∈a0.toList,∀C:Bool->X8->Prop,C (decide (rk x<rk y)) s->Xh (Xn prog w) A (keyLt' κ x.1 y.1) C (λ_ _=>False) s
structure Ok (κ:UV)(a0:Array WI)(st:WJ):Prop where
 perm:(W8 st).Perm a0
 kind:kindOf st=κ
 good:TN st=none
theorem Ok.size {st:WJ}(h:Ok κ a0 st):(W8 st).size=a0.size:=h.perm.size_eq
def Ok.at {st:WJ}(h:Ok κ a0 st){i:Nat}(b:i<a0.size):∃x,(W8 st)[i]?=some x/\x∈a0.toList/\Rk rk (W8 st) i=rk x:=by
 have a:i<(W8 st).size:=by rw[h.size];exact b
 have e:(W8 st)[i]?=some (W8 st)[i]:=getElem?_pos _ i a;refine⟨(W8 st)[i],e,(UP.mp h.perm).mem_iff.mp "s",?_⟩;unfold Rk;rw[e]
def zmr {st:WJ}{x y:WI}{Q:Option Bool->WJ->Prop}(T:Tells prog w A s κ rk a0)(hk:kindOf st=κ)(e:x∈a0.toList)(f:y∈a0.toList)(h:Q (some (decide (rk x<rk y))) st):wpS (Xn prog w) A E s (lt' x y) Q st:=by
 rw[lt'_eq];refine Xu (R6 ?_);rw[hk];refine Xu (Rf (Rv (VQ (T x e y f (λb c=>c=s/\b=decide (rk x<rk y)) ⟨rfl,rfl⟩) (λb c a=>⟨a.1,?_⟩) λ_ _ d=>d.elim)));rw[a.2];exact Xj h
def jc {st:WJ}{xs:Array WI}{i:Nat}{x:WI}{Q:WI->WJ->Prop}(e:xs[i]?=some x)(h:Q x st):wpS (Xn prog w) A E s (elem' xs i) Q st:=by
 rw[elem'_eq,e];exact Xj h
def zdl {st:WJ}{i j:Nat}{Q:Option Bool->WJ->Prop}(T:Tells prog w A s κ rk a0)(O:Ok κ a0 st)(c:i<a0.size)(d:j<a0.size)(h:Q (some (decide (Rk rk (W8 st) i<Rk rk (W8 st) j))) st):wpS (Xn prog w) A E s (ltAt' i j) Q st:=by
 obtain⟨x,a,e,g⟩:=O.at (rk:=rk) c;obtain⟨y,b,f,l⟩:=O.at (rk:=rk) d;rw[g,l]at h;rw[ltAt'_eq];refine Xu (R6 ?_);exact Xu (jc a (Xu (jc b (zmr T O.kind e f h))))
structure Step (κ:UV)(a0:Array WI)(lo:Nat)(st st':WJ):Prop where
 ok:Ok κ a0 st'
 pend:W4 st'=W4 st
 low:∀i:Nat,i<lo->(W8 st')[i]?=(W8 st)[i]?
def Step.refl {lo:Nat}{st:WJ}(O:Ok κ a0 st):Step κ a0 lo st st:=⟨O,rfl,λ_ _=>rfl⟩
theorem Step.trans {lo:Nat}{st b a:WJ}(x:Step κ a0 lo st b)(y:Step κ a0 lo b a):Step κ a0 lo st a:=⟨y.ok,y.pend.trans x.pend,λi c=>(y.low i c).trans (x.low i c)⟩
def zbV {xs:Array WI}{i j:Nat}(a:j<=xs.size)(k:Nat):Rk rk (mirror xs i j ((j-i)/2)) k=if i<=k/\k<j then Rk rk xs (i+j-1-k) else Rk rk xs k:=by
 have e:=OL (i:=i) a k;by_cases h1:i<=k/\k<j
 .rw[bw h1]at e ⊢;exact QI e
 .rw[bq h1]at e ⊢;exact QI e
def yc {xs:Array WI}{i j:Nat}(b:j<=xs.size)(a:∀k,i<=k->k<j->Rk rk xs k=Rk rk xs (j-1))(k:Nat):Rk rk (mirror xs i j ((j-i)/2)) k=Rk rk xs k:=by
 rw[zbV b];split
 .rw[a _ "a" "a",a k "a" "a"]
 .rfl
theorem Step.mirror {lo i j:Nat}{st a:WJ}(x:Step κ a0 lo st a)(c:lo<=i)(b:j<=a0.size):Step κ a0 lo st (setArr a (mirror (W8 a) i j ((j-i)/2))):=by
 refine⟨⟨(mirror_perm _ _ _ _).trans x.ok.perm,x.ok.kind,x.ok.good⟩,x.pend,λk hk=>?_⟩;show (PyProof.Rows.mirror (W8 a) i j ((j-i)/2))[k]?=_;rw[OL (by rw[x.ok.size];exact b),bq "a"];exact x.low k hk
def zjX {st:WJ}{i j:Nat}{Q:Unit->WJ->Prop}(h:Q () (setArr st (mirror (W8 st) i j ((j-i)/2)))):wpS (Xn prog w) A E s (Su i j) Q st:=by
 rw[reverseSlice'_eq];exact SA h
def up1 (lo a d:Nat):StateT WJ Sem AscSt :=
 forIn [a:d] ((none,a):AscSt) λ_ c=>do
  let x <- ltAt' (lo+c.snd) (lo+c.snd-1)
  match x with
  | some b=>if b=true then pure (SU (none,c.snd)) else pure (Vo (none,c.snd+1))
  | _=>pure (SU (some none,c.snd))
def zms (lo n a:Nat):StateT WJ Sem (Option Nat):=do
 Su lo (lo+n)
 let c <- up1 lo n a
 match c.fst with
 | some r=>pure r
 | none=>pure (some c.snd)
def zjY (lo n a:Nat):StateT WJ Sem DescSt :=
 forIn [n:a] ((none,n,0):DescSt) λ_ c=>do
  let x <- ltAt' (lo+c.snd.fst) (lo+c.snd.fst-1)
  match x with
  | some b =>
   if b=true then
    if c.snd.snd>0 then do
     Su (lo+c.snd.fst-(c.snd.snd+1)) (lo+c.snd.fst)
     pure (Vo (none,c.snd.fst+1,0))
    else pure (Vo (none,c.snd.fst+1,0))
   else do
    let x <- ltAt' (lo+c.snd.fst-1) (lo+c.snd.fst)
    match x with
    | some b =>
     if b=true then pure (SU (none,c.snd.fst,c.snd.snd))
     else pure (Vo (none,c.snd.fst+1,c.snd.snd+1))
    | _=>pure (SU (some none,c.snd.fst,c.snd.snd))
  | _=>pure (SU (some none,c.snd.fst,c.snd.snd))
def part2 (lo n a:Nat):StateT WJ Sem (Option Nat):=do
 liftM (rule "list.sort.descending-run")
 let c <- zjY lo (n+1) a
 match c.fst with
 | some r=>pure r
 | none =>
  if c.snd.snd>0 then do
   Su (lo+c.snd.fst-(c.snd.snd+1)) (lo+c.snd.fst)
   zms lo c.snd.fst a
  else zms lo c.snd.fst a
theorem run_eq (lo a:Nat):countRun' lo a=(do
  let c <- up1 lo 1 a
  match c.fst with
  | some r=>pure r
  | none =>
   if (c.snd==a)=true then pure (some c.snd)
   else if c.snd>1 then do
    let x <- ltAt' lo (lo+c.snd-1)
    match x with
    | some b=>if b=true then pure (some c.snd) else do
      Su lo (lo+c.snd)
      part2 lo c.snd a
    | _=>pure none
   else part2 lo c.snd a):=by
 rw[countRun'_eq];unfold part2 zms zjY up1;refine bind_congr λc=>?_;obtain⟨r,n⟩:=c;cases r with
 | some r=>rfl
 | none =>
  dsimp only;split
  .rfl
  .split
   .refine bind_congr λx=>?_;cases x with
    | none=>rfl
    | some b =>
     dsimp only;split
     .rfl
     .refine bind_congr λ_=>bind_congr λ_=>bind_congr λg=>?_;obtain⟨f,i,j⟩:=g;cases f with
      | some f=>rfl
      | none =>
       dsimp only;split
       .refine bind_congr λ_=>bind_congr λ_=>bind_congr λd=>?_;obtain⟨e,h⟩:=d;cases e<;>rfl
       .refine bind_congr λ_=>bind_congr λd=>?_;obtain⟨e,h⟩:=d;cases e<;>rfl
   .refine bind_congr λ_=>bind_congr λg=>?_;obtain⟨f,i,j⟩:=g;cases f with
    | some f=>rfl
    | none =>
     dsimp only;split
     .refine bind_congr λ_=>bind_congr λ_=>bind_congr λd=>?_;obtain⟨e,h⟩:=d;cases e<;>rfl
     .refine bind_congr λ_=>bind_congr λd=>?_;obtain⟨e,h⟩:=d;cases e<;>rfl
def Down (rk:WI->Int)(xs:Array WI)(lo n:Nat):Prop:=∀i j,i<=j->j<n->Rk rk xs (lo+j)<=Rk rk xs (lo+i)
def zpD {st:WJ}{lo a b:Nat}{Q:AscSt->WJ->Prop}(T:Tells prog w A s κ rk a0)(O:Ok κ a0 st)(z:lo+b<=a0.size)(v:1<=a)(g:a<=b)(r:Up rk (W8 st) lo (lo+a))
  (h:∀n,a<=n->n<=b->Up rk (W8 st) lo (lo+n)->(n=b\/Rk rk (W8 st) (lo+n)<Rk rk (W8 st) (lo+n-1))->Q (none,n) st):wpS (Xn prog w) A E s (up1 lo a b) Q st:=by
 unfold up1;refine R3 (I:=λx c f=>f=st/\c=(none,x)/\Up rk (W8 st) lo (lo+x)) ?step ?fin ⟨rfl,rfl,r⟩
 case fin =>
  rintro c f ⟨rfl,rfl,e⟩
  rw[show max a b=b by lia]at e ⊢
  exact h b g (XW _) e (.inl rfl)
 case step =>
  rintro x c f l u ⟨rfl,rfl,e⟩
  dsimp only
  refine Xu (zdl T O "a" "a" ?_)
  by_cases d:Rk rk (W8 f) (lo+x)<Rk rk (W8 f) (lo+x-1)
  .simp only[d,decide_true,if_true];exact Xj (h x l "a" e (.inr d))
  .simp only[d,decide_false,V5,if_false];refine Xj ⟨rfl,rfl,λi j q o y=>?_⟩;by_cases p:j<lo+x
   .exact e i j q o p
   .obtain rfl:j=lo+x:="a"
    by_cases m:i=lo+x
    .subst m;exact TM _
    .exact Ol (e i (lo+x-1) q "a" "a") (Ov.mp d)
def zmt {d st:WJ}{lo n a:Nat}{Q:Option Nat->WJ->Prop}(T:Tells prog w A s κ rk a0)(S:Step κ a0 lo d st)(q:lo+a<=a0.size)(h1:1<=n)(f:n<=a)(r:Down rk (W8 st) lo n)
  (h:∀m b,Step κ a0 lo d b->1<=m->m<=a->Up rk (W8 b) lo (lo+m)->Q (some m) b):wpS (Xn prog w) A E s (zms lo n a) Q st:=by
 unfold zms;refine Xu (zjX ?_);have l:=S.mirror (i:=lo) (j:=lo+n) (XW _) "a";refine Xu (zpD T l.ok q h1 f ?_ λm p e g _=>Xj (h m _ l "a" e g));intro i j u o v;have c:lo+n<=(W8 st).size:=by
  rw[S.ok.size];lia
 show Rk rk (mirror (W8 st) lo (lo+n) ((lo+n-lo)/2)) i<=Rk rk (mirror (W8 st) lo (lo+n) ((lo+n-lo)/2)) j;rw[zbV c,zbV c,bw "a",bw "a"];have:=r (lo+n-1-j) (lo+n-1-i) "a" "a";rw[show lo+(lo+n-1-j)=lo+(lo+n)-1-j by lia,show lo+(lo+n-1-i)=lo+(lo+n)-1-i by lia]at this;exact this
def down_up {f:Nat->Int}{lo x:Nat}(b:∀i j,i<=j->j<x->f (lo+j)<=f (lo+i))(h:f (lo+x)<=f (lo+(x-1)))(i j:Nat)(a:i<=j)(e:j<x+1):f (lo+j)<=f (lo+i):=by
 by_cases c:j<x
 .exact b i j a c
 .obtain rfl:j=x:="a"
  by_cases d:i=j
  .subst d;exact TM _
  .exact Ol h (b i (j-1) "a" "a")
def zou {u st:WJ}{lo n e:Nat}{Q:DescSt->WJ->Prop}(T:Tells prog w A s κ rk a0)(S:Step κ a0 lo u st)(U:lo+e<=a0.size)(h1:1<=n)(H:n<=e)(Y:Down rk (W8 st) lo n)
  (h:∀m q d,Step κ a0 lo u d->n<=m->m<=e->Down rk (W8 d) lo m->q+1<=m->(∀i,m-(q+1)<=i->i<m->Rk rk (W8 d) (lo+i)=Rk rk (W8 d) (lo+(m-1)))->Q (none,m,q) d):wpS (Xn prog w) A E s (zjY lo n e) Q st:=by
 unfold zjY;refine R3 (I:=λx c d=>∃q,c=(none,x,q)/\Step κ a0 lo u d/\Down rk (W8 d) lo x/\q+1<=x /\
   (∀i,x-(q+1)<=i->i<x->Rk rk (W8 d) (lo+i)=Rk rk (W8 d) (lo+(x-1)))) ?step ?fin (dZ 0 rfl S Y "a" (λi h1 h2=>by congr 1;lia))
 case fin =>
  refine λc d=>fR λq z0 p l y he=>?_;subst z0
  rw[show max n e=e by lia]at l y he ⊢
  exact h e q d p H (XW _) l y he
 case step =>
  refine λx c d v B=>fR λq z0 p l y he=>?_;subst z0
  dsimp only
  have J:lo+x<=(W8 d).size:=by
   rw[p.ok.size];lia
  have O:lo+x-1=lo+(x-1):=Nat.add_sub_assoc (X7 h1 v) lo
  have L:lo+x<a0.size:=XD (Uy B lo) U
  have D:lo+(x-1)<a0.size:=XI (R9 (Nat.sub_le _ _) lo) L
  rw[O]
  refine Xu (zdl T p.ok L D ?_)
  by_cases f:Rk rk (W8 d) (lo+x)<Rk rk (W8 d) (lo+(x-1))
  .simp only[f,decide_true,if_true];have o:∀M:Array WI,(∀k,Rk rk M k=Rk rk (W8 d) k)->Down rk M lo (x+1):=λM hk i j a b=>by
    rw[hk,hk];exact down_up l (R0 f) i j a b
   by_cases z:q>0
   .rw[bw z];refine Xu (zjX (Xj (dZ 0 rfl (p.mirror "a" "a") (o _ (yc J λk k1 k2=>?_)) "a" (λi h1 h2=>by congr 1;lia))));have N:=he (k-lo) "a" "a";rw[show lo+(k-lo)=k by lia,<- O]at N;exact N
   .rw[bq z];exact Xj (dZ 0 rfl p (o _ (λ_=>rfl)) "a" (λi h1 h2=>by congr 1;lia))
  .simp only[f,decide_false,V5,if_false];refine Xu (zdl T p.ok D L ?_);by_cases g:Rk rk (W8 d) (lo+(x-1))<Rk rk (W8 d) (lo+x)
   .simp only[g,decide_true,if_true];exact Xj (h x q d p v (VA B) l y he)
   .simp only[g,decide_false,V5,if_false];have r:Rk rk (W8 d) (lo+x)=Rk rk (W8 d) (lo+(x-1)):=Int.le_antisymm (Ov.mp g) (Ov.mp f);refine Xj (dZ (q+1) rfl p (down_up l (Int.le_of_eq r)) (Tz y) (λi h1 h2=>?_));rw[Ue];by_cases G:i=x
    .rw[G]
    .rw[r];exact he i "a" "a"
def zjZ {g st:WJ}{lo n b:Nat}{Q:Option Nat->WJ->Prop}(T:Tells prog w A s κ rk a0)(S:Step κ a0 lo g st)(p:lo+b<=a0.size)(r:n+1<=b)(y:Down rk (W8 st) lo (n+1))
  (h:∀m a,Step κ a0 lo g a->1<=m->m<=b->Up rk (W8 a) lo (lo+m)->Q (some m) a):wpS (Xn prog w) A E s (part2 lo n b) Q st:=by
 unfold part2;refine Xu (Rf (UC ⟨rfl,?_⟩));refine Xu (zou T S p "a" r y λm q a l x c e z he=>?_);dsimp only;have f:lo+m<=(W8 a).size:=by
  rw[l.ok.size];lia
 by_cases d:q>0
 .rw[bw d];refine Xu (zjX (zmt T (l.mirror "a" "a") p "a" c ?_ h));intro i j o v;show Rk rk (mirror (W8 a) _ _ _) (lo+j)<=Rk rk (mirror (W8 a) _ _ _) (lo+i);have same:∀k,lo+m-(q+1)<=k->k<lo+m->Rk rk (W8 a) k=Rk rk (W8 a) (lo+m-1):=λk B D=>by
   have u:=he (k-lo) "a" "a";rw[show lo+(k-lo)=k by lia,show lo+(m-1)=lo+m-1 by lia]at u;exact u
  rw[yc f same,yc f same];exact e i j o v
 .rw[bq d];exact zmt T l p "a" c e h
def zr7 {st:WJ}{lo b:Nat}{Q:Option Nat->WJ->Prop}(T:Tells prog w A s κ rk a0)(O:Ok κ a0 st)(v:lo+b<=a0.size)(h1:1<=b)
  (h:∀m l,Step κ a0 lo st l->1<=m->m<=b->Up rk (W8 l) lo (lo+m)->Q (some m) l):wpS (Xn prog w) A E s (countRun' lo b) Q st:=by
 have S:=Step.refl (lo:=lo) O;rw[run_eq];refine Xu (zpD T O v (XW 1) h1 (λi j I p y=>by
  obtain rfl:i=j:="a"
  exact TM _) λn q r d x=>?_)
 dsimp only;by_cases g:n=b
 .rw[bw ↑g];exact Xj (h n st S q r d)
 .rw[bq ↑g];have f:Rk rk (W8 st) (lo+n)<Rk rk (W8 st) (lo+n-1):=x.resolve_left g;have u:lo+n<=(W8 st).size:=by
   rw[O.size];lia
  by_cases o:n>1
  .rw[bw o];refine Xu (zdl T O "a" "a" ?_);by_cases c:Rk rk (W8 st) lo<Rk rk (W8 st) (lo+n-1)
   .simp only[c,decide_true,if_true];exact Xj (h n st S q r d)
   .simp only[c,decide_false,V5,if_false];have a:∀k,lo<=k->k<lo+n->Rk rk (W8 st) k=Rk rk (W8 st) (lo+n-1):=by
     intro k z D;have G:=d lo k (XW _) z D;have H:=d k (lo+n-1) z "a" "a";lia
    refine Xu (zjX (zjZ T (S.mirror (XW _) "a") v "a" ?_ h));intro i j p y;show Rk rk (mirror (W8 st) _ _ _) (lo+j)<=Rk rk (mirror (W8 st) _ _ _) (lo+i);rw[yc u a,yc u a];by_cases B:j<n
    .rw[a (lo+i) "a" "a",a (lo+j) "a" "a"];exact TM _
    .obtain rfl:j=n:="a"
     by_cases e:i=j
     .subst e;exact TM _
     .rw[a (lo+i) "a" "a"];exact R0 f
  .rw[bq o];obtain rfl:n=1:="a"
   refine zjZ T S v "a" ?_ h;intro i j p y;by_cases e:i=j
   .subst e;exact TM _
   .obtain rfl:i=0:="a"
    obtain rfl:j=1:="a"
    rw[Ue]at f;exact R0 f
def zeW {xs:Array WI}{src d:Nat}(b:src<xs.size)(a:d<=src)(k:Nat):Rk rk (bubble xs src d) k=if k=src-d then Rk rk xs src else if src-d<k/\k<=src then Rk rk xs (k-1) else Rk rk xs k:=by
 have e:=getElem?_bubble b d a k;by_cases h1:k=src-d
 .rw[bw h1]at e ⊢;exact QI e
 .rw[bq h1]at e ⊢;by_cases h2:src-d<k/\k<=src
  .rw[bw h2]at e ⊢;exact QI e
  .rw[bq h2]at e ⊢;exact QI e
end
def gallop':Bool->WI->Array WI->Nat->Nat->Nat->StateT WJ Sem (Option Nat):=sortPriv% PySem.Builtin.gallop
def mergeLo':Array WI->Array WI->StateT WJ Sem (Array WI):=sortPriv% PySem.Builtin.mergeLo
def mergeHi':Array WI->Array WI->StateT WJ Sem (Array WI):=sortPriv% PySem.Builtin.mergeHi
section
variable {rk:WI->Int}{aL bL oL:List WI}{ia ib:Nat}
def ext_toList (a:Array WI)(i j:Nat)(b:i<=j):(a.extract i j).toList=(a.toList.drop i).take (j-i):=by
 rw[O0,RF]
def zj0 (a:Array WI)(i:Nat):(a.extract i a.size).toList=a.toList.drop i:=by
 rw[O0,RF,Wt];rw[UZ,XV];exact XW _
def zmu {a:Array WI}{i:Nat}{x:WI}(h:a[i]?=some x):(a.toList.drop i).take 1=[x]:=by
 have b:i<a.toList.length:=by
  rw[XV];exact(TF.mp h).1
 rw[Wg b,Ux,SS];have:a.toList[i]?=some x:=by rw[WY];exact h
 rw[XX b]at this;rw[Option.some.inj this]
end
section
variable {prog:Xv}{w:W5}{A:WL}{E:Y1->X8->Prop}{s:X8}{rk:WI->Int}{κ:UV}{a0:Array WI}
structure Kept (st st':WJ):Prop where
 arr:W8 st'=W8 st
 kind:kindOf st'=kindOf st
 pend:W4 st'=W4 st
 bad:TN st'=TN st
def setG':Nat->StateT WJ Sem Unit:=sortPriv% PySem.Builtin.setMinGallop
def Kept.refl (st:WJ):Kept st st:=⟨rfl,rfl,rfl,rfl⟩
def zfY {b st:WJ}{g:Nat}{Q:Unit->WJ->Prop}(k:Kept b st)(h:∀a,Kept b a->Q () a):wpS (Xn prog w) A E s (setG' g) Q st:=by
 have e:setG' g=modify λc=>SortSt.mk' (kindOf c) (W8 c) (W4 c) g (TN c):=rfl;rw[e];exact SA (h _ ⟨k.arr,k.kind,k.pend,k.bad⟩)
def qk {α:Type}{c:Prop} [Decidable c]{x y:StateT WJ Sem α}{Q:α->WJ->Prop}{st:WJ}(h1:c->wpS (Xn prog w) A E s x Q st)(h2:¬ c->wpS (Xn prog w) A E s y Q st):wpS (Xn prog w) A E s (if c then x else y) Q st:=by
 by_cases a:c
 .rw[bw a];exact h1 a
 .rw[bq a];exact h2 a
def xH {a:Array WI}{i:Nat}(h:i<a.size):∃x,a[i]?=some x/\x∈a.toList:=⟨a[i],getElem?_pos a i h,"s"⟩
set_option maxHeartbeats 8000000 in
theorem via {P:Prop}(h:∀G:Prop,(P->G)->G):P:=h P id
structure Key (P:Prop):Prop where
 get:P
def cut {P R:Prop}(k:P)(h:Key P->R):R:=h ⟨k⟩
def zqz {xs:Array WI}{lo a:Nat}(u:Up rk xs lo a){i j:Nat}{x y:WI}(h1:lo<=i)(h2:i<=j)(d:j<a)(b:xs[i]?=some x)(c:xs[j]?=some y):rk x<=rk y:=by
 have:=u i j h1 h2 d;unfold Rk at this;rw[b,c]at this;exact this
def zj1 {xs:Array WI}{i:Nat}{x:WI}(e:xs[i]?=some x):x∈xs.toList:=X4 (by rw[WY];exact e)
def ext_get {xs:Array WI}{i j k:Nat}(h1:i<=j)(h2:j<=xs.size)(hk:k<j-i):(xs.extract i j)[k]?=xs[i+k]?:=by
 rw[Array.getElem?_extract,bw "a"]
def zdm {xs:Array WI}{i j:Nat}(h2:j<=xs.size):(xs.extract i j).size=j-i:=by
 rw[Array.size_extract];lia
def ext_mem {xs:Array WI}{i j:Nat}{x:WI}(a:j<=xs.size)(h:x∈(xs.extract i j).toList):∃k,i<=k/\k<j/\xs[k]?=some x:=by
 obtain⟨k,hk,e⟩:=Sb h;rw[XV,zdm a]at hk;refine⟨i+k,"a","a",?_⟩;rw[<- ext_get (xs:=xs) (i:=i) (j:=j) "a" a hk,<- e,Si];exact getElem?_pos _ _ _
def zr8 {st a:WJ}{Q:PUnit->WJ->Prop}(h:∀b,b=a->Q ⟨⟩ b):wpS (Xn prog w) A E s (set a:StateT WJ Sem PUnit) Q st:=by
 unfold wpS;rw[StateT.run_set];exact XR ⟨rfl,h _ rfl⟩
def xF:List (Nat×AA)->Nat->Nat->Prop
 | [],s,e=>s=e
 | r::l,s,e=>r.1=s/\1<=r.2.1/\xF l (s+r.2.1) e
theorem yY:∀{l1 l2:List (Nat×AA)} {s e:Nat},xF (l1++l2) s e ↔ ∃m,xF l1 s m/\xF l2 m e
 | [],l2,s,e=>⟨λh=>⟨s,rfl,h⟩,λ⟨m,h1,h2⟩=>by
  have e:s=m:=h1;subst e;exact h2⟩
 | r::l1,l2,s,e=>by
  constructor
  .rintro⟨h1,h2,h3⟩;obtain⟨m,a,b⟩:=yY.mp h3;exact⟨m,⟨h1,h2,a⟩,b⟩
  .rintro⟨m,⟨h1,h2,h3⟩,a⟩;exact⟨h1,h2,yY.mpr ⟨m,h3,a⟩⟩
theorem zdn:∀{l:List (Nat×AA)} {s e:Nat},xF l s e->s<=e/\l.length+s<=e/\∀r∈l,s<=r.1/\r.1+r.2.1<=e
 | [],s,e,h=>by
  have b:s=e:=h;subst b;exact⟨XW _,"s",λr d=>nomatch d⟩
 | r::l,s,e,⟨h1,h2,c⟩=>by
  obtain⟨f,g,a⟩:=zdn c;refine⟨"a",by rw[XA];lia,λq hq=>?_⟩;rcases XF.mp hq with rfl | hq
  .lia
  .have:=a q hq;lia
def zqA {p:List (Nat×AA)}{i:Nat}(h:i+1<p.length):∃l1 a b l2,p=l1++a::b::l2/\l1.length=i/\p[i]?=some a/\p[i+1]?=some b:=by
 refine⟨p.take i,p[i],p[i+1],p.drop (i+2),?_,by rw[XC];lia,XX "a",XX h⟩;rw[<- Wg h,<- Wg "a",WR]
theorem zci (b:Nat):∀{l:List (Nat×AA)} {k s e:Nat},xF l s e->xF (l.modify k λr=>(r.1,r.2.1,b)) s e
 | [],k,s,e,h=>by
  cases k<;>exact h
 | r::l,0,s,e,⟨h1,h2,a⟩=>⟨h1,h2,a⟩
 | r::l,k+1,s,e,⟨h1,h2,a⟩=>⟨h1,h2,zci b a⟩
def ite_le (c:Prop) [Decidable c](n:Nat):(if c then n-1 else n)<=n:=by
 split<;>lia
end
structure Wk {K:Type}(lt:K->K->Bool):Prop where
 tot:∀x y,lt x y=true->lt y x=false
 tr:∀x y z,lt y x=false->lt z y=false->lt z x=false
def rkK {K:Type}(lt:K->K->Bool)(ks:List K)(k:K):Int:=((ks.countP λq=>lt q k:Nat):Int)
theorem count_le {K:Type}{p q:K->Bool}:∀{ks:List K},(∀x∈ks,p x=true->q x=true)->ks.countP p<=ks.countP q
 | [],_=>XW _
 | x::ks,h=>by
  have d:=count_le (ks:=ks) λy b=>h y (XQ _ b);rw[WQ,WQ];have a:=h x XT;by_cases c:p x=true
  .rw[bw c,bw (a c)];lia
  .rw[bq c];lia
def zmv {K:Type}{p q:K->Bool}{ks:List K}(h:∀x∈ks,p x=true->q x=true)(b:∃x∈ks,p x=false/\q x=true):ks.countP p<ks.countP q:=by
 obtain⟨y,hy,h1,h2⟩:=b;induction ks with
 | nil=>cases hy
 | cons x ks a =>
  rw[WQ,WQ];have d:=h x XT;rcases XF.mp hy with rfl | hy
  .have a:=count_le (ks:=ks) λy hy=>h y (XQ _ hy);rw[h1,h2,bq XM,bw rfl];lia
  .have a:=a (λy hy=>h y (XQ _ hy)) hy;by_cases c:p x=true
   .rw[bw c,bw (d c)];lia
   .rw[bq c];lia
def Wk.rank {K:Type}{lt:K->K->Bool}(W:Wk lt){ks:List K}{x y:K}(c:x∈ks):lt x y=decide (rkK lt ks x<rkK lt ks y):=by
 unfold rkK;cases h:lt x y with
 | true =>
  refine(br ?_).symm;have:=zmv (ks:=ks) (p:=λq=>lt q x) (q:=λq=>lt q y) (λq _ b=>?_) ⟨x,c,?_,h⟩
  .lia
  .cases hc:lt q y with
   | true=>rfl
   | false =>
    have:=W.tr x y q (W.tot x y h) hc;have a:lt q x=true:=b;rw[this]at a;cases a
  .cases hc:lt x x with
   | false=>rfl
   | true=>exact hc.symm.trans (W.tot x x hc)
 | false =>
  refine(bg ?_).symm;have:=count_le (ks:=ks) (p:=λq=>lt q y) (q:=λq=>lt q x) λq _ b=>by
   cases hc:lt q x with
   | true=>rfl
   | false =>
    have:=W.tr y x q h hc;have a:lt q y=true:=b;rw[this]at a;cases a
  lia
def zdo {α d:Type}{R:α->d->Prop}{xs:List α}{ys:List d}(hp:WW R xs ys):(∀p∈xs.zip ys,R p.1 p.2)/\(xs.zip ys).map (·.1)=xs/\(xs.zip ys).map (·.2)=ys:=by
 induction hp with
 | nil=>exact⟨(λp h=>nomatch h),rfl,rfl⟩
 | cons h _ e =>
  obtain⟨a,b,c⟩:=e;refine⟨λp hp=>?_,by rw[List.zip_cons_cons,Xe,b],by rw[List.zip_cons_cons,Xe,c]⟩;rcases XF.mp hp with rfl | hp
  .exact h
  .exact a p hp
theorem zeX {α a:Type}{R:α->a->Prop}:∀{zs:List (α × a)},(∀p∈zs,R p.1 p.2)->WW R (zs.map (·.1)) (zs.map (·.2))
 | [],_=>.nil
 | p::zs,h=>.cons (h p XT) (zeX λq b=>h q (XQ _ b))
theorem Ze {α a:Type}{R:α->a->Prop}:∀{xs:List α} {ys:List a},WW R xs ys->∀x∈xs,∃y∈ys,R x y
 | _,_,.nil,x,h=>nomatch h
 | _,_,.cons h t,x,hx=>by
  rcases XF.mp hx with rfl | hx
  .exact⟨_,XT,h⟩
  .obtain⟨y,h1,h2⟩:=Ze t x hx;exact⟨y,XQ _ h1,h2⟩
def Tri {K:Type}(a:V->K->Prop)(RH:Y1->K->Prop)(t:V×Y1×K):Prop:=RelV t.1 t.2.1/\a t.1 t.2.2/\RH t.2.1 t.2.2
def zqB {K:Type}{d:V->K->Prop}{RH:Y1->K->Prop}{c:AF}{a:List Y1}{ks:List K}(h1:Vals c a):WW d c ks->WW RH a ks->∃T:List (V×Y1×K),(∀t∈T,Tri d RH t)/\T.map (·.1)=c/\T.map (·.2.1)=a/\T.map (·.2.2)=ks:=by
 induction h1 generalizing ks with
 | nil =>
  intro h2 b;cases h2;exact⟨[],(λt h=>nomatch h),rfl,rfl,rfl⟩
 | @cons u i c a g o f =>
  intro h2 b;cases h2 with
  | @cons _ k _ ks j m =>
   cases b with
   | cons l n =>
    refine gb (λT h1 h2 b e=>?_) (f m n);refine dW ((u,i,k)::T) (λt ht=>?_) (by rw[Xe,h2]) (by rw[Xe,b]) (by rw[Xe,e]);rcases XF.mp ht with rfl | ht
    .exact⟨g,j,l⟩
    .exact h1 t ht
theorem zhe {K:Type}{d:V->K->Prop}{RH:Y1->K->Prop}:∀{T:List (V×Y1×K)},(∀t∈T,Tri d RH t)->Vals (T.map (·.1)) (T.map (·.2.1))/\WW d (T.map (·.1)) (T.map (·.2.2))
 | [],_=>⟨.nil,.nil⟩
 | t::T,h=>by
  obtain⟨h1,h2⟩:=zhe λx e=>h x (XQ _ e);obtain⟨a,b,c⟩:=h t XT;exact⟨.cons a h1,.cons b h2⟩
def zmw:Wk lt2:=by
 refine⟨λx y h=>?_,λx y z h1 h2=>?_⟩
 .cases e:lt2 y x with
  | false=>rfl
  | true =>
   have:=zix h e;rw[zjM]at this;cases this
 .cases e:lt2 z x with
  | false=>rfl
  | true =>
   by_cases a:x=y
   .subst a;rw[e]at h2;exact h2
   .have b:lt2 x y=true:=by
     have:=zcO (p:=x) (q:=y) a;rw[h1]at this;cases hh:lt2 x y with
     | true=>rfl
     | false =>
      rw[hh]at this;cases this
    have:=zix e b;rw[this]at h2;exact h2
def zfZ {h:Heap}{v:Y1}{p q:Int×Int}(h1:zC h v p)(h2:zC h v q):p=q:=by
 obtain⟨a,o,n,t,u,e,l,c1,i⟩:=h1;obtain⟨A,D,B,y,z,j,c,g,b⟩:=h2;subst e;cases j;rw[l]at c;cases c;rw[i]at b;obtain⟨r,s⟩:=p;obtain⟨w,x⟩:=q;injection b with b _
 have m:[Vs r t,Vs s u]=[Vs w y,Vs x z]:=congrArg Array.toList b;injection m with f d
 injection d with d _
 injection f with f _
 injection d with d _
 rw[f,d]
end GS
end L2
namespace PySem.SeqAt
open L2 AutoSeq1 MeetsSeq MeetsSeq2 MeetsSeq3
end PySem.SeqAt
namespace L2
open PySem PySem.Spec PyProof.Rows PySem.W PySem.SeqAt
end L2
namespace PySem.SeqAt
open L2 AutoSeq1 MeetsSeq MeetsSeq2 MeetsSeq3
def ltL:List (Int×Int)->List (Int×Int)->Bool
 | _,[]=>false
 | [],_::_=>true
 | p::r,q::t=>if p=q then ltL r t else lt2 p q
def zf0 (ps:List (Int×Int)):ltL ps []=false:=by cases ps<;>rfl
theorem zj2:∀ps:List (Int×Int),ltL ps ps=false
 | []=>rfl
 | p::r=>by
  unfold ltL;rw[bw rfl];exact zj2 r
theorem zj3:∀{ps qs:List (Int×Int)},ps≠qs->ltL qs ps=!ltL ps qs
 | [],[],h=>absurd rfl h
 | [],q::t,_=>rfl
 | p::r,[],_=>rfl
 | p::r,q::t,h=>by
  unfold ltL;by_cases e:p=q
  .subst e;rw[bw rfl,bw rfl];exact zj3 λz=>h (by rw[z])
  .rw[bq e,bq (Vh e)];exact zcO e
theorem ziH:∀{ps qs d:List (Int×Int)},ltL ps qs=true->ltL qs d=true->ltL ps d=true
 | ps,[],_,h,_=>by
  rw[zf0]at h;cases h
 | _,_::_,[],_,h=>by
  rw[zf0]at h;cases h
 | [],_::_,_::_,_,_=>rfl
 | p::r,q::t,x::y,h1,h2=>by
  unfold ltL at *
  by_cases b:p=q
  .subst b;rw[bw rfl]at h1;by_cases a:p=x
   .rw[bw a]at h2 ⊢;exact ziH h1 h2
   .rw[bq a]at h2 ⊢;exact h2
  .rw[bq b]at h1;by_cases a:q=x
   .subst a;rw[bq b];exact h1
   .rw[bq a]at h2;have c:=zix h1 h2;rw[bq]
    .exact c
    .intro e;subst e;rw[zjM]at c;cases c
def ziI {A:WL}{s:X8}{v a:Y1}{p q:Int×Int}(h1:zC s.heap v p)(h2:zC s.heap a q)(d:A.units+10<VD):EqAt A s v a (decide (p=q)):=by
 obtain⟨as,b⟩:=zaB h1;obtain⟨bs,c⟩:=zaB h2;have:=eqAt_reads _ _ A s _ _ as bs b c rfl rfl (by show A.units+min 1 1<VD;lia);rw[zeN]at this;exact this
def Yq {h:Heap}{xs:Array Y1}{ps:List (Int×Int)}(d:WW (zC h) xs.toList ps){i:Nat}(g:i<xs.size):∃p r,ps.drop i=p::r/\ps.drop (i+1)=r/\zC h xs[i] p:=by
 have e:xs.toList.length=ps.length:=Paired.length d;rw[XV]at e;have h2:i<ps.length:="a"
 obtain⟨a,b,c⟩:=GS.zdo d;refine⟨ps[i],ps.drop (i+1),Wg h2,rfl,?_⟩;have f:i<(xs.toList.zip ps).length:=by
  rw[List.length_zip,XV];lia
 have:=a _ (TB f);rw[List.getElem_zip]at this;simpa using this
def zk0 (l b:Addr)(c a:Array Y1)(n n2:Nat)(dd B:Option Addr)(sl H:Array (Option Y1))(ps qs:List (Int×Int))(k:Nat) :
  ∀i:Nat,c.size-i=k->i<=c.size->i<=a.size->Meets (UO.«list.__eq__.loop» ⟨[.ref l,.ref b,Uw i,Uw 0],[]⟩)
   (λA R s=>s.heap.get? l=some { cls:=.type "list",dict:=dd,data:=.seq c n,slots:=sl }/\s.heap.get? b=some { cls:=.type "list",dict:=B,data:=.seq a n2,slots:=H } /\
    WW (zC s.heap) c.toList ps/\WW (zC s.heap) a.toList qs/\A.units+20<VD /\
    R (.ok (.ret (.bool (ltL (ps.drop i) (qs.drop i))))) s):=by
 induction k with
 | zero =>
  intro i hk h1 h2 f w A R s h;obtain⟨Y,g,d,tk,os⟩:=s;revert h;refine fG λy x m o I h=>?_;have E:c.toList.length=ps.length:=Paired.length m;have G:a.toList.length=qs.length:=Paired.length o;rw[XV]at E G;wp_walk using V9 y,V9 x;have j:c[((i:Nat):Int).toNat]?=none:=by simp;lia
  rw[j];have D:ps.drop i=[]:=by simp;lia
  have e:ltL (ps.drop i) (qs.drop i)=decide (c.size<a.size):=by
   rw[D];by_cases hq:i<qs.length
   .rw[Wg hq];exact(br "a").symm
   .rw[List.drop_of_length_le "a"];exact(bg "a").symm
  rw[e]at h;wp_walk using V9 y,V9 x;exact h
 | succ k ih =>
  intro i hk h1 h2 f w A R s h;obtain⟨Y,g,d,tk,os⟩:=s;revert h;refine fG λy x m o I h=>?_;have E:c.toList.length=ps.length:=Paired.length m;have G:a.toList.length=qs.length:=Paired.length o;rw[XV]at E G;wp_walk using V9 y,V9 x;have z:i<c.size:="a"
  have j:c[((i:Nat):Int).toNat]?=some c[i]:=by simp[z]
  by_cases v:i<a.size
  .have u:a[((i:Nat):Int).toNat]?=some a[i]:=by simp[v]
   have U:((i:Int)+1)=((i+1:Nat):Int):=by push_cast;rfl
   refine fy (λp r M O J=>?_) (Yq m z);refine fy (λq t N Q L=>?_) (Yq o v);rw[j,u];refine X9 (ziI J L (by show A.units+1+10<VD;lia) f w _ _ ?_);rw[M,N]at h;unfold ltL at h;by_cases e:p=q
   .rw[bw e]at h;rw[br e];wp_walk;rw[U];exact⟨Vf plain_eq_loop _,V8 entry_eq_loop (by
     rw[Wn plain_eq_loop _];exact ih (i+1) "a" "a" "a" f w A R _ (dR y x m o I (by rw[O,Q];exact h)))⟩
   .rw[bq e]at h;rw[bg e];simp only[V5,if_false];refine X9 (RE y rfl (X9 (RE x rfl ?_)));rw[j,u];exact X9 (zaS.pairs J L (by show A.units+1<VD;lia) f w _ _ (XR h))
  .have u:a[((i:Nat):Int).toNat]?=none:=by simp;lia
   rw[j,u];have D:qs.drop i=[]:=by simp;lia
   rw[D,zf0,show false=decide (c.size<a.size) from (bg "a").symm]at h;wp_walk using V9 y,V9 x;exact h
def ziJ (l b:Addr)(c a:Array Y1)(n j:Nat)(dd d:Option Addr)(m f:Array (Option Y1))(ps qs:List (Int×Int)) :
  Meets (UO.«list.__lt__» ⟨[.ref l,.ref b],[]⟩)
   (λA R s=>s.heap.get? l=some { cls:=.type "list",dict:=dd,data:=.seq c n,slots:=m }/\s.heap.get? b=some { cls:=.type "list",dict:=d,data:=.seq a j,slots:=f } /\
    WW (zC s.heap) c.toList ps/\WW (zC s.heap) a.toList qs/\A.units+20<VD/\R (.ok (.ret (.bool (ltL ps qs)))) s):=by
 intro e w A R s h;obtain⟨p,z,x,v,u⟩:=s;revert h;refine fG λi g o q r h=>?_;have y:=sub_list_list;wp_walk using V9 i,V9 g;exact⟨Vf plain_eq_loop _,V8 entry_eq_loop (by
  rw[Wn plain_eq_loop _];exact zk0 l b c a n j dd d m f ps qs _ 0 rfl (W2 _) (W2 _) e w A R _ (dR i g o q r (↑h)))⟩
structure ListPairs (h:Heap)(v:Y1)(ps:List (Int×Int)):Prop where
 ex:∃a o xs n,v=.ref a/\h.get? a=some o/\o.cls=.type "list"/\o.data=.seq xs n/\WW (zC h) xs.toList ps
def zmx {prog:Xv}{w:W5}{A:WL}{E:Y1->X8->Prop}{s:X8}{v q:Y1}{ps qs:List (Int×Int)}{C:Bool->X8->Prop}(y:ListPairs s.heap v ps)(g:ListPairs s.heap q qs)(H:A.units+30<VD)(h:C (ltL ps qs) s) :
  Xh (Xn prog w) A (PyProof.Rows.keyLt' PyProof.Rows.oneType' v q) C E s:=by
 obtain⟨a,⟨u,x,p,D⟩,G,n,rfl,e,c1,o,B⟩:=y;obtain⟨r,⟨m,d,data2,j⟩,l,z,rfl,f,b,c,i⟩:=g;simp only at c1 o b c;subst c1 o b c;rw[PyProof.Rows.keyLt'_oneType,PyProof.Rows.oneLt'_eq];simp only[if_true];refine X9 (wpAny_cRoomFor "a" ?_);refine X9 (wpAny_callSpecialIfBound?_slot (T:="list") ⟨_,e,rfl⟩ F.slot_list_lt ?_);refine Tg F.slot_list_lt ⟨_,e,rfl⟩ F.entry_list_lt (F.args_list_lt_2 _ _) (ziJ a r G l n z x d D j ps qs) (dR e f B i "a" ?_);exact V7 h
end PySem.SeqAt
namespace L2
open PySem PySem.Spec PyProof.Rows PySem.W PySem.SeqAt
namespace GS
def zqC:Wk ltL:=by
 refine⟨λx y h=>?_,λx y z h1 h2=>?_⟩
 .cases e:ltL y x with
  | false=>rfl
  | true =>
   have:=ziH h e;rw[zj2]at this;cases this
 .cases e:ltL z x with
  | false=>rfl
  | true =>
   by_cases a:x=y
   .subst a;rw[e]at h2;exact h2
   .have b:ltL x y=true:=by
     have:=zj3 (ps:=x) (qs:=y) a;rw[h1]at this;cases hh:ltL x y with
     | true=>rfl
     | false =>
      rw[hh]at this;cases this
    have:=ziH e b;rw[this]at h2;exact h2
def LstAt (H:Hp)(v:V)(ps:List (Int×Int)):Prop:=∃a b,v=V.ref a/\H a=some (.lst b)/\j9 H b ps
def zk1 {h:Heap}{vs:List Y1}{ps qs:List (Int×Int)}(d:WW (zC h) vs ps):WW (zC h) vs qs->ps=qs:=by
 induction d generalizing qs with
 | nil =>
  intro c;cases c;rfl
 | cons a _ e =>
  intro c;cases c with
  | cons b u=>rw[zfZ a b,e u]
def zmy {h:Heap}{v:Y1}{ps qs:List (Int×Int)}(h1:ListPairs h v ps)(h2:ListPairs h v qs):ps=qs:=by
 obtain⟨a,o,s,n,e,j,c1,g,l⟩:=h1;obtain⟨p,r,m,q,i,c,f,b,d⟩:=h2;subst e;cases i;rw[j]at c;cases c;rw[g]at b;injection b with b _
 subst b;exact zk1 l d
def Y0 {h h':Heap}(k:∀b o,h.get? b=some o->h'.get? b=some o){vs:List Y1}{ps:List (Int×Int)}(d:WW (zC h) vs ps):WW (zC h') vs ps:=by
 induction d with
 | nil=>exact .nil
 | cons q _ f =>
  obtain⟨a,o,n,t,u,e,c,r⟩:=q;exact .cons ⟨a,o,n,t,u,e,k _ _ c,r⟩ f
section
variable {X:Cx}{bQ:List (Addr×Obj)}{σ:St}{H:Hp}{s:X8}
def ziK (I:Inv X bQ σ H s){c:AF}{ks:List (List (Int×Int))}{b:List Y1}(d:WW (LstAt H) c ks)(r:Vals c b):WW (ListPairs s.heap) b ks:=by
 induction d generalizing b with
 | nil =>
  cases r;exact .nil
 | cons q _ g =>
  obtain⟨a,o,e,h,f⟩:=q;subst e;cases r with
  | cons i j =>
   cases i;refine .cons ?_ (g j);obtain⟨z,b,n,l,m,e⟩:=I.lstM h;exact⟨a,_,b.toArray,n,rfl,e,rfl,rfl,by rw[List.toList_toArray];exact j9.pairs I f l⟩
end
def ziL {h:Heap}{b:List Y1}{ks:List (List (Int×Int))}(f:WW (ListPairs h) b ks):∀v∈b,∃a o,v=WF a/\h.get? a=some o/\o.cls=.type "list":=by
 induction f with
 | nil=>exact λv hv=>nomatch hv
 | cons q _ g =>
  intro v hv;rcases XF.mp hv with rfl | hv
  .obtain⟨a,o,i,n,e,d,c,_⟩:=q;exact⟨a,o,e,d,c⟩
  .exact g v hv
end GS
open PySem PySem.Spec PyProof.Rows
section
variable {X:Cx}{K:X0}
def zmz (a:X.K=K):MtR X "str.join" (rJoin K):=by
 subst a;exact zog
def zhf (a:X.K=K):SlR X (zrT K):=by
 subst a;exact zcN
def zqD {T:String}{name:Str}{id:String}{r:V->AF->Hp->VK->Prop}{o e:Expr}{c:List Expr}{g:TE}{t:TA}{b a:Pos}(l:X.K=K)(q:PlainAttrs T)(d:Slot T name id)(f:typeOf (.builtin id)=pure (.type "method_descriptor"))(n:MtR X id r)(p:PE X o g)(m:PA X (e::c) t)
  (h1:OG o name X.env (eval o X.env)=eval o X.env:=by rfl)
  (h2:((S5 a (WO (e::c) X.env)).all (λx=>!x.1)&&(backToKw a (keywordEach [] X.env)).all (λx=>x.1.isSome)
   && decide ((e::c).length+([]:List N7).length+(if ([]:List N7).isEmpty then 0 else 1)<30))=true:=by rfl)
  (h:(b.endLine==a.line)=true:=by rfl) (i:WO (e::c) X.env=(false,eval e X.env)::WO c X.env:=by rfl) (j:(S5 a (WO c X.env)).any (·.1)=false:=by rfl) :
  PE X (.Call (.Attribute o name b) (e::c) [] a) (tBM K T r g t):=by
 subst l;exact ZD q d f n p m h1 h2 h i j
end
def HasDef (K:X0)(x:Str)(st:Stmt):Prop:=∃(f:Addr) (e:Y1) (g b:Option Addr) (i:Array (Option Y1)) (kV d h a c:Y1),XJ K XO x=some (some (.ref f))/\K.lookup f=some ⟨e,g,.func (UE x x (Zt st) (xQ st) (zo st) .none kV d h b a c),i⟩/\SW K a x=true/\TL K (.ref f)=true
def us0 {P:List Y1->Prop}(h:P []):∀b:List Y1,b.length=0->P b:=by
 intro b e;cases b with
 | nil=>exact h
 | cons a t=>cases e
def usS {n:Nat}{P:List Y1->Prop}(h:∀a t,t.length=n->P (a::t)):∀b:List Y1,b.length=n+1->P b:=by
 intro b e;cases b with
 | nil=>cases e
 | cons a t=>exact h a t (Nat.succ.inj e)
def us1 {P:List Y1->Prop}(h:∀a,P [a]):∀b:List Y1,b.length=1->P b:=usS λa=>us0 (h a)
def us2 {P:List Y1->Prop}(h:∀a b,P [a,b]):∀c:List Y1,c.length=2->P c:=usS λa=>us1 (h a)
def us3 {P:List Y1->Prop}(h:∀a b c,P [a,b,c]):∀d:List Y1,d.length=3->P d:=usS λa=>us2 (h a)
def us4 {P:List Y1->Prop}(h:∀a b c d,P [a,b,c,d]):∀e:List Y1,e.length=4->P e:=usS λa=>us3 (h a)
def us5 {P:List Y1->Prop}(h:∀a b c d e,P [a,b,c,d,e]):∀f:List Y1,f.length=5->P f:=usS λa=>us4 (h a)
def HasDef.at {K:X0}{h:Heap}{i:Str->Option Y1}{x:Str}{st:Stmt}{ps:AE}(H:HasDef K x st)(X:K.In h)(G:h.Ns XO i)
  (n:∀(kV doc j:Y1) (e:Option Addr) (b g:Y1) (d:List Y1),d.length=ps.length->bindArgs (UE x x (Zt st) (xQ st) (zo st) .none kV doc j e b g) ⟨d,[]⟩=pure (ps.zip d):=by intro _ _ _ _ _ _;first | exact us1 λ_=>rfl | exact us2 λ_ _=>rfl | exact us3 λ_ _ _=>rfl | exact us4 λ_ _ _ _=>rfl | exact us5 λ_ _ _ _ _=>rfl):∃f m,zm K i x st ps f m:=by
 revert H;refine fB λf q r e=>fB λs kV p j=>fm λo g a l c k=>?_;have F:=zlT (st:=st) l c k;exact⟨f,_,F,Wh X G a,F.binds n⟩
open PySem PySem.W
inductive Rd1 (σ:St)(i:Nat)(Q:VK)(H:Hp):Prop
 | mk (v:V) (h:σ[i]?=some (some v)) (q:Q v H):Rd1 σ i Q H
def _root_.Zs.HD.at {K:X0}{h:Heap}{i:Str->Option Y1}{x:Str}{ι:Nat}{ps:AE}(H:Zs.HD K x ι)(X:K.In h)(G:h.Ns XO i)
  (n:∀(kV doc j:Y1) (e:Option Addr) (b g:Y1) (d:List Y1),d.length=ps.length->bindArgs (UE x x (Zt (Zs.top ι)) (xQ (Zs.top ι)) (zo (Zs.top ι)) .none kV doc j e b g) ⟨d,[]⟩=pure (ps.zip d):=by intro _ _ _ _ _ _;first | exact us1 λ_=>rfl | exact us2 λ_ _=>rfl | exact us3 λ_ _ _=>rfl | exact us4 λ_ _ _ _=>rfl | exact us5 λ_ _ _ _ _=>rfl):∃f m,zm K i x (Zs.top ι) ps f m:=HasDef.at (st:=Zs.top ι) H X G n
def tVS (i:Nat):TE:=fun a H Q=>Rd1 a i Q H
section
variable {X:Cx}
def pvS (i:Nat){x:Str}{pos:Pos}(c:X.N[i]?=some x:=by rfl)(f:Vis X.env.scope x:=by first | exact VI rfl | exact Pg (VI rfl) | exact Pg (Pg rfl))(d:(x==("__debug__":Str))=false:=by decide)
  (a:(x==("__classdict__":Str))=false:=by decide):PE X (.Name x pos) (tVS i):=by
 intro b s g H Q I h;obtain⟨v,e,q⟩:=h;exact pv i c f d a b s g H Q I ⟨v,e,q⟩
def OpR.imp {f:Y1->Y1->Sem Y1}{r a:R2}(h:OpR X f r)(k:∀x y H Q,a x y H Q->r x y H Q):OpR X f a:=λb s e H x y v u Q I c d z=>h b s e H x y v u Q I c d (k x y H Q z)
def IxR.imp {r c:R2}(h:IxR X r)(k:∀x y H Q,c x y H Q->r x y H Q):IxR X c:=λb a d s i H x y v u Q I f g z e=>h b a d s i H x y v u Q I f g (k x y H Q z) e
inductive SI0 (g:Int->Int->V)(x y:V)(H:Hp)(Q:VK):Prop
 | mk (i j:Int) (hx:x=.int i) (hy:y=.int j) (q:Q (g i j) H):SI0 g x y H Q
inductive SI (C:Int->Int->Prop)(g:Int->Int->V)(x y:V)(H:Hp)(Q:VK):Prop
 | mk (i j:Int) (hx:x=.int i) (hy:y=.int j) (hc:C i j) (q:Q (g i j) H):SI C g x y H Q
def OpR.s0 {f:Y1->Y1->Sem Y1}{g:Int->Int->V}(h:OpR X f (rI0 g)):OpR X f (SI0 g):=h.imp λ_ _ _ _ ⟨i,j,a,b,q⟩=>⟨i,j,a,b,q⟩
def OpR.s1 {f:Y1->Y1->Sem Y1}{C:Int->Int->Prop}{g:Int->Int->V}(h:OpR X f (rI C g)):OpR X f (SI C g):=h.imp λ_ _ _ _ ⟨i,j,a,b,c,q⟩=>⟨i,j,a,b,c,q⟩
def zQ:OpR X (Uv .Add) (SI0 λi j=>.int (i+j)):=zih.s0
def yC:OpR X (Uv .Sub) (SI0 λi j=>.int (i-j)):=zqc.s0
def qN:OpR X (Uv .Mod) (SI (λ_ j=>0<j) λi j=>.int (i%j)):=zqd.s1
def qX:OpR X (Uv .FloorDiv) (SI yV λi j=>.int (i/j)):=zlU.s1
def zmA:OpR X (Wf .Lt) (SI0 λi j=>.bl (decide (i<j))):=zrN.s0
def zf1:OpR X (Wf .LtE) (SI0 λi j=>.bl (decide (i<=j))):=zrO.s0
def ziM:OpR X (Wf .Gt) (SI0 λi j=>.bl (decide (j<i))):=zrP.s0
inductive zqE (K:X0)(x y:V)(H:Hp)(Q:VK):Prop
 | mk (p:Addr) (xs:AF) (i:Int) (v:V) (hx:x=.ref p) (hy:y=.int i) (hq:SqL K H p xs) (he:atI xs i=some v) (q:Q v H):zqE K x y H Q
inductive zr9 (K:X0)(x y:V)(H:Hp)(Q:VK):Prop
 | mk (p:Addr) (xs:AF) (i:Int) (v:V) (hx:x=.ref p) (hy:y=.int i) (hq:SqT K H p xs) (he:atI xs i=some v) (q:Q v H):zr9 K x y H Q
inductive zsa (x y:V)(H:Hp)(Q:VK):Prop
 | mk (z:Str) (i:Int) (c:Nat) (hx:x=.str z) (hy:y=.int i) (hl:z.length<=Xy) (he:atI z.cps.toList i=some c) (q:Q (.str ⟨#[c]⟩) H):zsa x y H Q
def qy:IxR X (zqE X.K):=zn3.imp λ_ _ _ _ ⟨p,e,i,v,a,b,c,d,q⟩=>⟨p,e,i,v,a,b,c,d,q⟩
def qh:IxR X (zr9 X.K):=zil.imp λ_ _ _ _ ⟨p,e,i,v,a,b,c,d,q⟩=>⟨p,e,i,v,a,b,c,d,q⟩
def zaf:IxR X zsa:=zqj.imp λ_ _ _ _ ⟨z,i,c,a,b,d,e,q⟩=>⟨z,i,c,a,b,d,e,q⟩
def zk2 {K:X0}(a:X.K=K):IxR X (zqE K):=a ▸ qy
inductive SB (x:V)(Q:Bool->Hp->Prop)(H:Hp):Prop
 | mk (k:Bool) (h:x=.bl k) (q:Q k H):SB x Q H
def zqF (t:TE):TT:=fun b H Q=>t b H λx a=>SB x Q a
def zw {op:NX}{r:R2}{a b:Expr}{f g:TE}{pos:Pos}(A:OpR X (Wf op) r)(o:PE X a f)(p:PE X b g)(w:Tp op b=false):PT X (.Compare a [op] [b] pos) (zqF (tOp r f g)):=by
 intro d s e H Q I h;refine SJ (thn (o d s e H _ I h) λv s1 ⟨x,i,m,G,B⟩=>thn (p d s1 e i _ m B) λu M ⟨y,j,n,J,D⟩=>thn (A d M e j x y v u _ n G J D) λc N ⟨z,l,I3,L,E⟩=>?_) w;obtain⟨k,rfl,q⟩:=E;cases L;exact V7 ⟨l,I3,q⟩
inductive zqG (K:X0)(xs:AF)(H:Hp)(Q:VK):Prop
 | mk (p:Addr) (ys:AF) (hx:xs=[.ref p]) (hq:SqL K H p ys\/SqT K H p ys) (q:Q (.int ys.length) H):zqG K xs H Q
def zE:jm X (.builtin "len") (zqG X.K):=λc s g H e d Q I r ⟨p,f,a,b,q⟩=>YU c s g H e d Q I r ⟨p,f,a,b,q⟩
def zdp {K:X0}(a:X.K=K):jm X (.builtin "len") (zqG K):=a ▸ zE
inductive zsb (x:V)(vs:AF)(H:Hp)(Q:VK):Prop
 | mk (l:Addr) (xs:AF) (y:V) (hx:x=.ref l) (hv:vs=[y]) (hl:H l=some (.lst xs)) (hz:xs.length<Xy) (q:Q .non (upd H l (.lst (xs++[y])))):zsb x vs H Q
def yF:MtM X "list.append" zsb:=λe s m H x i v h Q I g f ⟨l,j,y,a,b,c,d,q⟩=>zbP e s m H x i v h Q I g f (dI l j y a b c d q)
def zeY {ts:List Bool}{e:AF}{c:List Y1}(d:ts.map V.bl=e)(r:Vals e c):c=ts.map Ti:=by
 induction r generalizing ts with
 | nil =>
  cases ts with
  | nil=>rfl
  | cons a b=>cases d
 | cons i j h =>
  cases ts with
  | nil=>cases d
  | cons a b =>
   rw[Xe]at d;obtain⟨f,g⟩:=List.cons.inj d;subst f;cases i;rw[h g];rfl
def eqT (y:Bool):Y1->Bool
 | .bool a=>a==y
 | _=>false
def zk3:MtM X "list.count" (λx vs H Q=>∃(l:Addr) (ts:List Bool) (y:Bool),x=.ref l/\vs=[.bl y]/\H l=some (.lst (ts.map V.bl))/\Q (.int ((ts.countP λt=>t==y:Nat):Int)) H):=by
 intro m s A H x vs v p Q I j i h;revert h;refine fD λl ts y z0 z1 c q=>?_;subst z0 z1;cases j;obtain⟨u,rfl,g⟩:=i.one;cases g;refine fQ (λz f n r o e=>?_) (I.lstM c);have b:=zeY rfl r;subst b;refine Tg F.slot_list_count ⟨_,e,rfl⟩ F.entry_list_count (ON _ _) (Rp l (ts.map Ti).toArray n none #[] (.bool y) (eqT y)) ⟨e,λw d=>?_,?_⟩
 .obtain⟨a,_,rfl⟩:=XY.mp (Sk.mpr d);exact RI a y
 .refine⟨.int _,H,I.tok _,⟨_,rfl⟩,?_⟩;show Q (.int (((ts.map Ti).countP (eqT y):Nat):Int)) H;rw[T1];exact q
def zk4:MtM X "list.index" (λx vs H Q=>∃(l:Addr) (ts:List Bool) (y:Bool) (j:Nat),x=.ref l/\vs=[.bl y]/\H l=some (.lst (ts.map V.bl))/\ts[j]?=some y/\(∀m<j,ts[m]?=some (!y))/\j<=1000/\Q (.int (j:Nat)) H):=by
 intro J s O H x vs v N Q I E D h;revert h;refine gc λl ts y j z0 z1 f g i M q=>?_;subst z0 z1;cases E;obtain⟨u,rfl,B⟩:=D.one;cases B;refine fQ (λz A n r L e=>?_) (I.lstM f);have d:=zeY rfl r;subst d;obtain⟨h1,h2⟩:=X2.mp g;refine Tg F.slot_list_index ⟨_,e,rfl⟩ F.entry_list_index (F.args_list_index_2 _ _) (PySem.SeqAt.list_indexAt l (ts.map Ti).toArray n none #[] (.bool y) (eqT y) j ↑h1 "a" ?_ ?_) ⟨e,λw p=>?_,?_⟩
 .simp[eqT,h2]
 .intro m o b;obtain⟨G,c⟩:=X2.mp (i m b);simp[eqT,c]
 .obtain⟨a,_,rfl⟩:=XY.mp (Sk.mpr p);exact RI a y
 .exact⟨.int _,H,I.tok _,⟨_,rfl⟩,q⟩
end
def xeT (X:Cx)(d:List (Addr×Obj))(c:St->XK):Y1->X8->Prop:=λy e=>∃ a b s1,Inv X d a b s1/\CXE X.prog X.w X.stack b s1 (c a) y e
def zk5 (X:Cx)(a:List (Addr×Obj))(b:St->XK):Cx:={ X with pn:=X.pn++a,xe:=xeT X a b }
section
variable {X:Cx}{bQ ps:List (Addr×Obj)}{σ:St}{H:Hp}{s:X8}{EX:St->XK}
def Inv.intry (I:Inv X bQ σ H s)(EX:St->XK):Inv (zk5 X bQ EX) [] σ H s :=
 ⟨⟨I.ok.mod,I.ok.kind,I.ok.glob,I.ok.blt,I.ok.above,I.ok.inj,I.ok.has,I.ok.cab,I.ok.hd,I.ok.frames,I.ok.stk,I.ok.exf,I.ok.bs,I.ok.bsz,I.ok.noex,I.ok.exfs,I.ok.funs,I.ok.frf⟩,I.os,I.bare,I.base,I.loc,I.cell,I.free,I.freeC,(λp a=>I.pin p (by rw[Xc]at a;exact a)),I.hok,I.len⟩
def Inv.untry (I:Inv (zk5 X bQ EX) ps σ H s):Inv X bQ σ H s :=
 ⟨⟨I.ok.mod,I.ok.kind,I.ok.glob,I.ok.blt,I.ok.above,I.ok.inj,I.ok.has,I.ok.cab,I.ok.hd,I.ok.frames,I.ok.stk,I.ok.exf,I.ok.bs,I.ok.bsz,I.ok.noex,I.ok.exfs,I.ok.funs,I.ok.frf⟩,I.os,I.bare,I.base,I.loc,I.cell,I.free,I.freeC,(λp a=>I.pin p (Xq _ a)),I.hok,I.len⟩
def zqH (sp:Sp)(EX:St->XK)(t:TA):TE:=fun σ H Q=>t σ H λb a=>sp b a Q (EX σ)
def zbp {k:Nat}{f:Addr}{v:Xz}{l:AE}{sp:Sp}{x:Str}{p pos:Pos}{e:Expr}{b:List Expr}{t:TA}(F:zT X.prog X.w X.K X.mg X.base (CXE X.prog X.w) k f v l sp)(J:ZY k X.A)(E:Gl (zk5 X bQ EX) x)(G:X.mg x=some (.ref f))(hk:TL X.K (.ref f)=true)(D:Binds X.K v l [])
  (B:PA (zk5 X bQ EX) (e::b) t) (i:(x==("__debug__":Str))=false:=by decide) (he:WO (e::b) X.env=(false,eval e X.env)::WO b X.env:=by rfl) (j:(S5 pos (WO b X.env)).any (·.1)=false:=by rfl) :
  PE (zk5 X bQ EX) (.Call (.Name x p) (e::b) [] pos) (zqH sp EX t):=by
 intro ps s σ H Q I h;refine Tc (zbd I E G ?_ i);refine PySem.W.callWith_K (h₀:=X.base) I.ok.mod.kin hk (thn (B pos ps s σ H _ I h) λg s1 ⟨L,n,a,r,q⟩=>⟨a.kIn,?_⟩) he j;have c:g.length=l.length:=by rw[<- r.length];exact F.len _ _ _ _ q
 have o:=D s1 g a.kIn (by rw[Xc];exact c);rw[Xc]at o;refine wpAny_call (S4 (F.run X.A X.stack s1 n ⟨g,[]⟩ g L _ _ J a.env0 o r q) λm M d=>?_);cases m with
 | error y=>exact⟨σ,n,s1,a.untry,d⟩
 | ok z =>
  cases z with
  | ret u=>exact a.after d
  | next=>exact U7 d
  | brk=>exact U7 d
  | cont=>exact U7 d
def zsc (K:X0)(S:Addr)(j:Nat)(g:(St->XK)->TS)(ts:TS):TS:=λD σ H =>
 g (fun d c _ f=>∃C,c=.ref C/\VC K C (.ref S)=some true/\∀e,f e=none ->
  ts { nx:=fun a b=>D.nx (a.set j none) b,rt:=D.rt,bk:=fun a b=>D.bk (a.set j none) b,ct:=fun a b=>D.ct (a.set j none) b } (d.set j (some (.ref e))) (upd f e (exO e C))) D σ H
def zov {j:Nat}{n M:Str}{S:Addr}{tb:(St->XK)->TS}{ts:TS}{m:List Stmt}{ac hp pos:Pos}{b0:Stmt}{d:List Stmt}
  (i:X.stack=X.env::X.outer) (Y:X.env.frame=some X.env.locals)
  (G:X.N.Nodup) (J:X.N[j]?=some n) (E:X.env.scope.names.lookup n=some .local) (gS:Gl X M) (O:qC X.K X.mg M S)
  (hb:∀bQ EX,PSs (zk5 X bQ EX) m (tb EX)) (hs:∀e,PSs (markX X e) (b0::d) ts) (U:(M==("__debug__":Str))=false:=by decide) :
  PS X (.Try m [.ExceptHandler (some (.Name M ac)) (some n) (b0::d) hp] [] [] pos) (zsc X.K S j tb ts):=by
 intro bQ s σ H D I h;refine wpAny_Try_except (VQ (hb bQ _ [] s σ H D (I.intry _) h) (λf s1 q=>?_) λy s' q=>?_)
 .cases f with
  | next =>
   obtain⟨a,l,c,q⟩:=q;exact Tk ⟨a,l,c.untry,q⟩
  | brk =>
   obtain⟨a,l,c,q⟩:=q;exact⟨a,l,c.untry,q⟩
  | cont =>
   obtain⟨a,l,c,q⟩:=q;exact⟨a,l,c.untry,q⟩
  | ret u =>
   revert q;refine fP λv a l c r q=>?_;exact⟨v,a,l,c.untry,r,q⟩
 .revert q;refine fT λa l s1 c=>fB λe C a0 B=>fu λH' z0 L=>fu λC' ec aa ab=>?_;subst z0;cases ec;have ff:=L.fly;rw[i]at ff;refine wpAny_looks_onW (by rw[c.ok.frames,i]) Y ff λh4 ai ae=>?_;refine wpAny_landsW ai λh5 x af=>?_;have up:=ae.trans af;have Q:=L.caught c (h:=h5) (by rw[i];exact x) up;refine wpAny_handleBy_cons (codeAny_handlers_test (zbd (X:=markX X e) (Q.mark e) gS O.g ?_ U)) (by intro z;cases z);obtain⟨bm,OS⟩:=zpA Q.kIn O.q;refine fm (λoe aj q1 q2 q3 _=>?_) x.first;refine zod OS q1 q2 (Sc Q.kIn aa) (codeAny_handlers_suite_as ?_);refine lands_againW x λh6 ah ag=>?_;have I6:=L.caught c (h:=h6) (by rw[i];exact ah) (up.trans ag);refine zc2 (X:=markX X e) (I6.mark e) G J (.inl E) (v:=.ref e) rfl (λs7 I7=>?_) (.inr E);refine VQ (hs e bQ s7 _ _ _ I7 (ab e L.free)) (λfl s8 b=>?_) λ_ _ z=>z.elim;cases fl with
  | next =>
   revert b;refine fK λA o p b=>?_;exact(p.unmark I.ok).nameGoes G J E λs9 w=>⟨_,o,w,b⟩
  | brk =>
   revert b;refine fK λA o p b=>?_;exact(p.unmark I.ok).nameGoes G J E λs9 w=>⟨_,o,w,b⟩
  | cont =>
   revert b;refine fK λA o p b=>?_;exact(p.unmark I.ok).nameGoes G J E λs9 w=>⟨_,o,w,b⟩
  | ret u =>
   revert b;refine fP λv8 A o p r8 b=>?_;exact(p.unmark I.ok).nameGoes G J E λs9 w=>⟨v8,_,o,w,r8,b⟩
end
section
variable {X:Cx}{k k0:Nat}{f:Addr}{fd:Xz}{ps:AE}{sp:Sp}{x:Str}{st:Stmt}{p pos:Pos}{e:Expr}{es:List Expr}{t:TA}
def pc0 (F:zT X.prog X.w X.K X.mg X.base CX0 k f fd ps sp)(i:ZY k0 X.A)(D:zm X.K X.mg x st ps f fd)(d:PA X (e::es) t)(hk:k<=k0:=by decide)(h:Gl X x:=by rfl)
  (a:(x==("__debug__":Str))=false:=by decide) (he:WO (e::es) X.env=(false,eval e X.env)::WO es X.env:=by rfl) (c:(S5 pos (WO es X.env)).any (·.1)=false:=by rfl) :
  PE X (.Call (.Name x p) (e::es) [] pos) (zlP sp [] E0 t):=zjH F (i.mono hk) h D.g D.F.kp D.b .nil zrU d a he c
def pcL {E:XK}(L:QC X E)(F:zT X.prog X.w X.K X.mg X.base (CXE X.prog X.w) k f fd ps sp)(i:ZY k0 X.A)(D:zm X.K X.mg x st ps f fd)(d:PA X (e::es) t)(hk:k<=k0:=by decide)(h:Gl X x:=by rfl)
  (a:(x==("__debug__":Str))=false:=by decide) (he:WO (e::es) X.env=(false,eval e X.env)::WO es X.env:=by rfl) (c:(S5 pos (WO es X.env)).any (·.1)=false:=by rfl) :
  PE X (.Call (.Name x p) (e::es) [] pos) (zlP sp [] E t):=zjH F (i.mono hk) h D.g D.F.kp D.b .nil (QC.passes L) d a he c
end
def Qu:0<=Xy:="d"
def sz_1:1<=Xy:="d"
def Jm:2<=Xy:="d"
def zmB:3<=Xy:="d"
def zs9:6<=Xy:="d"
open PySem PySem.Spec PyProof.Rows PySem.W
def zse {a:List (Key×V)}{vs:List (Key×Y1)}{i:Nat}{p:Key×Y1}(r:KV a vs)(h:vs[i]?=some p):∃b,a[i]?=some b/\b.1=p.1/\RelV b.2 p.2:=by
 induction r generalizing i with
 | nil=>cases h
 | cons d _ c =>
  cases i with
  | zero =>
   cases h;exact⟨_,rfl,d⟩
  | succ i=>exact c ↑h
def zmC {P:Xv}{w:W5}{H:Hp}{h:Heap}{d:Addr}{o:Obj}{c:List (Key×V)}{m:Array Od}{ep:Nat}(e:o.data=.dict m ep)(x:qv P w H h d (.frz o (.dK c))):∃vs,KV c vs/\h.DictAt (zK P w) d vs ep:=by
 revert x;refine fO λp _ _=>fq λvs f i=>?_;obtain⟨l,g⟩:=i.dictAt;refine fm (λs n b q a r=>?_) (id g);rw[p]at b;cases b;rw[e]at a;injection a with _ j
 subst j;exact⟨vs,f,g⟩
def zow {k:Key}{v:Y1}(h:zcd k v=true):RelV (kV k) v:=by
 rcases qU h with ⟨i,t,rfl,rfl⟩ | ⟨x,t,rfl,rfl⟩
 .exact⟨t,rfl⟩
 .exact⟨t,rfl⟩
def zf2 (v d:Addr):HO:=.ext λh=>h.IsItemsView v d
def Itp (d:Addr)(o:Obj)(a:List (Key×V)):It :=
 ⟨λi H=>H d=some (.frz o (.dK a))/\i<a.length,λi H x c=>∃(T:Addr) (b:Key×V),a[i]?=some b/\x=.ref T/\H T=none/\c=upd H T (.tup [kV b.1,b.2]),λi H=>H d=some (.frz o (.dK a))/\a.length<=i⟩
def ziN {P:Xv}{w:W5}{A:WL}(hh:A.handled=none)(I d:Addr)(hne:d≠I)(kvs:List (Key×Y1))(ep:Nat):WalksT P w A I [I,d] [I] kvs.length (λi vals=>∃key k x,vals=#[key,x]/\kvs[i]?=some (k,x)/\zcd k key=true)
  (λi h=>(∃ok ov,IsItemIter h I d i kvs.length ep ok ov)/\h.DictAt (zK P w) d kvs ep) (λi T h=>(∃ok ov,IsItemIterOut h I d (i+1) kvs.length ep ok ov T)/\h.DictAt (zK P w) d kvs ep/\T≠I) where
 sub:=λb hb=>by simp at hb;simp[hb]
 frame:=λi h h' st hk=>by
  obtain⟨⟨ok,ov,he⟩,hm⟩:=st;exact⟨⟨ok,ov,hk I "s" _ he⟩,hm.at' λo e=>hk d "s" o e⟩
 item:=λi s Q E hi st hQ=>by
  obtain⟨⟨ok,ov,he⟩,hm⟩:=st;obtain⟨⟨k,x⟩,hx⟩:∃p,kvs[i]?=some p:=⟨kvs[i],by simp[hi]⟩;refine wpAny_pyNext_items_item he hm hx λkey h' hkey ho hT hsz hk=>?_;exact hQ s.heap.objs.size #[key,x] h' s.toks ⟨key,k,x,rfl,hx,hkey⟩ (XW _) ⟨_,hT,rfl,_,rfl⟩ ⟨⟨key,x,ho⟩,hm.at' (λo e=>hk d o hne e),Vg (XE he)⟩ λb o hb e=>hk b o (λh=>hb (by simp[h])) e
 go:=λelts k pos i T s Q E hm hQ=>by
  obtain⟨⟨ok,ov,ho⟩,hd,hTI⟩:=hm;refine wpAny_letOwnedTupleGo_items ho λh' he hs=>?_;exact hQ h' ⟨⟨ok,ov,he⟩,hd.extBut hs.extBut hne⟩ λb o hb e=>hs.extBut b o (λh=>hb (by simp[h])) e
 apart:=λi T h hm hT=>hm.2.2 ↑hT
 done:=λs Q E st hQ=>by
  obtain⟨⟨ok,ov,he⟩,hm⟩:=st;exact PB hh he hm "s" λh' hx=>hQ h' s.toks λb o hb e=>hx b o (λh=>hb (by simp[h])) e
 self:=λi s Q E st h=>by
  obtain⟨⟨ok,ov,he⟩,_⟩:=st;exact kcp_self he h
def ziO {P:Xv}{w:W5}{K:X0}{elts:List Expr}{kk:Nat}{pos:Pos}(d it:Addr)(hne:d≠it)(o:Obj)(kvs:List (Key×V))(es:Array Od)(ep:Nat)(hdd:o.data=.dict es ep):Turn P w K (.Tuple elts kk pos) (Itp d o kvs) [it] it (λi h=>∃ok ov,IsItemIter h it d i kvs.length ep ok ov) where
 mem:="s"
 obj:=λi h st b hb=>by
  have e:b=it:=by simpa using hb
  subst e;obtain⟨ok,ov,he⟩:=st;exact Jk he rfl
 keep:=λi h h' ⟨ok,ov,he⟩ k=>⟨ok,ov,k it "s" _ he⟩
 item:=by
  intro X hP hw hK hc i bQ s σ H E I hf st hg;subst hP hw hK;obtain⟨hd,hi⟩:=hg;obtain⟨vs,rel,da⟩:=zmC hdd (show qv X.prog X.w H s.heap d (.frz o (.dK kvs)) from I.hok d _ hd);have hl:=rel.length;obtain⟨ok,ov,he⟩:=id st;rw[hl]at st;refine zfM (wr:=[it]) (J:=Itp d o kvs) (tn:=λi h=>∃ok ov,IsItemIter h it d i kvs.length ep ok ov) I hf (λb hb=>?_) (λb hb=>hb) (ziN (I.ok.hd hc) it d hne vs ep) "a" ⟨st,da⟩ (λT vals hn hp=>?_) λh'' q=>by rw[hl];exact q.1
  .have e:b=it:=by simpa using hb
   subst e;exact⟨_,he⟩
  .revert hp;refine fP λkey k x z0 hx hkey=>?_;subst z0;obtain⟨kv,hkv,ek,rv⟩:=zse rel hx;have e2:kv.1=k:=ek;exact eB [kV kv.1,kv.2] (.cons (by rw[e2];exact zow hkey) (.cons rv .nil)) (by show 2<=Xy;decide) T kv hkv rfl hn rfl
 done:=by
  intro X hP hw hK hc i bQ s σ H E I hf st hg;subst hP hw hK;obtain⟨hd,hi⟩:=hg;obtain⟨vs,rel,da⟩:=zmC hdd (show qv X.prog X.w H s.heap d (.frz o (.dK kvs)) from I.hok d _ hd);have hl:=rel.length;obtain⟨ok,ov,he⟩:=st;refine fG (λf0 f1 f2 f3 f4 f5=>?_) (hf it "s");rw[hl]at he;exact PB (I.ok.hd hc) he da (Tv.mpr (by rw[<- hl];exact hi)) λh' eb=>⟨rfl,I.turned (t':=s.toks) (λb ob hb e=>eb b ob hb e) f0 f1 f3 f4 f5⟩
 self:=λA i s Q E st h=>by
  obtain⟨ok,ov,he⟩:=st;exact kcp_self he h
section
variable {X:Cx}{tg:Expr}
def zqJ (tl:TE):TI:=fun d H R=>tl d H λx c=>∃(v a:Addr) (b:List (Key×V)),x=.ref v/\c v=some (zf2 v a)/\c a=some (.dK b)/\∀o,R (Itp a o b) (upd c a (.frz o (.dK b)))
def zhg {l:Expr}{tl:TE}{g:List Expr}{kk:Nat}{pos:Pos}(Q:PE X l tl):PI X (.Tuple g kk pos) l (zqJ tl):=by
 intro J s σ H R I h;refine thn (Q J s σ H _ I h) λv s1 ⟨x,j,f,r1,q1⟩=>?_;revert q1;refine fD λm a c e U G q=>?_;subst e;cases r1;refine fH (λY N vs i D=>?_) (show qv X.prog X.w j s1.heap a (.dK c) from f.hok a _ G);have d:s1.heap.IsItemsView m a:=(show qv X.prog X.w j s1.heap m (zf2 m a) from f.hok m _ U).1;obtain⟨L,B⟩:=D.dictAt;refine fm (λo M A hc r hr=>?_) (id B);refine wpAny_pyIter_items d B ?_;have E:a<s1.heap.objs.size:=XE A;have y:j s1.heap.objs.size=none:=f.hok.fresh (XW _);refine dO s1.heap.objs.size [s1.heap.objs.size] _ (Itp a o c) (upd j a (.frz o (.dK c))) rfl ?_ (ziO a _ (Xi E) o c M L r) ⟨.none,.none,by rw[i.length];exact Xf _ rfl⟩ (λb O=>?_) (q o)
 .refine f.write (x:=a) (e:=a) (t':=s1.toks) (by rw[G];exact UU) (.inl rfl) (λb u _ z=>X6 _ z) ⟨o,X6 _ A⟩ (fc (X6 _ A) Y N (dG vs i ?_));revert D;refine fT λo2 p n h1 h2=>?_;exact fh o2 p n (X6 _ h1) h2
 .have e:b=s1.heap.objs.size:=by simpa using O
  subst e;refine f.fpOk (XW _) ?_;rw[zg (Vg E)];exact y
def zeZ:MtM X "dict.items" (λx vs H Q=>∃d a,x=.ref d/\vs=[]/\H d=some (.dK a)/\∀v,H v=none->Q (.ref v) (upd H v (zf2 v d))):=by
 intro B s J H x vs v G Q I y r h;revert h;refine fm λd a z0 z1 g q=>?_;subst z0 z1;cases y;cases r;refine fH (λz f A p c=>?_) (zl7 I.hok g);refine call_meetsIn S6 c.typeIs PySem.F.entry_dict_items (PySem.F.args_dict_items_1 _) (meets_dict_items (zK X.prog X.w) d f) ⟨⟨A,c⟩,?_⟩;have i:H s.heap.objs.size=none:=I.hok.fresh (XW _);have j:(s.heap.push { cls:=.type "dict_items",data:=.fields #[.ref d] }).IsItemsView s.heap.objs.size d:=⟨_,Xf _ rfl,rfl,rfl⟩;refine⟨.ref s.heap.objs.size,upd H s.heap.objs.size (zf2 s.heap.objs.size d),I.laid (t':=s.toks) (λb u e=>X6 _ e) (XW _) ?_,rfl,q _ i⟩;exact⟨j,⟨_,Xf _ rfl⟩,λD E ⟨l,m,n,o⟩ k=>⟨l,k _ m,n,o⟩⟩
end
def ze0 {d:Addr}{o:Obj}{a:List (Key×V)}{g:TG}{s:TS}{D:Ends}{b:St}{H:Hp}(Pv:Nat->St->Hp->Prop)(h0:Pv 0 b H)(w:∀i b H,i<=a.length->Pv i b H->H d=some (.frz o (.dK a)))
  (A:∀i l T b H,a[i]?=some l->H T=none->Pv i b H->g (.ref T) b (upd H T (.tup [kV l.1,l.2])) fun h n=>s { D with nx:=Pv (i+1),ct:=Pv (i+1),bk:=D.nx } h n) (u:∀ b H,Pv a.length b H->D.nx b H) :
  ∃W:Nat->Nat->St->Hp->Prop,(∃m,W 0 m b H)/\∀i m b H,W i m b H ->
   ((Itp d o a).stop i H/\D.nx b H)\/((Itp d o a).go i H/\∃N:St->Hp->Prop,(∀ f c,N f c->∃r,r<m/\W (i+1) r f c)/\∀x c,(Itp d o a).yld i H x c->g x b c fun h n=>s { D with nx:=N,ct:=N,bk:=D.nx } h n):=by
 refine⟨λi m b H=>m=a.length-i/\i<=a.length/\Pv i b H,⟨a.length,"s",W2 _,h0⟩,?_⟩;rintro i m b H ⟨rfl,v,p⟩;have q:=w i b H v p;by_cases j:i<a.length
 .refine .inr ⟨⟨q,j⟩,Pv (i+1),fun f c B=>⟨a.length-(i+1),"a",rfl,j,B⟩,λx c y=>?_⟩;revert y;refine fm λT l hk z0 z z1=>?_;subst z0 z1;exact A i l T b H hk z p
 .have e:i=a.length:="a"
  subst e;exact .inl ⟨⟨q,XW _⟩,u b H p⟩
section
variable {X:Cx}
def Inv.thaw {h:List (Addr×Obj)}{m:St}{H:Hp}{s:X8}{d:Addr}{o:Obj}{f:List (Key×V)}(I:Inv X h m H s)(a:H d=some (.frz o (.dK f)))(h0:∀o u,X.H₀ d≠some (.frz o u)):Inv X h m (upd H d (.dK f)) s:=by
 have J:qv X.prog X.w H s.heap d (.frz o (.dK f)):=I.hok d _ a;refine⟨I.ok,I.os,I.bare,?_,I.loc,I.cell,?_,?_,?_,?_,I.len⟩
 .have u:=I.base;refine⟨u.keep,u.slot,λb ob y A B=>?_,u.there,λb l e=>?_,λb ob v e=>?_,λb L e=>?_⟩
  .have n:=u.free b ob y A B;rw[zg (λe=>by rw[e,a]at n;cases n)];exact n
  .have n:=u.tups b l e;rw[zg (λz=>by rw[z,a]at n;cases n)];exact n
  .have n:=u.frzs b ob v e;rw[zg (λz=>by subst z;exact h0 _ _ e)];exact n
  .obtain⟨more,n⟩:=u.tbls b L e;exact⟨more,by rw[zg (λz=>by rw[z,a]at n;cases n)];exact n⟩
 .rw[zg (λz=>by have n:=I.free;rw[z,a]at n;cases n)];exact I.free
 .intro x c e;have n:=I.freeC x c e;rw[zg (λz=>by rw[z,a]at n;cases n)];exact n
 .intro p G;obtain⟨h1,h2,D⟩:=I.pin p G;refine⟨h1,?_,D⟩;rw[zg (λz=>by rw[z,a]at h2;cases h2)];exact h2
 .intro b u e;by_cases i:b=d
  .subst i;rw[zb]at e;cases e;revert J;refine fO λ_ z E=>fq λM g r=>?_;exact⟨z,E,M,g,r⟩
  .rw[zg i]at e;refine(I.hok b u e).stay (λc v _ q=>q) (λc q=>?_) λc l q=>?_
   .by_cases j:c=d
    .subst j;rw[a]at q;cases q
    .rw[zg j];exact q
   .rw[zg (λz=>by rw[z,a]at q;cases q)];exact q
def zsf (t:TS):TS:=λD e H=>t { D with nx:=fun b c=>∃(d:Addr) (o:Obj) (a:List (Key×V)),c d=some (.frz o (.dK a))/\(∀o u,H d≠some (.frz o u))/\D.nx b (upd c d (.dK a)) } e H
def zj4 {st:Stmt}{t:TS}(h:PS X st t):PS X st (zsf t):=by
 intro c s m H D I j;refine thn (h c s m H _ I j) λf p e=>?_;cases f with
 | next =>
  revert e;refine fK λa n b=>fP λd o l g i q=>?_;exact⟨a,_,b.thaw g λo u z=>i _ _ (I.base.frzs d _ _ z),q⟩
 | brk=>exact e
 | cont=>exact e
 | ret u=>exact e
end
abbrev KI:=Key×Y1×Y1
def JN (ks:List KI):List (Key×Y1):=ks.foldl (λa q=>PV a q.1 q.2.2) []
def zf3 (ks:List KI)(q:KI):JN (ks++[q])=PV (JN ks) q.1 q.2.2:=by
 unfold JN;rw[Vw];rfl
def ziP (xs:List (Key×Y1))(k:Key)(v:Y1):(PV xs k v).length<=xs.length+1:=by
 unfold PV;split
 .rw[ZB];lia
 .rw[X5];exact XW _
def zcj (ks:List KI):(JN ks).length<=ks.length:=by
 suffices h:∀(ks:List KI) (a:List (Key×Y1)),(ks.foldl (λa q=>PV a q.1 q.2.2) a).length<=a.length+ks.length by
  have:=h ks [];simpa[JN] using this
 intro ks;induction ks with
 | nil=>intro a;exact XW _
 | cons q r b =>
  intro a;have h1:=b (PV a q.1 q.2.2);have h2:=ziP a q.1 q.2.2;rw[Wp,XA];lia
section
variable {prog:Xv}{w:W5}{A:WL}{R:PY->X8->Prop}{I:Addr}{fp wr:List Addr}{G:Array UW->Array UW->Prop}{n:Nat}{P:Nat->Y1->Prop}{St:Nat->X8->Prop}
def zhh {h0:Heap}(W:WalksS prog w A.in1 I fp wr G n P St)(D:Addr)(u:D ∉ fp)(M:h0.get? D=none)(ae:∀b∈wr,h0.get? b=none)(ks:List KI)(y:ks.length=n)(g:n<=Xy)(hu:A.units+1<VD)
  (ac:∀q∈ks,(zK prog w).is q.1 q.2.1=true) (hP:∀i v,P i v->∃r q,v=.ref r/\ks[i]?=some q/\Ph h0 r #[q.2.1,q.2.2]) :
  ∀(k i:Nat) (s:X8),n-i=k->i<=n->St i s->(∀b o,h0.get? b=some o->s.heap.get? b=some o)->s.heap.DictOf (zK prog w) D (JN (ks.take i)) ->
   (∀s',N9 (D::wr) G s s'->s'.heap.DictOf (zK prog w) D (JN ks)->R (.ok (.ret .none)) s') ->
   Uj (Xn prog w) A (.builtin "dict.update.loop" ⟨[.ref D,.ref I,Uw (i:Int),.none],[]⟩) R s:=by
 have N:D ∉ wr:=λh=>u (W.sub _ h);have more:∀b∈wr,b∈D::wr:=λb g=>XQ _ g;have f:∀{h:Heap} {r:Addr} {L:Array Y1},(∀b o,h0.get? b=some o->h.get? b=some o)->Ph h0 r L->Ph h r L:=λp ⟨o,h1,h2,m,h3⟩=>⟨o,p _ _ h1,h2,m,h3⟩;have a:∀{s s':X8} {L:List (Key×Y1)},N9 wr G s s'->s.heap.DictOf (zK prog w) D L->s'.heap.DictOf (zK prog w) D L :=
  λd ⟨o,es,ep,e1,e2⟩=>⟨o,es,ep,d.heap D _ N e1,e2⟩
 have c:∀{s s':X8},N9 wr G s s'->(∀b o,h0.get? b=some o->s.heap.get? b=some o)->∀b o,h0.get? b=some o->s'.heap.get? b=some o:=λd p b o e =>
  d.heap b o (λg=>by
   rw[ae b g]at e;cases e) (p b o e)
 intro k;induction k with
 | zero =>
  intro i s hk hi l p U Q;have ab:i=n:="a"
  subst ab;refine V8 JM ?_;rw[Wn jq _];show Xh _ A.in1 (SF (.ref I) >>= _) _ _ s;refine X9 (W.done s _ _ l λs' d=>?_);show Xh _ A.in1 (Ro D [] >>= λ_=>ret UD) _ _ s';refine X9 (XR (XR (Q s' (d.mono more) ?_)));have:=a d U;rw[<- y,XH]at this;exact this
 | succ k ih =>
  intro i s hk hi l p U Q;have B:i<n:="a"
  refine V8 JM ?_;rw[Wn jq _];show Xh _ A.in1 (SF (.ref I) >>= _) _ _ s;refine X9 (W.item i s _ _ B l λv s' O H d=>?_);refine fy (λr q z0 hq ht=>?_) (hP i v O);subst z0;have J:=c d p;have Y:=a d U;have l1:=zcj (ks.take i);have l2:(ks.take i).length<=n:=by
   rw[XC];lia
  have tk:ks.take (i+1)=ks.take i++[q]:=by
   rw[XB,hq];rfl
  refine X9 (We (X9 (wpAny_tryCatch (zbk (f J ht) ?_))));refine We (wpAny_dictSet_pairs (ac q (X4 hq)) Y (λh' aa j=>?_) "a");have af:∀b o,h0.get? b=some o->h'.get? b=some o:=λb o e=>by
   rw[j.2 b (λz=>by
    rw[z,M]at e;cases e)]
   exact J b o e
  have d2:h'.DictOf (zK prog w) D (JN (ks.take (i+1))):=by
   rw[tk,zf3];exact aa
  refine XR ⟨Vf jq _,?_⟩;show Uj _ A (.builtin "dict.update.loop" ⟨[.ref D,.ref I,Uw ((i:Int)+1),.none],[]⟩) R _;rw[show ((i:Int)+1)=((i+1:Nat):Int) by lia];refine ih (i+1) _ "a" B (W.frame _ s' _ _ H (VH _ _) λb g o e=>?_) af d2 λag E x=>?_
  .rw[j.2 b (λz=>u (by rw[<- z];exact g))];exact e
  .refine Q ag (Moved.trans W.gtrans ((d.mono more).then_heap (VH _ _) λb o g e=>?_) E) x;rw[j.2 b (λz=>g (by rw[z];exact XT))];exact e
end
def zhi (H:Hp):AF->List (Key×V)->Prop:=WW λv b=>∃a,v=V.ref a/\H a=some (.tup [kV b.1,b.2])
def QJ (b:List (Key×V)):List (Key×V):=b.foldl (λa c=>putK a c.1 c.2) []
def zox {b:List (Key×V)}{ks:List KI}{a:List (Key×V)}{xs:List (Key×Y1)}(e:WW (λ(p:Key×V) (q:KI)=>p.1=q.1/\RelV (kV q.1) q.2.1/\RelV p.2 q.2.2) b ks)(r:KV a xs):KV (b.foldl (λa c=>putK a c.1 c.2) a) (ks.foldl (λa q=>PV a q.1 q.2.2) xs):=by
 induction e generalizing a xs with
 | nil=>exact r
 | cons q _ f =>
  obtain⟨h1,_,d⟩:=q;rw[Wp,Wp];refine f ?_;rw[<- h1];exact r.put _ d
def zoy {P:Xv}{w:W5}{H:Hp}{h:Heap}(ok:HOk P w H h){vs:AF}{c:List (Key×V)}{b:List Y1}(o:zhi H vs c)(j:Vals vs b):∃ks:List KI,WW (λ(p:Key×V) (q:KI)=>p.1=q.1/\RelV (kV q.1) q.2.1/\RelV p.2 q.2.2) c ks/\ks.length=b.length/\(∀q∈ks,(zK P w).is q.1 q.2.1=true)/\(∀(i:Nat) (v:Y1),b[i]?=some v->∃(d:Addr) (q:KI),v=WF d/\ks[i]?=some q/\Ph h d #[q.2.1,q.2.2]):=by
 induction o generalizing b with
 | nil =>
  cases j;exact⟨[],.nil,rfl,(λq hq=>nomatch hq),λi v e=>by simp at e⟩
 | @cons x f J L q _ s =>
  obtain⟨a,e,h1⟩:=q;cases j with
  | cons E D =>
  refine gb (λks y z B A=>?_) (s D);subst e;cases E;obtain⟨_,J,r,G⟩:=(show qv P w H h a (.tup [kV f.1,f.2]) from ok a _ h1);refine fy (λu I z0 l g=>?_) (vals2 r);subst z0;refine⟨(f.1,u,I)::ks,.cons ⟨rfl,l,g⟩ y,by rw[XA,XA,z],λq hq=>?_,λi v e=>?_⟩
  .rcases XF.mp hq with e | hq
   .subst e;exact zeP l
   .exact B q hq
  .cases i with
   | zero =>
    have m:WF a=v:=by simpa using e
    exact⟨a,_,m.symm,rfl,G⟩
   | succ i =>
    refine fy (λd q h1 h2 n=>?_) (A i v ↑e);exact⟨d,q,h1,↑h2,n⟩
section
variable {X:Cx}
set_option maxHeartbeats 8000000 in
theorem zdq (hu:X.A.units+64<VD)(hh:X.A.handled=none):jm X (.type "dict") (λxs H Q=>∃l Y f,xs=[.ref l]/\H l=some (.lst Y)/\zhi H Y f/\∀d,H d=none->Q (.ref d) (upd H d (.dK (QJ f)))):=by
 intro bQ s σ H xs aj Q I r h;revert h;refine fD λl Y f z0 hl hp q=>?_;subst z0;obtain⟨u,rfl,ru⟩:=vals1 r;cases ru;refine f9 (λhz p n rv e=>?_) (show qv X.prog X.w H s.heap l (.lst Y) from I.hok l _ hl);refine gb (λks af D ae L=>?_) (zoy I.hok hp rv);have big:=I.big;have y:p.length<=Xy:=by
  rw[<- rv.length];exact hz
 refine callType_codes (Q₁:=λN x=>N=.ref s.heap.objs.size/\x={ s with heap:=s.heap.push { cls:=.type "dict",data:=.dict #[] } }) PD (RJ _) P6 (kt_code_dict_new _ ⟨rfl,rfl⟩) ?_;rintro N x ⟨rfl,rfl⟩;have c:(s.heap.push { cls:=.type "dict",data:=.dict #[] }).DictOf (zK X.prog X.w) s.heap.objs.size []:=Heap.DictOf.new s.heap;have e1:(s.heap.push { cls:=.type "dict",data:=.dict #[] }).get? l=some { cls:=.type "list",dict:=none,data:=.seq p.toArray n,slots:=#[] }:=X6 _ e;refine⟨c.typeIs,Rn _ _,?_⟩;unfold UO.«dict.__init__»;refine X9 ?_;unfold Rm;refine X9 (Pq c.typeIs ?_);show Xh _ _ (pure (s.heap.objs.size,[WF l])) _ _ _;refine XR ?_;show Xh _ _ (Uq "dict.__init__" s.heap.objs.size (.ref l) [] .none) _ _ _;unfold Uq;have hT:To { s with heap:=s.heap.push { cls:=.type "dict",data:=.dict #[] } } (.ref l) "list":=⟨_,e1,rfl⟩;refine X9 (R4 hT ?_);rw[bw "d"];refine X9 (zjQ e1 (by simp[hh]) λh2 t2 U=>?_);rw[bw (show (none:Option Y1).isNone=true from rfl)];have M:∀b g,s.heap.get? b=some g->h2.get? b=some g:=λb g z=>U b g (X6 _ z);have E:h2.IsList l p.toArray:=⟨_,U _ _ e1,rfl,n,rfl⟩;refine X9 (UC (X9 (TW E ?_)));have G:l<s.heap.objs.size:=XE e;have j:s.heap.objs.size<h2.objs.size:=by
  revert c;refine fT λo _ _ ho _=>?_;exact XE (U _ _ ho)
 have J:l≠h2.objs.size:=Xi (U1 G j);have aa:s.heap.objs.size ∉ [h2.objs.size,l]:=by
  simp only[XF,VS,or_false,not_or];exact⟨Xi j,Vg G⟩
 refine XR ⟨Vf jq _,?_⟩;have ac:(h2.push { cls:=.type "list_iterator",data:=.fields #[.ref l,.int 0 0] }).DictOf (zK X.prog X.w) s.heap.objs.size []:=by
  revert c;refine fT λo es ep ho h3=>?_;exact fh o es ep (X6 _ (U _ _ ho)) h3
 refine zhh (h0:=s.heap) ((Walks.list (by simp[hh]) h2.objs.size l J p.toArray).toS) s.heap.objs.size aa (VG (XW _)) (λb hb=>?_) ks (by rw[D];simp) ↑y (by show X.A.units+1+1<VD;lia) ae (λi v hv=>L i v (by rw[<- hv];simp)) _ 0 _ rfl (W2 _)
  ⟨⟨_,Xf _ rfl,rfl,rfl⟩,E.push _⟩ (λb o z=>X6 _ (M b o z)) ac ?_
 .have e:b=h2.objs.size:=by simpa using hb
  rw[e];exact VG (VA j)
 .intro s' O ab;obtain⟨h',g',d',ai,ah⟩:=s';have eg:g'=s.gens:=O.gens;have ed:d'=s.drawn:=O.drawn;have eo:ah=s.os:=O.os;subst eg;subst ed;subst eo;have ag:∀b g,s.heap.get? b=some g->h'.get? b=some g:=λb g z=>by
   have lt:=XE z;refine O.heap b g (λhb=>?_) (X6 _ (M b g z));rcases XF.mp hb with e | hb
   .exact V3 _ (e ▸ lt)
   .have e:b=h2.objs.size:=by simpa using hb
    rw[e]at lt;exact V3 _ (U1 lt j)
  have B:KV (QJ f) (JN ks):=zox af .nil;have m:H s.heap.objs.size=none:=I.hok.fresh (XW _);refine⟨rfl,.ref s.heap.objs.size,_,I.laid (a:=s.heap.objs.size) (o:=.dK (QJ f)) (t':=ai) ag (XW _) ⟨?_,beq_eq_false_iff_ne.mpr (Vh (Xi big)),_,B,ab⟩,rfl,q _ m⟩;rw[Paired.length B];exact X7 (zcj ks) (by rw[D];exact y)
end
section
variable {X:Cx}{tg iter elt:Expr}{ifs:List Expr}{scope:UH}{pos:Pos}{N:AE}{src:List (Option Nat)}{cl:List (Str×Addr)}{wi:TI}{g:TG}{tc:TT}{te:TE}
def cP (a:scope.kind=.function:=by rfl)(b:∀y∈scope.names,y.2 ≠ .cell:=by decide+kernel)(c:∀y∈scope.names,y.2 ≠ .free:=by decide+kernel)(d:∀y∈scope.names,y.2=.local->scope.names.lookup y.1=some .local:=by decide+kernel)(e:src.length=N.length:=by rfl)(f:∀o∈src,o=none:=by decide):j8 X N src scope []:=j8.plain a b c d e f
def cR (a:scope.kind=.function:=by rfl)(b:∀y∈scope.names,y.2 ≠ .cell:=by decide+kernel)(c:∀y∈scope.names,y.2=.local->scope.names.lookup y.1=some .local:=by decide+kernel)(d:(scope.names.all λy=>y.2 != .free || (X.env.cells.lookup y.1).isSome)=true:=by kernel_rfl)(e:src.length=N.length:=by rfl)
  (f:((N.zip src).all λq=>match q.2 with | none=>true | some j=>X.N[j]?==some q.1&&X.env.kindOf q.1==some .cell&&(UG scope X.env).names.lookup q.1==some .cell)=true:=by kernel_rfl):j8 X N src scope (zaR (λx=>X.env.cells.lookup x) scope.names []):=j8.byRfl a b c d e f
def c1 {y:Str}(a:scope.kind=.function:=by rfl)(i:∀n g,SD n scope.names g=(y,n)::g:=by intro _ _;rfl)(l:∀h,Oc h scope.names=h.push { cls:=.type "cell",data:=.cell none }:=by intro _;rfl)(b:∀z∈scope.names,z.2=.cell->z.1=y:=by decide+kernel)(c:∀y∈scope.names,y.2=.local->scope.names.lookup y.1=some .local:=by decide+kernel)
  (d:(scope.names.all λy=>y.2 != .free || (X.env.cells.lookup y.1).isSome)=true:=by kernel_rfl) (e:src.length=N.length:=by rfl) (f:((N.zip src).all λq=>match q.2 with | none=>true | some j=>X.N[j]?==some q.1&&X.env.kindOf q.1==some .cell&&(UG scope X.env).names.lookup q.1==some .cell&&q.1 != y)=true:=by kernel_rfl):xZ X N src scope (zaR (λx=>X.env.cells.lookup x) scope.names []) y:=xZ.byRfl a i l b c d e f
def pgN (i:Nat){x:Str}(h:decide X.N.Nodup=true:=by kernel_rfl)(b:X.N[i]?=some x:=by rfl)(c:Loc X.env.scope x:=by first | exact VI rfl | exact Pg rfl)(a:X.fn x=true\/X.env.scope.names.lookup x=some .local:=by first | exact .inl rfl | exact .inr rfl):PG X (.Name x pos) (yv i):=zfH (bh h) b c a
def pgq (i:Nat){x:Str}(h:X.N.Nodup)(b:X.N[i]?=some x:=by rfl)(c:Loc X.env.scope x:=by first | exact VI rfl | exact Pg rfl)(a:X.fn x=true\/X.env.scope.names.lookup x=some .local:=by first | exact .inl rfl | exact .inr rfl):PG X (.Name x pos) (yv i):=zfH h b c a
def qf (i:Nat){x:Str}{e:Expr}{te:TE}{a:Pos}(b:X.N.Nodup)(he:PE X e te)(d:X.N[i]?=some x:=by rfl)(g:Loc X.env.scope x:=by first | exact VI rfl | exact Pg rfl)(f:RX e (some (.Name x a)) pos.line X.env=pure false:=by rfl)(c:X.fn x=true\/X.env.scope.names.lookup x=some .local:=by first | exact .inl rfl | exact .inr rfl):PS X (.Assign [.Name x a] e pos) (zlJ te (yv i)):=qP b d g he f c
def pcm (N:AE)(src:List (Option Nat))(ok:j8 X N src scope cl)(e:PI X tg iter wi)(d:∀{C fp b s H},PG (jK X N scope cl C fp b s H) tg g)(c:∀{C fp b s H},zcw (jK X N scope cl C fp b s H) ifs tc)(he:∀{C fp b s H},PE (jK X N scope cl C fp b s H) elt te)
  (a:X.calm=true:=by rfl) (f:∀x,VO iter X.env x=pure x:=by intro _;rfl):PE X (.ListComp elt [⟨tg,iter,ifs,0⟩] scope pos) (zce wi src g tc te):=zjK ok a e (λ_ _ _ _ _=>d) (λ_ _ _ _ _=>c) (λ_ _ _ _ _=>he) f
def zta {y:Str}(N:AE)(src:List (Option Nat))(ok:xZ X N src scope cl y)(e:PI X tg iter wi)(d:∀{C fp b s H},PG (yX X N scope cl y C fp b s H) tg g)(c:∀{C fp b s H},zcw (yX X N scope cl y C fp b s H) ifs tc)(he:∀{C fp b s H},PE (yX X N scope cl y C fp b s H) elt te)
  (a:X.calm=true:=by rfl) (f:∀x,VO iter X.env x=pure x:=by intro _;rfl):PE X (.ListComp elt [⟨tg,iter,ifs,0⟩] scope pos) (zce wi src g tc te):=zl5 ok a e (λ_ _ _ _ _=>d) (λ_ _ _ _ _=>c) (λ_ _ _ _ _=>he) f
def psC (i:Nat){x:Str}{b a:Pos}(j:X.N.Nodup)(N:AE)(src:List (Option Nat))(ok:j8 X N src scope cl)(n:PI X tg iter wi)(m:∀{C fp d s H},PG (jK X N scope cl C fp d s H) tg g)(l:∀{C fp d s H},zcw (jK X N scope cl C fp d s H) ifs tc)(he:∀{C fp d s H},PE (jK X N scope cl C fp d s H) elt te)
  (e:X.N[i]?=some x:=by rfl) (f:X.env.scope.names.lookup x=some .local:=by rfl) (c:X.calm=true:=by rfl) (o:∀x,VO iter X.env x=pure x:=by intro _;rfl) (h:RX (.ListComp elt [⟨tg,iter,ifs,0⟩] scope pos) (some (.Name x b)) a.line X.env=pure true:=by rfl) :
  PS X (.Assign [.Name x b] (.ListComp elt [⟨tg,iter,ifs,0⟩] scope pos) a) (zlJ (zce wi src g tc te) (yv i)):=zoe j e f ok c n (λ_ _ _ _ _=>m) (λ_ _ _ _ _=>l) (λ_ _ _ _ _=>he) o h
end
section
variable {X:Cx}{e:Expr}{te:TE}{x:Str}{p pos:Pos}{id T:String}{r:AF->Hp->VK->Prop}
def pb1 (b:jm X (.builtin id) r)(d:X.mg x=none)(g:U2 x=some (.builtin id))(he:PE X e te)(c:Gl X x:=by rfl)(f:x ≠ "__name__":=by decide)(a:(x==("__debug__":Str))=false:=by decide)(h1:WO [e] X.env=(false,eval e X.env)::WO [] X.env:=by rfl):PE X (.Call (.Name x p) [e] [] pos) (tCB r (zeE te zlO)):=Yd b c d g (za he ze h1) f a h1 rfl
def pb2 {a:Expr}{d:TE}(f:jm X (.builtin id) r)(h:X.mg x=none)(j:U2 x=some (.builtin id))(he:PE X e te)(h2:PE X a d)(g:Gl X x:=by rfl)(i:x ≠ "__name__":=by decide)(b:(x==("__debug__":Str))=false:=by decide)(h1:WO [e,a] X.env=(false,eval e X.env)::WO [a] X.env:=by rfl)(c:WO [a] X.env=(false,eval a X.env)::WO [] X.env:=by rfl):PE X (.Call (.Name x p) [e,a] [] pos) (tCB r (zeE te (zeE d zlO))):=Yd f g h j (za he (za h2 ze c) h1) i b h1 (by rw[c];rfl)
def pt1 (b:jm X (.type T) r)(d:X.mg x=none)(g:U2 x=some (.type T))(he:PE X e te)(c:Gl X x:=by rfl)(f:x ≠ "__name__":=by decide)(a:(x==("__debug__":Str))=false:=by decide)(h1:WO [e] X.env=(false,eval e X.env)::WO [] X.env:=by rfl):PE X (.Call (.Name x p) [e] [] pos) (tCB r (zeE te zlO)):=zkG b c d g (za he ze h1) f a h1 rfl
def pgx {K:X0}{C:Addr}(O:qC K X.mg x C)(b:Gl X x:=by rfl)(a:(x==("__debug__":Str))=false:=by decide):PE X (.Name x pos) (tC (.ref C)):=YR b O.g rfl a
def prg {c:Expr}(a:X.mg "range"=none)(he:PE X e te)(b:Gl X "range":=by rfl)(h1:WO [e] X.env=(false,eval e X.env)::WO [] X.env:=by rfl):PI X c (.Call (.Name "range" p) [e] [] pos) (zpu (zeE te zlO)):=zeC b a (za he ze h1) h1
end
def ST.call_lenS {X:Cx}:jm X (.builtin "len") (λxs H Q=>∃l ks,xs=[.ref l]/\H l=some (ST.zdj X.prog X.w l ks)/\ks.length<=1000/\Q (.int (ks.length:Nat)) H):=by
 intro g s m H xs j Q I r h;revert h;refine fm λl ks z0 d hk q=>?_;subst z0;obtain⟨u,rfl,f⟩:=vals1 r;cases f;obtain⟨⟨c,i,t,e,he,G,_,_⟩,_,_⟩:=(show qv X.prog X.w H s.heap l (ST.zdj X.prog X.w l ks) from I.hok l _ d);have a:ks.length=c.size:=by
  rw[<- XV,he,ZB]
 have b:=G.fits;rw[Vz]at b;exact call_len_set e ⟨rfl,rfl,rfl⟩ rfl b "a" ⟨.int (ks.length:Nat),H,I.tok _,⟨s.toks+1,by rw[a]⟩,q⟩
namespace GS
section
variable {prog:Xv}{w:W5}{A:WL}{E:Y1->X8->Prop}{s:X8}{rk:WI->Int}{κ:UV}{a0:Array WI}
theorem Zf {j e α:Type}{n:Nat}{f:Nat->Option j × e->StateT WJ Sem (ForInStep (Option j × e))}{g:Option j × e->StateT WJ Sem α}{Q:α->WJ->Prop}{l:e}{i:WJ}
  (I:Nat->e->WJ->Prop) (D:j->WJ->Prop) (J:e->WJ->Prop) (h0:I 0 l i)
  (step:∀x b st,x<n->I x b st->wpS (Xn prog w) A E s (f x (none,b)) (λc a=>match c with
   | .yield (none,d)=>I (x+1) d a
   | .done (none,d)=>J d a
   | .done (some r,_)=>D r a
   | _=>False) st)
  (m:∀b st,I n b st->J b st)
  (q:∀r b st,D r st->wpS (Xn prog w) A E s (g (some r,b)) Q st) (u:∀b st,J b st->wpS (Xn prog w) A E s (g (none,b)) Q st):wpS (Xn prog w) A E s (forIn [:n] (none,l) f >>= g) Q i:=by
 refine Xu (NY (R3 (I:=λx c st=>∃b,c=(none,b)/\I x b st) (Q:=λc st=>match c with | (none,b)=>J b st | (some r,_)=>D r st) ?_ ?_ ⟨l,rfl,h0⟩) ?_)
 .rintro x c st _ p ⟨b,rfl,o⟩;refine NY (step x b st p o) ?_;rintro(⟨_ | r,d⟩ | ⟨_ | r,d⟩) a h
  .exact h
  .exact h
  .exact⟨d,rfl,h⟩
  .exact h.elim
 .rintro c st ⟨b,rfl,h⟩;rw[show max 0 n=n by lia]at h;exact m b st h
 .rintro⟨_ | r,b⟩ st h
  .exact u b st h
  .exact q r b st h
def Yr {st:WJ}{left:Bool}{d:WI}{f:Array WI}{base n hint:Nat}{Q:Option Nat->WJ->Prop}(T:Tells prog w A s κ rk a0)(hk:kindOf st=κ)(e:d∈a0.toList)
  (he:∀i,i<n->∃x,f[base+i]?=some x/\x∈a0.toList) (v:hint<n) (h:∀k,k<=n->Q (some k) st):wpS (Xn prog w) A E s (gallop' left d f base n hint) Q st:=by
 have one:∀{i:Nat} {j:Option Bool->WJ->Prop},i<n->(∀b,j (some b) st)->wpS (Xn prog w) A E s (do
   let x <- elem' f (base+i)
   if left=true then lt' x d
    else do
     let r <- lt' d x
     pure (RW (λx=>!x) r)) j st:=by
  intro i j y q;obtain⟨x,u,p⟩:=he i y;refine Xu (jc u ?_);exact qk (λ_=>zmr T hk p e (q _)) λ_=>Xu (zmr T hk e p (Xj (q _)))
 refine Xu (one v λb=>?_);dsimp only;refine qk (λ_=>?_) λ_=>?_;all_goals
  refine Zf (λ_ _ a=>a=st) (λ_ _=>False) (λ_ a=>a=st) rfl ?_ (λ_ _ h=>h) (λ_ _ _ h=>h.elim) ?_
  .rintro x ⟨l,o⟩ st _ rfl;dsimp only;refine qk (λ_=>Xj rfl) λm=>?_;refine Xu (one "a" λb=>?_);dsimp only;exact qk (λ_=>Xj rfl) λ_=>Xj rfl
  .rintro⟨l,o⟩ st rfl;dsimp only;refine Zf (λ_ c a=>a=st/\c.2<=n) (λ_ _=>False) (λc a=>a=st/\c.2<=n) ⟨rfl,by dsimp only;lia⟩ ?_ (λ_ _ h=>h) (λ_ _ _ h=>h.elim) ?_
   .rintro x ⟨l,r⟩ st _ ⟨rfl,g⟩;dsimp only at g ⊢;refine qk (λ_=>Xj ⟨rfl,g⟩) λm=>?_;refine Xu (one "a" λb=>?_);dsimp only;exact qk (λ_=>Xj ⟨rfl,g⟩) λ_=>Xj ⟨rfl,by dsimp only;lia⟩
   .rintro⟨l,r⟩ st ⟨rfl,g⟩;exact Xj (h r g)
end
def I3 (L:List WI)(a:Array WI)(X Y:List WI):Prop:=(a.toList++(X++Y)).Perm L
section
variable {L X X' Y:List WI}{out u a:Array WI}{i k:Nat}{x:WI}
def I3.swap (h:I3 L out X Y):I3 L out Y X:=(List.perm_append_comm.append_left _).trans h
def I3.mv (h:I3 L out X Y)(e:X.Perm (u.toList++X')):I3 L (out++u) X' Y:=by
 unfold I3 at h ⊢;rw[Vq,WP,<- WP u.toList];exact((e.symm.append_right _).append_left _).trans h
def I3.mvB (h:I3 L out Y X)(e:X.Perm (u.toList++X')):I3 L (out++u) Y X':=(h.swap.mv e).swap
def zhj (e:a[i]?=some x):(a.toList.drop i).Perm (#[x].toList++a.toList.drop (i+1)):=by
 have:=zmu e;have h:=WR 1 (a.toList.drop i);rw[this,RR]at h;rw[<- h]
def zmD:(a.toList.drop i).Perm ((a.extract i (i+k)).toList++a.toList.drop (i+k)):=by
 rw[ext_toList _ _ _ (VH _ _),Uo,<- RR,WR]
def zmE (h:k<=i):(a.toList.take i).Perm ((a.extract k i).reverse.toList++a.toList.take k):=by
 obtain⟨j,rfl⟩:=Nat.exists_eq_add_of_le h;rw[OZ,ext_toList _ _ _ h,Uo,OD];exact UN.trans ((List.reverse_perm _).symm.append_right _)
def zhk (e:a[i-1]?=some x)(h:1<=i):(a.toList.take i).Perm (#[x].toList++a.toList.take (i-1)):=by
 have:=zmu e;have h2:=OD (l:=a.toList) (i:=i-1) (j:=1);rw[this,Nat.sub_add_cancel h]at h2;rw[h2];exact UN
def JO {b:Array WI}{j:Nat}(M:I3 L out (a.toList.drop i) (b.toList.drop j)):(out++a.extract i a.size++b.extract j b.size).toList.Perm L:=by
 rw[Vq,Vq,zj0,zj0,WP];exact M
def JP {b:Array WI}{j:Nat}(M:I3 L out (a.toList.take i) (b.toList.take j)):(a.extract 0 i++b.extract 0 j++out.reverse).toList.Perm L:=by
 rw[Vq,Vq,OZ,ext_toList _ _ _ (W2 _),ext_toList _ _ _ (W2 _)];exact(UN.trans ((List.reverse_perm _).append_right _)).trans M
end
section
variable {prog:Xv}{w:W5}{A:WL}{E:Y1->X8->Prop}{s:X8}{rk:WI->Int}{κ:UV}{a0:Array WI}
structure Lo (st0:WJ)(a b:Array WI)(n:Nat)(out:Array WI)(ia ib:Nat)(st:WJ):Prop where
 m:I3 (a.toList++b.toList) out (a.toList.drop ia) (b.toList.drop ib)
 ha:ia+1<a.size
 hb:ib<b.size
 hn:n<=ia+ib
 k:Kept st0 st
def Ys {a:Array WI}{L:List WI}(b:∀x∈a.toList,x∈L){j n:Nat}(h:j+n<=a.size)(i:Nat)(c:i<n):∃x,a[j+i]?=some x/\x∈L:=by
 obtain⟨x,e,m⟩:=xH (a:=a) (i:=j+i) "a";exact⟨x,e,b x m⟩
def zk6 {d:WJ}{a b:Array WI}{Q:Array WI->WJ->Prop}(T:Tells prog w A s κ rk a0)(hk:kindOf d=κ)(ma:∀x∈a.toList,x∈a0.toList)(mb:∀x∈b.toList,x∈a0.toList)
  (ha:0<a.size) (hb:0<b.size) (h:∀e ab,Kept d ab->e.toList.Perm (a.toList++b.toList)->Q e ab):wpS (Xn prog w) A E s (mergeLo' a b) Q d:=by
 refine Xu (Rf (UC ⟨rfl,?_⟩));refine fq (λb0 L _=>?_) (xH hb);refine Xu (jc L ?_);have M0:I3 (a.toList++b.toList) #[] (a.toList.drop 0) (b.toList.drop 0):=.refl _;have M1:I3 (a.toList++b.toList) #[b0] (a.toList.drop 0) (b.toList.drop 1):=M0.mvB (u:=#[b0]) (zhj L);dsimp -zeta only;refine qk (λhc=>Xj (h _ _ (Kept.refl _) (JO M1))) λhc=>?_;refine qk (λN=>Xj (h _ _ (Kept.refl _) (JO M1.swap))) λN=>?_;simp only[beq_iff_eq]at hc N;refine Xu (R6 ?_);refine Zf (λx c st=>Lo d a b (x+1) c.1 c.2.1 c.2.2.1 st) (λr st=>r.toList.Perm (a.toList++b.toList)/\Kept d st) (λ_ _=>False) ⟨M1,by dsimp only;lia,by dsimp only;lia,by dsimp only;lia,Kept.refl _⟩ ?_ (λc st F=>absurd F.hn (by have:=F.ha;have:=F.hb;lia)) (λr c st F=>Xj (h _ _ F.2 F.1)) (λ_ _ F=>F.elim);rintro J ⟨e,j,l,mg⟩ ae _ F;dsimp -zeta only at F ⊢;refine Zf (λx c st=>Lo d a b (J+1+x) c.1 c.2.1 c.2.2.1 st) (λr st=>r.toList.Perm (a.toList++b.toList)/\Kept d st) (λc st=>Lo d a b (J+2) c.1 c.2.1 c.2.2.1 st) F ?_ (λc st F=>⟨F.m,F.ha,F.hb,by have:=F.hn;lia,F.k⟩) (λr c st F=>Xj F) ?_
 .clear F;rintro x ⟨e,j,l,ac,bc⟩ ae _ ⟨M,h1,h2,G,k⟩;dsimp -zeta only at M h1 h2 G k ⊢;refine fq (λy B my=>?_) (xH h2);refine fq (λz D mz=>?_) (xH (a:=a) (i:=j) "a");refine Xu (jc B (Xu (jc D (Xu (zmr T (k.kind.trans hk) (mb y my) (ma z mz) ?_)))));dsimp -zeta only;refine qk (λ_=>?_) λ_=>?_
  .have o:=M.mvB (zhj B);refine Xu (jc B ?_);refine qk (λ_=>Xj ⟨JO o,k⟩) λhe=>?_;simp only[beq_iff_eq]at he;exact qk (λ_=>Xj ⟨o,h1,by dsimp only;lia,by dsimp only;lia,k⟩) λ_=>Xj ⟨o,h1,by dsimp only;lia,by dsimp only;lia,k⟩
  .have o:=M.mv (zhj D);refine Xu (jc D ?_);refine qk (λ_=>Xj ⟨JO o.swap,k⟩) λhe=>?_;simp only[beq_iff_eq]at he;exact qk (λ_=>Xj ⟨o,by dsimp only;lia,h2,by dsimp only;lia,k⟩) λ_=>Xj ⟨o,by dsimp only;lia,h2,by dsimp only;lia,k⟩
 .clear F;rintro⟨e,j,l,ac,bc⟩ ae F;dsimp -zeta only at F ⊢;refine Xu (Rf (UC ⟨rfl,?_⟩));refine Zf (λx c st=>Lo d a b (J+2) c.1 c.2.1 c.2.2.1 st) (λr st=>r.toList.Perm (a.toList++b.toList)/\Kept d st) (λc st=>Lo d a b (J+2) c.1 c.2.1 c.2.2.1 st) F ?_ (λ_ _ F=>F) (λr c st F=>Xj F) ?_
  .clear F;rintro x ⟨e,j,l,mg,ac,bc⟩ ah _ ⟨M,h1,h2,G,k2⟩;dsimp -zeta only at M h1 h2 G k2 ⊢;refine fq (λy B my=>?_) (xH h2);refine' cut ?key1 λf=>qk (λag=>?a1) λag=>?b1
   case a1 =>
    generalize mg-1=aa
    revert aa
    exact f.get
   case b1=>exact f.get mg
   intro aa;dsimp -zeta only;refine Xu (zfY k2 λv n=>?_);have U:kindOf v=κ:=n.kind.trans hk;refine Xu (jc B (Xu (Yr T U (mb y my) (Ys ma "a") "a" λk ai=>?_)));dsimp -zeta only;refine' cut ?key2 λf=>qk (λaf=>?a2) λaf=>?b2
   case a2 =>
    have o:=M.mv (zmD (a:=a) (i:=j) (k:=k))
    refine qk (λ_=>Xj ⟨JO o.swap,n⟩) λhe=>?_
    refine qk (λ_=>Xj ⟨JO o,n⟩) λH=>?_
    simp only[beq_iff_eq]at he H
    have F:Lo d a b (J+2) (e++a.extract j (j+k)) (j+k) l v:=⟨o,"a",h2,"a",n⟩
    generalize e++a.extract j (j+k)=g at F ⊢
    generalize j+k=p at F ⊢
    revert F;revert p;revert g
    exact f.get
   case b2=>exact f.get e j ⟨M,h1,h2,G,n⟩
   clear M h1 G;rintro g p ⟨M,h1,_,G,_⟩;refine fq (λz D mz=>?_) (xH (a:=a) (i:=p) "a");have M3:=M.mvB (zhj B);refine Xu (jc B ?_);refine qk (λ_=>Xj ⟨JO M3,n⟩) λhe=>?_;simp only[beq_iff_eq]at he;refine Xu (jc D (Xu (Yr T U (ma z mz) (Ys mb "a") "a" λY aj=>?_)));dsimp -zeta only;refine' cut ?key3 λf=>qk (λO=>?a3) λO=>?b3
   case a3 =>
    have M4:=M3.mvB (zmD (a:=b) (i:=l+1) (k:=Y))
    refine qk (λ_=>Xj ⟨JO M4,n⟩) λH=>?_
    simp only[beq_iff_eq]at H
    have F:Lo d a b (J+2) (g.push y++b.extract (l+1) (l+1+Y)) p (l+1+Y) v:=⟨M4,h1,"a","a",n⟩
    generalize g.push y++b.extract (l+1) (l+1+Y)=q at F ⊢
    generalize l+1+Y=I at F ⊢
    revert F;revert I;revert q
    exact f.get
   case b3=>exact f.get (g.push y) (l+1) ⟨M3,h1,"a","a",n⟩
   rintro q I ⟨M,_,h2,G,_⟩;have M5:=M.mv (zhj D);refine Xu (jc D ?_);refine qk (λ_=>Xj ⟨JO M5.swap,n⟩) λhe=>?_;simp only[beq_iff_eq]at he;have F:Lo d a b (J+2) (q.push z) (p+1) I v:=⟨M5,"a",h2,"a",n⟩;exact qk (λ_=>Xj F) λ_=>Xj F
  .rintro⟨e,j,l,mg,ac,bc⟩ ah F;dsimp -zeta only at F ⊢;exact Xu (zfY F.k λv n=>Xj ⟨F.m,F.ha,F.hb,F.hn,n⟩)
structure Hi' (st0:WJ)(a b:Array WI)(n:Nat)(out:Array WI)(na nb:Nat)(st:WJ):Prop where
 m:I3 (a.toList++b.toList) out (a.toList.take na) (b.toList.take nb)
 ha:1<=na/\na<=a.size
 hb:2<=nb/\nb<=b.size
 hn:na+nb+n<=a.size+b.size
 k:Kept st0 st
def zk7 {d:WJ}{a b:Array WI}{Q:Array WI->WJ->Prop}(T:Tells prog w A s κ rk a0)(hk:kindOf d=κ)(ma:∀x∈a.toList,x∈a0.toList)(mb:∀x∈b.toList,x∈a0.toList)
  (ha:0<a.size) (hb:0<b.size) (h:∀e aa,Kept d aa->e.toList.Perm (a.toList++b.toList)->Q e aa):wpS (Xn prog w) A E s (mergeHi' a b) Q d:=by
 refine Xu (Rf (UC ⟨rfl,?_⟩));refine fq (λal L _=>?_) (xH (a:=a) (i:=a.size-1) "a");refine Xu (jc L ?_);have M0:I3 (a.toList++b.toList) #[] (a.toList.take a.size) (b.toList.take b.size):=by
  rw[<- XV,<- XV,XH,XH];exact .refl _
 have M1:I3 (a.toList++b.toList) #[al] (a.toList.take (a.size-1)) (b.toList.take b.size):=M0.mv (u:=#[al]) (zhk L ha);dsimp -zeta only;refine qk (λhc=>Xj (h _ _ (Kept.refl _) (JP M1))) λhc=>?_;refine qk (λN=>Xj (h _ _ (Kept.refl _) (JP M1.swap))) λN=>?_;simp only[beq_iff_eq]at hc N;refine Xu (R6 ?_);refine Zf (λx c st=>Hi' d a b (x+1) c.2.2.1 c.1 c.2.1 st) (λr st=>r.toList.Perm (a.toList++b.toList)/\Kept d st) (λ_ _=>False) ⟨M1,by dsimp only;lia,by dsimp only;lia,by dsimp only;lia,Kept.refl _⟩ ?_ (λc st F=>absurd F.hn (by have:=F.ha;lia)) (λr c st F=>Xj (h _ _ F.2 F.1)) (λ_ _ F=>F.elim);rintro I ⟨v,l,e,mg⟩ ab _ F;dsimp -zeta only at F ⊢;refine Zf (λx c st=>Hi' d a b (I+1+x) c.2.2.1 c.1 c.2.1 st) (λr st=>r.toList.Perm (a.toList++b.toList)/\Kept d st) (λc st=>Hi' d a b (I+2) c.2.2.1 c.1 c.2.1 st) F ?_ (λc st F=>⟨F.m,F.ha,F.hb,by have:=F.hn;have:=F.ha;lia,F.k⟩) (λr c st F=>Xj F) ?_
 .clear F;rintro x ⟨v,l,e,ac,bc⟩ ab _ ⟨M,h1,h2,G,k⟩;dsimp -zeta only at M h1 h2 G k ⊢;refine fq (λy B my=>?_) (xH (a:=b) (i:=l-1) "a");refine fq (λz D mz=>?_) (xH (a:=a) (i:=v-1) "a");refine Xu (jc B (Xu (jc D (Xu (zmr T (k.kind.trans hk) (mb y my) (ma z mz) ?_)))));dsimp -zeta only;refine qk (λ_=>?_) λ_=>?_
  .have q:=M.mv (zhk D h1.1);refine Xu (jc D ?_);refine qk (λ_=>Xj ⟨JP q,k⟩) λhe=>?_;simp only[beq_iff_eq]at he;exact qk (λ_=>Xj ⟨q,by dsimp only;lia,h2,by dsimp only;lia,k⟩) λ_=>Xj ⟨q,by dsimp only;lia,h2,by dsimp only;lia,k⟩
  .have q:=M.mvB (zhk B "a");refine Xu (jc B ?_);refine qk (λ_=>Xj ⟨JP q.swap,k⟩) λhe=>?_;simp only[beq_iff_eq]at he;exact qk (λ_=>Xj ⟨q,h1,by dsimp only;lia,by dsimp only;lia,k⟩) λ_=>Xj ⟨q,h1,by dsimp only;lia,by dsimp only;lia,k⟩
 .clear F;rintro⟨v,l,e,ac,bc⟩ ab F;dsimp -zeta only at F ⊢;refine Xu (Rf (UC ⟨rfl,?_⟩));refine Zf (λx c st=>Hi' d a b (I+2) c.2.2.1 c.1 c.2.1 st) (λr st=>r.toList.Perm (a.toList++b.toList)/\Kept d st) (λc st=>Hi' d a b (I+2) c.2.2.1 c.1 c.2.1 st) F ?_ (λ_ _ F=>F) (λr c st F=>Xj F) ?_
  .clear F;rintro x ⟨v,l,e,mg,ac,bc⟩ ak _ ⟨M,h1,h2,G,k2⟩;dsimp -zeta only at M h1 h2 G k2 ⊢;refine fq (λy B my=>?_) (xH (a:=b) (i:=l-1) "a");refine' cut ?key1 λf=>qk (λaj=>?a1) λaj=>?b1
   case a1 =>
    generalize mg-1=Y
    revert Y
    exact f.get
   case b1=>exact f.get mg
   intro Y;dsimp -zeta only;refine Xu (zfY k2 λp j=>?_);have U:kindOf p=κ:=j.kind.trans hk;refine Xu (jc B (Xu (Yr T U (mb y my) (Ys ma "a") "a" λk ah=>?_)));dsimp -zeta only;refine' cut ?key2 λf=>qk (λag=>?a2) λag=>?b2
   case a2 =>
    have q:=M.mv (zmE (a:=a) ah)
    refine qk (λ_=>Xj ⟨JP q,j⟩) λhe=>?_
    simp only[beq_iff_eq]at he
    have F:Hi' d a b (I+2) (e++(a.extract k v).reverse) k l p:=⟨q,"a",h2,"a",j⟩
    generalize e++(a.extract k v).reverse=g at F ⊢
    generalize v-k=dd
    revert F
    generalize k=n
    revert n;revert g;revert dd
    exact f.get
   case b2=>exact f.get (v-k) e v ⟨M,h1,h2,G,j⟩
   clear M h1 G;rintro dd g n ⟨M,h1,_,G,_⟩;refine fq (λz D mz=>?_) (xH (a:=a) (i:=n-1) "a");have M3:=M.mvB (zhk B "a");refine Xu (jc B ?_);refine qk (λ_=>Xj ⟨JP M3.swap,j⟩) λhe=>?_;simp only[beq_iff_eq]at he;refine Xu (jc D (Xu (Yr T U (ma z mz) (Ys mb "a") "a" λJ ai=>?_)));dsimp -zeta only;refine' cut ?key3 λf=>qk (λO=>?a3) λO=>?b3
   case a3 =>
    have M4:=M3.mvB (zmE (a:=b) ai)
    refine qk (λ_=>Xj ⟨JP M4.swap,j⟩) λae=>?_
    refine qk (λ_=>Xj ⟨JP M4,j⟩) λaf=>?_
    simp only[beq_iff_eq]at ae af
    have F:Hi' d a b (I+2) (g.push y++(b.extract J (l-1)).reverse) n J p:=⟨M4,h1,"a","a",j⟩
    generalize g.push y++(b.extract J (l-1)).reverse=o at F ⊢
    generalize l-1-J=dd
    revert F
    generalize J=H
    revert H;revert o;revert dd
    exact f.get
   case b3=>exact f.get (l-1-J) (g.push y) (l-1) ⟨M3,h1,"a","a",j⟩
   rintro am o H ⟨M,_,h2,G,_⟩;have M5:=M.mv (zhk D h1.1);refine Xu (jc D ?_);refine qk (λ_=>Xj ⟨JP M5,j⟩) λhe=>?_;simp only[beq_iff_eq]at he;have F:Hi' d a b (I+2) (o.push z) (n-1) H p:=⟨M5,"a",h2,"a",j⟩;exact qk (λ_=>Xj F) λ_=>Xj F
  .rintro⟨v,l,e,mg,ac,bc⟩ ak F;dsimp -zeta only at F ⊢;exact Xu (zfY F.k λp j=>Xj ⟨F.m,F.ha,F.hb,F.hn,j⟩)
def zk8 (sa:Nat)(l:List WI):∀(j:Nat) (b:Array WI) (P M S:List WI),b.toList=P++(M++S)->P.length=sa+j->M.length=l.length->((l.zipIdx j).foldl (λa (p:WI×Nat)=>a.setIfInBounds (sa+p.2) p.1) b).toList=P++(l++S):=by
 induction l with
 | nil =>
  intro j b P M S e _ c;rw[VF.mp c]at e;exact e
 | cons x l f =>
  intro j b P M S e d c;obtain⟨m,M,rfl⟩:=List.exists_cons_of_length_eq_add_one c;rw[List.zipIdx_cons,Wp,f (j+1) (b.setIfInBounds (sa+j) x) (P++[x]) M S (by
   rw[TH,e,<- d,Pl _ _ (XW _),PM];simp) (by rw[X5,d];rfl) (Nat.succ.inj c)]
  simp
def zk9 {st:WJ}{i sa b N y p2:Nat}{Q:Bool->WJ->Prop}(T:Tells prog w A s κ rk a0)(O:Ok κ a0 st)(e1:(W4 st)[i]?=some (sa,b,N))(e2:(W4 st)[i+1]?=some (sa+b,y,p2))(ab:1<=b)(ac:1<=y)(hz:sa+b+y<=a0.size)
  (h:∀o,Ok κ a0 o->W4 o=((W4 st).setIfInBounds i (sa,b+y,N)).eraseIdxIfInBounds (i+1)->Q true o):wpS (Xn prog w) A E s (mergeAt' i) Q st:=by
 have ae:=O.size;have u:∀x∈(W8 st).toList,x∈a0.toList:=λx v=>(UP.mp O.perm).mem_iff.mp v;obtain⟨b0,B,M⟩:=xH (a:=W8 st) (i:=sa+b) "a";refine Xu (R6 ?_);rw[e1,e2];dsimp only;refine Xu (zr8 λe f=>?_);have r:kindOf e=κ:=by rw[f];exact O.kind
 have ea:W8 e=W8 st:=by rw[f]
 have H:W4 e=((W4 st).setIfInBounds i (sa,b+y,N)).eraseIdxIfInBounds (i+1):=by rw[f]
 have D:TN e=none:=by rw[f];exact O.good
 have U:Ok κ a0 e:=⟨by rw[ea];exact O.perm,r,D⟩;clear f;refine Xu (jc B (Xu (Yr T r (u b0 M) (Ys u "a") "a" λk hk=>?_)));dsimp only;refine qk (λI=>Xj (h e U H)) λI=>?_;simp only[beq_iff_eq]at I;obtain⟨al,z,L⟩:=xH (a:=W8 st) (i:=sa+k+(b-k)-1) "a";refine Xu (jc z (Xu (Yr T r (u al L) (Ys u "a") "a" λg aa=>?_)));dsimp only;refine qk (λI=>Xj (h e U H)) λJ=>?_;simp only[beq_iff_eq]at J;have Y:sa+b<=(W8 st).size:="a"
 have Y3:sa+b+g<=(W8 st).size:="a"
 have xm:∀x∈((W8 st).extract (sa+k) (sa+b)).toList,x∈a0.toList:=λx v=>by
  obtain⟨j,_,_,G⟩:=ext_mem Y v;exact u x (zj1 G)
 have ym:∀x∈((W8 st).extract (sa+b) (sa+b+g)).toList,x∈a0.toList:=λx v=>by
  obtain⟨j,_,_,G⟩:=ext_mem Y3 v;exact u x (zj1 G)
 have xz:0<((W8 st).extract (sa+k) (sa+b)).size:=by
  rw[zdm Y];lia
 have yz:0<((W8 st).extract (sa+b) (sa+b+g)).size:=by
  rw[zdm Y3];lia
 have ol:(W8 st).toList=(W8 st).toList.take (sa+k)++((((W8 st).extract (sa+k) (sa+b)).toList++((W8 st).extract (sa+b) (sa+b+g)).toList)++(W8 st).toList.drop (sa+b+g)):=by
  rw[ext_toList _ _ _ "a",ext_toList _ _ _ "a"];have d1:(W8 st).toList.drop (sa+b)=((W8 st).toList.drop (sa+k)).drop (b-k):=by
   rw[RR];congr 1;lia
  have d2:(W8 st).toList.drop (sa+b+g)=((W8 st).toList.drop (sa+b)).drop g:=by
   rw[RR]
  rw[d2,show sa+b+g-(sa+b)=g by lia,WP,WR,d1,show sa+b-(sa+k)=b-k by lia,WR,WR]
 have m:∀(merged:Array WI) (d:WJ),Kept e d->merged.toList.Perm (((W8 st).extract (sa+k) (sa+b)).toList++((W8 st).extract (sa+b) (sa+b+g)).toList) ->
   wpS (Xn prog w) A E s (do
    modify λc=>setArr c (merged.toList.zipIdx.foldl (λa (p:WI×Nat)=>a.setIfInBounds (sa+k+p.2) p.1) (W8 c))
    let c <- get
    pure (TN c).isNone) Q d:=λmerged d l q=>by
  refine Xu (SA (Xu (R6 ?_)));rw[show (TN (setArr d (merged.toList.zipIdx.foldl (λa (p:WI×Nat)=>a.setIfInBounds (sa+k+p.2) p.1) (W8 d)))).isNone=true by rw[show TN (setArr d _)=TN d from rfl,l.bad,D];rfl];refine Xj (h _ ⟨Array.Perm.trans ?_ O.perm,l.kind.trans r,l.bad.trans D⟩ (l.pend.trans H));rw[UP];have:=zk8 (sa+k) merged.toList 0 (W8 d) _ _ _ (by rw[l.arr,ea];exact ol) (by rw[XC,XV];lia) q.length_eq.symm;refine List.Perm.trans (.of_eq this) ?_;conv=>rhs;rw[ol]
  exact(q.append_right _).append_left _
 exact qk (λ_=>Xu (zk6 T r xm ym xz yz λn d l q=>m n d l q)) λ_=>Xu (zk7 T r xm ym xz yz λn d l q=>m n d l q)
def zhl {st:WJ}{lo i:Nat}{Q:Bool->WJ->Prop}(T:Tells prog w A s κ rk a0)(O:Ok κ a0 st)(c:xF (W4 st).toList 0 lo)(z:i+1<(W4 st).size)(B:lo<=a0.size)
  (h:∀a,Ok κ a0 a->xF (W4 a).toList 0 lo->(W4 a).size+1=(W4 st).size->Q true a):wpS (Xn prog w) A E s (mergeAt' i) Q st:=by
 obtain⟨l,⟨sa,d,G⟩,⟨L,e,J⟩,D,g,y,u,v⟩:=zqA (p:=(W4 st).toList) (i:=i) (by rw[XV];exact z);rw[g]at c;obtain⟨m,H,⟨n,o,q,r,f⟩⟩:=yY.mp c;dsimp only at n o q r f;subst n;subst q;rw[WY]at u v;have I:=(zdn f).1;refine zk9 T O u v o r "a" λa x j=>?_;have b:(W4 a).toList=l++(sa,d+e,G)::D:=by
  rw[j,Array.toList_eraseIdxIfInBounds,TH,g,<- y];rw[Pl _ _ (XW _),PM,List.set_cons_zero,List.eraseIdx_append_of_length_le "a",show l.length+1-l.length=1 by lia];rfl
 refine h a x ?_ ?_
 .rw[b];exact yY.mpr ⟨sa,H,rfl,by show 1<=d+e;lia,by rw[show sa+(d+e)=sa+d+e by lia];exact f⟩
 .rw[<- XV,b,<- XV,g];simp only[X5,XA];lia
def zoz {n:Nat}(h:n<64):minRun' n n 0=n:=by
 cases n with
 | zero=>rfl
 | succ n =>
  show (if n+1<64 then n+1+0 else _)=_;rw[bw h]
def mid {l r k x:Nat}(h:¬ l >= r)(b:r<=k)(a:r-l<=k-x)(c:x<k):(l<=(l+r)/2/\(l+r)/2<k)/\((l+r)/2<=k/\(l+r)/2-l<=k-(x+1))/\((l+r)/2+1<=r/\r-((l+r)/2+1)<=k-(x+1)):="a"
def zsg {st:WJ}{lo n ok:Nat}{Q:Bool->WJ->Prop}(T:Tells prog w A s κ rk a0)(O:Ok κ a0 st)(hn:lo+n<=a0.size)(ab:ok<=n)(hs:Up rk (W8 st) lo (lo+ok))
  (h:∀e,Step κ a0 lo st e->Up rk (W8 e) lo (lo+n)->Q true e):wpS (Xn prog w) A E s (binarySort' lo n ok) Q st:=by
 rw[binarySort'_eq];refine Xu (NY (R3 (I:=λk c e=>c=(none,())/\Step κ a0 lo st e/\Up rk (W8 e) lo (lo+min k n))
  (Q:=λc e=>c=(none,())/\Step κ a0 lo st e/\Up rk (W8 e) lo (lo+n)) ?step ?fin ?init) ?post)
 case post =>
  rintro c e ⟨rfl,u,g⟩
  exact Xj (h e u g)
 case init =>
  refine⟨rfl,Step.refl O,λi j B G hj=>?_⟩
  by_cases h1:ok=0
  .obtain rfl:i=j:="a"
   exact TM _
  .exact hs i j B G "a"
 case fin =>
  rintro c e ⟨hc,u,g⟩
  refine⟨hc,u,?_⟩
  rwa [Nat.min_eq_right (Nat.le_max_right _ _)]at g
 case step =>
  rintro k c e H v ⟨rfl,u,g⟩
  rw[Vn (VA v)]at g
  have z:=u.ok
  have hk:lo+k<a0.size:=XD (Uy v lo) hn
  clear H
  refine Xu (NY (R3 (I:=λx c d=>d=e/\∃l r,c=(none,l,r)/\l<=r/\r<=k/\r-l<=k-x /\
    (∀i,i<l->Rk rk (W8 e) (lo+i)<=Rk rk (W8 e) (lo+k))/\(∀i,r<=i->i<k->Rk rk (W8 e) (lo+k)<Rk rk (W8 e) (lo+i)))
   (Q:=λc d=>d=e/\∃l r,c=(none,l,r)/\l<=k /\
    (∀i,i<l->Rk rk (W8 e) (lo+i)<=Rk rk (W8 e) (lo+k))/\(∀i,l<=i->i<k->Rk rk (W8 e) (lo+k)<Rk rk (W8 e) (lo+i))) ?istep ?ifin ?iinit) ?ipost)
  case iinit=>exact fj rfl 0 k rfl "a" "a" "a" (λi B=>"a") (λi h1 h2=>"a")
  case ifin =>
   refine λc d=>f7 λz0=>fY λl r z1 J p L o m=>?_;subst z0 z1
   obtain rfl:l=r:="a"
   exact⟨rfl,(dB l l rfl p o m)⟩
  case istep =>
   refine λx c d _ M=>f7 λz0=>fY λl r z1 J p L o m=>?_;subst z0 z1
   dsimp only
   by_cases q:l >= r
   .rw[bw q];obtain rfl:l=r:="a"
    exact Xj ⟨rfl,(dB l l rfl p o m)⟩
   .rw[bq q];obtain⟨⟨m1,U⟩,⟨m3,m4⟩,m5,m6⟩:=mid q p L M;clear L q;refine Xu (zdl T z hk (U1 (Uy U lo) hk) ?_);by_cases f:Rk rk (W8 d) (lo+k)<Rk rk (W8 d) (lo+(l+r)/2)
    .simp only[f,decide_true,if_true];refine Xj (fj rfl l ((l+r)/2) rfl m1 m3 m4 o (λi h1 h2=>?_));exact Int.lt_of_lt_of_le f (g _ _ (VH _ _) (R9 h1 lo) (Uy h2 lo))
    .simp only[f,decide_false,V5,if_false];refine Xj (fj rfl ((l+r)/2+1) r rfl m5 p m6 (λi h1=>?_) m);exact Ol (g (lo+i) (lo+(l+r)/2) (VH _ _) (R9 (Nat.le_of_lt_succ h1) lo) (Uy U lo)) (Ov.mp f)
  case ipost =>
   refine λc d=>f7 λz0=>fm λl r z1 aa o m=>?_;subst z0 z1
   show wpS _ _ _ _ (do moveDown' (lo+k) (lo+l);pure (Vo (none,()))) _ _
   rw[moveDown'_eq]
   have y:lo+k<(W8 d).size:=by
    rw[z.size];exact hk
   refine Xu (SA (Xj ⟨rfl,⟨⟨(bubble_perm _ _ _).trans z.perm,z.kind,z.good⟩,u.pend,λi B=>?_⟩,?_⟩))
   .show (bubble (W8 d) (lo+k) (lo+k-(lo+l)))[i]?=_;rw[getElem?_bubble y _ "a",bq "a",bq "a"];exact u.low i B
   .rw[Vn v];intro i j B G hj;show Rk rk (bubble (W8 d) (lo+k) (lo+k-(lo+l))) i<=Rk rk (bubble (W8 d) (lo+k) (lo+k-(lo+l))) j;rw[zeW y "a",zeW y "a",show lo+k-(lo+k-(lo+l))=lo+l by lia];have up:∀a b,lo<=a->a<=b->b<lo+k->Rk rk (W8 d) a<=Rk rk (W8 d) b:=g;have N:∀a,lo<=a->a<lo+l->Rk rk (W8 d) a<=Rk rk (W8 d) (lo+k):=λa Y a2=>by
     have:=o (a-lo) "a";rwa [show lo+(a-lo)=a by lia]at this
    have D:∀a,lo+l<=a->a<lo+k->Rk rk (W8 d) (lo+k)<Rk rk (W8 d) a:=λa Y a2=>by
     have:=m (a-lo) "a" "a";rwa [show lo+(a-lo)=a by lia]at this
    repeat' split
    all_goals first
     | (exfalso;lia)
     | exact TM _
     | exact N _ "a" "a"
     | exact R0 (D _ "a" "a")
     | exact up _ _ "a" "a" "a"
def zqK {st:WJ}{Q:Unit->WJ->Prop}(T:Tells prog w A s κ rk a0)(O:Ok κ a0 st)(hp:W4 st=#[])(h:∀z,Ok κ a0 z->(a0.size<64->Up rk (W8 z) 0 a0.size)->Q () z):wpS (Xn prog w) A E s sortRuns' Q st:=by
 rw[sortRuns'_eq];refine Xu (R6 ?_);dsimp only;rw[O.size];obtain⟨u,Y,I⟩:∃u,minRun' a0.size a0.size 0=u/\(a0.size<64->u=a0.size):=⟨_,rfl,zoz⟩;rw[Y];refine Zf (λx lo st=>Ok κ a0 st/\xF (W4 st).toList 0 lo/\lo<=a0.size/\x<=lo/\(a0.size<64->(lo=0/\W4 st=#[])\/(lo=a0.size/\Up rk (W8 st) 0 a0.size/\(W4 st).size<=1))) (λ_ _=>False) (λlo st=>Ok κ a0 st/\xF (W4 st).toList 0 a0.size/\(a0.size<64->Up rk (W8 st) 0 a0.size/\(W4 st).size<=1)) ⟨O,by rw[hp];rfl,W2 _,XW _,λ_=>.inl ⟨rfl,hp⟩⟩ ?_ ?_ (λ_ _ _ F=>F.elim) ?_
 .refine λx lo B hx=>fN λD e h1 h2 p=>?_;dsimp only;refine qk (λaa=>?_) λaa=>?_
  .obtain rfl:lo=a0.size:="a"
   refine Xj ⟨D,e,λc=>?_⟩;rcases p c with ⟨U,v⟩ | ⟨_,q⟩
   .exact⟨λi j _ _ q=>absurd q "a",by rw[v];exact W2 _⟩
   .exact q
  have p:a0.size<64->lo=0/\W4 B=#[]:=λc=>by
   rcases p c with q | ⟨q,_⟩
   .exact q
   .lia
  refine Xu (zr7 T D "a" "a" λm o S m1 m2 G=>?_);dsimp only;refine' cut ?key λkey=>qk (λab=>?a) λab=>?b
  case a =>
   refine Xu (Rf (UC ⟨rfl,?_⟩))
   refine Xu (zsg T S.ok "a" "a" G λf S3 J=>?_)
   rw[bq "d"]
   have F:Step κ a0 lo B f/\1<=min (a0.size-lo) u/\lo+min (a0.size-lo) u<=a0.size/\Up rk (W8 f) lo (lo+min (a0.size-lo) u)/\(a0.size<64->min (a0.size-lo) u=a0.size):=⟨S.trans S3,"a","a",J,λc=>by have:=I c;have:=p c;lia⟩
   clear S3 J
   generalize min (a0.size-lo) u=n at F ⊢
   revert F;revert n;revert f
   exact key.get
  case b=>exact key.get o m ⟨S,m1,"a",G,λc=>by have:=I c;have:=p c;lia⟩
  clear S m1 m2 G;refine λf n=>fN λS n1 n2 G hn=>?_;rw[<- S.pend]at e p;have N:=S.ok;clear S m o;have H:∀d,Ok κ a0 d->xF (W4 d).toList 0 lo->(a0.size<64->W8 d=W8 f/\W4 d=#[])->Ok κ a0 (PQ d ((W4 d).push (lo,n,0)))/\xF (W4 (PQ d ((W4 d).push (lo,n,0)))).toList 0 (lo+n)/\lo+n<=a0.size/\x+1<=lo+n/\(a0.size<64->(lo+n=0/\W4 (PQ d ((W4 d).push (lo,n,0)))=#[])\/(lo+n=a0.size/\Up rk (W8 (PQ d ((W4 d).push (lo,n,0)))) 0 a0.size/\(W4 (PQ d ((W4 d).push (lo,n,0)))).size<=1)):=λd l g k4=>by
   refine dY ⟨l.perm,l.kind,l.good⟩ ?_ n2 "a" (λc=>.inr ?_)
   .show xF ((W4 d).push (lo,n,0)).toList 0 (lo+n);rw[Array.toList_push];exact yY.mpr ⟨lo,g,rfl,n1,rfl⟩
   .obtain⟨U,v⟩:=k4 c;have q3:=(p c).1;have q4:=hn c;subst q3;refine⟨"a",?_,?_⟩
    .show Up rk (W8 d) 0 a0.size;rw[U];rw[V1,q4]at G;exact G
    .show ((W4 d).push (0,n,0)).size<=1;rw[v];exact XW _
  refine Xu (R6 ?_);cases hbk:(W4 f).back? with
  | none =>
   dsimp only;exact Xu (SA (Xj (H f N e λc=>⟨rfl,(p c).2⟩)))
  | some r =>
   obtain⟨s1,k1,U⟩:=r;have big:¬ a0.size<64:=λc=>by
    rw[(p c).2]at hbk;cases hbk
   dsimp only;generalize power' a0.size (2*s1+k1) (2*s1+k1+k1+n) a0.size=pw;refine Zf (λ_ _ st=>Ok κ a0 st/\xF (W4 st).toList 0 lo) (λ_ _=>False) (λ_ st=>Ok κ a0 st/\xF (W4 st).toList 0 lo) ⟨N,e⟩ ?_ (λ_ _ F=>F) (λ_ _ _ F=>F.elim) ?_
   .rintro y ⟨⟩ d _ ⟨l,g⟩;refine Xu (R6 ?_);by_cases hz:(W4 d).size>1
    .rw[bw hz,getElem?_pos (W4 d) ((W4 d).size-2) "a"];generalize (W4 d)[(W4 d).size-2]'"a"=r2;obtain⟨af,ag,ah⟩:=r2;dsimp only;refine qk (λ_=>Xj ⟨l,g⟩) λ_=>?_;refine Xu (zhl T l g "a" h1 λai O5 ac _=>?_);rw[bq "d"];exact Xj ⟨O5,ac⟩
    .rw[bq hz];exact Xj ⟨l,g⟩
   .rintro⟨⟩ d ⟨l,g⟩;dsimp only;refine Xu (SA (Xu (SA (Xj (H _ ⟨l.perm,l.kind,l.good⟩ ?_ λc=>absurd c big)))));show xF ((W4 d).modify ((W4 d).size-1) λr=>(r.1,r.2.1,pw)).toList 0 lo;rw[Array.toList_modify];exact zci pw g
 .refine λlo st=>fN λD e U v q3=>?_;obtain rfl:lo=a0.size:="a"
  refine⟨D,e,λc=>?_⟩;rcases q3 c with ⟨q,q'⟩ | ⟨_,q⟩
  .exact⟨λi j _ _ q=>absurd q "a",by rw[q'];exact W2 _⟩
  .exact q
 .rintro lo B ⟨D,e,q⟩;dsimp only;have L:=(zdn e).2.1;rw[XV]at L;refine Zf (λx _ st=>Ok κ a0 st/\xF (W4 st).toList 0 a0.size/\(a0.size<64->Up rk (W8 st) 0 a0.size/\(W4 st).size<=1)) (λ_ _=>False) (λ_ st=>Ok κ a0 st/\(a0.size<64->Up rk (W8 st) 0 a0.size)) ⟨D,e,q⟩ ?_ (λ_ _ F=>⟨F.1,λc=>(F.2.2 c).1⟩) (λ_ _ _ F=>F.elim) (λ_ st F=>Xj (h st F.1 F.2));rintro x ⟨⟩ o hx ⟨O2,M,v⟩;refine Xu (R6 ?_);refine qk (λh1=>Xj ⟨O2,λc=>(v c).1⟩) λh1=>?_;refine Xu (zhl T O2 M ?_ (XW _) λf N ae z3=>?_)
  .exact XI (O6 (ite_le _ _) 1) (show (W4 o).size-2+1<(W4 o).size by lia)
  .rw[bq "d"];exact Xj ⟨N,ae,λc=>absurd (v c).2 "a"⟩
def Sm (b:Bool){α:Type}(R:α->α->Prop)(l:List α):Prop:=l.length<64\/(b=true/\l.length=64/\(l.take 63).Pairwise R)
def zdr (b:Bool):Prop:=∀{prog:Xv} {w:W5} {A:WL} {E:Y1->X8->Prop} {s:X8} {rk:WI->Int} {κ:UV} {a0:Array WI} {st:WJ} {Q:Unit->WJ->Prop},Tells prog w A s κ rk a0->Ok κ a0 st->W4 st=#[]->W8 st=a0->(∀a,Ok κ a0 a->(Sm b (λx y=>rk x<rk y) a0.toList->(W8 a).toList.Pairwise λx y=>rk x<=rk y)->Q () a)->wpS (Xn prog w) A E s sortRuns' Q st
def zoA:zdr false:=λ{_ _ _ _ _ _ _ a0 _ _} T O m _ h=>zqK T O m λe f d=>h e f λn=>by
 have a:a0.size<64:=by
  rw[<- XV];exact n.resolve_right λc=>nomatch c.1
 have d:=d a;have o:=f.size;rw[Tw];intro i j g l b;rw[XV]at g l;rw[Si,Si];exact zqz d (W2 _) (VA b) "a" (getElem?_pos _ i g) (getElem?_pos _ j l)
end
section
variable {prog:Xv}{w:W5}{A:WL}{E:Y1->X8->Prop}{s:X8}
def zmF {b:Bool}(m:zdr b){a:Addr}{vs:List Y1}{n:Nat}{P:PySem.Fin->X8->Prop}(L:s.heap.get? a=some (Uk "list" vs.toArray n))(hz:vs.length<=Xy)(r:Y1->Int)
  (hk:2<=vs.length->∀s':X8,(∀b o,b≠a->s.heap.get? b=some o->s'.heap.get? b=some o)->Xh (Xn prog w) A (keyKind' vs.toArray) (fun κ s2=>s2=s'/\Tells prog w A s' κ (λp=>r p.1) (OO vs)) (λ_ _=>False) s')
  (h:∀(ws:List Y1) (h':Heap) (c:Nat),ws.Perm vs->(Sm b (λx y=>r x<r y) vs->ws.Pairwise (λx y=>r x<=r y))->(∀b o,b≠a->s.heap.get? b=some o->h'.get? b=some o)->h'.get? a=some (Uk "list" ws.toArray c)->P (.done (.ret .none)) { s with heap:=h' }) :
  Xh (Xn prog w) A (UO.«list.sort» ⟨[.ref a],[]⟩) P E s:=by
 have ae:a<s.heap.objs.size:=XE L;have I:=get?_update_seq L λ_=>(#[]:Array Y1);generalize hX:s.heap.update a (U6 λ_=>(#[]:Array Y1))=D at I;have zX:D.objs.size=s.heap.objs.size:=by rw[<- hX,Heap.size_update]
 have kX:∀b o,b≠a->s.heap.get? b=some o->D.get? b=some o:=λb o m e=>by
  rw[<- hX,R8 _ _ _ _ m];exact e
 obtain⟨J,N⟩:∃J,D.get? a=some (Uk "list" #[] J):=⟨_,I⟩;generalize hY:(D.push (Uk "tuple" vs.toArray 0)).push (Uk "list" #[] 0)=Y;have v:Y.get? a=some (Uk "list" #[] J):=by
  rw[<- hY];exact X6 _ (X6 _ N)
 have kY:∀b o,b≠a->s.heap.get? b=some o->Y.get? b=some o:=λb o m e=>by
  rw[<- hY];exact X6 _ (X6 _ (kX b o m e))
 have q:∀(st:WJ),(((W8 st).map (·.2)).toList.Perm vs)->(Sm b (λx y=>r x<r y) vs->((W8 st).map (·.2)).toList.Pairwise λx y=>r x<=r y)->TN st=none ->
   Xh (Xn prog w) A (do
    let f:=(<- seqEpoch a) != J
    Builtin.List.listUpdate (.ref a) λ_=>(W8 st).map (·.2)
    if let some e:=TN st then rule "list.sort.comparison-raised";throw e
    if f then rule "list.sort.modified";raiseError "ValueError" "list modified during sort"
    ret .none) P E { s with heap:=Y }:=by
  intro st B M hf;generalize ew:(W8 st).map (·.2)=wsA at B M;rw[hf];have H:wsA.size=vs.length:=by rw[<- XV,B.length_eq]
  have aa:=get?_update_seq v λ_=>wsA;refine X9 (seqEpoch_at v rfl (X9 (listUpdate_at v rfl ?_ (W2 _) (by rw[H];lia))));simp only[bne_self_eq_false,V5,if_false];refine XR (h wsA.toList _ _ B M (λb o m e=>?_) aa);rw[R8 _ _ _ _ m];exact kY b o m e
 rw[list_sort_plain];refine X9 (listItems_at L rfl (X9 (listUpdate_at L rfl ?_ (by rw[Xr];exact hz) (W2 _))));rw[hX];refine X9 (seqEpoch_at N rfl (X9 (wpAny_newTuple (X9 (OC ?_ (W2 _))) hz)));show Xh (Xn prog w) A _ P E { s with heap:=(D.push (Uk "tuple" vs.toArray 0)).push (Uk "list" #[] 0) };rw[hY];refine We ?_;dsimp only;have e2:((OO vs).map (·.2)).toList=vs:=by
  rw[UX,US];exact List.map_snd_zip (XW _)
 by_cases g:vs.toArray.size<2
 .have G:vs.length<2:=by rw[Xr]at g;exact g
  rw[bw g,bw g];refine X9 (XR ?_);rw[StateT.run_pure];refine X9 (XR ?_);refine q (SortSt.mk' general' (OO vs) #[] 7 none) (by show ((OO vs).map (·.2)).toList.Perm vs;rw[e2]) (λ_=>by
   show ((OO vs).map (·.2)).toList.Pairwise _;rw[e2,Tw];intro i j hi hj ac;lia) rfl
 .have G:2<=vs.length:=by rw[Xr]at g;lia
  rw[bq g,bq g];refine X9 (VQ (hk G { s with heap:=Y } kY) (fun κ s2 ⟨U,T⟩=>?_) λ_ _ x=>x.elim);subst U;have run:=m (E:=E) (st:=SortSt.mk' κ (OO vs) #[] 7 none) (Q:=λ_ d=>(((W8 d).map (·.2)).toList.Perm vs)/\(Sm b (λx y=>r x<r y) vs->((W8 d).map (·.2)).toList.Pairwise λx y=>r x<=r y)/\TN d=none) T ⟨Array.Perm.refl _,rfl,rfl⟩ rfl rfl λd O N=>?_
  .unfold wpS at run;refine X9 (VQ run ?_ λ_ _ z=>z);rintro⟨⟨⟩,d⟩ s' ⟨rfl,B,M,hf⟩;exact q d B M hf
  .have pm:=UP.mp O.perm;have same:∀p∈(W8 d).toList,p.1=p.2:=λp B=>by
    have:=pm.mem_iff.mp B;rw[US]at this;exact(SY this).1
   refine⟨?_,λc=>?_,O.good⟩
   .have:=pm.map (·.2);rw[UX];rw[US,List.map_snd_zip (XW _)]at this;exact this
   .rw[UX,Wx];have ab:∀{l:List Y1} {p:WI},p∈l.zip l->p.1=p.2:=λh=>(SY h).1;refine(N ?_).imp_of_mem λ{x y} hx hy u=>?_
    .unfold Sm at c ⊢;rw[US,List.length_zip,Nat.min_self];refine c.imp id λ⟨c0,c1,g⟩=>⟨c0,c1,?_⟩;have U:(vs.zip vs).map (·.1)=vs:=List.map_fst_zip (XW _);rw[<- U,<- TY,Wx]at g;exact g
    .rw[<- same x hx,<- same y hy];exact u
def zqL {b:Bool}(v:zdr b){l:Addr}{vs:List Y1}{Q:Y1->X8->Prop}(z:s.heap.IsList l vs.toArray)(i:vs.length<=Xy)(r:Y1->Int)
  (hk:2<=vs.length->∀s':X8,(∀b o,s.heap.get? b=some o->s'.heap.get? b=some o)->Xh (Xn prog w) A.in1.in1 (keyKind' vs.toArray) (fun J I=>I=s'/\Tells prog w A.in1.in1 s' J (λp=>r p.1) (OO vs)) (λ_ _=>False) s')
  (h:∀(f:List Y1) (h':Heap) (c:Nat),f.Perm vs->(Sm b (λx y=>r x<r y) vs->f.Pairwise (λx y=>r x<=r y))->(∀b o,s.heap.get? b=some o->h'.get? b=some o)->h'.get? (s.heap.objs.size+1)=some (Uk "list" f.toArray c)->Q (.ref (s.heap.objs.size+1)) { s with heap:=h' }) :
  Xh (Xn prog w) A (call (.builtin "sorted") [.ref l]) Q E s:=by
 generalize g:(s.heap.push (Uk "list" #[] 0)).update s.heap.objs.size (U6 (·++vs.toArray))=a;have q:a.objs.size=s.heap.objs.size+1:=by rw[<- g,Heap.size_update,UT]
 have G:∀b o,s.heap.get? b=some o->a.get? b=some o:=λb o e=>by
  have lt:=XE e;rw[<- g,R8 _ _ _ _ (Xi lt)];exact X6 _ e
 apply RD kind_sorted plain_sorted entry_sorted (args_sorted1 _);unfold UO.«sorted»;refine X9 (m:=checkCount "sorted" 1 1 _) (XR (X9 (collect_list z ?_ i)));rw[g];refine X9 (OC ?_ i);show Xh _ _ _ _ _ { s with heap:=a.push (Uk "list" vs.toArray 0) };have d:(a.push (Uk "list" vs.toArray 0)).get? (s.heap.objs.size+1)=some (Uk "list" vs.toArray 0):=by
  rw[<- q];exact Xf _ rfl
 have j:∀b o,s.heap.get? b=some o->(a.push (Uk "list" vs.toArray 0)).get? b=some o:=λb o e=>X6 _ (G b o e);have n:∀b o,s.heap.get? b=some o->b≠s.heap.objs.size+1:=λb o e=>Xi (Wm (XE e));rw[q];refine X9 (We (Us slot_list_sort ⟨_,d,rfl⟩ entry_list_sort (zmF v (s:={ s with heap:=a.push (Uk "list" vs.toArray 0) }) d i r (λc s' k=>hk c s' λb o e=>k b o (n b o e) (j b o e)) ?_) (args_list_sort _)));intro f h' c B D H u;exact⟨_,rfl,XR ⟨_,rfl,h f h' c B D (λb o e=>H b o (n b o e) (j b o e)) u⟩⟩
end
def zoB {α b:Type}{R:α->b->Prop}{a:List α}{ks:List b}(n:Nat)(h:WW R a ks):WW R (a.take n) (ks.take n):=by
 induction h generalizing n with
 | nil =>
  rw[List.take_nil,List.take_nil];exact .nil
 | cons q _ c =>
  cases n with
  | zero=>exact .nil
  | succ n=>exact .cons q (c n)
def zsh {α a:Type}{R:α->a->Prop}{S:a->a->Prop}{d:α->α->Prop}{P:a->Prop}(f:∀v g k b,R v k->R g b->P k->S k b->d v g){e:List α}{ks:List a}(h:WW R e ks)(m:∀k∈ks,P k)(i:ks.Pairwise S):e.Pairwise d:=by
 induction h with
 | nil=>exact .nil
 | cons q t l =>
  obtain⟨h1,h2⟩:=List.pairwise_cons.mp i;refine List.pairwise_cons.mpr ⟨λv j=>?_,l (λk hk=>m k (XQ _ hk)) h2⟩;obtain⟨b,c,r⟩:=zlY t j;exact f _ _ _ _ q r (m _ XT) (h1 b c)
section
variable {X:Cx}{bQ:List (Addr×Obj)}{σ:St}{H:Hp}{s:X8}{K:Type}
def zmG {b:Bool}(hb:zdr b){lt:K->K->Bool}(W:Wk lt){RV:V->K->Prop}{RH:Heap->Y1->K->Prop}(fn:∀h v k m,RH h v k->RH h v m->k=m)(kp:∀h h' v k,(∀b o,h.get? b=some o->h'.get? b=some o)->RH h v k->RH h' v k)
  {l:Addr} {Y:AF} {f:List Y1} {ks:List K} {Q:VK} (I:Inv X bQ σ H s) (hl:s.heap.IsList l f.toArray) (hz:Y.length<=1000000) (rv:Vals Y f) (hv:WW RV Y ks) (j:WW (RH s.heap) f ks)
  (N:∀s':X8,WW (RH s'.heap) f ks->2<=f.length->Xh (Xn X.prog X.w) X.A.in1.in1 (keyKind' f.toArray) (fun κ s2=>s2=s'/\∀v v' k m,RH s'.heap v k->RH s'.heap v' m->∀C:Bool->X8->Prop,C (lt k m) s'->Xh (Xn X.prog X.w) X.A.in1.in1 (keyLt' κ v v') C (λ_ _=>False) s') (λ_ _=>False) s')
  (q:∀d E B,H d=none->WW RV E B->B.Perm ks->(Sm b (λx y=>lt x y=true) ks->B.Pairwise (λx y=>lt y x=false))->(E.Perm Y)->Q (.ref d) (upd H d (.lst E))) :
  Xh (Xn X.prog X.w) X.A (call (.builtin "sorted") [.ref l]) (EP X bQ σ Q) X.xe s:=by
 classical
 have ab:=rv.length;refine gb (λT hT e1 e2 e3=>?_) (zqB rv hv j);let r:Y1->Int:=λv=>if h:∃k,RH s.heap v k then rkK lt ks h.choose else 0
 have g:∀{v:Y1} {k:K},RH s.heap v k->r v=rkK lt ks k:=λ{v k} h=>by
  have u:∃k,RH s.heap v k:=⟨k,h⟩;show (if h:∃k,RH s.heap v k then rkK lt ks h.choose else 0)=_;rw[dif_pos u,fn _ _ _ _ u.choose_spec h]
 have z1:f.length<=Xy:=by
  rw[<- ab,Um];lia
 refine zqL hb (vs:=f) hl z1 r (λh2 s' O=>?_) λws h' c J U O ha=>?_
 .have ac:WW (RH s'.heap) f ks:=by
   obtain⟨a,b,c⟩:=zdo j;have:=zeX (R:=RH s'.heap) (zs:=f.zip ks) λp j=>kp _ _ _ _ O (a p j);rw[b,c]at this;exact this
  refine VQ (N s' ac h2) (fun κ s2 ⟨e,hc⟩=>⟨e,λx u y L C hC=>?_⟩) λ_ _ z=>z;have mx:x.1∈f:=by
   rw[US]at u;exact(SY u).2
  have my:y.1∈f:=by
   rw[US]at L;exact(SY L).2
  obtain⟨k,k1,k2⟩:=Ze j x.1 mx;obtain⟨m,af,M⟩:=Ze j y.1 my;refine hc x.1 y.1 k m (kp _ _ _ _ O k2) (kp _ _ _ _ O M) C ?_;have G:C (decide (r x.1<r y.1)) s':=hC;rw[g k2,g M,<- W.rank k1]at G;exact G
 .obtain⟨T',i,eT⟩:=ST.zdk (λt:V×Y1×K=>t.2.1) J T e2.symm;have n:∀t∈T',Tri RV (RH s.heap) t:=λt ht=>hT t (i.mem_iff.mp ht);obtain⟨D,ae⟩:=zhe n;rw[<- eT]at D;have hD:H (s.heap.objs.size+1)=none:=I.hok.fresh (VW _);refine⟨.ref (s.heap.objs.size+1),upd H (s.heap.objs.size+1) (.lst (T'.map (·.1))),I.laid (t':=s.toks) O (VW _) ⟨?_,ws,c,D,ha⟩,rfl,q _ _ _ hD ae (by rw[<- e3];exact i.map _) (λaa=>?_) (by rw[<- e1];exact i.map _)⟩
  .rw[D.length,J.length_eq];exact z1
  .have U:=U (by
    refine aa.imp (λc=>by rw[Paired.length j];exact c) λ⟨c0,c1,c2⟩=>⟨c0,by rw[Paired.length j];exact c1,?_⟩;refine zsh (λv v' k m h1 h2 hk h=>?_) (zoB 63 j) (λk hk=>Wv hk) c2;rw[g h1,g h2];rw[W.rank hk]at h;exact bh h)
   rw[eT,Wx]at U;rw[Wx];refine U.imp_of_mem λ{x y} u L h=>?_;obtain⟨_,_,h1⟩:=n x u;obtain⟨_,_,h2⟩:=n y L;rw[g h1,g h2]at h;have my:y.2.2∈ks:=by
    rw[<- e3];exact XY.mpr ⟨y,i.mem_iff.mp L,rfl⟩
   rw[W.rank my];exact bg "a"
end
section
variable {X:Cx}
def zaD {b:Bool}(B:zdr b):jm X (.builtin "sorted") (λxs H Q=>∃l g ps,xs=[.ref l]/\SqL X.K H l g/\j9 H g ps/\g.length<=1000000 /\
  ∀d c f,H d=none->j9 H c f->f.Perm ps->(Sm b (λp q=>lt2 p q=true) ps->f.Pairwise (λp q=>lt2 q p=false))->Q (.ref d) (upd H d (.lst c))):=by
 intro bQ s σ H xs c Q I r h;revert h;refine fC λl g ps z0 J m M q=>?_;subst z0;obtain⟨u,rfl,ru⟩:=vals1 r;cases ru;obtain⟨N,w,Y,_⟩:=I.list J;have G:=j9.pairs I m w;refine zmG B zmw (RH:=zC) (λh v k O=>zfZ) (λh h' v k U ⟨a,o,n,t,u,e,y,r⟩=>⟨a,o,n,t,u,e,U _ _ y,r⟩) I Y.isList M w m G (λs' i h2=>?_) λd c j D h1 h2 z _=>q d c j D h1 h2 z;obtain⟨fs,hk,E,hint⟩:=Y4 i;refine kat_kind (T:=.type "int") hk "a" (λv L=>?_) "d" ⟨rfl,λv v' k O h1 h2 C A=>?_⟩
 .obtain⟨x,t,rfl⟩:=hint v L;exact Looks.of_pure rfl
 .exact zjL h1 h2 A
def zaE (Y:X.A.units+64<VD):jm X (.builtin "sorted") (λxs H Q=>∃l g ks,xs=[.ref l]/\SqL X.K H l g/\WW (LstAt H) g ks/\g.length<=1000000 /\
  ∀d b f,H d=none->WW (LstAt H) b f->f.Perm ks->b.Perm g->Q (.ref d) (upd H d (.lst b))):=by
 intro O s σ H xs b Q I r h;revert h;refine fC λl g ks z0 D m G q=>?_;subst z0;obtain⟨u,rfl,N⟩:=vals1 r;cases N;obtain⟨J,w,M,_⟩:=I.list D;have B:=ziK I m w;refine zmG zoA zqC (RH:=ListPairs) (λh v k L=>zmy) (λh U v k p ⟨a,o,xs,n,e,i,c,d,r⟩=>⟨a,o,xs,n,e,p _ _ i,c,d,Y0 p r⟩) I M.isList G w m B (λs' j h2=>?_) λd b f z h1 h2 _ x=>q d b f z h1 h2 x;refine kas_kind (T:=.type "list") h2 (λv E=>?_) "d" "d" ⟨rfl,λv v' k L h1 h2 C y=>?_⟩
 .obtain⟨a,o,rfl,i,c1⟩:=ziL j v E;exact c1 ▸ (Looks.ld i).andThen .now
 .exact zmx h1 h2 (by show X.A.units+1+1+30<VD;lia) y
end
end GS
namespace ST
variable {X:Cx}
def zel (hh:X.A.handled=none):jm X (.builtin "sorted") (λxs H Q=>∃l ks,xs=[.ref l]/\H l=some (zdj X.prog X.w l ks)/\(∀q∈ks,H q.1=some (.tup [.int q.2.1,.int q.2.2]))/\(ks.map (·.2)).Nodup/\ks.length<64 /\
  ∀d U O,H d=none->j9 H U O->O.Perm (ks.map (·.2))->Up2 O->Q (.ref d) (upd H d (.lst U))):=by
 intro bQ s σ H xs U Q I r h;revert h;refine fY λl ks z0 hl hT ak ap q=>?_;subst z0;obtain⟨u,rfl,ru⟩:=vals1 r;cases ru;obtain⟨⟨es,ep,t,ho,he,G,ab,am⟩,_,_⟩:=(show qv X.prog X.w H s.heap l (zdj X.prog X.w l ks) from I.hok l _ hl);have av:ks.length=es.size:=by
  rw[<- XV,he,ZB]
 apply RD kind_sorted plain_sorted entry_sorted (args_sorted1 _);unfold UO.«sorted»;refine X9 (m:=checkCount "sorted" 1 1 _) (XR (X9 (zhd (by simp[hh]) ho G ab am "a" λf h1 tk ae ah aj=>?_)));have ao:es.toList.map (·.2)=ks.map λq=>WF q.1:=by
  rw[he,Wz];rfl
 rw[ao]at ae;obtain⟨g,z,hj⟩:=zdk (λq:Addr×(Int×Int)=>WF q.1) ae ks rfl;have aa:∀q∈g,H q.1=some (.tup [.int q.2.1,.int q.2.2]):=λq L=>hT q (z.mem_iff.mp L);have D:(g.map (·.2)).Nodup:=(z.map (·.2)).nodup_iff.mpr ak;have au:g.length=ks.length:=z.length_eq;have ar:f.length=g.length:=by rw[hj,ZB]
 have rv:∀{g:List (Addr×(Int×Int))},Vals (g.map λq=>V.ref q.1) (g.map λq=>WF q.1):=λ{g}=>by
  induction g with
  | nil=>exact .nil
  | cons a t ih=>exact .cons rfl ih
 have ht:∀{g:List (Addr×(Int×Int))},(∀q∈g,H q.1=some (.tup [.int q.2.1,.int q.2.2]))->j9 H (g.map λq=>V.ref q.1) (g.map (·.2)):=λ{g}=>by
  induction g with
  | nil=>exact λ_=>.nil
  | cons a t ih=>exact λh=>.cons ⟨a.1,rfl,h a XT⟩ (ih λq L=>h q (XQ _ L))
 have j:WW (zC s.heap) f (g.map (·.2)):=by
  rw[hj];exact j9.pairs I (ht aa) rv
 generalize af:g.map (·.2)=ps at j D;have aw:f.length=ps.length:=Paired.length j;have W:=GS.zmw;have ip:∀q:Addr×(Int×Int),H q.1=some (.tup [.int q.2.1,.int q.2.2])->zC s.heap (.ref q.1) q.2:=λq L=>by
  have:=j9.pairs I (.cons ⟨q.1,rfl,L⟩ .nil:j9 H [V.ref q.1] [q.2]) (.cons rfl .nil:Vals [V.ref q.1] [WF q.1]);cases this with
  | cons h _=>exact h
 classical
 let r:Y1->Int:=λv=>if h:∃k,zC s.heap v k then GS.rkK lt2 ps h.choose else 0
 have B:∀{v:Y1} {k:Int×Int},zC s.heap v k->r v=GS.rkK lt2 ps k:=λ{v k} h=>by
  have M:∃k,zC s.heap v k:=⟨k,h⟩;show (if h:∃k,zC s.heap v k then GS.rkK lt2 ps h.choose else 0)=_;rw[dif_pos M,GS.zfZ M.choose_spec h]
 have small:f.length<=Xy:=by rw[Um];lia
 refine X9 (OC ?_ small);have ac:(h1.push (Uk "list" f.toArray 0)).get? h1.objs.size=some (Uk "list" f.toArray 0):=Xf _ rfl;have kL:∀b o,s.heap.get? b=some o->(h1.push (Uk "list" f.toArray 0)).get? b=some o:=λb o e=>X6 _ (ah b o e);have ne:∀b o,s.heap.get? b=some o->b≠h1.objs.size:=λb o e=>Xi (XE (ah b o e));show Xh _ _ _ _ _ { s with heap:=h1.push (Uk "list" f.toArray 0),toks:=tk };refine X9 (We (Us slot_list_sort ⟨_,ac,rfl⟩ entry_list_sort (GS.zmF GS.zoA (s:={ s with heap:=h1.push (Uk "list" f.toArray 0),toks:=tk }) ac small r (λh2 s' kk=>?_) ?_) (args_list_sort _)))
 .have al:=Y0 (λb o e=>kk b o (ne b o e) (kL b o e)) j;obtain⟨fs,hk,aq,hint⟩:=Y4 al;refine kat_kind (T:=.type "int") hk "a" (λv hv=>?_) "d" ⟨rfl,λx M y hy C hC=>?_⟩
  .obtain⟨x,t,rfl⟩:=hint v hv;exact Looks.of_pure rfl
  .have mx:x.1∈f:=by
    rw[US]at M;exact(SY M).2
   have my:y.1∈f:=by
    rw[US]at hy;exact(SY hy).2
   obtain⟨k,k1,k2⟩:=GS.Ze j x.1 mx;obtain⟨k',ax,ag⟩:=GS.Ze j y.1 my;have kp:∀{v:Y1} {k:Int×Int},zC s.heap v k->zC s'.heap v k:=λ{v k} ⟨a,o,n,t,u,e,e1,r⟩=>⟨a,o,n,t,u,e,kk _ _ (ne _ _ e1) (kL _ _ e1),r⟩;have Y:C (decide (r x.1<r y.1)) s':=hC;rw[B k2,B ag,<- W.rank k1]at Y;exact zjL (kp k2) (kp ag) Y
 .intro ws h' c E hs kk ha;have hs:=hs (.inl "a");obtain⟨p,i,ej⟩:=zdk (λq:Addr×(Int×Int)=>WF q.1) E g hj;have hD:H h1.objs.size=none:=I.hok.fresh aj;have J:∀q∈p,H q.1=some (.tup [.int q.2.1,.int q.2.2]):=λq L=>aa q (i.mem_iff.mp L);have ai:Vals (p.map λq=>V.ref q.1) ws:=by
   rw[ej];exact rv
  have N:(p.map (·.2)).Nodup:=(i.map (·.2)).nodup_iff.mpr (by rw[af];exact D);have an:Up2 (p.map (·.2)):=by
   unfold Up2;unfold Te at N;rw[Wx]at N ⊢;rw[ej,Wx]at hs;refine(hs.and N).imp_of_mem λ{x y} M hy ⟨h1,h2⟩=>?_;rw[B (ip x (J x M)),B (ip y (J y hy))]at h1;have my:y.2∈ps:=by
    rw[<- af];exact XY.mpr ⟨y,i.mem_iff.mp hy,rfl⟩
   have e1:lt2 y.2 x.2=false:=by
    rw[W.rank my];exact bg "a"
   have e2:=zcO h2;rw[e1]at e2;cases hh:lt2 x.2 y.2 with
   | true=>rfl
   | false =>
    rw[hh]at e2;cases e2
  refine⟨_,rfl,XR (eE _ rfl (.ref h1.objs.size) (upd H h1.objs.size (.lst (p.map λq=>V.ref q.1))) (I.laid (t':=tk) (λb o e=>kk b o (ne b o e) (kL b o e)) aj ⟨?_,_,c,ai,ha⟩) rfl (q _ _ _ hD (ht J) ((i.trans z).map _) an))⟩;rw[ai.length,E.length_eq];exact small
end ST
end L2
namespace Cells
def zU (p:Nat->Bool)(i:Nat):Nat->List Nat->AD
 | _,[]=>[]
 | j,c::r=>(if p c=true then [(i,j)] else [])++zU p i (j+1) r
def zJ (p:Nat->Bool):Nat->List (List Nat)->AD
 | _,[]=>[]
 | i,t::r=>zU p i 0 t++zJ p (i+1) r
theorem Y6 (p:Nat->Bool)(i:Nat):∀(j:Nat) (a b:List Nat),zU p i j (a++b)=zU p i j a++zU p i (j+a.length) b
 | j,[],b=>by simp[zU]
 | j,c::a,b=>by
  simp only[QQ,zU,Y6 p i (j+1) a b,XA,WP];rw[show j+1+a.length=j+(a.length+1) by lia]
theorem yZ (p:Nat->Bool):∀(i:Nat) (a b:List (List Nat)),zJ p i (a++b)=zJ p i a++zJ p (i+a.length) b
 | i,[],b=>by simp[zJ]
 | i,t::a,b=>by
  simp only[QQ,zJ,yZ p (i+1) a b,XA,WP];rw[show i+1+a.length=i+(a.length+1) by lia]
def zaT {p:Nat->Bool}{i j c:Nat}{t:List Nat}(h:t[j]?=some c):zU p i 0 (t.take (j+1))=zU p i 0 (t.take j)++(if p c=true then [(i,j)] else []):=by
 rw[XB,h,Y6];have a:(t.take j).length=j:=by
  have:=(X2.mp h).1;rw[XC];lia
 simp[zU,a]
def zaU {p:Nat->Bool}{i:Nat}{t:List Nat}{rs:List (List Nat)}(h:rs[i]?=some t):zJ p 0 (rs.take (i+1))=zJ p 0 (rs.take i)++zU p i 0 t:=by
 rw[XB,h,yZ];have a:(rs.take i).length=i:=by
  have:=(X2.mp h).1;rw[XC];lia
 simp[zJ,a]
theorem yj (p:Nat->Bool)(i:Nat):∀(j:Nat) (t:List Nat),(zU p i j t).length<=t.length
 | j,[]=>by simp[zU]
 | j,c::r=>by
  have:=yj p i (j+1) r;simp only[zU,X5,XA];split<;>simp<;>lia
theorem jL (p:Nat->Bool):∀(i:Nat) (rs:List (List Nat)),(∀t∈rs,t.length<=8)->(zJ p i rs).length<=8*rs.length
 | i,[],_=>by simp[zJ]
 | i,t::r,h=>by
  have h1:=yj p i 0 t;have h2:=jL p (i+1) r λu a=>h u (XQ _ a);have b:=h t XT;simp only[zJ,X5,XA];lia
theorem J4 {p:Nat->Bool}{i:Nat}:∀{j:Nat} {t:List Nat} {x:AA},x∈zU p i j t->∃m c,x=(i,j+m)/\t[m]?=some c/\p c=true
 | j,[],x,h=>by simp[zU]at h
 | j,c::r,x,h=>by
  simp only[zU,XU]at h;rcases h with h | h
  .split at h
   .rename_i hp;have:x=(i,j):=by simpa using h
    exact⟨0,c,this,rfl,hp⟩
   .cases h
  .obtain⟨m,a,e,h1,h2⟩:=J4 h;exact⟨m+1,a,by rw[e,show j+1+m=j+(m+1) by lia],↑h1,h2⟩
def J5 {p:Nat->Bool}{i:Nat}{rs:List (List Nat)}{x:AA}(h:x∈zJ p i rs):∃k j t c,x=(i+k,j)/\rs[k]?=some t/\t[j]?=some c/\p c=true:=by
 induction rs generalizing i with
 | nil=>simp[zJ]at h
 | cons t r b =>
  simp only[zJ,XU]at h;rcases h with h | h
  .obtain⟨m,c,e,h1,h2⟩:=J4 h;exact⟨0,m,t,c,↑e,rfl,h1,h2⟩
  .refine fM (λk j u c e h1 h2 a=>?_) (b h);exact⟨k+1,j,u,c,by rw[e,show i+1+k=i+(k+1) by lia],↑h1,h2,a⟩
def sgn (rs:List (List Nat))(x:AA):Nat:=(rs.getD x.1 []).getD x.2 0
theorem zbq {p q:Nat->Bool}{i:Nat}(f:AA->Bool):∀(j:Nat) (t:List Nat),(∀m c,t[m]?=some c->f (i,j+m)=q c)->(zU p i j t).filter f=zU (λc=>p c&&q c) i j t
 | j,[],_=>by simp[zU]
 | j,c::r,h=>by
  have g:=zbq (p:=p) (q:=q) (i:=i) f (j+1) r λm d e=>by
   have:=h (m+1) d ↑e;rw[show j+1+m=j+(m+1) by lia];exact this
  have h0:=h 0 c rfl;simp only[zU,Xp,g];congr 1;simp only[Oj]at h0;by_cases a:p c=true
  .by_cases b:q c=true
   .simp[a,b,h0]
   .simp[a,b,h0]
  .simp[a]
theorem zbr {p q:Nat->Bool}(f:AA->Bool):∀(i:Nat) (rs:List (List Nat)),(∀k t m c,rs[k]?=some t->t[m]?=some c->f (i+k,m)=q c)->(zJ p i rs).filter f=zJ (λc=>p c&&q c) i rs
 | i,[],_=>by simp[zJ]
 | i,t::r,h=>by
  have b:=zbr (p:=p) (q:=q) f (i+1) r λk u m c hk a=>by
   have:=h (k+1) u m c ↑hk a;rw[show i+1+k=i+(k+1) by lia];exact this
  simp only[zJ,Xp,b];rw[zbq (p:=p) (q:=q) f 0 t λm c a=>by simpa using h 0 t m c rfl a]
def zf4 {rs:List (List Nat)}{i j:Nat}{t:List Nat}{c:Nat}(h:rs[i]?=some t)(h2:t[j]?=some c):sgn rs (i,j)=c:=by
 unfold sgn;simp[List.getD,h,h2]
def all_filter {p q:Nat->Bool}(rs:List (List Nat)):(zJ p 0 rs).filter (λx=>q (sgn rs x))=zJ (λc=>p c&&q c) 0 rs :=
 zbr _ 0 rs λk t m c hk a=>by rw[show 0+k=k by lia,zf4 hk a]
def zhm {p q:Nat->Bool}(h:∀c,p c=q c)(i:Nat)(rs:List (List Nat)):zJ p i rs=zJ q i rs:=by
 rw[show p=q from funext h]
def near (x y:AA):Bool:=decide ((if (x.1:Int)-(y.1:Int)<0 then -((x.1:Int)-(y.1:Int)) else (x.1:Int)-(y.1:Int))<2)&&(decide ((if (x.2:Int)-(y.2:Int)<0 then -((x.2:Int)-(y.2:Int)) else (x.2:Int)-(y.2:Int))<2) && !decide (x=y))
def xg (x y:AA):near x y=true↔(x.1<=y.1+1/\y.1<=x.1+1)/\(x.2<=y.2+1/\y.2<=x.2+1)/\¬ x=y:=by
 unfold near;rw[VR,VR,decide_eq_true_iff,decide_eq_true_iff,Wu,decide_eq_false_iff_not];constructor
 .rintro⟨h1,h2,h3⟩;refine⟨?_,?_,h3⟩
  .split at h1<;>lia
  .split at h2<;>lia
 .rintro⟨h1,h2,h3⟩;refine⟨?_,?_,h3⟩
  .split<;>lia
  .split<;>lia
def lex (a b:AA):Prop:=a.1<b.1\/(a.1=b.1/\a.2<b.2)
theorem ze1 (p:Nat->Bool)(i:Nat):∀(j:Nat) (t:List Nat),(zU p i j t).Pairwise lex
 | j,[]=>by simp[zU]
 | j,c::r=>by
  simp only[zU];rw[OY];refine⟨?_,ze1 p i (j+1) r,λa d b g=>?_⟩
  .split<;>simp
  .split at d
   .have e:a=(i,j):=by simpa using d
    obtain⟨m,h,f,_,_⟩:=J4 g;subst e f;exact .inr ⟨rfl,by show j<j+1+m;lia⟩
   .cases d
theorem Yt (p:Nat->Bool):∀(i:Nat) (rs:List (List Nat)),(zJ p i rs).Pairwise lex
 | i,[]=>by simp[zJ]
 | i,t::r=>by
  simp only[zJ];rw[OY];refine⟨ze1 p i 0 t,Yt p (i+1) r,λa f b g=>?_⟩;obtain⟨m,c,e,_,_⟩:=J4 f;obtain⟨k,j,u,h,d,_,_,_⟩:=J5 g;subst e d;exact .inl (by show i<i+1+k;lia)
def zmH {p:Nat->Bool}{f:AA->Bool}{n:Nat}{rs:List (List Nat)}(h:∀r c,r<n->f (r,c)=false):(zJ p 0 (rs.take n)).filter f=[]:=by
 rw[WB];intro x b;obtain⟨k,j,t,c,e,hk,_,_⟩:=J5 b;have a:k<n:=by
  have:=(X2.mp hk).1;rw[XC]at this;lia
 subst e;rw[h _ _ "a"];exact XM
def zla {p:Nat->Bool}{f:AA->Bool}{n:Nat}{rs:List (List Nat)}(h:∀r c,n<=r->f (r,c)=false):(zJ p 0 (rs.take n)).filter f=(zJ p 0 rs).filter f:=by
 by_cases d:n<=rs.length
 .have e:=WR n rs;have a:zJ p 0 rs=zJ p 0 (rs.take n)++zJ p (0+(rs.take n).length) (rs.drop n):=by rw[<- yZ,e]
  rw[a,Xp];have z:(zJ p (0+(rs.take n).length) (rs.drop n)).filter f=[]:=by
   rw[WB];intro x b;obtain⟨k,j,t,c,e,hk,_,_⟩:=J5 b;subst e;rw[XC,h _ _ "a"];exact XM
  rw[z,Xc]
 .rw[Wt "a"]
def zmI {p:Nat->Bool}{f:AA->Bool}{i n:Nat}{t:List Nat}(h:∀c,c<n->f (i,c)=false):(zU p i 0 (t.take n)).filter f=[]:=by
 rw[WB];intro x d;obtain⟨m,c,e,a,_⟩:=J4 d;have b:m<n:=by
  have:=(X2.mp a).1;rw[XC]at this;lia
 subst e;rw[h _ "a"];exact XM
def zlb {p:Nat->Bool}{f:AA->Bool}{i n:Nat}{t:List Nat}(h:∀c,n<=c->f (i,c)=false):(zU p i 0 (t.take n)).filter f=(zU p i 0 t).filter f:=by
 by_cases g:n<=t.length
 .have e:=WR n t;have a:zU p i 0 t=zU p i 0 (t.take n)++zU p i (0+(t.take n).length) (t.drop n):=by rw[<- Y6,e]
  rw[a,Xp];have z:(zU p i (0+(t.take n).length) (t.drop n)).filter f=[]:=by
   rw[WB];intro x b;obtain⟨m,c,e,d,_⟩:=J4 b;subst e;rw[XC,h _ "a"];exact XM
  rw[z,Xc]
 .rw[Wt "a"]
end Cells
namespace Parts
abbrev C:=AA
structure Good (cl:C->List C)(done:List C)(gs:List (List C)):Prop where
 ne:∀g∈gs,g ≠ []
 nd:gs.flatten.Nodup
 from_:∀x∈gs.flatten,∃o∈done,x∈cl o
 cov:∀o∈done,cl o ≠ []->∃g∈gs,∀x∈cl o,x∈g
 con:∀g∈gs,∀S:C->Prop,(∀o∈done,(∃x∈cl o,S x)->∀x∈cl o,S x)->(∃x∈g,S x)->∀x∈g,S x
 srt:∀g∈gs,g.Pairwise Cells.lex
def Good.start (a:C->List C):Good a [] []:=⟨(λ_ h=>nomatch h),RS,(λ_ h=>nomatch h),(λ_ h=>nomatch h),(λ_ h=>nomatch h),(λ_ h=>nomatch h)⟩
def Good.skip {a:C->List C}{done:List C}{gs:List (List C)}(G:Good a done gs){o:C}(h:a o=[]):Good a (done++[o]) gs:=by
 refine⟨G.ne,G.nd,λx b=>?_,λp hp c=>?_,λg f S d=>G.con g f S λp hp=>d p (Xq _ hp),G.srt⟩
 .obtain⟨p,hp,b⟩:=G.from_ x b;exact⟨p,Xq _ hp,b⟩
 .rcases XU.mp hp with hp | hp
  .exact G.cov p hp c
  .have e:p=o:=by simpa using hp
   subst e;exact absurd h c
def ze2 {gs:List (List C)}(j:gs.flatten.Nodup):∀{g g':List C} {x:C},g∈gs->g'∈gs->x∈g->x∈g'->g=g':=by
 induction gs with
 | nil=>intro g g' x h;cases h
 | cons a r m =>
  rw[WG,Wl]at j;obtain⟨_,h2,i⟩:=j;intro g g' x l c e b;rcases XF.mp l with f | g1
  .rcases XF.mp c with d | g2
   .rw[f,d]
   .exact absurd rfl (i x (f ▸ e) x (WN.mpr ⟨g',g2,b⟩))
  .rcases XF.mp c with d | g2
   .exact absurd rfl (i x (d ▸ b) x (WN.mpr ⟨g,g1,e⟩))
   .exact m h2 g1 g2 e b
theorem jd (p:List C->Bool):∀gs:List (List C),(gs.filter p).flatten.Sublist gs.flatten
 | []=>List.Sublist.refl _
 | a::r=>by
  rw[W3,WG];split
  .rw[WG];exact List.Sublist.append (List.Sublist.refl _) (jd p r)
  .exact List.Sublist.trans (jd p r) (RC _ _)
def meets (a g:List C):Bool:=!(g.filter λc=>a.any λx=>decide (x=c)).isEmpty
def Yu {a g:List C}:meets a g=true ↔ ∃x∈g,x∈a:=by
 unfold meets;rw[Wu,Vk];constructor
 .intro h;obtain⟨x,b⟩:=Tu _ h;rw[XZ,Ww]at b;obtain⟨h1,y,h2,d⟩:=b;have e:y=x:=bh d;subst e;exact⟨y,h1,h2⟩
 .rintro⟨x,h1,h2⟩ hn;have:x∈g.filter λc=>a.any λx=>decide (x=c):=XZ.mpr ⟨h1,Ww.mpr ⟨x,h2,br rfl⟩⟩;rw[hn]at this;cases this
def whole (w:List C):List (List C)->List C
 | []=>w
 | g::r=>whole (w++g.filter λc=>!(w.any λx=>decide (x=c))) r
def xh (w:List C)(c:C):(w.any λx=>decide (x=c))=true↔c∈w:=by
 rw[Ww];constructor
 .rintro⟨x,h1,h2⟩;have e:x=c:=bh h2;subst e;exact h1
 .intro h;exact⟨c,h,br rfl⟩
theorem zbW {x:C}:∀{w:List C} {b:List (List C)},x∈whole w b↔x∈w\/∃m∈b,x∈m
 | w,[]=>by simp[whole]
 | w,g::r=>by
  rw[whole,zbW,XU,XZ];constructor
  .rintro((h | ⟨h,_⟩) | ⟨m,hm,h⟩)
   .exact .inl h
   .exact .inr ⟨g,XT,h⟩
   .exact .inr ⟨m,XQ _ hm,h⟩
  .rintro(h | ⟨m,hm,h⟩)
   .exact .inl (.inl h)
   .rcases XF.mp hm with rfl | hm
    .by_cases a:x∈w
     .exact .inl (.inl a)
     .refine .inl (.inr ⟨h,?_⟩);rw[Wu,WU];exact λz=>a ((xh w x).mp z)
    .exact .inr ⟨m,hm,h⟩
theorem QK:∀{w:List C} {i:List (List C)},w.Nodup->(∀m∈i,m.Nodup)->(whole w i).Nodup
 | w,[],h,_=>h
 | w,g::r,h,f=>by
  rw[whole];refine QK ?_ λm d=>f m (XQ _ d);rw[Wl];refine⟨h,(f g XT).sublist WM,λa j b l e=>?_⟩;subst e;have c:=(XZ.mp l).2;rw[(xh w a).mpr j]at c;cases c
def Good.step {c:C->List C}{done:List C}{gs:List (List C)}(G:Good c done gs){o:C}(h:c o ≠ [])(Y:(c o).Nodup){d:List (List C)}{w:List C}(J:d=gs.filter λg=>!((gs.filter (meets (c o))).any λm=>decide (m=g)))
  (L:w.Perm (whole (c o) (gs.filter (meets (c o))))) (hs:w.Pairwise Cells.lex):Good c (done++[o]) (d++[w]):=by
 have r:∀g,g∈d↔g∈gs/\¬ ∃x∈g,x∈c o:=λg=>by
  rw[J,XZ,Wu,WU];constructor
  .rintro⟨h1,h2⟩;exact⟨h1,λj=>h2 (Ww.mpr ⟨g,XZ.mpr ⟨h1,Yu.mpr j⟩,br rfl⟩)⟩
  .rintro⟨h1,h2⟩;refine⟨h1,λj=>?_⟩;obtain⟨m,i,e⟩:=Ww.mp j;have M:m=g:=bh e;subst M;exact h2 (Yu.mp (XZ.mp i).2)
 have q:∀x,x∈w↔x∈c o\/∃g∈gs,(∃y∈g,y∈c o)/\x∈g:=λx=>by
  rw[L.mem_iff,zbW];constructor
  .rintro(h1 | ⟨m,i,h1⟩)
   .exact .inl h1
   .obtain⟨h2,j⟩:=XZ.mp i;exact .inr ⟨m,h2,Yu.mp j,h1⟩
  .rintro(h1 | ⟨g,h2,j,h1⟩)
   .exact .inl h1
   .exact .inr ⟨g,XZ.mpr ⟨h2,Yu.mpr j⟩,h1⟩
 have O:∀g∈gs,g.Nodup:=λg hg=>G.nd.sublist (VE hg);have wn:w.Nodup:=L.nodup_iff.mpr (QK Y λm i=>O m (XZ.mp i).1);refine⟨λg hg=>?_,?_,λx hx=>?_,λp hp B=>?_,λg hg S I=>?_,λg hg=>?_⟩
 .rcases XU.mp hg with hg | hg
  .exact G.ne g ((r g).mp hg).1
  .have e:g=w:=by simpa using hg
   subst e;obtain⟨x,hx⟩:=Tu _ h;exact Ta ((q x).mpr (.inl hx))
 .rw[WS,Wl];refine⟨G.nd.sublist (by rw[J];exact jd _ gs),↑wn,λa Q b U e=>?_⟩;subst e;have A:a∈w:=by simpa using U
  obtain⟨g,hg,hx⟩:=WN.mp Q;obtain⟨v,H⟩:=(r g).mp hg;rcases(q a).mp A with h1 | ⟨m,s,m2,u⟩
  .exact H ⟨a,hx,h1⟩
  .have e:=ze2 G.nd v s hx u;subst e;exact H m2
 .rw[WS]at hx;rcases XU.mp hx with hx | hx
  .obtain⟨g,hg,hx⟩:=WN.mp hx;obtain⟨p,hp,hx⟩:=G.from_ x (WN.mpr ⟨g,((r g).mp hg).1,hx⟩);exact⟨p,Xq _ hp,hx⟩
  .have n:x∈w:=by simpa using hx
   rcases(q x).mp n with h1 | ⟨g,v,_,N⟩
   .exact⟨o,"s",h1⟩
   .obtain⟨p,hp,hx⟩:=G.from_ x (WN.mpr ⟨g,v,N⟩);exact⟨p,Xq _ hp,hx⟩
 .rcases XU.mp hp with hp | hp
  .obtain⟨g,hg,hx⟩:=G.cov p hp B;by_cases i:∃x∈g,x∈c o
   .exact⟨w,"s",λx n=>(q x).mpr (.inr ⟨g,hg,i,hx x n⟩)⟩
   .exact⟨g,Xq _ ((r g).mpr ⟨hg,i⟩),hx⟩
  .have e:p=o:=by simpa using hp
   subst e;exact⟨w,"s",λx hx=>(q x).mpr (.inl hx)⟩
 .have l:∀p∈done,(∃x∈c p,S x)->∀x∈c p,S x:=λp hp=>I p (Xq _ hp);rcases XU.mp hg with hg | hg
  .exact G.con g ((r g).mp hg).1 S l
  .have e:g=w:=by simpa using hg
   subst e;rintro⟨x,hx,sx⟩;have f:∀y∈c o,S y:=by
    refine I o "s" ?_;rcases(q x).mp hx with h1 | ⟨m,s,⟨y,D,E⟩,u⟩
    .exact⟨x,h1,sx⟩
    .exact⟨y,E,G.con m s S l ⟨x,u,sx⟩ y D⟩
   intro z hz;rcases(q z).mp hz with h1 | ⟨m,s,⟨y,D,E⟩,u⟩
   .exact f z h1
   .exact G.con m s S l ⟨y,D,f y E⟩ z u
 .rcases XU.mp hg with hg | hg
  .exact G.srt g ((r g).mp hg).1
  .have e:g=w:=by simpa using hg
   subst e;exact hs
def Good.perm {d:C->List C}{done:List C}{gs b:List (List C)}(G:Good d done gs)(h:b.Perm gs):Good d done b:=by
 refine⟨λg a=>G.ne g (h.mem_iff.mp a),h.flatten.nodup_iff.mpr G.nd,λx c=>G.from_ x (h.flatten.mem_iff.mp c),λo f e=>?_,λg a=>G.con g (h.mem_iff.mp a),λg a=>G.srt g (h.mem_iff.mp a)⟩;obtain⟨g,a,c⟩:=G.cov o f e;exact⟨g,h.mem_iff.mpr a,c⟩
theorem Zg:∀{gs:List (List C)},(∀g∈gs,g ≠ [])->gs.length<=gs.flatten.length
 | [],_=>XW _
 | g::r,h=>by
  have b:=Zg (gs:=r) λx a=>h x (XQ _ a);have:1<=g.length:=OK.mpr (h g XT);rw[WG,X5,XA];lia
theorem zZ:∀{a b:List C},a.Nodup->(∀x∈a,x∈b)->a.length<=b.length
 | [],_,_,_=>W2 _
 | x::r,b,h,s=>by
  obtain⟨h1,h2⟩:=Vp.mp h;have c:=s x XT;have f:=zZ (a:=r) (b:=b.erase x) h2 λy d=>(List.mem_erase_of_ne (λ(e:y=x)=>h1 (by rw[<- e];exact d))).mpr (s y (XQ _ d));rw[List.length_erase_of_mem c]at f;have:=Ua c;rw[XA];lia
end Parts
namespace Subs
variable {α:Type}
def step (S:List (List α))(c:α):List (List α):=S++S.map (·++[c])
def subs (cs:List α):List (List α):=cs.foldl step [[]]
def pick:List α->Nat->List α
 | [],_=>[]
 | c::r,b=>(if b%2=1 then [c] else [])++pick r (b/2)
def zlc (cs:List α)(c:α):subs (cs++[c])=step (subs cs) c:=by
 unfold subs;rw[Vw];rfl
theorem zj5:∀(cs:List α) (c:α) (b:Nat),b<2^cs.length->pick (cs++[c]) b=pick cs b
 | [],c,b,h=>by
  have:b=0:=by
   simp at h;lia
  subst this;rfl
 | d::r,c,b,h=>by
  show _++pick (r++[c]) (b/2)=_++pick r (b/2);rw[zj5 r c (b/2) (by
   rw[XA,Uh]at h;lia)]
theorem zj6:∀(cs:List α) (c:α) (b:Nat),b<2^cs.length->pick (cs++[c]) (2^cs.length+b)=pick cs b++[c]
 | [],c,b,h=>by
  have:b=0:=by
   simp at h;lia
  subst this;rfl
 | d::r,c,b,h=>by
  rw[XA,Uh]at h;show (if (2^(r.length+1)+b)%2=1 then [d] else [])++pick (r++[c]) ((2^(r.length+1)+b)/2)=((if b%2=1 then [d] else [])++pick r (b/2))++[c];have a:(2^(r.length+1)+b)%2=b%2:=by
   rw[Uh];lia
  have e:(2^(r.length+1)+b)/2=2^r.length+b/2:=by
   rw[Uh];lia
  rw[a,e,zj6 r c (b/2) "a",WP]
def zag (cs:List α):subs cs=(Xk (2^cs.length)).map (pick cs):=by
 rw[<- List.reverse_reverse cs];induction cs.reverse with
 | nil=>rfl
 | cons c r d =>
  rw[List.reverse_cons,zlc,d,X5,Pr,Uh,Nat.mul_two,List.range_add,XS,Wz];unfold step;rw[Wz];congr 1
  .refine Xo λb a=>?_;exact(zj5 _ _ _ (W9.mp a)).symm
  .refine Xo λb a=>?_;exact(zj6 _ _ _ (W9.mp a)).symm
end Subs
namespace Grow
variable {α β:Type}
def cnt (near:β->α->Bool)(o:β)(p:List α):Nat:=(p.filter (near o)).length
def zds (near:β->α->Bool)(a:β->Int)(b:List α)(o:β)(p:List α):Bool:=decide (a o-((cnt near o b:Nat):Int)<=((cnt near o p:Nat):Int))&&decide (((cnt near o p:Nat):Int)<=a o)
def chk (near:β->α->Bool)(b:β->Int)(O:List β)(c:α)(a:List α)(p:List α):Bool:=(O.filter λo=>near o c).all λo=>zds near b a o p
def grow (near:β->α->Bool)(b:β->Int)(O:List β):List (List α)->List α->List (List α)
 | F,[]=>F
 | F,c::a=>grow near b O ((Subs.step F c).filter (chk near b O c a)) a
def good (near:β->α->Bool)(b:β->Int)(O:List β)(done a:List α)(p:List α):Bool:=(O.filter λo=>done.any (near o)).all λo=>zds near b a o p
def cnt_cons (near:β->α->Bool)(o:β)(c:α)(r:List α):cnt near o (c::r)=cnt near o r+if near o c=true then 1 else 0:=by
 unfold cnt;rw[W3];split<;>rfl
def zhn (near:β->α->Bool)(o:β)(p:List α)(c:α):cnt near o (p++[c])=cnt near o p+if near o c=true then 1 else 0:=by
 unfold cnt;rw[Xp,X5];congr 1;rw[W3];split<;>rfl
def yD {near:β->α->Bool}{b:β->Int}{a:List α}{o:β}{p:List α}:zds near b a o p=true↔b o-((cnt near o a:Nat):Int)<=((cnt near o p:Nat):Int)/\((cnt near o p:Nat):Int)<=b o:=by
 unfold zds;rw[VR,bu,bu]
def zj7 {near:β->α->Bool}{b:β->Int}{O:List β}{c:α}{a p:List α}:chk near b O c a p=true ↔ ∀o∈O,near o c=true->zds near b a o p=true:=by
 unfold chk;rw[WV];exact⟨λh o d e=>h o (XZ.mpr ⟨d,e⟩),λh o d=>h o (XZ.mp d).1 (XZ.mp d).2⟩
def QL {near:β->α->Bool}{b:β->Int}{O:List β}{done a p:List α}:good near b O done a p=true ↔ ∀o∈O,done.any (near o)=true->zds near b a o p=true:=by
 unfold good;rw[WV];exact⟨λh o c d=>h o (XZ.mpr ⟨c,d⟩),λh o c=>h o (XZ.mp c).1 (XZ.mp c).2⟩
def Yv (near:β->α->Bool)(o:β)(done:List α)(c:α):(done++[c]).any (near o)=true↔done.any (near o)=true\/near o c=true:=by
 rw[List.any_append,Bool.or_eq_true];simp
def zoC (near:β->α->Bool)(b:β->Int)(O:List β)(done a:List α)(c:α)(p:List α):(good near b O done (c::a) p&&chk near b O c a p)=good near b O (done++[c]) a p:=by
 rw[W7,VR,QL,zj7,QL];constructor
 .rintro⟨h1,h2⟩ o d f;by_cases e:near o c=true
  .exact h2 o d e
  .have:=h1 o d (((Yv near o done c).mp f).resolve_right e);rw[yD,cnt_cons,bq e]at this;exact yD.mpr this
 .intro h;refine⟨λo d f=>?_,λo d e=>h o d ((Yv near o done c).mpr (.inr e))⟩;have:=yD.mp (h o d ((Yv near o done c).mpr (.inl f)));rw[yD,cnt_cons];split<;>lia
def zoD (near:β->α->Bool)(d:β->Int)(O:List β)(done a:List α)(c:α)(p:List α):(good near d O done (c::a) p&&chk near d O c a (p++[c]))=good near d O (done++[c]) a (p++[c]):=by
 rw[W7,VR,QL,zj7,QL];constructor
 .rintro⟨h1,h2⟩ o e f;by_cases b:near o c=true
  .exact h2 o e b
  .have:=h1 o e (((Yv near o done c).mp f).resolve_right b);rw[yD,cnt_cons,bq b]at this;rw[yD,zhn,bq b];exact this
 .intro h;refine⟨λo e f=>?_,λo e b=>h o e ((Yv near o done c).mpr (.inr b))⟩;have:=yD.mp (h o e ((Yv near o done c).mpr (.inl f)));rw[zhn]at this;rw[yD,cnt_cons];split at this<;>rename_i b
  .rw[bw b];lia
  .rw[bq b];lia
def zld (near:β->α->Bool)(b:β->Int)(O:List β)(done a:List α)(c:α)(S:List (List α)):(Subs.step (S.filter (good near b O done (c::a))) c).filter (chk near b O c a)=(Subs.step S c).filter (good near b O (done++[c]) a):=by
 unfold Subs.step;rw[Xp,Xp];congr 1
 .rw[RO];refine VZ λp _=>?_;rw[<- zoC,Ss]
 .rw[UI,UI,RO];congr 1;refine VZ λp _=>?_;show (chk near b O c a (p++[c])&&good near b O done (c::a) p)=good near b O (done++[c]) a (p++[c]);rw[<- zoD,Ss]
theorem ze3 (near:β->α->Bool)(a:β->Int)(O:List β):∀(b done:List α) (S:List (List α)),grow near a O (S.filter (good near a O done b)) b=(b.foldl Subs.step S).filter (good near a O (done++b) [])
 | [],done,S=>by
  rw[Xc];rfl
 | c::r,done,S=>by
  show grow near a O ((Subs.step (S.filter (good near a O done (c::r))) c).filter (chk near a O c r)) r=_;rw[zld,ze3 near a O r (done++[c]) (Subs.step S c),WP];rfl
def fits (near:β->α->Bool)(a:β->Int)(O:List β)(part:List α)(p:List α):Bool:=(O.filter λo=>part.any (near o)).all λo=>decide (((cnt near o p:Nat):Int)=a o)
def zoE (near:β->α->Bool)(a:β->Int)(O:List β)(part:List α):grow near a O [[]] part=(Subs.subs part).filter (fits near a O part):=by
 have h:=ze3 near a O part [] [[]];have e:([[]]:List (List α)).filter (good near a O [] part)=[[]]:=by
  have:good near a O [] part []=true:=QL.mpr λo _ b=>by simp at b
  rw[W3,bw this];rfl
 rw[e]at h;rw[h];show (Subs.subs part).filter _=_;refine VZ λp _=>?_;rw[T8];unfold good fits;congr 1;funext o;rw[W7,yD,bu];show a o-((0:Nat):Int)<=_/\_↔_;lia
end Grow
namespace Cnt
variable {α:Type}
def Jv (g:Nat)(ks:List (List α)):List Int:=(Xk (g+1)).map λn=>((ks.countP λk=>decide (k.length=n):Nat):Int)
def zbs (g:Nat)(ks:List (List α)):(Jv g ks).length=g+1:=by
 unfold Jv;rw[ZB,WZ]
def zmJ (g:Nat):Jv g ([]:List (List α))=W6 (g+1) 0:=by
 unfold Jv;refine List.eq_replicate_iff.mpr ⟨by rw[ZB,WZ],λb a=>?_⟩;obtain⟨n,_,rfl⟩:=XY.mp a;rfl
def zdu {g n:Nat}(ks:List (List α))(h:n<=g):(Jv g ks)[n]?=some ((ks.countP λk=>decide (k.length=n):Nat):Int):=by
 unfold Jv;rw[Xl,Uz "a"];rfl
def zlf {g:Nat}(ks:List (List α)){k:List α}(h:k.length<=g):Jv g (ks++[k])=(Jv g ks).set k.length (((ks.countP λx=>decide (x.length=k.length):Nat):Int)+1):=by
 refine SM λn=>?_;rw[List.getElem?_set];by_cases b:n<=g
 .rw[zdu _ b,zdu _ b,zbs,Ud];by_cases e:k.length=n
  .rw[bw e,bw "a"];subst e;simp
  .rw[bq e];simp[e]
 .have a:∀c:List (List α),(Jv g c)[n]?=none:=λc=>SH (by rw[zbs];lia);rw[a,a,zbs,bq "a"]
def zbX {g:Nat}{as bs:List (List α)}(h:as.Perm bs):Jv g as=Jv g bs:=by
 unfold Jv;refine Xo λn _=>?_;rw[h.countP_eq]
end Cnt
namespace Pour
def S (h:Nat->Int):Nat->Int
 | 0=>0
 | n+1=>S h n+h n
def F (xs:List Int)(i:Nat):Int:=(xs[i]?).getD 0
def hk (xs ys:List Int)(k i:Nat):Int:=if i<=k then F xs i*F ys (k-i) else 0
def Z1 (xs ys:List Int):List Int:=(Xk (xs.length+ys.length-1)).map λk=>S (hk xs ys k) xs.length
def part (xs ys:List Int)(i j k:Nat):Int:=S (hk xs ys k) i+(if i<=k/\k-i<j then F xs i*F ys (k-i) else 0)
def st (xs ys:List Int)(i j:Nat):List Int:=(Xk (xs.length+ys.length-1)).map (part xs ys i j)
def zdv {xs:List Int}{i:Nat}(h:xs.length<=i):F xs i=0:=by
 unfold F;rw[SH h];rfl
def zoF {xs:List Int}{i:Nat}{x:Int}(h:xs[i]?=some x):F xs i=x:=by
 unfold F;rw[h];rfl
theorem JQ {f g:Nat->Int}:∀n,(∀i,i<n->f i=g i)->S f n=S g n
 | 0,_=>rfl
 | n+1,h=>by
  show S f n+f n=S g n+g n;rw[JQ n λi a=>h i "a",h n "a"]
theorem zmK {f:Nat->Int}{n:Nat}:∀m,(∀i,n<=i->i<n+m->f i=0)->S f (n+m)=S f n
 | 0,_=>rfl
 | m+1,h=>by
  show S f (n+m)+f (n+m)=S f n;rw[zmK m λi h1 h2=>h i h1 "a",h (n+m) "a" "a",RZ]
def zoG {f:Nat->Int}{n m:Nat}(a:n<=m)(h:∀i,n<=i->i<m->f i=0):S f m=S f n:=by
 obtain⟨d,rfl⟩:∃d,m=n+d:=⟨m-n,"a"⟩;exact zmK d h
def zqM (xs ys:List Int)(k:Nat):S (hk xs ys k) xs.length=S (λi=>F xs i*F ys (k-i)) (k+1):=by
 have a:S (λi=>F xs i*F ys (k-i)) (k+1)=S (hk xs ys k) (k+1):=JQ _ λi b=>by
  unfold hk;rw[bw "a"]
 rw[a];by_cases c:xs.length<=k+1
 .refine(zoG c λi h1 _=>?_).symm;unfold hk;rw[zdv h1];split<;>simp
 .refine zoG "a" λi h1 _=>?_;unfold hk;rw[bq "a"]
def ziR (xs ys:List Int)(i j:Nat):(st xs ys i j).length=xs.length+ys.length-1:=by
 unfold st;rw[ZB,WZ]
def ziS {xs ys:List Int}{i j k:Nat}(h:k<xs.length+ys.length-1):(st xs ys i j)[k]?=some (part xs ys i j k):=by
 unfold st;rw[Xl,Uz h];rfl
def zmL (xs ys:List Int):st xs ys 0 0=W6 (xs.length+ys.length-1) 0:=by
 unfold st;have e:∀k,part xs ys 0 0 k=0:=λk=>by
  unfold part;rw[bq "a"];rfl
 refine(Xo (g:=λ_=>(0:Int)) λk _=>e k).trans ?_;rw[List.map_const',WZ]
def zmM (xs ys:List Int)(i k:Nat):part xs ys i ys.length k=part xs ys (i+1) 0 k:=by
 unfold part;rw[bq (show ¬ (i+1<=k/\k-(i+1)<0) by lia),RZ];show _=S (hk xs ys k) i+hk xs ys k i;congr 1;unfold hk;by_cases c:i<=k
 .by_cases d:k-i<ys.length
  .rw[bw ⟨c,d⟩,bw c]
  .rw[bq (λz=>d z.2),bw c,zdv (show ys.length<=k-i by lia),PL]
 .rw[bq (λz=>c z.1),bq c]
def zqN (xs ys:List Int)(i:Nat):st xs ys i ys.length=st xs ys (i+1) 0:=by
 unfold st;exact Xo λk _=>zmM xs ys i k
def zoH {xs ys:List Int}{i j:Nat}{x y:Int}(a:xs[i]?=some x)(b:ys[j]?=some y):(st xs ys i j).set (i+j) (part xs ys i j (i+j)+x*y)=st xs ys i (j+1):=by
 have h:i<xs.length:=(X2.mp a).1;have l:j<ys.length:=(X2.mp b).1;apply SM;intro k;rw[List.getElem?_set];by_cases c:k<xs.length+ys.length-1
 .rw[ziS c,ziS c];by_cases e:i+j=k
  .subst e;rw[bw rfl,bw (by rw[ziR];exact c)];congr 1;unfold part;rw[bq "a",bw "a",RZ,zoF a,Uo,zoF b]
  .rw[bq e];congr 1;unfold part;congr 1;by_cases d:i<=k/\k-i<j
   .rw[bw d,bw "a"]
   .rw[bq d,bq "a"]
 .have g:∀f,(st xs ys i f)[k]?=none:=λf=>SH (by rw[ziR];lia);rw[g,g];by_cases e:i+j=k
  .lia
  .rw[bq e]
def zqO (xs ys:List Int):st xs ys xs.length 0=Z1 xs ys:=by
 unfold st Z1;refine Xo λk _=>?_;unfold part;rw[bq "a",RZ]
end Pour
namespace Choose
def ch:Nat->Nat->Nat
 | _,0=>1
 | 0,_+1=>0
 | n+1,k+1=>ch n k+ch n (k+1)
def zah (n:Nat):ch n 0=1:=by cases n<;>rfl
theorem zbY:∀(n k:Nat),n<k->ch n k=0
 | 0,0,h=>absurd h "a"
 | 0,k+1,_=>rfl
 | n+1,0,h=>absurd h "a"
 | n+1,k+1,h=>by
  show ch n k+ch n (k+1)=0;rw[zbY n k "a",zbY n (k+1) "a"]
theorem zcQ:∀n k:Nat,(k+1)*ch n (k+1)+k*ch n k=n*ch n k
 | 0,0=>rfl
 | 0,k+1=>by
  show (k+1+1)*0+(k+1)*0=0*0;simp
 | n+1,0=>by
  have h:=zcQ n 0;rw[zah]at h ⊢;show (0+1)*(ch n 0+ch n (0+1))+0*1=(n+1)*1;rw[zah];lia
 | n+1,j+1=>by
  have h1:=zcQ n (j+1);have h2:=zcQ n j;show (j+1+1)*(ch n (j+1)+ch n (j+1+1))+(j+1)*(ch n j+ch n (j+1))=(n+1)*(ch n j+ch n (j+1));generalize ch n (j+1+1)=C2 at *
  generalize ch n (j+1)=C1 at *
  generalize ch n j=C0 at *
  simp only[Nat.add_mul,Nat.mul_add,Nat.one_mul]at *
  lia
def zoI {n k:Nat}(h:k<n):(ch n k:Int)*((n:Int)-k)/((k:Int)+1)=ch n (k+1):=by
 have e:=zcQ n k;have a:(ch n k:Int)*((n:Int)-k)=(ch n (k+1):Int)*((k:Int)+1):=by
  have:((k+1)*ch n (k+1)+k*ch n k:Int)=(n*ch n k:Int):=by exact_mod_cast e
  rw[Int.mul_sub,Oi (ch n k:Int) n,<- this,Oi (ch n (k+1):Int) ((k:Int)+1),Oi (ch n k:Int) (k:Int)];lia
 rw[a];exact Int.mul_ediv_cancel _ "a"
def zsi (n:Nat):∀k,ch n k<=2^n:=by
 induction n with
 | zero =>
  intro k;cases k with
  | zero=>decide
  | succ k =>
   show (0:Nat)<=2^0;decide
 | succ n a =>
  intro k;cases k with
  | zero =>
   rw[zah];exact Nat.one_le_two_pow
  | succ k =>
   show ch n k+ch n (k+1)<=2^(n+1);rw[Uh];have:=a k;have:=a (k+1);lia
end Choose
namespace Tally
open Subs
variable {α:Type}
theorem zbt:∀(B:List α) (a:List (List α)),B.foldl step a=(subs B).flatMap λb=>a.map (·++b)
 | [],a=>by simp[subs]
 | c::r,a=>by
  have e:subs (c::r)=(subs r).flatMap λb=>[b,c::b]:=by
   show r.foldl step (step [[]] c)=_;rw[zbt r];rfl
  show r.foldl step (step a c)=_;rw[zbt r,e,List.flatMap_assoc];congr 1;funext b;show (a++a.map (·++[c])).map (·++b)=a.map (·++b)++(a.map (·++(c::b))++[]);rw[XS,Xc,Wz];congr 1;refine Xo λx _=>?_;show x++[c]++b=_;rw[WP];rfl
def Yw (c:α)(r:List α):subs (c::r)=(subs r).flatMap λb=>[b,c::b]:=by
 show r.foldl step (step [[]] c)=_;rw[zbt r];rfl
def zbu (A B:List α):subs (A++B)=(subs B).flatMap λb=>(subs A).map (·++b):=by
 unfold subs;rw[Vw];exact zbt B _
theorem ze4 (c:α)(p:List α->Bool):∀L:List (List α),(L.flatMap λb=>[b,c::b]).countP p=L.countP p+L.countP λS=>p (c::S)
 | []=>rfl
 | b::L=>by
  have a:=ze4 c p L;rw[List.flatMap_cons,Ud,a,WQ (l:=L),WQ (l:=L),WQ,WQ,List.countP_nil];lia
def count_cons (c:α)(r:List α)(p:List α->Bool):(subs (c::r)).countP p=(subs r).countP p+(subs r).countP λS=>p (c::S):=by
 rw[Yw,ze4]
def Inv (p:List α->Bool):Prop:=∀a b,a.Perm b->p a=p b
theorem Inv.cons {p:List α->Bool}(h:Inv p)(c:α):Inv λS=>p (c::S):=λ_ _ e=>h _ _ (e.cons c)
def ziT {cs a:List α}(e:cs.Perm a):∀{p:List α->Bool},Inv p->(subs cs).countP p=(subs a).countP p:=by
 induction e with
 | nil=>intro p _;rfl
 | cons c _ b =>
  intro p h;rw[count_cons,count_cons,b h,b (h.cons c)]
 | swap x y l =>
  intro p h;rw[count_cons,count_cons,count_cons,count_cons,count_cons,count_cons];have:(subs l).countP (λS=>p (y::x::S))=(subs l).countP λS=>p (x::y::S):=Vu λS _=>by rw[h _ _ (List.Perm.swap x y S)]
  lia
 | trans _ _ d f =>
  intro p h;exact(d h).trans (f h)
def T (cs:List α)(p:List α->Bool)(k:Nat):Nat:=(subs cs).countP λS=>decide (S.length=k)&&p S
def zf5 {cs c:List α}(e:cs.Perm c){p:List α->Bool}(h:Inv p)(k:Nat):T cs p k=T c p k:=ziT e λa b e=>by rw[h a b e,e.length_eq]
def zoJ {cs:List α}{p q:List α->Bool}(h:∀S∈subs cs,p S=q S)(k:Nat):T cs p k=T cs q k:=Vu λS a=>by rw[h S a]
theorem zpE (f g:Nat->Int):∀n,Pour.S (λi=>f i+g i) n=Pour.S f n+Pour.S g n
 | 0=>rfl
 | n+1=>by
  show Pour.S (λi=>f i+g i) n+(f n+g n)=Pour.S f n+f n+(Pour.S g n+g n);rw[zpE f g n];lia
theorem zmN:∀n,Pour.S (λ_=>0) n=0
 | 0=>rfl
 | n+1=>by
  show Pour.S (λ_=>0) n+0=0;rw[zmN n];rfl
theorem zho (j:Nat)(x:Int):∀n,Pour.S (λi=>if i=j then x else 0) n=if j<n then x else 0
 | 0=>rfl
 | n+1=>by
  show Pour.S (λi=>if i=j then x else 0) n+(if n=j then x else 0)=_;rw[zho j x n];by_cases h:n=j
  .rw[bq "a",bw h,bw "a",SX]
  .rw[bq h,RZ];by_cases h2:j<n
   .rw[bw h2,bw "a"]
   .rw[bq h2,bq "a"]
def zhp (q:List α->Bool)(f:Nat->Nat)(k:Nat):∀L:List (List α),(((L.map λb=>if (q b&&decide (b.length<=k))=true then f (k-b.length) else 0).sum:Nat):Int)=Pour.S (λi=>(f i:Int)*((L.countP λb=>decide (b.length=k-i)&&q b:Nat):Int)) (k+1):=by
 intro L;induction L with
 | nil =>
  have:Pour.S (λi=>(f i:Int)*((([]:List (List α)).countP λb=>decide (b.length=k-i)&&q b:Nat):Int)) (k+1)=Pour.S (λ_=>0) (k+1):=Pour.JQ _ λi _=>by
   show (f i:Int)*0=0;lia
  rw[this,zmN];rfl
 | cons b L h =>
  rw[Xe,List.sum_cons,Tj,h];have e:Pour.S (λi=>(f i:Int)*(((b::L).countP λb=>decide (b.length=k-i)&&q b:Nat):Int)) (k+1)=Pour.S (λi=>(f i:Int)*((L.countP λb=>decide (b.length=k-i)&&q b:Nat):Int)+if i=k-b.length then (if (q b&&decide (b.length<=k))=true then (f (k-b.length):Int) else 0) else 0) (k+1):=Pour.JQ _ λi j=>by
   rw[WQ];by_cases c:q b=true
   .by_cases g:b.length<=k
    .by_cases a:i=k-b.length
     .have h1:b.length=k-i:="a"
      have h2:k-i<=k:="a"
      simp only[c,h1,h2,decide_true,Sr,if_true,bw a];rw[show k-(k-i)=i by lia,bw rfl,Tj,Int.mul_add];lia
     .have h1:¬b.length=k-i:="a"
      simp only[c,h1,decide_false,Sr,bq a];simp
    .have h1:¬b.length=k-i:="a"
     simp[c,h1,g]
   .have d:q b=false:=WU.mpr c;simp[d]
  rw[e,zpE,zho,bw (show k-b.length<k+1 by lia),Int.add_comm];congr 1;split<;>rfl
def zj8 {A B:List α}{P pA pB:List α->Bool}(h:∀a∈subs A,∀b∈subs B,P (a++b)=(pA a&&pB b))(k:Nat):(T (A++B) P k:Int)=Pour.S (λi=>(T A pA i:Int)*(T B pB (k-i):Int)) (k+1):=by
 unfold T;rw[zbu,List.countP_flatMap];have e:(subs B).map (So (λS=>decide (S.length=k)&&P S)∘λb=>(subs A).map (·++b))=(subs B).map λb=>if (pB b&&decide (b.length<=k))=true then (T A pA) (k-b.length) else 0:=by
  refine Xo λb g=>?_;show So _ ((subs A).map (·++b))=_;rw[T1];by_cases d:(pB b&&decide (b.length<=k))=true
  .rw[bw d];obtain⟨h1,h2⟩:=WT.mp d;have h2:=bh h2;refine Vu λa f=>?_;show (decide ((a++b).length=k)&&P (a++b))=true↔(decide (a.length=k-b.length)&&pA a)=true;rw[h a f b g,h1,Sr,X5,show (decide (a.length+b.length=k))=decide (a.length=k-b.length) from decide_eq_decide.mpr "a"]
  .rw[bq d];refine VP.mpr λa f c=>d ?_;have c:(decide ((a++b).length=k)&&P (a++b))=true:=c;rw[h a f b g]at c;obtain⟨h1,h2⟩:=WT.mp c;have h1:=bh h1;rw[X5]at h1;rw[(WT.mp h2).2,br "a"];rfl
 rw[e,zhp];rfl
def jr {cs S:List α}(h:S∈subs cs):S.Sublist cs:=by
 revert S;induction cs with
 | nil=>intro S h;simp[subs]at h;subst h;exact List.Sublist.refl _
 | cons c r d =>
  intro S h;rw[Yw]at h;obtain⟨b,a,h⟩:=Wq.mp h;have:=d a;simp at h;rcases h with rfl | rfl
  .exact this.cons c
  .exact this.cons_cons c
def zf6 {cs:List α}:∀{S:List α},S.Sublist cs->S∈subs cs:=by
 induction cs with
 | nil=>intro S h;cases h;simp[subs]
 | cons c r a =>
  intro S h;rw[Yw];cases h with
  | cons _ h=>exact Wq.mpr ⟨S,a h,"s"⟩
  | cons_cons _ h=>exact Wq.mpr ⟨_,a h,"s"⟩
def zdw {cs:List α}{p:List α->Bool}{k:Nat}(h:cs.length<k):T cs p k=0:=by
 refine VP.mpr λS a b=>?_;have h1:=bh (WT.mp b).1;have h2:=(jr a).length_le;lia
def tl (cs:List α)(p:List α->Bool):List Int:=(Xk (cs.length+1)).map λk=>(T cs p k:Int)
def yd (cs:List α)(p:List α->Bool):(tl cs p).length=cs.length+1:=by
 unfold tl;rw[ZB,WZ]
def zlg (cs:List α)(p:List α->Bool)(i:Nat):Pour.F (tl cs p) i=(T cs p i:Int):=by
 by_cases h:i<cs.length+1
 .refine Pour.zoF ?_;unfold tl;rw[Xl,Uz h];rfl
 .rw[Pour.zdv (by rw[yd];lia),zdw "a"];rfl
def zoK {A B:List α}{P pA pB:List α->Bool}(h:∀a∈subs A,∀b∈subs B,P (a++b)=(pA a&&pB b)):Pour.Z1 (tl A pA) (tl B pB)=tl (A++B) P:=by
 unfold Pour.Z1;rw[yd,yd];show _=(Xk ((A++B).length+1)).map λk=>(T (A++B) P k:Int);rw[X5,show A.length+1+(B.length+1)-1=A.length+B.length+1 by lia];refine Xo λk _=>?_;have e:=Pour.zqM (tl A pA) (tl B pB) k;rw[yd]at e;rw[e,zj8 h];exact Pour.JQ _ λi _=>by rw[zlg,zlg]
def zmO {cs:List α}{p q:List α->Bool}(h:∀S∈subs cs,p S=q S):tl cs p=tl cs q:=by
 unfold tl;refine Xo λk _=>by rw[zoJ h]
theorem zhq:∀(cs:List α) (k:Nat),T cs (λ_=>true) k=Choose.ch cs.length k
 | [],0=>rfl
 | [],k+1=>rfl
 | c::r,0=>by
  have e:=zhq r 0;unfold T at e ⊢;rw[count_cons,e,Choose.zah,Choose.zah];have:(subs r).countP (λS=>decide ((c::S).length=0)&&true)=0:=VP.mpr λS _ d=>by simp at d
  rw[this]
 | c::r,k+1=>by
  have a:=zhq r k;have b:=zhq r (k+1);unfold T at a b ⊢;rw[count_cons,b];have:(subs r).countP (λS=>decide ((c::S).length=k+1)&&true)=(subs r).countP λS=>decide (S.length=k)&&true:=Vu λS _=>by
   rw[XA,show decide (S.length+1=k+1)=decide (S.length=k) from decide_eq_decide.mpr "a"]
  rw[this,a];show _=Choose.ch r.length k+Choose.ch r.length (k+1);lia
def zqP [DecidableEq α]{cs:List α}{c:α}(f:c∈cs)(m:cs.Nodup)(k:Nat):T cs (λS=>decide (c∈S)) k=if k=0 then 0 else Choose.ch (cs.length-1) (k-1):=by
 have g:cs.Perm (c::cs.erase c):=List.perm_cons_erase f;have l:c ∉ cs.erase c:=λh=>by
  have:=g.nodup_iff.mp m;exact(Vp.mp this).1 h
 rw[zf5 g (λa b e=>decide_eq_decide.mpr e.mem_iff)];unfold T;rw[count_cons];have z:(subs (cs.erase c)).countP (λS=>decide (S.length=k)&&decide (c∈S))=0:=VP.mpr λS j d=>by
  have h1:=bh (WT.mp d).2;exact l ((jr j).subset h1)
 rw[z,V1];have i:(cs.erase c).length=cs.length-1:=by rw[List.length_erase,bw f]
 cases k with
 | zero =>
  rw[bw rfl];exact VP.mpr λS _ d=>by simp at d
 | succ k =>
  rw[bq "a",<- i,Ue,<- zhq];unfold T;refine Vu λS _=>?_;rw[XA,show decide (S.length+1=k+1)=decide (S.length=k) from decide_eq_decide.mpr "a"];show (_&&decide (c∈c::S))=true↔_;rw[br XT]
variable {α:Type}
structure Loc (U:List α)(p:List α->Bool)(g:List α):Prop where
 l:∀a b,(∀c∈a,c∈U/\c ∉ g)->p (a++b)=p b
 r:∀a b,(∀c∈b,c∈U/\c ∉ g)->p (a++b)=p a
def ye (a:List α->List α->Bool)(gs:List (List α))(S:List α):Bool:=gs.all λg=>a g S
def zdx (a:List α->List α->Bool)(as bs:List (List α))(S:List α):ye a (as++bs) S=(ye a as S&&ye a bs S):=List.all_append
def ziU {a:List α->List α->Bool}{gs:List (List α)}{S b:List α}(h:∀g∈gs,a g S=a g b):ye a gs S=ye a gs b:=by
 unfold ye;induction gs with
 | nil=>rfl
 | cons g r d =>
  rw[List.all_cons,List.all_cons,h g XT,d λx c=>h x (XQ _ c)]
def zdy {U:List α}{d:List α->List α->Bool}{done:List (List α)}{g:List α}{q:List α->Bool}(u:(done.flatten++g).Nodup)(f:∀c∈done.flatten++g,c∈U)(p:∀x∈done,Loc U (d x) x)(s:Loc U q g) :
  Pour.Z1 (tl done.flatten (ye d done)) (tl g q)=tl (done.flatten++g) λS=>ye d done S&&q S:=by
 obtain⟨_,_,j⟩:=Wl.mp u;refine zoK λa n b o=>?_;have sa:=(jr n).subset;have m:=(jr o).subset;rw[s.l a b λc e=>⟨f c (Xq _ (sa e)),λh=>j c (sa e) c h rfl⟩];congr 1;exact ziU λx i=>(p x i).r a b λc e=>⟨f c (Xx _ (m e)),λh=>j c (WN.mpr ⟨x,i,h⟩) c (m e) rfl⟩
def zoL {U:List α}{a:List α->List α->Bool}:∀(gs done:List (List α)),(done++gs).flatten.Nodup->(∀c∈(done++gs).flatten,c∈U)->(∀g∈done++gs,Loc U (a g) g)->(gs.map λg=>tl g (a g)).foldl Pour.Z1 (tl done.flatten (ye a done))=tl (done++gs).flatten (ye a (done++gs)):=by
 intro gs;induction gs with
 | nil =>
  intro done _ _ _;rw[Xc];rfl
 | cons g r i =>
  intro done d h b;have e:done++g::r=(done++[g])++r:=by rw[WP];rfl
  rw[e]at d h b ⊢;have f:(done++[g]).flatten=done.flatten++g:=by rw[WS];simp
  have j:(done.flatten++g).Nodup:=by
   rw[WS,f]at d;exact(Wl.mp d).1
  have i:=i (done++[g]) d h b;rw[<- i,Xe,Wp,f];congr 1;rw[zdy j (λc l=>h c (by rw[WS,f];exact Xq _ l)) (λx m=>b x (by simp[m])) (b g "s")];refine zmO λS _=>?_;rw[zdx];congr 1;show a g S=(a g S&&true);rw[Sr]
def ziV {U:List α}{a:List α->List α->Bool}{gs:List (List α)}(e:gs.flatten.Nodup)(d:∀c∈gs.flatten,c∈U)(b:∀g∈gs,Loc U (a g) g):(gs.map λg=>tl g (a g)).foldl Pour.Z1 [1]=tl gs.flatten (ye a gs):=zoL gs [] e d b
def chZ (n:Nat)(k:Int):Int:=if k<0 then 0 else (Choose.ch n k.toNat:Nat)
def dl (xs:List Int)(m:Nat)(s:Int):Int:=Pour.S (λk=>Pour.F xs k*chZ m (s-(k:Nat))) xs.length
def zmP (g:Nat->Int){a b:Nat}(c:∀i,a<=i->g i=0)(d:∀i,b<=i->g i=0):Pour.S g a=Pour.S g b:=by
 by_cases h:a<=b
 .exact(Pour.zoG h λi h1 _=>c i h1).symm
 .exact Pour.zoG "a" λi h1 _=>d i h1
def zpF {A c:List α}{P pA:List α->Bool}(h:∀a∈subs A,∀b∈subs c,P (a++b)=pA a)(s:Nat):dl (tl A pA) c.length (s:Nat)=(T (A++c) P s:Int):=by
 rw[zj8 (pB:=λ_=>true) (λa e b f=>by rw[h a e b f,Sr]) s];unfold dl;rw[yd];rw[zmP (λk=>Pour.F (tl A pA) k*chZ c.length ((s:Int)-(k:Nat))) (a:=A.length+1) (b:=s+1) (λi d=>by rw[zlg,zdw "a"];simp) (λi d=>by
  unfold chZ;rw[bw "a",PL])]
 refine Pour.JQ _ λi d=>?_;show Pour.F (tl A pA) i*chZ c.length ((s:Int)-(i:Nat))=_;rw[zlg,zhq];unfold chZ;rw[bq "a",show ((s:Int)-(i:Nat)).toNat=s-i by lia]
def zoM [DecidableEq α]{A d:List α}{P pA:List α->Bool}{c:α}(g:c∈d)(j:d.Nodup)(h:∀a∈subs A,∀b∈subs d,P (a++b)=(pA a&&decide (c∈b)))(s:Nat):dl (tl A pA) (d.length-1) ((s:Nat)-1)=(T (A++d) P s:Int):=by
 rw[zj8 h s];unfold dl;rw[yd];rw[zmP (λk=>Pour.F (tl A pA) k*chZ (d.length-1) ((s:Int)-1-(k:Nat))) (a:=A.length+1) (b:=s+1) (λi f=>by rw[zlg,zdw "a"];simp) (λi f=>by
  unfold chZ;rw[bw "a",PL])]
 refine Pour.JQ _ λi f=>?_;show Pour.F (tl A pA) i*chZ (d.length-1) ((s:Int)-1-(i:Nat))=_;rw[zlg,zqP g j];unfold chZ;by_cases e:s-i=0
 .rw[bw "a",bw e];rfl
 .rw[bq "a",bq e,show ((s:Int)-1-(i:Nat)).toNat=s-i-1 by lia]
def zcR {cs:List α}{p:List α->Bool}(h:∀S∈subs cs,p S=false)(k:Nat):T cs p k=0:=VP.mpr λS b a=>by
 rw[h S b,Bool.and_false]at a;cases a
def zj9 (cs:List α)(p:List α->Bool):Cnt.Jv cs.length ((subs cs).filter p)=tl cs p:=by
 unfold Cnt.Jv tl T;refine Xo λk _=>?_;rw[List.countP_filter]
def zhr {b:Type}(g:Nat)(f:List α->List b)(a:∀k,(f k).length=k.length)(ks:List (List α)):Cnt.Jv g (ks.map f)=Cnt.Jv g ks:=by
 unfold Cnt.Jv;refine Xo λn _=>?_;rw[T1];congr 1;refine Vu λk _=>?_;show decide ((f k).length=n)=true↔_;rw[a]
variable {α β:Type}
theorem zdz (f:α->β):∀L:List α,subs (L.map f)=(subs L).map (UF f)
 | []=>rfl
 | c::r=>by
  rw[Xe,Yw,Yw,zdz f r,List.map_flatMap,List.flatMap_map];rfl
def zsj (f:α->β)(L:List α)(p:List β->Bool)(k:Nat):T (L.map f) p k=T L (λS=>p (S.map f)) k:=by
 unfold T;rw[zdz,T1];refine Vu λS _=>?_;show (decide ((S.map f).length=k)&&p (S.map f))=true↔_;rw[ZB]
end Tally
namespace K91
open PySem L2
variable {P:Xv}{w:W5}{K:X0}{mg:Str->Option Y1}{base:Heap}{f:Addr}{fd:Xz}{jaa jab jac jad jae jaf jag jah jai jaj:Addr}
abbrev top (i:Nat):Stmt:=Zs.top i
abbrev QM:Stmt:=top 14
abbrev jt:Stmt:=top 15
abbrev xj:Stmt:=top 16
abbrev Jo:Stmt:=top 17
abbrev jy:Stmt:=top 18
abbrev jj:Stmt:=top 19
abbrev zcS:Stmt:=top 21
abbrev QN:Stmt:=top 22
abbrev zka:Stmt:=top 23
abbrev JR:Stmt:=top 24
abbrev JS:Stmt:=top 25
abbrev jk:Stmt:=top 26
abbrev xo:Stmt:=top 29
abbrev Y7:Stmt:=top 30
abbrev zai:Stmt:=top 31
abbrev x6:Stmt:=top 32
abbrev Yx:Stmt:=top 33
abbrev JT:Stmt:=top 34
abbrev zaj:Stmt:=top 36
abbrev zbv:Stmt:=top 37
abbrev x8:Stmt:=top 39
abbrev zcT:Stmt:=top 40
abbrev Y8:Stmt:=top 41
abbrev yp:Stmt:=top 42
abbrev JU:Stmt:=top 43
abbrev zcU:Stmt:=top 44
abbrev Y9:Stmt:=top 46
abbrev je:Stmt:=top 47
abbrev zcV:Stmt:=top 49
abbrev zbw:Stmt:=top 50
abbrev JV:Stmt:=top 51
abbrev zf7:Stmt:=top 52
abbrev ZF:Stmt:=top 53
abbrev ZG:Stmt:=top 54
abbrev x9:Stmt:=top 55
abbrev zcW:Stmt:=top 56
abbrev Ja:Stmt:=top 58
abbrev ZH:Stmt:=top 59
abbrev Qa:Stmt:=top 60
abbrev ZI:Stmt:=top 61
abbrev zak:Stmt:=top 62
abbrev ZJ:Stmt:=top 63
abbrev Jb:Stmt:=top 64
abbrev JW:Stmt:=top 65
abbrev Qc:Stmt:=top 66
abbrev Zh:Stmt:=top 67
abbrev JX:Stmt:=top 68
abbrev yE:Stmt:=top 69
abbrev yq:Stmt:=top 70
abbrev ze5:Stmt:=top 71
structure Txt (mg:Str->Option Y1):Prop where
 zf8:mg "ValueError"=none
 zmQ:mg "any"=none
 zqQ:mg "bool"=none
 zf9:mg "dict"=none
 zdA:mg "divmod"=none
 yf:mg "enumerate"=none
 ze6:mg "int"=none
 qj:mg "isinstance"=none
 ju:mg "len"=none
 zmR:mg "list"=none
 zhs:mg "max"=none
 zht:mg "min"=none
 jg:mg "range"=none
 zpG:mg "set"=none
 QO:mg "sorted"=none
 zpH:mg "str"=none
 zsk:mg "sum"=none
 zsl:mg "zip"=none
 Z3:∃t,mg "CLOSED_SIGN"=some (.str "?" t)
 zdB:∃t,mg "MOST_OF_PART"=some (.int 14 t)
 QS:∃t,mg "NO_CELL_SIGN"=some (.str "#" t)
def Mq (K:X0)(mg:Str->Option Y1)(n:Str)(s:Stmt)(p:List Str):=∃f fd,zm K mg n s p f fd
structure Prog (K:X0)(mg:Str->Option Y1):Prop where
 closed:Mq K mg "closed" QM ["board"]
 open_cells:Mq K mg "open_cells" jt ["board"]
 around:Mq K mg "around" xj ["board","cell"]
 number_at:Mq K mg "number_at" Jo ["board","cell"]
 cells_of:Mq K mg "cells_of" jy ["board"]
 sign_at:Mq K mg "sign_at" jj ["board","cell"]
 parts:Mq K mg "parts" zcS ["board"]
 joined:Mq K mg "joined" QN ["groups","cells"]
 far:Mq K mg "far" zka ["board"]
 numbers_of:Mq K mg "numbers_of" JR ["board","part"]
 bare_wrong:Mq K mg "bare_wrong" JS ["board"]
 closed_around:Mq K mg "closed_around" jk ["board","cell"]
 part_layings:Mq K mg "part_layings" xo ["board","part"]
 needs_at:Mq K mg "needs_at" Y7 ["told","cell","rest"]
 may_fit:Mq K mg "may_fit" zai ["needs","pick"]
 part_counts:Mq K mg "part_counts" x6 ["board","part"]
 counted:Mq K mg "counted" Yx ["found","greatest"]
 counted_at:Mq K mg "counted_at" JT ["found","greatest","cell"]
 choices:Mq K mg "choices" zaj ["n","k"]
 poured:Mq K mg "poured" zbv ["one","other"]
 near_counts:Mq K mg "near_counts" x8 ["board"]
 count:Mq K mg "count" zcT ["board"]
 count_at:Mq K mg "count_at" Y8 ["board","cell"]
 counts_by_cell:Mq K mg "counts_by_cell" yp ["board"]
 all_poured:Mq K mg "all_poured" JU ["lists"]
 dealt:Mq K mg "dealt" zcU ["counts","cells","stones"]
 fraction:Mq K mg "fraction" Y9 ["top","bottom"]
 greatest_divisor:Mq K mg "greatest_divisor" je ["number","bottom"]
 share:Mq K mg "share" zcV ["board","cell"]
 shares:Mq K mg "shares" zbw ["board"]
 some_count:Mq K mg "some_count" JV ["board"]
 sure:Mq K mg "sure" zf7 ["board"]
 witnesses:Mq K mg "witnesses" ZF ["board","cell"]
 far_picks:Mq K mg "far_picks" ZG ["cells","cell"]
 some_laying:Mq K mg "some_laying" x9 ["groups","cell","lies","stones"]
 grown:Mq K mg "grown" zcW ["ways","picks"]
 law_cell_at:Mq K mg "_law_cell_at" Ja ["_law_script","_law_k"]
 law_whole:Mq K mg "_law_whole" ZH ["_law_found"]
 law_near:Mq K mg "_law_near" Qa ["_law_at","_law_rows","_law_columns"]
 law_signs:Mq K mg "_law_signs" ZI ["_law_script","_law_start","_law_rows","_law_columns"]
 law_dug:Mq K mg "_law_dug" zak ["_law_script","_law_start","_law_rows","_law_columns"]
 law_texts:Mq K mg "_law_texts" ZJ ["_law_signs_here","_law_rows","_law_columns"]
 law_outcome:Mq K mg "_law_outcome" Jb ["_law_error"]
 law_closed:Mq K mg "_law_closed" JW ["_law_texts_here"]
 law_told:Mq K mg "_law_told" Qc ["_law_board","_law_way","_law_cell"]
 law_half:Mq K mg "_law_half" Zh ["_law_script","_law_start","_law_rows","_law_columns"]
 law_poured:Mq K mg "_law_poured" JX ["_law_one","_law_other","_law_stones","_law_cell","_law_side"]
 law_is_laying:Mq K mg "_law_is_laying" yE ["_law_found","_law_texts_here","_law_stones"]
 law_cell_right:Mq K mg "_law_cell_right" yq ["_law_board","_law_cell","_law_often","_law_total"]
def ziW (K:X0):Sp:=λc H Q _=>∃(a:Addr) (b:List Int) (k:Int),c=[.ref a,.int k]/\SqL K H a (b.map V.int)/\0<=k/\∀z:Int,Q (.int z) H
structure Row (signs:List Nat)(n:Nat)(t:Str):Prop where
 len:t.cps.size=n
 mem:∀c∈t.cps.toList,c∈signs
structure Rows (signs:List Nat)(rs:AE):Prop where
 lo:1<=rs.length
 hi:rs.length<=8
 ex:∃n,1<=n/\n<=8/\∀t∈rs,Row signs n t
def bd:Str:="?012345678#"
def zdC:zB ["_law_script","_law_k"] ["_law_script","_law_k"] (zo Ja):=bz
def jC (T:Txt mg)(D:zm K mg "_law_cell_at" Ja ["_law_script","_law_k"] f fd):zT P w K mg base CX0 1 f fd ["_law_script","_law_k"] (ziW K):=by
 refine D.F.ok zdC "l" (λj A d s H n Q E o h=>?_)
 .revert h;refine fD λa b i z0 e l k=>?_;subst z0;refine⟨_,(zd (qo (zw zmA (pvS 1) (pb1 zE T.ju W0 (pvS 0)) (zG _)) (zf (zx (zW qy (pvS 0) (pvS 1) (λ_ _=>rfl)))) zR) (@zf _ _ _ (@zx _ _ _ _ zj))),?_⟩;ac_nf;refine⟨_,rfl,_,rfl,a,_,rfl,.inl e,_,_,rfl,rfl,_,rfl,?_⟩;refine zfK (λc=>?_) (λc=>?_)
  .have g:i<((b.map V.int).length:Nat):=bh c;rw[ZB]at g;have m:i.toNat<b.length:="a"
   refine⟨_,rfl,_,rfl,a,_,i,.int b[i.toNat],rfl,rfl,e,jJ l (by rw[Xl,XX m];rfl),?_⟩;exact k _
  .exact k 0
structure qd (H:Hp)(p l:Addr)(rs:AE)(n:Int):Prop where
 tp:H p=some (.tup [.ref l,.int n])
 rw:H l=some (.lst (rs.map V.str))
def qd.mono {H a:Hp}{p l:Addr}{rs:AE}{n:Int}(b:qd H p l rs n)(s:zq H a):qd a p l rs n:=⟨s _ _ b.tp,s _ _ b.rw⟩
def codes (rs:AE):List (List Nat):=rs.map λt=>t.cps.toList
def jX {rs:AE}{i:Nat}{t:Str}(h:rs[i]?=some t):(codes rs)[i]?=some t.cps.toList:=by
 unfold codes;rw[Xl,h];rfl
def zbZ {rs:AE}{i:Nat}{u:List Nat}(h:(codes rs)[i]?=some u):∃t,rs[i]?=some t/\u=t.cps.toList:=by
 unfold codes at h;rw[Xl]at h;cases e:rs[i]? with
 | none =>
  rw[e]at h;cases h
 | some t =>
  rw[e]at h;cases h;exact⟨t,rfl,rfl⟩
def jD (rs:AE):(codes rs).length=rs.length:=by
 unfold codes;rw[ZB]
def Rows.short {s:List Nat}{rs:AE}(R:Rows s rs):∀u∈codes rs,u.length<=8:=λu b=>by
 obtain⟨t,a,rfl⟩:=XY.mp b;obtain⟨n,_,c,q⟩:=R.ex;have:=(q t a).len;rw[XV];lia
def Rows.tlen {s:List Nat}{rs:AE}{i:Nat}{t:Str}(R:Rows s rs)(h:rs[i]?=some t):t.length<=Xy:=by
 obtain⟨n,_,a,q⟩:=R.ex;have e:t.length=n:=(q t (X4 h)).len;rw[e];exact X7 a "d"
def xJ (H:Hp)(v:V)(c:AA):Prop:=∃a,v=V.ref a/\H a=some (.tup [.int (c.1:Nat),.int (c.2:Nat)])
def Cel (H:Hp):AF->AD->Prop:=WW (xJ H)
def Cel.mono {H b:Hp}(s:zq H b){vs:AF}{cs:AD}(c:Cel H vs cs):Cel b vs cs:=by
 induction c with
 | nil=>exact .nil
 | cons q _ d =>
  obtain⟨a,e,h⟩:=q;exact .cons ⟨a,e,s _ _ h⟩ d
theorem Cel.snoc {H:Hp}{vs:AF}{cs:AD}{v:V}{c:AA}(h:Cel H vs cs)(x:xJ H v c):Cel H (vs++[v]) (cs++[c]):=Paired.snoc h x
def Cel.append {H:Hp}{vs b:AF}{cs a:AD}(h:Cel H vs cs)(k:Cel H b a):Cel H (vs++b) (cs++a):=YZ h k
def Cel.into {H:Hp}(z:Addr)(o:HO){b:AF}(d:H z=some (.lst b)){vs:AF}{cs:AD}(c:Cel H vs cs):Cel (upd H z o) vs cs:=by
 induction c with
 | nil=>exact .nil
 | cons q _ f =>
  obtain⟨a,e,h⟩:=q;exact .cons ⟨a,e,by rw[zg (zeA h d (by intro y;cases y))];exact h⟩ f
theorem Cel.length {H:Hp}{vs:AF}{cs:AD}(h:Cel H vs cs):vs.length=cs.length:=Paired.length h
theorem Cel.get {H:Hp}:∀{vs:AF} {cs:AD} {i:Nat} {v:V},Cel H vs cs->vs[i]?=some v->∃c,cs[i]?=some c/\xJ H v c
 | _,_,_,_,.nil,e=>by simp at e
 | _,_,0,_,.cons r _,e=>by
  simp at e;subst e;exact⟨_,rfl,r⟩
 | _,_,i+1,v,.cons _ t,e=>by
  obtain⟨c,h1,h2⟩:=Cel.get (i:=i) (v:=v) t ↑e;exact⟨c,↑h1,h2⟩
def zk (c:AA):V6:=.tuple [.int (c.1:Nat),.int (c.2:Nat)]
def xJ.rdv {K:X0}{H:Hp}{v:V}{c:AA}(h:xJ H v c):Rdv K H v (zk c):=by
 obtain⟨a,rfl,h⟩:=h;exact .tup (SqT.of h) (.cons (.int _) (.cons (.int _) .nil))
def ze7 (c d:AA):zlV (zk c) (zk d):=⟨rfl,rfl,by show max 0 (max 0 0)+1<=64;decide⟩
def zb0 (c d:AA):Xg (zk c) (zk d)=decide (c=d):=by
 obtain⟨a,b⟩:=c;obtain⟨x,y⟩:=d;show ((((a:Nat):Int)==((x:Nat):Int))&&((((b:Nat):Int)==((y:Nat):Int))&&true))=decide ((a,b)=(x,y));by_cases h1:a=x
 .by_cases h2:b=y
  .subst h1 h2;simp
  .have:¬ ((b:Int)=(y:Int)):="a"
   simp[h2,this]
 .have:¬ ((a:Int)=(x:Int)):="a"
  simp[h1,this]
def zaV (c k:Nat):(V.str ⟨#[c]⟩=V.str ⟨#[k]⟩)=(c=k):=by
 apply propext;constructor
 .intro h;have h2:(⟨#[c]⟩:Str)=⟨#[k]⟩:=V.str.inj h;have a:(#[c]:Array Nat)=#[k]:=congrArg Str.cps h2;simpa using a
 .rintro rfl;rfl
def zbl:("#":Str)=⟨#[35]⟩:="q"
def QT:("?":Str)=⟨#[63]⟩:="q"
def qt (c:Nat):Bool:=!decide (c=35)
def qI (c:Nat):Bool:=decide (c=63)
def QU (c:Nat):Bool:=qt c && !decide (c=63)
def zqR:Sp:=λb H Q _=>∃(p l c:Addr) (a:AE) (n:Int) (i j:Nat) (t:Str) (k:Nat),b=[.ref p,.ref c]/\qd H p l a n/\H c=some (.tup [.int (i:Nat),.int (j:Nat)])/\a[i]?=some t/\t.cps.toList[j]?=some k/\t.length<=Xy/\Q (.str ⟨#[k]⟩) H
def ziX (p:Nat->Bool):Sp:=λf H Q _=>∃(a l:Addr) (c:AE) (n:Int),f=[.ref a]/\qd H a l c n/\Rows bd.cps.toList c /\
 ∀(d:Addr) (e:AF) (b:Hp),H d=none->b d=some (.lst e)->Cel b e (Cells.zJ p 0 (codes c))->zq H b->Q (.ref d) b
def zmS:Sp:=λb H Q _=>∃(p l c:Addr) (a:AE) (n:Int) (i j:Nat) (t:Str) (k:Nat),b=[.ref p,.ref c]/\qd H p l a n/\H c=some (.tup [.int (i:Nat),.int (j:Nat)])/\a[i]?=some t/\t.cps.toList[j]?=some k/\t.length<=Xy/\48<=k/\k<=56/\Q (.int ((k:Int)-48)) H
def int_sign {k:Nat}(h1:48<=k)(h2:k<=56):Pb ⟨#[k]⟩=some ((k:Int)-48):=by
 have:∀k∈Xk 57,48<=k->Pb ⟨#[k]⟩=some ((k:Int)-48):="q"
 exact this k (W9.mpr "a") h1
def ziY:zB ["board","cell"] ["board","cell"] (zo jj):=bz
def Qd (D:zm K mg "sign_at" jj ["board","cell"] f fd):zT P w K mg base CX0 1 f fd ["board","cell"] zqR:=by
 refine D.F.ok ziY "l" (λe A a s H u Q E x h=>?_)
 .revert h;refine fB λp l c r=>gj λn i j t k z0 b d g=>fL λm o q=>?_;subst z0;refine⟨_,(zf (zx (zW zaf (zW qy (zW qh (pvS 0) zj (λ_ _=>rfl)) (zW qh (pvS 1) zj (λ_ _=>rfl)) (λ_ _=>rfl)) (zW qh (pvS 1) zj (λ_ _=>rfl)) (λ_ _=>rfl)))),?_⟩;ac_nf;exact⟨_,rfl,p,_,0,_,rfl,rfl,SqT.of b.tp,rfl,_,rfl,c,_,0,_,rfl,rfl,SqT.of d,rfl,l,_,_,_,rfl,rfl,SqL.of b.rw,zbh (v:=V.str t) (by rw[Xl,g];rfl),_,rfl,c,_,1,_,rfl,rfl,SqT.of d,rfl,t,_,k,rfl,rfl,o,zbh m,q⟩
def ZK:zB ["board","found","row","text"] ["board"] (zo jy):=bz
def zck (T:Txt mg)(D:zm K mg "cells_of" jy ["board"] f fd):zT P w K mg base CX0 1 f fd ["board"] (ziX qt):=by
 refine D.F.ok ZK "l" (λak A aj s H vs Q E hr h=>?_)
 .revert h;refine fM λa l rs n z0 b R q=>?_;subst z0;refine⟨_,(@zd _ _ _ _ _ (@qP _ _ 1 _ _ _ _ ZK.nd rfl (VI rfl) (@ql _ _ _ _ ze) "r" (.inr rfl)) (zd (qu Xb rfl (Ye "r" T.yf (za (zW qh (pvS 0) zj (λ_ _=>rfl)) ze)) (j5 rfl (zH (pgq 2 ZK.nd) (zH (pgq 3 ZK.nd) qS))) (zf (yT (ZD WE Ri Rh zeJ (pvS 1) (za (pcm ["column","sign","row"] [none,none,some 2] cR (zlX "r" T.yf (za (pvS 3) ze)) (zfL (n:=2) (K:=K) "r" rfl (zH (pgN 0) (zH (pgN 1) qS))) (qp (zw Jj (pvS 1) (YR (v:=.str "#") "r" T.QS.choose_spec (by exact⟨_,rfl⟩)) (zG _))) (jb (za (pvS 2) (za (pvS 0) ze)))) ze))))) (zf (zx (pvS 1))))),?_⟩;ac_nf;refine⟨Qu,λd hd=>?_⟩;have s0:zq H (upd H d (.lst [])):=zc hd;refine⟨_,rfl,a,_,0,_,rfl,rfl,SqT.of (b.mono s0).tp,rfl,l,rfl,⟨_,SqL.of (b.mono s0).rw⟩,?_⟩;refine Yg (K:=K) (l:=l) (xs:=rs.map V.str) (λi O J=>∃(v2 v3:Option V) (G:AF),O=[some (.ref a),some (.ref d),v2,v3]/\zq H J/\J d=some (.lst G)/\Cel J G (Cells.zJ qt 0 ((codes rs).take i)))
   (dF _ _ [] rfl s0 zb (.nil)) (λi O J _ ⟨_,_,_,_,s1,_⟩=>SqL.of (b.mono s1).rw) ?_ ?_
  .refine λi x tt O H1 hx ah=>fD λv2 v3 G z0 s1 U B=>?_;subst z0;rw[Xl]at hx;cases e:rs[i]? with
   | none =>
    rw[e]at hx;cases hx
   | some t =>
    rw[e]at hx;cases hx;have al:i<rs.length:=(X2.mp e).1;have st:zq H1 (upd H1 tt (.tup [.int (i:Nat),.str t])):=zc ah;refine dJ tt _ rfl (SqT.of zb) rfl _ _ rfl _ _ rfl rfl ?_;have Y:upd H1 tt (.tup [.int (i:Nat),.str t]) d=some (.lst G):=st _ _ U;refine⟨_,rfl,.inl ⟨rfl,_,SqL.of Y⟩,_,rfl,t,rfl,λz hz=>?_⟩;refine zit (x:=t) (λj O J=>∃(u0 u1:Option V) (r:AF),O=[u0,u1,some (.int (i:Nat))]/\zq (upd H1 tt (.tup [.int (i:Nat),.str t])) J/\J z=some (.lst r)/\Cel J r (Cells.zU qt i 0 (t.cps.toList.take j)))
     (dF _ _ [] rfl (zc hz) zb (.nil)) ?_ ?_
    .refine λj c t2 O L hc ag=>fD λu0 u1 r z0 s2 m g=>?_;subst z0;refine dJ t2 _ rfl (SqT.of zb) rfl _ _ rfl _ _ rfl rfl ?_;refine⟨_,rfl,rfl,_,rfl,?_⟩;have af:t.cps.toList[j]?=some c:=by rw[WY];exact hc
     have M:zq L (upd L t2 (.tup [.int (j:Nat),.str ⟨#[c]⟩])):=zc ag;have step:=Cells.zaT (p:=qt) (i:=i) af;have ed:(!decide (V.str ⟨#[c]⟩=V.str "#"))=qt c:=by
      rw[zbl];simp only[zaV];rfl
     rw[ed];by_cases hp:qt c=true
     .rw[hp]at step;refine jQ hp ?_;refine⟨_,rfl,_,rfl,Jm,λN ae=>?_⟩;have ai:z≠N:=zh (M _ _ m) ae;have s4:zq (upd L t2 (.tup [.int (j:Nat),.str ⟨#[c]⟩])) (upd (upd L t2 (.tup [.int (j:Nat),.str ⟨#[c]⟩])) N (.tup [.int (i:Nat),.int (j:Nat)])):=zc ae;have ab:r.length<=8:=by
       rw[g.length];refine X7 (Cells.yj _ _ _ _) ?_;have:=R.short _ (X4 (jX e));rw[XC];lia
      refine dD r (s4 _ _ (M _ _ m)) (XI ab "d") (dF (some (.int (j:Nat))) (some (.str ⟨#[c]⟩)) (r++[.ref N]) rfl (λb' o I=>?_) zb ?_)
      .have hb:b'≠z:=λy=>by
        subst y;rw[hz]at I;cases I
       rw[zg hb];exact s4 _ _ (M _ _ (s2 _ _ I))
      .rw[step];have keep:∀x o,x≠z->upd (upd L t2 (.tup [.int (j:Nat),.str ⟨#[c]⟩])) N (.tup [.int (i:Nat),.int (j:Nat)]) x=some o->upd (upd (upd L t2 (.tup [.int (j:Nat),.str ⟨#[c]⟩])) N (.tup [.int (i:Nat),.int (j:Nat)])) z (.lst (r++[.ref N])) x=some o:=λx o hx I=>by
        rw[zg hx];exact I
       refine Cel.snoc ?_ ⟨N,rfl,keep _ _ ai.symm zb⟩;exact Cel.into z (.lst (r++[.ref N])) (s4 _ _ (M _ _ m)) (Cel.mono s4 (Cel.mono M g))
     .have ac:qt c=false:=by simpa using hp
      rw[ac]at step;refine qw ac ?_;refine dF (some (.int (j:Nat))) (some (.str ⟨#[c]⟩)) r rfl (s2.trans M) (M _ _ m) ?_;rw[step];simpa using Cel.mono M g
    .refine λO L=>fD λu0 u1 r z0 s2 m g=>?_;subst z0;have am:d≠z:=zh Y hz;have aa:L d=some (.lst G):=s2 _ _ Y;have full:t.cps.toList.take t.cps.size=t.cps.toList:=by
      rw[<- XV,XH]
     rw[full]at g;have step:=Cells.zaU (p:=qt) (jX e);have l1:G.length<=64:=by
      rw[B.length];refine X7 (Cells.jL _ _ _ λu hu=>R.short u (Wv hu)) ?_;have:=R.hi;rw[XC,jD];lia
     have l2:r.length<=8:=by
      rw[g.length];exact X7 (Cells.yj _ _ _ _) (R.short _ (X4 (jX e)))
     refine dQ d z G r rfl rfl aa m (X7 (SR l1 l2) "d") ?_;refine dF _ _ (G++r) rfl (λb' o I=>?_) zb ?_
     .have hb:b'≠d:=λy=>by
       subst y;rw[hd]at I;cases I
      rw[zg hb];exact s2 _ _ (st _ _ (s1 _ _ I))
     .rw[step];exact Cel.into d _ aa (Cel.append (Cel.mono s2 (Cel.mono st B)) g)
  .refine λO H1=>fD λv2 v3 G z0 s1 U B=>?_;subst z0;rw[ZB,<- jD,XH]at B;exact⟨_,rfl,q d G H1 hd U B s1⟩
def zoN (c:Nat):(qt c&&decide (c=63))=qI c:=by
 unfold qt qI;by_cases h:c=63
 .subst h;rfl
 .simp[h]
def zlh:zB ["board"] ["board"] (zo QM):=bz
def Yy {f1 f2:Addr}{aa ab:Xz}(T:Txt mg)(D:zm K mg "closed" QM ["board"] f fd)(zA:zm K mg "cells_of" jy ["board"] f1 aa)(zv:zm K mg "sign_at" jj ["board","cell"] f2 ab) :
  zT P w K mg base CX0 2 f fd ["board"] (ziX qI):=by
 refine D.F.ok zlh "l" (λaf A ae s H vs Q E hr h=>?_)
 .revert h;refine fM λa l g n z0 b R q=>?_;subst z0;refine⟨_,(zf (zx (pcm ["cell","board"] [none,some 0] cR (zN (pc0 (zck T zA) hr zA (za (pvS 0) ze))) (pgN 0) (qp (zw j6 (pc0 (Qd zv) hr zv (za (pvS 1) (za (pvS 0) ze))) (YR (v:=.str "?") "r" T.Z3.choose_spec (by exact⟨_,rfl⟩)) (zG _))) (pvS 0)))),?_⟩;ac_nf;refine⟨_,rfl,a,l,g,n,rfl,b,R,λd ws H1 hd G I s1=>⟨d,rfl,⟨_,SqL.of G⟩,λz Y=>?_⟩⟩;have nz:d≠z:=zh G Y;refine zY (K:=K) (a:=d) (xs:=ws) (λi σ O=>∃(u0:Option V) (r:AF),σ=[u0,some (.ref a)]/\zq H1 O/\O z=some (.lst r)/\Cel O r (((Cells.zJ qt 0 (codes g)).take i).filter λx=>decide (Cells.sgn (codes g) x=63)))
   (dB _ [] rfl (zc Y) zb (.nil)) (λi σ O _ ⟨_,_,_,B,_⟩=>SqL.of (B _ _ G)) ?_ ?_
  .refine λi x σ H2 hx=>fm λu0 r z0 B m e=>?_;subst z0;refine fJ (λc L ca z0 J=>?_) (Cel.get (Cel.mono B I) hx);subst z0;refine fM (λk0 j u k ec M hj ag=>?_) (Cells.J5 (X4 L));refine fq (λt ht z0=>?_) (zbZ M);subst z0;rw[V1]at ec;subst ec;refine⟨_,rfl,_,rfl,a,l,ca,g,n,k0,j,t,k,rfl,(b.mono s1).mono B,J,ht,hj,R.tlen ht,rfl,_,rfl,?_⟩;have es:Cells.sgn (codes g) (k0,j)=k:=Cells.zf4 M hj;have step:((Cells.zJ qt 0 (codes g)).take (i+1)).filter (λx=>decide (Cells.sgn (codes g) x=63))=((Cells.zJ qt 0 (codes g)).take i).filter (λx=>decide (Cells.sgn (codes g) x=63))++(if decide (k=63)=true then [(k0,j)] else []):=by
    rw[XB,L,Xp];congr 1;show Ul _ [(k0,j)]=_;rw[W3];try dsimp only
    rw[es];split<;>rfl
   have ed:decide (V.str ⟨#[k]⟩=V.str "?")=decide (k=63):=by
    rw[QT];simp only[zaV]
   rw[ed];by_cases U:decide (k=63)=true
   .rw[bw U]at step;refine jQ U ?_;have N:r.length<=64:=by
     rw[e.length];refine X7 (Xw _ _) ?_;rw[XC];have h1:=Cells.jL qt 0 (codes g) R.short;have h2:=R.hi;rw[jD]at h1;lia
    refine⟨_,rfl,r,m,XI N "d",_,r++[.ref ca],rfl,λb' o e'=>?_,zb,?_⟩
    .have hb:b'≠z:=λy=>by
      subst y;rw[Y]at e';cases e'
     rw[zg hb];exact B _ _ e'
    .rw[step];exact Cel.into z _ m (Cel.snoc e ⟨ca,rfl,J⟩)
   .rw[bq U]at step;refine qw ↑U ?_;refine dB _ r rfl B m ?_;rw[step];simpa using e
  .refine λσ H2=>fm λu0 r z0 B m e=>?_;subst z0;rw[I.length,XH,Cells.all_filter (p:=qt) (q:=λk=>decide (k=63)) (codes g)]at e;have ac:H z=none:=s1.free Y;exact q z r H2 ac m (by rw[Cells.zhm (q:=qI) zoN]at e;exact e) (s1.trans B)
def zem:zB ["board"] ["board"] (zo jt):=bz
def Jc {f1 f2:Addr}{aa ab:Xz}(T:Txt mg)(D:zm K mg "open_cells" jt ["board"] f fd)(zA:zm K mg "cells_of" jy ["board"] f1 aa)(zv:zm K mg "sign_at" jj ["board","cell"] f2 ab) :
  zT P w K mg base CX0 2 f fd ["board"] (ziX QU):=by
 refine D.F.ok zem "l" (λaf A ae s H vs Q E hr h=>?_)
 .revert h;refine fM λa l g n z0 b R q=>?_;subst z0;refine⟨_,(zf (zx (pcm ["cell","board"] [none,some 0] cR (zN (pc0 (zck T zA) hr zA (za (pvS 0) ze))) (pgN 0) (qp (zw Jj (pc0 (Qd zv) hr zv (za (pvS 1) (za (pvS 0) ze))) (YR (v:=.str "?") "r" T.Z3.choose_spec (by exact⟨_,rfl⟩)) (zG _))) (pvS 0)))),?_⟩;ac_nf;refine⟨_,rfl,a,l,g,n,rfl,b,R,λd ws H1 hd G I s1=>⟨d,rfl,⟨_,SqL.of G⟩,λz Y=>?_⟩⟩;have nz:d≠z:=zh G Y;refine zY (K:=K) (a:=d) (xs:=ws) (λi σ O=>∃(u0:Option V) (r:AF),σ=[u0,some (.ref a)]/\zq H1 O/\O z=some (.lst r)/\Cel O r (((Cells.zJ qt 0 (codes g)).take i).filter λx=>!decide (Cells.sgn (codes g) x=63)))
   (dB _ [] rfl (zc Y) zb (.nil)) (λi σ O _ ⟨_,_,_,B,_⟩=>SqL.of (B _ _ G)) ?_ ?_
  .refine λi x σ H2 hx=>fm λu0 r z0 B m e=>?_;subst z0;refine fJ (λc L ca z0 J=>?_) (Cel.get (Cel.mono B I) hx);subst z0;refine fM (λk0 j u k ec M hj ag=>?_) (Cells.J5 (X4 L));refine fq (λt ht z0=>?_) (zbZ M);subst z0;rw[V1]at ec;subst ec;refine⟨_,rfl,_,rfl,a,l,ca,g,n,k0,j,t,k,rfl,(b.mono s1).mono B,J,ht,hj,R.tlen ht,rfl,_,rfl,?_⟩;have es:Cells.sgn (codes g) (k0,j)=k:=Cells.zf4 M hj;have step:((Cells.zJ qt 0 (codes g)).take (i+1)).filter (λx=>!decide (Cells.sgn (codes g) x=63))=((Cells.zJ qt 0 (codes g)).take i).filter (λx=>!decide (Cells.sgn (codes g) x=63))++(if (!decide (k=63))=true then [(k0,j)] else []):=by
    rw[XB,L,Xp];congr 1;show Ul _ [(k0,j)]=_;rw[W3];try dsimp only
    rw[es];split<;>rfl
   have ed:(!decide (V.str ⟨#[k]⟩=V.str "?"))=(!decide (k=63)):=by
    rw[QT];simp only[zaV]
   rw[ed];by_cases U:(!decide (k=63))=true
   .rw[bw U]at step;refine jQ U ?_;have N:r.length<=64:=by
     rw[e.length];refine X7 (Xw _ _) ?_;rw[XC];have h1:=Cells.jL qt 0 (codes g) R.short;have h2:=R.hi;rw[jD]at h1;lia
    refine⟨_,rfl,r,m,XI N "d",_,r++[.ref ca],rfl,λb' o e'=>?_,zb,?_⟩
    .have hb:b'≠z:=λy=>by
      subst y;rw[Y]at e';cases e'
     rw[zg hb];exact B _ _ e'
    .rw[step];exact Cel.into z _ m (Cel.snoc e ⟨ca,rfl,J⟩)
   .rw[bq U]at step;refine qw ↑U ?_;refine dB _ r rfl B m ?_;rw[step];simpa using e
  .refine λσ H2=>fm λu0 r z0 B m e=>?_;subst z0;rw[I.length,XH,Cells.all_filter (p:=qt) (q:=λk=>(!decide (k=63))) (codes g)]at e;have ac:H z=none:=s1.free Y;exact q z r H2 ac m e (s1.trans B)
def zga:zB ["board","cell"] ["board","cell"] (zo Jo):=bz
def zbx {o:Addr}{a:Xz}(T:Txt mg)(D:zm K mg "number_at" Jo ["board","cell"] f fd)(g:zm K mg "sign_at" jj ["board","cell"] o a):zT P w K mg base CX0 2 f fd ["board","cell"] zmS:=by
 refine D.F.ok zga "l" (λm A d s H G Q E y h=>?_)
 .revert h;refine fB λp l c e=>gj λn i j t k z0 b r u=>fN λv x z B q=>?_;subst z0;refine⟨_,(zf (zx (pt1 YY T.ze6 Vj (pc0 (Qd g) y g (za (pvS 0) (za (pvS 1) ze)))))),?_⟩;ac_nf;exact⟨_,rfl,_,rfl,p,l,c,e,n,i,j,t,k,rfl,b,r,u,v,x,⟨#[k]⟩,_,rfl,int_sign z B,(by show 1<=640;decide),q⟩
def zmT {k:Nat}(h1:48<=k)(h2:k<=56):V.str (toString ((k:Int)-48))=V.str ⟨#[k]⟩:=by
 have:∀k∈Xk 57,48<=k->((toString ((k:Int)-48):String):Str)=⟨#[k]⟩:="q"
 exact congrArg V.str (this k (W9.mpr "a") h1)
def zb1 {k:Nat}(h:k∈bd.cps.toList)(a:QU k=true):48<=k/\k<=56:=by
 have:∀k∈bd.cps.toList,QU k=true->48<=k/\k<=56:="q"
 exact this k h a
def zI (rs:AE)(y:AA):AD:=(Cells.zJ qt 0 (codes rs)).filter λx=>Cells.near x y
def zmU:Sp:=λf H Q _=>∃(p l c:Addr) (b:AE) (n:Int) (i j:Nat),f=[.ref p,.ref c]/\qd H p l b n/\Rows bd.cps.toList b/\H c=some (.tup [.int (i:Nat),.int (j:Nat)])/\i<64/\j<64 /\
 ∀(d:Addr) (e:AF) (a:Hp),H d=none->a d=some (.lst e)->Cel a e (zI b (i,j))->zq H a->Q (.ref d) a
def zhu (i:Nat):(if (0:Int)>(i:Int)-1 then (0:Int) else (i:Int)-1)=((i-1:Nat):Int):=by
 split<;>lia
def zhv (i m:Nat):(if ((m:Nat):Int)<(i:Int)+2 then ((m:Nat):Int) else (i:Int)+2)=((min (i+2) m:Nat):Int):=by
 split<;>lia
def rng {m a b d:Nat}(h:m<(((min a b:Nat):Int)-((d:Nat):Int)).toNat):d+m<a/\d+m<b:="a"
def zsm {a b d c:Nat}(h:¬ b<=d+(((min a b:Nat):Int)-((d:Nat):Int)).toNat)(g:d+(((min a b:Nat):Int)-((d:Nat):Int)).toNat<=c):a<=c:="a"
def zhw {f:AA->Bool}{l:AD}{x:AA}(a:Bool):(l++(if a=true then [x] else [])).filter f=l.filter f++(if (a&&f x)=true then [x] else []):=by
 rw[Xp];congr 1;by_cases h:a=true
 .by_cases h2:f x=true
  .simp[h,h2]
  .simp[h,h2]
 .simp[h]
def Yz:zB ["board","cell","rows","found","row","column"] ["board","cell"] (zo xj):=bz
def zal (T:Txt mg)(D:zm K mg "around" xj ["board","cell"] f fd):zT P w K mg base CX0 1 f fd ["board","cell"] zmU:=by
 refine D.F.ok Yz "l" (λaw A aq s H vs Q E hr h=>?_)
 .revert h;refine fV λp l N g n i j z0 b R G=>fL λau av q=>?_;subst z0;refine⟨_,(zd (qf 2 Yz.nd (zW qh (pvS 0) zj (λ_ _=>rfl))) (@zd _ _ _ _ _ (@qP _ _ 3 _ _ _ _ Yz.nd rfl (VI rfl) (@ql _ _ _ _ ze) "r" (.inr rfl)) (zd (qu Xb rfl (zaa "r" T.jg (za (pb2 (Yb rfl) T.zhs UM (zu yC (zW qh (pvS 1) zj (λ_ _=>rfl)) zj) zj) (za (pb2 (Yc rfl) T.zht UL (zu zQ (zW qh (pvS 1) zj (λ_ _=>rfl)) zj) (pb1 zE T.ju W0 (pvS 2))) ze))) (pgq 4 Yz.nd) (zf (qu Xb rfl (zaa "r" T.jg (za (pb2 (Yb rfl) T.zhs UM (zu yC (zW qh (pvS 1) zj (λ_ _=>rfl)) zj) zj) (za (pb2 (Yc rfl) T.zht UL (zu zQ (zW qh (pvS 1) zj (λ_ _=>rfl)) zj) (pb1 YV T.ju W0 (zW qy (pvS 2) (pvS 4) (λ_ _=>rfl)))) ze))) (pgq 5 Yz.nd) (zf (qo (PW.pt (zfG (zw Jj (zW zaf (zW qy (pvS 2) (pvS 4) (λ_ _=>rfl)) (pvS 5) (λ_ _=>rfl)) (YR (v:=.str "#") "r" T.QS.choose_spec (by exact⟨_,rfl⟩)) (zG _)) (zcJ (zw (j7 hr.units) (jb (za (pvS 4) (za (pvS 5) ze))) (pvS 1) (zG _))))) (zf (yT (ZD WE Wc Wb yF (pvS 3) (za (jb (za (pvS 4) (za (pvS 5) ze))) ze)))) zR))))) (zf (zx (pvS 3)))))),?_⟩;ac_nf;refine⟨_,rfl,p,_,0,_,rfl,rfl,SqT.of b.tp,rfl,?_⟩;refine⟨Qu,λd hd=>?_⟩;have s0:zq H (upd H d (.lst [])):=zc hd;have r8:=R.hi;refine⟨_,rfl,N,_,0,_,rfl,rfl,SqT.of (s0 _ _ G),rfl,_,_,rfl,rfl,_,_,rfl,_,rfl,N,_,0,_,rfl,rfl,SqT.of (s0 _ _ G),rfl,_,_,rfl,rfl,_,rfl,l,_,rfl,.inl (SqL.of (b.mono s0).rw),_,_,rfl,((i-1:Nat):Int),((min (i+2) g.length:Nat):Int),?_,⟨"a","a","a","a"⟩,?_⟩
  .show [V.int (if (0:Int)>(i:Int)-1 then (0:Int) else (i:Int)-1),V.int (if (((g.map V.str).length:Nat):Int)<(i:Int)+2 then (((g.map V.str).length:Nat):Int) else (i:Int)+2)]=_;rw[ZB,zhu,zhv]
  refine qF (lo:=((i-1:Nat):Int)) (λk σ U=>∃(v4 v5:Option V) (M:AF),σ=[some (.ref p),some (.ref N),some (.ref l),some (.ref d),v4,v5]/\zq H U/\U d=some (.lst M)/\Cel U M ((Cells.zJ qt 0 ((codes g).take (i-1+k))).filter λx=>Cells.near x (i,j)))
   (dF _ _ [] rfl s0 zb ?_) ?_ ?_
  .rw[Cells.zmH]
   .exact .nil
   .intro r c aj;rw[WU,ne_eq,Cells.xg];rintro⟨⟨_,h2⟩,_⟩;dsimp only at h2;lia
  .refine λk σ H1 hk=>fD λv4 v5 M z0 s1 aa L=>?_;subst z0;obtain⟨a1,am⟩:=rng hk;clear hk;have Y:((i-1:Nat):Int)+(k:Nat)=((i-1+k:Nat):Int):="a"
   rw[Y];generalize az:i-1+k=r at *
   obtain⟨t,ht⟩:∃t,g[r]?=some t:=⟨_,XX am⟩;have ak:t.length<=Xy:=R.tlen ht;have an:t.cps.toList.length<=8:=R.short _ (X4 (jX ht));have ac:atI (g.map V.str) ((r:Nat):Int)=some (V.str t):=zbh (by rw[Xl,ht];rfl);refine⟨_,rfl,N,_,1,_,rfl,rfl,SqT.of (s1 _ _ G),rfl,_,_,rfl,rfl,_,_,rfl,_,rfl,N,_,1,_,rfl,rfl,SqT.of (s1 _ _ G),rfl,_,_,rfl,rfl,_,rfl,_,rfl,l,_,_,_,rfl,rfl,SqL.of (b.mono s1).rw,ac,t,rfl,ak,_,_,rfl,((j-1:Nat):Int),((min (j+2) t.cps.size:Nat):Int),?_,⟨"a","a","a",?_⟩,?_⟩
   .show [V.int (if (0:Int)>(j:Int)-1 then (0:Int) else (j:Int)-1),V.int (if ((t.cps.size:Nat):Int)<(j:Int)+2 then ((t.cps.size:Nat):Int) else (j:Int)+2)]=_;rw[zhu,zhv]
   .lia
   have a2:t.cps.toList.length=t.cps.size:=XV;refine qF (lo:=((j-1:Nat):Int)) (λm σ U=>∃(v5:Option V) (M:AF),σ=[some (.ref p),some (.ref N),some (.ref l),some (.ref d),some (.int (r:Nat)),v5]/\zq H U/\U d=some (.lst M)/\Cel U M ((Cells.zJ qt 0 ((codes g).take r)).filter (λx=>Cells.near x (i,j))++(Cells.zU qt r 0 (t.cps.toList.take (j-1+m))).filter λx=>Cells.near x (i,j)))
    (dB _ M rfl s1 aa ?_) ?_ ?_
   .rw[Cells.zmI (t:=t.cps.toList),Xc]
    .exact L
    .intro c ae;rw[WU,ne_eq,Cells.xg];rintro⟨_,⟨_,h2⟩,_⟩;dsimp only at h2;lia
   .refine λm σ H2 hm=>fm λv5 y z0 s2 I e=>?_;subst z0;obtain⟨ar,ay⟩:=rng hm;clear hm;have J:((j-1:Nat):Int)+(m:Nat)=((j-1+m:Nat):Int):="a"
    rw[J];generalize ax:j-1+m=c at *
    have B:j-1+(m+1)=c+1:="a"
    obtain⟨O,ag⟩:∃O,t.cps.toList[c]?=some O:=⟨_,XX "a"⟩;have step:=Cells.zaT (p:=qt) (i:=r) ag;have a:(Cells.zU qt r 0 (t.cps.toList.take (c+1))).filter (λx=>Cells.near x (i,j))=(Cells.zU qt r 0 (t.cps.toList.take c)).filter (λx=>Cells.near x (i,j))++(if (qt O&&Cells.near (r,c) (i,j))=true then [(r,c)] else []):=by
     rw[step,zhw]
    have nr:Cells.near (r,c) (i,j)=!decide ((r,c)=(i,j)):=by
     rw[W7,Cells.xg];simp only[Wu,decide_eq_false_iff_not];constructor
     .exact λh=>h.2.2
     .intro h;refine⟨⟨?_,?_⟩,⟨?_,?_⟩,h⟩<;>(try dsimp only)<;>lia
    refine⟨_,rfl,_,rfl,l,_,_,_,rfl,rfl,SqL.of (b.mono s2).rw,ac,_,rfl,t,_,O,rfl,rfl,ak,zbh ag,rfl,_,rfl,?_⟩;have ed:(!decide (V.str ⟨#[O]⟩=V.str "#"))=qt O:=by
     rw[zbl];simp only[zaV];rfl
    rw[ed];by_cases hp:qt O=true
    .refine jQ hp ?_;refine⟨_,rfl,_,rfl,Jm,λtp ao=>?_⟩;have s3:zq H2 (upd H2 tp (.tup [.int (r:Nat),.int (c:Nat)])):=zc ao;have af:=s3 _ _ (s2 _ _ G);refine⟨_,rfl,_,_,xJ.rdv (c:=(r,c)) ⟨tp,rfl,zb⟩,xJ.rdv (c:=(i,j)) ⟨N,rfl,af⟩,ze7 _ _,_,rfl,?_⟩;have ee:(if true=true then !PyData.eqv (zk (r,c)) (zk (i,j)) else Xg (zk (r,c)) (zk (i,j)))=Cells.near (r,c) (i,j):=by
      rw[zb0,nr];rfl
     rw[ee];rw[hp,Rs]at a;by_cases hn:Cells.near (r,c) (i,j)=true
     .refine jQ hn ?_;rw[bw hn]at a;have ab:=s3 _ _ I;refine⟨_,rfl,.inl ⟨rfl,_,SqL.of ab⟩,_,rfl,_,rfl,Jm,λtq ap=>?_⟩;have s4:zq (upd H2 tp (.tup [.int (r:Nat),.int (c:Nat)])) (upd (upd H2 tp (.tup [.int (r:Nat),.int (c:Nat)])) tq (.tup [.int (r:Nat),.int (c:Nat)])):=zc ap;have ah:y.length<=128:=by
       rw[e.length,X5];have h1:=Xw (λx=>Cells.near x (i,j)) (Cells.zJ qt 0 ((codes g).take r));have h2:=Xw (λx=>Cells.near x (i,j)) (Cells.zU qt r 0 (t.cps.toList.take c));have h3:=Cells.jL qt 0 ((codes g).take r) λu hu=>R.short u (Wv hu);have h4:=Cells.yj qt r 0 (t.cps.toList.take c);rw[XC,jD]at h3;rw[XC]at h4;exact X7 (SR (X7 h1 (X7 h3 (Nat.mul_le_mul_left 8 (X7 (Nat.min_le_right _ _) R.hi)))) (X7 h2 (X7 h4 (X7 (Nat.min_le_right _ _) an)))) "d"
      refine⟨d,_,_,rfl,rfl,s4 _ _ ab,XI ah "d",?_⟩;refine dB _ (y++[.ref tq]) rfl (λb' o e'=>?_) zb ?_
      .rw[zg (zh e' hd)];exact s4 _ _ (s3 _ _ (s2 _ _ e'))
      .rw[B,a,<- WP];exact Cel.into d _ (s4 _ _ ab) (Cel.snoc (Cel.mono s4 (Cel.mono s3 e)) ⟨tq,rfl,zb⟩)
     .have al:Cells.near (r,c) (i,j)=false:=by simpa using hn
      refine qw al ?_;rw[bq hn,Xc]at a;refine dB _ y rfl (s2.trans s3) (s3 _ _ I) ?_;rw[B,a];exact Cel.mono s3 e
    .have ai:qt O=false:=by simpa using hp
     refine qw ai ?_;refine YW ?_;rw[ai,SV,bq XM,Xc]at a;refine dB _ y rfl s2 I ?_;rw[B,a];exact e
   .refine λσ H2=>fm λv5 y z0 s2 I e=>?_;subst z0;refine dF _ _ y rfl s2 I ?_;have full:(Cells.zU qt r 0 (t.cps.toList.take (j-1+(((min (j+2) t.cps.size:Nat):Int)-((j-1:Nat):Int)).toNat))).filter (λx=>Cells.near x (i,j))=(Cells.zU qt r 0 t.cps.toList).filter λx=>Cells.near x (i,j):=by
     by_cases z:t.cps.size<=j-1+(((min (j+2) t.cps.size:Nat):Int)-((j-1:Nat):Int)).toNat
     .rw[Wt "a"]
     .refine Cells.zlb λc ae=>?_;rw[WU,ne_eq,Cells.xg];rintro⟨_,⟨h2,_⟩,_⟩;exact absurd (zsm z ae) (Nat.not_le_of_lt (Nat.lt_succ_of_le h2))
    rw[full]at e;have e1:i-1+(k+1)=r+1:="a"
    rw[e1,Cells.zaU (jX ht),Xp];exact e
  .refine λσ H1=>fD λv4 v5 M z0 s1 aa L=>?_;subst z0;have full:(Cells.zJ qt 0 ((codes g).take (i-1+(((min (i+2) g.length:Nat):Int)-((i-1:Nat):Int)).toNat))).filter (λx=>Cells.near x (i,j))=zI g (i,j):=by
    by_cases z:g.length<=i-1+(((min (i+2) g.length:Nat):Int)-((i-1:Nat):Int)).toNat
    .rw[Wt (by rw[jD];lia)];rfl
    .refine Cells.zla λr c aj=>?_;rw[WU,ne_eq,Cells.xg];rintro⟨⟨h2,_⟩,_⟩;exact absurd (zsm z aj) (Nat.not_le_of_lt (Nat.lt_succ_of_le h2))
   rw[full]at L;exact⟨_,rfl,q d M H1 hd aa L s1⟩
def xJ.rdn {N:Addr->Prop}{H:Hp}{v:V}{c:AA}(h:xJ H v c):Rdn N H v (zk c):=by
 obtain⟨a,rfl,h⟩:=h;exact .tup h (.cons (.int _) (.cons (.int _) .nil))
theorem Cel.rdn {N:Addr->Prop}{H:Hp}{vs:AF}{cs:AD}(a:Cel H vs cs):zD N H vs (cs.map zk):=by
 induction a with
 | nil=>exact .nil
 | cons h _ b =>
  exact .cons (xJ.rdn h) b
def Rdn.celR {N:Addr->Prop}{H:Hp}{v:V}{c:AA}(h:Rdn N H v (zk c)):xJ H v c:=by
 cases h with
 | tup h t =>
  cases t with
  | cons a t =>
   cases a;cases t with
   | cons b t =>
    cases b;cases t;exact⟨_,rfl,h⟩
theorem zD.cel {N:Addr->Prop}{H:Hp}:∀{cs:AD} {vs:AF},zD N H vs (cs.map zk)->Cel H vs cs
 | [],_,h=>by cases h;exact .nil
 | c::r,_,h=>by
  cases h with
  | cons a t=>exact .cons (Rdn.celR a) (zD.cel t)
theorem zD.bools {N:Addr->Prop}{H:Hp}:∀{bs:List Bool} {vs:AF},zD N H vs (bs.map S8)->vs=bs.map V.bl
 | [],_,h=>by cases h;rfl
 | b::r,_,h=>by
  cases h with
  | cons a t =>
   cases a;rw[zD.bools t];rfl
theorem jv {α:Type}(p:α->Bool)(g:α->V6):∀cs:List α,(cs.map λx=>if p x=true then some (g x) else none).filterMap id=(cs.filter p).map g
 | []=>rfl
 | c::r=>by
  rw[Xe,U4,W3];by_cases h:p c=true
  .rw[bw h,bw h];show g c::_=g c::_;rw[jv p g r]
  .rw[bq h,bq h];exact jv p g r
theorem YA {α:Type}(g:α->V6):∀cs:List α,(cs.map λx=>some (g x)).filterMap id=cs.map g
 | []=>rfl
 | c::r=>by
  rw[Xe,U4];show g c::_=g c::_;rw[YA g r]
def Jw {α b:Type}{g:α->b}{cs:List α}{i:Nat}{c:α}{o:b}(h:cs[i]?=some c)(a:(cs.map g)[i]?=some o):o=g c:=by
 rw[Xl,h]at a;exact(Option.some.inj a).symm
def clA (rs:AE)(c:AA):AD:=(zI rs c).filter λx=>decide (Cells.sgn (codes rs) x=63)
def zp (rs:AE):AD:=Cells.zJ qI 0 (codes rs)
def qc (rs:AE):AD:=Cells.zJ QU 0 (codes rs)
def jz (rs:AE):AD:=(zp rs).filter λc=>!((qc rs).map λo=>(zI rs o).any λz=>decide (z=c)).any id
def jU (rs:AE):AD:=((qc rs).filter λo=>(clA rs o).isEmpty).filter λo=>!decide (Cells.sgn (codes rs) o=48)
def qG {p:Nat->Bool}{rs:AE}(R:Rows bd.cps.toList rs):(Cells.zJ p 0 (codes rs)).length<=64:=by
 have h1:=Cells.jL p 0 (codes rs) R.short;have h2:=R.hi;rw[jD]at h1;lia
def Z4 {rs:AE}(R:Rows bd.cps.toList rs)(c:AA):(zI rs c).length<=64:=X7 (Xw _ _) (qG R)
def qb {p:Nat->Bool}{rs:AE}{c:AA}(h:c∈Cells.zJ p 0 (codes rs)):∃t k,rs[c.1]?=some t/\t.cps.toList[c.2]?=some k/\p k=true/\Cells.sgn (codes rs) c=k:=by
 refine fM (λg j u k d a e b=>?_) (Cells.J5 h);obtain⟨t,f,rfl⟩:=zbZ a;rw[V1]at d;subst d;exact⟨t,k,f,e,b,Cells.zf4 a e⟩
def Zi {rs:AE}{c:AA}{t:Str}{k:Nat}(R:Rows bd.cps.toList rs)(h1:rs[c.1]?=some t)(h2:t.cps.toList[c.2]?=some k):c.1<64/\c.2<64:=by
 have a:=(X2.mp h1).1;have b:=(X2.mp h2).1;have e:=R.hi;have f:=R.short _ (X4 (jX h1));lia
def zkb {rs:AE}{i j:Nat}{t:Str}{k:Nat}(R:Rows bd.cps.toList rs)(h1:rs[i]?=some t)(h2:t.cps.toList[j]?=some k):k∈bd.cps.toList:=by
 obtain⟨n,_,_,h⟩:=R.ex;exact(h t (X4 h1)).mem k (X4 h2)
def zsn:Sp:=λg H Q _=>∃(p l e:Addr) (b:AE) (n:Int) (c:AA),g=[.ref p,.ref e]/\qd H p l b n/\Rows bd.cps.toList b/\H e=some (.tup [.int (c.1:Nat),.int (c.2:Nat)])/\c.1<64/\c.2<64 /\
 ∀(d:Addr) (f:AF) (a:Hp),H d=none->a d=some (.lst f)->Cel a f (clA b c)->zq H a->Q (.ref d) a
def zmV (g:AE->AD):Sp:=λf H Q _=>∃(a l:Addr) (c:AE) (n:Int),f=[.ref a]/\qd H a l c n/\Rows bd.cps.toList c /\
 ∀(d:Addr) (e:AF) (b:Hp),H d=none->b d=some (.lst e)->Cel b e (g c)->zq H b->Q (.ref d) b
def zb2:zB ["board","cell"] ["board","cell"] (zo jk):=bz
def YB {f1 f2:Addr}{I J:Xz}(T:Txt mg)(D:zm K mg "closed_around" jk ["board","cell"] f fd)(zV:zm K mg "around" xj ["board","cell"] f1 I)(zv:zm K mg "sign_at" jj ["board","cell"] f2 J) :
  zT P w K mg base CX0 2 f fd ["board","cell"] zsn:=by
 refine D.F.ok zb2 "l" (λaa A N s H vs Q E hr h=>?_)
 .revert h;refine fW λp l ca r n c z0 b R L=>fL λci cj q=>?_;subst z0;refine⟨_,(zf (zx (pcm ["place","board"] [none,some 0] cR (zN (pc0 (zal T zV) hr zV (za (pvS 0) (za (pvS 1) ze)))) (pgN 0) (qp (zw j6 (pc0 (Qd zv) hr zv (za (pvS 1) (za (pvS 0) ze))) (YR (v:=.str "?") "r" T.Z3.choose_spec (by exact⟨_,rfl⟩)) (zG _))) (pvS 0)))),?_⟩;ac_nf;refine⟨_,rfl,_,rfl,p,l,ca,r,n,c.1,c.2,rfl,b,R,L,ci,cj,λd ws H1 hd i e s1=>⟨d,rfl,⟨_,SqL.of i⟩,λz hz=>?_⟩⟩;refine ji (K:=K) (a:=d) (xs:=ws) (λa=>a≠z) ((zI r c).map λx=>if decide (Cells.sgn (codes r) x=63)=true then some (zk x) else none) (fun σ=>∃u0,σ=[u0,some (.ref p)]) hz (λ_ h=>h) ⟨_,rfl⟩ (by rw[ZB];exact e.length.symm) (by rw[e.length];exact X7 (Z4 R c) "d") (SqL.of i) ?_ ?_
  .rintro k x o σ U hx ho u _ ⟨u0,rfl⟩ Y Z O no;obtain⟨y,hy,r1⟩:=Cel.get e hx;have g:=Jw hy ho;refine fm (λt G ht hj _ es=>?_) (qb (XZ.mp (X4 hy)).1);obtain⟨ya,rfl,m⟩:=r1;refine⟨_,rfl,_,rfl,p,l,ya,r,n,y.1,y.2,t,G,rfl,(b.mono s1).mono u,u _ _ m,ht,hj,R.tlen ht,rfl,_,rfl,?_⟩;have ed:decide (V.str ⟨#[G]⟩=V.str "?")=decide (G=63):=by
    rw[QT];simp only[zaV]
   rw[ed];rw[es]at g;by_cases B:G=63
   .rw[br B];rw[bw (br B)]at g;exact zbj ⟨_,rfl,O _ _ _ _ g ⟨_,rfl⟩ (zq.refl _) (xJ.rdn ⟨ya,rfl,u _ _ m⟩)⟩
   .rw[bg B];rw[bq (by rw[bg B];exact XM)]at g;exact YW (no _ _ g ⟨_,rfl⟩ (zq.refl _))
  .rintro ys U u M j;rw[jv]at j;exact q z ys U (s1.free hz) M (zD.cel j) (s1.trans u)
def zen (cs:AD):Vb (cs.map zk)=true:=by
 induction cs with
 | nil=>rfl
 | cons c r a =>
  show (O8 (zk c)&&Vb (r.map zk))=true;rw[a];rfl
def zqS (cs:AD):TZ (cs.map zk)<=1:=by
 induction cs with
 | nil=>exact W2 _
 | cons c r a =>
  show max (PyData.depth (zk c)) (TZ (r.map zk))<=1;have:PyData.depth (zk c)=1:=rfl;lia
def zgb (cs a:AD):zlV (.list (cs.map zk)) (.list (a.map zk)):=⟨zen cs,zen a,by
 show TZ (cs.map zk)+1<=64;have:=zqS cs;lia⟩
def jV (cs:AD)(c:AA):(cs.map zk).any (λz=>Xg z (zk c))=cs.any λz=>decide (z=c):=by
 rw[Ug];congr 1;funext z;exact zb0 z c
def eq_nil (cs:AD):Xg (.list (cs.map zk)) (.list [])=cs.isEmpty:=by
 cases cs<;>rfl
def zmW:zB ["board","told"] ["board"] (zo zka):=bz
def ziZ {f1 f2 f3 f4 f5:Addr}{al am an ao ap:Xz}(T:Txt mg)(D:zm K mg "far" zka ["board"] f fd)(zV:zm K mg "around" xj ["board","cell"] f1 al)(zv:zm K mg "sign_at" jj ["board","cell"] f2 am)
  (zA:zm K mg "cells_of" jy ["board"] f3 an) (qE:zm K mg "closed" QM ["board"] f4 ao) (zF:zm K mg "open_cells" jt ["board"] f5 ap):zT P w K mg base CX0 3 f fd ["board"] (zmV jz):=by
 refine D.F.ok zmW "l" (λa3 A az s H vs Q E hr h=>?_)
 .revert h;refine fM λa l g n z0 b R q=>?_;subst z0;refine⟨_,(zd (qf 1 zmW.nd (pcm ["cell","board"] [none,some 0] cR (zN (pc0 (Jc T zF zA zv) hr zF (za (pvS 0) ze))) (pgN 0) qx (pc0 (zal T zV) hr zV (za (pvS 1) (za (pvS 0) ze))))) (zf (zx (zta ["cell","told"] [none,some 1] (c1 (y:="cell")) (zN (pc0 (Yy T qE zA zv) hr qE (za (pvS 0) ze))) (pgN 0) (qp (ZX (zbQ (K:=K) "r" (pb1 (zeL (K:=K) "r" "r") T.zmQ SG (pcm ["near","cell"] [none,some 0] cR (zgZ (K:=K) "r" (pvS 1)) (pgN 0) qx (jB (jH (K:=K) "r" hr.units) (pvS 1) (pvS 0) "r"))) (λ_=>rfl)))) (pvS 0))))),?_⟩;ac_nf;refine⟨_,rfl,a,l,g,n,rfl,b,R,λd ws H1 hd aa u s1=>(dD d rfl ⟨_,SqL.of aa⟩ (λz hz=>?_))⟩;have b1:=b.mono s1;refine ji (K:=K) (a:=d) (xs:=ws) (λa=>a≠z) ((qc g).map λo=>some (.list ((zI g o).map zk))) (fun r=>∃I,r=[I,some (.ref a)]) hz (λ_ h=>h) ⟨_,rfl⟩ (by rw[ZB];exact u.length.symm) (by rw[u.length];exact X7 (qG R) "d") (SqL.of aa) ?_ ?_
  .rintro k x o r H2 hx ho N ay ⟨I,rfl⟩ Y Z L no;obtain⟨y,hy,r1⟩:=Cel.get u hx;have M:=Jw hy ho;refine fm (λt sg ht hj _ es=>?_) (qb (X4 hy));obtain⟨J,rfl,i⟩:=r1;obtain⟨l1,l2⟩:=Zi R ht hj;refine ZE ⟨_,rfl,_,rfl,a,l,J,g,n,y.1,y.2,rfl,b1.mono N,R,N _ _ i,l1,l2,λd2 a5 H3 ar ab aq O=>?_⟩;refine L _ _ _ _ M ⟨_,rfl⟩ O (.lst (λe=>ay (e ▸ ar)) ab (Cel.rdn aq))
  .rintro ys H2 N aw G;rw[YA]at G;have b2:=b1.mono N;refine⟨_,rfl,a,l,g,n,rfl,b2,R,λd3 a1 H3 ab ac B O=>(dD d3 rfl ⟨_,SqL.of ac⟩ (λz3 ah=>?_))⟩;have ai:=O _ _ aw;have av:=G.keep O;refine ji (K:=K) (a:=d3) (xs:=a1) (λa=>a≠z3) ((zp g).map λc=>if (!((qc g).map λo=>(zI g o).any λz=>decide (z=c)).any id)=true then some (zk c) else none) (fun r=>∃I,r=[I,some (.ref z)]) ah (λ_ h=>h) ⟨_,rfl⟩ (by rw[ZB];exact B.length.symm) (by rw[B.length];exact X7 (qG R) "d") (SqL.of ac) ?_ ?_
   .rintro k x o r H4 hx ho U _ ⟨I,rfl⟩ Y Z L no;obtain⟨y,hy,r1⟩:=Cel.get B hx;have M:=Jw hy ho;have r2:xJ H4 x y:=by
     obtain⟨J,e,i⟩:=r1;exact⟨J,e,U _ _ i⟩
    refine⟨_,rfl,z,rfl,⟨_,SqL.of (U _ _ ai)⟩,λz5 ax=>?_⟩;have ag:ys.length=(qc g).length:=by rw[G.length,ZB]
    refine ji (K:=K) (a:=z) (xs:=ys) (λa=>a≠z5) ((qc g).map λo=>some (.bool ((zI g o).any λz=>decide (z=y)))) (fun r=>∃I,r=[I,some x]) ax (λ_ h=>h) ⟨_,rfl⟩ (by rw[ZB];exact ag.symm) (by rw[ag];exact X7 (qG R) "d") (SqL.of (U _ _ ai)) ?_ ?_
    .rintro m v o2 r H5 hv au s5 _ ⟨u1,rfl⟩ Y2 Z2 aj a4;obtain⟨dv,j,rv⟩:=av.get hv;rw[Xl]at j;cases eoc:(qc g)[m]? with
     | none=>rw[eoc]at j;cases j
     | some oc =>
      rw[eoc]at j;cases j;have ak:=Jw eoc au;have r3:xJ H5 x y:=by
       obtain⟨J,e,i⟩:=r2;exact⟨J,e,s5 _ _ i⟩
      refine ZE ⟨_,rfl,_,rfl,zk y,(zI g oc).map zk,r3.rdv,(((rv.keep U).keep s5).rdv),rfl,zen _,(by show 1<=60;decide),?_⟩;have ei:(if false=true then !((zI g oc).map zk).any (λz=>Xg z (zk y)) else ((zI g oc).map zk).any λz=>Xg z (zk y))=(zI g oc).any λz=>decide (z=y):=jV _ _;rw[ei];exact aj _ _ _ _ ak ⟨_,rfl⟩ (zq.refl _) (.bl _)
    .rintro a6 H5 s5 p af;rw[YA,show ((qc g).map λo=>S8 ((zI g o).any λz=>decide (z=y)))=((qc g).map λo=>(zI g o).any λz=>decide (z=y)).map S8 by rw[Wz];rfl]at af;rw[zD.bools af]at p;refine eS z5 _ rfl (SqL.of p) _ rfl ?_;by_cases hp:(!((qc g).map λo=>(zI g o).any λz=>decide (z=y)).any id)=true
     .rw[bw hp]at M;refine jQ hp ⟨_,rfl,L _ _ _ _ M ⟨_,rfl⟩ s5 (xJ.rdn ?_)⟩;obtain⟨J,e,i⟩:=r2;exact⟨J,e,s5 _ _ i⟩
     .rw[bq hp]at M;exact qw ↑hp (no _ _ M ⟨_,rfl⟩ s5)
   .rintro a2 H4 U p ae;rw[jv]at ae;exact q z3 a2 H4 (s1.free (N.free (O.free ah))) p (zD.cel ae) (((s1.trans N).trans O).trans U)
def zaF:zB ["board","bare"] ["board"] (zo JS):=bz
def zaG {f1 f2 f3 f4 f5 f6:Addr}{aa ab ac ae af ag:Xz}(T:Txt mg)(D:zm K mg "bare_wrong" JS ["board"] f fd)(zV:zm K mg "around" xj ["board","cell"] f1 aa)(zv:zm K mg "sign_at" jj ["board","cell"] f2 ab)
  (zA:zm K mg "cells_of" jy ["board"] f3 ac) (zO:zm K mg "closed_around" jk ["board","cell"] f4 ae) (zF:zm K mg "open_cells" jt ["board"] f5 af) (qM:zm K mg "number_at" Jo ["board","cell"] f6 ag):zT P w K mg base CX0 3 f fd ["board"] (zmV jU):=by
 refine D.F.ok zaF "l" (λam A ak s H vs Q E hr h=>?_)
 .revert h;refine fM λa l c n z0 b R q=>?_;subst z0;refine⟨_,(zd (psC 1 zaF.nd ["cell","board"] [none,some 0] cR (zN (pc0 (Jc T zF zA zv) hr zF (za (pvS 0) ze))) (pgN 0) (qp (zw (QA (K:=K) "r" hr.units) (pc0 (YB T zO zV zv) hr zO (za (pvS 1) (za (pvS 0) ze))) (@ql _ _ _ _ ze) (zG _))) (pvS 0)) (zf (zx (pcm ["cell","board"] [none,some 0] cR (zN (pvS 1)) (pgN 0) (qp (zw Jj (pc0 (zbx T qM zv) hr qM (za (pvS 1) (za (pvS 0) ze))) zj (zG _))) (pvS 0))))),?_⟩;ac_nf;refine⟨_,rfl,a,l,c,n,rfl,b,R,λd ws H1 hd B r s1=>(dD d rfl ⟨_,SqL.of B⟩ (λz hz=>?_))⟩;have b1:=b.mono s1;refine ji (K:=K) (a:=d) (xs:=ws) (λa=>a≠z) ((qc c).map λo=>if (clA c o).isEmpty=true then some (zk o) else none) (fun σ=>∃U,σ=[U,some (.ref a)]) hz (λ_ h=>h) ⟨_,rfl⟩ (by rw[ZB];exact r.length.symm) (by rw[r.length];exact X7 (qG R) "d") (SqL.of B) ?_ ?_
  .rintro k x o σ H2 hx ho u ao ⟨U,rfl⟩ Y Z v no;obtain⟨y,L,r1⟩:=Cel.get r hx;have m:=Jw L ho;refine fm (λt sg J hj _ es=>?_) (qb (X4 L));obtain⟨ya,rfl,i⟩:=r1;obtain⟨l1,l2⟩:=Zi R J hj;refine⟨_,rfl,_,rfl,a,l,ya,c,n,y,rfl,b1.mono u,R,u _ _ i,l1,l2,λd2 ap H3 an ah g s3=>⟨Qu,λe he=>?_⟩⟩;have j:=zc (o:=.lst []) he;refine dB (.list ((clA c y).map zk)) (.list []) (.lst (SqL.of (j _ _ ah)) (zD.rdv (N:=λ_=>True) (Cel.rdn (Cel.mono j g)))) (.lst (SqL.of zb) .nil) (zgb _ []) ⟨_,rfl,?_⟩;have ee:(if false=true then !PyData.eqv (.list ((clA c y).map zk)) (.list []) else Xg (.list ((clA c y).map zk)) (.list []))=(clA c y).isEmpty:=eq_nil _;rw[ee];by_cases p:(clA c y).isEmpty=true
   .rw[bw p]at m;exact jQ p ⟨_,rfl,v _ _ _ _ m ⟨_,rfl⟩ (s3.trans j) (xJ.rdn ⟨ya,rfl,j _ _ (s3 _ _ (u _ _ i))⟩)⟩
   .rw[bq p]at m;exact qw ↑p (no _ _ m ⟨_,rfl⟩ (s3.trans j))
  .rintro ys H2 u M G;rw[jv]at G;have g:=zD.cel G;have b2:=b1.mono u;refine⟨_,rfl,z,rfl,⟨_,SqL.of M⟩,λz3 O=>?_⟩;refine ji (K:=K) (a:=z) (xs:=ys) (λa=>a≠z3) (((qc c).filter λo=>(clA c o).isEmpty).map λo=>if (!decide (Cells.sgn (codes c) o=48))=true then some (zk o) else none) (fun σ=>∃U,σ=[U,some (.ref a)]) O (λ_ h=>h) ⟨_,rfl⟩ (by rw[ZB];exact g.length.symm) (by rw[g.length];exact X7 (Xw _ _) (X7 (qG R) "d")) (SqL.of M) ?_ ?_
   .rintro k x o σ H4 hx ho j _ ⟨U,rfl⟩ Y Z v no;obtain⟨y,L,r1⟩:=Cel.get g hx;have m:=Jw L ho;refine fm (λt sg J hj ai es=>?_) (qb (XZ.mp (X4 L)).1);obtain⟨ya,rfl,i⟩:=r1;obtain⟨k1,k2⟩:=zb1 (zkb R J hj) ai;refine⟨_,rfl,_,rfl,a,l,ya,c,n,y.1,y.2,t,sg,rfl,b2.mono j,j _ _ i,J,hj,R.tlen J,k1,k2,rfl,_,rfl,?_⟩;have ed:(!decide (V.int ((sg:Int)-48)=V.int 0))=!decide (Cells.sgn (codes c) y=48):=by
     rw[es,ZC];congr 1;by_cases h:sg=48
     .rw[br h,h];rfl
     .rw[bg h];simp only[beq_eq_false_iff_ne,ne_eq];lia
    rw[ed];by_cases p:(!decide (Cells.sgn (codes c) y=48))=true
    .rw[bw p]at m;exact jQ p ⟨_,rfl,v _ _ _ _ m ⟨_,rfl⟩ (zq.refl _) (xJ.rdn ⟨ya,rfl,j _ _ i⟩)⟩
    .rw[bq p]at m;exact qw ↑p (no _ _ m ⟨_,rfl⟩ (zq.refl _))
   .rintro al H4 j aj I;rw[jv]at I;exact q z3 al H4 (s1.free (u.free O)) aj (zD.cel I) ((s1.trans u).trans j)
def zay {K:X0}{H:Hp}{vs:AF}{cs:AD}(a:Cel H vs cs):ZZ K H vs (cs.map zk):=by
 induction a with
 | nil=>exact .nil
 | cons h _ b =>
  exact .cons (xJ.rdv h) b
def Qe (cs:AD):Vb (cs.map zk)=true:=by
 induction cs with
 | nil=>rfl
 | cons c r a =>
  show (O8 (zk c)&&Vb (r.map zk))=true;rw[a];rfl
def zmX (cs:AD):TZ (cs.map zk)<=1:=by
 induction cs with
 | nil=>exact W2 _
 | cons c r a =>
  show max (PyData.depth (zk c)) (TZ (r.map zk))<=1;have:PyData.depth (zk c)=1:=rfl;lia
def zmY (cs a:AD):zlV (.list (cs.map zk)) (.list (a.map zk)):=⟨Qe cs,Qe a,by
 show TZ (cs.map zk)+1<=64;have:=zmX cs;lia⟩
def g_same (cs:AD):Xg (.list (cs.map zk)) (.list (cs.map zk))=true:=SeqAt.eqv_refl _ (Qe cs)
def toI (c:AA):Int×Int:=(((c.1:Nat):Int),((c.2:Nat):Int))
def ofI (p:Int×Int):AA:=(p.1.toNat,p.2.toNat)
def zkc (c:AA):ofI (toI c)=c:=rfl
def zgc {c d:AA}(h:toI c=toI d):c=d:=by rw[<- zkc c,h,zkc]
def zgd {c d:AA}:lt2 (toI c) (toI d)=true↔Cells.lex c d:=by
 obtain⟨a,b⟩:=c;obtain⟨x,y⟩:=d;unfold lt2 Cells.lex;show (if ((a:Nat):Int)=((x:Nat):Int) then decide (((b:Nat):Int)<((y:Nat):Int)) else decide (((a:Nat):Int)<((x:Nat):Int)))=true↔a<x\/(a=x/\b<y);by_cases e:a=x
 .rw[bw "a",bu];lia
 .rw[bq "a",bu];lia
def Cel.tup2 {H:Hp}{vs:AF}{cs:AD}(b:Cel H vs cs):j9 H vs (cs.map toI):=by
 induction b with
 | nil=>exact .nil
 | cons q _ c =>
  obtain⟨a,e,h⟩:=q;exact .cons ⟨a,e,h⟩ c
theorem qV {H:Hp}:∀{cs:AD} {vs:AF},j9 H vs (cs.map toI)->Cel H vs cs
 | [],_,.nil=>.nil
 | _::_,_,.cons ⟨a,e,h⟩ t=>.cons ⟨a,e,h⟩ (qV t)
def zge {ps:List (Int×Int)}{cs:AD}(h:ps.Perm (cs.map toI)):∃a:AD,ps=a.map toI/\a.Perm cs:=by
 refine⟨ps.map ofI,?_,?_⟩
 .rw[Wz];refine(S7 ps).symm.trans (Xo λp b=>?_);obtain⟨c,_,rfl⟩:=XY.mp (h.mem_iff.mp b);rfl
 .have:=h.map ofI;rw[Wz]at this;have e:cs.map (ofI∘toI)=cs:=(Xo λc _=>zkc c).trans (S7 cs);rwa [e]at this
def zqT {cs:AD}(h:Up2 (cs.map toI)):cs.Pairwise Cells.lex:=by
 unfold Up2 at h;rw[Wx]at h;exact h.imp λz=>zgd.mp z
def qY {cs:AD}(h:cs.Pairwise Cells.lex):cs.Nodup:=h.imp λ{a b} z e=>by
 subst e;unfold Cells.lex at z;lia
def zmZ {cs:AD}(h:cs.Nodup):(cs.map toI).Nodup:=by
 unfold Te at h ⊢;rw[Wx];exact h.imp λz e=>z (zgc e)
def zli (H:Hp)(v:V)(g:AD):Prop:=∃a b,v=V.ref a/\H a=some (.lst b)/\Cel H b g
def xq (H:Hp):AF->List AD->Prop:=WW (zli H)
theorem zli.mono {H b:Hp}{v:V}{g:AD}(s:zq H b)(h:zli H v g):zli b v g:=by
 obtain⟨a,c,e,h1,h2⟩:=h;exact⟨a,c,e,s _ _ h1,h2.mono s⟩
theorem xq.mono {H a:Hp}(s:zq H a){vs:AF}{gs:List AD}(b:xq H vs gs):xq a vs gs:=by
 induction b with
 | nil=>exact .nil
 | cons h _ c =>
  exact .cons (h.mono s) c
theorem xq.get {H:Hp}:∀{vs:AF} {gs:List AD} {i:Nat} {v:V},xq H vs gs->vs[i]?=some v->∃g,gs[i]?=some g/\zli H v g
 | _,_,_,_,.nil,e=>by simp at e
 | _,_,0,_,.cons r _,e=>by
  simp at e;subst e;exact⟨_,rfl,r⟩
 | _,_,i+1,v,.cons _ t,e=>by
  obtain⟨c,h1,h2⟩:=xq.get (i:=i) (v:=v) t ↑e;exact⟨c,↑h1,h2⟩
theorem xq.length {H:Hp}{vs:AF}{gs:List AD}(h:xq H vs gs):vs.length=gs.length:=Paired.length h
theorem xq.snoc {H:Hp}{vs:AF}{gs:List AD}{v:V}{g:AD}(h:xq H vs gs)(x:zli H v g):xq H (vs++[v]) (gs++[g]):=Paired.snoc h x
def lD (g:AD):V6:=.list (g.map zk)
theorem ze8 {p q:Nat->Bool}(h:∀c,p c=true->q c=false)(i:Nat):∀(j:Nat) (t:List Nat),(Cells.zU p i j t).length+(Cells.zU q i j t).length<=t.length
 | _,[]=>XW _
 | j,c::r=>by
  have b:=ze8 h i (j+1) r;rw[Cells.zU,Cells.zU,X5,X5,XA];by_cases a:p c=true
  .rw[bw a,bq (by rw[h c a];exact XM)];simp only[XA,UJ];lia
  .rw[bq a];split<;>simp only[XA,UJ]<;>lia
theorem ze9 {p q:Nat->Bool}(h:∀c,p c=true->q c=false):∀(i:Nat) (rs:List (List Nat)),(∀t∈rs,t.length<=8)->(Cells.zJ p i rs).length+(Cells.zJ q i rs).length<=8*rs.length
 | _,[],_=>XW _
 | i,t::r,a=>by
  have d:=ze9 h (i+1) r λu b=>a u (XQ _ b);have h1:=ze8 h i 0 t;have h2:=a t XT;rw[Cells.zJ,Cells.zJ,X5,X5,XA];lia
def zfa {rs:AE}(R:Rows bd.cps.toList rs):(qc rs).length+(zp rs).length<=64:=by
 have:=ze9 (p:=QU) (q:=qI) (λc a=>by
  unfold QU at a;rw[VR,Wu]at a;exact a.2) 0 (codes rs) R.short
 have h2:=R.hi;rw[jD]at this;unfold qc zp;lia
theorem zby {p:Nat->Bool}{i:Nat}:∀{j m:Nat} {t:List Nat} {c:Nat},t[m]?=some c->p c=true->(i,j+m)∈Cells.zU p i j t
 | j,m,[],c,h,_=>by simp at h
 | j,0,d::r,c,h,a=>by
  have e:d=c:=by simpa using h
  subst e;rw[Cells.zU,bw a];exact Xq _ XT
 | j,m+1,d::r,c,h,a=>by
  rw[Cells.zU];refine Xx _ ?_;have:=zby (i:=i) (j:=j+1) (m:=m) (t:=r) (c:=c) ↑h a;rwa [show j+1+m=j+(m+1) by lia]at this
theorem Qf {p:Nat->Bool}:∀{i m:Nat} {rs:List (List Nat)} {t:List Nat} {j c:Nat},rs[m]?=some t->t[j]?=some c->p c=true->(i+m,j)∈Cells.zJ p i rs
 | i,m,[],t,j,c,h,_,_=>by simp at h
 | i,0,d::r,t,j,c,h,a,b=>by
  have e:d=t:=by simpa using h
  subst e;rw[Cells.zJ];refine Xq _ ?_;have:=zby (i:=i) (j:=0) a b;rwa [show 0+j=j by lia]at this
 | i,m+1,d::r,t,j,c,h,a,b=>by
  rw[Cells.zJ];refine Xx _ ?_;have:=Qf (i:=i+1) (m:=m) (rs:=r) (t:=t) (j:=j) (c:=c) ↑h a b;rwa [show i+1+m=i+(m+1) by lia]at this
def zfb (rs:AE)(c:AA):(clA rs c).Nodup:=((qY (Cells.Yt _ 0 (codes rs))).sublist WM).sublist WM
def YC {rs:AE}{c x:AA}(h:x∈clA rs c):x∈zp rs:=by
 unfold clA at h;obtain⟨h1,h2⟩:=XZ.mp h;obtain⟨t,k,d,b,_,e⟩:=qb (XZ.mp h1).1;have a:k=63:=by
  have:=bh h2;lia
 subst a;have:=Qf (p:=qI) (i:=0) (jX d) b "d";rwa [V1]at this
def head_mem {g:AD}(h:g ≠ []):g.headD (0,0)∈g:=by
 cases g with
 | nil=>exact absurd rfl h
 | cons a r=>exact XT
def JY (rs:AE)(part:AD):AD:=(qc rs).filter λo=>((zI rs o).map λz=>part.any λx=>decide (x=z)).any id
def zqU:Sp:=λh H Q _=>∃(a l e:Addr) (c:AE) (n:Int) (f:AF) (part:AD),h=[.ref a,.ref e]/\qd H a l c n/\Rows bd.cps.toList c/\H e=some (.lst f)/\Cel H f part /\
 ∀(d:Addr) (g:AF) (b:Hp),H d=none->b d=some (.lst g)->Cel b g (JY c part)->zq H b->Q (.ref d) b
def zeo:zB ["board","part"] ["board","part"] (zo JR):=bz
def zep {f1 f2 f3 f5:Addr}{ab ac ae af:Xz}(T:Txt mg)(D:zm K mg "numbers_of" JR ["board","part"] f fd)(zV:zm K mg "around" xj ["board","cell"] f1 ab)(zv:zm K mg "sign_at" jj ["board","cell"] f2 ac)
  (zA:zm K mg "cells_of" jy ["board"] f3 ae) (zF:zm K mg "open_cells" jt ["board"] f5 af):zT P w K mg base CX0 3 f fd ["board","part"] zqU:=by
 refine D.F.ok zeo "l" (λao A al s H vs Q E hr h=>?_)
 .revert h;refine fB λa l pa e=>fE λn ps part z0 b R ah ai q=>?_;subst z0;refine⟨_,(zf (zx (pcm ["cell","part","board"] [none,some 1,some 0] cR (zN (pc0 (Jc T zF zA zv) hr zF (za (pvS 0) ze))) (pgN 0) (qp (zbQ (K:=K) "r" (pb1 (zeL (K:=K) "r" "r") T.zmQ SG (pcm ["place","part"] [none,some 1] cR (zgZ (K:=K) "r" (pc0 (zal T zV) hr zV (za (pvS 2) (za (pvS 0) ze)))) (pgN 0) qx (jB (jH (K:=K) "r" hr.units) (pvS 0) (pvS 1) "r"))) (λ_=>rfl))) (pvS 0)))),?_⟩;ac_nf;refine⟨_,rfl,a,l,e,n,rfl,b,R,λd ws H1 hd r g s1=>(dD d rfl ⟨_,SqL.of r⟩ (λz hz=>?_))⟩;have b1:=b.mono s1;refine ji (K:=K) (a:=d) (xs:=ws) (λa=>a≠z) ((qc e).map λo=>if (((zI e o).map λz=>part.any λx=>decide (x=z)).any id)=true then some (zk o) else none) (fun M=>∃u0,M=[u0,some (.ref pa),some (.ref a)]) hz (λ_ h=>h) ⟨_,rfl⟩ (by rw[ZB];exact g.length.symm) (by rw[g.length];exact X7 (qG R) "d") (SqL.of r) ?_ ?_
  .rintro k x o M H2 hx ho j aq ⟨u0,rfl⟩ Y Z an no;obtain⟨y,hy,r1⟩:=Cel.get g hx;have O:=Jw hy ho;refine fm (λt sg ht hj _ es=>?_) (qb (X4 hy));revert r1;refine fq λya z0 I=>?_;subst z0;obtain⟨l1,l2⟩:=Zi R ht hj;refine⟨_,rfl,_,rfl,a,l,ya,e,n,y.1,y.2,rfl,b1.mono j,R,j _ _ I,l1,l2,λd2 am H3 ap u i s3=>(dD d2 rfl ⟨_,SqL.of u⟩ (λz5 ak=>?_))⟩;refine ji (K:=K) (a:=d2) (xs:=am) (λa=>a≠z5) ((zI e y).map λc=>some (.bool (part.any λx=>decide (x=c)))) (fun M=>∃u0,M=[u0,some (.ref pa)]) ak (λ_ h=>h) ⟨_,rfl⟩ (by rw[ZB];exact i.length.symm) (by rw[i.length];exact X7 (Z4 R y) "d") (SqL.of u) ?_ ?_
   .rintro m v o2 M H5 hv ag p _ ⟨u1,rfl⟩ Y2 Z2 L ar;obtain⟨c,hc,rc⟩:=Cel.get (Cel.mono p i) hv;have aa:=Jw hc ag;have sA:=((s1.trans j).trans s3).trans p;refine ZE ⟨_,rfl,_,rfl,zk c,part.map zk,rc.rdv,.lst (SqL.of (sA _ _ ah)) (zD.rdv (N:=λ_=>True) (Cel.rdn (Cel.mono sA ai))),rfl,zen _,(by show 1<=60;decide),?_⟩;have ei:(if false=true then !(part.map zk).any (λz=>Xg z (zk c)) else (part.map zk).any λz=>Xg z (zk c))=part.any λz=>decide (z=c):=jV _ _;rw[ei];exact L _ _ _ _ aa ⟨_,rfl⟩ (zq.refl _) (.bl _)
   .rintro au H5 p J G;rw[YA,show ((zI e y).map λc=>S8 (part.any λx=>decide (x=c)))=((zI e y).map λc=>part.any λx=>decide (x=c)).map S8 by rw[Wz];rfl]at G;rw[zD.bools G]at J;refine eS z5 _ rfl (SqL.of J) _ rfl ?_;by_cases U:(((zI e y).map λz=>part.any λx=>decide (x=z)).any id)=true
    .rw[bw U]at O;exact jQ U ⟨_,rfl,an _ _ _ _ O ⟨_,rfl⟩ (s3.trans p) (xJ.rdn ⟨ya,rfl,p _ _ (s3 _ _ (j _ _ I))⟩)⟩
    .rw[bq U]at O;exact qw ↑U (no _ _ O ⟨_,rfl⟩ (s3.trans p))
  .rintro ys H2 j aj B;rw[jv]at B;exact q z ys H2 (s1.free hz) aj (zD.cel B) (s1.trans j)
def zkd {a b:AD}(p:a.Perm b)(c:a.Pairwise Cells.lex)(d:b.Pairwise Cells.lex):a=b:=p.eq_of_pairwise (λx y _ _ h1 h2=>by
 unfold Cells.lex at h1 h2;lia) c d
def zi0 {a:AA->AD}{done:AD}{gs:List AD}{o:AA}(G:Parts.Good a done gs)(h:a o ≠ [])(c:(a o).Nodup){w:AD}(d:w.Pairwise Cells.lex)(j:∀x,x∈w↔x∈a o\/∃g∈gs,Parts.meets (a o) g=true/\x∈g):Parts.Good a (done++[o]) ((gs.filter λg=>!Parts.meets (a o) g)++[w]):=by
 refine G.step h c ?_ ?_ d
 .refine VZ λg i=>?_;congr 1;rw[W7,Ww];constructor
  .exact λz=>⟨g,XZ.mpr ⟨i,z⟩,br rfl⟩
  .rintro⟨m,b,e⟩;have f:m=g:=bh e;subst f;exact(XZ.mp b).2
 .refine(Wi (qY d) (Parts.QK c λm b=>G.nd.sublist (VE (XZ.mp b).1))).mpr λx=>?_;rw[j,Parts.zbW];constructor
  .rintro(z | ⟨g,h1,h2,h3⟩)
   .exact .inl z
   .exact .inr ⟨g,XZ.mpr ⟨h1,h2⟩,h3⟩
  .rintro(z | ⟨g,h1,h3⟩)
   .exact .inl z
   .exact .inr ⟨g,(XZ.mp h1).1,(XZ.mp h1).2,h3⟩
def zlj (cs g:AD):(cs.map λc=>g.any λz=>decide (z=c)).any id=Parts.meets cs g:=by
 rw[W7,Parts.Yu,Ug,Ww];constructor
 .rintro⟨c,h1,h2⟩;have a:(g.any λz=>decide (z=c))=true:=h2;obtain⟨z,b,d⟩:=Ww.mp a;have e:z=c:=bh d;subst e;exact⟨z,b,h1⟩
 .rintro⟨x,h1,h2⟩;refine⟨x,h2,?_⟩;show (g.any λz=>decide (z=x))=true;exact Ww.mpr ⟨x,h1,br rfl⟩
def ZL (p:AD->Bool):AF->List AD->AF
 | v::vs,g::gs=>if p g=true then v::ZL p vs gs else ZL p vs gs
 | _,_=>[]
theorem YD (p:AD->Bool):∀(vs:AF) (gs:List AD),(ZL p vs gs).Sublist vs
 | [],_=>List.nil_sublist _
 | _::_,[]=>List.nil_sublist _
 | v::vs,g::gs=>by
  rw[ZL];split
  .exact(YD p vs gs).cons_cons v
  .exact(YD p vs gs).cons v
theorem zaW {H:Hp}(p:AD->Bool):∀{vs:AF} {gs:List AD},xq H vs gs->xq H (ZL p vs gs) (gs.filter p)
 | _,_,.nil=>.nil
 | _,_,.cons (a:=v) (b:=g) h t=>by
  rw[ZL,W3];by_cases c:p g=true
  .rw[bw c,bw c];exact .cons h (zaW p t)
  .rw[bq c,bq c];exact zaW p t
def zi1 (p:AD->Bool){vs:AF}{gs:List AD}{i:Nat}{v:V}{g:AD}(h1:vs[i]?=some v)(h2:gs[i]?=some g):ZL p (vs.take (i+1)) (gs.take (i+1))=ZL p (vs.take i) (gs.take i)++if p g=true then [v] else []:=by
 induction vs generalizing gs i with
 | nil=>cases h1
 | cons w vs a =>
  cases gs with
  | nil=>cases h2
  | cons k gs =>
   cases i with
   | zero =>
    cases h1;cases h2;simp[ZL]
   | succ i =>
    rw[Ux,Ux,Ux,Ux,ZL,ZL,a h1 h2];split<;>rfl
def zgf {m:List (Int×Int)}{l:AD}(h:∀c∈m,c∈l.map toI):m=(m.map ofI).map toI:=by
 rw[Wz];refine(S7 m).symm.trans (Xo λc a=>?_);obtain⟨x,_,rfl⟩:=XY.mp (h c a);rfl
def zm0:Sp:=λm H Q _=>∃(e j:Addr) (i l:AF) (c:List AD) (a B:AD),m=[.ref e,.ref j]/\H e=some (.lst i)/\xq H i c/\H j=some (.lst l)/\Cel H l a/\a.Nodup/\c.flatten.Nodup/\(∀x∈a,x∈B)/\(∀x∈c.flatten,x∈B)/\(∀x∈B,x.1<8/\x.2<8)/\B.length<=63/\c.length<=63 /\
 (a=[]->∀b,zq H b->Q (.ref e) b) /\
 (a ≠ []->∀(d h:Addr) (f:AF) (w:AD) (b:Hp),H d=none->H h=none->b d=some (.lst (f++[.ref h]))->f.Sublist i->xq b (f++[.ref h]) ((c.filter λg=>!Parts.meets a g)++[w])->w.Pairwise Cells.lex->(∀x,x∈w↔x∈a\/∃g∈c,Parts.meets a g=true/\x∈g)->zq H b->Q (.ref d) b)
def zam:zB ["groups","cells","apart","together","group"] ["groups","cells"] (zo QN):=bz
def zlk (T:Txt mg)(D:zm K mg "joined" QN ["groups","cells"] f fd):zT P w K mg base CX0 1 f fd ["groups","cells"] zm0:=by
 refine D.F.ok zam "l" (λaJ A aH s H vs Q E hr h=>?_)
 .revert h;refine fV λga ca ws us n d B z0 aw hG N=>fN λhC a9 aA cB=>fG λgB B8 ak am q1 q2=>?_;subst z0;have al:d.length<=63:=X7 (Parts.zZ a9 cB) ak;have ac:n.flatten.length<=63:=X7 (Parts.zZ aA gB) ak;refine⟨_,(zd (qo (zw (zc5 hr.units) (pvS 1) (@ql _ _ _ _ ze) (zG _)) (zf (zx (pvS 0))) zR) (@zd _ _ _ _ _ (@qP _ _ 2 _ _ _ _ zam.nd rfl (VI rfl) (@ql _ _ _ _ ze) "r" (.inr rfl)) (zd (qf 3 zam.nd (pt1 zfJ T.zmR Pz (pvS 1))) (zd (qu Xb rfl (zN (pvS 0)) (pgq 4 zam.nd) (zf (qo (yU (pb1 (zgW rfl) T.zmQ SG (pcm ["cell","group"] [none,some 4] cR (zN (pvS 1)) (pgN 0) qx (jB (jH (K:=K) "r" hr.units) (pvS 0) (pvS 1) "r"))) (λ_=>rfl)) (zf (yT (ZD WE Ri Rh zeJ (pvS 3) (za (pvS 4) ze)))) (zf (yT (ZD WE Wc Wb yF (pvS 2) (za (pvS 4) ze))))))) (zf (zx (zu J9 (pvS 2) (ql (za (pb1 (ST.zel hr.hd) T.QO Vd (pt1 (ST.zeV hr.units hr.hd) T.zpG Pk (pvS 3))) ze))))))))),?_⟩;ac_nf;refine⟨_,rfl,Qu,λe he=>?_⟩;have s1:zq H (upd H e (.lst [])):=zc he;refine dB (lD d) (.list []) (.lst (SqL.of (s1 _ _ N)) (zay (hC.mono s1))) (.lst (SqL.of zb) .nil) (zgb _ []) ⟨_,rfl,?_⟩;have en:(if false=true then !PyData.eqv (lD d) (.list []) else Xg (lD d) (.list []))=d.isEmpty:=by
   show Xg _ _=_;exact eq_nil d
  rw[en];by_cases ab:d=[]
  .rw[show d.isEmpty=true by rw[ab];rfl];exact zbj ⟨_,rfl,q1 ab _ s1⟩
  rw[show d.isEmpty=false by rw[Vk];exact ab];refine YW ?_;generalize upd H e (.lst [])=H1 at *
  refine⟨Qu,λap ar=>?_⟩;have s2:=s1.trans (zc (o:=.lst []) ar);have aq:upd H1 ap (.lst []) ap=some (.lst []):=zb;have au:=s1.free ar;generalize upd H1 ap (.lst [])=H2 at *
  refine⟨_,rfl,ca,_,rfl,.inl (SqL.of (s2 _ _ N)),λtg aj=>?_⟩;have z3:=zc (o:=.lst us) aj;have s3:=s2.trans z3;have aC:=z3 _ _ aq;have aF:upd H2 tg (.lst us) tg=some (.lst us):=zb;have a3:=s2.free aj;have a6:ap≠tg:=zh aq aj;generalize upd H2 tg (.lst us)=H3 at *
  refine⟨_,rfl,ga,rfl,⟨_,SqL.of (s3 _ _ aw)⟩,?_⟩;refine Ji (K:=K) (a:=ga) (xs:=ws) (λi σ H'=>∃(ut:AF) (v4:Option V),σ=[some (.ref ga),some (.ref ca),some (.ref ap),some (.ref tg),v4]/\zq H H'/\H' ap=some (.lst (ZL (λg=>!Parts.meets d g) (ws.take i) (n.take i)))/\H' tg=some (.lst ut)/\Cel H ut (d++((n.take i).filter (Parts.meets d)).flatten))
   (dH us _ rfl s3 aC aF (↑hC)) (λi σ H' _ ⟨_,_,_,z,_⟩=>SqL.of (z _ _ aw)) ?_ ?_
  .refine λi x σ H4 hx=>fF λut v4 z0 s4 L ah r=>?_;subst z0;refine gf (λg hg an ug z0 ae ag=>?_) (xq.get hG hx);subst z0;have gm:=X4 hg;have tk:(n.take (i+1)).filter (Parts.meets d)=(n.take i).filter (Parts.meets d)++if Parts.meets d g=true then [g] else []:=by
    rw[XB,hg,Xp];congr 1;show [g].filter _=_;rw[W3];rfl
   have pk:=zi1 (λg=>!Parts.meets d g) hx hg;refine⟨_,rfl,ca,rfl,⟨_,SqL.of (s4 _ _ N)⟩,λz hz=>?_⟩;refine ji (K:=K) (a:=ca) (xs:=us) (λa=>a≠z) (d.map λc=>some (.bool (g.any λz=>decide (z=c)))) (fun σ=>∃u0,σ=[u0,some (.ref an)]) hz (λ_ h=>h) ⟨_,rfl⟩ (by rw[ZB];exact hC.length.symm) (by rw[hC.length];exact X7 al "d") (SqL.of (s4 _ _ N)) ?_ ?_
   .rintro m v o σ H5 hv ho s5 _ ⟨u1,rfl⟩ Y Z aI no;have u:=s4.trans s5;obtain⟨c,M,rc⟩:=Cel.get (hC.mono u) hv;have eo:=Jw M ho;refine ZE ⟨_,rfl,_,rfl,zk c,g.map zk,rc.rdv,.lst (SqL.of (u _ _ ae)) (zay (ag.mono u)),rfl,zen _,(by show 1<=60;decide),?_⟩;have ei:(if false=true then !(g.map zk).any (λz=>Xg z (zk c)) else (g.map zk).any λz=>Xg z (zk c))=g.any λz=>decide (z=c):=jV _ _;rw[ei];exact aI _ _ _ _ eo ⟨_,rfl⟩ (zq.refl _) (.bl _)
   .rintro ys H5 s5 a5 az;rw[YA,show (d.map λc=>S8 (g.any λz=>decide (z=c)))=(d.map λc=>g.any λz=>decide (z=c)).map S8 by rw[Wz];rfl]at az;rw[zD.bools az]at a5;refine eS z _ rfl (SqL.of a5) _ rfl ?_;rw[zlj];have u:=s4.trans s5;have G:=s5 _ _ L;have ai:=s5 _ _ ah;have ao:∀(q:AD->Bool) (j:Nat),(((n.take j).filter q).flatten).length<=63:=λq j=>by
     refine X7 (Vt ?_) ac;refine List.Sublist.trans (Parts.jd q (n.take j)) ?_;have e2:n=n.take j++n.drop j:=(WR j n).symm;conv=>rhs;rw[e2,WS]
     exact Rg _ _
    by_cases hp:Parts.meets d g=true
    .refine jQ hp ?_;refine⟨_,rfl,.inl ⟨rfl,_,SqL.of ai⟩,_,rfl,tg,an,ut,ug,rfl,rfl,ai,u _ _ ae,?_,?_⟩
     .rw[r.length,ag.length,X5];have a1:=ao (Parts.meets d) i;have a2:g.length<=63:=X7 (Vt (VE gm)) ac;exact X7 (show _<=200 by lia) "d"
     .refine dH (ut++ug) _ rfl (λb o eb=>?_) ?_ zb ?_
      .rw[zg (zh eb a3)];exact u _ _ eb
      .rw[zg a6,pk,hp];simpa using G
      .rw[tk,bw hp,WS,<- WP];simpa using Cel.append r ag
    .have ay:=WU.mpr hp;refine qw ay ?_;refine⟨_,rfl,.inl ⟨rfl,_,SqL.of G⟩,_,rfl,ap,_,_,rfl,rfl,G,?_,?_⟩
     .refine XI (Vt ((YD _ _ _).trans (TV _ _))) ?_;rw[hG.length];exact XI am "d"
     .refine dH ut _ rfl (λb o eb=>?_) ?_ ?_ ?_
      .rw[zg (zh eb au)];exact u _ _ eb
      .rw[zb,pk,ay];rfl
      .rw[zg (Vh a6)];exact ai
      .rw[tk,bq hp,Xc];exact r
  .refine λσ H4=>fF λut v4 z0 s4 L ah r=>?_;subst z0;rw[XH,hG.length,XH]at L;rw[hG.length,XH]at r;generalize hl:d++(n.filter (Parts.meets d)).flatten=l at r;have lB:∀x∈l,x∈B:=λx hx=>by
    rw[<- hl]at hx;rcases XU.mp hx with hx | hx
    .exact cB x hx
    .exact gB x ((Parts.jd _ n).subset hx)
   refine⟨_,rfl,_,rfl,tg,ut,_,rfl,SqL.of ah,Cel.tup2 (r.mono s4),(λp hp=>?_),(λm hm hs=>?_),λds J aD hT I af=>?_⟩
   .obtain⟨x,hx,rfl⟩:=XY.mp hp;have:=B8 x (lB x hx);unfold ST.InB toI;show (0<=((x.1:Nat):Int)/\((x.1:Nat):Int)<8)/\(0<=((x.2:Nat):Int)/\((x.2:Nat):Int)<8);lia
   .have h1:=zgf hs;have h2:(m.map ofI).Nodup:=by
     rw[h1]at hm;unfold Te at hm ⊢;rw[Wx]at hm;exact hm.imp λz e=>z (by rw[e])
    have h3:=Parts.zZ (b:=B) h2 λx hx=>by
     obtain⟨c,M,rfl⟩:=XY.mp hx;obtain⟨y,hy,rfl⟩:=XY.mp (hs c M);exact lB y hy
    rw[ZB]at h3;lia
   have z5:=zc (o:=ST.zdj P w ds J) aD;have O:∀c∈J.map (·.2),c∈l.map toI:=λc M=>(af c).mp M;have kl:J.length<=63:=by
    have h1:=zgf O;have h2:((J.map (·.2)).map ofI).Nodup:=by
     rw[h1]at I;unfold Te at I ⊢;rw[Wx]at I;exact I.imp λz e=>z (by rw[e])
    have h3:=Parts.zZ (b:=B) h2 λx hx=>by
     obtain⟨c,M,rfl⟩:=XY.mp hx;obtain⟨y,hy,rfl⟩:=XY.mp (O c M);exact lB y hy
    rw[ZB,ZB]at h3;lia
   have av:upd H4 ds (ST.zdj P w ds J) ds=some (ST.zdj P w ds J):=zb;have s5:=s4.trans z5;have G:=z5 _ _ L;have aB:∀q∈J,upd H4 ds (ST.zdj P w ds J) q.1=some (.tup [.int q.2.1,.int q.2.2]):=λq hq=>z5 _ _ (hT q hq);refine d9 ds J rfl av aB I "a" (λwa a7 aK a4 ht a8 aG=>?_);rw[zgf O]at a8;obtain⟨wc,rfl,U⟩:=zge a8;have z6:=zc (o:=.lst a7) a4;refine⟨sz_1,λp1 aE=>?_⟩;have z7:=zc (o:=.lst [V.ref wa]) aE;have aa:=z6.trans z7;refine dQ ap p1 _ [.ref wa] rfl rfl (aa _ _ G) zb ?_ (λk2 ax=>?_)
   .have a1:(ZL (λg=>!Parts.meets d g) ws n).length<=63:=X7 (Vt (YD _ _ _)) (by rw[hG.length];exact am);exact X7 (show _+1<=200 by lia) "d"
   .have z8:=zc (o:=.lst (ZL (λg=>!Parts.meets d g) ws n++[.ref wa])) ax;have s8:=s5.trans (aa.trans z8);refine q2 ab k2 wa _ wc _ ((s5.trans aa).free ax) (s5.free a4) zb (YD _ _ _) ?_ (zqT aG) (λx=>?_) s8
    .exact xq.snoc ((zaW _ hG).mono s8) (dM wa a7 rfl (z8 _ _ (z7 _ _ zb)) (Cel.mono (aa.trans z8) (qV ht)))
    .rw[U.mem_iff,XY];have hx:(∃a,a∈J.map (·.2)/\ofI a=x)↔x∈l:=by
      constructor
      .rintro⟨c,M,rfl⟩;obtain⟨y,hy,rfl⟩:=XY.mp (O c M);exact hy
      .intro h;exact⟨toI x,(af _).mpr (XY.mpr ⟨x,h,rfl⟩),rfl⟩
     rw[hx,<- hl,XU,WN];constructor
     .rintro(h | ⟨g,h1,h2⟩)
      .exact .inl h
      .exact .inr ⟨g,(XZ.mp h1).1,(XZ.mp h1).2,h2⟩
     .rintro(h | ⟨g,h1,h2,h3⟩)
      .exact .inl h
      .exact .inr ⟨g,XZ.mpr ⟨h1,h2⟩,h3⟩
def zke:Sp:=λf H Q _=>∃(p l:Addr) (b:AE) (n:Int),f=[.ref p]/\qd H p l b n/\Rows bd.cps.toList b /\
 ∀(d:Addr) (e:AF) (c:List AD) (a:Hp),H d=none->a d=some (.lst e)->xq a e c->Parts.Good (clA b) (qc b) c->zq H a->Q (.ref d) a
def zdD {rs:AE}(R:Rows bd.cps.toList rs){x:AA}(h:x∈zp rs):x.1<8/\x.2<8:=by
 obtain⟨t,k,c,d,_,_⟩:=qb h;have a:=(X2.mp c).1;have b:=(X2.mp d).1;have e:=R.hi;have g:=R.short _ (X4 (jX c));lia
def zm1 {H:Hp}{b:AF}{gs:List AD}(h:xq H b gs):WW (GS.LstAt H) b (gs.map (UF toI)):=by
 induction h with
 | nil=>exact .nil
 | cons r _ c =>
  obtain⟨a,d,e,h1,h2⟩:=r;exact .cons ⟨a,d,e,h1,h2.tup2⟩ c
def zm2 {H:Hp}:∀{gs:List AD} {b:AF},WW (GS.LstAt H) b (gs.map (UF toI))->xq H b gs:=by
 intro gs;induction gs with
 | nil =>
  intro b h;cases h;exact .nil
 | cons g r c =>
  intro b h;cases h with
  | cons q t =>
   obtain⟨a,d,e,h1,h2⟩:=q;exact .cons ⟨a,d,e,h1,qV h2⟩ (c t)
def zcl {ks:List (List (Int×Int))}{gs:List AD}(h:ks.Perm (gs.map (UF toI))):∃a:List AD,ks=a.map (UF toI)/\a.Perm gs:=by
 have b:∀g:AD,(g.map toI).map ofI=g:=λg=>by
  rw[Wz];exact(Xo λc _=>zkc c).trans (S7 g)
 refine⟨ks.map (UF ofI),?_,?_⟩
 .rw[Wz];refine(S7 ks).symm.trans (Xo λp d=>?_);obtain⟨c,_,rfl⟩:=XY.mp (h.mem_iff.mp d);show c.map toI=((c.map toI).map ofI).map toI;rw[b]
 .have:=h.map (UF ofI);rw[Wz]at this;have e:gs.map (UF ofI∘UF toI)=gs:=(Xo λc _=>b c).trans (S7 gs);rwa [e]at this
def zbz:zB ["board","found","cell"] ["board"] (zo zcS):=bz
def zdE {f1 f2 f3 f4 f5 f6:Addr}{ac ae af ag ah ai:Xz}(T:Txt mg)(D:zm K mg "parts" zcS ["board"] f fd)(zV:zm K mg "around" xj ["board","cell"] f1 ac)(zv:zm K mg "sign_at" jj ["board","cell"] f2 ae)
  (zA:zm K mg "cells_of" jy ["board"] f3 af) (zF:zm K mg "open_cells" jt ["board"] f4 ag) (zO:zm K mg "closed_around" jk ["board","cell"] f5 ah) (Jp:zm K mg "joined" QN ["groups","cells"] f6 ai):zT P w K mg base CX0 3 f fd ["board"] zke:=by
 refine D.F.ok zbz "l" (λay A aq s H vs Q E hr h=>?_)
 .revert h;refine fM λp l e n z0 b R q=>?_;subst z0;refine⟨_,(@zd _ _ _ _ _ (@qP _ _ 1 _ _ _ _ zbz.nd rfl (VI rfl) (@ql _ _ _ _ ze) "r" (.inr rfl)) (zd (qu Xb rfl (zN (pc0 (Jc T zF zA zv) hr zF (za (pvS 0) ze))) (pgq 2 zbz.nd) (zf (qf 1 zbz.nd (pc0 (zlk T Jp) hr Jp (za (pvS 1) (za (pc0 (YB T zO zV zv) hr zO (za (pvS 0) (za (pvS 2) ze))) ze)))))) (zf (zx (pb1 (GS.zaE hr.units) T.QO Vd (pvS 1)))))),?_⟩;ac_nf;refine⟨Qu,λY ao=>?_⟩;have s0:zq H (upd H Y (.lst [])):=zc ao;have O:upd H Y (.lst []) Y=some (.lst []):=zb;generalize upd H Y (.lst [])=H0 at *
  refine⟨_,rfl,p,l,e,n,rfl,b.mono s0,R,λdc wc H1 a1 ab v s1=>(dD dc rfl ⟨_,SqL.of ab⟩ ?_)⟩;have B:=s0.trans s1;have b1:=b.mono B;have v:Cel H1 wc (qc e):=v;have a4:=zfa R;refine Ji (K:=K) (a:=dc) (xs:=wc) (λi σ L=>∃(k:Addr) (J:AF) (m:List AD) (v2:Option V),σ=[some (.ref p),some (.ref k),v2]/\zq H1 L/\L k=some (.lst J)/\xq L J m/\Parts.Good (clA e) ((qc e).take i) m)
   (eU Y [] [] _ rfl (zq.refl _) (s1 _ _ O) (.nil) (Parts.Good.start _)) (λi σ L _ ⟨_,_,_,_,_,z,_⟩=>SqL.of (z _ _ ab)) ?_ ?_
  .refine λi x σ H2 y=>fU λk J m v2 z0 I hk M G=>?_;subst z0;refine fJ (λc hc ca z0 am=>?_) (Cel.get (Cel.mono I v) y);subst z0;have cm:=X4 hc;refine fm (λt sg ht hj _ es=>?_) (qb cm);obtain⟨l1,l2⟩:=Zi R ht hj;have tk:(qc e).take (i+1)=(qc e).take i++[c]:=by
    rw[XB,hc];rfl
   have j:(zp e).length<=63:=by
    have:=Ua cm;lia
   have gB:∀x∈m.flatten,x∈zp e:=λx y=>by
    obtain⟨o,_,h2⟩:=G.from_ x y;exact YC h2
   refine⟨_,rfl,_,rfl,_,rfl,p,l,ca,e,n,c,rfl,(b1.mono I),R,am,l1,l2,λd ar H3 hd an al u=>?_⟩;have a5:=B.trans (I.trans u);refine eN k d J ar m (clA e c) (zp e) rfl (u _ _ hk) (M.mono u) an (dY al (zfb e c) G.nd (λx y=>YC y) (dR gB (λx y=>zdD R y) j (X7 (Parts.Zg G.ne) (X7 (Parts.zZ G.nd gB) j)) (λav L s'=>?_) (λap d2 wa va a6 L az a2 N ax ak aw U s'=>?_)))
   .refine eU k J m _ rfl (I.trans (u.trans s')) (s' _ _ (u _ _ hk)) ((M.mono u).mono s') ?_;rw[tk];exact G.skip av
   .refine eU d2 _ _ _ rfl (I.trans (u.trans s')) N ak ?_;rw[tk];exact zi0 G ap (zfb e c) aw U
  .refine λσ H2=>fU λk J m v2 z0 I hk M G=>?_;subst z0;rw[v.length,XH]at G;have aj:∀x∈m.flatten,x∈zp e:=λx y=>by
    obtain⟨o,_,h2⟩:=G.from_ x y;exact YC h2
   have wl:m.length<=63:=by
    cases m with
    | nil=>exact W2 _
    | cons g r =>
     have m1:=head_mem (G.ne g XT);obtain⟨o,ho,_⟩:=G.from_ _ (WN.mpr ⟨g,XT,m1⟩);have:=Ua ho;have h3:=X7 (Parts.Zg G.ne) (Parts.zZ (b:=zp e) G.nd aj);lia
   refine⟨_,rfl,k,J,_,rfl,SqL.of hk,zm1 M,(by rw[M.length];lia),λd aa a3 hd hl au _=>?_⟩;have u:=zc (o:=.lst aa) hd;obtain⟨ds,rfl,pg⟩:=zcl au;exact q d aa ds _ ((B.trans I).free hd) zb ((zm2 hl).mono u) (G.perm pg) ((B.trans I).trans u)
def pD (p:Int×Int):V6:=.tuple [.int p.1,.int p.2]
def zm3 (p q:Int×Int):Xg (pD p) (pD q)=decide (p=q):=PySem.SeqAt.zeN p q
def PR (H:Hp)(v:V)(p:Int×Int):Prop:=∃a,v=V.ref a/\H a=some (.tup [.int p.1,.int p.2])
def PR.mono {H b:Hp}(s:zq H b){v:V}{p:Int×Int}(h:PR H v p):PR b v p:=let ⟨a,e,h⟩:=h;⟨a,e,s _ _ h⟩
def qZ {H a:Hp}(s:zq H a){b:AF}{ps:List (Int×Int)}(c:j9 H b ps):j9 a b ps:=by
 induction c with
 | nil=>exact .nil
 | cons h _ d =>
  exact .cons (PR.mono s h) d
def Zj {H:Hp}{a:AF}{ps:List (Int×Int)}(h:j9 H a ps):a.length=ps.length:=Paired.length h
def PR.rdv {K:X0}{H:Hp}{v:V}{p:Int×Int}(h:PR H v p):Rdv K H v (pD p):=by
 obtain⟨a,rfl,h⟩:=h;exact .tup (SqT.of h) (.cons (.int _) (.cons (.int _) .nil))
def zhy {K:X0}{H:Hp}{a:AF}{ps:List (Int×Int)}(b:j9 H a ps):ZZ K H a (ps.map pD):=by
 induction b with
 | nil=>exact .nil
 | cons h _ c =>
  exact .cons (PR.rdv h) c
theorem zi2:∀ps:List (Int×Int),Vb (ps.map pD)=true
 | []=>rfl
 | p::r=>by
  show (O8 (pD p)&&Vb (r.map pD))=true;rw[zi2 r];rfl
def zqV (ps:List (Int×Int))(p:Int×Int):(ps.map pD).any (λz=>Xg z (pD p))=ps.any λz=>decide (z=p):=by
 rw[Ug];congr 1;funext z;exact zm3 z p
def zm4 (ps:List (Int×Int))(c:AA):(ps.map pD).any (λz=>Xg z (zk c))=ps.any λz=>decide (z=toI c):=zqV ps (toI c)
def zqW {H:Hp}{a z:Addr}{o d:HO}(h:H a=some o)(c:H z=some d)(b:o≠d):a≠z:=λe=>by
 subst e;rw[h]at c;exact b (Option.some.inj c)
def zoO {H:Hp}{z:Addr}{ys b:AF}(c:H z=some (.lst ys)){v:V}{p:Int×Int}(h:PR H v p):PR (upd H z (.lst b)) v p:=by
 obtain⟨a,e,h⟩:=h;refine⟨a,e,?_⟩;rw[zg (zqW h c (λz=>nomatch z))];exact h
def yL {H:Hp}{z:Addr}{ys a:AF}(d:H z=some (.lst ys)){b:AF}{ps:List (Int×Int)}(c:j9 H b ps):j9 (upd H z (.lst a)) b ps:=by
 induction c with
 | nil=>exact .nil
 | cons h _ e =>
  exact .cons (zoO d h) e
def qR (N:Addr->Prop)(H:Hp):AF->List (List (Int×Int))->Prop:=WW λv k=>∃a b,v=V.ref a/\N a/\H a=some (.lst b)/\j9 H b k
def qa {N:Addr->Prop}{H b:Hp}(s:zq H b){c:AF}{ks:List (List (Int×Int))}(d:qR N H c ks):qR N b c ks:=by
 induction d with
 | nil=>exact .nil
 | cons q _ f =>
  obtain⟨a,g,e,n,h,t⟩:=q;exact .cons ⟨a,g,e,n,s _ _ h,qZ s t⟩ f
def jM {N M:Addr->Prop}{H:Hp}(w:∀a,N a->M a){b:AF}{ks:List (List (Int×Int))}(c:qR N H b ks):qR M H b ks:=by
 induction c with
 | nil=>exact .nil
 | cons q _ d =>
  obtain⟨a,f,e,n,h,t⟩:=q;exact .cons ⟨a,f,e,w a n,h,t⟩ d
def jf {N:Addr->Prop}{H:Hp}{z:Addr}{ys b:AF}(f:H z=some (.lst ys))(w:∀a,N a->a≠z){c:AF}{ks:List (List (Int×Int))}(d:qR N H c ks):qR N (upd H z (.lst b)) c ks:=by
 induction d with
 | nil=>exact .nil
 | cons q _ g =>
  revert q;refine fm λa i e n h t=>?_;exact .cons ⟨a,i,e,n,by rw[zg (w a n)];exact h,yL f t⟩ g
def yM {N:Addr->Prop}{H:Hp}{c:AF}{ks:List (List (Int×Int))}{b:AF}{a:List (List (Int×Int))}(h:qR N H c ks)(k:qR N H b a):qR N H (c++b) (ks++a):=YZ h k
def ja {N:Addr->Prop}{H:Hp}{a:AF}{ks:List (List (Int×Int))}(h:qR N H a ks):a.length=ks.length:=Paired.length h
def Zk {N:Addr->Prop}{H:Hp}{c:AF}{ks:List (List (Int×Int))}{i:Nat}{v:V}(h:qR N H c ks)(e:c[i]?=some v):∃k a b,ks[i]?=some k/\v=V.ref a/\N a/\H a=some (.lst b)/\j9 H b k:=by
 refine fq (λk h1=>gp λa b h2=>?_) (zaA h e);exact⟨k,a,b,h1,h2⟩
def zll {N:Addr->Prop}{H:Hp}{b:AF}{ks:List (List (Int×Int))}(c:qR N H b ks):WW (GS.LstAt H) b ks:=by
 induction c with
 | nil=>exact .nil
 | cons q _ d =>
  obtain⟨a,f,e,_,h,t⟩:=q;exact .cons ⟨a,f,e,h,t⟩ d
def zm5 {N:Addr->Prop}{H:Hp}{c:AF}{ks:List (List (Int×Int))}(f:WW (GS.LstAt H) c ks)(n:∀v∈c,∃a,v=V.ref a/\N a):qR N H c ks:=by
 induction f with
 | nil=>exact .nil
 | cons q _ i =>
  obtain⟨a,l,e,h,t⟩:=q;obtain⟨b,d,j⟩:=n _ XT;subst e;cases d;exact .cons ⟨_,l,rfl,j,h,t⟩ (i λv g=>n v (XQ _ g))
def zlm {N:Addr->Prop}{H:Hp}{c:AF}{ks:List (List (Int×Int))}{v:V}(h:qR N H c ks)(e:v∈c):∃a b,v=V.ref a/\N a/\H a=some (.lst b):=by
 refine fq (λk _=>fm λa b h1 h2 d _=>?_) (zlY h e);exact⟨a,b,h1,h2,d⟩
def zbA {H:Hp}{c:AF}{ps:List (Int×Int)}{b:AF}{a:List (Int×Int)}(h:j9 H c ps)(k:j9 H b a):j9 H (c++b) (ps++a):=YZ h k
def nearF (rs:AE)(c x:AA):Bool:=(zI rs c).any λz=>decide (z=x)
def jE (rs:AE)(c:AA):Int:=((Cells.sgn (codes rs) c:Nat):Int)-48
def zln (rs:AE)(c:AA):(zI rs c).Nodup:=(qY (Cells.Yt _ 0 (codes rs))).sublist WM
def zm6 {rs:AE}{o:AA}{q:AD}(b:q.Nodup):((zI rs o).filter λx=>q.any λz=>decide (z=x)).length=Grow.cnt (nearF rs) o q:=by
 unfold Grow.cnt;refine List.Perm.length_eq ((Wi ((zln rs o).sublist WM) (b.sublist WM)).mpr λx=>?_);rw[XZ,XZ];unfold nearF;rw[Ww,Ww];constructor
 .rintro⟨h1,y,hy,e⟩;have a:y=x:=bh e;subst a;exact⟨hy,y,h1,br rfl⟩
 .rintro⟨h1,y,hy,e⟩;have a:y=x:=bh e;subst a;exact⟨hy,y,h1,br rfl⟩
def zhz (H:Hp)(rs:AE)(v:V)(o:AA):Prop:=∃a b c,v=V.ref a/\H a=some (.tup [.int (jE rs o),.ref b])/\H b=some (.lst c)/\Cel H c (zI rs o)
def zhA (H:Hp)(rs:AE)(b:AD)(v:V)(o:AA):Prop:=∃a c d,v=V.ref a/\H a=some (.tup [.int (jE rs o-((Grow.cnt (nearF rs) o b:Nat):Int)),.int (jE rs o),.ref c])/\H c=some (.lst d)/\Cel H d (zI rs o)
def zlo {H b:Hp}(s:zq H b){rs:AE}{vs:AF}{cs:AD}(f:WW (zhz H rs) vs cs):WW (zhz b rs) vs cs:=by
 induction f with
 | nil=>exact .nil
 | cons q _ g =>
  revert q;refine fD λa h i e h1 c d=>?_;exact .cons (dF a h i e (s _ _ h1) (s _ _ c) (d.mono s)) g
def zb3 {H c:Hp}(s:zq H c){rs:AE}{b:AD}{vs:AF}{cs:AD}(g:WW (zhA H rs b) vs cs):WW (zhA c rs b) vs cs:=by
 induction g with
 | nil=>exact .nil
 | cons q _ h =>
  revert q;refine fD λa i j e h1 d f=>?_;exact .cons (dF a i j e (s _ _ h1) (s _ _ d) (f.mono s)) h
def Yq {α a:Type}{R:α->a->Prop}{vs:List α}{cs:List a}{i:Nat}{v:α}(h:WW R vs cs)(e:vs[i]?=some v):∃c,cs[i]?=some c/\R v c:=zaA h e
def zi3 {α c:Type}{R:α->c->Prop}{d:List α}{cs:List c}{b:List α}{a:List c}(h:WW R d cs)(k:WW R b a):WW R (d++b) (cs++a):=YZ h k
def zfd (H e:Hp)(rs:AE)(b:AD)(v:V)(o:AA):Prop:=∃a c d,v=V.ref a/\e a=some (.tup [.int (jE rs o-((Grow.cnt (nearF rs) o b:Nat):Int)),.int (jE rs o),.ref c])/\H c=some (.lst d)/\Cel H d (zI rs o)
def zi4 {H c d:Hp}(s:zq c d){rs:AE}{b:AD}{vs:AF}{cs:AD}(h:WW (zfd H c rs b) vs cs):WW (zfd H d rs b) vs cs:=by
 induction h with
 | nil=>exact .nil
 | cons q _ i =>
  revert q;refine fD λa j l e h1 f g=>?_;exact .cons (dF a j l e (s _ _ h1) f g) i
theorem zdF {H c:Hp}{z:Addr}{ys f:AF}(d:c z=some (.lst ys)){rs:AE}{b:AD}:∀{vs:AF} {cs:AD},WW (zfd H c rs b) vs cs->WW (zfd H (upd c z (.lst f)) rs b) vs cs
 | _,_,.nil=>.nil
 | _,_,.cons ⟨a,i,l,e,h1,g,h⟩ t=>.cons ⟨a,i,l,e,by
   have j:a≠z:=λe=>by
    subst e;rw[h1]at d;cases d
   rw[zg j];exact h1,g,h⟩ (zdF d t)
def zi5 {H c:Hp}(s:zq H c){rs:AE}{b:AD}{vs:AF}{cs:AD}(g:WW (zfd H c rs b) vs cs):WW (zhA c rs b) vs cs:=by
 induction g with
 | nil=>exact .nil
 | cons q _ h =>
  revert q;refine fD λa i j e h1 d f=>?_;exact .cons (dF a i j e h1 (s _ _ d) (f.mono s)) h
def zoP:Sp:=λm H Q _=>∃(h f g:Addr) (j i:AF) (e:AE) (O a:AD) (c:AA),m=[.ref h,.ref f,.ref g]/\H h=some (.lst j)/\WW (zhz H e) j O/\O.length<=64/\Rows bd.cps.toList e/\H f=some (.tup [.int (c.1:Nat),.int (c.2:Nat)])/\H g=some (.lst i)/\Cel H i a/\a.Nodup /\
 ∀(d:Addr) (l:AF) (b:Hp),b d=some (.lst l)->WW (zhA b e a) l (O.filter λo=>nearF e o c)->zq H b->Q (.ref d) b
def zsp:Sp:=λf H Q _=>∃(d e:Addr) (un up:AF) (b:AE) (a O q:AD),f=[.ref d,.ref e]/\H d=some (.lst un)/\WW (zhA H b a) un O/\H e=some (.lst up)/\Cel H up q/\q.length<=64 /\
 ∀c:Hp,zq H c->Q (.bl (O.all λo=>Grow.zds (nearF b) (jE b) a o q)) c
def Jq:zB ["told","cell","rest","needs","number","near","left"] ["told","cell","rest"] (zo Y7):=bz
def zhB (T:Txt mg)(D:zm K mg "needs_at" Y7 ["told","cell","rest"] f fd):zT P w K mg base CX0 1 f fd ["told","cell","rest"] zoP:=by
 refine D.F.ok Jq "l" (λan A aj s H vs Q E hr h=>?_)
 .revert h;refine fB λta ca ra ut=>gj λur j O g c z0 ab hT ol=>fG λR af ah ag ak q=>?_;subst z0;refine⟨_,(@zd _ _ _ _ _ (@qP _ _ 3 _ _ _ _ Jq.nd rfl (VI rfl) (@ql _ _ _ _ ze) "r" (.inr rfl)) (zd (qu Xb rfl (zN (pvS 0)) (j5 rfl (zH (pgq 4 Jq.nd) (zH (pgq 5 Jq.nd) qS))) (zf (qo (zw (YX hr.units) (pvS 1) (pvS 5) "r") (zd (qf 6 Jq.nd (pb1 zE T.ju W0 (pcm ["place","rest"] [none,some 2] cR (zN (pvS 5)) (pgN 0) (qp (zw (jH (K:=K) "r" hr.units) (pvS 0) (pvS 1) "r")) (pvS 0)))) (zf (yT (ZD WE Wc Wb yF (pvS 3) (za (jb (za (zu yC (pvS 4) (pvS 6)) (za (pvS 4) (za (pvS 5) ze)))) ze))))) zR))) (zf (zx (pvS 3))))),?_⟩;ac_nf;refine⟨Qu,λd hd=>?_⟩;have s0:=zc (o:=.lst []) hd;refine⟨_,rfl,ta,rfl,⟨_,SqL.of (s0 _ _ ab)⟩,?_⟩;refine Ji (K:=K) (a:=ta) (xs:=ut) (λi L H'=>∃(r:AF) (v4 v5 v6:Option V),L=[some (.ref ta),some (.ref ca),some (.ref ra),some (.ref d),v4,v5,v6]/\zq H H'/\H' d=some (.lst r)/\WW (zfd H H' j g) r ((O.take i).filter λo=>nearF j o c))
   (eV [] _ _ _ rfl s0 zb (.nil)) (λi L H' _ ⟨_,_,_,_,_,z,_⟩=>SqL.of (z _ _ ab)) ?_ ?_
  .refine λi x L H1 hx=>fM λr v4 v5 v6 z0 s1 n M=>?_;subst z0;refine fq (λo ho=>fD λa na wn z0 ae B y=>?_) (Yq hT hx);subst z0;have ha:=s1 _ _ ae;have I:=s1 _ _ B;have l:=y.mono s1;have tk:O.take (i+1)=O.take i++[o]:=by
    rw[XB,ho];rfl
   refine dJ a _ rfl (SqT.of ha) rfl _ _ rfl _ _ rfl rfl ?_;refine⟨_,rfl,_,rfl,zk c,(zI j o).map zk,xJ.rdv ⟨ca,rfl,s1 _ _ af⟩,.lst (SqL.of I) (zay l),rfl,zen _,(by show 1<=60;decide),_,rfl,?_⟩;have ei:(if false=true then !((zI j o).map zk).any (λz=>Xg z (zk c)) else ((zI j o).map zk).any λz=>Xg z (zk c))=nearF j o c:=jV _ _;rw[ei,tk,Xp];by_cases p:nearF j o c=true
   .have ef:[o].filter (λo=>nearF j o c)=[o]:=by
     rw[W3,bw p];rfl
    rw[ef];refine jQ p ⟨_,rfl,na,rfl,⟨_,SqL.of I⟩,λz hz=>?_⟩;refine ji (K:=K) (a:=na) (xs:=wn) (λa=>a≠z) ((zI j o).map λx=>if (g.any λz=>decide (z=x))=true then some (zk x) else none) (fun L=>∃u0,L=[u0,some (.ref ra)]) hz (λ_ h=>h) ⟨_,rfl⟩ (by rw[ZB];exact l.length.symm) (by rw[l.length];exact X7 (Z4 R o) "d") (SqL.of I) ?_ ?_
    .rintro m v u L H2 hv hu N _ ⟨u1,rfl⟩ Y Z am no;obtain⟨e,he,rc⟩:=Cel.get (l.mono N) hv;have eo:=Jw he hu;refine⟨_,rfl,_,rfl,zk e,g.map zk,rc.rdv,.lst (SqL.of (N _ _ (s1 _ _ ah))) (zay ((ag.mono s1).mono N)),rfl,zen _,(by show 1<=60;decide),_,rfl,?_⟩;have ei:(if false=true then !(g.map zk).any (λz=>Xg z (zk e)) else (g.map zk).any λz=>Xg z (zk e))=g.any λz=>decide (z=e):=jV _ _;rw[ei];by_cases p:(g.any λz=>decide (z=e))=true
     .rw[bw p]at eo;exact jQ p ⟨_,rfl,am _ _ _ _ eo ⟨_,rfl⟩ (zq.refl _) rc.rdn⟩
     .rw[bq p]at eo;exact qw (WU.mpr p) (no _ _ eo ⟨_,rfl⟩ (zq.refl _))
    rintro ys H2 N ai aa;have er:((zI j o).map λx=>if (g.any λz=>decide (z=x))=true then some (zk x) else none).filterMap id=((zI j o).filter λx=>g.any λz=>decide (z=x)).map zk:=jv _ _ _;rw[er]at aa;have yl:ys.length=Grow.cnt (nearF j) o g:=(zD.cel aa).length.trans (zm6 ak);have G:=N _ _ n;refine⟨z,ys,rfl,.inl (SqL.of ai),?_⟩;rw[yl];refine⟨_,rfl,.inl ⟨rfl,_,SqL.of G⟩,_,rfl,_,rfl,_,_,rfl,rfl,_,rfl,_,rfl,zmB,λtt J=>?_⟩;have z3:=zc (o:=.tup [.int (jE j o-((Grow.cnt (nearF j) o g:Nat):Int)),.int (jE j o),.ref na]) J;have ac:=N.trans z3;have al:r.length<=64:=by
     rw[Paired.length M];refine X7 (Xw _ _) ?_;rw[XC];lia
    have U:=z3 _ _ G;refine⟨d,r,_,rfl,rfl,U,XI al "d",r++[.ref tt],_,_,_,rfl,λb e' h'=>?_,zb,zi3 (zdF U (zi4 ac M)) (.cons (dF tt na wn rfl ?_ B y) .nil)⟩
    .rw[zg (zh h' hd)];exact ac _ _ (s1 _ _ h')
    .have ne:tt≠d:=λe=>by
      subst e;rw[G]at J;cases J
     rw[zg ne,zb]
   .have ef:[o].filter (λo=>nearF j o c)=[]:=by
     rw[W3,bq p];rfl
    rw[ef,Xc];exact qw (WU.mpr p) (eV r _ _ _ rfl s1 n M)
  .refine λL H1=>fM λr v4 v5 v6 z0 s1 n M=>?_;subst z0;rw[Paired.length hT,XH]at M;exact⟨_,rfl,q d r H1 n (zi5 s1 M) s1⟩
def Qg:zB ["needs","pick","least","most","near"] ["needs","pick"] (zo zai):=bz
def zi6 (T:Txt mg)(D:zm K mg "may_fit" zai ["needs","pick"] f fd):zT P w K mg base CX0 1 f fd ["needs","pick"] zsp:=by
 refine D.F.ok Qg "l" (λae A ab s H vs Q E hr h=>?_)
 .revert h;refine fB λL M un up=>gc λb c O p z0 r hN y g pl q=>?_;subst z0;refine⟨_,(zd (qu Xb rfl (zN (pvS 0)) (j5 rfl (zH (pgq 2 Qg.nd) (zH (pgq 3 Qg.nd) (zH (pgq 4 Qg.nd) qS)))) (zf (qo (ZX (zgM zf1 zf1 (pvS 2) (pb1 zE T.ju W0 (pcm ["cell","near"] [none,some 4] cR (zN (pvS 1)) (pgN 0) (qp (zw (jH (K:=K) "r" hr.units) (pvS 0) (pvS 1) "r")) (pvS 0))) (pvS 3))) (@zf _ _ _ (@zx _ _ _ _ xE)) zR))) (@zf _ _ _ (@zx _ _ _ _ xE))),?_⟩;ac_nf;refine⟨_,rfl,L,rfl,⟨_,SqL.of r⟩,?_⟩;refine Ji (K:=K) (a:=L) (xs:=un) (λi j H'=>∃(v2 v3 v4:Option V),j=[some (.ref L),some (.ref M),v2,v3,v4]/\zq H H'/\∀o∈O.take i,Grow.zds (nearF b) (jE b) c o p=true)
   (eu _ _ _ rfl (zq.refl _) (λo I=>by simp at I)) (λi j H' _ ⟨_,_,_,_,z,_⟩=>SqL.of (z _ _ r)) ?_ ?_
  .refine λi x j H1 hx=>fP λv2 v3 v4 z0 s1 d=>?_;subst z0;refine fq (λo I=>fD λa ra wn z0 ha U N=>?_) (Yq (zb3 s1 hN) hx);subst z0;refine⟨a,_,rfl,SqT.of ha,rfl,_,_,rfl,(eK _ _ (fk rfl _ _ rfl rfl ?_))⟩;refine⟨_,rfl,_,rfl,M,rfl,⟨_,SqL.of (s1 _ _ y)⟩,λz hz=>?_⟩;refine ji (K:=K) (a:=M) (xs:=up) (λa=>a≠z) (p.map λx=>if nearF b o x=true then some (zk x) else none) (fun j=>∃u0,j=[u0,some (.ref ra)]) hz (λ_ h=>h) ⟨_,rfl⟩ (by rw[ZB];exact g.length.symm) (by rw[g.length];exact X7 pl "d") (SqL.of (s1 _ _ y)) ?_ ?_
   .rintro m v u j H2 hv hu l _ ⟨u1,rfl⟩ Y Z ac no;obtain⟨e,he,rc⟩:=Cel.get ((g.mono s1).mono l) hv;have G:=Jw he hu;refine⟨_,rfl,_,rfl,zk e,(zI b o).map zk,rc.rdv,.lst (SqL.of (l _ _ U)) (zay (N.mono l)),rfl,zen _,(by show 1<=60;decide),_,rfl,?_⟩;have ei:(if false=true then !((zI b o).map zk).any (λz=>Xg z (zk e)) else ((zI b o).map zk).any λz=>Xg z (zk e))=nearF b o e:=jV _ _;rw[ei];by_cases J:nearF b o e=true
    .rw[bw J]at G;exact jQ J ⟨_,rfl,ac _ _ _ _ G ⟨_,rfl⟩ (zq.refl _) rc.rdn⟩
    .rw[bq J]at G;exact qw (WU.mpr J) (no _ _ G ⟨_,rfl⟩ (zq.refl _))
   rintro ys H2 l aa B;have er:(p.map λx=>if nearF b o x=true then some (zk x) else none).filterMap id=(p.filter (nearF b o)).map zk:=jv _ _ _;rw[er]at B;have yl:ys.length=Grow.cnt (nearF b) o p:=(zD.cel B).length;refine⟨z,ys,rfl,.inl (SqL.of aa),?_⟩;rw[yl];have om:=X4 I;have tk:O.take (i+1)=O.take i++[o]:=by
    rw[XB,I];rfl
   have n:Grow.zds (nearF b) (jE b) c o p=false->Q (.bl false) H2:=λe=>by
    have e2:(O.all λo=>Grow.zds (nearF b) (jE b) c o p)=false:=WU.mpr λz=>by
     have:=WV.mp z o om;rw[e]at this;cases this
    rw[e2]at q;exact q _ (s1.trans l)
   refine⟨_,_,rfl,rfl,_,rfl,?_⟩;by_cases h1:jE b o-((Grow.cnt (nearF b) o c:Nat):Int)<=((Grow.cnt (nearF b) o p:Nat):Int)
   .rw[br h1];refine zbj ⟨_,rfl,_,_,rfl,rfl,_,rfl,?_⟩;by_cases h2:((Grow.cnt (nearF b) o p:Nat):Int)<=jE b o
    .rw[br h2];refine YW (eu _ _ _ rfl (s1.trans l) (λo' ho'=>?_));rw[tk]at ho';rcases XU.mp ho' with ho' | ho'
     .exact d o' ho'
     .have e:o'=o:=by simpa using ho'
      rw[e];exact Grow.yD.mpr ⟨h1,h2⟩
    .rw[bg h2];exact zbj (n (WU.mpr λz=>h2 (Grow.yD.mp z).2))
   .rw[bg h1];refine YW (dG _ rfl ?_);exact zbj (n (WU.mpr λz=>h1 (Grow.yD.mp z).1))
  .refine λj H1=>fP λv2 v3 v4 z0 s1 d=>?_;subst z0;rw[Paired.length hN,XH]at d;have e:(O.all λo=>Grow.zds (nearF b) (jE b) c o p)=true:=WV.mpr d;rw[e]at q;exact q H1 s1
def toL (q:AD):List (Int×Int):=q.map toI
def zsq:Sp:=λi H Q _=>∃(a l g:Addr) (b:AE) (n:Int) (c:AF) (part:AD),i=[.ref a,.ref g]/\qd H a l b n/\Rows bd.cps.toList b/\H g=some (.lst c)/\Cel H c part/\part.Nodup/\part.length<=14 /\
 ∀(d:Addr) (h:AF) (f:List (List (Int×Int))) (e:Hp),H d=none->e d=some (.lst h)->qR (λa=>H a=none/\a≠d) e h f->f.Perm (((Subs.subs part).filter (Grow.fits (nearF b) (jE b) (JY b part) part)).map toL)->zq H e->Q (.ref d) e
def jN (rs:AE)(part:AD):Nat->List AD
 | 0=>[[]]
 | i+1=>match part[i]? with
  | some c=>(Subs.step (jN rs part i) c).filter (Grow.chk (nearF rs) (jE rs) (JY rs part) c (part.drop (i+1)))
  | none=>jN rs part i
def zdG {rs:AE}{part:AD}{i:Nat}{c:AA}(h:part[i]?=some c):jN rs part (i+1)=(Subs.step (jN rs part i) c).filter (Grow.chk (nearF rs) (jE rs) (JY rs part) c (part.drop (i+1))):=by
 show (match part[i]? with | some c=>_ | none=>_)=_;rw[h]
theorem zdH {rs:AE}{part:AD}:∀(k i:Nat),part.length-i=k->i<=part.length->Grow.grow (nearF rs) (jE rs) (JY rs part) (jN rs part i) (part.drop i)=jN rs part part.length
 | 0,i,h,b=>by
  have e:i=part.length:="a"
  subst e;rw[List.drop_length];rfl
 | k+1,i,h,b=>by
  have a:i<part.length:="a"
  rw[Wg a];show Grow.grow _ _ _ ((Subs.step (jN rs part i) part[i]).filter _) (part.drop (i+1))=_;rw[<- zdG (XX a)];exact zdH k (i+1) "a" "a"
def zfe (rs:AE)(part:AD):jN rs part part.length=(Subs.subs part).filter (Grow.fits (nearF rs) (jE rs) (JY rs part) part):=by
 rw[<- Grow.zoE];exact(zdH (rs:=rs) (part:=part) part.length 0 "a" (W2 _)).symm
theorem zan (rs:AE)(part:AD):∀i,(jN rs part i).length<=2^i
 | 0=>XW _
 | i+1=>by
  have a:=zan rs part i;show (match part[i]? with | some c=>_ | none=>_:List AD).length<=_;rw[Uh];split
  .refine X7 (Xw _ _) ?_;unfold Subs.step;rw[X5,ZB];lia
  .lia
theorem zdI (rs:AE)(part:AD):∀i,∀q∈jN rs part i,q.length<=i
 | 0,q,h=>by
  have e:q=[]:=by simpa[jN] using h
  rw[e];exact XW _
 | i+1,q,h=>by
  have a:=zdI rs part i;cases e:part[i]? with
  | none =>
   have b:jN rs part (i+1)=jN rs part i:=by
    show (match part[i]? with | some c=>_ | none=>_)=_;rw[e]
   rw[b]at h;exact Vx (a q h)
  | some c =>
   rw[zdG e]at h;have h:=(XZ.mp h).1;rcases XU.mp h with h | h
   .exact Vx (a q h)
   .obtain⟨p,d,rfl⟩:=XY.mp h;rw[X5];exact Tz (a p d)
def tD2 (rs:AE)(c:AA):V6:=.tuple [.int (jE rs c),.list ((zI rs c).map zk)]
def zm7 {N:Addr->Prop}{H:Hp}{rs:AE}{v:V}{c:AA}(h:Rdn N H v (tD2 rs c)):zhz H rs v c:=by
 unfold tD2 at h;generalize a:(zI rs c).map zk=ds at h;cases h with
 | tup h t =>
  cases t with
  | cons b t =>
   cases b;cases t with
   | cons d t =>
    cases t;cases d with
    | lst n h1 h2 =>
     subst a;exact dF _ _ _ rfl h h1 (zD.cel h2)
theorem zff {N:Addr->Prop}{H:Hp}{rs:AE}:∀{cs:AD} {vs:AF},zD N H vs (cs.map (tD2 rs))->WW (zhz H rs) vs cs
 | [],_,.nil=>.nil
 | _::_,_,.cons h t=>.cons (zm7 h) (zff t)
def Z5 {c:St}{H:Hp}{A B:Hp->Prop}(h:A H):zn9 c H λb a=>if b=true then A a else B a:=by
 show if true=true then A H else B H
 rw[bw rfl];exact h
def zgg {F:List AD}{j:Nat}{k:List (Int×Int)}(h:(F.map toL)[j]?=some k):∃q,F[j]?=some q/\k=toL q:=by
 rw[Xl]at h;cases e:F[j]? with
 | none=>rw[e]at h;cases h
 | some q =>
  rw[e]at h;cases h;exact⟨q,rfl,rfl⟩
def zhC (xs:AF)(i:Nat)(a:i<xs.length):zaw xs (some (((i:Nat):Int)+1)) none=xs.drop (i+1):=by
 have e:HT.sIx xs.length 0 (some (((i:Nat):Int)+1))=i+1:=by
  have:=HT.zbg xs.length 0 (i+1);rw[Tj]at this;rw[show (((i:Nat):Int)+1)=((i:Nat):Int)+((1:Nat):Int) from rfl,this];lia
 unfold zaw;rw[e];show (xs.drop (i+1)).take (xs.length-(i+1))=_;rw[Wt (by rw[UZ];lia)]
theorem zhD {H:Hp}:∀{a:AF} {cs:AD} (i:Nat),Cel H a cs->Cel H (a.drop i) (cs.drop i)
 | _,_,0,h=>h
 | _,_,i+1,.nil=>.nil
 | _,_,i+1,.cons _ t=>zhD i t
def qD:zB ["board","part","told","found","place","cell","needs","grown"] ["board","part"] (zo xo):=bz
def Jx (T:Txt mg)(Z:Prog K mg){f:Addr}{fd:Xz}(D:zm K mg "part_layings" xo ["board","part"] f fd):zT P w K mg base CX0 4 f fd ["board","part"] zsq:=by
 obtain⟨b5,b3,zV⟩:=Z.around;obtain⟨J6,xK,zv⟩:=Z.sign_at;obtain⟨xM,yN,zA⟩:=Z.cells_of;obtain⟨JZ,Jd,zF⟩:=Z.open_cells;obtain⟨ZM,J0,qM⟩:=Z.number_at;obtain⟨Qh,Z6,xr⟩:=Z.numbers_of;obtain⟨bx,QV,Zl⟩:=Z.needs_at;obtain⟨b4,b0,YE⟩:=Z.may_fit;refine D.F.ok qD "l" (λbp A bb s H vs Q E hr h=>?_)
 .revert h;refine fV λa l pa rs n B part z0 b R ar=>fO λaf bc pl q=>?_;subst z0;have ul:=af.length;refine⟨_,(zd (qo (zw ziM (pb1 zE T.ju W0 (pvS 1)) (YR (v:=.int 14) "r" T.zdB.choose_spec (by exact⟨_,rfl⟩)) (zG _)) (zf zlH) zR) (zd (psC 2 qD.nd ["cell","board"] [none,some 0] cR (zN (pc0 (zep T xr zV zv zA zF) hr xr (za (pvS 0) (za (pvS 1) ze)))) (pgN 0) qx (jb (za (pc0 (zbx T qM zv) hr qM (za (pvS 1) (za (pvS 0) ze))) (za (pc0 (zal T zV) hr zV (za (pvS 1) (za (pvS 0) ze))) ze)))) (@zd _ _ _ _ _ (@qP _ _ 3 _ _ _ _ qD.nd rfl (VI rfl) (@ql _ _ _ _ (@za _ _ _ _ _ (@ql _ _ _ _ ze) ze rfl)) "r" (.inr rfl)) (zd (qu Xb rfl (Ye "r" T.yf (za (pvS 1) ze)) (j5 rfl (zH (pgq 4 qD.nd) (zH (pgq 5 qD.nd) qS))) (zd (qf 6 qD.nd (pc0 (zhB T Zl) hr Zl (za (pvS 2) (za (pvS 5) (za (Qy zcN (pvS 1) (zab (zu zQ (pvS 4) zj)) zcL) ze))))) (zd (qf 7 qD.nd (zu J9 (pvS 3) (pcm ["pick","cell"] [none,some 5] cR (zN (pvS 3)) (pgN 0) qx (zu J9 (pvS 0) (ql (za (pvS 1) ze)))))) (zf (psC 3 qD.nd ["pick","needs"] [none,some 6] cR (zN (pvS 7)) (pgN 0) (qp (zbQ (K:=K) "r" (pc0 (zi6 T YE) hr YE (za (pvS 1) (za (pvS 0) ze))) (λ_=>rfl))) (pvS 0)))))) (zf (zx (pb1 (GS.zaE hr.units) T.QO Vd (pvS 3)))))))),?_⟩;ac_nf;refine⟨_,rfl,pa,B,rfl,.inl (SqL.of ar),_,_,rfl,rfl,_,rfl,?_⟩;refine qw (bg "a") ?_;refine⟨_,rfl,_,rfl,a,l,pa,rs,n,B,part,rfl,b,R,ar,af,λd ws H1 hd a5 am s1=>(dD d rfl ⟨_,SqL.of a5⟩ (λz hz=>?_))⟩;have b1:=b.mono s1;have nl:(JY rs part).length<=64:=X7 (Xw _ _) (qG (p:=QU) R);refine ji (K:=K) (a:=d) (xs:=ws) (λa=>a≠z) ((JY rs part).map λc=>some (tD2 rs c)) (fun σ=>∃u0,σ=[u0,some (.ref a)]) hz (λ_ h=>h) ⟨_,rfl⟩ (by rw[ZB];exact am.length.symm) (by rw[am.length];exact X7 nl "d") (SqL.of a5) ?_ ?_
  .rintro k x o σ H2 hx ho s2 aY ⟨u0,rfl⟩ Y Z bj no;obtain⟨y,hy,r1⟩:=Cel.get am hx;have eo:=Jw hy ho;have yo:y∈qc rs:=(XZ.mp (X4 hy)).1;refine fm (λt sg ht hj aS es=>?_) (qb yo);obtain⟨ya,rfl,aW⟩:=r1;obtain⟨l1,l2⟩:=Zi R ht hj;obtain⟨o1,o2⟩:=zb1 (zkb R ht hj) aS;have b2:=b1.mono s2;have al:=s2 _ _ aW;refine ZE ⟨_,rfl,_,rfl,a,l,ya,rs,n,y.1,y.2,t,sg,rfl,b2,al,ht,hj,R.tlen ht,o1,o2,_,rfl,_,rfl,a,l,ya,rs,n,y.1,y.2,rfl,b2,R,al,l1,l2,λd2 bv H3 aO aP aM s3=>⟨Jm,λtt au=>?_⟩⟩;have s4:=zc (o:=.tup [.int (((sg:Nat):Int)-48),.ref d2]) au;have en:jE rs y=((sg:Nat):Int)-48:=by
    unfold jE;rw[es]
   refine bj _ _ _ _ eo ⟨_,rfl⟩ (s3.trans s4) (.tup zb (.cons ?_ (.cons (.lst (λe=>aY (e ▸ aO)) (s4 _ _ aP) (Cel.rdn (aM.mono s4))) .nil)));rw[en];exact .int _
  rintro ut H2 s2 aX aA;rw[YA]at aA;have hT:=zff aA;have ac:=s1.trans s2;refine⟨Qu,λe0 a6=>⟨sz_1,λf0 aQ=>?_⟩⟩;have y1:=zc (o:=.lst []) a6;have y2:=zc (o:=.lst [.ref e0]) aQ;have aE:=y1.trans y2;have aI:qR (λa=>H2 a=none) (upd (upd H2 e0 (.lst [])) f0 (.lst [.ref e0])) [.ref e0] ([[]]:List (List (Int×Int))):=.cons (dB e0 [] rfl a6 (y2 _ _ zb) (.nil)) .nil;have aR:upd (upd H2 e0 (.lst [])) f0 (.lst [.ref e0]) f0=some (.lst [.ref e0]):=zb;generalize upd (upd H2 e0 (.lst [])) f0 (.lst [.ref e0])=H3 at *
  have ab:=ac _ _ ar;refine⟨_,rfl,pa,rfl,⟨_,SqL.of (aE _ _ ab)⟩,?_⟩;refine Yg (K:=K) (l:=pa) (xs:=B) (λi σ I=>∃(fa:Addr) (fs:AF) (v4 v5 v6 v7:Option V),σ=[some (.ref a),some (.ref pa),some (.ref z),some (.ref fa),v4,v5,v6,v7]/\zq H2 I/\I fa=some (.lst fs)/\qR (λa=>H2 a=none) I fs ((jN rs part i).map toL))
   (dS f0 _ _ _ (dB _ _ rfl aE aR aI)) (λi σ I _ ⟨_,_,_,_,_,_,_,y,_⟩=>SqL.of (y _ _ ab)) ?_ ?_
  .refine λi x tt σ H4 hx au=>fB λfa fs v4 v5=>fm λv6 v7 z0 s4 ap hL=>?_;subst z0;refine fJ (λc hc u z0 aN=>?_) (Cel.get ((af.mono ac).mono s4) hx);subst z0;have il:=(X2.mp hx).1;have z5:=zc (o:=.tup [.int (i:Nat),.ref u]) au;refine dJ tt _ rfl (SqT.of zb) rfl _ _ rfl _ _ rfl rfl ?_;have s5:=s4.trans z5;have ak:=z5 _ _ aN;have a7:=z5 _ _ ap;have aJ:=qa z5 hL;generalize upd H4 tt (.tup [.int (i:Nat),.ref u])=H5 at *
   refine⟨_,rfl,_,rfl,_,rfl,_,rfl,_,_,rfl,rfl,_,rfl,pa,B,rfl,SqL.of (s5 _ _ ab),λx1 aV=>?_⟩;have e1:=zhC B i il;rw[e1]at *
   have z6:=zc (o:=.lst (B.drop (i+1))) aV;have s6:=s5.trans z6;refine e8 z u x1 ut (B.drop (i+1)) rs (dI (JY rs part) (part.drop (i+1)) c rfl (s6 _ _ aX) (zlo s6 hT) nl (dR R (z6 _ _ ak) zb (zhD _ ((af.mono ac).mono s6)) (bc.sublist (List.drop_sublist _ _)) (λnd un H6 bn hN s7=>?_)));have aj:=z6.trans s7;have aC:=s5.trans aj;have aa:=aj _ _ a7;have a2:=qa aj aJ;have a4:=aj _ _ ak;have aZ:i<=13:="a"
   have fl:fs.length<=8192:=by
    rw[ja hL,ZB];exact X7 (zan rs part i) (VU "d" aZ)
   have dp:=zdI rs part i;have eG:=zdG (rs:=rs) hc;have gl:=zan rs part i;generalize jN rs part i=F at *
   refine⟨_,rfl,_,rfl,fa,rfl,⟨_,SqL.of aa⟩,λy hy=>?_⟩;refine zY (K:=K) (a:=fa) (xs:=fs) (λj r I=>∃(u0:Option V) (m:AF),r=[u0,some (.ref u)]/\zq H6 I/\I y=some (.lst m)/\qR (λa=>H6 a=none/\a≠y) I m (((F.take j).map (·++[c])).map toL))
    (dB _ [] rfl (zc hy) zb (.nil)) (λj r I _ ⟨_,_,_,z,_⟩=>SqL.of (z _ _ aa)) ?_ ?_
   .refine λj v r H7 hv=>fm λu0 m z0 s8 ai L=>?_;subst z0;refine fC (λk a1 N hk z0 an U t1=>?_) (Zk a2 hv);subst z0;refine fq (λq1 M z0=>?_) (zgg hk);subst z0;have kd:=dp q1 (X4 M);have wl:N.length=q1.length:=(Zj t1).trans (ZB _);have tj:((F.take (j+1)).map (·++[c])).map toL=((F.take j).map (·++[c])).map toL++[toL q1++[toI c]]:=by
     rw[XB,M,XS,XS];simp[toL]
    rw[tj];unfold yv;refine Z5 ?_;refine⟨_,rfl,_,rfl,sz_1,λt2 aT=>?_⟩;have y5:=zc (o:=.lst [.ref u]) aT;refine dQ a1 t2 N [.ref u] rfl rfl (y5 _ _ (s8 _ _ U)) zb (X7 (show N.length+1<=100 by lia) "d") (λt3 ah=>?_);have y6:=zc (o:=.lst (N++[.ref u])) ah;have ae:=y5.trans y6;have h6:upd (upd H7 t2 (.lst [.ref u])) t3 (.lst (N++[.ref u])) t3=some (.lst (N++[.ref u])):=zb;have tz:t3≠y:=λe=>by
     subst e;rw[y5 _ _ ai]at ah;cases ah
    have n4:=y5.free ah;have n3:=s8.free n4;have c1:j9 (upd (upd H7 t2 (.lst [.ref u])) t3 (.lst (N++[.ref u]))) [.ref u] [toI c]:=.cons ⟨u,rfl,ae _ _ (s8 _ _ a4)⟩ .nil;have bi:=zbA (qZ (s8.trans ae) t1) c1;generalize upd (upd H7 t2 (.lst [.ref u])) t3 (.lst (N++[.ref u]))=H8 at *
    have aw:=ae _ _ ai;have yl:m.length<=8192:=by
     rw[ja L,ZB,ZB,XC];have:=ja hL;rw[ZB]at this;lia
    refine eB m aw (XI yl "d") _ (m++[.ref t3]) rfl (λb' o e=>?_) zb (yM (jf aw (λa h=>h.2) (qa ae L)) (.cons (dB t3 (N++[.ref u]) rfl ⟨n3,tz⟩ (by rw[zg tz];exact h6) (yL aw bi)) .nil));rw[zg (zh e hy)];exact ae _ _ (s8 _ _ e)
   refine λr H7=>fm λu0 m z0 s8 ai L=>?_;subst z0;have aG:fs.length=F.length:=(ja hL).trans (ZB _);rw[aG,XH]at L;have yl:m.length<=8192:=by
    rw[ja L,ZB,ZB];lia
   refine dQ fa y fs m rfl rfl (s8 _ _ aa) ai (X7 (SR fl yl) "d") (λg hg=>?_);have y9:=zc (o:=.lst (fs++m)) hg;have be:=aC.trans s8;have bf:=be.trans y9;have a8:upd H7 g (.lst (fs++m)) g=some (.lst (fs++m)):=zb;have a3:qR (λa=>H2 a=none) (upd H7 g (.lst (fs++m))) (fs++m) ((Subs.step F c).map toL):=by
    unfold Subs.step;rw[XS];exact yM (qa (s8.trans y9) a2) (qa y9 (jM (λa h=>aC.free h.1) L))
   have a9:=(s8.trans y9) _ _ bn;have aK:=zb3 (s8.trans y9) hN;have bt:(fs++m).length<=16384:=by
    rw[X5];lia
   have aF:∀q∈Subs.step F c,q.length<=64:=λq hq=>by
    rcases XU.mp hq with hq | hq
    .have:=dp q hq;lia
    .obtain⟨p',aq,rfl⟩:=XY.mp hq;have:=dp p' aq;rw[X5];show p'.length+1<=64;lia
   generalize fs++m=gs at *
   generalize Subs.step F c=S at *
   generalize upd H7 g (.lst gs)=H8 at *
   refine⟨_,rfl,g,rfl,⟨_,SqL.of a8⟩,λy2 av=>?_⟩;refine zY (K:=K) (a:=g) (xs:=gs) (λj r I=>∃(u0:Option V) (m:AF),r=[u0,some (.ref nd)]/\zq H8 I/\I y2=some (.lst m)/\qR (λa=>H2 a=none/\a≠y2) I m (((S.take j).filter (Grow.chk (nearF rs) (jE rs) (JY rs part) c (part.drop (i+1)))).map toL)/\m.length<=j)
    (dH _ [] rfl (zc av) zb (.nil) (XW _)) (λj r I _ ⟨_,_,_,z,_⟩=>SqL.of (z _ _ a8)) ?_ ?_
   .refine λj v r H9 hv=>fF λu0 m z0 s9 ax O ay=>?_;subst z0;refine fC (λk a1 N hk z0 an U t1=>?_) (Zk a3 hv);subst z0;refine fq (λq1 M z0=>?_) (zgg hk);subst z0;have jl:=(X2.mp hv).1;refine⟨_,rfl,_,rfl,nd,a1,un,N,rs,part.drop (i+1),_,q1,rfl,s9 _ _ a9,zb3 s9 aK,s9 _ _ U,(qV t1).mono s9,aF q1 (X4 M),λbo G=>(dG _ rfl ?_)⟩;have J:=G _ _ ax;show if Grow.chk (nearF rs) (jE rs) (JY rs part) c (part.drop (i+1)) q1=true then _ else _
    by_cases ag:Grow.chk (nearF rs) (jE rs) (JY rs part) c (part.drop (i+1)) q1=true
    .have e1:((S.take (j+1)).filter (Grow.chk (nearF rs) (jE rs) (JY rs part) c (part.drop (i+1)))).map toL=((S.take j).filter (Grow.chk (nearF rs) (jE rs) (JY rs part) c (part.drop (i+1)))).map toL++[toL q1]:=by
      rw[XB,M,Xp,XS];simp[ag]
     rw[e1];have az:a1≠y2:=zh U av;have yl:m.length<=16384:="a"
     refine jQ ag ⟨_,rfl,m,J,XI yl "d",_,m++[.ref a1],rfl,λb' o e=>?_,zb,yM (jf J (λa h=>h.2) (qa G O)) (.cons (dB a1 N rfl ⟨an,az⟩ (by rw[zg az];exact G _ _ (s9 _ _ U)) (yL J (qZ (s9.trans G) t1))) .nil),by rw[X5];exact Tz ay⟩;rw[zg (zh e av)];exact G _ _ (s9 _ _ e)
    .have e1:((S.take (j+1)).filter (Grow.chk (nearF rs) (jE rs) (JY rs part) c (part.drop (i+1)))).map toL=((S.take j).filter (Grow.chk (nearF rs) (jE rs) (JY rs part) c (part.drop (i+1)))).map toL:=by
      rw[XB,M,Xp,XS];simp[ag]
     rw[e1];exact qw (WU.mpr ag) (dH _ m rfl (s9.trans G) J (qa G O) (Vx ay))
   .refine λr H9=>fF λu0 m z0 s9 ax O ay=>?_;subst z0;have aH:gs.length=S.length:=(ja a3).trans (ZB _);rw[aH,XH,<- eG]at O;exact dS y2 m _ _ (dB _ _ rfl (bf.trans s9) ax (jM (λa h=>h.1) O))
  .refine λσ H4=>fB λfa fs v4 v5=>fm λv6 v7 z0 s4 ap hL=>?_;subst z0;have gl:=zan rs part part.length;rw[ul,zfe]at hL;rw[zfe]at gl;have fl:fs.length<=16384:=by
    rw[ja hL,ZB];exact X7 gl (VU "d" pl)
   refine⟨_,rfl,fa,fs,_,rfl,SqL.of ap,zll hL,"a",λd' aD ba ao aq bm aU=>?_⟩;have y5:=zc (o:=.lst aD) ao;have aB:=ac.trans s4;refine q d' aD ba _ (aB.free ao) zb (qa y5 (zm5 aq λv hv=>?_)) bm (aB.trans y5);obtain⟨a1,wa,e,na,ha⟩:=zlm hL (aU.mem_iff.mp hv);exact⟨a1,e,ac.free na,zh ha ao⟩
abbrev iL (xs:List Int):AF:=xs.map V.int
def ints_get {xs:List Int}{i:Nat}{v:V}(h:(iL xs)[i]?=some v):∃x,xs[i]?=some x/\v=.int x:=by
 rw[Xl]at h;cases e:xs[i]? with
 | none=>rw[e]at h;cases h
 | some x =>
  rw[e]at h;cases h;exact⟨x,rfl,rfl⟩
def zkf {xs:List Int}{i:Nat}{x:Int}(h:xs[i]?=some x):(iL xs)[i]?=some (.int x):=by
 rw[Xl,h];rfl
def zdJ {n:Nat}{k:Int}(h0:0<=k)(h1:k<n):ixN n k=some k.toNat:=by
 unfold ixN;rw[bw h0,bw h1]
def zoQ (xs:List Int)(z:Int):iL (xs++[z])=iL xs++[.int z]:=by
 show UF V.int (xs++[z])=_;rw[XS];rfl
def zcy (c:AA)(k:List (Int×Int)):Bool:=k.any λz=>decide (z=toI c)
def Qi (rs:AE)(part:AD):List (List (Int×Int)):=((Subs.subs part).filter (Grow.fits (nearF rs) (jE rs) (JY rs part) part)).map toL
def zsr:Sp:=λf H Q _=>∃(c:Addr) (e:AF) (b:List (List (Int×Int))) (N:Addr->Prop) (g:Nat),f=[.ref c,.int (g:Nat)]/\H c=some (.lst e)/\qR N H e b/\(∀k∈b,k.length<=g)/\g<=64 /\
 ∀(d:Addr) (a:Hp),H d=none->a d=some (.lst (iL (Cnt.Jv g b)))->zq H a->Q (.ref d) a
def zoR:Sp:=λi H Q _=>∃(f e:Addr) (h:AF) (a:List (List (Int×Int))) (N:Addr->Prop) (g:Nat) (c:AA),i=[.ref f,.int (g:Nat),.ref e]/\H f=some (.lst h)/\qR N H h a/\(∀k∈a,k.length<=g)/\g<=64/\a.length<=16384/\H e=some (.tup [.int (c.1:Nat),.int (c.2:Nat)]) /\
 ∀(d:Addr) (b:Hp),H d=none->b d=some (.lst (iL (Cnt.Jv g (a.filter (zcy c)))))->zq H b->Q (.ref d) b
def ztf:Sp:=λg H Q _=>∃(a l f:Addr) (e:AE) (n:Int) (b:AF) (part:AD),g=[.ref a,.ref f]/\qd H a l e n/\Rows bd.cps.toList e/\H f=some (.lst b)/\Cel H b part/\part.Nodup/\part.length<=14 /\
 ∀(d:Addr) (c:Hp),H d=none->c d=some (.lst (iL (Cnt.Jv part.length (Qi e part))))->zq H c->Q (.ref d) c
def zhE (n:Nat):(W6 n [V.int 0]).flatten=iL (W6 n 0):=by
 induction n with
 | zero=>rfl
 | succ n a =>
  rw[V2,WG,a];rfl
theorem zhF {α:Type}:∀(cs:List α) (b:Nat),(Subs.pick cs b).length<=cs.length
 | [],_=>W2 _
 | c::r,b=>by
  have:=zhF r (b/2);show ((if b%2=1 then [c] else [])++Subs.pick r (b/2)).length<=r.length+1;rw[X5];split
  .show 1+_<=_;lia
  .show 0+_<=_;lia
def zm8 {α:Type}{cs q:List α}(h:q∈Subs.subs cs):q.length<=cs.length:=by
 rw[Subs.zag]at h;obtain⟨b,_,rfl⟩:=XY.mp h;exact zhF cs b
def zdK {rs:AE}{part:AD}{k:List (Int×Int)}(h:k∈Qi rs part):k.length<=part.length:=by
 obtain⟨a,h1,rfl⟩:=XY.mp h;show (a.map toI).length<=_;rw[ZB];exact zm8 (XZ.mp h1).1
def zlp {rs:AE}{part:AD}(h:part.length<=14):(Qi rs part).length<=16384:=by
 unfold Qi;rw[ZB];refine X7 (Xw _ _) ?_;rw[Subs.zag,ZB,WZ];exact X7 (VU "d" h) "d"
def zaZ:zB ["found","greatest","counts","laying"] ["found","greatest"] (zo Yx):=bz
def za0 (T:Txt mg)(D:zm K mg "counted" Yx ["found","greatest"] f fd):zT P w K mg base CX0 1 f fd ["found","greatest"] zsr:=by
 refine D.F.ok zaZ "l" (λaa A I s H vs Q E hr h=>?_)
 .revert h;refine fS λm Y G N g z0 d M hk ab q=>?_;subst z0;refine⟨_,(@zd _ _ _ _ _ (@qP _ _ 2 _ _ _ _ zaZ.nd rfl (VI rfl) (@zu _ _ _ _ _ _ _ _ zio (@ql _ _ _ _ (@za _ _ _ _ _ zj ze rfl)) (zu zQ (pvS 1) zj)) "r" (.inr rfl)) (zd (qu Xb rfl (zN (pvS 0)) (pgq 3 zaZ.nd) (zf (zjD (pvS 2) (pb1 zE T.ju W0 (pvS 3)) zgU zj zlK set_list))) (zf (zx (pvS 2))))),?_⟩;ac_nf;refine⟨sz_1,λU B=>?_⟩;have s0:zq H (upd H U (.lst [.int 0])):=zc B;refine⟨_,rfl,_,_,rfl,rfl,U,_,_,rfl,rfl,zb,"a","a",?_,λp O=>?_⟩
  .exact X7 (show 1*((g:Int)+1).toNat<=120 by lia) "d"
  rw[show ((g:Int)+1).toNat=g+1 by lia,zhE,<- Cnt.zmJ (α:=Int×Int)];have s1:=s0.trans (zc (o:=.lst (iL (Cnt.Jv g ([]:List (List (Int×Int)))))) O);have l:H p=none:=s0.free O;refine⟨_,rfl,m,rfl,⟨_,SqL.of (s1 _ _ d)⟩,?_⟩;refine Ji (K:=K) (a:=m) (xs:=Y) (λi u x=>∃J,u=[some (.ref m),some (.int (g:Nat)),some (.ref p),J]/\zq H x/\x p=some (.lst (iL (Cnt.Jv g (G.take i)))))
   ⟨_,rfl,s1,zb⟩ (λi u x _ ⟨_,_,y,_⟩=>SqL.of (y _ _ d)) ?_ ?_
  .refine λi v u L hv=>fu λJ z0 r b=>?_;subst z0;refine fC (λk a1 wa j z0 _ z t1=>?_) (Zk M hv);subst z0;have kl:=hk k (X4 j);have wl:=Zj t1;refine⟨_,rfl,_,rfl,a1,wa,rfl,.inl (SqL.of (r _ _ z)),p,_,_,_,rfl,rfl,SqL.of b,jJ "a" (zkf (Cnt.zdu (n:=wa.length) _ "a")),_,_,rfl,rfl,p,_,_,_,rfl,rfl,b,zdJ "a" (by rw[ZB,Cnt.zbs];lia),?_⟩;refine dD _ rfl (λc o e=>?_) ?_
   .rw[zg (zh e l)];exact r _ _ e
   .rw[zb,XB,j];show _=some (HO.lst (iL (Cnt.Jv g (G.take i++[k]))));rw[Cnt.zlf _ kl,wl];show some (HO.lst ((UF V.int _).set _ (V.int _)))=_;rw[<- Oh];rfl
  .rintro u L ⟨J,rfl,r,b⟩;rw[ja M,XH]at b;exact⟨_,rfl,q p L l b r⟩
def zdL:zB ["board","part"] ["board","part"] (zo x6):=bz
def zdM (T:Txt mg)(Z:Prog K mg){f:Addr}{fd:Xz}(D:zm K mg "part_counts" x6 ["board","part"] f fd):zT P w K mg base CX0 5 f fd ["board","part"] ztf:=by
 obtain⟨Zm,Jy,y⟩:=Z.part_layings;obtain⟨Y,U,x⟩:=Z.counted;refine D.F.ok zdL "l" (λG A p s H N Q E v h=>?_)
 .revert h;refine fV λa l r z n g part z0 b R j=>fO λc u L q=>?_;subst z0;refine⟨_,(zf (zx (pc0 (za0 T x) v x (za (pc0 (Jx T Z y) v y (za (pvS 0) (za (pvS 1) ze))) (za (pb1 zE T.ju W0 (pvS 1)) ze))))),?_⟩;ac_nf;refine⟨_,rfl,_,rfl,a,l,r,z,n,g,part,rfl,b,R,j,c,u,L,λd O J H1 hd o I m s1=>?_⟩;refine⟨_,rfl,r,g,rfl,.inl (SqL.of (s1 _ _ j)),d,O,J,_,g.length,rfl,o,I,λk hk=>?_,?_,λe B he i M=>?_⟩
  .rw[c.length];exact zdK (m.mem_iff.mp hk)
  .rw[c.length];lia
  .rw[c.length,Cnt.zbX m]at i;exact q e B (s1.free he) i (s1.trans M)
def qB (rs:AE)(g S:AD):Bool:=Grow.fits (nearF rs) (jE rs) (JY rs g) g S
def jZ {rs:AE}{o x:AA}:nearF rs o x=true↔x∈zI rs o:=Parts.xh _ _
def zqX {rs:AE}{x:AA}(h:x∈zp rs):Cells.sgn (codes rs) x=63:=by
 obtain⟨t,k,c,b,hk,a⟩:=qb h;have:k=63:=by
  unfold qI at hk;simpa using hk
 rw[a,this]
def Qj {rs:AE}{o x:AA}(a:x∈zp rs):nearF rs o x=true↔x∈clA rs o:=by
 rw[jZ];constructor
 .exact λh=>XZ.mpr ⟨h,br (zqX a)⟩
 .exact λh=>(XZ.mp h).1
def zgh {rs:AE}{g:AD}{o:AA}:o∈JY rs g↔o∈qc rs/\∃x∈g,nearF rs o x=true:=by
 unfold JY;rw[XZ,Ug,Ww];refine and_congr_right λ_=>?_;constructor
 .rintro⟨z,hz,h⟩;have a:(g.any λx=>decide (x=z))=true:=h;exact⟨z,(Parts.xh _ _).mp a,jZ.mpr hz⟩
 .rintro⟨x,hx,h⟩;exact⟨x,jZ.mp h,(Parts.xh _ _).mpr hx⟩
section
variable {rs:AE}{gs:List AD}(G:Parts.Good (clA rs) (qc rs) gs)
include G
theorem jh:∀c∈gs.flatten,c∈zp rs:=λc a=>by
 obtain⟨o,_,h⟩:=G.from_ c a;exact YC h
theorem zoS {g:AD}(f:g∈gs){o x:AA}(j:o∈JY rs g)(l:x∈zp rs)(i:nearF rs o x=true):x∈g:=by
 obtain⟨h1,y,h,h2⟩:=zgh.mp j;have d:=jh G y (WN.mpr ⟨g,f,h⟩);have b:=(Qj d).mp h2;obtain⟨m,c,a⟩:=G.cov o h1 (Ta b);have e:=Parts.ze2 G.nd c f (a y b) h;rw[<- e];exact a x ((Qj l).mp i)
theorem zkg {g:AD}(d:g∈gs){o:AA}(f:o∈JY rs g){a:AD}(h:∀c∈a,c∈zp rs/\c ∉ g):Grow.cnt (nearF rs) o a=0:=by
 unfold Grow.cnt;rw[VF,WB];intro c b e;exact(h c b).2 (zoS G d f (h c b).1 e)
theorem ZN {g:AD}(i:g∈gs):Tally.Loc (zp rs) (qB rs g) g:=by
 have e:∀S f:AD,(∀o∈JY rs g,Grow.cnt (nearF rs) o S=Grow.cnt (nearF rs) o f)->qB rs g S=qB rs g f:=λS f h=>by
  unfold qB Grow.fits;rw[W7,WV,WV];constructor
  .intro k o c;have:=k o c;rwa [h o (XZ.mp c).1]at this
  .intro k o c;have:=k o c;rwa [<- h o (XZ.mp c).1]at this
 have d:∀(o:AA) (a b:AD),Grow.cnt (nearF rs) o (a++b)=Grow.cnt (nearF rs) o a+Grow.cnt (nearF rs) o b:=λo a b=>by
  unfold Grow.cnt;rw[Xp,X5]
 refine⟨λa b h=>e _ _ λo c=>?_,λa b h=>e _ _ λo c=>?_⟩
 .rw[d,zkg G i c h,V1]
 .rw[d,zkg G i c h,Oj]
theorem zhG:(gs.map λg=>Tally.tl g (qB rs g)).foldl Pour.Z1 [1]=Tally.tl gs.flatten (Tally.ye (qB rs) gs):=Tally.ziV G.nd (jh G) λg a=>ZN G a
theorem zlq (i:Nat):((gs.take i).map λg=>Tally.tl g (qB rs g)).foldl Pour.Z1 [1]=Tally.tl (gs.take i).flatten (Tally.ye (qB rs) (gs.take i)):=by
 have sub:(gs.take i).flatten.Sublist gs.flatten:=by
  have e:gs.flatten=(gs.take i).flatten++(gs.drop i).flatten:=by rw[<- WS,WR]
  rw[e];exact Rg _ _
 exact Tally.ziV (G.nd.sublist sub) (λc a=>jh G c (sub.subset a)) λg b=>ZN G (Wv b)
theorem QW (R:Rows bd.cps.toList rs):gs.flatten.length<=64:=by
 have h1:=Parts.zZ G.nd (jh G);have h2:=zfa R;lia
end
def zfh (rs:AE)(part:AD):Cnt.Jv part.length (Qi rs part)=Tally.tl part (qB rs part):=by
 unfold Qi;rw[Tally.zhr part.length toL (λk=>ZB _)];exact Tally.zj9 part _
def zlr (xs:List Int):Prop:=∀z∈xs,z.natAbs<2^8000
def zgi {cs:AD}{p:AD->Bool}{k:Nat}(h:cs.length<=64):Tally.T cs p k<=2^64:=by
 refine X7 Pj ?_;rw[Subs.zag,ZB,WZ];exact VU "d" h
def Qk {cs:AD}{p:AD->Bool}(h:cs.length<=64):zlr (Tally.tl cs p):=λz a=>by
 unfold Tally.tl at a;obtain⟨k,_,rfl⟩:=XY.mp a;rw[Uc];exact XI (zgi h) (OX "d" "d")
def Jr (rs:AE)(S:AD):Bool:=((qc rs).filter λo=>!(clA rs o).isEmpty).all λo=>decide (((Grow.cnt (nearF rs) o S:Nat):Int)=jE rs o)
def J1 {rs:AE}{S:AD}:Jr rs S=true ↔ ∀o∈qc rs,clA rs o ≠ []->((Grow.cnt (nearF rs) o S:Nat):Int)=jE rs o:=by
 unfold Jr;rw[WV];constructor
 .intro h o a b;exact bh (h o (XZ.mpr ⟨a,by rw[Wu];exact Vk.mpr b⟩))
 .intro h o a;obtain⟨h1,h2⟩:=XZ.mp a;rw[Wu]at h2;exact br (h o h1 (Vk.mp h2))
def YF {rs:AE}{gs:List AD}(G:Parts.Good (clA rs) (qc rs) gs)(S:AD):Tally.ye (qB rs) gs S=Jr rs S:=by
 rw[W7,J1];unfold Tally.ye qB Grow.fits;rw[WV];constructor
 .intro h o d i;obtain⟨x,b⟩:=Tu _ i;obtain⟨g,e,a⟩:=G.cov o d i;have c:nearF rs o x=true:=(Qj (YC b)).mpr b;have:=h g e;rw[WV]at this;exact bh (this o (XZ.mpr ⟨zgh.mpr ⟨d,x,a x b,c⟩,Ww.mpr ⟨x,a x b,c⟩⟩))
 .intro h g e;rw[WV];intro o d;obtain⟨h1,x,b,c⟩:=zgh.mp (XZ.mp d).1;have f:=jh G x (WN.mpr ⟨g,e,b⟩);exact br (h o h1 (Ta ((Qj f).mp c)))
def zm9 {rs:AE}{gs:List AD}(G:Parts.Good (clA rs) (qc rs) gs){c:AA}:c∈gs.flatten↔c∈zp rs/\∃o∈qc rs,nearF rs o c=true:=by
 constructor
 .intro h;obtain⟨o,e,b⟩:=G.from_ c h;have d:=YC b;exact⟨d,o,e,(Qj d).mpr b⟩
 .rintro⟨d,o,e,hn⟩;have b:=(Qj d).mp hn;obtain⟨g,f,a⟩:=G.cov o e (Ta b);exact WN.mpr ⟨g,f,a c b⟩
def qi (rs:AE)(S:AD):Bool:=(qc rs).all λo=>decide (((Grow.cnt (nearF rs) o S:Nat):Int)=jE rs o)
def za1 {rs:AE}{S:AD}:qi rs S=true ↔ ∀o∈qc rs,((Grow.cnt (nearF rs) o S:Nat):Int)=jE rs o:=by
 unfold qi;rw[WV];exact⟨λh o a=>bh (h o a),λh o a=>br (h o a)⟩
def za2 (rs:AE):Tally.Inv (qi rs):=λa b e=>by
 rw[W7,za1,za1];have:∀o,Grow.cnt (nearF rs) o a=Grow.cnt (nearF rs) o b:=λo=>(e.filter _).length_eq;constructor
 .intro h o c;rw[<- this o];exact h o c
 .intro h o c;rw[this o];exact h o c
def zna {rs:AE}:(jU rs).isEmpty=true ↔ ∀o∈qc rs,clA rs o=[]->jE rs o=0:=by
 rw[List.isEmpty_iff];unfold jU jE;rw[WB];constructor
 .intro h o a b;have:=h o (XZ.mpr ⟨a,by rw[b];rfl⟩);rw[Wu,Bool.not_eq_false]at this;rw[bh this];rfl
 .intro h o a;obtain⟨h1,h2⟩:=XZ.mp a;have:=h o h1 (List.isEmpty_iff.mp h2);rw[Wu,Bool.not_eq_false];exact br "a"
def Zn {rs:AE}{S:AD}(d:∀c∈S,c∈zp rs):qi rs S=((jU rs).isEmpty&&Jr rs S):=by
 have z:∀o,clA rs o=[]->Grow.cnt (nearF rs) o S=0:=λo a=>by
  unfold Grow.cnt;rw[VF,WB];intro c b e;have:=(Qj (d c b)).mp e;rw[a]at this;cases this
 rw[W7,VR,za1,zna,J1];constructor
 .intro h;refine⟨λo a b=>?_,λo a _=>h o a⟩;rw[<- h o a,z o b];rfl
 .rintro⟨h1,h2⟩ o a;by_cases b:clA rs o=[]
  .rw[z o b,h1 o a b];rfl
  .exact h2 o a b
def zkh {rs:AE}{c o:AA}(a:c∈jz rs)(b:o∈qc rs):nearF rs o c=false:=by
 unfold jz at a;have h:=(XZ.mp a).2;rw[Wu,Ug,Rz]at h;exact WU.mpr (h o b)
def zbC {rs:AE}{a b:AD}(i:∀c∈b,c∈jz rs):Jr rs (a++b)=Jr rs a:=by
 have e:∀o∈qc rs,Grow.cnt (nearF rs) o (a++b)=Grow.cnt (nearF rs) o a:=λo d=>by
  unfold Grow.cnt;rw[Xp,X5];have:b.filter (nearF rs o)=[]:=WB.mpr λc f g=>by
   rw[zkh (i c f) d]at g;cases g
  rw[this];rfl
 rw[W7,J1,J1];constructor
 .intro h o d f;rw[<- e o d];exact h o d f
 .intro h o d f;rw[e o d];exact h o d f
def QX {rs:AE}{c:AA}(h:c∈jz rs):c∈zp rs:=(XZ.mp h).1
def Ql (rs:AE):(zp rs).Nodup:=qY (Cells.Yt _ 0 (codes rs))
def YG (rs:AE):(jz rs).Nodup:=(Ql rs).sublist WM
section
variable {rs:AE}{gs:List AD}(G:Parts.Good (clA rs) (qc rs) gs)
include G
theorem J2 {c:AA}:c∈jz rs↔c∈zp rs/\c ∉ gs.flatten:=by
 rw[zm9 G];constructor
 .intro h;refine⟨QX h,?_⟩;rintro⟨_,o,b,a⟩;rw[zkh h b]at a;cases a
 .rintro⟨h1,h2⟩;unfold jz;refine XZ.mpr ⟨h1,?_⟩;rw[Wu,Ug,Rz];intro o b a;exact h2 ⟨h1,o,b,a⟩
theorem zb5:(zp rs).Perm (gs.flatten++jz rs):=by
 refine(Wi (Ql rs) (Wl.mpr ⟨G.nd,YG rs,λa f b g e=>?_⟩)).mpr λc=>?_
 .subst e;exact((J2 G).mp g).2 f
 .rw[XU,J2 G];constructor
  .intro h;by_cases d:c∈gs.flatten
   .exact .inl d
   .exact .inr ⟨h,d⟩
  .rintro(h | h)
   .exact jh G c h
   .exact h.1
theorem count_is (s:Nat):(if (jU rs).isEmpty=true then Tally.dl (Tally.tl gs.flatten (Tally.ye (qB rs) gs)) (jz rs).length ((s:Nat):Int) else 0)=((Tally.T (zp rs) (qi rs) s:Nat):Int):=by
 rw[Tally.zf5 (zb5 G) (za2 rs)];have f:∀a∈Subs.subs gs.flatten,∀b∈Subs.subs (jz rs),qi rs (a++b)=((jU rs).isEmpty&&Tally.ye (qB rs) gs a):=λa e b i=>by
  have sa:=(Tally.jr e).subset;have l:=(Tally.jr i).subset;rw[Zn λc j=>(XU.mp j).elim (λh=>jh G c (sa h)) λh=>QX (l h),zbC λc j=>l j,YF G]
 cases i:(jU rs).isEmpty with
 | true =>
  rw[bw rfl];refine Tally.zpF (λa e b d=>?_) s;rw[f a e b d,i,Rs]
 | false =>
  rw[bq "d",Tally.zcR λS g=>?_]
  .rfl
  .rw[Tally.zbu]at g;obtain⟨b,d,g⟩:=Wq.mp g;obtain⟨a,e,rfl⟩:=XY.mp g;rw[f a e b d,i,SV]
theorem znb (c:AA):Tally.Inv λS=>qi rs S&&decide (c∈S):=λa b e=>by
 show (qi rs a&&decide (c∈a))=(qi rs b&&decide (c∈b));rw[za2 rs a b e,show decide (c∈a)=decide (c∈b) from decide_eq_decide.mpr e.mem_iff]
theorem zqY {c:AA}(f:c∈jz rs)(s:Nat):(if (jU rs).isEmpty=true then Tally.dl (Tally.tl gs.flatten (Tally.ye (qB rs) gs)) ((jz rs).length-1) (((s:Nat):Int)-1) else 0)=((Tally.T (zp rs) (λS=>qi rs S&&decide (c∈S)) s:Nat):Int):=by
 rw[Tally.zf5 (zb5 G) (znb G c)];have i:∀a∈Subs.subs gs.flatten,∀b∈Subs.subs (jz rs),(qi rs (a++b)&&decide (c∈a++b))=((jU rs).isEmpty&&(Tally.ye (qB rs) gs a&&decide (c∈b))):=λa g b l=>by
  have sa:=(Tally.jr g).subset;have m:=(Tally.jr l).subset;have e:decide (c∈a++b)=decide (c∈b):=decide_eq_decide.mpr ⟨λh=>(XU.mp h).elim (λh=>absurd (sa h) ((J2 G).mp f).2) id,λh=>Xx _ h⟩;rw[Zn λc f=>(XU.mp f).elim (λh=>jh G c (sa h)) λh=>QX (m h),zbC λc f=>m f,YF G,e,UR]
 cases l:(jU rs).isEmpty with
 | true =>
  rw[bw rfl];refine Tally.zoM f (YG rs) (λa g b d=>?_) s;rw[i a g b d,l,Rs];exact congrArg _ (decide_eq_decide.mpr Iff.rfl)
 | false =>
  rw[bq "d",Tally.zcR λS j=>?_]
  .rfl
  .rw[Tally.zbu]at j;obtain⟨b,d,j⟩:=Wq.mp j;obtain⟨a,g,rfl⟩:=XY.mp j;rw[i a g b d,l,SV]
end
def zgj (A B:List AD)(g:AD):(A++g::B).flatten.Perm ((A++B).flatten++g):=by
 rw[WS,WS,WG,WP];exact(UN (l₁:=g) (l₂:=B.flatten)).append_left _
def zki {rs:AE}{A B:List AD}{g:AD}(G:Parts.Good (clA rs) (qc rs) (A++g::B)){c:AA}(i:c∈g):Pour.Z1 (Tally.tl (A++B).flatten (Tally.ye (qB rs) (A++B))) (Tally.tl g λS=>qB rs g S&&decide (c∈S))=Tally.tl ((A++B).flatten++g) λS=>Tally.ye (qB rs) (A++B) S&&(qB rs g S&&decide (c∈S)):=by
 have j:=zgj A B g;have o:((A++B).flatten++g).Nodup:=j.nodup_iff.mp G.nd;have n:∀x∈(A++B).flatten++g,x∈zp rs:=λx d=>jh G x (j.mem_iff.mpr d);have f:g∈A++g::B:="s"
 have e:∀x∈A++B,x∈A++g::B:=λx d=>by
  rcases XU.mp d with h | h
  .exact Xq _ h
  .exact Xx _ (XQ _ h)
 have L:=ZN G f;have m:Tally.Loc (zp rs) (λS=>qB rs g S&&decide (c∈S)) g:=by
  refine⟨λa b h=>?_,λa b h=>?_⟩
  .show (qB rs g (a++b)&&decide (c∈a++b))=(qB rs g b&&decide (c∈b));rw[L.l a b h,show decide (c∈a++b)=decide (c∈b) from decide_eq_decide.mpr ⟨λk=>(XU.mp k).elim (λk=>absurd i (h c k).2) id,λk=>Xx _ k⟩]
  .show (qB rs g (a++b)&&decide (c∈a++b))=(qB rs g a&&decide (c∈a));rw[L.r a b h,show decide (c∈a++b)=decide (c∈a) from decide_eq_decide.mpr ⟨λk=>(XU.mp k).elim id λk=>absurd i (h c k).2,λk=>Xq _ k⟩]
 exact Tally.zdy o n (λx d=>ZN G (e x d)) m
def zoT {rs:AE}{A B:List AD}{g:AD}(G:Parts.Good (clA rs) (qc rs) (A++g::B)){c:AA}(f:c∈g)(s:Nat) :
  (if (jU rs).isEmpty=true then Tally.dl (Pour.Z1 (Tally.tl (A++B).flatten (Tally.ye (qB rs) (A++B))) (Tally.tl g λS=>qB rs g S&&decide (c∈S))) (jz rs).length ((s:Nat):Int) else 0)=((Tally.T (zp rs) (λS=>qi rs S&&decide (c∈S)) s:Nat):Int):=by
 have p:=zgj A B g;have r:∀x∈(A++B).flatten++g,x∈zp rs:=λx u=>jh G x (p.mem_iff.mpr u);have n:g∈A++g::B:="s"
 rw[zki G f];have hP:(zp rs).Perm ((A++B).flatten++g++jz rs):=(zb5 G).trans (p.append_right _);rw[Tally.zf5 hP (znb G c)];have j:∀a∈Subs.subs ((A++B).flatten++g),∀b∈Subs.subs (jz rs),(qi rs (a++b)&&decide (c∈a++b))=((jU rs).isEmpty&&(Tally.ye (qB rs) (A++B) a&&(qB rs g a&&decide (c∈a)))):=λa i b m=>by
  have sa:=(Tally.jr i).subset;have o:=(Tally.jr m).subset;have e:decide (c∈a++b)=decide (c∈a):=decide_eq_decide.mpr ⟨λh=>(XU.mp h).elim id λh=>absurd (WN.mpr ⟨g,n,f⟩) ((J2 G).mp (o h)).2,λh=>Xq _ h⟩;have q:Tally.ye (qB rs) (A++g::B) a=(Tally.ye (qB rs) (A++B) a&&qB rs g a):=by
   rw[Tally.zdx,Tally.zdx];show (_&&(qB rs g a&&Tally.ye (qB rs) B a))=_;rw[Ss (qB rs g a),UR]
  rw[Zn λc f=>(XU.mp f).elim (λh=>r c (sa h)) λh=>QX (o h),zbC λc f=>o f,<- YF G,q,e,UR,UR]
 cases m:(jU rs).isEmpty with
 | true =>
  rw[bw rfl];refine Tally.zpF (λa i b d=>?_) s;show (qi rs (a++b)&&decide (c∈a++b))=_;rw[j a i b d,m,Rs]
 | false =>
  rw[bq "d",Tally.zcR λS l=>?_]
  .rfl
  .rw[Tally.zbu]at l;obtain⟨b,d,l⟩:=Wq.mp l;obtain⟨a,i,rfl⟩:=XY.mp l;rw[j a i b d,m,SV]
def zqZ (K:X0):Sp:=λf H Q _=>∃(a b:Addr) (c d:List Int),f=[.ref a,.ref b]/\SqL K H a (iL c)/\SqL K H b (iL d)/\1<=c.length/\c.length<=70/\1<=d.length/\d.length<=70/\zlr c/\zlr d /\
 ∀(l:Addr) (e:Hp),H l=none->e l=some (.lst (iL (Pour.Z1 c d)))->zq H e->Q (.ref l) e
def xG (H:Hp):AF->List (List Int)->Prop:=WW λv b=>∃a,v=V.ref a/\H a=some (.lst (iL b))
def xN {H c:Hp}(s:zq H c){d:AF}{b:List (List Int)}(f:xG H d b):xG c d b:=by
 induction f with
 | nil=>exact .nil
 | cons q _ g =>
  obtain⟨a,e,h⟩:=q;exact .cons ⟨a,e,s _ _ h⟩ g
def zap {H:Hp}{b:AF}{a:List (List Int)}(h:xG H b a):b.length=a.length:=Paired.length h
def znc {H:Hp}{c:AF}{b:List (List Int)}{i:Nat}{v:V}(h:xG H c b)(e:c[i]?=some v):∃xs a,b[i]?=some xs/\v=V.ref a/\H a=some (.lst (iL xs)):=by
 obtain⟨S,h1,a,h2⟩:=zaA h e;exact⟨S,a,h1,h2⟩
structure zi7 (xss:List (List Int)):Prop where
 one:∀xs∈xss,1<=xs.length/\xs.length<=70/\zlr xs
 acc:∀i,1<=((xss.take i).foldl Pour.Z1 [1]).length/\((xss.take i).foldl Pour.Z1 [1]).length<=70/\zlr ((xss.take i).foldl Pour.Z1 [1])
def zq0:Sp:=λf H Q _=>∃(c:Addr) (e:AF) (a:List (List Int)),f=[.ref c]/\H c=some (.lst e)/\xG H e a/\zi7 a /\
 ∀(d:Addr) (b:Hp),H d=none->b d=some (.lst (iL (a.foldl Pour.Z1 [1])))->zq H b->Q (.ref d) b
def Small (rs:AE):Prop:=∀a,Parts.Good (clA rs) (qc rs) a->∀g∈a,g.length<=14
def zhH {rs:AE}(h:(zp rs).length<=14):Small rs:=λc G g a=>by
 have:=Parts.zZ (qY (G.srt g a)) λx b=>jh G x (WN.mpr ⟨g,a,b⟩);lia
def tls (rs:AE)(gs:List AD):List (List Int):=gs.map λg=>Tally.tl g (qB rs g)
def znd {rs:AE}(R:Rows bd.cps.toList rs){gs:List AD}(G:Parts.Good (clA rs) (qc rs) gs):zi7 (tls rs gs):=by
 have a:=QW G R;refine⟨λh f=>?_,λi=>?_⟩
 .obtain⟨g,d,rfl⟩:=XY.mp f;have c:g.length<=64:=X7 (Vt (VE d)) a;rw[Tally.yd];exact⟨"a","a",Qk c⟩
 .unfold tls;rw[<- TY,zlq G i];have b:(gs.take i).flatten.length<=64:=by
   have e:gs.flatten=(gs.take i).flatten++(gs.drop i).flatten:=by rw[<- WS,WR]
   rw[e,X5]at a;lia
  rw[Tally.yd];exact⟨"a","a",Qk b⟩
def zq1:Sp:=λe H Q _=>∃(p l:Addr) (a:AE) (n:Int),e=[.ref p]/\qd H p l a n/\Rows bd.cps.toList a/\Small a /\
 ∀(d:Addr) (c:List AD) (b:Hp),H d=none->Parts.Good (clA a) (qc a) c->b d=some (.lst (iL (Tally.tl c.flatten (Tally.ye (qB a) c))))->zq H b->Q (.ref d) b
def J7:zB ["one","other","counts","i","many","j","more"] ["one","other"] (zo zbv):=bz
def zfi (T:Txt mg)(D:zm K mg "poured" zbv ["one","other"] f fd):zT P w K mg base CX0 1 f fd ["one","other"] (zqZ K):=by
 refine D.F.ok J7 "l" (λaf A ae s H vs Q E hr h=>?_)
 .revert h;refine fU λa b xs m z0 U Y x1=>fG λx2 y1 y2 bx bY q=>?_;subst z0;refine⟨_,(@zd _ _ _ _ _ (@qP _ _ 2 _ _ _ _ J7.nd rfl (VI rfl) (@zu _ _ _ _ _ _ _ _ zio (@ql _ _ _ _ (@za _ _ _ _ _ zj ze rfl)) (zu yC (zu zQ (pb1 zE T.ju W0 (pvS 0)) (pb1 zE T.ju W0 (pvS 1))) zj)) "r" (.inr rfl)) (zd (qu Xb rfl (Ye "r" T.yf (za (pvS 0) ze)) (j5 rfl (zH (pgq 3 J7.nd) (zH (pgq 4 J7.nd) qS))) (zf (qu Xb rfl (Ye "r" T.yf (za (pvS 1) ze)) (j5 rfl (zH (pgq 5 J7.nd) (zH (pgq 6 J7.nd) qS))) (zf (zjD (pvS 2) (zu zQ (pvS 3) (pvS 5)) zgU (zu jo (pvS 4) (pvS 6)) zlK set_list))))) (zf (zx (pvS 2))))),?_⟩;ac_nf;refine⟨sz_1,λl0 aa=>?_⟩;have s0:zq H (upd H l0 (.lst [.int 0])):=zc aa;refine⟨_,rfl,a,_,rfl,.inl (s0.seq U),_,rfl,b,_,rfl,.inl (s0.seq Y),_,_,rfl,rfl,_,_,rfl,rfl,l0,_,_,rfl,rfl,zb,?_,?_,?_,λp hp=>?_⟩
  .rw[ZB,ZB];lia
  .rw[ZB,ZB];lia
  .rw[ZB,ZB];exact X7 (show 1*((xs.length:Int)+(m.length:Int)-1).toNat<=140 by lia) "d"
  have en:(((iL xs).length:Nat)+((iL m).length:Nat)-1:Int).toNat=xs.length+m.length-1:=by
   rw[ZB,ZB];lia
  rw[en,zhE,<- Pour.zmL];have s1:zq H (upd (upd H l0 (.lst [.int 0])) p (.lst (iL (Pour.st xs m 0 0)))):=s0.trans (zc hp);have I:H p=none:=s0.free hp;refine⟨_,rfl,a,rfl,⟨_,s1.seq U⟩,?_⟩;refine Yg (K:=K) (l:=a) (xs:=iL xs) (λi n r=>∃v3 v4 u B,n=[some (.ref a),some (.ref b),some (.ref p),v3,v4,u,B]/\zq H r/\r p=some (.lst (iL (Pour.st xs m i 0))))
   (eK _ _ (dM _ _ rfl s1 zb)) (λi n r _ ⟨_,_,_,_,_,s,_⟩=>s.seq U) ?_ ?_
  .refine λi v t n M hv ht=>fB λv3 v4 u B=>fL λz0 N d=>?_;subst z0;refine fq (λx hx z0=>?_) (ints_get hv);subst z0;have st:zq M (upd M t (.tup [.int (i:Nat),.int x])):=zc ht;refine dJ t _ rfl (SqT.of zb) rfl _ _ rfl _ _ rfl rfl ?_;refine⟨_,rfl,b,rfl,⟨_,(N.trans st).seq Y⟩,?_⟩;refine Yg (K:=K) (l:=b) (xs:=iL m) (λj n r=>∃u B,n=[some (.ref a),some (.ref b),some (.ref p),some (.int (i:Nat)),some (.int x),u,B]/\zq H r/\r p=some (.lst (iL (Pour.st xs m i j))))
    (dM _ _ rfl (N.trans st) (st _ _ d)) (λj n r _ ⟨_,_,_,s,_⟩=>s.seq Y) ?_ ?_
   .refine λj v t2 n O ac ab=>fy λu B z0 s3 g=>?_;subst z0;refine fq (λy hy z0=>?_) (ints_get ac);subst z0;have L:zq O (upd O t2 (.tup [.int (j:Nat),.int y])):=zc ab;have J:=L _ _ g;have hi:i<xs.length:=(X2.mp hx).1;have hj:j<m.length:=(X2.mp hy).1;have G:((i:Int)+(j:Int)).toNat=i+j:="a"
    refine dJ t2 _ rfl (SqT.of zb) rfl _ _ rfl _ _ rfl rfl ?_;refine⟨_,rfl,_,rfl,_,rfl,_,_,rfl,rfl,p,_,_,_,rfl,rfl,SqL.of J,jJ "a" (by rw[G];exact zkf (Pour.ziS "a")),?_⟩;refine⟨_,rfl,_,rfl,_,_,rfl,rfl,zn6 (bx _ (X4 hx)) (bY _ (X4 hy)),_,_,rfl,rfl,p,_,_,_,rfl,rfl,J,zdJ "a" (by rw[ZB,Pour.ziR];lia),?_⟩;refine dM _ _ rfl (λc o e=>?_) ?_
    .have hc:c≠p:=λz=>by
      subst z;rw[I]at e;cases e
     rw[zg hc];exact L _ _ (s3 _ _ e)
    .rw[zb,G,<- Pour.zoH hx hy];show some (HO.lst ((UF V.int _).set _ (V.int _)))=_;rw[<- Oh]
   .refine λn O=>fy λu B z0 s3 g=>?_;subst z0;rw[ZB,Pour.zqN]at g;exact eK _ _ (dM _ _ rfl s3 g)
  .refine λn M=>fB λv3 v4 u B=>fL λz0 N d=>?_;subst z0;rw[ZB,Pour.zqO]at d;exact⟨_,rfl,q p M I d N⟩
def Je:zB ["lists","counts","others"] ["lists"] (zo JU):=bz
def Z7 (T:Txt mg)(Z:Prog K mg)(D:zm K mg "all_poured" JU ["lists"] f fd):zT P w K mg base CX0 2 f fd ["lists"] zq0:=by
 obtain⟨ab,aa,B⟩:=Z.poured;refine D.F.ok Je "l" (λN A u s H vs Q E U h=>?_)
 .revert h;refine fC λm L l z0 g J ok q=>?_;subst z0;refine⟨_,(@zd _ _ _ _ _ (@qP _ _ 1 _ _ _ _ Je.nd rfl (VI rfl) (@ql _ _ _ _ (@za _ _ _ _ _ zj ze rfl)) "r" (.inr rfl)) (zd (qu Xb rfl (zN (pvS 0)) (pgq 2 Je.nd) (zf (qf 1 Je.nd (pc0 (zfi T B) U B (za (pvS 1) (za (pvS 2) ze)))))) (zf (zx (pvS 1))))),?_⟩;ac_nf;refine⟨sz_1,λG e=>?_⟩;have s0:zq H (upd H G (.lst [.int 1])):=zc e;refine⟨_,rfl,m,rfl,⟨_,SqL.of (s0 _ _ g)⟩,?_⟩;refine Ji (K:=K) (a:=m) (xs:=L) (λi n o=>∃(c:Addr) (x:Option V),n=[some (.ref m),some (.ref c),x]/\zq H o/\H c=none/\o c=some (.lst (iL ((l.take i).foldl Pour.Z1 [1]))))
   (dB G _ rfl s0 e zb) (λi n o _ ⟨_,_,_,y,_⟩=>SqL.of (y _ _ g)) ?_ ?_
  .refine λi v n z Y=>fm λc x z0 s1 I b=>?_;subst z0;refine fy (λxs M j z0 p=>?_) (znc J Y);subst z0;obtain⟨o1,o2,o3⟩:=ok.one xs (X4 j);obtain⟨p1,p2,p3⟩:=ok.acc i;refine⟨_,rfl,_,rfl,c,M,_,xs,rfl,SqL.of b,SqL.of (s1 _ _ p),p1,p2,o1,o2,p3,o3,λd H2 O r s2=>?_⟩;refine dB d _ rfl (s1.trans s2) (s1.free O) ?_;rw[r,XB,j,Vw];rfl
  .refine λn z=>fm λc x z0 s1 I b=>?_;subst z0;rw[zap J,XH]at b;exact⟨_,rfl,q c z I b s1⟩
def zdO:zB ["board"] ["board"] (zo x8):=bz
def zdP (T:Txt mg)(Z:Prog K mg)(D:zm K mg "near_counts" x8 ["board"] f fd):zT P w K mg base CX0 6 f fd ["board"] zq1:=by
 obtain⟨ak,ai,zV⟩:=Z.around;obtain⟨J6,xK,zv⟩:=Z.sign_at;obtain⟨xM,yN,zA⟩:=Z.cells_of;obtain⟨JZ,Jd,zF⟩:=Z.open_cells;obtain⟨ZM,J0,qM⟩:=Z.number_at;obtain⟨Qh,Z6,xr⟩:=Z.numbers_of;obtain⟨ag,QV,Zl⟩:=Z.needs_at;obtain⟨aj,ah,YE⟩:=Z.may_fit;obtain⟨Zm,Jy,qz⟩:=Z.part_layings;obtain⟨an,al,jY⟩:=Z.counted;obtain⟨av,aw,U⟩:=Z.part_counts;obtain⟨Jz,xO,zO⟩:=Z.closed_around;obtain⟨aq,ao,Jp⟩:=Z.joined;obtain⟨au,ar,ZO⟩:=Z.parts;obtain⟨ap,am,jO⟩:=Z.all_poured;refine D.F.ok zdO "l" (λae A ac s H vs Q E hr h=>?_)
 .revert h;refine fU λp l r n z0 b R sm q=>?_;subst z0;refine⟨_,(zf (zx (pc0 (Z7 T Z jO) hr jO (za (pcm ["part","board"] [none,some 0] cR (zN (pc0 (zdE T ZO zV zv zA zF zO Jp) hr ZO (za (pvS 0) ze))) (pgN 0) qx (pc0 (zdM T Z U) hr U (za (pvS 1) (za (pvS 0) ze)))) ze)))),?_⟩;ac_nf;refine⟨_,rfl,p,l,r,n,rfl,b,R,λd ws m H1 hd J hG G s1=>(dD d rfl ⟨_,SqL.of J⟩ (λz hz=>?_))⟩;have af:m.length<=64:=X7 (Parts.Zg G.ne) (QW G R);refine zY (K:=K) (a:=d) (xs:=ws) (λj x Y=>∃(u0:Option V) (B:AF),x=[u0,some (.ref p)]/\zq H1 Y/\Y z=some (.lst B)/\(∀v∈B,∀a,v=V.ref a->a≠z)/\xG Y B (tls r (m.take j)))
   (dH _ [] rfl (zc hz) zb (λ_ h=>nomatch h) (.nil)) (λj x Y _ ⟨_,_,_,y,_⟩=>SqL.of (y _ _ J)) ?_ ?_
  .refine λj v x H2 hv=>fF λu0 B z0 N u L i=>?_;subst z0;refine gf (λg hg ga ug z0 ab aa=>?_) (xq.get (hG.mono N) hv);subst z0;have gm:=X4 hg;have il:=(X2.mp hg).1;unfold yv;refine Z5 ?_;refine⟨_,rfl,_,rfl,p,l,ga,r,n,ug,g,rfl,(b.mono s1).mono N,R,ab,aa,qY (G.srt g gm),sm m G g gm,λe H3 he c O=>?_⟩;rw[zfh]at c;have ez:e≠z:=λy=>by
    subst y;rw[u]at he;cases he
   refine eW _ (O _ _ u) ?_ _ (B++[.ref e]) rfl (λb o e'=>?_) zb (λv hv a ea=>?_) ?_
   .rw[zap i];unfold tls;rw[ZB,XC];exact XI (show _<=64 by lia) "d"
   .rw[zg (zh e' hz)];exact O _ _ (N _ _ e')
   .rcases XU.mp hv with hv | hv
    .exact L v hv a ea
    .have:v=V.ref e:=by simpa using hv
     rw[this]at ea;cases ea;exact ez
   .have t1:tls r (m.take (j+1))=tls r (m.take j)++[Tally.tl g (qB r g)]:=by
     unfold tls;rw[XB,hg,XS];rfl
    rw[t1];have into:∀{us:AF} {I:List (List Int)},xG H3 us I->(∀v∈us,∀a,v=V.ref a->a≠z)->xG (upd H3 z (.lst (B++[.ref e]))) us I:=by
     intro us I h;induction h with
     | nil=>exact λ_=>.nil
     | cons h t ih =>
      intro L;obtain⟨a,rfl,ha⟩:=h;exact .cons ⟨a,rfl,by rw[zg (L _ XT a rfl)];exact ha⟩ (ih λv hv=>L v (XQ _ hv))
    exact Paired.snoc (into (xN O i) L) ⟨e,rfl,by rw[zg ez];exact c⟩
  refine λx H2=>fF λu0 B z0 N u _ i=>?_;subst z0;rw[hG.length,XH]at i;refine dI z B (tls r m) rfl u i (znd R G) (λe H3 he c O=>?_);have M:=s1.trans N;rw[show (tls r m).foldl Pour.Z1 [1]=Tally.tl m.flatten (Tally.ye (qB r) m) from zhG G]at c;exact q e m H3 (M.free he) G c (M.trans O)
def chV (n k:Int):Int:=if 0<=k/\k<=n then ((Choose.ch n.toNat k.toNat:Nat):Int) else 0
def zoU (m:Nat)(k:Int):chV (m:Nat) k=Tally.chZ m k:=by
 unfold chV Tally.chZ;rw[WC];by_cases h0:k<0
 .rw[bq "a",bw h0]
 .rw[bq h0];by_cases h1:k<=(m:Int)
  .rw[bw ⟨"a",h1⟩]
  .rw[bq "a",Choose.zbY m k.toNat "a"];rfl
def zoV {n k:Int}(h:n<=64):(chV n k).natAbs<2^8000:=by
 have h1:(2:Nat)^64<2^8000:=OX "d" "d";have a:(0:Nat)<2^8000:=XI (W2 _) h1;unfold chV;split
 .rw[Uc];exact XI (X7 (Choose.zsi _ _) (VU "d" (show n.toNat<=64 by lia))) h1
 .exact a
def dlV (xs:List Int)(m st:Int):Int:=Pour.S (λk=>Pour.F xs k*chV m (st-(k:Nat))) xs.length
def zgl (xs:List Int)(m:Nat)(st:Int):dlV xs (m:Nat) st=Tally.dl xs m st:=by
 unfold dlV Tally.dl;exact Pour.JQ _ λi _=>by rw[zoU]
theorem zpI (h:Nat->Int):∀n,((Xk n).map h).sum=Pour.S h n
 | 0=>rfl
 | n+1=>by
  rw[U5,XS,List.sum_append,zpI h n];show _+(h n+0)=Pour.S h n+h n;lia
def ztg:Sp:=λa H Q _=>∃(n k:Int),a=[.int n,.int k]/\n<=64/\Q (.int (chV n k)) H
def zoW:Sp:=λd H Q _=>∃(c:Addr) (a:List Int) (m st:Int),d=[.ref c,.int m,.int st]/\H c=some (.lst (iL a))/\zlr a/\a.length<=150/\m<=64/\∀b,zq H b->Q (.int (dlV a m st)) b
def qg (rs:AE)(n:Int):Int:=((Tally.T (zp rs) (qi rs) n.toNat:Nat):Int)
def zgm:Sp:=λc H Q _=>∃(p l:Addr) (a:AE) (n:Int),c=[.ref p]/\qd H p l a n/\Rows bd.cps.toList a/\Small a/\0<=n/\∀b,zq H b->Q (.int (qg a n)) b
def Qm:zB ["n","k","found","step"] ["n","k"] (zo zaj):=bz
def zi8 (T:Txt mg)(D:zm K mg "choices" zaj ["n","k"] f fd):zT P w K mg base CX0 1 f fd ["n","k"] ztg:=by
 refine D.F.ok Qm "l" (λj A d s H o Q E r h=>?_)
 .revert h;refine fy λn k z0 u q=>?_;subst z0;refine⟨_,(zd (qo (ZX (zgM zf1 zf1 zj (pvS 1) (pvS 0))) (@zf _ _ _ (@zx _ _ _ _ zj)) zR) (@zd _ _ _ _ _ (@qP _ _ 2 _ _ _ _ Qm.nd rfl (VI rfl) zj "r" (.inr rfl)) (zd (qu Xb rfl (prg T.jg (pvS 1)) (pgq 3 Qm.nd) (zf (qf 2 Qm.nd (zu qX (zu jo (pvS 2) (zu yC (pvS 0) (pvS 3))) (zu zQ (pvS 3) zj))))) (zf (zx (pvS 2)))))),?_⟩;ac_nf;refine⟨_,rfl,_,_,rfl,rfl,_,rfl,?_⟩;unfold chV at q;refine zfK (λc=>?_) (λc=>?_)
  .have b:(0:Int)<=k:=bh c;refine⟨_,rfl,_,_,rfl,rfl,_,rfl,?_⟩;by_cases c:k<=n
   .rw[bw ⟨b,c⟩]at q;rw[br c];refine YW ?_;refine⟨_,rfl,k,rfl,"a","a",?_⟩;refine qF (lo:=0) (n:=k.toNat) (λi g a=>∃v,g=[some (.int n),some (.int k),some (.int (Choose.ch n.toNat i)),v]/\a=H) ⟨_,by rw[Choose.zah];rfl,rfl⟩ ?_ ?_
    .rintro i g a p ⟨v,rfl,rfl⟩;refine⟨_,rfl,_,rfl,_,rfl,_,_,rfl,rfl,_,_,rfl,rfl,zef "a" "a",_,rfl,_,_,rfl,rfl,_,_,rfl,rfl,yV.small "a" "a",?_⟩;refine⟨some (.int (0+(i:Int))),?_,rfl⟩;have e:=Choose.zoI (n:=n.toNat) (k:=i) "a";have l:((n.toNat:Nat):Int)=n:=Vr "a";rw[l]at e;have m:(Choose.ch n.toNat i:Int)*(n-(0+(i:Int)))/(0+(i:Int)+1)=Choose.ch n.toNat (i+1):=by
      rw[SX];exact e
     show [_,_,some (V.int ((Choose.ch n.toNat i:Int)*(n-(0+(i:Int)))/(0+(i:Int)+1))),_]=_;rw[m]
    .rintro g a ⟨v,rfl,rfl⟩;exact⟨_,rfl,q⟩
   .rw[bq (λh=>c h.2)]at q;rw[bg c];exact zbj q
  .have b:¬ (0:Int)<=k:=λz=>c (br z);rw[bq (λh=>b h.1)]at q;exact⟨_,rfl,zbj q⟩
def zng:zB ["counts","cells","stones"] ["counts","cells","stones"] (zo zcU):=bz
def zdQ (T:Txt mg)(Z:Prog K mg)(D:zm K mg "dealt" zcU ["counts","cells","stones"] f fd):zT P w K mg base CX0 2 f fd ["counts","cells","stones"] zoW:=by
 obtain⟨ab,aa,e⟩:=Z.choices;refine D.F.ok zng "l" (λN A r s H vs Q E O h=>?_)
 .revert h;refine fX λc xs m st z0 v M xl G q=>?_;subst z0;refine⟨_,(zf (zx (pb1 (zlZ rfl) T.zsk PyProof.Rows.boot_sum (pcm ["k","many","cells","stones"] [none,none,some 1,some 2] cR (Ye "r" T.yf (za (pvS 0) ze)) (zfL (n:=2) (K:=K) "r" rfl (zH (pgN 0) (zH (pgN 1) qS))) qx (zu jo (pvS 1) (pc0 (zi8 T e) O e (za (pvS 2) (za (zu yC (pvS 3) (pvS 0)) ze)))))))),?_⟩;ac_nf;refine⟨_,rfl,c,rfl,⟨_,SqL.of v⟩,λz B=>?_⟩;refine ziu (K:=K) (a:=c) (xs:=iL xs) (λi g j=>(∃J u1,g=[J,u1,some (.int m),some (.int st)])/\zq H j/\j z=some (.lst (iL ((Xk i).map λk=>Pour.F xs k*chV m (st-(k:Nat)))))) ⟨⟨_,_,rfl⟩,zc B,zb⟩ (λi g j _ ⟨_,d,_⟩=>SqL.of (d _ _ v)) ?_ ?_
  .rintro i x Y g L U l ⟨⟨J,u1,rfl⟩,d,b⟩;refine fq (λy p z0=>?_) (ints_get U);subst z0;have il:=(X2.mp p).1;have I:=zc (o:=.tup [.int ((i:Nat):Int),.int y]) l;refine dJ Y _ rfl (SqT.of zb) rfl _ _ rfl _ _ rfl rfl ?_;unfold zn9;refine zbj ⟨_,rfl,_,rfl,_,rfl,_,rfl,_,_,rfl,rfl,m,_,rfl,G,_,_,rfl,rfl,zn6 (M y (X4 p)) (zoV G),_,I _ _ b,?_,⟨_,_,rfl⟩,λb' o u=>?_,?_⟩
   .rw[ZB,ZB,WZ];exact XD (show i<150 by lia) "d"
   .rw[zg (zh u B)];exact I _ _ (d _ _ u)
   .rw[zb,U5,XS];show _=some (HO.lst (iL (_++[Pour.F xs i*chV m (st-(i:Nat))])));rw[zoQ,Pour.zoF p]
  .rintro g L ⟨_,d,b⟩;refine⟨z,_,rfl,SqL.of b,?_⟩;rw[ZB,zpI];exact q _ d
def zhK:zB ["board","near"] ["board"] (zo zcT):=bz
def zdR (T:Txt mg)(Z:Prog K mg)(D:zm K mg "count" zcT ["board"] f fd):zT P w K mg base CX0 7 f fd ["board"] zgm:=by
 obtain⟨ah,af,zV⟩:=Z.around;obtain⟨J6,xK,zv⟩:=Z.sign_at;obtain⟨xM,yN,zA⟩:=Z.cells_of;obtain⟨ai,ag,qE⟩:=Z.closed;obtain⟨JZ,Jd,zF⟩:=Z.open_cells;obtain⟨ZM,J0,qM⟩:=Z.number_at;obtain⟨Jz,xO,zO⟩:=Z.closed_around;obtain⟨aq,am,j⟩:=Z.far;obtain⟨ak,aj,Y⟩:=Z.bare_wrong;obtain⟨al,an,i⟩:=Z.near_counts;obtain⟨ap,ao,L⟩:=Z.dealt;refine D.F.ok zhK "l" (λaa A y s H vs Q E g h=>?_)
 .revert h;refine fX λp l a n z0 b R sm n0 q=>?_;subst z0;refine⟨_,(zd (qf 1 zhK.nd (pc0 (zdP T Z i) g i (za (pvS 0) ze))) (zd (qo (zw (j7 g.units) (pc0 (zaG T Y zV zv zA zO zF qM) g Y (za (pvS 0) ze)) (@ql _ _ _ _ ze) (zG _)) (@zf _ _ _ (@zx _ _ _ _ zj)) zR) (zf (zx (pc0 (zdQ T Z L) g L (za (pvS 1) (za (pb1 zE T.ju W0 (pc0 (ziZ T j zV zv zA qE zF) g j (za (pvS 0) ze))) (za (zW qh (pvS 0) zj (λ_ _=>rfl)) ze)))))))),?_⟩;ac_nf;refine⟨_,rfl,p,l,a,n,rfl,b,R,sm,λd1 gs H1 ac G I s1=>?_⟩;refine⟨_,rfl,p,l,a,n,rfl,b.mono s1,R,λd2 w2 H2 ae J u U=>⟨Qu,λe he=>?_⟩⟩;have m:=zc (o:=.lst []) he;have O:=count_is G n.toNat;rw[Vr n0]at O;unfold qg at q;rw[<- O]at q;refine dB (.list ((jU a).map zk)) (.list []) (.lst (SqL.of (m _ _ J)) (zD.rdv (N:=λ_=>True) (Cel.rdn (Cel.mono m u)))) (.lst (SqL.of zb) .nil) (zgb _ []) ⟨_,rfl,?_⟩;have ee:(if true=true then !PyData.eqv (.list ((jU a).map zk)) (.list []) else Xg (.list ((jU a).map zk)) (.list []))=!(jU a).isEmpty:=by
   show (!PyData.eqv _ _)=_;rw[eq_nil]
  rw[ee];have c:=(s1.trans U).trans m;have d:=m _ _ (U _ _ I);generalize upd H2 e (.lst [])=H3 at *
  cases hb:(jU a).isEmpty with
  | false =>
   rw[hb,bq XM]at q;exact zbj (q _ c)
  | true =>
   rw[hb,bw rfl]at q;refine YW ?_;have M:=b.mono c;refine⟨_,rfl,_,rfl,p,l,a,n,rfl,M,R,λd4 B H4 _ x v z=>⟨d4,_,rfl,.inl (SqL.of x),?_⟩⟩;have hl:=v.length;have ab:(jz a).length<=64:=X7 (Xw _ _) (qG (p:=qI) R);have r:=QW G R;refine⟨_,rfl,p,_,1,_,rfl,rfl,SqT.of (M.mono z).tp,rfl,d1,_,(B.length:Nat),n,rfl,z _ _ d,Qk r,by rw[Tally.yd];lia,"a",λH' s'=>?_⟩;rw[hl,zgl];exact q _ ((c.trans z).trans s')
def zes:zB ["found","greatest","cell"] ["found","greatest","cell"] (zo JT):=bz
def zet {f1:Addr}{M:Xz}(T:Txt mg)(D:zm K mg "counted_at" JT ["found","greatest","cell"] f fd)(jY:zm K mg "counted" Yx ["found","greatest"] f1 M):zT P w K mg base CX0 2 f fd ["found","greatest","cell"] zoR:=by
 refine D.F.ok zes "l" (λac A ab s H vs Q E hr h=>?_)
 .revert h;refine fV λL ca us x N g c z0 r hL hk=>fO λO kl U q=>?_;subst z0;refine⟨_,(zf (zx (pc0 (za0 T jY) hr jY (za (pcm ["laying","cell"] [none,some 2] cR (zN (pvS 0)) (pgN 0) (qp (zw (jH (K:=K) "r" hr.units) (pvS 1) (pvS 0) "r")) (pvS 0)) (za (pvS 1) ze))))),?_⟩;ac_nf;refine⟨_,rfl,L,rfl,⟨_,SqL.of r⟩,λz hz=>?_⟩;refine zY (K:=K) (a:=L) (xs:=us) (λj n B=>∃(u0:Option V) (m:AF),n=[u0,some (.ref ca)]/\zq H B/\B z=some (.lst m)/\qR (λa=>a≠z) B m ((x.take j).filter (zcy c)))
   (dB _ [] rfl (zc hz) zb (.nil)) (λj n B _ ⟨_,_,_,y,_⟩=>SqL.of (y _ _ r)) ?_ ?_
  .refine λj v n H1 hv=>fm λu0 m z0 s1 l i=>?_;subst z0;refine fC (λk J wa u z0 _ p t1=>?_) (Zk hL hv);subst z0;have jl:j<x.length:=(X2.mp u).1;have G:(x.take (j+1)).filter (zcy c)=(x.take j).filter (zcy c)++if zcy c k=true then [k] else []:=by
    rw[XB,u,Xp];congr 1;show Ul _ [k]=_;rw[W3];split<;>rfl
   refine⟨_,rfl,_,rfl,zk c,k.map pD,.tup (SqT.of (s1 _ _ U)) (.cons (.int _) (.cons (.int _) .nil)),.lst (SqL.of (s1 _ _ p)) (zhy (qZ s1 t1)),rfl,zi2 _,(by show 1<=60;decide),_,rfl,?_⟩;have ei:(if false=true then !(k.map pD).any (λz=>Xg z (zk c)) else (k.map pD).any λz=>Xg z (zk c))=zcy c k:=zm4 k c;rw[ei];by_cases I:zcy c k=true
   .rw[bw I]at G;refine jQ I ?_;have yl:m.length<=16384:=by
     rw[ja i];refine X7 (Xw _ _) ?_;rw[XC];lia
    refine⟨_,rfl,m,l,XI yl "d",_,m++[.ref J],rfl,λb o e=>?_,zb,?_⟩
    .rw[zg (zh e hz)];exact s1 _ _ e
    .rw[G];have nz:J≠z:=zh p hz;exact yM (jf l (λ_ h=>h) i) (.cons (dB J wa rfl nz (by rw[zg nz];exact s1 _ _ p) (yL l (qZ s1 t1))) .nil)
   .rw[bq I,Xc]at G;refine qw (WU.mpr I) ?_;exact dB _ m rfl s1 l (by rw[G];exact i)
  refine λn H1=>fm λu0 m z0 s1 l i=>?_;subst z0;rw[ja hL,XH]at i;refine⟨_,rfl,z,m,_,_,g,rfl,l,i,λk aa=>hk k (XZ.mp aa).1,O,λd H2 hd Y s2=>?_⟩;exact q d H2 (s1.free hd) Y (s1.trans s2)
def j3 (c:AA):List Key:=[.inl ((c.1:Nat):Int),.inl ((c.2:Nat):Int)]
def zhL {c d:AA}(h:j3 c=j3 d):c=d:=by
 unfold j3 at h;obtain⟨a,b⟩:=c;obtain⟨x,y⟩:=d;simp only[List.cons.injEq,Sum.inl.injEq,and_true]at h;obtain⟨h1,h2⟩:=h;have e:a=x:="a"
 have f:b=y:="a"
 rw[e,f]
def zM (rs:AE)(n:Int)(c:AA):Int:=((Tally.T (zp rs) (λS=>qi rs S&&decide (c∈S)) n.toNat:Nat):Int)
def zi9 {rs:AE}{n:Int}{c:AA}(h:(jU rs).isEmpty=false):zM rs n c=0:=by
 unfold zM;rw[Tally.zcR λS a=>?_]
 .rfl
 .rw[Zn λc b=>(Tally.jr a).subset b,h];rfl
def zoY (c:AA)(q:AD):zcy c (toL q)=decide (c∈q):=by
 unfold zcy toL;rw[Ug,W7,Ww,bu];constructor
 .rintro⟨x,hx,h⟩;have f:toI x=toI c:=bh h;have:x=c:=by
   unfold toI at f;obtain⟨a,b⟩:=x;obtain⟨d,e⟩:=c;simp only[OB]at f;have g:a=d:="a"
   have i:b=e:="a"
   rw[g,i]
  rw[<- this];exact hx
 .intro h;exact⟨c,h,br rfl⟩
def zgo (rs:AE)(g:AD)(c:AA):Cnt.Jv g.length ((Qi rs g).filter (zcy c))=Tally.tl g λS=>qB rs g S&&decide (c∈S):=by
 unfold Qi;rw[UI,Tally.zhr g.length toL (λk=>ZB _),RO];have e:(λa=>(zcy c∘toL) a&&Grow.fits (nearF rs) (jE rs) (JY rs g) g a)=λS=>qB rs g S&&decide (c∈S):=by
  funext S;show (zcy c (toL S)&&qB rs g S)=_;rw[zoY,Ss]
 rw[e];exact Tally.zj9 g _
def QZ {A B:List AD}(h:A.Sublist B):A.flatten.Sublist B.flatten:=by
 induction h with
 | slnil=>exact List.Sublist.refl _
 | cons a _ b=>rw[WG];exact List.Sublist.trans b (RC _ _)
 | cons_cons a _ b=>rw[WG,WG];exact List.Sublist.append (List.Sublist.refl _) b
def zkk {rs:AE}{gs A:List AD}(G:Parts.Good (clA rs) (qc rs) gs)(h:A.Sublist gs):(tls rs A).foldl Pour.Z1 [1]=Tally.tl A.flatten (Tally.ye (qB rs) A) :=
 Tally.ziV (G.nd.sublist (QZ h)) (λc a=>jh G c ((QZ h).subset a)) λg b=>ZN G (h.subset b)
def zq3 {rs:AE}(R:Rows bd.cps.toList rs){gs A:List AD}(G:Parts.Good (clA rs) (qc rs) gs)(h:A.Sublist gs):zi7 (tls rs A):=by
 have a:=QW G R;refine⟨λj f=>?_,λi=>?_⟩
 .obtain⟨g,d,rfl⟩:=XY.mp f;have c:g.length<=64:=X7 (Vt (VE (h.subset d))) a;rw[Tally.yd];exact⟨"a","a",Qk c⟩
 .have h2:=(TV i A).trans h;have e:(tls rs A).take i=tls rs (A.take i):=by
   unfold tls;rw[TY]
  have b:(A.take i).flatten.length<=64:=X7 (QZ h2).length_le a;rw[e,zkk G h2,Tally.yd];exact⟨"a","a",Qk b⟩
def znl (rs:AE)(z:Addr)(H:Hp)(v:V)(g:AD):Prop:=∃a d c,v=V.ref a/\a≠z/\H a=some (.lst d)/\qR (λb=>b≠z) H d c/\c.Perm (Qi rs g)
def zb6 (rs:AE)(z:Addr)(H:Hp):AF->List AD->Prop:=WW (znl rs z H)
def ZP {rs:AE}{z:Addr}{H b:Hp}(s:zq H b){c:AF}{gs:List AD}(d:zb6 rs z H c gs):zb6 rs z b c gs:=by
 induction d with
 | nil=>exact .nil
 | cons q _ f =>
  revert q;refine fC λa i g e n h l p=>?_;exact .cons (dI a i g e n (s _ _ h) (qa s l) p) f
def zhM {rs:AE}{z:Addr}{H:Hp}{xs ys:AF}(d:H z=some (.lst xs)){b:AF}{gs:List AD}(c:zb6 rs z H b gs):zb6 rs z (upd H z (.lst ys)) b gs:=by
 induction c with
 | nil=>exact .nil
 | cons q _ f =>
  revert q;refine fC λa i g e n h l p=>?_;exact .cons (dI a i g e n (by rw[zg n];exact h) (jf d (λ_ h=>h) l) p) f
def zfl {rs:AE}{z:Addr}{H:Hp}{a:AF}{gs:List AD}{i:Nat}{v:V}(h:zb6 rs z H a gs)(e:a[i]?=some v):∃g,gs[i]?=some g/\znl rs z H v g:=zaA h e
def zja {H:Hp}{z:Addr}{o:HO}{b:AF}{ks:List (List Int)}(c:xG H b ks)(n:∀v∈b,v≠V.ref z):xG (upd H z o) b ks:=by
 induction c with
 | nil=>exact .nil
 | cons q _ f =>
  obtain⟨a,e,h⟩:=q;exact .cons ⟨a,e,by rw[zg λy=>n _ XT (by rw[e,y])];exact h⟩ (f λv d=>n v (XQ _ d))
theorem zdS {H:Hp}:∀{b:AF} {a:List (List Int)} (i:Nat),xG H b a->xG H (b.take i) (a.take i)
 | _,_,0,_=>.nil
 | _,_,_+1,.nil=>.nil
 | _,_,i+1,.cons h t=>.cons h (zdS i t)
theorem zdT {H:Hp}:∀{b:AF} {a:List (List Int)} (i:Nat),xG H b a->xG H (b.drop i) (a.drop i)
 | _,_,0,h=>h
 | _,_,_+1,.nil=>.nil
 | _,_,i+1,.cons _ t=>zdT i t
def zlt {H:Hp}{d:AF}{c:List (List Int)}{b:AF}{a:List (List Int)}(h:xG H d c)(k:xG H b a):xG H (d++b) (c++a):=YZ h k
def zkl (a:List (List Key×V))(k:List Key)(v:V):(putK a k v).length<=a.length+1:=by
 unfold putK;split
 .rw[ZB];exact VW _
 .rw[X5];exact XW _
def znm (l:List (List Key×V)):(Qs l).length<=l.length:=by
 have:∀(l a:List (List Key×V)),(l.foldl (λa b=>putK a b.1 b.2) a).length<=a.length+l.length:=λl=>by
  induction l with
  | nil=>exact λa=>XW _
  | cons x r c =>
   intro a;rw[Wp,XA];have h1:=c (putK a x.1 x.2);have h2:=zkl a x.1 x.2;lia
 have:=this l [];rw[UJ,V1]at this;exact this
def zq4 (xs:AF){i:Nat}(h:i<=xs.length):zaw xs none (some ((i:Nat):Int))=xs.take i:=by
 unfold zaw;rw[HT.zbg,Vn h];show (xs.drop 0).take (i-0)=_;rw[List.drop_zero,Nat.sub_zero]
def znn:Sp:=λf H Q _=>∃(p l:Addr) (b:AE) (n:Int),f=[.ref p]/\qd H p l b n/\Rows bd.cps.toList b/\Small b/\0<=n /\
 ∀(d:Addr) (a:List (List Key×V)) (e:Hp),H d=none->e d=some (.dT a)->(∀c∈zp b,j4 a (j3 c)=some (V.int (zM b n c)))->zq H e->Q (.ref d) e
def zP:zB ["board","pieces","found","counts","rest","at_far","told","place","part","others","cell","near"] ["board"] (zo yp):=bz
def ZQ (T:Txt mg)(Z:Prog K mg)(D:zm K mg "counts_by_cell" yp ["board"] f fd):zT P w K mg base CX0 7 f fd ["board"] znn:=by
 obtain⟨dc,cZ,zV⟩:=Z.around;obtain⟨J6,xK,zv⟩:=Z.sign_at;obtain⟨xM,yN,zA⟩:=Z.cells_of;obtain⟨de,da,qE⟩:=Z.closed;obtain⟨JZ,Jd,zF⟩:=Z.open_cells;obtain⟨ZM,J0,qM⟩:=Z.number_at;obtain⟨Qh,Z6,xr⟩:=Z.numbers_of;obtain⟨cW,QV,Zl⟩:=Z.needs_at;obtain⟨db,cX,YE⟩:=Z.may_fit;obtain⟨Zm,Jy,qz⟩:=Z.part_layings;obtain⟨di,df,jY⟩:=Z.counted;obtain⟨dz,dt,bV⟩:=Z.counted_at;obtain⟨Jz,xO,zO⟩:=Z.closed_around;obtain⟨dn,dj,Jp⟩:=Z.joined;obtain⟨dq,dp,ZO⟩:=Z.parts;obtain⟨d0,dv,bU⟩:=Z.far;obtain⟨dm,dh,xw⟩:=Z.bare_wrong;obtain⟨du,dr,QY⟩:=Z.poured;obtain⟨dk,dg,jO⟩:=Z.all_poured;obtain⟨dy,dw,Qn⟩:=Z.dealt;refine D.F.ok zP "l" (λcL A c6 s H vs Q E hr h=>?_)
 .revert h;refine fX λp l r n z0 b R sm n0 q=>?_;subst z0;have ck:(zp r).length<=64:=qG R;refine⟨_,(zd (qf 1 zP.nd (pc0 (zdE T ZO zV zv zA zF zO Jp) hr ZO (za (pvS 0) ze))) (zd (psC 2 zP.nd ["part","board"] [none,some 0] cR (zN (pvS 1)) (pgN 0) qx (pc0 (Jx T Z qz) hr qz (za (pvS 1) (za (pvS 0) ze)))) (zd (qo (zw (j7 hr.units) (pc0 (zaG T xw zV zv zA zO zF qM) hr xw (za (pvS 0) ze)) (@ql _ _ _ _ ze) (zG _)) (zf (zx (pt1 (Ju hr.units hr.hd) T.zf9 T9 (pcm ["cell"] [none] cP (zN (pc0 (Yy T qE zA zv) hr qE (za (pvS 0) ze))) (pgN 0) qx (jb (za (pvS 0) (@za _ _ _ _ _ zj ze rfl))))))) zR) (zd (psC 3 zP.nd ["part","some"] [none,none] cP (zqp "r" T.zsl (za (pvS 1) (za (pvS 2) ze))) (zfL (n:=2) (K:=K) "r" rfl (zH (pgN 0) (zH (pgN 1) qS))) qx (pc0 (za0 T jY) hr jY (za (pvS 1) (za (pb1 (zdp (K:=K) "r") T.ju W0 (pvS 0)) ze)))) (zd (qf 4 zP.nd (pc0 (ziZ T bU zV zv zA qE zF) hr bU (za (pvS 0) ze))) (zd (qf 5 zP.nd (pc0 (zdQ T Z Qn) hr Qn (za (pc0 (Z7 T Z jO) hr jO (za (pvS 3) ze)) (za (zu yC (pb1 zE T.ju W0 (pvS 4)) zj) (za (zu yC (zW qh (pvS 0) zj (λ_ _=>rfl)) zj) ze))))) (zd (qf 6 zP.nd (pt1 (Ju hr.units hr.hd) T.zf9 T9 (pcm ["cell","at_far"] [none,some 5] cR (zN (pvS 4)) (pgN 0) qx (jb (za (pvS 0) (za (pvS 1) ze)))))) (zd (qu Xb rfl (Ye "r" T.yf (za (pvS 1) ze)) (j5 rfl (zH (pgq 7 zP.nd) (zH (pgq 8 zP.nd) qS))) (zd (qf 9 zP.nd (pc0 (Z7 T Z jO) hr jO (za (zu J9 (Qy zcN (pvS 3) zcL (zab (pvS 7))) (Qy zcN (pvS 3) (zab (zu zQ (pvS 7) zj)) zcL)) ze))) (zf (qu Xb rfl (zN (pvS 8)) (pgq 10 zP.nd) (zd (qf 11 zP.nd (pc0 (zfi T QY) hr QY (za (pvS 9) (za (pc0 (zet T bV jY) hr bV (za (zW qy (pvS 2) (pvS 7) (λ_ _=>rfl)) (za (pb1 zE T.ju W0 (pvS 8)) (za (pvS 10) ze)))) ze)))) (zf (zjP (u1 hr.units) (pvS 6) (pvS 10) (pc0 (zdQ T Z Qn) hr Qn (za (pvS 11) (za (pb1 zE T.ju W0 (pvS 4)) (za (zW qh (pvS 0) zj (λ_ _=>rfl)) ze)))) rfl))))))) (zf (zx (pvS 6))))))))))),?_⟩;ac_nf;refine⟨_,rfl,p,l,r,n,rfl,b,R,λd1 w1 m H1 cN bf hG G s1=>?_⟩;have ar:=QW G R;have aG:m.length<=64:=X7 (Parts.Zg G.ne) ar;refine⟨_,rfl,d1,rfl,⟨_,SqL.of bf⟩,λz hz=>?_⟩;refine zY (K:=K) (a:=d1) (xs:=w1) (λj Y u=>∃(u0:Option V) (ys:AF),Y=[u0,some (.ref p)]/\zq H1 u/\u z=some (.lst ys)/\zb6 r z u ys (m.take j))
   (dB _ [] rfl (zc hz) zb (.nil)) (λj Y u _ ⟨_,_,_,y,_⟩=>SqL.of (y _ _ bf)) ?_ ?_
  .refine λj v Y H2 hv=>fm λu0 ys z0 s2 ah bF=>?_;subst z0;refine gf (λg hg ga ug z0 ay am=>?_) (xq.get (hG.mono s2) hv);subst z0;have gm:=X4 hg;have il:=(X2.mp hg).1;unfold yv;refine Z5 ?_;refine⟨_,rfl,_,rfl,p,l,ga,r,n,ug,g,rfl,(b.mono s1).mono s2,R,ay,am,qY (G.srt g gm),sm m G g gm,λe we ks H3 he cw hL cx s3=>?_⟩;have ez:e≠z:=λy=>by
    subst y;rw[ah]at he;cases he
   have nz:∀a,(H2 a=none/\a≠e)->a≠z:=λa h y=>by
    subst y;rw[ah]at h;cases h.1
   have t1:m.take (j+1)=m.take j++[g]:=by
    rw[XB,hg];rfl
   refine eB _ (s3 _ _ ah) ?_ _ (ys++[.ref e]) rfl (λb' o e'=>?_) zb ?_
   .rw[show ys.length=(m.take j).length from Paired.length bF,XC];exact XI (show _<=64 by lia) "d"
   .rw[zg (zh e' hz)];exact s3 _ _ (s2 _ _ e')
   .rw[t1];exact Paired.snoc (zhM (s3 _ _ ah) (ZP s3 bF)) (dI e we ks rfl ez (by rw[zg ez];exact cw) (jf (s3 _ _ ah) (λ_ h=>h) (jM nz hL)) cx)
  refine λY H2=>fm λu0 ys z0 s2 ah aA=>?_;subst z0;rw[hG.length,XH]at aA;have bH:=sm m G;have bJ:=s1.trans s2;have co:=hG.mono s2;have b1:=s2 _ _ bf;refine⟨_,rfl,p,l,r,n,rfl,b.mono bJ,R,λd w2 H3 hd cu aR s3=>⟨Qu,λe he=>?_⟩⟩;have s4:=zc (o:=.lst []) he;refine dB (.list ((jU r).map zk)) (.list []) (.lst (SqL.of (s4 _ _ cu)) (zD.rdv (N:=λ_=>True) (Cel.rdn (Cel.mono s4 aR)))) (.lst (SqL.of zb) .nil) (zgb _ []) ⟨_,rfl,?_⟩;have ee:(if true=true then !PyData.eqv (.list ((jU r).map zk)) (.list []) else Xg (.list ((jU r).map zk)) (.list []))=!(jU r).isEmpty:=by
   show (!PyData.eqv _ _)=_;rw[eq_nil]
  rw[ee];have a5:=s3.trans s4;have aD:=bJ.trans a5;have b4:=b.mono aD;have av:=a5 _ _ b1;have aZ:=a5 _ _ ah;have bp:=co.mono a5;have bo:=ZP a5 aA;generalize upd H3 e (.lst [])=H4 at *
  cases hb:(jU r).isEmpty with
  | false =>
   refine zbj ?_;refine⟨_,rfl,p,l,r,n,rfl,b4,R,λd5 w5 H5 cv aJ aB s5=>(dD d5 rfl ⟨_,SqL.of aJ⟩ (λy hy=>?_))⟩;have b0:Cel H5 w5 (zp r):=aB;refine zY (K:=K) (a:=d5) (xs:=w5) (λi U u=>(∃u0,U=[u0])/\zq H5 u/\∃ys,u y=some (.lst ys)/\yb u ys (((zp r).take i).map λc=>(j3 c,V.int 0))) ⟨⟨_,rfl⟩,zc hy,[],zb,.nil⟩ (λi U u _ ⟨_,s6,_⟩=>SqL.of (s6 _ _ aJ)) ?_ ?_
   .rintro i x U H6 hx ⟨⟨u0,rfl⟩,s6,ys,ag,ab⟩;refine fJ (λc aT ca z0 al=>?_) (Cel.get (Cel.mono s6 b0) hx);subst z0;refine ZE ⟨_,rfl,Jm,λp hp=>?_⟩;have s7:=zc (o:=.tup [.ref ca,.int 0]) hp;have az:ys.length<=64:=by
     rw[ab.length,ZB,XC];lia
    refine dZ ys (s7 _ _ ag) (XI az "d") ⟨_,rfl⟩ (λb' o e'=>?_) (dG (ys++[.ref p]) zb ?_)
    .rw[zg (zh e' hy)];exact s7 _ _ (s6 _ _ e')
    .rw[XB,aT,XS];exact yb.into y _ (s7 _ _ ag) (yb.snoc (ab.mono s7) ⟨p,ca,rfl,zb,s7 _ _ al⟩)
   .refine λU H6=>fH λ_ s6 ys ag ab=>?_;rw[b0.length,XH]at ab;refine dF y ys _ rfl ag ab (λdd an=>?_);refine q dd _ _ ((aD.trans (s5.trans s6)).free an) zb (λc J=>?_) ((aD.trans (s5.trans s6)).trans (zc an));rw[zi9 hb];have:=zbR (v:=V.int 0) (k:=j3 c) ((zp r).map j3) [] (.inl (XY.mpr ⟨c,J,rfl⟩));rw[Wz]at this;exact this
  | true =>
   refine YW ?_;refine⟨_,rfl,_,rfl,d1,z,rfl,⟨_,SqL.of av⟩,⟨_,SqL.of aZ⟩,λt0 bC=>?_⟩;refine zmd (K:=K) (l1:=d1) (l2:=z) (xs:=w1) (ys:=ys) (λj Y u=>∃(u0 u1:Option V) (B:AF),Y=[u0,u1]/\zq H4 u/\u t0=some (.lst B)/\(∀v∈B,v≠V.ref t0)/\xG u B (tls r (m.take j))) (hG.length.trans (Paired.length aA).symm)
    (dI _ _ [] rfl (zc bC) zb (λ_ h=>nomatch h) (.nil)) (λj Y u _ ⟨_,_,_,_,y,_⟩=>⟨SqL.of (y _ _ av),SqL.of (y _ _ aZ)⟩) ?_ ?_
   .refine λj v v' tt Y H5 hv cy a1=>fC λu0 u1 B z0 s5 aC nt ak=>?_;subst z0;refine gf (λg hg ga ug z0 ay am=>?_) (xq.get (bp.mono s5) hv);subst z0;refine fq (λg' ao=>fC λfa wf ks z0 fz aY aQ aq=>?_) (zfl (ZP s5 bo) cy);subst z0;rw[hg]at ao;cases ao;have gm:=X4 hg;have il:=(X2.mp hg).1;have z6:=zc (o:=.tup [V.ref ga,V.ref fa]) a1;refine dJ tt _ rfl (SqT.of zb) rfl _ _ rfl _ _ rfl rfl ?_;have bD:=z6 _ _ aC;have b8:=z6 _ _ ay;have b5:=z6 _ _ aY;have bv:=qa z6 aQ;have cA:=s5.trans z6;have cp:=xN z6 ak;generalize upd H5 tt (.tup [V.ref ga,V.ref fa])=H6 at *
    refine Z5 ?_;refine⟨_,rfl,_,rfl,ga,_,rfl,.inl (SqL.of b8),fa,wf,ks,_,ug.length,rfl,b5,bv,λk hk=>?_,?_,λe7 H7 b3 bY s7=>?_⟩
    .rw[am.length];exact zdK (aq.mem_iff.mp hk)
    .rw[am.length];have:=bH g gm;lia
    .rw[am.length,Cnt.zbX aq,zfh]at bY;have et:e7≠t0:=λy=>by
      subst y;rw[bD]at b3;cases b3
     have t1:tls r (m.take (j+1))=tls r (m.take j)++[Tally.tl g (qB r g)]:=by
      unfold tls;rw[XB,hg,XS];rfl
     refine dD _ (s7 _ _ bD) ?_ (dI _ _ (B++[.ref e7]) rfl (λb' o e'=>?_) zb (λv hv=>?_) ?_)
     .rw[zap ak];unfold tls;rw[ZB,XC];exact XI (show _<=64 by lia) "d"
     .rw[zg (zh e' bC)];exact s7 _ _ (cA _ _ e')
     .rcases XU.mp hv with hv | hv
      .exact nt v hv
      .have:v=V.ref e7:=by simpa using hv
       rw[this];intro y;cases y;exact et rfl
     .rw[t1];exact Paired.snoc (zja (xN s7 cp) nt) ⟨e7,rfl,by rw[zg et];exact bY⟩
   refine λY H5=>fC λu0 u1 B z0 s5 aC _ ak=>?_;subst z0;rw[hG.length,XH]at ak;have ba:=aD.trans s5;refine⟨_,rfl,p,l,r,n,rfl,b.mono ba,R,λd5 w5 H6 cv bZ aB s6=>?_⟩;have wl:=aB.length;have cM:(jz r).length<=64:=X7 (Xw _ _) ck;refine⟨_,rfl,t0,B,tls r m,rfl,s6 _ _ aC,xN s6 ak,znd R G,λd7 H7 cO cb s7=>?_⟩;rw[show (tls r m).foldl Pour.Z1 [1]=Tally.tl m.flatten (Tally.ye (qB r) m) from zhG G]at cb;have b7:=((b.mono ba).mono s6).mono s7;refine⟨_,rfl,d5,_,rfl,.inl (SqL.of (s7 _ _ bZ)),_,_,rfl,rfl,_,rfl,p,_,1,_,rfl,rfl,SqT.of b7.tp,rfl,_,_,rfl,rfl,d7,_,_,_,rfl,cb,Qk ar,by rw[Tally.yd];lia,"a",λH8 s8=>?_⟩;have be:=s7.trans s8;have aF:=s6.trans be;have c7:=ba.trans aF;have aw:=be _ _ bZ;have bx:=aB.mono be;have bm:∀c∈jz r,dlV (Tally.tl m.flatten (Tally.ye (qB r) m)) (((w5.length:Nat):Int)-1) (n-1)=zM r n c:=λc J=>by
    have pos:=Ua J;have ci:=zqY G J n.toNat;rw[hb,bw rfl,Vr n0]at ci;unfold zM;rw[<- ci,wl,show (((jz r).length:Nat):Int)-1=(((jz r).length-1:Nat):Int) by lia,zgl]
   generalize dlV (Tally.tl m.flatten (Tally.ye (qB r) m)) (((w5.length:Nat):Int)-1) (n-1)=val at *
   refine⟨_,rfl,d5,rfl,⟨_,SqL.of aw⟩,λy hy=>?_⟩;refine zY (K:=K) (a:=d5) (xs:=w5) (λi U u=>(∃u0,U=[u0,some (.int val)])/\zq H8 u/\∃ys,u y=some (.lst ys)/\yb u ys (((jz r).take i).map λc=>(j3 c,V.int val))) (eO ⟨_,rfl⟩ (zc hy) [] zb (.nil)) (λi U u _ ⟨_,s6,_⟩=>SqL.of (s6 _ _ aw)) ?_ ?_
   .rintro i x U cK hx ⟨⟨u0,rfl⟩,bO,a9,ag,ab⟩;refine fJ (λc aT ca z0 al=>?_) (Cel.get (Cel.mono bO bx) hx);subst z0;refine ZE ⟨_,rfl,_,rfl,Jm,λp hp=>?_⟩;have a6:=zc (o:=.tup [.ref ca,.int val]) hp;have az:a9.length<=64:=by
     rw[ab.length,ZB,XC];lia
    refine dZ a9 (a6 _ _ ag) (XI az "d") ⟨_,rfl⟩ (λb' o e'=>?_) (dG (a9++[.ref p]) zb ?_)
    .rw[zg (zh e' hy)];exact a6 _ _ (bO _ _ e')
    .rw[XB,aT,XS];exact yb.into y _ (a6 _ _ ag) (yb.snoc (ab.mono a6) (dM p ca rfl zb (a6 _ _ al)))
   refine λU H9=>fH λ_ s9 a9 cz bB=>?_;rw[bx.length,XH]at bB;refine dF y a9 _ rfl cz bB (λdd an=>?_);have bP:=zc (o:=.dT (Qs ((jz r).map λc=>(j3 c,V.int val)))) an;have aU:upd H9 dd (.dT (Qs ((jz r).map λc=>(j3 c,V.int val)))) dd=some (.dT (Qs ((jz r).map λc=>(j3 c,V.int val)))):=zb;have c4:(Qs ((jz r).map λc=>(j3 c,V.int val))).length<=64:=by
    have:=znm ((jz r).map λc=>(j3 c,V.int val));rw[ZB]at this;lia
   have c5:∀c∈jz r,j4 (Qs ((jz r).map λc=>(j3 c,V.int val))) (j3 c)=some (V.int (zM r n c)):=λc J=>by
    have:=zbR (v:=V.int val) (k:=j3 c) ((jz r).map j3) [] (.inl (XY.mpr ⟨c,J,rfl⟩));rw[Wz]at this;rw[<- bm c J];exact this
   generalize Qs ((jz r).map λc=>(j3 c,V.int val))=kvs0 at *
   generalize upd H9 dd (.dT kvs0)=H10 at *
   have aE:=s5.trans (aF.trans s9);have bb:=c7.trans s9;have cd:H dd=none:=bb.free an;have aI:=aE _ _ av;have c0:=aE _ _ aZ;have aP:=bp.mono aE;have cn:=ZP aE bo;have bE:=(aF.trans s9) _ _ aC;have bt:=xN (aF.trans s9) ak;have b2:=s9 _ _ aw;have b9:=b.mono bb;refine⟨_,rfl,d1,rfl,⟨_,SqL.of (bP _ _ aI)⟩,?_⟩;refine Yg (K:=K) (l:=d1) (xs:=w1) (λi U u=>∃(I:List (List Key×V)) (v7 v8 v9 a7 a8:Option V),U=[some (.ref p),some (.ref d1),some (.ref z),some (.ref t0),some (.ref d5),some (.int val),some (.ref dd),v7,v8,v9,a7,a8]/\zq H9 u/\u dd=some (.dT I)/\I.length<=64+(m.take i).flatten.length/\(∀c,c∈jz r\/c∈(m.take i).flatten->j4 I (j3 c)=some (V.int (zM r n c))))
    (dS kvs0 _ _ _ (dH _ _ rfl bP aU (↑c4) (λc J=>J.elim (c5 c) (λh=>by simp at h)))) (λi U u _ ⟨_,_,_,_,_,_,_,y,_⟩=>SqL.of (y _ _ aI)) ?_ ?_
   .refine λi v tt U aN hv a1=>fW λI v7 v8 v9 a7 a8 z0 a2 L kl kv=>?_;subst z0;refine gf (λg hg ga ug z0 ay am=>?_) (xq.get (aP.mono a2) hv);subst z0;have gm:=X4 hg;have il:=(X2.mp hg).1;have cf:=bH g gm;have aO:m=m.take i++g::m.drop (i+1):=by
     have e1:=(WR i m).symm;rw[Wg il]at e1;have e2:m[i]=g:=by
      rw[XX il]at hg;exact Option.some.inj hg
     rwa [e2]at e1
    have tk:(m.take (i+1)).flatten=(m.take i).flatten++g:=by
     rw[XB,hg,WS];congr 1;simp
    have AB:(m.take i++m.drop (i+1)).Sublist m:=by
     conv=>rhs;rw[aO]
     exact List.Sublist.append (List.Sublist.refl _) (List.sublist_cons_self _ _)
    have cU:tt≠dd:=λy=>by
     subst y;rw[L]at a1;cases a1
    have bR:=zc (o:=.tup [.int (i:Nat),V.ref ga]) a1;refine dJ tt _ rfl (SqT.of zb) rfl _ _ rfl _ _ rfl rfl ?_;have bc:=a2.trans bR;have aV:=bR _ _ L;generalize upd aN tt (.tup [.int (i:Nat),V.ref ga])=H12 at *
    have cl:=zap bt;have tlen:(tls r m).length=m.length:=ZB _;refine⟨_,rfl,_,rfl,_,rfl,t0,B,rfl,SqL.of (bc _ _ bE),λc1 cr=>?_⟩;have bS:=zc (o:=.lst (zaw B none (some ((i:Nat):Int)))) cr;refine⟨_,rfl,_,rfl,_,_,rfl,rfl,_,rfl,t0,B,rfl,SqL.of (bS _ _ (bc _ _ bE)),λc2 ct=>?_⟩;have bT:=zc (o:=.lst (zaw B (some (((i:Nat):Int)+1)) none)) ct;rw[zq4 B (show i<=B.length by lia),zhC B i "a"]at *
    refine dQ c1 c2 _ _ rfl rfl (bT _ _ zb) zb ?_ (λc3 aR=>?_)
    .rw[XC,UZ];exact X7 (show _<=128 by lia) "d"
    have cE:=zc (o:=.lst (B.take i++B.drop (i+1))) aR;have a3:=bS.trans (bT.trans cE);have bK:=bc.trans a3;have ax:=a3 _ _ aV;have aH:=xN bK bt;have et:tls r (m.take i++m.drop (i+1))=(tls r m).take i++(tls r m).drop (i+1):=by
     unfold tls;rw[XS,TY,Rt]
    have aS:upd (upd (upd H12 c1 (.lst (B.take i))) c2 (.lst (B.drop (i+1)))) c3 (.lst (B.take i++B.drop (i+1))) c3=some (.lst (B.take i++B.drop (i+1))):=zb;generalize upd (upd (upd H12 c1 (.lst (B.take i))) c2 (.lst (B.drop (i+1)))) c3 (.lst (B.take i++B.drop (i+1)))=H15 at *
    refine dI c3 _ (tls r (m.take i++m.drop (i+1))) rfl aS (by rw[et];exact zlt (zdS i aH) (zdT (i+1) aH)) (zq3 R G AB) (λoa cG bA bW bM=>?_);rw[zkk G AB]at bW;have aK:=bK.trans bM;have aW:=bM _ _ ax;have bI:oa≠dd:=λy=>by
     subst y;rw[ax]at bA;cases bA
    have bn:(m.take i++m.drop (i+1)).flatten.length<=64:=X7 (QZ AB).length_le ar;have ai:H9 ga=some (.lst ug):=by
     obtain⟨g',ao,cg,cB,e',au,_⟩:=xq.get aP hv;cases e';have:=a2 _ _ au;rw[ay]at this;cases this;exact au
    have aa:Cel H9 ug g:=by
     obtain⟨g',ao,cg,cB,e',au,cj⟩:=xq.get aP hv;cases e';rw[hg]at ao;cases ao;rw[ai]at au;cases au;exact cj
    have zl:i<ys.length:=by
     rw[show ys.length=m.length from Paired.length aA];exact il
    refine fq (λg2 b6=>fC λfa wf ks ce fz aY aQ aq=>?_) (zfl cn (XX zl));rw[hg]at b6;cases b6;refine⟨_,rfl,ga,rfl,⟨_,SqL.of (aK _ _ ai)⟩,?_⟩;refine Ji (K:=K) (a:=ga) (xs:=ug) (λj U u=>∃(I:List (List Key×V)) (a7 a8:Option V),U=[some (.ref p),some (.ref d1),some (.ref z),some (.ref t0),some (.ref d5),some (.int val),some (.ref dd),some (.int (i:Nat)),some (.ref ga),some (.ref oa),a7,a8]/\zq H9 u/\u oa=some (.lst (iL (Tally.tl (m.take i++m.drop (i+1)).flatten (Tally.ye (qB r) (m.take i++m.drop (i+1))))))/\u dd=some (.dT I)/\I.length<=64+(m.take i).flatten.length+j/\(∀c,c∈jz r\/c∈(m.take i).flatten\/c∈g.take j->j4 I (j3 c)=some (V.int (zM r n c))))
     (dP I _ _ rfl aK bW aW "a" (λc J=>kv c (J.elim .inl λh=>h.elim .inr λh=>by simp at h))) (λj U u _ ⟨_,_,_,_,y,_⟩=>SqL.of (y _ _ ai)) ?_ ?_
    .refine λj x U cc hx=>fE λac cC cD z0 M af ae bG aj=>?_;subst z0;refine fJ (λc J ca z0 al=>?_) (Cel.get (aa.mono M) hx);subst z0;have cm:=X4 J;have jl:=(X2.mp J).1;have Gi:Parts.Good (clA r) (qc r) (m.take i++g::m.drop (i+1)):=by
      rw[<- aO];exact G
     have ap:=zoT Gi cm n.toNat;rw[hb,bw rfl,Vr n0]at ap;refine⟨_,rfl,_,rfl,_,rfl,z,_,_,_,rfl,rfl,SqL.of (M _ _ c0),jJ "a" (by rw[WC];exact XX zl),_,rfl,ga,_,rfl,.inl (SqL.of (M _ _ ai)),_,rfl,?_⟩;rw[ce];refine dS fa ca wf ks (d8 _ ug.length c rfl (M _ _ aY) (qa M aQ) (λk hk=>?_) ?_ ?_ al (λea cH cQ bX bN=>?_))
     .rw[aa.length];exact zdK (aq.mem_iff.mp hk)
     .rw[aa.length];lia
     .rw[aq.length_eq];exact zlp cf
     rw[aa.length,Cnt.zbX (aq.filter _),zgo]at bX;have aG:g.length<=64:="a"
     refine eU oa ea _ _ rfl (SqL.of (bN _ _ af)) (SqL.of bX) ?_ (dR ?_ ?_ ?_ (Qk bn) (Qk aG) (λna cI cS cF c8=>?_))
     .rw[Tally.yd];lia
     .rw[Tally.yd];lia
     .rw[Tally.yd];lia
     .rw[Tally.yd];lia
     have a4:=bN.trans c8;have aM:=M.trans a4;have cT:(m.take i).flatten.length<=64:=X7 (QZ (TV i m)).length_le ar;have bi:((m.take i++m.drop (i+1)).flatten++g).length<=64:=by
      rw[<- (zgj _ _ _).length_eq,<- aO];exact ar
     have bj:=zki Gi cm;refine⟨_,rfl,_,rfl,d5,_,rfl,.inl (SqL.of (aM _ _ b2)),_,rfl,p,_,1,_,rfl,rfl,SqT.of (b9.mono aM).tp,rfl,na,_,_,_,rfl,cF,by rw[bj];exact Qk bi,by rw[bj,Tally.yd];lia,"a",λcJ c9=>?_⟩;have O:=a4.trans c9;have aX:=O _ _ ae;have ev:dlV (Pour.Z1 (Tally.tl (m.take i++m.drop (i+1)).flatten (Tally.ye (qB r) (m.take i++m.drop (i+1)))) (Tally.tl g λS=>qB r g S&&decide (c∈S))) (w5.length:Nat) n=zM r n c:=by
      unfold zM;rw[zgl,wl,ap]
     rw[ev];refine⟨_,rfl,_,rfl,dd,_,rfl,zg1.t (k:=j3 c) aX (O _ _ al) (XI (show ac.length<=200 by lia) "d"),?_⟩;refine dP (putK ac (j3 c) (V.int (zM r n c))) _ _ rfl (λb' o e'=>?_) ?_ zb ?_ (λc' cq=>?_)
     .rw[zg (zh e' an)];exact O _ _ (M _ _ e')
     .rw[zg bI];exact O _ _ af
     .have:=zkl ac (j3 c) (V.int (zM r n c));lia
     .rw[QF];by_cases ec:j3 c'=j3 c
      .rw[bw ec,zhL ec]
      .rw[bq ec];refine aj c' (cq.elim .inl λh=>h.elim (λh=>.inr (.inl h)) λh=>?_);rw[XB,J]at h;rcases XU.mp h with h | h
       .exact .inr (.inr h)
       .have:c'=c:=by simpa using h
        exact absurd (by rw[this]) ec
    refine λU cc=>fE λac cC cD z0 M af ae bG aj=>?_;subst z0;have ul:ug.length=g.length:=aa.length;refine dS ac _ _ _ (dH _ _ rfl M ae ?_ (λc J=>?_))
    .rw[tk,X5];lia
    .rw[tk]at J;rw[ul,XH]at aj;exact aj c (J.elim .inl λh=>(XU.mp h).elim (λh=>.inr (.inl h)) λh=>.inr (.inr h))
   refine λU aN=>fW λI v7 v8 v9 a7 a8 z0 a2 L kl kv=>?_;subst z0;rw[hG.length,XH]at kv;refine⟨_,rfl,q dd I aN cd L (λc J=>kv c ?_) (bb.trans a2)⟩;by_cases hm:c∈m.flatten
   .exact .inr hm
   .exact .inl ((J2 G).mpr ⟨J,hm⟩)
def zfm:Sp:=λe H Q _=>∃(p l d:Addr) (a:AE) (n:Int) (c:AA),e=[.ref p,.ref d]/\qd H p l a n/\Rows bd.cps.toList a/\Small a/\0<=n/\H d=some (.tup [.int (c.1:Nat),.int (c.2:Nat)])/\c∈zp a/\∀b,zq H b->Q (.int (zM a n c)) b
def zhN:zB ["board","cell"] ["board","cell"] (zo Y8):=bz
def Q0 (T:Txt mg)(Z:Prog K mg)(D:zm K mg "count_at" Y8 ["board","cell"] f fd):zT P w K mg base CX0 8 f fd ["board","cell"] zfm:=by
 obtain⟨I,J,j⟩:=Z.counts_by_cell;refine D.F.ok zhN "l" (λr A e s H G Q E i h=>?_)
 .revert h;refine fW λp l o m n c z0 b R B=>fO λz a u q=>?_;subst z0;refine⟨_,(zf (zx (zad (u1 i.units) (pc0 (ZQ T Z j) i j (za (pvS 0) ze)) (pvS 1) (λ_ _=>rfl)))),?_⟩;ac_nf;refine⟨_,rfl,p,l,m,n,rfl,b,R,B,z,λd y L _ v x s1=>⟨_,rfl,d,_,rfl,?_,q _ s1⟩⟩;have g:=zax.t (k:=j3 c) v (s1 _ _ a);rw[x c u]at g;exact g
def zkm (a b:Int):Wa b (a%b)=Wa a b:=by
 have h:=Int.emod_add_mul_ediv a b;apply Nat.dvd_antisymm
 .apply Int.dvd_gcd
  .have h1:((Wa b (a%b):Nat):Int) ∣ b:=Ur ..;have h2:((Wa b (a%b):Nat):Int) ∣ a%b:=Va ..;have c:=Int.dvd_add h2 (Int.dvd_trans h1 (Int.dvd_mul_right b (a/b)));rw[h]at c;exact c
  .exact Ur ..
 .apply Int.dvd_gcd
  .exact Va ..
  .have h1:((Wa a b:Nat):Int) ∣ b:=Va ..;have h2:((Wa a b:Nat):Int) ∣ a:=Ur ..;have e:a%b=a-b*(a/b):="a"
   rw[e];exact Int.dvd_sub h2 (Int.dvd_trans h1 (Int.dvd_mul_right ..))
def zo0 (a:Int)(h:0<=a):((Wa a 0:Nat):Int)=a:=by
 rw[Int.gcd_zero_right];lia
def zbH {a b:Int}(h:0<b):0<((Wa a b:Nat):Int):=by
 have:0<Wa a b:=Int.gcd_pos_of_ne_zero_right a "a";lia
def zq5 {a b:Int}(h:0<b):((Wa a b:Nat):Int)<=b:=Int.le_of_dvd h (Va ..)
def zti:Sp:=λa H Q _=>∃(n b:Int),a=[.int n,.int b]/\0<b/\Q (.int (Wa n b:Nat)) H
def ztj:Sp:=λa H Q _=>∃(n b:Int),a=[.int n,.int b]/\0<b/\b.natAbs<2^70/\∀p,H p=none->Q (.ref p) (upd H p (.tup [.int (n/(Wa n b:Nat)),.int (b/(Wa n b:Nat))]))
def qA:zB ["number","bottom","divisor","rest","next_rest"] ["number","bottom"] (zo je):=bz
def zaz (D:zm K mg "greatest_divisor" je ["number","bottom"] f fd):zT P w K mg base CX0 1 f fd ["number","bottom"] zti:=by
 refine D.F.ok qA "l" (λo A g s H y Q E I h=>?_)
 .revert h;refine fy λn b z0 i k=>?_;subst z0;refine⟨_,(zd (qf 2 qA.nd (pvS 1)) (zd (qf 3 qA.nd (zu qN (pvS 0) (pvS 1))) (zd (zlL Xb (zw Jj (pvS 3) zj (zG _)) (zd (qf 4 qA.nd (zu qN (pvS 2) (pvS 3))) (zd (qf 2 qA.nd (pvS 3)) (zf (qf 3 qA.nd (pvS 4)))))) (zf (zx (pvS 2)))))),?_⟩;ac_nf;refine⟨_,rfl,_,rfl,_,rfl,_,_,rfl,rfl,i,?_⟩;refine⟨λm l a=>∃(d r:Int) (x:Option V),l=[some (.int n),some (.int b),some (.int d),some (.int r),x]/\a=H/\0<d/\0<=r/\Wa d r=Wa n b/\m=r.toNat,(dQ _ b (n%b) none rfl rfl i (T3 n "a") (zkm n b) rfl),?_⟩;refine λm l a=>fE λd r x z0 z1 G u j z2=>?_;subst z0 z1 z2;refine⟨_,rfl,rfl,_,rfl,?_⟩;by_cases c:r=0
  .subst c;refine zrV rfl ?_;refine⟨_,rfl,?_⟩;have e:((Wa n b:Nat):Int)=d:=by rw[<- j];exact zo0 d "a"
   rw[<- e];exact k
  .have e:(!decide (V.int r=V.int 0))=true:=by
    have z:¬ V.int r=V.int 0:=λz=>c (V.int.inj z);rw[bg z];rfl
   refine jQ e ?_;refine⟨fun B a=>∃v,v<r.toNat/\_,λ_ _ h=>h,?_⟩;refine⟨_,rfl,_,rfl,_,_,rfl,rfl,(show (0:Int)<r by lia),_,rfl,_,rfl,?_⟩;have p:=Uf d (show (0:Int)<r by lia);have q:=T3 d (show r≠0 from c);refine dG (d%r).toNat "a" (dP r (d%r) (some (.int (d%r))) rfl rfl "a" q ?_ rfl);rw[zkm d r];exact j
def zcm:zB ["top","bottom","divisor"] ["top","bottom"] (zo Y9):=bz
def zhO {o:Addr}{c:Xz}(D:zm K mg "fraction" Y9 ["top","bottom"] f fd)(l:zm K mg "greatest_divisor" je ["number","bottom"] o c):zT P w K mg base CX0 2 f fd ["top","bottom"] ztj:=by
 refine D.F.ok zcm "l" (λm A g s H q Q E p h=>?_)
 .revert h;refine fm λn b z0 d u k=>?_;subst z0;refine⟨_,(zd (qf 2 zcm.nd (pc0 (zaz l) p l (za (pvS 0) (za (pvS 1) ze)))) (zf (zx (jb (za (zu qX (pvS 0) (pvS 2)) (za (zu qX (pvS 1) (pvS 2)) ze)))))),?_⟩;ac_nf;have i:=zbH (a:=n) d;have r:=zq5 (a:=n) d;have j:((Wa n b:Nat):Int).natAbs<2^8000:=by
   have e:2^70<=2^8000:=VU "d" "d";lia
  refine⟨_,rfl,_,rfl,n,b,rfl,d,?_⟩;refine⟨_,rfl,_,rfl,_,_,rfl,rfl,yV.big i j,_,rfl,_,rfl,_,_,rfl,rfl,yV.big i j,Jm,?_⟩;exact k
def zno {φ:List Key->V->Prop}{c a:List (List Key×V)}(h:∀b∈c,φ b.1 b.2)(h0:∀k v,j4 a k=some v->φ k v):∀k v,j4 (c.foldl (λa b=>putK a b.1 b.2) a) k=some v->φ k v:=by
 induction c generalizing a with
 | nil=>exact h0
 | cons b r f =>
  refine f (λx d=>h x (XQ _ d)) λk v e=>?_;rw[QF]at e;split at e
  .rename_i ek;cases e;rw[ek];exact h b XT
  .exact h0 k v e
def znp {k:List Key}{b a:List (List Key×V)}(h:(∃c∈b,c.1=k)\/(j4 a k).isSome=true):(j4 (b.foldl (λa c=>putK a c.1 c.2) a) k).isSome=true:=by
 induction b generalizing a with
 | nil =>
  rcases h with ⟨_,h,_⟩ | h
  .cases h
  .exact h
 | cons c r f =>
  refine f ?_;rcases h with ⟨x,hx,e⟩ | h
  .rcases XF.mp hx with d | hx
   .subst d;refine .inr ?_;rw[QF,bw e.symm];rfl
   .exact .inl ⟨x,hx,e⟩
  .refine .inr ?_;rw[QF];split
   .rfl
   .exact h
def frT (n b:Int):HO:=.tup [.int (n/(Wa n b:Nat)),.int (b/(Wa n b:Nat))]
def zhP (H:Hp)(rs:AE)(n:Int)(k:List Key)(v:V):Prop:=∀c,k=j3 c->∃t,v=.ref t/\H t=some (frT (zM rs n c) (qg rs n))
def zhP.mono {H a:Hp}(s:zq H a){rs:AE}{n:Int}{k:List Key}{v:V}(h:zhP H rs n k v):zhP a rs n k v:=λc e=>by
 obtain⟨t,b,d⟩:=h c e;exact⟨t,b,s _ _ d⟩
def znq {H:Hp}{rs:AE}{n:Int}{c:AA}{t:Addr}(h:H t=some (frT (zM rs n c) (qg rs n))):zhP H rs n (j3 c) (.ref t):=λd e=>by
 rw[<- zhL e];exact⟨t,rfl,h⟩
def znr (C:Addr):Sp:=λc H Q E=>∃(p l:Addr) (a:AE) (n:Int),c=[.ref p]/\qd H p l a n/\Rows bd.cps.toList a/\Small a/\0<=n/\(qg a n≠0->∀b,zq H b->Q (.int (qg a n)) b)/\(qg a n=0->∀b,zq H b->E (.ref C) none b)
def zns (C:Addr):Sp:=λf H Q E=>∃(p l:Addr) (a:AE) (n:Int),f=[.ref p]/\qd H p l a n/\Rows bd.cps.toList a/\Small a/\0<=n /\
 (qg a n≠0->∀(d:Addr) (e:List (List Key×V)) (b:Hp),H d=none->b d=some (.dT e)->(∀c∈zp a,∃t,j4 e (j3 c)=some (.ref t)/\b t=some (frT (zM a n c) (qg a n)))->zq H b->Q (.ref d) b)/\(qg a n=0->∀b,zq H b->E (.ref C) none b)
def clS (rs:AE)(n:Int):AD:=(zp rs).filter λc=>decide (zM rs n c=0)
def stS (rs:AE)(n:Int):AD:=(zp rs).filter λc=>decide (zM rs n c=qg rs n)
def zq6 (C:Addr):Sp:=λg H Q E=>∃(p l:Addr) (b:AE) (n:Int),g=[.ref p]/\qd H p l b n/\Rows bd.cps.toList b/\Small b/\0<=n /\
 (qg b n≠0->∀(t c d:Addr) (e f:AF) (a:Hp),H t=none->H c=none->H d=none->c≠d->a t=some (.tup [.ref c,.ref d])->a c=some (.lst e)->a d=some (.lst f)->Cel a e (clS b n)->Cel a f (stS b n)->zq H a->Q (.ref t) a)/\(qg b n=0->∀a,zq H a->E (.ref C) none a)
def yG (rs:AE)(R:Rows bd.cps.toList rs)(n:Int):0<=qg rs n/\(qg rs n).natAbs<2^70:=by
 have:=zgi (cs:=zp rs) (p:=qi rs) (k:=n.toNat) (qG (p:=qI) R);unfold qg;refine⟨Wo _,?_⟩;rw[Uc];exact XI this "d"
def zlu (rs:AE)(n:Int)(c:AA):0<=zM rs n c:=Wo _
def zo1 {a b:Int}(i:0<=a)(d:0<b):(a/(Wa a b:Nat)=0/\b/(Wa a b:Nat)=1)↔a=0:=by
 constructor
 .rintro⟨h,_⟩;obtain⟨x,c⟩:((Wa a b:Nat):Int) ∣ a:=Ur ..;have f:=zbH (a:=a) d;generalize ((Wa a b:Nat):Int)=g at *
  rw[c,Vc _ "a"]at h;rw[c,h,PL]
 .intro h;subst h;have e:((Wa 0 b:Nat):Int)=b:=by
   rw[Int.gcd_zero_left];lia
  rw[e];exact⟨Int.zero_ediv _,OA "a"⟩
def zq7 {a b:Int}(f:0<b):(a/(Wa a b:Nat)=1/\b/(Wa a b:Nat)=1)↔a=b:=by
 have i:=zbH (a:=a) f;constructor
 .rintro⟨h1,h2⟩;obtain⟨x,c⟩:((Wa a b:Nat):Int) ∣ a:=Ur ..;obtain⟨y,d⟩:((Wa a b:Nat):Int) ∣ b:=Va ..;generalize ((Wa a b:Nat):Int)=g at *
  rw[c,Vc _ "a"]at h1;rw[d,Vc _ "a"]at h2;rw[c,d,h1,h2]
 .intro h;subst h;have e:((Wa a a:Nat):Int)=a:=by
   rw[Int.gcd_self];lia
  rw[e];exact⟨OA "a",OA "a"⟩
def zaJ:zB ["board","every"] ["board"] (zo JV):=bz
def zaK (T:Txt mg)(b:qC K mg "NoLaying" jad)(Z:Prog K mg)(D:zm K mg "some_count" JV ["board"] f fd):zT P w K mg base (CXE P w) 8 f fd ["board"] (znr jad):=by
 obtain⟨x,v,i⟩:=Z.count;refine D.F.okX zaJ "l" (λj A c s H u Q E m h=>?_)
 .revert h;refine gc λp l d n z0 B R r o q e=>?_;subst z0;refine⟨_,(zd (qf 1 zaJ.nd (pc0 (zdR T Z i) m i (za (pvS 0) ze))) (zd (qo (zw j6 (pvS 1) zj (zG _)) (zf (zl1 Yj b "r" rfl (@za _ _ _ _ _ qK ze rfl))) zR) (zf (zx (pvS 1))))),?_⟩;ac_nf;refine⟨_,rfl,p,l,d,n,rfl,B,R,r,o,λg s1=>?_⟩;by_cases a:qg d n=0
  .exact⟨_,rfl,rfl,_,rfl,jQ (br (by rw[a])) ⟨sz_1,e a g s1⟩⟩
  .exact⟨_,rfl,rfl,_,rfl,qw (bg λh=>a (V.int.inj h)) ⟨_,rfl,q a g s1⟩⟩
def zb8:zB ["board","every","at_cells"] ["board"] (zo zbw):=bz
def zb9 (T:Txt mg)(aq:qC K mg "NoLaying" jad)(Z:Prog K mg)(D:zm K mg "shares" zbw ["board"] f fd):zT P w K mg base (CXE P w) 9 f fd ["board"] (zns jad):=by
 obtain⟨a6,a5,xA⟩:=Z.some_count;obtain⟨a2,a4,jF⟩:=Z.counts_by_cell;obtain⟨a3,a1,qE⟩:=Z.closed;obtain⟨xM,yN,zA⟩:=Z.cells_of;obtain⟨J6,xK,zv⟩:=Z.sign_at;obtain⟨aA,a9,ai⟩:=Z.fraction;obtain⟨a8,a7,jP⟩:=Z.greatest_divisor;refine D.F.okX zb8 "l" (λav A ar s H vs Q E L h=>?_)
 .revert h;refine gc λp l b n z0 B R sm n0 q e=>?_;subst z0;obtain⟨aw,aj⟩:=yG b R n;refine⟨_,(zd (qf 1 zb8.nd (pcL Yj (zaK T aq Z xA) L xA (za (pvS 0) ze))) (zd (qf 2 zb8.nd (pc0 (ZQ T Z jF) L jF (za (pvS 0) ze))) (zf (zx (pt1 (Ju L.units L.hd) T.zf9 T9 (pcm ["cell","every","at_cells"] [none,some 1,some 2] cR (zN (pc0 (Yy T qE zA zv) L qE (za (pvS 0) ze))) (pgN 0) qx (jb (za (pvS 0) (za (pc0 (zhO ai jP) L ai (za (zad (u1 L.units) (pvS 2) (pvS 0) (λ_ _=>rfl)) (za (pvS 1) ze))) ze))))))))),?_⟩;ac_nf;refine⟨_,rfl,p,l,b,n,rfl,B,R,sm,n0,λhz H1 s1=>?_,λhz H1 s1=>e hz H1 s1⟩;refine⟨_,rfl,p,l,b,n,rfl,B.mono s1,R,sm,n0,λda az H2 ay au ap s2=>?_⟩;have ag:=s1.trans s2;refine⟨_,rfl,p,l,b,n,rfl,B.mono ag,R,λd5 w5 H5 ax J ak s5=>(dD d5 rfl ⟨_,SqL.of J⟩ (λy hy=>?_))⟩;have ac:Cel H5 w5 (zp b):=ak;have sl:(zp b).length<=64:=qG (p:=qI) R;refine zY (K:=K) (a:=d5) (xs:=w5) (λi σ H'=>(∃u0,σ=[u0,some (.int (qg b n)),some (.ref da)])/\zq H5 H'/\∃G j,H' y=some (.lst G)/\yb H' G j/\j.map (·.1)=((zp b).take i).map j3/\∀Y∈j,zhP H' b n Y.1 Y.2) (dU ⟨_,rfl⟩ (zc hy) (dB [] [] zb (.nil) rfl (λ_ h=>nomatch h))) (λi σ H' _ ⟨_,U,_⟩=>SqL.of (U _ _ J)) ?_ ?_
  .rintro i x σ H6 hx ⟨⟨u0,rfl⟩,U,G,j,N,u,m,M⟩;refine fJ (λc ab ca z0 aa=>?_) (Cel.get (Cel.mono U ac) hx);subst z0;have g:=zax.t (k:=j3 c) ((s5.trans U) _ _ au) aa;rw[ap c (X4 ab)]at g;have kl:j.length<=64:=by
    have:=congrArg List.length m;rw[ZB,ZB,XC]at this;lia
   refine ZE ⟨_,rfl,_,rfl,_,rfl,da,_,rfl,g,_,rfl,_,_,rfl,"a",aj,λI am=>⟨Jm,λp1 ao=>?_⟩⟩;have s7:=zc (o:=frT (zM b n c) (qg b n)) am;have al:upd H6 I (frT (zM b n c) (qg b n)) I=some (frT (zM b n c) (qg b n)):=zb;have s8:=zc (o:=.tup [.ref ca,.ref I]) ao;have r:=s7.trans s8;have af:G.length<=64:=by
    rw[u.length];exact kl
   have O:=r _ _ N;refine dZ G O (XI af "d") ⟨_,rfl⟩ (λb' o e'=>?_) (dB (G++[.ref p1]) (j++[(j3 c,.ref I)]) zb ?_ ?_ (λY an=>?_))
   .rw[zg (zh e' hy)];exact r _ _ (U _ _ e')
   .exact yb.into y _ O (yb.snoc (u.mono r) (dM p1 ca rfl zb (r _ _ aa)))
   .rw[XS,m,XB,ab,XS];rfl
   .have st:∀{k v},zhP (upd (upd H6 I (frT (zM b n c) (qg b n))) p1 (.tup [.ref ca,.ref I])) b n k v->zhP (upd (upd (upd H6 I (frT (zM b n c) (qg b n))) p1 (.tup [.ref ca,.ref I])) y (.lst (G++[.ref p1]))) b n k v:=λ{k v} h d ek=>by
     refine fq (λt e1 e2=>?_) (h d ek);refine⟨t,e1,?_⟩;rw[zg (zeA e2 O (by intro z;cases z))];exact e2
    rcases XU.mp an with h | h
    .exact st ((M Y h).mono r)
    .rw[Wj.mp h];exact st (znq (s8 _ _ al))
  .refine λσ H6=>fL λ_ U=>fm λG j N u m M=>?_;rw[ac.length,XH]at m;refine dF y G _ rfl N u (λdd ae=>?_);have ah:=ag.trans (s5.trans U);have s7:=zc (o:=.dT (Qs j)) ae;refine q hz dd _ _ (ah.free ae) zb (λc hc=>?_) (ah.trans s7);have h1:(j4 (Qs j) (j3 c)).isSome=true:=znp (.inl (by
    have:j3 c∈j.map (·.1):=by
     rw[m];exact XY.mpr ⟨c,hc,rfl⟩
    obtain⟨Y,h2,h3⟩:=XY.mp this;exact⟨Y,h2,h3⟩))
   obtain⟨v,hv⟩:=Wd.mp h1;obtain⟨t,e1,e2⟩:=zno (φ:=zhP H6 b n) M (λ_ _ h=>by cases h) _ _ hv c rfl;exact⟨t,by rw[hv,e1],s7 _ _ e2⟩
def frP (n b:Int):Int×Int:=(n/(Wa n b:Nat),b/(Wa n b:Nat))
def zdV {H:Hp}{z:Addr}{ys:AF}{cs:AD}{a:Addr}{c:AA}(e:H z=some (.lst ys))(d:Cel H ys cs)(b:H a=some (.tup [.int (c.1:Nat),.int (c.2:Nat)])):Cel (upd H z (.lst (ys++[.ref a]))) (ys++[.ref a]) (cs++[c]) :=
 qV (by
  rw[XS];exact yL e (zbA (Cel.tup2 d) (.cons ⟨a,rfl,b⟩ .nil)))
def znt (a b x y:Int):(if false=true then !PyData.eqv (pD (a,b)) (pD (x,y)) else Xg (pD (a,b)) (pD (x,y)))=decide (a=x/\b=y):=by
 rw[bq XM,zm3];exact decide_eq_decide.mpr (by rw[OB])
def zq9 {a b:Int}(c:0<=a)(d:0<b):(if false=true then !PyData.eqv (pD (frP a b)) (pD (0,1)) else Xg (pD (frP a b)) (pD (0,1)))=decide (a=0):=(znt _ _ 0 1).trans (decide_eq_decide.mpr (zo1 c d))
def zra {a b:Int}(c:0<b):(if false=true then !PyData.eqv (pD (frP a b)) (pD (1,1)) else Xg (pD (frP a b)) (pD (1,1)))=decide (a=b):=(znt _ _ 1 1).trans (decide_eq_decide.mpr (zq7 c))
def znu (p q:Int×Int):zlV (pD p) (pD q):=⟨rfl,rfl,by show 1<=64;decide⟩
def zcX:zB ["board","told","clears","stones"] ["board"] (zo zf7):=bz
def zo2 (T:Txt mg)(ar:qC K mg "NoLaying" jad)(Z:Prog K mg)(D:zm K mg "sure" zf7 ["board"] f fd):zT P w K mg base (CXE P w) 10 f fd ["board"] (zq6 jad):=by
 obtain⟨a7,a6,yw⟩:=Z.shares;obtain⟨a5,a4,qE⟩:=Z.closed;obtain⟨xM,yN,zA⟩:=Z.cells_of;obtain⟨J6,xK,zv⟩:=Z.sign_at;refine D.F.okX zcX "l" (λaw A au s H vs Q E hr h=>?_)
 .revert h;refine gc λp l b n z0 B R sm n0 q e=>?_;subst z0;obtain⟨ax,ay⟩:=yG b R n;have sl:(zp b).length<=64:=qG (p:=qI) R;refine⟨_,(zd (qf 1 zcX.nd (pcL Yj (zb9 T ar Z yw) hr yw (za (pvS 0) ze))) (zd (psC 2 zcX.nd ["cell","told"] [none,some 1] cR (zN (pc0 (Yy T qE zA zv) hr qE (za (pvS 0) ze))) (pgN 0) (qp (zw (QA (K:=K) "r" hr.units) (zad (u1 hr.units) (pvS 1) (pvS 0) (λ_ _=>rfl)) (@jb _ _ _ _ _ (@za _ _ _ _ _ zj (@za _ _ _ _ _ zj ze rfl) rfl)) (zG _))) (pvS 0)) (zd (psC 3 zcX.nd ["cell","told"] [none,some 1] cR (zN (pc0 (Yy T qE zA zv) hr qE (za (pvS 0) ze))) (pgN 0) (qp (zw (QA (K:=K) "r" hr.units) (zad (u1 hr.units) (pvS 1) (pvS 0) (λ_ _=>rfl)) (@jb _ _ _ _ _ (@za _ _ _ _ _ zj (@za _ _ _ _ _ zj ze rfl) rfl)) (zG _))) (pvS 0)) (zf (zx (jb (za (pvS 2) (za (pvS 3) ze)))))))),?_⟩;ac_nf;refine⟨_,rfl,p,l,b,n,rfl,B,R,sm,n0,λhz dd a3 H1 a2 ao aa s1=>?_,λhz H1 s1=>e hz H1 s1⟩;have bp:0<qg b n:="a"
  refine⟨_,rfl,p,l,b,n,rfl,B.mono s1,R,λd2 w2 H2 az U ap s2=>(dD d2 rfl ⟨_,SqL.of U⟩ (λy hy=>?_))⟩;have ai:Cel H2 w2 (zp b):=ap;refine zY (K:=K) (a:=d2) (xs:=w2) (λi N J=>∃u0 u,N=[u0,some (.ref dd)]/\zq H2 J/\J y=some (.lst u)/\Cel J u (((zp b).take i).filter λc=>decide (zM b n c=0))) (dB _ [] rfl (zc hy) zb (.nil)) (λi N J _ ⟨_,_,_,d,_⟩=>SqL.of (d _ _ U)) ?_ ?_
  .refine λi x N H3 hx=>fm λu0 u z0 s3 M j=>?_;subst z0;refine fJ (λc G ca z0 v=>?_) (Cel.get (Cel.mono s3 ai) hx);subst z0;have ak:=s2.trans s3;refine fq (λt hv ht=>?_) (aa c (X4 G));have g:=zax.t (k:=j3 c) (ak _ _ ao) v;rw[hv]at g;have yl:u.length<=64:=by
    rw[j.length];refine X7 (Xw _ _) ?_;rw[XC];lia
   refine⟨_,rfl,_,rfl,dd,_,rfl,g,Jm,λtq ab=>?_⟩;have r:=zc (o:=.tup [.int 0,.int 1]) ab;have ah:=ak.trans r;refine dB (pD _) (pD (0,1)) (PR.rdv (p:=frP (zM b n c) (qg b n)) ⟨t,rfl,ah _ _ ht⟩) (PR.rdv ⟨tq,rfl,zb⟩) (znu _ _) ⟨_,rfl,?_⟩;rw[XB,G,Xp];have ee:=zq9 (zlu b n c) bp;have ac:=r _ _ M;by_cases L:zM b n c=0
   .have ef:[c].filter (λc=>decide (zM b n c=0))=[c]:=by
     rw[W3,bw (br L)];rfl
    refine jQ (ee.trans (br L)) ⟨_,rfl,u,ac,XI yl "d",_,u++[.ref ca],rfl,λb' o e'=>?_,zb,?_⟩
    .rw[zg (zh e' hy)];exact r _ _ (s3 _ _ e')
    .show Cel _ _ (_++[c].filter _);rw[ef];exact zdV ac (j.mono r) (r _ _ v)
   .have ef:[c].filter (λc=>decide (zM b n c=0))=[]:=by
     rw[W3,bq (by rw[bg L];decide)];rfl
    refine qw (ee.trans (bg L)) (dB _ u rfl (s3.trans r) ac ?_);show Cel _ _ (_++[c].filter _);rw[ef,Xc];exact j.mono r
  .refine λN H3=>fm λu0 u z0 s3 M j=>?_;subst z0;rw[ai.length,XH]at j;have ag:=s1.trans (s2.trans s3);have yn:H y=none:=(s1.trans s2).free hy;refine⟨_,rfl,p,l,b,n,rfl,B.mono ag,R,λd4 w4 H4 a1 Y aq r=>(dD d4 rfl ⟨_,SqL.of Y⟩ (λz I=>?_))⟩;have O:Cel H4 w4 (zp b):=aq;have ah:=(s2.trans s3).trans r;refine zY (K:=K) (a:=d4) (xs:=w4) (λi N J=>∃u0 u,N=[u0,some (.ref dd)]/\zq H4 J/\J z=some (.lst u)/\Cel J u (((zp b).take i).filter λc=>decide (zM b n c=qg b n))) (dB _ [] rfl (zc I) zb (.nil)) (λi N J _ ⟨_,_,_,d,_⟩=>SqL.of (d _ _ Y)) ?_ ?_
   .refine λi x N H5 hx=>fm λu0 zs z0 s5 ae m=>?_;subst z0;refine fJ (λc G ca z0 v=>?_) (Cel.get (Cel.mono s5 O) hx);subst z0;have al:=ah.trans s5;refine fq (λt hv ht=>?_) (aa c (X4 G));have g:=zax.t (k:=j3 c) (al _ _ ao) v;rw[hv]at g;have yl:zs.length<=64:=by
     rw[m.length];refine X7 (Xw _ _) ?_;rw[XC];lia
    refine⟨_,rfl,_,rfl,dd,_,rfl,g,Jm,λtq ab=>?_⟩;have d:=zc (o:=.tup [.int 1,.int 1]) ab;have av:=al.trans d;refine dB (pD _) (pD (1,1)) (PR.rdv (p:=frP (zM b n c) (qg b n)) ⟨t,rfl,av _ _ ht⟩) (PR.rdv ⟨tq,rfl,zb⟩) (znu _ _) ⟨_,rfl,?_⟩;rw[XB,G,Xp];have ee:=zra (a:=zM b n c) bp;have af:=d _ _ ae;by_cases L:zM b n c=qg b n
    .have ef:[c].filter (λc=>decide (zM b n c=qg b n))=[c]:=by
      rw[W3,bw (br L)];rfl
     refine jQ (ee.trans (br L)) ⟨_,rfl,zs,af,XI yl "d",_,zs++[.ref ca],rfl,λb' o e'=>?_,zb,?_⟩
     .rw[zg (zh e' I)];exact d _ _ (s5 _ _ e')
     .show Cel _ _ (_++[c].filter _);rw[ef];exact zdV af (m.mono d) (d _ _ v)
    .have ef:[c].filter (λc=>decide (zM b n c=qg b n))=[]:=by
      rw[W3,bq (by rw[bg L];decide)];rfl
     refine qw (ee.trans (bg L)) (dB _ zs rfl (s5.trans d) af ?_);show Cel _ _ (_++[c].filter _);rw[ef,Xc];exact m.mono d
   .refine λN H5=>fm λu0 zs z0 s5 ae m=>?_;subst z0;rw[O.length,XH]at m;have am:=r.trans s5;refine⟨_,rfl,_,rfl,Jm,λt ht=>?_⟩;have d:=zc (o:=.tup [.ref y,.ref z]) ht;have an:=am.trans d;have aj:=ag.trans am;refine q hz t y z u zs _ (aj.free ht) yn ((ag.trans r).free I) (λe=>?_) zb (an _ _ M) (d _ _ ae) (j.mono an) (m.mono d) (aj.trans d);subst e;rw[r _ _ M]at I;cases I
def zo4 (C:Addr):Sp:=λe H Q E=>∃(p l d:Addr) (a:AE) (n:Int) (c:AA),e=[.ref p,.ref d]/\qd H p l a n/\Rows bd.cps.toList a/\Small a/\0<=n/\H d=some (.tup [.int (c.1:Nat),.int (c.2:Nat)])/\c∈zp a /\
 (qg a n≠0->∀(t:Addr) (b:Hp),b t=some (frT (zM a n c) (qg a n))->zq H b->Q (.ref t) b)/\(qg a n=0->∀b,zq H b->E (.ref C) none b)
def znv:zB ["board","cell"] ["board","cell"] (zo zcV):=bz
def znw (T:Txt mg)(j:qC K mg "NoLaying" jad)(Z:Prog K mg)(D:zm K mg "share" zcV ["board","cell"] f fd):zT P w K mg base (CXE P w) 10 f fd ["board","cell"] (zo4 jad):=by
 obtain⟨aa,Y,v⟩:=Z.shares;refine D.F.okX znv "l" (λy A m s H U Q E r h=>?_)
 .revert h;refine fW λp l x u n c z0 B R O=>fN λN d G q e=>?_;subst z0;refine⟨_,(zf (zx (zad (u1 r.units) (pcL Yj (zb9 T j Z v) r v (za (pvS 0) ze)) (pvS 1) (λ_ _=>rfl)))),?_⟩;ac_nf;refine⟨_,rfl,p,l,u,n,rfl,B,R,O,N,λi z M b I o a s1=>?_,λi b s1=>e i b s1⟩;obtain⟨t,L,J⟩:=a c G;have g:=zax.t (k:=j3 c) o (s1 _ _ d);rw[L]at g;exact⟨_,rfl,z,_,rfl,g,q i t b J s1⟩
abbrev Wy:=Nat×List (Int×Int)
def putN (m:List Wy)(n:Nat)(c:List (Int×Int)):List Wy:=if (m.any λq=>decide (q.1=n))=true then m.map (λq=>if q.1=n then (q.1,c) else q) else m++[(n,c)]
def Yk (ps:List Wy):List Wy:=ps.foldl (λa p=>putN a p.1 p.2) []
def zfo (ps:List Wy)(p:Wy):Yk (ps++[p])=putN (Yk ps) p.1 p.2:=by
 unfold Yk;rw[Vw];rfl
def znx {m:List Wy}{n:Nat}{c:List (Int×Int)}{q:Wy}(h:q∈putN m n c):q=(n,c)\/q∈m:=by
 unfold putN at h;split at h
 .obtain⟨x,a,e⟩:=XY.mp h;by_cases z:x.1=n
  .rw[bw z]at e;exact .inl (by rw[<- e,z])
  .rw[bq z]at e;exact .inr (e ▸ a)
 .rcases XU.mp h with h | h
  .exact .inr h
  .exact .inl ↑h
def zfp (m:List Wy)(n:Nat)(c:List (Int×Int)):(putN m n c).map (·.1)=if n∈m.map (·.1) then m.map (·.1) else m.map (·.1)++[n]:=by
 unfold putN;have e:(m.any λq=>decide (q.1=n))=true↔n∈m.map (·.1):=by
  rw[Ww,XY];exact⟨λ⟨x,h1,h2⟩=>⟨x,h1,bh h2⟩,λ⟨x,h1,h2⟩=>⟨x,h1,br h2⟩⟩
 by_cases h:n∈m.map (·.1)
 .rw[bw h,bw (e.mpr h),Wz];refine Xo λx _=>?_;show (if x.1=n then (x.1,c) else x).1=x.1;split<;>rfl
 .rw[bq h,bq λz=>h (e.mp z),XS];rfl
def zdW {P:List Wy->List Wy->Prop}(h0:P [] [])(h1:∀ps p,P ps (Yk ps)->P (ps++[p]) (putN (Yk ps) p.1 p.2)):∀(m:Nat) (ps:List Wy),ps.length=m->P ps (Yk ps):=by
 intro m;induction m with
 | zero =>
  intro ps h;rw[VF.mp h];exact h0
 | succ m b =>
  intro ps h;have a:ps ≠ []:=λe=>by rw[e]at h;cases h
  have e:=Sd a;rw[<- e,zfo];refine h1 _ _ (b _ ?_);rw[OW,h];rfl
def zdX {ps:List Wy}{q:Wy}(h:q∈Yk ps):q∈ps:=by
 refine zdW (P:=λps m=>∀q∈m,q∈ps) (λq h=>h) (λps p a q h=>?_) _ ps rfl q h;rcases znx h with e | h
 .rw[e];exact Xx _ XT
 .exact Xq _ (a q h)
def zhS {ps:List Wy}{n:Nat}:n∈(Yk ps).map (·.1)↔n∈ps.map (·.1):=by
 refine zdW (P:=λps m=>n∈m.map (·.1)↔n∈ps.map (·.1)) Iff.rfl (λps p a=>?_) _ ps rfl;rw[zfp,XS,XU,<- a];show _↔_\/n ∈ [p.1];split
 .rename_i h;exact⟨.inl,λz=>z.elim id λz=>by rw[Wj.mp z];exact h⟩
 .rw[XU]
def zdY (ps:List Wy):((Yk ps).map (·.1)).Nodup:=by
 refine zdW (P:=λ_ m=>(m.map (·.1)).Nodup) RS (λps p c=>?_) _ ps rfl;rw[zfp];split
 .exact c
 .rename_i h;rw[Wl];refine⟨c,"s",λa d b f e=>h ?_⟩;rw[<- Wj.mp f,<- e];exact d
def zhT {ps:List Wy}{b:Nat}(h:∀p∈ps,p.1<=b):(Yk ps).length<=b+1:=by
 have f:(((Yk ps).map (·.1)).map λn=>(0,n)).Nodup:=by
  have:=zdY ps;unfold Te at this ⊢;rw[Wx];exact this.imp λz e=>z (Prod.mk.inj e).2
 have:=Parts.zZ (b:=(Xk (b+1)).map λn=>(0,n)) f λx d=>by
  obtain⟨n,a,rfl⟩:=XY.mp d;obtain⟨q,c,rfl⟩:=XY.mp a;have:=h q (zdX c);exact XY.mpr ⟨q.1,W9.mpr "a",rfl⟩
 rw[ZB,ZB,ZB,WZ]at this;exact this
structure WK (H H':Hp):Prop where
 l:∀a xs,H a=some (.lst xs)->H' a=some (.lst xs)
 t:∀a xs,H a=some (.tup xs)->H' a=some (.tup xs)
def WK.of {H a:Hp}(s:zq H a):WK H a:=⟨λ_ _ e=>s _ _ e,λ_ _ e=>s _ _ e⟩
def WK.trans {H d c:Hp}(a:WK H d)(b:WK d c):WK H c:=⟨λx f e=>b.l _ _ (a.l _ _ e),λx f e=>b.t _ _ (a.t _ _ e)⟩
def WK.put {H:Hp}{d:Addr}{o:HO}(h:∀b,H d=some b->(∀xs,b ≠ .lst xs)/\∀xs,b ≠ .tup xs):WK H (upd H d o):=⟨λa xs e=>by
  rw[zg (λz=>by subst z;exact(h _ e).1 _ rfl)];exact e,λa xs e=>by
  rw[zg (λz=>by subst z;exact(h _ e).2 _ rfl)];exact e⟩
def zgq {H b:Hp}(s:WK H b){c:AF}{ps:List (Int×Int)}(d:j9 H c ps):j9 b c ps:=by
 induction d with
 | nil=>exact .nil
 | cons h _ f =>
  obtain⟨a,e,h⟩:=h;exact .cons ⟨a,e,s.t _ _ h⟩ f
def zew (H:Hp)(b:Key×V)(q:Wy):Prop:=b.1=VX ((q.1:Nat):Int)/\∃a c,b.2=V.ref a/\H a=some (.lst c)/\j9 H c q.2
def Zo (H:Hp):List (Key×V)->List Wy->Prop:=WW (zew H)
def zew.wk {H b:Hp}(s:WK H b){c:Key×V}{q:Wy}(h:zew H c q):zew b c q:=by
 obtain⟨e,a,f,d,h1,h2⟩:=h;exact⟨e,a,f,d,s.l _ _ h1,zgq s h2⟩
theorem Zo.wk {H b:Hp}(s:WK H b){a:List (Key×V)}{m:List Wy}(c:Zo H a m):Zo b a m:=by
 induction c with
 | nil=>exact .nil
 | cons h _ d=>exact .cons (h.wk s) d
def zgr {H:Hp}{a:Key×V}{q:Wy}(h:zew H a q)(n:Nat):a.1=VX ((n:Nat):Int)↔q.1=n:=by
 rw[h.1];constructor
 .intro e;have:=Sum.inl.inj e;lia
 .intro e;rw[e]
def zhU {H:Hp}{a:List (Key×V)}{m:List Wy}(b:Zo H a m)(n:Nat):(a.any λd=>decide (d.1=VX ((n:Nat):Int)))=m.any λq=>decide (q.1=n):=by
 induction b with
 | nil=>rfl
 | cons h _ c =>
  rw[Sw,Sw,c,decide_eq_decide.mpr (zgr h n)]
def zhV {H:Hp}{b:List (Key×V)}{m:List Wy}(e:Zo H b m){n:Nat}{v:V}{c:List (Int×Int)}(h:zew H (VX ((n:Nat):Int),v) (n,c)):Zo H (putK b (VX ((n:Nat):Int)) v) (putN m n c):=by
 unfold putK putN;rw[zhU e n];split
 .rename_i hh;clear hh;induction e with
  | nil=>exact .nil
  | @cons a q _ _ f _ g =>
   refine .cons ?_ g;by_cases z:q.1=n
   .have d:=(zgr f n).mpr z;show zew H (if a.1=_ then (a.1,v) else a) (if q.1=n then (q.1,c) else q);rw[bw d,bw z,d,z];exact h
   .have d:=λy=>z ((zgr f n).mp y);show zew H (if a.1=_ then (a.1,v) else a) (if q.1=n then (q.1,c) else q);rw[bq d,bq z];exact f
 .exact Paired.snoc e h
def zlv {H:Hp}{b:List (Key×V)}{ps:List Wy}(f:Zo H b ps):Zo H (QJ b) (Yk ps):=by
 suffices g:∀(a:List (Key×V)) (m:List Wy),Zo H a m->Zo H (b.foldl (λa c=>putK a c.1 c.2) a) (ps.foldl (λa p=>putN a p.1 p.2) m) from g [] [] .nil
 induction f with
 | nil=>exact λa m h=>h
 | @cons c q _ _ d _ i =>
  intro a m h;rw[Wp,Wp];refine i _ _ ?_;have e:c=(VX ((q.1:Nat):Int),c.2):=by rw[<- d.1]
  rw[d.1];exact zhV h (e ▸ d)
def zbI (ks:List (List (Int×Int))):List Wy:=Yk (ks.map λk=>(k.length,k))
def za3 (m:List Wy)(b:List Wy):List Wy:=m.flatMap λx=>b.map λy=>(x.1+y.1,x.2++y.2)
def zko:Sp:=λi H Q _=>∃(h f:Addr) (e:List (Key×V)) (m:List Wy) (g:AF) (b:List (List (Int×Int))) (N:Addr->Prop),i=[.ref h,.ref f]/\H h=some (.dK e)/\Zo H e m/\H f=some (.lst g)/\qR N H g b/\(∀k∈b,k.length<=64)/\b.length<=16384/\(∀q∈m,q.1=q.2.length/\q.1<=64)/\m.length<=65 /\
 ∀(d:Addr) (c:List (Key×V)) (a:Hp),H d=none->a d=some (.dK c)->Zo a c (Yk (za3 m (zbI b)))->zq H a->Q (.ref d) a
def zbJ {ks:List (List (Int×Int))}{q:Wy}(h:q∈zbI ks):q.2∈ks/\q.1=q.2.length:=by
 obtain⟨k,hk,rfl⟩:=XY.mp (zdX h);exact⟨hk,rfl⟩
def zny {H d:Hp}(s:∀a xs,H a=some (.tup xs)->d a=some (.tup xs)){f:AF}{c:List (Key×V)}(i:zhi H f c):zhi d f c:=by
 induction i with
 | nil=>exact .nil
 | cons h _ j =>
  obtain⟨b,e,g⟩:=h;exact .cons ⟨b,e,s _ _ g⟩ j
def zkp {H:Hp}{a:List (Key×V)}{m:List Wy}{i:Nat}{b:Key×V}(c:Zo H a m)(e:a[i]?=some b):∃q,m[i]?=some q/\zew H b q:=zaA c e
def zjc {m b:List Wy}{i:Nat}{x:Wy}(h:m[i]?=some x):za3 (m.take (i+1)) b=za3 (m.take i) b++b.map λy=>(x.1+y.1,x.2++y.2):=by
 unfold za3;rw[XB,h,OJ];congr 1;exact Xc _
def Zp:zB ["ways","picks","by_size","found","size","cells","more","pick"] ["ways","picks"] (zo zcW):=bz
def znz (T:Txt mg)(D:zm K mg "grown" zcW ["ways","picks"] f fd):zT P w K mg base CX0 1 f fd ["ways","picks"] zko:=by
 refine D.F.ok Zp "l" (λaV A aQ s H vs Q E hr h=>?_)
 .revert h;refine fV λB pa kw m us ks N z0 M hW a2=>fG λhL ae kl hm ml q=>?_;subst z0;refine⟨_,(zd (qf 2 Zp.nd (pt1 (zdq hr.units hr.hd) T.zf9 T9 (pcm ["pick"] [none] cP (zN (pv 1)) (pgN 0) qx (jb (za (pb1 (zeh (K:=K) "r") T.ju W0 (pv 0)) (za (pv 0) ze)))))) (zd (qf 3 Zp.nd zl9) (zd (zj4 (qu Xb rfl (zhg (zlR P3 S6 P1 zeZ (pv 0))) (j5 rfl (zH (pgq 4 Zp.nd) (zH (pgq 5 Zp.nd) qS))) (zf (zj4 (qu Xb rfl (zhg (zlR P3 S6 P1 zeZ (pv 2))) (j5 rfl (zH (pgq 6 Zp.nd) (zH (pgq 7 Zp.nd) qS))) (zf (zjP (u1 hr.units) (pv 3) (zu zih (pv 4) (pv 6)) (zu J9 (pv 5) (pv 7)) rfl))))))) (zf (zx (pv 3)))))),?_⟩;ac_nf;refine dX _ rfl pa rfl ⟨_,SqL.of a2⟩ (λz hz=>?_);refine zY (K:=K) (a:=pa) (xs:=us) (λi ah n=>∃(u0:Option V) (ys:AF) (g:List (Key×V)),ah=[u0]/\zq H n/\n z=some (.lst ys)/\zhi n ys g/\Zo H g ((ks.take i).map λk=>(k.length,k))/\ys.length=i) (dP none [] [] rfl (zc hz) zb (.nil) (.nil) rfl) (λi ah n _ ⟨_,_,_,_,y,_⟩=>SqL.of (y _ _ a2)) ?_ ?_
  .refine λi v ah H1 hv=>fE λu0 ys g z0 s1 O hP Y yl=>?_;subst z0;refine fC (λk a wk hk z0 _ ha tk=>?_) (Zk hL hv);subst z0;have aC:=s1 _ _ ha;have aW:=qZ s1 tk;have wl:=Zj tk;unfold yv;refine Z5 ?_;refine eE _ rfl a wk rfl (.inl (SqL.of aC)) (dD _ rfl Jm (λt ht=>?_));have y2:=zc (o:=.tup [.int (wk.length:Nat),.ref a]) ht;have aO:=y2 _ _ O;have tz:t≠z:=λe=>by
    rw[e,O]at ht;cases ht
   have il:i<ks.length:=(X2.mp hk).1;refine dD ys aO ?_ (dP _ (ys++[.ref t]) (g++[(VX ((k.length:Nat):Int),.ref a)]) rfl (λb o e=>?_) zb ?_ ?_ ?_)
   .rw[yl];exact XD (XD il kl) "d"
   .rw[zg (zh e hz)];exact(s1.trans y2) _ _ e
   .refine YZ ?_ (.cons ⟨t,rfl,?_⟩ .nil)
    .exact zny (λb xs e=>by rw[zg (λe2=>by rw[e2,O]at e;cases e)];exact y2 _ _ e) hP
    .rw[zg tz,zb,wl];rfl
   .rw[XB,hk,XS];exact YZ Y (.cons ⟨rfl,a,wk,rfl,ha,tk⟩ .nil)
   .rw[X5,yl];rfl
  refine λah H1=>fE λu0 ys g z0 s1 O hP Y yl=>?_;subst z0;rw[ja hL,XH]at Y;refine dF z ys g rfl O hP (λbd ax=>?_);have y1:=zc (o:=.dK (QJ g)) ax;refine λfd ab=>?_;have y2:=zc (o:=.dK []) ab;have aj:=y2 _ _ (zb (H:=H1) (a:=bd) (o:=.dK (QJ g)));have ak:=zb (H:=upd H1 bd (.dK (QJ g))) (a:=fd) (o:=.dK []);have s2:=s1.trans (y1.trans y2);have bn:H bd=none:=s1.free ax;have fn:H fd=none:=(s1.trans y1).free ab;have bf:bd≠fd:=λe=>by
   rw[<- e,zb]at ab;cases ab
  generalize upd (upd H1 bd (.dK (QJ g))) fd (.dK [])=H2 at *
  have r:=s2 _ _ M;have wb:B≠bd:=zh M bn;have wf:B≠fd:=zh M fn;have au:Zo H (QJ g) (zbI ks):=zlv Y;have bl:(zbI ks).length<=65:=zhT λp hp=>by
   obtain⟨k,hk,rfl⟩:=XY.mp hp;exact ae k hk
  refine eB _ rfl (.inr (.inr (.inl ⟨rfl,.inl ⟨_,r⟩⟩))) B kw rfl rfl r (λv hv=>?_);have wv:B≠v:=zh r hv;refine dF v B kw rfl zb (by rw[zg wv];exact r) (λo=>?_);refine ze0 (λi σ n=>∃(kf:List (Key×V)) (v4 v5 v6 v7:Option V),σ=[some (.ref B),some (.ref pa),some (.ref bd),some (.ref fd),v4,v5,v6,v7]/\n B=some (.frz o (.dK kw))/\(∀b d,b≠B->H b=some d->n b=some d)/\n bd=some (.dK (QJ g))/\n fd=some (.dK kf)/\Zo n kf (Yk (za3 (m.take i) (zbI ks))))
   (dO [] _ _ _ _ rfl zb (λb d h1 e=>?_) ?_ ?_ (.nil)) (λi σ n _ ⟨_,_,_,_,_,_,h,_⟩=>h) ?_ ?_
  .rw[zg h1,zg (zh (s2 _ _ e) hv)];exact s2 _ _ e
  .rw[zg (Vh wb),zg (zh aj hv)];exact aj
  .rw[zg (Vh wf),zg (zh ak hv)];exact ak
  .refine λi kv Tt σ H3 hk hT=>fS λkf v4 v5 v6 v7 z0 ac al aw am U=>?_;subst z0;refine fq (λx hx aK=>?_) (zkp hW hk);revert aK;refine fQ λxk xa xu a8 aJ a5=>?_;have y4:=zc (o:=.tup [kV kv.1,kv.2]) hT;have xm:=hm x (X4 hx);refine dJ Tt _ rfl (SqT.of zb) rfl _ _ rfl _ _ rfl rfl ?_;have a3:=y4 _ _ ac;have I:=y4 _ _ aw;have ay:=y4 _ _ am;have av:=U.wk (WK.of y4);have ar:∀b d,b≠B->H b=some d->upd H3 Tt (.tup [kV kv.1,kv.2]) b=some d:=λb d h1 e=>y4 _ _ (al b d h1 e);generalize upd H3 Tt (.tup [kV kv.1,kv.2])=H4 at *
   refine eB _ rfl (.inr (.inr (.inl ⟨rfl,.inl ⟨_,I⟩⟩))) bd _ rfl rfl I (λv' L=>?_);have bv:bd≠v':=zh I L;refine dF v' bd _ rfl zb (by rw[zg bv];exact I) (λo2=>?_);rw[xk,a8];refine ze0 (λj σ n=>∃(kf:List (Key×V)) (v6 v7:Option V),σ=[some (.ref B),some (.ref pa),some (.ref bd),some (.ref fd),some (.int (x.1:Nat)),some (.ref xa),v6,v7]/\n bd=some (.frz o2 (.dK (QJ g)))/\n B=some (.frz o (.dK kw))/\(∀b d,b≠B->H b=some d->n b=some d)/\n fd=some (.dK kf)/\Zo n kf (Yk (za3 (m.take i) (zbI ks)++((zbI ks).take j).map λy=>(x.1+y.1,x.2++y.2))))
    (dP kf _ _ rfl zb ?_ (λb d h1 e=>?_) ?_ ?_) (λj σ n _ ⟨_,_,_,_,h,_⟩=>h) ?_ ?_
   .rw[zg wb,zg (zh a3 L)];exact a3
   .rw[zg (zh e bn),zg (zh (ar b d h1 e) L)];exact ar b d h1 e
   .rw[zg (Vh bf),zg (zh ay L)];exact ay
   .rw[SS,R5,Xc];exact av.wk ((WK.of (zc L)).trans (WK.put λd e=>by
     rw[zg bv,I]at e;cases e;exact⟨(λxs z=>nomatch z),(λxs z=>nomatch z)⟩))
   .refine λj a4 T2 σ H5 aF aB=>fE λaf v6 v7 z0 aa ao J an G=>?_;subst z0;refine fq (λy hy aN=>?_) (zkp au aF);revert aN;refine fQ λyk ya yu a9 aM a6=>?_;obtain⟨aT,aU⟩:=zbJ (X4 hy);have aS:=ae _ aT;have y6:=zc (o:=.tup [kV a4.1,a4.2]) aB;have nw:∀(b:Addr) (d:HO),H b=some d->d ≠ .dK kw->b≠B:=λb d e aG z=>by
     subst z;rw[M]at e;exact aG (Option.some.inj e).symm
    have aR:WK H H5:=⟨λb xs e=>J b _ (nw b _ e (λz=>nomatch z)) e,λb xs e=>J b _ (nw b _ e (λz=>nomatch z)) e⟩;rw[yk,a9]at *
    refine dJ T2 _ rfl (SqT.of zb) rfl _ _ rfl _ _ rfl rfl ?_;have xl:xu.length<=64:=by
     rw[Zj a5];lia
    have aX:yu.length<=64:=by
     rw[Zj a6];exact aS
    have aq:=aR.trans (WK.of y6);refine dN _ rfl _ rfl (dQ xa ya xu yu rfl rfl (aq.l _ _ aJ) (aq.l _ _ aM) (X7 (show xu.length+yu.length<=200 by lia) "d") (λc hc=>?_));have y7:=zc (o:=.lst (xu++yu)) hc;have a7:=aq.trans (WK.of y7);have aE:=zb (H:=upd H5 T2 (.tup [kV (VX ((y.1:Nat):Int)),V.ref ya])) (a:=c) (o:=.lst (xu++yu));have az:=y7 _ _ (y6 _ _ an);have aD:=y7 _ _ (y6 _ _ aa);have aH:=y7 _ _ (y6 _ _ ao);have ai:=G.wk (WK.of (y6.trans y7));have aA:∀b d,b≠B->H b=some d->upd (upd H5 T2 (.tup [kV (VX ((y.1:Nat):Int)),V.ref ya])) c (.lst (xu++yu)) b=some d:=λb d h1 e=>y7 _ _ (y6 _ _ (J b d h1 e));generalize upd (upd H5 T2 (.tup [kV (VX ((y.1:Nat):Int)),V.ref ya])) c (.lst (xu++yu))=H7 at *
    have aP:af.length<=200:=by
     rw[Paired.length ai];refine X7 (zhT (b:=128) λp hp=>?_) "d";rcases XU.mp hp with hp | hp
     .obtain⟨x',aI,hp⟩:=Wq.mp hp;obtain⟨y',ap,rfl⟩:=XY.mp hp;have a1:=(hm x' (Wv aI)).2;obtain⟨b1,b2⟩:=zbJ ap;have b3:=ae _ b1;show x'.1+y'.1<=128;lia
     .obtain⟨y',ap,rfl⟩:=XY.mp hp;obtain⟨b1,b2⟩:=zbJ (Wv ap);have b3:=ae _ b1;show x.1+y'.1<=128;lia
    have ek:((x.1:Nat):Int)+((y.1:Nat):Int)=((x.1+y.1:Nat):Int):="a"
    refine dN _ rfl _ rfl (eE _ rfl _ _ rfl rfl (dM fd _ rfl (zg1.k (k:=VX (((x.1:Nat):Int)+((y.1:Nat):Int))) az (XI aP "d")) ?_));have ag:WK H7 (upd H7 fd (.dK (putK af (VX (((x.1:Nat):Int)+((y.1:Nat):Int))) (.ref c)))):=WK.put λd e=>by
     rw[az]at e;cases e;exact⟨(λxs z=>nomatch z),(λxs z=>nomatch z)⟩
    refine dP _ _ _ rfl (by rw[zg bf];exact aD) (by rw[zg wf];exact aH) (λb d h1 e=>by rw[zg (zh e fn)];exact aA b d h1 e) zb ?_;rw[XB,hy,XS,<- WP];show Zo _ _ (Yk (_++[(x.1+y.1,x.2++y.2)]));rw[zfo,ek];refine zhV (Zo.wk ?_ ai) (fk rfl c (xu++yu) rfl ?_ ?_)
    .rw[<- ek];exact ag
    .rw[<- ek];exact ag.l _ _ aE
    .rw[<- ek];exact zbA (zgq (a7.trans ag) a5) (zgq (a7.trans ag) a6)
   .refine λσ H5=>fE λaf v6 v7 z0 aa ao J an G=>?_;subst z0;refine eu bd o2 _ aa (λd u z=>by rw[I]at z;cases z) ?_;refine dO af _ _ _ _ rfl (by rw[zg wb];exact ao) (λb d h1 e=>by rw[zg (zh e bn)];exact J b d h1 e) zb (by rw[zg (Vh bf)];exact an) ?_;rw[Paired.length au,XH,<- zjc hx]at G;exact G.wk (WK.put λd e=>by
     rw[aa]at e;cases e;exact⟨(λxs z=>nomatch z),(λxs z=>nomatch z)⟩)
  .refine λσ H3=>fS λkf v4 v5 v6 v7 z0 ac al aw am U=>?_;subst z0;rw[Paired.length hW,XH]at U;refine eu B o kw ac (λd u z=>by rw[r]at z;cases z) ?_;refine⟨_,rfl,q fd kf _ fn (by rw[zg (Vh wf)];exact am) (U.wk (WK.put λd e=>by
     rw[ac]at e;cases e;exact⟨(λxs z=>nomatch z),(λxs z=>nomatch z)⟩)) λb d e=>?_⟩
   by_cases z:b=B
   .subst z;rw[zb];rw[M]at e;exact e
   .rw[zg z];exact al b d z e
def oth (F:AD)(c:AA):AD:=F.filter λx=>!decide (x=c)
def zaL (l:AD):List AD:=(Xk (l.length+1)).map l.take
def zcz (F:AD)(c:AA):List AD:=if c∈F then zaL (oth F c)++(zaL (oth F c)).map (·++[c]) else zaL (oth F c)
def znA:Sp:=λi H Q _=>∃(f e:Addr) (g:AF) (F:AD) (c:AA),i=[.ref f,.ref e]/\H f=some (.lst g)/\Cel H g F/\F.length<=63/\H e=some (.tup [.int (c.1:Nat),.int (c.2:Nat)]) /\
 ∀(d:Addr) (h:AF) (b:Hp),H d=none->b d=some (.lst h)->qR (λa=>H a=none) b h ((zcz F c).map toL)->zq H b->Q (.ref d) b
def zrb (xs:AF){i:Nat}(h:i<=xs.length):zaw xs none (some ((i:Nat):Int))=xs.take i:=by
 have e:=HT.zbg xs.length xs.length i;unfold zaw;rw[e];show (xs.drop 0).take (min i xs.length-0)=_;rw[List.drop_zero,Nat.sub_zero,Vn h]
theorem zhW {H:Hp}:∀{a:AF} {cs:AD} (i:Nat),Cel H a cs->Cel H (a.take i) (cs.take i)
 | _,_,0,_=>by
  rw[SS,SS];exact .nil
 | _,_,i+1,.nil=>.nil
 | _,_,i+1,.cons h t=>.cons h (zhW i t)
def zjd (l:AD)(i:Nat):(Xk (i+1)).map l.take=(Xk i).map l.take++[l.take i]:=by
 rw[U5,XS];rfl
def Qo:zB ["cells","cell","others","picks"] ["cells","cell"] (zo ZG):=bz
def zgs (T:Txt mg)(D:zm K mg "far_picks" ZG ["cells","cell"] f fd):zT P w K mg base CX0 1 f fd ["cells","cell"] znA:=by
 refine D.F.ok Qo "l" (λap A am s H vs Q E hr h=>?_)
 .revert h;refine fS λfa B us F c z0 af hC aq ac q=>?_;subst z0;have ul:=hC.length;refine⟨_,(zd (qf 2 Qo.nd (pcm ["place","cell"] [none,some 1] cR (zN (pv 0)) (pgN 0) (qp (zcK (zcf (K:=K) "r" hr.units) (pv 0) (pv 1) (zG _))) (pv 0))) (zd (psC 3 Qo.nd ["size","others"] [none,some 2] cR (prg T.jg (zu zih (pb1 YU T.ju W0 (pv 2)) zj)) (pgN 0) qx (Qy (zhf (K:=K) "r") (pv 1) zcL (zab (pv 0)))) (zd (qo (zcK (xY hr.units) (pv 1) (pv 0) "r") (zf (zx (pv 3))) zR) (zf (zx (zu J9 (pv 3) (pcm ["pick","cell"] [none,some 1] cR (zN (pv 3)) (pgN 0) qx (zu J9 (pv 0) (ql (za (pv 1) ze)))))))))),?_⟩;ac_nf;refine dX _ rfl fa rfl ⟨_,SqL.of af⟩ (λz hz=>?_);refine zY (K:=K) (a:=fa) (xs:=us) (λi l G=>∃(L:Option V) (n:AF),l=[L,some (.ref B)]/\zq H G/\G z=some (.lst n)/\Cel G n (oth (F.take i) c)/\n.length<=i) (dH none [] rfl (zc hz) zb (.nil) (XW _)) (λi l G _ ⟨_,_,_,y,_⟩=>SqL.of (y _ _ af)) ?_ ?_
  .refine λi v l H1 hv=>fF λL n z0 s1 u I yl=>?_;subst z0;refine fJ (λx J xa z0 aa=>?_) (Cel.get (hC.mono s1) hv);subst z0;have il:i<us.length:=(X2.mp hv).1;have et:oth (F.take (i+1)) c=oth (F.take i) c++if (!decide (x=c))=true then [x] else []:=by
    unfold oth;rw[XB,J,Xp];congr 1;show Ul _ [x]=_;rw[W3];rfl
   refine dN _ rfl _ rfl (dB (zk x) (zk c) (xJ.rdv ⟨xa,rfl,aa⟩) (xJ.rdv ⟨B,rfl,s1 _ _ ac⟩) (ze7 x c) (dG _ rfl ?_));have ei:(if true=true then !PyData.eqv (zk x) (zk c) else Xg (zk x) (zk c))=!decide (x=c):=by
    rw[bw rfl,zb0]
   rw[ei,et];by_cases hh:(!decide (x=c))=true
   .refine jQ hh ?_;rw[bw hh];refine dX _ rfl n u (XI yl (XD (show i<100 by lia) "d")) (dH _ (n++[.ref xa]) rfl (λb o e=>?_) zb ?_ ?_)
    .rw[zg (zh e hz)];exact s1 _ _ e
    .refine Cel.append (Cel.into _ _ u I) (.cons ⟨xa,rfl,?_⟩ .nil);rw[zg (λe=>by rw[e,u]at aa;cases aa)];exact aa
    .rw[X5];exact Tz yl
   .refine qw (WU.mpr hh) ?_;rw[bq hh,Xc];exact dH _ n rfl s1 u I (Vx yl)
  refine λl H1=>fF λL n z0 s1 u I yl=>?_;subst z0;rw[ul,XH]at I;have ol:=I.length;have ar:n.length<=63:="a"
  refine eE _ rfl z _ rfl (.inl (SqL.of u)) (dM _ _ rfl rfl (dW _ rfl ?_ ?_ (λd hd=>?_)))
  .lia
  .lia
  rw[show (((n.length:Nat):Int)+1).toNat=n.length+1 by lia];refine zaQ (lo:=0) (λi l G=>∃(L:Option V) (r:AF),l=[L,some (.ref z)]/\zq H1 G/\G d=some (.lst r)/\qR (λa=>a≠d/\H a=none) G r (((Xk i).map (oth F c).take).map toL)/\r.length=i) (dH none [] rfl (zc hd) zb (.nil) rfl) ?_ ?_
  .refine λi l H2 hi=>fF λL r z0 s2 m ab wl=>?_;subst z0;rw[SX];unfold yv;refine Z5 ?_;have al:=s2 _ _ u;refine dN _ rfl _ rfl (eE _ rfl z _ rfl (SqL.of al) (λx J=>?_));rw[zrb n "a"]at *
   have y3:=zc (o:=.lst (n.take i)) J;have xd:x≠d:=λe=>by
    rw[e,m]at J;cases J
   refine eW r (y3 _ _ m) ?_ _ (r++[.ref x]) rfl (λb o e=>?_) zb ?_ ?_
   .rw[wl];exact XD (show i<100 by lia) "d"
   .rw[zg (zh e hd)];exact(s2.trans y3) _ _ e
   .rw[zjd,XS];refine yM (jf (y3 _ _ m) (λ_ h=>h.1) (qa y3 ab)) (.cons (dB x (n.take i) rfl ⟨xd,(s1.trans s2).free J⟩ (by rw[zg xd];exact zb) ?_) .nil);exact yL (y3 _ _ m) (Cel.tup2 (zhW i ((I.mono s2).mono y3)))
   .rw[X5,wl];rfl
  refine λl H2=>fF λL r z0 s2 m ab wl=>?_;subst z0;have p:=s1.trans s2;have dn:H d=none:=s1.free hd;have U:qR (λa=>a≠d/\H a=none) H2 r ((zaL (oth F c)).map toL):=by
   unfold zaL;rw[<- ol];exact ab
  have ai:(if true=true then !(F.map zk).any (λz=>Xg z (zk c)) else (F.map zk).any λz=>Xg z (zk c))=!decide (c∈F):=by
   rw[bw rfl,jV];congr 1;rw[W7,Parts.xh,bu]
  refine dN _ rfl _ rfl (d9 (zk c) (F.map zk) (xJ.rdv ⟨B,rfl,p _ _ ac⟩) (.lst (SqL.of (p _ _ af)) (zay (hC.mono p))) rfl (zen _) (by show 1<=60;decide) (dG _ rfl ?_));rw[ai];by_cases hc:c∈F
  .refine qw (by rw[br hc];rfl) ?_;refine dN _ rfl _ rfl (dD d rfl ⟨_,SqL.of m⟩ (λe he=>?_));refine zY (K:=K) (a:=d) (xs:=r) (λi l G=>∃(L:Option V) (n:AF),l=[L,some (.ref B)]/\zq H2 G/\G e=some (.lst n)/\qR (λa=>a≠e/\H a=none) G n ((((zaL (oth F c)).take i).map (·++[c])).map toL)/\n.length=i) (dH none [] rfl (zc he) zb (.nil) rfl) (λi l G _ ⟨_,_,_,y,_⟩=>SqL.of (y _ _ m)) ?_ ?_
   .refine λi v l H3 hv=>fF λL es z0 N Y O el=>?_;subst z0;refine fC (λk a wa hk z0 _ ha ta=>?_) (Zk U hv);subst z0;refine fq (λk' ah z0=>?_) (zgg hk);subst z0;have il:i<r.length:=(X2.mp hv).1;unfold yv;refine Z5 ?_;refine dX _ rfl _ rfl sz_1 (λt ht=>?_);have y4:=zc (o:=.lst [V.ref B]) ht;have kl:wa.length<=63:=by
     rw[Zj ta];show (k'.map toI).length<=63;rw[ZB];obtain⟨j,hj,rfl⟩:=XY.mp (X4 ah);rw[XC];lia
    refine dQ a t wa [.ref B] rfl rfl (y4 _ _ (N _ _ ha)) zb (X7 (show wa.length+1<=100 by lia) "d") (λx J=>?_);have y5:=zc (o:=.lst (wa++[.ref B])) J;have M:=y4.trans y5;have ak:=zb (H:=upd H3 t (.lst [V.ref B])) (a:=x) (o:=.lst (wa++[.ref B]));have xe:x≠e:=λz=>by
     subst z;rw[y4 _ _ Y]at J;cases J
    have xn:H x=none:=((p.trans N).trans y4).free J;have ae:=M _ _ Y;have ag:=M _ _ (N _ _ (p _ _ ac));have an:=qZ (N.trans M) ta;have aj:=qa M O;have s5:=N.trans M;generalize upd (upd H3 t (.lst [V.ref B])) x (.lst (wa++[.ref B]))=H5 at *
    refine eW es ae ?_ _ (es++[.ref x]) rfl (λb o z=>?_) zb ?_ ?_
    .rw[el];exact XD (show i<100 by lia) "d"
    .rw[zg (zh z he)];exact s5 _ _ z
    .rw[XB,ah,XS,XS];refine yM (jf ae (λ_ h=>h.1) aj) (.cons (dB x _ rfl ⟨xe,xn⟩ (by rw[zg xe];exact ak) ?_) .nil);show j9 _ (wa++[.ref B]) ((k'++[c]).map toI);rw[XS];exact yL ae (zbA an (.cons ⟨B,rfl,ag⟩ .nil))
    .rw[X5,el];rfl
   refine λl H3=>fF λL es z0 N Y O el=>?_;subst z0;have ao:r.length=(zaL (oth F c)).length:=by rw[ja U,ZB]
   rw[ao,XH]at O;refine dQ d e r es rfl rfl (N _ _ m) Y (X7 (show r.length+es.length<=200 by lia) "d") (λg hg=>?_);have y4:=zc (o:=.lst (r++es)) hg;refine q g (r++es) _ ((p.trans N).free hg) zb ?_ ((p.trans N).trans y4);unfold zcz;rw[bw hc,XS];exact yM (qa (N.trans y4) (jM (λ_ h=>h.2) U)) (qa y4 (jM (λ_ h=>h.2) O))
  .refine jQ (by rw[bg hc];rfl) ?_;refine⟨_,rfl,q d r H2 dn m ?_ p⟩;unfold zcz;rw[bq hc];exact jM (λ_ h=>h.2) U
abbrev Gp:=AD×List AD
def okP (c:AA)(b:Bool)(g:Gp)(k:AD):Bool:=!decide (c∈g.1) || decide (decide (c∈k)=b)
def zar (c:AA)(b:Bool)(g:Gp):List AD:=g.2.filter (okP c b g)
def zpN (c:AA)(b:Bool)(a:List AD)(g:Gp):List AD:=a.flatMap λx=>(zar c b g).map (x++·)
def comb (c:AA)(b:Bool)(G:List Gp):List AD:=G.foldl (zpN c b) [[]]
def J8 (c:AA)(b:Bool)(G:List Gp)(g:Gp):comb c b (G++[g])=zpN c b (comb c b G) g:=by
 unfold comb;rw[Vw];rfl
def zsw (c:AA)(b:Bool)(m:List Wy)(g:Gp):List Wy:=Yk (za3 m (zbI ((zar c b g).map toL)))
def jG (c:AA)(b:Bool)(G:List Gp):List Wy:=G.foldl (zsw c b) [(0,[])]
def zas (c:AA)(b:Bool)(G:List Gp)(g:Gp):jG c b (G++[g])=zsw c b (jG c b G) g:=by
 unfold jG;rw[Vw];rfl
def zat (k:AD):(toL k).length=k.length:=ZB _
def zo5 (a k:AD):toL (a++k)=toL a++toL k:=XS
def Q2 {α:Type}{P:List α->Prop}(h0:P [])(h1:∀l x,P l->P (l++[x])):∀(m:Nat) (l:List α),l.length=m->P l:=by
 intro m;induction m with
 | zero =>
  intro l h;rw[VF.mp h];exact h0
 | succ m b =>
  intro l h;have a:l ≠ []:=λe=>by rw[e]at h;cases h
  rw[<- Sd a];refine h1 _ _ (b _ ?_);rw[OW,h];rfl
def zdZ (c:AA)(b:Bool)(G:List Gp):∀q∈jG c b G,∃S∈comb c b G,q=(S.length,toL S):=by
 refine Q2 (P:=λG=>∀q∈jG c b G,∃S∈comb c b G,q=(S.length,toL S)) ?_ (λG g i q a=>?_) _ G rfl
 .intro q a;rw[Wj.mp (show q ∈ [((0:Nat),([]:List (Int×Int)))] from a)];exact⟨[],XT,rfl⟩
 .rw[zas]at a;obtain⟨x,f,a⟩:=Wq.mp (zdX a);obtain⟨y,h,rfl⟩:=XY.mp a;obtain⟨S,d,rfl⟩:=i x f;obtain⟨h1,h2⟩:=zbJ h;obtain⟨k,hk,e⟩:=XY.mp h1;refine⟨S++k,?_,?_⟩
  .rw[J8];exact Wq.mpr ⟨S,d,XY.mpr ⟨k,hk,rfl⟩⟩
  .rw[h2,<- e,zat,X5,zo5]
def znB (c:AA)(b:Bool)(G:List Gp):∀S∈comb c b G,S.length∈(jG c b G).map (·.1):=by
 refine Q2 (P:=λG=>∀S∈comb c b G,S.length∈(jG c b G).map (·.1)) ?_ (λG g l S a=>?_) _ G rfl
 .intro S a;rw[Wj.mp (show S ∈ [([]:AD)] from a)];exact XT
 .rw[J8]at a;obtain⟨x,i,a⟩:=Wq.mp a;obtain⟨k,hk,rfl⟩:=XY.mp a;obtain⟨p,h,e⟩:=XY.mp (l x i);have d:k.length∈(zbI ((zar c b g).map toL)).map (·.1):=zhS.mpr (XY.mpr ⟨(k.length,toL k),XY.mpr ⟨toL k,XY.mpr ⟨k,hk,rfl⟩,by rw[zat]⟩,rfl⟩);obtain⟨y,j,f⟩:=XY.mp d;rw[zas];refine zhS.mpr (XY.mpr ⟨(p.1+y.1,p.2++y.2),Wq.mpr ⟨p,h,XY.mpr ⟨y,j,rfl⟩⟩,?_⟩);show p.1+y.1=_;rw[X5,<- e,<- f]
def znC (c:AA)(b:Bool)(G:List Gp)(h:∀q∈jG c b G,q.1<=64):(jG c b G).length<=65:=by
 have d:((jG c b G).map (·.1)).Nodup:=by
  refine Q2 (P:=λG=>((jG c b G).map (·.1)).Nodup) (by simp[jG]) (λG g _=>?_) _ G rfl;rw[zas];exact zdY _
 have a:(((jG c b G).map (·.1)).map λn=>(0,n)).Nodup:=by
  unfold Te at d ⊢;rw[Wx];exact d.imp λz e=>z (Prod.mk.inj e).2
 have:=Parts.zZ (b:=(Xk 65).map λn=>(0,n)) a λx j=>by
  obtain⟨n,f,rfl⟩:=XY.mp j;obtain⟨q,i,rfl⟩:=XY.mp f;have:=h q i;exact XY.mpr ⟨q.1,W9.mpr "a",rfl⟩
 rw[ZB,ZB,ZB,WZ]at this;exact this
def zrc {H:Hp}{a:List (Key×V)}{m:List Wy}(b:Zo H a m){k:Key}{v:V}(h:j4 a k=some v):∃q∈m,zew H (k,v) q:=by
 induction b with
 | nil=>cases h
 | @cons f q _ _ c _ d =>
  by_cases e:f.1=k
  .rw[jR e]at h;cases h;exact⟨q,XT,e ▸ c⟩
  .rw[jS e]at h;obtain⟨p,h1,h2⟩:=d h;exact⟨p,XQ _ h1,h2⟩
def zo6 (H:Hp)(v:V)(g:Gp):Prop:=∃t a c b d,v=V.ref t/\H t=some (.tup [.ref a,.ref c])/\H a=some (.lst b)/\Cel H b g.1/\H c=some (.lst d)/\qR (λ_=>True) H d (g.2.map toL)
def zfq (H:Hp):AF->List Gp->Prop:=WW (zo6 H)
theorem zo6.mono {H a:Hp}(s:zq H a){v:V}{g:Gp}(h:zo6 H v g):zo6 a v g:=by
 revert h;refine fS λt b j c l e h1 h2 d f i=>?_;exact dO t b j c l e (s _ _ h1) (s _ _ h2) (d.mono s) (s _ _ f) (qa s i)
theorem zfq.mono {H a:Hp}(s:zq H a){b:AF}{G:List Gp}(c:zfq H b G):zfq a b G:=by
 induction c with
 | nil=>exact .nil
 | cons h _ d=>exact .cons (h.mono s) d
def zrd (c:AA)(b:Bool)(G:List Gp):Prop:=(∀i,∀S∈comb c b (G.take i),S.length<=64)/\∀g∈G,g.2.length<=16384/\∀k∈g.2,k.length<=64
abbrev znD (ps:List (Int×Int)):Prop:=GS.Sm false (λp q=>lt2 p q=true) ps
def zpO:Sp:=λj H Q _=>∃(g f:Addr) (b:Bool) (st:Nat) (h:AF) (G:List Gp) (c:AA),j=[.ref g,.ref f,.bl b,.int (st:Nat)]/\H g=some (.lst h)/\zfq H h G/\H f=some (.tup [.int (c.1:Nat),.int (c.2:Nat)])/\zrd c b G/\(∀S∈comb c b G,S.length=st->znD (toL S)) /\
 ((∀S∈comb c b G,S.length≠st)->∀a,zq H a->Q .non a) /\
 (∀S∈comb c b G,S.length=st->∀(d:Addr) (i:AF) (e:List (Int×Int)) (a:Hp),e.Perm (toL S)->e.Pairwise (λp q=>lt2 q p=false)->H d=none->a d=some (.lst i)->j9 a i e->zq H a->Q (.ref d) a)
def yg:zB ["groups","cell","lies","stones","ways","cells","picks"] ["groups","cell","lies","stones"] (zo x9):=bz
def zd0 (T:Txt mg)(Z:Prog K mg){f:Addr}{fd:Xz}(D:zm K mg "some_laying" x9 ["groups","cell","lies","stones"] f fd):zT P w K mg base CX0 2 f fd ["groups","cell","lies","stones"] zpO:=by
 obtain⟨aA,aB,al⟩:=Z.grown;have a8:=znz (P:=P) (w:=w) (base:=base) T al;refine D.F.ok yg "l" (λa9 A a4 s H vs Q E hr h=>?_)
 .revert h;refine fV λga O b st us G c z0 ac hG ao=>fO λhF ab q1 q2=>?_;subst z0;refine⟨_,(zd (qf 4 yg.nd (zol (zma zj (@ql _ _ _ _ ze) zok) rfl rfl "s" "d")) (zd (qu Xb rfl (zN (pv 0)) (j5 rfl (zH (pgq 5 yg.nd) (zH (pgq 6 yg.nd) qS))) (zf (qf 4 yg.nd (pc0 a8 hr al (za (pv 4) (za (pcm ["pick","cell","cells","lies"] [none,some 1,some 5,some 2] cR (zN (pv 6)) (pgN 0) (qp (PW.pt (Z9 (zcK (QB (K:=K) "r" hr.units) (pv 1) (pv 2) "r") (ZW (zcK j6 (jB (jH (K:=K) "r" hr.units) (pv 1) (pv 0) "r") (pv 3) (zG _)))))) (pv 0)) ze)))))) (zd (qo (zp5 (zkR (u1 hr.units) (pv 3) (pv 4))) (@zf _ _ _ (@zx _ _ _ _ ZV)) zR) (zf (zx (pb1 (GS.zaD GS.zoA) T.QO Vd (zad (u1 hr.units) (pv 4) (pv 3) (λ_ _=>rfl)))))))),?_⟩;ac_nf;refine λn ah=>?_;refine⟨Qu,λe he=>?_⟩;have y1:=zc (o:=.dK []) ah;have y2:=zc (o:=.lst []) he;have ai:=y2 _ _ (zb (H:=H) (a:=n) (o:=.dK []));have au:=zb (H:=upd H n (.dK [])) (a:=e) (o:=.lst []);refine⟨ai,(dD [(VX 0,.ref e)] rfl (by show 1<=15;decide) ?_)⟩;have ew:e≠n:=λz=>by
   rw[z,zb]at he;cases he
  have s0:zq H (upd (upd (upd H n (.dK [])) e (.lst [])) n (.dK (Z0 [] [(VX 0,V.ref e)]))):=λb' o z=>by
   rw[zg (zh z ah)];exact(y1.trans y2) _ _ z
  have a2:=zb (H:=upd (upd H n (.dK [])) e (.lst [])) (a:=n) (o:=.dK (Z0 [] [(VX 0,V.ref e)]));have am:Zo (upd (upd (upd H n (.dK [])) e (.lst [])) n (.dK (Z0 [] [(VX 0,V.ref e)]))) (Z0 [] [(VX 0,V.ref e)]) (jG c b []):=.cons (fk rfl e [] rfl (by rw[zg ew];exact au) (.nil)) .nil;generalize Z0 [] [(VX 0,V.ref e)]=kw0 at *
  generalize upd (upd (upd H n (.dK [])) e (.lst [])) n (.dK kw0)=H2 at *
  refine dX _ rfl ga rfl ⟨_,SqL.of (s0 _ _ ac)⟩ ?_;refine Ji (K:=K) (a:=ga) (xs:=us) (λi σ J=>∃(wd:Addr) (Y:List (Key×V)) (v5 v6:Option V),σ=[some (.ref ga),some (.ref O),some (.bl b),some (.int (st:Nat)),some (.ref wd),v5,v6]/\zq H J/\J wd=some (.dK Y)/\Zo J Y (jG c b (G.take i)))
   (eV n kw0 _ _ rfl s0 a2 am) (λi σ J _ ⟨_,_,_,_,_,y,_⟩=>SqL.of (y _ _ ac)) ?_ ?_
  .refine λi x σ H3 hx=>fM λwd Y v5 v6 z0 s3 L I=>?_;subst z0;refine fq (λg hg=>fS λt cl pl cu pu z0 ht ap aq af ag=>?_) (zaA (hG.mono s3) hx);subst z0;refine dJ t _ rfl (SqT.of ht) rfl _ _ rfl _ _ rfl rfl ?_;have gm:=X4 hg;obtain⟨gl,gk⟩:=hF.2 g gm;have a6:pu.length=g.2.length:=by rw[ja ag,ZB]
   refine dN _ rfl _ rfl (dD pl rfl ⟨_,SqL.of af⟩ (λz hz=>?_));refine zY (K:=K) (a:=pl) (xs:=pu) (λj N J=>∃(u0:Option V) (M:AF),N=[u0,some (.ref O),some (.ref cl),some (.bl b)]/\zq H3 J/\J z=some (.lst M)/\qR (λa=>a≠z) J M (((g.2.take j).filter (okP c b g)).map toL)/\M.length<=j) (dH none [] rfl (zc hz) zb (.nil) (XW _)) (λj N J _ ⟨_,_,_,y,_⟩=>SqL.of (y _ _ af)) ?_ ?_
   .refine λj v N H4 hv=>fF λu0 M z0 m l B yl=>?_;subst z0;refine fC (λk0 a wk aw z0 _ ha tk=>?_) (Zk ag hv);subst z0;refine fq (λk hk z0=>?_) (zgg aw);subst z0;have jl:j<pu.length:=(X2.mp hv).1;have a7:=s3.trans m;have rc:Rdv K H4 (.ref O) (zk c):=xJ.rdv ⟨O,rfl,a7 _ _ ao⟩;have et:((g.2.take (j+1)).filter (okP c b g)).map toL=((g.2.take j).filter (okP c b g)).map toL++if okP c b g k=true then [toL k] else []:=by
     rw[XB,hk,Xp,XS];congr 1;show UF toL (Ul _ [k])=_;rw[W3];split<;>rfl
    have e1:(if true=true then !(g.1.map zk).any (λz=>Xg z (zk c)) else (g.1.map zk).any λz=>Xg z (zk c))=!decide (c∈g.1):=by
     rw[bw rfl,jV];congr 1;rw[W7,Parts.xh,bu]
    have e2:(if false=true then !((toL k).map pD).any (λz=>Xg z (zk c)) else ((toL k).map pD).any λz=>Xg z (zk c))=decide (c∈k):=by
     rw[bq XM,zm4];unfold toL;rw[Ug,W7,Ww,bu];exact⟨λ⟨x,h1,h2⟩=>(zgc (bh h2):x=c) ▸ h1,λh=>⟨c,h,br rfl⟩⟩
    have ak:okP c b g k=true->∃xs,H4 z=some (.lst xs)/\xs.length<Xy/\∃(u:Option V) (aa:AF),[some (V.ref a),some (V.ref O),some (V.ref cl),some (V.bl b)]=[u,some (.ref O),some (.ref cl),some (.bl b)]/\zq H3 (upd H4 z (.lst (xs++[.ref a])))/\upd H4 z (.lst (xs++[.ref a])) z=some (.lst aa)/\qR (λa=>a≠z) (upd H4 z (.lst (xs++[.ref a]))) aa (((g.2.take (j+1)).filter (okP c b g)).map toL)/\aa.length<=j+1:=λhh=>by
     rw[bw hh]at et;refine eW M l (XI yl (XD (show j<20000 by lia) "d")) _ (M++[.ref a]) rfl (λb' o z'=>?_) zb ?_ ?_
     .rw[zg (zh z' hz)];exact m _ _ z'
     .rw[et];have az:a≠z:=zh ha hz;exact yM (jf l (λ_ h=>h) B) (.cons (dB a wk rfl az (by rw[zg az];exact m _ _ ha) (yL l (qZ m tk))) .nil)
     .rw[X5];exact Tz yl
    refine dN _ rfl _ rfl (d9 (zk c) (g.1.map zk) rc (.lst (SqL.of (m _ _ ap)) (zay (aq.mono m))) rfl (zen _) (by show 1<=60;decide) (dG _ rfl ?_));rw[e1];by_cases hc:c∈g.1
    .refine qw (by rw[br hc];rfl) ?_;refine dN _ rfl _ rfl (d9 (zk c) ((toL k).map pD) rc (.lst (SqL.of (m _ _ ha)) (zhy (qZ m tk))) rfl (zi2 _) (by show 1<=60;decide) ?_);rw[e2];have eo:okP c b g k=decide (decide (c∈k)=b):=by
      unfold okP;rw[br hc];rfl
     refine dD _ rfl rfl (dG _ rfl ?_);by_cases hh:decide (c∈k)=b
     .refine jQ (br (by rw[hh])) ?_;exact⟨_,rfl,ak (by rw[eo];exact br hh)⟩
     .refine qw (bg λz'=>hh (V.bl.inj z')) ?_;rw[bq (by rw[eo,bu];exact hh),Xc]at et;refine dH _ M rfl m l ?_ (Vx yl);rw[et];exact B
    .refine jQ (by rw[bg hc];rfl) (zbj ?_);refine⟨_,rfl,ak ?_⟩;unfold okP;rw[bg hc];rfl
   refine λN H4=>fF λu0 M z0 m l B yl=>?_;subst z0;rw[a6,XH]at B;have a3:∀k∈(zar c b g).map toL,k.length<=64:=λk hk=>by
    obtain⟨k',av,rfl⟩:=XY.mp hk;rw[zat];exact gk k' (XZ.mp av).1
   have sm:=zdZ c b (G.take i);have ae:∀q∈jG c b (G.take i),q.1=q.2.length/\q.1<=64:=λq hq=>by
    obtain⟨S,U,rfl⟩:=sm q hq;exact⟨(zat S).symm,hF.1 i S U⟩
   have ml:(jG c b (G.take i)).length<=65:=znC c b (G.take i) λq hq=>(ae q hq).2;refine eN wd z Y _ M ((zar c b g).map toL) _ rfl (m _ _ L) (I.wk (WK.of m)) l (dR B a3 ?_ ae ml (λd kf H5 hd ar an s5=>?_))
   .rw[ZB];exact X7 (Xw _ _) gl
   .refine eV d kf _ _ rfl ((s3.trans m).trans s5) ar ?_;rw[XB,hg];show Zo _ _ (jG c b (G.take i++[g]));rw[zas];exact an
  .refine λσ H3=>fM λwd Y v5 v6 z0 s3 L I=>?_;subst z0;rw[Paired.length hG,XH]at I;have hk:(j4 Y (VX ((st:Nat):Int))).isSome=decide (st∈(jG c b G).map (·.1)):=by
    rw[<- QE,zhU I,W7,Ww,bu,XY];exact⟨λ⟨x,h1,h2⟩=>⟨x,h1,bh h2⟩,λ⟨x,h1,h2⟩=>⟨x,h1,br h2⟩⟩
   refine dN _ rfl _ rfl (eS wd _ rfl (zax.k (k:=VX ((st:Nat):Int)) L) _ rfl ?_);rw[hk];by_cases hs:st∈(jG c b G).map (·.1)
   .refine qw (by rw[br hs];rfl) ?_;have a1:(j4 Y (VX ((st:Nat):Int))).isSome=true:=by rw[hk];exact br hs
    obtain⟨v,hv⟩:=Wd.mp a1;obtain⟨p,hp,r⟩:=zrc I hv;obtain⟨S,U,rfl⟩:=zdZ c b G p hp;revert r;refine fQ λe1 a ws e2 ha tw=>?_;have e2:v=.ref a:=e2;subst e2;have es:S.length=st:=by
     have:=Sum.inl.inj e1;lia
    have sl:=hF.1 G.length S (by rw[XH];exact U);refine dN _ rfl _ rfl (dM wd (.ref a) rfl (hv ▸ zax.k (k:=VX ((st:Nat):Int)) L) (dI a ws (toL S) rfl (SqL.of ha) tw ?_ (λd aj a5 hd ht ax ay=>?_)))
    .rw[Zj tw,zat];lia
    .have y5:=zc (o:=.lst aj) hd;exact q2 S U es d aj a5 _ ax (ay (ab S U es)) (s3.free hd) zb (qZ y5 ht) (s3.trans y5)
   .refine jQ (by rw[bg hs];rfl) ?_;exact q1 (λS U e=>hs (e ▸ znB c b G S U)) H3 s3
structure zcA (rs:AE)(gs:List AD)(PG:List Gp):Prop where
 nd:(PG.map (·.1)).flatten.Nodup
 mem:∀p∈PG,p.1∈gs/\∀k,k∈p.2↔k∈Subs.subs p.1/\qB rs p.1 k=true
def zhX (rs:AE)(g:AD):Tally.Inv (qB rs g):=λa b e=>by
 have h:∀o,Grow.cnt (nearF rs) o a=Grow.cnt (nearF rs) o b:=λo=>(e.filter _).length_eq;unfold qB Grow.fits;simp only[h]
def znE {c:AA}{b:Bool}{g:Gp}{k:AD}(h:okP c b g k=true)(a:c∈g.1):decide (c∈k)=b:=by
 unfold okP at h;rw[br a]at h;exact bh h
def znF {c:AA}{b:Bool}{g:Gp}{k:AD}(h:c∈g.1->decide (c∈k)=b):okP c b g k=true:=by
 unfold okP;by_cases a:c∈g.1
 .rw[h a,br rfl,Bool.or_true]
 .rw[bg a];rfl
def zcA.init {rs:AE}{gs:List AD}{PG:List Gp}{p:Gp}(h:zcA rs gs (PG++[p])):zcA rs gs PG:=by
 refine⟨?_,λq a=>h.mem q (Xq _ a)⟩;have:=h.nd;rw[XS,WS]at this;exact(Wl.mp this).1
def zcA.off {rs:AE}{gs:List AD}{PG:List Gp}{p:Gp}(h:zcA rs gs (PG++[p])){x:AA}(a:x∈(PG.map (·.1)).flatten):x ∉ p.1:=λz=>by
 have:=h.nd;rw[XS,WS]at this;exact(Wl.mp this).2.2 x a x ↑z rfl
section
variable {rs:AE}{gs:List AD}(G:Parts.Good (clA rs) (qc rs) gs){c:AA}{b:Bool}
include G
theorem zd1:∀PG:List Gp,zcA rs gs PG->∀S∈comb c b PG,(∀x∈S,x∈(PG.map (·.1)).flatten)/\S.Nodup/\(∀p∈PG,qB rs p.1 S=true)/\(c∈(PG.map (·.1)).flatten->decide (c∈S)=b):=by
 intro PG;refine Q2 (P:=λPG=>zcA rs gs PG->∀S∈comb c b PG,(∀x∈S,x∈(PG.map (·.1)).flatten)/\S.Nodup/\(∀p∈PG,qB rs p.1 S=true)/\(c∈(PG.map (·.1)).flatten->decide (c∈S)=b)) ?_ (λPG p M ok S f=>?_) _ PG rfl
 .intro _ S f;rw[Wj.mp (show S ∈ [([]:AD)] from f)];exact⟨(λx h=>nomatch h),RS,(λp h=>nomatch h),(λh=>nomatch h)⟩
 .rw[J8]at f;obtain⟨i,s,f⟩:=Wq.mp f;obtain⟨k,hk,rfl⟩:=XY.mp f;refine fO (λn B D E=>?_) (M ok.init i s);obtain⟨u,v⟩:=XZ.mp hk;obtain⟨A,Q⟩:=ok.mem p (Xx _ XT);obtain⟨N,O⟩:=(Q k).mp u;have a:=Tally.jr N;have m:∀g∈gs,∀x∈g,x∈zp rs:=λg I x hx=>jh G x (WN.mpr ⟨g,I,hx⟩);have o:p.1.Nodup:=qY (G.srt _ A);have d:∀x∈i,x ∉ p.1:=λx hx=>ok.off (n x hx);have j:∀x∈i,x∈zp rs:=λx hx=>by
   obtain⟨l,J,w⟩:=WN.mp (n x hx);obtain⟨q,hq,rfl⟩:=XY.mp J;exact m _ (ok.init.mem q hq).1 x w
  have H:((PG++[p]).map (·.1)).flatten=(PG.map (·.1)).flatten++p.1:=by
   rw[XS,WS];simp
  rw[H];refine⟨λx hx=>?_,?_,λq hq=>?_,λhc=>?_⟩
  .rcases XU.mp hx with hx | hx
   .exact Xq _ (n x hx)
   .exact Xx _ (a.subset hx)
  .exact Wl.mpr ⟨B,o.sublist a,λx hx y L e=>d x hx (e ▸ a.subset L)⟩
  .rcases XU.mp hq with hq | hq
   .rw[(ZN G (ok.init.mem q hq).1).r i k λx hx=>⟨m _ A x (a.subset hx),λz=>ok.off (WN.mpr ⟨q.1,XY.mpr ⟨q,hq,rfl⟩,z⟩) (a.subset hx)⟩];exact D q hq
   .rw[Wj.mp hq,(ZN G A).l i k λx hx=>⟨j x hx,d x hx⟩];exact O
  .rcases XU.mp hc with hc | hc
   .have:c ∉ k:=λz=>ok.off hc (a.subset z);rw[<- E hc];exact decide_eq_decide.mpr ⟨λz=>(XU.mp z).resolve_right this,Xq _⟩
   .rw[<- znE v hc];exact decide_eq_decide.mpr ⟨λz=>(XU.mp z).resolve_left λy=>d c y hc,Xx _⟩
theorem zlw {T:AD}(u:T.Nodup)(i:∀x∈T,x∈zp rs)(d:∀g∈gs,qB rs g T=true)(v:decide (c∈T)=b):∀PG:List Gp,zcA rs gs PG->∃S∈comb c b PG,S.length=(T.filter λx=>decide (x∈(PG.map (·.1)).flatten)).length:=by
 intro PG;refine Q2 (P:=λPG=>zcA rs gs PG->∃S∈comb c b PG,S.length=(T.filter λx=>decide (x∈(PG.map (·.1)).flatten)).length) ?_ (λPG p A ok=>?_) _ PG rfl
 .intro _;refine⟨[],XT,?_⟩;rw[WB.mpr λx _=>by simp]
 .obtain⟨n,h,o⟩:=A ok.init;obtain⟨m,D⟩:=ok.mem p (Xx _ XT);have f:p.1.Nodup:=qY (G.srt _ m);have s:((PG++[p]).map (·.1)).flatten=(PG.map (·.1)).flatten++p.1:=by
   rw[XS,WS];simp
  have e:(p.1.filter λx=>decide (x∈T)).Perm (T.filter λx=>decide (x∈p.1)):=(Wi (f.sublist WM) (u.sublist WM)).mpr λx=>by
   rw[XZ,XZ,bu,bu];exact And.comm
  have B:qB rs p.1 (p.1.filter λx=>decide (x∈T))=true:=by
   rw[zhX rs p.1 _ _ e,<- d p.1 m];have q:T.Perm ((T.filter λx=>!decide (x∈p.1))++T.filter λx=>decide (x∈p.1)):=by
    refine(UN.trans ?_).symm;exact List.filter_append_perm _ _
   rw[zhX rs p.1 _ _ q,(ZN G m).l _ _ λx y=>?_];obtain⟨h1,h2⟩:=XZ.mp y;rw[Wu,decide_eq_false_iff_not]at h2;exact⟨i x h1,h2⟩
  have j:(p.1.filter λx=>decide (x∈T))∈zar c b p:=by
   refine XZ.mpr ⟨(D _).mpr ⟨Tally.zf6 WM,B⟩,znF λw=>?_⟩;rw[<- v];refine decide_eq_decide.mpr ?_;rw[XZ,bu];exact⟨λz=>z.2,λz=>⟨w,z⟩⟩
  refine⟨n++p.1.filter λx=>decide (x∈T),?_,?_⟩
  .rw[J8];exact Wq.mpr ⟨n,h,XY.mpr ⟨_,j,rfl⟩⟩
  .rw[X5,o,e.length_eq,s];have:∀l:AD,(l.filter λx=>decide (x∈(PG.map (·.1)).flatten)).length+(l.filter λx=>decide (x∈p.1)).length=(l.filter λx=>decide (x∈(PG.map (·.1)).flatten++p.1)).length:=λl=>by
    induction l with
    | nil=>rfl
    | cons x r a =>
     rw[W3,W3,W3];by_cases h1:x∈(PG.map (·.1)).flatten
     .have h2:x ∉ p.1:=ok.off h1;rw[bw (br h1),bq (by rw[bu];exact h2),bw (br (Xq _ h1)),XA,XA,<- a];lia
     .by_cases h2:x∈p.1
      .rw[bq (by rw[bu];exact h1),bw (br h2),bw (br (Xx _ h2)),XA,XA,<- a];lia
      .rw[bq (by rw[bu];exact h1),bq (by rw[bu];exact h2),bq (by rw[bu,XU];exact λz=>z.elim h1 h2)];exact a
   exact this T
end
def za4 (rs:AE)(PG:List Gp)(c:AA):List Gp:=PG++[(jz rs,zcz (jz rs) c)]
def ZR {F:AD}{c x:AA}:x∈oth F c↔x∈F/\x≠c:=by
 unfold oth;rw[XZ,Wu,decide_eq_false_iff_not]
def zkr {F:AD}(n:F.Nodup){c:AA}{k:AD}(h:k∈zcz F c):k.Nodup/\(∀x∈k,x∈F)/\k.length<=F.length:=by
 have o:(oth F c).Nodup:=n.sublist WM;have d:∀k∈zaL (oth F c),k.Nodup/\(∀x∈k,x∈F/\x≠c):=λk hk=>by
  obtain⟨j,_,rfl⟩:=XY.mp hk;exact⟨o.sublist (TV _ _),λx hx=>ZR.mp (Wv hx)⟩
 have f:k.Nodup/\∀x∈k,x∈F:=by
  unfold zcz at h;split at h
  .rename_i i;rcases XU.mp h with h | h
   .exact⟨(d k h).1,λx hx=>((d k h).2 x hx).1⟩
   .obtain⟨m,g,rfl⟩:=XY.mp h;obtain⟨a,b⟩:=d m g;refine⟨Wl.mpr ⟨a,"s",λx hx y l e=>(b x hx).2 (by rw[e];simpa using l)⟩,λx hx=>?_⟩;rcases XU.mp hx with hx | hx
    .exact(b x hx).1
    .rw[Wj.mp hx];exact i
  .exact⟨(d k h).1,λx hx=>((d k h).2 x hx).1⟩
 exact⟨f.1,f.2,Parts.zZ f.1 f.2⟩
def znG {F:AD}(s:F.Nodup){c:AA}{b:Bool}{T:AD}(q:T.Nodup)(n:decide (c∈T)=b):∃k∈zcz F c,k.length=(T.filter λx=>decide (x∈F)).length/\(c∈F->decide (c∈k)=b):=by
 have v:(oth F c).Nodup:=s.sublist WM;have o:c ∉ oth F c:=λz=>(ZR.mp z).2 rfl;have m:(T.filter λx=>decide (x∈F)).Nodup:=q.sublist WM;have l:∀x,x∈(T.filter λx=>decide (x∈F))↔x∈T/\x∈F:=λx=>by rw[XZ,bu]
 have g:∀j,j<=(oth F c).length->(oth F c).take j∈zaL (oth F c):=λj u=>XY.mpr ⟨j,W9.mpr "a",rfl⟩;by_cases i:c∈F
 .by_cases a:c∈T
  .have d:(oth (T.filter λx=>decide (x∈F)) c).length<=(oth F c).length:=Parts.zZ (m.sublist WM) λx f=>by
    obtain⟨h1,h2⟩:=ZR.mp f;exact ZR.mpr ⟨((l x).mp h1).2,h2⟩
   have p:(T.filter λx=>decide (x∈F)).length=(oth (T.filter λx=>decide (x∈F)) c).length+1:=by
    have r:(T.filter λx=>decide (x∈F)).Perm (c::oth (T.filter λx=>decide (x∈F)) c):=(Wi m (Vp.mpr ⟨λz=>(ZR.mp z).2 rfl,m.sublist WM⟩)).mpr λx=>by
     rw[XF,ZR];constructor
     .intro h;by_cases e:x=c
      .exact .inl e
      .exact .inr ⟨h,e⟩
     .rintro(e | h)
      .rw[e];exact(l c).mpr ⟨a,i⟩
      .exact h.1
    rw[r.length_eq];rfl
   refine⟨(oth F c).take (oth (T.filter λx=>decide (x∈F)) c).length++[c],?_,?_,λ_=>?_⟩
   .unfold zcz;rw[bw i];exact Xx _ (XY.mpr ⟨_,g _ d,rfl⟩)
   .rw[X5,XC,p,Vn d];rfl
   .rw[<- n,br a];exact br (Xx _ XT)
  .have d:(T.filter λx=>decide (x∈F)).length<=(oth F c).length:=Parts.zZ m λx f=>ZR.mpr ⟨((l x).mp f).2,λe=>a (e ▸ ((l x).mp f).1)⟩;refine⟨(oth F c).take (T.filter λx=>decide (x∈F)).length,?_,?_,λ_=>?_⟩
   .unfold zcz;rw[bw i];exact Xq _ (g _ d)
   .rw[XC,Vn d]
   .rw[<- n,bg a];exact bg λz=>o (Wv z)
 .have d:(T.filter λx=>decide (x∈F)).length<=(oth F c).length:=Parts.zZ m λx f=>ZR.mpr ⟨((l x).mp f).2,λe=>i (e ▸ ((l x).mp f).2)⟩;refine⟨(oth F c).take (T.filter λx=>decide (x∈F)).length,?_,?_,λz=>absurd z i⟩
  .unfold zcz;rw[bq i];exact g _ d
  .rw[XC,Vn d]
section
variable {rs:AE}{gs:List AD}(G:Parts.Good (clA rs) (qc rs) gs){c:AA}{b:Bool}{PG:List Gp}(ok:zcA rs gs PG)(eg:PG.map (·.1)=gs)
include G ok eg
theorem zgt {S:AD}(h:S∈comb c b (za4 rs PG c)):S.Nodup/\(∀x∈S,x∈zp rs)/\Jr rs S=true/\(c∈zp rs->decide (c∈S)=b):=by
 unfold za4 at h;rw[J8]at h;obtain⟨n,j,h⟩:=Wq.mp h;obtain⟨k,hk,rfl⟩:=XY.mp h;refine fO (λd o q l=>?_) (zd1 G PG ok n j);rw[eg]at d l;obtain⟨w,A⟩:=XZ.mp hk;obtain⟨r,i,B⟩:=zkr (YG rs) w;have a:∀x∈k,x ∉ gs.flatten:=λx hx=>((J2 G).mp (i x hx)).2;refine⟨Wl.mpr ⟨o,r,λx hx y v e=>a y v (e ▸ d x hx)⟩,λx hx=>?_,?_,λs=>?_⟩
 .rcases XU.mp hx with hx | hx
  .exact jh G x (d x hx)
  .exact QX (i x hx)
 .rw[zbC i,<- YF G];unfold Tally.ye;rw[WV];intro g m;rw[<- eg]at m;obtain⟨p,u,rfl⟩:=XY.mp m;exact q p u
 .by_cases f:c∈gs.flatten
  .rw[<- l f];exact decide_eq_decide.mpr ⟨λz=>(XU.mp z).resolve_right λy=>a c y f,Xq _⟩
  .rw[<- znE A ((J2 G).mpr ⟨s,f⟩)];exact decide_eq_decide.mpr ⟨λz=>(XU.mp z).resolve_left λy=>f (d c y),Xx _⟩
theorem znH {T:AD}(m:T.Nodup)(d:∀x∈T,x∈zp rs)(o:Jr rs T=true)(n:decide (c∈T)=b):∃S∈comb c b (za4 rs PG c),S.length=T.length:=by
 have a:∀g∈gs,qB rs g T=true:=by
  rw[<- YF G]at o;exact WV.mp o
 obtain⟨j,e,p⟩:=zlw G m d a n PG ok;obtain⟨k,hk,q,i⟩:=znG (YG rs) m n;refine⟨j++k,?_,?_⟩
 .unfold za4;rw[J8];exact Wq.mpr ⟨j,e,XY.mpr ⟨k,XZ.mpr ⟨hk,znF i⟩,rfl⟩⟩
 .rw[X5,p,q,eg];have:∀l:AD,(∀x∈l,x∈zp rs)->(l.filter λx=>decide (x∈gs.flatten)).length+(l.filter λx=>decide (x∈jz rs)).length=l.length:=λl=>by
   induction l with
   | nil=>exact λ_=>rfl
   | cons x r f =>
    intro h;have f:=f λy u=>h y (XQ _ u);have s:=h x XT;rw[W3,W3,XA,<- f];by_cases h1:x∈gs.flatten
    .rw[bw (br h1),bq (by rw[bu];exact λz=>((J2 G).mp z).2 h1),XA];lia
    .rw[bq (by rw[bu];exact h1),bw (br ((J2 G).mpr ⟨s,h1⟩)),XA];lia
  exact this T d
theorem znI (R:Rows bd.cps.toList rs)(m:∀g∈gs,g.length<=14)(v:∀p∈PG,p.2.length<=16384):zrd c b (za4 rs PG c):=by
 have n:(zp rs).length<=64:=qG (p:=qI) R;refine⟨λi S a=>?_,λp hp=>?_⟩
 .by_cases q:i<=PG.length
  .unfold za4 at a;rw[List.take_append_of_le_length q]at a;have d:zcA rs gs (PG.take i):=by
    refine⟨?_,λp hp=>ok.mem p (Wv hp)⟩;have e:(PG.map (·.1)).flatten=((PG.take i).map (·.1)).flatten++((PG.drop i).map (·.1)).flatten:=by
     rw[<- WS,<- XS,WR]
    have:=ok.nd;rw[e]at this;exact(Wl.mp this).1
   obtain⟨f,h,_,_⟩:=zd1 G (PG.take i) d S a;refine X7 (Parts.zZ h λx s=>?_) n;obtain⟨l,r,j⟩:=WN.mp (f x s);obtain⟨p,hp,rfl⟩:=XY.mp r;exact jh G x (WN.mpr ⟨p.1,(d.mem p hp).1,j⟩)
  .have e:(za4 rs PG c).take i=za4 rs PG c:=Wt (by unfold za4;rw[X5];show PG.length+1<=i;lia);rw[e]at a;obtain⟨f,h,_⟩:=zgt G ok eg a;exact X7 (Parts.zZ f h) n
 .rcases XU.mp hp with hp | hp
  .refine⟨v p hp,λk hk=>?_⟩;obtain⟨u,w⟩:=ok.mem p hp;have:=(Tally.jr ((w k).mp hk).1).length_le;have:=m p.1 u;lia
  .rw[Wj.mp hp];have o:(jz rs).length<=64:=X7 (Xw _ _) n;refine⟨?_,λk hk=>X7 (zkr (YG rs) hk).2.2 o⟩;have y:(oth (jz rs) c).length<=64:=X7 (Xw _ _) o;show (zcz (jz rs) c).length<=16384;unfold zcz zaL;split
   .simp only[X5,ZB,WZ];lia
   .simp only[ZB,WZ];lia
theorem zo8 (e:(zp rs).length<=63){S:AD}(h:S∈comb c b (za4 rs PG c)):znD (toL S):=by
 obtain⟨a,d,_⟩:=zgt G ok eg h;have f:S.length<=(zp rs).length:=Parts.zZ a d;exact .inl (by rw[zat];lia)
end
def ztl (z:Addr)(H:Hp)(v:V)(g:Gp):Prop:=∃t b c d e,v=V.ref t/\H t=some (.tup [.ref b,.ref c])/\b≠z/\H b=some (.lst d)/\Cel H d g.1/\c≠z/\H c=some (.lst e)/\qR (λa=>a≠z) H e (g.2.map toL)
def zfr (z:Addr)(H:Hp):AF->List Gp->Prop:=WW (ztl z H)
def zd2 {z:Addr}{H a:Hp}(s:zq H a){b:AF}{G:List Gp}(j:zfr z H b G):zfr z a b G:=by
 induction j with
 | nil=>exact .nil
 | cons h _ l =>
  revert h;refine gg λt c o d p e h1 m h2 f n g i=>?_;exact .cons (eX t c o d p e (s _ _ h1) m (s _ _ h2) (f.mono s) n (s _ _ g) (qa s i)) l
def zd3 {z:Addr}{H:Hp}{c b:AF}(a:H z=some (.lst c)){g:AF}{G:List Gp}(p:zfr z H g G):zfr z (upd H z (.lst b)) g G:=by
 induction p with
 | nil=>exact .nil
 | cons h _ q =>
  revert h;refine gg λt i r j s e h1 d h2 m f n o=>?_;exact .cons (eX t i r j s e (by rw[zg (λl=>by rw[l,a]at h1;cases h1)];exact h1) d (by rw[zg d];exact h2) (Cel.into _ _ a m) f (by rw[zg f];exact n) (jf a (λ_ h=>h) o)) q
def zo9 {z:Addr}{H:Hp}{a:AF}{G:List Gp}(i:zfr z H a G):zfq H a G:=by
 induction i with
 | nil=>exact .nil
 | cons h _ j =>
  revert h;refine gg λt b l c m e h1 n h2 d o f g=>?_;exact .cons (dO t b l c m e h1 h2 d f (jM (λ_ _=>trivial) g)) j
def zex (rs:AE)(n:Int)(c:AA)(b:Bool)(H:Hp)(a:Hp)(x:V):Prop :=
 (x=.non/\∀T:AD,T.Sublist (zp rs)->((T.length:Nat):Int)=n->qi rs T=true->decide (c∈T)≠b) \/
 ∃d e T,x=.ref d/\H d=none/\a d=some (.lst e)/\j9 a e (toL T)/\T.Sublist (zp rs)/\((T.length:Nat):Int)=n/\qi rs T=true/\decide (c∈T)=b
def zex.mono {rs:AE}{n:Int}{c:AA}{b:Bool}{H a f:Hp}{x:V}(h:zex rs n c b H a x)(s:zq a f):zex rs n c b H f x:=by
 rcases h with h | ⟨d,j,T,e,h1,h2,g,i⟩
 .exact .inl h
 .exact .inr (dI d j T e h1 (s _ _ h2) (qZ s g) i)
def zsy (C:Addr):Sp:=λf H Q E=>∃(p l e:Addr) (a:AE) (n:Int) (c:AA),f=[.ref p,.ref e]/\qd H p l a n/\Rows bd.cps.toList a/\Small a/\(zp a).length<=63/\0<=n/\H e=some (.tup [.int (c.1:Nat),.int (c.2:Nat)])/\c∈zp a /\
 (qg a n≠0->∀(t:Addr) (x y:V) (b:Hp),H t=none->b t=some (.tup [x,y])->zex a n c true H b x->zex a n c false H b y->(∀d,x=.ref d->y ≠ .ref d)->zq H b->Q (.ref t) b)/\(qg a n=0->∀b,zq H b->E (.ref C) none b)
def zpa {rs:AE}{n:Int}(h:qg rs n≠0):(jU rs).isEmpty=true:=by
 unfold qg Tally.T at h;have h2:(Subs.subs (zp rs)).countP (λS=>decide (S.length=n.toNat)&&qi rs S)≠0:=λe=>h (by rw[e];rfl);obtain⟨S,a,b⟩:=OM.mp (Nat.pos_of_ne_zero h2);have:=(WT.mp b).2;rw[Zn λx c=>(Tally.jr a).subset c]at this;exact(WT.mp this).1
def zhY (rs:AE):(zp rs).Pairwise Cells.lex:=Cells.Yt _ 0 (codes rs)
def zpb {rs:AE}{S:AD}(j:S.Nodup)(l:∀x∈S,x∈zp rs){ps:List (Int×Int)}(i:ps.Perm (toL S))(f:ps.Pairwise (λp q=>lt2 q p=false)):∃T,ps=toL T/\T.Perm S/\T.Sublist (zp rs):=by
 obtain⟨T,rfl,c⟩:=zge i;refine⟨T,rfl,c,?_⟩;have g:T.Nodup:=c.nodup_iff.mpr j;have tl:T.Pairwise Cells.lex:=by
  rw[Wx]at f;refine List.Pairwise.imp₂ (λa b h1 h2=>?_) f g;have d:toI a≠toI b:=λz=>h2 (zgc z);have:=zcO d;rw[h1]at this;refine zgd.mp ?_;cases hh:lt2 (toI a) (toI b) with
  | true=>rfl
  | false =>
   rw[hh]at this;cases this
 have e:T=(zp rs).filter λx=>decide (x∈T):=zkd ((Wi g ((Ql rs).sublist WM)).mpr λx=>by
  rw[XZ,bu];exact⟨λh=>⟨l x (c.mem_iff.mp h),h⟩,λh=>h.2⟩) tl ((zhY rs).sublist WM)
 rw[e];exact WM
def J3:zB ["board","cell","groups","having","lacking"] ["board","cell"] (zo ZF):=bz
def zgu (T:Txt mg)(aS:qC K mg "NoLaying" jad)(Z:Prog K mg){f:Addr}{fd:Xz}(D:zm K mg "witnesses" ZF ["board","cell"] f fd):zT P w K mg base (CXE P w) 9 f fd ["board","cell"] (zsy jad):=by
 obtain⟨b3,b1,xA⟩:=Z.some_count;obtain⟨bx,bp,zV⟩:=Z.around;obtain⟨J6,xK,zv⟩:=Z.sign_at;obtain⟨xM,yN,zA⟩:=Z.cells_of;obtain⟨b0,bt,qE⟩:=Z.closed;obtain⟨JZ,Jd,zF⟩:=Z.open_cells;obtain⟨ZM,J0,qM⟩:=Z.number_at;obtain⟨Qh,Z6,xr⟩:=Z.numbers_of;obtain⟨bn,QV,Zl⟩:=Z.needs_at;obtain⟨bv,bo,YE⟩:=Z.may_fit;obtain⟨Zm,Jy,qz⟩:=Z.part_layings;obtain⟨Jz,xO,zO⟩:=Z.closed_around;obtain⟨b4,b2,Jp⟩:=Z.joined;obtain⟨b6,b5,ZO⟩:=Z.parts;obtain⟨bA,b9,ao⟩:=Z.far;obtain⟨bB,bC,aB⟩:=Z.far_picks;obtain⟨b8,b7,Z8⟩:=Z.some_laying;have aX:=zaK (P:=P) (w:=w) (base:=base) T aS Z xA;have aZ:=zdE (P:=P) (w:=w) (base:=base) T ZO zV zv zA zF zO Jp;have aW:=Jx (P:=P) (w:=w) (base:=base) T Z qz;have aC:=ziZ (P:=P) (w:=w) (base:=base) T ao zV zv zA qE zF;have aY:=zgs (P:=P) (w:=w) (base:=base) T aB;have aA:=zd0 (P:=P) (w:=w) (base:=base) T Z Z8;refine D.F.okX J3 "l" (λbf A aT s H vs Q E hr h=>?_)
 .revert h;refine fW λp l ca r n c z0 B R sm=>fG λa9 n0 ac hc q qe=>?_;subst z0;obtain⟨m,rfl⟩:=Int.eq_ofNat_of_zero_le n0;refine⟨_,(zd (yT (pcL Yj aX hr xA (za (pv 0) ze))) (zd (psC 2 J3.nd ["part","board"] [none,some 0] cR (zN (pc0 aZ hr ZO (za (pv 0) ze))) (pgN 0) qx (jb (za (pv 0) (za (pc0 aW hr qz (za (pv 1) (za (pv 0) ze))) ze)))) (zd (yT (ZD WE Wc Wb zbP (pv 2) (za (jb (za (pc0 aC hr ao (za (pv 0) ze)) (za (pc0 aY hr aB (za (pc0 aC hr ao (za (pv 0) ze)) (za (pv 1) ze))) ze))) ze))) (zd (qf 3 J3.nd (pc0 aA hr Z8 (za (pv 2) (za (pv 1) (@za _ _ _ _ _ xE (za (zW zil (pv 0) zj (λ_ _=>rfl)) ze) rfl))))) (zd (qf 4 J3.nd (pc0 aA hr Z8 (za (pv 2) (za (pv 1) (@za _ _ _ _ _ xE (za (zW zil (pv 0) zj (λ_ _=>rfl)) ze) rfl))))) (zf (zx (jb (za (pv 3) (za (pv 4) ze)))))))))),?_⟩;ac_nf;refine eY _ rfl p l r (m:Nat) rfl B R sm (dU n0 (λhz H1 s1=>?_) (λhz H1 s1=>qe hz H1 s1));have q:=q hz;have ar:=zpa hz;refine eF _ rfl p l (dB r (m:Nat) rfl (B.mono s1) R (λd wp gs H2 hd aw hG G s2=>(dD d rfl ⟨_,SqL.of aw⟩ (λz af=>?_))));have am:=s1.trans s2;have B2:=B.mono am;refine zY (K:=K) (a:=d) (xs:=wp) (λi ai H'=>∃(u0:Option V) (O:AF) (PG:List Gp),ai=[u0,some (.ref p)]/\zq H2 H'/\H' z=some (.lst O)/\zfr z H' O PG/\PG.map (·.1)=gs.take i/\(∀g∈PG,g.2.length<=16384/\∀k,k∈g.2↔k∈Subs.subs g.1/\qB r g.1 k=true)) (dP none [] [] rfl (zc af) zb (.nil) rfl (λg h=>nomatch h)) (λi ai H' _ ⟨_,_,_,_,y,_⟩=>SqL.of (y _ _ aw)) ?_ ?_
  .refine λi v ai H3 hv=>fE λu0 O PG z0 s3 I hQ u ab=>?_;subst z0;refine gf (λg hg pa pu z0 a5 a6=>?_) (xq.get (hG.mono s3) hv);subst z0;have gm:=X4 hg;have aF:g.Nodup:=qY (G.srt g gm);have au:=sm gs G g gm;have il:i<gs.length:=(X2.mp hg).1;have gl:gs.length<=63:=by
    have h1:=Parts.Zg G.ne;have h2:=Parts.zZ G.nd (jh G);lia
   have yl:O.length=i:=by
    have h1:=congrArg List.length u;rw[ZB,XC]at h1;rw[Paired.length hQ,h1];lia
   unfold yv;refine Z5 ?_;refine dN _ rfl _ rfl (dG _ rfl (dS p l pa r (d8 (m:Nat) pu g rfl (B2.mono s3) R a5 a6 aF au (λe ws ks H4 he aM av aQ s4=>?_))));refine fq (λds aE az=>?_) (zcl aQ);refine⟨Jm,λt N=>?_⟩;have y5:=zc (o:=.tup [.ref pa,.ref e]) N;have aa:=s4.trans y5;have ag:=aa _ _ I;have a8:pa≠z:=by
    obtain⟨g',_,bj,bm,e1,aO,_⟩:=xq.get hG hv;cases e1;exact zh aO af
   have ez:e≠z:=λx=>by
    rw[x,I]at he;cases he
   refine dD O ag ?_ (dP _ (O++[.ref t]) (PG++[(g,ds)]) rfl (λb' o x=>?_) zb ?_ ?_ ?_)
   .rw[yl];exact XD (show i<100 by lia) "d"
   .rw[zg (zh x af)];exact(s3.trans aa) _ _ x
   .refine YZ (zd3 ag (zd2 aa hQ)) (.cons (eX t pa e pu ws rfl ?_ a8 ?_ ?_ ez ?_ ?_) .nil)
    .rw[zg (λx=>by rw[x]at N;rw[s4 _ _ I]at N;cases N),zb]
    .rw[zg a8];exact aa _ _ a5
    .exact Cel.into _ _ ag (a6.mono aa)
    .rw[zg ez];exact y5 _ _ aM
    .have e1:ks=ds.map toL:=aE;rw[e1]at av;refine jf ag (λ_ h=>h) (qa y5 (jM (λa h x=>?_) av));have h1:=h.1;rw[x,I]at h1;cases h1
   .rw[XS,u,XB,hg];rfl
   .intro g' hg';rcases XU.mp hg' with hg' | hg'
    .exact ab g' hg'
    .rw[Wj.mp hg'];refine⟨?_,λk=>?_⟩
     .show ds.length<=16384;rw[az.length_eq];refine X7 (Xw _ _) ?_;rw[Subs.zag,ZB,WZ];exact X7 (VU "d" au) "d"
     .show k∈ds↔_;rw[az.mem_iff,XZ];rfl
  refine λai H3=>fE λu0 O PG z0 s3 I hQ u ab=>?_;subst z0;rw[hG.length,XH]at u;have ok:zcA r gs PG:=⟨by rw[u];exact G.nd,λg hg=>⟨by rw[<- u];exact XY.mpr ⟨g,hg,rfl⟩,(ab g hg).2⟩⟩;have al:=am.trans s3;have B3:=B.mono al;have fl:(jz r).length<=63:=X7 (Xw _ _) a9;refine dD _ rfl (.inl ⟨rfl,_,SqL.of I⟩) (eF _ rfl p l (dB r (m:Nat) rfl B3 R (λd4 w4 H4 ax ba aI s4=>?_)));refine eF _ rfl p l (dB r (m:Nat) rfl (B3.mono s4) R (λd5 w5 H5 bi bb aJ s5=>?_));have aV:=al.trans (s4.trans s5);refine dG _ rfl (dO d5 ca w5 (jz r) c rfl bb aJ "a" (aV _ _ ac) (λd6 w6 H6 ay bc aG s6=>?_));refine⟨Jm,λt7 ae=>?_⟩;have y7:=zc (o:=.tup [.ref d4,.ref d6]) ae;have an:=(s4.trans s5).trans (s6.trans y7);have ah:=an _ _ I;have z4:d4≠z:=λx=>by
   rw[x,I]at ax;cases ax
  have z6:d6≠z:=λx=>by
   rw[x,(s4.trans s5) _ _ I]at ay;cases ay
  have gl:gs.length<=63:=by
   have h1:=Parts.Zg G.ne;have h2:=Parts.zZ G.nd (jh G);lia
  have yl:O.length<=63:=by
   have h1:=congrArg List.length u;rw[ZB]at h1;rw[Paired.length hQ];lia
  refine dI z _ _ rfl rfl ah (XI yl "d") ?_;have Y:zfq (upd (upd H6 t7 (.tup [.ref d4,.ref d6])) z (.lst (O++[.ref t7]))) (O++[.ref t7]) (za4 r PG c):=by
   refine zo9 (z:=z) (YZ (zd3 ah (zd2 an hQ)) (.cons (eX t7 d4 d6 w4 w6 rfl ?_ z4 ?_ ?_ z6 ?_ ?_) .nil))
   .rw[zg (λx=>by rw[x]at ae;rw[((s4.trans s5).trans s6) _ _ I]at ae;cases ae),zb]
   .rw[zg z4];exact y7 _ _ (s6 _ _ (s5 _ _ ba))
   .exact Cel.into _ _ ah (((aI.mono s5).mono s6).mono y7)
   .rw[zg z6];exact y7 _ _ bc
   .refine jf ah (λ_ h=>h) (qa y7 (jM (λa h x=>?_) aG));rw[x,(s4.trans s5) _ _ I]at h;cases h
  have zn:H z=none:=am.free af;have M:zq H (upd (upd H6 t7 (.tup [.ref d4,.ref d6])) z (.lst (O++[.ref t7]))):=λb' o x=>by
   rw[zg (zh x zn)];exact(al.trans an) _ _ x
  have ak:=zb (H:=upd H6 t7 (.tup [.ref d4,.ref d6])) (a:=z) (o:=.lst (O++[.ref t7]));generalize upd (upd H6 t7 (.tup [.ref d4,.ref d6])) z (.lst (O++[.ref t7]))=H8 at *
  generalize O++[.ref t7]=us8 at *
  have U:∀b,zrd c b (za4 r PG c):=λb=>znI G ok u R (sm gs G) λg hg=>(ab g hg).1;have few:∀b,∀S∈comb c b (za4 r PG c),S.length=m->znD (toL S):=λb S hS _=>zo8 G ok u a9 hS;have J:∀b,(∀S∈comb c b (za4 r PG c),S.length≠m)->∀T:AD,T.Sublist (zp r)->((T.length:Nat):Int)=((m:Nat):Int)->qi r T=true->decide (c∈T)≠b:=λb h T hT hl hw hb=>by
   have sh:∀x∈T,x∈zp r:=λx hx=>hT.subset hx;rw[Zn sh]at hw;obtain⟨S,hS,e⟩:=znH G ok u ((Ql r).sublist hT) sh (WT.mp hw).2 hb;exact h S hS "a"
  have some_of:∀b S,S∈comb c b (za4 r PG c)->S.length=m->∀ps:List (Int×Int),ps.Perm (toL S)->ps.Pairwise (λp q=>lt2 q p=false)->∃T,ps=toL T/\T.Sublist (zp r)/\((T.length:Nat):Int)=((m:Nat):Int)/\qi r T=true/\decide (c∈T)=b:=λb S hS hl ps hp hs=>by
   refine fO (λa1 a2 a3 a4=>?_) (zgt G ok u hS);obtain⟨T,e,hT,a7⟩:=zpb a1 a2 hp hs;refine⟨T,e,a7,by rw[hT.length_eq,hl],?_,?_⟩
   .rw[za2 r _ _ hT,Zn a2,ar,a3];rfl
   .rw[<- a4 hc];exact decide_eq_decide.mpr hT.mem_iff
  refine dN _ rfl _ rfl (eY _ rfl p _ _ _ rfl rfl (SqT.of (B.mono M).tp) rfl (dS z ca true m (d8 us8 _ c rfl ak Y (M _ _ ac) (U true) (few true) ?_ ?_)))
  .intro h1 H9 L;have w1:zex r ((m:Nat):Int) c true H H9 .non:=.inl ⟨rfl,J true h1⟩;refine dN _ rfl _ rfl (eY _ rfl p _ _ _ rfl rfl (SqT.of (B.mono (M.trans L)).tp) rfl (dS z ca false m (d8 us8 _ c rfl (L _ _ ak) (Y.mono L) ((M.trans L) _ _ ac) (U false) (few false) (λh2 aj j=>?_) (λS hS hl d us ps aj hp hs hd ap aq j=>?_))))
   .refine dX _ rfl _ rfl Jm (λt N=>?_);have y:=zc (o:=.tup [.non,.non]) N;exact q t .non .non _ ((M.trans (L.trans j)).free N) zb (w1.mono (j.trans y)) (.inl ⟨rfl,J false h2⟩) (λd e=>nomatch e) ((M.trans (L.trans j)).trans y)
   .refine fR (λT z0 t1 t2 t3 t4=>?_) (some_of false S hS hl ps hp hs);subst z0;refine dX _ rfl _ rfl Jm (λt N=>?_);have y:=zc (o:=.tup [.non,.ref d]) N;exact q t .non (.ref d) _ ((M.trans (L.trans j)).free N) zb (w1.mono (j.trans y)) (.inr (d8 d us T rfl ((M.trans L).free hd) (y _ _ ap) (qZ y aq) t1 t2 t3 t4)) (λd e=>nomatch e) ((M.trans (L.trans j)).trans y)
  .intro S0 aH aN d0 us0 aU H9 aP aR aK aD be L;refine fR (λT0 z0 a1 a2 a3 a4=>?_) (some_of true S0 aH aN aU aP aR);subst z0;have w1:zex r ((m:Nat):Int) c true H H9 (.ref d0):=.inr (d8 d0 us0 T0 rfl (M.free aK) aD be a1 a2 a3 a4);refine dN _ rfl _ rfl (eY _ rfl p _ _ _ rfl rfl (SqT.of (B.mono (M.trans L)).tp) rfl (dS z ca false m (d8 us8 _ c rfl (L _ _ ak) (Y.mono L) ((M.trans L) _ _ ac) (U false) (few false) (λh2 aj j=>?_) (λS hS hl d us ps aj hp hs hd ap aq j=>?_))))
   .refine dX _ rfl _ rfl Jm (λt N=>?_);have y:=zc (o:=.tup [.ref d0,.non]) N;exact q t (.ref d0) .non _ ((M.trans (L.trans j)).free N) zb (w1.mono (j.trans y)) (.inl ⟨rfl,J false h2⟩) (λd e e2=>nomatch e2) ((M.trans (L.trans j)).trans y)
   .refine fR (λT z0 t1 t2 t3 t4=>?_) (some_of false S hS hl ps hp hs);subst z0;refine dX _ rfl _ rfl Jm (λt N=>?_);have y:=zc (o:=.tup [.ref d0,.ref d]) N;refine q t (.ref d0) (.ref d) _ ((M.trans (L.trans j)).free N) zb (w1.mono (j.trans y)) (.inr (d8 d us T rfl ((M.trans L).free hd) (y _ _ ap) (qZ y aq) t1 t2 t3 t4)) (λx e e2=>?_) ((M.trans (L.trans j)).trans y);cases e;cases e2;rw[aD]at hd;cases hd
def pV (xs:List Nat):AF:=xs.map λx=>V.int (x:Nat)
def nrP (n a x:Nat):Bool:=Cells.near (x/n,x%n) (a/n,a%n)
def jW (R n a:Nat):List Nat:=(Xk (R*n)).filter (nrP n a)
def zd5 (n a r b m:Nat):List Nat:=((Xk m).map λi=>r*n+(b+i)).filter λx=>!decide (x=a)
def zaN (n a c k b m:Nat):List Nat:=(Xk k).flatMap λi=>zd5 n a (c+i) b m
def zly (n a r b m:Nat):zd5 n a r b (m+1)=zd5 n a r b m++if (!decide (r*n+(b+m)=a))=true then [r*n+(b+m)] else []:=by
 unfold zd5;rw[U5,XS,Xp];congr 1;show Ul _ [r*n+(b+m)]=_;rw[W3];split<;>rfl
def zd6 (n a c k b m:Nat):zaN n a c (k+1) b m=zaN n a c k b m++zd5 n a (c+k) b m:=by
 unfold zaN;rw[U5,OJ];simp
def znK {R n b:Nat}(d:R<=8)(e:n<=8)(c:b<R*n):zaN n b (b/n-1) (min (b/n+2) R-(b/n-1)) (b%n-1) (min (b%n+2) n-(b%n-1))=jW R n b:=by
 have h:∀R∈Xk 9,∀n∈Xk 9,∀a∈Xk (R*n),zaN n a (a/n-1) (min (a/n+2) R-(a/n-1)) (a%n-1) (min (a%n+2) n-(a%n-1))=jW R n a:="q"
 exact h R (W9.mpr "a") n (W9.mpr "a") b (W9.mpr c)
def xP {R n b:Nat}(d:R<=8)(e:n<=8)(c:b<R*n):(jW R n b).length<=8:=by
 have h:∀R∈Xk 9,∀n∈Xk 9,∀a∈Xk (R*n),(jW R n a).length<=8:="q"
 exact h R (W9.mpr "a") n (W9.mpr "a") b (W9.mpr c)
def zh0 (n a r b m:Nat):(zd5 n a r b m).length<=m:=by
 unfold zd5;refine X7 (Xw _ _) ?_;rw[ZB,WZ];exact XW _
theorem zfs (n a c b m:Nat):∀k,(zaN n a c k b m).length<=k*m
 | 0=>W2 _
 | k+1=>by
  rw[zd6,X5,PN];exact SR (zfs n a c b m k) (zh0 _ _ _ _ _)
def zpR (i:Nat):(if (i:Int)-1>0 then (i:Int)-1 else 0)=((i-1:Nat):Int):=by
 split<;>lia
def zpS (i m:Nat):(if (i:Int)+2<((m:Nat):Int) then (i:Int)+2 else ((m:Nat):Int))=((min (i+2) m:Nat):Int):=by
 split<;>lia
def zrf {a b:Nat}:decide (V.int ((a:Nat):Int)=V.int ((b:Nat):Int))=decide (a=b):=decide_eq_decide.mpr ⟨λh=>by injection h with h;lia,λh=>by rw[h]⟩
def zks:Sp:=λc H Q _=>∃(a R n:Nat),c=[.int (a:Nat),.int (R:Nat),.int (n:Nat)]/\R<=8/\1<=n/\n<=8/\a<R*n/\∀(d:Addr) (b:Hp),H d=none->b d=some (.lst (pV (jW R n a)))->zq H b->Q (.ref d) b
def yO:zB ["_law_at","_law_rows","_law_columns","_law_row","_law_column","_law_found","_law_r","_law_c"] ["_law_at","_law_rows","_law_columns"] (zo Qa):=bz
def zco (T:Txt mg)(D:zm K mg "_law_near" Qa ["_law_at","_law_rows","_law_columns"] f fd):zT P w K mg base CX0 1 f fd ["_law_at","_law_rows","_law_columns"] zks:=by
 refine D.F.ok yO "l" (λac A J s H vs Q E hr h=>?_)
 .revert h;refine fE λa R n z0 hR n1 hn U q=>?_;subst z0;have ab:a/n<R:=Nat.div_lt_of_lt_mul (by rw[TD];exact U);have aa:a%n<n:=SC _ "a";refine⟨_,(zd (YS (pb2 Qx T.zdA Tn (pvS 0) (pvS 2)) (j5 rfl (zH (pgq 3 yO.nd) (zH (pgq 4 yO.nd) qS)))) (@zd _ _ _ _ _ (@qP _ _ 5 _ _ _ _ yO.nd rfl (VI rfl) (@ql _ _ _ _ ze) "r" (.inr rfl)) (zd (qu Xb rfl (zaa "r" T.jg (za (Yd (Yb rfl) "r" T.zhs UM (@za _ _ _ _ _ zj (za (zu yC (pvS 3) zj) ze) rfl)) (za (pb2 (Yc rfl) T.zht UL (pvS 1) (zu zQ (pvS 3) zj)) ze))) (pgq 6 yO.nd) (zf (qu Xb rfl (zaa "r" T.jg (za (Yd (Yb rfl) "r" T.zhs UM (@za _ _ _ _ _ zj (za (zu yC (pvS 4) zj) ze) rfl)) (za (pb2 (Yc rfl) T.zht UL (pvS 2) (zu zQ (pvS 4) zj)) ze))) (pgq 7 yO.nd) (zf (qo (zw Jj (zu zQ (zu jo (pvS 6) (pvS 2)) (pvS 7)) (pvS 0) (zG _)) (zf (yT (ZD WE Wc Wb yF (pvS 5) (za (zu zQ (zu jo (pvS 6) (pvS 2)) (pvS 7)) ze)))) zR))))) (zf (zx (pvS 5)))))),?_⟩;ac_nf;refine⟨_,rfl,_,rfl,_,_,rfl,⟨"a","a"⟩,λp u=>?_⟩;have s0:=zc (o:=.tup [.int (((a:Nat):Int)/((n:Nat):Int)),.int (((a:Nat):Int)%((n:Nat):Int))]) u;refine dJ p _ rfl (SqT.of zb) rfl _ _ rfl _ _ rfl rfl ?_;generalize upd H p (.tup [.int (((a:Nat):Int)/((n:Nat):Int)),.int (((a:Nat):Int)%((n:Nat):Int))])=H0 at *
  rw[<- P8,<- P7];generalize I:a/n=g at *
  generalize z:a%n=c at *
  refine⟨Qu,λd B=>?_⟩;have s1:zq H0 (upd H0 d (.lst [])):=zc B;refine⟨_,rfl,_,_,rfl,rfl,0,_,rfl,_,rfl,_,rfl,_,_,rfl,rfl,_,_,rfl,((g-1:Nat):Int),((min (g+2) R:Nat):Int),?_,⟨"a","a","a","a"⟩,?_⟩
  .show [V.int (if (g:Int)-1>0 then (g:Int)-1 else 0),V.int (if (g:Int)+2<((R:Nat):Int) then (g:Int)+2 else ((R:Nat):Int))]=_;rw[zpR,zpS]
  have G:∀k m:Nat,k<=8->m<=8->k*m<=64:=λk m h1 h2=>TK h1 h2;refine qF (lo:=((g-1:Nat):Int)) (λk r v=>∃(M l:Option V),r=[some (.int (a:Nat)),some (.int (R:Nat)),some (.int (n:Nat)),some (.int (g:Nat)),some (.int (c:Nat)),some (.ref d),M,l]/\zq H0 v/\v d=some (.lst (pV (zaN n a (g-1) k (c-1) (min (c+2) n-(c-1))))))
   (dM _ _ rfl s1 zb) ?_ ?_
  .refine λk r N hk=>fy λM l z0 L j=>?_;subst z0;rw[show ((g-1:Nat):Int)+(k:Nat)=((g-1+k:Nat):Int) by lia];refine⟨_,rfl,_,_,rfl,rfl,0,_,rfl,_,rfl,_,rfl,_,_,rfl,rfl,_,_,rfl,((c-1:Nat):Int),((min (c+2) n:Nat):Int),?_,⟨"a","a","a","a"⟩,?_⟩
   .show [V.int (if (c:Int)-1>0 then (c:Int)-1 else 0),V.int (if (c:Int)+2<((n:Nat):Int) then (c:Int)+2 else ((n:Nat):Int))]=_;rw[zpR,zpS]
   refine qF (lo:=((c-1:Nat):Int)) (λm r v=>∃(l:Option V),r=[some (.int (a:Nat)),some (.int (R:Nat)),some (.int (n:Nat)),some (.int (g:Nat)),some (.int (c:Nat)),some (.ref d),some (.int ((g-1+k:Nat):Int)),l]/\zq H0 v/\v d=some (.lst (pV (zaN n a (g-1) k (c-1) (min (c+2) n-(c-1))++zd5 n a (g-1+k) (c-1) m))))
    (dD _ rfl L (by rw[j];unfold zd5;simp)) ?_ ?_
   .refine λm r H2 hm=>fu λl z0 y i=>?_;subst z0;rw[show ((c-1:Nat):Int)+(m:Nat)=((c-1+m:Nat):Int) by lia];have O:((g-1+k:Nat):Int)*((n:Nat):Int)+((c-1+m:Nat):Int)=(((g-1+k)*n+(c-1+m):Nat):Int):=by
     simp only[Tj,T7]
    have Y:(!decide (V.int (((g-1+k:Nat):Int)*((n:Nat):Int)+((c-1+m:Nat):Int))=V.int ((a:Nat):Int)))=!decide ((g-1+k)*n+(c-1+m)=a):=by rw[O,zrf]
    refine⟨_,rfl,_,rfl,_,_,rfl,rfl,zef "a" "a",_,rfl,_,_,rfl,rfl,_,rfl,rfl,_,rfl,?_⟩;have x:=zly n a (g-1+k) (c-1) m;by_cases u:(!decide ((g-1+k)*n+(c-1+m)=a))=true
    .rw[bw u]at x;refine jQ (Y.trans u) ?_;refine⟨_,rfl,.inl ⟨rfl,_,SqL.of i⟩,_,rfl,_,rfl,_,_,rfl,rfl,zef "a" "a",_,rfl,_,_,rfl,rfl,d,_,_,rfl,rfl,i,?_,_,rfl,λb o e=>?_,?_⟩
     .unfold pV;rw[ZB,X5];have a1:=zfs n a (g-1) (c-1) (min (c+2) n-(c-1)) k;have a2:=zh0 n a (g-1+k) (c-1) m;have a3:=G k (min (c+2) n-(c-1)) "a" "a";exact XI (X7 (SR (X7 a1 a3) (X7 a2 (show m<=8 by lia))) (by decide:64+8<=100)) "d"
     .rw[zg (zh e B)];exact y _ _ e
     .have e2:pV (zaN n a (g-1) k (c-1) (min (c+2) n-(c-1))++zd5 n a (g-1+k) (c-1) (m+1))=pV (zaN n a (g-1) k (c-1) (min (c+2) n-(c-1))++zd5 n a (g-1+k) (c-1) m)++[V.int (((g-1+k:Nat):Int)*((n:Nat):Int)+((c-1+m:Nat):Int))]:=by
       rw[O,x,<- WP];unfold pV;rw[XS (l₂:=[_])];rfl
      rw[zb,e2]
    .rw[bq u,Xc]at x;refine qw (Y.trans (WU.mpr u)) ?_;exact dD _ rfl y (by rw[x];exact i)
   .refine λr H2=>fu λl z0 y i=>?_;subst z0;rw[show (((min (c+2) n:Nat):Int)-((c-1:Nat):Int)).toNat=min (c+2) n-(c-1) by lia]at i;refine dM _ _ rfl y ?_;rw[zd6];exact i
  .refine λr N=>fy λM l z0 L j=>?_;subst z0;rw[show (((min (g+2) R:Nat):Int)-((g-1:Nat):Int)).toNat=min (g+2) R-(g-1) by lia,<- I,<- z,znK hR hn U]at j;exact⟨_,rfl,q d N (s0.free B) j (s0.trans L)⟩
def zd7:Sp:=λa H Q _=>∃n:Int,a=[.int n]/\Q (.bl true) H
def zgw:zB ["_law_found"] ["_law_found"] (zo ZH):=bz
def zbK (T:Txt mg)(D:zm K mg "_law_whole" ZH ["_law_found"] f fd):zT P w K mg base CX0 1 f fd ["_law_found"] zd7:=by
 refine D.F.ok zgw "l" (λb A a s H c Q E d h=>?_)
 .obtain⟨n,rfl,k⟩:=h;refine⟨_,(zf (zx (zlG (pb2 Qz T.qj WX (pvS 0) (zcI (v:=.ty "int") "r" T.ze6 Vj "r")) (zie (zp6 (pb2 Qz T.qj WX (pvS 0) (zcI (v:=.ty "bool") "r" T.zqQ PyProof.Rows.boot_bool "r"))))))),?_⟩;ac_nf;refine⟨_,rfl,_,"int","int",true,rfl,.int n,"q",true,rfl,zbj ?_⟩;exact⟨_,rfl,_,"int","bool",false,rfl,.int n,"q",false,rfl,k⟩
def zje:Sp:=λe H Q _=>∃(l:Addr) (b:AE),e=[.ref l]/\H l=some (.lst (b.map V.str))/\Rows bd.cps.toList b /\
 ∀(d:Addr) (c:AF) (a:Hp),H d=none->a d=some (.lst c)->Cel a c (zp b)->zq H a->Q (.ref d) a
def Jf:zB ["_law_texts_here","_law_found","_law_row","_law_column"] ["_law_texts_here"] (zo JW):=bz
def zaO (T:Txt mg)(D:zm K mg "_law_closed" JW ["_law_texts_here"] f fd):zT P w K mg base CX0 1 f fd ["_law_texts_here"] zje:=by
 refine D.F.ok Jf "l" (λab A aa s H vs Q E hr h=>?_)
 .revert h;refine fm λl g z0 hl R q=>?_;subst z0;refine fu (λC c1 c8 hC=>?_) R.ex;have ae:=R.lo;have ac:=R.hi;refine⟨_,(@zd _ _ _ _ _ (@qP _ _ 1 _ _ _ _ Jf.nd rfl (VI rfl) (@ql _ _ _ _ ze) "r" (.inr rfl)) (zd (qu Xb rfl (prg T.jg (pb1 zE T.ju W0 (pvS 0))) (pgq 2 Jf.nd) (zf (qu Xb rfl (prg T.jg (pb1 YV T.ju W0 (zW qy (pvS 0) zj (λ_ _=>rfl)))) (pgq 3 Jf.nd) (zf (qo (zw j6 (zW zaf (zW qy (pvS 0) (pvS 2) (λ_ _=>rfl)) (pvS 3) (λ_ _=>rfl)) qK (zG _)) (zf (yT (ZD WE Wc Wb yF (pvS 1) (za (jb (za (pvS 2) (za (pvS 3) ze))) ze)))) zR))))) (zf (zx (pvS 1))))),?_⟩;ac_nf;refine⟨Qu,λd hd=>?_⟩;have s0:zq H (upd H d (.lst [])):=zc hd;have rl:(g.map V.str).length=g.length:=ZB _;refine⟨_,rfl,l,_,rfl,.inl (SqL.of (s0 _ _ hl)),_,rfl,"a","a",?_⟩;rw[WC,rl];refine qF (lo:=0) (n:=g.length) (λi J z=>∃(v2 I:Option V) (r:AF),J=[some (.ref l),some (.ref d),v2,I]/\zq H z/\z d=some (.lst r)/\Cel z r (Cells.zJ qI 0 ((codes g).take i))) (dF _ _ [] rfl s0 zb (.nil)) ?_ ?_
  .refine λi J H1 hi=>fD λv2 I r z0 s1 B v=>?_;subst z0;obtain⟨x,G⟩:∃x,g[0]?=some x:=⟨_,XX "a"⟩;obtain⟨t,U⟩:∃t,g[i]?=some t:=⟨_,XX hi⟩;have e0:x.length=C:=(hC x (X4 G)).len;have et:t.cps.toList.length=C:=by
    rw[XV];exact(hC t (X4 U)).len
   have M:∀{i:Nat} {t:Str},g[i]?=some t->(g.map V.str)[i]?=some (V.str t):=λh=>by rw[Xl,h];rfl
   refine⟨_,rfl,l,_,_,.str x,rfl,rfl,SqL.of (s1 _ _ hl),jJ "d" (M G),x,rfl,R.tlen G,_,rfl,?_,?_,?_⟩
   .show -(2^62)<=((x.length:Nat):Int);lia
   .show ((x.length:Nat):Int)<2^62;lia
   rw[WC,e0];refine qF (lo:=0) (n:=C) (λj J z=>∃(I:Option V) (r:AF),J=[some (.ref l),some (.ref d),some (.int (0+(i:Int))),I]/\zq H z/\z d=some (.lst r)/\Cel z r (Cells.zJ qI 0 ((codes g).take i)++Cells.zU qI i 0 (t.cps.toList.take j))) (dB _ r rfl s1 B (by rw[SS];show Cel H1 r (_++[]);rw[Xc];exact v)) ?_ ?_
   .refine λj J H2 hj=>fm λI m z0 O c a=>?_;subst z0;obtain⟨k,hk⟩:∃k,t.cps.toList[j]?=some k:=⟨_,XX "a"⟩;have st:=Cells.zaT (p:=qI) (i:=i) hk;refine⟨_,rfl,_,rfl,l,_,_,.str t,rfl,rfl,SqL.of (O _ _ hl),jJ "a" (by rw[show ((0:Int)+(i:Int)).toNat=i by lia];exact M U),_,rfl,t,_,k,rfl,rfl,R.tlen U,jJ "a" (by rw[show ((0:Int)+(j:Int)).toNat=j by lia];exact hk),rfl,_,rfl,?_⟩;have ed:decide (V.str ⟨#[k]⟩=V.str "?")=decide (k=63):=by
     rw[QT];simp only[zaV]
    rw[ed];by_cases L:k=63
    .rw[br L];rw[bw (show qI k=true from br L)]at st;refine zbj ?_;have N:m.length<=1000:=by
      rw[a.length,X5];have a1:=Cells.yj qI i 0 (t.cps.toList.take j);have a2:=Cells.jL qI 0 ((codes g).take i) λu hu=>R.short u (Wv hu);rw[XC]at a1 a2;lia
     refine⟨_,rfl,.inl ⟨rfl,_,SqL.of c⟩,_,rfl,_,rfl,Jm,λp L=>?_⟩;have Y:=zc (o:=.tup [.int (0+(i:Int)),.int (0+(j:Int))]) L;refine⟨d,_,_,rfl,rfl,Y _ _ c,XI N "d",?_⟩;refine dB _ (m++[.ref p]) rfl (λb o e=>?_) zb ?_
     .rw[zg (zh e hd)];exact Y _ _ (O _ _ e)
     .rw[st,<- WP];refine Cel.into d _ (Y _ _ c) (Cel.snoc (Cel.mono Y a) ⟨p,rfl,?_⟩);rw[zb,SX,SX]
    .rw[bg L];rw[bq (show ¬ qI k=true from λy=>L (bh y)),Xc]at st;refine YW (dB _ m rfl O c ?_);rw[st];exact a
   .refine λJ H2=>fm λI m z0 O c a=>?_;subst z0;refine dF _ _ m rfl O c ?_;rw[Wt (l:=t.cps.toList) "a"]at a;rw[Cells.zaU (jX U)];exact a
  .refine λJ H1=>fD λv2 I r z0 s1 B v=>?_;subst z0;rw[Wt (by rw[jD];exact XW _)]at v;exact⟨_,rfl,q d r H1 hd B v s1⟩
def zjf (a b:Str):(a++b).cps.toList=a.cps.toList++b.cps.toList:=by
 have e:(a++b).cps=a.cps++b.cps:=rfl;rw[e,Vq]
def cV (ts:List Nat):AF:=ts.map λc=>V.str ⟨#[c]⟩
def zd8 (ts:List Nat):(cV ts).length=ts.length:=ZB _
def zjg (ts:List Nat)(j c:Nat):(cV ts).set j (V.str ⟨#[c]⟩)=cV (ts.set j c):=by
 unfold cV;rw[Oh]
def zh1 {ts:List Nat}{j:Nat}(h:j<ts.length):(cV ts)[j]?=some (V.str ⟨#[ts.getD j 0]⟩):=by
 unfold cV;rw[Xl,XX h,Xm,XX h];rfl
def getD_mem {ts:List Nat}{j:Nat}(h:j<ts.length):ts.getD j 0∈ts:=by
 rw[Xm,XX h];exact TB h
def mem_set {c:Nat}{S:List Nat}(a:c∈S){ts:List Nat}(h:∀x∈ts,x∈S)(j:Nat):∀x∈ts.set j c,x∈S:=λx b=>by
 rcases List.mem_or_eq_of_mem_set b with h1 | h1
 .exact h x h1
 .rw[h1];exact a
def znL:(".":Str)=⟨#[46]⟩:="q"
def zpe:("#":Str)=⟨#[35]⟩:="q"
def znM:("o":Str)=⟨#[111]⟩:="q"
def Q3 {x:Int}{M:Nat}(h:0<M):0<=x%(M:Int)/\x%(M:Int)<(M:Int):=⟨T3 _ "a",Uf _ "a"⟩
def YH:bd.cps.toList=[63,48,49,50,51,52,53,54,55,56,35]:="q"
def zd9 {m:Nat}(h:m<=8):48+m∈bd.cps.toList:=by
 rw[YH];have:∀m∈Xk 9,48+m ∈ [63,48,49,50,51,52,53,54,55,56,35]:="d"
 exact this m (W9.mpr "a")
def zft {m:Nat}(h:m<=8):V.str (toString ((m:Nat):Int))=V.str ⟨#[48+m]⟩:=by
 have:=zmT (k:=48+m) "a" "a";rwa [show (((48+m:Nat):Int)-48)=((m:Nat):Int) by lia]at this
def zpT {xs:List Nat}{i:Nat}{v:V}(h:(pV xs)[i]?=some v):∃x,xs[i]?=some x/\v=.int ((x:Nat):Int):=by
 unfold pV at h;rw[Xl]at h;cases e:xs[i]? with
 | none=>rw[e]at h;cases h
 | some x =>
  rw[e]at h;cases h;exact⟨x,rfl,rfl⟩
def ZS (c k:Nat):decide (V.str ⟨#[c]⟩=V.str ⟨#[k]⟩)=decide (c=k):=decide_eq_decide.mpr (by rw[zaV])
def zcp {α:Type}{p:α->Bool}{L:List α}{j:Nat}{k:α}(hk:L[j]?=some k):(L.take (j+1)).filter p=(L.take j).filter p++if p k=true then [k] else []:=by
 rw[XB,hk,Xp];congr 1;show Ul _ [k]=_;rw[W3];split<;>rfl
def zjh (rs:AE)(t:Str):(codes (rs++[t])).flatten=(codes rs).flatten++t.cps.toList:=by
 unfold codes;rw[XS,WS];simp
def zlz {u:Nat}(h:u∈bd.cps.toList)(k:(!(!(U9 ("?#":Str) ⟨#[u]⟩ 0 ("?#":Str).length 1).isEmpty))=true):48<=u/\u<=56:=by
 have:∀u∈bd.cps.toList,(!(!(U9 ("?#":Str) ⟨#[u]⟩ 0 ("?#":Str).length 1).isEmpty))=true->48<=u/\u<=56:="q"
 exact this u h k
theorem join_one:∀ts:List Nat,(Oo "" (ts.map λc=>(⟨#[c]⟩:Str)))=⟨ts.toArray⟩
 | []=>rfl
 | [c]=>rfl
 | c::a::r=>by
  have b:=join_one (a::r);show (⟨#[c]⟩:Str)++("":Str)++Oo "" ((a::r).map λc=>(⟨#[c]⟩:Str))=_;rw[b];have e:((⟨#[c]⟩:Str)++("":Str))=⟨#[c]⟩:=by
   show (⟨#[c]++("":Str).cps⟩:Str)=_;have:("":Str).cps=#[]:="q"
   rw[this];rfl
  rw[e];show (⟨#[c]++(a::r).toArray⟩:Str)=⟨(c::a::r).toArray⟩;congr 1;apply Qb.mp;rw[Vq];rfl
def rowOf (a:List Nat)(n k:Nat):List Nat:=(a.drop (n*k)).take n
def rowsOf (a:List Nat)(n R:Nat):AE:=(Xk R).map λk=>(⟨(rowOf a n k).toArray⟩:Str)
def zgx (a:List Nat)(n R:Nat):codes (rowsOf a n R)=(Xk R).map (rowOf a n):=by
 unfold codes rowsOf;rw[Wz];rfl
theorem zcq (a:List Nat)(n:Nat):∀R,((Xk R).map (rowOf a n)).flatten=a.take (n*R)
 | 0=>"s"
 | R+1=>by
  rw[U5,XS,WS,zcq a n R];show _++(rowOf a n R++[])=_;rw[Xc];unfold rowOf;rw[Og,OD]
def zfu {a:List Nat}{n R k:Nat}(h:a.length=R*n)(hk:k<R):(rowOf a n k).length=n:=by
 unfold rowOf;rw[XC,UZ,h];have:n*k+n<=R*n:=by
  rw[<- Og,TD];exact OV n hk
 lia
def zpf {a:List Nat}{n R k:Nat}(h:a.length=R*n)(hk:k<R):zaw (cV a) (some (((n*k:Nat):Nat):Int)) (some (((n*k+n:Nat):Nat):Int))=cV (rowOf a n k):=by
 have:n*k+n<=R*n:=by
  rw[<- Og,TD];exact OV n hk
 unfold zaw rowOf;rw[zd8,HT.zbg,HT.zbg,Vn "a",Vn "a",show n*k+n-n*k=n by lia];unfold cV;rw[TY,Rt]
def isO (ts:List Nat)(y:Nat):Bool:=decide (ts.getD y 0=111)
def tx (R n:Nat)(ts:List Nat)(x:Nat):Nat:=if ts.getD x 0=46 then 48+((jW R n x).filter (isO ts)).length else if ts.getD x 0=111 then 63 else ts.getD x 0
def txs (R n:Nat)(ts:List Nat):List Nat:=(Xk (R*n)).map (tx R n ts)
def Sg (ts:List Nat):Prop:=∀c∈ts,c=46\/c=63\/c=111\/c=35
def zsA {R n:Nat}{ts:List Nat}(g:Sg ts)(f:R<=8)(d:n<=8){x:Nat}(c:x<ts.length)(b:x<R*n):tx R n ts x∈bd.cps.toList:=by
 have a:=g _ (getD_mem c);unfold tx;rcases a with e | e | e | e
 .rw[bw e];exact zd9 (X7 (Xw _ _) (xP f d b))
 .rw[bq "a",bq "a",e,YH];decide
 .rw[bq "a",bw e,YH];decide
 .rw[bq "a",bq "a",e,YH];decide
def zrg {R n:Nat}{ts:List Nat}(f:Sg ts)(e:R<=8)(d:n<=8)(tl:ts.length=R*n):∀c∈txs R n ts,c∈bd.cps.toList:=λc a=>by
 obtain⟨x,b,rfl⟩:=XY.mp a;have:=W9.mp b;exact zsA f e d "a" this
def zpg (R n:Nat)(ts:List Nat):(txs R n ts).length=R*n:=by
 unfold txs;rw[ZB,WZ]
def ztq:Sp:=λc H Q _=>∃(l:Addr) (b:List Nat) (R n:Nat),c=[.ref l,.int (R:Nat),.int (n:Nat)]/\H l=some (.lst (cV b))/\b.length=R*n/\R<=8/\1<=n/\n<=8 /\
 ∀(d:Addr) (a:Hp),H d=none->a d=some (.lst (cV (txs R n b)))->zq H a->Q (.ref d) a
def yr:zB ["_law_signs_here","_law_rows","_law_columns","_law_found","_law_at","_law_sign"] ["_law_signs_here","_law_rows","_law_columns"] (zo ZJ):=bz
def zgy (T:Txt mg)(Z:Prog K mg)(D:zm K mg "_law_texts" ZJ ["_law_signs_here","_law_rows","_law_columns"] f fd):zT P w K mg base CX0 2 f fd ["_law_signs_here","_law_rows","_law_columns"] ztq:=by
 obtain⟨aj,ai,Zq⟩:=Z.law_near;refine D.F.ok yr "l" (λaf A ae s H vs Q E hr h=>?_)
 .revert h;refine gc λl g R n z0 hl tl O n1 N q=>?_;subst z0;have ah:R*n<=8*8:=TK O N;refine⟨_,(@zd _ _ _ _ _ (@qP _ _ 3 _ _ _ _ yr.nd rfl (VI rfl) (@ql _ _ _ _ ze) "r" (.inr rfl)) (zd (qu Xb rfl (prg T.jg (zu jo (pvS 1) (pvS 2))) (pgq 4 yr.nd) (zd (qf 5 yr.nd (zW qy (pvS 0) (pvS 4) (λ_ _=>rfl))) (zac (qo (zw j6 (pvS 5) qK (zG _)) (zf (qf 5 yr.nd (pt1 zbf T.zpH Pi (pb1 zE T.ju W0 (pcm ["_law_one","_law_signs_here"] [none,some 0] cR (zN (pc0 (zco T Zq) hr Zq (za (pvS 4) (za (pvS 1) (za (pvS 2) ze))))) (pgN 0) (qp (zw j6 (zW (zk2 (K:=K) "r") (pvS 1) (pvS 0) (λ_ _=>rfl)) qK (zG _))) (pvS 0)))))) zR) (zac (qo (zw j6 (pvS 5) qK (zG _)) (@zf _ _ _ (@qP _ _ 5 _ _ _ _ yr.nd rfl (VI rfl) qK "r" (.inr rfl))) zR) (zf (yT (ZD WE Wc Wb yF (pvS 3) (za (pvS 5) ze)))))))) (zf (zx (pvS 3))))),?_⟩;ac_nf;refine⟨Qu,λd hd=>?_⟩;have s0:zq H (upd H d (.lst [])):=zc hd;have em:(((R:Nat):Int)*((n:Nat):Int))=((R*n:Nat):Int):=(T7 R n).symm;refine⟨_,rfl,_,rfl,_,_,rfl,rfl,zef "a" "a",_,rfl,"a","a",?_⟩;refine qF (lo:=0) (n:=(((R:Nat):Int)*((n:Nat):Int)).toNat) (λi σ r=>∃(v4 v5:Option V),σ=[some (.ref l),some (.int (R:Nat)),some (.int (n:Nat)),some (.ref d),v4,v5]/\zq H r/\r d=some (.lst (cV ((Xk i).map (tx R n g)))))
   (dM _ _ rfl s0 zb) ?_ ?_
  .refine λi σ H1 hi=>fy λv4 v5 z0 s1 u=>?_;subst z0;have iM:i<R*n:="a"
   have jl:i<g.length:="a"
   rw[show (0:Int)+(i:Nat)=((i:Nat):Int) by lia];refine⟨_,rfl,_,rfl,l,_,_,_,rfl,rfl,SqL.of (s1 _ _ hl),jJ "a" (by rw[WC];exact zh1 jl),?_⟩;refine⟨fun c r=>∃(k:Nat),c=[some (.ref l),some (.int (R:Nat)),some (.int (n:Nat)),some (.ref d),some (.int ((i:Nat):Int)),some (.str ⟨#[k]⟩)]/\zq H1 r/\k=(if g.getD i 0=46 then 48+((jW R n i).filter (isO g)).length else g.getD i 0),?_,?_⟩
   .refine⟨_,rfl,rfl,_,rfl,zfK (λm=>?_) (λm=>?_)⟩
    .rw[znL,ZS]at m;have ab:g.getD i 0=46:=bh m;refine⟨_,rfl,_,rfl,_,rfl,i,R,n,rfl,O,n1,N,iM,λnp H2 ag aa U=>(dD np rfl ⟨_,SqL.of aa⟩ (λz hz=>?_))⟩;refine zY (K:=K) (a:=np) (xs:=pV (jW R n i)) (λj c r=>∃(u0:Option V) (G:AF),c=[u0,some (.ref l)]/\zq H2 r/\r z=some (.lst G)/\G.length=(((jW R n i).take j).filter (isO g)).length)
      (dB _ [] rfl (zc hz) zb rfl) (λj c r _ ⟨_,_,_,y,_⟩=>SqL.of (y _ _ aa)) ?_ ?_
     .refine λj v c H3 hv=>fm λu0 G z0 Y B J=>?_;subst z0;refine fq (λx I z0=>?_) (zpT hv);subst z0;have xm:=W9.mp (XZ.mp (X4 I)).1;have n8:(((jW R n i).take j).filter (isO g)).length<=8:=X7 (Xw _ _) (X7 (List.length_take_le _ _) (X7 (VA (X2.mp I).1) (xP O N iM)));have st:=zcp (p:=isO g) I;refine⟨_,rfl,_,rfl,l,_,_,_,rfl,rfl,SqL.of (Y _ _ (U _ _ (s1 _ _ hl))),jJ "a" (by rw[WC];exact zh1 (j:=x) "a"),rfl,_,rfl,zfK (λM=>?_) (λM=>?_)⟩
      .rw[znM,ZS]at M;rw[bw (show isO g x=true from M)]at st;refine⟨_,rfl,_,B,XI (show _<=64 by lia) "d",_,_,rfl,λb o e=>?_,zb,?_⟩
       .rw[zg (zh e hz)];exact Y _ _ e
       .rw[st,X5,X5,J];rfl
      .rw[znM,ZS]at M;rw[bq (show ¬ isO g x=true from M),Xc]at st;exact dB _ G rfl Y B (by rw[st];exact J)
     refine λc H3=>fm λu0 G z0 Y B J=>?_;subst z0;have pl:(pV (jW R n i)).length=(jW R n i).length:=ZB _;rw[pl,XH]at J;have n8:G.length<=8:=by rw[J];exact X7 (Xw _ _) (xP O N iM)
     refine⟨z,G,rfl,.inl (SqL.of B),_,rfl,?_,?_⟩
     .show (((G.length:Nat):Int).natAbs).log2<1920;rw[Uc];exact XI (Nat.log2_le_self _) "a"
     .exact dD (48+G.length) (congrArg (λv=>[some (V.ref l),some (.int (R:Nat)),some (.int (n:Nat)),some (.ref d),some (.int ((i:Nat):Int)),some v]) (zft n8)) (U.trans Y) (by rw[bw ab,J])
    .rw[znL,ZS]at m;exact dD (g.getD i 0) rfl (zq.refl _) (bq λe=>m (br e)).symm
   refine λc H2=>fu λk z0 U ek=>?_;subst z0;refine dG (fun c r=>c=[some (.ref l),some (.int (R:Nat)),some (.int (n:Nat)),some (.ref d),some (.int ((i:Nat):Int)),some (.str ⟨#[if k=111 then 63 else k]⟩)]/\r=H2) ?_ ?_
   .refine⟨_,rfl,rfl,_,rfl,zfK (λm=>?_) (λm=>?_)⟩
    .rw[znM,ZS]at m;rw[bw (bh m)];exact⟨congrArg (λv=>[some (V.ref l),some (.int (R:Nat)),some (.int (n:Nat)),some (.ref d),some (.int ((i:Nat):Int)),some (V.str v)]) QT,rfl⟩
    .rw[znM,ZS]at m;rw[bq λe=>m (br e)];exact⟨rfl,rfl⟩
   rintro c H3 ⟨rfl,rfl⟩;have ac:(if k=111 then 63 else k)=tx R n g i:=by
    have n8:=X7 (Xw (isO g) _) (xP O N iM);unfold tx;rw[ek];by_cases e:g.getD i 0=46
    .rw[bw e,bw e,bq "a"]
    .rw[bq e,bq e]
   rw[ac];have L:=U _ _ u;refine⟨_,rfl,.inl ⟨rfl,_,SqL.of L⟩,_,rfl,d,_,_,rfl,rfl,L,?_,_,_,rfl,λb o e=>?_,?_⟩
   .rw[zd8,ZB,WZ];exact XD (show i<64 by lia) "d"
   .rw[zg (zh e hd)];exact U _ _ (s1 _ _ e)
   .rw[zb,U5,XS];unfold cV;rw[XS];rfl
  .refine λσ H1=>fy λv4 v5 z0 s1 u=>?_;subst z0;rw[em,WC]at u;exact⟨_,rfl,q d H1 hd u s1⟩
theorem zh3:∀cs:List Nat,((cs.map λc=>(⟨#[c]⟩:Str)).map (·.length)).sum=cs.length
 | []=>rfl
 | c::r=>by
  rw[Xe,Xe,List.sum_cons,zh3 r,XA];show 1+r.length=_;lia
def sg4:List Nat:=[46,63,111,35]
def zcB (c:Nat):Bool:=decide (c=63) || decide (c=111)
theorem Jg (p:Nat->Bool)(c:Nat):∀(ts:List Nat) (j:Nat),(ts.set j c).countP p<=ts.countP p+if p c=true then 1 else 0
 | [],_=>W2 _
 | t::r,0=>by
  show (c::r).countP p<=_;rw[WQ,WQ];lia
 | t::r,j+1=>by
  have:=Jg p c r j;show (t::r.set j c).countP p<=_;rw[WQ,WQ];lia
def zrh (n:Nat):(W6 n [V.str "."]).flatten=cV (W6 n 46):=by
 induction n with
 | zero=>rfl
 | succ n a =>
  rw[V2,WG,a];have:(".":Str)=⟨#[46]⟩:="q"
  rw[this];rfl
def zph (x:Int):∃c:Nat,atI [V.str "?",V.str "o"] (x%2)=some (V.str ⟨#[c]⟩)/\c∈sg4:=by
 have h:x%2=0\/x%2=1:="a"
 rw[QT,znM];rcases h with h | h<;>rw[h]
 .exact⟨63,rfl,"d"⟩
 .exact⟨111,rfl,"d"⟩
def ztr (K:X0):Sp:=λg H Q _=>∃(a:Addr) (f:List Int) (st:Int) (R n:Nat),g=[.ref a,.int st,.int (R:Nat),.int (n:Nat)]/\SqL K H a (f.map V.int)/\0<=st/\1<=R/\R<=4/\1<=n/\n<=8 /\
 ∀(d:Addr) (b:List Nat) (e:Hp),H d=none->e d=some (.lst (cV b))->b.length=R*n->(∀c∈b,c∈sg4)->b.countP zcB<=10->zq H e->Q (.ref d) e
def jw:zB ["_law_script","_law_start","_law_rows","_law_columns","_law_many","_law_signs_here","_law_k","_law_cell","_law_holes"] ["_law_script","_law_start","_law_rows","_law_columns"] (zo ZI):=bz
def zgz (T:Txt mg)(Z:Prog K mg)(D:zm K mg "_law_signs" ZI ["_law_script","_law_start","_law_rows","_law_columns"] f fd):zT P w K mg base CX0 2 f fd ["_law_script","_law_start","_law_rows","_law_columns"] (ztr K):=by
 obtain⟨Jh,xB,L⟩:=Z.law_cell_at;have jA:zT P w K mg base CX0 1 Jh xB ["_law_script","_law_k"] (ziW K):=jC T L;refine D.F.ok jw "l" (λan A ah s H vs Q E Y h=>?_)
 .revert h;refine gg λa z st R n z0 U ai r1 r5 n1 n5 q=>?_;subst z0;have m1:0<R*n:=Nat.mul_pos "a" "a";have ao:R*n<=4*8:=TK r5 n5;refine⟨_,(zd (qf 4 jw.nd (zu jo (pvS 2) (pvS 3))) (@zd _ _ _ _ _ (@qP _ _ 5 _ _ _ _ jw.nd rfl (VI rfl) (@zu _ _ _ _ _ _ _ _ zio (@ql _ _ _ _ (@za _ _ _ _ _ qK ze rfl)) (pvS 4)) "r" (.inr rfl)) (zd (qu Xb rfl (prg T.jg (zu qN (zu qX (pc0 jA Y L (za (pvS 0) (za (pvS 1) ze))) zj) zj)) (pgq 6 jw.nd) (zd (qf 7 jw.nd (pc0 jA Y L (za (pvS 0) (za (zu zQ (zu zQ (pvS 1) zj) (pvS 6)) ze)))) (@zf _ _ _ (@YS _ _ _ _ _ _ (@zW _ _ _ _ _ _ _ qy (@ql _ _ _ _ (@za _ _ _ _ _ qK (@za _ _ _ _ _ qK ze rfl) rfl)) (zu qN (zu qX (pvS 7) (pvS 4)) zj) (λ_ _=>rfl)) (zif (pvS 5) (zu qN (pvS 7) (pvS 4)) set_list) "r" "r" "r")))) (zd (qf 8 jw.nd (zu qX (pc0 jA Y L (za (pvS 0) (za (zu zQ (pvS 1) zj) ze))) zj)) (zd (qu Xb rfl (prg T.jg (zu qN (pc0 jA Y L (za (pvS 0) (za (zu zQ (pvS 1) zj) ze))) zj)) (pgq 6 jw.nd) (zac (qo (zw j6 (zW qy (pvS 5) (zu qN (pvS 8) (pvS 4)) (λ_ _=>rfl)) qK (zG _)) (@zf _ _ _ (@YS _ _ _ _ _ _ qK (zif (pvS 5) (zu qN (pvS 8) (pvS 4)) set_list) "r" "r" "r")) zR) (zf (qf 8 jw.nd (zu qX (pvS 8) (pvS 4)))))) (zf (zx (pvS 5)))))))),?_⟩;ac_nf;refine⟨_,rfl,_,rfl,_,_,rfl,rfl,zef "a" "a",?_⟩;show yv 4 (V.int ((R*n:Nat):Int)) _ _ _;generalize hM:R*n=M at *
  refine⟨sz_1,λl0 af=>?_⟩;have s0:=zc (o:=.lst [.str "."]) af;refine⟨_,rfl,l0,_,_,rfl,rfl,zb,"a","a",?_,λd hd=>?_⟩
  .exact X7 (show 1*((M:Nat):Int).toNat<=120 by lia) "d"
  rw[WC,zrh];have s1:=s0.trans (zc (o:=.lst (cV (W6 M 46))) hd);have m:H d=none:=s0.free hd;have ac:upd (upd H l0 (.lst [.str "."])) d (.lst (cV (W6 M 46))) d=some (.lst (cV (W6 M 46))):=zb;generalize upd (upd H l0 (.lst [.str "."])) d (.lst (cV (W6 M 46)))=H1 at *
  refine⟨_,rfl,_,rfl,a,z,_,rfl,s1.seq U,ai,λc0=>⟨_,_,rfl,rfl,yV.small "d" "d",_,_,rfl,rfl,(by show (0:Int)<11;decide),?_⟩⟩;obtain⟨k0,k1⟩:=Q3 (x:=c0/64) (M:=11) "d";refine dW _ rfl "a" "a" ?_;refine qF (lo:=0) (n:=(c0/64%11).toNat) (λi u l=>∃(g:List Nat) (I J:Option V),u=[some (.ref a),some (.int st),some (.int (R:Nat)),some (.int (n:Nat)),some (.int (M:Nat)),some (.ref d),I,J,none]/\zq H l/\l d=some (.lst (cV g))/\g.length=M/\(∀c∈g,c∈sg4)/\g.countP zcB<=i)
   (dP (W6 M 46) _ _ rfl s1 ac Ps (λc hc=>by rw[(List.mem_replicate.mp hc).2];decide) (by rw[Po];simp[zcB])) ?_ ?_
  .refine λi u H2 hi=>fE λg I J z0 v p tl tm tc=>?_;subst z0;refine⟨_,rfl,_,rfl,_,_,rfl,rfl,_,rfl,_,_,rfl,rfl,a,z,_,rfl,v.seq U,"a",λc=>?_⟩;obtain⟨O,e1⟩:=Q3 (x:=c) (M:=M) m1;refine fq (λch ab aa=>?_) (zph (c/(M:Int)));refine⟨Jm,λml ag=>?_⟩;have z3:=zc (o:=.lst [.str "?",.str "o"]) ag;refine⟨_,rfl,_,rfl,_,_,rfl,rfl,yV.small "a" "a",_,_,rfl,rfl,(by show (0:Int)<2;decide),ml,_,_,_,rfl,rfl,SqL.of zb,ab,?_⟩;refine⟨_,rfl,_,rfl,_,rfl,_,_,rfl,rfl,"a",d,_,_,_,rfl,rfl,z3 _ _ p,zdJ O (by rw[zd8,tl];exact e1),?_⟩;refine dP (g.set (c%(M:Int)).toNat ch) _ _ rfl (λb o e=>?_) ?_ ?_ (mem_set aa tm _) ?_
   .rw[zg (zh e m)];exact z3 _ _ (v _ _ e)
   .rw[zb,zjg]
   .rw[Sf,tl]
   .refine X7 (Jg zcB ch g _) ?_;split<;>lia
  refine λu H2=>fE λg I J z0 v p tl tm tc=>?_;subst z0;have B:g.countP zcB<=10:="a"
  refine⟨_,rfl,_,rfl,_,_,rfl,rfl,a,z,_,rfl,v.seq U,"a",λc1=>⟨_,_,rfl,rfl,yV.small "d" "d",?_⟩⟩;refine⟨_,rfl,_,rfl,_,_,rfl,rfl,a,z,_,rfl,v.seq U,"a",λc2=>⟨_,_,rfl,rfl,(by show (0:Int)<4;decide),?_⟩⟩;obtain⟨h0,h1⟩:=Q3 (x:=c2) (M:=4) "d";refine dW _ rfl "a" "a" ?_;refine qF (lo:=0) (n:=(c2%4).toNat) (λi u l=>∃(g:List Nat) (I J:Option V) (r:Int),u=[some (.ref a),some (.int st),some (.int (R:Nat)),some (.int (n:Nat)),some (.int (M:Nat)),some (.ref d),I,J,some (.int r)]/\zq H l/\l d=some (.lst (cV g))/\g.length=M/\(∀c∈g,c∈sg4)/\g.countP zcB<=10)
   (dQ g _ _ _ rfl v p tl tm B) ?_ ?_
  .refine λi u H3 hi=>fX λy w6 w7 r z0 s3 j G um uc=>?_;subst z0;obtain⟨O,e1⟩:=Q3 (x:=r) (M:=M) m1;have jl:(r%(M:Int)).toNat<y.length:="a"
   refine⟨fun N l=>∃(g:List Nat),N=[some (.ref a),some (.int st),some (.int (R:Nat)),some (.int (n:Nat)),some (.int (M:Nat)),some (.ref d),some (.int (0+(i:Int))),w7,some (.int r)]/\zq H l/\l d=some (.lst (cV g))/\g.length=M/\(∀c∈g,c∈sg4)/\g.countP zcB<=10,?_,?_⟩
   .refine⟨_,rfl,_,rfl,_,rfl,_,_,rfl,rfl,"a",d,_,_,_,rfl,rfl,SqL.of j,jJ O (zh1 jl),rfl,_,rfl,zfK (λhc=>?_) (λ_=>?_)⟩
    .refine⟨_,rfl,_,rfl,_,rfl,_,_,rfl,rfl,"a",d,_,_,_,rfl,rfl,j,zdJ O (by rw[zd8,G];exact e1),?_⟩;refine dD (y.set (r%(M:Int)).toNat 35) rfl (λb o e=>?_) (fc ?_ ?_ (mem_set "d" um _) ?_)
     .rw[zg (zh e m)];exact s3 _ _ e
     .rw[zb,zpe,zjg]
     .rw[Sf,G]
     .refine X7 (Jg zcB 35 y _) ?_;rw[bq "d"];exact uc
    .exact dD y rfl s3 (fc j G um uc)
   refine λN H4=>gq λam z0 s4 ae ak al aj=>?_;subst z0;exact⟨_,rfl,_,rfl,_,_,rfl,rfl,yV.small "a" "a",am,_,_,_,rfl,s4,ae,ak,al,aj⟩
  refine λu H3=>fX λy w6 w7 r z0 s3 j G um uc=>?_;subst z0;exact⟨_,rfl,q d y H3 m j G um uc s3⟩
def zpi:("0":Str)=⟨#[48]⟩:="q"
theorem zfv (p:Nat->Bool)(i:Nat):∀(j:Nat) (t:List Nat),(Cells.zU p i j t).length=t.countP p
 | _,[]=>rfl
 | j,c::r=>by
  rw[Cells.zU,X5,zfv p i (j+1) r,WQ];split<;>simp<;>lia
theorem zfw (p:Nat->Bool):∀(i:Nat) (gs:List (List Nat)),(Cells.zJ p i gs).length=gs.flatten.countP p
 | _,[]=>rfl
 | i,t::r=>by rw[Cells.zJ,X5,zfv,zfw p (i+1) r,WG,Ud]
def zfx (rs:AE):(zp rs).length=(codes rs).flatten.countP qI:=zfw qI 0 (codes rs)
def zri (x:Int):∃c:Nat,atI ("??#012345678":Str).cps.toList (x%12)=some c/\c∈bd.cps.toList:=by
 have e:("??#012345678":Str).cps.toList=[63,63,35,48,49,50,51,52,53,54,55,56]:="q"
 rw[e,YH];have a:=T3 x (show (12:Int)≠0 by decide);have b:=Uf x (show (0:Int)<12 by decide);have t:∀m∈Xk 12,((atI [63,63,35,48,49,50,51,52,53,54,55,56] ((m:Nat):Int)).any λc=>[63,48,49,50,51,52,53,54,55,56,35].contains c)=true:="q"
 have h:=t (x%12).toNat (W9.mpr "a");rw[Vr a]at h;cases ha:atI [63,63,35,48,49,50,51,52,53,54,55,56] (x%12) with
 | none =>
  rw[ha]at h;cases h
 | some c =>
  rw[ha]at h;exact⟨c,rfl,List.contains_iff_mem.mp h⟩
def zsC (K:X0):Sp:=λf H Q _=>∃(a:Addr) (e:List Int) (st:Int) (R n:Nat),f=[.ref a,.int st,.int (R:Nat),.int (n:Nat)]/\SqL K H a (e.map V.int)/\0<=st/\1<=R/\R<=4/\1<=n/\n<=8 /\
 ∀(p l:Addr) (b:AE) (c:Int) (d:Hp),qd d p l b c->b.length=R->(∀t∈b,Row bd.cps.toList n t)->(zp b).length<=10->0<=c->c<=64->zq H d->Q (.ref p) d
def qQ:zB ["_law_script","_law_start","_law_rows","_law_columns","_law_texts_here","_law_shut","_law_row","_law_number","_law_text","_law_column","_law_sign"] ["_law_script","_law_start","_law_rows","_law_columns"] (zo zak):=bz
def zjj (T:Txt mg)(Z:Prog K mg)(D:zm K mg "_law_dug" zak ["_law_script","_law_start","_law_rows","_law_columns"] f fd):zT P w K mg base CX0 2 f fd ["_law_script","_law_start","_law_rows","_law_columns"] (zsC K):=by
 obtain⟨Jh,xB,Y⟩:=Z.law_cell_at;refine D.F.ok qQ "l" (λaf A ac s H vs Q E hr h=>?_)
 .revert h;refine gg λa ns st R n z0 hS ag r1 r5 n1 n5 q=>?_;subst z0;refine⟨_,(@zd _ _ _ _ _ (@qP _ _ 4 _ _ _ _ qQ.nd rfl (VI rfl) (@ql _ _ _ _ ze) "r" (.inr rfl)) (@zd _ _ _ _ _ (@qP _ _ 5 _ _ _ _ qQ.nd rfl (VI rfl) zj "r" (.inr rfl)) (zd (qu Xb rfl (prg T.jg (pvS 2)) (pgq 6 qQ.nd) (zd (qf 7 qQ.nd (pc0 (jC T Y) hr Y (za (pvS 0) (za (zu zQ (zu zQ (pvS 1) zj) (pvS 6)) ze)))) (@zd _ _ _ _ _ (@qP _ _ 8 _ _ _ _ qQ.nd rfl (VI rfl) qK "r" (.inr rfl)) (zd (qu Xb rfl (prg T.jg (pvS 3)) (pgq 9 qQ.nd) (@zd _ _ _ _ _ (@qP _ _ 10 _ _ _ _ qQ.nd rfl (VI rfl) (@zW _ _ _ _ _ _ _ zaf qK (zu qN (pvS 7) zj) (λ_ _=>rfl)) "r" (.inr rfl)) (zd (qf 7 qQ.nd (zu qX (pvS 7) zj)) (zac (qo (PW.pt (zfG (zw j6 (pvS 10) qK (zG _)) (zcJ (zw j6 (pvS 5) zj (zG _))))) (@zf _ _ _ (@qP _ _ 10 _ _ _ _ qQ.nd rfl (VI rfl) qK "r" (.inr rfl))) zR) (zd (qf 5 qQ.nd (zu zQ (pvS 5) (pt1 zeD T.ze6 Vj (jB j6 (pvS 10) qK (zG _))))) (zf (qf 8 qQ.nd (zu zik (pvS 8) (pvS 10))))))))) (zf (yT (ZD WE Wc Wb yF (pvS 4) (za (pvS 8) ze)))))))) (zf (zx (jb (za (pvS 4) (za (zu qN (pc0 (jC T Y) hr Y (za (pvS 0) (za (zu zQ (pvS 1) zj) ze))) (zu zQ (pvS 5) zj)) ze)))))))),?_⟩;ac_nf;refine⟨Qu,λd hd=>?_⟩;have s0:zq H (upd H d (.lst [])):=zc hd;refine⟨_,rfl,_,rfl,"a","a",?_⟩;refine qF (lo:=0) (n:=((R:Nat):Int).toNat) (λi G I=>∃(y:AE) (m:Nat) (v6 v7 v8 N l:Option V),G=[some (.ref a),some (.int st),some (.int (R:Nat)),some (.int (n:Nat)),some (.ref d),some (.int (m:Nat)),v6,v7,v8,N,l]/\zq H I/\I d=some (.lst (y.map V.str))/\y.length=i/\(∀t∈y,Row bd.cps.toList n t)/\(codes y).flatten.countP qI=m/\m<=10)
   (eN [] 0 _ _ _ _ _ rfl s0 zb rfl (dU (λ_ h=>nomatch h) rfl (W2 _))) ?_ ?_
  .refine λi G H1 hi=>fV λy m v6 v7 v8 N l z0 s1 r M=>fL λrr rc B=>?_;subst z0;refine⟨_,rfl,_,rfl,_,_,rfl,rfl,_,rfl,_,_,rfl,rfl,a,ns,_,rfl,s1.seq hS,"a",λc=>?_⟩;refine⟨_,rfl,_,rfl,"a","a",?_⟩;refine qF (lo:=0) (n:=((n:Nat):Int).toNat) (λj G I=>∃(t:Str) (k:Nat) (x:Int) (N l:Option V),G=[some (.ref a),some (.int st),some (.int (R:Nat)),some (.int (n:Nat)),some (.ref d),some (.int (k:Nat)),some (.int (0+(i:Int))),some (.int x),some (.str t),N,l]/\I=H1/\t.cps.toList.length=j/\(∀c∈t.cps.toList,c∈bd.cps.toList)/\m+t.cps.toList.countP qI=k/\k<=10)
    (dO "" m c _ _ rfl rfl rfl (by intro c hc;cases hc) rfl B) ?_ ?_
   .refine λj G H2 hj=>fS λt k x w9 ae z0 z1 tl tm tk z=>?_;subst z0 z1;refine fq (λch ab L=>?_) (zri x);refine⟨_,rfl,_,_,rfl,rfl,(by show (0:Int)<12;decide),_,_,ch,rfl,rfl,"q",ab,?_⟩;refine⟨_,rfl,_,_,rfl,rfl,yV.small "d" "d",?_⟩;refine⟨fun O I=>∃(e:Nat),O=[some (.ref a),some (.int st),some (.int (R:Nat)),some (.int (n:Nat)),some (.ref d),some (.int (k:Nat)),some (.int (0+(i:Int))),some (.int (x/12)),some (.str t),some (.int (0+(j:Int))),some (.str ⟨#[e]⟩)]/\I=H2/\e∈bd.cps.toList/\(e=63->k<10),?_,?_⟩
    .refine⟨_,rfl,rfl,_,rfl,?_⟩;have U:decide (V.str ⟨#[ch]⟩=V.str "?")=decide (ch=63):=by rw[QT,ZS]
     by_cases hq:ch=63
     .refine jQ (U.trans (br hq)) ?_;refine⟨_,rfl,rfl,_,rfl,?_⟩;have J:decide (V.int ((k:Nat):Int)=V.int 10)=decide (k=10):=decide_eq_decide.mpr ⟨λh=>by injection h with h;lia,λh=>by rw[h];rfl⟩;by_cases hk:k=10
      .refine jQ (J.trans (br hk)) ?_;refine dW 48 (congrArg (λv:Str=>[some (V.ref a),some (.int st),some (.int (R:Nat)),some (.int (n:Nat)),some (.ref d),some (.int (k:Nat)),some (.int (0+(i:Int))),some (.int (x/12)),some (.str t),some (.int (0+(j:Int))),some (V.str v)]) zpi) rfl (zd9 (m:=0) "d") (λe=>"a")
      .refine qw (J.trans (bg hk)) ?_;exact dW ch rfl rfl L (λ_=>"a")
     .refine qw (U.trans (bg hq)) ?_;exact dW ch rfl rfl L (λe=>absurd e hq)
    refine λO H3=>gb λe z0 z1 eb aa=>?_;subst z0 z1;have U:decide (V.str ⟨#[e]⟩=V.str "?")=decide (e=63):=by rw[QT,ZS]
    refine⟨_,rfl,_,rfl,rfl,.inr (dG _ rfl ⟨_,_,rfl,rfl,?_⟩)⟩;refine⟨_,rfl,_,rfl,_,_,rfl,rfl,?_,?_⟩
    .show t.cps.size+1<=Xy;have:t.cps.size=j:=by rw[<- tl,XV]
     exact X7 (show _<=64 by lia) "d"
    .have hv:V.int (((k:Nat):Int)+(if decide (V.str ⟨#[e]⟩=V.str "?")=true then 1 else 0))=V.int ((k+(if e=63 then 1 else 0):Nat):Int):=by
      rw[U];by_cases g:e=63
      .rw[bw g,br g];rfl
      .rw[bq g,bg g];rfl
     refine dO (t++⟨#[e]⟩) (k+(if e=63 then 1 else 0)) (x/12) (some (.int (0+(j:Int)))) (some (.str ⟨#[e]⟩)) (congrArg (λv:V=>[some (V.ref a),some (.int st),some (.int (R:Nat)),some (.int (n:Nat)),some (.ref d),some v,some (.int (0+(i:Int))),some (.int (x/12)),some (.str (t++⟨#[e]⟩)),some (.int (0+(j:Int))),some (.str ⟨#[e]⟩)]) hv) rfl ?_ (λc hc=>?_) ?_ ?_
     .rw[zjf,X5,tl];rfl
     .rw[zjf]at hc;rcases XU.mp hc with hc | hc
      .exact tm c hc
      .have:c=e:=by simpa using hc
       rw[this];exact eb
     .rw[zjf,Ud,<- tk];have:So qI (⟨#[e]⟩:Str).cps.toList=if e=63 then 1 else 0:=by
       show So qI [e]=_;rw[WQ,List.countP_nil,V1];unfold qI;by_cases g:e=63
       .rw[bw g,bw (br g)]
       .rw[bq g,bq (λh=>g (bh h))]
      rw[this];lia
     .by_cases g:e=63
      .rw[bw g];exact aa g
      .rw[bq g];exact z
   refine λG H2=>fS λt k x w9 ae z0 z1 tl tm tk z=>?_;subst z0 z1;rw[WC]at tl;refine⟨_,rfl,.inl ⟨rfl,_,SqL.of r⟩,_,rfl,d,_,_,rfl,rfl,r,?_,y++[t],k,_,_,_,_,_,rfl,λb o e=>?_,?_,?_,λu hu=>?_,?_,z⟩
   .rw[ZB,M];exact XD (show i<64 by lia) "d"
   .rw[zg (zh e hd)];exact s1 _ _ e
   .rw[zb,XS];rfl
   .rw[X5,M];rfl
   .rcases XU.mp hu with hu | hu
    .exact rr u hu
    .have:u=t:=by simpa using hu
     rw[this];exact⟨by rw[<- tl,XV],tm⟩
   .rw[zjh,Ud,rc,tk]
  refine λG H1=>fV λy m v6 v7 v8 N l z0 s1 r M=>fL λrr rc B=>?_;subst z0;rw[WC]at M;refine⟨_,rfl,_,rfl,_,rfl,_,_,rfl,rfl,a,ns,_,rfl,s1.seq hS,"a",λc=>⟨_,rfl,_,_,rfl,rfl,_,_,rfl,rfl,"a",Jm,λp hp=>?_⟩⟩;have z2:=zc (o:=.tup [.ref d,.int (c%(((m:Nat):Int)+2))]) hp;have c0:=T3 c (show ((m:Nat):Int)+2≠0 by lia);have c1:=Uf c (show 0<((m:Nat):Int)+2 by lia);exact q p d y _ _ ⟨zb,z2 _ _ r⟩ M rr (by rw[zfx,rc];exact B) c0 "a" (s1.trans z2)
def znN (ts:List Nat):cV ts=(ts.map λc=>(⟨#[c]⟩:Str)).map V.str:=by
 unfold cV;rw[Wz];rfl
def range_getD (ts:List Nat):(Xk ts.length).map (λx=>ts.getD x 0)=ts:=by
 refine SM λi=>?_;rw[Xl];by_cases h:i<ts.length
 .rw[Uz h,XX h];show some (ts.getD i 0)=_;rw[Xm,XX h];rfl
 .rw[Tv.mpr (by rw[WZ];lia),Tv.mpr "a"];rfl
def zsD {ts:List Nat}(h:∀c∈ts,c∈sg4):Sg ts:=λc a=>by
 have:=h c a;unfold sg4 at this;simp only[XF,VS,or_false]at this;exact this
def znO {R n:Nat}{ts:List Nat}(f:Sg ts)(tl:ts.length=R*n)(d:R<=8)(c:n<=8):(txs R n ts).countP qI=ts.countP zcB:=by
 have e:ts.countP zcB=((Xk ts.length).map λx=>ts.getD x 0).countP zcB:=by rw[range_getD]
 unfold txs;rw[e,T1,T1,tl];refine Vu λx a=>?_;have a:=W9.mp a;show qI (tx R n ts x)=true↔zcB (ts.getD x 0)=true;have b:=f _ (getD_mem (ts:=ts) (j:=x) "a");unfold tx;rcases b with e | e | e | e
 .rw[bw e,e];have:=X7 (Xw (isO ts) (jW R n x)) (xP d c a);refine⟨λh=>?_,λh=>nomatch h⟩;have:=bh (show decide (_=63)=true from h);lia
 .rw[bq "a",bq "a",e];exact⟨λ_=>rfl,λ_=>rfl⟩
 .rw[bq "a",bw e,e];exact⟨λ_=>rfl,λ_=>rfl⟩
 .rw[bq "a",bq "a",e];exact⟨(λh=>nomatch h),(λh=>nomatch h)⟩
def znP (K:X0):Sp:=λf H Q _=>∃(a:Addr) (e:List Int) (st:Int) (R n:Nat),f=[.ref a,.int st,.int (R:Nat),.int (n:Nat)]/\SqL K H a (e.map V.int)/\0<=st/\1<=R/\R<=4/\1<=n/\n<=8 /\
 ∀(p l:Addr) (b:AE) (c:Int) (d:Hp),qd d p l b c->b.length=R->(∀t∈b,Row bd.cps.toList n t)->(zp b).length<=10->0<=c->c<=64->zq H d->Q (.ref p) d
def Js:zB ["_law_script","_law_start","_law_rows","_law_columns","_law_signs_here","_law_told_here","_law_bent","_law_at"] ["_law_script","_law_start","_law_rows","_law_columns"] (zo Zh):=bz
def zh4 (T:Txt mg)(Z:Prog K mg)(D:zm K mg "_law_half" Zh ["_law_script","_law_start","_law_rows","_law_columns"] f fd):zT P w K mg base CX0 3 f fd ["_law_script","_law_start","_law_rows","_law_columns"] (znP K):=by
 obtain⟨Jh,xB,zL⟩:=Z.law_cell_at;obtain⟨ap,ar,ae⟩:=Z.law_signs;obtain⟨aq,au,af⟩:=Z.law_texts;obtain⟨aw,av,ag⟩:=Z.law_dug;refine D.F.ok Js "l" (λan A am s H m Q E hr h=>?_)
 .revert h;refine gg λa ns st R n z0 hS ac r1 r4 n1 U q=>?_;subst z0;have r8:R<=8:="a"
  have m1:0<R*n:=Nat.mul_pos "a" "a";have ao:R*n<=4*8:=TK r4 U;have aa:(((R:Nat):Int)*((n:Nat):Int))=((R*n:Nat):Int):=(T7 R n).symm;refine⟨_,(zd (qo (zw ziM (zu qN (pc0 (jC T zL) hr zL (za (pvS 0) (za (zu zQ (pvS 1) zj) ze))) zj) zj (zG _)) (zf (zx (pc0 (zjj T Z ag) hr ag (za (pvS 0) (za (pvS 1) (za (pvS 2) (za (pvS 3) ze))))))) zR) (zd (qf 4 Js.nd (pc0 (zgz T Z ae) hr ae (za (pvS 0) (za (pvS 1) (za (pvS 2) (za (pvS 3) ze)))))) (zd (qf 5 Js.nd (pc0 (zgy T Z af) hr af (za (pvS 4) (za (pvS 2) (za (pvS 3) ze))))) (zd (qf 6 Js.nd (pc0 (jC T zL) hr zL (za (pvS 0) (za (zu zQ (pvS 1) zj) ze)))) (zd (qf 7 Js.nd (zu qN (zu qX (pvS 6) zj) (zu jo (pvS 2) (pvS 3)))) (zac (qo (PW.pt (zfG (zw j6 (zu qN (pvS 6) zj) zj (zG _)) (zcJ (zw zbi (zW qy (pvS 5) (pvS 7) (λ_ _=>rfl)) qK "r")))) (zf (YS (pt1 zbf T.zpH Pi (zu qN (zu zQ (zu zQ (pt1 YY T.ze6 Vj (zW qy (pvS 5) (pvS 7) (λ_ _=>rfl))) zj) (zu qN (zu qX (pvS 6) zj) zj)) zj)) (zif (pvS 5) (pvS 7) set_list))) zR) (zf (zx (jb (za (zjK (N:=["_law_k","_law_told_here","_law_columns"]) (src:=[none,some 5,some 3]) (j8.free (O:=(zo Zh).names) (XN:=["_law_script","_law_start","_law_rows","_law_columns","_law_signs_here","_law_told_here","_law_bent","_law_at"]) rfl rfl ⟨_,rfl⟩ rfl rfl "q" "q" "q" rfl "q") rfl (zeC "r" T.jg (za (pvS 2) ze)) (λ_ _ _ _ _=>(zfH (i:=0) (by show Te (["_law_k","_law_told_here","_law_columns"]:AE);decide+kernel) rfl (VI rfl))) (λ_ _ _ _ _=>qx) (λ_ _ _ _ _=>(@zqD _ K _ _ _ _ _ _ _ _ _ _ _ "r" PySem.F.plainAttrs_str PySem.F.slot_str_join PySem.F.type_str_join (zmz (K:=K) "r") qK (za (Qy (zhf (K:=K) "r") (pvS 1) (zab (zu jo (pvS 2) (pvS 0))) (zab (zu zQ (zu jo (pvS 2) (pvS 0)) (pvS 2)))) ze) "r" "r" "r" "r" "r"))) (za (ZD WE P0 PZ zl6 (pvS 4) (@za _ _ _ _ _ qK ze rfl)) ze))))))))))),?_⟩;ac_nf;refine⟨_,rfl,_,rfl,_,_,rfl,rfl,a,ns,_,rfl,hS,"a",λc0=>⟨_,_,rfl,rfl,(by show (0:Int)<8;decide),_,_,rfl,rfl,_,rfl,zfK (λ_=>?_) (λ_=>?_)⟩⟩
  .exact⟨_,rfl,_,rfl,_,rfl,_,rfl,a,ns,st,R,n,rfl,hS,ac,r1,r4,n1,U,λp l rs b H1 B rl rr sh b0 b1 s1=>q p l rs b H1 B rl rr sh b0 b1 s1⟩
  refine⟨_,rfl,_,rfl,_,rfl,_,rfl,a,ns,st,R,n,rfl,hS,ac,r1,r4,n1,U,λd I H1 hd J tl tm tc s1=>?_⟩;refine⟨_,rfl,_,rfl,_,rfl,d,I,R,n,rfl,J,tl,r8,n1,U,λe H2 he u s2=>?_⟩;have ak:H e=none:=s1.free he;have G:=s1.trans s2;have L:=s2 _ _ J;have sg:=zsD tm;have um:=zrg sg r8 U tl;have ul:=zpg R n I;have uc:(txs R n I).countP qI<=10:=by
   rw[znO sg tl r8 U];exact tc
  generalize txs R n I=y at *
  refine⟨_,rfl,_,rfl,_,_,rfl,rfl,a,ns,_,rfl,G.seq hS,"a",λj=>?_⟩;refine⟨_,rfl,_,_,rfl,rfl,yV.small "d" "d",_,rfl,_,rfl,_,_,rfl,rfl,zef "a" "a",_,_,rfl,rfl,(by rw[aa];lia),?_⟩;show yv 7 (V.int (j/32%(((R:Nat):Int)*((n:Nat):Int)))) _ _ _;rw[aa];obtain⟨a0,a1⟩:=Q3 (x:=j/32) (M:=R*n) m1;generalize j/32%((R*n:Nat):Int)=g at *
  have jl:g.toNat<y.length:="a"
  refine⟨fun r Y=>∃(m:List Nat),r=[some (.ref a),some (.int st),some (.int (R:Nat)),some (.int (n:Nat)),some (.ref d),some (.ref e),some (.int j),some (.int g)]/\zq H Y/\Y d=some (.lst (cV I))/\Y e=some (.lst (cV m))/\m.length=R*n/\(∀c∈m,c∈bd.cps.toList)/\m.countP qI<=10,?_,?_⟩
  .refine⟨_,rfl,_,_,rfl,rfl,(by show (0:Int)<4;decide),rfl,_,rfl,zfK (λ_=>?_) (λ_=>?_)⟩
   .refine⟨_,rfl,_,rfl,e,_,_,_,rfl,rfl,SqL.of u,jJ a0 (zh1 jl),_,_,rfl,rfl,_,rfl,zfK (λhx=>?_) (λ_=>?_)⟩
    .obtain⟨g1,g2⟩:=zlz (um _ (getD_mem jl)) hx;obtain⟨w0,w1⟩:=Q3 (x:=((y.getD g.toNat 0:Nat):Int)-48+1+j/4%8) (M:=9) "d";refine⟨_,rfl,_,rfl,e,_,_,_,rfl,rfl,SqL.of u,jJ a0 (zh1 jl),_,_,rfl,int_sign g1 g2,(by show 1<=640;decide),_,_,rfl,rfl,_,rfl,_,_,rfl,rfl,yV.small "d" "d",_,_,rfl,rfl,(by show (0:Int)<8;decide),_,_,rfl,rfl,_,_,rfl,rfl,(by show (0:Int)<9;decide),_,rfl,?_,?_⟩
     .show (((((y.getD g.toNat 0:Nat):Int)-48+1+j/4%8)%9).natAbs).log2<1920;exact XI (Nat.log2_le_self _) "a"
     .obtain⟨dg,aj⟩:∃dg:Nat,(((y.getD g.toNat 0:Nat):Int)-48+1+j/4%8)%9=(dg:Int):=⟨((((y.getD g.toNat 0:Nat):Int)-48+1+j/4%8)%9).toNat,"a"⟩;have ed:V.str (toString ((((y.getD g.toNat 0:Nat):Int)-48+1+j/4%8)%9))=V.str ⟨#[48+dg]⟩:=by
       rw[aj];exact zft "a"
      refine⟨_,rfl,_,rfl,e,_,_,_,rfl,rfl,u,zdJ a0 (by rw[zd8,ul];exact a1),?_⟩;refine dD (y.set g.toNat (48+dg)) rfl (λb o ee=>?_) (dY ?_ ?_ ?_ (mem_set (zd9 "a") um _) ?_)
      .rw[zg (zh ee ak)];exact G _ _ ee
      .rw[zg (zh J he)];exact L
      .rw[zb,<- zjg];exact congrArg (λv=>some (HO.lst ((cV y).set g.toNat v))) ed
      .rw[Sf,ul]
      .refine X7 (Jg qI (48+dg) y _) ?_;rw[bq (by rw[show qI (48+dg)=false from bg "a"];decide)];exact uc
    .exact dD y rfl G (dY L u ul um uc)
   .exact dD y rfl G (dY L u ul um uc)
  refine λr H5=>fR λm z0 s5 ai al=>fL λvl vm vc=>?_;subst z0;refine⟨_,rfl,_,rfl,"a","a",λp hp=>?_⟩;refine zaQ (lo:=0) (n:=((R:Nat):Int).toNat) (λk r Y=>∃u0,r=[u0,some (.ref e),some (.int (n:Nat))]/\zq H5 Y/\Y p=some (.lst ((rowsOf m n k).map V.str)))
   ⟨_,rfl,zc hp,zb⟩ ?_ ?_
  .refine λk r H6 hk=>fu λu0 z0 s6 z=>?_;subst z0;have kR:k<R:="a"
   have e1:((n:Nat):Int)*(0+(k:Int))=((n*k:Nat):Int):=by
    rw[SX,T7]
   have rl:=zfu vl kR;unfold yv;refine Z5 ?_;refine⟨rfl,_,rfl,_,rfl,_,rfl,_,_,rfl,rfl,zef "a" "a",_,rfl,_,rfl,_,rfl,_,_,rfl,rfl,zef "a" "a",_,rfl,_,_,rfl,rfl,_,rfl,e,_,rfl,SqL.of (s6 _ _ al),λcp ah=>?_⟩;have ec:zaw (cV m) (some (((n:Nat):Int)*(0+(k:Int)))) (some (((n:Nat):Int)*(0+(k:Int))+((n:Nat):Int)))=((rowOf m n k).map λc=>(⟨#[c]⟩:Str)).map V.str:=by
    rw[e1,<- Tj,zpf vl kR];exact znN _
   have z6:=zc (o:=.lst (zaw (cV m) (some (((n:Nat):Int)*(0+(k:Int)))) (some (((n:Nat):Int)*(0+(k:Int))+((n:Nat):Int))))) ah;refine dI "" cp ((rowOf m n k).map λc=>(⟨#[c]⟩:Str)) rfl rfl (SqL.of (by rw[<- ec];exact zb)) ?_ ?_
   .have e0:("":Str).length=0:="q"
    rw[e0,Nat.mul_zero,Oj];have e2:=zh3 (rowOf m n k);rw[rl]at e2;exact X7 (Nat.le_of_eq e2) (X7 U "d")
   .refine e9 _ (z6 _ _ z) ?_ _ rfl (λb o ee=>?_) ?_
    .unfold rowsOf;rw[ZB,ZB,WZ];exact XD (show k<64 by lia) "d"
    .rw[zg (zh ee hp)];exact z6 _ _ (s6 _ _ ee)
    .rw[zb,join_one];unfold rowsOf;rw[U5,XS,XS];rfl
  refine λr H6=>fu λu0 z0 s6 z=>?_;subst z0;rw[WC]at z;have ab:=s6 _ _ ai;refine⟨_,rfl,.inl ⟨rfl,_,SqL.of ab⟩,d,I.map λc=>(⟨#[c]⟩:Str),"o",rfl,rfl,by rw[<- znN];exact ab,Jm,λt ht=>?_⟩;have cl:(So (λt=>t==("o":Str)) (I.map λc=>(⟨#[c]⟩:Str)))<=32:=by
   have:=Pj (p:=λt=>t==("o":Str)) (l:=I.map λc=>(⟨#[c]⟩:Str));rw[ZB]at this;lia
  generalize So (λt=>t==("o":Str)) (I.map λc=>(⟨#[c]⟩:Str))=cn at *
  have z8:=zc (o:=.tup [.ref p,.int (cn:Nat)]) ht;refine q t p (rowsOf m n R) (cn:Nat) _ ⟨zb,z8 _ _ z⟩ ?_ (λt ht=>?_) ?_ "a" "a" ((s5.trans s6).trans z8)
  .unfold rowsOf;rw[ZB,WZ]
  .obtain⟨k,hk,rfl⟩:=XY.mp ht;refine⟨?_,λx hx=>vm x ?_⟩
   .show (rowOf m n k).toArray.size=n;rw[Xr];exact zfu vl (W9.mp hk)
   .exact List.mem_of_mem_drop (Wv hx)
  .rw[zfx,zgx,zcq,TD,<- vl,XH];exact vc
def shp (k:Nat)(c:AA):AA:=(c.1+k,c.2)
def zgB {k:Nat}{x y:AA}(h:shp k x=shp k y):x=y:=by
 have h1:=congrArg Prod.fst h;dsimp only[shp]at h1;have h2:=congrArg Prod.snd h;dsimp only[shp]at h2;exact Prod.ext "a" h2
theorem zfz (p:Nat->Bool)(i d:Nat):∀(j:Nat) (t:List Nat),Cells.zU p (i+d) j t=(Cells.zU p i j t).map (shp d)
 | _,[]=>rfl
 | j,c::r=>by
  rw[Cells.zU,Cells.zU,zfz p i d (j+1) r,XS];congr 1;split<;>rfl
theorem zfA (p:Nat->Bool)(d:Nat):∀(i:Nat) (gs:List (List Nat)),Cells.zJ p (i+d) gs=(Cells.zJ p i gs).map (shp d)
 | _,[]=>rfl
 | i,t::r=>by
  rw[Cells.zJ,Cells.zJ,zfz,show i+d+1=i+1+d by lia,zfA p d (i+1) r,XS]
theorem zea {p:Nat->Bool}(i:Nat):∀(j:Nat) (t:List Nat),(∀c∈t,p c=false)->Cells.zU p i j t=[]
 | _,[],_=>rfl
 | j,c::r,h=>by
  rw[Cells.zU,zea i (j+1) r λc a=>h c (XQ _ a),bq (by rw[h c XT];decide)];rfl
structure Two (ra rb:AE)(h:Str):Prop where
 hole:∀c∈h.cps.toList,c=35
abbrev jn (ra rb:AE)(h:Str):AE:=ra++[h]++rb
section
variable {ra rb:AE}{h:Str}(W:Two ra rb h)
include W
theorem Two.all {p:Nat->Bool}(b:p 35=false):Cells.zJ p 0 (codes (jn ra rb h))=Cells.zJ p 0 (codes ra)++(Cells.zJ p 0 (codes rb)).map (shp (ra.length+1)):=by
 unfold jn codes;rw[XS,XS,Cells.yZ,Cells.yZ,X5,ZB,WP];have e:Cells.zJ p (0+ra.length) ([h].map λt=>t.cps.toList)=[]:=by
  show Cells.zU p _ 0 h.cps.toList++[]=[];rw[zea _ _ _ λc a=>by rw[W.hole c a];exact b];rfl
 rw[e,T8];congr 1;exact zfA p (ra.length+1) 0 _
theorem Two.shut:zp (jn ra rb h)=zp ra++(zp rb).map (shp (ra.length+1)):=W.all rfl
theorem Two.opn:qc (jn ra rb h)=qc ra++(qc rb).map (shp (ra.length+1)):=W.all rfl
end
theorem zkt {α:Type}(z:α):∀(a b:List α) (i:Nat),i<a.length->(a++b).getD i z=a.getD i z
 | [],_,_,h=>absurd h (T4 _)
 | _::_,_,0,_=>rfl
 | _::a,b,i+1,h=>zkt z a b i (Nat.lt_of_succ_lt_succ h)
theorem zku {α:Type}(z:α)(b:List α)(i:Nat):∀a:List α,(a++b).getD (i+a.length) z=b.getD i z
 | []=>rfl
 | _::a=>zku z b i a
def zrk {a d:AE}{h:Str}{c:AA}(b:c.1<a.length):Cells.sgn (codes (jn a d h)) c=Cells.sgn (codes a) c:=by
 unfold Cells.sgn jn codes;rw[WP,XS,zkt _ _ _ _ (by rw[ZB];exact b)]
def zrl {a b:AE}{h:Str}(c:AA):Cells.sgn (codes (jn a b h)) (shp (a.length+1) c)=Cells.sgn (codes b) c:=by
 unfold Cells.sgn jn codes shp;rw[XS];have e:=zku [] (b.map λt=>t.cps.toList) c.1 ((a++[h]).map λt=>t.cps.toList);rw[ZB,X5]at e;exact congrArg (λl:List Nat=>l.getD c.2 0) e
def Q4 {p:Nat->Bool}{rs:AE}{c:AA}(a:c∈Cells.zJ p 0 (codes rs)):c.1<rs.length:=by
 obtain⟨t,k,b,_⟩:=qb a;exact(X2.mp b).1
def sub_lt {a:AD}{rs:AE}(b:a∈Subs.subs (zp rs)):∀x∈a,x.1<rs.length:=λx c=>Q4 ((Tally.jr b).subset c)
section
variable {ra rb:AE}{h:Str}(W:Two ra rb h)
include W
theorem Two.ar_lo {o:AA}(b:o.1<ra.length):zI (jn ra rb h) o=zI ra o:=by
 unfold zI;rw[W.all rfl,Xp,WB (l:=UF _ _) |>.mpr,Xc];intro x a;obtain⟨y,_,rfl⟩:=XY.mp a;rw[Cells.xg];unfold shp;dsimp only;lia
theorem Two.ar_hi (o:AA):zI (jn ra rb h) (shp (ra.length+1) o)=(zI rb o).map (shp (ra.length+1)):=by
 unfold zI;rw[W.all rfl,Xp,UI,WB.mpr,T8]
 .refine congrArg _ (VZ λx _=>?_);rw[R7,W7,Cells.xg,Cells.xg];refine and_congr ?_ (and_congr Iff.rfl (not_congr ⟨zgB,λh=>by rw[h]⟩));unfold shp;dsimp only;lia
 .intro x b;have:=Q4 b;intro a;have a:=(Cells.xg _ _).mp a;unfold shp at a;dsimp only at a;lia
theorem Two.cnt_lo {o:AA}(d:o.1<ra.length)(a b:AD):Grow.cnt (nearF (jn ra rb h)) o (a++b.map (shp (ra.length+1)))=Grow.cnt (nearF ra) o a:=by
 unfold Grow.cnt;rw[Xp,WB (l:=UF _ _) |>.mpr,Xc]
 .refine congrArg _ (VZ λx _=>?_);rw[W7,jZ,jZ,W.ar_lo d]
 .intro x e c;obtain⟨y,_,rfl⟩:=XY.mp e;rw[jZ,W.ar_lo d]at c;have:=Q4 (XZ.mp c).1;unfold shp at this;dsimp only at this;lia
theorem Two.cnt_hi {o:AA}{a:AD}(f:∀x∈a,x.1<ra.length)(b:AD):Grow.cnt (nearF (jn ra rb h)) (shp (ra.length+1) o) (a++b.map (shp (ra.length+1)))=Grow.cnt (nearF rb) o b:=by
 unfold Grow.cnt;rw[Xp,WB.mpr,T8,UI,ZB]
 .refine congrArg _ (VZ λx _=>?_);rw[R7,W7,jZ,jZ,W.ar_hi,XY];exact⟨λ⟨y,g,e⟩=>zgB e ▸ g,λc=>⟨x,c,rfl⟩⟩
 .intro x c d;rw[jZ,W.ar_hi]at d;obtain⟨y,_,rfl⟩:=XY.mp d;have:=f _ c;unfold shp at this;dsimp only at this;lia
theorem Two.whole {a b:AD}(d:∀x∈a,x.1<ra.length):qi (jn ra rb h) (a++b.map (shp (ra.length+1)))=(qi ra a&&qi rb b):=by
 unfold qi;rw[W.opn,List.all_append,List.all_map];congr 1
 .rw[W7,WV,WV];refine forall_congr' λo=>forall_congr' λe=>?_;have c:=Q4 e;unfold jE;rw[W.cnt_lo c,zrk c]
 .rw[W7,WV,WV];refine forall_congr' λo=>forall_congr' λ_=>?_;rw[R7];unfold jE;rw[W.cnt_hi d,zrl]
theorem Two.tally {p f g:AD->Bool}(m:∀a∈Subs.subs (zp ra),∀b∈Subs.subs (zp rb),p (a++b.map (shp (ra.length+1)))=(f a&&g b))(k:Nat) :
  (Tally.T (zp (jn ra rb h)) p k:Int)=Pour.S (λi=>(Tally.T (zp ra) f i:Int)*(Tally.T (zp rb) g (k-i):Int)) (k+1):=by
 rw[W.shut];have un:∀b:AD,((b.map (shp (ra.length+1))).map λc=>(c.1-(ra.length+1),c.2))=b:=λb=>by
  rw[Wz];refine(Xo λc _=>?_).trans (S7 b);show (c.1+(ra.length+1)-(ra.length+1),c.2)=c;rw[Ue]
 rw[Tally.zj8 (pA:=f) (pB:=λS=>g (S.map λc=>(c.1-(ra.length+1),c.2))) (λa l j d=>?_) k]
 .refine Pour.JQ _ λi _=>?_;rw[Tally.zsj];congr 3;funext S;rw[un]
 .obtain⟨b,e,rfl⟩:∃b∈Subs.subs (zp rb),j=b.map (shp (ra.length+1)):=by
   rw[Tally.zdz]at d;obtain⟨b,e,rfl⟩:=XY.mp d;exact⟨b,e,rfl⟩
  rw[m a l b e,un]
theorem Two.cnt (k:Nat):qg (jn ra rb h) (k:Nat)=Pour.S (λi=>qg ra (i:Nat)*qg rb ((k-i:Nat):Nat)) (k+1):=W.tally (λa c b _=>W.whole (sub_lt c)) k
theorem Two.at_lo {c:AA}(d:c.1<ra.length)(k:Nat):zM (jn ra rb h) (k:Nat) c=Pour.S (λi=>zM ra (i:Nat) c*qg rb ((k-i:Nat):Nat)) (k+1):=W.tally (λa g b _=>by
 rw[W.whole (sub_lt g)];have e:decide (c∈a++b.map (shp (ra.length+1)))=decide (c∈a):=decide_eq_decide.mpr ⟨λf=>(XU.mp f).resolve_right λf=>by
  obtain⟨y,_,e⟩:=XY.mp f;rw[<- e]at d;unfold shp at d;dsimp only at d;lia,Xq _⟩
 rw[e,UR,Ss (qi rb b),<- UR]) k
theorem Two.at_hi (c:AA)(k:Nat):zM (jn ra rb h) (k:Nat) (shp (ra.length+1) c)=Pour.S (λi=>qg ra (i:Nat)*zM rb ((k-i:Nat):Nat) c) (k+1):=W.tally (λa d b _=>by
 rw[W.whole (sub_lt d)];have e:decide (shp (ra.length+1) c∈a++b.map (shp (ra.length+1)))=decide (c∈b):=decide_eq_decide.mpr ⟨λhm=>by
  rcases XU.mp hm with hm | hm
  .have:=sub_lt d _ hm;unfold shp at this;dsimp only at this;lia
  .obtain⟨y,f,e⟩:=XY.mp hm;exact zgB e ▸ f,λhm=>Xx _ (XY.mpr ⟨c,hm,rfl⟩)⟩
 rw[e,UR]) k
theorem Two.few (a:(zp ra).length<=10)(b:(zp rb).length<=10):(zp (jn ra rb h)).length<=20:=by
 rw[W.shut,X5,ZB];lia
theorem Two.small (p:(zp ra).length<=10)(r:(zp rb).length<=10):Small (jn ra rb h):=λq G g f=>by
 have j:g.Nodup:=qY (G.srt g f);have d:∀x∈g,x∈zp ra++(zp rb).map (shp (ra.length+1)):=λx a=>by
  rw[<- W.shut];exact jh G x (WN.mpr ⟨g,f,a⟩)
 have one:∀o∈qc (jn ra rb h),(∃x∈clA (jn ra rb h) o,x.1<ra.length)->∀x∈clA (jn ra rb h) o,x.1<ra.length:=λo ho ⟨x,a,l⟩ y n=>by
  have h1:=(XZ.mp a).1;have h2:=(XZ.mp n).1;rw[W.opn]at ho;rcases XU.mp ho with ho | ho
  .rw[W.ar_lo (Q4 ho)]at h2;exact Q4 (XZ.mp h2).1
  .obtain⟨s,_,rfl⟩:=XY.mp ho;rw[W.ar_hi]at h1;obtain⟨z,_,rfl⟩:=XY.mp h1;unfold shp at l;dsimp only at l;lia
 by_cases c:∃x∈g,x.1<ra.length
 .have m:=G.con g f (λx=>x.1<ra.length) one c;refine X7 (Parts.zZ j λx a=>?_) (X7 p "d");refine(XU.mp (d x a)).resolve_right λi=>?_;obtain⟨y,_,e⟩:=XY.mp i;have:=m x a;rw[<- e]at this;unfold shp at this;dsimp only at this;lia
 .refine X7 (Parts.zZ (b:=(zp rb).map (shp (ra.length+1))) j λx a=>?_) (by rw[ZB];lia);exact(XU.mp (d x a)).resolve_left λi=>c ⟨x,a,Q4 i⟩
end
structure Facts (K:X0)(C SE C1 C2 C3 C4 C5 C6 C7 C8 C9:Addr)(b1 b2:Bool):Prop where
 fd:QD K C
 mro:VC K C (.ref SE)=some true
 k1:Xa K (.ref C) (.ref C1)=some b1
 k2:Xa K (.ref C) (.ref C2)=some b2
 k3:Xa K (.ref C) (.ref C3)=some false
 k4:Xa K (.ref C) (.ref C4)=some false
 k5:Xa K (.ref C) (.ref C5)=some false
 k6:Xa K (.ref C) (.ref C6)=some false
 k7:Xa K (.ref C) (.ref C7)=some false
 k8:Xa K (.ref C) (.ref C8)=some false
 k9:Xa K (.ref C) (.ref C9)=some false
 kv:Xa K (.ref C) (.type "ValueError")=some true
def zpl:U2 "ValueError"=some (.type "ValueError"):=by with_unfolding_all rfl
structure zpm (K:X0)(mg:Str->Option Y1)(C0 C1 C2 C3 C4 C5 C6 C7 C8 C9:Addr):Prop where
 o0:qC K mg "StoneError" C0
 o1:qC K mg "TooGreat" C1
 o2:qC K mg "NoLaying" C2
 o3:qC K mg "NoBoard" C3
 o4:qC K mg "NoCount" C4
 o5:qC K mg "NoCell" C5
 o6:qC K mg "NoText" C6
 o7:qC K mg "NoRow" C7
 o8:qC K mg "NoNumber" C8
 o9:qC K mg "NoTable" C9
 fl:Facts K C2 C0 C1 C2 C3 C4 C5 C6 C7 C8 C9 false true
def zsE (b:Addr):Sp:=λc H Q _=>∃e:Addr,c=[.ref e]/\H e=some (exO e b)/\∀a,zq H a->Q (.str "laying") a
def xC:zB ["_law_error","_law_kinds"] ["_law_error"] (zo Jb):=bz
def zeb (T:Txt mg)(U:zpm K mg jai jaj jad jaa jac jab jah jaf jae jag)(D:zm K mg "_law_outcome" Jb ["_law_error"] f fd):zT P w K mg base CX0 1 f fd ["_law_error"] (zsE jad):=by
 obtain⟨aa,I,x,p,u,r,G,z,y,B,F⟩:=U;refine D.F.ok xC "l" (λO A J s H vs Q E hr h=>?_)
 .revert h;refine fu λe z0 he q=>?_;subst z0;refine⟨_,(zd (qf 1 xC.nd (ql (za (pb2 (qJ (K:=K) "r") T.qj WX (pvS 0) (pgx I)) (za (pb2 (qJ (K:=K) "r") T.qj WX (pvS 0) (pgx x)) (za (pb2 (qJ (K:=K) "r") T.qj WX (pvS 0) (pgx p)) ze))))) (zd (qf 1 xC.nd (zu J9 (pvS 1) (ql (za (pb2 (qJ (K:=K) "r") T.qj WX (pvS 0) (pgx u)) (za (pb2 (qJ (K:=K) "r") T.qj WX (pvS 0) (pgx r)) (za (pb2 (qJ (K:=K) "r") T.qj WX (pvS 0) (pgx G)) ze)))))) (zd (qf 1 xC.nd (zu J9 (pvS 1) (ql (za (pb2 (qJ (K:=K) "r") T.qj WX (pvS 0) (pgx z)) (za (pb2 (qJ (K:=K) "r") T.qj WX (pvS 0) (pgx y)) (za (pb2 (qJ (K:=K) "r") T.qj WX (pvS 0) (pgx B)) ze)))))) (zd (qo (PW.pt (Z9 (zw Jj (ZD WE P0 PZ zk3 (pvS 1) (@za _ _ _ _ _ xE ze rfl)) zj (zG _)) (ZW (ZX (yU (pb2 (qJ (K:=K) "r") T.qj WX (pvS 0) (zcI (v:=.ty "ValueError") "r" T.zf8 zpl "r")) (λ_=>rfl)))))) (@zf _ _ _ (@zx _ _ _ _ qK)) zR) (@zf _ _ _ (@zx _ _ _ _ (@zW _ _ _ _ _ _ _ qy (@ql _ _ _ _ (@za _ _ _ _ _ qK (@za _ _ _ _ _ qK (@za _ _ _ _ _ qK ze rfl) rfl) rfl)) (Yd (Yc rfl) "r" T.zht UL (@za _ _ _ _ _ zj (za (ZD WE PySem.F.slot_list_index PySem.F.type_list_index zk4 (pvS 1) (@za _ _ _ _ _ xE ze rfl)) ze) rfl)) (λ_ _=>rfl)))))))),?_⟩;ac_nf;refine⟨_,rfl,e,_,_,_,rfl,he,F.fd,.inl ⟨_,rfl⟩,F.k1,_,rfl,e,_,_,_,rfl,he,F.fd,.inl ⟨_,rfl⟩,F.k2,_,rfl,e,_,_,_,rfl,he,F.fd,.inl ⟨_,rfl⟩,F.k3,zmB,λY i=>?_⟩;have s1:=zc (o:=.lst [.bl false,.bl true,.bl false]) i;have b:=s1 _ _ he;refine⟨_,rfl,_,rfl,e,_,_,_,rfl,b,F.fd,.inl ⟨_,rfl⟩,F.k4,_,rfl,e,_,_,_,rfl,b,F.fd,.inl ⟨_,rfl⟩,F.k5,_,rfl,e,_,_,_,rfl,b,F.fd,.inl ⟨_,rfl⟩,F.k6,zmB,λd2 d=>(dQ Y d2 _ _ rfl rfl (zc d _ _ zb) zb zs9 (λd3 j=>?_))⟩;have M:=(s1.trans (zc (o:=.lst [.bl false,.bl false,.bl false]) d)).trans (zc (o:=.lst ([.bl false,.bl true,.bl false]++[.bl false,.bl false,.bl false])) j);have c:=M _ _ he;refine⟨_,rfl,_,rfl,e,_,_,_,rfl,c,F.fd,.inl ⟨_,rfl⟩,F.k7,_,rfl,e,_,_,_,rfl,c,F.fd,.inl ⟨_,rfl⟩,F.k8,_,rfl,e,_,_,_,rfl,c,F.fd,.inl ⟨_,rfl⟩,F.k9,zmB,λd4 g=>(dQ d3 d4 _ _ rfl rfl (zc g _ _ zb) zb (by show 9<=Xy;decide) (λL l=>?_))⟩;have N:=(M.trans (zc (o:=.lst [.bl false,.bl false,.bl false]) g)).trans (zc (o:=.lst (([.bl false,.bl true,.bl false]++[.bl false,.bl false,.bl false])++[.bl false,.bl false,.bl false])) l);have n:=N _ _ he;refine⟨_,rfl,.inl ⟨rfl,_,SqL.of zb⟩,L,[false,true,false,false,false,false,false,false,false],true,rfl,rfl,zb,rfl,_,rfl,qw "d" ?_⟩;refine⟨_,rfl,e,_,_,_,rfl,n,F.fd,.inr ⟨_,rfl⟩,F.kv,true,rfl,YW ?_⟩;refine⟨zmB,λd6 a=>⟨_,rfl,.inl ⟨rfl,_,SqL.of (zc a _ _ zb)⟩,L,[false,true,false,false,false,false,false,false,false],true,1,rfl,rfl,zc a _ _ zb,rfl,?_,"d",_,_,rfl,d6,_,_,_,rfl,rfl,SqL.of zb,rfl,?_⟩⟩
  .intro m hm;obtain rfl:m=0:=by
    have:m<1:=hm;lia
   rfl
  .exact q _ (N.trans (zc a))
def zts (rs:AE)(n:Int)(H a:Hp)(v:V):Prop:=∃(t b c:Addr) (d e:AF),v=.ref t/\a t=some (.tup [.ref b,.ref c])/\a b=some (.lst d)/\a c=some (.lst e)/\Cel a d (clS rs n)/\Cel a e (stS rs n)
def ztt (rs:AE)(n:Int)(c:AA)(H a:Hp)(v:V):Prop:=∃(t:Addr) (x y:V),v=.ref t/\a t=some (.tup [x,y])/\zex rs n c true H a x/\zex rs n c false H a y
def zjk:Sp:=λf H Q _=>∃(p l:Addr) (b:AE) (n:Int) (k:Nat) (e:V),f=[.ref p,.int (k:Nat),e]/\qd H p l b n/\Rows bd.cps.toList b/\Small b/\(zp b).length<=63/\0<=n /\
  (qg b n=0->∀a,zq H a->Q (.str "laying") a) /\
  ((k=0/\qg b n=0) \/
   (k=1/\(qg b n≠0->∀v a,zts b n H a v->zq H a->Q v a)) \/
   ∃(d:Addr) (c:AA),e=.ref d/\H d=some (.tup [.int (c.1:Nat),.int (c.2:Nat)])/\c∈zp b /\
    ((k=2/\(qg b n≠0->∀(t:Addr) a,a t=some (frT (zM b n c) (qg b n))->zq H a->Q (.ref t) a)) \/
     (k=3/\(qg b n≠0->∀v a,ztt b n c H a v->zq H a->Q v a))))
def jx:zB ["_law_board","_law_way","_law_cell","_law_found","_law_error","e"] ["_law_board","_law_way","_law_cell"] (zo Qc):=bz
def zct (T:Txt mg)(U:zpm K mg jai jaj jad jaa jac jab jah jaf jae jag)(Z:Prog K mg)(D:zm K mg "_law_told" Qc ["_law_board","_law_way","_law_cell"] f fd):zT P w K mg base CX0 11 f fd ["_law_board","_law_way","_law_cell"] zjk:=by
 obtain⟨aj,ai,yw⟩:=Z.shares;obtain⟨ar,ap,r⟩:=Z.sure;obtain⟨aq,ao,o⟩:=Z.share;obtain⟨am,an,Y⟩:=Z.witnesses;obtain⟨al,ak,O⟩:=Z.law_outcome;have ae:=U.o0;refine D.F.ok jx (λ_ _ _ _ h=>by revert h;refine fB λ_ _ _ _=>fK λ_ _ z0 _=>?_;subst z0;rfl) (λah A ag s H vs Q E M h=>?_)
 .revert h;refine fW λp l N n k cv z0 B R sm=>fO λaf n0 qL h=>?_;subst z0;refine⟨_,(@zd _ _ _ _ _ (@qP _ _ 3 _ _ _ _ jx.nd rfl (VI rfl) ZV "r" (.inr rfl)) (@zd _ _ _ _ _ (@qP _ _ 4 _ _ _ _ jx.nd rfl (VI rfl) ZV "r" (.inr rfl)) (zac (zov (j:=5) rfl rfl jx.nd rfl rfl "r" ae (λ_ _=>(zf (qo (zw j6 (pvS 1) zj (zG _)) (zf (qf 3 jx.nd (zbp (zb9 T U.o2 Z yw) (M.mono "d") "r" yw.g yw.F.kp yw.b (za (pvS 0) ze)))) (zf (qo (zw j6 (pvS 1) zj (zG _)) (zf (qf 3 jx.nd (zbp (zo2 T U.o2 Z r) (M.mono "d") "r" r.g r.F.kp r.b (za (pvS 0) ze)))) (zf (qo (zw j6 (pvS 1) zj (zG _)) (zf (qf 3 jx.nd (zbp (znw T U.o2 Z o) (M.mono "d") "r" o.g o.F.kp o.b (za (pvS 0) (za (pvS 2) ze))))) (zf (qf 3 jx.nd (zbp (zgu T U.o2 Z Y) (M.mono "d") "r" Y.g Y.F.kp Y.b (za (pvS 0) (za (pvS 2) ze)))))))))))) (λ_=>(zf (qf 4 jx.nd (pvS 5))))) (zd (qo (zw zjG (pvS 4) ZV (zG _)) (zf (zx (pc0 (zeb T U O) M O (za (pvS 4) ze)))) zR) (zf (zx (pvS 3))))))),?_⟩;ac_nf;refine⟨fun J i=>(∃e:Addr,J=[some (.ref p),some (.int (k:Nat)),some cv,some .non,some (.ref e),none]/\i e=some (exO e jad)/\∀m,zq i m->Q (.str "laying") m)\/(∃v,J=[some (.ref p),some (.int (k:Nat)),some cv,some v,some .non,none]/\(∃a,v=.ref a)/\Q v i),?_,?_⟩
  .rcases h with ⟨rfl,d⟩ | ⟨rfl,q⟩ | ⟨ca,c,rfl,L,hc,⟨rfl,q⟩ | ⟨rfl,q⟩⟩
   .refine⟨_,rfl,rfl,_,rfl,jQ rfl ?_⟩;exact⟨_,rfl,p,l,N,n,rfl,B,R,sm,n0,λz=>absurd d z,λd i s1=>(dD jad rfl U.fl.mro (λe u=>⟨_,rfl,.inl ⟨e,rfl,zb,λm I=>qL d m ((s1.trans (zc u)).trans I)⟩⟩))⟩
   .refine⟨_,rfl,rfl,_,rfl,qw rfl ⟨_,rfl,rfl,_,rfl,jQ rfl ?_⟩⟩;exact⟨_,rfl,p,l,N,n,rfl,B,R,sm,n0,λd t d1 d2 w1 w2 i ht h1 h2 ac G aa ab c1 c2 s1=>.inr ⟨_,rfl,⟨_,rfl⟩,q d _ i (dO t d1 d2 w1 w2 rfl G aa ab c1 c2) s1⟩,λd i s1=>(dD jad rfl U.fl.mro (λe u=>⟨_,rfl,.inl ⟨e,rfl,zb,λm I=>qL d m ((s1.trans (zc u)).trans I)⟩⟩))⟩
   .refine⟨_,rfl,rfl,_,rfl,qw rfl ⟨_,rfl,rfl,_,rfl,qw rfl ⟨_,rfl,rfl,_,rfl,jQ rfl ?_⟩⟩⟩;exact⟨_,rfl,_,rfl,p,l,ca,N,n,c,rfl,B,R,sm,n0,L,hc,λd t i ht s1=>.inr ⟨_,rfl,⟨_,rfl⟩,q d t i ht s1⟩,λd i s1=>(dD jad rfl U.fl.mro (λe u=>⟨_,rfl,.inl ⟨e,rfl,zb,λm I=>qL d m ((s1.trans (zc u)).trans I)⟩⟩))⟩
   .refine⟨_,rfl,rfl,_,rfl,qw rfl ⟨_,rfl,rfl,_,rfl,qw rfl ⟨_,rfl,rfl,_,rfl,qw rfl ?_⟩⟩⟩;exact⟨_,rfl,_,rfl,p,l,ca,N,n,c,rfl,B,R,sm,af,n0,L,hc,λd t x y i ht G hx hy ac s1=>.inr ⟨_,rfl,⟨_,rfl⟩,q d _ i (dF t x y rfl G hx hy) s1⟩,λd i s1=>(dD jad rfl U.fl.mro (λe u=>⟨_,rfl,.inl ⟨e,rfl,zb,λm I=>qL d m ((s1.trans (zc u)).trans I)⟩⟩))⟩
  .rintro J i (⟨e,rfl,he,q⟩ | ⟨v,rfl,⟨a,rfl⟩,q⟩)
   .exact⟨_,rfl,rfl,_,rfl,jQ rfl ⟨_,rfl,e,rfl,he,q⟩⟩
   .exact⟨_,rfl,rfl,_,rfl,qw rfl ⟨_,rfl,q⟩⟩
def pos (n x:Nat):AA:=(x/n,x%n)
def zca (rs:AE):List Nat:=(codes rs).flatten
def zh5 {a b:List Nat}{x:Nat}(h:x<a.length):(a++b).getD x 0=a.getD x 0:=by
 rw[Xm,Xm,Vm h]
def zh6 {a b:List Nat}(x:Nat):(a++b).getD (a.length+x) 0=b.getD x 0:=by
 rw[Xm,Xm,UQ "a",Uo]
theorem zec (p:Nat->Bool)(i:Nat):∀(t:List Nat) (j:Nat),Cells.zU p i j t=((Xk t.length).filter λx=>p (t.getD x 0)).map λx=>(i,j+x)
 | [],_=>rfl
 | c::r,j=>by
  rw[Cells.zU,zec p i r (j+1),XA,List.range_succ_eq_map,W3,UI];have e:Ul ((λx=>p ((c::r).getD x 0))∘Nat.succ) (Xk r.length)=Ul (λx=>p (r.getD x 0)) (Xk r.length):=rfl;rw[e];by_cases h:p c=true
  .rw[bw h,bw (show p ((c::r).getD 0 0)=true from h),Xe,Wz];show [(i,j)]++_=_;refine congrArg (λl=>(i,j)::l) (Xo λx _=>?_);show (i,j+1+x)=(i,j+(x+1));rw[Oz,S2 1 x]
  .rw[bq h,bq (show ¬p ((c::r).getD 0 0)=true from h),T8,Wz];refine Xo λx _=>?_;show (i,j+1+x)=(i,j+(x+1));rw[Oz,S2 1 x]
theorem zh7 {n:Nat}:∀{gs:List (List Nat)},(∀t∈gs,t.length=n)->gs.flatten.length=gs.length*n
 | [],_=>"s"
 | t::r,h=>by
  rw[WG,X5,zh7 λu a=>h u (XQ _ a),h t XT,XA,PN,S2]
def zjl (p:Nat->Bool){n:Nat}(d:1<=n):∀(gs:List (List Nat)) (i:Nat),(∀t∈gs,t.length=n)->Cells.zJ p i gs=((Xk (gs.length*n)).filter λx=>p (gs.flatten.getD x 0)).map λx=>(i+x/n,x%n):=by
 intro gs;induction gs with
 | nil=>exact λ_ _=>by simp[Cells.zJ]
 | cons t r c =>
  intro i h;have tl:=h t XT;rw[Cells.zJ,zec,c (i+1) λu b=>h u (XQ _ b),XA,PN,S2 (r.length*n) n,List.range_add,Xp,XS,tl];congr 1
  .have e:(Xk n).filter (λx=>p ((t::r).flatten.getD x 0))=(Xk n).filter λx=>p (t.getD x 0):=VZ λx a=>by
    rw[WG,zh5 (by rw[tl];exact W9.mp a)]
   rw[e];refine Xo λx a=>?_;have a:=W9.mp (XZ.mp a).1;rw[Nat.div_eq_of_lt a,Nat.mod_eq_of_lt a,V1];rfl
  .rw[UI,Wz];have e:(Xk (r.length*n)).filter ((λx=>p ((t::r).flatten.getD x 0))∘λx=>n+x)=(Xk (r.length*n)).filter λx=>p (r.flatten.getD x 0):=VZ λx _=>by
    show p ((t::r).flatten.getD (n+x) 0)=_;rw[WG,<- tl,zh6]
   rw[e];refine Xo λx _=>?_;show (i+1+x/n,x%n)=(i+(n+x)/n,(n+x)%n);rw[Nat.add_div_left x "a",Nat.add_mod_left,Oz,S2 1]
structure Wide (rs:AE)(n:Nat):Prop where
 n1:1<=n
 n5:n<=8
 row:∀t∈rs,Row bd.cps.toList n t
section
variable {rs:AE}{n:Nat}(W:Wide rs n)
include W
theorem Wide.lens:∀t∈codes rs,t.length=n:=λt a=>by
 obtain⟨u,b,rfl⟩:=XY.mp a;rw[XV];exact(W.row u b).len
theorem Wide.flat:(zca rs).length=rs.length*n:=by
 unfold zca;rw[zh7 W.lens,jD]
theorem Wide.cells (p:Nat->Bool):Cells.zJ p 0 (codes rs)=((Xk (rs.length*n)).filter λx=>p ((zca rs).getD x 0)).map (pos n):=by
 rw[zjl p W.n1 _ 0 W.lens,jD];refine Xo λx _=>?_;unfold pos;rw[V1]
theorem Wide.mem {p:Nat->Bool}{c:AA}:c∈Cells.zJ p 0 (codes rs) ↔ ∃x,x<rs.length*n/\p ((zca rs).getD x 0)=true/\c=pos n x:=by
 rw[W.cells p,XY];constructor
 .rintro⟨x,hx,rfl⟩;obtain⟨h1,h2⟩:=XZ.mp hx;exact⟨x,W9.mp h1,h2,rfl⟩
 .rintro⟨x,h1,h2,rfl⟩;exact⟨x,XZ.mpr ⟨W9.mpr h1,h2⟩,rfl⟩
theorem Wide.inj {x y:Nat}(h:pos n x=pos n y):x=y:=by
 have h1:x/n=y/n:=congrArg Prod.fst h;have h2:x%n=y%n:=congrArg Prod.snd h;rw[<- Nat.div_add_mod x n,<- Nat.div_add_mod y n,h1,h2]
theorem Wide.sgn {x:Nat}(f:x<rs.length*n):Cells.sgn (codes rs) (pos n x)=(zca rs).getD x 0:=by
 have d:pos n x∈Cells.zJ (λ_=>true) 0 (codes rs):=W.mem.mpr ⟨x,f,rfl,rfl⟩;have hk:pos n x∈Cells.zJ (λk=>decide (k=Cells.sgn (codes rs) (pos n x))) 0 (codes rs):=by
  refine fm (λt k e c _ a=>?_) (qb d);have:=Qf (p:=λk=>decide (k=Cells.sgn (codes rs) (pos n x))) (i:=0) (jX e) c (br a.symm);rwa [V1]at this
 obtain⟨y,_,h2,b⟩:=W.mem.mp hk;rw[<- W.inj b]at h2;exact(bh h2).symm
theorem Wide.near {x y:Nat}(a:y<rs.length*n)(b:qt ((zca rs).getD y 0)=true):nearF rs (pos n x) (pos n y)=true↔y∈jW rs.length n x:=by
 unfold jW nrP;rw[jZ,XZ,W9];unfold zI;rw[XZ];constructor
 .rintro⟨_,h⟩;exact⟨a,h⟩
 .rintro⟨_,h⟩;exact⟨W.mem.mpr ⟨y,a,b,rfl⟩,h⟩
end
def zjm {c:Nat}(h:c∈bd.cps.toList):(!(!(U9 ("?#":Str) ⟨#[c]⟩ 0 ("?#":Str).length 1).isEmpty))=QU c:=by
 have:∀c∈bd.cps.toList,(!(!(U9 ("?#":Str) ⟨#[c]⟩ 0 ("?#":Str).length 1).isEmpty))=QU c:="q"
 exact this c h
def zsG {rs:AE}{n:Nat}(W:Wide rs n){x:Nat}(h:x<rs.length*n):(zca rs).getD x 0∈bd.cps.toList:=by
 have a:(zca rs).getD x 0∈zca rs:=getD_mem (by rw[W.flat];exact h);obtain⟨t,b,d⟩:=WN.mp a;obtain⟨u,c,rfl⟩:=XY.mp b;exact(W.row u c).mem _ d
def zrm (xs:List Nat):(pV xs).length=xs.length:=ZB _
def zgD {ps:List (Int×Int)}{c:AD}(h:ps.Perm (c.map toI))(f:ps.Pairwise λp q=>lt2 q p=false)(e:c.Pairwise Cells.lex):ps=c.map toI:=by
 obtain⟨d,rfl,he⟩:=zge h;have i:d.Nodup:=he.nodup_iff.mpr (qY e);have j:d.Pairwise Cells.lex:=by
  rw[Wx]at f;refine(f.and i).imp λ{a b} ⟨h1,h2⟩=>?_;have g:¬ Cells.lex b a:=λz=>by rw[zgd.mpr z]at h1;cases h1
  obtain⟨l,m⟩:=a;obtain⟨n,o⟩:=b;unfold Cells.lex at g ⊢;simp only[ne_eq,OB]at h2;lia
 rw[zkd he j e]
def zpX:Sp:=λf H Q _=>∃(c d:Addr) (e:AF) (L:AD) (a:AE) (n:Int),f=[.ref c,.ref d,.int n]/\H c=some (.lst e)/\Cel H e L/\L.Sublist (zp a)/\(zp a).length<=63/\((L.length:Nat):Int)=n/\qi a L=true/\H d=some (.lst (a.map V.str))/\Rows bd.cps.toList a/\∀b,zq H b->Q (.bl true) b
def zrn {rs:AE}{n:Nat}(W:Wide rs n){a:Nat}(h:a<rs.length*n):∃t,rs[a/n]?=some t/\t.cps.toList[a%n]?=some ((zca rs).getD a 0)/\t.length=n:=by
 have f:=W.n1;have e:pos n a∈Cells.zJ (λ_=>true) 0 (codes rs):=W.mem.mpr ⟨a,h,rfl,rfl⟩;refine fm (λt k c d _ b=>?_) (qb e);rw[W.sgn h]at b;rw[b];exact⟨t,c,d,(W.row t (X4 c)).len⟩
def zlA {k:Nat}(h:qI k=true):qt k=true:=by
 rw[show k=63 from bh h];rfl
def zpo {rs:AE}{n:Nat}(W:Wide rs n){L:AD}(i:L.Sublist (zp rs))(j:qi rs L=true){a:Nat}(h:a<rs.length*n)(f:QU ((zca rs).getD a 0)=true) :
  (((L.filter λc=>decide (c∈(jW rs.length n a).map (pos n))).length:Nat):Int)=(((zca rs).getD a 0:Nat):Int)-48:=by
 have m:pos n a∈qc rs:=W.mem.mpr ⟨a,h,f,rfl⟩;have:=bh (WV.mp j _ m);unfold jE at this;rw[W.sgn h]at this;rw[<- this];unfold Grow.cnt;congr 2;refine VZ λc d=>?_;obtain⟨y,l,g,rfl⟩:=W.mem.mp (i.subset d);rw[W7,bu,W.near l (zlA g),XY];exact⟨λ⟨z,b,e⟩=>W.inj e ▸ b,λb=>⟨y,b,rfl⟩⟩
def qH:zB ["_law_found","_law_texts_here","_law_stones","_law_cells","_law_columns","_law_at","_law_row","_law_column","_law_near_here"] ["_law_found","_law_texts_here","_law_stones"] (zo yE):=bz
def zcb (T:Txt mg)(Z:Prog K mg){f:Addr}{fd:Xz}(D:zm K mg "_law_is_laying" yE ["_law_found","_law_texts_here","_law_stones"] f fd):zT P w K mg base CX0 2 f fd ["_law_found","_law_texts_here","_law_stones"] zpX:=by
 obtain⟨aN,aM,Zq⟩:=Z.law_near;obtain⟨aK,aJ,xD⟩:=Z.law_closed;have aA:=zco (P:=P) (w:=w) (base:=base) T Zq;have Qp:=zaO (P:=P) (w:=w) (base:=base) T xD;refine D.F.ok qH "l" (λaC A a8 s H vs Q E hr h=>?_)
 .revert h;refine fW λO ta us L g st z0 u hL r=>fG λa6 af hw Y R q=>?_;subst z0;refine fu (λn n1 n8 ag=>?_) R.ex;have W:Wide g n:=⟨n1,n8,ag⟩;have r1:=R.lo;have r8:=R.hi;have aG:g.length*n<=8*8:=TK r8 n8;have ll:L.length<=63:=X7 r.length_le a6;have ul:=hL.length;have lx:L.Pairwise Cells.lex:=(zhY g).sublist r;have a7:L.Nodup:=qY lx;refine⟨_,(zd (qo (PW.pt (Z9 (ZX (yU (pb2 Qz T.qj WX (pvS 0) (zcI (v:=.ty "list") "r" T.zmR Pz "r")) (λ_=>rfl))) (Z9 (zw Jj (pb1 zE T.ju W0 (pvS 0)) (pvS 2) (zG _)) (ZW (zw (j7 hr.units) (pb1 (GS.zaD GS.zoA) T.QO Vd (pvS 0)) (pvS 0) (zG _)))))) (@zf _ _ _ (@zx _ _ _ _ xE)) zR) (zd (qf 3 qH.nd (pc0 Qp hr xD (za (pvS 1) ze))) (zd (qo (PW.pt (Z9 (zw Jj (pb1 ST.call_lenS T.ju W0 (pt1 (ST.zeV hr.units hr.hd) T.zpG Pk (pvS 0))) (pvS 2) (zG _)) (ZW (zw (j7 hr.units) (pcm ["_law_cell","_law_cells"] [none,some 3] cR (zN (pvS 0)) (pgN 0) (qp (zw (QB (K:=K) "r" hr.units) (pvS 0) (pvS 1) "r")) (pvS 0)) (@ql _ _ _ _ ze) (zG _))))) (@zf _ _ _ (@zx _ _ _ _ xE)) zR) (zd (qf 4 qH.nd (pb1 YV T.ju W0 (zW qy (pvS 1) zj (λ_ _=>rfl)))) (zd (qu Xb rfl (prg T.jg (zu jo (pb1 zE T.ju W0 (pvS 1)) (pvS 4))) (pgq 5 qH.nd) (zd (YS (pb2 Qx T.zdA Tn (pvS 5) (pvS 4)) (j5 rfl (zH (pgq 6 qH.nd) (zH (pgq 7 qH.nd) qS)))) (zf (qo (zw zbi (zW zaf (zW qy (pvS 1) (pvS 6) (λ_ _=>rfl)) (pvS 7) (λ_ _=>rfl)) qK "r") (zd (qf 8 qH.nd (pcm ["_law_one","_law_columns"] [none,some 4] cR (zN (pc0 aA hr Zq (za (pvS 5) (za (pb1 zE T.ju W0 (pvS 1)) (za (pvS 4) ze))))) (pgN 0) qx (pb2 Qx T.zdA Tn (pvS 0) (pvS 1)))) (zf (qo (zw Jj (pb1 zE T.ju W0 (pcm ["_law_cell","_law_near_here"] [none,some 8] cR (zN (pvS 0)) (pgN 0) (qp (zw (jH (K:=K) "r" hr.units) (pvS 0) (pvS 1) "r")) (pvS 0))) (pt1 YY T.ze6 Vj (zW zaf (zW qy (pvS 1) (pvS 6) (λ_ _=>rfl)) (pvS 7) (λ_ _=>rfl))) (zG _)) (@zf _ _ _ (@zx _ _ _ _ xE)) zR))) zR)))) (@zf _ _ _ (@zx _ _ _ _ xE))))))),?_⟩;ac_nf;refine⟨_,rfl,_,"list","list",true,rfl,.lst u,"q",true,rfl,YW ?_⟩;refine⟨_,rfl,O,_,rfl,.inl (SqL.of u),_,rfl,rfl,_,rfl,qw (by rw[ul,af,br rfl];rfl) ?_⟩;refine⟨_,rfl,O,us,L.map toI,rfl,SqL.of u,hL.tup2,"a",λd ax aI hd t' pm up=>?_⟩;rw[zgD pm (up (.inl (by rw[ZB];lia))) lx]at t';have N:=zc (o:=.lst ax) hd;have k1:=(qV t').mono N;have ec:(if true=true then !PyData.eqv (.list (L.map zk)) (.list (L.map zk)) else Xg (.list (L.map zk)) (.list (L.map zk)))=false:=by
   rw[bw rfl,g_same];rfl
  refine⟨_,rfl,.list (L.map zk),.list (L.map zk),.lst (SqL.of zb) (zay k1),.lst (SqL.of (N _ _ u)) (zay (hL.mono N)),zmY _ _,_,rfl,qw ec ?_⟩;have G:=N _ _ u;have U:=hL.mono N;have J:=N _ _ Y;generalize upd H d (.lst ax)=H0 at *
  refine⟨_,rfl,ta,g,rfl,J,R,λca ws H1 _ aB a2 s1=>?_⟩;have G:=s1 _ _ G;have U:=U.mono s1;have J:=s1 _ _ J;have N:=N.trans s1;refine⟨_,rfl,O,us,L.map toI,rfl,SqL.of G,U.tup2,λp hp=>?_,λl nd hl=>?_,λds ks a3 aD nd aq=>?_⟩
  .obtain⟨x,hx,rfl⟩:=XY.mp hp;have:=zdD R (r.subset hx);unfold toI ST.InB;lia
  .have:=nd.length_le_of_subset hl;rw[ZB]at this;lia
  have kl:ks.length=L.length:=by
   have e:=((Wi nd (zmZ a7)).mpr aq).length_eq;rw[ZB,ZB]at e;exact e
  have z2:=zc (o:=ST.zdj P w ds ks) a3;refine dB ds ks rfl zb "a" ⟨_,rfl,rfl,_,rfl,qw (by rw[kl,af,br rfl];rfl) ?_⟩;have a9:=N.trans z2;have an:=a9 _ _ u;refine⟨_,rfl,O,rfl,⟨_,SqL.of an⟩,λz hz=>?_⟩;refine zY (K:=K) (a:=O) (xs:=us) (λi m B=>∃(M:Option V),m=[M,some (.ref ca)]/\zq H1 B/\B z=some (.lst [])) ⟨none,rfl,z2.trans (zc hz),zb⟩ (λi m B _ ⟨_,_,y,_⟩=>SqL.of (y _ _ G)) ?_ ?_
  .refine λi v m H3 hv=>fu λM z0 ac ak=>?_;subst z0;obtain⟨c,hc,rc⟩:=zaA (U.mono ac) hv;have cm:c∈zp g:=r.subset (X4 hc);have e1:(if true=true then !((zp g).map zk).any (λz=>Xg z (zk c)) else ((zp g).map zk).any λz=>Xg z (zk c))=false:=by
    rw[bw rfl,jV,(Parts.xh _ _).mpr cm];rfl
   exact⟨_,rfl,_,rfl,zk c,(zp g).map zk,xJ.rdv rc,.lst (SqL.of (ac _ _ aB)) (zay (a2.mono ac)),rfl,Qe _,(by show 1<=60;decide),_,rfl,qw e1 ⟨_,rfl,ac,ak⟩⟩
  refine λm H3=>fu λM z0 s3 ak=>?_;subst z0;have s3:=N.trans s3;refine⟨Qu,λy0 a5=>?_⟩;have z4:=zc (o:=.lst []) a5;refine dB (.list []) (.list []) (.lst (SqL.of (z4 _ _ ak)) .nil) (.lst (SqL.of zb) .nil) ⟨rfl,rfl,"d"⟩ ⟨_,rfl,qw "q" ?_⟩;have av:=s3.trans z4;generalize upd H3 y0 (.lst [])=H4 at *
  have ah:=av _ _ Y;obtain⟨t0,aj⟩:∃t0,g[0]?=some t0:=⟨_,XX "a"⟩;have e0:t0.length=n:=(ag t0 (X4 aj)).len;have rl:(g.map V.str).length=g.length:=ZB _;refine⟨_,rfl,ta,_,_,.str t0,rfl,rfl,SqL.of ah,jJ "d" (by rw[Xl];exact(congrArg (RW V.str) aj)),t0,rfl,R.tlen aj,?_⟩;show yv 4 (V.int ((t0.length:Nat):Int)) _ _ _;rw[e0];have em:(((g.length:Nat):Int)*((n:Nat):Int))=((g.length*n:Nat):Int):=(T7 _ n).symm;refine⟨_,rfl,ta,_,rfl,.inl (SqL.of ah),_,rfl,_,_,rfl,rfl,zef "a" "a",_,rfl,(by show _<=(((g.map V.str).length:Nat):Int)*((n:Nat):Int);rw[rl,em];lia),(by show (((g.map V.str).length:Nat):Int)*((n:Nat):Int)<_;rw[rl,em];lia),?_⟩;rw[rl];refine qF (lo:=0) (n:=(((g.length:Nat):Int)*((n:Nat):Int)).toNat) (λi σ B=>∃(v5 v6 v7 v8:Option V),σ=[some (.ref O),some (.ref ta),some (.int st),some (.ref ca),some (.int (n:Nat)),v5,v6,v7,v8]/\zq H B) (eL _ _ _ _ rfl av) ?_ ?_
  .refine λi σ H5 hi=>gi λv6 v7 v8 v9 z0 s5=>?_;subst z0;have hi:i<g.length*n:="a"
   rw[show (0:Int)+(i:Nat)=((i:Nat):Int) by lia];refine fu (λt ht ar aF=>?_) (zrn W hi);refine⟨_,rfl,_,rfl,_,_,rfl,⟨"a","a"⟩,λp hp=>?_⟩;have s6:=zc (o:=.tup [.int (((i:Nat):Int)/((n:Nat):Int)),.int (((i:Nat):Int)%((n:Nat):Int))]) hp;refine dJ p _ rfl (SqT.of zb) rfl _ _ rfl _ _ rfl rfl ?_;generalize upd H5 p (.tup [.int (((i:Nat):Int)/((n:Nat):Int)),.int (((i:Nat):Int)%((n:Nat):Int))])=H6 at *
   rw[<- P8,<- P7];have al:=s5.trans s6;have ai:=al _ _ Y;refine⟨_,rfl,_,rfl,ta,_,_,.str t,rfl,rfl,SqL.of ai,jJ (Wo _) (by rw[WC,Xl];exact congrArg (RW V.str) ht),_,rfl,t,_,_,rfl,rfl,R.tlen ht,jJ (Wo _) (by rw[WC];exact ar),_,_,rfl,rfl,_,rfl,?_⟩;have ay:=zsG W hi;rw[zjm ay];by_cases ho:QU ((zca g).getD i 0)=true
   .refine jQ ho ?_;refine⟨_,rfl,_,rfl,ta,_,rfl,.inl (SqL.of ai),_,rfl,i,g.length,n,(by rw[<- rl];rfl),r8,n1,n8,hi,λnp H7 aE a1 s7=>(dD np rfl ⟨_,SqL.of a1⟩ (λh0 ao=>?_))⟩;have aH:=xP r8 n8 hi;refine zY (K:=K) (a:=np) (xs:=pV (jW g.length n i)) (λj m B=>∃(M:Option V) (ys:AF),m=[M,some (.int (n:Nat))]/\zq H7 B/\B h0=some (.lst ys)/\Cel B ys (((jW g.length n i).take j).map (pos n)))
     (dB _ [] rfl (zc ao) zb (.nil)) (λj m B _ ⟨_,_,_,y,_⟩=>SqL.of (y _ _ a1)) ?_ ?_
    .refine λj v m H8 hv=>fm λM ys z0 s8 aa I=>?_;subst z0;obtain⟨x,au,rfl⟩:=zpT hv;have jl:=(X2.mp au).1;have yl:ys.length<=8:=by
      rw[I.length,ZB,XC];lia
     unfold yv;refine Z5 ?_;refine⟨_,rfl,_,rfl,_,_,rfl,⟨"a","a"⟩,λp1 a4=>?_⟩;have z9:=zc (o:=.tup [.int (((x:Nat):Int)/((n:Nat):Int)),.int (((x:Nat):Int)%((n:Nat):Int))]) a4;refine eB ys (z9 _ _ aa) (XI yl "d") _ (ys++[.ref p1]) rfl (λb o e=>?_) zb ?_
     .rw[zg (zh e ao)];exact z9 _ _ (s8 _ _ e)
     .rw[XB,au,XS];refine zdV (z9 _ _ aa) (I.mono z9) ?_;rw[zb];unfold pos;rw[P8,P7]
    refine λm H8=>fm λM ys z0 s8 aa I=>?_;subst z0;rw[zrm,XH]at I;have am:=al.trans (s7.trans s8);have ae:=am _ _ u;refine⟨_,rfl,O,rfl,⟨_,SqL.of ae⟩,λk0 ap=>?_⟩;refine zY (K:=K) (a:=O) (xs:=us) (λj m B=>∃(M:Option V) (zs:AF),m=[M,some (.ref h0)]/\zq H8 B/\B k0=some (.lst zs)/\zs.length=((L.take j).filter λc=>decide (c∈(jW g.length n i).map (pos n))).length)
     (dB _ [] rfl (zc ap) zb rfl) (λj m B _ ⟨_,_,_,y,_⟩=>SqL.of (y _ _ ae)) ?_ ?_
    .refine λj v m H9 hv=>fm λM zs z0 s9 ab zl=>?_;subst z0;refine fq (λc hc rc=>?_) (zaA (hL.mono (am.trans s9)) hv);have jl:=(X2.mp hc).1;have st:=zcp (p:=λc=>decide (c∈(jW g.length n i).map (pos n))) hc;have az:zs.length<=64:=by
      rw[zl];exact X7 (Xw _ _) (by rw[XC];lia)
     have ei:(if false=true then !(((jW g.length n i).map (pos n)).map zk).any (λz=>Xg z (zk c)) else (((jW g.length n i).map (pos n)).map zk).any λz=>Xg z (zk c))=decide (c∈(jW g.length n i).map (pos n)):=by
      rw[bq XM,jV,W7,Parts.xh,bu]
     refine⟨_,rfl,_,rfl,zk c,((jW g.length n i).map (pos n)).map zk,xJ.rdv rc,.lst (SqL.of (s9 _ _ aa)) (zay (I.mono s9)),rfl,Qe _,(by show 1<=60;decide),_,rfl,?_⟩;rw[st];by_cases hh:decide (c∈(jW g.length n i).map (pos n))=true
     .rw[bw hh];refine jQ (ei.trans hh) ⟨_,rfl,zs,ab,XI az "d",_,_,rfl,λb o e=>?_,zb,?_⟩
      .rw[zg (zh e ap)];exact s9 _ _ e
      .rw[X5,X5,zl];rfl
     .rw[bq hh,Xc];exact qw (ei.trans (WU.mpr hh)) (dB _ zs rfl s9 ab zl)
    refine λm H9=>fm λM zs z0 s9 ab zl=>?_;subst z0;rw[ul,XH]at zl;have aw:=am.trans s9;have hn:=zpo W r hw hi ho;rw[<- zl]at hn;obtain⟨k1,k2⟩:=zb1 ay ho;refine⟨k0,_,rfl,.inl (SqL.of ab),_,rfl,_,rfl,ta,_,_,.str t,rfl,rfl,SqL.of (aw _ _ Y),jJ (Wo _) (by rw[WC,Xl];exact congrArg (RW V.str) ht),_,rfl,t,_,_,rfl,rfl,R.tlen ht,jJ (Wo _) (by rw[WC];exact ar),_,_,rfl,int_sign k1 k2,(by show 1<=640;decide),rfl,_,rfl,qw (by rw[hn,br rfl];rfl) ?_⟩;exact eL _ _ _ _ rfl aw
   .exact qw (WU.mpr ho) (eL _ _ _ _ rfl al)
  .refine λσ H5=>gi λv6 v7 v8 v9 z0 s5=>?_;subst z0;exact q _ s5
def zh8:Sp:=λj H Q _=>∃(g h:Addr) (a b:AE) (n k:Nat) (f:V) (r:Int),j=[.ref g,.ref h,.int (n:Nat),f,.int (k:Nat)]/\H g=some (.lst (a.map V.str))/\H h=some (.lst (b.map V.str))/\Rows bd.cps.toList a/\Rows bd.cps.toList b/\Small a/\Small b/\n<=200 /\
  ((k=2/\r=Pour.S (λi=>qg a (i:Nat)*qg b ((n-i:Nat):Nat)) (n+1)) \/
   ∃(e:Addr) (c:AA),f=.ref e/\H e=some (.tup [.int (c.1:Nat),.int (c.2:Nat)]) /\
    ((k=0/\c∈zp a/\r=Pour.S (λi=>zM a (i:Nat) c*qg b ((n-i:Nat):Nat)) (n+1)) \/
     (k=1/\c∈zp b/\r=Pour.S (λi=>qg a (i:Nat)*zM b ((n-i:Nat):Nat) c) (n+1))))/\∀d,zq H d->Q (.int r) d
def zau (rs:AE)(R:Rows bd.cps.toList rs)(n:Int)(c:AA):(zM rs n c).natAbs<2^70:=by
 have:=zgi (cs:=zp rs) (p:=λS=>qi rs S&&decide (c∈S)) (k:=n.toNat) (qG (p:=qI) R);unfold zM;rw[Uc];exact XI this "d"
def zcZ {x:Int}{a b:Nat}(h:x.natAbs<2^a)(e:a<=b):x.natAbs<2^b:=XD h (VU "d" e)
def qW:zB ["_law_one","_law_other","_law_stones","_law_cell","_law_side","_law_total","_law_taken","_law_here","_law_there"] ["_law_one","_law_other","_law_stones","_law_cell","_law_side"] (zo JX):=bz
def zez (T:Txt mg)(Z:Prog K mg)(D:zm K mg "_law_poured" JX ["_law_one","_law_other","_law_stones","_law_cell","_law_side"] f fd):zT P w K mg base CX0 9 f fd ["_law_one","_law_other","_law_stones","_law_cell","_law_side"] zh8:=by
 obtain⟨aj,ah,M⟩:=Z.count;obtain⟨ai,ag,N⟩:=Z.count_at;have m:zT P w K mg base CX0 7 _ _ ["board"] zgm:=zdR T Z M;refine D.F.ok qW "l" (λaf A ae s H vs Q E J h=>?_)
 .revert h;refine fB λg j a b=>fU λn k cv r z0 aa ab G=>fG λI sa sb n2 h q=>?_;subst z0;obtain⟨X,Y,hk,hq⟩:∃X Y:Nat->Int,((k=2/\X=(λi=>qg a (i:Nat))/\Y=λi=>qg b (i:Nat))\/∃(u:Addr) (c:AA),cv=.ref u/\H u=some (.tup [.int (c.1:Nat),.int (c.2:Nat)])/\((k=0/\c∈zp a/\X=(λi=>zM a (i:Nat) c)/\Y=λi=>qg b (i:Nat))\/(k=1/\c∈zp b/\X=(λi=>qg a (i:Nat))/\Y=λi=>zM b (i:Nat) c)))/\r=Pour.S (λi=>X i*Y (n-i)) (n+1):=by
   rcases h with ⟨rfl,e⟩ | ⟨u,c,rfl,d,⟨rfl,v,e⟩ | ⟨rfl,v,e⟩⟩
   .exact⟨_,_,.inl ⟨rfl,rfl,rfl⟩,e⟩
   .exact⟨_,_,.inr (dM u c rfl d (.inl ⟨rfl,v,rfl,rfl⟩)),e⟩
   .exact⟨_,_,.inr (dM u c rfl d (.inr ⟨rfl,v,rfl,rfl⟩)),e⟩
  clear h;refine⟨_,(@zd _ _ _ _ _ (@qP _ _ 5 _ _ _ _ qW.nd rfl (VI rfl) zj "r" (.inr rfl)) (zd (qu Xb rfl (prg T.jg (zu zQ (pvS 2) zj)) (pgq 6 qW.nd) (zd (qf 7 qW.nd (jb (za (pvS 0) (za (pvS 6) ze)))) (zd (qf 8 qW.nd (jb (za (pvS 1) (za (zu yC (pvS 2) (pvS 6)) ze)))) (zf (qo (zw j6 (pvS 4) zj (zG _)) (zf (qf 5 qW.nd (zu zQ (pvS 5) (zu jo (pc0 (Q0 T Z N) J N (za (pvS 7) (za (pvS 3) ze))) (pc0 m J M (za (pvS 8) ze)))))) (zf (qo (zw j6 (pvS 4) zj (zG _)) (zf (qf 5 qW.nd (zu zQ (pvS 5) (zu jo (pc0 m J M (za (pvS 7) ze)) (pc0 (Q0 T Z N) J N (za (pvS 8) (za (pvS 3) ze))))))) (zf (qf 5 qW.nd (zu zQ (pvS 5) (zu jo (pc0 m J M (za (pvS 7) ze)) (pc0 m J M (za (pvS 8) ze))))))))))))) (zf (zx (pvS 5))))),?_⟩;ac_nf;refine⟨_,rfl,_,_,rfl,rfl,_,rfl,"a","a",?_⟩;rw[show ((n:Nat):Int)+1=((n+1:Nat):Int) from rfl,WC];refine qF (lo:=0) (n:=n+1) (λi σ H'=>∃(v6 v7 v8:Option V),σ=[some (.ref g),some (.ref j),some (.int (n:Nat)),some cv,some (.int (k:Nat)),some (.int (Pour.S (λi=>X i*Y (n-i)) i)),v6,v7,v8]/\zq H H') (fh _ _ _ rfl (zq.refl _)) ?_ ?_
  .refine λi σ H1 hi=>fT λv6 v7 v8 z0 s1=>?_;subst z0;rw[show (0:Int)+(i:Nat)=((i:Nat):Int) by lia];refine⟨_,rfl,_,rfl,Jm,λp hp=>?_⟩;have z1:=zc (o:=.tup [.ref g,.int (i:Nat)]) hp;refine⟨_,rfl,_,rfl,_,rfl,_,_,rfl,rfl,Jm,λz ac=>?_⟩;rw[show ((n:Nat):Int)-((i:Nat):Int)=((n-i:Nat):Int) by lia];have z2:=zc (o:=.tup [.ref j,.int (n-i:Nat)]) ac;have B:=(s1.trans z1).trans z2;have O:qd (upd (upd H1 p (.tup [.ref g,.int (i:Nat)])) z (.tup [.ref j,.int (n-i:Nat)])) p g a (i:Nat):=⟨z2 _ _ zb,B _ _ aa⟩;have U:qd (upd (upd H1 p (.tup [.ref g,.int (i:Nat)])) z (.tup [.ref j,.int (n-i:Nat)])) z j b (n-i:Nat):=⟨zb,B _ _ ab⟩;generalize upd (upd H1 p (.tup [.ref g,.int (i:Nat)])) z (.tup [.ref j,.int (n-i:Nat)])=H2 at *
   have ma:∀{x y:Int},x.natAbs<2^70->y.natAbs<2^70->_:=λ{x y} hx hy=>zn6 (zcZ hx (show 70<=8000 by decide)) (zcZ hy (show 70<=8000 by decide));rcases hk with ⟨rfl,rfl,rfl⟩ | ⟨u,c,rfl,d,⟨rfl,v,rfl,rfl⟩ | ⟨rfl,v,rfl,rfl⟩⟩
   .refine⟨_,rfl,rfl,_,rfl,qw rfl ⟨_,rfl,rfl,_,rfl,qw rfl ?_⟩⟩;refine⟨_,rfl,_,rfl,p,g,a,(i:Nat),rfl,O,G,sa,Wo _,λH3 l=>⟨_,rfl,z,j,b,_,rfl,U.mono l,I,sb,Wo _,λH4 L=>(dB _ _ rfl rfl (ma (yG a G _).2 (yG b I _).2) ⟨_,_,rfl,rfl,_,_,_,rfl,(B.trans l).trans L⟩)⟩⟩
   .refine⟨_,rfl,rfl,_,rfl,jQ rfl ?_⟩;refine⟨_,rfl,_,rfl,_,rfl,p,g,u,a,(i:Nat),c,rfl,O,G,sa,Wo _,B _ _ d,v,λH3 l=>⟨_,rfl,z,j,b,_,rfl,U.mono l,I,sb,Wo _,λH4 L=>(dB _ _ rfl rfl (ma (zau a G _ _) (yG b I _).2) ⟨_,_,rfl,rfl,_,_,_,rfl,(B.trans l).trans L⟩)⟩⟩
   .refine⟨_,rfl,rfl,_,rfl,qw rfl ⟨_,rfl,rfl,_,rfl,jQ rfl ?_⟩⟩;refine⟨_,rfl,_,rfl,p,g,a,(i:Nat),rfl,O,G,sa,Wo _,λH3 l=>⟨_,rfl,_,rfl,z,j,u,b,_,c,rfl,U.mono l,I,sb,Wo _,l _ _ (B _ _ d),v,λH4 L=>(dB _ _ rfl rfl (ma (yG a G _).2 (zau b I _ _)) ⟨_,_,rfl,rfl,_,_,_,rfl,(B.trans l).trans L⟩)⟩⟩
  .rintro σ H5 ⟨v6,v7,v8,rfl,s5⟩;rw[hq]at q;exact⟨_,rfl,q _ s5⟩
def zro {n b:Int}(c:0<b):(frP n b).1*b=n*(frP n b).2:=by
 have f:=zbH (a:=n) c;obtain⟨x,d⟩:((Wa n b:Nat):Int) ∣ n:=Ur ..;obtain⟨y,e⟩:((Wa n b:Nat):Int) ∣ b:=Va ..;unfold frP;dsimp only;generalize ((Wa n b:Nat):Int)=g at *
 rw[d,e,Vc _ "a",Vc _ "a"];rw[Int.mul_left_comm,Int.mul_assoc]
def zrp {n b:Int}(a:0<b):0<(frP n b).2:=Int.ediv_pos_of_pos_of_dvd a (R0 (zbH a)) (Va ..)
def znR {n b:Int}{k:Nat}(a:n.natAbs<k):(frP n b).1.natAbs<k:=XI (RB _ _) a
def zlB {n b:Int}{k:Nat}(a:b.natAbs<k):(frP n b).2.natAbs<k:=XI (RB _ _) a
def zpp {rs:AE}{n:Int}(j:0<=n){c:AA}:zM rs n c=0 ↔ ∀T:AD,T.Sublist (zp rs)->((T.length:Nat):Int)=n->qi rs T=true->decide (c∈T)≠true:=by
 unfold zM Tally.T;rw[Int.natCast_eq_zero,VP];constructor
 .intro h T d i g e;refine h T (Tally.zf6 d) ?_;exact WT.mpr ⟨br "a",WT.mpr ⟨g,e⟩⟩
 .intro h S b f;obtain⟨h1,h2⟩:=WT.mp f;obtain⟨h2,a⟩:=WT.mp h2;exact h S (Tally.jr b) (by have:=bh h1;lia) h2 a
theorem zcu {α:Type}(p q:α->Bool):∀l:List α,l.countP p=l.countP (λx=>p x&&q x)+l.countP λx=>p x && !q x
 | []=>rfl
 | x::r=>by
  rw[WQ,WQ,WQ,zcu p q r];cases p x<;>cases q x<;>simp<;>lia
def zjp {α:Type}{p q:α->Bool}{l:List α}:l.countP (λx=>p x&&q x)=l.countP p ↔ ∀x∈l,p x=true->q x=true:=by
 rw[zcu p q l,Nat.left_eq_add,VP];refine forall_congr' λx=>forall_congr' λ_=>?_;cases p x<;>cases q x<;>simp
def zrq {rs:AE}{n:Int}(j:0<=n){c:AA}:zM rs n c=qg rs n ↔ ∀T:AD,T.Sublist (zp rs)->((T.length:Nat):Int)=n->qi rs T=true->decide (c∈T)≠false:=by
 unfold zM qg Tally.T;have e:(λS=>decide (S.length=n.toNat)&&(qi rs S&&decide (c∈S)))=λS=>(decide (S.length=n.toNat)&&qi rs S)&&decide (c∈S):=by
  funext S;rw[UR]
 rw[Int.ofNat_inj,e,zjp];constructor
 .intro h T b i g d;have:=h T (Tally.zf6 b) (WT.mpr ⟨br "a",g⟩);rw[d]at this;cases this
 .intro h S a f;obtain⟨h1,h2⟩:=WT.mp f;exact Bool.of_not_eq_false (h S (Tally.jr a) (by have:=bh h1;lia) h2)
def zkv {rs:AE}{n:Int}{c:AA}{b:Bool}{H a:Hp}{x:V}(h:zex rs n c b H a x):x=.non ↔ ∀T:AD,T.Sublist (zp rs)->((T.length:Nat):Int)=n->qi rs T=true->decide (c∈T)≠b:=by
 rcases h with ⟨rfl,h⟩ | ⟨d,g,T,rfl,_,_,_,h1,h2,e,f⟩
 .exact⟨λ_=>h,λ_=>rfl⟩
 .exact⟨(λh=>nomatch h),λh=>absurd f (h T h1 h2 e)⟩
def zgF {a b:Int}(h:a=b):(!decide (V.int a=V.int b))=false:=by rw[h,br rfl];rfl
def zgG {a b:Bool}(h:a=b):(!decide (V.bl a=V.bl b))=false:=by rw[h,br rfl];rfl
def ZC {p:Prop} [Decidable p]{a b:Int}(h:p↔a=b):decide p=decide (V.int a=V.int b):=decide_eq_decide.mpr (h.trans ⟨λe=>congrArg V.int e,V.int.inj⟩)
def zrr {rs:AE}{n:Int}{c:AA}(a:c∈zp rs):c∈clS rs n↔zM rs n c=0:=by
 unfold clS;rw[XZ,bu];exact⟨λh=>h.2,λh=>⟨a,h⟩⟩
def zrs {rs:AE}{n:Int}{c:AA}(a:c∈zp rs):c∈stS rs n↔zM rs n c=qg rs n:=by
 unfold stS;rw[XZ,bu];exact⟨λh=>h.2,λh=>⟨a,h⟩⟩
def zkw:Sp:=λe H Q _=>∃(p l d:Addr) (a:AE) (n:Int) (c:AA),e=[.ref p,.ref d,.int (zM a n c),.int (qg a n)]/\qd H p l a n/\Rows bd.cps.toList a/\Small a/\(zp a).length<=63/\0<=n/\qg a n≠0/\H d=some (.tup [.int (c.1:Nat),.int (c.2:Nat)])/\c∈zp a/\∀b,zq H b->Q (.bl true) b
def qO:zB ["_law_board","_law_cell","_law_often","_law_total","_law_top","_law_bottom","_law_clear","_law_stones","_law_pair"] ["_law_board","_law_cell","_law_often","_law_total"] (zo yq):=bz
def zbL (T:Txt mg)(U:zpm K mg jai jaj jad jaa jac jab jah jaf jae jag)(Z:Prog K mg){f:Addr}{fd:Xz}(D:zm K mg "_law_cell_right" yq ["_law_board","_law_cell","_law_often","_law_total"] f fd):zT P w K mg base CX0 12 f fd ["_law_board","_law_cell","_law_often","_law_total"] zkw:=by
 obtain⟨ai,ag,yI⟩:=Z.law_told;obtain⟨ak,aj,JA⟩:=Z.law_is_laying;obtain⟨ah,af,yP⟩:=Z.law_whole;have Zr:=zct (P:=P) (w:=w) (base:=base) T U Z yI;have Qt:=zcb (P:=P) (w:=w) (base:=base) T Z JA;have ZU:=zbK (P:=P) (w:=w) (base:=base) T yP;refine D.F.ok qO "l" (λac A aa s H vs Q E g h=>?_)
 .revert h;refine fW λp l I a n c z0 B R sm=>fG λi O hz o hc q=>?_;subst z0;obtain⟨ae,M⟩:=yG a R n;have bp:0<qg a n:="a"
  have nz:∀{C:Prop},qg a n=0->C:=λh=>absurd h hz;have em:=zro (n:=zM a n c) bp;have p0:=zrp (n:=zM a n c) bp;have b1:(frP (zM a n c) (qg a n)).1.natAbs<2^70:=znR (zau a R n c);have b2:(frP (zM a n c) (qg a n)).2.natAbs<2^70:=zlB M;have J:=zau a R n c;have ma:∀{x y:Int},x.natAbs<2^70->y.natAbs<2^70->_:=λ{x y} hx hy=>zn6 (zcZ hx (show 70<=8000 by decide)) (zcZ hy (show 70<=8000 by decide));have N:∀L:AD,(if false=true then !(L.map zk).any (λz=>Xg z (zk c)) else (L.map zk).any λz=>Xg z (zk c))=decide (c∈L):=λL=>by
   rw[bq XM,jV,W7,Parts.xh,bu]
  have Y:∀L:AD,(if true=true then !(L.map zk).any (λz=>Xg z (zk c)) else (L.map zk).any λz=>Xg z (zk c))=!decide (c∈L):=λL=>by
   rw[bw rfl,jV];congr 1;rw[W7,Parts.xh,bu]
  have rc:∀{H'},zq H H'->Rdv K H' (.ref I) (zk c):=λ{H'} s=>xJ.rdv ⟨I,rfl,s _ _ o⟩;refine⟨_,(zd (YS (pc0 Zr g yI (za (pvS 0) (@za _ _ _ _ _ zj (za (pvS 1) ze) rfl))) (j5 rfl (zH (pgq 4 qO.nd) (zH (pgq 5 qO.nd) qS)))) (zd (qo (PW.pt (Z9 (ZX (yU (pc0 ZU g yP (za (pvS 4) ze)) (λ_=>rfl))) (Z9 (ZX (yU (pc0 ZU g yP (za (pvS 5) ze)) (λ_=>rfl))) (Z9 (zw Jj (zu jo (pvS 4) (pvS 3)) (zu jo (pvS 2) (pvS 5)) (zG _)) (ZW (zw zmA (pvS 5) zj (zG _))))))) (@zf _ _ _ (@zx _ _ _ _ xE)) zR) (zd (YS (pc0 Zr g yI (za (pvS 0) (@za _ _ _ _ _ zj (@za _ _ _ _ _ ZV ze rfl) rfl))) (j5 rfl (zH (pgq 6 qO.nd) (zH (pgq 7 qO.nd) qS)))) (zd (qo (PW.pt (Z9 (zw Jj (jB (YX g.units) (pvS 1) (pvS 6) "r") (jB j6 (pvS 2) zj (zG _)) (zG _)) (ZW (zw Jj (jB (YX g.units) (pvS 1) (pvS 7) "r") (jB j6 (pvS 2) (pvS 3) (zG _)) (zG _))))) (@zf _ _ _ (@zx _ _ _ _ xE)) zR) (zd (qf 8 qO.nd (pc0 Zr g yI (za (pvS 0) (@za _ _ _ _ _ zj (za (pvS 1) ze) rfl)))) (zd (qo (PW.pt (Z9 (zw Jj (jB zii (zW qh (pvS 8) zj (λ_ _=>rfl)) ZV (zG _)) (jB j6 (pvS 2) zj (zG _)) (zG _)) (ZW (zw Jj (jB zii (zW qh (pvS 8) zj (λ_ _=>rfl)) ZV (zG _)) (jB j6 (pvS 2) (pvS 3) (zG _)) (zG _))))) (@zf _ _ _ (@zx _ _ _ _ xE)) zR) (zd (qo (PW.pt (zfG (zw zjG (zW qh (pvS 8) zj (λ_ _=>rfl)) ZV (zG _)) (zcJ (PW.pt (Z9 (zw (xY g.units) (pvS 1) (zW qh (pvS 8) zj (λ_ _=>rfl)) "r") (ZW (ZX (yU (pc0 Qt g JA (za (zW qh (pvS 8) zj (λ_ _=>rfl)) (za (zW qh (pvS 0) zj (λ_ _=>rfl)) (za (zW qh (pvS 0) zj (λ_ _=>rfl)) ze)))) (λ_=>rfl))))))))) (@zf _ _ _ (@zx _ _ _ _ xE)) zR) (zf (zx (zrC (jB zii (zW qh (pvS 8) zj (λ_ _=>rfl)) ZV (zG _)) (zie (zlG (jB (xY g.units) (pvS 1) (zW qh (pvS 8) zj (λ_ _=>rfl)) "r") (zie (pc0 Qt g JA (za (zW qh (pvS 8) zj (λ_ _=>rfl)) (za (zW qh (pvS 0) zj (λ_ _=>rfl)) (za (zW qh (pvS 0) zj (λ_ _=>rfl)) ze))))))))))))))))),?_⟩;ac_nf;refine⟨_,rfl,_,rfl,p,l,a,n,2,_,rfl,B,R,sm,i,O,(λh=>nz h),.inr (.inr (dB I c rfl o hc (.inl ⟨rfl,λ_ t H1 ht s1=>?_⟩)))⟩;have ht:H1 t=some (.tup [.int (frP (zM a n c) (qg a n)).1,.int (frP (zM a n c) (qg a n)).2]):=ht;generalize frP (zM a n c) (qg a n)=xy at *
  obtain⟨x0,y0⟩:=xy;dsimp only at em p0 b1 b2 ht;refine dJ t _ rfl (SqT.of ht) rfl _ _ rfl _ _ rfl rfl ?_;refine⟨_,rfl,_,rfl,true,rfl,YW ⟨_,rfl,_,rfl,true,rfl,YW ?_⟩⟩;refine⟨_,rfl,_,rfl,_,_,rfl,rfl,ma b1 M,_,rfl,_,rfl,_,_,rfl,rfl,ma J b2,rfl,_,rfl,qw (zgF em) ?_⟩;refine⟨_,rfl,_,_,rfl,rfl,_,rfl,qw (bg "a") ?_⟩;refine⟨_,rfl,p,l,a,n,1,_,rfl,B.mono s1,R,sm,i,O,(λh=>nz h),.inr (.inl ⟨rfl,λ_ v H2 ⟨u,d1,d2,w1,w2,ev,hu,h1,h2,c1,c2⟩ s2=>?_⟩)⟩;subst ev;have j:=s1.trans s2;refine dJ u _ rfl (SqT.of hu) rfl _ _ rfl _ _ rfl rfl ?_;refine⟨_,rfl,_,rfl,zk c,(clS a n).map zk,rc j,.lst (SqL.of h1) (zay c1),rfl,Qe _,(by show 1<=60;decide),_,rfl,rfl,rfl,_,rfl,qw (zgG ((N _).trans (ZC (zrr hc)))) ?_⟩;refine⟨_,rfl,_,rfl,zk c,(stS a n).map zk,rc j,.lst (SqL.of h2) (zay c2),rfl,Qe _,(by show 1<=60;decide),_,rfl,_,rfl,rfl,rfl,_,rfl,qw (zgG ((N _).trans (ZC (zrs hc)))) ?_⟩;refine⟨_,rfl,_,rfl,p,l,a,n,3,_,rfl,B.mono j,R,sm,i,O,(λh=>nz h),.inr (.inr (dB I c rfl (j _ _ o) hc (.inr ⟨rfl,λ_ v H3 ⟨m,x,y,ev,b,wx,wy⟩ s3=>?_⟩)))⟩;subst ev;have r:=j.trans s3;have B3:=B.mono r;have hx:x=V.non↔zM a n c=0:=(zkv wx).trans (zpp O).symm;have hy:y=V.non↔zM a n c=qg a n:=(zkv wy).trans (zrq O).symm;refine⟨_,rfl,m,_,0,_,rfl,rfl,SqT.of b,rfl,rfl,_,rfl,rfl,rfl,_,rfl,qw (zgG (ZC hx)) ?_⟩;refine⟨_,rfl,m,_,1,_,rfl,rfl,SqT.of b,rfl,rfl,_,rfl,_,rfl,rfl,rfl,_,rfl,qw (zgG (ZC hy)) ?_⟩;clear hx hy;rcases wx with ⟨rfl,_⟩ | ⟨e,us,L,rfl,_,h1,h2,h3,h4,h5,h6⟩
  case' inl=>refine⟨_,rfl,m,_,0,_,rfl,rfl,SqT.of b,rfl,rfl,_,rfl,qw rfl (YW ?_)⟩;have s4:=zq.refl H3
  case' inr =>
   refine⟨_,rfl,m,_,0,_,rfl,rfl,SqT.of b,rfl,rfl,_,rfl,jQ rfl ⟨_,rfl,_,rfl,m,_,0,_,rfl,rfl,SqT.of b,rfl,zk c,L.map zk,rc r,.lst (SqL.of h1) (zay (qV h2)),rfl,Qe _,(by show 1<=60;decide),_,rfl,qw (by rw[Y,h6];rfl) ?_⟩⟩
   refine⟨_,rfl,m,_,0,_,rfl,rfl,SqT.of b,rfl,_,rfl,p,_,0,_,rfl,rfl,SqT.of B3.tp,rfl,_,rfl,p,_,1,_,rfl,rfl,SqT.of B3.tp,rfl,e,l,us,L,a,n,rfl,h1,qV h2,h3,i,h4,h5,B3.rw,R,λH4 s4=>?_⟩
   refine dG true rfl (YW ?_)
  all_goals
   have d:=s4 _ _ b
   have B4:=B3.mono s4
   have G:=r.trans s4
   have q4:=q _ G
   rcases wy.mono s4 with ⟨rfl,_⟩ | ⟨e',ab,L',rfl,_,g1,g2,g3,g4,g5,g6⟩
   .refine⟨_,rfl,m,_,1,_,rfl,rfl,SqT.of d,rfl,rfl,true,rfl,?_⟩;rw[bw rfl];exact q4
   .refine⟨_,rfl,m,_,1,_,rfl,rfl,SqT.of d,rfl,rfl,false,rfl,?_⟩;rw[bq XM];refine⟨_,rfl,_,rfl,m,_,1,_,rfl,rfl,SqT.of d,rfl,zk c,L'.map zk,rc G,.lst (SqL.of g1) (zay (qV g2)),rfl,Qe _,(by show 1<=60;decide),?_⟩;rw[Y,g6];refine⟨true,rfl,?_⟩;rw[bw rfl];exact⟨_,rfl,m,_,1,_,rfl,rfl,SqT.of d,rfl,_,rfl,p,_,0,_,rfl,rfl,SqT.of B4.tp,rfl,_,rfl,p,_,1,_,rfl,rfl,SqT.of B4.tp,rfl,e',l,ab,L',a,n,rfl,g1,qV g2,g3,i,g4,g5,B4.rw,R,λH5 s5=>q _ (G.trans s5)⟩
def zic (K:X0):Sp:=λd H Q _=>∃(a:Addr) (b:List Int),d=[.ref a]/\SqL K H a (b.map V.int)/\b.length<=63/\∀c,Q (.bl true) c
theorem zrt:∀k:Nat,k<7->∃z:Int,[V.int 0,V.int 0,V.int 1,V.int 2,V.int (-1),V.int (-2),V.int 0][k]?=some (V.int z)/\-2<=z/\z<=2
 | 0,_=>⟨0,rfl,"d","d"⟩
 | 1,_=>⟨0,rfl,"d","d"⟩
 | 2,_=>⟨1,rfl,"d","d"⟩
 | 3,_=>⟨2,rfl,"d","d"⟩
 | 4,_=>⟨-1,rfl,"d","d"⟩
 | 5,_=>⟨-2,rfl,"d","d"⟩
 | 6,_=>⟨0,rfl,"d","d"⟩
 | k+7,h=>absurd h "a"
def Two.side {a b:AE}{h:Str}(W:Two a b h){c:AA}(hc:c∈zp (jn a b h))(N:Nat):∃(k:Nat) (o:AA),(if decide (((a.length:Nat):Int)<((c.1:Nat):Int))=true then (1:Int) else 0)=((k:Nat):Int)/\((c.1:Nat):Int)-((k:Nat):Int)*(((a.length:Nat):Int)+1)=((o.1:Nat):Int)/\c.2=o.2/\k<=1 /\
    ((k=0/\o∈zp a/\zM (jn a b h) (N:Nat) c=Pour.S (λi=>zM a (i:Nat) o*qg b ((N-i:Nat):Nat)) (N+1)) \/
     (k=1/\o∈zp b/\zM (jn a b h) (N:Nat) c=Pour.S (λi=>qg a (i:Nat)*zM b ((N-i:Nat):Nat) o) (N+1))):=by
  rw[W.shut]at hc;rcases XU.mp hc with hc | hc
  · have:=Q4 hc;refine dH 0 c ?_ ?_ rfl "d" (.inl ⟨rfl,hc,W.at_lo this N⟩)
    · rw[bg "a"];rfl
    · lia
  · refine fq (λo d z0=>?_) (XY.mp hc);subst z0;refine dH 1 o ?_ ?_ rfl "d" (.inr ⟨rfl,d,W.at_hi o N⟩)
    · rw[br (show ((a.length:Nat):Int)<(((shp (a.length+1) o).1:Nat):Int) by unfold shp;dsimp only;lia)];rfl
    · unfold shp;dsimp only;lia
def yt:zB ["_law_script","_law_head","_law_columns","_law_one","_law_first","_law_other","_law_second","_law_stones","_law_board","_law_total","_law_cells","_law_k","_law_cell","_law_side","_law_own","_law_often"] ["_law_script"] (zo ze5):=bz
def zpq (T:Txt mg)(Z:Prog K mg)(U:zpm K mg jai jaj jad jaa jac jab jah jaf jae jag){f:Addr}{fd:Xz}(D:zm K mg "law" ze5 ["_law_script"] f fd):zT P w K mg base CX0 13 f fd ["_law_script"] (zic K):=by
 obtain⟨Jh,xB,zL⟩:=Z.law_cell_at;obtain⟨bJ,bH,aw⟩:=Z.law_half;obtain⟨bA,b6,yP⟩:=Z.law_whole;obtain⟨bI,bG,Qq⟩:=Z.law_poured;obtain⟨b5,b4,xD⟩:=Z.law_closed;obtain⟨bC,b9,yI⟩:=Z.law_told;obtain⟨bF,bE,YI⟩:=Z.law_cell_right;obtain⟨bD,b8,xx⟩:=Z.count;obtain⟨bB,b7,yH⟩:=Z.count_at;have jA:=jC (P:=P) (w:=w) (base:=base) T zL;have aJ:=zh4 (P:=P) (w:=w) (base:=base) T Z aw;have ZU:=zbK (P:=P) (w:=w) (base:=base) T yP;have aI:=zez (P:=P) (w:=w) (base:=base) T Z Qq;have Qp:=zaO (P:=P) (w:=w) (base:=base) T xD;have Zr:=zct (P:=P) (w:=w) (base:=base) T U Z yI;have bj:=zbL (P:=P) (w:=w) (base:=base) T U Z YI;have bi:=zdR (P:=P) (w:=w) (base:=base) T Z xx;have bm:=Q0 (P:=P) (w:=w) (base:=base) T Z yH;refine D.F.ok yt "l" (λbt A aZ s H vs Q E m h=>?_)
 .revert h;refine fm λa ns z0 hS nl q=>?_;subst z0;refine⟨_,(zd (qf 1 yt.nd (pc0 jA m zL (za (pvS 0) (@za _ _ _ _ _ zj ze rfl)))) (@zd _ _ _ _ _ (@qP _ _ 2 _ _ _ _ yt.nd rfl (VI rfl) (@zu _ _ _ _ _ _ _ _ zQ zj (zu qN (pvS 1) zj)) "r" (.inr rfl)) (zd (YS (pc0 aJ m aw (za (pvS 0) (@za _ _ _ _ _ zj (@za _ _ _ _ _ (@zu _ _ _ _ _ _ _ _ zQ zj (zu qN (zu qX (pvS 1) zj) zj)) (za (pvS 2) ze) rfl) rfl))) (j5 rfl (zH (pgq 3 yt.nd) (zH (pgq 4 yt.nd) qS)))) (zd (YS (pc0 aJ m aw (za (pvS 0) (@za _ _ _ _ _ zj (@za _ _ _ _ _ (@zu _ _ _ _ _ _ _ _ zQ zj (zu qN (zu qX (pvS 1) zj) zj)) (za (pvS 2) ze) rfl) rfl))) (j5 rfl (zH (pgq 5 yt.nd) (zH (pgq 6 yt.nd) qS)))) (zd (qf 7 yt.nd (Yd (Yb rfl) "r" T.zhs UM (@za _ _ _ _ _ zj (za (zu zQ (zu zQ (pvS 4) (pvS 6)) (@zW _ _ _ _ _ _ _ qy (@ql _ _ _ _ (@za _ _ _ _ _ zj (@za _ _ _ _ _ zj (@za _ _ _ _ _ zj (@za _ _ _ _ _ zj (za (zpv zlM zj) (za (zpv zlM zj) (@za _ _ _ _ _ zj ze rfl))) rfl) rfl) rfl) rfl)) (zu qN (zu qX (pvS 1) zj) zj) (λ_ _=>rfl))) ze) rfl))) (zd (qf 8 yt.nd (jb (za (zu J9 (zu J9 (pvS 3) (@ql _ _ _ _ (@za _ _ _ _ _ (@zu _ _ _ _ _ _ _ _ ziv qK (pvS 2)) ze rfl))) (pvS 5)) (za (pvS 7) ze)))) (zd (qf 9 yt.nd (pc0 bi m xx (za (pvS 8) ze))) (zd (qo (PW.pt (Z9 (ZX (yU (pc0 ZU m yP (za (pvS 9) ze)) (λ_=>rfl))) (ZW (zw Jj (pvS 9) (pc0 aI m Qq (za (pvS 3) (za (pvS 5) (za (pvS 7) (@za _ _ _ _ _ ZV (@za _ _ _ _ _ zj ze rfl) rfl))))) (zG _))))) (@zf _ _ _ (@zx _ _ _ _ xE)) zR) (zd (qf 10 yt.nd (pc0 Qp m xD (za (zW qh (pvS 8) zj (λ_ _=>rfl)) ze))) (zd (qu Xb rfl (prg T.jg zj) (pgq 11 yt.nd) (zf (qo (zw (j7 m.units) (pvS 10) (@ql _ _ _ _ ze) (zG _)) (zd (qf 12 yt.nd (zW qy (pvS 10) (zu qN (pc0 jA m zL (za (pvS 0) (@za _ _ _ _ _ (@zu _ _ _ _ _ _ _ _ zQ zj (pvS 11)) ze rfl))) (pb1 zE T.ju W0 (pvS 10))) (λ_ _=>rfl))) (zd (qo (zw j6 (pvS 9) zj (zG _)) (zd (qo (zw (j7 m.units) (pcm ["_law_way","_law_board","_law_cell"] [none,some 8,some 12] cR (prg T.jg zj) (pgN 0) (qp (zw (zcf (K:=K) "r" m.units) (pc0 Zr m yI (za (pvS 1) (za (pvS 0) (za (pvS 2) ze)))) qK (zG _))) (pvS 0)) (@ql _ _ _ _ ze) (zG _)) (@zf _ _ _ (@zx _ _ _ _ xE)) zR) (zf zgK)) zR) (zd (qf 13 yt.nd (pt1 zeD T.ze6 Vj (jB ziM (zW qh (pvS 12) zj (λ_ _=>rfl)) (pb1 zE T.ju W0 (pvS 3)) (zG _)))) (zd (qf 14 yt.nd (jb (za (zu yC (zW qh (pvS 12) zj (λ_ _=>rfl)) (zu jo (pvS 13) (zu zQ (pb1 zE T.ju W0 (pvS 3)) zj))) (za (zW qh (pvS 12) zj (λ_ _=>rfl)) ze)))) (zd (qf 15 yt.nd (pc0 aI m Qq (za (pvS 3) (za (pvS 5) (za (pvS 7) (za (pvS 14) (za (pvS 13) ze))))))) (zf (qo (PW.pt (Z9 (zw Jj (pc0 bm m yH (za (pvS 8) (za (pvS 12) ze))) (pvS 15) (zG _)) (ZW (ZX (yU (pc0 bj m YI (za (pvS 8) (za (pvS 12) (za (pvS 15) (za (pvS 9) ze))))) (λ_=>rfl)))))) (@zf _ _ _ (@zx _ _ _ _ xE)) zR))))))) zR))) (@zf _ _ _ (@zx _ _ _ _ xE)))))))))))),?_⟩;ac_nf;refine⟨_,rfl,a,ns,_,rfl,hS,"d",λc0=>⟨_,rfl,_,_,rfl,rfl,"d",_,_,rfl,rfl,?_⟩⟩;obtain⟨n,hn,n1,n8⟩:∃n:Nat,1+c0%8=((n:Nat):Int)/\1<=n/\n<=8:=⟨(1+c0%8).toNat,"a","a","a"⟩;obtain⟨R1,aP,ba,b2⟩:∃n:Nat,1+c0/8%3=((n:Nat):Int)/\1<=n/\n<=3:=⟨(1+c0/8%3).toNat,"a","a","a"⟩;obtain⟨R2,aQ,bb,bc⟩:∃n:Nat,1+c0/24%4=((n:Nat):Int)/\1<=n/\n<=4:=⟨(1+c0/24%4).toNat,"a","a","a"⟩;obtain⟨k0,k7⟩:=Q3 (x:=c0/96) (M:=7) "d";refine fu (λz aY z0 z1=>?_) (zrt (c0/96%7).toNat "a");rw[hn];refine⟨_,rfl,_,rfl,_,_,rfl,rfl,yV.small "d" "d",_,_,rfl,rfl,"d",_,_,rfl,rfl,_,rfl,a,ns,1,R1,n,(by rw[<- aP];rfl),hS,"d",ba,"a",n1,n8,λp1 l1 e f1 H1 B1 la wa sa bv bx s1=>(dJ p1 _ rfl (SqT.of B1.tp) rfl _ _ rfl _ _ rfl rfl ?_)⟩;refine⟨_,rfl,_,rfl,_,_,rfl,rfl,yV.small "d" "d",_,_,rfl,rfl,"d",_,_,rfl,rfl,_,rfl,a,ns,14,R2,n,(by rw[<- aQ];rfl),s1.seq hS,"d",bb,bc,n1,n8,λp2 l2 g f2 H2 B2 lb wb sb b0 b1 s2=>(dJ p2 _ rfl (SqT.of B2.tp) rfl _ _ rfl _ _ rfl rfl ?_)⟩;have aC:=s1.trans s2;have Ra:Rows bd.cps.toList e:=⟨"a","a",n,n1,n8,wa⟩;have Rb:Rows bd.cps.toList g:=⟨"a","a",n,n1,n8,wb⟩;have a5:=s2 _ _ B1.rw;have a9:=B2.rw;refine⟨_,rfl,_,rfl,_,_,rfl,rfl,_,rfl,_,rfl,(by show 7<=Xy;decide),λd3 aR=>?_⟩;have y3:=zc (o:=.lst [V.int 0,V.int 0,V.int 1,V.int 2,V.int (-1),V.int (-2),V.int 0]) aR;refine⟨_,rfl,_,_,rfl,rfl,yV.small "d" "d",_,_,rfl,rfl,"d",d3,_,_,_,rfl,rfl,SqL.of zb,jJ k0 aY,_,_,rfl,rfl,_,_,rfl,?_⟩;obtain⟨N,hN,bn⟩:∃N:Nat,(if f1+f2+z>0 then f1+f2+z else 0)=((N:Nat):Int)/\N<=130:=by
   by_cases c:f1+f2+z>0
   .exact⟨(f1+f2+z).toNat,by rw[bw c];lia,"a"⟩
   .exact⟨0,by rw[bq c];rfl,"a"⟩
  rw[hN];have aD:=aC.trans y3;have ah:=y3 _ _ a5;have aj:=y3 _ _ a9;generalize upd H2 d3 (.lst [V.int 0,V.int 0,V.int 1,V.int 2,V.int (-1),V.int (-2),V.int 0])=H3 at *
  refine⟨_,rfl,_,rfl,"#",_,rfl,rfl,"a","a","q",λh hl hm=>⟨sz_1,λd4 aS=>?_⟩⟩;have y4:=zc (o:=.lst [V.str h]) aS;have al:(e.map V.str).length=e.length:=ZB _;have bl:(g.map V.str).length=g.length:=ZB _;refine dQ l1 d4 _ _ rfl rfl (y4 _ _ ah) zb (X7 (show (e.map V.str).length+1<=100 by lia) "d") (λd5 aT=>?_);have y5:=zc (o:=.lst (e.map V.str++[V.str h])) aT;refine⟨_,rfl,d5,l2,_,_,rfl,rfl,zb,y5 _ _ (y4 _ _ aj),X7 (show (e.map V.str++[V.str h]).length+(g.map V.str).length<=100 by rw[X5];show _+1+_<=_;lia) "d",λd6 aU=>?_⟩;have y6:=zc (o:=.lst (e.map V.str++[V.str h]++g.map V.str)) aU;refine⟨_,rfl,Jm,λb hb=>?_⟩;have y7:=zc (o:=.tup [.ref d6,.int (N:Nat)]) hb;have ej:e.map V.str++[V.str h]++g.map V.str=(jn e g h).map V.str:=by
   unfold jn;rw[XS,XS];rfl
  have ac:=((y4.trans y5).trans y6).trans y7;have a6:=ac _ _ ah;have aA:=ac _ _ aj;have B:qd _ b d6 (jn e g h) (N:Nat):=⟨zb,y7 _ _ (by rw[<- ej];exact zb)⟩;have aE:=aD.trans ac;generalize upd (upd (upd (upd H3 d4 (.lst [V.str h])) d5 (.lst (e.map V.str++[V.str h]))) d6 (.lst (e.map V.str++[V.str h]++g.map V.str))) b (.tup [.ref d6,.int (N:Nat)])=H7 at *
  have hh:Row bd.cps.toList n h:=⟨by
   have:h.cps.size=("#":Str).length*(((n:Nat):Int)).toNat:=hl;rw[show ("#":Str).length=1 from by decide+kernel,Nat.one_mul,WC]at this;exact this,λc hc=>(show ∀c∈("#":Str).cps.toList,c∈bd.cps.toList by decide+kernel) c (hm c hc)⟩
  have W:Two e g h:=⟨λc hc=>(show ∀c∈("#":Str).cps.toList,c=35 by decide+kernel) c (hm c hc)⟩;have jl:(jn e g h).length=e.length+1+g.length:=by
   unfold jn;rw[X5,X5];rfl
  have R:Rows bd.cps.toList (jn e g h):=⟨"a","a",n,n1,n8,λt ht=>by
   rcases XU.mp ht with ht | ht
   .rcases XU.mp ht with ht | ht
    .exact wa t ht
    .rw[Wj.mp ht];exact hh
   .exact wb t ht⟩
  have sm:Small (jn e g h):=W.small sa sb;have aB:(zp (jn e g h)).length<=63:=X7 (W.few sa sb) "d";have aF:Small e:=zhH (X7 sa "d");have aG:Small g:=zhH (X7 sb "d");have bf:=λc (hc:c∈zp (jn e g h))=>W.side hc N;have a2:=W.cnt N;generalize jn e g h=rs at *
  clear hh W ej hl hm;have N0:(0:Int)<=((N:Nat):Int):=Wo _;refine⟨_,rfl,b,d6,rs,(N:Nat),rfl,B,R,sm,N0,λH8 s8=>?_⟩;have B8:=B.mono s8;have ai:=s8 _ _ a6;have ak:=s8 _ _ aA;refine⟨_,rfl,_,rfl,true,rfl,YW ?_⟩;refine⟨_,rfl,_,rfl,_,rfl,_,rfl,l1,l2,e,g,N,2,.non,_,rfl,ai,ak,Ra,Rb,aF,aG,"a",.inl ⟨rfl,rfl⟩,λH9 s9=>⟨rfl,_,rfl,qw (zgF a2) ?_⟩⟩;have B9:=B8.mono s9;refine⟨_,rfl,b,_,0,_,rfl,rfl,SqT.of B9.tp,rfl,d6,rs,rfl,B9.rw,R,λd ws aN hd aK ax L=>?_⟩;have ag:=B9.mono L;have a4:=L _ _ (s9 _ _ ai);have a7:=L _ _ (s9 _ _ ak);have a3:=(((aE.trans s8).trans s9).trans L).seq hS;clear B B8 B9 a5 ah a6 ai a9 aj aA ak s1 s2 aC aD aE s8 s9 L y3 y4 y5 y6 y7 ac;have wl:=ax.length;refine dW 2 rfl "d" "d" ?_;refine qF (lo:=0) (n:=2) (λi σ H'=>∃(ao ap aq ar au:Option V),σ=[some (.ref a),some (.int c0),some (.int (n:Nat)),some (.ref l1),some (.int f1),some (.ref l2),some (.int f2),some (.int (N:Nat)),some (.ref b),some (.int (qg rs (N:Nat))),some (.ref d),ao,ap,aq,ar,au]/\zq aN H') (eZ _ _ _ _ _ rfl (zq.refl _)) ?_ ?_
  .refine λi σ az hi=>fB λao ap aq ar=>fq λau z0 ab=>?_;subst z0;rw[show (0:Int)+(i:Nat)=((i:Nat):Int) by lia];refine⟨_,rfl,Qu,λe0 aV=>?_⟩;have av:=zc (o:=.lst []) aV;refine dB (.list ((zp rs).map zk)) (.list []) (.lst (SqL.of (av _ _ (ab _ _ aK))) (zay ((ax.mono ab).mono av))) (.lst (SqL.of zb) .nil) (zmY _ []) ⟨_,rfl,?_⟩;have j:=ab.trans av;generalize upd az e0 (.lst [])=H12 at *
   have en:(if true=true then !PyData.eqv (.list ((zp rs).map zk)) (.list []) else Xg (.list ((zp rs).map zk)) (.list []))=!(zp rs).isEmpty:=by
    cases zp rs<;>rfl
   rw[en];cases zhx:(zp rs).isEmpty with
   | true=>exact qw rfl (eZ _ _ _ _ _ rfl j)
   | false =>
    have w0:0<ws.length:=by
     rw[wl];exact OK.mpr (Vk.mp zhx)
    have af:=j _ _ aK;have aM:=ag.mono j;refine jQ rfl ?_;refine⟨_,rfl,_,rfl,_,rfl,_,_,rfl,rfl,a,ns,_,rfl,j.seq a3,"a",λzz=>⟨_,rfl,d,_,rfl,.inl (SqL.of af),_,_,rfl,rfl,"a",?_⟩⟩;obtain⟨q0,q1⟩:=Q3 (x:=zz) (M:=ws.length) w0;obtain⟨v,hv⟩:∃v,ws[(zz%((ws.length:Nat):Int)).toNat]?=some v:=⟨_,XX "a"⟩;refine fJ (λc hc ca z0 p=>?_) (zaA (ax.mono j) hv);subst z0;have I:=X4 hc;refine⟨d,_,_,_,rfl,rfl,SqL.of af,jJ q0 hv,?_⟩;refine⟨_,rfl,rfl,_,rfl,?_⟩;by_cases hz:qg rs (N:Nat)=0
    .refine jQ (br (by rw[hz])) ?_;refine dW 4 rfl "d" "d" (λy hy=>?_);refine zaQ (lo:=0) (n:=4) (λk ay H'=>∃u0,ay=[u0,some (.ref b),some (.ref ca)]/\zq H12 H'/\H' y=some (.lst [])) (dD _ rfl (zc hy) zb) ?_ ?_
     .refine λk ay a1 hk=>fu λu0 z0 l J=>?_;subst z0;rw[show (0:Int)+(k:Nat)=((k:Nat):Int) by lia];refine⟨_,rfl,_,rfl,_,rfl,b,d6,rs,(N:Nat),k,_,rfl,aM.mono l,R,sm,aB,N0,(λ_ aO Y=>(dB (.str "laying") (.str "laying") (.str _) (.str _) ⟨"q","q","q"⟩ ⟨_,rfl,qw "q" ⟨_,rfl,l.trans Y,Y _ _ J⟩⟩)),?_⟩;have ik:k=0\/k=1\/k=2\/k=3:="a"
      rcases ik with rfl | rfl | rfl | rfl
      .exact .inl ⟨rfl,hz⟩
      .exact .inr (.inl ⟨rfl,λh=>absurd hz h⟩)
      .exact .inr (.inr (dB ca c rfl (l _ _ p) I (.inl ⟨rfl,λh=>absurd hz h⟩)))
      .exact .inr (.inr (dB ca c rfl (l _ _ p) I (.inr ⟨rfl,λh=>absurd hz h⟩)))
     refine λay a1=>fu λu0 z0 l J=>?_;subst z0;refine⟨Qu,λy0 aX=>?_⟩;have aH:=zc (o:=.lst []) aX;exact dB (.list []) (.list []) (.lst (SqL.of (aH _ _ J)) .nil) (.lst (SqL.of zb) .nil) ⟨rfl,rfl,"d"⟩ ⟨_,rfl,qw "q" (eZ _ _ _ _ _ rfl ((j.trans l).trans aH))⟩
    .refine qw (bg λh=>hz (V.int.inj h)) ?_;refine fF (λsd o h1 h2 h3 b3 h5=>?_) (bf c I);have u:=j _ _ a4;have a8:=j _ _ a7;have r:(e.map V.str).length=e.length:=ZB _;refine⟨_,rfl,ca,_,0,_,rfl,rfl,SqT.of p,rfl,_,rfl,l1,_,rfl,.inl (SqL.of u),_,_,rfl,rfl,.inr (dG _ rfl ?_)⟩;rw[r,h1];refine⟨_,rfl,ca,_,0,_,rfl,rfl,SqT.of p,rfl,_,rfl,_,rfl,l1,_,rfl,.inl (SqL.of u),_,_,rfl,rfl,_,_,rfl,rfl,zef "a" (by rw[r];lia),_,_,rfl,rfl,?_⟩;rw[r,h2];refine⟨_,rfl,ca,_,1,_,rfl,rfl,SqT.of p,rfl,Jm,λt ht=>?_⟩;rw[h3];have ae:=zc (o:=.tup [.int (o.1:Nat),.int (o.2:Nat)]) ht;have aW:upd H12 t (.tup [.int (o.1:Nat),.int (o.2:Nat)]) t=some (.tup [.int (o.1:Nat),.int (o.2:Nat)]):=zb;have l:=j.trans ae;have am:=ae _ _ p;generalize upd H12 t (.tup [.int (o.1:Nat),.int (o.2:Nat)])=a1 at *
     refine⟨_,rfl,_,rfl,_,rfl,_,rfl,_,rfl,l1,l2,e,g,N,sd,.ref t,zM rs (N:Nat) c,rfl,ae _ _ u,ae _ _ a8,Ra,Rb,aF,aG,"a",.inr (dM t o rfl aW h5),λaO Y=>?_⟩;have O:=l.trans Y;have G:=Y _ _ am;refine⟨_,rfl,_,rfl,b,d6,ca,rs,(N:Nat),c,rfl,ag.mono O,R,sm,N0,G,I,λbo aa=>⟨_,rfl,rfl,_,rfl,qw (zgF rfl) ?_⟩⟩;have an:=aa _ _ G;have aa:=O.trans aa;exact⟨_,rfl,_,rfl,_,rfl,_,rfl,b,d6,ca,rs,(N:Nat),c,rfl,ag.mono aa,R,sm,aB,N0,hz,an,I,λbp be=>(dG true rfl (YW (eZ _ _ _ _ _ rfl (aa.trans be))))⟩
  .refine λσ az=>fB λao ap aq ar=>fq λau z0 ab=>?_;subst z0;exact q _
def zrw (T:Txt mg)(j:qC K mg "StoneError" jai)(l:qC K mg "TooGreat" jaj)(d:qC K mg "NoLaying" jad)(a:qC K mg "NoBoard" jaa)(c:qC K mg "NoCount" jac)(b:qC K mg "NoCell" jab)(i:qC K mg "NoText" jah)(g:qC K mg "NoRow" jaf)(e:qC K mg "NoNumber" jae)(h:qC K mg "NoTable" jag)(m:Facts K jad jai jaj jad jaa jac jab jah jaf jae jag false true)(Z:Prog K mg){f:Addr}{fd:Xz}(D:zm K mg "law" ze5 ["_law_script"] f fd):zT P w K mg base CX0 13 f fd ["_law_script"] (zic K) :=
 zpq T Z ⟨j,l,d,a,c,b,i,g,e,h,m⟩ D
def all_mk {l:Pw}{w:W5}{K:X0}{h:Heap}{mg:Str->Option Y1}{fa:Addr}(X:K.In h)(G:h.Ns XO mg)(b:mg "law"=some (.ref fa))(A:Zs.Facts K):∃fd:Xz,(∀(s:X8) (v:Y1),Ot s fd ⟨[v],[]⟩ [("_law_script",v)])/\∀base:Heap,K.In base->base.Ns XO mg->zT l.prog w K mg base CX0 13 fa fd ["_law_script"] (zic K):=by
 obtain⟨a2,JC,a3,Zu,YJ,Q5,a9,a4,aN,JD,JE,yx,yQ,YK,Q6,xR,Q7,JF,Q8,a5,xT,aA,YL,yh,JG,aB,YM,jI,aC,a6,JH,aF,Zv,Zw,xU,aD,xV,Zx,YN,Zy,Q9,Zz,xW,JI,YO,YQ,JJ,yy,yi,aO,JK,aP,aG,aH,a7,ZA,aQ,JL,aR,aI,aS,aT,aE,aU,a8,aJ,aK,aM,⟨_,xX⟩,⟨_,yR⟩,⟨_,yS⟩,⟨jai,jaj,jad,jaa,jac,jab,jah,jaf,jae,jag,u,x,ay,av,ax,aw,r,a1,az,q,O,Q,I,B,H,E,N,L,J,M,U,Y,d,g,i,j,m,n,o,p,aa,ab,ac,ae,af,ag,ah⟩⟩:=A;revert aO;refine fB λf oc od an=>fB λsl kV dc pm=>fm λcd ct a l0 c k=>?_;have e:=b.symm.trans (Wh X G a);cases e;have T:Txt mg:=⟨WH X G JK,WH X G aP,WH X G aG,WH X G aH,WH X G a7,WH X G ZA,WH X G aQ,WH X G JL,WH X G aR,WH X G aI,WH X G aS,WH X G aT,WH X G aE,WH X G aU,WH X G a8,WH X G aJ,WH X G aK,WH X G aM,⟨_,Wh X G xX⟩,⟨_,Wh X G yR⟩,⟨_,Wh X G yS⟩⟩;have Z:Prog K mg:=⟨a2.at X G,JC.at X G,a3.at X G,Zu.at X G,YJ.at X G,Q5.at X G,a9.at X G,a4.at X G,aN.at X G,JD.at X G,JE.at X G,yx.at X G,yQ.at X G,YK.at X G,Q6.at X G,xR.at X G,Q7.at X G,JF.at X G,Q8.at X G,a5.at X G,xT.at X G,aA.at X G,YL.at X G,yh.at X G,JG.at X G,aB.at X G,YM.at X G,jI.at X G,aC.at X G,a6.at X G,JH.at X G,aF.at X G,Zv.at X G,Zw.at X G,xU.at X G,aD.at X G,xV.at X G,Zx.at X G,YN.at X G,Zy.at X G,Q9.at X G,Zz.at X G,xW.at X G,JI.at X G,YO.at X G,YQ.at X G,JJ.at X G (λ_ _ _ _ _ _=>us5 λ_ _ _ _ _=>rfl),yy.at X G,yi.at X G⟩;have F:=zlT (st:=ze5) l0 c k;have D:zm K mg "law" ze5 ["_law_script"] _ _:=⟨F,Wh X G a,F.binds (ps:=["_law_script"]) (λ_ _ _ _ _ _=>us1 λ_=>rfl)⟩;have ar:qC K mg "StoneError" jai:=⟨Wh X G u,O⟩;have au:qC K mg "TooGreat" jaj:=⟨Wh X G x,Q⟩;have al:qC K mg "NoLaying" jad:=⟨Wh X G ay,I⟩;have ai:qC K mg "NoBoard" jaa:=⟨Wh X G av,B⟩;have ak:qC K mg "NoCount" jac:=⟨Wh X G ax,H⟩;have aj:qC K mg "NoCell" jab:=⟨Wh X G aw,E⟩;have aq:qC K mg "NoText" jah:=⟨Wh X G r,N⟩;have ao:qC K mg "NoRow" jaf:=⟨Wh X G a1,L⟩;have am:qC K mg "NoNumber" jae:=⟨Wh X G az,J⟩;have ap:qC K mg "NoTable" jag:=⟨Wh X G q,M⟩;have FL:Facts K jad jai jaj jad jaa jac jab jah jaf jae jag false true:=⟨⟨U,Y,d,g,i,j⟩,m,n,o,p,aa,ab,ac,ae,af,ag,ah⟩;exact⟨_,λs v=>.of_eq rfl,λbase _ _=>zrw T ar au al ai ak aj aq ao am ap FL Z D⟩
def walk {l:Pw}{q:Xv}{loose:AE}{XP:(Str->Option Y1)->Heap->Prop}{YP:W5->Heap->Prop}{d:DefRec}{K:Of->X0}(j:l.most=some 63)(b:d.params.defaults=[])
  (g:∀(w:W5) (h:Heap),YP w h->(K w.params).In h)
  (F:∀(w:W5) (mg:Str->Option Y1) (c:Addr) (h:Heap),(K w.params).In h->h.Ns XO mg->mg d.name=some (.ref c) ->
   ∃fd:Xz,(∀(s:X8) (u:Y1),Ot s fd ⟨[u],[]⟩ [("_law_script",u)])/\∀base:Heap,(K w.params).In base->base.Ns XO mg->zT l.prog w (K w.params) mg base CX0 13 c fd ["_law_script"] (zic (K w.params))) :
  OI q loose XP YP l.row.toRowW d [] (λf vs=>PySem.call f vs) :=
 L2.zjJ (n:=63) (k:=13) (x:="_law_script") (CX:=λ_=>CX0) (sp:=λw=>zic (K w.params)) j "d" b ⟨rfl,"d","d"⟩ g F (λ_ _ a m i _ e=>⟨a,m,rfl,e,i,λ_=>rfl⟩) λ_ _ _ _ _ z=>z
end K91
open PySem PySem.W PyProof.Rows
set_option maxRecDepth 100000 in
set_option maxHeartbeats 0 in
theorem PySem.Challenge.cw_stonelay_k91_whole_two_boards_parted_holds : PySem.Challenge.rw_stonelay_k91_whole_two_boards_parted.Holds := by
 refine Zs.early λ{q XP YP d K} hdf hY hn F=>?_;refine K91.walk (l:=PySem.Challenge.rw_stonelay_k91_whole_two_boards_parted) rfl hdf hY λw mg fa h KX G hmg=>?_;rw[hn]at hmg;exact K91.all_mk KX G hmg (F w)